import PyProof.Rows.All
import Wide.All
import OpenK.AllK
import Wide.FinOn
import Lean
import PyProof.EqAt
import PyProof.EqKinds
import PyProof.TupleCall
import PyProof.NeKinds
import PyProof.FactsAll.set_1
import PyProof.FactsAll.dict_4
import KE.KRevSl
import PySem.Challenge.RW_meetdesks_k14_what_is_known
set_option Elab.async false
set_option linter.all false
set_option maxRecDepth 100000
namespace L2
open PySem PySem.Spec PyProof.Rows
abbrev Key := Sum Int Str
def wF : Key -> Value -> Bool
  | .inl k, v => Value.isInt k v
  | .inr x, v => Value.isStrOf x v
def zpP (w : World) : Key -> Int
  | .inl k => hashInt k
  | .inr x => hashStr w x
theorem cU : ∀ {k : Key} {v : Value}, wF k v = true -> (∃ i t, k = Sum.inl i /\ v = Value.int i t) \/ (∃ x t, k = Sum.inr x /\ v = Value.str x t)
  | .inl i, v, h => by
    obtain ⟨t, e⟩ := Value.isInt_shape (k := i) (v := v) h
    exact .inl ⟨i, t, rfl, e⟩
  | .inr x, v, h => by
    obtain ⟨t, e⟩ := Value.isStrOf_shape (x := x) (v := v) h
    exact .inr ⟨x, t, rfl, e⟩
theorem zO (i : Int) (t : Tok) : wF (.inl i) (.int i t) = true := by simp [wF, Value.isInt]
theorem xY (x : Str) (t : Tok) : wF (.inr x) (.str x t) = true := by simp [wF, Value.isStrOf]
theorem zlh (a b : Int) : decide ((Sum.inl a : Key) = Sum.inl b) = (a == b) := by
  by_cases e : a = b
  . subst e; simp
  . have h : ¬ (Sum.inl a : Key) = Sum.inl b := fun q => e (Sum.inl.inj q)
    rw [decide_eq_false h]
    exact (beq_eq_false_iff_ne.mpr e).symm
theorem zfw (a b : Str) : decide ((Sum.inr a : Key) = Sum.inr b) = decide (a = b) := by
  by_cases e : a = b
  . subst e; simp
  . have h : ¬ (Sum.inr a : Key) = Sum.inr b := fun q => e (Sum.inr.inj q)
    rw [decide_eq_false h, decide_eq_false e]
theorem zho (a : Int) (b : Str) : decide ((Sum.inl a : Key) = Sum.inr b) = false := decide_eq_false (fun q => nomatch q)
theorem zkQ (a : Str) (b : Int) : decide ((Sum.inr a : Key) = Sum.inl b) = false := decide_eq_false (fun q => nomatch q)
def bH (prog : Program) (w : World) : PySem.KeyKind prog w Key where
  is := wF
  hash := zpP w
  inj := fun v a b ha hb => by
    rcases cU ha with ⟨i, t, rfl, rfl⟩ | ⟨x, t, rfl, rfl⟩
    . rcases cU hb with ⟨j, u, rfl, e⟩ | ⟨y, u, rfl, e⟩
      . injection e with e1 _; rw [e1]
      . exact nomatch e
    . rcases cU hb with ⟨j, u, rfl, e⟩ | ⟨y, u, rfl, e⟩
      . exact nomatch e
      . injection e with e1 _; rw [e1]
  byValue := fun k v h => by
    rcases cU h with ⟨i, t, rfl, rfl⟩ | ⟨x, t, rfl, rfl⟩ <;> rfl
  pyHash := fun hv h => by
    rcases cU hv with ⟨i, t, rfl, rfl⟩ | ⟨x, t, rfl, rfl⟩
    . exact wpAny_pyHash_int h
    . exact wpAny_pyHash_str h
  eqBool := fun hu hv h => by
    rcases cU hu with ⟨i, t, rfl, rfl⟩ | ⟨x, t, rfl, rfl⟩
    . rcases cU hv with ⟨j, u, rfl, rfl⟩ | ⟨y, u, rfl, rfl⟩
      . rw [zlh] at h; exact wpAny_eqBool_int h
      . rw [zho] at h; exact SeqAt.EqAt.int_str i t y u _ _ _ _ h
    . rcases cU hv with ⟨j, u, rfl, rfl⟩ | ⟨y, u, rfl, rfl⟩
      . rw [zkQ] at h; exact SeqAt.EqAt.str_int x t j u _ _ _ _ h
      . rw [zfw] at h; exact wpAny_eqBool_str h
  «strs» := fun k x t v h => by
    rcases cU h with ⟨i, u, rfl, e⟩ | ⟨y, u, rfl, e⟩
    . exact nomatch e
    . injection e with e1 _
      subst e1
      cases v <;> rfl
theorem tE (prog : Program) (w : World) (i : Int) (t : Tok) : (bH prog w).is (.inl i) (.int i t) = true := zO i t
theorem lK (prog : Program) (w : World) (x : Str) (t : Tok) : (bH prog w).is (.inr x) (.str x t) = true := xY x t
inductive V where
  | non | bl (b : Bool) | int (i : Int) | str (x : Str) | byt (b : Array UInt8) | flt (b : UInt64) | ref (a : Addr) | ty (n : String)
  deriving DecidableEq
def cH : V -> Value -> Prop
  | .non, u => u = Value.none
  | .bl b, u => u = Value.bool b
  | .int i, u => ∃ t, u = Value.int i t
  | .str x, u => ∃ t, u = Value.str x t
  | .byt b, u => ∃ t, u = Value.bytes b t
  | .flt b, u => ∃ t, u = Value.float b t
  | .ref a, u => u = Value.ref a
  | .ty n, u => u = Value.type n
abbrev cA : List V -> List Value -> Prop := Paired cH
theorem cA.length {xs : List V} {us : List Value} (r : cA xs us) : xs.length = us.length := Paired.length r
theorem cA.get : ∀ {xs : List V} {us : List Value} {i : Nat} {x : V}, cA xs us -> xs[i]? = some x -> ∃ u, us[i]? = some u /\ cH x u
  | _, _, _, _, .nil, e => by simp at e
  | _, _, 0, _, .cons r _, e => by simp at e; subst e; exact ⟨_, rfl, r⟩
  | _, _, i + 1, x, .cons _ t, e => by
    obtain ⟨u, h1, h2⟩ := cA.get (i := i) (x := x) t (by simpa using e)
    exact ⟨u, by simpa using h1, h2⟩
theorem cA.set {x : V} {u : Value} (r : cH x u) : ∀ {xs : List V} {us : List Value} (i : Nat), cA xs us -> cA (xs.set i x) (us.set i u)
  | _, _, _, .nil => .nil
  | _, _, 0, .cons _ t => .cons r t
  | _, _, i + 1, .cons q t => .cons q (cA.set r i t)
theorem cA.append {xs ys : List V} {us ws : List Value} (h : cA xs us) (s : cA ys ws) : cA (xs ++ ys) (us ++ ws) := by
  induction h with
  | nil => exact s
  | cons r t ih => exact .cons r ih
theorem cA.take : ∀ {xs : List V} {us : List Value} (n : Nat), cA xs us -> cA (xs.take n) (us.take n)
  | _, _, 0, _ => .nil
  | _, _, _ + 1, .nil => .nil
  | _, _, n + 1, .cons r t => .cons r (cA.take n t)
theorem cA.drop : ∀ {xs : List V} {us : List Value} (n : Nat), cA xs us -> cA (xs.drop n) (us.drop n)
  | _, _, 0, r => r
  | _, _, _ + 1, .nil => .nil
  | _, _, n + 1, .cons _ t => cA.drop n t
def oI : Option V -> Option Value -> Prop
  | some v, some u => cH v u
  | none, none => True
  | _, _ => False
def KV {κ : Type} : List (κ × V) -> List (κ × Value) -> Prop := Paired fun (p : κ × V) (q : κ × Value) => p.1 = q.1 /\ cH p.2 q.2
def kV : Key -> V
  | .inl i => .int i
  | .inr x => .str x
inductive HO where
  /-- a list -/
  | lst (xs : List V)
  /-- a tuple (never changes) -/
  | tup (xs : List V)
  /-- a dict whose keys are ints and texts; one whose keys are tuples of ints and texts (the empty one is both) -/
  | dK (kvs : List (Key × V)) | dT (kvs : List (List Key × V))
  /-- a set of ints: its members, its size -/
  | set (S : Int -> Bool) (n : Nat)
  /-- an instance of the class at C, its dict at dx, its attributes -/
  | ins (C dx : Addr) (fs : List (Str × V))
  /-- the dict of the instance at x -/
  | own (x : Addr)
  /-- the dict of an exception -/
  | xd (fs : List (Str × V))
  /-- a bound method, f of x -/
  | met (f x : Addr)
  /-- a range object lo, lo + 1, .. below hi -/
  | rng (lo hi : Int)
  /-- a thing that is known to the object (the script; a dict while a loop walks it): read, never written while it is so -/
  | frz (o : Obj) (u : HO)
  /-- a code object's table -/
  | tbl (ps : Array Value)
  /-- any other thing, by what is true of its one object (a def of one's own: zpM a S n := HO.ext fun h => ..) -/
  | ext (φ : Heap -> Prop)
abbrev Hp := Addr -> Option HO
def upd (H : Hp) (a : Addr) (o : HO) : Hp := fun b => if b = a then some o else H b
theorem aB {H : Hp} {a : Addr} {o : HO} : upd H a o a = some o := by unfold upd; rw [if_pos rfl]
theorem aH {H : Hp} {a b : Addr} {o : HO} (h : b ≠ a) : upd H a o b = H b := by unfold upd; rw [if_neg h]
theorem yU {H : Hp} {a : Addr} {o u : HO} : upd (upd H a o) a u = upd H a u := by
  funext b; unfold upd; split <;> rfl
theorem dW {H : Hp} {a b : Addr} {o u : HO} (h : H a = some o) (h' : H b = some u) (d : o ≠ u) : a ≠ b := by
  intro e; subst e; rw [h] at h'; exact d (Option.some.inj h')
theorem aF {H : Hp} {a b : Addr} {o : HO} (h : H a = some o) (h' : H b = none) : a ≠ b := by
  intro e; subst e; rw [h] at h'; cases h'
section
variable (P : Program) (w : World)
def cJ (H : Hp) (h : Heap) (a : Addr) : HO -> Prop
  | .lst xs => xs.length <= sizeLine /\ ∃ (its : List Value) (n : Nat), cA xs its /\ h.get? a = some { cls := .type "list", data := .seq its.toArray n }
  | .tup xs => xs.length <= sizeLine /\ ∃ its : List Value, cA xs its /\ IsTup h a its.toArray
  | .dK kvs => kvs.length <= sizeLine /\ (a == sysModules) = false /\ ∃ vs, KV kvs vs /\ h.DictOf (bH P w) a vs
  | .dT kvs => kvs.length <= sizeLine /\ (a == sysModules) = false /\ ∃ xs : List (List Key × Addr × Value),
      Paired (fun (p : List Key × V) (q : List Key × Addr × Value) => p.1 = q.1 /\ H q.2.1 = some (.tup (p.1.map kV)) /\ cH p.2 q.2.2) kvs xs /\
      ∃ o es ep, h.get? a = some o /\ o.ExactDict /\ o.data = .dict es ep /\ es.toList = xs.map (entryOfKey (tupleKind (bH P w))) /\ (xs.map (·.1)).Nodup
  | .set S n => h.SetOf (intKind P w) a S n
  | .ins C dx fs => H dx = some (.own a) /\ fs.length <= 1000 /\ dx ≠ a /\ h.get? a = some (W.instObj C dx) /\
      ∃ mA, h.Ns1 dx mA /\ (∀ f, oI (fs.lookup f) (mA f)) /\ PySem.Within mA (fs.map (·.1))
  | .own _ => ∃ o, h.get? a = some o
  | .xd fs => ∃ mA, h.Ns1 a mA /\ ∀ f, oI (fs.lookup f) (mA f)
  | .rng lo hi => ∃ t u v, h.get? a = some { cls := .type "range", data := .fields #[.int lo t, .int hi u, .int 1 v] }
  | .frz o u => h.get? a = some o /\ cJ H h a u
  | .tbl ps => h.get? a = some { cls := .none, data := .fields ps }
  | .met f x => h.get? a = some (PySem.W.methodObj (.ref f) (.ref x))
  | .ext φ => φ h /\ (∃ o, h.get? a = some o) /\ ∀ h1 h2 : Heap, φ h1 -> (∀ o, h1.get? a = some o -> h2.get? a = some o) -> φ h2
def HOk (H : Hp) (h : Heap) : Prop := ∀ a o, H a = some o -> cJ P w H h a o
end
section
variable {P : Program} {w : World} {H H' : Hp} {h h' : Heap} {a : Addr} {o : HO}
theorem cJ.lt (x : cJ P w H h a o) : a < h.objs.size := by
  cases o with
  | lst xs => obtain ⟨_, _, _, _, e⟩ := x; exact Heap.lt_size e
  | tup xs => obtain ⟨_, _, _, p⟩ := x; exact p.lt
  | dK kvs => obtain ⟨_, _, _, _, o, _, _, e, _⟩ := x; exact Heap.lt_size e
  | dT kvs => obtain ⟨_, _, _, _, o, _, _, e, _⟩ := x; exact Heap.lt_size e
  | set S n => obtain ⟨o, _, _, _, e, _⟩ := x; exact Heap.lt_size e
  | ins C dx fs => obtain ⟨_, _, _, e, _⟩ := x; exact Heap.lt_size e
  | own y => obtain ⟨_, e⟩ := x; exact Heap.lt_size e
  | xd fs => obtain ⟨_, ⟨_, _, _, e, _⟩, _⟩ := x; exact Heap.lt_size e
  | rng lo hi => obtain ⟨_, _, _, e⟩ := x; exact Heap.lt_size e
  | frz ob u => obtain ⟨e, _⟩ := x; exact Heap.lt_size e
  | tbl ps => exact Heap.lt_size (show h.get? a = some _ from x)
  | met f y => exact Heap.lt_size (show h.get? a = some _ from x)
  | ext φ => obtain ⟨_, ⟨_, e⟩, _⟩ := x; exact Heap.lt_size e
theorem Paired.mapP {α β : Type} {F G : α -> β -> Prop} {l₁ : List α} {l₂ : List β} (h : Paired F l₁ l₂) (f : ∀ a b, F a b -> G a b) : Paired G l₁ l₂ := by
  induction h with
  | nil => exact .nil
  | cons r t ih => exact .cons (f _ _ r) ih
theorem cJ.stay (x : cJ P w H h a o) (k : ∀ b u, (b = a \/ H b = some (.own a)) -> h.get? b = some u -> h'.get? b = some u)
    (ho : ∀ b, H b = some (.own a) -> H' b = some (.own a)) (ht : ∀ b xs, H b = some (.tup xs) -> H' b = some (.tup xs)) : cJ P w H' h' a o := by
  induction o with
  | lst xs => obtain ⟨z, its, n, r, e⟩ := x; exact ⟨z, its, n, r, k _ _ (.inl rfl) e⟩
  | tup xs => obtain ⟨z, its, r, ob, e, c⟩ := x; exact ⟨z, its, r, ob, k _ _ (.inl rfl) e, c⟩
  | dK kvs => obtain ⟨z, y, vs, r, ob, es, ep, e, c⟩ := x; exact ⟨z, y, vs, r, ob, es, ep, k _ _ (.inl rfl) e, c⟩
  | dT kvs =>
    obtain ⟨z, y, xs, r, ob, es, ep, e, c⟩ := x
    exact ⟨z, y, xs, Paired.mapP r fun p q z => ⟨z.1, ht _ _ z.2.1, z.2.2⟩, ob, es, ep, k _ _ (.inl rfl) e, c⟩
  | set S n => obtain ⟨ob, es, ep, t, e, c⟩ := x; exact ⟨ob, es, ep, t, k _ _ (.inl rfl) e, c⟩
  | ins C dx fs =>
    obtain ⟨d, z, ne, e, mA, ⟨od, es, ep, e2, c⟩, r⟩ := x
    exact ⟨ho _ d, z, ne, k _ _ (.inl rfl) e, mA, ⟨od, es, ep, k _ _ (.inr d) e2, c⟩, r⟩
  | own y => obtain ⟨ob, e⟩ := x; exact ⟨ob, k _ _ (.inl rfl) e⟩
  | xd fs => obtain ⟨mA, ⟨od, es, ep, e, c⟩, r⟩ := x; exact ⟨mA, ⟨od, es, ep, k _ _ (.inl rfl) e, c⟩, r⟩
  | rng lo hi => obtain ⟨t, u, v, e⟩ := x; exact ⟨t, u, v, k _ _ (.inl rfl) e⟩
  | frz ob u ih => obtain ⟨e, q⟩ := x; exact ⟨k _ _ (.inl rfl) e, ih q⟩
  | tbl ps =>
    have e : h.get? a = some { cls := .none, data := .fields ps } := x
    show h'.get? a = some { cls := .none, data := .fields ps }
    exact k a _ (.inl rfl) e
  | met f y =>
    have e : h.get? a = some (PySem.W.methodObj (.ref f) (.ref y)) := x
    show h'.get? a = some (PySem.W.methodObj (.ref f) (.ref y))
    exact k a _ (.inl rfl) e
  | ext φ => obtain ⟨p, ⟨o, e⟩, st⟩ := x; exact ⟨st _ _ p fun o q => k _ _ (.inl rfl) q, ⟨o, k _ _ (.inl rfl) e⟩, st⟩
theorem HOk.lt (x : HOk P w H h) (e : H a = some o) : a < h.objs.size := (x a o e).lt
theorem HOk.fresh (x : HOk P w H h) (e : h.objs.size <= a) : H a = none := by
  cases q : H a with
  | none => rfl
  | some u => exact absurd (Nat.lt_of_lt_of_le (x.lt q) e) (Nat.lt_irrefl _)
theorem HOk.kept (x : HOk P w H h) (k : ∀ b u, h.get? b = some u -> h'.get? b = some u) : HOk P w H h' := fun a o e =>
  (x a o e).stay (fun b u _ q => k b u q) (fun _ q => q) fun _ _ q => q
theorem HOk.laid (x : HOk P w H h) (k : ∀ b u, h.get? b = some u -> h'.get? b = some u) (hp : h.objs.size <= a) (new : cJ P w (upd H a o) h' a o) : HOk P w (upd H a o) h' := fun b u e => by
  have hn := x.fresh hp
  by_cases hb : b = a
  . subst hb; rw [aB] at e; cases e; exact new
  . rw [aH hb] at e
    exact (x b u e).stay (fun c v _ q => k c v q) (fun c q => by rw [aH (aF q hn)]; exact q) fun c xs q => by rw [aH (aF q hn)]; exact q
end
def Rd (H : Hp) (a : Addr) (u : HO) : Prop := H a = some u \/ ∃ o, H a = some (.frz o u)
theorem Rd.ok {P : Program} {w : World} {H : Hp} {h : Heap} {a : Addr} {u : HO} (r : Rd H a u) (x : HOk P w H h) : cJ P w H h a u := by
  rcases r with r | ⟨o, r⟩
  . exact x a u r
  . obtain ⟨_, q⟩ := x a _ r
    exact q
def Mut : Option HO -> Prop
  | some (.lst _) => True
  | some (.dK _) => True
  | some (.dT _) => True
  | some (.set _ _) => True
  | some (.ins _ _ _) => True
  | some (.ext _) => True
  | _ => False
section
variable {P : Program} {w : World} {H : Hp} {h h' : Heap} {x e : Addr} {o' : HO}
theorem HOk.write (ok : HOk P w H h) (mu : Mut (H x)) (he : e = x \/ H e = some (.own x)) (k : ∀ b u, b ≠ e -> h.get? b = some u -> h'.get? b = some u) (heo : ∃ u, h'.get? e = some u)
    (new : cJ P w (upd H x o') h' x o') : HOk P w (upd H x o') h' := fun b u q => by
  have nown : ∀ c y, H c = some (.own y) -> c ≠ x := fun c y r z => by subst z; rw [r] at mu; exact mu
  have ntup : ∀ c xs, H c = some (.tup xs) -> c ≠ x := fun c xs r z => by subst z; rw [r] at mu; exact mu
  by_cases hb : b = x
  . subst hb; rw [aB] at q; cases q; exact new
  . rw [aH hb] at q
    by_cases hbe : b = e
    . have q' : H b = some (.own x) := by
        rcases he with z | z
        . exact absurd (hbe.trans z) hb
        . rw [hbe]; exact z
      rw [q] at q'; cases q'
      obtain ⟨v, hv⟩ := heo
      exact ⟨v, by rw [hbe]; exact hv⟩
    . refine (ok b u q).stay (fun c v hc r => k c v ?_ r) (fun c r => by rw [aH (nown c b r)]; exact r) fun c xs r => by rw [aH (ntup c xs r)]; exact r
      rcases hc with rfl | hc
      . exact hbe
      . rintro rfl
        rcases he with z | z
        . exact nown c b hc z
        . rw [hc] at z; cases z; exact hb rfl
end
structure Un (fs ex : List Addr) (H H' : Hp) (h h' : Heap) : Prop where
  keep : ∀ b o, h.get? b = some o -> H b = none -> b ∉ fs -> b ∉ ex -> h'.get? b = some o
  slot : ∀ b o, h.get? b = some o -> H b = none -> b ∈ fs -> b ∉ ex -> ∃ sl, h'.get? b = some { o with slots := sl }
  free : ∀ b o, h.get? b = some o -> H b = none -> b ∉ ex -> H' b = none
  there : ∀ b o, h.get? b = some o -> b ∉ ex -> ∃ o', h'.get? b = some o'
  tups : ∀ b xs, H b = some (.tup xs) -> H' b = some (.tup xs)
  frzs : ∀ b o u, H b = some (.frz o u) -> H' b = some (.frz o u)
  tbls : ∀ b ps, H b = some (.tbl ps) -> ∃ more, H' b = some (.tbl (ps ++ more))
section
variable {fs fs' ex ex' : List Addr} {H H1 H2 : Hp} {h h1 h2 h' : Heap} {a x e : Addr} {o : HO}
theorem Un.any (u : Un fs ex H H1 h h1) {b : Addr} {ob : Obj} (q : h.get? b = some ob) (n : H b = none) (hx : b ∉ ex) : ∃ sl, h1.get? b = some { ob with slots := sl } := by
  by_cases hb : b ∈ fs
  . exact u.slot b ob q n hb hx
  . exact ⟨ob.slots, u.keep b ob q n hb hx⟩
theorem Un.kept (k : ∀ b u, h.get? b = some u -> h'.get? b = some u) : Un fs ex H H h h' :=
  ⟨fun b ob q _ _ _ => k b ob q, fun b ob q _ _ _ => ⟨ob.slots, k b ob q⟩, fun _ _ _ n _ => n, fun b ob q _ => ⟨ob, k b ob q⟩, fun _ _ q => q, fun _ _ _ q => q, fun _ ps q => ⟨#[], by rw [q]; simp⟩⟩
theorem Un.refl : Un fs ex H H h h := Un.kept fun _ _ q => q
theorem Un.laid (k : ∀ b u, h.get? b = some u -> h'.get? b = some u) (hp : h.objs.size <= a) (hn : H a = none) : Un fs ex H (upd H a o) h h' where
  keep := fun b u q _ _ _ => k b u q
  slot := fun b u q _ _ _ => ⟨u.slots, k b u q⟩
  free := fun b u q n _ => by rw [aH (Nat.ne_of_lt (Nat.lt_of_lt_of_le (Heap.lt_size q) hp))]; exact n
  there := fun b u q _ => ⟨u, k b u q⟩
  tups := fun b xs q => by rw [aH (aF q hn)]; exact q
  frzs := fun b u xs q => by rw [aH (aF q hn)]; exact q
  tbls := fun b ps q => ⟨#[], by rw [aH (aF q hn), q]; simp⟩
theorem Un.write (mu : Mut (H x)) (he : e = x \/ H e = some (.own x)) (k : ∀ b u, b ≠ e -> h.get? b = some u -> h'.get? b = some u) (heo : ∃ u, h'.get? e = some u) : Un fs ex H (upd H x o) h h' := by
  have hx : ∀ b, H b = none -> b ≠ x := fun b n z => by subst z; rw [n] at mu; exact mu
  have hb : ∀ b, H b = none -> b ≠ e := fun b n z => by
    subst z
    rcases he with r | r
    . exact hx b n r
    . rw [n] at r; cases r
  have hm : ∀ b u, H b = some u -> ¬ Mut (some u) -> b ≠ x := fun b u q nm z => by subst z; rw [q] at mu; exact nm mu
  refine ⟨fun b u q n _ _ => k b u (hb b n) q, fun b u q n _ _ => ⟨u.slots, k b u (hb b n) q⟩, fun b u q n _ => by rw [aH (hx b n)]; exact n, fun b u q _ => ?_,
    fun b xs q => by rw [aH (hm b _ q fun z => z)]; exact q, fun b u xs q => by rw [aH (hm b _ q fun z => z)]; exact q, fun b ps q => ⟨#[], by rw [aH (hm b _ q fun z => z), q]; simp⟩⟩
  by_cases hbe : b = e
  . subst hbe; exact heo
  . exact ⟨u, k b u hbe q⟩
end
def trk (h : Heap) (H : Hp) : List Addr := (List.range h.objs.size).filter fun a => (H a).isSome
def zba (h : Heap) (H : Hp) : Heap := PySem.W.hideAll h (trk h H)
theorem yZ (h : Heap) (H : Hp) : (zba h H).objs.size = h.objs.size := PySem.W.hideAll_size _ _
theorem zaF {h : Heap} {H : Hp} {b : Addr} {o : Obj} (e : h.get? b = some o) (n : H b = none) : (zba h H).get? b = some o :=
  PySem.W.hideAll_get _ e fun hm => by
    have q : (H b).isSome = true := (List.mem_filter.mp hm).2
    rw [n] at q; simp at q
theorem zdG {h : Heap} {H : Hp} {b : Addr} {o : Obj} (e : (zba h H).get? b = some o) : h.get? b = some o /\ H b = none := by
  have e' : h.get? b = some o := PySem.W.of_hideAll (trk h H) e
  refine ⟨e', ?_⟩
  cases q : H b with
  | none => rfl
  | some x =>
    have hm : b ∈ trk h H := List.mem_filter.mpr ⟨List.mem_range.mpr (Heap.lt_size e'), by simp [q]⟩
    have z : (zba h H).get? b = none := PySem.W.hideAll_none (trk h H) hm
    rw [z] at e; cases e
def zeO (g h : Heap) (L : Addr) : List (Addr × Obj) := (List.range h.objs.size).filterMap fun a => if a = L \/ (g.get? a).isSome = true then none else (h.get? a).map fun o => (a, o)
def rest (g h : Heap) (L d : Addr) : List (Addr × Obj) := (zeO g h L).filter fun p => decide (p.1 ≠ d)
structure Mod (K : W.Frag) (mg : Str -> Option Value) (base : Heap) : Prop where
  kin : K.In base
  glob : base.Ns mainGlobals mg
  blt : ∃ mb, base.Ns builtinsNs mb /\ ∀ x : Str, x ≠ "__name__" -> mb x = bootBuiltins x
  nolimit : base.NoLimit
structure Cx where
  prog : Program
  w : World
  K : W.Frag
  mg : Str -> Option Value
  base : Heap
  A : Around
  N : List Str
  s₀ : Shared
  H₀ : Hp
  env : Env
  outer : List Env
  stack : List Env
  ex : List Addr
  fn : Str -> Bool
  calm : Bool
  pn : List (Addr × Obj)
  xe : Value -> Shared -> Prop
def frs (l : List Env) : List Addr := l.filterMap (·.frame)
abbrev Cx.fs (X : Cx) : List Addr := frs X.outer
def Vis (sc : Scope) (x : Str) : Prop := sc.names.lookup x = some .local \/ sc.names.lookup x = some .cell \/ sc.names.lookup x = some .free
def Loc (sc : Scope) (x : Str) : Prop := sc.names.lookup x = some .local \/ sc.names.lookup x = some .cell
def zpY (env : Env) (h : Heap) (m : Str -> Option Value) (x : Str) (u : Value) : Prop :=
  (env.kindOf x = some .local /\ m x = some u) \/ ((env.kindOf x = some .cell \/ env.kindOf x = some .free) /\ ∃ c, env.cells.lookup x = some c /\ h.IsCell c (some u))
structure Cx.Ok (X : Cx) : Prop where
  mod : Mod X.K X.mg X.base
  kind : X.env.scope.kind = .function
  glob : X.env.globals = mainGlobals
  blt : X.env.builtins = builtinsNs
  above : X.s₀.heap.objs.size <= X.env.locals
  inj : ∀ x y c, X.env.cells.lookup x = some c -> X.env.cells.lookup y = some c -> x = y
  has : ∀ x, (X.env.kindOf x = some .cell \/ X.env.kindOf x = some .free) -> ∃ c, X.env.cells.lookup x = some c
  cab : ∀ x c, X.fn x = true -> X.env.cells.lookup x = some c -> X.s₀.heap.objs.size <= c
  hd : X.calm = true -> X.A.handled = none
  frames : X.A.frames = some X.stack
  stk : X.stack = X.outer \/ (X.stack = X.env :: X.outer /\ X.env.frame = some X.env.locals)
  exf : ∀ b ∈ X.ex, b ≠ X.env.locals /\ ∀ x c, X.env.cells.lookup x = some c -> c ≠ b
  bs : ∀ b o, X.base.get? b = some o -> X.s₀.heap.get? b = some o /\ X.H₀ b = none
  bsz : X.base.objs.size <= X.s₀.heap.objs.size
  noex : ∀ b o, X.base.get? b = some o -> b ∉ X.ex
  exfs : ∀ b ∈ X.ex, b ∉ X.fs
  funs : X.s₀.heap.FunFrames X.base X.outer
  frf : ∀ b ∈ X.fs, X.H₀ b = none
structure Inv (X : Cx) (pins : List (Addr × Obj)) (σ : List (Option V)) (H : Hp) (s : Shared) : Prop where
  ok : X.Ok
  os : s.os = X.s₀.os
  bare : AllBare s.gens
  base : Un X.fs X.ex X.H₀ H X.s₀.heap s.heap
  loc : ∃ m, s.heap.Ns X.env.locals m /\ ∀ (i : Nat) (x : Str) (v : V), X.N[i]? = some x -> σ[i]? = some (some v) -> Vis X.env.scope x -> ∃ u, cH v u /\ zpY X.env s.heap m x u
  cell : ∀ x c, X.env.cells.lookup x = some c -> ∃ v, s.heap.IsCell c v
  free : H X.env.locals = none
  freeC : ∀ x c, X.env.cells.lookup x = some c -> H c = none
  pin : ∀ p ∈ X.pn ++ pins, s.heap.get? p.1 = some p.2 /\ H p.1 = none /\ p.1 ≠ X.env.locals /\ p.1 ∉ X.fs /\ ∀ v, p.2.data ≠ .cell v
  hok : HOk X.prog X.w H s.heap
  len : σ.length = X.N.length
section
variable {X : Cx} {pins : List (Addr × Obj)} {σ : List (Option V)} {H H' : Hp} {s : Shared} {h' : Heap}
theorem Cx.Ok.nofr (ok : X.Ok) {b : Addr} {o : Obj} (e : X.base.get? b = some o) : b ∉ X.fs := fun hb => by
  have := (ok.funs.mem hb).1
  rw [e] at this; cases this
theorem Inv.bs (I : Inv X pins σ H s) : ∀ b o, X.base.get? b = some o -> s.heap.get? b = some o /\ H b = none := fun b o e =>
  ⟨I.base.keep b o (I.ok.bs b o e).1 (I.ok.bs b o e).2 (I.ok.nofr e) (I.ok.noex b o e), I.base.free b o (I.ok.bs b o e).1 (I.ok.bs b o e).2 (I.ok.noex b o e)⟩
theorem Inv.bk (I : Inv X pins σ H s) : ∀ b o, X.base.get? b = some o -> s.heap.get? b = some o := fun b o e => (I.bs b o e).1
theorem Inv.mod (I : Inv X pins σ H s) : Mod X.K X.mg X.base := I.ok.mod
theorem Inv.kIn (I : Inv X pins σ H s) : X.K.In s.heap := I.ok.mod.kin.keeps I.bk
theorem Inv.lt (I : Inv X pins σ H s) : X.env.locals < s.heap.objs.size := let ⟨_, hn, _⟩ := I.loc; hn.lt
theorem Inv.sz (I : Inv X pins σ H s) : X.s₀.heap.objs.size <= s.heap.objs.size := Nat.le_trans I.ok.above (Nat.le_of_lt I.lt)
theorem Inv.nofs (I : Inv X pins σ H s) {a : Addr} (h : s.heap.objs.size <= a) : a ∉ X.fs := fun hb => by
  obtain ⟨_, o, ho, _⟩ := I.ok.funs.mem hb
  exact absurd (Nat.lt_of_lt_of_le (Heap.lt_size ho) (Nat.le_trans I.sz h)) (Nat.lt_irrefl _)
theorem Inv.cne (I : Inv X pins σ H s) : ∀ x c, X.env.cells.lookup x = some c -> c ≠ X.env.locals := fun x c e z => by
  obtain ⟨v, o, ho, hd⟩ := I.cell x c e
  obtain ⟨m, ⟨o', es, ep, ho', hd', _⟩, _⟩ := I.loc
  rw [z, ho'] at ho; cases ho; rw [hd'] at hd; cases hd
theorem Inv.funs (I : Inv X pins σ H s) : s.heap.FunFrames X.base X.outer := by
  have all : ∀ (l : List Env), (∀ b ∈ frs l, b ∈ X.fs) -> X.s₀.heap.FunFrames X.base l -> s.heap.FunFrames X.base l := by
    intro l
    induction l with
    | nil => intro _ _; trivial
    | cons env r ih =>
      intro hs hl
      obtain ⟨hk, ⟨L, o, hf, hn, ho, hd⟩, hr⟩ := hl
      have hL : L ∈ X.fs := hs L (by unfold frs; rw [List.filterMap_cons, hf]; exact List.mem_cons_self)
      obtain ⟨sl, e⟩ := I.base.slot L o ho (I.ok.frf L hL) hL fun z => I.ok.exfs L z hL
      exact ⟨hk, ⟨L, _, hf, hn, e, hd⟩, ih (fun b hb => hs b (by unfold frs; rw [List.filterMap_cons, hf]; exact List.mem_cons_of_mem _ hb)) hr⟩
  exact all X.outer (fun _ hb => hb) I.ok.funs
theorem Inv.stack (I : Inv X pins σ H s) : s.heap.FunFrames X.base X.stack := by
  rcases I.ok.stk with e | ⟨e, hf⟩
  . rw [e]; exact I.funs
  . rw [e]
    obtain ⟨m, hn, _⟩ := I.loc
    refine .cons (by rw [I.ok.kind]; decide) hf hn ?_ I.funs
    exact Heap.get?_none_of_le (Nat.le_trans I.ok.bsz I.ok.above)
theorem Inv.stkSub (I : Inv X pins σ H s) : ∀ b ∈ frs X.stack, b ∈ X.env.locals :: X.fs := fun b hb => by
  rcases I.ok.stk with e | ⟨e, hf⟩
  . rw [e] at hb; exact List.mem_cons_of_mem _ hb
  . rw [e] at hb
    unfold frs at hb
    rw [List.filterMap_cons, hf] at hb
    exact hb
theorem Inv.stkFree (I : Inv X pins σ H s) : ∀ b ∈ frs X.stack, H b = none := fun b hb => by
  rcases List.mem_cons.mp (I.stkSub b hb) with e | hb
  . rw [e]; exact I.free
  . obtain ⟨_, o, ho, _⟩ := I.ok.funs.mem hb
    exact I.base.free b o ho (I.ok.frf b hb) fun z => I.ok.exfs b z hb
theorem Inv.step {g' : Array GenState} {t' : Nat} {d' : Drawn} {ch : List Addr} (I : Inv X pins σ H s)
    (hch : ∀ b ∈ ch, (b ∈ X.ex \/ X.s₀.heap.objs.size <= b) /\ b ≠ X.env.locals /\ (∀ x c, X.env.cells.lookup x = some c -> c ≠ b) /\ ∀ p ∈ X.pn ++ pins, p.1 ≠ b)
    (keep : ∀ b o, b ≠ X.env.locals -> b ∉ X.fs -> b ∉ ch -> s.heap.get? b = some o -> H b = none -> h'.get? b = some o)
    (slot : ∀ b o, b ≠ X.env.locals -> b ∈ X.fs -> b ∉ ch -> s.heap.get? b = some o -> H b = none -> ∃ sl, h'.get? b = some { o with slots := sl }) (free : ∀ b o, b ∉ ch -> s.heap.get? b = some o -> H b = none -> H' b = none)
    (there : ∀ b o, b ∉ ch -> s.heap.get? b = some o -> ∃ o', h'.get? b = some o')
    (tups : ∀ b xs, H b = some (.tup xs) -> H' b = some (.tup xs)) (frzs : ∀ b o u, H b = some (.frz o u) -> H' b = some (.frz o u)) (tbls : ∀ b ps, H b = some (.tbl ps) -> ∃ more, H' b = some (.tbl (ps ++ more)))
    (ns : ∀ m, s.heap.Ns X.env.locals m -> h'.Ns X.env.locals m) (hok : HOk X.prog X.w H' h') (hg : AllBare g') :
    Inv X pins σ H' { s with heap := h', gens := g', drawn := d', toks := t' } := by
  have neL : ∀ b o, X.s₀.heap.get? b = some o -> b ≠ X.env.locals := fun b o e => Nat.ne_of_lt (Nat.lt_of_lt_of_le (Heap.lt_size e) I.ok.above)
  have neC : ∀ b o, X.s₀.heap.get? b = some o -> b ∉ X.ex -> b ∉ ch := fun b o e hx hb => by
    rcases (hch b hb).1 with z | z
    . exact hx z
    . exact absurd (Nat.lt_of_lt_of_le (Heap.lt_size e) z) (Nat.lt_irrefl _)
  have cellK : ∀ x c, X.env.cells.lookup x = some c -> ∀ v, s.heap.IsCell c v -> h'.IsCell c v := fun x c e v ⟨o, ho, hd⟩ => by
    have nch : c ∉ ch := fun z => (hch c z).2.2.1 x c e rfl
    by_cases hc : c ∈ X.fs
    . obtain ⟨sl, q⟩ := slot c o (I.cne x c e) hc nch ho (I.freeC x c e)
      exact ⟨_, q, hd⟩
    . exact ⟨o, keep c o (I.cne x c e) hc nch ho (I.freeC x c e), hd⟩
  refine ⟨I.ok, I.os, hg, ⟨fun b o e n hb hx => ?_, fun b o e n hb hx => ?_, fun b o e n hx => ?_, fun b o e hx => ?_, fun b xs e => tups b xs (I.base.tups b xs e), fun b o xs e => frzs b o xs (I.base.frzs b o xs e), fun b ps e => ?_⟩, ?_, fun x c e => ?_, ?_, fun x c e => ?_, fun p hp => ?_, hok, I.len⟩
  . exact keep b o (neL b o e) hb (neC b o e hx) (I.base.keep b o e n hb hx) (I.base.free b o e n hx)
  . obtain ⟨sl, e1⟩ := I.base.slot b o e n hb hx
    obtain ⟨sl', e2⟩ := slot b _ (neL b o e) hb (neC b o e hx) e1 (I.base.free b o e n hx)
    exact ⟨sl', e2⟩
  . obtain ⟨o', e1⟩ := I.base.there b o e hx
    exact free b o' (neC b o e hx) e1 (I.base.free b o e n hx)
  . obtain ⟨o', e1⟩ := I.base.there b o e hx
    exact there b o' (neC b o e hx) e1
  . obtain ⟨m1, e1⟩ := I.base.tbls b ps e
    obtain ⟨m2, e2⟩ := tbls b _ e1
    exact ⟨m1 ++ m2, by rw [e2, Array.append_assoc]⟩
  . obtain ⟨m, hn, hl⟩ := I.loc
    refine ⟨m, ns m hn, fun i x v e1 e2 e3 => ?_⟩
    obtain ⟨u, r, l⟩ := hl i x v e1 e2 e3
    refine ⟨u, r, ?_⟩
    rcases l with l | ⟨k, c, e, z⟩
    . exact .inl l
    . exact .inr ⟨k, c, e, cellK x c e _ z⟩
  . obtain ⟨v, z⟩ := I.cell x c e
    exact ⟨v, cellK x c e v z⟩
  . obtain ⟨m, ⟨o, _, _, ho, _⟩, _⟩ := I.loc
    exact free _ o (fun z => (hch _ z).2.1 rfl) ho I.free
  . obtain ⟨v, o, ho, hd⟩ := I.cell x c e
    exact free c o (fun z => (hch c z).2.2.1 x c e rfl) ho (I.freeC x c e)
  . obtain ⟨e, n, ne, nf, d⟩ := I.pin p hp
    have nch : p.1 ∉ ch := fun z => (hch p.1 z).2.2.2 p hp rfl
    exact ⟨keep p.1 p.2 ne nf nch e n, free p.1 p.2 nch e n, ne, nf, d⟩
theorem Inv.un {t' : Nat} (I : Inv X pins σ H s) (u : Un X.fs [] H H' s.heap h') (hok : HOk X.prog X.w H' h') : Inv X pins σ H' { s with heap := h', toks := t' } := by
  obtain ⟨m, ⟨o, es, ep, ho, r⟩, _⟩ := id I.loc
  obtain ⟨sl, hL⟩ := u.any ho I.free (by simp)
  exact I.step (g' := s.gens) (d' := s.drawn) (ch := []) (fun _ z => nomatch z) (fun b o _ hb _ e n => u.keep b o e n hb (by simp)) (fun b o _ hb _ e n => u.slot b o e n hb (by simp)) (fun b o _ e n => u.free b o e n (by simp)) (fun b o _ e => u.there b o e (by simp)) u.tups u.frzs u.tbls (fun m' hm => by
    obtain ⟨o', es', ep', ho', r'⟩ := hm
    rw [ho] at ho'; cases ho'
    exact ⟨_, es', ep', hL, r'⟩) hok I.bare
theorem Inv.call {g' : Array GenState} {t' : Nat} {d' : Drawn} {ch : List Addr} (I : Inv X pins σ H s) (u : Un (frs X.stack) ch H H' s.heap h') (hok : HOk X.prog X.w H' h') (hg : AllBare g')
    (hch : ∀ b ∈ ch, (b ∈ X.ex \/ X.s₀.heap.objs.size <= b) /\ b ≠ X.env.locals /\ (∀ x c, X.env.cells.lookup x = some c -> c ≠ b) /\ ∀ p ∈ X.pn ++ pins, p.1 ≠ b) :
    Inv X pins σ H' { s with heap := h', gens := g', drawn := d', toks := t' } := by
  obtain ⟨m, ⟨o, es, ep, ho, r⟩, _⟩ := id I.loc
  obtain ⟨sl, hL⟩ := u.any ho I.free fun z => (hch _ z).2.1 rfl
  exact I.step (ch := ch) hch (fun b o hL hb hc e n => u.keep b o e n (fun z => (List.mem_cons.mp (I.stkSub b z)).elim hL hb) hc) (fun b o _ _ hc e n => u.any e n hc) (fun b o hc e n => u.free b o e n hc) (fun b o hc e => u.there b o e hc) u.tups u.frzs u.tbls (fun m' hm => by
    obtain ⟨o', es', ep', ho', r'⟩ := hm
    rw [ho] at ho'; cases ho'
    exact ⟨_, es', ep', hL, r'⟩) hok hg
theorem Inv.turned {t' : Nat} {it : Addr} (I : Inv X pins σ H s) (k : ∀ b o, b ≠ it -> s.heap.get? b = some o -> h'.get? b = some o) (hn : H it = none) (hL : it ≠ X.env.locals)
    (h1 : it ∈ X.ex \/ X.s₀.heap.objs.size <= it) (h2 : ∀ x c, X.env.cells.lookup x = some c -> c ≠ it) (h3 : ∀ p ∈ X.pn ++ pins, p.1 ≠ it) : Inv X pins σ H { s with heap := h', toks := t' } := by
  have nit : ∀ b u, H b = some u -> b ≠ it := fun b u e z => by rw [z, hn] at e; cases e
  refine I.step (g' := s.gens) (d' := s.drawn) (ch := [it]) (fun b hb => ?_) (fun b o _ _ hc e _ => k b o (fun z => hc (by simp [z])) e) (fun b o _ _ hc e _ => ⟨o.slots, k b o (fun z => hc (by simp [z])) e⟩) (fun _ _ _ _ n => n)
    (fun b o hc e => ⟨o, k b o (fun z => hc (by simp [z])) e⟩) (fun _ _ e => e) (fun _ _ _ e => e) (fun b ps e => ⟨#[], by rw [e]; simp⟩) (fun m hm => ?_) (fun b u e => ?_) I.bare
  . have e : b = it := by simpa using hb
    subst e
    exact ⟨h1, hL, h2, h3⟩
  . obtain ⟨o, es, ep, ho, r⟩ := hm
    exact ⟨o, es, ep, k _ o (Ne.symm hL) ho, r⟩
  . refine (I.hok b u e).stay (fun c v hc q => k c v ?_ q) (fun _ q => q) fun _ _ q => q
    rcases hc with z | z
    . rw [z]; exact nit b u e
    . exact nit c _ z
theorem Inv.tok (I : Inv X pins σ H s) (t : Nat) : Inv X pins σ H { s with toks := t } := I.un (h' := s.heap) (t' := t) Un.refl I.hok
theorem Inv.kept {t' : Nat} (I : Inv X pins σ H s) (k : ∀ b u, s.heap.get? b = some u -> h'.get? b = some u) : Inv X pins σ H { s with heap := h', toks := t' } := I.un (Un.kept k) (I.hok.kept k)
theorem Inv.laid {a : Addr} {o : HO} {t' : Nat} (I : Inv X pins σ H s) (k : ∀ b u, s.heap.get? b = some u -> h'.get? b = some u) (hp : s.heap.objs.size <= a) (new : cJ X.prog X.w (upd H a o) h' a o) :
    Inv X pins σ (upd H a o) { s with heap := h', toks := t' } := I.un (Un.laid k hp (I.hok.fresh hp)) (I.hok.laid k hp new)
theorem Inv.write {x e : Addr} {o : HO} {t' : Nat} (I : Inv X pins σ H s) (mu : Mut (H x)) (he : e = x \/ H e = some (.own x)) (k : ∀ b u, b ≠ e -> s.heap.get? b = some u -> h'.get? b = some u) (heo : ∃ u, h'.get? e = some u)
    (new : cJ X.prog X.w (upd H x o) h' x o) : Inv X pins σ (upd H x o) { s with heap := h', toks := t' } := I.un (Un.write mu he k heo) (I.hok.write mu he k heo new)
theorem Inv.pins_of {pins' : List (Addr × Obj)} (I : Inv X pins σ H s) (h : ∀ p ∈ pins', s.heap.get? p.1 = some p.2 /\ H p.1 = none /\ p.1 ≠ X.env.locals /\ p.1 ∉ X.fs /\ ∀ v, p.2.data ≠ .cell v) : Inv X pins' σ H s :=
  ⟨I.ok, I.os, I.bare, I.base, I.loc, I.cell, I.free, I.freeC, fun p hp => (List.mem_append.mp hp).elim (fun z => I.pin p (List.mem_append_left _ z)) (h p), I.hok, I.len⟩
theorem pN {N : List Str} (hN : N.Nodup) {i j : Nat} {x : Str} (a : N[i]? = some x) (b : N[j]? = some x) : i = j := by
  obtain ⟨h1, e1⟩ := List.getElem?_eq_some_iff.mp a
  obtain ⟨h2, e2⟩ := List.getElem?_eq_some_iff.mp b
  exact (List.getElem_inj hN).mp (e1.trans e2.symm)
theorem i3 {M : Model} {A : Around} {E : Value -> Shared -> Prop} {i : Nat} {x : Str} {v : V} {u : Value} {Q : Unit -> Shared -> Prop} (I : Inv X pins σ H s) (hN : X.N.Nodup) (hi : X.N[i]? = some x) (hx : Loc X.env.scope x) (r : cH v u)
    (h : ∀ s', Inv X pins (σ.set i (some v)) H s' -> (∃ a, Heap.SameBut a s.heap s'.heap /\ (a = X.env.locals \/ X.env.cells.lookup x = some a)) -> Q () s') (hf : X.fn x = true \/ X.env.scope.names.lookup x = some .local := by first | exact .inl rfl | exact .inr rfl | assumption) : wpAny M A (storeName X.env x u) Q E s := by
  obtain ⟨m, hn, hl⟩ := id I.loc
  have zni : (X.env.scope.kind == .class || (X.env.scope.kind == .module && X.env.locals != X.env.globals)) = false := by rw [I.ok.kind]; rfl
  have hiσ : i < σ.length := by rw [I.len]; exact (List.getElem?_eq_some_iff.mp hi).1
  have cne := I.cne
  have tracked : ∀ {a : Addr} {h' : Heap}, (∃ o, s.heap.get? a = some o /\ H a = none) -> Heap.SameBut a s.heap h' -> HOk X.prog X.w H h' := fun {a h'} ha hs b ob e => by
    obtain ⟨_, _, eO⟩ := ha
    refine (I.hok b ob e).stay (fun c w' hc q => (hs.2 c ?_).trans q) (fun _ q => q) fun _ _ q => q
    rintro rfl
    rcases hc with rfl | hc
    . rw [eO] at e; cases e
    . rw [eO] at hc; cases hc
  rcases hx with hk | hk
  . refine wpAny_storeName_local hk hn (fun h' hn' hs => ?_) zni
    obtain ⟨oL, _, _, hoL, _⟩ := id hn
    refine h _ ⟨I.ok, I.os, I.bare, ⟨fun b o e n hb hx => ?_, fun b o e n hb hx => ?_, I.base.free, fun b o e hx => ?_, I.base.tups, I.base.frzs, I.base.tbls⟩, ⟨_, hn', fun j y v' e1 e2 e3 => ?_⟩, fun y c e => ?_, I.free, I.freeC, fun p hp => ?_, tracked ⟨oL, hoL, I.free⟩ hs, by simpa using I.len⟩ ⟨_, hs, .inl rfl⟩
    . exact (hs.2 b (Nat.ne_of_lt (Nat.lt_of_lt_of_le (Heap.lt_size e) I.ok.above))).trans (I.base.keep b o e n hb hx)
    . obtain ⟨sl, e1⟩ := I.base.slot b o e n hb hx
      exact ⟨sl, (hs.2 b (Nat.ne_of_lt (Nat.lt_of_lt_of_le (Heap.lt_size e) I.ok.above))).trans e1⟩
    . obtain ⟨o', e1⟩ := I.base.there b o e hx
      exact ⟨o', (hs.2 b (Nat.ne_of_lt (Nat.lt_of_lt_of_le (Heap.lt_size e) I.ok.above))).trans e1⟩
    . by_cases hj : j = i
      . subst hj
        rw [hi] at e1; cases e1
        rw [List.getElem?_set_self hiσ] at e2
        cases e2
        exact ⟨u, r, .inl ⟨hk, by simp⟩⟩
      . rw [List.getElem?_set_ne (Ne.symm hj)] at e2
        obtain ⟨u', r', q⟩ := hl j y v' e1 e2 e3
        refine ⟨u', r', ?_⟩
        rcases q with ⟨k, e⟩ | ⟨k, c, e, z⟩
        . refine .inl ⟨k, ?_⟩
          have : y ≠ x := fun e => hj (pN hN e1 (e ▸ hi))
          simp [this, e]
        . exact .inr ⟨k, c, e, z.sameBut hs (cne y c e)⟩
    . obtain ⟨w', z⟩ := I.cell y c e
      exact ⟨w', z.sameBut hs (cne y c e)⟩
    . obtain ⟨e, n, ne, nf, d⟩ := I.pin p hp
      exact ⟨(hs.2 p.1 ne).trans e, n, ne, nf, d⟩
  . have hfn : X.fn x = true := by
      rcases hf with z | z
      . exact z
      . rw [z] at hk; cases hk
    obtain ⟨c, hc⟩ := I.ok.has x (.inl hk)
    obtain ⟨w', z⟩ := I.cell x c hc
    refine wpAny_storeName_cell I.ok.kind hk hc z (fun h' hc' hs => ?_)
    obtain ⟨oc, hoc, hocd⟩ := id z
    refine h { s with heap := h' } ⟨I.ok, I.os, I.bare, ⟨fun b o e n hb hx => ?_, fun b o e n hb hx => ?_, I.base.free, fun b o e hx => ?_, I.base.tups, I.base.frzs, I.base.tbls⟩, ⟨m, hn.sameBut hs (Ne.symm (cne x c hc)), fun j y v' e1 e2 e3 => ?_⟩, fun y c' e => ?_, I.free, I.freeC, fun p hp => ?_, tracked ⟨oc, hoc, I.freeC x c hc⟩ hs, by simpa using I.len⟩ ⟨c, hs, .inr hc⟩
    . exact (hs.2 b (Nat.ne_of_lt (Nat.lt_of_lt_of_le (Heap.lt_size e) (I.ok.cab x c hfn hc)))).trans (I.base.keep b o e n hb hx)
    . obtain ⟨sl, e1⟩ := I.base.slot b o e n hb hx
      exact ⟨sl, (hs.2 b (Nat.ne_of_lt (Nat.lt_of_lt_of_le (Heap.lt_size e) (I.ok.cab x c hfn hc)))).trans e1⟩
    . obtain ⟨o', e1⟩ := I.base.there b o e hx
      exact ⟨o', (hs.2 b (Nat.ne_of_lt (Nat.lt_of_lt_of_le (Heap.lt_size e) (I.ok.cab x c hfn hc)))).trans e1⟩
    . by_cases hj : j = i
      . subst hj
        rw [hi] at e1; cases e1
        rw [List.getElem?_set_self hiσ] at e2
        cases e2
        exact ⟨u, r, .inr ⟨.inl hk, c, hc, hc'⟩⟩
      . rw [List.getElem?_set_ne (Ne.symm hj)] at e2
        obtain ⟨u', r', q⟩ := hl j y v' e1 e2 e3
        refine ⟨u', r', ?_⟩
        rcases q with q | ⟨k, c', e, z'⟩
        . exact .inl q
        . refine .inr ⟨k, c', e, z'.sameBut hs ?_⟩
          rintro rfl
          exact hj (pN hN e1 (I.ok.inj _ _ _ e hc ▸ hi))
    . by_cases hcc : c' = c
      . subst hcc; exact ⟨_, hc'⟩
      . obtain ⟨w2, z2⟩ := I.cell y c' e
        exact ⟨w2, z2.sameBut hs hcc⟩
    . obtain ⟨e, n, ne, nf, d⟩ := I.pin p hp
      refine ⟨(hs.2 p.1 ?_).trans e, n, ne, nf, d⟩
      intro q
      rw [q, hoc] at e
      have q' : oc = p.2 := Option.some.inj e
      exact d w' (by rw [<- q']; exact hocd)
theorem iS {M : Model} {A : Around} {E : Value -> Shared -> Prop} {i : Nat} {x : Str} {v : V} {u : Value} {Q : Unit -> Shared -> Prop} (I : Inv X pins σ H s) (hN : X.N.Nodup) (hi : X.N[i]? = some x) (hx : Loc X.env.scope x) (r : cH v u)
    (h : ∀ s', Inv X pins (σ.set i (some v)) H s' -> Q () s') (hf : X.fn x = true \/ X.env.scope.names.lookup x = some .local := by first | exact .inl rfl | exact .inr rfl | assumption) : wpAny M A (storeName X.env x u) Q E s :=
  i3 I hN hi hx r (fun s' I' _ => h s' I') hf
theorem Inv.call' {s' : Shared} {ch : List Addr} (I : Inv X pins σ H s) (ho : s'.os = s.os) (u : Un (frs X.stack) ch H H' s.heap s'.heap) (hok : HOk X.prog X.w H' s'.heap) (hg : AllBare s'.gens)
    (hch : ∀ b ∈ ch, (b ∈ X.ex \/ X.s₀.heap.objs.size <= b) /\ b ≠ X.env.locals /\ (∀ x c, X.env.cells.lookup x = some c -> c ≠ b) /\ ∀ p ∈ X.pn ++ pins, p.1 ≠ b) : Inv X pins σ H' s' := by
  obtain ⟨h', g', d', t', o'⟩ := s'
  have e : o' = s.os := ho
  subst e
  exact I.call (g' := g') (t' := t') (d' := d') u hok hg hch
end
abbrev XK := Value -> Option Addr -> Hp -> Prop
abbrev St := List (Option V)
abbrev VK := V -> Hp -> Prop
abbrev TE := St -> Hp -> VK -> Prop
abbrev TT := St -> Hp -> (Bool -> Hp -> Prop) -> Prop
abbrev TA := St -> Hp -> (List V -> Hp -> Prop) -> Prop
structure iC where
  nx : St -> Hp -> Prop
  rt : VK
  bk : St -> Hp -> Prop := fun _ _ => False
  ct : St -> Hp -> Prop := fun _ _ => False
abbrev TS := iC -> St -> Hp -> Prop
def EP (X : Cx) (pins : List (Addr × Obj)) (σ : St) (Q : VK) (u : Value) (s' : Shared) : Prop := ∃ v H', Inv X pins σ H' s' /\ cH v u /\ Q v H'
def TP (X : Cx) (pins : List (Addr × Obj)) (σ : St) (Q : Bool -> Hp -> Prop) (b : Bool) (s' : Shared) : Prop := ∃ H', Inv X pins σ H' s' /\ Q b H'
def AP (X : Cx) (pins : List (Addr × Obj)) (σ : St) (Q : List V -> Hp -> Prop) (us : List Value) (s' : Shared) : Prop := ∃ vs H', Inv X pins σ H' s' /\ cA vs us /\ Q vs H'
def SP (X : Cx) (pins : List (Addr × Obj)) (D : iC) (f : Flow) (s' : Shared) : Prop :=
  match f with
  | .next => ∃ σ' H', Inv X pins σ' H' s' /\ D.nx σ' H'
  | .brk => ∃ σ' H', Inv X pins σ' H' s' /\ D.bk σ' H'
  | .cont => ∃ σ' H', Inv X pins σ' H' s' /\ D.ct σ' H'
  | .ret u => ∃ v σ' H', Inv X pins σ' H' s' /\ cH v u /\ D.rt v H'
def PE (X : Cx) (e : Expr) (t : TE) : Prop :=
  ∀ (pins : List (Addr × Obj)) (s : Shared) (σ : St) (H : Hp) (Q : VK), Inv X pins σ H s -> t σ H Q -> wpAny (model X.prog X.w) X.A (eval e X.env) (EP X pins σ Q) X.xe s
def PT (X : Cx) (e : Expr) (t : TT) : Prop :=
  ∀ (pins : List (Addr × Obj)) (s : Shared) (σ : St) (H : Hp) (Q : Bool -> Hp -> Prop), Inv X pins σ H s -> t σ H Q -> wpAny (model X.prog X.w) X.A (isTrue e X.env (eval e X.env)) (TP X pins σ Q) X.xe s
def PW (X : Cx) (e : Expr) (t : TT) : Prop :=
  ∀ (whole : Sem Value) (pins : List (Addr × Obj)) (s : Shared) (σ : St) (H : Hp) (Q : Bool -> Hp -> Prop), Inv X pins σ H s -> t σ H Q -> wpAny (model X.prog X.w) X.A (isTrue e X.env whole) (TP X pins σ Q) X.xe s
theorem PW.pt {X : Cx} {e : Expr} {t : TT} (h : PW X e t) : PT X e t := h _
def PA (X : Cx) (es : List Expr) (t : TA) : Prop :=
  ∀ (pos : Pos) (pins : List (Addr × Obj)) (s : Shared) (σ : St) (H : Hp) (Q : List V -> Hp -> Prop), Inv X pins σ H s -> t σ H Q -> wpAny (model X.prog X.w) X.A (spliced (backTo pos (starEach es X.env))) (AP X pins σ Q) X.xe s
def PS (X : Cx) (st : Stmt) (t : TS) : Prop :=
  ∀ (pins : List (Addr × Obj)) (s : Shared) (σ : St) (H : Hp) (D : iC), Inv X pins σ H s -> t D σ H -> wpAny (model X.prog X.w) X.A (exec st X.env) (SP X pins D) X.xe s
def PSs (X : Cx) (st : List Stmt) (t : TS) : Prop :=
  ∀ (pins : List (Addr × Obj)) (s : Shared) (σ : St) (H : Hp) (D : iC), Inv X pins σ H s -> t D σ H -> wpAny (model X.prog X.w) X.A (execs st X.env) (SP X pins D) X.xe s
theorem thn {α : Type} {t : Sem α} {Q Q' : α -> Shared -> Prop} {M : Model} {A : Around} {E : Value -> Shared -> Prop} {s : Shared} (h : wpAny M A t Q E s) (hQ : ∀ a s, Q a s -> Q' a s) : wpAny M A t Q' E s := wpAny_mono h hQ fun _ _ x => x
section
variable {X : Cx}
theorem bin {a b : Expr} {ta tb : TE} (ha : PE X a ta) (hb : PE X b tb) {pins : List (Addr × Obj)} {s : Shared} {σ : St} {H : Hp} {R : V -> V -> Hp -> Prop} (I : Inv X pins σ H s) (h : ta σ H fun x H1 => tb σ H1 fun y H2 => R x y H2)
    {α : Type} {Q : α -> Shared -> Prop} {f : Value -> Value -> Sem α}
    (hf : ∀ v u s2 x y H2, Inv X pins σ H2 s2 -> cH x v -> cH y u -> R x y H2 -> wpAny (model X.prog X.w) X.A (f v u) Q X.xe s2) :
    wpAny (model X.prog X.w) X.A (eval a X.env) (fun v s₁ => wpAny (model X.prog X.w) X.A (eval b X.env) (fun u s₂ => wpAny (model X.prog X.w) X.A (f v u) Q X.xe s₂) X.xe s₁) X.xe s := by
  refine thn (ha pins s σ H _ I h) fun v s1 zz => ?_
  obtain ⟨x, H1, I1, r1, q1⟩ := zz
  refine thn (hb pins s1 σ H1 _ I1 q1) fun u s2 zz => ?_
  obtain ⟨y, H2, I2, r2, q2⟩ := zz
  exact hf v u s2 x y H2 I2 r1 r2 q2
def bD (i : Nat) : TE := fun σ H Q => ∃ v, σ[i]? = some (some v) /\ Q v H
def tC (v : V) : TE := fun _ H Q => Q v H
theorem zhB {i : Nat} {x : Str} {pos : Pos} (hN : X.N[i]? = some x) (hv : Vis X.env.scope x) (hd : (x == ("__debug__" : Str)) = false := by decide) (hcd : (x == ("__classdict__" : Str)) = false := by decide) : PE X (.Name x pos) (bD i) := by
  intro pins s σ H Q I h
  obtain ⟨v, e, h⟩ := h
  obtain ⟨m, hn, hl⟩ := I.loc
  obtain ⟨u, r, l⟩ := hl i x v hN e hv
  have fin : EP X pins σ Q u s := ⟨v, H, I, r, h⟩
  rcases l with ⟨hk, hm⟩ | ⟨hk, c, hc, hcell⟩
  . exact wpAny_Name (wpAny_loadName_local I.ok.kind hk hn hm fin) hd
  . rcases hk with hk | hk
    . exact wpAny_Name (wpAny_loadName_cell I.ok.kind hk hc hcell fin) hd
    . exact wpAny_Name (wpAny_loadName_free I.ok.kind hk hc hcell fin hcd) hd
theorem aI {i j pos} : PE X (.Constant (.int i) j pos) (tC (.int i)) := fun _ _ _ H _ I h => wpAny_Constant_int ⟨.int i, H, I.tok _, ⟨_, rfl⟩, h⟩
theorem kI {b j pos} : PE X (.Constant (.bool b) j pos) (tC (.bl b)) := fun _ _ _ H _ I h => Constant_bool ⟨.bl b, H, I, rfl, h⟩
theorem vE {j pos} : PE X (.Constant .none j pos) (tC .non) := fun _ _ _ H _ I h => Constant_none ⟨.non, H, I, rfl, h⟩
theorem fX {x j pos} : PE X (.Constant (.str x) j pos) (tC (.str x)) := fun _ _ _ H _ I h => Calls.Constant_str ⟨.str x, H, I.tok _, ⟨_, rfl⟩, h⟩
def Gl (X : Cx) (x : Str) : Prop := X.env.kindOf x = some .globalImplicit
theorem lW {E : Value -> Shared -> Prop} {pins : List (Addr × Obj)} {s : Shared} {σ : St} {H : Hp} {x : Str} {u : Value} {pos : Pos} {Q : Value -> Shared -> Prop} (I : Inv X pins σ H s) (hg : Gl X x) (hm : X.mg x = some u) (h : Q u s)
    (hd : (x == ("__debug__" : Str)) = false := by decide) : wpAny (model X.prog X.w) X.A (eval (.Name x pos) X.env) Q E s :=
  Calls.Name_function_global I.ok.kind hg (Calls.loadGlobal_global (by rw [I.ok.glob]; exact I.mod.glob.keeps I.bk) hm h) hd
theorem kN {E : Value -> Shared -> Prop} {pins : List (Addr × Obj)} {s : Shared} {σ : St} {H : Hp} {x : Str} {u : Value} {pos : Pos} {Q : Value -> Shared -> Prop} (I : Inv X pins σ H s) (hg : Gl X x) (hm : X.mg x = none) (hv : bootBuiltins x = some u) (h : Q u s)
    (hn : x ≠ "__name__" := by decide) (hd : (x == ("__debug__" : Str)) = false := by decide) : wpAny (model X.prog X.w) X.A (eval (.Name x pos) X.env) Q E s := by
  obtain ⟨mb, h1, h2⟩ := I.mod.blt
  exact Calls.Name_function_global I.ok.kind hg (Calls.loadGlobal_builtin (by rw [I.ok.glob]; exact I.mod.glob.keeps I.bk) hm (by rw [I.ok.blt]; exact h1.keeps I.bk) ((h2 x hn).trans hv) h) hd
theorem gF {x : Str} {v : V} {u : Value} {pos : Pos} (hg : Gl X x) (hm : X.mg x = some u) (r : cH v u) (hd : (x == ("__debug__" : Str)) = false := by decide) : PE X (.Name x pos) (tC v) :=
  fun _ _ _ H _ I h => lW I hg hm ⟨v, H, I, r, h⟩ hd
theorem tH {x : Str} {v : V} {u : Value} {pos : Pos} (hg : Gl X x) (hm : X.mg x = none) (hv : bootBuiltins x = some u) (r : cH v u) (hn : x ≠ "__name__" := by decide) (hd : (x == ("__debug__" : Str)) = false := by decide) : PE X (.Name x pos) (tC v) :=
  fun _ _ _ H _ I h => kN I hg hm hv ⟨v, H, I, r, h⟩ hn hd
variable {a b : Expr} {ta tb : TE} {pos : Pos}
def PC (X : Cx) (op : CmpOp) (a b : Expr) (t : TE) : Prop :=
  ∀ (pins : List (Addr × Obj)) (s : Shared) (σ : St) (H : Hp) (Q : VK), Inv X pins σ H s -> t σ H Q ->
    wpAny (model X.prog X.w) X.A (eval a X.env) (fun v s₁ => wpAny (model X.prog X.w) X.A (eval b X.env) (fun u s₂ => wpAny (model X.prog X.w) X.A (compareOp op v u) (EP X pins σ Q) X.xe s₂) X.xe s₁) X.xe s
def tB (t : TE) : TT := fun σ H Q => t σ H fun x H1 => ∃ c, x = .bl c /\ Q c H1
theorem zkz {op : CmpOp} {t : TE} (h : PC X op a b t) (h1 : behindInMarks op b = false := by first | exact nobehind _ (by decide) (by decide) | rfl) : PE X (.Compare a [op] [b] pos) t := fun pins s σ H Q I hw => wpAny_Compare1 (h pins s σ H Q I hw) h1
theorem zjq {op : CmpOp} {t : TE} (h : PC X op a b t) (h1 : behindInMarks op b = false := by first | exact nobehind _ (by decide) (by decide) | rfl) : PT X (.Compare a [op] [b] pos) (tB t) := by
  intro pins s σ H Q I hw
  refine wpAny_isTrue_Compare1 (thn (h pins s σ H _ I hw) fun v s1 h1 => thn h1 fun u s2 h2 => thn h2 fun c s3 zz => ?_) h1
  obtain ⟨x, H1, I1, r1, q1⟩ := zz
  obtain ⟨d, rfl, q⟩ := q1
  cases r1
  exact wpAny_truthy_bool ⟨H1, I1, q⟩
theorem eC {e : Expr} {t : TE} (h : PE X e t) (he : ∀ whole, isTrue e X.env whole = (do let v <- whole; standAt e.pos; holding [v] (truthy v)) := by intro _; rfl) : PT X e (tB t) := by
  intro pins s σ H Q I hw
  refine isTrue_plain (thn (h pins s σ H _ I hw) fun v s1 zz => ?_) (he _)
  obtain ⟨x, H1, I1, r1, q1⟩ := zz
  obtain ⟨d, rfl, q⟩ := q1
  cases r1
  exact wpAny_truthy_bool ⟨H1, I1, q⟩
variable {tA tB' : TT} {rest : List Expr}
def zpB (t u : TT) : TT := fun σ H Q => t σ H fun c H1 => if c = true then u σ H1 Q else Q false H1
def tOr (t u : TT) : TT := fun σ H Q => t σ H fun c H1 => if c = true then Q true H1 else u σ H1 Q
def zpS (t : TT) : TT := fun σ H Q => t σ H fun c H1 => Q (!c) H1
theorem mD (ha : PT X a tA) : PW X (.BoolOp .And [a] pos) tA := by
  intro wh pins s σ H Q I h
  refine isTrue_and (thn (ha pins s σ H Q I h) fun c s1 e => ?_)
  cases c with
  | true => exact isTrue_and_nil e
  | false => exact e
theorem pV (ha : PT X a tA) : PW X (.BoolOp .Or [a] pos) tA := by
  intro wh pins s σ H Q I h
  refine isTrue_or (thn (ha pins s σ H Q I h) fun c s1 e => ?_)
  cases c with
  | false => exact isTrue_or_nil e
  | true => exact e
theorem rO (ha : PT X a tA) (hb : PW X (.BoolOp .And (b :: rest) pos) tB') : PW X (.BoolOp .And (a :: b :: rest) pos) (zpB tA tB') := by
  intro wh pins s σ H Q I h
  refine isTrue_and (thn (ha pins s σ H _ I h) fun c s1 zz => ?_)
  obtain ⟨H1, I1, q1⟩ := zz
  cases c with
  | true => exact hb wh pins s1 σ H1 Q I1 q1
  | false => exact ⟨H1, I1, q1⟩
theorem wI (ha : PT X a tA) (hb : PW X (.BoolOp .Or (b :: rest) pos) tB') : PW X (.BoolOp .Or (a :: b :: rest) pos) (tOr tA tB') := by
  intro wh pins s σ H Q I h
  refine isTrue_or (thn (ha pins s σ H _ I h) fun c s1 zz => ?_)
  obtain ⟨H1, I1, q1⟩ := zz
  cases c with
  | true => exact ⟨H1, I1, q1⟩
  | false => exact hb wh pins s1 σ H1 Q I1 q1
theorem fS (ha : PT X a tA) : PT X (.UnaryOp .Not a pos) (zpS tA) := by
  intro pins s σ H Q I h
  exact isTrue_not (ha pins s σ H (fun c H1 => Q (!c) H1) I h)
def zdM (ta tb : TE) : TE := fun σ H Q => ta σ H fun x H1 => ∃ c, x = .bl c /\ if c = true then tb σ H1 Q else Q (.bl false) H1
def zem (ta : TE) : TE := fun σ H Q => ta σ H fun x H1 => ∃ c, x = .bl c /\ Q (.bl (!c)) H1
theorem ziv {op} {t : TE} (h : PE X a t) : PE X (.BoolOp op [a] pos) t := fun pins s σ H Q I hw => BoolOp_one (h pins s σ H Q I hw)
theorem zhQ (ha : PE X a ta) (hb : PE X (.BoolOp .And (b :: rest) pos) tb) : PE X (.BoolOp .And (a :: b :: rest) pos) (zdM ta tb) := by
  intro pins s σ H Q I h
  refine BoolOp_and (thn (ha pins s σ H _ I h) fun v s1 zz => ?_)
  obtain ⟨x, H1, I1, r1, q1⟩ := zz
  obtain ⟨c, rfl, q1⟩ := q1
  cases r1
  refine wpAny_truthy_bool ?_
  cases c with
  | true => exact hb pins s1 σ H1 Q I1 q1
  | false => exact ⟨.bl false, H1, I1, rfl, q1⟩
theorem zgT (ha : PE X a ta) : PE X (.UnaryOp .Not a pos) (zem ta) := by
  intro pins s σ H Q I h
  refine UnaryOp_ (thn (ha pins s σ H _ I h) fun v s1 zz => ?_)
  obtain ⟨x, H1, I1, r1, q1⟩ := zz
  obtain ⟨c, rfl, q1⟩ := q1
  cases r1
  exact not_of (wpAny_truthy_bool ⟨.bl (!c), H1, I1, rfl, q1⟩)
end
def SqL (K : W.Frag) (H : Hp) (a : Addr) (xs : List V) : Prop :=
  Rd H a (.lst xs) \/
    ∃ (o : Obj) (its : Array Value) (n : Nat), K.lookup a = some o /\ o.cls = .type "list" /\ o.dict = none /\ o.data = .seq its n /\ its.size <= sizeLine /\ cA xs its.toList
def SqT (K : W.Frag) (H : Hp) (a : Addr) (xs : List V) : Prop :=
  Rd H a (.tup xs) \/
    ∃ (o : Obj) (its : Array Value) (n : Nat), K.lookup a = some o /\ o.cls = .type "tuple" /\ o.data = .seq its n /\ its.size <= sizeLine /\ cA xs its.toList
def zqi : Value -> Option V
  | .none => some .non
  | .bool b => some (.bl b)
  | .int i _ => some (.int i)
  | .str x _ => some (.str x)
  | .bytes b _ => some (.byt b)
  | .float b _ => some (.flt b)
  | .ref a => some (.ref a)
  | .type n => some (.ty n)
  | _ => none
theorem cH.abs {x : V} {u : Value} (r : cH x u) : zqi u = some x := by
  cases x with
  | non => cases r; rfl
  | bl _ => cases r; rfl
  | int _ => obtain ⟨t, rfl⟩ := r; rfl
  | str _ => obtain ⟨t, rfl⟩ := r; rfl
  | byt _ => obtain ⟨t, rfl⟩ := r; rfl
  | flt _ => obtain ⟨t, rfl⟩ := r; rfl
  | ref _ => cases r; rfl
  | ty _ => cases r; rfl
theorem cH.inj {x y : V} {u : Value} (r : cH x u) (q : cH y u) : x = y := Option.some.inj (r.abs.symm.trans q.abs)
theorem cA.inj {xs ys : List V} {us : List Value} (h : cA xs us) : cA ys us -> xs = ys := by
  induction h generalizing ys with
  | nil => intro q; cases q; rfl
  | cons r t ih => intro q; cases q with | cons r' t' => rw [r.inj r', ih t']
section
variable {X : Cx} {pins : List (Addr × Obj)} {σ : St} {H : Hp} {s : Shared} {a : Addr} {xs ys : List V}
theorem SqL.of {K : W.Frag} (h : H a = some (.lst xs)) : SqL K H a xs := .inl (.inl h)
theorem SqT.of {K : W.Frag} (h : H a = some (.tup xs)) : SqT K H a xs := .inl (.inl h)
theorem Inv.list (I : Inv X pins σ H s) (h : SqL X.K H a xs) : ∃ its : List Value, cA xs its /\ PlainL s.heap a its.toArray /\ xs.length <= sizeLine := by
  rcases h with h | ⟨o, its, n, hk, hc, hd, hs, hz, r⟩
  . obtain ⟨z, its, n, r, e⟩ := h.ok I.hok
    exact ⟨its, r, ⟨_, n, e, rfl, rfl, rfl⟩, z⟩
  . refine ⟨its.toList, r, ⟨o, n, I.kIn a o hk, hc, hd, by simpa using hs⟩, ?_⟩
    have e := r.length
    simp only [Array.length_toList] at e
    omega
theorem Inv.tuple (I : Inv X pins σ H s) (h : SqT X.K H a xs) : ∃ its : List Value, cA xs its /\ IsTup s.heap a its.toArray /\ xs.length <= sizeLine := by
  rcases h with h | ⟨o, its, n, hk, hc, hs, hz, r⟩
  . obtain ⟨z, its, r, p⟩ := h.ok I.hok
    exact ⟨its, r, p, z⟩
  . refine ⟨its.toList, r, ⟨o, I.kIn a o hk, hc, n, by simpa using hs⟩, ?_⟩
    have e := r.length
    simp only [Array.length_toList] at e
    omega
theorem Inv.list_inj (I : Inv X pins σ H s) (h : SqL X.K H a xs) (h' : SqL X.K H a ys) : xs = ys := by
  obtain ⟨its, r, ⟨o, n, e, _, _, d⟩, _⟩ := I.list h
  obtain ⟨its', r', ⟨o', n', e', _, _, d'⟩, _⟩ := I.list h'
  rw [e] at e'; cases e'
  rw [d] at d'
  injection d' with d1 _
  have : its = its' := by simpa using congrArg Array.toList d1
  subst this
  exact r.inj r'
theorem Inv.tuple_inj (I : Inv X pins σ H s) (h : SqT X.K H a xs) (h' : SqT X.K H a ys) : xs = ys := by
  obtain ⟨its, r, ⟨o, e, _, n, d⟩, _⟩ := I.tuple h
  obtain ⟨its', r', ⟨o', e', _, n', d'⟩, _⟩ := I.tuple h'
  rw [e] at e'; cases e'
  rw [d] at d'
  injection d' with d1 _
  have : its = its' := by simpa using congrArg Array.toList d1
  subst this
  exact r.inj r'
end
abbrev Cx.wish (X : Cx) (E : Value -> Shared -> Prop) : Cx := { X with xe := E }
abbrev Cx.nox (X : Cx) : Cx := X.wish fun _ _ => False
theorem Cx.Ok.wish {X : Cx} (ok : X.Ok) (E : Value -> Shared -> Prop) : (X.wish E).Ok :=
  ⟨ok.mod, ok.kind, ok.glob, ok.blt, ok.above, ok.inj, ok.has, ok.cab, ok.hd, ok.frames, ok.stk, ok.exf, ok.bs, ok.bsz, ok.noex, ok.exfs, ok.funs, ok.frf⟩
theorem Cx.Ok.unwish {X : Cx} {E : Value -> Shared -> Prop} (ok : (X.wish E).Ok) : X.Ok :=
  ⟨ok.mod, ok.kind, ok.glob, ok.blt, ok.above, ok.inj, ok.has, ok.cab, ok.hd, ok.frames, ok.stk, ok.exf, ok.bs, ok.bsz, ok.noex, ok.exfs, ok.funs, ok.frf⟩
section
variable {X : Cx} {pins : List (Addr × Obj)} {σ : St} {H : Hp} {s : Shared} {E : Value -> Shared -> Prop}
theorem Inv.wish (I : Inv X pins σ H s) (E : Value -> Shared -> Prop) : Inv (X.wish E) pins σ H s := ⟨I.ok.wish E, I.os, I.bare, I.base, I.loc, I.cell, I.free, I.freeC, I.pin, I.hok, I.len⟩
theorem Inv.unwish (I : Inv (X.wish E) pins σ H s) : Inv X pins σ H s := ⟨I.ok.unwish, I.os, I.bare, I.base, I.loc, I.cell, I.free, I.freeC, I.pin, I.hok, I.len⟩
theorem SP.unwish {D : iC} {f : Flow} {s' : Shared} (h : SP (X.wish E) pins D f s') : SP X pins D f s' := by
  cases f with
  | next => obtain ⟨σ', H', I, q⟩ := h; exact ⟨σ', H', I.unwish, q⟩
  | brk => obtain ⟨σ', H', I, q⟩ := h; exact ⟨σ', H', I.unwish, q⟩
  | cont => obtain ⟨σ', H', I, q⟩ := h; exact ⟨σ', H', I.unwish, q⟩
  | ret u => obtain ⟨v, σ', H', I, r, q⟩ := h; exact ⟨v, σ', H', I.unwish, r, q⟩
theorem PSs.nox {st : List Stmt} {t : TS} (h : PSs X.nox st t) : PSs X st t := fun pins s σ H D I hw =>
  wpAny_mono (h pins s σ H D (I.wish _) hw) (fun _ _ q => q.unwish) fun _ _ z => False.elim z
end
section
variable {X : Cx} {st : Stmt} {rest : List Stmt} {t u : TS} {e : Expr} {te : TE} {pos : Pos}
def zlS : TS := fun D σ H => D.nx σ H
def dF (t u : TS) : TS := fun D σ H => t { D with nx := u D } σ H
theorem bM : PSs X [] zlS := fun _ _ σ H _ I h => wpAny_execs_nil ⟨σ, H, I, h⟩
theorem aG (h1 : PS X st t) (h2 : PSs X rest u) : PSs X (st :: rest) (dF t u) := by
  intro pins s σ H D I h
  refine wpAny_execs_cons (thn (h1 pins s σ H { D with nx := u D } I h) fun f s1 q => ?_)
  cases f with
  | next =>
    obtain ⟨σ', H', I', q⟩ := q
    exact h2 pins s1 σ' H' D I' q
  | ret v => exact q
  | brk => exact q
  | cont => exact q
theorem aJ (h1 : PS X st t) : PSs X [st] t := by
  intro pins s σ H D I h
  refine wpAny_execs_cons (thn (h1 pins s σ H D I h) fun f s1 q => ?_)
  cases f with
  | next => exact wpAny_execs_nil q
  | ret v => exact q
  | brk => exact q
  | cont => exact q
theorem Inv.quiet {pins : List (Addr × Obj)} {σ : St} {H : Hp} {s : Shared} (I : Inv X pins σ H s) : interactive X.env = false := by simp [interactive, I.ok.kind]
def zou (te : TE) : TS := fun D σ H => te σ H fun _ H1 => D.nx σ H1
theorem eS (he : PE X e te) (hs : swapsWith e none pos.line X.env = pure false := by rfl) : PS X (.Expr e pos) (zou te) := by
  intro pins s σ H D I h
  exact wpAny_Expr_any (thn (he pins s σ H _ I h) fun v s1 ⟨x, H1, I1, r1, q1⟩ => ⟨σ, H1, I1, q1⟩) I.quiet hs
def zqg (te : TE) : TS := fun D σ H => te σ H D.rt
theorem bK (he : PE X e te) : PS X (.Return (some e) pos) (zqg te) := by
  intro pins s σ H D I h
  exact wpAny_Return_some (thn (he pins s σ H _ I h) fun v s1 ⟨x, H1, I1, r1, q1⟩ => ⟨x, σ, H1, I1, r1, q1⟩)
def zpX (c : TT) (t u : TS) : TS := fun D σ H => c σ H fun b H1 => if b = true then t D σ H1 else u D σ H1
theorem eG {c : Expr} {a b : List Stmt} {tc : TT} (hc : PT X c tc) (ha : PSs X a t) (hb : PSs X b u) : PS X (.If c a b pos) (zpX tc t u) := by
  intro pins s σ H D I h
  refine wpAny_If (thn (hc pins s σ H _ I h) fun d s1 zz => ?_)
  obtain ⟨H1, I1, q1⟩ := zz
  cases d with
  | true => exact ha pins s1 σ H1 D I1 q1
  | false => exact hb pins s1 σ H1 D I1 q1
def zgk : TS := fun _ _ _ => False
theorem pC : PS X st zgk := fun _ _ _ _ _ _ h => h.elim
end
abbrev TG := V -> St -> Hp -> (St -> Hp -> Prop) -> Prop
abbrev TGs := List V -> St -> Hp -> (St -> Hp -> Prop) -> Prop
def PG (X : Cx) (target : Expr) (t : TG) : Prop :=
  ∀ (pins : List (Addr × Obj)) (s : Shared) (σ : St) (H : Hp) (v : V) (u : Value) (Q : St -> Hp -> Prop), Inv X pins σ H s -> cH v u -> t v σ H Q ->
    wpAny (model X.prog X.w) X.A (assign target X.env u) (fun _ s' => ∃ σ' H', Inv X pins σ' H' s' /\ Q σ' H') X.xe s
def PGs (X : Cx) (ts : List Expr) (t : TGs) : Prop :=
  ∀ (pins : List (Addr × Obj)) (s : Shared) (σ : St) (H : Hp) (vs : List V) (us : List Value) (Q : St -> Hp -> Prop), Inv X pins σ H s -> cA vs us -> t vs σ H Q ->
    wpAny (model X.prog X.w) X.A (assignInOrder ((assignEach ts X.env).map (·.2)) us) (fun _ s' => ∃ σ' H', Inv X pins σ' H' s' /\ Q σ' H') X.xe s
abbrev zmd := V -> V -> V -> Hp -> (Hp -> Prop) -> Prop
def zoT (X : Cx) (t : zmd) : Prop :=
  ∀ (pins : List (Addr × Obj)) (s : Shared) (σ : St) (H : Hp) (o i v : V) (ov iv u : Value) (Q : Hp -> Prop), Inv X pins σ H s -> cH o ov -> cH i iv -> cH v u -> t o i v H Q ->
    wpAny (model X.prog X.w) X.A (setItem ov iv u) (fun _ s' => ∃ H', Inv X pins σ H' s' /\ Q H') X.xe s
section
variable {X : Cx} {pos : Pos}
def aZ (i : Nat) : TG := fun v σ H Q => Q (σ.set i (some v)) H
theorem aO {i : Nat} {x : Str} (hN : X.N.Nodup) (hi : X.N[i]? = some x) (hx : Loc X.env.scope x) (hf : X.fn x = true \/ X.env.scope.names.lookup x = some .local := by first | exact .inl rfl | exact .inr rfl | assumption) : PG X (.Name x pos) (aZ i) := by
  intro pins s σ H v u Q I r h
  exact wpAny_assign_Name (iS I hN hi hx r (fun s' I' => ⟨_, H, I', h⟩) hf)
def sI : TGs := fun vs σ H Q => vs = [] /\ Q σ H
def eK (t : TG) (u : TGs) : TGs := fun vs σ H Q => ∃ v r, vs = v :: r /\ t v σ H fun σ' H' => u r σ' H' Q
theorem dX : PGs X [] sI := by
  intro pins s σ H vs us Q I r h
  obtain ⟨e, h⟩ := h
  subst e
  cases r
  exact assignInOrder_nil ⟨σ, H, I, h⟩
theorem aX {e : Expr} {es : List Expr} {t : TG} {u : TGs} (h1 : PG X e t) (h2 : PGs X es u)
    (hs : (assignEach (e :: es) X.env).map (·.2) = assign e X.env :: (assignEach es X.env).map (·.2) := by rfl) : PGs X (e :: es) (eK t u) := by
  intro pins s σ H vs us Q I r h
  obtain ⟨v, vr, e1, h⟩ := h
  subst e1
  cases r with
  | cons r rr =>
    rw [hs]
    refine assignInOrder_cons (thn (h1 pins s σ H _ _ _ I r h) fun _ s1 zz => ?_)
    obtain ⟨σ1, H1, I1, q1⟩ := zz
    exact h2 pins s1 σ1 H1 _ _ Q I1 rr q1
def sH (K : W.Frag) (n : Nat) (t : TGs) : TG := fun v σ H Q => ∃ a xs, v = .ref a /\ SqT K H a xs /\ xs.length = n /\ t xs σ H Q
theorem fO {es : List Expr} {k : Nat} {t : TGs} {n : Nat} (hc : X.calm = true) (h : PGs X es t)
    (hn : (assignEach es X.env).length = n := by rfl) (hst : (assignEach es X.env).findIdx? (·.1) = none := by rfl) : PG X (.Tuple es k pos) (sH X.K n t) := by
  intro pins s σ H v u Q I r hw
  obtain ⟨a, xs, e1, hq, hl, hw⟩ := hw
  subst e1
  cases r
  obtain ⟨its, rv, ht, hz⟩ := I.tuple hq
  refine assign_Tuple_tuple (I.ok.hd hc) ht (by simp [hn, <- hl, rv.length]) hst fun h' hx => ?_
  have I1 : Inv X pins σ H { s with heap := h' } := I.kept (t' := s.toks) fun b o e => hx b o (Nat.ne_of_lt (Heap.lt_size e)) e
  exact h pins _ σ H xs _ Q I1 (by simpa using rv) hw
def zpV (to ti : TE) (t : zmd) : TG := fun v σ H Q => to σ H fun o H1 => ti σ H1 fun i H2 => t o i v H2 fun H3 => Q σ H3
theorem o6 {o i : Expr} {to ti : TE} {t : zmd} (ho : PE X o to) (hi : PE X i ti) (hs : zoT X t)
    (ha : ∀ v, assign (.Subscript o i pos) X.env v = (do
      let ov <- holding [v] (eval o X.env)
      let iv <- holding [v, ov] (eval i X.env)
      standAt pos
      holding [v, ov, iv] (setItem ov iv v)
      release [v, ov, iv] []) := by intro _; rfl) : PG X (.Subscript o i pos) (zpV to ti t) := by
  intro pins s σ H v u Q I r h
  rw [ha]
  refine wpAny_bind (wpAny_holding (thn (ho pins s σ H _ I h) fun ov s1 zz => ?_))
  obtain ⟨x, H1, I1, r1, q1⟩ := zz
  refine wpAny_bind (wpAny_holding (thn (hi pins s1 σ H1 _ I1 q1) fun iv s2 zz => ?_))
  obtain ⟨y, H2, I2, r2, q2⟩ := zz
  refine wpAny_bind (wpAny_standAt (wpAny_bind (wpAny_holding (thn (hs pins s2 σ H2 x y v ov iv u _ I2 r1 r2 r q2) fun _ s3 zz => ?_))))
  obtain ⟨H3, I3, q3⟩ := zz
  exact wpAny_release ⟨σ, H3, I3, q3⟩
def zkl (te : TE) (g : TG) : TS := fun D σ H => te σ H fun x H1 => g x σ H1 D.nx
theorem qD {tg e : Expr} {te : TE} {g : TG} (he : PE X e te) (hg : PG X tg g) (hs : swapsWithSole [tg] e pos.line X.env = pure false := by rfl) (hw : swappedStores [tg] e X.env = pure none := by rfl)
    (h1 : (assignEach [tg] X.env).map (·.2) = [assign tg X.env] := by rfl) : PS X (.Assign [tg] e pos) (zkl te g) := by
  intro pins s σ H D I h
  refine wpAny_Assign_stores (thn (he pins s σ H _ I h) fun v s1 zz => ?_) hs hw
  obtain ⟨x, H1, I1, r1, q1⟩ := zz
  rw [h1]
  exact thn (hg pins s1 σ H1 x v _ I1 r1 q1) fun _ s2 q => q
theorem aS {i : Nat} {x : Str} {e : Expr} {te : TE} {pos' : Pos} (hN : X.N.Nodup) (hi : X.N[i]? = some x) (hx : Loc X.env.scope x) (he : PE X e te) (hs : swapsWith e (some (.Name x pos')) pos.line X.env = pure false := by rfl) (hf : X.fn x = true \/ X.env.scope.names.lookup x = some .local := by first | exact .inl rfl | exact .inr rfl | assumption) :
    PS X (.Assign [.Name x pos'] e pos) (zkl te (aZ i)) := by
  intro pins s σ H D I h
  refine wpAny_Assign_Name (thn (he pins s σ H _ I h) fun v s1 zz => ?_) hs
  obtain ⟨y, H1, I1, r1, q1⟩ := zz
  exact iS I1 hN hi hx r1 (fun s2 I2 => ⟨_, H1, I2, q1⟩) hf
def zpq (i j : Nat) (ta : TA) : TS := fun D σ H => ta σ H fun vs H1 => ∃ v w, vs = [v, w] /\ D.nx ((σ.set i (some v)).set j (some w)) H1
theorem zfq {i j : Nat} {x y : Str} {a b : Expr} {ta : TA} {px py pt : Pos} {kt k2 pt2} (hc : X.calm = true) (hN : X.N.Nodup) (hi : X.N[i]? = some x) (hj : X.N[j]? = some y) (hij : i ≠ j)
    (hx : X.env.scope.names.lookup x = some .local) (hy : X.env.scope.names.lookup y = some .local) (ha : PA X [a, b] ta)
    (hw : swappedStores [.Tuple [.Name x px, .Name y py] kt pt] (.Tuple [a, b] k2 pt2) X.env = pure (some [x, y]))
    (hs : swapsWithSole [.Tuple [.Name x px, .Name y py] kt pt] (.Tuple [a, b] k2 pt2) pos.line X.env = pure false := by rfl) :
    PS X (.Assign [.Tuple [.Name x px, .Name y py] kt pt] (.Tuple [a, b] k2 pt2) pos) (zpq i j ta) := by
  intro pins s σ H D I h
  rw [exec_Assign_arm]
  refine wpAny_bind (wpAny_standAt ?_)
  rw [hs]
  refine wpAny_bind (wpAny_pure ?_)
  rw [if_neg (by decide)]
  refine wpAny_bind (Tuple_ (thn (ha _ pins s σ H _ I h) fun us s1 zz => ?_))
  obtain ⟨vs, H1, I1, r1, q1⟩ := zz
  obtain ⟨v, w, e1, q1⟩ := q1
  subst e1
  obtain ⟨u1, u2, rfl, rv, rw'⟩ : ∃ u1 u2, us = [u1, u2] /\ cH v u1 /\ cH w u2 := by
    cases r1 with
    | cons p q =>
      cases q with
      | cons p' q' =>
        cases q'
        exact ⟨_, _, rfl, p, p'⟩
  refine wpAny_newObj_type ?_ (by show 2 <= sizeLine; decide)
  have I2 : Inv X pins σ H1 { s1 with heap := s1.heap.push { cls := .type "tuple", data := .seq [u1, u2].toArray } } := I1.kept (t' := s1.toks) fun b o e => Heap.get?_push_of_some _ e
  rw [hw]
  refine wpAny_bind (wpAny_pure ?_)
  show wpAny (model X.prog X.w) X.A (do rule "assign.swapped-stores"; let items <- unpackItems (.ref s1.heap.objs.size) 2 none; assignInOrder [fun v => bindName X.env y v, fun v => bindName X.env x v] items.reverse; pure Flow.next) _ _ _
  refine wpAny_bind (wpAny_rule (wpAny_bind (unpackItems_tuple (items := #[u1, u2]) (I.ok.hd hc) (IsTup.new s1.heap _) fun h' hx' => ?_)))
  have I3 := I2.kept (h' := h') (t' := s1.toks) fun b o e => hx' b o (Nat.ne_of_lt (Heap.lt_size e)) e
  show wpAny _ _ (assignInOrder [fun v => bindName X.env y v, fun v => bindName X.env x v] [u2, u1] >>= fun _ => pure Flow.next) _ _ _
  refine wpAny_bind (assignInOrder_cons (wpAny_bindName (iS I3 hN hj (.inl hy) rw' (fun s2 I4 => ?_) (.inr hy))))
  refine assignInOrder_cons (wpAny_bindName (iS I4 hN hi (.inl hx) rv (fun s3 I5 => assignInOrder_nil (wpAny_pure ?_)) (.inr hx)))
  rw [List.set_comm _ _ (Ne.symm hij)] at I5
  exact ⟨_, H1, I5, q1⟩
end
section
variable {X : Cx} {pos : Pos}
end
structure It where
  go : Nat -> Hp -> Prop
  yld : Nat -> Hp -> V -> Hp -> Prop
  stop : Nat -> Hp -> Prop
def jK (X : Cx) (pins : List (Addr × Obj)) (H : Hp) (b : Addr) : Prop :=
  H b = none /\ b ≠ X.env.locals /\ b ∉ X.fs /\ (b ∈ X.ex \/ X.s₀.heap.objs.size <= b) /\ (∀ x c, X.env.cells.lookup x = some c -> c ≠ b) /\ ∀ p ∈ X.pn ++ pins, p.1 ≠ b
theorem Inv.fpOk {X : Cx} {pins : List (Addr × Obj)} {σ : St} {H H' : Hp} {s : Shared} {b : Addr} (I : Inv X pins σ H s) (hb : s.heap.objs.size <= b) (hn : H' b = none) : jK X pins H' b := by
  refine ⟨hn, Nat.ne_of_gt (Nat.lt_of_lt_of_le I.lt hb), I.nofs hb, .inr (Nat.le_trans I.sz hb), fun x c e z => ?_, fun p hp z => ?_⟩
  . obtain ⟨v, q⟩ := I.cell x c e
    exact absurd (Nat.lt_of_lt_of_le q.lt (by rw [z]; exact hb)) (Nat.lt_irrefl _)
  . exact absurd (Nat.lt_of_lt_of_le (Heap.lt_size (I.pin p hp).1) (by rw [z]; exact hb)) (Nat.lt_irrefl _)
structure xU (P : Program) (w : World) (K : W.Frag) (tg : Expr) (J : It) (fp : List Addr) (it : Addr) (tn : Nat -> Heap -> Prop) : Prop where
  mem : it ∈ fp
  obj : ∀ i h, tn i h -> ∀ b ∈ fp, ∃ o, h.get? b = some o /\ ∀ v, o.data ≠ .cell v
  keep : ∀ i h h', tn i h -> (∀ b ∈ fp, ∀ o, h.get? b = some o -> h'.get? b = some o) -> tn i h'
  item : ∀ (X : Cx), X.prog = P -> X.w = w -> X.K = K -> X.calm = true -> ∀ (i : Nat) (pins : List (Addr × Obj)) (s : Shared) (σ : St) (H : Hp) (E : Value -> Shared -> Prop), Inv X pins σ H s -> (∀ b ∈ fp, jK X pins H b) -> tn i s.heap -> J.go i H ->
    wpAny (model P w) X.A (pyNext (.ref it)) (fun r s1 => ∃ u, r = some u /\
      wpAny (model P w) X.A (letOwnedTupleGo tg (.ref it) u) (fun _ s2 => ∃ x H', Inv X pins σ H' s2 /\ cH x u /\ J.yld i H x H' /\ tn (i + 1) s2.heap /\ ∀ b ∈ fp, H' b = none) E s1) E s
  done : ∀ (X : Cx), X.prog = P -> X.w = w -> X.K = K -> X.calm = true -> ∀ (i : Nat) (pins : List (Addr × Obj)) (s : Shared) (σ : St) (H : Hp) (E : Value -> Shared -> Prop), Inv X pins σ H s -> (∀ b ∈ fp, jK X pins H b) -> tn i s.heap -> J.stop i H ->
    wpAny (model P w) X.A (pyNext (.ref it)) (fun r s1 => r = none /\ Inv X pins σ H s1) E s
  self : ∀ (A : Around) (i : Nat) (s : Shared) (Q : Value -> Shared -> Prop) (E : Value -> Shared -> Prop), tn i s.heap -> Q (.ref it) s -> wpAny (model P w) A (pyIter (.ref it)) Q E s
abbrev TI := St -> Hp -> (It -> Hp -> Prop) -> Prop
def PIE (X : Cx) (pins : List (Addr × Obj)) (σ : St) (tg : Expr) (R : It -> Hp -> Prop) (itv : Value) (s2 : Shared) : Prop :=
  ∃ (it : Addr) (fp : List Addr) (tn : Nat -> Heap -> Prop) (J : It) (H' : Hp), itv = .ref it /\ Inv X pins σ H' s2 /\ xU X.prog X.w X.K tg J fp it tn /\ tn 0 s2.heap /\ (∀ b ∈ fp, jK X pins H' b) /\ R J H'
def PI (X : Cx) (tg iter : Expr) (wi : TI) : Prop :=
  ∀ (pins : List (Addr × Obj)) (s : Shared) (σ : St) (H : Hp) (R : It -> Hp -> Prop), Inv X pins σ H s -> wi σ H R ->
    wpAny (model X.prog X.w) X.A (eval iter X.env) (fun v s1 => wpAny (model X.prog X.w) X.A (pyIter v) (PIE X pins σ tg R) X.xe s1) X.xe s
theorem zea {M : Model} {A : Around} {E : Value -> Shared -> Prop} {s : Shared} {tg : Expr} {it : Addr} {u : Value} {o : Obj} {n : String} {vs : Array Value} {Q : Unit -> Shared -> Prop} (ho : s.heap.get? it = some o) (hc : o.cls = .type n) (hd : o.data = .fields vs)
    (hn : ["enumerate", "zip", "dict_itemiterator", "dict_reverseitemiterator", "odict_iterator", "itertools.zip_longest", "itertools.pairwise"].contains n = false) (hQ : Q () s) : wpAny M A (letOwnedTupleGo tg (.ref it) u) Q E s := by
  unfold letOwnedTupleGo
  cases tg <;> first
    | exact wpAny_pure hQ
    | (cases u <;> first
        | exact wpAny_pure hQ
        | (refine wpAny_bind (wpAny_load ho ?_)
           rw [hc, hd]
           show wpAny M A (if (["enumerate", "zip", "dict_itemiterator", "dict_reverseitemiterator", "odict_iterator", "itertools.zip_longest", "itertools.pairwise"].contains n && vs[0]? == some (rawInt _)) = true then _ else _) Q E s
           rw [if_neg (by intro h; rw [hn, Bool.false_and] at h; cases h)]
           exact wpAny_pure hQ))
def Itl (K : W.Frag) (a : Addr) : It :=
  ⟨fun i H => ∃ xs x, SqL K H a xs /\ xs[i]? = some x, fun i H x H' => H' = H /\ ∀ xs, SqL K H a xs -> xs[i]? = some x, fun i H => ∃ xs, SqL K H a xs /\ xs.length <= i⟩
def Itt (K : W.Frag) (a : Addr) : It :=
  ⟨fun i H => ∃ xs x, SqT K H a xs /\ xs[i]? = some x, fun i H x H' => H' = H /\ ∀ xs, SqT K H a xs -> xs[i]? = some x, fun i H => ∃ xs, SqT K H a xs /\ xs.length <= i⟩
def Itr (lo : Int) (n : Nat) : It := ⟨fun i _ => i < n, fun i H x H' => H' = H /\ x = .int (lo + i), fun i _ => n <= i⟩
theorem yX {P : Program} {w : World} {K : W.Frag} {tg : Expr} (a it : Addr) : xU P w K tg (Itl K a) [it] it (fun i h => h.IsListIter it a i) where
  mem := by simp
  obj := fun i h st b hb => by
    have e : b = it := by simpa using hb
    subst e
    obtain ⟨o, e, c, d⟩ := st
    exact ⟨o, e, fun v z => by rw [d] at z; cases z⟩
  keep := fun i h h' st k => st.at fun o e => k it (by simp) o e
  item := by
    intro X hP hw hK hc i pins s σ H E I hf st hg
    subst hP hw hK
    obtain ⟨xs, x, hq, hx⟩ := hg
    obtain ⟨its, rv, p, hz⟩ := I.list hq
    obtain ⟨u, hu, ru⟩ := rv.get hx
    obtain ⟨f0, f1, f2, f3, f4, f5⟩ := hf it (by simp)
    refine wpAny_pyNext_list_item st p.isList (x := u) (by simpa using hu) fun h' st' sb => ?_
    have I1 : Inv X pins σ H { s with heap := h' } := I.turned (t' := s.toks) (fun b o hb e => (sb.2 b hb).trans e) f0 f1 f3 f4 f5
    obtain ⟨o, e, c, d⟩ := id st'
    exact ⟨u, rfl, zea (s := { s with heap := h' }) e c d (by decide) ⟨x, H, I1, ru, ⟨rfl, fun ys hy => by rw [I.list_inj hy hq]; exact hx⟩, st', fun b hb => (hf b hb).1⟩⟩
  done := by
    intro X hP hw hK hc i pins s σ H E I hf st hg
    subst hP hw hK
    obtain ⟨xs, hq, hx⟩ := hg
    obtain ⟨its, rv, p, hz⟩ := I.list hq
    obtain ⟨f0, f1, f2, f3, f4, f5⟩ := hf it (by simp)
    have hl := rv.length
    exact wpAny_pyNext_list_end (I.ok.hd hc) st p.isList (by simp; omega) fun h' eb => ⟨rfl, I.turned (t' := s.toks) (fun b o hb e => eb b o hb e) f0 f1 f3 f4 f5⟩
  self := fun _ _ _ _ _ st h => wpAny_pyIter_listiter st h
theorem vR {P : Program} {w : World} {K : W.Frag} {tg : Expr} (a it : Addr) : xU P w K tg (Itt K a) [it] it (fun i h => h.IsTupleIter it a i) where
  mem := by simp
  obj := fun i h st b hb => by
    have e : b = it := by simpa using hb
    subst e
    obtain ⟨o, e, c, d⟩ := st
    exact ⟨o, e, fun v z => by rw [d] at z; cases z⟩
  keep := fun i h h' st k => st.at fun o e => k it (by simp) o e
  item := by
    intro X hP hw hK hc i pins s σ H E I hf st hg
    subst hP hw hK
    obtain ⟨xs, x, hq, hx⟩ := hg
    obtain ⟨its, rv, p, hz⟩ := I.tuple hq
    obtain ⟨u, hu, ru⟩ := rv.get hx
    obtain ⟨f0, f1, f2, f3, f4, f5⟩ := hf it (by simp)
    refine wpAny_pyNext_tuple_item st (show s.heap.IsTuple a its.toArray from p) (x := u) (by simpa using hu) fun h' st' sb => ?_
    have I1 : Inv X pins σ H { s with heap := h' } := I.turned (t' := s.toks) (fun b o hb e => (sb.2 b hb).trans e) f0 f1 f3 f4 f5
    obtain ⟨o, e, c, d⟩ := id st'
    exact ⟨u, rfl, zea (s := { s with heap := h' }) e c d (by decide) ⟨x, H, I1, ru, ⟨rfl, fun ys hy => by rw [I.tuple_inj hy hq]; exact hx⟩, st', fun b hb => (hf b hb).1⟩⟩
  done := by
    intro X hP hw hK hc i pins s σ H E I hf st hg
    subst hP hw hK
    obtain ⟨xs, hq, hx⟩ := hg
    obtain ⟨its, rv, p, hz⟩ := I.tuple hq
    obtain ⟨f0, f1, f2, f3, f4, f5⟩ := hf it (by simp)
    have hl := rv.length
    exact wpAny_pyNext_tuple_end (I.ok.hd hc) st (show s.heap.IsTuple a its.toArray from p) (by simp; omega) fun h' eb => ⟨rfl, I.turned (t' := s.toks) (fun b o hb e => eb b o hb e) f0 f1 f3 f4 f5⟩
  self := fun _ _ _ _ _ st h => wpAny_pyIter_tupleiter st h
theorem wC {P : Program} {w : World} {K : W.Frag} {tg : Expr} (it : Addr) (lo : Int) (n : Nat) : xU P w K tg (Itr lo n) [it] it (fun i h => IsRangeIter h it (lo + (i : Nat) * 1) ((n : Int) - (i : Nat)) 1) where
  mem := by simp
  obj := fun i h st b hb => by
    have e : b = it := by simpa using hb
    subst e
    exact ⟨_, st, fun v z => by
      have z' : Data.fields _ = Data.cell v := z
      cases z'⟩
  keep := fun i h h' st k => k it (by simp) _ st
  item := by
    intro X hP hw hK hc i pins s σ H E I hf st hg
    subst hP hw hK
    obtain ⟨f0, f1, f2, f3, f4, f5⟩ := hf it (by simp)
    have W := Walks.range (prog := X.prog) (w := X.w) (I.ok.hd hc) it lo 1 n
    refine W.item i s _ _ hg st fun v h' tk hv st' kk => ?_
    obtain ⟨t, rfl⟩ := hv
    have I1 : Inv X pins σ H { s with heap := h', toks := tk } := I.turned (fun b o hb e => kk b o (by simpa using hb) e) f0 f1 f3 f4 f5
    refine ⟨_, rfl, zea (s := { s with heap := h', toks := tk }) (n := "range_iterator") st' rfl rfl (by decide) ⟨.int (lo + i), H, I1, ⟨t, ?_⟩, ⟨rfl, rfl⟩, st', fun b hb => (hf b hb).1⟩⟩
    rw [Int.mul_one]
  done := by
    intro X hP hw hK hc i pins s σ H E I hf st hg
    subst hP hw hK
    obtain ⟨f0, f1, f2, f3, f4, f5⟩ := hf it (by simp)
    exact wpAny_pyNext_range_end (I.ok.hd hc) st (by have : n <= i := hg; omega) fun h' eb => ⟨rfl, I.turned (t' := s.toks) (fun b o hb e => eb b o hb e) f0 f1 f3 f4 f5⟩
  self := fun _ _ _ _ _ st h => wpAny_pyIter_rangeiter st h
section
variable {X : Cx} {tg : Expr}
def zeq (K : W.Frag) (tl : TE) : TI := fun σ H R => tl σ H fun x H1 => ∃ a, x = .ref a /\ (∃ xs, SqL K H1 a xs) /\ R (Itl K a) H1
def zbE (K : W.Frag) (tl : TE) : TI := fun σ H R => tl σ H fun x H1 => ∃ a, x = .ref a /\ (∃ xs, SqT K H1 a xs) /\ R (Itt K a) H1
theorem cS {l : Expr} {tl : TE} (hl : PE X l tl) : PI X tg l (zeq X.K tl) := by
  intro pins s σ H R I h
  refine thn (hl pins s σ H _ I h) fun v s1 zz => ?_
  obtain ⟨x, H1, I1, r1, q1⟩ := zz
  obtain ⟨a, e, ⟨xs, hq⟩, q⟩ := q1
  subst e
  cases r1
  obtain ⟨its, rv, p, hz⟩ := I1.list hq
  refine wpAny_pyIter_list p.isList ?_
  refine ⟨s1.heap.objs.size, [s1.heap.objs.size], _, _, H1, rfl, I1.kept (t' := s1.toks) fun b o e => Heap.get?_push_of_some _ e, yX a _, ⟨_, Heap.get?_push_size _ rfl, rfl, rfl⟩, fun b hb => ?_, q⟩
  have e : b = s1.heap.objs.size := by simpa using hb
  subst e
  exact I1.fpOk (Nat.le_refl _) (I1.hok.fresh (Nat.le_refl _))
theorem jA {l : Expr} {tl : TE} (hl : PE X l tl) : PI X tg l (zbE X.K tl) := by
  intro pins s σ H R I h
  refine thn (hl pins s σ H _ I h) fun v s1 zz => ?_
  obtain ⟨x, H1, I1, r1, q1⟩ := zz
  obtain ⟨a, e, ⟨xs, hq⟩, q⟩ := q1
  subst e
  cases r1
  obtain ⟨its, rv, p, hz⟩ := I1.tuple hq
  refine wpAny_pyIter_tuple (show s1.heap.IsTuple a its.toArray from p) ?_
  refine ⟨s1.heap.objs.size, [s1.heap.objs.size], _, _, H1, rfl, I1.kept (t' := s1.toks) fun b o e => Heap.get?_push_of_some _ e, vR a _, ⟨_, Heap.get?_push_size _ rfl, rfl, rfl⟩, fun b hb => ?_, q⟩
  have e : b = s1.heap.objs.size := by simpa using hb
  subst e
  exact I1.fpOk (Nat.le_refl _) (I1.hok.fresh (Nat.le_refl _))
theorem zaM {pins : List (Addr × Obj)} {σ : St} {H : Hp} {s : Shared} {R : It -> Hp -> Prop} {E : Value -> Shared -> Prop} {lo hi : Int} {t u v : Tok} {tk : Nat} (I : Inv X pins σ H s) (h1 : -(2 ^ 62) <= lo) (h2 : lo < 2 ^ 62) (h3 : -(2 ^ 62) <= hi) (h4 : hi < 2 ^ 62)
    (q : R (Itr lo (hi - lo).toNat) H) : wpAny (model X.prog X.w) X.A (pyIter (.ref s.heap.objs.size)) (PIE X pins σ tg R) E { s with heap := s.heap.push { cls := .type "range", data := .fields #[.int lo t, .int hi u, .int 1 v] }, toks := tk } := by
  refine wpAny_pyIter_range (IsRange.new ..) (small_one h1 h2 h3 h4) ?_
  have I1 : Inv X pins σ H { s with heap := s.heap.push { cls := .type "range", data := .fields #[.int lo t, .int hi u, .int 1 v] }, toks := tk } := I.kept fun b o e => Heap.get?_push_of_some _ e
  refine ⟨(s.heap.push { cls := .type "range", data := .fields #[.int lo t, .int hi u, .int 1 v] }).objs.size, [(s.heap.push { cls := .type "range", data := .fields #[.int lo t, .int hi u, .int 1 v] }).objs.size], _, _, H, rfl,
    I1.kept (t' := tk) fun b o e => Heap.get?_push_of_some _ e, wC _ lo (hi - lo).toNat, ?_, fun b hb => ?_, q⟩
  . have e1 : lo + ((0 : Nat) : Int) * 1 = lo := by simp
    have e2 : (((hi - lo).toNat : Nat) : Int) - ((0 : Nat) : Int) = Builtin.Range.rangeSize lo hi 1 := by rw [rangeSize_one]; split <;> omega
    show IsRangeIter _ _ (lo + ((0 : Nat) : Int) * 1) ((((hi - lo).toNat : Nat) : Int) - ((0 : Nat) : Int)) 1
    rw [e1, e2]
    exact Heap.get?_push_size _ rfl
  . have e : b = (s.heap.push { cls := .type "range", data := .fields #[.int lo t, .int hi u, .int 1 v] }).objs.size := by simpa using hb
    subst e
    exact I1.fpOk (Nat.le_refl _) (I1.hok.fresh (Nat.le_refl _))
def zmA (ta : TA) : TI := fun σ H R => ta σ H fun vs H1 => ∃ j : Int, vs = [.int j] /\ -(2 ^ 62) <= j /\ j < 2 ^ 62 /\ R (Itr 0 j.toNat) H1
theorem dG {a : Expr} {ta : TA} {p pos : Pos} (hg : Gl X "range") (hm : X.mg "range" = none) (ha : PA X [a] ta) (hs : starEach [a] X.env = [(false, eval a X.env)] := by rfl) : PI X tg (.Call (.Name "range" p) [a] [] pos) (zmA ta) := by
  intro pins s σ H R I h
  refine Call_ (kN I hg hm boot_range (PyProof.Rows.callWith_type1 (thn (ha pos pins s σ H _ I h) fun us s1 zz => ?_) hs rfl))
  obtain ⟨vs, H1, I1, r1, q1⟩ := zz
  obtain ⟨j, e, q1, q2, q⟩ := q1
  subst e
  cases r1 with
  | cons r rr =>
    cases rr
    obtain ⟨t, rfl⟩ := r
    exact call_range_1 (zaM I1 (by omega) (by omega) q1 q2 (by simpa using q))
def zpw (wi : TI) (g : TG) (tb : TS) : TS := fun D σ H => wi σ H fun J H1 => ∃ W : Nat -> Nat -> St -> Hp -> Prop, (∃ m, W 0 m σ H1) /\ ∀ i m σ H, W i m σ H ->
  (J.stop i H /\ D.nx σ H) \/ (J.go i H /\ ∃ N : St -> Hp -> Prop, (∀ σ' H', N σ' H' -> ∃ m', m' < m /\ W (i + 1) m' σ' H') /\ ∀ x H', J.yld i H x H' -> g x σ H' fun σ2 H2 => tb { D with nx := N, ct := N, bk := D.nx } σ2 H2)
def nF (fp : List Addr) (h : Heap) : List (Addr × Obj) := fp.filterMap fun b => (h.get? b).map fun o => (b, o)
theorem gJ {fp : List Addr} {h : Heap} {b : Addr} {o : Obj} (hb : b ∈ fp) (e : h.get? b = some o) : (b, o) ∈ nF fp h := List.mem_filterMap.mpr ⟨b, hb, by rw [e]; rfl⟩
theorem zM {fp : List Addr} {h : Heap} {p : Addr × Obj} (hp : p ∈ nF fp h) : p.1 ∈ fp /\ h.get? p.1 = some p.2 := by
  obtain ⟨b, hb, e⟩ := List.mem_filterMap.mp hp
  cases q : h.get? b with
  | none => rw [q] at e; cases e
  | some o =>
    rw [q] at e
    have e' : (b, o) = p := Option.some.inj e
    subst e'
    exact ⟨hb, q⟩
theorem Inv.pinned {pins : List (Addr × Obj)} {σ : St} {H : Hp} {s : Shared} {fp : List Addr} (I : Inv X pins σ H s) (hf : ∀ b ∈ fp, jK X pins H b) (ho : ∀ b ∈ fp, ∃ o, s.heap.get? b = some o /\ ∀ v, o.data ≠ .cell v) : Inv X (pins ++ nF fp s.heap) σ H s :=
  I.pins_of fun p hp => (List.mem_append.mp hp).elim (fun z => I.pin p (List.mem_append_right _ z)) fun z => by
    obtain ⟨hb, e⟩ := zM z
    obtain ⟨f0, f1, f2, _⟩ := hf p.1 hb
    obtain ⟨o, e', d⟩ := ho p.1 hb
    rw [e] at e'; cases e'
    exact ⟨e, f0, f1, f2, d⟩
theorem Inv.unpinned {pins pl : List (Addr × Obj)} {σ : St} {H : Hp} {s : Shared} (I : Inv X (pins ++ pl) σ H s) : Inv X pins σ H s := I.pins_of fun p hp => I.pin p (List.mem_append_right _ (List.mem_append_left _ hp))
theorem fH {iter : Expr} {body : List Stmt} {wi : TI} {g : TG} {tb : TS} {pos : Pos} (hp : PassesOwn (model X.prog X.w) X.A X.env X.xe) (hc : X.calm = true) (hi : PI X tg iter wi) (hg : PG X tg g) (hb : PSs X body tb)
    (hs : ∀ x, foldedSetIterable iter X.env x = pure x := by intro _; rfl) : PS X (.For tg iter body [] pos) (zpw wi g tb) := by
  intro pins s σ H D I h
  refine wpAny_For (thn (hi pins s σ H _ I h) fun v s1 h1 => thn h1 fun itv s2 h2 => ?_) hs
  obtain ⟨it, fp, tn, J, H2, e, I2, T, st2, f2, W, ⟨m0, w0⟩, turn⟩ := h2
  subst e
  -- what stays true of the iterator's objects through the loop
  have stat : ∀ {H' : Hp}, (∀ b ∈ fp, H' b = none) -> ∀ b ∈ fp, jK X pins H' b := fun hn b hb => ⟨hn b hb, (f2 b hb).2⟩
  refine codeAny_forLoop_any (fun n s' => ∃ i σ' H', Inv X pins σ' H' s' /\ tn i s'.heap /\ (∀ b ∈ fp, H' b = none) /\ W i n σ' H') ?_ m0 ⟨0, σ, H2, I2, st2, fun b hb => (f2 b hb).1, w0⟩
  rintro n s3 ⟨i, σ3, H3, I3, st3, fr3, w3⟩
  rcases turn i n σ3 H3 w3 with ⟨stop, qn⟩ | ⟨go, N, hN, step⟩
  . refine wpAny_passesOwn hp (thn (T.done X rfl rfl rfl hc i pins s3 σ3 H3 X.xe I3 (stat fr3) st3 stop) fun r s4 zz => ?_)
    obtain ⟨hr, I4⟩ := zz
    subst hr
    exact wpAny_execs_nil ⟨σ3, H3, I4, qn⟩
  . refine wpAny_passesOwn hp (thn (T.item X rfl rfl rfl hc i pins s3 σ3 H3 X.xe I3 (stat fr3) st3 go) fun r s4 zz => ?_)
    obtain ⟨u, hr, h4⟩ := zz
    subst hr
    refine wpAny_passesOwn hp (thn h4 fun _ s5 zz => ?_)
    obtain ⟨x, H5, I5, r5, y5, st5, fr5⟩ := zz
    have I5' := I5.pinned (stat fr5) (T.obj _ _ st5)
    refine wpAny_passesOwn hp (thn (hg _ s5 σ3 H5 x u _ I5' r5 (step x H5 y5)) fun _ s6 zz => ?_)
    obtain ⟨σ6, H6, I6, q6⟩ := zz
    refine wpAny_passesOwn hp (thn (hb _ s6 σ6 H6 _ I6 q6) fun f s7 q7 => ?_)
    have again : ∀ {σ7 : St} {H7 : Hp}, Inv X (pins ++ nF fp s5.heap) σ7 H7 s7 -> N σ7 H7 -> ∃ m, m < n /\ ∃ i σ' H', Inv X pins σ' H' s7 /\ tn i s7.heap /\ (∀ b ∈ fp, H' b = none) /\ W i m σ' H' := fun {σ7 H7} I7 n7 => by
      obtain ⟨m', hm, w7⟩ := hN σ7 H7 n7
      refine ⟨m', hm, i + 1, σ7, H7, I7.unpinned, T.keep _ _ _ st5 fun b hb o e => (I7.pin (b, o) (List.mem_append_right _ (List.mem_append_right _ (gJ hb e)))).1, fun b hb => ?_, w7⟩
      obtain ⟨o, e, d⟩ := T.obj _ _ st5 b hb
      exact (I7.pin (b, o) (List.mem_append_right _ (List.mem_append_right _ (gJ hb e)))).2.1
    cases f with
    | next => obtain ⟨σ7, H7, I7, n7⟩ := q7; exact again I7 n7
    | cont => obtain ⟨σ7, H7, I7, n7⟩ := q7; exact again I7 n7
    | brk => obtain ⟨σ7, H7, I7, q7⟩ := q7; exact ⟨σ7, H7, I7.unpinned, q7⟩
    | ret v => obtain ⟨x7, σ7, H7, I7, r7, q7⟩ := q7; exact ⟨x7, σ7, H7, I7.unpinned, r7, q7⟩
end
theorem gU {K : W.Frag} {a : Addr} {xs : List V} {g : TG} {tb : TS} {D : iC} {σ : St} {H : Hp} (Pv : Nat -> St -> Hp -> Prop) (h0 : Pv 0 σ H) (hl : ∀ i σ H, i <= xs.length -> Pv i σ H -> SqL K H a xs)
    (hs : ∀ i x σ H, xs[i]? = some x -> Pv i σ H -> g x σ H fun σ2 H2 => tb { D with nx := Pv (i + 1), ct := Pv (i + 1), bk := D.nx } σ2 H2) (hd : ∀ σ H, Pv xs.length σ H -> D.nx σ H) :
    ∃ W : Nat -> Nat -> St -> Hp -> Prop, (∃ m, W 0 m σ H) /\ ∀ i m σ H, W i m σ H ->
      ((Itl K a).stop i H /\ D.nx σ H) \/ ((Itl K a).go i H /\ ∃ N : St -> Hp -> Prop, (∀ σ' H', N σ' H' -> ∃ m', m' < m /\ W (i + 1) m' σ' H') /\ ∀ x H', (Itl K a).yld i H x H' -> g x σ H' fun σ2 H2 => tb { D with nx := N, ct := N, bk := D.nx } σ2 H2) := by
  refine ⟨fun i m σ H => m = xs.length - i /\ i <= xs.length /\ Pv i σ H, ⟨xs.length, by simp, Nat.zero_le _, h0⟩, ?_⟩
  rintro i m σ H ⟨rfl, hi, p⟩
  have q := hl i σ H hi p
  by_cases hlt : i < xs.length
  . refine .inr ⟨⟨xs, xs[i], q, by simp [hlt]⟩, Pv (i + 1), fun σ' H' p' => ⟨xs.length - (i + 1), by omega, rfl, hlt, p'⟩, fun x H' y => ?_⟩
    obtain ⟨e, y⟩ := y
    subst e
    exact hs i x σ _ (y xs q) p
  . have e : i = xs.length := by omega
    subst e
    exact .inl ⟨⟨xs, q, Nat.le_refl _⟩, hd σ H p⟩
theorem pP {K : W.Frag} {a : Addr} {xs : List V} {g : TG} {tb : TS} {D : iC} {σ : St} {H : Hp} (Pv : Nat -> St -> Hp -> Prop) (h0 : Pv 0 σ H) (hl : ∀ i σ H, i <= xs.length -> Pv i σ H -> SqT K H a xs)
    (hs : ∀ i x σ H, xs[i]? = some x -> Pv i σ H -> g x σ H fun σ2 H2 => tb { D with nx := Pv (i + 1), ct := Pv (i + 1), bk := D.nx } σ2 H2) (hd : ∀ σ H, Pv xs.length σ H -> D.nx σ H) :
    ∃ W : Nat -> Nat -> St -> Hp -> Prop, (∃ m, W 0 m σ H) /\ ∀ i m σ H, W i m σ H ->
      ((Itt K a).stop i H /\ D.nx σ H) \/ ((Itt K a).go i H /\ ∃ N : St -> Hp -> Prop, (∀ σ' H', N σ' H' -> ∃ m', m' < m /\ W (i + 1) m' σ' H') /\ ∀ x H', (Itt K a).yld i H x H' -> g x σ H' fun σ2 H2 => tb { D with nx := N, ct := N, bk := D.nx } σ2 H2) := by
  refine ⟨fun i m σ H => m = xs.length - i /\ i <= xs.length /\ Pv i σ H, ⟨xs.length, by simp, Nat.zero_le _, h0⟩, ?_⟩
  rintro i m σ H ⟨rfl, hi, p⟩
  have q := hl i σ H hi p
  by_cases hlt : i < xs.length
  . refine .inr ⟨⟨xs, xs[i], q, by simp [hlt]⟩, Pv (i + 1), fun σ' H' p' => ⟨xs.length - (i + 1), by omega, rfl, hlt, p'⟩, fun x H' y => ?_⟩
    obtain ⟨e, y⟩ := y
    subst e
    exact hs i x σ _ (y xs q) p
  . have e : i = xs.length := by omega
    subst e
    exact .inl ⟨⟨xs, q, Nat.le_refl _⟩, hd σ H p⟩
theorem mQ {lo : Int} {n : Nat} {g : TG} {tb : TS} {D : iC} {σ : St} {H : Hp} (Pv : Nat -> St -> Hp -> Prop) (h0 : Pv 0 σ H)
    (hs : ∀ i σ H, i < n -> Pv i σ H -> g (.int (lo + i)) σ H fun σ2 H2 => tb { D with nx := Pv (i + 1), ct := Pv (i + 1), bk := D.nx } σ2 H2) (hd : ∀ σ H, Pv n σ H -> D.nx σ H) :
    ∃ W : Nat -> Nat -> St -> Hp -> Prop, (∃ m, W 0 m σ H) /\ ∀ i m σ H, W i m σ H ->
      ((Itr lo n).stop i H /\ D.nx σ H) \/ ((Itr lo n).go i H /\ ∃ N : St -> Hp -> Prop, (∀ σ' H', N σ' H' -> ∃ m', m' < m /\ W (i + 1) m' σ' H') /\ ∀ x H', (Itr lo n).yld i H x H' -> g x σ H' fun σ2 H2 => tb { D with nx := N, ct := N, bk := D.nx } σ2 H2) := by
  refine ⟨fun i m σ H => m = n - i /\ i <= n /\ Pv i σ H, ⟨n, by simp, Nat.zero_le _, h0⟩, ?_⟩
  rintro i m σ H ⟨rfl, hi, p⟩
  by_cases hlt : i < n
  . refine .inr ⟨hlt, Pv (i + 1), fun σ' H' p' => ⟨n - (i + 1), by omega, rfl, hlt, p'⟩, fun x H' y => ?_⟩
    obtain ⟨e, y⟩ := y
    subst e y
    exact hs i σ _ hlt p
  . have e : i = n := by omega
    subst e
    exact .inl ⟨Nat.le_refl _, hd σ H p⟩
abbrev R2 := V -> V -> Hp -> VK -> Prop
def OpR (X : Cx) (f : Value -> Value -> Sem Value) (r : R2) : Prop :=
  ∀ (pins : List (Addr × Obj)) (s : Shared) (σ : St) (H : Hp) (x y : V) (v u : Value) (Q : VK), Inv X pins σ H s -> cH x v -> cH y u -> r x y H Q ->
    wpAny (model X.prog X.w) X.A (f v u) (EP X pins σ Q) X.xe s
def UnR (X : Cx) (f : Value -> Sem Value) (r : V -> Hp -> VK -> Prop) : Prop :=
  ∀ (pins : List (Addr × Obj)) (s : Shared) (σ : St) (H : Hp) (x : V) (v : Value) (Q : VK), Inv X pins σ H s -> cH x v -> r x H Q ->
    wpAny (model X.prog X.w) X.A (f v) (EP X pins σ Q) X.xe s
def fD (X : Cx) (f : Value) (r : List V -> Hp -> VK -> Prop) : Prop :=
  ∀ (pins : List (Addr × Obj)) (s : Shared) (σ : St) (H : Hp) (xs : List V) (us : List Value) (Q : VK), Inv X pins σ H s -> cA xs us -> r xs H Q ->
    wpAny (model X.prog X.w) X.A (call f us) (EP X pins σ Q) X.xe s
def tOp (r : R2) (ta tb : TE) : TE := fun σ H Q => ta σ H fun x H1 => tb σ H1 fun y H2 => r x y H2 Q
def tUn (r : V -> Hp -> VK -> Prop) (ta : TE) : TE := fun σ H Q => ta σ H fun x H1 => r x H1 Q
def rI (C : Int -> Int -> Prop) (g : Int -> Int -> V) : R2 := fun x y H Q => ∃ i j, x = .int i /\ y = .int j /\ C i j /\ Q (g i j) H
def rI0 (g : Int -> Int -> V) : R2 := fun x y H Q => ∃ i j, x = .int i /\ y = .int j /\ Q (g i j) H
def rU (g : Int -> V) : V -> Hp -> VK -> Prop := fun x H Q => ∃ i, x = .int i /\ Q (g i) H
section
variable {X : Cx} {a b c : Expr} {ta tb tc : TE} {pos : Pos}
theorem zmv (ha : PE X a ta) (hb : PE X b tb) {pins : List (Addr × Obj)} {s : Shared} {σ : St} {H : Hp} {R : V -> V -> Hp -> Prop} (I : Inv X pins σ H s)
    (h : ta σ H fun x H1 => tb σ H1 fun y H2 => R x y H2) {Q : Value -> Shared -> Prop} {f : Value -> Value -> Sem Value}
    (hf : ∀ v u s2 x y H2, Inv X pins σ H2 s2 -> cH x v -> cH y u -> R x y H2 -> wpAny (model X.prog X.w) X.A (f v u) Q X.xe s2) :
    wpAny (model X.prog X.w) X.A (eval a X.env) (fun v s₁ => wpAny (model X.prog X.w) X.A (eval b X.env) (fun u s₂ => wpAny (model X.prog X.w) X.A (f v u) Q X.xe s₂) X.xe s₁) X.xe s := by
  refine thn (ha pins s σ H _ I h) fun v s1 zz => ?_
  obtain ⟨x, H1, I1, r1, q1⟩ := zz
  refine thn (hb pins s1 σ H1 _ I1 q1) fun u s2 zz => ?_
  obtain ⟨y, H2, I2, r2, q2⟩ := zz
  exact hf v u s2 x y H2 I2 r1 r2 q2
theorem aW {op : Operator} {r : R2} (ho : OpR X (binaryOp op) r) (ha : PE X a ta) (hb : PE X b tb) : PE X (.BinOp a op b pos) (tOp r ta tb) := by
  intro pins s σ H Q I h
  exact wpAny_BinOp (zmv ha hb I h fun v u s2 x y H2 I2 rx ry q => ho pins s2 σ H2 x y v u Q I2 rx ry q)
theorem znY {op : UnaryOp} {r : V -> Hp -> VK -> Prop} (ho : UnR X (unaryOp op) r) (ha : PE X a ta) : PE X (.UnaryOp op a pos) (tUn r ta) := by
  intro pins s σ H Q I h
  exact UnaryOp_ (thn (ha pins s σ H _ I h) fun v s1 ⟨x, H1, I1, r1, q1⟩ => ho pins s1 σ H1 x v Q I1 r1 q1)
theorem opI {f : Value -> Value -> Sem Value} {C : Int -> Int -> Prop} {g : Int -> Int -> Int}
    (rule : ∀ (i j : Int) (t u : Tok) (s : Shared) (Q : Value -> Shared -> Prop) (E : Value -> Shared -> Prop), C i j -> Q (.int (g i j) s.toks) { s with toks := s.toks + 1 } -> wpAny (model X.prog X.w) X.A (f (.int i t) (.int j u)) Q E s) :
    OpR X f (rI C fun i j => .int (g i j)) := by
  intro pins s σ H x y v u Q I rx ry h
  obtain ⟨i, j, rfl, rfl, hc, q⟩ := h
  obtain ⟨t, rfl⟩ := rx
  obtain ⟨t', rfl⟩ := ry
  exact rule i j t t' s _ _ hc ⟨.int (g i j), H, I.tok _, ⟨_, rfl⟩, q⟩
theorem zoc {f : Value -> Value -> Sem Value} {g : Int -> Int -> Int}
    (rule : ∀ (i j : Int) (t u : Tok) (s : Shared) (Q : Value -> Shared -> Prop) (E : Value -> Shared -> Prop), Q (.int (g i j) s.toks) { s with toks := s.toks + 1 } -> wpAny (model X.prog X.w) X.A (f (.int i t) (.int j u)) Q E s) :
    OpR X f (rI0 fun i j => .int (g i j)) := by
  intro pins s σ H x y v u Q I rx ry h
  obtain ⟨i, j, rfl, rfl, q⟩ := h
  obtain ⟨t, rfl⟩ := rx
  obtain ⟨t', rfl⟩ := ry
  exact rule i j t t' s _ _ ⟨.int (g i j), H, I.tok _, ⟨_, rfl⟩, q⟩
theorem zmG {f : Value -> Value -> Sem Value} {g : Int -> Int -> Bool}
    (rule : ∀ (i j : Int) (t u : Tok) (s : Shared) (Q : Value -> Shared -> Prop) (E : Value -> Shared -> Prop), Q (.bool (g i j)) s -> wpAny (model X.prog X.w) X.A (f (.int i t) (.int j u)) Q E s) :
    OpR X f (rI0 fun i j => .bl (g i j)) := by
  intro pins s σ H x y v u Q I rx ry h
  obtain ⟨i, j, rfl, rfl, q⟩ := h
  obtain ⟨t, rfl⟩ := rx
  obtain ⟨t', rfl⟩ := ry
  exact rule i j t t' s _ _ ⟨.bl (g i j), H, I, rfl, q⟩
def zpa (i j : Int) : Prop := 0 <= j /\ j <= 1000000 /\ i.natAbs < 2 ^ 64
def zin (i j : Int) : Prop := (-(2 ^ 64) < i /\ i < 2 ^ 64) \/ (-(2 ^ 64) < j /\ j < 2 ^ 64)
theorem zin.ok {i j : Int} (h : zin i j) : IntMulOk i j := by
  rcases h with ⟨h1, h2⟩ | ⟨h1, h2⟩
  . exact .of_left (intBits_le_64 h1 h2)
  . exact .of_right (intBits_le_64 h1 h2)
theorem xO (k : Nat) : (0 : Int) <= 2 ^ k := by
  rw [two_pow_cast]
  exact Int.natCast_nonneg _
theorem cO : OpR X (binaryOp .Add) (rI0 fun i j => .int (i + j)) := zoc fun _ _ _ _ _ _ _ q => add_int q
theorem zbL : OpR X (binaryOp .Sub) (rI0 fun i j => .int (i - j)) := zoc fun _ _ _ _ _ _ _ q => sub_int q
theorem iB : OpR X (binaryOp .Mult) (rI zin fun i j => .int (i * j)) := opI fun _ _ _ _ _ _ _ hc q => mul_int q hc.ok
theorem gN : OpR X (binaryOp .Mod) (rI (fun _ j => 0 < j) fun i j => .int (i % j)) := opI fun i j _ _ _ _ _ hc q => by
  have h1 : (0 : Int) < j := hc
  exact mod_int' (by omega) (by rw [Int.fmod_eq_emod_of_nonneg i (by omega)]; exact q)
theorem zha : OpR X (binaryOp .Pow) (rI zpa fun i j => .int (i ^ j.toNat)) := opI fun _ _ _ _ _ _ _ hc q => pow_int_small hc.1 hc.2.1 hc.2.2 q
theorem zbO : OpR X (binaryOp .LShift) (rI zpa fun i j => .int (i * 2 ^ j.toNat)) := opI fun _ _ _ _ _ _ _ hc q => lshift_int_small hc.1 hc.2.1 hc.2.2 q
theorem ziU : OpR X (binaryOp .RShift) (rI (fun _ j => 0 <= j) fun i j => .int (i / 2 ^ j.toNat)) := opI fun i j _ _ _ _ _ hc q =>
  rshift_int hc (by rw [Int.fdiv_eq_ediv_of_nonneg i (xO _)]; exact q)
theorem ziR : OpR X (binaryOp .BitAnd) (rI0 fun i j => .int (Builtin.bitAnd i j)) := zoc fun _ _ _ _ _ _ _ q => and_int q
theorem unI {f : Value -> Sem Value} {g : Int -> Int}
    (rule : ∀ (i : Int) (t : Tok) (s : Shared) (Q : Value -> Shared -> Prop) (E : Value -> Shared -> Prop), Q (.int (g i) s.toks) { s with toks := s.toks + 1 } -> wpAny (model X.prog X.w) X.A (f (.int i t)) Q E s) :
    UnR X f (rU fun i => .int (g i)) := by
  intro pins s σ H x v Q I rx h
  obtain ⟨i, rfl, q⟩ := h
  obtain ⟨t, rfl⟩ := rx
  exact rule i t s _ _ ⟨.int (g i), H, I.tok _, ⟨_, rfl⟩, q⟩
theorem zgX : UnR X (unaryOp .USub) (rU fun i => .int (-i)) := unI fun _ _ _ _ _ q => neg_int q
end
def zpW : V -> V -> Bool
  | .non, .non => true | .non, .int _ => true | .int _, .non => true | .non, .bl _ => true | .bl _, .non => true | .non, .str _ => true | .str _, .non => true
  | .int _, .int _ => true | .bl _, .bl _ => true | .str _, .str _ => true | .byt _, .byt _ => true
  | .int _, .str _ => true | .str _, .int _ => true | .bl _, .str _ => true | .str _, .bl _ => true
  | _, _ => false
def rEq : R2 := fun x y H Q => zpW x y = true /\ Q (.bl (decide (x = y))) H
theorem zdV {i j : Int} : decide (V.int i = V.int j) = (i == j) := by
  rw [Bool.eq_iff_iff]
  simp
theorem zhJ {i j : Bool} : decide (V.bl i = V.bl j) = (i == j) := by
  rw [Bool.eq_iff_iff]
  simp
theorem zdq {i j : Str} : decide (V.str i = V.str j) = (i == j) := by
  rw [Bool.eq_iff_iff]
  simp
theorem zcT {i j : Array UInt8} : decide (V.byt i = V.byt j) = (i.toList == j.toList) := by
  rw [Bool.eq_iff_iff]
  cases i
  cases j
  simp
section
variable {X : Cx} {a b c : Expr} {ta tb tc : TE} {pos : Pos}
theorem fR {pins : List (Addr × Obj)} {σ : St} {H : Hp} {s : Shared} {Q : VK} {k k' : Bool} (I : Inv X pins σ H s) (q : Q (.bl k) H) (e : k = k') : EP X pins σ Q (.bool k') s := by
  subst e
  exact ⟨.bl k, H, I, rfl, q⟩
theorem i5 : OpR X (compareOp .Eq) rEq := by
  intro pins s σ H x y v u Q I rx ry h
  obtain ⟨hs, q⟩ := h
  cases x with
  | non =>
    cases rx
    cases y with
    | non => cases ry; exact PySem.EqNone.eq_none_none (fR I q (by simp))
    | bl j => cases ry; exact PySem.EqNone.eq_none_bool (fR I q (by simp))
    | int j => obtain ⟨t', rfl⟩ := ry; exact PySem.EqNone.eq_none_int (fR I q (by simp))
    | str j => obtain ⟨t', rfl⟩ := ry; exact PySem.EqNone.eq_none_str (fR I q (by simp))
    | _ => exact absurd (show false = true from hs) Bool.false_ne_true
  | bl i =>
    cases rx
    cases y with
    | non => cases ry; exact PySem.EqNone.eq_bool_none (fR I q (by simp))
    | bl j => cases ry; exact eq_bool (fR I q zhJ)
    | str j => obtain ⟨t', rfl⟩ := ry; exact PySem.EqMixed.eq_bool_str (fR I q (by simp))
    | _ => exact absurd (show false = true from hs) Bool.false_ne_true
  | int i =>
    obtain ⟨t, rfl⟩ := rx
    cases y with
    | non => cases ry; exact PySem.EqNone.eq_int_none (fR I q (by simp))
    | int j => obtain ⟨t', rfl⟩ := ry; exact eq_int (fR I q zdV)
    | str j => obtain ⟨t', rfl⟩ := ry; exact PySem.EqMixed.eq_int_str (fR I q (by simp))
    | _ => exact absurd (show false = true from hs) Bool.false_ne_true
  | str i =>
    obtain ⟨t, rfl⟩ := rx
    cases y with
    | non => cases ry; exact PySem.EqNone.eq_str_none (fR I q (by simp))
    | bl j => cases ry; exact PySem.EqMixed.eq_str_bool (fR I q (by simp))
    | int j => obtain ⟨t', rfl⟩ := ry; exact PySem.EqMixed.eq_str_int (fR I q (by simp))
    | str j => obtain ⟨t', rfl⟩ := ry; exact eq_str (fR I q zdq)
    | _ => exact absurd (show false = true from hs) Bool.false_ne_true
  | byt i =>
    obtain ⟨t, rfl⟩ := rx
    cases y with
    | byt j => obtain ⟨t', rfl⟩ := ry; exact PySem.W.eq_bytes (fR I q zcT)
    | _ => exact absurd (show false = true from hs) Bool.false_ne_true
  | _ => cases y <;> exact absurd (show false = true from hs) Bool.false_ne_true
theorem znx : OpR X (compareOp .Lt) (rI0 fun i j => .bl (decide (i < j))) := zmG fun _ _ _ _ _ _ _ q => lt_int q
theorem zjr : OpR X (compareOp .Gt) (rI0 fun i j => .bl (decide (j < i))) := zmG fun _ _ _ _ _ _ _ q => gt_int q
theorem znF : OpR X (compareOp .GtE) (rI0 fun i j => .bl (decide (j <= i))) := zmG fun _ _ _ _ _ _ _ q => ge_int q
theorem eP (b : Expr) {op : CmpOp} (h : op ≠ .In := by decide) (h2 : op ≠ .NotIn := by decide) : behindInMarks op b = false := by
  have e1 : (op == CmpOp.In) = false := by cases op <;> first | rfl | exact absurd rfl h
  have e2 : (op == CmpOp.NotIn) = false := by cases op <;> first | rfl | exact absurd rfl h2
  cases b <;> simp [behindInMarks, e1, e2]
theorem pQ {op : CmpOp} {r : R2} (ho : OpR X (compareOp op) r) (ha : PE X a ta) (hb : PE X b tb) (hm : behindInMarks op b = false) : PE X (.Compare a [op] [b] pos) (tOp r ta tb) := by
  intro pins s σ H Q I h
  exact wpAny_Compare1 (zmv ha hb I h fun v u s2 x y H2 I2 rx ry q => ho pins s2 σ H2 x y v u Q I2 rx ry q) hm
def sU (t : TE) : TT := fun σ H Q => t σ H fun x H' => ∃ k, x = .bl k /\ Q k H'
theorem bW {op : CmpOp} {r : R2} (ho : OpR X (compareOp op) r) (ha : PE X a ta) (hb : PE X b tb) (hm : behindInMarks op b = false) : PT X (.Compare a [op] [b] pos) (sU (tOp r ta tb)) := by
  intro pins s σ H Q I h
  refine wpAny_isTrue_Compare1 (thn (ha pins s σ H _ I h) fun v s1 ⟨x, H1, I1, r1, q1⟩ => thn (hb pins s1 σ H1 _ I1 q1) fun u s2 ⟨y, H2, I2, r2, q2⟩ =>
    thn (ho pins s2 σ H2 x y v u _ I2 r1 r2 q2) fun c s3 ⟨z, H3, I3, r3, k, e, q3⟩ => ?_) hm
  subst e
  cases r3
  exact wpAny_truthy_bool ⟨H3, I3, q3⟩
theorem kP : (sizeLine : Nat) < 2 ^ 63 := by rw [sizeLine_eq]; decide
theorem eX : OpR X (binaryOp .Add) (fun x y H Q => ∃ i j, x = .str i /\ y = .str j /\ i.length + j.length <= sizeLine /\ Q (.str (i ++ j)) H) := by
  intro pins s σ H x y v u Q I rx ry h
  obtain ⟨i, j, rfl, rfl, hz, q⟩ := h
  obtain ⟨t, rfl⟩ := rx
  obtain ⟨t', rfl⟩ := ry
  exact add_str (fun t' tk => ⟨.str (i ++ j), H, I.tok _, ⟨_, rfl⟩, q⟩) hz
theorem kZ {x : V} {us : List Value} (r : cA [x] us) : ∃ u, us = [u] /\ cH x u := by
  cases r with
  | cons r1 r2 => cases r2; exact ⟨_, rfl, r1⟩
theorem znk {x y : V} {us : List Value} (r : cA [x, y] us) : ∃ u w', us = [u, w'] /\ cH x u /\ cH y w' := by
  cases r with
  | cons r1 r2 =>
    cases r2 with
    | cons r3 r4 => cases r4; exact ⟨_, _, rfl, r1, r3⟩
theorem yV (hc : X.calm = true) : fD X (.builtin "max") (fun xs H Q => ∃ i j, xs = [.int i, .int j] /\ Q (.int (if j > i then j else i)) H) := by
  intro pins s σ H xs us Q I r h
  obtain ⟨i, j, rfl, q⟩ := h
  obtain ⟨u, w', rfl, ⟨t, rfl⟩, ⟨t', rfl⟩⟩ := znk r
  refine max_two_ints (I.ok.hd hc) fun h' tk k => ⟨_, H, I.kept k, ?_, q⟩
  by_cases hj : j > i
  . rw [if_pos hj, if_pos hj]; exact ⟨_, rfl⟩
  . rw [if_neg hj, if_neg hj]; exact ⟨_, rfl⟩
end
structure zdB (h : Heap) (x dx C : Addr) (mA : Str -> Option Value) : Prop where
  obj : h.get? x = some (W.instObj C dx)
  ns : h.Ns1 dx mA
  ne : dx ≠ x
theorem lJ {h : Heap} {dx : Addr} {mA : Str -> Option Value} (n : h.Ns1 dx mA) : ∃ od, h.get? dx = some od /\ ∀ name, PySem.W.lookIn name od = some (mA name) := by
  obtain ⟨o, es, ep, ho, hd, hk, _, hm⟩ := n
  refine ⟨o, ho, fun name => ?_⟩
  have e := hm name
  unfold nsFind findBy at e
  rw [<- Array.find?_toList] at e
  unfold PySem.W.lookIn
  rw [hd]
  dsimp only
  split
  . rename_i y q
    rw [q] at e
    exact congrArg some e
  . rename_i q
    rw [q] at e
    have a : es.toList.any (·.refKey) = false := by
      rw [List.any_eq_false]
      intro y hy
      obtain ⟨z, t, zep⟩ := hk y (Array.mem_toList_iff.mp hy)
      simp [DictEntry.refKey, zep]
    have a' : ¬ es.toList.any (·.refKey) = true := by rw [a]; exact Bool.false_ne_true
    rw [if_neg a']
    exact congrArg some e
theorem zdB.look {h : Heap} {x dx C : Addr} {mA : Str -> Option Value} (I : zdB h x dx C mA) : ∃ od, PySem.W.InstAt h x (W.instObj C dx) C (some od) /\ ∀ name, PySem.W.lookIn name od = some (mA name) :=
  let ⟨od, ho, hl⟩ := lJ I.ns
  ⟨od, ⟨I.obj, rfl, rfl, ho⟩, hl⟩
section
variable {prog : Program} {w : World} {A : Around} {E : Value -> Shared -> Prop} {s : Shared} {K : W.Frag} {x dx C f : Addr} {mA : Str -> Option Value} {name : Str} {v : Value}
theorem zeD {expr : Bool} {Q : Value -> Shared -> Prop} (X : K.In s.heap) (I : zdB s.heap x dx C mA) (hg : W.plainGet K C name = true) (hh : PySem.W.hasDictIn K C = true)
    (ha : W.findIn K (.ref C) name = some none) (hv : mA name = some v) (hv' : PySem.W.handedIn v = true) (h : Q v { s with toks := s.toks + 1 }) :
    wpAny (model prog w) A (getAttr (.ref x) name expr) Q E s := by
  obtain ⟨od, J, hl⟩ := I.look
  exact PySem.W.get_value X J (PySem.W.plainGet_of hg).1 (PySem.W.findObj_own hh ha rfl (by rw [hl, hv])) hv' h
theorem zau {pl : Sem Bool} {Q : Value × List Value -> Shared -> Prop} (X : K.In s.heap) (I : zdB s.heap x dx C mA) (hg : W.plainGet K C name = true)
    (hf : W.findIn K (.ref C) name = some (some (.ref f))) (ht : W.isFn K (.ref f) = true) (hv : mA name = none) (h : Q (.ref f, [.ref x]) s) :
    wpAny (model prog w) A (getMethod (.ref x) name pl) Q E s := by
  obtain ⟨od, J, hl⟩ := I.look
  exact PySem.W.method_fn X J (PySem.W.plainGet_of hg).1 (PySem.W.plainGet_of hg).2 hf (beq_iff_eq.mp ht) (by show (PySem.W.lookIn name od).map (·.isSome) = some false; rw [hl, hv]; rfl) h
theorem zeK {ns : List Str} {Q : Unit -> Shared -> Prop} (X : K.In s.heap) (I : zdB s.heap x dx C mA)
    (hs : W.findIn K (.ref C) "__setattr__" = some (some (.builtin "object.__setattr__"))) (hp : PySem.W.plainOver K C = true) (ht : PySem.W.takerIn K C name = some none) (hh : PySem.W.hasDictIn K C = true)
    (hw : PySem.Within mA ns) (hsz : ns.length <= sizeLine)
    (h : ∀ h', zdB h' x dx C (fun y => if y = name then some v else mA y) -> Heap.SameBut dx s.heap h' -> Q () { s with heap := h', toks := s.toks + 2 }) :
    wpAny (model prog w) A (setAttr (.ref x) name v) Q E s := by
  obtain ⟨od, J, hl⟩ := I.look
  refine PySem.W.set_plain X J hs (PySem.W.osa_open (s := { s with toks := s.toks + 1 }) (r := none) X J hp ht fun b => ?_)
  obtain ⟨cd, hc, hd'⟩ := PySem.W.any_some hh
  have hx : s.heap.get? x = some ⟨.ref C, some dx, .plain, #[]⟩ := I.obj
  refine wpAny_bind (wpAny_pure (wpAny_bind (wpAny_bind (wpAny_loadPart hx (wpAny_bind (PySem.W.Looks.here (s := { s with toks := s.toks + 1 }) (PySem.W.looks_clsIn X hc) ?_))))))
  rw [hd']
  refine wpAny_pure (a := some dx) (wpAny_bind (wpAny_pure (wpAny_bind ?_)))
  refine wpAny_nsSet1 (s := { s with toks := s.toks + 1 }) I.ns fun h' hn2 hs2 => ?_
  obtain ⟨oD, esD, epD, hoD, hdD, hcD⟩ := hn2.count (PySem.Within.cons name v hw)
  refine wpAny_bind (wpAny_lookBehind hoD (by rw [hdD]; exact pastItsLine_dict (Nat.le_trans hcD (by rw [List.length_cons]; omega))) ?_)
  exact wpAny_pure (h _ ⟨(hs2.2 _ (Ne.symm I.ne)).trans I.obj, hn2, I.ne⟩ hs2)
theorem zaG {R : Result -> Shared -> Prop} {vs : List Value} {kw : List (Str × Value)} (X : K.In s.heap) (hm : PySem.W.makesIn K C = true)
    (hi : W.findIn K (.ref C) "__init__" = some (some (.ref f))) (hf : PySem.W.typeIn K (.ref f) = some (.type "function"))
    (h : codeAny (model prog w) (A.under (.builtin "type.__call__" ⟨.ref C :: vs, kw⟩)) (.call (.ref f) ⟨.ref (s.heap.objs.size + 1) :: vs, kw⟩) (PySem.W.InitBack (s.heap.objs.size + 1) R)
      { s with heap := (s.heap.push W.emptyDict).push (W.instObj C s.heap.objs.size) }) :
    codeAny (model prog w) A (.call (.ref C) ⟨vs, kw⟩) R s := by
  obtain ⟨hh, g, d, t, os⟩ := s
  exact PySem.W.make_core (PySem.W.makes_of X hm) (PySem.W.looks_findIn X hi) (fun self => PySem.W.bind_fn X self hf) (.inl rfl) h
end
def jI (f : Str) (v : V) : List (Str × V) -> List (Str × V)
  | [] => [(f, v)]
  | (g, x) :: r => if g = f then (g, v) :: r else (g, x) :: jI f v r
theorem gW (f g : Str) (v : V) : ∀ fs : List (Str × V), (jI f v fs).lookup g = if g = f then some v else fs.lookup g
  | [] => by
    show List.lookup g [(f, v)] = _
    by_cases h : g = f
    . have hb : (g == f) = true := beq_iff_eq.mpr h
      simp only [List.lookup, hb, if_pos h]
    . have hb : (g == f) = false := beq_eq_false_iff_ne.mpr h
      simp only [List.lookup, hb, if_neg h]
  | (k, x) :: r => by
    have ih := gW f g v r
    rw [show jI f v ((k, x) :: r) = (if k = f then (k, v) :: r else (k, x) :: jI f v r) from rfl]
    by_cases hk : k = f
    . rw [if_pos hk]
      by_cases h : g = k
      . have hb : (g == k) = true := beq_iff_eq.mpr h
        simp only [List.lookup, hb, if_pos (h.trans hk)]
      . have hb : (g == k) = false := beq_eq_false_iff_ne.mpr h
        simp only [List.lookup, hb, if_neg (fun e : g = f => h (e.trans hk.symm))]
    . rw [if_neg hk]
      by_cases h : g = k
      . have hb : (g == k) = true := beq_iff_eq.mpr h
        simp only [List.lookup, hb, if_neg (fun e : g = f => hk (h.symm.trans e))]
      . have hb : (g == k) = false := beq_eq_false_iff_ne.mpr h
        simp only [List.lookup, hb]
        exact ih
theorem jM (f : Str) (v : V) : ∀ fs : List (Str × V), f ∈ (jI f v fs).map (·.1) /\ ∀ g, g ∈ fs.map (·.1) -> g ∈ (jI f v fs).map (·.1)
  | [] => ⟨by simp [jI], fun g h => by simp at h⟩
  | (k, x) :: r => by
    obtain ⟨i1, i2⟩ := jM f v r
    rw [show jI f v ((k, x) :: r) = (if k = f then (k, v) :: r else (k, x) :: jI f v r) from rfl]
    by_cases hk : k = f
    . rw [if_pos hk]
      subst hk
      exact ⟨by simp, fun g h => by simpa using h⟩
    . rw [if_neg hk]
      refine ⟨?_, fun g h => ?_⟩
      . rw [List.map_cons]
        exact List.mem_cons_of_mem _ i1
      . rw [List.map_cons] at h ⊢
        rcases List.mem_cons.mp h with e | e
        . exact List.mem_cons.mpr (.inl e)
        . exact List.mem_cons_of_mem _ (i2 g e)
theorem jF (f : Str) (v : V) : ∀ fs : List (Str × V), (jI f v fs).length <= fs.length + 1
  | [] => by simp [jI]
  | (k, x) :: r => by
    have ih := jF f v r
    rw [show jI f v ((k, x) :: r) = (if k = f then (k, v) :: r else (k, x) :: jI f v r) from rfl]
    by_cases hk : k = f
    . rw [if_pos hk, List.length_cons, List.length_cons]; omega
    . rw [if_neg hk, List.length_cons, List.length_cons]; omega
theorem oI.some_of {v : V} {o : Option Value} (r : oI (some v) o) : ∃ u, o = some u /\ cH v u := by
  cases o with
  | none => exact (show False from r).elim
  | some u => exact ⟨u, rfl, r⟩
theorem oI.none_of {o : Option Value} (r : oI none o) : o = none := by
  cases o with
  | none => rfl
  | some u => exact (show False from r).elim
theorem rC {v : V} {u : Value} (r : cH v u) : PySem.W.handedIn u = true := by
  cases v with
  | non => cases (show u = Value.none from r); rfl
  | bl b => cases (show u = Value.bool b from r); rfl
  | int i => obtain ⟨t, e⟩ := (show ∃ t, u = Value.int i t from r); cases e; rfl
  | str x => obtain ⟨t, e⟩ := (show ∃ t, u = Value.str x t from r); cases e; rfl
  | byt b => obtain ⟨t, e⟩ := (show ∃ t, u = Value.bytes b t from r); cases e; rfl
  | flt b => obtain ⟨t, e⟩ := (show ∃ t, u = Value.float b t from r); cases e; rfl
  | ref a => cases (show u = Value.ref a from r); rfl
  | ty n => cases (show u = Value.type n from r); rfl
section
variable {P : Program} {w : World} {H H' : Hp} {h h' : Heap} {a C dx : Addr} {fs fs' : List (Str × V)}
theorem pJ (hok : HOk P w H h) (e : H a = some (.ins C dx fs)) : ∃ mA, zdB h a dx C mA /\ (∀ f, oI (fs.lookup f) (mA f)) /\ PySem.Within mA (fs.map (·.1)) /\ fs.length <= 1000 /\ H dx = some (.own a) := by
  obtain ⟨d, z, ne, ob, mA, n, r, q⟩ := (show cJ P w H h a (.ins C dx fs) from hok a _ e)
  exact ⟨mA, ⟨ob, n, ne⟩, r, q, z, d⟩
end
structure Cls (K : W.Frag) (C : Addr) : Prop where
  pg : W.plainGet K C Str.empty = true
  hd : PySem.W.hasDictIn K C = true
  po : PySem.W.plainOver K C = true
  sa : W.findIn K (.ref C) "__setattr__" = some (some (.builtin "object.__setattr__"))
theorem Cls.get {K : W.Frag} {C : Addr} (c : Cls K C) (f : Str) : W.plainGet K C f = true := c.pg
def jX (K : W.Frag) (C : Addr) (f : Str) : Prop := W.findIn K (.ref C) f = some none
theorem jX.taker {K : W.Frag} {C : Addr} {f : Str} (n : jX K C f) : PySem.W.takerIn K C f = some none := by
  unfold PySem.W.takerIn
  rw [show W.findIn K (.ref C) f = some none from n]
  rfl
structure zlB (K : W.Frag) (C : Addr) (m : Str) (f : Addr) : Prop where
  at_ : W.findIn K (.ref C) m = some (some (.ref f))
  fn : W.isFn K (.ref f) = true
  kp : W.keepIn K (.ref f) = true
section
variable {X : Cx} {pins : List (Addr × Obj)} {σ : St} {H : Hp} {s : Shared} {a C dx : Addr} {fs : List (Str × V)} {f : Str} {v : V} {A : Around} {E : Value -> Shared -> Prop}
theorem wH {b : Bool} {Q : Value -> Shared -> Prop} (I : Inv X pins σ H s) (e : H a = some (.ins C dx fs)) (c : Cls X.K C) (n : jX X.K C f) (l : fs.lookup f = some v)
    (h : ∀ u s', Inv X pins σ H s' -> cH v u -> Q u s') : wpAny (model X.prog X.w) A (getAttr (.ref a) f b) Q E s := by
  obtain ⟨mA, O, r, _, _, _⟩ := pJ I.hok e
  obtain ⟨u, hu, ru⟩ := oI.some_of (v := v) (o := mA f) (by rw [<- l]; exact r f)
  exact zeD I.kIn O (c.get f) c.hd n hu (rC ru) (h u _ (I.tok _) ru)
theorem oK {m : Str} {g : Addr} {pl : Sem Bool} {Q : Value × List Value -> Shared -> Prop} (I : Inv X pins σ H s) (e : H a = some (.ins C dx fs)) (c : Cls X.K C) (k : zlB X.K C m g) (l : fs.lookup m = none)
    (h : Q (.ref g, [.ref a]) s) : wpAny (model X.prog X.w) A (getMethod (.ref a) m pl) Q E s := by
  obtain ⟨mA, O, r, _, _, _⟩ := pJ I.hok e
  have hn : mA m = none := oI.none_of (by rw [<- l]; exact r m)
  exact zau I.kIn O (c.get m) k.at_ k.fn hn h
theorem vQ {y : V} {u : Value} {Q : Unit -> Shared -> Prop} (I : Inv X pins σ H s) (e : H a = some (.ins C dx fs)) (c : Cls X.K C) (n : jX X.K C f) (hl : fs.length < 1000) (ry : cH y u)
    (h : ∀ s', Inv X pins σ (upd H a (.ins C dx (jI f y fs))) s' -> Q () s') : wpAny (model X.prog X.w) A (setAttr (.ref a) f u) Q E s := by
  obtain ⟨mA, O, r, wi, _, ho⟩ := pJ I.hok e
  have hz : (fs.map (·.1)).length <= sizeLine := by rw [List.length_map, sizeLine_eq]; omega
  refine zeK I.kIn O c.sa c.po n.taker c.hd wi hz fun h' O' sb => h _ ?_
  have hd : ∃ o, h'.get? dx = some o := let ⟨o, _, _, e', _⟩ := O'.ns; ⟨o, e'⟩
  refine I.write (x := a) (e := dx) (by rw [e]; exact True.intro) (.inr ho) (fun b q hb z => (sb.2 b hb).trans z) hd ?_
  refine ⟨by rw [aH O.ne]; exact ho, ?_, O.ne, O'.obj, _, O'.ns, fun g => ?_, fun g hg => ?_⟩
  . have := jF f y fs; omega
  . show oI ((jI f y fs).lookup g) (if g = f then some u else mA g)
    rw [gW]
    by_cases q : g = f
    . rw [if_pos q, if_pos q]; exact ry
    . rw [if_neg q, if_neg q]; exact r g
  . by_cases q : g = f
    . rw [q]; exact (jM f y fs).1
    . refine (jM f y fs).2 g (wi g fun z => hg ?_)
      show (if g = f then some u else mA g) = none
      rw [if_neg q]; exact z
theorem Inv.made (I : Inv X pins σ H s) : Inv X pins σ (upd (upd H s.heap.objs.size (.own (s.heap.objs.size + 1))) (s.heap.objs.size + 1) (.ins C s.heap.objs.size []))
    { s with heap := (s.heap.push W.emptyDict).push (W.instObj C s.heap.objs.size) } := by
  have e1 : (s.heap.push W.emptyDict).get? s.heap.objs.size = some W.emptyDict := Heap.get?_push_size s.heap rfl
  have e2 : ((s.heap.push W.emptyDict).push (W.instObj C s.heap.objs.size)).get? (s.heap.objs.size + 1) = some (W.instObj C s.heap.objs.size) := by
    have := Heap.get?_push_size (s.heap.push W.emptyDict) (o := W.instObj C s.heap.objs.size) rfl
    rwa [Heap.size_push] at this
  have e3 : (s.heap.push W.emptyDict).Ns s.heap.objs.size (fun _ => none) := ⟨W.emptyDict, #[], _, e1, rfl, (fun e he => absurd he (by simp)), fun _ => rfl⟩
  have I1 := I.laid (a := s.heap.objs.size) (o := .own (s.heap.objs.size + 1)) (h' := s.heap.push W.emptyDict) (t' := s.toks) (fun b u q => Heap.get?_push_of_some _ q) (Nat.le_refl _) ⟨_, e1⟩
  refine I1.laid (a := s.heap.objs.size + 1) (o := .ins C s.heap.objs.size []) (t' := s.toks) (fun b u q => Heap.get?_push_of_some _ q) (Nat.le_of_eq (Heap.size_push _ _)) ?_
  have ne : s.heap.objs.size ≠ s.heap.objs.size + 1 := Nat.ne_of_lt (Nat.lt_succ_self _)
  refine ⟨by rw [aH ne, aB], Nat.zero_le _, ne, e2, fun _ => none, (Heap.Ns1.of_empty e3).at fun o q => Heap.get?_push_of_some _ q, fun _ => True.intro, fun y hy => absurd rfl hy⟩
theorem b6 {prog : Program} {w : World} {env : Env} {e : Expr} {f : Str} {pos : Pos} {s : Shared} {Q : Value -> Shared -> Prop} (hb : attributeBase e f env (eval e env) = eval e env)
    (h : wpAny (model prog w) A (eval e env) (fun o s₁ => wpAny (model prog w) A (getAttr o f true) Q E s₁) E s) : wpAny (model prog w) A (eval (.Attribute e f pos) env) Q E s :=
  Attribute_any_ h (by rw [arm_eval_Attribute, hb])
end
def zqd (K : W.Frag) (ta : TE) (f : Str) : TE := fun σ H Q => ta σ H fun x H1 => ∃ a C dx fs v, x = .ref a /\ H1 a = some (.ins C dx fs) /\ Cls K C /\ jX K C f /\ fs.lookup f = some v /\ Q v H1
def zpZ (K : W.Frag) (ta tv : TE) (f : Str) : TS := fun D σ H => tv σ H fun y H1 => ta σ H1 fun x H2 => ∃ a C dx fs, x = .ref a /\ H2 a = some (.ins C dx fs) /\ Cls K C /\ jX K C f /\ fs.length < 1000 /\
  D.nx σ (upd H2 a (.ins C dx (jI f y fs)))
section
variable {X : Cx} {o e value : Expr} {f : Str} {pos pos' tpos : Pos} {ta tv : TE}
theorem jP (he : PE X e ta) (hb : attributeBase e f X.env (eval e X.env) = eval e X.env) : PE X (.Attribute e f pos) (zqd X.K ta f) := by
  intro pins s σ H Q I h
  refine b6 hb (thn (he pins s σ H _ I h) fun u s1 zz => ?_)
  obtain ⟨x, H1, I1, rx, a, C, dx, fs, v, ex, ea, c, n, l, q⟩ := zz
  subst ex
  obtain rfl : u = Value.ref a := rx
  exact wH I1 ea c n l fun u' s2 I2 ru => ⟨v, H1, I2, ru, q⟩
theorem yK (ha : PE X o ta) (hv : PE X value tv) (hs : swapsWith value (some (.Attribute o f pos')) pos.line X.env = pure false) : PS X (.Assign [.Attribute o f pos'] value pos) (zpZ X.K ta tv f) := by
  intro pins s σ H D I h
  refine plainObj_wpAny_Assign_Attribute (thn (hv pins s σ H _ I h) fun u s1 ⟨y, H1, I1, ry, q⟩ => thn (ha pins s1 σ H1 _ I1 q) fun ov s2 zz => ?_) hs
  obtain ⟨x, H2, I2, rx, a, C, dx, fs, ex, ea, c, n, l, q2⟩ := zz
  subst ex
  obtain rfl : ov = Value.ref a := rx
  exact vQ I2 ea c n l ry fun s3 I3 => ⟨σ, _, I3, q2⟩
theorem zdi {pl : Sem Bool} {m : Str} {apos : Pos} {args : List Expr} {pins : List (Addr × Obj)} {s : Shared} {σ : St} {H : Hp} {Q : Value -> Shared -> Prop} {te : TE} (he : PE X e te) (I : Inv X pins σ H s)
    (h : te σ H fun x H1 => ∃ a C dx fs g, x = .ref a /\ H1 a = some (.ins C dx fs) /\ Cls X.K C /\ zlB X.K C m g /\ fs.lookup m = none /\
      ∀ s1, Inv X pins σ H1 s1 -> wpAny (model X.prog X.w) X.A (callWith pos (.ref g) [.ref a] (backTo pos (starEach args X.env)) (backToKw pos (keywordEach [] X.env))) Q X.xe s1)
    (ht : eval (.Call (.Attribute e m apos) args [] pos) X.env = (do
      let ov <- eval e X.env
      standAt apos.atName
      let (f, first) <- holding [ov] (getMethod ov m pl)
      callWith pos f first (backTo pos (starEach args X.env)) (backToKw pos (keywordEach [] X.env)))) :
    wpAny (model X.prog X.w) X.A (eval (.Call (.Attribute e m apos) args [] pos) X.env) Q X.xe s := by
  refine PySem.W.methodCall_KW (pl := pl) (thn (he pins s σ H _ I h) fun u s1 zz => ?_) ht
  obtain ⟨x, H1, I1, rx, a, C, dx, fs, g, ex, ea, c, k, l, q⟩ := zz
  subst ex
  obtain rfl : u = Value.ref a := rx
  exact oK I1 ea c k l (q s1 I1)
end
section
variable {X : Cx} {pins : List (Addr × Obj)} {σ : St} {H : Hp} {s : Shared} {A : Around} {E : Value -> Shared -> Prop} {Q : Value -> Shared -> Prop} {c : Value} {b : Bool}
inductive qB (K : W.Frag) (H : Hp) : V -> Value -> Prop where
  | non : qB K H .non (.type "NoneType")
  | bl (x : Bool) : qB K H (.bl x) (.type "bool")
  | int (i : Int) : qB K H (.int i) (.type "int")
  | str (x : Str) : qB K H (.str x) (.type "str")
  | flt (x : UInt64) : qB K H (.flt x) (.type "float")
  | lst {a : Addr} {xs : List V} (e : H a = some (.lst xs)) : qB K H (.ref a) (.type "list")
  | frz {a : Addr} {o : Obj} {xs : List V} (e : H a = some (.frz o (.lst xs))) : qB K H (.ref a) (.type "list")
  | tup {a : Addr} {xs : List V} (e : H a = some (.tup xs)) : qB K H (.ref a) (.type "tuple")
  | dK {a : Addr} {kvs : List (Key × V)} (e : H a = some (.dK kvs)) : qB K H (.ref a) (.type "dict")
  | dT {a : Addr} {kvs : List (List Key × V)} (e : H a = some (.dT kvs)) : qB K H (.ref a) (.type "dict")
  | ins {a C dx : Addr} {fs : List (Str × V)} (e : H a = some (.ins C dx fs)) (cl : Cls K C) (ha : W.findIn K (.ref C) "__class__" = some (some (.builtin "object.__class__")))
      (hn : PySem.W.specialIn K (.builtin "object.__class__") "__get__" = some (some (.builtin "getset_descriptor.__get__"))) (htk : PySem.W.takesIn K (.builtin "object.__class__") = some true)
      (hm : PySem.W.mroIn K C (.type "object") = some true) : qB K H (.ref a) (.ref C)
theorem zT {x : V} {u t : Value} (I : Inv X pins σ H s) (rx : cH x u) (ty : qB X.K H x t) (e : W.kitOne X.K t c = some b) (h : ∀ tk, Q (.bool b) { s with toks := tk }) :
    wpAny (model X.prog X.w) A (call (.builtin "isinstance") [u, c]) Q E s := by
  cases ty with
  | non => cases (show u = Value.none from rx); exact PySem.W.kia_one PySem.W.kitx_none I.kIn True.intro e (fun z => nomatch z) h
  | bl y => cases (show u = Value.bool y from rx); exact PySem.W.kia_one PySem.W.kitx_bool I.kIn True.intro e (fun z => nomatch z) h
  | int i => obtain ⟨t, q⟩ := (show ∃ t, u = Value.int i t from rx); cases q; exact PySem.W.kia_one PySem.W.kitx_int I.kIn True.intro e (fun z => nomatch z) h
  | str y => obtain ⟨t, q⟩ := (show ∃ t, u = Value.str y t from rx); cases q; exact PySem.W.kia_one PySem.W.kitx_str I.kIn True.intro e (fun z => nomatch z) h
  | flt y => obtain ⟨t, q⟩ := (show ∃ t, u = Value.float y t from rx); cases q; exact PySem.W.kia_one PySem.W.kitx_float I.kIn True.intro e (fun z => nomatch z) h
  | @lst a xs ea =>
    cases (show u = Value.ref a from rx)
    obtain ⟨_, _, n, _, h1⟩ := (show cJ X.prog X.w H s.heap a (.lst xs) from I.hok a _ ea)
    exact PySem.W.kia_one PySem.W.kitx_list I.kIn ⟨_, h1, rfl⟩ e (fun z => nomatch z) h
  | @frz a ob xs ea =>
    cases (show u = Value.ref a from rx)
    obtain ⟨_, _, _, n, _, h1⟩ := (show cJ X.prog X.w H s.heap a (.frz ob (.lst xs)) from I.hok a _ ea)
    exact PySem.W.kia_one PySem.W.kitx_list I.kIn ⟨_, h1, rfl⟩ e (fun z => nomatch z) h
  | @tup a xs ea =>
    cases (show u = Value.ref a from rx)
    obtain ⟨_, _, _, p⟩ := (show cJ X.prog X.w H s.heap a (.tup xs) from I.hok a _ ea)
    obtain ⟨o, h1, h2, _⟩ := p
    exact PySem.W.kia_one PySem.W.kitx_tuple I.kIn ⟨o, h1, h2⟩ e (fun z => nomatch z) h
  | @dK a kvs ea =>
    cases (show u = Value.ref a from rx)
    obtain ⟨_, _, vs, _, p⟩ := (show cJ X.prog X.w H s.heap a (.dK kvs) from I.hok a _ ea)
    obtain ⟨o, es, ep, h1, h2, _⟩ := p
    exact PySem.W.kia_one PySem.W.kitx_dict I.kIn ⟨o, h1, h2.1⟩ e (fun z => nomatch z) h
  | @dT a kvs ea =>
    cases (show u = Value.ref a from rx)
    obtain ⟨_, _, xs, _, o, es, ep, h1, h2, _⟩ := (show cJ X.prog X.w H s.heap a (.dT kvs) from I.hok a _ ea)
    exact PySem.W.kia_one PySem.W.kitx_dict I.kIn ⟨o, h1, h2.1⟩ e (fun z => nomatch z) h
  | @ins a C dx fs ea cl ha hn htk hm =>
    cases (show u = Value.ref a from rx)
    obtain ⟨mA, O, _⟩ := pJ I.hok ea
    obtain ⟨od, J, _⟩ := O.look
    exact PySem.W.kia_one (PySem.W.kitx_own (cl.get _) cl.hd ha hn htk hm) I.kIn J e (fun z => nomatch z) h
end
structure iE (k : Nat) (A : Around) : Prop where
  hd : A.handled = none
  dp : A.depth + 3 * k + 5 < recursionLimit
  un : A.units + 16 * k + 200 < cLine
theorem iE.mono {j k : Nat} {A : Around} (r : iE k A) (h : j <= k) : iE j A := ⟨r.hd, Nat.lt_of_le_of_lt (Nat.add_le_add_right (Nat.add_le_add_left (Nat.mul_le_mul_left 3 h) _) 5) r.dp, Nat.lt_of_le_of_lt (Nat.add_le_add_right (Nat.add_le_add_left (Nat.mul_le_mul_left 16 h) _) 200) r.un⟩
theorem lt3 {a k b c d m n : Nat} (z : c + d <= m) (h : a + m * (k + 1) + b < n) : a + c + m * k + b < n := by
  refine Nat.lt_of_le_of_lt (Nat.add_le_add_right ?_ b) h
  rw [Nat.mul_succ, Nat.add_assoc a, Nat.add_comm c]
  exact Nat.add_le_add_left (Nat.add_le_add_left (Nat.le_trans (Nat.le_add_right _ _) z) _) a
theorem iE.deeper {k : Nat} {A : Around} (r : iE (k + 1) A) (env : Env) : iE k (A.deeper env) :=
  ⟨r.hd, lt3 (d := 0) (by decide) r.dp, lt3 (d := 0) (by decide) r.un⟩
theorem xC {A : Around} {C : Addr} {us : List Value} {kw : List (Str × Value)} : (A.under (.builtin "type.__call__" ⟨.ref C :: us, kw⟩)).depth = A.depth + 1 := by
  first | rfl | simp [Around.under, Code.weight, Code.isCreation, Code.isGuard, Code.isCaller, Code.frames, Code.isFrame, guardIds]
theorem xE {A : Around} {C : Addr} {us : List Value} {kw : List (Str × Value)} : (A.under (.builtin "type.__call__" ⟨.ref C :: us, kw⟩)).units = A.units + 1 := by
  first | rfl | simp [Around.under, Code.cUnits, Code.frames, Code.isFrame]
theorem iE.make {k : Nat} {A : Around} (r : iE (k + 1) A) (C : Addr) (us : List Value) (kw : List (Str × Value)) : iE k (A.under (.builtin "type.__call__" ⟨.ref C :: us, kw⟩)) :=
  ⟨r.hd, by have := r.dp; rw [xC]; omega, by have := r.un; rw [xE]; omega⟩
theorem iE.depth {k : Nat} {A : Around} (r : iE k A) : A.depth < recursionLimit := by have := r.dp; omega
theorem iE.units {k : Nat} {A : Around} (r : iE k A) : A.units + 64 < cLine := by have := r.un; omega
def iD : TA := fun _ H Q => Q [] H
def bS (ta : TE) (tr : TA) : TA := fun σ H Q => ta σ H fun x H1 => tr σ H1 fun xs H2 => Q (x :: xs) H2
section
variable {X : Cx} {e : Expr} {es : List Expr} {te : TE} {t : TA} {pos : Pos}
theorem aE : PA X [] iD := fun _ _ _ _ H Q I h => Calls.spliced_nil ⟨[], H, I, .nil, h⟩
theorem aA (ha : PE X e te) (hr : PA X es t) (hs : starEach (e :: es) X.env = (false, eval e X.env) :: starEach es X.env := by rfl) : PA X (e :: es) (bS te t) := by
  intro pos pins s σ H Q I h
  rw [hs]
  show wpAny _ _ (spliced ((false, eval e X.env) :: backTo pos (starEach es X.env))) _ _ s
  refine Calls.spliced_cons (thn (ha pins s σ H _ I h) fun u s1 zz => ?_)
  obtain ⟨x, H1, I1, r1, q1⟩ := zz
  exact thn (hr pos pins s1 σ H1 _ I1 q1) fun us s2 ⟨xs, H2, I2, r2, q2⟩ => ⟨x :: xs, H2, I2, .cons r1 r2, q2⟩
def zlz (t : TA) : TE := fun σ H Q => t σ H fun xs H1 => xs.length <= sizeLine /\ ∀ p, H1 p = none -> Q (.ref p) (upd H1 p (.tup xs))
def zoZ (t : TA) : TE := fun σ H Q => t σ H fun xs H1 => xs.length <= sizeLine /\ ∀ p, H1 p = none -> Q (.ref p) (upd H1 p (.lst xs))
theorem hZ {x1} (h : PA X es t) : PE X (.Tuple es x1 pos) (zlz t) := by
  intro pins s σ H Q I hq
  refine wpAny_Tuple_spliced (thn (h pos pins s σ H _ I hq) fun us s1 ⟨xs, H1, I1, r, z, q⟩ => ⟨by rw [<- r.length]; exact z, ?_⟩)
  have hf : H1 s1.heap.objs.size = none := I1.hok.fresh (Nat.le_refl _)
  refine ⟨.ref s1.heap.objs.size, upd H1 s1.heap.objs.size (.tup xs), I1.laid (t' := s1.toks) (fun b u e => Heap.get?_push_of_some _ e) (Nat.le_refl _) ?_, rfl, q _ hf⟩
  exact ⟨z, us, r, ⟨_, Heap.get?_push_size _ rfl, rfl, _, rfl⟩⟩
theorem dP (h : PA X es t) : PE X (.List es pos) (zoZ t) := by
  intro pins s σ H Q I hq
  refine wpAny_List_spliced (thn (h pos pins s σ H _ I hq) fun us s1 ⟨xs, H1, I1, r, z, q⟩ => ⟨by rw [<- r.length]; exact z, ?_⟩)
  have hf : H1 s1.heap.objs.size = none := I1.hok.fresh (Nat.le_refl _)
  refine ⟨.ref s1.heap.objs.size, upd H1 s1.heap.objs.size (.lst xs), I1.laid (t' := s1.toks) (fun b u e => Heap.get?_push_of_some _ e) (Nat.le_refl _) ?_, rfl, q _ hf⟩
  exact ⟨z, us, 0, r, Heap.get?_push_size _ rfl⟩
end
abbrev Sp := List V -> Hp -> VK -> XK -> Prop
abbrev CXT := List Env -> Hp -> Shared -> XK -> Value -> Shared -> Prop
structure zas (P : Program) (w : World) (K : W.Frag) (mg : Str -> Option Value) (base : Heap) (A : Around) (outer : List Env) (s : Shared) (H : Hp) : Prop where
  frames : A.frames = some outer
  mod : Mod K mg base
  bs : ∀ b o, base.get? b = some o -> s.heap.get? b = some o /\ H b = none
  bsz : base.objs.size <= s.heap.objs.size
  funs : s.heap.FunFrames base outer
  frf : ∀ b ∈ frs outer, H b = none
  hok : HOk P w H s.heap
  bare : AllBare s.gens
def CE (outer : List Env) (P : Program) (w : World) (H : Hp) (s : Shared) (Q : VK) (u : Value) (s' : Shared) : Prop :=
  ∃ v H', s'.os = s.os /\ AllBare s'.gens /\ Un (frs outer) [] H H' s.heap s'.heap /\ HOk P w H' s'.heap /\ cH v u /\ Q v H'
def CR (CX : CXT) (outer : List Env) (P : Program) (w : World) (H : Hp) (s : Shared) (Q : VK) (E : XK) (r : Result) (s' : Shared) : Prop :=
  match r with
  | .ok (.ret u) => CE outer P w H s Q u s'
  | .ok _ => False
  | .error e => CX outer H s E e s'
structure FnOk (P : Program) (w : World) (K : W.Frag) (mg : Str -> Option Value) (base : Heap) (CX : CXT) (k : Nat) (f : Addr) (fd : FuncData) (ps : List Str) (sp : Sp) : Prop where
  len : ∀ vs H Q E, sp vs H Q E -> vs.length = ps.length
  run : ∀ (A : Around) (outer : List Env) (s : Shared) (H : Hp) (args : Args) (us : List Value) (vs : List V) (Q : VK) (E : XK), iE k A -> zas P w K mg base A outer s H -> BindsTo s fd args (ps.zip us) -> cA vs us -> sp vs H Q E ->
    codeAny (model P w) A (.call (.ref f) args) (CR CX outer P w H s Q E) s
theorem FnOk.mono {P : Program} {w : World} {K : W.Frag} {mg : Str -> Option Value} {base : Heap} {CX : CXT} {j k : Nat} {f : Addr} {fd : FuncData} {ps : List Str} {sp : Sp} (F : FnOk P w K mg base CX j f fd ps sp) (h : j <= k) :
    FnOk P w K mg base CX k f fd ps sp := ⟨F.len, fun A outer s H args us vs Q E hr => F.run A outer s H args us vs Q E (hr.mono h)⟩
theorem FnOk.imp {P : Program} {w : World} {K : W.Frag} {mg : Str -> Option Value} {base : Heap} {CX : CXT} {k : Nat} {f : Addr} {fd : FuncData} {ps : List Str} {sp sp' : Sp} (F : FnOk P w K mg base CX k f fd ps sp)
    (h : ∀ vs H Q E, sp' vs H Q E -> sp vs H Q E) : FnOk P w K mg base CX k f fd ps sp' :=
  ⟨fun vs H Q E q => F.len vs H Q E (h _ _ _ _ q), fun A outer s H args us vs Q E hr he hb hv hs => F.run A outer s H args us vs Q E hr he hb hv (h _ _ _ _ hs)⟩
theorem zas.make {P : Program} {w : World} {K : W.Frag} {mg : Str -> Option Value} {base : Heap} {A : Around} {outer : List Env} {s : Shared} {H : Hp} (e : zas P w K mg base A outer s H) (C : Addr) (us : List Value) (kw : List (Str × Value)) :
    zas P w K mg base (A.under (.builtin "type.__call__" ⟨.ref C :: us, kw⟩)) outer s H := ⟨by first | exact e.frames | (simpa [Around.under, Code.envs, Code.isFrame, pushEnvs] using e.frames), e.mod, e.bs, e.bsz, e.funs, e.frf, e.hok, e.bare⟩
section
variable {X : Cx} {pins : List (Addr × Obj)} {σ : St} {H : Hp} {s s' : Shared}
theorem Inv.env0 (I : Inv X pins σ H s) : zas X.prog X.w X.K X.mg X.base X.A X.stack s H :=
  ⟨I.ok.frames, I.ok.mod, I.bs, Nat.le_trans I.ok.bsz I.sz, I.stack, I.stkFree, I.hok, I.bare⟩
theorem Inv.after {Q : VK} {u : Value} (I : Inv X pins σ H s) (h : CE X.stack X.prog X.w H s Q u s') : EP X pins σ Q u s' := by
  obtain ⟨v, H', os, bare, un, hok, r, q⟩ := h
  obtain ⟨hh, g, d, t, os'⟩ := s'
  obtain rfl : os' = s.os := os
  exact ⟨v, H', I.call (h' := hh) (g' := g) (d' := d) (t' := t) (ch := []) un hok bare (fun b z => absurd z (by simp)), r, q⟩
end
def lV (sp : Sp) (dvs : List V) (E : XK) (t : TA) : TE := fun σ H Q => t σ H fun vs H1 => sp (vs ++ dvs) H1 Q E
def zei (C : Addr) (m : Str) (sp : Sp) (dvs : List V) (E : XK) (ta : TE) (t : TA) : TE := fun σ H Q => ta σ H fun x H1 => ∃ a dx fs, x = .ref a /\ H1 a = some (.ins C dx fs) /\ fs.lookup m = none /\
  t σ H1 fun vs H2 => sp (x :: (vs ++ dvs)) H2 Q E
def znp (C : Addr) (sp : Sp) (dvs : List V) (E : XK) (t : TA) : TE := fun σ H Q => t σ H fun vs H1 => ∀ x dx, H1 x = none -> H1 dx = none -> dx ≠ x ->
  sp (.ref x :: (vs ++ dvs)) (upd (upd H1 dx (.own x)) x (.ins C dx [])) (fun v H2 => v = .non /\ Q (.ref x) H2) E
def gI (K : W.Frag) (fd : FuncData) (ps : List Str) (ds : List Value) : Prop :=
  ∀ (s : Shared) (us : List Value), K.In s.heap -> (us ++ ds).length = ps.length -> BindsTo s fd ⟨us, []⟩ (ps.zip (us ++ ds))
theorem gI.all {K : W.Frag} {fd : FuncData} {ps : List Str} (h : ∀ us : List Value, us.length = ps.length -> bindArgs fd ⟨us, []⟩ = pure (ps.zip us)) : gI K fd ps [] := fun s us _ hl => by
  rw [List.append_nil] at hl ⊢
  exact .of_eq (h us hl)
def jV (CX : CXT) (X : Cx) (E : XK) : Prop := ∀ (pins : List (Addr × Obj)) (σ : St) (H : Hp) (s : Shared) (e : Value) (s' : Shared), Inv X pins σ H s -> CX X.stack H s E e s' -> X.xe e s'
section
variable {X : Cx} {CX : CXT} {k : Nat} {f C : Addr} {fd : FuncData} {ps : List Str} {sp : Sp} {dvs : List V} {ds : List Value} {E : XK} {x m : Str} {p pos apos : Pos} {e o : Expr} {es : List Expr} {ta : TE} {t : TA}
theorem zcb {pins : List (Addr × Obj)} {σ : St} {H : Hp} {s : Shared} {Q : VK} {us : List Value} {vs : List V} (F : FnOk X.prog X.w X.K X.mg X.base CX k f fd ps sp) (hr : iE k X.A) (hb : gI X.K fd ps ds) (hd : cA dvs ds) (hx : jV CX X E)
    (I : Inv X pins σ H s) (r : cA vs us) (h : sp (vs ++ dvs) H Q E) : wpAny (model X.prog X.w) X.A (call (.ref f) us) (EP X pins σ Q) X.xe s := by
  have r2 : cA (vs ++ dvs) (us ++ ds) := r.append hd
  have hl : (us ++ ds).length = ps.length := by rw [<- r2.length]; exact F.len _ _ _ _ h
  refine wpAny_call (codeAny_mono (F.run X.A X.stack s H ⟨us, []⟩ (us ++ ds) (vs ++ dvs) Q E hr I.env0 (hb s us I.kIn hl) r2 h) fun r s' hq => ?_)
  cases r with
  | error e => exact hx pins σ H s e s' I hq
  | ok fl =>
    cases fl with
    | ret u => exact I.after hq
    | next => exact False.elim hq
    | brk => exact False.elim hq
    | cont => exact False.elim hq
theorem aL (F : FnOk X.prog X.w X.K X.mg X.base CX k f fd ps sp) (hr : iE k X.A) (hg : Gl X x) (hm : X.mg x = some (.ref f)) (hk : W.keepIn X.K (.ref f) = true) (hb : gI X.K fd ps ds) (hd : cA dvs ds) (hx : jV CX X E)
    (ha : PA X (e :: es) t) (hdb : (x == ("__debug__" : Str)) = false := by decide) (he : starEach (e :: es) X.env = (false, eval e X.env) :: starEach es X.env := by rfl) (hpl : (backTo pos (starEach es X.env)).any (·.1) = false := by rfl) :
    PE X (.Call (.Name x p) (e :: es) [] pos) (lV sp dvs E t) := by
  intro pins s σ H Q I h
  refine wpAny_Call_Name_kw (lW I hg hm ?_ hdb)
  refine PySem.W.callWith_K (h₀ := X.base) I.ok.mod.kin hk (thn (ha pos pins s σ H _ I h) fun us s1 ⟨vs, H1, I1, r, q⟩ => ⟨I1.kIn, ?_⟩) he hpl
  exact zcb F hr hb hd hx I1 r q
theorem yS {pl : Sem Bool} (he : PE X o ta) (c : Cls X.K C) (hm : zlB X.K C m f) (F : FnOk X.prog X.w X.K X.mg X.base CX k f fd ps sp) (hr : iE k X.A) (hb : gI X.K fd ps ds) (hd : cA dvs ds) (hx : jV CX X E) (ha : PA X (e :: es) t)
    (hst : starEach (e :: es) X.env = (false, eval e X.env) :: starEach es X.env := by rfl) (hpl : (backTo pos (starEach es X.env)).any (·.1) = false := by rfl)
    (ht : eval (.Call (.Attribute o m apos) (e :: es) [] pos) X.env = (do
      let ov <- eval o X.env
      standAt apos.atName
      let (f, first) <- holding [ov] (getMethod ov m pl)
      callWith pos f first (backTo pos (starEach (e :: es) X.env)) (backToKw pos (keywordEach [] X.env))) := by rfl) :
    PE X (.Call (.Attribute o m apos) (e :: es) [] pos) (zei C m sp dvs E ta t) := by
  intro pins s σ H Q I h
  refine PySem.W.methodCall_KW (pl := pl) (thn (he pins s σ H _ I h) fun u s1 zz => ?_) ht
  obtain ⟨x, H1, I1, rx, a, dx, fs, ex, ea, l, q⟩ := zz
  subst ex
  obtain rfl : u = Value.ref a := rx
  refine oK I1 ea c hm l ?_
  refine PySem.W.callWith_K (first := [.ref a]) (h₀ := X.base) I.ok.mod.kin hm.kp (thn (ha pos pins s1 σ H1 _ I1 q) fun us s2 ⟨vs, H2, I2, r, q2⟩ => ⟨I2.kIn, ?_⟩) hst hpl
  exact zcb (us := .ref a :: us) (vs := .ref a :: vs) F hr hb hd hx I2 (.cons rfl r) q2
structure Mk (K : W.Frag) (C f : Addr) : Prop where
  makes : PySem.W.makesIn K C = true
  init : W.findIn K (.ref C) "__init__" = some (some (.ref f))
  fn : W.isFn K (.ref f) = true
  kp : W.keepIn K (.ref C) = true
theorem zbo {pins : List (Addr × Obj)} {σ : St} {H : Hp} {s : Shared} {Q : VK} {us : List Value} {vs : List V} (M : Mk X.K C f) (F : FnOk X.prog X.w X.K X.mg X.base CX k f fd ps sp) (hr : iE (k + 1) X.A) (hb : gI X.K fd ps ds) (hd : cA dvs ds)
    (hx : jV CX X E) (I : Inv X pins σ H s) (r : cA vs us)
    (h : ∀ x dx, H x = none -> H dx = none -> dx ≠ x -> sp (.ref x :: (vs ++ dvs)) (upd (upd H dx (.own x)) x (.ins C dx [])) (fun v H2 => v = .non /\ Q (.ref x) H2) E) :
    wpAny (model X.prog X.w) X.A (call (.ref C) us) (EP X pins σ Q) X.xe s := by
  have hq := h (s.heap.objs.size + 1) s.heap.objs.size (I.hok.fresh (Nat.le_succ _)) (I.hok.fresh (Nat.le_refl _)) (Nat.ne_of_lt (Nat.lt_succ_self _))
  have I2 := Inv.made (C := C) I
  have r2 : cA (V.ref (s.heap.objs.size + 1) :: (vs ++ dvs)) (Value.ref (s.heap.objs.size + 1) :: (us ++ ds)) := .cons rfl (r.append hd)
  have hl : (Value.ref (s.heap.objs.size + 1) :: us ++ ds).length = ps.length := by
    have e := r2.length
    rw [F.len _ _ _ _ hq] at e
    exact e.symm
  refine wpAny_call (zaG (f := f) I.kIn M.makes M.init (beq_iff_eq.mp M.fn) (codeAny_mono (F.run _ X.stack _ _ ⟨Value.ref (s.heap.objs.size + 1) :: us, []⟩ (Value.ref (s.heap.objs.size + 1) :: (us ++ ds)) _ _ E (hr.make C us [])
    (I2.env0.make C us []) (hb _ (Value.ref (s.heap.objs.size + 1) :: us) I2.kIn hl) r2 hq) fun r s' hq' => ?_))
  cases r with
  | error e => exact hx pins σ _ _ e s' I2 hq'
  | ok fl =>
    cases fl with
    | ret u =>
      obtain ⟨v, H', I3, rv, ev, q3⟩ := I2.after hq'
      subst ev
      exact ⟨rv, ⟨V.ref (s.heap.objs.size + 1), H', I3, rfl, q3⟩⟩
    | next => exact False.elim hq'
    | brk => exact False.elim hq'
    | cont => exact False.elim hq'
theorem yG (M : Mk X.K C f) (F : FnOk X.prog X.w X.K X.mg X.base CX k f fd ps sp) (hr : iE (k + 1) X.A) (hg : Gl X x) (hm : X.mg x = some (.ref C)) (hb : gI X.K fd ps ds) (hd : cA dvs ds) (hx : jV CX X E)
    (ha : PA X (e :: es) t) (hdb : (x == ("__debug__" : Str)) = false := by decide) (he : starEach (e :: es) X.env = (false, eval e X.env) :: starEach es X.env := by rfl) (hpl : (backTo pos (starEach es X.env)).any (·.1) = false := by rfl) :
    PE X (.Call (.Name x p) (e :: es) [] pos) (znp C sp dvs E t) := by
  intro pins s σ H Q I h
  refine wpAny_Call_Name_kw (lW I hg hm ?_ hdb)
  refine PySem.W.callWith_K (h₀ := X.base) I.ok.mod.kin M.kp (thn (ha pos pins s σ H _ I h) fun us s1 ⟨vs, H1, I1, r, q⟩ => ⟨I1.kIn, ?_⟩) he hpl
  exact zbo M F hr hb hd hx I1 r q
end
def PK (X : Cx) (kws : List Keyword) (t : TA) : Prop :=
  ∀ (pos : Pos) (pins : List (Addr × Obj)) (s : Shared) (σ : St) (H : Hp) (Q : List V -> Hp -> Prop), Inv X pins σ H s -> t σ H Q -> wpAny (model X.prog X.w) X.A (evalAll ((backToKw pos (keywordEach kws X.env)).map (·.2))) (AP X pins σ Q) X.xe s
section
variable {X : Cx} {CX : CXT} {k : Nat} {f C : Addr} {fd : FuncData} {ps ks : List Str} {sp : Sp} {E : XK} {x m : Str} {p pos apos kpos : Pos} {e o : Expr} {es : List Expr} {kws : List Keyword} {te ta : TE} {t tk : TA} {nm : Option Str}
theorem zke : PK X [] iD := fun _ _ _ _ H Q I h => wpAny_evalAll_nil ⟨[], H, I, .nil, h⟩
theorem zeb (ha : PE X e te) (hr : PK X kws t) : PK X (⟨nm, e, kpos⟩ :: kws) (bS te t) := by
  intro pos pins s σ H Q I h
  show wpAny _ _ (evalAll ((do let v <- eval e X.env; standAt pos; pure v) :: (backToKw pos (keywordEach kws X.env)).map (·.2))) _ _ s
  refine wpAny_evalAll_cons (wpAny_bind (thn (ha pins s σ H _ I h) fun u s1 ⟨x, H1, I1, r1, q1⟩ => wpAny_bind (wpAny_standAt (wpAny_pure ?_))))
  exact thn (hr pos pins s1 σ H1 _ I1 q1) fun us s2 ⟨xs, H2, I2, r2, q2⟩ => ⟨x :: xs, H2, I2, .cons r1 r2, q2⟩
variable {g : List Value -> List Value -> List Value} {gV : List V -> List V -> List V}
end
structure bE (N P : List Str) (sc : Scope) : Prop where
  kind : sc.kind = .function
  co : sc.isCoroutine = false
  gen : sc.isGenerator = false
  nd : N.Nodup
  pre : N.take P.length = P
  par : ∀ x ∈ P, sc.names.lookup x = some .local \/ sc.names.lookup x = some .cell
  nofree : ∀ y ∈ sc.names, y.2 ≠ .free
theorem rW {kindOf : Str -> Option NameKind} {x : Str} : ∀ {binds : List (Str × Value)} {m : Str -> Option Value}, (∀ v, (x, v) ∉ binds) -> bindL kindOf binds m x = m x
  | [], _, _ => rfl
  | (n, v) :: r, m, h => by
    unfold bindL
    rw [rW fun w hw => h w (List.mem_cons_of_mem _ hw)]
    split
    . have : x ≠ n := by rintro rfl; exact h v List.mem_cons_self
      simp [this]
    . rfl
theorem pU {kindOf : Str -> Option NameKind} {x : Str} : ∀ {binds : List (Str × Value)} {m : Str -> Option Value}, (∀ v, (x, v) ∉ binds) -> bindC kindOf binds m x = m x
  | [], _, _ => rfl
  | (n, v) :: r, m, h => by
    unfold bindC
    rw [pU fun w hw => h w (List.mem_cons_of_mem _ hw)]
    split
    . rfl
    . have : x ≠ n := by rintro rfl; exact h v List.mem_cons_self
      simp [this]
theorem rX {kindOf : Str -> Option NameKind} {x : Str} {v : Value} : ∀ {P : List Str} {vs : List Value} {i : Nat} {m : Str -> Option Value}, P.Nodup -> P[i]? = some x -> vs[i]? = some v -> kindOf x = some .local ->
    bindL kindOf (P.zip vs) m x = some v
  | [], _, _, _, _, h, _, _ => by simp at h
  | _ :: _, [], _, _, _, _, h, _ => by simp at h
  | p :: P, w :: vs, 0, m, nd, h1, h2, hk => by
    simp at h1 h2; subst h1; subst h2
    show bindL kindOf ((p, w) :: P.zip vs) m p = _
    unfold bindL
    rw [rW fun v hv => (List.nodup_cons.mp nd).1 (List.of_mem_zip hv).1, if_pos hk]
    simp
  | p :: P, w :: vs, i + 1, m, nd, h1, h2, hk => by
    show bindL kindOf ((p, w) :: P.zip vs) m x = _
    unfold bindL
    exact rX (i := i) (List.nodup_cons.mp nd).2 (by simpa using h1) (by simpa using h2) hk
theorem qZ {kindOf : Str -> Option NameKind} {x : Str} {v : Value} : ∀ {P : List Str} {vs : List Value} {i : Nat} {m : Str -> Option Value}, P.Nodup -> P[i]? = some x -> vs[i]? = some v -> kindOf x ≠ some .local ->
    bindC kindOf (P.zip vs) m x = some v
  | [], _, _, _, _, h, _, _ => by simp at h
  | _ :: _, [], _, _, _, _, h, _ => by simp at h
  | p :: P, w :: vs, 0, m, nd, h1, h2, hk => by
    simp at h1 h2; subst h1; subst h2
    show bindC kindOf ((p, w) :: P.zip vs) m p = _
    unfold bindC
    rw [pU fun v hv => (List.nodup_cons.mp nd).1 (List.of_mem_zip hv).1, if_neg hk]
    simp
  | p :: P, w :: vs, i + 1, m, nd, h1, h2, hk => by
    show bindC kindOf ((p, w) :: P.zip vs) m x = _
    unfold bindC
    exact qZ (i := i) (List.nodup_cons.mp nd).2 (by simpa using h1) (by simpa using h2) hk
def start (N : List Str) (vs : List V) : St := vs.map some ++ List.replicate (N.length - vs.length) none
def eU (CX : CXT) (P : Program) (w : World) (K : W.Frag) (mg : Str -> Option Value) (base : Heap) (N : List Str) (qual : Str) (scope : Scope) (f : Addr) (cd : Value) (A : Around) (outer : List Env) (s : Shared) (H : Hp) (E : XK) : Cx where
  prog := P
  w := w
  K := K
  mg := mg
  base := base
  A := A.deeper (envOfC qual scope s.heap.objs.size f cd)
  N := N
  s₀ := s
  H₀ := H
  env := envOfC qual scope s.heap.objs.size f cd
  outer := outer
  stack := envOfC qual scope s.heap.objs.size f cd :: outer
  ex := []
  calm := true
  fn := fun _ => true
  pn := []
  xe := fun e s' => wpAny (model P w) (A.deeper (envOfC qual scope s.heap.objs.size f cd)) (leaving (envOfC qual scope s.heap.objs.size f cd) e) (fun _ s'' => CX outer H s E e s'') (fun e' s'' => CX outer H s E e' s'') s'
theorem tV {sc : Scope} {n : Nat} {x : Str} (h : sc.names.lookup x = some .cell) : ∃ c, (cellsFrom n sc.names []).lookup x = some c := by
  have q := PySem.W.cellsFrom_some sc.names n [] (.inl h)
  exact Option.isSome_iff_exists.mp q
theorem rD {CX : CXT} {P : Program} {w : World} {K : W.Frag} {mg : Str -> Option Value} {base : Heap} {N ps : List Str} {qual : Str} {scope : Scope} {f : Addr} {cd : Value} {A : Around} {outer : List Env} {s s1 : Shared} {H : Hp} {E : XK} {us : List Value} {vs : List V}
    (S : bE N ps scope) (hd : A.handled = none) (e0 : zas P w K mg base A outer s H) (hl : vs.length = ps.length) (r : cA vs us)
    (x : InCallC s s.heap.objs.size (bindL (envOfC qual scope s.heap.objs.size f cd).kindOf (ps.zip us) fun _ => none) (cellsFrom (s.heap.objs.size + 1) scope.names []) (bindC (envOfC qual scope s.heap.objs.size f cd).kindOf (ps.zip us) fun _ => none) s1) :
    Inv (eU CX P w K mg base N qual scope f cd A outer s H E) [] (start N vs) H s1 := by
  have hpl : ps.length <= N.length := by have := congrArg List.length S.pre; rw [List.length_take] at this; omega
  obtain ⟨h1, tk, rfl, hk⟩ := x.done
  have noA : ∀ b : Addr, b ∉ (eU CX P w K mg base N qual scope f cd A outer s H E).ex := fun b z => absurd (show b ∈ ([] : List Addr) from z) (by simp)
  refine ⟨⟨e0.mod, S.kind, rfl, rfl, Nat.le_refl _, fun y z c h1 h2 => ?_, fun y hy => ?_, fun y c _ h => ?_, fun _ => hd, Around.frames_deeper e0.frames, .inr ⟨rfl, rfl⟩, fun b z => absurd z (noA b), e0.bs, e0.bsz, fun b _ _ => noA b, fun b z => absurd z (noA b), e0.funs, e0.frf⟩,
    rfl, e0.bare, Un.kept hk, ⟨_, x.toInCall.ns, fun i y v h1 h2 h3 => ?_⟩, fun y c h => ⟨_, x.cell y c h⟩, e0.hok.fresh (Nat.le_refl _), fun y c h => ?_, fun p hp => absurd (show p ∈ ([] : List (Addr × Obj)) from hp) (by simp), e0.hok.kept hk, ?_⟩
  . exact name_of_addr x.apart (PySem.mem_of_lookup h1) (PySem.mem_of_lookup h2)
  . have hy : scope.names.lookup y = some .cell \/ scope.names.lookup y = some .free := hy
    rcases hy with hy | hy
    . exact tV hy
    . exact absurd rfl (S.nofree _ (PySem.mem_of_lookup hy))
  . exact Nat.le_of_lt (x.above y c (PySem.mem_of_lookup h))
  . have hi : i < vs.length := by
      unfold start at h2
      by_cases hi : i < vs.length
      . exact hi
      . rw [List.getElem?_append_right (by simpa using hi)] at h2
        rw [List.getElem?_replicate] at h2
        split at h2 <;> cases h2
    have ha : vs[i]? = some v := by
      unfold start at h2
      rw [List.getElem?_append_left (by simpa using hi), List.getElem?_map] at h2
      cases e : vs[i]? with
      | none => rw [e] at h2; cases h2
      | some a => rw [e] at h2; cases h2; rfl
    obtain ⟨u, hu, rv⟩ := r.get ha
    have hp : ps[i]? = some y := by
      rw [<- S.pre, List.getElem?_take_of_lt (by omega)]; exact h1
    have ndP : ps.Nodup := by rw [<- S.pre]; exact S.nd.sublist (List.take_sublist _ _)
    refine ⟨u, rv, ?_⟩
    rcases S.par y (List.mem_of_getElem? hp) with k | k
    . exact .inl ⟨k, rX ndP hp hu k⟩
    . obtain ⟨c, e⟩ := tV (n := s.heap.objs.size + 1) k
      refine .inr ⟨.inl k, c, e, ?_⟩
      have q := x.cell y c e
      rw [qZ ndP hp hu (by show scope.names.lookup y ≠ _; rw [k]; decide)] at q
      exact q
  . exact e0.hok.fresh (Nat.le_of_lt (x.above y c (PySem.mem_of_lookup h)))
  . unfold start
    show _ = N.length
    rw [List.length_append, List.length_map, List.length_replicate]
    omega
theorem zkN {CX : CXT} {P : Program} {w : World} {K : W.Frag} {mg : Str -> Option Value} {base : Heap} {k : Nat} {f : Addr} {name qual : Str} {params : Arguments} {body : List Stmt} {scope : Scope} {dV kV doc pm cdv ct oc : Value} {an od : Option Addr}
    {osl : Array (Option Value)} {N ps : List Str} {sp : Sp} (lk : K.lookup f = some ⟨oc, od, .func (PySem.W.fnOf name qual params body scope dV kV doc pm an cdv ct), osl⟩) (hcd : PySem.W.codeIn K cdv qual = true) (S : bE N ps scope)
    (len : ∀ vs H Q E, sp vs H Q E -> vs.length = ps.length)
    (hbody : ∀ (A : Around) (outer : List Env) (s : Shared) (H : Hp) (vs : List V) (Q : VK) (E : XK), iE k (A.deeper (envOfC qual scope s.heap.objs.size f cdv)) -> sp vs H Q E ->
      ∃ t, PSs (eU CX P w K mg base N qual scope f cdv A outer s H E) body t /\ t { nx := fun _ H' => Q .non H', rt := Q } (start N vs) H) :
    FnOk P w K mg base CX (k + 1) f (PySem.W.fnOf name qual params body scope dV kV doc pm an cdv ct) ps sp := by
  refine ⟨len, fun A outer s H args us vs Q E hr e0 hb r hsp => ?_⟩
  have hl := len _ _ _ _ hsp
  have KX : K.In s.heap := e0.mod.kin.keeps fun b o e => (e0.bs b o e).1
  have lim : s.heap.NoLimit := e0.mod.nolimit.keeps fun b o e => (e0.bs b o e).1
  have tJ : ∀ y ∈ ps.zip us, scope.names.lookup y.1 = some .local \/ (scope.names.lookup y.1 = some .cell /\ ((cellsFrom (s.heap.objs.size + 1) scope.names []).lookup y.1).isSome = true) := fun ⟨n, v⟩ hy => by
    rcases S.par n (List.of_mem_zip hy).1 with q | q
    . exact .inl q
    . exact .inr ⟨q, PySem.W.cellsFrom_some _ _ _ (.inl q)⟩
  refine codeAny_call_function hr.depth (KX _ _ lk) rfl S.co S.gen rfl (PySem.W.codeRec_of KX hcd) (hb _ _ _ _ ?_)
  refine wpAny_newFunctionEnv_cells S.kind tJ fun env he s1 x => ?_
  subst he
  refine ⟨lim.keeps x.toInCall.keep, codeAny_func ?_⟩
  obtain ⟨t, ht, hq⟩ := hbody A outer s H vs Q E (hr.deeper _) hsp
  have I : Inv (eU CX P w K mg base N qual scope f cdv A outer s H E) [] (start N vs) H s1 := rD S hr.hd e0 hl r x
  refine wpAny_mono (ht [] s1 (start N vs) H _ I hq) (fun fl s' hs => ?_) fun e s' hs => hs
  have fin : ∀ {σ' : St} {H' : Hp} {v : V} {u : Value}, Inv (eU CX P w K mg base N qual scope f cdv A outer s H E) [] σ' H' s' -> cH v u -> Q v H' -> CE outer P w H s Q u s' :=
    fun {σ' H' v u} J rv q => ⟨v, H', J.os, J.bare, J.base, J.hok, rv, q⟩
  cases fl with
  | ret u =>
    obtain ⟨v, σ', H', J, rv, q⟩ := hs
    exact fin J rv q
  | next =>
    obtain ⟨σ', H', J, q⟩ := hs
    exact fin (v := V.non) (u := Value.none) J rfl q
  | brk =>
    obtain ⟨_, _, _, q⟩ := hs
    exact False.elim q
  | cont =>
    obtain ⟨_, _, _, q⟩ := hs
    exact False.elim q
section
variable {X : Cx} {x : Str} {p pos : Pos} {e : Expr} {es : List Expr} {t : TA} {id T : String} {r : List V -> Hp -> VK -> Prop}
def tCB (r : List V -> Hp -> VK -> Prop) (t : TA) : TE := fun σ H Q => t σ H fun vs H1 => r vs H1 Q
theorem aT (hc : fD X (.builtin id) r) (hg : Gl X x) (hm : X.mg x = none) (hv : bootBuiltins x = some (.builtin id)) (ha : PA X (e :: es) t) (hn : x ≠ "__name__" := by decide) (hdb : (x == ("__debug__" : Str)) = false := by decide)
    (he : starEach (e :: es) X.env = (false, eval e X.env) :: starEach es X.env := by rfl) (hpl : (backTo pos (starEach es X.env)).any (·.1) = false := by rfl) : PE X (.Call (.Name x p) (e :: es) [] pos) (tCB r t) := by
  intro pins s σ H Q I h
  refine wpAny_Call_Name_kw (kN I hg hm hv ?_ hn hdb)
  exact PyProof.Rows.callWith_builtin1 (thn (ha pos pins s σ H _ I h) fun us s1 ⟨vs, H1, I1, r1, q1⟩ => hc pins s1 σ H1 vs us Q I1 r1 q1) he hpl
theorem cF (hc : fD X (.type T) r) (hg : Gl X x) (hm : X.mg x = none) (hv : bootBuiltins x = some (.type T)) (ha : PA X (e :: es) t) (hn : x ≠ "__name__" := by decide) (hdb : (x == ("__debug__" : Str)) = false := by decide)
    (he : starEach (e :: es) X.env = (false, eval e X.env) :: starEach es X.env := by rfl) (hpl : (backTo pos (starEach es X.env)).any (·.1) = false := by rfl) : PE X (.Call (.Name x p) (e :: es) [] pos) (tCB r t) := by
  intro pins s σ H Q I h
  refine wpAny_Call_Name_kw (kN I hg hm hv ?_ hn hdb)
  exact PyProof.Rows.callWith_type1 (thn (ha pos pins s σ H _ I h) fun us s1 ⟨vs, H1, I1, r1, q1⟩ => hc pins s1 σ H1 vs us Q I1 r1 q1) he hpl
theorem nV (hc : fD X (.type T) r) (hg : Gl X x) (hm : X.mg x = none) (hv : bootBuiltins x = some (.type T)) (hn : x ≠ "__name__" := by decide) (hdb : (x == ("__debug__" : Str)) = false := by decide) :
    PE X (.Call (.Name x p) [] [] pos) (tCB r iD) := by
  intro pins s σ H Q I h
  refine wpAny_Call_Name_kw (kN I hg hm hv ?_ hn hdb)
  exact PyProof.Rows.callWith_type0 (hc pins s σ H [] [] Q I .nil h)
end
end L2
namespace HT
open PySem PyProof.Rows
section
open PySem.SeqAt
open PySem.AutoSeq1 (wpAny_loadPart')
open PySem.MeetsSeq PySem.MeetsSeq2 PySem.MeetsSeq3
end
section
variable {prog : Program} {w : World} {A : Around} {E : Value -> Shared -> Prop} {s : Shared}
def sIx (n d : Nat) : Option Int -> Nat
  | none => d
  | some v => if v < 0 then (v + (n : Int)).toNat else min v.toNat n
theorem sIx_nat (n d k : Nat) : sIx n d (some (k : Int)) = min k n := by
  show (if (k : Int) < 0 then ((k : Int) + (n : Int)).toNat else min (k : Int).toNat n) = min k n
  rw [if_neg (by omega), Int.toNat_natCast]
end
end HT
namespace L2
open PySem PySem.Spec PyProof.Rows
abbrev TO := St -> Hp -> (Option Int -> Hp -> Prop) -> Prop
def PO (X : Cx) (e : Option Expr) (t : TO) : Prop :=
  ∀ (pins : List (Addr × Obj)) (s : Shared) (σ : St) (H : Hp) (Q : Option Int -> Hp -> Prop), Inv X pins σ H s -> t σ H Q ->
    wpAny (model X.prog X.w) X.A (evalPart e X.env) (fun u s' => ∃ o H', Inv X pins σ H' s' /\ IsPart u o /\ Q o H') X.xe s
def kL : TO := fun _ H Q => Q none H
def qI (t : TE) : TO := fun σ H Q => t σ H fun x H1 => ∃ i, x = .int i /\ Q (some i) H1
theorem wB {ns : List Int} : ∀ {us : List Value}, cA (ns.map V.int) us -> IntsAre us ns := by
  induction ns with
  | nil => intro us r; rw [List.map_nil] at r; cases r; exact .nil
  | cons n ns ih =>
    intro us r
    rw [List.map_cons] at r
    cases r with
    | cons r1 r2 =>
      obtain ⟨t, e⟩ := r1
      subst e
      exact .cons n t (ih r2)
section
variable {X : Cx} {e : Expr} {te : TE} {lo hi : Option Expr} {tl th : TO} {pos p2 : Pos}
theorem dQ : PO X none kL := by
  intro pins s σ H Q I h
  rw [evalPart_none]
  exact wpAny_pure ⟨none, H, I, .none, h⟩
theorem dC (h : PE X e te) : PO X (some e) (qI te) := by
  intro pins s σ H Q I hw
  rw [evalPart_some]
  refine thn (h pins s σ H _ I hw) fun u s1 zz => ?_
  obtain ⟨x, H1, I1, r1, q1⟩ := zz
  obtain ⟨i, rfl, q⟩ := q1
  obtain ⟨t, rfl⟩ := r1
  exact ⟨some i, H1, I1, .int i t, q⟩
def SlR (X : Cx) (r : V -> Option Int -> Option Int -> Hp -> VK -> Prop) : Prop :=
  ∀ (pins : List (Addr × Obj)) (s : Shared) (σ : St) (H : Hp) (x : V) (v vl vu : Value) (lo hi : Option Int) (sl : Addr) (Q : VK), Inv X pins σ H s -> cH x v -> s.heap.IsSliceOf sl vl vu .none -> IsPart vl lo -> IsPart vu hi -> r x lo hi H Q ->
    ∃ T id, typeLookup (.type T) "__getitem__" = pure (some (.builtin id)) /\ s.TypeIs v T /\ wpAny (model X.prog X.w) X.A (getItem v (.ref sl)) (EP X pins σ Q) X.xe s
def tSl (r : V -> Option Int -> Option Int -> Hp -> VK -> Prop) (te : TE) (tl th : TO) : TE := fun σ H Q => te σ H fun x H1 => tl σ H1 fun l H2 => th σ H2 fun u H3 => r x l u H3 Q
theorem cG {r : V -> Option Int -> Option Int -> Hp -> VK -> Prop} (hr : SlR X r) (he : PE X e te) (hl : PO X lo tl) (hu : PO X hi th) : PE X (.Subscript e (.Slice lo hi none p2) pos) (tSl r te tl th) := by
  intro pins s σ H Q I h
  refine Subscript_ (thn (he pins s σ H _ I h) fun v s1 zz => ?_)
  obtain ⟨x, H1, I1, r1, q1⟩ := zz
  refine wpAny_Slice (thn (hl pins s1 σ H1 _ I1 q1) fun vl s2 ⟨l, H2, I2, pl, q2⟩ => thn (hu pins s2 σ H2 _ I2 q2) fun vu s3 zz => ?_)
  obtain ⟨u, H3, I3, pu, q3⟩ := zz
  rw [evalPart_none]
  refine wpAny_pure ?_
  have I4 : Inv X pins σ H3 { s3 with heap := s3.heap.push { cls := .type "slice", data := .fields #[vl, vu, .none] } } := I3.kept (t' := s3.toks) fun b ob q => Heap.get?_push_of_some _ q
  obtain ⟨T, id, hT, ht, hg⟩ := hr pins { s3 with heap := s3.heap.push { cls := .type "slice", data := .fields #[vl, vu, .none] } } σ H3 x v vl vu l u s3.heap.objs.size Q I4 r1 (Heap.IsSliceOf.new ..) pl pu q3
  show wpAny (model X.prog X.w) X.A (subscriptTail e (.Slice lo hi none p2) v (.ref s3.heap.objs.size)) (EP X pins σ Q) X.xe { s3 with heap := s3.heap.push { cls := .type "slice", data := .fields #[vl, vu, .none] } }
  exact tail_any (ops := [.ref s3.heap.objs.size, v]) ht hT hg (by with_unfolding_all rfl)
def zcW (xs : List V) (lo hi : Option Int) : List V := (xs.drop (HT.sIx xs.length 0 lo)).take (HT.sIx xs.length xs.length hi - HT.sIx xs.length 0 lo)
theorem lZ (xs : List V) (lo hi : Option Int) : (zcW xs lo hi).length <= xs.length := by
  unfold zcW
  rw [List.length_take, List.length_drop]
  exact Nat.le_trans (Nat.min_le_right _ _) (Nat.sub_le _ _)
end
def ixN (n : Nat) (i : Int) : Option Nat := if 0 <= i then (if i < n then some i.toNat else none) else if -(n : Int) <= i then some (i + n).toNat else none
def atI {α : Type} (xs : List α) (i : Int) : Option α := (ixN xs.length i).bind fun j => xs[j]?
theorem zJ {n : Nat} {i : Int} {j : Nat} (h : ixN n i = some j) : seqIndex? i n = some j /\ j < n /\ -(n : Int) <= i /\ i < n := by
  unfold ixN at h
  by_cases h0 : 0 <= i
  . rw [if_pos h0] at h
    by_cases h1 : i < n
    . rw [if_pos h1] at h
      have e : i.toNat = j := Option.some.inj h
      exact ⟨by rw [seqIndex_of h0 h1, e], by omega, by omega, h1⟩
    . rw [if_neg h1] at h; cases h
  . rw [if_neg h0] at h
    by_cases h1 : -(n : Int) <= i
    . rw [if_pos h1] at h
      have e : (i + n).toNat = j := Option.some.inj h
      exact ⟨by rw [seqIndex_neg (by omega) h1, e], by omega, h1, by omega⟩
    . rw [if_neg h1] at h; cases h
theorem sG {α : Type} {xs : List α} {i : Int} {v : α} (h : atI xs i = some v) : ∃ j, seqIndex? i xs.length = some j /\ xs[j]? = some v /\ j < xs.length /\ -(xs.length : Int) <= i /\ i < xs.length := by
  unfold atI at h
  cases e : ixN xs.length i with
  | none => rw [e] at h; cases h
  | some j =>
    rw [e] at h
    obtain ⟨h1, h2, h3, h4⟩ := zJ e
    exact ⟨j, h1, h, h2, h3, h4⟩
theorem bV {α : Type} {xs : List α} {j : Nat} {v : α} (h : xs[j]? = some v) : atI xs (j : Int) = some v := by
  have hj : j < xs.length := (List.getElem?_eq_some_iff.mp h).1
  have e : ixN xs.length (j : Int) = some j := by
    unfold ixN
    rw [if_pos (by omega), if_pos (by omega)]; simp
  unfold atI; rw [e]; exact h
def zdT (b : Expr) : Prop := ∀ o i, subscripted b false o i = operate [o, i] (getItem o i)
def IxR (X : Cx) (r : R2) : Prop :=
  ∀ (value slice : Expr) (pins : List (Addr × Obj)) (s : Shared) (σ : St) (H : Hp) (x y : V) (v u : Value) (Q : VK), Inv X pins σ H s -> cH x v -> cH y u -> r x y H Q ->
    subscripted slice false v u = operate [v, u] (getItem v u) -> wpAny (model X.prog X.w) X.A (subscriptTail value slice v u) (EP X pins σ Q) X.xe s
def MtR (X : Cx) (id : String) (r : V -> List V -> Hp -> VK -> Prop) : Prop :=
  ∀ (pins : List (Addr × Obj)) (s : Shared) (σ : St) (H : Hp) (x : V) (xs : List V) (v : Value) (us : List Value) (Q : VK), Inv X pins σ H s -> cH x v -> cA xs us -> r x xs H Q ->
    wpAny (model X.prog X.w) X.A (call (.builtin id) (v :: us)) (EP X pins σ Q) X.xe s
section
variable {X : Cx} {a b : Expr} {ta tb : TE} {pos : Pos}
theorem dZ {r : R2} (hr : IxR X r) (ha : PE X a ta) (hb : PE X b tb) (hs : zdT b) : PE X (.Subscript a b pos) (tOp r ta tb) := by
  intro pins s σ H Q I h
  exact Subscript_ (zmv ha hb I h fun v u s2 x y H2 I2 rx ry q => hr a b pins s2 σ H2 x y v u Q I2 rx ry q (hs _ _))
def oA (K : W.Frag) : R2 := fun x y H Q => ∃ p xs i v, x = .ref p /\ y = .int i /\ SqL K H p xs /\ atI xs i = some v /\ Q v H
def znt (K : W.Frag) : R2 := fun x y H Q => ∃ p xs i v, x = .ref p /\ y = .int i /\ SqT K H p xs /\ atI xs i = some v /\ Q v H
def zmJ : R2 := fun x y H Q => ∃ z i c, x = .str z /\ y = .int i /\ z.length <= sizeLine /\ atI z.cps.toList i = some c /\ Q (.str ⟨#[c]⟩) H
theorem bQ : IxR X (oA X.K) := by
  intro value slice pins s σ H x y v u Q I rx ry h hs
  obtain ⟨p, xs, i, z, rfl, rfl, hq, he, q⟩ := h
  cases rx
  obtain ⟨t, rfl⟩ := ry
  obtain ⟨its, r, pl, hz⟩ := I.list hq
  obtain ⟨j, h1, h2, h3, h4, h5⟩ := sG he
  obtain ⟨w, ew, rw'⟩ := r.get h2
  have hl := r.length
  have hn := kP
  have fin : EP X pins σ Q w s := ⟨z, H, I, rw', q⟩
  by_cases h0 : 0 <= i
  . have hj : i.toNat = j := by
      rw [seqIndex_of h0 h5] at h1
      exact Option.some.inj h1
    exact item_listR pl.isList h0 (by omega) (by rw [hj]; simpa using ew) fin hs
  . have hj : (i + (its.toArray.size : Int)).toNat = j := by
      rw [seqIndex_neg (by omega) h4] at h1
      rw [List.size_toArray, <- hl]
      exact Option.some.inj h1
    exact subscriptTail_builtinR (x := w) pl.isList.typeIs slot_list_getitem.lookup
      (wpAny_getItem_list_neg (Q := fun r s' => r = w /\ EP X pins σ Q r s') pl.isList (by omega) (by rw [List.size_toArray] <;> omega) (by omega) (by rw [hj]; simpa using ew) ⟨rfl, fin⟩) hs
theorem zcs : IxR X (znt X.K) := by
  intro value slice pins s σ H x y v u Q I rx ry h hs
  obtain ⟨p, xs, i, z, rfl, rfl, hq, he, q⟩ := h
  cases rx
  obtain ⟨t, rfl⟩ := ry
  obtain ⟨its, r, pl, hz⟩ := I.tuple hq
  obtain ⟨j, h1, h2, h3, h4, h5⟩ := sG he
  obtain ⟨w, ew, rw'⟩ := r.get h2
  have hl := r.length
  have hn := kP
  have fin : EP X pins σ Q w s := ⟨z, H, I, rw', q⟩
  exact subscriptTail_builtinR (x := w) pl.typeIs slot_tuple_getitem.lookup
    (getItem_tuple (j := j) (Q := fun r s' => r = w /\ EP X pins σ Q r s') pl (by omega) (by omega) (by rw [List.size_toArray, <- hl]; exact h1) (by simpa using ew) ⟨rfl, fin⟩) hs
theorem uO : IxR X zmJ := by
  intro value slice pins s σ H x y v u Q I rx ry h hs
  obtain ⟨z, i, c, rfl, rfl, hz, he, q⟩ := h
  obtain ⟨t, rfl⟩ := rx
  obtain ⟨t', rfl⟩ := ry
  obtain ⟨j, h1, h2, h3, h4, h5⟩ := sG he
  have hl : z.cps.toList.length = z.length := by simp [Str.length]
  rw [hl] at h1 h4 h5
  have hn := kP
  exact tail_any (typeIs_str s z t) slot_str_getitem.lookup (getItem_str (c := c) (by
    have e1 : decide (i < -(2 ^ 63 : Int)) = false := decide_eq_false (by omega)
    have e2 : decide (i ≥ 2 ^ 63) = false := decide_eq_false (by omega)
    rw [e1, e2, Bool.or_false]) (by rw [h1]; simpa using h2) ⟨.str ⟨#[c]⟩, H, I.tok _, ⟨_, rfl⟩, q⟩) hs
theorem vI (its : List Value) (n j : Nat) (u : Value) : Obj.mapSeq (·.setIfInBounds j u) { cls := .type "list", data := .seq its.toArray n } = { cls := .type "list", data := .seq (its.set j u).toArray n } := by
  simp [Obj.mapSeq]
theorem Inv.lst {pins : List (Addr × Obj)} {σ : St} {H : Hp} {s : Shared} {p : Addr} {xs : List V} (I : Inv X pins σ H s) (h : H p = some (.lst xs)) :
    ∃ (its : List Value) (n : Nat), cA xs its /\ s.heap.get? p = some { cls := .type "list", data := .seq its.toArray n } /\ xs.length <= sizeLine := by
  obtain ⟨z, its, n, r, e⟩ := I.hok p _ h
  exact ⟨its, n, r, e, z⟩
theorem Inv.lstUpd {pins : List (Addr × Obj)} {σ : St} {H : Hp} {s : Shared} {p : Addr} {xs ys : List V} {its its' : List Value} {n n' : Nat} {f : Obj -> Obj} (I : Inv X pins σ H s) (h : H p = some (.lst xs))
    (ho : s.heap.get? p = some { cls := .type "list", data := .seq its.toArray n }) (hf : f { cls := .type "list", data := .seq its.toArray n } = { cls := .type "list", data := .seq its'.toArray n' }) (r : cA ys its') (hz : ys.length <= sizeLine) (t : Nat) :
    Inv X pins σ (upd H p (.lst ys)) { s with heap := s.heap.update p f, toks := t } := by
  have e : (s.heap.update p f).get? p = some { cls := .type "list", data := .seq its'.toArray n' } := by
    rw [Heap.get?_update_self f ho (by rw [hf] <;> rfl), hf]
  refine I.write (x := p) (e := p) (by rw [h]; trivial) (.inl rfl) (fun b u hb q => (Heap.get?_update_other _ _ (Ne.symm hb)).trans q) ⟨_, e⟩ ?_
  exact ⟨hz, its', n', r, e⟩
def zmN : V -> V -> V -> Hp -> (Hp -> Prop) -> Prop := fun o i v H Q => ∃ p xs k j, o = .ref p /\ i = .int k /\ H p = some (.lst xs) /\ ixN xs.length k = some j /\ Q (upd H p (.lst (xs.set j v)))
theorem oN : zoT X zmN := by
  intro pins s σ H o i v ov iv u Q I ro ri rv h
  obtain ⟨p, xs, k, j, rfl, rfl, hp, hj, q⟩ := h
  cases ro
  obtain ⟨t, rfl⟩ := ri
  obtain ⟨its, n, r, ho, hz⟩ := I.lst hp
  obtain ⟨h1, h2, h3, h4⟩ := zJ hj
  have hl := r.length
  have hn := kP
  have I' : Inv X pins σ (upd H p (.lst (xs.set j v))) { s with heap := s.heap.update p (Obj.mapSeq (·.setIfInBounds j u)) } :=
    I.lstUpd hp ho (vI its n j u) (r.set rv j) (by rw [List.length_set]; exact hz) s.toks
  by_cases h0 : 0 <= k
  . have hk : k.toNat = j := by
      rw [seqIndex_of h0 h4] at h1
      exact Option.some.inj h1
    exact PySem.W.ki_setAt ho h0 (by omega) (by rw [List.size_toArray, <- hl]; exact h4) (by rw [hk]; exact ⟨_, I', q⟩)
  . have hk : (k + (its.toArray.size : Int)).toNat = j := by
      rw [seqIndex_neg (by omega) h3] at h1
      rw [List.size_toArray, <- hl]
      exact Option.some.inj h1
    exact PySem.W.ki_setBack ho (by omega) (by rw [List.size_toArray, <- hl]; exact h3) (by omega) (by rw [hk]; exact ⟨_, I', q⟩)
theorem zfo (i : Int) (n : Nat) : max 0 (min (if i < 0 then i + (n : Int) else i) (n : Int)) = (((if i < 0 then (i + (n : Int)).toNat else min i.toNat n) : Nat) : Int) := by
  by_cases h : i < 0
  . rw [if_pos h, if_pos h, Int.min_eq_left (Int.le_trans (Int.add_le_add_right (Int.le_of_lt h) _) (by rw [Int.zero_add]; exact Int.le_refl _)), Int.ofNat_toNat, Int.max_comm]
  . rw [if_neg h, if_neg h]
    cases i with
    | negSucc k => exact absurd (Int.negSucc_lt_zero k) h
    | ofNat k =>
      show max 0 (min (k : Int) (n : Int)) = ((min k n : Nat) : Int)
      rw [Int.min_def, Nat.min_def]
      by_cases q : k <= n
      . rw [if_pos q, if_pos (Int.ofNat_le.mpr q)]; exact Int.max_eq_right (Int.natCast_nonneg _)
      . rw [if_neg q, if_neg (fun z => q (Int.ofNat_le.mp z))]; exact Int.max_eq_right (Int.natCast_nonneg _)
theorem qO (lo hi : Option Int) (n : Nat) : (sliceBounds lo hi none n).1 = ((HT.sIx n 0 lo : Nat) : Int) /\ (sliceBounds lo hi none n).2.1 = ((HT.sIx n n hi : Nat) : Int) /\ (sliceBounds lo hi none n).2.2 = 1 := by
  refine ⟨?_, ?_, rfl⟩
  . cases lo with
    | none => rfl
    | some i => exact zfo i n
  . cases hi with
    | none => rfl
    | some i => exact zfo i n
theorem oO (its : List Value) (lo hi : Option Int) : slicePick its.toArray lo hi none = ((its.drop (HT.sIx its.length 0 lo)).take (HT.sIx its.length its.length hi - HT.sIx its.length 0 lo)).toArray := by
  obtain ⟨h1, h2, h3⟩ := qO lo hi its.toArray.size
  unfold slicePick
  rw [h1, h2, h3]
  simp only [sliceRange_one, pick_run, List.size_toArray] <;> rfl
def ziQ (K : W.Frag) : V -> Option Int -> Option Int -> Hp -> VK -> Prop := fun x lo hi H Q => ∃ a xs, x = .ref a /\ SqL K H a xs /\ ∀ p, H p = none -> Q (.ref p) (upd H p (.lst (zcW xs lo hi)))
theorem fQ : SlR X (ziQ X.K) := by
  intro pins s σ H x v vl vu lo hi sl Q I rx hs pl pu h
  obtain ⟨a, xs, rfl, hx, q⟩ := h
  cases rx
  obtain ⟨its, r, ht, hz⟩ := I.list hx
  have dR := r.length
  refine ⟨"list", _, slot_list_getitem.lookup, ht.isList.typeIs, ?_⟩
  refine wpAny_getItem_list_slice ht.isList hs pl pu .none (by simp) ?_ (by rw [List.size_toArray] <;> omega)
  rw [oO, <- dR]
  refine ⟨.ref s.heap.objs.size, _, I.laid (t' := s.toks) (o := .lst (zcW xs lo hi)) (fun b ob q => Heap.get?_push_of_some _ q) (Nat.le_refl _) ?_, rfl, q _ (I.hok.fresh (Nat.le_refl _))⟩
  exact ⟨Nat.le_trans (lZ xs lo hi) hz, _, 0, (r.drop (HT.sIx xs.length 0 lo)).take (HT.sIx xs.length xs.length hi - HT.sIx xs.length 0 lo), Heap.get?_push_size _ rfl⟩
def pK : V -> Bool
  | .non => true
  | .bl _ => true
  | .int _ => true
  | .str _ => true
  | _ => false
def eqV : V -> V -> Bool
  | .non, .non => true
  | .bl a, .bl b => a == b
  | .bl a, .int b => (if a then 1 else 0) == b
  | .int a, .bl b => a == (if b then 1 else 0)
  | .int a, .int b => a == b
  | .str a, .str b => a == b
  | _, _ => false
theorem rF {A : Around} {s : Shared} {y x : V} {u v : Value} (ry : cH y u) (rx : cH x v) (fy : pK y = true) (fx : pK x = true) : SeqAt.EqAt A s u v (eqV y x) := by
  cases y with
  | non =>
    cases ry
    cases x with
    | non => cases rx; exact SeqAt.EqAt.same _
    | bl b => cases rx; exact SeqAt.EqAt.none_bool b
    | int b => obtain ⟨t, rfl⟩ := rx; exact SeqAt.EqAt.none_int b t
    | str b => obtain ⟨t, rfl⟩ := rx; exact SeqAt.EqAt.none_str b t
    | _ => exact absurd (show false = true from fx) Bool.false_ne_true
  | bl a =>
    cases ry
    cases x with
    | non => cases rx; exact SeqAt.EqAt.bool_none a
    | bl b => cases rx; exact SeqAt.EqAt.bool_bool a b
    | int b => obtain ⟨t, rfl⟩ := rx; exact SeqAt.EqAt.bool_int a b t
    | str b => obtain ⟨t, rfl⟩ := rx; exact SeqAt.EqAt.bool_str a b t
    | _ => exact absurd (show false = true from fx) Bool.false_ne_true
  | int a =>
    obtain ⟨t', rfl⟩ := ry
    cases x with
    | non => cases rx; exact SeqAt.EqAt.int_none a t'
    | bl b => cases rx; exact SeqAt.EqAt.int_bool a t' b
    | int b => obtain ⟨t, rfl⟩ := rx; exact SeqAt.EqAt.int_int a t' b t
    | str b => obtain ⟨t, rfl⟩ := rx; exact SeqAt.EqAt.int_str a t' b t
    | _ => exact absurd (show false = true from fx) Bool.false_ne_true
  | str a =>
    obtain ⟨t', rfl⟩ := ry
    cases x with
    | non => cases rx; exact SeqAt.EqAt.str_none a t'
    | bl b => cases rx; exact SeqAt.EqAt.str_bool a t' b
    | int b => obtain ⟨t, rfl⟩ := rx; exact SeqAt.EqAt.str_int a t' b t
    | str b => obtain ⟨t, rfl⟩ := rx; exact SeqAt.EqAt.str_str a t' b t
    | _ => exact absurd (show false = true from fx) Bool.false_ne_true
  | _ => exact absurd (show false = true from fy) Bool.false_ne_true
def eqU (x : V) (u : Value) : Bool := match u with
  | .none => eqV .non x
  | .bool b => eqV (.bl b) x
  | .int i _ => eqV (.int i) x
  | .str z _ => eqV (.str z) x
  | _ => false
theorem zbZ {x y : V} {u : Value} (r : cH y u) (f : pK y = true) : eqU x u = eqV y x := by
  cases y with
  | non => cases r; rfl
  | bl b => cases r; rfl
  | int i => obtain ⟨t, rfl⟩ := r; rfl
  | str z => obtain ⟨t, rfl⟩ := r; rfl
  | _ => exact absurd (show false = true from f) Bool.false_ne_true
theorem mC {x : V} : ∀ {xs : List V} {us : List Value}, cA xs us -> xs.all pK = true -> us.any (eqU x) = xs.any fun y => eqV y x
  | _, _, .nil, _ => rfl
  | y :: xs, u :: us, .cons r t, f => by
    rw [List.all_cons, Bool.and_eq_true] at f
    rw [List.any_cons, List.any_cons, zbZ r f.1, mC t f.2]
theorem jT {A : Around} {s : Shared} {x : V} {v : Value} (rx : cH x v) (fx : pK x = true) : ∀ {xs : List V} {us : List Value}, cA xs us -> xs.all pK = true -> ∀ u ∈ us, SeqAt.EqAt A s u v (eqU x u)
  | _, _, .nil, _ => fun u hu => by cases hu
  | y :: xs, u :: us, .cons r t, f => fun u' hu => by
    rw [List.all_cons, Bool.and_eq_true] at f
    rcases List.mem_cons.mp hu with rfl | hu
    . rw [zbZ r f.1]; exact rF r rx f.1 fx
    . exact jT rx fx t f.2 u' hu
def inV (x : V) (xs : List V) : Bool := xs.any fun y => eqV y x
def rIn (K : W.Frag) (neg : Bool) : R2 := fun x y H Q => ∃ p xs, y = .ref p /\ (SqL K H p xs \/ SqT K H p xs) /\ pK x = true /\ xs.all pK = true /\ Q (.bl (if neg then !inV x xs else inV x xs)) H
theorem qH : OpR X (compareOp .In) (rIn X.K false) := by
  intro pins s σ H x y v u Q I rx ry h
  obtain ⟨p, xs, rfl, hq, fx, fs, q⟩ := h
  cases ry
  rcases hq with hq | hq
  . obtain ⟨its, r, pl, hz⟩ := I.list hq
    refine SeqAt.in_listAt (eqU x) pl.isList (fun w hw => jT rx fx r fs w (by simpa using hw)) ⟨.bl _, H, I, rfl, ?_⟩
    rw [show its.toArray.any (eqU x) = its.any (eqU x) by simp, mC r fs]
    exact q
  . obtain ⟨its, r, pl, hz⟩ := I.tuple hq
    refine SeqAt.in_tupleAt (eqU x) pl (fun w hw => jT rx fx r fs w (by simpa using hw)) ⟨.bl _, H, I, rfl, ?_⟩
    rw [show its.toArray.any (eqU x) = its.any (eqU x) by simp, mC r fs]
    exact q
theorem eE : OpR X (compareOp .NotIn) (rIn X.K true) := by
  intro pins s σ H x y v u Q I rx ry h
  obtain ⟨p, xs, rfl, hq, fx, fs, q⟩ := h
  cases ry
  rcases hq with hq | hq
  . obtain ⟨its, r, pl, hz⟩ := I.list hq
    refine SeqAt.notIn_listAt (eqU x) pl.isList (fun w hw => jT rx fx r fs w (by simpa using hw)) ⟨.bl _, H, I, rfl, ?_⟩
    rw [show its.toArray.any (eqU x) = its.any (eqU x) by simp, mC r fs]
    exact q
  . obtain ⟨its, r, pl, hz⟩ := I.tuple hq
    refine SeqAt.notIn_tupleAt (eqU x) pl (fun w hw => jT rx fx r fs w (by simpa using hw)) ⟨.bl _, H, I, rfl, ?_⟩
    rw [show its.toArray.any (eqU x) = its.any (eqU x) by simp, mC r fs]
    exact q
theorem bL : fD X (.builtin "len") (fun xs H Q => ∃ p ys, xs = [.ref p] /\ (SqL X.K H p ys \/ SqT X.K H p ys) /\ Q (.int ys.length) H) := by
  intro pins s σ H xs us Q I r h
  obtain ⟨p, ys, rfl, hq, q⟩ := h
  obtain ⟨u, rfl, rx⟩ := kZ r
  cases rx
  have hn := kP
  rcases hq with hq | hq
  . obtain ⟨its, r', pl, hz⟩ := I.list hq
    have dR := r'.length
    exact Calls.call_len_list pl.isList (by simp only [List.size_toArray] <;> omega) ⟨.int ys.length, H, I.tok _, ⟨s.toks + 1, by rw [List.size_toArray, dR]⟩, q⟩
  . obtain ⟨its, r', pl, hz⟩ := I.tuple hq
    have dR := r'.length
    exact len_tuple pl (by simp only [List.size_toArray] <;> omega) ⟨.int ys.length, H, I.tok _, ⟨s.toks + 1, by rw [List.size_toArray, dR]⟩, q⟩
theorem iI : fD X (.builtin "len") (fun xs H Q => ∃ z, xs = [.str z] /\ z.length <= sizeLine /\ Q (.int z.length) H) := by
  intro pins s σ H xs us Q I r h
  obtain ⟨z, rfl, hz, q⟩ := h
  obtain ⟨u, rfl, t, rfl⟩ := kZ r
  have hn := kP
  exact len_str (by omega) ⟨.int z.length, H, I.tok _, ⟨_, rfl⟩, q⟩
theorem fD.or {f : Value} {r r' : List V -> Hp -> VK -> Prop} (h : fD X f r) (h' : fD X f r') : fD X f (fun xs H Q => r xs H Q \/ r' xs H Q) := by
  intro pins s σ H xs us Q I rs q
  rcases q with q | q
  . exact h pins s σ H xs us Q I rs q
  . exact h' pins s σ H xs us Q I rs q
theorem cE : fD X (.type "list") (fun xs H Q => ∃ p ys, xs = [.ref p] /\ (SqL X.K H p ys \/ SqT X.K H p ys) /\ ∀ l, H l = none -> Q (.ref l) (upd H l (.lst ys))) := by
  intro pins s σ H xs us Q I r h
  obtain ⟨p, ys, rfl, hq, q⟩ := h
  obtain ⟨u, rfl, rx⟩ := kZ r
  cases rx
  have fin : ∀ (its : List Value), cA ys its -> ys.length <= sizeLine -> ∀ (h' : Heap) (c' : Nat), (∀ b o', s.heap.get? b = some o' -> h'.get? b = some o') ->
      h'.get? s.heap.objs.size = some { cls := .type "list", dict := none, data := .seq its.toArray c', slots := #[] } -> EP X pins σ Q (.ref s.heap.objs.size) { s with heap := h' } := fun its r' hz h' c' kp e =>
    ⟨.ref s.heap.objs.size, _, I.laid (t' := s.toks) kp (Nat.le_refl _) (show cJ X.prog X.w _ h' _ (.lst ys) from ⟨hz, its, c', r', e⟩), rfl, q _ (I.hok.fresh (Nat.le_refl _))⟩
  rcases hq with hq | hq
  . obtain ⟨its, r', pl, hz⟩ := I.list hq
    have dR := r'.length
    obtain ⟨o, ho, hc, n, hd⟩ := pl.isList
    exact call_list_seq p (.inl rfl) ho hc hd (fun h' c' kp e => fin its r' hz h' c' kp e) (by simp only [List.size_toArray] <;> omega)
  . obtain ⟨its, r', pl, hz⟩ := I.tuple hq
    have dR := r'.length
    obtain ⟨o, ho, hc, n, hd⟩ := pl
    exact call_list_seq p (.inr rfl) ho hc hd (fun h' c' kp e => fin its r' hz h' c' kp e) (by simp only [List.size_toArray] <;> omega)
theorem gY : fD X (.type "tuple") (fun xs H Q => ∃ p ys, xs = [.ref p] /\ ((SqL X.K H p ys /\ ∀ l, H l = none -> Q (.ref l) (upd H l (.tup ys))) \/ (SqT X.K H p ys /\ Q (.ref p) H))) := by
  intro pins s σ H xs us Q I r h
  obtain ⟨p, ys, rfl, h⟩ := h
  obtain ⟨u, rfl, rx⟩ := kZ r
  cases rx
  rcases h with ⟨hq, q⟩ | ⟨hq, q⟩
  . obtain ⟨its, r', pl, hz⟩ := I.list hq
    have dR := r'.length
    refine call_tuple_list pl.isList (fun h' kp => ?_) (by simp only [List.size_toArray] <;> omega)
    have I1 : Inv X pins σ H { s with heap := h' } := I.kept (t' := s.toks) kp
    have I2 : Inv X pins σ (upd H h'.objs.size (.tup ys)) { s with heap := h'.push { cls := .type "tuple", data := .seq its.toArray } } :=
      I1.laid (t' := s.toks) (fun b o e => Heap.get?_push_of_some _ e) (Nat.le_refl _) (show cJ X.prog X.w _ _ _ (.tup ys) from ⟨hz, its, r', IsTup.new _ _⟩)
    exact ⟨.ref h'.objs.size, _, I2, rfl, q _ (I1.hok.fresh (Nat.le_refl _))⟩
  . obtain ⟨its, r', pl, hz⟩ := I.tuple hq
    exact call_tuple_same pl ⟨.ref p, H, I, rfl, q⟩
def tyV (K : W.Frag) (T : String) (x : V) (H : Hp) : Prop := match x with
  | .str _ => T = "str"
  | .int _ => T = "int"
  | .ref p => (T = "list" /\ ∃ xs, SqL K H p xs) \/ (T = "tuple" /\ ∃ o, K.lookup p = some o /\ o.cls = .type "tuple" /\ o.dict = none) \/
      (T = "dict" /\ ((∃ kvs, H p = some (.dK kvs)) \/ ∃ kvs, H p = some (.dT kvs))) \/ (T = "set" /\ ∃ S n, H p = some (.set S n))
  | _ => False
theorem zcn {pins : List (Addr × Obj)} {σ : St} {H : Hp} {s : Shared} {T : String} {x : V} {v : Value} (I : Inv X pins σ H s) (r : cH x v) (ty : tyV X.K T x H) :
    s.TypeIs v T /\ ∀ a, v = .ref a -> ∃ ob, s.heap.get? a = some ob /\ ob.dict = none := by
  cases x with
  | str z =>
    obtain ⟨t, rfl⟩ := r
    cases (show T = "str" from ty)
    exact ⟨typeIs_str s z t, fun _ e => nomatch e⟩
  | int i =>
    obtain ⟨t, rfl⟩ := r
    cases (show T = "int" from ty)
    exact ⟨typeIs_int s i t, fun _ e => nomatch e⟩
  | ref p =>
    cases r
    rcases ty with ⟨rfl, xs, hq⟩ | ⟨rfl, o, hk, hc, hd⟩ | ⟨rfl, hk⟩ | ⟨rfl, S, n, hk⟩
    . obtain ⟨its, _, pl, _⟩ := I.list hq
      refine ⟨pl.isList.typeIs, fun a e => ?_⟩
      cases e
      obtain ⟨o, n, e, c, hd, _⟩ := pl
      exact ⟨o, e, hd⟩
    . refine ⟨⟨o, I.kIn p o hk, hc⟩, fun a e => ?_⟩
      cases e
      exact ⟨o, I.kIn _ o hk, hd⟩
    . have z : ∃ o, s.heap.get? p = some o /\ o.ExactDict := by
        rcases hk with ⟨kvs, hk⟩ | ⟨kvs, hk⟩
        . obtain ⟨_, _, _, _, o, _, _, e, ex, _⟩ := I.hok p _ hk
          exact ⟨o, e, ex⟩
        . obtain ⟨_, _, _, _, o, _, _, e, ex, _⟩ := I.hok p _ hk
          exact ⟨o, e, ex⟩
      obtain ⟨o, e, ex⟩ := z
      refine ⟨⟨o, e, ex.1⟩, fun a e2 => ?_⟩
      cases e2
      exact ⟨o, e, ex.2.1⟩
    . obtain ⟨o, _, _, _, e, ex, _⟩ := I.hok p _ hk
      refine ⟨⟨o, e, ex.1⟩, fun a e2 => ?_⟩
      cases e2
      exact ⟨o, e, ex.2.1⟩
  | _ => exact False.elim ty
def zpR (K : W.Frag) (T : String) (r : V -> List V -> Hp -> VK -> Prop) (to : TE) : TE := fun σ H Q => to σ H fun x H1 => tyV K T x H1 /\ r x [] H1 Q
def tBM (K : W.Frag) (T : String) (r : V -> List V -> Hp -> VK -> Prop) (to : TE) (t : TA) : TE := fun σ H Q => to σ H fun x H1 => tyV K T x H1 /\ t σ H1 fun xs H2 => r x xs H2 Q
variable {o e : Expr} {es : List Expr} {to : TE} {t : TA} {name : Str} {apos cpos : Pos} {T id : String} {r : V -> List V -> Hp -> VK -> Prop}
theorem zgh (pa : PlainAttrs T) (slot : Slot T name id) (hty : typeOf (.builtin id) = pure (.type "method_descriptor")) (hm : MtR X id r) (ho : PE X o to)
    (hbase : attributeBase o name X.env (eval o X.env) = eval o X.env := by rfl) (hline : (apos.endLine == cpos.line) = true := by rfl) : PE X (.Call (.Attribute o name apos) [] [] cpos) (zpR X.K T r to) := by
  intro pins s σ H Q I h
  refine wpAny_Call_method0_late hbase hline (thn (ho pins s σ H _ I h) fun v s1 zz => ?_)
  obtain ⟨x, H1, I1, r1, ty, q1⟩ := zz
  obtain ⟨h1, h2⟩ := zcn I1 r1 ty
  exact ⟨T, id, pa, slot, hty, h1, h2, Calls.callWith_builtin rfl (PySem.evalArgs_none (hm pins s1 σ H1 x [] v [] Q I1 r1 .nil q1))⟩
theorem oP (pa : PlainAttrs T) (slot : Slot T name id) (hty : typeOf (.builtin id) = pure (.type "method_descriptor")) (hm : MtR X id r) (ho : PE X o to) (ha : PA X (e :: es) t)
    (hbase : attributeBase o name X.env (eval o X.env) = eval o X.env := by rfl)
    (zls : ((backTo cpos (starEach (e :: es) X.env)).all (fun x => !x.1) && (backToKw cpos (keywordEach [] X.env)).all (fun x => x.1.isSome)
      && decide ((e :: es).length + ([] : List Keyword).length + (if ([] : List Keyword).isEmpty then 0 else 1) < 30)) = true := by rfl)
    (hline : (apos.endLine == cpos.line) = true := by rfl) (hs : starEach (e :: es) X.env = (false, eval e X.env) :: starEach es X.env := by rfl) (hplain : (backTo cpos (starEach es X.env)).any (·.1) = false := by rfl) :
    PE X (.Call (.Attribute o name apos) (e :: es) [] cpos) (tBM X.K T r to t) := by
  intro pins s σ H Q I h
  refine wpAny_Call_method_late hbase zls hline rfl (thn (ho pins s σ H _ I h) fun v s1 zz => ?_)
  obtain ⟨x, H1, I1, r1, ty, q1⟩ := zz
  obtain ⟨h1, h2⟩ := zcn I1 r1 ty
  refine ⟨T, id, pa, slot, hty, h1, h2, ?_⟩
  have hA := ha cpos pins s1 σ H1 _ I1 q1
  rw [hs] at hA ⊢
  refine Calls.callWith_builtin (by show (false || (backTo cpos (starEach es X.env)).any (·.1)) = false; rw [hplain] <;> rfl) (Calls.evalArgs_plain ?_)
  exact thn hA fun us s2 ⟨vs, H2, I2, r2, q2⟩ => hm pins s2 σ H2 x vs v us Q I2 r1 r2 q2
/- xs.append(e), list.index on a module's tuple .. are MtR facts of 06m -/
end
def MtM (X : Cx) (id : String) (r : V -> List V -> Hp -> VK -> Prop) : Prop :=
  ∀ (pins : List (Addr × Obj)) (s : Shared) (σ : St) (H : Hp) (x : V) (xs : List V) (v : Value) (us : List Value) (Q : VK), Inv X pins σ H s -> cH x v -> cA xs us -> r x xs H Q ->
    wpAny (model X.prog X.w) X.A (call (.builtin id) (v :: us)) (EP X pins σ Q) X.xe s
theorem cA.one {x : V} {us : List Value} (h : cA [x] us) : ∃ u, us = [u] /\ cH x u := by
  cases h with | cons r t => cases t; exact ⟨_, rfl, r⟩
theorem cA.two {x y : V} {us : List Value} (h : cA [x, y] us) : ∃ u v, us = [u, v] /\ cH x u /\ cH y v := by
  cases h with | cons r t => obtain ⟨v, e, q⟩ := cA.one t; exact ⟨_, v, by rw [e], r, q⟩
theorem cA.zero : ∀ {us : List Value}, cA [] us -> us = []
  | _, .nil => rfl
theorem cA.reverse {xs : List V} {us : List Value} (h : cA xs us) : cA xs.reverse us.reverse := by
  induction h with
  | nil => exact .nil
  | cons r t ih => rw [List.reverse_cons, List.reverse_cons]; exact cA.append ih (.cons r .nil)
section
variable {X : Cx} {pins : List (Addr × Obj)} {σ : St} {H : Hp} {s : Shared} {l b : Addr} {xs ys zs : List V}
theorem Inv.lset {its its' : List Value} {n : Nat} {f : Array Value -> Array Value} {t' : Nat} (I : Inv X pins σ H s) (hH : H l = some (.lst xs))
    (e : s.heap.get? l = some { cls := .type "list", data := .seq its.toArray n }) (hf : f its.toArray = its'.toArray) (hv : cA ys its') (hz : ys.length <= sizeLine) :
    Inv X pins σ (upd H l (.lst ys)) { s with heap := s.heap.update l (Obj.mapSeq f), toks := t' } := by
  have q := PySem.IsL.update e f
  rw [hf] at q
  refine I.write (x := l) (e := l) (by rw [hH]; exact trivial) (.inl rfl) (fun b' u hb hu => (Heap.get?_update_other s.heap (Obj.mapSeq f) (Ne.symm hb)).trans hu) ⟨_, q⟩ ?_
  exact ⟨hz, its', _, hv, q⟩
theorem Inv.lnew {its : List Value} {t' : Nat} (I : Inv X pins σ H s) (hv : cA ys its) (hz : ys.length <= sizeLine) :
    Inv X pins σ (upd H s.heap.objs.size (.lst ys)) { s with heap := s.heap.push { cls := .type "list", data := .seq its.toArray }, toks := t' } :=
  I.laid (fun _ _ q => Heap.get?_push_of_some _ q) (Nat.le_refl _) ⟨hz, its, 0, hv, Heap.get?_push_size _ rfl⟩
theorem Inv.fresh (I : Inv X pins σ H s) : H s.heap.objs.size = none := I.hok.fresh (Nat.le_refl _)
theorem Inv.lstM (I : Inv X pins σ H s) (hH : H l = some (.lst xs)) : xs.length <= sizeLine /\ ∃ (its : List Value) (n : Nat), cA xs its /\ xs.length = its.length /\ s.heap.get? l = some { cls := .type "list", data := .seq its.toArray n } := by
  obtain ⟨z, its, n, r, e⟩ := I.hok l _ hH
  exact ⟨z, its, n, r, r.length, e⟩
theorem zbk {n : Nat} (h : n <= sizeLine) : Builtin.List.listTooLong n = false := by
  unfold Builtin.List.listTooLong
  exact decide_eq_false (by omega)
end
section
variable {X : Cx}
def z8 : V -> List V -> Hp -> VK -> Prop := fun x vs H Q => ∃ l xs y, x = .ref l /\ vs = [y] /\ H l = some (.lst xs) /\ xs.length < sizeLine /\ Q .non (upd H l (.lst (xs ++ [y])))
theorem gQ : MtM X "list.append" z8 := by
  intro pins s σ H x vs v us Q I rx rv h
  obtain ⟨l, xs, y, rfl, rfl, hH, hz, q⟩ := h
  cases rx
  obtain ⟨u, rfl, ru⟩ := rv.one
  obtain ⟨z, its, n, r, hl, e⟩ := I.lstM hH
  refine call_meets F.slot_list_append ⟨_, e, rfl⟩ F.entry_list_append (F.args_list_append_2 _ _) (PySem.list_append l its.toArray n u (by rw [List.size_toArray]; omega)) ⟨e, ?_⟩
  refine ⟨.non, _, I.lset (its' := its ++ [u]) hH e (by simp) (r.append (.cons ru .nil)) ?_, rfl, q⟩
  rw [List.length_append, List.length_singleton]
  omega
def zcK : V -> List V -> Hp -> VK -> Prop := fun x vs H Q => ∃ l b xs zs, x = .ref l /\ vs = [.ref b] /\ H l = some (.lst xs) /\ H b = some (.lst zs) /\ xs.length + zs.length <= sizeLine /\ Q .non (upd H l (.lst (xs ++ zs)))
theorem u7 : MtM X "list.extend" zcK := by
  intro pins s σ H x vs v us Q I rx rv h
  obtain ⟨l, b, xs, zs, rfl, rfl, hH, hB, hz, q⟩ := h
  cases rx
  obtain ⟨u, rfl, ru⟩ := rv.one
  cases ru
  obtain ⟨z, its, n, r, hl, e⟩ := I.lstM hH
  obtain ⟨z2, its2, n2, r2, hl2, e2⟩ := I.lstM hB
  have hsz : its.toArray.size + its2.toArray.size <= sizeLine := by rw [List.size_toArray, List.size_toArray]; omega
  have znm : ¬ (!its.toArray.isEmpty && Builtin.List.listTooLong (its.toArray.size + its2.toArray.size)) = true := by
    rw [zbk hsz, Bool.and_false]
    exact Bool.false_ne_true
  refine call_meets F.slot_list_extend ⟨_, e, rfl⟩ F.entry_list_extend (F.args_list_extend_2 _ _)
    (AutoSeq1.list_extend_list_list_0 l its.toArray n b its2.toArray n2 znm (by rw [List.size_toArray]; omega) (by omega)) ⟨e, e2, ?_⟩
  refine ⟨.non, _, I.lset (its' := its ++ its2) hH e (by simp) (r.append r2) ?_, rfl, q⟩
  rw [List.length_append]
  omega
def zlj : V -> List V -> Hp -> VK -> Prop := fun x vs H Q => ∃ l xs, x = .ref l /\ vs = [] /\ H l = some (.lst xs) /\ Q .non (upd H l (.lst []))
theorem zbf : MtM X "list.clear" zlj := by
  intro pins s σ H x vs v us Q I rx rv h
  obtain ⟨l, xs, rfl, rfl, hH, q⟩ := h
  cases rx
  have hus := rv.zero
  subst hus
  obtain ⟨z, its, n, r, hl, e⟩ := I.lstM hH
  refine call_meets F.slot_list_clear ⟨_, e, rfl⟩ F.entry_list_clear (F.args_list_clear_1 _) (AutoSeq1.list_clear_list_0 l its.toArray n (by rw [List.size_toArray]; omega)) ⟨e, ?_⟩
  exact ⟨.non, _, I.lset (its' := []) (ys := []) hH e rfl .nil (Nat.zero_le _), rfl, q⟩
def zpd : R2 := fun x y H Q => ∃ l b xs zs, x = .ref l /\ y = .ref b /\ H l = some (.lst xs) /\ H b = some (.lst zs) /\ xs.length + zs.length <= sizeLine /\ ∀ p, H p = none -> Q (.ref p) (upd H p (.lst (xs ++ zs)))
theorem iL : OpR X (binaryOp .Add) zpd := by
  intro pins s σ H x y v u Q I rx ry h
  obtain ⟨l, b, xs, zs, rfl, rfl, hH, hB, hz, q⟩ := h
  cases rx
  cases ry
  obtain ⟨z, its, n, r, hl, e⟩ := I.lstM hH
  obtain ⟨z2, its2, n2, r2, hl2, e2⟩ := I.lstM hB
  refine PySem.P.add_list e e2 ?_ (by rw [List.size_toArray, List.size_toArray]; omega)
  have ea : its.toArray ++ its2.toArray = (its ++ its2).toArray := by simp
  rw [ea]
  exact ⟨.ref _, _, I.lnew (t' := s.toks) (r.append r2) (by rw [List.length_append]; omega), rfl, q _ I.fresh⟩
end
section
variable {prog : Program} {w : World} {A : Around} {E : Value -> Shared -> Prop} {s : Shared}
end
section
variable {X : Cx}
end
end L2
namespace Att
open PySem PySem.W PySem.Calls PyProof.Rows
theorem mH {P : Params} {h : Heap} : ∀ (ns : List Int) (vs : List Value), WellAll P h vs (ns.map WData.int) -> IntsAre vs ns := by
  intro ns
  induction ns with
  | nil =>
    intro vs w
    rw [List.map_nil] at w
    cases w
    exact .nil
  | cons n ns ih =>
    intro vs w
    rw [List.map_cons] at w
    cases w with
    | cons a b =>
      cases a
      exact .cons _ _ (ih _ b)
theorem l7 {l : OpenLaw} {n : Nat} (hn : l.most = some n) {P : Params} {h : Heap} {args : List WData} {vals : List Value}
    (hpre : l.row.toRowW.claim.pre args = true) (hwl : WellAll P h vals args) :
    ∃ a vs ns, vals = [Value.ref a] /\ args = [WData.list (ns.map WData.int)] /\ h.get? a = some { cls := .type "list", data := .seq vs.toArray } /\ IntsAre vs ns /\ ns.length <= n := by
  have hsh : WShape.hasAll [] args [.list .int] = true := (pre_splitW hpre).1
  have hc : l.pre.holds [] { args := args } = true := (pre_splitW hpre).2
  obtain ⟨d, r, rfl, h1, h2⟩ := hasAllW_cons hsh
  obtain rfl := hasAllW_nil h2
  obtain ⟨xs, rfl, h3⟩ := hasW_list h1
  obtain ⟨ns, rfl⟩ := items_int h3
  have dR : ns.length <= n := by
    unfold OpenLaw.pre at hc
    have h4 : (WTm.not (.lt (.lit (.int (n : Int))) (.len (.arg 0)))).holds [] { args := [.list (ns.map .int)] } = true := by
      have h4 := (holds_andW hc).1
      rw [hn] at h4
      exact h4
    have h5 := condW_of h4 (w_not (w_lt w_lit (w_len_list (w_arg rfl))))
    rw [List.length_map] at h5
    refine Nat.le_of_not_lt fun q => ?_
    have q' : (n : Int) < ((ns.length : Nat) : Int) := by omega
    first
      | (rw [decide_eq_true q'] at h5; exact absurd h5 (by decide))
      | (simp at h5; omega)
  cases hwl with
  | cons w1 w2 =>
    cases w2
    cases w1 with
    | list ho hall => exact ⟨_, _, ns, rfl, rfl, ho, mH ns _ hall, dR⟩
theorem z9 (l : OpenLaw) (args : List WData) : l.row.toRowW.claim.post args (.bool true) args = true :=
  postW_of (r := l.row.toRowW) (X := (true == true))
    (show WShape.has [] (.bool true) .bool = true by first | rfl | decide | simp [WShape.has, WShape.arms, WShape.armsAll])
    (show (WTm.eq .res (.lit (.bool true))).value [] { args := args, res := some (.bool true), after := args } = some (.bool (true == true)) from w_eq_bool (w_res rfl) w_lit) rfl
theorem attach_call {l : OpenLaw} {n : Nat} {q : Program} {loose : List Str} {XP : (Str -> Option Value) -> Heap -> Prop} {YP : World -> Heap -> Prop} {d : DefRec}
    (hn : l.most = some n) (hdf : d.params.defaults = [])
    (call : ∀ (w : World) (s₀ s₁ : Shared) (mg mb : Str -> Option Value) (fa : Addr) (o : Obj) (pm cd doc : Value) (a : Addr) (vs : List Value) (ns : List Int),
      Ground q loose [] XP w s₀ mg mb s₁.heap -> YP w s₁.heap ->
      s₁.heap.get? fa = some o -> o.data = .func (docDef d.name d.params d.body d.scope pm cd doc) -> s₁.heap.CodeRec cd d.name -> mg d.name = some (.ref fa) ->
      s₁.heap.get? a = some { cls := .type "list", data := .seq vs.toArray } -> IntsAre vs ns -> ns.length <= n -> s₁.gens = #[] ->
      codeAny (model l.prog w) callerA (.call (.ref fa) ⟨[.ref a], []⟩) (fun r s' => r = .ok (.ret (.bool true)) /\ OldK s₁.heap s'.heap /\ s'.os = s₁.os /\ AllBare s'.gens) s₁) :
    WalkO q loose XP YP l.row.toRowW d [] (fun f vs => PySem.call f vs) := by
  intro w s₀ s₁ mg mb G Y fa o pm cd doc dV kV ho hd hcd hD hmg hg args vals as hpre hlay hrd hwl hlo
  obtain rfl : dV = .none := Dflts.none hD hdf
  obtain rfl : kV = .none := Dflts.noKw hD
  obtain ⟨a, vs, ns, rfl, rfl, hobj, hints, dR⟩ := l7 hn hpre hwl
  refine enter_call (codeAny_mono (call w s₀ s₁ mg mb fa o pm cd doc a vs ns G Y ho (fd_plain hd) hcd hmg hobj hints dR hg) fun r s' hq => ?_)
  obtain ⟨rfl, h2, h3, h4⟩ := hq
  exact ⟨.inl ⟨.bool true, .bool true, [], rfl, fun _ => rfl, .bool true, z9 l _, fun _ => ⟨List.Pairwise.nil, fun _ hm => (nomatch hm)⟩⟩, h2, h3, h4⟩
section
variable {prog : Program} {w : World} {A : Around} {E : Value -> Shared -> Prop} {s : Shared} {K : Frag}
def zpg (h : Heap) (L d : Addr) : List (Addr × Obj) := (List.range h.objs.size).filterMap fun a => if a = L \/ a = d then none else (h.get? a).map fun o => (a, o)
end
end Att
namespace L2
open PySem PySem.Spec PyProof.Rows
theorem lP : ∀ {vs : List Value} {ns : List Int}, IntsAre vs ns -> cA (ns.map V.int) vs
  | _, _, .nil => .nil
  | _, _, .cons n t h => .cons ⟨t, rfl⟩ (lP h)
def zmO (H : Hp) : Prop := ∀ b, H b = none \/ ∃ o xs, H b = some (.frz o (.lst xs))
theorem zaR {P : Program} {w : World} {K : W.Frag} {mg mb : Str -> Option Value} {CX : CXT} {k : Nat} {fa a : Addr} {fd : FuncData} {x : Str} {sp : Sp} {s₁ : Shared} {vs : List Value} {ns : List Int}
    (KX : K.In s₁.heap) (hns : s₁.heap.Ns mainGlobals mg) (hb : s₁.heap.Ns builtinsNs mb) (hbb : ∀ x : Str, x ≠ "__name__" -> mb x = bootBuiltins x) (hlim : s₁.heap.NoLimit) (hg : s₁.gens = #[])
    (ha : s₁.heap.get? a = some { cls := .type "list", data := .seq vs.toArray }) (hi : IntsAre vs ns) (hl : ns.length <= sizeLine) (hr : iE k callerA)
    (F : ∀ base : Heap, K.In base -> base.Ns mainGlobals mg -> FnOk P w K mg base CX k fa fd [x] sp) (hbind : ∀ (s : Shared) (u : Value), BindsTo s fd ⟨[u], []⟩ [(x, u)])
    (hsp : ∀ H : Hp, zmO H -> SqL K H a (ns.map V.int) -> sp [.ref a] H (fun v _ => v = .bl true) fun _ _ _ => False)
    (hCX : ∀ H e s', CX [] H s₁ (fun _ _ _ => False) e s' -> False) :
    codeAny (model P w) callerA (.call (.ref fa) ⟨[.ref a], []⟩) (fun r s' => r = .ok (.ret (.bool true)) /\ OldK s₁.heap s'.heap /\ s'.os = s₁.os /\ AllBare s'.gens) s₁ := by
  have rv := lP hi
  have lenV := hi.length
  -- from an abstract heap in which nothing but the script may be tracked
  have core : ∀ H : Hp, zmO H -> SqL K H a (ns.map V.int) -> HOk P w H s₁.heap -> (∀ b, H b ≠ none -> b = a) -> (H a ≠ none -> K.lookup a = none) ->
      codeAny (model P w) callerA (.call (.ref fa) ⟨[.ref a], []⟩) (fun r s' => r = .ok (.ret (.bool true)) /\ OldK s₁.heap s'.heap /\ s'.os = s₁.os /\ AllBare s'.gens) s₁ := by
    intro H hO hS hok hA hK
    have base_of : ∀ {b : Addr} {o : Obj}, s₁.heap.get? b = some o -> H b = none -> (zba s₁.heap H).get? b = some o := fun e n => zaF e n
    have noA : ∀ {b : Addr} {o : Obj} {es : Array DictEntry} {ep : Nat}, s₁.heap.get? b = some o -> o.data = .dict es ep -> H b = none := fun {b o es ep} e d => by
      cases q : H b with
      | none => rfl
      | some u =>
        have e' : b = a := hA b (by rw [q]; simp)
        subst e'
        rw [ha] at e; cases e
        have d' : Data.seq vs.toArray _ = Data.dict es ep := d
        cases d'
    have nsK : ∀ {b : Addr} {m : Str -> Option Value}, s₁.heap.Ns b m -> (zba s₁.heap H).Ns b m := fun {b m} ⟨o, es, ep, e, d, r⟩ => ⟨o, es, ep, base_of e (noA e d), d, r⟩
    have hKb : K.In (zba s₁.heap H) := fun b o e => base_of (KX b o e) (by
      cases q : H b with
      | none => rfl
      | some u =>
        have e' : b = a := hA b (by rw [q]; simp)
        subst e'
        rw [hK (by rw [q]; simp)] at e; cases e)
    have hM : Mod K mg (zba s₁.heap H) := ⟨hKb, nsK hns, ⟨mb, nsK hb, hbb⟩, let ⟨mc, h1, h2⟩ := hlim; ⟨mc, nsK h1, h2⟩⟩
    have e0 : zas P w K mg (zba s₁.heap H) callerA [] s₁ H := ⟨rfl, hM, fun b o e => zdG e, Nat.le_of_eq (yZ _ _), trivial, fun b hb => absurd (show b ∈ ([] : List Addr) from hb) (by simp), hok, .of_eq hg⟩
    refine codeAny_mono ((F _ hKb (nsK hns)).run callerA [] s₁ H ⟨[.ref a], []⟩ [.ref a] [.ref a] _ _ hr e0 (hbind s₁ (.ref a)) (.cons rfl .nil) (hsp H hO hS)) fun r s' h => ?_
    cases r with
    | error e => exact (hCX H e s' h).elim
    | ok fl =>
      cases fl with
      | next => exact False.elim h
      | brk => exact False.elim h
      | cont => exact False.elim h
      | ret u =>
        obtain ⟨v, H', os, bare, un, hok', r', q⟩ := h
        have q' : v = .bl true := q
        subst q'
        obtain rfl : u = Value.bool true := r'
        refine ⟨rfl, OldK.of_keep fun b o e => ?_, os, bare⟩
        cases q : H b with
        | none => exact un.keep b o e q (by intro z; exact absurd (show b ∈ ([] : List Addr) from z) (by simp)) (by simp)
        | some u =>
          rcases hO b with z | ⟨ob, xs, z⟩
          . rw [q] at z; cases z
          . have z2 := un.frzs b ob _ z
            obtain ⟨e1, _⟩ := hok b _ z
            obtain ⟨e2, _⟩ := hok' b _ z2
            rw [e] at e1; cases e1
            exact e2
  cases hk : K.lookup a with
  | some o =>
    -- the script is one of the module's own objects
    have e := KX a o hk
    rw [ha] at e
    cases e
    refine core (fun _ => none) (fun _ => .inl rfl) (.inr ⟨_, vs.toArray, _, hk, rfl, rfl, rfl, by rw [List.size_toArray, lenV]; exact hl, by simpa using rv⟩) (fun b u z => by have z' : (none : Option HO) = some u := z; cases z') (fun b z => absurd rfl z) fun z => absurd rfl z
  | none =>
    refine core (fun b => if b = a then some (.frz { cls := .type "list", data := .seq vs.toArray } (.lst (ns.map V.int))) else none) (fun b => ?_) (.inl (.inr ⟨{ cls := .type "list", data := .seq vs.toArray }, if_pos rfl⟩)) (fun b u z => ?_) (fun b z => ?_) fun _ => hk
    . by_cases hb : b = a
      . exact .inr ⟨_, _, if_pos hb⟩
      . exact .inl (if_neg hb)
    . by_cases hb : b = a
      . have z' := (if_pos hb).symm.trans z
        cases z'
        subst hb
        exact ⟨ha, by rw [List.length_map]; exact hl, vs, _, rv, ha⟩
      . have z' := (if_neg hb).symm.trans z
        cases z'
    . by_cases hb : b = a
      . exact hb
      . exact absurd (if_neg hb) z
theorem walk_of {l : PySem.W.OpenLaw} {n k : Nat} {q : Program} {loose : List Str} {XP : (Str -> Option Value) -> Heap -> Prop} {YP : World -> Heap -> Prop} {d : DefRec} {K : Params -> W.Frag} {CX : World -> CXT} {sp : World -> Sp} {x : Str}
    (hn : l.most = some n) (hn2 : n <= sizeLine) (hdf : d.params.defaults = []) (hr : iE k callerA)
    (hY : ∀ (w : World) (h : Heap), YP w h -> (K w.params).In h)
    (F : ∀ (w : World) (mg : Str -> Option Value) (fa : Addr) (h : Heap), (K w.params).In h -> h.Ns mainGlobals mg -> mg d.name = some (.ref fa) ->
      ∃ fd : FuncData, (∀ (s : Shared) (u : Value), BindsTo s fd ⟨[u], []⟩ [(x, u)]) /\
        ∀ base : Heap, (K w.params).In base -> base.Ns mainGlobals mg -> FnOk l.prog w (K w.params) mg base (CX w) k fa fd [x] (sp w))
    (hsp : ∀ (w : World) (H : Hp) (a : Addr) (ns : List Int), ns.length <= n -> zmO H -> SqL (K w.params) H a (ns.map V.int) -> sp w [.ref a] H (fun v _ => v = .bl true) fun _ _ _ => False)
    (hCX : ∀ (w : World) (H : Hp) (s : Shared) (e : Value) (s' : Shared), CX w [] H s (fun _ _ _ => False) e s' -> False) :
    PySem.W.WalkO q loose XP YP l.row.toRowW d [] (fun f vs => PySem.call f vs) := by
  refine Att.attach_call hn hdf fun w s₀ s₁ mg mb fa o pm cd doc a vs ns G Y ho hd hcd hmg hobj hints dR hg => ?_
  have KX := hY w _ Y
  obtain ⟨fd, hb, hF⟩ := F w mg fa _ KX G.T.g hmg
  exact zaR KX G.T.g G.T.b G.T.builtins G.T.nolimit hg hobj hints (Nat.le_trans dR hn2) hr hF hb (fun H hO hS => hsp w H a ns dR hO hS) fun H e s' => hCX w H s₁ e s'
def oY (s : Stmt) (j : Nat) : Stmt := match s with
  | .ClassDef _ _ _ body _ _ _ _ _ _ _ => body.getD j (.Pass ⟨0, 0, 0, 0⟩)
  | _ => .Pass ⟨0, 0, 0, 0⟩
def bC (s : Stmt) : Arguments := match s with
  | .FunctionDef _ a _ _ _ _ _ _ _ _ => a
  | _ => { posonlyargs := [], args := [], vararg := none, kwonlyargs := [], kw_defaults := [], kwarg := none, defaults := [] }
def aV (s : Stmt) : List Stmt := match s with
  | .FunctionDef _ _ b _ _ _ _ _ _ _ => b
  | _ => []
def aD (s : Stmt) : Scope := match s with
  | .FunctionDef _ _ _ _ _ _ sc _ _ _ => sc
  | _ => { kind := .function, names := [], isGenerator := false, isCoroutine := false }
abbrev CX0 : CXT := fun _ _ _ _ _ _ => False
abbrev E0 : XK := fun _ _ _ => False
theorem bF {X : Cx} : jV CX0 X E0 := fun _ _ _ _ _ _ _ h => h.elim
structure Fun (K : W.Frag) (x qual : Str) (st : Stmt) (f : Addr) (fd : FuncData) : Prop where
  ex : ∃ (oc : Value) (od : Option Addr) (kV doc pm : Value) (an : Option Addr) (cdv ct : Value) (osl : Array (Option Value)),
    fd = PySem.W.fnOf x qual (bC st) (aV st) (aD st) .none kV doc pm an cdv ct /\ K.lookup f = some ⟨oc, od, .func fd, osl⟩ /\ PySem.W.codeIn K cdv qual = true
  kp : W.keepIn K (.ref f) = true
section
variable {P : Program} {w : World} {K : W.Frag} {mg : Str -> Option Value} {base : Heap}
theorem Fun.ok {x qual : Str} {st : Stmt} {f : Addr} {fd : FuncData} {N ps : List Str} {k : Nat} {sp : Sp} (F : Fun K x qual st f fd) (S : bE N ps (aD st)) (len : ∀ vs H Q E, sp vs H Q E -> vs.length = ps.length)
    (hbody : ∀ (cdv : Value) (A : Around) (outer : List Env) (s : Shared) (H : Hp) (vs : List V) (Q : VK) (E : XK), iE k (A.deeper (envOfC qual (aD st) s.heap.objs.size f cdv)) -> sp vs H Q E ->
      ∃ t, PSs (eU CX0 P w K mg base N qual (aD st) f cdv A outer s H E).nox (aV st) t /\ t { nx := fun _ H' => Q .non H', rt := Q } (start N vs) H) : FnOk P w K mg base CX0 (k + 1) f fd ps sp := by
  obtain ⟨oc, od, kV, doc, pm, an, cdv, ct, osl, rfl, lk, hcd⟩ := F.ex
  refine zkN lk hcd S len fun A outer s H vs Q E hr hsp => ?_
  obtain ⟨t, h, q⟩ := hbody cdv A outer s H vs Q E hr hsp
  exact ⟨t, h.nox, q⟩
theorem Fun.binds {x qual : Str} {st : Stmt} {f : Addr} {fd : FuncData} {ps : List Str} (F : Fun K x qual st f fd)
    (h : ∀ (kV doc pm : Value) (an : Option Addr) (cdv ct : Value) (us : List Value), us.length = ps.length -> bindArgs (PySem.W.fnOf x qual (bC st) (aV st) (aD st) .none kV doc pm an cdv ct) ⟨us, []⟩ = pure (ps.zip us)) : gI K fd ps [] := by
  obtain ⟨oc, od, kV, doc, pm, an, cdv, ct, osl, rfl, lk, hcd⟩ := F.ex
  exact .all (h kV doc pm an cdv ct)
theorem cI {x qual : Str} {st : Stmt} {f : Addr} {oc : Value} {od an : Option Addr} {osl : Array (Option Value)} {kV doc pm cdv ct : Value} (l : K.lookup f = some ⟨oc, od, .func (PySem.W.fnOf x qual (bC st) (aV st) (aD st) .none kV doc pm an cdv ct), osl⟩)
    (c : PySem.W.codeIn K cdv qual = true) (k : W.keepIn K (.ref f) = true) : Fun K x qual st f (PySem.W.fnOf x qual (bC st) (aV st) (aD st) .none kV doc pm an cdv ct) := ⟨⟨oc, od, kV, doc, pm, an, cdv, ct, osl, rfl, l, c⟩, k⟩
end
theorem kE {A : Around} {k : Nat} (hr : iE k A) : A.units + 1 < cLine := Nat.lt_of_le_of_lt (Nat.add_le_add_left (by decide : 1 <= 64) _) hr.units
theorem qW {n : Nat} (h : n <= 1000) : n < sizeLine := Nat.lt_of_le_of_lt h (by decide)
section
variable {X : Cx}
theorem pv (i : Nat) {x : Str} {pos : Pos} (hN : X.N[i]? = some x := by rfl) (hv : Vis X.env.scope x := by first | exact Or.inl rfl | exact Or.inr (Or.inl rfl) | exact Or.inr (Or.inr rfl)) (hd : (x == ("__debug__" : Str)) = false := by decide)
    (hcd : (x == ("__classdict__" : Str)) = false := by decide) : PE X (.Name x pos) (bD i) := zhB hN hv hd hcd
end
theorem oF {A B : Prop} (h : B) : if false = true then A else B := by
  rw [if_neg Bool.false_ne_true]
  exact h
theorem zkn {A B : Prop} (h : A) : if true = true then A else B := by
  rw [if_pos rfl]
  exact h
theorem pR {c A B : Prop} [Decidable c] (h1 : c -> A) (h2 : ¬ c -> B) : if c then A else B := by
  by_cases h : c
  . rw [if_pos h]
    exact h1 h
  . rw [if_neg h]
    exact h2 h
def Same (H H' : Hp) : Prop := ∀ b o, H b = some o -> H' b = some o
theorem Same.refl (H : Hp) : Same H H := fun _ _ h => h
theorem Same.trans {H H1 H2 : Hp} (a : Same H H1) (b : Same H1 H2) : Same H H2 := fun c o h => b c o (a c o h)
theorem Same.free {H H' : Hp} (e : Same H H') {l : Addr} (h : H' l = Option.none) : H l = Option.none := by
  cases q : H l with
  | none => rfl
  | some o =>
    rw [e l o q] at h
    cases h
theorem Same.seq {K : W.Frag} {H H' : Hp} {a : Addr} {xs : List V} (e : Same H H') (h : SqL K H a xs) : SqL K H' a xs := by
  rcases h with (h | ⟨o, h⟩) | h
  . exact .inl (.inl (e _ _ h))
  . exact .inl (.inr ⟨o, e _ _ h⟩)
  . exact .inr h
end L2
set_option maxHeartbeats 4000000
namespace L2
open PySem PySem.Spec PyProof.Rows
def PTs (X : Cx) (cs : List Expr) (t : TT) : Prop :=
  ∀ (pins : List (Addr × Obj)) (s : Shared) (σ : St) (H : Hp) (Q : Bool -> Hp -> Prop), Inv X pins σ H s -> t σ H Q ->
    wpAny (model X.prog X.w) X.A (forIn cs true fun c r => if r = true then do let ok <- isTrue c X.env (eval c X.env); pure (ForInStep.yield ok) else pure (ForInStep.yield r)) (TP X pins σ Q) X.xe s
def gG : TT := fun _ H Q => Q true H
theorem bT {X : Cx} : PTs X [] gG := fun _ _ _ H _ I h => wpAny_tests_nil ⟨H, I, h⟩
theorem pF {X : Cx} {c : Expr} {t : TT} (h : PT X c t) : PTs X [c] t := fun pins s σ H Q I q => wpAny_tests_one (h pins s σ H Q I q)
theorem iZ {prog : Program} {w : World} {A : Around} {R : Result -> Shared -> Prop} {s : Shared} {elt target iter : Expr} {ifs : List Expr} {scope : Scope} {pos : Pos} {it acc : Value} {env : Env} (I : Nat -> Shared -> Prop)
    (turn : ∀ n s, I n s -> wpAny (model prog w) A (pyNext it) (fun r s₁ => match r with
      | none => R (.ok .next) s₁
      | some v => wpAny (model prog w) A (letOwnedTupleGo target it v) (fun _ s₁' => wpAny (model prog w) A (assign target env v) (fun _ s₂ =>
          wpAny (model prog w) A (forIn ifs true fun c r => if r = true then do let ok <- isTrue c env (eval c env); pure (ForInStep.yield ok) else pure (ForInStep.yield r)) (fun ok s₃ =>
            if ok = true then wpAny (model prog w) A (eval elt env) (fun x s₄ =>
              wpAny (model prog w) A (call (.builtin "list.append") [acc, x]) (fun _ s₅ => ∃ m, m < n /\ I m s₅) (fun _ _ => False) s₄) (fun _ _ => False) s₃
            else ∃ m, m < n /\ I m s₃) (fun _ _ => False) s₂) (fun _ _ => False) s₁') (fun _ _ => False) s₁) (fun _ _ => False) s)
    (n : Nat) (h : I n s) :
    codeAny (model prog w) A (.compLoop (.ListComp elt [⟨target, iter, ifs, 0⟩] scope pos) 0 it acc env) R s := by
  refine codeAny_loop rfl I (fun n s hI => ?_) n h
  show wpAny _ A ((compTurn (.ListComp elt [⟨target, iter, ifs, 0⟩] scope pos) 0 it acc env).onRaise (fun x => do noteFrame x env; theTreesLotGoes x)) _ _ s
  refine wpAny_noted ?_
  rw [compTurn_list]
  refine wpAny_bind (wpAny_standAt (wpAny_bind (wpAny_mono (turn n s hI) (fun r s₁ h₁ => ?_) fun _ _ h' => h'.elim)))
  cases r with
  | none => exact wpAny_pure h₁
  | some v =>
    refine wpAny_bind (wpAny_mono h₁ (fun _ s₁' h₁' => ?_) fun _ _ h' => h'.elim)
    refine wpAny_bind (wpAny_mono h₁' (fun _ s₂ h₂ => wpAny_bind (wpAny_mono h₂ (fun ok s₃ h₃ => ?_) fun _ _ h' => h'.elim)) fun _ _ h' => h'.elim)
    cases ok with
    | false => exact wpAny_pure ⟨rfl, h₃⟩
    | true =>
      exact wpAny_bind (wpAny_bind (wpAny_mono h₃ (fun x s₄ h₄ => wpAny_bind (wpAny_mono h₄ (fun _ s₅ h₅ => wpAny_pure (wpAny_pure ⟨rfl, h₅⟩)) fun _ _ h' => h'.elim)) fun _ _ h' => h'.elim))
def cL (env : Env) : List (Str × NameKind) -> List (Str × Addr) -> List (Str × Addr)
  | [], cs => cs
  | (n, k) :: r, cs => cL env r (if k == .free then (match env.cells.lookup n with | some a => (n, a) :: cs | none => cs) else cs)
theorem yR {env : Env} : ∀ (ns : List (Str × NameKind)) (cs : List (Str × Addr)), (∀ x ∈ ns, x.2 = .free -> ∃ c, env.cells.lookup x.1 = some c) ->
    (forIn ns cs fun x (r : List (Str × Addr)) => (match x with | (name, kind) => if (kind == .free) = true then do let a <- cellOf env name; pure (ForInStep.yield ((name, a) :: r)) else pure (ForInStep.yield r) : Sem (ForInStep (List (Str × Addr))))) = (pure (cL env ns cs) : Sem (List (Str × Addr)))
  | [], cs, _ => rfl
  | (n, k) :: r, cs, h => by
    have ih := fun cs => yR (env := env) r cs fun x hx => h x (List.mem_cons_of_mem _ hx)
    rw [List.forIn_cons]
    unfold cL
    by_cases hk : k = .free
    . subst hk
      obtain ⟨c, e⟩ := h (n, .free) List.mem_cons_self rfl
      have ec : cellOf env n = pure c := by unfold cellOf; rw [e]
      simp only [beq_self_eq_true, if_true, ec, e, pure_bind]
      exact ih _
    . have hb : (k == NameKind.free) = false := by simpa using hk
      simp only [hb, Bool.false_eq_true, if_false, pure_bind]
      exact ih _
theorem kM {scope : Scope} {env : Env} (h : ∀ x ∈ scope.names, x.2 = .free -> ∃ c, env.cells.lookup x.1 = some c) : closureFor scope env = pure (cL env scope.names []) := by
  have q := yR (env := env) scope.names [] h
  unfold closureFor
  simp only [bind_pure_comp, map_pure, bind_pure] at q ⊢
  first
    | exact q
    | (simpa using q)
theorem dS {env : Env} : ∀ (ns : List (Str × NameKind)) (cs : List (Str × Addr)) (x : Str) (c : Addr), (cL env ns cs).lookup x = some c -> env.cells.lookup x = some c \/ cs.lookup x = some c
  | [], cs, x, c, h => .inr h
  | (n, k) :: r, cs, x, c, h => by
    unfold cL at h
    rcases dS r _ x c h with q | q
    . exact .inl q
    . by_cases hk : k = .free
      . subst hk
        simp only [beq_self_eq_true, if_true] at q
        cases e : env.cells.lookup n with
        | none => rw [e] at q; exact .inr q
        | some a =>
          rw [e] at q
          simp only [List.lookup_cons] at q
          cases hx : x == n with
          | true =>
            rw [hx] at q
            have ex : x = n := by simpa using hx
            subst ex
            have ea : a = c := Option.some.inj q
            subst ea
            exact .inl e
          | false => rw [hx] at q; exact .inr q
      . have hb : (k == NameKind.free) = false := by simpa using hk
        simp only [hb, Bool.false_eq_true, if_false] at q
        exact .inr q
theorem nZ {env : Env} : ∀ (ns : List (Str × NameKind)) (cs : List (Str × Addr)) (x : Str), (∃ c, cs.lookup x = some c) -> ∃ c, (cL env ns cs).lookup x = some c
  | [], _, _, h => h
  | (n, k) :: r, cs, x, ⟨c, h⟩ => by
    unfold cL
    refine nZ r _ x ?_
    by_cases hk : (k == NameKind.free) = true
    . rw [if_pos hk]
      cases e : env.cells.lookup n with
      | none => exact ⟨c, h⟩
      | some a =>
        simp only [List.lookup_cons]
        cases hx : x == n with
        | true => exact ⟨a, rfl⟩
        | false => exact ⟨c, h⟩
    . rw [if_neg hk]; exact ⟨c, h⟩
theorem iG {env : Env} : ∀ (ns : List (Str × NameKind)) (cs : List (Str × Addr)) (x : Str), (x, NameKind.free) ∈ ns -> (∃ c, env.cells.lookup x = some c) -> ∃ c, (cL env ns cs).lookup x = some c
  | [], _, _, h, _ => nomatch h
  | (n, k) :: r, cs, x, h, ⟨c, e⟩ => by
    unfold cL
    rcases List.mem_cons.mp h with z | z
    . have z1 : x = n := congrArg Prod.fst z
      have z2 : NameKind.free = k := congrArg Prod.snd z
      subst z1 z2
      refine nZ r _ x ?_
      simp only [beq_self_eq_true, if_true, e, List.lookup_cons]
      exact ⟨c, rfl⟩
    . exact iG r _ x z ⟨c, e⟩
theorem bX {ns : List (Str × NameKind)} {x : Str} {k : NameKind} (h : ns.lookup x = some k) : (x, k) ∈ ns := PySem.mem_of_lookup h
theorem eD {env : Env} : ∀ (names : List (Str × NameKind)) (x : Str),
    (names.map fun (n, k) => if (k == NameKind.free && env.scope.kind == .function && env.kindOf n == some .cell) then (n, NameKind.cell) else (n, k)).lookup x =
      (names.lookup x).map fun k => if (k == NameKind.free && env.scope.kind == .function && env.kindOf x == some .cell) then NameKind.cell else k
  | [], x => rfl
  | (n, k) :: r, x => by
    have ih := eD (env := env) r x
    rw [List.map_cons]
    show List.lookup x ((if (k == NameKind.free && env.scope.kind == .function && env.kindOf n == some .cell) = true then (n, NameKind.cell) else (n, k)) :: _) = _
    cases hx : x == n with
    | true =>
      have ex : x = n := by simpa using hx
      subst ex
      by_cases hc : (k == NameKind.free && env.scope.kind == .function && env.kindOf x == some .cell) = true
      . rw [if_pos hc]; simp only [List.lookup_cons, beq_self_eq_true, Option.map_some]; rw [if_pos hc]
      . rw [if_neg hc]; simp only [List.lookup_cons, beq_self_eq_true, Option.map_some]; rw [if_neg hc]
    | false =>
      by_cases hc : (k == NameKind.free && env.scope.kind == .function && env.kindOf n == some .cell) = true
      . rw [if_pos hc]; simp only [List.lookup_cons, hx]; exact ih
      . rw [if_neg hc]; simp only [List.lookup_cons, hx]; exact ih
structure aR (own fr : List Str) (scope : Scope) (outer : Scope) : Prop where
  kind : scope.kind = .function
  nocell : ∀ y ∈ scope.names, y.2 ≠ .cell
  names : ∀ y ∈ scope.names, y.2 = .local -> scope.names.lookup y.1 = some .local
  nd : (own ++ fr).Nodup
  outs : ∀ y ∈ scope.names, y.2 = .free -> outer.names.lookup y.1 = some .cell \/ outer.names.lookup y.1 = some .free
  frs : ∀ x ∈ fr, scope.names.lookup x = some .free
  owns : ∀ x ∈ own, scope.names.lookup x = some .local
def bI (X : Cx) (scope : Scope) (C : Addr) (N : List Str) (s : Shared) (H : Hp) (pins : List (Addr × Obj)) (fp : List Addr) : Cx :=
  { X with N := N, s₀ := s, H₀ := H, env := compEnvC scope (cL X.env scope.names []) C X.env, outer := X.stack, stack := X.stack, ex := fp, fn := fun _ => false, pn := X.pn ++ pins, xe := fun _ _ => False }
def gP (n : Nat) (idx : List Nat) (σ : St) : St := List.replicate n none ++ idx.map fun j => (σ[j]?).join
def bO (J : It) (D : Addr) (g : TG) (tc : TT) (te : TE) (Q : VK) (σ0 : St) (H1 : Hp) : Prop := ∃ W : Nat -> Nat -> List V -> St -> Hp -> Prop, (∃ m, W 0 m [] σ0 (upd H1 D (.lst []))) /\
  ∀ i m ys σ H, H D = some (.lst ys) -> W i m ys σ H -> (J.stop i H /\ Q (.ref D) H) \/ (J.go i H /\ ys.length < sizeLine /\ ∃ N : List V -> St -> Hp -> Prop, (∀ ys' σ' H', N ys' σ' H' -> ∃ m', m' < m /\ W (i + 1) m' ys' σ' H') /\
    ∀ x H', J.yld i H x H' -> g x σ H' fun σ2 H2 => tc σ2 H2 fun b H3 =>
      if b = true then te σ2 H3 fun v H4 => H4 D = some (.lst ys) /\ N (ys ++ [v]) σ2 (upd H4 D (.lst (ys ++ [v])))
      else H3 D = some (.lst ys) /\ N ys σ2 H3)
def yB (wi : TI) (n : Nat) (idx : List Nat) (g : TG) (tc : TT) (te : TE) : TE := fun σ H Q => wi σ H fun J H1 => ∀ D, H1 D = none -> bO J D g tc te Q (gP n idx σ) H1
section
variable {X : Cx}
theorem t9 {scope : Scope} {own fr : List Str} {C : Addr} {pins : List (Addr × Obj)} {σ : St} {H : Hp} {s : Shared} {fp : List Addr} (S : aR own fr scope X.env.scope) (I : Inv X pins σ H s) (hf : ∀ b ∈ fp, jK X pins H b)
    (hC : s.heap.objs.size <= C) (hfC : ∀ b ∈ fp, b ≠ C) : (bI X scope C (own ++ fr) s H pins fp).Ok := by
  have sub : ∀ x c, (cL X.env scope.names []).lookup x = some c -> X.env.cells.lookup x = some c := fun x c e => (dS _ _ x c e).elim id fun z => nomatch z
  have kindEq : ∀ x, (compEnvC scope (cL X.env scope.names []) C X.env).kindOf x = (scope.names.lookup x).map fun k => if (k == NameKind.free && X.env.scope.kind == .function && X.env.kindOf x == some .cell) then NameKind.cell else k := fun x => eD _ x
  refine ⟨I.ok.mod, S.kind, I.ok.glob, I.ok.blt, hC, fun x y c e1 e2 => I.ok.inj x y c (sub x c e1) (sub y c e2), fun x hx => ?_, fun x c z => absurd z Bool.false_ne_true, I.ok.hd, I.ok.frames, .inl rfl, fun b hb => ⟨hfC b hb, fun x c e => (hf b hb).2.2.2.2.1 x c (sub x c e)⟩,
    I.bs, Nat.le_trans I.ok.bsz I.sz, fun b o e hb => ?_, fun b hb z => ?_, I.stack, I.stkFree⟩
  . have hx' : (compEnvC scope (cL X.env scope.names []) C X.env).kindOf x = some .cell \/ (compEnvC scope (cL X.env scope.names []) C X.env).kindOf x = some .free := hx
    rw [kindEq] at hx'
    cases e : scope.names.lookup x with
    | none => rw [e] at hx'; rcases hx' with z | z <;> cases z
    | some k =>
      have hk : k = .free := by
        rw [e] at hx'
        have nc := S.nocell (x, k) (bX e)
        cases k with
        | free => rfl
        | cell => exact absurd rfl nc
        | «local» => rcases hx' with z | z <;> simp at z
        | globalImplicit => rcases hx' with z | z <;> simp at z
        | globalExplicit => rcases hx' with z | z <;> simp at z
      subst hk
      have m := bX e
      refine iG _ _ x m ?_
      exact I.ok.has x (S.outs _ m rfl)
  . rcases (hf b hb).2.2.2.1 with z | z
    . exact I.ok.noex b o e z
    . exact absurd (Nat.lt_of_lt_of_le (Heap.lt_size e) (Nat.le_trans I.ok.bsz z)) (Nat.lt_irrefl _)
  . have z' : b ∈ frs X.stack := z
    rcases List.mem_cons.mp (I.stkSub b z') with q | q
    . exact (hf b hb).2.1 q
    . exact (hf b hb).2.2.1 q
theorem nJ {own fr : List Str} {idx : List Nat} {σ : St} (hix : idx.length = fr.length) {i : Nat} {x : Str} {v : V} (h1 : (own ++ fr)[i]? = some x) (h2 : (gP own.length idx σ)[i]? = some (some v)) :
    ∃ (k j : Nat), fr[k]? = some x /\ idx[k]? = some j /\ σ[j]? = some (some v) := by
  unfold gP at h2
  by_cases hi : i < own.length
  . rw [List.getElem?_append_left (by simpa using hi), List.getElem?_replicate] at h2
    split at h2 <;> cases h2
  . rw [List.getElem?_append_right (by simpa using hi)] at h2
    rw [List.getElem?_append_right (by omega)] at h1
    rw [List.length_replicate, List.getElem?_map] at h2
    cases e : idx[i - own.length]? with
    | none => rw [e] at h2; cases h2
    | some j =>
      rw [e] at h2
      have h3 : (σ[j]?).join = some v := Option.some.inj h2
      refine ⟨i - own.length, j, h1, e, ?_⟩
      cases q : σ[j]? with
      | none => rw [q] at h3; cases h3
      | some w => rw [q] at h3; have h4 : w = some v := h3; rw [h4]
theorem iT {scope : Scope} {own fr : List Str} {idx : List Nat} {pins : List (Addr × Obj)} {σ : St} {H : Hp} {s : Shared} {fp : List Addr} {h4 : Heap} {tk : Nat} {m : Str -> Option Value} (S : aR own fr scope X.env.scope)
    (hix : idx.length = fr.length) (hat : ∀ (k : Nat) (x : Str) (j : Nat), fr[k]? = some x -> idx[k]? = some j -> X.N[j]? = some x)
    (I : Inv X pins σ H s) (hf : ∀ b ∈ fp, jK X pins H b) (hfs : ∀ b ∈ fp, b < s.heap.objs.size) (hn : h4.Ns s.heap.objs.size m) (hk : ∀ b o, s.heap.get? b = some o -> h4.get? b = some o) :
    Inv (bI X scope s.heap.objs.size (own ++ fr) s H pins fp) [] (gP own.length idx σ) H { s with heap := h4, toks := tk } := by
  have sub : ∀ x c, (cL X.env scope.names []).lookup x = some c -> X.env.cells.lookup x = some c := fun x c e => (dS _ _ x c e).elim id fun z => nomatch z
  have hfC : ∀ b ∈ fp, b ≠ s.heap.objs.size := fun b hb => Nat.ne_of_lt (hfs b hb)
  have ok := t9 (fp := fp) S I hf (Nat.le_refl _) hfC
  refine ⟨ok, rfl, I.bare, Un.kept hk, ⟨m, hn, fun i x v e1 e2 e3 => ?_⟩, fun x c e => ?_, I.hok.fresh (Nat.le_refl _), fun x c e => I.freeC x c (sub x c e), fun p hp => ?_, I.hok.kept hk, ?_⟩
  . obtain ⟨k, j, q1, q2, q3⟩ := nJ hix e1 e2
    have hN := hat k x j q1 q2
    have hx := List.mem_of_getElem? q1
    have eO := S.frs x hx
    have zie := S.outs _ (bX eO) rfl
    obtain ⟨m0, _, hl⟩ := I.loc
    obtain ⟨u, ru, lk⟩ := hl j x v hN q3 (zie.elim (fun z => .inr (.inl z)) fun z => .inr (.inr z))
    refine ⟨u, ru, ?_⟩
    have tJ : (compEnvC scope (cL X.env scope.names []) s.heap.objs.size X.env).kindOf x = some .cell \/ (compEnvC scope (cL X.env scope.names []) s.heap.objs.size X.env).kindOf x = some .free := by
      have q := eD (env := X.env) scope.names x
      rw [eO] at q
      by_cases hc : (NameKind.free == NameKind.free && X.env.scope.kind == .function && X.env.kindOf x == some .cell) = true
      . refine .inl (q.trans ?_); simp only [Option.map_some]; rw [if_pos hc]
      . refine .inr (q.trans ?_); simp only [Option.map_some]; rw [if_neg hc]
    rcases lk with ⟨kl, _⟩ | ⟨_, c, ec, cc⟩
    . have kl' : X.env.scope.names.lookup x = some .local := kl
      rcases zie with z | z <;> (rw [kl'] at z; cases z)
    . obtain ⟨c', ec'⟩ := iG scope.names [] x (bX eO) ⟨c, ec⟩
      have e' := sub x c' ec'
      rw [ec] at e'
      cases e'
      obtain ⟨o, ho, hd⟩ := cc
      exact .inr ⟨tJ, c, ec', o, hk c o ho, hd⟩
  . obtain ⟨v, o, ho, hd⟩ := I.cell x c (sub x c e)
    exact ⟨v, o, hk c o ho, hd⟩
  . have hp' : p ∈ X.pn ++ pins := by
      rcases List.mem_append.mp hp with z | z
      . exact z
      . exact nomatch z
    obtain ⟨a1, a2, a3, a4, a5⟩ := I.pin p hp'
    refine ⟨hk _ _ a1, a2, Nat.ne_of_lt (Heap.lt_size a1), fun z => ?_, a5⟩
    rcases List.mem_cons.mp (I.stkSub p.1 z) with q | q
    . exact a3 q
    . exact a4 q
  . show (gP own.length idx σ).length = (own ++ fr).length
    unfold gP
    rw [List.length_append, List.length_append, List.length_replicate, List.length_map, hix]
theorem jS {scope : Scope} {N : List Str} {pins : List (Addr × Obj)} {σ σ' : St} {H H' : Hp} {s s' : Shared} {fp : List Addr} {h' : Heap}
    (I : Inv X pins σ H s) (hf : ∀ b ∈ fp, jK X pins H b) (J : Inv (bI X scope s.heap.objs.size N s H pins fp) [] σ' H' s') (hs : Heap.SameBut s.heap.objs.size s'.heap h') :
    Inv X pins σ H' { s' with heap := h' } := by
  have ne : ∀ b o, s.heap.get? b = some o -> b ≠ s.heap.objs.size := fun b o e => Nat.ne_of_lt (Heap.lt_size e)
  have hCn : H' s.heap.objs.size = none := J.free
  have u := J.base
  refine I.call' (s' := { s' with heap := h' }) (ch := fp) J.os ⟨fun b o e n hb hx => ?_, fun b o e n hb hx => ?_, u.free, fun b o e hx => ?_, u.tups, u.frzs, u.tbls⟩ (fun b ob e => ?_) J.bare fun b hb => ?_
  . exact (hs.2 b (ne b o e)).trans (u.keep b o e n hb hx)
  . obtain ⟨sl, q⟩ := u.slot b o e n hb hx
    exact ⟨sl, (hs.2 b (ne b o e)).trans q⟩
  . obtain ⟨o', q⟩ := u.there b o e hx
    exact ⟨o', (hs.2 b (ne b o e)).trans q⟩
  . refine (J.hok b ob e).stay (fun c v hc q => (hs.2 c ?_).trans q) (fun _ q => q) fun _ _ q => q
    rintro rfl
    rcases hc with z | z
    . rw [<- z, hCn] at e; cases e
    . rw [hCn] at z; cases z
  . obtain ⟨f0, f1, f2, f3, f4, f5⟩ := hf b hb
    exact ⟨f3, f1, f4, f5⟩
theorem lH {Y : Cx} {elt tg iter : Expr} {ifs : List Expr} {scope : Scope} {pos : Pos} {it D : Addr} {fp : List Addr} {tn : Nat -> Heap -> Prop} {J : It} {g : TG} {tc : TT} {te : TE} {Q : Hp -> Prop} {W : Nat -> Nat -> List V -> St -> Hp -> Prop} {R : Result -> Shared -> Prop} {s0 : Shared} {m0 : Nat}
    (hc : Y.calm = true) (hg : PG Y tg g) (ht : PTs Y ifs tc) (he : PE Y elt te) (hF : ∀ v s, Y.xe v s -> False) (T : xU Y.prog Y.w Y.K tg J fp it tn) (fpC : ∀ {H' : Hp}, (∀ b ∈ fp, H' b = none) -> ∀ b ∈ fp, jK Y [] H' b)
    (turn : ∀ i m ys σ H, H D = some (.lst ys) -> W i m ys σ H -> (J.stop i H /\ Q H) \/ (J.go i H /\ ys.length < sizeLine /\ ∃ N : List V -> St -> Hp -> Prop, (∀ ys' σ' H', N ys' σ' H' -> ∃ m', m' < m /\ W (i + 1) m' ys' σ' H') /\
      ∀ x H', J.yld i H x H' -> g x σ H' fun σ2 H2 => tc σ2 H2 fun b H3 =>
        if b = true then te σ2 H3 fun v H4 => H4 D = some (.lst ys) /\ N (ys ++ [v]) σ2 (upd H4 D (.lst (ys ++ [v])))
        else H3 D = some (.lst ys) /\ N ys σ2 H3))
    (done : ∀ s6 σ H, Inv Y [] σ H s6 -> Q H -> R (.ok .next) s6)
    (h0 : ∃ i ys σ' H', Inv Y [] σ' H' s0 /\ tn i s0.heap /\ (∀ b ∈ fp, H' b = none) /\ H' D = some (.lst ys) /\ W i m0 ys σ' H') :
    codeAny (model Y.prog Y.w) Y.A (.compLoop (.ListComp elt [⟨tg, iter, ifs, 0⟩] scope pos) 0 (.ref it) (.ref D) Y.env) R s0 := by
  have thnF : ∀ {α : Type} {m : Sem α} {Q Q' : α -> Shared -> Prop} {s : Shared}, wpAny (model Y.prog Y.w) Y.A m Q Y.xe s -> (∀ v s', Q v s' -> Q' v s') -> wpAny (model Y.prog Y.w) Y.A m Q' (fun _ _ => False) s := fun h k => wpAny_mono h k hF
  refine iZ (fun n s' => ∃ i ys σ' H', Inv Y [] σ' H' s' /\ tn i s'.heap /\ (∀ b ∈ fp, H' b = none) /\ H' D = some (.lst ys) /\ W i n ys σ' H') ?_ m0 h0
  rintro n s5 ⟨i, ys, σ5, H5, I5, st5, fr5, hD5, w5⟩
  rcases turn i n ys σ5 H5 hD5 w5 with ⟨stop, q⟩ | ⟨go, dR, N, hN, step⟩
  . refine thn (T.done Y rfl rfl rfl hc i [] s5 σ5 H5 _ I5 (fpC fr5) st5 stop) fun r s6 zz => ?_
    obtain ⟨hr, I6⟩ := zz
    subst hr
    exact done s6 σ5 H5 I6 q
  . refine thn (T.item Y rfl rfl rfl hc i [] s5 σ5 H5 _ I5 (fpC fr5) st5 go) fun r s6 zz => ?_
    obtain ⟨u, hr, h6⟩ := zz
    subst hr
    refine thn h6 fun _ s7 zz => ?_
    obtain ⟨x, H7, I7, r7, y7, st7, fr7⟩ := zz
    have I7' := I7.pinned (fpC fr7) (T.obj _ _ st7)
    refine thnF (hg _ s7 σ5 H7 x u _ I7' r7 (step x H7 y7)) fun _ s8 zz => ?_
    obtain ⟨σ8, H8, I8, q8⟩ := zz
    refine thnF (ht _ s8 σ8 H8 _ I8 q8) fun ok s9 zz => ?_
    obtain ⟨H9, I9, q9⟩ := zz
    have again : ∀ {σ' : St} {H' : Hp} {s' : Shared} {ys' : List V}, Inv Y ([] ++ nF fp s7.heap) σ' H' s' -> H' D = some (.lst ys') -> N ys' σ' H' ->
        ∃ m, m < n /\ ∃ i ys σ' H', Inv Y [] σ' H' s' /\ tn i s'.heap /\ (∀ b ∈ fp, H' b = none) /\ H' D = some (.lst ys) /\ W i m ys σ' H' := fun {σ' H' s' ys'} I' hD' n' => by
      obtain ⟨m', hm, w'⟩ := hN ys' σ' H' n'
      have pin : ∀ b ∈ fp, ∀ o, s7.heap.get? b = some o -> s'.heap.get? b = some o /\ H' b = none := fun b hb o e => by
        have q := I'.pin (b, o) (List.mem_append_right _ (List.mem_append_right _ (gJ hb e)))
        exact ⟨q.1, q.2.1⟩
      refine ⟨m', hm, i + 1, ys', σ', H', I'.unpinned, T.keep _ _ _ st7 fun b hb o e => (pin b hb o e).1, fun b hb => ?_, hD', w'⟩
      obtain ⟨o, e, _⟩ := T.obj _ _ st7 b hb
      exact (pin b hb o e).2
    cases ok with
    | false =>
      have q9' : H9 D = some (.lst ys) /\ N ys σ8 H9 := by simpa using q9
      simp only [Bool.false_eq_true, if_false]
      exact again I9 q9'.1 q9'.2
    | true =>
      simp only [if_true] at q9 ⊢
      refine thnF (he _ s9 σ8 H9 _ I9 q9) fun xv s10 zz => ?_
      obtain ⟨v, H10, I10, r10, hD10, w10⟩ := zz
      refine thnF (gQ _ s10 σ8 H10 (.ref D) [v] _ [xv] (fun _ H' => H' = upd H10 D (.lst (ys ++ [v]))) I10 rfl (.cons r10 .nil) ⟨_, ys, v, rfl, rfl, hD10, dR, rfl⟩) fun _ s11 zz => ?_
      obtain ⟨_, H11, I11, _, e11⟩ := zz
      subst e11
      exact again I11 aB w10
theorem dI {elt tg iter : Expr} {ifs : List Expr} {scope : Scope} {own fr : List Str} {idx : List Nat} {wi : TI} {g : TG} {tc : TT} {te : TE} {pos : Pos} (hc : X.calm = true) (S : aR own fr scope X.env.scope)
    (hi : PI X tg iter wi) (hg : ∀ C s H pins fp, PG (bI X scope C (own ++ fr) s H pins fp) tg g) (ht : ∀ C s H pins fp, PTs (bI X scope C (own ++ fr) s H pins fp) ifs tc) (he : ∀ C s H pins fp, PE (bI X scope C (own ++ fr) s H pins fp) elt te)
    (hix : idx.length = fr.length := by rfl) (hat : ∀ (k : Nat) (x : Str) (j : Nat), fr[k]? = some x -> idx[k]? = some j -> X.N[j]? = some x)
    (hs : ∀ x, foldedSetIterable iter X.env x = pure x := by intro _; rfl) : PE X (.ListComp elt [⟨tg, iter, ifs, 0⟩] scope pos) (yB wi own.length idx g tc te) := by
  intro pins s σ H Q I h
  rw [eval_ListComp]
  have mT : closureFor scope X.env = pure (cL X.env scope.names []) := kM fun x hx eO => I.ok.has x.1 (S.outs x hx eO)
  refine wpAny_comprehension_free (use := none) rfl hs mT S.kind S.names (thn (hi pins s σ H _ I h) fun v s1 h1 => thn h1 fun itv s2 h2 => ?_)
  obtain ⟨it, fp, tn, J, H2, e, I2, T, st2, f2, h2⟩ := h2
  subst e
  refine wpAny_newObj_type ?_
  obtain ⟨W, ⟨m0, w0⟩, turn⟩ := h2 s2.heap.objs.size I2.fresh
  have I3 : Inv X pins σ (upd H2 s2.heap.objs.size (.lst [])) { s2 with heap := s2.heap.push { cls := .type "list", data := .seq ([] : List Value).toArray }, toks := s2.toks } := I2.lnew .nil (Nat.zero_le _)
  have fpl : ∀ b ∈ fp, b < s2.heap.objs.size := fun b hb => by
    obtain ⟨o, e, _⟩ := T.obj _ _ st2 b hb
    exact Heap.lt_size e
  have f3 : ∀ b ∈ fp, jK X pins (upd H2 s2.heap.objs.size (.lst [])) b := fun b hb => ⟨by rw [aH (Nat.ne_of_lt (fpl b hb))]; exact (f2 b hb).1, (f2 b hb).2⟩
  generalize hs3 : ({ s2 with heap := s2.heap.push { cls := .type "list", data := .seq ([] : List Value).toArray }, toks := s2.toks } : Shared) = s3 at I3
  have hsz : s3.heap.objs.size = s2.heap.objs.size + 1 := by rw [<- hs3]; exact Heap.size_push _ _
  have st3 : tn 0 s3.heap := T.keep _ _ _ st2 fun b hb o e => by rw [<- hs3]; exact Heap.get?_push_of_some _ e
  refine wpAny_newFunctionEnv S.nocell (by intro y hy; simp at hy) (fun h4 hn4 hsb4 => ?_) S.kind
  have hk4 : ∀ b o, s3.heap.get? b = some o -> h4.get? b = some o := fun b o e => hsb4.extBut b o (Nat.ne_of_lt (Heap.lt_size e)) (Heap.get?_push_of_some _ e)
  have I4 := iT (idx := idx) (tk := s3.toks + ([] : List (Str × Value)).length) S hix hat I3 f3 (fun b hb => by rw [hsz]; exact Nat.lt_succ_of_lt (fpl b hb)) hn4 hk4
  have fpC : ∀ {H' : Hp} (pl : List (Addr × Obj)), (∀ p ∈ pl, ∀ b ∈ fp, p.1 ≠ b) -> (∀ b ∈ fp, H' b = none) -> ∀ b ∈ fp, jK (bI X scope s3.heap.objs.size (own ++ fr) s3 (upd H2 s2.heap.objs.size (.lst [])) pins fp) pl H' b := fun {H'} pl hpl hn b hb => by
    obtain ⟨g0, g1, g2, g3, g4, g5⟩ := f3 b hb
    refine ⟨hn b hb, ?_, fun z => ?_, .inl hb, fun x c e => g4 x c ((dS _ _ x c e).elim id fun z => nomatch z), fun p hp => ?_⟩
    . show b ≠ s3.heap.objs.size
      exact Nat.ne_of_lt (by rw [hsz]; exact Nat.lt_succ_of_lt (fpl b hb))
    . rcases List.mem_cons.mp (I3.stkSub b z) with q | q
      . exact g1 q
      . exact g2 q
    . rcases List.mem_append.mp hp with q | q
      . exact g5 p q
      . exact hpl p q b hb
  have loop : codeAny (model X.prog X.w) X.A (.compLoop (.ListComp elt [⟨tg, iter, ifs, 0⟩] scope pos) 0 (.ref it) (.ref s2.heap.objs.size) (compEnvC scope (cL X.env scope.names []) s3.heap.objs.size X.env))
      (compPost (model X.prog X.w) X.A X.xe none (EP X pins σ Q) (.ref s2.heap.objs.size) s3.heap.objs.size) { s3 with heap := h4, toks := s3.toks + ([] : List (Str × Value)).length } := by
    refine lH (Y := bI X scope s3.heap.objs.size (own ++ fr) s3 (upd H2 s2.heap.objs.size (.lst [])) pins fp) (W := W) (m0 := m0) hc (hg _ _ _ _ _) (ht _ _ _ _ _) (he _ _ _ _ _) (fun _ _ z => z) T (fun hn => fpC [] (fun _ z => nomatch z) hn) turn (fun s6 σ5 H5 I6 q => ?_) ⟨0, [], _, _, I4, T.keep _ _ _ st3 fun b _ o e => hk4 b o e, fun b hb => (f3 b hb).1, aB, w0⟩
    obtain ⟨m6, hn6, _⟩ := id I6.loc
    refine ⟨m6, hn6, fun h' hsb => ?_⟩
    exact ⟨.ref s2.heap.objs.size, H5, jS I3 f3 I6 hsb, rfl, q⟩
  exact codeAny_compStart_list loop (T.self _ 0 _ _ _ (T.keep _ _ _ st3 fun b _ o e => hk4 b o e) loop)
end
theorem lD {J : It} {n : Nat} {item : Nat -> V} {g : TG} {tc : TT} {te : TE} {σ0 : St} {H1 : Hp} {D : Addr} {Q : VK} (Pv : Nat -> List V -> St -> Hp -> Prop) (h0 : Pv 0 [] σ0 (upd H1 D (.lst []))) (hn : n <= 100000)
    (hgo : ∀ i ys σ H, i < n -> Pv i ys σ H -> J.go i H /\ ∀ x H', J.yld i H x H' -> H' = H /\ x = item i) (hst : ∀ ys σ H, Pv n ys σ H -> J.stop n H) (hl : ∀ i ys σ H, Pv i ys σ H -> ys.length <= i)
    (hs : ∀ i ys σ H, i < n -> H D = some (.lst ys) -> Pv i ys σ H -> g (item i) σ H fun σ2 H2 => tc σ2 H2 fun b H3 =>
      if b = true then te σ2 H3 fun v H4 => H4 D = some (.lst ys) /\ Pv (i + 1) (ys ++ [v]) σ2 (upd H4 D (.lst (ys ++ [v]))) else H3 D = some (.lst ys) /\ Pv (i + 1) ys σ2 H3)
    (hd : ∀ ys σ H, H D = some (.lst ys) -> Pv n ys σ H -> Q (.ref D) H) : bO J D g tc te Q σ0 H1 := by
  refine ⟨fun i m ys σ H => m = n - i /\ i <= n /\ Pv i ys σ H, ⟨n, by simp, Nat.zero_le _, h0⟩, ?_⟩
  rintro i m ys σ H hD ⟨rfl, hi, p⟩
  by_cases hlt : i < n
  . have hz : ys.length < sizeLine := by
      have h1 := hl i ys σ H p
      have h2 : (100000 : Nat) < sizeLine := by rw [sizeLine_eq]; decide
      omega
    obtain ⟨go, yl⟩ := hgo i ys σ H hlt p
    refine .inr ⟨go, hz, Pv (i + 1), fun ys' σ' H' p' => ⟨n - (i + 1), by omega, rfl, hlt, p'⟩, fun x H' y => ?_⟩
    obtain ⟨e1, e2⟩ := yl x H' y
    subst e1 e2
    exact hs i ys σ _ hlt hD p
  . have e : i = n := by omega
    subst e
    exact .inl ⟨hst ys σ H p, hd ys σ H hD p⟩
theorem fN {lo : Int} {n : Nat} {g : TG} {tc : TT} {te : TE} {σ0 : St} {H1 : Hp} {D : Addr} {Q : VK} (Pv : Nat -> List V -> St -> Hp -> Prop) (h0 : Pv 0 [] σ0 (upd H1 D (.lst []))) (hn : n <= 100000) (hl : ∀ i ys σ H, Pv i ys σ H -> ys.length <= i)
    (hs : ∀ i ys σ H, i < n -> H D = some (.lst ys) -> Pv i ys σ H -> g (.int (lo + i)) σ H fun σ2 H2 => tc σ2 H2 fun b H3 =>
      if b = true then te σ2 H3 fun v H4 => H4 D = some (.lst ys) /\ Pv (i + 1) (ys ++ [v]) σ2 (upd H4 D (.lst (ys ++ [v]))) else H3 D = some (.lst ys) /\ Pv (i + 1) ys σ2 H3)
    (hd : ∀ ys σ H, H D = some (.lst ys) -> Pv n ys σ H -> Q (.ref D) H) : bO (Itr lo n) D g tc te Q σ0 H1 :=
  lD (item := fun i => .int (lo + i)) Pv h0 hn (fun i ys σ H hi _ => ⟨hi, fun x H' y => y⟩) (fun _ _ _ _ => Nat.le_refl _) hl hs hd
theorem iO {K : W.Frag} {a : Addr} {xs : List V} {g : TG} {tc : TT} {te : TE} {σ0 : St} {H1 : Hp} {D : Addr} {Q : VK} (Pv : Nat -> List V -> St -> Hp -> Prop) (h0 : Pv 0 [] σ0 (upd H1 D (.lst []))) (hn : xs.length <= 100000) (hl : ∀ i ys σ H, Pv i ys σ H -> ys.length <= i)
    (ha : ∀ i ys σ H, Pv i ys σ H -> SqL K H a xs)
    (hs : ∀ i x ys σ H, xs[i]? = some x -> H D = some (.lst ys) -> Pv i ys σ H -> g x σ H fun σ2 H2 => tc σ2 H2 fun b H3 =>
      if b = true then te σ2 H3 fun v H4 => H4 D = some (.lst ys) /\ Pv (i + 1) (ys ++ [v]) σ2 (upd H4 D (.lst (ys ++ [v]))) else H3 D = some (.lst ys) /\ Pv (i + 1) ys σ2 H3)
    (hd : ∀ ys σ H, H D = some (.lst ys) -> Pv xs.length ys σ H -> Q (.ref D) H) : bO (Itl K a) D g tc te Q σ0 H1 := by
  refine lD (n := xs.length) (item := fun i => xs.getD i .non) Pv h0 hn (fun i ys σ H hi p => ?_) (fun ys σ H p => ⟨xs, ha _ _ _ _ p, Nat.le_refl _⟩) hl (fun i ys σ H hi hD p => ?_) hd
  . have e : xs[i]? = some xs[i] := List.getElem?_eq_getElem hi
    refine ⟨⟨xs, xs[i], ha _ _ _ _ p, e⟩, fun x H' y => ⟨y.1, ?_⟩⟩
    have q := y.2 xs (ha _ _ _ _ p)
    rw [List.getD_eq_getElem?_getD, q]; rfl
  . have e : xs[i]? = some (xs.getD i .non) := by rw [List.getD_eq_getElem?_getD, List.getElem?_eq_getElem hi]; rfl
    exact hs i _ ys σ H e hD p
theorem zaU {K : W.Frag} {a : Addr} {xs : List V} {g : TG} {tc : TT} {te : TE} {σ0 : St} {H1 : Hp} {D : Addr} {Q : VK} (Pv : Nat -> List V -> St -> Hp -> Prop) (h0 : Pv 0 [] σ0 (upd H1 D (.lst []))) (hn : xs.length <= 100000) (hl : ∀ i ys σ H, Pv i ys σ H -> ys.length <= i)
    (ha : ∀ i ys σ H, Pv i ys σ H -> SqT K H a xs)
    (hs : ∀ i x ys σ H, xs[i]? = some x -> H D = some (.lst ys) -> Pv i ys σ H -> g x σ H fun σ2 H2 => tc σ2 H2 fun b H3 =>
      if b = true then te σ2 H3 fun v H4 => H4 D = some (.lst ys) /\ Pv (i + 1) (ys ++ [v]) σ2 (upd H4 D (.lst (ys ++ [v]))) else H3 D = some (.lst ys) /\ Pv (i + 1) ys σ2 H3)
    (hd : ∀ ys σ H, H D = some (.lst ys) -> Pv xs.length ys σ H -> Q (.ref D) H) : bO (Itt K a) D g tc te Q σ0 H1 := by
  refine lD (n := xs.length) (item := fun i => xs.getD i .non) Pv h0 hn (fun i ys σ H hi p => ?_) (fun ys σ H p => ⟨xs, ha _ _ _ _ p, Nat.le_refl _⟩) hl (fun i ys σ H hi hD p => ?_) hd
  . have e : xs[i]? = some xs[i] := List.getElem?_eq_getElem hi
    refine ⟨⟨xs, xs[i], ha _ _ _ _ p, e⟩, fun x H' y => ⟨y.1, ?_⟩⟩
    have q := y.2 xs (ha _ _ _ _ p)
    rw [List.getD_eq_getElem?_getD, q]; rfl
  . have e : xs[i]? = some (xs.getD i .non) := by rw [List.getD_eq_getElem?_getD, List.getElem?_eq_getElem hi]; rfl
    exact hs i _ ys σ H e hD p
section
variable {X : Cx}
def zon (_i j : Int) : Prop := 0 < j /\ j <= 2 ^ 100
theorem wQ {n : Nat} (h : n <= 2 ^ 100) : n.log2 < 9000 := by
  by_cases h0 : n = 0
  . subst h0; decide
  . exact (Nat.log2_lt h0).mpr (Nat.lt_of_le_of_lt h (Nat.pow_lt_pow_right (by decide) (by decide)))
theorem uG : OpR X (binaryOp .FloorDiv) (rI zon fun i j => .int (i / j)) := opI fun i j _ _ _ _ _ hc q => by
  have h1 : (0 : Int) < j := hc.1
  have h2 : j <= 2 ^ 100 := hc.2
  have e : j.natAbs <= 2 ^ 100 := by
    have : ((j.natAbs : Nat) : Int) <= ((2 ^ 100 : Nat) : Int) := by rw [Int.natAbs_of_nonneg (by omega)]; exact h2
    exact Int.ofNat_le.mp this
  exact floordiv_int (by omega) (by rw [Int.fdiv_eq_ediv_of_nonneg i (by omega)]; exact q) (.inl (PyProof.noPylong_of_log2 (wQ e)))
theorem xK {ys : List Str} : ∀ {us : List Value}, cA (ys.map V.str) us -> StrsAre us ys := by
  induction ys with
  | nil => intro us h; cases h; exact .nil
  | cons y r ih =>
    intro us h
    cases h with
    | cons a b =>
      obtain ⟨t, rfl⟩ := a
      exact .cons _ _ (ih b)
def zot (K : W.Frag) : V -> List V -> Hp -> VK -> Prop := fun x xs H Q => ∃ sep p ys, x = .str sep /\ xs = [.ref p] /\ SqL K H p (ys.map V.str) /\ (ys.map (·.length)).sum + ys.length * sep.length <= 16777216 /\ Q (.str (Txt.join sep ys)) H
theorem zK : MtR X "str.join" (zot X.K) := by
  intro pins s σ H x xs v us Q I rx rs h
  obtain ⟨sep, p, ys, rfl, rfl, hq, hz, q⟩ := h
  obtain ⟨t, rfl⟩ := rx
  obtain ⟨u, rfl, ru⟩ := rs.one
  cases ru
  obtain ⟨its, r, pl, _⟩ := I.list hq
  exact join_list pl.isList (xK r) hz fun t' k => ⟨.str (Txt.join sep ys), H, I.tok k, ⟨_, rfl⟩, q⟩
def zmT : V -> Option Int -> Option Int -> Hp -> VK -> Prop := fun x lo hi H Q => ∃ z, x = .str z /\ z.length <= sizeLine /\ Q (.str (Txt.slice z lo hi)) H
theorem kR : SlR X zmT := by
  intro pins s σ H x v vl vu lo hi sl Q I rx hs pl pu h
  obtain ⟨z, rfl, hz, q⟩ := h
  obtain ⟨t, rfl⟩ := rx
  refine ⟨"str", _, F.slot_str_getitem.lookup, typeIs_str _ _ _, ?_⟩
  have fin : ∀ t' k, EP X pins σ Q (.str (Txt.slice z lo hi) t') { s with toks := k } := fun t' k => ⟨.str (Txt.slice z lo hi), H, I.tok k, ⟨_, rfl⟩, q⟩
  cases pl with
  | none =>
    cases pu with
    | none => exact wpAny_getItem_str_slice (l := none) (u := none) (st := none) hs rfl (post_val_or_str ⟨Nat.le_trans (Txt.slice_le z _ _) hz, fun t' k => fin t' k⟩)
    | int j uj => exact wpAny_getItem_str_slice (l := none) (u := some (j, uj)) (st := none) hs rfl (post_val_or_str ⟨Nat.le_trans (Txt.slice_le z _ _) hz, fun t' k => fin t' k⟩)
  | int i ui =>
    cases pu with
    | none => exact wpAny_getItem_str_slice (l := some (i, ui)) (u := none) (st := none) hs rfl (post_val_or_str ⟨Nat.le_trans (Txt.slice_le z _ _) hz, fun t' k => fin t' k⟩)
    | int j uj => exact wpAny_getItem_str_slice (l := some (i, ui)) (u := some (j, uj)) (st := none) hs rfl (post_val_or_str ⟨Nat.le_trans (Txt.slice_le z _ _) hz, fun t' k => fin t' k⟩)
theorem Inv.turnLaid {pins : List (Addr × Obj)} {σ : St} {H : Hp} {s : Shared} {h' : Heap} {ch : List Addr} {T : Addr} {o : HO} {t' : Nat} (I : Inv X pins σ H s) (hch : ∀ b ∈ ch, jK X pins H b) (keep : ∀ b ob, b ∉ ch -> s.heap.get? b = some ob -> h'.get? b = some ob)
    (hT : s.heap.objs.size <= T) (new : cJ X.prog X.w (upd H T o) h' T o) : Inv X pins σ (upd H T o) { s with heap := h', toks := t' } := by
  have nT : ∀ b ob, s.heap.get? b = some ob -> b ≠ T := fun b ob e => Nat.ne_of_lt (Nat.lt_of_lt_of_le (Heap.lt_size e) hT)
  have fT : H T = none := I.hok.fresh hT
  have nch : ∀ b u, H b = some u -> b ∉ ch := fun b u e z => by rw [(hch b z).1] at e; cases e
  refine I.step (g' := s.gens) (d' := s.drawn) (ch := ch) (fun b hb => ?_) (fun b ob _ _ hc e _ => keep b ob hc e) (fun b ob _ _ hc e _ => ⟨ob.slots, keep b ob hc e⟩) (fun b ob _ e n => by rw [aH (nT b ob e)]; exact n)
    (fun b ob hc e => ⟨ob, keep b ob hc e⟩) (fun b xs e => by rw [aH (aF e fT)]; exact e) (fun b ob u e => by rw [aH (aF e fT)]; exact e) (fun b ps e => ⟨#[], by rw [aH (aF e fT), e]; simp⟩) (fun m hm => ?_) (fun b u e => ?_) I.bare
  . obtain ⟨_, f1, _, f3, f4, f5⟩ := hch b hb
    exact ⟨f3, f1, f4, f5⟩
  . obtain ⟨ob, es, ep, ho, r⟩ := hm
    exact ⟨ob, es, ep, keep _ ob (fun z => (hch _ z).2.1 rfl) ho, r⟩
  . by_cases hb : b = T
    . subst hb; rw [aB] at e; cases e; exact new
    . rw [aH hb] at e
      refine (I.hok b u e).stay (fun c v hc q => keep c v ?_ q) (fun c q => by rw [aH (aF q fT)]; exact q) fun c xs q => by rw [aH (aF q fT)]; exact q
      rcases hc with z | z
      . rw [z]; exact nch b u e
      . exact nch c _ z
theorem Inv.turnedL {pins : List (Addr × Obj)} {σ : St} {H : Hp} {s : Shared} {h' : Heap} {ch : List Addr} {t' : Nat} (I : Inv X pins σ H s) (hch : ∀ b ∈ ch, jK X pins H b) (keep : ∀ b ob, b ∉ ch -> s.heap.get? b = some ob -> h'.get? b = some ob) :
    Inv X pins σ H { s with heap := h', toks := t' } := by
  have nch : ∀ b u, H b = some u -> b ∉ ch := fun b u e z => by rw [(hch b z).1] at e; cases e
  refine I.step (g' := s.gens) (d' := s.drawn) (ch := ch) (fun b hb => ?_) (fun b ob _ _ hc e _ => keep b ob hc e) (fun b ob _ _ hc e _ => ⟨ob.slots, keep b ob hc e⟩) (fun b ob _ e n => n)
    (fun b ob hc e => ⟨ob, keep b ob hc e⟩) (fun b xs e => e) (fun b ob u e => e) (fun b ps e => ⟨#[], by rw [e]; simp⟩) (fun m hm => ?_) (fun b u e => ?_) I.bare
  . obtain ⟨_, f1, _, f3, f4, f5⟩ := hch b hb
    exact ⟨f3, f1, f4, f5⟩
  . obtain ⟨ob, es, ep, ho, r⟩ := hm
    exact ⟨ob, es, ep, keep _ ob (fun z => (hch _ z).2.1 rfl) ho, r⟩
  . refine (I.hok b u e).stay (fun c v hc q => keep c v ?_ q) (fun c q => q) fun c xs q => q
    rcases hc with z | z
    . rw [z]; exact nch b u e
    . exact nch c _ z
end
def Its (x : Str) : It := ⟨fun i _ => i < x.cps.size, fun i H v H' => H' = H /\ ∃ c, x.cps[i]? = some c /\ v = .str ⟨#[c]⟩, fun i _ => x.cps.size <= i⟩
theorem vN {ty : String} {x : Str} {t : Tok} {i : Nat} {h : Heap} {it : Addr} (st : h.IsStrIter it ty x t i) : ∀ b ∈ [it], ∃ o, h.get? b = some o /\ ∀ v, o.data ≠ .cell v := fun b hb => by
  have e : b = it := by simpa using hb
  subst e
  obtain ⟨o, e, c, d⟩ := st
  exact ⟨o, e, fun v z => by rw [d] at z; cases z⟩
theorem zaV {P : Program} {w : World} {K : W.Frag} {y : Str} {p : Pos} (it : Addr) (x : Str) (t : Tok) : xU P w K (.Name y p) (Its x) [it] it (fun i h => h.IsStrIter it (strIterType x) x t i) where
  mem := by simp
  obj := fun i h st => vN st
  keep := fun i h h' st k => by
    obtain ⟨o, e, r⟩ := st
    exact ⟨o, k it (by simp) o e, r⟩
  item := by
    intro X hP hw hK hc i pins s σ H E I hf st hg
    subst hP hw hK
    obtain ⟨f0, f1, f2, f3, f4, f5⟩ := hf it (by simp)
    have hlt : i < x.cps.size := hg
    have hi : x.cps[i]? = some x.cps[i] := Array.getElem?_eq_getElem hlt
    have fin : ∀ h', h'.IsStrIter it (strIterType x) x t (i + 1) -> Heap.SameBut it s.heap h' -> ∃ u, some (Value.str ⟨#[x.cps[i]]⟩ s.toks) = some u /\
        wpAny (model X.prog X.w) X.A (letOwnedTupleGo (.Name y p) (.ref it) u) (fun _ s2 => ∃ v H', Inv X pins σ H' s2 /\ cH v u /\ (Its x).yld i H v H' /\ s2.heap.IsStrIter it (strIterType x) x t (i + 1) /\ ∀ b ∈ [it], H' b = none) E { s with heap := h', toks := s.toks + 1 } := fun h' st' sb => by
      have I1 : Inv X pins σ H { s with heap := h', toks := s.toks + 1 } := I.turned (fun b o hb e => (sb.2 b hb).trans e) f0 f1 f3 f4 f5
      exact ⟨_, rfl, wpAny_pure ⟨.str ⟨#[x.cps[i]]⟩, H, I1, ⟨_, rfl⟩, ⟨rfl, _, hi, rfl⟩, st', fun b hb => (hf b hb).1⟩⟩
    unfold strIterType at st fin ⊢
    cases ha : x.cps.all (· < 128)
    . rw [ha] at st fin
      exact wpAny_pyNext_wide_item st hi fun h' st' sb => fin h' st' sb
    . rw [ha] at st fin
      exact wpAny_pyNext_ascii_item st hi fun h' st' sb => fin h' st' sb
  done := by
    intro X hP hw hK hc i pins s σ H E I hf st hg
    subst hP hw hK
    obtain ⟨f0, f1, f2, f3, f4, f5⟩ := hf it (by simp)
    have hi : x.cps[i]? = none := Array.getElem?_eq_none hg
    have fin : ∀ h', Heap.ExtBut it s.heap h' -> (none : Option Value) = none /\ Inv X pins σ H { s with heap := h' } := fun h' eb => ⟨rfl, I.turned (t' := s.toks) (fun b o hb e => eb b o hb e) f0 f1 f3 f4 f5⟩
    unfold strIterType at st
    cases ha : x.cps.all (· < 128)
    . rw [ha] at st
      exact wpAny_pyNext_wide_end (I.ok.hd hc) st hi fun h' eb => fin h' eb
    . rw [ha] at st
      exact wpAny_pyNext_ascii_end (I.ok.hd hc) st hi fun h' eb => fin h' eb
  self := fun A i s Q E st h => by
    unfold strIterType at st
    cases ha : x.cps.all (· < 128)
    . rw [ha] at st
      exact wpAny_pyIter_striter_wide st h
    . rw [ha] at st
      exact wpAny_pyIter_striter_ascii st h
def zqk (tl : TE) : TI := fun σ H R => tl σ H fun x H1 => ∃ z, x = .str z /\ R (Its z) H1
theorem zjg {X : Cx} {y : Str} {p : Pos} {l : Expr} {tl : TE} (hl : PE X l tl) : PI X (.Name y p) l (zqk tl) := by
  intro pins s σ H R I h
  refine thn (hl pins s σ H _ I h) fun v s1 zz => ?_
  obtain ⟨x, H1, I1, r1, q1⟩ := zz
  obtain ⟨z, e, q⟩ := q1
  subst e
  obtain ⟨t, rfl⟩ := r1
  refine wpAny_pyIter_strU ?_
  refine ⟨s1.heap.objs.size, [s1.heap.objs.size], _, _, H1, rfl, I1.kept (t' := s1.toks) fun b o e => Heap.get?_push_of_some _ e, zaV _ z t, ⟨_, Heap.get?_push_size _ rfl, rfl, rfl⟩, fun b hb => ?_, q⟩
  have e : b = s1.heap.objs.size := by simpa using hb
  subst e
  exact I1.fpOk (Nat.le_refl _) (I1.hok.fresh (Nat.le_refl _))
theorem zbn {z : Str} {g : TG} {tc : TT} {te : TE} {σ0 : St} {H1 : Hp} {D : Addr} {Q : VK} (Pv : Nat -> List V -> St -> Hp -> Prop) (h0 : Pv 0 [] σ0 (upd H1 D (.lst []))) (hn : z.cps.size <= 100000) (hl : ∀ i ys σ H, Pv i ys σ H -> ys.length <= i)
    (hs : ∀ i c ys σ H, z.cps[i]? = some c -> H D = some (.lst ys) -> Pv i ys σ H -> g (.str ⟨#[c]⟩) σ H fun σ2 H2 => tc σ2 H2 fun b H3 =>
      if b = true then te σ2 H3 fun v H4 => H4 D = some (.lst ys) /\ Pv (i + 1) (ys ++ [v]) σ2 (upd H4 D (.lst (ys ++ [v]))) else H3 D = some (.lst ys) /\ Pv (i + 1) ys σ2 H3)
    (hd : ∀ ys σ H, H D = some (.lst ys) -> Pv z.cps.size ys σ H -> Q (.ref D) H) : bO (Its z) D g tc te Q σ0 H1 := by
  refine lD (n := z.cps.size) (item := fun i => .str ⟨#[z.cps.getD i 0]⟩) Pv h0 hn (fun i ys σ H hi p => ⟨hi, fun x H' y => ?_⟩) (fun ys σ H p => Nat.le_refl _) hl (fun i ys σ H hi hD p => ?_) hd
  . obtain ⟨e, c, e1, e2⟩ := y
    refine ⟨e, ?_⟩
    rw [e2, Array.getD_eq_getD_getElem?, e1]; rfl
  . have e : z.cps[i]? = some (z.cps.getD i 0) := by rw [Array.getD_eq_getD_getElem?]; simp [hi]
    exact hs i _ ys σ H e hD p
def Ite (K : W.Frag) (a : Addr) : It :=
  ⟨fun i H => ∃ xs x, SqL K H a xs /\ xs[i]? = some x, fun i H v H' => ∃ T, H T = none /\ v = .ref T /\ ∀ xs, SqL K H a xs -> ∃ x, xs[i]? = some x /\ H' = upd H T (.tup [.int i, x]), fun i H => ∃ xs, SqL K H a xs /\ xs.length <= i⟩
theorem b7 {P : Program} {w : World} {K : W.Frag} {elts : List Expr} {k : Nat} {pos : Pos} (a e it : Addr) (hne : e ≠ it) : xU P w K (.Tuple elts k pos) (Ite K a) [e, it] e (fun i h => (∃ old, IsEnum h e it i old) /\ h.IsListIter it a i) where
  mem := by simp
  obj := fun i h st b hb => by
    obtain ⟨⟨old, he⟩, o, ho, c, d⟩ := st
    rcases List.mem_cons.mp hb with z | z
    . subst z
      exact ⟨_, he, fun v q => by
        have q' : Data.fields _ = Data.cell v := q
        cases q'⟩
    . have z' : b = it := by simpa using z
      subst z'
      exact ⟨o, ho, fun v q => by rw [d] at q; cases q⟩
  keep := fun i h h' st kk => by
    obtain ⟨⟨old, he⟩, hl⟩ := st
    exact ⟨⟨old, kk e (by simp) _ he⟩, hl.at fun o q => kk it (by simp) o q⟩
  item := by
    intro X hP hw hK hc i pins s σ H E I hf st hg
    subst hP hw hK
    obtain ⟨xs, x, hq, hx⟩ := hg
    obtain ⟨⟨old, he⟩, hl⟩ := st
    obtain ⟨its, rv, pl, hz⟩ := I.list hq
    obtain ⟨u, hu, ru⟩ := rv.get hx
    refine wpAny_pyNext_enum_item he hl pl.isList (x := u) (by simpa using hu) hne fun h' eo li tp hsz kk => ?_
    refine ⟨_, rfl, wpAny_letOwnedTupleGo_enum (s := { s with heap := h', toks := s.toks + 1 }) eo fun h2 en sb => ?_⟩
    have hTe : s.heap.objs.size ≠ e := Nat.ne_of_gt (Heap.lt_size he)
    have hs' : h2.get? s.heap.objs.size = some { cls := .type "tuple", data := .seq #[.int i s.toks, u] } := (sb.2 _ hTe).trans tp
    have kp : ∀ b ob, b ∉ [e, it] -> s.heap.get? b = some ob -> h2.get? b = some ob := fun b ob hb q => by
      have h1 : b ≠ e := fun z => hb (by simp [z])
      have h2' : b ≠ it := fun z => hb (by simp [z])
      exact (sb.2 b h1).trans (kk b ob h1 h2' q)
    have I2 : Inv X pins σ (upd H s.heap.objs.size (.tup [.int i, x])) { s with heap := h2, toks := s.toks + 1 } := I.turnLaid (o := .tup [.int i, x]) (t' := s.toks + 1) hf kp (Nat.le_refl _)
      ⟨by show 2 <= sizeLine; rw [sizeLine_eq]; decide, [.int i s.toks, u], .cons ⟨_, rfl⟩ (.cons ru .nil), ⟨_, hs', rfl, _, rfl⟩⟩
    refine ⟨.ref s.heap.objs.size, _, I2, rfl, ⟨_, I.fresh, rfl, fun ys hy => ⟨x, by rw [I.list_inj hy hq]; exact hx, rfl⟩⟩, ⟨⟨_, en⟩, li.extBut sb.extBut (Ne.symm hne)⟩, fun b hb => ?_⟩
    have hlt : b ≠ s.heap.objs.size := by
      obtain ⟨o, ho, _⟩ : ∃ o, s.heap.get? b = some o /\ True := by
        rcases List.mem_cons.mp hb with z | z
        . subst z; exact ⟨_, he, trivial⟩
        . have z' : b = it := by simpa using z
          subst z'
          obtain ⟨o, ho, _⟩ := hl
          exact ⟨o, ho, trivial⟩
      exact Nat.ne_of_lt (Heap.lt_size ho)
    rw [aH hlt]
    exact (hf b hb).1
  done := by
    intro X hP hw hK hc i pins s σ H E I hf st hg
    subst hP hw hK
    obtain ⟨xs, hq, hx⟩ := hg
    obtain ⟨⟨old, he⟩, hl⟩ := st
    obtain ⟨its, rv, pl, hz⟩ := I.list hq
    have dR := rv.length
    exact wpAny_pyNext_enum_end (I.ok.hd hc) he hl pl.isList (by simp; omega) fun h' eb => ⟨rfl, I.turnedL (t' := s.toks) hf fun b ob hb q => eb b ob (fun z => hb (by simp [z])) q⟩
  self := fun A i s Q E st h => by
    obtain ⟨⟨old, he⟩, _⟩ := st
    exact wpAny_pyIter_enum he h
def zoi (K : W.Frag) (ta : TA) : TI := fun σ H R => ta σ H fun vs H1 => ∃ a, vs = [.ref a] /\ (∃ xs, SqL K H1 a xs) /\ R (Ite K a) H1
theorem zdh {X : Cx} {elts : List Expr} {k : Nat} {tpos : Pos} {l : Expr} {ta : TA} {p pos : Pos} (hg : Gl X "enumerate") (hm : X.mg "enumerate" = none) (ha : PA X [l] ta) (hs : starEach [l] X.env = [(false, eval l X.env)] := by rfl) :
    PI X (.Tuple elts k tpos) (.Call (.Name "enumerate" p) [l] [] pos) (zoi X.K ta) := by
  intro pins s σ H R I h
  refine Call_ (kN I hg hm (show bootBuiltins "enumerate" = some (.type "enumerate") by decide +kernel) (PyProof.Rows.callWith_type1 (thn (ha pos pins s σ H _ I h) fun us s1 zz => ?_) hs rfl))
  obtain ⟨vs, H1, I1, r1, q1⟩ := zz
  obtain ⟨a, e, ⟨xs, hq⟩, q⟩ := q1
  subst e
  obtain ⟨u, rfl, ru⟩ := r1.one
  cases ru
  obtain ⟨its, rv, pl, hz⟩ := I1.list hq
  refine call_enumerate_list pl.isList fun h' en li hsz kk => ?_
  have hT : (Shared.mk h' s1.gens s1.drawn s1.toks s1.os).TypeIs (.ref (s1.heap.objs.size + 1)) "enumerate" := ⟨_, en, rfl⟩
  have I2 : Inv X pins σ H1 { s1 with heap := h' } := I1.kept (t' := s1.toks) kk
  have T := b7 (P := X.prog) (w := X.w) (K := X.K) (elts := elts) (k := k) (pos := tpos) a (s1.heap.objs.size + 1) s1.heap.objs.size (Nat.ne_of_gt (Nat.lt_succ_self _))
  refine T.self X.A 0 { s1 with heap := h' } _ _ ⟨⟨_, en⟩, li⟩ ⟨_, _, _, _, H1, rfl, I2, T, ⟨⟨_, en⟩, li⟩, fun b hb => ?_, q⟩
  have hb' : s1.heap.objs.size <= b := by
    rcases List.mem_cons.mp hb with z | z
    . subst z; exact Nat.le_succ _
    . have z' : b = s1.heap.objs.size := by simpa using z
      subst z'; exact Nat.le_refl _
  exact I1.fpOk hb' (I1.hok.fresh hb')
theorem lR {h : Heap} {a : Addr} {m : Str -> Option Value} {o : Obj} (n : h.Ns a m) (e : h.get? a = some o) (v : Option Value) (ev : o.data = .cell v) : False := by
  obtain ⟨o', es, ep, ho, r⟩ := n
  rw [e] at ho
  cases ho
  have hd := r.1
  rw [ev] at hd
  cases hd
section
variable {X : Cx}
theorem zQ {i : Nat} {y : Str} {py spos : Pos} {elt tg iter : Expr} {ifs : List Expr} {scope : Scope} {own fr : List Str} {idx : List Nat} {wi : TI} {g : TG} {tc : TT} {te : TE} {pos : Pos} (hN : X.N.Nodup) (hiy : X.N[i]? = some y) (hly : Loc X.env.scope y) (hc : X.calm = true) (S : aR own fr scope X.env.scope)
    (hi : PI X tg iter wi) (hg : ∀ C s H pins fp, PG (bI X scope C (own ++ fr) s H pins fp) tg g) (ht : ∀ C s H pins fp, PTs (bI X scope C (own ++ fr) s H pins fp) ifs tc) (he : ∀ C s H pins fp, PE (bI X scope C (own ++ fr) s H pins fp) elt te)
    (hix : idx.length = fr.length := by rfl) (hat : ∀ (k : Nat) (x : Str) (j : Nat), fr[k]? = some x -> idx[k]? = some j -> X.N[j]? = some x)
    (hs : ∀ x, foldedSetIterable iter X.env x = pure x := by intro _; rfl) (hf : X.fn y = true \/ X.env.scope.names.lookup y = some .local := by first | exact .inl rfl | exact .inr rfl)
    (hsw : swapsWith (.ListComp elt [⟨tg, iter, ifs, 0⟩] scope pos) (some (.Name y py)) spos.line X.env = pure true := by rfl) : PS X (.Assign [.Name y py] (.ListComp elt [⟨tg, iter, ifs, 0⟩] scope pos) spos) (zkl (yB wi own.length idx g tc te) (aZ i)) := by
  intro pins s σ H Dn I h
  rw [exec_Assign_Name_used _ _ _ _ hsw]
  refine wpAny_bind (wpAny_standAt (wpAny_bind ?_))
  show wpAny _ X.A (do let _ <- comprehension (.ListComp elt [⟨tg, iter, ifs, 0⟩] scope pos) scope X.env _ (newList []) false (eval iter X.env) (some (assign (.Name y py) X.env))) _ _ s
  have mT : closureFor scope X.env = pure (cL X.env scope.names []) := kM fun x hx eO => I.ok.has x.1 (S.outs x hx eO)
  refine wpAny_bind (wpAny_mono (wpAny_comprehension_free (use := some (assign (.Name y py) X.env)) (Q := fun _ s' => SP X pins Dn .next s') rfl hs mT S.kind S.names (thn (hi pins s σ H _ I h) fun v s1 h1 => thn h1 fun itv s2 h2 => ?_)) (fun _ s' hq => wpAny_pure (wpAny_pure hq)) fun _ _ e => e)
  obtain ⟨it, fp, tn, J, H2, e, I2, T, st2, f2, h2⟩ := h2
  subst e
  refine wpAny_newObj_type ?_
  obtain ⟨W, ⟨m0, w0⟩, turn⟩ := h2 s2.heap.objs.size I2.fresh
  have I3 : Inv X pins σ (upd H2 s2.heap.objs.size (.lst [])) { s2 with heap := s2.heap.push { cls := .type "list", data := .seq ([] : List Value).toArray }, toks := s2.toks } := I2.lnew .nil (Nat.zero_le _)
  have fpl : ∀ b ∈ fp, b < s2.heap.objs.size := fun b hb => by
    obtain ⟨o, e, _⟩ := T.obj _ _ st2 b hb
    exact Heap.lt_size e
  have f3 : ∀ b ∈ fp, jK X pins (upd H2 s2.heap.objs.size (.lst [])) b := fun b hb => ⟨by rw [aH (Nat.ne_of_lt (fpl b hb))]; exact (f2 b hb).1, (f2 b hb).2⟩
  generalize hs3 : ({ s2 with heap := s2.heap.push { cls := .type "list", data := .seq ([] : List Value).toArray }, toks := s2.toks } : Shared) = s3 at I3
  have hsz : s3.heap.objs.size = s2.heap.objs.size + 1 := by rw [<- hs3]; exact Heap.size_push _ _
  have st3 : tn 0 s3.heap := T.keep _ _ _ st2 fun b hb o e => by rw [<- hs3]; exact Heap.get?_push_of_some _ e
  refine wpAny_newFunctionEnv S.nocell (by intro y hy; simp at hy) (fun h4 hn4 hsb4 => ?_) S.kind
  have hk4 : ∀ b o, s3.heap.get? b = some o -> h4.get? b = some o := fun b o e => hsb4.extBut b o (Nat.ne_of_lt (Heap.lt_size e)) (Heap.get?_push_of_some _ e)
  have I4 := iT (idx := idx) (tk := s3.toks + ([] : List (Str × Value)).length) S hix hat I3 f3 (fun b hb => by rw [hsz]; exact Nat.lt_succ_of_lt (fpl b hb)) hn4 hk4
  have fpC : ∀ {H' : Hp} (pl : List (Addr × Obj)), (∀ p ∈ pl, ∀ b ∈ fp, p.1 ≠ b) -> (∀ b ∈ fp, H' b = none) -> ∀ b ∈ fp, jK (bI X scope s3.heap.objs.size (own ++ fr) s3 (upd H2 s2.heap.objs.size (.lst [])) pins fp) pl H' b := fun {H'} pl hpl hn b hb => by
    obtain ⟨g0, g1, g2, g3, g4, g5⟩ := f3 b hb
    refine ⟨hn b hb, ?_, fun z => ?_, .inl hb, fun x c e => g4 x c ((dS _ _ x c e).elim id fun z => nomatch z), fun p hp => ?_⟩
    . show b ≠ s3.heap.objs.size
      exact Nat.ne_of_lt (by rw [hsz]; exact Nat.lt_succ_of_lt (fpl b hb))
    . rcases List.mem_cons.mp (I3.stkSub b z) with q | q
      . exact g1 q
      . exact g2 q
    . rcases List.mem_append.mp hp with q | q
      . exact g5 p q
      . exact hpl p q b hb
  have loop : codeAny (model X.prog X.w) X.A (.compLoop (.ListComp elt [⟨tg, iter, ifs, 0⟩] scope pos) 0 (.ref it) (.ref s2.heap.objs.size) (compEnvC scope (cL X.env scope.names []) s3.heap.objs.size X.env))
      (compPost (model X.prog X.w) X.A X.xe (some (assign (.Name y py) X.env)) (fun _ s' => SP X pins Dn .next s') (.ref s2.heap.objs.size) s3.heap.objs.size) { s3 with heap := h4, toks := s3.toks + ([] : List (Str × Value)).length } := by
    refine lH (Y := bI X scope s3.heap.objs.size (own ++ fr) s3 (upd H2 s2.heap.objs.size (.lst [])) pins fp) (W := W) (m0 := m0) hc (hg _ _ _ _ _) (ht _ _ _ _ _) (he _ _ _ _ _) (fun _ _ z => z) T (fun hn => fpC [] (fun _ z => nomatch z) hn) turn (fun s6 σ5 H5 I6 q => ?_) ⟨0, [], _, _, I4, T.keep _ _ _ st3 fun b _ o e => hk4 b o e, fun b hb => (f3 b hb).1, aB, w0⟩
    obtain ⟨m6, hn6, _⟩ := id I6.loc
    have hn6' : s6.heap.Ns s3.heap.objs.size m6 := hn6
    obtain ⟨oC, es, ep, hoC, hrest⟩ := id hn6'
    have I7 : Inv X pins σ H5 s6 := jS (h' := s6.heap) I3 f3 I6 (Heap.SameBut.refl ..)
    have eO : H5 s3.heap.objs.size = none := I6.free
    have I8 : Inv X (pins ++ [(s3.heap.objs.size, oC)]) σ H5 s6 := I7.pins_of fun p hp => (List.mem_append.mp hp).elim (fun z => I7.pin p (List.mem_append_right _ z)) fun z => by
      have e : p = (s3.heap.objs.size, oC) := List.mem_singleton.mp z
      subst e
      exact ⟨hoC, eO, Nat.ne_of_gt I3.lt, I3.nofs (Nat.le_refl _), fun v ev => lR hn6' hoC v ev⟩
    refine thn (aO (pos := py) hN hiy hly hf _ s6 σ H5 (.ref s2.heap.objs.size) (.ref s2.heap.objs.size) _ I8 rfl q) fun _ s9 zz => ?_
    obtain ⟨σ9, H9, I9, q9⟩ := zz
    have hp9 := I9.pin (s3.heap.objs.size, oC) (List.mem_append_right _ (List.mem_append_right _ (List.mem_singleton.mpr rfl)))
    refine ⟨m6, hn6'.at' fun o e => ?_, fun h' hsb => ?_⟩
    . rw [hoC] at e
      cases e
      exact hp9.1
    . refine ⟨σ9, H9, I9.unpinned.turnedL (ch := [s3.heap.objs.size]) (t' := s9.toks) (fun b hb => ?_) fun b ob hb e => ?_, q9⟩
      . rw [List.mem_singleton.mp hb]
        exact I3.fpOk (Nat.le_refl _) hp9.2.1
      . exact hsb.extBut b ob (fun z => hb (List.mem_singleton.mpr z)) e
  exact codeAny_compStart_list loop (T.self _ 0 _ _ _ (T.keep _ _ _ st3 fun b _ o e => hk4 b o e) loop)
end
section
variable {prog : Program} {w : World} {A : Around} {E : Value -> Shared -> Prop}
end
section
variable {X : Cx} {pos : Pos}
theorem uK : ∀ bs : List Bool, (List.range bs.length).all (fun i => bs.getD i true) = bs.all id
  | [] => rfl
  | b :: r => by
    rw [List.length_cons, List.range_succ_eq_map, List.all_cons, List.all_map, List.all_cons]
    have ih := uK r
    have e : ((fun i => (b :: r).getD i true) ∘ Nat.succ) = fun i => r.getD i true := by
      funext i
      simp
    rw [e, ih]
    rfl
theorem lI (hc : X.calm = true) : fD X (.builtin "all") (fun xs H Q => ∃ (p : Addr) (bs : List Bool), xs = [.ref p] /\ SqL X.K H p (bs.map V.bl) /\ Q (.bl (bs.all id)) H) := by
  intro pins s σ H xs us Q I r h
  obtain ⟨p, bs, rfl, hq, q⟩ := h
  obtain ⟨u, rfl, ru⟩ := r.one
  cases ru
  obtain ⟨its, rv, pl, hz⟩ := I.list hq
  have hp : p < s.heap.objs.size := by
    obtain ⟨o, ho, _⟩ := pl.isList
    exact Heap.lt_size ho
  have dR : its.toArray.size = bs.length := by rw [List.size_toArray, <- rv.length, List.length_map]
  refine call_all_walk (wpAny_pyIter_list pl.isList ⟨s.heap.objs.size, _, _, its.toArray.size, _, _, fun i => bs.getD i true, rfl, Walks.list (show X.A.in1.handled = none from I.ok.hd hc) _ p (Nat.ne_of_lt hp) its.toArray, ⟨⟨_, Heap.get?_push_size _ rfl, rfl, rfl⟩, pl.isList.push _⟩, ?_, ?_⟩)
  . intro i v s' Q' E' hP hQ'
    have hv : its[i]? = some v := by simpa using hP
    have hi : i < its.length := (List.getElem?_eq_some_iff.mp hv).1
    have hi2 : i < bs.length := by rw [<- dR]; simpa using hi
    obtain ⟨u, hu, ru⟩ := rv.get (i := i) (x := V.bl bs[i]) (by rw [List.getElem?_map, List.getElem?_eq_getElem hi2]; rfl)
    rw [hv] at hu
    cases hu
    have e : v = Value.bool bs[i] := ru
    subst e
    refine wpAny_truthy_bool ?_
    have e2 : bs.getD i true = bs[i] := by rw [List.getD_eq_getElem?_getD, List.getElem?_eq_getElem hi2]; rfl
    have hQ2 : Q' (bs.getD i true) s' := hQ'
    rw [e2] at hQ2
    exact hQ2
  . intro h' tk hk
    have I1 : Inv X pins σ H { s with heap := h', toks := tk } := I.kept fun b o e => hk b o (fun z => by
      have z' : b = s.heap.objs.size := by simpa using z
      exact absurd (Heap.lt_size e) (by rw [z']; exact Nat.lt_irrefl _)) (Heap.get?_push_of_some _ e)
    have e : (List.range its.toArray.size).all (fun i => bs.getD i true) = bs.all id := by
      rw [dR]
      exact uK bs
    exact ⟨.bl (bs.all id), H, I1, by rw [e]; rfl, q⟩
end
section
variable {X : Cx}
theorem mK : ∀ {zs : List Str} {us : List Value}, cA (zs.map V.str) us -> StrsAre us zs
  | [], _, .nil => .nil
  | _ :: _, _, .cons ⟨t, e⟩ r => by
    subst e
    exact .cons _ t (mK r)
theorem qK {us : List Value} {zs : List Str} (h : StrsAre us zs) : cA (zs.map V.str) us := by
  induction h with
  | nil => exact .nil
  | cons _ t r ih => exact .cons ⟨t, rfl⟩ ih
theorem kO : fD X (.builtin "sorted") (fun xs H Q => ∃ p zs, xs = [.ref p] /\ SqL X.K H p (zs.map V.str) /\ zs.length < 64 /\ ∀ l zs', H l = none -> zs'.Perm zs -> sortedS zs' = true -> Q (.ref l) (upd H l (.lst (zs'.map V.str)))) := by
  intro pins s σ H xs us Q I r h
  obtain ⟨p, zs, rfl, hq, hz, q⟩ := h
  obtain ⟨u, rfl, rx⟩ := kZ r
  cases rx
  obtain ⟨its, r', pl, hz'⟩ := I.list hq
  have dR := r'.length
  rw [List.length_map] at dR
  refine sorted_strs pl.isList (mK r') (by omega) fun out ss' a1 a2 a3 => ?_
  obtain ⟨e, he⟩ := sortedAll_at s.heap its out
  refine ⟨.ref (s.heap.objs.size + 1), _, I.laid (t' := s.toks) (fun _ _ => sortedAll_old) (Nat.le_succ _) (show cJ X.prog X.w _ _ _ (.lst (ss'.map V.str)) from ⟨?_, out.toList, e, qK a1, he⟩), rfl, q _ _ (I.hok.fresh (Nat.le_succ _)) a2 a3⟩
  rw [List.length_map, a2.length_eq]
  rw [List.length_map] at hz'
  exact hz'
end
section
variable {M : Model} {A : Around} {E : Value -> Shared -> Prop} {s : Shared}
theorem qS {src : Source} {n : Nat} {Q : Nat -> Shared -> Prop} (hn : n ≠ 0) (h : ∀ i, i < n -> ∀ d, Q i { s with drawn := d }) : wpAny M A (choose src n) Q E s := by
  intro Γ p hc
  exact ⟨hn, h _ (Nat.mod_lt _ (Nat.pos_of_ne_zero hn)) _⟩
theorem iK {α : Type} : ∀ (l : List α) (i : Nat) (h : i < l.length), (l[i] :: l.eraseIdx i).Perm l
  | _ :: _, 0, _ => .refl _
  | x :: xs, i + 1, h => by
    simp only [List.getElem_cons_succ, List.eraseIdx_cons_succ]
    exact (List.Perm.swap x _ _).trans (.cons x (iK xs i (by simpa using h)))
theorem iN {α : Type} : ∀ (n : Nat) (xs : List α) {Q : List α -> Shared -> Prop} {s : Shared}, n = xs.length -> (∀ ys d, ys.Perm xs -> Q ys { s with drawn := d }) -> wpAny M A (drawOrder n xs) Q E s
  | 0, xs, Q, s, e, h => by
    have : xs = [] := List.length_eq_zero_iff.mp e.symm
    subst this
    exact wpAny_pure (h [] s.drawn .nil)
  | n + 1, [], Q, s, e, h => by cases e
  | n + 1, x :: xs, Q, s, e, h => by
    refine wpAny_bind (qS (by simp) fun i hi d => ?_)
    have hg : (x :: xs)[i]? = some ((x :: xs)[i]) := List.getElem?_eq_getElem hi
    rw [hg]
    refine wpAny_bind (iN n _ (by rw [List.length_eraseIdx_of_lt hi]; simp at e ⊢; omega) fun ys d' hp => wpAny_pure (h _ _ ?_))
    exact (List.Perm.cons _ hp).trans (iK _ _ hi)
end
section
variable {P : Program} {w : World} {A : Around} {E : Value -> Shared -> Prop} {s : Shared}
def zqj (P : Program) (w : World) (led : Bool) (h : Heap) (a : Addr) (zs : List Str) : Prop :=
  ∃ o es ep t, h.get? a = some o /\ o.ExactSet /\ o.data = .set es ep t /\ ElemsOf (bH P w) es.toList /\ (∃ us : List Value, (es.toList.map (·.2)).Perm us /\ StrsAre us zs) /\ zs.Nodup
    /\ es.size < scanBound /\ t.fits es.size = true /\ t.led = led /\ (1 <= es.size -> t.plain = false)
theorem lN : ∀ {us : List Value} {zs : List Str}, StrsAre us zs -> us.length = zs.length
  | _, _, .nil => rfl
  | _, _, .cons _ _ r => congrArg (· + 1) (lN r)
end
abbrev mW (w : World) : Bool := !(w.params.followText "set-order")
abbrev pH (w : World) : Obj := { cls := .type "set", dict := none, data := .set #[] 0 (.fresh 0 0 (mW w)) }
section
variable {P : Program} {w : World} {A : Around} {E : Value -> Shared -> Prop} {s : Shared}
theorem jC {rest : List Value} {Q₁ : Value -> Shared -> Prop} (hc : checkBuiltinCall "set.__new__" ⟨.type "set" :: rest, []⟩ = pure ())
    (h : Q₁ (.ref s.heap.objs.size) { s with heap := s.heap.push (pH w) }) : codeAny (model P w) A (.call (.builtin "set.__new__") ⟨.type "set" :: rest, []⟩) (wants Q₁ E) s := by
  refine codeAny_of_tree (show wpAny _ A.in1 (do checkBuiltinCall "set.__new__" ⟨.type "set" :: rest, []⟩; again (.builtin "set.__new__" ⟨.type "set" :: rest, []⟩)) _ _ s from ?_)
  refine wpAny_bind (wpAny_of_eq hc (wpAny_pure ⟨plainId_quiet PySem.F.plain_set_new _, codeAny_builtin PySem.F.entry_set_new ?_⟩))
  rw [PySem.Around.under_plainId PySem.F.plain_set_new _]
  have zly := PySem.sub_set_self
  obtain ⟨hp, g, d, tk, os⟩ := s
  unfold Builtin.«set.__new__»
  unfold Builtin.Frozenset.newClass
  dsimp only
  wp_walk
  refine wpAny_askSetting (wpAny_pure ?_)
  simp only [newObj]
  exact wpAny_bind (wpAny_alloc (wpAny_pure (wpAny_pure h)))
def eQ (l : List Str) : List Str := l.foldl (fun σ v => if v ∈ σ then σ else σ ++ [v]) []
theorem rV : ∀ (l σ : List Str), (l.foldl (fun σ v => if v ∈ σ then σ else σ ++ [v]) σ).length <= σ.length + l.length
  | [], _ => Nat.le_refl _
  | v :: l, σ => by
    rw [List.foldl_cons, List.length_cons]
    refine Nat.le_trans (rV l _) ?_
    split
    . omega
    . rw [List.length_append, List.length_singleton]; omega
theorem rS (l : List Str) : (eQ l).length <= l.length := by
  have q := rV l []
  rw [List.length_nil, Nat.zero_add] at q
  exact q
variable {R : Result -> Shared -> Prop} {I : Addr} {fp wr : List Addr} {G : Array GenState -> Array GenState -> Prop} {n : Nat} {Pv : Nat -> Value -> Prop} {St : Nat -> Shared -> Prop}
end
section
variable {P : Program} {w : World} {A : Around} {E : Value -> Shared -> Prop} {s : Shared}
end
namespace F
theorem entry_set_iter : entryFor table "set.__iter__" = some Builtin.«frozenset.__iter__» := entryFor_alias (id' := "frozenset.__iter__") (by kernel_rfl) (by first | rfl | decide +kernel) (by decide +kernel) (by kernel_rfl)
theorem slot_setit_next : Slot "set_iterator" "__next__" "set_iterator.__next__" :=
  .of (owner := "set_iterator") (n := "__next__") (by rw [typeLookup_type, builtinLookup_eq_fast]; kernel_rfl) (by decide +kernel) (by decide +kernel) (by decide +kernel)
    (by first | exact .inl (by decide +kernel) | exact .inr (by decide +kernel)) (by rw [isSubtype_type]; kernel_rfl)
theorem entry_setit_next : entryFor table "set_iterator.__next__" = some Builtin.«set_iterator.__next__» := entryFor_of_tree (by kernel_rfl)
theorem args_setit_next (a : Value) : argsOk "set_iterator.__next__" ⟨[a], []⟩ := by unfold argsOk; kernel_rfl
end F
section
variable {P : Program} {w : World} {A : Around} {E : Value -> Shared -> Prop} {s : Shared}
abbrev iA (f : Value) (i : Nat) (S : Addr) (n ep : Nat) : Obj := { cls := .type "set_iterator", data := .fields #[f, rawInt i, .ref S, rawInt n, rawInt ep] }
theorem zav {S : Addr} {o : Obj} {es : Array (Int × Value)} {ep : Nat} {t : SetTable} {Q : Bool -> Shared -> Prop} (ho : s.heap.get? S = some o) (hd : o.data = .set es ep t) (hf : t.fits es.size = true)
    (h : Q (!(w.params.followText "set-order") && (!t.plain && decide (es.size > 1))) s) : wpAny (model P w) A (setDrawn S) Q E s := by
  unfold setDrawn
  refine wpAny_bind (wpAny_setState_of ho hd hf ?_)
  refine wpAny_bind (wpAny_bind (wpAny_askSetting (wpAny_pure ?_)))
  exact wpAny_pure h
theorem zaN {S : Addr} {o : Obj} {es : Array (Int × Value)} {ep : Nat} {t : SetTable} {Q : Value -> Shared -> Prop} (ho : s.heap.get? S = some o) (hex : o.ExactSet) (hd : o.data = .set es ep t) (hf : t.fits es.size = true) (hb : es.size < scanBound)
    (h1 : (!(w.params.followText "set-order") && (!t.plain && decide (es.size > 1))) = false -> Q (.ref s.heap.objs.size) { s with heap := s.heap.push (iA (rawInt 0) 0 S es.size ep) })
    (h2 : (!(w.params.followText "set-order") && (!t.plain && decide (es.size > 1))) = true -> ∀ (ps : List Nat) (d : Drawn), ps.Perm (List.range es.size) ->
      Q (.ref (s.heap.objs.size + 1)) { s with drawn := d, heap := (s.heap.push { cls := .type "tuple", data := .seq (ps.map fun i : Nat => rawInt i).toArray }).push (iA (.ref s.heap.objs.size) 0 S es.size ep) }) :
    wpAny (model P w) A (pyIter (.ref S)) Q E s := by
  have hT : s.TypeIs (.ref S) "set" := ⟨o, ho, hex.1⟩
  refine wpAny_pyIter_slot hT PySem.F.slot_set_iter (wpAny_call_entry PySem.F.slot_set_iter hT F.entry_set_iter ?_ (PySem.F.args_set_iter_1 _))
  unfold Builtin.«frozenset.__iter__»
  refine wpAny_bind (show wpAny _ _ (pure S) _ _ _ from wpAny_pure ?_)
  refine wpAny_bind (show wpAny _ _ (setEntries S >>= fun e => pure e.size) _ _ _ from wpAny_bind (show wpAny _ _ (setState S >>= fun e => pure e.1) _ _ _ from wpAny_bind (wpAny_setState_of ho hd hf (wpAny_pure (wpAny_pure ?_)))))
  refine wpAny_bind (zav ho hd hf ?_)
  cases hq : (!(w.params.followText "set-order") && (!t.plain && decide (es.size > 1)))
  . rw [if_neg (fun z => nomatch z)]
    refine wpAny_bind (wpAny_pure (wpAny_bind (wpAny_setEpoch_of ho hd hf ?_)))
    exact wpAny_bind (wpAny_newObj_type (wpAny_pure ⟨_, rfl, "set_iterator", _, ⟨_, Heap.get?_push_size _ rfl, rfl⟩, F.slot_setit_next.lookup, h1 hq⟩))
  . rw [if_pos rfl]
    refine wpAny_bind (iN _ _ (by rw [List.length_range]) fun ps d hp => ?_)
    have hz : (ps.map fun i : Nat => rawInt i).length <= sizeLine := by
      rw [List.length_map, hp.length_eq, List.length_range]
      exact fits_of_scanBound hb
    refine wpAny_bind (wpAny_newTuple (wpAny_bind (wpAny_setEpoch_of (Heap.get?_push_of_some _ ho) hd hf ?_)) hz)
    refine wpAny_bind (wpAny_newObj_type (wpAny_pure ⟨_, rfl, "set_iterator", _, ⟨_, Heap.get?_push_size _ rfl, rfl⟩, F.slot_setit_next.lookup, ?_⟩))
    have e : (s.heap.push { cls := .type "tuple", data := .seq (ps.map fun i : Nat => rawInt i).toArray }).objs.size = s.heap.objs.size + 1 := Heap.size_push _ _
    rw [e]
    exact h2 hq ps d hp
end
end L2
namespace L2
open PySem PySem.Spec PyProof.Rows
section
variable {P : Program} {w : World} {A : Around} {E : Value -> Shared -> Prop} {s : Shared} {I S T : Addr} {i ep : Nat} {es : Array (Int × Value)} {t : SetTable} {o : Obj}
theorem fM {Q : Array (Int × Value) -> Shared -> Prop} (ho : s.heap.get? S = some o) (hd : o.data = .set es ep t) (hf : t.fits es.size = true) (h : Q es s) : wpAny (model P w) A (setEntries S) Q E s := by
  unfold setEntries
  exact wpAny_bind (wpAny_setState_of ho hd hf (wpAny_pure h))
theorem wK {places : Array Value} {p : Nat} {pk : Tok} {hx : Int} {x : Value} {n : Nat} {Q : Option Value -> Shared -> Prop} (hit : s.heap.get? I = some (iA (.ref T) i S es.size ep)) (ho : s.heap.get? S = some o) (hd : o.data = .set es ep t) (hf : t.fits es.size = true)
    (hT : s.heap.get? T = some { cls := .type "tuple", data := .seq places n }) (hp : places[i]? = some (.int p pk)) (he : es[p]? = some (hx, x))
    (h : ∀ h', h'.get? I = some (iA (.ref T) (i + 1) S es.size ep) -> Heap.SameBut I s.heap h' -> Q (some x) { s with heap := h' }) : wpAny (model P w) A (pyNext (.ref I)) Q E s := by
  have hTy : s.TypeIs (.ref I) "set_iterator" := ⟨_, hit, rfl⟩
  unfold pyNext
  refine wpAny_bind (wpAny_attempt (wpAny_callSpecial?_slot (name := Str.ofString "__next__") hTy F.slot_setit_next (wpAny_call_entry F.slot_setit_next hTy F.entry_setit_next ?_ (F.args_setit_next _))))
  unfold Builtin.«set_iterator.__next__»
  refine wpAny_bind (wpAny_pure (wpAny_bind (show wpAny _ _ (fieldsOf (.ref I)) _ _ _ from wpAny_fieldsOf hit rfl ?_)))
  refine (show wpAny _ _ (setEntries S >>= _) _ _ _ from wpAny_bind (fM ho hd hf ?_))
  rw [if_neg (by simp)]
  refine (show wpAny _ _ (seqItems? (.ref T) >>= _) _ _ _ from wpAny_bind (wpAny_seqItems hT rfl ?_))
  simp only [Int.toNat_natCast, hp]
  refine wpAny_bind (show wpAny _ _ (setState S >>= _) _ _ _ from wpAny_bind (wpAny_setState_of ho hd hf ?_))
  dsimp only
  rw [if_neg (by simp), he]
  exact wpAny_pure (wpAny_bind (wpAny_setField hit rfl (by simp) (wpAny_pure ⟨x, rfl, wpAny_pure (h _ (Heap.get?_update_self _ hit rfl) (Heap.SameBut.update ..))⟩)))
theorem mX {places : Array Value} {n : Nat} {Q : Option Value -> Shared -> Prop} (hh : A.handled = none) (hit : s.heap.get? I = some (iA (.ref T) i S es.size ep)) (ho : s.heap.get? S = some o) (hd : o.data = .set es ep t) (hf : t.fits es.size = true)
    (hT : s.heap.get? T = some { cls := .type "tuple", data := .seq places n }) (hp : places[i]? = none)
    (h : ∀ h', Heap.ExtBut I s.heap h' -> Q none { s with heap := h' }) : wpAny (model P w) A (pyNext (.ref I)) Q E s := by
  have hTy : s.TypeIs (.ref I) "set_iterator" := ⟨_, hit, rfl⟩
  unfold pyNext
  refine wpAny_bind (wpAny_attempt (wpAny_callSpecial?_slot (name := Str.ofString "__next__") hTy F.slot_setit_next (wpAny_call_entry F.slot_setit_next hTy F.entry_setit_next ?_ (F.args_setit_next _))))
  unfold Builtin.«set_iterator.__next__»
  refine wpAny_bind (wpAny_pure (wpAny_bind (show wpAny _ _ (fieldsOf (.ref I)) _ _ _ from wpAny_fieldsOf hit rfl ?_)))
  refine (show wpAny _ _ (setEntries S >>= _) _ _ _ from wpAny_bind (fM ho hd hf ?_))
  rw [if_neg (by simp)]
  refine (show wpAny _ _ (seqItems? (.ref T) >>= _) _ _ _ from wpAny_bind (wpAny_seqItems hT rfl ?_))
  simp only [Int.toNat_natCast, hp]
  refine wpAny_bind (wpAny_setField hit rfl (by simp) (wpAny_bind (wpAny_setField (Heap.get?_update_self _ hit rfl) rfl (by simp) ?_)))
  refine (show wpAny _ _ (newExc (.type "StopIteration") [] >>= _) _ _ _ from wpAny_bind ?_)
  simp only [newExc, newTuple]
  refine wpAny_bind (wpAny_newObj_type (wpAny_bind (m := firstArgMember _ _) (wpAny_of_eq (a := Value.none) (by first | rfl | (simp only [firstArgMember]; rfl)) (wpAny_newObj_type ?_ (by size_fits)))) (by size_fits))
  simp only [raiseNew]
  refine wpAny_bind (wpAny_handled ?_)
  rw [show A.in1.handled = none from hh]
  refine wpAny_bind (wpAny_pure (wpAny_throw ?_))
  refine wpAny_bind (wpAny_isInstance (T := "StopIteration") (b := true) ⟨_, Heap.get?_push_size _ rfl, rfl⟩ isSubtype_stop ?_)
  refine wpAny_pure (h _ ?_)
  exact ((((Heap.SameBut.update ..).trans (Heap.SameBut.update ..)).extBut.push _).push _)
def Nxt (P : Program) (w : World) (o : Obj) (S : Addr) (sl i ep : Nat) (r : Option (Value × Nat)) : Prop :=
  ∀ (A : Around) (E : Value -> Shared -> Prop) (s : Shared) (Q : Option (Value × Nat) -> Shared -> Prop), s.heap.get? S = some o -> Q r s -> wpAny (model P w) A (setNext S sl i ep) Q E s
theorem zaQ {sl sl' : Nat} {x : Value} {Q : Option Value -> Shared -> Prop} (hit : s.heap.get? I = some (iA (rawInt sl) i S es.size ep)) (ho : s.heap.get? S = some o) (hd : o.data = .set es ep t) (hf : t.fits es.size = true)
    (hx : Nxt P w o S sl i ep (some (x, sl')))
    (h : ∀ h', h'.get? I = some (iA (rawInt sl') (i + 1) S es.size ep) -> Heap.SameBut I s.heap h' -> Q (some x) { s with heap := h' }) : wpAny (model P w) A (pyNext (.ref I)) Q E s := by
  have hTy : s.TypeIs (.ref I) "set_iterator" := ⟨_, hit, rfl⟩
  unfold pyNext
  refine wpAny_bind (wpAny_attempt (wpAny_callSpecial?_slot (name := Str.ofString "__next__") hTy F.slot_setit_next (wpAny_call_entry F.slot_setit_next hTy F.entry_setit_next ?_ (F.args_setit_next _))))
  unfold Builtin.«set_iterator.__next__»
  refine wpAny_bind (wpAny_pure (wpAny_bind (show wpAny _ _ (fieldsOf (.ref I)) _ _ _ from wpAny_fieldsOf hit rfl ?_)))
  refine (show wpAny _ _ (setEntries S >>= _) _ _ _ from wpAny_bind (fM ho hd hf ?_))
  rw [if_neg (by simp)]
  refine (show wpAny _ _ (setNext S (Int.toNat sl) (Int.toNat i) (Int.toNat ep) >>= _) _ _ _ from wpAny_bind ?_)
  rw [Int.toNat_natCast, Int.toNat_natCast, Int.toNat_natCast]
  refine hx _ _ _ _ ho ?_
  refine wpAny_bind (wpAny_setField hit rfl (by simp) (wpAny_bind (wpAny_setField (Heap.get?_update_self _ hit rfl) rfl (by simp) (wpAny_pure ⟨x, rfl, wpAny_pure (h _ (Heap.get?_update_self _ (Heap.get?_update_self _ hit rfl) rfl) ((Heap.SameBut.update ..).trans (Heap.SameBut.update ..)))⟩))))
theorem qG {sl : Nat} {Q : Option Value -> Shared -> Prop} (hh : A.handled = none) (hit : s.heap.get? I = some (iA (rawInt sl) i S es.size ep)) (ho : s.heap.get? S = some o) (hd : o.data = .set es ep t) (hf : t.fits es.size = true)
    (hx : Nxt P w o S sl i ep none) (h : ∀ h', Heap.ExtBut I s.heap h' -> Q none { s with heap := h' }) : wpAny (model P w) A (pyNext (.ref I)) Q E s := by
  have hTy : s.TypeIs (.ref I) "set_iterator" := ⟨_, hit, rfl⟩
  unfold pyNext
  refine wpAny_bind (wpAny_attempt (wpAny_callSpecial?_slot (name := Str.ofString "__next__") hTy F.slot_setit_next (wpAny_call_entry F.slot_setit_next hTy F.entry_setit_next ?_ (F.args_setit_next _))))
  unfold Builtin.«set_iterator.__next__»
  refine wpAny_bind (wpAny_pure (wpAny_bind (show wpAny _ _ (fieldsOf (.ref I)) _ _ _ from wpAny_fieldsOf hit rfl ?_)))
  refine (show wpAny _ _ (setEntries S >>= _) _ _ _ from wpAny_bind (fM ho hd hf ?_))
  rw [if_neg (by simp)]
  refine (show wpAny _ _ (setNext S (Int.toNat sl) (Int.toNat i) (Int.toNat ep) >>= _) _ _ _ from wpAny_bind ?_)
  rw [Int.toNat_natCast, Int.toNat_natCast, Int.toNat_natCast]
  refine hx _ _ _ _ ho ?_
  refine wpAny_bind (wpAny_setField hit rfl (by simp) ?_)
  refine (show wpAny _ _ (newExc (.type "StopIteration") [] >>= _) _ _ _ from wpAny_bind ?_)
  simp only [newExc, newTuple]
  refine wpAny_bind (wpAny_newObj_type (wpAny_bind (m := firstArgMember _ _) (wpAny_of_eq (a := Value.none) (by first | rfl | (simp only [firstArgMember]; rfl)) (wpAny_newObj_type ?_ (by size_fits)))) (by size_fits))
  simp only [raiseNew]
  refine wpAny_bind (wpAny_handled ?_)
  rw [show A.in1.handled = none from hh]
  refine wpAny_bind (wpAny_pure (wpAny_throw ?_))
  refine wpAny_bind (wpAny_isInstance (T := "StopIteration") (b := true) ⟨_, Heap.get?_push_size _ rfl, rfl⟩ isSubtype_stop ?_)
  refine wpAny_pure (h _ ?_)
  exact (((Heap.SameBut.update ..).extBut.push _).push _)
end
theorem j9 {α : Type} (f : Nat -> Nat) : ∀ (fuel k : Nat) (left : List α) (out : Array α), left.length = fuel -> (pickOrder.go f fuel k left out).toList.Perm (out.toList ++ left)
  | 0, _, left, out, e => by
    obtain rfl : left = [] := List.length_eq_zero_iff.mp e
    rw [List.append_nil]
    exact .refl _
  | fuel + 1, k, left, out, e => by
    have hi : f k % left.length < left.length := Nat.mod_lt _ (by omega)
    unfold pickOrder.go
    rw [List.getElem?_eq_getElem hi]
    refine (j9 f fuel (k + 1) _ _ (by rw [List.length_eraseIdx_of_lt hi]; omega)).trans ?_
    rw [Array.toList_push, List.append_assoc]
    exact List.Perm.append_left _ (iK left _ hi)
theorem i6 {α : Type} (f : Nat -> Nat) (xs : Array α) : (pickOrder f xs).toList.Perm xs.toList := by
  have q := j9 f xs.size 0 xs.toList #[] (by rw [Array.length_toList])
  exact q
section
variable {P : Program} {w : World} {A : Around} {E : Value -> Shared -> Prop} {s : Shared} {I S T : Addr} {i ep : Nat} {es : Array (Int × Value)} {t : SetTable} {o : Obj}
theorem tW {sl i : Nat} (hw : w.params.followText "set-order" = true) (hd : o.data = .set es ep t) (hf : t.fits es.size = true) :
    Nxt P w o S sl i ep (((pickOrder (w.params.setOrder S ep) es)[i]?).map fun e => (e.2, sl)) := by
  intro A E s Q ho q
  unfold setNext
  refine wpAny_bind (wpAny_setState_of ho hd hf ?_)
  refine wpAny_bind (show wpAny _ _ (ask >>= fun a => pure (a.params.followText "set-order")) _ _ _ from wpAny_bind (wpAny_askSetting (wpAny_pure ?_)))
  dsimp only
  rw [if_pos (show (model P w).w.params.followText "set-order" = true from hw), if_neg (by simp)]
  refine wpAny_bind ?_
  unfold setWalk
  refine wpAny_bind (wpAny_setState_of ho hd hf ?_)
  refine wpAny_bind (show wpAny _ _ (ask >>= fun a => pure (a.params.followText "set-order")) _ _ _ from wpAny_bind (wpAny_askSetting (wpAny_pure ?_)))
  rw [if_pos (show (model P w).w.params.followText "set-order" = true from hw)]
  refine wpAny_bind (wpAny_askSetting (wpAny_pure ?_))
  exact wpAny_pure q
structure Led (P : Program) (w : World) (o : Obj) (S : Addr) (ep : Nat) (us : List Value) (sl : Nat -> Nat) : Prop where
  item : ∀ i x, us[i]? = some x -> Nxt P w o S (sl i) i ep (some (x, sl (i + 1)))
  stop : Nxt P w o S (sl us.length) us.length ep none
  zero : sl 0 = 0
theorem zaA (hw : w.params.followText "set-order" = true) (hd : o.data = .set es ep t) (hf : t.fits es.size = true) : Led P w o S ep ((pickOrder (w.params.setOrder S ep) es).toList.map (·.2)) (fun _ => 0) where
  item := fun i x e => by
    have q := tW (P := P) (S := S) (sl := 0) (i := i) hw hd hf
    rw [List.getElem?_map, Array.getElem?_toList] at e
    obtain ⟨y, e1, rfl⟩ := Option.map_eq_some_iff.mp e
    rw [e1] at q
    exact q
  stop := by
    have q := tW (P := P) (S := S) (sl := 0) (i := ((pickOrder (w.params.setOrder S ep) es).toList.map (·.2)).length) hw hd hf
    rw [Array.getElem?_eq_none (by rw [List.length_map, Array.length_toList]; exact Nat.le_refl _)] at q
    exact q
  zero := rfl
theorem iH : Slot "set_iterator" "__iter__" "set_iterator.__iter__" :=
  .of (owner := "set_iterator") (n := "__iter__") (by rw [typeLookup_type, builtinLookup_eq_fast]; kernel_rfl) (by decide +kernel) (by decide +kernel) (by decide +kernel) (by first | exact .inl (by decide +kernel) | exact .inr (by decide +kernel)) (by rw [isSubtype_type]; kernel_rfl)
theorem kY : entryFor table "set_iterator.__iter__" = some Builtin.«dict_keyiterator.__iter__» := entryFor_alias (id' := "dict_keyiterator.__iter__") (by kernel_rfl) (by first | rfl | decide +kernel) (by decide +kernel) (by kernel_rfl)
theorem mE (a : Value) : argsOk "set_iterator.__iter__" ⟨[a], []⟩ := by unfold argsOk; kernel_rfl
theorem oE {f : Value} {n : Nat} {Q : Value -> Shared -> Prop} (hit : s.heap.get? I = some (iA f i S n ep)) (h : Q (.ref I) s) : wpAny (model P w) A (pyIter (.ref I)) Q E s := by
  have hTy : s.TypeIs (.ref I) "set_iterator" := ⟨_, hit, rfl⟩
  refine wpAny_pyIter_slot hTy iH (wpAny_call_entry iH hTy kY ?_ (mE _))
  exact (show wpAny _ _ (ret (.ref I)) _ _ s from wpAny_pure ⟨_, rfl, "set_iterator", _, hTy, F.slot_setit_next.lookup, h⟩)
theorem zaL {us : List Value} {sl : Nat -> Nat} (L : Led P w o S ep us sl) (hh : A.handled = none) (hd : o.data = .set es ep t) (hf : t.fits es.size = true) (hne : S ≠ I) :
    WalksS P w A I [I, S] [I] (fun a b => b = a) us.length (fun i v => us[i]? = some v) (fun i s => s.heap.get? I = some (iA (rawInt (sl i)) i S es.size ep) /\ s.heap.get? S = some o) where
  sub := fun b hb => by simp at hb; simp [hb]
  grefl := fun _ => rfl
  gtrans := fun _ _ _ h1 h2 => h2.trans h1
  frame := fun i s h' tk st _ k => ⟨k I (by simp) _ st.1, k S (by simp) _ st.2⟩
  item := fun i s Q E hi st hQ => by
    have e : us[i]? = some us[i] := List.getElem?_eq_getElem hi
    refine zaQ st.1 st.2 hd hf (L.item i _ e) fun h' a b => hQ _ _ e ⟨a, (b.2 S hne).trans st.2⟩ ⟨fun c o' hc e' => ?_, rfl, rfl, rfl, Nat.le_refl _⟩
    exact (b.2 c fun z => hc (by simp [z])).trans e'
  done := fun s Q E st hQ => qG hh st.1 st.2 hd hf L.stop fun h' a => hQ _ ⟨fun c o' hc e' => a c o' (fun z => hc (by simp [z])) e', rfl, rfl, rfl, Nat.le_refl _⟩
  self := fun i s Q E st hQ => oE st.1 hQ
theorem wX {places : List Nat} {n : Nat} (hh : A.handled = none) (hd : o.data = .set es ep t) (hf : t.fits es.size = true) (hp : places.Perm (List.range es.size)) (hne : S ≠ I) (hTn : T ≠ I) :
    WalksS P w A I [I, S, T] [I] (fun a b => b = a) places.length (fun i v => (places.map fun p => (es.toList.map (·.2)).getD p .none)[i]? = some v)
      (fun i s => s.heap.get? I = some (iA (.ref T) i S es.size ep) /\ s.heap.get? S = some o /\ s.heap.get? T = some { cls := .type "tuple", data := .seq (places.map fun i : Nat => rawInt i).toArray n }) where
  sub := fun b hb => by simp at hb; simp [hb]
  grefl := fun _ => rfl
  gtrans := fun _ _ _ h1 h2 => h2.trans h1
  frame := fun i s h' tk st _ k => ⟨k I (by simp) _ st.1, k S (by simp) _ st.2.1, k T (by simp) _ st.2.2⟩
  item := fun i s Q E hi st hQ => by
    have e : places[i]? = some places[i] := List.getElem?_eq_getElem hi
    have hlt : places[i] < es.size := List.mem_range.mp (hp.mem_iff.mp (List.getElem_mem hi))
    have e2 : es[places[i]]? = some (es[places[i]].1, es[places[i]].2) := Array.getElem?_eq_getElem hlt
    refine wK (p := places[i]) (pk := 0) (x := es[places[i]].2) st.1 st.2.1 hd hf st.2.2 (by rw [List.getElem?_toArray, List.getElem?_map, e]; rfl) e2 fun h' a b => hQ _ _ ?_ ⟨a, (b.2 S hne).trans st.2.1, (b.2 T hTn).trans st.2.2⟩ ⟨fun c o' hc e' => ?_, rfl, rfl, rfl, Nat.le_refl _⟩
    . rw [List.getElem?_map, e]
      simp [hlt]
    . exact (b.2 c fun z => hc (by simp [z])).trans e'
  done := fun s Q E st hQ => mX hh st.1 st.2.1 hd hf st.2.2 (by simp) fun h' a => hQ _ ⟨fun c o' hc e' => a c o' (fun z => hc (by simp [z])) e', rfl, rfl, rfl, Nat.le_refl _⟩
  self := fun i s Q E st hQ => oE st.1 hQ
end
theorem wV : typeLookup (.type "set") "__len__" = pure (some (.builtin "set.__len__")) := by rw [typeLookup_type, builtinLookup_eq_fast]; kernel_rfl
section
variable {P : Program} {w : World} {A : Around} {E : Value -> Shared -> Prop} {s : Shared} {I S T : Addr} {i ep : Nat} {es : Array (Int × Value)} {t : SetTable} {o : Obj}
theorem zbl {Q : Bool -> Shared -> Prop} (hT : s.TypeIs (.ref S) "set") (h : Q false s) : wpAny (model P w) A (Builtin.List.listLengthHint (.ref S)) Q E s := by
  unfold Builtin.List.listLengthHint
  refine wpAny_bind (wpAny_specialOf (T := "set") hT wV ?_)
  wp_delta
  refine wpAny_bind (wpAny_isInstance (T := "set") (b := true) hT (by rw [isSubtype_type]; kernel_rfl) ?_)
  exact (show wpAny _ A (typeOf (Value.ref S) >>= _) _ _ _ from wpAny_bind (wpAny_typeOf (T := "set") hT (wpAny_pure h)))
theorem rB {L : Addr} {c0 : Nat} {fp : List Addr} {us : List Value} {St : Nat -> Shared -> Prop} {s1 : Shared} {R : Result -> Shared -> Prop} (W : WalksS P w A.in1 I fp [I] (fun a b => b = a) us.length (fun i v => us[i]? = some v) St) (hz : us.length <= sizeLine) (st : St 0 s1) (hL : L ∉ fp)
    (hl : s1.heap.get? L = some { cls := .type "list", data := .seq #[] c0 })
    (h : ∀ s' c, (∀ b o, b ≠ L -> b ≠ I -> s1.heap.get? b = some o -> s'.heap.get? b = some o) -> s'.gens = s1.gens -> s'.os = s1.os -> s'.heap.get? L = some { cls := .type "list", dict := none, data := .seq us.toArray c, slots := #[] } -> R (.ok (.ret (.ref L))) s') :
    codeAny (model P w) A (.builtin "list.extend.loop" ⟨[.ref L, .ref I, .ref L], []⟩) R s1 := by
  refine codeAny_extend_loopS W hz L hL _ us.length 0 s1 _ _ rfl (Nat.zero_le _) st hl (ItemsOf.nil _) fun s' acc' c' hm hS' hacc => ?_
  have e : acc' = us.toArray := by
    apply Array.toList_inj.mp
    apply List.ext_getElem?
    intro j
    by_cases hj : j < us.length
    . have h0 : j < acc'.size := by rw [hacc.1]; exact hj
      have h1 : acc'[j]? = some acc'[j] := Array.getElem?_eq_getElem h0
      rw [Array.getElem?_toList, h1]
      exact (hacc.2 j _ h1).symm
    . rw [Array.getElem?_toList, Array.getElem?_eq_none (by rw [hacc.1]; omega)]
      simp at hj ⊢
      exact hj
  rw [e] at hS'
  exact h s' c' (fun b o' h1 h2 q => hm.heap b o' (by simp [h1, h2]) q) hm.gens hm.os hS'
theorem sD {Q : List Value -> Shared -> Prop} (hT : s.TypeIs (.ref S) "set")
    (h : wpAny (model P w) A.in1 (pyIter (.ref S)) (fun v s1 => ∃ I, v = .ref I /\ s1.TypeIs (.ref S) "set" /\ s1.heap.get? s.heap.objs.size = some { cls := .type "list", data := .seq ([] : List Value).toArray } /\
        ∀ h' c, (∀ b o, b ≠ s.heap.objs.size -> s1.heap.get? b = some o -> h'.get? b = some o) -> h'.get? s.heap.objs.size = some { cls := .type "list", data := .seq #[] c } ->
          codeAny (model P w) A (.builtin "list.extend.loop" ⟨[.ref s.heap.objs.size, .ref I, .ref s.heap.objs.size], []⟩) (fun r s' => ∃ us c, r = .ok (.ret (.ref s.heap.objs.size)) /\ s'.heap.get? s.heap.objs.size = some { cls := .type "list", dict := none, data := .seq us c, slots := #[] } /\ Q us.toList s') { s1 with heap := h' }) (fun _ _ => False)
      { s with heap := s.heap.push { cls := .type "list", data := .seq ([] : List Value).toArray } }) :
    wpAny (model P w) A (collect (.ref S)) Q E s := by
  unfold collect
  refine wpAny_bind (wpAny_runValue (codeAny_builtin PySem.F.entry_proto_collect ?_))
  rw [PySem.Around.under_plainId PySem.F.plain_proto_collect _]
  refine (show wpAny _ A.in1 (newList [] >>= fun l => again (.builtin "list.__iadd__" ⟨[l, .ref S], []⟩)) _ _ s from wpAny_bind (wpAny_newObj_type (wpAny_pure ⟨plainId_quiet PySem.F.plain_list_iadd _, codeAny_builtin PySem.F.entry_list_iadd ?_⟩)))
  rw [PySem.Around.under_plainId PySem.F.plain_list_iadd _]
  refine (show wpAny _ A.in1 (Builtin.List.listExtendWith (.ref s.heap.objs.size) (.ref S) (.ref s.heap.objs.size)) _ _ _ from ?_)
  unfold Builtin.List.listExtendWith
  have hT1 : Shared.TypeIs { s with heap := s.heap.push { cls := .type "list", data := .seq ([] : List Value).toArray } } (.ref S) "set" := by
    obtain ⟨o, ho, hc⟩ := hT
    exact ⟨o, Heap.get?_push_of_some _ ho, hc⟩
  have hne : (Builtin.List.listSameRef (.ref s.heap.objs.size) (.ref S) || Value.type "set" == Value.type "list" || Value.type "set" == Value.type "tuple") = false := by
    obtain ⟨o, ho, hc⟩ := hT
    have q : (s.heap.objs.size == S) = false := by
      rw [beq_eq_false_iff_ne]
      exact Nat.ne_of_gt (Heap.lt_size ho)
    have q2 : Builtin.List.listSameRef (.ref s.heap.objs.size) (.ref S) = (s.heap.objs.size == S) := rfl
    rw [q2, q]
    decide
  refine wpAny_bind (wpAny_typeOf (T := "set") hT1 ?_)
  rw [if_neg (by rw [hne]; exact fun z => nomatch z)]
  refine wpAny_bind (wpAny_mono h (fun v s1 zz => ?_) fun _ _ z => z.elim)
  obtain ⟨I, e, h1, h5, h2⟩ := zz
  subst e
  refine wpAny_bind (wpAny_holding (zbl h1 ?_))
  rw [if_pos (by decide)]
  refine wpAny_bind (wpAny_rule (wpAny_bind (show wpAny _ A.in1 (updateSeq s.heap.objs.size (·.push .none) >>= fun _ => updateSeq s.heap.objs.size (·.pop)) _ _ _ from wpAny_bind (wpAny_updateSeq h5 rfl ?_))))
  have g2 := Heap.get?_update_self (Obj.mapSeq (·.push Value.none)) h5 rfl
  refine wpAny_updateSeq (hz := by seq_fits) g2 rfl ?_
  have g3 := Heap.get?_update_self (Obj.mapSeq (·.pop)) g2 rfl
  refine wpAny_pure ⟨plainId_quiet PySem.F.plain_extend_loop _, codeAny_mono (h2 _ _ (fun b o' hb q => (Heap.get?_update_other _ _ (Ne.symm hb)).trans ((Heap.get?_update_other _ _ (Ne.symm hb)).trans q)) g3) fun r s' ⟨us, c, e, h3, h4⟩ => ?_⟩
  subst e
  exact (show wpAny _ A (load s.heap.objs.size >>= _) _ _ s' from wpAny_bind (wpAny_load h3 (wpAny_pure h4)))
end
theorem i8 {us us0 : List Value} {zs : List Str} (hp : us.Perm us0) (hs : StrsAre us0 zs) : ∃ zs', StrsAre us zs' /\ zs'.Perm zs :=
  ⟨us.map strOf, strsAre_map us fun v hv => hs.all v (hp.mem_iff.mp hv), by rw [<- hs.strs]; exact hp.map _⟩
theorem vO {α : Type} (d : α) : ∀ l : List α, (List.range l.length).map (fun p => l.getD p d) = l := fun l => by
  apply List.ext_getElem?
  intro j
  rw [List.getElem?_map]
  by_cases hj : j < l.length
  . rw [List.getElem?_range hj]; simp [hj]
  . rw [List.getElem?_eq_none (by simp; omega), List.getElem?_eq_none (by omega)]; rfl
section
variable {P : Program} {w : World} {A : Around} {E : Value -> Shared -> Prop} {s : Shared} {I S T : Addr}
end
section
variable {P : Program} {w : World} {A : Around} {E : Value -> Shared -> Prop} {s : Shared} {S : Addr}
end
section
variable {X : Cx}
def zpM (P : Program) (w : World) (a : Addr) (zs : List Str) : HO := .ext fun h => zqj P w (mW w) h a zs
end
section
variable {P : Program} {w : World} {A : Around} {E : Value -> Shared -> Prop} {s : Shared}
theorem sC : isSubtype (.type "tuple") (.type "set") = pure false := by rw [isSubtype_type]; kernel_rfl
theorem mY : isSubtype (.type "tuple") (.type "frozenset") = pure false := by rw [isSubtype_type]; kernel_rfl
end
section
variable {P : Program} {w : World} {A : Around} {E : Value -> Shared -> Prop} {s : Shared} {S : Addr}
theorem zU {Q : Value -> Shared -> Prop} (h : Q (.ref s.heap.objs.size) { s with heap := s.heap.push (pH w) }) : wpAny (model P w) A (call (.type "set") []) Q E s := by
  obtain ⟨c, tl, hmro⟩ := PySem.F.called_set.mro
  have c1 := PySem.F.called_set.made
  have c2 := PySem.F.called_set.sub
  have c3 := PySem.F.called_set.notType
  have c4 := PySem.F.called_set.canCreate
  have c5 := PySem.F.typeCall_set_0
  refine wpAny_call (codeAny_of_tree (show wpAny _ _ (callAny (.type "set") _) _ _ _ from wpAny_pure ⟨Code.quiet_builtin _ (by decide +kernel), codeAny_builtin PySem.F.entry_type_call ?_⟩))
  rw [PySem.Around.under_plain (weight_type_call_type "set" [] []) rfl]
  repeat (any_goals (first | assumption | wp_step))
  refine codeAny_mono (jC (P := P) (E := E) (rest := []) (Q₁ := fun obj s₁ => obj = .ref s.heap.objs.size /\ s₁ = { s with heap := s.heap.push (pH w) }) PySem.F.newCall_set_0 ⟨rfl, rfl⟩) fun r s₁ hr => ?_
  cases r with
  | error e => exact hr
  | ok fl =>
    cases fl with
    | ret obj =>
      obtain ⟨rfl, rfl⟩ := hr
      have hS : (s.heap.push (pH w)).get? s.heap.objs.size = some (pH w) := Heap.get?_push_size _ rfl
      have hT : Shared.TypeIs { s with heap := s.heap.push (pH w) } (.ref s.heap.objs.size) "set" := ⟨_, hS, rfl⟩
      have c6 := PySem.F.called_set.init.lookup
      have c7 := PySem.F.called_set.init.bind (.ref s.heap.objs.size)
      repeat (any_goals (first | assumption | wp_step))
      refine codeAny_call_builtin PySem.F.called_set.init.plain PySem.F.entry_set_init (PySem.check_set_init hT ?_)
      unfold Builtin.«set.__init__» noKeywords
      wp_walk
      exact h
    | _ => exact hr.elim
end
section
variable {X : Cx}
end
section
variable {X : Cx} {o e : Expr} {es : List Expr} {to : TE} {t : TA} {name : Str} {apos cpos : Pos} {id : String} {r : V -> List V -> Hp -> VK -> Prop}
example : Slot "set" "add" "set.add" := PySem.F.slot_set_add
example : typeOf (.builtin "set.add") = pure (.type "method_descriptor") := PySem.F.type_set_add
end
theorem zbu {a b : Str} (h : (!ltCps b.cps.toList a.cps.toList) = true) : a.cps.toList <= b.cps.toList := by
  rw [ltCps_eq] at h
  simp at h
  exact h
theorem nP : ∀ (l : List Str) (p : Str), risingS p l = true -> ∀ x ∈ l, p.cps.toList <= x.cps.toList
  | [], _, _, x, hx => nomatch hx
  | y :: l, p, h, x, hx => by
    obtain ⟨h1, h2⟩ := Bool.and_eq_true_iff.mp h
    have q := zbu h1
    rcases List.mem_cons.mp hx with rfl | hx
    . exact q
    . exact List.le_trans q (nP l y h2 x hx)
theorem lY : ∀ (l : List Str) (p : Str), risingS p l = true -> (p :: l).Pairwise fun a b => a.cps.toList <= b.cps.toList
  | [], _, _ => .cons (fun _ z => nomatch z) .nil
  | y :: l, p, h => .cons (nP _ p h) (lY l y (Bool.and_eq_true_iff.mp h).2)
theorem sorted_pair : ∀ (l : List Str), sortedS l = true -> l.Pairwise fun a b => a.cps.toList <= b.cps.toList
  | [], _ => .nil
  | p :: l, h => lY l p h
theorem sQ {a b : List Str} (hp : a.Perm b) (ha : sortedS a = true) (hb : sortedS b = true) : a = b := by
  refine hp.eq_of_pairwise (le := fun a b => a.cps.toList <= b.cps.toList) (fun x y _ _ h1 h2 => ?_) (sorted_pair a ha) (sorted_pair b hb)
  have q : x.cps.toList = y.cps.toList := List.le_antisymm h1 h2
  cases x
  cases y
  exact congrArg _ (Array.toList_inj.mp q)
section
variable {κ : Type} [DecidableEq κ]
def gR (kvs : List (κ × V)) (k : κ) : Option V := (kvs.find? fun kv => decide (kv.1 = k)).map (·.2)
def jH (kvs : List (κ × V)) (k : κ) (v : V) : List (κ × V) :=
  if (kvs.any fun kv => decide (kv.1 = k)) = true then kvs.map (fun kv => if kv.1 = k then (kv.1, v) else kv) else kvs ++ [(k, v)]
theorem eJ {p : κ × V} {r : List (κ × V)} {k : κ} (e : p.1 = k) : gR (p :: r) k = some p.2 := by simp [gR, List.find?_cons, e]
theorem eM {p : κ × V} {r : List (κ × V)} {k : κ} (e : ¬ p.1 = k) : gR (p :: r) k = gR r k := by simp [gR, List.find?_cons, e]
theorem jQ (k : κ) : ∀ kvs : List (κ × V), (kvs.any fun kv => decide (kv.1 = k)) = (gR kvs k).isSome
  | [] => rfl
  | p :: r => by
    rw [List.any_cons]
    by_cases e : p.1 = k
    . simp only [eJ e, decide_eq_true e, Bool.true_or, Option.isSome_some]
    . rw [eM e, decide_eq_false e, Bool.false_or]; exact jQ k r
theorem uY (k j : κ) (y : V) : ∀ kvs : List (κ × V), gR (kvs.map fun kv => if kv.1 = k then (kv.1, y) else kv) j = (gR kvs j).map fun x => if j = k then y else x
  | [] => rfl
  | p :: r => by
    have ih := uY k j y r
    rw [List.map_cons]
    by_cases h : p.1 = k
    . rw [if_pos h]
      by_cases e : p.1 = j
      . rw [eJ (p := (p.1, y)) e, eJ e, Option.map_some, if_pos (e.symm.trans h)]
      . rw [eM (p := (p.1, y)) e, eM e, ih]
    . rw [if_neg h]
      by_cases e : p.1 = j
      . rw [eJ (p := p) e, eJ e, Option.map_some, if_neg (fun z => h (e.trans z))]
      . rw [eM (p := p) e, eM e, ih]
theorem qM (k j : κ) (y : V) : ∀ kvs : List (κ × V), gR kvs k = none -> gR (kvs ++ [(k, y)]) j = if j = k then some y else gR kvs j
  | [], _ => by
    by_cases e : k = j
    . rw [if_pos e.symm]; exact eJ (p := (k, y)) e
    . rw [if_neg (fun z => e z.symm)]; exact eM (p := (k, y)) e
  | p :: r, hn => by
    rw [List.cons_append]
    have hk : ¬ p.1 = k := fun z => by rw [eJ z] at hn; cases hn
    rw [eM hk] at hn
    have ih := qM k j y r hn
    by_cases e : p.1 = j
    . rw [eJ e, eJ e, if_neg (fun z => hk (e.trans z))]
    . rw [eM e, eM e, ih]
theorem iV (kvs : List (κ × V)) (k j : κ) (y : V) : gR (jH kvs k y) j = if j = k then some y else gR kvs j := by
  unfold jH
  by_cases a : (kvs.any fun kv => decide (kv.1 = k)) = true
  . rw [if_pos a, uY]
    rw [jQ] at a
    by_cases e : j = k
    . obtain ⟨x, hx⟩ := Option.isSome_iff_exists.mp a
      rw [if_pos e, e, hx, Option.map_some, if_pos rfl]
    . rw [if_neg e]
      cases gR kvs j with
      | none => rfl
      | some x => rw [Option.map_some, if_neg e]
  . rw [if_neg a]
    refine qM k j y kvs ?_
    rw [jQ] at a
    cases q : gR kvs k with
    | none => rfl
    | some x => rw [q] at a; exact (a rfl).elim
theorem cQ (kvs : List (κ × V)) (k : κ) (v : V) : (jH kvs k v).length <= kvs.length + 1 := by
  unfold jH
  split
  . rw [List.length_map]; omega
  . rw [List.length_append, List.length_cons, List.length_nil]; omega
theorem oI.isSome_eq {o : Option V} {u : Option Value} (r : oI o u) : o.isSome = u.isSome := by
  cases o with
  | none => cases u with
    | none => rfl
    | some _ => exact (show False from r).elim
  | some _ => cases u with
    | none => exact (show False from r).elim
    | some _ => rfl
theorem KV.val {kvs : List (κ × V)} {vs : List (κ × Value)} (r : KV kvs vs) (k : κ) : oI (gR kvs k) (valueAt vs k) := by
  unfold KV at r
  induction r with
  | nil => exact True.intro
  | @cons p q ps qs h t ih =>
    obtain ⟨h1, h2⟩ := h
    by_cases e : p.1 = k
    . have e' : q.1 = k := h1.symm.trans e
      have b : valueAt (q :: qs) k = some q.2 := by simp [valueAt, List.find?_cons, e']
      rw [eJ e, b]; exact h2
    . have e' : ¬ q.1 = k := fun z => e (h1.trans z)
      have b : valueAt (q :: qs) k = valueAt qs k := by simp [valueAt, List.find?_cons, e']
      rw [eM e, b]; exact ih
theorem KV.any {kvs : List (κ × V)} {vs : List (κ × Value)} (r : KV kvs vs) (k : κ) : (kvs.any fun kv => decide (kv.1 = k)) = vs.any fun kv => decide (kv.1 = k) := by
  unfold KV at r
  induction r with
  | nil => rfl
  | cons h t ih => rw [List.any_cons, List.any_cons, ih, h.1]
theorem KV.repl {kvs : List (κ × V)} {vs : List (κ × Value)} (r : KV kvs vs) (k : κ) {y : V} {u : Value} (ry : cH y u) :
    KV (kvs.map fun kv => if kv.1 = k then (kv.1, y) else kv) (vs.map fun kv => if kv.1 = k then (kv.1, u) else kv) := by
  unfold KV at r ⊢
  induction r with
  | nil => exact .nil
  | @cons p q ps qs h t ih =>
    rw [List.map_cons, List.map_cons]
    refine .cons ?_ ih
    obtain ⟨h1, h2⟩ := h
    by_cases e : p.1 = k
    . rw [if_pos e, if_pos (h1.symm.trans e)]; exact ⟨h1, ry⟩
    . rw [if_neg e, if_neg (fun z => e (h1.trans z))]; exact ⟨h1, h2⟩
theorem KV.put {kvs : List (κ × V)} {vs : List (κ × Value)} (r : KV kvs vs) (k : κ) {y : V} {u : Value} (ry : cH y u) : KV (jH kvs k y) (stored vs k u) := by
  unfold jH stored
  rw [r.any k]
  by_cases e : (vs.any fun kv => decide (kv.1 = k)) = true
  . rw [if_pos e, if_pos e]; exact r.repl k ry
  . rw [if_neg e, if_neg e]; exact Paired.snoc r ⟨rfl, ry⟩
theorem KV.length {kvs : List (κ × V)} {vs : List (κ × Value)} (r : KV kvs vs) : kvs.length = vs.length := Paired.length r
end
theorem lQ {P : Program} {w : World} {k : Key} {u : Value} (r : cH (kV k) u) : (bH P w).is k u = true := by
  cases k with
  | inl i => obtain ⟨t, e⟩ := (show ∃ t, u = Value.int i t from r); subst e; exact tE P w i t
  | inr x => obtain ⟨t, e⟩ := (show ∃ t, u = Value.str x t from r); subst e; exact lK P w x t
theorem rL {P : Program} {w : World} : ∀ {ks : List Key} {us : List Value}, cA (ks.map kV) us -> ItemsAre (bH P w) ks us
  | [], _, r => by rw [List.map_nil] at r; cases r; exact .nil
  | k :: ks, _, r => by
    rw [List.map_cons] at r
    cases r with
    | cons h t => exact .cons (lQ h) (rL t)
abbrev KT (H : Hp) : List (List Key × V) -> List (List Key × Addr × Value) -> Prop := Paired fun p q => p.1 = q.1 /\ H q.2.1 = some (.tup (p.1.map kV)) /\ cH p.2 q.2.2
theorem KT.val {H : Hp} {kvs : List (List Key × V)} {xs : List (List Key × Addr × Value)} (r : KT H kvs xs) (k : List Key) : oI (gR kvs k) ((atKey xs k).map (·.2)) := by
  induction r with
  | nil => exact True.intro
  | @cons p q ps qs h t ih =>
    obtain ⟨h1, _, h2⟩ := h
    by_cases e : p.1 = k
    . have e' : q.1 = k := h1.symm.trans e
      have b : atKey (q :: qs) k = some q.2 := by simp [atKey, List.find?_cons, e']
      rw [eJ e, b]; exact h2
    . have e' : ¬ q.1 = k := fun z => e (h1.trans z)
      have b : atKey (q :: qs) k = atKey qs k := by simp [atKey, List.find?_cons, e']
      rw [eM e, b]; exact ih
theorem KT.repl {H : Hp} {kvs : List (List Key × V)} {xs : List (List Key × Addr × Value)} (r : KT H kvs xs) (k : List Key) {y : V} {u : Value} (ry : cH y u) :
    KT H (kvs.map fun kv => if kv.1 = k then (kv.1, y) else kv) (xs.map (putAt k u)) := by
  induction r with
  | nil => exact .nil
  | @cons p q ps qs h t ih =>
    rw [List.map_cons, List.map_cons]
    refine .cons ?_ ih
    obtain ⟨h1, h2, h3⟩ := h
    unfold putAt
    by_cases e : p.1 = k
    . rw [if_pos e, if_pos (h1.symm.trans e)]; exact ⟨h1, h2, ry⟩
    . rw [if_neg e, if_neg (fun z => e (h1.trans z))]; exact ⟨h1, h2, h3⟩
theorem KT.put {H : Hp} {kvs : List (List Key × V)} {xs : List (List Key × Addr × Value)} (r : KT H kvs xs) (k : List Key) {b : Addr} {y : V} {u : Value} (hb : H b = some (.tup (k.map kV))) (ry : cH y u) :
    KT H (jH kvs k y) (storedH xs k b u) := by
  have e : (kvs.any fun kv => decide (kv.1 = k)) = (atKey xs k).isSome := by
    rw [jQ, (r.val k).isSome_eq, Option.isSome_map]
  unfold jH storedH
  rw [e]
  by_cases q : (atKey xs k).isSome = true
  . rw [if_pos q, if_pos q]; exact r.repl k ry
  . rw [if_neg q, if_neg q]; exact Paired.snoc r ⟨rfl, hb, ry⟩
theorem KT.keeps {H H' : Hp} {kvs : List (List Key × V)} {xs : List (List Key × Addr × Value)} (r : KT H kvs xs) (ht : ∀ b ys, H b = some (.tup ys) -> H' b = some (.tup ys)) : KT H' kvs xs :=
  Paired.mapP r fun _ _ z => ⟨z.1, ht _ _ z.2.1, z.2.2⟩
section
variable {P : Program} {w : World} {H : Hp} {h : Heap} {a : Addr}
theorem zjo {u : HO} (ok : HOk P w H h) (e : Rd H a u) : cJ P w H h a u := e.ok ok
theorem zah {kvs : List (Key × V)} (ok : HOk P w H h) (e : Rd H a (.dK kvs)) : kvs.length <= sizeLine /\ (a == sysModules) = false /\ ∃ vs, KV kvs vs /\ h.DictOf (bH P w) a vs :=
  show cJ P w H h a (.dK kvs) from zjo ok e
theorem zW {kvs : List (Key × V)} (ok : HOk P w H h) (e : H a = some (.dK kvs)) : kvs.length <= sizeLine /\ (a == sysModules) = false /\ ∃ vs, KV kvs vs /\ h.DictOf (bH P w) a vs := zah ok (.inl e)
theorem rY {ks : List Key} (ok : HOk P w H h) (e : H a = some (.tup (ks.map kV))) : (tupleKind (bH P w)).is h ks a := by
  obtain ⟨_, its, r, o, h1, h2, n, h3⟩ := (show cJ P w H h a (.tup (ks.map kV)) from ok a _ e)
  exact ⟨o, its.toArray, n, h1, h2, h3, by simpa using rL r⟩
theorem yC {kvs : List (List Key × V)} (ok : HOk P w H h) (e : Rd H a (.dT kvs)) : kvs.length <= sizeLine /\ (a == sysModules) = false /\
    ∃ xs, KT H kvs xs /\ h.DictOfH (tupleKind (bH P w)) a xs := by
  obtain ⟨z, y, xs, r, o, es, ep, h1, h2, h3, h4, h5⟩ := (show cJ P w H h a (.dT kvs) from zjo ok e)
  refine ⟨z, y, xs, r, o, es, ep, h1, h2, h3, h4, fun x hx => ?_, h5⟩
  have all : ∀ {l : List (List Key × V)} {m : List (List Key × Addr × Value)}, KT H l m -> ∀ x ∈ m, (tupleKind (bH P w)).is h x.1 x.2.1 := by
    intro l m q
    induction q with
    | nil => intro x hx; exact nomatch hx
    | @cons p q ps qs hq t ih =>
      intro x hx
      rcases List.mem_cons.mp hx with e | hx
      . subst e
        exact rY ok (by rw [<- hq.1]; exact hq.2.1)
      . exact ih x hx
  exact all r x hx
theorem zmm {kvs : List (List Key × V)} (ok : HOk P w H h) (e : H a = some (.dT kvs)) : kvs.length <= sizeLine /\ (a == sysModules) = false /\
    ∃ xs, KT H kvs xs /\ h.DictOfH (tupleKind (bH P w)) a xs := yC ok (.inl e)
end
def mV (H : Hp) (a : Addr) (y : V) (r : Option V) : Prop :=
  (∃ kvs k, Rd H a (.dK kvs) /\ y = kV k /\ r = gR kvs k) \/ ∃ kvs k b, Rd H a (.dT kvs) /\ y = .ref b /\ H b = some (.tup (k.map kV)) /\ r = gR kvs k
def zdc (H : Hp) (a : Addr) (y v : V) (H' : Hp) : Prop :=
  (∃ kvs k, H a = some (.dK kvs) /\ y = kV k /\ kvs.length < sizeLine /\ H' = upd H a (.dK (jH kvs k v))) \/
  ∃ kvs k b, H a = some (.dT kvs) /\ y = .ref b /\ H b = some (.tup (k.map kV)) /\ kvs.length < sizeLine /\ H' = upd H a (.dT (jH kvs k v))
theorem mV.k {H : Hp} {a : Addr} {kvs : List (Key × V)} {k : Key} (e : H a = some (.dK kvs)) : mV H a (kV k) (gR kvs k) := .inl ⟨kvs, k, .inl e, rfl, rfl⟩
theorem zdc.k {H : Hp} {a : Addr} {kvs : List (Key × V)} {k : Key} {v : V} (e : H a = some (.dK kvs)) (hl : kvs.length < sizeLine) : zdc H a (kV k) v (upd H a (.dK (jH kvs k v))) := .inl ⟨kvs, k, e, rfl, hl, rfl⟩
section
variable {X : Cx} {pins : List (Addr × Obj)} {σ : St} {H : Hp} {s : Shared} {a : Addr} {y v : V} {u r : Value} {o : Option V} {A : Around} {E : Value -> Shared -> Prop}
theorem Inv.big (I : Inv X pins σ H s) : sysModules < s.heap.objs.size := by
  have h : mainGlobals < s.heap.objs.size := (I.mod.glob.keeps I.bk).lt
  exact Nat.lt_trans (by decide) h
theorem xW {Q : Value -> Shared -> Prop} (hu : A.units + 1 < cLine) (I : Inv X pins σ H s) (g : mV H a y (some v)) (ry : cH y u) (h : ∀ w' s', Inv X pins σ H s' -> cH v w' -> Q w' s') :
    wpAny (model X.prog X.w) A (getItem (.ref a) u) Q E s := by
  rcases g with ⟨kvs, k, e, ey, l⟩ | ⟨kvs, k, b, e, ey, eb, l⟩
  . subst ey
    obtain ⟨z, hd, vs, rel, dd⟩ := zah I.hok e
    obtain ⟨w', hw, rw'⟩ := oI.some_of (v := v) (o := valueAt vs k) (by rw [l]; exact rel.val k)
    exact wpAny_getItem_of (lQ ry) dd.mapOf hw (h w' _ (I.tok _) rw')
  . subst ey
    cases (show u = Value.ref b from ry)
    obtain ⟨z, hd, xs, rel, dd⟩ := yC I.hok e
    obtain ⟨w', hw, rw'⟩ := oI.some_of (v := v) (o := (atKey xs k).map (·.2)) (by rw [l]; exact rel.val k)
    obtain ⟨p, hp, hp2⟩ := Option.map_eq_some_iff.mp hw
    refine wpAny_getItem_heap (tupleKind_room_in1 hu) (rY I.hok eb) dd hp ?_
    rw [hp2]
    exact h w' _ (I.tok _) rw'
theorem zqh {Q : Value -> Shared -> Prop} (hu : A.units + 1 < cLine) (I : Inv X pins σ H s) (g : mV H a y o) (ry : cH y u) (h : ∀ s', Inv X pins σ H s' -> Q (.bool o.isSome) s') :
    wpAny (model X.prog X.w) A (compareOp .In u (.ref a)) Q E s := by
  rcases g with ⟨kvs, k, e, ey, l⟩ | ⟨kvs, k, b, e, ey, eb, l⟩
  . subst ey
    obtain ⟨z, hd, vs, rel, dd⟩ := zah I.hok e
    refine wpAny_in_of (lQ ry) hd dd.mapOf ?_
    rw [<- (rel.val k).isSome_eq, <- l]
    exact h _ (I.tok _)
  . subst ey
    cases (show u = Value.ref b from ry)
    obtain ⟨z, hd, xs, rel, dd⟩ := yC I.hok e
    refine wpAny_in_heap (tupleKind_room_in1 hu) (rY I.hok eb) hd dd ?_
    have q := (rel.val k).isSome_eq
    rw [Option.isSome_map] at q
    rw [<- q, <- l]
    exact h _ (I.tok _)
theorem zdf {Q : Value -> Shared -> Prop} (hu : A.units + 1 < cLine) (I : Inv X pins σ H s) (g : mV H a y o) (ry : cH y u) (h : ∀ s', Inv X pins σ H s' -> Q (.bool (!o.isSome)) s') :
    wpAny (model X.prog X.w) A (compareOp .NotIn u (.ref a)) Q E s := by
  rcases g with ⟨kvs, k, e, ey, l⟩ | ⟨kvs, k, b, e, ey, eb, l⟩
  . subst ey
    obtain ⟨z, hd, vs, rel, dd⟩ := zah I.hok e
    refine wpAny_notIn_of (lQ ry) hd dd.mapOf ?_
    rw [<- (rel.val k).isSome_eq, <- l]
    exact h _ (I.tok _)
  . subst ey
    cases (show u = Value.ref b from ry)
    obtain ⟨z, hd, xs, rel, dd⟩ := yC I.hok e
    refine wpAny_notIn_heap (tupleKind_room_in1 hu) (rY I.hok eb) hd dd ?_
    have q := (rel.val k).isSome_eq
    rw [Option.isSome_map] at q
    rw [<- q, <- l]
    exact h _ (I.tok _)
theorem lO {h' : Heap} {t' : Nat} {ob : HO} (I : Inv X pins σ H s) (mu : Mut (H a)) (hs : Heap.SameBut a s.heap h') (he : ∃ q, h'.get? a = some q) (new : cJ X.prog X.w (upd H a ob) h' a ob) :
    Inv X pins σ (upd H a ob) { s with heap := h', toks := t' } :=
  I.write (x := a) (e := a) mu (.inl rfl) (fun b q hb z => (hs.2 b hb).trans z) he new
theorem rA {P : Program} {w : World} {H' : Hp} {h' : Heap} {kvs : List (Key × V)} {vs : List (Key × Value)} (z : kvs.length <= sizeLine) (hd : (a == sysModules) = false) (rel : KV kvs vs) (dd : h'.DictOf (bH P w) a vs) :
    cJ P w H' h' a (.dK kvs) := ⟨z, hd, vs, rel, dd⟩
theorem z7 {H' : Hp} {Q : Unit -> Shared -> Prop} (hu : A.units + 1 < cLine) (I : Inv X pins σ H s) (g : zdc H a y v H') (ry : cH y u) (rv : cH v r) (h : ∀ s', Inv X pins σ H' s' -> Q () s') :
    wpAny (model X.prog X.w) A (setItem (.ref a) u r) Q E s := by
  rcases g with ⟨kvs, k, e, ey, l, eH⟩ | ⟨kvs, k, b, e, ey, eb, l, eH⟩
  . subst ey eH
    obtain ⟨z, hd, vs, rel, dd⟩ := zW I.hok e
    have hz : vs.length <= sizeLine := by rw [<- rel.length]; exact z
    have hl : (jH kvs k v).length <= sizeLine := by have := cQ kvs k v; omega
    refine wpAny_setItem_pairs (hsz := hz) (lQ ry) dd fun h' dd' hs => h _ ?_
    have he : ∃ q, h'.get? a = some q := let ⟨q, _, _, hq, _⟩ := dd'; ⟨q, hq⟩
    exact lO I (by rw [e]; exact True.intro) hs he (rA hl hd (rel.put k rv) dd')
  . subst ey eH
    cases (show u = Value.ref b from ry)
    obtain ⟨z, hd, xs, rel, dd⟩ := zmm I.hok e
    have hz : xs.length <= sizeLine := by rw [<- Paired.length rel]; exact z
    have hl : (jH kvs k v).length <= sizeLine := by have := cQ kvs k v; omega
    refine wpAny_setItem_heap (hsz := hz) (tupleKind_room_in1 hu) (rY I.hok eb) dd fun h' dd' hs => h _ ?_
    obtain ⟨q, es, ep, hq, h2, h3, h4, _, h5⟩ := dd'
    refine lO I (by rw [e]; exact True.intro) hs ⟨q, hq⟩ ⟨hl, hd, _, (rel.put k eb rv).keeps fun c ys ec => ?_, q, es, ep, hq, h2, h3, h4, h5⟩
    rw [aH (dW ec e (fun z => nomatch z))]
    exact ec
end
section
variable {X : Cx} {pins : List (Addr × Obj)} {σ : St} {H : Hp} {s : Shared} {a : Addr} {kvs : List (Key × V)} {k : Key} {u : Value} {A : Around} {E : Value -> Shared -> Prop}
end
def zpl (i : Expr) : Prop := ∀ ov iv, subscripted i false ov iv = operate [ov, iv] (getItem ov iv)
theorem zdS {prog : Program} {w : World} {A : Around} {E : Value -> Shared -> Prop} {s : Shared} {env : Env} {value slice : Expr} {pos : Pos} {T id : String} {Q : Value -> Shared -> Prop}
    (hl : typeLookup (.type T) "__getitem__" = pure (some (.builtin id))) (hs : zpl slice)
    (h : wpAny (model prog w) A (eval value env) (fun o s₁ => wpAny (model prog w) A (eval slice env) (fun i s₂ => s₂.TypeIs o T /\ wpAny (model prog w) A (getItem o i) Q E s₂) E s₁) E s) :
    wpAny (model prog w) A (eval (.Subscript value slice pos) env) Q E s := by
  refine Subscript_ (wpAny_mono h (fun o s₁ h₁ => wpAny_mono h₁ (fun i s₂ h₂ => ?_) fun _ _ x => x) fun _ _ x => x)
  obtain ⟨hT, h₂⟩ := h₂
  unfold subscriptTail
  refine wpAny_bind ?_
  rw [getitemInPython_of_ne hT.not_modules]
  refine wpAny_bind (wpAny_specialOf hT hl ?_)
  have fin : wpAny (model prog w) A (subscripted slice false o i) (fun r s₃ => wpAny (model prog w) A (letTemporaryGo value o r >>= fun _ => pure r) Q E s₃) E s₂ := by
    rw [hs o i]
    exact wpAny_operating (wpAny_mono h₂ (fun r s₃ h₃ => wpAny_bind (wpAny_letTemporaryGo (wpAny_pure h₃))) fun _ _ x => x)
  first
    | exact wpAny_pure (wpAny_bind fin)
    | exact wpAny_bind (wpAny_pure (wpAny_bind fin))
    | exact wpAny_bind fin
theorem sZ {X : Cx} {pins : List (Addr × Obj)} {σ : St} {H : Hp} {s : Shared} {a : Addr} {y : V} {o : Option V} (I : Inv X pins σ H s) (g : mV H a y o) : s.TypeIs (.ref a) "dict" := by
  rcases g with ⟨kvs, k, e, _, _⟩ | ⟨kvs, k, b, e, _, _, _⟩
  . obtain ⟨_, _, vs, _, dd⟩ := zah I.hok e
    exact dd.typeIs
  . obtain ⟨_, _, xs, _, dd⟩ := yC I.hok e
    exact dd.typeIs
def nA (td ty : TE) : TE := fun σ H Q => td σ H fun x H1 => ty σ H1 fun y H2 => ∃ a v, x = .ref a /\ mV H2 a y (some v) /\ Q v H2
def ziG (ty td : TE) : TE := fun σ H Q => ty σ H fun y H1 => td σ H1 fun x H2 => ∃ a o, x = .ref a /\ mV H2 a y o /\ Q (.bl o.isSome) H2
def zcR (ty td : TE) : TE := fun σ H Q => ty σ H fun y H1 => td σ H1 fun x H2 => ∃ a o, x = .ref a /\ mV H2 a y o /\ Q (.bl (!o.isSome)) H2
def zmn (td ty tv : TE) : TS := fun D σ H => tv σ H fun v H1 => td σ H1 fun x H2 => ty σ H2 fun y H3 => ∃ a H4, x = .ref a /\ zdc H3 a y v H4 /\ D.nx σ H4
section
variable {X : Cx} {o i e value : Expr} {pos pos' tpos : Pos} {td ty tv : TE}
theorem jD (hu : X.A.units + 1 < cLine) (ho : PE X o td) (hi : PE X i ty) (hs : zpl i) : PE X (.Subscript o i pos) (nA td ty) := by
  intro pins s σ H Q I h
  refine zdS PySem.F.slot_dict_getitem.lookup hs (thn (ho pins s σ H _ I h) fun u s1 ⟨x, H1, I1, rx, q1⟩ => thn (hi pins s1 σ H1 _ I1 q1) fun iv s2 zz => ?_)
  obtain ⟨y, H2, I2, ry, a, v, ex, g, q2⟩ := zz
  subst ex
  obtain rfl : u = Value.ref a := rx
  exact ⟨sZ I2 g, xW hu I2 g ry fun w' s3 I3 rw' => ⟨v, H2, I3, rw', q2⟩⟩
theorem zju (hu : X.A.units + 1 < cLine) (hi : PE X i ty) (ho : PE X o td) : PC X .In i o (ziG ty td) := by
  intro pins s σ H Q I h
  refine thn (hi pins s σ H _ I h) fun iv s1 ⟨y, H1, I1, ry, q1⟩ => thn (ho pins s1 σ H1 _ I1 q1) fun u s2 zz => ?_
  obtain ⟨x, H2, I2, rx, a, ov, ex, g, q2⟩ := zz
  subst ex
  obtain rfl : u = Value.ref a := rx
  exact zqh hu I2 g ry fun s3 I3 => ⟨.bl ov.isSome, H2, I3, rfl, q2⟩
theorem zan (hu : X.A.units + 1 < cLine) (hi : PE X i ty) (ho : PE X o td) : PC X .NotIn i o (zcR ty td) := by
  intro pins s σ H Q I h
  refine thn (hi pins s σ H _ I h) fun iv s1 ⟨y, H1, I1, ry, q1⟩ => thn (ho pins s1 σ H1 _ I1 q1) fun u s2 zz => ?_
  obtain ⟨x, H2, I2, rx, a, ov, ex, g, q2⟩ := zz
  subst ex
  obtain rfl : u = Value.ref a := rx
  exact zdf hu I2 g ry fun s3 I3 => ⟨.bl (!ov.isSome), H2, I3, rfl, q2⟩
theorem sL (hu : X.A.units + 1 < cLine) (ho : PE X o td) (hi : PE X i ty) (hv : PE X value tv) (hs : swapsWith value (some (.Subscript o i pos')) pos.line X.env = pure false) :
    PS X (.Assign [.Subscript o i pos'] value pos) (zmn td ty tv) := by
  intro pins s σ H D I h
  refine wpAny_Assign_Subscript (thn (hv pins s σ H _ I h) fun r s1 ⟨v, H1, I1, rv, q1⟩ => thn (ho pins s1 σ H1 _ I1 q1) fun u s2 ⟨x, H2, I2, rx, q2⟩ => thn (hi pins s2 σ H2 _ I2 q2) fun iv s3 zz => ?_) hs
  obtain ⟨y, H3, I3, ry, a, H4, ex, g, q3⟩ := zz
  subst ex
  obtain rfl : u = Value.ref a := rx
  exact z7 hu I3 g ry rv fun s4 I4 => ⟨σ, H4, I4, q3⟩
end
theorem pE {P : Program} {w : World} {H : Hp} (h : Heap) (hb : sysModules < h.objs.size) : cJ P w H (h.push { cls := .type "dict", data := .dict #[] }) h.objs.size (.dK []) :=
  ⟨Nat.zero_le _, beq_eq_false_iff_ne.mpr (Ne.symm (Nat.ne_of_lt hb)), [], .nil, Heap.DictOf.new h⟩
def zhY : TE := fun _ H Q => ∀ p, H p = none -> Q (.ref p) (upd H p (.dK []))
section
variable {X : Cx} {pos : Pos}
theorem zbt : PE X (.Dict [] [] pos) zhY := fun pins s σ H Q I h =>
  wpAny_Dict_empty ⟨.ref s.heap.objs.size, _, I.laid (a := s.heap.objs.size) (o := .dK []) (t' := s.toks) (fun _ _ q => Heap.get?_push_of_some _ q) (Nat.le_refl _) (pE s.heap I.big), rfl, h _ (I.hok.fresh (Nat.le_refl _))⟩
end
def zak : List (TE × TE) -> St -> Hp -> (List (V × V) -> Hp -> Prop) -> Prop
  | [], _, H, Q => Q [] H
  | (tk, tv) :: r, σ, H, Q => tk σ H fun x H1 => tv σ H1 fun y H2 => zak r σ H2 fun ps H3 => Q ((x, y) :: ps) H3
abbrev VV : List (V × V) -> List (Value × Value) -> Prop := Paired fun p q => cH p.1 q.1 /\ cH p.2 q.2
def PPs (X : Cx) (pos : Pos) (keys : List (Option Expr)) (values : List Expr) (trs : List (TE × TE)) : Prop :=
  ∀ (pins : List (Addr × Obj)) (s : Shared) (σ : St) (H : Hp) (Q : List (V × V) -> Hp -> Prop), Inv X pins σ H s -> zak trs σ H Q ->
    wpAny (model X.prog X.w) X.A (evalPairs (pairTrees keys values X.env pos)) (fun vs s' => ∃ ps H', Inv X pins σ H' s' /\ VV ps vs /\ Q ps H') X.xe s
theorem zeM {X : Cx} {pos : Pos} : PPs X pos [] [] [] := fun pins s σ H Q I h => pairTrees_nil_walk ⟨[], H, I, .nil, h⟩
theorem zaw {X : Cx} {pos : Pos} {k v : Expr} {ks : List (Option Expr)} {vs : List Expr} {tk tv : TE} {trs : List (TE × TE)} (hk : PE X k tk) (hv : PE X v tv) (hr : PPs X pos ks vs trs) :
    PPs X pos (some k :: ks) (v :: vs) ((tk, tv) :: trs) := fun pins s σ H Q I h =>
  pairTrees_cons_walk (thn (hk pins s σ H _ I h) fun u s1 ⟨x, H1, I1, rx, q1⟩ => thn (hv pins s1 σ H1 _ I1 q1) fun w2 s2 ⟨y, H2, I2, ry, q2⟩ =>
    thn (hr pins s2 σ H2 _ I2 q2) fun ws s3 ⟨ps, H3, I3, rel, q3⟩ => ⟨(x, y) :: ps, H3, I3, .cons ⟨rx, ry⟩ rel, q3⟩)
def gM (kvs more : List (Key × V)) : List (Key × V) := more.foldl (fun acc kv => jH acc kv.1 kv.2) kvs
theorem KV.merge : ∀ {more : List (Key × V)} {rs : List (Key × Value)} {kvs : List (Key × V)} {vs : List (Key × Value)}, KV more rs -> KV kvs vs -> KV (gM kvs more) (merged vs rs) := by
  intro more rs kvs vs r
  unfold KV at r
  induction r generalizing kvs vs with
  | nil => intro q; exact q
  | @cons p q ps qs h t ih =>
    intro r0
    have e : KV (jH kvs p.1 p.2) (stored vs q.1 q.2) := by
      have := r0.put p.1 h.2
      rw [<- h.1]; exact this
    exact ih e
theorem gS : ∀ (more kvs : List (Key × V)), (gM kvs more).length <= kvs.length + more.length
  | [], kvs => by show kvs.length <= kvs.length + 0; omega
  | p :: r, kvs => by
    have h1 := gS r (jH kvs p.1 p.2)
    have h2 := cQ kvs p.1 p.2
    show (gM (jH kvs p.1 p.2) r).length <= _
    rw [List.length_cons]; omega
theorem nM {P : Program} {w : World} : ∀ {kvs : List (Key × V)} {ws : List (Value × Value)}, VV (kvs.map fun kv => (kV kv.1, kv.2)) ws -> ∃ rs, Carries (bH P w) ws rs /\ KV kvs rs
  | [], _, r => by rw [List.map_nil] at r; cases r; exact ⟨[], True.intro, .nil⟩
  | p :: kvs, _, r => by
    rw [List.map_cons] at r
    cases r with
    | @cons a b as bs h t =>
      obtain ⟨rs, c, q⟩ := nM (P := P) (w := w) t
      obtain ⟨b1, b2⟩ := b
      exact ⟨(p.1, b2) :: rs, ⟨lQ h.1, rfl, c⟩, .cons ⟨rfl, h.2⟩ q⟩
def zgP (trs : List (TE × TE)) : TE := fun σ H Q => ∀ p, H p = none -> zak trs σ (upd H p (.dK [])) fun ps H2 => H2 p = some (.dK []) /\ ∃ kvs : List (Key × V), ps = kvs.map (fun kv => (kV kv.1, kv.2)) /\ kvs.length <= 15 /\ Q (.ref p) (upd H2 p (.dK (gM [] kvs)))
theorem zdJ {X : Cx} {pos : Pos} {keys : List (Option Expr)} {values : List Expr} {trs : List (TE × TE)} (h : PPs X pos keys values trs) (hall : keys.all (·.isSome) = true) (hl : keys.length = values.length) (h0 : keys ≠ [])
    (h15 : keys.length <= 15) : PE X (.Dict keys values pos) (zgP trs) := by
  intro pins s σ H Q I q
  have hn := I.hok.fresh (Nat.le_refl s.heap.objs.size)
  have I1 := I.laid (a := s.heap.objs.size) (o := .dK []) (h' := s.heap.push { cls := .type "dict", data := .dict #[] }) (t' := s.toks) (fun _ _ q => Heap.get?_push_of_some _ q) (Nat.le_refl _) (pE s.heap I.big)
  refine wpAny_Dict_walk (knd := bH X.prog X.w) hall hl h0 h15 (thn (h pins _ σ _ _ I1 (q _ hn)) fun ws s2 zz => ?_)
  obtain ⟨ps, H2, I2, rel, e, kvs, ep, lk, q2⟩ := zz
  subst ep
  obtain ⟨rs, c, rk⟩ := nM (P := X.prog) (w := X.w) rel
  obtain ⟨z, hd, vs0, r0, dd⟩ := zW I2.hok e
  cases r0
  refine ⟨rs, c, dd, fun h' dd' hs => ⟨.ref s.heap.objs.size, _, ?_, rfl, q2⟩⟩
  have hz : (gM [] kvs).length <= sizeLine := by
    have h1 := gS kvs []
    rw [List.length_nil] at h1
    rw [sizeLine_eq]; omega
  have he : ∃ q, h'.get? s.heap.objs.size = some q := let ⟨q, _, _, hq, _⟩ := dd'; ⟨q, hq⟩
  exact lO I2 (by rw [e]; exact True.intro) hs he (rA hz hd (rk.merge .nil) dd')
structure M1 (X : Cx) (o : Expr) (m : Str) (apos : Pos) (e : Expr) (cpos : Pos) : Prop where
  base : attributeBase o m X.env (eval o X.env) = eval o X.env
  few : ((backTo cpos (starEach [e] X.env)).all (fun x => !x.1) && (backToKw cpos (keywordEach [] X.env)).all (fun x => x.1.isSome)
    && decide (([e] : List Expr).length + ([] : List Keyword).length + (if ([] : List Keyword).isEmpty then 0 else 1) < 30)) = true
  line : (apos.endLine == cpos.line) = true
  trees : backTo cpos (starEach [e] X.env) = [(false, eval e X.env)]
section
variable {X : Cx} {pins : List (Addr × Obj)} {σ : St} {H : Hp} {s : Shared} {a : Addr} {y d : V} {u r : Value} {o : Option V} {A : Around} {E : Value -> Shared -> Prop}
end
section
variable {X : Cx} {o e f : Expr} {apos cpos : Pos} {td ty tx : TE}
end
section
variable {X : Cx} {pins : List (Addr × Obj)} {σ : St} {H : Hp} {s : Shared} {a : Addr} {kvs : List (Key × V)} {A : Around} {E : Value -> Shared -> Prop}
end
section
variable {X : Cx} {pins : List (Addr × Obj)} {σ : St} {H : Hp} {s : Shared} {a : Addr} {y : V} {u : Value} {A : Around} {E : Value -> Shared -> Prop}
end
abbrev TM := St -> Hp -> (St -> Hp -> Prop) -> Prop
def PM (X : Cx) (emit : Sem Unit) (t : TM) : Prop :=
  ∀ (pins : List (Addr × Obj)) (s : Shared) (σ : St) (H : Hp) (Q : St -> Hp -> Prop), Inv X pins σ H s -> t σ H Q ->
    wpAny (model X.prog X.w) X.A emit (fun _ s' => ∃ σ' H', Inv X pins σ' H' s' /\ Q σ' H') (fun _ _ => False) s
def PB (X : Cx) (body : Sem Fin) (c : Code) (t : TM) : Prop :=
  ∀ (pins : List (Addr × Obj)) (s : Shared) (σ : St) (H : Hp) (Q : St -> Hp -> Prop), Inv X pins σ H s -> t σ H Q ->
    wpAny (model X.prog X.w) X.A body (fun f s' => f = .again c /\ ∃ σ' H', Inv X pins σ' H' s' /\ Q σ' H') (fun _ _ => False) s
theorem PM.pb {X : Cx} {emit : Sem Unit} {c : Code} {t : TM} (h : PM X emit t) : PB X (emit >>= fun _ => again c) c t := fun pins s σ H Q I q =>
  wpAny_bind (wpAny_mono (h pins s σ H Q I q) (fun _ s' h' => wpAny_pure ⟨rfl, h'⟩) fun _ _ z => z)
def kJ (J : It) (g : TG) (tc : TT) (tm : TM) (Q : St -> Hp -> Prop) (σ0 : St) (H1 : Hp) : Prop := ∃ W : Nat -> Nat -> St -> Hp -> Prop, (∃ m, W 0 m σ0 H1) /\
  ∀ i m σ H, W i m σ H -> (J.stop i H /\ Q σ H) \/ (J.go i H /\ ∃ N : St -> Hp -> Prop, (∀ σ' H', N σ' H' -> ∃ m', m' < m /\ W (i + 1) m' σ' H') /\
    ∀ x H', J.yld i H x H' -> g x σ H' fun σ2 H2 => tc σ2 H2 fun b H3 => if b = true then tm σ2 H3 N else N σ2 H3)
def sV (D : Addr) (te : TE) : TM := fun σ H Q => te σ H fun v H4 => ∃ ys, H4 D = some (.lst ys) /\ ys.length < sizeLine /\ Q σ (upd H4 D (.lst (ys ++ [v])))
def uF (D : Addr) (tk tv : TE) : TM := fun σ H Q => tk σ H fun y H4 => tv σ H4 fun v H5 => ∃ kvs k, y = kV k /\ H5 D = some (.dK kvs) /\ kvs.length < sizeLine /\ Q σ (upd H5 D (.dK (jH kvs k v)))
def vK (wi : TI) (g : TG) (tc : TT) (tm : TM) : TM := fun σ H Q => wi σ H fun J H1 => kJ J g tc tm Q σ H1
abbrev znh (ifs : List Expr) (env : Env) : Sem Bool := forIn ifs true fun c r => if r = true then do let ok <- isTrue c env (eval c env); pure (ForInStep.yield ok) else pure (ForInStep.yield r)
def zE (e : Expr) (depth : Nat) (tg : Expr) (ifs : List Expr) (p : Pos) (body : Sem Fin) (it acc : Value) (env : Env) : Sem Fin := do
  standAt p
  match <- pyNext it with
  | none => pure (.done .next)
  | some v =>
    letOwnedTupleGo tg it v
    assign tg env v
    let mut ok := true
    for c in ifs do
      if ok then ok <- isTrue c env (eval c env)
    if ok then body else again (.compLoop e depth it acc env)
section
variable {prog : Program} {w : World} {A : Around} {R : Result -> Shared -> Prop} {s : Shared}
theorem zbc {e tg : Expr} {depth : Nat} {ifs : List Expr} {p : Pos} {body : Sem Fin} {it acc : Value} {env : Env} {n : Nat} {I : Nat -> Shared -> Prop} {R' : Value -> Shared -> Prop}
    (turn : wpAny (model prog w) A (pyNext it) (fun r s₁ => match r with
      | none => R (.ok .next) s₁
      | some v => wpAny (model prog w) A (letOwnedTupleGo tg it v) (fun _ s₁' => wpAny (model prog w) A (assign tg env v) (fun _ s₂ =>
          wpAny (model prog w) A (znh ifs env) (fun ok s₃ =>
            if ok = true then wpAny (model prog w) A body (fun f s₄ => f = .again (.compLoop e depth it acc env) /\ ∃ m, m < n /\ I m s₄) (fun _ _ => False) s₃
            else ∃ m, m < n /\ I m s₃) (fun _ _ => False) s₂) (fun _ _ => False) s₁') (fun _ _ => False) s₁) (fun _ _ => False) s) :
    wpAny (model prog w) A (zE e depth tg ifs p body it acc env) (fun f s' => match f with
      | .done fl => R (.ok fl) s'
      | .again c => c = .compLoop e depth it acc env /\ ∃ m, m < n /\ I m s') R' s := by
  unfold zE
  refine wpAny_bind (wpAny_standAt (wpAny_bind (wpAny_mono turn (fun r s₁ h₁ => ?_) fun _ _ h' => h'.elim)))
  cases r with
  | none => exact wpAny_pure h₁
  | some v =>
    refine wpAny_bind (wpAny_mono h₁ (fun _ s₁' h₁' => ?_) fun _ _ h' => h'.elim)
    refine wpAny_bind (wpAny_mono h₁' (fun _ s₂ h₂ => wpAny_bind (wpAny_mono h₂ (fun ok s₃ h₃ => ?_) fun _ _ h' => h'.elim)) fun _ _ h' => h'.elim)
    cases ok with
    | false => exact wpAny_pure ⟨rfl, h₃⟩
    | true => exact wpAny_mono h₃ (fun f s₄ h₄ => by obtain ⟨e1, h₄⟩ := h₄; subst e1; exact ⟨rfl, h₄⟩) fun _ _ h' => h'.elim
end
section
variable {X : Cx}
theorem kC {pins : List (Addr × Obj)} {e tg : Expr} {depth : Nat} {ifs : List Expr} {p : Pos} {body : Sem Fin} {acc : Value} {J : It} {fp : List Addr} {it : Addr} {tn : Nat -> Heap -> Prop} {g : TG} {tc : TT} {tm : TM} {Q : St -> Hp -> Prop} {σ0 : St} {H1 : Hp} {s : Shared} {R : Result -> Shared -> Prop}
    (hxe : X.xe = fun _ _ => False) (hc : X.calm = true) (hq : (Code.compLoop e depth (.ref it) acc X.env).quiet = true)
    (hden : (model X.prog X.w).den (.compLoop e depth (.ref it) acc X.env) = (zE e depth tg ifs p body (.ref it) acc X.env).onRaise (fun x => do noteFrame x X.env; theTreesLotGoes x)) (hun : X.A.under (.compLoop e depth (.ref it) acc X.env) = X.A)
    (hg : PG X tg g) (hts : PTs X ifs tc) (hm : PB X body (.compLoop e depth (.ref it) acc X.env) tm) (T : xU X.prog X.w X.K tg J fp it tn) (I : Inv X pins σ0 H1 s) (st : tn 0 s.heap) (f : ∀ b ∈ fp, jK X pins H1 b)
    (h : kJ J g tc tm Q σ0 H1) (hR : ∀ s' σ' H', Inv X pins σ' H' s' -> Q σ' H' -> R (.ok .next) s') : codeAny (model X.prog X.w) X.A (.compLoop e depth (.ref it) acc X.env) R s := by
  obtain ⟨W, ⟨m0, w0⟩, turn⟩ := h
  have stat : ∀ {H' : Hp}, (∀ b ∈ fp, H' b = none) -> ∀ b ∈ fp, jK X pins H' b := fun hn b hb => ⟨hn b hb, (f b hb).2⟩
  have no : ∀ (x : Value) (s' : Shared), X.xe x s' -> False := fun x s' z => by rw [hxe] at z; exact z
  refine codeAny_loop hq (fun n s' => ∃ i σ' H', Inv X pins σ' H' s' /\ tn i s'.heap /\ (∀ b ∈ fp, H' b = none) /\ W i n σ' H') (fun n s3 hI => ?_) m0 ⟨0, σ0, H1, I, st, fun b hb => (f b hb).1, w0⟩
  obtain ⟨i, σ3, H3, I3, st3, fr3, w3⟩ := hI
  rw [hden, hun]
  refine wpAny_noted (zbc (I := fun n s' => ∃ i σ' H', Inv X pins σ' H' s' /\ tn i s'.heap /\ (∀ b ∈ fp, H' b = none) /\ W i n σ' H') ?_)
  rcases turn i n σ3 H3 w3 with ⟨stop, qn⟩ | ⟨go, N, hN, step⟩
  . refine thn (T.done X rfl rfl rfl hc i pins s3 σ3 H3 _ I3 (stat fr3) st3 stop) fun r s4 zz => ?_
    obtain ⟨hr, I4⟩ := zz
    subst hr
    exact hR _ _ _ I4 qn
  . refine thn (T.item X rfl rfl rfl hc i pins s3 σ3 H3 _ I3 (stat fr3) st3 go) fun r s4 zz => ?_
    obtain ⟨u, hr, h4⟩ := zz
    subst hr
    refine thn h4 fun _ s5 zz => ?_
    obtain ⟨x, H5, I5, r5, y5, st5, fr5⟩ := zz
    have I5' := I5.pinned (stat fr5) (T.obj _ _ st5)
    have again : ∀ {σ7 : St} {H7 : Hp} {s7 : Shared}, Inv X (pins ++ nF fp s5.heap) σ7 H7 s7 -> N σ7 H7 -> ∃ m, m < n /\ ∃ i σ' H', Inv X pins σ' H' s7 /\ tn i s7.heap /\ (∀ b ∈ fp, H' b = none) /\ W i m σ' H' := fun {σ7 H7 s7} I7 n7 => by
      obtain ⟨m', hm, w7⟩ := hN σ7 H7 n7
      refine ⟨m', hm, i + 1, σ7, H7, I7.unpinned, T.keep _ _ _ st5 fun b hb o e => (I7.pin (b, o) (List.mem_append_right _ (List.mem_append_right _ (gJ hb e)))).1, fun b hb => ?_, w7⟩
      obtain ⟨o, e, d⟩ := T.obj _ _ st5 b hb
      exact (I7.pin (b, o) (List.mem_append_right _ (List.mem_append_right _ (gJ hb e)))).2.1
    refine wpAny_mono (hg _ s5 σ3 H5 x u _ I5' r5 (step x H5 y5)) (fun _ s6 zz => ?_) no
    obtain ⟨σ6, H6, I6, q6⟩ := zz
    refine wpAny_mono (hts _ s6 σ6 H6 _ I6 q6) (fun ok s7 zz => ?_) no
    obtain ⟨H7, I7, q7⟩ := zz
    cases ok with
    | false =>
      simp only [Bool.false_eq_true, if_false] at q7 ⊢
      exact again I7 q7
    | true =>
      simp only [if_true] at q7 ⊢
      exact thn (hm _ s7 σ6 H7 _ I7 q7) fun _ s8 ⟨e8, σ8, H8, I8, q8⟩ => ⟨e8, again I8 q8⟩
abbrev ziM (D : Addr) (elt : Expr) (env : Env) : Sem Unit := do let _ <- call (.builtin "list.append") [.ref D, <- eval elt env]
abbrev zgJ (D : Addr) (kx vx : Expr) (env : Env) : Sem Unit := do
  let kv <- eval kx env
  let vv <- holding [kv] (eval vx env)
  standAt { kx.pos with endLine := vx.pos.endLine, endCol := vx.pos.endCol }
  holding [kv, vv] (dictSet D kv vv)
abbrev zeT (e : Expr) (depth : Nat) (iter : Expr) (acc : Value) (env : Env) (c : Code) : Sem Fin := do
  let x <- eval iter env
  standAt iter.pos
  let x <- foldedSetIterable iter env x
  let _ <- runOwn (.compStart e depth (<- holding [x] (pyIter x)) acc env) env
  again c
theorem zeH {D : Addr} {elt : Expr} {te : TE} (hxe : X.xe = fun _ _ => False) (he : PE X elt te) : PM X (ziM D elt X.env) (sV D te) := by
  intro pins s σ H Q I h
  have no : ∀ (x : Value) (s' : Shared), X.xe x s' -> False := fun x s' z => by rw [hxe] at z; exact z
  refine wpAny_bind (wpAny_mono (he pins s σ H _ I h) (fun xv s1 zz => ?_) no)
  obtain ⟨v, H1, I1, r1, ys, hD, hl, q⟩ := zz
  refine wpAny_bind (wpAny_mono (gQ pins s1 σ H1 (.ref D) [v] _ [xv] (fun _ H' => H' = upd H1 D (.lst (ys ++ [v]))) I1 rfl (.cons r1 .nil) ⟨D, ys, v, rfl, rfl, hD, hl, rfl⟩) (fun _ s2 zz => ?_) no)
  obtain ⟨_, H2, I2, _, e2⟩ := zz
  exact wpAny_pure ⟨σ, H2, I2, by rw [e2]; exact q⟩
theorem zdj {D : Addr} {kx vx : Expr} {tk tv : TE} (hxe : X.xe = fun _ _ => False) (hk : PE X kx tk) (hv : PE X vx tv) : PM X (zgJ D kx vx X.env) (uF D tk tv) := by
  intro pins s σ H Q I h
  have no : ∀ (x : Value) (s' : Shared), X.xe x s' -> False := fun x s' z => by rw [hxe] at z; exact z
  refine wpAny_bind (wpAny_mono (hk pins s σ H _ I h) (fun kv s1 zz => ?_) no)
  obtain ⟨y, H1, I1, r1, q1⟩ := zz
  refine wpAny_bind (wpAny_holding (wpAny_mono (hv pins s1 σ H1 _ I1 q1) (fun vv s2 zz => ?_) no))
  obtain ⟨v, H2, I2, r2, kvs, k, ey, e, l, q⟩ := zz
  subst ey
  refine wpAny_bind (wpAny_standAt (wpAny_holding ?_))
  obtain ⟨z, hd, vs, rel, dd⟩ := zW I2.hok e
  have hz : vs.length <= sizeLine := by rw [<- rel.length]; exact z
  have hl : (jH kvs k v).length <= sizeLine := by have := cQ kvs k v; omega
  refine wpAny_dictSet_pairs (hsz := hz) (lQ r1) dd fun h' dd' hs => ⟨σ, _, ?_, q⟩
  have he : ∃ q, h'.get? D = some q := let ⟨q, _, _, hq, _⟩ := dd'; ⟨q, hq⟩
  exact lO I2 (by rw [e]; exact True.intro) hs he (rA hl hd (rel.put k r2) dd')
theorem yJ {elt tg1 it1 tg2 it2 : Expr} {if1 if2 : List Expr} {scope : Scope} {pos : Pos} {D : Addr} {wi : TI} {g : TG} {tc : TT} {te : TE} {c : Code} (hxe : X.xe = fun _ _ => False) (hc : X.calm = true)
    (hi : PI X tg2 it2 wi) (hg : PG X tg2 g) (hts : PTs X if2 tc) (he : PE X elt te) (hs : ∀ x, foldedSetIterable it2 X.env x = pure x) :
    PB X (zeT (.ListComp elt [⟨tg1, it1, if1, 0⟩, ⟨tg2, it2, if2, 0⟩] scope pos) 1 it2 (.ref D) X.env c) c (vK wi g tc (sV D te)) := by
  intro pins s σ H Q I h
  have no : ∀ (x : Value) (s' : Shared), X.xe x s' -> False := fun x s' z => by rw [hxe] at z; exact z
  refine wpAny_bind (wpAny_mono (hi pins s σ H _ I h) (fun v s1 h1 => ?_) no)
  refine wpAny_bind (wpAny_standAt (wpAny_bind ?_))
  rw [hs v]
  refine wpAny_pure (wpAny_bind (wpAny_holding (wpAny_mono h1 (fun itv s2 h2 => ?_) no)))
  obtain ⟨it, fp, tn, J, H2, e, I2, T, st2, f2, q⟩ := h2
  subst e
  have loop : codeAny (model X.prog X.w) X.A (.compLoop (.ListComp elt [⟨tg1, it1, if1, 0⟩, ⟨tg2, it2, if2, 0⟩] scope pos) 1 (.ref it) (.ref D) X.env)
      (fun r s' => match r with | .ok f => (∃ σ' H', Inv X pins σ' H' s' /\ Q σ' H') | .error e => cameBackBy (model X.prog X.w) X.A X.env (fun _ _ => False) e s') s2 := by
    refine kC (p := it2.pos) (body := ziM D elt X.env >>= fun _ => again _) hxe hc rfl rfl rfl hg hts (zeH hxe he).pb T I2 st2 f2 q fun s' σ' H' I' q' => ?_
    exact ⟨σ', H', I', q'⟩
  refine wpAny_bind (wpAny_runOwn (codeAny_mono (R := fun r s' => match r with | .ok f => (∃ σ' H', Inv X pins σ' H' s' /\ Q σ' H') | .error e => cameBackBy (model X.prog X.w) X.A X.env (fun _ _ => False) e s') ?_ fun r s' hr => ?_))
  . refine codeAny_of_tree ?_
    show wpAny _ X.A ((compStart (.ListComp elt [⟨tg1, it1, if1, 0⟩, ⟨tg2, it2, if2, 0⟩] scope pos) 1 (.ref it) (.ref D) X.env).onRaise (fun x => do noteFrame x X.env; standAt theWindowsPlace)) _ _ s2
    refine wpAny_notedAt ?_
    unfold compStart
    show wpAny _ _ (ask >>= _) _ _ s2
    refine wpAny_bind (wpAny_askSetting (wpAny_ite ?_))
    split
    . first
        | exact wpAny_bind (wpAny_pure (wpAny_pure (And.intro rfl loop)))
        | exact wpAny_pure (And.intro rfl loop)
    . have h' := T.self X.A 0 s2 (fun it' s' => codeAny (model X.prog X.w) X.A (.compLoop (.ListComp elt [⟨tg1, it1, if1, 0⟩, ⟨tg2, it2, if2, 0⟩] scope pos) 1 it' (.ref D) X.env) (fun r s' => match r with | .ok f => (∃ σ' H', Inv X pins σ' H' s' /\ Q σ' H') | .error e => cameBackBy (model X.prog X.w) X.A X.env (fun _ _ => False) e s') s') (fun _ _ => False) st2 loop
      first
        | exact wpAny_bind (wpAny_rule (wpAny_bind (wpAny_standAt (wpAny_bind (wpAny_mono h' (fun it' s' h' => wpAny_pure (And.intro rfl h')) fun _ _ x => x.elim)))))
        | (refine wpAny_bind (wpAny_rule ?_); show wpAny _ _ (standAt it2.pos >>= _) _ _ s2; exact wpAny_bind (wpAny_standAt (wpAny_bind (wpAny_mono h' (fun it' s' h' => wpAny_pure (And.intro rfl h')) fun _ _ x => x.elim))))
  . cases r with
    | error e => exact hr
    | ok fl => exact wpAny_pure ⟨rfl, hr⟩
end
def zbQ (wi : TI) (n : Nat) (idx : List Nat) (g : TG) (tc : TT) (wi2 : TI) (g2 : TG) (tc2 : TT) (te : TE) : TE := fun σ H Q => wi σ H fun J H1 => ∀ D, H1 D = none -> kJ J g tc (vK wi2 g2 tc2 (sV D te)) (fun _ H' => Q (.ref D) H') (gP n idx σ) (upd H1 D (.lst []))
def zhx (wi : TI) (n : Nat) (idx : List Nat) (g : TG) (tc : TT) (tk tv : TE) : TE := fun σ H Q => wi σ H fun J H1 => ∀ D, H1 D = none -> kJ J g tc (uF D tk tv) (fun _ H' => Q (.ref D) H') (gP n idx σ) (upd H1 D (.dK []))
section
variable {X : Cx}
theorem nH {e : Expr} {tg : Expr} {scope : Scope} {own fr : List Str} {idx : List Nat} {pins : List (Addr × Obj)} {σ : St} {H2 : Hp} {s2 s3 : Shared} {o0 : HO} {fp : List Addr} {it : Addr} {tn : Nat -> Heap -> Prop} {J : It} {g : TG} {tc : TT} {tm : TM} {Q : VK} {body : Env -> Sem Fin} {ifs : List Expr} {p : Pos}
    (hc : X.calm = true) (S : aR own fr scope X.env.scope) (hix : idx.length = fr.length) (hat : ∀ (k : Nat) (x : Str) (j : Nat), fr[k]? = some x -> idx[k]? = some j -> X.N[j]? = some x)
    (T : xU X.prog X.w X.K tg J fp it tn) (st2 : tn 0 s2.heap) (f2 : ∀ b ∈ fp, jK X pins H2 b)
    (hs3 : ∃ o, s3 = { s2 with heap := s2.heap.push o, toks := s2.toks }) (I3 : Inv X pins σ (upd H2 s2.heap.objs.size o0) s3)
    (hg : ∀ C s H pins fp, PG (bI X scope C (own ++ fr) s H pins fp) tg g) (ht : ∀ C s H pins fp, PTs (bI X scope C (own ++ fr) s H pins fp) ifs tc)
    (hm : ∀ C s H pins fp, PB (bI X scope C (own ++ fr) s H pins fp) (body (bI X scope C (own ++ fr) s H pins fp).env) (.compLoop e 0 (.ref it) (.ref s2.heap.objs.size) (bI X scope C (own ++ fr) s H pins fp).env) tm)
    (hq : ∀ env, (Code.compLoop e 0 (.ref it) (.ref s2.heap.objs.size) env).quiet = true)
    (hden : ∀ env, (model X.prog X.w).den (.compLoop e 0 (.ref it) (.ref s2.heap.objs.size) env) = (zE e 0 tg ifs p (body env) (.ref it) (.ref s2.heap.objs.size) env).onRaise (fun x => do noteFrame x env; theTreesLotGoes x))
    (hun : ∀ env, X.A.under (.compLoop e 0 (.ref it) (.ref s2.heap.objs.size) env) = X.A)
    (hst : ∀ env R s, codeAny (model X.prog X.w) X.A (.compLoop e 0 (.ref it) (.ref s2.heap.objs.size) env) R s -> tn 0 s.heap -> codeAny (model X.prog X.w) X.A (.compStart e 0 (.ref it) (.ref s2.heap.objs.size) env) R s)
    (h : kJ J g tc tm (fun _ H' => Q (.ref s2.heap.objs.size) H') (gP own.length idx σ) (upd H2 s2.heap.objs.size o0)) {E : Value -> Shared -> Prop} :
    wpAny (model X.prog X.w) X.A (newFunctionEnv scope X.env.globals (cL X.env scope.names []) [] X.env.qual none .none (some X.env)) (fun cenv s₄ =>
      codeAny (model X.prog X.w) X.A (.compStart e 0 (.ref it) (.ref s2.heap.objs.size) { cenv with scope := relabel scope X.env }) (compPost (model X.prog X.w) X.A X.xe none (EP X pins σ Q) (.ref s2.heap.objs.size) cenv.locals) s₄) E s3 := by
  have fpl : ∀ b ∈ fp, b < s2.heap.objs.size := fun b hb => by
    obtain ⟨o, e, _⟩ := T.obj _ _ st2 b hb
    exact Heap.lt_size e
  have f3 : ∀ b ∈ fp, jK X pins (upd H2 s2.heap.objs.size o0) b := fun b hb => ⟨by rw [aH (Nat.ne_of_lt (fpl b hb))]; exact (f2 b hb).1, (f2 b hb).2⟩
  obtain ⟨oo, hs3⟩ := hs3
  have hsz : s3.heap.objs.size = s2.heap.objs.size + 1 := by rw [hs3]; exact Heap.size_push _ _
  have st3 : tn 0 s3.heap := T.keep _ _ _ st2 fun b hb o e => by rw [hs3]; exact Heap.get?_push_of_some _ e
  refine wpAny_newFunctionEnv S.nocell (by intro y hy; simp at hy) (fun h4 hn4 hsb4 => ?_) S.kind
  have hk4 : ∀ b o, s3.heap.get? b = some o -> h4.get? b = some o := fun b o e => hsb4.extBut b o (Nat.ne_of_lt (Heap.lt_size e)) (Heap.get?_push_of_some _ e)
  have I4 := iT (idx := idx) (tk := s3.toks + ([] : List (Str × Value)).length) S hix hat I3 f3 (fun b hb => by rw [hsz]; exact Nat.lt_succ_of_lt (fpl b hb)) hn4 hk4
  have fpC : ∀ b ∈ fp, jK (bI X scope s3.heap.objs.size (own ++ fr) s3 (upd H2 s2.heap.objs.size o0) pins fp) [] (upd H2 s2.heap.objs.size o0) b := fun b hb => by
    obtain ⟨g0, g1, g2, g3, g4, g5⟩ := f3 b hb
    refine ⟨g0, ?_, fun z => ?_, .inl hb, fun x c e => g4 x c ((dS _ _ x c e).elim id fun z => nomatch z), fun p hp => ?_⟩
    . show b ≠ s3.heap.objs.size
      exact Nat.ne_of_lt (by rw [hsz]; exact Nat.lt_succ_of_lt (fpl b hb))
    . rcases List.mem_cons.mp (I3.stkSub b z) with q | q
      . exact g1 q
      . exact g2 q
    . rcases List.mem_append.mp hp with q | q
      . exact g5 p q
      . exact nomatch q
  have st4 : tn 0 h4 := T.keep _ _ _ st3 fun b _ o e => hk4 b o e
  have loop := kC (X := bI X scope s3.heap.objs.size (own ++ fr) s3 (upd H2 s2.heap.objs.size o0) pins fp) (e := e) (depth := 0) (p := p) (acc := .ref s2.heap.objs.size) (R := compPost (model X.prog X.w) X.A X.xe none (EP X pins σ Q) (.ref s2.heap.objs.size) s3.heap.objs.size)
    rfl hc (hq _) (hden _) (hun _) (hg _ _ _ _ _) (ht _ _ _ _ _) (hm _ _ _ _ _) T I4 st4 fpC h fun s' σ' H' I' q' => by
      obtain ⟨m6, hn6, _⟩ := id I'.loc
      exact ⟨m6, hn6, fun h' hsb => ⟨.ref s2.heap.objs.size, H', jS I3 f3 I' hsb, rfl, q'⟩⟩
  exact hst _ _ _ loop st4
theorem tY {elt tg iter tg2 it2 : Expr} {ifs if2 : List Expr} {scope : Scope} {own fr : List Str} {idx : List Nat} {wi : TI} {g : TG} {tc : TT} {wi2 : TI} {g2 : TG} {tc2 : TT} {te : TE} {pos : Pos} (hc : X.calm = true) (S : aR own fr scope X.env.scope)
    (hi : PI X tg iter wi) (hg : ∀ C s H pins fp, PG (bI X scope C (own ++ fr) s H pins fp) tg g) (ht : ∀ C s H pins fp, PTs (bI X scope C (own ++ fr) s H pins fp) ifs tc)
    (hi2 : ∀ C s H pins fp, PI (bI X scope C (own ++ fr) s H pins fp) tg2 it2 wi2) (hg2 : ∀ C s H pins fp, PG (bI X scope C (own ++ fr) s H pins fp) tg2 g2) (ht2 : ∀ C s H pins fp, PTs (bI X scope C (own ++ fr) s H pins fp) if2 tc2)
    (he : ∀ C s H pins fp, PE (bI X scope C (own ++ fr) s H pins fp) elt te)
    (hix : idx.length = fr.length := by rfl) (hat : ∀ (k : Nat) (x : Str) (j : Nat), fr[k]? = some x -> idx[k]? = some j -> X.N[j]? = some x)
    (hs : ∀ x, foldedSetIterable iter X.env x = pure x := by intro _; rfl) (hs2 : ∀ env x, foldedSetIterable it2 env x = pure x := by intro _ _; rfl) :
    PE X (.ListComp elt [⟨tg, iter, ifs, 0⟩, ⟨tg2, it2, if2, 0⟩] scope pos) (zbQ wi own.length idx g tc wi2 g2 tc2 te) := by
  intro pins s σ H Q I h
  rw [eval_ListComp]
  have mT : closureFor scope X.env = pure (cL X.env scope.names []) := kM fun x hx eO => I.ok.has x.1 (S.outs x hx eO)
  refine wpAny_comprehension_free (use := none) rfl hs mT S.kind S.names (thn (hi pins s σ H _ I h) fun v s1 h1 => thn h1 fun itv s2 h2 => ?_)
  obtain ⟨it, fp, tn, J, H2, e, I2, T, st2, f2, h2⟩ := h2
  subst e
  refine wpAny_newObj_type ?_
  exact nH (o0 := .lst []) (p := iter.pos) (body := fun env => zeT (.ListComp elt [⟨tg, iter, ifs, 0⟩, ⟨tg2, it2, if2, 0⟩] scope pos) 1 it2 (.ref s2.heap.objs.size) env (.compLoop (.ListComp elt [⟨tg, iter, ifs, 0⟩, ⟨tg2, it2, if2, 0⟩] scope pos) 0 (.ref it) (.ref s2.heap.objs.size) env)) hc S hix hat T st2 f2 ⟨_, rfl⟩ (I2.lnew (t' := s2.toks) .nil (Nat.zero_le _)) hg ht
    (fun C s H pins fp => yJ rfl hc (hi2 C s H pins fp) (hg2 C s H pins fp) (ht2 C s H pins fp) (he C s H pins fp) (hs2 _)) (fun _ => rfl) (fun _ => rfl) (fun _ => rfl)
    (fun env R s lo st => codeAny_compStart_list lo (T.self _ 0 _ _ _ st lo)) (h2 s2.heap.objs.size I2.fresh)
theorem tZ {kx vx tg iter : Expr} {ifs : List Expr} {scope : Scope} {own fr : List Str} {idx : List Nat} {wi : TI} {g : TG} {tc : TT} {tk tv : TE} {pos : Pos} (hc : X.calm = true) (S : aR own fr scope X.env.scope)
    (hi : PI X tg iter wi) (hg : ∀ C s H pins fp, PG (bI X scope C (own ++ fr) s H pins fp) tg g) (ht : ∀ C s H pins fp, PTs (bI X scope C (own ++ fr) s H pins fp) ifs tc)
    (hk : ∀ C s H pins fp, PE (bI X scope C (own ++ fr) s H pins fp) kx tk) (hv : ∀ C s H pins fp, PE (bI X scope C (own ++ fr) s H pins fp) vx tv)
    (hix : idx.length = fr.length := by rfl) (hat : ∀ (k : Nat) (x : Str) (j : Nat), fr[k]? = some x -> idx[k]? = some j -> X.N[j]? = some x)
    (hs : ∀ x, foldedSetIterable iter X.env x = pure x := by intro _; rfl) :
    PE X (.DictComp kx vx [⟨tg, iter, ifs, 0⟩] scope pos) (zhx wi own.length idx g tc tk tv) := by
  intro pins s σ H Q I h
  rw [arm_eval_DictComp]
  have mT : closureFor scope X.env = pure (cL X.env scope.names []) := kM fun x hx eO => I.ok.has x.1 (S.outs x hx eO)
  refine wpAny_comprehension_free (use := none) rfl hs mT S.kind S.names (thn (hi pins s σ H _ I h) fun v s1 h1 => thn h1 fun itv s2 h2 => ?_)
  obtain ⟨it, fp, tn, J, H2, e, I2, T, st2, f2, h2⟩ := h2
  subst e
  refine wpAny_newObj_type ?_
  exact nH (o0 := .dK []) (p := iter.pos) (body := fun env => zgJ s2.heap.objs.size kx vx env >>= fun _ => again (.compLoop (.DictComp kx vx [⟨tg, iter, ifs, 0⟩] scope pos) 0 (.ref it) (.ref s2.heap.objs.size) env)) hc S hix hat T st2 f2 ⟨_, rfl⟩ (I2.laid (a := s2.heap.objs.size) (o := .dK []) (t' := s2.toks) (fun _ _ q => Heap.get?_push_of_some _ q) (Nat.le_refl _) (pE s2.heap I2.big)) hg ht
    (fun C s H pins fp => (zdj rfl (hk C s H pins fp) (hv C s H pins fp)).pb) (fun _ => rfl) (fun _ => rfl) (fun _ => rfl)
    (fun env R s lo st => codeAny_compStart_dict lo (T.self _ 0 _ _ _ st lo)) (h2 s2.heap.objs.size I2.fresh)
end
theorem mU {K : W.Frag} {a : Addr} {xs : List V} {g : TG} {tc : TT} {tm : TM} {Q : St -> Hp -> Prop} {σ0 : St} {H1 : Hp} (Pv : Nat -> St -> Hp -> Prop) (h0 : Pv 0 σ0 H1) (hl : ∀ i σ H, i <= xs.length -> Pv i σ H -> SqL K H a xs)
    (hs : ∀ i x σ H, xs[i]? = some x -> Pv i σ H -> g x σ H fun σ2 H2 => tc σ2 H2 fun b H3 => if b = true then tm σ2 H3 (Pv (i + 1)) else Pv (i + 1) σ2 H3) (hd : ∀ σ H, Pv xs.length σ H -> Q σ H) : kJ (Itl K a) g tc tm Q σ0 H1 := by
  refine ⟨fun i m σ H => m = xs.length - i /\ i <= xs.length /\ Pv i σ H, ⟨xs.length, by simp, Nat.zero_le _, h0⟩, ?_⟩
  rintro i m σ H ⟨rfl, hi, p⟩
  have q := hl i σ H hi p
  by_cases hlt : i < xs.length
  . refine .inr ⟨⟨xs, xs[i], q, by simp [hlt]⟩, Pv (i + 1), fun σ' H' p' => ⟨xs.length - (i + 1), by omega, rfl, hlt, p'⟩, fun x H' y => ?_⟩
    obtain ⟨e, y⟩ := y
    subst e
    exact hs i x σ _ (y xs q) p
  . have e : i = xs.length := by omega
    subst e
    exact .inl ⟨⟨xs, q, Nat.le_refl _⟩, hd σ H p⟩
theorem lF {K : W.Frag} {a : Addr} {xs : List V} {g : TG} {tc : TT} {tm : TM} {Q : St -> Hp -> Prop} {σ0 : St} {H1 : Hp} (Pv : Nat -> St -> Hp -> Prop) (h0 : Pv 0 σ0 H1) (hl : ∀ i σ H, i <= xs.length -> Pv i σ H -> SqT K H a xs)
    (hs : ∀ i x σ H, xs[i]? = some x -> Pv i σ H -> g x σ H fun σ2 H2 => tc σ2 H2 fun b H3 => if b = true then tm σ2 H3 (Pv (i + 1)) else Pv (i + 1) σ2 H3) (hd : ∀ σ H, Pv xs.length σ H -> Q σ H) : kJ (Itt K a) g tc tm Q σ0 H1 := by
  refine ⟨fun i m σ H => m = xs.length - i /\ i <= xs.length /\ Pv i σ H, ⟨xs.length, by simp, Nat.zero_le _, h0⟩, ?_⟩
  rintro i m σ H ⟨rfl, hi, p⟩
  have q := hl i σ H hi p
  by_cases hlt : i < xs.length
  . refine .inr ⟨⟨xs, xs[i], q, by simp [hlt]⟩, Pv (i + 1), fun σ' H' p' => ⟨xs.length - (i + 1), by omega, rfl, hlt, p'⟩, fun x H' y => ?_⟩
    obtain ⟨e, y⟩ := y
    subst e
    exact hs i x σ _ (y xs q) p
  . have e : i = xs.length := by omega
    subst e
    exact .inl ⟨⟨xs, q, Nat.le_refl _⟩, hd σ H p⟩
theorem jO {A : Around} {k : Nat} (hr : iE k A) : A.units < cLine := Nat.lt_of_le_of_lt (Nat.le_add_right _ _) hr.units
section
variable {X : Cx}
theorem lG : fD X (.builtin "isinstance") (fun xs H Q => ∃ x c cv t b, xs = [x, c] /\ qB X.K H x t /\ cH c cv /\ (∀ u, cH c u -> u = cv) /\ W.kitOne X.K t cv = some b /\ Q (.bl b) H) := by
  intro pins s σ H xs us Q I r h
  obtain ⟨x, c, cv, t, b, rfl, ty, rc, hu, hk, q⟩ := h
  obtain ⟨u1, u2, rfl, r1, r2⟩ := r.two
  obtain rfl := hu _ r2
  exact zT I r1 ty hk fun tk => ⟨.bl b, H, I.tok tk, rfl, q⟩
end
theorem nW : ∀ (l : List Str) (x : Str), x ∈ eQ l ↔ x ∈ l := by
  have go : ∀ (l σ : List Str) (x : Str), x ∈ l.foldl (fun σ v => if v ∈ σ then σ else σ ++ [v]) σ ↔ x ∈ σ \/ x ∈ l := by
    intro l
    induction l with
    | nil => intro σ x; simp
    | cons v r ih =>
      intro σ x
      rw [List.foldl_cons, ih]
      by_cases hv : v ∈ σ
      . rw [if_pos hv, List.mem_cons]
        constructor
        . rintro (h | h)
          . exact .inl h
          . exact .inr (.inr h)
        . rintro (h | h | h)
          . exact .inl h
          . subst h; exact .inl hv
          . exact .inr h
      . rw [if_neg hv, List.mem_cons, List.mem_append, List.mem_singleton]
        constructor
        . rintro ((h | h) | h)
          . exact .inl h
          . exact .inr (.inl h)
          . exact .inr (.inr h)
        . rintro (h | h | h)
          . exact .inl (.inl h)
          . exact .inl (.inr h)
          . exact .inr h
  intro l x
  have := go l [] x
  simpa [eQ] using this
theorem kX (l : List Str) : (eQ l).Nodup := by
  have go : ∀ (l σ : List Str), σ.Nodup -> (l.foldl (fun σ v => if v ∈ σ then σ else σ ++ [v]) σ).Nodup := by
    intro l
    induction l with
    | nil => intro σ h; exact h
    | cons v r ih =>
      intro σ h
      rw [List.foldl_cons]
      refine ih _ ?_
      by_cases hv : v ∈ σ
      . rw [if_pos hv]; exact h
      . rw [if_neg hv, List.nodup_append]
        exact ⟨h, (by simp), fun a ha b hb e => hv (by rw [List.mem_singleton.mp hb] at e; rw [<- e]; exact ha)⟩
  exact go l [] List.nodup_nil
theorem gK {a b : List Str} (ha : a.Nodup) (hb : b.Nodup) (h : ∀ x, x ∈ a ↔ x ∈ b) : a.Perm b := by
  rw [List.perm_iff_count]
  intro x
  rw [ha.count, hb.count]
  by_cases hx : x ∈ a
  . rw [if_pos hx, if_pos ((h x).mp hx)]
  . rw [if_neg hx, if_neg (fun z => hx ((h x).mpr z))]
end L2
namespace L2
open PySem PySem.Spec PyProof.Rows PySem.W
open Builtin Builtin.ObjectAttr
abbrev fU : List Value := [.type "ValueError", .type "Exception", .type "BaseException", .type "object"]
abbrev fE (C t : Addr) (d : Option Addr) : Obj := { cls := .ref C, dict := d, data := .fields #[.ref t, .none, .none, .none, .bool false, .none] }
section
variable {prog : Program} {w : World} {A : Around} {h : Heap} {g : Array GenState} {d : Drawn} {tk : Nat} {os : OsState}
variable {nm q : Str} {C N : Addr} {bs bm : List Value} {hdct : Bool} {sn : List Str} {sub : List Value} {ab : Bool} {col : Option Bool} {dd : Option Addr} {k0 k1 k2 k3 k5 : Option Value}
theorem qU {M : Model} {E : Value -> Shared -> Prop} {rest : List Value} {Q : Unit -> Shared -> Prop} (hC : h.get? C = some (excClassObj nm q C N bs bm hdct sn sub ab col dd k0 k1 k2 k3 k5 "ValueError.__new__"))
    (hv : (Value.ref C :: bm).contains (.type "ValueError") = true) (hq : Q () ⟨h, g, d, tk, os⟩) : wpAny M A (checkBuiltinCall "ValueError.__new__" ⟨.ref C :: rest, []⟩) Q E ⟨h, g, d, tk, os⟩ := by
  have Fv := PySem.F.excBase_ValueError
  have hst := Fv.noStar
  simp only [checkBuiltinCall, Fv.newKind, Fv.newSplit, Fv.newRow]
  repeat (first | (refine wpAny_isSubtype_exc hC ?_; rw [hv]) | refine wpAny_staticBase_exc hC ?_ | refine wpAny_madeBy_exc hC ?_ | refine wpAny_loadPart_at hC ?_ | simp only [bne_self_eq_false, Bool.false_eq_true, if_false] | wp_step)
  exact hq
theorem zgd {R : Result -> Shared -> Prop} {rest : List Value} (hC : h.get? C = some (excClassObj nm q C N bs bm hdct sn sub ab col dd k0 k1 k2 k3 k5 "ValueError.__new__"))
    (hv : (Value.ref C :: bm).contains (.type "ValueError") = true) (ha : (Value.ref C :: bm).contains (.type "AttributeError") = false) (hn : (Value.ref C :: bm).contains (.type "NameError") = false) (hrest : rest.length <= sizeLine)
    (hq : R (.ok (.ret (.ref (h.objs.size + 1)))) ⟨(h.push { cls := .type "tuple", data := .seq rest.toArray }).push (fE C h.objs.size none), g, d, tk, os⟩) :
    codeAny (model prog w) A (.builtin "ValueError.__new__" ⟨.ref C :: rest, []⟩) R ⟨h, g, d, tk, os⟩ := by
  have Fv := PySem.F.excBase_ValueError
  have he := Fv.ends
  refine codeAny_builtinAt Fv.entry ?_
  unfold Builtin.«BaseException.__new__»
  refine PySem.wpAt_bind ?_
  show PySem.wpAt _ _ _ (stack >>= _) _ _ _
  refine PySem.wpAt_bind (PySem.wpAt_stack fun p below => PySem.wpAt_of_wpAny ?_)
  wp_walk
  refine PySem.wpAt_of_wpAny ?_
  rw [Fv.owner]
  repeat (first | with_reducible refine wpAny_madeHere_exc Fv.canon hC ?_ | (with_reducible refine wpAny_isSubtype_exc hC ?_; first | rw [hv] | rw [ha] | rw [hn]) | with_reducible refine wpAny_loadPart_at hC ?_ | wp_step)
  show R _ _
  rw [Heap.size_push]
  exact hq
theorem rE {E : Value -> Shared -> Prop} {rest : List Value} {fI : Addr} {Q : Fin -> Shared -> Prop} (hC : h.get? C = some (excClassObj nm q C N bs bm hdct sn sub ab col dd k0 k1 k2 k3 k5 "ValueError.__new__"))
    (hv : (Value.ref C :: bm).contains (.type "ValueError") = true) (ha : (Value.ref C :: bm).contains (.type "AttributeError") = false) (hn : (Value.ref C :: bm).contains (.type "NameError") = false) (hrest : rest.length <= sizeLine)
    (hi : Looks (model prog w) h (typeLookup (.ref C) "__init__") (some (.ref fI))) (hb : ∀ self, Looks (model prog w) h (bindSpecial (.ref fI) self) (.ref fI, [self]))
    (hq : wpAny (model prog w) A (call (.ref fI) (.ref (h.objs.size + 1) :: rest)) (fun r s' => r = .none /\ Q (.done (.ret (.ref (h.objs.size + 1)))) s') E ⟨(h.push { cls := .type "tuple", data := .seq rest.toArray }).push (fE C h.objs.size none), g, d, tk, os⟩) :
    wpAny (model prog w) A (Builtin.«type.__call__» ⟨.ref C :: rest, []⟩) Q E ⟨h, g, d, tk, os⟩ := by
  have Fv := PySem.F.excBase_ValueError
  repeat (first | (with_reducible refine wpAny_madeBy_exc hC ?_) | (with_reducible refine wpAny_loadPart_at hC ?_) | wp_step)
  refine codeAny_call_builtin_code (Code.quiet_builtin _ Fv.quiet) (qU hC hv ?_)
  refine zgd hC hv ha hn hrest ?_
  show wpAny _ _ _ _ _ _
  generalize hH : (h.push { cls := .type "tuple", data := .seq rest.toArray }).push (fE C h.objs.size none) = H2 at hq ⊢
  have kp : ∀ b o, h.get? b = some o -> H2.get? b = some o := fun b o e => by rw [<- hH]; exact Heap.get?_push_of_some _ (Heap.get?_push_of_some _ e)
  have zpC : H2.get? (h.objs.size + 1) = some (fE C h.objs.size none) := by
    rw [<- hH]
    exact Heap.get?_push_at (by rw [Heap.size_push]) rfl
  have hC2 := kp _ _ hC
  have zoq : (Value.ref C :: bm).contains (.ref C) = true := by simp
  unfold isInstance
  repeat (first | with_reducible refine wpAny_loadPart_at zpC ?_ | (with_reducible refine wpAny_isSubtype_exc hC2 ?_; rw [zoq]) | wp_step)
  show wpAny _ _ (typeLookup (.ref C) _) _ _ _
  refine (hi.keeps kp).at ?_
  refine wpAny_holding (wpAny_bind (((hb _).keeps kp).at ?_))
  refine wpAny_bind (wpAny_mono hq (fun r s' hr => ?_) fun _ _ z => z)
  obtain ⟨rfl, hQ⟩ := hr
  wp_walk
  exact hQ
theorem zeg {E : Value -> Shared -> Prop} {rest : List Value} {fI : Addr} {Q : Value -> Shared -> Prop} (hC : h.get? C = some (excClassObj nm q C N bs bm hdct sn sub ab col dd k0 k1 k2 k3 k5 "ValueError.__new__"))
    (hv : (Value.ref C :: bm).contains (.type "ValueError") = true) (ha : (Value.ref C :: bm).contains (.type "AttributeError") = false) (hn : (Value.ref C :: bm).contains (.type "NameError") = false) (hrest : rest.length <= sizeLine)
    (hi : Looks (model prog w) h (typeLookup (.ref C) "__init__") (some (.ref fI))) (hb : ∀ self, Looks (model prog w) h (bindSpecial (.ref fI) self) (.ref fI, [self]))
    (hq : wpAny (model prog w) (A.under (.builtin "type.__call__" ⟨.ref C :: rest, []⟩)) (call (.ref fI) (.ref (h.objs.size + 1) :: rest)) (fun r s' => r = .none /\ Q (.ref (h.objs.size + 1)) s') E
      ⟨(h.push { cls := .type "tuple", data := .seq rest.toArray }).push (fE C h.objs.size none), g, d, tk, os⟩) : wpAny (model prog w) A (call (.ref C) rest) Q E ⟨h, g, d, tk, os⟩ := by
  have f1 := tc_lookup
  have f2 := tc_bind (.ref C)
  have hT : (⟨h, g, d, tk, os⟩ : Shared).TypeIs (.ref C) "type" := ⟨_, hC, rfl⟩
  refine wpAny_call (codeAny_of_tree ?_)
  show wpAny _ _ (callAny (.ref C) _) _ _ _
  repeat (any_goals (first | assumption | (with_reducible refine wpAny_loadPart_at hC ?_) | wp_step))
  refine ⟨rfl, ?_⟩
  exact codeAny_call_builtin_at (Code.quiet_builtin _ (by decide +kernel)) entry_typeCall (wpAny_check_type_call_sub hC (rE hC hv ha hn hrest hi hb hq))
end
end L2
namespace L2
open PySem PySem.Spec PyProof.Rows PySem.W
open Builtin Builtin.ObjectAttr
structure XC (K : Frag) (C M : Addr) : Prop where
  at_ : ∃ nm q N bs sn sub ab col dd k0 k1 k2 k3 k5, K.lookup C = some (excClassObj nm q C N bs (.ref M :: fU) true sn sub ab col dd k0 k1 k2 k3 k5 "ValueError.__new__")
  ga : findIn K (.ref C) "__getattribute__" = some (some (.builtin "BaseException.__getattribute__"))
  gb : findIn K (.ref C) "__getattr__" = some none
  hd : hasDictIn K C = true
  sa : findIn K (.ref C) "__setattr__" = some (some (.builtin "object.__setattr__"))
  kc : findIn K (.ref C) "__class__" = some (some (.builtin "object.__class__"))
  kg : specialIn K (.builtin "object.__class__") "__get__" = some (some (.builtin "getset_descriptor.__get__"))
  kt : takesIn K (.builtin "object.__class__") = some true
  mo : mroIn K C (.type "object") = some true
  kp : keepIn K (.ref C) = true
section
variable {prog : Program} {w : World} {A : Around} {E : Value -> Shared -> Prop} {s : Shared} {K : Frag} {x C M t : Addr} {ox : Obj} {od : Option Obj} {name : Str} {v : Value}
theorem uS {fill expr : Bool} {Q : Value -> Shared -> Prop} {tk : Tok} (X : K.In s.heap) (I : InstAt s.heap x ox C od) (hga : findIn K (.ref C) "__getattribute__" = some (some (.builtin "BaseException.__getattribute__"))) (hk : findIn K (.ref C) "__getattr__" = some none)
    (sub : Looks (model prog w) s.heap (isInstance (.ref x) (.type "BaseException")) true)
    (h : wpAny (model prog w) A.in1 (Builtin.«object.__getattribute__» ⟨[.ref x, .str name tk], []⟩)
      (fun fin s' => match fin with | .done (.ret v) => wpAny (model prog w) A (handedOut v) Q E s' | .done _ => False | .again c' => c'.quiet = true /\ codeAny (model prog w) A c' (fun r s'' => match r with | .ok (.ret v) => wpAny (model prog w) A (handedOut v) Q E s'' | _ => False) s') (fun _ _ => False) s) :
    wpAny (model prog w) A (getAttrBy (.ref x) (.str name tk) fill expr) Q E s := by
  obtain ⟨hh, g, d, t, os⟩ := s
  have L0 := I.type (M := model prog w)
  have L1 := looks_findIn (M := model prog w) X hga
  have L2 := looks_findIn (M := model prog w) X hk
  have hx2 : (Value.builtin "BaseException.__getattribute__" == Value.builtin "object.__getattribute__") = false := by decide +kernel
  have hx1 : (onTheHeap (Value.ref C) && Value.builtin "BaseException.__getattribute__" == Value.builtin "object.__getattribute__") = false := by rw [hx2]; rfl
  have hx0 : (expr && onTheHeap (Value.builtin "BaseException.__getattribute__")) = false := by cases expr <;> rfl
  unfold getAttrBy
  refine wpAny_holding (wpAny_bind (L0.at (wpAny_bind (L1.at ?_))))
  simp only [hx1, Bool.false_eq_true, if_false]
  unfold getAttrByItsOwn
  refine wpAny_bind (L2.at (wpAny_bind (wpAny_attempt (wpAny_holding ?_))))
  unfold callGetattribute
  rw [hx0]
  simp only [Bool.false_eq_true, if_false]
  unfold boundAndCalled
  rw [PySem.F.excAttr_ValueError.ga.bind]
  refine wpAny_bind (wpAny_pure (wpAny_call ?_))
  refine codeAny_call_builtin PySem.F.excAttr_ValueError.ga.plain PySem.F.entry_bexc_ga (check_slot (i := "BaseException.__getattribute__") (owner := "BaseException") (n := "__getattribute__") (by decide +kernel) (by decide +kernel) sub (PySem.F.args_bexc_ga _ _) ?_)
  refine wpAny_mono h (fun fin s' z => ?_) fun _ _ z => z.elim
  rcases fin with (_ | _ | _ | _) | _
  all_goals first | exact z | exact z.elim | skip
  exact ⟨z.1, codeAny_mono z.2 fun r s'' y => by rcases r with _ | (_ | _ | _ | _) <;> first | exact y | exact y.elim⟩
theorem i9 {fill expr : Bool} {Q : Value -> Shared -> Prop} {tk : Tok} (X : K.In s.heap) (I : InstAt s.heap x ox C od) (hga : findIn K (.ref C) "__getattribute__" = some (some (.builtin "BaseException.__getattribute__"))) (hk : findIn K (.ref C) "__getattr__" = some none)
    (sub : Looks (model prog w) s.heap (isInstance (.ref x) (.type "BaseException")) true) (hf : findObj K C od name = some (.value v)) (hh : handedIn v = true) (h : Q v s) : wpAny (model prog w) A (getAttrBy (.ref x) (.str name tk) fill expr) Q E s := by
  refine uS X I hga hk sub ?_
  obtain ⟨hh', g, d, t, os⟩ := s
  have L0 := I.type (M := model prog w)
  have L1 := looks_find (M := model prog w) X I hf
  refine wpAny_bind (wpAny_pure (wpAny_bind (wpAny_pure (wpAny_bind (L0.at (wpAny_bind (L1.at ?_)))))))
  refine wpAny_pure ?_
  show wpAny _ _ (handedOut v) _ _ _
  rw [handedOut_of hh]; exact wpAny_pure h
theorem j4 {fill expr : Bool} {Q : Value -> Shared -> Prop} {tk : Tok} (X : K.In s.heap) (I : InstAt s.heap x ox C od) (hga : findIn K (.ref C) "__getattribute__" = some (some (.builtin "BaseException.__getattribute__"))) (hk : findIn K (.ref C) "__getattr__" = some none)
    (sub : Looks (model prog w) s.heap (isInstance (.ref x) (.type "BaseException")) true) (hf : findObj K C od name = some (.bind (.builtin "getset_descriptor.__get__") (.builtin "object.__class__"))) (hm : mroIn K C (.type "object") = some true) (h : Q (.ref C) s) : wpAny (model prog w) A (getAttrBy (.ref x) (.str name tk) fill expr) Q E s := by
  refine uS X I hga hk sub ?_
  obtain ⟨hh', g, d, t, os⟩ := s
  have L0 := I.type (M := model prog w)
  have L1 := looks_find (M := model prog w) X I hf
  refine wpAny_bind (wpAny_pure (wpAny_bind (wpAny_pure (wpAny_bind (L0.at (wpAny_bind (L1.at ?_)))))))
  show wpAny _ _ (holding [.builtin "object.__class__"] (call (.builtin "getset_descriptor.__get__") [.builtin "object.__class__", .ref x, .ref C]) >>= ret) _ _ _
  refine wpAny_bind (wpAny_holding (wpAny_call (class_get (od := od) X I hm ?_)))
  exact wpAny_pure (handed_on rfl h)
theorem XC.mro {Md : Model} {h : Heap} (X : K.In h) (xc : XC K C M) : Looks Md h (mroOf (.ref C)) (.ref C :: .ref M :: fU) := by
  obtain ⟨nm, q, N, bs, sn, sub, ab, col, dd, k0, k1, k2, k3, k5, e⟩ := xc.at_
  have hc : clsIn K C = some { name := nm, bases := bs, mro := .ref C :: .ref M :: fU, ns := N, qualname := q, hasDict := true, slotNames := sn, subclasses := sub, abstract := ab, collection := col, hasDel := false } := by unfold clsIn; rw [e]
  exact (looks_clsIn X hc).andThen .now
theorem XC.isB {Md : Model} {h : Heap} (X : K.In h) (xc : XC K C M) (I : InstAt h x ox C od) : Looks Md h (isInstance (.ref x) (.type "BaseException")) true := by
  have hc : (Value.ref C :: Value.ref M :: fU).contains (.type "BaseException") = true := by simp [fU]
  exact I.type.andThen (hc ▸ (xc.mro X).andThen .now)
theorem zcz {R : Result -> Shared -> Prop} {tk : Tok} (X : K.In s.heap) (xc : XC K C M) (I : InstAt s.heap x ox C od) (ha : findIn K (.ref C) name = some none)
    (h : wpAny (model prog w) A.in1 (storeInOwnDict (.ref x) (.ref C) (.str name tk) name v false) (fun fin s' => match fin with | .done f => R (.ok f) s' | .again c' => c'.quiet = true /\ codeAny (model prog w) A c' R s') (fun e s' => R (.error e) s') s) :
    codeAny (model prog w) A (.call (.builtin "object.__setattr__") ⟨[.ref x, .str name tk, v], []⟩) R s := by
  have SF := PySem.F.store_object
  have sub : Looks (model prog w) s.heap (isInstance (.ref x) (.type "object")) true := I.type.andThen (looks_mroIn X xc.mo)
  refine codeAny_call_builtin SF.slot.plain SF.entry (@check_slot (model prog w) _ _ s "object.__setattr__" "object" "__setattr__" (.ref x) [.str name tk, v] [] _ SF.kind SF.split sub (SF.args _ _ _) ?_)
  rw [osa_eq, refuse_eq]
  refine wpAny_bind (wpAny_bind (I.type.here (wpAny_bind ((xc.mro X).here ?_))))
  rw [refuseLoop_ref, refuseLoop_ref, PySem.F.store_ValueError.passes]
  refine wpAny_pure (wpAny_bind (I.type.here (wpAny_bind ((looks_findIn X ha).here ?_))))
  exact wpAny_bind (wpAny_pure h)
theorem zdP {Q : Unit -> Shared -> Prop} (X : K.In s.heap) (xc : XC K C M) (hx : s.heap.get? x = some (fE C t none)) (ha : findIn K (.ref C) name = some none)
    (h : ∀ h', h'.get? x = some (fE C t (some s.heap.objs.size)) -> h'.Ns1 s.heap.objs.size (fun y => if y = name then some v else none) -> (∀ b o, b ≠ x -> s.heap.get? b = some o -> h'.get? b = some o) -> Q () { s with heap := h', toks := s.toks + 2 }) :
    wpAny (model prog w) A (setAttr (.ref x) name v) Q E s := by
  have J : InstAt s.heap x (fE C t none) C none := ⟨hx, rfl, rfl, trivial⟩
  refine set_plain X J xc.sa (zcz (s := { s with toks := s.toks + 1 }) X xc J ha ?_)
  obtain ⟨cd, hc, hd'⟩ := any_some xc.hd
  refine wpAny_bind (wpAny_pure (wpAny_bind (wpAny_bind (wpAny_loadPart hx (wpAny_bind (Looks.here (s := { s with toks := s.toks + 1 }) (looks_clsIn X hc) ?_))))))
  rw [hd']
  have hxs : x ≠ s.heap.objs.size := Nat.ne_of_lt (Heap.lt_size hx)
  have hx1 : (s.heap.push { cls := .type "dict", data := .dict #[] }).get? x = some (fE C t none) := Heap.get?_push_of_some _ hx
  show wpAny _ _ (alloc { cls := .type "dict", data := .dict #[] } >>= _) _ _ _
  refine wpAny_bind (wpAny_alloc ?_)
  refine wpAny_bind (wpAny_update hx1 ?_)
  refine wpAny_pure (wpAny_bind (wpAny_pure (wpAny_bind ?_)))
  have hgd : ((s.heap.push { cls := .type "dict", data := .dict #[] }).update x fun o => { o with dict := some s.heap.objs.size }).get? s.heap.objs.size = some { cls := .type "dict", data := .dict #[] } :=
    (Heap.get?_update_ne _ _ _ _ hxs.symm).trans (Heap.get?_push_at rfl rfl)
  have hnd : ((s.heap.push { cls := .type "dict", data := .dict #[] }).update x fun o => { o with dict := some s.heap.objs.size }).Ns s.heap.objs.size (fun _ => none) := ⟨_, #[], _, hgd, rfl, fun e he => absurd he (by simp), fun _ => rfl⟩
  refine wpAny_nsSet1 (Heap.Ns1.of_empty hnd) fun h' hn' hs => ?_
  obtain ⟨oD, esD, epD, hoD, hdD, hcD⟩ := hn'.count (Within.cons name v Within.nil)
  refine wpAny_bind (wpAny_lookBehind hoD (by rw [hdD]; exact pastItsLine_dict (Nat.le_trans hcD (by rw [List.length_cons, List.length_nil, sizeLine_eq]; decide))) ?_)
  refine wpAny_pure (h h' ((hs.2 x hxs).trans (Heap.get?_update_self _ hx1 rfl)) hn' fun b o hb e => ?_)
  exact (hs.2 b (Nat.ne_of_lt (Heap.lt_size e))).trans ((Heap.get?_update_ne _ _ _ _ hb).trans (Heap.get?_push_of_some _ e))
theorem zdN {Q : Unit -> Shared -> Prop} {dx : Addr} {mA : Str -> Option Value} {ns : List Str} (X : K.In s.heap) (xc : XC K C M) (hx : s.heap.get? x = some (fE C t (some dx))) (hn : s.heap.Ns1 dx mA) (hne : dx ≠ x) (ha : findIn K (.ref C) name = some none) (hw : Within mA ns) (hsz : ns.length < 1000)
    (h : ∀ h', h'.Ns1 dx (fun y => if y = name then some v else mA y) -> Heap.SameBut dx s.heap h' -> Q () { s with heap := h', toks := s.toks + 2 }) : wpAny (model prog w) A (setAttr (.ref x) name v) Q E s := by
  obtain ⟨od, hod, _⟩ := lJ hn
  have J : InstAt s.heap x (fE C t (some dx)) C (some od) := ⟨hx, rfl, rfl, hod⟩
  refine set_plain X J xc.sa (zcz (s := { s with toks := s.toks + 1 }) X xc J ha ?_)
  obtain ⟨cd, hc, hd'⟩ := any_some xc.hd
  refine wpAny_bind (wpAny_pure (wpAny_bind (wpAny_bind (wpAny_loadPart hx (wpAny_bind (Looks.here (s := { s with toks := s.toks + 1 }) (looks_clsIn X hc) ?_))))))
  rw [hd']
  refine wpAny_pure (a := some dx) (wpAny_bind (wpAny_pure (wpAny_bind ?_)))
  refine wpAny_nsSet1 (s := { s with toks := s.toks + 1 }) hn fun h' hn' hs => ?_
  obtain ⟨oD, esD, epD, hoD, hdD, hcD⟩ := hn'.count (Within.cons name v hw)
  refine wpAny_bind (wpAny_lookBehind hoD (by rw [hdD]; exact pastItsLine_dict (Nat.le_trans hcD (by rw [List.length_cons, sizeLine_eq]; omega))) ?_)
  exact wpAny_pure (h h' hn' hs)
theorem zgw (xc : XC K C M) : KitX K (.ref x) (.ref C) (fun h => InstAt h x ox C od) where
  ty := fun _ _ _ I => I.type
  it := fun _ _ X _ => by
    obtain ⟨nm, q, N, bs, sn, sub, ab, col, dd, k0, k1, k2, k3, k5, e⟩ := xc.at_
    intro A' Q' E' s' k q'
    unfold isType loadHead
    exact wpAny_bind (wpAny_loadPart (k _ _ (X _ _ e)) (wpAny_pure q'))
  ne := fun h tp dd its n sl X htp => by
    obtain ⟨nm, q, N, bs, sn, sub, ab, col, dd', k0, k1, k2, k3, k5, e⟩ := xc.at_
    refine Bool.eq_false_iff.mpr fun z => ?_
    have e2 : C = tp := Value.ref.inj (beq_iff_eq.mp z)
    rw [e2] at e
    have z2 := congrArg Obj.data (Option.some.inj ((X _ _ e).symm.trans htp))
    cases z2
  ca := fun X I k => by
    have hf : findObj K C od "__class__" = some (.bind (.builtin "getset_descriptor.__get__") (.builtin "object.__class__")) := by
      obtain ⟨cd, hc, _⟩ := any_some xc.hd
      unfold findObj
      rw [hc, Option.bind_some, xc.kc, Option.bind_some]
      simp [xc.kg, xc.kt]
    unfold getAttr? getAttrBy?
    exact wpAny_bind (wpAny_mkText (wpAny_bind (wpAny_attempt (j4 X I xc.ga xc.gb (xc.isB X I) hf xc.mo (wpAny_pure k)))))
end
end L2
namespace L2
open PySem PySem.Spec PyProof.Rows
def rZ (e C t : Addr) (d : Option Addr) : HO := .ext fun h => h.get? e = some (fE C t d)
def c9 (dx : Addr) (fs : List (Str × V)) : HO := .ext fun h => fs.length <= 900 /\ ∃ mA, h.Ns1 dx mA /\ (∀ f, oI (fs.lookup f) (mA f)) /\ PySem.Within mA (fs.map (·.1))
def XAt (H : Hp) (e C : Addr) (fs : List (Str × V)) : Prop := ∃ t, (H e = some (rZ e C t none) /\ fs = []) \/ ∃ dx, H e = some (rZ e C t (some dx)) /\ H dx = some (c9 dx fs) /\ dx ≠ e
theorem zP {P : Program} {w : World} {H : Hp} {h : Heap} {e C t : Addr} {d : Option Addr} (q : h.get? e = some (fE C t d)) : cJ P w H h e (rZ e C t d) :=
  ⟨q, ⟨_, q⟩, fun _ _ p k => k _ p⟩
theorem zaf {P : Program} {w : World} {H : Hp} {h : Heap} {dx : Addr} {fs : List (Str × V)} {mA : Str -> Option Value} (hl : fs.length <= 900) (n : h.Ns1 dx mA) (r : ∀ f, oI (fs.lookup f) (mA f)) (w' : PySem.Within mA (fs.map (·.1))) : cJ P w H h dx (c9 dx fs) := by
  refine ⟨⟨hl, mA, n, r, w'⟩, ?_, fun h1 h2 ⟨hl, mA, n, r, w'⟩ k => ?_⟩
  . obtain ⟨o, es, ep, e, _⟩ := n
    exact ⟨o, e⟩
  . obtain ⟨o, es, ep, e, z⟩ := n
    exact ⟨hl, mA, ⟨o, es, ep, k o e, z⟩, r, w'⟩
section
variable {X : Cx} {pins : List (Addr × Obj)} {σ : St} {H : Hp} {s : Shared}
theorem Inv.exc (I : Inv X pins σ H s) {e C t : Addr} {d : Option Addr} (h : H e = some (rZ e C t d)) : s.heap.get? e = some (fE C t d) := (I.hok e _ h).1
theorem Inv.writeLaid {h' : Heap} {x a : Addr} {o1 o2 : HO} {t' : Nat} (I : Inv X pins σ H s) (mu : Mut (H x)) (k : ∀ b u, b ≠ x -> s.heap.get? b = some u -> h'.get? b = some u) (hx : ∃ u, h'.get? x = some u) (ha : s.heap.objs.size <= a)
    (n1 : cJ X.prog X.w (upd (upd H x o1) a o2) h' x o1) (n2 : cJ X.prog X.w (upd (upd H x o1) a o2) h' a o2) : Inv X pins σ (upd (upd H x o1) a o2) { s with heap := h', toks := t' } := by
  have nx : ∀ b, H b = none -> b ≠ x := fun b n z => by subst z; rw [n] at mu; exact mu
  have na : ∀ b ob, s.heap.get? b = some ob -> b ≠ a := fun b ob e => Nat.ne_of_lt (Nat.lt_of_lt_of_le (Heap.lt_size e) ha)
  have fa : H a = none := I.hok.fresh ha
  have nm : ∀ b u, H b = some u -> ¬ Mut (some u) -> b ≠ x := fun b u q nmu z => by subst z; rw [q] at mu; exact nmu mu
  have lift : ∀ b u, H b = some u -> ¬ Mut (some u) -> upd (upd H x o1) a o2 b = some u := fun b u q nmu => by rw [aH (aF q fa), aH (nm b u q nmu)]; exact q
  have xa : x ≠ a := fun z => by rw [z, fa] at mu; exact mu
  refine I.step (g' := s.gens) (d' := s.drawn) (ch := []) (fun _ z => nomatch z) (fun b ob _ _ _ e n => k b ob (nx b n) e) (fun b ob _ _ _ e n => ⟨ob.slots, k b ob (nx b n) e⟩) (fun b ob _ e n => by rw [aH (na b ob e), aH (nx b n)]; exact n)
    (fun b ob _ e => ?_) (fun b xs e => lift b _ e fun z => z) (fun b ob u e => lift b _ e fun z => z) (fun b ps e => ⟨#[], by rw [lift b _ e fun z => z]; simp⟩) (fun m hm => ?_) (fun b u e => ?_) I.bare
  . by_cases hb : b = x
    . rw [hb]; exact hx
    . exact ⟨ob, k b ob hb e⟩
  . obtain ⟨ob, es, ep, ho, r⟩ := hm
    exact ⟨ob, es, ep, k _ ob (nx _ I.free) ho, r⟩
  . by_cases hb : b = a
    . rw [hb, aB] at e; cases e; rw [hb]; exact n2
    . rw [aH hb] at e
      by_cases hbx : b = x
      . rw [hbx, aB] at e; cases e; rw [hbx]; exact n1
      . rw [aH hbx] at e
        refine (I.hok b u e).stay (fun c v hc q => k c v ?_ q) (fun c q => lift c _ q fun z => z) fun c xs q => lift c _ q fun z => z
        rcases hc with z | z
        . rw [z]; exact hbx
        . exact nm c _ z fun z => z
end
section
variable {X : Cx} {C M : Addr}
def zmV (C : Addr) (ta tv : TE) (f : Str) : TS := fun D σ H => tv σ H fun y H1 => ta σ H1 fun x H2 => ∃ e, x = .ref e /\
  ((∃ t, H2 e = some (rZ e C t none) /\ ∀ dx, H2 dx = none -> dx ≠ e -> D.nx σ (upd (upd H2 e (rZ e C t (some dx))) dx (c9 dx [(f, y)]))) \/
   ∃ t dx fs, H2 e = some (rZ e C t (some dx)) /\ H2 dx = some (c9 dx fs) /\ dx ≠ e /\ fs.length < 900 /\ D.nx σ (upd H2 dx (c9 dx (jI f y fs))))
theorem zfd {o value : Expr} {f : Str} {ta tv : TE} {pos pos' : Pos} (xc : XC X.K C M) (hf : W.findIn X.K (.ref C) f = some none) (ha : PE X o ta) (hv : PE X value tv) (hs : swapsWith value (some (.Attribute o f pos')) pos.line X.env = pure false := by rfl) :
    PS X (.Assign [.Attribute o f pos'] value pos) (zmV C ta tv f) := by
  intro pins s σ H D I h
  refine plainObj_wpAny_Assign_Attribute (thn (hv pins s σ H _ I h) fun v s1 ⟨y, H1, I1, ry, q1⟩ => thn (ha pins s1 σ H1 _ I1 q1) fun u s2 zz => ?_) hs
  obtain ⟨x, H2, I2, rx, q2⟩ := zz
  obtain ⟨e, rfl, q2⟩ := q2
  cases rx
  rcases q2 with ⟨t, he, q⟩ | ⟨t, dx, fs, he, hd, hne, hl, q⟩
  . have hx := I2.exc he
    have hxs : s2.heap.objs.size ≠ e := Nat.ne_of_gt (Heap.lt_size hx)
    refine zdP I2.kIn xc hx hf fun h' a1 a2 a3 => ⟨σ, _, I2.writeLaid (o1 := rZ e C t (some s2.heap.objs.size)) (o2 := c9 s2.heap.objs.size [(f, y)]) (t' := s2.toks + 2) (by rw [he]; exact trivial) a3 ⟨_, a1⟩ (Nat.le_refl _) (zP a1) (zaf (show 1 <= 900 by decide) a2 (fun g => ?_) ?_), q _ I2.fresh hxs⟩
    . show oI (List.lookup g (jI f y [])) _
      rw [gW]
      by_cases hg : g = f
      . simp only [if_pos hg]; exact ry
      . simp only [if_neg hg]; trivial
    . exact PySem.Within.cons f v PySem.Within.nil
  . have hx := I2.exc he
    obtain ⟨_, mA, hn, hr, hw⟩ := (I2.hok dx _ hd).1
    refine zdN I2.kIn xc hx hn hne hf hw (by rw [List.length_map]; omega) fun h' a1 a2 => ?_
    have hok : cJ X.prog X.w (upd H2 dx (c9 dx (jI f y fs))) h' dx (c9 dx (jI f y fs)) := by
      refine zaf (Nat.le_trans (jF f y fs) (by omega)) a1 (fun g => ?_) ?_
      . rw [gW]
        by_cases hg : g = f
        . simp only [if_pos hg]; exact ry
        . simp only [if_neg hg]; exact hr g
      . intro g hg
        have q := (jM f y fs)
        by_cases hgf : g = f
        . rw [hgf]; exact q.1
        . simp only [if_neg hgf] at hg
          exact q.2 g (hw g hg)
    obtain ⟨o', es', ep', e', _⟩ := id a1
    exact ⟨σ, _, I2.write (o := c9 dx (jI f y fs)) (t' := s2.toks + 2) (by rw [hd]; exact trivial) (.inl rfl) (fun b u hb q => (a2.2 b hb).trans q) ⟨_, e'⟩ hok, q⟩
def zkj (C : Addr) (sp : Sp) (t : TA) : TE := fun σ H Q => t σ H fun vs H1 => vs.length <= 100 /\ ∀ e u, H1 e = none -> H1 u = none -> u ≠ e ->
  sp (.ref e :: vs) (upd (upd H1 u (.tup vs)) e (rZ e C u none)) (fun v H2 => v = .non /\ Q (.ref e) H2) E0
theorem zoN (C M : Addr) : (Value.ref C :: Value.ref M :: fU).contains (.type "ValueError") = true /\ (Value.ref C :: Value.ref M :: fU).contains (.type "AttributeError") = false /\ (Value.ref C :: Value.ref M :: fU).contains (.type "NameError") = false := by
  refine ⟨?_, ?_, ?_⟩ <;> simp [fU]
theorem yE {k : Nat} {f : Addr} {fd : FuncData} {ps : List Str} {sp : Sp} {pins : List (Addr × Obj)} {σ : St} {H : Hp} {s : Shared} {Q : VK} {us : List Value} {vs : List V} (xc : XC X.K C M) (hin : W.findIn X.K (.ref C) "__init__" = some (some (.ref f))) (hfn : W.isFn X.K (.ref f) = true)
    (F : FnOk X.prog X.w X.K X.mg X.base CX0 k f fd ps sp) (hr : iE (k + 1) X.A) (hb : gI X.K fd ps []) (I : Inv X pins σ H s) (r : cA vs us) (hl : vs.length <= 100)
    (h : ∀ e u, H e = none -> H u = none -> u ≠ e -> sp (.ref e :: vs) (upd (upd H u (.tup vs)) e (rZ e C u none)) (fun v H2 => v = .non /\ Q (.ref e) H2) E0) :
    wpAny (model X.prog X.w) X.A (call (.ref C) us) (EP X pins σ Q) X.xe s := by
  obtain ⟨nm, q, N, bs, sn, sub, ab, col, dd, k0, k1, k2, k3, k5, e⟩ := xc.at_
  obtain ⟨c1, c2, c3⟩ := zoN C M
  have hz : (100 : Nat) <= sizeLine := by rw [sizeLine_eq]; decide
  have hq := h (s.heap.objs.size + 1) s.heap.objs.size (I.hok.fresh (Nat.le_succ _)) I.fresh (Nat.ne_of_lt (Nat.lt_succ_self _))
  have I1 : Inv X pins σ (upd H s.heap.objs.size (.tup vs)) { s with heap := s.heap.push { cls := .type "tuple", data := .seq us.toArray }, toks := s.toks } :=
    I.laid (o := .tup vs) (fun _ _ z => Heap.get?_push_of_some _ z) (Nat.le_refl _) ⟨Nat.le_trans hl hz, us, r, IsTup.new _ _⟩
  have I2 : Inv X pins σ (upd (upd H s.heap.objs.size (.tup vs)) (s.heap.objs.size + 1) (rZ (s.heap.objs.size + 1) C s.heap.objs.size none))
      { s with heap := (s.heap.push { cls := .type "tuple", data := .seq us.toArray }).push (fE C s.heap.objs.size none), toks := s.toks } :=
    I1.laid (o := rZ (s.heap.objs.size + 1) C s.heap.objs.size none) (fun _ _ z => Heap.get?_push_of_some _ z) (by rw [Heap.size_push]; exact Nat.le_refl _) (zP (Heap.get?_push_at (by rw [Heap.size_push]) rfl))
  have r2 : cA (V.ref (s.heap.objs.size + 1) :: vs) (Value.ref (s.heap.objs.size + 1) :: us) := .cons rfl r
  have dR : (Value.ref (s.heap.objs.size + 1) :: us).length = ps.length := by rw [<- r2.length]; exact F.len _ _ _ _ hq
  obtain ⟨hh, g, d, tk, os⟩ := s
  refine zeg (I.kIn _ _ e) c1 c2 c3 (by rw [<- r.length]; exact Nat.le_trans hl hz) (PySem.W.looks_findIn I.kIn hin) (fun self => PySem.W.bind_fn I.kIn self (beq_iff_eq.mp hfn)) (wpAny_call ?_)
  have bb := hb ⟨_, g, d, tk, os⟩ (Value.ref (hh.objs.size + 1) :: us) I2.kIn (by rw [List.append_nil]; exact dR)
  rw [List.append_nil] at bb
  refine codeAny_mono (F.run _ X.stack _ _ ⟨Value.ref (hh.objs.size + 1) :: us, []⟩ (Value.ref (hh.objs.size + 1) :: us) _ _ E0 (hr.make C us []) (I2.env0.make C us []) bb r2 hq) fun r s' hq' => ?_
  cases r with
  | error e => exact False.elim hq'
  | ok fl =>
    cases fl with
    | ret u =>
      obtain ⟨v, H', I3, rv, ev, q3⟩ := I2.after hq'
      subst ev
      exact ⟨rv, ⟨V.ref (hh.objs.size + 1), H', I3, rfl, q3⟩⟩
    | next => exact False.elim hq'
    | brk => exact False.elim hq'
    | cont => exact False.elim hq'
theorem tP {k : Nat} {f : Addr} {fd : FuncData} {ps : List Str} {sp : Sp} {x : Str} {p pos : Pos} {e : Expr} {es : List Expr} {t : TA} (xc : XC X.K C M) (hin : W.findIn X.K (.ref C) "__init__" = some (some (.ref f))) (hfn : W.isFn X.K (.ref f) = true)
    (F : FnOk X.prog X.w X.K X.mg X.base CX0 k f fd ps sp) (hr : iE (k + 1) X.A) (hg : Gl X x) (hm : X.mg x = some (.ref C)) (hb : gI X.K fd ps []) (ha : PA X (e :: es) t)
    (hdb : (x == ("__debug__" : Str)) = false := by decide) (he : starEach (e :: es) X.env = (false, eval e X.env) :: starEach es X.env := by rfl) (hpl : (backTo pos (starEach es X.env)).any (·.1) = false := by rfl) :
    PE X (.Call (.Name x p) (e :: es) [] pos) (zkj C sp t) := by
  intro pins s σ H Q I h
  refine wpAny_Call_Name_kw (lW I hg hm ?_ hdb)
  refine PySem.W.callWith_K (h₀ := X.base) I.ok.mod.kin xc.kp (thn (ha pos pins s σ H _ I h) fun us s1 ⟨vs, H1, I1, r, hl, q⟩ => ⟨I1.kIn, ?_⟩) he hpl
  exact yE xc hin hfn F hr hb I1 r hl q
end
def Itz (K : W.Frag) (a b : Addr) : It :=
  ⟨fun i H => ∃ xs ys x y, SqL K H a xs /\ SqL K H b ys /\ xs[i]? = some x /\ ys[i]? = some y,
   fun i H v H' => ∃ T, H T = none /\ v = .ref T /\ ∀ xs ys, SqL K H a xs -> SqL K H b ys -> ∃ x y, xs[i]? = some x /\ ys[i]? = some y /\ H' = upd H T (.tup [x, y]),
   fun i H => ∃ xs ys, SqL K H a xs /\ SqL K H b ys /\ (xs.length <= i \/ ys.length <= i)⟩
def ziq (z TI TO i1 i2 a b : Addr) (i : Nat) (h : Heap) : Prop := IsZip h z TI TO .none /\ IsPair h TI (.ref i1) (.ref i2) /\ (∃ p q, IsPair h TO p q) /\ h.IsListIter i1 a i /\ h.IsListIter i2 b i
theorem qE {z TI TO i1 i2 a b : Addr} {i : Nat} {h : Heap} (st : ziq z TI TO i1 i2 a b i h) : ∀ c ∈ [z, TI, TO, i1, i2], ∃ o, h.get? c = some o /\ ∀ v, o.data ≠ .cell v := fun c hc => by
  obtain ⟨h1, h2, ⟨p, q, h3⟩, ⟨o4, h4, _, d4⟩, ⟨o5, h5, _, d5⟩⟩ := st
  simp only [List.mem_cons, List.not_mem_nil, or_false] at hc
  rcases hc with rfl | rfl | rfl | rfl | rfl
  . exact ⟨_, h1, fun v z => nomatch (show Data.fields _ = Data.cell v from z)⟩
  . exact ⟨_, h2, fun v z => nomatch (show Data.seq _ _ = Data.cell v from z)⟩
  . exact ⟨_, h3, fun v z => nomatch (show Data.seq _ _ = Data.cell v from z)⟩
  . exact ⟨o4, h4, fun v z => by rw [d4] at z; cases z⟩
  . exact ⟨o5, h5, fun v z => by rw [d5] at z; cases z⟩
theorem zaT {P : Program} {w : World} {K : W.Frag} {elts : List Expr} {k : Nat} {pos : Pos} {z TI TO i1 i2 a b : Addr} (D : ZipApart z TI TO i1 i2 a b) : xU P w K (.Tuple elts k pos) (Itz K a b) [z, TI, TO, i1, i2] z (ziq z TI TO i1 i2 a b) where
  mem := by simp
  obj := fun i h st => qE st
  keep := fun i h h' st kk => by
    obtain ⟨h1, h2, ⟨p, q, h3⟩, h4, h5⟩ := st
    exact ⟨kk z (by simp) _ h1, kk TI (by simp) _ h2, ⟨p, q, kk TO (by simp) _ h3⟩, h4.at fun o e => kk i1 (by simp) o e, h5.at fun o e => kk i2 (by simp) o e⟩
  item := by
    intro X hP hw hK hc i pins s σ H E I hf st hg
    subst hP hw hK
    have ob := qE st
    obtain ⟨xs, ys, x, y, hq1, hq2, hx, hy⟩ := hg
    obtain ⟨h1, h2, ⟨p, q, h3⟩, h4, h5⟩ := st
    obtain ⟨its1, rv1, pl1, hz1⟩ := I.list hq1
    obtain ⟨its2, rv2, pl2, hz2⟩ := I.list hq2
    obtain ⟨u1, hu1, ru1⟩ := rv1.get hx
    obtain ⟨u2, hu2, ru2⟩ := rv2.get hy
    refine wpAny_pyNext_zip_item D h1 h2 h3 h4 h5 pl1.isList pl2.isList (x := u1) (y := u2) (by simpa using hu1) (by simpa using hu2) fun h' a1 a2 a3 a4 a5 a6 kk => ?_
    have hTz : s.heap.objs.size ≠ z := Nat.ne_of_gt (Heap.lt_size h1)
    refine ⟨_, rfl, wpAny_letOwnedTupleGo_zip (s := { s with heap := h' }) a1 fun h9 zn sb => ?_⟩
    have kp : ∀ c ob, c ∉ [z, TI, TO, i1, i2] -> s.heap.get? c = some ob -> h9.get? c = some ob := fun c ob hc e => by
      simp only [List.mem_cons, List.not_mem_nil, or_false, not_or] at hc
      exact (sb.2 c hc.1).trans (kk c ob hc.1 hc.2.2.1 hc.2.2.2.1 hc.2.2.2.2 e)
    have zlJ : h9.get? s.heap.objs.size = some { cls := .type "tuple", data := .seq #[u1, u2] } := (sb.2 _ hTz).trans a5
    have I2 : Inv X pins σ (upd H s.heap.objs.size (.tup [x, y])) { s with heap := h9, toks := s.toks } := I.turnLaid (o := .tup [x, y]) (t' := s.toks) hf kp (Nat.le_refl _)
      ⟨by show 2 <= sizeLine; rw [sizeLine_eq]; decide, [u1, u2], .cons ru1 (.cons ru2 .nil), ⟨_, zlJ, rfl, _, rfl⟩⟩
    refine ⟨.ref s.heap.objs.size, _, I2, rfl, ⟨_, I.fresh, rfl, fun xs' ys' g1 g2 => ⟨x, y, by rw [I.list_inj g1 hq1]; exact hx, by rw [I.list_inj g2 hq2]; exact hy, rfl⟩⟩, ⟨zn, ?_, ⟨_, _, (sb.2 _ D.TOz).trans a2⟩, a3.extBut sb.extBut D.i1z, a4.extBut sb.extBut D.i2z⟩, fun c hc => ?_⟩
    . exact (sb.2 _ D.TIz).trans (kk _ _ D.TIz D.TITO D.TIi1 D.TIi2 h2)
    . obtain ⟨o, ho, _⟩ := ob c hc
      rw [aH (Nat.ne_of_lt (Heap.lt_size ho))]
      exact (hf c hc).1
  done := by
    intro X hP hw hK hc i pins s σ H E I hf st hg
    subst hP hw hK
    obtain ⟨xs, ys, hq1, hq2, hend⟩ := hg
    obtain ⟨h1, h2, ⟨p, q, h3⟩, h4, h5⟩ := st
    obtain ⟨its1, rv1, pl1, hz1⟩ := I.list hq1
    obtain ⟨its2, rv2, pl2, hz2⟩ := I.list hq2
    have l1 := rv1.length
    have l2 := rv2.length
    refine wpAny_pyNext_zip_end (I.ok.hd hc) D h1 h2 h3 h4 h5 pl1.isList pl2.isList ?_ fun h' kk => ⟨rfl, I.turnedL (t' := s.toks) hf fun c ob hc e => ?_⟩
    . rcases hend with g | g
      . exact .inl (by simp; omega)
      . exact .inr (by simp; omega)
    . simp only [List.mem_cons, List.not_mem_nil, or_false, not_or] at hc
      exact kk c ob hc.1 hc.2.2.1 hc.2.2.2.1 hc.2.2.2.2 e
  self := fun A i s Q E st h => wpAny_pyIter_zip st.1 h
def zpA (K : W.Frag) (ta : TA) : TI := fun σ H R => ta σ H fun vs H1 => ∃ a b, vs = [.ref a, .ref b] /\ (∃ xs, SqL K H1 a xs) /\ (∃ ys, SqL K H1 b ys) /\ R (Itz K a b) H1
theorem zks {X : Cx} {elts : List Expr} {k : Nat} {tpos : Pos} {l l2 : Expr} {ta : TA} {p pos : Pos} (hg : Gl X "zip") (hm : X.mg "zip" = none) (ha : PA X [l, l2] ta) (hs : starEach [l, l2] X.env = [(false, eval l X.env), (false, eval l2 X.env)] := by rfl) (hs2 : starEach [l2] X.env = [(false, eval l2 X.env)] := by rfl) :
    PI X (.Tuple elts k tpos) (.Call (.Name "zip" p) [l, l2] [] pos) (zpA X.K ta) := by
  intro pins s σ H R I h
  refine Call_ (kN I hg hm (show bootBuiltins "zip" = some (.type "zip") by decide +kernel) (PyProof.Rows.callWith_type1 (thn (ha pos pins s σ H _ I h) fun us s1 ⟨vs, H1, I1, r1, q1⟩ => ?_) (by rw [hs, hs2]) (by rw [hs2]; rfl)))
  obtain ⟨a, b, e, ⟨xs, hq1⟩, ⟨ys, hq2⟩, q⟩ := q1
  subst e
  obtain ⟨u1, u2, rfl, r1, r2⟩ := r1.two
  cases r1
  cases r2
  obtain ⟨its1, rv1, pl1, hz1⟩ := I1.list hq1
  obtain ⟨its2, rv2, pl2, hz2⟩ := I1.list hq2
  have la : a < s1.heap.objs.size := by obtain ⟨o, ho, _⟩ := pl1.isList; exact Heap.lt_size ho
  have lb : b < s1.heap.objs.size := by obtain ⟨o, ho, _⟩ := pl2.isList; exact Heap.lt_size ho
  refine call_zip_2 pl1.isList pl2.isList fun h' z1 z2 z3 z4 z5 hsz kk => ?_
  have I2 : Inv X pins σ H1 { s1 with heap := h' } := I1.kept (t' := s1.toks) kk
  have T := zaT (P := X.prog) (w := X.w) (K := X.K) (elts := elts) (k := k) (pos := tpos) (zipApart_new la lb)
  refine T.self X.A 0 { s1 with heap := h' } _ _ ⟨z1, z2, ⟨_, _, z3⟩, z4, z5⟩ ⟨_, _, _, _, H1, rfl, I2, T, ⟨z1, z2, ⟨_, _, z3⟩, z4, z5⟩, fun c hc => ?_, q⟩
  have hb' : s1.heap.objs.size <= c := by
    simp only [List.mem_cons, List.not_mem_nil, or_false] at hc
    rcases hc with rfl | rfl | rfl | rfl | rfl <;> omega
  exact I1.fpOk hb' (I1.hok.fresh hb')
section
variable {X : Cx}
def zpN (K : W.Frag) (te : TE) : TE := fun σ H Q => te σ H fun x H1 => ∃ a xs, x = .ref a /\ SqL K H1 a xs /\ ∀ p, H1 p = none -> Q (.ref p) (upd H1 p (.lst xs.reverse))
theorem zbG {e : Expr} {te : TE} {st : Expr} {p2 pos : Pos} (he : PE X e te) (hst : PE X st (fun _ H Q => Q (.int (-1)) H))
    (zly : ∀ o i, subscripted (.Slice none none (some st) p2) false o i = operate [o, i] (getItem o i) := by intro _ _; with_unfolding_all rfl) : PE X (.Subscript e (.Slice none none (some st) p2) pos) (zpN X.K te) := by
  intro pins s σ H Q I h
  refine Subscript_ (thn (he pins s σ H _ I h) fun v s1 zz => ?_)
  obtain ⟨x, H1, I1, r1, q1⟩ := zz
  obtain ⟨a, xs, rfl, hq, q⟩ := q1
  cases r1
  refine wpAny_Slice ?_
  rw [evalPart_none]
  refine wpAny_pure (wpAny_pure ?_)
  refine wpAny_evalPart_some (thn (hst pins s1 σ H1 (fun v H' => v = .int (-1) /\ H' = H1) I1 ⟨rfl, rfl⟩) fun u s2 zz => ?_)
  obtain ⟨y, H2, I2, r2, ey, eh⟩ := zz
  subst ey eh
  obtain ⟨t, rfl⟩ := r2
  have I3 : Inv X pins σ H2 { s2 with heap := s2.heap.push { cls := .type "slice", data := .fields #[.none, .none, .int (-1) t] } } := I2.kept (t' := s2.toks) fun b ob z => Heap.get?_push_of_some _ z
  obtain ⟨its, r, pl, hz⟩ := I3.list hq
  have dR := r.length
  refine tail_any (ops := [.ref a, .ref s2.heap.objs.size]) pl.isList.typeIs slot_list_getitem.lookup (wpAny_getItem_list_slice pl.isList (Heap.IsSliceOf.new ..) .none .none (.int (-1) t) (by decide) ?_ (by rw [List.size_toArray] <;> omega)) (zly _ _)
  rw [PySem.W.krv_pick]
  refine ⟨.ref _, _, I3.laid (t' := s2.toks) (o := .lst xs.reverse) (fun b ob z => Heap.get?_push_of_some _ z) (Nat.le_refl _) ?_, rfl, q _ I3.fresh⟩
  exact ⟨by rw [List.length_reverse]; exact hz, _, 0, r.reverse, Heap.get?_push_size _ rfl⟩
end
def o9 (h : Heap) (T : Addr) : Prop := ∃ oT ts, h.get? T = some oT /\ oT.data = .fields ts /\ ts[3]? = some .none
structure Lft (fs : List Addr) (a T : Addr) (h h' : Heap) : Prop where
  keep : ∀ b o, b ∉ fs -> b ≠ a -> h.get? b = some o -> h'.get? b = some o
  slot : ∀ b o, b ∈ fs -> h.get? b = some o -> ∃ sl, h'.get? b = some { o with slots := sl }
  tb : o9 h' T
section
variable {M : Model} {A : Around} {E : Value -> Shared -> Prop} {s : Shared} {base : Heap} {env : Env} {outer : List Env} {L a : Addr} {oe : Obj} {vs : Array Value} {Q : Unit -> Shared -> Prop}
theorem lU {head : Value} {hadNext : Bool} (hfr : A.frames = some (env :: outer)) (hl : s.heap.FunFrames base (env :: outer)) (hf : env.frame = some L) (he : s.heap.get? a = some oe) (hd : oe.data = .fields vs) (hsz : 1 < vs.size)
    (h : ∀ h', Lft (frs (env :: outer)) a s.heap.objs.size s.heap h' -> h'.get? a = some (oe.mapFields (·.setIfInBounds 1 (.ref s.heap.objs.size))) -> Q () { s with heap := h' }) :
    wpAny M A (do let x <- frameOf env; let p <- entryPlaceOf L hadNext; let t <- EntryCells.newEntry head x .none (rawInt L) .none p; setField (.ref a) 1 t) (fun _ s' => wpAny M A (setFlight (.ref a) none) Q E s') E s := by
  have na : a ∉ frs (env :: outer) := fun hm => by
    obtain ⟨_, o, ho, hnf⟩ := hl.mem hm
    rw [he] at ho
    cases ho
    exact hnf vs hd
  refine wpAny_bind (wpAny_frameOf_fun hfr hl hf fun k so => wpAny_bind (wpAny_entryPlaceOf fun pl hpl => ?_))
  obtain ⟨s1, s2, s3⟩ := so
  unfold EntryCells.newEntry newFields
  refine wpAny_bind (wpAny_newObj_type ?_ (hpl.sizeOk5 _ _ _ _ _))
  generalize hTB : ({ cls := .type "traceback", dict := none, data := .fields ([head, .ref L, .none, rawInt L, .none] ++ (if pl.isEmpty then List.replicate 6 Value.none else pl)).toArray } : Obj) = TB
  have dTB : TB.data = .fields ([head, .ref L, .none, rawInt L, .none] ++ (if pl.isEmpty then List.replicate 6 Value.none else pl)).toArray := by rw [<- hTB]
  have fTB : TB.isFreed = false := by rw [<- hTB]; rfl
  have e1 : k.get? a = some oe := (s2 a na).trans he
  have e2 : (k.push TB).get? a = some oe := Heap.get?_push_of_some _ e1
  have nT : k.objs.size ≠ a := Nat.ne_of_gt (Heap.lt_size e1)
  have t2 : (k.push TB).get? k.objs.size = some TB := Heap.get?_push_size _ fTB
  refine wpAny_setField e2 hd hsz ?_
  have d3 := Obj.data_mapFields hd (·.setIfInBounds 1 (Value.ref k.objs.size))
  have e3 := Heap.get?_update_self (Obj.mapFields (·.setIfInBounds 1 (Value.ref k.objs.size))) e2 (Obj.isFreed_of_fields d3)
  have t3 := (Heap.get?_update_other (k.push TB) (Obj.mapFields (·.setIfInBounds 1 (Value.ref k.objs.size))) (Ne.symm nT)).trans t2
  unfold setFlight
  refine wpAny_bind (wpAny_field e3 d3 (x := .ref k.objs.size) (by simp [hsz]) ?_)
  rw [if_pos (show (Value.ref k.objs.size != Value.none) = true by simp)]
  have sz3 : 3 < ([head, .ref L, .none, rawInt L, .none] ++ (if pl.isEmpty then List.replicate 6 Value.none else pl)).toArray.size := by
    simp only [List.size_toArray, List.length_append, List.length_cons, List.length_nil]; omega
  refine wpAny_setField t3 dTB sz3 ?_
  have d4 := Obj.data_mapFields dTB (·.setIfInBounds 3 ((none : Option Addr).elim Value.none fun f => rawInt f))
  have all : ∀ b o, b ≠ a -> k.get? b = some o -> (((k.push TB).update a (Obj.mapFields (·.setIfInBounds 1 (Value.ref k.objs.size)))).update k.objs.size (Obj.mapFields (·.setIfInBounds 3 ((none : Option Addr).elim Value.none fun f => rawInt f)))).get? b = some o := fun b o nb e => by
    rw [Heap.get?_update_other _ _ (Nat.ne_of_gt (Heap.lt_size e)), Heap.get?_update_other _ _ (Ne.symm nb)]
    exact Heap.get?_push_of_some _ e
  have q := h (((k.push TB).update a (Obj.mapFields (·.setIfInBounds 1 (Value.ref k.objs.size)))).update k.objs.size (Obj.mapFields (·.setIfInBounds 3 ((none : Option Addr).elim Value.none fun f => rawInt f))))
  rw [<- s1] at q
  refine q ⟨fun b o nf nb e => all b o nb ((s2 b nf).trans e), fun b o hb e => ?_, ?_⟩ ?_
  . obtain ⟨sl, e'⟩ := s3 b o e
    exact ⟨sl, all b _ (fun z => na (z ▸ hb)) e'⟩
  . exact ⟨_, _, Heap.get?_update_self _ t3 (Obj.isFreed_of_fields d4), d4, by simp [sz3]⟩
  . rw [Heap.get?_update_other _ _ nT]; exact e3
theorem sB (hfr : A.frames = some (env :: outer)) (hl : s.heap.FunFrames base (env :: outer)) (hf : env.frame = some L) (he : s.heap.get? a = some oe) (hd : oe.data = .fields vs) (h1 : vs[1]? = some .none)
    (h : ∀ h', Lft (frs (env :: outer)) a s.heap.objs.size s.heap h' -> h'.get? a = some (oe.mapFields (·.setIfInBounds 1 (.ref s.heap.objs.size))) -> Q () { s with heap := h' }) : wpAny M A (leaving env (.ref a)) Q E s := by
  unfold leaving noteFrame
  simp only [hf]
  refine wpAny_bind (wpAny_bind (wpAny_field he hd h1 ?_))
  rw [if_neg (by decide)]
  exact lU hfr hl hf he hd (Array.getElem?_eq_some_iff.mp h1).1 h
theorem vU {T : Addr} (hfr : A.frames = some (env :: outer)) (hl : s.heap.FunFrames base (env :: outer)) (hf : env.frame = some L) (he : s.heap.get? a = some oe) (hd : oe.data = .fields vs) (h1 : vs[1]? = some (.ref T)) (ht : o9 s.heap T) (nTa : T ≠ a)
    (h : ∀ h' k, (∀ b o, b ≠ T -> s.heap.get? b = some o -> k.get? b = some o) -> o9 k T -> k.objs.size = s.heap.objs.size -> Lft (frs (env :: outer)) a s.heap.objs.size k h' -> h'.get? a = some (oe.mapFields (·.setIfInBounds 1 (.ref s.heap.objs.size))) -> Q () { s with heap := h' }) : wpAny M A (leaving env (.ref a)) Q E s := by
  obtain ⟨oT, ts, hT, dT, t3⟩ := ht
  have s3 : 3 < ts.size := (Array.getElem?_eq_some_iff.mp t3).1
  unfold leaving noteFrame
  simp only [hf]
  refine wpAny_bind (wpAny_bind (wpAny_field he hd h1 ?_))
  rw [if_pos (show (Value.ref T != Value.none) = true by simp)]
  refine wpAny_bind (wpAny_field hT dT t3 ?_)
  rw [if_neg (show ¬ ((Value.none == rawInt L) = true) by simp [rawInt])]
  refine wpAny_bind (wpAny_setField hT dT s3 ?_)
  have oth : ∀ b, b ≠ T -> (s.heap.update T (Obj.mapFields (·.setIfInBounds 3 Value.none))).get? b = s.heap.get? b := fun b nb => Heap.get?_update_other _ _ (Ne.symm nb)
  have d4 := Obj.data_mapFields dT (·.setIfInBounds 3 Value.none)
  have tT : o9 (s.heap.update T (Obj.mapFields (·.setIfInBounds 3 Value.none))) T := ⟨_, _, Heap.get?_update_self _ hT (Obj.isFreed_of_fields d4), d4, by simp [s3]⟩
  have zz : (s.heap.update T (Obj.mapFields (·.setIfInBounds 3 Value.none))).objs.size = s.heap.objs.size := Heap.size_after_update ..
  have nfT : ∀ b o, s.heap.get? b = some o -> (∀ ws, o.data ≠ .fields ws) -> b ≠ T := fun b o e nf z => by
    rw [z, hT] at e
    cases e
    exact nf ts dT
  refine lU (s := { s with heap := s.heap.update T (Obj.mapFields (·.setIfInBounds 3 Value.none)) }) hfr (hl.of_keeps fun b o e nf => ⟨o, (oth b (nfT b o e nf)).trans e, rfl⟩) hf ((oth a (Ne.symm nTa)).trans he) hd (Array.getElem?_eq_some_iff.mp h1).1 fun h' lf ea => ?_
  exact h h' _ (fun b o nb e => (oth b nb).trans e) tT zz (by rw [<- zz]; exact lf) (by rw [<- zz]; exact ea)
end
def TbO (T : Addr) : HO := .ext fun h => o9 h T
def zdm (a C : Addr) (d : Option Addr) (T : Addr) : HO := .ext fun h => ∃ vs, h.get? a = some { cls := .ref C, dict := d, data := .fields vs } /\ vs[1]? = some (.ref T)
theorem qT {P : Program} {w : World} {H : Hp} {h : Heap} {T : Addr} (q : o9 h T) : cJ P w H h T (TbO T) := by
  refine ⟨q, ?_, fun h1 h2 ⟨oT, ts, e, r⟩ k => ⟨oT, ts, k _ e, r⟩⟩
  obtain ⟨oT, ts, e, _⟩ := q
  exact ⟨oT, e⟩
theorem sR {P : Program} {w : World} {H : Hp} {h : Heap} {a C T : Addr} {d : Option Addr} {vs : Array Value} (q : h.get? a = some { cls := .ref C, dict := d, data := .fields vs }) (h1 : vs[1]? = some (.ref T)) : cJ P w H h a (zdm a C d T) :=
  ⟨⟨vs, q, h1⟩, ⟨_, q⟩, fun _ _ ⟨vs, e, r⟩ k => ⟨vs, k _ e, r⟩⟩
def eR (H : Hp) (a C : Addr) (fs : List (Str × V)) : Prop := ∃ T d, H T = some (TbO T) /\ T ≠ a /\ H a = some (zdm a C d T) /\ ((d = none /\ fs = []) \/ ∃ dx, d = some dx /\ H dx = some (c9 dx fs) /\ dx ≠ a /\ dx ≠ T)
def CXE (P : Program) (w : World) : CXT := fun outer H s E e s' => ∃ (a : Addr) (H' : Hp), e = .ref a /\ s'.os = s.os /\ AllBare s'.gens /\ Un (frs outer) [] H H' s.heap s'.heap /\ HOk P w H' s'.heap /\ E e none H'
section
variable {P : Program} {w : World} {K : W.Frag} {mg : Str -> Option Value} {base : Heap} {N : List Str} {qual : Str} {scope : Scope} {f : Addr} {cd : Value} {A : Around} {outer : List Env} {s0 : Shared} {H0 : Hp} {E : XK}
variable {pins : List (Addr × Obj)} {σ : St} {H : Hp} {s : Shared}
theorem zD {a T : Addr} {oa : HO} {k h' : Heap} (I : Inv (eU (CXE P w) P w K mg base N qual scope f cd A outer s0 H0 E) pins σ H s) (mu : ∃ φ, H a = some (.ext φ)) (hT : T = s.heap.objs.size) (lf : Lft (frs (envOfC qual scope s0.heap.objs.size f cd :: outer)) a T k h')
    (hk : ∀ b o, (∀ φ, H b ≠ some (.ext φ)) -> s.heap.get? b = some o -> k.get? b = some o) (hkt : ∀ b o, s.heap.get? b = some o -> ∃ o', k.get? b = some o') (hext : ∀ b φ, H b = some (.ext φ) -> b ≠ a -> φ s.heap -> cJ P w (upd (upd H a oa) T (TbO T)) h' b (.ext φ))
    (ha : ∃ o, h'.get? a = some o) (hoa : cJ P w (upd (upd H a oa) T (TbO T)) h' a oa) :
    Un (frs outer) [] H0 (upd (upd H a oa) T (TbO T)) s0.heap h' /\ HOk P w (upd (upd H a oa) T (TbO T)) h' := by
  obtain ⟨φa, eA⟩ := mu
  have fT : H T = none := by rw [hT]; exact I.fresh
  have naT : a ≠ T := aF eA fT
  have top : (eU (CXE P w) P w K mg base N qual scope f cd A outer s0 H0 E).stack = envOfC qual scope s0.heap.objs.size f cd :: outer := rfl
  have frN : ∀ b ∈ frs (envOfC qual scope s0.heap.objs.size f cd :: outer), H b = none := fun b hb => I.stkFree b hb
  have sub : ∀ b ∈ frs (envOfC qual scope s0.heap.objs.size f cd :: outer), b ∈ s0.heap.objs.size :: frs outer := fun b hb => I.stkSub b hb
  have sup : ∀ b ∈ frs outer, b ∈ frs (envOfC qual scope s0.heap.objs.size f cd :: outer) := fun b hb => by
    show b ∈ List.filterMap (·.frame) (envOfC qual scope s0.heap.objs.size f cd :: outer)
    rw [List.filterMap_cons]
    exact List.mem_cons_of_mem _ hb
  have zs : s0.heap.objs.size <= s.heap.objs.size := I.sz
  have nex : ∀ b, H b = none -> ∀ φ, H b ≠ some (.ext φ) := fun b e φ z => by rw [e] at z; cases z
  have u := I.base
  have in0 : ∀ b o, s0.heap.get? b = some o -> b ≠ T /\ b ≠ s0.heap.objs.size := fun b o e => ⟨Nat.ne_of_lt (Nat.lt_of_lt_of_le (Heap.lt_size e) (by rw [hT]; exact zs)), Nat.ne_of_lt (Heap.lt_size e)⟩
  have old : ∀ b u, H b = some u -> (∀ φ, u ≠ .ext φ) -> upd (upd H a oa) T (TbO T) b = some u := fun b u e nx => by
    rw [aH (aF e fT), aH (fun z => by rw [z, eA] at e; cases e; exact nx _ rfl)]; exact e
  refine ⟨⟨fun b o e n nf _ => ?_, fun b o e n hf _ => ?_, fun b o e n _ => ?_, fun b o e _ => ?_, fun b xs e => ?_, fun b o u' e => ?_, fun b ps e => ?_⟩, fun b u' e => ?_⟩
  . have e1 := u.keep b o e n nf (fun z => nomatch z)
    have n1 := u.free b o e n (fun z => nomatch z)
    refine lf.keep b o (fun hb => ?_) (aF eA n1).symm (hk b o (nex b n1) e1)
    rcases List.mem_cons.mp (sub b hb) with z | z
    . exact (in0 b o e).2 z
    . exact nf z
  . obtain ⟨sl, e1⟩ := u.slot b o e n hf (fun z => nomatch z)
    have n1 := u.free b o e n (fun z => nomatch z)
    obtain ⟨sl2, e2⟩ := lf.slot b _ (sup b hf) (hk b _ (nex b n1) e1)
    exact ⟨sl2, e2⟩
  . have n1 := u.free b o e n (fun z => nomatch z)
    rw [aH (in0 b o e).1, aH (aF eA n1).symm]; exact n1
  . obtain ⟨o1, e1⟩ := u.there b o e (fun z => nomatch z)
    obtain ⟨o2, e2⟩ := hkt b o1 e1
    by_cases hb : b ∈ frs (envOfC qual scope s0.heap.objs.size f cd :: outer)
    . obtain ⟨sl, e3⟩ := lf.slot b o2 hb e2
      exact ⟨_, e3⟩
    . by_cases hba : b = a
      . rw [hba]; exact ha
      . exact ⟨o2, lf.keep b o2 hb hba e2⟩
  . exact old b _ (u.tups b xs e) (fun φ z => nomatch z)
  . exact old b _ (u.frzs b o u' e) (fun φ z => nomatch z)
  . obtain ⟨more, e1⟩ := u.tbls b ps e
    exact ⟨more, old b _ e1 (fun φ z => nomatch z)⟩
  . by_cases hbT : b = T
    . rw [hbT, aB] at e
      cases e
      rw [hbT]
      exact qT lf.tb
    . rw [aH hbT] at e
      by_cases hba : b = a
      . rw [hba, aB] at e
        cases e
        rw [hba]
        exact hoa
      . rw [aH hba] at e
        have nb : b ∉ frs (envOfC qual scope s0.heap.objs.size f cd :: outer) := fun hb => by rw [frN b hb] at e; cases e
        by_cases hx : ∃ φ, u' = .ext φ
        . obtain ⟨φ, rfl⟩ := hx
          exact hext b φ e hba (I.hok b _ e).1
        . have nx : ∀ φ, H b ≠ some (.ext φ) := fun φ z => hx ⟨φ, by rw [e] at z; cases z; rfl⟩
          refine (I.hok b u' e).stay (fun c v hc q => ?_) (fun c q => old c _ q (fun φ z => nomatch z)) fun c xs q => old c _ q (fun φ z => nomatch z)
          rcases hc with rfl | hc
          . exact lf.keep c v nb hba (hk c v nx q)
          . exact lf.keep c v (fun hb => by rw [frN c hb] at hc; cases hc) (fun z => by rw [z, eA] at hc; cases hc) (hk c v (fun φ z => by rw [hc] at z; cases z) q)
theorem zbj {a C : Addr} {fs : List (Str × V)} (I : Inv (eU (CXE P w) P w K mg base N qual scope f cd A outer s0 H0 E) pins σ H s) (x : XAt H a C fs)
    (hE : ∀ H', eR H' a C fs -> (∀ b o, b ≠ a -> H b = some o -> H' b = some o) -> E (.ref a) none H') : (eU (CXE P w) P w K mg base N qual scope f cd A outer s0 H0 E).xe (.ref a) s := by
  obtain ⟨t, hx⟩ := x
  have go : ∀ d, H a = some (rZ a C t d) -> ((d = none /\ fs = []) \/ ∃ dx, d = some dx /\ H dx = some (c9 dx fs) /\ dx ≠ a) -> (eU (CXE P w) P w K mg base N qual scope f cd A outer s0 H0 E).xe (.ref a) s := fun d ea hd => by
    have ho : s.heap.get? a = some (fE C t d) := (I.hok a _ ea).1
    show wpAny (model P w) (A.deeper (envOfC qual scope s0.heap.objs.size f cd)) (leaving (envOfC qual scope s0.heap.objs.size f cd) (.ref a)) _ _ s
    refine sB (base := base) I.ok.frames I.stack (L := s0.heap.objs.size) rfl ho rfl rfl fun h' lf ea' => ?_
    have eaO : h'.get? a = some { cls := .ref C, dict := d, data := .fields ((#[.ref t, .none, .none, .none, .bool false, .none] : Array Value).setIfInBounds 1 (.ref s.heap.objs.size)) } := ea'
    have fT : H s.heap.objs.size = none := I.fresh
    have naT : a ≠ s.heap.objs.size := aF ea fT
    have fr : ∀ b u, H b = some u -> b ∉ frs (envOfC qual scope s0.heap.objs.size f cd :: outer) := fun b u e hb => by
      rw [show H b = none from I.stkFree b hb] at e; cases e
    obtain ⟨un, ok⟩ := zD (oa := zdm a C d s.heap.objs.size) (k := s.heap) I ⟨_, ea⟩ rfl lf (fun _ _ _ e => e) (fun _ o e => ⟨o, e⟩)
      (fun b φ e nb p => by
        obtain ⟨_, ⟨o, ho'⟩, st⟩ := I.hok b _ e
        exact ⟨st _ _ p fun o q => lf.keep b o (fr b _ e) nb q, ⟨o, lf.keep b o (fr b _ e) nb ho'⟩, st⟩) ⟨_, eaO⟩ (sR eaO rfl)
    refine ⟨a, _, rfl, I.os, I.bare, un, ok, hE _ ⟨s.heap.objs.size, d, aB, Ne.symm naT, by rw [aH naT]; exact aB, ?_⟩ fun b o nb e => by rw [aH (aF e fT), aH nb]; exact e⟩
    rcases hd with hd | ⟨dx, e1, e2, e3⟩
    . exact .inl hd
    . exact .inr ⟨dx, e1, by rw [aH (aF e2 fT), aH e3]; exact e2, e3, aF e2 fT⟩
  rcases hx with ⟨h1, h2⟩ | ⟨dx, h1, h2, h3⟩
  . exact go none h1 (.inl ⟨rfl, h2⟩)
  . exact go (some dx) h1 (.inr ⟨dx, rfl, h2, h3⟩)
theorem zdb {a C : Addr} {fs : List (Str × V)} (I : Inv (eU (CXE P w) P w K mg base N qual scope f cd A outer s0 H0 E) pins σ H s) (x : eR H a C fs)
    (hE : ∀ H', eR H' a C fs -> (∀ b o, b ≠ a -> H b = some o -> H' b = some o) -> E (.ref a) none H') : (eU (CXE P w) P w K mg base N qual scope f cd A outer s0 H0 E).xe (.ref a) s := by
  obtain ⟨T, d, eT, nTa, ea, hd⟩ := x
  obtain ⟨vs, ho, h1⟩ := (I.hok a _ ea).1
  have tT : o9 s.heap T := (I.hok T _ eT).1
  show wpAny (model P w) (A.deeper (envOfC qual scope s0.heap.objs.size f cd)) (leaving (envOfC qual scope s0.heap.objs.size f cd) (.ref a)) _ _ s
  refine vU (base := base) I.ok.frames I.stack (L := s0.heap.objs.size) rfl ho rfl h1 tT nTa fun h' k kk kT kz lf ea' => ?_
  have hsz : 1 < vs.size := (Array.getElem?_eq_some_iff.mp h1).1
  have eaO : h'.get? a = some { cls := .ref C, dict := d, data := .fields (vs.setIfInBounds 1 (.ref s.heap.objs.size)) } := ea'
  have fT : H s.heap.objs.size = none := I.fresh
  have naT : a ≠ s.heap.objs.size := aF ea fT
  have fr : ∀ b u, H b = some u -> b ∉ frs (envOfC qual scope s0.heap.objs.size f cd :: outer) := fun b u e hb => by
    rw [show H b = none from I.stkFree b hb] at e; cases e
  obtain ⟨un, ok⟩ := zD (oa := zdm a C d s.heap.objs.size) (k := k) I ⟨_, ea⟩ rfl lf (fun b o nx e => kk b o (fun z => by subst z; exact nx _ eT) e)
    (fun b o e => by
      by_cases z : b = T
      . obtain ⟨oT, _, e', _⟩ := kT
        exact ⟨oT, by rw [z]; exact e'⟩
      . exact ⟨o, kk b o z e⟩)
    (fun b φ e nb p => by
      by_cases z : b = T
      . rw [z, eT] at e
        cases e
        obtain ⟨oT, ts, e', r⟩ := kT
        have e2 := lf.keep T oT (fr T _ eT) nTa e'
        rw [z]
        exact qT ⟨oT, ts, e2, r⟩
      . obtain ⟨_, ⟨o, ho'⟩, st⟩ := I.hok b _ e
        exact ⟨st _ _ p fun o q => lf.keep b o (fr b _ e) nb (kk b o z q), ⟨o, lf.keep b o (fr b _ e) nb (kk b o z ho')⟩, st⟩) ⟨_, eaO⟩ (sR eaO (by simp [hsz]))
  refine ⟨a, _, rfl, I.os, I.bare, un, ok, hE _ ⟨s.heap.objs.size, d, aB, Ne.symm naT, by rw [aH naT]; exact aB, ?_⟩ fun b o nb e => by rw [aH (aF e fT), aH nb]; exact e⟩
  rcases hd with hd | ⟨dx, e1, e2, e3, e4⟩
  . exact .inl hd
  . exact .inr ⟨dx, e1, by rw [aH (aF e2 fT), aH e3]; exact e2, e3, aF e2 fT⟩
def EX (H0 : Hp) (R : Addr -> Hp -> Prop) : XK := fun e _ H' => ∃ a, e = .ref a /\ H0 a = none /\ Same H0 H' /\ R a H'
end
section
variable {M : Model} {A : Around} {E : Value -> Shared -> Prop} {s : Shared} {env : Env}
variable {nm q : Str} {C N : Addr} {bs bm : List Value} {hdct : Bool} {sn : List Str} {sub : List Value} {ab : Bool} {col : Option Bool} {dd : Option Addr} {k0 k1 k2 k3 k5 : Option Value} {newId : String}
theorem vG {x : Sem Value} {Q : Flow -> Shared -> Prop} (hbase : bm.contains (.type "BaseException") = true) (hh : A.handled = none)
    (h : wpAny M A x (fun v s₁ => ∃ a t d, v = .ref a /\ s₁.heap.get? C = some (excClassObj nm q C N bs bm hdct sn sub ab col dd k0 k1 k2 k3 k5 newId) /\ s₁.heap.get? a = some (fE C t d) /\ E (.ref a) s₁) E s) :
    wpAny M A (raiseStmt env (some x) none) Q E s := by
  have cB : (Value.ref C :: bm).contains (.type "BaseException") = true := by rw [List.contains_cons, hbase, Bool.or_true]
  unfold raiseStmt
  refine wpAny_bind (wpAny_mono h (fun v s₁ h₁ => ?_) fun _ _ y => y)
  obtain ⟨a, t, d, rfl, hC, ha, hE⟩ := h₁
  obtain ⟨hp, g, dr, tk, os⟩ := s₁
  repeat (first | with_reducible refine wpAny_loadPart_at ha ?_ | with_reducible refine wpAny_loadPart_at hC ?_ | (with_reducible refine wpAny_isSubtype_exc hC ?_; rw [cB]) | wp_step)
  exact wpAny_raiseNew_none hh hE
end
section
variable {X : Cx} {C M : Addr}
def zhW (C : Addr) (te : TE) (RX : Addr -> List (Str × V) -> Hp -> Prop) : TS := fun _ σ H => te σ H fun v H1 => ∃ a fs, v = .ref a /\ XAt H1 a C fs /\ RX a fs H1
theorem tN {ex : Expr} {te : TE} {pos : Pos} {RX : Addr -> List (Str × V) -> Hp -> Prop} (xc : XC X.K C M) (hc : X.calm = true) (he : PE X ex te)
    (hx : ∀ pins σ H s a fs, Inv X pins σ H s -> XAt H a C fs -> RX a fs H -> X.xe (.ref a) s) : PS X (.Raise (some ex) none pos) (zhW C te RX) := by
  intro pins s σ H D I h
  obtain ⟨nm, q, N, bs, sn, sub, ab, col, dd, k0, k1, k2, k3, k5, e⟩ := xc.at_
  rw [arm_exec_Raise]
  have key : wpAny (model X.prog X.w) X.A (raiseStmt X.env (some (do let v <- eval ex X.env; standAt pos; pure v)) none) (SP X pins D) X.xe s := by
    refine vG (C := C) (nm := nm) (q := q) (N := N) (bs := bs) (bm := .ref M :: fU) (hdct := true) (sn := sn) (sub := sub) (ab := ab) (col := col) (dd := dd) (k0 := k0) (k1 := k1) (k2 := k2) (k3 := k3) (k5 := k5) (newId := "ValueError.__new__") (by simp [fU]) (I.ok.hd hc) (wpAny_bind (thn (he pins s σ H _ I h) fun v s1 ⟨x, H1, I1, rx, a, fs, ex, hX, r⟩ => wpAny_bind (wpAny_standAt (wpAny_pure ?_))))
    subst ex
    cases rx
    have hE := hx pins σ H1 s1 a fs I1 hX r
    obtain ⟨t, hX⟩ := hX
    rcases hX with ⟨h1, _⟩ | ⟨dx, h1, _, _⟩
    . exact ⟨a, t, none, rfl, I1.kIn _ _ e, I1.exc h1, hE⟩
    . exact ⟨a, t, some dx, rfl, I1.kIn _ _ e, I1.exc h1, hE⟩
  first
    | exact wpAny_bind (wpAny_standAt key)
    | (simp only [evalOpt, Option.map]; exact wpAny_bind (wpAny_standAt key))
    | (show wpAny _ _ (do standAt pos; raiseStmt X.env (some (do let v <- eval ex X.env; standAt pos; pure v)) none) _ _ _; exact wpAny_bind (wpAny_standAt key))
end
section
variable {P : Program} {w : World} {K : W.Frag} {mg : Str -> Option Value} {base : Heap}
theorem Fun.okX {x qual : Str} {st : Stmt} {f : Addr} {fd : FuncData} {N ps : List Str} {k : Nat} {sp : Sp} (F : Fun K x qual st f fd) (S : bE N ps (aD st)) (len : ∀ vs H Q E, sp vs H Q E -> vs.length = ps.length)
    (hbody : ∀ (cdv : Value) (A : Around) (outer : List Env) (s : Shared) (H : Hp) (vs : List V) (Q : VK) (E : XK), iE k (A.deeper (envOfC qual (aD st) s.heap.objs.size f cdv)) -> sp vs H Q E ->
      ∃ t, PSs (eU (CXE P w) P w K mg base N qual (aD st) f cdv A outer s H E) (aV st) t /\ t { nx := fun _ H' => Q .non H', rt := Q } (start N vs) H) : FnOk P w K mg base (CXE P w) (k + 1) f fd ps sp := by
  obtain ⟨oc, od, kV, doc, pm, an, cdv, ct, osl, rfl, lk, hcd⟩ := F.ex
  exact zkN lk hcd S len fun A outer s H vs Q E hr hsp => hbody cdv A outer s H vs Q E hr hsp
def zns (H0 : Hp) (E : XK) (C : Addr) : Addr -> List (Str × V) -> Hp -> Prop := fun a fs H1 => H0 a = none /\ Same H0 H1 /\ ∀ H', Same H0 H' -> eR H' a C fs -> E (.ref a) none H'
theorem rK {N : List Str} {qual : Str} {scope : Scope} {f : Addr} {cd : Value} {A : Around} {outer : List Env} {s0 : Shared} {H0 : Hp} {E : XK} {C : Addr} :
    ∀ pins σ H s a fs, Inv (eU (CXE P w) P w K mg base N qual scope f cd A outer s0 H0 E) pins σ H s -> XAt H a C fs -> zns H0 E C a fs H -> (eU (CXE P w) P w K mg base N qual scope f cd A outer s0 H0 E).xe (.ref a) s :=
  fun _ _ _ _ a _ I x ⟨na, sm, r⟩ => zbj I x fun H' fl k => r H' (fun b o q => k b o (aF q na) (sm b o q)) fl
end
theorem zfO {H : Hp} {a : Addr} {o : HO} (h : H a = some o) : upd H a o = H := by
  funext b
  unfold upd
  by_cases z : b = a
  . rw [if_pos z, z, h]
  . rw [if_neg z]
section
variable {M : Model} {A : Around} {E : Value -> Shared -> Prop} {s : Shared} {base : Heap} {env : Env} {outer : List Env} {L a : Addr} {oe : Obj} {vs : Array Value} {Q : Unit -> Shared -> Prop}
theorem yI {T : Addr} (hfr : A.frames = some (env :: outer)) (hl : s.heap.FunFrames base (env :: outer)) (hf : env.frame = some L) (he : s.heap.get? a = some oe) (hd : oe.data = .fields vs) (h1 : vs[1]? = some (.ref T)) (ht : o9 s.heap T) (nTa : T ≠ a)
    (h : ∀ h' k, (∀ b o, b ≠ T -> s.heap.get? b = some o -> k.get? b = some o) -> o9 k T -> Lft (frs (env :: outer)) a s.heap.objs.size k h' -> h'.get? a = some (oe.mapFields (·.setIfInBounds 1 (.ref s.heap.objs.size))) -> Q () { s with heap := h' }) :
    wpAny M A (noteFrame (.ref a) env) (fun _ s' => wpAny M A (setFlight (.ref a) none) Q E s') E s := by
  obtain ⟨oT, ts, hT, dT, t3⟩ := ht
  have s3 : 3 < ts.size := (Array.getElem?_eq_some_iff.mp t3).1
  unfold noteFrame
  simp only [hf]
  refine wpAny_bind (wpAny_field he hd h1 ?_)
  rw [if_pos (show (Value.ref T != Value.none) = true by simp)]
  refine wpAny_bind (wpAny_field hT dT t3 ?_)
  rw [if_neg (show ¬ ((Value.none == rawInt L) = true) by simp [rawInt])]
  refine wpAny_bind (wpAny_setField hT dT s3 ?_)
  have oth : ∀ b, b ≠ T -> (s.heap.update T (Obj.mapFields (·.setIfInBounds 3 Value.none))).get? b = s.heap.get? b := fun b nb => Heap.get?_update_other _ _ (Ne.symm nb)
  have d4 := Obj.data_mapFields dT (·.setIfInBounds 3 Value.none)
  have tT : o9 (s.heap.update T (Obj.mapFields (·.setIfInBounds 3 Value.none))) T := ⟨_, _, Heap.get?_update_self _ hT (Obj.isFreed_of_fields d4), d4, by simp [s3]⟩
  have zz : (s.heap.update T (Obj.mapFields (·.setIfInBounds 3 Value.none))).objs.size = s.heap.objs.size := Heap.size_after_update ..
  have nfT : ∀ b o, s.heap.get? b = some o -> (∀ ws, o.data ≠ .fields ws) -> b ≠ T := fun b o e nf z => by
    rw [z, hT] at e
    cases e
    exact nf ts dT
  refine lU (s := { s with heap := s.heap.update T (Obj.mapFields (·.setIfInBounds 3 Value.none)) }) hfr (hl.of_keeps fun b o e nf => ⟨o, (oth b (nfT b o e nf)).trans e, rfl⟩) hf ((oth a (Ne.symm nTa)).trans he) hd (Array.getElem?_eq_some_iff.mp h1).1 fun h' lf ea => ?_
  exact h h' _ (fun b o nb e => (oth b nb).trans e) tT (by rw [<- zz]; exact lf) (by rw [<- zz]; exact ea)
end
section
variable {X : Cx} {pins : List (Addr × Obj)} {σ : St} {H : Hp} {s : Shared} {a C : Addr} {fs : List (Str × V)} {A' : Around} {E' : Value -> Shared -> Prop} {Q : Unit -> Shared -> Prop}
theorem zps (I : Inv X pins σ H s) (x : eR H a C fs) (hst : X.stack = X.env :: X.outer) (hf : X.env.frame = some X.env.locals) (hA : A'.frames = X.A.frames)
    (h : ∀ h' H', Inv X pins σ H' { s with heap := h' } -> eR H' a C fs -> (∀ b o, b ≠ a -> H b = some o -> H' b = some o) -> Q () { s with heap := h' }) :
    wpAny (model X.prog X.w) A' (noteFrame (.ref a) X.env) (fun _ s' => wpAny (model X.prog X.w) A' (setFlight (.ref a) none) Q E' s') E' s := by
  obtain ⟨T, d, eT, nTa, ea, hd⟩ := x
  obtain ⟨vs, ho, h1⟩ := (I.hok a _ ea).1
  have tT : o9 s.heap T := (I.hok T _ eT).1
  have stk := I.stack
  have frm := I.ok.frames
  rw [hst] at stk frm
  refine yI (base := X.base) (hA.trans frm) stk hf ho rfl h1 tT nTa fun h' k kk kT lf ea' => ?_
  rw [<- hst] at lf
  have hsz : 1 < vs.size := (Array.getElem?_eq_some_iff.mp h1).1
  have eaO : h'.get? a = some { cls := .ref C, dict := d, data := .fields (vs.setIfInBounds 1 (.ref s.heap.objs.size)) } := ea'
  have fT : H s.heap.objs.size = none := I.fresh
  have naT : a ≠ s.heap.objs.size := aF ea fT
  have fr : ∀ b u, H b = some u -> b ∉ frs X.stack := fun b u e hb => by
    rw [I.stkFree b hb] at e; cases e
  have nex : ∀ b, (∀ φ, H b ≠ some (.ext φ)) -> b ≠ T := fun b nx z => by subst z; exact nx _ eT
  have old : ∀ b u, H b = some u -> (∀ φ, u ≠ .ext φ) -> upd (upd H a (zdm a C d s.heap.objs.size)) s.heap.objs.size (TbO s.heap.objs.size) b = some u := fun b u e nx => by
    rw [aH (aF e fT), aH (fun z => by rw [z, ea] at e; cases e; exact nx _ rfl)]; exact e
  have non : ∀ b, H b = none -> b ≠ a /\ b ≠ T := fun b n => ⟨(aF ea n).symm, (aF eT n).symm⟩
  have un : Un (frs X.stack) [] H (upd (upd H a (zdm a C d s.heap.objs.size)) s.heap.objs.size (TbO s.heap.objs.size)) s.heap h' := by
    refine ⟨fun b o e n nf _ => lf.keep b o nf (non b n).1 (kk b o (non b n).2 e), fun b o e n hb _ => lf.slot b o hb (kk b o (non b n).2 e), fun b o e n _ => ?_, fun b o e _ => ?_, fun b xs e => old b _ e (fun φ z => nomatch z), fun b o u e => old b _ e (fun φ z => nomatch z), fun b ps e => ⟨#[], by rw [old b _ e (fun φ z => nomatch z)]; simp⟩⟩
    . rw [aH (Nat.ne_of_lt (Heap.lt_size e)), aH (non b n).1]; exact n
    . have e2 : ∃ o2, k.get? b = some o2 := by
        by_cases z : b = T
        . obtain ⟨oT, _, e', _⟩ := kT
          exact ⟨oT, by rw [z]; exact e'⟩
        . exact ⟨o, kk b o z e⟩
      obtain ⟨o2, e2⟩ := e2
      by_cases hb : b ∈ frs X.stack
      . obtain ⟨sl, e3⟩ := lf.slot b o2 hb e2
        exact ⟨_, e3⟩
      . by_cases hba : b = a
        . rw [hba]; exact ⟨_, eaO⟩
        . exact ⟨o2, lf.keep b o2 hb hba e2⟩
  have hok : HOk X.prog X.w (upd (upd H a (zdm a C d s.heap.objs.size)) s.heap.objs.size (TbO s.heap.objs.size)) h' := fun b u e => by
    by_cases hbT : b = s.heap.objs.size
    . rw [hbT, aB] at e
      cases e
      rw [hbT]
      exact qT lf.tb
    . rw [aH hbT] at e
      by_cases hba : b = a
      . rw [hba, aB] at e
        cases e
        rw [hba]
        exact sR eaO (by simp [hsz])
      . rw [aH hba] at e
        by_cases z : b = T
        . rw [z, eT] at e
          cases e
          obtain ⟨oT, ts, e', r⟩ := kT
          rw [z]
          exact qT ⟨oT, ts, lf.keep T oT (fr T _ eT) nTa e', r⟩
        . refine (I.hok b u e).stay (fun c v hc q => ?_) (fun c q => old c _ q (fun φ z => nomatch z)) fun c xs q => old c _ q (fun φ z => nomatch z)
          rcases hc with rfl | hc
          . exact lf.keep c v (fr c _ e) hba (kk c v z q)
          . exact lf.keep c v (fr c _ hc) (fun y => by rw [y, ea] at hc; cases hc) (kk c v (fun y => by rw [y, eT] at hc; cases hc) q)
  refine h h' _ (I.call' (s' := { s with heap := h' }) (ch := []) rfl un hok I.bare (fun _ z => nomatch z)) ⟨s.heap.objs.size, d, aB, Ne.symm naT, by rw [aH naT]; exact aB, ?_⟩ fun b o nb e => by rw [aH (aF e fT), aH nb]; exact e
  rcases hd with hd | ⟨dx, e1, e2, e3, e4⟩
  . exact .inl hd
  . exact .inr ⟨dx, e1, by rw [aH (aF e2 fT), aH e3]; exact e2, e3, aF e2 fT⟩
theorem zjv (I : Inv X pins σ H s) (x : eR H a C fs) (h : ∀ h', Inv X pins σ H { s with heap := h' } -> Q () { s with heap := h' }) : wpAny (model X.prog X.w) A' (setFlight (.ref a) none) Q E' s := by
  obtain ⟨T, d, eT, nTa, ea, hd⟩ := x
  obtain ⟨vs, ho, h1⟩ := (I.hok a _ ea).1
  obtain ⟨oT, ts, hT, dT, t3⟩ := (I.hok T _ eT).1
  have s3 : 3 < ts.size := (Array.getElem?_eq_some_iff.mp t3).1
  unfold setFlight
  refine wpAny_bind (wpAny_field ho rfl h1 ?_)
  rw [if_pos (show (Value.ref T != Value.none) = true by simp)]
  refine wpAny_setField hT dT s3 ?_
  have d4 := Obj.data_mapFields dT (·.setIfInBounds 3 ((none : Option Addr).elim Value.none fun f => rawInt f))
  have e4 := Heap.get?_update_self (Obj.mapFields (·.setIfInBounds 3 ((none : Option Addr).elim Value.none fun f => rawInt f))) hT (Obj.isFreed_of_fields d4)
  have J := I.write (x := T) (e := T) (o := TbO T) (t' := s.toks) (h' := s.heap.update T (Obj.mapFields (·.setIfInBounds 3 ((none : Option Addr).elim Value.none fun f => rawInt f)))) (by rw [eT]; exact trivial) (.inl rfl) (fun b u nb e => (Heap.get?_update_other _ _ (Ne.symm nb)).trans e) ⟨_, e4⟩ (qT ⟨_, _, e4, d4, by simp [s3]⟩)
  rw [zfO eT] at J
  exact h _ J
abbrev Cx.hand (X : Cx) (a : Addr) (E : Value -> Shared -> Prop) : Cx := { X with A := X.A.mark (some (.ref a)), calm := false, xe := E }
theorem Cx.Ok.hand (ok : X.Ok) (a : Addr) (E : Value -> Shared -> Prop) : (X.hand a E).Ok :=
  ⟨ok.mod, ok.kind, ok.glob, ok.blt, ok.above, ok.inj, ok.has, ok.cab, fun z => absurd z Bool.false_ne_true, ok.frames, ok.stk, ok.exf, ok.bs, ok.bsz, ok.noex, ok.exfs, ok.funs, ok.frf⟩
theorem Inv.hand (I : Inv X pins σ H s) (a : Addr) (E : Value -> Shared -> Prop) : Inv (X.hand a E) pins σ H s := ⟨I.ok.hand a E, I.os, I.bare, I.base, I.loc, I.cell, I.free, I.freeC, I.pin, I.hok, I.len⟩
theorem Inv.unhand {a : Addr} {E : Value -> Shared -> Prop} {σ' : St} {H' : Hp} {s' : Shared} (I : Inv (X.hand a E) pins σ' H' s') (ok : X.Ok) : Inv X pins σ' H' s' := ⟨ok, I.os, I.bare, I.base, I.loc, I.cell, I.free, I.freeC, I.pin, I.hok, I.len⟩
abbrev Cx.tried (X : Cx) (E : Value -> Shared -> Prop) (pn : List (Addr × Obj)) : Cx := { X with xe := E, pn := pn }
theorem Inv.tried (I : Inv X pins σ H s) (E : Value -> Shared -> Prop) : Inv (X.tried E (X.pn ++ pins)) [] σ H s :=
  ⟨⟨I.ok.mod, I.ok.kind, I.ok.glob, I.ok.blt, I.ok.above, I.ok.inj, I.ok.has, I.ok.cab, I.ok.hd, I.ok.frames, I.ok.stk, I.ok.exf, I.ok.bs, I.ok.bsz, I.ok.noex, I.ok.exfs, I.ok.funs, I.ok.frf⟩, I.os, I.bare, I.base, I.loc, I.cell, I.free, I.freeC, fun p hp => I.pin p (by simpa using hp), I.hok, I.len⟩
theorem Inv.untried {E : Value -> Shared -> Prop} {pins' : List (Addr × Obj)} {σ' : St} {H' : Hp} {s' : Shared} (I : Inv (X.tried E (X.pn ++ pins)) pins' σ' H' s') (ok : X.Ok) : Inv X pins σ' H' s' :=
  ⟨ok, I.os, I.bare, I.base, I.loc, I.cell, I.free, I.freeC, fun p hp => I.pin p (List.mem_append_left _ hp), I.hok, I.len⟩
theorem j6 {i : Nat} {n : Str} {v : V} (I : Inv X pins σ H s) (hN : X.N.Nodup) (hi : X.N[i]? = some n) (hk : X.env.scope.names.lookup n = some .local) (hv : σ[i]? = some (some v)) (h : ∀ s', Inv X pins (σ.set i none) H s' -> Q () s') :
    wpAny (model X.prog X.w) A' (unbindName X.env n) Q E' s := by
  obtain ⟨m, hn, hl⟩ := id I.loc
  obtain ⟨u, ru, lk⟩ := hl i n v hi hv (.inl hk)
  have hm : m n = some u := by
    rcases lk with ⟨_, e⟩ | ⟨z, _⟩
    . exact e
    . have hk' : X.env.kindOf n = some .local := hk
      rcases z with z | z <;> (rw [hk'] at z; cases z)
  have hiσ : i < σ.length := by rw [I.len]; exact (List.getElem?_eq_some_iff.mp hi).1
  refine wpAny_unbindName_local hk hn hm (by rw [I.ok.kind]; rfl) fun h' u' hn' hs => ?_
  obtain ⟨oL, _, _, hoL, _⟩ := id hn
  have nl : ∀ b o, X.s₀.heap.get? b = some o -> b ≠ X.env.locals := fun b o e => Nat.ne_of_lt (Nat.lt_of_lt_of_le (Heap.lt_size e) I.ok.above)
  refine h _ ⟨I.ok, I.os, I.bare, ⟨fun b o e n' hb hx => (hs.2 b (nl b o e)).trans (I.base.keep b o e n' hb hx), fun b o e n' hb hx => ?_, I.base.free, fun b o e hx => ?_, I.base.tups, I.base.frzs, I.base.tbls⟩, ⟨_, hn', fun j y v' e1 e2 e3 => ?_⟩, fun y c e => ?_, I.free, I.freeC, fun p hp => ?_, fun b ob e => ?_, by simpa using I.len⟩
  . obtain ⟨sl, e1⟩ := I.base.slot b o e n' hb hx
    exact ⟨sl, (hs.2 b (nl b o e)).trans e1⟩
  . obtain ⟨o', e1⟩ := I.base.there b o e hx
    exact ⟨o', (hs.2 b (nl b o e)).trans e1⟩
  . by_cases hj : j = i
    . subst hj
      rw [List.getElem?_set_self hiσ] at e2
      cases e2
    . rw [List.getElem?_set_ne (Ne.symm hj)] at e2
      obtain ⟨u2, r2, q⟩ := hl j y v' e1 e2 e3
      refine ⟨u2, r2, ?_⟩
      rcases q with ⟨k, e⟩ | ⟨k, c, e, z⟩
      . refine .inl ⟨k, ?_⟩
        have ny : y ≠ n := fun e => hj (pN hN e1 (e ▸ hi))
        show (if y = n then u' else m y) = some u2
        rw [if_neg ny]; exact e
      . exact .inr ⟨k, c, e, z.sameBut hs (I.cne y c e)⟩
  . obtain ⟨w', z⟩ := I.cell y c e
    exact ⟨w', z.sameBut hs (I.cne y c e)⟩
  . obtain ⟨e, n', ne, nf, d⟩ := I.pin p hp
    exact ⟨(hs.2 p.1 ne).trans e, n', ne, nf, d⟩
  . refine (I.hok b ob e).stay (fun c w' hc q => (hs.2 c ?_).trans q) (fun _ q => q) fun _ _ q => q
    rintro rfl
    rcases hc with z | z
    . rw [<- z, I.free] at e; cases e
    . rw [I.free] at z; cases z
end
def zqb (n i : Nat) (C : Addr) (RX : Addr -> List (Str × V) -> Hp -> Prop) (tb ts : TS) : TS := fun D σ H => tb D σ H /\ ∀ a fs H1 σ1, List.length σ1 = n -> eR H1 a C fs -> RX a fs H1 ->
  ts { nx := fun σ2 H2 => D.nx (σ2.set i none) H2, rt := D.rt, bk := fun σ2 H2 => D.bk (σ2.set i none) H2, ct := fun σ2 H2 => D.ct (σ2.set i none) H2 } (σ1.set i (some (.ref a))) H1
def EXT (C : Addr) (RX : Addr -> List (Str × V) -> Hp -> Prop) : XK := fun e _ H' => ∃ a fs, e = .ref a /\ eR H' a C fs /\ RX a fs H'
section
variable {X : Cx} {C M : Addr} {RX : Addr -> List (Str × V) -> Hp -> Prop}
theorem SP.untried {pins : List (Addr × Obj)} {E : Value -> Shared -> Prop} {D : iC} {f : Flow} {s' : Shared} (ok : X.Ok) (h : SP (X.tried E (X.pn ++ pins)) [] D f s') : SP X pins D f s' := by
  cases f with
  | next => obtain ⟨σ', H', I, q⟩ := h; exact ⟨σ', H', I.untried ok, q⟩
  | brk => obtain ⟨σ', H', I, q⟩ := h; exact ⟨σ', H', I.untried ok, q⟩
  | cont => obtain ⟨σ', H', I, q⟩ := h; exact ⟨σ', H', I.untried ok, q⟩
  | ret u => obtain ⟨v, σ', H', I, r, q⟩ := h; exact ⟨v, σ', H', I.untried ok, r, q⟩
end
section
variable {X : Cx} {C M : Addr}
theorem eR.inst {pins : List (Addr × Obj)} {σ : St} {H : Hp} {s : Shared} {a : Addr} {fs : List (Str × V)} (I : Inv X pins σ H s) (x : eR H a C fs) : ∃ ox od, PySem.W.InstAt s.heap a ox C od := by
  obtain ⟨T, d, eT, nTa, ea, hd⟩ := x
  obtain ⟨vs, ho, h1⟩ := (I.hok a _ ea).1
  rcases hd with ⟨rfl, _⟩ | ⟨dx, rfl, h2, _, _⟩
  . exact ⟨_, none, ho, rfl, rfl, trivial⟩
  . obtain ⟨_, ⟨o, ho'⟩, _⟩ := I.hok dx _ h2
    exact ⟨_, some o, ho, rfl, rfl, ho'⟩
def zlL (C : Addr) (ta : TE) (f : Str) : TE := fun σ H Q => ta σ H fun x H1 => ∃ e fs v, x = .ref e /\ eR H1 e C fs /\ fs.lookup f = some v /\ Q v H1
theorem zI {e : Expr} {f : Str} {ta : TE} {pos : Pos} (xc : XC X.K C M) (hf : W.findIn X.K (.ref C) f = some none) (he : PE X e ta) (hb : attributeBase e f X.env (eval e X.env) = eval e X.env := by rfl) : PE X (.Attribute e f pos) (zlL C ta f) := by
  intro pins s σ H Q I h
  refine b6 hb (thn (he pins s σ H _ I h) fun u s1 zz => ?_)
  obtain ⟨x, H1, I1, rx, q1⟩ := zz
  obtain ⟨a, fs, v, rfl, ⟨T, d, eT, nTa, ea, hd⟩, hl, q⟩ := q1
  cases rx
  rcases hd with ⟨_, rfl⟩ | ⟨dx, rfl, h2, _, _⟩
  . cases hl
  . obtain ⟨_, mA, hn, hr, hw⟩ := (I1.hok dx _ h2).1
    obtain ⟨od, hod, hlook⟩ := lJ hn
    obtain ⟨vs, ho, h1⟩ := (I1.hok a _ ea).1
    have J : PySem.W.InstAt s1.heap a _ C (some od) := ⟨ho, rfl, rfl, hod⟩
    have rv := hr f
    rw [hl] at rv
    obtain ⟨u, eu, ru⟩ := oI.some_of rv
    unfold getAttr
    exact wpAny_bind (wpAny_mkText (i9 (s := { s1 with toks := s1.toks + 1 }) I1.kIn J xc.ga xc.gb (xc.isB I1.kIn J) (PySem.W.findObj_own xc.hd hf rfl (by rw [hlook, eu])) (rC ru) ⟨v, H1, I1.tok _, ru, q⟩))
theorem fC (xc : XC X.K C M) : fD X (.builtin "isinstance") (fun xs H Q => ∃ e fs c cv b, xs = [.ref e, c] /\ eR H e C fs /\ cH c cv /\ (∀ u, cH c u -> u = cv) /\ W.kitOne X.K (.ref C) cv = some b /\ Q (.bl b) H) := by
  intro pins s σ H xs us Q I r h
  obtain ⟨e, fs, c, cv, b, rfl, hX, rc, hu, hk, q⟩ := h
  obtain ⟨u1, u2, rfl, r1, r2⟩ := r.two
  cases r1
  obtain rfl := hu _ r2
  obtain ⟨ox, od, J⟩ := hX.inst I
  exact PySem.W.kia_one (zgw xc) I.kIn J hk (fun z => nomatch z) fun tk => ⟨.bl b, H, I.tok tk, rfl, q⟩
end
section
variable {prog : Program} {w : World} {A : Around} {E : Value -> Shared -> Prop} {s : Shared}
end
open AutoSeq1 (wpAny_loadPart')
section
variable {prog : Program} {w : World} {A : Around} {E : Value -> Shared -> Prop} {s : Shared}
end
section
variable {prog : Program} {w : World} {A : Around} {E : Value -> Shared -> Prop} {s : Shared}
end
section
variable {X : Cx}
theorem zaa (hu : X.A.units < cLine) : OpR X (compareOp .Eq) (fun x y H Q => ∃ (a b : Addr) (zs : List V), x = .ref a /\ y = .ref b /\ H a = some (.tup zs) /\ H b = some (.tup zs) /\ (∀ z ∈ zs, (∃ t, z = .str t) \/ ∃ b, z = .bl b) /\ Q (.bl true) H) := by
  intro pins s σ H x y v u Q I rx ry h
  obtain ⟨a, b, zs, rfl, rfl, h1, h2, hf, q⟩ := h
  cases rx
  cases ry
  obtain ⟨its1, rv1, pl1, hz1⟩ := I.tuple (SqT.of h1)
  obtain ⟨its2, rv2, pl2, hz2⟩ := I.tuple (SqT.of h2)
  have l1 := rv1.length
  have l2 := rv2.length
  have hs : its1.toArray.size = its2.toArray.size := by simp [<- l1, <- l2]
  have rc := SeqAt.RcAt.tuples (A := X.A) (s := s) (e := fun _ => true) pl1 pl2 hu fun j j1 j2 => by
    have hj : j < zs.length := by rw [l1]; simpa using j1
    obtain ⟨u1, e1, r1⟩ := rv1.get (i := j) (x := zs[j]) (List.getElem?_eq_getElem hj)
    obtain ⟨u2, e2, r2⟩ := rv2.get (i := j) (x := zs[j]) (List.getElem?_eq_getElem hj)
    have g1 : its1.toArray[j] = u1 := by
      have := List.getElem?_eq_some_iff.mp e1
      simpa using this.2
    have g2 : its2.toArray[j] = u2 := by
      have := List.getElem?_eq_some_iff.mp e2
      simpa using this.2
    rw [g1, g2]
    rcases hf zs[j] (List.getElem_mem hj) with ⟨t, e⟩ | ⟨t, e⟩
    . rw [e] at r1 r2
      have q := rF (A := X.A.in1) (s := s) r1 r2 rfl rfl
      have ev : eqV (V.str t) (V.str t) = true := by simp [eqV]
      rw [ev] at q
      exact q
    . rw [e] at r1 r2
      have q := rF (A := X.A.in1) (s := s) r1 r2 rfl rfl
      have ev : eqV (V.bl t) (V.bl t) = true := by simp [eqV]
      rw [ev] at q
      exact q
  have e0 : ((List.range (min its1.toArray.size its2.toArray.size)).all (fun _ => true) && its1.toArray.size == its2.toArray.size) = true := by simp [hs]
  rw [e0] at rc
  exact rc _ _ _ _ ⟨.bl true, H, I, rfl, q⟩
end
def XB (K : W.Frag) (M : Addr) : Prop := ∃ nm q N bs sn sub ab col dd k0 k1 k2 k3 k5, K.lookup M = some (excClassObj nm q M N bs fU true sn sub ab col dd k0 k1 k2 k3 k5 "ValueError.__new__")
section
variable {Md : Model} {A : Around} {E : Value -> Shared -> Prop} {C M : Addr}
variable {nm q nm' q' : Str} {N N' : Addr} {bs bs' sub sub' : List Value} {hdct hdct' : Bool} {sn sn' : List Str} {ab ab' : Bool} {col col' : Option Bool} {dd dd' : Option Addr} {k0 k1 k2 k3 k5 j0 j1 j2 j3 j5 : Option Value} {newId newId' : String}
theorem xH {h : Heap} {g : Array GenState} {d : Drawn} {t : Nat} {os : OsState} {e : Addr} {oe : Obj} {Q : Bool -> Shared -> Prop} (hC : h.get? C = some (excClassObj nm q C N bs (.ref M :: fU) hdct sn sub ab col dd k0 k1 k2 k3 k5 newId))
    (hM : h.get? M = some (excClassObj nm' q' M N' bs' fU hdct' sn' sub' ab' col' dd' j0 j1 j2 j3 j5 newId')) (he : h.get? e = some oe) (zni : oe.cls = .ref C) (hq : Q true ⟨h, g, d, t, os⟩) : wpAny Md A (excMatches (.ref e) (.ref M)) Q E ⟨h, g, d, t, os⟩ := by
  have hB : (Value.ref M :: fU).contains (.type "BaseException") = true := by simp [fU]
  have hcM : (Value.ref C :: Value.ref M :: fU).contains (.ref M) = true := by simp
  have f := tc_notTuple
  unfold excMatches
  repeat (first | (with_reducible refine wpAny_loadPart_at he ?_; rw [zni]) | with_reducible refine wpAny_loadPart_at hM ?_ | (with_reducible refine wpAny_isSubtype_exc hM ?_; rw [hB]) | (with_reducible refine wpAny_isSubtype_exc hC ?_; rw [hcM]) | wp_step)
  exact hq
end
section
variable {X : Cx} {C M : Addr} {RX : Addr -> List (Str × V) -> Hp -> Prop}
theorem q5 {body : List Stmt} {b0 : Stmt} {suite : List Stmt} {t : Expr} {nm : Str} {i n : Nat} {rest : List ExceptHandler} {pos zfe : Pos} {tb ts : TS}
    (xc : XC X.K C M) (xb : XB X.K M) (hst : X.stack = X.env :: X.outer) (hf : X.env.frame = some X.env.locals) (hN : X.N.Nodup) (hn : X.N.length = n) (hi : X.N[i]? = some nm) (hk : X.env.scope.names.lookup nm = some .local)
    (hRX : ∀ a fs H H', RX a fs H -> (∀ b o, b ≠ a -> H b = some o -> H' b = some o) -> eR H' a C fs -> RX a fs H')
    (hb : ∀ E pn, jV (CXE X.prog X.w) (X.tried E pn) (EXT C RX) -> PSs (X.tried E pn) body tb)
    (ht : ∀ a, PE (X.hand a fun _ _ => False) t (tC (.ref M)))
    (hs : ∀ a, PSs (X.hand a fun _ _ => False) (b0 :: suite) ts) :
    PS X (.Try body (.ExceptHandler (some t) (some nm) (b0 :: suite) zfe :: rest) [] [] pos) (zqb n i C RX tb ts) := by
  intro pins s σ H D I ⟨hbd, hsu⟩
  have ok := I.ok
  refine wpAny_Try_except (wpAny_mono (hb (fun e s' => ∃ σ1 H1 a fs, e = .ref a /\ Inv X pins σ1 H1 s' /\ eR H1 a C fs /\ RX a fs H1) (X.pn ++ pins) ?_ [] s σ H D (I.tried _) hbd) (fun f s1 h1 => ?_) fun e s1 h1 => ?_)
  . intro pins' σ' H' s' e s2 I' h'
    obtain ⟨a, H2, rfl, os, bare, un, hok, a', fs, e1, fl, rx⟩ := h'
    cases e1
    have I2 : Inv (X.tried _ (X.pn ++ pins)) pins' σ' H2 s2 := I'.call' (ch := []) os un hok bare (fun _ z => nomatch z)
    exact ⟨σ', H2, a, fs, rfl, I2.untried ok, fl, rx⟩
  . have h2 := SP.untried ok h1
    cases f with
    | next => exact wpAny_execs_nil h2
    | brk => exact h2
    | cont => exact h2
    | ret u => exact h2
  . obtain ⟨σ1, H1, a, fs, rfl, I1, fl, rx⟩ := h1
    refine zps (A' := X.A) I1 fl hst hf rfl fun h2 H2 I2 fl2 k2 => ?_
    have rx2 := hRX a fs H1 H2 rx k2 fl2
    obtain ⟨cn, q, N, bs, sn, sub, ab, col, dd, k0, k1, k2, k3, k5, e⟩ := xc.at_
    obtain ⟨mn, mq, mN, mb, ms, mu, ma, mc, md, j0, j1, j2, j3, j5, em⟩ := xb
    have J2 : Inv (X.hand a fun _ _ => False) pins σ1 H2 _ := I2.hand a _
    refine wpAny_handleBy_cons (codeAny_handlers_test (wpAny_mono (ht a pins _ σ1 H2 (fun v H3 => v = .ref M /\ H3 = H2) J2 ⟨rfl, rfl⟩) (fun c s3 h3 => ?_) fun _ _ x => x.elim)) (by intro q; cases q)
    obtain ⟨v, H3, J3, r3, rfl, rfl⟩ := h3
    cases r3
    obtain ⟨T, d, eT, nTa, ea, hd⟩ := id fl2
    obtain ⟨vs, ho, h1'⟩ := (J3.hok a _ ea).1
    have hC := J3.kIn _ _ e
    have hM := J3.kIn _ _ em
    obtain ⟨hp, g, dr, tk, os⟩ := s3
    refine xH hC hM ho rfl ?_
    refine codeAny_handlers_suite_as ?_
    refine zjv (X := X.hand a fun _ _ => False) (Q := _) J3 fl2 fun h4 J4 => ?_
    refine iS (X := X.hand a fun _ _ => False) (v := .ref a) J4 hN hi (.inl hk) rfl (fun s5 J5 => ?_) (.inr hk)
    have hl : σ1.length = n := by rw [<- hn]; exact I1.len
    refine wpAny_mono (hs a pins s5 _ _ _ J5 (hsu a fs _ σ1 hl fl2 rx2)) (fun f s6 h6 => ?_) fun _ _ x => x.elim
    have fin : ∀ σ6 H6, Inv (X.hand a fun _ _ => False) pins σ6 H6 s6 -> ∀ {Q : Shared -> Prop}, (∀ s', Inv X pins (σ6.set i none) H6 s' -> Q s') -> wpAny (model X.prog X.w) X.A (do bindName X.env nm .none; unbindBehindTheSuite X.env nm zfe) (fun _ s' => Q s') X.xe s6 := fun σ6 H6 J6 Q hq => by
      refine wpAny_bind (wpAny_bindName (iS (v := .non) (J6.unhand ok) hN hi (.inl hk) rfl (fun s7 J7 => ?_) (.inr hk)))
      unfold unbindBehindTheSuite
      refine wpAny_onRaise (j6 (v := .non) J7 hN hi hk ?_ fun s8 J8 => ?_)
      . rw [List.getElem?_set_self]
        rw [J6.len]; exact (List.getElem?_eq_some_iff.mp hi).1
      . rw [List.set_set] at J8
        exact hq s8 J8
    cases f with
    | next => obtain ⟨σ6, H6, J6, q⟩ := h6; exact fin σ6 H6 J6 fun s' J => ⟨_, _, J, q⟩
    | brk => obtain ⟨σ6, H6, J6, q⟩ := h6; exact fin σ6 H6 J6 fun s' J => ⟨_, _, J, q⟩
    | cont => obtain ⟨σ6, H6, J6, q⟩ := h6; exact fin σ6 H6 J6 fun s' J => ⟨_, _, J, q⟩
    | ret u => obtain ⟨v, σ6, H6, J6, r, q⟩ := h6; exact fin σ6 H6 J6 fun s' J => ⟨v, _, _, J, r, q⟩
end
structure wN (k : Nat) (A : Around) : Prop where
  dp : A.depth + 3 * k + 5 < recursionLimit
  un : A.units + 16 * k + 200 < cLine
theorem iE.hand {k : Nat} {A : Around} (r : iE k A) (v : Option Value) : wN k (A.mark v) := ⟨r.dp, r.un⟩
abbrev Around.calm (A : Around) : Around := { A with handled := none }
theorem wN.room {k : Nat} {A : Around} (r : wN k A) : iE k (Around.calm A) := ⟨rfl, r.dp, r.un⟩
structure FnOkH (P : Program) (w : World) (K : W.Frag) (mg : Str -> Option Value) (base : Heap) (k : Nat) (f : Addr) (fd : FuncData) (ps : List Str) (sp : Sp) : Prop where
  len : ∀ vs H Q E, sp vs H Q E -> vs.length = ps.length
  run : ∀ (A : Around) (outer : List Env) (s : Shared) (H : Hp) (args : Args) (us : List Value) (vs : List V) (Q : VK), wN k A -> zas P w K mg base A outer s H -> BindsTo s fd args (ps.zip us) -> cA vs us -> sp vs H Q E0 ->
    codeAny (model P w) A (.call (.ref f) args) (CR CX0 outer P w H s Q E0) s
abbrev Cx.loud (X : Cx) (A : Around) : Cx := { X with A := A, calm := false, xe := fun _ _ => False }
section
variable {P : Program} {w : World} {K : W.Frag} {mg : Str -> Option Value} {base : Heap}
theorem Inv.loud {X : Cx} {pins : List (Addr × Obj)} {σ : St} {H : Hp} {s : Shared} (I : Inv X pins σ H s) (A : Around) (hf : A.frames = X.A.frames) : Inv (X.loud A) pins σ H s :=
  ⟨⟨I.ok.mod, I.ok.kind, I.ok.glob, I.ok.blt, I.ok.above, I.ok.inj, I.ok.has, I.ok.cab, fun z => absurd z Bool.false_ne_true, hf.trans I.ok.frames, I.ok.stk, I.ok.exf, I.ok.bs, I.ok.bsz, I.ok.noex, I.ok.exfs, I.ok.funs, I.ok.frf⟩, I.os, I.bare, I.base, I.loc, I.cell, I.free, I.freeC, I.pin, I.hok, I.len⟩
theorem Fun.okH {x qual : Str} {st : Stmt} {f : Addr} {fd : FuncData} {N ps : List Str} {k : Nat} {sp : Sp} (F : Fun K x qual st f fd) (S : bE N ps (aD st)) (len : ∀ vs H Q E, sp vs H Q E -> vs.length = ps.length)
    (hbody : ∀ (cdv : Value) (A : Around) (outer : List Env) (s : Shared) (H : Hp) (vs : List V) (Q : VK), sp vs H Q E0 ->
      ∃ t, PSs ((eU CX0 P w K mg base N qual (aD st) f cdv (Around.calm A) outer s H E0).loud (A.deeper (envOfC qual (aD st) s.heap.objs.size f cdv))) (aV st) t /\ t { nx := fun _ H' => Q .non H', rt := Q } (start N vs) H) : FnOkH P w K mg base (k + 1) f fd ps sp := by
  obtain ⟨oc, od, kV, doc, pm, an, cdv, ct, osl, rfl, lk, hcd⟩ := F.ex
  refine ⟨len, fun A outer s H args us vs Q hr e0 hb r hsp => ?_⟩
  have hl := len _ _ _ _ hsp
  have KX : K.In s.heap := e0.mod.kin.keeps fun b o e => (e0.bs b o e).1
  have lim : s.heap.NoLimit := e0.mod.nolimit.keeps fun b o e => (e0.bs b o e).1
  have tJ : ∀ y ∈ ps.zip us, (aD st).names.lookup y.1 = some .local \/ ((aD st).names.lookup y.1 = some .cell /\ ((cellsFrom (s.heap.objs.size + 1) (aD st).names []).lookup y.1).isSome = true) := fun ⟨n, v⟩ hy => by
    rcases S.par n (List.of_mem_zip hy).1 with q | q
    . exact .inl q
    . exact .inr ⟨q, PySem.W.cellsFrom_some _ _ _ (.inl q)⟩
  refine codeAny_call_function hr.room.depth (KX _ _ lk) rfl S.co S.gen rfl (PySem.W.codeRec_of KX hcd) (hb _ _ _ _ ?_)
  refine wpAny_newFunctionEnv_cells S.kind tJ fun env he s1 x => ?_
  subst he
  refine ⟨lim.keeps x.toInCall.keep, codeAny_func ?_⟩
  obtain ⟨t, ht, hq⟩ := hbody cdv A outer s H vs Q hsp
  have e1 : zas P w K mg base (Around.calm A) outer s H := ⟨e0.frames, e0.mod, e0.bs, e0.bsz, e0.funs, e0.frf, e0.hok, e0.bare⟩
  have I0 : Inv (eU CX0 P w K mg base N qual (aD st) f cdv (Around.calm A) outer s H E0) [] (start N vs) H s1 := rD S rfl e1 hl r x
  have I := I0.loud (A.deeper (envOfC qual (aD st) s.heap.objs.size f cdv)) rfl
  refine wpAny_mono (ht [] s1 (start N vs) H _ I hq) (fun fl s' hs => ?_) fun e s' hs => hs.elim
  have fin : ∀ {σ' : St} {H' : Hp} {v : V} {u : Value}, Inv ((eU CX0 P w K mg base N qual (aD st) f cdv (Around.calm A) outer s H E0).loud (A.deeper (envOfC qual (aD st) s.heap.objs.size f cdv))) [] σ' H' s' -> cH v u -> Q v H' -> CE outer P w H s Q u s' :=
    fun {σ' H' v u} J rv q => ⟨v, H', J.os, J.bare, J.base, J.hok, rv, q⟩
  cases fl with
  | ret u =>
    obtain ⟨v, σ', H', J, rv, q⟩ := hs
    exact fin J rv q
  | next =>
    obtain ⟨σ', H', J, q⟩ := hs
    exact fin (v := V.non) (u := Value.none) J rfl q
  | brk =>
    obtain ⟨_, _, _, q⟩ := hs
    exact False.elim q
  | cont =>
    obtain ⟨_, _, _, q⟩ := hs
    exact False.elim q
end
section
variable {X : Cx} {k : Nat} {f : Addr} {fd : FuncData} {ps : List Str} {sp : Sp} {x : Str} {p pos : Pos} {e : Expr} {es : List Expr} {t : TA}
theorem zcN {pins : List (Addr × Obj)} {σ : St} {H : Hp} {s : Shared} {Q : VK} {us : List Value} {vs : List V} (F : FnOkH X.prog X.w X.K X.mg X.base k f fd ps sp) (hr : wN k X.A) (hb : gI X.K fd ps [])
    (I : Inv X pins σ H s) (r : cA vs us) (h : sp vs H Q E0) : wpAny (model X.prog X.w) X.A (call (.ref f) us) (EP X pins σ Q) X.xe s := by
  have hl : us.length = ps.length := by rw [<- r.length]; exact F.len _ _ _ _ h
  have bb := hb s us I.kIn (by rw [List.append_nil]; exact hl)
  rw [List.append_nil] at bb
  refine wpAny_call (codeAny_mono (F.run X.A X.stack s H ⟨us, []⟩ us vs Q hr I.env0 bb r h) fun r s' hq => ?_)
  cases r with
  | error e => exact False.elim hq
  | ok fl =>
    cases fl with
    | ret u => exact I.after hq
    | next => exact False.elim hq
    | brk => exact False.elim hq
    | cont => exact False.elim hq
theorem uE (F : FnOkH X.prog X.w X.K X.mg X.base k f fd ps sp) (hr : wN k X.A) (hg : Gl X x) (hm : X.mg x = some (.ref f)) (hk : W.keepIn X.K (.ref f) = true) (hb : gI X.K fd ps [])
    (ha : PA X (e :: es) t) (hdb : (x == ("__debug__" : Str)) = false := by decide) (he : starEach (e :: es) X.env = (false, eval e X.env) :: starEach es X.env := by rfl) (hpl : (backTo pos (starEach es X.env)).any (·.1) = false := by rfl) :
    PE X (.Call (.Name x p) (e :: es) [] pos) (lV sp [] E0 t) := by
  intro pins s σ H Q I h
  refine wpAny_Call_Name_kw (lW I hg hm ?_ hdb)
  refine PySem.W.callWith_K (h₀ := X.base) I.ok.mod.kin hk (thn (ha pos pins s σ H _ I h) fun us s1 ⟨vs, H1, I1, r, q⟩ => ⟨I1.kIn, ?_⟩) he hpl
  have q' : sp (vs ++ []) H1 Q E0 := q
  rw [List.append_nil] at q'
  exact zcN F hr hb I1 r q'
end
section
variable {X : Cx}
theorem uZ : ∀ bs : List Bool, (List.range bs.length).any (fun i => bs.getD i false) = bs.any id
  | [] => rfl
  | b :: bs => by
    rw [List.length_cons, List.range_succ_eq_map, List.any_cons, List.any_cons, List.any_map]
    have e : ((fun i => (b :: bs).getD i false) ∘ Nat.succ) = fun i => bs.getD i false := by
      funext i
      simp
    rw [e, uZ bs]
    rfl
theorem yF (hc : X.calm = true) : fD X (.builtin "any") (fun xs H Q => ∃ (p : Addr) (bs : List Bool), xs = [.ref p] /\ SqL X.K H p (bs.map V.bl) /\ Q (.bl (bs.any id)) H) := by
  intro pins s σ H xs us Q I r h
  obtain ⟨p, bs, rfl, hq, q⟩ := h
  obtain ⟨u, rfl, ru⟩ := r.one
  cases ru
  obtain ⟨its, rv, pl, hz⟩ := I.list hq
  have hp : p < s.heap.objs.size := by
    obtain ⟨o, ho, _⟩ := pl.isList
    exact Heap.lt_size ho
  have dR : its.toArray.size = bs.length := by rw [List.size_toArray, <- rv.length, List.length_map]
  refine call_any_walk (wpAny_pyIter_list pl.isList ⟨s.heap.objs.size, _, _, its.toArray.size, _, _, fun i => bs.getD i false, rfl, Walks.list (show X.A.in1.handled = none from I.ok.hd hc) _ p (Nat.ne_of_lt hp) its.toArray, ⟨⟨_, Heap.get?_push_size _ rfl, rfl, rfl⟩, pl.isList.push _⟩, ?_, ?_⟩)
  . intro i v s' Q' E' hP hQ'
    have hv : its[i]? = some v := by simpa using hP
    have hi : i < its.length := (List.getElem?_eq_some_iff.mp hv).1
    have hi2 : i < bs.length := by rw [<- dR]; simpa using hi
    obtain ⟨u, hu, ru⟩ := rv.get (i := i) (x := V.bl bs[i]) (by rw [List.getElem?_map, List.getElem?_eq_getElem hi2]; rfl)
    rw [hv] at hu
    cases hu
    have e : v = Value.bool bs[i] := ru
    subst e
    refine wpAny_truthy_bool ?_
    have e2 : bs.getD i false = bs[i] := by rw [List.getD_eq_getElem?_getD, List.getElem?_eq_getElem hi2]; rfl
    have hQ2 : Q' (bs.getD i false) s' := hQ'
    rw [e2] at hQ2
    exact hQ2
  . intro h' tk hk
    have I1 : Inv X pins σ H { s with heap := h', toks := tk } := I.kept fun b o e => hk b o (fun z => by
      have z' : b = s.heap.objs.size := by simpa using z
      exact absurd (Heap.lt_size e) (by rw [z']; exact Nat.lt_irrefl _)) (Heap.get?_push_of_some _ e)
    have e : (List.range its.toArray.size).any (fun i => bs.getD i false) = bs.any id := by
      rw [dR]
      exact uZ bs
    exact ⟨.bl (bs.any id), H, I1, by rw [e]; rfl, q⟩
end
end L2
namespace TX
open PySem PySem.Calls
theorem pY : typeLookup (.type "list") "keys" = pure none := by rw [typeLookup_type, builtinLookup_eq_fast]; kernel_rfl
section
variable {prog : Program} {w : World} {A : Around} {E : Value -> Shared -> Prop} {s : Shared} {a : Addr} {its : Array Value} {n : Nat}
theorem i4 {sl : Array (Option Value)} {Q : Option Value -> Shared -> Prop} (hh : A.handled = none) (hx : s.heap.get? a = some { cls := .type "list", dict := none, data := .seq its n, slots := sl })
    (h : ∀ h' tk, (∀ b o, s.heap.get? b = some o -> h'.get? b = some o) -> Q none { s with heap := h', toks := tk }) : wpAny (model prog w) A (getAttr? (.ref a) "keys") Q E s := by
  obtain ⟨hp1, g1, d1, tk1, os1⟩ := s
  have hT1 : ∀ tk', (⟨hp1, g1, d1, tk', os1⟩ : Shared).TypeIs (.ref a) "list" := fun _ => ⟨_, hx, rfl⟩
  have f1 := sub_AttributeError
  have f3 := F.slot_list_getattribute.lookup
  have f4 := F.slot_list_getattribute.bind (.ref a)
  have f5 := am_list_getattr_none
  have hsz : Str.length "keys" + 100 <= sizeLine := by rw [sizeLine_eq]; decide
  unfold getAttr? getAttrBy? getAttrBy
  repeat any_goals first | assumption | exact hT1 _ | ((with_reducible show wpAny _ _ (call (Value.builtin "list.__getattribute__") _ _) _ _ _); refine call_meets F.slot_list_getattribute (hT1 _) am_entry_list_getattribute (F.args_list_getattribute_2 _ _) (meets_getattribute_miss_list a its n sl "keys" _ pY (by decide +kernel) hsz) ⟨hx, hh, fun h' tk' e hx' => ?_⟩) | wp_step
  obtain ⟨t', u', he⟩ := hx'.there
  show wpAny (model prog w) A (getattributeRaised _ _ _ _ _ _ _) _ _ _
  unfold getattributeRaised
  repeat any_goals first | assumption | wp_step
  exact h _ _ hx'.keeps
end
end TX
namespace TX
open PySem PySem.Calls
theorem mB : entryFor table "dict.update.loop" = some Builtin.«dict.update.loop» := entryFor_of_tree (by kernel_rfl)
theorem hW : plainId "dict.update.loop" = true := by decide +kernel
section
variable {prog : Program} {w : World} {A : Around} {E : Value -> Shared -> Prop} {K : Type} [DecidableEq K] {knd : KeyKind prog w K}
def PairAt (h : Heap) (T : Addr) (key v : Value) : Prop := ∃ o m, h.get? T = some o /\ o.cls = .type "tuple" /\ o.data = .seq #[key, v] m
theorem vJ {s : Shared} {T : Addr} {key v : Value} {Q : List Value -> Shared -> Prop} (h : PairAt s.heap T key v) (q : Q [key, v] s) : wpAny (model prog w) A (Builtin.Dict.pairItems (.ref T)) Q E s := by
  obtain ⟨o, m, e, c, d⟩ := h
  have hT : s.TypeIs (.ref T) "tuple" := ⟨o, e, c⟩
  unfold Builtin.Dict.pairItems
  refine wpAny_bind (wpAny_typeOf hT ?_)
  rw [if_pos (by decide)]
  exact wpAny_bind (wpAny_seqItems e d (wpAny_pure q))
theorem zac {R : Result -> Shared -> Prop} {D I l : Addr} {items : Array Value} {more : List (K × Value)} (hh : A.in1.handled = none) (hDI : D ≠ I) (hlI : l ≠ I) (hlD : l ≠ D) (dR : more.length = items.size) (hz : items.size <= sizeLine) :
    ∀ (k i : Nat) (s : Shared), items.size - i = k -> i <= items.size -> s.heap.IsListIter I l i -> s.heap.IsList l items -> s.heap.DictOf knd D (merged [] (more.take i)) ->
      (∀ (i : Nat) (v : Value), items[i]? = some v -> ∃ (T : Addr) (key : Value) (kv : K × Value), v = .ref T /\ more[i]? = some kv /\ knd.is kv.1 key = true /\ T ≠ D /\ T ≠ I /\ PairAt s.heap T key kv.2) ->
      (∀ h' tk, h'.DictOf knd D (merged [] more) -> (∀ b o, b ≠ D -> b ≠ I -> s.heap.get? b = some o -> h'.get? b = some o) -> R (.ok (.ret .none)) { s with heap := h', toks := tk }) ->
      codeAny (model prog w) A (.builtin "dict.update.loop" ⟨[.ref D, .ref I, rawInt i, .none], []⟩) R s := by
  intro k
  have W := Walks.list (prog := prog) (w := w) (A := A.in1) hh I l hlI items
  induction k with
  | zero =>
    intro i s hk hi hit hl hd hp hR
    obtain rfl : i = items.size := by omega
    refine codeAny_builtin mB (by
      rw [PySem.Around.under_plainId hW _]
      refine (show wpAny _ A.in1 (pyNext (.ref I) >>= _) _ _ s from wpAny_bind (W.done s _ _ ⟨hit, hl⟩ fun h' tk hm => ?_))
      refine wpAny_bind (show wpAny _ A.in1 (pure ()) _ _ _ from wpAny_pure ?_)
      refine wpAny_pure (hR h' tk ?_ fun b o n1 n2 e => hm b o (by simp [n2]) e)
      rw [<- dR, List.take_length] at hd
      exact hd.at fun o e => hm D o (by simp [hDI]) e)
  | succ k ih =>
    intro i s hk hi hit hl hd hp hR
    have hlt : i < items.size := by omega
    refine codeAny_builtin mB (by
      rw [PySem.Around.under_plainId hW _]
      refine (show wpAny _ A.in1 (pyNext (.ref I) >>= _) _ _ s from wpAny_bind (W.item i s _ _ hlt ⟨hit, hl⟩ fun v h' tk hv st hm => ?_))
      obtain ⟨T, key, kv, rfl, hkv, zep, nD, nI, o, m, e, c, d⟩ := hp i v hv
      have eT := hm T o (by simp [nI]) e
      have hd1 : h'.DictOf knd D (merged [] (more.take i)) := hd.at fun o e => hm D o (by simp [hDI]) e
      have hq : PairAt h' T key kv.2 := ⟨o, m, eT, c, d⟩
      have hlm : (merged [] (more.take i)).length <= sizeLine := by
        have q := merged_length_le [] (more.take i)
        rw [List.length_take] at q
        have q0 : ([] : List (K × Value)).length = 0 := rfl
        omega
      refine wpAny_bind (wpAny_holding (wpAny_bind (wpAny_tryCatch (vJ hq ?_))))
      refine wpAny_holding (wpAny_dictSet_pairs zep hd1 (fun h2 hd2 sb => ?_) hlm)
      rw [<- merged_take_succ [] more i kv hkv] at hd2
      have e2 : ∀ b ob, b ≠ D -> h'.get? b = some ob -> h2.get? b = some ob := fun b ob n e => (sb.2 b n).trans e
      have ni : ((i : Int) + 1) = ((i + 1 : Nat) : Int) := by omega
      refine wpAny_pure ⟨plainId_quiet hW _, ?_⟩
      rw [ni]
      refine ih (i + 1) _ (by omega) hlt ?_ ?_ hd2 (fun j v hj => ?_) fun h3 tk3 hd3 kp => ?_
      . exact st.1.at fun ob q => e2 I ob (Ne.symm hDI) q
      . exact st.2.at fun ob q => e2 l ob hlD q
      . obtain ⟨T2, key2, kv2, r1, r2, r3, r4, r5, o2, m2, g1, g2, g3⟩ := hp j v hj
        exact ⟨T2, key2, kv2, r1, r2, r3, r4, r5, o2, m2, e2 T2 _ r4 (hm T2 _ (by simp [r5]) g1), g2, g3⟩
      . exact hR h3 tk3 hd3 fun b ob n1 n2 q => kp b ob n1 n2 (e2 b _ n1 (hm b _ (by simp [n2]) q)))
end
end TX
namespace TX
open PySem PySem.Calls
section
variable {prog : Program} {w : World} {A : Around} {E : Value -> Shared -> Prop} {s : Shared} {K : Type} [DecidableEq K] {knd : KeyKind prog w K}
theorem call_dict_list {l : Addr} {items : Array Value} {nl : Nat} {sl : Array (Option Value)} {more : List (K × Value)} {Q : Value -> Shared -> Prop} (hh : A.handled = none)
    (hx : s.heap.get? l = some { cls := .type "list", dict := none, data := .seq items nl, slots := sl }) (dR : more.length = items.size) (hz : items.size <= sizeLine)
    (hp : ∀ (i : Nat) (v : Value), items[i]? = some v -> ∃ (T : Addr) (key : Value) (kv : K × Value), v = .ref T /\ more[i]? = some kv /\ knd.is kv.1 key = true /\ PairAt s.heap T key kv.2)
    (h : ∀ h' tk, h'.DictOf knd s.heap.objs.size (merged [] more) -> (∀ b o, s.heap.get? b = some o -> h'.get? b = some o) -> Q (.ref s.heap.objs.size) { s with heap := h', toks := tk }) :
    wpAny (model prog w) A (call (.type "dict") [.ref l]) Q E s := by
  refine callType_codes (Q₁ := fun obj s₁ => obj = .ref s.heap.objs.size /\ s₁ = { s with heap := s.heap.push { cls := .type "dict", data := .dict #[] } }) F.kt_called_dict (F.kt_typeCall_dict_1 _) F.entry_dict_init (kt_code_dict_new _ ⟨rfl, rfl⟩) ?_
  rintro obj s₁ ⟨rfl, rfl⟩
  have zlx : (s.heap.push { cls := .type "dict", data := .dict #[] }).DictOf knd s.heap.objs.size [] := Heap.DictOf.new s.heap
  have hx1 : (s.heap.push { cls := .type "dict", data := .dict #[] }).get? l = some { cls := .type "list", dict := none, data := .seq items nl, slots := sl } := Heap.get?_push_of_some _ hx
  have hlt : l < s.heap.objs.size := Heap.lt_size hx
  have up1 : ∀ b o, s.heap.get? b = some o -> (s.heap.push { cls := .type "dict", data := .dict #[] }).get? b = some o := fun b o e => Heap.get?_push_of_some _ e
  have hsz : (s.heap.push { cls := .type "dict", data := .dict #[] }).objs.size = s.heap.objs.size + 1 := Heap.size_push ..
  generalize s.heap.push { cls := .type "dict", data := .dict #[] } = h1 at zlx hx1 up1 hsz ⊢
  refine ⟨zlx.typeIs, F.args_dict_init_2 _ _, ?_⟩
  unfold Builtin.«dict.__init__»
  refine wpAny_bind ?_
  unfold Builtin.Dict.selfAndRest
  refine wpAny_bind (wpAny_notOrdered_dict zlx.typeIs ?_)
  refine (show wpAny _ _ (pure (s.heap.objs.size, [Value.ref l])) _ _ _ from wpAny_pure ?_)
  show wpAny _ _ (Builtin.Dict.updateFrom "dict.__init__" s.heap.objs.size (.ref l) [] .none) _ _ _
  unfold Builtin.Dict.updateFrom
  refine wpAny_bind (wpAny_typeOf (T := "list") ⟨_, hx1, rfl⟩ ?_)
  rw [if_pos (by decide)]
  refine wpAny_bind (i4 (by simpa using hh) hx1 fun h2 tk2 k2 => ?_)
  rw [if_pos (show (Option.isNone (none : Option Value)) = true from rfl)]
  have hx2 := k2 _ _ hx1
  have hd2 : h2.DictOf knd s.heap.objs.size [] := zlx.at fun o e => k2 _ _ e
  have hD2 : s.heap.objs.size < h2.objs.size := by
    obtain ⟨o, _, _, e, _⟩ := hd2
    exact Heap.lt_size e
  have hl2 : l < h2.objs.size := Heap.lt_size hx2
  refine wpAny_bind (wpAny_rule (wpAny_bind (wpAny_pyIter_list ⟨_, hx2, rfl, nl, rfl⟩ ?_)))
  have up : ∀ b o, h2.get? b = some o -> (h2.push { cls := .type "list_iterator", data := .fields #[.ref l, .int 0 0] }).get? b = some o := fun b o e => Heap.get?_push_of_some _ e
  refine wpAny_pure ⟨plainId_quiet hW _, ?_⟩
  refine zac (knd := knd) (more := more) (D := s.heap.objs.size) (I := h2.objs.size) (l := l) (items := items) (by simpa using hh) (Nat.ne_of_lt hD2) (Nat.ne_of_lt hl2) (Nat.ne_of_lt hlt) dR hz items.size 0 _ rfl (Nat.zero_le _) ⟨_, Heap.get?_push_size _ rfl, rfl, rfl⟩ ⟨_, up _ _ hx2, rfl, nl, rfl⟩ (hd2.at fun o e => up _ _ e) (fun i v e => ?_) fun h' tk hd' kp => ⟨rfl, h h' tk hd' fun b o e => ?_⟩
  . obtain ⟨T, key, kv, r1, r2, r3, o, m, g1, g2, g3⟩ := hp i v e
    have hTlt : T < s.heap.objs.size := Heap.lt_size g1
    exact ⟨T, key, kv, r1, r2, r3, Nat.ne_of_lt hTlt, Nat.ne_of_lt (Nat.lt_trans hTlt hD2), o, m, up _ _ (k2 _ _ (up1 _ _ g1)), g2, g3⟩
  . have hb : b < s.heap.objs.size := Heap.lt_size e
    exact kp b o (Nat.ne_of_lt hb) (Nat.ne_of_lt (Nat.lt_trans hb hD2)) (up _ _ (k2 _ _ (up1 _ _ e)))
end
end TX
namespace TX
open PySem PySem.Calls
section
variable {prog : Program} {w : World} {A : Around} {E : Value -> Shared -> Prop} {s : Shared}
end
end TX
namespace L2
open PySem PySem.Spec PyProof.Rows
section
variable {X : Cx}
def sY (H : Hp) : List Addr -> List (Str × V) -> Prop := Paired fun t p => H t = some (.tup [.str p.1, p.2])
def kH (kvs : List (Str × V)) : List (Key × V) := kvs.map fun p => (.inr p.1, p.2)
theorem gZ : ∀ {ts : List Addr} {us : List Value}, cA (ts.map V.ref) us -> us = ts.map Value.ref
  | [], _, .nil => rfl
  | t :: r, _, .cons e q => by
    have e' : _ = Value.ref t := e
    rw [List.map_cons, <- gZ q, e']
theorem wG {P : Program} {w : World} {H : Hp} {h : Heap} (ok : HOk P w H h) {ts : List Addr} {kvs : List (Str × V)} (hp : sY H ts kvs) : ∃ more : List (Key × Value), KV (kH kvs) more /\ more.map (·.1) = kvs.map (fun p => Sum.inr p.1) /\
    ∀ (i : Nat) (t : Addr), ts[i]? = some t -> ∃ (key : Value) (kv : Key × Value), more[i]? = some kv /\ (bH P w).is kv.1 key = true /\ TX.PairAt h t key kv.2 := by
  induction hp with
  | nil => exact ⟨[], .nil, rfl, fun i t e => nomatch e⟩
  | cons e r ih =>
    obtain ⟨more, h1, h2, h3⟩ := ih
    obtain ⟨_, its, rv, o, e1, e2, m, e3⟩ := ok _ _ e
    obtain ⟨u1, u2, rfl, r1, r2⟩ := rv.two
    refine ⟨(.inr _, u2) :: more, .cons ⟨rfl, r2⟩ h1, by rw [List.map_cons, h2]; rfl, fun i t' hi => ?_⟩
    cases i with
    | zero =>
      cases hi
      exact ⟨u1, _, rfl, lQ (k := .inr _) r1, o, m, e1, e2, e3⟩
    | succ i => exact h3 i t' hi
def zfr : List V -> Hp -> VK -> Prop := fun xs H Q => ∃ (L : Addr) (ts : List Addr) (kvs : List (Str × V)), xs = [.ref L] /\ H L = some (.lst (ts.map V.ref)) /\ sY H ts kvs /\ (kvs.map (·.1)).Nodup /\ ∀ D, H D = none -> Q (.ref D) (upd H D (.dK (kH kvs)))
theorem wY (hc : X.calm = true) : fD X (.type "dict") zfr := by
  intro pins s σ H xs us Q I r h
  obtain ⟨L, ts, kvs, rfl, hL, hP, hn, q⟩ := h
  obtain ⟨u, rfl, rx⟩ := kZ r
  cases rx
  obtain ⟨hz, its, n, rv, e⟩ := I.hok _ _ hL
  have ei := gZ rv
  subst ei
  obtain ⟨more, h1, h2, h3⟩ := wG I.hok hP
  have dR : ts.length = kvs.length := Paired.length hP
  have hml : more.length = kvs.length := by
    have := congrArg List.length h2
    rw [List.length_map, List.length_map] at this
    exact this
  rw [List.length_map] at hz
  refine TX.call_dict_list (knd := bH X.prog X.w) (more := more) (I.ok.hd hc) e (by simp [hml, dR]) (by simpa using hz) (fun i v hv => ?_) fun h' tk hd kp => ?_
  . have hv' : (ts.map Value.ref)[i]? = some v := by simpa using hv
    rw [List.getElem?_map] at hv'
    obtain ⟨t, ht, rfl⟩ := Option.map_eq_some_iff.mp hv'
    obtain ⟨key, kv, g1, g2, g3⟩ := h3 i t ht
    exact ⟨t, key, kv, rfl, g1, g2, g3⟩
  . have hnd : (more.map (·.1)).Nodup := by
      rw [h2, show (kvs.map fun p => (Sum.inr p.1 : Key)) = (kvs.map (·.1)).map Sum.inr by rw [List.map_map]; rfl]
      exact List.Pairwise.map _ (fun a b hab e => hab (Sum.inr.inj e)) hn
    rw [merged_nil_of_nodup more hnd] at hd
    have hkl : (kH kvs).length <= sizeLine := by
      show (kvs.map _).length <= sizeLine
      rw [List.length_map]
      omega
    have hb : (s.heap.objs.size == sysModules) = false := beq_eq_false_iff_ne.mpr (Ne.symm (Nat.ne_of_lt I.big))
    exact ⟨.ref s.heap.objs.size, _, I.laid (a := s.heap.objs.size) (o := .dK (kH kvs)) (t' := tk) kp (Nat.le_refl _) (rA hkl hb h1 hd), rfl, q _ (I.hok.fresh (Nat.le_refl _))⟩
theorem pG {A : Around} {pins : List (Addr × Obj)} {s : Shared} {σ : St} {H : Hp} (I : Inv X pins σ H s) (hu : A.units < cLine) {a b : Addr} {xs ys : List Str} (h1 : SqL X.K H a (xs.map V.str)) (h2 : SqL X.K H b (ys.map V.str)) :
    SeqAt.RcAt A s (.ref a) (.ref b) (decide (xs = ys)) /\ SeqAt.RcNeAt A s (.ref a) (.ref b) (!decide (xs = ys)) := by
  obtain ⟨its1, rv1, pl1, hz1⟩ := I.list h1
  obtain ⟨its2, rv2, pl2, hz2⟩ := I.list h2
  have l1 := rv1.length
  have l2 := rv2.length
  rw [List.length_map] at l1 l2
  by_cases hl : xs.length = ys.length
  . have hs : its1.toArray.size = its2.toArray.size := by simp; omega
    have he : ∀ j (j1 : j < its1.toArray.size) (j2 : j < its2.toArray.size), SeqAt.EqAt A.in1 s its1.toArray[j] its2.toArray[j] (decide (xs[j]? = ys[j]?)) := fun j j1 j2 => by
      have k1 : j < xs.length := by rw [l1]; simpa using j1
      have k2 : j < ys.length := by rw [l2]; simpa using j2
      obtain ⟨u1, e1, r1⟩ := rv1.get (i := j) (x := V.str xs[j]) (by rw [List.getElem?_map, List.getElem?_eq_getElem k1]; rfl)
      obtain ⟨u2, e2, r2⟩ := rv2.get (i := j) (x := V.str ys[j]) (by rw [List.getElem?_map, List.getElem?_eq_getElem k2]; rfl)
      have g1 : its1.toArray[j] = u1 := by
        have := List.getElem?_eq_some_iff.mp e1
        simpa using this.2
      have g2 : its2.toArray[j] = u2 := by
        have := List.getElem?_eq_some_iff.mp e2
        simpa using this.2
      rw [g1, g2]
      have q := rF (A := A.in1) (s := s) r1 r2 rfl rfl
      have ev : eqV (V.str xs[j]) (V.str ys[j]) = decide (xs[j]? = ys[j]?) := by
        rw [List.getElem?_eq_getElem k1, List.getElem?_eq_getElem k2]
        by_cases z : xs[j] = ys[j] <;> simp [eqV, z]
      rw [ev] at q
      exact q
    have ea : ((List.range its1.toArray.size).all fun j => decide (xs[j]? = ys[j]?)) = decide (xs = ys) := by
      rw [Bool.eq_iff_iff, List.all_eq_true, decide_eq_true_iff]
      constructor
      . intro z
        apply List.ext_getElem?
        intro j
        by_cases hj : j < xs.length
        . exact of_decide_eq_true (z j (List.mem_range.mpr (by rw [l1] at hj; simpa using hj)))
        . rw [List.getElem?_eq_none (by omega), List.getElem?_eq_none (by omega)]
      . intro z j _
        rw [z]; simp
    have rc := SeqAt.RcAt.lists (A := A) (s := s) pl1.isList pl2.isList hs hu he
    have rn := SeqAt.RcNeAt.lists (A := A) (s := s) pl1.isList pl2.isList hs hu he
    rw [ea] at rc rn
    exact ⟨rc, rn⟩
  . have hne : (its1.toArray.size != its2.toArray.size) = true := by simp; omega
    have ed : decide (xs = ys) = false := decide_eq_false fun z => hl (by rw [z])
    rw [ed]
    exact ⟨SeqAt.RcAt.lists_lengths pl1.isList pl2.isList hne hu, SeqAt.RcNeAt.lists_lengths pl1.isList pl2.isList hne hu⟩
def zbs (K : W.Frag) (f : Bool -> Bool) : R2 := fun x y H Q => ∃ (a b : Addr) (xs ys : List Str), x = .ref a /\ y = .ref b /\ SqL K H a (xs.map V.str) /\ SqL K H b (ys.map V.str) /\ Q (.bl (f (decide (xs = ys)))) H
theorem zcQ (hu : X.A.units < cLine) : OpR X (compareOp .Eq) (zbs X.K id) := by
  intro pins s σ H x y v u Q I rx ry h
  obtain ⟨a, b, xs, ys, rfl, rfl, h1, h2, q⟩ := h
  cases rx
  cases ry
  exact (pG I hu h1 h2).1 _ _ _ _ ⟨.bl _, H, I, rfl, q⟩
theorem d9 (hu : X.A.units < cLine) : OpR X (compareOp .NotEq) (zbs X.K not) := by
  intro pins s σ H x y v u Q I rx ry h
  obtain ⟨a, b, xs, ys, rfl, rfl, h1, h2, q⟩ := h
  cases rx
  cases ry
  exact (pG I hu h1 h2).2 _ _ _ _ ⟨.bl _, H, I, rfl, q⟩
end
section
variable {X : Cx}
end
section
variable {X : Cx}
def oZ (K : W.Frag) (H : Hp) : List Addr -> List (List Str) -> Prop := Paired fun p zs => SqL K H p (zs.map V.str)
theorem oZ.get {K : W.Frag} {H : Hp} {ps : List Addr} {zss : List (List Str)} {j : Nat} {p : Addr} {zs : List Str} (h : oZ K H ps zss) : ps[j]? = some p -> zss[j]? = some zs -> SqL K H p (zs.map V.str) := by
  induction h generalizing j with
  | nil => intro e1; cases e1
  | cons h r ih =>
    intro e1 e2
    cases j with
    | zero => cases e1; cases e2; exact h
    | succ j => exact ih e1 e2
theorem zen (hu : X.A.units < cLine) (hu1 : X.A.in1.units < cLine) : OpR X (compareOp .NotEq) (fun x y H Q => ∃ (a b : Addr) (ps qs : List Addr) (zss : List (List Str)), x = .ref a /\ y = .ref b /\ SqL X.K H a (ps.map V.ref) /\ SqL X.K H b (qs.map V.ref) /\ oZ X.K H ps zss /\ oZ X.K H qs zss /\
    (∀ (j : Nat) (p q : Addr), ps[j]? = some p -> qs[j]? = some q -> p ≠ q) /\ Q (.bl false) H) := by
  intro pins s σ H x y v u Q I rx ry h
  obtain ⟨a, b, ps, qs, zss, rfl, rfl, h1, h2, t1, t2, hne, q⟩ := h
  cases rx
  cases ry
  obtain ⟨its1, rv1, pl1, hz1⟩ := I.list h1
  obtain ⟨its2, rv2, pl2, hz2⟩ := I.list h2
  have e1 := gZ rv1
  have e2 := gZ rv2
  subst e1 e2
  have l1 : ps.length = zss.length := Paired.length t1
  have l2 : qs.length = zss.length := Paired.length t2
  have rc := SeqAt.RcNeAt.lists (A := X.A) (s := s) (e := fun _ => true) pl1.isList pl2.isList (by simp [l1, l2]) hu fun j j1 j2 => by
    have k1 : j < ps.length := by simpa using j1
    have k2 : j < qs.length := by simpa using j2
    have k3 : j < zss.length := by omega
    have g1 : ps[j]? = some ps[j] := List.getElem?_eq_getElem k1
    have g2 : qs[j]? = some qs[j] := List.getElem?_eq_getElem k2
    have g3 : zss[j]? = some zss[j] := List.getElem?_eq_getElem k3
    have m1 : (ps.map Value.ref).toArray[j] = .ref ps[j] := by simp
    have m2 : (qs.map Value.ref).toArray[j] = .ref qs[j] := by simp
    rw [m1, m2]
    refine SeqAt.EqAt.of_refs (hne j _ _ g1 g2) ?_
    have r := (pG I (A := X.A.in1) hu1 (t1.get g1 g3) (t2.get g2 g3)).1
    rw [decide_eq_true rfl] at r
    exact r
  have e0 : (!((List.range (ps.map Value.ref).toArray.size).all fun _ => true)) = false := by simp
  rw [e0] at rc
  exact rc _ _ _ _ ⟨.bl false, H, I, rfl, q⟩
theorem zdk (hu : X.A.units < cLine) : OpR X (compareOp .NotEq) (fun x y H Q => ∃ (a b : Addr) (zs : List V), x = .ref a /\ y = .ref b /\ H a = some (.tup zs) /\ H b = some (.tup zs) /\ (∀ z ∈ zs, ∃ t, z = .str t) /\ Q (.bl false) H) := by
  intro pins s σ H x y v u Q I rx ry h
  obtain ⟨a, b, zs, rfl, rfl, h1, h2, hf, q⟩ := h
  cases rx
  cases ry
  obtain ⟨its1, rv1, pl1, hz1⟩ := I.tuple (SqT.of h1)
  obtain ⟨its2, rv2, pl2, hz2⟩ := I.tuple (SqT.of h2)
  have l1 := rv1.length
  have l2 := rv2.length
  have hs : its1.toArray.size = its2.toArray.size := by simp [<- l1, <- l2]
  have rc := SeqAt.RcNeAt.tuples (A := X.A) (s := s) (e := fun _ => true) pl1 pl2 hu fun j j1 j2 => by
    have hj : j < zs.length := by rw [l1]; simpa using j1
    obtain ⟨u1, e1, r1⟩ := rv1.get (i := j) (x := zs[j]) (List.getElem?_eq_getElem hj)
    obtain ⟨u2, e2, r2⟩ := rv2.get (i := j) (x := zs[j]) (List.getElem?_eq_getElem hj)
    have g1 : its1.toArray[j] = u1 := by
      have := List.getElem?_eq_some_iff.mp e1
      simpa using this.2
    have g2 : its2.toArray[j] = u2 := by
      have := List.getElem?_eq_some_iff.mp e2
      simpa using this.2
    rw [g1, g2]
    obtain ⟨t, ht⟩ := hf zs[j] (List.getElem_mem hj)
    rw [ht] at r1 r2
    have q := rF (A := X.A.in1) (s := s) r1 r2 rfl rfl
    have ev : eqV (V.str t) (V.str t) = true := by simp [eqV]
    rw [ev] at q
    exact q
  have e0 : (!((List.range (min its1.toArray.size its2.toArray.size)).all (fun _ => true) && its1.toArray.size == its2.toArray.size)) = false := by simp [hs]
  rw [e0] at rc
  exact rc _ _ _ _ ⟨.bl false, H, I, rfl, q⟩
end
end L2
namespace L2
open PySem PyProof.Rows
section
variable {X : Cx}
theorem zfV {A : Around} {k : Nat} (hr : iE k A) : A.in1.units < cLine := Nat.lt_of_le_of_lt (Nat.add_le_add_left (by omega) _) (kE hr)
end
end L2
namespace L2
open PySem PySem.Spec PyProof.Rows
section
variable {X : Cx}
def xR (z : Str) : Value -> Bool
  | .str a _ => a == z
  | _ => false
theorem lS {zs : List Str} {its : List Value} (r : cA (zs.map V.str) its) {j : Nat} {u : Value} (h : its[j]? = some u) : ∃ a t, zs[j]? = some a /\ u = .str a t := by
  have hj : j < zs.length := by
    have := (List.getElem?_eq_some_iff.mp h).1
    have e := r.length
    rw [List.length_map] at e
    omega
  obtain ⟨u', h', ru⟩ := r.get (i := j) (x := .str zs[j]) (by rw [List.getElem?_map, List.getElem?_eq_getElem hj]; rfl)
  rw [h] at h'
  obtain ⟨t, rfl⟩ := ru
  exact ⟨zs[j], t, List.getElem?_eq_getElem hj, Option.some.inj h'⟩
theorem w9 {zs : List Str} {its : List Value} {z : Str} {t : Tok} (r : cA (zs.map V.str) its) : ∀ y ∈ its.toArray, MeetsSeq.EqGives y (.str z t) (xR z y) := fun y hy => by
  obtain ⟨j, hj⟩ := List.getElem?_of_mem (show y ∈ its by simpa using hy)
  obtain ⟨a, t', _, rfl⟩ := lS r hj
  exact fun prog w A E s Q h => SeqAt.EqAt.str_str a t' z t prog w E Q h
theorem zar {zs : List Str} {its : List Value} {z : Str} (r : cA (zs.map V.str) its) (hz : z ∈ zs) : ∃ hj : zs.idxOf z < its.toArray.size, xR z its.toArray[zs.idxOf z] = true /\ ∀ (m : Nat) (hm : m < its.toArray.size), m < zs.idxOf z -> xR z its.toArray[m] = false := by
  have hj : zs.idxOf z < zs.length := List.idxOf_lt_length_of_mem hz
  have e := r.length
  rw [List.length_map] at e
  refine ⟨by rw [List.size_toArray]; omega, ?_, fun m hm hl => ?_⟩
  . obtain ⟨a, t, h1, h2⟩ := lS r (List.getElem?_eq_getElem (by omega : zs.idxOf z < its.length))
    show xR z its[zs.idxOf z] = true
    rw [h2]
    rw [List.getElem?_eq_getElem hj] at h1
    have : a = z := by rw [<- Option.some.inj h1]; exact List.getElem_idxOf hj
    subst this
    exact beq_self_eq_true a
  . rw [List.size_toArray] at hm
    obtain ⟨a, t, h1, h2⟩ := lS r (List.getElem?_eq_getElem hm)
    show xR z its[m] = false
    rw [h2]
    obtain ⟨hm', h1⟩ := List.getElem?_eq_some_iff.mp h1
    show (a == z) = false
    rw [beq_eq_false_iff_ne]
    rintro rfl
    have hc := List.not_of_lt_findIdx hl
    rw [h1, beq_self_eq_true] at hc
    cases hc
def zdZ : V -> List V -> Hp -> VK -> Prop := fun x vs H Q => ∃ (l : Addr) (z : Str) (zs : List Str), x = .ref l /\ vs = [.str z] /\ H l = some (.lst (zs.map V.str)) /\ z ∈ zs /\ zs.length <= 1000 /\ Q (.int (zs.idxOf z : Nat)) H
theorem a7 : MtM X "list.index" zdZ := by
  intro pins s σ H x vs v us Q I rx rv h
  obtain ⟨l, z, zs, rfl, rfl, hH, hz, h1000, q⟩ := h
  cases rx
  obtain ⟨u, rfl, ru⟩ := rv.one
  obtain ⟨t, rfl⟩ := ru
  obtain ⟨sz, its, n, r, hl, e⟩ := I.lstM hH
  obtain ⟨hj, h1, h2⟩ := zar r hz
  have hj' : zs.idxOf z < zs.length := List.idxOf_lt_length_of_mem hz
  refine call_meets F.slot_list_index ⟨_, e, rfl⟩ F.entry_list_index (F.args_list_index_2 _ _)
    (MeetsSeq.list_index l its.toArray n (.str z t) (xR z) (w9 r) _ hj (by omega) h1 h2) ⟨e, ?_⟩
  exact ⟨.int _, H, I.tok _, ⟨_, rfl⟩, q⟩
end
section
variable {X : Cx} {tg : Expr}
def zng : V -> List V -> Hp -> VK -> Prop := fun x vs H Q => ∃ (d e : Addr) (kvs more : List (Key × V)), x = .ref d /\ vs = [.ref e] /\ H d = some (.dK kvs) /\ H e = some (.dK more) /\ d ≠ e /\ kvs.length + more.length <= sizeLine /\ Q .non (upd H d (.dK (gM kvs more)))
theorem wJ : MtR X "dict.update" zng := by
  intro pins s σ H x vs v us Q I rx rv h
  obtain ⟨d, e, kvs, more, rfl, rfl, hd, he, hne, hsz, q⟩ := h
  cases rx
  obtain ⟨u, rfl, ru⟩ := kZ rv
  cases ru
  obtain ⟨z1, y1, vs1, r1, d1⟩ := zW I.hok hd
  obtain ⟨z2, y2, vs2, r2, d2⟩ := zW I.hok he
  have l1 := r1.length
  have l2 := r2.length
  refine call_meetsIn PySem.F.slot_dict_update d1.typeIs PySem.F.entry_dict_update (PySem.F.args_dict_update_2 _ _) (meets_dict_update _ d e hne y2) ⟨vs1, vs2, d1, d2, by omega, fun h' a1 a2 a3 => ?_⟩
  have hl := gS more kvs
  obtain ⟨o', ho', _⟩ := Heap.dictOf_iff.mp a1
  exact ⟨.non, _, lO (t' := s.toks) I (by rw [hd]; trivial) a3 ⟨o', ho'⟩ (rA (by omega) y1 (KV.merge r2 r1) a1), rfl, q⟩
end
section
variable {X : Cx} {tg : Expr}
end
theorem aR.relab {own fr : List Str} {scope outer : Scope} {env : Env} (S : aR own fr scope outer) : aR own fr scope (relabel outer env) := by
  refine ⟨S.kind, S.nocell, S.names, S.nd, fun y hy hf => ?_, S.frs, S.owns⟩
  have q := eD (env := env) outer.names y.1
  rcases S.outs y hy hf with e | e
  . rw [e] at q; exact .inl q
  . rw [e] at q
    by_cases hc : (NameKind.free == NameKind.free && env.scope.kind == .function && env.kindOf y.1 == some .cell) = true
    . refine .inl (q.trans ?_); simp only [Option.map_some]; rw [if_pos hc]
    . refine .inr (q.trans ?_); simp only [Option.map_some]; rw [if_neg hc]
theorem vA {X : Cx} {k v : Expr} {tk tv : TE} {pos : Pos} (hk : PE X k tk) (hv : PE X v tv) : PE X (.Dict [some k] [v] pos) (zgP [(tk, tv)]) := zdJ (zaw hk hv zeM) rfl rfl (fun z => nomatch z) (by show (1 : Nat) <= 15; decide)
def mI (xs : Array Nat) : Prop := ∀ i j : Nat, i < j -> j < xs.size -> xs.getD i 0 < xs.getD j 0
theorem pO {xs : Array Nat} {j c : Nat} (h1 : ∀ k : Nat, k < c -> xs.getD k j < j) (h2 : ∀ k : Nat, c <= k -> k < xs.size -> ¬ xs.getD k j < j) :
    ∀ (fuel lo hi : Nat), lo <= c -> c <= hi -> hi <= xs.size -> hi - lo <= fuel -> SetTable.below.go xs j fuel lo hi = c
  | 0, lo, hi, a, b, _, d => by
    show lo = c
    omega
  | fuel + 1, lo, hi, a, b, e, d => by
    unfold SetTable.below.go
    by_cases hl : lo < hi
    . rw [if_pos hl]
      dsimp only
      by_cases hm : xs.getD ((lo + hi) / 2) j < j
      . rw [if_pos hm]
        have hc : (lo + hi) / 2 < c := Nat.lt_of_not_le fun z => h2 _ z (by omega) hm
        exact pO h1 h2 fuel _ hi (by omega) b e (by omega)
      . rw [if_neg hm]
        have hc : c <= (lo + hi) / 2 := Nat.le_of_not_lt fun z => hm (h1 _ z)
        exact pO h1 h2 fuel lo _ a hc (by omega) (by omega)
    . rw [if_neg hl]
      omega
theorem oV {xs : Array Nat} {j c : Nat} (hc : c <= xs.size) (h1 : ∀ k : Nat, k < c -> xs.getD k 0 < j) (h2 : ∀ k : Nat, c <= k -> k < xs.size -> j <= xs.getD k 0) : SetTable.below xs j = c := by
  unfold SetTable.below
  refine pO (fun k hk => ?_) (fun k hk hs => ?_) _ 0 _ (Nat.zero_le _) hc (Nat.le_refl _) (by omega)
  . have q := h1 k hk
    rw [Array.getD_eq_getD_getElem?, Array.getElem?_eq_getElem (by omega : k < xs.size)] at q ⊢
    exact q
  . have q := h2 k hk hs
    rw [Array.getD_eq_getD_getElem?, Array.getElem?_eq_getElem hs] at q ⊢
    exact Nat.not_lt.mpr q
theorem mI.first {xs : Array Nat} (h : mI xs) : SetTable.below xs 0 = 0 := oV (Nat.zero_le _) (fun _ z => absurd z (Nat.not_lt_zero _)) fun _ _ _ => Nat.zero_le _
theorem mI.next {xs : Array Nat} (h : mI xs) {i : Nat} (hi : i < xs.size) : SetTable.below xs (xs.getD i 0 + 1) = i + 1 := by
  refine oV hi (fun k hk => ?_) (fun k hk hs => h i k hk hs)
  rcases Nat.lt_or_ge k i with z | z
  . exact Nat.lt_succ_of_lt (h k i z hi)
  . have : k = i := by omega
    rw [this]; exact Nat.lt_succ_self _
theorem mI.place {xs : Array Nat} (h : mI xs) (j : Nat) : ∃ c, c <= xs.size /\ (∀ k : Nat, k < c -> xs.getD k 0 < j) /\ (∀ k : Nat, c <= k -> k < xs.size -> j <= xs.getD k 0) /\ SetTable.below xs j = c := by
  have key : ∀ n : Nat, n <= xs.size -> ∃ c, c <= n /\ (∀ k : Nat, k < c -> xs.getD k 0 < j) /\ ∀ k : Nat, c <= k -> k < n -> j <= xs.getD k 0 := by
    intro n
    induction n with
    | zero => exact fun _ => ⟨0, Nat.le_refl _, fun _ z => absurd z (Nat.not_lt_zero _), fun _ _ z => absurd z (Nat.not_lt_zero _)⟩
    | succ n ih =>
      intro hn
      obtain ⟨c, a, b, d⟩ := ih (by omega)
      by_cases hc : xs.getD n 0 < j
      . refine ⟨n + 1, Nat.le_refl _, fun k hk => ?_, fun k a b => by omega⟩
        rcases Nat.lt_or_ge k n with z | z
        . exact Nat.lt_trans (h k n z (by omega)) hc
        . have : k = n := by omega
          rw [this]; exact hc
      . refine ⟨c, by omega, b, fun k hk hk2 => ?_⟩
        rcases Nat.lt_or_ge k n with z | z
        . exact d k hk z
        . have : k = n := by omega
          rw [this]; exact Nat.le_of_not_lt hc
  obtain ⟨c, a, b, d⟩ := key xs.size (Nat.le_refl _)
  exact ⟨c, a, b, d, oV a b d⟩
theorem e7 {xs : Array Nat} {i : Nat} (h : i < xs.size) : xs[i]? = some (xs.getD i 0) := by
  rw [Array.getD_eq_getD_getElem?, Array.getElem?_eq_getElem h]; rfl
theorem iU (n : Nat) : mI (Array.range n) := fun i j h hj => by
  rw [Array.size_range] at hj
  rw [Array.getD_eq_getD_getElem?, Array.getD_eq_getD_getElem?, Array.getElem?_eq_getElem (by rw [Array.size_range]; omega), Array.getElem?_eq_getElem (by rw [Array.size_range]; omega)]
  simpa using h
theorem yH {l : List Nat} (h : l.Pairwise (· < ·)) : mI l.toArray := fun i j hij hj => by
  rw [List.size_toArray] at hj
  rw [Array.getD_eq_getD_getElem?, Array.getD_eq_getD_getElem?, List.getElem?_toArray, List.getElem?_toArray, List.getElem?_eq_getElem (by omega : i < l.length), List.getElem?_eq_getElem hj]
  exact List.pairwise_iff_getElem.mp h i j (by omega) hj hij
theorem e6 {xs : Array Nat} {c j : Nat} (hc : c <= xs.size) (i : Nat) : (SetTable.insertAt xs c j).getD i 0 = if i < c then xs.getD i 0 else if i = c then j else xs.getD (i - 1) 0 := by
  unfold SetTable.insertAt
  have hy : (xs.extract 0 c).size = c := by rw [Array.size_extract, Nat.min_eq_left hc, Nat.sub_zero]
  have hz : ((xs.extract 0 c).push j).size = c + 1 := by rw [Array.size_push, hy]
  rw [Array.getD_eq_getD_getElem?]
  by_cases h1 : i < c
  . have h5 := Nat.lt_of_lt_of_le h1 hc
    rw [if_pos h1, Array.getElem?_append_left (by rw [hz]; exact Nat.lt_succ_of_lt h1), Array.getElem?_push_lt (by rw [hy]; exact h1), Array.getElem_extract, Array.getD_eq_getD_getElem?, Array.getElem?_eq_getElem h5]
    simp only [Nat.zero_add]
  . rw [if_neg h1]
    by_cases h2 : i = c
    . subst h2
      rw [if_pos rfl, Array.getElem?_append_left (by rw [hz]; exact Nat.lt_succ_self _)]
      have q := Array.getElem?_push_size (xs := xs.extract 0 i) (x := j)
      rw [hy] at q
      rw [q]; rfl
    . have h6 : c + 1 <= i := Nat.lt_of_le_of_ne (Nat.not_lt.mp h1) (Ne.symm h2)
      obtain ⟨d, rfl⟩ := Nat.exists_eq_add_of_le h6
      have e : c + d = c + 1 + d - 1 := by rw [Nat.add_right_comm]; rfl
      rw [if_neg h2, Array.getElem?_append_right (by rw [hz]; exact h6), hz, Array.getD_eq_getD_getElem?, Nat.add_sub_cancel_left, <- e, Array.getElem?_extract]
      by_cases h3 : c + d < xs.size
      . rw [if_pos (by rw [Nat.min_self]; exact Nat.lt_sub_of_add_lt (by rw [Nat.add_comm]; exact h3))]
      . rw [if_neg (by rw [Nat.min_self]; exact fun z => h3 (by have := Nat.add_lt_of_lt_sub z; rw [Nat.add_comm]; exact this)), Array.getElem?_eq_none (Nat.not_lt.mp h3)]
theorem zaP {xs : Array Nat} {c j : Nat} (hc : c <= xs.size) : (SetTable.insertAt xs c j).size = xs.size + 1 := by
  unfold SetTable.insertAt
  rw [Array.size_append, Array.size_push, Array.size_extract, Array.size_extract, Nat.min_self, Nat.min_eq_left hc, Nat.sub_zero, Nat.add_right_comm, Nat.add_sub_cancel' hc]
theorem mI.ins {xs : Array Nat} (h : mI xs) {j : Nat} (hj : ¬ xs[SetTable.below xs j]? = some j) : mI (SetTable.insertAt xs (SetTable.below xs j) j) := by
  obtain ⟨c, c1, c2, c3, c4⟩ := h.place j
  rw [c4] at hj ⊢
  intro a b hab hb
  rw [zaP c1] at hb
  have hcj : ∀ k : Nat, c <= k -> k < xs.size -> j < xs.getD k 0 := fun k k1 k2 => by
    rcases Nat.lt_or_ge c k with z | z
    . exact Nat.lt_of_le_of_lt (c3 c (Nat.le_refl _) (by omega)) (h c k z k2)
    . have : k = c := by omega
      subst this
      refine Nat.lt_of_le_of_ne (c3 k k1 k2) fun e => hj ?_
      rw [e7 k2, <- e]
  rw [e6 c1, e6 c1]
  by_cases a1 : a < c
  . rw [if_pos a1]
    by_cases b1 : b < c
    . rw [if_pos b1]; exact h a b hab (by omega)
    . rw [if_neg b1]
      by_cases b2 : b = c
      . rw [if_pos b2]; exact c2 a a1
      . rw [if_neg b2]; exact Nat.lt_trans (c2 a a1) (hcj _ (by omega) (by omega))
  . rw [if_neg a1]
    by_cases a2 : a = c
    . rw [if_pos a2, if_neg (by omega), if_neg (by omega)]; exact hcj _ (by omega) (by omega)
    . rw [if_neg a2, if_neg (by omega), if_neg (by omega)]; exact h _ _ (by omega) (by omega)
def zeI (t : SetTable) (j : Nat) : Prop := ¬ t.place[SetTable.below t.place j]? = some j
theorem yW {t : SetTable} {j : Nat} (h : ∀ i, t.slot j ≠ .live i) : zeI t j := fun e => by
  refine h (SetTable.below t.place j) ?_
  unfold SetTable.slot
  dsimp only
  rw [if_pos (by rw [e]; exact beq_self_eq_true _)]
theorem kK {t : SetTable} {h h' : Int} (hh : (h' == h) = false) : ∀ (fuel : Nat) (p : SetTable.Probe) (j : Nat) (dm : Option Nat), (∀ d, p.dummy = some d -> zeI t d) -> SetTable.probe.go t (fun _ => h') h fuel p = some (.empty j dm) -> zeI t (dm.getD j)
  | 0, p, j, dm, _, e => by
    unfold SetTable.probe.go at e
    cases e
  | fuel + 1, p, j, dm, hd, e => by
    unfold SetTable.probe.go at e
    cases hs : t.slot p.j with
    | empty =>
      rw [hs] at e
      injection e with e
      injection e with e1 e2
      subst e1 e2
      cases hp : p.dummy with
      | none => exact yW fun i z => by rw [show (none : Option Nat).getD p.j = p.j from rfl, hs] at z; cases z
      | some d => exact hd d hp
    | dummy =>
      rw [hs] at e
      refine kK hh fuel _ j dm (fun d hd' => ?_) e
      have q : (t.advance { p with dummy := some p.j }).dummy = some p.j := by
        unfold SetTable.advance
        split <;> rfl
      rw [q] at hd'
      cases hd'
      exact yW fun i z => by rw [hs] at z; cases z
    | live i =>
      rw [hs] at e
      dsimp only at e
      rw [hh, if_neg (fun z => nomatch z)] at e
      refine kK hh fuel _ j dm (fun d hd' => ?_) e
      have q : (t.advance p).dummy = p.dummy := by
        unfold SetTable.advance
        split <;> rfl
      rw [q] at hd'
      exact hd d hd'
theorem zbg {t : SetTable} (h : mI t.place) (es : Array (Int × Value)) (hs : Int) (x : Value) : mI (layNew t es hs x).2.1.place := by
  unfold layNew
  have or_ : ∀ (t' : SetTable) (n : Nat), mI t'.place -> mI (t'.orStandIn n).place := fun t' n q => by
    unfold SetTable.orStandIn
    split
    . exact q
    . exact iU n
  cases hf : t.freeSlot hs with
  | none => exact iU _
  | some p =>
    obtain ⟨slot, wd⟩ := p
    refine or_ _ _ ?_
    show mI (SetTable.insertAt t.place (SetTable.below t.place slot) slot)
    refine h.ins ?_
    unfold SetTable.freeSlot at hf
    cases hp : t.probe (fun _ => hs + 1) hs (t.probeStart hs) with
    | none => rw [hp] at hf; cases hf
    | some m =>
      rw [hp] at hf
      cases m with
      | candidate _ _ _ => cases hf
      | empty j dm =>
        injection hf with hf
        injection hf with e1 _
        rw [<- e1]
        unfold SetTable.probe at hp
        exact kK (beq_eq_false_iff_ne.mpr (by omega)) _ _ j dm (fun d z => by cases (show (none : Option Nat) = some d from z)) hp
theorem xQ {t : SetTable} (h : mI t.place) (es : Array (Int × Value)) (n : Nat) : mI (relayAll t es n).2.1.place := by
  unfold relayAll
  split
  . rename_i t' order e
    have hr : mI t'.place := by
      unfold SetTable.relaid SetTable.laid at e
      obtain ⟨ow, _, e⟩ := Option.bind_eq_some_iff.mp e
      cases e
      refine yH ?_
      rw [List.pairwise_map]
      refine List.Pairwise.filterMap (R := fun a b : Nat => a < b) _ (fun a a' hlt b hb b' hb' => ?_) List.pairwise_lt_range
      obtain ⟨y, _, rfl⟩ := Option.map_eq_some_iff.mp hb
      obtain ⟨y', _, rfl⟩ := Option.map_eq_some_iff.mp hb'
      exact hlt
    dsimp only
    split
    . exact hr
    . exact iU _
  . exact iU _
instance keyMem (x : Key) (zs : List Key) : Decidable (x ∈ zs) := decidable_of_iff ((zs.any fun y => decide (y = x)) = true) (by simp)
theorem zdF (t : SetTable) (es : Array (Int × Value)) (h : Int) (x : Value) : (layNew t es h x).2.1.led = t.led := by
  unfold layNew
  cases t.freeSlot h with
  | some p =>
    show ((t.put p.1).1.orStandIn _).led = t.led
    unfold SetTable.orStandIn
    split <;> rfl
  | none => rfl
theorem u5 (t : SetTable) (es : Array (Int × Value)) (n : Nat) : (relayAll t es n).2.1.led = t.led := by
  unfold relayAll
  split
  . rename_i t' order e
    have hf : t'.led = t.led := by
      unfold SetTable.relaid SetTable.laid at e
      obtain ⟨_, _, e⟩ := Option.bind_eq_some_iff.mp e
      cases e
      rfl
    dsimp only
    split
    . exact hf
    . rfl
  . rfl
theorem zaW {k : Key} {u : Value} (r : cH (kV k) u) : u.scannable = true := by
  cases k with
  | inl i => obtain ⟨t, rfl⟩ := r; rfl
  | inr x => obtain ⟨t, rfl⟩ := r; rfl
theorem c8 {zs : List V} {us : List Value} {x : V} {u : Value} (h : cA zs us) (r : cH x u) : cA (zs ++ [x]) (us ++ [u]) := h.append (.cons r .nil)
section
variable {P : Program} {w : World} {A : Around} {E : Value -> Shared -> Prop} {s : Shared}
def iM (P : Program) (w : World) (led : Bool) (h : Heap) (a : Addr) (zs : List Key) : Prop :=
  ∃ o es ep t, h.get? a = some o /\ o.ExactSet /\ o.data = .set es ep t /\ ElemsOf (bH P w) es.toList /\ (∃ us : List Value, (es.toList.map (·.2)).Perm us /\ cA (zs.map kV) us) /\ zs.Nodup
    /\ es.size < scanBound /\ t.fits es.size = true /\ t.led = led /\ mI t.place
theorem iM.mem {zs : List Key} {es : Array (Int × Value)} {us : List Value} (hp : (es.toList.map (·.2)).Perm us) (hs : cA (zs.map kV) us) (x : Key) :
    (∃ e ∈ es.toList, (bH P w).is x e.2 = true) ↔ x ∈ zs := by
  constructor
  . rintro ⟨e, he, hk⟩
    obtain ⟨n, hn⟩ := List.getElem?_of_mem (hp.mem_iff.mp (List.mem_map_of_mem he))
    have hl := hs.length
    rw [List.length_map] at hl
    have hz : n < zs.length := by rw [hl]; exact (List.getElem?_eq_some_iff.mp hn).1
    obtain ⟨u, h1, h2⟩ := hs.get (i := n) (x := kV zs[n]) (by rw [List.getElem?_map, List.getElem?_eq_getElem hz]; rfl)
    rw [hn] at h1
    cases Option.some.inj h1
    rw [(bH P w).inj _ _ _ hk (lQ h2)]
    exact List.getElem_mem hz
  . intro hx
    obtain ⟨n, hn⟩ := List.getElem?_of_mem hx
    obtain ⟨u, h1, h2⟩ := hs.get (i := n) (x := kV x) (by rw [List.getElem?_map, hn]; rfl)
    obtain ⟨e, he, h3⟩ := List.mem_map.mp (hp.mem_iff.mpr (List.mem_of_getElem? h1))
    exact ⟨e, he, by rw [h3]; exact lQ h2⟩
theorem tS {led : Bool} {a : Addr} {zs : List Key} {x : Key} {u : Value} {Q : Bool -> Shared -> Prop} (ru : cH (kV x) u) (hS : iM P w led s.heap a zs) (hroom : zs.length + 1 < scanBound)
    (h : ∀ h', Heap.SameBut a s.heap h' -> iM P w led h' a (if x ∈ zs then zs else zs ++ [x]) -> Q (!decide (x ∈ zs)) { s with heap := h', toks := s.toks + 1 }) :
    wpAny (model P w) A (setAdd a u) Q E s := by
  obtain ⟨o, es, ep, t, ho, hex, hd, hel, ⟨us, hp, hs⟩, hnd, hb, hf, zbm, hpl⟩ := hS
  have zep : (bH P w).is x u = true := lQ ru
  have hsc := zaW ru
  have hsz : es.size = zs.length := by
    have e1 := hp.length_eq
    rw [List.length_map, Array.length_toList] at e1
    rw [e1]
    have e2 := hs.length
    rw [List.length_map] at e2
    exact e2.symm
  have hm := iM.mem (P := P) (w := w) hp hs x
  unfold setAdd
  refine wpAny_holding (wpAny_bind ((bH P w).pyHash zep ?_))
  unfold setAddHashed setAddHashedIn
  refine wpAny_holding (wpAny_bind (wpAny_setState_of (s := { s with toks := s.toks + 1 }) ho hd hf ?_))
  dsimp only
  rw [byScan_of (knd := bH P w) hsc hb hel, if_pos rfl]
  unfold setAddByScan
  refine wpAny_bind (wpAny_bind (wpAny_rule (wpAny_bind (wpAny_setScan_of (s := { s with toks := s.toks + 1 }) zep ho hd hf hel ?_))))
  cases hr : List.findIdx? (fun e => (bH P w).is x e.2) es.toList with
  | some j =>
    obtain ⟨hj, hpj, _⟩ := List.findIdx?_eq_some_iff_getElem.mp hr
    have hx : x ∈ zs := hm.mp ⟨es.toList[j], List.getElem_mem hj, hpj⟩
    have q := h s.heap (Heap.SameBut.refl a s.heap) (by rw [if_pos hx]; exact ⟨o, es, ep, t, ho, hex, hd, hel, ⟨us, hp, hs⟩, hnd, hb, hf, zbm, hpl⟩)
    rw [decide_eq_true hx] at q
    exact wpAny_pure (wpAny_pure q)
  | none =>
    have hx : x ∉ zs := fun z => by
      obtain ⟨e, he, hk⟩ := hm.mpr z
      have y := List.findIdx?_eq_none_iff.mp hr e he
      rw [hk] at y
      cases y
    have hgw : ∀ (b : Bool) (s₁ : Shared) (Q' : Unit -> Shared -> Prop), Q' () s₁ -> wpAny (model P w) A (match b with | true => rule "set.scan.the-table-gave-way" | false => pure ()) Q' E s₁ := fun b s₁ Q' hq => by
      cases b
      . exact wpAny_pure hq
      . exact wpAny_rule hq
    have l1 := layNew_perm t es ((bH P w).hash x) u
    have l2 := layNew_fits t es ((bH P w).hash x) u
    have l3 := zdF t es ((bH P w).hash x) u
    have l4 := zbg hpl es ((bH P w).hash x) u
    generalize layNew t es ((bH P w).hash x) u = L at l1 l2 l3 l4 ⊢
    obtain ⟨es1, t1, wasDummy, gave⟩ := L
    dsimp only at l1 l2 l3 l4 ⊢
    rw [Array.toList_push] at l1
    have zpr : es1.size = zs.length + 1 := by
      rw [<- Array.length_toList, l1.length_eq, List.length_append, Array.length_toList, hsz]; rfl
    have hb1 : es1.size < scanBound := by rw [zpr]; exact hroom
    have zpJ : ElemsOf (bH P w) es1.toList := (hel.push zep hsc).perm l1
    have fin : ∀ (es2 : Array (Int × Value)) (t2 : SetTable) (o2 : Obj) (ep2 : Nat) (h2 : Heap), es2.toList.Perm es1.toList -> t2.fits es2.size = true -> t2.led = t.led -> mI t2.place -> o2.ExactSet -> o2.data = .set es2 ep2 t2 -> h2.get? a = some o2 ->
        iM P w led h2 a (if x ∈ zs then zs else zs ++ [x]) := fun es2 t2 o2 ep2 h2 p2 f2 e1 e2 x2 d2 g2 => by
      rw [if_neg hx]
      have hz2 : es2.size = es1.size := by rw [<- Array.length_toList, p2.length_eq, Array.length_toList]
      refine ⟨o2, es2, ep2, t2, g2, x2, d2, zpJ.perm p2, ⟨us ++ [u], ?_, ?_⟩, ?_, by omega, f2, e1.trans zbm, e2⟩
      . refine ((p2.trans l1).map _).trans ?_
        rw [List.map_append]
        exact hp.append_right _
      . rw [List.map_append]; exact c8 hs ru
      . exact List.nodup_append.mpr ⟨hnd, by simp, fun a ha b hb e => hx (by rw [List.mem_singleton] at hb; rw [<- hb, <- e]; exact ha)⟩
    refine wpAny_bind (hgw gave _ _ ?_)
    have tail : ∀ (g : Bool -> Sem Unit) (t2 : SetTable) (R : Option Bool -> Shared -> Prop), (∀ (b : Bool) (s₁ : Shared) (Q' : Unit -> Shared -> Prop), Q' () s₁ -> wpAny (model P w) A (g b) Q' E s₁) -> mI t2.place -> t2.led = t.led -> t2.fits es1.size = true ->
        (∀ h', Heap.SameBut a s.heap h' -> iM P w led h' a (if x ∈ zs then zs else zs ++ [x]) -> R (some true) { s with heap := h', toks := s.toks + 1 }) ->
        wpAny (model P w) A (do
          storeSet a es1 t2
          if (!wasDummy && t2.tooFull) = true then do
              g (relayAll t2 es1 (SetTable.grown es1.size)).2.2
              storeSet a (relayAll t2 es1 (SetTable.grown es1.size)).1 (relayAll t2 es1 (SetTable.grown es1.size)).2.1
              pure (some true)
            else pure (some true)) R E { s with toks := s.toks + 1 } := fun g t2 R hg e2 e1 f2 hR => by
      have ga : ∀ (h0 : Heap) (o0 : Obj) (es0 : Array (Int × Value)) (ep0 : Nat) (t0 : SetTable) (es' : Array (Int × Value)) (t' : SetTable), h0.get? a = some o0 -> o0.data = .set es0 ep0 t0 -> (h0.update a (Obj.putSet es' t')).get? a = some { o0 with data := .set es' (ep0 + 1) t' } := fun h0 o0 es0 ep0 t0 es' t' q1 q2 => by
        have z := Heap.get?_update_self (Obj.putSet es' t') q1 (by rw [putSet_of es' t' q2]; rfl)
        rw [putSet_of es' t' q2] at z
        exact z
      have g1 := ga s.heap o es ep t es1 t2 ho hd
      refine wpAny_bind (wpAny_storeSet_of (s := { s with toks := s.toks + 1 }) ho hd ?_ (fits_of_scanBound hb1))
      split
      . have r1 := relayAll_perm t2 es1 (SetTable.grown es1.size)
        have r2 := relayAll_fits t2 es1 (SetTable.grown es1.size)
        have r3 := u5 t2 es1 (SetTable.grown es1.size)
        have hz2 : (relayAll t2 es1 (SetTable.grown es1.size)).1.size = es1.size := by rw [<- Array.length_toList, r1.length_eq, Array.length_toList]
        refine wpAny_bind (hg _ _ _ (wpAny_bind (wpAny_storeSet_of (s := { s with heap := s.heap.update a (Obj.putSet es1 t2), toks := s.toks + 1 }) g1 rfl ?_ (fits_of_scanBound (by rw [hz2]; exact hb1)))))
        have np := xQ e2 es1 (SetTable.grown es1.size)
        exact wpAny_pure (hR _ ((Heap.SameBut.update s.heap a _).trans (Heap.SameBut.update _ a _)) (fin _ _ { o with data := .set (relayAll t2 es1 (SetTable.grown es1.size)).1 (ep + 1 + 1) (relayAll t2 es1 (SetTable.grown es1.size)).2.1 } (ep + 1 + 1) _ r1 r2 (r3.trans e1) np hex rfl (ga _ { o with data := .set es1 (ep + 1) t2 } es1 (ep + 1) t2 _ _ g1 rfl)))
      . exact wpAny_pure (hR _ (Heap.SameBut.update s.heap a _) (fin es1 t2 { o with data := .set es1 (ep + 1) t2 } (ep + 1) _ (.refl _) f2 e1 e2 hex rfl g1))
    have q : ∀ h', Heap.SameBut a s.heap h' -> iM P w led h' a (if x ∈ zs then zs else zs ++ [x]) -> wpAny (model P w) A (pure true) Q E { s with heap := h', toks := s.toks + 1 } := fun h' c1 c2 => by
      have q := h h' c1 c2
      rw [decide_eq_false hx] at q
      exact wpAny_pure q
    cases hp1 : t1.plain
    . rw [if_neg (fun z => nomatch z)]
      refine wpAny_bind (wpAny_pure ?_)
      exact tail _ t1 _ hgw l4 l3 l2 q
    . simp only [if_true]
      rw [hashByValue_scannable 8 hsc]
      refine wpAny_bind (wpAny_pure ?_)
      cases plainKind u
      . exact tail _ { t1 with plain := false } _ hgw l4 l3 (SetTable.fits_plain_off l2) q
      . exact tail _ t1 _ hgw l4 l3 l2 q
end
section
variable {P : Program} {w : World} {A : Around} {E : Value -> Shared -> Prop} {s : Shared}
theorem oU {h : Heap} {a : Addr} (e : h.get? a = some (pH w)) : iM P w (mW w) h a [] := by
  refine ⟨_, #[], 0, _, e, ⟨rfl, rfl, rfl⟩, rfl, ?_, ⟨[], List.Perm.refl _, .nil⟩, List.Pairwise.nil, by decide, rfl, rfl, ?_⟩
  . intro _ z
    simp at z
  . intro i j h hj
    exact absurd hj (Nat.not_lt_zero _)
def fB (l : List Key) : List Key := l.foldl (fun σ v => if v ∈ σ then σ else σ ++ [v]) []
theorem sT (l : List Key) (v : Key) : fB (l ++ [v]) = if v ∈ fB l then fB l else fB l ++ [v] := by
  unfold fB
  rw [List.foldl_append]
  rfl
theorem pT : ∀ (l σ : List Key), (l.foldl (fun σ v => if v ∈ σ then σ else σ ++ [v]) σ).length <= σ.length + l.length
  | [], _ => Nat.le_refl _
  | v :: l, σ => by
    rw [List.foldl_cons, List.length_cons]
    refine Nat.le_trans (pT l _) ?_
    split
    . omega
    . rw [List.length_append, List.length_singleton]; omega
theorem zam (l : List Key) : (fB l).length <= l.length := by
  have q := pT l []
  rw [List.length_nil, Nat.zero_add] at q
  exact q
theorem xG (l : List Key) : ∀ (σ : List Key) (x : Key), x ∈ l.foldl (fun σ v => if v ∈ σ then σ else σ ++ [v]) σ ↔ x ∈ σ \/ x ∈ l := by
  induction l with
  | nil => intro σ x; simp
  | cons v l ih =>
    intro σ x
    rw [List.foldl_cons, ih]
    by_cases c : v ∈ σ
    . rw [if_pos c, List.mem_cons]
      exact ⟨fun z => z.imp id .inr, fun z => z.elim .inl fun z => z.elim (fun e => .inl (e ▸ c)) .inr⟩
    . rw [if_neg c, List.mem_append, List.mem_singleton, List.mem_cons]
      exact ⟨fun z => z.elim (fun z => z.imp id .inl) fun z => .inr (.inr z), fun z => z.elim (fun z => .inl (.inl z)) fun z => z.elim (fun z => .inl (.inr z)) .inr⟩
theorem rM (l : List Key) : ∀ (σ : List Key), σ.Nodup -> (l.foldl (fun σ v => if v ∈ σ then σ else σ ++ [v]) σ).Nodup := by
  induction l with
  | nil => intro σ h; exact h
  | cons v l ih =>
    intro σ h
    rw [List.foldl_cons]
    refine ih _ ?_
    by_cases c : v ∈ σ
    . rw [if_pos c]; exact h
    . rw [if_neg c]
      exact List.nodup_append.mpr ⟨h, List.nodup_cons.mpr ⟨List.not_mem_nil, List.nodup_nil⟩, fun a ha b hb e => c (by rw [<- List.mem_singleton.mp hb, <- e]; exact ha)⟩
theorem uU : ∀ {us : List Value} {ys : List Key}, cA (ys.map kV) us -> ∀ (i : Nat) (v : Value), us[i]? = some v -> ∃ y, ys[i]? = some y /\ cH (kV y) v := fun {us ys} r i v e => by
  have hl := r.length
  rw [List.length_map] at hl
  have hi : i < ys.length := by rw [hl]; exact (List.getElem?_eq_some_iff.mp e).1
  obtain ⟨u, h1, h2⟩ := r.get (i := i) (x := kV ys[i]) (by rw [List.getElem?_map, List.getElem?_eq_getElem hi]; rfl)
  rw [e] at h1
  cases Option.some.inj h1
  exact ⟨_, List.getElem?_eq_getElem hi, h2⟩
theorem iM.keep {led : Bool} {h h' : Heap} {a : Addr} {zs : List Key} (x : iM P w led h a zs) (k : ∀ o, h.get? a = some o -> h'.get? a = some o) : iM P w led h' a zs := by
  obtain ⟨o, es, ep, t, e, r⟩ := x
  exact ⟨o, es, ep, t, k o e, r⟩
variable {R : Result -> Shared -> Prop} {I : Addr} {fp wr : List Addr} {G : Array GenState -> Array GenState -> Prop} {n : Nat} {Pv : Nat -> Value -> Prop} {St : Nat -> Shared -> Prop}
theorem qF {led : Bool} (W : WalksS P w A.in1 I fp wr G n Pv St) (S : Addr) (hSf : S ∉ fp) (ys : List Key) (hn : ys.length = n) (hval : ∀ i v, Pv i v -> ∃ y, ys[i]? = some y /\ cH (kV y) v) (hb : n + 1 < scanBound) :
    ∀ (k i : Nat) (s : Shared), n - i = k -> i <= n -> St i s -> iM P w led s.heap S (fB (ys.take i)) ->
      (∀ s', Moved (S :: wr) G s s' -> iM P w led s'.heap S (fB ys) -> R (.ok (.ret .none)) s') ->
      codeAny (model P w) A (.builtin "set.update.loop" ⟨[.ref S, .ref I], []⟩) R s := by
  have hSw : S ∉ wr := fun z => hSf (W.sub _ z)
  have up : ∀ b ∈ wr, b ∈ S :: wr := fun b z => .tail _ z
  intro k
  induction k with
  | zero =>
    intro i s hk hi hst hS hR
    obtain rfl : i = n := by omega
    refine codeAny_builtin F.entry_set_update_loop (by
      rw [PySem.Around.under_plainId F.plain_set_update_loop _]
      refine (show wpAny _ A.in1 (pyNext (.ref I) >>= _) _ _ s from wpAny_bind (W.done s _ _ hst fun s' hm => ?_))
      refine (show wpAny _ A.in1 (ret Value.none) _ _ s' from wpAny_pure (hR s' (hm.mono up) ?_))
      rw [List.take_of_length_le (by omega)] at hS
      exact hS.keep fun o e => hm.heap S o hSw e)
  | succ k ih =>
    intro i s hk hi hst hS hR
    have hlt : i < n := by omega
    refine codeAny_builtin F.entry_set_update_loop (by
      rw [PySem.Around.under_plainId F.plain_set_update_loop _]
      refine (show wpAny _ A.in1 (pyNext (.ref I) >>= _) _ _ s from wpAny_bind (W.item i s _ _ hlt hst fun v s' hP hst' hm => ?_))
      obtain ⟨y, hy, ry⟩ := hval i v hP
      have hS' : iM P w led s'.heap S (fB (ys.take i)) := hS.keep fun o e => hm.heap S o hSw e
      refine (show wpAny _ A.in1 (holding [v] (setAdd S v) >>= _) _ _ s' from wpAny_bind (wpAny_holding (tS ry hS' ?_ fun h' hsb hS2 => ?_)))
      . have q := zam (ys.take i)
        rw [List.length_take] at q
        omega
      have e1 : ys.take (i + 1) = ys.take i ++ [y] := by rw [List.take_succ, hy]; rfl
      rw [<- sT, <- e1] at hS2
      refine wpAny_pure ⟨plainId_quiet F.plain_set_update_loop _, ih (i + 1) _ (by omega) hlt (W.frame _ s' _ _ hst' (Nat.le_succ _) fun b z o e => ?_) hS2 fun s'' hm'' hS'' => ?_⟩
      . exact (hsb.2 b fun q : b = S => hSf (q ▸ z)).trans e
      . refine hR s'' (Moved.trans W.gtrans ((hm.mono up).then_heap (Nat.le_succ _) fun b o z e => ?_) hm'') hS''
        exact (hsb.2 b fun q : b = S => z (by rw [q]; exact .head _)).trans e)
set_option maxHeartbeats 8000000 in
theorem zY {S l : Addr} {items : Array Value} {ys : List Key} {R : Result -> Shared -> Prop} (hh : A.handled = none) (hS : s.heap.get? S = some (pH w)) (hl : s.heap.IsList l items) (hs : cA (ys.map kV) items.toList) (hb : items.size + 1 < scanBound)
    (h : ∀ (h' : Heap) (tk : Nat), iM P w (mW w) h' S (fB ys) -> (∀ b o, b ≠ S -> s.heap.get? b = some o -> h'.get? b = some o) -> R (.ok (.ret .none)) { s with heap := h', toks := tk }) :
    codeAny (model P w) A (.call (.builtin "set.__init__") ⟨[.ref S, .ref l], []⟩) R s := by
  have hT : s.TypeIs (.ref S) "set" := ⟨_, hS, rfl⟩
  refine codeAny_call_builtin PySem.F.called_set.init.plain PySem.F.entry_set_init (check_set_init_1 hT ?_)
  obtain ⟨ol, hol, hcl, nl, hdl⟩ := id hl
  have hne : l ≠ S := fun z => by
    rw [z, hS] at hol
    cases hol
    have y : Value.type "set" = Value.type "list" := hcl
    simp at y
  obtain ⟨ocls, odict, odata, oslots⟩ := ol
  obtain rfl : ocls = _ := hcl
  obtain rfl : odata = _ := hdl
  have c1 := PySem.F.sub_list_set
  have c2 := PySem.F.sub_list_frozenset
  have c3 : (Value.type "list" == Value.type "dict") = false := by decide
  unfold Builtin.«set.__init__» noKeywords
  unfold Builtin.Frozenset.updateFrom
  generalize hPI : pyIter = PI
  wp_walk
  subst hPI
  refine wpAny_pyIter_list hl (wpAny_bind (wpAny_runValue ?_))
  have hh3 : A.in1.in1.handled = none := by simp [hh]
  have hlt : l < s.heap.objs.size := Heap.lt_size hol
  have hsl : S < s.heap.objs.size := Heap.lt_size hS
  refine qF (led := mW w) ((Walks.list hh3 s.heap.objs.size l (Nat.ne_of_lt hlt) items).toS) S ?hf ys ?hn (fun i v e => uU hs i v (by rw [Array.getElem?_toList]; exact e)) hb (items.size - 0) 0 _ rfl (Nat.zero_le _) ⟨⟨_, Heap.get?_push_size _ rfl, rfl, rfl⟩, hl.push _⟩ ?hS0 ?hR
  case hf =>
    simp only [List.mem_cons, List.not_mem_nil, or_false, not_or]
    exact ⟨Nat.ne_of_lt hsl, fun z => hne z.symm⟩
  case hn =>
    have q := hs.length
    rw [List.length_map, Array.length_toList] at q
    exact q
  case hS0 => exact oU (Heap.get?_push_of_some _ hS)
  case hR =>
    intro s' hm hS'
    obtain ⟨h', g', d', tk', os'⟩ := s'
    obtain rfl : g' = s.gens := hm.gens
    obtain rfl : d' = s.drawn := hm.drawn
    obtain rfl : os' = s.os := hm.os
    refine wpAny_pure (show wpAny _ _ (ret Value.none) _ _ _ from wpAny_pure (h h' tk' hS' fun b o hbS e => ?_))
    refine hm.heap b o (fun z => ?_) (Heap.get?_push_of_some _ e)
    simp only [List.mem_cons, List.not_mem_nil, or_false] at z
    rcases z with z | z
    . exact hbS z
    . exact absurd (Heap.lt_size e) (by rw [z]; exact Nat.lt_irrefl _)
set_option maxHeartbeats 8000000 in
theorem pZ {l : Addr} {items : Array Value} {ys : List Key} {Q : Value -> Shared -> Prop} (hh : A.handled = none) (hl : s.heap.IsList l items) (hs : cA (ys.map kV) items.toList) (hb : items.size + 1 < scanBound)
    (h : ∀ (h' : Heap) (tk : Nat), iM P w (mW w) h' s.heap.objs.size (fB ys) -> (∀ b o, s.heap.get? b = some o -> h'.get? b = some o) -> Q (.ref s.heap.objs.size) { s with heap := h', toks := tk }) :
    wpAny (model P w) A (call (.type "set") [.ref l]) Q E s := by
  obtain ⟨c, tl, hmro⟩ := PySem.F.called_set.mro
  have c1 := PySem.F.called_set.made
  have c2 := PySem.F.called_set.sub
  have c3 := PySem.F.called_set.notType
  have c4 := PySem.F.called_set.canCreate
  have c5 := PySem.F.typeCall_set_1 (.ref l)
  refine wpAny_call (codeAny_of_tree (show wpAny _ _ (callAny (.type "set") _) _ _ _ from wpAny_pure ⟨Code.quiet_builtin _ (by decide +kernel), codeAny_builtin PySem.F.entry_type_call ?_⟩))
  rw [PySem.Around.under_plain (weight_type_call_type "set" [.ref l] []) rfl]
  repeat (any_goals (first | assumption | wp_step))
  refine codeAny_mono (jC (P := P) (E := E) (rest := [.ref l]) (Q₁ := fun obj s₁ => obj = .ref s.heap.objs.size /\ s₁ = { s with heap := s.heap.push (pH w) }) (PySem.F.newCall_set_1 _) ⟨rfl, rfl⟩) fun r s₁ hr => ?_
  cases r with
  | error e => exact hr
  | ok fl =>
    cases fl with
    | ret obj =>
      obtain ⟨rfl, rfl⟩ := hr
      have hS : (s.heap.push (pH w)).get? s.heap.objs.size = some (pH w) := Heap.get?_push_size _ rfl
      have hT : Shared.TypeIs { s with heap := s.heap.push (pH w) } (.ref s.heap.objs.size) "set" := ⟨_, hS, rfl⟩
      have c6 := PySem.F.called_set.init.lookup
      have c7 := PySem.F.called_set.init.bind (.ref s.heap.objs.size)
      repeat (any_goals (first | assumption | wp_step))
      refine zY (s := { s with heap := s.heap.push (pH w) }) (by simp [hh]) hS (hl.push _) hs hb fun h' tk x k => ?_
      refine wpAny_pure (wpAny_pure (h h' tk x fun b o e => k b o (Nat.ne_of_lt (Heap.lt_size e)) (Heap.get?_push_of_some _ e)))
    | _ => exact hr.elim
set_option maxHeartbeats 8000000 in
theorem vP {S l : Addr} {items : Array Value} {ys : List Key} {R : Result -> Shared -> Prop} (hh : A.handled = none) (hS : s.heap.get? S = some (pH w)) (hl : s.heap.IsTuple l items) (hs : cA (ys.map kV) items.toList) (hb : items.size + 1 < scanBound)
    (h : ∀ (h' : Heap) (tk : Nat), iM P w (mW w) h' S (fB ys) -> (∀ b o, b ≠ S -> s.heap.get? b = some o -> h'.get? b = some o) -> R (.ok (.ret .none)) { s with heap := h', toks := tk }) :
    codeAny (model P w) A (.call (.builtin "set.__init__") ⟨[.ref S, .ref l], []⟩) R s := by
  have hT : s.TypeIs (.ref S) "set" := ⟨_, hS, rfl⟩
  refine codeAny_call_builtin PySem.F.called_set.init.plain PySem.F.entry_set_init (check_set_init_1 hT ?_)
  obtain ⟨ol, hol, hcl, nl, hdl⟩ := id hl
  have hne : l ≠ S := fun z => by
    rw [z, hS] at hol
    cases hol
    have y : Value.type "set" = Value.type "tuple" := hcl
    simp at y
  obtain ⟨ocls, odict, odata, oslots⟩ := ol
  obtain rfl : ocls = _ := hcl
  obtain rfl : odata = _ := hdl
  have c1 := sC
  have c2 := mY
  have c3 : (Value.type "tuple" == Value.type "dict") = false := by decide
  unfold Builtin.«set.__init__» noKeywords
  unfold Builtin.Frozenset.updateFrom
  generalize hPI : pyIter = PI
  wp_walk
  subst hPI
  refine wpAny_pyIter_tuple hl (wpAny_bind (wpAny_runValue ?_))
  have hh3 : A.in1.in1.handled = none := by simp [hh]
  have hlt : l < s.heap.objs.size := Heap.lt_size hol
  have hsl : S < s.heap.objs.size := Heap.lt_size hS
  refine qF (led := mW w) ((Walks.tuple hh3 s.heap.objs.size l (Nat.ne_of_lt hlt) items).toS) S ?hf ys ?hn (fun i v e => uU hs i v (by rw [Array.getElem?_toList]; exact e)) hb (items.size - 0) 0 _ rfl (Nat.zero_le _) ⟨⟨_, Heap.get?_push_size _ rfl, rfl, rfl⟩, hl.push _⟩ ?hS0 ?hR
  case hf =>
    simp only [List.mem_cons, List.not_mem_nil, or_false, not_or]
    exact ⟨Nat.ne_of_lt hsl, fun z => hne z.symm⟩
  case hn =>
    have q := hs.length
    rw [List.length_map, Array.length_toList] at q
    exact q
  case hS0 => exact oU (Heap.get?_push_of_some _ hS)
  case hR =>
    intro s' hm hS'
    obtain ⟨h', g', d', tk', os'⟩ := s'
    obtain rfl : g' = s.gens := hm.gens
    obtain rfl : d' = s.drawn := hm.drawn
    obtain rfl : os' = s.os := hm.os
    refine wpAny_pure (show wpAny _ _ (ret Value.none) _ _ _ from wpAny_pure (h h' tk' hS' fun b o hbS e => ?_))
    refine hm.heap b o (fun z => ?_) (Heap.get?_push_of_some _ e)
    simp only [List.mem_cons, List.not_mem_nil, or_false] at z
    rcases z with z | z
    . exact hbS z
    . exact absurd (Heap.lt_size e) (by rw [z]; exact Nat.lt_irrefl _)
set_option maxHeartbeats 8000000 in
theorem vS {l : Addr} {items : Array Value} {ys : List Key} {Q : Value -> Shared -> Prop} (hh : A.handled = none) (hl : s.heap.IsTuple l items) (hs : cA (ys.map kV) items.toList) (hb : items.size + 1 < scanBound)
    (h : ∀ (h' : Heap) (tk : Nat), iM P w (mW w) h' s.heap.objs.size (fB ys) -> (∀ b o, s.heap.get? b = some o -> h'.get? b = some o) -> Q (.ref s.heap.objs.size) { s with heap := h', toks := tk }) :
    wpAny (model P w) A (call (.type "set") [.ref l]) Q E s := by
  obtain ⟨c, tl, hmro⟩ := PySem.F.called_set.mro
  have c1 := PySem.F.called_set.made
  have c2 := PySem.F.called_set.sub
  have c3 := PySem.F.called_set.notType
  have c4 := PySem.F.called_set.canCreate
  have c5 := PySem.F.typeCall_set_1 (.ref l)
  refine wpAny_call (codeAny_of_tree (show wpAny _ _ (callAny (.type "set") _) _ _ _ from wpAny_pure ⟨Code.quiet_builtin _ (by decide +kernel), codeAny_builtin PySem.F.entry_type_call ?_⟩))
  rw [PySem.Around.under_plain (weight_type_call_type "set" [.ref l] []) rfl]
  repeat (any_goals (first | assumption | wp_step))
  refine codeAny_mono (jC (P := P) (E := E) (rest := [.ref l]) (Q₁ := fun obj s₁ => obj = .ref s.heap.objs.size /\ s₁ = { s with heap := s.heap.push (pH w) }) (PySem.F.newCall_set_1 _) ⟨rfl, rfl⟩) fun r s₁ hr => ?_
  cases r with
  | error e => exact hr
  | ok fl =>
    cases fl with
    | ret obj =>
      obtain ⟨rfl, rfl⟩ := hr
      have hS : (s.heap.push (pH w)).get? s.heap.objs.size = some (pH w) := Heap.get?_push_size _ rfl
      have hT : Shared.TypeIs { s with heap := s.heap.push (pH w) } (.ref s.heap.objs.size) "set" := ⟨_, hS, rfl⟩
      have c6 := PySem.F.called_set.init.lookup
      have c7 := PySem.F.called_set.init.bind (.ref s.heap.objs.size)
      repeat (any_goals (first | assumption | wp_step))
      refine vP (s := { s with heap := s.heap.push (pH w) }) (by simp [hh]) hS (hl.push _) hs hb fun h' tk x k => ?_
      refine wpAny_pure (wpAny_pure (h h' tk x fun b o e => k b o (Nat.ne_of_lt (Heap.lt_size e)) (Heap.get?_push_of_some _ e)))
    | _ => exact hr.elim
end
section
variable {P : Program} {w : World} {A : Around} {E : Value -> Shared -> Prop} {s : Shared} {I S T : Addr} {i ep : Nat} {es : Array (Int × Value)} {t : SetTable} {o : Obj}
theorem uP {sl i : Nat} (hw : w.params.followText "set-order" = false) (hd : o.data = .set es ep t) (hf : t.fits es.size = true) (zbm : t.led = true) (hn : (!t.plain && decide (es.size > 1)) = false) :
    Nxt P w o S sl i ep (match es[SetTable.below t.place sl]?, t.place[SetTable.below t.place sl]? with | some (_, x), some j => some (x, j + 1) | _, _ => none) := by
  intro A E s Q ho q
  unfold setNext
  refine wpAny_bind (wpAny_setState_of ho hd hf ?_)
  refine wpAny_bind (show wpAny _ _ (ask >>= fun a => pure (a.params.followText "set-order")) _ _ _ from wpAny_bind (wpAny_askSetting (wpAny_pure ?_)))
  dsimp only
  rw [if_neg (by rw [show (model P w).w.params.followText "set-order" = false from hw]; simp)]
  refine (show wpAny _ _ (if (!t.plain && decide (es.size > 1)) = true then _ else _) _ _ _ from ?_)
  rw [if_neg (by rw [hn]; exact fun z => nomatch z)]
  refine (show wpAny _ _ ((if (!t.led && !es.isEmpty) = true then unsupported "set:maker-not-led" else pure ()) >>= _) _ _ _ from ?_)
  rw [zbm, if_neg (by simp)]
  exact wpAny_bind (wpAny_pure (wpAny_pure q))
theorem zbq (hw : w.params.followText "set-order" = false) (hd : o.data = .set es ep t) (hf : t.fits es.size = true) (zbm : t.led = true) (hn : (!t.plain && decide (es.size > 1)) = false) (hr : mI t.place) :
    Led P w o S ep (es.toList.map (·.2)) (fun i => if i = 0 then 0 else t.place.getD (i - 1) 0 + 1) := by
  have hp : t.place.size = es.size := by
    simp only [SetTable.fits, Bool.and_eq_true, beq_iff_eq, decide_eq_true_eq] at hf
    exact hf.1
  have hb : ∀ i : Nat, i <= es.size -> SetTable.below t.place (if i = 0 then 0 else t.place.getD (i - 1) 0 + 1) = i := fun i hi => by
    cases i with
    | zero => exact hr.first
    | succ k => exact hr.next (i := k) (by omega)
  refine ⟨fun i x e => ?_, ?_, rfl⟩
  . rw [List.getElem?_map, Array.getElem?_toList] at e
    obtain ⟨y, e1, rfl⟩ := Option.map_eq_some_iff.mp e
    have hi : i < es.size := (Array.getElem?_eq_some_iff.mp e1).1
    have q := uP (P := P) (S := S) (sl := if i = 0 then 0 else t.place.getD (i - 1) 0 + 1) (i := i) hw hd hf zbm hn
    rw [hb i (by omega), e1, e7 (by omega : i < t.place.size)] at q
    exact q
  . have q := uP (P := P) (S := S) (sl := if (es.toList.map (·.2)).length = 0 then 0 else t.place.getD ((es.toList.map (·.2)).length - 1) 0 + 1) (i := (es.toList.map (·.2)).length) hw hd hf zbm hn
    rw [hb _ (by rw [List.length_map, Array.length_toList]; exact Nat.le_refl _), Array.getElem?_eq_none (by rw [List.length_map, Array.length_toList]; exact Nat.le_refl _)] at q
    exact q
theorem z6 {us us0 : List Value} (hp : us.Perm us0) : ∀ {zs : List Int}, IntsAre us0 zs -> ∃ zs', IntsAre us zs' /\ zs'.Perm zs := by
  induction hp with
  | nil => intro zs h; exact ⟨zs, h, .refl _⟩
  | cons x _ ih =>
    intro zs h
    cases h with
    | cons n t r =>
      obtain ⟨zs', h1, h2⟩ := ih r
      exact ⟨_, .cons n t h1, h2.cons n⟩
  | swap x y l =>
    intro zs h
    cases h with
    | cons n t r =>
      cases r with
      | cons n' t' r' => exact ⟨_, .cons _ _ (.cons _ _ r'), List.Perm.swap ..⟩
  | trans _ _ ih1 ih2 =>
    intro zs h
    obtain ⟨z1, h1, p1⟩ := ih2 h
    obtain ⟨z2, h2, p2⟩ := ih1 h1
    exact ⟨z2, h2, p2.trans p1⟩
theorem kQ {zs : List Key} {Q : List Value -> Shared -> Prop} (hh : A.handled = none) (hS : iM P w (mW w) s.heap S zs)
    (h : ∀ s' us, (∀ b o, s.heap.get? b = some o -> s'.heap.get? b = some o) -> s'.gens = s.gens -> s'.os = s.os -> s.heap.objs.size < s'.heap.objs.size -> (∃ us0, us.Perm us0 /\ cA (zs.map kV) us0) -> Q us s') : wpAny (model P w) A (collect (.ref S)) Q E s := by
  obtain ⟨o, es, ep, t, ho, hex, hd, hel, ⟨us0, hp, hs⟩, hnd, hb, hf, zbm, hpl⟩ := hS
  have ho0 : (s.heap.push { cls := .type "list", data := .seq ([] : List Value).toArray }).get? S = some o := Heap.get?_push_of_some _ ho
  have hl0 : (s.heap.push { cls := .type "list", data := .seq ([] : List Value).toArray }).get? s.heap.objs.size = some { cls := .type "list", data := .seq ([] : List Value).toArray } := Heap.get?_push_size _ rfl
  have hsz : (s.heap.push { cls := .type "list", data := .seq ([] : List Value).toArray }).objs.size = s.heap.objs.size + 1 := Heap.size_push _ _
  have hSl : S < s.heap.objs.size := Heap.lt_size ho
  have dR : es.size <= sizeLine := fits_of_scanBound hb
  refine sD ⟨o, ho, hex.1⟩ (zaN ho0 hex hd hf hb (fun hq => ?_) fun hq ps d hps => ?_)
  . have hled' : ∃ us sl, Led P w o S ep us sl /\ us.Perm (es.toList.map (·.2)) := by
      cases hw : w.params.followText "set-order"
      . have hl1 : t.led = true := by rw [zbm]; simp [hw]
        rw [hw] at hq
        exact ⟨_, _, zbq hw hd hf hl1 (by simpa using hq) hpl, .refl _⟩
      . exact ⟨_, _, zaA hw hd hf, (i6 _ _).map _⟩
    obtain ⟨us, sl, L, hpu⟩ := hled'
    have hul : us.length <= sizeLine := by rw [hpu.length_eq, List.length_map, Array.length_toList]; exact dR
    refine ⟨_, rfl, ⟨o, Heap.get?_push_of_some _ ho0, hex.1⟩, Heap.get?_push_of_some _ hl0, fun h' c k g => ?_⟩
    refine rB (zaL (I := (s.heap.push { cls := .type "list", data := .seq ([] : List Value).toArray }).objs.size) L (by simp [hh]) hd hf (by rw [hsz]; exact Nat.ne_of_lt (Nat.lt_succ_of_lt hSl))) hul ⟨?_, ?_⟩ ?_ g fun s' c' kk g1 g2 g3 => ⟨_, _, rfl, g3, h s' us (fun b o' e => ?_) g1 g2 (Heap.lt_size g3) ⟨us0, hpu.trans hp, hs⟩⟩
    . rw [L.zero]
      exact k _ _ (by rw [hsz]; exact Nat.succ_ne_self _) (Heap.get?_push_size _ rfl)
    . exact k _ _ (Nat.ne_of_lt hSl) (Heap.get?_push_of_some _ ho0)
    . rw [hsz]
      intro z
      rcases List.mem_cons.mp z with z | z
      . exact absurd z (Nat.ne_of_lt (Nat.lt_succ_self _))
      . exact absurd (List.mem_singleton.mp z) (Nat.ne_of_gt hSl)
    . have hbl := Heap.lt_size e
      exact kk b o' (Nat.ne_of_lt hbl) (by rw [hsz]; exact Nat.ne_of_lt (Nat.lt_succ_of_lt hbl)) (k b o' (Nat.ne_of_lt hbl) (Heap.get?_push_of_some _ (Heap.get?_push_of_some _ e)))
  . have zqa : ((s.heap.push { cls := .type "list", data := .seq ([] : List Value).toArray }).push { cls := .type "tuple", data := .seq (ps.map fun i : Nat => rawInt i).toArray }).objs.size = s.heap.objs.size + 1 + 1 := by rw [Heap.size_push, hsz]
    have hpu : (ps.map fun p => (es.toList.map (·.2)).getD p .none).Perm (es.toList.map (·.2)) := by
      have q := hps.map fun p => (es.toList.map (·.2)).getD p Value.none
      rw [show es.size = (es.toList.map (·.2)).length by rw [List.length_map, Array.length_toList], vO] at q
      exact q
    have zoW : (ps.map fun p => (es.toList.map (·.2)).getD p .none).length = ps.length := List.length_map _
    have hul : ps.length <= sizeLine := by rw [hps.length_eq, List.length_range]; exact dR
    refine ⟨_, rfl, ⟨o, Heap.get?_push_of_some _ (Heap.get?_push_of_some _ ho0), hex.1⟩, Heap.get?_push_of_some _ (Heap.get?_push_of_some _ hl0), fun h' c k g => ?_⟩
    have W := wX (P := P) (w := w) (A := A.in1) (I := s.heap.objs.size + 1 + 1) (T := s.heap.objs.size + 1) (n := 0) (by simp [hh]) hd hf hps (Nat.ne_of_lt (Nat.lt_succ_of_lt (Nat.lt_succ_of_lt hSl))) (Nat.ne_of_lt (Nat.lt_succ_self _))
    rw [<- zoW] at W
    rw [hsz] at k ⊢
    refine rB W (by rw [zoW]; exact hul) ⟨?_, ?_, ?_⟩ ?_ g fun s' c' kk g1 g2 g3 => ⟨_, _, rfl, g3, h s' _ (fun b o' e => ?_) g1 g2 (Heap.lt_size g3) ⟨us0, hpu.trans hp, hs⟩⟩
    . exact k _ _ (Nat.ne_of_gt (Nat.lt_succ_of_lt (Nat.lt_succ_self _))) (by have q := Heap.get?_push_size ((s.heap.push { cls := .type "list", data := .seq ([] : List Value).toArray }).push { cls := .type "tuple", data := .seq (ps.map fun i : Nat => rawInt i).toArray }) (o := iA (.ref (s.heap.objs.size + 1)) 0 S es.size ep) rfl; rw [zqa] at q; exact q)
    . exact k _ _ (Nat.ne_of_lt hSl) (Heap.get?_push_of_some _ (Heap.get?_push_of_some _ ho0))
    . exact k _ _ (Nat.succ_ne_self _) (Heap.get?_push_of_some _ (by have q := Heap.get?_push_size (s.heap.push { cls := .type "list", data := .seq ([] : List Value).toArray }) (o := { cls := .type "tuple", data := .seq (ps.map fun i : Nat => rawInt i).toArray }) rfl; rw [hsz] at q; exact q))
    . intro z
      rcases List.mem_cons.mp z with z | z
      . exact absurd z (Nat.ne_of_lt (Nat.lt_succ_of_lt (Nat.lt_succ_self _)))
      . rcases List.mem_cons.mp z with z | z
        . exact absurd z (Nat.ne_of_gt hSl)
        . exact absurd (List.mem_singleton.mp z) (Nat.ne_of_lt (Nat.lt_succ_self _))
    . have hbl := Heap.lt_size e
      exact kk b o' (Nat.ne_of_lt hbl) (Nat.ne_of_lt (Nat.lt_succ_of_lt (Nat.lt_succ_of_lt hbl))) (k b o' (Nat.ne_of_lt hbl) (Heap.get?_push_of_some _ (Heap.get?_push_of_some _ (Heap.get?_push_of_some _ e))))
theorem rT {zs : List Str} {Q : Value -> Shared -> Prop} (hh : A.handled = none) (hS : iM P w (mW w) s.heap S (zs.map Sum.inr)) (h64 : zs.length < 64)
    (h : ∀ s' l vs zs', (∀ b o, s.heap.get? b = some o -> s'.heap.get? b = some o) -> s'.gens = s.gens -> s'.os = s.os -> s.heap.objs.size <= l -> (∃ e, s'.heap.get? l = some (seqObj "list" vs e)) -> StrsAre vs.toList zs' -> zs'.Perm zs -> sortedS zs' = true -> Q (.ref l) s') :
    wpAny (model P w) A (call (.builtin "sorted") [.ref S]) Q E s := by
  refine Calls.call_function_entry kind_sorted plain_sorted entry_sorted (args_sorted1 _) ?_
  unfold Builtin.«sorted»
  refine wpAny_bind (m := checkCount "sorted" 1 1 _) (wpAny_pure ?_)
  refine wpAny_bind (kQ (by simp [hh]) hS fun s1 us k1 g1 o1 z1 zz => ?_)
  obtain ⟨us0, hpu, hv⟩ := zz
  rw [List.map_map] at hv
  obtain ⟨zs1, hs1, hp1⟩ := i8 hpu (mK hv)
  have hz : us.length = zs.length := by rw [lN hs1, hp1.length_eq]
  refine wpAny_bind (wpAny_newList ?_ (by rw [hz]; have := kP; have : (64 : Nat) <= sizeLine := by rw [sizeLine_eq]; decide
                                          omega))
  have hoL : (s1.heap.push (seqObj "list" us.toArray 0)).get? s1.heap.objs.size = some (seqObj "list" us.toArray 0) := Heap.get?_push_size _ rfl
  refine wpAny_bind (wpAny_holding (wpAny_call_entry slot_list_sort ⟨_, hoL, rfl⟩ entry_list_sort (list_sort_treeK strKind_oneLt hoL hs1.keysOf (fun v₁ v₂ rest e => keyKind_strs (by rw [<- e]; exact hs1)) (by rw [hz]; exact h64) fun st' a1 a2 => ⟨_, rfl, ?_⟩) (args_list_sort _)))
  obtain ⟨ss', b1, b2, b3⟩ := sorted_out_str hs1 a1 a2
  refine wpAny_pure ⟨_, rfl, h _ _ _ ss' (fun b o e => ?_) g1 o1 ?_ (sortedHeap_at hoL) b1 (b2.trans hp1) b3⟩
  . have e1 := k1 b o e
    have hb := Heap.lt_size e1
    rw [sortedHeap_old (Nat.ne_of_lt hb) (by rw [Heap.size_push]; exact Nat.lt_succ_of_lt hb)]
    exact Heap.get?_push_of_some _ e1
  . exact Nat.le_of_lt z1
theorem rN {zs : List Int} {Q : Value -> Shared -> Prop} (hh : A.handled = none) (hS : iM P w (mW w) s.heap S (zs.map Sum.inl)) (h64 : zs.length < 64)
    (h : ∀ s' l vs zs', (∀ b o, s.heap.get? b = some o -> s'.heap.get? b = some o) -> s'.gens = s.gens -> s'.os = s.os -> s.heap.objs.size <= l -> (∃ e, s'.heap.get? l = some (seqObj "list" vs e)) -> IntsAre vs.toList zs' -> zs'.Perm zs -> zs'.Pairwise (· <= ·) -> Q (.ref l) s') :
    wpAny (model P w) A (call (.builtin "sorted") [.ref S]) Q E s := by
  refine Calls.call_function_entry kind_sorted plain_sorted entry_sorted (args_sorted1 _) ?_
  unfold Builtin.«sorted»
  refine wpAny_bind (m := checkCount "sorted" 1 1 _) (wpAny_pure ?_)
  refine wpAny_bind (kQ (by simp [hh]) hS fun s1 us k1 g1 o1 z1 zz => ?_)
  obtain ⟨us0, hpu, hv⟩ := zz
  rw [List.map_map] at hv
  have hl0 := hv.length
  rw [List.length_map] at hl0
  have hz : us.length = zs.length := by rw [hpu.length_eq]; exact hl0.symm
  obtain ⟨zs1, hs1, hp1⟩ := z6 hpu (wB hv)
  refine wpAny_bind (wpAny_newList ?_ (by rw [hz]; have := kP; have : (64 : Nat) <= sizeLine := by rw [sizeLine_eq]; decide
                                          omega))
  have hoL : (s1.heap.push (seqObj "list" us.toArray 0)).get? s1.heap.objs.size = some (seqObj "list" us.toArray 0) := Heap.get?_push_size _ rfl
  refine wpAny_bind (wpAny_holding (wpAny_call_entry slot_list_sort ⟨_, hoL, rfl⟩ entry_list_sort (list_sort_tree hoL hs1 (by rw [hz]; exact h64) fun out ns' b1 b2 b3 => ⟨_, rfl, ?_⟩) (args_list_sort _)))
  refine wpAny_pure ⟨_, rfl, h _ _ _ ns' (fun b o e => ?_) g1 o1 ?_ (sortedHeap_at hoL) b1 (b2.trans hp1) b3⟩
  . have e1 := k1 b o e
    have hb := Heap.lt_size e1
    rw [sortedHeap_old (Nat.ne_of_lt hb) (by rw [Heap.size_push]; exact Nat.lt_succ_of_lt hb)]
    exact Heap.get?_push_of_some _ e1
  . exact Nat.le_of_lt z1
end
theorem lL {z : Str} {zs : List Str} : (Sum.inr z : Key) ∈ zs.map Sum.inr ↔ z ∈ zs := by simp
theorem wZ (l : List Str) : ∀ σ : List Str, (l.map (Sum.inr : Str -> Key)).foldl (fun σ v => if v ∈ σ then σ else σ ++ [v]) (σ.map Sum.inr) = (l.foldl (fun σ v => if v ∈ σ then σ else σ ++ [v]) σ).map Sum.inr := by
  induction l with
  | nil => intro σ; rfl
  | cons v l ih =>
    intro σ
    rw [List.map_cons, List.foldl_cons, List.foldl_cons, <- ih]
    by_cases c : v ∈ σ
    . rw [if_pos (lL.mpr c), if_pos c]
    . rw [if_neg (fun z => c (lL.mp z)), if_neg c, List.map_append]; rfl
theorem qR (ys : List Str) : fB (ys.map Sum.inr) = (eQ ys).map Sum.inr := wZ ys []
theorem zdn {z : Str} {zs : List Str} : (if (Sum.inr z : Key) ∈ zs.map Sum.inr then zs.map Sum.inr else zs.map Sum.inr ++ [Sum.inr z]) = (if z ∈ zs then zs else zs ++ [z]).map (Sum.inr : Str -> Key) := by
  by_cases c : z ∈ zs
  . rw [if_pos (lL.mpr c), if_pos c]
  . rw [if_neg (fun q => c (lL.mp q)), if_neg c, List.map_append]; rfl
theorem zS (ys : List Int) : ∃ zs : List Int, fB (ys.map Sum.inl) = zs.map Sum.inl /\ zs.Nodup /\ ∀ x, x ∈ zs ↔ x ∈ ys := by
  have hm := xG (ys.map (Sum.inl : Int -> Key)) []
  have hn := rM (ys.map (Sum.inl : Int -> Key)) [] List.nodup_nil
  have all : ∀ l : List Key, (∀ k ∈ l, ∃ i, k = Sum.inl i) -> ∃ zs : List Int, l = zs.map Sum.inl := by
    intro l
    induction l with
    | nil => exact fun _ => ⟨[], rfl⟩
    | cons k l ih =>
      intro h
      obtain ⟨i, rfl⟩ := h k List.mem_cons_self
      obtain ⟨zs, rfl⟩ := ih fun k hk => h k (List.mem_cons_of_mem _ hk)
      exact ⟨i :: zs, rfl⟩
  obtain ⟨zs, e⟩ := all (fB (ys.map Sum.inl)) fun k hk => by
    rcases (hm k).mp hk with z | z
    . cases z
    . obtain ⟨i, _, rfl⟩ := List.mem_map.mp z
      exact ⟨i, rfl⟩
  refine ⟨zs, e, ?_, fun x => ?_⟩
  . have q : (zs.map (Sum.inl : Int -> Key)).Nodup := by rw [<- e]; exact hn
    exact (List.pairwise_map.mp q).imp fun h z => h (by rw [z])
  . have q := hm (Sum.inl x)
    rw [show (ys.map (Sum.inl : Int -> Key)).foldl (fun σ v => if v ∈ σ then σ else σ ++ [v]) [] = fB (ys.map Sum.inl) from rfl, e] at q
    simpa using q
section
variable {X : Cx}
def mO (P : Program) (w : World) (a : Addr) (zs : List Str) : HO := .ext fun h => iM P w (mW w) h a (zs.map Sum.inr)
def zjT (P : Program) (w : World) (a : Addr) (zs : List Int) : HO := .ext fun h => iM P w (mW w) h a (zs.map Sum.inl)
theorem iM.at_ {P : Program} {w : World} {b : Bool} {h : Heap} {a : Addr} {zs : List Key} (x : iM P w b h a zs) : ∃ o, h.get? a = some o := let ⟨o, _, _, _, e, _⟩ := x; ⟨o, e⟩
theorem pA {P : Program} {w : World} {H : Hp} {h : Heap} {a : Addr} {zs : List Str} (x : iM P w (mW w) h a (zs.map Sum.inr)) : cJ P w H h a (mO P w a zs) := ⟨x, x.at_, fun _ _ y k => y.keep fun o e => k o e⟩
theorem zdU {P : Program} {w : World} {H : Hp} {h : Heap} {a : Addr} {zs : List Int} (x : iM P w (mW w) h a (zs.map Sum.inl)) : cJ P w H h a (zjT P w a zs) := ⟨x, x.at_, fun _ _ y k => y.keep fun o e => k o e⟩
theorem uX {ys : List Str} {us : List Value} (h : cA (ys.map V.str) us) : cA ((ys.map (Sum.inr : Str -> Key)).map kV) us := by rw [List.map_map]; exact h
theorem zbi {ys : List Int} {us : List Value} (h : cA (ys.map V.int) us) : cA ((ys.map (Sum.inl : Int -> Key)).map kV) us := by rw [List.map_map]; exact h
theorem xS (hc : X.calm = true) : fD X (.type "set") (fun xs H Q => ∃ p ys, xs = [.ref p] /\ SqL X.K H p (ys.map V.str) /\ ys.length < 1000 /\ ∀ l, H l = none -> Q (.ref l) (upd H l (mO X.prog X.w l (eQ ys)))) := by
  intro pins s σ H xs us Q I r h
  obtain ⟨p, ys, rfl, hq, hz, q⟩ := h
  obtain ⟨u, rfl, rx⟩ := kZ r
  cases rx
  obtain ⟨its, r', pl, hz'⟩ := I.list hq
  have dR := r'.length
  rw [List.length_map] at dR
  refine pZ (P := X.prog) (w := X.w) ?hh pl.isList (uX r') (by rw [List.size_toArray, <- dR]; unfold scanBound; omega) fun h' tk x k => ?_
  case hh => exact I.ok.hd hc
  exact ⟨.ref s.heap.objs.size, _, I.laid (t' := tk) k (Nat.le_refl _) (pA (by rw [<- qR]; exact x)), rfl, q _ I.fresh⟩
theorem wA (hc : X.calm = true) : fD X (.type "set") (fun xs H Q => ∃ (p : Addr) (ys : List Int), xs = [.ref p] /\ SqL X.K H p (ys.map V.int) /\ ys.length < 1000 /\ ∀ (l : Addr) (zs : List Int), H l = none -> zs.Nodup -> (∀ x, x ∈ zs ↔ x ∈ ys) -> Q (.ref l) (upd H l (zjT X.prog X.w l zs))) := by
  intro pins s σ H xs us Q I r h
  obtain ⟨p, ys, rfl, hq, hz, q⟩ := h
  obtain ⟨u, rfl, rx⟩ := kZ r
  cases rx
  obtain ⟨its, r', pl, hz'⟩ := I.list hq
  have dR := r'.length
  rw [List.length_map] at dR
  refine pZ (P := X.prog) (w := X.w) ?hh pl.isList (zbi r') (by rw [List.size_toArray, <- dR]; unfold scanBound; omega) fun h' tk x k => ?_
  case hh => exact I.ok.hd hc
  obtain ⟨zs, e1, e2, e3⟩ := zS ys
  exact ⟨.ref s.heap.objs.size, _, I.laid (t' := tk) k (Nat.le_refl _) (zdU (by rw [<- e1]; exact x)), rfl, q _ zs I.fresh e2 e3⟩
theorem pX (hc : X.calm = true) : fD X (.builtin "sorted") (fun xs H Q => ∃ p zs, xs = [.ref p] /\ H p = some (mO X.prog X.w p zs) /\ zs.length < 64 /\ ∀ l zs', H l = none -> zs'.Perm zs -> sortedS zs' = true -> Q (.ref l) (upd H l (.lst (zs'.map V.str)))) := by
  intro pins s σ H xs us Q I r h
  obtain ⟨p, zs, rfl, hq, hz, q⟩ := h
  obtain ⟨u, rfl, rx⟩ := kZ r
  cases rx
  have hS : iM X.prog X.w (mW X.w) s.heap p (zs.map Sum.inr) := (I.hok p _ hq).1
  refine rT ?hh hS hz fun s' l vs zs' k g o hl ⟨e, he⟩ a1 a2 a3 => ?_
  case hh => exact I.ok.hd hc
  have hz2 : (zs'.map V.str).length <= sizeLine := by
    have q : (64 : Nat) <= sizeLine := by rw [sizeLine_eq]; decide
    rw [List.length_map, a2.length_eq]
    omega
  have J : Inv X pins σ (upd H l (.lst (zs'.map V.str))) s' :=
    I.call' (ch := []) o (Un.laid k hl (I.hok.fresh hl)) (I.hok.laid k hl (show cJ X.prog X.w _ _ _ (.lst (zs'.map V.str)) from ⟨hz2, vs.toList, e, qK a1, he⟩)) (by rw [g]; exact I.bare) (fun _ z => nomatch z)
  exact ⟨.ref l, _, J, rfl, q _ _ (I.hok.fresh hl) a2 a3⟩
theorem qX (hc : X.calm = true) : fD X (.builtin "sorted") (fun xs H Q => ∃ (p : Addr) (zs : List Int), xs = [.ref p] /\ H p = some (zjT X.prog X.w p zs) /\ zs.length < 64 /\ ∀ (l : Addr) (zs' : List Int), H l = none -> zs'.Perm zs -> zs'.Pairwise (· <= ·) -> Q (.ref l) (upd H l (.lst (zs'.map V.int)))) := by
  intro pins s σ H xs us Q I r h
  obtain ⟨p, zs, rfl, hq, hz, q⟩ := h
  obtain ⟨u, rfl, rx⟩ := kZ r
  cases rx
  have hS : iM X.prog X.w (mW X.w) s.heap p (zs.map Sum.inl) := (I.hok p _ hq).1
  refine rN ?hh hS hz fun s' l vs zs' k g o hl ⟨e, he⟩ a1 a2 a3 => ?_
  case hh => exact I.ok.hd hc
  have hz2 : (zs'.map V.int).length <= sizeLine := by
    have q : (64 : Nat) <= sizeLine := by rw [sizeLine_eq]; decide
    rw [List.length_map, a2.length_eq]
    omega
  have J : Inv X pins σ (upd H l (.lst (zs'.map V.int))) s' :=
    I.call' (ch := []) o (Un.laid k hl (I.hok.fresh hl)) (I.hok.laid k hl (show cJ X.prog X.w _ _ _ (.lst (zs'.map V.int)) from ⟨hz2, vs.toList, e, lP a1, he⟩)) (by rw [g]; exact I.bare) (fun _ z => nomatch z)
  exact ⟨.ref l, _, J, rfl, q _ _ (I.hok.fresh hl) a2 a3⟩
theorem wR (hc : X.calm = true) : fD X (.type "set") (fun xs H Q => ∃ p ys, xs = [.ref p] /\ SqT X.K H p (ys.map V.str) /\ ys.length < 1000 /\ ∀ l, H l = none -> Q (.ref l) (upd H l (mO X.prog X.w l (eQ ys)))) := by
  intro pins s σ H xs us Q I r h
  obtain ⟨p, ys, rfl, hq, hz, q⟩ := h
  obtain ⟨u, rfl, rx⟩ := kZ r
  cases rx
  obtain ⟨its, r', pl, hz'⟩ := I.tuple hq
  have dR := r'.length
  rw [List.length_map] at dR
  obtain ⟨o, ho, hc1, n, hd⟩ := pl
  refine vS (P := X.prog) (w := X.w) (I.ok.hd hc) ⟨o, ho, hc1, n, hd⟩ (uX r') (by rw [List.size_toArray, <- dR]; unfold scanBound; omega) fun h' tk x k => ?_
  exact ⟨.ref s.heap.objs.size, _, I.laid (t' := tk) k (Nat.le_refl _) (pA (by rw [<- qR]; exact x)), rfl, q _ I.fresh⟩
theorem nQ : fD X (.type "set") (fun xs H Q => xs = [] /\ ∀ l, H l = none -> Q (.ref l) (upd H l (mO X.prog X.w l []))) := by
  intro pins s σ H xs us Q I r h
  obtain ⟨rfl, q⟩ := h
  cases r
  refine zU ?_
  exact ⟨.ref s.heap.objs.size, _, I.laid (t' := s.toks) (fun b o e => Heap.get?_push_of_some _ e) (Nat.le_refl _) (pA (oU (Heap.get?_push_size _ rfl))), rfl, q _ I.fresh⟩
theorem pI (hc : X.calm = true) : fD X (.type "set") (fun xs H Q => ((∃ p ys, xs = [.ref p] /\ SqL X.K H p (ys.map V.str) /\ ys.length < 1000 /\ ∀ l, H l = none -> Q (.ref l) (upd H l (mO X.prog X.w l (eQ ys)))) \/
    ∃ p ys, xs = [.ref p] /\ SqT X.K H p (ys.map V.str) /\ ys.length < 1000 /\ ∀ l, H l = none -> Q (.ref l) (upd H l (mO X.prog X.w l (eQ ys)))) \/
    ∃ (p : Addr) (ys : List Int), xs = [.ref p] /\ SqL X.K H p (ys.map V.int) /\ ys.length < 1000 /\ ∀ (l : Addr) (zs : List Int), H l = none -> zs.Nodup -> (∀ x, x ∈ zs ↔ x ∈ ys) -> Q (.ref l) (upd H l (zjT X.prog X.w l zs))) := ((xS hc).or (wR hc)).or (wA hc)
theorem lA (hc : X.calm = true) : fD X (.builtin "sorted") (fun xs H Q => (∃ p zs, xs = [.ref p] /\ H p = some (mO X.prog X.w p zs) /\ zs.length < 64 /\ ∀ l zs', H l = none -> zs'.Perm zs -> sortedS zs' = true -> Q (.ref l) (upd H l (.lst (zs'.map V.str)))) \/
    ∃ (p : Addr) (zs : List Int), xs = [.ref p] /\ H p = some (zjT X.prog X.w p zs) /\ zs.length < 64 /\ ∀ (l : Addr) (zs' : List Int), H l = none -> zs'.Perm zs -> zs'.Pairwise (· <= ·) -> Q (.ref l) (upd H l (.lst (zs'.map V.int)))) := (pX hc).or (qX hc)
theorem iM.setOf {P : Program} {w : World} {b : Bool} {h : Heap} {a : Addr} {zs : List Key} (x : iM P w b h a zs) : h.SetOf (bH P w) a (fun k => decide (k ∈ zs)) zs.length := by
  obtain ⟨o, es, ep, t, ho, hex, hd, hel, ⟨us, hp, hs⟩, hnd, hb, hf, _, _⟩ := x
  have hsz : es.size = zs.length := by
    have e1 := hp.length_eq
    rw [List.length_map, Array.length_toList] at e1
    have e2 := hs.length
    rw [List.length_map] at e2
    omega
  refine ⟨o, es, ep, t, ho, hex, hd, hel, fun k => ?_, hb, hf, hsz⟩
  rw [iM.mem (P := P) (w := w) hp hs k]
  exact decide_eq_true_iff
theorem oJ : OpR X (compareOp .In) (fun x y H Q => ∃ z p zs, x = .str z /\ y = .ref p /\ H p = some (mO X.prog X.w p zs) /\ Q (.bl (decide (z ∈ zs))) H) := by
  intro pins s σ H x y v u Q I rx ry h
  obtain ⟨z, p, zs, rfl, rfl, hH, q⟩ := h
  obtain ⟨t, rfl⟩ := rx
  cases ry
  have hS : iM X.prog X.w (mW X.w) s.heap p (zs.map Sum.inr) := (I.hok p _ hH).1
  exact wpAny_inSet_of (lK X.prog X.w z t) rfl hS.setOf ⟨.bl _, H, I.tok _, rfl, by rw [decide_eq_decide.mpr (lL (z := z) (zs := zs))]; exact q⟩
theorem e9 : MtM X "set.add" (fun x vs H Q => ∃ p z zs, x = .ref p /\ vs = [.str z] /\ H p = some (mO X.prog X.w p zs) /\ zs.length < 1000 /\ Q .non (upd H p (mO X.prog X.w p (if z ∈ zs then zs else zs ++ [z])))) := by
  intro pins s σ H x vs v us Q I rx rv h
  obtain ⟨p, z, zs, rfl, rfl, hH, hz, q⟩ := h
  cases rx
  obtain ⟨u, rfl, t, rfl⟩ := rv.one
  have hS : iM X.prog X.w (mW X.w) s.heap p (zs.map Sum.inr) := (I.hok p _ hH).1
  refine wpAny_call_entry PySem.F.slot_set_add hS.setOf.typeIs PySem.F.entry_set_add ?_ (PySem.F.args_set_add_2 _ _)
  refine (show wpAny _ _ (setAdd p (.str z t) >>= fun _ => ret .none) _ _ _ from wpAny_bind (tS (x := Sum.inr z) (u := .str z t) ⟨t, rfl⟩ hS (by rw [List.length_map]; unfold scanBound; omega) fun h' hb x => wpAny_pure ⟨_, rfl, ?_⟩))
  refine ⟨.non, _, I.write (t' := s.toks + 1) (by rw [hH]; exact trivial) (.inl rfl) (fun b o' hb' e => (hb.2 b hb').trans e) x.at_ (pA (by rw [<- zdn]; exact x)), rfl, q⟩
end
section
variable {X : Cx} {o e : Expr} {es : List Expr} {to : TE} {t : TA} {name : Str} {apos cpos : Pos} {id : String} {r : V -> List V -> Hp -> VK -> Prop}
def zpD (P : Program) (w : World) (r : V -> List V -> Hp -> VK -> Prop) (to : TE) (t : TA) : TE := fun σ H Q => to σ H fun x H1 => (∃ p zs, x = .ref p /\ H1 p = some (mO P w p zs)) /\ t σ H1 fun xs H2 => r x xs H2 Q
theorem zbT (slot : Slot "set" name id) (hty : typeOf (.builtin id) = pure (.type "method_descriptor")) (hm : MtM X id r) (ho : PE X o to) (ha : PA X (e :: es) t)
    (hbase : attributeBase o name X.env (eval o X.env) = eval o X.env := by rfl)
    (zls : ((backTo cpos (starEach (e :: es) X.env)).all (fun x => !x.1) && (backToKw cpos (keywordEach [] X.env)).all (fun x => x.1.isSome) && decide ((e :: es).length + ([] : List Keyword).length + (if ([] : List Keyword).isEmpty then 0 else 1) < 30)) = true := by rfl)
    (hline : (apos.endLine == cpos.line) = true := by rfl) (hs : starEach (e :: es) X.env = (false, eval e X.env) :: starEach es X.env := by rfl) (hplain : (backTo cpos (starEach es X.env)).any (·.1) = false := by rfl) :
    PE X (.Call (.Attribute o name apos) (e :: es) [] cpos) (zpD X.prog X.w r to t) := by
  intro pins s σ H Q I h
  refine wpAny_Call_method_late hbase zls hline rfl (thn (ho pins s σ H _ I h) fun v s1 ⟨x, H1, I1, r1, ⟨p, zs, ep, hH⟩, q1⟩ => ?_)
  subst ep
  cases r1
  have hS : iM X.prog X.w (mW X.w) s1.heap p (zs.map Sum.inr) := (I1.hok p _ hH).1
  refine ⟨"set", id, PySem.F.plainAttrs_set, slot, hty, hS.setOf.typeIs, hS.setOf.noDict, ?_⟩
  have hA := ha cpos pins s1 σ H1 _ I1 q1
  rw [hs] at hA ⊢
  refine Calls.callWith_builtin (by show (false || (backTo cpos (starEach es X.env)).any (·.1)) = false; rw [hplain] <;> rfl) (Calls.evalArgs_plain (thn hA fun us s2 ⟨vs, H2, I2, r2, q2⟩ => hm pins s2 σ H2 (.ref p) vs _ us Q I2 rfl r2 q2))
end
end L2
namespace TX
open PySem PySem.Builtin.Str PySem.Calls
section
variable {prog : Program} {w : World} {A : Around} {E : Value -> Shared -> Prop} {s : Shared}
end
theorem sW (l : Addr) (t : Tok) (items : Array Value) (n : Nat) (dct : Option Addr) (sl : Array (Option Value)) :
    Meets (Builtin.«enumerate.__new__» ⟨[.type "enumerate", .ref l], [("start", .int 1 t)]⟩) (fun _ R s => s.heap.get? l = some { cls := .type "list", dict := dct, data := .seq items n, slots := sl } /\
      R (.ok (.ret (.ref (s.heap.push { cls := .type "list_iterator", data := .fields #[.ref l, .int 0 0] }).objs.size)))
        { s with heap := (s.heap.push { cls := .type "list_iterator", data := .fields #[.ref l, .int 0 0] }).push { cls := .type "enumerate", data := .fields #[.none, .bool false, .ref s.heap.objs.size, rawInt 1, .none, .none] } }) :=
  .of_wp fun prog w A R s h => by
    obtain ⟨hp1, g1, d1, tk1, os1⟩ := s
    obtain ⟨hl, hq⟩ := h
    have zly := sub_enumerate
    have hL1 : Heap.IsList (Shared.heap ⟨hp1, g1, d1, tk1, os1⟩) l items := ⟨_, hl, rfl, n, rfl⟩
    wp_walk using AutoSeq1.wpAny_loadPart' hl
    refine wpAny_stack_any fun _ => wpAny_pure ?_
    split
    . rename_i c1 _ _ _ _ _
      cases (c1 == Value.type "enumerate")
      . wp_walk using AutoSeq1.wpAny_loadPart' hl, wpAny_pyIter_list hL1
        exact ⟨_, rfl, hq⟩
      . wp_walk using AutoSeq1.wpAny_loadPart' hl, wpAny_pyIter_list hL1
        exact ⟨_, rfl, hq⟩
    . wp_walk using AutoSeq1.wpAny_loadPart' hl, wpAny_pyIter_list hL1
      exact ⟨_, rfl, hq⟩
end TX
namespace TX
open PySem PySem.Builtin.Str PySem.Calls
section
variable {prog : Program} {w : World} {A : Around} {E : Value -> Shared -> Prop} {s : Shared}
theorem zbb (a : Value) (t : Tok) : checkTypeCall "enumerate" ⟨[a], [("start", .int 1 t)]⟩ = pure () := by kernel_rfl
theorem zkC (a : Value) (t : Tok) : checkBuiltinCall "enumerate.__new__" ⟨[.type "enumerate", a], [("start", .int 1 t)]⟩ = pure () := by kernel_rfl
theorem zeY (a b : Value) (t : Tok) : argsOk "object.__init__" ⟨[a, b], [("start", .int 1 t)]⟩ := by
  unfold argsOk
  rw [signature?_of (id := "object.__init__") (n := "__init__".toList.reverse) (o := "object".toList.reverse) (by kernel_rfl) F.owner_object]
  kernel_rfl
theorem zdz {T newId : String} {self b : Value} {t : Tok} (hl : typeLookup (.type T) "__init__" = pure (some (.builtin "object.__init__"))) (hm : Bind.madeBy (.type T) = pure (some newId)) (hne : (some newId != some "object.__new__") = true) :
    Meets (Builtin.«object.__init__» ⟨[self, b], [("start", .int 1 t)]⟩) (fun _ R s => s.TypeIs self T /\ R (.ok (.ret .none)) s) := by
  refine Meets.of_wp fun prog w A R s zz => ?_
  obtain ⟨hT, hq⟩ := zz
  repeat any_goals first | assumption | wp_step
  exact ⟨_, rfl, hq⟩
theorem call_enum1 {l : Addr} {items : Array Value} {t : Tok} {Q : Value -> Shared -> Prop} (hL : s.heap.IsList l items)
    (h : ∀ h', IsEnum h' (s.heap.objs.size + 1) s.heap.objs.size 1 .none -> h'.IsListIter s.heap.objs.size l 0 -> (∀ b o, s.heap.get? b = some o -> h'.get? b = some o) -> Q (.ref (s.heap.objs.size + 1)) { s with heap := h' }) :
    wpAny (model prog w) A (call (.type "enumerate") [.ref l] [("start", .int 1 t)]) Q E s := by
  obtain ⟨⟨c, dct, dt, sl⟩, hl, hc, n, hd⟩ := hL
  have hc' : c = .type "list" := hc
  have hd' : dt = .seq items n := hd
  subst hc' hd'
  have ft := F.called_enumerate
  obtain ⟨c, tl, hmro⟩ := ft.mro
  have zpT := ft.made
  have zly := ft.sub
  have hct := zbb (.ref l) t
  have hcn := zkC (.ref l) t
  have fin : ∀ s' : Shared, s' = { s with heap := (s.heap.push { cls := .type "list_iterator", data := .fields #[.ref l, .int 0 0] }).push { cls := .type "enumerate", data := .fields #[.none, .bool false, .ref s.heap.objs.size, rawInt 1, .none, .none] } } -> s'.TypeIs (.ref (s.heap.objs.size + 1)) "enumerate" /\ Q (.ref (s.heap.objs.size + 1)) s' := fun s' e => by
    subst e
    have hz : (s.heap.push { cls := .type "list_iterator", data := .fields #[.ref l, .int 0 0] }).objs.size = s.heap.objs.size + 1 := Heap.size_push ..
    have en : IsEnum ((s.heap.push { cls := .type "list_iterator", data := .fields #[.ref l, .int 0 0] }).push { cls := .type "enumerate", data := .fields #[.none, .bool false, .ref s.heap.objs.size, rawInt 1, .none, .none] }) (s.heap.objs.size + 1) s.heap.objs.size 1 .none := by
      rw [<- hz]
      exact Heap.get?_push_size _ rfl
    refine ⟨⟨_, en, rfl⟩, h _ en ⟨_, Heap.get?_push_of_some _ (Heap.get?_push_size _ rfl), rfl, rfl⟩ fun b o q => Heap.get?_push_of_some _ (Heap.get?_push_of_some _ q)⟩
  have hsz : (s.heap.push { cls := .type "list_iterator", data := .fields #[.ref l, .int 0 0] }).objs.size = s.heap.objs.size + 1 := Heap.size_push ..
  refine wpAny_call (codeAny_of_tree ?_)
  show wpAny _ _ (callAny (.type "enumerate") _) _ _ _
  refine wpAny_pure ⟨Code.quiet_builtin _ (by decide +kernel), codeAny_builtin F.entry_type_call ?_⟩
  rw [Around.under_plain (weight_type_call_type "enumerate" [.ref l] [("start", .int 1 t)]) (units_type_call_type "enumerate" [.ref l] [("start", .int 1 t)])]
  have h1 := ft.notType
  have h2 := ft.canCreate
  repeat any_goals first | assumption | wp_step
  refine codeAny_mono (?_ : codeAny _ _ _ (fun r s' => r = .ok (.ret (.ref (s.heap.objs.size + 1))) /\ s'.TypeIs (.ref (s.heap.objs.size + 1)) "enumerate" /\ Q (.ref (s.heap.objs.size + 1)) s') _) fun r s₁ hr => ?_
  . have hN := sW l t items n dct sl prog w A.in1 (fun r s' => r = .ok (.ret (.ref (s.heap.objs.size + 1))) /\ s'.TypeIs (.ref (s.heap.objs.size + 1)) "enumerate" /\ Q (.ref (s.heap.objs.size + 1)) s') s ⟨hl, by rw [hsz]; exact ⟨rfl, fin _ rfl⟩⟩
    exact codeAny_call_builtin ft.plain F.entry_enumerate_new (wpAny_of_eq hcn hN)
  . obtain ⟨rfl, hT, hq⟩ := hr
    have hli := ft.init.lookup
    have hbi := ft.init.bind (.ref (s.heap.objs.size + 1))
    repeat any_goals first | assumption | wp_step
    refine codeAny_mono (?_ : codeAny _ _ _ (fun r s' => r = .ok (.ret .none) /\ Q (.ref (s.heap.objs.size + 1)) s') _) fun r₂ s₂ hr₂ => ?_
    . have hI := zdz (T := "enumerate") (self := .ref (s.heap.objs.size + 1)) (b := .ref l) (t := t) ft.init.lookup ft.made (by decide) prog w A.in1 (fun r s' => r = .ok (.ret .none) /\ Q (.ref (s.heap.objs.size + 1)) s') s₁ ⟨hT, rfl, hq⟩
      exact codeAny_call_builtin ft.init.plain F.entry_object_init (ft.init.check _ _ _ _ _ _ _ _ hT (zeY _ _ _) hI)
    obtain ⟨rfl, hq2⟩ := hr₂
    repeat any_goals first | assumption | wp_step
end
theorem draws1 {prog : Program} {w : World} {A : Around} (hh : A.handled = none) (it l : Addr) (hne : l ≠ it) (items : Array Value) :
    Draws prog w A it [it, l] (items.size + 1) (fun k x => 1 <= k /\ items[k - 1]? = some x) (fun k h => 1 <= k /\ h.IsListIter it l (k - 1) /\ h.IsList l items) where
  live := fun k h ⟨_, ⟨o, e, _⟩, _⟩ => ⟨o, e⟩
  frame := fun k h h' ⟨h1, h2, h3⟩ kp => ⟨h1, h2.at fun o q => kp it (by simp) o q, by
    obtain ⟨o, e, r⟩ := h3
    exact ⟨o, kp l (by simp) o e, r⟩⟩
  item := fun k s Q E hk ⟨h1, h2, h3⟩ hQ => by
    have hlt : k - 1 < items.size := by omega
    have hx : items[k - 1]? = some items[k - 1] := Array.getElem?_eq_getElem hlt
    refine wpAny_nextOf_list_item h2 h3 hx fun h' li sb => hQ _ h' s.toks ⟨h1, hx⟩ ⟨by omega, ?_, ?_⟩ sb
    . rw [show k + 1 - 1 = k - 1 + 1 by omega]
      exact li
    . obtain ⟨o, e, r⟩ := h3
      exact ⟨o, (sb.2 l hne).trans e, r⟩
  done := fun s Q E ⟨h1, h2, h3⟩ hE => wpAny_nextOf_list_end hh h2 h3 (Array.getElem?_eq_none (by omega)) fun h' e eb he => hE h' e eb he
theorem draws_end {prog : Program} {w : World} {A : Around} (hh : A.handled = none) (it l : Addr) (items : Array Value) (i : Nat) (hi : items.size <= i) :
    Draws prog w A it [it, l] (i + 1) (fun _ _ => True) (fun k h => k = i + 1 /\ h.IsListIter it l i /\ h.IsList l items) where
  live := fun k h ⟨_, ⟨o, e, _⟩, _⟩ => ⟨o, e⟩
  frame := fun k h h' ⟨h1, h2, h3⟩ kp => ⟨h1, h2.at fun o q => kp it (by simp) o q, by
    obtain ⟨o, e, r⟩ := h3
    exact ⟨o, kp l (by simp) o e, r⟩⟩
  item := fun k s Q E hk ⟨h1, _, _⟩ _ => absurd h1 (Nat.ne_of_lt hk)
  done := fun s Q E ⟨_, h2, h3⟩ hE => wpAny_nextOf_list_end hh h2 h3 (Array.getElem?_eq_none hi) fun h' e eb he => hE h' e eb he
end TX
namespace L2
open PySem PySem.Spec PyProof.Rows
section
variable {X : Cx}
end
def zhR (K : W.Frag) (a : Addr) : It :=
  ⟨fun i H => ∃ xs x, SqL K H a xs /\ xs[i]? = some x, fun i H v H' => ∃ T, H T = none /\ v = .ref T /\ ∀ xs, SqL K H a xs -> ∃ x, xs[i]? = some x /\ H' = upd H T (.tup [.int (i + 1), x]), fun i H => ∃ xs, SqL K H a xs /\ xs.length <= i⟩
theorem vW {P : Program} {w : World} {K : W.Frag} {elts : List Expr} {k : Nat} {pos : Pos} (a e it : Addr) (hne : e ≠ it) (hai : a ≠ it) (hae : a ≠ e) : xU P w K (.Tuple elts k pos) (zhR K a) [e, it] e (fun i h => (∃ old, IsEnum h e it ((i : Int) + 1) old) /\ h.IsListIter it a i) where
  mem := by simp
  obj := fun i h st b hb => by
    obtain ⟨⟨old, he⟩, o, ho, c, d⟩ := st
    rcases List.mem_cons.mp hb with z | z
    . subst z
      exact ⟨_, he, fun v q => by
        have q' : Data.fields _ = Data.cell v := q
        cases q'⟩
    . have z' : b = it := by simpa using z
      subst z'
      exact ⟨o, ho, fun v q => by rw [d] at q; cases q⟩
  keep := fun i h h' st kk => by
    obtain ⟨⟨old, he⟩, hl⟩ := st
    exact ⟨⟨old, kk e (by simp) _ he⟩, hl.at fun o q => kk it (by simp) o q⟩
  item := by
    intro X hP hw hK hc i pins s σ H E I hf st hg
    subst hP hw hK
    obtain ⟨xs, x, hq, hx⟩ := hg
    obtain ⟨⟨old, he⟩, hl⟩ := st
    obtain ⟨its, rv, pl, hz⟩ := I.list hq
    obtain ⟨u, hu, ru⟩ := rv.get hx
    have hlt : i < its.toArray.size := by
      have := (List.getElem?_eq_some_iff.mp hu).1
      simpa using this
    have D := TX.draws1 (prog := X.prog) (w := X.w) (A := X.A.in1) (I.ok.hd hc) it a hai its.toArray
    refine wpAny_pyNext_enum_itemD (i := i + 1) D he ⟨by omega, hl, pl.isList⟩ (by omega) hne (by simp; exact ⟨hne, Ne.symm hae⟩) fun x' h' tk px eo st' tp hsz kk => ?_
    have ex : x' = u := by
      have p2 := px.2
      rw [Nat.add_sub_cancel] at p2
      have hu' : its.toArray[i]? = some u := by simpa using hu
      exact Option.some.inj (p2.symm.trans hu')
    subst ex
    refine ⟨_, rfl, wpAny_letOwnedTupleGo_enum (s := { s with heap := h', toks := tk + 1 }) eo fun h2 en sb => ?_⟩
    have hTe : s.heap.objs.size ≠ e := Nat.ne_of_gt (Heap.lt_size he)
    have hs' : h2.get? s.heap.objs.size = some { cls := .type "tuple", data := .seq #[.int ((i + 1 : Nat) : Int) tk, x'] } := (sb.2 _ hTe).trans tp
    have kp : ∀ b ob, b ∉ [e, it] -> s.heap.get? b = some ob -> h2.get? b = some ob := fun b ob hb q => by
      have h1 : b ≠ e := fun z => hb (by simp [z])
      have h2' : b ≠ it := fun z => hb (by simp [z])
      exact (sb.2 b h1).trans (kk b ob h1 h2' q)
    have I2 : Inv X pins σ (upd H s.heap.objs.size (.tup [.int (i + 1), x])) { s with heap := h2, toks := tk + 1 } := I.turnLaid (o := .tup [.int (i + 1), x]) (t' := tk + 1) hf kp (Nat.le_refl _)
      ⟨by show 2 <= sizeLine; rw [sizeLine_eq]; decide, [.int ((i + 1 : Nat) : Int) tk, x'], .cons ⟨_, rfl⟩ (.cons ru .nil), ⟨_, hs', rfl, _, rfl⟩⟩
    refine ⟨.ref s.heap.objs.size, _, I2, rfl, ⟨_, I.fresh, rfl, fun ys hy => ⟨x, by rw [I.list_inj hy hq]; exact hx, rfl⟩⟩, ⟨⟨_, en⟩, ?_⟩, fun b hb => ?_⟩
    . have li := st'.2.1
      rw [Nat.add_sub_cancel] at li
      exact li.extBut sb.extBut (Ne.symm hne)
    . have hlt : b ≠ s.heap.objs.size := by
        obtain ⟨o, ho, _⟩ : ∃ o, s.heap.get? b = some o /\ True := by
          rcases List.mem_cons.mp hb with z | z
          . subst z; exact ⟨_, he, trivial⟩
          . have z' : b = it := by simpa using z
            subst z'
            obtain ⟨o, ho, _⟩ := hl
            exact ⟨o, ho, trivial⟩
        exact Nat.ne_of_lt (Heap.lt_size ho)
      rw [aH hlt]
      exact (hf b hb).1
  done := by
    intro X hP hw hK hc i pins s σ H E I hf st hg
    subst hP hw hK
    obtain ⟨xs, hq, hx⟩ := hg
    obtain ⟨⟨old, he⟩, hl⟩ := st
    obtain ⟨its, rv, pl, hz⟩ := I.list hq
    have dR := rv.length
    have D := TX.draws_end (prog := X.prog) (w := X.w) (A := X.A.in1) (I.ok.hd hc) it a its.toArray i (by simp; omega)
    exact wpAny_pyNext_enum_endD D he ⟨rfl, hl, pl.isList⟩ fun h' eb => ⟨rfl, I.turnedL (t' := s.toks) hf fun b ob hb q => eb b ob (fun z => hb (by simp [z])) q⟩
  self := fun A i s Q E st h => by
    obtain ⟨⟨old, he⟩, _⟩ := st
    exact wpAny_pyIter_enum he h
def zkc (K : W.Frag) (ta : TA) : TI := fun σ H R => ta σ H fun vs H1 => ∃ a, vs = [.ref a] /\ (∃ xs, SqL K H1 a xs) /\ R (zhR K a) H1
theorem zaB {X : Cx} {elts : List Expr} {k : Nat} {tpos : Pos} {l : Expr} {ta : TA} {p pos kpos : Pos} {j : Nat} {cpos : Pos} (hg : Gl X "enumerate") (hm : X.mg "enumerate" = none) (ha : PA X [l] ta) (hs : starEach [l] X.env = [(false, eval l X.env)] := by rfl) :
    PI X (.Tuple elts k tpos) (.Call (.Name "enumerate" p) [l] [⟨some "start", .Constant (.int 1) j cpos, kpos⟩] pos) (zkc X.K ta) := by
  intro pins s σ H R I h
  refine wpAny_Call_Name_kw (kN I hg hm (show bootBuiltins "enumerate" = some (.type "enumerate") by decide +kernel) ?_)
  refine PySem.W.callWith_of (P := fun h => X.K.In h) (by rw [hs]; rfl) (fun h _ => ⟨.machine, .inr (.inl rfl), PySem.W.Looks.of_pure rfl⟩) (evalArgs_kw2 rfl (thn (ha pos pins s σ H _ I h) fun us s1 zz => ?_) hs)
  obtain ⟨vs, H1, I1, r1, q1⟩ := zz
  refine thn ((zeb (X := X) (nm := some "start") (kpos := kpos) aI zke) pos pins s1 σ H1 (fun zs H2 => zs = [.int 1] /\ H2 = H1) I1 ⟨rfl, rfl⟩) fun ws s2 ⟨zs, H2, I2, rz, e1, e2⟩ => ⟨I2.kIn, ?_⟩
  subst e1 e2
  obtain ⟨a, e, ⟨xs, hq⟩, q⟩ := q1
  subst e
  obtain ⟨u, rfl, ru⟩ := r1.one
  cases ru
  obtain ⟨w0, rfl, rw0⟩ := rz.one
  obtain ⟨t, rfl⟩ := rw0
  obtain ⟨its, rv, pl, hz⟩ := I2.list hq
  show wpAny _ _ (call (.type "enumerate") [.ref a] [("start", .int 1 t)]) _ _ _
  refine TX.call_enum1 pl.isList fun h' en li kk => ?_
  have I3 : Inv X pins σ H2 { s2 with heap := h' } := I2.kept (t' := s2.toks) kk
  have hlt : a < s2.heap.objs.size := by
    obtain ⟨o, ho, _⟩ := pl.isList
    exact Heap.lt_size ho
  have T := vW (P := X.prog) (w := X.w) (K := X.K) (elts := elts) (k := k) (pos := tpos) a (s2.heap.objs.size + 1) s2.heap.objs.size (Nat.ne_of_gt (Nat.lt_succ_self _)) (Nat.ne_of_lt hlt) (Nat.ne_of_lt (Nat.lt_succ_of_lt hlt))
  refine T.self X.A 0 { s2 with heap := h' } _ _ ⟨⟨_, en⟩, li⟩ ⟨_, _, _, _, H2, rfl, I3, T, ⟨⟨_, en⟩, li⟩, fun b hb => ?_, q⟩
  have hb' : s2.heap.objs.size <= b := by
    rcases List.mem_cons.mp hb with z | z
    . subst z; exact Nat.le_succ _
    . have z' : b = s2.heap.objs.size := by simpa using z
      subst z'; exact Nat.le_refl _
  exact I2.fpOk hb' (I2.hok.fresh hb')
section
variable {X : Cx}
theorem sK {i : Nat} {y : Str} {py : Pos} {Dn : iC} {e : Expr} {tg : Expr} {scope : Scope} {own fr : List Str} {idx : List Nat} {pins : List (Addr × Obj)} {σ : St} {H2 : Hp} {s2 s3 : Shared} {o0 : HO} {fp : List Addr} {it : Addr} {tn : Nat -> Heap -> Prop} {J : It} {g : TG} {tc : TT} {tm : TM} {body : Env -> Sem Fin} {ifs : List Expr} {p : Pos}
    (hN : X.N.Nodup) (hiy : X.N[i]? = some y) (hly : Loc X.env.scope y) (hf : X.fn y = true \/ X.env.scope.names.lookup y = some .local) (hc : X.calm = true) (S : aR own fr scope X.env.scope) (hix : idx.length = fr.length) (hat : ∀ (k : Nat) (x : Str) (j : Nat), fr[k]? = some x -> idx[k]? = some j -> X.N[j]? = some x)
    (T : xU X.prog X.w X.K tg J fp it tn) (st2 : tn 0 s2.heap) (f2 : ∀ b ∈ fp, jK X pins H2 b)
    (hs3 : ∃ o, s3 = { s2 with heap := s2.heap.push o, toks := s2.toks }) (I3 : Inv X pins σ (upd H2 s2.heap.objs.size o0) s3)
    (hg : ∀ C s H pins fp, PG (bI X scope C (own ++ fr) s H pins fp) tg g) (ht : ∀ C s H pins fp, PTs (bI X scope C (own ++ fr) s H pins fp) ifs tc)
    (hm : ∀ C s H pins fp, PB (bI X scope C (own ++ fr) s H pins fp) (body (bI X scope C (own ++ fr) s H pins fp).env) (.compLoop e 0 (.ref it) (.ref s2.heap.objs.size) (bI X scope C (own ++ fr) s H pins fp).env) tm)
    (hq : ∀ env, (Code.compLoop e 0 (.ref it) (.ref s2.heap.objs.size) env).quiet = true)
    (hden : ∀ env, (model X.prog X.w).den (.compLoop e 0 (.ref it) (.ref s2.heap.objs.size) env) = (zE e 0 tg ifs p (body env) (.ref it) (.ref s2.heap.objs.size) env).onRaise (fun x => do noteFrame x env; theTreesLotGoes x))
    (hun : ∀ env, X.A.under (.compLoop e 0 (.ref it) (.ref s2.heap.objs.size) env) = X.A)
    (hst : ∀ env R s, codeAny (model X.prog X.w) X.A (.compLoop e 0 (.ref it) (.ref s2.heap.objs.size) env) R s -> tn 0 s.heap -> codeAny (model X.prog X.w) X.A (.compStart e 0 (.ref it) (.ref s2.heap.objs.size) env) R s)
    (h : kJ J g tc tm (fun _ H' => aZ i (.ref s2.heap.objs.size) σ H' Dn.nx) (gP own.length idx σ) (upd H2 s2.heap.objs.size o0)) {E : Value -> Shared -> Prop} :
    wpAny (model X.prog X.w) X.A (newFunctionEnv scope X.env.globals (cL X.env scope.names []) [] X.env.qual none .none (some X.env)) (fun cenv s₄ =>
      codeAny (model X.prog X.w) X.A (.compStart e 0 (.ref it) (.ref s2.heap.objs.size) { cenv with scope := relabel scope X.env }) (compPost (model X.prog X.w) X.A X.xe (some (assign (.Name y py) X.env)) (fun _ s' => SP X pins Dn .next s') (.ref s2.heap.objs.size) cenv.locals) s₄) E s3 := by
  have fpl : ∀ b ∈ fp, b < s2.heap.objs.size := fun b hb => by
    obtain ⟨o, e, _⟩ := T.obj _ _ st2 b hb
    exact Heap.lt_size e
  have f3 : ∀ b ∈ fp, jK X pins (upd H2 s2.heap.objs.size o0) b := fun b hb => ⟨by rw [aH (Nat.ne_of_lt (fpl b hb))]; exact (f2 b hb).1, (f2 b hb).2⟩
  obtain ⟨oo, hs3⟩ := hs3
  have hsz : s3.heap.objs.size = s2.heap.objs.size + 1 := by rw [hs3]; exact Heap.size_push _ _
  have st3 : tn 0 s3.heap := T.keep _ _ _ st2 fun b hb o e => by rw [hs3]; exact Heap.get?_push_of_some _ e
  refine wpAny_newFunctionEnv S.nocell (by intro y hy; simp at hy) (fun h4 hn4 hsb4 => ?_) S.kind
  have hk4 : ∀ b o, s3.heap.get? b = some o -> h4.get? b = some o := fun b o e => hsb4.extBut b o (Nat.ne_of_lt (Heap.lt_size e)) (Heap.get?_push_of_some _ e)
  have I4 := iT (idx := idx) (tk := s3.toks + ([] : List (Str × Value)).length) S hix hat I3 f3 (fun b hb => by rw [hsz]; exact Nat.lt_succ_of_lt (fpl b hb)) hn4 hk4
  have fpC : ∀ b ∈ fp, jK (bI X scope s3.heap.objs.size (own ++ fr) s3 (upd H2 s2.heap.objs.size o0) pins fp) [] (upd H2 s2.heap.objs.size o0) b := fun b hb => by
    obtain ⟨g0, g1, g2, g3, g4, g5⟩ := f3 b hb
    refine ⟨g0, ?_, fun z => ?_, .inl hb, fun x c e => g4 x c ((dS _ _ x c e).elim id fun z => nomatch z), fun p hp => ?_⟩
    . show b ≠ s3.heap.objs.size
      exact Nat.ne_of_lt (by rw [hsz]; exact Nat.lt_succ_of_lt (fpl b hb))
    . rcases List.mem_cons.mp (I3.stkSub b z) with q | q
      . exact g1 q
      . exact g2 q
    . rcases List.mem_append.mp hp with q | q
      . exact g5 p q
      . exact nomatch q
  have st4 : tn 0 h4 := T.keep _ _ _ st3 fun b _ o e => hk4 b o e
  have loop := kC (X := bI X scope s3.heap.objs.size (own ++ fr) s3 (upd H2 s2.heap.objs.size o0) pins fp) (e := e) (depth := 0) (p := p) (acc := .ref s2.heap.objs.size) (R := compPost (model X.prog X.w) X.A X.xe (some (assign (.Name y py) X.env)) (fun _ s' => SP X pins Dn .next s') (.ref s2.heap.objs.size) s3.heap.objs.size)
    rfl hc (hq _) (hden _) (hun _) (hg _ _ _ _ _) (ht _ _ _ _ _) (hm _ _ _ _ _) T I4 st4 fpC h fun s' σ' H' I' q' => by
      obtain ⟨m6, hn6, _⟩ := id I'.loc
      have hn6' : s'.heap.Ns s3.heap.objs.size m6 := hn6
      obtain ⟨oC, es, ep, hoC, hrest⟩ := id hn6'
      have I7 : Inv X pins σ H' s' := jS (h' := s'.heap) I3 f3 I' (Heap.SameBut.refl ..)
      have eO : H' s3.heap.objs.size = none := I'.free
      have I8 : Inv X (pins ++ [(s3.heap.objs.size, oC)]) σ H' s' := I7.pins_of fun p hp => (List.mem_append.mp hp).elim (fun z => I7.pin p (List.mem_append_right _ z)) fun z => by
        have e : p = (s3.heap.objs.size, oC) := List.mem_singleton.mp z
        subst e
        exact ⟨hoC, eO, Nat.ne_of_gt I3.lt, I3.nofs (Nat.le_refl _), fun v ev => lR hn6' hoC v ev⟩
      refine thn (aO (pos := py) hN hiy hly hf _ s' σ H' (.ref s2.heap.objs.size) (.ref s2.heap.objs.size) _ I8 rfl q') fun _ s9 zz => ?_
      obtain ⟨σ9, H9, I9, q9⟩ := zz
      have hp9 := I9.pin (s3.heap.objs.size, oC) (List.mem_append_right _ (List.mem_append_right _ (List.mem_singleton.mpr rfl)))
      refine ⟨m6, hn6'.at' fun o e => ?_, fun h' hsb => ?_⟩
      . rw [hoC] at e
        cases e
        exact hp9.1
      . refine ⟨σ9, H9, I9.unpinned.turnedL (ch := [s3.heap.objs.size]) (t' := s9.toks) (fun b hb => ?_) fun b ob hb e => ?_, q9⟩
        . rw [List.mem_singleton.mp hb]
          exact I3.fpOk (Nat.le_refl _) hp9.2.1
        . exact hsb.extBut b ob (fun z => hb (List.mem_singleton.mpr z)) e
  exact hst _ _ _ loop st4
theorem zaz {i : Nat} {y : Str} {py spos : Pos} {elt tg iter tg2 it2 : Expr} {ifs if2 : List Expr} {scope : Scope} {own fr : List Str} {idx : List Nat} {wi : TI} {g : TG} {tc : TT} {wi2 : TI} {g2 : TG} {tc2 : TT} {te : TE} {pos : Pos} (hN : X.N.Nodup) (hiy : X.N[i]? = some y) (hly : Loc X.env.scope y) (hc : X.calm = true) (S : aR own fr scope X.env.scope)
    (hi : PI X tg iter wi) (hg : ∀ C s H pins fp, PG (bI X scope C (own ++ fr) s H pins fp) tg g) (ht : ∀ C s H pins fp, PTs (bI X scope C (own ++ fr) s H pins fp) ifs tc)
    (hi2 : ∀ C s H pins fp, PI (bI X scope C (own ++ fr) s H pins fp) tg2 it2 wi2) (hg2 : ∀ C s H pins fp, PG (bI X scope C (own ++ fr) s H pins fp) tg2 g2) (ht2 : ∀ C s H pins fp, PTs (bI X scope C (own ++ fr) s H pins fp) if2 tc2)
    (he : ∀ C s H pins fp, PE (bI X scope C (own ++ fr) s H pins fp) elt te)
    (hix : idx.length = fr.length := by rfl) (hat : ∀ (k : Nat) (x : Str) (j : Nat), fr[k]? = some x -> idx[k]? = some j -> X.N[j]? = some x)
    (hs : ∀ x, foldedSetIterable iter X.env x = pure x := by intro _; rfl) (hs2 : ∀ env x, foldedSetIterable it2 env x = pure x := by intro _ _; rfl) (hf : X.fn y = true \/ X.env.scope.names.lookup y = some .local := by first | exact .inl rfl | exact .inr rfl)
    (hsw : swapsWith (.ListComp elt [⟨tg, iter, ifs, 0⟩, ⟨tg2, it2, if2, 0⟩] scope pos) (some (.Name y py)) spos.line X.env = pure true := by rfl) :
    PS X (.Assign [.Name y py] (.ListComp elt [⟨tg, iter, ifs, 0⟩, ⟨tg2, it2, if2, 0⟩] scope pos) spos) (zkl (zbQ wi own.length idx g tc wi2 g2 tc2 te) (aZ i)) := by
  intro pins s σ H Dn I h
  rw [exec_Assign_Name_used _ _ _ _ hsw]
  refine wpAny_bind (wpAny_standAt (wpAny_bind ?_))
  show wpAny _ X.A (do let _ <- comprehension (.ListComp elt [⟨tg, iter, ifs, 0⟩, ⟨tg2, it2, if2, 0⟩] scope pos) scope X.env _ (newList []) false (eval iter X.env) (some (assign (.Name y py) X.env))) _ _ s
  have mT : closureFor scope X.env = pure (cL X.env scope.names []) := kM fun x hx eO => I.ok.has x.1 (S.outs x hx eO)
  refine wpAny_bind (wpAny_mono (wpAny_comprehension_free (use := some (assign (.Name y py) X.env)) (Q := fun _ s' => SP X pins Dn .next s') rfl hs mT S.kind S.names (thn (hi pins s σ H _ I h) fun v s1 h1 => thn h1 fun itv s2 h2 => ?_)) (fun _ s' hq => wpAny_pure (wpAny_pure hq)) fun _ _ e => e)
  obtain ⟨it, fp, tn, J, H2, e, I2, T, st2, f2, h2⟩ := h2
  subst e
  refine wpAny_newObj_type ?_
  exact sK (o0 := .lst []) (p := iter.pos) (body := fun env => zeT (.ListComp elt [⟨tg, iter, ifs, 0⟩, ⟨tg2, it2, if2, 0⟩] scope pos) 1 it2 (.ref s2.heap.objs.size) env (.compLoop (.ListComp elt [⟨tg, iter, ifs, 0⟩, ⟨tg2, it2, if2, 0⟩] scope pos) 0 (.ref it) (.ref s2.heap.objs.size) env)) hN hiy hly hf hc S hix hat T st2 f2 ⟨_, rfl⟩ (I2.lnew (t' := s2.toks) .nil (Nat.zero_le _)) hg ht
    (fun C s H pins fp => yJ rfl hc (hi2 C s H pins fp) (hg2 C s H pins fp) (ht2 C s H pins fp) (he C s H pins fp) (hs2 _)) (fun _ => rfl) (fun _ => rfl) (fun _ => rfl)
    (fun env R s lo st => codeAny_compStart_list lo (T.self _ 0 _ _ _ st lo)) (h2 s2.heap.objs.size I2.fresh)
theorem zao {pins : List (Addr × Obj)} {σ : St} {H : Hp} {s : Shared} {A : Around} {a b : Addr} {zs : List Int} (I : Inv X pins σ H s) (hu : A.units < cLine) (h1 : SqL X.K H a (zs.map V.int)) (h2 : SqL X.K H b (zs.map V.int)) :
    SeqAt.RcAt A s (.ref a) (.ref b) true /\ SeqAt.RcNeAt A s (.ref a) (.ref b) false := by
  obtain ⟨its1, rv1, pl1, _⟩ := I.list h1
  obtain ⟨its2, rv2, pl2, _⟩ := I.list h2
  have l1 := rv1.length
  have l2 := rv2.length
  rw [List.length_map] at l1 l2
  have he : ∀ (j : Nat) (j1 : j < its1.toArray.size) (j2 : j < its2.toArray.size), SeqAt.EqAt A.in1 s its1.toArray[j] its2.toArray[j] ((fun _ => true) j) := fun j j1 j2 => by
    have k1 : j < zs.length := by rw [l1]; simpa using j1
    obtain ⟨u1, e1, r1⟩ := rv1.get (i := j) (x := V.int zs[j]) (by rw [List.getElem?_map, List.getElem?_eq_getElem k1]; rfl)
    obtain ⟨u2, e2, r2⟩ := rv2.get (i := j) (x := V.int zs[j]) (by rw [List.getElem?_map, List.getElem?_eq_getElem k1]; rfl)
    have g1 : its1.toArray[j] = u1 := by
      have := List.getElem?_eq_some_iff.mp e1
      simpa using this.2
    have g2 : its2.toArray[j] = u2 := by
      have := List.getElem?_eq_some_iff.mp e2
      simpa using this.2
    rw [g1, g2]
    obtain ⟨t1, rfl⟩ := r1
    obtain ⟨t2, rfl⟩ := r2
    have q := SeqAt.EqAt.int_int (A := A.in1) (s := s) zs[j] t1 zs[j] t2
    rw [beq_self_eq_true] at q
    exact q
  have hs : its1.toArray.size = its2.toArray.size := by simp; omega
  have rc := SeqAt.RcAt.lists (A := A) (s := s) pl1.isList pl2.isList hs hu he
  have rn := SeqAt.RcNeAt.lists (A := A) (s := s) pl1.isList pl2.isList hs hu he
  have ea : ((List.range its1.toArray.size).all fun j => (fun _ => true) j) = true := by simp
  rw [ea] at rc rn
  exact ⟨rc, rn⟩
def zcv (K : W.Frag) (c : Bool) : R2 := fun x y H Q => ∃ (a b : Addr) (zs : List Int), x = .ref a /\ y = .ref b /\ SqL K H a (zs.map V.int) /\ SqL K H b (zs.map V.int) /\ Q (.bl c) H
theorem zdv (hu : X.A.units < cLine) : OpR X (compareOp .Eq) (zcv X.K true) := by
  intro pins s σ H x y v u Q I rx ry h
  obtain ⟨a, b, zs, rfl, rfl, h1, h2, q⟩ := h
  cases rx
  cases ry
  exact (zao I hu h1 h2).1 _ _ _ _ ⟨.bl _, H, I, rfl, q⟩
theorem zeX (hu : X.A.units < cLine) : OpR X (compareOp .NotEq) (zcv X.K false) := by
  intro pins s σ H x y v u Q I rx ry h
  obtain ⟨a, b, zs, rfl, rfl, h1, h2, q⟩ := h
  cases rx
  cases ry
  exact (zao I hu h1 h2).2 _ _ _ _ ⟨.bl _, H, I, rfl, q⟩
end
structure iP (z : Str) (fr : List Str) (scope : Scope) (outer : Scope) : Prop where
  kind : scope.kind = .function
  cell : ∀ y ∈ scope.names, y.2 = .cell -> y.1 = z
  names : ∀ y ∈ scope.names, y.2 = .local -> scope.names.lookup y.1 = some .local
  nd : (z :: fr).Nodup
  outs : ∀ y ∈ scope.names, y.2 = .free -> outer.names.lookup y.1 = some .cell \/ outer.names.lookup y.1 = some .free
  frs : ∀ x ∈ fr, scope.names.lookup x = some .free
  own : scope.names.lookup z = some .cell
  c1 : ∀ n acc, cellsFrom n scope.names acc = (z, n) :: acc
  p1 : ∀ h : Heap, pushCells h scope.names = h.push { cls := .type "cell", data := .cell none }
def hV (X : Cx) (scope : Scope) (z : Str) (C : Addr) (fr : List Str) (s : Shared) (H : Hp) (pins : List (Addr × Obj)) (fp : List Addr) : Cx :=
  { X with N := z :: fr, s₀ := s, H₀ := H, env := compEnvC scope ((z, C + 1) :: cL X.env scope.names []) C X.env, outer := X.stack, stack := X.stack, ex := fp, fn := fun x => decide (x = z), pn := X.pn ++ pins, xe := fun _ _ => False }
theorem fn1 {X : Cx} {scope : Scope} {z : Str} {C : Addr} {fr : List Str} {s : Shared} {H : Hp} {pins : List (Addr × Obj)} {fp : List Addr} : (hV X scope z C fr s H pins fp).fn z = true := decide_eq_true rfl
theorem zeL {M : Model} {A : Around} {E : Value -> Shared -> Prop} {s : Shared} {scope : Scope} {z : Str} {globals : Addr} {cl : List (Str × Addr)} {qual : Str} {outer : Env} {Q : Env -> Shared -> Prop} (c1 : ∀ n acc, cellsFrom n scope.names acc = (z, n) :: acc) (p1 : ∀ h : Heap, pushCells h scope.names = h.push { cls := .type "cell", data := .cell none })
    (hQ : Q (newEnv scope s.heap.objs.size globals ((z, s.heap.objs.size + 1) :: cl) qual none .none (some outer) builtinsNs) { s with heap := (s.heap.push { cls := .type "dict", data := .dict #[] }).push { cls := .type "cell", data := .cell none } }) :
    wpAny M A (newFunctionEnv scope globals cl [] qual none .none (some outer)) Q E s := by
  simp only [newFunctionEnv, Option.isSome_some, if_true]
  refine wpAny_bind (wpAny_alloc ?_)
  refine wpAny_bind (wpAny_layCells _ (fun name kind cells => by cases hkc : kind == NameKind.cell <;> simp [hkc]) _ _ _ _ ?_)
  rw [c1, p1]
  have e : (s.heap.push { cls := .type "dict", data := .dict #[] }).objs.size = s.heap.objs.size + 1 := Heap.size_push _ _
  dsimp only
  rw [e]
  exact wpAny_bind (wpAny_pure (wpAny_pure hQ))
section
variable {X : Cx}
theorem rP {z x : Str} {n c : Addr} {l : List (Str × Addr)} (h : ((z, n) :: l).lookup x = some c) : (x = z /\ c = n) \/ (x ≠ z /\ l.lookup x = some c) := by
  rw [List.lookup_cons] at h
  cases hb : x == z with
  | true => rw [hb] at h; cases h; exact .inl ⟨beq_iff_eq.mp hb, rfl⟩
  | false => rw [hb] at h; exact .inr ⟨beq_eq_false_iff_ne.mp hb, h⟩
theorem xF {scope : Scope} {z : Str} {fr : List Str} {C : Addr} {pins : List (Addr × Obj)} {σ : St} {H : Hp} {s : Shared} {fp : List Addr} (S : iP z fr scope X.env.scope) (I : Inv X pins σ H s) (hf : ∀ b ∈ fp, jK X pins H b)
    (hC : s.heap.objs.size <= C) (hfC : ∀ b ∈ fp, b < C) : (hV X scope z C fr s H pins fp).Ok := by
  have sub : ∀ x c, (cL X.env scope.names []).lookup x = some c -> X.env.cells.lookup x = some c := fun x c e => (dS _ _ x c e).elim id fun z => nomatch z
  have kindEq : ∀ x, (compEnvC scope ((z, C + 1) :: cL X.env scope.names []) C X.env).kindOf x = (scope.names.lookup x).map fun k => if (k == NameKind.free && X.env.scope.kind == .function && X.env.kindOf x == some .cell) then NameKind.cell else k := fun x => eD _ x
  have old : ∀ x c, (cL X.env scope.names []).lookup x = some c -> c < C + 1 := fun x c e => by
    obtain ⟨v, q⟩ := I.cell x c (sub x c e)
    exact Nat.lt_succ_of_lt (Nat.lt_of_lt_of_le q.lt hC)
  refine ⟨I.ok.mod, S.kind, I.ok.glob, I.ok.blt, hC, fun x y c e1 e2 => ?_, fun x hx => ?_, fun x c hz e => ?_, I.ok.hd, I.ok.frames, .inl rfl, fun b hb => ⟨Nat.ne_of_lt (hfC b hb), fun x c e => ?_⟩,
    I.bs, Nat.le_trans I.ok.bsz I.sz, fun b o e hb => ?_, fun b hb z => ?_, I.stack, I.stkFree⟩
  . rcases rP e1 with ⟨a1, a2⟩ | ⟨a1, a2⟩
    . rcases rP e2 with ⟨b1, b2⟩ | ⟨b1, b2⟩
      . rw [a1, b1]
      . exact absurd (a2 ▸ old y c b2) (Nat.lt_irrefl _)
    . rcases rP e2 with ⟨b1, b2⟩ | ⟨b1, b2⟩
      . exact absurd (b2 ▸ old x c a2) (Nat.lt_irrefl _)
      . exact I.ok.inj x y c (sub x c a2) (sub y c b2)
  . have hx' : (compEnvC scope ((z, C + 1) :: cL X.env scope.names []) C X.env).kindOf x = some .cell \/ (compEnvC scope ((z, C + 1) :: cL X.env scope.names []) C X.env).kindOf x = some .free := hx
    rw [kindEq] at hx'
    by_cases hxz : x = z
    . exact ⟨C + 1, by rw [hxz]; show ((z, C + 1) :: _).lookup z = _; rw [List.lookup_cons, beq_self_eq_true]⟩
    cases e : scope.names.lookup x with
    | none => rw [e] at hx'; rcases hx' with z | z <;> cases z
    | some k =>
      have hk : k = .free := by
        rw [e] at hx'
        cases k with
        | free => rfl
        | cell => exact absurd (S.cell (x, .cell) (bX e) rfl) hxz
        | «local» => rcases hx' with z | z <;> simp at z
        | globalImplicit => rcases hx' with z | z <;> simp at z
        | globalExplicit => rcases hx' with z | z <;> simp at z
      subst hk
      have m := bX e
      obtain ⟨c, hc⟩ := iG scope.names [] x m (I.ok.has x (S.outs _ m rfl))
      refine ⟨c, ?_⟩
      show ((z, C + 1) :: cL X.env scope.names []).lookup x = some c
      rw [List.lookup_cons, beq_eq_false_iff_ne.mpr hxz]
      exact hc
  . have hz' : x = z := of_decide_eq_true hz
    rcases rP e with ⟨a1, a2⟩ | ⟨a1, a2⟩
    . rw [a2]; show s.heap.objs.size <= C + 1; omega
    . exact absurd hz' a1
  . rcases rP e with ⟨a1, a2⟩ | ⟨a1, a2⟩
    . rw [a2]
      exact Nat.ne_of_gt (Nat.lt_succ_of_lt (hfC b hb))
    . exact (hf b hb).2.2.2.2.1 x c (sub x c a2)
  . rcases (hf b hb).2.2.2.1 with z | z
    . exact I.ok.noex b o e z
    . exact absurd (Nat.lt_of_lt_of_le (Heap.lt_size e) (Nat.le_trans I.ok.bsz z)) (Nat.lt_irrefl _)
  . have z' : b ∈ frs X.stack := z
    rcases List.mem_cons.mp (I.stkSub b z') with q | q
    . exact (hf b hb).2.1 q
    . exact (hf b hb).2.2.1 q
theorem sS {scope : Scope} {z : Str} {fr : List Str} {idx : List Nat} {pins : List (Addr × Obj)} {σ : St} {H : Hp} {s : Shared} {fp : List Addr} {h4 : Heap} {tk : Nat} {m : Str -> Option Value} (S : iP z fr scope X.env.scope)
    (hix : idx.length = fr.length) (hat : ∀ (k : Nat) (x : Str) (j : Nat), fr[k]? = some x -> idx[k]? = some j -> X.N[j]? = some x)
    (I : Inv X pins σ H s) (hf : ∀ b ∈ fp, jK X pins H b) (hfs : ∀ b ∈ fp, b < s.heap.objs.size) (hn : h4.Ns s.heap.objs.size m) (hcl : h4.IsCell (s.heap.objs.size + 1) none) (hk : ∀ b o, s.heap.get? b = some o -> h4.get? b = some o) :
    Inv (hV X scope z s.heap.objs.size fr s H pins fp) [] (gP 1 idx σ) H { s with heap := h4, toks := tk } := by
  have sub : ∀ x c, (cL X.env scope.names []).lookup x = some c -> X.env.cells.lookup x = some c := fun x c e => (dS _ _ x c e).elim id fun z => nomatch z
  have ok := xF (fp := fp) S I hf (Nat.le_refl _) hfs
  refine ⟨ok, rfl, I.bare, Un.kept hk, ⟨m, hn, fun i x v e1 e2 e3 => ?_⟩, fun x c e => ?_, I.hok.fresh (Nat.le_refl _), fun x c e => ?_, fun p hp => ?_, I.hok.kept hk, ?_⟩
  . obtain ⟨k, j, q1, q2, q3⟩ := nJ (own := [z]) hix e1 e2
    have hN := hat k x j q1 q2
    have hx := List.mem_of_getElem? q1
    have eO := S.frs x hx
    have zie := S.outs _ (bX eO) rfl
    obtain ⟨m0, _, hl⟩ := I.loc
    obtain ⟨u, ru, lk⟩ := hl j x v hN q3 (zie.elim (fun z => .inr (.inl z)) fun z => .inr (.inr z))
    refine ⟨u, ru, ?_⟩
    have tJ : (compEnvC scope ((z, s.heap.objs.size + 1) :: cL X.env scope.names []) s.heap.objs.size X.env).kindOf x = some .cell \/ (compEnvC scope ((z, s.heap.objs.size + 1) :: cL X.env scope.names []) s.heap.objs.size X.env).kindOf x = some .free := by
      have q := eD (env := X.env) scope.names x
      rw [eO] at q
      by_cases hc : (NameKind.free == NameKind.free && X.env.scope.kind == .function && X.env.kindOf x == some .cell) = true
      . refine .inl (q.trans ?_); simp only [Option.map_some]; rw [if_pos hc]
      . refine .inr (q.trans ?_); simp only [Option.map_some]; rw [if_neg hc]
    rcases lk with ⟨kl, _⟩ | ⟨_, c, ec, cc⟩
    . have kl' : X.env.scope.names.lookup x = some .local := kl
      rcases zie with z | z <;> (rw [kl'] at z; cases z)
    . obtain ⟨c', ec'⟩ := iG scope.names [] x (bX eO) ⟨c, ec⟩
      have e' := sub x c' ec'
      rw [ec] at e'
      cases e'
      obtain ⟨o, ho, hd⟩ := cc
      have hxz : x ≠ z := fun q => (List.nodup_cons.mp S.nd).1 (q ▸ hx)
      refine .inr ⟨tJ, c, ?_, o, hk c o ho, hd⟩
      show ((z, s.heap.objs.size + 1) :: cL X.env scope.names []).lookup x = some c
      rw [List.lookup_cons, beq_eq_false_iff_ne.mpr hxz]
      exact ec'
  . rcases rP e with ⟨_, a2⟩ | ⟨_, a2⟩
    . rw [a2]; exact ⟨none, hcl⟩
    . obtain ⟨v, o, ho, hd⟩ := I.cell x c (sub x c a2)
      exact ⟨v, o, hk c o ho, hd⟩
  . rcases rP e with ⟨_, a2⟩ | ⟨_, a2⟩
    . rw [a2]; exact I.hok.fresh (Nat.le_succ _)
    . exact I.freeC x c (sub x c a2)
  . have hp' : p ∈ X.pn ++ pins := by
      rcases List.mem_append.mp hp with z | z
      . exact z
      . exact nomatch z
    obtain ⟨a1, a2, a3, a4, a5⟩ := I.pin p hp'
    refine ⟨hk _ _ a1, a2, Nat.ne_of_lt (Heap.lt_size a1), fun z => ?_, a5⟩
    rcases List.mem_cons.mp (I.stkSub p.1 z) with q | q
    . exact a3 q
    . exact a4 q
  . show (gP 1 idx σ).length = (z :: fr).length
    unfold gP
    rw [List.length_append, List.length_replicate, List.length_map, hix, List.length_cons]; omega
theorem vL {scope : Scope} {zn : Str} {N : List Str} {pins : List (Addr × Obj)} {σ σ' : St} {H H' : Hp} {s s' : Shared} {fp : List Addr} {h' : Heap}
    (I : Inv X pins σ H s) (hf : ∀ b ∈ fp, jK X pins H b) (J : Inv (hV X scope zn s.heap.objs.size N s H pins fp) [] σ' H' s') (hs : Heap.SameBut s.heap.objs.size s'.heap h') :
    Inv X pins σ H' { s' with heap := h' } := by
  have ne : ∀ b o, s.heap.get? b = some o -> b ≠ s.heap.objs.size := fun b o e => Nat.ne_of_lt (Heap.lt_size e)
  have hCn : H' s.heap.objs.size = none := J.free
  have u := J.base
  refine I.call' (s' := { s' with heap := h' }) (ch := fp) J.os ⟨fun b o e n hb hx => ?_, fun b o e n hb hx => ?_, u.free, fun b o e hx => ?_, u.tups, u.frzs, u.tbls⟩ (fun b ob e => ?_) J.bare fun b hb => ?_
  . exact (hs.2 b (ne b o e)).trans (u.keep b o e n hb hx)
  . obtain ⟨sl, q⟩ := u.slot b o e n hb hx
    exact ⟨sl, (hs.2 b (ne b o e)).trans q⟩
  . obtain ⟨o', q⟩ := u.there b o e hx
    exact ⟨o', (hs.2 b (ne b o e)).trans q⟩
  . refine (J.hok b ob e).stay (fun c v hc q => (hs.2 c ?_).trans q) (fun _ q => q) fun _ _ q => q
    rintro rfl
    rcases hc with z | z
    . rw [<- z, hCn] at e; cases e
    . rw [hCn] at z; cases z
  . obtain ⟨f0, f1, f2, f3, f4, f5⟩ := hf b hb
    exact ⟨f3, f1, f4, f5⟩
theorem zaY {z : Str} {i : Nat} {y : Str} {py spos : Pos} {elt tg iter : Expr} {ifs : List Expr} {scope : Scope} {fr : List Str} {idx : List Nat} {wi : TI} {g : TG} {tc : TT} {te : TE} {pos : Pos} (hN : X.N.Nodup) (hiy : X.N[i]? = some y) (hly : Loc X.env.scope y) (hc : X.calm = true) (S : iP z fr scope X.env.scope)
    (hi : PI X tg iter wi) (hg : ∀ C s H pins fp, PG (hV X scope z C fr s H pins fp) tg g) (ht : ∀ C s H pins fp, PTs (hV X scope z C fr s H pins fp) ifs tc) (he : ∀ C s H pins fp, PE (hV X scope z C fr s H pins fp) elt te)
    (hix : idx.length = fr.length := by rfl) (hat : ∀ (k : Nat) (x : Str) (j : Nat), fr[k]? = some x -> idx[k]? = some j -> X.N[j]? = some x)
    (hs : ∀ x, foldedSetIterable iter X.env x = pure x := by intro _; rfl) (hf : X.fn y = true \/ X.env.scope.names.lookup y = some .local := by first | exact .inl rfl | exact .inr rfl)
    (hsw : swapsWith (.ListComp elt [⟨tg, iter, ifs, 0⟩] scope pos) (some (.Name y py)) spos.line X.env = pure true := by rfl) : PS X (.Assign [.Name y py] (.ListComp elt [⟨tg, iter, ifs, 0⟩] scope pos) spos) (zkl (yB wi 1 idx g tc te) (aZ i)) := by
  intro pins s σ H Dn I h
  rw [exec_Assign_Name_used _ _ _ _ hsw]
  refine wpAny_bind (wpAny_standAt (wpAny_bind ?_))
  show wpAny _ X.A (do let _ <- comprehension (.ListComp elt [⟨tg, iter, ifs, 0⟩] scope pos) scope X.env _ (newList []) false (eval iter X.env) (some (assign (.Name y py) X.env))) _ _ s
  have mT : closureFor scope X.env = pure (cL X.env scope.names []) := kM fun x hx eO => I.ok.has x.1 (S.outs x hx eO)
  refine wpAny_bind (wpAny_mono (wpAny_comprehension_free (use := some (assign (.Name y py) X.env)) (Q := fun _ s' => SP X pins Dn .next s') rfl hs mT S.kind S.names (thn (hi pins s σ H _ I h) fun v s1 h1 => thn h1 fun itv s2 h2 => ?_)) (fun _ s' hq => wpAny_pure (wpAny_pure hq)) fun _ _ e => e)
  obtain ⟨it, fp, tn, J, H2, e, I2, T, st2, f2, h2⟩ := h2
  subst e
  refine wpAny_newObj_type ?_
  obtain ⟨W, ⟨m0, w0⟩, turn⟩ := h2 s2.heap.objs.size I2.fresh
  have I3 : Inv X pins σ (upd H2 s2.heap.objs.size (.lst [])) { s2 with heap := s2.heap.push { cls := .type "list", data := .seq ([] : List Value).toArray }, toks := s2.toks } := I2.lnew .nil (Nat.zero_le _)
  have fpl : ∀ b ∈ fp, b < s2.heap.objs.size := fun b hb => by
    obtain ⟨o, e, _⟩ := T.obj _ _ st2 b hb
    exact Heap.lt_size e
  have f3 : ∀ b ∈ fp, jK X pins (upd H2 s2.heap.objs.size (.lst [])) b := fun b hb => ⟨by rw [aH (Nat.ne_of_lt (fpl b hb))]; exact (f2 b hb).1, (f2 b hb).2⟩
  generalize hs3 : ({ s2 with heap := s2.heap.push { cls := .type "list", data := .seq ([] : List Value).toArray }, toks := s2.toks } : Shared) = s3 at I3
  have hsz : s3.heap.objs.size = s2.heap.objs.size + 1 := by rw [<- hs3]; exact Heap.size_push _ _
  have st3 : tn 0 s3.heap := T.keep _ _ _ st2 fun b hb o e => by rw [<- hs3]; exact Heap.get?_push_of_some _ e
  refine zeL S.c1 S.p1 ?_
  have zpu : (s3.heap.push { cls := .type "dict", data := .dict #[] }).objs.size = s3.heap.objs.size + 1 := Heap.size_push _ _
  have hn4 : ((s3.heap.push { cls := .type "dict", data := .dict #[] }).push { cls := .type "cell", data := .cell none }).Ns s3.heap.objs.size (fun _ => none) := (Heap.Ns.new s3.heap (.type "dict")).keeps fun b o e => Heap.get?_push_of_some _ e
  have hc4 : ((s3.heap.push { cls := .type "dict", data := .dict #[] }).push { cls := .type "cell", data := .cell none }).IsCell (s3.heap.objs.size + 1) none := ⟨_, by rw [<- zpu]; exact Heap.get?_push_size _ rfl, rfl⟩
  have hk4 : ∀ b o, s3.heap.get? b = some o -> ((s3.heap.push { cls := .type "dict", data := .dict #[] }).push { cls := .type "cell", data := .cell none }).get? b = some o := fun b o e => Heap.get?_push_of_some _ (Heap.get?_push_of_some _ e)
  generalize (s3.heap.push { cls := .type "dict", data := .dict #[] }).push { cls := .type "cell", data := .cell none } = h4 at hn4 hc4 hk4 ⊢
  have I4 := sS (idx := idx) (tk := s3.toks) S hix hat I3 f3 (fun b hb => by rw [hsz]; exact Nat.lt_succ_of_lt (fpl b hb)) hn4 hc4 hk4
  have fpC : ∀ {H' : Hp} (pl : List (Addr × Obj)), (∀ p ∈ pl, ∀ b ∈ fp, p.1 ≠ b) -> (∀ b ∈ fp, H' b = none) -> ∀ b ∈ fp, jK (hV X scope z s3.heap.objs.size fr s3 (upd H2 s2.heap.objs.size (.lst [])) pins fp) pl H' b := fun {H'} pl hpl hn b hb => by
    obtain ⟨g0, g1, g2, g3, g4, g5⟩ := f3 b hb
    refine ⟨hn b hb, ?_, fun z => ?_, .inl hb, fun x c e => ?_, fun p hp => ?_⟩
    . show b ≠ s3.heap.objs.size
      exact Nat.ne_of_lt (by rw [hsz]; exact Nat.lt_succ_of_lt (fpl b hb))
    . rcases List.mem_cons.mp (I3.stkSub b z) with q | q
      . exact g1 q
      . exact g2 q
    . rcases rP e with ⟨_, a2⟩ | ⟨_, a2⟩
      . rw [a2]
        exact Nat.ne_of_gt (Nat.lt_succ_of_lt (hsz.symm ▸ Nat.lt_succ_of_lt (fpl b hb)))
      . exact g4 x c ((dS _ _ x c a2).elim id fun z => nomatch z)
    . rcases List.mem_append.mp hp with q | q
      . exact g5 p q
      . exact hpl p q b hb
  have loop : codeAny (model X.prog X.w) X.A (.compLoop (.ListComp elt [⟨tg, iter, ifs, 0⟩] scope pos) 0 (.ref it) (.ref s2.heap.objs.size) (compEnvC scope ((z, s3.heap.objs.size + 1) :: cL X.env scope.names []) s3.heap.objs.size X.env))
      (compPost (model X.prog X.w) X.A X.xe (some (assign (.Name y py) X.env)) (fun _ s' => SP X pins Dn .next s') (.ref s2.heap.objs.size) s3.heap.objs.size) { s3 with heap := h4 } := by
    refine lH (Y := hV X scope z s3.heap.objs.size fr s3 (upd H2 s2.heap.objs.size (.lst [])) pins fp) (W := W) (m0 := m0) hc (hg _ _ _ _ _) (ht _ _ _ _ _) (he _ _ _ _ _) (fun _ _ z => z) T (fun hn => fpC [] (fun _ z => nomatch z) hn) turn (fun s6 σ5 H5 I6 q => ?_) ⟨0, [], _, _, I4, T.keep _ _ _ st3 fun b _ o e => hk4 b o e, fun b hb => (f3 b hb).1, aB, w0⟩
    obtain ⟨m6, hn6, _⟩ := id I6.loc
    have hn6' : s6.heap.Ns s3.heap.objs.size m6 := hn6
    obtain ⟨oC, es, ep, hoC, hrest⟩ := id hn6'
    have I7 : Inv X pins σ H5 s6 := vL (h' := s6.heap) I3 f3 I6 (Heap.SameBut.refl ..)
    have eO : H5 s3.heap.objs.size = none := I6.free
    have I8 : Inv X (pins ++ [(s3.heap.objs.size, oC)]) σ H5 s6 := I7.pins_of fun p hp => (List.mem_append.mp hp).elim (fun z => I7.pin p (List.mem_append_right _ z)) fun z => by
      have e : p = (s3.heap.objs.size, oC) := List.mem_singleton.mp z
      subst e
      exact ⟨hoC, eO, Nat.ne_of_gt I3.lt, I3.nofs (Nat.le_refl _), fun v ev => lR hn6' hoC v ev⟩
    refine thn (aO (pos := py) hN hiy hly hf _ s6 σ H5 (.ref s2.heap.objs.size) (.ref s2.heap.objs.size) _ I8 rfl q) fun _ s9 zz => ?_
    obtain ⟨σ9, H9, I9, q9⟩ := zz
    have hp9 := I9.pin (s3.heap.objs.size, oC) (List.mem_append_right _ (List.mem_append_right _ (List.mem_singleton.mpr rfl)))
    refine ⟨m6, hn6'.at' fun o e => ?_, fun h' hsb => ?_⟩
    . rw [hoC] at e
      cases e
      exact hp9.1
    . refine ⟨σ9, H9, I9.unpinned.turnedL (ch := [s3.heap.objs.size]) (t' := s9.toks) (fun b hb => ?_) fun b ob hb e => ?_, q9⟩
      . rw [List.mem_singleton.mp hb]
        exact I3.fpOk (Nat.le_refl _) hp9.2.1
      . exact hsb.extBut b ob (fun z => hb (List.mem_singleton.mpr z)) e
  exact codeAny_compStart_list loop (T.self _ 0 _ _ _ (T.keep _ _ _ st3 fun b _ o e => hk4 b o e) loop)
end
theorem b8 {t1 t2 : TS} {D : iC} {σ : St} {H : Hp} (h : let D0 : iC := D; let σ0 : St := σ; let U2 : TS := t2; dF t1 U2 D0 σ0 H) : (dF t1 t2) D σ H := h
theorem sX {t1 t2 t3 : TS} {D : iC} {σ : St} {H : Hp} (h : let D0 : iC := D; let σ0 : St := σ; let U3 : TS := t3; let U2 : TS := dF t2 U3; dF t1 U2 D0 σ0 H) : (dF t1 (dF t2 t3)) D σ H := h
theorem i7 {t1 t2 t3 t4 : TS} {D : iC} {σ : St} {H : Hp} (h : let D0 : iC := D; let σ0 : St := σ; let U4 : TS := t4; let U3 : TS := dF t3 U4; let U2 : TS := dF t2 U3; dF t1 U2 D0 σ0 H) : (dF t1 (dF t2 (dF t3 t4))) D σ H := h
theorem zjY {t1 t2 t3 t4 t5 : TS} {D : iC} {σ : St} {H : Hp} (h : let D0 : iC := D; let σ0 : St := σ; let U5 : TS := t5; let U4 : TS := dF t4 U5; let U3 : TS := dF t3 U4; let U2 : TS := dF t2 U3; dF t1 U2 D0 σ0 H) : (dF t1 (dF t2 (dF t3 (dF t4 t5)))) D σ H := h
theorem zbp {t1 t2 t3 t4 t5 t6 : TS} {D : iC} {σ : St} {H : Hp} (h : let D0 : iC := D; let σ0 : St := σ; let U6 : TS := t6; let U5 : TS := dF t5 U6; let U4 : TS := dF t4 U5; let U3 : TS := dF t3 U4; let U2 : TS := dF t2 U3; dF t1 U2 D0 σ0 H) : (dF t1 (dF t2 (dF t3 (dF t4 (dF t5 t6))))) D σ H := h
theorem zmE {t1 t2 t3 t4 t5 t6 t7 : TS} {D : iC} {σ : St} {H : Hp} (h : let D0 : iC := D; let σ0 : St := σ; let U7 : TS := t7; let U6 : TS := dF t6 U7; let U5 : TS := dF t5 U6; let U4 : TS := dF t4 U5; let U3 : TS := dF t3 U4; let U2 : TS := dF t2 U3; dF t1 U2 D0 σ0 H) : (dF t1 (dF t2 (dF t3 (dF t4 (dF t5 (dF t6 t7)))))) D σ H := h
theorem zjb {t1 t2 t3 t4 t5 t6 t7 t8 : TS} {D : iC} {σ : St} {H : Hp} (h : let D0 : iC := D; let σ0 : St := σ; let U8 : TS := t8; let U7 : TS := dF t7 U8; let U6 : TS := dF t6 U7; let U5 : TS := dF t5 U6; let U4 : TS := dF t4 U5; let U3 : TS := dF t3 U4; let U2 : TS := dF t2 U3; dF t1 U2 D0 σ0 H) : (dF t1 (dF t2 (dF t3 (dF t4 (dF t5 (dF t6 (dF t7 t8))))))) D σ H := h
theorem zoE {t1 t2 : TS} {D : iC} {σ : St} {H : Hp} {i : Nat} {v : V} (h : let D0 : iC := D; let σ0 : St := σ.set i (some v); let U2 : TS := t2; dF t1 U2 D0 σ0 H) : aZ i v σ H fun σ2 H2 => (dF t1 t2) D σ2 H2 := h
theorem zjF {t1 t2 t3 : TS} {D : iC} {σ : St} {H : Hp} {i : Nat} {v : V} (h : let D0 : iC := D; let σ0 : St := σ.set i (some v); let U3 : TS := t3; let U2 : TS := dF t2 U3; dF t1 U2 D0 σ0 H) : aZ i v σ H fun σ2 H2 => (dF t1 (dF t2 t3)) D σ2 H2 := h
theorem znG {t1 t2 t3 t4 t5 t6 : TS} {D : iC} {σ : St} {H : Hp} {i : Nat} {v : V} (h : let D0 : iC := D; let σ0 : St := σ.set i (some v); let U6 : TS := t6; let U5 : TS := dF t5 U6; let U4 : TS := dF t4 U5; let U3 : TS := dF t3 U4; let U2 : TS := dF t2 U3; dF t1 U2 D0 σ0 H) : aZ i v σ H fun σ2 H2 => (dF t1 (dF t2 (dF t3 (dF t4 (dF t5 t6))))) D σ2 H2 := h
end L2
namespace KKM
theorem nodup_map_on {α β : Type} {f : α -> β} {l : List α} (hf : ∀ a ∈ l, ∀ b ∈ l, f a = f b -> a = b) (h : l.Nodup) : (l.map f).Nodup := by
  unfold List.Nodup at h ⊢
  rw [List.pairwise_map]
  exact List.Pairwise.imp_of_mem (fun {a b} ha hb hab e => hab (hf a ha b hb e)) h
theorem kW {α : Type} {p : α -> Bool} {l : List α} (h : l.Nodup) : (l.filter p).Nodup := h.sublist List.filter_sublist
theorem bN {α : Type} {l : List α} {i : Nat} {x : α} (h : l[i]? = some x) : l.take (i + 1) = l.take i ++ [x] := by
  rw [List.take_add_one, h]; rfl
theorem jE {α : Type} {p : α -> Bool} {l : List α} {x : α} : (l ++ [x]).filter p = if p x = true then l.filter p ++ [x] else l.filter p := by
  rw [List.filter_append]
  by_cases h : p x = true <;> simp [h]
theorem bU {α : Type} {l : List α} {i : Nat} {x y : α} (h : l[i]? = some x) : y ∈ l.take (i + 1) ↔ y ∈ l.take i \/ y = x := by
  rw [bN h, List.mem_append, List.mem_singleton]
theorem fV {α : Type} : ∀ {l : List α} {i : Nat} {x : α}, l.Nodup -> l[i]? = some x -> x ∉ l.take i
  | _ :: _, 0, _, _, _ => by simp
  | y :: r, i + 1, x, h, e => by
    rw [List.nodup_cons] at h
    have e' : r[i]? = some x := by simpa using e
    rw [List.take_succ_cons, List.mem_cons, not_or]
    exact ⟨fun z => h.1 (z ▸ List.mem_of_getElem? e'), fV h.2 e'⟩
end KKM
namespace KK
open PySem L2
def top (i : Nat) : Stmt := PySem.Challenge.pw_meetdesks_k14_what_is_known.main.body.getD i (.Pass ⟨0, 0, 0, 0⟩)
abbrev wP : Stmt := top 17
abbrev wS : Stmt := top 18
abbrev xL : Stmt := top 19
abbrev jB : Stmt := top 20
def aY (H : Hp) (a : Addr) : Prop := ∃ x y z : Int, H a = some (.lst [.int x, .int y, .int z]) /\ 0 <= z /\ z < 1099511627776
def Ext (a : Addr) (H H' : Hp) : Prop := ∀ b o, b ≠ a -> H b = some o -> H' b = some o
theorem Ext.trans {a : Addr} {H H1 H2 : Hp} (x : Ext a H H1) (y : Ext a H1 H2) : Ext a H H2 := fun b o n h => y b o n (x b o n h)
theorem Ext.own {a : Addr} {H : Hp} {o : HO} : Ext a H (upd H a o) := fun b u n h => by rw [aH n]; exact h
theorem Ext.new {a p : Addr} {H : Hp} {o : HO} (h : H p = none) : Ext a H (upd H p o) := fun b u _ q => by rw [aH (aF q h)]; exact q
theorem aY.some {H : Hp} {a : Addr} (f : aY H a) : ∃ o, H a = Option.some o := let ⟨_, _, _, h, _⟩ := f; ⟨_, h⟩
theorem aY.new {a p : Addr} {H : Hp} {o : HO} (f : aY H a) (h : H p = none) : aY (upd H p o) a := by
  obtain ⟨x, y, z, e, r⟩ := f
  exact ⟨x, y, z, by rw [aH (aF e h)]; exact e, r⟩
theorem aY.set {a p : Addr} {H : Hp} {o : HO} (f : aY H a) (h : a ≠ p) : aY (upd H p o) a := by
  obtain ⟨x, y, z, e, r⟩ := f
  exact ⟨x, y, z, by rw [aH h]; exact e, r⟩
def fW : Sp := fun vs H Q _ => ∃ (a : Addr) (m : Int), vs = [.ref a, .int m] /\ aY H a /\ 0 < m /\ m <= 100000000000000000000 /\ ∀ (r : Int) (H' : Hp), 0 <= r -> r < m -> aY H' a -> Ext a H H' -> Q (.int r) H'
def zbP (K : W.Frag) : Sp := fun vs H Q _ => ∃ (a : Addr) (ns : List Int) (k : Int), vs = [.ref a, .int k] /\ SqL K H a (ns.map V.int) /\ ns.length <= 63 /\ 0 <= k /\ k <= 100 /\ ∀ r : Int, Q (.int r) H
def zbC (K : W.Frag) : Sp := fun vs H Q _ => ∃ (a : Addr) (ns : List Int) (k : Int), vs = [.ref a, .int k] /\ SqL K H a (ns.map V.int) /\ ns.length <= 63 /\ 0 <= k /\ k <= 100 /\ ∀ (p : Addr) (o : HO), H p = none -> aY (upd H p o) p -> Q (.ref p) (upd H p o)
section
variable {P : Program} {w : World} {K : W.Frag} {mg : Str -> Option Value} {base : Heap} {f g : Addr} {fd gd : FuncData} {k : Nat}
theorem zcd : bE ["_law_flow_here", "_law_many", "_law_digit", "_law_number"] ["_law_flow_here", "_law_many"] (aD xL) := ⟨rfl, rfl, rfl, by decide +kernel, rfl, by decide +kernel, by decide +kernel⟩
theorem jW {n : Nat} (h : n <= 1000) : n <= sizeLine := Nat.le_of_lt (qW h)
theorem zcU (F : Fun K "_law_draw" "_law_draw" xL f fd) : FnOk P w K mg base CX0 (k + 1) f fd ["_law_flow_here", "_law_many"] fW := by
  refine F.ok zcd (fun vs H Q E h => ?_) (fun cdv A outer s H vs Q E hr h => ?_)
  . obtain ⟨a, m, rfl, _⟩ := h
    rfl
  obtain ⟨a, m, rfl, ⟨x, y, z, e, hz0, hz1⟩, m0, m1, q⟩ := h
  have nd := zcd.nd
  refine ⟨_, aG (eG (bW zjr (dZ bQ (pv 0) aI (fun _ _ => rfl)) aI (eP _))
      (aG (aS (i := 2) nd rfl (Or.inl rfl) (aW gN (dZ bQ (pv 0) aI (fun _ _ => rfl)) (pv 1)))
      (aG (qD (aW uG (dZ bQ (pv 0) aI (fun _ _ => rfl)) (pv 1)) (o6 (pv 0) aI oN)) (aJ (bK (pv 2))))) bM) (aG (qD (aW cO (dZ bQ (pv 0) aI (fun _ _ => rfl)) aI) (o6 (pv 0) aI oN)) (aG (aS (i := 3) nd rfl (Or.inl rfl) (aW gN (aW cO (aW cO (aW iB (dZ bQ (pv 0) aI (fun _ _ => rfl)) (aW cO aI (aW iB aI (dZ bQ (pv 0) aI (fun _ _ => rfl))))) (aW iB aI (dZ bQ (pv 0) aI (fun _ _ => rfl)))) aI) aI)) (aG (aS (i := 3) nd rfl (Or.inl rfl) (aW gN (aW iB (pv 3) (pv 3)) aI)) (aJ (bK (aW gN (aW uG (aW gN (aW iB (aW cO (pv 3) aI) (aW cO (pv 3) aI)) aI) aI) (pv 1))))))), ?_⟩
  refine ⟨_, rfl, a, _, _, _, rfl, rfl, SqL.of e, rfl, _, _, rfl, rfl, _, rfl, ?_⟩
  refine pR (fun c => ?_) (fun c => ?_)
  . refine ⟨_, rfl, a, _, _, _, rfl, rfl, SqL.of e, rfl, _, rfl, _, _, rfl, rfl, m0, ?_⟩
    refine ⟨_, rfl, a, _, _, _, rfl, rfl, SqL.of e, rfl, _, rfl, _, _, rfl, rfl, ⟨m0, Int.le_trans m1 (by decide)⟩, _, rfl, a, _, _, _, rfl, rfl, e, rfl, ?_⟩
    refine ⟨_, rfl, q _ _ (Int.emod_nonneg _ (by omega)) (Int.emod_lt_of_pos _ m0) ⟨_, _, _, aB, hz0, hz1⟩ Ext.own⟩
  . refine ⟨_, rfl, a, _, _, _, rfl, rfl, SqL.of e, rfl, _, _, rfl, rfl, _, rfl, a, _, _, _, rfl, rfl, e, rfl, ?_⟩
    have e2 : upd H a (.lst [.int x, .int (y + 1), .int z]) a = some (.lst [.int x, .int (y + 1), .int z]) := aB
    refine ⟨_, rfl, a, _, _, _, rfl, rfl, SqL.of e2, rfl, _, rfl, a, _, _, _, rfl, rfl, SqL.of e2, rfl, _, _, rfl, rfl, .inl ⟨by decide, by decide⟩, _, _, rfl, rfl, _, _, rfl, rfl, .inl ⟨by omega, by omega⟩, _, rfl, a, _, _, _, rfl, rfl, SqL.of e2, rfl, _, _, rfl, rfl, .inl ⟨by decide, by decide⟩, _, _, rfl, rfl, _, _, rfl, rfl, _, _, rfl, rfl, (show (0 : Int) < 2147483629 by decide), ?_⟩
    have b1 := Int.emod_nonneg (z * (48271 + 2 * (y + 1)) + 7919 * (y + 1) + 1) (show (2147483629 : Int) ≠ 0 by decide)
    have b2 := Int.emod_lt_of_pos (z * (48271 + 2 * (y + 1)) + 7919 * (y + 1) + 1) (show (0 : Int) < 2147483629 by decide)
    generalize (z * (48271 + 2 * (y + 1)) + 7919 * (y + 1) + 1) % 2147483629 = n1 at b1 b2 ⊢
    refine ⟨_, rfl, _, rfl, _, _, rfl, rfl, .inl ⟨by omega, by omega⟩, _, _, rfl, rfl, (show (0 : Int) < 2147483587 by decide), ?_⟩
    have b3 := Int.emod_nonneg (n1 * n1) (show (2147483587 : Int) ≠ 0 by decide)
    have b4 := Int.emod_lt_of_pos (n1 * n1) (show (0 : Int) < 2147483587 by decide)
    generalize n1 * n1 % 2147483587 = n2 at b3 b4 ⊢
    refine ⟨_, rfl, _, _, rfl, rfl, _, rfl, _, _, rfl, rfl, _, _, rfl, rfl, .inl ⟨by omega, by omega⟩, _, _, rfl, rfl, (show (0 : Int) < 2147483579 by decide), _, _, rfl, rfl, ⟨by decide, by decide⟩, _, rfl, _, _, rfl, rfl, m0, ?_⟩
    exact q _ _ (Int.emod_nonneg _ (by omega)) (Int.emod_lt_of_pos _ m0) ⟨_, _, _, e2, hz0, hz1⟩ Ext.own
theorem zbW : bE ["_law_script", "_law_k", "_law_number"] ["_law_script", "_law_k"] (aD wP) := ⟨rfl, rfl, rfl, by decide +kernel, rfl, by decide +kernel, by decide +kernel⟩
theorem zkP {ns : List Int} {k : Int} (h0 : 0 <= k) (h1 : k < (ns.length : Int)) : ∃ v : Int, atI (ns.map V.int) k = some (.int v) := by
  have hk : k.toNat < ns.length := by omega
  have ek : k = ((k.toNat : Nat) : Int) := by omega
  refine ⟨ns[k.toNat], ?_⟩
  have q : atI (ns.map V.int) ((k.toNat : Nat) : Int) = some (.int ns[k.toNat]) := bV (by rw [List.getElem?_map, List.getElem?_eq_getElem hk]; rfl)
  rw [<- ek] at q
  exact q
theorem zdp (F : Fun K "_law_cell" "_law_cell" wP f fd) (ml : mg "len" = none) : FnOk P w K mg base CX0 (k + 1) f fd ["_law_script", "_law_k"] (zbP K) := by
  refine F.ok zbW (fun vs H Q E h => ?_) (fun cdv A outer s H vs Q E hr h => ?_)
  . obtain ⟨a, ns, i, rfl, _⟩ := h
    rfl
  obtain ⟨a, ns, i, rfl, hS, h63, i0, i1, q⟩ := h
  have nd := zbW.nd
  have hl : (ns.map V.int).length = ns.length := List.length_map _
  refine ⟨_, aG (eG (bW znx (pv 1) (aT bL rfl ml PySem.boot_len (aA (pv 0) aE)) (eP _)) (aJ (bK (dZ bQ (pv 0) (pv 1) (fun _ _ => rfl)))) bM) (aG (aS (i := 2) nd rfl (Or.inl rfl) (aW cO (aW iB (pv 1) aI) aI)) (aG (eG (bW zjr (aT bL rfl ml PySem.boot_len (aA (pv 0) aE)) aI (eP _))
      (aJ (aS (i := 2) nd rfl (Or.inl rfl) (aW cO (aW iB (aW gN (dZ bQ (pv 0) (aW gN (aW iB (pv 1) aI) (aT bL rfl ml PySem.boot_len (aA (pv 0) aE))) (fun _ _ => rfl)) aI) aI) (aW iB (pv 1) aI)))) bM) (aJ (bK (aW iB (aW gN (pv 2) aI) aI))))), ?_⟩
  have fin : ∀ n : Int, (fun (v : V) H1 => Q v H1) (.int (n % 2147483647 * 31)) H := fun n => q _
  have mulok : ∀ n : Int, zin (n % 2147483647) 31 := fun n => by
    have b1 := Int.emod_nonneg n (show (2147483647 : Int) ≠ 0 by decide)
    have b2 := Int.emod_lt_of_pos n (show (0 : Int) < 2147483647 by decide)
    exact .inl ⟨by omega, by omega⟩
  refine ⟨_, rfl, _, rfl, a, _, rfl, .inl hS, _, _, rfl, rfl, _, rfl, ?_⟩
  rw [hl]
  refine pR (fun c => ?_) (fun c => ?_)
  . have c' : i < (ns.length : Int) := of_decide_eq_true c
    obtain ⟨v, hv⟩ := zkP (ns := ns) i0 c'
    exact ⟨_, rfl, _, rfl, a, _, _, _, rfl, rfl, hS, hv, q v⟩
  . refine ⟨_, rfl, _, _, rfl, rfl, .inl ⟨by omega, by omega⟩, _, _, rfl, rfl, ?_⟩
    refine ⟨_, rfl, a, _, rfl, .inl hS, _, _, rfl, rfl, _, rfl, ?_⟩
    rw [hl]
    refine pR (fun c2 => ?_) (fun c2 => ?_)
    . have c' : 0 < (ns.length : Int) := of_decide_eq_true c2
      have b1 := Int.emod_nonneg (i * 7) (show (ns.length : Int) ≠ 0 by omega)
      have b2 := Int.emod_lt_of_pos (i * 7) c'
      obtain ⟨v, hv⟩ := zkP (ns := ns) b1 b2
      have b3 := Int.emod_nonneg v (show (2147483629 : Int) ≠ 0 by decide)
      have b4 := Int.emod_lt_of_pos v (show (0 : Int) < 2147483629 by decide)
      refine ⟨_, rfl, _, rfl, _, _, rfl, rfl, .inl ⟨by omega, by omega⟩, _, rfl, a, _, rfl, .inl hS, _, _, rfl, rfl, by rw [hl]; exact c', a, _, _, _, rfl, rfl, hS, by rw [hl]; exact hv, _, _, rfl, rfl, (show (0 : Int) < 2147483629 by decide), _, _, rfl, rfl, .inl ⟨by omega, by omega⟩, _, rfl, _, _, rfl, rfl, .inl ⟨by omega, by omega⟩, _, _, rfl, rfl, ?_⟩
      exact ⟨_, rfl, _, _, rfl, rfl, (show (0 : Int) < 2147483647 by decide), _, _, rfl, rfl, mulok _, q _⟩
    . exact ⟨_, rfl, _, _, rfl, rfl, (show (0 : Int) < 2147483647 by decide), _, _, rfl, rfl, mulok _, q _⟩
theorem zcx : bE ["_law_script", "_law_k", "_law_cell_here", "_law_own"] ["_law_script", "_law_k"] (aD wS) := ⟨rfl, rfl, rfl, by decide +kernel, rfl, by decide +kernel, by decide +kernel⟩
theorem zeA (F : Fun K "_law_flow" "_law_flow" wS f fd) (G : FnOk P w K mg base CX0 k g gd ["_law_script", "_law_k"] (zbP K)) (bG : gI K gd ["_law_script", "_law_k"] []) (kG : W.keepIn K (.ref g) = true) (mG : mg "_law_cell" = some (.ref g)) :
    FnOk P w K mg base CX0 (k + 1) f fd ["_law_script", "_law_k"] (zbC K) := by
  refine F.ok zcx (fun vs H Q E h => ?_) (fun cdv A outer s H vs Q E hr h => ?_)
  . obtain ⟨a, ns, i, rfl, _⟩ := h
    rfl
  obtain ⟨a, ns, i, rfl, hS, h63, i0, i1, q⟩ := h
  have nd := zcx.nd
  refine ⟨_, aG (aS (i := 2) nd rfl (Or.inl rfl) (aL G hr rfl mG kG bG .nil bF (aA (pv 0) (aA (pv 1) aE)))) (aG (aS (i := 3) nd rfl (Or.inl rfl) aI) (aG (eG (bW znF (pv 2) (aW zha aI aI) (eP _)) (aJ (aS (i := 3) nd rfl (Or.inl rfl) (pv 2))) bM) (aJ (bK (dP (aA (pv 3) (aA aI (aA (aW cO (aW gN (pv 2) aI) (aW iB aI (pv 1))) aE)))))))), ?_⟩
  refine ⟨_, rfl, _, rfl, a, ns, i, rfl, hS, h63, i0, i1, fun r => ?_⟩
  have b3 := Int.emod_nonneg r (show (2147483629 : Int) ≠ 0 by decide)
  have b4 := Int.emod_lt_of_pos r (show (0 : Int) < 2147483629 by decide)
  refine ⟨_, rfl, _, _, rfl, rfl, ⟨by decide, by decide, by decide⟩, _, _, rfl, rfl, _, rfl, ?_⟩
  have fin : ∀ (own : Int) (p : Addr), H p = none -> Q (.ref p) (upd H p (.lst [.int own, .int 0, .int (r % 2147483629 + 40692 * i)])) := fun own p hp => q p _ hp ⟨_, _, _, aB, by omega, by omega⟩
  refine pR (fun c => ?_) (fun c => ?_)
  . refine ⟨_, rfl, _, rfl, _, rfl, _, _, rfl, rfl, (show (0 : Int) < 2147483629 by decide), _, rfl, _, _, rfl, rfl, .inl ⟨by decide, by decide⟩, _, _, rfl, rfl, jW (show 3 <= 1000 by decide), fun p hp => fin _ p hp⟩
  . refine ⟨_, rfl, _, rfl, _, _, rfl, rfl, (show (0 : Int) < 2147483629 by decide), _, rfl, _, _, rfl, rfl, .inl ⟨by decide, by decide⟩, _, _, rfl, rfl, jW (show 3 <= 1000 by decide), fun p hp => fin _ p hp⟩
end
end KK
namespace L2
theorem cV {N fr : List PySem.Str} {idx : List Nat} (h : idx.map (fun j => N[j]?) = fr.map some) : ∀ (k : Nat) (x : PySem.Str) (j : Nat), fr[k]? = some x -> idx[k]? = some j -> N[j]? = some x := fun k x j h1 h2 => by
  have e : (idx.map fun j => N[j]?)[k]? = (fr.map some)[k]? := by rw [h]
  rw [List.getElem?_map, List.getElem?_map, h1, h2] at e
  exact Option.some.inj e
theorem pig {α : Type} [DecidableEq α] : ∀ (xs cs : List α), cs.Nodup -> xs.length < cs.length -> ∃ c, c ∈ cs /\ c ∉ xs
  | [], [], _, h => by simp at h
  | [], c :: r, _, _ => ⟨c, List.mem_cons_self, by simp⟩
  | x :: r, cs, hn, h => by
    have hl : r.length < (cs.erase x).length := by
      rw [List.length_erase]
      rw [List.length_cons] at h
      split <;> omega
    obtain ⟨c, h1, h2⟩ := pig r (cs.erase x) (hn.erase x) hl
    have h3 := hn.mem_erase_iff.mp h1
    exact ⟨c, h3.2, fun z => (List.mem_cons.mp z).elim h3.1 h2⟩
end L2
namespace KK
open PySem L2 PyProof.Rows
def abc : Str := "abcdefghijklmnopqrstuvwxyz"
theorem zhn {r : Int} (h0 : 0 <= r) (h1 : r < 26) : ∃ c, atI abc.cps.toList r = some c := by
  have hl : abc.cps.toList.length = 26 := by decide +kernel
  have hk : r.toNat < abc.cps.toList.length := by omega
  have ek : r = ((r.toNat : Nat) : Int) := by omega
  have q : atI abc.cps.toList ((r.toNat : Nat) : Int) = some (abc.cps.toList[r.toNat]) := bV (List.getElem?_eq_getElem hk)
  rw [<- ek] at q
  exact ⟨_, q⟩
theorem sJ : abc.length <= sizeLine := by rw [sizeLine_eq]; decide +kernel
def nC (ys : List Str) : Prop := ∀ y ∈ ys, y.length = 1
theorem nC.snoc {ys : List Str} (h : nC ys) {y : Str} (e : y.length = 1) : nC (ys ++ [y]) := fun z hz => (List.mem_append.mp hz).elim (h z) fun q => by rw [List.mem_singleton.mp q]; exact e
theorem qA : ∀ {ys : List Str}, nC ys -> (ys.map (·.length)).sum = ys.length
  | [], _ => rfl
  | y :: r, h => by
    have e1 := h y List.mem_cons_self
    have e2 := qA (ys := r) fun z hz => h z (List.mem_cons_of_mem _ hz)
    rw [List.map_cons, List.sum_cons, e2, e1, List.length_cons]
    omega
def Bd (ys : List Str) : Prop := ∀ y ∈ ys, 0 < y.length /\ y.length <= 200
abbrev zfM : TE := tOp zmJ (bD 2) (lV fW [] E0 (bS (bD 1) (bS (tC (.int 26)) iD)))
theorem dB {H : Hp} {a D : Addr} (hD : H D = none) (hF : aY H a) : D ≠ a := fun z => by
  obtain ⟨o, ho⟩ := hF.some
  rw [z, ho] at hD; cases hD
theorem zai {H H1 H4 : Hp} {a D : Addr} {o : HO} (hD : H D = none) (x : Ext a H H4) : Ext a H (upd H4 D o) := fun b u nb hb => by
  rw [aH (aF hb hD)]; exact x b u nb hb
theorem zA {n : Nat} {D a : Addr} {Q : VK} {H1 : Hp} (hn : n <= 8) (hD : H1 D = none) (hF : aY H1 a)
    (hd : ∀ (ys : List Str) (H' : Hp), ys.length = n -> nC ys -> aY H' a -> Ext a H1 H' -> H' D = some (.lst (ys.map V.str)) -> Q (.ref D) H') :
    bO (Itr 0 n) D (aZ 0) gG zfM Q [none, some (.ref a), some (.str abc)] H1 := by
  have nD := dB hD hF
  refine fN (fun i ys σ H => ∃ (xs : List Str) (v : Option V), ys = xs.map V.str /\ xs.length = i /\ nC xs /\ σ = [v, some (.ref a), some (.str abc)] /\ aY H a /\ Ext a H1 H) ?_ (by omega) ?_ ?_ ?_
  . exact ⟨[], none, rfl, rfl, (by intro _ z; cases z), rfl, hF.new hD, Ext.new hD⟩
  . rintro i ys σ H ⟨xs, v, rfl, rfl, _⟩
    rw [List.length_map]; exact Nat.le_refl _
  . rintro i ys σ H hi hl ⟨xs, v, rfl, rfl, hs, rfl, f, x⟩
    refine ⟨_, rfl, _, rfl, a, 26, rfl, f, by decide, by decide, fun r H4 r0 r1 f4 x4 => ?_⟩
    obtain ⟨c, hc⟩ := zhn r0 r1
    have hl4 : H4 D = some (.lst (xs.map V.str)) := x4 D _ nD hl
    refine ⟨abc, r, c, rfl, rfl, sJ, hc, hl4, xs ++ [⟨#[c]⟩], _, by rw [List.map_append]; rfl, by rw [List.length_append]; rfl, hs.snoc rfl, rfl, f4.set (Ne.symm nD), zai (H1 := H1) hD (x.trans x4)⟩
  . rintro ys σ H hl ⟨xs, v, rfl, e, hs, _, f, x⟩
    exact hd xs H e hs f x hl
def zcr (ys : List Str) : Str := Txt.join "" ys
theorem tX {ys : List Str} (h : nC ys) (hl : ys.length <= 8) : (zcr ys).length <= 68 /\ (ys.map (·.length)).sum + ys.length * (Str.length "") <= 16777216 := by
  have e := qA h
  refine ⟨?_, ?_⟩
  . have q := len_join_le (sep := "") (ys := ys) (n := 16) (by unfold Weighs; omega) (by decide)
    exact Nat.le_trans q (by decide)
  . have e0 : Str.length "" = 0 := by decide
    rw [e, e0]; omega
theorem j7 (g : Str) : ∀ (l : List Str) (acc : Array Nat), acc.size <= (l.foldl (fun acc p => acc ++ g.cps ++ p.cps) acc).size
  | [], acc => Nat.le_refl _
  | p :: r, acc => by rw [List.foldl_cons]; exact Nat.le_trans (by rw [Array.size_append, Array.size_append]; omega) (j7 g r _)
theorem zax {ys : List Str} (h : nC ys) (hne : ys ≠ []) : 0 < (zcr ys).length := by
  cases ys with
  | nil => exact absurd rfl hne
  | cons y r =>
    have e : y.cps.size = 1 := h y List.mem_cons_self
    have q := j7 "" r y.cps
    rw [e] at q
    exact q
def u9 : Sp := fun vs H Q _ => ∃ (a : Addr) (m : Int), vs = [.ref a, .int m] /\ aY H a /\ 1 <= m /\ m <= 6 /\ ∀ (r : Addr) (ys : List Str) (H' : Hp), (ys.length : Int) = m -> Bd ys -> ys.Nodup -> r ≠ a -> aY H' a -> Ext a H H' -> H' r = some (.lst (ys.map V.str)) -> Q (.ref r) H'
abbrev NN : List Str := ["_law_flow_here", "_law_many", "_law_some", "_law_found", "_law_k", "_law_name", "_law_word", "_law_at", "_law_first", "_law_long"]
theorem zB : bE NN ["_law_flow_here", "_law_many"] (aD jB) := ⟨rfl, rfl, rfl, by decide +kernel, rfl, by decide +kernel, by decide +kernel⟩
theorem fF (ys : List Str) : (ys.map V.str).all pK = true := by
  rw [List.all_map]; exact List.all_eq_true.mpr fun _ _ => rfl
theorem zeC {y : Str} {ys : List Str} (h : V.str y ∉ ys.map V.str) : inV (.str y) (ys.map V.str) = false := by
  unfold inV
  rw [List.any_eq_false]
  intro z hz
  obtain ⟨u, hu, rfl⟩ := List.mem_map.mp hz
  intro q
  have q' : (u == y) = true := q
  have e : u = y := by simpa using q'
  exact h (List.mem_map.mpr ⟨u, hu, by rw [e]⟩)
theorem Bd.snoc {ys : List Str} (h : Bd ys) {y : Str} (e : 0 < y.length /\ y.length <= 200) : Bd (ys ++ [y]) := fun z hz => (List.mem_append.mp hz).elim (h z) fun q => by rw [List.mem_singleton.mp q]; exact e
theorem Bd.set {ys : List Str} (h : Bd ys) {y : Str} (e : 0 < y.length /\ y.length <= 200) (i : Nat) : Bd (ys.set i y) := fun z hz => (List.mem_or_eq_of_mem_set hz).elim (h z) fun q => by rw [q]; exact e
theorem oX (x y : Str) : (x ++ y).length = x.length + y.length := by
  show (x.cps ++ y.cps).size = x.cps.size + y.cps.size
  simp
theorem cK : (1000 : Nat) <= sizeLine := by rw [sizeLine_eq]; decide
theorem yY {ys : List Str} (h : ys.length < 26) : ∃ (j : Nat) (c : Nat), j < 26 /\ abc.cps[j]? = some c /\ inV (.str ⟨#[c]⟩) (ys.map V.str) = false := by
  obtain ⟨v, h1, h2⟩ := pig (ys.map V.str) (abc.cps.toList.map fun c => V.str ⟨#[c]⟩) (by decide +kernel) (by rw [List.length_map, List.length_map]; exact Nat.lt_of_lt_of_le h (by decide +kernel))
  obtain ⟨c, hc, rfl⟩ := List.mem_map.mp h1
  obtain ⟨j, hj⟩ := List.getElem?_of_mem hc
  refine ⟨j, c, ?_, by simpa using hj, zeC h2⟩
  have := (List.getElem?_eq_some_iff.mp hj).1
  exact Nat.lt_of_lt_of_le this (by decide +kernel)
theorem zV {y : Str} {ys : List Str} : inV (.str y) (ys.map V.str) = true ↔ y ∈ ys := by
  unfold inV
  rw [List.any_map, List.any_eq_true]
  constructor
  . rintro ⟨x, hx, q⟩
    have q' : (x == y) = true := q
    have e : x = y := by simpa using q'
    rw [<- e]; exact hx
  . intro h
    exact ⟨y, h, show (y == y) = true by simp⟩
theorem eN {y : Str} {ys : List Str} : inV (.str y) (ys.map V.str) = false ↔ y ∉ ys := by
  rw [<- zV]; simp
theorem xN {α : Type} {ys : List α} {y : α} (h : ys.Nodup) (n : y ∉ ys) : (ys ++ [y]).Nodup := by
  rw [List.nodup_append]
  refine ⟨h, (by simp), fun a ha b hb e => ?_⟩
  rw [List.mem_singleton.mp hb] at e
  rw [e] at ha
  exact n ha
theorem xP {us : List Str} {x : Str} (h : us.Nodup) (n : x ∉ us) : (us.set 0 x).Nodup := by
  cases us with
  | nil => exact h
  | cons u r =>
    rw [List.set_cons_zero]
    rw [List.nodup_cons] at h ⊢
    exact ⟨fun z => n (List.mem_cons_of_mem _ z), h.2⟩
theorem iJ {f : Nat -> Str} {n : Nat} (h : ∀ i j, i < j -> j < n -> f i ≠ f j) : ((List.range n).map f).Nodup := by
  unfold List.Nodup
  rw [List.pairwise_map]
  refine List.Pairwise.imp_of_mem (R := fun a b => a < b) (fun {a b} _ hb hab => ?_) List.pairwise_lt_range
  exact h a b hab (List.mem_range.mp hb)
def oQ (r : Int) : Nat := abc.cps.toList.getD r.toNat 0
theorem p9 {r : Int} (h0 : 0 <= r) (h1 : r < 26) : atI abc.cps.toList r = some (oQ r) := by
  have hl : abc.cps.toList.length = 26 := by decide +kernel
  have hk : r.toNat < abc.cps.toList.length := by omega
  have ek : r = ((r.toNat : Nat) : Int) := by omega
  have q : atI abc.cps.toList ((r.toNat : Nat) : Int) = some (oQ r) := bV (by unfold oQ; rw [List.getD_eq_getElem?_getD, List.getElem?_eq_getElem hk]; rfl)
  rw [<- ek] at q
  exact q
theorem uQ {r s : Int} (r0 : 0 <= r) (r1 : r < 26) (s0 : 0 <= s) (s1 : s < 26) (e : oQ r = oQ s) : r = s := by
  have hl : abc.cps.toList.length = 26 := by decide +kernel
  have nd : abc.cps.toList.Nodup := by decide +kernel
  have hr : r.toNat < abc.cps.toList.length := by omega
  have hs : s.toNat < abc.cps.toList.length := by omega
  unfold oQ at e
  rw [List.getD_eq_getElem?_getD, List.getD_eq_getElem?_getD, List.getElem?_eq_getElem hr, List.getElem?_eq_getElem hs] at e
  have := (List.getElem_inj nd).mp e
  omega
def zes (word : Str) (at' first : Int) (k : Nat) : Str := Txt.slice word none (some at') ++ ⟨#[oQ ((first + 7 * (0 + (k : Int))) % 26)]⟩ ++ Txt.slice word (some at') none
theorem zgK {word : Str} {at' first : Int} {i j : Nat} (h : i < j) (hj : j < 6) : zes word at' first i ≠ zes word at' first j := fun e => by
  have e1 : (zes word at' first i).cps.toList = (zes word at' first j).cps.toList := by rw [e]
  have q : ∀ k : Nat, (zes word at' first k).cps.toList = (Txt.slice word none (some at')).cps.toList ++ ([oQ ((first + 7 * (0 + (k : Int))) % 26)] ++ (Txt.slice word (some at') none).cps.toList) := fun k => by
    show ((Txt.slice word none (some at')).cps ++ #[oQ ((first + 7 * (0 + (k : Int))) % 26)] ++ (Txt.slice word (some at') none).cps).toList = _
    simp
  rw [q i, q j] at e1
  have e2 := List.append_cancel_right (List.append_cancel_left e1)
  have e3 : oQ ((first + 7 * (0 + (i : Int))) % 26) = oQ ((first + 7 * (0 + (j : Int))) % 26) := (List.cons.inj e2).1
  have e4 := uQ (by omega) (by omega) (by omega) (by omega) e3
  omega
theorem zal {word : Str} {at' first : Int} {n : Nat} (hn : n <= 6) : ((List.range n).map (zes word at' first)).Nodup := iJ fun i j h hj => zgK h (by omega)
end KK
namespace KK
open PySem L2 PyProof.Rows
section
variable {P : Program} {w : World} {K : W.Frag} {mg : Str -> Option Value} {base : Heap} {f g : Addr} {fd gd : FuncData} {k : Nat}
theorem zft {D q : Addr} {Q : VK} {H1 : Hp} {ys : List Str} (hy : ys.length < 26) (hD : H1 D = none) (hq : H1 q = some (.lst (ys.map V.str)))
    (hd : ∀ (zs : List Str), zs ≠ [] -> nC zs -> (∀ z ∈ zs, z ∉ ys) -> ∀ H', (∀ b o, H1 b = some o -> H' b = some o) -> H' D = some (.lst (zs.map V.str)) -> Q (.ref D) H') :
    bO (Its abc) D (aZ 0) (sU (tOp (rIn K true) (bD 0) (bD 1))) (bD 0) Q [none, some (.ref q)] H1 := by
  obtain ⟨j0, c0, hj, hc0, hin⟩ := yY hy
  have nqD : q ≠ D := aF hq hD
  refine zbn (fun i zs σ H => ∃ (xs : List Str) (v : Option V), zs = xs.map V.str /\ xs.length <= i /\ nC xs /\ σ = [v, some (.ref q)] /\ (∀ z ∈ xs, z ∉ ys) /\ (j0 < i -> xs ≠ []) /\ (∀ b o, H1 b = some o -> H b = some o)) ?_ (by decide +kernel) ?_ ?_ ?_
  . exact ⟨[], none, rfl, Nat.le_refl _, (by intro _ z; cases z), rfl, (by intro _ z; cases z), (by intro z; omega), fun b o h => by rw [aH (aF h hD)]; exact h⟩
  . rintro i zs σ H ⟨xs, v, rfl, h, _⟩
    rw [List.length_map]; exact h
  . rintro i c zs σ H hc hl ⟨xs, v, rfl, hle, hs, rfl, hnm, hne, hk⟩
    refine ⟨_, rfl, _, rfl, q, _, rfl, .inl (SqL.of (hk _ _ hq)), rfl, fF ys, _, rfl, ?_⟩
    refine pR (fun b => ?_) (fun b => ?_)
    . refine ⟨_, rfl, hl, xs ++ [⟨#[c]⟩], _, by rw [List.map_append]; rfl, by rw [List.length_append, List.length_singleton]; omega, hs.snoc rfl, rfl, fun z hz => ?_, fun _ z => ?_, fun b o h => ?_⟩
      . rcases List.mem_append.mp hz with hz | hz
        . exact hnm z hz
        . rw [List.mem_singleton.mp hz]
          have b2 : (!inV (.str ⟨#[c]⟩) (ys.map V.str)) = true := by simpa using b
          exact eN.mp (by simpa using b2)
      . have e := congrArg List.length z
        rw [List.length_append, List.length_singleton] at e
        simp at e
      . rw [aH (aF h hD)]; exact hk b o h
    . refine ⟨hl, xs, _, rfl, by omega, hs, rfl, hnm, fun h => ?_, hk⟩
      by_cases hi : j0 < i
      . exact hne hi
      . have e : i = j0 := by omega
        subst e
        have e2 : c = c0 := Option.some.inj (hc.symm.trans hc0)
        rw [<- e2] at hin
        exact absurd (show (if true = true then !inV (.str ⟨#[c]⟩) (ys.map V.str) else inV (.str ⟨#[c]⟩) (ys.map V.str)) = true by rw [if_pos rfl, hin]; rfl) b
  . rintro zs σ H hl ⟨xs, v, rfl, _, hs, _, hnm, hne, hk⟩
    exact hd xs (hne (Nat.lt_of_lt_of_le hj (by decide +kernel))) hs hnm H hk hl
theorem n8 (x : Str) (lo hi : Option Int) : (Txt.slice x lo hi).length <= x.length := Txt.slice_le x lo hi
theorem zkm {D : Addr} {Q : VK} {H1 : Hp} {word : Str} {at' first : Int} {n : Nat} (hw : word.length <= 68) (h0 : 0 <= first) (hn : n <= 6) (hD : H1 D = none)
    (hd : ∀ (zs : List Str) H', zs.length = n -> Bd zs -> zs.Nodup -> (∀ b o, H1 b = some o -> H' b = some o) -> H' D = some (.lst (zs.map V.str)) -> Q (.ref D) H') :
    bO (Itr 0 n) D (aZ 0) gG (tOp (fun x y H Q => ∃ i j, x = .str i /\ y = .str j /\ i.length + j.length <= sizeLine /\ Q (.str (i ++ j)) H)
      (tOp (fun x y H Q => ∃ i j, x = .str i /\ y = .str j /\ i.length + j.length <= sizeLine /\ Q (.str (i ++ j)) H) (tSl zmT (bD 1) kL (qI (bD 2)))
        (tOp zmJ (bD 3) (tOp (rI (fun _ j => 0 < j) fun i j => .int (i % j)) (tOp (rI0 fun i j => .int (i + j)) (bD 4) (tOp (rI zin fun i j => .int (i * j)) (tC (.int 7)) (bD 0))) (tC (.int 26)))))
      (tSl zmT (bD 1) (qI (bD 2)) kL)) Q [none, some (.str word), some (.int at'), some (.str abc), some (.int first)] H1 := by
  have hz : word.length <= sizeLine := Nat.le_trans (by omega) cK
  refine fN (fun i zs σ H => ∃ (xs : List Str) (v : Option V), zs = xs.map V.str /\ xs = (List.range i).map (zes word at' first) /\ xs.length = i /\ Bd xs /\ σ = [v, some (.str word), some (.int at'), some (.str abc), some (.int first)] /\ (∀ b o, H1 b = some o -> H b = some o)) ?_ (by omega) ?_ ?_ ?_
  . exact ⟨[], none, rfl, rfl, rfl, (by intro _ z; cases z), rfl, fun b o h => by rw [aH (aF h hD)]; exact h⟩
  . rintro i zs σ H ⟨xs, v, rfl, _, rfl, _⟩
    rw [List.length_map]; exact Nat.le_refl _
  . rintro i zs σ H hi hl ⟨xs, v, rfl, hfam, rfl, hb, rfl, hk⟩
    have hc := p9 (Int.emod_nonneg (first + 7 * (0 + (xs.length : Int))) (show (26 : Int) ≠ 0 by decide)) (Int.emod_lt_of_pos _ (by decide))
    generalize hcc : oQ ((first + 7 * (0 + (xs.length : Int))) % 26) = c at hc
    have l1 := n8 word none (some at')
    have l2 := n8 word (some at') none
    have l3 : Str.length ⟨#[c]⟩ = 1 := rfl
    have l4 := oX (Txt.slice word none (some at')) ⟨#[c]⟩
    have l5 := oX (Txt.slice word none (some at') ++ ⟨#[c]⟩) (Txt.slice word (some at') none)
    have hs := cK
    refine ⟨_, rfl, _, rfl, _, rfl, word, rfl, hz, _, rfl, _, rfl, _, rfl, _, _, rfl, rfl, .inl ⟨by decide, by decide⟩, _, _, rfl, rfl, _, _, rfl, rfl, (show (0 : Int) < 26 by decide), abc, _, c, rfl, rfl, sJ, hc, _, _, rfl, rfl, by omega, ?_⟩
    refine ⟨_, rfl, _, rfl, _, rfl, word, rfl, hz, _, _, rfl, rfl, by omega, hl, xs ++ [_], _, by rw [List.map_append]; rfl, ?fam, by rw [List.length_append]; rfl, hb.snoc ⟨by omega, by omega⟩, rfl, fun b o h => ?_⟩
    case fam =>
      rw [List.range_succ, List.map_append, <- hfam, <- hcc]; rfl
    rw [aH (aF h hD)]; exact hk b o h
  . rintro zs σ H hl ⟨xs, v, rfl, hfam, e, hb, _, hk⟩
    exact hd xs H e hb (by rw [hfam]; exact zal hn) hk hl
theorem zbA (F : Fun K "_law_names" "_law_names" jB f fd) (G : FnOk P w K mg base CX0 k g gd ["_law_flow_here", "_law_many"] fW) (bG : gI K gd ["_law_flow_here", "_law_many"] []) (kG : W.keepIn K (.ref g) = true) (mG : mg "_law_draw" = some (.ref g))
    (mr : mg "range" = none) (ml : mg "len" = none) : FnOk P w K mg base CX0 (k + 1) f fd ["_law_flow_here", "_law_many"] u9 := by
  refine F.ok zB (fun vs H Q E h => ?_) (fun cdv A outer s H vs Q E hr h => ?_)
  . obtain ⟨a, m, rfl, _⟩ := h
    rfl
  obtain ⟨a, m, rfl, hF, m1, m6, q⟩ := h
  have nd := zB.nd
  refine ⟨_, aG (aS (i := 2) nd rfl (Or.inr rfl) fX) (aG (eG (bW i5 (aL G hr rfl mG kG bG .nil bF (aA (pv 0) (aA aI aE))) aI (eP _))
      (aG (aS (i := 3) nd rfl (Or.inr rfl) (dP aE))
      (aG (fH PassesOwn.never rfl (dG rfl mr (aA (pv 1) aE)) (aO (i := 4) nd rfl (Or.inl rfl))
        (aG (aS (i := 5) nd rfl (Or.inl rfl) (oP PySem.F.plainAttrs_str PySem.F.slot_str_join PySem.F.type_str_join zK fX (aA
            (dI (own := ["_law_j"]) (fr := ["_law_flow_here", "_law_some"]) (idx := [0, 2]) rfl (by show aR _ _ _ (aD jB); exact ⟨rfl, by decide +kernel, by decide +kernel, by decide +kernel, by decide +kernel, by decide +kernel, by decide +kernel⟩)
              (dG rfl mr (aA (aW cO aI (aL G hr rfl mG kG bG .nil bF (aA (pv 0) (aA aI aE)))) aE))
              (fun _ _ _ _ _ => aO (i := 0) (by show List.Nodup (["_law_j", "_law_flow_here", "_law_some"] : List Str); decide +kernel) rfl (Or.inl rfl) (Or.inr rfl)) (fun _ _ _ _ _ => bT)
              (fun _ _ _ _ _ => dZ uO (pv 2) (aL G hr rfl mG kG bG .nil bF (aA (pv 1) (aA aI aE))) (fun _ _ => rfl)) rfl (cV rfl)) aE)))
        (aG (eG (bW qH (pv 5) (pv 3) rfl)
          (aJ (aS (i := 5) nd rfl (Or.inl rfl) (dZ bQ
            (dI (own := ["_law_one"]) (fr := ["_law_found"]) (idx := [3]) (tc := sU (tOp (rIn K true) (bD 0) (bD 1))) rfl (by show aR _ _ _ (aD jB); exact ⟨rfl, by decide +kernel, by decide +kernel, by decide +kernel, by decide +kernel, by decide +kernel, by decide +kernel⟩)
              (zjg (pv 2)) (fun _ _ _ _ _ => aO (i := 0) (by show List.Nodup (["_law_one", "_law_found"] : List Str); decide +kernel) rfl (Or.inl rfl) (Or.inr rfl)) (fun _ _ _ _ _ => pF (bW eE (pv 0) (pv 1) rfl)) (fun _ _ _ _ _ => pv 0) rfl (cV rfl))
            aI (fun _ _ => rfl)))) bM)
        (aJ (eS (oP PySem.F.plainAttrs_list PySem.F.slot_list_append PySem.F.type_list_append gQ (pv 3) (aA (pv 5) aE)))))))
      (aJ (bK (pv 3))))) bM) (aG (aS (i := 6) nd rfl (Or.inr rfl) (oP PySem.F.plainAttrs_str PySem.F.slot_str_join PySem.F.type_str_join zK fX (aA
            (dI (own := ["_law_j"]) (fr := ["_law_flow_here", "_law_some"]) (idx := [0, 2]) rfl (by show aR _ _ _ (aD jB); exact ⟨rfl, by decide +kernel, by decide +kernel, by decide +kernel, by decide +kernel, by decide +kernel, by decide +kernel⟩)
              (dG rfl mr (aA (aL G hr rfl mG kG bG .nil bF (aA (pv 0) (aA aI aE))) aE))
              (fun _ _ _ _ _ => aO (i := 0) (by show List.Nodup (["_law_j", "_law_flow_here", "_law_some"] : List Str); decide +kernel) rfl (Or.inl rfl) (Or.inr rfl)) (fun _ _ _ _ _ => bT)
              (fun _ _ _ _ _ => dZ uO (pv 2) (aL G hr rfl mG kG bG .nil bF (aA (pv 1) (aA aI aE))) (fun _ _ => rfl)) rfl (cV rfl)) aE))) (aG (aS (i := 7) nd rfl (Or.inr rfl) (aL G hr rfl mG kG bG .nil bF (aA (pv 0) (aA (aW cO (aT iI rfl ml PySem.boot_len (aA (pv 6) aE)) aI) aE)))) (aG (aS (i := 8) nd rfl (Or.inr rfl) (aL G hr rfl mG kG bG .nil bF (aA (pv 0) (aA aI aE)))) (aG (aS (i := 3) nd rfl (Or.inr rfl)
            (dI (own := ["_law_k"]) (fr := ["_law_word", "_law_at", "_law_some", "_law_first"]) (idx := [6, 7, 2, 8]) rfl (by show aR _ _ _ (aD jB); exact ⟨rfl, by decide +kernel, by decide +kernel, by decide +kernel, by decide +kernel, by decide +kernel, by decide +kernel⟩)
              (dG rfl mr (aA (pv 1) aE))
              (fun _ _ _ _ _ => aO (i := 0) (by show List.Nodup (["_law_k", "_law_word", "_law_at", "_law_some", "_law_first"] : List Str); decide +kernel) rfl (Or.inl rfl) (Or.inr rfl)) (fun _ _ _ _ _ => bT)
              (fun _ _ _ _ _ => aW eX (aW eX (cG kR (pv 1) dQ (dC (pv 2))) (dZ uO (pv 3) (aW gN (aW cO (pv 4) (aW iB aI (pv 0))) aI) (fun _ _ => rfl))) (cG kR (pv 1) (dC (pv 2)) dQ)) rfl (cV rfl))) (aG (eG (bW i5 (aL G hr rfl mG kG bG .nil bF (aA (pv 0) (aA aI aE))) aI (eP _))
      (aG (aS (i := 9) nd rfl (Or.inl rfl) (aW eX (pv 6) (cG kR fX (dC (aT iI rfl ml PySem.boot_len (aA (pv 6) aE))) dQ)))
      (aJ (eG (bW eE (pv 9) (pv 3) rfl) (aJ (qD (pv 9) (o6 (pv 3) aI oN))) bM))) bM) (aJ (bK (pv 3))))))))), ?_⟩
  try dsimp only [eU, Cx.nox, Cx.wish]
  refine zjb ?_
  intro D0 σ0 U8 U7 U6 U5 U4 U3 U2
  have hmN : m.toNat <= 6 := by omega
  refine ⟨_, rfl, a, 3, rfl, hF, by decide, by decide, fun r0 H0 _ _ f0 x0 => ⟨rfl, _, rfl, ?_⟩⟩
  refine pR (fun c => ?_) (fun c => ?_)
  . refine ⟨jW (show 0 <= 1000 by decide), fun q0 hq0 => ?_⟩
    have nq := dB hq0 f0
    refine ⟨_, rfl, m, rfl, by omega, by omega, mQ (n := m.toNat) (fun i σ H => ∃ (ys : List Str) (v4 v5 v6 v7 v8 v9 : Option V), σ = [some (.ref a), some (.int m), some (.str abc), some (.ref q0), v4, v5, v6, v7, v8, v9] /\ ys.length = i /\ Bd ys /\ ys.Nodup /\ aY H a /\ Ext a H0 H /\ H q0 = some (.lst (ys.map V.str))) ?_ ?_ ?_⟩
    . exact ⟨[], _, _, _, _, _, _, rfl, rfl, (by intro _ z; cases z), List.nodup_nil, f0.new hq0, Ext.new hq0, aB⟩
    . rintro i σ H ii ⟨ys, v4, v5, v6, v7, v8, v9, rfl, rfl, hb, hnd, fl, xl, hl⟩
      refine zjF ?_
      intro D1 σ1 W3 W2
      refine ⟨rfl, _, rfl, a, 8, rfl, fl, by decide, by decide, fun r1 H1 r10 r11 f1 x1 => ⟨_, _, rfl, rfl, _, rfl, by omega, by omega, fun D hD => zA (by omega) hD f1 fun zs H2 e2 s2 f2 x2 d2 => ?_⟩⟩
      obtain ⟨wl, ws⟩ := tX s2 (by omega)
      have l2 : H2 q0 = some (.lst (ys.map V.str)) := x2 _ _ nq (x1 _ _ nq hl)
      refine ⟨_, D, zs, rfl, rfl, SqL.of d2, ws, ?_⟩
      have step : ∀ (nm : Str) (H3 : Hp), (0 < nm.length /\ nm.length <= 200) -> nm ∉ ys -> aY H3 a -> Ext a H0 H3 -> H3 q0 = some (.lst (ys.map V.str)) -> ∃ v, [some (V.ref a), some (.int m), some (.str abc), some (.ref q0), some (.int (0 + (ys.length : Int))), some (.str nm), v6, v7, v8, v9][3]? = some (some v) /\ (tyV K "list" v H3 /\ ∃ v', [some (V.ref a), some (.int m), some (.str abc), some (.ref q0), some (.int (0 + (ys.length : Int))), some (.str nm), v6, v7, v8, v9][5]? = some (some v') /\ z8 v [v'] H3 fun _ H4 =>
          ∃ (zs : List Str) (v4 v5 v6' v7' v8' v9' : Option V), [some (V.ref a), some (.int m), some (.str abc), some (.ref q0), some (.int (0 + (ys.length : Int))), some (.str nm), v6, v7, v8, v9] = [some (.ref a), some (.int m), some (.str abc), some (.ref q0), v4, v5, v6', v7', v8', v9'] /\ zs.length = ys.length + 1 /\ Bd zs /\ zs.Nodup /\ aY H4 a /\ Ext a H0 H4 /\ H4 q0 = some (.lst (zs.map V.str))) := fun nm H3 hn hni f3 x3 l3 =>
        ⟨_, rfl, .inl ⟨rfl, _, SqL.of l3⟩, _, rfl, q0, _, _, rfl, rfl, l3, Nat.lt_of_lt_of_le (by rw [List.length_map]; omega) cK, ys ++ [nm], _, _, _, _, _, _, rfl, by rw [List.length_append]; rfl, hb.snoc hn, xN hnd hni, f3.set (Ne.symm nq), zai (H1 := H0) hq0 x3, by rw [aB, List.map_append]; rfl⟩
      refine ⟨_, rfl, _, rfl, q0, _, rfl, .inl (SqL.of l2), rfl, fF ys, _, rfl, ?_⟩
      refine pR (fun _ => ?_) (fun cc => ?_)
      . refine ⟨_, rfl, abc, rfl, fun D2 hD2 => zft (by omega) hD2 l2 fun us une us2 unm H4 k4 d4 => ?_⟩
        obtain ⟨u, ur, eu⟩ := List.exists_cons_of_ne_nil une
        subst eu
        refine ⟨D2, _, _, _, rfl, rfl, SqL.of d4, bV (j := 0) (v := V.str u) rfl, ?_⟩
        obtain ⟨x, y, z, ef, hz⟩ := f2
        exact step u H4 (by rw [us2 u List.mem_cons_self]; exact ⟨by decide, by decide⟩) (unm u List.mem_cons_self) ⟨x, y, z, k4 _ _ ef, hz⟩ (fun b o nb hb' => k4 _ _ ((xl.trans (x1.trans x2)) b o nb hb')) (k4 _ _ l2)
      . exact step _ H2 ⟨zax s2 (fun z => by rw [z] at e2; have e3 : 0 = _ := e2; omega), Nat.le_trans wl (by decide)⟩ (eN.mp (by simpa using cc)) f2 (xl.trans (x1.trans x2)) l2
    . rintro σ H ⟨ys, v4, v5, v6, v7, v8, v9, rfl, e, hb, hnd, fl, xl, hl⟩
      exact ⟨_, rfl, q q0 ys H (by omega) hb hnd nq fl (x0.trans xl) hl⟩
  . refine ⟨rfl, _, rfl, a, 8, rfl, f0, by decide, by decide, fun r1 H1 r10 r11 f1 x1 => ⟨_, rfl, by omega, by omega, fun D hD => zA (by omega) hD f1 fun zs H2 e2 s2 f2 x2 d2 => ?_⟩⟩
    obtain ⟨wl, ws⟩ := tX s2 (by omega)
    refine ⟨_, D, zs, rfl, rfl, SqL.of d2, ws, ?_⟩
    change (Txt.join "" zs).length <= 68 at wl
    generalize Txt.join "" zs = word at wl ⊢
    have wz : word.length <= sizeLine := Nat.le_trans (by omega) cK
    refine ⟨_, rfl, _, rfl, _, rfl, wz, _, _, rfl, rfl, a, _, rfl, f2, by omega, by omega, fun r3 H3 _ _ f3 x3 => ?_⟩
    refine ⟨_, rfl, a, 26, rfl, f3, by decide, by decide, fun r4 H4 r40 _ f4 x4 => ?_⟩
    refine ⟨_, rfl, m, rfl, by omega, by omega, fun D2 hD2 => zkm wl r40 hmN hD2 fun us H5 e5 b5 n5 k5 d5 => ?_⟩
    have f5 : aY H5 a := by
      obtain ⟨x, y, z, ef, hz⟩ := f4
      exact ⟨x, y, z, k5 _ _ ef, hz⟩
    have n2 := dB hD2 f4
    have x5 : Ext a H H5 := fun b o nb hb => k5 _ _ ((x0.trans (x1.trans (x2.trans (x3.trans x4)))) b o nb hb)
    refine ⟨_, rfl, a, 4, rfl, f5, by decide, by decide, fun r6 H6 _ _ f6 x6 => ⟨rfl, _, rfl, ?_⟩⟩
    have d6 := x6 _ _ n2 d5
    refine pR (fun _ => ?_) (fun _ => ?_)
    . have ll := n8 "zzzzzzzz" (some (word.length : Int)) none
      have l8 : Str.length "zzzzzzzz" = 8 := by decide
      have la := oX word (Txt.slice "zzzzzzzz" (some (word.length : Int)) none)
      have hs := cK
      have lp : 0 < word.length + (Txt.slice "zzzzzzzz" (some (word.length : Int)) none).length := by
        rcases Nat.eq_zero_or_pos word.length with h | h
        . rw [h]; decide
        . omega
      refine ⟨_, rfl, _, rfl, _, rfl, wz, _, rfl, _, rfl, by omega, _, _, rfl, rfl, by omega, ?_⟩
      refine ⟨_, rfl, _, rfl, D2, _, rfl, .inl (SqL.of d6), rfl, fF us, _, rfl, ?_⟩
      refine pR (fun cc => ?_) (fun _ => ?_)
      . refine ⟨_, rfl, _, rfl, D2, _, 0, 0, rfl, rfl, d6, ?_, ?_⟩
        . unfold ixN
          rw [List.length_map, e5, if_pos (by decide), if_pos (by omega)]
          rfl
        . refine ⟨_, rfl, q D2 (us.set 0 (word ++ Txt.slice "zzzzzzzz" (some (word.length : Int)) none)) _ (by rw [List.length_set]; omega) (b5.set ⟨by omega, by omega⟩ 0) (xP n5 (eN.mp (by simpa using cc))) n2 (f6.set (Ne.symm n2)) (fun b o nb hb => ?_) ?_⟩
          . have := x6 _ _ nb (x5 b o nb hb)
            by_cases hbd : b = D2
            . exfalso
              rw [hbd] at hb
              have := (x0.trans (x1.trans (x2.trans (x3.trans x4)))) _ _ n2 hb
              rw [hD2] at this; cases this
            . rw [aH hbd]; exact this
          . rw [aB, List.map_set]
      . exact ⟨_, rfl, q D2 us H6 (by omega) b5 n5 n2 f6 (x5.trans x6) d6⟩
    . exact ⟨_, rfl, q D2 us H6 (by omega) b5 n5 n2 f6 (x5.trans x6) d6⟩
end
end KK
namespace KK
open PySem L2 PyProof.Rows KKM
structure Fn (P : Program) (w : World) (K : W.Frag) (mg : Str -> Option Value) (base : Heap) (k : Nat) (x : Str) (ps : List Str) (sp : Sp) (g : Addr) (gd : FuncData) : Prop where
  ok : FnOk P w K mg base CX0 k g gd ps sp
  bn : gI K gd ps []
  kp : W.keepIn K (.ref g) = true
  at_ : mg x = some (.ref g)
structure Bt (mg : Str -> Option Value) : Prop where
  len_ : mg "len" = none
  range_ : mg "range" = none
  max_ : mg "max" = none
  sorted_ : mg "sorted" = none
  tuple_ : mg "tuple" = none
  list_ : mg "list" = none
  set_ : mg "set" = none
  int_ : mg "int" = none
  isinstance_ : mg "isinstance" = none
  all_ : mg "all" = none
  str_ : mg "str" = none
  bool_ : mg "bool" = none
  min_ : mg "min" = none
  dict_ : mg "dict" = none
  any_ : mg "any" = none
  enumerate_ : mg "enumerate" = none
  zip_ : mg "zip" = none
abbrev dH : Stmt := top 21
abbrev dY : Stmt := top 25
def TK (H H' : Hp) : Prop := ∀ b xs, H b = some (.tup xs) -> H' b = some (.tup xs)
theorem TK.trans {H H1 H2 : Hp} (x : TK H H1) (y : TK H1 H2) : TK H H2 := fun b o h => y b o (x b o h)
theorem TK.lst {H : Hp} {p : Addr} {ys : List V} {o : HO} (h : H p = some (.lst ys)) : TK H (upd H p o) := fun b xs q => by rw [aH (dW q h (fun z => nomatch z))]; exact q
theorem Ext.tk {a : Addr} {H H' : Hp} (x : Ext a H H') (f : aY H a) : TK H H' := fun b xs q => by
  obtain ⟨_, _, _, e, _⟩ := f
  exact x b _ (dW q e (fun z => nomatch z)) q
theorem _root_.L2.Same.tk {H H' : Hp} (x : Same H H') : TK H H' := fun b xs q => x b _ q
theorem _root_.L2.Same.ext {a : Addr} {H H' : Hp} (x : Same H H') : Ext a H H' := fun b o _ q => x b o q
theorem _root_.L2.Same.flow {a : Addr} {H H' : Hp} (x : Same H H') (f : aY H a) : aY H' a := by
  obtain ⟨i, j, k, e, r⟩ := f
  exact ⟨i, j, k, x _ _ e, r⟩
theorem _root_.L2.Same.tup {K : W.Frag} {H H' : Hp} {a : Addr} {xs : List V} (e : Same H H') (h : SqT K H a xs) : SqT K H' a xs := by
  rcases h with (h | ⟨o, h⟩) | h
  . exact .inl (.inl (e _ _ h))
  . exact .inl (.inr ⟨o, e _ _ h⟩)
  . exact .inr h
theorem aK {H : Hp} {p : Addr} {o : HO} (h : H p = none) : Same H (upd H p o) := fun b u q => by rw [aH (aF q h)]; exact q
theorem _root_.L2.Same.at {H H' : Hp} {p : Addr} {o : HO} (x : Same H H') (h : H p = none) : Same H (upd H' p o) := fun b u q => by rw [aH (aF q h)]; exact x b u q
theorem Ext.at {a : Addr} {H H' : Hp} {p : Addr} {o : HO} (x : Ext a H H') (h : H p = none) : Ext a H (upd H' p o) := fun b u n q => by rw [aH (aF q h)]; exact x b u n q
theorem oW {n : Nat} (h : n <= 1000) : n < sizeLine := qW h
abbrev Row := Str × List Str
def sN (H : Hp) (t : Addr) (r : Row) : Prop := ∃ d, H t = some (.tup [.str r.1, .ref d]) /\ H d = some (.tup (r.2.map V.str))
theorem sN.keep {H H' : Hp} {t : Addr} {r : Row} (k : TK H H') (h : sN H t r) : sN H' t r := let ⟨d, h1, h2⟩ := h; ⟨d, k _ _ h1, k _ _ h2⟩
abbrev gH (H : Hp) : List Addr -> List Row -> Prop := Paired (sN H)
theorem gH.keep {H H' : Hp} (k : TK H H') {ts : List Addr} {rs : List Row} (h : gH H ts rs) : gH H' ts rs := by
  induction h with
  | nil => exact .nil
  | cons h r ih => exact .cons (h.keep k) ih
theorem gH.get {H : Hp} : ∀ {ts : List Addr} {rs : List Row} {i : Nat} {t : Addr}, gH H ts rs -> ts[i]? = some t -> ∃ r, rs[i]? = some r /\ sN H t r
  | _, _, _, _, .nil, e => by simp at e
  | _, _, 0, _, .cons h _, e => by
    have e' := Option.some.inj (show some _ = some _ from e)
    subst e'
    exact ⟨_, rfl, h⟩
  | _, _, i + 1, _, .cons _ r, e => gH.get (i := i) r (by simpa using e)
def dD (H : Hp) (L : Addr) (rs : List Row) : Prop := ∃ ts : List Addr, H L = some (.lst (ts.map V.ref)) /\ gH H ts rs
theorem dD.ext {a L : Addr} {H H' : Hp} {rs : List Row} (h : dD H L rs) (x : Ext a H H') (f : aY H a) (n : L ≠ a) : dD H' L rs := let ⟨ts, h1, h2⟩ := h; ⟨ts, x _ _ n h1, h2.keep (x.tk f)⟩
theorem dD.same {L : Addr} {H H' : Hp} {rs : List Row} (h : dD H L rs) (x : Same H H') : dD H' L rs := let ⟨ts, h1, h2⟩ := h; ⟨ts, x _ _ h1, h2.keep (Same.tk x)⟩
abbrev Srt (l : List Str) : Prop := l.Pairwise fun a b => a.cps.toList <= b.cps.toList
structure nX (rs : List Row) : Prop where
  ne : rs ≠ []
  len : rs.length <= 6
  nd : (rs.map (·.1)).Nodup
  row : ∀ r ∈ rs, r.2 ≠ [] /\ r.2.length <= 4 /\ r.2.Nodup
  nm : Bd (rs.map (·.1))
  dn : ∀ r ∈ rs, Bd r.2
  few : ∃ ds : List Str, ds.length <= 4 /\ ∀ r ∈ rs, ∀ d ∈ r.2, d ∈ ds
  srt : ∀ r ∈ rs, Srt r.2
section
variable {P : Program} {w : World} {K : W.Frag} {mg : Str -> Option Value} {base : Heap} {f g g2 g3 : Addr} {fd gd gd2 gd3 : FuncData} {k : Nat}
def gO : Sp := fun vs H Q _ => ∃ (L : Addr) (rs : List Row), vs = [.ref L] /\ dD H L rs /\ rs.length <= 7 /\ (∀ r ∈ rs, r.2.length <= 8 /\ r.2.Nodup) /\
  ∀ (r : Addr) (zs : List Str) (H' : Hp), sortedS zs = true -> zs.Nodup -> zs.length <= 56 -> (∀ d, d ∈ zs ↔ ∃ x ∈ rs, d ∈ x.2) -> H r = none -> Same H H' -> H' r = some (.lst (zs.map V.str)) -> Q (.ref r) H'
theorem lT : bE ["_law_rows", "_law_found", "_law_letter", "_law_some"] ["_law_rows"] (aD dY) := ⟨rfl, rfl, rfl, by decide +kernel, rfl, by decide +kernel, by decide +kernel⟩
theorem zda {D d q : Addr} {Q : VK} {H1 : Hp} {ds fo : List Str} (hl : ds.length <= 1000) (hD : H1 D = none) (hd : H1 d = some (.tup (ds.map V.str))) (hq : H1 q = some (.lst (fo.map V.str)))
    (hdn : ∀ H', Same H1 H' -> H' D = some (.lst ((ds.filter fun z => decide (z ∉ fo)).map V.str)) -> Q (.ref D) H') :
    bO (Itt K d) D (aZ 0) (sU (tOp (rIn K true) (bD 0) (bD 1))) (bD 0) Q [none, some (.ref q)] H1 := by
  refine zaU (xs := ds.map V.str) (fun i ys σ H => ∃ v : Option V, ys = ((ds.take i).filter fun z => decide (z ∉ fo)).map V.str /\ σ = [v, some (.ref q)] /\ Same H1 H) ?_ (by rw [List.length_map]; omega) ?_ ?_ ?_ ?_
  . exact ⟨none, rfl, rfl, aK hD⟩
  . rintro i ys σ H ⟨v, rfl, _⟩
    rw [List.length_map]
    exact Nat.le_trans (List.length_filter_le _ _) (by rw [List.length_take]; omega)
  . rintro i ys σ H ⟨v, _, _, x⟩
    exact SqT.of (x _ _ hd)
  . rintro i y ys σ H hy hl2 ⟨v, rfl, rfl, x⟩
    rw [List.getElem?_map] at hy
    obtain ⟨z, hz, rfl⟩ := Option.map_eq_some_iff.mp hy
    refine ⟨_, rfl, _, rfl, q, _, rfl, .inl (SqL.of (x _ _ hq)), rfl, fF fo, _, rfl, ?_⟩
    refine pR (fun b => ?_) (fun b => ?_)
    . have hn : z ∉ fo := eN.mp (by simpa using b)
      refine ⟨_, rfl, hl2, _, ?_, rfl, x.at hD⟩
      rw [bN hz, jE, if_pos (by simpa using hn), List.map_append]
      rfl
    . have hn : ¬ z ∉ fo := fun c => b (by rw [if_pos rfl, eN.mpr c]; rfl)
      refine ⟨hl2, _, ?_, rfl, x⟩
      rw [bN hz, jE, if_neg (by simpa using hn)]
  . rintro ys σ H hl2 ⟨v, rfl, _, x⟩
    rw [List.length_map, List.take_length] at hl2
    exact hdn H x hl2
theorem sO (F : Fun K "_law_desks" "_law_desks" dY f fd) (B : Bt mg) : FnOk P w K mg base CX0 (k + 1) f fd ["_law_rows"] gO := by
  refine F.ok lT (fun vs H Q E h => ?_) (fun cdv A outer s H vs Q E hr h => ?_)
  . obtain ⟨L, rs, rfl, _⟩ := h
    rfl
  obtain ⟨L, rs, rfl, ⟨ts, hL, hT⟩, h7, hR, q⟩ := h
  have nd := lT.nd
  have dR := Paired.length hT
  refine ⟨_, (aG (aS (i := 1) nd rfl (Or.inr rfl) (dP aE)) (aG (fH PassesOwn.never rfl (cS (pv 0)) (fO rfl (aX (aO (i := 2) nd rfl (Or.inl rfl)) (aX (aO (i := 3) nd rfl (Or.inl rfl)) dX))) (aJ (eS (oP PySem.F.plainAttrs_list PySem.F.slot_list_extend PySem.F.type_list_extend u7 (pv 1) (aA (dI (g := (aZ 0)) (tc := (sU (tOp (rIn K true) (bD 0) (bD 1)))) (te := (bD 0)) (own := ["_law_desk"]) (fr := ["_law_found"]) (idx := [1]) rfl (by show aR _ _ _ (aD dY); exact ⟨rfl, by decide +kernel, by decide +kernel, by decide +kernel, by decide +kernel, by decide +kernel, by decide +kernel⟩) (jA (pv 3)) (fun _ _ _ _ _ => (aO (i := 0) (by show List.Nodup (["_law_desk", "_law_found"] : List Str); decide +kernel) rfl (Or.inl rfl) (Or.inr rfl))) (fun _ _ _ _ _ => pF (bW eE (pv 0) (pv 1) rfl)) (fun _ _ _ _ _ => (pv 0)) rfl (cV rfl)) aE))))) (aJ (bK (aT kO rfl B.sorted_ (by decide +kernel) (aA (pv 1) aE)))))), ?_⟩
  try dsimp only [eU, Cx.nox, Cx.wish]
  refine sX ?_
  intro D0 σ0 U3 U2
  refine ⟨jW (show 0 <= 1000 by decide), fun q0 hq0 => ?_⟩
  refine ⟨_, rfl, L, rfl, ⟨_, SqL.of ((aK hq0) _ _ hL)⟩, gU (xs := ts.map V.ref)
    (fun i σ H' => ∃ (fo : List Str) (v2 v3 : Option V), σ = [some (.ref L), some (.ref q0), v2, v3] /\ H' q0 = some (.lst (fo.map V.str)) /\ fo.Nodup /\ fo.length <= 8 * i /\ (∀ d, d ∈ fo ↔ ∃ x ∈ rs.take i, d ∈ x.2) /\ Same H H') ?_ ?_ ?_ ?_⟩
  . exact ⟨[], none, none, rfl, aB, List.nodup_nil, Nat.zero_le _, fun d => by simp, aK hq0⟩
  . rintro i σ H1 _ ⟨fo, v2, v3, _, _, _, _, _, x⟩
    exact SqL.of (x _ _ hL)
  . rintro i y σ H1 hy ⟨fo, v2, v3, rfl, h1, nd1, l1, m1, x1⟩
    rw [List.getElem?_map] at hy
    obtain ⟨t, ht, rfl⟩ := Option.map_eq_some_iff.mp hy
    obtain ⟨r, hr', d, e1, e2⟩ := hT.get ht
    have hm := List.mem_of_getElem? hr'
    obtain ⟨r8, rnd⟩ := hR r hm
    have hi : i < rs.length := (List.getElem?_eq_some_iff.mp hr').1
    refine ⟨t, _, rfl, SqT.of (x1 _ _ e1), rfl, _, _, rfl, _, _, rfl, rfl, ?_⟩
    refine ⟨_, rfl, .inl ⟨rfl, _, SqL.of h1⟩, _, rfl, d, rfl, ⟨_, SqT.of (x1 _ _ e2)⟩, fun D hD => zda (K := K) (by omega) hD (x1 _ _ e2) h1 fun H2 x2 hD2 => ?_⟩
    have hlf : (r.2.filter fun z => decide (z ∉ fo)).length <= r.2.length := List.length_filter_le _ _
    refine ⟨q0, D, fo.map V.str, _, rfl, rfl, x2 _ _ h1, hD2, Nat.le_of_lt (oW (by rw [List.length_map, List.length_map]; omega)), fo ++ (r.2.filter fun z => decide (z ∉ fo)), _, _, rfl, by rw [aB, List.map_append], ?_, by rw [List.length_append]; omega, ?_, (x1.trans x2).at hq0⟩
    . rw [List.nodup_append]
      refine ⟨nd1, kW rnd, fun a ha b hb e => ?_⟩
      have hb2 := (List.mem_filter.mp hb).2
      rw [e] at ha
      exact absurd ha (by simpa using hb2)
    . intro d'
      rw [bN hr', List.mem_append, m1 d']
      constructor
      . rintro (⟨x, hx, hd⟩ | hd)
        . exact ⟨x, List.mem_append_left _ hx, hd⟩
        . exact ⟨r, List.mem_append_right _ (List.mem_singleton.mpr rfl), (List.mem_filter.mp hd).1⟩
      . rintro ⟨x, hx, hd⟩
        rcases List.mem_append.mp hx with hx | hx
        . exact .inl ⟨x, hx, hd⟩
        . rw [List.mem_singleton.mp hx] at hd
          by_cases hf : d' ∈ fo
          . exact .inl ((m1 d').mp hf)
          . exact .inr (List.mem_filter.mpr ⟨hd, by simpa using hf⟩)
  . rintro σ H1 ⟨fo, v2, v3, rfl, h1, nd1, l1, m1, x1⟩
    rw [List.length_map] at l1 m1
    rw [dR, List.take_length] at m1
    refine ⟨_, rfl, q0, fo, rfl, SqL.of h1, by omega, fun l zs hl hp hs => ?_⟩
    exact q l zs _ hs (hp.nodup_iff.mpr nd1) (by rw [hp.length_eq]; omega) (fun d => by rw [hp.mem_iff]; exact m1 d) (x1.free hl) (x1.trans (aK hl)) aB
theorem znZ {r : Int} (h0 : 0 <= r) (h1 : r < 8) : ∃ m : Int, atI [V.int 3, V.int 4, V.int 2, V.int 5, V.int 3, V.int 4, V.int 6, V.int 1] r = some (.int m) /\ 1 <= m /\ m <= 6 := by
  obtain ⟨n, rfl⟩ := Int.eq_ofNat_of_zero_le h0
  match n, h1 with
  | 0, _ => exact ⟨3, bV (j := 0) rfl, by decide, by decide⟩
  | 1, _ => exact ⟨4, bV (j := 1) rfl, by decide, by decide⟩
  | 2, _ => exact ⟨2, bV (j := 2) rfl, by decide, by decide⟩
  | 3, _ => exact ⟨5, bV (j := 3) rfl, by decide, by decide⟩
  | 4, _ => exact ⟨3, bV (j := 4) rfl, by decide, by decide⟩
  | 5, _ => exact ⟨4, bV (j := 5) rfl, by decide, by decide⟩
  | 6, _ => exact ⟨6, bV (j := 6) rfl, by decide, by decide⟩
  | 7, _ => exact ⟨1, bV (j := 7) rfl, by decide, by decide⟩
  | n + 8, h => exact absurd h (by omega)
def zaH (m : Int) (j : Nat) : Bool := decide (V.int (Builtin.bitAnd (m / 2 ^ ((0 + (j : Int))).toNat) 1) = V.int 1)
theorem zaS {m c : Nat} (hc : c <= 4) (h0 : 1 <= m) (h1 : m < 2 ^ c) : ∃ j, j < c /\ zaH (m : Int) j = true := by
  have hm : m < 16 := Nat.lt_of_lt_of_le h1 (Nat.le_trans (Nat.pow_le_pow_right (by decide) hc) (by decide))
  have all : ∀ (m : Fin 16) (c : Fin 5), 1 <= m.val -> m.val < 2 ^ c.val -> ∃ j : Fin 4, j.val < c.val /\ zaH (m.val : Int) j.val = true := by decide +kernel
  obtain ⟨j, h2, h3⟩ := all ⟨m, hm⟩ ⟨c, by omega⟩ h0 h1
  exact ⟨j.val, h2, h3⟩
def dE (zs : List Str) (m : Int) (n : Nat) : List Str := ((List.range n).filter (zaH m)).map fun j => zs.getD j ""
theorem kS {zs : List Str} {m : Int} {n : Nat} (h : zs.Nodup) (hn : n <= zs.length) : (dE zs m n).Nodup := by
  refine KKM.nodup_map_on (fun a ha b hb e => ?_) (kW List.nodup_range)
  have la : a < zs.length := Nat.lt_of_lt_of_le (List.mem_range.mp (List.mem_filter.mp ha).1) hn
  have lb : b < zs.length := Nat.lt_of_lt_of_le (List.mem_range.mp (List.mem_filter.mp hb).1) hn
  rw [List.getD_eq_getElem?_getD, List.getD_eq_getElem?_getD, List.getElem?_eq_getElem la, List.getElem?_eq_getElem lb] at e
  exact (List.getElem_inj h).mp e
theorem oH {zs : List Str} {m : Int} {n : Nat} (h : Srt zs) (hn : n <= zs.length) : Srt (dE zs m n) := by
  unfold dE Srt
  rw [List.pairwise_map]
  refine List.Pairwise.imp_of_mem (R := fun a b => a < b) (fun {a b} ha hb hab => ?_) (List.Pairwise.filter _ List.pairwise_lt_range)
  have la : a < zs.length := Nat.lt_of_lt_of_le (List.mem_range.mp (List.mem_filter.mp ha).1) hn
  have lb : b < zs.length := Nat.lt_of_lt_of_le (List.mem_range.mp (List.mem_filter.mp hb).1) hn
  rw [List.getD_eq_getElem?_getD, List.getD_eq_getElem?_getD, List.getElem?_eq_getElem la, List.getElem?_eq_getElem lb]
  exact (List.pairwise_iff_getElem.mp h) a b la lb hab
theorem nY {zs : List Str} {m : Int} {n : Nat} (hn : n <= zs.length) {d : Str} (hd : d ∈ dE zs m n) : d ∈ zs := by
  obtain ⟨j, hj, rfl⟩ := List.mem_map.mp hd
  have lj : j < zs.length := Nat.lt_of_lt_of_le (List.mem_range.mp (List.mem_filter.mp hj).1) hn
  rw [List.getD_eq_getElem?_getD, List.getElem?_eq_getElem lj]
  exact List.getElem_mem lj
theorem jZ (zs : List Str) (m : Int) (n : Nat) : (dE zs m n).length <= n := by
  unfold dE
  rw [List.length_map]
  exact Nat.le_trans (List.length_filter_le _ _) (by rw [List.length_range]; exact Nat.le_refl _)
theorem rQ {zs : List Str} {m : Int} {n : Nat} (hc : n <= 4) (h0 : 1 <= m) (h1 : m < 2 ^ n) : dE zs m n ≠ [] := fun e => by
  have h2 : ((m.toNat : Nat) : Int) < ((2 ^ n : Nat) : Int) := by rw [Int.natCast_pow]; exact Int.lt_of_le_of_lt (by omega) h1
  obtain ⟨j, hj, hb⟩ := zaS (m := m.toNat) (c := n) hc (by omega) (by exact_mod_cast h2)
  have em : ((m.toNat : Nat) : Int) = m := by omega
  rw [em] at hb
  have : j ∈ (List.range n).filter (zaH m) := List.mem_filter.mpr ⟨List.mem_range.mpr hj, hb⟩
  have hne : (List.range n).filter (zaH m) = [] := by
    unfold dE at e
    exact List.map_eq_nil_iff.mp e
  rw [hne] at this
  cases this
theorem zix {D l : Addr} {Q : VK} {H1 : Hp} {zs : List Str} {m : Int} {n : Nat} (hn : n <= 4) (hz : zs.length = n) (hD : H1 D = none) (hl : H1 l = some (.lst (zs.map V.str)))
    (hd : ∀ H', Same H1 H' -> H' D = some (.lst ((dE zs m n).map V.str)) -> Q (.ref D) H') :
    bO (Itr 0 n) D (aZ 0) (sU (tOp rEq (tOp (rI0 fun i j => .int (Builtin.bitAnd i j)) (tOp (rI (fun _ j => 0 <= j) fun i j => .int (i / 2 ^ j.toNat)) (bD 2) (bD 0)) (tC (.int 1))) (tC (.int 1)))) (tOp (oA K) (bD 1) (bD 0)) Q [none, some (.ref l), some (.int m)] H1 := by
  refine fN (fun i ys σ H => ∃ v : Option V, ys = (dE zs m i).map V.str /\ σ = [v, some (.ref l), some (.int m)] /\ Same H1 H) ?_ (by omega) ?_ ?_ ?_
  . exact ⟨none, rfl, rfl, aK hD⟩
  . rintro i ys σ H ⟨v, rfl, _⟩
    rw [List.length_map]; exact jZ zs m i
  . rintro i ys σ H hi hl2 ⟨v, rfl, rfl, x⟩
    have hi2 : i < zs.length := by omega
    refine ⟨_, rfl, _, rfl, _, _, rfl, rfl, by omega, _, _, rfl, rfl, rfl, _, rfl, ?_⟩
    have step : dE zs m (i + 1) = if zaH m i = true then dE zs m i ++ [zs[i]] else dE zs m i := by
      unfold dE
      rw [List.range_succ, jE]
      by_cases hb : zaH m i = true
      . rw [if_pos hb, if_pos hb, List.map_append, List.map_cons, List.map_nil, List.getD_eq_getElem?_getD, List.getElem?_eq_getElem hi2]; rfl
      . rw [if_neg hb, if_neg hb]
    refine pR (fun b => ?_) (fun b => ?_)
    . have hb : zaH m i = true := b
      refine ⟨_, rfl, _, rfl, l, _, _, .str zs[i], rfl, rfl, SqL.of (x _ _ hl), ?_, hl2, _, ?_, rfl, x.at hD⟩
      . have e0 : (0 + (i : Int)) = ((i : Nat) : Int) := by omega
        rw [e0]
        exact bV (by rw [List.getElem?_map, List.getElem?_eq_getElem hi2]; rfl)
      . rw [step, if_pos hb, List.map_append]; rfl
    . have hb : ¬ zaH m i = true := b
      refine ⟨hl2, _, ?_, rfl, x⟩
      rw [step, if_neg hb]
  . rintro ys σ H hl2 ⟨v, rfl, _, x⟩
    exact hd H x hl2
def zbN : Sp := fun vs H Q _ => ∃ (a : Addr) (c : Int), vs = [.ref a, .int c] /\ aY H a /\ 1 <= c /\ c <= 4 /\
  ∀ (L : Addr) (rs : List Row) (H' : Hp), nX rs -> L ≠ a -> H L = none -> aY H' a -> Ext a H H' -> dD H' L rs -> Q (.ref L) H'
theorem qL : bE ["_law_flow_here", "_law_count", "_law_desks_here", "_law_letters", "_law_rows", "_law_letter", "_law_mask"] ["_law_flow_here", "_law_count"] (aD dH) := ⟨rfl, rfl, rfl, by decide +kernel, rfl, by decide +kernel, by decide +kernel⟩
theorem zae (F : Fun K "_law_houses" "_law_houses" dH f fd) (B : Bt mg) (aC : Fn P w K mg base k "_law_draw" ["_law_flow_here", "_law_many"] fW g gd) (cP : Fn P w K mg base k "_law_names" ["_law_flow_here", "_law_many"] u9 g2 gd2) :
    FnOk P w K mg base CX0 (k + 1) f fd ["_law_flow_here", "_law_count"] zbN := by
  refine F.ok qL (fun vs H Q E h => ?_) (fun cdv A outer s H vs Q E hr h => ?_)
  . obtain ⟨a, c, rfl, _⟩ := h
    rfl
  obtain ⟨a, c, rfl, hF, c1, c4, q⟩ := h
  have nd := qL.nd
  refine ⟨_, (aG (aS (i := 2) nd rfl (Or.inr rfl) (aT kO rfl B.sorted_ (by decide +kernel) (aA (aL cP.ok hr rfl cP.at_ cP.kp cP.bn .nil bF (aA (pv 0) (aA (pv 1) aE))) aE))) (aG (aS (i := 3) nd rfl (Or.inl rfl) (aL cP.ok hr rfl cP.at_ cP.kp cP.bn .nil bF (aA (pv 0) (aA (dZ bQ (dP (aA aI (aA aI (aA aI (aA aI (aA aI (aA aI (aA aI (aA aI aE))))))))) (aL aC.ok hr rfl aC.at_ aC.kp aC.bn .nil bF (aA (pv 0) (aA aI aE))) (fun _ _ => rfl)) aE)))) (aG (aS (i := 4) nd rfl (Or.inl rfl) (dP aE)) (aG (fH PassesOwn.never rfl (cS (pv 3)) (aO (i := 5) nd rfl (Or.inl rfl)) (aG (aS (i := 6) nd rfl (Or.inr rfl) (aW cO aI (aL aC.ok hr rfl aC.at_ aC.kp aC.bn .nil bF (aA (pv 0) (aA (aW zbL (aW zbO aI (pv 1)) aI) aE))))) (aG (eG (bW i5 (aL aC.ok hr rfl aC.at_ aC.kp aC.bn .nil bF (aA (pv 0) (aA aI aE))) aI (eP _)) (aJ (aS (i := 6) nd rfl (Or.inr rfl) (aW zbO aI (aL aC.ok hr rfl aC.at_ aC.kp aC.bn .nil bF (aA (pv 0) (aA (pv 1) aE)))))) bM) (aJ (eS (oP PySem.F.plainAttrs_list PySem.F.slot_list_append PySem.F.type_list_append gQ (pv 4) (aA (hZ (aA (pv 5) (aA (cF gY rfl B.tuple_ (by decide +kernel) (aA (dI (g := (aZ 0)) (tc := (sU (tOp rEq (tOp (rI0 fun i j => .int (Builtin.bitAnd i j)) (tOp (rI (fun _ j => 0 <= j) fun i j => .int (i / 2 ^ j.toNat)) (bD 2) (bD 0)) (tC (.int 1))) (tC (.int 1))))) (te := (tOp (oA K) (bD 1) (bD 0))) (own := ["_law_k"]) (fr := ["_law_desks_here", "_law_mask"]) (idx := [2, 6]) rfl (by show aR _ _ _ (aD dH); exact ⟨rfl, by decide +kernel, by decide +kernel, by decide +kernel, by decide +kernel, by decide +kernel, by decide +kernel⟩) (dG rfl B.range_ (aA (pv 1) aE)) (fun _ _ _ _ _ => (aO (i := 0) (by show List.Nodup (["_law_k", "_law_desks_here", "_law_mask"] : List Str); decide +kernel) rfl (Or.inl rfl) (Or.inr rfl))) (fun _ _ _ _ _ => pF (bW i5 (aW ziR (aW ziU (pv 2) (pv 0)) aI) aI (eP _))) (fun _ _ _ _ _ => (dZ bQ (pv 1) (pv 0) (fun _ _ => rfl))) rfl (cV rfl)) aE)) aE))) aE))))))) (aJ (bK (pv 4))))))), ?_⟩
  try dsimp only [eU, Cx.nox, Cx.wish]
  refine zjY ?_
  intro D0 σ0 U5 U4 U3 U2
  refine ⟨_, rfl, _, rfl, a, c, rfl, hF, c1, by omega, fun r1 ys1 H1 e1 b1 n1 nr1 f1 x1 h1 => ⟨r1, ys1, rfl, SqL.of h1, by omega, fun l zs hl hp hs => ?_⟩⟩
  have hz : zs.length = c.toNat := by rw [hp.length_eq]; omega
  have zn : zs.Nodup := hp.nodup_iff.mpr n1
  have zsrt : Srt zs := L2.sorted_pair zs hs
  have zb : Bd zs := fun d hd => b1 d (hp.mem_iff.mp hd)
  have f2 := f1.new (o := .lst (zs.map V.str)) hl
  have x2 : Ext a H (upd H1 l (.lst (zs.map V.str))) := x1.trans (Ext.new hl)
  have h2 : upd H1 l (.lst (zs.map V.str)) l = some (.lst (zs.map V.str)) := aB
  have nl : l ≠ a := dB hl f1
  generalize upd H1 l (.lst (zs.map V.str)) = H2 at f2 x2 h2 ⊢
  refine ⟨_, rfl, jW (show 8 <= 1000 by decide), fun p hp => ⟨_, rfl, a, 8, rfl, f2.new hp, by decide, by decide, fun r3 H3 r30 r31 f3 x3 => ?_⟩⟩
  obtain ⟨m, hm, m1, m6⟩ := znZ r30 r31
  have np : p ≠ a := dB hp f2
  have h3p := x3 _ _ np aB
  have h3l : H3 l = some (.lst (zs.map V.str)) := x3 _ _ nl (by rw [aH (aF h2 hp)]; exact h2)
  refine ⟨p, _, _, _, rfl, rfl, SqL.of h3p, hm, a, m, rfl, f3, m1, m6, fun r4 ys4 H4 e4 b4 n4 nr4 f4 x4 h4 => ?_⟩
  have h4l := x4 _ _ nl h3l
  have x4' : Ext a H H4 := (x2.trans ((Ext.new hp).trans x3)).trans x4
  refine ⟨jW (show 0 <= 1000 by decide), fun q0 hq0 => ?_⟩
  have nq : q0 ≠ a := dB hq0 f4
  have nql : l ≠ q0 := aF h4l hq0
  have hq1 : H q0 = none := by
    cases e : H q0 with
    | none => rfl
    | some o =>
      have := x4' _ _ nq e
      rw [hq0] at this
      cases this
  refine ⟨_, rfl, r4, rfl, ⟨_, SqL.of ((aK hq0) _ _ h4)⟩, gU (xs := ys4.map V.str)
    (fun i σ H' => ∃ (rs : List Row) (v5 v6 : Option V), σ = [some (.ref a), some (.int c), some (.ref l), some (.ref r4), some (.ref q0), v5, v6] /\ rs.map (·.1) = ys4.take i /\ (∀ r ∈ rs, ((r.2 ≠ [] /\ r.2.length <= 4 /\ r.2.Nodup) /\ ∀ d ∈ r.2, d ∈ zs) /\ Srt r.2) /\ aY H' a /\ Ext a H4 H' /\ dD H' q0 rs) ?_ ?_ ?_ ?_⟩
  . exact ⟨[], none, none, rfl, rfl, (by intro _ z; cases z), f4.new hq0, Ext.new hq0, [], aB, .nil⟩
  . rintro i σ H5 _ ⟨rs, v5, v6, _, _, _, f5, x5, _⟩
    exact SqL.of (x5 _ _ nr4 h4)
  . rintro i y σ H5 hy ⟨rs, v5, v6, rfl, hm5, hg5, f5, x5, ts, h5, t5⟩
    refine zjF ?_
    intro D1 σ1 W3 W2
    rw [List.getElem?_map] at hy
    obtain ⟨z, hz', rfl⟩ := Option.map_eq_some_iff.mp hy
    have pw : (1 : Int) * 2 ^ c.toNat = 2 ^ c.toNat := Int.one_mul _
    have cc : c.toNat = 1 \/ c.toNat = 2 \/ c.toNat = 3 \/ c.toNat = 4 := by omega
    have pb : (2 : Int) <= 2 ^ c.toNat /\ (2 : Int) ^ c.toNat <= 16 := by rcases cc with e | e | e | e <;> rw [e] <;> decide
    refine ⟨_, rfl, _, rfl, _, _, rfl, rfl, ⟨by omega, by omega, by decide⟩, _, _, rfl, rfl, a, _, rfl, f5, by rw [pw]; omega, by rw [pw]; omega, fun r6 H6 r60 r61 f6 x6 => ⟨_, _, rfl, rfl, ?_⟩⟩
    rw [pw] at r61
    refine ⟨_, rfl, a, 3, rfl, f6, by decide, by decide, fun r7 H7 r70 r71 f7 x7 => ⟨rfl, _, rfl, ?_⟩⟩
    refine pR (fun _ => ?_) (fun _ => ?_)
    . refine ⟨_, rfl, _, rfl, a, c, rfl, f7, by omega, by omega, fun r8 H8 r80 r81 f8 x8 => ⟨_, _, rfl, rfl, ⟨by omega, by omega, by decide⟩, ?_⟩⟩
      have mk1 : (1 : Int) <= 1 * 2 ^ r8.toNat := by rw [Int.one_mul]; have := Nat.one_le_two_pow (n := r8.toNat); exact_mod_cast this
      have mk2 : (1 : Int) * 2 ^ r8.toNat < 2 ^ c.toNat := by
        rw [Int.one_mul]
        have := Nat.pow_lt_pow_right (a := 2) (by decide) (show r8.toNat < c.toNat by omega)
        exact_mod_cast this
      have xx := (x6.trans x7).trans x8
      have h8q := xx _ _ nq h5
      have h8l := xx _ _ nl (x5 _ _ nl h4l)
      refine ⟨_, rfl, .inl ⟨rfl, _, SqL.of h8q⟩, _, rfl, _, rfl, c, rfl, by omega, by omega, fun D hD => zix (K := K) (n := c.toNat) (m := (1 * 2 ^ r8.toNat)) (by omega) hz hD h8l fun H9 x9 hD9 => ?_⟩
      refine ⟨D, _, rfl, .inl ⟨SqL.of hD9, fun d hd => ⟨jW (show 2 <= 1000 by decide), fun t ht => ?_⟩⟩⟩
      have y9 : Same H8 (upd (upd H9 d (.tup ((dE zs (1 * 2 ^ r8.toNat) c.toNat).map V.str))) t (.tup [.str z, .ref d])) := x9.trans ((aK hd).trans (aK ht))
      have f9 := Same.flow y9 f8
      have ndt : d ≠ t := fun e => by rw [<- e, aB] at ht; cases ht
      have zaD : sN (upd (upd H9 d (.tup ((dE zs (1 * 2 ^ r8.toNat) c.toNat).map V.str))) t (.tup [.str z, .ref d])) t (z, dE zs (1 * 2 ^ r8.toNat) c.toNat) := ⟨d, aB, by rw [aH ndt]; exact aB⟩
      generalize upd (upd H9 d (.tup ((dE zs (1 * 2 ^ r8.toNat) c.toNat).map V.str))) t (.tup [.str z, .ref d]) = H10 at y9 f9 zaD ⊢
      have h10 := y9 _ _ h8q
      have tk : TK H5 H10 := (xx.tk f5).trans (Same.tk y9)
      have lts : ts.length = rs.length := Paired.length t5
      have lrs : rs.length <= i := by
        have := congrArg List.length hm5
        rw [List.length_map, List.length_take] at this
        omega
      have li : i < ys4.length := (List.getElem?_eq_some_iff.mp hz').1
      refine ⟨q0, _, _, rfl, rfl, h10, oW (by rw [List.length_map]; omega), rs ++ [(z, dE zs (1 * 2 ^ r8.toNat) c.toNat)], _, _, rfl, ?_, ?_, f9.set (Ne.symm nq), ((x5.trans xx).trans (Same.ext y9)).at hq0, ts ++ [t], ?_, ?_⟩
      . rw [List.map_append, hm5, bN hz']; rfl
      . intro r hr'
        rcases List.mem_append.mp hr' with hr' | hr'
        . exact hg5 r hr'
        . rw [List.mem_singleton.mp hr']
          exact ⟨⟨⟨rQ (by omega) mk1 mk2, Nat.le_trans (jZ _ _ _) (by omega), kS zn (by omega)⟩, fun d hd => nY (by omega) hd⟩, oH zsrt (by omega)⟩
      . rw [aB, List.map_append]; rfl
      . exact gH.keep (TK.lst h10) (Paired.snoc (gH.keep tk t5) zaD)
    . have mk1 : (1 : Int) <= 1 + r6 := by omega
      have mk2 : 1 + r6 < 2 ^ c.toNat := by omega
      have xx := x6.trans x7
      have h8q := xx _ _ nq h5
      have h8l := xx _ _ nl (x5 _ _ nl h4l)
      refine ⟨_, rfl, .inl ⟨rfl, _, SqL.of h8q⟩, _, rfl, _, rfl, c, rfl, by omega, by omega, fun D hD => zix (K := K) (n := c.toNat) (m := (1 + r6)) (by omega) hz hD h8l fun H9 x9 hD9 => ?_⟩
      refine ⟨D, _, rfl, .inl ⟨SqL.of hD9, fun d hd => ⟨jW (show 2 <= 1000 by decide), fun t ht => ?_⟩⟩⟩
      have y9 : Same H7 (upd (upd H9 d (.tup ((dE zs (1 + r6) c.toNat).map V.str))) t (.tup [.str z, .ref d])) := x9.trans ((aK hd).trans (aK ht))
      have f9 := Same.flow y9 f7
      have ndt : d ≠ t := fun e => by rw [<- e, aB] at ht; cases ht
      have zaD : sN (upd (upd H9 d (.tup ((dE zs (1 + r6) c.toNat).map V.str))) t (.tup [.str z, .ref d])) t (z, dE zs (1 + r6) c.toNat) := ⟨d, aB, by rw [aH ndt]; exact aB⟩
      generalize upd (upd H9 d (.tup ((dE zs (1 + r6) c.toNat).map V.str))) t (.tup [.str z, .ref d]) = H10 at y9 f9 zaD ⊢
      have h10 := y9 _ _ h8q
      have tk : TK H5 H10 := (xx.tk f5).trans (Same.tk y9)
      have lts : ts.length = rs.length := Paired.length t5
      have lrs : rs.length <= i := by
        have := congrArg List.length hm5
        rw [List.length_map, List.length_take] at this
        omega
      have li : i < ys4.length := (List.getElem?_eq_some_iff.mp hz').1
      refine ⟨q0, _, _, rfl, rfl, h10, oW (by rw [List.length_map]; omega), rs ++ [(z, dE zs (1 + r6) c.toNat)], _, _, rfl, ?_, ?_, f9.set (Ne.symm nq), ((x5.trans xx).trans (Same.ext y9)).at hq0, ts ++ [t], ?_, ?_⟩
      . rw [List.map_append, hm5, bN hz']; rfl
      . intro r hr'
        rcases List.mem_append.mp hr' with hr' | hr'
        . exact hg5 r hr'
        . rw [List.mem_singleton.mp hr']
          exact ⟨⟨⟨rQ (by omega) mk1 mk2, Nat.le_trans (jZ _ _ _) (by omega), kS zn (by omega)⟩, fun d hd => nY (by omega) hd⟩, oH zsrt (by omega)⟩
      . rw [aB, List.map_append]; rfl
      . exact gH.keep (TK.lst h10) (Paired.snoc (gH.keep tk t5) zaD)
  . rintro σ H5 ⟨rs, v5, v6, rfl, hm5, hg5, f5, x5, h5⟩
    rw [List.length_map, List.take_length] at hm5
    refine ⟨_, rfl, q q0 rs H5 ⟨?_, ?_, by rw [hm5]; exact n4, fun r hr => (hg5 r hr).1.1, by rw [hm5]; exact b4, fun r hr d hd => zb d ((hg5 r hr).1.2 d hd), ⟨zs, by omega, fun r hr => (hg5 r hr).1.2⟩, fun r hr => (hg5 r hr).2⟩ nq hq1 f5 (x4'.trans x5) h5⟩
    . intro e
      rw [e] at hm5
      have : ys4.length = 0 := by rw [<- hm5]; rfl
      omega
    . have : rs.length = ys4.length := by rw [<- hm5, List.length_map]
      omega
end
abbrev iX : Stmt := top 6
abbrev cZ : Stmt := top 7
abbrev dN : Stmt := top 15
abbrev bJ : Stmt := oY (top 14) 0
abbrev cW : Stmt := oY (top 14) 1
section
variable {P : Program} {w : World} {K : W.Frag} {mg : Str -> Option Value} {base : Heap} {f g g2 g3 : Addr} {fd gd gd2 gd3 : FuncData} {k : Nat} {C : Addr}
def jN (K : W.Frag) : Sp := fun vs H Q _ => ∃ (p : Addr) (ys : List Str), vs = [.ref p] /\ (SqL K H p (ys.map V.str) \/ SqT K H p (ys.map V.str)) /\ ys.length < 64 /\
  ∀ (t : Addr) (zs : List Str) (H' : Hp), sortedS zs = true -> zs.Perm (eQ ys) -> H t = none -> Same H H' -> H' t = some (.tup (zs.map V.str)) -> Q (.ref t) H'
theorem qY : bE ["things"] ["things"] (aD iX) := ⟨rfl, rfl, rfl, by decide +kernel, rfl, by decide +kernel, by decide +kernel⟩
def j8 (K : W.Frag) : Sp := fun vs H Q _ => ∃ (p : Addr) (ys : List Int), vs = [.ref p] /\ SqL K H p (ys.map V.int) /\ ys.length < 1000 /\ (∀ zs : List Int, zs.Nodup -> (∀ x, x ∈ zs ↔ x ∈ ys) -> zs.length < 64) /\
  ∀ (t : Addr) (zs : List Int) (H' : Hp), zs.Pairwise (· <= ·) -> zs.Nodup -> (∀ x, x ∈ zs ↔ x ∈ ys) -> H t = none -> Same H H' -> H' t = some (.tup (zs.map V.int)) -> Q (.ref t) H'
def mR (K : W.Frag) : Sp := fun vs H Q E => jN K vs H Q E \/ j8 K vs H Q E
theorem zF (F : Fun K "rising" "rising" iX f fd) (B : Bt mg) : FnOk P w K mg base CX0 (k + 1) f fd ["things"] (mR K) := by
  refine F.ok qY (fun vs H Q E h => ?_) (fun cdv A outer s H vs Q E hr h => ?_)
  . rcases h with ⟨p, ys, rfl, _⟩ | ⟨p, ys, rfl, _⟩
    . rfl
    . rfl
  have nd := qY.nd
  refine ⟨_, (aJ (bK (cF gY rfl B.tuple_ (by decide +kernel) (aA (aT (lA rfl) rfl B.sorted_ (by decide +kernel) (aA (cF (pI rfl) rfl B.set_ (by decide +kernel) (aA (pv 0) aE)) aE)) aE)))), ?_⟩
  try dsimp only [eU, Cx.nox, Cx.wish]
  rcases h with ⟨p, ys, rfl, hS, h64, q⟩ | ⟨p, ys, rfl, hS, hl, h64, q⟩
  . have hf := rS ys
    have fin : ∀ l, H l = none -> ∃ p zs, [V.ref l] = [.ref p] /\ upd H l (mO P w l (eQ ys)) p = some (mO P w p zs) /\ zs.length < 64 /\ ∀ l2 zs', upd H l (mO P w l (eQ ys)) l2 = none -> zs'.Perm zs -> sortedS zs' = true ->
      ∃ p ys', [V.ref l2] = [.ref p] /\ ((SqL K (upd (upd H l (mO P w l (eQ ys))) l2 (.lst (zs'.map V.str))) p ys' /\ ∀ t, upd (upd H l (mO P w l (eQ ys))) l2 (.lst (zs'.map V.str)) t = none -> Q (.ref t) (upd (upd (upd H l (mO P w l (eQ ys))) l2 (.lst (zs'.map V.str))) t (.tup ys'))) \/
        (SqT K (upd (upd H l (mO P w l (eQ ys))) l2 (.lst (zs'.map V.str))) p ys' /\ Q (.ref p) (upd (upd H l (mO P w l (eQ ys))) l2 (.lst (zs'.map V.str))))) := fun l hl =>
      ⟨l, eQ ys, rfl, aB, by omega, fun l2 zs hl2 hp hs => ⟨l2, _, rfl, .inl ⟨SqL.of aB, fun t ht => q t zs _ hs hp ((aK hl).free ((aK hl2).free ht)) (((aK hl).trans (aK hl2)).trans (aK ht)) aB⟩⟩⟩
    rcases hS with hS | hS
    . exact ⟨_, rfl, .inl (.inl ⟨p, ys, rfl, hS, by omega, fun l hl => .inl (fin l hl)⟩)⟩
    . exact ⟨_, rfl, .inl (.inr ⟨p, ys, rfl, hS, by omega, fun l hl => .inl (fin l hl)⟩)⟩
  . exact ⟨_, rfl, .inr ⟨p, ys, rfl, hS, hl, fun l zs hl hn hm => .inr ⟨l, zs, rfl, aB, h64 zs hn hm, fun l2 zs' hl2 hp hs => ⟨l2, _, rfl, .inl ⟨SqL.of aB, fun t ht => q t zs' _ hs (hp.nodup_iff.mpr hn) (fun x => (hp.mem_iff).trans (hm x)) ((aK hl).free ((aK hl2).free ht)) (((aK hl).trans (aK hl2)).trans (aK ht)) aB⟩⟩⟩⟩⟩
def yO (K : W.Frag) : Sp := fun vs H Q _ => ∃ (p : Addr) (zs : List Str), vs = [.ref p] /\ SqT K H p (zs.map V.str) /\ zs.Nodup /\ zs.length <= 60 /\ ∀ H', Same H H' -> Q .non H'
theorem uA : bE ["names", "seen", "name"] ["names"] (aD cZ) := ⟨rfl, rfl, rfl, by decide +kernel, rfl, by decide +kernel, by decide +kernel⟩
theorem zbd (F : Fun K "refuse_twice" "refuse_twice" cZ f fd) (B : Bt mg) : FnOk P w K mg base CX0 (k + 1) f fd ["names"] (yO K) := by
  refine F.ok uA (fun vs H Q E h => ?_) (fun cdv A outer s H vs Q E hr h => ?_)
  . obtain ⟨p, zs, rfl, _⟩ := h
    rfl
  obtain ⟨p, zs, rfl, hS, hnd, h60, q⟩ := h
  have nd := uA.nd
  refine ⟨_, (aG (aS (i := 1) nd rfl (Or.inl rfl) (nV nQ rfl B.set_ (by decide +kernel))) (aJ (fH PassesOwn.never rfl (jA (pv 0)) (aO (i := 2) nd rfl (Or.inl rfl)) (aG (eG (bW oJ (pv 2) (pv 1) rfl) (aJ pC) bM) (aJ (eS (zbT PySem.F.slot_set_add PySem.F.type_set_add e9 (pv 1) (aA (pv 2) aE)))))))), ?_⟩
  try dsimp only [eU, Cx.nox, Cx.wish]
  refine b8 ?_
  intro D0 σ0 U2
  refine ⟨rfl, fun l hl => ?_⟩
  refine ⟨_, rfl, p, rfl, ⟨_, Same.tup (aK hl) hS⟩, pP (xs := zs.map V.str) (fun i σ H' => ∃ v : Option V, σ = [some (.ref p), some (.ref l), v] /\ H' l = some (mO P w l (zs.take i)) /\ Same H H') ?_ ?_ ?_ ?_⟩
  . exact ⟨none, rfl, aB, aK hl⟩
  . rintro i σ H1 _ ⟨v, _, _, x⟩
    exact Same.tup x hS
  . rintro i y σ H1 hy ⟨v, rfl, h1, x1⟩
    rw [List.getElem?_map] at hy
    obtain ⟨z, hz, rfl⟩ := Option.map_eq_some_iff.mp hy
    have hn := fV hnd hz
    have hi : i < zs.length := (List.getElem?_eq_some_iff.mp hz).1
    refine ⟨_, rfl, _, rfl, z, l, _, rfl, rfl, h1, _, rfl, ?_⟩
    rw [decide_eq_false hn]
    refine oF ?_
    refine ⟨_, rfl, ⟨l, _, rfl, h1⟩, _, rfl, l, z, _, rfl, rfl, h1, by rw [List.length_take]; omega, _, rfl, ?_, x1.at hl⟩
    rw [aB, if_neg hn, bN hz]
    try rfl
  . rintro σ H1 ⟨v, rfl, _, x1⟩
    exact q H1 x1
def pW : Sp := fun vs H Q _ => ∃ (L : Addr) (rs : List Row), vs = [.ref L] /\ dD H L rs /\ nX rs /\ ∀ H', Same H H' -> Q .non H'
theorem nS : bE ["rows", "seen", "letter", "desks"] ["rows"] (aD dN) := ⟨rfl, rfl, rfl, by decide +kernel, rfl, by decide +kernel, by decide +kernel⟩
theorem wW (F : Fun K "refuse_rows" "refuse_rows" dN f fd) (B : Bt mg) (fA : Fn P w K mg base k "refuse_twice" ["names"] (yO K) g gd) : FnOk P w K mg base CX0 (k + 1) f fd ["rows"] pW := by
  refine F.ok nS (fun vs H Q E h => ?_) (fun cdv A outer s H vs Q E hr h => ?_)
  . obtain ⟨L, rs, rfl, _⟩ := h
    rfl
  obtain ⟨L, rs, rfl, ⟨ts, hL, hT⟩, hG, q⟩ := h
  have nd := nS.nd
  have dR := Paired.length hT
  have hl6 := hG.len
  refine ⟨_, (aG (aS (i := 1) nd rfl (Or.inl rfl) (nV nQ rfl B.set_ (by decide +kernel))) (aJ (fH PassesOwn.never rfl (cS (pv 0)) (fO rfl (aX (aO (i := 2) nd rfl (Or.inl rfl)) (aX (aO (i := 3) nd rfl (Or.inl rfl)) dX))) (aG (eG (bW oJ (pv 2) (pv 1) rfl) (aJ pC) bM) (aG (eS (zbT PySem.F.slot_set_add PySem.F.type_set_add e9 (pv 1) (aA (pv 2) aE))) (aJ (eS (aL fA.ok hr rfl fA.at_ fA.kp fA.bn .nil bF (aA (pv 3) aE))))))))), ?_⟩
  try dsimp only [eU, Cx.nox, Cx.wish]
  refine b8 ?_
  intro D0 σ0 U2
  refine ⟨rfl, fun l hl => ?_⟩
  refine ⟨_, rfl, L, rfl, ⟨_, SqL.of ((aK hl) _ _ hL)⟩, gU (xs := ts.map V.ref) (fun i σ H' => ∃ v2 v3 : Option V, σ = [some (.ref L), some (.ref l), v2, v3] /\ H' l = some (mO P w l ((rs.map (·.1)).take i)) /\ Same H H') ?_ ?_ ?_ ?_⟩
  . exact ⟨none, none, rfl, aB, aK hl⟩
  . rintro i σ H1 _ ⟨v2, v3, _, _, x⟩
    exact SqL.of (x _ _ hL)
  . rintro i y σ H1 hy ⟨v2, v3, rfl, h1, x1⟩
    rw [List.getElem?_map] at hy
    obtain ⟨t, ht, rfl⟩ := Option.map_eq_some_iff.mp hy
    obtain ⟨r, hr', d, e1, e2⟩ := hT.get ht
    have hz : (rs.map (·.1))[i]? = some r.1 := by rw [List.getElem?_map, hr']; rfl
    have hn := fV hG.nd hz
    have hi : i < rs.length := (List.getElem?_eq_some_iff.mp hr').1
    have zaD := hG.row r (List.mem_of_getElem? hr')
    refine ⟨t, _, rfl, SqT.of (x1 _ _ e1), rfl, _, _, rfl, _, _, rfl, rfl, ?_⟩
    refine sX ?_
    intro D1 σ1 W3 W2
    refine ⟨_, rfl, _, rfl, r.1, l, _, rfl, rfl, h1, _, rfl, ?_⟩
    rw [decide_eq_false hn]
    refine oF ?_
    refine ⟨_, rfl, ⟨l, _, rfl, h1⟩, _, rfl, l, r.1, _, rfl, rfl, h1, by rw [List.length_take]; omega, ?_⟩
    have x2 : Same H (upd H1 l (mO P w l (if r.1 ∈ (rs.map (·.1)).take i then (rs.map (·.1)).take i else (rs.map (·.1)).take i ++ [r.1]))) := x1.at hl
    refine ⟨_, rfl, d, r.2, rfl, SqT.of (x2 _ _ e2), zaD.2.2, by omega, fun H2 x3 => ⟨_, _, rfl, ?_, x2.trans x3⟩⟩
    refine x3 _ _ ?_
    rw [aB, if_neg hn, bN hz]
    try rfl
  . rintro σ H1 ⟨v2, v3, rfl, _, x1⟩
    exact q H1 x1
def mZ (C : Addr) (H : Hp) (x : Addr) (rs : List Row) : Prop := ∃ (dx tl td dd : Addr) (kvs : List (Key × V)) (ds : List Str), H x = some (.ins C dx [("letters", .ref tl), ("desks", .ref td), ("desks_at", .ref dd)]) /\ H tl = some (.tup ((rs.map (·.1)).map V.str)) /\
  H td = some (.tup (ds.map V.str)) /\ sortedS ds = true /\ ds.Nodup /\ ds.length <= 60 /\ (∀ d, d ∈ ds ↔ ∃ r ∈ rs, d ∈ r.2) /\ H dd = some (.dK kvs) /\ ∀ r ∈ rs, ∃ t zs, gR kvs (.inr r.1) = some (.ref t) /\ H t = some (.tup (zs.map V.str)) /\ zs.Perm r.2 /\ sortedS zs = true
theorem mZ.same {C x : Addr} {H H' : Hp} {rs : List Row} (h : mZ C H x rs) (e : Same H H') : mZ C H' x rs := by
  obtain ⟨dx, tl, td, dd, kvs, ds, h1, h2, h3, h4, h5, h6, h7, h8, h9⟩ := h
  exact ⟨dx, tl, td, dd, kvs, ds, e _ _ h1, e _ _ h2, e _ _ h3, h4, h5, h6, h7, e _ _ h8, fun r hr => let ⟨t, zs, a, b, c⟩ := h9 r hr; ⟨t, zs, a, e _ _ b, c⟩⟩
structure ShC (K : W.Frag) (C : Addr) : Prop where
  cls : Cls K C
  n1 : jX K C "letters"
  n2 : jX K C "desks"
  n3 : jX K C "desks_at"
def zcy (C : Addr) : Sp := fun vs H Q _ => ∃ (x L dx : Addr) (rs : List Row), vs = [.ref x, .ref L] /\ H x = some (.ins C dx []) /\ dD H L rs /\ nX rs /\
  ∀ H', mZ C H' x rs -> (∀ b o, b ≠ x -> H b = some o -> H' b = some o) -> Q .non H'
theorem zG : bE ["self", "rows"] ["self", "rows"] (aD bJ) := ⟨rfl, rfl, rfl, by decide +kernel, rfl, by decide +kernel, by decide +kernel⟩
theorem rJ {D L : Addr} {Q : VK} {H1 : Hp} {rs : List Row} (hl : rs.length <= 60) (hD : H1 D = none) (hL : dD H1 L rs) (hdn : ∀ H', Same H1 H' -> H' D = some (.lst ((rs.map (·.1)).map V.str)) -> Q (.ref D) H') :
    bO (Itl K L) D (sH K 2 (eK (aZ 0) (eK (aZ 1) sI))) gG (bD 0) Q [none, none] H1 := by
  obtain ⟨ts, hL, hT⟩ := hL
  have dR := Paired.length hT
  refine iO (xs := ts.map V.ref) (fun i ys σ H => ∃ v0 v1 : Option V, ys = ((rs.take i).map (·.1)).map V.str /\ σ = [v0, v1] /\ Same H1 H) ?_ (by rw [List.length_map]; omega) ?_ ?_ ?_ ?_
  . exact ⟨none, none, rfl, rfl, aK hD⟩
  . rintro i ys σ H ⟨v0, v1, rfl, _⟩
    rw [List.length_map, List.length_map, List.length_take]; omega
  . rintro i ys σ H ⟨v0, v1, _, _, x⟩
    exact SqL.of (x _ _ hL)
  . rintro i y ys σ H hy hl2 ⟨v0, v1, rfl, rfl, x⟩
    rw [List.getElem?_map] at hy
    obtain ⟨t, ht, rfl⟩ := Option.map_eq_some_iff.mp hy
    obtain ⟨r, hr', d, e1, e2⟩ := hT.get ht
    refine ⟨t, _, rfl, SqT.of (x _ _ e1), rfl, _, _, rfl, _, _, rfl, rfl, _, rfl, hl2, _, _, ?_, rfl, x.at hD⟩
    rw [bN hr', List.map_append, List.map_append]; rfl
  . rintro ys σ H hl2 ⟨v0, v1, rfl, _, x⟩
    rw [List.length_map, dR, List.take_length] at hl2
    exact hdn H x hl2
theorem zjd {D L : Addr} {Q : Hp -> Prop} {H1 : Hp} {rs : List Row} (hl : rs.length <= 6) (h4 : ∀ r ∈ rs, r.2.length <= 4) (hD : H1 D = none) (hL : dD H1 L rs) (hdn : ∀ H', Same H1 H' -> H' D = some (.lst ((rs.flatMap (·.2)).map V.str)) -> Q H') :
    kJ (Itl K L) (sH K 2 (eK (aZ 0) (eK (aZ 1) sI))) gG (vK (zbE K (bD 1)) (aZ 2) gG (sV D (bD 2))) (fun _ H' => Q H') [none, none, none] (upd H1 D (.lst [])) := by
  obtain ⟨ts, hL, hT⟩ := hL
  have dR := Paired.length hT
  refine mU (xs := ts.map V.ref) (fun i σ H => ∃ v0 v1 v2 : Option V, σ = [v0, v1, v2] /\ H D = some (.lst (((rs.take i).flatMap (·.2)).map V.str)) /\ ((rs.take i).flatMap (·.2)).length <= 4 * i /\ Same H1 H) ?_ ?_ ?_ ?_
  . exact ⟨none, none, none, rfl, aB, Nat.zero_le _, aK hD⟩
  . rintro i σ H _ ⟨v0, v1, v2, _, _, _, x⟩
    exact SqL.of (x _ _ hL)
  . rintro i y σ H hy ⟨v0, v1, v2, rfl, h1, l1, x⟩
    rw [List.getElem?_map] at hy
    obtain ⟨t, ht, rfl⟩ := Option.map_eq_some_iff.mp hy
    obtain ⟨r, hr', d, e1, e2⟩ := hT.get ht
    have hi : i < rs.length := (List.getElem?_eq_some_iff.mp hr').1
    have r4 := h4 r (List.mem_of_getElem? hr')
    have fm : (rs.take (i + 1)).flatMap (·.2) = (rs.take i).flatMap (·.2) ++ r.2 := by rw [bN hr', List.flatMap_append]; simp
    refine ⟨t, _, rfl, SqT.of (x _ _ e1), rfl, _, _, rfl, _, _, rfl, rfl, ?_⟩
    refine ⟨_, rfl, d, rfl, ⟨_, SqT.of (x _ _ e2)⟩, lF (xs := r.2.map V.str) (fun j σ2 H2 => ∃ v2 : Option V, σ2 = [some (.str r.1), some (.ref d), v2] /\ H2 D = some (.lst (((rs.take i).flatMap (·.2) ++ r.2.take j).map V.str)) /\ Same H1 H2) ?_ ?_ ?_ ?_⟩
    . exact ⟨_, rfl, by rw [List.take_zero, List.append_nil]; exact h1, x⟩
    . rintro j σ2 H2 _ ⟨v2', _, _, x2⟩
      exact SqT.of (x2 _ _ e2)
    . rintro j y2 σ2 H2 hy2 ⟨v2', rfl, h2, x2⟩
      rw [List.getElem?_map] at hy2
      obtain ⟨z, hz, rfl⟩ := Option.map_eq_some_iff.mp hy2
      have hj : j < r.2.length := (List.getElem?_eq_some_iff.mp hz).1
      refine ⟨_, rfl, _, h2, oW (by rw [List.length_map, List.length_append, List.length_take]; omega), _, rfl, ?_, x2.at hD⟩
      rw [aB, bN hz, <- List.append_assoc, List.map_append (l₂ := [z])]; rfl
    . rintro σ2 H2 ⟨v2', rfl, h2, x2⟩
      rw [List.length_map, List.take_length, <- fm] at h2
      refine ⟨_, _, _, rfl, h2, ?_, x2⟩
      rw [fm, List.length_append]; omega
  . rintro σ H ⟨v0, v1, v2, rfl, h1, l1, x⟩
    rw [List.length_map, dR, List.take_length] at h1
    exact hdn H x h1
end
section
variable {P : Program} {w : World} {K : W.Frag} {mg : Str -> Option Value} {base : Heap} {f g g2 g3 g4 : Addr} {fd gd gd2 gd3 gd4 : FuncData} {k : Nat} {C : Addr}
theorem o7 {D L : Addr} {Q : Hp -> Prop} {H1 : Hp} {rs : List Row} (hG : nX rs) (hD : H1 D = none) (hL : dD H1 L rs)
    (hdn : ∀ H' (kvs : List (Key × V)), Same H1 H' -> H' D = some (.dK kvs) -> (∀ r ∈ rs, ∃ t zs, gR kvs (.inr r.1) = some (.ref t) /\ H' t = some (.tup (zs.map V.str)) /\ zs.Perm r.2 /\ sortedS zs = true) -> Q H') :
    kJ (Itl K L) (sH K 2 (eK (aZ 0) (eK (aZ 1) sI))) gG (uF D (bD 0) (lV (jN K) [] E0 (bS (bD 1) iD))) (fun _ H' => Q H') [none, none] (upd H1 D (.dK [])) := by
  obtain ⟨ts, hL, hT⟩ := hL
  have dR := Paired.length hT
  have l6 := hG.len
  refine mU (xs := ts.map V.ref) (fun i σ H => ∃ (v0 v1 : Option V) (kvs : List (Key × V)), σ = [v0, v1] /\ H D = some (.dK kvs) /\ kvs.length <= i /\ (∀ r ∈ rs.take i, ∃ t zs, gR kvs (.inr r.1) = some (.ref t) /\ H t = some (.tup (zs.map V.str)) /\ zs.Perm r.2 /\ sortedS zs = true) /\ Same H1 H) ?_ ?_ ?_ ?_
  . exact ⟨none, none, [], rfl, aB, Nat.le_refl _, (by intro _ z; cases z), aK hD⟩
  . rintro i σ H _ ⟨v0, v1, kvs, _, _, _, _, x⟩
    exact SqL.of (x _ _ hL)
  . rintro i y σ H hy ⟨v0, v1, kvs, rfl, h1, l1, m1, x⟩
    rw [List.getElem?_map] at hy
    obtain ⟨t, ht, rfl⟩ := Option.map_eq_some_iff.mp hy
    obtain ⟨r, hr', d, e1, e2⟩ := hT.get ht
    have hi : i < rs.length := (List.getElem?_eq_some_iff.mp hr').1
    have zaD := hG.row r (List.mem_of_getElem? hr')
    have hz : (rs.map (·.1))[i]? = some r.1 := by rw [List.getElem?_map, hr']; rfl
    have hn := fV hG.nd hz
    refine ⟨t, _, rfl, SqT.of (x _ _ e1), rfl, _, _, rfl, _, _, rfl, rfl, ?_⟩
    refine ⟨_, rfl, _, rfl, d, r.2, rfl, .inr (SqT.of (x _ _ e2)), by omega, fun t2 zs H2 hs hp ht2 x2 h2 => ?_⟩
    refine ⟨kvs, .inr r.1, rfl, x2 _ _ h1, oW (by omega), _, _, jH kvs (.inr r.1) (.ref t2), rfl, aB, ?_, ?_, (x.trans x2).at hD⟩
    . have := cQ kvs (.inr r.1) (.ref t2)
      omega
    . intro r' hr2
      have nt : ∀ t' ys, H2 t' = some (.tup ys) -> t' ≠ D := fun t' ys e => dW e (x2 _ _ h1) (fun z => nomatch z)
      rcases (bU hr').mp hr2 with h | h
      . obtain ⟨t', zs', a1, a2, a3⟩ := m1 r' h
        refine ⟨t', zs', ?_, ?_, a3⟩
        . rw [iV, if_neg]
          . exact a1
          . intro e
            have e' : r'.1 = r.1 := Sum.inr.inj e
            refine hn ?_
            rw [<- List.map_take, <- e']
            exact List.mem_map_of_mem h
        . rw [aH (nt _ _ (x2 _ _ a2))]; exact x2 _ _ a2
      . subst h
        refine ⟨t2, zs, by rw [iV, if_pos rfl], by rw [aH (nt _ _ h2)]; exact h2, ?_, hs⟩
        exact hp.trans (gK (kX _) zaD.2.2 (nW _))
  . rintro σ H ⟨v0, v1, kvs, rfl, h1, l1, m1, x⟩
    rw [List.length_map, dR, List.take_length] at m1
    exact hdn H kvs x h1 m1
theorem zcO (F : Fun K "__init__" "Sharing.__init__" bJ f fd) (B : Bt mg) (S : ShC K C) (fJ : Fn P w K mg base k "refuse_rows" ["rows"] pW g gd) (G_rising : Fn P w K mg base k "rising" ["things"] (jN K) g2 gd2) :
    FnOk P w K mg base CX0 (k + 1) f fd ["self", "rows"] (zcy C) := by
  refine F.ok zG (fun vs H Q E h => ?_) (fun cdv A outer s H vs Q E hr h => ?_)
  . obtain ⟨x, L, dx, rs, rfl, _⟩ := h
    rfl
  obtain ⟨x, L, dx, rs, rfl, hx, hR, hG, q⟩ := h
  have nd := zG.nd
  have hl6 := hG.len
  refine ⟨_, (aG (eS (aL fJ.ok hr rfl fJ.at_ fJ.kp fJ.bn .nil bF (aA (pv 1) aE))) (aG (yK (pv 0) (cF gY rfl B.tuple_ (by decide +kernel) (aA (dI (g := (sH K 2 (eK (aZ 0) (eK (aZ 1) sI)))) (tc := gG) (te := (bD 0)) (own := ["letter", "desks"]) (fr := ([] : List Str)) (idx := []) rfl (by show aR _ _ _ (aD bJ); exact ⟨rfl, by decide +kernel, by decide +kernel, by decide +kernel, by decide +kernel, by decide +kernel, by decide +kernel⟩) (cS (pv 1)) (fun _ _ _ _ _ => (fO rfl (aX (aO (i := 0) (by show List.Nodup (["letter", "desks"] : List Str); decide +kernel) rfl (Or.inl rfl) (Or.inr rfl)) (aX (aO (i := 1) (by show List.Nodup (["letter", "desks"] : List Str); decide +kernel) rfl (Or.inl rfl) (Or.inr rfl)) dX)))) (fun _ _ _ _ _ => bT) (fun _ _ _ _ _ => (pv 0)) rfl (cV rfl)) aE)) rfl) (aG (yK (pv 0) (aL G_rising.ok hr rfl G_rising.at_ G_rising.kp G_rising.bn .nil bF (aA (tY (g := (sH K 2 (eK (aZ 0) (eK (aZ 1) sI)))) (tc := gG) (te := (bD 2)) (wi2 := (zbE K (bD 1))) (g2 := (aZ 2)) (tc2 := gG) (own := ["letter", "desks", "desk"]) (fr := ([] : List Str)) (idx := []) rfl (by show aR _ _ _ (aD bJ); exact ⟨rfl, by decide +kernel, by decide +kernel, by decide +kernel, by decide +kernel, by decide +kernel, by decide +kernel⟩) (cS (pv 1)) (fun _ _ _ _ _ => (fO rfl (aX (aO (i := 0) (by show List.Nodup (["letter", "desks", "desk"] : List Str); decide +kernel) rfl (Or.inl rfl) (Or.inr rfl)) (aX (aO (i := 1) (by show List.Nodup (["letter", "desks", "desk"] : List Str); decide +kernel) rfl (Or.inl rfl) (Or.inr rfl)) dX)))) (fun _ _ _ _ _ => bT) (fun _ _ _ _ _ => (jA (pv 1))) (fun _ _ _ _ _ => (aO (i := 2) (by show List.Nodup (["letter", "desks", "desk"] : List Str); decide +kernel) rfl (Or.inl rfl) (Or.inr rfl))) (fun _ _ _ _ _ => bT) (fun _ _ _ _ _ => (pv 2)) rfl (cV rfl)) aE)) rfl) (aJ (yK (pv 0) (tZ (g := (sH K 2 (eK (aZ 0) (eK (aZ 1) sI)))) (tc := gG) (tk := (bD 0)) (tv := (lV (jN K) [] E0 (bS (bD 1) iD))) (own := ["letter", "desks"]) (fr := ([] : List Str)) (idx := []) rfl (by show aR _ _ _ (aD bJ); exact ⟨rfl, by decide +kernel, by decide +kernel, by decide +kernel, by decide +kernel, by decide +kernel, by decide +kernel⟩) (cS (pv 1)) (fun _ _ _ _ _ => (fO rfl (aX (aO (i := 0) (by show List.Nodup (["letter", "desks"] : List Str); decide +kernel) rfl (Or.inl rfl) (Or.inr rfl)) (aX (aO (i := 1) (by show List.Nodup (["letter", "desks"] : List Str); decide +kernel) rfl (Or.inl rfl) (Or.inr rfl)) dX)))) (fun _ _ _ _ _ => bT) (fun _ _ _ _ _ => (pv 0)) (fun _ _ _ _ _ => (aL G_rising.ok hr rfl G_rising.at_ G_rising.kp G_rising.bn .nil bF (aA (pv 1) aE))) rfl (cV rfl)) rfl))))), ?_⟩
  try dsimp only [eU, Cx.nox, Cx.wish]
  refine i7 ?_
  intro D0 σ0 U4 U3 U2
  refine ⟨_, rfl, L, rs, rfl, hR, hG, fun H1 x1 => ?_⟩
  have hR1 := hR.same x1
  obtain ⟨ts, hL1, _⟩ := id hR1
  refine ⟨_, rfl, L, rfl, ⟨_, SqL.of hL1⟩, fun D hD => rJ (K := K) (by omega) hD hR1 fun H2 x2 hD2 => ⟨D, _, rfl, .inl ⟨SqL.of hD2, fun tl htl => ?_⟩⟩⟩
  have xx2 : Same H (upd H2 tl (.tup ((rs.map (·.1)).map V.str))) := (x1.trans x2).trans (aK htl)
  refine ⟨_, rfl, x, C, dx, [], rfl, xx2 _ _ hx, S.cls, S.n1, by decide, ?_⟩
  have y2 : ∀ b o, b ≠ x -> H b = some o -> upd (upd H2 tl (.tup ((rs.map (·.1)).map V.str))) x (.ins C dx (jI "letters" (.ref tl) [])) b = some o := fun b o n e => by rw [aH n]; exact xx2 _ _ e
  have ntl : tl ≠ x := dW (aB (H := H2)) (xx2 _ _ hx) (fun z => nomatch z)
  have k2 : upd (upd H2 tl (.tup ((rs.map (·.1)).map V.str))) x (.ins C dx (jI "letters" (.ref tl) [])) tl = some (.tup ((rs.map (·.1)).map V.str)) := by rw [aH ntl]; exact aB
  have k2x : upd (upd H2 tl (.tup ((rs.map (·.1)).map V.str))) x (.ins C dx (jI "letters" (.ref tl) [])) x = some (.ins C dx [("letters", .ref tl)]) := aB
  generalize upd (upd H2 tl (.tup ((rs.map (·.1)).map V.str))) x (.ins C dx (jI "letters" (.ref tl) [])) = H3 at y2 k2 k2x ⊢
  have hR3 : dD H3 L rs := by
    obtain ⟨ts, h1, h2⟩ := hR
    exact ⟨ts, y2 _ _ (dW h1 hx (fun z => nomatch z)) h1, gH.keep (fun b xs e => y2 _ _ (dW e hx (fun z => nomatch z)) e) h2⟩
  obtain ⟨ts3, hL3, _⟩ := id hR3
  refine ⟨_, rfl, L, rfl, ⟨_, SqL.of hL3⟩, fun D hD => zjd (K := K) (by omega) (fun r hr => (hG.row r hr).2.1) hD hR3 fun H4 x4 hD4 => ?_⟩
  have lfm : (rs.flatMap (·.2)).length <= 4 * rs.length := by
    clear q hR hR1 hR3
    have : ∀ l : List Row, (∀ r ∈ l, r.2.length <= 4) -> (l.flatMap (·.2)).length <= 4 * l.length := by
      intro l
      induction l with
      | nil => intro _; exact Nat.le_refl _
      | cons r rr ih =>
        intro h
        have h1 := h r List.mem_cons_self
        have h2 := ih fun r' hr' => h r' (List.mem_cons_of_mem _ hr')
        rw [List.flatMap_cons, List.length_append, List.length_cons]
        omega
    exact this rs fun r hr => (hG.row r hr).2.1
  refine ⟨D, rs.flatMap (·.2), rfl, .inl (SqL.of hD4), by omega, fun td ds H5 hs5 hp5 htd x5 h5 => ?_⟩
  have xx5 : Same H3 H5 := x4.trans x5
  refine ⟨_, rfl, x, C, dx, _, rfl, xx5 _ _ k2x, S.cls, S.n2, (by show 1 < 1000; decide), ?_⟩
  have dlen : ds.length <= 60 := by
    have := rS (rs.flatMap (·.2))
    rw [hp5.length_eq]; omega
  have dnd : ds.Nodup := hp5.nodup_iff.mpr (kX _)
  have dmem : ∀ d, d ∈ ds ↔ ∃ r ∈ rs, d ∈ r.2 := fun d => by rw [hp5.mem_iff, nW, List.mem_flatMap]
  have y5 : ∀ b o, b ≠ x -> H3 b = some o -> upd H5 x (.ins C dx (jI "desks" (.ref td) [("letters", .ref tl)])) b = some o := fun b o n e => by rw [aH n]; exact xx5 _ _ e
  have ntd : td ≠ x := dW h5 (xx5 _ _ k2x) (fun z => nomatch z)
  have k5 : upd H5 x (.ins C dx (jI "desks" (.ref td) [("letters", .ref tl)])) td = some (.tup (ds.map V.str)) := by rw [aH ntd]; exact h5
  have k5x : upd H5 x (.ins C dx (jI "desks" (.ref td) [("letters", .ref tl)])) x = some (.ins C dx [("letters", .ref tl), ("desks", .ref td)]) := aB
  generalize upd H5 x (.ins C dx (jI "desks" (.ref td) [("letters", .ref tl)])) = H6 at y5 k5 k5x ⊢
  have hR6 : dD H6 L rs := by
    obtain ⟨ts, h1, h2⟩ := hR3
    exact ⟨ts, y5 _ _ (dW h1 k2x (fun z => nomatch z)) h1, gH.keep (fun b xs e => y5 _ _ (dW e k2x (fun z => nomatch z)) e) h2⟩
  obtain ⟨ts6, hL6, _⟩ := id hR6
  refine ⟨_, rfl, L, rfl, ⟨_, SqL.of hL6⟩, fun D hD => o7 (K := K) hG hD hR6 fun H7 kvs x7 h7 m7 => ?_⟩
  refine ⟨_, rfl, x, C, dx, _, rfl, x7 _ _ k5x, S.cls, S.n3, (by show 2 < 1000; decide), ?_⟩
  have y7 : ∀ b o, b ≠ x -> H6 b = some o -> upd H7 x (.ins C dx (jI "desks_at" (.ref D) [("letters", .ref tl), ("desks", .ref td)])) b = some o := fun b o n e => by rw [aH n]; exact x7 _ _ e
  refine q _ ⟨dx, tl, td, D, kvs, ds, aB, y7 _ _ ntl (y5 _ _ ntl k2), y7 _ _ ntd k5, hs5, dnd, dlen, dmem, ?_, fun r hr => ?_⟩ fun b o n e => y7 _ _ n (y5 _ _ n (y2 _ _ n e))
  . rw [aH (dW h7 (x7 _ _ k5x) (fun z => nomatch z))]; exact h7
  . obtain ⟨t, zs, a1, a2, a3⟩ := m7 r hr
    exact ⟨t, zs, a1, by rw [aH (dW a2 (x7 _ _ k5x) (fun z => nomatch z))]; exact a2, a3⟩
def uL (C : Addr) : Sp := fun vs H Q _ => ∃ (x : Addr) (rs : List Row) (r : Row), vs = [.ref x, .str r.1] /\ mZ C H x rs /\ r ∈ rs /\ ∀ t zs, H t = some (.tup (zs.map V.str)) -> zs.Perm r.2 -> sortedS zs = true -> Q (.ref t) H
theorem yQ : bE ["self", "letter"] ["self", "letter"] (aD cW) := ⟨rfl, rfl, rfl, by decide +kernel, rfl, by decide +kernel, by decide +kernel⟩
theorem zcP (F : Fun K "meet" "Sharing.meet" cW f fd) (S : ShC K C) : FnOk P w K mg base CX0 (k + 1) f fd ["self", "letter"] (uL C) := by
  refine F.ok yQ (fun vs H Q E h => ?_) (fun cdv A outer s H vs Q E hr h => ?_)
  . obtain ⟨x, rs, r, rfl, _⟩ := h
    rfl
  obtain ⟨x, rs, r, rfl, ⟨dx, tl, td, dd, kvs, ds, h1, h2, h3, h4, h5, h6, h7, h8, h9⟩, hm, q⟩ := h
  have nd := yQ.nd
  obtain ⟨t, zs, a1, a2, a3, a4⟩ := h9 r hm
  refine ⟨_, (aG (eG (zjq (zan (kE hr) (pv 1) (jP (pv 0) rfl))) (aJ pC) bM) (aJ (bK (jD (kE hr) (jP (pv 0) rfl) (pv 1) (fun _ _ => rfl))))), ?_⟩
  try dsimp only [eU, Cx.nox, Cx.wish]
  refine b8 ?_
  intro D0 σ0 U2
  have g : mV H dd (.str r.1) (some (.ref t)) := by
    rw [<- a1]
    exact mV.k (k := Sum.inr r.1) h8
  refine ⟨_, rfl, _, rfl, x, C, dx, _, _, rfl, h1, S.cls, S.n3, rfl, dd, _, rfl, g, _, rfl, ?_⟩
  refine oF ?_
  exact ⟨_, rfl, x, C, dx, _, _, rfl, h1, S.cls, S.n3, rfl, _, rfl, dd, _, rfl, g, q t zs a2 a3 a4⟩
end
end KK
namespace L2
open PySem PySem.Spec PyProof.Rows
theorem zaK {K : W.Frag} {a : Addr} {xs : List V} {g : TG} {tb : TS} {D : iC} {σ : St} {H : Hp} (Pv : Nat -> St -> Hp -> Prop) (h0 : Pv 0 σ H) (hl : ∀ i σ H, i <= xs.length -> Pv i σ H -> SqL K H a xs)
    (hs : ∀ i x σ H T, xs[i]? = some x -> H T = none -> Pv i σ H -> g (.ref T) σ (upd H T (.tup [.int i, x])) fun σ2 H2 => tb { D with nx := Pv (i + 1), ct := Pv (i + 1), bk := D.nx } σ2 H2) (hd : ∀ σ H, Pv xs.length σ H -> D.nx σ H) :
    ∃ W : Nat -> Nat -> St -> Hp -> Prop, (∃ m, W 0 m σ H) /\ ∀ i m σ H, W i m σ H ->
      ((Ite K a).stop i H /\ D.nx σ H) \/ ((Ite K a).go i H /\ ∃ N : St -> Hp -> Prop, (∀ σ' H', N σ' H' -> ∃ m', m' < m /\ W (i + 1) m' σ' H') /\ ∀ x H', (Ite K a).yld i H x H' -> g x σ H' fun σ2 H2 => tb { D with nx := N, ct := N, bk := D.nx } σ2 H2) := by
  refine ⟨fun i m σ H => m = xs.length - i /\ i <= xs.length /\ Pv i σ H, ⟨xs.length, by simp, Nat.zero_le _, h0⟩, ?_⟩
  rintro i m σ H ⟨rfl, hi, p⟩
  have q := hl i σ H hi p
  by_cases hlt : i < xs.length
  . refine .inr ⟨⟨xs, xs[i], q, by simp [hlt]⟩, Pv (i + 1), fun σ' H' p' => ⟨xs.length - (i + 1), by omega, rfl, hlt, p'⟩, fun x H' y => ?_⟩
    obtain ⟨T, hT, rfl, y⟩ := y
    obtain ⟨x', hx, rfl⟩ := y xs q
    exact hs i x' σ H T hx hT p
  . have e : i = xs.length := by omega
    subst e
    exact .inl ⟨⟨xs, q, Nat.le_refl _⟩, hd σ H p⟩
end L2
namespace KK
open PySem L2 PyProof.Rows
def lX (C : Addr) (f1 : Str) : Sp := fun vs H Q _ => ∃ (e t : Addr) (v1 : V), vs = [.ref e, v1] /\ H e = some (rZ e C t none) /\ ∀ H', XAt H' e C [(f1, v1)] -> (∀ b o, b ≠ e -> H b = some o -> H' b = some o) -> Q .non H'
section
variable {P : Program} {w : World} {K : W.Frag} {mg : Str -> Option Value} {base : Heap} {f C M : Addr} {fd : FuncData} {k : Nat} {st : Stmt} {qual f1 f2 : Str} {p1 p2 p3 p4 p5 p6 p7 p8 : Pos}
theorem uN (F : Fun K "__init__" qual st f fd) (xc : XC K C M) (a1 : W.findIn K (.ref C) f1 = some none) (S : bE ["self", f1] ["self", f1] (aD st)) (hb : aV st = [.Assign [.Attribute (.Name "self" p1) f1 p2] (.Name f1 p3) p4])
    (h0 : (aD st).names.lookup ("self" : Str) = some .local) (h1 : (aD st).names.lookup f1 = some .local) (d1 : (f1 == ("__debug__" : Str)) = false) (d2 : (f1 == ("__classdict__" : Str)) = false) : FnOk P w K mg base CX0 (k + 1) f fd ["self", f1] (lX C f1) := by
  refine F.ok S (fun vs H Q E h => ?_) (fun cdv A outer s H vs Q E hr h => ?_)
  . obtain ⟨e, t, v1, rfl, _⟩ := h
    rfl
  obtain ⟨e, t, v1, rfl, he, q⟩ := h
  rw [hb]
  refine ⟨_, aJ (zfd xc a1 (pv 0 rfl (Or.inl h0)) (pv 1 rfl (Or.inl h1) d1 d2)), ?_⟩
  refine ⟨_, rfl, _, rfl, e, rfl, .inl ⟨t, he, fun dx hd hn => q _ ⟨t, .inr ⟨dx, by rw [aH (Ne.symm hn)]; exact aB, aB, hn⟩⟩ fun b o nb hb' => ?_⟩⟩
  rw [aH (aF hb' hd), aH nb]; exact hb'
variable {D : Addr} {cd : ClassData}
theorem XC.cls {C : Addr} (x : XC K C M) : ∃ cd, PySem.W.clsIn K C = some cd /\ cd.mro = .ref C :: .ref M :: fU := by
  obtain ⟨nm, q, N, bs, sn, sub, ab, col, dd, k0, k1, k2, k3, k5, e⟩ := x.at_
  exact ⟨_, by unfold PySem.W.clsIn; rw [e], rfl⟩
theorem XC.sub {C : Addr} (x : XC K C M) (v : Value) : PySem.W.subIn K (.ref C) v = some ((Value.ref C :: .ref M :: fU).contains v) := by
  obtain ⟨cd, h1, h2⟩ := XC.cls x
  show PySem.W.mroIn K C v = _
  unfold PySem.W.mroIn
  rw [h1, Option.bind_some, h2]
  rfl
theorem rH (x : XC K C M) (ty : PySem.W.typeIn K (.ref D) = some (.type "type")) (cl : PySem.W.clsIn K D = some cd) (n1 : C ≠ D) (n2 : D ≠ M) : W.kitOne K (.ref C) (.ref D) = some false := by
  unfold W.kitOne
  rw [if_neg (by simpa using n1)]
  unfold PySem.W.kitCls
  dsimp only
  rw [cl, ty, if_pos (by simp), XC.sub x]
  simp [fU, n1.symm, n2]
theorem zL {X : Cx} {j : Nat} {p pos : Pos} : PE X (.UnaryOp .USub (.Constant (.int 1) j p) pos) (fun _ H Q => Q (.int (-1)) H) := fun pins s σ H Q I h => znY zgX aI pins s σ H Q I ⟨1, rfl, h⟩
end
end KK
namespace KK
open PySem L2 PyProof.Rows KKM
abbrev fP : Stmt := top 23
section
variable {P : Program} {w : World} {K : W.Frag} {mg : Str -> Option Value} {base : Heap} {f g g2 g3 g4 : Addr} {fd gd gd2 gd3 gd4 : FuncData} {k j : Nat} {C : Addr}
structure qJ (P : Program) (w : World) (K : W.Frag) (mg : Str -> Option Value) (base : Heap) (k : Nat) (C : Addr) (g : Addr) (gd : FuncData) : Prop where
  mak : Mk K C g
  cls : Cls K C
  sh : ShC K C
  ok : FnOk P w K mg base CX0 k g gd ["self", "rows"] (zcy C)
  bn : gI K gd ["self", "rows"] []
  at_ : mg "Sharing" = some (.ref C)
structure d7 (P : Program) (w : World) (K : W.Frag) (mg : Str -> Option Value) (base : Heap) (k : Nat) (C : Addr) (g : Addr) (gd : FuncData) : Prop where
  meth : zlB K C "meet" g
  ok : FnOk P w K mg base CX0 k g gd ["self", "letter"] (uL C)
  bn : gI K gd ["self", "letter"] []
def fG (rs : List Row) (l : Str) : List Str := ((rs.find? fun r => r.1 == l).map (·.2)).getD []
theorem oB {rs : List Row} (hn : (rs.map (·.1)).Nodup) {r : Row} (hr : r ∈ rs) : fG rs r.1 = r.2 := by
  induction rs with
  | nil => cases hr
  | cons q t ih =>
    rw [List.map_cons, List.nodup_cons] at hn
    unfold fG
    rcases List.mem_cons.mp hr with e | e
    . subst e
      rw [List.find?_cons_of_pos (by simp)]
      rfl
    . have hne : q.1 ≠ r.1 := fun z => hn.1 (by rw [z]; exact List.mem_map_of_mem e)
      rw [List.find?_cons_of_neg (by simpa using hne)]
      exact ih hn.2 e
def zqm (rs : List Row) (row : List Str) (d : Str) : List Str := row.filter fun l => decide (d ∈ fG rs l)
abbrev Of (rs : List Row) (row : List Str) : Prop := ∀ l ∈ row, l ∈ rs.map (·.1)
def zfW (K : W.Frag) : Sp := fun vs H Q _ => ∃ (a L : Addr) (ys : List Str) (m : Int), vs = [.ref a, .ref L, .int m] /\ aY H a /\ H L = some (.lst (ys.map V.str)) /\ L ≠ a /\ ys ≠ [] /\ ys.length <= 60 /\ 1 <= m /\ m <= 20 /\
  ∀ (r : Addr) (row : List Str) (H' : Hp), row.length <= 60 -> (∀ l ∈ row, l ∈ ys) -> r ≠ a -> H r = none -> aY H' a -> Ext a H H' -> H' r = some (.lst (row.map V.str)) -> Q (.ref r) H'
theorem zcC : bE ["_law_flow_here", "_law_letters", "_law_most", "_law_many"] ["_law_flow_here", "_law_letters", "_law_most"] (aD fP) := ⟨rfl, rfl, rfl, by decide +kernel, rfl, by decide +kernel, by decide +kernel⟩
theorem tR {D a L : Addr} {Q : VK} {H1 : Hp} {ys : List Str} {n : Nat} (hn : n <= 100) (hy : ys ≠ []) (h60 : ys.length <= 60) (hD : H1 D = none) (hF : aY H1 a) (hL : H1 L = some (.lst (ys.map V.str))) (nL : L ≠ a)
    (hd : ∀ (row : List Str) (H' : Hp), row.length = n -> (∀ l ∈ row, l ∈ ys) -> aY H' a -> Ext a H1 H' -> H' D = some (.lst (row.map V.str)) -> Q (.ref D) H') :
    bO (Itr 0 n) D (aZ 0) gG (tOp (oA K) (bD 1) (lV fW [] E0 (bS (bD 2) (bS (tCB (fun xs H Q => ∃ p ys, xs = [.ref p] /\ (SqL K H p ys \/ SqT K H p ys) /\ Q (.int ys.length) H) (bS (bD 1) iD)) iD)))) Q [none, some (.ref L), some (.ref a)] H1 := by
  have nD := dB hD hF
  have zfe : 1 <= ys.length := List.length_pos_iff.mpr hy
  refine fN (fun i zs σ H => ∃ (xs : List Str) (v : Option V), zs = xs.map V.str /\ xs.length = i /\ (∀ l ∈ xs, l ∈ ys) /\ σ = [v, some (.ref L), some (.ref a)] /\ aY H a /\ Ext a H1 H) ?_ (by omega) ?_ ?_ ?_
  . exact ⟨[], none, rfl, rfl, (fun _ z => nomatch z), rfl, hF.new hD, Ext.new hD⟩
  . rintro i zs σ H ⟨xs, v, rfl, rfl, _⟩
    rw [List.length_map]; exact Nat.le_refl _
  . rintro i zs σ H hi hl ⟨xs, v, rfl, rfl, hm, rfl, fl, x⟩
    have hL1 : H L = some (.lst (ys.map V.str)) := x _ _ nL hL
    refine ⟨_, rfl, _, rfl, _, rfl, L, _, rfl, .inl (SqL.of hL1), a, _, rfl, fl, by rw [List.length_map]; omega, by rw [List.length_map]; omega, fun r H4 r0 r1 f4 x4 => ?_⟩
    rw [List.length_map] at r1
    have hk : r.toNat < ys.length := by omega
    have hat : atI (ys.map V.str) r = some (.str ys[r.toNat]) := by
      have e : (ys.map V.str)[r.toNat]? = some (.str ys[r.toNat]) := by rw [List.getElem?_map, List.getElem?_eq_getElem hk]; rfl
      have q := bV e
      rw [show ((r.toNat : Nat) : Int) = r by omega] at q
      exact q
    refine ⟨L, _, _, _, rfl, rfl, SqL.of (x4 _ _ nL hL1), hat, x4 _ _ nD hl, xs ++ [ys[r.toNat]], _, by rw [List.map_append]; rfl, by rw [List.length_append]; rfl, fun l hl' => ?_, rfl, f4.set (Ne.symm nD), zai (H1 := H1) hD (x.trans x4)⟩
    rcases List.mem_append.mp hl' with z | z
    . exact hm l z
    . rw [List.mem_singleton.mp z]; exact List.getElem_mem hk
  . rintro zs σ H hl ⟨xs, v, rfl, e, hm, _, fl, x⟩
    exact hd xs H e hm fl x hl
theorem zfp (F : Fun K "_law_row" "_law_row" fP f fd) (B : Bt mg) (aC : Fn P w K mg base k "_law_draw" ["_law_flow_here", "_law_many"] fW g gd) : FnOk P w K mg base CX0 (k + 1) f fd ["_law_flow_here", "_law_letters", "_law_most"] (zfW K) := by
  refine F.ok zcC (fun vs H Q E h => ?_) (fun cdv A outer s H vs Q E hr h => ?_)
  . obtain ⟨a, L, ys, m, rfl, _⟩ := h
    rfl
  obtain ⟨a, L, ys, m, rfl, hF, hL, nL, hy, h60, m1, m20, q⟩ := h
  have nd := zcC.nd
  refine ⟨_, (aG (aS (i := 3) nd rfl (Or.inl rfl) (aL aC.ok hr rfl aC.at_ aC.kp aC.bn .nil bF (aA (pv 0) (aA (aW cO (pv 2) aI) aE)))) (aG (eG (bW i5 (aL aC.ok hr rfl aC.at_ aC.kp aC.bn .nil bF (aA (pv 0) (aA aI aE))) aI (eP _)) (aJ (aS (i := 3) nd rfl (Or.inl rfl) (aW cO (pv 2) (aL aC.ok hr rfl aC.at_ aC.kp aC.bn .nil bF (aA (pv 0) (aA (aW zbL aI (pv 2)) aE)))))) bM) (aJ (bK (dI (g := (aZ 0)) (tc := gG) (te := (tOp (oA K) (bD 1) (lV fW [] E0 (bS (bD 2) (bS (tCB (fun xs H Q => ∃ p ys, xs = [.ref p] /\ (SqL K H p ys \/ SqT K H p ys) /\ Q (.int ys.length) H) (bS (bD 1) iD)) iD))))) (own := ["_law_k"]) (fr := ["_law_letters", "_law_flow_here"]) (idx := [1, 0]) rfl (by show aR _ _ _ (aD fP); exact ⟨rfl, by decide +kernel, by decide +kernel, by decide +kernel, by decide +kernel, by decide +kernel, by decide +kernel⟩) (dG rfl B.range_ (aA (pv 3) aE)) (fun _ _ _ _ _ => (aO (i := 0) (by show List.Nodup (["_law_k", "_law_letters", "_law_flow_here"] : List Str); decide +kernel) rfl (Or.inl rfl) (Or.inr rfl))) (fun _ _ _ _ _ => bT) (fun _ _ _ _ _ => (dZ bQ (pv 1) (aL aC.ok hr rfl aC.at_ aC.kp aC.bn .nil bF (aA (pv 2) (aA (aT bL rfl B.len_ PySem.boot_len (aA (pv 1) aE)) aE))) (fun _ _ => rfl))) rfl (cV rfl)))))), ?_⟩
  try dsimp only [eU, Cx.nox, Cx.wish]
  refine sX ?_
  intro D0 σ0 U3 U2
  refine ⟨_, rfl, _, rfl, _, _, rfl, rfl, a, _, rfl, hF, by omega, by omega, fun r1 H1 r10 r11 f1 x1 => ?_⟩
  refine ⟨_, rfl, a, 8, rfl, f1, by decide, by decide, fun r2 H2 r20 r21 f2 x2 => ⟨rfl, _, rfl, ?_⟩⟩
  have fin : ∀ (n : Int) (H3 : Hp), 0 <= n -> n <= 60 -> aY H3 a -> Ext a H H3 -> ∀ D, H3 D = none -> bO (Itr 0 n.toNat) D (aZ 0) gG (tOp (oA K) (bD 1) (lV fW [] E0 (bS (bD 2) (bS (tCB (fun xs H Q => ∃ p ys, xs = [.ref p] /\ (SqL K H p ys \/ SqT K H p ys) /\ Q (.int ys.length) H) (bS (bD 1) iD)) iD)))) Q [none, some (.ref L), some (.ref a)] H3 := fun n H3 n0 n60 f3 x3 D hD => by
    have nD := dB hD f3
    have hH : H D = none := by
      cases e : H D with
      | none => rfl
      | some o => rw [x3 D o nD e] at hD; cases hD
    exact tR (K := K) (by omega) hy h60 hD f3 (x3 _ _ nL hL) nL fun row H4 e4 hm f4 x4 hD4 => q D row H4 (by omega) hm nD hH f4 (x3.trans x4) hD4
  refine pR (fun _ => ?_) (fun _ => ?_)
  . refine ⟨_, rfl, _, rfl, _, rfl, _, _, rfl, rfl, a, _, rfl, f2, by omega, by omega, fun r3 H3 r30 r31 f3 x3 => ⟨_, _, rfl, rfl, ?_⟩⟩
    exact ⟨_, rfl, _, rfl, by omega, by omega, fun D hD => fin _ H3 (by omega) (by omega) f3 (x1.trans (x2.trans x3)) D hD⟩
  . exact ⟨_, rfl, _, rfl, by omega, by omega, fun D hD => fin _ H2 (by omega) (by omega) f2 (x1.trans x2) D hD⟩
end
abbrev cC : Stmt := top 8
section
variable {P : Program} {w : World} {K : W.Frag} {mg : Str -> Option Value} {base : Heap} {f g g2 g3 g4 : Addr} {fd gd gd2 gd3 gd4 : FuncData} {k j : Nat} {C CN M ft : Addr} {ftd : FuncData}
structure XMk (P : Program) (w : World) (K : W.Frag) (mg : Str -> Option Value) (base : Heap) (k : Nat) (C M : Addr) (f : Addr) (fd : FuncData) : Prop where
  xc : XC K C M
  hin : W.findIn K (.ref C) "__init__" = some (some (.ref f))
  hfn : W.isFn K (.ref f) = true
  ok : FnOk P w K mg base CX0 k f fd ["self", "letter"] (lX C "letter")
  bn : gI K fd ["self", "letter"] []
  at_ : mg "NoLetter" = some (.ref C)
  fn : W.findIn K (.ref C) "letter" = some none
structure FnX (P : Program) (w : World) (K : W.Frag) (mg : Str -> Option Value) (base : Heap) (k : Nat) (x : Str) (ps : List Str) (sp : Sp) (g : Addr) (gd : FuncData) : Prop where
  ok : FnOk P w K mg base (CXE P w) k g gd ps sp
  bn : gI K gd ps []
  kp : W.keepIn K (.ref g) = true
  at_ : mg x = some (.ref g)
def Lt (n : Str) : List (Str × V) := [("letter", .str n)]
theorem ziD {H H1 : Hp} {E : XK} {n : Str} {CT : Addr} {vs : List V} (x : Same H H1) (hE : ∀ a H', H a = none -> Same H H' -> eR H' a CT (Lt n) -> E (.ref a) none H') :
    ∀ e u, H1 e = none -> H1 u = none -> u ≠ e -> lX CT "letter" (.ref e :: [.str n]) (upd (upd H1 u (.tup vs)) e (rZ e CT u none)) (fun v H2 => v = .non /\ ∃ a fs, V.ref e = .ref a /\ XAt H2 a CT fs /\ zns H E CT a fs H2) E0 := fun e u he hu hne =>
  ⟨e, u, .str n, rfl, aB, fun H' hX k => ⟨rfl, e, Lt n, rfl, hX, x.free he, fun b o q => k b o (aF (x b o q) he) (by rw [aH (aF (x b o q) he), aH (aF (x b o q) hu)]; exact x b o q), fun H'' sm fl => hE e H'' (x.free he) sm fl⟩⟩
theorem qV {N : List Str} {qual : Str} {scope : Scope} {f : Addr} {cd : Value} {A : Around} {outer : List Env} {s0 : Shared} {H0 : Hp} {E : XK} {G : List (Str × V) -> Prop} (hE : ∀ a H' fs, G fs -> H0 a = none -> Same H0 H' -> eR H' a CN fs -> E (.ref a) none H') :
    jV (CXE P w) (eU (CXE P w) P w K mg base N qual scope f cd A outer s0 H0 E) (EX H0 fun a H' => ∃ fs, eR H' a CN fs /\ G fs) := by
  intro pins σ H s e s' I h
  obtain ⟨a, H', rfl, os, bare, un, hok, a', e1, na, sm, fs, fl, hG⟩ := h
  cases e1
  have I' : Inv (eU (CXE P w) P w K mg base N qual scope f cd A outer s0 H0 E) pins σ H' s' := I.call' (ch := []) os un hok bare (fun _ z => nomatch z)
  exact zdb I' fl fun H2 f2 k2 => hE a H2 fs hG na (fun b o q => k2 b o (aF q na) (sm b o q)) f2
def bad (ys row : List Str) : Option Str := row.find? fun l => !decide (l ∈ ys)
theorem eI {ys row : List Str} : bad ys row = none ↔ ∀ l ∈ row, l ∈ ys := by
  unfold bad
  rw [List.find?_eq_none]
  simp
theorem zci {ys row : List Str} {i : Nat} {l : Str} (h0 : bad ys (row.take i) = none) (hl : row[i]? = some l) (hn : l ∉ ys) : bad ys row = some l := by
  have e : row = row.take i ++ (l :: row.drop (i + 1)) := by
    have h1 := List.take_append_drop i row
    have hi : i < row.length := (List.getElem?_eq_some_iff.mp hl).1
    have h2 : row.drop i = l :: row.drop (i + 1) := by
      rw [List.drop_eq_getElem_cons hi]
      rw [(List.getElem?_eq_some_iff.mp hl).2]
    rw [h2] at h1
    exact h1.symm
  unfold bad at h0 ⊢
  rw [e, List.find?_append, h0]
  simp [hn]
def zbD (K : W.Frag) (CN : Addr) : Sp := fun vs H Q E => ∃ (T L : Addr) (ys row : List Str), vs = [.ref T, .ref L] /\ SqT K H T (ys.map V.str) /\ SqL K H L (row.map V.str) /\ (bad ys row = none -> ∀ H', Same H H' -> Q .non H') /\
  ∀ l, bad ys row = some l -> ∀ a H', H a = none -> Same H H' -> eR H' a CN (Lt l) -> E (.ref a) none H'
theorem u3 : bE ["letters", "row", "letter"] ["letters", "row"] (aD cC) := ⟨rfl, rfl, rfl, by decide +kernel, rfl, by decide +kernel, by decide +kernel⟩
theorem zew (F : Fun K "refuse_letters" "refuse_letters" cC f fd) (xt : XMk P w K mg base k CN M ft ftd) : FnOk P w K mg base (CXE P w) (k + 2) f fd ["letters", "row"] (zbD K CN) := by
  refine F.okX u3 (fun vs H Q E h => ?_) (fun cdv A outer s H vs Q E hr h => ?_)
  . obtain ⟨T, L, ys, row, rfl, _⟩ := h
    rfl
  obtain ⟨T, L, ys, row, rfl, hT, hL, q, qe⟩ := h
  have nd := u3.nd
  refine ⟨_, (aJ (fH PassesOwn.leaving rfl (cS (pv 1)) (aO (i := 2) nd rfl (Or.inl rfl)) (aJ (eG (bW eE (pv 2) (pv 0) rfl) (aJ (tN xt.xc rfl (tP xt.xc xt.hin xt.hfn xt.ok hr rfl xt.at_ xt.bn (aA (pv 2) aE)) rK)) bM)))), ?_⟩
  try dsimp only [eU, Cx.nox, Cx.wish]
  refine ⟨_, rfl, L, rfl, ⟨_, hL⟩, gU (xs := row.map V.str) (fun i σ H' => ∃ v : Option V, σ = [some (.ref T), some (.ref L), v] /\ bad ys (row.take i) = none /\ Same H H') ?_ ?_ ?_ ?_⟩
  . exact ⟨none, rfl, rfl, Same.refl _⟩
  . rintro i σ H1 _ ⟨v, _, _, x⟩
    exact x.seq hL
  . rintro i y σ H1 hy ⟨v, rfl, h0, x1⟩
    rw [List.getElem?_map] at hy
    obtain ⟨l, hl, rfl⟩ := Option.map_eq_some_iff.mp hy
    refine ⟨_, rfl, _, rfl, T, _, rfl, .inr (Same.tup x1 hT), rfl, fF ys, _, rfl, ?_⟩
    refine pR (fun c => ?_) (fun c => ?_)
    . have hn : l ∉ ys := eN.mp (by simpa using c)
      exact ⟨_, rfl, by simp, ziD x1 (qe l (zci h0 hl hn))⟩
    . have hm : l ∈ ys := by
        refine Classical.byContradiction fun z => c ?_
        rw [if_pos rfl, eN.mpr z]; rfl
      refine ⟨_, rfl, ?_, x1⟩
      rw [bN hl]
      exact eI.mpr fun l' hl' => (List.mem_append.mp hl').elim (eI.mp h0 l') fun z => by rw [List.mem_singleton.mp z]; exact hm
  . rintro σ H1 ⟨v, rfl, h0, x1⟩
    rw [List.length_map, List.take_length] at h0
    exact q h0 H1 x1
end
abbrev dL : Stmt := top 31
section
variable {P : Program} {w : World} {K : W.Frag} {mg : Str -> Option Value} {base : Heap} {f g g2 g3 g4 : Addr} {fd gd gd2 gd3 gd4 : FuncData} {k j : Nat} {C CN M ft : Addr} {ftd : FuncData}
def znP (H : Hp) (kv : List (Key × V)) (rs : List Row) : Prop := ∀ r ∈ rs, ∃ d, gR kv (.inr r.1) = some (.ref d) /\ H d = some (.tup (r.2.map V.str))
theorem vX {H : Hp} {ts : List Addr} {rs : List Row} (hr : gH H ts rs) : (rs.map (·.1)).Nodup -> ∃ kvs, sY H ts kvs /\ kvs.map (·.1) = rs.map (·.1) /\ znP H (kH kvs) rs := by
  induction hr with
  | nil => exact fun _ => ⟨[], .nil, rfl, fun _ z => nomatch z⟩
  | @cons t r _ rs h q ih =>
    intro hn
    rw [List.map_cons, List.nodup_cons] at hn
    obtain ⟨kvs, h1, h2, h3⟩ := ih hn.2
    obtain ⟨d, e1, e2⟩ := h
    refine ⟨(r.1, .ref d) :: kvs, .cons e1 h1, by rw [List.map_cons, h2]; rfl, fun r' hr' => ?_⟩
    by_cases e : r'.1 = r.1
    . rcases List.mem_cons.mp hr' with z | z
      . subst z
        exact ⟨d, by simp [gR, kH], e2⟩
      . exact absurd (by rw [<- e]; exact List.mem_map_of_mem z) hn.1
    . rcases List.mem_cons.mp hr' with z | z
      . exact absurd (by rw [z]) e
      . obtain ⟨d', a, b⟩ := h3 r' z
        refine ⟨d', ?_, b⟩
        rw [<- a]
        have ne : ¬ (Sum.inr r.1 : Key) = Sum.inr r'.1 := fun q => e (Sum.inr.inj q).symm
        simp [gR, kH, ne, Ne.symm e]
theorem zjQ {row : List Str} {n : Nat} {l : Str} (h : row[n]? = some l) : atI (row.map V.str) (n : Int) = some (.str l) := bV (by rw [List.getElem?_map, h]; rfl)
end
abbrev bR : Stmt := top 32
section
variable {P : Program} {w : World} {K : W.Frag} {mg : Str -> Option Value} {base : Heap} {f g g2 g3 g4 : Addr} {fd gd gd2 gd3 gd4 : FuncData} {k j : Nat} {C CN M ft : Addr} {ftd : FuncData}
theorem zaX {a b : List Str} (hp : a.Perm b) (ha : Srt a) (hb : Srt b) : a = b := by
  refine hp.eq_of_pairwise (le := fun a b => a.cps.toList <= b.cps.toList) (fun x y _ _ h1 h2 => ?_) ha hb
  have q : x.cps.toList = y.cps.toList := List.le_antisymm h1 h2
  obtain ⟨⟨x⟩⟩ := x
  obtain ⟨⟨y⟩⟩ := y
  have q' : x = y := q
  rw [q']
theorem tF (n : Nat) : (List.replicate n true).all id = true := by rw [List.all_eq_true]; intro b hb; exact (List.mem_replicate.mp hb).2
def tD (C : Addr) : Sp := fun vs H Q _ => ∃ (x L : Addr) (rs : List Row), vs = [.ref x, .ref L] /\ mZ C H x rs /\ dD H L rs /\ nX rs /\ ∀ H', Same H H' -> Q (.bl true) H'
theorem vC : bE ["_law_sharing", "_law_rows"] ["_law_sharing", "_law_rows"] (aD dL) := ⟨rfl, rfl, rfl, by decide +kernel, rfl, by decide +kernel, by decide +kernel⟩
theorem keeps {D L x : Addr} {Q : VK} {H1 : Hp} {rs : List Row} (hG : nX rs) (hS : mZ C H1 x rs) (hD : H1 D = none) (hL : dD H1 L rs) (hdn : ∀ H', Same H1 H' -> H' D = some (.lst ((List.replicate rs.length true).map V.bl)) -> Q (.ref D) H') :
    bO (Itl K L) D (sH K 2 (eK (aZ 0) (eK (aZ 1) sI))) gG (tOp (zbs K id) (tCB (fun xs H Q => ∃ p ys, xs = [.ref p] /\ (SqL K H p ys \/ SqT K H p ys) /\ ∀ l, H l = none -> Q (.ref l) (upd H l (.lst ys))) (bS (zei C "meet" (uL C) [] E0 (bD 2) (bS (bD 0) iD)) iD)) (tCB (fun xs H Q => ∃ p ys, xs = [.ref p] /\ (SqL K H p ys \/ SqT K H p ys) /\ ∀ l, H l = none -> Q (.ref l) (upd H l (.lst ys))) (bS (bD 1) iD))) Q [none, none, some (.ref x)] H1 := by
  obtain ⟨ts, hL, hT⟩ := hL
  have dR := Paired.length hT
  have l6 := hG.len
  refine iO (xs := ts.map V.ref) (fun i ys σ H => ∃ v0 v1 : Option V, ys = (List.replicate i true).map V.bl /\ σ = [v0, v1, some (.ref x)] /\ Same H1 H) ?_ (by rw [List.length_map]; omega) ?_ ?_ ?_ ?_
  . exact ⟨none, none, rfl, rfl, aK hD⟩
  . rintro i ys σ H ⟨v0, v1, rfl, _⟩
    rw [List.length_map, List.length_replicate]; exact Nat.le_refl _
  . rintro i ys σ H ⟨v0, v1, _, _, x1⟩
    exact SqL.of (x1 _ _ hL)
  . rintro i y ys σ H hy hl2 ⟨v0, v1, rfl, rfl, x1⟩
    rw [List.getElem?_map] at hy
    obtain ⟨t, ht, rfl⟩ := Option.map_eq_some_iff.mp hy
    obtain ⟨r, hr', d, e1, e2⟩ := hT.get ht
    have hm : r ∈ rs := List.mem_of_getElem? hr'
    have hS1 := hS.same x1
    obtain ⟨dx, _, _, _, _, _, g1, _⟩ := id hS1
    refine ⟨t, _, rfl, SqT.of (x1 _ _ e1), rfl, _, _, rfl, _, _, rfl, rfl, ?_⟩
    refine ⟨_, rfl, x, dx, _, rfl, g1, rfl, _, rfl, x, rs, r, rfl, hS1, hm, fun t2 zs2 a1 a2 a3 => ⟨t2, _, rfl, .inr (SqT.of a1), fun q1 hq1 => ?_⟩⟩
    have ez : zs2 = r.2 := zaX a2 (sorted_pair zs2 a3) (hG.srt r hm)
    subst ez
    have x2 : Same H (upd H q1 (.lst (r.2.map V.str))) := aK hq1
    have k2 : upd H q1 (.lst (r.2.map V.str)) q1 = some (.lst (r.2.map V.str)) := aB
    generalize upd H q1 (.lst (r.2.map V.str)) = H2 at x2 k2 ⊢
    refine ⟨_, rfl, d, _, rfl, .inr (SqT.of (x2 _ _ (x1 _ _ e2))), fun q2 hq2 => ?_⟩
    have x3 : Same H2 (upd H2 q2 (.lst (r.2.map V.str))) := aK hq2
    have k3 : upd H2 q2 (.lst (r.2.map V.str)) q2 = some (.lst (r.2.map V.str)) := aB
    generalize upd H2 q2 (.lst (r.2.map V.str)) = H3 at x3 k3 ⊢
    refine ⟨q1, q2, _, _, rfl, rfl, SqL.of (x3 _ _ k2), SqL.of k3, (x2.trans x3) _ _ hl2, _, _, ?_, rfl, (x1.trans (x2.trans x3)).at hD⟩
    rw [decide_eq_true rfl, List.replicate_succ', List.map_append]; rfl
  . rintro ys σ H hl2 ⟨v0, v1, rfl, _, x1⟩
    rw [List.length_map, dR] at hl2
    exact hdn H x1 hl2
theorem zaI (F : Fun K "_law_stays" "_law_stays" dL f fd) (B : Bt mg) (bZ : qJ P w K mg base j C g4 gd4) (N_meet : d7 P w K mg base k C g3 gd3) (aP : Fn P w K mg base k "_law_desks" ["_law_rows"] gO g gd) : FnOk P w K mg base CX0 (k + 1) f fd ["_law_sharing", "_law_rows"] (tD C) := by
  refine F.ok vC (fun vs H Q E h => ?_) (fun cdv A outer s H vs Q E hr h => ?_)
  . obtain ⟨x, L, rs, rfl, _⟩ := h
    rfl
  obtain ⟨x, L, rs, rfl, hS, hR, hG, q⟩ := h
  have nd := vC.nd
  have S := bZ.sh
  have l6 := hG.len
  obtain ⟨dx, tl, td, dd, kvs, ds, h1, h2, h3, h4, h5, h6, h7, h8, h9⟩ := id hS
  obtain ⟨ts, hL, hT⟩ := id hR
  refine ⟨_, (aG (eG (PW.pt (wI (bW (d9 (jO hr)) (cF cE rfl B.list_ (by decide +kernel) (aA (jP (pv 0) rfl) aE)) (dI (g := (sH K 2 (eK (aZ 0) (eK (aZ 1) sI)))) (tc := gG) (te := (bD 0)) (own := ["_law_letter", "_law_some"]) (fr := ([] : List Str)) (idx := []) rfl (by show aR _ _ _ (aD dL); exact ⟨rfl, by decide +kernel, by decide +kernel, by decide +kernel, by decide +kernel, by decide +kernel, by decide +kernel⟩) (cS (pv 1)) (fun _ _ _ _ _ => (fO rfl (aX (aO (i := 0) (by show List.Nodup (["_law_letter", "_law_some"] : List Str); decide +kernel) rfl (Or.inl rfl) (Or.inr rfl)) (aX (aO (i := 1) (by show List.Nodup (["_law_letter", "_law_some"] : List Str); decide +kernel) rfl (Or.inl rfl) (Or.inr rfl)) dX)))) (fun _ _ _ _ _ => bT) (fun _ _ _ _ _ => (pv 0)) rfl (cV rfl)) (eP _)) (pV (bW (d9 (jO hr)) (cF cE rfl B.list_ (by decide +kernel) (aA (jP (pv 0) rfl) aE)) (aL aP.ok hr rfl aP.at_ aP.kp aP.bn .nil bF (aA (pv 1) aE)) (eP _))))) (aJ (bK kI)) bM) (aJ (bK (aT (lI rfl) rfl B.all_ (by decide +kernel) (aA (dI (g := (sH K 2 (eK (aZ 0) (eK (aZ 1) sI)))) (tc := gG) (te := (tOp (zbs K id) (tCB (fun xs H Q => ∃ p ys, xs = [.ref p] /\ (SqL K H p ys \/ SqT K H p ys) /\ ∀ l, H l = none -> Q (.ref l) (upd H l (.lst ys))) (bS (zei C "meet" (uL C) [] E0 (bD 2) (bS (bD 0) iD)) iD)) (tCB (fun xs H Q => ∃ p ys, xs = [.ref p] /\ (SqL K H p ys \/ SqT K H p ys) /\ ∀ l, H l = none -> Q (.ref l) (upd H l (.lst ys))) (bS (bD 1) iD)))) (own := ["_law_letter", "_law_some"]) (fr := ["_law_sharing"]) (idx := [0]) rfl (by show aR _ _ _ (aD dL); exact ⟨rfl, by decide +kernel, by decide +kernel, by decide +kernel, by decide +kernel, by decide +kernel, by decide +kernel⟩) (cS (pv 1)) (fun _ _ _ _ _ => (fO rfl (aX (aO (i := 0) (by show List.Nodup (["_law_letter", "_law_some", "_law_sharing"] : List Str); decide +kernel) rfl (Or.inl rfl) (Or.inr rfl)) (aX (aO (i := 1) (by show List.Nodup (["_law_letter", "_law_some", "_law_sharing"] : List Str); decide +kernel) rfl (Or.inl rfl) (Or.inr rfl)) dX)))) (fun _ _ _ _ _ => bT) (fun _ _ _ _ _ => (pQ (zcQ (jO hr)) (cF cE rfl B.list_ (by decide +kernel) (aA (yS (pv 2) bZ.cls N_meet.meth N_meet.ok hr N_meet.bn .nil bF (aA (pv 0) aE)) aE)) (cF cE rfl B.list_ (by decide +kernel) (aA (pv 1) aE)) (eP _))) rfl (cV rfl)) aE))))), ?_⟩
  try dsimp only [eU, Cx.nox, Cx.wish]
  refine b8 ?_
  intro D0 σ0 U2
  refine ⟨_, rfl, x, C, dx, _, _, rfl, h1, S.cls, S.n1, rfl, tl, _, rfl, .inr (SqT.of h2), fun q1 hq1 => ?_⟩
  have x1 : Same H (upd H q1 (.lst ((rs.map (·.1)).map V.str))) := aK hq1
  have k1 : upd H q1 (.lst ((rs.map (·.1)).map V.str)) q1 = some (.lst ((rs.map (·.1)).map V.str)) := aB
  generalize upd H q1 (.lst ((rs.map (·.1)).map V.str)) = H1 at x1 k1 ⊢
  refine ⟨_, rfl, L, rfl, ⟨_, SqL.of (x1 _ _ hL)⟩, fun D hD => rJ (K := K) (by omega) hD (hR.same x1) fun H2 x2 hD2 => ⟨q1, D, rs.map (·.1), rs.map (·.1), rfl, rfl, SqL.of (x2 _ _ k1), SqL.of hD2, false, congrArg V.bl (by rw [decide_eq_true rfl]; rfl), ?_⟩⟩
  refine oF ?_
  have y2 : Same H H2 := x1.trans x2
  refine ⟨_, rfl, x, C, dx, _, _, rfl, y2 _ _ h1, S.cls, S.n2, rfl, td, _, rfl, .inr (SqT.of (y2 _ _ h3)), fun q2 hq2 => ?_⟩
  have x3 : Same H2 (upd H2 q2 (.lst (ds.map V.str))) := aK hq2
  have k3 : upd H2 q2 (.lst (ds.map V.str)) q2 = some (.lst (ds.map V.str)) := aB
  generalize upd H2 q2 (.lst (ds.map V.str)) = H3 at x3 k3 ⊢
  have y3 : Same H H3 := y2.trans x3
  refine ⟨_, rfl, L, rs, rfl, hR.same y3, by omega, fun r hr => ⟨by have := hG.row r hr; omega, (hG.row r hr).2.2⟩, fun r1 zs H4 s4 n4 l4 m4 hr4 x4 hz4 => ?_⟩
  have ez : zs = ds := sQ (gK n4 h5 fun d => (m4 d).trans (h7 d).symm) s4 h4
  subst ez
  refine ⟨q2, r1, zs, zs, rfl, rfl, SqL.of (x4 _ _ k3), SqL.of hz4, false, congrArg V.bl (by rw [decide_eq_true rfl]; rfl), ?_⟩
  refine oF ?_
  have y4 : Same H H4 := y3.trans x4
  refine ⟨_, rfl, L, rfl, ⟨_, SqL.of (y4 _ _ hL)⟩, fun D2 hD3 => keeps (K := K) hG (hS.same y4) hD3 (hR.same y4) fun H5 x5 hD5 => ⟨D2, _, rfl, SqL.of hD5, ?_⟩⟩
  rw [tF]
  exact q H5 (y4.trans x5)
end
abbrev dO : Stmt := top 22
def zaq (word : Str) (at' first : Int) (k : Nat) : Str := Txt.slice word none (some at') ++ ⟨#[oQ ((first + (0 + (k : Int))) % 26)]⟩ ++ Txt.slice word (some (at' + 1)) none
theorem zeB {word : Str} {at' first : Int} {i j : Nat} (h : i < j) (hj : j < 26) : zaq word at' first i ≠ zaq word at' first j := fun e => by
  have e1 : (zaq word at' first i).cps.toList = (zaq word at' first j).cps.toList := by rw [e]
  have q : ∀ k : Nat, (zaq word at' first k).cps.toList = (Txt.slice word none (some at')).cps.toList ++ ([oQ ((first + (0 + (k : Int))) % 26)] ++ (Txt.slice word (some (at' + 1)) none).cps.toList) := fun k => by
    show ((Txt.slice word none (some at')).cps ++ #[oQ ((first + (0 + (k : Int))) % 26)] ++ (Txt.slice word (some (at' + 1)) none).cps).toList = _
    simp
  rw [q i, q j] at e1
  have e2 := List.append_cancel_right (List.append_cancel_left e1)
  have e3 : oQ ((first + (0 + (i : Int))) % 26) = oQ ((first + (0 + (j : Int))) % 26) := (List.cons.inj e2).1
  have e4 := uQ (by omega) (by omega) (by omega) (by omega) e3
  omega
theorem b9 {word : Str} {at' first : Int} {ys : List Str} (h : ys.length < 26) : ∃ j, j < 26 /\ zaq word at' first j ∉ ys := by
  obtain ⟨c, h1, h2⟩ := pig ys ((List.range 26).map (zaq word at' first)) (iJ fun i j h hj => zeB h hj) (by rw [List.length_map, List.length_range]; exact h)
  obtain ⟨j, hj, rfl⟩ := List.mem_map.mp h1
  exact ⟨j, List.mem_range.mp hj, h2⟩
def zbx (xs : List Str) (lo hi : Option Int) : List Str := (xs.drop (HT.sIx xs.length 0 lo)).take (HT.sIx xs.length xs.length hi - HT.sIx xs.length 0 lo)
theorem iF (xs : List Str) (lo hi : Option Int) : zcW (xs.map V.str) lo hi = (zbx xs lo hi).map V.str := by
  unfold zcW zbx
  rw [List.length_map, List.map_take, List.map_drop]
theorem sE (xs : List Str) (n : Nat) : zbx xs none (some (n : Int)) = xs.take n := by
  unfold zbx
  rw [HT.sIx_nat, show HT.sIx xs.length 0 none = 0 from rfl, List.drop_zero, Nat.sub_zero]
  by_cases h : n <= xs.length
  . rw [Nat.min_eq_left h]
  . rw [Nat.min_eq_right (by omega), List.take_length, List.take_of_length_le (by omega)]
theorem zdr (xs : List Str) (n : Nat) : zbx xs (some (n : Int)) none = xs.drop n := by
  unfold zbx
  rw [HT.sIx_nat, show HT.sIx xs.length xs.length none = xs.length from rfl]
  by_cases h : n <= xs.length
  . rw [Nat.min_eq_left h, List.take_of_length_le (by rw [List.length_drop]; omega)]
  . rw [Nat.min_eq_right (by omega), List.drop_of_length_le (Nat.le_refl _), List.drop_of_length_le (by omega)]
    simp
theorem zex (xs : List Str) (n m : Nat) : zbx xs (some (n : Int)) (some (m : Int)) = (xs.drop n).take (m - n) := by
  unfold zbx
  rw [HT.sIx_nat, HT.sIx_nat]
  by_cases h : n <= xs.length
  . rw [Nat.min_eq_left h]
    by_cases h2 : m <= xs.length
    . rw [Nat.min_eq_left h2]
    . rw [Nat.min_eq_right (by omega), List.take_of_length_le (by rw [List.length_drop]; omega), List.take_of_length_le (by rw [List.length_drop]; omega)]
  . rw [Nat.min_eq_right (a := n) (by omega), List.drop_of_length_le (Nat.le_refl _), List.drop_of_length_le (by omega)]
    simp
theorem zat {a p : Addr} {H H1 : Hp} (x : Ext a H H1) (np : p ≠ a) (h : H1 p = none) : H p = none := by
  cases e : H p with
  | none => rfl
  | some o => rw [x p o np e] at h; cases h
section
variable {P : Program} {w : World} {K : W.Frag} {mg : Str -> Option Value} {base : Heap} {f g g2 g3 g4 : Addr} {fd gd gd2 gd3 gd4 : FuncData} {k j : Nat} {C CN M ft : Addr} {ftd : FuncData}
def jJ : Sp := fun vs H Q _ => ∃ (a p : Addr) (ys : List Str), vs = [.ref a, .ref p] /\ aY H a /\ H p = some (.lst (ys.map V.str)) /\ p ≠ a /\ ys ≠ [] /\ ys.length < 26 /\ Bd ys /\ ∀ (n : Str) (H' : Hp), n ∉ ys -> aY H' a -> Ext a H H' -> Q (.str n) H'
theorem oM : bE ["_law_flow_here", "_law_some", "_law_letters", "_law_name", "_law_at", "_law_sign", "_law_k", "_law_other"] ["_law_flow_here", "_law_some"] (aD dO) := ⟨rfl, rfl, rfl, by decide +kernel, rfl, by decide +kernel, by decide +kernel⟩
theorem xI (F : Fun K "_law_strange" "_law_strange" dO f fd) (B : Bt mg) (aC : Fn P w K mg base k "_law_draw" ["_law_flow_here", "_law_many"] fW g gd) : FnOk P w K mg base CX0 (k + 1) f fd ["_law_flow_here", "_law_some"] jJ := by
  refine F.ok oM (fun vs H Q E h => ?_) (fun cdv A outer s H vs Q E hr h => ?_)
  . obtain ⟨a, p, ys, rfl, _⟩ := h
    rfl
  obtain ⟨a, p, ys, rfl, hF, hp, npa, hne, h26, hb, q⟩ := h
  have nd := oM.nd
  have zfe := List.length_pos_iff.mpr hne
  have hs := cK
  refine ⟨_, (aG (aS (i := 2) nd rfl (Or.inl rfl) fX) (aG (aS (i := 3) nd rfl (Or.inl rfl) (dZ bQ (pv 1) (aL aC.ok hr rfl aC.at_ aC.kp aC.bn .nil bF (aA (pv 0) (aA (aT bL rfl B.len_ PySem.boot_len (aA (pv 1) aE)) aE))) (fun _ _ => rfl))) (aG (aS (i := 4) nd rfl (Or.inl rfl) (aL aC.ok hr rfl aC.at_ aC.kp aC.bn .nil bF (aA (pv 0) (aA (aT iI rfl B.len_ PySem.boot_len (aA (pv 3) aE)) aE)))) (aG (aS (i := 5) nd rfl (Or.inl rfl) (aL aC.ok hr rfl aC.at_ aC.kp aC.bn .nil bF (aA (pv 0) (aA aI aE)))) (aG (fH PassesOwn.never rfl (dG rfl B.range_ (aA aI aE)) (aO (i := 6) nd rfl (Or.inl rfl)) (aG (aS (i := 7) nd rfl (Or.inl rfl) (aW eX (aW eX (cG kR (pv 3) dQ (dC (pv 4))) (dZ uO (pv 2) (aW gN (aW cO (pv 5) (pv 6)) aI) (fun _ _ => rfl))) (cG kR (pv 3) (dC (aW cO (pv 4) aI)) dQ))) (aJ (eG (bW eE (pv 7) (pv 1) rfl) (aJ (bK (pv 7))) bM)))) (aJ (bK (aW eX (aW eX fX (cG kR (pv 3) (dC aI) dQ)) fX)))))))), ?_⟩
  try dsimp only [eU, Cx.nox, Cx.wish]
  refine zbp ?_
  intro D0 σ0 U6 U5 U4 U3 U2
  refine ⟨_, rfl, _, rfl, _, rfl, p, _, rfl, .inl (SqL.of hp), a, _, rfl, hF, by rw [List.length_map]; omega, by rw [List.length_map]; omega, fun r1 H1 r10 r11 f1 x1 => ?_⟩
  rw [List.length_map] at r11
  obtain ⟨n, rfl⟩ := Int.eq_ofNat_of_zero_le r10
  have hn : n < ys.length := by omega
  obtain ⟨b1, b2⟩ := hb ys[n] (List.getElem_mem hn)
  refine ⟨p, _, _, _, rfl, rfl, SqL.of (x1 _ _ npa hp), bV (j := n) (v := V.str ys[n]) (by rw [List.getElem?_map, List.getElem?_eq_getElem hn]; rfl), ?_⟩
  generalize ys[n] = word at b1 b2 ⊢
  have wz : word.length <= sizeLine := by omega
  refine ⟨_, rfl, _, rfl, _, rfl, wz, a, _, rfl, f1, by omega, by omega, fun r2 H2 r20 r21 f2 x2 => ?_⟩
  refine ⟨_, rfl, a, 26, rfl, f2, by decide, by decide, fun r3 H3 r30 r31 f3 x3 => ?_⟩
  have x13 := (x1.trans x2).trans x3
  have hp3 := x13 _ _ npa hp
  obtain ⟨j0, hj0, hnot⟩ := b9 (word := word) (at' := r2) (first := r3) h26
  refine ⟨26, rfl, by decide, by decide, mQ (n := (26 : Int).toNat) (fun i σ H' => ∃ v6 v7 : Option V, σ = [some (.ref a), some (.ref p), some (.str abc), some (.str word), some (.int r2), some (.int r3), v6, v7] /\ H' = H3 /\ i <= j0) ?_ ?_ ?_⟩
  . exact ⟨_, _, rfl, rfl, Nat.zero_le _⟩
  . rintro i σ H4 hi ⟨v6, v7, rfl, rfl, hij⟩
    refine zoE ?_
    intro D1 σ1 W2
    have hc := p9 (Int.emod_nonneg (r3 + (0 + (i : Int))) (show (26 : Int) ≠ 0 by decide)) (Int.emod_lt_of_pos _ (by decide))
    have l1 := Txt.slice_le word none (some r2)
    have l2 := Txt.slice_le word (some (r2 + 1)) none
    have l3 : Str.length ⟨#[oQ ((r3 + (0 + (i : Int))) % 26)]⟩ = 1 := rfl
    have l4 := oX (Txt.slice word none (some r2)) ⟨#[oQ ((r3 + (0 + (i : Int))) % 26)]⟩
    refine ⟨_, rfl, _, rfl, _, rfl, word, rfl, wz, _, rfl, _, rfl, _, rfl, _, _, rfl, rfl, _, _, rfl, rfl, (show (0 : Int) < 26 by decide), abc, _, _, rfl, rfl, sJ, hc, _, _, rfl, rfl, by omega, ?_⟩
    refine ⟨_, rfl, _, rfl, _, _, rfl, rfl, _, rfl, word, rfl, wz, _, _, rfl, rfl, by omega, ?_⟩
    refine ⟨_, rfl, _, rfl, p, _, rfl, .inl (SqL.of hp3), rfl, fF ys, _, rfl, ?_⟩
    refine pR (fun cc => ?_) (fun cc => ?_)
    . refine ⟨_, rfl, q _ _ (eN.mp (by simpa using cc)) f3 x13⟩
    . refine ⟨_, _, rfl, rfl, ?_⟩
      by_cases h : i = j0
      . exfalso
        subst h
        have e : inV (.str (zaq word r2 r3 i)) (ys.map V.str) = false := eN.mpr hnot
        exact cc (show (if true = true then !inV (.str (zaq word r2 r3 i)) (ys.map V.str) else inV (.str (zaq word r2 r3 i)) (ys.map V.str)) = true by rw [if_pos rfl, e]; rfl)
      . omega
  . rintro σ H4 ⟨v6, v7, rfl, rfl, hij⟩
    exfalso
    have : (26 : Int).toNat = 26 := rfl
    omega
end
section
variable {P : Program} {w : World} {K : W.Frag} {mg : Str -> Option Value} {base : Heap} {f g g2 g3 g4 : Addr} {fd gd gd2 gd3 gd4 : FuncData} {k j : Nat} {C CN M ft : Addr} {ftd : FuncData}
def nxt (rs : List Row) (i : Nat) : Row := ((rs.getD i ("", [])).1, (rs.getD ((i + 1) % rs.length) ("", [])).2)
def iY (rs : List Row) : List Row := (List.range rs.length).map (nxt rs)
theorem jY (rs : List Row) : (iY rs).length = rs.length := by unfold iY; rw [List.length_map, List.length_range]
theorem mS (rs : List Row) : (iY rs).map (·.1) = rs.map (·.1) := by
  refine List.ext_getElem (by rw [List.length_map, List.length_map, jY]) fun i h1 h2 => ?_
  rw [List.length_map] at h2
  simp [iY, nxt, h2]
theorem jU {rs : List Row} {r : Row} (h : r ∈ iY rs) : ∃ r' ∈ rs, r.2 = r'.2 := by
  unfold iY at h
  obtain ⟨i, hi, rfl⟩ := List.mem_map.mp h
  have hi' := List.mem_range.mp hi
  have hp : (i + 1) % rs.length < rs.length := Nat.mod_lt _ (by omega)
  refine ⟨rs[(i + 1) % rs.length], List.getElem_mem hp, ?_⟩
  unfold nxt
  rw [List.getD_eq_getElem?_getD, List.getD_eq_getElem?_getD, List.getElem?_eq_getElem hp]
  rfl
theorem wE {rs : List Row} (h : nX rs) : nX (iY rs) where
  ne := fun z => by have e := jY rs; rw [z] at e; exact h.ne (List.length_eq_zero_iff.mp e.symm)
  len := by rw [jY]; exact h.len
  nd := by rw [mS]; exact h.nd
  row := fun r hr => by obtain ⟨r', h1, e⟩ := jU hr; rw [e]; exact h.row r' h1
  nm := by rw [mS]; exact h.nm
  dn := fun r hr => by obtain ⟨r', h1, e⟩ := jU hr; rw [e]; exact h.dn r' h1
  few := let ⟨ds, h1, h2⟩ := h.few; ⟨ds, h1, fun r hr => by obtain ⟨r', h3, e⟩ := jU hr; rw [e]; exact h2 r' h3⟩
  srt := fun r hr => by obtain ⟨r', h1, e⟩ := jU hr; rw [e]; exact h.srt r' h1
def zC : Sp := fun vs H Q _ => ∃ (L : Addr) (rs : List Row), vs = [.ref L] /\ dD H L rs /\ nX rs /\ ∀ D H', H D = none -> Same H H' -> dD H' D (iY rs) -> Q (.ref D) H'
theorem zaj : bE ["_law_rows"] ["_law_rows"] (aD bR) := ⟨rfl, rfl, rfl, by decide +kernel, rfl, by decide +kernel, by decide +kernel⟩
theorem zeE (F : Fun K "_law_next_desks" "_law_next_desks" bR f fd) (B : Bt mg) : FnOk P w K mg base CX0 (k + 1) f fd ["_law_rows"] zC := by
  refine F.ok zaj (fun vs H Q E h => ?_) (fun cdv A outer s H vs Q E hr h => ?_)
  . obtain ⟨L, rs, rfl, _⟩ := h
    rfl
  obtain ⟨L, rs, rfl, hR, hG, q⟩ := h
  have nd := zaj.nd
  have l6 := hG.len
  have lpos : 0 < rs.length := List.length_pos_iff.mpr hG.ne
  obtain ⟨ts, hL, hT⟩ := id hR
  have dR := Paired.length hT
  have hs := cK
  refine ⟨_, (aJ (bK (dI (g := (aZ 0)) (tc := gG) (te := (zlz (bS (tOp (znt K) (tOp (oA K) (bD 1) (bD 0)) (tC (.int 0))) (bS (tOp (znt K) (tOp (oA K) (bD 1) (tOp (rI (fun _ j => 0 < j) fun i j => .int (i % j)) (tOp (rI0 fun i j => .int (i + j)) (bD 0) (tC (.int 1))) (tCB (fun xs H Q => ∃ p ys, xs = [.ref p] /\ (SqL K H p ys \/ SqT K H p ys) /\ Q (.int ys.length) H) (bS (bD 1) iD)))) (tC (.int 1))) iD)))) (own := ["_law_k"]) (fr := ["_law_rows"]) (idx := [0]) rfl (by show aR _ _ _ (aD bR); exact ⟨rfl, by decide +kernel, by decide +kernel, by decide +kernel, by decide +kernel, by decide +kernel, by decide +kernel⟩) (dG rfl B.range_ (aA (aT bL rfl B.len_ PySem.boot_len (aA (pv 0) aE)) aE)) (fun _ _ _ _ _ => (aO (i := 0) (by show List.Nodup (["_law_k", "_law_rows"] : List Str); decide +kernel) rfl (Or.inl rfl) (Or.inr rfl))) (fun _ _ _ _ _ => bT) (fun _ _ _ _ _ => (hZ (aA (dZ zcs (dZ bQ (pv 1) (pv 0) (fun _ _ => rfl)) aI (fun _ _ => rfl)) (aA (dZ zcs (dZ bQ (pv 1) (aW gN (aW cO (pv 0) aI) (aT bL rfl B.len_ PySem.boot_len (aA (pv 1) aE))) (fun _ _ => rfl)) aI (fun _ _ => rfl)) aE)))) rfl (cV rfl)))), ?_⟩
  try dsimp only [eU, Cx.nox, Cx.wish]
  refine ⟨_, rfl, L, _, rfl, .inl (SqL.of hL), _, rfl, by omega, by rw [List.length_map]; omega, fun D hD => ?_⟩
  rw [List.length_map, dR, Int.toNat_natCast]
  refine fN (fun i ys σ H' => ∃ (us : List Addr) (v : Option V), ys = us.map V.ref /\ gH H' us ((iY rs).take i) /\ us.length = i /\ σ = [v, some (.ref L)] /\ Same H H') ?_ (by omega) ?_ ?_ ?_
  . exact ⟨[], none, rfl, .nil, rfl, rfl, aK hD⟩
  . rintro i ys σ H1 ⟨us, v, rfl, _, e, _⟩
    rw [List.length_map]; omega
  . rintro i ys σ H1 hi hl2 ⟨us, v, rfl, hT1, e, rfl, x1⟩
    have hL1 := x1 _ _ hL
    have zql : (i + 1) % rs.length < rs.length := Nat.mod_lt _ lpos
    obtain ⟨r1, hr1, d1, a1, a2⟩ := (gH.keep (Same.tk x1) hT).get (List.getElem?_eq_getElem (show i < ts.length by omega))
    obtain ⟨r2, hr2, d2, b1, b2⟩ := (gH.keep (Same.tk x1) hT).get (List.getElem?_eq_getElem (show (i + 1) % rs.length < ts.length by omega))
    have g1 : atI (ts.map V.ref) (0 + (i : Int)) = some (V.ref (ts[i]'(by omega))) := by
      rw [Int.zero_add]
      exact bV (by rw [List.getElem?_map, List.getElem?_eq_getElem (show i < ts.length by omega)]; rfl)
    have g2 : atI (ts.map V.ref) ((0 + (i : Int) + 1) % ((ts.map V.ref).length : Int)) = some (V.ref (ts[(i + 1) % rs.length]'(by omega))) := by
      have em : (0 + (i : Int) + 1) % ((ts.map V.ref).length : Int) = (((i + 1) % rs.length : Nat) : Int) := by rw [List.length_map, dR, Int.zero_add]; rfl
      rw [em]
      exact bV (by rw [List.getElem?_map, List.getElem?_eq_getElem (show (i + 1) % rs.length < ts.length by omega)]; rfl)
    refine ⟨_, rfl, _, rfl, L, _, _, _, rfl, rfl, SqL.of hL1, g1, _, _, _, _, rfl, rfl, SqT.of a1, rfl, ?_⟩
    refine ⟨_, rfl, _, rfl, _, _, rfl, rfl, _, rfl, L, _, rfl, .inl (SqL.of hL1), _, _, rfl, rfl, by rw [List.length_map]; omega, L, _, _, _, rfl, rfl, SqL.of hL1, g2, _, _, _, _, rfl, rfl, SqT.of b1, rfl, by show (2 : Nat) <= _; omega, fun p hp => ?_⟩
    have x2 : Same H1 (upd H1 p (.tup [.str r1.1, .ref d2])) := aK hp
    have k2 : upd H1 p (.tup [.str r1.1, .ref d2]) p = some (.tup [.str r1.1, .ref d2]) := aB
    generalize upd H1 p (.tup [.str r1.1, .ref d2]) = H2 at x2 k2 ⊢
    refine ⟨x2 _ _ hl2, us ++ [p], _, by rw [List.map_append]; rfl, ?_, by rw [List.length_append, e]; rfl, rfl, (x1.trans x2).at hD⟩
    have hn : (iY rs)[i]? = some (r1.1, r2.2) := by
      unfold iY
      rw [List.getElem?_map, List.getElem?_range hi]
      show some (nxt rs i) = _
      unfold nxt
      rw [List.getD_eq_getElem?_getD, List.getD_eq_getElem?_getD, hr1, hr2]
      rfl
    rw [bN hn]
    exact gH.keep (TK.lst (x2 _ _ hl2)) (Paired.snoc (gH.keep (Same.tk x2) hT1) ⟨d2, k2, x2 _ _ b2⟩)
  . rintro ys σ H1 hl2 ⟨us, v, rfl, hT1, e, _, x1⟩
    rw [List.take_of_length_le (by rw [jY]; exact Nat.le_refl _)] at hT1
    exact q D H1 hD x1 ⟨us, hl2, hT1⟩
end
def eV (rs : List Row) (row : List Str) : Nat -> Str -> Nat
  | 0, _ => 0
  | n + 1, d => if d ∈ fG rs (row.getD n "") then n + 1 else eV rs row n d
theorem tK {rs : List Row} {row : List Str} {n : Nat} {l d : Str} (h : row[n]? = some l) : eV rs row (n + 1) d = if d ∈ fG rs l then n + 1 else eV rs row n d := by
  show (if d ∈ fG rs (row.getD n "") then n + 1 else eV rs row n d) = _
  rw [List.getD_eq_getElem?_getD, h]; rfl
theorem fL (rs : List Row) (row : List Str) (d : Str) : ∀ n, eV rs row n d <= n
  | 0 => Nat.le_refl _
  | n + 1 => by
    show (if d ∈ fG rs (row.getD n "") then n + 1 else eV rs row n d) <= n + 1
    have := fL rs row d n
    split <;> omega
inductive Und (rs : List Row) (row : List Str) : Nat -> Nat -> Prop where
  | self (n : Nat) : Und rs row n n
  | step {n k : Nat} {l d : Str} (h : row[n]? = some l) (hd : d ∈ fG rs l) (u : Und rs row (eV rs row n d) k) : Und rs row (n + 1) k
theorem tQ {rs : List Row} {row : List Str} {k : Nat} : Und rs row 0 k ↔ k = 0 := by
  constructor
  . intro h
    cases h with
    | self => rfl
  . rintro rfl; exact .self 0
theorem lE {rs : List Row} {row : List Str} {n k : Nat} {l : Str} (h : row[n]? = some l) : Und rs row (n + 1) k ↔ k = n + 1 \/ ∃ d ∈ fG rs l, Und rs row (eV rs row n d) k := by
  constructor
  . intro u
    cases u with
    | self => exact .inl rfl
    | step h' hd u =>
      rw [h] at h'
      cases Option.some.inj h'
      exact .inr ⟨_, hd, u⟩
  . rintro (rfl | ⟨d, hd, u⟩)
    . exact .self _
    . exact .step h hd u
theorem mF {rs : List Row} {row : List Str} {n k : Nat} (h : Und rs row n k) : k <= n := by
  induction h with
  | self => exact Nat.le_refl _
  | @step n k l d h hd u ih =>
    have := fL rs row d n
    omega
theorem tU {α : Type} [DecidableEq α] : ∀ {a b : List α}, a.Nodup -> b.Nodup -> (∀ x, x ∈ a ↔ x ∈ b) -> a.Perm b
  | [], b, _, _, h => by
    cases b with
    | nil => exact .refl _
    | cons y r => exact absurd ((h y).mpr List.mem_cons_self) List.not_mem_nil
  | x :: a, b, ha, hb, h => by
    have hx : x ∈ b := (h x).mp List.mem_cons_self
    rw [List.nodup_cons] at ha
    refine List.Perm.trans (List.Perm.cons x (tU ha.2 (hb.erase x) fun y => ?_)) (List.perm_cons_erase hx).symm
    rw [hb.mem_erase_iff]
    constructor
    . intro hy
      exact ⟨fun e => ha.1 (e ▸ hy), (h y).mp (List.mem_cons_of_mem _ hy)⟩
    . rintro ⟨e, hy⟩
      exact (List.mem_cons.mp ((h y).mpr hy)).resolve_left e
theorem zbv {kvs : List (Key × V)} {k : Key} {v : V} : ∀ x, x ∈ (jH kvs k v).map (·.1) ↔ x = k \/ x ∈ kvs.map (·.1) := by
  intro x
  unfold jH
  split
  . rename_i h
    rw [List.any_eq_true] at h
    obtain ⟨kv, h1, h2⟩ := h
    have e : (kvs.map fun kv => if kv.1 = k then (kv.1, v) else kv).map (·.1) = kvs.map (·.1) := by
      rw [List.map_map]; refine List.map_congr_left fun kv _ => ?_
      show (if kv.1 = k then (kv.1, v) else kv).1 = kv.1
      split <;> rfl
    rw [e]
    refine ⟨.inr, fun z => z.elim (fun z => ?_) id⟩
    rw [z, <- of_decide_eq_true h2]; exact List.mem_map_of_mem h1
  . rw [List.map_append, List.mem_append]
    show _ \/ x ∈ [k] ↔ _
    rw [List.mem_singleton]; exact Or.comm
theorem zX {kvs : List (Key × V)} {k : Key} {v : V} (h : (kvs.map (·.1)).Nodup) : ((jH kvs k v).map (·.1)).Nodup := by
  unfold jH
  split
  . have e : (kvs.map fun kv => if kv.1 = k then (kv.1, v) else kv).map (·.1) = kvs.map (·.1) := by
      rw [List.map_map]; refine List.map_congr_left fun kv _ => ?_
      show (if kv.1 = k then (kv.1, v) else kv).1 = kv.1
      split <;> rfl
    rw [e]; exact h
  . rename_i hk
    rw [List.map_append]
    refine List.nodup_append.mpr ⟨h, (List.nodup_cons.mpr ⟨List.not_mem_nil, List.nodup_nil⟩), fun x hx y hy => ?_⟩
    rintro rfl
    obtain ⟨kv, h1, h2⟩ := List.mem_map.mp hx
    refine hk (List.any_eq_true.mpr ⟨kv, h1, decide_eq_true ?_⟩)
    exact h2.trans (List.mem_singleton.mp hy)
theorem nK : ∀ (more kvs : List (Key × V)) (x : Key), x ∈ (gM kvs more).map (·.1) ↔ x ∈ kvs.map (·.1) \/ x ∈ more.map (·.1)
  | [], kvs, x => by show x ∈ kvs.map (·.1) ↔ _; simp
  | p :: r, kvs, x => by
    show x ∈ (gM (jH kvs p.1 p.2) r).map (·.1) ↔ _
    rw [nK r, zbv, List.map_cons, List.mem_cons]
    exact ⟨fun z => z.elim (fun z => z.elim (fun e => .inr (.inl e)) .inl) fun z => .inr (.inr z), fun z => z.elim (fun z => .inl (.inr z)) fun z => z.elim (fun e => .inl (.inl e)) .inr⟩
theorem mL : ∀ (more kvs : List (Key × V)), (kvs.map (·.1)).Nodup -> ((gM kvs more).map (·.1)).Nodup
  | [], _, h => h
  | p :: r, kvs, h => mL r (jH kvs p.1 p.2) (zX h)
theorem uI {kv : List (Key × V)} {k : Nat} (nd : (kv.map (·.1)).Nodup) (h : ∀ x ∈ kv.map (·.1), ∃ j : Nat, x = Sum.inl (j : Int) /\ j <= k) : kv.length <= k + 1 := by
  refine Classical.byContradiction fun hc => ?_
  obtain ⟨c, h1, h2⟩ := pig ((List.range (k + 1)).map fun j : Nat => (Sum.inl (j : Int) : Key)) (kv.map (·.1)) nd (by rw [List.length_map, List.length_map, List.length_range]; omega)
  obtain ⟨j, rfl, hj⟩ := h c h1
  exact h2 (List.mem_map_of_mem (List.mem_range.mpr (by omega)))
structure UV (rs : List Row) (row : List Str) (n : Nat) (kv : List (Key × V)) : Prop where
  nd : (kv.map (·.1)).Nodup
  mem : ∀ x, x ∈ kv.map (·.1) ↔ ∃ j : Nat, x = Sum.inl (j : Int) /\ Und rs row n j
theorem UV.few {rs : List Row} {row : List Str} {k : Nat} {kv : List (Key × V)} (h : UV rs row k kv) : kv.length <= k + 1 := uI h.nd fun x hx => let ⟨j, a, b⟩ := (h.mem x).mp hx; ⟨j, a, mF b⟩
structure NV (rs : List Row) (row : List Str) (n : Nat) (ns : List Int) : Prop where
  nd : ns.Nodup
  mem : ∀ x, x ∈ ns ↔ ∃ j : Nat, x = (j : Int) /\ Und rs row n j
theorem lC {ns : List Int} {k : Nat} (nd : ns.Nodup) (h : ∀ x ∈ ns, ∃ j : Nat, x = (j : Int) /\ j <= k) : ns.length <= k + 1 := by
  refine Classical.byContradiction fun hc => ?_
  obtain ⟨c, h1, h2⟩ := pig ((List.range (k + 1)).map fun j : Nat => (j : Int)) ns nd (by rw [List.length_map, List.length_range]; omega)
  obtain ⟨j, rfl, hj⟩ := h c h1
  exact h2 (List.mem_map_of_mem (List.mem_range.mpr (by omega)))
theorem qC {a b : List Int} (ha : a.Pairwise (· <= ·)) (hb : b.Pairwise (· <= ·)) (na : a.Nodup) (nb : b.Nodup) (h : ∀ x, x ∈ a ↔ x ∈ b) : a = b :=
  (tU na nb h).eq_of_pairwise (le := fun a b => a <= b) (fun x y _ _ h1 h2 => Int.le_antisymm h1 h2) ha hb
abbrev eY : Stmt := top 26
structure UnI (rs : List Row) (row : List Str) (H0 H : Hp) (mt la U : Addr) (kvm : List (Key × V)) (us : List Addr) (i : Nat) : Prop where
  same : Same H0 H
  m : H mt = some (.dK kvm)
  u : H U = some (.lst (us.map V.ref))
  len : us.length = i + 1
  nd : us.Nodup
  new : ∀ p ∈ us, H0 p = none
  ok : ∀ k p, us[k]? = some p -> ∃ kv, H p = some (.dK kv) /\ UV rs row k kv
  nl : la ∉ us
  la0 : H0 la = none
  U0 : H0 U = none
  lm : la ≠ mt
  l : ∃ kvl : List (Key × V), H la = some (.dK kvl) /\ kvl.length <= 60 + 4 * i /\ ∀ d, (∃ r ∈ rs, d ∈ r.2) -> gR kvl (.inr d) = some (.int ((eV rs row i d : Nat) : Int))
theorem UnI.keep {rs : List Row} {row : List Str} {H0 H H' : Hp} {mt la U : Addr} {kvm : List (Key × V)} {us : List Addr} {i : Nat} (h : UnI rs row H0 H mt la U kvm us i) (x : Same H H') : UnI rs row H0 H' mt la U kvm us i := by
  obtain ⟨kvl, l1, l2, l3⟩ := h.l
  exact ⟨h.same.trans x, x _ _ h.m, x _ _ h.u, h.len, h.nd, h.new, fun k p e => let ⟨kv, a, b⟩ := h.ok k p e; ⟨kv, x _ _ a, b⟩, h.nl, h.la0, h.U0, h.lm, kvl, x _ _ l1, l2, l3⟩
structure MnI (rs : List Row) (row : List Str) (zs : List Str) (i : Nat) (kv : List (Key × V)) : Prop where
  nd : (kv.map (·.1)).Nodup
  mem : ∀ x, x ∈ kv.map (·.1) ↔ x = Sum.inl ((i + 1 : Nat) : Int) \/ ∃ d ∈ zs, ∃ j : Nat, x = Sum.inl (j : Int) /\ Und rs row (eV rs row i d) j
theorem MnI.start (rs : List Row) (row : List Str) (i : Nat) : MnI rs row [] i [(Sum.inl ((i : Int) + 1), .bl true)] where
  nd := List.nodup_cons.mpr ⟨List.not_mem_nil, List.nodup_nil⟩
  mem := fun x => by
    show x ∈ [(Sum.inl ((i : Int) + 1) : Key)] ↔ _
    rw [List.mem_singleton]
    exact ⟨fun e => .inl (by rw [e]; simp), fun e => e.elim (fun e => by rw [e]; simp) fun ⟨_, z, _⟩ => nomatch z⟩
theorem MnI.step {rs : List Row} {row : List Str} {kv more : List (Key × V)} {zs : List Str} {i : Nat} {d : Str} (h : MnI rs row zs i kv) (hu : UV rs row (eV rs row i d) more) : MnI rs row (zs ++ [d]) i (gM kv more) where
  nd := mL more kv h.nd
  mem := fun x => by
    rw [nK, h.mem, hu.mem]
    constructor
    . rintro ((e | ⟨d', h1, h2⟩) | h2)
      . exact .inl e
      . exact .inr ⟨d', List.mem_append_left _ h1, h2⟩
      . exact .inr ⟨d, List.mem_append_right _ (List.mem_singleton.mpr rfl), h2⟩
    . rintro (e | ⟨d', h1, h2⟩)
      . exact .inl (.inl e)
      . rcases List.mem_append.mp h1 with z | z
        . exact .inl (.inr ⟨d', z, h2⟩)
        . rw [List.mem_singleton.mp z] at h2
          exact .inr h2
theorem MnI.few {rs : List Row} {row : List Str} {kv : List (Key × V)} {zs : List Str} {i : Nat} (h : MnI rs row zs i kv) : kv.length <= i + 2 := uI h.nd fun x hx => by
  rcases (h.mem x).mp hx with e | ⟨d, _, j, e, u⟩
  . exact ⟨i + 1, e, Nat.le_refl _⟩
  . have := mF u
    have := fL rs row d i
    exact ⟨j, e, by omega⟩
theorem MnI.done {rs : List Row} {row : List Str} {kv : List (Key × V)} {zs : List Str} {i : Nat} {l : Str} (h : MnI rs row zs i kv) (hl : row[i]? = some l) (hz : fG rs l = zs) : UV rs row (i + 1) kv where
  nd := h.nd
  mem := fun x => by
    rw [h.mem]
    constructor
    . rintro (e | ⟨d, h1, j, e, u⟩)
      . exact ⟨i + 1, e, .self _⟩
      . exact ⟨j, e, (lE hl).mpr (.inr ⟨d, by rw [hz]; exact h1, u⟩)⟩
    . rintro ⟨j, e, u⟩
      rcases (lE hl).mp u with z | ⟨d, h1, h2⟩
      . exact .inl (by rw [e, z])
      . exact .inr ⟨d, by rw [<- hz]; exact h1, j, e, h2⟩
section
variable {P : Program} {w : World} {K : W.Frag} {mg : Str -> Option Value} {base : Heap} {f g g2 g3 g4 : Addr} {fd gd gd2 gd3 gd4 : FuncData} {k j : Nat} {C CN M ft : Addr} {ftd : FuncData} {c : Nat -> Addr}
def u8 : Sp := fun vs H Q _ => ∃ (L R : Addr) (rs : List Row) (row : List Str), vs = [.ref L, .ref R] /\ dD H L rs /\ nX rs /\ H R = some (.lst (row.map V.str)) /\ Of rs row /\ row.length <= 100 /\
  ∀ (T U la : Addr) (us : List Addr) (H' : Hp), Same H H' -> H' T = some (.tup [.ref U, .ref la]) -> H' U = some (.lst (us.map V.ref)) -> us.length = row.length + 1 -> us.Nodup -> (∀ p ∈ us, H p = none) -> (∀ k p, us[k]? = some p -> ∃ kv, H' p = some (.dK kv) /\ UV rs row k kv) -> (∃ kvl : List (Key × V), H' la = some (.dK kvl) /\ ∀ d, (∃ r ∈ rs, d ∈ r.2) -> gR kvl (.inr d) = some (.int ((eV rs row row.length d : Nat) : Int))) -> Q (.ref T) H'
theorem vB : bE ["_law_rows", "_law_row_here", "_law_meet", "_law_last", "_law_desk", "_law_under_here", "_law_k", "_law_letter", "_law_mine"] ["_law_rows", "_law_row_here"] (aD eY) := ⟨rfl, rfl, rfl, by decide +kernel, rfl, by decide +kernel, by decide +kernel⟩
theorem zbw (F : Fun K "_law_under" "_law_under" eY f fd) (B : Bt mg) (aP : Fn P w K mg base k "_law_desks" ["_law_rows"] gO g gd) : FnOk P w K mg base CX0 (k + 1) f fd ["_law_rows", "_law_row_here"] u8 := by
  refine F.ok vB (fun vs H Q E h => ?_) (fun cdv A outer s H vs Q E hr h => ?_)
  . obtain ⟨L, R, rs, row, rfl, _⟩ := h
    rfl
  obtain ⟨L, R, rs, row, rfl, hL, hG, hR, hO, h100, q⟩ := h
  have nd := vB.nd
  have hs := cK
  have l6 := hG.len
  obtain ⟨ts, hLt, hT⟩ := id hL
  obtain ⟨kvs, p1, p2, p3⟩ := vX hT hG.nd
  refine ⟨_, (aG (aS (i := 2) nd rfl (Or.inl rfl) (cF (wY rfl) rfl B.dict_ (by decide +kernel) (aA (pv 0) aE))) (aG (aS (i := 3) nd rfl (Or.inl rfl) zbt) (aG (fH PassesOwn.never rfl (cS (aL aP.ok hr rfl aP.at_ aP.kp aP.bn .nil bF (aA (pv 0) aE))) (aO (i := 4) nd rfl (Or.inl rfl)) (aJ (sL (kE hr) (pv 3) (pv 4) aI rfl))) (aG (aS (i := 5) nd rfl (Or.inl rfl) (dP (aA (vA aI kI) aE))) (aG (fH PassesOwn.never rfl (zdh rfl B.enumerate_ (aA (pv 1) aE)) (fO rfl (aX (aO (i := 6) nd rfl (Or.inl rfl)) (aX (aO (i := 7) nd rfl (Or.inl rfl)) dX))) (aG (aS (i := 8) nd rfl (Or.inl rfl) (vA (aW cO (pv 6) aI) kI)) (aG (fH PassesOwn.never rfl (jA (jD (kE hr) (pv 2) (pv 7) (fun _ _ => rfl))) (aO (i := 4) nd rfl (Or.inl rfl)) (aJ (eS (oP PySem.F.plainAttrs_dict PySem.F.slot_dict_update PySem.F.type_dict_update wJ (pv 8) (aA (dZ bQ (pv 5) (jD (kE hr) (pv 3) (pv 4) (fun _ _ => rfl)) (fun _ _ => rfl)) aE))))) (aG (fH PassesOwn.never rfl (jA (jD (kE hr) (pv 2) (pv 7) (fun _ _ => rfl))) (aO (i := 4) nd rfl (Or.inl rfl)) (aJ (sL (kE hr) (pv 3) (pv 4) (aW cO (pv 6) aI) rfl))) (aJ (eS (oP PySem.F.plainAttrs_list PySem.F.slot_list_append PySem.F.type_list_append gQ (pv 5) (aA (pv 8) aE)))))))) (aJ (bK (hZ (aA (pv 5) (aA (pv 3) aE)))))))))), ?_⟩
  try dsimp only [eU, Cx.nox, Cx.wish]
  refine zbp ?_
  intro D0 σ0 U6 U5 U4 U3 U2
  refine ⟨_, rfl, L, ts, kvs, rfl, hLt, p1, by rw [p2]; exact hG.nd, fun mt hmt => ?_⟩
  have x1 : Same H (upd H mt (.dK (kH kvs))) := aK hmt
  have k1 : upd H mt (.dK (kH kvs)) mt = some (.dK (kH kvs)) := aB
  generalize upd H mt (.dK (kH kvs)) = H1 at x1 k1 ⊢
  intro la hla
  have la0 : H la = none := x1.free hla
  have lm : la ≠ mt := Ne.symm (aF k1 hla)
  have x2 : Same H1 (upd H1 la (.dK [])) := aK hla
  have k2 : upd H1 la (.dK []) la = some (.dK []) := aB
  generalize upd H1 la (.dK []) = H2 at x2 k2 ⊢
  have m2 := x2 _ _ k1
  have y2 := x1.trans x2
  refine ⟨_, rfl, L, rs, rfl, hL.same y2, by omega, fun r hr => ⟨by have := hG.row r hr; omega, (hG.row r hr).2.2⟩, fun r1 zs H3 s3 n3 z3 d3 hr3 x3 hz3 => ?_⟩
  have y3 := y2.trans x3
  have m3 := x3 _ _ m2
  have k3 := x3 _ _ k2
  refine ⟨r1, rfl, ⟨_, SqL.of hz3⟩, gU (xs := zs.map V.str) (fun i σ H' => ∃ (v4 : Option V) (kv : List (Key × V)), σ = [some (.ref L), some (.ref R), some (.ref mt), some (.ref la), v4, none, none, none, none] /\ (∀ a o, a ≠ la -> H3 a = some o -> H' a = some o) /\ H' la = some (.dK kv) /\ kv.length <= i /\ ∀ d ∈ zs.take i, gR kv (.inr d) = some (.int 0)) ?_ ?_ ?_ ?_⟩
  . exact ⟨none, [], rfl, fun _ _ _ h => h, k3, Nat.le_refl _, by intro _ z; cases z⟩
  . rintro i σ H4 _ ⟨v4, kv, _, x4, _⟩
    exact SqL.of (x4 _ _ (dW hz3 k3 (fun z => nomatch z)) hz3)
  . rintro i y σ H4 hy ⟨v4, kv, rfl, x4, h4, l4, e4⟩
    rw [List.getElem?_map] at hy
    obtain ⟨d, hd, rfl⟩ := Option.map_eq_some_iff.mp hy
    have hi : i < zs.length := (List.getElem?_eq_some_iff.mp hd).1
    refine ⟨_, rfl, _, rfl, la, _, rfl, zdc.k (k := .inr d) h4 (oW (by omega)), _, jH kv (.inr d) (.int 0), rfl, fun a o n e => by rw [aH n]; exact x4 a o n e, aB, ?_, fun d' hd' => ?_⟩
    . have := cQ kv (.inr d) (.int 0)
      omega
    . rw [iV]
      by_cases e : (Sum.inr d' : Key) = .inr d
      . rw [if_pos e]
      . rw [if_neg e]
        rcases (bU hd).mp hd' with z | z
        . exact e4 d' z
        . exact absurd (by rw [z]) e
  . rintro σ H4 ⟨v4, kv, rfl, x4, k4, l4, e4⟩
    rw [List.length_map, List.take_length] at e4
    rw [List.length_map] at l4
    have y4 : Same H H4 := fun a o e => x4 a o (aF e la0) (y3 a o e)
    have m4 := x4 _ _ (Ne.symm lm) m3
    clear x4 m3 k3 y3 x3 y2 m2 k2 x2 k1 x1 hla hmt hr3 hz3
    refine fun p0 hp0 => ⟨aB, [(Sum.inl 0, .bl true)], rfl, (by decide), ?_⟩
    rw [yU, show gM [] [((Sum.inl 0 : Key), V.bl true)] = [(Sum.inl 0, V.bl true)] from rfl]
    have x5 : Same H4 (upd H4 p0 (.dK [(Sum.inl 0, .bl true)])) := aK hp0
    have k5 : upd H4 p0 (.dK [(Sum.inl 0, .bl true)]) p0 = some (.dK [(Sum.inl 0, .bl true)]) := aB
    have np0 : la ≠ p0 := aF k4 hp0
    generalize upd H4 p0 (.dK [(Sum.inl 0, .bl true)]) = H5 at x5 k5 ⊢
    refine ⟨jW (show 1 <= 1000 by decide), fun U hU => ?_⟩
    have x6 : Same H5 (upd H5 U (.lst [.ref p0])) := aK hU
    have k6 : upd H5 U (.lst [.ref p0]) U = some (.lst ([p0].map V.ref)) := aB
    generalize upd H5 U (.lst [.ref p0]) = H6 at x6 k6 ⊢
    have x46 := x5.trans x6
    have I0 : UnI rs row H H6 mt la U (kH kvs) [p0] 0 := by
      refine ⟨y4.trans x46, x46 _ _ m4, k6, rfl, List.nodup_cons.mpr ⟨List.not_mem_nil, List.nodup_nil⟩, fun p hp => ?_, fun k p e => ?_, fun z => np0 (List.mem_singleton.mp z), la0, (y4.trans x5).free hU, lm, kv, x46 _ _ k4, by omega, fun d hd => e4 d ((d3 d).mpr hd)⟩
      . rw [List.mem_singleton.mp hp]; exact y4.free hp0
      . have hk : k = 0 := by
          have z := (List.getElem?_eq_some_iff.mp e).1
          rw [show [p0].length = 1 from rfl] at z
          omega
        subst hk
        cases Option.some.inj (show some p0 = some p from e)
        refine ⟨_, x6 _ _ k5, List.nodup_cons.mpr ⟨List.not_mem_nil, List.nodup_nil⟩, fun x => ⟨fun hx => ⟨0, List.mem_singleton.mp hx, .self 0⟩, fun ⟨j, e, u⟩ => List.mem_singleton.mpr (by rw [e, tQ.mp u]; rfl)⟩⟩
    clear x46 x6 k6 x5 k5 y4 m4 k4 l4 e4 hp0 hU np0
    refine ⟨_, rfl, R, rfl, ⟨_, SqL.of (I0.same _ _ hR)⟩, zaK (xs := row.map V.str) (fun i σ H' => ∃ (v4 v6 v7 v8 : Option V) (us : List Addr), σ = [some (.ref L), some (.ref R), some (.ref mt), some (.ref la), v4, some (.ref U), v6, v7, v8] /\ UnI rs row H H' mt la U (kH kvs) us i) ?_ ?_ ?_ ?_⟩
    . exact ⟨_, none, none, none, [p0], rfl, I0⟩
    . rintro i σ H7 _ ⟨_, _, _, _, _, _, I7⟩
      exact SqL.of (I7.same _ _ hR)
    . rintro i y σ H7 T hy hT7 ⟨w4, w6, w7, w8, us, rfl, I7⟩
      rw [List.getElem?_map] at hy
      obtain ⟨l, hl, rfl⟩ := Option.map_eq_some_iff.mp hy
      have hi : i < row.length := (List.getElem?_eq_some_iff.mp hl).1
      obtain ⟨r, hm, rfl⟩ := List.mem_map.mp (hO l (List.mem_of_getElem? hl))
      have l4 := (hG.row r hm).2.1
      have hdk : fG rs r.1 = r.2 := oB hG.nd hm
      have I8 := I7.keep (aK (o := .tup [.int i, .str r.1]) hT7)
      refine ⟨T, _, rfl, SqT.of aB, rfl, _, _, rfl, _, _, rfl, rfl, ?_⟩
      generalize upd H7 T (.tup [.int i, .str r.1]) = H8 at I8 ⊢
      clear I7 hT7
      refine i7 ?_
      intro D1 σ1 W4 W3 W2
      refine fun p hp => ⟨_, rfl, _, _, rfl, rfl, aB, [(Sum.inl ((i : Int) + 1), .bl true)], rfl, (by show (1 : Nat) <= 15; decide), ?_⟩
      rw [yU, show gM [] [((Sum.inl ((i : Int) + 1) : Key), V.bl true)] = [(Sum.inl ((i : Int) + 1), V.bl true)] from rfl]
      have p0' : H p = none := I8.same.free hp
      have I9 := I8.keep (aK (o := .dK [(Sum.inl ((i : Int) + 1), .bl true)]) hp)
      have k9 : upd H8 p (.dK [(Sum.inl ((i : Int) + 1), .bl true)]) p = some (.dK [(Sum.inl ((i : Int) + 1), .bl true)]) := aB
      have pu : p ∉ us := fun z => by
        obtain ⟨n, hn⟩ := List.getElem?_of_mem z
        obtain ⟨kv, a, _⟩ := I8.ok n p hn
        exact aF a hp rfl
      have pl : la ≠ p := let ⟨_, a, _⟩ := I8.l; aF a hp
      have pm : mt ≠ p := aF I8.m hp
      generalize upd H8 p (.dK [(Sum.inl ((i : Int) + 1), .bl true)]) = H9 at I9 k9 ⊢
      clear I8 hp
      obtain ⟨kvl, la9, ll9, hv9⟩ := I9.l
      obtain ⟨t1, a1, a2⟩ := p3 r hm
      have b1 : mV H9 mt (.str r.1) (some (.ref t1)) := by rw [<- a1]; exact mV.k (k := .inr r.1) I9.m
      have b2 := I9.same _ _ a2
      refine ⟨_, rfl, _, rfl, mt, _, rfl, b1, t1, rfl, ⟨_, SqT.of b2⟩, pP (xs := r.2.map V.str) (fun n σ H' => ∃ (v4 : Option V) (kv : List (Key × V)), σ = [some (.ref L), some (.ref R), some (.ref mt), some (.ref la), v4, some (.ref U), some (.int (i : Int)), some (.str r.1), some (.ref p)] /\ (∀ a o, a ≠ p -> H9 a = some o -> H' a = some o) /\ H' p = some (.dK kv) /\ MnI rs row (r.2.take n) i kv) ?_ ?_ ?_ ?_⟩
      . exact ⟨_, _, rfl, fun _ _ _ h => h, k9, MnI.start rs row i⟩
      . rintro n σ Ha _ ⟨_, _, _, xa, _⟩
        exact SqT.of (xa _ _ (dW b2 k9 (fun z => nomatch z)) b2)
      . rintro n y σ Ha hy ⟨v4', kva, rfl, xa, ka, ma⟩
        rw [List.getElem?_map] at hy
        obtain ⟨d, hd, rfl⟩ := Option.map_eq_some_iff.mp hy
        have hdm := List.mem_of_getElem? hd
        have v1 := hv9 d ⟨r, hm, hdm⟩
        have v2 := fL rs row d i
        obtain ⟨qn, hqn⟩ : ∃ qn, eV rs row i d = qn := ⟨_, rfl⟩
        rw [hqn] at v1 v2
        have hun : us[qn]? = some (us[qn]'(by rw [I9.len]; omega)) := List.getElem?_eq_getElem (by rw [I9.len]; omega)
        obtain ⟨mo, c1, c2⟩ := I9.ok qn _ hun
        have hqm := List.mem_of_getElem? hun
        generalize us[qn]'(by rw [I9.len]; omega) = qa at hun c1 hqm
        have nq : qa ≠ p := fun z => pu (z ▸ hqm)
        have gla : mV Ha la (.str d) (some (.int (qn : Int))) := by rw [<- v1]; exact mV.k (k := .inr d) (xa _ _ pl la9)
        have zls := ma.few
        have zpx := c2.few
        refine ⟨_, rfl, .inr (.inr (.inl ⟨rfl, .inl ⟨_, ka⟩⟩)), _, rfl, _, rfl, _, rfl, la, _, rfl, gla, U, _, _, _, rfl, rfl, SqL.of (xa _ _ (dW I9.u k9 (fun z => nomatch z)) I9.u), bV (by rw [List.getElem?_map, hun]; rfl), p, qa, kva, mo, rfl, rfl, ka, xa _ _ nq c1, Ne.symm nq, by omega, ?_⟩
        refine ⟨_, gM kva mo, rfl, fun a o n e => by rw [aH n]; exact xa a o n e, aB, ?_⟩
        rw [bN hd]
        exact ma.step (by rw [hqn]; exact c2)
      . rintro σ Ha ⟨v4', kva, rfl, xa, ka, ma⟩
        rw [List.length_map, List.take_length] at ma
        have ua : UV rs row (i + 1) kva := ma.done hl hdk
        have laa := xa _ _ pl la9
        have b2a := xa _ _ (dW b2 k9 (fun z => nomatch z)) b2
        have b1a : mV Ha mt (.str r.1) (some (.ref t1)) := by rw [<- a1]; exact mV.k (k := .inr r.1) (xa _ _ pm I9.m)
        refine ⟨_, rfl, _, rfl, mt, _, rfl, b1a, t1, rfl, ⟨_, SqT.of b2a⟩, pP (xs := r.2.map V.str) (fun n σ H' => ∃ (v4 : Option V) (kv' : List (Key × V)), σ = [some (.ref L), some (.ref R), some (.ref mt), some (.ref la), v4, some (.ref U), some (.int (i : Int)), some (.str r.1), some (.ref p)] /\ (∀ a o, a ≠ la -> Ha a = some o -> H' a = some o) /\ H' la = some (.dK kv') /\ kv'.length <= kvl.length + n /\ ∀ d, gR kv' (.inr d) = if d ∈ r.2.take n then some (.int ((i : Int) + 1)) else gR kvl (.inr d)) ?_ ?_ ?_ ?_⟩
        . exact ⟨_, _, rfl, fun _ _ _ h => h, laa, Nat.le_refl _, fun d => by rw [if_neg (by intro z; cases z)]⟩
        . rintro n σ Hb _ ⟨_, _, _, xb, _⟩
          exact SqT.of (xb _ _ (dW b2a laa (fun z => nomatch z)) b2a)
        . rintro n y σ Hb hy ⟨v4'', kvb, rfl, xb, kb, lb, vb⟩
          rw [List.getElem?_map] at hy
          obtain ⟨d, hd, rfl⟩ := Option.map_eq_some_iff.mp hy
          have hn : n < r.2.length := (List.getElem?_eq_some_iff.mp hd).1
          refine ⟨_, rfl, _, _, rfl, rfl, _, rfl, _, rfl, la, _, rfl, zdc.k (k := .inr d) kb (oW (by omega)), _, jH kvb (.inr d) (.int ((i : Int) + 1)), rfl, fun a o n e => by rw [aH n]; exact xb a o n e, aB, ?_, fun d' => ?_⟩
          . have := cQ kvb (.inr d) (.int ((i : Int) + 1))
            omega
          . rw [iV]
            by_cases e : (Sum.inr d' : Key) = .inr d
            . rw [if_pos e, if_pos ((bU hd).mpr (.inr (Sum.inr.inj e)))]
            . rw [if_neg e, vb d']
              by_cases z : d' ∈ r.2.take n
              . rw [if_pos z, if_pos ((bU hd).mpr (.inl z))]
              . rw [if_neg z, if_neg]
                intro z'
                rcases (bU hd).mp z' with y | y
                . exact z y
                . exact e (by rw [y])
        . rintro σ Hb ⟨v4'', kvb, rfl, xb, kb, lb, vb⟩
          rw [List.length_map, List.take_length] at vb
          rw [List.length_map] at lb
          have nU : U ≠ p := dW I9.u k9 (fun z => nomatch z)
          have ua2 := xa _ _ nU I9.u
          have nUl : U ≠ la := dW ua2 laa (fun z => nomatch z)
          have ub := xb _ _ nUl ua2
          refine ⟨_, rfl, .inl ⟨rfl, _, SqL.of ub⟩, _, rfl, U, _, _, rfl, rfl, ub, by rw [List.length_map, I9.len]; omega, ?_⟩
          refine ⟨_, _, _, _, us ++ [p], rfl, ?_⟩
          have un : ∀ k q, us[k]? = some q -> q ≠ p /\ q ≠ la /\ q ≠ U := fun k q e => by
            have hq := List.mem_of_getElem? e
            obtain ⟨kv, a, _⟩ := I9.ok k q e
            exact ⟨fun z => pu (z ▸ hq), fun z => I9.nl (z ▸ hq), dW a I9.u (fun z => nomatch z)⟩
          refine ⟨fun a o e => ?_, ?_, by rw [aB, List.map_append]; rfl, by rw [List.length_append, I9.len]; rfl, ?_, fun q hq => ?_, fun k q e => ?_, fun z => ?_, la0, I9.U0, lm, kvb, ?_, by omega, fun d hd => ?_⟩
          . rw [aH (aF e I9.U0)]
            exact xb a o (aF e la0) (xa a o (aF e p0') (I9.same a o e))
          . rw [aH (dW I9.m I9.u (fun z => nomatch z))]
            exact xb _ _ (Ne.symm lm) (xa _ _ pm I9.m)
          . refine List.nodup_append.mpr ⟨I9.nd, List.nodup_cons.mpr ⟨List.not_mem_nil, List.nodup_nil⟩, fun x hx y hy => ?_⟩
            rw [List.mem_singleton.mp hy]
            exact fun z => pu (z ▸ hx)
          . rcases List.mem_append.mp hq with z | z
            . exact I9.new q z
            . rw [List.mem_singleton.mp z]; exact p0'
          . by_cases hk : k < us.length
            . rw [List.getElem?_append_left hk] at e
              obtain ⟨kv, a, b⟩ := I9.ok k q e
              obtain ⟨n1, n2, n3⟩ := un k q e
              exact ⟨kv, by rw [aH n3]; exact xb _ _ n2 (xa _ _ n1 a), b⟩
            . rw [List.getElem?_append_right (by omega)] at e
              have hk1 := (List.getElem?_eq_some_iff.mp e).1
              have hk2 : k = i + 1 := by
                rw [show [p].length = 1 from rfl] at hk1
                have := I9.len
                omega
              subst hk2
              rw [I9.len, Nat.sub_self] at e
              cases Option.some.inj (show some p = some q from e)
              exact ⟨kva, by rw [aH (Ne.symm nU)]; exact xb _ _ (Ne.symm pl) ka, ua⟩
          . rcases List.mem_append.mp z with z | z
            . exact I9.nl z
            . exact pl (List.mem_singleton.mp z)
          . rw [aH (Ne.symm nUl)]; exact kb
          . rw [vb d, tK hl, hdk]
            by_cases z : d ∈ r.2
            . rw [if_pos z, if_pos z]; rfl
            . rw [if_neg z, if_neg z]; exact hv9 d hd
    . rintro σ H7 ⟨w4, w6, w7, w8, us, rfl, I7⟩
      have dR := I7.len
      rw [List.length_map] at dR
      refine ⟨_, rfl, _, rfl, jW (show 2 <= 1000 by decide), fun T hT => ?_⟩
      have x8 := aK (o := .tup [.ref U, .ref la]) hT
      exact q T U la us _ (I7.same.trans x8) aB (x8 _ _ I7.u) dR I7.nd I7.new (fun k p e => (let ⟨kv, a, b⟩ := I7.ok k p e; ⟨kv, x8 _ _ a, b⟩)) (by
        obtain ⟨kvl, b1, _, b3⟩ := I7.l
        rw [List.length_map] at b3
        exact ⟨kvl, x8 _ _ b1, b3⟩)
end
abbrev cX : Stmt := top 9
section
variable {P : Program} {w : World} {K : W.Frag} {mg : Str -> Option Value} {base : Heap} {f g g2 g3 g4 : Addr} {fd gd gd2 gd3 gd4 : FuncData} {k j : Nat} {C CN M ft : Addr} {ftd : FuncData}
structure zlA (P : Program) (w : World) (K : W.Frag) (mg : Str -> Option Value) (base : Heap) (k : Nat) (C M : Addr) (f : Addr) (fd : FuncData) : Prop where
  xc : XC K C M
  hin : W.findIn K (.ref C) "__init__" = some (some (.ref f))
  hfn : W.isFn K (.ref f) = true
  ok : FnOk P w K mg base CX0 k f fd ["self", "desk"] (lX C "desk")
  bn : gI K fd ["self", "desk"] []
  at_ : mg "NoDesk" = some (.ref C)
  fn : W.findIn K (.ref C) "desk" = some none
def Dk (n : Str) : List (Str × V) := [("desk", .str n)]
theorem zer {H H1 : Hp} {E : XK} {n : Str} {CT : Addr} {vs : List V} (x : Same H H1) (hE : ∀ a H', H a = none -> Same H H' -> eR H' a CT (Dk n) -> E (.ref a) none H') :
    ∀ e u, H1 e = none -> H1 u = none -> u ≠ e -> lX CT "desk" (.ref e :: [.str n]) (upd (upd H1 u (.tup vs)) e (rZ e CT u none)) (fun v H2 => v = .non /\ ∃ a fs, V.ref e = .ref a /\ XAt H2 a CT fs /\ zns H E CT a fs H2) E0 := fun e u he hu hne =>
  ⟨e, u, .str n, rfl, aB, fun H' hX k => ⟨rfl, e, Dk n, rfl, hX, x.free he, fun b o q => k b o (aF (x b o q) he) (by rw [aH (aF (x b o q) he), aH (aF (x b o q) hu)]; exact x b o q), fun H'' sm fl => hE e H'' (x.free he) sm fl⟩⟩
def zbF (K : W.Frag) (CN : Addr) : Sp := fun vs H Q E => ∃ (T L : Addr) (ys row : List Str), vs = [.ref T, .ref L] /\ SqT K H T (ys.map V.str) /\ SqL K H L (row.map V.str) /\ (bad ys row = none -> ∀ H', Same H H' -> Q .non H') /\
  ∀ l, bad ys row = some l -> ∀ a H', H a = none -> Same H H' -> eR H' a CN (Dk l) -> E (.ref a) none H'
theorem n9 : bE ["desks", "group", "desk"] ["desks", "group"] (aD cX) := ⟨rfl, rfl, rfl, by decide +kernel, rfl, by decide +kernel, by decide +kernel⟩
theorem zdA (F : Fun K "refuse_desks" "refuse_desks" cX f fd) (xt : zlA P w K mg base k CN M ft ftd) : FnOk P w K mg base (CXE P w) (k + 2) f fd ["desks", "group"] (zbF K CN) := by
  refine F.okX n9 (fun vs H Q E h => ?_) (fun cdv A outer s H vs Q E hr h => ?_)
  . obtain ⟨T, L, ys, row, rfl, _⟩ := h
    rfl
  obtain ⟨T, L, ys, row, rfl, hT, hL, q, qe⟩ := h
  have nd := n9.nd
  refine ⟨_, (aJ (fH PassesOwn.leaving rfl (cS (pv 1)) (aO (i := 2) nd rfl (Or.inl rfl)) (aJ (eG (bW eE (pv 2) (pv 0) rfl) (aJ (tN xt.xc rfl (tP xt.xc xt.hin xt.hfn xt.ok hr rfl xt.at_ xt.bn (aA (pv 2) aE)) rK)) bM)))), ?_⟩
  try dsimp only [eU, Cx.nox, Cx.wish]
  refine ⟨_, rfl, L, rfl, ⟨_, hL⟩, gU (xs := row.map V.str) (fun i σ H' => ∃ v : Option V, σ = [some (.ref T), some (.ref L), v] /\ bad ys (row.take i) = none /\ Same H H') ?_ ?_ ?_ ?_⟩
  . exact ⟨none, rfl, rfl, Same.refl _⟩
  . rintro i σ H1 _ ⟨v, _, _, x⟩
    exact x.seq hL
  . rintro i y σ H1 hy ⟨v, rfl, h0, x1⟩
    rw [List.getElem?_map] at hy
    obtain ⟨l, hl, rfl⟩ := Option.map_eq_some_iff.mp hy
    refine ⟨_, rfl, _, rfl, T, _, rfl, .inr (Same.tup x1 hT), rfl, fF ys, _, rfl, ?_⟩
    refine pR (fun c => ?_) (fun c => ?_)
    . have hn : l ∉ ys := eN.mp (by simpa using c)
      exact ⟨_, rfl, by simp, zer x1 (qe l (zci h0 hl hn))⟩
    . have hm : l ∈ ys := by
        refine Classical.byContradiction fun z => c ?_
        rw [if_pos rfl, eN.mpr z]; rfl
      refine ⟨_, rfl, ?_, x1⟩
      rw [bN hl]
      exact eI.mpr fun l' hl' => (List.mem_append.mp hl').elim (eI.mp h0 l') fun z => by rw [List.mem_singleton.mp z]; exact hm
  . rintro σ H1 ⟨v, rfl, h0, x1⟩
    rw [List.length_map, List.take_length] at h0
    exact q h0 H1 x1
theorem yN {ys ys' row : List Str} (h : ∀ d, d ∈ ys ↔ d ∈ ys') : bad ys row = bad ys' row := by
  unfold bad
  congr 1
  funext l
  rw [decide_eq_decide.mpr (h l)]
theorem _root_.L2.FnOk.or {CX : CXT} {ps : List Str} {sp sp' : Sp} (F : FnOk P w K mg base CX k f fd ps sp) (G : FnOk P w K mg base CX k f fd ps sp') : FnOk P w K mg base CX k f fd ps (fun vs H Q E => sp vs H Q E \/ sp' vs H Q E) :=
  ⟨fun vs H Q E q => q.elim (F.len vs H Q E) (G.len vs H Q E), fun A outer s H args us vs Q E hr he hb hv hs => hs.elim (F.run A outer s H args us vs Q E hr he hb hv) (G.run A outer s H args us vs Q E hr he hb hv)⟩
end
abbrev cN : Stmt := top 11
theorem a9 {K : W.Frag} {a : Addr} {xs : List V} {g : TG} {tb : TS} {D : iC} {σ : L2.St} {H : Hp} (Pv : Nat -> L2.St -> Hp -> Prop) (h0 : Pv 0 σ H) (hl : ∀ i σ H, i <= xs.length -> Pv i σ H -> SqL K H a xs)
    (hs : ∀ i x σ H T, xs[i]? = some x -> H T = none -> Pv i σ H -> g (.ref T) σ (upd H T (.tup [.int (i + 1), x])) fun σ2 H2 => tb { D with nx := Pv (i + 1), ct := Pv (i + 1), bk := D.nx } σ2 H2) (hd : ∀ σ H, Pv xs.length σ H -> D.nx σ H) :
    ∃ W : Nat -> Nat -> L2.St -> Hp -> Prop, (∃ m, W 0 m σ H) /\ ∀ i m σ H, W i m σ H ->
      ((zhR K a).stop i H /\ D.nx σ H) \/ ((zhR K a).go i H /\ ∃ N : L2.St -> Hp -> Prop, (∀ σ' H', N σ' H' -> ∃ m', m' < m /\ W (i + 1) m' σ' H') /\ ∀ x H', (zhR K a).yld i H x H' -> g x σ H' fun σ2 H2 => tb { D with nx := N, ct := N, bk := D.nx } σ2 H2) := by
  refine ⟨fun i m σ H => m = xs.length - i /\ i <= xs.length /\ Pv i σ H, ⟨xs.length, by simp, Nat.zero_le _, h0⟩, ?_⟩
  rintro i m σ H ⟨rfl, hi, p⟩
  have q := hl i σ H hi p
  by_cases hlt : i < xs.length
  . refine .inr ⟨⟨xs, xs[i], q, by simp [hlt]⟩, Pv (i + 1), fun σ' H' p' => ⟨xs.length - (i + 1), by omega, rfl, hlt, p'⟩, fun x H' y => ?_⟩
    obtain ⟨T, hT, rfl, y⟩ := y
    obtain ⟨x', hx, rfl⟩ := y xs q
    exact hs i x' σ H T hx hT p
  . have e : i = xs.length := by omega
    subst e
    exact .inl ⟨⟨xs, q, Nat.le_refl _⟩, hd σ H p⟩
structure HsI (rs : List Row) (row : List Str) (H : Hp) (dn la : Addr) (dns : List Addr) (i : Nat) : Prop where
  d : H dn = some (.lst (dns.map V.ref))
  len : dns.length = i + 1
  ok : ∀ k p, dns[k]? = some p -> ∃ ns : List Int, H p = some (.tup (ns.map V.int)) /\ NV rs row k ns
  l : ∃ kvl : List (Key × V), H la = some (.dK kvl) /\ kvl.length <= 60 + 4 * i /\ ∀ d, (∃ r ∈ rs, d ∈ r.2) -> gR kvl (.inr d) = some (.int ((eV rs row i d : Nat) : Int))
theorem HsI.same {rs : List Row} {row : List Str} {H H' : Hp} {dn la : Addr} {dns : List Addr} {i : Nat} (h : HsI rs row H dn la dns i) (x : Same H H') : HsI rs row H' dn la dns i := by
  obtain ⟨kvl, l1, l2, l3⟩ := h.l
  exact ⟨x _ _ h.d, h.len, fun k p e => let ⟨ns, a, b⟩ := h.ok k p e; ⟨ns, x _ _ a, b⟩, kvl, x _ _ l1, l2, l3⟩
def pM (rs : List Row) (row : List Str) (i : Nat) (zs : List Str) (ys : List Int) : Prop := ∀ x, x ∈ ys ↔ ∃ d ∈ zs, ∃ j : Nat, x = (j : Int) /\ Und rs row (eV rs row i d) j
theorem pM.snoc {rs : List Row} {row : List Str} {i : Nat} {zs : List Str} {ys ns : List Int} {d : Str} (h : pM rs row i zs ys) (hn : NV rs row (eV rs row i d) ns) : pM rs row i (zs ++ [d]) (ys ++ ns) := fun x => by
  rw [List.mem_append, h x, hn.mem]
  constructor
  . rintro (⟨d', h1, h2⟩ | h2)
    . exact ⟨d', List.mem_append_left _ h1, h2⟩
    . exact ⟨d, List.mem_append_right _ (List.mem_singleton.mpr rfl), h2⟩
  . rintro ⟨d', h1, h2⟩
    rcases List.mem_append.mp h1 with z | z
    . exact .inl ⟨d', z, h2⟩
    . rw [List.mem_singleton.mp z] at h2
      exact .inr h2
section
variable {P : Program} {w : World} {K : W.Frag} {mg : Str -> Option Value} {base : Heap} {f g g2 g3 g4 : Addr} {fd gd gd2 gd3 gd4 : FuncData} {k j : Nat} {C CN M ft : Addr} {ftd : FuncData} {c : Nat -> Addr}
theorem zcG {D dn la : Addr} {Qn : L2.St -> Hp -> Prop} {H1 H : Hp} {rs : List Row} {row : List Str} {dns : List Addr} {i : Nat} {d : Str} {ys : List Int} {v1 : Option V} (hs : HsI rs row H1 dn la dns i) (hd : ∃ r ∈ rs, d ∈ r.2) (hi : i <= 100) (hl : ys.length <= 800) (hD : H1 D = none) (x : Same H1 H) (kD : H D = some (.lst (ys.map V.int)))
    (hdn : ∀ v1 H' (ns : List Int), Same H1 H' -> NV rs row (eV rs row i d) ns -> ns.length <= i + 1 -> H' D = some (.lst ((ys ++ ns).map V.int)) -> Qn [some (.str d), v1, some (.ref dn), some (.ref la)] H') :
    vK (zbE K (tOp (oA K) (bD 2) (nA (bD 3) (bD 0)))) (aZ 1) gG (sV D (bD 1)) [some (.str d), v1, some (.ref dn), some (.ref la)] H Qn := by
  obtain ⟨kvl, l1, _, l3⟩ := hs.l
  have hle := fL rs row d i
  have v := l3 d hd
  obtain ⟨n, hn⟩ : ∃ n, eV rs row i d = n := ⟨_, rfl⟩
  rw [hn] at v hle hdn
  have hun : dns[n]? = some (dns[n]'(by rw [hs.len]; omega)) := List.getElem?_eq_getElem (by rw [hs.len]; omega)
  obtain ⟨ns, c1, c2⟩ := hs.ok n _ hun
  generalize dns[n]'(by rw [hs.len]; omega) = p at hun c1
  have zls : ns.length <= n + 1 := lC c2.nd fun x hx => let ⟨j, a, b⟩ := (c2.mem x).mp hx; ⟨j, a, mF b⟩
  have gla : mV H la (.str d) (some (.int (n : Int))) := by rw [<- v]; exact mV.k (k := .inr d) (x _ _ l1)
  have hz := cK
  refine ⟨_, rfl, _, rfl, _, rfl, la, _, rfl, gla, dn, _, _, .ref p, rfl, rfl, SqL.of (x _ _ hs.d), bV (by rw [List.getElem?_map, hun]; rfl), p, rfl, ⟨_, SqT.of (x _ _ c1)⟩, lF (xs := ns.map V.int) (fun m σ H' => ∃ v1 : Option V, σ = [some (.str d), v1, some (.ref dn), some (.ref la)] /\ Same H1 H' /\ H' D = some (.lst ((ys ++ ns.take m).map V.int))) ?_ ?_ ?_ ?_⟩
  . exact ⟨v1, rfl, x, by rw [List.take_zero, List.append_nil]; exact kD⟩
  . rintro m σ H2 _ ⟨_, _, x2, _⟩
    exact SqT.of (x2 _ _ c1)
  . rintro m y σ H2 hy ⟨v1', rfl, x2, k2⟩
    rw [List.getElem?_map] at hy
    obtain ⟨z, hz2, rfl⟩ := Option.map_eq_some_iff.mp hy
    refine ⟨_, rfl, _, k2, ?_, _, rfl, x2.at hD, ?_⟩
    . rw [List.length_map, List.length_append, List.length_take]; omega
    . rw [aB, List.take_add_one, hz2]
      simp
  . rintro σ H2 ⟨v1', rfl, x2, k2⟩
    rw [List.length_map, List.take_length] at k2
    exact hdn v1' H2 ns x2 c2 (by omega) k2
theorem zeu {D t dn la : Addr} {Q : Hp -> Prop} {H1 : Hp} {rs : List Row} {row : List Str} {dns : List Addr} {i : Nat} {zs : List Str} (hs : HsI rs row H1 dn la dns i) (hT : H1 t = some (.tup (zs.map V.str))) (hz : ∀ d ∈ zs, ∃ r ∈ rs, d ∈ r.2) (hl : zs.length <= 8) (hi : i <= 60) (hD : H1 D = none)
    (hdn : ∀ H' (ys : List Int), Same H1 H' -> H' D = some (.lst (ys.map V.int)) -> ys.length <= 8 * 61 -> pM rs row i zs ys -> Q H') :
    kJ (Itt K t) (aZ 0) gG (vK (zbE K (tOp (oA K) (bD 2) (nA (bD 3) (bD 0)))) (aZ 1) gG (sV D (bD 1))) (fun _ H' => Q H') [none, none, some (.ref dn), some (.ref la)] (upd H1 D (.lst [])) := by
  refine lF (xs := zs.map V.str) (fun m σ H => ∃ (v0 v1 : Option V) (ys : List Int), σ = [v0, v1, some (.ref dn), some (.ref la)] /\ Same H1 H /\ H D = some (.lst (ys.map V.int)) /\ ys.length <= m * 61 /\ pM rs row i (zs.take m) ys) ?_ ?_ ?_ ?_
  . exact ⟨none, none, [], rfl, aK hD, aB, Nat.zero_le _, fun x => ⟨(fun z => nomatch z), fun ⟨_, z, _⟩ => nomatch z⟩⟩
  . rintro m σ H _ ⟨_, _, _, _, x, _⟩
    exact SqT.of (x _ _ hT)
  . rintro m y σ H hy ⟨v0, v1, ys, rfl, x, k, l, u⟩
    rw [List.getElem?_map] at hy
    obtain ⟨d, hd, rfl⟩ := Option.map_eq_some_iff.mp hy
    have hm : m < zs.length := (List.getElem?_eq_some_iff.mp hd).1
    refine zcG (K := K) hs (hz d (List.mem_of_getElem? hd)) (by omega) (by omega) hD x k fun v1' H2 ns x2 hn hl2 k2 => ?_
    exact ⟨_, _, ys ++ ns, rfl, x2, k2, by rw [List.length_append]; omega, by rw [bN hd]; exact u.snoc hn⟩
  . rintro σ H ⟨v0, v1, ys, rfl, x, k, l, u⟩
    rw [List.length_map, List.take_length] at u
    rw [List.length_map] at l
    exact hdn H ys x k (by omega) u
theorem zeS {D t dn la : Addr} {Q : Hp -> Prop} {H1 : Hp} {rs : List Row} {row : List Str} {dns : List Addr} {i : Nat} {zs : List Str} (hs : HsI rs row H1 dn la dns i) (hT : SqL K H1 t (zs.map V.str)) (hz : ∀ d ∈ zs, ∃ r ∈ rs, d ∈ r.2) (hl : zs.length <= 10) (hi : i <= 60) (hD : H1 D = none)
    (hdn : ∀ H' (ys : List Int), Same H1 H' -> H' D = some (.lst (ys.map V.int)) -> ys.length <= 10 * 61 -> pM rs row i zs ys -> Q H') :
    kJ (Itl K t) (aZ 0) gG (vK (zbE K (tOp (oA K) (bD 2) (nA (bD 3) (bD 0)))) (aZ 1) gG (sV D (bD 1))) (fun _ H' => Q H') [none, none, some (.ref dn), some (.ref la)] (upd H1 D (.lst [])) := by
  refine mU (xs := zs.map V.str) (fun m σ H => ∃ (v0 v1 : Option V) (ys : List Int), σ = [v0, v1, some (.ref dn), some (.ref la)] /\ Same H1 H /\ H D = some (.lst (ys.map V.int)) /\ ys.length <= m * 61 /\ pM rs row i (zs.take m) ys) ?_ ?_ ?_ ?_
  . exact ⟨none, none, [], rfl, aK hD, aB, Nat.zero_le _, fun x => ⟨(fun z => nomatch z), fun ⟨_, z, _⟩ => nomatch z⟩⟩
  . rintro m σ H _ ⟨_, _, _, _, x, _⟩
    exact x.seq hT
  . rintro m y σ H hy ⟨v0, v1, ys, rfl, x, k, l, u⟩
    rw [List.getElem?_map] at hy
    obtain ⟨d, hd, rfl⟩ := Option.map_eq_some_iff.mp hy
    have hm : m < zs.length := (List.getElem?_eq_some_iff.mp hd).1
    refine zcG (K := K) hs (hz d (List.mem_of_getElem? hd)) (by omega) (by omega) hD x k fun v1' H2 ns x2 hn hl2 k2 => ?_
    exact ⟨_, _, ys ++ ns, rfl, x2, k2, by rw [List.length_append]; omega, by rw [bN hd]; exact u.snoc hn⟩
  . rintro σ H ⟨v0, v1, ys, rfl, x, k, l, u⟩
    rw [List.length_map, List.take_length] at u
    rw [List.length_map] at l
    exact hdn H ys x k (by omega) u
theorem znW {D td : Addr} {Q : Hp -> Prop} {H1 : Hp} {ds : List Str} {v : V} (hn : ds.length <= 60) (hT : H1 td = some (.tup (ds.map V.str))) (hD : H1 D = none)
    (hdn : ∀ H' (kv : List (Key × V)), Same H1 H' -> H' D = some (.dK kv) -> kv.length <= 60 -> (∀ d ∈ ds, gR kv (.inr d) = some v) -> Q H') :
    kJ (Itt K td) (aZ 0) gG (uF D (bD 0) (tC v)) (fun _ H' => Q H') [none] (upd H1 D (.dK [])) := by
  refine lF (xs := ds.map V.str) (fun i σ H => ∃ (v0 : Option V) (kv : List (Key × V)), σ = [v0] /\ H D = some (.dK kv) /\ kv.length <= i /\ (∀ d ∈ ds.take i, gR kv (.inr d) = some v) /\ Same H1 H) ?_ ?_ ?_ ?_
  . exact ⟨none, [], rfl, aB, Nat.le_refl _, (by intro _ z; cases z), aK hD⟩
  . rintro i σ H _ ⟨v0, kv, _, _, _, _, x⟩
    exact SqT.of (x _ _ hT)
  . rintro i y σ H hy ⟨v0, kv, rfl, h1, l1, m1, x⟩
    rw [List.getElem?_map] at hy
    obtain ⟨d, hd, rfl⟩ := Option.map_eq_some_iff.mp hy
    have hi : i < ds.length := (List.getElem?_eq_some_iff.mp hd).1
    refine ⟨_, rfl, kv, .inr d, rfl, h1, oW (by omega), _, jH kv (.inr d) v, rfl, aB, ?_, ?_, x.at hD⟩
    . have := cQ kv (.inr d) v
      omega
    . intro d' hd'
      rw [iV]
      by_cases e : (Sum.inr d' : Key) = .inr d
      . rw [if_pos e]
      . rw [if_neg e]
        rcases (bU hd).mp hd' with z | z
        . exact m1 d' z
        . exact absurd (by rw [z]) e
  . rintro σ H ⟨v0, kv, rfl, h1, l1, m1, x⟩
    rw [List.length_map, List.take_length] at m1
    rw [List.length_map] at l1
    exact hdn H kv x h1 (by omega) m1
def zkf (K : W.Frag) (C : Addr) : Sp := fun vs H Q _ => ∃ (x L : Addr) (rs : List Row) (row : List Str), vs = [.ref x, .ref L] /\ mZ C H x rs /\ nX rs /\ SqL K H L (row.map V.str) /\ Of rs row /\ row.length <= 60 /\
  ∀ (T dn la : Addr) (dns : List Addr) (H' : Hp), Same H H' -> H' T = some (.tup [.ref dn, .ref la]) -> HsI rs row H' dn la dns row.length -> Q (.ref T) H'
theorem zcE : bE ["sharing", "row", "downs", "last", "number", "letter", "desks", "under", "desk"] ["sharing", "row"] (aD cN) := ⟨rfl, rfl, rfl, by decide +kernel, rfl, by decide +kernel, by decide +kernel⟩
theorem zlb (F : Fun K "history_of" "history_of" cN f fd) (B : Bt mg) (S : ShC K C) (bZ : qJ P w K mg base j C g4 gd4) (N_meet : d7 P w K mg base k C g3 gd3) (G_rising : Fn P w K mg base k "rising" ["things"] (mR K) g gd) : FnOk P w K mg base CX0 (k + 1) f fd ["sharing", "row"] (zkf K C) := by
  refine F.ok zcE (fun vs H Q E h => ?_) (fun cdv A outer s H vs Q E hr h => ?_)
  . obtain ⟨x, L, rs, row, rfl, _⟩ := h
    rfl
  obtain ⟨x, L, rs, row, rfl, hS, hG, hL, hO, h60, q⟩ := h
  have nd := zcE.nd
  have hz := cK
  obtain ⟨dx, tl, td, dd, kvs, ds, h1, h2, h3, h4, h5, h6, h7, h8, h9⟩ := id hS
  refine ⟨_, (aG (aS (i := 2) nd rfl (Or.inr rfl) (dP (aA (hZ (aA aI aE)) aE))) (aG (aS (i := 3) nd rfl (Or.inr rfl) (tZ (g := (aZ 0)) (tc := gG) (tk := (bD 0)) (tv := (tC (.int 0))) (own := ["desk"]) (fr := ([] : List Str)) (idx := []) rfl (by show aR _ _ _ (aD cN); exact ⟨rfl, by decide +kernel, by decide +kernel, by decide +kernel, by decide +kernel, by decide +kernel, by decide +kernel⟩) (jA (jP (pv 0) rfl)) (fun _ _ _ _ _ => (aO (i := 0) (by show List.Nodup (["desk"] : List Str); decide +kernel) rfl (Or.inl rfl) (Or.inr rfl))) (fun _ _ _ _ _ => bT) (fun _ _ _ _ _ => (pv 0)) (fun _ _ _ _ _ => aI) rfl (cV rfl))) (aG (fH PassesOwn.never rfl (zaB rfl B.enumerate_ (aA (pv 1) aE)) (fO rfl (aX (aO (i := 4) nd rfl (Or.inl rfl)) (aX (aO (i := 5) nd rfl (Or.inl rfl)) dX))) (aG (aS (i := 6) nd rfl (Or.inl rfl) (yS (pv 0) bZ.cls N_meet.meth N_meet.ok hr N_meet.bn .nil bF (aA (pv 5) aE))) (aG (zaz (i := 7) nd rfl (Or.inl rfl) (g := (aZ 0)) (tc := gG) (te := (bD 1)) (wi2 := (zbE K (tOp (oA K) (bD 2) (nA (bD 3) (bD 0))))) (g2 := (aZ 1)) (tc2 := gG) (own := ["desk", "lower"]) (fr := ["downs", "last"]) (idx := [2, 3]) rfl (by show aR _ _ _ (aD cN); exact ⟨rfl, by decide +kernel, by decide +kernel, by decide +kernel, by decide +kernel, by decide +kernel, by decide +kernel⟩) (jA (pv 6)) (fun _ _ _ _ _ => (aO (i := 0) (by show List.Nodup (["desk", "lower", "downs", "last"] : List Str); decide +kernel) rfl (Or.inl rfl) (Or.inr rfl))) (fun _ _ _ _ _ => bT) (fun _ _ _ _ _ => (jA (dZ bQ (pv 2) (jD (kE hr) (pv 3) (pv 0) (fun _ _ => rfl)) (fun _ _ => rfl)))) (fun _ _ _ _ _ => (aO (i := 1) (by show List.Nodup (["desk", "lower", "downs", "last"] : List Str); decide +kernel) rfl (Or.inl rfl) (Or.inr rfl))) (fun _ _ _ _ _ => bT) (fun _ _ _ _ _ => (pv 1)) rfl (cV rfl)) (aG (eS (oP PySem.F.plainAttrs_list PySem.F.slot_list_append PySem.F.type_list_append gQ (pv 2) (aA (aL G_rising.ok hr rfl G_rising.at_ G_rising.kp G_rising.bn .nil bF (aA (aW iL (pv 7) (dP (aA (pv 4) aE))) aE)) aE))) (aJ (fH PassesOwn.never rfl (jA (pv 6)) (aO (i := 8) nd rfl (Or.inl rfl)) (aJ (sL (kE hr) (pv 3) (pv 8) (pv 4) rfl)))))))) (aJ (bK (hZ (aA (pv 2) (aA (pv 3) aE)))))))), ?_⟩
  try dsimp only [eU, Cx.nox, Cx.wish]
  refine i7 ?_
  intro D0 σ0 U4 U3 U2
  refine ⟨jW (show 1 <= 1000 by decide), fun p0 hp0 => ⟨jW (show 1 <= 1000 by decide), fun dn hdn => ?_⟩⟩
  have x1 := aK (o := .tup [.int 0]) hp0
  have x2 : Same H (upd (upd H p0 (.tup [.int 0])) dn (.lst [.ref p0])) := x1.trans (aK hdn)
  have k2 : upd (upd H p0 (.tup [.int 0])) dn (.lst [.ref p0]) dn = some (.lst ([p0].map V.ref)) := aB
  have t2 : upd (upd H p0 (.tup [.int 0])) dn (.lst [.ref p0]) p0 = some (.tup ([(0 : Int)].map V.int)) := (aK hdn) _ _ aB
  have dn0 : H dn = none := x1.free hdn
  generalize upd (upd H p0 (.tup [.int 0])) dn (.lst [.ref p0]) = H2 at x2 k2 t2 ⊢
  clear x1 hdn
  refine ⟨_, rfl, x, C, dx, _, _, rfl, x2 _ _ h1, S.cls, S.n2, rfl, td, rfl, ⟨_, SqT.of (x2 _ _ h3)⟩, fun la hla => znW (K := K) h6 (x2 _ _ h3) hla fun H3 kv x3 k3 l3 m3 => ?_⟩
  have y3 := x2.trans x3
  have la0 : H la = none := x2.free hla
  refine ⟨_, rfl, L, rfl, ⟨_, y3.seq hL⟩, a9 (xs := row.map V.str) (fun i σ H' => ∃ (v4 v5 v6 v7 v8 : Option V) (dns : List Addr), σ = [some (.ref x), some (.ref L), some (.ref dn), some (.ref la), v4, v5, v6, v7, v8] /\ Same H H' /\ HsI rs row H' dn la dns i) ?_ ?_ ?_ ?_⟩
  . refine ⟨none, none, none, none, none, [p0], rfl, y3, x3 _ _ k2, rfl, fun k p e => ?_, kv, k3, by omega, fun d hd => m3 d ((h7 d).mpr hd)⟩
    have hk : k = 0 := by
      have z := (List.getElem?_eq_some_iff.mp e).1
      rw [show [p0].length = 1 from rfl] at z
      omega
    subst hk
    cases Option.some.inj (show some p0 = some p from e)
    refine ⟨[0], x3 _ _ t2, List.nodup_cons.mpr ⟨List.not_mem_nil, List.nodup_nil⟩, fun x => ?_⟩
    rw [List.mem_singleton]
    exact ⟨fun e => ⟨0, e, .self 0⟩, fun ⟨j, e, u⟩ => by rw [e, tQ.mp u]; rfl⟩
  . rintro i σ H4 _ ⟨_, _, _, _, _, _, _, x4, _⟩
    exact x4.seq hL
  . rintro i y σ H4 T hy hT4 ⟨v4, v5, v6, v7, v8, dns, rfl, x4, I4⟩
    rw [List.getElem?_map] at hy
    obtain ⟨l, hl, rfl⟩ := Option.map_eq_some_iff.mp hy
    have hi : i < row.length := (List.getElem?_eq_some_iff.mp hl).1
    obtain ⟨r, hm, rfl⟩ := List.mem_map.mp (hO l (List.mem_of_getElem? hl))
    have l4 := (hG.row r hm).2.1
    have hdk : fG rs r.1 = r.2 := oB hG.nd hm
    have I5 := I4.same (aK (o := .tup [.int (i + 1), .str r.1]) hT4)
    have x5 : Same H (upd H4 T (.tup [.int (i + 1), .str r.1])) := x4.trans (aK hT4)
    refine ⟨T, _, rfl, SqT.of aB, rfl, _, _, rfl, _, _, rfl, rfl, ?_⟩
    generalize upd H4 T (.tup [.int (i + 1), .str r.1]) = H5 at I5 x5 ⊢
    clear I4 x4 hT4
    refine i7 ?_
    intro D1 σ1 W4 W3 W2
    refine ⟨_, rfl, x, dx, _, rfl, x5 _ _ h1, rfl, _, rfl, x, rs, r, rfl, hS.same x5, hm, fun tz zs a1 a2 a3 => ?_⟩
    have lz : zs.length <= 4 := by rw [a2.length_eq]; exact l4
    have hzs : ∀ d, d ∈ zs ↔ d ∈ r.2 := fun d => a2.mem_iff
    refine ⟨_, rfl, tz, rfl, ⟨_, SqT.of a1⟩, fun D hD => zeu (K := K) I5 a1 (fun d hd => ⟨r, hm, (hzs d).mp hd⟩) (by omega) (by omega) hD fun H6 ys x6 k6 l6 u6 => ?_⟩
    have I6 := I5.same x6
    have y6 := x5.trans x6
    refine ⟨_, rfl, .inl ⟨rfl, _, SqL.of I6.d⟩, _, rfl, _, rfl, jW (show 1 <= 1000 by decide), fun e he => ⟨D, e, _, _, rfl, rfl, (aK he) _ _ k6, aB, ?_, fun c hc => ?_⟩⟩
    . rw [List.length_map]; show ys.length + 1 <= _; omega
    have x7 : Same H6 (upd (upd H6 e (.lst [.int (i + 1)])) c (.lst (ys.map V.int ++ [.int (i + 1)]))) := (aK he).trans (aK hc)
    have k7 : upd (upd H6 e (.lst [.int (i + 1)])) c (.lst (ys.map V.int ++ [.int (i + 1)])) c = some (.lst ((ys ++ [(i : Int) + 1]).map V.int)) := by rw [aB, List.map_append]; rfl
    generalize upd (upd H6 e (.lst [.int (i + 1)])) c (.lst (ys.map V.int ++ [.int (i + 1)])) = H7 at x7 k7 ⊢
    have zoS : ∀ x, x ∈ ys ++ [(i : Int) + 1] ↔ ∃ j : Nat, x = (j : Int) /\ Und rs row (i + 1) j := fun x => by
      rw [List.mem_append, u6 x, List.mem_singleton]
      constructor
      . rintro (⟨d, h1, j, e, u⟩ | e)
        . exact ⟨j, e, (lE hl).mpr (.inr ⟨d, by rw [hdk]; exact (hzs d).mp h1, u⟩)⟩
        . exact ⟨i + 1, by rw [e]; rfl, .self _⟩
      . rintro ⟨j, e, u⟩
        rcases (lE hl).mp u with z | ⟨d, h1, h2⟩
        . exact .inr (by rw [e, z]; rfl)
        . exact .inl ⟨d, by rw [hdk] at h1; exact (hzs d).mpr h1, j, e, h2⟩
    refine .inr ⟨c, _, rfl, SqL.of k7, by rw [List.length_append]; show ys.length + 1 < _; omega, fun ns nn nm => ?_, fun t ns H8 ps pn pm ht x8 k8 => ?_⟩
    . have := lC (k := i + 1) nn fun x hx => let ⟨j, a, b⟩ := (zoS x).mp ((nm x).mp hx); ⟨j, a, mF b⟩
      omega
    have x68 := x7.trans x8
    have I8 := I6.same x68
    have y8 := y6.trans x68
    have hnv : NV rs row (i + 1) ns := ⟨pn, fun x => (pm x).trans (zoS x)⟩
    refine ⟨dn, _, _, rfl, rfl, I8.d, by rw [List.length_map, I8.len]; omega, ?_⟩
    obtain ⟨kvl, e1, e2, e3⟩ := I8.l
    have nl : la ≠ dn := dW e1 I8.d (fun z => nomatch z)
    have a8 := x68 _ _ (x6 _ _ a1)
    have nt : ∀ {p : Addr} {ts : List V}, H8 p = some (.tup ts) -> p ≠ dn := fun e => dW e I8.d (fun z => nomatch z)
    refine ⟨_, rfl, tz, rfl, ⟨_, SqT.of (by rw [aH (nt a8)]; exact a8)⟩, pP (xs := zs.map V.str) (fun n σ H' => ∃ (v8 : Option V) (kv' : List (Key × V)), σ = [some (.ref x), some (.ref L), some (.ref dn), some (.ref la), some (.int ((i : Int) + 1)), some (.str r.1), some (.ref tz), some (.ref D), v8] /\ (∀ a o, a ≠ la -> upd H8 dn (.lst (dns.map V.ref ++ [.ref t])) a = some o -> H' a = some o) /\ H' la = some (.dK kv') /\ kv'.length <= kvl.length + n /\ ∀ d, gR kv' (.inr d) = if d ∈ zs.take n then some (.int ((i : Int) + 1)) else gR kvl (.inr d)) ?_ ?_ ?_ ?_⟩
    . exact ⟨_, kvl, rfl, fun _ _ _ h => h, by rw [aH nl]; exact e1, Nat.le_refl _, fun d => by rw [if_neg (by intro z; cases z)]⟩
    . rintro n σ H9 _ ⟨_, _, _, x9, _⟩
      exact SqT.of (x9 _ _ (dW a8 e1 (fun z => nomatch z)) (by rw [aH (nt a8)]; exact a8))
    . rintro n y σ H9 hy ⟨v8', kv9, rfl, x9, k9, l9, m9⟩
      rw [List.getElem?_map] at hy
      obtain ⟨d, hd, rfl⟩ := Option.map_eq_some_iff.mp hy
      have hn : n < zs.length := (List.getElem?_eq_some_iff.mp hd).1
      refine ⟨_, rfl, _, rfl, _, rfl, la, _, rfl, zdc.k (k := .inr d) k9 (oW (by omega)), _, jH kv9 (.inr d) (.int ((i : Int) + 1)), rfl, fun a o n e => by rw [aH n]; exact x9 a o n e, aB, ?_, fun d' => ?_⟩
      . have := cQ kv9 (.inr d) (.int ((i : Int) + 1))
        omega
      . rw [iV]
        by_cases e : (Sum.inr d' : Key) = .inr d
        . rw [if_pos e, if_pos ((bU hd).mpr (.inr (Sum.inr.inj e)))]
        . rw [if_neg e, m9 d']
          by_cases z : d' ∈ zs.take n
          . rw [if_pos z, if_pos ((bU hd).mpr (.inl z))]
          . rw [if_neg z, if_neg]
            intro z'
            rcases (bU hd).mp z' with y | y
            . exact z y
            . exact e (by rw [y])
    . rintro σ H9 ⟨v8', kv9, rfl, x9, k9, l9, m9⟩
      rw [List.length_map, List.take_length] at m9
      rw [List.length_map] at l9
      refine ⟨_, _, _, _, _, dns ++ [t], rfl, fun a o e => x9 a o (aF e la0) (by rw [aH (aF e dn0)]; exact y8 a o e), x9 _ _ (Ne.symm nl) (by rw [aB, List.map_append]; rfl), by rw [List.length_append, I8.len]; rfl, fun k p e => ?_, kv9, k9, by omega, fun d hd => ?_⟩
      . by_cases hk : k < dns.length
        . rw [List.getElem?_append_left hk] at e
          obtain ⟨ns', a, b⟩ := I8.ok k p e
          exact ⟨ns', x9 _ _ (dW a e1 (fun z => nomatch z)) (by rw [aH (nt a)]; exact a), b⟩
        . rw [List.getElem?_append_right (by omega)] at e
          have hk1 := (List.getElem?_eq_some_iff.mp e).1
          have hk2 : k = i + 1 := by
            rw [show [t].length = 1 from rfl] at hk1
            have := I8.len
            omega
          subst hk2
          rw [I8.len, Nat.sub_self] at e
          cases Option.some.inj (show some t = some p from e)
          exact ⟨ns, x9 _ _ (dW k8 e1 (fun z => nomatch z)) (by rw [aH (nt k8)]; exact k8), hnv⟩
      . rw [m9 d, tK hl, hdk]
        by_cases z : d ∈ zs
        . rw [if_pos z, if_pos ((hzs d).mp z)]; rfl
        . rw [if_neg z, if_neg (fun y => z ((hzs d).mpr y))]; exact e3 d hd
  . rintro σ H4 ⟨v4, v5, v6, v7, v8, dns, rfl, x4, I4⟩
    rw [List.length_map] at I4
    refine ⟨_, rfl, _, rfl, jW (show 2 <= 1000 by decide), fun T hT => ?_⟩
    exact q T dn la dns _ (x4.trans (aK hT)) aB (I4.same (aK hT))
end
abbrev gX : Stmt := top 12
abbrev OfD (rs : List Row) (grp : List Str) : Prop := ∀ d ∈ grp, d ∈ rs.flatMap (·.2)
section
variable {P : Program} {w : World} {K : W.Frag} {mg : Str -> Option Value} {base : Heap} {f g g2 g3 g4 : Addr} {fd gd gd2 gd3 gd4 : FuncData} {k j : Nat} {C CN CD M ft : Addr} {ftd : FuncData} {c : Nat -> Addr}
def pD (K : W.Frag) (C CN CD : Addr) : Sp := fun vs H Q E => ∃ (x L G : Addr) (rs : List Row) (row grp : List Str), vs = [.ref x, .ref L, .ref G] /\ mZ C H x rs /\ nX rs /\ SqL K H L (row.map V.str) /\ SqL K H G (grp.map V.str) /\ row.length <= 60 /\ grp.length <= 10 /\
  (Of rs row -> OfD rs grp -> ∀ D (ns : List Int) H', H D = none -> Same H H' -> H' D = some (.lst (ns.map V.int)) -> ns.Pairwise (· <= ·) -> ns.Nodup -> pM rs row row.length grp ns -> Q (.ref D) H') /\
  (∀ l, bad (rs.map (·.1)) row = some l -> ∀ a H', H a = none -> Same H H' -> eR H' a CN (Lt l) -> E (.ref a) none H') /\
  (Of rs row -> ∀ d, bad (rs.flatMap (·.2)) grp = some d -> ∀ a H', H a = none -> Same H H' -> eR H' a CD (Dk d) -> E (.ref a) none H')
theorem uJ : bE ["sharing", "row", "group", "downs", "last"] ["sharing", "row", "group"] (aD gX) := ⟨rfl, rfl, rfl, by decide +kernel, rfl, by decide +kernel, by decide +kernel⟩
theorem zaC (F : Fun K "known" "known" gX f fd) (B : Bt mg) (S : ShC K C) (dU : FnX P w K mg base k "refuse_letters" ["letters", "row"] (zbD K CN) g gd) (eZ : FnX P w K mg base k "refuse_desks" ["desks", "group"] (zbF K CD) g2 gd2) (gE : Fn P w K mg base k "history_of" ["sharing", "row"] (zkf K C) g3 gd3) (G_rising : Fn P w K mg base k "rising" ["things"] (mR K) g4 gd4) :
    FnOk P w K mg base (CXE P w) (k + 1) f fd ["sharing", "row", "group"] (pD K C CN CD) := by
  refine F.okX uJ (fun vs H Q E h => ?_) (fun cdv A outer s H vs Q E hr h => ?_)
  . obtain ⟨x, L, G, rs, row, grp, rfl, _⟩ := h
    rfl
  obtain ⟨x, L, G, rs, row, grp, rfl, hS, hG, hL, hGp, h60, h10, q, qe, qd⟩ := h
  have nd := uJ.nd
  have hs := cK
  have zab := qV (P := P) (w := w) (K := K) (mg := mg) (base := base) (N := ["sharing", "row", "group", "downs", "last"]) (qual := "known") (scope := aD gX) (f := f) (cd := cdv) (A := A) (outer := outer) (s0 := s) (CN := CN) (H0 := H) (E := E) (G := fun fs => ∃ n, fs = Lt n /\ bad (rs.map (·.1)) row = some n) (fun a H' fs ⟨n, e1, e2⟩ na sm fl => qe n e2 a H' na sm (e1 ▸ fl))
  have hpassD := qV (P := P) (w := w) (K := K) (mg := mg) (base := base) (N := ["sharing", "row", "group", "downs", "last"]) (qual := "known") (scope := aD gX) (f := f) (cd := cdv) (A := A) (outer := outer) (s0 := s) (CN := CD) (H0 := H) (E := E) (G := fun fs => ∃ n, fs = Dk n /\ Of rs row /\ bad (rs.flatMap (·.2)) grp = some n) (fun a H' fs ⟨n, e1, e2, e3⟩ na sm fl => qd e2 n e3 a H' na sm (e1 ▸ fl))
  obtain ⟨dx, tl, td, dd, kvs, ds, h1, h2, h3, h4, h5, h6, h7, h8, h9⟩ := id hS
  have hbd : bad ds grp = bad (rs.flatMap (·.2)) grp := yN fun d => by rw [h7 d, List.mem_flatMap]
  refine ⟨_, (aG (eS (aL dU.ok hr rfl dU.at_ dU.kp dU.bn .nil zab (aA (jP (pv 0) rfl) (aA (pv 1) aE)))) (aG (eS (aL eZ.ok hr rfl eZ.at_ eZ.kp eZ.bn .nil hpassD (aA (jP (pv 0) rfl) (aA (pv 2) aE)))) (aG (qD (aL gE.ok hr rfl gE.at_ gE.kp gE.bn .nil bF (aA (pv 0) (aA (pv 1) aE))) (fO rfl (aX (aO (i := 3) nd rfl (Or.inr rfl)) (aX (aO (i := 4) nd rfl (Or.inr rfl)) dX)))) (aJ (bK (cF cE rfl B.list_ (by decide +kernel) (aA (aL G_rising.ok hr rfl G_rising.at_ G_rising.kp G_rising.bn .nil bF (aA (tY (g := (aZ 0)) (tc := gG) (te := (bD 1)) (wi2 := (zbE K (tOp (oA K) (bD 2) (nA (bD 3) (bD 0))))) (g2 := (aZ 1)) (tc2 := gG) (own := ["desk", "number"]) (fr := ["downs", "last"]) (idx := [3, 4]) rfl (by show aR _ _ _ (aD gX); exact ⟨rfl, by decide +kernel, by decide +kernel, by decide +kernel, by decide +kernel, by decide +kernel, by decide +kernel⟩) (cS (pv 2)) (fun _ _ _ _ _ => (aO (i := 0) (by show List.Nodup (["desk", "number", "downs", "last"] : List Str); decide +kernel) rfl (Or.inl rfl) (Or.inr rfl))) (fun _ _ _ _ _ => bT) (fun _ _ _ _ _ => (jA (dZ bQ (pv 2) (jD (kE hr) (pv 3) (pv 0) (fun _ _ => rfl)) (fun _ _ => rfl)))) (fun _ _ _ _ _ => (aO (i := 1) (by show List.Nodup (["desk", "number", "downs", "last"] : List Str); decide +kernel) rfl (Or.inl rfl) (Or.inr rfl))) (fun _ _ _ _ _ => bT) (fun _ _ _ _ _ => (pv 1)) rfl (cV rfl)) aE)) aE))))))), ?_⟩
  try dsimp only [eU, Cx.nox, Cx.wish]
  refine i7 ?_
  intro D0 σ0 U4 U3 U2
  refine ⟨_, rfl, x, C, dx, _, _, rfl, h1, S.cls, S.n1, rfl, _, rfl, tl, L, _, row, rfl, SqT.of h2, hL, fun hb1 H1 x1 => ?_, fun l hb a H' na sm fl => ⟨a, rfl, na, sm, _, fl, l, rfl, hb⟩⟩
  have hO : Of rs row := eI.mp hb1
  refine ⟨_, rfl, x, C, dx, _, _, rfl, x1 _ _ h1, S.cls, S.n2, rfl, _, rfl, td, G, ds, grp, rfl, SqT.of (x1 _ _ h3), x1.seq hGp, fun hb2 H2 x2 => ?_, fun d hb a H' na sm fl => ⟨a, rfl, x1.free na, x1.trans sm, _, fl, d, rfl, hO, by rw [<- hbd]; exact hb⟩⟩
  have hOD : OfD rs grp := by
    rw [hbd] at hb2
    exact eI.mp hb2
  have y2 := x1.trans x2
  refine ⟨_, rfl, _, rfl, x, L, rs, row, rfl, hS.same y2, hG, y2.seq hL, hO, h60, fun T dn la dns H3 x3 kT I3 => ⟨T, _, rfl, SqT.of kT, rfl, _, _, rfl, _, _, rfl, rfl, ?_⟩⟩
  have y3 := y2.trans x3
  refine ⟨_, rfl, G, rfl, ⟨_, y3.seq hGp⟩, fun D hD => zeS (K := K) I3 (y3.seq hGp) (fun d hd => by obtain ⟨r, a, b⟩ := List.mem_flatMap.mp (hOD d hd); exact ⟨r, a, b⟩) h10 h60 hD fun H4 ys x4 k4 l4 u4 => ?_⟩
  have y4 := y3.trans x4
  refine .inr ⟨D, ys, rfl, SqL.of k4, by omega, fun ns nn nm => ?_, fun t ns H5 ps pn pm ht x5 k5 => ⟨t, _, rfl, .inr (SqT.of k5), fun l hl => ?_⟩⟩
  . have := lC (k := row.length) nn fun x hx => by
      obtain ⟨d, _, j, a, b⟩ := (u4 x).mp ((nm x).mp hx)
      have := mF b
      have := fL rs row d row.length
      exact ⟨j, a, by omega⟩
    omega
  . exact q hO hOD l ns _ ((y4.trans x5).free hl) ((y4.trans x5).trans (aK hl)) aB ps pn fun x => (pm x).trans (u4 x)
end
abbrev cR : Stmt := top 27
theorem zbX {X : Cx} {P : Program} {w : World} : jV (CXE P w) X E0 := fun _ _ _ _ _ _ _ h => by
  obtain ⟨_, _, _, _, _, _, _, z⟩ := h
  exact z.elim
theorem us1 {α : Type} {C : List α -> Prop} (h : ∀ a, C [a]) (us : List α) (hl : us.length = 1) : C us := by
  cases us with
  | nil => cases hl
  | cons a t =>
    obtain rfl := List.length_eq_zero_iff.mp (Nat.succ.inj hl)
    exact h a
theorem us2 {α : Type} {C : List α -> Prop} (h : ∀ a b, C [a, b]) (us : List α) (hl : us.length = 2) : C us := by
  cases us with
  | nil => cases hl
  | cons a t => exact us1 (C := fun t => C (a :: t)) (h a) t (Nat.succ.inj hl)
theorem us3 {α : Type} {C : List α -> Prop} (h : ∀ a b c, C [a, b, c]) (us : List α) (hl : us.length = 3) : C us := by
  cases us with
  | nil => cases hl
  | cons a t => exact us2 (C := fun t => C (a :: t)) (h a) t (Nat.succ.inj hl)
theorem us4 {α : Type} {C : List α -> Prop} (h : ∀ a b c d, C [a, b, c, d]) (us : List α) (hl : us.length = 4) : C us := by
  cases us with
  | nil => cases hl
  | cons a t => exact us3 (C := fun t => C (a :: t)) (h a) t (Nat.succ.inj hl)
theorem us5 {α : Type} {C : List α -> Prop} (h : ∀ a b c d e, C [a, b, c, d, e]) (us : List α) (hl : us.length = 5) : C us := by
  cases us with
  | nil => cases hl
  | cons a t => exact us4 (C := fun t => C (a :: t)) (h a) t (Nat.succ.inj hl)
theorem zpe {σ : L2.St} (h : List.length σ = 5) : ∃ a b c d e, σ = [a, b, c, d, e] := us5 (C := fun σ => ∃ a b c d e, σ = [a, b, c, d, e]) (fun a b c d e => ⟨a, b, c, d, e, rfl⟩) σ h
structure FnH (P : Program) (w : World) (K : W.Frag) (mg : Str -> Option Value) (base : Heap) (k : Nat) (x : Str) (ps : List Str) (sp : Sp) (g : Addr) (gd : FuncData) : Prop where
  ok : FnOkH P w K mg base k g gd ps sp
  bn : gI K gd ps []
  kp : W.keepIn K (.ref g) = true
  at_ : mg x = some (.ref g)
structure XOt (K : W.Frag) (mg : Str -> Option Value) (CN M : Addr) (c : Nat -> Addr) : Prop where
  m4 : mg "NoLetter" = some (.ref (c 4))
  m5 : mg "NoDesk" = some (.ref (c 5))
  mM : mg "MeetError" = some (.ref M)
  k4 : W.kitOne K (.ref CN) (.ref (c 4)) = some true
  k5 : W.kitOne K (.ref CN) (.ref (c 5)) = some false
section
variable {P : Program} {w : World} {K : W.Frag} {mg : Str -> Option Value} {base : Heap} {f g g2 g3 g4 : Addr} {fd gd gd2 gd3 gd4 : FuncData} {k j : Nat} {C CN M ft : Addr} {ftd : FuncData} {c : Nat -> Addr}
def zoX (l : Str) : HO := .tup [.str "no letter", .str l]
def qN (CN : Addr) : Sp := fun vs H Q _ => ∃ (e : Addr) (l : Str), vs = [.ref e] /\ eR H e CN (Lt l) /\ ∀ t H', H t = none -> Same H H' -> H' t = some (zoX l) -> Q (.ref t) H'
theorem iQ : bE ["_law_e"] ["_law_e"] (aD cR) := ⟨rfl, rfl, rfl, by decide +kernel, rfl, by decide +kernel, by decide +kernel⟩
theorem xJ (F : Fun K "_law_refusal" "_law_refusal" cR f fd) (B : Bt mg) (xt : XMk P w K mg base j CN M ft ftd) (xo : XOt K mg CN M c) : FnOkH P w K mg base (k + 1) f fd ["_law_e"] (qN CN) := by
  refine F.okH iQ (fun vs H Q E h => ?_) (fun cdv A outer s H vs Q h => ?_)
  . obtain ⟨e, l, rfl, _⟩ := h
    rfl
  obtain ⟨e, l, rfl, fl, q⟩ := h
  have nd := iQ.nd
  refine ⟨_, (aG (eG (PW.pt (rO (eC (aT (fC xt.xc) rfl B.isinstance_ boot_isinstance (aA (pv 0) (aA (gF (v := .ref (c 4)) rfl xo.m4 rfl) aE))) (fun _ => rfl)) (mD (fS (eC (aT (fC xt.xc) rfl B.isinstance_ boot_isinstance (aA (pv 0) (aA (gF (v := .ref (c 5)) rfl xo.m5 rfl) aE))) (fun _ => rfl)))))) (aJ (bK (hZ (aA fX (aA (zI xt.xc xt.fn (pv 0)) aE))))) bM) (aG (eG (PW.pt (rO (eC (aT (fC xt.xc) rfl B.isinstance_ boot_isinstance (aA (pv 0) (aA (gF (v := .ref (c 5)) rfl xo.m5 rfl) aE))) (fun _ => rfl)) (mD (fS (eC (aT (fC xt.xc) rfl B.isinstance_ boot_isinstance (aA (pv 0) (aA (gF (v := .ref (c 4)) rfl xo.m4 rfl) aE))) (fun _ => rfl)))))) (aJ (bK (hZ (aA fX (aA (jP (pv 0) rfl) aE))))) bM) (aJ (bK vE)))), ?_⟩
  try dsimp only [eU, Cx.nox, Cx.wish]
  refine sX ?_
  intro D0 σ0 U3 U2
  refine ⟨_, rfl, e, _, .ref (c 4), .ref (c 4), true, rfl, fl, rfl, fun _ z => z, xo.k4, true, rfl, zkn ?_⟩
  refine ⟨_, rfl, e, _, .ref (c 5), .ref (c 5), false, rfl, fl, rfl, fun _ z => z, xo.k5, false, rfl, ?_⟩
  refine zkn ?_
  exact ⟨_, rfl, e, Lt l, .str l, rfl, fl, rfl, jW (show 2 <= 1000 by decide), fun t ht => q t _ ht (aK ht) aB⟩
end
structure znN (K : W.Frag) (mg : Str -> Option Value) (CD M : Addr) (c : Nat -> Addr) : Prop where
  m4 : mg "NoLetter" = some (.ref (c 4))
  m5 : mg "NoDesk" = some (.ref (c 5))
  mM : mg "MeetError" = some (.ref M)
  k4 : W.kitOne K (.ref CD) (.ref (c 4)) = some false
  k5 : W.kitOne K (.ref CD) (.ref (c 5)) = some true
section
variable {P : Program} {w : World} {K : W.Frag} {mg : Str -> Option Value} {base : Heap} {f g g2 g3 g4 : Addr} {fd gd gd2 gd3 gd4 : FuncData} {k j : Nat} {C CN CD M ft : Addr} {ftd : FuncData} {c : Nat -> Addr}
def zgn (d : Str) : HO := .tup [.str "no desk", .str d]
def nN (CD : Addr) : Sp := fun vs H Q _ => ∃ (e : Addr) (d : Str), vs = [.ref e] /\ eR H e CD (Dk d) /\ ∀ t H', H t = none -> Same H H' -> H' t = some (zgn d) -> Q (.ref t) H'
theorem sA (F : Fun K "_law_refusal" "_law_refusal" cR f fd) (B : Bt mg) (xt : zlA P w K mg base j CD M ft ftd) (xo : znN K mg CD M c) : FnOkH P w K mg base (k + 1) f fd ["_law_e"] (nN CD) := by
  refine F.okH iQ (fun vs H Q E h => ?_) (fun cdv A outer s H vs Q h => ?_)
  . obtain ⟨e, l, rfl, _⟩ := h
    rfl
  obtain ⟨e, l, rfl, fl, q⟩ := h
  have nd := iQ.nd
  refine ⟨_, (aG (eG (PW.pt (rO (eC (aT (fC xt.xc) rfl B.isinstance_ boot_isinstance (aA (pv 0) (aA (gF (v := .ref (c 4)) rfl xo.m4 rfl) aE))) (fun _ => rfl)) (mD (fS (eC (aT (fC xt.xc) rfl B.isinstance_ boot_isinstance (aA (pv 0) (aA (gF (v := .ref (c 5)) rfl xo.m5 rfl) aE))) (fun _ => rfl)))))) (aJ (bK (hZ (aA fX (aA (jP (pv 0) rfl) aE))))) bM) (aG (eG (PW.pt (rO (eC (aT (fC xt.xc) rfl B.isinstance_ boot_isinstance (aA (pv 0) (aA (gF (v := .ref (c 5)) rfl xo.m5 rfl) aE))) (fun _ => rfl)) (mD (fS (eC (aT (fC xt.xc) rfl B.isinstance_ boot_isinstance (aA (pv 0) (aA (gF (v := .ref (c 4)) rfl xo.m4 rfl) aE))) (fun _ => rfl)))))) (aJ (bK (hZ (aA fX (aA (zI xt.xc xt.fn (pv 0)) aE))))) bM) (aJ (bK vE)))), ?_⟩
  try dsimp only [eU, Cx.nox, Cx.wish]
  refine sX ?_
  intro D0 σ0 U3 U2
  refine ⟨_, rfl, e, _, .ref (c 4), .ref (c 4), false, rfl, fl, rfl, fun _ z => z, xo.k4, false, rfl, oF (oF ?_)⟩
  refine ⟨_, rfl, e, _, .ref (c 5), .ref (c 5), true, rfl, fl, rfl, fun _ z => z, xo.k5, true, rfl, zkn ?_⟩
  refine ⟨_, rfl, e, _, .ref (c 4), .ref (c 4), false, rfl, fl, rfl, fun _ z => z, xo.k4, false, rfl, ?_⟩
  refine zkn ?_
  exact ⟨_, rfl, e, Dk l, .str l, rfl, fl, rfl, jW (show 2 <= 1000 by decide), fun t ht => q t _ ht (aK ht) aB⟩
theorem _root_.L2.FnOkH.or {ps : List Str} {sp sp' : Sp} (F : FnOkH P w K mg base k f fd ps sp) (G : FnOkH P w K mg base k f fd ps sp') : FnOkH P w K mg base k f fd ps (fun vs H Q E => sp vs H Q E \/ sp' vs H Q E) :=
  ⟨fun vs H Q E q => q.elim (F.len vs H Q E) (G.len vs H Q E), fun A outer s H args us vs Q hr he hb hv hs => hs.elim (F.run A outer s H args us vs Q hr he hb hv) (G.run A outer s H args us vs Q hr he hb hv)⟩
def kF (CN CD : Addr) : Sp := fun vs H Q E => qN CN vs H Q E \/ nN CD vs H Q E
end
abbrev eW : Stmt := top 28
theorem pL : bE ["_law_sharing", "_law_row_here", "_law_group_here", "_law_found", "_law_e"] ["_law_sharing", "_law_row_here", "_law_group_here"] (aD eW) := ⟨rfl, rfl, rfl, by decide +kernel, rfl, by decide +kernel, by decide +kernel⟩
section
variable {P : Program} {w : World} {K : W.Frag} {mg : Str -> Option Value} {base : Heap} {f g g2 g3 g4 : Addr} {fd gd gd2 gd3 gd4 : FuncData} {k j : Nat} {C CN CD M ft : Addr} {ftd : FuncData} {c : Nat -> Addr}
def yP (K : W.Frag) (C : Addr) : Sp := fun vs H Q _ => ∃ (x L G : Addr) (rs : List Row) (row grp : List Str) (l : Str), vs = [.ref x, .ref L, .ref G] /\ mZ C H x rs /\ nX rs /\ SqL K H L (row.map V.str) /\ SqL K H G (grp.map V.str) /\ row.length <= 60 /\ grp.length <= 10 /\
  bad (rs.map (·.1)) row = some l /\ ∀ t H', H t = none -> Same H H' -> H' t = some (zoX l) -> Q (.ref t) H'
def zap (K : W.Frag) (C : Addr) : Sp := fun vs H Q _ => ∃ (x L G : Addr) (rs : List Row) (row grp : List Str) (d : Str), vs = [.ref x, .ref L, .ref G] /\ mZ C H x rs /\ nX rs /\ SqL K H L (row.map V.str) /\ SqL K H G (grp.map V.str) /\ row.length <= 60 /\ grp.length <= 10 /\
  Of rs row /\ bad (rs.flatMap (·.2)) grp = some d /\ ∀ t H', H t = none -> Same H H' -> H' t = some (zgn d) -> Q (.ref t) H'
def oG (K : W.Frag) (C : Addr) : Sp := fun vs H Q E => yP K C vs H Q E \/ zap K C vs H Q E
theorem zbB (F : Fun K "_law_told" "_law_told" eW f fd) (xt : XMk P w K mg base j CN M ft ftd) (xb : XB K M) (xo : XOt K mg CN M c) (dA : FnX P w K mg base k "known" ["sharing", "row", "group"] (pD K C CN CD) g gd) (bP : FnH P w K mg base k "_law_refusal" ["_law_e"] (kF CN CD) g2 gd2) :
    FnOk P w K mg base CX0 (k + 1) f fd ["_law_sharing", "_law_row_here", "_law_group_here"] (yP K C) := by
  refine F.ok pL (fun vs H Q E h => ?_) (fun cdv A outer s H vs Q E hr h => ?_)
  . obtain ⟨x, L, G, rs, row, grp, l, rfl, _⟩ := h
    rfl
  obtain ⟨x, L, G, rs, row, grp, l, rfl, hSh, hG, h1, h2, l1, l2, hl, q⟩ := h
  have nd := pL.nd
  have hRX : ∀ a fs H1 H2, (H a = none /\ Same H H1 /\ fs = Lt l) -> (∀ b o, b ≠ a -> H1 b = some o -> H2 b = some o) -> eR H2 a CN fs -> (H a = none /\ Same H H2 /\ fs = Lt l) := fun a fs H1 H2 ⟨na, sm, g⟩ k _ => ⟨na, fun b o e => k b o (aF e na) (sm b o e), g⟩
  have no : Of rs row -> False := fun o1 => by
    rw [eI.mpr o1] at hl
    cases hl
  refine ⟨_, (aG (aS (i := 3) nd rfl (Or.inl rfl) vE) (aG (q5 (i := 4) xt.xc xb rfl rfl nd rfl rfl rfl hRX (fun E pn zab => (aJ (aS (i := 3) nd rfl (Or.inl rfl) (aL dA.ok hr rfl dA.at_ dA.kp dA.bn .nil zab (aA (pv 0) (aA (pv 1) (aA (pv 2) aE))))))) (fun a => gF (v := .ref M) rfl xo.mM rfl) (fun a => (aJ (aS (i := 3) nd rfl (Or.inl rfl) (uE bP.ok (hr.hand _) rfl bP.at_ bP.kp bP.bn (aA (pv 4) aE)))))) (aJ (bK (pv 3))))), ?_⟩
  try dsimp only [eU, Cx.nox, Cx.wish]
  refine sX ?_
  intro D0 σ0 U3 U2
  refine ⟨?_, ?_⟩
  . refine ⟨_, rfl, _, rfl, _, rfl, x, L, G, rs, row, grp, rfl, hSh, hG, h1, h2, l1, l2, fun o1 => (no o1).elim, fun n' hn' a H' na sm fl => ⟨a, _, rfl, fl, na, sm, ?_⟩, fun o1 => (no o1).elim⟩
    rw [hl] at hn'
    rw [Option.some.inj hn']
  . rintro a fs H1 σ1 hl' fl ⟨na, sm, rfl⟩
    obtain ⟨s0, s1, s2, s3, s4, rfl⟩ := zpe hl'
    refine ⟨_, rfl, .inl ⟨a, l, rfl, fl, fun t H2 nt x2 ht => ?_⟩⟩
    exact ⟨_, rfl, q t H2 (sm.free nt) (sm.trans x2) ht⟩
theorem zaZ (F : Fun K "_law_told" "_law_told" eW f fd) (xt : zlA P w K mg base j CD M ft ftd) (xb : XB K M) (xo : znN K mg CD M c) (dA : FnX P w K mg base k "known" ["sharing", "row", "group"] (pD K C CN CD) g gd) (bP : FnH P w K mg base k "_law_refusal" ["_law_e"] (kF CN CD) g2 gd2) :
    FnOk P w K mg base CX0 (k + 1) f fd ["_law_sharing", "_law_row_here", "_law_group_here"] (zap K C) := by
  refine F.ok pL (fun vs H Q E h => ?_) (fun cdv A outer s H vs Q E hr h => ?_)
  . obtain ⟨x, L, G, rs, row, grp, l, rfl, _⟩ := h
    rfl
  obtain ⟨x, L, G, rs, row, grp, l, rfl, hSh, hG, h1, h2, l1, l2, hO, hl, q⟩ := h
  have nd := pL.nd
  have hRX : ∀ a fs H1 H2, (H a = none /\ Same H H1 /\ fs = Dk l) -> (∀ b o, b ≠ a -> H1 b = some o -> H2 b = some o) -> eR H2 a CD fs -> (H a = none /\ Same H H2 /\ fs = Dk l) := fun a fs H1 H2 ⟨na, sm, g⟩ k _ => ⟨na, fun b o e => k b o (aF e na) (sm b o e), g⟩
  refine ⟨_, (aG (aS (i := 3) nd rfl (Or.inl rfl) vE) (aG (q5 (i := 4) xt.xc xb rfl rfl nd rfl rfl rfl hRX (fun E pn zab => (aJ (aS (i := 3) nd rfl (Or.inl rfl) (aL dA.ok hr rfl dA.at_ dA.kp dA.bn .nil zab (aA (pv 0) (aA (pv 1) (aA (pv 2) aE))))))) (fun a => gF (v := .ref M) rfl xo.mM rfl) (fun a => (aJ (aS (i := 3) nd rfl (Or.inl rfl) (uE bP.ok (hr.hand _) rfl bP.at_ bP.kp bP.bn (aA (pv 4) aE)))))) (aJ (bK (pv 3))))), ?_⟩
  try dsimp only [eU, Cx.nox, Cx.wish]
  refine sX ?_
  intro D0 σ0 U3 U2
  refine ⟨?_, ?_⟩
  . refine ⟨_, rfl, _, rfl, _, rfl, x, L, G, rs, row, grp, rfl, hSh, hG, h1, h2, l1, l2, fun _ o2 => ?_, fun n' hn' => ?_, fun _ n' hn' a H' na sm fl => ⟨a, _, rfl, fl, na, sm, ?_⟩⟩
    . rw [eI.mpr o2] at hl
      cases hl
    . rw [eI.mpr hO] at hn'
      cases hn'
    . rw [hl] at hn'
      rw [Option.some.inj hn']
  . rintro a fs H1 σ1 hl' fl ⟨na, sm, rfl⟩
    obtain ⟨s0, s1, s2, s3, s4, rfl⟩ := zpe hl'
    refine ⟨_, rfl, .inr ⟨a, l, rfl, fl, fun t H2 nt x2 ht => ?_⟩⟩
    exact ⟨_, rfl, q t H2 (sm.free nt) (sm.trans x2) ht⟩
end
abbrev eB : Stmt := top 24
abbrev dJ : Stmt := top 29
theorem zhV (K : W.Frag) : W.kitOne K (.type "list") (.type "list") = some true := by kernel_rfl
theorem ziO (K : W.Frag) : W.kitOne K (.type "int") (.type "int") = some true := by kernel_rfl
theorem zkK (K : W.Frag) : W.kitOne K (.type "int") (.type "bool") = some false := by kernel_rfl
theorem zmP {r : Int} (h0 : 0 <= r) (h1 : r < 3) : ∃ m : Int, atI [V.int 3, V.int 3, V.int 8] r = some (.int m) /\ 1 <= m /\ m <= 8 := by
  obtain ⟨n, rfl⟩ := Int.eq_ofNat_of_zero_le h0
  match n, h1 with
  | 0, _ => exact ⟨3, bV (j := 0) rfl, by decide, by decide⟩
  | 1, _ => exact ⟨3, bV (j := 1) rfl, by decide, by decide⟩
  | 2, _ => exact ⟨8, bV (j := 2) rfl, by decide, by decide⟩
  | n + 3, h => exact absurd h (by omega)
theorem zji {p1 p2 R O : Addr} (h1 : p1 ≠ R) (h2 : p2 ≠ O) : ∀ (j : Nat) (p q : Addr), [p1, p2][j]? = some p -> [R, O][j]? = some q -> p ≠ q := by
  intro j p q e1 e2
  match j, e1, e2 with
  | 0, e1, e2 =>
    cases Option.some.inj e1
    cases Option.some.inj e2
    exact h1
  | 1, e1, e2 =>
    cases Option.some.inj e1
    cases Option.some.inj e2
    exact h2
  | j + 2, e1, e2 => simp at e1
theorem zbh {kv : List (Key × V)} {x : Key} : (gR kv x).isSome = true ↔ x ∈ kv.map (·.1) := by
  rw [<- jQ, List.any_eq_true]
  constructor
  . rintro ⟨p, h1, h2⟩
    rw [<- of_decide_eq_true h2]; exact List.mem_map_of_mem h1
  . intro h
    obtain ⟨p, h1, h2⟩ := List.mem_map.mp h
    exact ⟨p, h1, decide_eq_true h2⟩
theorem tM {ys row : List Str} {A : Prop} (h : ∀ l ∈ row, l ∈ ys) {l : Str} (e : bad ys row = some l) : A := by
  rw [eI.mpr h] at e
  cases e
abbrev zfY (K : W.Frag) : List V -> Hp -> VK -> Prop := fun xs H Q => ∃ (p : Addr) (bs : List Bool), xs = [.ref p] /\ SqL K H p (bs.map V.bl) /\ Q (.bl (bs.any id)) H
structure UsI (rs : List Row) (row : List Str) (H : Hp) (U la : Addr) (us : List Addr) : Prop where
  u : H U = some (.lst (us.map V.ref))
  len : us.length = row.length + 1
  ok : ∀ k p, us[k]? = some p -> ∃ kv, H p = some (.dK kv) /\ UV rs row k kv
  l : ∃ kvl : List (Key × V), H la = some (.dK kvl) /\ ∀ d, (∃ r ∈ rs, d ∈ r.2) -> gR kvl (.inr d) = some (.int ((eV rs row row.length d : Nat) : Int))
theorem UsI.same {rs : List Row} {row : List Str} {H H' : Hp} {U la : Addr} {us : List Addr} (h : UsI rs row H U la us) (x : Same H H') : UsI rs row H' U la us := by
  obtain ⟨kvl, l1, l3⟩ := h.l
  exact ⟨x _ _ h.u, h.len, fun k p e => let ⟨ns, a, b⟩ := h.ok k p e; ⟨ns, x _ _ a, b⟩, kvl, x _ _ l1, l3⟩
section
variable {P : Program} {w : World} {K : W.Frag} {mg : Str -> Option Value} {base : Heap} {f g g2 g3 g4 : Addr} {fd gd gd2 gd3 gd4 : FuncData} {k j : Nat} {C CN CD M ft : Addr} {ftd : FuncData} {c : Nat -> Addr}
def zN : Sp := fun vs H Q _ => ∃ (a L : Addr) (ys : List Str), vs = [.ref a, .ref L] /\ aY H a /\ H L = some (.lst (ys.map V.str)) /\ L ≠ a /\ ys ≠ [] /\ ys.length <= 60 /\
  ∀ (r : Addr) (grp : List Str) (H' : Hp), 1 <= grp.length -> grp.length <= 8 -> (∀ l ∈ grp, l ∈ ys) -> r ≠ a -> H r = none -> aY H' a -> Ext a H H' -> H' r = some (.lst (grp.map V.str)) -> Q (.ref r) H'
theorem tL : bE ["_law_flow_here", "_law_desks_here"] ["_law_flow_here", "_law_desks_here"] (aD eB) := ⟨rfl, rfl, rfl, by decide +kernel, rfl, by decide +kernel, by decide +kernel⟩
theorem zay (F : Fun K "_law_group" "_law_group" eB f fd) (B : Bt mg) (aC : Fn P w K mg base k "_law_draw" ["_law_flow_here", "_law_many"] fW g gd) : FnOk P w K mg base CX0 (k + 1) f fd ["_law_flow_here", "_law_desks_here"] zN := by
  refine F.ok tL (fun vs H Q E h => ?_) (fun cdv A outer s H vs Q E hr h => ?_)
  . obtain ⟨a, L, ys, rfl, _⟩ := h
    rfl
  obtain ⟨a, L, ys, rfl, hF, hL, nL, hy, h60, q⟩ := h
  have nd := tL.nd
  refine ⟨_, (aJ (bK (dI (g := (aZ 0)) (tc := gG) (te := (tOp (oA K) (bD 1) (lV fW [] E0 (bS (bD 2) (bS (tCB (fun xs H Q => ∃ p ys, xs = [.ref p] /\ (SqL K H p ys \/ SqT K H p ys) /\ Q (.int ys.length) H) (bS (bD 1) iD)) iD))))) (own := ["_law_k"]) (fr := ["_law_desks_here", "_law_flow_here"]) (idx := [1, 0]) rfl (by show aR _ _ _ (aD eB); exact ⟨rfl, by decide +kernel, by decide +kernel, by decide +kernel, by decide +kernel, by decide +kernel, by decide +kernel⟩) (dG rfl B.range_ (aA (aW cO aI (aL aC.ok hr rfl aC.at_ aC.kp aC.bn .nil bF (aA (pv 0) (aA (dZ bQ (dP (aA aI (aA aI (aA aI aE)))) (aL aC.ok hr rfl aC.at_ aC.kp aC.bn .nil bF (aA (pv 0) (aA aI aE))) (fun _ _ => rfl)) aE)))) aE)) (fun _ _ _ _ _ => (aO (i := 0) (by show List.Nodup (["_law_k", "_law_desks_here", "_law_flow_here"] : List Str); decide +kernel) rfl (Or.inl rfl) (Or.inr rfl))) (fun _ _ _ _ _ => bT) (fun _ _ _ _ _ => (dZ bQ (pv 1) (aL aC.ok hr rfl aC.at_ aC.kp aC.bn .nil bF (aA (pv 2) (aA (aT bL rfl B.len_ PySem.boot_len (aA (pv 1) aE)) aE))) (fun _ _ => rfl))) rfl (cV rfl)))), ?_⟩
  try dsimp only [eU, Cx.nox, Cx.wish]
  refine ⟨_, rfl, jW (show 3 <= 1000 by decide), fun p hp => ?_⟩
  have x0 : Same H (upd H p (.lst [.int 3, .int 3, .int 8])) := aK hp
  have k0 : upd H p (.lst [.int 3, .int 3, .int 8]) p = some (.lst [.int 3, .int 3, .int 8]) := aB
  have np : p ≠ a := dB hp hF
  have f0 := Same.flow x0 hF
  generalize upd H p (.lst [.int 3, .int 3, .int 8]) = H0 at x0 k0 f0 ⊢
  refine ⟨_, rfl, a, 3, rfl, f0, by decide, by decide, fun r1 H1 r10 r11 f1 x1 => ?_⟩
  obtain ⟨m, hm, m1, m8⟩ := zmP r10 r11
  refine ⟨p, _, _, .int m, rfl, rfl, SqL.of (x1 _ _ np k0), hm, a, m, rfl, f1, by omega, by omega, fun r2 H2 r20 r21 f2 x2 => ⟨_, _, rfl, rfl, _, rfl, by omega, by omega, fun D hD => ?_⟩⟩
  have x02 : Ext a H H2 := (Same.ext x0).trans (x1.trans x2)
  have nD := dB hD f2
  have hH : H D = none := zat x02 nD hD
  exact tR (K := K) (by omega) hy h60 hD f2 (x02 _ _ nL hL) nL fun row H4 e4 hm f4 x4 hD4 => q D row H4 (by omega) (by omega) hm nD hH f4 (x02.trans x4) hD4
theorem zpL {D G U la : Addr} {Q : VK} {H1 : Hp} {rs : List Row} {row grp : List Str} {us : List Addr} {n : Nat} (hu : UsI rs row H1 U la us) (hGp : H1 G = some (.lst (grp.map V.str))) (hO : OfD rs grp) (h10 : grp.length <= 10) (hD : H1 D = none)
    (hdn : ∀ H' (bs : List Bool), Same H1 H' -> H' D = some (.lst (bs.map V.bl)) -> (bs.any id = true ↔ ∃ d ∈ grp, Und rs row (eV rs row row.length d) n) -> Q (.ref D) H') :
    bO (Itl K G) D (aZ 0) gG (ziG (bD 1) (tOp (oA K) (bD 2) (nA (bD 3) (bD 0)))) Q [none, some (.int (n : Int)), some (.ref U), some (.ref la)] H1 := by
  refine iO (xs := grp.map V.str) (fun i ys σ H => ∃ (v : Option V) (bs : List Bool), ys = bs.map V.bl /\ bs.length = i /\ σ = [v, some (.int (n : Int)), some (.ref U), some (.ref la)] /\ Same H1 H /\ (bs.any id = true ↔ ∃ d ∈ grp.take i, Und rs row (eV rs row row.length d) n)) ?_ (by rw [List.length_map]; omega) ?_ ?_ ?_ ?_
  . exact ⟨none, [], rfl, rfl, rfl, aK hD, (fun z => nomatch z), fun ⟨_, z, _⟩ => nomatch z⟩
  . rintro i ys σ H ⟨v, bs, rfl, rfl, _⟩
    rw [List.length_map]; exact Nat.le_refl _
  . rintro i ys σ H ⟨v, bs, _, _, _, x, _⟩
    exact SqL.of (x _ _ hGp)
  . rintro i y ys σ H hy hl2 ⟨v, bs, rfl, rfl, rfl, x, hb⟩
    rw [List.getElem?_map] at hy
    obtain ⟨d, hd, rfl⟩ := Option.map_eq_some_iff.mp hy
    obtain ⟨kvl, l1, l3⟩ := hu.l
    obtain ⟨r, ra, rb⟩ := List.mem_flatMap.mp (hO d (List.mem_of_getElem? hd))
    have v1 := l3 d ⟨r, ra, rb⟩
    have hle := fL rs row d row.length
    have hun : us[eV rs row row.length d]? = some (us[eV rs row row.length d]'(by rw [hu.len]; omega)) := List.getElem?_eq_getElem (by rw [hu.len]; omega)
    obtain ⟨kv, c1, c2⟩ := hu.ok _ _ hun
    generalize us[eV rs row row.length d]'(by rw [hu.len]; omega) = p at hun c1
    have gla : mV H la (.str d) (some (.int ((eV rs row row.length d : Nat) : Int))) := by rw [<- v1]; exact mV.k (k := .inr d) (x _ _ l1)
    refine ⟨_, rfl, _, rfl, _, rfl, _, rfl, la, _, rfl, gla, U, _, _, .ref p, rfl, rfl, SqL.of (x _ _ hu.u), bV (by rw [List.getElem?_map, hun]; rfl), p, _, rfl, mV.k (k := .inl (n : Int)) (x _ _ c1), hl2, _, bs ++ [(gR kv (.inl (n : Int))).isSome], by rw [List.map_append]; rfl, by rw [List.length_append]; rfl, rfl, x.at hD, ?_⟩
    have hc : (gR kv (.inl (n : Int))).isSome = true ↔ Und rs row (eV rs row row.length d) n := by
      rw [zbh, c2.mem]
      constructor
      . rintro ⟨j, e, u⟩
        injection e with e
        have : n = j := by omega
        rw [this]; exact u
      . intro u
        exact ⟨n, rfl, u⟩
    rw [List.any_append, Bool.or_eq_true, hb, bN hd]
    constructor
    . rintro (⟨d', h1, h2⟩ | h)
      . exact ⟨d', List.mem_append_left _ h1, h2⟩
      . exact ⟨d, List.mem_append_right _ (List.mem_singleton.mpr rfl), hc.mp (by simpa using h)⟩
    . rintro ⟨d', h1, h2⟩
      rcases List.mem_append.mp h1 with z | z
      . exact .inl ⟨d', z, h2⟩
      . rw [List.mem_singleton.mp z] at h2
        exact .inr (by simpa using hc.mpr h2)
  . rintro ys σ H hl2 ⟨v, bs, rfl, _, _, x, hb⟩
    rw [List.length_map, List.take_length] at hb
    exact hdn H bs x hl2 hb
theorem zpO {D G U la : Addr} {Q : VK} {H1 : Hp} {rs : List Row} {row grp : List Str} {us : List Addr} (hu : UsI rs row H1 U la us) (hGp : H1 G = some (.lst (grp.map V.str))) (hO : OfD rs grp) (h10 : grp.length <= 10) (h60 : row.length <= 60) (hD : H1 D = none)
    (hdn : ∀ H' (ns : List Int), Same H1 H' -> H' D = some (.lst (ns.map V.int)) -> ns.Pairwise (· <= ·) -> ns.Nodup -> pM rs row row.length grp ns -> Q (.ref D) H') :
    bO (Itr 0 (row.length + 1)) D (aZ 0) (tB (tCB (zfY K) (bS (yB (zeq K (bD 3)) 1 [0, 1, 2] (aZ 0) gG (ziG (bD 1) (tOp (oA K) (bD 2) (nA (bD 3) (bD 0))))) iD))) (bD 0) Q [none, some (.ref U), some (.ref la), some (.ref G)] H1 := by
  refine fN (fun i ys σ H => ∃ (v : Option V) (ns : List Int), ys = ns.map V.int /\ ns.length <= i /\ σ = [v, some (.ref U), some (.ref la), some (.ref G)] /\ Same H1 H /\ ns.Pairwise (· < ·) /\ ∀ x, x ∈ ns ↔ ∃ j : Nat, j < i /\ x = (j : Int) /\ ∃ d ∈ grp, Und rs row (eV rs row row.length d) j) ?_ (by omega) ?_ ?_ ?_
  . exact ⟨none, [], rfl, Nat.le_refl _, rfl, aK hD, .nil, fun x => ⟨(fun z => nomatch z), fun ⟨j, z, _⟩ => absurd z (Nat.not_lt_zero _)⟩⟩
  . rintro i ys σ H ⟨v, ns, rfl, hl, _⟩
    rw [List.length_map]; exact hl
  . rintro i ys σ H hi hl2 ⟨v, ns, rfl, hl, rfl, x, hp, hm⟩
    rw [Int.zero_add]
    refine ⟨_, rfl, G, rfl, ⟨_, SqL.of (x _ _ hGp)⟩, fun D2 hD2 => zpL (K := K) (n := i) (hu.same x) (x _ _ hGp) hO h10 hD2 fun H2 bs x2 k2 hb => ⟨D2, bs, rfl, SqL.of k2, _, rfl, ?_⟩⟩
    have kD := x2 _ _ hl2
    refine pR (fun c => ?_) (fun c => ?_)
    . refine ⟨_, rfl, kD, _, ns ++ [(i : Int)], by rw [List.map_append]; rfl, by rw [List.length_append]; show ns.length + 1 <= _; omega, rfl, (x.trans x2).at hD, ?_, fun y => ?_⟩
      . refine List.pairwise_append.mpr ⟨hp, List.pairwise_singleton _ _, fun a ha b hb' => ?_⟩
        obtain ⟨j, h1, h2, _⟩ := (hm a).mp ha
        rw [List.mem_singleton.mp hb', h2]; omega
      . rw [List.mem_append, hm y, List.mem_singleton]
        constructor
        . rintro (⟨j, h1, h2⟩ | h)
          . exact ⟨j, by omega, h2⟩
          . exact ⟨i, by omega, h, hb.mp c⟩
        . rintro ⟨j, h1, h2, h3⟩
          by_cases e : j = i
          . exact .inr (by rw [h2, e])
          . exact .inl ⟨j, by omega, h2, h3⟩
    . refine ⟨kD, _, ns, rfl, by omega, rfl, x.trans x2, hp, fun y => ?_⟩
      rw [hm y]
      constructor
      . rintro ⟨j, h1, h2⟩
        exact ⟨j, by omega, h2⟩
      . rintro ⟨j, h1, h2, h3⟩
        by_cases e : j = i
        . rw [e] at h3
          exact absurd (hb.mpr h3) c
        . exact ⟨j, by omega, h2, h3⟩
  . rintro ys σ H hl2 ⟨v, ns, rfl, _, _, x, hp, hm⟩
    refine hdn H ns x hl2 (hp.imp Int.le_of_lt) (hp.imp fun h => Int.ne_of_lt h) fun y => ?_
    rw [hm y]
    constructor
    . rintro ⟨j, h1, h2, d, h3, h4⟩
      exact ⟨d, h3, j, h2, h4⟩
    . rintro ⟨d, h3, j, h2, h4⟩
      have := mF h4
      have := fL rs row d row.length
      exact ⟨j, by omega, h2, d, h3, h4⟩
theorem zhE {D L : Addr} {Q : VK} {H1 : Hp} {ns : List Int} (hL : H1 L = some (.lst (ns.map V.int))) (hn : ns.length <= 1000) (hD : H1 D = none)
    (hdn : ∀ H', Same H1 H' -> H' D = some (.lst ((List.replicate ns.length true).map V.bl)) -> Q (.ref D) H') :
    bO (Itl K L) D (aZ 0) gG (zdM (tCB (fun xs H Q => ∃ x c cv t b, xs = [x, c] /\ qB K H x t /\ cH c cv /\ (∀ u, cH c u -> u = cv) /\ W.kitOne K t cv = some b /\ Q (.bl b) H) (bS (bD 0) (bS (tC (.ty "int")) iD))) (zem (tCB (fun xs H Q => ∃ x c cv t b, xs = [x, c] /\ qB K H x t /\ cH c cv /\ (∀ u, cH c u -> u = cv) /\ W.kitOne K t cv = some b /\ Q (.bl b) H) (bS (bD 0) (bS (tC (.ty "bool")) iD))))) Q [none] H1 := by
  refine iO (xs := ns.map V.int) (fun i ys σ H => ∃ v : Option V, ys = (List.replicate i true).map V.bl /\ σ = [v] /\ Same H1 H) ?_ (by rw [List.length_map]; omega) ?_ ?_ ?_ ?_
  . exact ⟨none, rfl, rfl, aK hD⟩
  . rintro i ys σ H ⟨v, rfl, _⟩
    rw [List.length_map, List.length_replicate]; exact Nat.le_refl _
  . rintro i ys σ H ⟨v, _, _, x⟩
    exact SqL.of (x _ _ hL)
  . rintro i y ys σ H hy hl2 ⟨v, rfl, rfl, x⟩
    rw [List.getElem?_map] at hy
    obtain ⟨z, hz, rfl⟩ := Option.map_eq_some_iff.mp hy
    refine ⟨_, rfl, _, _, .type "int", _, true, rfl, .int z, rfl, fun _ z => z, ziO K, true, rfl, zkn ?_⟩
    refine ⟨_, rfl, _, _, .type "bool", _, false, rfl, .int z, rfl, fun _ z => z, zkK K, false, rfl, hl2, _, ?_, rfl, x.at hD⟩
    rw [List.replicate_succ', List.map_append]; rfl
  . rintro ys σ H hl2 ⟨v, rfl, _, x⟩
    rw [List.length_map] at hl2
    exact hdn H x hl2
def oR (K : W.Frag) (C : Addr) : Sp := fun vs H Q _ => ∃ (x L R G : Addr) (rs : List Row) (row grp : List Str), vs = [.ref x, .ref L, .ref R, .ref G] /\ mZ C H x rs /\ dD H L rs /\ nX rs /\ H R = some (.lst (row.map V.str)) /\ H G = some (.lst (grp.map V.str)) /\ Of rs row /\ OfD rs grp /\ row.length <= 60 /\ grp.length <= 10 /\
  ∀ H', Same H H' -> Q (.bl true) H'
theorem uR : bE ["_law_sharing", "_law_rows", "_law_row_here", "_law_group_here", "_law_under_here", "_law_last", "_law_due", "_law_handed", "_law_found"] ["_law_sharing", "_law_rows", "_law_row_here", "_law_group_here"] (aD dJ) := ⟨rfl, rfl, rfl, by decide +kernel, rfl, by decide +kernel, by decide +kernel⟩
theorem zby (F : Fun K "_law_right" "_law_right" dJ f fd) (B : Bt mg) (dA : FnX P w K mg base k "known" ["sharing", "row", "group"] (pD K C CN CD) g gd) (fZ : Fn P w K mg base k "_law_under" ["_law_rows", "_law_row_here"] u8 g2 gd2) :
    FnOk P w K mg base CX0 (k + 1) f fd ["_law_sharing", "_law_rows", "_law_row_here", "_law_group_here"] (oR K C) := by
  refine F.ok uR (fun vs H Q E h => ?_) (fun cdv A outer s H vs Q E hr h => ?_)
  . obtain ⟨x, L, R, G, rs, row, grp, rfl, _⟩ := h
    rfl
  obtain ⟨x, L, R, G, rs, row, grp, rfl, hSh, hR, hG, h1, h2, o1, o2, l1, l2, q⟩ := h
  have nd := uR.nd
  have hs := cK
  refine ⟨_, (aG (qD (aL fZ.ok hr rfl fZ.at_ fZ.kp fZ.bn .nil bF (aA (pv 1) (aA (pv 2) aE))) (fO rfl (aX (aO (i := 4) nd rfl (Or.inr rfl)) (aX (aO (i := 5) nd rfl (Or.inr rfl)) dX)))) (aG (zaY (i := 6) nd rfl (Or.inl rfl) (g := (aZ 0)) (tc := (tB (tCB (zfY K) (bS (yB (zeq K (bD 3)) 1 [0, 1, 2] (aZ 0) gG (ziG (bD 1) (tOp (oA K) (bD 2) (nA (bD 3) (bD 0))))) iD)))) (te := (bD 0)) (z := "_law_k") (fr := ["_law_under_here", "_law_last", "_law_group_here"]) (idx := [4, 5, 3]) rfl (by show iP _ _ _ (aD dJ); exact ⟨rfl, by decide +kernel, by decide +kernel, by decide +kernel, by decide +kernel, by decide +kernel, rfl, fun _ _ => rfl, fun _ => rfl⟩) (dG rfl B.range_ (aA (aW cO (aT bL rfl B.len_ PySem.boot_len (aA (pv 2) aE)) aI) aE)) (fun _ _ _ _ _ => (aO (i := 0) (by show List.Nodup (["_law_k", "_law_under_here", "_law_last", "_law_group_here"] : List Str); decide +kernel) rfl (Or.inr rfl) (Or.inl fn1))) (fun _ _ _ _ _ => pF (eC (aT (yF rfl) rfl B.any_ boot_any (aA (dI (g := (aZ 0)) (tc := gG) (te := (ziG (bD 1) (tOp (oA K) (bD 2) (nA (bD 3) (bD 0))))) (own := ["_law_desk"]) (fr := ["_law_k", "_law_under_here", "_law_last"]) (idx := [0, 1, 2]) rfl (aR.relab ⟨rfl, by decide +kernel, by decide +kernel, by decide +kernel, by decide +kernel, by decide +kernel, by decide +kernel⟩) (cS (pv 3)) (fun _ _ _ _ _ => (aO (i := 0) (by show List.Nodup (["_law_desk", "_law_k", "_law_under_here", "_law_last"] : List Str); decide +kernel) rfl (Or.inl rfl) (Or.inr rfl))) (fun _ _ _ _ _ => bT) (fun _ _ _ _ _ => (zkz (zju (kE hr) (pv 1) (dZ bQ (pv 2) (jD (kE hr) (pv 3) (pv 0) (fun _ _ => rfl)) (fun _ _ => rfl))))) rfl (cV rfl)) aE)) (fun _ => rfl))) (fun _ _ _ _ _ => (pv 0)) rfl (cV rfl)) (aG (aS (i := 7) nd rfl (Or.inl rfl) (dP (aA (cF cE rfl B.list_ (by decide +kernel) (aA (pv 2) aE)) (aA (cF cE rfl B.list_ (by decide +kernel) (aA (pv 3) aE)) aE)))) (aG (aS (i := 8) nd rfl (Or.inl rfl) (aL dA.ok hr rfl dA.at_ dA.kp dA.bn .nil zbX (aA (pv 0) (aA (dZ bQ (pv 7) aI (fun _ _ => rfl)) (aA (dZ bQ (pv 7) aI (fun _ _ => rfl)) aE))))) (aG (eG (PW.pt (wI (fS (eC (aT lG rfl B.isinstance_ boot_isinstance (aA (pv 8) (aA (tH (v := .ty "list") (u := .type "list") rfl B.list_ (by decide +kernel) rfl) aE))) (fun _ => rfl))) (wI (bW (zeX (jO hr)) (pv 8) (pv 6) (eP _)) (pV (bW (zen (jO hr) (zfV hr)) (pv 7) (dP (aA (pv 2) (aA (pv 3) aE))) (eP _)))))) (aJ (bK kI)) bM) (aG (eG (fS (eC (aT (lI rfl) rfl B.all_ (by decide +kernel) (aA (dI (g := (aZ 0)) (tc := gG) (te := (zdM (tCB (fun xs H Q => ∃ x c cv t b, xs = [x, c] /\ qB K H x t /\ cH c cv /\ (∀ u, cH c u -> u = cv) /\ W.kitOne K t cv = some b /\ Q (.bl b) H) (bS (bD 0) (bS (tC (.ty "int")) iD))) (zem (tCB (fun xs H Q => ∃ x c cv t b, xs = [x, c] /\ qB K H x t /\ cH c cv /\ (∀ u, cH c u -> u = cv) /\ W.kitOne K t cv = some b /\ Q (.bl b) H) (bS (bD 0) (bS (tC (.ty "bool")) iD)))))) (own := ["_law_k"]) (fr := ([] : List Str)) (idx := []) rfl (by show aR _ _ _ (aD dJ); exact ⟨rfl, by decide +kernel, by decide +kernel, by decide +kernel, by decide +kernel, by decide +kernel, by decide +kernel⟩) (cS (pv 8)) (fun _ _ _ _ _ => (aO (i := 0) (by show List.Nodup (["_law_k"] : List Str); decide +kernel) rfl (Or.inl rfl) (Or.inr rfl))) (fun _ _ _ _ _ => bT) (fun _ _ _ _ _ => (zhQ (aT lG rfl B.isinstance_ boot_isinstance (aA (pv 0) (aA (tH (v := .ty "int") (u := .type "int") rfl B.int_ (by decide +kernel) rfl) aE))) (ziv (zgT (aT lG rfl B.isinstance_ boot_isinstance (aA (pv 0) (aA (tH (v := .ty "bool") (u := .type "bool") rfl B.bool_ (by decide +kernel) rfl) aE))))))) rfl (cV rfl)) aE)) (fun _ => rfl))) (aJ (bK kI)) bM) (aG (eS (zgh PySem.F.plainAttrs_list PySem.F.slot_list_clear PySem.F.type_list_clear zbf (pv 8))) (aJ (bK (pQ (zdv (jO hr)) (aL dA.ok hr rfl dA.at_ dA.kp dA.bn .nil zbX (aA (pv 0) (aA (pv 2) (aA (zbG (pv 3) (by exact zL)) aE)))) (pv 6) (eP _))))))))))), ?_⟩
  try dsimp only [eU, Cx.nox, Cx.wish]
  refine zjb ?_
  intro D0 σ0 U8 U7 U6 U5 U4 U3 U2
  refine ⟨_, rfl, _, rfl, L, R, rs, row, rfl, hR, hG, h1, o1, by omega, fun T U la us H1 x1 kT kU lu nu nw ok hla => ⟨T, _, rfl, SqT.of kT, rfl, _, _, rfl, _, _, rfl, rfl, ?_⟩⟩
  have hu : UsI rs row H1 U la us := ⟨kU, lu, ok, hla⟩
  clear kU lu ok hla nu nw kT
  refine ⟨_, rfl, R, _, rfl, .inl (SqL.of (x1 _ _ h1)), _, _, rfl, rfl, _, rfl, by rw [List.length_map]; omega, by rw [List.length_map]; omega, fun D hD => ?_⟩
  rw [List.length_map, show (((row.length : Nat) : Int) + 1).toNat = row.length + 1 by omega]
  refine zpO (K := K) hu (x1 _ _ h2) o2 l2 l1 hD fun H2 ns x2 k2 ps pn pu => ?_
  have y2 := x1.trans x2
  clear hu x1 x2
  refine ⟨_, rfl, R, _, rfl, .inl (SqL.of (y2 _ _ h1)), fun p1 hp1 => ?_⟩
  have z1 : Same H2 (upd H2 p1 (.lst (row.map V.str))) := aK hp1
  have c1 : upd H2 p1 (.lst (row.map V.str)) p1 = some (.lst (row.map V.str)) := aB
  have n1 : p1 ≠ R := Ne.symm (aF (y2 _ _ h1) hp1)
  generalize upd H2 p1 (.lst (row.map V.str)) = H3 at z1 c1 ⊢
  refine ⟨_, rfl, G, _, rfl, .inl (SqL.of ((y2.trans z1) _ _ h2)), fun p2 hp2 => ?_⟩
  have z2 : Same H3 (upd H3 p2 (.lst (grp.map V.str))) := aK hp2
  have c2 : upd H3 p2 (.lst (grp.map V.str)) p2 = some (.lst (grp.map V.str)) := aB
  have n2 : p2 ≠ G := Ne.symm (aF ((y2.trans z1) _ _ h2) hp2)
  generalize upd H3 p2 (.lst (grp.map V.str)) = H4 at z2 c2 ⊢
  refine ⟨jW (show 2 <= 1000 by decide), fun h hh => ?_⟩
  have z3 : Same H4 (upd H4 h (.lst ([p1, p2].map V.ref))) := aK hh
  have k3 : upd H4 h (.lst ([p1, p2].map V.ref)) h = some (.lst ([p1, p2].map V.ref)) := aB
  rw [show ([V.ref p1, V.ref p2] : List V) = [p1, p2].map V.ref from rfl]
  generalize upd H4 h (.lst ([p1, p2].map V.ref)) = H5 at z3 k3 ⊢
  have z25 := (z1.trans z2).trans z3
  have y5 := y2.trans z25
  have d1 := (z2.trans z3) _ _ c1
  have d2 := z3 _ _ c2
  have k5 := z25 _ _ k2
  clear z1 z2 z3 z25 c1 c2 k2 y2
  refine ⟨_, rfl, _, rfl, h, _, _, _, rfl, rfl, SqL.of k3, rfl, _, rfl, h, _, _, _, rfl, rfl, SqL.of k3, rfl, x, p1, p2, rs, row, grp, rfl, hSh.same y5, hG, SqL.of d1, SqL.of d2, l1, l2, fun _ _ D6 ns6 H6 hD6 x6 k6 p6 n6 u6 => ?_, fun l hl => tM o1 hl, fun _ l hl => tM o2 hl⟩
  obtain rfl : ns6 = ns := qC p6 ps n6 pn fun y => (u6 y).trans (pu y).symm
  have y6 := y5.trans x6
  have k26 := x6 _ _ k5
  refine ⟨_, rfl, _, _, .type "list", _, true, rfl, .lst k6, rfl, fun _ z => z, zhV K, _, rfl, oF ?_⟩
  refine ⟨_, rfl, _, rfl, D6, D, ns6, rfl, rfl, SqL.of k6, SqL.of k26, _, rfl, oF ?_⟩
  refine ⟨_, rfl, _, rfl, _, rfl, jW (show 2 <= 1000 by decide), fun n hn => ?_⟩
  have x7 : Same H6 (upd H6 n (.lst ([R, G].map V.ref))) := aK hn
  have k7 : upd H6 n (.lst ([R, G].map V.ref)) n = some (.lst ([R, G].map V.ref)) := aB
  rw [show ([V.ref R, V.ref G] : List V) = [R, G].map V.ref from rfl]
  generalize upd H6 n (.lst ([R, G].map V.ref)) = H7 at x7 k7 ⊢
  have x57 := x6.trans x7
  have y7 := y6.trans x7
  refine ⟨h, n, [p1, p2], [R, G], [row, grp], rfl, rfl, SqL.of (x57 _ _ k3), SqL.of k7, .cons (SqL.of (x57 _ _ d1)) (.cons (SqL.of (x57 _ _ d2)) .nil), .cons (SqL.of (y7 _ _ h1)) (.cons (SqL.of (y7 _ _ h2)) .nil), zji n1 n2, _, rfl, oF ?_⟩
  have k67 := x7 _ _ k6
  have hns : ns6.length <= 61 := by
    have := lC (k := row.length) pn fun x hx => by
      obtain ⟨d, _, j, a, b⟩ := (pu x).mp hx
      have := mF b
      have := fL rs row d row.length
      exact ⟨j, a, by omega⟩
    omega
  refine ⟨_, rfl, D6, rfl, ⟨_, SqL.of k67⟩, fun D8 hD8 => zhE (K := K) k67 (by omega) hD8 fun H8 x8 k8 => ⟨D8, _, rfl, SqL.of k8, true, congrArg V.bl (tF _), oF ?_⟩⟩
  have k68 := x8 _ _ k67
  have k28 := (x7.trans x8) _ _ k26
  have y8 := y7.trans x8
  have nD : D ≠ D6 := aF k5 hD6
  have d60 : H D6 = none := y5.free hD6
  refine ⟨_, rfl, .inl ⟨rfl, _, SqL.of k68⟩, D6, _, rfl, rfl, k68, ?_⟩
  have y9 : Same H (upd H8 D6 (.lst [])) := y8.at d60
  have k9 : upd H8 D6 (.lst []) D = some (.lst (ns6.map V.int)) := by rw [aH nD]; exact k28
  generalize upd H8 D6 (.lst []) = H9 at y9 k9 ⊢
  refine ⟨_, rfl, _, rfl, _, rfl, G, _, rfl, SqL.of (y9 _ _ h2), fun q1 hq1 => ?_⟩
  rw [<- List.map_reverse]
  have xA : Same H9 (upd H9 q1 (.lst (grp.reverse.map V.str))) := aK hq1
  have kA : upd H9 q1 (.lst (grp.reverse.map V.str)) q1 = some (.lst (grp.reverse.map V.str)) := aB
  generalize upd H9 q1 (.lst (grp.reverse.map V.str)) = HA at xA kA ⊢
  have yA := y9.trans xA
  have o3 : OfD rs grp.reverse := fun d hd => o2 d (List.mem_reverse.mp hd)
  refine ⟨x, R, q1, rs, row, grp.reverse, rfl, hSh.same yA, hG, SqL.of (yA _ _ h1), SqL.of kA, l1, by rw [List.length_reverse]; exact l2, fun _ _ DB nsB HB hDB xB kB pB nB uB => ?_, fun l hl => tM o1 hl, fun _ l hl => tM o3 hl⟩
  obtain rfl : nsB = ns6 := qC pB ps nB pn fun y => by
    rw [uB y, pu y]
    constructor
    . rintro ⟨d, a, b⟩
      exact ⟨d, List.mem_reverse.mp a, b⟩
    . rintro ⟨d, a, b⟩
      exact ⟨d, List.mem_reverse.mpr a, b⟩
  exact ⟨_, rfl, DB, D, nsB, rfl, rfl, SqL.of kB, SqL.of ((xA.trans xB) _ _ k9), q HB (yA.trans xB)⟩
end
abbrev aU : Stmt := top 30
theorem mZ.ext {C x a : Addr} {H H' : Hp} {rs : List Row} (h : mZ C H x rs) (e : Ext a H H') (f : aY H a) : mZ C H' x rs := by
  obtain ⟨p, q, r, ea, _⟩ := f
  obtain ⟨dx, tl, td, dd, kvs, ds, h1, h2, h3, h4, h5, h6, h7, h8, h9⟩ := h
  exact ⟨dx, tl, td, dd, kvs, ds, e _ _ (dW h1 ea (fun z => nomatch z)) h1, e _ _ (dW h2 ea (fun z => nomatch z)) h2, e _ _ (dW h3 ea (fun z => nomatch z)) h3, h4, h5, h6, h7, e _ _ (dW h8 ea (fun z => nomatch z)) h8, fun r hr => let ⟨t, zs, a1, b1, c1⟩ := h9 r hr; ⟨t, zs, a1, e _ _ (dW b1 ea (fun z => nomatch z)) b1, c1⟩⟩
theorem mP {ls A B : List Str} {n : Str} (hA : ∀ l ∈ A, l ∈ ls) (hn : n ∉ ls) : bad ls (A ++ (n :: B)) = some n := by
  have h0 := (eI (ys := ls) (row := A)).mpr hA
  unfold bad at h0 ⊢
  rw [List.find?_append, h0]
  simp [hn]
theorem zeQ {ls A B : List Str} {n1 : Str} {m : Nat} (hA : ∀ l ∈ A, l ∈ ls) (hn : n1 ∉ ls) (hm : n1 ∈ (A ++ (n1 :: B)).take m) : bad ls ((A ++ (n1 :: B)).take m) = some n1 := by
  rcases Nat.lt_or_ge A.length m with h | h
  . obtain ⟨d, hd⟩ : ∃ d, m - A.length = d + 1 := ⟨m - A.length - 1, by omega⟩
    rw [List.take_append, List.take_of_length_le (by omega), hd, List.take_succ_cons]
    exact mP hA hn
  . rw [List.take_append_of_le_length h] at hm
    exact absurd (hA _ (List.mem_of_mem_take hm)) hn
theorem sM {s t : Str} : ∀ z ∈ [V.str s, V.str t], ∃ u, z = .str u := fun z hz => by
  rcases List.mem_cons.mp hz with h | h
  . exact ⟨s, h⟩
  . exact ⟨t, List.mem_singleton.mp h⟩
theorem tG {rs : List Row} {ds : List Str} (hG : nX rs) (dn : ds.Nodup) (dm : ∀ d, d ∈ ds ↔ ∃ r ∈ rs, d ∈ r.2) : ds.length <= 4 := by
  obtain ⟨fs, h4, hin⟩ := hG.few
  rcases Nat.lt_or_ge fs.length ds.length with h | h
  . obtain ⟨c, h1, h2⟩ := pig fs ds dn h
    obtain ⟨r, a, b⟩ := (dm c).mp h1
    exact absurd (hin r a c b) h2
  . omega
def Mk (σ : L2.St) (H0 : Hp) (t : TE) (zs : List Str) : Prop := ∀ (H : Hp) (Q : VK), Same H0 H -> (∀ (p : Addr) (H' : Hp), H p = none -> Same H H' -> H' p = some (.lst (zs.map V.str)) -> Q (.ref p) H') -> t σ H Q
abbrev zjI : R2 := fun x y H Q => ∃ (a b : Addr) (zs : List V), x = .ref a /\ y = .ref b /\ H a = some (.tup zs) /\ H b = some (.tup zs) /\ (∀ z ∈ zs, (∃ t, z = .str t) \/ ∃ b, z = .bl b) /\ Q (.bl true) H
section
variable {K : W.Frag} {σ : L2.St} {H0 : Hp} {t u tn tm : TE} {xs ys zs : List Str} {n m i : Nat} {R : Addr}
theorem jR (h1 : Mk σ H0 t xs) (h2 : Mk σ H0 u ys) (hl : xs.length + ys.length <= 200) : Mk σ H0 (tOp zpd t u) (xs ++ ys) := by
  intro H Q x q
  refine h1 H _ x fun p1 H1 hp1 x1 k1 => h2 H1 _ (x.trans x1) fun p2 H2 hp2 x2 k2 => ⟨p1, p2, _, _, rfl, rfl, x2 _ _ k1, k2, by rw [List.length_map, List.length_map]; exact jW (by omega), fun p hp => ?_⟩
  rw [<- List.map_append]
  exact q p _ (x1.free (x2.free hp)) ((x1.trans x2).trans (aK hp)) aB
theorem zZ (hi : σ[i]? = some (some (.ref R))) (hR : H0 R = some (.lst (xs.map V.str))) (hn : ∀ (H : Hp) (Q : VK), Q (V.int (n : Int)) H -> tn σ H Q) : Mk σ H0 (tSl (ziQ K) (bD i) kL (qI tn)) (xs.take n) := by
  intro H Q x q
  refine ⟨_, hi, hn _ _ ⟨_, rfl, R, _, rfl, SqL.of (x _ _ hR), fun p hp => ?_⟩⟩
  rw [iF, sE]
  exact q p _ hp (aK hp) aB
theorem zjH (hi : σ[i]? = some (some (.ref R))) (hR : H0 R = some (.lst (xs.map V.str))) (hn : ∀ (H : Hp) (Q : VK), Q (V.int (n : Int)) H -> tn σ H Q) : Mk σ H0 (tSl (ziQ K) (bD i) (qI tn) kL) (xs.drop n) := by
  intro H Q x q
  refine ⟨_, hi, hn _ _ ⟨_, rfl, R, _, rfl, SqL.of (x _ _ hR), fun p hp => ?_⟩⟩
  rw [iF, zdr]
  exact q p _ hp (aK hp) aB
theorem znz (hi : σ[i]? = some (some (.ref R))) (hR : H0 R = some (.lst (xs.map V.str))) (hn : ∀ (H : Hp) (Q : VK), Q (V.int (n : Int)) H -> tn σ H Q) (hm : ∀ (H : Hp) (Q : VK), Q (V.int (m : Int)) H -> tm σ H Q) : Mk σ H0 (tSl (ziQ K) (bD i) (qI tn) (qI tm)) ((xs.drop n).take (m - n)) := by
  intro H Q x q
  refine ⟨_, hi, hn _ _ ⟨_, rfl, hm _ _ ⟨_, rfl, R, _, rfl, SqL.of (x _ _ hR), fun p hp => ?_⟩⟩⟩
  rw [iF, zex]
  exact q p _ hp (aK hp) aB
theorem zfZ (h : Mk σ H0 t xs) (hn : ∀ (H : Hp) (Q : VK), Q (V.int (n : Int)) H -> tn σ H Q) : Mk σ H0 (tSl (ziQ K) t kL (qI tn)) (xs.take n) := by
  intro H Q x q
  refine h H _ x fun p1 H1 hp1 x1 k1 => hn _ _ ⟨_, rfl, p1, _, rfl, SqL.of k1, fun p hp => ?_⟩
  rw [iF, sE]
  exact q p _ (x1.free hp) (x1.trans (aK hp)) aB
theorem lM {ta : TA} (h : ∀ (H : Hp) (Q : List V -> Hp -> Prop), Q (ys.map V.str) H -> ta σ H Q) (hl : ys.length <= 200) : Mk σ H0 (zoZ ta) ys := by
  intro H Q x q
  exact h H _ ⟨by rw [List.length_map]; exact jW (by omega), fun p hp => q p _ hp (aK hp) aB⟩
end
theorem zbe {K : W.Frag} {a b : Addr} {xs zs : List V} {g : TG} {tc : TT} {te : TE} {σ0 : L2.St} {H1 : Hp} {D : Addr} {Q : VK} (Pv : Nat -> List V -> L2.St -> Hp -> Prop) (h0 : Pv 0 [] σ0 (upd H1 D (.lst []))) (hn : xs.length <= 1000) (hxz : xs.length = zs.length) (hl : ∀ i ys σ H, Pv i ys σ H -> ys.length <= i)
    (ha : ∀ i ys σ H, Pv i ys σ H -> SqL K H a xs /\ SqL K H b zs)
    (hs : ∀ i x z ys σ H T, xs[i]? = some x -> zs[i]? = some z -> H D = some (.lst ys) -> H T = none -> Pv i ys σ H -> g (.ref T) σ (upd H T (.tup [x, z])) fun σ2 H2 => tc σ2 H2 fun c H3 =>
      if c = true then te σ2 H3 fun v H4 => H4 D = some (.lst ys) /\ Pv (i + 1) (ys ++ [v]) σ2 (upd H4 D (.lst (ys ++ [v]))) else H3 D = some (.lst ys) /\ Pv (i + 1) ys σ2 H3)
    (hd : ∀ ys σ H, H D = some (.lst ys) -> Pv xs.length ys σ H -> Q (.ref D) H) : bO (Itz K a b) D g tc te Q σ0 H1 := by
  refine ⟨fun i m ys σ H => m = xs.length - i /\ i <= xs.length /\ Pv i ys σ H, ⟨xs.length, by simp, Nat.zero_le _, h0⟩, ?_⟩
  rintro i m ys σ H hD ⟨rfl, hi, p⟩
  obtain ⟨qa, qb⟩ := ha i ys σ H p
  by_cases hlt : i < xs.length
  . have hz : ys.length < sizeLine := by
      have h1 := hl i ys σ H p
      have h2 : (1000 : Nat) <= sizeLine := jW (Nat.le_refl _)
      omega
    have hlz : i < zs.length := by omega
    refine .inr ⟨⟨xs, zs, xs[i], zs[i], qa, qb, by simp [hlt], by simp [hlz]⟩, hz, Pv (i + 1), fun ys' σ' H' p' => ⟨xs.length - (i + 1), by omega, rfl, hlt, p'⟩, fun x H' y => ?_⟩
    obtain ⟨T, hT, rfl, y⟩ := y
    obtain ⟨x', z', hx, hz', rfl⟩ := y xs zs qa qb
    exact hs i x' z' ys σ H T hx hz' hD hT p
  . have e : i = xs.length := by omega
    subst e
    exact .inl ⟨⟨xs, zs, qa, qb, .inl (Nat.le_refl _)⟩, hd ys σ H hD p⟩
structure RfF (C : Addr) (rs : List Row) (row ds : List Str) (a x D E R : Addr) (H : Hp) : Prop where
  f : aY H a
  sh : mZ C H x rs
  d : H D = some (.lst ((rs.map (·.1)).map V.str))
  e : H E = some (.lst (ds.map V.str))
  r : H R = some (.lst (row.map V.str))
  nD : D ≠ a
  nE : E ≠ a
  nR : R ≠ a
theorem RfF.same {C : Addr} {rs : List Row} {row ds : List Str} {a x D E R : Addr} {H H' : Hp} (h : RfF C rs row ds a x D E R H) (y : Same H H') : RfF C rs row ds a x D E R H' := ⟨Same.flow y h.f, h.sh.same y, y _ _ h.d, y _ _ h.e, y _ _ h.r, h.nD, h.nE, h.nR⟩
theorem RfF.ext {C : Addr} {rs : List Row} {row ds : List Str} {a x D E R : Addr} {H H' : Hp} (h : RfF C rs row ds a x D E R H) (y : Ext a H H') (f' : aY H' a) : RfF C rs row ds a x D E R H' := ⟨f', h.sh.ext y h.f, y _ _ h.nD h.d, y _ _ h.nE h.e, y _ _ h.nR h.r, h.nD, h.nE, h.nR⟩
section
variable {P : Program} {w : World} {K : W.Frag} {mg : Str -> Option Value} {base : Heap} {f g g2 g3 g4 : Addr} {fd gd gd2 gd3 gd4 : FuncData} {k j : Nat} {C CN CD M ft : Addr} {ftd : FuncData} {c : Nat -> Addr}
theorem znI {E0 : XK} {D T U x R : Addr} {Q : VK} {H1 : Hp} {rs : List Row} {row due : List Str} {qs : List Addr} (hSh : mZ C H1 x rs) (hG : nX rs) (hR : H1 R = some (.lst (row.map V.str))) (o1 : Of rs row) (l1 : row.length <= 60) (hT : H1 T = some (.lst (qs.map V.ref))) (hU : H1 U = some (.lst (due.map V.str))) (dR : qs.length = due.length) (h9 : qs.length <= 9)
    (hq : ∀ (i : Nat) (q : Addr) (d : Str), qs[i]? = some q -> due[i]? = some d -> ∃ sm : List Str, H1 q = some (.lst (sm.map V.str)) /\ sm.length <= 10 /\ bad (rs.flatMap (·.2)) sm = some d) (hD : H1 D = none)
    (hdn : ∀ H', Same H1 H' -> H' D = some (.lst ((List.replicate qs.length true).map V.bl)) -> Q (.ref D) H') :
    bO (Itz K T U) D (sH K 2 (eK (aZ 0) (eK (aZ 1) sI))) gG (tOp zjI (lV (oG K C) [] E0 (bS (bD 2) (bS (bD 3) (bS (bD 0) iD)))) (zlz (bS (tC (.str "no desk")) (bS (bD 1) iD)))) Q [none, none, some (.ref x), some (.ref R)] H1 := by
  refine zbe (xs := qs.map V.ref) (zs := due.map V.str) (fun i ys σ H => ∃ v0 v1 : Option V, ys = (List.replicate i true).map V.bl /\ σ = [v0, v1, some (.ref x), some (.ref R)] /\ Same H1 H) ?_ (by rw [List.length_map]; omega) (by rw [List.length_map, List.length_map, dR]) ?_ ?_ ?_ ?_
  . exact ⟨none, none, rfl, rfl, aK hD⟩
  . rintro i ys σ H ⟨v0, v1, rfl, _⟩
    rw [List.length_map, List.length_replicate]; exact Nat.le_refl _
  . rintro i ys σ H ⟨v0, v1, _, _, y⟩
    exact ⟨SqL.of (y _ _ hT), SqL.of (y _ _ hU)⟩
  . rintro i a z ys σ H t ha hz hl2 ht ⟨v0, v1, rfl, rfl, y⟩
    rw [List.getElem?_map] at ha hz
    obtain ⟨q, hq1, rfl⟩ := Option.map_eq_some_iff.mp ha
    obtain ⟨d, hd, rfl⟩ := Option.map_eq_some_iff.mp hz
    obtain ⟨sm, s1, s2, s3⟩ := hq i q d hq1 hd
    have y1 : Same H (upd H t (.tup [.ref q, .str d])) := aK ht
    have kt : upd H t (.tup [.ref q, .str d]) t = some (.tup [.ref q, .str d]) := aB
    generalize upd H t (.tup [.ref q, .str d]) = H2 at y1 kt ⊢
    have y2 := y.trans y1
    refine ⟨t, _, rfl, SqT.of kt, rfl, _, _, rfl, _, _, rfl, rfl, ?_⟩
    refine ⟨_, rfl, _, rfl, _, rfl, .inr ⟨x, R, q, rs, row, sm, d, rfl, hSh.same y2, hG, SqL.of (y2 _ _ hR), SqL.of (y2 _ _ s1), l1, s2, o1, s3, fun b H3 _ y3 kb => ?_⟩⟩
    refine ⟨_, rfl, jW (show 2 <= 1000 by decide), fun v hv => ⟨b, v, [.str "no desk", .str d], rfl, rfl, aK hv _ _ kb, aB, fun z hz => .inl (sM z hz), ?_⟩⟩
    have y4 : Same H3 (upd H3 v (.tup [.str "no desk", .str d])) := aK hv
    refine ⟨((y1.trans y3).trans y4) _ _ hl2, _, _, ?_, rfl, ((y2.trans y3).trans y4).at hD⟩
    rw [List.replicate_succ', List.map_append]; rfl
  . rintro ys σ H hl2 ⟨v0, v1, rfl, _, y⟩
    rw [List.length_map] at hl2
    exact hdn H y hl2
structure RfG (rs : List Row) (row ds : List Str) : Prop where
  g : nX rs
  o1 : Of rs row
  l1 : row.length <= 60
  ne : ds ≠ []
  d4 : ds.length <= 4
  bd : Bd ds
  fm : ∀ d, d ∉ ds -> d ∉ rs.flatMap (·.2)
def zgO (C : Addr) (tr : TS) : Prop := ∀ (Dn : iC) (s2 s5 s7 s8 s9 s10 s11 s14 s15 s16 : Option V) (a x D e R G2 O : Addr) (rs : List Row) (row ds gr od : List Str) (n4 : Str) (H12 : Hp), RfG rs row ds -> RfF C rs row ds a x D e R H12 -> H12 G2 = some (.lst (gr.map V.str)) -> G2 ≠ a -> OfD rs gr -> gr.length <= 7 -> H12 O = some (.lst (od.map V.str)) -> O ≠ a -> n4 ∉ ds -> bad (rs.flatMap (·.2)) od = some n4 -> od.length <= 10 ->
  (∀ H', Ext a H12 H' -> aY H' a -> Dn.rt (.bl true) H') -> tr Dn [some (.ref a), some (.ref x), s2, some (.ref R), some (.ref G2), s5, some (.ref e), s7, s8, s9, s10, s11, some (.str n4), some (.ref O), s14, s15, s16] H12
def zpQ (C : Addr) (tr : TS) : Prop := ∀ (Dn : iC) (s2 s5 s8 s9 s11 s12 s13 s14 s15 s16 : Option V) (a x D e R G bA : Addr) (rs : List Row) (row ds grp bd : List Str) (n1 : Str) (H7 : Hp), RfG rs row ds -> RfF C rs row ds a x D e R H7 -> H7 G = some (.lst (grp.map V.str)) -> OfD rs grp -> H7 bA = some (.lst (bd.map V.str)) -> bA ≠ a -> (n1 ∈ bd -> bad (rs.map (·.1)) bd = some n1) -> bd.length <= 60 ->
  (∀ H', Ext a H7 H' -> aY H' a -> Dn.rt (.bl true) H') -> tr Dn [some (.ref a), some (.ref x), s2, some (.ref R), some (.ref G), s5, some (.ref e), some (.str n1), s8, s9, some (.ref bA), s11, s12, s13, s14, s15, s16] H7
def mJ (C : Addr) : Sp := fun vs H Q _ => ∃ (a x L R G : Addr) (rs : List Row) (row grp : List Str), vs = [.ref a, .ref x, .ref L, .ref R, .ref G] /\ aY H a /\ mZ C H x rs /\ dD H L rs /\ nX rs /\ H R = some (.lst (row.map V.str)) /\ H G = some (.lst (grp.map V.str)) /\ Of rs row /\ OfD rs grp /\ row.length <= 60 /\ grp.length <= 10 /\ R ≠ a /\ G ≠ a /\
  ∀ H', Ext a H H' -> aY H' a -> Q (.bl true) H'
theorem iR : bE ["_law_flow_here", "_law_sharing", "_law_rows", "_law_row_here", "_law_group_here", "_law_letters", "_law_desks_here", "_law_one", "_law_other", "_law_at", "_law_bad", "_law_spot", "_law_none", "_law_odd", "_law_again", "_law_two", "_law_due"] ["_law_flow_here", "_law_sharing", "_law_rows", "_law_row_here", "_law_group_here"] (aD aU) := ⟨rfl, rfl, rfl, by decide +kernel, rfl, by decide +kernel, by decide +kernel⟩
theorem qP {cdv : Value} {A : Around} {outer : List Env} {s : Shared} {H : Hp} {E : XK} (hr : iE k (A.deeper (envOfC "_law_refused" (aD aU) s.heap.objs.size f cdv))) (B : Bt mg) (aQ : Fn P w K mg base k "_law_strange" ["_law_flow_here", "_law_some"] jJ g3 gd3) (bB : Fn P w K mg base k "_law_told" ["_law_sharing", "_law_row_here", "_law_group_here"] (oG K C) g4 gd4) :
    ∃ tr, PSs (eU CX0 P w K mg base ["_law_flow_here", "_law_sharing", "_law_rows", "_law_row_here", "_law_group_here", "_law_letters", "_law_desks_here", "_law_one", "_law_other", "_law_at", "_law_bad", "_law_spot", "_law_none", "_law_odd", "_law_again", "_law_two", "_law_due"] "_law_refused" (aD aU) f cdv A outer s H E).nox (List.drop 10 (aV aU)) tr /\ zgO C tr := by
  have nd := iR.nd
  refine ⟨_, (aG (aS (i := 14) nd rfl (Or.inl rfl) (aL aQ.ok hr rfl aQ.at_ aQ.kp aQ.bn .nil bF (aA (pv 0) (aA (pv 6) aE)))) (aG (aS (i := 15) nd rfl (Or.inl rfl) (dP (aA (aW iL (aW iL (cG fQ (pv 4) dQ (dC aI)) (dP (aA (pv 12) (aA (pv 14) aE)))) (cG fQ (pv 4) (dC aI) (dC aI))) (aA (aW iL (aW iL (dP (aA (pv 14) aE)) (cG fQ (pv 4) dQ (dC aI))) (dP (aA (pv 12) aE))) (aA (dP (aA (pv 12) (aA (pv 14) (aA (pv 12) aE)))) aE))))) (aG (aS (i := 16) nd rfl (Or.inl rfl) (dP (aA (pv 12) (aA (pv 14) (aA (pv 12) aE))))) (aG (eG (fS (eC (aT (lI rfl) rfl B.all_ (by decide +kernel) (aA (dI (g := (sH K 2 (eK (aZ 0) (eK (aZ 1) sI)))) (tc := gG) (te := (tOp zjI (lV (oG K C) [] E0 (bS (bD 2) (bS (bD 3) (bS (bD 0) iD)))) (zlz (bS (tC (.str "no desk")) (bS (bD 1) iD))))) (own := ["_law_some", "_law_desk"]) (fr := ["_law_sharing", "_law_row_here"]) (idx := [1, 3]) rfl (by show aR _ _ _ (aD aU); exact ⟨rfl, by decide +kernel, by decide +kernel, by decide +kernel, by decide +kernel, by decide +kernel, by decide +kernel⟩) (zks rfl B.zip_ (aA (pv 15) (aA (pv 16) aE))) (fun _ _ _ _ _ => (fO rfl (aX (aO (i := 0) (by show List.Nodup (["_law_some", "_law_desk", "_law_sharing", "_law_row_here"] : List Str); decide +kernel) rfl (Or.inl rfl) (Or.inr rfl)) (aX (aO (i := 1) (by show List.Nodup (["_law_some", "_law_desk", "_law_sharing", "_law_row_here"] : List Str); decide +kernel) rfl (Or.inl rfl) (Or.inr rfl)) dX)))) (fun _ _ _ _ _ => bT) (fun _ _ _ _ _ => (pQ (zaa (jO hr)) (aL bB.ok hr rfl bB.at_ bB.kp bB.bn .nil bF (aA (pv 2) (aA (pv 3) (aA (pv 0) aE)))) (hZ (aA fX (aA (pv 1) aE))) (eP _))) rfl (cV rfl)) aE)) (fun _ => rfl))) (aJ (bK kI)) bM) (aJ (bK (pQ (zaa (jO hr)) (aL bB.ok hr rfl bB.at_ bB.kp bB.bn .nil bF (aA (pv 1) (aA (pv 3) (aA (pv 13) aE)))) (hZ (aA fX (aA (pv 12) aE))) (eP _)))))))), ?_⟩
  rintro Dn s2 s5 s7 s8 s9 s10 s11 s14 s15 s16 a x D e R G2 O rs row ds gr od n4 H12 ⟨hG, o1, l1, dne, d4, dbd, dfm⟩ hf12 kg12 ng og lg kO12 nO hn4 bo lo q
  try dsimp only [eU, Cx.nox, Cx.wish]
  refine zjY ?_
  intro D0 σ0 U5 U4 U3 U2
  have nE := hf12.nE
  refine ⟨_, rfl, _, rfl, a, e, ds, rfl, hf12.f, hf12.e, nE, dne, by omega, dbd, fun n5 H13 hn5 f13 x13 => ?_⟩
  have zpo := hf12.ext x13 f13
  have zlD := x13 _ _ ng kg12
  have zpf := x13 _ _ nO kO12
  have zpi : Ext a H12 H13 := x13
  clear hf12 kg12 kO12 x13
  refine jR (jR (zZ (K := K) (n := 2) rfl zlD fun _ _ q => q) (lM (ys := [n4, n5]) (fun _ _ q => ⟨_, rfl, _, rfl, q⟩) (show 2 <= 200 by decide)) (by simp only [List.length_take, List.length_cons, List.length_nil]; omega)) (znz (K := K) (n := 2) (m := 6) rfl zlD (fun _ _ q => q) fun _ _ q => q) (by simp only [List.length_append, List.length_take, List.length_drop, List.length_cons, List.length_nil]; omega) H13 _ (Same.refl _) fun p1 Ha _ ya j1 => ?_
  have kga := ya _ _ zlD
  refine jR (jR (lM (ys := [n5]) (fun _ _ q => ⟨_, rfl, q⟩) (show 1 <= 200 by decide)) (zZ (K := K) (n := 6) rfl kga fun _ _ q => q) (by simp only [List.length_take, List.length_cons, List.length_nil]; omega)) (lM (ys := [n4]) (fun _ _ q => ⟨_, rfl, q⟩) (show 1 <= 200 by decide)) (by simp only [List.length_append, List.length_take, List.length_cons, List.length_nil]; omega) Ha _ (Same.refl _) fun p2 Hb _ yb j2 => ?_
  refine lM (H0 := Hb) (ys := [n4, n5, n4]) (fun _ _ q => ⟨_, rfl, _, rfl, _, rfl, q⟩) (show 3 <= 200 by decide) Hb _ (Same.refl _) fun p3 Hc _ yc j3 => ⟨jW (show 3 <= 1000 by decide), fun T hT => ?_⟩
  rw [show ([V.ref p1, V.ref p2, V.ref p3] : List V) = [p1, p2, p3].map V.ref from rfl]
  have yd : Same Hc (upd Hc T (.lst ([p1, p2, p3].map V.ref))) := aK hT
  have kT : upd Hc T (.lst ([p1, p2, p3].map V.ref)) T = some (.lst ([p1, p2, p3].map V.ref)) := aB
  generalize upd Hc T (.lst ([p1, p2, p3].map V.ref)) = H14 at yd kT ⊢
  have y14 := (ya.trans yb).trans (yc.trans yd)
  replace j1 := (yb.trans (yc.trans yd)) _ _ j1
  replace j2 := (yc.trans yd) _ _ j2
  replace j3 := yd _ _ j3
  clear ya yb yc yd kga hT
  have b1 : bad (rs.flatMap (·.2)) (gr.take 2 ++ [n4, n5] ++ (gr.drop 2).take (6 - 2)) = some n4 := by
    rw [List.append_assoc]
    exact mP (fun d hd => og d (List.mem_of_mem_take hd)) (dfm n4 hn4)
  have b2 : bad (rs.flatMap (·.2)) ([n5] ++ gr.take 6 ++ [n4]) = some n5 := mP (A := []) (fun _ z => nomatch z) (dfm n5 hn5)
  have b3 : bad (rs.flatMap (·.2)) [n4, n5, n4] = some n4 := mP (A := []) (fun _ z => nomatch z) (dfm n4 hn4)
  have m1 : (gr.take 2 ++ [n4, n5] ++ (gr.drop 2).take (6 - 2)).length <= 10 := by simp only [List.length_append, List.length_take, List.length_drop, List.length_cons, List.length_nil]; omega
  have m2 : ([n5] ++ gr.take 6 ++ [n4]).length <= 10 := by simp only [List.length_append, List.length_take, List.length_cons, List.length_nil]; omega
  generalize gr.take 2 ++ [n4, n5] ++ (gr.drop 2).take (6 - 2) = w1 at j1 b1 m1
  generalize [n5] ++ gr.take 6 ++ [n4] = w2 at j2 b2 m2
  have zpm := zpo.same y14
  have zpt := y14 _ _ zpf
  have zpF : Ext a H12 H14 := zpi.trans (Same.ext y14)
  clear zpo zpf zlD zpi y14
  refine ⟨_, rfl, _, rfl, _, rfl, jW (show 3 <= 1000 by decide), fun U hU => ?_⟩
  rw [show ([V.str n4, V.str n5, V.str n4] : List V) = [n4, n5, n4].map V.str from rfl]
  have y15 : Same H14 (upd H14 U (.lst ([n4, n5, n4].map V.str))) := aK hU
  have kU : upd H14 U (.lst ([n4, n5, n4].map V.str)) U = some (.lst ([n4, n5, n4].map V.str)) := aB
  generalize upd H14 U (.lst ([n4, n5, n4].map V.str)) = H15 at y15 kU ⊢
  have zoU := zpm.same y15
  refine ⟨_, rfl, _, rfl, T, U, rfl, ⟨_, SqL.of (y15 _ _ kT)⟩, ⟨_, SqL.of kU⟩, fun D8 hD8 => znI (K := K) (qs := [p1, p2, p3]) (due := [n4, n5, n4]) zoU.sh hG zoU.r o1 l1 (y15 _ _ kT) kU rfl (show 3 <= 9 by decide) (fun i q d a1 a2 => ?_) hD8 fun H16 y16 k16 => ⟨D8, _, rfl, SqL.of k16, true, congrArg V.bl (tF _), oF ?_⟩⟩
  . match i, a1, a2 with
    | 0, a1, a2 => cases Option.some.inj a1; cases Option.some.inj a2; exact ⟨w1, y15 _ _ j1, m1, b1⟩
    | 1, a1, a2 => cases Option.some.inj a1; cases Option.some.inj a2; exact ⟨w2, y15 _ _ j2, m2, b2⟩
    | 2, a1, a2 => cases Option.some.inj a1; cases Option.some.inj a2; exact ⟨[n4, n5, n4], y15 _ _ j3, show 3 <= 10 by decide, b3⟩
    | i + 3, a1, a2 => simp at a1
  have zdL := y15.trans y16
  have zow := zpm.same zdL
  refine ⟨_, rfl, _, rfl, _, rfl, .inr ⟨x, R, O, rs, row, od, n4, rfl, zow.sh, hG, SqL.of zow.r, SqL.of (zdL _ _ zpt), l1, lo, o1, bo, fun t H17 _ y17 kt => ?_⟩⟩
  refine ⟨_, rfl, jW (show 2 <= 1000 by decide), fun v hv => ⟨t, v, [.str "no desk", .str n4], rfl, rfl, aK hv _ _ kt, aB, fun z hz => .inl (sM z hz), ?_⟩⟩
  have y18 : Same H17 (upd H17 v (.tup [.str "no desk", .str n4])) := aK hv
  exact q _ (zpF.trans (Same.ext ((zdL.trans y17).trans y18))) (Same.flow (y17.trans y18) zow.f)
theorem tI {cdv : Value} {A : Around} {outer : List Env} {s : Shared} {H : Hp} {E : XK} (hr : iE k (A.deeper (envOfC "_law_refused" (aD aU) s.heap.objs.size f cdv))) (B : Bt mg) {tr1 : TS} (hR1 : PSs (eU CX0 P w K mg base ["_law_flow_here", "_law_sharing", "_law_rows", "_law_row_here", "_law_group_here", "_law_letters", "_law_desks_here", "_law_one", "_law_other", "_law_at", "_law_bad", "_law_spot", "_law_none", "_law_odd", "_law_again", "_law_two", "_law_due"] "_law_refused" (aD aU) f cdv A outer s H E).nox (List.drop 10 (aV aU)) tr1) (hT1 : zgO C tr1) (aC : Fn P w K mg base k "_law_draw" ["_law_flow_here", "_law_many"] fW g gd) (aQ : Fn P w K mg base k "_law_strange" ["_law_flow_here", "_law_some"] jJ g3 gd3) (bB : Fn P w K mg base k "_law_told" ["_law_sharing", "_law_row_here", "_law_group_here"] (oG K C) g4 gd4) :
    ∃ tr, PSs (eU CX0 P w K mg base ["_law_flow_here", "_law_sharing", "_law_rows", "_law_row_here", "_law_group_here", "_law_letters", "_law_desks_here", "_law_one", "_law_other", "_law_at", "_law_bad", "_law_spot", "_law_none", "_law_odd", "_law_again", "_law_two", "_law_due"] "_law_refused" (aD aU) f cdv A outer s H E).nox (List.drop 5 (aV aU)) tr /\ zpQ C tr := by
  have nd := iR.nd
  refine ⟨_, (aG (aS (i := 4) nd rfl (Or.inl rfl) (cG fQ (pv 4) dQ (dC aI))) (aG (aS (i := 11) nd rfl (Or.inl rfl) (aL aC.ok hr rfl aC.at_ aC.kp aC.bn .nil bF (aA (pv 0) (aA (aW cO (aT bL rfl B.len_ PySem.boot_len (aA (pv 4) aE)) aI) aE)))) (aG (aS (i := 12) nd rfl (Or.inl rfl) (aL aQ.ok hr rfl aQ.at_ aQ.kp aQ.bn .nil bF (aA (pv 0) (aA (pv 6) aE)))) (aG (aS (i := 13) nd rfl (Or.inl rfl) (aW iL (aW iL (cG fQ (pv 4) dQ (dC (pv 11))) (dP (aA (pv 12) aE))) (cG fQ (pv 4) (dC (pv 11)) dQ))) (aG (eG (PW.pt (rO (bW qH (pv 7) (pv 10) rfl) (mD (bW (zdk (jO hr)) (aL bB.ok hr rfl bB.at_ bB.kp bB.bn .nil bF (aA (pv 1) (aA (pv 10) (aA (pv 13) aE)))) (hZ (aA fX (aA (pv 7) aE))) (eP _))))) (aJ (bK kI)) bM)
    hR1))))), ?_⟩
  rintro Dn s2 s5 s8 s9 s11 s12 s13 s14 s15 s16 a x D e R G bA rs row ds grp bd n1 H7 hd hf7 kG7 o2 k7 nb zlF lbad q
  try dsimp only [eU, Cx.nox, Cx.wish]
  refine zbp ?_
  intro D0 σ0 U6 U5 U4 U3 U2
  obtain ⟨hG, o1, l1, dne, d4, dbd, dfm⟩ := id hd
  have nE := hf7.nE
  refine zZ (K := K) (n := 7) rfl kG7 (fun _ _ q => q) H7 _ (Same.refl _) fun G2 H8 hG2 y8 k8 => ?_
  have og : OfD rs (grp.take 7) := fun d hd => o2 d (List.mem_of_mem_take hd)
  have lg : (grp.take 7).length <= 7 := by rw [List.length_take]; omega
  generalize grp.take 7 = gr at k8 og lg
  have hf8 := hf7.same y8
  have ng : G2 ≠ a := dB hG2 hf7.f
  refine ⟨_, rfl, _, rfl, G2, _, rfl, .inl (SqL.of k8), _, _, rfl, rfl, a, _, rfl, hf8.f, by rw [List.length_map]; omega, by rw [List.length_map]; omega, fun r9 H9 r90 r91 f9 x9 => ?_⟩
  obtain ⟨m, rfl⟩ := Int.eq_ofNat_of_zero_le r90
  have hf9 := hf8.ext x9 f9
  refine ⟨_, rfl, _, rfl, a, e, ds, rfl, f9, hf9.e, nE, dne, by omega, dbd, fun n4 H10 hn4 f10 x10 => ?_⟩
  have zpc := hf9.ext x10 f10
  have k10 := (x9.trans x10) _ _ ng k8
  have zpb := ((Same.ext y8).trans (x9.trans x10)) _ _ nb k7
  have zpk : Ext a H7 H10 := ((Same.ext y8).trans (x9.trans x10))
  clear hf7 hf8 hf9 k8 k7 y8 x9 x10 hG2 f9 kG7
  refine jR (jR (zZ (K := K) (n := m) rfl k10 fun _ _ q => ⟨_, rfl, q⟩) (lM (ys := [n4]) (fun _ _ q => ⟨_, rfl, q⟩) (show 1 <= 200 by decide)) (by simp only [List.length_take, List.length_singleton]; omega)) (zjH (K := K) (n := m) rfl k10 fun _ _ q => ⟨_, rfl, q⟩) (by simp only [List.length_append, List.length_take, List.length_drop, List.length_singleton]; omega) H10 _ (Same.refl _) fun O H11 hO y11 k11 => ?_
  have bo : bad (rs.flatMap (·.2)) (gr.take m ++ [n4] ++ gr.drop m) = some n4 := by
    rw [List.append_assoc]
    exact mP (fun d hd => og d (List.mem_of_mem_take hd)) (dfm n4 hn4)
  have lo : (gr.take m ++ [n4] ++ gr.drop m).length <= 10 := by simp only [List.length_append, List.length_take, List.length_drop, List.length_singleton]; omega
  generalize gr.take m ++ [n4] ++ gr.drop m = od at k11 bo lo
  have nO : O ≠ a := dB hO f10
  have zoV := zpc.same y11
  have zpE := y11 _ _ k10
  have zpj := y11 _ _ zpb
  have zpK : Ext a H7 H11 := zpk.trans (Same.ext y11)
  clear zpc k10 zpb zpk y11 hO f10
  have rest : ∀ H', Same H11 H' -> tr1 Dn [some (.ref a), some (.ref x), s2, some (.ref R), some (.ref G2), s5, some (.ref e), some (.str n1), s8, s9, some (.ref bA), some (.int (m : Int)), some (.str n4), some (.ref O), s14, s15, s16] H' := fun H' y => hT1 Dn _ _ _ _ _ _ _ _ _ _ a x D e R G2 O rs row ds gr od n4 H' hd (zoV.same y) (y _ _ zpE) ng og lg (y _ _ k11) nO hn4 bo lo fun H2 y2 f2 => q H2 ((zpK.trans (Same.ext y)).trans y2) f2
  refine ⟨_, rfl, _, rfl, bA, _, rfl, .inl (SqL.of zpj), rfl, fF bd, _, rfl, ?_⟩
  refine pR (fun c1 => ?_) (fun c1 => rest _ (Same.refl _))
  have hin : n1 ∈ bd := zV.mp (by simpa using c1)
  refine ⟨_, rfl, _, rfl, _, rfl, .inl ⟨x, bA, O, rs, bd, od, n1, rfl, zoV.sh, hG, SqL.of zpj, SqL.of k11, lbad, lo, zlF hin, fun t1 H29 _ y29 ht1 => ?_⟩⟩
  refine ⟨_, rfl, jW (show 2 <= 1000 by decide), fun u1 hu1 => ⟨t1, u1, [.str "no letter", .str n1], rfl, rfl, aK hu1 _ _ ht1, aB, sM, _, rfl, ?_⟩⟩
  exact rest _ (y29.trans (aK hu1))
theorem vH (F : Fun K "_law_refused" "_law_refused" aU f fd) (B : Bt mg) (aC : Fn P w K mg base k "_law_draw" ["_law_flow_here", "_law_many"] fW g gd) (aP : Fn P w K mg base k "_law_desks" ["_law_rows"] gO g2 gd2) (aQ : Fn P w K mg base k "_law_strange" ["_law_flow_here", "_law_some"] jJ g3 gd3) (bB : Fn P w K mg base k "_law_told" ["_law_sharing", "_law_row_here", "_law_group_here"] (oG K C) g4 gd4) :
    FnOk P w K mg base CX0 (k + 1) f fd ["_law_flow_here", "_law_sharing", "_law_rows", "_law_row_here", "_law_group_here"] (mJ C) := by
  refine F.ok iR (fun vs H Q E h => ?_) (fun cdv A outer s H vs Q E hr h => ?_)
  . obtain ⟨a, x, L, R, G, rs, row, grp, rfl, _⟩ := h
    rfl
  obtain ⟨a, x, L, R, G, rs, row, grp, rfl, hF, hSh, hR, hG, h1, h2, o1, o2, l1, l2, nR, nG, q⟩ := h
  have nd := iR.nd
  have hs := cK
  have l6 := hG.len
  have lsn : rs.map (·.1) ≠ [] := fun e => hG.ne (List.map_eq_nil_iff.mp e)
  have lsl : (rs.map (·.1)).length <= 6 := by rw [List.length_map]; exact l6
  obtain ⟨ts, hL, _⟩ := id hR
  obtain ⟨tr1, hR1, hT1⟩ := qP (cdv := cdv) (A := A) (outer := outer) (s := s) (H := H) (E := E) hr B aQ bB
  obtain ⟨tr2, hR2, hT2⟩ := tI hr B hR1 hT1 aC aQ bB
  refine ⟨_, (aG (zQ (i := 5) nd rfl (Or.inl rfl) (g := (sH K 2 (eK (aZ 0) (eK (aZ 1) sI)))) (tc := gG) (te := (bD 0)) (own := ["_law_letter", "_law_some"]) (fr := ([] : List Str)) (idx := []) rfl (by show aR _ _ _ (aD aU); exact ⟨rfl, by decide +kernel, by decide +kernel, by decide +kernel, by decide +kernel, by decide +kernel, by decide +kernel⟩) (cS (pv 2)) (fun _ _ _ _ _ => (fO rfl (aX (aO (i := 0) (by show List.Nodup (["_law_letter", "_law_some"] : List Str); decide +kernel) rfl (Or.inl rfl) (Or.inr rfl)) (aX (aO (i := 1) (by show List.Nodup (["_law_letter", "_law_some"] : List Str); decide +kernel) rfl (Or.inl rfl) (Or.inr rfl)) dX)))) (fun _ _ _ _ _ => bT) (fun _ _ _ _ _ => (pv 0)) rfl (cV rfl)) (aG (aS (i := 6) nd rfl (Or.inl rfl) (aL aP.ok hr rfl aP.at_ aP.kp aP.bn .nil bF (aA (pv 2) aE))) (aG (zfq (i := 7) (j := 8) rfl nd rfl rfl (by decide) rfl rfl (aA (aL aQ.ok hr rfl aQ.at_ aQ.kp aQ.bn .nil bF (aA (pv 0) (aA (pv 5) aE))) (aA (aL aQ.ok hr rfl aQ.at_ aQ.kp aQ.bn .nil bF (aA (pv 0) (aA (aW iL (pv 5) (pv 6)) aE))) aE)) rfl) (aG (aS (i := 9) nd rfl (Or.inl rfl) (aL aC.ok hr rfl aC.at_ aC.kp aC.bn .nil bF (aA (pv 0) (aA (aW cO (aT bL rfl B.len_ PySem.boot_len (aA (pv 3) aE)) aI) aE)))) (aG (aS (i := 10) nd rfl (Or.inl rfl) (cG fQ (aW iL (aW iL (aW iL (cG fQ (pv 3) dQ (dC (pv 9))) (dP (aA (pv 7) aE))) (cG fQ (pv 3) (dC (pv 9)) dQ)) (dP (aA (pv 8) aE))) dQ (dC aI)))
    hR2))))), ?_⟩
  try dsimp only [eU, Cx.nox, Cx.wish]
  refine zbp ?_
  intro D0 σ0 U6 U5 U4 U3 U2
  refine ⟨_, rfl, L, rfl, ⟨_, SqL.of hL⟩, fun D hD => rJ (K := K) (by omega) hD hR fun H1 x1 kD => ?_⟩
  have nD : D ≠ a := dB hD hF
  refine ⟨_, rfl, L, rs, rfl, hR.same x1, by omega, fun r hr' => ⟨by have := (hG.row r hr').2.1; omega, (hG.row r hr').2.2⟩, fun e ds H2 _ dn _ dm he x2 ke => ?_⟩
  have nE : e ≠ a := dB he (Same.flow x1 hF)
  have y2 := x1.trans x2
  have hf2 : RfF C rs row ds a x D e R H2 := ⟨Same.flow y2 hF, hSh.same y2, x2 _ _ kD, ke, y2 _ _ h1, nD, nE, nR⟩
  have kG2 := y2 _ _ h2
  have e2 : Ext a H H2 := Same.ext y2
  have d4 := tG hG dn dm
  have dne : ds ≠ [] := by
    obtain ⟨r, hr'⟩ := List.exists_mem_of_ne_nil _ hG.ne
    obtain ⟨d, hd⟩ := List.exists_mem_of_ne_nil _ (hG.row r hr').1
    exact List.ne_nil_of_mem ((dm d).mpr ⟨r, hr', hd⟩)
  have dbd : Bd ds := fun d hd => by
    obtain ⟨r, a1, b1⟩ := (dm d).mp hd
    exact hG.dn r a1 d b1
  have dfm : ∀ d, d ∉ ds -> d ∉ rs.flatMap (·.2) := fun d hd z => by
    obtain ⟨r, a1, b1⟩ := List.mem_flatMap.mp z
    exact hd ((dm d).mpr ⟨r, a1, b1⟩)
  clear hSh hR hL h1 h2 x1 x2 y2 hD he kD ke hF
  refine ⟨_, rfl, _, rfl, a, D, rs.map (·.1), rfl, hf2.f, hf2.d, nD, lsn, by omega, hG.nm, fun n1 H3 hn1 f3 x3 => ?_⟩
  have hf3 := hf2.ext x3 f3
  refine ⟨_, rfl, _, rfl, _, rfl, D, e, _, _, rfl, rfl, hf3.d, hf3.e, by simp only [List.length_map]; exact jW (by omega), fun p hp => ?_⟩
  rw [<- List.map_append]
  have y4 : Same H3 (upd H3 p (.lst ((rs.map (·.1) ++ ds).map V.str))) := aK hp
  have k4 : upd H3 p (.lst ((rs.map (·.1) ++ ds).map V.str)) p = some (.lst ((rs.map (·.1) ++ ds).map V.str)) := aB
  generalize upd H3 p (.lst ((rs.map (·.1) ++ ds).map V.str)) = H4 at y4 k4 ⊢
  refine ⟨a, p, rs.map (·.1) ++ ds, rfl, Same.flow y4 f3, k4, dB hp f3, fun z => lsn (List.append_eq_nil_iff.mp z).1, by rw [List.length_append]; omega, fun d hd => (List.mem_append.mp hd).elim (hG.nm d) (dbd d), fun n3 H5 _ f5 x5 => ⟨_, _, rfl, ?_⟩⟩
  have hf5 := (hf3.same y4).ext x5 f5
  refine ⟨_, rfl, _, rfl, R, _, rfl, .inl (SqL.of hf5.r), _, _, rfl, rfl, a, _, rfl, f5, by rw [List.length_map]; omega, by rw [List.length_map]; omega, fun r6 H6 r60 r61 f6 x6 => ?_⟩
  rw [List.length_map] at r61
  obtain ⟨n, rfl⟩ := Int.eq_ofNat_of_zero_le r60
  have hn : n <= row.length := by omega
  have hf6 := hf5.ext x6 f6
  have e26 : Ext a H2 H6 := ((x3.trans (Same.ext y4)).trans x5).trans x6
  clear hf2 hf3 hf5 x3 y4 k4 x5 x6 hp f3 f5
  refine zfZ (K := K) (n := 60) (jR (jR (jR (zZ (n := n) rfl hf6.r fun _ _ q => ⟨_, rfl, q⟩) (lM (ys := [n1]) (fun _ _ q => ⟨_, rfl, q⟩) (show 1 <= 200 by decide)) (by simp only [List.length_take, List.length_singleton]; omega)) (zjH (n := n) rfl hf6.r fun _ _ q => ⟨_, rfl, q⟩) (by simp only [List.length_append, List.length_take, List.length_drop, List.length_singleton]; omega)) (lM (ys := [n3]) (fun _ _ q => ⟨_, rfl, q⟩) (show 1 <= 200 by decide)) (by simp only [List.length_append, List.length_take, List.length_drop, List.length_singleton]; omega)) (fun _ _ q => q) H6 _ (Same.refl _) fun bA H7 hbA y7 k7 => ?_
  rw [show (row.take n ++ [n1] ++ row.drop n ++ [n3]).take 60 = (row.take n ++ (n1 :: (row.drop n ++ [n3]))).take 60 by simp] at k7
  have zlF := zeQ (ls := rs.map (·.1)) (A := row.take n) (B := row.drop n ++ [n3]) (m := 60) (fun l hl => o1 l (List.mem_of_mem_take hl)) hn1
  have lbad : ((row.take n ++ (n1 :: (row.drop n ++ [n3]))).take 60).length <= 60 := by rw [List.length_take]; omega
  generalize (row.take n ++ (n1 :: (row.drop n ++ [n3]))).take 60 = bd at zlF lbad k7
  have nb : bA ≠ a := dB hbA f6
  have hf7 := hf6.same y7
  have kG7 := (e26.trans (Same.ext y7)) _ _ nG kG2
  have e07 : Ext a H H7 := (e2.trans e26).trans (Same.ext y7)
  exact hT2 _ _ _ _ _ _ _ _ _ _ _ a x D e R G bA rs row ds grp bd n1 H7 ⟨hG, o1, l1, dne, d4, dbd, dfm⟩ hf7 kG7 o2 k7 nb zlF lbad fun H2 y2 f2 => q H2 (e07.trans y2) f2
end
abbrev gL : Stmt := top 33
theorem sP {rs : List Row} {d : Str} (h : d ∈ rs.flatMap (·.2)) : d ∈ (iY rs).flatMap (·.2) := by
  obtain ⟨r, a, b⟩ := List.mem_flatMap.mp h
  obtain ⟨j, hj, rfl⟩ := List.mem_iff_getElem.mp a
  refine List.mem_flatMap.mpr ⟨nxt rs ((j + rs.length - 1) % rs.length), ?_, ?_⟩
  . exact List.mem_map.mpr ⟨_, List.mem_range.mpr (Nat.mod_lt _ (by omega)), rfl⟩
  . have e : ((j + rs.length - 1) % rs.length + 1) % rs.length = j := by
      rw [Nat.mod_add_mod, show j + rs.length - 1 + 1 = j + rs.length by omega, Nat.add_mod_right, Nat.mod_eq_of_lt hj]
    show d ∈ (rs.getD (((j + rs.length - 1) % rs.length + 1) % rs.length) ("", [])).2
    rw [e, List.getD_eq_getElem?_getD, List.getElem?_eq_getElem hj]
    exact b
def oS (s : Stmt) : List Stmt := match (aV s).getD 0 (.Pass ⟨0, 0, 0, 0⟩) with
  | .For _ _ b _ _ => b
  | _ => []
structure LaF (C : Addr) (rs : List Row) (row grp : List Str) (L x R G : Addr) (H1 : Hp) : Prop where
  g : nX rs
  sh : mZ C H1 x rs
  r : dD H1 L rs
  a : H1 R = some (.lst (row.map V.str))
  b : H1 G = some (.lst (grp.map V.str))
  oa : Of rs row
  ob : OfD rs grp
  la : row.length <= 60
  lb : grp.length <= 10
theorem LaF.same {C : Addr} {rs : List Row} {row grp : List Str} {L x R G : Addr} {H1 H2 : Hp} (h : LaF C rs row grp L x R G H1) (y : Same H1 H2) : LaF C rs row grp L x R G H2 := ⟨h.g, h.sh.same y, h.r.same y, y _ _ h.a, y _ _ h.b, h.oa, h.ob, h.la, h.lb⟩
theorem LaF.ext {C : Addr} {rs : List Row} {row grp : List Str} {L x R G a : Addr} {H1 H2 : Hp} (h : LaF C rs row grp L x R G H1) (y : Ext a H1 H2) (f : aY H1 a) (nL : L ≠ a) (nR : R ≠ a) (nG : G ≠ a) : LaF C rs row grp L x R G H2 := ⟨h.g, h.sh.ext y f, h.r.ext y f nL, y _ _ nR h.a, y _ _ nG h.b, h.oa, h.ob, h.la, h.lb⟩
def zcm (C : Addr) (tr : TS) : Prop := ∀ (Dn : iC) (s0 s1 s7 s8 s9 s10 : Option V) (a L x R G : Addr) (rs : List Row) (row grp : List Str) (H1 : Hp), LaF C rs row grp L x R G H1 -> aY H1 a -> L ≠ a -> R ≠ a -> G ≠ a -> (∀ v8 v9 v10 H', Ext a H1 H' -> Dn.nx [s0, s1, some (.ref a), some (.ref L), some (.ref x), some (.ref R), some (.ref G), s7, v8, v9, v10] H') -> tr Dn [s0, s1, some (.ref a), some (.ref L), some (.ref x), some (.ref R), some (.ref G), s7, s8, s9, s10] H1
def znD (C : Addr) (tr : TS) : Prop := ∀ (Dn : iC) (s0 s1 s7 s8 s9 s10 : Option V) (a L x R G : Addr) (rs : List Row) (row grp : List Str) (H1 : Hp), LaF C rs row grp L x R G H1 -> aY H1 a -> L ≠ a -> R ≠ a -> G ≠ a -> (∀ v7 v8 v9 v10 H', Ext a H1 H' -> Dn.nx [s0, s1, some (.ref a), some (.ref L), some (.ref x), some (.ref R), some (.ref G), v7, v8, v9, v10] H') -> tr Dn [s0, s1, some (.ref a), some (.ref L), some (.ref x), some (.ref R), some (.ref G), s7, s8, s9, s10] H1
section
variable {P : Program} {w : World} {K : W.Frag} {mg : Str -> Option Value} {base : Heap} {f g g2 g3 g4 g5 g6 g7 g8 g9 gA gB gC gD : Addr} {fd gd gd2 gd3 gd4 gd5 gd6 gd7 gd8 gd9 gdA gdB gdC gdD : FuncData} {k j : Nat} {C CN CD M ft : Addr} {ftd : FuncData} {c : Nat -> Addr}
theorem zkk {Dn R D : Addr} {Q : VK} {H1 : Hp} {ls row : List Str} (hD1 : H1 D = some (.lst (ls.map V.str))) (hR : H1 R = some (.lst (row.map V.str))) (hO : ∀ l ∈ row, l ∈ ls) (l60 : ls.length <= 60) (h100 : row.length <= 100) (hD : H1 Dn = none)
    (hdn : ∀ H' (sh : List Str), Same H1 H' -> sh.length = row.length -> (∀ l ∈ sh, l ∈ ls) -> H' Dn = some (.lst (sh.map V.str)) -> Q (.ref Dn) H') :
    bO (Itl K R) Dn (aZ 0) gG (tOp (oA K) (bD 1) (tOp (rI (fun _ j => 0 < j) fun i j => .int (i % j)) (tOp (rI0 fun i j => .int (i + j)) (tBM K "list" zdZ (bD 1) (bS (bD 0) iD)) (tC (.int 1))) (tCB (fun xs H Q => ∃ p ys, xs = [.ref p] /\ (SqL K H p ys \/ SqT K H p ys) /\ Q (.int ys.length) H) (bS (bD 1) iD)))) Q [none, some (.ref D)] H1 := by
  refine iO (xs := row.map V.str) (fun i ys σ H => ∃ (sh : List Str) (v : Option V), ys = sh.map V.str /\ sh.length = i /\ (∀ l ∈ sh, l ∈ ls) /\ σ = [v, some (.ref D)] /\ Same H1 H) ?_ (by rw [List.length_map]; omega) ?_ ?_ ?_ ?_
  . exact ⟨[], none, rfl, rfl, (fun _ z => nomatch z), rfl, aK hD⟩
  . rintro i ys σ H ⟨sh, v, rfl, rfl, _⟩
    rw [List.length_map]; exact Nat.le_refl _
  . rintro i ys σ H ⟨sh, v, _, _, _, _, x1⟩
    exact SqL.of (x1 _ _ hR)
  . rintro i y ys σ H hy hl2 ⟨sh, v, rfl, rfl, hm, rfl, x1⟩
    rw [List.getElem?_map] at hy
    obtain ⟨l, hl, rfl⟩ := Option.map_eq_some_iff.mp hy
    have hin := hO l (List.mem_of_getElem? hl)
    have zfe := List.length_pos_of_mem hin
    have kd := x1 _ _ hD1
    have hk : (ls.idxOf l + 1) % ls.length < ls.length := Nat.mod_lt _ zfe
    have hat : atI (ls.map V.str) (((ls.idxOf l : Nat) : Int) + 1 - 0 + 0) = atI (ls.map V.str) (((ls.idxOf l : Nat) : Int) + 1) := by simp
    clear hat
    have hat : atI (ls.map V.str) ((((ls.idxOf l : Nat) : Int) + 1) % (((ls.map V.str).length : Nat) : Int)) = some (.str ls[(ls.idxOf l + 1) % ls.length]) := by
      rw [List.length_map, show ((((ls.idxOf l : Nat) : Int) + 1) % ((ls.length : Nat) : Int)) = (((ls.idxOf l + 1) % ls.length : Nat) : Int) by simp]
      exact zjQ (List.getElem?_eq_getElem hk)
    refine ⟨_, rfl, _, rfl, .inl ⟨rfl, _, SqL.of kd⟩, _, rfl, D, l, ls, rfl, rfl, kd, hin, by omega, _, _, rfl, rfl, _, rfl, D, _, rfl, .inl (SqL.of kd), _, _, rfl, rfl, by rw [List.length_map]; omega, D, _, _, _, rfl, rfl, SqL.of kd, hat, hl2, sh ++ [ls[(ls.idxOf l + 1) % ls.length]], _, by rw [List.map_append]; rfl, by rw [List.length_append]; rfl, fun l' hl' => ?_, rfl, x1.at hD⟩
    rcases List.mem_append.mp hl' with z | z
    . exact hm l' z
    . rw [List.mem_singleton.mp z]; exact List.getElem_mem hk
  . rintro ys σ H hl2 ⟨sh, v, rfl, e, hm, _, x1⟩
    rw [List.length_map] at e
    exact hdn H sh x1 e hm hl2
def zbz (K : W.Frag) : Sp := fun vs H Q _ => ∃ (a : Addr) (ns : List Int), vs = [.ref a] /\ SqL K H a (ns.map V.int) /\ ns.length <= 63 /\ ∀ H', Q (.bl true) H'
theorem uC : bE ["_law_script", "_law_k", "_law_flow_here", "_law_rows", "_law_sharing", "_law_row_here", "_law_group_here", "_law_some", "_law_other", "_law_letters", "_law_shifted"] ["_law_script"] (aD gL) := ⟨rfl, rfl, rfl, by decide +kernel, rfl, by decide +kernel, by decide +kernel⟩
theorem zaE {cdv : Value} {A : Around} {outer : List Env} {s : Shared} {H : Hp} {E : XK} (hr : iE (k + 1) (A.deeper (envOfC "law" (aD gL) s.heap.objs.size f cdv))) (B : Bt mg) (bZ : qJ P w K mg base k C g4 gd4) (bY : Fn P w K mg base (k + 1) "_law_next_desks" ["_law_rows"] zC gB gdB) (aN : Fn P w K mg base (k + 1) "_law_right" ["_law_sharing", "_law_rows", "_law_row_here", "_law_group_here"] (oR K C) gC gdC) (cY : Fn P w K mg base (k + 1) "_law_refused" ["_law_flow_here", "_law_sharing", "_law_rows", "_law_row_here", "_law_group_here"] (mJ C) g8 gd8) (eF : Fn P w K mg base (k + 1) "_law_stays" ["_law_sharing", "_law_rows"] (tD C) gD gdD) :
    ∃ tr, PSs (eU CX0 P w K mg base ["_law_script", "_law_k", "_law_flow_here", "_law_rows", "_law_sharing", "_law_row_here", "_law_group_here", "_law_some", "_law_other", "_law_letters", "_law_shifted"] "law" (aD gL) f cdv A outer s H E).nox (List.drop 6 (oS gL)) tr /\ zcm C tr := by
  have nd := uC.nd
  have hs := cK
  refine ⟨_, (aG (aS (i := 8) nd rfl (Or.inl rfl) (aL bY.ok hr rfl bY.at_ bY.kp bY.bn .nil bF (aA (pv 3) aE))) (aG (eG (fS (eC (aL aN.ok hr rfl aN.at_ aN.kp aN.bn .nil bF (aA (yG bZ.mak bZ.ok hr rfl bZ.at_ bZ.bn .nil bF (aA (cF cE rfl B.list_ (by decide +kernel) (aA (pv 8) aE)) aE)) (aA (pv 8) (aA (pv 5) (aA (pv 6) aE))))) (fun _ => rfl))) (aJ (bK kI)) bM) (aG (aS (i := 9) nd rfl (Or.inr rfl) (dI (g := (sH K 2 (eK (aZ 0) (eK (aZ 1) sI)))) (tc := gG) (te := (bD 0)) (own := ["_law_letter", "_law_some"]) (fr := ([] : List Str)) (idx := []) rfl (by show aR _ _ _ (aD gL); exact ⟨rfl, by decide +kernel, by decide +kernel, by decide +kernel, by decide +kernel, by decide +kernel, by decide +kernel⟩) (cS (pv 3)) (fun _ _ _ _ _ => (fO rfl (aX (aO (i := 0) (by show List.Nodup (["_law_letter", "_law_some"] : List Str); decide +kernel) rfl (Or.inl rfl) (Or.inr rfl)) (aX (aO (i := 1) (by show List.Nodup (["_law_letter", "_law_some"] : List Str); decide +kernel) rfl (Or.inl rfl) (Or.inr rfl)) dX)))) (fun _ _ _ _ _ => bT) (fun _ _ _ _ _ => (pv 0)) rfl (cV rfl))) (aG (zQ (i := 10) nd rfl (Or.inl rfl) (g := (aZ 0)) (tc := gG) (te := (tOp (oA K) (bD 1) (tOp (rI (fun _ j => 0 < j) fun i j => .int (i % j)) (tOp (rI0 fun i j => .int (i + j)) (tBM K "list" zdZ (bD 1) (bS (bD 0) iD)) (tC (.int 1))) (tCB (fun xs H Q => ∃ p ys, xs = [.ref p] /\ (SqL K H p ys \/ SqT K H p ys) /\ Q (.int ys.length) H) (bS (bD 1) iD))))) (own := ["_law_letter"]) (fr := ["_law_letters"]) (idx := [9]) rfl (by show aR _ _ _ (aD gL); exact ⟨rfl, by decide +kernel, by decide +kernel, by decide +kernel, by decide +kernel, by decide +kernel, by decide +kernel⟩) (cS (pv 5)) (fun _ _ _ _ _ => (aO (i := 0) (by show List.Nodup (["_law_letter", "_law_letters"] : List Str); decide +kernel) rfl (Or.inl rfl) (Or.inr rfl))) (fun _ _ _ _ _ => bT) (fun _ _ _ _ _ => (dZ bQ (pv 1) (aW gN (aW cO (oP PySem.F.plainAttrs_list PySem.F.slot_list_index PySem.F.type_list_index a7 (pv 1) (aA (pv 0) aE)) aI) (aT bL rfl B.len_ PySem.boot_len (aA (pv 1) aE))) (fun _ _ => rfl))) rfl (cV rfl)) (aG (eG (PW.pt (wI (fS (eC (aL aN.ok hr rfl aN.at_ aN.kp aN.bn .nil bF (aA (pv 4) (aA (pv 3) (aA (pv 10) (aA (pv 6) aE))))) (fun _ => rfl))) (pV (fS (eC (aL aN.ok hr rfl aN.at_ aN.kp aN.bn .nil bF (aA (pv 4) (aA (pv 3) (aA (zbG (pv 5) (by exact zL)) (aA (pv 6) aE))))) (fun _ => rfl)))))) (aJ (bK kI)) bM) (aG (eG (fS (eC (aL cY.ok hr rfl cY.at_ cY.kp cY.bn .nil bF (aA (pv 2) (aA (pv 4) (aA (pv 3) (aA (pv 5) (aA (pv 6) aE)))))) (fun _ => rfl))) (aJ (bK kI)) bM) (aJ (eG (PW.pt (wI (fS (eC (aL aN.ok hr rfl aN.at_ aN.kp aN.bn .nil bF (aA (pv 4) (aA (pv 3) (aA (pv 5) (aA (pv 6) aE))))) (fun _ => rfl))) (pV (fS (eC (aL eF.ok hr rfl eF.at_ eF.kp eF.bn .nil bF (aA (pv 4) (aA (pv 3) aE))) (fun _ => rfl)))))) (aJ (bK kI)) bM)))))))), ?_⟩
  rintro Dn s0 s1 s7 s8 s9 s10 a L x R G rs row grp H17 hF f17 nL nR nG q
  try dsimp only [eU, Cx.nox, Cx.wish]
  refine zmE ?_
  intro D0 σ0 U7 U6 U5 U4 U3 U2
  obtain ⟨hG, hSh17, hR17, rR17, rG17, m8, o8, l8, l9⟩ := id hF
  have l6 := hG.len
  have lsl : (rs.map (·.1)).length <= 6 := by rw [List.length_map]; exact l6
  refine ⟨_, rfl, L, rs, rfl, hR17, hG, fun Hs H31 _ y31 hR31 => ?_⟩
  have hG2 := wE hG
  obtain ⟨tz1, hLz1, hTz1⟩ := id (hR31)
  refine ⟨_, rfl, _, _, rfl, .inl (SqL.of hLz1), fun lc hlc y dx hx hdx ndx => ?_⟩
  have y6 : Same H31 (upd (upd (upd H31 lc (.lst (tz1.map V.ref))) dx (.own y)) y (.ins C dx [])) := ((aK hlc).trans (aK hdx)).trans (aK (by rw [aH (Ne.symm ndx)]; exact hx))
  have h6 : upd (upd (upd H31 lc (.lst (tz1.map V.ref))) dx (.own y)) y (.ins C dx []) y = some (.ins C dx []) := aB
  have h6c : upd (upd (upd H31 lc (.lst (tz1.map V.ref))) dx (.own y)) y (.ins C dx []) lc = some (.lst (tz1.map V.ref)) := by
    rw [aH (aF (H := upd H31 lc (.lst (tz1.map V.ref))) aB hx), aH (aF (H := upd H31 lc (.lst (tz1.map V.ref))) aB hdx)]
    exact aB
  have hx5 : H31 y = none := (aK hlc).free hx
  generalize upd (upd (upd H31 lc (.lst (tz1.map V.ref))) dx (.own y)) y (.ins C dx []) = H6 at y6 h6 h6c ⊢
  refine ⟨y, lc, dx, (iY rs), rfl, h6, ⟨tz1, h6c, gH.keep (Same.tk y6) hTz1⟩, hG2, fun H32 hTw x7 => ⟨rfl, ?_⟩⟩
  have y32 : Same H31 H32 := fun b o e => x7 b o (aF e hx5) (y6 _ _ e)
  clear x7 hx5 h6c h6 y6 hx hdx ndx hlc
  have zag := y31.trans y32
  have of2 : Of (iY rs) row := fun l hl => by rw [mS]; exact m8 l hl
  have od2 : OfD (iY rs) grp := fun d hd => sP (o8 d hd)
  refine ⟨_, rfl, _, rfl, _, rfl, y, Hs, R, G, iY rs, row, grp, rfl, hTw, hR31.same y32, hG2, zag _ _ rR17, zag _ _ rG17, of2, od2, l8, l9, fun H33 y33 => ⟨_, rfl, oF ?_⟩⟩
  have zlC := hF.same (zag.trans y33)
  have zic := zag.trans y33
  obtain ⟨ts4, hL4, _⟩ := id zlC.r
  clear hTw hR31 y31 y32 y33 zag of2 od2 hG2
  refine ⟨_, rfl, L, rfl, ⟨_, SqL.of hL4⟩, fun D hD => rJ (K := K) (by omega) hD zlC.r fun H5 x5 hD5 => ?_⟩
  have hF5 := zlC.same x5
  refine ⟨_, rfl, R, rfl, ⟨_, SqL.of hF5.a⟩, fun Sd hSd => zkk (K := K) hD5 hF5.a m8 (by omega) (by omega) hSd fun H34 sh y34 lsh msh k34 => ?_⟩
  have ziW := hF5.same y34
  refine ⟨_, rfl, _, rfl, _, rfl, _, rfl, x, L, Sd, G, rs, sh, grp, rfl, ziW.sh, ziW.r, hG, k34, ziW.b, msh, o8, by omega, l9, fun H35 y35 => ⟨_, rfl, oF ?_⟩⟩
  have zmb := ziW.same y35
  have orv : Of rs row.reverse := fun l hl => m8 l (List.mem_reverse.mp hl)
  have lrv : row.reverse.length <= 60 := by rw [List.length_reverse]; exact l8
  refine ⟨_, rfl, _, rfl, _, rfl, R, _, rfl, SqL.of zmb.a, fun q1 hq1 => ?_⟩
  rw [<- List.map_reverse]
  have y39 : Same H35 (upd H35 q1 (.lst (row.reverse.map V.str))) := aK hq1
  have k39 : upd H35 q1 (.lst (row.reverse.map V.str)) q1 = some (.lst (row.reverse.map V.str)) := aB
  generalize upd H35 q1 (.lst (row.reverse.map V.str)) = H39 at y39 k39 ⊢
  have zjs := zmb.same y39
  refine ⟨_, rfl, x, L, q1, G, rs, row.reverse, grp, rfl, zjs.sh, zjs.r, hG, k39, zjs.b, orv, o8, lrv, l9, fun H41 y41 => ⟨_, rfl, oF ?_⟩⟩
  have zkW := zjs.same y41
  have zki : Same H17 H41 := (zic.trans (x5.trans y34)).trans ((y35.trans y39).trans y41)
  have f41 := Same.flow zki f17
  clear hF5 zlC ziW zmb zjs zic x5 y34 y35 y39 y41 k39 k34 orv lrv
  refine ⟨_, rfl, _, rfl, _, rfl, _, rfl, _, rfl, a, x, L, R, G, rs, row, grp, rfl, f41, zkW.sh, zkW.r, hG, zkW.a, zkW.b, m8, o8, l8, l9, nR, nG, fun H42 x42 f42 => ⟨_, rfl, oF ?_⟩⟩
  have zje := zkW.ext x42 f41 nL nR nG
  refine ⟨_, rfl, _, rfl, _, rfl, _, rfl, x, L, R, G, rs, row, grp, rfl, zje.sh, zje.r, hG, zje.a, zje.b, m8, o8, l8, l9, fun H43 y43 => ⟨_, rfl, oF ?_⟩⟩
  have zpn := zje.same y43
  refine ⟨_, rfl, _, rfl, x, L, rs, rfl, zpn.sh, zpn.r, hG, fun H44 y44 => ⟨_, rfl, oF ?_⟩⟩
  exact q _ _ _ _ ((Same.ext zki).trans (x42.trans (Same.ext (y43.trans y44))))
theorem zdD {cdv : Value} {A : Around} {outer : List Env} {s : Shared} {H : Hp} {E : XK} (hr : iE (k + 1) (A.deeper (envOfC "law" (aD gL) s.heap.objs.size f cdv))) (B : Bt mg) {tr1 : TS} (hR1 : PSs (eU CX0 P w K mg base ["_law_script", "_law_k", "_law_flow_here", "_law_rows", "_law_sharing", "_law_row_here", "_law_group_here", "_law_some", "_law_other", "_law_letters", "_law_shifted"] "law" (aD gL) f cdv A outer s H E).nox (List.drop 6 (oS gL)) tr1) (hT1 : zcm C tr1) (aP : Fn P w K mg base (k + 1) "_law_desks" ["_law_rows"] gO g9 gd9) (aN : Fn P w K mg base (k + 1) "_law_right" ["_law_sharing", "_law_rows", "_law_row_here", "_law_group_here"] (oR K C) gC gdC) :
    ∃ tr, PSs (eU CX0 P w K mg base ["_law_script", "_law_k", "_law_flow_here", "_law_rows", "_law_sharing", "_law_row_here", "_law_group_here", "_law_some", "_law_other", "_law_letters", "_law_shifted"] "law" (aD gL) f cdv A outer s H E).nox (List.drop 5 (oS gL)) tr /\ znD C tr := by
  have nd := uC.nd
  have hs := cK
  refine ⟨_, (aG (fH PassesOwn.never rfl (cS (dP (aA (pv 6) (aA (aL aP.ok hr rfl aP.at_ aP.kp aP.bn .nil bF (aA (pv 3) aE)) (aA (cG fQ (pv 6) dQ (dC aI)) (aA (pv 6) aE)))))) (aO (i := 7) nd rfl (Or.inl rfl)) (aJ (eG (PW.pt (wI (fS (eC (aL aN.ok hr rfl aN.at_ aN.kp aN.bn .nil bF (aA (pv 4) (aA (pv 3) (aA (pv 5) (aA (pv 7) aE))))) (fun _ => rfl))) (pV (fS (eC (aL aN.ok hr rfl aN.at_ aN.kp aN.bn .nil bF (aA (pv 4) (aA (pv 3) (aA (dP aE) (aA (pv 7) aE))))) (fun _ => rfl)))))) (aJ (bK kI)) bM)))
    hR1), ?_⟩
  rintro Dn s0 s1 s7 s8 s9 s10 a L x R G rs row grp H1 hF f1 nL nR nG q
  try dsimp only [eU, Cx.nox, Cx.wish]
  refine b8 ?_
  intro D0 σ0 U2
  obtain ⟨hG, hSh, hR, rR, rG, m8, o8, l8, l9⟩ := id hF
  have l6 := hG.len
  refine ⟨_, rfl, _, rfl, L, rs, rfl, hR, by omega, fun r hr' => ⟨by have := (hG.row r hr').2.1; omega, (hG.row r hr').2.2⟩, fun e ds H2 _ dn _ dm he x2 ke => ?_⟩
  have d4 := tG hG dn dm
  have hF2 := hF.same x2
  refine ⟨_, rfl, 1, rfl, G, _, rfl, SqL.of hF2.b, fun p hp => ⟨_, rfl, jW (show 4 <= 1000 by decide), ?_⟩⟩
  rw [iF, show zbx grp none (some 1) = grp.take 1 from sE grp 1]
  have x3 : Same H2 (upd H2 p (.lst ((grp.take 1).map V.str))) := aK hp
  have k3 : upd H2 p (.lst ((grp.take 1).map V.str)) p = some (.lst ((grp.take 1).map V.str)) := aB
  generalize upd H2 p (.lst ((grp.take 1).map V.str)) = H3 at x3 k3 ⊢
  intro t ht
  have x4 : Same H3 (upd H3 t (.lst [.ref G, .ref e, .ref p, .ref G])) := aK ht
  have k4 : upd H3 t (.lst [.ref G, .ref e, .ref p, .ref G]) t = some (.lst [.ref G, .ref e, .ref p, .ref G]) := aB
  generalize upd H3 t (.lst [.ref G, .ref e, .ref p, .ref G]) = H4 at x4 k4 ⊢
  have hF4 := (hF2.same x3).same x4
  have zpI : ∀ y ∈ [V.ref G, .ref e, .ref p, .ref G], ∃ (b : Addr) (zs : List Str), y = .ref b /\ H4 b = some (.lst (zs.map V.str)) /\ OfD rs zs /\ zs.length <= 10 := by
    have hg : ∃ (b : Addr) (zs : List Str), V.ref G = .ref b /\ H4 b = some (.lst (zs.map V.str)) /\ OfD rs zs /\ zs.length <= 10 := ⟨G, grp, rfl, hF4.b, o8, l9⟩
    intro y hy
    rcases List.mem_cons.mp hy with rfl | hy
    . exact hg
    rcases List.mem_cons.mp hy with rfl | hy
    . exact ⟨e, ds, rfl, (x3.trans x4) _ _ ke, fun d hd => let ⟨r, a1, b1⟩ := (dm d).mp hd; List.mem_flatMap.mpr ⟨r, a1, b1⟩, by omega⟩
    rcases List.mem_cons.mp hy with rfl | hy
    . exact ⟨p, _, rfl, x4 _ _ k3, fun d hd => o8 d (List.mem_of_mem_take hd), by rw [List.length_take]; omega⟩
    . rw [List.mem_singleton.mp hy]; exact hg
  have y14 : Same H1 H4 := x2.trans (x3.trans x4)
  clear hF2 x2 x3 x4 k3 ke dm dn d4 hp ht he
  refine ⟨t, rfl, ⟨_, SqL.of k4⟩, gU (xs := [V.ref G, .ref e, .ref p, .ref G]) (fun i σ H' => ∃ v7 : Option V, σ = [s0, s1, some (.ref a), some (.ref L), some (.ref x), some (.ref R), some (.ref G), v7, s8, s9, s10] /\ Same H4 H') ?_ ?_ ?_ ?_⟩
  . exact ⟨_, rfl, Same.refl _⟩
  . rintro i σ H5 _ ⟨v7, _, y5⟩
    exact SqL.of (y5 _ _ k4)
  . rintro i y σ H5 hy ⟨v7, rfl, y5⟩
    obtain ⟨b, zs, rfl, kb, oz, lz⟩ := zpI y (List.mem_of_getElem? hy)
    have hF5 := hF4.same y5
    refine ⟨_, rfl, _, rfl, _, rfl, _, rfl, x, L, R, b, rs, row, zs, rfl, hF5.sh, hF5.r, hG, hF5.a, y5 _ _ kb, m8, oz, l8, lz, fun H6 y6 => ⟨_, rfl, oF ?_⟩⟩
    refine ⟨_, rfl, _, rfl, Nat.zero_le _, fun e1 he1 => ?_⟩
    have y7 : Same H6 (upd H6 e1 (.lst [])) := aK he1
    have k7 : upd H6 e1 (.lst []) e1 = some (.lst []) := aB
    generalize upd H6 e1 (.lst []) = H7 at y7 k7 ⊢
    have y47 := (y5.trans y6).trans y7
    have hF7 := hF4.same y47
    refine ⟨_, rfl, x, L, e1, b, rs, [], zs, rfl, hF7.sh, hF7.r, hG, k7, y47 _ _ kb, (by intro _ z; cases z), oz, Nat.zero_le _, lz, fun H8 y8 => ⟨_, rfl, oF ?_⟩⟩
    exact ⟨_, rfl, y47.trans y8⟩
  . rintro σ H5 ⟨v7, rfl, y5⟩
    exact hT1 Dn s0 s1 _ _ _ _ a L x R G rs row grp H5 (hF4.same y5) (Same.flow (y14.trans y5) f1) nL nR nG fun v8 v9 v10 H' x' => q _ _ _ _ _ ((Same.ext (y14.trans y5)).trans x')
set_option maxHeartbeats 40000000 in
theorem zjL (F : Fun K "law" "law" gL f fd) (B : Bt mg) (bZ : qJ P w K mg base k C g4 gd4) (hJ : Fn P w K mg base (k + 1) "_law_flow" ["_law_script", "_law_k"] (zbC K) g gd) (aC : Fn P w K mg base (k + 1) "_law_draw" ["_law_flow_here", "_law_many"] fW g2 gd2) (fK : Fn P w K mg base (k + 1) "_law_houses" ["_law_flow_here", "_law_count"] zbN g3 gd3) (iW : Fn P w K mg base (k + 1) "_law_row" ["_law_flow_here", "_law_letters", "_law_most"] (zfW K) g5 gd5) (aP : Fn P w K mg base (k + 1) "_law_desks" ["_law_rows"] gO g9 gd9) (fY : Fn P w K mg base (k + 1) "_law_group" ["_law_flow_here", "_law_desks_here"] zN gA gdA) (bY : Fn P w K mg base (k + 1) "_law_next_desks" ["_law_rows"] zC gB gdB) (aN : Fn P w K mg base (k + 1) "_law_right" ["_law_sharing", "_law_rows", "_law_row_here", "_law_group_here"] (oR K C) gC gdC) (cY : Fn P w K mg base (k + 1) "_law_refused" ["_law_flow_here", "_law_sharing", "_law_rows", "_law_row_here", "_law_group_here"] (mJ C) g8 gd8) (eF : Fn P w K mg base (k + 1) "_law_stays" ["_law_sharing", "_law_rows"] (tD C) gD gdD) : FnOk P w K mg base CX0 (k + 2) f fd ["_law_script"] (zbz K) := by
  refine F.ok uC (fun vs H Q E h => ?_) (fun cdv A outer s H vs Q E hr h => ?_)
  . obtain ⟨a, ns, rfl, _⟩ := h
    rfl
  obtain ⟨z, ns, rfl, hS, h63, q⟩ := h
  have nd := uC.nd
  have hs := cK
  obtain ⟨tr1, hR1, hT1⟩ := zaE (cdv := cdv) (A := A) (outer := outer) (s := s) (H := H) (E := E) hr B bZ bY aN cY eF
  obtain ⟨tr2, hR2, hT2⟩ := zdD hr B hR1 hT1 aP aN
  refine ⟨_, (aG (fH PassesOwn.never rfl (dG rfl B.range_ (aA (aT (yV rfl) rfl B.max_ (by decide +kernel) (aA aI (aA (aT bL rfl B.len_ PySem.boot_len (aA (cG fQ (pv 0) dQ (dC aI)) aE)) aE))) aE)) (aO (i := 1) nd rfl (Or.inl rfl)) (aG (aS (i := 2) nd rfl (Or.inl rfl) (aL hJ.ok hr rfl hJ.at_ hJ.kp hJ.bn .nil bF (aA (pv 0) (aA (pv 1) aE)))) (aG (aS (i := 3) nd rfl (Or.inl rfl) (aL fK.ok hr rfl fK.at_ fK.kp fK.bn .nil bF (aA (pv 2) (aA (aW cO aI (aL aC.ok hr rfl aC.at_ aC.kp aC.bn .nil bF (aA (pv 2) (aA aI aE)))) aE)))) (aG (aS (i := 4) nd rfl (Or.inl rfl) (yG bZ.mak bZ.ok hr rfl bZ.at_ bZ.bn .nil bF (aA (cF cE rfl B.list_ (by decide +kernel) (aA (pv 3) aE)) aE))) (aG (aS (i := 5) nd rfl (Or.inl rfl) (aL iW.ok hr rfl iW.at_ iW.kp iW.bn .nil bF (aA (pv 2) (aA (dI (g := (sH K 2 (eK (aZ 0) (eK (aZ 1) sI)))) (tc := gG) (te := (bD 0)) (own := ["_law_letter", "_law_some"]) (fr := ([] : List Str)) (idx := []) rfl (by show aR _ _ _ (aD gL); exact ⟨rfl, by decide +kernel, by decide +kernel, by decide +kernel, by decide +kernel, by decide +kernel, by decide +kernel⟩) (cS (pv 3)) (fun _ _ _ _ _ => (fO rfl (aX (aO (i := 0) (by show List.Nodup (["_law_letter", "_law_some"] : List Str); decide +kernel) rfl (Or.inl rfl) (Or.inr rfl)) (aX (aO (i := 1) (by show List.Nodup (["_law_letter", "_law_some"] : List Str); decide +kernel) rfl (Or.inl rfl) (Or.inr rfl)) dX)))) (fun _ _ _ _ _ => bT) (fun _ _ _ _ _ => (pv 0)) rfl (cV rfl)) (aA aI aE))))) (aG (aS (i := 6) nd rfl (Or.inl rfl) (aL fY.ok hr rfl fY.at_ fY.kp fY.bn .nil bF (aA (pv 2) (aA (aL aP.ok hr rfl aP.at_ aP.kp aP.bn .nil bF (aA (pv 3) aE)) aE))))
    hR2)))))) (aJ (bK kI))), ?_⟩
  refine ⟨_, rfl, 3, rfl, z, _, rfl, hS, fun p hp => ⟨p, _, rfl, .inl (SqL.of aB), ?_⟩⟩
  have hl := lZ (ns.map V.int) none (some 3)
  rw [List.length_map] at hl
  generalize zcW (ns.map V.int) none (some 3) = LL at hl ⊢
  refine ⟨1, (LL.length : Int), rfl, _, rfl, by split <;> omega, by split <;> omega, mQ (n := (if (LL.length : Int) > 1 then (LL.length : Int) else 1).toNat) (fun i σ H' => ∃ v1 v2 v3 v4 v5 v6 v7 v8 v9 v10 : Option V, σ = [some (.ref z), v1, v2, v3, v4, v5, v6, v7, v8, v9, v10] /\ SqL K H' z (ns.map V.int)) ?_ ?_ ?_⟩
  . exact ⟨_, _, _, _, _, _, _, _, _, _, rfl, (aK hp).seq hS⟩
  . rintro i σ H0 hi ⟨v1, v2, v3, v4, v5, v6, v7, v8, v9, v10, rfl, hS0⟩
    refine znG ?_
    intro D1 σ1 W6 W5 W4 W3 W2
    have hi' : i <= 64 := by
      have h1 : (if (LL.length : Int) > 1 then (LL.length : Int) else 1) <= 64 := by split <;> omega
      omega
    refine ⟨_, rfl, _, rfl, z, ns, _, rfl, hS0, h63, by omega, by omega, fun a o2 ha hF => ?_⟩
    have scr : ∀ H', Ext a (upd H0 a o2) H' -> SqL K H' z (ns.map V.int) := fun H' x => by
      rcases hS0 with (h | ⟨o, h⟩) | h
      . exact .inl (.inl (x _ _ (aF h ha) (by rw [aH (aF h ha)]; exact h)))
      . exact .inl (.inr ⟨o, x _ _ (aF h ha) (by rw [aH (aF h ha)]; exact h)⟩)
      . exact .inr h
    generalize upd H0 a o2 = H1 at hF scr ⊢
    refine ⟨_, rfl, _, rfl, a, 4, rfl, hF, by decide, by decide, fun r2 H2 r20 r21 f2 x2 => ⟨_, _, rfl, rfl, a, _, rfl, f2, by omega, by omega, fun L rs H3 hG nL _ f3 x3 hR3 => ?_⟩⟩
    have x13 : Ext a H1 H3 := x2.trans x3
    have l6 := hG.len
    have rpos := List.length_pos_iff.mpr hG.ne
    obtain ⟨tz0, hLz0, hTz0⟩ := id (hR3)
    refine ⟨_, rfl, _, _, rfl, .inl (SqL.of hLz0), fun lc hlc x dx hx hdx ndx => ?_⟩
    have y6 : Same H3 (upd (upd (upd H3 lc (.lst (tz0.map V.ref))) dx (.own x)) x (.ins C dx [])) := ((aK hlc).trans (aK hdx)).trans (aK (by rw [aH (Ne.symm ndx)]; exact hx))
    have h6 : upd (upd (upd H3 lc (.lst (tz0.map V.ref))) dx (.own x)) x (.ins C dx []) x = some (.ins C dx []) := aB
    have h6c : upd (upd (upd H3 lc (.lst (tz0.map V.ref))) dx (.own x)) x (.ins C dx []) lc = some (.lst (tz0.map V.ref)) := by
      rw [aH (aF (H := upd H3 lc (.lst (tz0.map V.ref))) aB hx), aH (aF (H := upd H3 lc (.lst (tz0.map V.ref))) aB hdx)]
      exact aB
    have hx5 : H3 x = none := (aK hlc).free hx
    generalize upd (upd (upd H3 lc (.lst (tz0.map V.ref))) dx (.own x)) x (.ins C dx []) = H6 at y6 h6 h6c ⊢
    refine ⟨x, lc, dx, rs, rfl, h6, ⟨tz0, h6c, gH.keep (Same.tk y6) hTz0⟩, hG, fun H4 hSh4 x7 => ⟨rfl, ?_⟩⟩
    have y4 : Same H3 H4 := fun b o e => x7 b o (aF e hx5) (y6 _ _ e)
    clear x7 hx5 h6c h6 y6 hx hdx ndx hlc
    have hR4 := hR3.same y4
    obtain ⟨ts4, hL4, _⟩ := id hR4
    refine ⟨_, rfl, _, rfl, L, rfl, ⟨_, SqL.of hL4⟩, fun D hD => rJ (K := K) (by omega) hD hR4 fun H5 x5 hD5 => ?_⟩
    have f5 := Same.flow (y4.trans x5) f3
    have nDa : D ≠ a := dB hD (Same.flow y4 f3)
    have hR5 := hR4.same x5
    have zpG := hSh4.same x5
    have x15 : Ext a H1 H5 := x13.trans (Same.ext (y4.trans x5))
    have lsn : rs.map (·.1) ≠ [] := fun e => hG.ne (List.map_eq_nil_iff.mp e)
    have lsl : (rs.map (·.1)).length <= 6 := by rw [List.length_map]; exact l6
    clear x13 hD hR4 hL4 hR3 hSh4 y4 x5 x2 x3 f2 f3 hF
    refine ⟨a, D, rs.map (·.1), 16, rfl, f5, hD5, nDa, lsn, by omega, by decide, by decide, fun R row H8 l8 m8 nR _ f8 x8 hR8 => ?_⟩
    have rR8 := hR5.ext x8 f5 nL
    have zpy := mZ.ext zpG x8 f5
    refine ⟨_, rfl, _, rfl, L, rs, rfl, rR8, by omega, fun r hr' => ⟨by have := (hG.row r hr').2.1; omega, (hG.row r hr').2.2⟩, fun e ds H9 _ dn _ dm he x9 ke => ?_⟩
    have d4 := tG hG dn dm
    have f9 := Same.flow x9 f8
    have dne : ds ≠ [] := by
      obtain ⟨r, hr'⟩ := List.exists_mem_of_ne_nil _ hG.ne
      obtain ⟨d, hd⟩ := List.exists_mem_of_ne_nil _ (hG.row r hr').1
      exact List.ne_nil_of_mem ((dm d).mpr ⟨r, hr', hd⟩)
    refine ⟨a, e, ds, rfl, f9, ke, dB he f8, dne, by omega, fun G grp H10 g1 g8 gm nG _ f10 x10 kG => ?_⟩
    have ob : OfD rs grp := fun d hd => let ⟨r, a1, b1⟩ := (dm d).mp (gm d hd); List.mem_flatMap.mpr ⟨r, a1, b1⟩
    have zlE : Ext a H8 H10 := (Same.ext x9).trans x10
    exact hT2 _ _ _ _ _ _ _ a L x R G rs row grp H10 ⟨hG, mZ.ext zpy zlE f8, rR8.ext zlE f8 nL, zlE _ _ nR hR8, kG, m8, ob, l8, by omega⟩ f10 nL nR nG fun _ _ _ _ H' x' => ⟨_, _, _, _, _, _, _, _, _, _, rfl, scr _ (((x15.trans x8).trans zlE).trans x')⟩
  . rintro σ H0 ⟨v1, v2, v3, v4, v5, v6, v7, v8, v9, v10, rfl, _⟩
    exact q H0
end
end KK
namespace KK
open PySem L2 PyProof.Rows
abbrev dM : Stmt := oY (top 3) 0
abbrev eL : Stmt := oY (top 4) 0
def cs2 (c4 c5 : Addr) (i : Nat) : Addr := if i = 4 then c4 else c5
theorem uW (K : W.Frag) (t : Value) : W.kitOne K t t = some true := by
  unfold W.kitOne
  rw [if_pos (by simp)]
set_option maxHeartbeats 40000000 in
theorem all_mk {l : W.OpenLaw} {w : World} {K : W.Frag} {h : Heap} {mg : Str -> Option Value} {fa : Addr} (X : K.In h) (G : h.Ns mainGlobals mg) (hfa : mg "law" = some (.ref fa))
    {zad : Addr} {zeF zek : Option Addr} {zdl : Array (Option Value)} {zeo zdo zeJ zdC q4 zdw : Value}
    {zH : Addr} {zdx zeh : Option Addr} {zds : Array (Option Value)} {zdX zfb zeU zdE xV zcM : Value}
    {d8 : Addr} {zeG zdg : Option Addr} {zdu : Array (Option Value)} {zdR zdH zcS zej xX zeP : Value}
    {zdt : Addr} {zgb zhF : Option Addr} {ziE : Array (Option Value)} {zlu zii zjM zfG zco zgA : Value}
    {zez : Addr} {zgs ziV : Option Addr} {zlp : Array (Option Value)} {zjE zfS ziN zgv zbK zjf : Value}
    {zdI : Addr} {zjl zlg : Option Addr} {kR : Array (Option Value)} {zjU zib zgp ziu zcJ zhC : Value}
    {zfa : Addr} {zhU zhd : Option Addr} {zfR : Array (Option Value)} {zfH zgm zfB zgx zbH ziT : Value}
    {zcL : Addr} {zkV zgt : Option Addr} {zgf : Array (Option Value)} {zfj zlc ziA zla zcf ziK : Value}
    {zfc : Addr} {zjG zhD : Option Addr} {zkt : Array (Option Value)} {zhk zfK zff zfC zcl zfl : Value}
    {zcZ : Addr} {zkg zkI : Option Addr} {zgE : Array (Option Value)} {ziC zkq zfU zkY zce zlm : Value}
    {zdO : Addr} {zij zhg : Option Addr} {zgj : Array (Option Value)} {zhL zia zge ziY zbY zfy : Value}
    {zeZ : Addr} {ziF zhA : Option Addr} {zlf : Array (Option Value)} {zgU zjk zhP zku zcw zjy : Value}
    {zef : Addr} {ziH zkp : Option Addr} {zlo : Array (Option Value)} {zjS zfT zjz zjV zck zgI : Value}
    {zee : Addr} {zjW zfN : Option Addr} {zjX : Array (Option Value)} {zkD zir zjN zfF zcg zhc : Value}
    {zcX : Addr} {ziZ zhS : Option Addr} {zjC : Array (Option Value)} {ziy zgi zgc ziL zcq zgZ : Value}
    {zdK : Addr} {zgo zfJ : Option Addr} {zjj : Array (Option Value)} {zka zln ziX ziw zcB zfg : Value}
    {zdW : Addr} {zjt zbU : Option Addr} {zkr : Array (Option Value)} {zfk zct zcj zch zR zcu : Value}
    {zdy : Addr} {zll zjw : Option Addr} {zid : Array (Option Value)} {zhq zlk zhi zfi zcA zim : Value}
    {zel : Addr} {zgV zky : Option Addr} {zis : Array (Option Value)} {zgB zgz zld zfs zbS zhm : Value}
    {zev : Addr} {zkT zkO : Option Addr} {zio : Array (Option Value)} {zhv zkL zgL zli zbV zhX : Value}
    {zdd : Addr} {zkJ zhG : Option Addr} {zkx : Array (Option Value)} {zhj zgr zgM zkS zbR zfX : Value}
    {zdY : Addr} {zkv zjO : Option Addr} {zgD : Array (Option Value)} {zhw zkd zkR zhh zbJ zlv : Value}
    {zec : Addr} {zig ziz : Option Addr} {zhl : Array (Option Value)} {zgN zko zlw zhb zcF zjx : Value}
    {zet : Addr} {zfD zkH : Option Addr} {zfx : Array (Option Value)} {zit zik zjK zhr zcc zif : Value}
    {C_Sharing : Addr}
    {yL : Addr} {zja zkF : Option Addr} {zgg : Array (Option Value)} {zjP zfv zkG ziS zcD zgY : Value}
    {xZ : Addr} {zfm zgQ : Option Addr} {zkw : Array (Option Value)} {zjp zgR zfA zhu zbM zlq : Value}
    {cM : Addr} {nmM quM : Str} {NM : Addr} {bsM subM : List Value} {snM : List Str} {abM : Bool} {colM : Option Bool} {ddM : Option Addr} {uM vM wM xM yM : Option Value}
    {cT : Addr} {nmT quT : Str} {NT : Addr} {bsT subT : List Value} {snT : List Str} {abT : Bool} {colT : Option Bool} {ddT : Option Addr} {uT vT wT xT yT : Option Value} {gT : Addr} {ocdT : ClassData}
    {zmF znL : Option Addr} {zmw : Array (Option Value)} {zmL zmR znO zms zfn zlW : Value}
    {cD : Addr} {nmD quD : Str} {ND : Addr} {bsD subD : List Value} {snD : List Str} {abD : Bool} {colD : Option Bool} {ddD : Option Addr} {uD vD wD xD yD : Option Value} {gD : Addr} {ocdD : ClassData}
    {znj zoM : Option Addr} {zmk : Array (Option Value)} {znn zoH zmu znH zhO zmZ : Value}
    (zjA : W.nsIn K mainGlobals "_law_cell" = some (some (.ref zad)))
    (zhH : K.lookup zad = some ⟨zeo, zeF, .func (W.fnOf "_law_cell" "_law_cell" (bC wP) (aV wP) (aD wP) .none zdo zeJ zdC zek q4 zdw), zdl⟩)
    (zjB : W.codeIn K q4 "_law_cell" = true)
    (zcp : W.keepIn K (.ref zad) = true)
    (zgG : W.nsIn K mainGlobals "_law_flow" = some (some (.ref zH)))
    (ziJ : K.lookup zH = some ⟨zdX, zdx, .func (W.fnOf "_law_flow" "_law_flow" (bC wS) (aV wS) (aD wS) .none zfb zeU zdE zeh xV zcM), zds⟩)
    (zhT : W.codeIn K xV "_law_flow" = true)
    (zcH : W.keepIn K (.ref zH) = true)
    (uV : W.nsIn K mainGlobals "_law_draw" = some (some (.ref d8)))
    (ziB : K.lookup d8 = some ⟨zdR, zeG, .func (W.fnOf "_law_draw" "_law_draw" (bC xL) (aV xL) (aD xL) .none zdH zcS zej zdg xX zeP), zdu⟩)
    (zkB : W.codeIn K xX "_law_draw" = true)
    (qQ : W.keepIn K (.ref d8) = true)
    (zlY : W.nsIn K mainGlobals "_law_names" = some (some (.ref zdt)))
    (zmC : K.lookup zdt = some ⟨zlu, zgb, .func (W.fnOf "_law_names" "_law_names" (bC jB) (aV jB) (aD jB) .none zii zjM zfG zhF zco zgA), ziE⟩)
    (zmg : W.codeIn K zco "_law_names" = true)
    (zjn : W.keepIn K (.ref zdt) = true)
    (zmo : W.nsIn K mainGlobals "_law_houses" = some (some (.ref zez)))
    (zml : K.lookup zez = some ⟨zjE, zgs, .func (W.fnOf "_law_houses" "_law_houses" (bC dH) (aV dH) (aD dH) .none zfS ziN zgv ziV zbK zjf), zlp⟩)
    (znU : W.codeIn K zbK "_law_houses" = true)
    (zkU : W.keepIn K (.ref zez) = true)
    (zoL : W.nsIn K mainGlobals "_law_strange" = some (some (.ref zdI)))
    (zlO : K.lookup zdI = some ⟨zjU, zjl, .func (W.fnOf "_law_strange" "_law_strange" (bC dO) (aV dO) (aD dO) .none zib zgp ziu zlg zcJ zhC), kR⟩)
    (znq : W.codeIn K zcJ "_law_strange" = true)
    (zfh : W.keepIn K (.ref zdI) = true)
    (zmi : W.nsIn K mainGlobals "_law_row" = some (some (.ref zfa)))
    (zoF : K.lookup zfa = some ⟨zfH, zhU, .func (W.fnOf "_law_row" "_law_row" (bC fP) (aV fP) (aD fP) .none zgm zfB zgx zhd zbH ziT), zfR⟩)
    (zob : W.codeIn K zbH "_law_row" = true)
    (zgF : W.keepIn K (.ref zfa) = true)
    (zoK : W.nsIn K mainGlobals "_law_group" = some (some (.ref zcL)))
    (zlK : K.lookup zcL = some ⟨zfj, zkV, .func (W.fnOf "_law_group" "_law_group" (bC eB) (aV eB) (aD eB) .none zlc ziA zla zgt zcf ziK), zgf⟩)
    (zmy : W.codeIn K zcf "_law_group" = true)
    (zgu : W.keepIn K (.ref zcL) = true)
    (zeW : W.nsIn K mainGlobals "_law_desks" = some (some (.ref zfc)))
    (zoJ : K.lookup zfc = some ⟨zhk, zjG, .func (W.fnOf "_law_desks" "_law_desks" (bC dY) (aV dY) (aD dY) .none zfK zff zfC zhD zcl zfl), zkt⟩)
    (zlP : W.codeIn K zcl "_law_desks" = true)
    (zbr : W.keepIn K (.ref zfc) = true)
    (znQ : W.nsIn K mainGlobals "_law_under" = some (some (.ref zcZ)))
    (zoP : K.lookup zcZ = some ⟨ziC, zkg, .func (W.fnOf "_law_under" "_law_under" (bC eY) (aV eY) (aD eY) .none zkq zfU zkY zkI zce zlm), zgE⟩)
    (zoo : W.codeIn K zce "_law_under" = true)
    (zjJ : W.keepIn K (.ref zcZ) = true)
    (znl : W.nsIn K mainGlobals "_law_refusal" = some (some (.ref zdO)))
    (zoa : K.lookup zdO = some ⟨zhL, zij, .func (W.fnOf "_law_refusal" "_law_refusal" (bC cR) (aV cR) (aD cR) .none zia zge ziY zhg zbY zfy), zgj⟩)
    (zoA : W.codeIn K zbY "_law_refusal" = true)
    (zhM : W.keepIn K (.ref zdO) = true)
    (znS : W.nsIn K mainGlobals "_law_told" = some (some (.ref zeZ)))
    (zlG : K.lookup zeZ = some ⟨zgU, ziF, .func (W.fnOf "_law_told" "_law_told" (bC eW) (aV eW) (aD eW) .none zjk zhP zku zhA zcw zjy), zlf⟩)
    (zmY : W.codeIn K zcw "_law_told" = true)
    (zjR : W.keepIn K (.ref zeZ) = true)
    (zlT : W.nsIn K mainGlobals "_law_right" = some (some (.ref zef)))
    (zoD : K.lookup zef = some ⟨zjS, ziH, .func (W.fnOf "_law_right" "_law_right" (bC dJ) (aV dJ) (aD dJ) .none zfT zjz zjV zkp zck zgI), zlo⟩)
    (znr : W.codeIn K zck "_law_right" = true)
    (zle : W.keepIn K (.ref zef) = true)
    (zox : W.nsIn K mainGlobals "_law_refused" = some (some (.ref zee)))
    (zmp : K.lookup zee = some ⟨zkD, zjW, .func (W.fnOf "_law_refused" "_law_refused" (bC aU) (aV aU) (aD aU) .none zir zjN zfF zfN zcg zhc), zjX⟩)
    (zod : W.codeIn K zcg "_law_refused" = true)
    (ziP : W.keepIn K (.ref zee) = true)
    (zov : W.nsIn K mainGlobals "_law_stays" = some (some (.ref zcX)))
    (znK : K.lookup zcX = some ⟨ziy, ziZ, .func (W.fnOf "_law_stays" "_law_stays" (bC dL) (aV dL) (aD dL) .none zgi zgc ziL zhS zcq zgZ), zjC⟩)
    (zlH : W.codeIn K zcq "_law_stays" = true)
    (zhf : W.keepIn K (.ref zcX) = true)
    (zoz : W.nsIn K mainGlobals "_law_next_desks" = some (some (.ref zdK)))
    (zmr : K.lookup zdK = some ⟨zka, zgo, .func (W.fnOf "_law_next_desks" "_law_next_desks" (bC bR) (aV bR) (aD bR) .none zln ziX ziw zfJ zcB zfg), zjj⟩)
    (zoe : W.codeIn K zcB "_law_next_desks" = true)
    (zlt : W.keepIn K (.ref zdK) = true)
    (zma : W.nsIn K mainGlobals "law" = some (some (.ref zdW)))
    (zoy : K.lookup zdW = some ⟨zfk, zjt, .func (W.fnOf "law" "law" (bC gL) (aV gL) (aD gL) .none zct zcj zch zbU zR zcu), zkr⟩)
    (zoQ : W.codeIn K zR "law" = true)
    (zny : W.keepIn K (.ref zdW) = true)
    (zeR : W.nsIn K mainGlobals "rising" = some (some (.ref zdy)))
    (zmq : K.lookup zdy = some ⟨zhq, zll, .func (W.fnOf "rising" "rising" (bC iX) (aV iX) (aD iX) .none zlk zhi zfi zjw zcA zim), zid⟩)
    (zme : W.codeIn K zcA "rising" = true)
    (zaO : W.keepIn K (.ref zdy) = true)
    (zog : W.nsIn K mainGlobals "refuse_twice" = some (some (.ref zel)))
    (zlR : K.lookup zel = some ⟨zgB, zgV, .func (W.fnOf "refuse_twice" "refuse_twice" (bC cZ) (aV cZ) (aD cZ) .none zgz zld zfs zky zbS zhm), zis⟩)
    (zoj : W.codeIn K zbS "refuse_twice" = true)
    (zhs : W.keepIn K (.ref zel) = true)
    (zoG : W.nsIn K mainGlobals "refuse_rows" = some (some (.ref zev)))
    (znX : K.lookup zev = some ⟨zhv, zkT, .func (W.fnOf "refuse_rows" "refuse_rows" (bC dN) (aV dN) (aD dN) .none zkL zgL zli zkO zbV zhX), zio⟩)
    (zor : W.codeIn K zbV "refuse_rows" = true)
    (zfu : W.keepIn K (.ref zev) = true)
    (znd : W.nsIn K mainGlobals "refuse_letters" = some (some (.ref zdd)))
    (znJ : K.lookup zdd = some ⟨zhj, zkJ, .func (W.fnOf "refuse_letters" "refuse_letters" (bC cC) (aV cC) (aD cC) .none zgr zgM zkS zhG zbR zfX), zkx⟩)
    (zna : W.codeIn K zbR "refuse_letters" = true)
    (zhN : W.keepIn K (.ref zdd) = true)
    (zno : W.nsIn K mainGlobals "refuse_desks" = some (some (.ref zdY)))
    (znw : K.lookup zdY = some ⟨zhw, zkv, .func (W.fnOf "refuse_desks" "refuse_desks" (bC cX) (aV cX) (aD cX) .none zkd zkR zhh zjO zbJ zlv), zgD⟩)
    (znu : W.codeIn K zbJ "refuse_desks" = true)
    (zhK : W.keepIn K (.ref zdY) = true)
    (zlN : W.nsIn K mainGlobals "history_of" = some (some (.ref zec)))
    (zmS : K.lookup zec = some ⟨zgN, zig, .func (W.fnOf "history_of" "history_of" (bC cN) (aV cN) (aD cN) .none zko zlw zhb ziz zcF zjx), zhl⟩)
    (znT : W.codeIn K zcF "history_of" = true)
    (zhp : W.keepIn K (.ref zec) = true)
    (zmz : W.nsIn K mainGlobals "known" = some (some (.ref zet)))
    (znc : K.lookup zet = some ⟨zit, zfD, .func (W.fnOf "known" "known" (bC gX) (aV gX) (aD gX) .none zik zjK zhr zkH zcc zif), zfx⟩)
    (zlU : W.codeIn K zcc "known" = true)
    (zgl : W.keepIn K (.ref zet) = true)
    (wO : W.nsIn K mainGlobals "Sharing" = some (some (.ref C_Sharing)))
    (wL : W.makesIn K C_Sharing = true)
    (vY : W.keepIn K (.ref C_Sharing) = true)
    (vF : W.plainGet K C_Sharing Str.empty = true)
    (wU : W.hasDictIn K C_Sharing = true)
    (vV : W.plainOver K C_Sharing = true)
    (vZ : W.findIn K (.ref C_Sharing) "__setattr__" = some (some (.builtin "object.__setattr__")))
    (jL : W.findIn K (.ref C_Sharing) "letters" = some none)
    (lB : W.findIn K (.ref C_Sharing) "desks" = some none)
    (jG : W.findIn K (.ref C_Sharing) "desks_at" = some none)
    (zjZ : W.findIn K (.ref C_Sharing) "__init__" = some (some (.ref yL)))
    (zjm : W.isFn K (.ref yL) = true)
    (zoC : K.lookup yL = some ⟨zjP, zja, .func (W.fnOf "__init__" "Sharing.__init__" (bC bJ) (aV bJ) (aD bJ) .none zfv zkG ziS zkF zcD zgY), zgg⟩)
    (zmh : W.codeIn K zcD "Sharing.__init__" = true)
    (znb : W.keepIn K (.ref yL) = true)
    (zhz : W.findIn K (.ref C_Sharing) "meet" = some (some (.ref xZ)))
    (zih : W.isFn K (.ref xZ) = true)
    (zoR : K.lookup xZ = some ⟨zjp, zfm, .func (W.fnOf "meet" "Sharing.meet" (bC cW) (aV cW) (aD cW) .none zgR zfA zhu zgQ zbM zlq), zkw⟩)
    (zmc : W.codeIn K zbM "Sharing.meet" = true)
    (zlr : W.keepIn K (.ref xZ) = true)
    (aM : W.nsIn K mainGlobals "MeetError" = some (some (.ref cM)))
    (cbM : K.lookup cM = some (excClassObj nmM quM cM NM bsM fU true snM subM abM colM ddM uM vM wM xM yM "ValueError.__new__"))
    (kg : W.specialIn K (.builtin "object.__class__") "__get__" = some (some (.builtin "getset_descriptor.__get__")))
    (kt : W.takesIn K (.builtin "object.__class__") = some true)
    (caT : W.nsIn K mainGlobals "NoLetter" = some (some (.ref cT)))
    (cbT : K.lookup cT = some (excClassObj nmT quT cT NT bsT (.ref cM :: fU) true snT subT abT colT ddT uT vT wT xT yT "ValueError.__new__"))
    (ccT : W.findIn K (.ref cT) "__getattribute__" = some (some (.builtin "BaseException.__getattribute__")))
    (cxT : W.findIn K (.ref cT) "__getattr__" = some none)
    (cdT : W.hasDictIn K cT = true)
    (ceT : W.findIn K (.ref cT) "__setattr__" = some (some (.builtin "object.__setattr__")))
    (cfT : W.findIn K (.ref cT) "__class__" = some (some (.builtin "object.__class__")))
    (cgT : W.mroIn K cT (.type "object") = some true)
    (chT : W.keepIn K (.ref cT) = true)
    (gaT : W.findIn K (.ref cT) "__init__" = some (some (.ref gT)))
    (gbT : W.isFn K (.ref gT) = true)
    (zpU : K.lookup gT = some ⟨zmL, zmF, .func (W.fnOf "__init__" "NoLetter.__init__" (bC dM) (aV dM) (aD dM) .none zmR znO zms znL zfn zlW), zmw⟩)
    (zqf : W.codeIn K zfn "NoLetter.__init__" = true)
    (zqe : W.keepIn K (.ref gT) = true)
    (hnT : W.findIn K (.ref cT) "letter" = some none)
    (otT : W.typeIn K (.ref cT) = some (.type "type"))
    (olT : W.clsIn K cT = some ocdT)
    (caD : W.nsIn K mainGlobals "NoDesk" = some (some (.ref cD)))
    (cbD : K.lookup cD = some (excClassObj nmD quD cD ND bsD (.ref cM :: fU) true snD subD abD colD ddD uD vD wD xD yD "ValueError.__new__"))
    (ccD : W.findIn K (.ref cD) "__getattribute__" = some (some (.builtin "BaseException.__getattribute__")))
    (cxD : W.findIn K (.ref cD) "__getattr__" = some none)
    (cdD : W.hasDictIn K cD = true)
    (ceD : W.findIn K (.ref cD) "__setattr__" = some (some (.builtin "object.__setattr__")))
    (cfD : W.findIn K (.ref cD) "__class__" = some (some (.builtin "object.__class__")))
    (cgD : W.mroIn K cD (.type "object") = some true)
    (chD : W.keepIn K (.ref cD) = true)
    (gaD : W.findIn K (.ref cD) "__init__" = some (some (.ref gD)))
    (gbD : W.isFn K (.ref gD) = true)
    (zqc : K.lookup gD = some ⟨znn, znj, .func (W.fnOf "__init__" "NoDesk.__init__" (bC eL) (aV eL) (aD eL) .none zoH zmu znH zoM zhO zmZ), zmk⟩)
    (zpz : W.codeIn K zhO "NoDesk.__init__" = true)
    (zpp : W.keepIn K (.ref gD) = true)
    (hnD : W.findIn K (.ref cD) "desk" = some none)
    (otD : W.typeIn K (.ref cD) = some (.type "type"))
    (olD : W.clsIn K cD = some ocdD)
    (zmI : W.nsIn K mainGlobals "len" = some none)
    (zcY : W.nsIn K mainGlobals "range" = some none)
    (znv : W.nsIn K mainGlobals "max" = some none)
    (zaJ : W.nsIn K mainGlobals "sorted" = some none)
    (zed : W.nsIn K mainGlobals "tuple" = some none)
    (zgH : W.nsIn K mainGlobals "list" = some none)
    (zoO : W.nsIn K mainGlobals "set" = some none)
    (zmK : W.nsIn K mainGlobals "int" = some none)
    (pS : W.nsIn K mainGlobals "isinstance" = some none)
    (zlX : W.nsIn K mainGlobals "all" = some none)
    (zoh : W.nsIn K mainGlobals "str" = some none)
    (zgW : W.nsIn K mainGlobals "bool" = some none)
    (zmX : W.nsIn K mainGlobals "min" = some none)
    (zhy : W.nsIn K mainGlobals "dict" = some none)
    (znV : W.nsIn K mainGlobals "any" = some none)
    (sF : W.nsIn K mainGlobals "enumerate" = some none)
    (zmW : W.nsIn K mainGlobals "zip" = some none)
    (nd : (cM :: cT :: [cD]).Nodup) :
    ∃ fd : FuncData, (∀ (s : Shared) (v : Value), BindsTo s fd ⟨[v], []⟩ [("_law_script", v)]) /\ ∀ base : Heap, K.In base -> base.Ns mainGlobals mg -> FnOk l.prog w K mg base CX0 12 fa fd ["_law_script"] (zbz K) := by
  have e := hfa.symm.trans (W.mg_of X G zma)
  cases e
  have zcI := cI (st := wP) zhH zjB zcp
  have zbI := cI (st := wS) ziJ zhT zcH
  have zca := cI (st := xL) ziB zkB qQ
  have zfE := cI (st := jB) zmC zmg zjn
  have ziI := cI (st := dH) zml znU zkU
  have zgC := cI (st := dO) zlO znq zfh
  have zjh := cI (st := fP) zoF zob zgF
  have zkM := cI (st := eB) zlK zmy zgu
  have zga := cI (st := dY) zoJ zlP zbr
  have zkE := cI (st := eY) zoP zoo zjJ
  have zeN := cI (st := cR) zoa zoA zhM
  have zey := cI (st := eW) zlG zmY zjR
  have zkh := cI (st := dJ) zoD znr zle
  have zkX := cI (st := aU) zmp zod ziP
  have zkA := cI (st := dL) znK zlH zhf
  have zjD := cI (st := bR) zmr zoe zlt
  have znC := cI (st := gL) zoy zoQ zny
  have zkb := cI (st := iX) zmq zme zaO
  have zfL := cI (st := cZ) zlR zoj zhs
  have zgy := cI (st := dN) znX zor zfu
  have zht := cI (st := cC) znJ zna zhN
  have zhI := cI (st := cX) znw znu zhK
  have zkZ := cI (st := cN) zmS znT zhp
  have zfQ := cI (st := gX) znc zlU zgl
  have zil := cI (st := bJ) zoC zmh znb
  have zfz := cI (st := cW) zoR zmc zlr
  have zjc := zcI.binds (ps := ["_law_script", "_law_k"]) fun _ _ _ _ _ _ us hl => by
    apply us2 ?_ us hl
    intros
    rfl
  have zgS := zbI.binds (ps := ["_law_script", "_law_k"]) fun _ _ _ _ _ _ us hl => by
    apply us2 ?_ us hl
    intros
    rfl
  have uH := zca.binds (ps := ["_law_flow_here", "_law_many"]) fun _ _ _ _ _ _ us hl => by
    apply us2 ?_ us hl
    intros
    rfl
  have znf := zfE.binds (ps := ["_law_flow_here", "_law_many"]) fun _ _ _ _ _ _ us hl => by
    apply us2 ?_ us hl
    intros
    rfl
  have zlZ := ziI.binds (ps := ["_law_flow_here", "_law_count"]) fun _ _ _ _ _ _ us hl => by
    apply us2 ?_ us hl
    intros
    rfl
  have zol := zgC.binds (ps := ["_law_flow_here", "_law_some"]) fun _ _ _ _ _ _ us hl => by
    apply us2 ?_ us hl
    intros
    rfl
  have zop := zjh.binds (ps := ["_law_flow_here", "_law_letters", "_law_most"]) fun _ _ _ _ _ _ us hl => by
    apply us3 ?_ us hl
    intros
    rfl
  have znM := zkM.binds (ps := ["_law_flow_here", "_law_desks_here"]) fun _ _ _ _ _ _ us hl => by
    apply us2 ?_ us hl
    intros
    rfl
  have zdQ := zga.binds (ps := ["_law_rows"]) fun _ _ _ _ _ _ us hl => by
    apply us1 ?_ us hl
    intros
    rfl
  have zmQ := zkE.binds (ps := ["_law_rows", "_law_row_here"]) fun _ _ _ _ _ _ us hl => by
    apply us2 ?_ us hl
    intros
    rfl
  have zos := zeN.binds (ps := ["_law_e"]) fun _ _ _ _ _ _ us hl => by
    apply us1 ?_ us hl
    intros
    rfl
  have znE := zey.binds (ps := ["_law_sharing", "_law_row_here", "_law_group_here"]) fun _ _ _ _ _ _ us hl => by
    apply us3 ?_ us hl
    intros
    rfl
  have zlQ := zkh.binds (ps := ["_law_sharing", "_law_rows", "_law_row_here", "_law_group_here"]) fun _ _ _ _ _ _ us hl => by
    apply us4 ?_ us hl
    intros
    rfl
  have zmM := zkX.binds (ps := ["_law_flow_here", "_law_sharing", "_law_rows", "_law_row_here", "_law_group_here"]) fun _ _ _ _ _ _ us hl => by
    apply us5 ?_ us hl
    intros
    rfl
  have zmt := zkA.binds (ps := ["_law_sharing", "_law_rows"]) fun _ _ _ _ _ _ us hl => by
    apply us2 ?_ us hl
    intros
    rfl
  have zlI := zjD.binds (ps := ["_law_rows"]) fun _ _ _ _ _ _ us hl => by
    apply us1 ?_ us hl
    intros
    rfl
  have zcV := zkb.binds (ps := ["things"]) fun _ _ _ _ _ _ us hl => by
    apply us1 ?_ us hl
    intros
    rfl
  have zmB := zfL.binds (ps := ["names"]) fun _ _ _ _ _ _ us hl => by
    apply us1 ?_ us hl
    intros
    rfl
  have zlM := zgy.binds (ps := ["rows"]) fun _ _ _ _ _ _ us hl => by
    apply us1 ?_ us hl
    intros
    rfl
  have zmD := zht.binds (ps := ["letters", "row"]) fun _ _ _ _ _ _ us hl => by
    apply us2 ?_ us hl
    intros
    rfl
  have zmj := zhI.binds (ps := ["desks", "group"]) fun _ _ _ _ _ _ us hl => by
    apply us2 ?_ us hl
    intros
    rfl
  have zmH := zkZ.binds (ps := ["sharing", "row"]) fun _ _ _ _ _ _ us hl => by
    apply us2 ?_ us hl
    intros
    rfl
  have zmU := zfQ.binds (ps := ["sharing", "row", "group"]) fun _ _ _ _ _ _ us hl => by
    apply us3 ?_ us hl
    intros
    rfl
  have zmx := zil.binds (ps := ["self", "rows"]) fun _ _ _ _ _ _ us hl => by
    apply us2 ?_ us hl
    intros
    rfl
  have zom := zfz.binds (ps := ["self", "letter"]) fun _ _ _ _ _ _ us hl => by
    apply us2 ?_ us hl
    intros
    rfl
  have B : Bt mg := ⟨W.mg_none_of X G zmI, W.mg_none_of X G zcY, W.mg_none_of X G znv, W.mg_none_of X G zaJ, W.mg_none_of X G zed, W.mg_none_of X G zgH, W.mg_none_of X G zoO, W.mg_none_of X G zmK, W.mg_none_of X G pS, W.mg_none_of X G zlX, W.mg_none_of X G zoh, W.mg_none_of X G zgW, W.mg_none_of X G zmX, W.mg_none_of X G zhy, W.mg_none_of X G znV, W.mg_none_of X G sF, W.mg_none_of X G zmW⟩
  refine ⟨W.fnOf "law" "law" (bC gL) (aV gL) (aD gL) .none zct zcj zch zbU zR zcu, fun s v => .of_eq rfl, fun base _ _ => ?_⟩
  have xb : XB K cM := ⟨_, _, _, _, _, _, _, _, _, _, _, _, _, _, cbM⟩
  have xcT : XC K cT cM := ⟨⟨_, _, _, _, _, _, _, _, _, _, _, _, _, _, cbT⟩, ccT, cxT, cdT, ceT, cfT, kg, kt, cgT, chT⟩
  have zph := cI (st := dM) zpU zqf zqe
  have zpH := zph.binds (ps := ["self", "letter"]) fun _ _ _ _ _ _ us hl => by
    apply us2 ?_ us hl
    intros
    rfl
  have T0T := uN (P := l.prog) (w := w) (mg := mg) (base := base) (k := 0) (C := cT) (M := cM) (f1 := "letter") zph xcT hnT ⟨rfl, rfl, rfl, by decide +kernel, rfl, by decide +kernel, by decide +kernel⟩ rfl (by decide +kernel) (by decide +kernel) (by decide) (by decide)
  have xtT : XMk l.prog w K mg base 1 cT cM gT _ := ⟨xcT, gaT, gbT, T0T, zpH, W.mg_of X G caT, hnT⟩
  have xcD : XC K cD cM := ⟨⟨_, _, _, _, _, _, _, _, _, _, _, _, _, _, cbD⟩, ccD, cxD, cdD, ceD, cfD, kg, kt, cgD, chD⟩
  have zoY := cI (st := eL) zqc zpz zpp
  have zpv := zoY.binds (ps := ["self", "desk"]) fun _ _ _ _ _ _ us hl => by
    apply us2 ?_ us hl
    intros
    rfl
  have T0D := uN (P := l.prog) (w := w) (mg := mg) (base := base) (k := 0) (C := cD) (M := cM) (f1 := "desk") zoY xcD hnD ⟨rfl, rfl, rfl, by decide +kernel, rfl, by decide +kernel, by decide +kernel⟩ rfl (by decide +kernel) (by decide +kernel) (by decide) (by decide)
  have xtD : zlA l.prog w K mg base 1 cD cM gD _ := ⟨xcD, gaD, gbD, T0D, zpv, W.mg_of X G caD, hnD⟩
  have nMD : cD ≠ cM := fun z => by simp [z] at nd
  have nMT : cT ≠ cM := fun z => by simp [z] at nd
  have nTD : cT ≠ cD := fun z => by simp [z] at nd
  have xo : XOt K mg cT cM (cs2 cT cD) := ⟨W.mg_of X G caT, W.mg_of X G caD, W.mg_of X G aM, uW _ _, rH xcT otD olD nTD nMD⟩
  have xoD : znN K mg cD cM (cs2 cT cD) := ⟨W.mg_of X G caT, W.mg_of X G caD, W.mg_of X G aM, rH xcD otT olT (Ne.symm nTD) nMT, uW _ _⟩
  have D1 := zcU (P := l.prog) (w := w) (mg := mg) (base := base) (k := 0) zca
  have C1 := zdp (P := l.prog) (w := w) (mg := mg) (base := base) (k := 0) zcI B.len_
  have W1 := zeA zbI C1 zjc zcp (W.mg_of X G zjA)
  have Y1 := zbA zfE D1 uH qQ (W.mg_of X G uV) B.range_ B.len_
  have tO : Fn l.prog w K mg base 2 _ _ _ _ _ := ⟨D1.mono (by decide), uH, qQ, W.mg_of X G uV⟩
  have znR : Fn l.prog w K mg base 2 _ _ _ _ _ := ⟨Y1, znf, zjn, W.mg_of X G zlY⟩
  have O1 := sO (P := l.prog) (w := w) (mg := mg) (base := base) (k := 2) zga B
  have H1 := zae ziI B tO znR
  have zfI : Fn l.prog w K mg base 3 _ _ _ _ _ := ⟨O1, zdQ, zbr, W.mg_of X G zeW⟩
  have R1 := zF (P := l.prog) (w := w) (mg := mg) (base := base) (k := 1) zkb B
  have R1S : FnOk l.prog w K mg base CX0 2 _ _ _ (jN K) := R1.imp fun _ _ _ _ z => .inl z
  have T1 := zbd (P := l.prog) (w := w) (mg := mg) (base := base) (k := 0) zfL B
  have znB : Fn l.prog w K mg base 1 _ _ _ _ _ := ⟨T1, zmB, zhs, W.mg_of X G zog⟩
  have E1 := wW zgy B znB
  have znA : Fn l.prog w K mg base 2 _ _ _ _ _ := ⟨E1, zlM, zfu, W.mg_of X G zoG⟩
  have zne : Fn l.prog w K mg base 2 _ _ _ _ _ := ⟨R1S, zcV, zaO, W.mg_of X G zeR⟩
  have S : ShC K C_Sharing := ⟨⟨vF, wU, vV, vZ⟩, jL, lB, jG⟩
  have I1 := zcO zil B S znA zne
  have M1 : qJ l.prog w K mg base 10 C_Sharing yL _ := ⟨⟨wL, zjZ, zjm, vY⟩, S.cls, S, I1.mono (by decide), zmx, W.mg_of X G wO⟩
  have N0 := zcP (P := l.prog) (w := w) (mg := mg) (base := base) (k := 2) zfz S
  have N3 : d7 l.prog w K mg base 3 C_Sharing xZ _ := ⟨⟨zhz, zih, zlr⟩, N0, zom⟩
  have RO := zfp zjh B tO
  have RL := zew zht xtT
  have RD := zdA zhI xtD
  have zlV : FnX l.prog w K mg base 4 _ _ _ _ _ := ⟨RL.mono (by decide), zmD, zhN, W.mg_of X G znd⟩
  have zoI : FnX l.prog w K mg base 4 _ _ _ _ _ := ⟨RD.mono (by decide), zmj, zhK, W.mg_of X G zno⟩
  have zgq : Fn l.prog w K mg base 3 _ _ _ _ _ := ⟨R1.mono (by decide), zcV, zaO, W.mg_of X G zeR⟩
  have zhe : Fn l.prog w K mg base 4 _ _ _ _ _ := ⟨R1.mono (by decide), zcV, zaO, W.mg_of X G zeR⟩
  have HI := zlb zkZ B S M1 N3 zgq
  have zof : Fn l.prog w K mg base 4 _ _ _ _ _ := ⟨HI, zmH, zhp, W.mg_of X G zlN⟩
  have KN := zaC zfQ B S zlV zoI zof zhe
  have zde : FnX l.prog w K mg base 5 _ _ _ _ _ := ⟨KN, zmU, zgl, W.mg_of X G zmz⟩
  have UN := zbw zkE B zfI
  have zoB : Fn l.prog w K mg base 5 _ _ _ _ _ := ⟨UN.mono (by decide), zmQ, zjJ, W.mg_of X G znQ⟩
  have SY := zaI zkA B M1 N3 zfI
  have ST := xI zgC B tO
  have NX := zeE (P := l.prog) (w := w) (mg := mg) (base := base) (k := 2) zjD B
  have RFB : FnOkH l.prog w K mg base 5 _ _ _ (kF cT cD) := (xJ (k := 4) zeN B xtT xo).or (sA (k := 4) zeN B xtD xoD)
  have zfP : FnH l.prog w K mg base 5 _ _ _ _ _ := ⟨RFB, zos, zhM, W.mg_of X G znl⟩
  have TO : FnOk l.prog w K mg base CX0 6 _ _ _ (oG K C_Sharing) := (zbB zey xtT xb xo zde zfP).or (zaZ zey xtD xb xoD zde zfP)
  have Z1 := zby zkh B zde zoB
  have GR := zay zkM B tO
  have zeV : Fn l.prog w K mg base 6 _ _ _ _ _ := ⟨D1.mono (by decide), uH, qQ, W.mg_of X G uV⟩
  have zhZ : Fn l.prog w K mg base 6 _ _ _ _ _ := ⟨O1.mono (by decide), zdQ, zbr, W.mg_of X G zeW⟩
  have zok : Fn l.prog w K mg base 6 _ _ _ _ _ := ⟨ST.mono (by decide), zol, zfh, W.mg_of X G zoL⟩
  have zmf : Fn l.prog w K mg base 6 _ _ _ _ _ := ⟨TO, znE, zjR, W.mg_of X G znS⟩
  have RU := vH zkX B zeV zhZ zok zmf
  have A1 : Fn l.prog w K mg base 11 _ _ _ _ _ := ⟨W1.mono (by decide), zgS, zcH, W.mg_of X G zgG⟩
  have A2 : Fn l.prog w K mg base 11 _ _ _ _ _ := ⟨D1.mono (by decide), uH, qQ, W.mg_of X G uV⟩
  have A3 : Fn l.prog w K mg base 11 _ _ _ _ _ := ⟨H1.mono (by decide), zlZ, zkU, W.mg_of X G zmo⟩
  have A4 : Fn l.prog w K mg base 11 _ _ _ _ _ := ⟨RO.mono (by decide), zop, zgF, W.mg_of X G zmi⟩
  have A5 : Fn l.prog w K mg base 11 _ _ _ _ _ := ⟨O1.mono (by decide), zdQ, zbr, W.mg_of X G zeW⟩
  have A6 : Fn l.prog w K mg base 11 _ _ _ _ _ := ⟨GR.mono (by decide), znM, zgu, W.mg_of X G zoK⟩
  have A7 : Fn l.prog w K mg base 11 _ _ _ _ _ := ⟨NX.mono (by decide), zlI, zlt, W.mg_of X G zoz⟩
  have A8 : Fn l.prog w K mg base 11 _ _ _ _ _ := ⟨Z1.mono (by decide), zlQ, zle, W.mg_of X G zlT⟩
  have A9 : Fn l.prog w K mg base 11 _ _ _ _ _ := ⟨RU.mono (by decide), zmM, ziP, W.mg_of X G zox⟩
  have AA : Fn l.prog w K mg base 11 _ _ _ _ _ := ⟨SY.mono (by decide), zmt, zhf, W.mg_of X G zov⟩
  exact zjL znC B M1 A1 A2 A3 A4 A5 A6 A7 A8 A9 AA
theorem walk {l : PySem.W.OpenLaw} {q : Program} {loose : List Str} {XP : (Str -> Option Value) -> Heap -> Prop} {YP : World -> Heap -> Prop} {d : DefRec} {K : Params -> W.Frag} (hn : l.most = some 63) (hdf : d.params.defaults = [])
    (hY : ∀ (w : World) (h : Heap), YP w h -> (K w.params).In h)
    (F : ∀ (w : World) (mg : Str -> Option Value) (fa : Addr) (h : Heap), (K w.params).In h -> h.Ns mainGlobals mg -> mg d.name = some (.ref fa) ->
      ∃ fd : FuncData, (∀ (s : Shared) (u : Value), BindsTo s fd ⟨[u], []⟩ [("_law_script", u)]) /\ ∀ base : Heap, (K w.params).In base -> base.Ns mainGlobals mg -> FnOk l.prog w (K w.params) mg base CX0 12 fa fd ["_law_script"] (zbz (K w.params))) :
    PySem.W.WalkO q loose XP YP l.row.toRowW d [] (fun f vs => PySem.call f vs) :=
  L2.walk_of (n := 63) (k := 12) (x := "_law_script") (CX := fun _ => CX0) (sp := fun w => zbz (K w.params)) hn (by decide) hdf ⟨rfl, by decide, by decide⟩ hY F (fun _ _ a ns hl _ hS => ⟨a, ns, rfl, hS, hl, fun _ => rfl⟩) fun _ _ _ _ _ z => z
end KK
open PySem PySem.W PyProof.Rows
def PySem.W.Fast.tw4468807551529156803 : Program := PySem.Challenge.pw_meetdesks_k14_what_is_known
theorem PySem.W.Fast.te4468807551529156803 : PySem.Challenge.pw_meetdesks_k14_what_is_known = PySem.W.Fast.tw4468807551529156803 := rfl
set_option maxRecDepth 100000 in
set_option maxHeartbeats 0 in
theorem PySem.Challenge.cw_meetdesks_k14_what_is_known_holds : PySem.Challenge.rw_meetdesks_k14_what_is_known.Holds := by
  w_on; o_law; k_head; (case hw => w_witness2)
  k_fill
  refine KK.walk (l := PySem.Challenge.rw_meetdesks_k14_what_is_known) rfl rfl (fun w h Y => PySem.W.kIn_of Y) ?F
  case F =>
    intro w mg fa h KX G hmg
    refine' KK.all_mk KX G hmg ?_ ?_ ?_ ?_ ?_ ?_ ?_ ?_ ?_ ?_ ?_ ?_ ?_ ?_ ?_ ?_ ?_ ?_ ?_ ?_ ?_ ?_ ?_ ?_ ?_ ?_ ?_ ?_ ?_ ?_ ?_ ?_ ?_ ?_ ?_ ?_ ?_ ?_ ?_ ?_ ?_ ?_ ?_ ?_ ?_ ?_ ?_ ?_ ?_ ?_ ?_ ?_ ?_ ?_ ?_ ?_ ?_ ?_ ?_ ?_ ?_ ?_ ?_ ?_ ?_ ?_ ?_ ?_ ?_ ?_ ?_ ?_ ?_ ?_ ?_ ?_ ?_ ?_ ?_ ?_ ?_ ?_ ?_ ?_ ?_ ?_ ?_ ?_ ?_ ?_ ?_ ?_ ?_ ?_ ?_ ?_ ?_ ?_ ?_ ?_ ?_ ?_ ?_ ?_ ?_ ?_ ?_ ?_ ?_ ?_ ?_ ?_ ?_ ?_ ?_ ?_ ?_ ?_ ?_ ?_ ?_ ?_ ?_ ?_ ?_ ?_ ?_ ?_ ?_ ?_ ?_ ?_ ?_ ?_ ?_ ?_ ?_ ?_ ?_ ?_ ?_ ?_ ?_ ?_ ?_ ?_ ?_ ?_ ?_ ?_ ?_ ?_ ?_ ?_ ?_ ?_ ?_ ?_ ?_ ?_ ?_ ?_ ?_ ?_ ?_ ?_ ?_ ?_ ?_ ?_ ?_ ?_
    all_goals try first | k_is | decide
