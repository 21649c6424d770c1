import PyProof.Rows.All
import Wide.All
import OpenK.AllK
import Wide.FinOn
import Lean
import PyProof.EqAt
import PyProof.EqKinds
import PyProof.TupleCall
import PyProof.NeKinds
import PyProof.FactsAll.set_1
import KE.KRevSl
import PyProof.StrLawsIn
import PyProof.Rows.StrNews2
import PyProof.StrCalls6
import PyProof.StrCalls5
import PyProof.StrReplace2
import PyProof.Rows.CatFin
import PyProof.Rows.StrLawsPart
import PyProof.Rows.StrFirst
import PySem.Challenge.RW_meetdesks_k06_sharings_texts_spoilt
set_option Elab.async false
set_option linter.all false
set_option maxRecDepth 100000
namespace L2
open PySem PySem.Spec PyProof.Rows
abbrev Key := Sum Int Str
def keyIs : Key -> Value -> Bool
  | .inl k, v => Value.isInt k v
  | .inr x, v => Value.isStrOf x v
def keyH (w : World) : Key -> Int
  | .inl k => hashInt k
  | .inr x => hashStr w x
theorem keyIs_shape : ∀ {k : Key} {v : Value}, keyIs k v = true -> (∃ i t, k = Sum.inl i /\ v = Value.int i t) \/ (∃ x t, k = Sum.inr x /\ v = Value.str x t)
  | .inl i, v, h => by
    obtain ⟨t, e⟩ := Value.isInt_shape (k := i) (v := v) h
    exact .inl ⟨i, t, rfl, e⟩
  | .inr x, v, h => by
    obtain ⟨t, e⟩ := Value.isStrOf_shape (x := x) (v := v) h
    exact .inr ⟨x, t, rfl, e⟩
theorem keyIs_int (i : Int) (t : Tok) : keyIs (.inl i) (.int i t) = true := by simp [keyIs, Value.isInt]
theorem keyIs_str (x : Str) (t : Tok) : keyIs (.inr x) (.str x t) = true := by simp [keyIs, Value.isStrOf]
theorem key_ll (a b : Int) : decide ((Sum.inl a : Key) = Sum.inl b) = (a == b) := by
  by_cases e : a = b
  . subst e; simp
  . have h : ¬ (Sum.inl a : Key) = Sum.inl b := fun q => e (Sum.inl.inj q)
    rw [decide_eq_false h]
    exact (beq_eq_false_iff_ne.mpr e).symm
theorem key_rr (a b : Str) : decide ((Sum.inr a : Key) = Sum.inr b) = decide (a = b) := by
  by_cases e : a = b
  . subst e; simp
  . have h : ¬ (Sum.inr a : Key) = Sum.inr b := fun q => e (Sum.inr.inj q)
    rw [decide_eq_false h, decide_eq_false e]
theorem key_lr (a : Int) (b : Str) : decide ((Sum.inl a : Key) = Sum.inr b) = false := decide_eq_false (fun q => nomatch q)
theorem key_rl (a : Str) (b : Int) : decide ((Sum.inr a : Key) = Sum.inl b) = false := decide_eq_false (fun q => nomatch q)
def mixKind (prog : Program) (w : World) : PySem.KeyKind prog w Key where
  is := keyIs
  hash := keyH w
  inj := fun v a b ha hb => by
    rcases keyIs_shape ha with ⟨i, t, rfl, rfl⟩ | ⟨x, t, rfl, rfl⟩
    . rcases keyIs_shape hb with ⟨j, u, rfl, e⟩ | ⟨y, u, rfl, e⟩
      . injection e with e1 _; rw [e1]
      . exact nomatch e
    . rcases keyIs_shape hb with ⟨j, u, rfl, e⟩ | ⟨y, u, rfl, e⟩
      . exact nomatch e
      . injection e with e1 _; rw [e1]
  byValue := fun k v h => by
    rcases keyIs_shape h with ⟨i, t, rfl, rfl⟩ | ⟨x, t, rfl, rfl⟩ <;> rfl
  pyHash := fun hv h => by
    rcases keyIs_shape hv with ⟨i, t, rfl, rfl⟩ | ⟨x, t, rfl, rfl⟩
    . exact wpAny_pyHash_int h
    . exact wpAny_pyHash_str h
  eqBool := fun hu hv h => by
    rcases keyIs_shape hu with ⟨i, t, rfl, rfl⟩ | ⟨x, t, rfl, rfl⟩
    . rcases keyIs_shape hv with ⟨j, u, rfl, rfl⟩ | ⟨y, u, rfl, rfl⟩
      . rw [key_ll] at h; exact wpAny_eqBool_int h
      . rw [key_lr] at h; exact SeqAt.EqAt.int_str i t y u _ _ _ _ h
    . rcases keyIs_shape hv with ⟨j, u, rfl, rfl⟩ | ⟨y, u, rfl, rfl⟩
      . rw [key_rl] at h; exact SeqAt.EqAt.str_int x t j u _ _ _ _ h
      . rw [key_rr] at h; exact wpAny_eqBool_str h
  «strs» := fun k x t v h => by
    rcases keyIs_shape h with ⟨i, u, rfl, e⟩ | ⟨y, u, rfl, e⟩
    . exact nomatch e
    . injection e with e1 _
      subst e1
      cases v <;> rfl
theorem mixKind_int (prog : Program) (w : World) (i : Int) (t : Tok) : (mixKind prog w).is (.inl i) (.int i t) = true := keyIs_int i t
theorem mixKind_str (prog : Program) (w : World) (x : Str) (t : Tok) : (mixKind prog w).is (.inr x) (.str x t) = true := keyIs_str x t
inductive V where
  | non | bl (b : Bool) | int (i : Int) | str (x : Str) | byt (b : Array UInt8) | flt (b : UInt64) | ref (a : Addr) | ty (n : String)
  deriving DecidableEq
def RelV : V -> Value -> Prop
  | .non, u => u = Value.none
  | .bl b, u => u = Value.bool b
  | .int i, u => ∃ t, u = Value.int i t
  | .str x, u => ∃ t, u = Value.str x t
  | .byt b, u => ∃ t, u = Value.bytes b t
  | .flt b, u => ∃ t, u = Value.float b t
  | .ref a, u => u = Value.ref a
  | .ty n, u => u = Value.type n
abbrev Vals : List V -> List Value -> Prop := Paired RelV
theorem Vals.length {xs : List V} {us : List Value} (r : Vals xs us) : xs.length = us.length := Paired.length r
theorem Vals.get : ∀ {xs : List V} {us : List Value} {i : Nat} {x : V}, Vals xs us -> xs[i]? = some x -> ∃ u, us[i]? = some u /\ RelV x u
  | _, _, _, _, .nil, e => by simp at e
  | _, _, 0, _, .cons r _, e => by simp at e; subst e; exact ⟨_, rfl, r⟩
  | _, _, i + 1, x, .cons _ t, e => by
    obtain ⟨u, h1, h2⟩ := Vals.get (i := i) (x := x) t (by simpa using e)
    exact ⟨u, by simpa using h1, h2⟩
theorem Vals.set {x : V} {u : Value} (r : RelV x u) : ∀ {xs : List V} {us : List Value} (i : Nat), Vals xs us -> Vals (xs.set i x) (us.set i u)
  | _, _, _, .nil => .nil
  | _, _, 0, .cons _ t => .cons r t
  | _, _, i + 1, .cons q t => .cons q (Vals.set r i t)
theorem Vals.append : ∀ {xs ys : List V} {us ws : List Value}, Vals xs us -> Vals ys ws -> Vals (xs ++ ys) (us ++ ws)
  | _, _, _, _, .nil, s => s
  | _, _, _, _, .cons r t, s => .cons r (Vals.append t s)
theorem Vals.take : ∀ {xs : List V} {us : List Value} (n : Nat), Vals xs us -> Vals (xs.take n) (us.take n)
  | _, _, 0, _ => .nil
  | _, _, _ + 1, .nil => .nil
  | _, _, n + 1, .cons r t => .cons r (Vals.take n t)
theorem Vals.drop : ∀ {xs : List V} {us : List Value} (n : Nat), Vals xs us -> Vals (xs.drop n) (us.drop n)
  | _, _, 0, r => r
  | _, _, _ + 1, .nil => .nil
  | _, _, n + 1, .cons _ t => Vals.drop n t
def RelO : Option V -> Option Value -> Prop
  | some v, some u => RelV v u
  | none, none => True
  | _, _ => False
def KV {κ : Type} : List (κ × V) -> List (κ × Value) -> Prop := Paired fun (p : κ × V) (q : κ × Value) => p.1 = q.1 /\ RelV p.2 q.2
def kV : Key -> V
  | .inl i => .int i
  | .inr x => .str x
inductive HO where
  /-- a list -/
  | lst (xs : List V)
  /-- a tuple (never changes) -/
  | tup (xs : List V)
  /-- a dict whose keys are ints and texts; one whose keys are tuples of ints and texts (the empty one is both) -/
  | dK (kvs : List (Key × V)) | dT (kvs : List (List Key × V))
  /-- a set of ints: its members, its size -/
  | set (S : Int -> Bool) (n : Nat)
  /-- an instance of the class at C, its dict at dx, its attributes -/
  | ins (C dx : Addr) (fs : List (Str × V))
  /-- the dict of the instance at x -/
  | own (x : Addr)
  /-- the dict of an exception -/
  | xd (fs : List (Str × V))
  /-- a bound method, f of x -/
  | met (f x : Addr)
  /-- a range object lo, lo + 1, .. below hi -/
  | rng (lo hi : Int)
  /-- a thing that is known to the object (the script; a dict while a loop walks it): read, never written while it is so -/
  | frz (o : Obj) (u : HO)
  /-- a code object's table -/
  | tbl (ps : Array Value)
  /-- any other thing, by what is true of its one object (a def of one's own: SetO a S n := HO.ext fun h => ..) -/
  | ext (φ : Heap -> Prop)
abbrev Hp := Addr -> Option HO
def upd (H : Hp) (a : Addr) (o : HO) : Hp := fun b => if b = a then some o else H b
theorem upd_same {H : Hp} {a : Addr} {o : HO} : upd H a o a = some o := by unfold upd; rw [if_pos rfl]
theorem upd_ne {H : Hp} {a b : Addr} {o : HO} (h : b ≠ a) : upd H a o b = H b := by unfold upd; rw [if_neg h]
theorem ne_of {H : Hp} {a b : Addr} {o u : HO} (h : H a = some o) (h' : H b = some u) (d : o ≠ u) : a ≠ b := by
  intro e; subst e; rw [h] at h'; exact d (Option.some.inj h')
theorem ne_of_none {H : Hp} {a b : Addr} {o : HO} (h : H a = some o) (h' : H b = none) : a ≠ b := by
  intro e; subst e; rw [h] at h'; cases h'
section
variable (P : Program) (w : World)
def ObjOk (H : Hp) (h : Heap) (a : Addr) : HO -> Prop
  | .lst xs => xs.length <= sizeLine /\ ∃ (its : List Value) (n : Nat), Vals xs its /\ h.get? a = some { cls := .type "list", data := .seq its.toArray n }
  | .tup xs => xs.length <= sizeLine /\ ∃ its : List Value, Vals xs its /\ IsTup h a its.toArray
  | .dK kvs => kvs.length <= sizeLine /\ (a == sysModules) = false /\ ∃ vs, KV kvs vs /\ h.DictOf (mixKind P w) a vs
  | .dT kvs => kvs.length <= sizeLine /\ (a == sysModules) = false /\ ∃ xs : List (List Key × Addr × Value),
      Paired (fun (p : List Key × V) (q : List Key × Addr × Value) => p.1 = q.1 /\ H q.2.1 = some (.tup (p.1.map kV)) /\ RelV p.2 q.2.2) kvs xs /\
      ∃ o es ep, h.get? a = some o /\ o.ExactDict /\ o.data = .dict es ep /\ es.toList = xs.map (entryOfKey (tupleKind (mixKind P w))) /\ (xs.map (·.1)).Nodup
  | .set S n => h.SetOf (intKind P w) a S n
  | .ins C dx fs => H dx = some (.own a) /\ fs.length <= 1000 /\ dx ≠ a /\ h.get? a = some (W.instObj C dx) /\
      ∃ mA, h.Ns1 dx mA /\ (∀ f, RelO (fs.lookup f) (mA f)) /\ PySem.Within mA (fs.map (·.1))
  | .own _ => ∃ o, h.get? a = some o
  | .xd fs => ∃ mA, h.Ns1 a mA /\ ∀ f, RelO (fs.lookup f) (mA f)
  | .rng lo hi => ∃ t u v, h.get? a = some { cls := .type "range", data := .fields #[.int lo t, .int hi u, .int 1 v] }
  | .frz o u => h.get? a = some o /\ ObjOk H h a u
  | .tbl ps => h.get? a = some { cls := .none, data := .fields ps }
  | .met f x => h.get? a = some (PySem.W.methodObj (.ref f) (.ref x))
  | .ext φ => φ h /\ (∃ o, h.get? a = some o) /\ ∀ h1 h2 : Heap, φ h1 -> (∀ o, h1.get? a = some o -> h2.get? a = some o) -> φ h2
def HOk (H : Hp) (h : Heap) : Prop := ∀ a o, H a = some o -> ObjOk P w H h a o
end
section
variable {P : Program} {w : World} {H H' : Hp} {h h' : Heap} {a : Addr} {o : HO}
theorem ObjOk.lt (x : ObjOk P w H h a o) : a < h.objs.size := by
  cases o with
  | lst xs => obtain ⟨_, _, _, _, e⟩ := x; exact Heap.lt_size e
  | tup xs => obtain ⟨_, _, _, p⟩ := x; exact p.lt
  | dK kvs => obtain ⟨_, _, _, _, o, _, _, e, _⟩ := x; exact Heap.lt_size e
  | dT kvs => obtain ⟨_, _, _, _, o, _, _, e, _⟩ := x; exact Heap.lt_size e
  | set S n => obtain ⟨o, _, _, _, e, _⟩ := x; exact Heap.lt_size e
  | ins C dx fs => obtain ⟨_, _, _, e, _⟩ := x; exact Heap.lt_size e
  | own y => obtain ⟨_, e⟩ := x; exact Heap.lt_size e
  | xd fs => obtain ⟨_, ⟨_, _, _, e, _⟩, _⟩ := x; exact Heap.lt_size e
  | rng lo hi => obtain ⟨_, _, _, e⟩ := x; exact Heap.lt_size e
  | frz ob u => obtain ⟨e, _⟩ := x; exact Heap.lt_size e
  | tbl ps => exact Heap.lt_size (show h.get? a = some _ from x)
  | met f y => exact Heap.lt_size (show h.get? a = some _ from x)
  | ext φ => obtain ⟨_, ⟨_, e⟩, _⟩ := x; exact Heap.lt_size e
theorem Paired.mapP {α β : Type} {F G : α -> β -> Prop} : ∀ {l₁ : List α} {l₂ : List β}, Paired F l₁ l₂ -> (∀ a b, F a b -> G a b) -> Paired G l₁ l₂
  | _, _, .nil, _ => .nil
  | _, _, .cons r t, f => .cons (f _ _ r) (Paired.mapP t f)
theorem ObjOk.stay (x : ObjOk P w H h a o) (k : ∀ b u, (b = a \/ H b = some (.own a)) -> h.get? b = some u -> h'.get? b = some u)
    (ho : ∀ b, H b = some (.own a) -> H' b = some (.own a)) (ht : ∀ b xs, H b = some (.tup xs) -> H' b = some (.tup xs)) : ObjOk P w H' h' a o := by
  induction o with
  | lst xs => obtain ⟨z, its, n, r, e⟩ := x; exact ⟨z, its, n, r, k _ _ (.inl rfl) e⟩
  | tup xs => obtain ⟨z, its, r, ob, e, c⟩ := x; exact ⟨z, its, r, ob, k _ _ (.inl rfl) e, c⟩
  | dK kvs => obtain ⟨z, y, vs, r, ob, es, ep, e, c⟩ := x; exact ⟨z, y, vs, r, ob, es, ep, k _ _ (.inl rfl) e, c⟩
  | dT kvs =>
    obtain ⟨z, y, xs, r, ob, es, ep, e, c⟩ := x
    exact ⟨z, y, xs, Paired.mapP r fun p q z => ⟨z.1, ht _ _ z.2.1, z.2.2⟩, ob, es, ep, k _ _ (.inl rfl) e, c⟩
  | set S n => obtain ⟨ob, es, ep, t, e, c⟩ := x; exact ⟨ob, es, ep, t, k _ _ (.inl rfl) e, c⟩
  | ins C dx fs =>
    obtain ⟨d, z, ne, e, mA, ⟨od, es, ep, e2, c⟩, r⟩ := x
    exact ⟨ho _ d, z, ne, k _ _ (.inl rfl) e, mA, ⟨od, es, ep, k _ _ (.inr d) e2, c⟩, r⟩
  | own y => obtain ⟨ob, e⟩ := x; exact ⟨ob, k _ _ (.inl rfl) e⟩
  | xd fs => obtain ⟨mA, ⟨od, es, ep, e, c⟩, r⟩ := x; exact ⟨mA, ⟨od, es, ep, k _ _ (.inl rfl) e, c⟩, r⟩
  | rng lo hi => obtain ⟨t, u, v, e⟩ := x; exact ⟨t, u, v, k _ _ (.inl rfl) e⟩
  | frz ob u ih => obtain ⟨e, q⟩ := x; exact ⟨k _ _ (.inl rfl) e, ih q⟩
  | tbl ps =>
    have e : h.get? a = some { cls := .none, data := .fields ps } := x
    show h'.get? a = some { cls := .none, data := .fields ps }
    exact k a _ (.inl rfl) e
  | met f y =>
    have e : h.get? a = some (PySem.W.methodObj (.ref f) (.ref y)) := x
    show h'.get? a = some (PySem.W.methodObj (.ref f) (.ref y))
    exact k a _ (.inl rfl) e
  | ext φ => obtain ⟨p, ⟨o, e⟩, st⟩ := x; exact ⟨st _ _ p fun o q => k _ _ (.inl rfl) q, ⟨o, k _ _ (.inl rfl) e⟩, st⟩
theorem HOk.lt (x : HOk P w H h) (e : H a = some o) : a < h.objs.size := (x a o e).lt
theorem HOk.fresh (x : HOk P w H h) (e : h.objs.size <= a) : H a = none := by
  cases q : H a with
  | none => rfl
  | some u => exact absurd (Nat.lt_of_lt_of_le (x.lt q) e) (Nat.lt_irrefl _)
theorem HOk.kept (x : HOk P w H h) (k : ∀ b u, h.get? b = some u -> h'.get? b = some u) : HOk P w H h' := fun a o e =>
  (x a o e).stay (fun b u _ q => k b u q) (fun _ q => q) fun _ _ q => q
theorem HOk.laid (x : HOk P w H h) (k : ∀ b u, h.get? b = some u -> h'.get? b = some u) (hp : h.objs.size <= a) (new : ObjOk P w (upd H a o) h' a o) : HOk P w (upd H a o) h' := fun b u e => by
  have hn := x.fresh hp
  by_cases hb : b = a
  . subst hb; rw [upd_same] at e; cases e; exact new
  . rw [upd_ne hb] at e
    exact (x b u e).stay (fun c v _ q => k c v q) (fun c q => by rw [upd_ne (ne_of_none q hn)]; exact q) fun c xs q => by rw [upd_ne (ne_of_none q hn)]; exact q
end
def Rd (H : Hp) (a : Addr) (u : HO) : Prop := H a = some u \/ ∃ o, H a = some (.frz o u)
theorem Rd.ok {P : Program} {w : World} {H : Hp} {h : Heap} {a : Addr} {u : HO} (r : Rd H a u) (x : HOk P w H h) : ObjOk P w H h a u := by
  rcases r with r | ⟨o, r⟩
  . exact x a u r
  . obtain ⟨_, q⟩ := x a _ r
    exact q
def Mut : Option HO -> Prop
  | some (.lst _) => True
  | some (.dK _) => True
  | some (.dT _) => True
  | some (.set _ _) => True
  | some (.ins _ _ _) => True
  | some (.ext _) => True
  | _ => False
section
variable {P : Program} {w : World} {H : Hp} {h h' : Heap} {x e : Addr} {o' : HO}
theorem HOk.write (ok : HOk P w H h) (mu : Mut (H x)) (he : e = x \/ H e = some (.own x)) (k : ∀ b u, b ≠ e -> h.get? b = some u -> h'.get? b = some u) (heo : ∃ u, h'.get? e = some u)
    (new : ObjOk P w (upd H x o') h' x o') : HOk P w (upd H x o') h' := fun b u q => by
  have nown : ∀ c y, H c = some (.own y) -> c ≠ x := fun c y r z => by subst z; rw [r] at mu; exact mu
  have ntup : ∀ c xs, H c = some (.tup xs) -> c ≠ x := fun c xs r z => by subst z; rw [r] at mu; exact mu
  by_cases hb : b = x
  . subst hb; rw [upd_same] at q; cases q; exact new
  . rw [upd_ne hb] at q
    by_cases hbe : b = e
    . have q' : H b = some (.own x) := by
        rcases he with z | z
        . exact absurd (hbe.trans z) hb
        . rw [hbe]; exact z
      rw [q] at q'; cases q'
      obtain ⟨v, hv⟩ := heo
      exact ⟨v, by rw [hbe]; exact hv⟩
    . refine (ok b u q).stay (fun c v hc r => k c v ?_ r) (fun c r => by rw [upd_ne (nown c b r)]; exact r) fun c xs r => by rw [upd_ne (ntup c xs r)]; exact r
      rcases hc with rfl | hc
      . exact hbe
      . rintro rfl
        rcases he with z | z
        . exact nown c b hc z
        . rw [hc] at z; cases z; exact hb rfl
end
structure Un (fs ex : List Addr) (H H' : Hp) (h h' : Heap) : Prop where
  keep : ∀ b o, h.get? b = some o -> H b = none -> b ∉ fs -> b ∉ ex -> h'.get? b = some o
  slot : ∀ b o, h.get? b = some o -> H b = none -> b ∈ fs -> b ∉ ex -> ∃ sl, h'.get? b = some { o with slots := sl }
  free : ∀ b o, h.get? b = some o -> H b = none -> b ∉ ex -> H' b = none
  there : ∀ b o, h.get? b = some o -> b ∉ ex -> ∃ o', h'.get? b = some o'
  tups : ∀ b xs, H b = some (.tup xs) -> H' b = some (.tup xs)
  frzs : ∀ b o u, H b = some (.frz o u) -> H' b = some (.frz o u)
  tbls : ∀ b ps, H b = some (.tbl ps) -> ∃ more, H' b = some (.tbl (ps ++ more))
section
variable {fs fs' ex ex' : List Addr} {H H1 H2 : Hp} {h h1 h2 h' : Heap} {a x e : Addr} {o : HO}
theorem Un.any (u : Un fs ex H H1 h h1) {b : Addr} {ob : Obj} (q : h.get? b = some ob) (n : H b = none) (hx : b ∉ ex) : ∃ sl, h1.get? b = some { ob with slots := sl } := by
  by_cases hb : b ∈ fs
  . exact u.slot b ob q n hb hx
  . exact ⟨ob.slots, u.keep b ob q n hb hx⟩
theorem Un.kept (k : ∀ b u, h.get? b = some u -> h'.get? b = some u) : Un fs ex H H h h' :=
  ⟨fun b ob q _ _ _ => k b ob q, fun b ob q _ _ _ => ⟨ob.slots, k b ob q⟩, fun _ _ _ n _ => n, fun b ob q _ => ⟨ob, k b ob q⟩, fun _ _ q => q, fun _ _ _ q => q, fun _ ps q => ⟨#[], by rw [q]; simp⟩⟩
theorem Un.refl : Un fs ex H H h h := Un.kept fun _ _ q => q
theorem Un.laid (k : ∀ b u, h.get? b = some u -> h'.get? b = some u) (hp : h.objs.size <= a) (hn : H a = none) : Un fs ex H (upd H a o) h h' where
  keep := fun b u q _ _ _ => k b u q
  slot := fun b u q _ _ _ => ⟨u.slots, k b u q⟩
  free := fun b u q n _ => by rw [upd_ne (Nat.ne_of_lt (Nat.lt_of_lt_of_le (Heap.lt_size q) hp))]; exact n
  there := fun b u q _ => ⟨u, k b u q⟩
  tups := fun b xs q => by rw [upd_ne (ne_of_none q hn)]; exact q
  frzs := fun b u xs q => by rw [upd_ne (ne_of_none q hn)]; exact q
  tbls := fun b ps q => ⟨#[], by rw [upd_ne (ne_of_none q hn), q]; simp⟩
theorem Un.write (mu : Mut (H x)) (he : e = x \/ H e = some (.own x)) (k : ∀ b u, b ≠ e -> h.get? b = some u -> h'.get? b = some u) (heo : ∃ u, h'.get? e = some u) : Un fs ex H (upd H x o) h h' := by
  have hx : ∀ b, H b = none -> b ≠ x := fun b n z => by subst z; rw [n] at mu; exact mu
  have hb : ∀ b, H b = none -> b ≠ e := fun b n z => by
    subst z
    rcases he with r | r
    . exact hx b n r
    . rw [n] at r; cases r
  have hm : ∀ b u, H b = some u -> ¬ Mut (some u) -> b ≠ x := fun b u q nm z => by subst z; rw [q] at mu; exact nm mu
  refine ⟨fun b u q n _ _ => k b u (hb b n) q, fun b u q n _ _ => ⟨u.slots, k b u (hb b n) q⟩, fun b u q n _ => by rw [upd_ne (hx b n)]; exact n, fun b u q _ => ?_,
    fun b xs q => by rw [upd_ne (hm b _ q fun z => z)]; exact q, fun b u xs q => by rw [upd_ne (hm b _ q fun z => z)]; exact q, fun b ps q => ⟨#[], by rw [upd_ne (hm b _ q fun z => z), q]; simp⟩⟩
  by_cases hbe : b = e
  . subst hbe; exact heo
  . exact ⟨u, k b u hbe q⟩
end
def trk (h : Heap) (H : Hp) : List Addr := (List.range h.objs.size).filter fun a => (H a).isSome
def hidT (h : Heap) (H : Hp) : Heap := PySem.W.hideAll h (trk h H)
theorem hidT_size (h : Heap) (H : Hp) : (hidT h H).objs.size = h.objs.size := PySem.W.hideAll_size _ _
theorem hidT_get {h : Heap} {H : Hp} {b : Addr} {o : Obj} (e : h.get? b = some o) (n : H b = none) : (hidT h H).get? b = some o :=
  PySem.W.hideAll_get _ e fun hm => by
    have q : (H b).isSome = true := (List.mem_filter.mp hm).2
    rw [n] at q; simp at q
theorem of_hidT {h : Heap} {H : Hp} {b : Addr} {o : Obj} (e : (hidT h H).get? b = some o) : h.get? b = some o /\ H b = none := by
  have e' : h.get? b = some o := PySem.W.of_hideAll (trk h H) e
  refine ⟨e', ?_⟩
  cases q : H b with
  | none => rfl
  | some x =>
    have hm : b ∈ trk h H := List.mem_filter.mpr ⟨List.mem_range.mpr (Heap.lt_size e'), by simp [q]⟩
    have z : (hidT h H).get? b = none := PySem.W.hideAll_none (trk h H) hm
    rw [z] at e; cases e
def allNews (g h : Heap) (L : Addr) : List (Addr × Obj) := (List.range h.objs.size).filterMap fun a => if a = L \/ (g.get? a).isSome = true then none else (h.get? a).map fun o => (a, o)
def rest (g h : Heap) (L d : Addr) : List (Addr × Obj) := (allNews g h L).filter fun p => decide (p.1 ≠ d)
structure Mod (K : W.Frag) (mg : Str -> Option Value) (base : Heap) : Prop where
  kin : K.In base
  glob : base.Ns mainGlobals mg
  blt : ∃ mb, base.Ns builtinsNs mb /\ ∀ x : Str, x ≠ "__name__" -> mb x = bootBuiltins x
  nolimit : base.NoLimit
structure Cx where
  prog : Program
  w : World
  K : W.Frag
  mg : Str -> Option Value
  base : Heap
  A : Around
  N : List Str
  s₀ : Shared
  H₀ : Hp
  env : Env
  outer : List Env
  stack : List Env
  ex : List Addr
  fn : Str -> Bool
  calm : Bool
  pn : List (Addr × Obj)
  xe : Value -> Shared -> Prop
def frs (l : List Env) : List Addr := l.filterMap (·.frame)
abbrev Cx.fs (X : Cx) : List Addr := frs X.outer
def Vis (sc : Scope) (x : Str) : Prop := sc.names.lookup x = some .local \/ sc.names.lookup x = some .cell \/ sc.names.lookup x = some .free
def Loc (sc : Scope) (x : Str) : Prop := sc.names.lookup x = some .local \/ sc.names.lookup x = some .cell
def Look (env : Env) (h : Heap) (m : Str -> Option Value) (x : Str) (u : Value) : Prop :=
  (env.kindOf x = some .local /\ m x = some u) \/ ((env.kindOf x = some .cell \/ env.kindOf x = some .free) /\ ∃ c, env.cells.lookup x = some c /\ h.IsCell c (some u))
structure Cx.Ok (X : Cx) : Prop where
  mod : Mod X.K X.mg X.base
  kind : X.env.scope.kind = .function
  glob : X.env.globals = mainGlobals
  blt : X.env.builtins = builtinsNs
  above : X.s₀.heap.objs.size <= X.env.locals
  inj : ∀ x y c, X.env.cells.lookup x = some c -> X.env.cells.lookup y = some c -> x = y
  has : ∀ x, (X.env.kindOf x = some .cell \/ X.env.kindOf x = some .free) -> ∃ c, X.env.cells.lookup x = some c
  cab : ∀ x c, X.fn x = true -> X.env.cells.lookup x = some c -> X.s₀.heap.objs.size <= c
  hd : X.calm = true -> X.A.handled = none
  frames : X.A.frames = some X.stack
  stk : X.stack = X.outer \/ (X.stack = X.env :: X.outer /\ X.env.frame = some X.env.locals)
  exf : ∀ b ∈ X.ex, b ≠ X.env.locals /\ ∀ x c, X.env.cells.lookup x = some c -> c ≠ b
  bs : ∀ b o, X.base.get? b = some o -> X.s₀.heap.get? b = some o /\ X.H₀ b = none
  bsz : X.base.objs.size <= X.s₀.heap.objs.size
  noex : ∀ b o, X.base.get? b = some o -> b ∉ X.ex
  exfs : ∀ b ∈ X.ex, b ∉ X.fs
  funs : X.s₀.heap.FunFrames X.base X.outer
  frf : ∀ b ∈ X.fs, X.H₀ b = none
structure Inv (X : Cx) (pins : List (Addr × Obj)) (σ : List (Option V)) (H : Hp) (s : Shared) : Prop where
  ok : X.Ok
  os : s.os = X.s₀.os
  bare : AllBare s.gens
  base : Un X.fs X.ex X.H₀ H X.s₀.heap s.heap
  loc : ∃ m, s.heap.Ns X.env.locals m /\ ∀ (i : Nat) (x : Str) (v : V), X.N[i]? = some x -> σ[i]? = some (some v) -> Vis X.env.scope x -> ∃ u, RelV v u /\ Look X.env s.heap m x u
  cell : ∀ x c, X.env.cells.lookup x = some c -> ∃ v, s.heap.IsCell c v
  free : H X.env.locals = none
  freeC : ∀ x c, X.env.cells.lookup x = some c -> H c = none
  pin : ∀ p ∈ X.pn ++ pins, s.heap.get? p.1 = some p.2 /\ H p.1 = none /\ p.1 ≠ X.env.locals /\ p.1 ∉ X.fs /\ ∀ v, p.2.data ≠ .cell v
  hok : HOk X.prog X.w H s.heap
  len : σ.length = X.N.length
section
variable {X : Cx} {pins : List (Addr × Obj)} {σ : List (Option V)} {H H' : Hp} {s : Shared} {h' : Heap}
theorem Cx.Ok.nofr (ok : X.Ok) {b : Addr} {o : Obj} (e : X.base.get? b = some o) : b ∉ X.fs := fun hb => by
  have := (ok.funs.mem hb).1
  rw [e] at this; cases this
theorem Inv.bs (I : Inv X pins σ H s) : ∀ b o, X.base.get? b = some o -> s.heap.get? b = some o /\ H b = none := fun b o e =>
  ⟨I.base.keep b o (I.ok.bs b o e).1 (I.ok.bs b o e).2 (I.ok.nofr e) (I.ok.noex b o e), I.base.free b o (I.ok.bs b o e).1 (I.ok.bs b o e).2 (I.ok.noex b o e)⟩
theorem Inv.bk (I : Inv X pins σ H s) : ∀ b o, X.base.get? b = some o -> s.heap.get? b = some o := fun b o e => (I.bs b o e).1
theorem Inv.mod (I : Inv X pins σ H s) : Mod X.K X.mg X.base := I.ok.mod
theorem Inv.kIn (I : Inv X pins σ H s) : X.K.In s.heap := I.ok.mod.kin.keeps I.bk
theorem Inv.lt (I : Inv X pins σ H s) : X.env.locals < s.heap.objs.size := let ⟨_, hn, _⟩ := I.loc; hn.lt
theorem Inv.sz (I : Inv X pins σ H s) : X.s₀.heap.objs.size <= s.heap.objs.size := Nat.le_trans I.ok.above (Nat.le_of_lt I.lt)
theorem Inv.nofs (I : Inv X pins σ H s) {a : Addr} (h : s.heap.objs.size <= a) : a ∉ X.fs := fun hb => by
  obtain ⟨_, o, ho, _⟩ := I.ok.funs.mem hb
  exact absurd (Nat.lt_of_lt_of_le (Heap.lt_size ho) (Nat.le_trans I.sz h)) (Nat.lt_irrefl _)
theorem Inv.cne (I : Inv X pins σ H s) : ∀ x c, X.env.cells.lookup x = some c -> c ≠ X.env.locals := fun x c e z => by
  obtain ⟨v, o, ho, hd⟩ := I.cell x c e
  obtain ⟨m, ⟨o', es, ep, ho', hd', _⟩, _⟩ := I.loc
  rw [z, ho'] at ho; cases ho; rw [hd'] at hd; cases hd
theorem Inv.funs (I : Inv X pins σ H s) : s.heap.FunFrames X.base X.outer := by
  have all : ∀ (l : List Env), (∀ b ∈ frs l, b ∈ X.fs) -> X.s₀.heap.FunFrames X.base l -> s.heap.FunFrames X.base l := by
    intro l
    induction l with
    | nil => intro _ _; trivial
    | cons env r ih =>
      intro hs hl
      obtain ⟨hk, ⟨L, o, hf, hn, ho, hd⟩, hr⟩ := hl
      have hL : L ∈ X.fs := hs L (by unfold frs; rw [List.filterMap_cons, hf]; exact List.mem_cons_self)
      obtain ⟨sl, e⟩ := I.base.slot L o ho (I.ok.frf L hL) hL fun z => I.ok.exfs L z hL
      exact ⟨hk, ⟨L, _, hf, hn, e, hd⟩, ih (fun b hb => hs b (by unfold frs; rw [List.filterMap_cons, hf]; exact List.mem_cons_of_mem _ hb)) hr⟩
  exact all X.outer (fun _ hb => hb) I.ok.funs
theorem Inv.stack (I : Inv X pins σ H s) : s.heap.FunFrames X.base X.stack := by
  rcases I.ok.stk with e | ⟨e, hf⟩
  . rw [e]; exact I.funs
  . rw [e]
    obtain ⟨m, hn, _⟩ := I.loc
    refine .cons (by rw [I.ok.kind]; decide) hf hn ?_ I.funs
    exact Heap.get?_none_of_le (Nat.le_trans I.ok.bsz I.ok.above)
theorem Inv.stkSub (I : Inv X pins σ H s) : ∀ b ∈ frs X.stack, b ∈ X.env.locals :: X.fs := fun b hb => by
  rcases I.ok.stk with e | ⟨e, hf⟩
  . rw [e] at hb; exact List.mem_cons_of_mem _ hb
  . rw [e] at hb
    unfold frs at hb
    rw [List.filterMap_cons, hf] at hb
    exact hb
theorem Inv.stkFree (I : Inv X pins σ H s) : ∀ b ∈ frs X.stack, H b = none := fun b hb => by
  rcases List.mem_cons.mp (I.stkSub b hb) with e | hb
  . rw [e]; exact I.free
  . obtain ⟨_, o, ho, _⟩ := I.ok.funs.mem hb
    exact I.base.free b o ho (I.ok.frf b hb) fun z => I.ok.exfs b z hb
theorem Inv.step {g' : Array GenState} {t' : Nat} {d' : Drawn} {ch : List Addr} (I : Inv X pins σ H s)
    (hch : ∀ b ∈ ch, (b ∈ X.ex \/ X.s₀.heap.objs.size <= b) /\ b ≠ X.env.locals /\ (∀ x c, X.env.cells.lookup x = some c -> c ≠ b) /\ ∀ p ∈ X.pn ++ pins, p.1 ≠ b)
    (keep : ∀ b o, b ≠ X.env.locals -> b ∉ X.fs -> b ∉ ch -> s.heap.get? b = some o -> H b = none -> h'.get? b = some o)
    (slot : ∀ b o, b ≠ X.env.locals -> b ∈ X.fs -> b ∉ ch -> s.heap.get? b = some o -> H b = none -> ∃ sl, h'.get? b = some { o with slots := sl }) (free : ∀ b o, b ∉ ch -> s.heap.get? b = some o -> H b = none -> H' b = none)
    (there : ∀ b o, b ∉ ch -> s.heap.get? b = some o -> ∃ o', h'.get? b = some o')
    (tups : ∀ b xs, H b = some (.tup xs) -> H' b = some (.tup xs)) (frzs : ∀ b o u, H b = some (.frz o u) -> H' b = some (.frz o u)) (tbls : ∀ b ps, H b = some (.tbl ps) -> ∃ more, H' b = some (.tbl (ps ++ more)))
    (ns : ∀ m, s.heap.Ns X.env.locals m -> h'.Ns X.env.locals m) (hok : HOk X.prog X.w H' h') (hg : AllBare g') :
    Inv X pins σ H' { s with heap := h', gens := g', drawn := d', toks := t' } := by
  have neL : ∀ b o, X.s₀.heap.get? b = some o -> b ≠ X.env.locals := fun b o e => Nat.ne_of_lt (Nat.lt_of_lt_of_le (Heap.lt_size e) I.ok.above)
  have neC : ∀ b o, X.s₀.heap.get? b = some o -> b ∉ X.ex -> b ∉ ch := fun b o e hx hb => by
    rcases (hch b hb).1 with z | z
    . exact hx z
    . exact absurd (Nat.lt_of_lt_of_le (Heap.lt_size e) z) (Nat.lt_irrefl _)
  have cellK : ∀ x c, X.env.cells.lookup x = some c -> ∀ v, s.heap.IsCell c v -> h'.IsCell c v := fun x c e v ⟨o, ho, hd⟩ => by
    have nch : c ∉ ch := fun z => (hch c z).2.2.1 x c e rfl
    by_cases hc : c ∈ X.fs
    . obtain ⟨sl, q⟩ := slot c o (I.cne x c e) hc nch ho (I.freeC x c e)
      exact ⟨_, q, hd⟩
    . exact ⟨o, keep c o (I.cne x c e) hc nch ho (I.freeC x c e), hd⟩
  refine ⟨I.ok, I.os, hg, ⟨fun b o e n hb hx => ?_, fun b o e n hb hx => ?_, fun b o e n hx => ?_, fun b o e hx => ?_, fun b xs e => tups b xs (I.base.tups b xs e), fun b o xs e => frzs b o xs (I.base.frzs b o xs e), fun b ps e => ?_⟩, ?_, fun x c e => ?_, ?_, fun x c e => ?_, fun p hp => ?_, hok, I.len⟩
  . exact keep b o (neL b o e) hb (neC b o e hx) (I.base.keep b o e n hb hx) (I.base.free b o e n hx)
  . obtain ⟨sl, e1⟩ := I.base.slot b o e n hb hx
    obtain ⟨sl', e2⟩ := slot b _ (neL b o e) hb (neC b o e hx) e1 (I.base.free b o e n hx)
    exact ⟨sl', e2⟩
  . obtain ⟨o', e1⟩ := I.base.there b o e hx
    exact free b o' (neC b o e hx) e1 (I.base.free b o e n hx)
  . obtain ⟨o', e1⟩ := I.base.there b o e hx
    exact there b o' (neC b o e hx) e1
  . obtain ⟨m1, e1⟩ := I.base.tbls b ps e
    obtain ⟨m2, e2⟩ := tbls b _ e1
    exact ⟨m1 ++ m2, by rw [e2, Array.append_assoc]⟩
  . obtain ⟨m, hn, hl⟩ := I.loc
    refine ⟨m, ns m hn, fun i x v e1 e2 e3 => ?_⟩
    obtain ⟨u, r, l⟩ := hl i x v e1 e2 e3
    refine ⟨u, r, ?_⟩
    rcases l with l | ⟨k, c, e, z⟩
    . exact .inl l
    . exact .inr ⟨k, c, e, cellK x c e _ z⟩
  . obtain ⟨v, z⟩ := I.cell x c e
    exact ⟨v, cellK x c e v z⟩
  . obtain ⟨m, ⟨o, _, _, ho, _⟩, _⟩ := I.loc
    exact free _ o (fun z => (hch _ z).2.1 rfl) ho I.free
  . obtain ⟨v, o, ho, hd⟩ := I.cell x c e
    exact free c o (fun z => (hch c z).2.2.1 x c e rfl) ho (I.freeC x c e)
  . obtain ⟨e, n, ne, nf, d⟩ := I.pin p hp
    have nch : p.1 ∉ ch := fun z => (hch p.1 z).2.2.2 p hp rfl
    exact ⟨keep p.1 p.2 ne nf nch e n, free p.1 p.2 nch e n, ne, nf, d⟩
theorem Inv.un {t' : Nat} (I : Inv X pins σ H s) (u : Un X.fs [] H H' s.heap h') (hok : HOk X.prog X.w H' h') : Inv X pins σ H' { s with heap := h', toks := t' } := by
  obtain ⟨m, ⟨o, es, ep, ho, r⟩, _⟩ := id I.loc
  obtain ⟨sl, hL⟩ := u.any ho I.free (by simp)
  exact I.step (g' := s.gens) (d' := s.drawn) (ch := []) (fun _ z => nomatch z) (fun b o _ hb _ e n => u.keep b o e n hb (by simp)) (fun b o _ hb _ e n => u.slot b o e n hb (by simp)) (fun b o _ e n => u.free b o e n (by simp)) (fun b o _ e => u.there b o e (by simp)) u.tups u.frzs u.tbls (fun m' hm => by
    obtain ⟨o', es', ep', ho', r'⟩ := hm
    rw [ho] at ho'; cases ho'
    exact ⟨_, es', ep', hL, r'⟩) hok I.bare
theorem Inv.call {g' : Array GenState} {t' : Nat} {d' : Drawn} {ch : List Addr} (I : Inv X pins σ H s) (u : Un (frs X.stack) ch H H' s.heap h') (hok : HOk X.prog X.w H' h') (hg : AllBare g')
    (hch : ∀ b ∈ ch, (b ∈ X.ex \/ X.s₀.heap.objs.size <= b) /\ b ≠ X.env.locals /\ (∀ x c, X.env.cells.lookup x = some c -> c ≠ b) /\ ∀ p ∈ X.pn ++ pins, p.1 ≠ b) :
    Inv X pins σ H' { s with heap := h', gens := g', drawn := d', toks := t' } := by
  obtain ⟨m, ⟨o, es, ep, ho, r⟩, _⟩ := id I.loc
  obtain ⟨sl, hL⟩ := u.any ho I.free fun z => (hch _ z).2.1 rfl
  exact I.step (ch := ch) hch (fun b o hL hb hc e n => u.keep b o e n (fun z => (List.mem_cons.mp (I.stkSub b z)).elim hL hb) hc) (fun b o _ _ hc e n => u.any e n hc) (fun b o hc e n => u.free b o e n hc) (fun b o hc e => u.there b o e hc) u.tups u.frzs u.tbls (fun m' hm => by
    obtain ⟨o', es', ep', ho', r'⟩ := hm
    rw [ho] at ho'; cases ho'
    exact ⟨_, es', ep', hL, r'⟩) hok hg
theorem Inv.turned {t' : Nat} {it : Addr} (I : Inv X pins σ H s) (k : ∀ b o, b ≠ it -> s.heap.get? b = some o -> h'.get? b = some o) (hn : H it = none) (hL : it ≠ X.env.locals)
    (h1 : it ∈ X.ex \/ X.s₀.heap.objs.size <= it) (h2 : ∀ x c, X.env.cells.lookup x = some c -> c ≠ it) (h3 : ∀ p ∈ X.pn ++ pins, p.1 ≠ it) : Inv X pins σ H { s with heap := h', toks := t' } := by
  have nit : ∀ b u, H b = some u -> b ≠ it := fun b u e z => by rw [z, hn] at e; cases e
  refine I.step (g' := s.gens) (d' := s.drawn) (ch := [it]) (fun b hb => ?_) (fun b o _ _ hc e _ => k b o (fun z => hc (by simp [z])) e) (fun b o _ _ hc e _ => ⟨o.slots, k b o (fun z => hc (by simp [z])) e⟩) (fun _ _ _ _ n => n)
    (fun b o hc e => ⟨o, k b o (fun z => hc (by simp [z])) e⟩) (fun _ _ e => e) (fun _ _ _ e => e) (fun b ps e => ⟨#[], by rw [e]; simp⟩) (fun m hm => ?_) (fun b u e => ?_) I.bare
  . have e : b = it := by simpa using hb
    subst e
    exact ⟨h1, hL, h2, h3⟩
  . obtain ⟨o, es, ep, ho, r⟩ := hm
    exact ⟨o, es, ep, k _ o (Ne.symm hL) ho, r⟩
  . refine (I.hok b u e).stay (fun c v hc q => k c v ?_ q) (fun _ q => q) fun _ _ q => q
    rcases hc with z | z
    . rw [z]; exact nit b u e
    . exact nit c _ z
theorem Inv.tok (I : Inv X pins σ H s) (t : Nat) : Inv X pins σ H { s with toks := t } := I.un (h' := s.heap) (t' := t) Un.refl I.hok
theorem Inv.kept {t' : Nat} (I : Inv X pins σ H s) (k : ∀ b u, s.heap.get? b = some u -> h'.get? b = some u) : Inv X pins σ H { s with heap := h', toks := t' } := I.un (Un.kept k) (I.hok.kept k)
theorem Inv.laid {a : Addr} {o : HO} {t' : Nat} (I : Inv X pins σ H s) (k : ∀ b u, s.heap.get? b = some u -> h'.get? b = some u) (hp : s.heap.objs.size <= a) (new : ObjOk X.prog X.w (upd H a o) h' a o) :
    Inv X pins σ (upd H a o) { s with heap := h', toks := t' } := I.un (Un.laid k hp (I.hok.fresh hp)) (I.hok.laid k hp new)
theorem Inv.write {x e : Addr} {o : HO} {t' : Nat} (I : Inv X pins σ H s) (mu : Mut (H x)) (he : e = x \/ H e = some (.own x)) (k : ∀ b u, b ≠ e -> s.heap.get? b = some u -> h'.get? b = some u) (heo : ∃ u, h'.get? e = some u)
    (new : ObjOk X.prog X.w (upd H x o) h' x o) : Inv X pins σ (upd H x o) { s with heap := h', toks := t' } := I.un (Un.write mu he k heo) (I.hok.write mu he k heo new)
theorem Inv.pins_of {pins' : List (Addr × Obj)} (I : Inv X pins σ H s) (h : ∀ p ∈ pins', s.heap.get? p.1 = some p.2 /\ H p.1 = none /\ p.1 ≠ X.env.locals /\ p.1 ∉ X.fs /\ ∀ v, p.2.data ≠ .cell v) : Inv X pins' σ H s :=
  ⟨I.ok, I.os, I.bare, I.base, I.loc, I.cell, I.free, I.freeC, fun p hp => (List.mem_append.mp hp).elim (fun z => I.pin p (List.mem_append_left _ z)) (h p), I.hok, I.len⟩
theorem nodup_ix {N : List Str} (hN : N.Nodup) {i j : Nat} {x : Str} (a : N[i]? = some x) (b : N[j]? = some x) : i = j := by
  obtain ⟨h1, e1⟩ := List.getElem?_eq_some_iff.mp a
  obtain ⟨h2, e2⟩ := List.getElem?_eq_some_iff.mp b
  exact (List.getElem_inj hN).mp (e1.trans e2.symm)
theorem store_ok2 {M : Model} {A : Around} {E : Value -> Shared -> Prop} {i : Nat} {x : Str} {v : V} {u : Value} {Q : Unit -> Shared -> Prop} (I : Inv X pins σ H s) (hN : X.N.Nodup) (hi : X.N[i]? = some x) (hx : Loc X.env.scope x) (r : RelV v u)
    (h : ∀ s', Inv X pins (σ.set i (some v)) H s' -> (∃ a, Heap.SameBut a s.heap s'.heap /\ (a = X.env.locals \/ X.env.cells.lookup x = some a)) -> Q () s') (hf : X.fn x = true \/ X.env.scope.names.lookup x = some .local := by first | exact .inl rfl | exact .inr rfl | assumption) : wpAny M A (storeName X.env x u) Q E s := by
  obtain ⟨m, hn, hl⟩ := id I.loc
  have hcls : (X.env.scope.kind == .class || (X.env.scope.kind == .module && X.env.locals != X.env.globals)) = false := by rw [I.ok.kind]; rfl
  have hiσ : i < σ.length := by rw [I.len]; exact (List.getElem?_eq_some_iff.mp hi).1
  have cne := I.cne
  have tracked : ∀ {a : Addr} {h' : Heap}, (∃ o, s.heap.get? a = some o /\ H a = none) -> Heap.SameBut a s.heap h' -> HOk X.prog X.w H h' := fun {a h'} ha hs b ob e => by
    obtain ⟨_, _, hfree⟩ := ha
    refine (I.hok b ob e).stay (fun c w' hc q => (hs.2 c ?_).trans q) (fun _ q => q) fun _ _ q => q
    rintro rfl
    rcases hc with rfl | hc
    . rw [hfree] at e; cases e
    . rw [hfree] at hc; cases hc
  rcases hx with hk | hk
  . refine wpAny_storeName_local hk hn (fun h' hn' hs => ?_) hcls
    obtain ⟨oL, _, _, hoL, _⟩ := id hn
    refine h _ ⟨I.ok, I.os, I.bare, ⟨fun b o e n hb hx => ?_, fun b o e n hb hx => ?_, I.base.free, fun b o e hx => ?_, I.base.tups, I.base.frzs, I.base.tbls⟩, ⟨_, hn', fun j y v' e1 e2 e3 => ?_⟩, fun y c e => ?_, I.free, I.freeC, fun p hp => ?_, tracked ⟨oL, hoL, I.free⟩ hs, by simpa using I.len⟩ ⟨_, hs, .inl rfl⟩
    . exact (hs.2 b (Nat.ne_of_lt (Nat.lt_of_lt_of_le (Heap.lt_size e) I.ok.above))).trans (I.base.keep b o e n hb hx)
    . obtain ⟨sl, e1⟩ := I.base.slot b o e n hb hx
      exact ⟨sl, (hs.2 b (Nat.ne_of_lt (Nat.lt_of_lt_of_le (Heap.lt_size e) I.ok.above))).trans e1⟩
    . obtain ⟨o', e1⟩ := I.base.there b o e hx
      exact ⟨o', (hs.2 b (Nat.ne_of_lt (Nat.lt_of_lt_of_le (Heap.lt_size e) I.ok.above))).trans e1⟩
    . by_cases hj : j = i
      . subst hj
        rw [hi] at e1; cases e1
        rw [List.getElem?_set_self hiσ] at e2
        cases e2
        exact ⟨u, r, .inl ⟨hk, by simp⟩⟩
      . rw [List.getElem?_set_ne (Ne.symm hj)] at e2
        obtain ⟨u', r', q⟩ := hl j y v' e1 e2 e3
        refine ⟨u', r', ?_⟩
        rcases q with ⟨k, e⟩ | ⟨k, c, e, z⟩
        . refine .inl ⟨k, ?_⟩
          have : y ≠ x := fun e => hj (nodup_ix hN e1 (e ▸ hi))
          simp [this, e]
        . exact .inr ⟨k, c, e, z.sameBut hs (cne y c e)⟩
    . obtain ⟨w', z⟩ := I.cell y c e
      exact ⟨w', z.sameBut hs (cne y c e)⟩
    . obtain ⟨e, n, ne, nf, d⟩ := I.pin p hp
      exact ⟨(hs.2 p.1 ne).trans e, n, ne, nf, d⟩
  . have hfn : X.fn x = true := by
      rcases hf with z | z
      . exact z
      . rw [z] at hk; cases hk
    obtain ⟨c, hc⟩ := I.ok.has x (.inl hk)
    obtain ⟨w', z⟩ := I.cell x c hc
    refine wpAny_storeName_cell I.ok.kind hk hc z (fun h' hc' hs => ?_)
    obtain ⟨oc, hoc, hocd⟩ := id z
    refine h { s with heap := h' } ⟨I.ok, I.os, I.bare, ⟨fun b o e n hb hx => ?_, fun b o e n hb hx => ?_, I.base.free, fun b o e hx => ?_, I.base.tups, I.base.frzs, I.base.tbls⟩, ⟨m, hn.sameBut hs (Ne.symm (cne x c hc)), fun j y v' e1 e2 e3 => ?_⟩, fun y c' e => ?_, I.free, I.freeC, fun p hp => ?_, tracked ⟨oc, hoc, I.freeC x c hc⟩ hs, by simpa using I.len⟩ ⟨c, hs, .inr hc⟩
    . exact (hs.2 b (Nat.ne_of_lt (Nat.lt_of_lt_of_le (Heap.lt_size e) (I.ok.cab x c hfn hc)))).trans (I.base.keep b o e n hb hx)
    . obtain ⟨sl, e1⟩ := I.base.slot b o e n hb hx
      exact ⟨sl, (hs.2 b (Nat.ne_of_lt (Nat.lt_of_lt_of_le (Heap.lt_size e) (I.ok.cab x c hfn hc)))).trans e1⟩
    . obtain ⟨o', e1⟩ := I.base.there b o e hx
      exact ⟨o', (hs.2 b (Nat.ne_of_lt (Nat.lt_of_lt_of_le (Heap.lt_size e) (I.ok.cab x c hfn hc)))).trans e1⟩
    . by_cases hj : j = i
      . subst hj
        rw [hi] at e1; cases e1
        rw [List.getElem?_set_self hiσ] at e2
        cases e2
        exact ⟨u, r, .inr ⟨.inl hk, c, hc, hc'⟩⟩
      . rw [List.getElem?_set_ne (Ne.symm hj)] at e2
        obtain ⟨u', r', q⟩ := hl j y v' e1 e2 e3
        refine ⟨u', r', ?_⟩
        rcases q with q | ⟨k, c', e, z'⟩
        . exact .inl q
        . refine .inr ⟨k, c', e, z'.sameBut hs ?_⟩
          rintro rfl
          exact hj (nodup_ix hN e1 (I.ok.inj _ _ _ e hc ▸ hi))
    . by_cases hcc : c' = c
      . subst hcc; exact ⟨_, hc'⟩
      . obtain ⟨w2, z2⟩ := I.cell y c' e
        exact ⟨w2, z2.sameBut hs hcc⟩
    . obtain ⟨e, n, ne, nf, d⟩ := I.pin p hp
      refine ⟨(hs.2 p.1 ?_).trans e, n, ne, nf, d⟩
      intro q
      rw [q, hoc] at e
      have q' : oc = p.2 := Option.some.inj e
      exact d w' (by rw [<- q']; exact hocd)
theorem store_ok {M : Model} {A : Around} {E : Value -> Shared -> Prop} {i : Nat} {x : Str} {v : V} {u : Value} {Q : Unit -> Shared -> Prop} (I : Inv X pins σ H s) (hN : X.N.Nodup) (hi : X.N[i]? = some x) (hx : Loc X.env.scope x) (r : RelV v u)
    (h : ∀ s', Inv X pins (σ.set i (some v)) H s' -> Q () s') (hf : X.fn x = true \/ X.env.scope.names.lookup x = some .local := by first | exact .inl rfl | exact .inr rfl | assumption) : wpAny M A (storeName X.env x u) Q E s :=
  store_ok2 I hN hi hx r (fun s' I' _ => h s' I') hf
theorem Inv.call' {s' : Shared} {ch : List Addr} (I : Inv X pins σ H s) (ho : s'.os = s.os) (u : Un (frs X.stack) ch H H' s.heap s'.heap) (hok : HOk X.prog X.w H' s'.heap) (hg : AllBare s'.gens)
    (hch : ∀ b ∈ ch, (b ∈ X.ex \/ X.s₀.heap.objs.size <= b) /\ b ≠ X.env.locals /\ (∀ x c, X.env.cells.lookup x = some c -> c ≠ b) /\ ∀ p ∈ X.pn ++ pins, p.1 ≠ b) : Inv X pins σ H' s' := by
  obtain ⟨h', g', d', t', o'⟩ := s'
  have e : o' = s.os := ho
  subst e
  exact I.call (g' := g') (t' := t') (d' := d') u hok hg hch
end
abbrev XK := Value -> Option Addr -> Hp -> Prop
abbrev St := List (Option V)
abbrev VK := V -> Hp -> Prop
abbrev TE := St -> Hp -> VK -> Prop
abbrev TT := St -> Hp -> (Bool -> Hp -> Prop) -> Prop
abbrev TA := St -> Hp -> (List V -> Hp -> Prop) -> Prop
structure Ends where
  nx : St -> Hp -> Prop
  rt : VK
  bk : St -> Hp -> Prop := fun _ _ => False
  ct : St -> Hp -> Prop := fun _ _ => False
abbrev TS := Ends -> St -> Hp -> Prop
def EP (X : Cx) (pins : List (Addr × Obj)) (σ : St) (Q : VK) (u : Value) (s' : Shared) : Prop := ∃ v H', Inv X pins σ H' s' /\ RelV v u /\ Q v H'
def TP (X : Cx) (pins : List (Addr × Obj)) (σ : St) (Q : Bool -> Hp -> Prop) (b : Bool) (s' : Shared) : Prop := ∃ H', Inv X pins σ H' s' /\ Q b H'
def AP (X : Cx) (pins : List (Addr × Obj)) (σ : St) (Q : List V -> Hp -> Prop) (us : List Value) (s' : Shared) : Prop := ∃ vs H', Inv X pins σ H' s' /\ Vals vs us /\ Q vs H'
def SP (X : Cx) (pins : List (Addr × Obj)) (D : Ends) (f : Flow) (s' : Shared) : Prop :=
  match f with
  | .next => ∃ σ' H', Inv X pins σ' H' s' /\ D.nx σ' H'
  | .brk => ∃ σ' H', Inv X pins σ' H' s' /\ D.bk σ' H'
  | .cont => ∃ σ' H', Inv X pins σ' H' s' /\ D.ct σ' H'
  | .ret u => ∃ v σ' H', Inv X pins σ' H' s' /\ RelV v u /\ D.rt v H'
def PE (X : Cx) (e : Expr) (t : TE) : Prop :=
  ∀ (pins : List (Addr × Obj)) (s : Shared) (σ : St) (H : Hp) (Q : VK), Inv X pins σ H s -> t σ H Q -> wpAny (model X.prog X.w) X.A (eval e X.env) (EP X pins σ Q) X.xe s
def PT (X : Cx) (e : Expr) (t : TT) : Prop :=
  ∀ (pins : List (Addr × Obj)) (s : Shared) (σ : St) (H : Hp) (Q : Bool -> Hp -> Prop), Inv X pins σ H s -> t σ H Q -> wpAny (model X.prog X.w) X.A (isTrue e X.env (eval e X.env)) (TP X pins σ Q) X.xe s
def PW (X : Cx) (e : Expr) (t : TT) : Prop :=
  ∀ (whole : Sem Value) (pins : List (Addr × Obj)) (s : Shared) (σ : St) (H : Hp) (Q : Bool -> Hp -> Prop), Inv X pins σ H s -> t σ H Q -> wpAny (model X.prog X.w) X.A (isTrue e X.env whole) (TP X pins σ Q) X.xe s
theorem PW.pt {X : Cx} {e : Expr} {t : TT} (h : PW X e t) : PT X e t := h _
def PA (X : Cx) (es : List Expr) (t : TA) : Prop :=
  ∀ (pos : Pos) (pins : List (Addr × Obj)) (s : Shared) (σ : St) (H : Hp) (Q : List V -> Hp -> Prop), Inv X pins σ H s -> t σ H Q -> wpAny (model X.prog X.w) X.A (spliced (backTo pos (starEach es X.env))) (AP X pins σ Q) X.xe s
def PS (X : Cx) (st : Stmt) (t : TS) : Prop :=
  ∀ (pins : List (Addr × Obj)) (s : Shared) (σ : St) (H : Hp) (D : Ends), Inv X pins σ H s -> t D σ H -> wpAny (model X.prog X.w) X.A (exec st X.env) (SP X pins D) X.xe s
def PSs (X : Cx) (st : List Stmt) (t : TS) : Prop :=
  ∀ (pins : List (Addr × Obj)) (s : Shared) (σ : St) (H : Hp) (D : Ends), Inv X pins σ H s -> t D σ H -> wpAny (model X.prog X.w) X.A (execs st X.env) (SP X pins D) X.xe s
theorem thn {α : Type} {t : Sem α} {Q Q' : α -> Shared -> Prop} {M : Model} {A : Around} {E : Value -> Shared -> Prop} {s : Shared} (h : wpAny M A t Q E s) (hQ : ∀ a s, Q a s -> Q' a s) : wpAny M A t Q' E s := wpAny_mono h hQ fun _ _ x => x
section
variable {X : Cx}
theorem bin {a b : Expr} {ta tb : TE} (ha : PE X a ta) (hb : PE X b tb) {pins : List (Addr × Obj)} {s : Shared} {σ : St} {H : Hp} {R : V -> V -> Hp -> Prop} (I : Inv X pins σ H s) (h : ta σ H fun x H1 => tb σ H1 fun y H2 => R x y H2)
    {α : Type} {Q : α -> Shared -> Prop} {f : Value -> Value -> Sem α}
    (hf : ∀ v u s2 x y H2, Inv X pins σ H2 s2 -> RelV x v -> RelV y u -> R x y H2 -> wpAny (model X.prog X.w) X.A (f v u) Q X.xe s2) :
    wpAny (model X.prog X.w) X.A (eval a X.env) (fun v s₁ => wpAny (model X.prog X.w) X.A (eval b X.env) (fun u s₂ => wpAny (model X.prog X.w) X.A (f v u) Q X.xe s₂) X.xe s₁) X.xe s := by
  refine thn (ha pins s σ H _ I h) fun v s1 ⟨x, H1, I1, r1, q1⟩ => ?_
  refine thn (hb pins s1 σ H1 _ I1 q1) fun u s2 ⟨y, H2, I2, r2, q2⟩ => ?_
  exact hf v u s2 x y H2 I2 r1 r2 q2
def tVar (i : Nat) : TE := fun σ H Q => ∃ v, σ[i]? = some (some v) /\ Q v H
def tC (v : V) : TE := fun _ H Q => Q v H
theorem pe_var {i : Nat} {x : Str} {pos : Pos} (hN : X.N[i]? = some x) (hv : Vis X.env.scope x) (hd : (x == ("__debug__" : Str)) = false := by decide) (hcd : (x == ("__classdict__" : Str)) = false := by decide) : PE X (.Name x pos) (tVar i) := by
  intro pins s σ H Q I h
  obtain ⟨v, e, h⟩ := h
  obtain ⟨m, hn, hl⟩ := I.loc
  obtain ⟨u, r, l⟩ := hl i x v hN e hv
  have fin : EP X pins σ Q u s := ⟨v, H, I, r, h⟩
  rcases l with ⟨hk, hm⟩ | ⟨hk, c, hc, hcell⟩
  . exact wpAny_Name (wpAny_loadName_local I.ok.kind hk hn hm fin) hd
  . rcases hk with hk | hk
    . exact wpAny_Name (wpAny_loadName_cell I.ok.kind hk hc hcell fin) hd
    . exact wpAny_Name (wpAny_loadName_free I.ok.kind hk hc hcell fin hcd) hd
theorem pe_int {i j pos} : PE X (.Constant (.int i) j pos) (tC (.int i)) := fun _ _ _ H _ I h => wpAny_Constant_int ⟨.int i, H, I.tok _, ⟨_, rfl⟩, h⟩
theorem pe_bl {b j pos} : PE X (.Constant (.bool b) j pos) (tC (.bl b)) := fun _ _ _ H _ I h => Constant_bool ⟨.bl b, H, I, rfl, h⟩
theorem pe_non {j pos} : PE X (.Constant .none j pos) (tC .non) := fun _ _ _ H _ I h => Constant_none ⟨.non, H, I, rfl, h⟩
theorem pe_str {x j pos} : PE X (.Constant (.str x) j pos) (tC (.str x)) := fun _ _ _ H _ I h => Calls.Constant_str ⟨.str x, H, I.tok _, ⟨_, rfl⟩, h⟩
def Gl (X : Cx) (x : Str) : Prop := X.env.kindOf x = some .globalImplicit
theorem ld_glob {E : Value -> Shared -> Prop} {pins : List (Addr × Obj)} {s : Shared} {σ : St} {H : Hp} {x : Str} {u : Value} {pos : Pos} {Q : Value -> Shared -> Prop} (I : Inv X pins σ H s) (hg : Gl X x) (hm : X.mg x = some u) (h : Q u s)
    (hd : (x == ("__debug__" : Str)) = false := by decide) : wpAny (model X.prog X.w) X.A (eval (.Name x pos) X.env) Q E s :=
  Calls.Name_function_global I.ok.kind hg (Calls.loadGlobal_global (by rw [I.ok.glob]; exact I.mod.glob.keeps I.bk) hm h) hd
theorem ld_blt {E : Value -> Shared -> Prop} {pins : List (Addr × Obj)} {s : Shared} {σ : St} {H : Hp} {x : Str} {u : Value} {pos : Pos} {Q : Value -> Shared -> Prop} (I : Inv X pins σ H s) (hg : Gl X x) (hm : X.mg x = none) (hv : bootBuiltins x = some u) (h : Q u s)
    (hn : x ≠ "__name__" := by decide) (hd : (x == ("__debug__" : Str)) = false := by decide) : wpAny (model X.prog X.w) X.A (eval (.Name x pos) X.env) Q E s := by
  obtain ⟨mb, h1, h2⟩ := I.mod.blt
  exact Calls.Name_function_global I.ok.kind hg (Calls.loadGlobal_builtin (by rw [I.ok.glob]; exact I.mod.glob.keeps I.bk) hm (by rw [I.ok.blt]; exact h1.keeps I.bk) ((h2 x hn).trans hv) h) hd
theorem pe_glob {x : Str} {v : V} {u : Value} {pos : Pos} (hg : Gl X x) (hm : X.mg x = some u) (r : RelV v u) (hd : (x == ("__debug__" : Str)) = false := by decide) : PE X (.Name x pos) (tC v) :=
  fun _ _ _ H _ I h => ld_glob I hg hm ⟨v, H, I, r, h⟩ hd
theorem pe_bltn {x : Str} {v : V} {u : Value} {pos : Pos} (hg : Gl X x) (hm : X.mg x = none) (hv : bootBuiltins x = some u) (r : RelV v u) (hn : x ≠ "__name__" := by decide) (hd : (x == ("__debug__" : Str)) = false := by decide) : PE X (.Name x pos) (tC v) :=
  fun _ _ _ H _ I h => ld_blt I hg hm hv ⟨v, H, I, r, h⟩ hn hd
variable {a b : Expr} {ta tb : TE} {pos : Pos}
def PC (X : Cx) (op : CmpOp) (a b : Expr) (t : TE) : Prop :=
  ∀ (pins : List (Addr × Obj)) (s : Shared) (σ : St) (H : Hp) (Q : VK), Inv X pins σ H s -> t σ H Q ->
    wpAny (model X.prog X.w) X.A (eval a X.env) (fun v s₁ => wpAny (model X.prog X.w) X.A (eval b X.env) (fun u s₂ => wpAny (model X.prog X.w) X.A (compareOp op v u) (EP X pins σ Q) X.xe s₂) X.xe s₁) X.xe s
def tB (t : TE) : TT := fun σ H Q => t σ H fun x H1 => ∃ c, x = .bl c /\ Q c H1
theorem pt_cmp {op : CmpOp} {t : TE} (h : PC X op a b t) (h1 : behindInMarks op b = false := by first | exact nobehind _ (by decide) (by decide) | rfl) : PT X (.Compare a [op] [b] pos) (tB t) := by
  intro pins s σ H Q I hw
  refine wpAny_isTrue_Compare1 (thn (h pins s σ H _ I hw) fun v s1 h1 => thn h1 fun u s2 h2 => thn h2 fun c s3 ⟨x, H1, I1, r1, q1⟩ => ?_) h1
  obtain ⟨d, rfl, q⟩ := q1
  cases r1
  exact wpAny_truthy_bool ⟨H1, I1, q⟩
theorem pt_val {e : Expr} {t : TE} (h : PE X e t) (he : ∀ whole, isTrue e X.env whole = (do let v <- whole; standAt e.pos; holding [v] (truthy v)) := by intro _; rfl) : PT X e (tB t) := by
  intro pins s σ H Q I hw
  refine isTrue_plain (thn (h pins s σ H _ I hw) fun v s1 ⟨x, H1, I1, r1, q1⟩ => ?_) (he _)
  obtain ⟨d, rfl, q⟩ := q1
  cases r1
  exact wpAny_truthy_bool ⟨H1, I1, q⟩
variable {tA tB' : TT} {rest : List Expr}
def tAnd (t u : TT) : TT := fun σ H Q => t σ H fun c H1 => if c = true then u σ H1 Q else Q false H1
def tOr (t u : TT) : TT := fun σ H Q => t σ H fun c H1 => if c = true then Q true H1 else u σ H1 Q
def tNot (t : TT) : TT := fun σ H Q => t σ H fun c H1 => Q (!c) H1
theorem pw_and1 (ha : PT X a tA) : PW X (.BoolOp .And [a] pos) tA := by
  intro wh pins s σ H Q I h
  refine isTrue_and (thn (ha pins s σ H Q I h) fun c s1 e => ?_)
  cases c with
  | true => exact isTrue_and_nil e
  | false => exact e
theorem pw_or1 (ha : PT X a tA) : PW X (.BoolOp .Or [a] pos) tA := by
  intro wh pins s σ H Q I h
  refine isTrue_or (thn (ha pins s σ H Q I h) fun c s1 e => ?_)
  cases c with
  | false => exact isTrue_or_nil e
  | true => exact e
theorem pw_and (ha : PT X a tA) (hb : PW X (.BoolOp .And (b :: rest) pos) tB') : PW X (.BoolOp .And (a :: b :: rest) pos) (tAnd tA tB') := by
  intro wh pins s σ H Q I h
  refine isTrue_and (thn (ha pins s σ H _ I h) fun c s1 ⟨H1, I1, q1⟩ => ?_)
  cases c with
  | true => exact hb wh pins s1 σ H1 Q I1 q1
  | false => exact ⟨H1, I1, q1⟩
theorem pw_or (ha : PT X a tA) (hb : PW X (.BoolOp .Or (b :: rest) pos) tB') : PW X (.BoolOp .Or (a :: b :: rest) pos) (tOr tA tB') := by
  intro wh pins s σ H Q I h
  refine isTrue_or (thn (ha pins s σ H _ I h) fun c s1 ⟨H1, I1, q1⟩ => ?_)
  cases c with
  | true => exact ⟨H1, I1, q1⟩
  | false => exact hb wh pins s1 σ H1 Q I1 q1
theorem pt_not (ha : PT X a tA) : PT X (.UnaryOp .Not a pos) (tNot tA) := by
  intro pins s σ H Q I h
  exact isTrue_not (ha pins s σ H (fun c H1 => Q (!c) H1) I h)
def tAndV (ta tb : TE) : TE := fun σ H Q => ta σ H fun x H1 => ∃ c, x = .bl c /\ if c = true then tb σ H1 Q else Q (.bl false) H1
def tOrV (ta tb : TE) : TE := fun σ H Q => ta σ H fun x H1 => ∃ c, x = .bl c /\ if c = true then Q (.bl true) H1 else tb σ H1 Q
def tNotV (ta : TE) : TE := fun σ H Q => ta σ H fun x H1 => ∃ c, x = .bl c /\ Q (.bl (!c)) H1
theorem pe_one {op} {t : TE} (h : PE X a t) : PE X (.BoolOp op [a] pos) t := fun pins s σ H Q I hw => BoolOp_one (h pins s σ H Q I hw)
theorem pe_and (ha : PE X a ta) (hb : PE X (.BoolOp .And (b :: rest) pos) tb) : PE X (.BoolOp .And (a :: b :: rest) pos) (tAndV ta tb) := by
  intro pins s σ H Q I h
  refine BoolOp_and (thn (ha pins s σ H _ I h) fun v s1 ⟨x, H1, I1, r1, q1⟩ => ?_)
  obtain ⟨c, rfl, q1⟩ := q1
  cases r1
  refine wpAny_truthy_bool ?_
  cases c with
  | true => exact hb pins s1 σ H1 Q I1 q1
  | false => exact ⟨.bl false, H1, I1, rfl, q1⟩
theorem pe_or (ha : PE X a ta) (hb : PE X (.BoolOp .Or (b :: rest) pos) tb) : PE X (.BoolOp .Or (a :: b :: rest) pos) (tOrV ta tb) := by
  intro pins s σ H Q I h
  refine BoolOp_or (thn (ha pins s σ H _ I h) fun v s1 ⟨x, H1, I1, r1, q1⟩ => ?_)
  obtain ⟨c, rfl, q1⟩ := q1
  cases r1
  refine wpAny_truthy_bool ?_
  cases c with
  | false => exact hb pins s1 σ H1 Q I1 q1
  | true => exact ⟨.bl true, H1, I1, rfl, q1⟩
theorem pe_not (ha : PE X a ta) : PE X (.UnaryOp .Not a pos) (tNotV ta) := by
  intro pins s σ H Q I h
  refine UnaryOp_ (thn (ha pins s σ H _ I h) fun v s1 ⟨x, H1, I1, r1, q1⟩ => ?_)
  obtain ⟨c, rfl, q1⟩ := q1
  cases r1
  exact not_of (wpAny_truthy_bool ⟨.bl (!c), H1, I1, rfl, q1⟩)
end
def SqL (K : W.Frag) (H : Hp) (a : Addr) (xs : List V) : Prop :=
  Rd H a (.lst xs) \/
    ∃ (o : Obj) (its : Array Value) (n : Nat), K.lookup a = some o /\ o.cls = .type "list" /\ o.dict = none /\ o.data = .seq its n /\ its.size <= sizeLine /\ Vals xs its.toList
def SqT (K : W.Frag) (H : Hp) (a : Addr) (xs : List V) : Prop :=
  Rd H a (.tup xs) \/
    ∃ (o : Obj) (its : Array Value) (n : Nat), K.lookup a = some o /\ o.cls = .type "tuple" /\ o.data = .seq its n /\ its.size <= sizeLine /\ Vals xs its.toList
def absV : Value -> Option V
  | .none => some .non
  | .bool b => some (.bl b)
  | .int i _ => some (.int i)
  | .str x _ => some (.str x)
  | .bytes b _ => some (.byt b)
  | .float b _ => some (.flt b)
  | .ref a => some (.ref a)
  | .type n => some (.ty n)
  | _ => none
theorem RelV.abs {x : V} {u : Value} (r : RelV x u) : absV u = some x := by
  cases x with
  | non => cases r; rfl
  | bl _ => cases r; rfl
  | int _ => obtain ⟨t, rfl⟩ := r; rfl
  | str _ => obtain ⟨t, rfl⟩ := r; rfl
  | byt _ => obtain ⟨t, rfl⟩ := r; rfl
  | flt _ => obtain ⟨t, rfl⟩ := r; rfl
  | ref _ => cases r; rfl
  | ty _ => cases r; rfl
theorem RelV.inj {x y : V} {u : Value} (r : RelV x u) (q : RelV y u) : x = y := Option.some.inj (r.abs.symm.trans q.abs)
theorem Vals.inj : ∀ {xs ys : List V} {us : List Value}, Vals xs us -> Vals ys us -> xs = ys
  | _, _, _, .nil, .nil => rfl
  | _, _, _, .cons r t, .cons r' t' => by rw [r.inj r', Vals.inj t t']
section
variable {X : Cx} {pins : List (Addr × Obj)} {σ : St} {H : Hp} {s : Shared} {a : Addr} {xs ys : List V}
theorem SqL.of {K : W.Frag} (h : H a = some (.lst xs)) : SqL K H a xs := .inl (.inl h)
theorem SqT.of {K : W.Frag} (h : H a = some (.tup xs)) : SqT K H a xs := .inl (.inl h)
theorem Inv.list (I : Inv X pins σ H s) (h : SqL X.K H a xs) : ∃ its : List Value, Vals xs its /\ PlainL s.heap a its.toArray /\ xs.length <= sizeLine := by
  rcases h with h | ⟨o, its, n, hk, hc, hd, hs, hz, r⟩
  . obtain ⟨z, its, n, r, e⟩ := h.ok I.hok
    exact ⟨its, r, ⟨_, n, e, rfl, rfl, rfl⟩, z⟩
  . refine ⟨its.toList, r, ⟨o, n, I.kIn a o hk, hc, hd, by simpa using hs⟩, ?_⟩
    have e := r.length
    simp only [Array.length_toList] at e
    omega
theorem Inv.tuple (I : Inv X pins σ H s) (h : SqT X.K H a xs) : ∃ its : List Value, Vals xs its /\ IsTup s.heap a its.toArray /\ xs.length <= sizeLine := by
  rcases h with h | ⟨o, its, n, hk, hc, hs, hz, r⟩
  . obtain ⟨z, its, r, p⟩ := h.ok I.hok
    exact ⟨its, r, p, z⟩
  . refine ⟨its.toList, r, ⟨o, I.kIn a o hk, hc, n, by simpa using hs⟩, ?_⟩
    have e := r.length
    simp only [Array.length_toList] at e
    omega
theorem Inv.list_inj (I : Inv X pins σ H s) (h : SqL X.K H a xs) (h' : SqL X.K H a ys) : xs = ys := by
  obtain ⟨its, r, ⟨o, n, e, _, _, d⟩, _⟩ := I.list h
  obtain ⟨its', r', ⟨o', n', e', _, _, d'⟩, _⟩ := I.list h'
  rw [e] at e'; cases e'
  rw [d] at d'
  injection d' with d1 _
  have : its = its' := by simpa using congrArg Array.toList d1
  subst this
  exact r.inj r'
theorem Inv.tuple_inj (I : Inv X pins σ H s) (h : SqT X.K H a xs) (h' : SqT X.K H a ys) : xs = ys := by
  obtain ⟨its, r, ⟨o, e, _, n, d⟩, _⟩ := I.tuple h
  obtain ⟨its', r', ⟨o', e', _, n', d'⟩, _⟩ := I.tuple h'
  rw [e] at e'; cases e'
  rw [d] at d'
  injection d' with d1 _
  have : its = its' := by simpa using congrArg Array.toList d1
  subst this
  exact r.inj r'
end
abbrev Cx.wish (X : Cx) (E : Value -> Shared -> Prop) : Cx := { X with xe := E }
abbrev Cx.nox (X : Cx) : Cx := X.wish fun _ _ => False
theorem Cx.Ok.wish {X : Cx} (ok : X.Ok) (E : Value -> Shared -> Prop) : (X.wish E).Ok :=
  ⟨ok.mod, ok.kind, ok.glob, ok.blt, ok.above, ok.inj, ok.has, ok.cab, ok.hd, ok.frames, ok.stk, ok.exf, ok.bs, ok.bsz, ok.noex, ok.exfs, ok.funs, ok.frf⟩
theorem Cx.Ok.unwish {X : Cx} {E : Value -> Shared -> Prop} (ok : (X.wish E).Ok) : X.Ok :=
  ⟨ok.mod, ok.kind, ok.glob, ok.blt, ok.above, ok.inj, ok.has, ok.cab, ok.hd, ok.frames, ok.stk, ok.exf, ok.bs, ok.bsz, ok.noex, ok.exfs, ok.funs, ok.frf⟩
section
variable {X : Cx} {pins : List (Addr × Obj)} {σ : St} {H : Hp} {s : Shared} {E : Value -> Shared -> Prop}
theorem Inv.wish (I : Inv X pins σ H s) (E : Value -> Shared -> Prop) : Inv (X.wish E) pins σ H s := ⟨I.ok.wish E, I.os, I.bare, I.base, I.loc, I.cell, I.free, I.freeC, I.pin, I.hok, I.len⟩
theorem Inv.unwish (I : Inv (X.wish E) pins σ H s) : Inv X pins σ H s := ⟨I.ok.unwish, I.os, I.bare, I.base, I.loc, I.cell, I.free, I.freeC, I.pin, I.hok, I.len⟩
theorem SP.unwish {D : Ends} {f : Flow} {s' : Shared} (h : SP (X.wish E) pins D f s') : SP X pins D f s' := by
  cases f with
  | next => obtain ⟨σ', H', I, q⟩ := h; exact ⟨σ', H', I.unwish, q⟩
  | brk => obtain ⟨σ', H', I, q⟩ := h; exact ⟨σ', H', I.unwish, q⟩
  | cont => obtain ⟨σ', H', I, q⟩ := h; exact ⟨σ', H', I.unwish, q⟩
  | ret u => obtain ⟨v, σ', H', I, r, q⟩ := h; exact ⟨v, σ', H', I.unwish, r, q⟩
theorem PSs.nox {st : List Stmt} {t : TS} (h : PSs X.nox st t) : PSs X st t := fun pins s σ H D I hw =>
  wpAny_mono (h pins s σ H D (I.wish _) hw) (fun _ _ q => q.unwish) fun _ _ z => False.elim z
end
section
variable {X : Cx} {st : Stmt} {rest : List Stmt} {t u : TS} {e : Expr} {te : TE} {pos : Pos}
def tNext : TS := fun D σ H => D.nx σ H
def tSeq (t u : TS) : TS := fun D σ H => t { D with nx := u D } σ H
theorem pss_nil : PSs X [] tNext := fun _ _ σ H _ I h => wpAny_execs_nil ⟨σ, H, I, h⟩
theorem pss_cons (h1 : PS X st t) (h2 : PSs X rest u) : PSs X (st :: rest) (tSeq t u) := by
  intro pins s σ H D I h
  refine wpAny_execs_cons (thn (h1 pins s σ H { D with nx := u D } I h) fun f s1 q => ?_)
  cases f with
  | next =>
    obtain ⟨σ', H', I', q⟩ := q
    exact h2 pins s1 σ' H' D I' q
  | ret v => exact q
  | brk => exact q
  | cont => exact q
theorem pss_one (h1 : PS X st t) : PSs X [st] t := by
  intro pins s σ H D I h
  refine wpAny_execs_cons (thn (h1 pins s σ H D I h) fun f s1 q => ?_)
  cases f with
  | next => exact wpAny_execs_nil q
  | ret v => exact q
  | brk => exact q
  | cont => exact q
theorem Inv.quiet {pins : List (Addr × Obj)} {σ : St} {H : Hp} {s : Shared} (I : Inv X pins σ H s) : interactive X.env = false := by simp [interactive, I.ok.kind]
def tDrop (te : TE) : TS := fun D σ H => te σ H fun _ H1 => D.nx σ H1
theorem ps_expr (he : PE X e te) (hs : swapsWith e none pos.line X.env = pure false := by rfl) : PS X (.Expr e pos) (tDrop te) := by
  intro pins s σ H D I h
  exact wpAny_Expr_any (thn (he pins s σ H _ I h) fun v s1 ⟨x, H1, I1, r1, q1⟩ => ⟨σ, H1, I1, q1⟩) I.quiet hs
def tRet (te : TE) : TS := fun D σ H => te σ H D.rt
theorem ps_ret (he : PE X e te) : PS X (.Return (some e) pos) (tRet te) := by
  intro pins s σ H D I h
  exact wpAny_Return_some (thn (he pins s σ H _ I h) fun v s1 ⟨x, H1, I1, r1, q1⟩ => ⟨x, σ, H1, I1, r1, q1⟩)
def tIfS (c : TT) (t u : TS) : TS := fun D σ H => c σ H fun b H1 => if b = true then t D σ H1 else u D σ H1
theorem ps_if {c : Expr} {a b : List Stmt} {tc : TT} (hc : PT X c tc) (ha : PSs X a t) (hb : PSs X b u) : PS X (.If c a b pos) (tIfS tc t u) := by
  intro pins s σ H D I h
  refine wpAny_If (thn (hc pins s σ H _ I h) fun d s1 ⟨H1, I1, q1⟩ => ?_)
  cases d with
  | true => exact ha pins s1 σ H1 D I1 q1
  | false => exact hb pins s1 σ H1 D I1 q1
def tNever : TS := fun _ _ _ => False
theorem ps_never : PS X st tNever := fun _ _ _ _ _ _ h => h.elim
end
abbrev TG := V -> St -> Hp -> (St -> Hp -> Prop) -> Prop
abbrev TGs := List V -> St -> Hp -> (St -> Hp -> Prop) -> Prop
def PG (X : Cx) (target : Expr) (t : TG) : Prop :=
  ∀ (pins : List (Addr × Obj)) (s : Shared) (σ : St) (H : Hp) (v : V) (u : Value) (Q : St -> Hp -> Prop), Inv X pins σ H s -> RelV v u -> t v σ H Q ->
    wpAny (model X.prog X.w) X.A (assign target X.env u) (fun _ s' => ∃ σ' H', Inv X pins σ' H' s' /\ Q σ' H') X.xe s
def PGs (X : Cx) (ts : List Expr) (t : TGs) : Prop :=
  ∀ (pins : List (Addr × Obj)) (s : Shared) (σ : St) (H : Hp) (vs : List V) (us : List Value) (Q : St -> Hp -> Prop), Inv X pins σ H s -> Vals vs us -> t vs σ H Q ->
    wpAny (model X.prog X.w) X.A (assignInOrder ((assignEach ts X.env).map (·.2)) us) (fun _ s' => ∃ σ' H', Inv X pins σ' H' s' /\ Q σ' H') X.xe s
abbrev TSet := V -> V -> V -> Hp -> (Hp -> Prop) -> Prop
def PSet (X : Cx) (t : TSet) : Prop :=
  ∀ (pins : List (Addr × Obj)) (s : Shared) (σ : St) (H : Hp) (o i v : V) (ov iv u : Value) (Q : Hp -> Prop), Inv X pins σ H s -> RelV o ov -> RelV i iv -> RelV v u -> t o i v H Q ->
    wpAny (model X.prog X.w) X.A (setItem ov iv u) (fun _ s' => ∃ H', Inv X pins σ H' s' /\ Q H') X.xe s
section
variable {X : Cx} {pos : Pos}
def gName (i : Nat) : TG := fun v σ H Q => Q (σ.set i (some v)) H
theorem pg_name {i : Nat} {x : Str} (hN : X.N.Nodup) (hi : X.N[i]? = some x) (hx : Loc X.env.scope x) (hf : X.fn x = true \/ X.env.scope.names.lookup x = some .local := by first | exact .inl rfl | exact .inr rfl | assumption) : PG X (.Name x pos) (gName i) := by
  intro pins s σ H v u Q I r h
  exact wpAny_assign_Name (store_ok I hN hi hx r (fun s' I' => ⟨_, H, I', h⟩) hf)
def gNil : TGs := fun vs σ H Q => vs = [] /\ Q σ H
def gCons (t : TG) (u : TGs) : TGs := fun vs σ H Q => ∃ v r, vs = v :: r /\ t v σ H fun σ' H' => u r σ' H' Q
theorem pgs_nil : PGs X [] gNil := by
  intro pins s σ H vs us Q I r h
  obtain ⟨e, h⟩ := h
  subst e
  cases r
  exact assignInOrder_nil ⟨σ, H, I, h⟩
theorem pgs_cons {e : Expr} {es : List Expr} {t : TG} {u : TGs} (h1 : PG X e t) (h2 : PGs X es u)
    (hs : (assignEach (e :: es) X.env).map (·.2) = assign e X.env :: (assignEach es X.env).map (·.2) := by rfl) : PGs X (e :: es) (gCons t u) := by
  intro pins s σ H vs us Q I r h
  obtain ⟨v, vr, e1, h⟩ := h
  subst e1
  cases r with
  | cons r rr =>
    rw [hs]
    refine assignInOrder_cons (thn (h1 pins s σ H _ _ _ I r h) fun _ s1 ⟨σ1, H1, I1, q1⟩ => ?_)
    exact h2 pins s1 σ1 H1 _ _ Q I1 rr q1
def gTup (K : W.Frag) (n : Nat) (t : TGs) : TG := fun v σ H Q => ∃ a xs, v = .ref a /\ SqT K H a xs /\ xs.length = n /\ t xs σ H Q
theorem pg_tup {es : List Expr} {k : Nat} {t : TGs} {n : Nat} (hc : X.calm = true) (h : PGs X es t)
    (hn : (assignEach es X.env).length = n := by rfl) (hst : (assignEach es X.env).findIdx? (·.1) = none := by rfl) : PG X (.Tuple es k pos) (gTup X.K n t) := by
  intro pins s σ H v u Q I r hw
  obtain ⟨a, xs, e1, hq, hl, hw⟩ := hw
  subst e1
  cases r
  obtain ⟨its, rv, ht, hz⟩ := I.tuple hq
  refine assign_Tuple_tuple (I.ok.hd hc) ht (by simp [hn, <- hl, rv.length]) hst fun h' hx => ?_
  have I1 : Inv X pins σ H { s with heap := h' } := I.kept (t' := s.toks) fun b o e => hx b o (Nat.ne_of_lt (Heap.lt_size e)) e
  exact h pins _ σ H xs _ Q I1 (by simpa using rv) hw
def gSub (to ti : TE) (t : TSet) : TG := fun v σ H Q => to σ H fun o H1 => ti σ H1 fun i H2 => t o i v H2 fun H3 => Q σ H3
theorem pg_sub {o i : Expr} {to ti : TE} {t : TSet} (ho : PE X o to) (hi : PE X i ti) (hs : PSet X t)
    (ha : ∀ v, assign (.Subscript o i pos) X.env v = (do
      let ov <- holding [v] (eval o X.env)
      let iv <- holding [v, ov] (eval i X.env)
      standAt pos
      holding [v, ov, iv] (setItem ov iv v)
      release [v, ov, iv] []) := by intro _; rfl) : PG X (.Subscript o i pos) (gSub to ti t) := by
  intro pins s σ H v u Q I r h
  rw [ha]
  refine wpAny_bind (wpAny_holding (thn (ho pins s σ H _ I h) fun ov s1 ⟨x, H1, I1, r1, q1⟩ => ?_))
  refine wpAny_bind (wpAny_holding (thn (hi pins s1 σ H1 _ I1 q1) fun iv s2 ⟨y, H2, I2, r2, q2⟩ => ?_))
  refine wpAny_bind (wpAny_standAt (wpAny_bind (wpAny_holding (thn (hs pins s2 σ H2 x y v ov iv u _ I2 r1 r2 r q2) fun _ s3 ⟨H3, I3, q3⟩ => ?_))))
  exact wpAny_release ⟨σ, H3, I3, q3⟩
def tAsg (te : TE) (g : TG) : TS := fun D σ H => te σ H fun x H1 => g x σ H1 D.nx
theorem ps_asg {tg e : Expr} {te : TE} {g : TG} (he : PE X e te) (hg : PG X tg g) (hs : swapsWithSole [tg] e pos.line X.env = pure false := by rfl) (hw : swappedStores [tg] e X.env = pure none := by rfl)
    (h1 : (assignEach [tg] X.env).map (·.2) = [assign tg X.env] := by rfl) : PS X (.Assign [tg] e pos) (tAsg te g) := by
  intro pins s σ H D I h
  refine wpAny_Assign_stores (thn (he pins s σ H _ I h) fun v s1 ⟨x, H1, I1, r1, q1⟩ => ?_) hs hw
  rw [h1]
  exact thn (hg pins s1 σ H1 x v _ I1 r1 q1) fun _ s2 q => q
theorem ps_set {i : Nat} {x : Str} {e : Expr} {te : TE} {pos' : Pos} (hN : X.N.Nodup) (hi : X.N[i]? = some x) (hx : Loc X.env.scope x) (he : PE X e te) (hs : swapsWith e (some (.Name x pos')) pos.line X.env = pure false := by rfl) (hf : X.fn x = true \/ X.env.scope.names.lookup x = some .local := by first | exact .inl rfl | exact .inr rfl | assumption) :
    PS X (.Assign [.Name x pos'] e pos) (tAsg te (gName i)) := by
  intro pins s σ H D I h
  refine wpAny_Assign_Name (thn (he pins s σ H _ I h) fun v s1 ⟨y, H1, I1, r1, q1⟩ => ?_) hs
  exact store_ok I1 hN hi hx r1 (fun s2 I2 => ⟨_, H1, I2, q1⟩) hf
end
section
variable {X : Cx} {pos : Pos}
end
structure It where
  go : Nat -> Hp -> Prop
  yld : Nat -> Hp -> V -> Hp -> Prop
  stop : Nat -> Hp -> Prop
def FpOk (X : Cx) (pins : List (Addr × Obj)) (H : Hp) (b : Addr) : Prop :=
  H b = none /\ b ≠ X.env.locals /\ b ∉ X.fs /\ (b ∈ X.ex \/ X.s₀.heap.objs.size <= b) /\ (∀ x c, X.env.cells.lookup x = some c -> c ≠ b) /\ ∀ p ∈ X.pn ++ pins, p.1 ≠ b
theorem Inv.fpOk {X : Cx} {pins : List (Addr × Obj)} {σ : St} {H H' : Hp} {s : Shared} {b : Addr} (I : Inv X pins σ H s) (hb : s.heap.objs.size <= b) (hn : H' b = none) : FpOk X pins H' b := by
  refine ⟨hn, Nat.ne_of_gt (Nat.lt_of_lt_of_le I.lt hb), I.nofs hb, .inr (Nat.le_trans I.sz hb), fun x c e z => ?_, fun p hp z => ?_⟩
  . obtain ⟨v, q⟩ := I.cell x c e
    exact absurd (Nat.lt_of_lt_of_le q.lt (by rw [z]; exact hb)) (Nat.lt_irrefl _)
  . exact absurd (Nat.lt_of_lt_of_le (Heap.lt_size (I.pin p hp).1) (by rw [z]; exact hb)) (Nat.lt_irrefl _)
structure Turn (P : Program) (w : World) (K : W.Frag) (tg : Expr) (J : It) (fp : List Addr) (it : Addr) (tn : Nat -> Heap -> Prop) : Prop where
  mem : it ∈ fp
  obj : ∀ i h, tn i h -> ∀ b ∈ fp, ∃ o, h.get? b = some o /\ ∀ v, o.data ≠ .cell v
  keep : ∀ i h h', tn i h -> (∀ b ∈ fp, ∀ o, h.get? b = some o -> h'.get? b = some o) -> tn i h'
  item : ∀ (X : Cx), X.prog = P -> X.w = w -> X.K = K -> X.calm = true -> ∀ (i : Nat) (pins : List (Addr × Obj)) (s : Shared) (σ : St) (H : Hp) (E : Value -> Shared -> Prop), Inv X pins σ H s -> (∀ b ∈ fp, FpOk X pins H b) -> tn i s.heap -> J.go i H ->
    wpAny (model P w) X.A (pyNext (.ref it)) (fun r s1 => ∃ u, r = some u /\
      wpAny (model P w) X.A (letOwnedTupleGo tg (.ref it) u) (fun _ s2 => ∃ x H', Inv X pins σ H' s2 /\ RelV x u /\ J.yld i H x H' /\ tn (i + 1) s2.heap /\ ∀ b ∈ fp, H' b = none) E s1) E s
  done : ∀ (X : Cx), X.prog = P -> X.w = w -> X.K = K -> X.calm = true -> ∀ (i : Nat) (pins : List (Addr × Obj)) (s : Shared) (σ : St) (H : Hp) (E : Value -> Shared -> Prop), Inv X pins σ H s -> (∀ b ∈ fp, FpOk X pins H b) -> tn i s.heap -> J.stop i H ->
    wpAny (model P w) X.A (pyNext (.ref it)) (fun r s1 => r = none /\ Inv X pins σ H s1) E s
  self : ∀ (A : Around) (i : Nat) (s : Shared) (Q : Value -> Shared -> Prop) (E : Value -> Shared -> Prop), tn i s.heap -> Q (.ref it) s -> wpAny (model P w) A (pyIter (.ref it)) Q E s
abbrev TI := St -> Hp -> (It -> Hp -> Prop) -> Prop
def PIE (X : Cx) (pins : List (Addr × Obj)) (σ : St) (tg : Expr) (R : It -> Hp -> Prop) (itv : Value) (s2 : Shared) : Prop :=
  ∃ (it : Addr) (fp : List Addr) (tn : Nat -> Heap -> Prop) (J : It) (H' : Hp), itv = .ref it /\ Inv X pins σ H' s2 /\ Turn X.prog X.w X.K tg J fp it tn /\ tn 0 s2.heap /\ (∀ b ∈ fp, FpOk X pins H' b) /\ R J H'
def PI (X : Cx) (tg iter : Expr) (wi : TI) : Prop :=
  ∀ (pins : List (Addr × Obj)) (s : Shared) (σ : St) (H : Hp) (R : It -> Hp -> Prop), Inv X pins σ H s -> wi σ H R ->
    wpAny (model X.prog X.w) X.A (eval iter X.env) (fun v s1 => wpAny (model X.prog X.w) X.A (pyIter v) (PIE X pins σ tg R) X.xe s1) X.xe s
theorem go_of {M : Model} {A : Around} {E : Value -> Shared -> Prop} {s : Shared} {tg : Expr} {it : Addr} {u : Value} {o : Obj} {n : String} {vs : Array Value} {Q : Unit -> Shared -> Prop} (ho : s.heap.get? it = some o) (hc : o.cls = .type n) (hd : o.data = .fields vs)
    (hn : ["enumerate", "zip", "dict_itemiterator", "dict_reverseitemiterator", "odict_iterator", "itertools.zip_longest", "itertools.pairwise"].contains n = false) (hQ : Q () s) : wpAny M A (letOwnedTupleGo tg (.ref it) u) Q E s := by
  unfold letOwnedTupleGo
  cases tg <;> first
    | exact wpAny_pure hQ
    | (cases u <;> first
        | exact wpAny_pure hQ
        | (refine wpAny_bind (wpAny_load ho ?_)
           rw [hc, hd]
           show wpAny M A (if (["enumerate", "zip", "dict_itemiterator", "dict_reverseitemiterator", "odict_iterator", "itertools.zip_longest", "itertools.pairwise"].contains n && vs[0]? == some (rawInt _)) = true then _ else _) Q E s
           rw [if_neg (by intro h; rw [hn, Bool.false_and] at h; cases h)]
           exact wpAny_pure hQ))
def Itl (K : W.Frag) (a : Addr) : It :=
  ⟨fun i H => ∃ xs x, SqL K H a xs /\ xs[i]? = some x, fun i H x H' => H' = H /\ ∀ xs, SqL K H a xs -> xs[i]? = some x, fun i H => ∃ xs, SqL K H a xs /\ xs.length <= i⟩
def Itt (K : W.Frag) (a : Addr) : It :=
  ⟨fun i H => ∃ xs x, SqT K H a xs /\ xs[i]? = some x, fun i H x H' => H' = H /\ ∀ xs, SqT K H a xs -> xs[i]? = some x, fun i H => ∃ xs, SqT K H a xs /\ xs.length <= i⟩
def Itr (lo : Int) (n : Nat) : It := ⟨fun i _ => i < n, fun i H x H' => H' = H /\ x = .int (lo + i), fun i _ => n <= i⟩
theorem turn_list {P : Program} {w : World} {K : W.Frag} {tg : Expr} (a it : Addr) : Turn P w K tg (Itl K a) [it] it (fun i h => h.IsListIter it a i) where
  mem := by simp
  obj := fun i h st b hb => by
    have e : b = it := by simpa using hb
    subst e
    obtain ⟨o, e, c, d⟩ := st
    exact ⟨o, e, fun v z => by rw [d] at z; cases z⟩
  keep := fun i h h' st k => st.at fun o e => k it (by simp) o e
  item := by
    intro X hP hw hK hc i pins s σ H E I hf st hg
    subst hP hw hK
    obtain ⟨xs, x, hq, hx⟩ := hg
    obtain ⟨its, rv, p, hz⟩ := I.list hq
    obtain ⟨u, hu, ru⟩ := rv.get hx
    obtain ⟨f0, f1, f2, f3, f4, f5⟩ := hf it (by simp)
    refine wpAny_pyNext_list_item st p.isList (x := u) (by simpa using hu) fun h' st' sb => ?_
    have I1 : Inv X pins σ H { s with heap := h' } := I.turned (t' := s.toks) (fun b o hb e => (sb.2 b hb).trans e) f0 f1 f3 f4 f5
    obtain ⟨o, e, c, d⟩ := id st'
    exact ⟨u, rfl, go_of (s := { s with heap := h' }) e c d (by decide) ⟨x, H, I1, ru, ⟨rfl, fun ys hy => by rw [I.list_inj hy hq]; exact hx⟩, st', fun b hb => (hf b hb).1⟩⟩
  done := by
    intro X hP hw hK hc i pins s σ H E I hf st hg
    subst hP hw hK
    obtain ⟨xs, hq, hx⟩ := hg
    obtain ⟨its, rv, p, hz⟩ := I.list hq
    obtain ⟨f0, f1, f2, f3, f4, f5⟩ := hf it (by simp)
    have hl := rv.length
    exact wpAny_pyNext_list_end (I.ok.hd hc) st p.isList (by simp; omega) fun h' eb => ⟨rfl, I.turned (t' := s.toks) (fun b o hb e => eb b o hb e) f0 f1 f3 f4 f5⟩
  self := fun _ _ _ _ _ st h => wpAny_pyIter_listiter st h
theorem turn_tuple {P : Program} {w : World} {K : W.Frag} {tg : Expr} (a it : Addr) : Turn P w K tg (Itt K a) [it] it (fun i h => h.IsTupleIter it a i) where
  mem := by simp
  obj := fun i h st b hb => by
    have e : b = it := by simpa using hb
    subst e
    obtain ⟨o, e, c, d⟩ := st
    exact ⟨o, e, fun v z => by rw [d] at z; cases z⟩
  keep := fun i h h' st k => st.at fun o e => k it (by simp) o e
  item := by
    intro X hP hw hK hc i pins s σ H E I hf st hg
    subst hP hw hK
    obtain ⟨xs, x, hq, hx⟩ := hg
    obtain ⟨its, rv, p, hz⟩ := I.tuple hq
    obtain ⟨u, hu, ru⟩ := rv.get hx
    obtain ⟨f0, f1, f2, f3, f4, f5⟩ := hf it (by simp)
    refine wpAny_pyNext_tuple_item st (show s.heap.IsTuple a its.toArray from p) (x := u) (by simpa using hu) fun h' st' sb => ?_
    have I1 : Inv X pins σ H { s with heap := h' } := I.turned (t' := s.toks) (fun b o hb e => (sb.2 b hb).trans e) f0 f1 f3 f4 f5
    obtain ⟨o, e, c, d⟩ := id st'
    exact ⟨u, rfl, go_of (s := { s with heap := h' }) e c d (by decide) ⟨x, H, I1, ru, ⟨rfl, fun ys hy => by rw [I.tuple_inj hy hq]; exact hx⟩, st', fun b hb => (hf b hb).1⟩⟩
  done := by
    intro X hP hw hK hc i pins s σ H E I hf st hg
    subst hP hw hK
    obtain ⟨xs, hq, hx⟩ := hg
    obtain ⟨its, rv, p, hz⟩ := I.tuple hq
    obtain ⟨f0, f1, f2, f3, f4, f5⟩ := hf it (by simp)
    have hl := rv.length
    exact wpAny_pyNext_tuple_end (I.ok.hd hc) st (show s.heap.IsTuple a its.toArray from p) (by simp; omega) fun h' eb => ⟨rfl, I.turned (t' := s.toks) (fun b o hb e => eb b o hb e) f0 f1 f3 f4 f5⟩
  self := fun _ _ _ _ _ st h => wpAny_pyIter_tupleiter st h
theorem turn_range {P : Program} {w : World} {K : W.Frag} {tg : Expr} (it : Addr) (lo : Int) (n : Nat) : Turn P w K tg (Itr lo n) [it] it (fun i h => IsRangeIter h it (lo + (i : Nat) * 1) ((n : Int) - (i : Nat)) 1) where
  mem := by simp
  obj := fun i h st b hb => by
    have e : b = it := by simpa using hb
    subst e
    exact ⟨_, st, fun v z => by
      have z' : Data.fields _ = Data.cell v := z
      cases z'⟩
  keep := fun i h h' st k => k it (by simp) _ st
  item := by
    intro X hP hw hK hc i pins s σ H E I hf st hg
    subst hP hw hK
    obtain ⟨f0, f1, f2, f3, f4, f5⟩ := hf it (by simp)
    have W := Walks.range (prog := X.prog) (w := X.w) (I.ok.hd hc) it lo 1 n
    refine W.item i s _ _ hg st fun v h' tk hv st' kk => ?_
    obtain ⟨t, rfl⟩ := hv
    have I1 : Inv X pins σ H { s with heap := h', toks := tk } := I.turned (fun b o hb e => kk b o (by simpa using hb) e) f0 f1 f3 f4 f5
    refine ⟨_, rfl, go_of (s := { s with heap := h', toks := tk }) (n := "range_iterator") st' rfl rfl (by decide) ⟨.int (lo + i), H, I1, ⟨t, ?_⟩, ⟨rfl, rfl⟩, st', fun b hb => (hf b hb).1⟩⟩
    rw [Int.mul_one]
  done := by
    intro X hP hw hK hc i pins s σ H E I hf st hg
    subst hP hw hK
    obtain ⟨f0, f1, f2, f3, f4, f5⟩ := hf it (by simp)
    exact wpAny_pyNext_range_end (I.ok.hd hc) st (by have : n <= i := hg; omega) fun h' eb => ⟨rfl, I.turned (t' := s.toks) (fun b o hb e => eb b o hb e) f0 f1 f3 f4 f5⟩
  self := fun _ _ _ _ _ st h => wpAny_pyIter_rangeiter st h
section
variable {X : Cx} {tg : Expr}
def iList (K : W.Frag) (tl : TE) : TI := fun σ H R => tl σ H fun x H1 => ∃ a, x = .ref a /\ (∃ xs, SqL K H1 a xs) /\ R (Itl K a) H1
def iTup (K : W.Frag) (tl : TE) : TI := fun σ H R => tl σ H fun x H1 => ∃ a, x = .ref a /\ (∃ xs, SqT K H1 a xs) /\ R (Itt K a) H1
theorem pi_list {l : Expr} {tl : TE} (hl : PE X l tl) : PI X tg l (iList X.K tl) := by
  intro pins s σ H R I h
  refine thn (hl pins s σ H _ I h) fun v s1 ⟨x, H1, I1, r1, q1⟩ => ?_
  obtain ⟨a, e, ⟨xs, hq⟩, q⟩ := q1
  subst e
  cases r1
  obtain ⟨its, rv, p, hz⟩ := I1.list hq
  refine wpAny_pyIter_list p.isList ?_
  refine ⟨s1.heap.objs.size, [s1.heap.objs.size], _, _, H1, rfl, I1.kept (t' := s1.toks) fun b o e => Heap.get?_push_of_some _ e, turn_list a _, ⟨_, Heap.get?_push_size _ rfl, rfl, rfl⟩, fun b hb => ?_, q⟩
  have e : b = s1.heap.objs.size := by simpa using hb
  subst e
  exact I1.fpOk (Nat.le_refl _) (I1.hok.fresh (Nat.le_refl _))
theorem pi_tup {l : Expr} {tl : TE} (hl : PE X l tl) : PI X tg l (iTup X.K tl) := by
  intro pins s σ H R I h
  refine thn (hl pins s σ H _ I h) fun v s1 ⟨x, H1, I1, r1, q1⟩ => ?_
  obtain ⟨a, e, ⟨xs, hq⟩, q⟩ := q1
  subst e
  cases r1
  obtain ⟨its, rv, p, hz⟩ := I1.tuple hq
  refine wpAny_pyIter_tuple (show s1.heap.IsTuple a its.toArray from p) ?_
  refine ⟨s1.heap.objs.size, [s1.heap.objs.size], _, _, H1, rfl, I1.kept (t' := s1.toks) fun b o e => Heap.get?_push_of_some _ e, turn_tuple a _, ⟨_, Heap.get?_push_size _ rfl, rfl, rfl⟩, fun b hb => ?_, q⟩
  have e : b = s1.heap.objs.size := by simpa using hb
  subst e
  exact I1.fpOk (Nat.le_refl _) (I1.hok.fresh (Nat.le_refl _))
theorem range_it {pins : List (Addr × Obj)} {σ : St} {H : Hp} {s : Shared} {R : It -> Hp -> Prop} {E : Value -> Shared -> Prop} {lo hi : Int} {t u v : Tok} {tk : Nat} (I : Inv X pins σ H s) (h1 : -(2 ^ 62) <= lo) (h2 : lo < 2 ^ 62) (h3 : -(2 ^ 62) <= hi) (h4 : hi < 2 ^ 62)
    (q : R (Itr lo (hi - lo).toNat) H) : wpAny (model X.prog X.w) X.A (pyIter (.ref s.heap.objs.size)) (PIE X pins σ tg R) E { s with heap := s.heap.push { cls := .type "range", data := .fields #[.int lo t, .int hi u, .int 1 v] }, toks := tk } := by
  refine wpAny_pyIter_range (IsRange.new ..) (small_one h1 h2 h3 h4) ?_
  have I1 : Inv X pins σ H { s with heap := s.heap.push { cls := .type "range", data := .fields #[.int lo t, .int hi u, .int 1 v] }, toks := tk } := I.kept fun b o e => Heap.get?_push_of_some _ e
  refine ⟨(s.heap.push { cls := .type "range", data := .fields #[.int lo t, .int hi u, .int 1 v] }).objs.size, [(s.heap.push { cls := .type "range", data := .fields #[.int lo t, .int hi u, .int 1 v] }).objs.size], _, _, H, rfl,
    I1.kept (t' := tk) fun b o e => Heap.get?_push_of_some _ e, turn_range _ lo (hi - lo).toNat, ?_, fun b hb => ?_, q⟩
  . have e1 : lo + ((0 : Nat) : Int) * 1 = lo := by simp
    have e2 : (((hi - lo).toNat : Nat) : Int) - ((0 : Nat) : Int) = Builtin.Range.rangeSize lo hi 1 := by rw [rangeSize_one]; split <;> omega
    show IsRangeIter _ _ (lo + ((0 : Nat) : Int) * 1) ((((hi - lo).toNat : Nat) : Int) - ((0 : Nat) : Int)) 1
    rw [e1, e2]
    exact Heap.get?_push_size _ rfl
  . have e : b = (s.heap.push { cls := .type "range", data := .fields #[.int lo t, .int hi u, .int 1 v] }).objs.size := by simpa using hb
    subst e
    exact I1.fpOk (Nat.le_refl _) (I1.hok.fresh (Nat.le_refl _))
def iRng1 (ta : TA) : TI := fun σ H R => ta σ H fun vs H1 => ∃ j : Int, vs = [.int j] /\ -(2 ^ 62) <= j /\ j < 2 ^ 62 /\ R (Itr 0 j.toNat) H1
def iRng2 (ta : TA) : TI := fun σ H R => ta σ H fun vs H1 => ∃ i j : Int, vs = [.int i, .int j] /\ (-(2 ^ 62) <= i /\ i < 2 ^ 62 /\ -(2 ^ 62) <= j /\ j < 2 ^ 62) /\ R (Itr i (j - i).toNat) H1
theorem pi_range1 {a : Expr} {ta : TA} {p pos : Pos} (hg : Gl X "range") (hm : X.mg "range" = none) (ha : PA X [a] ta) (hs : starEach [a] X.env = [(false, eval a X.env)] := by rfl) : PI X tg (.Call (.Name "range" p) [a] [] pos) (iRng1 ta) := by
  intro pins s σ H R I h
  refine Call_ (ld_blt I hg hm boot_range (PyProof.Rows.callWith_type1 (thn (ha pos pins s σ H _ I h) fun us s1 ⟨vs, H1, I1, r1, q1⟩ => ?_) hs rfl))
  obtain ⟨j, e, q1, q2, q⟩ := q1
  subst e
  cases r1 with
  | cons r rr =>
    cases rr
    obtain ⟨t, rfl⟩ := r
    exact call_range_1 (range_it I1 (by omega) (by omega) q1 q2 (by simpa using q))
theorem pi_range2 {a b : Expr} {ta : TA} {p pos : Pos} (hg : Gl X "range") (hm : X.mg "range" = none) (ha : PA X [a, b] ta) (hs : starEach [a, b] X.env = [(false, eval a X.env), (false, eval b X.env)] := by rfl) (hs2 : starEach [b] X.env = [(false, eval b X.env)] := by rfl) :
    PI X tg (.Call (.Name "range" p) [a, b] [] pos) (iRng2 ta) := by
  intro pins s σ H R I h
  refine Call_ (ld_blt I hg hm boot_range (PyProof.Rows.callWith_type1 (thn (ha pos pins s σ H _ I h) fun us s1 ⟨vs, H1, I1, r1, q1⟩ => ?_) (by rw [hs, hs2]) (by rw [hs2]; rfl)))
  obtain ⟨i, j, e, ⟨q1, q2, q3, q4⟩, q⟩ := q1
  subst e
  cases r1 with
  | cons r rr =>
    cases rr with
    | cons r' rr =>
      cases rr
      obtain ⟨t, rfl⟩ := r
      obtain ⟨t', rfl⟩ := r'
      exact call_range_2 (range_it I1 q1 q2 q3 q4 q)
def tFor (wi : TI) (g : TG) (tb : TS) : TS := fun D σ H => wi σ H fun J H1 => ∃ W : Nat -> Nat -> St -> Hp -> Prop, (∃ m, W 0 m σ H1) /\ ∀ i m σ H, W i m σ H ->
  (J.stop i H /\ D.nx σ H) \/ (J.go i H /\ ∃ N : St -> Hp -> Prop, (∀ σ' H', N σ' H' -> ∃ m', m' < m /\ W (i + 1) m' σ' H') /\ ∀ x H', J.yld i H x H' -> g x σ H' fun σ2 H2 => tb { D with nx := N, ct := N, bk := D.nx } σ2 H2)
def pinsAt (fp : List Addr) (h : Heap) : List (Addr × Obj) := fp.filterMap fun b => (h.get? b).map fun o => (b, o)
theorem mem_pinsAt {fp : List Addr} {h : Heap} {b : Addr} {o : Obj} (hb : b ∈ fp) (e : h.get? b = some o) : (b, o) ∈ pinsAt fp h := List.mem_filterMap.mpr ⟨b, hb, by rw [e]; rfl⟩
theorem of_pinsAt {fp : List Addr} {h : Heap} {p : Addr × Obj} (hp : p ∈ pinsAt fp h) : p.1 ∈ fp /\ h.get? p.1 = some p.2 := by
  obtain ⟨b, hb, e⟩ := List.mem_filterMap.mp hp
  cases q : h.get? b with
  | none => rw [q] at e; cases e
  | some o =>
    rw [q] at e
    have e' : (b, o) = p := Option.some.inj e
    subst e'
    exact ⟨hb, q⟩
theorem Inv.pinned {pins : List (Addr × Obj)} {σ : St} {H : Hp} {s : Shared} {fp : List Addr} (I : Inv X pins σ H s) (hf : ∀ b ∈ fp, FpOk X pins H b) (ho : ∀ b ∈ fp, ∃ o, s.heap.get? b = some o /\ ∀ v, o.data ≠ .cell v) : Inv X (pins ++ pinsAt fp s.heap) σ H s :=
  I.pins_of fun p hp => (List.mem_append.mp hp).elim (fun z => I.pin p (List.mem_append_right _ z)) fun z => by
    obtain ⟨hb, e⟩ := of_pinsAt z
    obtain ⟨f0, f1, f2, _⟩ := hf p.1 hb
    obtain ⟨o, e', d⟩ := ho p.1 hb
    rw [e] at e'; cases e'
    exact ⟨e, f0, f1, f2, d⟩
theorem Inv.unpinned {pins pl : List (Addr × Obj)} {σ : St} {H : Hp} {s : Shared} (I : Inv X (pins ++ pl) σ H s) : Inv X pins σ H s := I.pins_of fun p hp => I.pin p (List.mem_append_right _ (List.mem_append_left _ hp))
theorem ps_for {iter : Expr} {body : List Stmt} {wi : TI} {g : TG} {tb : TS} {pos : Pos} (hp : PassesOwn (model X.prog X.w) X.A X.env X.xe) (hc : X.calm = true) (hi : PI X tg iter wi) (hg : PG X tg g) (hb : PSs X body tb)
    (hs : ∀ x, foldedSetIterable iter X.env x = pure x := by intro _; rfl) : PS X (.For tg iter body [] pos) (tFor wi g tb) := by
  intro pins s σ H D I h
  refine wpAny_For (thn (hi pins s σ H _ I h) fun v s1 h1 => thn h1 fun itv s2 h2 => ?_) hs
  obtain ⟨it, fp, tn, J, H2, e, I2, T, st2, f2, W, ⟨m0, w0⟩, turn⟩ := h2
  subst e
  -- what stays true of the iterator's objects through the loop
  have stat : ∀ {H' : Hp}, (∀ b ∈ fp, H' b = none) -> ∀ b ∈ fp, FpOk X pins H' b := fun hn b hb => ⟨hn b hb, (f2 b hb).2⟩
  refine codeAny_forLoop_any (fun n s' => ∃ i σ' H', Inv X pins σ' H' s' /\ tn i s'.heap /\ (∀ b ∈ fp, H' b = none) /\ W i n σ' H') ?_ m0 ⟨0, σ, H2, I2, st2, fun b hb => (f2 b hb).1, w0⟩
  rintro n s3 ⟨i, σ3, H3, I3, st3, fr3, w3⟩
  rcases turn i n σ3 H3 w3 with ⟨stop, qn⟩ | ⟨go, N, hN, step⟩
  . refine wpAny_passesOwn hp (thn (T.done X rfl rfl rfl hc i pins s3 σ3 H3 X.xe I3 (stat fr3) st3 stop) fun r s4 ⟨hr, I4⟩ => ?_)
    subst hr
    exact wpAny_execs_nil ⟨σ3, H3, I4, qn⟩
  . refine wpAny_passesOwn hp (thn (T.item X rfl rfl rfl hc i pins s3 σ3 H3 X.xe I3 (stat fr3) st3 go) fun r s4 ⟨u, hr, h4⟩ => ?_)
    subst hr
    refine wpAny_passesOwn hp (thn h4 fun _ s5 ⟨x, H5, I5, r5, y5, st5, fr5⟩ => ?_)
    have I5' := I5.pinned (stat fr5) (T.obj _ _ st5)
    refine wpAny_passesOwn hp (thn (hg _ s5 σ3 H5 x u _ I5' r5 (step x H5 y5)) fun _ s6 ⟨σ6, H6, I6, q6⟩ => ?_)
    refine wpAny_passesOwn hp (thn (hb _ s6 σ6 H6 _ I6 q6) fun f s7 q7 => ?_)
    have again : ∀ {σ7 : St} {H7 : Hp}, Inv X (pins ++ pinsAt fp s5.heap) σ7 H7 s7 -> N σ7 H7 -> ∃ m, m < n /\ ∃ i σ' H', Inv X pins σ' H' s7 /\ tn i s7.heap /\ (∀ b ∈ fp, H' b = none) /\ W i m σ' H' := fun {σ7 H7} I7 n7 => by
      obtain ⟨m', hm, w7⟩ := hN σ7 H7 n7
      refine ⟨m', hm, i + 1, σ7, H7, I7.unpinned, T.keep _ _ _ st5 fun b hb o e => (I7.pin (b, o) (List.mem_append_right _ (List.mem_append_right _ (mem_pinsAt hb e)))).1, fun b hb => ?_, w7⟩
      obtain ⟨o, e, d⟩ := T.obj _ _ st5 b hb
      exact (I7.pin (b, o) (List.mem_append_right _ (List.mem_append_right _ (mem_pinsAt hb e)))).2.1
    cases f with
    | next => obtain ⟨σ7, H7, I7, n7⟩ := q7; exact again I7 n7
    | cont => obtain ⟨σ7, H7, I7, n7⟩ := q7; exact again I7 n7
    | brk => obtain ⟨σ7, H7, I7, q7⟩ := q7; exact ⟨σ7, H7, I7.unpinned, q7⟩
    | ret v => obtain ⟨x7, σ7, H7, I7, r7, q7⟩ := q7; exact ⟨x7, σ7, H7, I7.unpinned, r7, q7⟩
end
theorem for_list {K : W.Frag} {a : Addr} {xs : List V} {g : TG} {tb : TS} {D : Ends} {σ : St} {H : Hp} (Pv : Nat -> St -> Hp -> Prop) (h0 : Pv 0 σ H) (hl : ∀ i σ H, i <= xs.length -> Pv i σ H -> SqL K H a xs)
    (hs : ∀ i x σ H, xs[i]? = some x -> Pv i σ H -> g x σ H fun σ2 H2 => tb { D with nx := Pv (i + 1), ct := Pv (i + 1), bk := D.nx } σ2 H2) (hd : ∀ σ H, Pv xs.length σ H -> D.nx σ H) :
    ∃ W : Nat -> Nat -> St -> Hp -> Prop, (∃ m, W 0 m σ H) /\ ∀ i m σ H, W i m σ H ->
      ((Itl K a).stop i H /\ D.nx σ H) \/ ((Itl K a).go i H /\ ∃ N : St -> Hp -> Prop, (∀ σ' H', N σ' H' -> ∃ m', m' < m /\ W (i + 1) m' σ' H') /\ ∀ x H', (Itl K a).yld i H x H' -> g x σ H' fun σ2 H2 => tb { D with nx := N, ct := N, bk := D.nx } σ2 H2) := by
  refine ⟨fun i m σ H => m = xs.length - i /\ i <= xs.length /\ Pv i σ H, ⟨xs.length, by simp, Nat.zero_le _, h0⟩, ?_⟩
  rintro i m σ H ⟨rfl, hi, p⟩
  have q := hl i σ H hi p
  by_cases hlt : i < xs.length
  . refine .inr ⟨⟨xs, xs[i], q, by simp [hlt]⟩, Pv (i + 1), fun σ' H' p' => ⟨xs.length - (i + 1), by omega, rfl, hlt, p'⟩, fun x H' y => ?_⟩
    obtain ⟨e, y⟩ := y
    subst e
    exact hs i x σ _ (y xs q) p
  . have e : i = xs.length := by omega
    subst e
    exact .inl ⟨⟨xs, q, Nat.le_refl _⟩, hd σ H p⟩
theorem for_tup {K : W.Frag} {a : Addr} {xs : List V} {g : TG} {tb : TS} {D : Ends} {σ : St} {H : Hp} (Pv : Nat -> St -> Hp -> Prop) (h0 : Pv 0 σ H) (hl : ∀ i σ H, i <= xs.length -> Pv i σ H -> SqT K H a xs)
    (hs : ∀ i x σ H, xs[i]? = some x -> Pv i σ H -> g x σ H fun σ2 H2 => tb { D with nx := Pv (i + 1), ct := Pv (i + 1), bk := D.nx } σ2 H2) (hd : ∀ σ H, Pv xs.length σ H -> D.nx σ H) :
    ∃ W : Nat -> Nat -> St -> Hp -> Prop, (∃ m, W 0 m σ H) /\ ∀ i m σ H, W i m σ H ->
      ((Itt K a).stop i H /\ D.nx σ H) \/ ((Itt K a).go i H /\ ∃ N : St -> Hp -> Prop, (∀ σ' H', N σ' H' -> ∃ m', m' < m /\ W (i + 1) m' σ' H') /\ ∀ x H', (Itt K a).yld i H x H' -> g x σ H' fun σ2 H2 => tb { D with nx := N, ct := N, bk := D.nx } σ2 H2) := by
  refine ⟨fun i m σ H => m = xs.length - i /\ i <= xs.length /\ Pv i σ H, ⟨xs.length, by simp, Nat.zero_le _, h0⟩, ?_⟩
  rintro i m σ H ⟨rfl, hi, p⟩
  have q := hl i σ H hi p
  by_cases hlt : i < xs.length
  . refine .inr ⟨⟨xs, xs[i], q, by simp [hlt]⟩, Pv (i + 1), fun σ' H' p' => ⟨xs.length - (i + 1), by omega, rfl, hlt, p'⟩, fun x H' y => ?_⟩
    obtain ⟨e, y⟩ := y
    subst e
    exact hs i x σ _ (y xs q) p
  . have e : i = xs.length := by omega
    subst e
    exact .inl ⟨⟨xs, q, Nat.le_refl _⟩, hd σ H p⟩
theorem for_range {lo : Int} {n : Nat} {g : TG} {tb : TS} {D : Ends} {σ : St} {H : Hp} (Pv : Nat -> St -> Hp -> Prop) (h0 : Pv 0 σ H)
    (hs : ∀ i σ H, i < n -> Pv i σ H -> g (.int (lo + i)) σ H fun σ2 H2 => tb { D with nx := Pv (i + 1), ct := Pv (i + 1), bk := D.nx } σ2 H2) (hd : ∀ σ H, Pv n σ H -> D.nx σ H) :
    ∃ W : Nat -> Nat -> St -> Hp -> Prop, (∃ m, W 0 m σ H) /\ ∀ i m σ H, W i m σ H ->
      ((Itr lo n).stop i H /\ D.nx σ H) \/ ((Itr lo n).go i H /\ ∃ N : St -> Hp -> Prop, (∀ σ' H', N σ' H' -> ∃ m', m' < m /\ W (i + 1) m' σ' H') /\ ∀ x H', (Itr lo n).yld i H x H' -> g x σ H' fun σ2 H2 => tb { D with nx := N, ct := N, bk := D.nx } σ2 H2) := by
  refine ⟨fun i m σ H => m = n - i /\ i <= n /\ Pv i σ H, ⟨n, by simp, Nat.zero_le _, h0⟩, ?_⟩
  rintro i m σ H ⟨rfl, hi, p⟩
  by_cases hlt : i < n
  . refine .inr ⟨hlt, Pv (i + 1), fun σ' H' p' => ⟨n - (i + 1), by omega, rfl, hlt, p'⟩, fun x H' y => ?_⟩
    obtain ⟨e, y⟩ := y
    subst e y
    exact hs i σ _ hlt p
  . have e : i = n := by omega
    subst e
    exact .inl ⟨Nat.le_refl _, hd σ H p⟩
abbrev R2 := V -> V -> Hp -> VK -> Prop
def OpR (X : Cx) (f : Value -> Value -> Sem Value) (r : R2) : Prop :=
  ∀ (pins : List (Addr × Obj)) (s : Shared) (σ : St) (H : Hp) (x y : V) (v u : Value) (Q : VK), Inv X pins σ H s -> RelV x v -> RelV y u -> r x y H Q ->
    wpAny (model X.prog X.w) X.A (f v u) (EP X pins σ Q) X.xe s
def UnR (X : Cx) (f : Value -> Sem Value) (r : V -> Hp -> VK -> Prop) : Prop :=
  ∀ (pins : List (Addr × Obj)) (s : Shared) (σ : St) (H : Hp) (x : V) (v : Value) (Q : VK), Inv X pins σ H s -> RelV x v -> r x H Q ->
    wpAny (model X.prog X.w) X.A (f v) (EP X pins σ Q) X.xe s
def CallR (X : Cx) (f : Value) (r : List V -> Hp -> VK -> Prop) : Prop :=
  ∀ (pins : List (Addr × Obj)) (s : Shared) (σ : St) (H : Hp) (xs : List V) (us : List Value) (Q : VK), Inv X pins σ H s -> Vals xs us -> r xs H Q ->
    wpAny (model X.prog X.w) X.A (call f us) (EP X pins σ Q) X.xe s
def tOp (r : R2) (ta tb : TE) : TE := fun σ H Q => ta σ H fun x H1 => tb σ H1 fun y H2 => r x y H2 Q
def tUn (r : V -> Hp -> VK -> Prop) (ta : TE) : TE := fun σ H Q => ta σ H fun x H1 => r x H1 Q
def rI (C : Int -> Int -> Prop) (g : Int -> Int -> V) : R2 := fun x y H Q => ∃ i j, x = .int i /\ y = .int j /\ C i j /\ Q (g i j) H
def rI0 (g : Int -> Int -> V) : R2 := fun x y H Q => ∃ i j, x = .int i /\ y = .int j /\ Q (g i j) H
def rU (g : Int -> V) : V -> Hp -> VK -> Prop := fun x H Q => ∃ i, x = .int i /\ Q (g i) H
section
variable {X : Cx} {a b c : Expr} {ta tb tc : TE} {pos : Pos}
theorem binT (ha : PE X a ta) (hb : PE X b tb) {pins : List (Addr × Obj)} {s : Shared} {σ : St} {H : Hp} {R : V -> V -> Hp -> Prop} (I : Inv X pins σ H s)
    (h : ta σ H fun x H1 => tb σ H1 fun y H2 => R x y H2) {Q : Value -> Shared -> Prop} {f : Value -> Value -> Sem Value}
    (hf : ∀ v u s2 x y H2, Inv X pins σ H2 s2 -> RelV x v -> RelV y u -> R x y H2 -> wpAny (model X.prog X.w) X.A (f v u) Q X.xe s2) :
    wpAny (model X.prog X.w) X.A (eval a X.env) (fun v s₁ => wpAny (model X.prog X.w) X.A (eval b X.env) (fun u s₂ => wpAny (model X.prog X.w) X.A (f v u) Q X.xe s₂) X.xe s₁) X.xe s := by
  refine thn (ha pins s σ H _ I h) fun v s1 ⟨x, H1, I1, r1, q1⟩ => ?_
  refine thn (hb pins s1 σ H1 _ I1 q1) fun u s2 ⟨y, H2, I2, r2, q2⟩ => ?_
  exact hf v u s2 x y H2 I2 r1 r2 q2
theorem pe_op {op : Operator} {r : R2} (ho : OpR X (binaryOp op) r) (ha : PE X a ta) (hb : PE X b tb) : PE X (.BinOp a op b pos) (tOp r ta tb) := by
  intro pins s σ H Q I h
  exact wpAny_BinOp (binT ha hb I h fun v u s2 x y H2 I2 rx ry q => ho pins s2 σ H2 x y v u Q I2 rx ry q)
theorem pe_un {op : UnaryOp} {r : V -> Hp -> VK -> Prop} (ho : UnR X (unaryOp op) r) (ha : PE X a ta) : PE X (.UnaryOp op a pos) (tUn r ta) := by
  intro pins s σ H Q I h
  exact UnaryOp_ (thn (ha pins s σ H _ I h) fun v s1 ⟨x, H1, I1, r1, q1⟩ => ho pins s1 σ H1 x v Q I1 r1 q1)
theorem opI {f : Value -> Value -> Sem Value} {C : Int -> Int -> Prop} {g : Int -> Int -> Int}
    (rule : ∀ (i j : Int) (t u : Tok) (s : Shared) (Q : Value -> Shared -> Prop) (E : Value -> Shared -> Prop), C i j -> Q (.int (g i j) s.toks) { s with toks := s.toks + 1 } -> wpAny (model X.prog X.w) X.A (f (.int i t) (.int j u)) Q E s) :
    OpR X f (rI C fun i j => .int (g i j)) := by
  intro pins s σ H x y v u Q I rx ry h
  obtain ⟨i, j, rfl, rfl, hc, q⟩ := h
  obtain ⟨t, rfl⟩ := rx
  obtain ⟨t', rfl⟩ := ry
  exact rule i j t t' s _ _ hc ⟨.int (g i j), H, I.tok _, ⟨_, rfl⟩, q⟩
theorem opI0 {f : Value -> Value -> Sem Value} {g : Int -> Int -> Int}
    (rule : ∀ (i j : Int) (t u : Tok) (s : Shared) (Q : Value -> Shared -> Prop) (E : Value -> Shared -> Prop), Q (.int (g i j) s.toks) { s with toks := s.toks + 1 } -> wpAny (model X.prog X.w) X.A (f (.int i t) (.int j u)) Q E s) :
    OpR X f (rI0 fun i j => .int (g i j)) := by
  intro pins s σ H x y v u Q I rx ry h
  obtain ⟨i, j, rfl, rfl, q⟩ := h
  obtain ⟨t, rfl⟩ := rx
  obtain ⟨t', rfl⟩ := ry
  exact rule i j t t' s _ _ ⟨.int (g i j), H, I.tok _, ⟨_, rfl⟩, q⟩
theorem opB0 {f : Value -> Value -> Sem Value} {g : Int -> Int -> Bool}
    (rule : ∀ (i j : Int) (t u : Tok) (s : Shared) (Q : Value -> Shared -> Prop) (E : Value -> Shared -> Prop), Q (.bool (g i j)) s -> wpAny (model X.prog X.w) X.A (f (.int i t) (.int j u)) Q E s) :
    OpR X f (rI0 fun i j => .bl (g i j)) := by
  intro pins s σ H x y v u Q I rx ry h
  obtain ⟨i, j, rfl, rfl, q⟩ := h
  obtain ⟨t, rfl⟩ := rx
  obtain ⟨t', rfl⟩ := ry
  exact rule i j t t' s _ _ ⟨.bl (g i j), H, I, rfl, q⟩
def CPow (i j : Int) : Prop := 0 <= j /\ j <= 1000000 /\ i.natAbs < 2 ^ 64
def CMul (i j : Int) : Prop := (-(2 ^ 64) < i /\ i < 2 ^ 64) \/ (-(2 ^ 64) < j /\ j < 2 ^ 64)
theorem CMul.ok {i j : Int} (h : CMul i j) : IntMulOk i j := by
  rcases h with ⟨h1, h2⟩ | ⟨h1, h2⟩
  . exact .of_left (intBits_le_64 h1 h2)
  . exact .of_right (intBits_le_64 h1 h2)
theorem two_pow_nn (k : Nat) : (0 : Int) <= 2 ^ k := by
  rw [two_pow_cast]
  exact Int.natCast_nonneg _
theorem op_add : OpR X (binaryOp .Add) (rI0 fun i j => .int (i + j)) := opI0 fun _ _ _ _ _ _ _ q => add_int q
theorem op_sub : OpR X (binaryOp .Sub) (rI0 fun i j => .int (i - j)) := opI0 fun _ _ _ _ _ _ _ q => sub_int q
theorem op_mul : OpR X (binaryOp .Mult) (rI CMul fun i j => .int (i * j)) := opI fun _ _ _ _ _ _ _ hc q => mul_int q hc.ok
theorem op_mod : OpR X (binaryOp .Mod) (rI (fun _ j => 0 < j) fun i j => .int (i % j)) := opI fun i j _ _ _ _ _ hc q => by
  have h1 : (0 : Int) < j := hc
  exact mod_int' (by omega) (by rw [Int.fmod_eq_emod_of_nonneg i (by omega)]; exact q)
theorem op_pow : OpR X (binaryOp .Pow) (rI CPow fun i j => .int (i ^ j.toNat)) := opI fun _ _ _ _ _ _ _ hc q => pow_int_small hc.1 hc.2.1 hc.2.2 q
theorem op_shl : OpR X (binaryOp .LShift) (rI CPow fun i j => .int (i * 2 ^ j.toNat)) := opI fun _ _ _ _ _ _ _ hc q => lshift_int_small hc.1 hc.2.1 hc.2.2 q
theorem op_shr : OpR X (binaryOp .RShift) (rI (fun _ j => 0 <= j) fun i j => .int (i / 2 ^ j.toNat)) := opI fun i j _ _ _ _ _ hc q =>
  rshift_int hc (by rw [Int.fdiv_eq_ediv_of_nonneg i (two_pow_nn _)]; exact q)
theorem op_and : OpR X (binaryOp .BitAnd) (rI0 fun i j => .int (Builtin.bitAnd i j)) := opI0 fun _ _ _ _ _ _ _ q => and_int q
theorem unI {f : Value -> Sem Value} {g : Int -> Int}
    (rule : ∀ (i : Int) (t : Tok) (s : Shared) (Q : Value -> Shared -> Prop) (E : Value -> Shared -> Prop), Q (.int (g i) s.toks) { s with toks := s.toks + 1 } -> wpAny (model X.prog X.w) X.A (f (.int i t)) Q E s) :
    UnR X f (rU fun i => .int (g i)) := by
  intro pins s σ H x v Q I rx h
  obtain ⟨i, rfl, q⟩ := h
  obtain ⟨t, rfl⟩ := rx
  exact rule i t s _ _ ⟨.int (g i), H, I.tok _, ⟨_, rfl⟩, q⟩
theorem un_neg : UnR X (unaryOp .USub) (rU fun i => .int (-i)) := unI fun _ _ _ _ _ q => neg_int q
end
def scal : V -> V -> Bool
  | .non, .non => true | .non, .int _ => true | .int _, .non => true | .non, .bl _ => true | .bl _, .non => true | .non, .str _ => true | .str _, .non => true
  | .int _, .int _ => true | .bl _, .bl _ => true | .str _, .str _ => true | .byt _, .byt _ => true
  | .int _, .str _ => true | .str _, .int _ => true | .bl _, .str _ => true | .str _, .bl _ => true
  | _, _ => false
def rEq : R2 := fun x y H Q => scal x y = true /\ Q (.bl (decide (x = y))) H
theorem dec_int {i j : Int} : decide (V.int i = V.int j) = (i == j) := by
  rw [Bool.eq_iff_iff]
  simp
theorem dec_bl {i j : Bool} : decide (V.bl i = V.bl j) = (i == j) := by
  rw [Bool.eq_iff_iff]
  simp
theorem dec_str {i j : Str} : decide (V.str i = V.str j) = (i == j) := by
  rw [Bool.eq_iff_iff]
  simp
theorem dec_byt {i j : Array UInt8} : decide (V.byt i = V.byt j) = (i.toList == j.toList) := by
  rw [Bool.eq_iff_iff]
  cases i
  cases j
  simp
section
variable {X : Cx} {a b c : Expr} {ta tb tc : TE} {pos : Pos}
theorem fin_bl {pins : List (Addr × Obj)} {σ : St} {H : Hp} {s : Shared} {Q : VK} {k k' : Bool} (I : Inv X pins σ H s) (q : Q (.bl k) H) (e : k = k') : EP X pins σ Q (.bool k') s := by
  subst e
  exact ⟨.bl k, H, I, rfl, q⟩
theorem op_eq : OpR X (compareOp .Eq) rEq := by
  intro pins s σ H x y v u Q I rx ry h
  obtain ⟨hs, q⟩ := h
  cases x with
  | non =>
    cases rx
    cases y with
    | non => cases ry; exact PySem.EqNone.eq_none_none (fin_bl I q (by simp))
    | bl j => cases ry; exact PySem.EqNone.eq_none_bool (fin_bl I q (by simp))
    | int j => obtain ⟨t', rfl⟩ := ry; exact PySem.EqNone.eq_none_int (fin_bl I q (by simp))
    | str j => obtain ⟨t', rfl⟩ := ry; exact PySem.EqNone.eq_none_str (fin_bl I q (by simp))
    | _ => exact absurd (show false = true from hs) Bool.false_ne_true
  | bl i =>
    cases rx
    cases y with
    | non => cases ry; exact PySem.EqNone.eq_bool_none (fin_bl I q (by simp))
    | bl j => cases ry; exact eq_bool (fin_bl I q dec_bl)
    | str j => obtain ⟨t', rfl⟩ := ry; exact PySem.EqMixed.eq_bool_str (fin_bl I q (by simp))
    | _ => exact absurd (show false = true from hs) Bool.false_ne_true
  | int i =>
    obtain ⟨t, rfl⟩ := rx
    cases y with
    | non => cases ry; exact PySem.EqNone.eq_int_none (fin_bl I q (by simp))
    | int j => obtain ⟨t', rfl⟩ := ry; exact eq_int (fin_bl I q dec_int)
    | str j => obtain ⟨t', rfl⟩ := ry; exact PySem.EqMixed.eq_int_str (fin_bl I q (by simp))
    | _ => exact absurd (show false = true from hs) Bool.false_ne_true
  | str i =>
    obtain ⟨t, rfl⟩ := rx
    cases y with
    | non => cases ry; exact PySem.EqNone.eq_str_none (fin_bl I q (by simp))
    | bl j => cases ry; exact PySem.EqMixed.eq_str_bool (fin_bl I q (by simp))
    | int j => obtain ⟨t', rfl⟩ := ry; exact PySem.EqMixed.eq_str_int (fin_bl I q (by simp))
    | str j => obtain ⟨t', rfl⟩ := ry; exact eq_str (fin_bl I q dec_str)
    | _ => exact absurd (show false = true from hs) Bool.false_ne_true
  | byt i =>
    obtain ⟨t, rfl⟩ := rx
    cases y with
    | byt j => obtain ⟨t', rfl⟩ := ry; exact PySem.W.eq_bytes (fin_bl I q dec_byt)
    | _ => exact absurd (show false = true from hs) Bool.false_ne_true
  | _ => cases y <;> exact absurd (show false = true from hs) Bool.false_ne_true
theorem op_lt : OpR X (compareOp .Lt) (rI0 fun i j => .bl (decide (i < j))) := opB0 fun _ _ _ _ _ _ _ q => lt_int q
theorem op_le : OpR X (compareOp .LtE) (rI0 fun i j => .bl (decide (i <= j))) := opB0 fun _ _ _ _ _ _ _ q => le_int q
theorem op_gt : OpR X (compareOp .Gt) (rI0 fun i j => .bl (decide (j < i))) := opB0 fun _ _ _ _ _ _ _ q => gt_int q
theorem op_ge : OpR X (compareOp .GtE) (rI0 fun i j => .bl (decide (j <= i))) := opB0 fun _ _ _ _ _ _ _ q => ge_int q
theorem op_in_str : OpR X (compareOp .In) (fun x y H Q => ∃ i j, x = .str i /\ y = .str j /\ Q (.bl (!(Builtin.Str.occurrences j i 0 j.length 1).isEmpty)) H) := by
  intro pins s σ H x y v u Q I rx ry h
  obtain ⟨i, j, rfl, rfl, q⟩ := h
  obtain ⟨t, rfl⟩ := rx
  obtain ⟨t', rfl⟩ := ry
  exact in_str (fin_bl I q rfl)
theorem op_isN : OpR X (compareOp .Is) (fun x y H Q => y = .non /\ Q (.bl (decide (x = .non))) H) := by
  intro pins s σ H x y v u Q I rx ry h
  obtain ⟨rfl, q⟩ := h
  cases ry
  refine is_none_gen (fin_bl I q ?_)
  cases x <;> first
    | (cases rx; rfl)
    | (obtain ⟨t, rfl⟩ := rx; rfl)
theorem op_notN : OpR X (compareOp .IsNot) (fun x y H Q => y = .non /\ Q (.bl (!decide (x = .non))) H) := by
  intro pins s σ H x y v u Q I rx ry h
  obtain ⟨rfl, q⟩ := h
  cases ry
  refine isnot_none_gen (fin_bl I q ?_)
  cases x <;> first
    | (cases rx; rfl)
    | (obtain ⟨t, rfl⟩ := rx; rfl)
theorem nomark (b : Expr) {op : CmpOp} (h : op ≠ .In := by decide) (h2 : op ≠ .NotIn := by decide) : behindInMarks op b = false := by
  have e1 : (op == CmpOp.In) = false := by cases op <;> first | rfl | exact absurd rfl h
  have e2 : (op == CmpOp.NotIn) = false := by cases op <;> first | rfl | exact absurd rfl h2
  cases b <;> simp [behindInMarks, e1, e2]
theorem pe_cmpR {op : CmpOp} {r : R2} (ho : OpR X (compareOp op) r) (ha : PE X a ta) (hb : PE X b tb) (hm : behindInMarks op b = false) : PE X (.Compare a [op] [b] pos) (tOp r ta tb) := by
  intro pins s σ H Q I h
  exact wpAny_Compare1 (binT ha hb I h fun v u s2 x y H2 I2 rx ry q => ho pins s2 σ H2 x y v u Q I2 rx ry q) hm
def tTest (t : TE) : TT := fun σ H Q => t σ H fun x H' => ∃ k, x = .bl k /\ Q k H'
theorem pt_cmpR {op : CmpOp} {r : R2} (ho : OpR X (compareOp op) r) (ha : PE X a ta) (hb : PE X b tb) (hm : behindInMarks op b = false) : PT X (.Compare a [op] [b] pos) (tTest (tOp r ta tb)) := by
  intro pins s σ H Q I h
  refine wpAny_isTrue_Compare1 (thn (ha pins s σ H _ I h) fun v s1 ⟨x, H1, I1, r1, q1⟩ => thn (hb pins s1 σ H1 _ I1 q1) fun u s2 ⟨y, H2, I2, r2, q2⟩ =>
    thn (ho pins s2 σ H2 x y v u _ I2 r1 r2 q2) fun c s3 ⟨z, H3, I3, r3, k, e, q3⟩ => ?_) hm
  subst e
  cases r3
  exact wpAny_truthy_bool ⟨H3, I3, q3⟩
def tChain (r r' : R2) (ta tb tc : TE) : TE := fun σ H Q => ta σ H fun x H1 => tb σ H1 fun y H2 => r x y H2 fun z H3 => ∃ k, z = .bl k /\
  (if k = true then tc σ H3 fun w' H4 => r' y w' H4 Q else Q (.bl false) H3)
theorem pe_chain {op op' : CmpOp} {r r' : R2} (ho : OpR X (compareOp op) r) (ho' : OpR X (compareOp op') r') (ha : PE X a ta) (hb : PE X b tb) (hc : PE X c tc)
    (hm : lastMarks [op, op'] [b, c] = false := by with_unfolding_all rfl) : PE X (.Compare a [op, op'] [b, c] pos) (tChain r r' ta tb tc) := by
  intro pins s σ H Q I h
  refine Compare_chain (thn (ha pins s σ H _ I h) fun v s1 ⟨x, H1, I1, r1, q1⟩ => chain_link (thn (hb pins s1 σ H1 _ I1 q1) fun u s2 ⟨y, H2, I2, r2, q2⟩ =>
    thn (ho pins s2 σ H2 x y v u _ I2 r1 r2 q2) fun d s3 ⟨z, H3, I3, r3, k, e, q3⟩ => ?_)) hm
  subst e
  cases r3
  refine wpAny_truthy_bool ?_
  cases k with
  | false => exact ite_ff ⟨.bl false, H3, I3, rfl, q3⟩
  | true => exact ite_tt (chain_last (thn (hc pins s3 σ H3 _ I3 q3) fun w' s4 ⟨z', H4, I4, r4, q4⟩ => ho' pins s4 σ H4 y z' u w' Q I4 r2 r4 q4))
theorem pt_chain {op op' : CmpOp} {r r' : R2} (ho : OpR X (compareOp op) r) (ho' : OpR X (compareOp op') r') (ha : PE X a ta) (hb : PE X b tb) (hc : PE X c tc)
    (hm : lastMarks [op, op'] [b, c] = false := by with_unfolding_all rfl) : PT X (.Compare a [op, op'] [b, c] pos) (tTest (tChain r r' ta tb tc)) := by
  intro pins s σ H Q I h
  refine isTrue_chain (thn (ha pins s σ H _ I h) fun v s1 ⟨x, H1, I1, r1, q1⟩ => test_link (thn (hb pins s1 σ H1 _ I1 q1) fun u s2 ⟨y, H2, I2, r2, q2⟩ =>
    thn (ho pins s2 σ H2 x y v u _ I2 r1 r2 q2) fun d s3 ⟨z, H3, I3, r3, k, e, q3⟩ => ?_)) hm
  subst e
  cases r3
  refine wpAny_truthy_bool ?_
  cases k with
  | false =>
    obtain ⟨k', e', q'⟩ := q3
    cases e'
    exact ite_ff ⟨H3, I3, q'⟩
  | true =>
    refine ite_tt (test_last (thn (hc pins s3 σ H3 _ I3 q3) fun w' s4 ⟨z', H4, I4, r4, q4⟩ => thn (ho' pins s4 σ H4 y z' u w' _ I4 r2 r4 q4) fun d' s5 ⟨z2, H5, I5, r5, k2, e2, q5⟩ => ?_))
    subst e2
    cases r5
    exact wpAny_truthy_bool ⟨H5, I5, q5⟩
theorem line63 : (sizeLine : Nat) < 2 ^ 63 := by rw [sizeLine_eq]; decide
theorem op_add_str : OpR X (binaryOp .Add) (fun x y H Q => ∃ i j, x = .str i /\ y = .str j /\ i.length + j.length <= sizeLine /\ Q (.str (i ++ j)) H) := by
  intro pins s σ H x y v u Q I rx ry h
  obtain ⟨i, j, rfl, rfl, hz, q⟩ := h
  obtain ⟨t, rfl⟩ := rx
  obtain ⟨t', rfl⟩ := ry
  exact add_str (fun t' tk => ⟨.str (i ++ j), H, I.tok _, ⟨_, rfl⟩, q⟩) hz
theorem vals1 {x : V} {us : List Value} (r : Vals [x] us) : ∃ u, us = [u] /\ RelV x u := by
  cases r with
  | cons r1 r2 => cases r2; exact ⟨_, rfl, r1⟩
theorem vals2 {x y : V} {us : List Value} (r : Vals [x, y] us) : ∃ u w', us = [u, w'] /\ RelV x u /\ RelV y w' := by
  cases r with
  | cons r1 r2 =>
    cases r2 with
    | cons r3 r4 => cases r4; exact ⟨_, _, rfl, r1, r3⟩
theorem call_max2 (hc : X.calm = true) : CallR X (.builtin "max") (fun xs H Q => ∃ i j, xs = [.int i, .int j] /\ Q (.int (if j > i then j else i)) H) := by
  intro pins s σ H xs us Q I r h
  obtain ⟨i, j, rfl, q⟩ := h
  obtain ⟨u, w', rfl, ⟨t, rfl⟩, ⟨t', rfl⟩⟩ := vals2 r
  refine max_two_ints (I.ok.hd hc) fun h' tk k => ⟨_, H, I.kept k, ?_, q⟩
  by_cases hj : j > i
  . rw [if_pos hj, if_pos hj]; exact ⟨_, rfl⟩
  . rw [if_neg hj, if_neg hj]; exact ⟨_, rfl⟩
theorem call_int1 : CallR X (.type "int") (fun xs H Q => (∃ i, xs = [.int i] /\ Q (.int i) H) \/ ∃ k, xs = [.bl k] /\ Q (.int (if k then 1 else 0)) H) := by
  intro pins s σ H xs us Q I r h
  rcases h with ⟨i, rfl, q⟩ | ⟨k, rfl, q⟩
  . obtain ⟨u, rfl, t, rfl⟩ := vals1 r
    exact call_int_int ⟨.int i, H, I, ⟨_, rfl⟩, q⟩
  . obtain ⟨u, rfl, r1⟩ := vals1 r
    cases r1
    exact call_int_bool ⟨.int (if k then 1 else 0), H, I.tok _, ⟨_, rfl⟩, q⟩
end
structure ObjM (h : Heap) (x dx C : Addr) (mA : Str -> Option Value) : Prop where
  obj : h.get? x = some (W.instObj C dx)
  ns : h.Ns1 dx mA
  ne : dx ≠ x
theorem lookIn_ns {h : Heap} {dx : Addr} {mA : Str -> Option Value} (n : h.Ns1 dx mA) : ∃ od, h.get? dx = some od /\ ∀ name, PySem.W.lookIn name od = some (mA name) := by
  obtain ⟨o, es, ep, ho, hd, hk, _, hm⟩ := n
  refine ⟨o, ho, fun name => ?_⟩
  have e := hm name
  unfold nsFind findBy at e
  rw [<- Array.find?_toList] at e
  unfold PySem.W.lookIn
  rw [hd]
  dsimp only
  split
  . rename_i y q
    rw [q] at e
    exact congrArg some e
  . rename_i q
    rw [q] at e
    have a : es.toList.any (·.refKey) = false := by
      rw [List.any_eq_false]
      intro y hy
      obtain ⟨z, t, hkey⟩ := hk y (Array.mem_toList_iff.mp hy)
      simp [DictEntry.refKey, hkey]
    have a' : ¬ es.toList.any (·.refKey) = true := by rw [a]; exact Bool.false_ne_true
    rw [if_neg a']
    exact congrArg some e
theorem ObjM.look {h : Heap} {x dx C : Addr} {mA : Str -> Option Value} (I : ObjM h x dx C mA) : ∃ od, PySem.W.InstAt h x (W.instObj C dx) C (some od) /\ ∀ name, PySem.W.lookIn name od = some (mA name) :=
  let ⟨od, ho, hl⟩ := lookIn_ns I.ns
  ⟨od, ⟨I.obj, rfl, rfl, ho⟩, hl⟩
section
variable {prog : Program} {w : World} {A : Around} {E : Value -> Shared -> Prop} {s : Shared} {K : W.Frag} {x dx C f : Addr} {mA : Str -> Option Value} {name : Str} {v : Value}
theorem get_map {expr : Bool} {Q : Value -> Shared -> Prop} (X : K.In s.heap) (I : ObjM s.heap x dx C mA) (hg : W.plainGet K C name = true) (hh : PySem.W.hasDictIn K C = true)
    (ha : W.findIn K (.ref C) name = some none) (hv : mA name = some v) (hv' : PySem.W.handedIn v = true) (h : Q v { s with toks := s.toks + 1 }) :
    wpAny (model prog w) A (getAttr (.ref x) name expr) Q E s := by
  obtain ⟨od, J, hl⟩ := I.look
  exact PySem.W.get_value X J (PySem.W.plainGet_of hg).1 (PySem.W.findObj_own hh ha rfl (by rw [hl, hv])) hv' h
theorem get_meth {pl : Sem Bool} {Q : Value × List Value -> Shared -> Prop} (X : K.In s.heap) (I : ObjM s.heap x dx C mA) (hg : W.plainGet K C name = true)
    (hf : W.findIn K (.ref C) name = some (some (.ref f))) (ht : W.isFn K (.ref f) = true) (hv : mA name = none) (h : Q (.ref f, [.ref x]) s) :
    wpAny (model prog w) A (getMethod (.ref x) name pl) Q E s := by
  obtain ⟨od, J, hl⟩ := I.look
  exact PySem.W.method_fn X J (PySem.W.plainGet_of hg).1 (PySem.W.plainGet_of hg).2 hf (beq_iff_eq.mp ht) (by show (PySem.W.lookIn name od).map (·.isSome) = some false; rw [hl, hv]; rfl) h
theorem set_map {ns : List Str} {Q : Unit -> Shared -> Prop} (X : K.In s.heap) (I : ObjM s.heap x dx C mA)
    (hs : W.findIn K (.ref C) "__setattr__" = some (some (.builtin "object.__setattr__"))) (hp : PySem.W.plainOver K C = true) (ht : PySem.W.takerIn K C name = some none) (hh : PySem.W.hasDictIn K C = true)
    (hw : PySem.Within mA ns) (hsz : ns.length <= sizeLine)
    (h : ∀ h', ObjM h' x dx C (fun y => if y = name then some v else mA y) -> Heap.SameBut dx s.heap h' -> Q () { s with heap := h', toks := s.toks + 2 }) :
    wpAny (model prog w) A (setAttr (.ref x) name v) Q E s := by
  obtain ⟨od, J, hl⟩ := I.look
  refine PySem.W.set_plain X J hs (PySem.W.osa_open (s := { s with toks := s.toks + 1 }) (r := none) X J hp ht fun b => ?_)
  obtain ⟨cd, hc, hd'⟩ := PySem.W.any_some hh
  have hx : s.heap.get? x = some ⟨.ref C, some dx, .plain, #[]⟩ := I.obj
  refine wpAny_bind (wpAny_pure (wpAny_bind (wpAny_bind (wpAny_loadPart hx (wpAny_bind (PySem.W.Looks.here (s := { s with toks := s.toks + 1 }) (PySem.W.looks_clsIn X hc) ?_))))))
  rw [hd']
  refine wpAny_pure (a := some dx) (wpAny_bind (wpAny_pure (wpAny_bind ?_)))
  refine wpAny_nsSet1 (s := { s with toks := s.toks + 1 }) I.ns fun h' hn2 hs2 => ?_
  obtain ⟨oD, esD, epD, hoD, hdD, hcD⟩ := hn2.count (PySem.Within.cons name v hw)
  refine wpAny_bind (wpAny_lookBehind hoD (by rw [hdD]; exact pastItsLine_dict (Nat.le_trans hcD (by rw [List.length_cons]; omega))) ?_)
  exact wpAny_pure (h _ ⟨(hs2.2 _ (Ne.symm I.ne)).trans I.obj, hn2, I.ne⟩ hs2)
theorem make_map {R : Result -> Shared -> Prop} {vs : List Value} {kw : List (Str × Value)} (X : K.In s.heap) (hm : PySem.W.makesIn K C = true)
    (hi : W.findIn K (.ref C) "__init__" = some (some (.ref f))) (hf : PySem.W.typeIn K (.ref f) = some (.type "function"))
    (h : codeAny (model prog w) (A.under (.builtin "type.__call__" ⟨.ref C :: vs, kw⟩)) (.call (.ref f) ⟨.ref (s.heap.objs.size + 1) :: vs, kw⟩) (PySem.W.InitBack (s.heap.objs.size + 1) R)
      { s with heap := (s.heap.push W.emptyDict).push (W.instObj C s.heap.objs.size) }) :
    codeAny (model prog w) A (.call (.ref C) ⟨vs, kw⟩) R s := by
  obtain ⟨hh, g, d, t, os⟩ := s
  exact PySem.W.make_core (PySem.W.makes_of X hm) (PySem.W.looks_findIn X hi) (fun self => PySem.W.bind_fn X self hf) (.inl rfl) h
end
def putF (f : Str) (v : V) : List (Str × V) -> List (Str × V)
  | [] => [(f, v)]
  | (g, x) :: r => if g = f then (g, v) :: r else (g, x) :: putF f v r
theorem lookup_putF (f g : Str) (v : V) : ∀ fs : List (Str × V), (putF f v fs).lookup g = if g = f then some v else fs.lookup g
  | [] => by
    show List.lookup g [(f, v)] = _
    by_cases h : g = f
    . have hb : (g == f) = true := beq_iff_eq.mpr h
      simp only [List.lookup, hb, if_pos h]
    . have hb : (g == f) = false := beq_eq_false_iff_ne.mpr h
      simp only [List.lookup, hb, if_neg h]
  | (k, x) :: r => by
    have ih := lookup_putF f g v r
    rw [show putF f v ((k, x) :: r) = (if k = f then (k, v) :: r else (k, x) :: putF f v r) from rfl]
    by_cases hk : k = f
    . rw [if_pos hk]
      by_cases h : g = k
      . have hb : (g == k) = true := beq_iff_eq.mpr h
        simp only [List.lookup, hb, if_pos (h.trans hk)]
      . have hb : (g == k) = false := beq_eq_false_iff_ne.mpr h
        simp only [List.lookup, hb, if_neg (fun e : g = f => h (e.trans hk.symm))]
    . rw [if_neg hk]
      by_cases h : g = k
      . have hb : (g == k) = true := beq_iff_eq.mpr h
        simp only [List.lookup, hb, if_neg (fun e : g = f => hk (h.symm.trans e))]
      . have hb : (g == k) = false := beq_eq_false_iff_ne.mpr h
        simp only [List.lookup, hb]
        exact ih
theorem keys_putF (f : Str) (v : V) : ∀ fs : List (Str × V), f ∈ (putF f v fs).map (·.1) /\ ∀ g, g ∈ fs.map (·.1) -> g ∈ (putF f v fs).map (·.1)
  | [] => ⟨by simp [putF], fun g h => by simp at h⟩
  | (k, x) :: r => by
    obtain ⟨i1, i2⟩ := keys_putF f v r
    rw [show putF f v ((k, x) :: r) = (if k = f then (k, v) :: r else (k, x) :: putF f v r) from rfl]
    by_cases hk : k = f
    . rw [if_pos hk]
      subst hk
      exact ⟨by simp, fun g h => by simpa using h⟩
    . rw [if_neg hk]
      refine ⟨?_, fun g h => ?_⟩
      . rw [List.map_cons]
        exact List.mem_cons_of_mem _ i1
      . rw [List.map_cons] at h ⊢
        rcases List.mem_cons.mp h with e | e
        . exact List.mem_cons.mpr (.inl e)
        . exact List.mem_cons_of_mem _ (i2 g e)
theorem length_putF (f : Str) (v : V) : ∀ fs : List (Str × V), (putF f v fs).length <= fs.length + 1
  | [] => by simp [putF]
  | (k, x) :: r => by
    have ih := length_putF f v r
    rw [show putF f v ((k, x) :: r) = (if k = f then (k, v) :: r else (k, x) :: putF f v r) from rfl]
    by_cases hk : k = f
    . rw [if_pos hk, List.length_cons, List.length_cons]; omega
    . rw [if_neg hk, List.length_cons, List.length_cons]; omega
theorem RelO.some_of {v : V} {o : Option Value} (r : RelO (some v) o) : ∃ u, o = some u /\ RelV v u := by
  cases o with
  | none => exact (show False from r).elim
  | some u => exact ⟨u, rfl, r⟩
theorem RelO.none_of {o : Option Value} (r : RelO none o) : o = none := by
  cases o with
  | none => rfl
  | some u => exact (show False from r).elim
theorem handed_of {v : V} {u : Value} (r : RelV v u) : PySem.W.handedIn u = true := by
  cases v with
  | non => cases (show u = Value.none from r); rfl
  | bl b => cases (show u = Value.bool b from r); rfl
  | int i => obtain ⟨t, e⟩ := (show ∃ t, u = Value.int i t from r); cases e; rfl
  | str x => obtain ⟨t, e⟩ := (show ∃ t, u = Value.str x t from r); cases e; rfl
  | byt b => obtain ⟨t, e⟩ := (show ∃ t, u = Value.bytes b t from r); cases e; rfl
  | flt b => obtain ⟨t, e⟩ := (show ∃ t, u = Value.float b t from r); cases e; rfl
  | ref a => cases (show u = Value.ref a from r); rfl
  | ty n => cases (show u = Value.type n from r); rfl
section
variable {P : Program} {w : World} {H H' : Hp} {h h' : Heap} {a C dx : Addr} {fs fs' : List (Str × V)}
theorem ins_get (hok : HOk P w H h) (e : H a = some (.ins C dx fs)) : ∃ mA, ObjM h a dx C mA /\ (∀ f, RelO (fs.lookup f) (mA f)) /\ PySem.Within mA (fs.map (·.1)) /\ fs.length <= 1000 /\ H dx = some (.own a) := by
  obtain ⟨d, z, ne, ob, mA, n, r, q⟩ := (show ObjOk P w H h a (.ins C dx fs) from hok a _ e)
  exact ⟨mA, ⟨ob, n, ne⟩, r, q, z, d⟩
end
structure Cls (K : W.Frag) (C : Addr) : Prop where
  pg : W.plainGet K C Str.empty = true
  hd : PySem.W.hasDictIn K C = true
  po : PySem.W.plainOver K C = true
  sa : W.findIn K (.ref C) "__setattr__" = some (some (.builtin "object.__setattr__"))
theorem Cls.get {K : W.Frag} {C : Addr} (c : Cls K C) (f : Str) : W.plainGet K C f = true := c.pg
def NoAttr (K : W.Frag) (C : Addr) (f : Str) : Prop := W.findIn K (.ref C) f = some none
theorem NoAttr.taker {K : W.Frag} {C : Addr} {f : Str} (n : NoAttr K C f) : PySem.W.takerIn K C f = some none := by
  unfold PySem.W.takerIn
  rw [show W.findIn K (.ref C) f = some none from n]
  rfl
structure Meth (K : W.Frag) (C : Addr) (m : Str) (f : Addr) : Prop where
  at_ : W.findIn K (.ref C) m = some (some (.ref f))
  fn : W.isFn K (.ref f) = true
  kp : W.keepIn K (.ref f) = true
section
variable {X : Cx} {pins : List (Addr × Obj)} {σ : St} {H : Hp} {s : Shared} {a C dx : Addr} {fs : List (Str × V)} {f : Str} {v : V} {A : Around} {E : Value -> Shared -> Prop}
theorem getattr_ok {b : Bool} {Q : Value -> Shared -> Prop} (I : Inv X pins σ H s) (e : H a = some (.ins C dx fs)) (c : Cls X.K C) (n : NoAttr X.K C f) (l : fs.lookup f = some v)
    (h : ∀ u s', Inv X pins σ H s' -> RelV v u -> Q u s') : wpAny (model X.prog X.w) A (getAttr (.ref a) f b) Q E s := by
  obtain ⟨mA, O, r, _, _, _⟩ := ins_get I.hok e
  obtain ⟨u, hu, ru⟩ := RelO.some_of (v := v) (o := mA f) (by rw [<- l]; exact r f)
  exact get_map I.kIn O (c.get f) c.hd n hu (handed_of ru) (h u _ (I.tok _) ru)
theorem getmeth_ok {m : Str} {g : Addr} {pl : Sem Bool} {Q : Value × List Value -> Shared -> Prop} (I : Inv X pins σ H s) (e : H a = some (.ins C dx fs)) (c : Cls X.K C) (k : Meth X.K C m g) (l : fs.lookup m = none)
    (h : Q (.ref g, [.ref a]) s) : wpAny (model X.prog X.w) A (getMethod (.ref a) m pl) Q E s := by
  obtain ⟨mA, O, r, _, _, _⟩ := ins_get I.hok e
  have hn : mA m = none := RelO.none_of (by rw [<- l]; exact r m)
  exact get_meth I.kIn O (c.get m) k.at_ k.fn hn h
theorem setattr_ok {y : V} {u : Value} {Q : Unit -> Shared -> Prop} (I : Inv X pins σ H s) (e : H a = some (.ins C dx fs)) (c : Cls X.K C) (n : NoAttr X.K C f) (hl : fs.length < 1000) (ry : RelV y u)
    (h : ∀ s', Inv X pins σ (upd H a (.ins C dx (putF f y fs))) s' -> Q () s') : wpAny (model X.prog X.w) A (setAttr (.ref a) f u) Q E s := by
  obtain ⟨mA, O, r, wi, _, ho⟩ := ins_get I.hok e
  have hz : (fs.map (·.1)).length <= sizeLine := by rw [List.length_map, sizeLine_eq]; omega
  refine set_map I.kIn O c.sa c.po n.taker c.hd wi hz fun h' O' sb => h _ ?_
  have hd : ∃ o, h'.get? dx = some o := let ⟨o, _, _, e', _⟩ := O'.ns; ⟨o, e'⟩
  refine I.write (x := a) (e := dx) (by rw [e]; exact True.intro) (.inr ho) (fun b q hb z => (sb.2 b hb).trans z) hd ?_
  refine ⟨by rw [upd_ne O.ne]; exact ho, ?_, O.ne, O'.obj, _, O'.ns, fun g => ?_, fun g hg => ?_⟩
  . have := length_putF f y fs; omega
  . show RelO ((putF f y fs).lookup g) (if g = f then some u else mA g)
    rw [lookup_putF]
    by_cases q : g = f
    . rw [if_pos q, if_pos q]; exact ry
    . rw [if_neg q, if_neg q]; exact r g
  . by_cases q : g = f
    . rw [q]; exact (keys_putF f y fs).1
    . refine (keys_putF f y fs).2 g (wi g fun z => hg ?_)
      show (if g = f then some u else mA g) = none
      rw [if_neg q]; exact z
theorem Inv.made (I : Inv X pins σ H s) : Inv X pins σ (upd (upd H s.heap.objs.size (.own (s.heap.objs.size + 1))) (s.heap.objs.size + 1) (.ins C s.heap.objs.size []))
    { s with heap := (s.heap.push W.emptyDict).push (W.instObj C s.heap.objs.size) } := by
  have e1 : (s.heap.push W.emptyDict).get? s.heap.objs.size = some W.emptyDict := Heap.get?_push_size s.heap rfl
  have e2 : ((s.heap.push W.emptyDict).push (W.instObj C s.heap.objs.size)).get? (s.heap.objs.size + 1) = some (W.instObj C s.heap.objs.size) := by
    have := Heap.get?_push_size (s.heap.push W.emptyDict) (o := W.instObj C s.heap.objs.size) rfl
    rwa [Heap.size_push] at this
  have e3 : (s.heap.push W.emptyDict).Ns s.heap.objs.size (fun _ => none) := ⟨W.emptyDict, #[], _, e1, rfl, (fun e he => absurd he (by simp)), fun _ => rfl⟩
  have I1 := I.laid (a := s.heap.objs.size) (o := .own (s.heap.objs.size + 1)) (h' := s.heap.push W.emptyDict) (t' := s.toks) (fun b u q => Heap.get?_push_of_some _ q) (Nat.le_refl _) ⟨_, e1⟩
  refine I1.laid (a := s.heap.objs.size + 1) (o := .ins C s.heap.objs.size []) (t' := s.toks) (fun b u q => Heap.get?_push_of_some _ q) (Nat.le_of_eq (Heap.size_push _ _)) ?_
  have ne : s.heap.objs.size ≠ s.heap.objs.size + 1 := Nat.ne_of_lt (Nat.lt_succ_self _)
  refine ⟨by rw [upd_ne ne, upd_same], Nat.zero_le _, ne, e2, fun _ => none, (Heap.Ns1.of_empty e3).at fun o q => Heap.get?_push_of_some _ q, fun _ => True.intro, fun y hy => absurd rfl hy⟩
theorem attr_of {prog : Program} {w : World} {env : Env} {e : Expr} {f : Str} {pos : Pos} {s : Shared} {Q : Value -> Shared -> Prop} (hb : attributeBase e f env (eval e env) = eval e env)
    (h : wpAny (model prog w) A (eval e env) (fun o s₁ => wpAny (model prog w) A (getAttr o f true) Q E s₁) E s) : wpAny (model prog w) A (eval (.Attribute e f pos) env) Q E s :=
  Attribute_any_ h (by rw [arm_eval_Attribute, hb])
end
def tFld (K : W.Frag) (ta : TE) (f : Str) : TE := fun σ H Q => ta σ H fun x H1 => ∃ a C dx fs v, x = .ref a /\ H1 a = some (.ins C dx fs) /\ Cls K C /\ NoAttr K C f /\ fs.lookup f = some v /\ Q v H1
def sFld (K : W.Frag) (ta tv : TE) (f : Str) : TS := fun D σ H => tv σ H fun y H1 => ta σ H1 fun x H2 => ∃ a C dx fs, x = .ref a /\ H2 a = some (.ins C dx fs) /\ Cls K C /\ NoAttr K C f /\ fs.length < 1000 /\
  D.nx σ (upd H2 a (.ins C dx (putF f y fs)))
section
variable {X : Cx} {o e value : Expr} {f : Str} {pos pos' tpos : Pos} {ta tv : TE}
theorem pe_fld (he : PE X e ta) (hb : attributeBase e f X.env (eval e X.env) = eval e X.env) : PE X (.Attribute e f pos) (tFld X.K ta f) := by
  intro pins s σ H Q I h
  refine attr_of hb (thn (he pins s σ H _ I h) fun u s1 ⟨x, H1, I1, rx, a, C, dx, fs, v, ex, ea, c, n, l, q⟩ => ?_)
  subst ex
  obtain rfl : u = Value.ref a := rx
  exact getattr_ok I1 ea c n l fun u' s2 I2 ru => ⟨v, H1, I2, ru, q⟩
theorem ps_fld (ha : PE X o ta) (hv : PE X value tv) (hs : swapsWith value (some (.Attribute o f pos')) pos.line X.env = pure false) : PS X (.Assign [.Attribute o f pos'] value pos) (sFld X.K ta tv f) := by
  intro pins s σ H D I h
  refine plainObj_wpAny_Assign_Attribute (thn (hv pins s σ H _ I h) fun u s1 ⟨y, H1, I1, ry, q⟩ => thn (ha pins s1 σ H1 _ I1 q) fun ov s2 ⟨x, H2, I2, rx, a, C, dx, fs, ex, ea, c, n, l, q2⟩ => ?_) hs
  subst ex
  obtain rfl : ov = Value.ref a := rx
  exact setattr_ok I2 ea c n l ry fun s3 I3 => ⟨σ, _, I3, q2⟩
theorem methcall_of {pl : Sem Bool} {m : Str} {apos : Pos} {args : List Expr} {pins : List (Addr × Obj)} {s : Shared} {σ : St} {H : Hp} {Q : Value -> Shared -> Prop} {te : TE} (he : PE X e te) (I : Inv X pins σ H s)
    (h : te σ H fun x H1 => ∃ a C dx fs g, x = .ref a /\ H1 a = some (.ins C dx fs) /\ Cls X.K C /\ Meth X.K C m g /\ fs.lookup m = none /\
      ∀ s1, Inv X pins σ H1 s1 -> wpAny (model X.prog X.w) X.A (callWith pos (.ref g) [.ref a] (backTo pos (starEach args X.env)) (backToKw pos (keywordEach [] X.env))) Q X.xe s1)
    (ht : eval (.Call (.Attribute e m apos) args [] pos) X.env = (do
      let ov <- eval e X.env
      standAt apos.atName
      let (f, first) <- holding [ov] (getMethod ov m pl)
      callWith pos f first (backTo pos (starEach args X.env)) (backToKw pos (keywordEach [] X.env)))) :
    wpAny (model X.prog X.w) X.A (eval (.Call (.Attribute e m apos) args [] pos) X.env) Q X.xe s := by
  refine PySem.W.methodCall_KW (pl := pl) (thn (he pins s σ H _ I h) fun u s1 ⟨x, H1, I1, rx, a, C, dx, fs, g, ex, ea, c, k, l, q⟩ => ?_) ht
  subst ex
  obtain rfl : u = Value.ref a := rx
  exact getmeth_ok I1 ea c k l (q s1 I1)
end
section
variable {X : Cx} {pins : List (Addr × Obj)} {σ : St} {H : Hp} {s : Shared} {A : Around} {E : Value -> Shared -> Prop} {Q : Value -> Shared -> Prop} {c : Value} {b : Bool}
inductive TyOf (K : W.Frag) (H : Hp) : V -> Value -> Prop where
  | non : TyOf K H .non (.type "NoneType")
  | bl (x : Bool) : TyOf K H (.bl x) (.type "bool")
  | int (i : Int) : TyOf K H (.int i) (.type "int")
  | str (x : Str) : TyOf K H (.str x) (.type "str")
  | flt (x : UInt64) : TyOf K H (.flt x) (.type "float")
  | lst {a : Addr} {xs : List V} (e : H a = some (.lst xs)) : TyOf K H (.ref a) (.type "list")
  | frz {a : Addr} {o : Obj} {xs : List V} (e : H a = some (.frz o (.lst xs))) : TyOf K H (.ref a) (.type "list")
  | tup {a : Addr} {xs : List V} (e : H a = some (.tup xs)) : TyOf K H (.ref a) (.type "tuple")
  | dK {a : Addr} {kvs : List (Key × V)} (e : H a = some (.dK kvs)) : TyOf K H (.ref a) (.type "dict")
  | dT {a : Addr} {kvs : List (List Key × V)} (e : H a = some (.dT kvs)) : TyOf K H (.ref a) (.type "dict")
  | ins {a C dx : Addr} {fs : List (Str × V)} (e : H a = some (.ins C dx fs)) (cl : Cls K C) (ha : W.findIn K (.ref C) "__class__" = some (some (.builtin "object.__class__")))
      (hn : PySem.W.specialIn K (.builtin "object.__class__") "__get__" = some (some (.builtin "getset_descriptor.__get__"))) (htk : PySem.W.takesIn K (.builtin "object.__class__") = some true)
      (hm : PySem.W.mroIn K C (.type "object") = some true) : TyOf K H (.ref a) (.ref C)
theorem isinst_ok {x : V} {u t : Value} (I : Inv X pins σ H s) (rx : RelV x u) (ty : TyOf X.K H x t) (e : W.kitOne X.K t c = some b) (h : ∀ tk, Q (.bool b) { s with toks := tk }) :
    wpAny (model X.prog X.w) A (call (.builtin "isinstance") [u, c]) Q E s := by
  cases ty with
  | non => cases (show u = Value.none from rx); exact PySem.W.kia_one PySem.W.kitx_none I.kIn True.intro e (fun z => nomatch z) h
  | bl y => cases (show u = Value.bool y from rx); exact PySem.W.kia_one PySem.W.kitx_bool I.kIn True.intro e (fun z => nomatch z) h
  | int i => obtain ⟨t, q⟩ := (show ∃ t, u = Value.int i t from rx); cases q; exact PySem.W.kia_one PySem.W.kitx_int I.kIn True.intro e (fun z => nomatch z) h
  | str y => obtain ⟨t, q⟩ := (show ∃ t, u = Value.str y t from rx); cases q; exact PySem.W.kia_one PySem.W.kitx_str I.kIn True.intro e (fun z => nomatch z) h
  | flt y => obtain ⟨t, q⟩ := (show ∃ t, u = Value.float y t from rx); cases q; exact PySem.W.kia_one PySem.W.kitx_float I.kIn True.intro e (fun z => nomatch z) h
  | @lst a xs ea =>
    cases (show u = Value.ref a from rx)
    obtain ⟨_, _, n, _, h1⟩ := (show ObjOk X.prog X.w H s.heap a (.lst xs) from I.hok a _ ea)
    exact PySem.W.kia_one PySem.W.kitx_list I.kIn ⟨_, h1, rfl⟩ e (fun z => nomatch z) h
  | @frz a ob xs ea =>
    cases (show u = Value.ref a from rx)
    obtain ⟨_, _, _, n, _, h1⟩ := (show ObjOk X.prog X.w H s.heap a (.frz ob (.lst xs)) from I.hok a _ ea)
    exact PySem.W.kia_one PySem.W.kitx_list I.kIn ⟨_, h1, rfl⟩ e (fun z => nomatch z) h
  | @tup a xs ea =>
    cases (show u = Value.ref a from rx)
    obtain ⟨_, _, _, p⟩ := (show ObjOk X.prog X.w H s.heap a (.tup xs) from I.hok a _ ea)
    obtain ⟨o, h1, h2, _⟩ := p
    exact PySem.W.kia_one PySem.W.kitx_tuple I.kIn ⟨o, h1, h2⟩ e (fun z => nomatch z) h
  | @dK a kvs ea =>
    cases (show u = Value.ref a from rx)
    obtain ⟨_, _, vs, _, p⟩ := (show ObjOk X.prog X.w H s.heap a (.dK kvs) from I.hok a _ ea)
    obtain ⟨o, es, ep, h1, h2, _⟩ := p
    exact PySem.W.kia_one PySem.W.kitx_dict I.kIn ⟨o, h1, h2.1⟩ e (fun z => nomatch z) h
  | @dT a kvs ea =>
    cases (show u = Value.ref a from rx)
    obtain ⟨_, _, xs, _, o, es, ep, h1, h2, _⟩ := (show ObjOk X.prog X.w H s.heap a (.dT kvs) from I.hok a _ ea)
    exact PySem.W.kia_one PySem.W.kitx_dict I.kIn ⟨o, h1, h2.1⟩ e (fun z => nomatch z) h
  | @ins a C dx fs ea cl ha hn htk hm =>
    cases (show u = Value.ref a from rx)
    obtain ⟨mA, O, _⟩ := ins_get I.hok ea
    obtain ⟨od, J, _⟩ := O.look
    exact PySem.W.kia_one (PySem.W.kitx_own (cl.get _) cl.hd ha hn htk hm) I.kIn J e (fun z => nomatch z) h
end
structure Room (k : Nat) (A : Around) : Prop where
  hd : A.handled = none
  dp : A.depth + 3 * k + 5 < recursionLimit
  un : A.units + 16 * k + 200 < cLine
theorem Room.mono {j k : Nat} {A : Around} (r : Room k A) (h : j <= k) : Room j A := ⟨r.hd, by have := r.dp; omega, by have := r.un; omega⟩
theorem Room.deeper {k : Nat} {A : Around} (r : Room (k + 1) A) (env : Env) : Room k (A.deeper env) :=
  ⟨r.hd, by have := r.dp; show A.depth + 1 + 3 * k + 5 < _; omega, by have := r.un; show A.units + 3 + 16 * k + 200 < _; omega⟩
theorem make_depth {A : Around} {C : Addr} {us : List Value} {kw : List (Str × Value)} : (A.under (.builtin "type.__call__" ⟨.ref C :: us, kw⟩)).depth = A.depth + 1 := by
  first | rfl | simp [Around.under, Code.weight, Code.isCreation, Code.isGuard, Code.isCaller, Code.frames, Code.isFrame, guardIds]
theorem make_units {A : Around} {C : Addr} {us : List Value} {kw : List (Str × Value)} : (A.under (.builtin "type.__call__" ⟨.ref C :: us, kw⟩)).units = A.units + 1 := by
  first | rfl | simp [Around.under, Code.cUnits, Code.frames, Code.isFrame]
theorem Room.make {k : Nat} {A : Around} (r : Room (k + 1) A) (C : Addr) (us : List Value) (kw : List (Str × Value)) : Room k (A.under (.builtin "type.__call__" ⟨.ref C :: us, kw⟩)) :=
  ⟨r.hd, by have := r.dp; rw [make_depth]; omega, by have := r.un; rw [make_units]; omega⟩
theorem Room.depth {k : Nat} {A : Around} (r : Room k A) : A.depth < recursionLimit := by have := r.dp; omega
theorem Room.units {k : Nat} {A : Around} (r : Room k A) : A.units + 64 < cLine := by have := r.un; omega
def tNil : TA := fun _ H Q => Q [] H
def tCons (ta : TE) (tr : TA) : TA := fun σ H Q => ta σ H fun x H1 => tr σ H1 fun xs H2 => Q (x :: xs) H2
section
variable {X : Cx} {e : Expr} {es : List Expr} {te : TE} {t : TA} {pos : Pos}
theorem pa_nil : PA X [] tNil := fun _ _ _ _ H Q I h => Calls.spliced_nil ⟨[], H, I, .nil, h⟩
theorem pa_cons (ha : PE X e te) (hr : PA X es t) (hs : starEach (e :: es) X.env = (false, eval e X.env) :: starEach es X.env := by rfl) : PA X (e :: es) (tCons te t) := by
  intro pos pins s σ H Q I h
  rw [hs]
  show wpAny _ _ (spliced ((false, eval e X.env) :: backTo pos (starEach es X.env))) _ _ s
  refine Calls.spliced_cons (thn (ha pins s σ H _ I h) fun u s1 ⟨x, H1, I1, r1, q1⟩ => ?_)
  exact thn (hr pos pins s1 σ H1 _ I1 q1) fun us s2 ⟨xs, H2, I2, r2, q2⟩ => ⟨x :: xs, H2, I2, .cons r1 r2, q2⟩
def tTup (t : TA) : TE := fun σ H Q => t σ H fun xs H1 => xs.length <= sizeLine /\ ∀ p, H1 p = none -> Q (.ref p) (upd H1 p (.tup xs))
def tLst (t : TA) : TE := fun σ H Q => t σ H fun xs H1 => xs.length <= sizeLine /\ ∀ p, H1 p = none -> Q (.ref p) (upd H1 p (.lst xs))
theorem pe_tup {x1} (h : PA X es t) : PE X (.Tuple es x1 pos) (tTup t) := by
  intro pins s σ H Q I hq
  refine wpAny_Tuple_spliced (thn (h pos pins s σ H _ I hq) fun us s1 ⟨xs, H1, I1, r, z, q⟩ => ⟨by rw [<- r.length]; exact z, ?_⟩)
  have hf : H1 s1.heap.objs.size = none := I1.hok.fresh (Nat.le_refl _)
  refine ⟨.ref s1.heap.objs.size, upd H1 s1.heap.objs.size (.tup xs), I1.laid (t' := s1.toks) (fun b u e => Heap.get?_push_of_some _ e) (Nat.le_refl _) ?_, rfl, q _ hf⟩
  exact ⟨z, us, r, ⟨_, Heap.get?_push_size _ rfl, rfl, _, rfl⟩⟩
theorem pe_lst (h : PA X es t) : PE X (.List es pos) (tLst t) := by
  intro pins s σ H Q I hq
  refine wpAny_List_spliced (thn (h pos pins s σ H _ I hq) fun us s1 ⟨xs, H1, I1, r, z, q⟩ => ⟨by rw [<- r.length]; exact z, ?_⟩)
  have hf : H1 s1.heap.objs.size = none := I1.hok.fresh (Nat.le_refl _)
  refine ⟨.ref s1.heap.objs.size, upd H1 s1.heap.objs.size (.lst xs), I1.laid (t' := s1.toks) (fun b u e => Heap.get?_push_of_some _ e) (Nat.le_refl _) ?_, rfl, q _ hf⟩
  exact ⟨z, us, 0, r, Heap.get?_push_size _ rfl⟩
end
abbrev Sp := List V -> Hp -> VK -> XK -> Prop
abbrev CXT := List Env -> Hp -> Shared -> XK -> Value -> Shared -> Prop
structure Env0 (P : Program) (w : World) (K : W.Frag) (mg : Str -> Option Value) (base : Heap) (A : Around) (outer : List Env) (s : Shared) (H : Hp) : Prop where
  frames : A.frames = some outer
  mod : Mod K mg base
  bs : ∀ b o, base.get? b = some o -> s.heap.get? b = some o /\ H b = none
  bsz : base.objs.size <= s.heap.objs.size
  funs : s.heap.FunFrames base outer
  frf : ∀ b ∈ frs outer, H b = none
  hok : HOk P w H s.heap
  bare : AllBare s.gens
def CE (outer : List Env) (P : Program) (w : World) (H : Hp) (s : Shared) (Q : VK) (u : Value) (s' : Shared) : Prop :=
  ∃ v H', s'.os = s.os /\ AllBare s'.gens /\ Un (frs outer) [] H H' s.heap s'.heap /\ HOk P w H' s'.heap /\ RelV v u /\ Q v H'
def CR (CX : CXT) (outer : List Env) (P : Program) (w : World) (H : Hp) (s : Shared) (Q : VK) (E : XK) (r : Result) (s' : Shared) : Prop :=
  match r with
  | .ok (.ret u) => CE outer P w H s Q u s'
  | .ok _ => False
  | .error e => CX outer H s E e s'
structure FnOk (P : Program) (w : World) (K : W.Frag) (mg : Str -> Option Value) (base : Heap) (CX : CXT) (k : Nat) (f : Addr) (fd : FuncData) (ps : List Str) (sp : Sp) : Prop where
  len : ∀ vs H Q E, sp vs H Q E -> vs.length = ps.length
  run : ∀ (A : Around) (outer : List Env) (s : Shared) (H : Hp) (args : Args) (us : List Value) (vs : List V) (Q : VK) (E : XK), Room k A -> Env0 P w K mg base A outer s H -> BindsTo s fd args (ps.zip us) -> Vals vs us -> sp vs H Q E ->
    codeAny (model P w) A (.call (.ref f) args) (CR CX outer P w H s Q E) s
theorem FnOk.mono {P : Program} {w : World} {K : W.Frag} {mg : Str -> Option Value} {base : Heap} {CX : CXT} {j k : Nat} {f : Addr} {fd : FuncData} {ps : List Str} {sp : Sp} (F : FnOk P w K mg base CX j f fd ps sp) (h : j <= k) :
    FnOk P w K mg base CX k f fd ps sp := ⟨F.len, fun A outer s H args us vs Q E hr => F.run A outer s H args us vs Q E (hr.mono h)⟩
theorem Env0.make {P : Program} {w : World} {K : W.Frag} {mg : Str -> Option Value} {base : Heap} {A : Around} {outer : List Env} {s : Shared} {H : Hp} (e : Env0 P w K mg base A outer s H) (C : Addr) (us : List Value) (kw : List (Str × Value)) :
    Env0 P w K mg base (A.under (.builtin "type.__call__" ⟨.ref C :: us, kw⟩)) outer s H := ⟨by first | exact e.frames | (simpa [Around.under, Code.envs, Code.isFrame, pushEnvs] using e.frames), e.mod, e.bs, e.bsz, e.funs, e.frf, e.hok, e.bare⟩
section
variable {X : Cx} {pins : List (Addr × Obj)} {σ : St} {H : Hp} {s s' : Shared}
theorem Inv.env0 (I : Inv X pins σ H s) : Env0 X.prog X.w X.K X.mg X.base X.A X.stack s H :=
  ⟨I.ok.frames, I.ok.mod, I.bs, Nat.le_trans I.ok.bsz I.sz, I.stack, I.stkFree, I.hok, I.bare⟩
theorem Inv.after {Q : VK} {u : Value} (I : Inv X pins σ H s) (h : CE X.stack X.prog X.w H s Q u s') : EP X pins σ Q u s' := by
  obtain ⟨v, H', os, bare, un, hok, r, q⟩ := h
  obtain ⟨hh, g, d, t, os'⟩ := s'
  obtain rfl : os' = s.os := os
  exact ⟨v, H', I.call (h' := hh) (g' := g) (d' := d) (t' := t) (ch := []) un hok bare (fun b z => absurd z (by simp)), r, q⟩
end
def tCall (sp : Sp) (dvs : List V) (E : XK) (t : TA) : TE := fun σ H Q => t σ H fun vs H1 => sp (vs ++ dvs) H1 Q E
def tMeth (C : Addr) (m : Str) (sp : Sp) (dvs : List V) (E : XK) (ta : TE) (t : TA) : TE := fun σ H Q => ta σ H fun x H1 => ∃ a dx fs, x = .ref a /\ H1 a = some (.ins C dx fs) /\ fs.lookup m = none /\
  t σ H1 fun vs H2 => sp (x :: (vs ++ dvs)) H2 Q E
def tMake (C : Addr) (sp : Sp) (dvs : List V) (E : XK) (t : TA) : TE := fun σ H Q => t σ H fun vs H1 => ∀ x dx, H1 x = none -> H1 dx = none -> dx ≠ x ->
  sp (.ref x :: (vs ++ dvs)) (upd (upd H1 dx (.own x)) x (.ins C dx [])) (fun v H2 => v = .non /\ Q (.ref x) H2) E
def Binds (K : W.Frag) (fd : FuncData) (ps : List Str) (ds : List Value) : Prop :=
  ∀ (s : Shared) (us : List Value), K.In s.heap -> (us ++ ds).length = ps.length -> BindsTo s fd ⟨us, []⟩ (ps.zip (us ++ ds))
theorem Binds.all {K : W.Frag} {fd : FuncData} {ps : List Str} (h : ∀ us : List Value, us.length = ps.length -> bindArgs fd ⟨us, []⟩ = pure (ps.zip us)) : Binds K fd ps [] := fun s us _ hl => by
  rw [List.append_nil] at hl ⊢
  exact .of_eq (h us hl)
def Passes (CX : CXT) (X : Cx) (E : XK) : Prop := ∀ (pins : List (Addr × Obj)) (σ : St) (H : Hp) (s : Shared) (e : Value) (s' : Shared), Inv X pins σ H s -> CX X.stack H s E e s' -> X.xe e s'
section
variable {X : Cx} {CX : CXT} {k : Nat} {f C : Addr} {fd : FuncData} {ps : List Str} {sp : Sp} {dvs : List V} {ds : List Value} {E : XK} {x m : Str} {p pos apos : Pos} {e o : Expr} {es : List Expr} {ta : TE} {t : TA}
theorem run_fn {pins : List (Addr × Obj)} {σ : St} {H : Hp} {s : Shared} {Q : VK} {us : List Value} {vs : List V} (F : FnOk X.prog X.w X.K X.mg X.base CX k f fd ps sp) (hr : Room k X.A) (hb : Binds X.K fd ps ds) (hd : Vals dvs ds) (hx : Passes CX X E)
    (I : Inv X pins σ H s) (r : Vals vs us) (h : sp (vs ++ dvs) H Q E) : wpAny (model X.prog X.w) X.A (call (.ref f) us) (EP X pins σ Q) X.xe s := by
  have r2 : Vals (vs ++ dvs) (us ++ ds) := r.append hd
  have hl : (us ++ ds).length = ps.length := by rw [<- r2.length]; exact F.len _ _ _ _ h
  refine wpAny_call (codeAny_mono (F.run X.A X.stack s H ⟨us, []⟩ (us ++ ds) (vs ++ dvs) Q E hr I.env0 (hb s us I.kIn hl) r2 h) fun r s' hq => ?_)
  cases r with
  | error e => exact hx pins σ H s e s' I hq
  | ok fl =>
    cases fl with
    | ret u => exact I.after hq
    | next => exact False.elim hq
    | brk => exact False.elim hq
    | cont => exact False.elim hq
theorem pe_call (F : FnOk X.prog X.w X.K X.mg X.base CX k f fd ps sp) (hr : Room k X.A) (hg : Gl X x) (hm : X.mg x = some (.ref f)) (hk : W.keepIn X.K (.ref f) = true) (hb : Binds X.K fd ps ds) (hd : Vals dvs ds) (hx : Passes CX X E)
    (ha : PA X (e :: es) t) (hdb : (x == ("__debug__" : Str)) = false := by decide) (he : starEach (e :: es) X.env = (false, eval e X.env) :: starEach es X.env := by rfl) (hpl : (backTo pos (starEach es X.env)).any (·.1) = false := by rfl) :
    PE X (.Call (.Name x p) (e :: es) [] pos) (tCall sp dvs E t) := by
  intro pins s σ H Q I h
  refine wpAny_Call_Name_kw (ld_glob I hg hm ?_ hdb)
  refine PySem.W.callWith_K (h₀ := X.base) I.ok.mod.kin hk (thn (ha pos pins s σ H _ I h) fun us s1 ⟨vs, H1, I1, r, q⟩ => ⟨I1.kIn, ?_⟩) he hpl
  exact run_fn F hr hb hd hx I1 r q
theorem pe_meth {pl : Sem Bool} (he : PE X o ta) (c : Cls X.K C) (hm : Meth X.K C m f) (F : FnOk X.prog X.w X.K X.mg X.base CX k f fd ps sp) (hr : Room k X.A) (hb : Binds X.K fd ps ds) (hd : Vals dvs ds) (hx : Passes CX X E) (ha : PA X (e :: es) t)
    (hst : starEach (e :: es) X.env = (false, eval e X.env) :: starEach es X.env := by rfl) (hpl : (backTo pos (starEach es X.env)).any (·.1) = false := by rfl)
    (ht : eval (.Call (.Attribute o m apos) (e :: es) [] pos) X.env = (do
      let ov <- eval o X.env
      standAt apos.atName
      let (f, first) <- holding [ov] (getMethod ov m pl)
      callWith pos f first (backTo pos (starEach (e :: es) X.env)) (backToKw pos (keywordEach [] X.env))) := by rfl) :
    PE X (.Call (.Attribute o m apos) (e :: es) [] pos) (tMeth C m sp dvs E ta t) := by
  intro pins s σ H Q I h
  refine PySem.W.methodCall_KW (pl := pl) (thn (he pins s σ H _ I h) fun u s1 ⟨x, H1, I1, rx, a, dx, fs, ex, ea, l, q⟩ => ?_) ht
  subst ex
  obtain rfl : u = Value.ref a := rx
  refine getmeth_ok I1 ea c hm l ?_
  refine PySem.W.callWith_K (first := [.ref a]) (h₀ := X.base) I.ok.mod.kin hm.kp (thn (ha pos pins s1 σ H1 _ I1 q) fun us s2 ⟨vs, H2, I2, r, q2⟩ => ⟨I2.kIn, ?_⟩) hst hpl
  exact run_fn (us := .ref a :: us) (vs := .ref a :: vs) F hr hb hd hx I2 (.cons rfl r) q2
structure Mk (K : W.Frag) (C f : Addr) : Prop where
  makes : PySem.W.makesIn K C = true
  init : W.findIn K (.ref C) "__init__" = some (some (.ref f))
  fn : W.isFn K (.ref f) = true
  kp : W.keepIn K (.ref C) = true
theorem run_make {pins : List (Addr × Obj)} {σ : St} {H : Hp} {s : Shared} {Q : VK} {us : List Value} {vs : List V} (M : Mk X.K C f) (F : FnOk X.prog X.w X.K X.mg X.base CX k f fd ps sp) (hr : Room (k + 1) X.A) (hb : Binds X.K fd ps ds) (hd : Vals dvs ds)
    (hx : Passes CX X E) (I : Inv X pins σ H s) (r : Vals vs us)
    (h : ∀ x dx, H x = none -> H dx = none -> dx ≠ x -> sp (.ref x :: (vs ++ dvs)) (upd (upd H dx (.own x)) x (.ins C dx [])) (fun v H2 => v = .non /\ Q (.ref x) H2) E) :
    wpAny (model X.prog X.w) X.A (call (.ref C) us) (EP X pins σ Q) X.xe s := by
  have hq := h (s.heap.objs.size + 1) s.heap.objs.size (I.hok.fresh (Nat.le_succ _)) (I.hok.fresh (Nat.le_refl _)) (Nat.ne_of_lt (Nat.lt_succ_self _))
  have I2 := Inv.made (C := C) I
  have r2 : Vals (V.ref (s.heap.objs.size + 1) :: (vs ++ dvs)) (Value.ref (s.heap.objs.size + 1) :: (us ++ ds)) := .cons rfl (r.append hd)
  have hl : (Value.ref (s.heap.objs.size + 1) :: us ++ ds).length = ps.length := by
    have e := r2.length
    rw [F.len _ _ _ _ hq] at e
    exact e.symm
  refine wpAny_call (make_map (f := f) I.kIn M.makes M.init (beq_iff_eq.mp M.fn) (codeAny_mono (F.run _ X.stack _ _ ⟨Value.ref (s.heap.objs.size + 1) :: us, []⟩ (Value.ref (s.heap.objs.size + 1) :: (us ++ ds)) _ _ E (hr.make C us [])
    (I2.env0.make C us []) (hb _ (Value.ref (s.heap.objs.size + 1) :: us) I2.kIn hl) r2 hq) fun r s' hq' => ?_))
  cases r with
  | error e => exact hx pins σ _ _ e s' I2 hq'
  | ok fl =>
    cases fl with
    | ret u =>
      obtain ⟨v, H', I3, rv, ev, q3⟩ := I2.after hq'
      subst ev
      exact ⟨rv, ⟨V.ref (s.heap.objs.size + 1), H', I3, rfl, q3⟩⟩
    | next => exact False.elim hq'
    | brk => exact False.elim hq'
    | cont => exact False.elim hq'
theorem pe_make (M : Mk X.K C f) (F : FnOk X.prog X.w X.K X.mg X.base CX k f fd ps sp) (hr : Room (k + 1) X.A) (hg : Gl X x) (hm : X.mg x = some (.ref C)) (hb : Binds X.K fd ps ds) (hd : Vals dvs ds) (hx : Passes CX X E)
    (ha : PA X (e :: es) t) (hdb : (x == ("__debug__" : Str)) = false := by decide) (he : starEach (e :: es) X.env = (false, eval e X.env) :: starEach es X.env := by rfl) (hpl : (backTo pos (starEach es X.env)).any (·.1) = false := by rfl) :
    PE X (.Call (.Name x p) (e :: es) [] pos) (tMake C sp dvs E t) := by
  intro pins s σ H Q I h
  refine wpAny_Call_Name_kw (ld_glob I hg hm ?_ hdb)
  refine PySem.W.callWith_K (h₀ := X.base) I.ok.mod.kin M.kp (thn (ha pos pins s σ H _ I h) fun us s1 ⟨vs, H1, I1, r, q⟩ => ⟨I1.kIn, ?_⟩) he hpl
  exact run_make M F hr hb hd hx I1 r q
end
def PK (X : Cx) (kws : List Keyword) (t : TA) : Prop :=
  ∀ (pos : Pos) (pins : List (Addr × Obj)) (s : Shared) (σ : St) (H : Hp) (Q : List V -> Hp -> Prop), Inv X pins σ H s -> t σ H Q -> wpAny (model X.prog X.w) X.A (evalAll ((backToKw pos (keywordEach kws X.env)).map (·.2))) (AP X pins σ Q) X.xe s
section
variable {X : Cx} {CX : CXT} {k : Nat} {f C : Addr} {fd : FuncData} {ps ks : List Str} {sp : Sp} {E : XK} {x m : Str} {p pos apos kpos : Pos} {e o : Expr} {es : List Expr} {kws : List Keyword} {te ta : TE} {t tk : TA} {nm : Option Str}
theorem pk_nil : PK X [] tNil := fun _ _ _ _ H Q I h => wpAny_evalAll_nil ⟨[], H, I, .nil, h⟩
theorem pk_cons (ha : PE X e te) (hr : PK X kws t) : PK X (⟨nm, e, kpos⟩ :: kws) (tCons te t) := by
  intro pos pins s σ H Q I h
  show wpAny _ _ (evalAll ((do let v <- eval e X.env; standAt pos; pure v) :: (backToKw pos (keywordEach kws X.env)).map (·.2))) _ _ s
  refine wpAny_evalAll_cons (wpAny_bind (thn (ha pins s σ H _ I h) fun u s1 ⟨x, H1, I1, r1, q1⟩ => wpAny_bind (wpAny_standAt (wpAny_pure ?_))))
  exact thn (hr pos pins s1 σ H1 _ I1 q1) fun us s2 ⟨xs, H2, I2, r2, q2⟩ => ⟨x :: xs, H2, I2, .cons r1 r2, q2⟩
variable {g : List Value -> List Value -> List Value} {gV : List V -> List V -> List V}
end
structure FnScope (N P : List Str) (sc : Scope) : Prop where
  kind : sc.kind = .function
  co : sc.isCoroutine = false
  gen : sc.isGenerator = false
  nd : N.Nodup
  pre : N.take P.length = P
  par : ∀ x ∈ P, sc.names.lookup x = some .local \/ sc.names.lookup x = some .cell
  nofree : ∀ y ∈ sc.names, y.2 ≠ .free
theorem bindL_out {kindOf : Str -> Option NameKind} {x : Str} : ∀ {binds : List (Str × Value)} {m : Str -> Option Value}, (∀ v, (x, v) ∉ binds) -> bindL kindOf binds m x = m x
  | [], _, _ => rfl
  | (n, v) :: r, m, h => by
    unfold bindL
    rw [bindL_out fun w hw => h w (List.mem_cons_of_mem _ hw)]
    split
    . have : x ≠ n := by rintro rfl; exact h v List.mem_cons_self
      simp [this]
    . rfl
theorem bindC_out {kindOf : Str -> Option NameKind} {x : Str} : ∀ {binds : List (Str × Value)} {m : Str -> Option Value}, (∀ v, (x, v) ∉ binds) -> bindC kindOf binds m x = m x
  | [], _, _ => rfl
  | (n, v) :: r, m, h => by
    unfold bindC
    rw [bindC_out fun w hw => h w (List.mem_cons_of_mem _ hw)]
    split
    . rfl
    . have : x ≠ n := by rintro rfl; exact h v List.mem_cons_self
      simp [this]
theorem bindL_get {kindOf : Str -> Option NameKind} {x : Str} {v : Value} : ∀ {P : List Str} {vs : List Value} {i : Nat} {m : Str -> Option Value}, P.Nodup -> P[i]? = some x -> vs[i]? = some v -> kindOf x = some .local ->
    bindL kindOf (P.zip vs) m x = some v
  | [], _, _, _, _, h, _, _ => by simp at h
  | _ :: _, [], _, _, _, _, h, _ => by simp at h
  | p :: P, w :: vs, 0, m, nd, h1, h2, hk => by
    simp at h1 h2; subst h1; subst h2
    show bindL kindOf ((p, w) :: P.zip vs) m p = _
    unfold bindL
    rw [bindL_out fun v hv => (List.nodup_cons.mp nd).1 (List.of_mem_zip hv).1, if_pos hk]
    simp
  | p :: P, w :: vs, i + 1, m, nd, h1, h2, hk => by
    show bindL kindOf ((p, w) :: P.zip vs) m x = _
    unfold bindL
    exact bindL_get (i := i) (List.nodup_cons.mp nd).2 (by simpa using h1) (by simpa using h2) hk
theorem bindC_get {kindOf : Str -> Option NameKind} {x : Str} {v : Value} : ∀ {P : List Str} {vs : List Value} {i : Nat} {m : Str -> Option Value}, P.Nodup -> P[i]? = some x -> vs[i]? = some v -> kindOf x ≠ some .local ->
    bindC kindOf (P.zip vs) m x = some v
  | [], _, _, _, _, h, _, _ => by simp at h
  | _ :: _, [], _, _, _, _, h, _ => by simp at h
  | p :: P, w :: vs, 0, m, nd, h1, h2, hk => by
    simp at h1 h2; subst h1; subst h2
    show bindC kindOf ((p, w) :: P.zip vs) m p = _
    unfold bindC
    rw [bindC_out fun v hv => (List.nodup_cons.mp nd).1 (List.of_mem_zip hv).1, if_neg hk]
    simp
  | p :: P, w :: vs, i + 1, m, nd, h1, h2, hk => by
    show bindC kindOf ((p, w) :: P.zip vs) m x = _
    unfold bindC
    exact bindC_get (i := i) (List.nodup_cons.mp nd).2 (by simpa using h1) (by simpa using h2) hk
def start (N : List Str) (vs : List V) : St := vs.map some ++ List.replicate (N.length - vs.length) none
def cxOf (CX : CXT) (P : Program) (w : World) (K : W.Frag) (mg : Str -> Option Value) (base : Heap) (N : List Str) (qual : Str) (scope : Scope) (f : Addr) (cd : Value) (A : Around) (outer : List Env) (s : Shared) (H : Hp) (E : XK) : Cx where
  prog := P
  w := w
  K := K
  mg := mg
  base := base
  A := A.deeper (envOfC qual scope s.heap.objs.size f cd)
  N := N
  s₀ := s
  H₀ := H
  env := envOfC qual scope s.heap.objs.size f cd
  outer := outer
  stack := envOfC qual scope s.heap.objs.size f cd :: outer
  ex := []
  calm := true
  fn := fun _ => true
  pn := []
  xe := fun e s' => wpAny (model P w) (A.deeper (envOfC qual scope s.heap.objs.size f cd)) (leaving (envOfC qual scope s.heap.objs.size f cd) e) (fun _ s'' => CX outer H s E e s'') (fun e' s'' => CX outer H s E e' s'') s'
theorem cell_has {sc : Scope} {n : Nat} {x : Str} (h : sc.names.lookup x = some .cell) : ∃ c, (cellsFrom n sc.names []).lookup x = some c := by
  have q := PySem.W.cellsFrom_some sc.names n [] (.inl h)
  exact Option.isSome_iff_exists.mp q
theorem inv_start {CX : CXT} {P : Program} {w : World} {K : W.Frag} {mg : Str -> Option Value} {base : Heap} {N ps : List Str} {qual : Str} {scope : Scope} {f : Addr} {cd : Value} {A : Around} {outer : List Env} {s s1 : Shared} {H : Hp} {E : XK} {us : List Value} {vs : List V}
    (S : FnScope N ps scope) (hd : A.handled = none) (e0 : Env0 P w K mg base A outer s H) (hl : vs.length = ps.length) (r : Vals vs us)
    (x : InCallC s s.heap.objs.size (bindL (envOfC qual scope s.heap.objs.size f cd).kindOf (ps.zip us) fun _ => none) (cellsFrom (s.heap.objs.size + 1) scope.names []) (bindC (envOfC qual scope s.heap.objs.size f cd).kindOf (ps.zip us) fun _ => none) s1) :
    Inv (cxOf CX P w K mg base N qual scope f cd A outer s H E) [] (start N vs) H s1 := by
  have hpl : ps.length <= N.length := by have := congrArg List.length S.pre; rw [List.length_take] at this; omega
  obtain ⟨h1, tk, rfl, hk⟩ := x.done
  have noA : ∀ b : Addr, b ∉ (cxOf CX P w K mg base N qual scope f cd A outer s H E).ex := fun b z => absurd (show b ∈ ([] : List Addr) from z) (by simp)
  refine ⟨⟨e0.mod, S.kind, rfl, rfl, Nat.le_refl _, fun y z c h1 h2 => ?_, fun y hy => ?_, fun y c _ h => ?_, fun _ => hd, Around.frames_deeper e0.frames, .inr ⟨rfl, rfl⟩, fun b z => absurd z (noA b), e0.bs, e0.bsz, fun b _ _ => noA b, fun b z => absurd z (noA b), e0.funs, e0.frf⟩,
    rfl, e0.bare, Un.kept hk, ⟨_, x.toInCall.ns, fun i y v h1 h2 h3 => ?_⟩, fun y c h => ⟨_, x.cell y c h⟩, e0.hok.fresh (Nat.le_refl _), fun y c h => ?_, fun p hp => absurd (show p ∈ ([] : List (Addr × Obj)) from hp) (by simp), e0.hok.kept hk, ?_⟩
  . exact name_of_addr x.apart (PySem.mem_of_lookup h1) (PySem.mem_of_lookup h2)
  . have hy : scope.names.lookup y = some .cell \/ scope.names.lookup y = some .free := hy
    rcases hy with hy | hy
    . exact cell_has hy
    . exact absurd rfl (S.nofree _ (PySem.mem_of_lookup hy))
  . exact Nat.le_of_lt (x.above y c (PySem.mem_of_lookup h))
  . have hi : i < vs.length := by
      unfold start at h2
      by_cases hi : i < vs.length
      . exact hi
      . rw [List.getElem?_append_right (by simpa using hi)] at h2
        rw [List.getElem?_replicate] at h2
        split at h2 <;> cases h2
    have ha : vs[i]? = some v := by
      unfold start at h2
      rw [List.getElem?_append_left (by simpa using hi), List.getElem?_map] at h2
      cases e : vs[i]? with
      | none => rw [e] at h2; cases h2
      | some a => rw [e] at h2; cases h2; rfl
    obtain ⟨u, hu, rv⟩ := r.get ha
    have hp : ps[i]? = some y := by
      rw [<- S.pre, List.getElem?_take_of_lt (by omega)]; exact h1
    have ndP : ps.Nodup := by rw [<- S.pre]; exact S.nd.sublist (List.take_sublist _ _)
    refine ⟨u, rv, ?_⟩
    rcases S.par y (List.mem_of_getElem? hp) with k | k
    . exact .inl ⟨k, bindL_get ndP hp hu k⟩
    . obtain ⟨c, e⟩ := cell_has (n := s.heap.objs.size + 1) k
      refine .inr ⟨.inl k, c, e, ?_⟩
      have q := x.cell y c e
      rw [bindC_get ndP hp hu (by show scope.names.lookup y ≠ _; rw [k]; decide)] at q
      exact q
  . exact e0.hok.fresh (Nat.le_of_lt (x.above y c (PySem.mem_of_lookup h)))
  . unfold start
    show _ = N.length
    rw [List.length_append, List.length_map, List.length_replicate]
    omega
theorem fn_of {CX : CXT} {P : Program} {w : World} {K : W.Frag} {mg : Str -> Option Value} {base : Heap} {k : Nat} {f : Addr} {name qual : Str} {params : Arguments} {body : List Stmt} {scope : Scope} {dV kV doc pm cdv ct oc : Value} {an od : Option Addr}
    {osl : Array (Option Value)} {N ps : List Str} {sp : Sp} (lk : K.lookup f = some ⟨oc, od, .func (PySem.W.fnOf name qual params body scope dV kV doc pm an cdv ct), osl⟩) (hcd : PySem.W.codeIn K cdv qual = true) (S : FnScope N ps scope)
    (len : ∀ vs H Q E, sp vs H Q E -> vs.length = ps.length)
    (hbody : ∀ (A : Around) (outer : List Env) (s : Shared) (H : Hp) (vs : List V) (Q : VK) (E : XK), Room k (A.deeper (envOfC qual scope s.heap.objs.size f cdv)) -> sp vs H Q E ->
      ∃ t, PSs (cxOf CX P w K mg base N qual scope f cdv A outer s H E) body t /\ t { nx := fun _ H' => Q .non H', rt := Q } (start N vs) H) :
    FnOk P w K mg base CX (k + 1) f (PySem.W.fnOf name qual params body scope dV kV doc pm an cdv ct) ps sp := by
  refine ⟨len, fun A outer s H args us vs Q E hr e0 hb r hsp => ?_⟩
  have hl := len _ _ _ _ hsp
  have KX : K.In s.heap := e0.mod.kin.keeps fun b o e => (e0.bs b o e).1
  have lim : s.heap.NoLimit := e0.mod.nolimit.keeps fun b o e => (e0.bs b o e).1
  have hkind : ∀ y ∈ ps.zip us, scope.names.lookup y.1 = some .local \/ (scope.names.lookup y.1 = some .cell /\ ((cellsFrom (s.heap.objs.size + 1) scope.names []).lookup y.1).isSome = true) := fun ⟨n, v⟩ hy => by
    rcases S.par n (List.of_mem_zip hy).1 with q | q
    . exact .inl q
    . exact .inr ⟨q, PySem.W.cellsFrom_some _ _ _ (.inl q)⟩
  refine codeAny_call_function hr.depth (KX _ _ lk) rfl S.co S.gen rfl (PySem.W.codeRec_of KX hcd) (hb _ _ _ _ ?_)
  refine wpAny_newFunctionEnv_cells S.kind hkind fun env he s1 x => ?_
  subst he
  refine ⟨lim.keeps x.toInCall.keep, codeAny_func ?_⟩
  obtain ⟨t, ht, hq⟩ := hbody A outer s H vs Q E (hr.deeper _) hsp
  have I : Inv (cxOf CX P w K mg base N qual scope f cdv A outer s H E) [] (start N vs) H s1 := inv_start S hr.hd e0 hl r x
  refine wpAny_mono (ht [] s1 (start N vs) H _ I hq) (fun fl s' hs => ?_) fun e s' hs => hs
  have fin : ∀ {σ' : St} {H' : Hp} {v : V} {u : Value}, Inv (cxOf CX P w K mg base N qual scope f cdv A outer s H E) [] σ' H' s' -> RelV v u -> Q v H' -> CE outer P w H s Q u s' :=
    fun {σ' H' v u} J rv q => ⟨v, H', J.os, J.bare, J.base, J.hok, rv, q⟩
  cases fl with
  | ret u =>
    obtain ⟨v, σ', H', J, rv, q⟩ := hs
    exact fin J rv q
  | next =>
    obtain ⟨σ', H', J, q⟩ := hs
    exact fin (v := V.non) (u := Value.none) J rfl q
  | brk =>
    obtain ⟨_, _, _, q⟩ := hs
    exact False.elim q
  | cont =>
    obtain ⟨_, _, _, q⟩ := hs
    exact False.elim q
section
variable {X : Cx} {x : Str} {p pos : Pos} {e : Expr} {es : List Expr} {t : TA} {id T : String} {r : List V -> Hp -> VK -> Prop}
def tCB (r : List V -> Hp -> VK -> Prop) (t : TA) : TE := fun σ H Q => t σ H fun vs H1 => r vs H1 Q
theorem pe_callB (hc : CallR X (.builtin id) r) (hg : Gl X x) (hm : X.mg x = none) (hv : bootBuiltins x = some (.builtin id)) (ha : PA X (e :: es) t) (hn : x ≠ "__name__" := by decide) (hdb : (x == ("__debug__" : Str)) = false := by decide)
    (he : starEach (e :: es) X.env = (false, eval e X.env) :: starEach es X.env := by rfl) (hpl : (backTo pos (starEach es X.env)).any (·.1) = false := by rfl) : PE X (.Call (.Name x p) (e :: es) [] pos) (tCB r t) := by
  intro pins s σ H Q I h
  refine wpAny_Call_Name_kw (ld_blt I hg hm hv ?_ hn hdb)
  exact PyProof.Rows.callWith_builtin1 (thn (ha pos pins s σ H _ I h) fun us s1 ⟨vs, H1, I1, r1, q1⟩ => hc pins s1 σ H1 vs us Q I1 r1 q1) he hpl
theorem pe_callTy (hc : CallR X (.type T) r) (hg : Gl X x) (hm : X.mg x = none) (hv : bootBuiltins x = some (.type T)) (ha : PA X (e :: es) t) (hn : x ≠ "__name__" := by decide) (hdb : (x == ("__debug__" : Str)) = false := by decide)
    (he : starEach (e :: es) X.env = (false, eval e X.env) :: starEach es X.env := by rfl) (hpl : (backTo pos (starEach es X.env)).any (·.1) = false := by rfl) : PE X (.Call (.Name x p) (e :: es) [] pos) (tCB r t) := by
  intro pins s σ H Q I h
  refine wpAny_Call_Name_kw (ld_blt I hg hm hv ?_ hn hdb)
  exact PyProof.Rows.callWith_type1 (thn (ha pos pins s σ H _ I h) fun us s1 ⟨vs, H1, I1, r1, q1⟩ => hc pins s1 σ H1 vs us Q I1 r1 q1) he hpl
theorem pe_callTy0 (hc : CallR X (.type T) r) (hg : Gl X x) (hm : X.mg x = none) (hv : bootBuiltins x = some (.type T)) (hn : x ≠ "__name__" := by decide) (hdb : (x == ("__debug__" : Str)) = false := by decide) :
    PE X (.Call (.Name x p) [] [] pos) (tCB r tNil) := by
  intro pins s σ H Q I h
  refine wpAny_Call_Name_kw (ld_blt I hg hm hv ?_ hn hdb)
  exact PyProof.Rows.callWith_type0 (hc pins s σ H [] [] Q I .nil h)
end
end L2
namespace HT
open PySem PyProof.Rows
section
open PySem.SeqAt
open PySem.AutoSeq1 (wpAny_loadPart')
open PySem.MeetsSeq PySem.MeetsSeq2 PySem.MeetsSeq3
end
section
variable {prog : Program} {w : World} {A : Around} {E : Value -> Shared -> Prop} {s : Shared}
theorem cat_tup {t b : Addr} {vs ws : List Value} {Q : Value -> Shared -> Prop} (ht : IsTup s.heap t vs.toArray) (hb : IsTup s.heap b ws.toArray) (hv : vs ≠ [])
    (h1 : ws = [] -> Q (.ref t) s) (h2 : ws ≠ [] -> Q (.ref s.heap.objs.size) { s with heap := s.heap.push { cls := .type "tuple", data := .seq (vs ++ ws).toArray } })
    (hsz : vs.length + ws.length <= sizeLine) : wpAny (model prog w) A (binaryOp .Add (.ref t) (.ref b)) Q E s := by
  obtain ⟨⟨cls, dd, data, sl⟩, ho, hc, n, hd⟩ := id ht
  obtain ⟨⟨cls2, dd2, data2, sl2⟩, ho2, hc2, n2, hd2⟩ := id hb
  simp only at hc hd hc2 hd2
  subst hc hd hc2 hd2
  have e : vs.toArray ++ ws.toArray = (vs ++ ws).toArray := by simp
  by_cases hw : ws = []
  . exact concat_meets ⟨_, ho, rfl⟩ ⟨_, ho2, rfl⟩ noFill_tuple_add seq_tuple_add PySem.F.slot_tuple_add PySem.F.entry_tuple_add (PySem.F.args_tuple_add_2 _ _)
      (tuple_addW1 t b vs.toArray ws.toArray n n2 dd dd2 sl sl2 (by simpa using hv) (by simp [hw])) ⟨ho, ho2, h1 hw⟩
  . refine concat_meets ⟨_, ho, rfl⟩ ⟨_, ho2, rfl⟩ noFill_tuple_add seq_tuple_add PySem.F.slot_tuple_add PySem.F.entry_tuple_add (PySem.F.args_tuple_add_2 _ _)
      (tuple_addW2 t b vs.toArray ws.toArray n n2 dd dd2 sl sl2 (by simpa using hv) (by simpa using hw) (by rw [List.size_toArray, List.size_toArray]; exact hsz)) ⟨ho, ho2, ?_⟩
    rw [e]
    exact h2 hw
def sIx (n d : Nat) : Option Int -> Nat
  | none => d
  | some v => if v < 0 then (v + (n : Int)).toNat else min v.toNat n
theorem sIx_none (n d : Nat) : sIx n d none = d := rfl
theorem sIx_nat (n d k : Nat) : sIx n d (some (k : Int)) = min k n := by
  show (if (k : Int) < 0 then ((k : Int) + (n : Int)).toNat else min (k : Int).toNat n) = min k n
  rw [if_neg (by omega), Int.toNat_natCast]
end
end HT
namespace L2
open PySem PySem.Spec PyProof.Rows
abbrev TO := St -> Hp -> (Option Int -> Hp -> Prop) -> Prop
def PO (X : Cx) (e : Option Expr) (t : TO) : Prop :=
  ∀ (pins : List (Addr × Obj)) (s : Shared) (σ : St) (H : Hp) (Q : Option Int -> Hp -> Prop), Inv X pins σ H s -> t σ H Q ->
    wpAny (model X.prog X.w) X.A (evalPart e X.env) (fun u s' => ∃ o H', Inv X pins σ H' s' /\ IsPart u o /\ Q o H') X.xe s
def tNoPart : TO := fun _ H Q => Q none H
def tPart (t : TE) : TO := fun σ H Q => t σ H fun x H1 => ∃ i, x = .int i /\ Q (some i) H1
section
variable {X : Cx} {e : Expr} {te : TE} {lo hi : Option Expr} {tl th : TO} {pos p2 : Pos}
theorem po_none : PO X none tNoPart := by
  intro pins s σ H Q I h
  rw [evalPart_none]
  exact wpAny_pure ⟨none, H, I, .none, h⟩
theorem po_some (h : PE X e te) : PO X (some e) (tPart te) := by
  intro pins s σ H Q I hw
  rw [evalPart_some]
  refine thn (h pins s σ H _ I hw) fun u s1 ⟨x, H1, I1, r1, q1⟩ => ?_
  obtain ⟨i, rfl, q⟩ := q1
  obtain ⟨t, rfl⟩ := r1
  exact ⟨some i, H1, I1, .int i t, q⟩
def SlR (X : Cx) (r : V -> Option Int -> Option Int -> Hp -> VK -> Prop) : Prop :=
  ∀ (pins : List (Addr × Obj)) (s : Shared) (σ : St) (H : Hp) (x : V) (v vl vu : Value) (lo hi : Option Int) (sl : Addr) (Q : VK), Inv X pins σ H s -> RelV x v -> s.heap.IsSliceOf sl vl vu .none -> IsPart vl lo -> IsPart vu hi -> r x lo hi H Q ->
    ∃ T id, typeLookup (.type T) "__getitem__" = pure (some (.builtin id)) /\ s.TypeIs v T /\ wpAny (model X.prog X.w) X.A (getItem v (.ref sl)) (EP X pins σ Q) X.xe s
def tSl (r : V -> Option Int -> Option Int -> Hp -> VK -> Prop) (te : TE) (tl th : TO) : TE := fun σ H Q => te σ H fun x H1 => tl σ H1 fun l H2 => th σ H2 fun u H3 => r x l u H3 Q
theorem pe_slice {r : V -> Option Int -> Option Int -> Hp -> VK -> Prop} (hr : SlR X r) (he : PE X e te) (hl : PO X lo tl) (hu : PO X hi th) : PE X (.Subscript e (.Slice lo hi none p2) pos) (tSl r te tl th) := by
  intro pins s σ H Q I h
  refine Subscript_ (thn (he pins s σ H _ I h) fun v s1 ⟨x, H1, I1, r1, q1⟩ => ?_)
  refine wpAny_Slice (thn (hl pins s1 σ H1 _ I1 q1) fun vl s2 ⟨l, H2, I2, pl, q2⟩ => thn (hu pins s2 σ H2 _ I2 q2) fun vu s3 ⟨u, H3, I3, pu, q3⟩ => ?_)
  rw [evalPart_none]
  refine wpAny_pure ?_
  have I4 : Inv X pins σ H3 { s3 with heap := s3.heap.push { cls := .type "slice", data := .fields #[vl, vu, .none] } } := I3.kept (t' := s3.toks) fun b ob q => Heap.get?_push_of_some _ q
  obtain ⟨T, id, hT, ht, hg⟩ := hr pins { s3 with heap := s3.heap.push { cls := .type "slice", data := .fields #[vl, vu, .none] } } σ H3 x v vl vu l u s3.heap.objs.size Q I4 r1 (Heap.IsSliceOf.new ..) pl pu q3
  show wpAny (model X.prog X.w) X.A (subscriptTail e (.Slice lo hi none p2) v (.ref s3.heap.objs.size)) (EP X pins σ Q) X.xe { s3 with heap := s3.heap.push { cls := .type "slice", data := .fields #[vl, vu, .none] } }
  exact tail_any (ops := [.ref s3.heap.objs.size, v]) ht hT hg (by with_unfolding_all rfl)
def cutV (xs : List V) (lo hi : Option Int) : List V := (xs.drop (HT.sIx xs.length 0 lo)).take (HT.sIx xs.length xs.length hi - HT.sIx xs.length 0 lo)
theorem cutV_length (xs : List V) (lo hi : Option Int) : (cutV xs lo hi).length <= xs.length := by
  unfold cutV
  rw [List.length_take, List.length_drop]
  omega
def rCatT (K : W.Frag) : R2 := fun x y H Q => ∃ a b xs ys, x = .ref a /\ y = .ref b /\ SqT K H a xs /\ SqT K H b ys /\ xs ≠ [] /\ xs.length + ys.length <= sizeLine /\
  (ys = [] -> Q (.ref a) H) /\ (ys ≠ [] -> ∀ p, H p = none -> Q (.ref p) (upd H p (.tup (xs ++ ys))))
theorem Vals.nil_iff {xs : List V} {us : List Value} (r : Vals xs us) : us = [] ↔ xs = [] := by
  cases r with
  | nil => simp
  | cons _ _ => simp
theorem op_catT : OpR X (binaryOp .Add) (rCatT X.K) := by
  intro pins s σ H x y v u Q I rx ry h
  obtain ⟨a, b, xs, ys, rfl, rfl, ha, hb, hx, hz, q1, q2⟩ := h
  cases rx
  cases ry
  obtain ⟨its, r1, p1, _⟩ := I.tuple ha
  obtain ⟨its2, r2, p2, _⟩ := I.tuple hb
  refine HT.cat_tup p1 p2 (fun z => hx (r1.nil_iff.mp z)) (fun z => ⟨.ref a, H, I, rfl, q1 (r2.nil_iff.mp z)⟩) (fun z => ?_) (by rw [<- r1.length, <- r2.length]; exact hz)
  refine ⟨.ref s.heap.objs.size, _, I.laid (t' := s.toks) (o := .tup (xs ++ ys)) (fun b ob q => Heap.get?_push_of_some _ q) (Nat.le_refl _) ?_, rfl, q2 (fun w => z (r2.nil_iff.mpr w)) _ (I.hok.fresh (Nat.le_refl _))⟩
  exact ⟨by rw [List.length_append]; exact hz, _, r1.append r2, IsTup.new _ _⟩
end
def ixN (n : Nat) (i : Int) : Option Nat := if 0 <= i then (if i < n then some i.toNat else none) else if -(n : Int) <= i then some (i + n).toNat else none
def atI {α : Type} (xs : List α) (i : Int) : Option α := (ixN xs.length i).bind fun j => xs[j]?
theorem ixN_seq {n : Nat} {i : Int} {j : Nat} (h : ixN n i = some j) : seqIndex? i n = some j /\ j < n /\ -(n : Int) <= i /\ i < n := by
  unfold ixN at h
  by_cases h0 : 0 <= i
  . rw [if_pos h0] at h
    by_cases h1 : i < n
    . rw [if_pos h1] at h
      have e : i.toNat = j := Option.some.inj h
      exact ⟨by rw [seqIndex_of h0 h1, e], by omega, by omega, h1⟩
    . rw [if_neg h1] at h; cases h
  . rw [if_neg h0] at h
    by_cases h1 : -(n : Int) <= i
    . rw [if_pos h1] at h
      have e : (i + n).toNat = j := Option.some.inj h
      exact ⟨by rw [seqIndex_neg (by omega) h1, e], by omega, h1, by omega⟩
    . rw [if_neg h1] at h; cases h
theorem atI_get {α : Type} {xs : List α} {i : Int} {v : α} (h : atI xs i = some v) : ∃ j, seqIndex? i xs.length = some j /\ xs[j]? = some v /\ j < xs.length /\ -(xs.length : Int) <= i /\ i < xs.length := by
  unfold atI at h
  cases e : ixN xs.length i with
  | none => rw [e] at h; cases h
  | some j =>
    rw [e] at h
    obtain ⟨h1, h2, h3, h4⟩ := ixN_seq e
    exact ⟨j, h1, h, h2, h3, h4⟩
theorem atI_nat {α : Type} {xs : List α} {j : Nat} {v : α} (h : xs[j]? = some v) : atI xs (j : Int) = some v := by
  have hj : j < xs.length := (List.getElem?_eq_some_iff.mp h).1
  have e : ixN xs.length (j : Int) = some j := by
    unfold ixN
    rw [if_pos (by omega), if_pos (by omega)]; simp
  unfold atI; rw [e]; exact h
def PlainIx (b : Expr) : Prop := ∀ o i, subscripted b false o i = operate [o, i] (getItem o i)
def IxR (X : Cx) (r : R2) : Prop :=
  ∀ (value slice : Expr) (pins : List (Addr × Obj)) (s : Shared) (σ : St) (H : Hp) (x y : V) (v u : Value) (Q : VK), Inv X pins σ H s -> RelV x v -> RelV y u -> r x y H Q ->
    subscripted slice false v u = operate [v, u] (getItem v u) -> wpAny (model X.prog X.w) X.A (subscriptTail value slice v u) (EP X pins σ Q) X.xe s
def MtR (X : Cx) (id : String) (r : V -> List V -> Hp -> VK -> Prop) : Prop :=
  ∀ (pins : List (Addr × Obj)) (s : Shared) (σ : St) (H : Hp) (x : V) (xs : List V) (v : Value) (us : List Value) (Q : VK), Inv X pins σ H s -> RelV x v -> Vals xs us -> r x xs H Q ->
    wpAny (model X.prog X.w) X.A (call (.builtin id) (v :: us)) (EP X pins σ Q) X.xe s
section
variable {X : Cx} {a b : Expr} {ta tb : TE} {pos : Pos}
theorem pe_ix {r : R2} (hr : IxR X r) (ha : PE X a ta) (hb : PE X b tb) (hs : PlainIx b) : PE X (.Subscript a b pos) (tOp r ta tb) := by
  intro pins s σ H Q I h
  exact Subscript_ (binT ha hb I h fun v u s2 x y H2 I2 rx ry q => hr a b pins s2 σ H2 x y v u Q I2 rx ry q (hs _ _))
def rIxL (K : W.Frag) : R2 := fun x y H Q => ∃ p xs i v, x = .ref p /\ y = .int i /\ SqL K H p xs /\ atI xs i = some v /\ Q v H
def rIxT (K : W.Frag) : R2 := fun x y H Q => ∃ p xs i v, x = .ref p /\ y = .int i /\ SqT K H p xs /\ atI xs i = some v /\ Q v H
def rIxS : R2 := fun x y H Q => ∃ z i c, x = .str z /\ y = .int i /\ z.length <= sizeLine /\ atI z.cps.toList i = some c /\ Q (.str ⟨#[c]⟩) H
theorem ix_list : IxR X (rIxL X.K) := by
  intro value slice pins s σ H x y v u Q I rx ry h hs
  obtain ⟨p, xs, i, z, rfl, rfl, hq, he, q⟩ := h
  cases rx
  obtain ⟨t, rfl⟩ := ry
  obtain ⟨its, r, pl, hz⟩ := I.list hq
  obtain ⟨j, h1, h2, h3, h4, h5⟩ := atI_get he
  obtain ⟨w, ew, rw'⟩ := r.get h2
  have hl := r.length
  have hn := line63
  have fin : EP X pins σ Q w s := ⟨z, H, I, rw', q⟩
  by_cases h0 : 0 <= i
  . have hj : i.toNat = j := by
      rw [seqIndex_of h0 h5] at h1
      exact Option.some.inj h1
    exact item_listR pl.isList h0 (by omega) (by rw [hj]; simpa using ew) fin hs
  . have hj : (i + (its.toArray.size : Int)).toNat = j := by
      rw [seqIndex_neg (by omega) h4] at h1
      rw [List.size_toArray, <- hl]
      exact Option.some.inj h1
    exact subscriptTail_builtinR (x := w) pl.isList.typeIs slot_list_getitem.lookup
      (wpAny_getItem_list_neg (Q := fun r s' => r = w /\ EP X pins σ Q r s') pl.isList (by omega) (by rw [List.size_toArray] <;> omega) (by omega) (by rw [hj]; simpa using ew) ⟨rfl, fin⟩) hs
theorem ix_tup : IxR X (rIxT X.K) := by
  intro value slice pins s σ H x y v u Q I rx ry h hs
  obtain ⟨p, xs, i, z, rfl, rfl, hq, he, q⟩ := h
  cases rx
  obtain ⟨t, rfl⟩ := ry
  obtain ⟨its, r, pl, hz⟩ := I.tuple hq
  obtain ⟨j, h1, h2, h3, h4, h5⟩ := atI_get he
  obtain ⟨w, ew, rw'⟩ := r.get h2
  have hl := r.length
  have hn := line63
  have fin : EP X pins σ Q w s := ⟨z, H, I, rw', q⟩
  exact subscriptTail_builtinR (x := w) pl.typeIs slot_tuple_getitem.lookup
    (getItem_tuple (j := j) (Q := fun r s' => r = w /\ EP X pins σ Q r s') pl (by omega) (by omega) (by rw [List.size_toArray, <- hl]; exact h1) (by simpa using ew) ⟨rfl, fin⟩) hs
theorem ix_str : IxR X rIxS := by
  intro value slice pins s σ H x y v u Q I rx ry h hs
  obtain ⟨z, i, c, rfl, rfl, hz, he, q⟩ := h
  obtain ⟨t, rfl⟩ := rx
  obtain ⟨t', rfl⟩ := ry
  obtain ⟨j, h1, h2, h3, h4, h5⟩ := atI_get he
  have hl : z.cps.toList.length = z.length := by simp [Str.length]
  rw [hl] at h1 h4 h5
  have hn := line63
  exact tail_any (typeIs_str s z t) slot_str_getitem.lookup (getItem_str (c := c) (by
    have e1 : decide (i < -(2 ^ 63 : Int)) = false := decide_eq_false (by omega)
    have e2 : decide (i ≥ 2 ^ 63) = false := decide_eq_false (by omega)
    rw [e1, e2, Bool.or_false]) (by rw [h1]; simpa using h2) ⟨.str ⟨#[c]⟩, H, I.tok _, ⟨_, rfl⟩, q⟩) hs
theorem mapSeq_set (its : List Value) (n j : Nat) (u : Value) : Obj.mapSeq (·.setIfInBounds j u) { cls := .type "list", data := .seq its.toArray n } = { cls := .type "list", data := .seq (its.set j u).toArray n } := by
  simp [Obj.mapSeq]
theorem Inv.lst {pins : List (Addr × Obj)} {σ : St} {H : Hp} {s : Shared} {p : Addr} {xs : List V} (I : Inv X pins σ H s) (h : H p = some (.lst xs)) :
    ∃ (its : List Value) (n : Nat), Vals xs its /\ s.heap.get? p = some { cls := .type "list", data := .seq its.toArray n } /\ xs.length <= sizeLine := by
  obtain ⟨z, its, n, r, e⟩ := I.hok p _ h
  exact ⟨its, n, r, e, z⟩
theorem Inv.lstUpd {pins : List (Addr × Obj)} {σ : St} {H : Hp} {s : Shared} {p : Addr} {xs ys : List V} {its its' : List Value} {n n' : Nat} {f : Obj -> Obj} (I : Inv X pins σ H s) (h : H p = some (.lst xs))
    (ho : s.heap.get? p = some { cls := .type "list", data := .seq its.toArray n }) (hf : f { cls := .type "list", data := .seq its.toArray n } = { cls := .type "list", data := .seq its'.toArray n' }) (r : Vals ys its') (hz : ys.length <= sizeLine) (t : Nat) :
    Inv X pins σ (upd H p (.lst ys)) { s with heap := s.heap.update p f, toks := t } := by
  have e : (s.heap.update p f).get? p = some { cls := .type "list", data := .seq its'.toArray n' } := by
    rw [Heap.get?_update_self f ho (by rw [hf] <;> rfl), hf]
  refine I.write (x := p) (e := p) (by rw [h]; trivial) (.inl rfl) (fun b u hb q => (Heap.get?_update_other _ _ (Ne.symm hb)).trans q) ⟨_, e⟩ ?_
  exact ⟨hz, its', n', r, e⟩
def rSetL : V -> V -> V -> Hp -> (Hp -> Prop) -> Prop := fun o i v H Q => ∃ p xs k j, o = .ref p /\ i = .int k /\ H p = some (.lst xs) /\ ixN xs.length k = some j /\ Q (upd H p (.lst (xs.set j v)))
theorem set_list : PSet X rSetL := by
  intro pins s σ H o i v ov iv u Q I ro ri rv h
  obtain ⟨p, xs, k, j, rfl, rfl, hp, hj, q⟩ := h
  cases ro
  obtain ⟨t, rfl⟩ := ri
  obtain ⟨its, n, r, ho, hz⟩ := I.lst hp
  obtain ⟨h1, h2, h3, h4⟩ := ixN_seq hj
  have hl := r.length
  have hn := line63
  have I' : Inv X pins σ (upd H p (.lst (xs.set j v))) { s with heap := s.heap.update p (Obj.mapSeq (·.setIfInBounds j u)) } :=
    I.lstUpd hp ho (mapSeq_set its n j u) (r.set rv j) (by rw [List.length_set]; exact hz) s.toks
  by_cases h0 : 0 <= k
  . have hk : k.toNat = j := by
      rw [seqIndex_of h0 h4] at h1
      exact Option.some.inj h1
    exact PySem.W.ki_setAt ho h0 (by omega) (by rw [List.size_toArray, <- hl]; exact h4) (by rw [hk]; exact ⟨_, I', q⟩)
  . have hk : (k + (its.toArray.size : Int)).toNat = j := by
      rw [seqIndex_neg (by omega) h3] at h1
      rw [List.size_toArray, <- hl]
      exact Option.some.inj h1
    exact PySem.W.ki_setBack ho (by omega) (by rw [List.size_toArray, <- hl]; exact h3) (by omega) (by rw [hk]; exact ⟨_, I', q⟩)
theorem slice_bounds (lo hi : Option Int) (n : Nat) : (sliceBounds lo hi none n).1 = ((HT.sIx n 0 lo : Nat) : Int) /\ (sliceBounds lo hi none n).2.1 = ((HT.sIx n n hi : Nat) : Int) /\ (sliceBounds lo hi none n).2.2 = 1 := by
  refine ⟨?_, ?_, rfl⟩
  . cases lo with
    | none => simp [sliceBounds, HT.sIx]
    | some i =>
      simp only [sliceBounds, HT.sIx, Option.getD_none, show (1 : Int) > 0 by decide, if_true]
      by_cases h : i < 0
      . simp only [h, if_true] <;> omega
      . simp only [h, if_false] <;> omega
  . cases hi with
    | none => simp [sliceBounds, HT.sIx]
    | some i =>
      simp only [sliceBounds, HT.sIx, Option.getD_none, show (1 : Int) > 0 by decide, if_true]
      by_cases h : i < 0
      . simp only [h, if_true] <;> omega
      . simp only [h, if_false] <;> omega
theorem slicePick_cut (its : List Value) (lo hi : Option Int) : slicePick its.toArray lo hi none = ((its.drop (HT.sIx its.length 0 lo)).take (HT.sIx its.length its.length hi - HT.sIx its.length 0 lo)).toArray := by
  obtain ⟨h1, h2, h3⟩ := slice_bounds lo hi its.toArray.size
  unfold slicePick
  rw [h1, h2, h3]
  simp only [sliceRange_one, pick_run, List.size_toArray] <;> rfl
def rSlL (K : W.Frag) : V -> Option Int -> Option Int -> Hp -> VK -> Prop := fun x lo hi H Q => ∃ a xs, x = .ref a /\ SqL K H a xs /\ ∀ p, H p = none -> Q (.ref p) (upd H p (.lst (cutV xs lo hi)))
theorem sl_list : SlR X (rSlL X.K) := by
  intro pins s σ H x v vl vu lo hi sl Q I rx hs pl pu h
  obtain ⟨a, xs, rfl, hx, q⟩ := h
  cases rx
  obtain ⟨its, r, ht, hz⟩ := I.list hx
  have hlen := r.length
  refine ⟨"list", _, slot_list_getitem.lookup, ht.isList.typeIs, ?_⟩
  refine wpAny_getItem_list_slice ht.isList hs pl pu .none (by simp) ?_ (by rw [List.size_toArray] <;> omega)
  rw [slicePick_cut, <- hlen]
  refine ⟨.ref s.heap.objs.size, _, I.laid (t' := s.toks) (o := .lst (cutV xs lo hi)) (fun b ob q => Heap.get?_push_of_some _ q) (Nat.le_refl _) ?_, rfl, q _ (I.hok.fresh (Nat.le_refl _))⟩
  exact ⟨Nat.le_trans (cutV_length xs lo hi) hz, _, 0, (r.drop (HT.sIx xs.length 0 lo)).take (HT.sIx xs.length xs.length hi - HT.sIx xs.length 0 lo), Heap.get?_push_size _ rfl⟩
def flatV : V -> Bool
  | .non => true
  | .bl _ => true
  | .int _ => true
  | .str _ => true
  | _ => false
def eqV : V -> V -> Bool
  | .non, .non => true
  | .bl a, .bl b => a == b
  | .bl a, .int b => (if a then 1 else 0) == b
  | .int a, .bl b => a == (if b then 1 else 0)
  | .int a, .int b => a == b
  | .str a, .str b => a == b
  | _, _ => false
theorem eqAt_V {A : Around} {s : Shared} {y x : V} {u v : Value} (ry : RelV y u) (rx : RelV x v) (fy : flatV y = true) (fx : flatV x = true) : SeqAt.EqAt A s u v (eqV y x) := by
  cases y with
  | non =>
    cases ry
    cases x with
    | non => cases rx; exact SeqAt.EqAt.same _
    | bl b => cases rx; exact SeqAt.EqAt.none_bool b
    | int b => obtain ⟨t, rfl⟩ := rx; exact SeqAt.EqAt.none_int b t
    | str b => obtain ⟨t, rfl⟩ := rx; exact SeqAt.EqAt.none_str b t
    | _ => exact absurd (show false = true from fx) Bool.false_ne_true
  | bl a =>
    cases ry
    cases x with
    | non => cases rx; exact SeqAt.EqAt.bool_none a
    | bl b => cases rx; exact SeqAt.EqAt.bool_bool a b
    | int b => obtain ⟨t, rfl⟩ := rx; exact SeqAt.EqAt.bool_int a b t
    | str b => obtain ⟨t, rfl⟩ := rx; exact SeqAt.EqAt.bool_str a b t
    | _ => exact absurd (show false = true from fx) Bool.false_ne_true
  | int a =>
    obtain ⟨t', rfl⟩ := ry
    cases x with
    | non => cases rx; exact SeqAt.EqAt.int_none a t'
    | bl b => cases rx; exact SeqAt.EqAt.int_bool a t' b
    | int b => obtain ⟨t, rfl⟩ := rx; exact SeqAt.EqAt.int_int a t' b t
    | str b => obtain ⟨t, rfl⟩ := rx; exact SeqAt.EqAt.int_str a t' b t
    | _ => exact absurd (show false = true from fx) Bool.false_ne_true
  | str a =>
    obtain ⟨t', rfl⟩ := ry
    cases x with
    | non => cases rx; exact SeqAt.EqAt.str_none a t'
    | bl b => cases rx; exact SeqAt.EqAt.str_bool a t' b
    | int b => obtain ⟨t, rfl⟩ := rx; exact SeqAt.EqAt.str_int a t' b t
    | str b => obtain ⟨t, rfl⟩ := rx; exact SeqAt.EqAt.str_str a t' b t
    | _ => exact absurd (show false = true from fx) Bool.false_ne_true
  | _ => exact absurd (show false = true from fy) Bool.false_ne_true
def eqU (x : V) (u : Value) : Bool := match u with
  | .none => eqV .non x
  | .bool b => eqV (.bl b) x
  | .int i _ => eqV (.int i) x
  | .str z _ => eqV (.str z) x
  | _ => false
theorem eqU_of {x y : V} {u : Value} (r : RelV y u) (f : flatV y = true) : eqU x u = eqV y x := by
  cases y with
  | non => cases r; rfl
  | bl b => cases r; rfl
  | int i => obtain ⟨t, rfl⟩ := r; rfl
  | str z => obtain ⟨t, rfl⟩ := r; rfl
  | _ => exact absurd (show false = true from f) Bool.false_ne_true
theorem any_eqU {x : V} : ∀ {xs : List V} {us : List Value}, Vals xs us -> xs.all flatV = true -> us.any (eqU x) = xs.any fun y => eqV y x
  | _, _, .nil, _ => rfl
  | y :: xs, u :: us, .cons r t, f => by
    rw [List.all_cons, Bool.and_eq_true] at f
    rw [List.any_cons, List.any_cons, eqU_of r f.1, any_eqU t f.2]
theorem mem_eqAt {A : Around} {s : Shared} {x : V} {v : Value} (rx : RelV x v) (fx : flatV x = true) : ∀ {xs : List V} {us : List Value}, Vals xs us -> xs.all flatV = true -> ∀ u ∈ us, SeqAt.EqAt A s u v (eqU x u)
  | _, _, .nil, _ => fun u hu => by cases hu
  | y :: xs, u :: us, .cons r t, f => fun u' hu => by
    rw [List.all_cons, Bool.and_eq_true] at f
    rcases List.mem_cons.mp hu with rfl | hu
    . rw [eqU_of r f.1]; exact eqAt_V r rx f.1 fx
    . exact mem_eqAt rx fx t f.2 u' hu
def inV (x : V) (xs : List V) : Bool := xs.any fun y => eqV y x
def rIn (K : W.Frag) (neg : Bool) : R2 := fun x y H Q => ∃ p xs, y = .ref p /\ (SqL K H p xs \/ SqT K H p xs) /\ flatV x = true /\ xs.all flatV = true /\ Q (.bl (if neg then !inV x xs else inV x xs)) H
theorem op_in_seq : OpR X (compareOp .In) (rIn X.K false) := by
  intro pins s σ H x y v u Q I rx ry h
  obtain ⟨p, xs, rfl, hq, fx, fs, q⟩ := h
  cases ry
  rcases hq with hq | hq
  . obtain ⟨its, r, pl, hz⟩ := I.list hq
    refine SeqAt.in_listAt (eqU x) pl.isList (fun w hw => mem_eqAt rx fx r fs w (by simpa using hw)) ⟨.bl _, H, I, rfl, ?_⟩
    rw [show its.toArray.any (eqU x) = its.any (eqU x) by simp, any_eqU r fs]
    exact q
  . obtain ⟨its, r, pl, hz⟩ := I.tuple hq
    refine SeqAt.in_tupleAt (eqU x) pl (fun w hw => mem_eqAt rx fx r fs w (by simpa using hw)) ⟨.bl _, H, I, rfl, ?_⟩
    rw [show its.toArray.any (eqU x) = its.any (eqU x) by simp, any_eqU r fs]
    exact q
theorem op_notIn_seq : OpR X (compareOp .NotIn) (rIn X.K true) := by
  intro pins s σ H x y v u Q I rx ry h
  obtain ⟨p, xs, rfl, hq, fx, fs, q⟩ := h
  cases ry
  rcases hq with hq | hq
  . obtain ⟨its, r, pl, hz⟩ := I.list hq
    refine SeqAt.notIn_listAt (eqU x) pl.isList (fun w hw => mem_eqAt rx fx r fs w (by simpa using hw)) ⟨.bl _, H, I, rfl, ?_⟩
    rw [show its.toArray.any (eqU x) = its.any (eqU x) by simp, any_eqU r fs]
    exact q
  . obtain ⟨its, r, pl, hz⟩ := I.tuple hq
    refine SeqAt.notIn_tupleAt (eqU x) pl (fun w hw => mem_eqAt rx fx r fs w (by simpa using hw)) ⟨.bl _, H, I, rfl, ?_⟩
    rw [show its.toArray.any (eqU x) = its.any (eqU x) by simp, any_eqU r fs]
    exact q
theorem call_len_seq : CallR X (.builtin "len") (fun xs H Q => ∃ p ys, xs = [.ref p] /\ (SqL X.K H p ys \/ SqT X.K H p ys) /\ Q (.int ys.length) H) := by
  intro pins s σ H xs us Q I r h
  obtain ⟨p, ys, rfl, hq, q⟩ := h
  obtain ⟨u, rfl, rx⟩ := vals1 r
  cases rx
  have hn := line63
  rcases hq with hq | hq
  . obtain ⟨its, r', pl, hz⟩ := I.list hq
    have hlen := r'.length
    exact Calls.call_len_list pl.isList (by simp only [List.size_toArray] <;> omega) ⟨.int ys.length, H, I.tok _, ⟨s.toks + 1, by rw [List.size_toArray, hlen]⟩, q⟩
  . obtain ⟨its, r', pl, hz⟩ := I.tuple hq
    have hlen := r'.length
    exact len_tuple pl (by simp only [List.size_toArray] <;> omega) ⟨.int ys.length, H, I.tok _, ⟨s.toks + 1, by rw [List.size_toArray, hlen]⟩, q⟩
theorem call_len_str : CallR X (.builtin "len") (fun xs H Q => ∃ z, xs = [.str z] /\ z.length <= sizeLine /\ Q (.int z.length) H) := by
  intro pins s σ H xs us Q I r h
  obtain ⟨z, rfl, hz, q⟩ := h
  obtain ⟨u, rfl, t, rfl⟩ := vals1 r
  have hn := line63
  exact len_str (by omega) ⟨.int z.length, H, I.tok _, ⟨_, rfl⟩, q⟩
theorem CallR.or {f : Value} {r r' : List V -> Hp -> VK -> Prop} (h : CallR X f r) (h' : CallR X f r') : CallR X f (fun xs H Q => r xs H Q \/ r' xs H Q) := by
  intro pins s σ H xs us Q I rs q
  rcases q with q | q
  . exact h pins s σ H xs us Q I rs q
  . exact h' pins s σ H xs us Q I rs q
theorem call_list_of : CallR X (.type "list") (fun xs H Q => ∃ p ys, xs = [.ref p] /\ (SqL X.K H p ys \/ SqT X.K H p ys) /\ ∀ l, H l = none -> Q (.ref l) (upd H l (.lst ys))) := by
  intro pins s σ H xs us Q I r h
  obtain ⟨p, ys, rfl, hq, q⟩ := h
  obtain ⟨u, rfl, rx⟩ := vals1 r
  cases rx
  have fin : ∀ (its : List Value), Vals ys its -> ys.length <= sizeLine -> ∀ (h' : Heap) (c' : Nat), (∀ b o', s.heap.get? b = some o' -> h'.get? b = some o') ->
      h'.get? s.heap.objs.size = some { cls := .type "list", dict := none, data := .seq its.toArray c', slots := #[] } -> EP X pins σ Q (.ref s.heap.objs.size) { s with heap := h' } := fun its r' hz h' c' kp e =>
    ⟨.ref s.heap.objs.size, _, I.laid (t' := s.toks) kp (Nat.le_refl _) (show ObjOk X.prog X.w _ h' _ (.lst ys) from ⟨hz, its, c', r', e⟩), rfl, q _ (I.hok.fresh (Nat.le_refl _))⟩
  rcases hq with hq | hq
  . obtain ⟨its, r', pl, hz⟩ := I.list hq
    have hlen := r'.length
    obtain ⟨o, ho, hc, n, hd⟩ := pl.isList
    exact call_list_seq p (.inl rfl) ho hc hd (fun h' c' kp e => fin its r' hz h' c' kp e) (by simp only [List.size_toArray] <;> omega)
  . obtain ⟨its, r', pl, hz⟩ := I.tuple hq
    have hlen := r'.length
    obtain ⟨o, ho, hc, n, hd⟩ := pl
    exact call_list_seq p (.inr rfl) ho hc hd (fun h' c' kp e => fin its r' hz h' c' kp e) (by simp only [List.size_toArray] <;> omega)
theorem call_tuple_of : CallR X (.type "tuple") (fun xs H Q => ∃ p ys, xs = [.ref p] /\ ((SqL X.K H p ys /\ ∀ l, H l = none -> Q (.ref l) (upd H l (.tup ys))) \/ (SqT X.K H p ys /\ Q (.ref p) H))) := by
  intro pins s σ H xs us Q I r h
  obtain ⟨p, ys, rfl, h⟩ := h
  obtain ⟨u, rfl, rx⟩ := vals1 r
  cases rx
  rcases h with ⟨hq, q⟩ | ⟨hq, q⟩
  . obtain ⟨its, r', pl, hz⟩ := I.list hq
    have hlen := r'.length
    refine call_tuple_list pl.isList (fun h' kp => ?_) (by simp only [List.size_toArray] <;> omega)
    have I1 : Inv X pins σ H { s with heap := h' } := I.kept (t' := s.toks) kp
    have I2 : Inv X pins σ (upd H h'.objs.size (.tup ys)) { s with heap := h'.push { cls := .type "tuple", data := .seq its.toArray } } :=
      I1.laid (t' := s.toks) (fun b o e => Heap.get?_push_of_some _ e) (Nat.le_refl _) (show ObjOk X.prog X.w _ _ _ (.tup ys) from ⟨hz, its, r', IsTup.new _ _⟩)
    exact ⟨.ref h'.objs.size, _, I2, rfl, q _ (I1.hok.fresh (Nat.le_refl _))⟩
  . obtain ⟨its, r', pl, hz⟩ := I.tuple hq
    exact call_tuple_same pl ⟨.ref p, H, I, rfl, q⟩
def tyV (K : W.Frag) (T : String) (x : V) (H : Hp) : Prop := match x with
  | .str _ => T = "str"
  | .int _ => T = "int"
  | .ref p => (T = "list" /\ ∃ xs, SqL K H p xs) \/ (T = "tuple" /\ ∃ o, K.lookup p = some o /\ o.cls = .type "tuple" /\ o.dict = none) \/
      (T = "dict" /\ ((∃ kvs, H p = some (.dK kvs)) \/ ∃ kvs, H p = some (.dT kvs))) \/ (T = "set" /\ ∃ S n, H p = some (.set S n))
  | _ => False
theorem tyV_is {pins : List (Addr × Obj)} {σ : St} {H : Hp} {s : Shared} {T : String} {x : V} {v : Value} (I : Inv X pins σ H s) (r : RelV x v) (ty : tyV X.K T x H) :
    s.TypeIs v T /\ ∀ a, v = .ref a -> ∃ ob, s.heap.get? a = some ob /\ ob.dict = none := by
  cases x with
  | str z =>
    obtain ⟨t, rfl⟩ := r
    cases (show T = "str" from ty)
    exact ⟨typeIs_str s z t, fun _ e => nomatch e⟩
  | int i =>
    obtain ⟨t, rfl⟩ := r
    cases (show T = "int" from ty)
    exact ⟨typeIs_int s i t, fun _ e => nomatch e⟩
  | ref p =>
    cases r
    rcases ty with ⟨rfl, xs, hq⟩ | ⟨rfl, o, hk, hc, hd⟩ | ⟨rfl, hk⟩ | ⟨rfl, S, n, hk⟩
    . obtain ⟨its, _, pl, _⟩ := I.list hq
      refine ⟨pl.isList.typeIs, fun a e => ?_⟩
      cases e
      obtain ⟨o, n, e, c, hd, _⟩ := pl
      exact ⟨o, e, hd⟩
    . refine ⟨⟨o, I.kIn p o hk, hc⟩, fun a e => ?_⟩
      cases e
      exact ⟨o, I.kIn _ o hk, hd⟩
    . have z : ∃ o, s.heap.get? p = some o /\ o.ExactDict := by
        rcases hk with ⟨kvs, hk⟩ | ⟨kvs, hk⟩
        . obtain ⟨_, _, _, _, o, _, _, e, ex, _⟩ := I.hok p _ hk
          exact ⟨o, e, ex⟩
        . obtain ⟨_, _, _, _, o, _, _, e, ex, _⟩ := I.hok p _ hk
          exact ⟨o, e, ex⟩
      obtain ⟨o, e, ex⟩ := z
      refine ⟨⟨o, e, ex.1⟩, fun a e2 => ?_⟩
      cases e2
      exact ⟨o, e, ex.2.1⟩
    . obtain ⟨o, _, _, _, e, ex, _⟩ := I.hok p _ hk
      refine ⟨⟨o, e, ex.1⟩, fun a e2 => ?_⟩
      cases e2
      exact ⟨o, e, ex.2.1⟩
  | _ => exact False.elim ty
def tBM (K : W.Frag) (T : String) (r : V -> List V -> Hp -> VK -> Prop) (to : TE) (t : TA) : TE := fun σ H Q => to σ H fun x H1 => tyV K T x H1 /\ t σ H1 fun xs H2 => r x xs H2 Q
variable {o e : Expr} {es : List Expr} {to : TE} {t : TA} {name : Str} {apos cpos : Pos} {T id : String} {r : V -> List V -> Hp -> VK -> Prop}
theorem pe_bm (pa : PlainAttrs T) (slot : Slot T name id) (hty : typeOf (.builtin id) = pure (.type "method_descriptor")) (hm : MtR X id r) (ho : PE X o to) (ha : PA X (e :: es) t)
    (hbase : attributeBase o name X.env (eval o X.env) = eval o X.env := by rfl)
    (hfew : ((backTo cpos (starEach (e :: es) X.env)).all (fun x => !x.1) && (backToKw cpos (keywordEach [] X.env)).all (fun x => x.1.isSome)
      && decide ((e :: es).length + ([] : List Keyword).length + (if ([] : List Keyword).isEmpty then 0 else 1) < 30)) = true := by rfl)
    (hline : (apos.endLine == cpos.line) = true := by rfl) (hs : starEach (e :: es) X.env = (false, eval e X.env) :: starEach es X.env := by rfl) (hplain : (backTo cpos (starEach es X.env)).any (·.1) = false := by rfl) :
    PE X (.Call (.Attribute o name apos) (e :: es) [] cpos) (tBM X.K T r to t) := by
  intro pins s σ H Q I h
  refine wpAny_Call_method_late hbase hfew hline rfl (thn (ho pins s σ H _ I h) fun v s1 ⟨x, H1, I1, r1, ty, q1⟩ => ?_)
  obtain ⟨h1, h2⟩ := tyV_is I1 r1 ty
  refine ⟨T, id, pa, slot, hty, h1, h2, ?_⟩
  have hA := ha cpos pins s1 σ H1 _ I1 q1
  rw [hs] at hA ⊢
  refine Calls.callWith_builtin (by show (false || (backTo cpos (starEach es X.env)).any (·.1)) = false; rw [hplain] <;> rfl) (Calls.evalArgs_plain ?_)
  exact thn hA fun us s2 ⟨vs, H2, I2, r2, q2⟩ => hm pins s2 σ H2 x vs v us Q I2 r1 r2 q2
/- xs.append(e), list.index on a module's tuple .. are MtR facts of 06m -/
end
def MtM (X : Cx) (id : String) (r : V -> List V -> Hp -> VK -> Prop) : Prop :=
  ∀ (pins : List (Addr × Obj)) (s : Shared) (σ : St) (H : Hp) (x : V) (xs : List V) (v : Value) (us : List Value) (Q : VK), Inv X pins σ H s -> RelV x v -> Vals xs us -> r x xs H Q ->
    wpAny (model X.prog X.w) X.A (call (.builtin id) (v :: us)) (EP X pins σ Q) X.xe s
theorem Vals.one : ∀ {x : V} {us : List Value}, Vals [x] us -> ∃ u, us = [u] /\ RelV x u
  | _, _, .cons r .nil => ⟨_, rfl, r⟩
theorem Vals.two : ∀ {x y : V} {us : List Value}, Vals [x, y] us -> ∃ u v, us = [u, v] /\ RelV x u /\ RelV y v
  | _, _, _, .cons r (.cons q .nil) => ⟨_, _, rfl, r, q⟩
theorem Vals.eraseIdx : ∀ {xs : List V} {us : List Value} (i : Nat), Vals xs us -> Vals (xs.eraseIdx i) (us.eraseIdx i)
  | _, _, _, .nil => .nil
  | _, _, 0, .cons _ t => t
  | _, _, i + 1, .cons r t => .cons r (Vals.eraseIdx i t)
theorem len_erase {α : Type} : ∀ (l : List α) (i : Nat), (l.eraseIdx i).length <= l.length
  | [], _ => Nat.le_refl _
  | _ :: _, 0 => Nat.le_succ _
  | _ :: r, i + 1 => Nat.succ_le_succ (len_erase r i)
section
variable {X : Cx} {pins : List (Addr × Obj)} {σ : St} {H : Hp} {s : Shared} {l b : Addr} {xs ys zs : List V}
theorem Inv.lset {its its' : List Value} {n : Nat} {f : Array Value -> Array Value} {t' : Nat} (I : Inv X pins σ H s) (hH : H l = some (.lst xs))
    (e : s.heap.get? l = some { cls := .type "list", data := .seq its.toArray n }) (hf : f its.toArray = its'.toArray) (hv : Vals ys its') (hz : ys.length <= sizeLine) :
    Inv X pins σ (upd H l (.lst ys)) { s with heap := s.heap.update l (Obj.mapSeq f), toks := t' } := by
  have q := PySem.IsL.update e f
  rw [hf] at q
  refine I.write (x := l) (e := l) (by rw [hH]; exact trivial) (.inl rfl) (fun b' u hb hu => (Heap.get?_update_other s.heap (Obj.mapSeq f) (Ne.symm hb)).trans hu) ⟨_, q⟩ ?_
  exact ⟨hz, its', _, hv, q⟩
theorem Inv.lnew {its : List Value} {t' : Nat} (I : Inv X pins σ H s) (hv : Vals ys its) (hz : ys.length <= sizeLine) :
    Inv X pins σ (upd H s.heap.objs.size (.lst ys)) { s with heap := s.heap.push { cls := .type "list", data := .seq its.toArray }, toks := t' } :=
  I.laid (fun _ _ q => Heap.get?_push_of_some _ q) (Nat.le_refl _) ⟨hz, its, 0, hv, Heap.get?_push_size _ rfl⟩
theorem Inv.fresh (I : Inv X pins σ H s) : H s.heap.objs.size = none := I.hok.fresh (Nat.le_refl _)
theorem Inv.lstM (I : Inv X pins σ H s) (hH : H l = some (.lst xs)) : xs.length <= sizeLine /\ ∃ (its : List Value) (n : Nat), Vals xs its /\ xs.length = its.length /\ s.heap.get? l = some { cls := .type "list", data := .seq its.toArray n } := by
  obtain ⟨z, its, n, r, e⟩ := I.hok l _ hH
  exact ⟨z, its, n, r, r.length, e⟩
theorem notLongL {n : Nat} (h : n <= sizeLine) : Builtin.List.listTooLong n = false := by
  unfold Builtin.List.listTooLong
  exact decide_eq_false (by omega)
end
section
variable {X : Cx}
def rAppend : V -> List V -> Hp -> VK -> Prop := fun x vs H Q => ∃ l xs y, x = .ref l /\ vs = [y] /\ H l = some (.lst xs) /\ xs.length < sizeLine /\ Q .non (upd H l (.lst (xs ++ [y])))
theorem mt_append : MtM X "list.append" rAppend := by
  intro pins s σ H x vs v us Q I rx rv h
  obtain ⟨l, xs, y, rfl, rfl, hH, hz, q⟩ := h
  cases rx
  obtain ⟨u, rfl, ru⟩ := rv.one
  obtain ⟨z, its, n, r, hl, e⟩ := I.lstM hH
  refine call_meets F.slot_list_append ⟨_, e, rfl⟩ F.entry_list_append (F.args_list_append_2 _ _) (PySem.list_append l its.toArray n u (by rw [List.size_toArray]; omega)) ⟨e, ?_⟩
  refine ⟨.non, _, I.lset (its' := its ++ [u]) hH e (by simp) (r.append (.cons ru .nil)) ?_, rfl, q⟩
  rw [List.length_append, List.length_singleton]
  omega
def rExtend : V -> List V -> Hp -> VK -> Prop := fun x vs H Q => ∃ l b xs zs, x = .ref l /\ vs = [.ref b] /\ H l = some (.lst xs) /\ H b = some (.lst zs) /\ xs.length + zs.length <= sizeLine /\ Q .non (upd H l (.lst (xs ++ zs)))
theorem mt_extend : MtM X "list.extend" rExtend := by
  intro pins s σ H x vs v us Q I rx rv h
  obtain ⟨l, b, xs, zs, rfl, rfl, hH, hB, hz, q⟩ := h
  cases rx
  obtain ⟨u, rfl, ru⟩ := rv.one
  cases ru
  obtain ⟨z, its, n, r, hl, e⟩ := I.lstM hH
  obtain ⟨z2, its2, n2, r2, hl2, e2⟩ := I.lstM hB
  have hsz : its.toArray.size + its2.toArray.size <= sizeLine := by rw [List.size_toArray, List.size_toArray]; omega
  have hlong : ¬ (!its.toArray.isEmpty && Builtin.List.listTooLong (its.toArray.size + its2.toArray.size)) = true := by
    rw [notLongL hsz, Bool.and_false]
    exact Bool.false_ne_true
  refine call_meets F.slot_list_extend ⟨_, e, rfl⟩ F.entry_list_extend (F.args_list_extend_2 _ _)
    (AutoSeq1.list_extend_list_list_0 l its.toArray n b its2.toArray n2 hlong (by rw [List.size_toArray]; omega) (by omega)) ⟨e, e2, ?_⟩
  refine ⟨.non, _, I.lset (its' := its ++ its2) hH e (by simp) (r.append r2) ?_, rfl, q⟩
  rw [List.length_append]
  omega
def rPopAt : V -> List V -> Hp -> VK -> Prop := fun x vs H Q => ∃ l xs i k y, x = .ref l /\ vs = [.int i] /\ H l = some (.lst xs) /\ -(2 ^ 63) <= i /\ i < 2 ^ 63 /\ seqIndex? i xs.length = some k /\ xs[k]? = some y /\ Q y (upd H l (.lst (xs.eraseIdx k)))
theorem mt_popAt : MtM X "list.pop" rPopAt := by
  intro pins s σ H x vs v us Q I rx rv h
  obtain ⟨l, xs, i, k, y, rfl, rfl, hH, h1, h2, hk, hy, q⟩ := h
  cases rx
  obtain ⟨u, rfl, ru⟩ := rv.one
  obtain ⟨t, rfl⟩ := ru
  obtain ⟨z, its, n, r, hl, e⟩ := I.lstM hH
  obtain ⟨w, hw, rw'⟩ := r.get hy
  refine call_meets F.slot_list_pop ⟨_, e, rfl⟩ F.entry_list_pop (F.args_list_pop_2 _ _)
    (MeetsSeq.list_pop_at l its.toArray n i t k w (fitsIndex_both h1 h2) (by rw [List.size_toArray, <- hl]; exact hk) (by rw [<- Array.getElem?_toList]; exact hw) (by rw [List.size_toArray]; omega)) ⟨e, ?_⟩
  refine ⟨y, _, I.lset (its' := its.eraseIdx k) hH e ?_ (r.eraseIdx k) ?_, rw', q⟩
  . show its.toArray.eraseIdxIfInBounds k = (its.eraseIdx k).toArray
    rw [List.eraseIdxIfInBounds_toArray]
  . have := len_erase xs k
    omega
def rCat : R2 := fun x y H Q => ∃ l b xs zs, x = .ref l /\ y = .ref b /\ H l = some (.lst xs) /\ H b = some (.lst zs) /\ xs.length + zs.length <= sizeLine /\ ∀ p, H p = none -> Q (.ref p) (upd H p (.lst (xs ++ zs)))
theorem op_cat : OpR X (binaryOp .Add) rCat := by
  intro pins s σ H x y v u Q I rx ry h
  obtain ⟨l, b, xs, zs, rfl, rfl, hH, hB, hz, q⟩ := h
  cases rx
  cases ry
  obtain ⟨z, its, n, r, hl, e⟩ := I.lstM hH
  obtain ⟨z2, its2, n2, r2, hl2, e2⟩ := I.lstM hB
  refine PySem.P.add_list e e2 ?_ (by rw [List.size_toArray, List.size_toArray]; omega)
  have ea : its.toArray ++ its2.toArray = (its ++ its2).toArray := by simp
  rw [ea]
  exact ⟨.ref _, _, I.lnew (t' := s.toks) (r.append r2) (by rw [List.length_append]; omega), rfl, q _ I.fresh⟩
end
section
variable {prog : Program} {w : World} {A : Around} {E : Value -> Shared -> Prop} {s : Shared}
end
section
variable {X : Cx}
end
end L2
namespace Att
open PySem PySem.W PySem.Calls PyProof.Rows
theorem ints_of_wellAll {P : Params} {h : Heap} : ∀ (ns : List Int) (vs : List Value), WellAll P h vs (ns.map WData.int) -> IntsAre vs ns := by
  intro ns
  induction ns with
  | nil =>
    intro vs w
    rw [List.map_nil] at w
    cases w
    exact .nil
  | cons n ns ih =>
    intro vs w
    rw [List.map_cons] at w
    cases w with
    | cons a b =>
      cases a
      exact .cons _ _ (ih _ b)
theorem script_of {l : OpenLaw} {n : Nat} (hn : l.most = some n) {P : Params} {h : Heap} {args : List WData} {vals : List Value}
    (hpre : l.row.toRowW.claim.pre args = true) (hwl : WellAll P h vals args) :
    ∃ a vs ns, vals = [Value.ref a] /\ args = [WData.list (ns.map WData.int)] /\ h.get? a = some { cls := .type "list", data := .seq vs.toArray } /\ IntsAre vs ns /\ ns.length <= n := by
  have hsh : WShape.hasAll [] args [.list .int] = true := (pre_splitW hpre).1
  have hc : l.pre.holds [] { args := args } = true := (pre_splitW hpre).2
  obtain ⟨d, r, rfl, h1, h2⟩ := hasAllW_cons hsh
  obtain rfl := hasAllW_nil h2
  obtain ⟨xs, rfl, h3⟩ := hasW_list h1
  obtain ⟨ns, rfl⟩ := items_int h3
  have hlen : ns.length <= n := by
    unfold OpenLaw.pre at hc
    have h4 : (WTm.not (.lt (.lit (.int (n : Int))) (.len (.arg 0)))).holds [] { args := [.list (ns.map .int)] } = true := by
      have h4 := (holds_andW hc).1
      rw [hn] at h4
      exact h4
    have h5 := condW_of h4 (w_not (w_lt w_lit (w_len_list (w_arg rfl))))
    rw [List.length_map] at h5
    refine Nat.le_of_not_lt fun q => ?_
    have q' : (n : Int) < ((ns.length : Nat) : Int) := by omega
    first
      | (rw [decide_eq_true q'] at h5; exact absurd h5 (by decide))
      | (simp at h5; omega)
  cases hwl with
  | cons w1 w2 =>
    cases w2
    cases w1 with
    | list ho hall => exact ⟨_, _, ns, rfl, rfl, ho, ints_of_wellAll ns _ hall, hlen⟩
theorem post_true (l : OpenLaw) (args : List WData) : l.row.toRowW.claim.post args (.bool true) args = true :=
  postW_of (r := l.row.toRowW) (X := (true == true))
    (show WShape.has [] (.bool true) .bool = true by first | rfl | decide | simp [WShape.has, WShape.arms, WShape.armsAll])
    (show (WTm.eq .res (.lit (.bool true))).value [] { args := args, res := some (.bool true), after := args } = some (.bool (true == true)) from w_eq_bool (w_res rfl) w_lit) rfl
theorem attach_call {l : OpenLaw} {n : Nat} {q : Program} {loose : List Str} {XP : (Str -> Option Value) -> Heap -> Prop} {YP : World -> Heap -> Prop} {d : DefRec}
    (hn : l.most = some n) (hdf : d.params.defaults = [])
    (call : ∀ (w : World) (s₀ s₁ : Shared) (mg mb : Str -> Option Value) (fa : Addr) (o : Obj) (pm cd doc : Value) (a : Addr) (vs : List Value) (ns : List Int),
      Ground q loose [] XP w s₀ mg mb s₁.heap -> YP w s₁.heap ->
      s₁.heap.get? fa = some o -> o.data = .func (docDef d.name d.params d.body d.scope pm cd doc) -> s₁.heap.CodeRec cd d.name -> mg d.name = some (.ref fa) ->
      s₁.heap.get? a = some { cls := .type "list", data := .seq vs.toArray } -> IntsAre vs ns -> ns.length <= n -> s₁.gens = #[] ->
      codeAny (model l.prog w) callerA (.call (.ref fa) ⟨[.ref a], []⟩) (fun r s' => r = .ok (.ret (.bool true)) /\ OldK s₁.heap s'.heap /\ s'.os = s₁.os /\ AllBare s'.gens) s₁) :
    WalkO q loose XP YP l.row.toRowW d [] (fun f vs => PySem.call f vs) := by
  intro w s₀ s₁ mg mb G Y fa o pm cd doc dV kV ho hd hcd hD hmg hg args vals as hpre hlay hrd hwl hlo
  obtain rfl : dV = .none := Dflts.none hD hdf
  obtain rfl : kV = .none := Dflts.noKw hD
  obtain ⟨a, vs, ns, rfl, rfl, hobj, hints, hlen⟩ := script_of hn hpre hwl
  refine enter_call (codeAny_mono (call w s₀ s₁ mg mb fa o pm cd doc a vs ns G Y ho (fd_plain hd) hcd hmg hobj hints hlen hg) fun r s' hq => ?_)
  obtain ⟨rfl, h2, h3, h4⟩ := hq
  exact ⟨.inl ⟨.bool true, .bool true, [], rfl, fun _ => rfl, .bool true, post_true l _, fun _ => ⟨List.Pairwise.nil, fun _ hm => (nomatch hm)⟩⟩, h2, h3, h4⟩
section
variable {prog : Program} {w : World} {A : Around} {E : Value -> Shared -> Prop} {s : Shared} {K : Frag}
def ledger (h : Heap) (L d : Addr) : List (Addr × Obj) := (List.range h.objs.size).filterMap fun a => if a = L \/ a = d then none else (h.get? a).map fun o => (a, o)
end
end Att
namespace L2
open PySem PySem.Spec PyProof.Rows
theorem vals_ints : ∀ {vs : List Value} {ns : List Int}, IntsAre vs ns -> Vals (ns.map V.int) vs
  | _, _, .nil => .nil
  | _, _, .cons n t h => .cons ⟨t, rfl⟩ (vals_ints h)
def Only (H : Hp) : Prop := ∀ b, H b = none \/ ∃ o xs, H b = some (.frz o (.lst xs))
theorem law_call {P : Program} {w : World} {K : W.Frag} {mg mb : Str -> Option Value} {CX : CXT} {k : Nat} {fa a : Addr} {fd : FuncData} {x : Str} {sp : Sp} {s₁ : Shared} {vs : List Value} {ns : List Int}
    (KX : K.In s₁.heap) (hns : s₁.heap.Ns mainGlobals mg) (hb : s₁.heap.Ns builtinsNs mb) (hbb : ∀ x : Str, x ≠ "__name__" -> mb x = bootBuiltins x) (hlim : s₁.heap.NoLimit) (hg : s₁.gens = #[])
    (ha : s₁.heap.get? a = some { cls := .type "list", data := .seq vs.toArray }) (hi : IntsAre vs ns) (hl : ns.length <= sizeLine) (hr : Room k callerA)
    (F : ∀ base : Heap, K.In base -> base.Ns mainGlobals mg -> FnOk P w K mg base CX k fa fd [x] sp) (hbind : ∀ (s : Shared) (u : Value), BindsTo s fd ⟨[u], []⟩ [(x, u)])
    (hsp : ∀ H : Hp, Only H -> SqL K H a (ns.map V.int) -> sp [.ref a] H (fun v _ => v = .bl true) fun _ _ _ => False)
    (hCX : ∀ H e s', CX [] H s₁ (fun _ _ _ => False) e s' -> False) :
    codeAny (model P w) callerA (.call (.ref fa) ⟨[.ref a], []⟩) (fun r s' => r = .ok (.ret (.bool true)) /\ OldK s₁.heap s'.heap /\ s'.os = s₁.os /\ AllBare s'.gens) s₁ := by
  have rv := vals_ints hi
  have lenV := hi.length
  -- from an abstract heap in which nothing but the script may be tracked
  have core : ∀ H : Hp, Only H -> SqL K H a (ns.map V.int) -> HOk P w H s₁.heap -> (∀ b, H b ≠ none -> b = a) -> (H a ≠ none -> K.lookup a = none) ->
      codeAny (model P w) callerA (.call (.ref fa) ⟨[.ref a], []⟩) (fun r s' => r = .ok (.ret (.bool true)) /\ OldK s₁.heap s'.heap /\ s'.os = s₁.os /\ AllBare s'.gens) s₁ := by
    intro H hO hS hok hA hK
    have base_of : ∀ {b : Addr} {o : Obj}, s₁.heap.get? b = some o -> H b = none -> (hidT s₁.heap H).get? b = some o := fun e n => hidT_get e n
    have noA : ∀ {b : Addr} {o : Obj} {es : Array DictEntry} {ep : Nat}, s₁.heap.get? b = some o -> o.data = .dict es ep -> H b = none := fun {b o es ep} e d => by
      cases q : H b with
      | none => rfl
      | some u =>
        have e' : b = a := hA b (by rw [q]; simp)
        subst e'
        rw [ha] at e; cases e
        have d' : Data.seq vs.toArray _ = Data.dict es ep := d
        cases d'
    have nsK : ∀ {b : Addr} {m : Str -> Option Value}, s₁.heap.Ns b m -> (hidT s₁.heap H).Ns b m := fun {b m} ⟨o, es, ep, e, d, r⟩ => ⟨o, es, ep, base_of e (noA e d), d, r⟩
    have hKb : K.In (hidT s₁.heap H) := fun b o e => base_of (KX b o e) (by
      cases q : H b with
      | none => rfl
      | some u =>
        have e' : b = a := hA b (by rw [q]; simp)
        subst e'
        rw [hK (by rw [q]; simp)] at e; cases e)
    have hM : Mod K mg (hidT s₁.heap H) := ⟨hKb, nsK hns, ⟨mb, nsK hb, hbb⟩, let ⟨mc, h1, h2⟩ := hlim; ⟨mc, nsK h1, h2⟩⟩
    have e0 : Env0 P w K mg (hidT s₁.heap H) callerA [] s₁ H := ⟨rfl, hM, fun b o e => of_hidT e, Nat.le_of_eq (hidT_size _ _), trivial, fun b hb => absurd (show b ∈ ([] : List Addr) from hb) (by simp), hok, .of_eq hg⟩
    refine codeAny_mono ((F _ hKb (nsK hns)).run callerA [] s₁ H ⟨[.ref a], []⟩ [.ref a] [.ref a] _ _ hr e0 (hbind s₁ (.ref a)) (.cons rfl .nil) (hsp H hO hS)) fun r s' h => ?_
    cases r with
    | error e => exact (hCX H e s' h).elim
    | ok fl =>
      cases fl with
      | next => exact False.elim h
      | brk => exact False.elim h
      | cont => exact False.elim h
      | ret u =>
        obtain ⟨v, H', os, bare, un, hok', r', q⟩ := h
        have q' : v = .bl true := q
        subst q'
        obtain rfl : u = Value.bool true := r'
        refine ⟨rfl, OldK.of_keep fun b o e => ?_, os, bare⟩
        cases q : H b with
        | none => exact un.keep b o e q (by intro z; exact absurd (show b ∈ ([] : List Addr) from z) (by simp)) (by simp)
        | some u =>
          rcases hO b with z | ⟨ob, xs, z⟩
          . rw [q] at z; cases z
          . have z2 := un.frzs b ob _ z
            obtain ⟨e1, _⟩ := hok b _ z
            obtain ⟨e2, _⟩ := hok' b _ z2
            rw [e] at e1; cases e1
            exact e2
  cases hk : K.lookup a with
  | some o =>
    -- the script is one of the module's own objects
    have e := KX a o hk
    rw [ha] at e
    cases e
    refine core (fun _ => none) (fun _ => .inl rfl) (.inr ⟨_, vs.toArray, _, hk, rfl, rfl, rfl, by rw [List.size_toArray, lenV]; exact hl, by simpa using rv⟩) (fun b u z => by have z' : (none : Option HO) = some u := z; cases z') (fun b z => absurd rfl z) fun z => absurd rfl z
  | none =>
    refine core (fun b => if b = a then some (.frz { cls := .type "list", data := .seq vs.toArray } (.lst (ns.map V.int))) else none) (fun b => ?_) (.inl (.inr ⟨{ cls := .type "list", data := .seq vs.toArray }, if_pos rfl⟩)) (fun b u z => ?_) (fun b z => ?_) fun _ => hk
    . by_cases hb : b = a
      . exact .inr ⟨_, _, if_pos hb⟩
      . exact .inl (if_neg hb)
    . by_cases hb : b = a
      . have z' := (if_pos hb).symm.trans z
        cases z'
        subst hb
        exact ⟨ha, by rw [List.length_map]; exact hl, vs, _, rv, ha⟩
      . have z' := (if_neg hb).symm.trans z
        cases z'
    . by_cases hb : b = a
      . exact hb
      . exact absurd (if_neg hb) z
theorem walk_of {l : PySem.W.OpenLaw} {n k : Nat} {q : Program} {loose : List Str} {XP : (Str -> Option Value) -> Heap -> Prop} {YP : World -> Heap -> Prop} {d : DefRec} {K : Params -> W.Frag} {CX : World -> CXT} {sp : World -> Sp} {x : Str}
    (hn : l.most = some n) (hn2 : n <= sizeLine) (hdf : d.params.defaults = []) (hr : Room k callerA)
    (hY : ∀ (w : World) (h : Heap), YP w h -> (K w.params).In h)
    (F : ∀ (w : World) (mg : Str -> Option Value) (fa : Addr) (h : Heap), (K w.params).In h -> h.Ns mainGlobals mg -> mg d.name = some (.ref fa) ->
      ∃ fd : FuncData, (∀ (s : Shared) (u : Value), BindsTo s fd ⟨[u], []⟩ [(x, u)]) /\
        ∀ base : Heap, (K w.params).In base -> base.Ns mainGlobals mg -> FnOk l.prog w (K w.params) mg base (CX w) k fa fd [x] (sp w))
    (hsp : ∀ (w : World) (H : Hp) (a : Addr) (ns : List Int), ns.length <= n -> Only H -> SqL (K w.params) H a (ns.map V.int) -> sp w [.ref a] H (fun v _ => v = .bl true) fun _ _ _ => False)
    (hCX : ∀ (w : World) (H : Hp) (s : Shared) (e : Value) (s' : Shared), CX w [] H s (fun _ _ _ => False) e s' -> False) :
    PySem.W.WalkO q loose XP YP l.row.toRowW d [] (fun f vs => PySem.call f vs) := by
  refine Att.attach_call hn hdf fun w s₀ s₁ mg mb fa o pm cd doc a vs ns G Y ho hd hcd hmg hobj hints hlen hg => ?_
  have KX := hY w _ Y
  obtain ⟨fd, hb, hF⟩ := F w mg fa _ KX G.T.g hmg
  exact law_call KX G.T.g G.T.b G.T.builtins G.T.nolimit hg hobj hints (Nat.le_trans hlen hn2) hr hF hb (fun H hO hS => hsp w H a ns hlen hO hS) fun H e s' => hCX w H s₁ e s'
def inClass (s : Stmt) (j : Nat) : Stmt := match s with
  | .ClassDef _ _ _ body _ _ _ _ _ _ _ => body.getD j (.Pass ⟨0, 0, 0, 0⟩)
  | _ => .Pass ⟨0, 0, 0, 0⟩
def defArgs (s : Stmt) : Arguments := match s with
  | .FunctionDef _ a _ _ _ _ _ _ _ _ => a
  | _ => { posonlyargs := [], args := [], vararg := none, kwonlyargs := [], kw_defaults := [], kwarg := none, defaults := [] }
def defBody (s : Stmt) : List Stmt := match s with
  | .FunctionDef _ _ b _ _ _ _ _ _ _ => b
  | _ => []
def defScope (s : Stmt) : Scope := match s with
  | .FunctionDef _ _ _ _ _ _ sc _ _ _ => sc
  | _ => { kind := .function, names := [], isGenerator := false, isCoroutine := false }
abbrev CX0 : CXT := fun _ _ _ _ _ _ => False
abbrev E0 : XK := fun _ _ _ => False
theorem pass0 {X : Cx} : Passes CX0 X E0 := fun _ _ _ _ _ _ _ h => h.elim
structure Fun (K : W.Frag) (x qual : Str) (st : Stmt) (f : Addr) (fd : FuncData) : Prop where
  ex : ∃ (oc : Value) (od : Option Addr) (kV doc pm : Value) (an : Option Addr) (cdv ct : Value) (osl : Array (Option Value)),
    fd = PySem.W.fnOf x qual (defArgs st) (defBody st) (defScope st) .none kV doc pm an cdv ct /\ K.lookup f = some ⟨oc, od, .func fd, osl⟩ /\ PySem.W.codeIn K cdv qual = true
  kp : W.keepIn K (.ref f) = true
section
variable {P : Program} {w : World} {K : W.Frag} {mg : Str -> Option Value} {base : Heap}
theorem Fun.ok {x qual : Str} {st : Stmt} {f : Addr} {fd : FuncData} {N ps : List Str} {k : Nat} {sp : Sp} (F : Fun K x qual st f fd) (S : FnScope N ps (defScope st)) (len : ∀ vs H Q E, sp vs H Q E -> vs.length = ps.length)
    (hbody : ∀ (cdv : Value) (A : Around) (outer : List Env) (s : Shared) (H : Hp) (vs : List V) (Q : VK) (E : XK), Room k (A.deeper (envOfC qual (defScope st) s.heap.objs.size f cdv)) -> sp vs H Q E ->
      ∃ t, PSs (cxOf CX0 P w K mg base N qual (defScope st) f cdv A outer s H E).nox (defBody st) t /\ t { nx := fun _ H' => Q .non H', rt := Q } (start N vs) H) : FnOk P w K mg base CX0 (k + 1) f fd ps sp := by
  obtain ⟨oc, od, kV, doc, pm, an, cdv, ct, osl, rfl, lk, hcd⟩ := F.ex
  refine fn_of lk hcd S len fun A outer s H vs Q E hr hsp => ?_
  obtain ⟨t, h, q⟩ := hbody cdv A outer s H vs Q E hr hsp
  exact ⟨t, h.nox, q⟩
theorem Fun.binds {x qual : Str} {st : Stmt} {f : Addr} {fd : FuncData} {ps : List Str} (F : Fun K x qual st f fd)
    (h : ∀ (kV doc pm : Value) (an : Option Addr) (cdv ct : Value) (us : List Value), us.length = ps.length -> bindArgs (PySem.W.fnOf x qual (defArgs st) (defBody st) (defScope st) .none kV doc pm an cdv ct) ⟨us, []⟩ = pure (ps.zip us)) : Binds K fd ps [] := by
  obtain ⟨oc, od, kV, doc, pm, an, cdv, ct, osl, rfl, lk, hcd⟩ := F.ex
  exact .all (h kV doc pm an cdv ct)
theorem fun_mk {x qual : Str} {st : Stmt} {f : Addr} {oc : Value} {od an : Option Addr} {osl : Array (Option Value)} {kV doc pm cdv ct : Value} (l : K.lookup f = some ⟨oc, od, .func (PySem.W.fnOf x qual (defArgs st) (defBody st) (defScope st) .none kV doc pm an cdv ct), osl⟩)
    (c : PySem.W.codeIn K cdv qual = true) (k : W.keepIn K (.ref f) = true) : Fun K x qual st f (PySem.W.fnOf x qual (defArgs st) (defBody st) (defScope st) .none kV doc pm an cdv ct) := ⟨⟨oc, od, kV, doc, pm, an, cdv, ct, osl, rfl, l, c⟩, k⟩
end
theorem hu_of {A : Around} {k : Nat} (hr : Room k A) : A.units + 1 < cLine := Nat.lt_of_le_of_lt (Nat.add_le_add_left (by decide : 1 <= 64) _) hr.units
theorem small1000 {n : Nat} (h : n <= 1000) : n < sizeLine := Nat.lt_of_le_of_lt h (by decide)
section
variable {X : Cx}
theorem pv (i : Nat) {x : Str} {pos : Pos} (hN : X.N[i]? = some x := by rfl) (hv : Vis X.env.scope x := by first | exact Or.inl rfl | exact Or.inr (Or.inl rfl) | exact Or.inr (Or.inr rfl)) (hd : (x == ("__debug__" : Str)) = false := by decide)
    (hcd : (x == ("__classdict__" : Str)) = false := by decide) : PE X (.Name x pos) (tVar i) := pe_var hN hv hd hcd
end
theorem iteF {A B : Prop} (h : B) : if false = true then A else B := by
  rw [if_neg Bool.false_ne_true]
  exact h
theorem iteT {A B : Prop} (h : A) : if true = true then A else B := by
  rw [if_pos rfl]
  exact h
theorem ite2 {c A B : Prop} [Decidable c] (h1 : c -> A) (h2 : ¬ c -> B) : if c then A else B := by
  by_cases h : c
  . rw [if_pos h]
    exact h1 h
  . rw [if_neg h]
    exact h2 h
def Same (H H' : Hp) : Prop := ∀ b o, H b = some o -> H' b = some o
theorem Same.refl (H : Hp) : Same H H := fun _ _ h => h
theorem Same.trans {H H1 H2 : Hp} (a : Same H H1) (b : Same H1 H2) : Same H H2 := fun c o h => b c o (a c o h)
theorem Same.free {H H' : Hp} (e : Same H H') {l : Addr} (h : H' l = Option.none) : H l = Option.none := by
  cases q : H l with
  | none => rfl
  | some o =>
    rw [e l o q] at h
    cases h
theorem Same.seq {K : W.Frag} {H H' : Hp} {a : Addr} {xs : List V} (e : Same H H') (h : SqL K H a xs) : SqL K H' a xs := by
  rcases h with (h | ⟨o, h⟩) | h
  . exact .inl (.inl (e _ _ h))
  . exact .inl (.inr ⟨o, e _ _ h⟩)
  . exact .inr h
end L2
set_option maxHeartbeats 4000000
namespace L2
open PySem PySem.Spec PyProof.Rows
def PTs (X : Cx) (cs : List Expr) (t : TT) : Prop :=
  ∀ (pins : List (Addr × Obj)) (s : Shared) (σ : St) (H : Hp) (Q : Bool -> Hp -> Prop), Inv X pins σ H s -> t σ H Q ->
    wpAny (model X.prog X.w) X.A (forIn cs true fun c r => if r = true then do let ok <- isTrue c X.env (eval c X.env); pure (ForInStep.yield ok) else pure (ForInStep.yield r)) (TP X pins σ Q) X.xe s
def tYes : TT := fun _ H Q => Q true H
theorem pts_nil {X : Cx} : PTs X [] tYes := fun _ _ _ H _ I h => wpAny_tests_nil ⟨H, I, h⟩
theorem pts_one {X : Cx} {c : Expr} {t : TT} (h : PT X c t) : PTs X [c] t := fun pins s σ H Q I q => wpAny_tests_one (h pins s σ H Q I q)
theorem codeAny_compLoop_own {prog : Program} {w : World} {A : Around} {R : Result -> Shared -> Prop} {s : Shared} {elt target iter : Expr} {ifs : List Expr} {scope : Scope} {pos : Pos} {it acc : Value} {env : Env} (I : Nat -> Shared -> Prop)
    (turn : ∀ n s, I n s -> wpAny (model prog w) A (pyNext it) (fun r s₁ => match r with
      | none => R (.ok .next) s₁
      | some v => wpAny (model prog w) A (letOwnedTupleGo target it v) (fun _ s₁' => wpAny (model prog w) A (assign target env v) (fun _ s₂ =>
          wpAny (model prog w) A (forIn ifs true fun c r => if r = true then do let ok <- isTrue c env (eval c env); pure (ForInStep.yield ok) else pure (ForInStep.yield r)) (fun ok s₃ =>
            if ok = true then wpAny (model prog w) A (eval elt env) (fun x s₄ =>
              wpAny (model prog w) A (call (.builtin "list.append") [acc, x]) (fun _ s₅ => ∃ m, m < n /\ I m s₅) (fun _ _ => False) s₄) (fun _ _ => False) s₃
            else ∃ m, m < n /\ I m s₃) (fun _ _ => False) s₂) (fun _ _ => False) s₁') (fun _ _ => False) s₁) (fun _ _ => False) s)
    (n : Nat) (h : I n s) :
    codeAny (model prog w) A (.compLoop (.ListComp elt [⟨target, iter, ifs, 0⟩] scope pos) 0 it acc env) R s := by
  refine codeAny_loop rfl I (fun n s hI => ?_) n h
  show wpAny _ A ((compTurn (.ListComp elt [⟨target, iter, ifs, 0⟩] scope pos) 0 it acc env).onRaise (fun x => do noteFrame x env; theTreesLotGoes x)) _ _ s
  refine wpAny_noted ?_
  rw [compTurn_list]
  refine wpAny_bind (wpAny_standAt (wpAny_bind (wpAny_mono (turn n s hI) (fun r s₁ h₁ => ?_) fun _ _ h' => h'.elim)))
  cases r with
  | none => exact wpAny_pure h₁
  | some v =>
    refine wpAny_bind (wpAny_mono h₁ (fun _ s₁' h₁' => ?_) fun _ _ h' => h'.elim)
    refine wpAny_bind (wpAny_mono h₁' (fun _ s₂ h₂ => wpAny_bind (wpAny_mono h₂ (fun ok s₃ h₃ => ?_) fun _ _ h' => h'.elim)) fun _ _ h' => h'.elim)
    cases ok with
    | false => exact wpAny_pure ⟨rfl, h₃⟩
    | true =>
      exact wpAny_bind (wpAny_bind (wpAny_mono h₃ (fun x s₄ h₄ => wpAny_bind (wpAny_mono h₄ (fun _ s₅ h₅ => wpAny_pure (wpAny_pure ⟨rfl, h₅⟩)) fun _ _ h' => h'.elim)) fun _ _ h' => h'.elim))
def closL (env : Env) : List (Str × NameKind) -> List (Str × Addr) -> List (Str × Addr)
  | [], cs => cs
  | (n, k) :: r, cs => closL env r (if k == .free then (match env.cells.lookup n with | some a => (n, a) :: cs | none => cs) else cs)
theorem clos_go {env : Env} : ∀ (ns : List (Str × NameKind)) (cs : List (Str × Addr)), (∀ x ∈ ns, x.2 = .free -> ∃ c, env.cells.lookup x.1 = some c) ->
    (forIn ns cs fun x (r : List (Str × Addr)) => (match x with | (name, kind) => if (kind == .free) = true then do let a <- cellOf env name; pure (ForInStep.yield ((name, a) :: r)) else pure (ForInStep.yield r) : Sem (ForInStep (List (Str × Addr))))) = (pure (closL env ns cs) : Sem (List (Str × Addr)))
  | [], cs, _ => rfl
  | (n, k) :: r, cs, h => by
    have ih := fun cs => clos_go (env := env) r cs fun x hx => h x (List.mem_cons_of_mem _ hx)
    rw [List.forIn_cons]
    unfold closL
    by_cases hk : k = .free
    . subst hk
      obtain ⟨c, e⟩ := h (n, .free) List.mem_cons_self rfl
      have ec : cellOf env n = pure c := by unfold cellOf; rw [e]
      simp only [beq_self_eq_true, if_true, ec, e, pure_bind]
      exact ih _
    . have hb : (k == NameKind.free) = false := by simpa using hk
      simp only [hb, Bool.false_eq_true, if_false, pure_bind]
      exact ih _
theorem clos_eq {scope : Scope} {env : Env} (h : ∀ x ∈ scope.names, x.2 = .free -> ∃ c, env.cells.lookup x.1 = some c) : closureFor scope env = pure (closL env scope.names []) := by
  have q := clos_go (env := env) scope.names [] h
  unfold closureFor
  simp only [bind_pure_comp, map_pure, bind_pure] at q ⊢
  first
    | exact q
    | (simpa using q)
theorem closL_sub {env : Env} : ∀ (ns : List (Str × NameKind)) (cs : List (Str × Addr)) (x : Str) (c : Addr), (closL env ns cs).lookup x = some c -> env.cells.lookup x = some c \/ cs.lookup x = some c
  | [], cs, x, c, h => .inr h
  | (n, k) :: r, cs, x, c, h => by
    unfold closL at h
    rcases closL_sub r _ x c h with q | q
    . exact .inl q
    . by_cases hk : k = .free
      . subst hk
        simp only [beq_self_eq_true, if_true] at q
        cases e : env.cells.lookup n with
        | none => rw [e] at q; exact .inr q
        | some a =>
          rw [e] at q
          simp only [List.lookup_cons] at q
          cases hx : x == n with
          | true =>
            rw [hx] at q
            have ex : x = n := by simpa using hx
            subst ex
            have ea : a = c := Option.some.inj q
            subst ea
            exact .inl e
          | false => rw [hx] at q; exact .inr q
      . have hb : (k == NameKind.free) = false := by simpa using hk
        simp only [hb, Bool.false_eq_true, if_false] at q
        exact .inr q
theorem closL_mono {env : Env} : ∀ (ns : List (Str × NameKind)) (cs : List (Str × Addr)) (x : Str), (∃ c, cs.lookup x = some c) -> ∃ c, (closL env ns cs).lookup x = some c
  | [], _, _, h => h
  | (n, k) :: r, cs, x, ⟨c, h⟩ => by
    unfold closL
    refine closL_mono r _ x ?_
    by_cases hk : (k == NameKind.free) = true
    . rw [if_pos hk]
      cases e : env.cells.lookup n with
      | none => exact ⟨c, h⟩
      | some a =>
        simp only [List.lookup_cons]
        cases hx : x == n with
        | true => exact ⟨a, rfl⟩
        | false => exact ⟨c, h⟩
    . rw [if_neg hk]; exact ⟨c, h⟩
theorem closL_has {env : Env} : ∀ (ns : List (Str × NameKind)) (cs : List (Str × Addr)) (x : Str), (x, NameKind.free) ∈ ns -> (∃ c, env.cells.lookup x = some c) -> ∃ c, (closL env ns cs).lookup x = some c
  | [], _, _, h, _ => nomatch h
  | (n, k) :: r, cs, x, h, ⟨c, e⟩ => by
    unfold closL
    rcases List.mem_cons.mp h with z | z
    . have z1 : x = n := congrArg Prod.fst z
      have z2 : NameKind.free = k := congrArg Prod.snd z
      subst z1 z2
      refine closL_mono r _ x ?_
      simp only [beq_self_eq_true, if_true, e, List.lookup_cons]
      exact ⟨c, rfl⟩
    . exact closL_has r _ x z ⟨c, e⟩
theorem mem_of_lookup' {ns : List (Str × NameKind)} {x : Str} {k : NameKind} (h : ns.lookup x = some k) : (x, k) ∈ ns := PySem.mem_of_lookup h
theorem relabel_look {env : Env} : ∀ (names : List (Str × NameKind)) (x : Str),
    (names.map fun (n, k) => if (k == NameKind.free && env.scope.kind == .function && env.kindOf n == some .cell) then (n, NameKind.cell) else (n, k)).lookup x =
      (names.lookup x).map fun k => if (k == NameKind.free && env.scope.kind == .function && env.kindOf x == some .cell) then NameKind.cell else k
  | [], x => rfl
  | (n, k) :: r, x => by
    have ih := relabel_look (env := env) r x
    rw [List.map_cons]
    show List.lookup x ((if (k == NameKind.free && env.scope.kind == .function && env.kindOf n == some .cell) = true then (n, NameKind.cell) else (n, k)) :: _) = _
    cases hx : x == n with
    | true =>
      have ex : x = n := by simpa using hx
      subst ex
      by_cases hc : (k == NameKind.free && env.scope.kind == .function && env.kindOf x == some .cell) = true
      . rw [if_pos hc]; simp only [List.lookup_cons, beq_self_eq_true, Option.map_some]; rw [if_pos hc]
      . rw [if_neg hc]; simp only [List.lookup_cons, beq_self_eq_true, Option.map_some]; rw [if_neg hc]
    | false =>
      by_cases hc : (k == NameKind.free && env.scope.kind == .function && env.kindOf n == some .cell) = true
      . rw [if_pos hc]; simp only [List.lookup_cons, hx]; exact ih
      . rw [if_neg hc]; simp only [List.lookup_cons, hx]; exact ih
structure CompScope (own fr : List Str) (scope : Scope) (outer : Scope) : Prop where
  kind : scope.kind = .function
  nocell : ∀ y ∈ scope.names, y.2 ≠ .cell
  names : ∀ y ∈ scope.names, y.2 = .local -> scope.names.lookup y.1 = some .local
  nd : (own ++ fr).Nodup
  outs : ∀ y ∈ scope.names, y.2 = .free -> outer.names.lookup y.1 = some .cell \/ outer.names.lookup y.1 = some .free
  frs : ∀ x ∈ fr, scope.names.lookup x = some .free
  owns : ∀ x ∈ own, scope.names.lookup x = some .local
def compCx (X : Cx) (scope : Scope) (C : Addr) (N : List Str) (s : Shared) (H : Hp) (pins : List (Addr × Obj)) (fp : List Addr) : Cx :=
  { X with N := N, s₀ := s, H₀ := H, env := compEnvC scope (closL X.env scope.names []) C X.env, outer := X.stack, stack := X.stack, ex := fp, fn := fun _ => false, pn := X.pn ++ pins, xe := fun _ _ => False }
def compSt (n : Nat) (idx : List Nat) (σ : St) : St := List.replicate n none ++ idx.map fun j => (σ[j]?).join
def CompLoop (J : It) (D : Addr) (g : TG) (tc : TT) (te : TE) (Q : VK) (σ0 : St) (H1 : Hp) : Prop := ∃ W : Nat -> Nat -> List V -> St -> Hp -> Prop, (∃ m, W 0 m [] σ0 (upd H1 D (.lst []))) /\
  ∀ i m ys σ H, H D = some (.lst ys) -> W i m ys σ H -> (J.stop i H /\ Q (.ref D) H) \/ (J.go i H /\ ys.length < sizeLine /\ ∃ N : List V -> St -> Hp -> Prop, (∀ ys' σ' H', N ys' σ' H' -> ∃ m', m' < m /\ W (i + 1) m' ys' σ' H') /\
    ∀ x H', J.yld i H x H' -> g x σ H' fun σ2 H2 => tc σ2 H2 fun b H3 =>
      if b = true then te σ2 H3 fun v H4 => H4 D = some (.lst ys) /\ N (ys ++ [v]) σ2 (upd H4 D (.lst (ys ++ [v])))
      else H3 D = some (.lst ys) /\ N ys σ2 H3)
def tComp (wi : TI) (n : Nat) (idx : List Nat) (g : TG) (tc : TT) (te : TE) : TE := fun σ H Q => wi σ H fun J H1 => ∀ D, H1 D = none -> CompLoop J D g tc te Q (compSt n idx σ) H1
section
variable {X : Cx}
theorem compCx_ok {scope : Scope} {own fr : List Str} {C : Addr} {pins : List (Addr × Obj)} {σ : St} {H : Hp} {s : Shared} {fp : List Addr} (S : CompScope own fr scope X.env.scope) (I : Inv X pins σ H s) (hf : ∀ b ∈ fp, FpOk X pins H b)
    (hC : s.heap.objs.size <= C) (hfC : ∀ b ∈ fp, b ≠ C) : (compCx X scope C (own ++ fr) s H pins fp).Ok := by
  have sub : ∀ x c, (closL X.env scope.names []).lookup x = some c -> X.env.cells.lookup x = some c := fun x c e => (closL_sub _ _ x c e).elim id fun z => nomatch z
  have kindEq : ∀ x, (compEnvC scope (closL X.env scope.names []) C X.env).kindOf x = (scope.names.lookup x).map fun k => if (k == NameKind.free && X.env.scope.kind == .function && X.env.kindOf x == some .cell) then NameKind.cell else k := fun x => relabel_look _ x
  refine ⟨I.ok.mod, S.kind, I.ok.glob, I.ok.blt, hC, fun x y c e1 e2 => I.ok.inj x y c (sub x c e1) (sub y c e2), fun x hx => ?_, fun x c z => absurd z Bool.false_ne_true, I.ok.hd, I.ok.frames, .inl rfl, fun b hb => ⟨hfC b hb, fun x c e => (hf b hb).2.2.2.2.1 x c (sub x c e)⟩,
    I.bs, Nat.le_trans I.ok.bsz I.sz, fun b o e hb => ?_, fun b hb z => ?_, I.stack, I.stkFree⟩
  . have hx' : (compEnvC scope (closL X.env scope.names []) C X.env).kindOf x = some .cell \/ (compEnvC scope (closL X.env scope.names []) C X.env).kindOf x = some .free := hx
    rw [kindEq] at hx'
    cases e : scope.names.lookup x with
    | none => rw [e] at hx'; rcases hx' with z | z <;> cases z
    | some k =>
      have hk : k = .free := by
        rw [e] at hx'
        have nc := S.nocell (x, k) (mem_of_lookup' e)
        cases k with
        | free => rfl
        | cell => exact absurd rfl nc
        | «local» => rcases hx' with z | z <;> simp at z
        | globalImplicit => rcases hx' with z | z <;> simp at z
        | globalExplicit => rcases hx' with z | z <;> simp at z
      subst hk
      have m := mem_of_lookup' e
      refine closL_has _ _ x m ?_
      exact I.ok.has x (S.outs _ m rfl)
  . rcases (hf b hb).2.2.2.1 with z | z
    . exact I.ok.noex b o e z
    . exact absurd (Nat.lt_of_lt_of_le (Heap.lt_size e) (Nat.le_trans I.ok.bsz z)) (Nat.lt_irrefl _)
  . have z' : b ∈ frs X.stack := z
    rcases List.mem_cons.mp (I.stkSub b z') with q | q
    . exact (hf b hb).2.1 q
    . exact (hf b hb).2.2.1 q
theorem compSt_get {own fr : List Str} {idx : List Nat} {σ : St} (hix : idx.length = fr.length) {i : Nat} {x : Str} {v : V} (h1 : (own ++ fr)[i]? = some x) (h2 : (compSt own.length idx σ)[i]? = some (some v)) :
    ∃ (k j : Nat), fr[k]? = some x /\ idx[k]? = some j /\ σ[j]? = some (some v) := by
  unfold compSt at h2
  by_cases hi : i < own.length
  . rw [List.getElem?_append_left (by simpa using hi), List.getElem?_replicate] at h2
    split at h2 <;> cases h2
  . rw [List.getElem?_append_right (by simpa using hi)] at h2
    rw [List.getElem?_append_right (by omega)] at h1
    rw [List.length_replicate, List.getElem?_map] at h2
    cases e : idx[i - own.length]? with
    | none => rw [e] at h2; cases h2
    | some j =>
      rw [e] at h2
      have h3 : (σ[j]?).join = some v := Option.some.inj h2
      refine ⟨i - own.length, j, h1, e, ?_⟩
      cases q : σ[j]? with
      | none => rw [q] at h3; cases h3
      | some w => rw [q] at h3; have h4 : w = some v := h3; rw [h4]
theorem comp_start {scope : Scope} {own fr : List Str} {idx : List Nat} {pins : List (Addr × Obj)} {σ : St} {H : Hp} {s : Shared} {fp : List Addr} {h4 : Heap} {tk : Nat} {m : Str -> Option Value} (S : CompScope own fr scope X.env.scope)
    (hix : idx.length = fr.length) (hat : ∀ (k : Nat) (x : Str) (j : Nat), fr[k]? = some x -> idx[k]? = some j -> X.N[j]? = some x)
    (I : Inv X pins σ H s) (hf : ∀ b ∈ fp, FpOk X pins H b) (hfs : ∀ b ∈ fp, b < s.heap.objs.size) (hn : h4.Ns s.heap.objs.size m) (hk : ∀ b o, s.heap.get? b = some o -> h4.get? b = some o) :
    Inv (compCx X scope s.heap.objs.size (own ++ fr) s H pins fp) [] (compSt own.length idx σ) H { s with heap := h4, toks := tk } := by
  have sub : ∀ x c, (closL X.env scope.names []).lookup x = some c -> X.env.cells.lookup x = some c := fun x c e => (closL_sub _ _ x c e).elim id fun z => nomatch z
  have hfC : ∀ b ∈ fp, b ≠ s.heap.objs.size := fun b hb => Nat.ne_of_lt (hfs b hb)
  have ok := compCx_ok (fp := fp) S I hf (Nat.le_refl _) hfC
  refine ⟨ok, rfl, I.bare, Un.kept hk, ⟨m, hn, fun i x v e1 e2 e3 => ?_⟩, fun x c e => ?_, I.hok.fresh (Nat.le_refl _), fun x c e => I.freeC x c (sub x c e), fun p hp => ?_, I.hok.kept hk, ?_⟩
  . obtain ⟨k, j, q1, q2, q3⟩ := compSt_get hix e1 e2
    have hN := hat k x j q1 q2
    have hx := List.mem_of_getElem? q1
    have hfree := S.frs x hx
    have hout := S.outs _ (mem_of_lookup' hfree) rfl
    obtain ⟨m0, _, hl⟩ := I.loc
    obtain ⟨u, ru, lk⟩ := hl j x v hN q3 (hout.elim (fun z => .inr (.inl z)) fun z => .inr (.inr z))
    refine ⟨u, ru, ?_⟩
    have hkind : (compEnvC scope (closL X.env scope.names []) s.heap.objs.size X.env).kindOf x = some .cell \/ (compEnvC scope (closL X.env scope.names []) s.heap.objs.size X.env).kindOf x = some .free := by
      have q := relabel_look (env := X.env) scope.names x
      rw [hfree] at q
      by_cases hc : (NameKind.free == NameKind.free && X.env.scope.kind == .function && X.env.kindOf x == some .cell) = true
      . refine .inl (q.trans ?_); simp only [Option.map_some]; rw [if_pos hc]
      . refine .inr (q.trans ?_); simp only [Option.map_some]; rw [if_neg hc]
    rcases lk with ⟨kl, _⟩ | ⟨_, c, ec, cc⟩
    . have kl' : X.env.scope.names.lookup x = some .local := kl
      rcases hout with z | z <;> (rw [kl'] at z; cases z)
    . obtain ⟨c', ec'⟩ := closL_has scope.names [] x (mem_of_lookup' hfree) ⟨c, ec⟩
      have e' := sub x c' ec'
      rw [ec] at e'
      cases e'
      obtain ⟨o, ho, hd⟩ := cc
      exact .inr ⟨hkind, c, ec', o, hk c o ho, hd⟩
  . obtain ⟨v, o, ho, hd⟩ := I.cell x c (sub x c e)
    exact ⟨v, o, hk c o ho, hd⟩
  . have hp' : p ∈ X.pn ++ pins := by
      rcases List.mem_append.mp hp with z | z
      . exact z
      . exact nomatch z
    obtain ⟨a1, a2, a3, a4, a5⟩ := I.pin p hp'
    refine ⟨hk _ _ a1, a2, Nat.ne_of_lt (Heap.lt_size a1), fun z => ?_, a5⟩
    rcases List.mem_cons.mp (I.stkSub p.1 z) with q | q
    . exact a3 q
    . exact a4 q
  . show (compSt own.length idx σ).length = (own ++ fr).length
    unfold compSt
    rw [List.length_append, List.length_append, List.length_replicate, List.length_map, hix]
theorem comp_back {scope : Scope} {N : List Str} {pins : List (Addr × Obj)} {σ σ' : St} {H H' : Hp} {s s' : Shared} {fp : List Addr} {h' : Heap}
    (I : Inv X pins σ H s) (hf : ∀ b ∈ fp, FpOk X pins H b) (J : Inv (compCx X scope s.heap.objs.size N s H pins fp) [] σ' H' s') (hs : Heap.SameBut s.heap.objs.size s'.heap h') :
    Inv X pins σ H' { s' with heap := h' } := by
  have ne : ∀ b o, s.heap.get? b = some o -> b ≠ s.heap.objs.size := fun b o e => Nat.ne_of_lt (Heap.lt_size e)
  have hCn : H' s.heap.objs.size = none := J.free
  have u := J.base
  refine I.call' (s' := { s' with heap := h' }) (ch := fp) J.os ⟨fun b o e n hb hx => ?_, fun b o e n hb hx => ?_, u.free, fun b o e hx => ?_, u.tups, u.frzs, u.tbls⟩ (fun b ob e => ?_) J.bare fun b hb => ?_
  . exact (hs.2 b (ne b o e)).trans (u.keep b o e n hb hx)
  . obtain ⟨sl, q⟩ := u.slot b o e n hb hx
    exact ⟨sl, (hs.2 b (ne b o e)).trans q⟩
  . obtain ⟨o', q⟩ := u.there b o e hx
    exact ⟨o', (hs.2 b (ne b o e)).trans q⟩
  . refine (J.hok b ob e).stay (fun c v hc q => (hs.2 c ?_).trans q) (fun _ q => q) fun _ _ q => q
    rintro rfl
    rcases hc with z | z
    . rw [<- z, hCn] at e; cases e
    . rw [hCn] at z; cases z
  . obtain ⟨f0, f1, f2, f3, f4, f5⟩ := hf b hb
    exact ⟨f3, f1, f4, f5⟩
theorem comp_core {Y : Cx} {elt tg iter : Expr} {ifs : List Expr} {scope : Scope} {pos : Pos} {it D : Addr} {fp : List Addr} {tn : Nat -> Heap -> Prop} {J : It} {g : TG} {tc : TT} {te : TE} {Q : Hp -> Prop} {W : Nat -> Nat -> List V -> St -> Hp -> Prop} {R : Result -> Shared -> Prop} {s0 : Shared} {m0 : Nat}
    (hc : Y.calm = true) (hg : PG Y tg g) (ht : PTs Y ifs tc) (he : PE Y elt te) (hF : ∀ v s, Y.xe v s -> False) (T : Turn Y.prog Y.w Y.K tg J fp it tn) (fpC : ∀ {H' : Hp}, (∀ b ∈ fp, H' b = none) -> ∀ b ∈ fp, FpOk Y [] H' b)
    (turn : ∀ i m ys σ H, H D = some (.lst ys) -> W i m ys σ H -> (J.stop i H /\ Q H) \/ (J.go i H /\ ys.length < sizeLine /\ ∃ N : List V -> St -> Hp -> Prop, (∀ ys' σ' H', N ys' σ' H' -> ∃ m', m' < m /\ W (i + 1) m' ys' σ' H') /\
      ∀ x H', J.yld i H x H' -> g x σ H' fun σ2 H2 => tc σ2 H2 fun b H3 =>
        if b = true then te σ2 H3 fun v H4 => H4 D = some (.lst ys) /\ N (ys ++ [v]) σ2 (upd H4 D (.lst (ys ++ [v])))
        else H3 D = some (.lst ys) /\ N ys σ2 H3))
    (done : ∀ s6 σ H, Inv Y [] σ H s6 -> Q H -> R (.ok .next) s6)
    (h0 : ∃ i ys σ' H', Inv Y [] σ' H' s0 /\ tn i s0.heap /\ (∀ b ∈ fp, H' b = none) /\ H' D = some (.lst ys) /\ W i m0 ys σ' H') :
    codeAny (model Y.prog Y.w) Y.A (.compLoop (.ListComp elt [⟨tg, iter, ifs, 0⟩] scope pos) 0 (.ref it) (.ref D) Y.env) R s0 := by
  have thnF : ∀ {α : Type} {m : Sem α} {Q Q' : α -> Shared -> Prop} {s : Shared}, wpAny (model Y.prog Y.w) Y.A m Q Y.xe s -> (∀ v s', Q v s' -> Q' v s') -> wpAny (model Y.prog Y.w) Y.A m Q' (fun _ _ => False) s := fun h k => wpAny_mono h k hF
  refine codeAny_compLoop_own (fun n s' => ∃ i ys σ' H', Inv Y [] σ' H' s' /\ tn i s'.heap /\ (∀ b ∈ fp, H' b = none) /\ H' D = some (.lst ys) /\ W i n ys σ' H') ?_ m0 h0
  rintro n s5 ⟨i, ys, σ5, H5, I5, st5, fr5, hD5, w5⟩
  rcases turn i n ys σ5 H5 hD5 w5 with ⟨stop, q⟩ | ⟨go, hlen, N, hN, step⟩
  . refine thn (T.done Y rfl rfl rfl hc i [] s5 σ5 H5 _ I5 (fpC fr5) st5 stop) fun r s6 zz => ?_
    obtain ⟨hr, I6⟩ := zz
    subst hr
    exact done s6 σ5 H5 I6 q
  . refine thn (T.item Y rfl rfl rfl hc i [] s5 σ5 H5 _ I5 (fpC fr5) st5 go) fun r s6 zz => ?_
    obtain ⟨u, hr, h6⟩ := zz
    subst hr
    refine thn h6 fun _ s7 zz => ?_
    obtain ⟨x, H7, I7, r7, y7, st7, fr7⟩ := zz
    have I7' := I7.pinned (fpC fr7) (T.obj _ _ st7)
    refine thnF (hg _ s7 σ5 H7 x u _ I7' r7 (step x H7 y7)) fun _ s8 zz => ?_
    obtain ⟨σ8, H8, I8, q8⟩ := zz
    refine thnF (ht _ s8 σ8 H8 _ I8 q8) fun ok s9 zz => ?_
    obtain ⟨H9, I9, q9⟩ := zz
    have again : ∀ {σ' : St} {H' : Hp} {s' : Shared} {ys' : List V}, Inv Y ([] ++ pinsAt fp s7.heap) σ' H' s' -> H' D = some (.lst ys') -> N ys' σ' H' ->
        ∃ m, m < n /\ ∃ i ys σ' H', Inv Y [] σ' H' s' /\ tn i s'.heap /\ (∀ b ∈ fp, H' b = none) /\ H' D = some (.lst ys) /\ W i m ys σ' H' := fun {σ' H' s' ys'} I' hD' n' => by
      obtain ⟨m', hm, w'⟩ := hN ys' σ' H' n'
      have pin : ∀ b ∈ fp, ∀ o, s7.heap.get? b = some o -> s'.heap.get? b = some o /\ H' b = none := fun b hb o e => by
        have q := I'.pin (b, o) (List.mem_append_right _ (List.mem_append_right _ (mem_pinsAt hb e)))
        exact ⟨q.1, q.2.1⟩
      refine ⟨m', hm, i + 1, ys', σ', H', I'.unpinned, T.keep _ _ _ st7 fun b hb o e => (pin b hb o e).1, fun b hb => ?_, hD', w'⟩
      obtain ⟨o, e, _⟩ := T.obj _ _ st7 b hb
      exact (pin b hb o e).2
    cases ok with
    | false =>
      have q9' : H9 D = some (.lst ys) /\ N ys σ8 H9 := by simpa using q9
      simp only [Bool.false_eq_true, if_false]
      exact again I9 q9'.1 q9'.2
    | true =>
      simp only [if_true] at q9 ⊢
      refine thnF (he _ s9 σ8 H9 _ I9 q9) fun xv s10 zz => ?_
      obtain ⟨v, H10, I10, r10, hD10, w10⟩ := zz
      refine thnF (mt_append _ s10 σ8 H10 (.ref D) [v] _ [xv] (fun _ H' => H' = upd H10 D (.lst (ys ++ [v]))) I10 rfl (.cons r10 .nil) ⟨_, ys, v, rfl, rfl, hD10, hlen, rfl⟩) fun _ s11 zz => ?_
      obtain ⟨_, H11, I11, _, e11⟩ := zz
      subst e11
      exact again I11 upd_same w10
theorem pe_comp {elt tg iter : Expr} {ifs : List Expr} {scope : Scope} {own fr : List Str} {idx : List Nat} {wi : TI} {g : TG} {tc : TT} {te : TE} {pos : Pos} (hc : X.calm = true) (S : CompScope own fr scope X.env.scope)
    (hi : PI X tg iter wi) (hg : ∀ C s H pins fp, PG (compCx X scope C (own ++ fr) s H pins fp) tg g) (ht : ∀ C s H pins fp, PTs (compCx X scope C (own ++ fr) s H pins fp) ifs tc) (he : ∀ C s H pins fp, PE (compCx X scope C (own ++ fr) s H pins fp) elt te)
    (hix : idx.length = fr.length := by rfl) (hat : ∀ (k : Nat) (x : Str) (j : Nat), fr[k]? = some x -> idx[k]? = some j -> X.N[j]? = some x)
    (hs : ∀ x, foldedSetIterable iter X.env x = pure x := by intro _; rfl) : PE X (.ListComp elt [⟨tg, iter, ifs, 0⟩] scope pos) (tComp wi own.length idx g tc te) := by
  intro pins s σ H Q I h
  rw [eval_ListComp]
  have hclos : closureFor scope X.env = pure (closL X.env scope.names []) := clos_eq fun x hx hfree => I.ok.has x.1 (S.outs x hx hfree)
  refine wpAny_comprehension_free (use := none) rfl hs hclos S.kind S.names (thn (hi pins s σ H _ I h) fun v s1 h1 => thn h1 fun itv s2 h2 => ?_)
  obtain ⟨it, fp, tn, J, H2, e, I2, T, st2, f2, h2⟩ := h2
  subst e
  refine wpAny_newObj_type ?_
  obtain ⟨W, ⟨m0, w0⟩, turn⟩ := h2 s2.heap.objs.size I2.fresh
  have I3 : Inv X pins σ (upd H2 s2.heap.objs.size (.lst [])) { s2 with heap := s2.heap.push { cls := .type "list", data := .seq ([] : List Value).toArray }, toks := s2.toks } := I2.lnew .nil (Nat.zero_le _)
  have fpl : ∀ b ∈ fp, b < s2.heap.objs.size := fun b hb => by
    obtain ⟨o, e, _⟩ := T.obj _ _ st2 b hb
    exact Heap.lt_size e
  have f3 : ∀ b ∈ fp, FpOk X pins (upd H2 s2.heap.objs.size (.lst [])) b := fun b hb => ⟨by rw [upd_ne (Nat.ne_of_lt (fpl b hb))]; exact (f2 b hb).1, (f2 b hb).2⟩
  generalize hs3 : ({ s2 with heap := s2.heap.push { cls := .type "list", data := .seq ([] : List Value).toArray }, toks := s2.toks } : Shared) = s3 at I3
  have hsz : s3.heap.objs.size = s2.heap.objs.size + 1 := by rw [<- hs3]; exact Heap.size_push _ _
  have st3 : tn 0 s3.heap := T.keep _ _ _ st2 fun b hb o e => by rw [<- hs3]; exact Heap.get?_push_of_some _ e
  refine wpAny_newFunctionEnv S.nocell (by intro y hy; simp at hy) (fun h4 hn4 hsb4 => ?_) S.kind
  have hk4 : ∀ b o, s3.heap.get? b = some o -> h4.get? b = some o := fun b o e => hsb4.extBut b o (Nat.ne_of_lt (Heap.lt_size e)) (Heap.get?_push_of_some _ e)
  have I4 := comp_start (idx := idx) (tk := s3.toks + ([] : List (Str × Value)).length) S hix hat I3 f3 (fun b hb => by rw [hsz]; exact Nat.lt_succ_of_lt (fpl b hb)) hn4 hk4
  have fpC : ∀ {H' : Hp} (pl : List (Addr × Obj)), (∀ p ∈ pl, ∀ b ∈ fp, p.1 ≠ b) -> (∀ b ∈ fp, H' b = none) -> ∀ b ∈ fp, FpOk (compCx X scope s3.heap.objs.size (own ++ fr) s3 (upd H2 s2.heap.objs.size (.lst [])) pins fp) pl H' b := fun {H'} pl hpl hn b hb => by
    obtain ⟨g0, g1, g2, g3, g4, g5⟩ := f3 b hb
    refine ⟨hn b hb, ?_, fun z => ?_, .inl hb, fun x c e => g4 x c ((closL_sub _ _ x c e).elim id fun z => nomatch z), fun p hp => ?_⟩
    . show b ≠ s3.heap.objs.size
      exact Nat.ne_of_lt (by rw [hsz]; exact Nat.lt_succ_of_lt (fpl b hb))
    . rcases List.mem_cons.mp (I3.stkSub b z) with q | q
      . exact g1 q
      . exact g2 q
    . rcases List.mem_append.mp hp with q | q
      . exact g5 p q
      . exact hpl p q b hb
  have loop : codeAny (model X.prog X.w) X.A (.compLoop (.ListComp elt [⟨tg, iter, ifs, 0⟩] scope pos) 0 (.ref it) (.ref s2.heap.objs.size) (compEnvC scope (closL X.env scope.names []) s3.heap.objs.size X.env))
      (compPost (model X.prog X.w) X.A X.xe none (EP X pins σ Q) (.ref s2.heap.objs.size) s3.heap.objs.size) { s3 with heap := h4, toks := s3.toks + ([] : List (Str × Value)).length } := by
    refine comp_core (Y := compCx X scope s3.heap.objs.size (own ++ fr) s3 (upd H2 s2.heap.objs.size (.lst [])) pins fp) (W := W) (m0 := m0) hc (hg _ _ _ _ _) (ht _ _ _ _ _) (he _ _ _ _ _) (fun _ _ z => z) T (fun hn => fpC [] (fun _ z => nomatch z) hn) turn (fun s6 σ5 H5 I6 q => ?_) ⟨0, [], _, _, I4, T.keep _ _ _ st3 fun b _ o e => hk4 b o e, fun b hb => (f3 b hb).1, upd_same, w0⟩
    obtain ⟨m6, hn6, _⟩ := id I6.loc
    refine ⟨m6, hn6, fun h' hsb => ?_⟩
    exact ⟨.ref s2.heap.objs.size, H5, comp_back I3 f3 I6 hsb, rfl, q⟩
  exact codeAny_compStart_list loop (T.self _ 0 _ _ _ (T.keep _ _ _ st3 fun b _ o e => hk4 b o e) loop)
end
theorem comp_gen {J : It} {n : Nat} {item : Nat -> V} {g : TG} {tc : TT} {te : TE} {σ0 : St} {H1 : Hp} {D : Addr} {Q : VK} (Pv : Nat -> List V -> St -> Hp -> Prop) (h0 : Pv 0 [] σ0 (upd H1 D (.lst []))) (hn : n <= 100000)
    (hgo : ∀ i ys σ H, i < n -> Pv i ys σ H -> J.go i H /\ ∀ x H', J.yld i H x H' -> H' = H /\ x = item i) (hst : ∀ ys σ H, Pv n ys σ H -> J.stop n H) (hl : ∀ i ys σ H, Pv i ys σ H -> ys.length <= i)
    (hs : ∀ i ys σ H, i < n -> H D = some (.lst ys) -> Pv i ys σ H -> g (item i) σ H fun σ2 H2 => tc σ2 H2 fun b H3 =>
      if b = true then te σ2 H3 fun v H4 => H4 D = some (.lst ys) /\ Pv (i + 1) (ys ++ [v]) σ2 (upd H4 D (.lst (ys ++ [v]))) else H3 D = some (.lst ys) /\ Pv (i + 1) ys σ2 H3)
    (hd : ∀ ys σ H, H D = some (.lst ys) -> Pv n ys σ H -> Q (.ref D) H) : CompLoop J D g tc te Q σ0 H1 := by
  refine ⟨fun i m ys σ H => m = n - i /\ i <= n /\ Pv i ys σ H, ⟨n, by simp, Nat.zero_le _, h0⟩, ?_⟩
  rintro i m ys σ H hD ⟨rfl, hi, p⟩
  by_cases hlt : i < n
  . have hz : ys.length < sizeLine := by
      have h1 := hl i ys σ H p
      have h2 : (100000 : Nat) < sizeLine := by rw [sizeLine_eq]; decide
      omega
    obtain ⟨go, yl⟩ := hgo i ys σ H hlt p
    refine .inr ⟨go, hz, Pv (i + 1), fun ys' σ' H' p' => ⟨n - (i + 1), by omega, rfl, hlt, p'⟩, fun x H' y => ?_⟩
    obtain ⟨e1, e2⟩ := yl x H' y
    subst e1 e2
    exact hs i ys σ _ hlt hD p
  . have e : i = n := by omega
    subst e
    exact .inl ⟨hst ys σ H p, hd ys σ H hD p⟩
theorem comp_range {lo : Int} {n : Nat} {g : TG} {tc : TT} {te : TE} {σ0 : St} {H1 : Hp} {D : Addr} {Q : VK} (Pv : Nat -> List V -> St -> Hp -> Prop) (h0 : Pv 0 [] σ0 (upd H1 D (.lst []))) (hn : n <= 100000) (hl : ∀ i ys σ H, Pv i ys σ H -> ys.length <= i)
    (hs : ∀ i ys σ H, i < n -> H D = some (.lst ys) -> Pv i ys σ H -> g (.int (lo + i)) σ H fun σ2 H2 => tc σ2 H2 fun b H3 =>
      if b = true then te σ2 H3 fun v H4 => H4 D = some (.lst ys) /\ Pv (i + 1) (ys ++ [v]) σ2 (upd H4 D (.lst (ys ++ [v]))) else H3 D = some (.lst ys) /\ Pv (i + 1) ys σ2 H3)
    (hd : ∀ ys σ H, H D = some (.lst ys) -> Pv n ys σ H -> Q (.ref D) H) : CompLoop (Itr lo n) D g tc te Q σ0 H1 :=
  comp_gen (item := fun i => .int (lo + i)) Pv h0 hn (fun i ys σ H hi _ => ⟨hi, fun x H' y => y⟩) (fun _ _ _ _ => Nat.le_refl _) hl hs hd
theorem comp_list {K : W.Frag} {a : Addr} {xs : List V} {g : TG} {tc : TT} {te : TE} {σ0 : St} {H1 : Hp} {D : Addr} {Q : VK} (Pv : Nat -> List V -> St -> Hp -> Prop) (h0 : Pv 0 [] σ0 (upd H1 D (.lst []))) (hn : xs.length <= 100000) (hl : ∀ i ys σ H, Pv i ys σ H -> ys.length <= i)
    (ha : ∀ i ys σ H, Pv i ys σ H -> SqL K H a xs)
    (hs : ∀ i x ys σ H, xs[i]? = some x -> H D = some (.lst ys) -> Pv i ys σ H -> g x σ H fun σ2 H2 => tc σ2 H2 fun b H3 =>
      if b = true then te σ2 H3 fun v H4 => H4 D = some (.lst ys) /\ Pv (i + 1) (ys ++ [v]) σ2 (upd H4 D (.lst (ys ++ [v]))) else H3 D = some (.lst ys) /\ Pv (i + 1) ys σ2 H3)
    (hd : ∀ ys σ H, H D = some (.lst ys) -> Pv xs.length ys σ H -> Q (.ref D) H) : CompLoop (Itl K a) D g tc te Q σ0 H1 := by
  refine comp_gen (n := xs.length) (item := fun i => xs.getD i .non) Pv h0 hn (fun i ys σ H hi p => ?_) (fun ys σ H p => ⟨xs, ha _ _ _ _ p, Nat.le_refl _⟩) hl (fun i ys σ H hi hD p => ?_) hd
  . have e : xs[i]? = some xs[i] := List.getElem?_eq_getElem hi
    refine ⟨⟨xs, xs[i], ha _ _ _ _ p, e⟩, fun x H' y => ⟨y.1, ?_⟩⟩
    have q := y.2 xs (ha _ _ _ _ p)
    rw [List.getD_eq_getElem?_getD, q]; rfl
  . have e : xs[i]? = some (xs.getD i .non) := by rw [List.getD_eq_getElem?_getD, List.getElem?_eq_getElem hi]; rfl
    exact hs i _ ys σ H e hD p
theorem comp_tup {K : W.Frag} {a : Addr} {xs : List V} {g : TG} {tc : TT} {te : TE} {σ0 : St} {H1 : Hp} {D : Addr} {Q : VK} (Pv : Nat -> List V -> St -> Hp -> Prop) (h0 : Pv 0 [] σ0 (upd H1 D (.lst []))) (hn : xs.length <= 100000) (hl : ∀ i ys σ H, Pv i ys σ H -> ys.length <= i)
    (ha : ∀ i ys σ H, Pv i ys σ H -> SqT K H a xs)
    (hs : ∀ i x ys σ H, xs[i]? = some x -> H D = some (.lst ys) -> Pv i ys σ H -> g x σ H fun σ2 H2 => tc σ2 H2 fun b H3 =>
      if b = true then te σ2 H3 fun v H4 => H4 D = some (.lst ys) /\ Pv (i + 1) (ys ++ [v]) σ2 (upd H4 D (.lst (ys ++ [v]))) else H3 D = some (.lst ys) /\ Pv (i + 1) ys σ2 H3)
    (hd : ∀ ys σ H, H D = some (.lst ys) -> Pv xs.length ys σ H -> Q (.ref D) H) : CompLoop (Itt K a) D g tc te Q σ0 H1 := by
  refine comp_gen (n := xs.length) (item := fun i => xs.getD i .non) Pv h0 hn (fun i ys σ H hi p => ?_) (fun ys σ H p => ⟨xs, ha _ _ _ _ p, Nat.le_refl _⟩) hl (fun i ys σ H hi hD p => ?_) hd
  . have e : xs[i]? = some xs[i] := List.getElem?_eq_getElem hi
    refine ⟨⟨xs, xs[i], ha _ _ _ _ p, e⟩, fun x H' y => ⟨y.1, ?_⟩⟩
    have q := y.2 xs (ha _ _ _ _ p)
    rw [List.getD_eq_getElem?_getD, q]; rfl
  . have e : xs[i]? = some (xs.getD i .non) := by rw [List.getD_eq_getElem?_getD, List.getElem?_eq_getElem hi]; rfl
    exact hs i _ ys σ H e hD p
section
variable {X : Cx}
def CDivB (_i j : Int) : Prop := 0 < j /\ j <= 2 ^ 100
theorem log2_small {n : Nat} (h : n <= 2 ^ 100) : n.log2 < 9000 := by
  by_cases h0 : n = 0
  . subst h0; decide
  . exact (Nat.log2_lt h0).mpr (Nat.lt_of_le_of_lt h (Nat.pow_lt_pow_right (by decide) (by decide)))
theorem op_fdivB : OpR X (binaryOp .FloorDiv) (rI CDivB fun i j => .int (i / j)) := opI fun i j _ _ _ _ _ hc q => by
  have h1 : (0 : Int) < j := hc.1
  have h2 : j <= 2 ^ 100 := hc.2
  have e : j.natAbs <= 2 ^ 100 := by
    have : ((j.natAbs : Nat) : Int) <= ((2 ^ 100 : Nat) : Int) := by rw [Int.natAbs_of_nonneg (by omega)]; exact h2
    exact Int.ofNat_le.mp this
  exact floordiv_int (by omega) (by rw [Int.fdiv_eq_ediv_of_nonneg i (by omega)]; exact q) (.inl (PyProof.noPylong_of_log2 (log2_small e)))
theorem strsAre_of {ys : List Str} : ∀ {us : List Value}, Vals (ys.map V.str) us -> StrsAre us ys := by
  induction ys with
  | nil => intro us h; cases h; exact .nil
  | cons y r ih =>
    intro us h
    cases h with
    | cons a b =>
      obtain ⟨t, rfl⟩ := a
      exact .cons _ _ (ih b)
def rJoin (K : W.Frag) : V -> List V -> Hp -> VK -> Prop := fun x xs H Q => ∃ sep p ys, x = .str sep /\ xs = [.ref p] /\ SqL K H p (ys.map V.str) /\ (ys.map (·.length)).sum + ys.length * sep.length <= 16777216 /\ Q (.str (Txt.join sep ys)) H
theorem mt_join : MtR X "str.join" (rJoin X.K) := by
  intro pins s σ H x xs v us Q I rx rs h
  obtain ⟨sep, p, ys, rfl, rfl, hq, hz, q⟩ := h
  obtain ⟨t, rfl⟩ := rx
  obtain ⟨u, rfl, ru⟩ := rs.one
  cases ru
  obtain ⟨its, r, pl, _⟩ := I.list hq
  exact join_list pl.isList (strsAre_of r) hz fun t' k => ⟨.str (Txt.join sep ys), H, I.tok k, ⟨_, rfl⟩, q⟩
def rSlS : V -> Option Int -> Option Int -> Hp -> VK -> Prop := fun x lo hi H Q => ∃ z, x = .str z /\ z.length <= sizeLine /\ Q (.str (Txt.slice z lo hi)) H
theorem sl_str : SlR X rSlS := by
  intro pins s σ H x v vl vu lo hi sl Q I rx hs pl pu h
  obtain ⟨z, rfl, hz, q⟩ := h
  obtain ⟨t, rfl⟩ := rx
  refine ⟨"str", _, F.slot_str_getitem.lookup, typeIs_str _ _ _, ?_⟩
  have fin : ∀ t' k, EP X pins σ Q (.str (Txt.slice z lo hi) t') { s with toks := k } := fun t' k => ⟨.str (Txt.slice z lo hi), H, I.tok k, ⟨_, rfl⟩, q⟩
  cases pl with
  | none =>
    cases pu with
    | none => exact wpAny_getItem_str_slice (l := none) (u := none) (st := none) hs rfl (post_val_or_str ⟨Nat.le_trans (Txt.slice_le z _ _) hz, fun t' k => fin t' k⟩)
    | int j uj => exact wpAny_getItem_str_slice (l := none) (u := some (j, uj)) (st := none) hs rfl (post_val_or_str ⟨Nat.le_trans (Txt.slice_le z _ _) hz, fun t' k => fin t' k⟩)
  | int i ui =>
    cases pu with
    | none => exact wpAny_getItem_str_slice (l := some (i, ui)) (u := none) (st := none) hs rfl (post_val_or_str ⟨Nat.le_trans (Txt.slice_le z _ _) hz, fun t' k => fin t' k⟩)
    | int j uj => exact wpAny_getItem_str_slice (l := some (i, ui)) (u := some (j, uj)) (st := none) hs rfl (post_val_or_str ⟨Nat.le_trans (Txt.slice_le z _ _) hz, fun t' k => fin t' k⟩)
theorem Inv.turnLaid {pins : List (Addr × Obj)} {σ : St} {H : Hp} {s : Shared} {h' : Heap} {ch : List Addr} {T : Addr} {o : HO} {t' : Nat} (I : Inv X pins σ H s) (hch : ∀ b ∈ ch, FpOk X pins H b) (keep : ∀ b ob, b ∉ ch -> s.heap.get? b = some ob -> h'.get? b = some ob)
    (hT : s.heap.objs.size <= T) (new : ObjOk X.prog X.w (upd H T o) h' T o) : Inv X pins σ (upd H T o) { s with heap := h', toks := t' } := by
  have nT : ∀ b ob, s.heap.get? b = some ob -> b ≠ T := fun b ob e => Nat.ne_of_lt (Nat.lt_of_lt_of_le (Heap.lt_size e) hT)
  have fT : H T = none := I.hok.fresh hT
  have nch : ∀ b u, H b = some u -> b ∉ ch := fun b u e z => by rw [(hch b z).1] at e; cases e
  refine I.step (g' := s.gens) (d' := s.drawn) (ch := ch) (fun b hb => ?_) (fun b ob _ _ hc e _ => keep b ob hc e) (fun b ob _ _ hc e _ => ⟨ob.slots, keep b ob hc e⟩) (fun b ob _ e n => by rw [upd_ne (nT b ob e)]; exact n)
    (fun b ob hc e => ⟨ob, keep b ob hc e⟩) (fun b xs e => by rw [upd_ne (ne_of_none e fT)]; exact e) (fun b ob u e => by rw [upd_ne (ne_of_none e fT)]; exact e) (fun b ps e => ⟨#[], by rw [upd_ne (ne_of_none e fT), e]; simp⟩) (fun m hm => ?_) (fun b u e => ?_) I.bare
  . obtain ⟨_, f1, _, f3, f4, f5⟩ := hch b hb
    exact ⟨f3, f1, f4, f5⟩
  . obtain ⟨ob, es, ep, ho, r⟩ := hm
    exact ⟨ob, es, ep, keep _ ob (fun z => (hch _ z).2.1 rfl) ho, r⟩
  . by_cases hb : b = T
    . subst hb; rw [upd_same] at e; cases e; exact new
    . rw [upd_ne hb] at e
      refine (I.hok b u e).stay (fun c v hc q => keep c v ?_ q) (fun c q => by rw [upd_ne (ne_of_none q fT)]; exact q) fun c xs q => by rw [upd_ne (ne_of_none q fT)]; exact q
      rcases hc with z | z
      . rw [z]; exact nch b u e
      . exact nch c _ z
theorem Inv.turnedL {pins : List (Addr × Obj)} {σ : St} {H : Hp} {s : Shared} {h' : Heap} {ch : List Addr} {t' : Nat} (I : Inv X pins σ H s) (hch : ∀ b ∈ ch, FpOk X pins H b) (keep : ∀ b ob, b ∉ ch -> s.heap.get? b = some ob -> h'.get? b = some ob) :
    Inv X pins σ H { s with heap := h', toks := t' } := by
  have nch : ∀ b u, H b = some u -> b ∉ ch := fun b u e z => by rw [(hch b z).1] at e; cases e
  refine I.step (g' := s.gens) (d' := s.drawn) (ch := ch) (fun b hb => ?_) (fun b ob _ _ hc e _ => keep b ob hc e) (fun b ob _ _ hc e _ => ⟨ob.slots, keep b ob hc e⟩) (fun b ob _ e n => n)
    (fun b ob hc e => ⟨ob, keep b ob hc e⟩) (fun b xs e => e) (fun b ob u e => e) (fun b ps e => ⟨#[], by rw [e]; simp⟩) (fun m hm => ?_) (fun b u e => ?_) I.bare
  . obtain ⟨_, f1, _, f3, f4, f5⟩ := hch b hb
    exact ⟨f3, f1, f4, f5⟩
  . obtain ⟨ob, es, ep, ho, r⟩ := hm
    exact ⟨ob, es, ep, keep _ ob (fun z => (hch _ z).2.1 rfl) ho, r⟩
  . refine (I.hok b u e).stay (fun c v hc q => keep c v ?_ q) (fun c q => q) fun c xs q => q
    rcases hc with z | z
    . rw [z]; exact nch b u e
    . exact nch c _ z
end
def Its (x : Str) : It := ⟨fun i _ => i < x.cps.size, fun i H v H' => H' = H /\ ∃ c, x.cps[i]? = some c /\ v = .str ⟨#[c]⟩, fun i _ => x.cps.size <= i⟩
theorem strIter_ok {ty : String} {x : Str} {t : Tok} {i : Nat} {h : Heap} {it : Addr} (st : h.IsStrIter it ty x t i) : ∀ b ∈ [it], ∃ o, h.get? b = some o /\ ∀ v, o.data ≠ .cell v := fun b hb => by
  have e : b = it := by simpa using hb
  subst e
  obtain ⟨o, e, c, d⟩ := st
  exact ⟨o, e, fun v z => by rw [d] at z; cases z⟩
theorem turn_str {P : Program} {w : World} {K : W.Frag} {y : Str} {p : Pos} (it : Addr) (x : Str) (t : Tok) : Turn P w K (.Name y p) (Its x) [it] it (fun i h => h.IsStrIter it (strIterType x) x t i) where
  mem := by simp
  obj := fun i h st => strIter_ok st
  keep := fun i h h' st k => by
    obtain ⟨o, e, r⟩ := st
    exact ⟨o, k it (by simp) o e, r⟩
  item := by
    intro X hP hw hK hc i pins s σ H E I hf st hg
    subst hP hw hK
    obtain ⟨f0, f1, f2, f3, f4, f5⟩ := hf it (by simp)
    have hlt : i < x.cps.size := hg
    have hi : x.cps[i]? = some x.cps[i] := Array.getElem?_eq_getElem hlt
    have fin : ∀ h', h'.IsStrIter it (strIterType x) x t (i + 1) -> Heap.SameBut it s.heap h' -> ∃ u, some (Value.str ⟨#[x.cps[i]]⟩ s.toks) = some u /\
        wpAny (model X.prog X.w) X.A (letOwnedTupleGo (.Name y p) (.ref it) u) (fun _ s2 => ∃ v H', Inv X pins σ H' s2 /\ RelV v u /\ (Its x).yld i H v H' /\ s2.heap.IsStrIter it (strIterType x) x t (i + 1) /\ ∀ b ∈ [it], H' b = none) E { s with heap := h', toks := s.toks + 1 } := fun h' st' sb => by
      have I1 : Inv X pins σ H { s with heap := h', toks := s.toks + 1 } := I.turned (fun b o hb e => (sb.2 b hb).trans e) f0 f1 f3 f4 f5
      exact ⟨_, rfl, wpAny_pure ⟨.str ⟨#[x.cps[i]]⟩, H, I1, ⟨_, rfl⟩, ⟨rfl, _, hi, rfl⟩, st', fun b hb => (hf b hb).1⟩⟩
    unfold strIterType at st fin ⊢
    cases ha : x.cps.all (· < 128)
    . rw [ha] at st fin
      exact wpAny_pyNext_wide_item st hi fun h' st' sb => fin h' st' sb
    . rw [ha] at st fin
      exact wpAny_pyNext_ascii_item st hi fun h' st' sb => fin h' st' sb
  done := by
    intro X hP hw hK hc i pins s σ H E I hf st hg
    subst hP hw hK
    obtain ⟨f0, f1, f2, f3, f4, f5⟩ := hf it (by simp)
    have hi : x.cps[i]? = none := Array.getElem?_eq_none hg
    have fin : ∀ h', Heap.ExtBut it s.heap h' -> (none : Option Value) = none /\ Inv X pins σ H { s with heap := h' } := fun h' eb => ⟨rfl, I.turned (t' := s.toks) (fun b o hb e => eb b o hb e) f0 f1 f3 f4 f5⟩
    unfold strIterType at st
    cases ha : x.cps.all (· < 128)
    . rw [ha] at st
      exact wpAny_pyNext_wide_end (I.ok.hd hc) st hi fun h' eb => fin h' eb
    . rw [ha] at st
      exact wpAny_pyNext_ascii_end (I.ok.hd hc) st hi fun h' eb => fin h' eb
  self := fun A i s Q E st h => by
    unfold strIterType at st
    cases ha : x.cps.all (· < 128)
    . rw [ha] at st
      exact wpAny_pyIter_striter_wide st h
    . rw [ha] at st
      exact wpAny_pyIter_striter_ascii st h
def iStr (tl : TE) : TI := fun σ H R => tl σ H fun x H1 => ∃ z, x = .str z /\ R (Its z) H1
theorem pi_str {X : Cx} {y : Str} {p : Pos} {l : Expr} {tl : TE} (hl : PE X l tl) : PI X (.Name y p) l (iStr tl) := by
  intro pins s σ H R I h
  refine thn (hl pins s σ H _ I h) fun v s1 ⟨x, H1, I1, r1, q1⟩ => ?_
  obtain ⟨z, e, q⟩ := q1
  subst e
  obtain ⟨t, rfl⟩ := r1
  refine wpAny_pyIter_strU ?_
  refine ⟨s1.heap.objs.size, [s1.heap.objs.size], _, _, H1, rfl, I1.kept (t' := s1.toks) fun b o e => Heap.get?_push_of_some _ e, turn_str _ z t, ⟨_, Heap.get?_push_size _ rfl, rfl, rfl⟩, fun b hb => ?_, q⟩
  have e : b = s1.heap.objs.size := by simpa using hb
  subst e
  exact I1.fpOk (Nat.le_refl _) (I1.hok.fresh (Nat.le_refl _))
theorem comp_str {z : Str} {g : TG} {tc : TT} {te : TE} {σ0 : St} {H1 : Hp} {D : Addr} {Q : VK} (Pv : Nat -> List V -> St -> Hp -> Prop) (h0 : Pv 0 [] σ0 (upd H1 D (.lst []))) (hn : z.cps.size <= 100000) (hl : ∀ i ys σ H, Pv i ys σ H -> ys.length <= i)
    (hs : ∀ i c ys σ H, z.cps[i]? = some c -> H D = some (.lst ys) -> Pv i ys σ H -> g (.str ⟨#[c]⟩) σ H fun σ2 H2 => tc σ2 H2 fun b H3 =>
      if b = true then te σ2 H3 fun v H4 => H4 D = some (.lst ys) /\ Pv (i + 1) (ys ++ [v]) σ2 (upd H4 D (.lst (ys ++ [v]))) else H3 D = some (.lst ys) /\ Pv (i + 1) ys σ2 H3)
    (hd : ∀ ys σ H, H D = some (.lst ys) -> Pv z.cps.size ys σ H -> Q (.ref D) H) : CompLoop (Its z) D g tc te Q σ0 H1 := by
  refine comp_gen (n := z.cps.size) (item := fun i => .str ⟨#[z.cps.getD i 0]⟩) Pv h0 hn (fun i ys σ H hi p => ⟨hi, fun x H' y => ?_⟩) (fun ys σ H p => Nat.le_refl _) hl (fun i ys σ H hi hD p => ?_) hd
  . obtain ⟨e, c, e1, e2⟩ := y
    refine ⟨e, ?_⟩
    rw [e2, Array.getD_eq_getD_getElem?, e1]; rfl
  . have e : z.cps[i]? = some (z.cps.getD i 0) := by rw [Array.getD_eq_getD_getElem?]; simp [hi]
    exact hs i _ ys σ H e hD p
def Ite (K : W.Frag) (a : Addr) : It :=
  ⟨fun i H => ∃ xs x, SqL K H a xs /\ xs[i]? = some x, fun i H v H' => ∃ T, H T = none /\ v = .ref T /\ ∀ xs, SqL K H a xs -> ∃ x, xs[i]? = some x /\ H' = upd H T (.tup [.int i, x]), fun i H => ∃ xs, SqL K H a xs /\ xs.length <= i⟩
theorem turn_enum {P : Program} {w : World} {K : W.Frag} {elts : List Expr} {k : Nat} {pos : Pos} (a e it : Addr) (hne : e ≠ it) : Turn P w K (.Tuple elts k pos) (Ite K a) [e, it] e (fun i h => (∃ old, IsEnum h e it i old) /\ h.IsListIter it a i) where
  mem := by simp
  obj := fun i h st b hb => by
    obtain ⟨⟨old, he⟩, o, ho, c, d⟩ := st
    rcases List.mem_cons.mp hb with z | z
    . subst z
      exact ⟨_, he, fun v q => by
        have q' : Data.fields _ = Data.cell v := q
        cases q'⟩
    . have z' : b = it := by simpa using z
      subst z'
      exact ⟨o, ho, fun v q => by rw [d] at q; cases q⟩
  keep := fun i h h' st kk => by
    obtain ⟨⟨old, he⟩, hl⟩ := st
    exact ⟨⟨old, kk e (by simp) _ he⟩, hl.at fun o q => kk it (by simp) o q⟩
  item := by
    intro X hP hw hK hc i pins s σ H E I hf st hg
    subst hP hw hK
    obtain ⟨xs, x, hq, hx⟩ := hg
    obtain ⟨⟨old, he⟩, hl⟩ := st
    obtain ⟨its, rv, pl, hz⟩ := I.list hq
    obtain ⟨u, hu, ru⟩ := rv.get hx
    refine wpAny_pyNext_enum_item he hl pl.isList (x := u) (by simpa using hu) hne fun h' eo li tp hsz kk => ?_
    refine ⟨_, rfl, wpAny_letOwnedTupleGo_enum (s := { s with heap := h', toks := s.toks + 1 }) eo fun h2 en sb => ?_⟩
    have hTe : s.heap.objs.size ≠ e := Nat.ne_of_gt (Heap.lt_size he)
    have hs' : h2.get? s.heap.objs.size = some { cls := .type "tuple", data := .seq #[.int i s.toks, u] } := (sb.2 _ hTe).trans tp
    have kp : ∀ b ob, b ∉ [e, it] -> s.heap.get? b = some ob -> h2.get? b = some ob := fun b ob hb q => by
      have h1 : b ≠ e := fun z => hb (by simp [z])
      have h2' : b ≠ it := fun z => hb (by simp [z])
      exact (sb.2 b h1).trans (kk b ob h1 h2' q)
    have I2 : Inv X pins σ (upd H s.heap.objs.size (.tup [.int i, x])) { s with heap := h2, toks := s.toks + 1 } := I.turnLaid (o := .tup [.int i, x]) (t' := s.toks + 1) hf kp (Nat.le_refl _)
      ⟨by show 2 <= sizeLine; rw [sizeLine_eq]; decide, [.int i s.toks, u], .cons ⟨_, rfl⟩ (.cons ru .nil), ⟨_, hs', rfl, _, rfl⟩⟩
    refine ⟨.ref s.heap.objs.size, _, I2, rfl, ⟨_, I.fresh, rfl, fun ys hy => ⟨x, by rw [I.list_inj hy hq]; exact hx, rfl⟩⟩, ⟨⟨_, en⟩, li.extBut sb.extBut (Ne.symm hne)⟩, fun b hb => ?_⟩
    have hlt : b ≠ s.heap.objs.size := by
      obtain ⟨o, ho, _⟩ : ∃ o, s.heap.get? b = some o /\ True := by
        rcases List.mem_cons.mp hb with z | z
        . subst z; exact ⟨_, he, trivial⟩
        . have z' : b = it := by simpa using z
          subst z'
          obtain ⟨o, ho, _⟩ := hl
          exact ⟨o, ho, trivial⟩
      exact Nat.ne_of_lt (Heap.lt_size ho)
    rw [upd_ne hlt]
    exact (hf b hb).1
  done := by
    intro X hP hw hK hc i pins s σ H E I hf st hg
    subst hP hw hK
    obtain ⟨xs, hq, hx⟩ := hg
    obtain ⟨⟨old, he⟩, hl⟩ := st
    obtain ⟨its, rv, pl, hz⟩ := I.list hq
    have hlen := rv.length
    exact wpAny_pyNext_enum_end (I.ok.hd hc) he hl pl.isList (by simp; omega) fun h' eb => ⟨rfl, I.turnedL (t' := s.toks) hf fun b ob hb q => eb b ob (fun z => hb (by simp [z])) q⟩
  self := fun A i s Q E st h => by
    obtain ⟨⟨old, he⟩, _⟩ := st
    exact wpAny_pyIter_enum he h
def iEnum (K : W.Frag) (ta : TA) : TI := fun σ H R => ta σ H fun vs H1 => ∃ a, vs = [.ref a] /\ (∃ xs, SqL K H1 a xs) /\ R (Ite K a) H1
theorem pi_enum {X : Cx} {elts : List Expr} {k : Nat} {tpos : Pos} {l : Expr} {ta : TA} {p pos : Pos} (hg : Gl X "enumerate") (hm : X.mg "enumerate" = none) (ha : PA X [l] ta) (hs : starEach [l] X.env = [(false, eval l X.env)] := by rfl) :
    PI X (.Tuple elts k tpos) (.Call (.Name "enumerate" p) [l] [] pos) (iEnum X.K ta) := by
  intro pins s σ H R I h
  refine Call_ (ld_blt I hg hm (show bootBuiltins "enumerate" = some (.type "enumerate") by decide +kernel) (PyProof.Rows.callWith_type1 (thn (ha pos pins s σ H _ I h) fun us s1 ⟨vs, H1, I1, r1, q1⟩ => ?_) hs rfl))
  obtain ⟨a, e, ⟨xs, hq⟩, q⟩ := q1
  subst e
  obtain ⟨u, rfl, ru⟩ := r1.one
  cases ru
  obtain ⟨its, rv, pl, hz⟩ := I1.list hq
  refine call_enumerate_list pl.isList fun h' en li hsz kk => ?_
  have hT : (Shared.mk h' s1.gens s1.drawn s1.toks s1.os).TypeIs (.ref (s1.heap.objs.size + 1)) "enumerate" := ⟨_, en, rfl⟩
  have I2 : Inv X pins σ H1 { s1 with heap := h' } := I1.kept (t' := s1.toks) kk
  have T := turn_enum (P := X.prog) (w := X.w) (K := X.K) (elts := elts) (k := k) (pos := tpos) a (s1.heap.objs.size + 1) s1.heap.objs.size (Nat.ne_of_gt (Nat.lt_succ_self _))
  refine T.self X.A 0 { s1 with heap := h' } _ _ ⟨⟨_, en⟩, li⟩ ⟨_, _, _, _, H1, rfl, I2, T, ⟨⟨_, en⟩, li⟩, fun b hb => ?_, q⟩
  have hb' : s1.heap.objs.size <= b := by
    rcases List.mem_cons.mp hb with z | z
    . subst z; exact Nat.le_succ _
    . have z' : b = s1.heap.objs.size := by simpa using z
      subst z'; exact Nat.le_refl _
  exact I1.fpOk hb' (I1.hok.fresh hb')
theorem ns_nocell {h : Heap} {a : Addr} {m : Str -> Option Value} {o : Obj} (n : h.Ns a m) (e : h.get? a = some o) (v : Option Value) (ev : o.data = .cell v) : False := by
  obtain ⟨o', es, ep, ho, r⟩ := n
  rw [e] at ho
  cases ho
  have hd := r.1
  rw [ev] at hd
  cases hd
section
variable {X : Cx}
theorem ps_setC {i : Nat} {y : Str} {py spos : Pos} {elt tg iter : Expr} {ifs : List Expr} {scope : Scope} {own fr : List Str} {idx : List Nat} {wi : TI} {g : TG} {tc : TT} {te : TE} {pos : Pos} (hN : X.N.Nodup) (hiy : X.N[i]? = some y) (hly : Loc X.env.scope y) (hc : X.calm = true) (S : CompScope own fr scope X.env.scope)
    (hi : PI X tg iter wi) (hg : ∀ C s H pins fp, PG (compCx X scope C (own ++ fr) s H pins fp) tg g) (ht : ∀ C s H pins fp, PTs (compCx X scope C (own ++ fr) s H pins fp) ifs tc) (he : ∀ C s H pins fp, PE (compCx X scope C (own ++ fr) s H pins fp) elt te)
    (hix : idx.length = fr.length := by rfl) (hat : ∀ (k : Nat) (x : Str) (j : Nat), fr[k]? = some x -> idx[k]? = some j -> X.N[j]? = some x)
    (hs : ∀ x, foldedSetIterable iter X.env x = pure x := by intro _; rfl) (hf : X.fn y = true \/ X.env.scope.names.lookup y = some .local := by first | exact .inl rfl | exact .inr rfl)
    (hsw : swapsWith (.ListComp elt [⟨tg, iter, ifs, 0⟩] scope pos) (some (.Name y py)) spos.line X.env = pure true := by rfl) : PS X (.Assign [.Name y py] (.ListComp elt [⟨tg, iter, ifs, 0⟩] scope pos) spos) (tAsg (tComp wi own.length idx g tc te) (gName i)) := by
  intro pins s σ H Dn I h
  rw [exec_Assign_Name_used _ _ _ _ hsw]
  refine wpAny_bind (wpAny_standAt (wpAny_bind ?_))
  show wpAny _ X.A (do let _ <- comprehension (.ListComp elt [⟨tg, iter, ifs, 0⟩] scope pos) scope X.env _ (newList []) false (eval iter X.env) (some (assign (.Name y py) X.env))) _ _ s
  have hclos : closureFor scope X.env = pure (closL X.env scope.names []) := clos_eq fun x hx hfree => I.ok.has x.1 (S.outs x hx hfree)
  refine wpAny_bind (wpAny_mono (wpAny_comprehension_free (use := some (assign (.Name y py) X.env)) (Q := fun _ s' => SP X pins Dn .next s') rfl hs hclos S.kind S.names (thn (hi pins s σ H _ I h) fun v s1 h1 => thn h1 fun itv s2 h2 => ?_)) (fun _ s' hq => wpAny_pure (wpAny_pure hq)) fun _ _ e => e)
  obtain ⟨it, fp, tn, J, H2, e, I2, T, st2, f2, h2⟩ := h2
  subst e
  refine wpAny_newObj_type ?_
  obtain ⟨W, ⟨m0, w0⟩, turn⟩ := h2 s2.heap.objs.size I2.fresh
  have I3 : Inv X pins σ (upd H2 s2.heap.objs.size (.lst [])) { s2 with heap := s2.heap.push { cls := .type "list", data := .seq ([] : List Value).toArray }, toks := s2.toks } := I2.lnew .nil (Nat.zero_le _)
  have fpl : ∀ b ∈ fp, b < s2.heap.objs.size := fun b hb => by
    obtain ⟨o, e, _⟩ := T.obj _ _ st2 b hb
    exact Heap.lt_size e
  have f3 : ∀ b ∈ fp, FpOk X pins (upd H2 s2.heap.objs.size (.lst [])) b := fun b hb => ⟨by rw [upd_ne (Nat.ne_of_lt (fpl b hb))]; exact (f2 b hb).1, (f2 b hb).2⟩
  generalize hs3 : ({ s2 with heap := s2.heap.push { cls := .type "list", data := .seq ([] : List Value).toArray }, toks := s2.toks } : Shared) = s3 at I3
  have hsz : s3.heap.objs.size = s2.heap.objs.size + 1 := by rw [<- hs3]; exact Heap.size_push _ _
  have st3 : tn 0 s3.heap := T.keep _ _ _ st2 fun b hb o e => by rw [<- hs3]; exact Heap.get?_push_of_some _ e
  refine wpAny_newFunctionEnv S.nocell (by intro y hy; simp at hy) (fun h4 hn4 hsb4 => ?_) S.kind
  have hk4 : ∀ b o, s3.heap.get? b = some o -> h4.get? b = some o := fun b o e => hsb4.extBut b o (Nat.ne_of_lt (Heap.lt_size e)) (Heap.get?_push_of_some _ e)
  have I4 := comp_start (idx := idx) (tk := s3.toks + ([] : List (Str × Value)).length) S hix hat I3 f3 (fun b hb => by rw [hsz]; exact Nat.lt_succ_of_lt (fpl b hb)) hn4 hk4
  have fpC : ∀ {H' : Hp} (pl : List (Addr × Obj)), (∀ p ∈ pl, ∀ b ∈ fp, p.1 ≠ b) -> (∀ b ∈ fp, H' b = none) -> ∀ b ∈ fp, FpOk (compCx X scope s3.heap.objs.size (own ++ fr) s3 (upd H2 s2.heap.objs.size (.lst [])) pins fp) pl H' b := fun {H'} pl hpl hn b hb => by
    obtain ⟨g0, g1, g2, g3, g4, g5⟩ := f3 b hb
    refine ⟨hn b hb, ?_, fun z => ?_, .inl hb, fun x c e => g4 x c ((closL_sub _ _ x c e).elim id fun z => nomatch z), fun p hp => ?_⟩
    . show b ≠ s3.heap.objs.size
      exact Nat.ne_of_lt (by rw [hsz]; exact Nat.lt_succ_of_lt (fpl b hb))
    . rcases List.mem_cons.mp (I3.stkSub b z) with q | q
      . exact g1 q
      . exact g2 q
    . rcases List.mem_append.mp hp with q | q
      . exact g5 p q
      . exact hpl p q b hb
  have loop : codeAny (model X.prog X.w) X.A (.compLoop (.ListComp elt [⟨tg, iter, ifs, 0⟩] scope pos) 0 (.ref it) (.ref s2.heap.objs.size) (compEnvC scope (closL X.env scope.names []) s3.heap.objs.size X.env))
      (compPost (model X.prog X.w) X.A X.xe (some (assign (.Name y py) X.env)) (fun _ s' => SP X pins Dn .next s') (.ref s2.heap.objs.size) s3.heap.objs.size) { s3 with heap := h4, toks := s3.toks + ([] : List (Str × Value)).length } := by
    refine comp_core (Y := compCx X scope s3.heap.objs.size (own ++ fr) s3 (upd H2 s2.heap.objs.size (.lst [])) pins fp) (W := W) (m0 := m0) hc (hg _ _ _ _ _) (ht _ _ _ _ _) (he _ _ _ _ _) (fun _ _ z => z) T (fun hn => fpC [] (fun _ z => nomatch z) hn) turn (fun s6 σ5 H5 I6 q => ?_) ⟨0, [], _, _, I4, T.keep _ _ _ st3 fun b _ o e => hk4 b o e, fun b hb => (f3 b hb).1, upd_same, w0⟩
    obtain ⟨m6, hn6, _⟩ := id I6.loc
    have hn6' : s6.heap.Ns s3.heap.objs.size m6 := hn6
    obtain ⟨oC, es, ep, hoC, hrest⟩ := id hn6'
    have I7 : Inv X pins σ H5 s6 := comp_back (h' := s6.heap) I3 f3 I6 (Heap.SameBut.refl ..)
    have hfree : H5 s3.heap.objs.size = none := I6.free
    have I8 : Inv X (pins ++ [(s3.heap.objs.size, oC)]) σ H5 s6 := I7.pins_of fun p hp => (List.mem_append.mp hp).elim (fun z => I7.pin p (List.mem_append_right _ z)) fun z => by
      have e : p = (s3.heap.objs.size, oC) := List.mem_singleton.mp z
      subst e
      exact ⟨hoC, hfree, Nat.ne_of_gt I3.lt, I3.nofs (Nat.le_refl _), fun v ev => ns_nocell hn6' hoC v ev⟩
    refine thn (pg_name (pos := py) hN hiy hly hf _ s6 σ H5 (.ref s2.heap.objs.size) (.ref s2.heap.objs.size) _ I8 rfl q) fun _ s9 ⟨σ9, H9, I9, q9⟩ => ?_
    have hp9 := I9.pin (s3.heap.objs.size, oC) (List.mem_append_right _ (List.mem_append_right _ (List.mem_singleton.mpr rfl)))
    refine ⟨m6, hn6'.at' fun o e => ?_, fun h' hsb => ?_⟩
    . rw [hoC] at e
      cases e
      exact hp9.1
    . refine ⟨σ9, H9, I9.unpinned.turnedL (ch := [s3.heap.objs.size]) (t' := s9.toks) (fun b hb => ?_) fun b ob hb e => ?_, q9⟩
      . rw [List.mem_singleton.mp hb]
        exact I3.fpOk (Nat.le_refl _) hp9.2.1
      . exact hsb.extBut b ob (fun z => hb (List.mem_singleton.mpr z)) e
  exact codeAny_compStart_list loop (T.self _ 0 _ _ _ (T.keep _ _ _ st3 fun b _ o e => hk4 b o e) loop)
end
section
variable {prog : Program} {w : World} {A : Around} {E : Value -> Shared -> Prop}
end
section
variable {X : Cx} {pos : Pos}
theorem all_getD : ∀ bs : List Bool, (List.range bs.length).all (fun i => bs.getD i true) = bs.all id
  | [] => rfl
  | b :: r => by
    rw [List.length_cons, List.range_succ_eq_map, List.all_cons, List.all_map, List.all_cons]
    have ih := all_getD r
    have e : ((fun i => (b :: r).getD i true) ∘ Nat.succ) = fun i => r.getD i true := by
      funext i
      simp
    rw [e, ih]
    rfl
theorem call_allB (hc : X.calm = true) : CallR X (.builtin "all") (fun xs H Q => ∃ (p : Addr) (bs : List Bool), xs = [.ref p] /\ SqL X.K H p (bs.map V.bl) /\ Q (.bl (bs.all id)) H) := by
  intro pins s σ H xs us Q I r h
  obtain ⟨p, bs, rfl, hq, q⟩ := h
  obtain ⟨u, rfl, ru⟩ := r.one
  cases ru
  obtain ⟨its, rv, pl, hz⟩ := I.list hq
  have hp : p < s.heap.objs.size := by
    obtain ⟨o, ho, _⟩ := pl.isList
    exact Heap.lt_size ho
  have hlen : its.toArray.size = bs.length := by rw [List.size_toArray, <- rv.length, List.length_map]
  refine call_all_walk (wpAny_pyIter_list pl.isList ⟨s.heap.objs.size, _, _, its.toArray.size, _, _, fun i => bs.getD i true, rfl, Walks.list (show X.A.in1.handled = none from I.ok.hd hc) _ p (Nat.ne_of_lt hp) its.toArray, ⟨⟨_, Heap.get?_push_size _ rfl, rfl, rfl⟩, pl.isList.push _⟩, ?_, ?_⟩)
  . intro i v s' Q' E' hP hQ'
    have hv : its[i]? = some v := by simpa using hP
    have hi : i < its.length := (List.getElem?_eq_some_iff.mp hv).1
    have hi2 : i < bs.length := by rw [<- hlen]; simpa using hi
    obtain ⟨u, hu, ru⟩ := rv.get (i := i) (x := V.bl bs[i]) (by rw [List.getElem?_map, List.getElem?_eq_getElem hi2]; rfl)
    rw [hv] at hu
    cases hu
    have e : v = Value.bool bs[i] := ru
    subst e
    refine wpAny_truthy_bool ?_
    have e2 : bs.getD i true = bs[i] := by rw [List.getD_eq_getElem?_getD, List.getElem?_eq_getElem hi2]; rfl
    have hQ2 : Q' (bs.getD i true) s' := hQ'
    rw [e2] at hQ2
    exact hQ2
  . intro h' tk hk
    have I1 : Inv X pins σ H { s with heap := h', toks := tk } := I.kept fun b o e => hk b o (fun z => by
      have z' : b = s.heap.objs.size := by simpa using z
      exact absurd (Heap.lt_size e) (by rw [z']; exact Nat.lt_irrefl _)) (Heap.get?_push_of_some _ e)
    have e : (List.range its.toArray.size).all (fun i => bs.getD i true) = bs.all id := by
      rw [hlen]
      exact all_getD bs
    exact ⟨.bl (bs.all id), H, I1, by rw [e]; rfl, q⟩
end
section
variable {X : Cx}
theorem strs_vals : ∀ {zs : List Str} {us : List Value}, Vals (zs.map V.str) us -> StrsAre us zs
  | [], _, .nil => .nil
  | _ :: _, _, .cons ⟨t, e⟩ r => by
    subst e
    exact .cons _ t (strs_vals r)
theorem vals_strs : ∀ {us : List Value} {zs : List Str}, StrsAre us zs -> Vals (zs.map V.str) us
  | _, _, .nil => .nil
  | _, _, .cons _ t r => .cons ⟨t, rfl⟩ (vals_strs r)
theorem call_sortedS : CallR X (.builtin "sorted") (fun xs H Q => ∃ p zs, xs = [.ref p] /\ SqL X.K H p (zs.map V.str) /\ zs.length < 64 /\ ∀ l zs', H l = none -> zs'.Perm zs -> sortedS zs' = true -> Q (.ref l) (upd H l (.lst (zs'.map V.str)))) := by
  intro pins s σ H xs us Q I r h
  obtain ⟨p, zs, rfl, hq, hz, q⟩ := h
  obtain ⟨u, rfl, rx⟩ := vals1 r
  cases rx
  obtain ⟨its, r', pl, hz'⟩ := I.list hq
  have hlen := r'.length
  rw [List.length_map] at hlen
  refine sorted_strs pl.isList (strs_vals r') (by omega) fun out ss' a1 a2 a3 => ?_
  obtain ⟨e, he⟩ := sortedAll_at s.heap its out
  refine ⟨.ref (s.heap.objs.size + 1), _, I.laid (t' := s.toks) (fun _ _ => sortedAll_old) (Nat.le_succ _) (show ObjOk X.prog X.w _ _ _ (.lst (ss'.map V.str)) from ⟨?_, out.toList, e, vals_strs a1, he⟩), rfl, q _ _ (I.hok.fresh (Nat.le_succ _)) a2 a3⟩
  rw [List.length_map, a2.length_eq]
  rw [List.length_map] at hz'
  exact hz'
end
section
variable {M : Model} {A : Around} {E : Value -> Shared -> Prop} {s : Shared}
theorem wpAny_choose {src : Source} {n : Nat} {Q : Nat -> Shared -> Prop} (hn : n ≠ 0) (h : ∀ i, i < n -> ∀ d, Q i { s with drawn := d }) : wpAny M A (choose src n) Q E s := by
  intro Γ p hc
  exact ⟨hn, h _ (Nat.mod_lt _ (Nat.pos_of_ne_zero hn)) _⟩
theorem perm_eraseAt {α : Type} : ∀ (l : List α) (i : Nat) (h : i < l.length), (l[i] :: l.eraseIdx i).Perm l
  | _ :: _, 0, _ => .refl _
  | x :: xs, i + 1, h => by
    simp only [List.getElem_cons_succ, List.eraseIdx_cons_succ]
    exact (List.Perm.swap x _ _).trans (.cons x (perm_eraseAt xs i (by simpa using h)))
theorem wpAny_drawOrder {α : Type} : ∀ (n : Nat) (xs : List α) {Q : List α -> Shared -> Prop} {s : Shared}, n = xs.length -> (∀ ys d, ys.Perm xs -> Q ys { s with drawn := d }) -> wpAny M A (drawOrder n xs) Q E s
  | 0, xs, Q, s, e, h => by
    have : xs = [] := List.length_eq_zero_iff.mp e.symm
    subst this
    exact wpAny_pure (h [] s.drawn .nil)
  | n + 1, [], Q, s, e, h => by cases e
  | n + 1, x :: xs, Q, s, e, h => by
    refine wpAny_bind (wpAny_choose (by simp) fun i hi d => ?_)
    have hg : (x :: xs)[i]? = some ((x :: xs)[i]) := List.getElem?_eq_getElem hi
    rw [hg]
    refine wpAny_bind (wpAny_drawOrder n _ (by rw [List.length_eraseIdx_of_lt hi]; simp at e ⊢; omega) fun ys d' hp => wpAny_pure (h _ _ ?_))
    exact (List.Perm.cons _ hp).trans (perm_eraseAt _ _ hi)
end
def SetTable.Like (t t' : SetTable) : Prop := t'.led = t.led /\ (t'.plain = true -> t.plain = true)
theorem like_standIn (t : SetTable) (n : Nat) : SetTable.Like t (t.standIn n) := ⟨rfl, fun z => nomatch z⟩
theorem SetTable.Like.then {t t' t'' : SetTable} (a : SetTable.Like t t') (b : SetTable.Like t' t'') : SetTable.Like t t'' := ⟨b.1.trans a.1, fun z => a.2 (b.2 z)⟩
theorem like_or (t : SetTable) (n : Nat) : SetTable.Like t (t.orStandIn n) := by
  unfold SetTable.orStandIn
  split
  . exact ⟨rfl, id⟩
  . exact like_standIn t n
theorem like_put (t : SetTable) (j : Nat) : SetTable.Like t (t.put j).1 := ⟨rfl, id⟩
theorem like_lay (t : SetTable) (es : Array (Int × Value)) (h : Int) (x : Value) : SetTable.Like t (layNew t es h x).2.1 := by
  unfold layNew
  cases t.freeSlot h with
  | some p => exact (like_put t p.1).then (like_or _ _)
  | none => exact like_standIn t _
theorem like_relay (t : SetTable) (es : Array (Int × Value)) (n : Nat) : SetTable.Like t (relayAll t es n).2.1 := by
  unfold relayAll
  split
  . rename_i t' order e
    have hf : SetTable.Like t t' := by
      unfold SetTable.relaid SetTable.laid at e
      obtain ⟨_, _, e⟩ := Option.bind_eq_some_iff.mp e
      cases e
      exact ⟨rfl, id⟩
    dsimp only
    split
    . exact hf
    . exact like_standIn t _
  . exact like_standIn t _
section
variable {P : Program} {w : World} {A : Around} {E : Value -> Shared -> Prop} {s : Shared}
def SetS (P : Program) (w : World) (led : Bool) (h : Heap) (a : Addr) (zs : List Str) : Prop :=
  ∃ o es ep t, h.get? a = some o /\ o.ExactSet /\ o.data = .set es ep t /\ ElemsOf (mixKind P w) es.toList /\ (∃ us : List Value, (es.toList.map (·.2)).Perm us /\ StrsAre us zs) /\ zs.Nodup
    /\ es.size < scanBound /\ t.fits es.size = true /\ t.led = led /\ (1 <= es.size -> t.plain = false)
theorem strs_length : ∀ {us : List Value} {zs : List Str}, StrsAre us zs -> us.length = zs.length
  | _, _, .nil => rfl
  | _, _, .cons _ _ r => congrArg (· + 1) (strs_length r)
theorem strs_snoc {x : Str} {tk : Tok} : ∀ {us : List Value} {zs : List Str}, StrsAre us zs -> StrsAre (us ++ [.str x tk]) (zs ++ [x])
  | _, _, .nil => .cons x tk .nil
  | _, _, .cons y t r => .cons y t (strs_snoc r)
theorem SetS.mem {led : Bool} {h : Heap} {a : Addr} {zs : List Str} {es : Array (Int × Value)} {us : List Value} (hp : (es.toList.map (·.2)).Perm us) (hs : StrsAre us zs) (x : Str) :
    (∃ e ∈ es.toList, (mixKind P w).is (.inr x) e.2 = true) ↔ x ∈ zs := by
  have h1 : (∃ e ∈ es.toList, (mixKind P w).is (.inr x) e.2 = true) ↔ ∃ u ∈ us, (mixKind P w).is (.inr x) u = true := by
    constructor
    . rintro ⟨e, he, hk⟩
      exact ⟨e.2, hp.mem_iff.mp (List.mem_map_of_mem he), hk⟩
    . rintro ⟨u, hu, hk⟩
      obtain ⟨e, he, rfl⟩ := List.mem_map.mp (hp.mem_iff.mpr hu)
      exact ⟨e, he, hk⟩
  rw [h1]
  clear h1 hp
  induction hs with
  | nil => simp
  | cons y t r ih =>
    simp only [List.mem_cons, exists_eq_or_imp, ih]
    have : (mixKind P w).is (.inr x) (.str y t) = true ↔ x = y := by
      constructor
      . intro z
        rcases keyIs_shape (k := .inr x) (v := .str y t) z with ⟨i, t', e, _⟩ | ⟨x', t', e, e'⟩
        . cases e
        . cases e; cases e'; rfl
      . rintro rfl; exact mixKind_str _ _ _ _
    rw [this]
theorem tset_add {led : Bool} {a : Addr} {zs : List Str} {x : Str} {tk : Tok} {Q : Bool -> Shared -> Prop} (hS : SetS P w led s.heap a zs) (hroom : zs.length + 1 < scanBound)
    (h : ∀ h', Heap.SameBut a s.heap h' -> SetS P w led h' a (if x ∈ zs then zs else zs ++ [x]) -> Q (!decide (x ∈ zs)) { s with heap := h', toks := s.toks + 1 }) :
    wpAny (model P w) A (setAdd a (.str x tk)) Q E s := by
  obtain ⟨o, es, ep, t, ho, hex, hd, hel, ⟨us, hp, hs⟩, hnd, hb, hf, hled, hpl⟩ := hS
  have hkey : (mixKind P w).is (.inr x) (.str x tk) = true := mixKind_str _ _ _ _
  have hsz : es.size = zs.length := by
    have e1 := hp.length_eq
    rw [List.length_map, Array.length_toList] at e1
    rw [e1]
    exact strs_length hs
  have hm := SetS.mem (P := P) (w := w) (led := led) (h := s.heap) (a := a) hp hs x
  unfold setAdd
  refine wpAny_holding (wpAny_bind ((mixKind P w).pyHash hkey ?_))
  unfold setAddHashed setAddHashedIn
  refine wpAny_holding (wpAny_bind (wpAny_setState_of (s := { s with toks := s.toks + 1 }) ho hd hf ?_))
  dsimp only
  rw [byScan_of (knd := mixKind P w) (show (Value.str x tk).scannable = true from rfl) hb hel, if_pos rfl]
  unfold setAddByScan
  refine wpAny_bind (wpAny_bind (wpAny_rule (wpAny_bind (wpAny_setScan_of (s := { s with toks := s.toks + 1 }) hkey ho hd hf hel ?_))))
  cases hr : List.findIdx? (fun e => (mixKind P w).is (.inr x) e.2) es.toList with
  | some j =>
    obtain ⟨hj, hpj, _⟩ := List.findIdx?_eq_some_iff_getElem.mp hr
    have hx : x ∈ zs := hm.mp ⟨es.toList[j], List.getElem_mem hj, hpj⟩
    have q := h s.heap (Heap.SameBut.refl a s.heap) (by rw [if_pos hx]; exact ⟨o, es, ep, t, ho, hex, hd, hel, ⟨us, hp, hs⟩, hnd, hb, hf, hled, hpl⟩)
    rw [decide_eq_true hx] at q
    exact wpAny_pure (wpAny_pure q)
  | none =>
    have hx : x ∉ zs := fun z => by
      obtain ⟨e, he, hk⟩ := hm.mpr z
      have y := List.findIdx?_eq_none_iff.mp hr e he
      rw [hk] at y
      cases y
    have hgw : ∀ (b : Bool) (s₁ : Shared) (Q' : Unit -> Shared -> Prop), Q' () s₁ -> wpAny (model P w) A (match b with | true => rule "set.scan.the-table-gave-way" | false => pure ()) Q' E s₁ := fun b s₁ Q' hq => by
      cases b
      . exact wpAny_pure hq
      . exact wpAny_rule hq
    have l1 := layNew_perm t es ((mixKind P w).hash (.inr x)) (.str x tk)
    have l2 := layNew_fits t es ((mixKind P w).hash (.inr x)) (.str x tk)
    have l3 := like_lay t es ((mixKind P w).hash (.inr x)) (.str x tk)
    generalize layNew t es ((mixKind P w).hash (.inr x)) (.str x tk) = L at l1 l2 l3 ⊢
    obtain ⟨es1, t1, wasDummy, gave⟩ := L
    dsimp only at l1 l2 l3 ⊢
    rw [Array.toList_push] at l1
    have hsz1 : es1.size = zs.length + 1 := by
      rw [<- Array.length_toList, l1.length_eq, List.length_append, Array.length_toList, hsz]; rfl
    have hb1 : es1.size < scanBound := by rw [hsz1]; exact hroom
    have hel1 : ElemsOf (mixKind P w) es1.toList := (hel.push hkey rfl).perm l1
    have fin : ∀ (es2 : Array (Int × Value)) (t2 : SetTable) (o2 : Obj) (ep2 : Nat) (h2 : Heap), es2.toList.Perm es1.toList -> t2.fits es2.size = true -> t2.led = t.led -> t2.plain = false -> o2.ExactSet -> o2.data = .set es2 ep2 t2 -> h2.get? a = some o2 ->
        SetS P w led h2 a (if x ∈ zs then zs else zs ++ [x]) := fun es2 t2 o2 ep2 h2 p2 f2 e1 e2 x2 d2 g2 => by
      rw [if_neg hx]
      have hz2 : es2.size = es1.size := by rw [<- Array.length_toList, p2.length_eq, Array.length_toList]
      refine ⟨o2, es2, ep2, t2, g2, x2, d2, hel1.perm p2, ⟨us ++ [.str x tk], ?_, ?_⟩, ?_, by omega, f2, e1.trans hled, fun _ => e2⟩
      . refine ((p2.trans l1).map _).trans ?_
        rw [List.map_append]
        exact hp.append_right _
      . exact strs_snoc hs
      . exact List.nodup_append.mpr ⟨hnd, by simp, fun a ha b hb e => hx (by rw [List.mem_singleton] at hb; rw [<- hb, <- e]; exact ha)⟩
    refine wpAny_bind (hgw gave _ _ ?_)
    have tail : ∀ (g : Bool -> Sem Unit) (t2 : SetTable) (R : Option Bool -> Shared -> Prop), (∀ (b : Bool) (s₁ : Shared) (Q' : Unit -> Shared -> Prop), Q' () s₁ -> wpAny (model P w) A (g b) Q' E s₁) -> t2.plain = false -> t2.led = t.led -> t2.fits es1.size = true ->
        (∀ h', Heap.SameBut a s.heap h' -> SetS P w led h' a (if x ∈ zs then zs else zs ++ [x]) -> R (some true) { s with heap := h', toks := s.toks + 1 }) ->
        wpAny (model P w) A (do
          storeSet a es1 t2
          if (!wasDummy && t2.tooFull) = true then do
              g (relayAll t2 es1 (SetTable.grown es1.size)).2.2
              storeSet a (relayAll t2 es1 (SetTable.grown es1.size)).1 (relayAll t2 es1 (SetTable.grown es1.size)).2.1
              pure (some true)
            else pure (some true)) R E { s with toks := s.toks + 1 } := fun g t2 R hg e2 e1 f2 hR => by
      have ga : ∀ (h0 : Heap) (o0 : Obj) (es0 : Array (Int × Value)) (ep0 : Nat) (t0 : SetTable) (es' : Array (Int × Value)) (t' : SetTable), h0.get? a = some o0 -> o0.data = .set es0 ep0 t0 -> (h0.update a (Obj.putSet es' t')).get? a = some { o0 with data := .set es' (ep0 + 1) t' } := fun h0 o0 es0 ep0 t0 es' t' q1 q2 => by
        have z := Heap.get?_update_self (Obj.putSet es' t') q1 (by rw [putSet_of es' t' q2]; rfl)
        rw [putSet_of es' t' q2] at z
        exact z
      have g1 := ga s.heap o es ep t es1 t2 ho hd
      refine wpAny_bind (wpAny_storeSet_of (s := { s with toks := s.toks + 1 }) ho hd ?_ (fits_of_scanBound hb1))
      split
      . have r1 := relayAll_perm t2 es1 (SetTable.grown es1.size)
        have r2 := relayAll_fits t2 es1 (SetTable.grown es1.size)
        have r3 := like_relay t2 es1 (SetTable.grown es1.size)
        have hz2 : (relayAll t2 es1 (SetTable.grown es1.size)).1.size = es1.size := by rw [<- Array.length_toList, r1.length_eq, Array.length_toList]
        refine wpAny_bind (hg _ _ _ (wpAny_bind (wpAny_storeSet_of (s := { s with heap := s.heap.update a (Obj.putSet es1 t2), toks := s.toks + 1 }) g1 rfl ?_ (fits_of_scanBound (by rw [hz2]; exact hb1)))))
        have np : (relayAll t2 es1 (SetTable.grown es1.size)).2.1.plain = false := Bool.eq_false_iff.mpr fun z => by
          have y := r3.2 z
          rw [e2] at y
          cases y
        exact wpAny_pure (hR _ ((Heap.SameBut.update s.heap a _).trans (Heap.SameBut.update _ a _)) (fin _ _ { o with data := .set (relayAll t2 es1 (SetTable.grown es1.size)).1 (ep + 1 + 1) (relayAll t2 es1 (SetTable.grown es1.size)).2.1 } (ep + 1 + 1) _ r1 r2 (r3.1.trans e1) np hex rfl (ga _ { o with data := .set es1 (ep + 1) t2 } es1 (ep + 1) t2 _ _ g1 rfl)))
      . exact wpAny_pure (hR _ (Heap.SameBut.update s.heap a _) (fin es1 t2 { o with data := .set es1 (ep + 1) t2 } (ep + 1) _ (.refl _) f2 e1 e2 hex rfl g1))
    have q : ∀ h', Heap.SameBut a s.heap h' -> SetS P w led h' a (if x ∈ zs then zs else zs ++ [x]) -> wpAny (model P w) A (pure true) Q E { s with heap := h', toks := s.toks + 1 } := fun h' c1 c2 => by
      have q := h h' c1 c2
      rw [decide_eq_false hx] at q
      exact wpAny_pure q
    cases hp1 : t1.plain
    . rw [if_neg (fun z => nomatch z)]
      refine wpAny_bind (wpAny_pure ?_)
      exact tail _ t1 _ hgw hp1 l3.1 l2 q
    . simp only [if_true]
      rw [hashByValue_scannable 8 (show (Value.str x tk).scannable = true from rfl)]
      refine wpAny_bind (wpAny_pure ?_)
      exact tail _ { t1 with plain := false } _ hgw rfl l3.1 (SetTable.fits_plain_off l2) q
end
abbrev led0 (w : World) : Bool := !(w.params.followText "set-order")
abbrev setO (w : World) : Obj := { cls := .type "set", dict := none, data := .set #[] 0 (.fresh 0 0 (led0 w)) }
section
variable {P : Program} {w : World} {A : Around} {E : Value -> Shared -> Prop} {s : Shared}
theorem set_new_led {rest : List Value} {Q₁ : Value -> Shared -> Prop} (hc : checkBuiltinCall "set.__new__" ⟨.type "set" :: rest, []⟩ = pure ())
    (h : Q₁ (.ref s.heap.objs.size) { s with heap := s.heap.push (setO w) }) : codeAny (model P w) A (.call (.builtin "set.__new__") ⟨.type "set" :: rest, []⟩) (wants Q₁ E) s := by
  refine codeAny_of_tree (show wpAny _ A.in1 (do checkBuiltinCall "set.__new__" ⟨.type "set" :: rest, []⟩; again (.builtin "set.__new__" ⟨.type "set" :: rest, []⟩)) _ _ s from ?_)
  refine wpAny_bind (wpAny_of_eq hc (wpAny_pure ⟨plainId_quiet PySem.F.plain_set_new _, codeAny_builtin PySem.F.entry_set_new ?_⟩))
  rw [PySem.Around.under_plainId PySem.F.plain_set_new _]
  have hsub := PySem.sub_set_self
  obtain ⟨hp, g, d, tk, os⟩ := s
  unfold Builtin.«set.__new__»
  unfold Builtin.Frozenset.newClass
  dsimp only
  wp_walk
  refine wpAny_askSetting (wpAny_pure ?_)
  simp only [newObj]
  exact wpAny_bind (wpAny_alloc (wpAny_pure (wpAny_pure h)))
theorem setS_new {h : Heap} {a : Addr} (e : h.get? a = some (setO w)) : SetS P w (led0 w) h a [] := by
  refine ⟨_, #[], 0, _, e, ⟨rfl, rfl, rfl⟩, rfl, ?_, ⟨[], List.Perm.refl _, StrsAre.nil⟩, List.Pairwise.nil, by decide, rfl, rfl, ?_⟩
  . intro _ z
    simp at z
  . intro z
    exact absurd z (by decide)
def firstS (l : List Str) : List Str := l.foldl (fun σ v => if v ∈ σ then σ else σ ++ [v]) []
theorem firstS_snoc (l : List Str) (v : Str) : firstS (l ++ [v]) = if v ∈ firstS l then firstS l else firstS l ++ [v] := by
  unfold firstS
  rw [List.foldl_append]
  rfl
theorem firstS_go : ∀ (l σ : List Str), (l.foldl (fun σ v => if v ∈ σ then σ else σ ++ [v]) σ).length <= σ.length + l.length
  | [], _ => Nat.le_refl _
  | v :: l, σ => by
    rw [List.foldl_cons, List.length_cons]
    refine Nat.le_trans (firstS_go l _) ?_
    split
    . omega
    . rw [List.length_append, List.length_singleton]; omega
theorem firstS_le (l : List Str) : (firstS l).length <= l.length := by
  have q := firstS_go l []
  rw [List.length_nil, Nat.zero_add] at q
  exact q
theorem SetS.keep {led : Bool} {h h' : Heap} {a : Addr} {zs : List Str} (x : SetS P w led h a zs) (k : ∀ o, h.get? a = some o -> h'.get? a = some o) : SetS P w led h' a zs := by
  obtain ⟨o, es, ep, t, e, r⟩ := x
  exact ⟨o, es, ep, t, k o e, r⟩
variable {R : Result -> Shared -> Prop} {I : Addr} {fp wr : List Addr} {G : Array GenState -> Array GenState -> Prop} {n : Nat} {Pv : Nat -> Value -> Prop} {St : Nat -> Shared -> Prop}
theorem loop_setS {led : Bool} (W : WalksS P w A.in1 I fp wr G n Pv St) (S : Addr) (hSf : S ∉ fp) (ys : List Str) (hn : ys.length = n) (hval : ∀ i v, Pv i v -> ∃ y t, ys[i]? = some y /\ v = .str y t) (hb : n + 1 < scanBound) :
    ∀ (k i : Nat) (s : Shared), n - i = k -> i <= n -> St i s -> SetS P w led s.heap S (firstS (ys.take i)) ->
      (∀ s', Moved (S :: wr) G s s' -> SetS P w led s'.heap S (firstS ys) -> R (.ok (.ret .none)) s') ->
      codeAny (model P w) A (.builtin "set.update.loop" ⟨[.ref S, .ref I], []⟩) R s := by
  have hSw : S ∉ wr := fun z => hSf (W.sub _ z)
  have up : ∀ b ∈ wr, b ∈ S :: wr := fun b z => .tail _ z
  intro k
  induction k with
  | zero =>
    intro i s hk hi hst hS hR
    obtain rfl : i = n := by omega
    refine codeAny_builtin F.entry_set_update_loop (by
      rw [PySem.Around.under_plainId F.plain_set_update_loop _]
      refine (show wpAny _ A.in1 (pyNext (.ref I) >>= _) _ _ s from wpAny_bind (W.done s _ _ hst fun s' hm => ?_))
      refine (show wpAny _ A.in1 (ret Value.none) _ _ s' from wpAny_pure (hR s' (hm.mono up) ?_))
      rw [List.take_of_length_le (by omega)] at hS
      exact hS.keep fun o e => hm.heap S o hSw e)
  | succ k ih =>
    intro i s hk hi hst hS hR
    have hlt : i < n := by omega
    refine codeAny_builtin F.entry_set_update_loop (by
      rw [PySem.Around.under_plainId F.plain_set_update_loop _]
      refine (show wpAny _ A.in1 (pyNext (.ref I) >>= _) _ _ s from wpAny_bind (W.item i s _ _ hlt hst fun v s' hP hst' hm => ?_))
      obtain ⟨y, t, hy, rfl⟩ := hval i v hP
      have hS' : SetS P w led s'.heap S (firstS (ys.take i)) := hS.keep fun o e => hm.heap S o hSw e
      refine (show wpAny _ A.in1 (holding [Value.str y t] (setAdd S (.str y t)) >>= _) _ _ s' from wpAny_bind (wpAny_holding (tset_add hS' ?_ fun h' hsb hS2 => ?_)))
      . have q := firstS_le (ys.take i)
        rw [List.length_take] at q
        omega
      have e1 : ys.take (i + 1) = ys.take i ++ [y] := by rw [List.take_succ, hy]; rfl
      rw [<- firstS_snoc, <- e1] at hS2
      refine wpAny_pure ⟨plainId_quiet F.plain_set_update_loop _, ih (i + 1) _ (by omega) hlt (W.frame _ s' _ _ hst' (Nat.le_succ _) fun b z o e => ?_) hS2 fun s'' hm'' hS'' => ?_⟩
      . exact (hsb.2 b fun q : b = S => hSf (q ▸ z)).trans e
      . refine hR s'' (Moved.trans W.gtrans ((hm.mono up).then_heap (Nat.le_succ _) fun b o z e => ?_) hm'') hS''
        exact (hsb.2 b fun q : b = S => z (by rw [q]; exact .head _)).trans e)
end
section
variable {P : Program} {w : World} {A : Around} {E : Value -> Shared -> Prop} {s : Shared}
theorem strs_at : ∀ {vs : List Value} {ys : List Str}, StrsAre vs ys -> ∀ (i : Nat) (v : Value), vs[i]? = some v -> ∃ y t, ys[i]? = some y /\ v = .str y t
  | _, _, .cons y t _, 0, _, e => ⟨y, t, rfl, (Option.some.inj e).symm⟩
  | _, _, .cons _ _ r, i + 1, v, e => strs_at r i v e
set_option maxHeartbeats 8000000 in
theorem init_setS {S l : Addr} {items : Array Value} {ys : List Str} {R : Result -> Shared -> Prop} (hh : A.handled = none) (hS : s.heap.get? S = some (setO w)) (hl : s.heap.IsList l items) (hs : StrsAre items.toList ys) (hb : items.size + 1 < scanBound)
    (h : ∀ (h' : Heap) (tk : Nat), SetS P w (led0 w) h' S (firstS ys) -> (∀ b o, b ≠ S -> s.heap.get? b = some o -> h'.get? b = some o) -> R (.ok (.ret .none)) { s with heap := h', toks := tk }) :
    codeAny (model P w) A (.call (.builtin "set.__init__") ⟨[.ref S, .ref l], []⟩) R s := by
  have hT : s.TypeIs (.ref S) "set" := ⟨_, hS, rfl⟩
  refine codeAny_call_builtin PySem.F.called_set.init.plain PySem.F.entry_set_init (check_set_init_1 hT ?_)
  obtain ⟨ol, hol, hcl, nl, hdl⟩ := id hl
  have hne : l ≠ S := fun z => by
    rw [z, hS] at hol
    cases hol
    have y : Value.type "set" = Value.type "list" := hcl
    simp at y
  obtain ⟨ocls, odict, odata, oslots⟩ := ol
  obtain rfl : ocls = _ := hcl
  obtain rfl : odata = _ := hdl
  have c1 := PySem.F.sub_list_set
  have c2 := PySem.F.sub_list_frozenset
  have c3 : (Value.type "list" == Value.type "dict") = false := by decide
  unfold Builtin.«set.__init__» noKeywords
  unfold Builtin.Frozenset.updateFrom
  generalize hPI : pyIter = PI
  wp_walk
  subst hPI
  refine wpAny_pyIter_list hl (wpAny_bind (wpAny_runValue ?_))
  have hh3 : A.in1.in1.handled = none := by simp [hh]
  have hlt : l < s.heap.objs.size := Heap.lt_size hol
  have hsl : S < s.heap.objs.size := Heap.lt_size hS
  refine loop_setS (led := led0 w) ((Walks.list hh3 s.heap.objs.size l (Nat.ne_of_lt hlt) items).toS) S ?hf ys ?hn (fun i v e => strs_at hs i v (by rw [Array.getElem?_toList]; exact e)) hb (items.size - 0) 0 _ rfl (Nat.zero_le _) ⟨⟨_, Heap.get?_push_size _ rfl, rfl, rfl⟩, hl.push _⟩ ?hS0 ?hR
  case hf =>
    simp only [List.mem_cons, List.not_mem_nil, or_false, not_or]
    exact ⟨Nat.ne_of_lt hsl, fun z => hne z.symm⟩
  case hn => rw [<- strs_length hs, Array.length_toList]
  case hS0 => exact setS_new (Heap.get?_push_of_some _ hS)
  case hR =>
    intro s' hm hS'
    obtain ⟨h', g', d', tk', os'⟩ := s'
    obtain rfl : g' = s.gens := hm.gens
    obtain rfl : d' = s.drawn := hm.drawn
    obtain rfl : os' = s.os := hm.os
    refine wpAny_pure (show wpAny _ _ (ret Value.none) _ _ _ from wpAny_pure (h h' tk' hS' fun b o hbS e => ?_))
    refine hm.heap b o (fun z => ?_) (Heap.get?_push_of_some _ e)
    simp only [List.mem_cons, List.not_mem_nil, or_false] at z
    rcases z with z | z
    . exact hbS z
    . exact absurd (Heap.lt_size e) (by rw [z]; exact Nat.lt_irrefl _)
set_option maxHeartbeats 8000000 in
theorem call_setS {l : Addr} {items : Array Value} {ys : List Str} {Q : Value -> Shared -> Prop} (hh : A.handled = none) (hl : s.heap.IsList l items) (hs : StrsAre items.toList ys) (hb : items.size + 1 < scanBound)
    (h : ∀ (h' : Heap) (tk : Nat), SetS P w (led0 w) h' s.heap.objs.size (firstS ys) -> (∀ b o, s.heap.get? b = some o -> h'.get? b = some o) -> Q (.ref s.heap.objs.size) { s with heap := h', toks := tk }) :
    wpAny (model P w) A (call (.type "set") [.ref l]) Q E s := by
  obtain ⟨c, tl, hmro⟩ := PySem.F.called_set.mro
  have c1 := PySem.F.called_set.made
  have c2 := PySem.F.called_set.sub
  have c3 := PySem.F.called_set.notType
  have c4 := PySem.F.called_set.canCreate
  have c5 := PySem.F.typeCall_set_1 (.ref l)
  refine wpAny_call (codeAny_of_tree (show wpAny _ _ (callAny (.type "set") _) _ _ _ from wpAny_pure ⟨Code.quiet_builtin _ (by decide +kernel), codeAny_builtin PySem.F.entry_type_call ?_⟩))
  rw [PySem.Around.under_plain (weight_type_call_type "set" [.ref l] []) rfl]
  repeat (any_goals (first | assumption | wp_step))
  refine codeAny_mono (set_new_led (P := P) (E := E) (rest := [.ref l]) (Q₁ := fun obj s₁ => obj = .ref s.heap.objs.size /\ s₁ = { s with heap := s.heap.push (setO w) }) (PySem.F.newCall_set_1 _) ⟨rfl, rfl⟩) fun r s₁ hr => ?_
  cases r with
  | error e => exact hr
  | ok fl =>
    cases fl with
    | ret obj =>
      obtain ⟨rfl, rfl⟩ := hr
      have hS : (s.heap.push (setO w)).get? s.heap.objs.size = some (setO w) := Heap.get?_push_size _ rfl
      have hT : Shared.TypeIs { s with heap := s.heap.push (setO w) } (.ref s.heap.objs.size) "set" := ⟨_, hS, rfl⟩
      have c6 := PySem.F.called_set.init.lookup
      have c7 := PySem.F.called_set.init.bind (.ref s.heap.objs.size)
      repeat (any_goals (first | assumption | wp_step))
      refine init_setS (s := { s with heap := s.heap.push (setO w) }) (by simp [hh]) hS (hl.push _) hs hb fun h' tk x k => ?_
      refine wpAny_pure (wpAny_pure (h h' tk x fun b o e => k b o (Nat.ne_of_lt (Heap.lt_size e)) (Heap.get?_push_of_some _ e)))
    | _ => exact hr.elim
end
namespace F
theorem entry_set_iter : entryFor table "set.__iter__" = some Builtin.«frozenset.__iter__» := entryFor_alias (id' := "frozenset.__iter__") (by kernel_rfl) (by first | rfl | decide +kernel) (by decide +kernel) (by kernel_rfl)
theorem slot_setit_next : Slot "set_iterator" "__next__" "set_iterator.__next__" :=
  .of (owner := "set_iterator") (n := "__next__") (by rw [typeLookup_type, builtinLookup_eq_fast]; kernel_rfl) (by decide +kernel) (by decide +kernel) (by decide +kernel)
    (by first | exact .inl (by decide +kernel) | exact .inr (by decide +kernel)) (by rw [isSubtype_type]; kernel_rfl)
theorem entry_setit_next : entryFor table "set_iterator.__next__" = some Builtin.«set_iterator.__next__» := entryFor_of_tree (by kernel_rfl)
theorem args_setit_next (a : Value) : argsOk "set_iterator.__next__" ⟨[a], []⟩ := by unfold argsOk; kernel_rfl
end F
section
variable {P : Program} {w : World} {A : Around} {E : Value -> Shared -> Prop} {s : Shared}
abbrev setItO (f : Value) (i : Nat) (S : Addr) (n ep : Nat) : Obj := { cls := .type "set_iterator", data := .fields #[f, rawInt i, .ref S, rawInt n, rawInt ep] }
theorem drawn_eq {S : Addr} {o : Obj} {es : Array (Int × Value)} {ep : Nat} {t : SetTable} {Q : Bool -> Shared -> Prop} (ho : s.heap.get? S = some o) (hd : o.data = .set es ep t) (hf : t.fits es.size = true)
    (h : Q (!(w.params.followText "set-order") && (!t.plain && decide (es.size > 1))) s) : wpAny (model P w) A (setDrawn S) Q E s := by
  unfold setDrawn
  refine wpAny_bind (wpAny_setState_of ho hd hf ?_)
  refine wpAny_bind (wpAny_bind (wpAny_askSetting (wpAny_pure ?_)))
  exact wpAny_pure h
theorem iter_set {S : Addr} {o : Obj} {es : Array (Int × Value)} {ep : Nat} {t : SetTable} {Q : Value -> Shared -> Prop} (ho : s.heap.get? S = some o) (hex : o.ExactSet) (hd : o.data = .set es ep t) (hf : t.fits es.size = true) (hb : es.size < scanBound)
    (h1 : (!(w.params.followText "set-order") && (!t.plain && decide (es.size > 1))) = false -> Q (.ref s.heap.objs.size) { s with heap := s.heap.push (setItO (rawInt 0) 0 S es.size ep) })
    (h2 : (!(w.params.followText "set-order") && (!t.plain && decide (es.size > 1))) = true -> ∀ (ps : List Nat) (d : Drawn), ps.Perm (List.range es.size) ->
      Q (.ref (s.heap.objs.size + 1)) { s with drawn := d, heap := (s.heap.push { cls := .type "tuple", data := .seq (ps.map fun i : Nat => rawInt i).toArray }).push (setItO (.ref s.heap.objs.size) 0 S es.size ep) }) :
    wpAny (model P w) A (pyIter (.ref S)) Q E s := by
  have hT : s.TypeIs (.ref S) "set" := ⟨o, ho, hex.1⟩
  refine wpAny_pyIter_slot hT PySem.F.slot_set_iter (wpAny_call_entry PySem.F.slot_set_iter hT F.entry_set_iter ?_ (PySem.F.args_set_iter_1 _))
  unfold Builtin.«frozenset.__iter__»
  refine wpAny_bind (show wpAny _ _ (pure S) _ _ _ from wpAny_pure ?_)
  refine wpAny_bind (show wpAny _ _ (setEntries S >>= fun e => pure e.size) _ _ _ from wpAny_bind (show wpAny _ _ (setState S >>= fun e => pure e.1) _ _ _ from wpAny_bind (wpAny_setState_of ho hd hf (wpAny_pure (wpAny_pure ?_)))))
  refine wpAny_bind (drawn_eq ho hd hf ?_)
  cases hq : (!(w.params.followText "set-order") && (!t.plain && decide (es.size > 1)))
  . rw [if_neg (fun z => nomatch z)]
    refine wpAny_bind (wpAny_pure (wpAny_bind (wpAny_setEpoch_of ho hd hf ?_)))
    exact wpAny_bind (wpAny_newObj_type (wpAny_pure ⟨_, rfl, "set_iterator", _, ⟨_, Heap.get?_push_size _ rfl, rfl⟩, F.slot_setit_next.lookup, h1 hq⟩))
  . rw [if_pos rfl]
    refine wpAny_bind (wpAny_drawOrder _ _ (by rw [List.length_range]) fun ps d hp => ?_)
    have hz : (ps.map fun i : Nat => rawInt i).length <= sizeLine := by
      rw [List.length_map, hp.length_eq, List.length_range]
      exact fits_of_scanBound hb
    refine wpAny_bind (wpAny_newTuple (wpAny_bind (wpAny_setEpoch_of (Heap.get?_push_of_some _ ho) hd hf ?_)) hz)
    refine wpAny_bind (wpAny_newObj_type (wpAny_pure ⟨_, rfl, "set_iterator", _, ⟨_, Heap.get?_push_size _ rfl, rfl⟩, F.slot_setit_next.lookup, ?_⟩))
    have e : (s.heap.push { cls := .type "tuple", data := .seq (ps.map fun i : Nat => rawInt i).toArray }).objs.size = s.heap.objs.size + 1 := Heap.size_push _ _
    rw [e]
    exact h2 hq ps d hp
end
end L2
namespace L2
open PySem PySem.Spec PyProof.Rows
section
variable {P : Program} {w : World} {A : Around} {E : Value -> Shared -> Prop} {s : Shared} {I S T : Addr} {i ep : Nat} {es : Array (Int × Value)} {t : SetTable} {o : Obj}
theorem setEntries_of {Q : Array (Int × Value) -> Shared -> Prop} (ho : s.heap.get? S = some o) (hd : o.data = .set es ep t) (hf : t.fits es.size = true) (h : Q es s) : wpAny (model P w) A (setEntries S) Q E s := by
  unfold setEntries
  exact wpAny_bind (wpAny_setState_of ho hd hf (wpAny_pure h))
theorem next_drawn {places : Array Value} {p : Nat} {pk : Tok} {hx : Int} {x : Value} {n : Nat} {Q : Option Value -> Shared -> Prop} (hit : s.heap.get? I = some (setItO (.ref T) i S es.size ep)) (ho : s.heap.get? S = some o) (hd : o.data = .set es ep t) (hf : t.fits es.size = true)
    (hT : s.heap.get? T = some { cls := .type "tuple", data := .seq places n }) (hp : places[i]? = some (.int p pk)) (he : es[p]? = some (hx, x))
    (h : ∀ h', h'.get? I = some (setItO (.ref T) (i + 1) S es.size ep) -> Heap.SameBut I s.heap h' -> Q (some x) { s with heap := h' }) : wpAny (model P w) A (pyNext (.ref I)) Q E s := by
  have hTy : s.TypeIs (.ref I) "set_iterator" := ⟨_, hit, rfl⟩
  unfold pyNext
  refine wpAny_bind (wpAny_attempt (wpAny_callSpecial?_slot (name := Str.ofString "__next__") hTy F.slot_setit_next (wpAny_call_entry F.slot_setit_next hTy F.entry_setit_next ?_ (F.args_setit_next _))))
  unfold Builtin.«set_iterator.__next__»
  refine wpAny_bind (wpAny_pure (wpAny_bind (show wpAny _ _ (fieldsOf (.ref I)) _ _ _ from wpAny_fieldsOf hit rfl ?_)))
  refine (show wpAny _ _ (setEntries S >>= _) _ _ _ from wpAny_bind (setEntries_of ho hd hf ?_))
  rw [if_neg (by simp)]
  refine (show wpAny _ _ (seqItems? (.ref T) >>= _) _ _ _ from wpAny_bind (wpAny_seqItems hT rfl ?_))
  simp only [Int.toNat_natCast, hp]
  refine wpAny_bind (show wpAny _ _ (setState S >>= _) _ _ _ from wpAny_bind (wpAny_setState_of ho hd hf ?_))
  dsimp only
  rw [if_neg (by simp), he]
  exact wpAny_pure (wpAny_bind (wpAny_setField hit rfl (by simp) (wpAny_pure ⟨x, rfl, wpAny_pure (h _ (Heap.get?_update_self _ hit rfl) (Heap.SameBut.update ..))⟩)))
theorem next_drawn_end {places : Array Value} {n : Nat} {Q : Option Value -> Shared -> Prop} (hh : A.handled = none) (hit : s.heap.get? I = some (setItO (.ref T) i S es.size ep)) (ho : s.heap.get? S = some o) (hd : o.data = .set es ep t) (hf : t.fits es.size = true)
    (hT : s.heap.get? T = some { cls := .type "tuple", data := .seq places n }) (hp : places[i]? = none)
    (h : ∀ h', Heap.ExtBut I s.heap h' -> Q none { s with heap := h' }) : wpAny (model P w) A (pyNext (.ref I)) Q E s := by
  have hTy : s.TypeIs (.ref I) "set_iterator" := ⟨_, hit, rfl⟩
  unfold pyNext
  refine wpAny_bind (wpAny_attempt (wpAny_callSpecial?_slot (name := Str.ofString "__next__") hTy F.slot_setit_next (wpAny_call_entry F.slot_setit_next hTy F.entry_setit_next ?_ (F.args_setit_next _))))
  unfold Builtin.«set_iterator.__next__»
  refine wpAny_bind (wpAny_pure (wpAny_bind (show wpAny _ _ (fieldsOf (.ref I)) _ _ _ from wpAny_fieldsOf hit rfl ?_)))
  refine (show wpAny _ _ (setEntries S >>= _) _ _ _ from wpAny_bind (setEntries_of ho hd hf ?_))
  rw [if_neg (by simp)]
  refine (show wpAny _ _ (seqItems? (.ref T) >>= _) _ _ _ from wpAny_bind (wpAny_seqItems hT rfl ?_))
  simp only [Int.toNat_natCast, hp]
  refine wpAny_bind (wpAny_setField hit rfl (by simp) (wpAny_bind (wpAny_setField (Heap.get?_update_self _ hit rfl) rfl (by simp) ?_)))
  refine (show wpAny _ _ (newExc (.type "StopIteration") [] >>= _) _ _ _ from wpAny_bind ?_)
  simp only [newExc, newTuple]
  refine wpAny_bind (wpAny_newObj_type (wpAny_bind (m := firstArgMember _ _) (wpAny_of_eq (a := Value.none) (by first | rfl | (simp only [firstArgMember]; rfl)) (wpAny_newObj_type ?_ (by size_fits)))) (by size_fits))
  simp only [raiseNew]
  refine wpAny_bind (wpAny_handled ?_)
  rw [show A.in1.handled = none from hh]
  refine wpAny_bind (wpAny_pure (wpAny_throw ?_))
  refine wpAny_bind (wpAny_isInstance (T := "StopIteration") (b := true) ⟨_, Heap.get?_push_size _ rfl, rfl⟩ isSubtype_stop ?_)
  refine wpAny_pure (h _ ?_)
  exact ((((Heap.SameBut.update ..).trans (Heap.SameBut.update ..)).extBut.push _).push _)
def Nxt (P : Program) (w : World) (o : Obj) (S : Addr) (sl i ep : Nat) (r : Option (Value × Nat)) : Prop :=
  ∀ (A : Around) (E : Value -> Shared -> Prop) (s : Shared) (Q : Option (Value × Nat) -> Shared -> Prop), s.heap.get? S = some o -> Q r s -> wpAny (model P w) A (setNext S sl i ep) Q E s
theorem next_led {sl sl' : Nat} {x : Value} {Q : Option Value -> Shared -> Prop} (hit : s.heap.get? I = some (setItO (rawInt sl) i S es.size ep)) (ho : s.heap.get? S = some o) (hd : o.data = .set es ep t) (hf : t.fits es.size = true)
    (hx : Nxt P w o S sl i ep (some (x, sl')))
    (h : ∀ h', h'.get? I = some (setItO (rawInt sl') (i + 1) S es.size ep) -> Heap.SameBut I s.heap h' -> Q (some x) { s with heap := h' }) : wpAny (model P w) A (pyNext (.ref I)) Q E s := by
  have hTy : s.TypeIs (.ref I) "set_iterator" := ⟨_, hit, rfl⟩
  unfold pyNext
  refine wpAny_bind (wpAny_attempt (wpAny_callSpecial?_slot (name := Str.ofString "__next__") hTy F.slot_setit_next (wpAny_call_entry F.slot_setit_next hTy F.entry_setit_next ?_ (F.args_setit_next _))))
  unfold Builtin.«set_iterator.__next__»
  refine wpAny_bind (wpAny_pure (wpAny_bind (show wpAny _ _ (fieldsOf (.ref I)) _ _ _ from wpAny_fieldsOf hit rfl ?_)))
  refine (show wpAny _ _ (setEntries S >>= _) _ _ _ from wpAny_bind (setEntries_of ho hd hf ?_))
  rw [if_neg (by simp)]
  refine (show wpAny _ _ (setNext S (Int.toNat sl) (Int.toNat i) (Int.toNat ep) >>= _) _ _ _ from wpAny_bind ?_)
  rw [Int.toNat_natCast, Int.toNat_natCast, Int.toNat_natCast]
  refine hx _ _ _ _ ho ?_
  refine wpAny_bind (wpAny_setField hit rfl (by simp) (wpAny_bind (wpAny_setField (Heap.get?_update_self _ hit rfl) rfl (by simp) (wpAny_pure ⟨x, rfl, wpAny_pure (h _ (Heap.get?_update_self _ (Heap.get?_update_self _ hit rfl) rfl) ((Heap.SameBut.update ..).trans (Heap.SameBut.update ..)))⟩))))
theorem next_led_end {sl : Nat} {Q : Option Value -> Shared -> Prop} (hh : A.handled = none) (hit : s.heap.get? I = some (setItO (rawInt sl) i S es.size ep)) (ho : s.heap.get? S = some o) (hd : o.data = .set es ep t) (hf : t.fits es.size = true)
    (hx : Nxt P w o S sl i ep none) (h : ∀ h', Heap.ExtBut I s.heap h' -> Q none { s with heap := h' }) : wpAny (model P w) A (pyNext (.ref I)) Q E s := by
  have hTy : s.TypeIs (.ref I) "set_iterator" := ⟨_, hit, rfl⟩
  unfold pyNext
  refine wpAny_bind (wpAny_attempt (wpAny_callSpecial?_slot (name := Str.ofString "__next__") hTy F.slot_setit_next (wpAny_call_entry F.slot_setit_next hTy F.entry_setit_next ?_ (F.args_setit_next _))))
  unfold Builtin.«set_iterator.__next__»
  refine wpAny_bind (wpAny_pure (wpAny_bind (show wpAny _ _ (fieldsOf (.ref I)) _ _ _ from wpAny_fieldsOf hit rfl ?_)))
  refine (show wpAny _ _ (setEntries S >>= _) _ _ _ from wpAny_bind (setEntries_of ho hd hf ?_))
  rw [if_neg (by simp)]
  refine (show wpAny _ _ (setNext S (Int.toNat sl) (Int.toNat i) (Int.toNat ep) >>= _) _ _ _ from wpAny_bind ?_)
  rw [Int.toNat_natCast, Int.toNat_natCast, Int.toNat_natCast]
  refine hx _ _ _ _ ho ?_
  refine wpAny_bind (wpAny_setField hit rfl (by simp) ?_)
  refine (show wpAny _ _ (newExc (.type "StopIteration") [] >>= _) _ _ _ from wpAny_bind ?_)
  simp only [newExc, newTuple]
  refine wpAny_bind (wpAny_newObj_type (wpAny_bind (m := firstArgMember _ _) (wpAny_of_eq (a := Value.none) (by first | rfl | (simp only [firstArgMember]; rfl)) (wpAny_newObj_type ?_ (by size_fits)))) (by size_fits))
  simp only [raiseNew]
  refine wpAny_bind (wpAny_handled ?_)
  rw [show A.in1.handled = none from hh]
  refine wpAny_bind (wpAny_pure (wpAny_throw ?_))
  refine wpAny_bind (wpAny_isInstance (T := "StopIteration") (b := true) ⟨_, Heap.get?_push_size _ rfl, rfl⟩ isSubtype_stop ?_)
  refine wpAny_pure (h _ ?_)
  exact (((Heap.SameBut.update ..).extBut.push _).push _)
end
theorem pick_go {α : Type} (f : Nat -> Nat) : ∀ (fuel k : Nat) (left : List α) (out : Array α), left.length = fuel -> (pickOrder.go f fuel k left out).toList.Perm (out.toList ++ left)
  | 0, _, left, out, e => by
    obtain rfl : left = [] := List.length_eq_zero_iff.mp e
    rw [List.append_nil]
    exact .refl _
  | fuel + 1, k, left, out, e => by
    have hi : f k % left.length < left.length := Nat.mod_lt _ (by omega)
    unfold pickOrder.go
    rw [List.getElem?_eq_getElem hi]
    refine (pick_go f fuel (k + 1) _ _ (by rw [List.length_eraseIdx_of_lt hi]; omega)).trans ?_
    rw [Array.toList_push, List.append_assoc]
    exact List.Perm.append_left _ (perm_eraseAt left _ hi)
theorem pick_perm {α : Type} (f : Nat -> Nat) (xs : Array α) : (pickOrder f xs).toList.Perm xs.toList := by
  have q := pick_go f xs.size 0 xs.toList #[] (by rw [Array.length_toList])
  exact q
section
variable {P : Program} {w : World} {A : Around} {E : Value -> Shared -> Prop} {s : Shared} {I S T : Addr} {i ep : Nat} {es : Array (Int × Value)} {t : SetTable} {o : Obj}
theorem nxt_text {sl i : Nat} (hw : w.params.followText "set-order" = true) (hd : o.data = .set es ep t) (hf : t.fits es.size = true) :
    Nxt P w o S sl i ep (((pickOrder (w.params.setOrder S ep) es)[i]?).map fun e => (e.2, sl)) := by
  intro A E s Q ho q
  unfold setNext
  refine wpAny_bind (wpAny_setState_of ho hd hf ?_)
  refine wpAny_bind (show wpAny _ _ (ask >>= fun a => pure (a.params.followText "set-order")) _ _ _ from wpAny_bind (wpAny_askSetting (wpAny_pure ?_)))
  dsimp only
  rw [if_pos (show (model P w).w.params.followText "set-order" = true from hw), if_neg (by simp)]
  refine wpAny_bind ?_
  unfold setWalk
  refine wpAny_bind (wpAny_setState_of ho hd hf ?_)
  refine wpAny_bind (show wpAny _ _ (ask >>= fun a => pure (a.params.followText "set-order")) _ _ _ from wpAny_bind (wpAny_askSetting (wpAny_pure ?_)))
  rw [if_pos (show (model P w).w.params.followText "set-order" = true from hw)]
  refine wpAny_bind (wpAny_askSetting (wpAny_pure ?_))
  exact wpAny_pure q
theorem nxt_small {sl i : Nat} (hw : w.params.followText "set-order" = false) (hd : o.data = .set es ep t) (hf : t.fits es.size = true) (hled : t.led = true) (hn : es.size <= 1) :
    Nxt P w o S sl i ep (match es[SetTable.below t.place sl]?, t.place[SetTable.below t.place sl]? with | some (_, x), some j => some (x, j + 1) | _, _ => none) := by
  intro A E s Q ho q
  unfold setNext
  refine wpAny_bind (wpAny_setState_of ho hd hf ?_)
  refine wpAny_bind (show wpAny _ _ (ask >>= fun a => pure (a.params.followText "set-order")) _ _ _ from wpAny_bind (wpAny_askSetting (wpAny_pure ?_)))
  dsimp only
  rw [if_neg (by rw [show (model P w).w.params.followText "set-order" = false from hw]; simp)]
  refine (show wpAny _ _ (if (!t.plain && decide (es.size > 1)) = true then _ else _) _ _ _ from ?_)
  rw [if_neg (by simp; omega)]
  refine (show wpAny _ _ ((if (!t.led && !es.isEmpty) = true then unsupported "set:maker-not-led" else pure ()) >>= _) _ _ _ from ?_)
  rw [hled, if_neg (by simp)]
  exact wpAny_bind (wpAny_pure (wpAny_pure q))
structure Led (P : Program) (w : World) (o : Obj) (S : Addr) (ep : Nat) (us : List Value) (sl : Nat -> Nat) : Prop where
  item : ∀ i x, us[i]? = some x -> Nxt P w o S (sl i) i ep (some (x, sl (i + 1)))
  stop : Nxt P w o S (sl us.length) us.length ep none
  zero : sl 0 = 0
theorem led_text (hw : w.params.followText "set-order" = true) (hd : o.data = .set es ep t) (hf : t.fits es.size = true) : Led P w o S ep ((pickOrder (w.params.setOrder S ep) es).toList.map (·.2)) (fun _ => 0) where
  item := fun i x e => by
    have q := nxt_text (P := P) (S := S) (sl := 0) (i := i) hw hd hf
    rw [List.getElem?_map, Array.getElem?_toList] at e
    obtain ⟨y, e1, rfl⟩ := Option.map_eq_some_iff.mp e
    rw [e1] at q
    exact q
  stop := by
    have q := nxt_text (P := P) (S := S) (sl := 0) (i := ((pickOrder (w.params.setOrder S ep) es).toList.map (·.2)).length) hw hd hf
    rw [Array.getElem?_eq_none (by rw [List.length_map, Array.length_toList]; exact Nat.le_refl _)] at q
    exact q
  zero := rfl
theorem led_none (hw : w.params.followText "set-order" = false) (hd : o.data = .set es ep t) (hf : t.fits es.size = true) (hled : t.led = true) (hn : es.size = 0) : Led P w o S ep (es.toList.map (·.2)) (fun _ => 0) := by
  obtain rfl : es = #[] := Array.eq_empty_of_size_eq_zero hn
  refine ⟨fun i x e => ?_, ?_, rfl⟩
  . simp at e
  . have q := nxt_small (P := P) (S := S) (sl := 0) (i := 0) hw hd hf hled (by simp)
    simp only [List.getElem?_toArray, List.getElem?_nil] at q
    exact q
theorem led_one {e0 : Int × Value} (hw : w.params.followText "set-order" = false) (hd : o.data = .set #[e0] ep t) (hf : t.fits 1 = true) (hled : t.led = true) : Led P w o S ep [e0.2] (fun i => if i = 0 then 0 else t.place.getD 0 0 + 1) := by
  have hp : t.place.size = 1 := by
    simp only [SetTable.fits, Bool.and_eq_true, beq_iff_eq, decide_eq_true_eq] at hf
    exact hf.1
  obtain ⟨j, hj⟩ : ∃ j, t.place = #[j] := by
    obtain ⟨j, e⟩ := List.length_eq_one_iff.mp (show t.place.toList.length = 1 by rw [Array.length_toList]; exact hp)
    exact ⟨j, Array.toList_inj.mp e⟩
  refine ⟨fun i x e => ?_, ?_, rfl⟩
  . match i, e with
    | 0, e =>
      cases e
      have q := nxt_small (P := P) (S := S) (sl := 0) (i := 0) hw hd hf hled (by simp)
      rw [hj] at q
      rw [hj]
      exact q
  . have q := nxt_small (P := P) (S := S) (sl := j + 1) (i := 1) hw hd hf hled (by simp)
    rw [hj] at q
    rw [hj]
    have e : SetTable.below #[j] (j + 1) = 1 := by
      simp [SetTable.below, SetTable.below.go]
    rw [e] at q
    exact q
theorem slot_setit_iter : Slot "set_iterator" "__iter__" "set_iterator.__iter__" :=
  .of (owner := "set_iterator") (n := "__iter__") (by rw [typeLookup_type, builtinLookup_eq_fast]; kernel_rfl) (by decide +kernel) (by decide +kernel) (by decide +kernel) (by first | exact .inl (by decide +kernel) | exact .inr (by decide +kernel)) (by rw [isSubtype_type]; kernel_rfl)
theorem entry_setit_iter : entryFor table "set_iterator.__iter__" = some Builtin.«dict_keyiterator.__iter__» := entryFor_alias (id' := "dict_keyiterator.__iter__") (by kernel_rfl) (by first | rfl | decide +kernel) (by decide +kernel) (by kernel_rfl)
theorem args_setit_iter (a : Value) : argsOk "set_iterator.__iter__" ⟨[a], []⟩ := by unfold argsOk; kernel_rfl
theorem self_setit {f : Value} {n : Nat} {Q : Value -> Shared -> Prop} (hit : s.heap.get? I = some (setItO f i S n ep)) (h : Q (.ref I) s) : wpAny (model P w) A (pyIter (.ref I)) Q E s := by
  have hTy : s.TypeIs (.ref I) "set_iterator" := ⟨_, hit, rfl⟩
  refine wpAny_pyIter_slot hTy slot_setit_iter (wpAny_call_entry slot_setit_iter hTy entry_setit_iter ?_ (args_setit_iter _))
  exact (show wpAny _ _ (ret (.ref I)) _ _ s from wpAny_pure ⟨_, rfl, "set_iterator", _, hTy, F.slot_setit_next.lookup, h⟩)
theorem walk_led {us : List Value} {sl : Nat -> Nat} (L : Led P w o S ep us sl) (hh : A.handled = none) (hd : o.data = .set es ep t) (hf : t.fits es.size = true) (hne : S ≠ I) :
    WalksS P w A I [I, S] [I] (fun a b => b = a) us.length (fun i v => us[i]? = some v) (fun i s => s.heap.get? I = some (setItO (rawInt (sl i)) i S es.size ep) /\ s.heap.get? S = some o) where
  sub := fun b hb => by simp at hb; simp [hb]
  grefl := fun _ => rfl
  gtrans := fun _ _ _ h1 h2 => h2.trans h1
  frame := fun i s h' tk st _ k => ⟨k I (by simp) _ st.1, k S (by simp) _ st.2⟩
  item := fun i s Q E hi st hQ => by
    have e : us[i]? = some us[i] := List.getElem?_eq_getElem hi
    refine next_led st.1 st.2 hd hf (L.item i _ e) fun h' a b => hQ _ _ e ⟨a, (b.2 S hne).trans st.2⟩ ⟨fun c o' hc e' => ?_, rfl, rfl, rfl, Nat.le_refl _⟩
    exact (b.2 c fun z => hc (by simp [z])).trans e'
  done := fun s Q E st hQ => next_led_end hh st.1 st.2 hd hf L.stop fun h' a => hQ _ ⟨fun c o' hc e' => a c o' (fun z => hc (by simp [z])) e', rfl, rfl, rfl, Nat.le_refl _⟩
  self := fun i s Q E st hQ => self_setit st.1 hQ
theorem walk_drawn {places : List Nat} {n : Nat} (hh : A.handled = none) (hd : o.data = .set es ep t) (hf : t.fits es.size = true) (hp : places.Perm (List.range es.size)) (hne : S ≠ I) (hTn : T ≠ I) :
    WalksS P w A I [I, S, T] [I] (fun a b => b = a) places.length (fun i v => (places.map fun p => (es.toList.map (·.2)).getD p .none)[i]? = some v)
      (fun i s => s.heap.get? I = some (setItO (.ref T) i S es.size ep) /\ s.heap.get? S = some o /\ s.heap.get? T = some { cls := .type "tuple", data := .seq (places.map fun i : Nat => rawInt i).toArray n }) where
  sub := fun b hb => by simp at hb; simp [hb]
  grefl := fun _ => rfl
  gtrans := fun _ _ _ h1 h2 => h2.trans h1
  frame := fun i s h' tk st _ k => ⟨k I (by simp) _ st.1, k S (by simp) _ st.2.1, k T (by simp) _ st.2.2⟩
  item := fun i s Q E hi st hQ => by
    have e : places[i]? = some places[i] := List.getElem?_eq_getElem hi
    have hlt : places[i] < es.size := List.mem_range.mp (hp.mem_iff.mp (List.getElem_mem hi))
    have e2 : es[places[i]]? = some (es[places[i]].1, es[places[i]].2) := Array.getElem?_eq_getElem hlt
    refine next_drawn (p := places[i]) (pk := 0) (x := es[places[i]].2) st.1 st.2.1 hd hf st.2.2 (by rw [List.getElem?_toArray, List.getElem?_map, e]; rfl) e2 fun h' a b => hQ _ _ ?_ ⟨a, (b.2 S hne).trans st.2.1, (b.2 T hTn).trans st.2.2⟩ ⟨fun c o' hc e' => ?_, rfl, rfl, rfl, Nat.le_refl _⟩
    . rw [List.getElem?_map, e]
      simp [hlt]
    . exact (b.2 c fun z => hc (by simp [z])).trans e'
  done := fun s Q E st hQ => next_drawn_end hh st.1 st.2.1 hd hf st.2.2 (by simp) fun h' a => hQ _ ⟨fun c o' hc e' => a c o' (fun z => hc (by simp [z])) e', rfl, rfl, rfl, Nat.le_refl _⟩
  self := fun i s Q E st hQ => self_setit st.1 hQ
end
theorem set_len_at : typeLookup (.type "set") "__len__" = pure (some (.builtin "set.__len__")) := by rw [typeLookup_type, builtinLookup_eq_fast]; kernel_rfl
section
variable {P : Program} {w : World} {A : Around} {E : Value -> Shared -> Prop} {s : Shared} {I S T : Addr} {i ep : Nat} {es : Array (Int × Value)} {t : SetTable} {o : Obj}
theorem hint_set {Q : Bool -> Shared -> Prop} (hT : s.TypeIs (.ref S) "set") (h : Q false s) : wpAny (model P w) A (Builtin.List.listLengthHint (.ref S)) Q E s := by
  unfold Builtin.List.listLengthHint
  refine wpAny_bind (wpAny_specialOf (T := "set") hT set_len_at ?_)
  wp_delta
  refine wpAny_bind (wpAny_isInstance (T := "set") (b := true) hT (by rw [isSubtype_type]; kernel_rfl) ?_)
  exact (show wpAny _ A (typeOf (Value.ref S) >>= _) _ _ _ from wpAny_bind (wpAny_typeOf (T := "set") hT (wpAny_pure h)))
theorem loop_walk {L : Addr} {c0 : Nat} {fp : List Addr} {us : List Value} {St : Nat -> Shared -> Prop} {s1 : Shared} {R : Result -> Shared -> Prop} (W : WalksS P w A.in1 I fp [I] (fun a b => b = a) us.length (fun i v => us[i]? = some v) St) (hz : us.length <= sizeLine) (st : St 0 s1) (hL : L ∉ fp)
    (hl : s1.heap.get? L = some { cls := .type "list", data := .seq #[] c0 })
    (h : ∀ s' c, (∀ b o, b ≠ L -> b ≠ I -> s1.heap.get? b = some o -> s'.heap.get? b = some o) -> s'.gens = s1.gens -> s'.os = s1.os -> s'.heap.get? L = some { cls := .type "list", dict := none, data := .seq us.toArray c, slots := #[] } -> R (.ok (.ret (.ref L))) s') :
    codeAny (model P w) A (.builtin "list.extend.loop" ⟨[.ref L, .ref I, .ref L], []⟩) R s1 := by
  refine codeAny_extend_loopS W hz L hL _ us.length 0 s1 _ _ rfl (Nat.zero_le _) st hl (ItemsOf.nil _) fun s' acc' c' hm hS' hacc => ?_
  have e : acc' = us.toArray := by
    apply Array.toList_inj.mp
    apply List.ext_getElem?
    intro j
    by_cases hj : j < us.length
    . have h0 : j < acc'.size := by rw [hacc.1]; exact hj
      have h1 : acc'[j]? = some acc'[j] := Array.getElem?_eq_getElem h0
      rw [Array.getElem?_toList, h1]
      exact (hacc.2 j _ h1).symm
    . rw [Array.getElem?_toList, Array.getElem?_eq_none (by rw [hacc.1]; omega)]
      simp at hj ⊢
      exact hj
  rw [e] at hS'
  exact h s' c' (fun b o' h1 h2 q => hm.heap b o' (by simp [h1, h2]) q) hm.gens hm.os hS'
theorem collect_set {Q : List Value -> Shared -> Prop} (hT : s.TypeIs (.ref S) "set")
    (h : wpAny (model P w) A.in1 (pyIter (.ref S)) (fun v s1 => ∃ I, v = .ref I /\ s1.TypeIs (.ref S) "set" /\ s1.heap.get? s.heap.objs.size = some { cls := .type "list", data := .seq ([] : List Value).toArray } /\
        ∀ h' c, (∀ b o, b ≠ s.heap.objs.size -> s1.heap.get? b = some o -> h'.get? b = some o) -> h'.get? s.heap.objs.size = some { cls := .type "list", data := .seq #[] c } ->
          codeAny (model P w) A (.builtin "list.extend.loop" ⟨[.ref s.heap.objs.size, .ref I, .ref s.heap.objs.size], []⟩) (fun r s' => ∃ us c, r = .ok (.ret (.ref s.heap.objs.size)) /\ s'.heap.get? s.heap.objs.size = some { cls := .type "list", dict := none, data := .seq us c, slots := #[] } /\ Q us.toList s') { s1 with heap := h' }) (fun _ _ => False)
      { s with heap := s.heap.push { cls := .type "list", data := .seq ([] : List Value).toArray } }) :
    wpAny (model P w) A (collect (.ref S)) Q E s := by
  unfold collect
  refine wpAny_bind (wpAny_runValue (codeAny_builtin PySem.F.entry_proto_collect ?_))
  rw [PySem.Around.under_plainId PySem.F.plain_proto_collect _]
  refine (show wpAny _ A.in1 (newList [] >>= fun l => again (.builtin "list.__iadd__" ⟨[l, .ref S], []⟩)) _ _ s from wpAny_bind (wpAny_newObj_type (wpAny_pure ⟨plainId_quiet PySem.F.plain_list_iadd _, codeAny_builtin PySem.F.entry_list_iadd ?_⟩)))
  rw [PySem.Around.under_plainId PySem.F.plain_list_iadd _]
  refine (show wpAny _ A.in1 (Builtin.List.listExtendWith (.ref s.heap.objs.size) (.ref S) (.ref s.heap.objs.size)) _ _ _ from ?_)
  unfold Builtin.List.listExtendWith
  have hT1 : Shared.TypeIs { s with heap := s.heap.push { cls := .type "list", data := .seq ([] : List Value).toArray } } (.ref S) "set" := by
    obtain ⟨o, ho, hc⟩ := hT
    exact ⟨o, Heap.get?_push_of_some _ ho, hc⟩
  have hne : (Builtin.List.listSameRef (.ref s.heap.objs.size) (.ref S) || Value.type "set" == Value.type "list" || Value.type "set" == Value.type "tuple") = false := by
    obtain ⟨o, ho, hc⟩ := hT
    have q : (s.heap.objs.size == S) = false := by
      rw [beq_eq_false_iff_ne]
      exact Nat.ne_of_gt (Heap.lt_size ho)
    have q2 : Builtin.List.listSameRef (.ref s.heap.objs.size) (.ref S) = (s.heap.objs.size == S) := rfl
    rw [q2, q]
    decide
  refine wpAny_bind (wpAny_typeOf (T := "set") hT1 ?_)
  rw [if_neg (by rw [hne]; exact fun z => nomatch z)]
  refine wpAny_bind (wpAny_mono h (fun v s1 ⟨I, e, h1, h5, h2⟩ => ?_) fun _ _ z => z.elim)
  subst e
  refine wpAny_bind (wpAny_holding (hint_set h1 ?_))
  rw [if_pos (by decide)]
  refine wpAny_bind (wpAny_rule (wpAny_bind (show wpAny _ A.in1 (updateSeq s.heap.objs.size (·.push .none) >>= fun _ => updateSeq s.heap.objs.size (·.pop)) _ _ _ from wpAny_bind (wpAny_updateSeq h5 rfl ?_))))
  have g2 := Heap.get?_update_self (Obj.mapSeq (·.push Value.none)) h5 rfl
  refine wpAny_updateSeq (hz := by seq_fits) g2 rfl ?_
  have g3 := Heap.get?_update_self (Obj.mapSeq (·.pop)) g2 rfl
  refine wpAny_pure ⟨plainId_quiet PySem.F.plain_extend_loop _, codeAny_mono (h2 _ _ (fun b o' hb q => (Heap.get?_update_other _ _ (Ne.symm hb)).trans ((Heap.get?_update_other _ _ (Ne.symm hb)).trans q)) g3) fun r s' ⟨us, c, e, h3, h4⟩ => ?_⟩
  subst e
  exact (show wpAny _ A (load s.heap.objs.size >>= _) _ _ s' from wpAny_bind (wpAny_load h3 (wpAny_pure h4)))
end
theorem strs_perm {us us0 : List Value} {zs : List Str} (hp : us.Perm us0) (hs : StrsAre us0 zs) : ∃ zs', StrsAre us zs' /\ zs'.Perm zs :=
  ⟨us.map strOf, strsAre_map us fun v hv => hs.all v (hp.mem_iff.mp hv), by rw [<- hs.strs]; exact hp.map _⟩
theorem range_getD {α : Type} (d : α) : ∀ l : List α, (List.range l.length).map (fun p => l.getD p d) = l := fun l => by
  apply List.ext_getElem?
  intro j
  rw [List.getElem?_map]
  by_cases hj : j < l.length
  . rw [List.getElem?_range hj]; simp [hj]
  . rw [List.getElem?_eq_none (by simp; omega), List.getElem?_eq_none (by omega)]; rfl
section
variable {P : Program} {w : World} {A : Around} {E : Value -> Shared -> Prop} {s : Shared} {I S T : Addr}
theorem collect_setS {zs : List Str} {Q : List Value -> Shared -> Prop} (hh : A.handled = none) (hS : SetS P w (led0 w) s.heap S zs)
    (h : ∀ s' us zs', (∀ b o, s.heap.get? b = some o -> s'.heap.get? b = some o) -> s'.gens = s.gens -> s'.os = s.os -> s.heap.objs.size < s'.heap.objs.size -> StrsAre us zs' -> zs'.Perm zs -> Q us s') : wpAny (model P w) A (collect (.ref S)) Q E s := by
  obtain ⟨o, es, ep, t, ho, hex, hd, hel, ⟨us0, hp, hs⟩, hnd, hb, hf, hled, hpl⟩ := hS
  have ho0 : (s.heap.push { cls := .type "list", data := .seq ([] : List Value).toArray }).get? S = some o := Heap.get?_push_of_some _ ho
  have hl0 : (s.heap.push { cls := .type "list", data := .seq ([] : List Value).toArray }).get? s.heap.objs.size = some { cls := .type "list", data := .seq ([] : List Value).toArray } := Heap.get?_push_size _ rfl
  have hsz : (s.heap.push { cls := .type "list", data := .seq ([] : List Value).toArray }).objs.size = s.heap.objs.size + 1 := Heap.size_push _ _
  have hSl : S < s.heap.objs.size := Heap.lt_size ho
  have hlen : es.size <= sizeLine := fits_of_scanBound hb
  refine collect_set ⟨o, ho, hex.1⟩ (iter_set ho0 hex hd hf hb (fun hq => ?_) fun hq ps d hps => ?_)
  . have hled' : ∃ us sl, Led P w o S ep us sl /\ us.Perm (es.toList.map (·.2)) := by
      cases hw : w.params.followText "set-order"
      . have hl1 : t.led = true := by rw [hled]; simp [hw]
        rw [hw] at hq
        have hn : es.size <= 1 := by
          rcases Nat.lt_or_ge 1 es.size with z | z
          . rw [hpl (by omega)] at hq
            simp at hq
            omega
          . exact z
        rcases Nat.lt_or_ge 0 es.size with z | z
        . obtain ⟨e0, e1⟩ := List.length_eq_one_iff.mp (show es.toList.length = 1 by rw [Array.length_toList]; omega)
          obtain rfl : es = #[e0] := Array.toList_inj.mp e1
          exact ⟨_, _, led_one hw hd hf hl1, .refl _⟩
        . exact ⟨_, _, led_none hw hd hf hl1 (by omega), .refl _⟩
      . exact ⟨_, _, led_text hw hd hf, (pick_perm _ _).map _⟩
    obtain ⟨us, sl, L, hpu⟩ := hled'
    obtain ⟨zs', hs', hz'⟩ := strs_perm (hpu.trans hp) hs
    have hul : us.length <= sizeLine := by rw [hpu.length_eq, List.length_map, Array.length_toList]; exact hlen
    refine ⟨_, rfl, ⟨o, Heap.get?_push_of_some _ ho0, hex.1⟩, Heap.get?_push_of_some _ hl0, fun h' c k g => ?_⟩
    refine loop_walk (walk_led (I := (s.heap.push { cls := .type "list", data := .seq ([] : List Value).toArray }).objs.size) L (by simp [hh]) hd hf (by rw [hsz]; exact Nat.ne_of_lt (Nat.lt_succ_of_lt hSl))) hul ⟨?_, ?_⟩ ?_ g fun s' c' kk g1 g2 g3 => ⟨_, _, rfl, g3, h s' us zs' (fun b o' e => ?_) g1 g2 (Heap.lt_size g3) hs' hz'⟩
    . rw [L.zero]
      exact k _ _ (by rw [hsz]; exact Nat.succ_ne_self _) (Heap.get?_push_size _ rfl)
    . exact k _ _ (Nat.ne_of_lt hSl) (Heap.get?_push_of_some _ ho0)
    . rw [hsz]
      intro z
      rcases List.mem_cons.mp z with z | z
      . exact absurd z (Nat.ne_of_lt (Nat.lt_succ_self _))
      . exact absurd (List.mem_singleton.mp z) (Nat.ne_of_gt hSl)
    . have hbl := Heap.lt_size e
      exact kk b o' (Nat.ne_of_lt hbl) (by rw [hsz]; exact Nat.ne_of_lt (Nat.lt_succ_of_lt hbl)) (k b o' (Nat.ne_of_lt hbl) (Heap.get?_push_of_some _ (Heap.get?_push_of_some _ e)))
  . have hsz2 : ((s.heap.push { cls := .type "list", data := .seq ([] : List Value).toArray }).push { cls := .type "tuple", data := .seq (ps.map fun i : Nat => rawInt i).toArray }).objs.size = s.heap.objs.size + 1 + 1 := by rw [Heap.size_push, hsz]
    have hpu : (ps.map fun p => (es.toList.map (·.2)).getD p .none).Perm (es.toList.map (·.2)) := by
      have q := hps.map fun p => (es.toList.map (·.2)).getD p Value.none
      rw [show es.size = (es.toList.map (·.2)).length by rw [List.length_map, Array.length_toList], range_getD] at q
      exact q
    obtain ⟨zs', hs', hz'⟩ := strs_perm (hpu.trans hp) hs
    have hpl2 : (ps.map fun p => (es.toList.map (·.2)).getD p .none).length = ps.length := List.length_map _
    have hul : ps.length <= sizeLine := by rw [hps.length_eq, List.length_range]; exact hlen
    refine ⟨_, rfl, ⟨o, Heap.get?_push_of_some _ (Heap.get?_push_of_some _ ho0), hex.1⟩, Heap.get?_push_of_some _ (Heap.get?_push_of_some _ hl0), fun h' c k g => ?_⟩
    have W := walk_drawn (P := P) (w := w) (A := A.in1) (I := s.heap.objs.size + 1 + 1) (T := s.heap.objs.size + 1) (n := 0) (by simp [hh]) hd hf hps (Nat.ne_of_lt (Nat.lt_succ_of_lt (Nat.lt_succ_of_lt hSl))) (Nat.ne_of_lt (Nat.lt_succ_self _))
    rw [<- hpl2] at W
    rw [hsz] at k ⊢
    refine loop_walk W (by rw [hpl2]; exact hul) ⟨?_, ?_, ?_⟩ ?_ g fun s' c' kk g1 g2 g3 => ⟨_, _, rfl, g3, h s' _ zs' (fun b o' e => ?_) g1 g2 (Heap.lt_size g3) hs' hz'⟩
    . exact k _ _ (Nat.ne_of_gt (Nat.lt_succ_of_lt (Nat.lt_succ_self _))) (by have q := Heap.get?_push_size ((s.heap.push { cls := .type "list", data := .seq ([] : List Value).toArray }).push { cls := .type "tuple", data := .seq (ps.map fun i : Nat => rawInt i).toArray }) (o := setItO (.ref (s.heap.objs.size + 1)) 0 S es.size ep) rfl; rw [hsz2] at q; exact q)
    . exact k _ _ (Nat.ne_of_lt hSl) (Heap.get?_push_of_some _ (Heap.get?_push_of_some _ ho0))
    . exact k _ _ (Nat.succ_ne_self _) (Heap.get?_push_of_some _ (by have q := Heap.get?_push_size (s.heap.push { cls := .type "list", data := .seq ([] : List Value).toArray }) (o := { cls := .type "tuple", data := .seq (ps.map fun i : Nat => rawInt i).toArray }) rfl; rw [hsz] at q; exact q))
    . intro z
      rcases List.mem_cons.mp z with z | z
      . exact absurd z (Nat.ne_of_lt (Nat.lt_succ_of_lt (Nat.lt_succ_self _)))
      . rcases List.mem_cons.mp z with z | z
        . exact absurd z (Nat.ne_of_gt hSl)
        . exact absurd (List.mem_singleton.mp z) (Nat.ne_of_lt (Nat.lt_succ_self _))
    . have hbl := Heap.lt_size e
      exact kk b o' (Nat.ne_of_lt hbl) (Nat.ne_of_lt (Nat.lt_succ_of_lt (Nat.lt_succ_of_lt hbl))) (k b o' (Nat.ne_of_lt hbl) (Heap.get?_push_of_some _ (Heap.get?_push_of_some _ (Heap.get?_push_of_some _ e))))
end
section
variable {P : Program} {w : World} {A : Around} {E : Value -> Shared -> Prop} {s : Shared} {S : Addr}
theorem sorted_setS {zs : List Str} {Q : Value -> Shared -> Prop} (hh : A.handled = none) (hS : SetS P w (led0 w) s.heap S zs) (h64 : zs.length < 64)
    (h : ∀ s' l vs zs', (∀ b o, s.heap.get? b = some o -> s'.heap.get? b = some o) -> s'.gens = s.gens -> s'.os = s.os -> s.heap.objs.size <= l -> (∃ e, s'.heap.get? l = some (seqObj "list" vs e)) -> StrsAre vs.toList zs' -> zs'.Perm zs -> sortedS zs' = true -> Q (.ref l) s') :
    wpAny (model P w) A (call (.builtin "sorted") [.ref S]) Q E s := by
  refine Calls.call_function_entry kind_sorted plain_sorted entry_sorted (args_sorted1 _) ?_
  unfold Builtin.«sorted»
  refine wpAny_bind (m := checkCount "sorted" 1 1 _) (wpAny_pure ?_)
  refine wpAny_bind (collect_setS (by simp [hh]) hS fun s1 us zs1 k1 g1 o1 z1 hs1 hp1 => ?_)
  have hz : us.length = zs.length := by rw [strs_length hs1, hp1.length_eq]
  refine wpAny_bind (wpAny_newList ?_ (by rw [hz]; have := line63; have : (64 : Nat) <= sizeLine := by rw [sizeLine_eq]; decide
                                          omega))
  have hoL : (s1.heap.push (seqObj "list" us.toArray 0)).get? s1.heap.objs.size = some (seqObj "list" us.toArray 0) := Heap.get?_push_size _ rfl
  refine wpAny_bind (wpAny_holding (wpAny_call_entry slot_list_sort ⟨_, hoL, rfl⟩ entry_list_sort (list_sort_treeK strKind_oneLt hoL hs1.keysOf (fun v₁ v₂ rest e => keyKind_strs (by rw [<- e]; exact hs1)) (by rw [hz]; exact h64) fun st' a1 a2 => ⟨_, rfl, ?_⟩) (args_list_sort _)))
  obtain ⟨ss', b1, b2, b3⟩ := sorted_out_str hs1 a1 a2
  refine wpAny_pure ⟨_, rfl, h _ _ _ ss' (fun b o e => ?_) g1 o1 ?_ (sortedHeap_at hoL) b1 (b2.trans hp1) b3⟩
  . have e1 := k1 b o e
    have hb := Heap.lt_size e1
    rw [sortedHeap_old (Nat.ne_of_lt hb) (by rw [Heap.size_push]; exact Nat.lt_succ_of_lt hb)]
    exact Heap.get?_push_of_some _ e1
  . exact Nat.le_of_lt z1
end
section
variable {X : Cx}
def SetO (P : Program) (w : World) (a : Addr) (zs : List Str) : HO := .ext fun h => SetS P w (led0 w) h a zs
theorem SetS.at_ {P : Program} {w : World} {b : Bool} {h : Heap} {a : Addr} {zs : List Str} (x : SetS P w b h a zs) : ∃ o, h.get? a = some o := let ⟨o, _, _, _, e, _⟩ := x; ⟨o, e⟩
theorem setO_ok {P : Program} {w : World} {H : Hp} {h : Heap} {a : Addr} {zs : List Str} (x : SetS P w (led0 w) h a zs) : ObjOk P w H h a (SetO P w a zs) := ⟨x, x.at_, fun _ _ y k => y.keep fun o e => k o e⟩
theorem call_set_of (hc : X.calm = true) : CallR X (.type "set") (fun xs H Q => ∃ p ys, xs = [.ref p] /\ SqL X.K H p (ys.map V.str) /\ ys.length < 1000 /\ ∀ l, H l = none -> Q (.ref l) (upd H l (SetO X.prog X.w l (firstS ys)))) := by
  intro pins s σ H xs us Q I r h
  obtain ⟨p, ys, rfl, hq, hz, q⟩ := h
  obtain ⟨u, rfl, rx⟩ := vals1 r
  cases rx
  obtain ⟨its, r', pl, hz'⟩ := I.list hq
  have hlen := r'.length
  rw [List.length_map] at hlen
  refine call_setS (P := X.prog) (w := X.w) ?hh pl.isList (strs_vals r') (by rw [List.size_toArray, <- hlen]; unfold scanBound; omega) fun h' tk x k => ?_
  case hh => exact I.ok.hd hc
  exact ⟨.ref s.heap.objs.size, _, I.laid (t' := tk) k (Nat.le_refl _) (setO_ok x), rfl, q _ I.fresh⟩
theorem call_sorted_set (hc : X.calm = true) : CallR X (.builtin "sorted") (fun xs H Q => ∃ p zs, xs = [.ref p] /\ H p = some (SetO X.prog X.w p zs) /\ zs.length < 64 /\ ∀ l zs', H l = none -> zs'.Perm zs -> sortedS zs' = true -> Q (.ref l) (upd H l (.lst (zs'.map V.str)))) := by
  intro pins s σ H xs us Q I r h
  obtain ⟨p, zs, rfl, hq, hz, q⟩ := h
  obtain ⟨u, rfl, rx⟩ := vals1 r
  cases rx
  have hS : SetS X.prog X.w (led0 X.w) s.heap p zs := (I.hok p _ hq).1
  refine sorted_setS ?hh hS hz fun s' l vs zs' k g o hl ⟨e, he⟩ a1 a2 a3 => ?_
  case hh => exact I.ok.hd hc
  have hz2 : (zs'.map V.str).length <= sizeLine := by
    have q : (64 : Nat) <= sizeLine := by rw [sizeLine_eq]; decide
    rw [List.length_map, a2.length_eq]
    omega
  have J : Inv X pins σ (upd H l (.lst (zs'.map V.str))) s' :=
    I.call' (ch := []) o (Un.laid k hl (I.hok.fresh hl)) (I.hok.laid k hl (show ObjOk X.prog X.w _ _ _ (.lst (zs'.map V.str)) from ⟨hz2, vs.toList, e, vals_strs a1, he⟩)) (by rw [g]; exact I.bare) (fun _ z => nomatch z)
  exact ⟨.ref l, _, J, rfl, q _ _ (I.hok.fresh hl) a2 a3⟩
end
section
variable {P : Program} {w : World} {A : Around} {E : Value -> Shared -> Prop} {s : Shared}
theorem sub_tup_set : isSubtype (.type "tuple") (.type "set") = pure false := by rw [isSubtype_type]; kernel_rfl
theorem sub_tup_frozen : isSubtype (.type "tuple") (.type "frozenset") = pure false := by rw [isSubtype_type]; kernel_rfl
set_option maxHeartbeats 8000000 in
theorem init_setT {S l : Addr} {items : Array Value} {ys : List Str} {R : Result -> Shared -> Prop} (hh : A.handled = none) (hS : s.heap.get? S = some (setO w)) (hl : s.heap.IsTuple l items) (hs : StrsAre items.toList ys) (hb : items.size + 1 < scanBound)
    (h : ∀ (h' : Heap) (tk : Nat), SetS P w (led0 w) h' S (firstS ys) -> (∀ b o, b ≠ S -> s.heap.get? b = some o -> h'.get? b = some o) -> R (.ok (.ret .none)) { s with heap := h', toks := tk }) :
    codeAny (model P w) A (.call (.builtin "set.__init__") ⟨[.ref S, .ref l], []⟩) R s := by
  have hT : s.TypeIs (.ref S) "set" := ⟨_, hS, rfl⟩
  refine codeAny_call_builtin PySem.F.called_set.init.plain PySem.F.entry_set_init (check_set_init_1 hT ?_)
  obtain ⟨ol, hol, hcl, nl, hdl⟩ := id hl
  have hne : l ≠ S := fun z => by
    rw [z, hS] at hol
    cases hol
    have y : Value.type "set" = Value.type "tuple" := hcl
    simp at y
  obtain ⟨ocls, odict, odata, oslots⟩ := ol
  obtain rfl : ocls = _ := hcl
  obtain rfl : odata = _ := hdl
  have c1 := sub_tup_set
  have c2 := sub_tup_frozen
  have c3 : (Value.type "tuple" == Value.type "dict") = false := by decide
  unfold Builtin.«set.__init__» noKeywords
  unfold Builtin.Frozenset.updateFrom
  generalize hPI : pyIter = PI
  wp_walk
  subst hPI
  refine wpAny_pyIter_tuple hl (wpAny_bind (wpAny_runValue ?_))
  have hh3 : A.in1.in1.handled = none := by simp [hh]
  have hlt : l < s.heap.objs.size := Heap.lt_size hol
  have hsl : S < s.heap.objs.size := Heap.lt_size hS
  refine loop_setS (led := led0 w) ((Walks.tuple hh3 s.heap.objs.size l (Nat.ne_of_lt hlt) items).toS) S ?hf ys ?hn (fun i v e => strs_at hs i v (by rw [Array.getElem?_toList]; exact e)) hb (items.size - 0) 0 _ rfl (Nat.zero_le _) ⟨⟨_, Heap.get?_push_size _ rfl, rfl, rfl⟩, hl.push _⟩ ?hS0 ?hR
  case hf =>
    simp only [List.mem_cons, List.not_mem_nil, or_false, not_or]
    exact ⟨Nat.ne_of_lt hsl, fun z => hne z.symm⟩
  case hn => rw [<- strs_length hs, Array.length_toList]
  case hS0 => exact setS_new (Heap.get?_push_of_some _ hS)
  case hR =>
    intro s' hm hS'
    obtain ⟨h', g', d', tk', os'⟩ := s'
    obtain rfl : g' = s.gens := hm.gens
    obtain rfl : d' = s.drawn := hm.drawn
    obtain rfl : os' = s.os := hm.os
    refine wpAny_pure (show wpAny _ _ (ret Value.none) _ _ _ from wpAny_pure (h h' tk' hS' fun b o hbS e => ?_))
    refine hm.heap b o (fun z => ?_) (Heap.get?_push_of_some _ e)
    simp only [List.mem_cons, List.not_mem_nil, or_false] at z
    rcases z with z | z
    . exact hbS z
    . exact absurd (Heap.lt_size e) (by rw [z]; exact Nat.lt_irrefl _)
set_option maxHeartbeats 8000000 in
theorem call_setT {l : Addr} {items : Array Value} {ys : List Str} {Q : Value -> Shared -> Prop} (hh : A.handled = none) (hl : s.heap.IsTuple l items) (hs : StrsAre items.toList ys) (hb : items.size + 1 < scanBound)
    (h : ∀ (h' : Heap) (tk : Nat), SetS P w (led0 w) h' s.heap.objs.size (firstS ys) -> (∀ b o, s.heap.get? b = some o -> h'.get? b = some o) -> Q (.ref s.heap.objs.size) { s with heap := h', toks := tk }) :
    wpAny (model P w) A (call (.type "set") [.ref l]) Q E s := by
  obtain ⟨c, tl, hmro⟩ := PySem.F.called_set.mro
  have c1 := PySem.F.called_set.made
  have c2 := PySem.F.called_set.sub
  have c3 := PySem.F.called_set.notType
  have c4 := PySem.F.called_set.canCreate
  have c5 := PySem.F.typeCall_set_1 (.ref l)
  refine wpAny_call (codeAny_of_tree (show wpAny _ _ (callAny (.type "set") _) _ _ _ from wpAny_pure ⟨Code.quiet_builtin _ (by decide +kernel), codeAny_builtin PySem.F.entry_type_call ?_⟩))
  rw [PySem.Around.under_plain (weight_type_call_type "set" [.ref l] []) rfl]
  repeat (any_goals (first | assumption | wp_step))
  refine codeAny_mono (set_new_led (P := P) (E := E) (rest := [.ref l]) (Q₁ := fun obj s₁ => obj = .ref s.heap.objs.size /\ s₁ = { s with heap := s.heap.push (setO w) }) (PySem.F.newCall_set_1 _) ⟨rfl, rfl⟩) fun r s₁ hr => ?_
  cases r with
  | error e => exact hr
  | ok fl =>
    cases fl with
    | ret obj =>
      obtain ⟨rfl, rfl⟩ := hr
      have hS : (s.heap.push (setO w)).get? s.heap.objs.size = some (setO w) := Heap.get?_push_size _ rfl
      have hT : Shared.TypeIs { s with heap := s.heap.push (setO w) } (.ref s.heap.objs.size) "set" := ⟨_, hS, rfl⟩
      have c6 := PySem.F.called_set.init.lookup
      have c7 := PySem.F.called_set.init.bind (.ref s.heap.objs.size)
      repeat (any_goals (first | assumption | wp_step))
      refine init_setT (s := { s with heap := s.heap.push (setO w) }) (by simp [hh]) hS (hl.push _) hs hb fun h' tk x k => ?_
      refine wpAny_pure (wpAny_pure (h h' tk x fun b o e => k b o (Nat.ne_of_lt (Heap.lt_size e)) (Heap.get?_push_of_some _ e)))
    | _ => exact hr.elim
end
section
variable {P : Program} {w : World} {A : Around} {E : Value -> Shared -> Prop} {s : Shared} {S : Addr}
def memK (zs : List Str) : Key -> Bool
  | .inr x => decide (x ∈ zs)
  | .inl _ => false
theorem SetS.setOf {b : Bool} {h : Heap} {a : Addr} {zs : List Str} (x : SetS P w b h a zs) : h.SetOf (mixKind P w) a (memK zs) zs.length := by
  obtain ⟨o, es, ep, t, ho, hex, hd, hel, ⟨us, hp, hs⟩, hnd, hb, hf, _, _⟩ := x
  have hsz : es.size = zs.length := by
    have e1 := hp.length_eq
    rw [List.length_map, Array.length_toList] at e1
    rw [e1]
    exact strs_length hs
  refine ⟨o, es, ep, t, ho, hex, hd, hel, fun k => ?_, hb, hf, hsz⟩
  cases k with
  | inr z =>
    rw [SetS.mem (P := P) (w := w) (led := b) (h := h) (a := a) hp hs z]
    exact decide_eq_true_iff
  | inl z =>
    refine ⟨fun q => Bool.noConfusion (show false = true from q), fun ⟨e, he, q⟩ => ?_⟩
    obtain ⟨y, tk, e2⟩ := hs.all e.2 (hp.mem_iff.mp (List.mem_map_of_mem he))
    rw [e2] at q
    rcases keyIs_shape (k := .inl z) (v := .str y tk) q with ⟨_, _, _, e3⟩ | ⟨_, _, e3, _⟩
    . cases e3
    . cases e3
theorem call_set0 {Q : Value -> Shared -> Prop} (h : Q (.ref s.heap.objs.size) { s with heap := s.heap.push (setO w) }) : wpAny (model P w) A (call (.type "set") []) Q E s := by
  obtain ⟨c, tl, hmro⟩ := PySem.F.called_set.mro
  have c1 := PySem.F.called_set.made
  have c2 := PySem.F.called_set.sub
  have c3 := PySem.F.called_set.notType
  have c4 := PySem.F.called_set.canCreate
  have c5 := PySem.F.typeCall_set_0
  refine wpAny_call (codeAny_of_tree (show wpAny _ _ (callAny (.type "set") _) _ _ _ from wpAny_pure ⟨Code.quiet_builtin _ (by decide +kernel), codeAny_builtin PySem.F.entry_type_call ?_⟩))
  rw [PySem.Around.under_plain (weight_type_call_type "set" [] []) rfl]
  repeat (any_goals (first | assumption | wp_step))
  refine codeAny_mono (set_new_led (P := P) (E := E) (rest := []) (Q₁ := fun obj s₁ => obj = .ref s.heap.objs.size /\ s₁ = { s with heap := s.heap.push (setO w) }) PySem.F.newCall_set_0 ⟨rfl, rfl⟩) fun r s₁ hr => ?_
  cases r with
  | error e => exact hr
  | ok fl =>
    cases fl with
    | ret obj =>
      obtain ⟨rfl, rfl⟩ := hr
      have hS : (s.heap.push (setO w)).get? s.heap.objs.size = some (setO w) := Heap.get?_push_size _ rfl
      have hT : Shared.TypeIs { s with heap := s.heap.push (setO w) } (.ref s.heap.objs.size) "set" := ⟨_, hS, rfl⟩
      have c6 := PySem.F.called_set.init.lookup
      have c7 := PySem.F.called_set.init.bind (.ref s.heap.objs.size)
      repeat (any_goals (first | assumption | wp_step))
      refine codeAny_call_builtin PySem.F.called_set.init.plain PySem.F.entry_set_init (PySem.check_set_init hT ?_)
      unfold Builtin.«set.__init__» noKeywords
      wp_walk
      exact h
    | _ => exact hr.elim
end
section
variable {X : Cx}
theorem call_set_tup (hc : X.calm = true) : CallR X (.type "set") (fun xs H Q => ∃ p ys, xs = [.ref p] /\ SqT X.K H p (ys.map V.str) /\ ys.length < 1000 /\ ∀ l, H l = none -> Q (.ref l) (upd H l (SetO X.prog X.w l (firstS ys)))) := by
  intro pins s σ H xs us Q I r h
  obtain ⟨p, ys, rfl, hq, hz, q⟩ := h
  obtain ⟨u, rfl, rx⟩ := vals1 r
  cases rx
  obtain ⟨its, r', pl, hz'⟩ := I.tuple hq
  have hlen := r'.length
  rw [List.length_map] at hlen
  obtain ⟨o, ho, hc1, n, hd⟩ := pl
  refine call_setT (P := X.prog) (w := X.w) (I.ok.hd hc) ⟨o, ho, hc1, n, hd⟩ (strs_vals r') (by rw [List.size_toArray, <- hlen]; unfold scanBound; omega) fun h' tk x k => ?_
  exact ⟨.ref s.heap.objs.size, _, I.laid (t' := tk) k (Nat.le_refl _) (setO_ok x), rfl, q _ I.fresh⟩
theorem call_set_empty : CallR X (.type "set") (fun xs H Q => xs = [] /\ ∀ l, H l = none -> Q (.ref l) (upd H l (SetO X.prog X.w l []))) := by
  intro pins s σ H xs us Q I r h
  obtain ⟨rfl, q⟩ := h
  cases r
  refine call_set0 ?_
  exact ⟨.ref s.heap.objs.size, _, I.laid (t' := s.toks) (fun b o e => Heap.get?_push_of_some _ e) (Nat.le_refl _) (setO_ok (setS_new (Heap.get?_push_size _ rfl))), rfl, q _ I.fresh⟩
theorem op_in_setS : OpR X (compareOp .In) (fun x y H Q => ∃ z p zs, x = .str z /\ y = .ref p /\ H p = some (SetO X.prog X.w p zs) /\ Q (.bl (decide (z ∈ zs))) H) := by
  intro pins s σ H x y v u Q I rx ry h
  obtain ⟨z, p, zs, rfl, rfl, hH, q⟩ := h
  obtain ⟨t, rfl⟩ := rx
  cases ry
  have hS : SetS X.prog X.w (led0 X.w) s.heap p zs := (I.hok p _ hH).1
  exact wpAny_inSet_of (mixKind_str X.prog X.w z t) rfl hS.setOf ⟨.bl _, H, I.tok _, rfl, q⟩
theorem mt_addS : MtM X "set.add" (fun x vs H Q => ∃ p z zs, x = .ref p /\ vs = [.str z] /\ H p = some (SetO X.prog X.w p zs) /\ zs.length < 1000 /\ Q .non (upd H p (SetO X.prog X.w p (if z ∈ zs then zs else zs ++ [z])))) := by
  intro pins s σ H x vs v us Q I rx rv h
  obtain ⟨p, z, zs, rfl, rfl, hH, hz, q⟩ := h
  cases rx
  obtain ⟨u, rfl, t, rfl⟩ := rv.one
  have hS : SetS X.prog X.w (led0 X.w) s.heap p zs := (I.hok p _ hH).1
  refine wpAny_call_entry PySem.F.slot_set_add hS.setOf.typeIs PySem.F.entry_set_add ?_ (PySem.F.args_set_add_2 _ _)
  refine (show wpAny _ _ (setAdd p (.str z t) >>= fun _ => ret .none) _ _ _ from wpAny_bind (tset_add hS (by unfold scanBound; omega) fun h' hb x => wpAny_pure ⟨_, rfl, ?_⟩))
  refine ⟨.non, _, I.write (t' := s.toks + 1) (by rw [hH]; exact trivial) (.inl rfl) (fun b o' hb' e => (hb.2 b hb').trans e) x.at_ (setO_ok x), rfl, q⟩
end
section
variable {X : Cx} {o e : Expr} {es : List Expr} {to : TE} {t : TA} {name : Str} {apos cpos : Pos} {id : String} {r : V -> List V -> Hp -> VK -> Prop}
def tBMS (P : Program) (w : World) (r : V -> List V -> Hp -> VK -> Prop) (to : TE) (t : TA) : TE := fun σ H Q => to σ H fun x H1 => (∃ p zs, x = .ref p /\ H1 p = some (SetO P w p zs)) /\ t σ H1 fun xs H2 => r x xs H2 Q
theorem pe_bmS (slot : Slot "set" name id) (hty : typeOf (.builtin id) = pure (.type "method_descriptor")) (hm : MtM X id r) (ho : PE X o to) (ha : PA X (e :: es) t)
    (hbase : attributeBase o name X.env (eval o X.env) = eval o X.env := by rfl)
    (hfew : ((backTo cpos (starEach (e :: es) X.env)).all (fun x => !x.1) && (backToKw cpos (keywordEach [] X.env)).all (fun x => x.1.isSome) && decide ((e :: es).length + ([] : List Keyword).length + (if ([] : List Keyword).isEmpty then 0 else 1) < 30)) = true := by rfl)
    (hline : (apos.endLine == cpos.line) = true := by rfl) (hs : starEach (e :: es) X.env = (false, eval e X.env) :: starEach es X.env := by rfl) (hplain : (backTo cpos (starEach es X.env)).any (·.1) = false := by rfl) :
    PE X (.Call (.Attribute o name apos) (e :: es) [] cpos) (tBMS X.prog X.w r to t) := by
  intro pins s σ H Q I h
  refine wpAny_Call_method_late hbase hfew hline rfl (thn (ho pins s σ H _ I h) fun v s1 ⟨x, H1, I1, r1, ⟨p, zs, ep, hH⟩, q1⟩ => ?_)
  subst ep
  cases r1
  have hS : SetS X.prog X.w (led0 X.w) s1.heap p zs := (I1.hok p _ hH).1
  refine ⟨"set", id, PySem.F.plainAttrs_set, slot, hty, hS.setOf.typeIs, hS.setOf.noDict, ?_⟩
  have hA := ha cpos pins s1 σ H1 _ I1 q1
  rw [hs] at hA ⊢
  refine Calls.callWith_builtin (by show (false || (backTo cpos (starEach es X.env)).any (·.1)) = false; rw [hplain] <;> rfl) (Calls.evalArgs_plain (thn hA fun us s2 ⟨vs, H2, I2, r2, q2⟩ => hm pins s2 σ H2 (.ref p) vs _ us Q I2 rfl r2 q2))
example : Slot "set" "add" "set.add" := PySem.F.slot_set_add
example : typeOf (.builtin "set.add") = pure (.type "method_descriptor") := PySem.F.type_set_add
end
theorem notLt_le {a b : Str} (h : (!ltCps b.cps.toList a.cps.toList) = true) : a.cps.toList <= b.cps.toList := by
  rw [ltCps_eq] at h
  simp at h
  exact h
theorem rising_all : ∀ (l : List Str) (p : Str), risingS p l = true -> ∀ x ∈ l, p.cps.toList <= x.cps.toList
  | [], _, _, x, hx => nomatch hx
  | y :: l, p, h, x, hx => by
    obtain ⟨h1, h2⟩ := Bool.and_eq_true_iff.mp h
    have q := notLt_le h1
    rcases List.mem_cons.mp hx with rfl | hx
    . exact q
    . exact List.le_trans q (rising_all l y h2 x hx)
theorem rising_pair : ∀ (l : List Str) (p : Str), risingS p l = true -> (p :: l).Pairwise fun a b => a.cps.toList <= b.cps.toList
  | [], _, _ => .cons (fun _ z => nomatch z) .nil
  | y :: l, p, h => .cons (rising_all _ p h) (rising_pair l y (Bool.and_eq_true_iff.mp h).2)
theorem sorted_pair : ∀ (l : List Str), sortedS l = true -> l.Pairwise fun a b => a.cps.toList <= b.cps.toList
  | [], _ => .nil
  | p :: l, h => rising_pair l p h
theorem sorted_same {a b : List Str} (hp : a.Perm b) (ha : sortedS a = true) (hb : sortedS b = true) : a = b := by
  refine hp.eq_of_pairwise (le := fun a b => a.cps.toList <= b.cps.toList) (fun x y _ _ h1 h2 => ?_) (sorted_pair a ha) (sorted_pair b hb)
  have q : x.cps.toList = y.cps.toList := List.le_antisymm h1 h2
  cases x
  cases y
  exact congrArg _ (Array.toList_inj.mp q)
section
variable {κ : Type} [DecidableEq κ]
def valV (kvs : List (κ × V)) (k : κ) : Option V := (kvs.find? fun kv => decide (kv.1 = k)).map (·.2)
def putK (kvs : List (κ × V)) (k : κ) (v : V) : List (κ × V) :=
  if (kvs.any fun kv => decide (kv.1 = k)) = true then kvs.map (fun kv => if kv.1 = k then (kv.1, v) else kv) else kvs ++ [(k, v)]
theorem valV_pos {p : κ × V} {r : List (κ × V)} {k : κ} (e : p.1 = k) : valV (p :: r) k = some p.2 := by simp [valV, List.find?_cons, e]
theorem valV_neg {p : κ × V} {r : List (κ × V)} {k : κ} (e : ¬ p.1 = k) : valV (p :: r) k = valV r k := by simp [valV, List.find?_cons, e]
theorem valV_any (k : κ) : ∀ kvs : List (κ × V), (kvs.any fun kv => decide (kv.1 = k)) = (valV kvs k).isSome
  | [] => rfl
  | p :: r => by
    rw [List.any_cons]
    by_cases e : p.1 = k
    . simp only [valV_pos e, decide_eq_true e, Bool.true_or, Option.isSome_some]
    . rw [valV_neg e, decide_eq_false e, Bool.false_or]; exact valV_any k r
theorem valV_map (k j : κ) (y : V) : ∀ kvs : List (κ × V), valV (kvs.map fun kv => if kv.1 = k then (kv.1, y) else kv) j = (valV kvs j).map fun x => if j = k then y else x
  | [] => rfl
  | p :: r => by
    have ih := valV_map k j y r
    rw [List.map_cons]
    by_cases h : p.1 = k
    . rw [if_pos h]
      by_cases e : p.1 = j
      . rw [valV_pos (p := (p.1, y)) e, valV_pos e, Option.map_some, if_pos (e.symm.trans h)]
      . rw [valV_neg (p := (p.1, y)) e, valV_neg e, ih]
    . rw [if_neg h]
      by_cases e : p.1 = j
      . rw [valV_pos (p := p) e, valV_pos e, Option.map_some, if_neg (fun z => h (e.trans z))]
      . rw [valV_neg (p := p) e, valV_neg e, ih]
theorem valV_snoc (k j : κ) (y : V) : ∀ kvs : List (κ × V), valV kvs k = none -> valV (kvs ++ [(k, y)]) j = if j = k then some y else valV kvs j
  | [], _ => by
    by_cases e : k = j
    . rw [if_pos e.symm]; exact valV_pos (p := (k, y)) e
    . rw [if_neg (fun z => e z.symm)]; exact valV_neg (p := (k, y)) e
  | p :: r, hn => by
    rw [List.cons_append]
    have hk : ¬ p.1 = k := fun z => by rw [valV_pos z] at hn; cases hn
    rw [valV_neg hk] at hn
    have ih := valV_snoc k j y r hn
    by_cases e : p.1 = j
    . rw [valV_pos e, valV_pos e, if_neg (fun z => hk (e.trans z))]
    . rw [valV_neg e, valV_neg e, ih]
theorem valV_put (kvs : List (κ × V)) (k j : κ) (y : V) : valV (putK kvs k y) j = if j = k then some y else valV kvs j := by
  unfold putK
  by_cases a : (kvs.any fun kv => decide (kv.1 = k)) = true
  . rw [if_pos a, valV_map]
    rw [valV_any] at a
    by_cases e : j = k
    . obtain ⟨x, hx⟩ := Option.isSome_iff_exists.mp a
      rw [if_pos e, e, hx, Option.map_some, if_pos rfl]
    . rw [if_neg e]
      cases valV kvs j with
      | none => rfl
      | some x => rw [Option.map_some, if_neg e]
  . rw [if_neg a]
    refine valV_snoc k j y kvs ?_
    rw [valV_any] at a
    cases q : valV kvs k with
    | none => rfl
    | some x => rw [q] at a; exact (a rfl).elim
theorem length_putK (kvs : List (κ × V)) (k : κ) (v : V) : (putK kvs k v).length <= kvs.length + 1 := by
  unfold putK
  split
  . rw [List.length_map]; omega
  . rw [List.length_append, List.length_cons, List.length_nil]; omega
theorem RelO.isSome_eq {o : Option V} {u : Option Value} (r : RelO o u) : o.isSome = u.isSome := by
  cases o with
  | none => cases u with
    | none => rfl
    | some _ => exact (show False from r).elim
  | some _ => cases u with
    | none => exact (show False from r).elim
    | some _ => rfl
theorem KV.val {kvs : List (κ × V)} {vs : List (κ × Value)} (r : KV kvs vs) (k : κ) : RelO (valV kvs k) (valueAt vs k) := by
  unfold KV at r
  induction r with
  | nil => exact True.intro
  | @cons p q ps qs h t ih =>
    obtain ⟨h1, h2⟩ := h
    by_cases e : p.1 = k
    . have e' : q.1 = k := h1.symm.trans e
      have b : valueAt (q :: qs) k = some q.2 := by simp [valueAt, List.find?_cons, e']
      rw [valV_pos e, b]; exact h2
    . have e' : ¬ q.1 = k := fun z => e (h1.trans z)
      have b : valueAt (q :: qs) k = valueAt qs k := by simp [valueAt, List.find?_cons, e']
      rw [valV_neg e, b]; exact ih
theorem KV.any {kvs : List (κ × V)} {vs : List (κ × Value)} (r : KV kvs vs) (k : κ) : (kvs.any fun kv => decide (kv.1 = k)) = vs.any fun kv => decide (kv.1 = k) := by
  unfold KV at r
  induction r with
  | nil => rfl
  | cons h t ih => rw [List.any_cons, List.any_cons, ih, h.1]
theorem KV.repl {kvs : List (κ × V)} {vs : List (κ × Value)} (r : KV kvs vs) (k : κ) {y : V} {u : Value} (ry : RelV y u) :
    KV (kvs.map fun kv => if kv.1 = k then (kv.1, y) else kv) (vs.map fun kv => if kv.1 = k then (kv.1, u) else kv) := by
  unfold KV at r ⊢
  induction r with
  | nil => exact .nil
  | @cons p q ps qs h t ih =>
    rw [List.map_cons, List.map_cons]
    refine .cons ?_ ih
    obtain ⟨h1, h2⟩ := h
    by_cases e : p.1 = k
    . rw [if_pos e, if_pos (h1.symm.trans e)]; exact ⟨h1, ry⟩
    . rw [if_neg e, if_neg (fun z => e (h1.trans z))]; exact ⟨h1, h2⟩
theorem KV.put {kvs : List (κ × V)} {vs : List (κ × Value)} (r : KV kvs vs) (k : κ) {y : V} {u : Value} (ry : RelV y u) : KV (putK kvs k y) (stored vs k u) := by
  unfold putK stored
  rw [r.any k]
  by_cases e : (vs.any fun kv => decide (kv.1 = k)) = true
  . rw [if_pos e, if_pos e]; exact r.repl k ry
  . rw [if_neg e, if_neg e]; exact Paired.snoc r ⟨rfl, ry⟩
theorem KV.length {kvs : List (κ × V)} {vs : List (κ × Value)} (r : KV kvs vs) : kvs.length = vs.length := Paired.length r
end
theorem kV_is {P : Program} {w : World} {k : Key} {u : Value} (r : RelV (kV k) u) : (mixKind P w).is k u = true := by
  cases k with
  | inl i => obtain ⟨t, e⟩ := (show ∃ t, u = Value.int i t from r); subst e; exact mixKind_int P w i t
  | inr x => obtain ⟨t, e⟩ := (show ∃ t, u = Value.str x t from r); subst e; exact mixKind_str P w x t
theorem items_are {P : Program} {w : World} : ∀ {ks : List Key} {us : List Value}, Vals (ks.map kV) us -> ItemsAre (mixKind P w) ks us
  | [], _, r => by rw [List.map_nil] at r; cases r; exact .nil
  | k :: ks, _, r => by
    rw [List.map_cons] at r
    cases r with
    | cons h t => exact .cons (kV_is h) (items_are t)
abbrev KT (H : Hp) : List (List Key × V) -> List (List Key × Addr × Value) -> Prop := Paired fun p q => p.1 = q.1 /\ H q.2.1 = some (.tup (p.1.map kV)) /\ RelV p.2 q.2.2
theorem KT.val {H : Hp} {kvs : List (List Key × V)} {xs : List (List Key × Addr × Value)} (r : KT H kvs xs) (k : List Key) : RelO (valV kvs k) ((atKey xs k).map (·.2)) := by
  induction r with
  | nil => exact True.intro
  | @cons p q ps qs h t ih =>
    obtain ⟨h1, _, h2⟩ := h
    by_cases e : p.1 = k
    . have e' : q.1 = k := h1.symm.trans e
      have b : atKey (q :: qs) k = some q.2 := by simp [atKey, List.find?_cons, e']
      rw [valV_pos e, b]; exact h2
    . have e' : ¬ q.1 = k := fun z => e (h1.trans z)
      have b : atKey (q :: qs) k = atKey qs k := by simp [atKey, List.find?_cons, e']
      rw [valV_neg e, b]; exact ih
section
variable {P : Program} {w : World} {H : Hp} {h : Heap} {a : Addr}
theorem rd_of {u : HO} (ok : HOk P w H h) (e : Rd H a u) : ObjOk P w H h a u := e.ok ok
theorem dk_rd {kvs : List (Key × V)} (ok : HOk P w H h) (e : Rd H a (.dK kvs)) : kvs.length <= sizeLine /\ (a == sysModules) = false /\ ∃ vs, KV kvs vs /\ h.DictOf (mixKind P w) a vs :=
  show ObjOk P w H h a (.dK kvs) from rd_of ok e
theorem dk_of {kvs : List (Key × V)} (ok : HOk P w H h) (e : H a = some (.dK kvs)) : kvs.length <= sizeLine /\ (a == sysModules) = false /\ ∃ vs, KV kvs vs /\ h.DictOf (mixKind P w) a vs := dk_rd ok (.inl e)
theorem key_of {ks : List Key} (ok : HOk P w H h) (e : H a = some (.tup (ks.map kV))) : (tupleKind (mixKind P w)).is h ks a := by
  obtain ⟨_, its, r, o, h1, h2, n, h3⟩ := (show ObjOk P w H h a (.tup (ks.map kV)) from ok a _ e)
  exact ⟨o, its.toArray, n, h1, h2, h3, by simpa using items_are r⟩
theorem dt_rd {kvs : List (List Key × V)} (ok : HOk P w H h) (e : Rd H a (.dT kvs)) : kvs.length <= sizeLine /\ (a == sysModules) = false /\
    ∃ xs, KT H kvs xs /\ h.DictOfH (tupleKind (mixKind P w)) a xs := by
  obtain ⟨z, y, xs, r, o, es, ep, h1, h2, h3, h4, h5⟩ := (show ObjOk P w H h a (.dT kvs) from rd_of ok e)
  refine ⟨z, y, xs, r, o, es, ep, h1, h2, h3, h4, fun x hx => ?_, h5⟩
  have all : ∀ {l : List (List Key × V)} {m : List (List Key × Addr × Value)}, KT H l m -> ∀ x ∈ m, (tupleKind (mixKind P w)).is h x.1 x.2.1 := by
    intro l m q
    induction q with
    | nil => intro x hx; exact nomatch hx
    | @cons p q ps qs hq t ih =>
      intro x hx
      rcases List.mem_cons.mp hx with e | hx
      . subst e
        exact key_of ok (by rw [<- hq.1]; exact hq.2.1)
      . exact ih x hx
  exact all r x hx
end
def DGet (H : Hp) (a : Addr) (y : V) (r : Option V) : Prop :=
  (∃ kvs k, Rd H a (.dK kvs) /\ y = kV k /\ r = valV kvs k) \/ ∃ kvs k b, Rd H a (.dT kvs) /\ y = .ref b /\ H b = some (.tup (k.map kV)) /\ r = valV kvs k
theorem DGet.k {H : Hp} {a : Addr} {kvs : List (Key × V)} {k : Key} (e : H a = some (.dK kvs)) : DGet H a (kV k) (valV kvs k) := .inl ⟨kvs, k, .inl e, rfl, rfl⟩
section
variable {X : Cx} {pins : List (Addr × Obj)} {σ : St} {H : Hp} {s : Shared} {a : Addr} {y v : V} {u r : Value} {o : Option V} {A : Around} {E : Value -> Shared -> Prop}
theorem Inv.big (I : Inv X pins σ H s) : sysModules < s.heap.objs.size := by
  have h : mainGlobals < s.heap.objs.size := (I.mod.glob.keeps I.bk).lt
  exact Nat.lt_trans (by decide) h
theorem d_getItem {Q : Value -> Shared -> Prop} (hu : A.units + 1 < cLine) (I : Inv X pins σ H s) (g : DGet H a y (some v)) (ry : RelV y u) (h : ∀ w' s', Inv X pins σ H s' -> RelV v w' -> Q w' s') :
    wpAny (model X.prog X.w) A (getItem (.ref a) u) Q E s := by
  rcases g with ⟨kvs, k, e, ey, l⟩ | ⟨kvs, k, b, e, ey, eb, l⟩
  . subst ey
    obtain ⟨z, hd, vs, rel, dd⟩ := dk_rd I.hok e
    obtain ⟨w', hw, rw'⟩ := RelO.some_of (v := v) (o := valueAt vs k) (by rw [l]; exact rel.val k)
    exact wpAny_getItem_of (kV_is ry) dd.mapOf hw (h w' _ (I.tok _) rw')
  . subst ey
    cases (show u = Value.ref b from ry)
    obtain ⟨z, hd, xs, rel, dd⟩ := dt_rd I.hok e
    obtain ⟨w', hw, rw'⟩ := RelO.some_of (v := v) (o := (atKey xs k).map (·.2)) (by rw [l]; exact rel.val k)
    obtain ⟨p, hp, hp2⟩ := Option.map_eq_some_iff.mp hw
    refine wpAny_getItem_heap (tupleKind_room_in1 hu) (key_of I.hok eb) dd hp ?_
    rw [hp2]
    exact h w' _ (I.tok _) rw'
theorem d_notIn {Q : Value -> Shared -> Prop} (hu : A.units + 1 < cLine) (I : Inv X pins σ H s) (g : DGet H a y o) (ry : RelV y u) (h : ∀ s', Inv X pins σ H s' -> Q (.bool (!o.isSome)) s') :
    wpAny (model X.prog X.w) A (compareOp .NotIn u (.ref a)) Q E s := by
  rcases g with ⟨kvs, k, e, ey, l⟩ | ⟨kvs, k, b, e, ey, eb, l⟩
  . subst ey
    obtain ⟨z, hd, vs, rel, dd⟩ := dk_rd I.hok e
    refine wpAny_notIn_of (kV_is ry) hd dd.mapOf ?_
    rw [<- (rel.val k).isSome_eq, <- l]
    exact h _ (I.tok _)
  . subst ey
    cases (show u = Value.ref b from ry)
    obtain ⟨z, hd, xs, rel, dd⟩ := dt_rd I.hok e
    refine wpAny_notIn_heap (tupleKind_room_in1 hu) (key_of I.hok eb) hd dd ?_
    have q := (rel.val k).isSome_eq
    rw [Option.isSome_map] at q
    rw [<- q, <- l]
    exact h _ (I.tok _)
theorem d_write {h' : Heap} {t' : Nat} {ob : HO} (I : Inv X pins σ H s) (mu : Mut (H a)) (hs : Heap.SameBut a s.heap h') (he : ∃ q, h'.get? a = some q) (new : ObjOk X.prog X.w (upd H a ob) h' a ob) :
    Inv X pins σ (upd H a ob) { s with heap := h', toks := t' } :=
  I.write (x := a) (e := a) mu (.inl rfl) (fun b q hb z => (hs.2 b hb).trans z) he new
theorem dk_new {P : Program} {w : World} {H' : Hp} {h' : Heap} {kvs : List (Key × V)} {vs : List (Key × Value)} (z : kvs.length <= sizeLine) (hd : (a == sysModules) = false) (rel : KV kvs vs) (dd : h'.DictOf (mixKind P w) a vs) :
    ObjOk P w H' h' a (.dK kvs) := ⟨z, hd, vs, rel, dd⟩
end
section
variable {X : Cx} {pins : List (Addr × Obj)} {σ : St} {H : Hp} {s : Shared} {a : Addr} {kvs : List (Key × V)} {k : Key} {u : Value} {A : Around} {E : Value -> Shared -> Prop}
end
def NoSl (i : Expr) : Prop := ∀ ov iv, subscripted i false ov iv = operate [ov, iv] (getItem ov iv)
theorem subD_of {prog : Program} {w : World} {A : Around} {E : Value -> Shared -> Prop} {s : Shared} {env : Env} {value slice : Expr} {pos : Pos} {T id : String} {Q : Value -> Shared -> Prop}
    (hl : typeLookup (.type T) "__getitem__" = pure (some (.builtin id))) (hs : NoSl slice)
    (h : wpAny (model prog w) A (eval value env) (fun o s₁ => wpAny (model prog w) A (eval slice env) (fun i s₂ => s₂.TypeIs o T /\ wpAny (model prog w) A (getItem o i) Q E s₂) E s₁) E s) :
    wpAny (model prog w) A (eval (.Subscript value slice pos) env) Q E s := by
  refine Subscript_ (wpAny_mono h (fun o s₁ h₁ => wpAny_mono h₁ (fun i s₂ h₂ => ?_) fun _ _ x => x) fun _ _ x => x)
  obtain ⟨hT, h₂⟩ := h₂
  unfold subscriptTail
  refine wpAny_bind ?_
  rw [getitemInPython_of_ne hT.not_modules]
  refine wpAny_bind (wpAny_specialOf hT hl ?_)
  have fin : wpAny (model prog w) A (subscripted slice false o i) (fun r s₃ => wpAny (model prog w) A (letTemporaryGo value o r >>= fun _ => pure r) Q E s₃) E s₂ := by
    rw [hs o i]
    exact wpAny_operating (wpAny_mono h₂ (fun r s₃ h₃ => wpAny_bind (wpAny_letTemporaryGo (wpAny_pure h₃))) fun _ _ x => x)
  first
    | exact wpAny_pure (wpAny_bind fin)
    | exact wpAny_bind (wpAny_pure (wpAny_bind fin))
    | exact wpAny_bind fin
theorem dict_typeIs {X : Cx} {pins : List (Addr × Obj)} {σ : St} {H : Hp} {s : Shared} {a : Addr} {y : V} {o : Option V} (I : Inv X pins σ H s) (g : DGet H a y o) : s.TypeIs (.ref a) "dict" := by
  rcases g with ⟨kvs, k, e, _, _⟩ | ⟨kvs, k, b, e, _, _, _⟩
  . obtain ⟨_, _, vs, _, dd⟩ := dk_rd I.hok e
    exact dd.typeIs
  . obtain ⟨_, _, xs, _, dd⟩ := dt_rd I.hok e
    exact dd.typeIs
def tDGet (td ty : TE) : TE := fun σ H Q => td σ H fun x H1 => ty σ H1 fun y H2 => ∃ a v, x = .ref a /\ DGet H2 a y (some v) /\ Q v H2
def tDNotIn (ty td : TE) : TE := fun σ H Q => ty σ H fun y H1 => td σ H1 fun x H2 => ∃ a o, x = .ref a /\ DGet H2 a y o /\ Q (.bl (!o.isSome)) H2
section
variable {X : Cx} {o i e value : Expr} {pos pos' tpos : Pos} {td ty tv : TE}
theorem pe_dget (hu : X.A.units + 1 < cLine) (ho : PE X o td) (hi : PE X i ty) (hs : NoSl i) : PE X (.Subscript o i pos) (tDGet td ty) := by
  intro pins s σ H Q I h
  refine subD_of PySem.F.slot_dict_getitem.lookup hs (thn (ho pins s σ H _ I h) fun u s1 ⟨x, H1, I1, rx, q1⟩ => thn (hi pins s1 σ H1 _ I1 q1) fun iv s2 ⟨y, H2, I2, ry, a, v, ex, g, q2⟩ => ?_)
  subst ex
  obtain rfl : u = Value.ref a := rx
  exact ⟨dict_typeIs I2 g, d_getItem hu I2 g ry fun w' s3 I3 rw' => ⟨v, H2, I3, rw', q2⟩⟩
theorem pc_dnotin (hu : X.A.units + 1 < cLine) (hi : PE X i ty) (ho : PE X o td) : PC X .NotIn i o (tDNotIn ty td) := by
  intro pins s σ H Q I h
  refine thn (hi pins s σ H _ I h) fun iv s1 ⟨y, H1, I1, ry, q1⟩ => thn (ho pins s1 σ H1 _ I1 q1) fun u s2 ⟨x, H2, I2, rx, a, ov, ex, g, q2⟩ => ?_
  subst ex
  obtain rfl : u = Value.ref a := rx
  exact d_notIn hu I2 g ry fun s3 I3 => ⟨.bl (!ov.isSome), H2, I3, rfl, q2⟩
end
theorem dk_empty {P : Program} {w : World} {H : Hp} (h : Heap) (hb : sysModules < h.objs.size) : ObjOk P w H (h.push { cls := .type "dict", data := .dict #[] }) h.objs.size (.dK []) :=
  ⟨Nat.zero_le _, beq_eq_false_iff_ne.mpr (Ne.symm (Nat.ne_of_lt hb)), [], .nil, Heap.DictOf.new h⟩
section
variable {X : Cx} {pos : Pos}
end
section
variable {X : Cx} {pins : List (Addr × Obj)} {σ : St} {H : Hp} {s : Shared} {a : Addr} {y d : V} {u r : Value} {o : Option V} {A : Around} {E : Value -> Shared -> Prop}
end
section
variable {X : Cx} {o e f : Expr} {apos cpos : Pos} {td ty tx : TE}
end
section
variable {X : Cx} {pins : List (Addr × Obj)} {σ : St} {H : Hp} {s : Shared} {a : Addr} {kvs : List (Key × V)} {A : Around} {E : Value -> Shared -> Prop}
end
section
variable {X : Cx} {pins : List (Addr × Obj)} {σ : St} {H : Hp} {s : Shared} {a : Addr} {y : V} {u : Value} {A : Around} {E : Value -> Shared -> Prop}
end
abbrev TM := St -> Hp -> (St -> Hp -> Prop) -> Prop
def PM (X : Cx) (emit : Sem Unit) (t : TM) : Prop :=
  ∀ (pins : List (Addr × Obj)) (s : Shared) (σ : St) (H : Hp) (Q : St -> Hp -> Prop), Inv X pins σ H s -> t σ H Q ->
    wpAny (model X.prog X.w) X.A emit (fun _ s' => ∃ σ' H', Inv X pins σ' H' s' /\ Q σ' H') (fun _ _ => False) s
def PB (X : Cx) (body : Sem Fin) (c : Code) (t : TM) : Prop :=
  ∀ (pins : List (Addr × Obj)) (s : Shared) (σ : St) (H : Hp) (Q : St -> Hp -> Prop), Inv X pins σ H s -> t σ H Q ->
    wpAny (model X.prog X.w) X.A body (fun f s' => f = .again c /\ ∃ σ' H', Inv X pins σ' H' s' /\ Q σ' H') (fun _ _ => False) s
theorem PM.pb {X : Cx} {emit : Sem Unit} {c : Code} {t : TM} (h : PM X emit t) : PB X (emit >>= fun _ => again c) c t := fun pins s σ H Q I q =>
  wpAny_bind (wpAny_mono (h pins s σ H Q I q) (fun _ s' h' => wpAny_pure ⟨rfl, h'⟩) fun _ _ z => z)
def LoopG (J : It) (g : TG) (tc : TT) (tm : TM) (Q : St -> Hp -> Prop) (σ0 : St) (H1 : Hp) : Prop := ∃ W : Nat -> Nat -> St -> Hp -> Prop, (∃ m, W 0 m σ0 H1) /\
  ∀ i m σ H, W i m σ H -> (J.stop i H /\ Q σ H) \/ (J.go i H /\ ∃ N : St -> Hp -> Prop, (∀ σ' H', N σ' H' -> ∃ m', m' < m /\ W (i + 1) m' σ' H') /\
    ∀ x H', J.yld i H x H' -> g x σ H' fun σ2 H2 => tc σ2 H2 fun b H3 => if b = true then tm σ2 H3 N else N σ2 H3)
def tEmit (D : Addr) (te : TE) : TM := fun σ H Q => te σ H fun v H4 => ∃ ys, H4 D = some (.lst ys) /\ ys.length < sizeLine /\ Q σ (upd H4 D (.lst (ys ++ [v])))
def tEmitD (D : Addr) (tk tv : TE) : TM := fun σ H Q => tk σ H fun y H4 => tv σ H4 fun v H5 => ∃ kvs k, y = kV k /\ H5 D = some (.dK kvs) /\ kvs.length < sizeLine /\ Q σ (upd H5 D (.dK (putK kvs k v)))
def tNest (wi : TI) (g : TG) (tc : TT) (tm : TM) : TM := fun σ H Q => wi σ H fun J H1 => LoopG J g tc tm Q σ H1
abbrev tests (ifs : List Expr) (env : Env) : Sem Bool := forIn ifs true fun c r => if r = true then do let ok <- isTrue c env (eval c env); pure (ForInStep.yield ok) else pure (ForInStep.yield r)
def turnG (e : Expr) (depth : Nat) (tg : Expr) (ifs : List Expr) (p : Pos) (body : Sem Fin) (it acc : Value) (env : Env) : Sem Fin := do
  standAt p
  match <- pyNext it with
  | none => pure (.done .next)
  | some v =>
    letOwnedTupleGo tg it v
    assign tg env v
    let mut ok := true
    for c in ifs do
      if ok then ok <- isTrue c env (eval c env)
    if ok then body else again (.compLoop e depth it acc env)
section
variable {prog : Program} {w : World} {A : Around} {R : Result -> Shared -> Prop} {s : Shared}
theorem turnG_ok {e tg : Expr} {depth : Nat} {ifs : List Expr} {p : Pos} {body : Sem Fin} {it acc : Value} {env : Env} {n : Nat} {I : Nat -> Shared -> Prop} {R' : Value -> Shared -> Prop}
    (turn : wpAny (model prog w) A (pyNext it) (fun r s₁ => match r with
      | none => R (.ok .next) s₁
      | some v => wpAny (model prog w) A (letOwnedTupleGo tg it v) (fun _ s₁' => wpAny (model prog w) A (assign tg env v) (fun _ s₂ =>
          wpAny (model prog w) A (tests ifs env) (fun ok s₃ =>
            if ok = true then wpAny (model prog w) A body (fun f s₄ => f = .again (.compLoop e depth it acc env) /\ ∃ m, m < n /\ I m s₄) (fun _ _ => False) s₃
            else ∃ m, m < n /\ I m s₃) (fun _ _ => False) s₂) (fun _ _ => False) s₁') (fun _ _ => False) s₁) (fun _ _ => False) s) :
    wpAny (model prog w) A (turnG e depth tg ifs p body it acc env) (fun f s' => match f with
      | .done fl => R (.ok fl) s'
      | .again c => c = .compLoop e depth it acc env /\ ∃ m, m < n /\ I m s') R' s := by
  unfold turnG
  refine wpAny_bind (wpAny_standAt (wpAny_bind (wpAny_mono turn (fun r s₁ h₁ => ?_) fun _ _ h' => h'.elim)))
  cases r with
  | none => exact wpAny_pure h₁
  | some v =>
    refine wpAny_bind (wpAny_mono h₁ (fun _ s₁' h₁' => ?_) fun _ _ h' => h'.elim)
    refine wpAny_bind (wpAny_mono h₁' (fun _ s₂ h₂ => wpAny_bind (wpAny_mono h₂ (fun ok s₃ h₃ => ?_) fun _ _ h' => h'.elim)) fun _ _ h' => h'.elim)
    cases ok with
    | false => exact wpAny_pure ⟨rfl, h₃⟩
    | true => exact wpAny_mono h₃ (fun f s₄ h₄ => by obtain ⟨e1, h₄⟩ := h₄; subst e1; exact ⟨rfl, h₄⟩) fun _ _ h' => h'.elim
end
section
variable {X : Cx}
theorem loopG_code {pins : List (Addr × Obj)} {e tg : Expr} {depth : Nat} {ifs : List Expr} {p : Pos} {body : Sem Fin} {acc : Value} {J : It} {fp : List Addr} {it : Addr} {tn : Nat -> Heap -> Prop} {g : TG} {tc : TT} {tm : TM} {Q : St -> Hp -> Prop} {σ0 : St} {H1 : Hp} {s : Shared} {R : Result -> Shared -> Prop}
    (hxe : X.xe = fun _ _ => False) (hc : X.calm = true) (hq : (Code.compLoop e depth (.ref it) acc X.env).quiet = true)
    (hden : (model X.prog X.w).den (.compLoop e depth (.ref it) acc X.env) = (turnG e depth tg ifs p body (.ref it) acc X.env).onRaise (fun x => do noteFrame x X.env; theTreesLotGoes x)) (hun : X.A.under (.compLoop e depth (.ref it) acc X.env) = X.A)
    (hg : PG X tg g) (hts : PTs X ifs tc) (hm : PB X body (.compLoop e depth (.ref it) acc X.env) tm) (T : Turn X.prog X.w X.K tg J fp it tn) (I : Inv X pins σ0 H1 s) (st : tn 0 s.heap) (f : ∀ b ∈ fp, FpOk X pins H1 b)
    (h : LoopG J g tc tm Q σ0 H1) (hR : ∀ s' σ' H', Inv X pins σ' H' s' -> Q σ' H' -> R (.ok .next) s') : codeAny (model X.prog X.w) X.A (.compLoop e depth (.ref it) acc X.env) R s := by
  obtain ⟨W, ⟨m0, w0⟩, turn⟩ := h
  have stat : ∀ {H' : Hp}, (∀ b ∈ fp, H' b = none) -> ∀ b ∈ fp, FpOk X pins H' b := fun hn b hb => ⟨hn b hb, (f b hb).2⟩
  have no : ∀ (x : Value) (s' : Shared), X.xe x s' -> False := fun x s' z => by rw [hxe] at z; exact z
  refine codeAny_loop hq (fun n s' => ∃ i σ' H', Inv X pins σ' H' s' /\ tn i s'.heap /\ (∀ b ∈ fp, H' b = none) /\ W i n σ' H') (fun n s3 hI => ?_) m0 ⟨0, σ0, H1, I, st, fun b hb => (f b hb).1, w0⟩
  obtain ⟨i, σ3, H3, I3, st3, fr3, w3⟩ := hI
  rw [hden, hun]
  refine wpAny_noted (turnG_ok (I := fun n s' => ∃ i σ' H', Inv X pins σ' H' s' /\ tn i s'.heap /\ (∀ b ∈ fp, H' b = none) /\ W i n σ' H') ?_)
  rcases turn i n σ3 H3 w3 with ⟨stop, qn⟩ | ⟨go, N, hN, step⟩
  . refine thn (T.done X rfl rfl rfl hc i pins s3 σ3 H3 _ I3 (stat fr3) st3 stop) fun r s4 ⟨hr, I4⟩ => ?_
    subst hr
    exact hR _ _ _ I4 qn
  . refine thn (T.item X rfl rfl rfl hc i pins s3 σ3 H3 _ I3 (stat fr3) st3 go) fun r s4 ⟨u, hr, h4⟩ => ?_
    subst hr
    refine thn h4 fun _ s5 ⟨x, H5, I5, r5, y5, st5, fr5⟩ => ?_
    have I5' := I5.pinned (stat fr5) (T.obj _ _ st5)
    have again : ∀ {σ7 : St} {H7 : Hp} {s7 : Shared}, Inv X (pins ++ pinsAt fp s5.heap) σ7 H7 s7 -> N σ7 H7 -> ∃ m, m < n /\ ∃ i σ' H', Inv X pins σ' H' s7 /\ tn i s7.heap /\ (∀ b ∈ fp, H' b = none) /\ W i m σ' H' := fun {σ7 H7 s7} I7 n7 => by
      obtain ⟨m', hm, w7⟩ := hN σ7 H7 n7
      refine ⟨m', hm, i + 1, σ7, H7, I7.unpinned, T.keep _ _ _ st5 fun b hb o e => (I7.pin (b, o) (List.mem_append_right _ (List.mem_append_right _ (mem_pinsAt hb e)))).1, fun b hb => ?_, w7⟩
      obtain ⟨o, e, d⟩ := T.obj _ _ st5 b hb
      exact (I7.pin (b, o) (List.mem_append_right _ (List.mem_append_right _ (mem_pinsAt hb e)))).2.1
    refine wpAny_mono (hg _ s5 σ3 H5 x u _ I5' r5 (step x H5 y5)) (fun _ s6 ⟨σ6, H6, I6, q6⟩ => ?_) no
    refine wpAny_mono (hts _ s6 σ6 H6 _ I6 q6) (fun ok s7 ⟨H7, I7, q7⟩ => ?_) no
    cases ok with
    | false =>
      simp only [Bool.false_eq_true, if_false] at q7 ⊢
      exact again I7 q7
    | true =>
      simp only [if_true] at q7 ⊢
      exact thn (hm _ s7 σ6 H7 _ I7 q7) fun _ s8 ⟨e8, σ8, H8, I8, q8⟩ => ⟨e8, again I8 q8⟩
abbrev emitL (D : Addr) (elt : Expr) (env : Env) : Sem Unit := do let _ <- call (.builtin "list.append") [.ref D, <- eval elt env]
abbrev emitD (D : Addr) (kx vx : Expr) (env : Env) : Sem Unit := do
  let kv <- eval kx env
  let vv <- holding [kv] (eval vx env)
  standAt { kx.pos with endLine := vx.pos.endLine, endCol := vx.pos.endCol }
  holding [kv, vv] (dictSet D kv vv)
abbrev emitN (e : Expr) (depth : Nat) (iter : Expr) (acc : Value) (env : Env) (c : Code) : Sem Fin := do
  let x <- eval iter env
  standAt iter.pos
  let x <- foldedSetIterable iter env x
  let _ <- runOwn (.compStart e depth (<- holding [x] (pyIter x)) acc env) env
  again c
theorem pm_list {D : Addr} {elt : Expr} {te : TE} (hxe : X.xe = fun _ _ => False) (he : PE X elt te) : PM X (emitL D elt X.env) (tEmit D te) := by
  intro pins s σ H Q I h
  have no : ∀ (x : Value) (s' : Shared), X.xe x s' -> False := fun x s' z => by rw [hxe] at z; exact z
  refine wpAny_bind (wpAny_mono (he pins s σ H _ I h) (fun xv s1 ⟨v, H1, I1, r1, ys, hD, hl, q⟩ => ?_) no)
  refine wpAny_bind (wpAny_mono (mt_append pins s1 σ H1 (.ref D) [v] _ [xv] (fun _ H' => H' = upd H1 D (.lst (ys ++ [v]))) I1 rfl (.cons r1 .nil) ⟨D, ys, v, rfl, rfl, hD, hl, rfl⟩) (fun _ s2 ⟨_, H2, I2, _, e2⟩ => ?_) no)
  exact wpAny_pure ⟨σ, H2, I2, by rw [e2]; exact q⟩
theorem pm_dict {D : Addr} {kx vx : Expr} {tk tv : TE} (hxe : X.xe = fun _ _ => False) (hk : PE X kx tk) (hv : PE X vx tv) : PM X (emitD D kx vx X.env) (tEmitD D tk tv) := by
  intro pins s σ H Q I h
  have no : ∀ (x : Value) (s' : Shared), X.xe x s' -> False := fun x s' z => by rw [hxe] at z; exact z
  refine wpAny_bind (wpAny_mono (hk pins s σ H _ I h) (fun kv s1 ⟨y, H1, I1, r1, q1⟩ => ?_) no)
  refine wpAny_bind (wpAny_holding (wpAny_mono (hv pins s1 σ H1 _ I1 q1) (fun vv s2 ⟨v, H2, I2, r2, kvs, k, ey, e, l, q⟩ => ?_) no))
  subst ey
  refine wpAny_bind (wpAny_standAt (wpAny_holding ?_))
  obtain ⟨z, hd, vs, rel, dd⟩ := dk_of I2.hok e
  have hz : vs.length <= sizeLine := by rw [<- rel.length]; exact z
  have hl : (putK kvs k v).length <= sizeLine := by have := length_putK kvs k v; omega
  refine wpAny_dictSet_pairs (hsz := hz) (kV_is r1) dd fun h' dd' hs => ⟨σ, _, ?_, q⟩
  have he : ∃ q, h'.get? D = some q := let ⟨q, _, _, hq, _⟩ := dd'; ⟨q, hq⟩
  exact d_write I2 (by rw [e]; exact True.intro) hs he (dk_new hl hd (rel.put k r2) dd')
theorem pm_nest {elt tg1 it1 tg2 it2 : Expr} {if1 if2 : List Expr} {scope : Scope} {pos : Pos} {D : Addr} {wi : TI} {g : TG} {tc : TT} {te : TE} {c : Code} (hxe : X.xe = fun _ _ => False) (hc : X.calm = true)
    (hi : PI X tg2 it2 wi) (hg : PG X tg2 g) (hts : PTs X if2 tc) (he : PE X elt te) (hs : ∀ x, foldedSetIterable it2 X.env x = pure x) :
    PB X (emitN (.ListComp elt [⟨tg1, it1, if1, 0⟩, ⟨tg2, it2, if2, 0⟩] scope pos) 1 it2 (.ref D) X.env c) c (tNest wi g tc (tEmit D te)) := by
  intro pins s σ H Q I h
  have no : ∀ (x : Value) (s' : Shared), X.xe x s' -> False := fun x s' z => by rw [hxe] at z; exact z
  refine wpAny_bind (wpAny_mono (hi pins s σ H _ I h) (fun v s1 h1 => ?_) no)
  refine wpAny_bind (wpAny_standAt (wpAny_bind ?_))
  rw [hs v]
  refine wpAny_pure (wpAny_bind (wpAny_holding (wpAny_mono h1 (fun itv s2 h2 => ?_) no)))
  obtain ⟨it, fp, tn, J, H2, e, I2, T, st2, f2, q⟩ := h2
  subst e
  have loop : codeAny (model X.prog X.w) X.A (.compLoop (.ListComp elt [⟨tg1, it1, if1, 0⟩, ⟨tg2, it2, if2, 0⟩] scope pos) 1 (.ref it) (.ref D) X.env)
      (fun r s' => match r with | .ok f => (∃ σ' H', Inv X pins σ' H' s' /\ Q σ' H') | .error e => cameBackBy (model X.prog X.w) X.A X.env (fun _ _ => False) e s') s2 := by
    refine loopG_code (p := it2.pos) (body := emitL D elt X.env >>= fun _ => again _) hxe hc rfl rfl rfl hg hts (pm_list hxe he).pb T I2 st2 f2 q fun s' σ' H' I' q' => ?_
    exact ⟨σ', H', I', q'⟩
  refine wpAny_bind (wpAny_runOwn (codeAny_mono (R := fun r s' => match r with | .ok f => (∃ σ' H', Inv X pins σ' H' s' /\ Q σ' H') | .error e => cameBackBy (model X.prog X.w) X.A X.env (fun _ _ => False) e s') ?_ fun r s' hr => ?_))
  . refine codeAny_of_tree ?_
    show wpAny _ X.A ((compStart (.ListComp elt [⟨tg1, it1, if1, 0⟩, ⟨tg2, it2, if2, 0⟩] scope pos) 1 (.ref it) (.ref D) X.env).onRaise (fun x => do noteFrame x X.env; standAt theWindowsPlace)) _ _ s2
    refine wpAny_notedAt ?_
    unfold compStart
    show wpAny _ _ (ask >>= _) _ _ s2
    refine wpAny_bind (wpAny_askSetting (wpAny_ite ?_))
    split
    . first
        | exact wpAny_bind (wpAny_pure (wpAny_pure (And.intro rfl loop)))
        | exact wpAny_pure (And.intro rfl loop)
    . have h' := T.self X.A 0 s2 (fun it' s' => codeAny (model X.prog X.w) X.A (.compLoop (.ListComp elt [⟨tg1, it1, if1, 0⟩, ⟨tg2, it2, if2, 0⟩] scope pos) 1 it' (.ref D) X.env) (fun r s' => match r with | .ok f => (∃ σ' H', Inv X pins σ' H' s' /\ Q σ' H') | .error e => cameBackBy (model X.prog X.w) X.A X.env (fun _ _ => False) e s') s') (fun _ _ => False) st2 loop
      first
        | exact wpAny_bind (wpAny_rule (wpAny_bind (wpAny_standAt (wpAny_bind (wpAny_mono h' (fun it' s' h' => wpAny_pure (And.intro rfl h')) fun _ _ x => x.elim)))))
        | (refine wpAny_bind (wpAny_rule ?_); show wpAny _ _ (standAt it2.pos >>= _) _ _ s2; exact wpAny_bind (wpAny_standAt (wpAny_bind (wpAny_mono h' (fun it' s' h' => wpAny_pure (And.intro rfl h')) fun _ _ x => x.elim))))
  . cases r with
    | error e => exact hr
    | ok fl => exact wpAny_pure ⟨rfl, hr⟩
end
def tComp2 (wi : TI) (n : Nat) (idx : List Nat) (g : TG) (tc : TT) (wi2 : TI) (g2 : TG) (tc2 : TT) (te : TE) : TE := fun σ H Q => wi σ H fun J H1 => ∀ D, H1 D = none -> LoopG J g tc (tNest wi2 g2 tc2 (tEmit D te)) (fun _ H' => Q (.ref D) H') (compSt n idx σ) (upd H1 D (.lst []))
def tDComp (wi : TI) (n : Nat) (idx : List Nat) (g : TG) (tc : TT) (tk tv : TE) : TE := fun σ H Q => wi σ H fun J H1 => ∀ D, H1 D = none -> LoopG J g tc (tEmitD D tk tv) (fun _ H' => Q (.ref D) H') (compSt n idx σ) (upd H1 D (.dK []))
section
variable {X : Cx}
theorem comp_block {e : Expr} {tg : Expr} {scope : Scope} {own fr : List Str} {idx : List Nat} {pins : List (Addr × Obj)} {σ : St} {H2 : Hp} {s2 s3 : Shared} {o0 : HO} {fp : List Addr} {it : Addr} {tn : Nat -> Heap -> Prop} {J : It} {g : TG} {tc : TT} {tm : TM} {Q : VK} {body : Env -> Sem Fin} {ifs : List Expr} {p : Pos}
    (hc : X.calm = true) (S : CompScope own fr scope X.env.scope) (hix : idx.length = fr.length) (hat : ∀ (k : Nat) (x : Str) (j : Nat), fr[k]? = some x -> idx[k]? = some j -> X.N[j]? = some x)
    (T : Turn X.prog X.w X.K tg J fp it tn) (st2 : tn 0 s2.heap) (f2 : ∀ b ∈ fp, FpOk X pins H2 b)
    (hs3 : ∃ o, s3 = { s2 with heap := s2.heap.push o, toks := s2.toks }) (I3 : Inv X pins σ (upd H2 s2.heap.objs.size o0) s3)
    (hg : ∀ C s H pins fp, PG (compCx X scope C (own ++ fr) s H pins fp) tg g) (ht : ∀ C s H pins fp, PTs (compCx X scope C (own ++ fr) s H pins fp) ifs tc)
    (hm : ∀ C s H pins fp, PB (compCx X scope C (own ++ fr) s H pins fp) (body (compCx X scope C (own ++ fr) s H pins fp).env) (.compLoop e 0 (.ref it) (.ref s2.heap.objs.size) (compCx X scope C (own ++ fr) s H pins fp).env) tm)
    (hq : ∀ env, (Code.compLoop e 0 (.ref it) (.ref s2.heap.objs.size) env).quiet = true)
    (hden : ∀ env, (model X.prog X.w).den (.compLoop e 0 (.ref it) (.ref s2.heap.objs.size) env) = (turnG e 0 tg ifs p (body env) (.ref it) (.ref s2.heap.objs.size) env).onRaise (fun x => do noteFrame x env; theTreesLotGoes x))
    (hun : ∀ env, X.A.under (.compLoop e 0 (.ref it) (.ref s2.heap.objs.size) env) = X.A)
    (hst : ∀ env R s, codeAny (model X.prog X.w) X.A (.compLoop e 0 (.ref it) (.ref s2.heap.objs.size) env) R s -> tn 0 s.heap -> codeAny (model X.prog X.w) X.A (.compStart e 0 (.ref it) (.ref s2.heap.objs.size) env) R s)
    (h : LoopG J g tc tm (fun _ H' => Q (.ref s2.heap.objs.size) H') (compSt own.length idx σ) (upd H2 s2.heap.objs.size o0)) {E : Value -> Shared -> Prop} :
    wpAny (model X.prog X.w) X.A (newFunctionEnv scope X.env.globals (closL X.env scope.names []) [] X.env.qual none .none (some X.env)) (fun cenv s₄ =>
      codeAny (model X.prog X.w) X.A (.compStart e 0 (.ref it) (.ref s2.heap.objs.size) { cenv with scope := relabel scope X.env }) (compPost (model X.prog X.w) X.A X.xe none (EP X pins σ Q) (.ref s2.heap.objs.size) cenv.locals) s₄) E s3 := by
  have fpl : ∀ b ∈ fp, b < s2.heap.objs.size := fun b hb => by
    obtain ⟨o, e, _⟩ := T.obj _ _ st2 b hb
    exact Heap.lt_size e
  have f3 : ∀ b ∈ fp, FpOk X pins (upd H2 s2.heap.objs.size o0) b := fun b hb => ⟨by rw [upd_ne (Nat.ne_of_lt (fpl b hb))]; exact (f2 b hb).1, (f2 b hb).2⟩
  obtain ⟨oo, hs3⟩ := hs3
  have hsz : s3.heap.objs.size = s2.heap.objs.size + 1 := by rw [hs3]; exact Heap.size_push _ _
  have st3 : tn 0 s3.heap := T.keep _ _ _ st2 fun b hb o e => by rw [hs3]; exact Heap.get?_push_of_some _ e
  refine wpAny_newFunctionEnv S.nocell (by intro y hy; simp at hy) (fun h4 hn4 hsb4 => ?_) S.kind
  have hk4 : ∀ b o, s3.heap.get? b = some o -> h4.get? b = some o := fun b o e => hsb4.extBut b o (Nat.ne_of_lt (Heap.lt_size e)) (Heap.get?_push_of_some _ e)
  have I4 := comp_start (idx := idx) (tk := s3.toks + ([] : List (Str × Value)).length) S hix hat I3 f3 (fun b hb => by rw [hsz]; exact Nat.lt_succ_of_lt (fpl b hb)) hn4 hk4
  have fpC : ∀ b ∈ fp, FpOk (compCx X scope s3.heap.objs.size (own ++ fr) s3 (upd H2 s2.heap.objs.size o0) pins fp) [] (upd H2 s2.heap.objs.size o0) b := fun b hb => by
    obtain ⟨g0, g1, g2, g3, g4, g5⟩ := f3 b hb
    refine ⟨g0, ?_, fun z => ?_, .inl hb, fun x c e => g4 x c ((closL_sub _ _ x c e).elim id fun z => nomatch z), fun p hp => ?_⟩
    . show b ≠ s3.heap.objs.size
      exact Nat.ne_of_lt (by rw [hsz]; exact Nat.lt_succ_of_lt (fpl b hb))
    . rcases List.mem_cons.mp (I3.stkSub b z) with q | q
      . exact g1 q
      . exact g2 q
    . rcases List.mem_append.mp hp with q | q
      . exact g5 p q
      . exact nomatch q
  have st4 : tn 0 h4 := T.keep _ _ _ st3 fun b _ o e => hk4 b o e
  have loop := loopG_code (X := compCx X scope s3.heap.objs.size (own ++ fr) s3 (upd H2 s2.heap.objs.size o0) pins fp) (e := e) (depth := 0) (p := p) (acc := .ref s2.heap.objs.size) (R := compPost (model X.prog X.w) X.A X.xe none (EP X pins σ Q) (.ref s2.heap.objs.size) s3.heap.objs.size)
    rfl hc (hq _) (hden _) (hun _) (hg _ _ _ _ _) (ht _ _ _ _ _) (hm _ _ _ _ _) T I4 st4 fpC h fun s' σ' H' I' q' => by
      obtain ⟨m6, hn6, _⟩ := id I'.loc
      exact ⟨m6, hn6, fun h' hsb => ⟨.ref s2.heap.objs.size, H', comp_back I3 f3 I' hsb, rfl, q'⟩⟩
  exact hst _ _ _ loop st4
theorem pe_comp2 {elt tg iter tg2 it2 : Expr} {ifs if2 : List Expr} {scope : Scope} {own fr : List Str} {idx : List Nat} {wi : TI} {g : TG} {tc : TT} {wi2 : TI} {g2 : TG} {tc2 : TT} {te : TE} {pos : Pos} (hc : X.calm = true) (S : CompScope own fr scope X.env.scope)
    (hi : PI X tg iter wi) (hg : ∀ C s H pins fp, PG (compCx X scope C (own ++ fr) s H pins fp) tg g) (ht : ∀ C s H pins fp, PTs (compCx X scope C (own ++ fr) s H pins fp) ifs tc)
    (hi2 : ∀ C s H pins fp, PI (compCx X scope C (own ++ fr) s H pins fp) tg2 it2 wi2) (hg2 : ∀ C s H pins fp, PG (compCx X scope C (own ++ fr) s H pins fp) tg2 g2) (ht2 : ∀ C s H pins fp, PTs (compCx X scope C (own ++ fr) s H pins fp) if2 tc2)
    (he : ∀ C s H pins fp, PE (compCx X scope C (own ++ fr) s H pins fp) elt te)
    (hix : idx.length = fr.length := by rfl) (hat : ∀ (k : Nat) (x : Str) (j : Nat), fr[k]? = some x -> idx[k]? = some j -> X.N[j]? = some x)
    (hs : ∀ x, foldedSetIterable iter X.env x = pure x := by intro _; rfl) (hs2 : ∀ env x, foldedSetIterable it2 env x = pure x := by intro _ _; rfl) :
    PE X (.ListComp elt [⟨tg, iter, ifs, 0⟩, ⟨tg2, it2, if2, 0⟩] scope pos) (tComp2 wi own.length idx g tc wi2 g2 tc2 te) := by
  intro pins s σ H Q I h
  rw [eval_ListComp]
  have hclos : closureFor scope X.env = pure (closL X.env scope.names []) := clos_eq fun x hx hfree => I.ok.has x.1 (S.outs x hx hfree)
  refine wpAny_comprehension_free (use := none) rfl hs hclos S.kind S.names (thn (hi pins s σ H _ I h) fun v s1 h1 => thn h1 fun itv s2 h2 => ?_)
  obtain ⟨it, fp, tn, J, H2, e, I2, T, st2, f2, h2⟩ := h2
  subst e
  refine wpAny_newObj_type ?_
  exact comp_block (o0 := .lst []) (p := iter.pos) (body := fun env => emitN (.ListComp elt [⟨tg, iter, ifs, 0⟩, ⟨tg2, it2, if2, 0⟩] scope pos) 1 it2 (.ref s2.heap.objs.size) env (.compLoop (.ListComp elt [⟨tg, iter, ifs, 0⟩, ⟨tg2, it2, if2, 0⟩] scope pos) 0 (.ref it) (.ref s2.heap.objs.size) env)) hc S hix hat T st2 f2 ⟨_, rfl⟩ (I2.lnew (t' := s2.toks) .nil (Nat.zero_le _)) hg ht
    (fun C s H pins fp => pm_nest rfl hc (hi2 C s H pins fp) (hg2 C s H pins fp) (ht2 C s H pins fp) (he C s H pins fp) (hs2 _)) (fun _ => rfl) (fun _ => rfl) (fun _ => rfl)
    (fun env R s lo st => codeAny_compStart_list lo (T.self _ 0 _ _ _ st lo)) (h2 s2.heap.objs.size I2.fresh)
theorem pe_dcomp {kx vx tg iter : Expr} {ifs : List Expr} {scope : Scope} {own fr : List Str} {idx : List Nat} {wi : TI} {g : TG} {tc : TT} {tk tv : TE} {pos : Pos} (hc : X.calm = true) (S : CompScope own fr scope X.env.scope)
    (hi : PI X tg iter wi) (hg : ∀ C s H pins fp, PG (compCx X scope C (own ++ fr) s H pins fp) tg g) (ht : ∀ C s H pins fp, PTs (compCx X scope C (own ++ fr) s H pins fp) ifs tc)
    (hk : ∀ C s H pins fp, PE (compCx X scope C (own ++ fr) s H pins fp) kx tk) (hv : ∀ C s H pins fp, PE (compCx X scope C (own ++ fr) s H pins fp) vx tv)
    (hix : idx.length = fr.length := by rfl) (hat : ∀ (k : Nat) (x : Str) (j : Nat), fr[k]? = some x -> idx[k]? = some j -> X.N[j]? = some x)
    (hs : ∀ x, foldedSetIterable iter X.env x = pure x := by intro _; rfl) :
    PE X (.DictComp kx vx [⟨tg, iter, ifs, 0⟩] scope pos) (tDComp wi own.length idx g tc tk tv) := by
  intro pins s σ H Q I h
  rw [arm_eval_DictComp]
  have hclos : closureFor scope X.env = pure (closL X.env scope.names []) := clos_eq fun x hx hfree => I.ok.has x.1 (S.outs x hx hfree)
  refine wpAny_comprehension_free (use := none) rfl hs hclos S.kind S.names (thn (hi pins s σ H _ I h) fun v s1 h1 => thn h1 fun itv s2 h2 => ?_)
  obtain ⟨it, fp, tn, J, H2, e, I2, T, st2, f2, h2⟩ := h2
  subst e
  refine wpAny_newObj_type ?_
  exact comp_block (o0 := .dK []) (p := iter.pos) (body := fun env => emitD s2.heap.objs.size kx vx env >>= fun _ => again (.compLoop (.DictComp kx vx [⟨tg, iter, ifs, 0⟩] scope pos) 0 (.ref it) (.ref s2.heap.objs.size) env)) hc S hix hat T st2 f2 ⟨_, rfl⟩ (I2.laid (a := s2.heap.objs.size) (o := .dK []) (t' := s2.toks) (fun _ _ q => Heap.get?_push_of_some _ q) (Nat.le_refl _) (dk_empty s2.heap I2.big)) hg ht
    (fun C s H pins fp => (pm_dict rfl (hk C s H pins fp) (hv C s H pins fp)).pb) (fun _ => rfl) (fun _ => rfl) (fun _ => rfl)
    (fun env R s lo st => codeAny_compStart_dict lo (T.self _ 0 _ _ _ st lo)) (h2 s2.heap.objs.size I2.fresh)
end
theorem loop_list {K : W.Frag} {a : Addr} {xs : List V} {g : TG} {tc : TT} {tm : TM} {Q : St -> Hp -> Prop} {σ0 : St} {H1 : Hp} (Pv : Nat -> St -> Hp -> Prop) (h0 : Pv 0 σ0 H1) (hl : ∀ i σ H, i <= xs.length -> Pv i σ H -> SqL K H a xs)
    (hs : ∀ i x σ H, xs[i]? = some x -> Pv i σ H -> g x σ H fun σ2 H2 => tc σ2 H2 fun b H3 => if b = true then tm σ2 H3 (Pv (i + 1)) else Pv (i + 1) σ2 H3) (hd : ∀ σ H, Pv xs.length σ H -> Q σ H) : LoopG (Itl K a) g tc tm Q σ0 H1 := by
  refine ⟨fun i m σ H => m = xs.length - i /\ i <= xs.length /\ Pv i σ H, ⟨xs.length, by simp, Nat.zero_le _, h0⟩, ?_⟩
  rintro i m σ H ⟨rfl, hi, p⟩
  have q := hl i σ H hi p
  by_cases hlt : i < xs.length
  . refine .inr ⟨⟨xs, xs[i], q, by simp [hlt]⟩, Pv (i + 1), fun σ' H' p' => ⟨xs.length - (i + 1), by omega, rfl, hlt, p'⟩, fun x H' y => ?_⟩
    obtain ⟨e, y⟩ := y
    subst e
    exact hs i x σ _ (y xs q) p
  . have e : i = xs.length := by omega
    subst e
    exact .inl ⟨⟨xs, q, Nat.le_refl _⟩, hd σ H p⟩
theorem loop_tup {K : W.Frag} {a : Addr} {xs : List V} {g : TG} {tc : TT} {tm : TM} {Q : St -> Hp -> Prop} {σ0 : St} {H1 : Hp} (Pv : Nat -> St -> Hp -> Prop) (h0 : Pv 0 σ0 H1) (hl : ∀ i σ H, i <= xs.length -> Pv i σ H -> SqT K H a xs)
    (hs : ∀ i x σ H, xs[i]? = some x -> Pv i σ H -> g x σ H fun σ2 H2 => tc σ2 H2 fun b H3 => if b = true then tm σ2 H3 (Pv (i + 1)) else Pv (i + 1) σ2 H3) (hd : ∀ σ H, Pv xs.length σ H -> Q σ H) : LoopG (Itt K a) g tc tm Q σ0 H1 := by
  refine ⟨fun i m σ H => m = xs.length - i /\ i <= xs.length /\ Pv i σ H, ⟨xs.length, by simp, Nat.zero_le _, h0⟩, ?_⟩
  rintro i m σ H ⟨rfl, hi, p⟩
  have q := hl i σ H hi p
  by_cases hlt : i < xs.length
  . refine .inr ⟨⟨xs, xs[i], q, by simp [hlt]⟩, Pv (i + 1), fun σ' H' p' => ⟨xs.length - (i + 1), by omega, rfl, hlt, p'⟩, fun x H' y => ?_⟩
    obtain ⟨e, y⟩ := y
    subst e
    exact hs i x σ _ (y xs q) p
  . have e : i = xs.length := by omega
    subst e
    exact .inl ⟨⟨xs, q, Nat.le_refl _⟩, hd σ H p⟩
theorem hu0_of {A : Around} {k : Nat} (hr : Room k A) : A.units < cLine := Nat.lt_of_le_of_lt (Nat.le_add_right _ _) hr.units
section
variable {X : Cx}
theorem call_isi2 : CallR X (.builtin "isinstance") (fun xs H Q => ∃ x c cv t b, xs = [x, c] /\ TyOf X.K H x t /\ RelV c cv /\ (∀ u, RelV c u -> u = cv) /\ W.kitOne X.K t cv = some b /\ Q (.bl b) H) := by
  intro pins s σ H xs us Q I r h
  obtain ⟨x, c, cv, t, b, rfl, ty, rc, hu, hk, q⟩ := h
  obtain ⟨u1, u2, rfl, r1, r2⟩ := r.two
  obtain rfl := hu _ r2
  exact isinst_ok I r1 ty hk fun tk => ⟨.bl b, H, I.tok tk, rfl, q⟩
theorem call_set_any (hc : X.calm = true) : CallR X (.type "set") (fun xs H Q => (∃ p ys, xs = [.ref p] /\ SqL X.K H p (ys.map V.str) /\ ys.length < 1000 /\ ∀ l, H l = none -> Q (.ref l) (upd H l (SetO X.prog X.w l (firstS ys)))) \/
    ∃ p ys, xs = [.ref p] /\ SqT X.K H p (ys.map V.str) /\ ys.length < 1000 /\ ∀ l, H l = none -> Q (.ref l) (upd H l (SetO X.prog X.w l (firstS ys)))) := (call_set_of hc).or (call_set_tup hc)
end
theorem firstS_mem : ∀ (l : List Str) (x : Str), x ∈ firstS l ↔ x ∈ l := by
  have go : ∀ (l σ : List Str) (x : Str), x ∈ l.foldl (fun σ v => if v ∈ σ then σ else σ ++ [v]) σ ↔ x ∈ σ \/ x ∈ l := by
    intro l
    induction l with
    | nil => intro σ x; simp
    | cons v r ih =>
      intro σ x
      rw [List.foldl_cons, ih]
      by_cases hv : v ∈ σ
      . rw [if_pos hv, List.mem_cons]
        constructor
        . rintro (h | h)
          . exact .inl h
          . exact .inr (.inr h)
        . rintro (h | h | h)
          . exact .inl h
          . subst h; exact .inl hv
          . exact .inr h
      . rw [if_neg hv, List.mem_cons, List.mem_append, List.mem_singleton]
        constructor
        . rintro ((h | h) | h)
          . exact .inl h
          . exact .inr (.inl h)
          . exact .inr (.inr h)
        . rintro (h | h | h)
          . exact .inl (.inl h)
          . exact .inl (.inr h)
          . exact .inr h
  intro l x
  have := go l [] x
  simpa [firstS] using this
theorem firstS_nodup (l : List Str) : (firstS l).Nodup := by
  have go : ∀ (l σ : List Str), σ.Nodup -> (l.foldl (fun σ v => if v ∈ σ then σ else σ ++ [v]) σ).Nodup := by
    intro l
    induction l with
    | nil => intro σ h; exact h
    | cons v r ih =>
      intro σ h
      rw [List.foldl_cons]
      refine ih _ ?_
      by_cases hv : v ∈ σ
      . rw [if_pos hv]; exact h
      . rw [if_neg hv, List.nodup_append]
        exact ⟨h, (by simp), fun a ha b hb e => hv (by rw [List.mem_singleton.mp hb] at e; rw [<- e]; exact ha)⟩
  exact go l [] List.nodup_nil
theorem perm_of_nodup_mem {a b : List Str} (ha : a.Nodup) (hb : b.Nodup) (h : ∀ x, x ∈ a ↔ x ∈ b) : a.Perm b := by
  rw [List.perm_iff_count]
  intro x
  rw [ha.count, hb.count]
  by_cases hx : x ∈ a
  . rw [if_pos hx, if_pos ((h x).mp hx)]
  . rw [if_neg hx, if_neg (fun z => hx ((h x).mpr z))]
end L2
namespace L2
open PySem PySem.Spec PyProof.Rows PySem.W
open Builtin Builtin.ObjectAttr
abbrev vTail : List Value := [.type "ValueError", .type "Exception", .type "BaseException", .type "object"]
abbrev excObj (C t : Addr) (d : Option Addr) : Obj := { cls := .ref C, dict := d, data := .fields #[.ref t, .none, .none, .none, .bool false, .none] }
section
variable {prog : Program} {w : World} {A : Around} {h : Heap} {g : Array GenState} {d : Drawn} {tk : Nat} {os : OsState}
variable {nm q : Str} {C N : Addr} {bs bm : List Value} {hdct : Bool} {sn : List Str} {sub : List Value} {ab : Bool} {col : Option Bool} {dd : Option Addr} {k0 k1 k2 k3 k5 : Option Value}
theorem xc_check_new {M : Model} {E : Value -> Shared -> Prop} {rest : List Value} {Q : Unit -> Shared -> Prop} (hC : h.get? C = some (excClassObj nm q C N bs bm hdct sn sub ab col dd k0 k1 k2 k3 k5 "ValueError.__new__"))
    (hv : (Value.ref C :: bm).contains (.type "ValueError") = true) (hq : Q () ⟨h, g, d, tk, os⟩) : wpAny M A (checkBuiltinCall "ValueError.__new__" ⟨.ref C :: rest, []⟩) Q E ⟨h, g, d, tk, os⟩ := by
  have Fv := PySem.F.excBase_ValueError
  have hst := Fv.noStar
  simp only [checkBuiltinCall, Fv.newKind, Fv.newSplit, Fv.newRow]
  repeat (first | (refine wpAny_isSubtype_exc hC ?_; rw [hv]) | refine wpAny_staticBase_exc hC ?_ | refine wpAny_madeBy_exc hC ?_ | refine wpAny_loadPart_at hC ?_ | simp only [bne_self_eq_false, Bool.false_eq_true, if_false] | wp_step)
  exact hq
theorem xc_new {R : Result -> Shared -> Prop} {rest : List Value} (hC : h.get? C = some (excClassObj nm q C N bs bm hdct sn sub ab col dd k0 k1 k2 k3 k5 "ValueError.__new__"))
    (hv : (Value.ref C :: bm).contains (.type "ValueError") = true) (ha : (Value.ref C :: bm).contains (.type "AttributeError") = false) (hn : (Value.ref C :: bm).contains (.type "NameError") = false) (hrest : rest.length <= sizeLine)
    (hq : R (.ok (.ret (.ref (h.objs.size + 1)))) ⟨(h.push { cls := .type "tuple", data := .seq rest.toArray }).push (excObj C h.objs.size none), g, d, tk, os⟩) :
    codeAny (model prog w) A (.builtin "ValueError.__new__" ⟨.ref C :: rest, []⟩) R ⟨h, g, d, tk, os⟩ := by
  have Fv := PySem.F.excBase_ValueError
  have he := Fv.ends
  refine codeAny_builtinAt Fv.entry ?_
  unfold Builtin.«BaseException.__new__»
  refine PySem.wpAt_bind ?_
  show PySem.wpAt _ _ _ (stack >>= _) _ _ _
  refine PySem.wpAt_bind (PySem.wpAt_stack fun p below => PySem.wpAt_of_wpAny ?_)
  wp_walk
  refine PySem.wpAt_of_wpAny ?_
  rw [Fv.owner]
  repeat (first | with_reducible refine wpAny_madeHere_exc Fv.canon hC ?_ | (with_reducible refine wpAny_isSubtype_exc hC ?_; first | rw [hv] | rw [ha] | rw [hn]) | with_reducible refine wpAny_loadPart_at hC ?_ | wp_step)
  show R _ _
  rw [Heap.size_push]
  exact hq
theorem xc_type_call {E : Value -> Shared -> Prop} {rest : List Value} {fI : Addr} {Q : Fin -> Shared -> Prop} (hC : h.get? C = some (excClassObj nm q C N bs bm hdct sn sub ab col dd k0 k1 k2 k3 k5 "ValueError.__new__"))
    (hv : (Value.ref C :: bm).contains (.type "ValueError") = true) (ha : (Value.ref C :: bm).contains (.type "AttributeError") = false) (hn : (Value.ref C :: bm).contains (.type "NameError") = false) (hrest : rest.length <= sizeLine)
    (hi : Looks (model prog w) h (typeLookup (.ref C) "__init__") (some (.ref fI))) (hb : ∀ self, Looks (model prog w) h (bindSpecial (.ref fI) self) (.ref fI, [self]))
    (hq : wpAny (model prog w) A (call (.ref fI) (.ref (h.objs.size + 1) :: rest)) (fun r s' => r = .none /\ Q (.done (.ret (.ref (h.objs.size + 1)))) s') E ⟨(h.push { cls := .type "tuple", data := .seq rest.toArray }).push (excObj C h.objs.size none), g, d, tk, os⟩) :
    wpAny (model prog w) A (Builtin.«type.__call__» ⟨.ref C :: rest, []⟩) Q E ⟨h, g, d, tk, os⟩ := by
  have Fv := PySem.F.excBase_ValueError
  repeat (first | (with_reducible refine wpAny_madeBy_exc hC ?_) | (with_reducible refine wpAny_loadPart_at hC ?_) | wp_step)
  refine codeAny_call_builtin_code (Code.quiet_builtin _ Fv.quiet) (xc_check_new hC hv ?_)
  refine xc_new hC hv ha hn hrest ?_
  show wpAny _ _ _ _ _ _
  generalize hH : (h.push { cls := .type "tuple", data := .seq rest.toArray }).push (excObj C h.objs.size none) = H2 at hq ⊢
  have kp : ∀ b o, h.get? b = some o -> H2.get? b = some o := fun b o e => by rw [<- hH]; exact Heap.get?_push_of_some _ (Heap.get?_push_of_some _ e)
  have hget : H2.get? (h.objs.size + 1) = some (excObj C h.objs.size none) := by
    rw [<- hH]
    exact Heap.get?_push_at (by rw [Heap.size_push]) rfl
  have hC2 := kp _ _ hC
  have hself : (Value.ref C :: bm).contains (.ref C) = true := by simp
  unfold isInstance
  repeat (first | with_reducible refine wpAny_loadPart_at hget ?_ | (with_reducible refine wpAny_isSubtype_exc hC2 ?_; rw [hself]) | wp_step)
  show wpAny _ _ (typeLookup (.ref C) _) _ _ _
  refine (hi.keeps kp).at ?_
  refine wpAny_holding (wpAny_bind (((hb _).keeps kp).at ?_))
  refine wpAny_bind (wpAny_mono hq (fun r s' hr => ?_) fun _ _ z => z)
  obtain ⟨rfl, hQ⟩ := hr
  wp_walk
  exact hQ
theorem xc_call {E : Value -> Shared -> Prop} {rest : List Value} {fI : Addr} {Q : Value -> Shared -> Prop} (hC : h.get? C = some (excClassObj nm q C N bs bm hdct sn sub ab col dd k0 k1 k2 k3 k5 "ValueError.__new__"))
    (hv : (Value.ref C :: bm).contains (.type "ValueError") = true) (ha : (Value.ref C :: bm).contains (.type "AttributeError") = false) (hn : (Value.ref C :: bm).contains (.type "NameError") = false) (hrest : rest.length <= sizeLine)
    (hi : Looks (model prog w) h (typeLookup (.ref C) "__init__") (some (.ref fI))) (hb : ∀ self, Looks (model prog w) h (bindSpecial (.ref fI) self) (.ref fI, [self]))
    (hq : wpAny (model prog w) (A.under (.builtin "type.__call__" ⟨.ref C :: rest, []⟩)) (call (.ref fI) (.ref (h.objs.size + 1) :: rest)) (fun r s' => r = .none /\ Q (.ref (h.objs.size + 1)) s') E
      ⟨(h.push { cls := .type "tuple", data := .seq rest.toArray }).push (excObj C h.objs.size none), g, d, tk, os⟩) : wpAny (model prog w) A (call (.ref C) rest) Q E ⟨h, g, d, tk, os⟩ := by
  have f1 := tc_lookup
  have f2 := tc_bind (.ref C)
  have hT : (⟨h, g, d, tk, os⟩ : Shared).TypeIs (.ref C) "type" := ⟨_, hC, rfl⟩
  refine wpAny_call (codeAny_of_tree ?_)
  show wpAny _ _ (callAny (.ref C) _) _ _ _
  repeat (any_goals (first | assumption | (with_reducible refine wpAny_loadPart_at hC ?_) | wp_step))
  refine ⟨rfl, ?_⟩
  exact codeAny_call_builtin_at (Code.quiet_builtin _ (by decide +kernel)) entry_typeCall (wpAny_check_type_call_sub hC (xc_type_call hC hv ha hn hrest hi hb hq))
end
end L2
namespace L2
open PySem PySem.Spec PyProof.Rows PySem.W
open Builtin Builtin.ObjectAttr
structure XC (K : Frag) (C M : Addr) : Prop where
  at_ : ∃ nm q N bs sn sub ab col dd k0 k1 k2 k3 k5, K.lookup C = some (excClassObj nm q C N bs (.ref M :: vTail) true sn sub ab col dd k0 k1 k2 k3 k5 "ValueError.__new__")
  ga : findIn K (.ref C) "__getattribute__" = some (some (.builtin "BaseException.__getattribute__"))
  gb : findIn K (.ref C) "__getattr__" = some none
  hd : hasDictIn K C = true
  sa : findIn K (.ref C) "__setattr__" = some (some (.builtin "object.__setattr__"))
  kc : findIn K (.ref C) "__class__" = some (some (.builtin "object.__class__"))
  kg : specialIn K (.builtin "object.__class__") "__get__" = some (some (.builtin "getset_descriptor.__get__"))
  kt : takesIn K (.builtin "object.__class__") = some true
  mo : mroIn K C (.type "object") = some true
  kp : keepIn K (.ref C) = true
section
variable {prog : Program} {w : World} {A : Around} {E : Value -> Shared -> Prop} {s : Shared} {K : Frag} {x C M t : Addr} {ox : Obj} {od : Option Obj} {name : Str} {v : Value}
theorem xga_open {fill expr : Bool} {Q : Value -> Shared -> Prop} {tk : Tok} (X : K.In s.heap) (I : InstAt s.heap x ox C od) (hga : findIn K (.ref C) "__getattribute__" = some (some (.builtin "BaseException.__getattribute__"))) (hk : findIn K (.ref C) "__getattr__" = some none)
    (sub : Looks (model prog w) s.heap (isInstance (.ref x) (.type "BaseException")) true)
    (h : wpAny (model prog w) A.in1 (Builtin.«object.__getattribute__» ⟨[.ref x, .str name tk], []⟩)
      (fun fin s' => match fin with | .done (.ret v) => wpAny (model prog w) A (handedOut v) Q E s' | .done _ => False | .again c' => c'.quiet = true /\ codeAny (model prog w) A c' (fun r s'' => match r with | .ok (.ret v) => wpAny (model prog w) A (handedOut v) Q E s'' | _ => False) s') (fun _ _ => False) s) :
    wpAny (model prog w) A (getAttrBy (.ref x) (.str name tk) fill expr) Q E s := by
  obtain ⟨hh, g, d, t, os⟩ := s
  have L0 := I.type (M := model prog w)
  have L1 := looks_findIn (M := model prog w) X hga
  have L2 := looks_findIn (M := model prog w) X hk
  have hx2 : (Value.builtin "BaseException.__getattribute__" == Value.builtin "object.__getattribute__") = false := by decide +kernel
  have hx1 : (onTheHeap (Value.ref C) && Value.builtin "BaseException.__getattribute__" == Value.builtin "object.__getattribute__") = false := by rw [hx2]; rfl
  have hx0 : (expr && onTheHeap (Value.builtin "BaseException.__getattribute__")) = false := by cases expr <;> rfl
  unfold getAttrBy
  refine wpAny_holding (wpAny_bind (L0.at (wpAny_bind (L1.at ?_))))
  simp only [hx1, Bool.false_eq_true, if_false]
  unfold getAttrByItsOwn
  refine wpAny_bind (L2.at (wpAny_bind (wpAny_attempt (wpAny_holding ?_))))
  unfold callGetattribute
  rw [hx0]
  simp only [Bool.false_eq_true, if_false]
  unfold boundAndCalled
  rw [PySem.F.excAttr_ValueError.ga.bind]
  refine wpAny_bind (wpAny_pure (wpAny_call ?_))
  refine codeAny_call_builtin PySem.F.excAttr_ValueError.ga.plain PySem.F.entry_bexc_ga (check_slot (i := "BaseException.__getattribute__") (owner := "BaseException") (n := "__getattribute__") (by decide +kernel) (by decide +kernel) sub (PySem.F.args_bexc_ga _ _) ?_)
  refine wpAny_mono h (fun fin s' z => ?_) fun _ _ z => z.elim
  rcases fin with (_ | _ | _ | _) | _
  all_goals first | exact z | exact z.elim | skip
  exact ⟨z.1, codeAny_mono z.2 fun r s'' y => by rcases r with _ | (_ | _ | _ | _) <;> first | exact y | exact y.elim⟩
theorem xga_value {fill expr : Bool} {Q : Value -> Shared -> Prop} {tk : Tok} (X : K.In s.heap) (I : InstAt s.heap x ox C od) (hga : findIn K (.ref C) "__getattribute__" = some (some (.builtin "BaseException.__getattribute__"))) (hk : findIn K (.ref C) "__getattr__" = some none)
    (sub : Looks (model prog w) s.heap (isInstance (.ref x) (.type "BaseException")) true) (hf : findObj K C od name = some (.value v)) (hh : handedIn v = true) (h : Q v s) : wpAny (model prog w) A (getAttrBy (.ref x) (.str name tk) fill expr) Q E s := by
  refine xga_open X I hga hk sub ?_
  obtain ⟨hh', g, d, t, os⟩ := s
  have L0 := I.type (M := model prog w)
  have L1 := looks_find (M := model prog w) X I hf
  refine wpAny_bind (wpAny_pure (wpAny_bind (wpAny_pure (wpAny_bind (L0.at (wpAny_bind (L1.at ?_)))))))
  refine wpAny_pure ?_
  show wpAny _ _ (handedOut v) _ _ _
  rw [handedOut_of hh]; exact wpAny_pure h
theorem xga_class {fill expr : Bool} {Q : Value -> Shared -> Prop} {tk : Tok} (X : K.In s.heap) (I : InstAt s.heap x ox C od) (hga : findIn K (.ref C) "__getattribute__" = some (some (.builtin "BaseException.__getattribute__"))) (hk : findIn K (.ref C) "__getattr__" = some none)
    (sub : Looks (model prog w) s.heap (isInstance (.ref x) (.type "BaseException")) true) (hf : findObj K C od name = some (.bind (.builtin "getset_descriptor.__get__") (.builtin "object.__class__"))) (hm : mroIn K C (.type "object") = some true) (h : Q (.ref C) s) : wpAny (model prog w) A (getAttrBy (.ref x) (.str name tk) fill expr) Q E s := by
  refine xga_open X I hga hk sub ?_
  obtain ⟨hh', g, d, t, os⟩ := s
  have L0 := I.type (M := model prog w)
  have L1 := looks_find (M := model prog w) X I hf
  refine wpAny_bind (wpAny_pure (wpAny_bind (wpAny_pure (wpAny_bind (L0.at (wpAny_bind (L1.at ?_)))))))
  show wpAny _ _ (holding [.builtin "object.__class__"] (call (.builtin "getset_descriptor.__get__") [.builtin "object.__class__", .ref x, .ref C]) >>= ret) _ _ _
  refine wpAny_bind (wpAny_holding (wpAny_call (class_get (od := od) X I hm ?_)))
  exact wpAny_pure (handed_on rfl h)
theorem XC.mro {Md : Model} {h : Heap} (X : K.In h) (xc : XC K C M) : Looks Md h (mroOf (.ref C)) (.ref C :: .ref M :: vTail) := by
  obtain ⟨nm, q, N, bs, sn, sub, ab, col, dd, k0, k1, k2, k3, k5, e⟩ := xc.at_
  have hc : clsIn K C = some { name := nm, bases := bs, mro := .ref C :: .ref M :: vTail, ns := N, qualname := q, hasDict := true, slotNames := sn, subclasses := sub, abstract := ab, collection := col, hasDel := false } := by unfold clsIn; rw [e]
  exact (looks_clsIn X hc).andThen .now
theorem XC.isB {Md : Model} {h : Heap} (X : K.In h) (xc : XC K C M) (I : InstAt h x ox C od) : Looks Md h (isInstance (.ref x) (.type "BaseException")) true := by
  have hc : (Value.ref C :: Value.ref M :: vTail).contains (.type "BaseException") = true := by simp [vTail]
  exact I.type.andThen (hc ▸ (xc.mro X).andThen .now)
theorem xc_osa {R : Result -> Shared -> Prop} {tk : Tok} (X : K.In s.heap) (xc : XC K C M) (I : InstAt s.heap x ox C od) (ha : findIn K (.ref C) name = some none)
    (h : wpAny (model prog w) A.in1 (storeInOwnDict (.ref x) (.ref C) (.str name tk) name v false) (fun fin s' => match fin with | .done f => R (.ok f) s' | .again c' => c'.quiet = true /\ codeAny (model prog w) A c' R s') (fun e s' => R (.error e) s') s) :
    codeAny (model prog w) A (.call (.builtin "object.__setattr__") ⟨[.ref x, .str name tk, v], []⟩) R s := by
  have SF := PySem.F.store_object
  have sub : Looks (model prog w) s.heap (isInstance (.ref x) (.type "object")) true := I.type.andThen (looks_mroIn X xc.mo)
  refine codeAny_call_builtin SF.slot.plain SF.entry (@check_slot (model prog w) _ _ s "object.__setattr__" "object" "__setattr__" (.ref x) [.str name tk, v] [] _ SF.kind SF.split sub (SF.args _ _ _) ?_)
  rw [osa_eq, refuse_eq]
  refine wpAny_bind (wpAny_bind (I.type.here (wpAny_bind ((xc.mro X).here ?_))))
  rw [refuseLoop_ref, refuseLoop_ref, PySem.F.store_ValueError.passes]
  refine wpAny_pure (wpAny_bind (I.type.here (wpAny_bind ((looks_findIn X ha).here ?_))))
  exact wpAny_bind (wpAny_pure h)
theorem xc_set0 {Q : Unit -> Shared -> Prop} (X : K.In s.heap) (xc : XC K C M) (hx : s.heap.get? x = some (excObj C t none)) (ha : findIn K (.ref C) name = some none)
    (h : ∀ h', h'.get? x = some (excObj C t (some s.heap.objs.size)) -> h'.Ns1 s.heap.objs.size (fun y => if y = name then some v else none) -> (∀ b o, b ≠ x -> s.heap.get? b = some o -> h'.get? b = some o) -> Q () { s with heap := h', toks := s.toks + 2 }) :
    wpAny (model prog w) A (setAttr (.ref x) name v) Q E s := by
  have J : InstAt s.heap x (excObj C t none) C none := ⟨hx, rfl, rfl, trivial⟩
  refine set_plain X J xc.sa (xc_osa (s := { s with toks := s.toks + 1 }) X xc J ha ?_)
  obtain ⟨cd, hc, hd'⟩ := any_some xc.hd
  refine wpAny_bind (wpAny_pure (wpAny_bind (wpAny_bind (wpAny_loadPart hx (wpAny_bind (Looks.here (s := { s with toks := s.toks + 1 }) (looks_clsIn X hc) ?_))))))
  rw [hd']
  have hxs : x ≠ s.heap.objs.size := Nat.ne_of_lt (Heap.lt_size hx)
  have hx1 : (s.heap.push { cls := .type "dict", data := .dict #[] }).get? x = some (excObj C t none) := Heap.get?_push_of_some _ hx
  show wpAny _ _ (alloc { cls := .type "dict", data := .dict #[] } >>= _) _ _ _
  refine wpAny_bind (wpAny_alloc ?_)
  refine wpAny_bind (wpAny_update hx1 ?_)
  refine wpAny_pure (wpAny_bind (wpAny_pure (wpAny_bind ?_)))
  have hgd : ((s.heap.push { cls := .type "dict", data := .dict #[] }).update x fun o => { o with dict := some s.heap.objs.size }).get? s.heap.objs.size = some { cls := .type "dict", data := .dict #[] } :=
    (Heap.get?_update_ne _ _ _ _ hxs.symm).trans (Heap.get?_push_at rfl rfl)
  have hnd : ((s.heap.push { cls := .type "dict", data := .dict #[] }).update x fun o => { o with dict := some s.heap.objs.size }).Ns s.heap.objs.size (fun _ => none) := ⟨_, #[], _, hgd, rfl, fun e he => absurd he (by simp), fun _ => rfl⟩
  refine wpAny_nsSet1 (Heap.Ns1.of_empty hnd) fun h' hn' hs => ?_
  obtain ⟨oD, esD, epD, hoD, hdD, hcD⟩ := hn'.count (Within.cons name v Within.nil)
  refine wpAny_bind (wpAny_lookBehind hoD (by rw [hdD]; exact pastItsLine_dict (Nat.le_trans hcD (by rw [List.length_cons, List.length_nil, sizeLine_eq]; decide))) ?_)
  refine wpAny_pure (h h' ((hs.2 x hxs).trans (Heap.get?_update_self _ hx1 rfl)) hn' fun b o hb e => ?_)
  exact (hs.2 b (Nat.ne_of_lt (Heap.lt_size e))).trans ((Heap.get?_update_ne _ _ _ _ hb).trans (Heap.get?_push_of_some _ e))
theorem xc_set1 {Q : Unit -> Shared -> Prop} {dx : Addr} {mA : Str -> Option Value} {ns : List Str} (X : K.In s.heap) (xc : XC K C M) (hx : s.heap.get? x = some (excObj C t (some dx))) (hn : s.heap.Ns1 dx mA) (hne : dx ≠ x) (ha : findIn K (.ref C) name = some none) (hw : Within mA ns) (hsz : ns.length < 1000)
    (h : ∀ h', h'.Ns1 dx (fun y => if y = name then some v else mA y) -> Heap.SameBut dx s.heap h' -> Q () { s with heap := h', toks := s.toks + 2 }) : wpAny (model prog w) A (setAttr (.ref x) name v) Q E s := by
  obtain ⟨od, hod, _⟩ := lookIn_ns hn
  have J : InstAt s.heap x (excObj C t (some dx)) C (some od) := ⟨hx, rfl, rfl, hod⟩
  refine set_plain X J xc.sa (xc_osa (s := { s with toks := s.toks + 1 }) X xc J ha ?_)
  obtain ⟨cd, hc, hd'⟩ := any_some xc.hd
  refine wpAny_bind (wpAny_pure (wpAny_bind (wpAny_bind (wpAny_loadPart hx (wpAny_bind (Looks.here (s := { s with toks := s.toks + 1 }) (looks_clsIn X hc) ?_))))))
  rw [hd']
  refine wpAny_pure (a := some dx) (wpAny_bind (wpAny_pure (wpAny_bind ?_)))
  refine wpAny_nsSet1 (s := { s with toks := s.toks + 1 }) hn fun h' hn' hs => ?_
  obtain ⟨oD, esD, epD, hoD, hdD, hcD⟩ := hn'.count (Within.cons name v hw)
  refine wpAny_bind (wpAny_lookBehind hoD (by rw [hdD]; exact pastItsLine_dict (Nat.le_trans hcD (by rw [List.length_cons, sizeLine_eq]; omega))) ?_)
  exact wpAny_pure (h h' hn' hs)
theorem xc_kit (xc : XC K C M) : KitX K (.ref x) (.ref C) (fun h => InstAt h x ox C od) where
  ty := fun _ _ _ I => I.type
  it := fun _ _ X _ => by
    obtain ⟨nm, q, N, bs, sn, sub, ab, col, dd, k0, k1, k2, k3, k5, e⟩ := xc.at_
    intro A' Q' E' s' k q'
    unfold isType loadHead
    exact wpAny_bind (wpAny_loadPart (k _ _ (X _ _ e)) (wpAny_pure q'))
  ne := fun h tp dd its n sl X htp => by
    obtain ⟨nm, q, N, bs, sn, sub, ab, col, dd', k0, k1, k2, k3, k5, e⟩ := xc.at_
    refine Bool.eq_false_iff.mpr fun z => ?_
    have e2 : C = tp := Value.ref.inj (beq_iff_eq.mp z)
    rw [e2] at e
    have z2 := congrArg Obj.data (Option.some.inj ((X _ _ e).symm.trans htp))
    cases z2
  ca := fun X I k => by
    have hf : findObj K C od "__class__" = some (.bind (.builtin "getset_descriptor.__get__") (.builtin "object.__class__")) := by
      obtain ⟨cd, hc, _⟩ := any_some xc.hd
      unfold findObj
      rw [hc, Option.bind_some, xc.kc, Option.bind_some]
      simp [xc.kg, xc.kt]
    unfold getAttr? getAttrBy?
    exact wpAny_bind (wpAny_mkText (wpAny_bind (wpAny_attempt (xga_class X I xc.ga xc.gb (xc.isB X I) hf xc.mo (wpAny_pure k)))))
end
end L2
namespace L2
open PySem PySem.Spec PyProof.Rows
def ExcO (e C t : Addr) (d : Option Addr) : HO := .ext fun h => h.get? e = some (excObj C t d)
def DctO (dx : Addr) (fs : List (Str × V)) : HO := .ext fun h => fs.length <= 900 /\ ∃ mA, h.Ns1 dx mA /\ (∀ f, RelO (fs.lookup f) (mA f)) /\ PySem.Within mA (fs.map (·.1))
def XAt (H : Hp) (e C : Addr) (fs : List (Str × V)) : Prop := ∃ t, (H e = some (ExcO e C t none) /\ fs = []) \/ ∃ dx, H e = some (ExcO e C t (some dx)) /\ H dx = some (DctO dx fs) /\ dx ≠ e
theorem excO_ok {P : Program} {w : World} {H : Hp} {h : Heap} {e C t : Addr} {d : Option Addr} (q : h.get? e = some (excObj C t d)) : ObjOk P w H h e (ExcO e C t d) :=
  ⟨q, ⟨_, q⟩, fun _ _ p k => k _ p⟩
theorem dctO_ok {P : Program} {w : World} {H : Hp} {h : Heap} {dx : Addr} {fs : List (Str × V)} {mA : Str -> Option Value} (hl : fs.length <= 900) (n : h.Ns1 dx mA) (r : ∀ f, RelO (fs.lookup f) (mA f)) (w' : PySem.Within mA (fs.map (·.1))) : ObjOk P w H h dx (DctO dx fs) := by
  refine ⟨⟨hl, mA, n, r, w'⟩, ?_, fun h1 h2 ⟨hl, mA, n, r, w'⟩ k => ?_⟩
  . obtain ⟨o, es, ep, e, _⟩ := n
    exact ⟨o, e⟩
  . obtain ⟨o, es, ep, e, z⟩ := n
    exact ⟨hl, mA, ⟨o, es, ep, k o e, z⟩, r, w'⟩
section
variable {X : Cx} {pins : List (Addr × Obj)} {σ : St} {H : Hp} {s : Shared}
theorem Inv.exc (I : Inv X pins σ H s) {e C t : Addr} {d : Option Addr} (h : H e = some (ExcO e C t d)) : s.heap.get? e = some (excObj C t d) := (I.hok e _ h).1
theorem Inv.writeLaid {h' : Heap} {x a : Addr} {o1 o2 : HO} {t' : Nat} (I : Inv X pins σ H s) (mu : Mut (H x)) (k : ∀ b u, b ≠ x -> s.heap.get? b = some u -> h'.get? b = some u) (hx : ∃ u, h'.get? x = some u) (ha : s.heap.objs.size <= a)
    (n1 : ObjOk X.prog X.w (upd (upd H x o1) a o2) h' x o1) (n2 : ObjOk X.prog X.w (upd (upd H x o1) a o2) h' a o2) : Inv X pins σ (upd (upd H x o1) a o2) { s with heap := h', toks := t' } := by
  have nx : ∀ b, H b = none -> b ≠ x := fun b n z => by subst z; rw [n] at mu; exact mu
  have na : ∀ b ob, s.heap.get? b = some ob -> b ≠ a := fun b ob e => Nat.ne_of_lt (Nat.lt_of_lt_of_le (Heap.lt_size e) ha)
  have fa : H a = none := I.hok.fresh ha
  have nm : ∀ b u, H b = some u -> ¬ Mut (some u) -> b ≠ x := fun b u q nmu z => by subst z; rw [q] at mu; exact nmu mu
  have lift : ∀ b u, H b = some u -> ¬ Mut (some u) -> upd (upd H x o1) a o2 b = some u := fun b u q nmu => by rw [upd_ne (ne_of_none q fa), upd_ne (nm b u q nmu)]; exact q
  have xa : x ≠ a := fun z => by rw [z, fa] at mu; exact mu
  refine I.step (g' := s.gens) (d' := s.drawn) (ch := []) (fun _ z => nomatch z) (fun b ob _ _ _ e n => k b ob (nx b n) e) (fun b ob _ _ _ e n => ⟨ob.slots, k b ob (nx b n) e⟩) (fun b ob _ e n => by rw [upd_ne (na b ob e), upd_ne (nx b n)]; exact n)
    (fun b ob _ e => ?_) (fun b xs e => lift b _ e fun z => z) (fun b ob u e => lift b _ e fun z => z) (fun b ps e => ⟨#[], by rw [lift b _ e fun z => z]; simp⟩) (fun m hm => ?_) (fun b u e => ?_) I.bare
  . by_cases hb : b = x
    . rw [hb]; exact hx
    . exact ⟨ob, k b ob hb e⟩
  . obtain ⟨ob, es, ep, ho, r⟩ := hm
    exact ⟨ob, es, ep, k _ ob (nx _ I.free) ho, r⟩
  . by_cases hb : b = a
    . rw [hb, upd_same] at e; cases e; rw [hb]; exact n2
    . rw [upd_ne hb] at e
      by_cases hbx : b = x
      . rw [hbx, upd_same] at e; cases e; rw [hbx]; exact n1
      . rw [upd_ne hbx] at e
        refine (I.hok b u e).stay (fun c v hc q => k c v ?_ q) (fun c q => lift c _ q fun z => z) fun c xs q => lift c _ q fun z => z
        rcases hc with z | z
        . rw [z]; exact hbx
        . exact nm c _ z fun z => z
end
section
variable {X : Cx} {C M : Addr}
def sFldX (C : Addr) (ta tv : TE) (f : Str) : TS := fun D σ H => tv σ H fun y H1 => ta σ H1 fun x H2 => ∃ e, x = .ref e /\
  ((∃ t, H2 e = some (ExcO e C t none) /\ ∀ dx, H2 dx = none -> dx ≠ e -> D.nx σ (upd (upd H2 e (ExcO e C t (some dx))) dx (DctO dx [(f, y)]))) \/
   ∃ t dx fs, H2 e = some (ExcO e C t (some dx)) /\ H2 dx = some (DctO dx fs) /\ dx ≠ e /\ fs.length < 900 /\ D.nx σ (upd H2 dx (DctO dx (putF f y fs))))
theorem ps_fldX {o value : Expr} {f : Str} {ta tv : TE} {pos pos' : Pos} (xc : XC X.K C M) (hf : W.findIn X.K (.ref C) f = some none) (ha : PE X o ta) (hv : PE X value tv) (hs : swapsWith value (some (.Attribute o f pos')) pos.line X.env = pure false := by rfl) :
    PS X (.Assign [.Attribute o f pos'] value pos) (sFldX C ta tv f) := by
  intro pins s σ H D I h
  refine plainObj_wpAny_Assign_Attribute (thn (hv pins s σ H _ I h) fun v s1 ⟨y, H1, I1, ry, q1⟩ => thn (ha pins s1 σ H1 _ I1 q1) fun u s2 ⟨x, H2, I2, rx, q2⟩ => ?_) hs
  obtain ⟨e, rfl, q2⟩ := q2
  cases rx
  rcases q2 with ⟨t, he, q⟩ | ⟨t, dx, fs, he, hd, hne, hl, q⟩
  . have hx := I2.exc he
    have hxs : s2.heap.objs.size ≠ e := Nat.ne_of_gt (Heap.lt_size hx)
    refine xc_set0 I2.kIn xc hx hf fun h' a1 a2 a3 => ⟨σ, _, I2.writeLaid (o1 := ExcO e C t (some s2.heap.objs.size)) (o2 := DctO s2.heap.objs.size [(f, y)]) (t' := s2.toks + 2) (by rw [he]; exact trivial) a3 ⟨_, a1⟩ (Nat.le_refl _) (excO_ok a1) (dctO_ok (show 1 <= 900 by decide) a2 (fun g => ?_) ?_), q _ I2.fresh hxs⟩
    . show RelO (List.lookup g (putF f y [])) _
      rw [lookup_putF]
      by_cases hg : g = f
      . simp only [if_pos hg]; exact ry
      . simp only [if_neg hg]; trivial
    . exact PySem.Within.cons f v PySem.Within.nil
  . have hx := I2.exc he
    obtain ⟨_, mA, hn, hr, hw⟩ := (I2.hok dx _ hd).1
    refine xc_set1 I2.kIn xc hx hn hne hf hw (by rw [List.length_map]; omega) fun h' a1 a2 => ?_
    have hok : ObjOk X.prog X.w (upd H2 dx (DctO dx (putF f y fs))) h' dx (DctO dx (putF f y fs)) := by
      refine dctO_ok (Nat.le_trans (length_putF f y fs) (by omega)) a1 (fun g => ?_) ?_
      . rw [lookup_putF]
        by_cases hg : g = f
        . simp only [if_pos hg]; exact ry
        . simp only [if_neg hg]; exact hr g
      . intro g hg
        have q := (keys_putF f y fs)
        by_cases hgf : g = f
        . rw [hgf]; exact q.1
        . simp only [if_neg hgf] at hg
          exact q.2 g (hw g hg)
    obtain ⟨o', es', ep', e', _⟩ := id a1
    exact ⟨σ, _, I2.write (o := DctO dx (putF f y fs)) (t' := s2.toks + 2) (by rw [hd]; exact trivial) (.inl rfl) (fun b u hb q => (a2.2 b hb).trans q) ⟨_, e'⟩ hok, q⟩
def tMakeX (C : Addr) (sp : Sp) (t : TA) : TE := fun σ H Q => t σ H fun vs H1 => vs.length <= 100 /\ ∀ e u, H1 e = none -> H1 u = none -> u ≠ e ->
  sp (.ref e :: vs) (upd (upd H1 u (.tup vs)) e (ExcO e C u none)) (fun v H2 => v = .non /\ Q (.ref e) H2) E0
theorem vcont (C M : Addr) : (Value.ref C :: Value.ref M :: vTail).contains (.type "ValueError") = true /\ (Value.ref C :: Value.ref M :: vTail).contains (.type "AttributeError") = false /\ (Value.ref C :: Value.ref M :: vTail).contains (.type "NameError") = false := by
  refine ⟨?_, ?_, ?_⟩ <;> simp [vTail]
theorem run_makeX {k : Nat} {f : Addr} {fd : FuncData} {ps : List Str} {sp : Sp} {pins : List (Addr × Obj)} {σ : St} {H : Hp} {s : Shared} {Q : VK} {us : List Value} {vs : List V} (xc : XC X.K C M) (hin : W.findIn X.K (.ref C) "__init__" = some (some (.ref f))) (hfn : W.isFn X.K (.ref f) = true)
    (F : FnOk X.prog X.w X.K X.mg X.base CX0 k f fd ps sp) (hr : Room (k + 1) X.A) (hb : Binds X.K fd ps []) (I : Inv X pins σ H s) (r : Vals vs us) (hl : vs.length <= 100)
    (h : ∀ e u, H e = none -> H u = none -> u ≠ e -> sp (.ref e :: vs) (upd (upd H u (.tup vs)) e (ExcO e C u none)) (fun v H2 => v = .non /\ Q (.ref e) H2) E0) :
    wpAny (model X.prog X.w) X.A (call (.ref C) us) (EP X pins σ Q) X.xe s := by
  obtain ⟨nm, q, N, bs, sn, sub, ab, col, dd, k0, k1, k2, k3, k5, e⟩ := xc.at_
  obtain ⟨c1, c2, c3⟩ := vcont C M
  have hz : (100 : Nat) <= sizeLine := by rw [sizeLine_eq]; decide
  have hq := h (s.heap.objs.size + 1) s.heap.objs.size (I.hok.fresh (Nat.le_succ _)) I.fresh (Nat.ne_of_lt (Nat.lt_succ_self _))
  have I1 : Inv X pins σ (upd H s.heap.objs.size (.tup vs)) { s with heap := s.heap.push { cls := .type "tuple", data := .seq us.toArray }, toks := s.toks } :=
    I.laid (o := .tup vs) (fun _ _ z => Heap.get?_push_of_some _ z) (Nat.le_refl _) ⟨Nat.le_trans hl hz, us, r, IsTup.new _ _⟩
  have I2 : Inv X pins σ (upd (upd H s.heap.objs.size (.tup vs)) (s.heap.objs.size + 1) (ExcO (s.heap.objs.size + 1) C s.heap.objs.size none))
      { s with heap := (s.heap.push { cls := .type "tuple", data := .seq us.toArray }).push (excObj C s.heap.objs.size none), toks := s.toks } :=
    I1.laid (o := ExcO (s.heap.objs.size + 1) C s.heap.objs.size none) (fun _ _ z => Heap.get?_push_of_some _ z) (by rw [Heap.size_push]; exact Nat.le_refl _) (excO_ok (Heap.get?_push_at (by rw [Heap.size_push]) rfl))
  have r2 : Vals (V.ref (s.heap.objs.size + 1) :: vs) (Value.ref (s.heap.objs.size + 1) :: us) := .cons rfl r
  have hlen : (Value.ref (s.heap.objs.size + 1) :: us).length = ps.length := by rw [<- r2.length]; exact F.len _ _ _ _ hq
  obtain ⟨hh, g, d, tk, os⟩ := s
  refine xc_call (I.kIn _ _ e) c1 c2 c3 (by rw [<- r.length]; exact Nat.le_trans hl hz) (PySem.W.looks_findIn I.kIn hin) (fun self => PySem.W.bind_fn I.kIn self (beq_iff_eq.mp hfn)) (wpAny_call ?_)
  have bb := hb ⟨_, g, d, tk, os⟩ (Value.ref (hh.objs.size + 1) :: us) I2.kIn (by rw [List.append_nil]; exact hlen)
  rw [List.append_nil] at bb
  refine codeAny_mono (F.run _ X.stack _ _ ⟨Value.ref (hh.objs.size + 1) :: us, []⟩ (Value.ref (hh.objs.size + 1) :: us) _ _ E0 (hr.make C us []) (I2.env0.make C us []) bb r2 hq) fun r s' hq' => ?_
  cases r with
  | error e => exact False.elim hq'
  | ok fl =>
    cases fl with
    | ret u =>
      obtain ⟨v, H', I3, rv, ev, q3⟩ := I2.after hq'
      subst ev
      exact ⟨rv, ⟨V.ref (hh.objs.size + 1), H', I3, rfl, q3⟩⟩
    | next => exact False.elim hq'
    | brk => exact False.elim hq'
    | cont => exact False.elim hq'
theorem pe_makeX {k : Nat} {f : Addr} {fd : FuncData} {ps : List Str} {sp : Sp} {x : Str} {p pos : Pos} {e : Expr} {es : List Expr} {t : TA} (xc : XC X.K C M) (hin : W.findIn X.K (.ref C) "__init__" = some (some (.ref f))) (hfn : W.isFn X.K (.ref f) = true)
    (F : FnOk X.prog X.w X.K X.mg X.base CX0 k f fd ps sp) (hr : Room (k + 1) X.A) (hg : Gl X x) (hm : X.mg x = some (.ref C)) (hb : Binds X.K fd ps []) (ha : PA X (e :: es) t)
    (hdb : (x == ("__debug__" : Str)) = false := by decide) (he : starEach (e :: es) X.env = (false, eval e X.env) :: starEach es X.env := by rfl) (hpl : (backTo pos (starEach es X.env)).any (·.1) = false := by rfl) :
    PE X (.Call (.Name x p) (e :: es) [] pos) (tMakeX C sp t) := by
  intro pins s σ H Q I h
  refine wpAny_Call_Name_kw (ld_glob I hg hm ?_ hdb)
  refine PySem.W.callWith_K (h₀ := X.base) I.ok.mod.kin xc.kp (thn (ha pos pins s σ H _ I h) fun us s1 ⟨vs, H1, I1, r, hl, q⟩ => ⟨I1.kIn, ?_⟩) he hpl
  exact run_makeX xc hin hfn F hr hb I1 r hl q
end
section
variable {X : Cx}
end
def TbAt (h : Heap) (T : Addr) : Prop := ∃ oT ts, h.get? T = some oT /\ oT.data = .fields ts /\ ts[3]? = some .none
structure Lft (fs : List Addr) (a T : Addr) (h h' : Heap) : Prop where
  keep : ∀ b o, b ∉ fs -> b ≠ a -> h.get? b = some o -> h'.get? b = some o
  slot : ∀ b o, b ∈ fs -> h.get? b = some o -> ∃ sl, h'.get? b = some { o with slots := sl }
  tb : TbAt h' T
section
variable {M : Model} {A : Around} {E : Value -> Shared -> Prop} {s : Shared} {base : Heap} {env : Env} {outer : List Env} {L a : Addr} {oe : Obj} {vs : Array Value} {Q : Unit -> Shared -> Prop}
theorem entry_lft {head : Value} {hadNext : Bool} (hfr : A.frames = some (env :: outer)) (hl : s.heap.FunFrames base (env :: outer)) (hf : env.frame = some L) (he : s.heap.get? a = some oe) (hd : oe.data = .fields vs) (hsz : 1 < vs.size)
    (h : ∀ h', Lft (frs (env :: outer)) a s.heap.objs.size s.heap h' -> h'.get? a = some (oe.mapFields (·.setIfInBounds 1 (.ref s.heap.objs.size))) -> Q () { s with heap := h' }) :
    wpAny M A (do let x <- frameOf env; let p <- entryPlaceOf L hadNext; let t <- EntryCells.newEntry head x .none (rawInt L) .none p; setField (.ref a) 1 t) (fun _ s' => wpAny M A (setFlight (.ref a) none) Q E s') E s := by
  have na : a ∉ frs (env :: outer) := fun hm => by
    obtain ⟨_, o, ho, hnf⟩ := hl.mem hm
    rw [he] at ho
    cases ho
    exact hnf vs hd
  refine wpAny_bind (wpAny_frameOf_fun hfr hl hf fun k so => wpAny_bind (wpAny_entryPlaceOf fun pl hpl => ?_))
  obtain ⟨s1, s2, s3⟩ := so
  unfold EntryCells.newEntry newFields
  refine wpAny_bind (wpAny_newObj_type ?_ (hpl.sizeOk5 _ _ _ _ _))
  generalize hTB : ({ cls := .type "traceback", dict := none, data := .fields ([head, .ref L, .none, rawInt L, .none] ++ (if pl.isEmpty then List.replicate 6 Value.none else pl)).toArray } : Obj) = TB
  have dTB : TB.data = .fields ([head, .ref L, .none, rawInt L, .none] ++ (if pl.isEmpty then List.replicate 6 Value.none else pl)).toArray := by rw [<- hTB]
  have fTB : TB.isFreed = false := by rw [<- hTB]; rfl
  have e1 : k.get? a = some oe := (s2 a na).trans he
  have e2 : (k.push TB).get? a = some oe := Heap.get?_push_of_some _ e1
  have nT : k.objs.size ≠ a := Nat.ne_of_gt (Heap.lt_size e1)
  have t2 : (k.push TB).get? k.objs.size = some TB := Heap.get?_push_size _ fTB
  refine wpAny_setField e2 hd hsz ?_
  have d3 := Obj.data_mapFields hd (·.setIfInBounds 1 (Value.ref k.objs.size))
  have e3 := Heap.get?_update_self (Obj.mapFields (·.setIfInBounds 1 (Value.ref k.objs.size))) e2 (Obj.isFreed_of_fields d3)
  have t3 := (Heap.get?_update_other (k.push TB) (Obj.mapFields (·.setIfInBounds 1 (Value.ref k.objs.size))) (Ne.symm nT)).trans t2
  unfold setFlight
  refine wpAny_bind (wpAny_field e3 d3 (x := .ref k.objs.size) (by simp [hsz]) ?_)
  rw [if_pos (show (Value.ref k.objs.size != Value.none) = true by simp)]
  have sz3 : 3 < ([head, .ref L, .none, rawInt L, .none] ++ (if pl.isEmpty then List.replicate 6 Value.none else pl)).toArray.size := by
    simp only [List.size_toArray, List.length_append, List.length_cons, List.length_nil]; omega
  refine wpAny_setField t3 dTB sz3 ?_
  have d4 := Obj.data_mapFields dTB (·.setIfInBounds 3 ((none : Option Addr).elim Value.none fun f => rawInt f))
  have all : ∀ b o, b ≠ a -> k.get? b = some o -> (((k.push TB).update a (Obj.mapFields (·.setIfInBounds 1 (Value.ref k.objs.size)))).update k.objs.size (Obj.mapFields (·.setIfInBounds 3 ((none : Option Addr).elim Value.none fun f => rawInt f)))).get? b = some o := fun b o nb e => by
    rw [Heap.get?_update_other _ _ (Nat.ne_of_gt (Heap.lt_size e)), Heap.get?_update_other _ _ (Ne.symm nb)]
    exact Heap.get?_push_of_some _ e
  have q := h (((k.push TB).update a (Obj.mapFields (·.setIfInBounds 1 (Value.ref k.objs.size)))).update k.objs.size (Obj.mapFields (·.setIfInBounds 3 ((none : Option Addr).elim Value.none fun f => rawInt f))))
  rw [<- s1] at q
  refine q ⟨fun b o nf nb e => all b o nb ((s2 b nf).trans e), fun b o hb e => ?_, ?_⟩ ?_
  . obtain ⟨sl, e'⟩ := s3 b o e
    exact ⟨sl, all b _ (fun z => na (z ▸ hb)) e'⟩
  . exact ⟨_, _, Heap.get?_update_self _ t3 (Obj.isFreed_of_fields d4), d4, by simp [sz3]⟩
  . rw [Heap.get?_update_other _ _ nT]; exact e3
theorem leave_first (hfr : A.frames = some (env :: outer)) (hl : s.heap.FunFrames base (env :: outer)) (hf : env.frame = some L) (he : s.heap.get? a = some oe) (hd : oe.data = .fields vs) (h1 : vs[1]? = some .none)
    (h : ∀ h', Lft (frs (env :: outer)) a s.heap.objs.size s.heap h' -> h'.get? a = some (oe.mapFields (·.setIfInBounds 1 (.ref s.heap.objs.size))) -> Q () { s with heap := h' }) : wpAny M A (leaving env (.ref a)) Q E s := by
  unfold leaving noteFrame
  simp only [hf]
  refine wpAny_bind (wpAny_bind (wpAny_field he hd h1 ?_))
  rw [if_neg (by decide)]
  exact entry_lft hfr hl hf he hd (Array.getElem?_eq_some_iff.mp h1).1 h
theorem leave_next {T : Addr} (hfr : A.frames = some (env :: outer)) (hl : s.heap.FunFrames base (env :: outer)) (hf : env.frame = some L) (he : s.heap.get? a = some oe) (hd : oe.data = .fields vs) (h1 : vs[1]? = some (.ref T)) (ht : TbAt s.heap T) (nTa : T ≠ a)
    (h : ∀ h' k, (∀ b o, b ≠ T -> s.heap.get? b = some o -> k.get? b = some o) -> TbAt k T -> k.objs.size = s.heap.objs.size -> Lft (frs (env :: outer)) a s.heap.objs.size k h' -> h'.get? a = some (oe.mapFields (·.setIfInBounds 1 (.ref s.heap.objs.size))) -> Q () { s with heap := h' }) : wpAny M A (leaving env (.ref a)) Q E s := by
  obtain ⟨oT, ts, hT, dT, t3⟩ := ht
  have s3 : 3 < ts.size := (Array.getElem?_eq_some_iff.mp t3).1
  unfold leaving noteFrame
  simp only [hf]
  refine wpAny_bind (wpAny_bind (wpAny_field he hd h1 ?_))
  rw [if_pos (show (Value.ref T != Value.none) = true by simp)]
  refine wpAny_bind (wpAny_field hT dT t3 ?_)
  rw [if_neg (show ¬ ((Value.none == rawInt L) = true) by simp [rawInt])]
  refine wpAny_bind (wpAny_setField hT dT s3 ?_)
  have oth : ∀ b, b ≠ T -> (s.heap.update T (Obj.mapFields (·.setIfInBounds 3 Value.none))).get? b = s.heap.get? b := fun b nb => Heap.get?_update_other _ _ (Ne.symm nb)
  have d4 := Obj.data_mapFields dT (·.setIfInBounds 3 Value.none)
  have tT : TbAt (s.heap.update T (Obj.mapFields (·.setIfInBounds 3 Value.none))) T := ⟨_, _, Heap.get?_update_self _ hT (Obj.isFreed_of_fields d4), d4, by simp [s3]⟩
  have zz : (s.heap.update T (Obj.mapFields (·.setIfInBounds 3 Value.none))).objs.size = s.heap.objs.size := Heap.size_after_update ..
  have nfT : ∀ b o, s.heap.get? b = some o -> (∀ ws, o.data ≠ .fields ws) -> b ≠ T := fun b o e nf z => by
    rw [z, hT] at e
    cases e
    exact nf ts dT
  refine entry_lft (s := { s with heap := s.heap.update T (Obj.mapFields (·.setIfInBounds 3 Value.none)) }) hfr (hl.of_keeps fun b o e nf => ⟨o, (oth b (nfT b o e nf)).trans e, rfl⟩) hf ((oth a (Ne.symm nTa)).trans he) hd (Array.getElem?_eq_some_iff.mp h1).1 fun h' lf ea => ?_
  exact h h' _ (fun b o nb e => (oth b nb).trans e) tT zz (by rw [<- zz]; exact lf) (by rw [<- zz]; exact ea)
end
def TbO (T : Addr) : HO := .ext fun h => TbAt h T
def FlyO (a C : Addr) (d : Option Addr) (T : Addr) : HO := .ext fun h => ∃ vs, h.get? a = some { cls := .ref C, dict := d, data := .fields vs } /\ vs[1]? = some (.ref T)
theorem tbO_ok {P : Program} {w : World} {H : Hp} {h : Heap} {T : Addr} (q : TbAt h T) : ObjOk P w H h T (TbO T) := by
  refine ⟨q, ?_, fun h1 h2 ⟨oT, ts, e, r⟩ k => ⟨oT, ts, k _ e, r⟩⟩
  obtain ⟨oT, ts, e, _⟩ := q
  exact ⟨oT, e⟩
theorem flyO_ok {P : Program} {w : World} {H : Hp} {h : Heap} {a C T : Addr} {d : Option Addr} {vs : Array Value} (q : h.get? a = some { cls := .ref C, dict := d, data := .fields vs }) (h1 : vs[1]? = some (.ref T)) : ObjOk P w H h a (FlyO a C d T) :=
  ⟨⟨vs, q, h1⟩, ⟨_, q⟩, fun _ _ ⟨vs, e, r⟩ k => ⟨vs, k _ e, r⟩⟩
def FlyAt (H : Hp) (a C : Addr) (fs : List (Str × V)) : Prop := ∃ T d, H T = some (TbO T) /\ T ≠ a /\ H a = some (FlyO a C d T) /\ ((d = none /\ fs = []) \/ ∃ dx, d = some dx /\ H dx = some (DctO dx fs) /\ dx ≠ a /\ dx ≠ T)
def CXE (P : Program) (w : World) : CXT := fun outer H s E e s' => ∃ (a : Addr) (H' : Hp), e = .ref a /\ s'.os = s.os /\ AllBare s'.gens /\ Un (frs outer) [] H H' s.heap s'.heap /\ HOk P w H' s'.heap /\ E e none H'
section
variable {P : Program} {w : World} {K : W.Frag} {mg : Str -> Option Value} {base : Heap} {N : List Str} {qual : Str} {scope : Scope} {f : Addr} {cd : Value} {A : Around} {outer : List Env} {s0 : Shared} {H0 : Hp} {E : XK}
variable {pins : List (Addr × Obj)} {σ : St} {H : Hp} {s : Shared}
theorem left_ok {a T : Addr} {oa : HO} {k h' : Heap} (I : Inv (cxOf (CXE P w) P w K mg base N qual scope f cd A outer s0 H0 E) pins σ H s) (mu : ∃ φ, H a = some (.ext φ)) (hT : T = s.heap.objs.size) (lf : Lft (frs (envOfC qual scope s0.heap.objs.size f cd :: outer)) a T k h')
    (hk : ∀ b o, (∀ φ, H b ≠ some (.ext φ)) -> s.heap.get? b = some o -> k.get? b = some o) (hkt : ∀ b o, s.heap.get? b = some o -> ∃ o', k.get? b = some o') (hext : ∀ b φ, H b = some (.ext φ) -> b ≠ a -> φ s.heap -> ObjOk P w (upd (upd H a oa) T (TbO T)) h' b (.ext φ))
    (ha : ∃ o, h'.get? a = some o) (hoa : ObjOk P w (upd (upd H a oa) T (TbO T)) h' a oa) :
    Un (frs outer) [] H0 (upd (upd H a oa) T (TbO T)) s0.heap h' /\ HOk P w (upd (upd H a oa) T (TbO T)) h' := by
  obtain ⟨φa, eA⟩ := mu
  have fT : H T = none := by rw [hT]; exact I.fresh
  have naT : a ≠ T := ne_of_none eA fT
  have top : (cxOf (CXE P w) P w K mg base N qual scope f cd A outer s0 H0 E).stack = envOfC qual scope s0.heap.objs.size f cd :: outer := rfl
  have frN : ∀ b ∈ frs (envOfC qual scope s0.heap.objs.size f cd :: outer), H b = none := fun b hb => I.stkFree b hb
  have sub : ∀ b ∈ frs (envOfC qual scope s0.heap.objs.size f cd :: outer), b ∈ s0.heap.objs.size :: frs outer := fun b hb => I.stkSub b hb
  have sup : ∀ b ∈ frs outer, b ∈ frs (envOfC qual scope s0.heap.objs.size f cd :: outer) := fun b hb => by
    show b ∈ List.filterMap (·.frame) (envOfC qual scope s0.heap.objs.size f cd :: outer)
    rw [List.filterMap_cons]
    exact List.mem_cons_of_mem _ hb
  have zs : s0.heap.objs.size <= s.heap.objs.size := I.sz
  have nex : ∀ b, H b = none -> ∀ φ, H b ≠ some (.ext φ) := fun b e φ z => by rw [e] at z; cases z
  have u := I.base
  have in0 : ∀ b o, s0.heap.get? b = some o -> b ≠ T /\ b ≠ s0.heap.objs.size := fun b o e => ⟨Nat.ne_of_lt (Nat.lt_of_lt_of_le (Heap.lt_size e) (by rw [hT]; exact zs)), Nat.ne_of_lt (Heap.lt_size e)⟩
  have old : ∀ b u, H b = some u -> (∀ φ, u ≠ .ext φ) -> upd (upd H a oa) T (TbO T) b = some u := fun b u e nx => by
    rw [upd_ne (ne_of_none e fT), upd_ne (fun z => by rw [z, eA] at e; cases e; exact nx _ rfl)]; exact e
  refine ⟨⟨fun b o e n nf _ => ?_, fun b o e n hf _ => ?_, fun b o e n _ => ?_, fun b o e _ => ?_, fun b xs e => ?_, fun b o u' e => ?_, fun b ps e => ?_⟩, fun b u' e => ?_⟩
  . have e1 := u.keep b o e n nf (fun z => nomatch z)
    have n1 := u.free b o e n (fun z => nomatch z)
    refine lf.keep b o (fun hb => ?_) (ne_of_none eA n1).symm (hk b o (nex b n1) e1)
    rcases List.mem_cons.mp (sub b hb) with z | z
    . exact (in0 b o e).2 z
    . exact nf z
  . obtain ⟨sl, e1⟩ := u.slot b o e n hf (fun z => nomatch z)
    have n1 := u.free b o e n (fun z => nomatch z)
    obtain ⟨sl2, e2⟩ := lf.slot b _ (sup b hf) (hk b _ (nex b n1) e1)
    exact ⟨sl2, e2⟩
  . have n1 := u.free b o e n (fun z => nomatch z)
    rw [upd_ne (in0 b o e).1, upd_ne (ne_of_none eA n1).symm]; exact n1
  . obtain ⟨o1, e1⟩ := u.there b o e (fun z => nomatch z)
    obtain ⟨o2, e2⟩ := hkt b o1 e1
    by_cases hb : b ∈ frs (envOfC qual scope s0.heap.objs.size f cd :: outer)
    . obtain ⟨sl, e3⟩ := lf.slot b o2 hb e2
      exact ⟨_, e3⟩
    . by_cases hba : b = a
      . rw [hba]; exact ha
      . exact ⟨o2, lf.keep b o2 hb hba e2⟩
  . exact old b _ (u.tups b xs e) (fun φ z => nomatch z)
  . exact old b _ (u.frzs b o u' e) (fun φ z => nomatch z)
  . obtain ⟨more, e1⟩ := u.tbls b ps e
    exact ⟨more, old b _ e1 (fun φ z => nomatch z)⟩
  . by_cases hbT : b = T
    . rw [hbT, upd_same] at e
      cases e
      rw [hbT]
      exact tbO_ok lf.tb
    . rw [upd_ne hbT] at e
      by_cases hba : b = a
      . rw [hba, upd_same] at e
        cases e
        rw [hba]
        exact hoa
      . rw [upd_ne hba] at e
        have nb : b ∉ frs (envOfC qual scope s0.heap.objs.size f cd :: outer) := fun hb => by rw [frN b hb] at e; cases e
        by_cases hx : ∃ φ, u' = .ext φ
        . obtain ⟨φ, rfl⟩ := hx
          exact hext b φ e hba (I.hok b _ e).1
        . have nx : ∀ φ, H b ≠ some (.ext φ) := fun φ z => hx ⟨φ, by rw [e] at z; cases z; rfl⟩
          refine (I.hok b u' e).stay (fun c v hc q => ?_) (fun c q => old c _ q (fun φ z => nomatch z)) fun c xs q => old c _ q (fun φ z => nomatch z)
          rcases hc with rfl | hc
          . exact lf.keep c v nb hba (hk c v nx q)
          . exact lf.keep c v (fun hb => by rw [frN c hb] at hc; cases hc) (fun z => by rw [z, eA] at hc; cases hc) (hk c v (fun φ z => by rw [hc] at z; cases z) q)
theorem xe_first {a C : Addr} {fs : List (Str × V)} (I : Inv (cxOf (CXE P w) P w K mg base N qual scope f cd A outer s0 H0 E) pins σ H s) (x : XAt H a C fs)
    (hE : ∀ H', FlyAt H' a C fs -> (∀ b o, b ≠ a -> H b = some o -> H' b = some o) -> E (.ref a) none H') : (cxOf (CXE P w) P w K mg base N qual scope f cd A outer s0 H0 E).xe (.ref a) s := by
  obtain ⟨t, hx⟩ := x
  have go : ∀ d, H a = some (ExcO a C t d) -> ((d = none /\ fs = []) \/ ∃ dx, d = some dx /\ H dx = some (DctO dx fs) /\ dx ≠ a) -> (cxOf (CXE P w) P w K mg base N qual scope f cd A outer s0 H0 E).xe (.ref a) s := fun d ea hd => by
    have ho : s.heap.get? a = some (excObj C t d) := (I.hok a _ ea).1
    show wpAny (model P w) (A.deeper (envOfC qual scope s0.heap.objs.size f cd)) (leaving (envOfC qual scope s0.heap.objs.size f cd) (.ref a)) _ _ s
    refine leave_first (base := base) I.ok.frames I.stack (L := s0.heap.objs.size) rfl ho rfl rfl fun h' lf ea' => ?_
    have eaO : h'.get? a = some { cls := .ref C, dict := d, data := .fields ((#[.ref t, .none, .none, .none, .bool false, .none] : Array Value).setIfInBounds 1 (.ref s.heap.objs.size)) } := ea'
    have fT : H s.heap.objs.size = none := I.fresh
    have naT : a ≠ s.heap.objs.size := ne_of_none ea fT
    have fr : ∀ b u, H b = some u -> b ∉ frs (envOfC qual scope s0.heap.objs.size f cd :: outer) := fun b u e hb => by
      rw [show H b = none from I.stkFree b hb] at e; cases e
    obtain ⟨un, ok⟩ := left_ok (oa := FlyO a C d s.heap.objs.size) (k := s.heap) I ⟨_, ea⟩ rfl lf (fun _ _ _ e => e) (fun _ o e => ⟨o, e⟩)
      (fun b φ e nb p => by
        obtain ⟨_, ⟨o, ho'⟩, st⟩ := I.hok b _ e
        exact ⟨st _ _ p fun o q => lf.keep b o (fr b _ e) nb q, ⟨o, lf.keep b o (fr b _ e) nb ho'⟩, st⟩) ⟨_, eaO⟩ (flyO_ok eaO rfl)
    refine ⟨a, _, rfl, I.os, I.bare, un, ok, hE _ ⟨s.heap.objs.size, d, upd_same, Ne.symm naT, by rw [upd_ne naT]; exact upd_same, ?_⟩ fun b o nb e => by rw [upd_ne (ne_of_none e fT), upd_ne nb]; exact e⟩
    rcases hd with hd | ⟨dx, e1, e2, e3⟩
    . exact .inl hd
    . exact .inr ⟨dx, e1, by rw [upd_ne (ne_of_none e2 fT), upd_ne e3]; exact e2, e3, ne_of_none e2 fT⟩
  rcases hx with ⟨h1, h2⟩ | ⟨dx, h1, h2, h3⟩
  . exact go none h1 (.inl ⟨rfl, h2⟩)
  . exact go (some dx) h1 (.inr ⟨dx, rfl, h2, h3⟩)
theorem xe_next {a C : Addr} {fs : List (Str × V)} (I : Inv (cxOf (CXE P w) P w K mg base N qual scope f cd A outer s0 H0 E) pins σ H s) (x : FlyAt H a C fs)
    (hE : ∀ H', FlyAt H' a C fs -> (∀ b o, b ≠ a -> H b = some o -> H' b = some o) -> E (.ref a) none H') : (cxOf (CXE P w) P w K mg base N qual scope f cd A outer s0 H0 E).xe (.ref a) s := by
  obtain ⟨T, d, eT, nTa, ea, hd⟩ := x
  obtain ⟨vs, ho, h1⟩ := (I.hok a _ ea).1
  have tT : TbAt s.heap T := (I.hok T _ eT).1
  show wpAny (model P w) (A.deeper (envOfC qual scope s0.heap.objs.size f cd)) (leaving (envOfC qual scope s0.heap.objs.size f cd) (.ref a)) _ _ s
  refine leave_next (base := base) I.ok.frames I.stack (L := s0.heap.objs.size) rfl ho rfl h1 tT nTa fun h' k kk kT kz lf ea' => ?_
  have hsz : 1 < vs.size := (Array.getElem?_eq_some_iff.mp h1).1
  have eaO : h'.get? a = some { cls := .ref C, dict := d, data := .fields (vs.setIfInBounds 1 (.ref s.heap.objs.size)) } := ea'
  have fT : H s.heap.objs.size = none := I.fresh
  have naT : a ≠ s.heap.objs.size := ne_of_none ea fT
  have fr : ∀ b u, H b = some u -> b ∉ frs (envOfC qual scope s0.heap.objs.size f cd :: outer) := fun b u e hb => by
    rw [show H b = none from I.stkFree b hb] at e; cases e
  obtain ⟨un, ok⟩ := left_ok (oa := FlyO a C d s.heap.objs.size) (k := k) I ⟨_, ea⟩ rfl lf (fun b o nx e => kk b o (fun z => by subst z; exact nx _ eT) e)
    (fun b o e => by
      by_cases z : b = T
      . obtain ⟨oT, _, e', _⟩ := kT
        exact ⟨oT, by rw [z]; exact e'⟩
      . exact ⟨o, kk b o z e⟩)
    (fun b φ e nb p => by
      by_cases z : b = T
      . rw [z, eT] at e
        cases e
        obtain ⟨oT, ts, e', r⟩ := kT
        have e2 := lf.keep T oT (fr T _ eT) nTa e'
        rw [z]
        exact tbO_ok ⟨oT, ts, e2, r⟩
      . obtain ⟨_, ⟨o, ho'⟩, st⟩ := I.hok b _ e
        exact ⟨st _ _ p fun o q => lf.keep b o (fr b _ e) nb (kk b o z q), ⟨o, lf.keep b o (fr b _ e) nb (kk b o z ho')⟩, st⟩) ⟨_, eaO⟩ (flyO_ok eaO (by simp [hsz]))
  refine ⟨a, _, rfl, I.os, I.bare, un, ok, hE _ ⟨s.heap.objs.size, d, upd_same, Ne.symm naT, by rw [upd_ne naT]; exact upd_same, ?_⟩ fun b o nb e => by rw [upd_ne (ne_of_none e fT), upd_ne nb]; exact e⟩
  rcases hd with hd | ⟨dx, e1, e2, e3, e4⟩
  . exact .inl hd
  . exact .inr ⟨dx, e1, by rw [upd_ne (ne_of_none e2 fT), upd_ne e3]; exact e2, e3, ne_of_none e2 fT⟩
def EX (H0 : Hp) (R : Addr -> Hp -> Prop) : XK := fun e _ H' => ∃ a, e = .ref a /\ H0 a = none /\ Same H0 H' /\ R a H'
end
section
variable {M : Model} {A : Around} {E : Value -> Shared -> Prop} {s : Shared} {env : Env}
variable {nm q : Str} {C N : Addr} {bs bm : List Value} {hdct : Bool} {sn : List Str} {sub : List Value} {ab : Bool} {col : Option Bool} {dd : Option Addr} {k0 k1 k2 k3 k5 : Option Value} {newId : String}
theorem raise_made {x : Sem Value} {Q : Flow -> Shared -> Prop} (hbase : bm.contains (.type "BaseException") = true) (hh : A.handled = none)
    (h : wpAny M A x (fun v s₁ => ∃ a t d, v = .ref a /\ s₁.heap.get? C = some (excClassObj nm q C N bs bm hdct sn sub ab col dd k0 k1 k2 k3 k5 newId) /\ s₁.heap.get? a = some (excObj C t d) /\ E (.ref a) s₁) E s) :
    wpAny M A (raiseStmt env (some x) none) Q E s := by
  have cB : (Value.ref C :: bm).contains (.type "BaseException") = true := by rw [List.contains_cons, hbase, Bool.or_true]
  unfold raiseStmt
  refine wpAny_bind (wpAny_mono h (fun v s₁ h₁ => ?_) fun _ _ y => y)
  obtain ⟨a, t, d, rfl, hC, ha, hE⟩ := h₁
  obtain ⟨hp, g, dr, tk, os⟩ := s₁
  repeat (first | with_reducible refine wpAny_loadPart_at ha ?_ | with_reducible refine wpAny_loadPart_at hC ?_ | (with_reducible refine wpAny_isSubtype_exc hC ?_; rw [cB]) | wp_step)
  exact wpAny_raiseNew_none hh hE
end
section
variable {X : Cx} {C M : Addr}
def tRaise (C : Addr) (te : TE) (RX : Addr -> List (Str × V) -> Hp -> Prop) : TS := fun _ σ H => te σ H fun v H1 => ∃ a fs, v = .ref a /\ XAt H1 a C fs /\ RX a fs H1
theorem ps_raise {ex : Expr} {te : TE} {pos : Pos} {RX : Addr -> List (Str × V) -> Hp -> Prop} (xc : XC X.K C M) (hc : X.calm = true) (he : PE X ex te)
    (hx : ∀ pins σ H s a fs, Inv X pins σ H s -> XAt H a C fs -> RX a fs H -> X.xe (.ref a) s) : PS X (.Raise (some ex) none pos) (tRaise C te RX) := by
  intro pins s σ H D I h
  obtain ⟨nm, q, N, bs, sn, sub, ab, col, dd, k0, k1, k2, k3, k5, e⟩ := xc.at_
  rw [arm_exec_Raise]
  have key : wpAny (model X.prog X.w) X.A (raiseStmt X.env (some (do let v <- eval ex X.env; standAt pos; pure v)) none) (SP X pins D) X.xe s := by
    refine raise_made (C := C) (nm := nm) (q := q) (N := N) (bs := bs) (bm := .ref M :: vTail) (hdct := true) (sn := sn) (sub := sub) (ab := ab) (col := col) (dd := dd) (k0 := k0) (k1 := k1) (k2 := k2) (k3 := k3) (k5 := k5) (newId := "ValueError.__new__") (by simp [vTail]) (I.ok.hd hc) (wpAny_bind (thn (he pins s σ H _ I h) fun v s1 ⟨x, H1, I1, rx, a, fs, ex, hX, r⟩ => wpAny_bind (wpAny_standAt (wpAny_pure ?_))))
    subst ex
    cases rx
    have hE := hx pins σ H1 s1 a fs I1 hX r
    obtain ⟨t, hX⟩ := hX
    rcases hX with ⟨h1, _⟩ | ⟨dx, h1, _, _⟩
    . exact ⟨a, t, none, rfl, I1.kIn _ _ e, I1.exc h1, hE⟩
    . exact ⟨a, t, some dx, rfl, I1.kIn _ _ e, I1.exc h1, hE⟩
  first
    | exact wpAny_bind (wpAny_standAt key)
    | (simp only [evalOpt, Option.map]; exact wpAny_bind (wpAny_standAt key))
    | (show wpAny _ _ (do standAt pos; raiseStmt X.env (some (do let v <- eval ex X.env; standAt pos; pure v)) none) _ _ _; exact wpAny_bind (wpAny_standAt key))
end
section
variable {P : Program} {w : World} {K : W.Frag} {mg : Str -> Option Value} {base : Heap}
theorem Fun.okX {x qual : Str} {st : Stmt} {f : Addr} {fd : FuncData} {N ps : List Str} {k : Nat} {sp : Sp} (F : Fun K x qual st f fd) (S : FnScope N ps (defScope st)) (len : ∀ vs H Q E, sp vs H Q E -> vs.length = ps.length)
    (hbody : ∀ (cdv : Value) (A : Around) (outer : List Env) (s : Shared) (H : Hp) (vs : List V) (Q : VK) (E : XK), Room k (A.deeper (envOfC qual (defScope st) s.heap.objs.size f cdv)) -> sp vs H Q E ->
      ∃ t, PSs (cxOf (CXE P w) P w K mg base N qual (defScope st) f cdv A outer s H E) (defBody st) t /\ t { nx := fun _ H' => Q .non H', rt := Q } (start N vs) H) : FnOk P w K mg base (CXE P w) (k + 1) f fd ps sp := by
  obtain ⟨oc, od, kV, doc, pm, an, cdv, ct, osl, rfl, lk, hcd⟩ := F.ex
  exact fn_of lk hcd S len fun A outer s H vs Q E hr hsp => hbody cdv A outer s H vs Q E hr hsp
def RNew (H0 : Hp) (E : XK) (C : Addr) : Addr -> List (Str × V) -> Hp -> Prop := fun a fs H1 => H0 a = none /\ Same H0 H1 /\ ∀ H', Same H0 H' -> FlyAt H' a C fs -> E (.ref a) none H'
theorem raise_new {N : List Str} {qual : Str} {scope : Scope} {f : Addr} {cd : Value} {A : Around} {outer : List Env} {s0 : Shared} {H0 : Hp} {E : XK} {C : Addr} :
    ∀ pins σ H s a fs, Inv (cxOf (CXE P w) P w K mg base N qual scope f cd A outer s0 H0 E) pins σ H s -> XAt H a C fs -> RNew H0 E C a fs H -> (cxOf (CXE P w) P w K mg base N qual scope f cd A outer s0 H0 E).xe (.ref a) s :=
  fun _ _ _ _ a _ I x ⟨na, sm, r⟩ => xe_first I x fun H' fl k => r H' (fun b o q => k b o (ne_of_none q na) (sm b o q)) fl
end
theorem upd_eq {H : Hp} {a : Addr} {o : HO} (h : H a = some o) : upd H a o = H := by
  funext b
  unfold upd
  by_cases z : b = a
  . rw [if_pos z, z, h]
  . rw [if_neg z]
section
variable {M : Model} {A : Around} {E : Value -> Shared -> Prop} {s : Shared} {base : Heap} {env : Env} {outer : List Env} {L a : Addr} {oe : Obj} {vs : Array Value} {Q : Unit -> Shared -> Prop}
theorem note_next {T : Addr} (hfr : A.frames = some (env :: outer)) (hl : s.heap.FunFrames base (env :: outer)) (hf : env.frame = some L) (he : s.heap.get? a = some oe) (hd : oe.data = .fields vs) (h1 : vs[1]? = some (.ref T)) (ht : TbAt s.heap T) (nTa : T ≠ a)
    (h : ∀ h' k, (∀ b o, b ≠ T -> s.heap.get? b = some o -> k.get? b = some o) -> TbAt k T -> Lft (frs (env :: outer)) a s.heap.objs.size k h' -> h'.get? a = some (oe.mapFields (·.setIfInBounds 1 (.ref s.heap.objs.size))) -> Q () { s with heap := h' }) :
    wpAny M A (noteFrame (.ref a) env) (fun _ s' => wpAny M A (setFlight (.ref a) none) Q E s') E s := by
  obtain ⟨oT, ts, hT, dT, t3⟩ := ht
  have s3 : 3 < ts.size := (Array.getElem?_eq_some_iff.mp t3).1
  unfold noteFrame
  simp only [hf]
  refine wpAny_bind (wpAny_field he hd h1 ?_)
  rw [if_pos (show (Value.ref T != Value.none) = true by simp)]
  refine wpAny_bind (wpAny_field hT dT t3 ?_)
  rw [if_neg (show ¬ ((Value.none == rawInt L) = true) by simp [rawInt])]
  refine wpAny_bind (wpAny_setField hT dT s3 ?_)
  have oth : ∀ b, b ≠ T -> (s.heap.update T (Obj.mapFields (·.setIfInBounds 3 Value.none))).get? b = s.heap.get? b := fun b nb => Heap.get?_update_other _ _ (Ne.symm nb)
  have d4 := Obj.data_mapFields dT (·.setIfInBounds 3 Value.none)
  have tT : TbAt (s.heap.update T (Obj.mapFields (·.setIfInBounds 3 Value.none))) T := ⟨_, _, Heap.get?_update_self _ hT (Obj.isFreed_of_fields d4), d4, by simp [s3]⟩
  have zz : (s.heap.update T (Obj.mapFields (·.setIfInBounds 3 Value.none))).objs.size = s.heap.objs.size := Heap.size_after_update ..
  have nfT : ∀ b o, s.heap.get? b = some o -> (∀ ws, o.data ≠ .fields ws) -> b ≠ T := fun b o e nf z => by
    rw [z, hT] at e
    cases e
    exact nf ts dT
  refine entry_lft (s := { s with heap := s.heap.update T (Obj.mapFields (·.setIfInBounds 3 Value.none)) }) hfr (hl.of_keeps fun b o e nf => ⟨o, (oth b (nfT b o e nf)).trans e, rfl⟩) hf ((oth a (Ne.symm nTa)).trans he) hd (Array.getElem?_eq_some_iff.mp h1).1 fun h' lf ea => ?_
  exact h h' _ (fun b o nb e => (oth b nb).trans e) tT (by rw [<- zz]; exact lf) (by rw [<- zz]; exact ea)
end
section
variable {X : Cx} {pins : List (Addr × Obj)} {σ : St} {H : Hp} {s : Shared} {a C : Addr} {fs : List (Str × V)} {A' : Around} {E' : Value -> Shared -> Prop} {Q : Unit -> Shared -> Prop}
theorem land (I : Inv X pins σ H s) (x : FlyAt H a C fs) (hst : X.stack = X.env :: X.outer) (hf : X.env.frame = some X.env.locals) (hA : A'.frames = X.A.frames)
    (h : ∀ h' H', Inv X pins σ H' { s with heap := h' } -> FlyAt H' a C fs -> (∀ b o, b ≠ a -> H b = some o -> H' b = some o) -> Q () { s with heap := h' }) :
    wpAny (model X.prog X.w) A' (noteFrame (.ref a) X.env) (fun _ s' => wpAny (model X.prog X.w) A' (setFlight (.ref a) none) Q E' s') E' s := by
  obtain ⟨T, d, eT, nTa, ea, hd⟩ := x
  obtain ⟨vs, ho, h1⟩ := (I.hok a _ ea).1
  have tT : TbAt s.heap T := (I.hok T _ eT).1
  have stk := I.stack
  have frm := I.ok.frames
  rw [hst] at stk frm
  refine note_next (base := X.base) (hA.trans frm) stk hf ho rfl h1 tT nTa fun h' k kk kT lf ea' => ?_
  rw [<- hst] at lf
  have hsz : 1 < vs.size := (Array.getElem?_eq_some_iff.mp h1).1
  have eaO : h'.get? a = some { cls := .ref C, dict := d, data := .fields (vs.setIfInBounds 1 (.ref s.heap.objs.size)) } := ea'
  have fT : H s.heap.objs.size = none := I.fresh
  have naT : a ≠ s.heap.objs.size := ne_of_none ea fT
  have fr : ∀ b u, H b = some u -> b ∉ frs X.stack := fun b u e hb => by
    rw [I.stkFree b hb] at e; cases e
  have nex : ∀ b, (∀ φ, H b ≠ some (.ext φ)) -> b ≠ T := fun b nx z => by subst z; exact nx _ eT
  have old : ∀ b u, H b = some u -> (∀ φ, u ≠ .ext φ) -> upd (upd H a (FlyO a C d s.heap.objs.size)) s.heap.objs.size (TbO s.heap.objs.size) b = some u := fun b u e nx => by
    rw [upd_ne (ne_of_none e fT), upd_ne (fun z => by rw [z, ea] at e; cases e; exact nx _ rfl)]; exact e
  have non : ∀ b, H b = none -> b ≠ a /\ b ≠ T := fun b n => ⟨(ne_of_none ea n).symm, (ne_of_none eT n).symm⟩
  have un : Un (frs X.stack) [] H (upd (upd H a (FlyO a C d s.heap.objs.size)) s.heap.objs.size (TbO s.heap.objs.size)) s.heap h' := by
    refine ⟨fun b o e n nf _ => lf.keep b o nf (non b n).1 (kk b o (non b n).2 e), fun b o e n hb _ => lf.slot b o hb (kk b o (non b n).2 e), fun b o e n _ => ?_, fun b o e _ => ?_, fun b xs e => old b _ e (fun φ z => nomatch z), fun b o u e => old b _ e (fun φ z => nomatch z), fun b ps e => ⟨#[], by rw [old b _ e (fun φ z => nomatch z)]; simp⟩⟩
    . rw [upd_ne (Nat.ne_of_lt (Heap.lt_size e)), upd_ne (non b n).1]; exact n
    . have e2 : ∃ o2, k.get? b = some o2 := by
        by_cases z : b = T
        . obtain ⟨oT, _, e', _⟩ := kT
          exact ⟨oT, by rw [z]; exact e'⟩
        . exact ⟨o, kk b o z e⟩
      obtain ⟨o2, e2⟩ := e2
      by_cases hb : b ∈ frs X.stack
      . obtain ⟨sl, e3⟩ := lf.slot b o2 hb e2
        exact ⟨_, e3⟩
      . by_cases hba : b = a
        . rw [hba]; exact ⟨_, eaO⟩
        . exact ⟨o2, lf.keep b o2 hb hba e2⟩
  have hok : HOk X.prog X.w (upd (upd H a (FlyO a C d s.heap.objs.size)) s.heap.objs.size (TbO s.heap.objs.size)) h' := fun b u e => by
    by_cases hbT : b = s.heap.objs.size
    . rw [hbT, upd_same] at e
      cases e
      rw [hbT]
      exact tbO_ok lf.tb
    . rw [upd_ne hbT] at e
      by_cases hba : b = a
      . rw [hba, upd_same] at e
        cases e
        rw [hba]
        exact flyO_ok eaO (by simp [hsz])
      . rw [upd_ne hba] at e
        by_cases z : b = T
        . rw [z, eT] at e
          cases e
          obtain ⟨oT, ts, e', r⟩ := kT
          rw [z]
          exact tbO_ok ⟨oT, ts, lf.keep T oT (fr T _ eT) nTa e', r⟩
        . refine (I.hok b u e).stay (fun c v hc q => ?_) (fun c q => old c _ q (fun φ z => nomatch z)) fun c xs q => old c _ q (fun φ z => nomatch z)
          rcases hc with rfl | hc
          . exact lf.keep c v (fr c _ e) hba (kk c v z q)
          . exact lf.keep c v (fr c _ hc) (fun y => by rw [y, ea] at hc; cases hc) (kk c v (fun y => by rw [y, eT] at hc; cases hc) q)
  refine h h' _ (I.call' (s' := { s with heap := h' }) (ch := []) rfl un hok I.bare (fun _ z => nomatch z)) ⟨s.heap.objs.size, d, upd_same, Ne.symm naT, by rw [upd_ne naT]; exact upd_same, ?_⟩ fun b o nb e => by rw [upd_ne (ne_of_none e fT), upd_ne nb]; exact e
  rcases hd with hd | ⟨dx, e1, e2, e3, e4⟩
  . exact .inl hd
  . exact .inr ⟨dx, e1, by rw [upd_ne (ne_of_none e2 fT), upd_ne e3]; exact e2, e3, ne_of_none e2 fT⟩
theorem flight (I : Inv X pins σ H s) (x : FlyAt H a C fs) (h : ∀ h', Inv X pins σ H { s with heap := h' } -> Q () { s with heap := h' }) : wpAny (model X.prog X.w) A' (setFlight (.ref a) none) Q E' s := by
  obtain ⟨T, d, eT, nTa, ea, hd⟩ := x
  obtain ⟨vs, ho, h1⟩ := (I.hok a _ ea).1
  obtain ⟨oT, ts, hT, dT, t3⟩ := (I.hok T _ eT).1
  have s3 : 3 < ts.size := (Array.getElem?_eq_some_iff.mp t3).1
  unfold setFlight
  refine wpAny_bind (wpAny_field ho rfl h1 ?_)
  rw [if_pos (show (Value.ref T != Value.none) = true by simp)]
  refine wpAny_setField hT dT s3 ?_
  have d4 := Obj.data_mapFields dT (·.setIfInBounds 3 ((none : Option Addr).elim Value.none fun f => rawInt f))
  have e4 := Heap.get?_update_self (Obj.mapFields (·.setIfInBounds 3 ((none : Option Addr).elim Value.none fun f => rawInt f))) hT (Obj.isFreed_of_fields d4)
  have J := I.write (x := T) (e := T) (o := TbO T) (t' := s.toks) (h' := s.heap.update T (Obj.mapFields (·.setIfInBounds 3 ((none : Option Addr).elim Value.none fun f => rawInt f)))) (by rw [eT]; exact trivial) (.inl rfl) (fun b u nb e => (Heap.get?_update_other _ _ (Ne.symm nb)).trans e) ⟨_, e4⟩ (tbO_ok ⟨_, _, e4, d4, by simp [s3]⟩)
  rw [upd_eq eT] at J
  exact h _ J
abbrev Cx.hand (X : Cx) (a : Addr) (E : Value -> Shared -> Prop) : Cx := { X with A := X.A.mark (some (.ref a)), calm := false, xe := E }
theorem Cx.Ok.hand (ok : X.Ok) (a : Addr) (E : Value -> Shared -> Prop) : (X.hand a E).Ok :=
  ⟨ok.mod, ok.kind, ok.glob, ok.blt, ok.above, ok.inj, ok.has, ok.cab, fun z => absurd z Bool.false_ne_true, ok.frames, ok.stk, ok.exf, ok.bs, ok.bsz, ok.noex, ok.exfs, ok.funs, ok.frf⟩
theorem Inv.hand (I : Inv X pins σ H s) (a : Addr) (E : Value -> Shared -> Prop) : Inv (X.hand a E) pins σ H s := ⟨I.ok.hand a E, I.os, I.bare, I.base, I.loc, I.cell, I.free, I.freeC, I.pin, I.hok, I.len⟩
theorem Inv.unhand {a : Addr} {E : Value -> Shared -> Prop} {σ' : St} {H' : Hp} {s' : Shared} (I : Inv (X.hand a E) pins σ' H' s') (ok : X.Ok) : Inv X pins σ' H' s' := ⟨ok, I.os, I.bare, I.base, I.loc, I.cell, I.free, I.freeC, I.pin, I.hok, I.len⟩
abbrev Cx.tried (X : Cx) (E : Value -> Shared -> Prop) (pn : List (Addr × Obj)) : Cx := { X with xe := E, pn := pn }
theorem Inv.tried (I : Inv X pins σ H s) (E : Value -> Shared -> Prop) : Inv (X.tried E (X.pn ++ pins)) [] σ H s :=
  ⟨⟨I.ok.mod, I.ok.kind, I.ok.glob, I.ok.blt, I.ok.above, I.ok.inj, I.ok.has, I.ok.cab, I.ok.hd, I.ok.frames, I.ok.stk, I.ok.exf, I.ok.bs, I.ok.bsz, I.ok.noex, I.ok.exfs, I.ok.funs, I.ok.frf⟩, I.os, I.bare, I.base, I.loc, I.cell, I.free, I.freeC, fun p hp => I.pin p (by simpa using hp), I.hok, I.len⟩
theorem Inv.untried {E : Value -> Shared -> Prop} {pins' : List (Addr × Obj)} {σ' : St} {H' : Hp} {s' : Shared} (I : Inv (X.tried E (X.pn ++ pins)) pins' σ' H' s') (ok : X.Ok) : Inv X pins σ' H' s' :=
  ⟨ok, I.os, I.bare, I.base, I.loc, I.cell, I.free, I.freeC, fun p hp => I.pin p (List.mem_append_left _ hp), I.hok, I.len⟩
theorem unbind_ok {i : Nat} {n : Str} {v : V} (I : Inv X pins σ H s) (hN : X.N.Nodup) (hi : X.N[i]? = some n) (hk : X.env.scope.names.lookup n = some .local) (hv : σ[i]? = some (some v)) (h : ∀ s', Inv X pins (σ.set i none) H s' -> Q () s') :
    wpAny (model X.prog X.w) A' (unbindName X.env n) Q E' s := by
  obtain ⟨m, hn, hl⟩ := id I.loc
  obtain ⟨u, ru, lk⟩ := hl i n v hi hv (.inl hk)
  have hm : m n = some u := by
    rcases lk with ⟨_, e⟩ | ⟨z, _⟩
    . exact e
    . have hk' : X.env.kindOf n = some .local := hk
      rcases z with z | z <;> (rw [hk'] at z; cases z)
  have hiσ : i < σ.length := by rw [I.len]; exact (List.getElem?_eq_some_iff.mp hi).1
  refine wpAny_unbindName_local hk hn hm (by rw [I.ok.kind]; rfl) fun h' u' hn' hs => ?_
  obtain ⟨oL, _, _, hoL, _⟩ := id hn
  have nl : ∀ b o, X.s₀.heap.get? b = some o -> b ≠ X.env.locals := fun b o e => Nat.ne_of_lt (Nat.lt_of_lt_of_le (Heap.lt_size e) I.ok.above)
  refine h _ ⟨I.ok, I.os, I.bare, ⟨fun b o e n' hb hx => (hs.2 b (nl b o e)).trans (I.base.keep b o e n' hb hx), fun b o e n' hb hx => ?_, I.base.free, fun b o e hx => ?_, I.base.tups, I.base.frzs, I.base.tbls⟩, ⟨_, hn', fun j y v' e1 e2 e3 => ?_⟩, fun y c e => ?_, I.free, I.freeC, fun p hp => ?_, fun b ob e => ?_, by simpa using I.len⟩
  . obtain ⟨sl, e1⟩ := I.base.slot b o e n' hb hx
    exact ⟨sl, (hs.2 b (nl b o e)).trans e1⟩
  . obtain ⟨o', e1⟩ := I.base.there b o e hx
    exact ⟨o', (hs.2 b (nl b o e)).trans e1⟩
  . by_cases hj : j = i
    . subst hj
      rw [List.getElem?_set_self hiσ] at e2
      cases e2
    . rw [List.getElem?_set_ne (Ne.symm hj)] at e2
      obtain ⟨u2, r2, q⟩ := hl j y v' e1 e2 e3
      refine ⟨u2, r2, ?_⟩
      rcases q with ⟨k, e⟩ | ⟨k, c, e, z⟩
      . refine .inl ⟨k, ?_⟩
        have ny : y ≠ n := fun e => hj (nodup_ix hN e1 (e ▸ hi))
        show (if y = n then u' else m y) = some u2
        rw [if_neg ny]; exact e
      . exact .inr ⟨k, c, e, z.sameBut hs (I.cne y c e)⟩
  . obtain ⟨w', z⟩ := I.cell y c e
    exact ⟨w', z.sameBut hs (I.cne y c e)⟩
  . obtain ⟨e, n', ne, nf, d⟩ := I.pin p hp
    exact ⟨(hs.2 p.1 ne).trans e, n', ne, nf, d⟩
  . refine (I.hok b ob e).stay (fun c w' hc q => (hs.2 c ?_).trans q) (fun _ q => q) fun _ _ q => q
    rintro rfl
    rcases hc with z | z
    . rw [<- z, I.free] at e; cases e
    . rw [I.free] at z; cases z
end
def EXT (C : Addr) (RX : Addr -> List (Str × V) -> Hp -> Prop) : XK := fun e _ H' => ∃ a fs, e = .ref a /\ FlyAt H' a C fs /\ RX a fs H'
section
variable {X : Cx} {C M : Addr} {RX : Addr -> List (Str × V) -> Hp -> Prop}
theorem SP.untried {pins : List (Addr × Obj)} {E : Value -> Shared -> Prop} {D : Ends} {f : Flow} {s' : Shared} (ok : X.Ok) (h : SP (X.tried E (X.pn ++ pins)) [] D f s') : SP X pins D f s' := by
  cases f with
  | next => obtain ⟨σ', H', I, q⟩ := h; exact ⟨σ', H', I.untried ok, q⟩
  | brk => obtain ⟨σ', H', I, q⟩ := h; exact ⟨σ', H', I.untried ok, q⟩
  | cont => obtain ⟨σ', H', I, q⟩ := h; exact ⟨σ', H', I.untried ok, q⟩
  | ret u => obtain ⟨v, σ', H', I, r, q⟩ := h; exact ⟨v, σ', H', I.untried ok, r, q⟩
end
section
variable {X : Cx} {C M : Addr}
theorem FlyAt.inst {pins : List (Addr × Obj)} {σ : St} {H : Hp} {s : Shared} {a : Addr} {fs : List (Str × V)} (I : Inv X pins σ H s) (x : FlyAt H a C fs) : ∃ ox od, PySem.W.InstAt s.heap a ox C od := by
  obtain ⟨T, d, eT, nTa, ea, hd⟩ := x
  obtain ⟨vs, ho, h1⟩ := (I.hok a _ ea).1
  rcases hd with ⟨rfl, _⟩ | ⟨dx, rfl, h2, _, _⟩
  . exact ⟨_, none, ho, rfl, rfl, trivial⟩
  . obtain ⟨_, ⟨o, ho'⟩, _⟩ := I.hok dx _ h2
    exact ⟨_, some o, ho, rfl, rfl, ho'⟩
def tFldF (C : Addr) (ta : TE) (f : Str) : TE := fun σ H Q => ta σ H fun x H1 => ∃ e fs v, x = .ref e /\ FlyAt H1 e C fs /\ fs.lookup f = some v /\ Q v H1
theorem pe_fldF {e : Expr} {f : Str} {ta : TE} {pos : Pos} (xc : XC X.K C M) (hf : W.findIn X.K (.ref C) f = some none) (he : PE X e ta) (hb : attributeBase e f X.env (eval e X.env) = eval e X.env := by rfl) : PE X (.Attribute e f pos) (tFldF C ta f) := by
  intro pins s σ H Q I h
  refine attr_of hb (thn (he pins s σ H _ I h) fun u s1 ⟨x, H1, I1, rx, q1⟩ => ?_)
  obtain ⟨a, fs, v, rfl, ⟨T, d, eT, nTa, ea, hd⟩, hl, q⟩ := q1
  cases rx
  rcases hd with ⟨_, rfl⟩ | ⟨dx, rfl, h2, _, _⟩
  . cases hl
  . obtain ⟨_, mA, hn, hr, hw⟩ := (I1.hok dx _ h2).1
    obtain ⟨od, hod, hlook⟩ := lookIn_ns hn
    obtain ⟨vs, ho, h1⟩ := (I1.hok a _ ea).1
    have J : PySem.W.InstAt s1.heap a _ C (some od) := ⟨ho, rfl, rfl, hod⟩
    have rv := hr f
    rw [hl] at rv
    obtain ⟨u, eu, ru⟩ := RelO.some_of rv
    unfold getAttr
    exact wpAny_bind (wpAny_mkText (xga_value (s := { s1 with toks := s1.toks + 1 }) I1.kIn J xc.ga xc.gb (xc.isB I1.kIn J) (PySem.W.findObj_own xc.hd hf rfl (by rw [hlook, eu])) (handed_of ru) ⟨v, H1, I1.tok _, ru, q⟩))
theorem call_isiF (xc : XC X.K C M) : CallR X (.builtin "isinstance") (fun xs H Q => ∃ e fs c cv b, xs = [.ref e, c] /\ FlyAt H e C fs /\ RelV c cv /\ (∀ u, RelV c u -> u = cv) /\ W.kitOne X.K (.ref C) cv = some b /\ Q (.bl b) H) := by
  intro pins s σ H xs us Q I r h
  obtain ⟨e, fs, c, cv, b, rfl, hX, rc, hu, hk, q⟩ := h
  obtain ⟨u1, u2, rfl, r1, r2⟩ := r.two
  cases r1
  obtain rfl := hu _ r2
  obtain ⟨ox, od, J⟩ := hX.inst I
  exact PySem.W.kia_one (xc_kit xc) I.kIn J hk (fun z => nomatch z) fun tk => ⟨.bl b, H, I.tok tk, rfl, q⟩
theorem refsV : ∀ {ts : List Addr} {us : List Value}, Vals (ts.map V.ref) us -> us = ts.map Value.ref
  | [], _, .nil => rfl
  | t :: r, _, .cons e q => by
    have e' : _ = Value.ref t := e
    rw [List.map_cons, <- refsV q, e']
theorem call_isiFT (xc : XC X.K C M) : CallR X (.builtin "isinstance") (fun xs H Q => ∃ e fs t, ∃ cs : List Addr, ∃ b, xs = [.ref e, .ref t] /\ FlyAt H e C fs /\ H t = some (.tup (cs.map V.ref)) /\ PySem.W.kitAny X.K (.ref C) (cs.map Value.ref) = some b /\ Q (.bl b) H) := by
  intro pins s σ H xs us Q I r h
  obtain ⟨e, fs, t, cs, b, rfl, hX, hT, hk, q⟩ := h
  obtain ⟨u1, u2, rfl, r1, r2⟩ := r.two
  cases r1
  cases r2
  obtain ⟨ox, od, J⟩ := hX.inst I
  obtain ⟨_, its, r, ⟨o, ho, hc, n, hd⟩⟩ := (I.hok t _ hT)
  have hits : its = cs.map Value.ref := refsV r
  rw [hits] at hd
  obtain ⟨oc, od', odt, osl⟩ := o
  cases hc
  cases hd
  exact PySem.W.kia_tup (xc_kit xc) I.kIn J ho hk (fun z => nomatch z) fun tk => ⟨.bl b, H, I.tok tk, rfl, q⟩
end
section
variable {prog : Program} {w : World} {A : Around} {E : Value -> Shared -> Prop} {s : Shared}
end
open AutoSeq1 (wpAny_loadPart')
section
variable {prog : Program} {w : World} {A : Around} {E : Value -> Shared -> Prop} {s : Shared}
end
section
variable {prog : Program} {w : World} {A : Around} {E : Value -> Shared -> Prop} {s : Shared}
end
section
variable {X : Cx}
end
section
variable {X : Cx}
end
section
variable {X : Cx}
end
end L2
namespace TX
open PySem PySem.Builtin.Str PySem.Calls
section
variable {prog : Program} {w : World} {A : Around} {E : Value -> Shared -> Prop} {s : Shared}
theorem split_call {x y : Str} {t u : Tok} {Q : Value -> Shared -> Prop} (hy : (y.length == 0) = false) (hsz : x.length + 2 <= sizeLine)
    (h : ∀ (l : List (Str × Tok)) (k : Nat), l.map (·.1) = Txt.split x y -> Q (.ref s.heap.objs.size) { s with heap := s.heap.push { cls := .type "list", data := .seq (strValues l).toArray }, toks := k }) :
    wpAny (model prog w) A (call (.builtin "str.split") [.str x t, .str y u]) Q E s := by
  have many : (partsBetween x (occurrences x y 0 x.length (x.length + 1)) y.length).length <= sizeLine := by
    have q := StrLaws.occ_length_le x y 0 x.length (x.length + 1)
    rw [length_partsBetween]
    omega
  by_cases h1 : (decide (x.length < y.length) || decide (strKind x < strKind y)) = true
  . exact call_meets F.slot_str_split (typeIs_str _ _ _) F.entry_str_split (F.args_str_split_2 _ _) (meets_str_split_cannot_occur x y t u h1)
      (h [(x, t)] s.toks (by unfold Txt.split; rw [if_pos h1]; rfl))
  . have h1' := eq_false_of_ne_true h1
    by_cases h2 : (occurrences x y 0 x.length (x.length + 1)).isEmpty = true
    . exact call_meets F.slot_str_split (typeIs_str _ _ _) F.entry_str_split (F.args_str_split_2 _ _) (meets_str_split_not_found x y t u h1' hy h2)
        (h [(x, t)] s.toks (by unfold Txt.split; rw [if_neg h1, if_pos h2]; rfl))
    . have h2' := eq_false_of_ne_true h2
      have e : Txt.split x y = partsBetween x (occurrences x y 0 x.length (x.length + 1)) y.length := by unfold Txt.split; rw [if_neg h1, if_neg h2]
      refine call_meets F.slot_str_split (typeIs_str _ _ _) F.entry_str_split (F.args_str_split_2 _ _) (meets_str_split_sep x y t u h1' hy h2' (by omega) many) ?_
      rw [<- e, strsFrom_eq]
      exact h (numbered s.toks (Txt.split x y)) _ (numbered_texts _ _)
end
theorem meets_enum1 (l : Addr) (t : Tok) (items : Array Value) (n : Nat) (dct : Option Addr) (sl : Array (Option Value)) :
    Meets (Builtin.«enumerate.__new__» ⟨[.type "enumerate", .ref l], [("start", .int 1 t)]⟩) (fun _ R s => s.heap.get? l = some { cls := .type "list", dict := dct, data := .seq items n, slots := sl } /\
      R (.ok (.ret (.ref (s.heap.push { cls := .type "list_iterator", data := .fields #[.ref l, .int 0 0] }).objs.size)))
        { s with heap := (s.heap.push { cls := .type "list_iterator", data := .fields #[.ref l, .int 0 0] }).push { cls := .type "enumerate", data := .fields #[.none, .bool false, .ref s.heap.objs.size, rawInt 1, .none, .none] } }) :=
  .of_wp fun prog w A R s h => by
    obtain ⟨hp1, g1, d1, tk1, os1⟩ := s
    obtain ⟨hl, hq⟩ := h
    have hsub := sub_enumerate
    have hL1 : Heap.IsList (Shared.heap ⟨hp1, g1, d1, tk1, os1⟩) l items := ⟨_, hl, rfl, n, rfl⟩
    wp_walk using AutoSeq1.wpAny_loadPart' hl
    refine wpAny_stack_any fun _ => wpAny_pure ?_
    split
    . rename_i c1 _ _ _ _ _
      cases (c1 == Value.type "enumerate")
      . wp_walk using AutoSeq1.wpAny_loadPart' hl, wpAny_pyIter_list hL1
        exact ⟨_, rfl, hq⟩
      . wp_walk using AutoSeq1.wpAny_loadPart' hl, wpAny_pyIter_list hL1
        exact ⟨_, rfl, hq⟩
    . wp_walk using AutoSeq1.wpAny_loadPart' hl, wpAny_pyIter_list hL1
      exact ⟨_, rfl, hq⟩
end TX
namespace TX
open PySem PySem.Builtin.Str PySem.Calls
section
variable {prog : Program} {w : World} {A : Around} {E : Value -> Shared -> Prop} {s : Shared}
theorem kw_check (a : Value) (t : Tok) : checkTypeCall "enumerate" ⟨[a], [("start", .int 1 t)]⟩ = pure () := by kernel_rfl
theorem kw_new (a : Value) (t : Tok) : checkBuiltinCall "enumerate.__new__" ⟨[.type "enumerate", a], [("start", .int 1 t)]⟩ = pure () := by kernel_rfl
theorem kw_init (a b : Value) (t : Tok) : argsOk "object.__init__" ⟨[a, b], [("start", .int 1 t)]⟩ := by
  unfold argsOk
  rw [signature?_of (id := "object.__init__") (n := "__init__".toList.reverse) (o := "object".toList.reverse) (by kernel_rfl) F.owner_object]
  kernel_rfl
theorem init_kw {T newId : String} {self b : Value} {t : Tok} (hl : typeLookup (.type T) "__init__" = pure (some (.builtin "object.__init__"))) (hm : Bind.madeBy (.type T) = pure (some newId)) (hne : (some newId != some "object.__new__") = true) :
    Meets (Builtin.«object.__init__» ⟨[self, b], [("start", .int 1 t)]⟩) (fun _ R s => s.TypeIs self T /\ R (.ok (.ret .none)) s) := by
  refine Meets.of_wp fun prog w A R s ⟨hT, hq⟩ => ?_
  repeat any_goals first | assumption | wp_step
  exact ⟨_, rfl, hq⟩
theorem call_enum1 {l : Addr} {items : Array Value} {t : Tok} {Q : Value -> Shared -> Prop} (hL : s.heap.IsList l items)
    (h : ∀ h', IsEnum h' (s.heap.objs.size + 1) s.heap.objs.size 1 .none -> h'.IsListIter s.heap.objs.size l 0 -> (∀ b o, s.heap.get? b = some o -> h'.get? b = some o) -> Q (.ref (s.heap.objs.size + 1)) { s with heap := h' }) :
    wpAny (model prog w) A (call (.type "enumerate") [.ref l] [("start", .int 1 t)]) Q E s := by
  obtain ⟨⟨c, dct, dt, sl⟩, hl, hc, n, hd⟩ := hL
  have hc' : c = .type "list" := hc
  have hd' : dt = .seq items n := hd
  subst hc' hd'
  have ft := F.called_enumerate
  obtain ⟨c, tl, hmro⟩ := ft.mro
  have hmade := ft.made
  have hsub := ft.sub
  have hct := kw_check (.ref l) t
  have hcn := kw_new (.ref l) t
  have fin : ∀ s' : Shared, s' = { s with heap := (s.heap.push { cls := .type "list_iterator", data := .fields #[.ref l, .int 0 0] }).push { cls := .type "enumerate", data := .fields #[.none, .bool false, .ref s.heap.objs.size, rawInt 1, .none, .none] } } -> s'.TypeIs (.ref (s.heap.objs.size + 1)) "enumerate" /\ Q (.ref (s.heap.objs.size + 1)) s' := fun s' e => by
    subst e
    have hz : (s.heap.push { cls := .type "list_iterator", data := .fields #[.ref l, .int 0 0] }).objs.size = s.heap.objs.size + 1 := Heap.size_push ..
    have en : IsEnum ((s.heap.push { cls := .type "list_iterator", data := .fields #[.ref l, .int 0 0] }).push { cls := .type "enumerate", data := .fields #[.none, .bool false, .ref s.heap.objs.size, rawInt 1, .none, .none] }) (s.heap.objs.size + 1) s.heap.objs.size 1 .none := by
      rw [<- hz]
      exact Heap.get?_push_size _ rfl
    refine ⟨⟨_, en, rfl⟩, h _ en ⟨_, Heap.get?_push_of_some _ (Heap.get?_push_size _ rfl), rfl, rfl⟩ fun b o q => Heap.get?_push_of_some _ (Heap.get?_push_of_some _ q)⟩
  have hsz : (s.heap.push { cls := .type "list_iterator", data := .fields #[.ref l, .int 0 0] }).objs.size = s.heap.objs.size + 1 := Heap.size_push ..
  refine wpAny_call (codeAny_of_tree ?_)
  show wpAny _ _ (callAny (.type "enumerate") _) _ _ _
  refine wpAny_pure ⟨Code.quiet_builtin _ (by decide +kernel), codeAny_builtin F.entry_type_call ?_⟩
  rw [Around.under_plain (weight_type_call_type "enumerate" [.ref l] [("start", .int 1 t)]) (units_type_call_type "enumerate" [.ref l] [("start", .int 1 t)])]
  have h1 := ft.notType
  have h2 := ft.canCreate
  repeat any_goals first | assumption | wp_step
  refine codeAny_mono (?_ : codeAny _ _ _ (fun r s' => r = .ok (.ret (.ref (s.heap.objs.size + 1))) /\ s'.TypeIs (.ref (s.heap.objs.size + 1)) "enumerate" /\ Q (.ref (s.heap.objs.size + 1)) s') _) fun r s₁ hr => ?_
  . have hN := meets_enum1 l t items n dct sl prog w A.in1 (fun r s' => r = .ok (.ret (.ref (s.heap.objs.size + 1))) /\ s'.TypeIs (.ref (s.heap.objs.size + 1)) "enumerate" /\ Q (.ref (s.heap.objs.size + 1)) s') s ⟨hl, by rw [hsz]; exact ⟨rfl, fin _ rfl⟩⟩
    exact codeAny_call_builtin ft.plain F.entry_enumerate_new (wpAny_of_eq hcn hN)
  . obtain ⟨rfl, hT, hq⟩ := hr
    have hli := ft.init.lookup
    have hbi := ft.init.bind (.ref (s.heap.objs.size + 1))
    repeat any_goals first | assumption | wp_step
    refine codeAny_mono (?_ : codeAny _ _ _ (fun r s' => r = .ok (.ret .none) /\ Q (.ref (s.heap.objs.size + 1)) s') _) fun r₂ s₂ hr₂ => ?_
    . have hI := init_kw (T := "enumerate") (self := .ref (s.heap.objs.size + 1)) (b := .ref l) (t := t) ft.init.lookup ft.made (by decide) prog w A.in1 (fun r s' => r = .ok (.ret .none) /\ Q (.ref (s.heap.objs.size + 1)) s') s₁ ⟨hT, rfl, hq⟩
      exact codeAny_call_builtin ft.init.plain F.entry_object_init (ft.init.check _ _ _ _ _ _ _ _ hT (kw_init _ _ _) hI)
    obtain ⟨rfl, hq2⟩ := hr₂
    repeat any_goals first | assumption | wp_step
end
theorem draws1 {prog : Program} {w : World} {A : Around} (hh : A.handled = none) (it l : Addr) (hne : l ≠ it) (items : Array Value) :
    Draws prog w A it [it, l] (items.size + 1) (fun k x => 1 <= k /\ items[k - 1]? = some x) (fun k h => 1 <= k /\ h.IsListIter it l (k - 1) /\ h.IsList l items) where
  live := fun k h ⟨_, ⟨o, e, _⟩, _⟩ => ⟨o, e⟩
  frame := fun k h h' ⟨h1, h2, h3⟩ kp => ⟨h1, h2.at fun o q => kp it (by simp) o q, by
    obtain ⟨o, e, r⟩ := h3
    exact ⟨o, kp l (by simp) o e, r⟩⟩
  item := fun k s Q E hk ⟨h1, h2, h3⟩ hQ => by
    have hlt : k - 1 < items.size := by omega
    have hx : items[k - 1]? = some items[k - 1] := Array.getElem?_eq_getElem hlt
    refine wpAny_nextOf_list_item h2 h3 hx fun h' li sb => hQ _ h' s.toks ⟨h1, hx⟩ ⟨by omega, ?_, ?_⟩ sb
    . rw [show k + 1 - 1 = k - 1 + 1 by omega]
      exact li
    . obtain ⟨o, e, r⟩ := h3
      exact ⟨o, (sb.2 l hne).trans e, r⟩
  done := fun s Q E ⟨h1, h2, h3⟩ hE => wpAny_nextOf_list_end hh h2 h3 (Array.getElem?_eq_none (by omega)) fun h' e eb he => hE h' e eb he
theorem draws_end {prog : Program} {w : World} {A : Around} (hh : A.handled = none) (it l : Addr) (items : Array Value) (i : Nat) (hi : items.size <= i) :
    Draws prog w A it [it, l] (i + 1) (fun _ _ => True) (fun k h => k = i + 1 /\ h.IsListIter it l i /\ h.IsList l items) where
  live := fun k h ⟨_, ⟨o, e, _⟩, _⟩ => ⟨o, e⟩
  frame := fun k h h' ⟨h1, h2, h3⟩ kp => ⟨h1, h2.at fun o q => kp it (by simp) o q, by
    obtain ⟨o, e, r⟩ := h3
    exact ⟨o, kp l (by simp) o e, r⟩⟩
  item := fun k s Q E hk ⟨h1, _, _⟩ _ => absurd h1 (Nat.ne_of_lt hk)
  done := fun s Q E ⟨_, h2, h3⟩ hE => wpAny_nextOf_list_end hh h2 h3 (Array.getElem?_eq_none hi) fun h' e eb he => hE h' e eb he
end TX
namespace L2
open PySem PySem.Spec PyProof.Rows
section
variable {X : Cx}
theorem vals_values : ∀ (l : List (Str × Tok)), Vals ((l.map (·.1)).map V.str) (strValues l)
  | [] => .nil
  | p :: r => .cons ⟨p.2, rfl⟩ (vals_values r)
def rSplit : V -> List V -> Hp -> VK -> Prop := fun x xs H Q => ∃ z y, x = .str z /\ xs = [.str y] /\ (y.length == 0) = false /\ z.length + 2 <= sizeLine /\ (Txt.split z y).length <= sizeLine /\ ∀ l, H l = none -> Q (.ref l) (upd H l (.lst ((Txt.split z y).map V.str)))
theorem mt_split : MtR X "str.split" rSplit := by
  intro pins s σ H x xs v us Q I rx rs h
  obtain ⟨z, y, rfl, rfl, hy, hz, hl, q⟩ := h
  obtain ⟨t, rfl⟩ := rx
  obtain ⟨u0, rfl, ru⟩ := rs.one
  obtain ⟨u, rfl⟩ := ru
  refine TX.split_call hy hz fun l k e => ?_
  refine ⟨.ref s.heap.objs.size, _, I.laid (t' := k) (fun b o q => Heap.get?_push_of_some _ q) (Nat.le_refl _) (show ObjOk X.prog X.w _ _ _ (.lst ((Txt.split z y).map V.str)) from ⟨by rw [List.length_map]; exact hl, strValues l, 0, by rw [<- e]; exact vals_values l, Heap.get?_push_size _ rfl⟩), rfl, q _ I.fresh⟩
def rJoinT (K : W.Frag) : V -> List V -> Hp -> VK -> Prop := fun x xs H Q => ∃ sep p ys, x = .str sep /\ xs = [.ref p] /\ SqT K H p (ys.map V.str) /\ (ys.map (·.length)).sum + ys.length * sep.length <= 16777216 /\ Q (.str (Txt.join sep ys)) H
theorem mt_joinT : MtR X "str.join" (rJoinT X.K) := by
  intro pins s σ H x xs v us Q I rx rs h
  obtain ⟨sep, p, ys, rfl, rfl, hq, hz, q⟩ := h
  obtain ⟨t, rfl⟩ := rx
  obtain ⟨u, rfl, ru⟩ := rs.one
  cases ru
  obtain ⟨its, r, pl, _⟩ := I.tuple hq
  exact join_tuple pl (strsAre_of r) hz fun t' k => ⟨.str (Txt.join sep ys), H, I.tok k, ⟨_, rfl⟩, q⟩
end
def Ite1 (K : W.Frag) (a : Addr) : It :=
  ⟨fun i H => ∃ xs x, SqL K H a xs /\ xs[i]? = some x, fun i H v H' => ∃ T, H T = none /\ v = .ref T /\ ∀ xs, SqL K H a xs -> ∃ x, xs[i]? = some x /\ H' = upd H T (.tup [.int (i + 1), x]), fun i H => ∃ xs, SqL K H a xs /\ xs.length <= i⟩
theorem turn_enum1 {P : Program} {w : World} {K : W.Frag} {elts : List Expr} {k : Nat} {pos : Pos} (a e it : Addr) (hne : e ≠ it) (hai : a ≠ it) (hae : a ≠ e) : Turn P w K (.Tuple elts k pos) (Ite1 K a) [e, it] e (fun i h => (∃ old, IsEnum h e it ((i : Int) + 1) old) /\ h.IsListIter it a i) where
  mem := by simp
  obj := fun i h st b hb => by
    obtain ⟨⟨old, he⟩, o, ho, c, d⟩ := st
    rcases List.mem_cons.mp hb with z | z
    . subst z
      exact ⟨_, he, fun v q => by
        have q' : Data.fields _ = Data.cell v := q
        cases q'⟩
    . have z' : b = it := by simpa using z
      subst z'
      exact ⟨o, ho, fun v q => by rw [d] at q; cases q⟩
  keep := fun i h h' st kk => by
    obtain ⟨⟨old, he⟩, hl⟩ := st
    exact ⟨⟨old, kk e (by simp) _ he⟩, hl.at fun o q => kk it (by simp) o q⟩
  item := by
    intro X hP hw hK hc i pins s σ H E I hf st hg
    subst hP hw hK
    obtain ⟨xs, x, hq, hx⟩ := hg
    obtain ⟨⟨old, he⟩, hl⟩ := st
    obtain ⟨its, rv, pl, hz⟩ := I.list hq
    obtain ⟨u, hu, ru⟩ := rv.get hx
    have hlt : i < its.toArray.size := by
      have := (List.getElem?_eq_some_iff.mp hu).1
      simpa using this
    have D := TX.draws1 (prog := X.prog) (w := X.w) (A := X.A.in1) (I.ok.hd hc) it a hai its.toArray
    refine wpAny_pyNext_enum_itemD (i := i + 1) D he ⟨by omega, hl, pl.isList⟩ (by omega) hne (by simp; exact ⟨hne, Ne.symm hae⟩) fun x' h' tk px eo st' tp hsz kk => ?_
    have ex : x' = u := by
      have p2 := px.2
      rw [Nat.add_sub_cancel] at p2
      have hu' : its.toArray[i]? = some u := by simpa using hu
      exact Option.some.inj (p2.symm.trans hu')
    subst ex
    refine ⟨_, rfl, wpAny_letOwnedTupleGo_enum (s := { s with heap := h', toks := tk + 1 }) eo fun h2 en sb => ?_⟩
    have hTe : s.heap.objs.size ≠ e := Nat.ne_of_gt (Heap.lt_size he)
    have hs' : h2.get? s.heap.objs.size = some { cls := .type "tuple", data := .seq #[.int ((i + 1 : Nat) : Int) tk, x'] } := (sb.2 _ hTe).trans tp
    have kp : ∀ b ob, b ∉ [e, it] -> s.heap.get? b = some ob -> h2.get? b = some ob := fun b ob hb q => by
      have h1 : b ≠ e := fun z => hb (by simp [z])
      have h2' : b ≠ it := fun z => hb (by simp [z])
      exact (sb.2 b h1).trans (kk b ob h1 h2' q)
    have I2 : Inv X pins σ (upd H s.heap.objs.size (.tup [.int (i + 1), x])) { s with heap := h2, toks := tk + 1 } := I.turnLaid (o := .tup [.int (i + 1), x]) (t' := tk + 1) hf kp (Nat.le_refl _)
      ⟨by show 2 <= sizeLine; rw [sizeLine_eq]; decide, [.int ((i + 1 : Nat) : Int) tk, x'], .cons ⟨_, rfl⟩ (.cons ru .nil), ⟨_, hs', rfl, _, rfl⟩⟩
    refine ⟨.ref s.heap.objs.size, _, I2, rfl, ⟨_, I.fresh, rfl, fun ys hy => ⟨x, by rw [I.list_inj hy hq]; exact hx, rfl⟩⟩, ⟨⟨_, en⟩, ?_⟩, fun b hb => ?_⟩
    . have li := st'.2.1
      rw [Nat.add_sub_cancel] at li
      exact li.extBut sb.extBut (Ne.symm hne)
    . have hlt : b ≠ s.heap.objs.size := by
        obtain ⟨o, ho, _⟩ : ∃ o, s.heap.get? b = some o /\ True := by
          rcases List.mem_cons.mp hb with z | z
          . subst z; exact ⟨_, he, trivial⟩
          . have z' : b = it := by simpa using z
            subst z'
            obtain ⟨o, ho, _⟩ := hl
            exact ⟨o, ho, trivial⟩
        exact Nat.ne_of_lt (Heap.lt_size ho)
      rw [upd_ne hlt]
      exact (hf b hb).1
  done := by
    intro X hP hw hK hc i pins s σ H E I hf st hg
    subst hP hw hK
    obtain ⟨xs, hq, hx⟩ := hg
    obtain ⟨⟨old, he⟩, hl⟩ := st
    obtain ⟨its, rv, pl, hz⟩ := I.list hq
    have hlen := rv.length
    have D := TX.draws_end (prog := X.prog) (w := X.w) (A := X.A.in1) (I.ok.hd hc) it a its.toArray i (by simp; omega)
    exact wpAny_pyNext_enum_endD D he ⟨rfl, hl, pl.isList⟩ fun h' eb => ⟨rfl, I.turnedL (t' := s.toks) hf fun b ob hb q => eb b ob (fun z => hb (by simp [z])) q⟩
  self := fun A i s Q E st h => by
    obtain ⟨⟨old, he⟩, _⟩ := st
    exact wpAny_pyIter_enum he h
def iEnum1 (K : W.Frag) (ta : TA) : TI := fun σ H R => ta σ H fun vs H1 => ∃ a, vs = [.ref a] /\ (∃ xs, SqL K H1 a xs) /\ R (Ite1 K a) H1
theorem pi_enum1 {X : Cx} {elts : List Expr} {k : Nat} {tpos : Pos} {l : Expr} {ta : TA} {p pos kpos : Pos} {j : Nat} {cpos : Pos} (hg : Gl X "enumerate") (hm : X.mg "enumerate" = none) (ha : PA X [l] ta) (hs : starEach [l] X.env = [(false, eval l X.env)] := by rfl) :
    PI X (.Tuple elts k tpos) (.Call (.Name "enumerate" p) [l] [⟨some "start", .Constant (.int 1) j cpos, kpos⟩] pos) (iEnum1 X.K ta) := by
  intro pins s σ H R I h
  refine wpAny_Call_Name_kw (ld_blt I hg hm (show bootBuiltins "enumerate" = some (.type "enumerate") by decide +kernel) ?_)
  refine PySem.W.callWith_of (P := fun h => X.K.In h) (by rw [hs]; rfl) (fun h _ => ⟨.machine, .inr (.inl rfl), PySem.W.Looks.of_pure rfl⟩) (evalArgs_kw2 rfl (thn (ha pos pins s σ H _ I h) fun us s1 ⟨vs, H1, I1, r1, q1⟩ => ?_) hs)
  refine thn ((pk_cons (X := X) (nm := some "start") (kpos := kpos) pe_int pk_nil) pos pins s1 σ H1 (fun zs H2 => zs = [.int 1] /\ H2 = H1) I1 ⟨rfl, rfl⟩) fun ws s2 ⟨zs, H2, I2, rz, e1, e2⟩ => ⟨I2.kIn, ?_⟩
  subst e1 e2
  obtain ⟨a, e, ⟨xs, hq⟩, q⟩ := q1
  subst e
  obtain ⟨u, rfl, ru⟩ := r1.one
  cases ru
  obtain ⟨w0, rfl, rw0⟩ := rz.one
  obtain ⟨t, rfl⟩ := rw0
  obtain ⟨its, rv, pl, hz⟩ := I2.list hq
  show wpAny _ _ (call (.type "enumerate") [.ref a] [("start", .int 1 t)]) _ _ _
  refine TX.call_enum1 pl.isList fun h' en li kk => ?_
  have I3 : Inv X pins σ H2 { s2 with heap := h' } := I2.kept (t' := s2.toks) kk
  have hlt : a < s2.heap.objs.size := by
    obtain ⟨o, ho, _⟩ := pl.isList
    exact Heap.lt_size ho
  have T := turn_enum1 (P := X.prog) (w := X.w) (K := X.K) (elts := elts) (k := k) (pos := tpos) a (s2.heap.objs.size + 1) s2.heap.objs.size (Nat.ne_of_gt (Nat.lt_succ_self _)) (Nat.ne_of_lt hlt) (Nat.ne_of_lt (Nat.lt_succ_of_lt hlt))
  refine T.self X.A 0 { s2 with heap := h' } _ _ ⟨⟨_, en⟩, li⟩ ⟨_, _, _, _, H2, rfl, I3, T, ⟨⟨_, en⟩, li⟩, fun b hb => ?_, q⟩
  have hb' : s2.heap.objs.size <= b := by
    rcases List.mem_cons.mp hb with z | z
    . subst z; exact Nat.le_succ _
    . have z' : b = s2.heap.objs.size := by simpa using z
      subst z'; exact Nat.le_refl _
  exact I2.fpOk hb' (I2.hok.fresh hb')
def HB (X : Cx) (C : Addr) (hs : List ExceptHandler) (th : Addr -> TS) : Prop := ∀ (pins : List (Addr × Obj)) (s : Shared) (σ1 : St) (H2 : Hp) (D : Ends) (a : Addr) (fs : List (Str × V)), Inv X pins σ1 H2 s -> FlyAt H2 a C fs -> th a D σ1 H2 ->
  wpAny (model X.prog X.w) X.A (handleBy (.ref a) X.env hs) (SP X pins D) X.xe s
def tHand (n i : Nat) (ts : TS) (a : Addr) : TS := fun D σ1 H1 => σ1.length = n ->
  ts { nx := fun σ2 H2 => D.nx (σ2.set i none) H2, rt := D.rt, bk := fun σ2 H2 => D.bk (σ2.set i none) H2, ct := fun σ2 H2 => D.ct (σ2.set i none) H2 } (σ1.set i (some (.ref a))) H1
def tTryH (C : Addr) (RX : Addr -> List (Str × V) -> Hp -> Prop) (tb : TS) (th : Addr -> TS) : TS := fun D σ H => tb D σ H /\ ∀ a fs H1 σ1, FlyAt H1 a C fs -> RX a fs H1 -> th a D σ1 H1
section
variable {Md : Model} {A : Around} {E : Value -> Shared -> Prop} {C M D : Addr}
variable {nm q nm' q' : Str} {N N' : Addr} {bs bs' sub sub' : List Value} {hdct hdct' : Bool} {sn sn' : List Str} {ab ab' : Bool} {col col' : Option Bool} {dd dd' : Option Addr} {k0 k1 k2 k3 k5 j0 j1 j2 j3 j5 : Option Value} {newId newId' : String}
theorem match_other {h : Heap} {g : Array GenState} {d : Drawn} {t : Nat} {os : OsState} {e : Addr} {oe : Obj} {Q : Bool -> Shared -> Prop} (hC : h.get? C = some (excClassObj nm q C N bs (.ref M :: vTail) hdct sn sub ab col dd k0 k1 k2 k3 k5 newId))
    (hD : h.get? D = some (excClassObj nm' q' D N' bs' (.ref M :: vTail) hdct' sn' sub' ab' col' dd' j0 j1 j2 j3 j5 newId')) (n1 : D ≠ C) (n2 : D ≠ M) (he : h.get? e = some oe) (hcls : oe.cls = .ref C) (hq : Q false ⟨h, g, d, t, os⟩) : wpAny Md A (excMatches (.ref e) (.ref D)) Q E ⟨h, g, d, t, os⟩ := by
  have hB : (Value.ref D :: Value.ref M :: vTail).contains (.type "BaseException") = true := by simp [vTail]
  have hcD : (Value.ref C :: Value.ref M :: vTail).contains (.ref D) = false := by simp [vTail, n1, n2]
  have f := tc_notTuple
  unfold excMatches
  repeat (first | (with_reducible refine wpAny_loadPart_at he ?_; rw [hcls]) | with_reducible refine wpAny_loadPart_at hD ?_ | (with_reducible refine wpAny_isSubtype_exc hD ?_; rw [hB]) | (with_reducible refine wpAny_isSubtype_exc hC ?_; rw [hcD]) | wp_step)
  exact hq
end
section
variable {X : Cx} {C M : Addr} {RX : Addr -> List (Str × V) -> Hp -> Prop}
theorem hb_own {b0 : Stmt} {suite : List Stmt} {t : Expr} {nm : Str} {i n : Nat} {rest : List ExceptHandler} {hpos : Pos} {ts : TS}
    (xc : XC X.K C M) (hN : X.N.Nodup) (hn : X.N.length = n) (hi : X.N[i]? = some nm) (hk : X.env.scope.names.lookup nm = some .local)
    (ht : ∀ a, PE (X.hand a fun _ _ => False) t (tC (.ref C)))
    (hs : ∀ a, PSs (X.hand a fun _ _ => False) (b0 :: suite) ts) :
    HB X C (.ExceptHandler (some t) (some nm) (b0 :: suite) hpos :: rest) (tHand n i ts) := by
  intro pins s σ1 H2 D a fs I2 fl2 hsu
  have ok := I2.ok
  obtain ⟨cn, q, N, bs, sn, sub, ab, col, dd, k0, k1, k2, k3, k5, e⟩ := xc.at_
  have J2 : Inv (X.hand a fun _ _ => False) pins σ1 H2 _ := I2.hand a _
  refine wpAny_handleBy_cons (codeAny_handlers_test (wpAny_mono (ht a pins _ σ1 H2 (fun v H3 => v = .ref C /\ H3 = H2) J2 ⟨rfl, rfl⟩) (fun c s3 h3 => ?_) fun _ _ x => x.elim)) (by intro q; cases q)
  obtain ⟨v, H3, J3, r3, rfl, rfl⟩ := h3
  cases r3
  obtain ⟨T, d, eT, nTa, ea, hd⟩ := id fl2
  obtain ⟨vs, ho, h1'⟩ := (J3.hok a _ ea).1
  have hC := J3.kIn _ _ e
  obtain ⟨hp, g, dr, tk, os⟩ := s3
  refine wpAny_excMatches_sub_self hC ho rfl (by simp [vTail]) ?_
  refine codeAny_handlers_suite_as ?_
  refine flight (X := X.hand a fun _ _ => False) (Q := _) J3 fl2 fun h4 J4 => ?_
  refine store_ok (X := X.hand a fun _ _ => False) (v := .ref a) J4 hN hi (.inl hk) rfl (fun s5 J5 => ?_) (.inr hk)
  have hl : σ1.length = n := by rw [<- hn]; exact I2.len
  refine wpAny_mono (hs a pins s5 _ _ _ J5 (hsu hl)) (fun f s6 h6 => ?_) fun _ _ x => x.elim
  have fin : ∀ σ6 H6, Inv (X.hand a fun _ _ => False) pins σ6 H6 s6 -> ∀ {Q : Shared -> Prop}, (∀ s', Inv X pins (σ6.set i none) H6 s' -> Q s') -> wpAny (model X.prog X.w) X.A (do bindName X.env nm .none; unbindBehindTheSuite X.env nm hpos) (fun _ s' => Q s') X.xe s6 := fun σ6 H6 J6 Q hq => by
    refine wpAny_bind (wpAny_bindName (store_ok (v := .non) (J6.unhand ok) hN hi (.inl hk) rfl (fun s7 J7 => ?_) (.inr hk)))
    unfold unbindBehindTheSuite
    refine wpAny_onRaise (unbind_ok (v := .non) J7 hN hi hk ?_ fun s8 J8 => ?_)
    . rw [List.getElem?_set_self]
      rw [J6.len]; exact (List.getElem?_eq_some_iff.mp hi).1
    . rw [List.set_set] at J8
      exact hq s8 J8
  cases f with
  | next => obtain ⟨σ6, H6, J6, q⟩ := h6; exact fin σ6 H6 J6 fun s' J => ⟨_, _, J, q⟩
  | brk => obtain ⟨σ6, H6, J6, q⟩ := h6; exact fin σ6 H6 J6 fun s' J => ⟨_, _, J, q⟩
  | cont => obtain ⟨σ6, H6, J6, q⟩ := h6; exact fin σ6 H6 J6 fun s' J => ⟨_, _, J, q⟩
  | ret u => obtain ⟨v, σ6, H6, J6, r, q⟩ := h6; exact fin σ6 H6 J6 fun s' J => ⟨v, _, _, J, r, q⟩
theorem hb_skip {Dc : Addr} {t : Expr} {nmo : Option Str} {body : List Stmt} {hpos : Pos} {rest : List ExceptHandler} {th : Addr -> TS}
    (xc : XC X.K C M) (xd : XC X.K Dc M) (n1 : Dc ≠ C) (n2 : Dc ≠ M) (ht : ∀ a, PE (X.hand a fun _ _ => False) t (tC (.ref Dc))) (hr : HB X C rest th) :
    HB X C (.ExceptHandler (some t) nmo body hpos :: rest) th := by
  intro pins s σ1 H2 D a fs I2 fl2 hsu
  have ok := I2.ok
  obtain ⟨cn, q, N, bs, sn, sub, ab, col, dd, k0, k1, k2, k3, k5, e⟩ := xc.at_
  obtain ⟨dn, dq, dN, db, ds, du, da, dc, de, j0, j1, j2, j3, j5, ed⟩ := xd.at_
  have J2 : Inv (X.hand a fun _ _ => False) pins σ1 H2 _ := I2.hand a _
  refine wpAny_handleBy_cons (codeAny_handlers_test (wpAny_mono (ht a pins _ σ1 H2 (fun v H3 => v = .ref Dc /\ H3 = H2) J2 ⟨rfl, rfl⟩) (fun c s3 h3 => ?_) fun _ _ x => x.elim)) (by intro q; cases q)
  obtain ⟨v, H3, J3, r3, rfl, rfl⟩ := h3
  cases r3
  obtain ⟨T, d, eT, nTa, ea, hd⟩ := id fl2
  obtain ⟨vs, ho, h1'⟩ := (J3.hok a _ ea).1
  have hC := J3.kIn _ _ e
  have hD := J3.kIn _ _ ed
  obtain ⟨hp, g, dr, tk, os⟩ := s3
  refine match_other hC hD n1 n2 ho rfl ?_
  exact hr pins _ σ1 _ D a fs (J3.unhand ok) fl2 hsu
theorem ps_tryH {body : List Stmt} {h0 : ExceptHandler} {hs : List ExceptHandler} {pos : Pos} {tb : TS} {th : Addr -> TS}
    (xc : XC X.K C M) (hst : X.stack = X.env :: X.outer) (hf : X.env.frame = some X.env.locals)
    (hRX : ∀ a fs H H', RX a fs H -> (∀ b o, b ≠ a -> H b = some o -> H' b = some o) -> FlyAt H' a C fs -> RX a fs H')
    (hb : ∀ E pn, Passes (CXE X.prog X.w) (X.tried E pn) (EXT C RX) -> PSs (X.tried E pn) body tb)
    (hh : HB X C (h0 :: hs) th) :
    PS X (.Try body (h0 :: hs) [] [] pos) (tTryH C RX tb th) := by
  intro pins s σ H D I ⟨hbd, hsu⟩
  have ok := I.ok
  refine wpAny_Try_except (wpAny_mono (hb (fun e s' => ∃ σ1 H1 a fs, e = .ref a /\ Inv X pins σ1 H1 s' /\ FlyAt H1 a C fs /\ RX a fs H1) (X.pn ++ pins) ?_ [] s σ H D (I.tried _) hbd) (fun f s1 h1 => ?_) fun e s1 h1 => ?_)
  . intro pins' σ' H' s' e s2 I' h'
    obtain ⟨a, H2, rfl, os, bare, un, hok, a', fs, e1, fl, rx⟩ := h'
    cases e1
    have I2 : Inv (X.tried _ (X.pn ++ pins)) pins' σ' H2 s2 := I'.call' (ch := []) os un hok bare (fun _ z => nomatch z)
    exact ⟨σ', H2, a, fs, rfl, I2.untried ok, fl, rx⟩
  . have h2 := SP.untried ok h1
    cases f with
    | next => exact wpAny_execs_nil h2
    | brk => exact h2
    | cont => exact h2
    | ret u => exact h2
  . obtain ⟨σ1, H1, a, fs, rfl, I1, fl, rx⟩ := h1
    refine land (A' := X.A) I1 fl hst hf rfl fun h2 H2 I2 fl2 k2 => ?_
    exact hh pins _ σ1 H2 D a fs I2 fl2 (hsu a fs H2 σ1 fl2 (hRX a fs H1 H2 rx k2 fl2))
end
section
variable {X : Cx}
def plainV : V -> Prop := fun z => (∃ t, z = .str t) \/ (∃ b, z = .bl b) \/ ∃ i, z = .int i
theorem op_eqTW (hu : X.A.units < cLine) : OpR X (compareOp .Eq) (fun x y H Q => ∃ (a b : Addr) (zs : List V), x = .ref a /\ y = .ref b /\ H a = some (.tup zs) /\ H b = some (.tup zs) /\ (∀ z ∈ zs, plainV z) /\ Q (.bl true) H) := by
  intro pins s σ H x y v u Q I rx ry h
  obtain ⟨a, b, zs, rfl, rfl, h1, h2, hf, q⟩ := h
  cases rx
  cases ry
  obtain ⟨its1, rv1, pl1, hz1⟩ := I.tuple (SqT.of h1)
  obtain ⟨its2, rv2, pl2, hz2⟩ := I.tuple (SqT.of h2)
  have l1 := rv1.length
  have l2 := rv2.length
  have hs : its1.toArray.size = its2.toArray.size := by simp [<- l1, <- l2]
  have rc := SeqAt.RcAt.tuples (A := X.A) (s := s) (e := fun _ => true) pl1 pl2 hu fun j j1 j2 => by
    have hj : j < zs.length := by rw [l1]; simpa using j1
    obtain ⟨u1, e1, r1⟩ := rv1.get (i := j) (x := zs[j]) (List.getElem?_eq_getElem hj)
    obtain ⟨u2, e2, r2⟩ := rv2.get (i := j) (x := zs[j]) (List.getElem?_eq_getElem hj)
    have g1 : its1.toArray[j] = u1 := by
      have := List.getElem?_eq_some_iff.mp e1
      simpa using this.2
    have g2 : its2.toArray[j] = u2 := by
      have := List.getElem?_eq_some_iff.mp e2
      simpa using this.2
    rw [g1, g2]
    rcases hf zs[j] (List.getElem_mem hj) with ⟨t, e⟩ | ⟨t, e⟩ | ⟨t, e⟩
    . rw [e] at r1 r2
      have q := eqAt_V (A := X.A.in1) (s := s) r1 r2 rfl rfl
      have ev : eqV (V.str t) (V.str t) = true := by simp [eqV]
      rw [ev] at q
      exact q
    . rw [e] at r1 r2
      have q := eqAt_V (A := X.A.in1) (s := s) r1 r2 rfl rfl
      have ev : eqV (V.bl t) (V.bl t) = true := by simp [eqV]
      rw [ev] at q
      exact q
    . rw [e] at r1 r2
      have q := eqAt_V (A := X.A.in1) (s := s) r1 r2 rfl rfl
      have ev : eqV (V.int t) (V.int t) = true := by simp [eqV]
      rw [ev] at q
      exact q
  have e0 : ((List.range (min its1.toArray.size its2.toArray.size)).all (fun _ => true) && its1.toArray.size == its2.toArray.size) = true := by simp [hs]
  rw [e0] at rc
  exact rc _ _ _ _ ⟨.bl true, H, I, rfl, q⟩
end
end L2
namespace L2
open PySem PySem.Spec PyProof.Rows PySem.Builtin PySem.Builtin.Str
section
variable {X : Cx}
def rPart : V -> List V -> Hp -> VK -> Prop := fun x xs H Q => ∃ z y, x = .str z /\ xs = [.str y] /\ (y.length == 0) = false /\ z.length <= sizeLine /\ ∀ l, H l = none -> Q (.ref l) (upd H l (.tup [.str (Txt.partition z y).1, .str (Txt.partition z y).2.1, .str (Txt.partition z y).2.2]))
theorem mt_part : MtR X "str.partition" rPart := by
  intro pins s σ H x xs v us Q I rx rs h
  obtain ⟨z, y, rfl, rfl, hy, hz, q⟩ := h
  obtain ⟨t, rfl⟩ := rx
  obtain ⟨u0, rfl, ru⟩ := rs.one
  obtain ⟨u, rfl⟩ := ru
  have fin : ∀ (a b c : Str) (ta tb tc : Tok) (k : Nat), Txt.partition z y = (a, b, c) ->
      EP X pins σ Q (.ref s.heap.objs.size) { s with heap := s.heap.push { cls := .type "tuple", data := .seq [.str a ta, .str b tb, .str c tc].toArray }, toks := k } := fun a b c ta tb tc k e => by
    refine ⟨.ref s.heap.objs.size, _, I.laid (t' := k) (fun b o q => Heap.get?_push_of_some _ q) (Nat.le_refl _) (show ObjOk X.prog X.w _ _ _ (.tup [.str (Txt.partition z y).1, .str (Txt.partition z y).2.1, .str (Txt.partition z y).2.2]) from ?_), rfl, q _ I.fresh⟩
    rw [e]
    exact ⟨show 3 <= sizeLine by decide, [.str a ta, .str b tb, .str c tc], .cons ⟨_, rfl⟩ (.cons ⟨_, rfl⟩ (.cons ⟨_, rfl⟩ .nil)), ⟨_, Heap.get?_push_size _ rfl, rfl, _, rfl⟩⟩
  refine call_meets F.slot_str_partition (typeIs_str _ _ _) F.entry_str_partition (F.args_str_partition_2 _ _) (meets_str_partition z y t u hy hz) ?_
  unfold Txt.partition at fin
  revert fin
  cases occurrences z y 0 z.length 1 with
  | nil => intro fin; exact fin _ _ _ _ _ _ _ rfl
  | cons i r => intro fin; exact fin _ _ _ _ _ _ _ rfl
theorem ev_var {i : Nat} {x : Str} {pos : Pos} {pins : List (Addr × Obj)} {s : Shared} {σ : St} {H : Hp} {v : V} {Q : Value -> Shared -> Prop} {E : Value -> Shared -> Prop} (hN : X.N[i]? = some x) (hv : Vis X.env.scope x) (hd : (x == ("__debug__" : Str)) = false) (hcd : (x == ("__classdict__" : Str)) = false)
    (I : Inv X pins σ H s) (e : σ[i]? = some (some v)) (h : ∀ u, RelV v u -> Q u s) : wpAny (model X.prog X.w) X.A (eval (.Name x pos) X.env) Q E s := by
  obtain ⟨m, hn, hl⟩ := I.loc
  obtain ⟨u, r, l⟩ := hl i x v hN e hv
  have fin := h u r
  rcases l with ⟨hk, hm⟩ | ⟨hk, c, hc, hcell⟩
  . exact wpAny_Name (wpAny_loadName_local I.ok.kind hk hn hm fin) hd
  . rcases hk with hk | hk
    . exact wpAny_Name (wpAny_loadName_cell I.ok.kind hk hc hcell fin) hd
    . exact wpAny_Name (wpAny_loadName_free I.ok.kind hk hc hcell fin hcd) hd
theorem gives_twice (x y z : Str) (t u v c : Tok) (h0 : (u == 0 || v == 0) = false) (huv : (u == v) = false) (hyz : (y == z) = false) (hy : (y.length == 0 && z.length == 0) = false)
    (hl : tooLong (x.length + (occurrences x y 0 x.length 1).length * z.length) = false) :
    Gives («str.replace» ⟨[.str x t, .str y u, .str z v, .int 1 c], []⟩) (if (occurrences x y 0 x.length 1).isEmpty = true then .val (.str x t) else .str (glued z (partsBetween x (occurrences x y 0 x.length 1) y.length))) := by
  show Gives (if ((occurrences x y 0 x.length 1).isEmpty || (y.length == 0 && z.length == 0)) = true then (do rule "str.replace.nothing"; ret (.str x t)) else
          (do let same <- isSame (.str y u) (.str z v)
              if same = true then (do rule "str.replace.old-is-new"; ret (.str x t)) else
              if tooLong (x.length + (occurrences x y 0 x.length 1).length * z.length) = true then unsupported "str.replace:memory" else
              retStr (glued z (partsBetween x (occurrences x y 0 x.length 1) y.length)))) _
  rw [hy, Bool.or_false]
  cases hc : (occurrences x y 0 x.length 1).isEmpty
  . rw [isSame_str_other y z u v h0 huv hyz, hl]
    exact .of_eq rfl
  . exact .rule (.of_eq rfl)
def dbl (x : Str) : Str := if (occurrences x " " 0 x.length 1).isEmpty = true then x else glued "  " (partsBetween x (occurrences x " " 0 x.length 1) 1)
def tFour (i : Nat) : TE := fun σ H Q => ∃ row : Str, σ[i]? = some (some (.str row)) /\ row.length <= 1000000 /\ ∀ l, H l = none -> Q (.ref l) (upd H l (.lst [.str (" " ++ row), .str (row ++ " "), .str (dbl row), .str (Txt.replace row " " "")]))
theorem fits_one {row : Str} {cuts : List Nat} (h : cuts.length <= 1) (hl : row.length <= 1000000) : (glued "  " (partsBetween row cuts 1)).length <= sizeLine := by
  rw [sizeLine_eq]
  match cuts, h with
  | [], _ =>
    show (row.cps.extract 0 row.length).size <= _
    rw [Array.size_extract]
    have : row.cps.size = row.length := rfl
    omega
  | [i], _ =>
    show (row.cps.extract 0 i ++ (Str.cps "  ") ++ row.cps.extract (i + 1) row.length).size <= _
    rw [Array.size_append, Array.size_append, Array.size_extract, Array.size_extract]
    have : row.cps.size = row.length := rfl
    have l2 : (Str.cps "  ").size = 2 := by decide +kernel
    omega
section
variable {i : Nat} {x : Str} (hN : X.N[i]? = some x) (hv : Vis X.env.scope x) (hd : (x == ("__debug__" : Str)) = false) (hcd : (x == ("__classdict__" : Str)) = false)
include hN hv hd hcd
theorem ev_second {p p1 p2 : Pos} {k : Nat} {pins : List (Addr × Obj)} {s : Shared} {σ : St} {H : Hp} {row : Str} {Q : Value -> Shared -> Prop} {E : Value -> Shared -> Prop} (I : Inv X pins σ H s) (e : σ[i]? = some (some (.str row))) (hl : row.length <= 1000000)
    (h : ∀ (u : Value) (n : Nat), 1 <= n -> RelV (.str (row ++ " ")) u -> Q u { s with toks := n }) : wpAny (model X.prog X.w) X.A (eval (.BinOp (.Name x p) .Add (.Constant (.str " ") k p1) p2) X.env) Q E s := by
  refine wpAny_BinOp (ev_var hN hv hd hcd I e fun u r => ?_)
  obtain ⟨t, rfl⟩ := r
  refine Calls.Constant_str ?_
  refine PySem.P.add_str ?_
  cases hc : (row.length == 0)
  . rw [if_neg Bool.false_ne_true]
    refine ⟨?_, h _ _ (by show 1 <= s.toks + 1 + 1; omega) ⟨_, rfl⟩⟩
    rw [Str.length_append, sizeLine_eq]
    have : Str.length " " = 1 := by decide +kernel
    omega
  . rw [if_pos rfl]
    have z : row = "" := by
      have := beq_iff_eq.mp hc
      cases row with | mk c =>
      have : c.size = 0 := this
      have : c = #[] := Array.eq_empty_of_size_eq_zero this
      rw [this]; rfl
    exact h _ _ (by show 1 <= s.toks + 1; omega) ⟨s.toks, by rw [z]; rfl⟩
theorem ev_third {p p1 p2 p3 p4 p5 : Pos} {k1 k2 k3 : Nat} {pins : List (Addr × Obj)} {s : Shared} {σ : St} {H : Hp} {row : Str} {Q : Value -> Shared -> Prop} {E : Value -> Shared -> Prop} (I : Inv X pins σ H s) (e : σ[i]? = some (some (.str row))) (hl : row.length <= 1000000) (ht : 1 <= s.toks)
    (hline : (p1.endLine == p5.line) = true)
    (h : ∀ (u : Value) (n : Nat), 1 <= n -> RelV (.str (dbl row)) u -> Q u { s with toks := n }) :
    wpAny (model X.prog X.w) X.A (eval (.Call (.Attribute (.Name x p) "replace" p1) [.Constant (.str " ") k1 p2, .Constant (.str "  ") k2 p3, .Constant (.int 1) k3 p4] [] p5) X.env) Q E s := by
  refine wpAny_Call_method_late rfl rfl hline rfl (ev_var hN hv hd hcd I e fun u r => ?_)
  obtain ⟨t, rfl⟩ := r
  refine ⟨"str", "str.replace", PySem.F.plainAttrs_str, PySem.F.slot_str_replace, PySem.F.type_str_replace, typeIs_str _ _ _, (fun _ e => by cases e), ?_⟩
  refine Calls.callWith_builtin rfl (Calls.evalArgs_plain ?_)
  refine Calls.spliced_cons (Calls.Constant_str (k := k1) (pos := p2) (Calls.spliced_cons (Calls.Constant_str (k := k2) (pos := p3) (Calls.spliced_cons (wpAny_Constant_int (k := k3) (pos := p4) (Calls.spliced_nil ?_))))))
  have hlen : (occurrences row " " 0 row.length 1).length <= 1 := StrLaws.occ_length_le row " " 0 row.length 1
  have l2 : Str.length "  " = 2 := by decide +kernel
  have e0 : (s.toks == 0 || s.toks + 1 == 0) = false := by
    rw [Bool.or_eq_false_iff]
    exact ⟨beq_false_of_ne (by omega), beq_false_of_ne (by omega)⟩
  refine call_gives F.slot_str_replace (typeIs_str _ _ _) F.entry_str_replace (F.args_str_replace_4 _ _ _ _)
    (gives_twice row " " "  " t s.toks (s.toks + 1) (s.toks + 1 + 1) e0 (beq_false_of_ne (Nat.ne_of_lt (Nat.lt_succ_self _))) (by decide +kernel) (by decide +kernel) (by
      unfold tooLong
      rw [l2, sizeLine_eq]
      refine decide_eq_false ?_
      omega)) ?_
  have l1 : Str.length " " = 1 := by decide +kernel
  unfold dbl at h
  cases hc : (occurrences row " " 0 row.length 1).isEmpty
  . rw [hc] at h
    rw [if_neg Bool.false_ne_true] at h ⊢
    refine ⟨?_, h _ _ (by show 1 <= s.toks + 1 + 1 + 1 + 1; omega) ⟨_, rfl⟩⟩
    exact fits_one hlen hl
  . rw [hc] at h
    rw [if_pos rfl] at h ⊢
    exact h _ _ (by show 1 <= s.toks + 1 + 1 + 1; omega) ⟨_, rfl⟩
theorem ev_fourth {p p1 p2 p3 p5 : Pos} {k1 k2 : Nat} {pins : List (Addr × Obj)} {s : Shared} {σ : St} {H : Hp} {row : Str} {Q : Value -> Shared -> Prop} {E : Value -> Shared -> Prop} (I : Inv X pins σ H s) (e : σ[i]? = some (some (.str row))) (hl : row.length <= 1000000) (ht : 1 <= s.toks)
    (hline : (p1.endLine == p5.line) = true)
    (h : ∀ (u : Value) (n : Nat), RelV (.str (Txt.replace row " " "")) u -> Q u { s with toks := n }) :
    wpAny (model X.prog X.w) X.A (eval (.Call (.Attribute (.Name x p) "replace" p1) [.Constant (.str " ") k1 p2, .Constant (.str "") k2 p3] [] p5) X.env) Q E s := by
  refine wpAny_Call_method_late rfl rfl hline rfl (ev_var hN hv hd hcd I e fun u r => ?_)
  obtain ⟨t, rfl⟩ := r
  refine ⟨"str", "str.replace", PySem.F.plainAttrs_str, PySem.F.slot_str_replace, PySem.F.type_str_replace, typeIs_str _ _ _, (fun _ e => by cases e), ?_⟩
  refine Calls.callWith_builtin rfl (Calls.evalArgs_plain ?_)
  refine Calls.spliced_cons (Calls.Constant_str (k := k1) (pos := p2) (Calls.spliced_cons (Calls.Constant_str (k := k2) (pos := p3) (Calls.spliced_nil ?_))))
  have l0 : Str.length "" = 0 := by decide +kernel
  exact SC.replace (Nat.ne_of_gt ht) (Nat.succ_ne_zero _) (Nat.ne_of_lt (Nat.lt_succ_self _)) (by decide +kernel) (by rw [l0]; omega) fun t' k => h _ k ⟨_, rfl⟩
theorem pe_four {q q1 q2 a1 a2 a3 p p1 p2 p3 p4 p5 c p6 p7 p8 p9 : Pos} {j1 j2 k1 k2 k3 k4 k5 : Nat} (hl1 : (p1.endLine == p5.line) = true) (hl2 : (p6.endLine == p9.line) = true) :
    PE X (.List [.BinOp (.Constant (.str " ") j1 q) .Add (.Name x q1) q2, .BinOp (.Name x a1) .Add (.Constant (.str " ") j2 a2) a3,
      .Call (.Attribute (.Name x p) "replace" p1) [.Constant (.str " ") k1 p2, .Constant (.str "  ") k2 p3, .Constant (.int 1) k3 p4] [] p5,
      .Call (.Attribute (.Name x c) "replace" p6) [.Constant (.str " ") k4 p7, .Constant (.str "") k5 p8] [] p9] p10) (tFour i) := by
  intro pins s σ H Q I h
  obtain ⟨row, e, hl, h⟩ := h
  refine wpAny_List_spliced ?_
  have l1 : Str.length " " = 1 := by decide +kernel
  refine Calls.spliced_cons (thn (pe_op op_add_str pe_str (pe_var hN hv hd hcd) pins s σ H (fun v H1 => v = .str (" " ++ row) /\ H1 = H) I ⟨_, e, " ", row, rfl, rfl, by rw [l1, sizeLine_eq]; omega, rfl, rfl⟩) fun u1 s1 ⟨x1, H1, I1, r1, z1, z2⟩ => ?_)
  subst z1 z2
  refine Calls.spliced_cons (ev_second hN hv hd hcd I1 e hl fun u2 n2 hn2 r2 => ?_)
  refine Calls.spliced_cons (ev_third hN hv hd hcd (I1.tok n2) e hl hn2 hl1 fun u3 n3 hn3 r3 => ?_)
  refine Calls.spliced_cons (ev_fourth hN hv hd hcd (I1.tok n3) e hl hn3 hl2 fun u4 n4 r4 => ?_)
  refine Calls.spliced_nil ⟨show 4 <= sizeLine by decide, ?_⟩
  refine ⟨.ref s1.heap.objs.size, _, (I1.tok n4).lnew (ys := [.str (" " ++ row), .str (row ++ " "), .str (dbl row), .str (Txt.replace row " " "")]) (.cons r1 (.cons r2 (.cons r3 (.cons r4 .nil)))) (show 4 <= sizeLine by decide), rfl, h _ I1.fresh⟩
end
end
end L2
namespace TX
open PySem PySem.Builtin.Str
def pos (c : Nat) : Nat -> List Nat -> List Nat
  | _, [] => []
  | k, a :: r => if a = c then k :: pos c (k + 1) r else pos c (k + 1) r
theorem pos_none {c : Nat} : ∀ (l : List Nat) (k : Nat), c ∉ l -> pos c k l = []
  | [], _, _ => rfl
  | a :: r, k, h => by
    have h1 : ¬ a = c := fun e => h (by rw [e]; exact List.mem_cons_self)
    rw [pos, if_neg h1]
    exact pos_none r (k + 1) fun z => h (List.mem_cons_of_mem _ z)
theorem pos_app {c : Nat} {t : List Nat} : ∀ (l : List Nat) (k : Nat), c ∉ l -> pos c k (l ++ c :: t) = (k + l.length) :: pos c (k + l.length + 1) t
  | [], k, _ => by
    show pos c k (c :: t) = _
    rw [pos, if_pos rfl]; rfl
  | a :: r, k, h => by
    have h1 : ¬ a = c := fun e => h (by rw [e]; exact List.mem_cons_self)
    show pos c k (a :: (r ++ c :: t)) = _
    rw [pos, if_neg h1, pos_app r (k + 1) fun z => h (List.mem_cons_of_mem _ z), List.length_cons]
    have e : k + 1 + r.length = k + (r.length + 1) := by omega
    rw [e]
theorem subAt_one {x : Str} {c i : Nat} : subAt x ⟨#[c]⟩ i = decide (x.cps[i]? = some c) := by
  unfold subAt
  have hl : (⟨#[c]⟩ : Str).length = 1 := rfl
  rw [hl, Bool.eq_iff_iff, beq_iff_eq, decide_eq_true_iff]
  constructor
  . intro h
    have h2 : (x.cps.extract i (i + 1))[0]? = some c := by rw [h]; rfl
    rw [Array.getElem?_extract] at h2
    split at h2
    . exact h2
    . cases h2
  . intro h
    have hi : i < x.cps.size := by
      rcases Nat.lt_or_ge i x.cps.size with q | q
      . exact q
      . rw [Array.getElem?_eq_none q] at h; cases h
    apply Array.ext
    . rw [Array.size_extract]
      show min (i + 1) x.cps.size - i = 1
      omega
    . intro j h1 h2
      have h3 : j < 1 := h2
      have e : j = 0 := by omega
      subst e
      rw [Array.getElem_extract]
      rw [Array.getElem?_eq_getElem hi] at h
      exact Option.some.inj h
theorem occ_go {x : Str} {c : Nat} : ∀ (t : List Nat) (k : Nat) (st : Array Nat × Nat), (∀ j, t[j]? = x.cps[k + j]?) -> k + t.length = x.length -> st.fst.size <= k -> st.snd <= k ->
    (forIn (m := Id) (List.range' k (t.length + 1)) st (StrLaws.occBody x ⟨#[c]⟩ x.length (x.length + 1))).run.fst.toList = st.fst.toList ++ pos c k t
  | [], k, st, _, hl, _, _ => by
    have h1 : ¬ (((st.fst.size < x.length + 1 /\ st.snd <= k) /\ k + (⟨#[c]⟩ : Str).length <= x.length) /\ subAt x ⟨#[c]⟩ k = true) := fun z => by
      have z2 : k + 1 <= x.length := z.1.2
      have z3 : k + 0 = x.length := hl
      omega
    show (forIn (m := Id) [k] st _).run.fst.toList = _
    rw [pos, List.append_nil]
    simp only [List.forIn_cons, List.forIn_nil, StrLaws.occBody, if_neg h1]
    rfl
  | a :: r, k, st, ht, hl, h1, h2 => by
    have h0 : x.cps[k]? = some a := by
      have := ht 0
      rw [Nat.add_zero] at this
      exact this.symm
    have hl2 : k + (r.length + 1) = x.length := hl
    have hr : ∀ j, r[j]? = x.cps[k + 1 + j]? := fun j => by
      have := ht (j + 1)
      rw [show k + (j + 1) = k + 1 + j by omega] at this
      exact this
    rw [List.length_cons, List.range'_succ]
    by_cases hc : a = c
    . subst hc
      have hq : (((st.fst.size < x.length + 1 /\ st.snd <= k) /\ k + (⟨#[a]⟩ : Str).length <= x.length) /\ subAt x ⟨#[a]⟩ k = true) := ⟨⟨⟨by omega, h2⟩, by show k + 1 <= x.length; omega⟩, by rw [subAt_one]; exact decide_eq_true h0⟩
      simp only [List.forIn_cons, StrLaws.occBody, if_pos hq]
      have g := occ_go (x := x) (c := a) r (k + 1) (st.fst.push k, k + 1) hr (by omega) (by rw [Array.size_push]; omega) (Nat.le_refl _)
      refine Eq.trans g ?_
      rw [pos, if_pos rfl, Array.toList_push, List.append_assoc]
      rfl
    . have hq : ¬ (((st.fst.size < x.length + 1 /\ st.snd <= k) /\ k + (⟨#[c]⟩ : Str).length <= x.length) /\ subAt x ⟨#[c]⟩ k = true) := fun z => by
        have z2 := z.2
        rw [subAt_one] at z2
        have z3 := of_decide_eq_true z2
        rw [h0] at z3
        exact hc (Option.some.inj z3)
      simp only [List.forIn_cons, StrLaws.occBody, if_neg hq]
      have g := occ_go (x := x) (c := c) r (k + 1) (st.fst, st.snd) hr (by omega) (by show st.fst.size <= k + 1; omega) (by show st.snd <= k + 1; omega)
      refine Eq.trans g ?_
      rw [pos, if_neg hc]
theorem occ_one {x : Str} {c : Nat} : occurrences x ⟨#[c]⟩ 0 x.length (x.length + 1) = pos c 0 x.cps.toList := by
  rw [StrLaws.occ_eq]
  have hl : x.length = x.cps.toList.length := rfl
  have g := occ_go (x := x) (c := c) x.cps.toList 0 (#[], 0) (fun j => by rw [Nat.zero_add]; exact Array.getElem?_toList) (by rw [Nat.zero_add]; exact hl.symm) (Nat.le_refl _) (Nat.le_refl _)
  rw [Nat.sub_zero, hl]
  exact g
theorem split_eq {x y : Str} (hy : (y.length == 0) = false) : Txt.split x y = partsBetween x (occurrences x y 0 x.length (x.length + 1)) y.length := by
  unfold Txt.split
  split
  . rename_i h
    rw [PySem.W.occ_nil_of_no x y _ fun i hi => ?_, PySem.W.parts_nil]
    rcases Bool.or_eq_true_iff.mp h with h | h
    . have := of_decide_eq_true h; omega
    . cases e : subAt x y i
      . rfl
      . have := PySem.W.kind_le x y e; have := of_decide_eq_true h; omega
  . split
    . rename_i h; rw [List.isEmpty_iff.mp h, PySem.W.parts_nil]
    . rfl
def jl (c : Nat) : List Str -> List Nat
  | [] => []
  | [y] => y.cps.toList
  | y :: r => y.cps.toList ++ c :: jl c r
theorem join_toList {c : Nat} : ∀ ys : List Str, (Str.join ⟨#[c]⟩ ys).cps.toList = jl c ys
  | [] => rfl
  | [_] => rfl
  | y :: z :: r => by
    have h := join_toList (c := c) (z :: r)
    show ((y.cps ++ #[c]) ++ (Str.join ⟨#[c]⟩ (z :: r)).cps).toList = y.cps.toList ++ c :: jl c (z :: r)
    rw [Array.toList_append, Array.toList_append, h, List.append_assoc]
    rfl
theorem sub_eq {x : Str} {P y T : List Nat} {i j : Nat} (h : x.cps.toList = P ++ (y ++ T)) (hi : i = P.length) (hj : j = P.length + y.length) : strSub x i j = ⟨⟨y⟩⟩ := by
  subst hi hj
  unfold strSub
  congr 1
  apply Array.ext'
  rw [Array.toList_extract, h]
  simp [List.extract, List.drop_append, List.take_append]
theorem parts_go {x : Str} {c : Nat} : ∀ (ys : List Str) (P : List Nat), ys ≠ [] -> (∀ y ∈ ys, c ∉ y.cps.toList) -> x.cps.toList = P ++ jl c ys ->
    (((P.length :: (pos c P.length (jl c ys)).map (· + 1)).zip (pos c P.length (jl c ys) ++ [x.length])).map fun (i, j) => strSub x i j) = ys
  | [], _, h, _, _ => absurd rfl h
  | [y], P, _, hc, hx => by
    have h1 : c ∉ y.cps.toList := hc y List.mem_cons_self
    show (((P.length :: (pos c P.length y.cps.toList).map (· + 1)).zip (pos c P.length y.cps.toList ++ [x.length])).map fun (i, j) => strSub x i j) = [y]
    rw [pos_none _ _ h1]
    show [strSub x P.length x.length] = [y]
    have hl : x.length = P.length + y.cps.toList.length := by
      have : x.cps.toList.length = (P ++ y.cps.toList).length := by rw [hx]; rfl
      rw [List.length_append] at this
      exact this
    rw [sub_eq (P := P) (y := y.cps.toList) (T := []) (by rw [List.append_nil]; exact hx) rfl hl]
  | y :: z :: r, P, _, hc, hx => by
    have h1 : c ∉ y.cps.toList := hc y List.mem_cons_self
    have e : jl c (y :: z :: r) = y.cps.toList ++ c :: jl c (z :: r) := rfl
    rw [e] at hx ⊢
    rw [pos_app _ _ h1]
    have ih := parts_go (x := x) (c := c) (z :: r) (P ++ y.cps.toList ++ [c]) (by intro z; cases z) (fun w hw => hc w (List.mem_cons_of_mem _ hw)) (by rw [hx]; simp)
    have el : (P ++ y.cps.toList ++ [c]).length = P.length + y.cps.toList.length + 1 := by rw [List.length_append, List.length_append]; rfl
    rw [el] at ih
    show strSub x P.length (P.length + y.cps.toList.length) :: _ = y :: z :: r
    rw [sub_eq (P := P) (y := y.cps.toList) (T := c :: jl c (z :: r)) hx rfl rfl]
    exact congrArg (y :: ·) ih
theorem split_join {c : Nat} {ys : List Str} (hne : ys ≠ []) (hc : ∀ y ∈ ys, c ∉ y.cps.toList) : Txt.split (Txt.join ⟨#[c]⟩ ys) ⟨#[c]⟩ = ys := by
  rw [split_eq rfl, occ_one]
  have e : Txt.join ⟨#[c]⟩ ys = Str.join ⟨#[c]⟩ ys := StrLaws.glued_eq_join _ _
  rw [e, join_toList]
  have g := parts_go (x := Str.join ⟨#[c]⟩ ys) (c := c) ys [] hne hc (join_toList ys)
  exact g
end TX
namespace KKM
theorem perm_erase {α : Type} : ∀ {l : List α} {k : Nat} {y : α}, l[k]? = some y -> l.Perm (y :: l.eraseIdx k)
  | x :: r, 0, y, h => by
    have e : x = y := by simpa using h
    subst e
    exact .refl _
  | x :: r, k + 1, y, h => by
    have ih := perm_erase (l := r) (k := k) (y := y) (by simpa using h)
    rw [List.eraseIdx_cons_succ]
    exact (ih.cons x).trans (.swap y x _)
theorem nodup_map_on {α β : Type} {f : α -> β} {l : List α} (hf : ∀ a ∈ l, ∀ b ∈ l, f a = f b -> a = b) (h : l.Nodup) : (l.map f).Nodup := by
  unfold List.Nodup at h ⊢
  rw [List.pairwise_map]
  exact List.Pairwise.imp_of_mem (fun {a b} ha hb hab e => hab (hf a ha b hb e)) h
theorem nodup_filter {α : Type} {p : α -> Bool} {l : List α} (h : l.Nodup) : (l.filter p).Nodup := h.sublist List.filter_sublist
def ren {α : Type} [DecidableEq α] (old new z : α) : α := if z = old then new else z
theorem ren_nodup {α : Type} [DecidableEq α] {old new : α} {l : List α} (h : l.Nodup) (hn : new = old \/ new ∉ l) : (l.map (ren old new)).Nodup := by
  refine nodup_map_on (fun a ha b hb e => ?_) h
  unfold ren at e
  by_cases h1 : a = old <;> by_cases h2 : b = old
  . rw [h1, h2]
  . rw [if_pos h1, if_neg h2] at e
    rcases hn with z | z
    . exact h1.trans (z.symm.trans e)
    . exact absurd (e ▸ hb) z
  . rw [if_neg h1, if_pos h2] at e
    rcases hn with z | z
    . exact e.trans (z.trans h2.symm)
    . exact absurd (e ▸ ha) z
  . rw [if_neg h1, if_neg h2] at e
    exact e
theorem take_snoc {α : Type} {l : List α} {i : Nat} {x : α} (h : l[i]? = some x) : l.take (i + 1) = l.take i ++ [x] := by
  rw [List.take_add_one, h]; rfl
theorem filter_snoc {α : Type} {p : α -> Bool} {l : List α} {x : α} : (l ++ [x]).filter p = if p x = true then l.filter p ++ [x] else l.filter p := by
  rw [List.filter_append]
  by_cases h : p x = true <;> simp [h]
theorem mem_take_snoc {α : Type} {l : List α} {i : Nat} {x y : α} (h : l[i]? = some x) : y ∈ l.take (i + 1) ↔ y ∈ l.take i \/ y = x := by
  rw [take_snoc h, List.mem_append, List.mem_singleton]
theorem not_mem_take {α : Type} : ∀ {l : List α} {i : Nat} {x : α}, l.Nodup -> l[i]? = some x -> x ∉ l.take i
  | _ :: _, 0, _, _, _ => by simp
  | y :: r, i + 1, x, h, e => by
    rw [List.nodup_cons] at h
    have e' : r[i]? = some x := by simpa using e
    rw [List.take_succ_cons, List.mem_cons, not_or]
    exact ⟨fun z => h.1 (z ▸ List.mem_of_getElem? e'), not_mem_take h.2 e'⟩
end KKM
namespace KK
open PySem L2
def top (i : Nat) : Stmt := PySem.Challenge.pw_meetdesks_k06_sharings_texts_spoilt.main.body.getD i (.Pass ⟨0, 0, 0, 0⟩)
abbrev sCell : Stmt := top 23
abbrev sFlow : Stmt := top 24
abbrev sDraw : Stmt := top 25
abbrev sNames : Stmt := top 26
def FlowAt (H : Hp) (a : Addr) : Prop := ∃ x y z : Int, H a = some (.lst [.int x, .int y, .int z]) /\ 0 <= z /\ z < 1099511627776
def Ext (a : Addr) (H H' : Hp) : Prop := ∀ b o, b ≠ a -> H b = some o -> H' b = some o
theorem Ext.trans {a : Addr} {H H1 H2 : Hp} (x : Ext a H H1) (y : Ext a H1 H2) : Ext a H H2 := fun b o n h => y b o n (x b o n h)
theorem Ext.own {a : Addr} {H : Hp} {o : HO} : Ext a H (upd H a o) := fun b u n h => by rw [upd_ne n]; exact h
theorem Ext.new {a p : Addr} {H : Hp} {o : HO} (h : H p = none) : Ext a H (upd H p o) := fun b u _ q => by rw [upd_ne (ne_of_none q h)]; exact q
theorem FlowAt.some {H : Hp} {a : Addr} (f : FlowAt H a) : ∃ o, H a = Option.some o := let ⟨_, _, _, h, _⟩ := f; ⟨_, h⟩
theorem FlowAt.new {a p : Addr} {H : Hp} {o : HO} (f : FlowAt H a) (h : H p = none) : FlowAt (upd H p o) a := by
  obtain ⟨x, y, z, e, r⟩ := f
  exact ⟨x, y, z, by rw [upd_ne (ne_of_none e h)]; exact e, r⟩
theorem FlowAt.set {a p : Addr} {H : Hp} {o : HO} (f : FlowAt H a) (h : a ≠ p) : FlowAt (upd H p o) a := by
  obtain ⟨x, y, z, e, r⟩ := f
  exact ⟨x, y, z, by rw [upd_ne h]; exact e, r⟩
def spDraw : Sp := fun vs H Q _ => ∃ (a : Addr) (m : Int), vs = [.ref a, .int m] /\ FlowAt H a /\ 0 < m /\ m <= 100000000000000000000 /\ ∀ (r : Int) (H' : Hp), 0 <= r -> r < m -> FlowAt H' a -> Ext a H H' -> Q (.int r) H'
def spCell (K : W.Frag) : Sp := fun vs H Q _ => ∃ (a : Addr) (ns : List Int) (k : Int), vs = [.ref a, .int k] /\ SqL K H a (ns.map V.int) /\ ns.length <= 63 /\ 0 <= k /\ k <= 100 /\ ∀ r : Int, Q (.int r) H
def spFlow (K : W.Frag) : Sp := fun vs H Q _ => ∃ (a : Addr) (ns : List Int) (k : Int), vs = [.ref a, .int k] /\ SqL K H a (ns.map V.int) /\ ns.length <= 63 /\ 0 <= k /\ k <= 100 /\ ∀ (p : Addr) (o : HO), H p = none -> FlowAt (upd H p o) p -> Q (.ref p) (upd H p o)
section
variable {P : Program} {w : World} {K : W.Frag} {mg : Str -> Option Value} {base : Heap} {f g : Addr} {fd gd : FuncData} {k : Nat}
theorem scDraw : FnScope ["_law_flow_here", "_law_many", "_law_digit", "_law_number"] ["_law_flow_here", "_law_many"] (defScope sDraw) := ⟨rfl, rfl, rfl, by decide +kernel, rfl, by decide +kernel, by decide +kernel⟩
theorem tiny {n : Nat} (h : n <= 1000) : n <= sizeLine := Nat.le_of_lt (small1000 h)
theorem ok_draw (F : Fun K "_law_draw" "_law_draw" sDraw f fd) : FnOk P w K mg base CX0 (k + 1) f fd ["_law_flow_here", "_law_many"] spDraw := by
  refine F.ok scDraw (fun vs H Q E h => ?_) (fun cdv A outer s H vs Q E hr h => ?_)
  . obtain ⟨a, m, rfl, _⟩ := h
    rfl
  obtain ⟨a, m, rfl, ⟨x, y, z, e, hz0, hz1⟩, m0, m1, q⟩ := h
  have nd := scDraw.nd
  refine ⟨_, pss_cons (ps_if (pt_cmpR op_gt (pe_ix ix_list (pv 0) pe_int (fun _ _ => rfl)) pe_int (nomark _))
      (pss_cons (ps_set (i := 2) nd rfl (Or.inl rfl) (pe_op op_mod (pe_ix ix_list (pv 0) pe_int (fun _ _ => rfl)) (pv 1)))
      (pss_cons (ps_asg (pe_op op_fdivB (pe_ix ix_list (pv 0) pe_int (fun _ _ => rfl)) (pv 1)) (pg_sub (pv 0) pe_int set_list)) (pss_one (ps_ret (pv 2))))) pss_nil) (pss_cons (ps_asg (pe_op op_add (pe_ix ix_list (pv 0) pe_int (fun _ _ => rfl)) pe_int) (pg_sub (pv 0) pe_int set_list)) (pss_cons (ps_set (i := 3) nd rfl (Or.inl rfl) (pe_op op_mod (pe_op op_add (pe_op op_add (pe_op op_mul (pe_ix ix_list (pv 0) pe_int (fun _ _ => rfl)) (pe_op op_add pe_int (pe_op op_mul pe_int (pe_ix ix_list (pv 0) pe_int (fun _ _ => rfl))))) (pe_op op_mul pe_int (pe_ix ix_list (pv 0) pe_int (fun _ _ => rfl)))) pe_int) pe_int)) (pss_cons (ps_set (i := 3) nd rfl (Or.inl rfl) (pe_op op_mod (pe_op op_mul (pv 3) (pv 3)) pe_int)) (pss_one (ps_ret (pe_op op_mod (pe_op op_fdivB (pe_op op_mod (pe_op op_mul (pe_op op_add (pv 3) pe_int) (pe_op op_add (pv 3) pe_int)) pe_int) pe_int) (pv 1))))))), ?_⟩
  refine ⟨_, rfl, a, _, _, _, rfl, rfl, SqL.of e, rfl, _, _, rfl, rfl, _, rfl, ?_⟩
  refine ite2 (fun c => ?_) (fun c => ?_)
  . refine ⟨_, rfl, a, _, _, _, rfl, rfl, SqL.of e, rfl, _, rfl, _, _, rfl, rfl, m0, ?_⟩
    refine ⟨_, rfl, a, _, _, _, rfl, rfl, SqL.of e, rfl, _, rfl, _, _, rfl, rfl, ⟨m0, Int.le_trans m1 (by decide)⟩, _, rfl, a, _, _, _, rfl, rfl, e, rfl, ?_⟩
    refine ⟨_, rfl, q _ _ (Int.emod_nonneg _ (by omega)) (Int.emod_lt_of_pos _ m0) ⟨_, _, _, upd_same, hz0, hz1⟩ Ext.own⟩
  . refine ⟨_, rfl, a, _, _, _, rfl, rfl, SqL.of e, rfl, _, _, rfl, rfl, _, rfl, a, _, _, _, rfl, rfl, e, rfl, ?_⟩
    have e2 : upd H a (.lst [.int x, .int (y + 1), .int z]) a = some (.lst [.int x, .int (y + 1), .int z]) := upd_same
    refine ⟨_, rfl, a, _, _, _, rfl, rfl, SqL.of e2, rfl, _, rfl, a, _, _, _, rfl, rfl, SqL.of e2, rfl, _, _, rfl, rfl, .inl ⟨by decide, by decide⟩, _, _, rfl, rfl, _, _, rfl, rfl, .inl ⟨by omega, by omega⟩, _, rfl, a, _, _, _, rfl, rfl, SqL.of e2, rfl, _, _, rfl, rfl, .inl ⟨by decide, by decide⟩, _, _, rfl, rfl, _, _, rfl, rfl, _, _, rfl, rfl, (show (0 : Int) < 2147483629 by decide), ?_⟩
    have b1 := Int.emod_nonneg (z * (48271 + 2 * (y + 1)) + 7919 * (y + 1) + 1) (show (2147483629 : Int) ≠ 0 by decide)
    have b2 := Int.emod_lt_of_pos (z * (48271 + 2 * (y + 1)) + 7919 * (y + 1) + 1) (show (0 : Int) < 2147483629 by decide)
    generalize (z * (48271 + 2 * (y + 1)) + 7919 * (y + 1) + 1) % 2147483629 = n1 at b1 b2 ⊢
    refine ⟨_, rfl, _, rfl, _, _, rfl, rfl, .inl ⟨by omega, by omega⟩, _, _, rfl, rfl, (show (0 : Int) < 2147483587 by decide), ?_⟩
    have b3 := Int.emod_nonneg (n1 * n1) (show (2147483587 : Int) ≠ 0 by decide)
    have b4 := Int.emod_lt_of_pos (n1 * n1) (show (0 : Int) < 2147483587 by decide)
    generalize n1 * n1 % 2147483587 = n2 at b3 b4 ⊢
    refine ⟨_, rfl, _, _, rfl, rfl, _, rfl, _, _, rfl, rfl, _, _, rfl, rfl, .inl ⟨by omega, by omega⟩, _, _, rfl, rfl, (show (0 : Int) < 2147483579 by decide), _, _, rfl, rfl, ⟨by decide, by decide⟩, _, rfl, _, _, rfl, rfl, m0, ?_⟩
    exact q _ _ (Int.emod_nonneg _ (by omega)) (Int.emod_lt_of_pos _ m0) ⟨_, _, _, e2, hz0, hz1⟩ Ext.own
theorem scCell : FnScope ["_law_script", "_law_k", "_law_number"] ["_law_script", "_law_k"] (defScope sCell) := ⟨rfl, rfl, rfl, by decide +kernel, rfl, by decide +kernel, by decide +kernel⟩
theorem at_in {ns : List Int} {k : Int} (h0 : 0 <= k) (h1 : k < (ns.length : Int)) : ∃ v : Int, atI (ns.map V.int) k = some (.int v) := by
  have hk : k.toNat < ns.length := by omega
  have ek : k = ((k.toNat : Nat) : Int) := by omega
  refine ⟨ns[k.toNat], ?_⟩
  have q : atI (ns.map V.int) ((k.toNat : Nat) : Int) = some (.int ns[k.toNat]) := atI_nat (by rw [List.getElem?_map, List.getElem?_eq_getElem hk]; rfl)
  rw [<- ek] at q
  exact q
theorem ok_cell (F : Fun K "_law_cell" "_law_cell" sCell f fd) (ml : mg "len" = none) : FnOk P w K mg base CX0 (k + 1) f fd ["_law_script", "_law_k"] (spCell K) := by
  refine F.ok scCell (fun vs H Q E h => ?_) (fun cdv A outer s H vs Q E hr h => ?_)
  . obtain ⟨a, ns, i, rfl, _⟩ := h
    rfl
  obtain ⟨a, ns, i, rfl, hS, h63, i0, i1, q⟩ := h
  have nd := scCell.nd
  have hl : (ns.map V.int).length = ns.length := List.length_map _
  refine ⟨_, pss_cons (ps_if (pt_cmpR op_lt (pv 1) (pe_callB call_len_seq rfl ml PySem.boot_len (pa_cons (pv 0) pa_nil)) (nomark _)) (pss_one (ps_ret (pe_ix ix_list (pv 0) (pv 1) (fun _ _ => rfl)))) pss_nil) (pss_cons (ps_set (i := 2) nd rfl (Or.inl rfl) (pe_op op_add (pe_op op_mul (pv 1) pe_int) pe_int)) (pss_cons (ps_if (pt_cmpR op_gt (pe_callB call_len_seq rfl ml PySem.boot_len (pa_cons (pv 0) pa_nil)) pe_int (nomark _))
      (pss_one (ps_set (i := 2) nd rfl (Or.inl rfl) (pe_op op_add (pe_op op_mul (pe_op op_mod (pe_ix ix_list (pv 0) (pe_op op_mod (pe_op op_mul (pv 1) pe_int) (pe_callB call_len_seq rfl ml PySem.boot_len (pa_cons (pv 0) pa_nil))) (fun _ _ => rfl)) pe_int) pe_int) (pe_op op_mul (pv 1) pe_int)))) pss_nil) (pss_one (ps_ret (pe_op op_mul (pe_op op_mod (pv 2) pe_int) pe_int))))), ?_⟩
  have fin : ∀ n : Int, (fun (v : V) H1 => Q v H1) (.int (n % 2147483647 * 31)) H := fun n => q _
  have mulok : ∀ n : Int, CMul (n % 2147483647) 31 := fun n => by
    have b1 := Int.emod_nonneg n (show (2147483647 : Int) ≠ 0 by decide)
    have b2 := Int.emod_lt_of_pos n (show (0 : Int) < 2147483647 by decide)
    exact .inl ⟨by omega, by omega⟩
  refine ⟨_, rfl, _, rfl, a, _, rfl, .inl hS, _, _, rfl, rfl, _, rfl, ?_⟩
  rw [hl]
  refine ite2 (fun c => ?_) (fun c => ?_)
  . have c' : i < (ns.length : Int) := of_decide_eq_true c
    obtain ⟨v, hv⟩ := at_in (ns := ns) i0 c'
    exact ⟨_, rfl, _, rfl, a, _, _, _, rfl, rfl, hS, hv, q v⟩
  . refine ⟨_, rfl, _, _, rfl, rfl, .inl ⟨by omega, by omega⟩, _, _, rfl, rfl, ?_⟩
    refine ⟨_, rfl, a, _, rfl, .inl hS, _, _, rfl, rfl, _, rfl, ?_⟩
    rw [hl]
    refine ite2 (fun c2 => ?_) (fun c2 => ?_)
    . have c' : 0 < (ns.length : Int) := of_decide_eq_true c2
      have b1 := Int.emod_nonneg (i * 7) (show (ns.length : Int) ≠ 0 by omega)
      have b2 := Int.emod_lt_of_pos (i * 7) c'
      obtain ⟨v, hv⟩ := at_in (ns := ns) b1 b2
      have b3 := Int.emod_nonneg v (show (2147483629 : Int) ≠ 0 by decide)
      have b4 := Int.emod_lt_of_pos v (show (0 : Int) < 2147483629 by decide)
      refine ⟨_, rfl, _, rfl, _, _, rfl, rfl, .inl ⟨by omega, by omega⟩, _, rfl, a, _, rfl, .inl hS, _, _, rfl, rfl, by rw [hl]; exact c', a, _, _, _, rfl, rfl, hS, by rw [hl]; exact hv, _, _, rfl, rfl, (show (0 : Int) < 2147483629 by decide), _, _, rfl, rfl, .inl ⟨by omega, by omega⟩, _, rfl, _, _, rfl, rfl, .inl ⟨by omega, by omega⟩, _, _, rfl, rfl, ?_⟩
      exact ⟨_, rfl, _, _, rfl, rfl, (show (0 : Int) < 2147483647 by decide), _, _, rfl, rfl, mulok _, q _⟩
    . exact ⟨_, rfl, _, _, rfl, rfl, (show (0 : Int) < 2147483647 by decide), _, _, rfl, rfl, mulok _, q _⟩
theorem scFlow : FnScope ["_law_script", "_law_k", "_law_cell_here", "_law_own"] ["_law_script", "_law_k"] (defScope sFlow) := ⟨rfl, rfl, rfl, by decide +kernel, rfl, by decide +kernel, by decide +kernel⟩
theorem ok_flow (F : Fun K "_law_flow" "_law_flow" sFlow f fd) (G : FnOk P w K mg base CX0 k g gd ["_law_script", "_law_k"] (spCell K)) (bG : Binds K gd ["_law_script", "_law_k"] []) (kG : W.keepIn K (.ref g) = true) (mG : mg "_law_cell" = some (.ref g)) :
    FnOk P w K mg base CX0 (k + 1) f fd ["_law_script", "_law_k"] (spFlow K) := by
  refine F.ok scFlow (fun vs H Q E h => ?_) (fun cdv A outer s H vs Q E hr h => ?_)
  . obtain ⟨a, ns, i, rfl, _⟩ := h
    rfl
  obtain ⟨a, ns, i, rfl, hS, h63, i0, i1, q⟩ := h
  have nd := scFlow.nd
  refine ⟨_, pss_cons (ps_set (i := 2) nd rfl (Or.inl rfl) (pe_call G hr rfl mG kG bG .nil pass0 (pa_cons (pv 0) (pa_cons (pv 1) pa_nil)))) (pss_cons (ps_set (i := 3) nd rfl (Or.inl rfl) pe_int) (pss_cons (ps_if (pt_cmpR op_ge (pv 2) (pe_op op_pow pe_int pe_int) (nomark _)) (pss_one (ps_set (i := 3) nd rfl (Or.inl rfl) (pv 2))) pss_nil) (pss_one (ps_ret (pe_lst (pa_cons (pv 3) (pa_cons pe_int (pa_cons (pe_op op_add (pe_op op_mod (pv 2) pe_int) (pe_op op_mul pe_int (pv 1))) pa_nil)))))))), ?_⟩
  refine ⟨_, rfl, _, rfl, a, ns, i, rfl, hS, h63, i0, i1, fun r => ?_⟩
  have b3 := Int.emod_nonneg r (show (2147483629 : Int) ≠ 0 by decide)
  have b4 := Int.emod_lt_of_pos r (show (0 : Int) < 2147483629 by decide)
  refine ⟨_, rfl, _, _, rfl, rfl, ⟨by decide, by decide, by decide⟩, _, _, rfl, rfl, _, rfl, ?_⟩
  have fin : ∀ (own : Int) (p : Addr), H p = none -> Q (.ref p) (upd H p (.lst [.int own, .int 0, .int (r % 2147483629 + 40692 * i)])) := fun own p hp => q p _ hp ⟨_, _, _, upd_same, by omega, by omega⟩
  refine ite2 (fun c => ?_) (fun c => ?_)
  . refine ⟨_, rfl, _, rfl, _, rfl, _, _, rfl, rfl, (show (0 : Int) < 2147483629 by decide), _, rfl, _, _, rfl, rfl, .inl ⟨by decide, by decide⟩, _, _, rfl, rfl, tiny (show 3 <= 1000 by decide), fun p hp => fin _ p hp⟩
  . refine ⟨_, rfl, _, rfl, _, _, rfl, rfl, (show (0 : Int) < 2147483629 by decide), _, rfl, _, _, rfl, rfl, .inl ⟨by decide, by decide⟩, _, _, rfl, rfl, tiny (show 3 <= 1000 by decide), fun p hp => fin _ p hp⟩
end
end KK
namespace L2
theorem hat_of {N fr : List PySem.Str} {idx : List Nat} (h : idx.map (fun j => N[j]?) = fr.map some) : ∀ (k : Nat) (x : PySem.Str) (j : Nat), fr[k]? = some x -> idx[k]? = some j -> N[j]? = some x := fun k x j h1 h2 => by
  have e : (idx.map fun j => N[j]?)[k]? = (fr.map some)[k]? := by rw [h]
  rw [List.getElem?_map, List.getElem?_map, h1, h2] at e
  exact Option.some.inj e
theorem pig {α : Type} [DecidableEq α] : ∀ (xs cs : List α), cs.Nodup -> xs.length < cs.length -> ∃ c, c ∈ cs /\ c ∉ xs
  | [], [], _, h => by simp at h
  | [], c :: r, _, _ => ⟨c, List.mem_cons_self, by simp⟩
  | x :: r, cs, hn, h => by
    have hl : r.length < (cs.erase x).length := by
      rw [List.length_erase]
      rw [List.length_cons] at h
      split <;> omega
    obtain ⟨c, h1, h2⟩ := pig r (cs.erase x) (hn.erase x) hl
    have h3 := hn.mem_erase_iff.mp h1
    exact ⟨c, h3.2, fun z => (List.mem_cons.mp z).elim h3.1 h2⟩
end L2
namespace KK
open PySem L2 PyProof.Rows
def abc : Str := "abcdefghijklmnopqrstuvwxyz"
theorem abc_at {r : Int} (h0 : 0 <= r) (h1 : r < 26) : ∃ c, atI abc.cps.toList r = some c := by
  have hl : abc.cps.toList.length = 26 := by decide +kernel
  have hk : r.toNat < abc.cps.toList.length := by omega
  have ek : r = ((r.toNat : Nat) : Int) := by omega
  have q : atI abc.cps.toList ((r.toNat : Nat) : Int) = some (abc.cps.toList[r.toNat]) := atI_nat (List.getElem?_eq_getElem hk)
  rw [<- ek] at q
  exact ⟨_, q⟩
theorem abc_len : abc.length <= sizeLine := by rw [sizeLine_eq]; decide +kernel
def AZ (y : Str) : Prop := ∀ c ∈ y.cps.toList, c ∈ abc.cps.toList
theorem az_one {c : Nat} (h : c ∈ abc.cps.toList) : AZ ⟨#[c]⟩ := fun d hd => by
  have e : d = c := by simpa using hd
  rw [e]; exact h
theorem az_app {x y : Str} (hx : AZ x) (hy : AZ y) : AZ (x ++ y) := fun c hc => by
  have hc' : c ∈ (x.cps ++ y.cps).toList := hc
  rw [Array.toList_append] at hc'
  exact (List.mem_append.mp hc').elim (hx c) (hy c)
theorem slice_to {x : Str} {j : Int} (h0 : 0 <= j) (h1 : j <= x.length) : (Txt.slice x none (some j)).cps.toList = x.cps.toList.take j.toNat := by
  have h := PyProof.Rows.slice_closes_to (x := x) (j := j) ⟨h0, h1⟩
  rw [beq_iff_eq.mp h]
  show (x.cps.toList.drop 0).take (j - 0).toNat = _
  rw [List.drop_zero, Int.sub_zero]
theorem slice_from {x : Str} {i : Int} (h0 : 0 <= i) (h1 : i <= x.length) : (Txt.slice x (some i) none).cps.toList = x.cps.toList.drop i.toNat := by
  rw [PyProof.Rows.slice_from_eq (b := x.length) h0 h1 rfl]
  show (x.cps.toList.drop i.toNat).take _ = _
  apply List.take_of_length_le
  rw [List.length_drop]
  show x.length - _ <= _
  omega
theorem len_list (x : Str) : x.length = x.cps.toList.length := rfl
theorem az_to {x : Str} {j : Int} (hx : AZ x) (h0 : 0 <= j) (h1 : j <= x.length) : AZ (Txt.slice x none (some j)) := fun c hc => by
  rw [slice_to h0 h1] at hc
  exact hx c (List.mem_of_mem_take hc)
theorem az_from {x : Str} {j : Int} (hx : AZ x) (h0 : 0 <= j) (h1 : j <= x.length) : AZ (Txt.slice x (some j) none) := fun c hc => by
  rw [slice_from h0 h1] at hc
  exact hx c (List.mem_of_mem_drop hc)
theorem len_parts {x : Str} {j : Int} (h0 : 0 <= j) (h1 : j <= x.length) : (Txt.slice x none (some j)).length + (Txt.slice x (some j) none).length = x.length := by
  rw [len_list (Txt.slice x none (some j)), len_list (Txt.slice x (some j) none), slice_to h0 h1, slice_from h0 h1, List.length_take, List.length_drop, <- len_list]
  omega
theorem join_cons (y : Str) (r : List Str) : (Txt.join "" (y :: r)).cps.toList = y.cps.toList ++ (Txt.join "" r).cps.toList := by
  have e : ∀ l, Txt.join "" l = Str.join "" l := fun l => PySem.StrLaws.glued_eq_join _ _
  rw [e, e]
  cases r with
  | nil =>
    show y.cps.toList = y.cps.toList ++ (Str.join "" []).cps.toList
    have h0 : (Str.join "" []).cps.toList = [] := rfl
    rw [h0, List.append_nil]
  | cons z r =>
    show ((y.cps ++ Str.cps "") ++ (Str.join "" (z :: r)).cps).toList = _
    have h0 : Str.cps "" = #[] := rfl
    rw [h0]
    simp
theorem join_all : ∀ {ys : List Str}, (∀ y ∈ ys, y.length = 1 /\ AZ y) -> (Txt.join "" ys).length = ys.length /\ AZ (Txt.join "" ys)
  | [], _ => ⟨rfl, fun c hc => by
    have h0 : (Txt.join "" []).cps.toList = [] := rfl
    rw [h0] at hc; cases hc⟩
  | y :: r, h => by
    obtain ⟨h1, h2⟩ := join_all (ys := r) fun z hz => h z (List.mem_cons_of_mem _ hz)
    obtain ⟨h3, h4⟩ := h y List.mem_cons_self
    constructor
    . rw [len_list, join_cons, List.length_append, <- len_list, <- len_list, h1, h3, List.length_cons]; omega
    . intro c hc
      rw [join_cons] at hc
      exact (List.mem_append.mp hc).elim (h4 c) (h2 c)
def Nm (y : Str) : Prop := 0 < y.length /\ y.length <= 8 /\ AZ y
theorem at_mem {r : Int} {c : Nat} (h : atI abc.cps.toList r = some c) : c ∈ abc.cps.toList := let ⟨_, _, e, _⟩ := atI_get h; List.mem_of_getElem? e
def Signs (ys : List Str) : Prop := ∀ y ∈ ys, y.length = 1 /\ AZ y
theorem Signs.snoc {ys : List Str} (h : Signs ys) {y : Str} (e : y.length = 1 /\ AZ y) : Signs (ys ++ [y]) := fun z hz => (List.mem_append.mp hz).elim (h z) fun q => by rw [List.mem_singleton.mp q]; exact e
theorem signs_sum : ∀ {ys : List Str}, Signs ys -> (ys.map (·.length)).sum = ys.length
  | [], _ => rfl
  | y :: r, h => by
    have e1 := (h y List.mem_cons_self).1
    have e2 := signs_sum (ys := r) fun z hz => h z (List.mem_cons_of_mem _ hz)
    rw [List.map_cons, List.sum_cons, e2, e1, List.length_cons]
    omega
def Bd (ys : List Str) : Prop := ∀ y ∈ ys, Nm y
abbrev teSign : TE := tOp rIxS (tVar 2) (tCall spDraw [] E0 (tCons (tVar 1) (tCons (tC (.int 26)) tNil)))
theorem ne_flow {H : Hp} {a D : Addr} (hD : H D = none) (hF : FlowAt H a) : D ≠ a := fun z => by
  obtain ⟨o, ho⟩ := hF.some
  rw [z, ho] at hD; cases hD
theorem ext_at {H H1 H4 : Hp} {a D : Addr} {o : HO} (hD : H D = none) (x : Ext a H H4) : Ext a H (upd H4 D o) := fun b u nb hb => by
  rw [upd_ne (ne_of_none hb hD)]; exact x b u nb hb
theorem letters {n : Nat} {D a : Addr} {Q : VK} {H1 : Hp} (hn : n <= 8) (hD : H1 D = none) (hF : FlowAt H1 a)
    (hd : ∀ (ys : List Str) (H' : Hp), ys.length = n -> Signs ys -> FlowAt H' a -> Ext a H1 H' -> H' D = some (.lst (ys.map V.str)) -> Q (.ref D) H') :
    CompLoop (Itr 0 n) D (gName 0) tYes teSign Q [none, some (.ref a), some (.str abc)] H1 := by
  have nD := ne_flow hD hF
  refine comp_range (fun i ys σ H => ∃ (xs : List Str) (v : Option V), ys = xs.map V.str /\ xs.length = i /\ Signs xs /\ σ = [v, some (.ref a), some (.str abc)] /\ FlowAt H a /\ Ext a H1 H) ?_ (by omega) ?_ ?_ ?_
  . exact ⟨[], none, rfl, rfl, (by intro _ z; cases z), rfl, hF.new hD, Ext.new hD⟩
  . rintro i ys σ H ⟨xs, v, rfl, rfl, _⟩
    rw [List.length_map]; exact Nat.le_refl _
  . rintro i ys σ H hi hl ⟨xs, v, rfl, rfl, hs, rfl, f, x⟩
    refine ⟨_, rfl, _, rfl, a, 26, rfl, f, by decide, by decide, fun r H4 r0 r1 f4 x4 => ?_⟩
    obtain ⟨c, hc⟩ := abc_at r0 r1
    have hl4 : H4 D = some (.lst (xs.map V.str)) := x4 D _ nD hl
    refine ⟨abc, r, c, rfl, rfl, abc_len, hc, hl4, xs ++ [⟨#[c]⟩], _, by rw [List.map_append]; rfl, by rw [List.length_append]; rfl, hs.snoc ⟨rfl, az_one (at_mem hc)⟩, rfl, f4.set (Ne.symm nD), ext_at (H1 := H1) hD (x.trans x4)⟩
  . rintro ys σ H hl ⟨xs, v, rfl, e, hs, _, f, x⟩
    exact hd xs H e hs f x hl
def wordOf (ys : List Str) : Str := Txt.join "" ys
theorem word_len {ys : List Str} (h : Signs ys) (hl : ys.length <= 8) : (wordOf ys).length <= 68 /\ (ys.map (·.length)).sum + ys.length * (Str.length "") <= 16777216 := by
  have e := signs_sum h
  refine ⟨?_, ?_⟩
  . have q := (join_all h).1
    show (Txt.join "" ys).length <= 68
    omega
  . have e0 : Str.length "" = 0 := by decide
    rw [e, e0]; omega
theorem fold_ge (g : Str) : ∀ (l : List Str) (acc : Array Nat), acc.size <= (l.foldl (fun acc p => acc ++ g.cps ++ p.cps) acc).size
  | [], acc => Nat.le_refl _
  | p :: r, acc => by rw [List.foldl_cons]; exact Nat.le_trans (by rw [Array.size_append, Array.size_append]; omega) (fold_ge g r _)
theorem word_pos {ys : List Str} (h : Signs ys) (hne : ys ≠ []) : 0 < (wordOf ys).length := by
  cases ys with
  | nil => exact absurd rfl hne
  | cons y r =>
    have e : y.cps.size = 1 := (h y List.mem_cons_self).1
    have q := fold_ge "" r y.cps
    rw [e] at q
    exact q
def spNames : Sp := fun vs H Q _ => ∃ (a : Addr) (m : Int), vs = [.ref a, .int m] /\ FlowAt H a /\ 1 <= m /\ m <= 6 /\ ∀ (r : Addr) (ys : List Str) (H' : Hp), (ys.length : Int) = m -> Bd ys -> ys.Nodup -> r ≠ a -> FlowAt H' a -> Ext a H H' -> H' r = some (.lst (ys.map V.str)) -> Q (.ref r) H'
abbrev NN : List Str := ["_law_flow_here", "_law_many", "_law_some", "_law_found", "_law_k", "_law_name_here", "_law_word", "_law_at", "_law_first", "_law_long"]
theorem scNames : FnScope NN ["_law_flow_here", "_law_many"] (defScope sNames) := ⟨rfl, rfl, rfl, by decide +kernel, rfl, by decide +kernel, by decide +kernel⟩
theorem flat_strs (ys : List Str) : (ys.map V.str).all flatV = true := by
  rw [List.all_map]; exact List.all_eq_true.mpr fun _ _ => rfl
theorem inV_not {y : Str} {ys : List Str} (h : V.str y ∉ ys.map V.str) : inV (.str y) (ys.map V.str) = false := by
  unfold inV
  rw [List.any_eq_false]
  intro z hz
  obtain ⟨u, hu, rfl⟩ := List.mem_map.mp hz
  intro q
  have q' : (u == y) = true := q
  have e : u = y := by simpa using q'
  exact h (List.mem_map.mpr ⟨u, hu, by rw [e]⟩)
theorem Bd.snoc {ys : List Str} (h : Bd ys) {y : Str} (e : Nm y) : Bd (ys ++ [y]) := fun z hz => (List.mem_append.mp hz).elim (h z) fun q => by rw [List.mem_singleton.mp q]; exact e
theorem Bd.set {ys : List Str} (h : Bd ys) {y : Str} (e : Nm y) (i : Nat) : Bd (ys.set i y) := fun z hz => (List.mem_or_eq_of_mem_set hz).elim (h z) fun q => by rw [q]; exact e
theorem app_len (x y : Str) : (x ++ y).length = x.length + y.length := by
  show (x.cps ++ y.cps).size = x.cps.size + y.cps.size
  simp
theorem line_200 : (1000 : Nat) <= sizeLine := by rw [sizeLine_eq]; decide
theorem not_found {ys : List Str} (h : ys.length < 26) : ∃ (j : Nat) (c : Nat), j < 26 /\ abc.cps[j]? = some c /\ inV (.str ⟨#[c]⟩) (ys.map V.str) = false := by
  obtain ⟨v, h1, h2⟩ := pig (ys.map V.str) (abc.cps.toList.map fun c => V.str ⟨#[c]⟩) (by decide +kernel) (by rw [List.length_map, List.length_map]; exact Nat.lt_of_lt_of_le h (by decide +kernel))
  obtain ⟨c, hc, rfl⟩ := List.mem_map.mp h1
  obtain ⟨j, hj⟩ := List.getElem?_of_mem hc
  refine ⟨j, c, ?_, by simpa using hj, inV_not h2⟩
  have := (List.getElem?_eq_some_iff.mp hj).1
  exact Nat.lt_of_lt_of_le this (by decide +kernel)
theorem inV_mem {y : Str} {ys : List Str} : inV (.str y) (ys.map V.str) = true ↔ y ∈ ys := by
  unfold inV
  rw [List.any_map, List.any_eq_true]
  constructor
  . rintro ⟨x, hx, q⟩
    have q' : (x == y) = true := q
    have e : x = y := by simpa using q'
    rw [<- e]; exact hx
  . intro h
    exact ⟨y, h, show (y == y) = true by simp⟩
theorem inV_nmem {y : Str} {ys : List Str} : inV (.str y) (ys.map V.str) = false ↔ y ∉ ys := by
  rw [<- inV_mem]; simp
theorem nodup_snoc {α : Type} {ys : List α} {y : α} (h : ys.Nodup) (n : y ∉ ys) : (ys ++ [y]).Nodup := by
  rw [List.nodup_append]
  refine ⟨h, (by simp), fun a ha b hb e => ?_⟩
  rw [List.mem_singleton.mp hb] at e
  rw [e] at ha
  exact n ha
theorem nodup_set0 {us : List Str} {x : Str} (h : us.Nodup) (n : x ∉ us) : (us.set 0 x).Nodup := by
  cases us with
  | nil => exact h
  | cons u r =>
    rw [List.set_cons_zero]
    rw [List.nodup_cons] at h ⊢
    exact ⟨fun z => n (List.mem_cons_of_mem _ z), h.2⟩
theorem nodup_map_range {f : Nat -> Str} {n : Nat} (h : ∀ i j, i < j -> j < n -> f i ≠ f j) : ((List.range n).map f).Nodup := by
  unfold List.Nodup
  rw [List.pairwise_map]
  refine List.Pairwise.imp_of_mem (R := fun a b => a < b) (fun {a b} _ hb hab => ?_) List.pairwise_lt_range
  exact h a b hab (List.mem_range.mp hb)
def abcC (r : Int) : Nat := abc.cps.toList.getD r.toNat 0
theorem abc_atC {r : Int} (h0 : 0 <= r) (h1 : r < 26) : atI abc.cps.toList r = some (abcC r) := by
  have hl : abc.cps.toList.length = 26 := by decide +kernel
  have hk : r.toNat < abc.cps.toList.length := by omega
  have ek : r = ((r.toNat : Nat) : Int) := by omega
  have q : atI abc.cps.toList ((r.toNat : Nat) : Int) = some (abcC r) := atI_nat (by unfold abcC; rw [List.getD_eq_getElem?_getD, List.getElem?_eq_getElem hk]; rfl)
  rw [<- ek] at q
  exact q
theorem abcC_inj {r s : Int} (r0 : 0 <= r) (r1 : r < 26) (s0 : 0 <= s) (s1 : s < 26) (e : abcC r = abcC s) : r = s := by
  have hl : abc.cps.toList.length = 26 := by decide +kernel
  have nd : abc.cps.toList.Nodup := by decide +kernel
  have hr : r.toNat < abc.cps.toList.length := by omega
  have hs : s.toNat < abc.cps.toList.length := by omega
  unfold abcC at e
  rw [List.getD_eq_getElem?_getD, List.getD_eq_getElem?_getD, List.getElem?_eq_getElem hr, List.getElem?_eq_getElem hs] at e
  have := (List.getElem_inj nd).mp e
  omega
theorem abcC_mem {r : Int} (h0 : 0 <= r) (h1 : r < 26) : abcC r ∈ abc.cps.toList := at_mem (abc_atC h0 h1)
def famS (word : Str) (at' first : Int) (k : Nat) : Str := Txt.slice word none (some at') ++ ⟨#[abcC ((first + 7 * (0 + (k : Int))) % 26)]⟩ ++ Txt.slice word (some at') none
theorem fam_ne {word : Str} {at' first : Int} {i j : Nat} (h : i < j) (hj : j < 6) : famS word at' first i ≠ famS word at' first j := fun e => by
  have e1 : (famS word at' first i).cps.toList = (famS word at' first j).cps.toList := by rw [e]
  have q : ∀ k : Nat, (famS word at' first k).cps.toList = (Txt.slice word none (some at')).cps.toList ++ ([abcC ((first + 7 * (0 + (k : Int))) % 26)] ++ (Txt.slice word (some at') none).cps.toList) := fun k => by
    show ((Txt.slice word none (some at')).cps ++ #[abcC ((first + 7 * (0 + (k : Int))) % 26)] ++ (Txt.slice word (some at') none).cps).toList = _
    simp
  rw [q i, q j] at e1
  have e2 := List.append_cancel_right (List.append_cancel_left e1)
  have e3 : abcC ((first + 7 * (0 + (i : Int))) % 26) = abcC ((first + 7 * (0 + (j : Int))) % 26) := (List.cons.inj e2).1
  have e4 := abcC_inj (by omega) (by omega) (by omega) (by omega) e3
  omega
theorem fam_nm {word : Str} {at' first : Int} {k : Nat} (hw : AZ word) (hl : word.length <= 7) (h0 : 0 <= at') (h1 : at' <= word.length) : Nm (famS word at' first k) := by
  have l1 := app_len (Txt.slice word none (some at')) ⟨#[abcC ((first + 7 * (0 + (k : Int))) % 26)]⟩
  have l2 := app_len (Txt.slice word none (some at') ++ ⟨#[abcC ((first + 7 * (0 + (k : Int))) % 26)]⟩) (Txt.slice word (some at') none)
  have l3 : Str.length ⟨#[abcC ((first + 7 * (0 + (k : Int))) % 26)]⟩ = 1 := rfl
  have l4 := len_parts (x := word) h0 h1
  have l5 : (famS word at' first k).length = (Txt.slice word none (some at') ++ ⟨#[abcC ((first + 7 * (0 + (k : Int))) % 26)]⟩ ++ Txt.slice word (some at') none).length := rfl
  refine ⟨by omega, by omega, az_app (az_app (az_to hw h0 h1) (az_one (abcC_mem (Int.emod_nonneg _ (by decide)) (Int.emod_lt_of_pos _ (by decide))))) (az_from hw h0 h1)⟩
theorem fam_nodup {word : Str} {at' first : Int} {n : Nat} (hn : n <= 6) : ((List.range n).map (famS word at' first)).Nodup := nodup_map_range fun i j h hj => fam_ne h (by omega)
end KK
namespace KK
open PySem L2 PyProof.Rows
section
variable {P : Program} {w : World} {K : W.Frag} {mg : Str -> Option Value} {base : Heap} {f g : Addr} {fd gd : FuncData} {k : Nat}
theorem unused {D q : Addr} {Q : VK} {H1 : Hp} {ys : List Str} (hy : ys.length < 26) (hD : H1 D = none) (hq : H1 q = some (.lst (ys.map V.str)))
    (hd : ∀ (zs : List Str), zs ≠ [] -> Signs zs -> (∀ z ∈ zs, z ∉ ys) -> ∀ H', (∀ b o, H1 b = some o -> H' b = some o) -> H' D = some (.lst (zs.map V.str)) -> Q (.ref D) H') :
    CompLoop (Its abc) D (gName 0) (tTest (tOp (rIn K true) (tVar 0) (tVar 1))) (tVar 0) Q [none, some (.ref q)] H1 := by
  obtain ⟨j0, c0, hj, hc0, hin⟩ := not_found hy
  have nqD : q ≠ D := ne_of_none hq hD
  refine comp_str (fun i zs σ H => ∃ (xs : List Str) (v : Option V), zs = xs.map V.str /\ xs.length <= i /\ Signs xs /\ σ = [v, some (.ref q)] /\ (∀ z ∈ xs, z ∉ ys) /\ (j0 < i -> xs ≠ []) /\ (∀ b o, H1 b = some o -> H b = some o)) ?_ (by decide +kernel) ?_ ?_ ?_
  . exact ⟨[], none, rfl, Nat.le_refl _, (by intro _ z; cases z), rfl, (by intro _ z; cases z), (by intro z; omega), fun b o h => by rw [upd_ne (ne_of_none h hD)]; exact h⟩
  . rintro i zs σ H ⟨xs, v, rfl, h, _⟩
    rw [List.length_map]; exact h
  . rintro i c zs σ H hc hl ⟨xs, v, rfl, hle, hs, rfl, hnm, hne, hk⟩
    refine ⟨_, rfl, _, rfl, q, _, rfl, .inl (SqL.of (hk _ _ hq)), rfl, flat_strs ys, _, rfl, ?_⟩
    refine ite2 (fun b => ?_) (fun b => ?_)
    . refine ⟨_, rfl, hl, xs ++ [⟨#[c]⟩], _, by rw [List.map_append]; rfl, by rw [List.length_append, List.length_singleton]; omega, hs.snoc ⟨rfl, az_one (List.mem_of_getElem? (by rw [Array.getElem?_toList]; exact hc))⟩, rfl, fun z hz => ?_, fun _ z => ?_, fun b o h => ?_⟩
      . rcases List.mem_append.mp hz with hz | hz
        . exact hnm z hz
        . rw [List.mem_singleton.mp hz]
          have b2 : (!inV (.str ⟨#[c]⟩) (ys.map V.str)) = true := by simpa using b
          exact inV_nmem.mp (by simpa using b2)
      . have e := congrArg List.length z
        rw [List.length_append, List.length_singleton] at e
        simp at e
      . rw [upd_ne (ne_of_none h hD)]; exact hk b o h
    . refine ⟨hl, xs, _, rfl, by omega, hs, rfl, hnm, fun h => ?_, hk⟩
      by_cases hi : j0 < i
      . exact hne hi
      . have e : i = j0 := by omega
        subst e
        have e2 : c = c0 := Option.some.inj (hc.symm.trans hc0)
        rw [<- e2] at hin
        exact absurd (show (if true = true then !inV (.str ⟨#[c]⟩) (ys.map V.str) else inV (.str ⟨#[c]⟩) (ys.map V.str)) = true by rw [if_pos rfl, hin]; rfl) b
  . rintro zs σ H hl ⟨xs, v, rfl, _, hs, _, hnm, hne, hk⟩
    exact hd xs (hne (Nat.lt_of_lt_of_le hj (by decide +kernel))) hs hnm H hk hl
theorem sl_len (x : Str) (lo hi : Option Int) : (Txt.slice x lo hi).length <= x.length := Txt.slice_le x lo hi
theorem family {D : Addr} {Q : VK} {H1 : Hp} {word : Str} {at' first : Int} {n : Nat} (hw : word.length <= 7) (hz0 : AZ word) (ha0 : 0 <= at') (ha1 : at' <= word.length) (h0 : 0 <= first) (hn : n <= 6) (hD : H1 D = none)
    (hd : ∀ (zs : List Str) H', zs.length = n -> Bd zs -> zs.Nodup -> (∀ b o, H1 b = some o -> H' b = some o) -> H' D = some (.lst (zs.map V.str)) -> Q (.ref D) H') :
    CompLoop (Itr 0 n) D (gName 0) tYes (tOp (fun x y H Q => ∃ i j, x = .str i /\ y = .str j /\ i.length + j.length <= sizeLine /\ Q (.str (i ++ j)) H)
      (tOp (fun x y H Q => ∃ i j, x = .str i /\ y = .str j /\ i.length + j.length <= sizeLine /\ Q (.str (i ++ j)) H) (tSl rSlS (tVar 1) tNoPart (tPart (tVar 2)))
        (tOp rIxS (tVar 3) (tOp (rI (fun _ j => 0 < j) fun i j => .int (i % j)) (tOp (rI0 fun i j => .int (i + j)) (tVar 4) (tOp (rI CMul fun i j => .int (i * j)) (tC (.int 7)) (tVar 0))) (tC (.int 26)))))
      (tSl rSlS (tVar 1) (tPart (tVar 2)) tNoPart)) Q [none, some (.str word), some (.int at'), some (.str abc), some (.int first)] H1 := by
  have hz : word.length <= sizeLine := Nat.le_trans (by omega) line_200
  refine comp_range (fun i zs σ H => ∃ (xs : List Str) (v : Option V), zs = xs.map V.str /\ xs = (List.range i).map (famS word at' first) /\ xs.length = i /\ Bd xs /\ σ = [v, some (.str word), some (.int at'), some (.str abc), some (.int first)] /\ (∀ b o, H1 b = some o -> H b = some o)) ?_ (by omega) ?_ ?_ ?_
  . exact ⟨[], none, rfl, rfl, rfl, (by intro _ z; cases z), rfl, fun b o h => by rw [upd_ne (ne_of_none h hD)]; exact h⟩
  . rintro i zs σ H ⟨xs, v, rfl, _, rfl, _⟩
    rw [List.length_map]; exact Nat.le_refl _
  . rintro i zs σ H hi hl ⟨xs, v, rfl, hfam, rfl, hb, rfl, hk⟩
    have hc := abc_atC (Int.emod_nonneg (first + 7 * (0 + (xs.length : Int))) (show (26 : Int) ≠ 0 by decide)) (Int.emod_lt_of_pos _ (by decide))
    generalize hcc : abcC ((first + 7 * (0 + (xs.length : Int))) % 26) = c at hc
    have l1 := sl_len word none (some at')
    have l2 := sl_len word (some at') none
    have l3 : Str.length ⟨#[c]⟩ = 1 := rfl
    have l4 := app_len (Txt.slice word none (some at')) ⟨#[c]⟩
    have l5 := app_len (Txt.slice word none (some at') ++ ⟨#[c]⟩) (Txt.slice word (some at') none)
    have hs := line_200
    refine ⟨_, rfl, _, rfl, _, rfl, word, rfl, hz, _, rfl, _, rfl, _, rfl, _, _, rfl, rfl, .inl ⟨by decide, by decide⟩, _, _, rfl, rfl, _, _, rfl, rfl, (show (0 : Int) < 26 by decide), abc, _, c, rfl, rfl, abc_len, hc, _, _, rfl, rfl, by omega, ?_⟩
    refine ⟨_, rfl, _, rfl, _, rfl, word, rfl, hz, _, _, rfl, rfl, by omega, hl, xs ++ [_], _, by rw [List.map_append]; rfl, ?fam, by rw [List.length_append]; rfl, hb.snoc ?nm, rfl, fun b o h => ?_⟩
    case nm =>
      rw [<- hcc]
      exact fam_nm (word := word) (at' := at') (first := first) (k := xs.length) hz0 hw ha0 ha1
    case fam =>
      rw [List.range_succ, List.map_append, <- hfam, <- hcc]; rfl
    rw [upd_ne (ne_of_none h hD)]; exact hk b o h
  . rintro zs σ H hl ⟨xs, v, rfl, hfam, e, hb, _, hk⟩
    exact hd xs H e hb (by rw [hfam]; exact fam_nodup hn) hk hl
theorem ok_names (F : Fun K "_law_names" "_law_names" sNames f fd) (G : FnOk P w K mg base CX0 k g gd ["_law_flow_here", "_law_many"] spDraw) (bG : Binds K gd ["_law_flow_here", "_law_many"] []) (kG : W.keepIn K (.ref g) = true) (mG : mg "_law_draw" = some (.ref g))
    (mr : mg "range" = none) (ml : mg "len" = none) : FnOk P w K mg base CX0 (k + 1) f fd ["_law_flow_here", "_law_many"] spNames := by
  refine F.ok scNames (fun vs H Q E h => ?_) (fun cdv A outer s H vs Q E hr h => ?_)
  . obtain ⟨a, m, rfl, _⟩ := h
    rfl
  obtain ⟨a, m, rfl, hF, m1, m6, q⟩ := h
  have nd := scNames.nd
  refine ⟨_, pss_cons (ps_set (i := 2) nd rfl (Or.inr rfl) pe_str) (pss_cons (ps_if (pt_cmpR op_eq (pe_call G hr rfl mG kG bG .nil pass0 (pa_cons (pv 0) (pa_cons pe_int pa_nil))) pe_int (nomark _))
      (pss_cons (ps_set (i := 3) nd rfl (Or.inr rfl) (pe_lst pa_nil))
      (pss_cons (ps_for PassesOwn.never rfl (pi_range1 rfl mr (pa_cons (pv 1) pa_nil)) (pg_name (i := 4) nd rfl (Or.inl rfl))
        (pss_cons (ps_set (i := 5) nd rfl (Or.inl rfl) (pe_bm PySem.F.plainAttrs_str PySem.F.slot_str_join PySem.F.type_str_join mt_join pe_str (pa_cons
            (pe_comp (own := ["_law_j"]) (fr := ["_law_flow_here", "_law_some"]) (idx := [0, 2]) rfl (by show CompScope _ _ _ (defScope sNames); exact ⟨rfl, by decide +kernel, by decide +kernel, by decide +kernel, by decide +kernel, by decide +kernel, by decide +kernel⟩)
              (pi_range1 rfl mr (pa_cons (pe_op op_add pe_int (pe_call G hr rfl mG kG bG .nil pass0 (pa_cons (pv 0) (pa_cons pe_int pa_nil)))) pa_nil))
              (fun _ _ _ _ _ => pg_name (i := 0) (by show List.Nodup (["_law_j", "_law_flow_here", "_law_some"] : List Str); decide +kernel) rfl (Or.inl rfl) (Or.inr rfl)) (fun _ _ _ _ _ => pts_nil)
              (fun _ _ _ _ _ => pe_ix ix_str (pv 2) (pe_call G hr rfl mG kG bG .nil pass0 (pa_cons (pv 1) (pa_cons pe_int pa_nil))) (fun _ _ => rfl)) rfl (hat_of rfl)) pa_nil)))
        (pss_cons (ps_if (pt_cmpR op_in_seq (pv 5) (pv 3) rfl)
          (pss_one (ps_set (i := 5) nd rfl (Or.inl rfl) (pe_ix ix_list
            (pe_comp (own := ["_law_one"]) (fr := ["_law_found"]) (idx := [3]) (tc := tTest (tOp (rIn K true) (tVar 0) (tVar 1))) rfl (by show CompScope _ _ _ (defScope sNames); exact ⟨rfl, by decide +kernel, by decide +kernel, by decide +kernel, by decide +kernel, by decide +kernel, by decide +kernel⟩)
              (pi_str (pv 2)) (fun _ _ _ _ _ => pg_name (i := 0) (by show List.Nodup (["_law_one", "_law_found"] : List Str); decide +kernel) rfl (Or.inl rfl) (Or.inr rfl)) (fun _ _ _ _ _ => pts_one (pt_cmpR op_notIn_seq (pv 0) (pv 1) rfl)) (fun _ _ _ _ _ => pv 0) rfl (hat_of rfl))
            pe_int (fun _ _ => rfl)))) pss_nil)
        (pss_one (ps_expr (pe_bm PySem.F.plainAttrs_list PySem.F.slot_list_append PySem.F.type_list_append mt_append (pv 3) (pa_cons (pv 5) pa_nil)))))))
      (pss_one (ps_ret (pv 3))))) pss_nil) (pss_cons (ps_set (i := 6) nd rfl (Or.inr rfl) (pe_bm PySem.F.plainAttrs_str PySem.F.slot_str_join PySem.F.type_str_join mt_join pe_str (pa_cons
            (pe_comp (own := ["_law_j"]) (fr := ["_law_flow_here", "_law_some"]) (idx := [0, 2]) rfl (by show CompScope _ _ _ (defScope sNames); exact ⟨rfl, by decide +kernel, by decide +kernel, by decide +kernel, by decide +kernel, by decide +kernel, by decide +kernel⟩)
              (pi_range1 rfl mr (pa_cons (pe_call G hr rfl mG kG bG .nil pass0 (pa_cons (pv 0) (pa_cons pe_int pa_nil))) pa_nil))
              (fun _ _ _ _ _ => pg_name (i := 0) (by show List.Nodup (["_law_j", "_law_flow_here", "_law_some"] : List Str); decide +kernel) rfl (Or.inl rfl) (Or.inr rfl)) (fun _ _ _ _ _ => pts_nil)
              (fun _ _ _ _ _ => pe_ix ix_str (pv 2) (pe_call G hr rfl mG kG bG .nil pass0 (pa_cons (pv 1) (pa_cons pe_int pa_nil))) (fun _ _ => rfl)) rfl (hat_of rfl)) pa_nil))) (pss_cons (ps_set (i := 7) nd rfl (Or.inr rfl) (pe_call G hr rfl mG kG bG .nil pass0 (pa_cons (pv 0) (pa_cons (pe_op op_add (pe_callB call_len_str rfl ml PySem.boot_len (pa_cons (pv 6) pa_nil)) pe_int) pa_nil)))) (pss_cons (ps_set (i := 8) nd rfl (Or.inr rfl) (pe_call G hr rfl mG kG bG .nil pass0 (pa_cons (pv 0) (pa_cons pe_int pa_nil)))) (pss_cons (ps_set (i := 3) nd rfl (Or.inr rfl)
            (pe_comp (own := ["_law_k"]) (fr := ["_law_word", "_law_at", "_law_some", "_law_first"]) (idx := [6, 7, 2, 8]) rfl (by show CompScope _ _ _ (defScope sNames); exact ⟨rfl, by decide +kernel, by decide +kernel, by decide +kernel, by decide +kernel, by decide +kernel, by decide +kernel⟩)
              (pi_range1 rfl mr (pa_cons (pv 1) pa_nil))
              (fun _ _ _ _ _ => pg_name (i := 0) (by show List.Nodup (["_law_k", "_law_word", "_law_at", "_law_some", "_law_first"] : List Str); decide +kernel) rfl (Or.inl rfl) (Or.inr rfl)) (fun _ _ _ _ _ => pts_nil)
              (fun _ _ _ _ _ => pe_op op_add_str (pe_op op_add_str (pe_slice sl_str (pv 1) po_none (po_some (pv 2))) (pe_ix ix_str (pv 3) (pe_op op_mod (pe_op op_add (pv 4) (pe_op op_mul pe_int (pv 0))) pe_int) (fun _ _ => rfl))) (pe_slice sl_str (pv 1) (po_some (pv 2)) po_none)) rfl (hat_of rfl))) (pss_cons (ps_if (pt_cmpR op_eq (pe_call G hr rfl mG kG bG .nil pass0 (pa_cons (pv 0) (pa_cons pe_int pa_nil))) pe_int (nomark _))
      (pss_cons (ps_set (i := 9) nd rfl (Or.inl rfl) (pe_op op_add_str (pv 6) (pe_slice sl_str pe_str (po_some (pe_callB call_len_str rfl ml PySem.boot_len (pa_cons (pv 6) pa_nil))) po_none)))
      (pss_one (ps_if (pt_cmpR op_notIn_seq (pv 9) (pv 3) rfl) (pss_one (ps_asg (pv 9) (pg_sub (pv 3) pe_int set_list))) pss_nil))) pss_nil) (pss_one (ps_ret (pv 3))))))))), ?_⟩
  have hmN : m.toNat <= 6 := by omega
  refine ⟨_, rfl, a, 3, rfl, hF, by decide, by decide, fun r0 H0 _ _ f0 x0 => ⟨rfl, _, rfl, ?_⟩⟩
  refine ite2 (fun c => ?_) (fun c => ?_)
  . refine ⟨tiny (show 0 <= 1000 by decide), fun q0 hq0 => ?_⟩
    have nq := ne_flow hq0 f0
    refine ⟨_, rfl, m, rfl, by omega, by omega, for_range (n := m.toNat) (fun i σ H => ∃ (ys : List Str) (v4 v5 v6 v7 v8 v9 : Option V), σ = [some (.ref a), some (.int m), some (.str abc), some (.ref q0), v4, v5, v6, v7, v8, v9] /\ ys.length = i /\ Bd ys /\ ys.Nodup /\ FlowAt H a /\ Ext a H0 H /\ H q0 = some (.lst (ys.map V.str))) ?_ ?_ ?_⟩
    . exact ⟨[], _, _, _, _, _, _, rfl, rfl, (by intro _ z; cases z), List.nodup_nil, f0.new hq0, Ext.new hq0, upd_same⟩
    . rintro i σ H ii ⟨ys, v4, v5, v6, v7, v8, v9, rfl, rfl, hb, hnd, fl, xl, hl⟩
      refine ⟨rfl, _, rfl, a, 8, rfl, fl, by decide, by decide, fun r1 H1 r10 r11 f1 x1 => ⟨_, _, rfl, rfl, _, rfl, by omega, by omega, fun D hD => letters (by omega) hD f1 fun zs H2 e2 s2 f2 x2 d2 => ?_⟩⟩
      obtain ⟨wl, ws⟩ := word_len s2 (by omega)
      have l2 : H2 q0 = some (.lst (ys.map V.str)) := x2 _ _ nq (x1 _ _ nq hl)
      refine ⟨_, D, zs, rfl, rfl, SqL.of d2, ws, ?_⟩
      have step : ∀ (nm : Str) (H3 : Hp), Nm nm -> nm ∉ ys -> FlowAt H3 a -> Ext a H0 H3 -> H3 q0 = some (.lst (ys.map V.str)) -> ∃ v, [some (V.ref a), some (.int m), some (.str abc), some (.ref q0), some (.int (0 + (ys.length : Int))), some (.str nm), v6, v7, v8, v9][3]? = some (some v) /\ (tyV K "list" v H3 /\ ∃ v', [some (V.ref a), some (.int m), some (.str abc), some (.ref q0), some (.int (0 + (ys.length : Int))), some (.str nm), v6, v7, v8, v9][5]? = some (some v') /\ rAppend v [v'] H3 fun _ H4 =>
          ∃ (zs : List Str) (v4 v5 v6' v7' v8' v9' : Option V), [some (V.ref a), some (.int m), some (.str abc), some (.ref q0), some (.int (0 + (ys.length : Int))), some (.str nm), v6, v7, v8, v9] = [some (.ref a), some (.int m), some (.str abc), some (.ref q0), v4, v5, v6', v7', v8', v9'] /\ zs.length = ys.length + 1 /\ Bd zs /\ zs.Nodup /\ FlowAt H4 a /\ Ext a H0 H4 /\ H4 q0 = some (.lst (zs.map V.str))) := fun nm H3 hn hni f3 x3 l3 =>
        ⟨_, rfl, .inl ⟨rfl, _, SqL.of l3⟩, _, rfl, q0, _, _, rfl, rfl, l3, Nat.lt_of_lt_of_le (by rw [List.length_map]; omega) line_200, ys ++ [nm], _, _, _, _, _, _, rfl, by rw [List.length_append]; rfl, hb.snoc hn, nodup_snoc hnd hni, f3.set (Ne.symm nq), ext_at (H1 := H0) hq0 x3, by rw [upd_same, List.map_append]; rfl⟩
      refine ⟨_, rfl, _, rfl, q0, _, rfl, .inl (SqL.of l2), rfl, flat_strs ys, _, rfl, ?_⟩
      refine ite2 (fun _ => ?_) (fun cc => ?_)
      . refine ⟨_, rfl, abc, rfl, fun D2 hD2 => unused (by omega) hD2 l2 fun us une us2 unm H4 k4 d4 => ?_⟩
        obtain ⟨u, ur, eu⟩ := List.exists_cons_of_ne_nil une
        subst eu
        refine ⟨D2, _, _, _, rfl, rfl, SqL.of d4, atI_nat (j := 0) (v := V.str u) rfl, ?_⟩
        obtain ⟨x, y, z, ef, hz⟩ := f2
        exact step u H4 (by have us3 := us2 u List.mem_cons_self; exact ⟨by rw [us3.1]; decide, by rw [us3.1]; decide, us3.2⟩) (unm u List.mem_cons_self) ⟨x, y, z, k4 _ _ ef, hz⟩ (fun b o nb hb' => k4 _ _ ((xl.trans (x1.trans x2)) b o nb hb')) (k4 _ _ l2)
      . exact step _ H2 ⟨word_pos s2 (fun z => by rw [z] at e2; have e3 : 0 = _ := e2; omega), by have w1 : (Txt.join "" zs).length = zs.length := (join_all s2).1; show (Txt.join "" zs).length <= 8; omega, (join_all s2).2⟩ (inV_nmem.mp (by simpa using cc)) f2 (xl.trans (x1.trans x2)) l2
    . rintro σ H ⟨ys, v4, v5, v6, v7, v8, v9, rfl, e, hb, hnd, fl, xl, hl⟩
      exact ⟨_, rfl, q q0 ys H (by omega) hb hnd nq fl (x0.trans xl) hl⟩
  . refine ⟨rfl, _, rfl, a, 8, rfl, f0, by decide, by decide, fun r1 H1 r10 r11 f1 x1 => ⟨_, rfl, by omega, by omega, fun D hD => letters (by omega) hD f1 fun zs H2 e2 s2 f2 x2 d2 => ?_⟩⟩
    obtain ⟨wl, ws⟩ := word_len s2 (by omega)
    refine ⟨_, D, zs, rfl, rfl, SqL.of d2, ws, ?_⟩
    have wa := (join_all s2).2
    have w7 : (Txt.join "" zs).length <= 7 := by have w1 := (join_all s2).1; omega
    change (Txt.join "" zs).length <= 68 at wl
    generalize Txt.join "" zs = word at wl wa w7 ⊢
    have wz : word.length <= sizeLine := Nat.le_trans (by omega) line_200
    refine ⟨_, rfl, _, rfl, _, rfl, wz, _, _, rfl, rfl, a, _, rfl, f2, by omega, by omega, fun r3 H3 r30 r31 f3 x3 => ?_⟩
    refine ⟨_, rfl, a, 26, rfl, f3, by decide, by decide, fun r4 H4 r40 _ f4 x4 => ?_⟩
    refine ⟨_, rfl, m, rfl, by omega, by omega, fun D2 hD2 => family w7 wa r30 (by omega) r40 hmN hD2 fun us H5 e5 b5 n5 k5 d5 => ?_⟩
    have f5 : FlowAt H5 a := by
      obtain ⟨x, y, z, ef, hz⟩ := f4
      exact ⟨x, y, z, k5 _ _ ef, hz⟩
    have n2 := ne_flow hD2 f4
    have x5 : Ext a H H5 := fun b o nb hb => k5 _ _ ((x0.trans (x1.trans (x2.trans (x3.trans x4)))) b o nb hb)
    refine ⟨_, rfl, a, 4, rfl, f5, by decide, by decide, fun r6 H6 _ _ f6 x6 => ⟨rfl, _, rfl, ?_⟩⟩
    have d6 := x6 _ _ n2 d5
    refine ite2 (fun _ => ?_) (fun _ => ?_)
    . have ll := sl_len "zzzzzzzz" (some (word.length : Int)) none
      have l8 : Str.length "zzzzzzzz" = 8 := by decide
      have la := app_len word (Txt.slice "zzzzzzzz" (some (word.length : Int)) none)
      have hs := line_200
      have zAZ : AZ "zzzzzzzz" := by intro c hc; revert c; decide +kernel
      have lq := len_parts (x := "zzzzzzzz") (j := (word.length : Int)) (by omega) (by omega)
      have lr := congrArg List.length (slice_to (x := "zzzzzzzz") (j := (word.length : Int)) (by omega) (by omega))
      rw [<- len_list, List.length_take, <- len_list] at lr
      have lp : 0 < word.length + (Txt.slice "zzzzzzzz" (some (word.length : Int)) none).length := by
        rcases Nat.eq_zero_or_pos word.length with h | h
        . rw [h]; decide
        . omega
      refine ⟨_, rfl, _, rfl, _, rfl, wz, _, rfl, _, rfl, by omega, _, _, rfl, rfl, by omega, ?_⟩
      refine ⟨_, rfl, _, rfl, D2, _, rfl, .inl (SqL.of d6), rfl, flat_strs us, _, rfl, ?_⟩
      refine ite2 (fun cc => ?_) (fun _ => ?_)
      . refine ⟨_, rfl, _, rfl, D2, _, 0, 0, rfl, rfl, d6, ?_, ?_⟩
        . unfold ixN
          rw [List.length_map, e5, if_pos (by decide), if_pos (by omega)]
          rfl
        . refine ⟨_, rfl, q D2 (us.set 0 (word ++ Txt.slice "zzzzzzzz" (some (word.length : Int)) none)) _ (by rw [List.length_set]; omega) (b5.set ⟨by omega, by omega, az_app wa (az_from zAZ (by omega) (by omega))⟩ 0) (nodup_set0 n5 (inV_nmem.mp (by simpa using cc))) n2 (f6.set (Ne.symm n2)) (fun b o nb hb => ?_) ?_⟩
          . have := x6 _ _ nb (x5 b o nb hb)
            by_cases hbd : b = D2
            . exfalso
              rw [hbd] at hb
              have := (x0.trans (x1.trans (x2.trans (x3.trans x4)))) _ _ n2 hb
              rw [hD2] at this; cases this
            . rw [upd_ne hbd]; exact this
          . rw [upd_same, List.map_set]
      . exact ⟨_, rfl, q D2 us H6 (by omega) b5 n5 n2 f6 (x5.trans x6) d6⟩
    . exact ⟨_, rfl, q D2 us H6 (by omega) b5 n5 n2 f6 (x5.trans x6) d6⟩
end
end KK
namespace KK
open PySem L2 PyProof.Rows KKM
structure Fn (P : Program) (w : World) (K : W.Frag) (mg : Str -> Option Value) (base : Heap) (k : Nat) (x : Str) (ps : List Str) (sp : Sp) (g : Addr) (gd : FuncData) : Prop where
  ok : FnOk P w K mg base CX0 k g gd ps sp
  bn : Binds K gd ps []
  kp : W.keepIn K (.ref g) = true
  at_ : mg x = some (.ref g)
structure Bt (mg : Str -> Option Value) : Prop where
  len_ : mg "len" = none
  range_ : mg "range" = none
  max_ : mg "max" = none
  sorted_ : mg "sorted" = none
  tuple_ : mg "tuple" = none
  list_ : mg "list" = none
  set_ : mg "set" = none
  int_ : mg "int" = none
  isinstance_ : mg "isinstance" = none
  all_ : mg "all" = none
  str_ : mg "str" = none
  enumerate_ : mg "enumerate" = none
  lng : ∃ t, mg "LONGEST_NAME" = some (.int 8 t)
  sml : ∃ t, mg "SMALL_LETTERS" = some (.str abc t)
abbrev s_law_houses : Stmt := top 27
abbrev s_law_turned : Stmt := top 28
abbrev s_law_desks_of : Stmt := top 29
abbrev s_law_called : Stmt := top 30
def TK (H H' : Hp) : Prop := ∀ b xs, H b = some (.tup xs) -> H' b = some (.tup xs)
theorem TK.trans {H H1 H2 : Hp} (x : TK H H1) (y : TK H1 H2) : TK H H2 := fun b o h => y b o (x b o h)
theorem TK.lst {H : Hp} {p : Addr} {ys : List V} {o : HO} (h : H p = some (.lst ys)) : TK H (upd H p o) := fun b xs q => by rw [upd_ne (ne_of q h (fun z => nomatch z))]; exact q
theorem Ext.tk {a : Addr} {H H' : Hp} (x : Ext a H H') (f : FlowAt H a) : TK H H' := fun b xs q => by
  obtain ⟨_, _, _, e, _⟩ := f
  exact x b _ (ne_of q e (fun z => nomatch z)) q
theorem _root_.L2.Same.tk {H H' : Hp} (x : Same H H') : TK H H' := fun b xs q => x b _ q
theorem _root_.L2.Same.ext {a : Addr} {H H' : Hp} (x : Same H H') : Ext a H H' := fun b o _ q => x b o q
theorem _root_.L2.Same.flow {a : Addr} {H H' : Hp} (x : Same H H') (f : FlowAt H a) : FlowAt H' a := by
  obtain ⟨i, j, k, e, r⟩ := f
  exact ⟨i, j, k, x _ _ e, r⟩
theorem _root_.L2.Same.tup {K : W.Frag} {H H' : Hp} {a : Addr} {xs : List V} (e : Same H H') (h : SqT K H a xs) : SqT K H' a xs := by
  rcases h with (h | ⟨o, h⟩) | h
  . exact .inl (.inl (e _ _ h))
  . exact .inl (.inr ⟨o, e _ _ h⟩)
  . exact .inr h
theorem _root_.L2.Same.any {K : W.Frag} {H H' : Hp} {a : Addr} {xs : List V} (e : Same H H') (h : SqL K H a xs \/ SqT K H a xs) : SqL K H' a xs \/ SqT K H' a xs := h.elim (fun z => .inl (e.seq z)) fun z => .inr (Same.tup e z)
theorem sm_new {H : Hp} {p : Addr} {o : HO} (h : H p = none) : Same H (upd H p o) := fun b u q => by rw [upd_ne (ne_of_none q h)]; exact q
theorem _root_.L2.Same.at {H H' : Hp} {p : Addr} {o : HO} (x : Same H H') (h : H p = none) : Same H (upd H' p o) := fun b u q => by rw [upd_ne (ne_of_none q h)]; exact x b u q
theorem Ext.at {a : Addr} {H H' : Hp} {p : Addr} {o : HO} (x : Ext a H H') (h : H p = none) : Ext a H (upd H' p o) := fun b u n q => by rw [upd_ne (ne_of_none q h)]; exact x b u n q
theorem small {n : Nat} (h : n <= 1000) : n < sizeLine := small1000 h
abbrev Row := Str × List Str
def RowAt (H : Hp) (t : Addr) (r : Row) : Prop := ∃ d, H t = some (.tup [.str r.1, .ref d]) /\ H d = some (.tup (r.2.map V.str))
theorem RowAt.keep {H H' : Hp} {t : Addr} {r : Row} (k : TK H H') (h : RowAt H t r) : RowAt H' t r := let ⟨d, h1, h2⟩ := h; ⟨d, k _ _ h1, k _ _ h2⟩
abbrev RowsT (H : Hp) : List Addr -> List Row -> Prop := Paired (RowAt H)
theorem RowsT.keep {H H' : Hp} (k : TK H H') : ∀ {ts : List Addr} {rs : List Row}, RowsT H ts rs -> RowsT H' ts rs
  | _, _, .nil => .nil
  | _, _, .cons h r => .cons (h.keep k) (RowsT.keep k r)
theorem RowsT.get {H : Hp} : ∀ {ts : List Addr} {rs : List Row} {i : Nat} {t : Addr}, RowsT H ts rs -> ts[i]? = some t -> ∃ r, rs[i]? = some r /\ RowAt H t r
  | _, _, _, _, .nil, e => by simp at e
  | _, _, 0, _, .cons h _, e => by
    have e' := Option.some.inj (show some _ = some _ from e)
    subst e'
    exact ⟨_, rfl, h⟩
  | _, _, i + 1, _, .cons _ r, e => RowsT.get (i := i) r (by simpa using e)
def RowsAt (H : Hp) (L : Addr) (rs : List Row) : Prop := ∃ ts : List Addr, H L = some (.lst (ts.map V.ref)) /\ RowsT H ts rs
theorem RowsAt.ext {a L : Addr} {H H' : Hp} {rs : List Row} (h : RowsAt H L rs) (x : Ext a H H') (f : FlowAt H a) (n : L ≠ a) : RowsAt H' L rs := let ⟨ts, h1, h2⟩ := h; ⟨ts, x _ _ n h1, h2.keep (x.tk f)⟩
theorem RowsAt.same {L : Addr} {H H' : Hp} {rs : List Row} (h : RowsAt H L rs) (x : Same H H') : RowsAt H' L rs := let ⟨ts, h1, h2⟩ := h; ⟨ts, x _ _ h1, h2.keep (Same.tk x)⟩
structure Good (rs : List Row) : Prop where
  ne : rs ≠ []
  len : rs.length <= 6
  nd : (rs.map (·.1)).Nodup
  row : ∀ r ∈ rs, r.2 ≠ [] /\ r.2.length <= 4 /\ r.2.Nodup
  nm : Bd (rs.map (·.1))
  dn : ∀ r ∈ rs, Bd r.2
  few : ∃ ds : List Str, ds.length <= 4 /\ ∀ r ∈ rs, ∀ d ∈ r.2, d ∈ ds
def spTurned (K : W.Frag) : Sp := fun vs H Q _ => ∃ (a l : Addr) (xs : List V), vs = [.ref a, .ref l] /\ FlowAt H a /\ (SqL K H l xs \/ SqT K H l xs) /\ xs.length <= 60 /\
  ∀ (r : Addr) (ys : List V) (H' : Hp), ys.Perm xs -> r ≠ a -> H r = none -> FlowAt H' a -> Ext a H H' -> H' r = some (.lst ys) -> Q (.ref r) H'
theorem sc_turned : FnScope ["_law_flow_here", "_law_some", "_law_left", "_law_found", "_law_k"] ["_law_flow_here", "_law_some"] (defScope s_law_turned) := ⟨rfl, rfl, rfl, by decide +kernel, rfl, by decide +kernel, by decide +kernel⟩
section
variable {P : Program} {w : World} {K : W.Frag} {mg : Str -> Option Value} {base : Heap} {f g g2 g3 : Addr} {fd gd gd2 gd3 : FuncData} {k : Nat}
theorem ok_turned (F : Fun K "_law_turned" "_law_turned" s_law_turned f fd) (B : Bt mg) (G__law_draw : Fn P w K mg base k "_law_draw" ["_law_flow_here", "_law_many"] spDraw g gd) :
    FnOk P w K mg base CX0 (k + 1) f fd ["_law_flow_here", "_law_some"] (spTurned K) := by
  refine F.ok sc_turned (fun vs H Q E h => ?_) (fun cdv A outer s H vs Q E hr h => ?_)
  . obtain ⟨a, l, xs, rfl, _⟩ := h
    rfl
  obtain ⟨a, l, xs, rfl, hF, hS, hlen, q⟩ := h
  have nd := sc_turned.nd
  refine ⟨_, (pss_cons (ps_set (i := 2) nd rfl (Or.inl rfl) (pe_callTy call_list_of rfl B.list_ (by decide +kernel) (pa_cons (pv 1) pa_nil))) (pss_cons (ps_set (i := 3) nd rfl (Or.inl rfl) (pe_lst pa_nil)) (pss_cons (ps_for PassesOwn.never rfl (pi_range1 rfl B.range_ (pa_cons (pe_callB call_len_seq rfl B.len_ PySem.boot_len (pa_cons (pv 1) pa_nil)) pa_nil)) (pg_name (i := 4) nd rfl (Or.inl rfl)) (pss_one (ps_expr (pe_bm PySem.F.plainAttrs_list PySem.F.slot_list_append PySem.F.type_list_append mt_append (pv 3) (pa_cons (pe_bm PySem.F.plainAttrs_list PySem.F.slot_list_pop PySem.F.type_list_pop mt_popAt (pv 2) (pa_cons (pe_call G__law_draw.ok hr rfl G__law_draw.at_ G__law_draw.kp G__law_draw.bn .nil pass0 (pa_cons (pv 0) (pa_cons (pe_callB call_len_seq rfl B.len_ PySem.boot_len (pa_cons (pv 2) pa_nil)) pa_nil))) pa_nil)) pa_nil))))) (pss_one (ps_ret (pv 3)))))), ?_⟩
  refine ⟨_, rfl, l, xs, rfl, hS, fun p hp => ?_⟩
  refine ⟨tiny (show 0 <= 1000 by decide), fun q0 hq0 => ?_⟩
  have np : p ≠ a := ne_flow hp hF
  have hq1 : H q0 = none := (sm_new hp).free hq0
  have nq : q0 ≠ a := ne_flow hq1 hF
  have npq : p ≠ q0 := fun z => by rw [<- z, upd_same] at hq0; cases hq0
  refine ⟨_, rfl, l, xs, rfl, Same.any (sm_new hq0) (Same.any (sm_new hp) hS), _, rfl, by omega, by omega, for_range (n := ((xs.length : Int)).toNat)
    (fun i σ H' => ∃ (lf fd : List V) (v4 : Option V), σ = [some (.ref a), some (.ref l), some (.ref p), some (.ref q0), v4] /\ (fd ++ lf).Perm xs /\ fd.length = i /\ FlowAt H' a /\ Ext a H H' /\ H' p = some (.lst lf) /\ H' q0 = some (.lst fd)) ?_ ?_ ?_⟩
  . exact ⟨xs, [], none, rfl, .refl _, rfl, (hF.new hp).new hq0, (Ext.new hp).at hq1, by rw [upd_ne npq]; exact upd_same, upd_same⟩
  . rintro i σ H1 hi ⟨lf, fd, v4, rfl, hp2, rfl, f1, x1, h1, h2⟩
    have ll : fd.length + lf.length = xs.length := by rw [<- hp2.length_eq, List.length_append]
    refine ⟨_, rfl, .inl ⟨rfl, _, SqL.of h2⟩, _, rfl, .inl ⟨rfl, _, SqL.of h1⟩, _, rfl, _, rfl, p, _, rfl, .inl (SqL.of h1), a, _, rfl, f1, by omega, by omega, fun r H2 r0 r1 f2 x2 => ?_⟩
    have h1' := x2 _ _ np h1
    have h2' := x2 _ _ nq h2
    have hk : r.toNat < lf.length := by omega
    refine ⟨p, lf, r, r.toNat, lf[r.toNat], rfl, rfl, h1', by omega, by omega, ?_, List.getElem?_eq_getElem hk, ?_⟩
    . exact seqIndex_of r0 (by omega)
    . have hy : lf[r.toNat]? = some lf[r.toNat] := List.getElem?_eq_getElem hk
      refine ⟨q0, fd, _, rfl, rfl, by rw [upd_ne (Ne.symm npq)]; exact h2', small (by omega), lf.eraseIdx r.toNat, fd ++ [lf[r.toNat]], _, rfl, ?_, by rw [List.length_append]; rfl, (f2.set (Ne.symm np)).set (Ne.symm nq), ((x1.trans x2).at hp).at hq1, by rw [upd_ne npq]; exact upd_same, upd_same⟩
      rw [List.append_assoc]
      exact (List.Perm.append_left fd (perm_erase hy).symm).trans hp2
  . rintro σ H1 ⟨lf, fd, v4, rfl, hp2, e, f1, x1, h1, h2⟩
    have ll : fd.length + lf.length = xs.length := by rw [<- hp2.length_eq, List.length_append]
    have e0 : lf = [] := List.eq_nil_of_length_eq_zero (by omega)
    subst e0
    rw [List.append_nil] at hp2
    exact ⟨_, rfl, q q0 fd H1 hp2 nq hq1 f1 x1 h2⟩
end
section
variable {P : Program} {w : World} {K : W.Frag} {mg : Str -> Option Value} {base : Heap} {f g g2 g3 : Addr} {fd gd gd2 gd3 : FuncData} {k : Nat}
def spDesksOf : Sp := fun vs H Q _ => ∃ (L : Addr) (rs : List Row), vs = [.ref L] /\ RowsAt H L rs /\ rs.length <= 7 /\ (∀ r ∈ rs, r.2.length <= 8 /\ r.2.Nodup) /\
  ∀ (r : Addr) (zs : List Str) (H' : Hp), sortedS zs = true -> zs.Nodup -> zs.length <= 56 -> (∀ d, d ∈ zs ↔ ∃ x ∈ rs, d ∈ x.2) -> H r = none -> Same H H' -> H' r = some (.lst (zs.map V.str)) -> Q (.ref r) H'
theorem sc_desks_of : FnScope ["_law_rows", "_law_found", "_law_letter", "_law_some"] ["_law_rows"] (defScope s_law_desks_of) := ⟨rfl, rfl, rfl, by decide +kernel, rfl, by decide +kernel, by decide +kernel⟩
theorem strange {D d q : Addr} {Q : VK} {H1 : Hp} {ds fo : List Str} (hl : ds.length <= 1000) (hD : H1 D = none) (hd : H1 d = some (.tup (ds.map V.str))) (hq : H1 q = some (.lst (fo.map V.str)))
    (hdn : ∀ H', Same H1 H' -> H' D = some (.lst ((ds.filter fun z => decide (z ∉ fo)).map V.str)) -> Q (.ref D) H') :
    CompLoop (Itt K d) D (gName 0) (tTest (tOp (rIn K true) (tVar 0) (tVar 1))) (tVar 0) Q [none, some (.ref q)] H1 := by
  refine comp_tup (xs := ds.map V.str) (fun i ys σ H => ∃ v : Option V, ys = ((ds.take i).filter fun z => decide (z ∉ fo)).map V.str /\ σ = [v, some (.ref q)] /\ Same H1 H) ?_ (by rw [List.length_map]; omega) ?_ ?_ ?_ ?_
  . exact ⟨none, rfl, rfl, sm_new hD⟩
  . rintro i ys σ H ⟨v, rfl, _⟩
    rw [List.length_map]
    exact Nat.le_trans (List.length_filter_le _ _) (by rw [List.length_take]; omega)
  . rintro i ys σ H ⟨v, _, _, x⟩
    exact SqT.of (x _ _ hd)
  . rintro i y ys σ H hy hl2 ⟨v, rfl, rfl, x⟩
    rw [List.getElem?_map] at hy
    obtain ⟨z, hz, rfl⟩ := Option.map_eq_some_iff.mp hy
    refine ⟨_, rfl, _, rfl, q, _, rfl, .inl (SqL.of (x _ _ hq)), rfl, flat_strs fo, _, rfl, ?_⟩
    refine ite2 (fun b => ?_) (fun b => ?_)
    . have hn : z ∉ fo := inV_nmem.mp (by simpa using b)
      refine ⟨_, rfl, hl2, _, ?_, rfl, x.at hD⟩
      rw [take_snoc hz, filter_snoc, if_pos (by simpa using hn), List.map_append]
      rfl
    . have hn : ¬ z ∉ fo := fun c => b (by rw [if_pos rfl, inV_nmem.mpr c]; rfl)
      refine ⟨hl2, _, ?_, rfl, x⟩
      rw [take_snoc hz, filter_snoc, if_neg (by simpa using hn)]
  . rintro ys σ H hl2 ⟨v, rfl, _, x⟩
    rw [List.length_map, List.take_length] at hl2
    exact hdn H x hl2
theorem ok_desks_of (F : Fun K "_law_desks_of" "_law_desks_of" s_law_desks_of f fd) (B : Bt mg) : FnOk P w K mg base CX0 (k + 1) f fd ["_law_rows"] spDesksOf := by
  refine F.ok sc_desks_of (fun vs H Q E h => ?_) (fun cdv A outer s H vs Q E hr h => ?_)
  . obtain ⟨L, rs, rfl, _⟩ := h
    rfl
  obtain ⟨L, rs, rfl, ⟨ts, hL, hT⟩, h7, hR, q⟩ := h
  have nd := sc_desks_of.nd
  have hlen := Paired.length hT
  refine ⟨_, (pss_cons (ps_set (i := 1) nd rfl (Or.inr rfl) (pe_lst pa_nil)) (pss_cons (ps_for PassesOwn.never rfl (pi_list (pv 0)) (pg_tup rfl (pgs_cons (pg_name (i := 2) nd rfl (Or.inl rfl)) (pgs_cons (pg_name (i := 3) nd rfl (Or.inl rfl)) pgs_nil))) (pss_one (ps_expr (pe_bm PySem.F.plainAttrs_list PySem.F.slot_list_extend PySem.F.type_list_extend mt_extend (pv 1) (pa_cons (pe_comp (g := (gName 0)) (tc := (tTest (tOp (rIn K true) (tVar 0) (tVar 1)))) (te := (tVar 0)) (own := ["_law_desk"]) (fr := ["_law_found"]) (idx := [1]) rfl (by show CompScope _ _ _ (defScope s_law_desks_of); exact ⟨rfl, by decide +kernel, by decide +kernel, by decide +kernel, by decide +kernel, by decide +kernel, by decide +kernel⟩) (pi_tup (pv 3)) (fun _ _ _ _ _ => (pg_name (i := 0) (by show List.Nodup (["_law_desk", "_law_found"] : List Str); decide +kernel) rfl (Or.inl rfl) (Or.inr rfl))) (fun _ _ _ _ _ => pts_one (pt_cmpR op_notIn_seq (pv 0) (pv 1) rfl)) (fun _ _ _ _ _ => (pv 0)) rfl (hat_of rfl)) pa_nil))))) (pss_one (ps_ret (pe_callB call_sortedS rfl B.sorted_ (by decide +kernel) (pa_cons (pv 1) pa_nil)))))), ?_⟩
  refine ⟨tiny (show 0 <= 1000 by decide), fun q0 hq0 => ?_⟩
  refine ⟨_, rfl, L, rfl, ⟨_, SqL.of ((sm_new hq0) _ _ hL)⟩, for_list (xs := ts.map V.ref)
    (fun i σ H' => ∃ (fo : List Str) (v2 v3 : Option V), σ = [some (.ref L), some (.ref q0), v2, v3] /\ H' q0 = some (.lst (fo.map V.str)) /\ fo.Nodup /\ fo.length <= 8 * i /\ (∀ d, d ∈ fo ↔ ∃ x ∈ rs.take i, d ∈ x.2) /\ Same H H') ?_ ?_ ?_ ?_⟩
  . exact ⟨[], none, none, rfl, upd_same, List.nodup_nil, Nat.zero_le _, fun d => by simp, sm_new hq0⟩
  . rintro i σ H1 _ ⟨fo, v2, v3, _, _, _, _, _, x⟩
    exact SqL.of (x _ _ hL)
  . rintro i y σ H1 hy ⟨fo, v2, v3, rfl, h1, nd1, l1, m1, x1⟩
    rw [List.getElem?_map] at hy
    obtain ⟨t, ht, rfl⟩ := Option.map_eq_some_iff.mp hy
    obtain ⟨r, hr', d, e1, e2⟩ := hT.get ht
    have hm := List.mem_of_getElem? hr'
    obtain ⟨r8, rnd⟩ := hR r hm
    have hi : i < rs.length := (List.getElem?_eq_some_iff.mp hr').1
    refine ⟨t, _, rfl, SqT.of (x1 _ _ e1), rfl, _, _, rfl, _, _, rfl, rfl, ?_⟩
    refine ⟨_, rfl, .inl ⟨rfl, _, SqL.of h1⟩, _, rfl, d, rfl, ⟨_, SqT.of (x1 _ _ e2)⟩, fun D hD => strange (K := K) (by omega) hD (x1 _ _ e2) h1 fun H2 x2 hD2 => ?_⟩
    have hlf : (r.2.filter fun z => decide (z ∉ fo)).length <= r.2.length := List.length_filter_le _ _
    refine ⟨q0, D, fo.map V.str, _, rfl, rfl, x2 _ _ h1, hD2, Nat.le_of_lt (small (by rw [List.length_map, List.length_map]; omega)), fo ++ (r.2.filter fun z => decide (z ∉ fo)), _, _, rfl, by rw [upd_same, List.map_append], ?_, by rw [List.length_append]; omega, ?_, (x1.trans x2).at hq0⟩
    . rw [List.nodup_append]
      refine ⟨nd1, nodup_filter rnd, fun a ha b hb e => ?_⟩
      have hb2 := (List.mem_filter.mp hb).2
      rw [e] at ha
      exact absurd ha (by simpa using hb2)
    . intro d'
      rw [take_snoc hr', List.mem_append, m1 d']
      constructor
      . rintro (⟨x, hx, hd⟩ | hd)
        . exact ⟨x, List.mem_append_left _ hx, hd⟩
        . exact ⟨r, List.mem_append_right _ (List.mem_singleton.mpr rfl), (List.mem_filter.mp hd).1⟩
      . rintro ⟨x, hx, hd⟩
        rcases List.mem_append.mp hx with hx | hx
        . exact .inl ⟨x, hx, hd⟩
        . rw [List.mem_singleton.mp hx] at hd
          by_cases hf : d' ∈ fo
          . exact .inl ((m1 d').mp hf)
          . exact .inr (List.mem_filter.mpr ⟨hd, by simpa using hf⟩)
  . rintro σ H1 ⟨fo, v2, v3, rfl, h1, nd1, l1, m1, x1⟩
    rw [List.length_map] at l1 m1
    rw [hlen, List.take_length] at m1
    refine ⟨_, rfl, q0, fo, rfl, SqL.of h1, by omega, fun l zs hl hp hs => ?_⟩
    exact q l zs _ hs (hp.nodup_iff.mpr nd1) (by rw [hp.length_eq]; omega) (fun d => by rw [hp.mem_iff]; exact m1 d) (x1.free hl) (x1.trans (sm_new hl)) upd_same
theorem pick8 {r : Int} (h0 : 0 <= r) (h1 : r < 8) : ∃ m : Int, atI [V.int 3, V.int 4, V.int 2, V.int 5, V.int 3, V.int 4, V.int 6, V.int 1] r = some (.int m) /\ 1 <= m /\ m <= 6 := by
  have h : r = ((0 : Nat) : Int) \/ r = ((1 : Nat) : Int) \/ r = ((2 : Nat) : Int) \/ r = ((3 : Nat) : Int) \/ r = ((4 : Nat) : Int) \/ r = ((5 : Nat) : Int) \/ r = ((6 : Nat) : Int) \/ r = ((7 : Nat) : Int) := by omega
  rcases h with rfl | rfl | rfl | rfl | rfl | rfl | rfl | rfl
  . exact ⟨3, atI_nat (j := 0) rfl, by decide, by decide⟩
  . exact ⟨4, atI_nat (j := 1) rfl, by decide, by decide⟩
  . exact ⟨2, atI_nat (j := 2) rfl, by decide, by decide⟩
  . exact ⟨5, atI_nat (j := 3) rfl, by decide, by decide⟩
  . exact ⟨3, atI_nat (j := 4) rfl, by decide, by decide⟩
  . exact ⟨4, atI_nat (j := 5) rfl, by decide, by decide⟩
  . exact ⟨6, atI_nat (j := 6) rfl, by decide, by decide⟩
  . exact ⟨1, atI_nat (j := 7) rfl, by decide, by decide⟩
def bitK (m : Int) (j : Nat) : Bool := decide (V.int (Builtin.bitAnd (m / 2 ^ ((0 + (j : Int))).toNat) 1) = V.int 1)
theorem bit_some {m c : Nat} (hc : c <= 4) (h0 : 1 <= m) (h1 : m < 2 ^ c) : ∃ j, j < c /\ bitK (m : Int) j = true := by
  have hm : m < 16 := Nat.lt_of_lt_of_le h1 (Nat.le_trans (Nat.pow_le_pow_right (by decide) hc) (by decide))
  have all : ∀ (m : Fin 16) (c : Fin 5), 1 <= m.val -> m.val < 2 ^ c.val -> ∃ j : Fin 4, j.val < c.val /\ bitK (m.val : Int) j.val = true := by decide +kernel
  obtain ⟨j, h2, h3⟩ := all ⟨m, hm⟩ ⟨c, by omega⟩ h0 h1
  exact ⟨j.val, h2, h3⟩
def picked (zs : List Str) (m : Int) (n : Nat) : List Str := ((List.range n).filter (bitK m)).map fun j => zs.getD j ""
theorem picked_nodup {zs : List Str} {m : Int} {n : Nat} (h : zs.Nodup) (hn : n <= zs.length) : (picked zs m n).Nodup := by
  refine KKM.nodup_map_on (fun a ha b hb e => ?_) (nodup_filter List.nodup_range)
  have la : a < zs.length := Nat.lt_of_lt_of_le (List.mem_range.mp (List.mem_filter.mp ha).1) hn
  have lb : b < zs.length := Nat.lt_of_lt_of_le (List.mem_range.mp (List.mem_filter.mp hb).1) hn
  rw [List.getD_eq_getElem?_getD, List.getD_eq_getElem?_getD, List.getElem?_eq_getElem la, List.getElem?_eq_getElem lb] at e
  exact (List.getElem_inj h).mp e
theorem picked_mem {zs : List Str} {m : Int} {n : Nat} (hn : n <= zs.length) {d : Str} (hd : d ∈ picked zs m n) : d ∈ zs := by
  obtain ⟨j, hj, rfl⟩ := List.mem_map.mp hd
  have lj : j < zs.length := Nat.lt_of_lt_of_le (List.mem_range.mp (List.mem_filter.mp hj).1) hn
  rw [List.getD_eq_getElem?_getD, List.getElem?_eq_getElem lj]
  exact List.getElem_mem lj
theorem picked_len (zs : List Str) (m : Int) (n : Nat) : (picked zs m n).length <= n := by
  unfold picked
  rw [List.length_map]
  exact Nat.le_trans (List.length_filter_le _ _) (by rw [List.length_range]; exact Nat.le_refl _)
theorem picked_ne {zs : List Str} {m : Int} {n : Nat} (hc : n <= 4) (h0 : 1 <= m) (h1 : m < 2 ^ n) : picked zs m n ≠ [] := fun e => by
  have h2 : ((m.toNat : Nat) : Int) < ((2 ^ n : Nat) : Int) := by rw [Int.natCast_pow]; exact Int.lt_of_le_of_lt (by omega) h1
  obtain ⟨j, hj, hb⟩ := bit_some (m := m.toNat) (c := n) hc (by omega) (by exact_mod_cast h2)
  have em : ((m.toNat : Nat) : Int) = m := by omega
  rw [em] at hb
  have : j ∈ (List.range n).filter (bitK m) := List.mem_filter.mpr ⟨List.mem_range.mpr hj, hb⟩
  have hne : (List.range n).filter (bitK m) = [] := by
    unfold picked at e
    exact List.map_eq_nil_iff.mp e
  rw [hne] at this
  cases this
theorem picks {D l : Addr} {Q : VK} {H1 : Hp} {zs : List Str} {m : Int} {n : Nat} (hn : n <= 4) (hz : zs.length = n) (hD : H1 D = none) (hl : H1 l = some (.lst (zs.map V.str)))
    (hd : ∀ H', Same H1 H' -> H' D = some (.lst ((picked zs m n).map V.str)) -> Q (.ref D) H') :
    CompLoop (Itr 0 n) D (gName 0) (tTest (tOp rEq (tOp (rI0 fun i j => .int (Builtin.bitAnd i j)) (tOp (rI (fun _ j => 0 <= j) fun i j => .int (i / 2 ^ j.toNat)) (tVar 2) (tVar 0)) (tC (.int 1))) (tC (.int 1)))) (tOp (rIxL K) (tVar 1) (tVar 0)) Q [none, some (.ref l), some (.int m)] H1 := by
  refine comp_range (fun i ys σ H => ∃ v : Option V, ys = (picked zs m i).map V.str /\ σ = [v, some (.ref l), some (.int m)] /\ Same H1 H) ?_ (by omega) ?_ ?_ ?_
  . exact ⟨none, rfl, rfl, sm_new hD⟩
  . rintro i ys σ H ⟨v, rfl, _⟩
    rw [List.length_map]; exact picked_len zs m i
  . rintro i ys σ H hi hl2 ⟨v, rfl, rfl, x⟩
    have hi2 : i < zs.length := by omega
    refine ⟨_, rfl, _, rfl, _, _, rfl, rfl, by omega, _, _, rfl, rfl, rfl, _, rfl, ?_⟩
    have step : picked zs m (i + 1) = if bitK m i = true then picked zs m i ++ [zs[i]] else picked zs m i := by
      unfold picked
      rw [List.range_succ, filter_snoc]
      by_cases hb : bitK m i = true
      . rw [if_pos hb, if_pos hb, List.map_append, List.map_cons, List.map_nil, List.getD_eq_getElem?_getD, List.getElem?_eq_getElem hi2]; rfl
      . rw [if_neg hb, if_neg hb]
    refine ite2 (fun b => ?_) (fun b => ?_)
    . have hb : bitK m i = true := b
      refine ⟨_, rfl, _, rfl, l, _, _, .str zs[i], rfl, rfl, SqL.of (x _ _ hl), ?_, hl2, _, ?_, rfl, x.at hD⟩
      . have e0 : (0 + (i : Int)) = ((i : Nat) : Int) := by omega
        rw [e0]
        exact atI_nat (by rw [List.getElem?_map, List.getElem?_eq_getElem hi2]; rfl)
      . rw [step, if_pos hb, List.map_append]; rfl
    . have hb : ¬ bitK m i = true := b
      refine ⟨hl2, _, ?_, rfl, x⟩
      rw [step, if_neg hb]
  . rintro ys σ H hl2 ⟨v, rfl, _, x⟩
    exact hd H x hl2
def spRows : Sp := fun vs H Q _ => ∃ (a : Addr) (c : Int), vs = [.ref a, .int c] /\ FlowAt H a /\ 1 <= c /\ c <= 4 /\
  ∀ (L : Addr) (rs : List Row) (H' : Hp), Good rs -> L ≠ a -> H L = none -> FlowAt H' a -> Ext a H H' -> RowsAt H' L rs -> Q (.ref L) H'
theorem sc_houses : FnScope ["_law_flow_here", "_law_count", "_law_desks", "_law_letters", "_law_rows", "_law_letter", "_law_mask"] ["_law_flow_here", "_law_count"] (defScope s_law_houses) := ⟨rfl, rfl, rfl, by decide +kernel, rfl, by decide +kernel, by decide +kernel⟩
theorem ok_houses (F : Fun K "_law_houses" "_law_houses" s_law_houses f fd) (B : Bt mg) (G__law_draw : Fn P w K mg base k "_law_draw" ["_law_flow_here", "_law_many"] spDraw g gd) (G__law_names : Fn P w K mg base k "_law_names" ["_law_flow_here", "_law_many"] spNames g2 gd2) :
    FnOk P w K mg base CX0 (k + 1) f fd ["_law_flow_here", "_law_count"] spRows := by
  refine F.ok sc_houses (fun vs H Q E h => ?_) (fun cdv A outer s H vs Q E hr h => ?_)
  . obtain ⟨a, c, rfl, _⟩ := h
    rfl
  obtain ⟨a, c, rfl, hF, c1, c4, q⟩ := h
  have nd := sc_houses.nd
  refine ⟨_, (pss_cons (ps_set (i := 2) nd rfl (Or.inr rfl) (pe_callB call_sortedS rfl B.sorted_ (by decide +kernel) (pa_cons (pe_call G__law_names.ok hr rfl G__law_names.at_ G__law_names.kp G__law_names.bn .nil pass0 (pa_cons (pv 0) (pa_cons (pv 1) pa_nil))) pa_nil))) (pss_cons (ps_set (i := 3) nd rfl (Or.inl rfl) (pe_call G__law_names.ok hr rfl G__law_names.at_ G__law_names.kp G__law_names.bn .nil pass0 (pa_cons (pv 0) (pa_cons (pe_ix ix_list (pe_lst (pa_cons pe_int (pa_cons pe_int (pa_cons pe_int (pa_cons pe_int (pa_cons pe_int (pa_cons pe_int (pa_cons pe_int (pa_cons pe_int pa_nil))))))))) (pe_call G__law_draw.ok hr rfl G__law_draw.at_ G__law_draw.kp G__law_draw.bn .nil pass0 (pa_cons (pv 0) (pa_cons pe_int pa_nil))) (fun _ _ => rfl)) pa_nil)))) (pss_cons (ps_set (i := 4) nd rfl (Or.inl rfl) (pe_lst pa_nil)) (pss_cons (ps_for PassesOwn.never rfl (pi_list (pv 3)) (pg_name (i := 5) nd rfl (Or.inl rfl)) (pss_cons (ps_set (i := 6) nd rfl (Or.inr rfl) (pe_op op_add pe_int (pe_call G__law_draw.ok hr rfl G__law_draw.at_ G__law_draw.kp G__law_draw.bn .nil pass0 (pa_cons (pv 0) (pa_cons (pe_op op_sub (pe_op op_shl pe_int (pv 1)) pe_int) pa_nil))))) (pss_cons (ps_if (pt_cmpR op_eq (pe_call G__law_draw.ok hr rfl G__law_draw.at_ G__law_draw.kp G__law_draw.bn .nil pass0 (pa_cons (pv 0) (pa_cons pe_int pa_nil))) pe_int (nomark _)) (pss_one (ps_set (i := 6) nd rfl (Or.inr rfl) (pe_op op_shl pe_int (pe_call G__law_draw.ok hr rfl G__law_draw.at_ G__law_draw.kp G__law_draw.bn .nil pass0 (pa_cons (pv 0) (pa_cons (pv 1) pa_nil)))))) pss_nil) (pss_one (ps_expr (pe_bm PySem.F.plainAttrs_list PySem.F.slot_list_append PySem.F.type_list_append mt_append (pv 4) (pa_cons (pe_tup (pa_cons (pv 5) (pa_cons (pe_callTy call_tuple_of rfl B.tuple_ (by decide +kernel) (pa_cons (pe_comp (g := (gName 0)) (tc := (tTest (tOp rEq (tOp (rI0 fun i j => .int (Builtin.bitAnd i j)) (tOp (rI (fun _ j => 0 <= j) fun i j => .int (i / 2 ^ j.toNat)) (tVar 2) (tVar 0)) (tC (.int 1))) (tC (.int 1))))) (te := (tOp (rIxL K) (tVar 1) (tVar 0))) (own := ["_law_k"]) (fr := ["_law_desks", "_law_mask"]) (idx := [2, 6]) rfl (by show CompScope _ _ _ (defScope s_law_houses); exact ⟨rfl, by decide +kernel, by decide +kernel, by decide +kernel, by decide +kernel, by decide +kernel, by decide +kernel⟩) (pi_range1 rfl B.range_ (pa_cons (pv 1) pa_nil)) (fun _ _ _ _ _ => (pg_name (i := 0) (by show List.Nodup (["_law_k", "_law_desks", "_law_mask"] : List Str); decide +kernel) rfl (Or.inl rfl) (Or.inr rfl))) (fun _ _ _ _ _ => pts_one (pt_cmpR op_eq (pe_op op_and (pe_op op_shr (pv 2) (pv 0)) pe_int) pe_int (nomark _))) (fun _ _ _ _ _ => (pe_ix ix_list (pv 1) (pv 0) (fun _ _ => rfl))) rfl (hat_of rfl)) pa_nil)) pa_nil))) pa_nil))))))) (pss_one (ps_ret (pv 4))))))), ?_⟩
  refine ⟨_, rfl, _, rfl, a, c, rfl, hF, c1, by omega, fun r1 ys1 H1 e1 b1 n1 nr1 f1 x1 h1 => ⟨r1, ys1, rfl, SqL.of h1, by omega, fun l zs hl hp hs => ?_⟩⟩
  have hz : zs.length = c.toNat := by rw [hp.length_eq]; omega
  have zn : zs.Nodup := hp.nodup_iff.mpr n1
  have zb : Bd zs := fun d hd => b1 d (hp.mem_iff.mp hd)
  have f2 := f1.new (o := .lst (zs.map V.str)) hl
  have x2 : Ext a H (upd H1 l (.lst (zs.map V.str))) := x1.trans (Ext.new hl)
  have h2 : upd H1 l (.lst (zs.map V.str)) l = some (.lst (zs.map V.str)) := upd_same
  have nl : l ≠ a := ne_flow hl f1
  generalize upd H1 l (.lst (zs.map V.str)) = H2 at f2 x2 h2 ⊢
  refine ⟨_, rfl, tiny (show 8 <= 1000 by decide), fun p hp => ⟨_, rfl, a, 8, rfl, f2.new hp, by decide, by decide, fun r3 H3 r30 r31 f3 x3 => ?_⟩⟩
  obtain ⟨m, hm, m1, m6⟩ := pick8 r30 r31
  have np : p ≠ a := ne_flow hp f2
  have h3p := x3 _ _ np upd_same
  have h3l : H3 l = some (.lst (zs.map V.str)) := x3 _ _ nl (by rw [upd_ne (ne_of_none h2 hp)]; exact h2)
  refine ⟨p, _, _, _, rfl, rfl, SqL.of h3p, hm, a, m, rfl, f3, m1, m6, fun r4 ys4 H4 e4 b4 n4 nr4 f4 x4 h4 => ?_⟩
  have h4l := x4 _ _ nl h3l
  have x4' : Ext a H H4 := (x2.trans ((Ext.new hp).trans x3)).trans x4
  refine ⟨tiny (show 0 <= 1000 by decide), fun q0 hq0 => ?_⟩
  have nq : q0 ≠ a := ne_flow hq0 f4
  have nql : l ≠ q0 := ne_of_none h4l hq0
  have hq1 : H q0 = none := by
    cases e : H q0 with
    | none => rfl
    | some o =>
      have := x4' _ _ nq e
      rw [hq0] at this
      cases this
  refine ⟨_, rfl, r4, rfl, ⟨_, SqL.of ((sm_new hq0) _ _ h4)⟩, for_list (xs := ys4.map V.str)
    (fun i σ H' => ∃ (rs : List Row) (v5 v6 : Option V), σ = [some (.ref a), some (.int c), some (.ref l), some (.ref r4), some (.ref q0), v5, v6] /\ rs.map (·.1) = ys4.take i /\ (∀ r ∈ rs, (r.2 ≠ [] /\ r.2.length <= 4 /\ r.2.Nodup) /\ ∀ d ∈ r.2, d ∈ zs) /\ FlowAt H' a /\ Ext a H4 H' /\ RowsAt H' q0 rs) ?_ ?_ ?_ ?_⟩
  . exact ⟨[], none, none, rfl, rfl, (by intro _ z; cases z), f4.new hq0, Ext.new hq0, [], upd_same, .nil⟩
  . rintro i σ H5 _ ⟨rs, v5, v6, _, _, _, f5, x5, _⟩
    exact SqL.of (x5 _ _ nr4 h4)
  . rintro i y σ H5 hy ⟨rs, v5, v6, rfl, hm5, hg5, f5, x5, ts, h5, t5⟩
    rw [List.getElem?_map] at hy
    obtain ⟨z, hz', rfl⟩ := Option.map_eq_some_iff.mp hy
    have pw : (1 : Int) * 2 ^ c.toNat = 2 ^ c.toNat := Int.one_mul _
    have cc : c.toNat = 1 \/ c.toNat = 2 \/ c.toNat = 3 \/ c.toNat = 4 := by omega
    have pb : (2 : Int) <= 2 ^ c.toNat /\ (2 : Int) ^ c.toNat <= 16 := by rcases cc with e | e | e | e <;> rw [e] <;> decide
    refine ⟨_, rfl, _, rfl, _, _, rfl, rfl, ⟨by omega, by omega, by decide⟩, _, _, rfl, rfl, a, _, rfl, f5, by rw [pw]; omega, by rw [pw]; omega, fun r6 H6 r60 r61 f6 x6 => ⟨_, _, rfl, rfl, ?_⟩⟩
    rw [pw] at r61
    refine ⟨_, rfl, a, 3, rfl, f6, by decide, by decide, fun r7 H7 r70 r71 f7 x7 => ⟨rfl, _, rfl, ?_⟩⟩
    refine ite2 (fun _ => ?_) (fun _ => ?_)
    . refine ⟨_, rfl, _, rfl, a, c, rfl, f7, by omega, by omega, fun r8 H8 r80 r81 f8 x8 => ⟨_, _, rfl, rfl, ⟨by omega, by omega, by decide⟩, ?_⟩⟩
      have mk1 : (1 : Int) <= 1 * 2 ^ r8.toNat := by rw [Int.one_mul]; have := Nat.one_le_two_pow (n := r8.toNat); exact_mod_cast this
      have mk2 : (1 : Int) * 2 ^ r8.toNat < 2 ^ c.toNat := by
        rw [Int.one_mul]
        have := Nat.pow_lt_pow_right (a := 2) (by decide) (show r8.toNat < c.toNat by omega)
        exact_mod_cast this
      have xx := (x6.trans x7).trans x8
      have h8q := xx _ _ nq h5
      have h8l := xx _ _ nl (x5 _ _ nl h4l)
      refine ⟨_, rfl, .inl ⟨rfl, _, SqL.of h8q⟩, _, rfl, _, rfl, c, rfl, by omega, by omega, fun D hD => picks (K := K) (n := c.toNat) (m := (1 * 2 ^ r8.toNat)) (by omega) hz hD h8l fun H9 x9 hD9 => ?_⟩
      refine ⟨D, _, rfl, .inl ⟨SqL.of hD9, fun d hd => ⟨tiny (show 2 <= 1000 by decide), fun t ht => ?_⟩⟩⟩
      have y9 : Same H8 (upd (upd H9 d (.tup ((picked zs (1 * 2 ^ r8.toNat) c.toNat).map V.str))) t (.tup [.str z, .ref d])) := x9.trans ((sm_new hd).trans (sm_new ht))
      have f9 := Same.flow y9 f8
      have ndt : d ≠ t := fun e => by rw [<- e, upd_same] at ht; cases ht
      have hrow : RowAt (upd (upd H9 d (.tup ((picked zs (1 * 2 ^ r8.toNat) c.toNat).map V.str))) t (.tup [.str z, .ref d])) t (z, picked zs (1 * 2 ^ r8.toNat) c.toNat) := ⟨d, upd_same, by rw [upd_ne ndt]; exact upd_same⟩
      generalize upd (upd H9 d (.tup ((picked zs (1 * 2 ^ r8.toNat) c.toNat).map V.str))) t (.tup [.str z, .ref d]) = H10 at y9 f9 hrow ⊢
      have h10 := y9 _ _ h8q
      have tk : TK H5 H10 := (xx.tk f5).trans (Same.tk y9)
      have lts : ts.length = rs.length := Paired.length t5
      have lrs : rs.length <= i := by
        have := congrArg List.length hm5
        rw [List.length_map, List.length_take] at this
        omega
      have li : i < ys4.length := (List.getElem?_eq_some_iff.mp hz').1
      refine ⟨q0, _, _, rfl, rfl, h10, small (by rw [List.length_map]; omega), rs ++ [(z, picked zs (1 * 2 ^ r8.toNat) c.toNat)], _, _, rfl, ?_, ?_, f9.set (Ne.symm nq), ((x5.trans xx).trans (Same.ext y9)).at hq0, ts ++ [t], ?_, ?_⟩
      . rw [List.map_append, hm5, take_snoc hz']; rfl
      . intro r hr'
        rcases List.mem_append.mp hr' with hr' | hr'
        . exact hg5 r hr'
        . rw [List.mem_singleton.mp hr']
          exact ⟨⟨picked_ne (by omega) mk1 mk2, Nat.le_trans (picked_len _ _ _) (by omega), picked_nodup zn (by omega)⟩, fun d hd => picked_mem (by omega) hd⟩
      . rw [upd_same, List.map_append]; rfl
      . exact RowsT.keep (TK.lst h10) (Paired.snoc (RowsT.keep tk t5) hrow)
    . have mk1 : (1 : Int) <= 1 + r6 := by omega
      have mk2 : 1 + r6 < 2 ^ c.toNat := by omega
      have xx := x6.trans x7
      have h8q := xx _ _ nq h5
      have h8l := xx _ _ nl (x5 _ _ nl h4l)
      refine ⟨_, rfl, .inl ⟨rfl, _, SqL.of h8q⟩, _, rfl, _, rfl, c, rfl, by omega, by omega, fun D hD => picks (K := K) (n := c.toNat) (m := (1 + r6)) (by omega) hz hD h8l fun H9 x9 hD9 => ?_⟩
      refine ⟨D, _, rfl, .inl ⟨SqL.of hD9, fun d hd => ⟨tiny (show 2 <= 1000 by decide), fun t ht => ?_⟩⟩⟩
      have y9 : Same H7 (upd (upd H9 d (.tup ((picked zs (1 + r6) c.toNat).map V.str))) t (.tup [.str z, .ref d])) := x9.trans ((sm_new hd).trans (sm_new ht))
      have f9 := Same.flow y9 f7
      have ndt : d ≠ t := fun e => by rw [<- e, upd_same] at ht; cases ht
      have hrow : RowAt (upd (upd H9 d (.tup ((picked zs (1 + r6) c.toNat).map V.str))) t (.tup [.str z, .ref d])) t (z, picked zs (1 + r6) c.toNat) := ⟨d, upd_same, by rw [upd_ne ndt]; exact upd_same⟩
      generalize upd (upd H9 d (.tup ((picked zs (1 + r6) c.toNat).map V.str))) t (.tup [.str z, .ref d]) = H10 at y9 f9 hrow ⊢
      have h10 := y9 _ _ h8q
      have tk : TK H5 H10 := (xx.tk f5).trans (Same.tk y9)
      have lts : ts.length = rs.length := Paired.length t5
      have lrs : rs.length <= i := by
        have := congrArg List.length hm5
        rw [List.length_map, List.length_take] at this
        omega
      have li : i < ys4.length := (List.getElem?_eq_some_iff.mp hz').1
      refine ⟨q0, _, _, rfl, rfl, h10, small (by rw [List.length_map]; omega), rs ++ [(z, picked zs (1 + r6) c.toNat)], _, _, rfl, ?_, ?_, f9.set (Ne.symm nq), ((x5.trans xx).trans (Same.ext y9)).at hq0, ts ++ [t], ?_, ?_⟩
      . rw [List.map_append, hm5, take_snoc hz']; rfl
      . intro r hr'
        rcases List.mem_append.mp hr' with hr' | hr'
        . exact hg5 r hr'
        . rw [List.mem_singleton.mp hr']
          exact ⟨⟨picked_ne (by omega) mk1 mk2, Nat.le_trans (picked_len _ _ _) (by omega), picked_nodup zn (by omega)⟩, fun d hd => picked_mem (by omega) hd⟩
      . rw [upd_same, List.map_append]; rfl
      . exact RowsT.keep (TK.lst h10) (Paired.snoc (RowsT.keep tk t5) hrow)
  . rintro σ H5 ⟨rs, v5, v6, rfl, hm5, hg5, f5, x5, h5⟩
    rw [List.length_map, List.take_length] at hm5
    refine ⟨_, rfl, q q0 rs H5 ⟨?_, ?_, by rw [hm5]; exact n4, fun r hr => (hg5 r hr).1, by rw [hm5]; exact b4, fun r hr d hd => zb d ((hg5 r hr).2 d hd), zs, by omega, fun r hr => (hg5 r hr).2⟩ nq hq1 f5 (x4'.trans x5) h5⟩
    . intro e
      rw [e] at hm5
      have : ys4.length = 0 := by rw [<- hm5]; rfl
      omega
    . have : rs.length = ys4.length := by rw [<- hm5, List.length_map]
      omega
end
theorem Ext.none {a q : Addr} {H H' : Hp} (x : Ext a H H') (n : q ≠ a) (h : H' q = none) : H q = none := by
  cases e : H q with
  | none => rfl
  | some o =>
    have := x _ _ n e
    rw [h] at this
    cases this
def unS : V -> Str
  | .str x => x
  | _ => ""
theorem perm_strs {ys : List V} {ds : List Str} (h : ys.Perm (ds.map V.str)) : ∃ es : List Str, ys = es.map V.str /\ es.Perm ds := by
  refine ⟨ys.map unS, ?_, ?_⟩
  . rw [List.map_map]
    have : ∀ y ∈ ys, (V.str ∘ unS) y = y := fun y hy => by
      obtain ⟨z, _, rfl⟩ := List.mem_map.mp (h.mem_iff.mp hy)
      rfl
    rw [List.map_congr_left (g := id) this, List.map_id]
  . have := h.map unS
    rw [List.map_map] at this
    have e : (unS ∘ V.str) = id := by funext z; rfl
    rwa [e, List.map_id] at this
theorem at_map {α : Type} (f : α -> V) {zs : List α} {i : Int} (h0 : 0 <= i) (h : i.toNat < zs.length) : atI (zs.map f) i = some (f zs[i.toNat]) := by
  have q : atI (zs.map f) ((i.toNat : Nat) : Int) = some (f zs[i.toNat]) := atI_nat (by rw [List.getElem?_map, List.getElem?_eq_getElem h]; rfl)
  have e : ((i.toNat : Nat) : Int) = i := by omega
  rw [e] at q
  exact q
section
variable {P : Program} {w : World} {K : W.Frag} {mg : Str -> Option Value} {base : Heap} {f g g2 g3 : Addr} {fd gd gd2 gd3 : FuncData} {k : Nat}
theorem renamed {D d : Addr} {Q : VK} {H1 : Hp} {ds : List Str} {old new : Str} (hl : ds.length <= 1000) (hD : H1 D = none) (hd : H1 d = some (.tup (ds.map V.str)))
    (hdn : ∀ H', Same H1 H' -> H' D = some (.lst ((ds.map (ren old new)).map V.str)) -> Q (.ref D) H') :
    CompLoop (Itt K d) D (gName 0) tYes (tOp (rIxL K) (tLst (tCons (tVar 0) (tCons (tVar 1) tNil))) (tCB (fun xs H Q => (∃ i, xs = [.int i] /\ Q (.int i) H) \/ ∃ k, xs = [.bl k] /\ Q (.int (if k then 1 else 0)) H) (tCons (tOp rEq (tVar 0) (tVar 2)) tNil))) Q
      [none, some (.str new), some (.str old)] H1 := by
  refine comp_tup (xs := ds.map V.str) (fun i ys σ H => ∃ v : Option V, ys = ((ds.take i).map (ren old new)).map V.str /\ σ = [v, some (.str new), some (.str old)] /\ Same H1 H) ?_ (by rw [List.length_map]; omega) ?_ ?_ ?_ ?_
  . exact ⟨none, rfl, rfl, sm_new hD⟩
  . rintro i ys σ H ⟨v, rfl, _⟩
    rw [List.length_map, List.length_map, List.length_take]; omega
  . rintro i ys σ H ⟨v, _, _, x⟩
    exact SqT.of (x _ _ hd)
  . rintro i y ys σ H hy hl2 ⟨v, rfl, rfl, x⟩
    rw [List.getElem?_map] at hy
    obtain ⟨z, hz, rfl⟩ := Option.map_eq_some_iff.mp hy
    refine ⟨_, rfl, _, rfl, tiny (show 2 <= 1000 by decide), fun p hp => ⟨_, rfl, _, rfl, rfl, .inr ⟨_, rfl, p, _, _, .str (ren old new z), rfl, rfl, SqL.of upd_same, ?_, ?_, _, ?_, rfl, ?_⟩⟩⟩
    . by_cases e : z = old
      . subst e
        rw [decide_eq_true rfl]
        show atI [V.str z, V.str new] ((1 : Nat) : Int) = _
        rw [show ren z new z = new from if_pos rfl]
        exact atI_nat rfl
      . rw [decide_eq_false (fun c => e (by injection c))]
        show atI [V.str z, V.str new] ((0 : Nat) : Int) = _
        rw [show ren old new z = z from if_neg e]
        exact atI_nat rfl
    . rw [upd_ne (ne_of_none hl2 hp)]; exact hl2
    . rw [take_snoc hz, List.map_append, List.map_append]; rfl
    . exact (x.trans (sm_new hp)).at hD
  . rintro ys σ H hl2 ⟨v, rfl, _, x⟩
    rw [List.length_map, List.take_length] at hl2
    exact hdn H x hl2
def spCalled : Sp := fun vs H Q _ => ∃ (a L : Addr) (rs : List Row), vs = [.ref a, .ref L] /\ FlowAt H a /\ RowsAt H L rs /\ Good rs /\ L ≠ a /\
  ∀ (L' : Addr) (rs' : List Row) (H' : Hp), Good rs' -> L' ≠ a -> H L' = none -> FlowAt H' a -> Ext a H H' -> RowsAt H' L' rs' -> Q (.ref L') H'
theorem sc_called : FnScope ["_law_flow_here", "_law_rows", "_law_desks", "_law_old", "_law_new", "_law_found", "_law_letter", "_law_some", "_law_called_here"] ["_law_flow_here", "_law_rows"] (defScope s_law_called) := ⟨rfl, rfl, rfl, by decide +kernel, rfl, by decide +kernel, by decide +kernel⟩
theorem ren_bd {es ds : List Str} {old new : Str} (p : es.Perm (ds.map (ren old new))) (h : Bd ds) (hn : Nm new) : Bd es := fun e he => by
  obtain ⟨d, hd, rfl⟩ := List.mem_map.mp (p.mem_iff.mp he)
  unfold ren
  split
  . exact hn
  . exact h d hd
set_option maxHeartbeats 40000000 in
theorem ok_called (F : Fun K "_law_called" "_law_called" s_law_called f fd) (B : Bt mg) (G__law_draw : Fn P w K mg base k "_law_draw" ["_law_flow_here", "_law_many"] spDraw g gd)
    (G__law_turned : Fn P w K mg base k "_law_turned" ["_law_flow_here", "_law_some"] (spTurned K) g2 gd2) (G__law_desks_of : Fn P w K mg base k "_law_desks_of" ["_law_rows"] spDesksOf g3 gd3) :
    FnOk P w K mg base CX0 (k + 1) f fd ["_law_flow_here", "_law_rows"] spCalled := by
  refine F.ok sc_called (fun vs H Q E h => ?_) (fun cdv A outer s H vs Q E hr h => ?_)
  . obtain ⟨a, L, rs, rfl, _⟩ := h
    rfl
  obtain ⟨a, L, rs, rfl, hF, hR, hG, nL, q⟩ := h
  obtain ⟨ts, hL, hT⟩ := id hR
  have hlen := Paired.length hT
  have hl6 := hG.len
  obtain ⟨few, fewL, fewA⟩ := hG.few
  have nd := sc_called.nd
  refine ⟨_, (pss_cons (ps_set (i := 2) nd rfl (Or.inl rfl) (pe_call G__law_desks_of.ok hr rfl G__law_desks_of.at_ G__law_desks_of.kp G__law_desks_of.bn .nil pass0 (pa_cons (pv 1) pa_nil))) (pss_cons (ps_set (i := 3) nd rfl (Or.inr rfl) (pe_ix ix_list (pv 2) (pe_call G__law_draw.ok hr rfl G__law_draw.at_ G__law_draw.kp G__law_draw.bn .nil pass0 (pa_cons (pv 0) (pa_cons (pe_callB call_len_seq rfl B.len_ PySem.boot_len (pa_cons (pv 2) pa_nil)) pa_nil))) (fun _ _ => rfl))) (pss_cons (ps_set (i := 4) nd rfl (Or.inr rfl) (pv 3)) (pss_cons (ps_if (pt_cmpR op_eq (pe_call G__law_draw.ok hr rfl G__law_draw.at_ G__law_draw.kp G__law_draw.bn .nil pass0 (pa_cons (pv 0) (pa_cons pe_int pa_nil))) pe_int (nomark _)) (pss_one (ps_set (i := 4) nd rfl (Or.inr rfl) (pe_ix ix_tup (pe_ix ix_list (pv 1) (pe_call G__law_draw.ok hr rfl G__law_draw.at_ G__law_draw.kp G__law_draw.bn .nil pass0 (pa_cons (pv 0) (pa_cons (pe_callB call_len_seq rfl B.len_ PySem.boot_len (pa_cons (pv 1) pa_nil)) pa_nil))) (fun _ _ => rfl)) pe_int (fun _ _ => rfl)))) pss_nil) (pss_cons (ps_if (pt_cmpR op_in_seq (pv 4) (pv 2) rfl) (pss_one (ps_set (i := 4) nd rfl (Or.inr rfl) (pv 3))) pss_nil) (pss_cons (ps_set (i := 5) nd rfl (Or.inl rfl) (pe_lst pa_nil)) (pss_cons (ps_for PassesOwn.never rfl (pi_list (pv 1)) (pg_tup rfl (pgs_cons (pg_name (i := 6) nd rfl (Or.inl rfl)) (pgs_cons (pg_name (i := 7) nd rfl (Or.inl rfl)) pgs_nil))) (pss_cons (ps_setC (i := 8) nd rfl (Or.inl rfl) (g := (gName 0)) (tc := tYes) (te := (tOp (rIxL K) (tLst (tCons (tVar 0) (tCons (tVar 1) tNil))) (tCB (fun xs H Q => (∃ i, xs = [.int i] /\ Q (.int i) H) \/ ∃ k, xs = [.bl k] /\ Q (.int (if k then 1 else 0)) H) (tCons (tOp rEq (tVar 0) (tVar 2)) tNil)))) (own := ["_law_desk"]) (fr := ["_law_new", "_law_old"]) (idx := [4, 3]) rfl (by show CompScope _ _ _ (defScope s_law_called); exact ⟨rfl, by decide +kernel, by decide +kernel, by decide +kernel, by decide +kernel, by decide +kernel, by decide +kernel⟩) (pi_tup (pv 7)) (fun _ _ _ _ _ => (pg_name (i := 0) (by show List.Nodup (["_law_desk", "_law_new", "_law_old"] : List Str); decide +kernel) rfl (Or.inl rfl) (Or.inr rfl))) (fun _ _ _ _ _ => pts_nil) (fun _ _ _ _ _ => (pe_ix ix_list (pe_lst (pa_cons (pv 0) (pa_cons (pv 1) pa_nil))) (pe_callTy call_int1 rfl B.int_ (by decide +kernel) (pa_cons (pe_cmpR op_eq (pv 0) (pv 2) (nomark _)) pa_nil)) (fun _ _ => rfl))) rfl (hat_of rfl)) (pss_one (ps_expr (pe_bm PySem.F.plainAttrs_list PySem.F.slot_list_append PySem.F.type_list_append mt_append (pv 5) (pa_cons (pe_tup (pa_cons (pv 6) (pa_cons (pe_callTy call_tuple_of rfl B.tuple_ (by decide +kernel) (pa_cons (pe_call G__law_turned.ok hr rfl G__law_turned.at_ G__law_turned.kp G__law_turned.bn .nil pass0 (pa_cons (pv 0) (pa_cons (pv 8) pa_nil))) pa_nil)) pa_nil))) pa_nil)))))) (pss_one (ps_ret (pv 5)))))))))), ?_⟩
  refine ⟨_, rfl, L, rs, rfl, hR, by omega, fun r hr => ⟨by have := hG.row r hr; omega, (hG.row r hr).2.2⟩, fun r1 zs H1 s1 n1 l1 m1 hr1 x1 h1 => ?_⟩
  have f1 := Same.flow x1 hF
  have nr1 : r1 ≠ a := fun z => by
    obtain ⟨o, ho⟩ := hF.some
    rw [z, ho] at hr1
    cases hr1
  have zne : 0 < zs.length := by
    cases e : rs with
    | nil => exact absurd e hG.ne
    | cons r rr =>
      obtain ⟨rne, _⟩ := hG.row r (by rw [e]; exact List.mem_cons_self)
      cases e2 : r.2 with
      | nil => exact absurd e2 rne
      | cons d dd => exact List.length_pos_of_mem ((m1 d).mpr ⟨r, by rw [e]; exact List.mem_cons_self, by rw [e2]; exact List.mem_cons_self⟩)
  refine ⟨_, rfl, _, rfl, _, rfl, r1, _, rfl, .inl (SqL.of h1), a, _, rfl, f1, by rw [List.length_map]; omega, by rw [List.length_map]; omega, fun i2 H2 i20 i21 f2 x2 => ?_⟩
  rw [List.length_map] at i21
  have hi2 : i2.toNat < zs.length := by omega
  have h2 := x2 _ _ nr1 h1
  have at2 : atI (zs.map V.str) i2 = some (.str zs[i2.toNat]) := at_map V.str i20 hi2
  have old_in : zs[i2.toNat] ∈ zs := List.getElem_mem hi2
  refine ⟨r1, _, _, _, rfl, rfl, SqL.of h2, at2, ?_⟩
  generalize zs[i2.toNat] = old at old_in ⊢
  have x12 : Ext a H H2 := (Same.ext x1).trans x2
  refine ⟨_, rfl, ?_⟩
  refine ⟨_, rfl, a, 4, rfl, f2, by decide, by decide, fun r3 H3 _ _ f3 x3 => ⟨rfl, _, rfl, ?_⟩⟩
  have x13 := x12.trans x3
  have h3 := x3 _ _ nr1 h2
  have ob : Nm old := by
    obtain ⟨r0, h0, h1'⟩ := (m1 old).mp old_in
    exact hG.dn r0 h0 old h1'
  have hn_old : ∀ r ∈ rs, old = old \/ old ∉ r.2 := fun _ _ => .inl rfl
  refine ite2 (fun _ => ?_) (fun _ => ?_)
  . have hL3 := x13 _ _ nL hL
    refine ⟨_, rfl, _, rfl, _, rfl, L, _, rfl, .inl (SqL.of hL3), a, _, rfl, f3, ?_, ?_, fun i4 H4 i40 i41 f4 x4 => ?_⟩
    . rw [List.length_map, hlen]
      have := List.length_pos_iff.mpr hG.ne
      omega
    . rw [List.length_map, hlen]; omega
    . rw [List.length_map] at i41
      have hi4 : i4.toNat < ts.length := by omega
      have x14 := x13.trans x4
      have h4 := x4 _ _ nr1 h3
      obtain ⟨r, hr', d, e1, e2⟩ := hT.get (List.getElem?_eq_getElem hi4)
      have at4 : atI (ts.map V.ref) i4 = some (.ref ts[i4.toNat]) := at_map V.ref i40 hi4
      refine ⟨L, _, _, _, rfl, rfl, SqL.of (x14 _ _ nL hL), at4, ts[i4.toNat], _, _, _, rfl, rfl, SqT.of (x14.tk hF _ _ e1), atI_nat (j := 0) (v := V.str r.1) rfl, ?_⟩
      have nb := hG.nm r.1 (List.mem_map_of_mem (List.mem_of_getElem? hr'))
      generalize hnw : r.1 = nw at nb ⊢
      refine ⟨_, rfl, _, rfl, r1, _, rfl, .inl (SqL.of h4), rfl, flat_strs zs, _, rfl, ?_⟩
      refine ite2 (fun _ => ?_) (fun cc => ?_)
      . refine ⟨_, rfl, ?_⟩
        refine ⟨tiny (show 0 <= 1000 by decide), fun q0 hq0 => ?_⟩
        have nq : q0 ≠ a := ne_flow hq0 f4
        have hq1 : H q0 = none := Ext.none x14 nq hq0
        have hLH := x14 _ _ nL hL
        have tkH := Ext.tk x14 hF
        refine ⟨_, rfl, L, rfl, ⟨_, SqL.of ((sm_new hq0) _ _ hLH)⟩, for_list (xs := ts.map V.ref)
          (fun i σ H' => ∃ (rs' : List Row) (v6 v7 v8 : Option V), σ = [some (.ref a), some (.ref L), some (.ref r1), some (.str old), some (.str old), some (.ref q0), v6, v7, v8] /\ rs'.map (·.1) = (rs.take i).map (·.1) /\ (∀ r ∈ rs', (r.2 ≠ [] /\ r.2.length <= 4 /\ r.2.Nodup) /\ Bd r.2 /\ ∀ d ∈ r.2, d ∈ few.map (ren old old)) /\ FlowAt H' a /\ Ext a H4 H' /\ RowsAt H' q0 rs') ?_ ?_ ?_ ?_⟩
        . exact ⟨[], none, none, none, rfl, rfl, (by intro _ z; cases z), FlowAt.new f4 hq0, Ext.new hq0, [], upd_same, .nil⟩
        . rintro i σ H5 _ ⟨rs', v6, v7, v8, _, _, _, f5, x5, _⟩
          exact SqL.of (x5 _ _ nL hLH)
        . rintro i y σ H5 hy ⟨rs', v6, v7, v8, rfl, hm5, hg5, f5, x5, us, h5, t5⟩
          rw [List.getElem?_map] at hy
          obtain ⟨t, ht, rfl⟩ := Option.map_eq_some_iff.mp hy
          obtain ⟨r, hr', d, e1, e2⟩ := hT.get ht
          have hm := List.mem_of_getElem? hr'
          obtain ⟨rne, r4, rnd⟩ := hG.row r hm
          have tk5 : TK H H5 := tkH.trans (x5.tk f4)
          refine ⟨t, _, rfl, SqT.of (tk5 _ _ e1), rfl, _, _, rfl, _, _, rfl, rfl, ?_⟩
          refine ⟨_, rfl, d, rfl, ⟨_, SqT.of (tk5 _ _ e2)⟩, fun D hD => renamed (K := K) (old := old) (new := old) (by omega) hD (tk5 _ _ e2) fun H6 x6 hD6 => ?_⟩
          have h6 := x6 _ _ h5
          have f6 := Same.flow x6 f5
          refine ⟨_, rfl, .inl ⟨rfl, _, SqL.of h6⟩, _, rfl, _, rfl, _, rfl, a, D, _, rfl, f6, .inl (SqL.of hD6), by rw [List.length_map, List.length_map]; omega, fun r7 ys H7 p7 nr7 hr7 f7 x7 h7 => ?_⟩
          obtain ⟨es, rfl, pe⟩ := perm_strs p7
          have hes : es.Nodup := pe.nodup_iff.mpr (ren_nodup rnd (hn_old r hm))
          have les : es.length = r.2.length := by rw [pe.length_eq, List.length_map]
          refine ⟨r7, _, rfl, .inl ⟨SqL.of h7, fun d2 hd2 => ⟨tiny (show 2 <= 1000 by decide), fun t2 ht2 => ?_⟩⟩⟩
          have y7 : Same H7 (upd (upd H7 d2 (.tup (es.map V.str))) t2 (.tup [.str r.1, .ref d2])) := (sm_new hd2).trans (sm_new ht2)
          have f8 := Same.flow y7 f7
          have ndt : d2 ≠ t2 := fun e => by rw [<- e, upd_same] at ht2; cases ht2
          have hrow : RowAt (upd (upd H7 d2 (.tup (es.map V.str))) t2 (.tup [.str r.1, .ref d2])) t2 (r.1, es) := ⟨d2, upd_same, by rw [upd_ne ndt]; exact upd_same⟩
          generalize upd (upd H7 d2 (.tup (es.map V.str))) t2 (.tup [.str r.1, .ref d2]) = H8 at y7 f8 hrow ⊢
          have x8 : Ext a H5 H8 := (Same.ext x6).trans (x7.trans (Same.ext y7))
          have h8 := x8 _ _ nq h5
          have lus : us.length = rs'.length := Paired.length t5
          have lrs : rs'.length <= i := by
            have := congrArg List.length hm5
            rw [List.length_map, List.length_map, List.length_take] at this
            omega
          have li : i < rs.length := (List.getElem?_eq_some_iff.mp hr').1
          have l6 := hG.len
          refine ⟨q0, _, _, rfl, rfl, h8, small (by rw [List.length_map]; omega), rs' ++ [(r.1, es)], _, _, _, rfl, ?_, ?_, f8.set (Ne.symm nq), (x5.trans x8).at hq0, us ++ [t2], ?_, ?_⟩
          . rw [List.map_append, hm5, take_snoc hr', List.map_append]; rfl
          . intro r2 hr2
            rcases List.mem_append.mp hr2 with hr2 | hr2
            . exact hg5 r2 hr2
            . rw [List.mem_singleton.mp hr2]
              exact ⟨⟨fun e => rne (List.eq_nil_of_length_eq_zero (by rw [<- les]; exact congrArg List.length e)), by show es.length <= 4; omega, hes⟩, ren_bd pe (hG.dn r hm) ob, fun d hd => by
                obtain ⟨d0, hd0, e0⟩ := List.mem_map.mp (pe.mem_iff.mp hd)
                rw [<- e0]
                exact List.mem_map_of_mem (fewA r hm d0 hd0)⟩
          . rw [upd_same, List.map_append]; rfl
          . exact RowsT.keep (TK.lst h8) (Paired.snoc (RowsT.keep (x8.tk f5) t5) hrow)
        . rintro σ H5 ⟨rs', v6, v7, v8, rfl, hm5, hg5, f5, x5, h5⟩
          rw [List.length_map, hlen, List.take_length] at hm5
          refine ⟨_, rfl, q q0 rs' H5 ⟨?_, ?_, by rw [hm5]; exact hG.nd, fun r hr => (hg5 r hr).1, by rw [hm5]; exact hG.nm, fun r hr => (hg5 r hr).2.1, _, by rw [List.length_map]; exact fewL, fun r hr => (hg5 r hr).2.2⟩ nq hq1 f5 (Ext.trans x14 x5) h5⟩
          . intro e
            rw [e] at hm5
            exact hG.ne (List.map_eq_nil_iff.mp hm5.symm)
          . have : rs'.length = rs.length := by rw [<- List.length_map (f := fun r : Row => r.1), hm5, List.length_map]
            have := hG.len
            omega
      . have hn : ∀ r0 ∈ rs, nw = old \/ nw ∉ r0.2 := fun r0 h0 => .inr fun z => inV_nmem.mp (by simpa using cc) ((m1 _).mpr ⟨r0, h0, z⟩)
        refine ⟨tiny (show 0 <= 1000 by decide), fun q0 hq0 => ?_⟩
        have nq : q0 ≠ a := ne_flow hq0 f4
        have hq1 : H q0 = none := Ext.none x14 nq hq0
        have hLH := x14 _ _ nL hL
        have tkH := Ext.tk x14 hF
        refine ⟨_, rfl, L, rfl, ⟨_, SqL.of ((sm_new hq0) _ _ hLH)⟩, for_list (xs := ts.map V.ref)
          (fun i σ H' => ∃ (rs' : List Row) (v6 v7 v8 : Option V), σ = [some (.ref a), some (.ref L), some (.ref r1), some (.str old), some (.str nw), some (.ref q0), v6, v7, v8] /\ rs'.map (·.1) = (rs.take i).map (·.1) /\ (∀ r ∈ rs', (r.2 ≠ [] /\ r.2.length <= 4 /\ r.2.Nodup) /\ Bd r.2 /\ ∀ d ∈ r.2, d ∈ few.map (ren old nw)) /\ FlowAt H' a /\ Ext a H4 H' /\ RowsAt H' q0 rs') ?_ ?_ ?_ ?_⟩
        . exact ⟨[], none, none, none, rfl, rfl, (by intro _ z; cases z), FlowAt.new f4 hq0, Ext.new hq0, [], upd_same, .nil⟩
        . rintro i σ H5 _ ⟨rs', v6, v7, v8, _, _, _, f5, x5, _⟩
          exact SqL.of (x5 _ _ nL hLH)
        . rintro i y σ H5 hy ⟨rs', v6, v7, v8, rfl, hm5, hg5, f5, x5, us, h5, t5⟩
          rw [List.getElem?_map] at hy
          obtain ⟨t, ht, rfl⟩ := Option.map_eq_some_iff.mp hy
          obtain ⟨r, hr', d, e1, e2⟩ := hT.get ht
          have hm := List.mem_of_getElem? hr'
          obtain ⟨rne, r4, rnd⟩ := hG.row r hm
          have tk5 : TK H H5 := tkH.trans (x5.tk f4)
          refine ⟨t, _, rfl, SqT.of (tk5 _ _ e1), rfl, _, _, rfl, _, _, rfl, rfl, ?_⟩
          refine ⟨_, rfl, d, rfl, ⟨_, SqT.of (tk5 _ _ e2)⟩, fun D hD => renamed (K := K) (old := old) (new := nw) (by omega) hD (tk5 _ _ e2) fun H6 x6 hD6 => ?_⟩
          have h6 := x6 _ _ h5
          have f6 := Same.flow x6 f5
          refine ⟨_, rfl, .inl ⟨rfl, _, SqL.of h6⟩, _, rfl, _, rfl, _, rfl, a, D, _, rfl, f6, .inl (SqL.of hD6), by rw [List.length_map, List.length_map]; omega, fun r7 ys H7 p7 nr7 hr7 f7 x7 h7 => ?_⟩
          obtain ⟨es, rfl, pe⟩ := perm_strs p7
          have hes : es.Nodup := pe.nodup_iff.mpr (ren_nodup rnd (hn r hm))
          have les : es.length = r.2.length := by rw [pe.length_eq, List.length_map]
          refine ⟨r7, _, rfl, .inl ⟨SqL.of h7, fun d2 hd2 => ⟨tiny (show 2 <= 1000 by decide), fun t2 ht2 => ?_⟩⟩⟩
          have y7 : Same H7 (upd (upd H7 d2 (.tup (es.map V.str))) t2 (.tup [.str r.1, .ref d2])) := (sm_new hd2).trans (sm_new ht2)
          have f8 := Same.flow y7 f7
          have ndt : d2 ≠ t2 := fun e => by rw [<- e, upd_same] at ht2; cases ht2
          have hrow : RowAt (upd (upd H7 d2 (.tup (es.map V.str))) t2 (.tup [.str r.1, .ref d2])) t2 (r.1, es) := ⟨d2, upd_same, by rw [upd_ne ndt]; exact upd_same⟩
          generalize upd (upd H7 d2 (.tup (es.map V.str))) t2 (.tup [.str r.1, .ref d2]) = H8 at y7 f8 hrow ⊢
          have x8 : Ext a H5 H8 := (Same.ext x6).trans (x7.trans (Same.ext y7))
          have h8 := x8 _ _ nq h5
          have lus : us.length = rs'.length := Paired.length t5
          have lrs : rs'.length <= i := by
            have := congrArg List.length hm5
            rw [List.length_map, List.length_map, List.length_take] at this
            omega
          have li : i < rs.length := (List.getElem?_eq_some_iff.mp hr').1
          have l6 := hG.len
          refine ⟨q0, _, _, rfl, rfl, h8, small (by rw [List.length_map]; omega), rs' ++ [(r.1, es)], _, _, _, rfl, ?_, ?_, f8.set (Ne.symm nq), (x5.trans x8).at hq0, us ++ [t2], ?_, ?_⟩
          . rw [List.map_append, hm5, take_snoc hr', List.map_append]; rfl
          . intro r2 hr2
            rcases List.mem_append.mp hr2 with hr2 | hr2
            . exact hg5 r2 hr2
            . rw [List.mem_singleton.mp hr2]
              exact ⟨⟨fun e => rne (List.eq_nil_of_length_eq_zero (by rw [<- les]; exact congrArg List.length e)), by show es.length <= 4; omega, hes⟩, ren_bd pe (hG.dn r hm) nb, fun d hd => by
                obtain ⟨d0, hd0, e0⟩ := List.mem_map.mp (pe.mem_iff.mp hd)
                rw [<- e0]
                exact List.mem_map_of_mem (fewA r hm d0 hd0)⟩
          . rw [upd_same, List.map_append]; rfl
          . exact RowsT.keep (TK.lst h8) (Paired.snoc (RowsT.keep (x8.tk f5) t5) hrow)
        . rintro σ H5 ⟨rs', v6, v7, v8, rfl, hm5, hg5, f5, x5, h5⟩
          rw [List.length_map, hlen, List.take_length] at hm5
          refine ⟨_, rfl, q q0 rs' H5 ⟨?_, ?_, by rw [hm5]; exact hG.nd, fun r hr => (hg5 r hr).1, by rw [hm5]; exact hG.nm, fun r hr => (hg5 r hr).2.1, _, by rw [List.length_map]; exact fewL, fun r hr => (hg5 r hr).2.2⟩ nq hq1 f5 (Ext.trans x14 x5) h5⟩
          . intro e
            rw [e] at hm5
            exact hG.ne (List.map_eq_nil_iff.mp hm5.symm)
          . have : rs'.length = rs.length := by rw [<- List.length_map (f := fun r : Row => r.1), hm5, List.length_map]
            have := hG.len
            omega
  . refine ⟨_, rfl, _, rfl, r1, _, rfl, .inl (SqL.of h3), rfl, flat_strs zs, _, rfl, ?_⟩
    refine ite2 (fun _ => ?_) (fun cc => ?_)
    . refine ⟨_, rfl, ?_⟩
      refine ⟨tiny (show 0 <= 1000 by decide), fun q0 hq0 => ?_⟩
      have nq : q0 ≠ a := ne_flow hq0 f3
      have hq1 : H q0 = none := Ext.none x13 nq hq0
      have hLH := x13 _ _ nL hL
      have tkH := Ext.tk x13 hF
      refine ⟨_, rfl, L, rfl, ⟨_, SqL.of ((sm_new hq0) _ _ hLH)⟩, for_list (xs := ts.map V.ref)
        (fun i σ H' => ∃ (rs' : List Row) (v6 v7 v8 : Option V), σ = [some (.ref a), some (.ref L), some (.ref r1), some (.str old), some (.str old), some (.ref q0), v6, v7, v8] /\ rs'.map (·.1) = (rs.take i).map (·.1) /\ (∀ r ∈ rs', (r.2 ≠ [] /\ r.2.length <= 4 /\ r.2.Nodup) /\ Bd r.2 /\ ∀ d ∈ r.2, d ∈ few.map (ren old old)) /\ FlowAt H' a /\ Ext a H3 H' /\ RowsAt H' q0 rs') ?_ ?_ ?_ ?_⟩
      . exact ⟨[], none, none, none, rfl, rfl, (by intro _ z; cases z), FlowAt.new f3 hq0, Ext.new hq0, [], upd_same, .nil⟩
      . rintro i σ H5 _ ⟨rs', v6, v7, v8, _, _, _, f5, x5, _⟩
        exact SqL.of (x5 _ _ nL hLH)
      . rintro i y σ H5 hy ⟨rs', v6, v7, v8, rfl, hm5, hg5, f5, x5, us, h5, t5⟩
        rw [List.getElem?_map] at hy
        obtain ⟨t, ht, rfl⟩ := Option.map_eq_some_iff.mp hy
        obtain ⟨r, hr', d, e1, e2⟩ := hT.get ht
        have hm := List.mem_of_getElem? hr'
        obtain ⟨rne, r4, rnd⟩ := hG.row r hm
        have tk5 : TK H H5 := tkH.trans (x5.tk f3)
        refine ⟨t, _, rfl, SqT.of (tk5 _ _ e1), rfl, _, _, rfl, _, _, rfl, rfl, ?_⟩
        refine ⟨_, rfl, d, rfl, ⟨_, SqT.of (tk5 _ _ e2)⟩, fun D hD => renamed (K := K) (old := old) (new := old) (by omega) hD (tk5 _ _ e2) fun H6 x6 hD6 => ?_⟩
        have h6 := x6 _ _ h5
        have f6 := Same.flow x6 f5
        refine ⟨_, rfl, .inl ⟨rfl, _, SqL.of h6⟩, _, rfl, _, rfl, _, rfl, a, D, _, rfl, f6, .inl (SqL.of hD6), by rw [List.length_map, List.length_map]; omega, fun r7 ys H7 p7 nr7 hr7 f7 x7 h7 => ?_⟩
        obtain ⟨es, rfl, pe⟩ := perm_strs p7
        have hes : es.Nodup := pe.nodup_iff.mpr (ren_nodup rnd (hn_old r hm))
        have les : es.length = r.2.length := by rw [pe.length_eq, List.length_map]
        refine ⟨r7, _, rfl, .inl ⟨SqL.of h7, fun d2 hd2 => ⟨tiny (show 2 <= 1000 by decide), fun t2 ht2 => ?_⟩⟩⟩
        have y7 : Same H7 (upd (upd H7 d2 (.tup (es.map V.str))) t2 (.tup [.str r.1, .ref d2])) := (sm_new hd2).trans (sm_new ht2)
        have f8 := Same.flow y7 f7
        have ndt : d2 ≠ t2 := fun e => by rw [<- e, upd_same] at ht2; cases ht2
        have hrow : RowAt (upd (upd H7 d2 (.tup (es.map V.str))) t2 (.tup [.str r.1, .ref d2])) t2 (r.1, es) := ⟨d2, upd_same, by rw [upd_ne ndt]; exact upd_same⟩
        generalize upd (upd H7 d2 (.tup (es.map V.str))) t2 (.tup [.str r.1, .ref d2]) = H8 at y7 f8 hrow ⊢
        have x8 : Ext a H5 H8 := (Same.ext x6).trans (x7.trans (Same.ext y7))
        have h8 := x8 _ _ nq h5
        have lus : us.length = rs'.length := Paired.length t5
        have lrs : rs'.length <= i := by
          have := congrArg List.length hm5
          rw [List.length_map, List.length_map, List.length_take] at this
          omega
        have li : i < rs.length := (List.getElem?_eq_some_iff.mp hr').1
        have l6 := hG.len
        refine ⟨q0, _, _, rfl, rfl, h8, small (by rw [List.length_map]; omega), rs' ++ [(r.1, es)], _, _, _, rfl, ?_, ?_, f8.set (Ne.symm nq), (x5.trans x8).at hq0, us ++ [t2], ?_, ?_⟩
        . rw [List.map_append, hm5, take_snoc hr', List.map_append]; rfl
        . intro r2 hr2
          rcases List.mem_append.mp hr2 with hr2 | hr2
          . exact hg5 r2 hr2
          . rw [List.mem_singleton.mp hr2]
            exact ⟨⟨fun e => rne (List.eq_nil_of_length_eq_zero (by rw [<- les]; exact congrArg List.length e)), by show es.length <= 4; omega, hes⟩, ren_bd pe (hG.dn r hm) ob, fun d hd => by
              obtain ⟨d0, hd0, e0⟩ := List.mem_map.mp (pe.mem_iff.mp hd)
              rw [<- e0]
              exact List.mem_map_of_mem (fewA r hm d0 hd0)⟩
        . rw [upd_same, List.map_append]; rfl
        . exact RowsT.keep (TK.lst h8) (Paired.snoc (RowsT.keep (x8.tk f5) t5) hrow)
      . rintro σ H5 ⟨rs', v6, v7, v8, rfl, hm5, hg5, f5, x5, h5⟩
        rw [List.length_map, hlen, List.take_length] at hm5
        refine ⟨_, rfl, q q0 rs' H5 ⟨?_, ?_, by rw [hm5]; exact hG.nd, fun r hr => (hg5 r hr).1, by rw [hm5]; exact hG.nm, fun r hr => (hg5 r hr).2.1, _, by rw [List.length_map]; exact fewL, fun r hr => (hg5 r hr).2.2⟩ nq hq1 f5 (Ext.trans x13 x5) h5⟩
        . intro e
          rw [e] at hm5
          exact hG.ne (List.map_eq_nil_iff.mp hm5.symm)
        . have : rs'.length = rs.length := by rw [<- List.length_map (f := fun r : Row => r.1), hm5, List.length_map]
          have := hG.len
          omega
    . skip
      refine ⟨tiny (show 0 <= 1000 by decide), fun q0 hq0 => ?_⟩
      have nq : q0 ≠ a := ne_flow hq0 f3
      have hq1 : H q0 = none := Ext.none x13 nq hq0
      have hLH := x13 _ _ nL hL
      have tkH := Ext.tk x13 hF
      refine ⟨_, rfl, L, rfl, ⟨_, SqL.of ((sm_new hq0) _ _ hLH)⟩, for_list (xs := ts.map V.ref)
        (fun i σ H' => ∃ (rs' : List Row) (v6 v7 v8 : Option V), σ = [some (.ref a), some (.ref L), some (.ref r1), some (.str old), some (.str old), some (.ref q0), v6, v7, v8] /\ rs'.map (·.1) = (rs.take i).map (·.1) /\ (∀ r ∈ rs', (r.2 ≠ [] /\ r.2.length <= 4 /\ r.2.Nodup) /\ Bd r.2 /\ ∀ d ∈ r.2, d ∈ few.map (ren old old)) /\ FlowAt H' a /\ Ext a H3 H' /\ RowsAt H' q0 rs') ?_ ?_ ?_ ?_⟩
      . exact ⟨[], none, none, none, rfl, rfl, (by intro _ z; cases z), FlowAt.new f3 hq0, Ext.new hq0, [], upd_same, .nil⟩
      . rintro i σ H5 _ ⟨rs', v6, v7, v8, _, _, _, f5, x5, _⟩
        exact SqL.of (x5 _ _ nL hLH)
      . rintro i y σ H5 hy ⟨rs', v6, v7, v8, rfl, hm5, hg5, f5, x5, us, h5, t5⟩
        rw [List.getElem?_map] at hy
        obtain ⟨t, ht, rfl⟩ := Option.map_eq_some_iff.mp hy
        obtain ⟨r, hr', d, e1, e2⟩ := hT.get ht
        have hm := List.mem_of_getElem? hr'
        obtain ⟨rne, r4, rnd⟩ := hG.row r hm
        have tk5 : TK H H5 := tkH.trans (x5.tk f3)
        refine ⟨t, _, rfl, SqT.of (tk5 _ _ e1), rfl, _, _, rfl, _, _, rfl, rfl, ?_⟩
        refine ⟨_, rfl, d, rfl, ⟨_, SqT.of (tk5 _ _ e2)⟩, fun D hD => renamed (K := K) (old := old) (new := old) (by omega) hD (tk5 _ _ e2) fun H6 x6 hD6 => ?_⟩
        have h6 := x6 _ _ h5
        have f6 := Same.flow x6 f5
        refine ⟨_, rfl, .inl ⟨rfl, _, SqL.of h6⟩, _, rfl, _, rfl, _, rfl, a, D, _, rfl, f6, .inl (SqL.of hD6), by rw [List.length_map, List.length_map]; omega, fun r7 ys H7 p7 nr7 hr7 f7 x7 h7 => ?_⟩
        obtain ⟨es, rfl, pe⟩ := perm_strs p7
        have hes : es.Nodup := pe.nodup_iff.mpr (ren_nodup rnd (hn_old r hm))
        have les : es.length = r.2.length := by rw [pe.length_eq, List.length_map]
        refine ⟨r7, _, rfl, .inl ⟨SqL.of h7, fun d2 hd2 => ⟨tiny (show 2 <= 1000 by decide), fun t2 ht2 => ?_⟩⟩⟩
        have y7 : Same H7 (upd (upd H7 d2 (.tup (es.map V.str))) t2 (.tup [.str r.1, .ref d2])) := (sm_new hd2).trans (sm_new ht2)
        have f8 := Same.flow y7 f7
        have ndt : d2 ≠ t2 := fun e => by rw [<- e, upd_same] at ht2; cases ht2
        have hrow : RowAt (upd (upd H7 d2 (.tup (es.map V.str))) t2 (.tup [.str r.1, .ref d2])) t2 (r.1, es) := ⟨d2, upd_same, by rw [upd_ne ndt]; exact upd_same⟩
        generalize upd (upd H7 d2 (.tup (es.map V.str))) t2 (.tup [.str r.1, .ref d2]) = H8 at y7 f8 hrow ⊢
        have x8 : Ext a H5 H8 := (Same.ext x6).trans (x7.trans (Same.ext y7))
        have h8 := x8 _ _ nq h5
        have lus : us.length = rs'.length := Paired.length t5
        have lrs : rs'.length <= i := by
          have := congrArg List.length hm5
          rw [List.length_map, List.length_map, List.length_take] at this
          omega
        have li : i < rs.length := (List.getElem?_eq_some_iff.mp hr').1
        have l6 := hG.len
        refine ⟨q0, _, _, rfl, rfl, h8, small (by rw [List.length_map]; omega), rs' ++ [(r.1, es)], _, _, _, rfl, ?_, ?_, f8.set (Ne.symm nq), (x5.trans x8).at hq0, us ++ [t2], ?_, ?_⟩
        . rw [List.map_append, hm5, take_snoc hr', List.map_append]; rfl
        . intro r2 hr2
          rcases List.mem_append.mp hr2 with hr2 | hr2
          . exact hg5 r2 hr2
          . rw [List.mem_singleton.mp hr2]
            exact ⟨⟨fun e => rne (List.eq_nil_of_length_eq_zero (by rw [<- les]; exact congrArg List.length e)), by show es.length <= 4; omega, hes⟩, ren_bd pe (hG.dn r hm) ob, fun d hd => by
              obtain ⟨d0, hd0, e0⟩ := List.mem_map.mp (pe.mem_iff.mp hd)
              rw [<- e0]
              exact List.mem_map_of_mem (fewA r hm d0 hd0)⟩
        . rw [upd_same, List.map_append]; rfl
        . exact RowsT.keep (TK.lst h8) (Paired.snoc (RowsT.keep (x8.tk f5) t5) hrow)
      . rintro σ H5 ⟨rs', v6, v7, v8, rfl, hm5, hg5, f5, x5, h5⟩
        rw [List.length_map, hlen, List.take_length] at hm5
        refine ⟨_, rfl, q q0 rs' H5 ⟨?_, ?_, by rw [hm5]; exact hG.nd, fun r hr => (hg5 r hr).1, by rw [hm5]; exact hG.nm, fun r hr => (hg5 r hr).2.1, _, by rw [List.length_map]; exact fewL, fun r hr => (hg5 r hr).2.2⟩ nq hq1 f5 (Ext.trans x13 x5) h5⟩
        . intro e
          rw [e] at hm5
          exact hG.ne (List.map_eq_nil_iff.mp hm5.symm)
        . have : rs'.length = rs.length := by rw [<- List.length_map (f := fun r : Row => r.1), hm5, List.length_map]
          have := hG.len
          omega
end
end KK
namespace L2
open PySem PySem.Spec PyProof.Rows
theorem for_enum {K : W.Frag} {a : Addr} {xs : List V} {g : TG} {tb : TS} {D : Ends} {σ : St} {H : Hp} (Pv : Nat -> St -> Hp -> Prop) (h0 : Pv 0 σ H) (hl : ∀ i σ H, i <= xs.length -> Pv i σ H -> SqL K H a xs)
    (hs : ∀ i x σ H T, xs[i]? = some x -> H T = none -> Pv i σ H -> g (.ref T) σ (upd H T (.tup [.int i, x])) fun σ2 H2 => tb { D with nx := Pv (i + 1), ct := Pv (i + 1), bk := D.nx } σ2 H2) (hd : ∀ σ H, Pv xs.length σ H -> D.nx σ H) :
    ∃ W : Nat -> Nat -> St -> Hp -> Prop, (∃ m, W 0 m σ H) /\ ∀ i m σ H, W i m σ H ->
      ((Ite K a).stop i H /\ D.nx σ H) \/ ((Ite K a).go i H /\ ∃ N : St -> Hp -> Prop, (∀ σ' H', N σ' H' -> ∃ m', m' < m /\ W (i + 1) m' σ' H') /\ ∀ x H', (Ite K a).yld i H x H' -> g x σ H' fun σ2 H2 => tb { D with nx := N, ct := N, bk := D.nx } σ2 H2) := by
  refine ⟨fun i m σ H => m = xs.length - i /\ i <= xs.length /\ Pv i σ H, ⟨xs.length, by simp, Nat.zero_le _, h0⟩, ?_⟩
  rintro i m σ H ⟨rfl, hi, p⟩
  have q := hl i σ H hi p
  by_cases hlt : i < xs.length
  . refine .inr ⟨⟨xs, xs[i], q, by simp [hlt]⟩, Pv (i + 1), fun σ' H' p' => ⟨xs.length - (i + 1), by omega, rfl, hlt, p'⟩, fun x H' y => ?_⟩
    obtain ⟨T, hT, rfl, y⟩ := y
    obtain ⟨x', hx, rfl⟩ := y xs q
    exact hs i x' σ H T hx hT p
  . have e : i = xs.length := by omega
    subst e
    exact .inl ⟨⟨xs, q, Nat.le_refl _⟩, hd σ H p⟩
end L2
namespace KK
open PySem L2 PyProof.Rows
def spInit1 (C : Addr) (f1 : Str) : Sp := fun vs H Q _ => ∃ (e t : Addr) (v1 : V), vs = [.ref e, v1] /\ H e = some (ExcO e C t none) /\ ∀ H', XAt H' e C [(f1, v1)] -> (∀ b o, b ≠ e -> H b = some o -> H' b = some o) -> Q .non H'
section
variable {P : Program} {w : World} {K : W.Frag} {mg : Str -> Option Value} {base : Heap} {f C M : Addr} {fd : FuncData} {k : Nat} {st : Stmt} {qual f1 f2 : Str} {p1 p2 p3 p4 p5 p6 p7 p8 : Pos}
theorem ok_init1 (F : Fun K "__init__" qual st f fd) (xc : XC K C M) (a1 : W.findIn K (.ref C) f1 = some none) (S : FnScope ["self", f1] ["self", f1] (defScope st)) (hb : defBody st = [.Assign [.Attribute (.Name "self" p1) f1 p2] (.Name f1 p3) p4])
    (h0 : (defScope st).names.lookup ("self" : Str) = some .local) (h1 : (defScope st).names.lookup f1 = some .local) (d1 : (f1 == ("__debug__" : Str)) = false) (d2 : (f1 == ("__classdict__" : Str)) = false) : FnOk P w K mg base CX0 (k + 1) f fd ["self", f1] (spInit1 C f1) := by
  refine F.ok S (fun vs H Q E h => ?_) (fun cdv A outer s H vs Q E hr h => ?_)
  . obtain ⟨e, t, v1, rfl, _⟩ := h
    rfl
  obtain ⟨e, t, v1, rfl, he, q⟩ := h
  rw [hb]
  refine ⟨_, pss_one (ps_fldX xc a1 (pv 0 rfl (Or.inl h0)) (pv 1 rfl (Or.inl h1) d1 d2)), ?_⟩
  refine ⟨_, rfl, _, rfl, e, rfl, .inl ⟨t, he, fun dx hd hn => q _ ⟨t, .inr ⟨dx, by rw [upd_ne (Ne.symm hn)]; exact upd_same, upd_same, hn⟩⟩ fun b o nb hb' => ?_⟩⟩
  rw [upd_ne (ne_of_none hb' hd), upd_ne nb]; exact hb'
variable {D : Addr} {cd : ClassData}
theorem XC.cls {C : Addr} (x : XC K C M) : ∃ cd, PySem.W.clsIn K C = some cd /\ cd.mro = .ref C :: .ref M :: vTail := by
  obtain ⟨nm, q, N, bs, sn, sub, ab, col, dd, k0, k1, k2, k3, k5, e⟩ := x.at_
  exact ⟨_, by unfold PySem.W.clsIn; rw [e], rfl⟩
theorem XC.sub {C : Addr} (x : XC K C M) (v : Value) : PySem.W.subIn K (.ref C) v = some ((Value.ref C :: .ref M :: vTail).contains v) := by
  obtain ⟨cd, h1, h2⟩ := XC.cls x
  show PySem.W.mroIn K C v = _
  unfold PySem.W.mroIn
  rw [h1, Option.bind_some, h2]
  rfl
theorem kit_other (x : XC K C M) (ty : PySem.W.typeIn K (.ref D) = some (.type "type")) (cl : PySem.W.clsIn K D = some cd) (n1 : C ≠ D) (n2 : D ≠ M) : W.kitOne K (.ref C) (.ref D) = some false := by
  unfold W.kitOne
  rw [if_neg (by simpa using n1)]
  unfold PySem.W.kitCls
  dsimp only
  rw [cl, ty, if_pos (by simp), XC.sub x]
  simp [vTail, n1.symm, n2]
theorem pe_neg1 {X : Cx} {j : Nat} {p pos : Pos} : PE X (.UnaryOp .USub (.Constant (.int 1) j p) pos) (fun _ H Q => Q (.int (-1)) H) := fun pins s σ H Q I h => pe_un un_neg pe_int pins s σ H Q I ⟨1, rfl, h⟩
end
end KK
namespace KK
open PySem L2 PyProof.Rows KKM
abbrev s_rising : Stmt := top 13
abbrev s_refuse_twice : Stmt := top 14
abbrev s_refuse_rows : Stmt := top 17
abbrev s_Sharing___init : Stmt := inClass (top 16) 0
theorem kit_ss (K : W.Frag) : W.kitOne K (.type "str") (.type "str") = some true := by kernel_rfl
section
variable {P : Program} {w : World} {K : W.Frag} {mg : Str -> Option Value} {base : Heap} {f g g2 g3 : Addr} {fd gd gd2 gd3 : FuncData} {k : Nat} {C : Addr}
def spRising (K : W.Frag) : Sp := fun vs H Q _ => ∃ (p : Addr) (ys : List Str), vs = [.ref p] /\ (SqL K H p (ys.map V.str) \/ SqT K H p (ys.map V.str)) /\ ys.length < 64 /\
  ∀ (t : Addr) (zs : List Str) (H' : Hp), sortedS zs = true -> zs.Perm (firstS ys) -> H t = none -> Same H H' -> H' t = some (.tup (zs.map V.str)) -> Q (.ref t) H'
theorem sc_rising : FnScope ["things"] ["things"] (defScope s_rising) := ⟨rfl, rfl, rfl, by decide +kernel, rfl, by decide +kernel, by decide +kernel⟩
theorem ok_rising (F : Fun K "rising" "rising" s_rising f fd) (B : Bt mg) : FnOk P w K mg base CX0 (k + 1) f fd ["things"] (spRising K) := by
  refine F.ok sc_rising (fun vs H Q E h => ?_) (fun cdv A outer s H vs Q E hr h => ?_)
  . obtain ⟨p, ys, rfl, _⟩ := h
    rfl
  obtain ⟨p, ys, rfl, hS, h64, q⟩ := h
  have nd := sc_rising.nd
  have hf := firstS_le ys
  refine ⟨_, (pss_one (ps_ret (pe_callTy call_tuple_of rfl B.tuple_ (by decide +kernel) (pa_cons (pe_callB (call_sorted_set rfl) rfl B.sorted_ (by decide +kernel) (pa_cons (pe_callTy (call_set_any rfl) rfl B.set_ (by decide +kernel) (pa_cons (pv 0) pa_nil)) pa_nil)) pa_nil)))), ?_⟩
  have fin : ∀ l, H l = none -> ∃ p zs, [V.ref l] = [.ref p] /\ upd H l (SetO P w l (firstS ys)) p = some (SetO P w p zs) /\ zs.length < 64 /\ ∀ l2 zs', upd H l (SetO P w l (firstS ys)) l2 = none -> zs'.Perm zs -> sortedS zs' = true ->
      ∃ p ys', [V.ref l2] = [.ref p] /\ ((SqL K (upd (upd H l (SetO P w l (firstS ys))) l2 (.lst (zs'.map V.str))) p ys' /\ ∀ t, upd (upd H l (SetO P w l (firstS ys))) l2 (.lst (zs'.map V.str)) t = none -> Q (.ref t) (upd (upd (upd H l (SetO P w l (firstS ys))) l2 (.lst (zs'.map V.str))) t (.tup ys'))) \/
        (SqT K (upd (upd H l (SetO P w l (firstS ys))) l2 (.lst (zs'.map V.str))) p ys' /\ Q (.ref p) (upd (upd H l (SetO P w l (firstS ys))) l2 (.lst (zs'.map V.str))))) := fun l hl =>
    ⟨l, firstS ys, rfl, upd_same, by omega, fun l2 zs hl2 hp hs => ⟨l2, _, rfl, .inl ⟨SqL.of upd_same, fun t ht => q t zs _ hs hp ?_ ?_ upd_same⟩⟩⟩
  . rcases hS with hS | hS
    . exact ⟨_, rfl, .inl ⟨p, ys, rfl, hS, by omega, fin⟩⟩
    . exact ⟨_, rfl, .inr ⟨p, ys, rfl, hS, by omega, fin⟩⟩
  . exact (sm_new hl).free ((sm_new hl2).free ht)
  . exact ((sm_new hl).trans (sm_new hl2)).trans (sm_new ht)
def dupG : List Str -> List Str -> Option Str
  | _, [] => none
  | seen, z :: zs => if z ∈ seen then some z else dupG (seen ++ [z]) zs
def dueG : List Str -> List Row -> Option Str
  | _, [] => none
  | seen, r :: rs => if r.1 ∈ seen then some r.1 else match dupG [] r.2 with
    | some n => some n
    | none => dueG (seen ++ [r.1]) rs
theorem dup_step {zs : List Str} {i : Nat} {z : Str} (h : zs[i]? = some z) : dupG (zs.take i) (zs.drop i) = if z ∈ zs.take i then some z else dupG (zs.take (i + 1)) (zs.drop (i + 1)) := by
  obtain ⟨hi, e⟩ := List.getElem?_eq_some_iff.mp h
  rw [List.drop_eq_getElem_cons hi, e, take_snoc h]
  rfl
theorem due_step {rs : List Row} {i : Nat} {r : Row} (h : rs[i]? = some r) : dueG ((rs.map (·.1)).take i) (rs.drop i) = if r.1 ∈ (rs.map (·.1)).take i then some r.1 else match dupG [] r.2 with
    | some n => some n
    | none => dueG ((rs.map (·.1)).take (i + 1)) (rs.drop (i + 1)) := by
  obtain ⟨hi, e⟩ := List.getElem?_eq_some_iff.mp h
  have hz : (rs.map (·.1))[i]? = some r.1 := by rw [List.getElem?_map, h]; rfl
  rw [List.drop_eq_getElem_cons hi, e, take_snoc hz]
  rfl
theorem dup_none : ∀ {zs seen : List Str}, seen.Nodup -> dupG seen zs = none -> (seen ++ zs).Nodup
  | [], seen, hn, _ => by rw [List.append_nil]; exact hn
  | z :: zs, seen, hn, h => by
    unfold dupG at h
    by_cases hm : z ∈ seen
    . rw [if_pos hm] at h; cases h
    . rw [if_neg hm] at h
      have hn' : (seen ++ [z]).Nodup := List.nodup_append.mpr ⟨hn, by simp, fun a ha b hb => by rw [List.mem_singleton.mp hb]; exact fun z => hm (z ▸ ha)⟩
      have q := dup_none hn' h
      rwa [List.append_assoc] at q
theorem due_none : ∀ {rs : List Row} {seen : List Str}, seen.Nodup -> dueG seen rs = none -> (seen ++ rs.map (·.1)).Nodup /\ ∀ r ∈ rs, r.2.Nodup
  | [], seen, hn, _ => ⟨by rw [List.map_nil, List.append_nil]; exact hn, fun r h => by cases h⟩
  | r :: rs, seen, hn, h => by
    unfold dueG at h
    by_cases hm : r.1 ∈ seen
    . rw [if_pos hm] at h; cases h
    . rw [if_neg hm] at h
      cases hd : dupG [] r.2 with
      | some n => rw [hd] at h; cases h
      | none =>
        rw [hd] at h
        have hn' : (seen ++ [r.1]).Nodup := List.nodup_append.mpr ⟨hn, by simp, fun a ha b hb => by rw [List.mem_singleton.mp hb]; exact fun z => hm (z ▸ ha)⟩
        obtain ⟨q1, q2⟩ := due_none hn' h
        refine ⟨by rw [List.append_assoc] at q1; exact q1, fun r' hr' => ?_⟩
        rcases List.mem_cons.mp hr' with e | e
        . subst e
          have := dup_none (seen := []) (by simp) hd
          simpa using this
        . exact q2 r' e
structure Small (rs : List Row) : Prop where
  ne : rs ≠ []
  len : rs.length <= 6
  row : ∀ r ∈ rs, r.2 ≠ [] /\ r.2.length <= 7
structure Good7 (rs : List Row) : Prop where
  ne : rs ≠ []
  len : rs.length <= 6
  nd : (rs.map (·.1)).Nodup
  row : ∀ r ∈ rs, r.2 ≠ [] /\ r.2.length <= 7 /\ r.2.Nodup
theorem Small.good {rs : List Row} (s : Small rs) (h : dueG [] rs = none) : Good7 rs := by
  obtain ⟨h1, h2⟩ := due_none (seen := []) (by simp) h
  exact ⟨s.ne, s.len, by simpa using h1, fun r hr => ⟨(s.row r hr).1, (s.row r hr).2, h2 r hr⟩⟩
structure XMk (P : Program) (w : World) (K : W.Frag) (mg : Str -> Option Value) (base : Heap) (k : Nat) (C M : Addr) (f : Addr) (fd : FuncData) : Prop where
  xc : XC K C M
  hin : W.findIn K (.ref C) "__init__" = some (some (.ref f))
  hfn : W.isFn K (.ref f) = true
  ok : FnOk P w K mg base CX0 k f fd ["self", "name"] (spInit1 C "name")
  bn : Binds K fd ["self", "name"] []
  at_ : mg "Twice" = some (.ref C)
  fn : W.findIn K (.ref C) "name" = some none
structure FnX (P : Program) (w : World) (K : W.Frag) (mg : Str -> Option Value) (base : Heap) (k : Nat) (x : Str) (ps : List Str) (sp : Sp) (g : Addr) (gd : FuncData) : Prop where
  ok : FnOk P w K mg base (CXE P w) k g gd ps sp
  bn : Binds K gd ps []
  kp : W.keepIn K (.ref g) = true
  at_ : mg x = some (.ref g)
variable {CT M ft : Addr} {ftd : FuncData}
def TwF (n : Str) : List (Str × V) := [("name", .str n)]
theorem raised {H H1 : Hp} {E : XK} {n : Str} {CT : Addr} {vs : List V} (x : Same H H1) (hE : ∀ a H', H a = none -> Same H H' -> FlyAt H' a CT (TwF n) -> E (.ref a) none H') :
    ∀ e u, H1 e = none -> H1 u = none -> u ≠ e -> spInit1 CT "name" (.ref e :: [.str n]) (upd (upd H1 u (.tup vs)) e (ExcO e CT u none)) (fun v H2 => v = .non /\ ∃ a fs, V.ref e = .ref a /\ XAt H2 a CT fs /\ RNew H E CT a fs H2) E0 := fun e u he hu hne =>
  ⟨e, u, .str n, rfl, upd_same, fun H' hX k => ⟨rfl, e, TwF n, rfl, hX, x.free he, fun b o q => k b o (ne_of_none (x b o q) he) (by rw [upd_ne (ne_of_none (x b o q) he), upd_ne (ne_of_none (x b o q) hu)]; exact x b o q), fun H'' sm fl => hE e H'' (x.free he) sm fl⟩⟩
def spTwice (K : W.Frag) (CT : Addr) : Sp := fun vs H Q E => ∃ (p : Addr) (zs : List Str), vs = [.ref p] /\ SqT K H p (zs.map V.str) /\ zs.length <= 60 /\ (dupG [] zs = none -> ∀ H', Same H H' -> Q .non H') /\
  ∀ n, dupG [] zs = some n -> ∀ a H', H a = none -> Same H H' -> FlyAt H' a CT (TwF n) -> E (.ref a) none H'
theorem sc_twice : FnScope ["names", "seen", "name"] ["names"] (defScope s_refuse_twice) := ⟨rfl, rfl, rfl, by decide +kernel, rfl, by decide +kernel, by decide +kernel⟩
theorem ok_twice (F : Fun K "refuse_twice" "refuse_twice" s_refuse_twice f fd) (B : Bt mg) (xt : XMk P w K mg base k CT M ft ftd) : FnOk P w K mg base (CXE P w) (k + 2) f fd ["names"] (spTwice K CT) := by
  refine F.okX sc_twice (fun vs H Q E h => ?_) (fun cdv A outer s H vs Q E hr h => ?_)
  . obtain ⟨p, zs, rfl, _⟩ := h
    rfl
  obtain ⟨p, zs, rfl, hS, h60, q, qe⟩ := h
  have nd := sc_twice.nd
  refine ⟨_, (pss_cons (ps_set (i := 1) nd rfl (Or.inl rfl) (pe_callTy0 call_set_empty rfl B.set_ (by decide +kernel))) (pss_one (ps_for PassesOwn.leaving rfl (pi_tup (pv 0)) (pg_name (i := 2) nd rfl (Or.inl rfl)) (pss_cons (ps_if (pt_cmpR op_in_setS (pv 2) (pv 1) rfl) (pss_one (ps_raise xt.xc rfl (pe_makeX xt.xc xt.hin xt.hfn xt.ok hr rfl xt.at_ xt.bn (pa_cons (pv 2) pa_nil)) raise_new)) pss_nil) (pss_one (ps_expr (pe_bmS PySem.F.slot_set_add PySem.F.type_set_add mt_addS (pv 1) (pa_cons (pv 2) pa_nil)))))))), ?_⟩
  refine ⟨rfl, fun l hl => ?_⟩
  refine ⟨_, rfl, p, rfl, ⟨_, Same.tup (sm_new hl) hS⟩, for_tup (xs := zs.map V.str) (fun i σ H' => ∃ v : Option V, σ = [some (.ref p), some (.ref l), v] /\ H' l = some (SetO P w l (zs.take i)) /\ dupG (zs.take i) (zs.drop i) = dupG [] zs /\ Same H H') ?_ ?_ ?_ ?_⟩
  . exact ⟨none, rfl, upd_same, rfl, sm_new hl⟩
  . rintro i σ H1 _ ⟨v, _, _, _, x⟩
    exact Same.tup x hS
  . rintro i y σ H1 hy ⟨v, rfl, h1, hd, x1⟩
    rw [List.getElem?_map] at hy
    obtain ⟨z, hz, rfl⟩ := Option.map_eq_some_iff.mp hy
    have hi : i < zs.length := (List.getElem?_eq_some_iff.mp hz).1
    rw [dup_step hz] at hd
    refine ⟨_, rfl, _, rfl, z, l, _, rfl, rfl, h1, _, rfl, ?_⟩
    by_cases hn : z ∈ zs.take i
    . rw [decide_eq_true hn]
      rw [if_pos hn] at hd
      refine iteT ?_
      exact ⟨_, rfl, by simp, raised x1 (qe z hd.symm)⟩
    . rw [decide_eq_false hn]
      rw [if_neg hn] at hd
      refine iteF ?_
      refine ⟨_, rfl, ⟨l, _, rfl, h1⟩, _, rfl, l, z, _, rfl, rfl, h1, by rw [List.length_take]; omega, _, rfl, ?_, hd, x1.at hl⟩
      rw [upd_same, if_neg hn, take_snoc hz]
      rfl
  . rintro σ H1 ⟨v, rfl, _, hd, x1⟩
    rw [List.length_map, List.drop_length] at hd
    exact q hd.symm H1 x1
def spRefRows (CT : Addr) : Sp := fun vs H Q E => ∃ (L : Addr) (rs : List Row), vs = [.ref L] /\ RowsAt H L rs /\ Small rs /\ (dueG [] rs = none -> ∀ H', Same H H' -> Q .non H') /\
  ∀ n, dueG [] rs = some n -> ∀ a H', H a = none -> Same H H' -> FlyAt H' a CT (TwF n) -> E (.ref a) none H'
theorem sc_refrows : FnScope ["rows", "seen", "letter", "desks"] ["rows"] (defScope s_refuse_rows) := ⟨rfl, rfl, rfl, by decide +kernel, rfl, by decide +kernel, by decide +kernel⟩
theorem pass_flyG {N : List Str} {qual : Str} {scope : Scope} {f : Addr} {cd : Value} {A : Around} {outer : List Env} {s0 : Shared} {H0 : Hp} {E : XK} {G : List (Str × V) -> Prop} (hE : ∀ a H' fs, G fs -> H0 a = none -> Same H0 H' -> FlyAt H' a CT fs -> E (.ref a) none H') :
    Passes (CXE P w) (cxOf (CXE P w) P w K mg base N qual scope f cd A outer s0 H0 E) (EX H0 fun a H' => ∃ fs, FlyAt H' a CT fs /\ G fs) := by
  intro pins σ H s e s' I h
  obtain ⟨a, H', rfl, os, bare, un, hok, a', e1, na, sm, fs, fl, hG⟩ := h
  cases e1
  have I' : Inv (cxOf (CXE P w) P w K mg base N qual scope f cd A outer s0 H0 E) pins σ H' s' := I.call' (ch := []) os un hok bare (fun _ z => nomatch z)
  exact xe_next I' fl fun H2 f2 k2 => hE a H2 fs hG na (fun b o q => k2 b o (ne_of_none q na) (sm b o q)) f2
theorem ok_refrows (F : Fun K "refuse_rows" "refuse_rows" s_refuse_rows f fd) (B : Bt mg) (xt : XMk P w K mg base k CT M ft ftd) (G_refuse_twice : FnX P w K mg base (k + 1) "refuse_twice" ["names"] (spTwice K CT) g gd) : FnOk P w K mg base (CXE P w) (k + 2) f fd ["rows"] (spRefRows CT) := by
  refine F.okX sc_refrows (fun vs H Q E h => ?_) (fun cdv A outer s H vs Q E hr h => ?_)
  . obtain ⟨L, rs, rfl, _⟩ := h
    rfl
  obtain ⟨L, rs, rfl, ⟨ts, hL, hT⟩, hG, q, qe⟩ := h
  have nd := sc_refrows.nd
  have hlen := Paired.length hT
  have hl6 := hG.len
  have hpass := pass_flyG (P := P) (w := w) (K := K) (mg := mg) (base := base) (N := ["rows", "seen", "letter", "desks"]) (qual := "refuse_rows") (scope := defScope s_refuse_rows) (f := f) (cd := cdv) (A := A) (outer := outer) (s0 := s) (CT := CT) (H0 := H) (E := E) (G := fun fs => ∃ n, fs = TwF n /\ dueG [] rs = some n) (fun a H' fs ⟨n, e1, e2⟩ na sm fl => qe n e2 a H' na sm (e1 ▸ fl))
  refine ⟨_, (pss_cons (ps_set (i := 1) nd rfl (Or.inl rfl) (pe_callTy0 call_set_empty rfl B.set_ (by decide +kernel))) (pss_one (ps_for PassesOwn.leaving rfl (pi_list (pv 0)) (pg_tup rfl (pgs_cons (pg_name (i := 2) nd rfl (Or.inl rfl)) (pgs_cons (pg_name (i := 3) nd rfl (Or.inl rfl)) pgs_nil))) (pss_cons (ps_if (pt_cmpR op_in_setS (pv 2) (pv 1) rfl) (pss_one (ps_raise xt.xc rfl (pe_makeX xt.xc xt.hin xt.hfn xt.ok hr rfl xt.at_ xt.bn (pa_cons (pv 2) pa_nil)) raise_new)) pss_nil) (pss_cons (ps_expr (pe_bmS PySem.F.slot_set_add PySem.F.type_set_add mt_addS (pv 1) (pa_cons (pv 2) pa_nil))) (pss_one (ps_expr (pe_call G_refuse_twice.ok hr rfl G_refuse_twice.at_ G_refuse_twice.kp G_refuse_twice.bn .nil hpass (pa_cons (pv 3) pa_nil))))))))), ?_⟩
  refine ⟨rfl, fun l hl => ?_⟩
  refine ⟨_, rfl, L, rfl, ⟨_, SqL.of ((sm_new hl) _ _ hL)⟩, for_list (xs := ts.map V.ref) (fun i σ H' => ∃ v2 v3 : Option V, σ = [some (.ref L), some (.ref l), v2, v3] /\ H' l = some (SetO P w l ((rs.map (·.1)).take i)) /\ dueG ((rs.map (·.1)).take i) (rs.drop i) = dueG [] rs /\ Same H H') ?_ ?_ ?_ ?_⟩
  . exact ⟨none, none, rfl, upd_same, rfl, sm_new hl⟩
  . rintro i σ H1 _ ⟨v2, v3, _, _, _, x⟩
    exact SqL.of (x _ _ hL)
  . rintro i y σ H1 hy ⟨v2, v3, rfl, h1, hd, x1⟩
    rw [List.getElem?_map] at hy
    obtain ⟨t, ht, rfl⟩ := Option.map_eq_some_iff.mp hy
    obtain ⟨r, hr', d, e1, e2⟩ := hT.get ht
    have hz : (rs.map (·.1))[i]? = some r.1 := by rw [List.getElem?_map, hr']; rfl
    have hi : i < rs.length := (List.getElem?_eq_some_iff.mp hr').1
    have hrow := hG.row r (List.mem_of_getElem? hr')
    rw [due_step hr'] at hd
    refine ⟨t, _, rfl, SqT.of (x1 _ _ e1), rfl, _, _, rfl, _, _, rfl, rfl, ?_⟩
    refine ⟨_, rfl, _, rfl, r.1, l, _, rfl, rfl, h1, _, rfl, ?_⟩
    by_cases hn : r.1 ∈ (rs.map (·.1)).take i
    . rw [decide_eq_true hn]
      rw [if_pos hn] at hd
      refine iteT ?_
      exact ⟨_, rfl, by simp, raised x1 (qe r.1 hd.symm)⟩
    . rw [decide_eq_false hn]
      rw [if_neg hn] at hd
      refine iteF ?_
      refine ⟨_, rfl, ⟨l, _, rfl, h1⟩, _, rfl, l, r.1, _, rfl, rfl, h1, by rw [List.length_take]; omega, ?_⟩
      have x2 : Same H (upd H1 l (SetO P w l (if r.1 ∈ (rs.map (·.1)).take i then (rs.map (·.1)).take i else (rs.map (·.1)).take i ++ [r.1]))) := x1.at hl
      refine ⟨_, rfl, d, r.2, rfl, SqT.of (x2 _ _ e2), by omega, fun hdn H2 x3 => ⟨_, _, rfl, ?_, ?_, x2.trans x3⟩, fun n hn2 a H2 na x3 fl => ⟨a, rfl, x2.free na, x2.trans x3, _, fl, n, rfl, ?_⟩⟩
      . refine x3 _ _ ?_
        rw [upd_same, if_neg hn, take_snoc hz]
        rfl
      . rw [hdn] at hd; exact hd
      . rw [hn2] at hd; exact hd.symm
  . rintro σ H1 ⟨v2, v3, rfl, _, hd, x1⟩
    rw [List.length_map, hlen, List.drop_length] at hd
    exact q hd.symm H1 x1
def ShAt (C : Addr) (H : Hp) (x : Addr) (rs : List Row) : Prop := ∃ (dx tl td dd : Addr) (kvs : List (Key × V)) (ds : List Str), H x = some (.ins C dx [("letters", .ref tl), ("desks", .ref td), ("desks_at", .ref dd)]) /\ H tl = some (.tup ((rs.map (·.1)).map V.str)) /\
  H td = some (.tup (ds.map V.str)) /\ sortedS ds = true /\ ds.Nodup /\ ds.length <= 60 /\ (∀ d, d ∈ ds ↔ ∃ r ∈ rs, d ∈ r.2) /\ H dd = some (.dK kvs) /\ ∀ r ∈ rs, ∃ t zs, valV kvs (.inr r.1) = some (.ref t) /\ H t = some (.tup (zs.map V.str)) /\ zs.Perm r.2 /\ sortedS zs = true
theorem ShAt.same {C x : Addr} {H H' : Hp} {rs : List Row} (h : ShAt C H x rs) (e : Same H H') : ShAt C H' x rs := by
  obtain ⟨dx, tl, td, dd, kvs, ds, h1, h2, h3, h4, h5, h6, h7, h8, h9⟩ := h
  exact ⟨dx, tl, td, dd, kvs, ds, e _ _ h1, e _ _ h2, e _ _ h3, h4, h5, h6, h7, e _ _ h8, fun r hr => let ⟨t, zs, a, b, c⟩ := h9 r hr; ⟨t, zs, a, e _ _ b, c⟩⟩
structure ShC (K : W.Frag) (C : Addr) : Prop where
  cls : Cls K C
  n1 : NoAttr K C "letters"
  n2 : NoAttr K C "desks"
  n3 : NoAttr K C "desks_at"
def spInit (C CT : Addr) : Sp := fun vs H Q E => ∃ (x L dx : Addr) (rs : List Row), vs = [.ref x, .ref L] /\ H x = some (.ins C dx []) /\ RowsAt H L rs /\ Small rs /\
  (dueG [] rs = none -> ∀ H', ShAt C H' x rs -> (∀ b o, b ≠ x -> H b = some o -> H' b = some o) -> Q .non H') /\ ∀ n, dueG [] rs = some n -> ∀ a H', H a = none -> Same H H' -> FlyAt H' a CT (TwF n) -> E (.ref a) none H'
theorem sc_init : FnScope ["self", "rows"] ["self", "rows"] (defScope s_Sharing___init) := ⟨rfl, rfl, rfl, by decide +kernel, rfl, by decide +kernel, by decide +kernel⟩
theorem firsts {D L : Addr} {Q : VK} {H1 : Hp} {rs : List Row} (hl : rs.length <= 60) (hD : H1 D = none) (hL : RowsAt H1 L rs) (hdn : ∀ H', Same H1 H' -> H' D = some (.lst ((rs.map (·.1)).map V.str)) -> Q (.ref D) H') :
    CompLoop (Itl K L) D (gTup K 2 (gCons (gName 0) (gCons (gName 1) gNil))) tYes (tVar 0) Q [none, none] H1 := by
  obtain ⟨ts, hL, hT⟩ := hL
  have hlen := Paired.length hT
  refine comp_list (xs := ts.map V.ref) (fun i ys σ H => ∃ v0 v1 : Option V, ys = ((rs.take i).map (·.1)).map V.str /\ σ = [v0, v1] /\ Same H1 H) ?_ (by rw [List.length_map]; omega) ?_ ?_ ?_ ?_
  . exact ⟨none, none, rfl, rfl, sm_new hD⟩
  . rintro i ys σ H ⟨v0, v1, rfl, _⟩
    rw [List.length_map, List.length_map, List.length_take]; omega
  . rintro i ys σ H ⟨v0, v1, _, _, x⟩
    exact SqL.of (x _ _ hL)
  . rintro i y ys σ H hy hl2 ⟨v0, v1, rfl, rfl, x⟩
    rw [List.getElem?_map] at hy
    obtain ⟨t, ht, rfl⟩ := Option.map_eq_some_iff.mp hy
    obtain ⟨r, hr', d, e1, e2⟩ := hT.get ht
    refine ⟨t, _, rfl, SqT.of (x _ _ e1), rfl, _, _, rfl, _, _, rfl, rfl, _, rfl, hl2, _, _, ?_, rfl, x.at hD⟩
    rw [take_snoc hr', List.map_append, List.map_append]; rfl
  . rintro ys σ H hl2 ⟨v0, v1, rfl, _, x⟩
    rw [List.length_map, hlen, List.take_length] at hl2
    exact hdn H x hl2
theorem desks2 {D L : Addr} {Q : Hp -> Prop} {H1 : Hp} {rs : List Row} (hl : rs.length <= 6) (h4 : ∀ r ∈ rs, r.2.length <= 7) (hD : H1 D = none) (hL : RowsAt H1 L rs) (hdn : ∀ H', Same H1 H' -> H' D = some (.lst ((rs.flatMap (·.2)).map V.str)) -> Q H') :
    LoopG (Itl K L) (gTup K 2 (gCons (gName 0) (gCons (gName 1) gNil))) tYes (tNest (iTup K (tVar 1)) (gName 2) tYes (tEmit D (tVar 2))) (fun _ H' => Q H') [none, none, none] (upd H1 D (.lst [])) := by
  obtain ⟨ts, hL, hT⟩ := hL
  have hlen := Paired.length hT
  refine loop_list (xs := ts.map V.ref) (fun i σ H => ∃ v0 v1 v2 : Option V, σ = [v0, v1, v2] /\ H D = some (.lst (((rs.take i).flatMap (·.2)).map V.str)) /\ ((rs.take i).flatMap (·.2)).length <= 7 * i /\ Same H1 H) ?_ ?_ ?_ ?_
  . exact ⟨none, none, none, rfl, upd_same, Nat.zero_le _, sm_new hD⟩
  . rintro i σ H _ ⟨v0, v1, v2, _, _, _, x⟩
    exact SqL.of (x _ _ hL)
  . rintro i y σ H hy ⟨v0, v1, v2, rfl, h1, l1, x⟩
    rw [List.getElem?_map] at hy
    obtain ⟨t, ht, rfl⟩ := Option.map_eq_some_iff.mp hy
    obtain ⟨r, hr', d, e1, e2⟩ := hT.get ht
    have hi : i < rs.length := (List.getElem?_eq_some_iff.mp hr').1
    have r4 := h4 r (List.mem_of_getElem? hr')
    have fm : (rs.take (i + 1)).flatMap (·.2) = (rs.take i).flatMap (·.2) ++ r.2 := by rw [take_snoc hr', List.flatMap_append]; simp
    refine ⟨t, _, rfl, SqT.of (x _ _ e1), rfl, _, _, rfl, _, _, rfl, rfl, ?_⟩
    refine ⟨_, rfl, d, rfl, ⟨_, SqT.of (x _ _ e2)⟩, loop_tup (xs := r.2.map V.str) (fun j σ2 H2 => ∃ v2 : Option V, σ2 = [some (.str r.1), some (.ref d), v2] /\ H2 D = some (.lst (((rs.take i).flatMap (·.2) ++ r.2.take j).map V.str)) /\ Same H1 H2) ?_ ?_ ?_ ?_⟩
    . exact ⟨_, rfl, by rw [List.take_zero, List.append_nil]; exact h1, x⟩
    . rintro j σ2 H2 _ ⟨v2', _, _, x2⟩
      exact SqT.of (x2 _ _ e2)
    . rintro j y2 σ2 H2 hy2 ⟨v2', rfl, h2, x2⟩
      rw [List.getElem?_map] at hy2
      obtain ⟨z, hz, rfl⟩ := Option.map_eq_some_iff.mp hy2
      have hj : j < r.2.length := (List.getElem?_eq_some_iff.mp hz).1
      refine ⟨_, rfl, _, h2, small (by rw [List.length_map, List.length_append, List.length_take]; omega), _, rfl, ?_, x2.at hD⟩
      rw [upd_same, take_snoc hz, <- List.append_assoc, List.map_append (l₂ := [z])]; rfl
    . rintro σ2 H2 ⟨v2', rfl, h2, x2⟩
      rw [List.length_map, List.take_length, <- fm] at h2
      refine ⟨_, _, _, rfl, h2, ?_, x2⟩
      rw [fm, List.length_append]; omega
  . rintro σ H ⟨v0, v1, v2, rfl, h1, l1, x⟩
    rw [List.length_map, hlen, List.take_length] at h1
    exact hdn H x h1
end
section
variable {P : Program} {w : World} {K : W.Frag} {mg : Str -> Option Value} {base : Heap} {f g g2 g3 g4 : Addr} {fd gd gd2 gd3 gd4 : FuncData} {k : Nat} {C CT M ft : Addr} {ftd : FuncData}
theorem dict_rows {D L : Addr} {Q : Hp -> Prop} {H1 : Hp} {rs : List Row} (hG : Good7 rs) (hD : H1 D = none) (hL : RowsAt H1 L rs)
    (hdn : ∀ H' (kvs : List (Key × V)), Same H1 H' -> H' D = some (.dK kvs) -> (∀ r ∈ rs, ∃ t zs, valV kvs (.inr r.1) = some (.ref t) /\ H' t = some (.tup (zs.map V.str)) /\ zs.Perm r.2 /\ sortedS zs = true) -> Q H') :
    LoopG (Itl K L) (gTup K 2 (gCons (gName 0) (gCons (gName 1) gNil))) tYes (tEmitD D (tVar 0) (tCall (spRising K) [] E0 (tCons (tVar 1) tNil))) (fun _ H' => Q H') [none, none] (upd H1 D (.dK [])) := by
  obtain ⟨ts, hL, hT⟩ := hL
  have hlen := Paired.length hT
  have l6 := hG.len
  refine loop_list (xs := ts.map V.ref) (fun i σ H => ∃ (v0 v1 : Option V) (kvs : List (Key × V)), σ = [v0, v1] /\ H D = some (.dK kvs) /\ kvs.length <= i /\ (∀ r ∈ rs.take i, ∃ t zs, valV kvs (.inr r.1) = some (.ref t) /\ H t = some (.tup (zs.map V.str)) /\ zs.Perm r.2 /\ sortedS zs = true) /\ Same H1 H) ?_ ?_ ?_ ?_
  . exact ⟨none, none, [], rfl, upd_same, Nat.le_refl _, (by intro _ z; cases z), sm_new hD⟩
  . rintro i σ H _ ⟨v0, v1, kvs, _, _, _, _, x⟩
    exact SqL.of (x _ _ hL)
  . rintro i y σ H hy ⟨v0, v1, kvs, rfl, h1, l1, m1, x⟩
    rw [List.getElem?_map] at hy
    obtain ⟨t, ht, rfl⟩ := Option.map_eq_some_iff.mp hy
    obtain ⟨r, hr', d, e1, e2⟩ := hT.get ht
    have hi : i < rs.length := (List.getElem?_eq_some_iff.mp hr').1
    have hrow := hG.row r (List.mem_of_getElem? hr')
    have hz : (rs.map (·.1))[i]? = some r.1 := by rw [List.getElem?_map, hr']; rfl
    have hn := not_mem_take hG.nd hz
    refine ⟨t, _, rfl, SqT.of (x _ _ e1), rfl, _, _, rfl, _, _, rfl, rfl, ?_⟩
    refine ⟨_, rfl, _, rfl, d, r.2, rfl, .inr (SqT.of (x _ _ e2)), by omega, fun t2 zs H2 hs hp ht2 x2 h2 => ?_⟩
    refine ⟨kvs, .inr r.1, rfl, x2 _ _ h1, small (by omega), _, _, putK kvs (.inr r.1) (.ref t2), rfl, upd_same, ?_, ?_, (x.trans x2).at hD⟩
    . have := length_putK kvs (.inr r.1) (.ref t2)
      omega
    . intro r' hr2
      have nt : ∀ t' ys, H2 t' = some (.tup ys) -> t' ≠ D := fun t' ys e => ne_of e (x2 _ _ h1) (fun z => nomatch z)
      rcases (mem_take_snoc hr').mp hr2 with h | h
      . obtain ⟨t', zs', a1, a2, a3⟩ := m1 r' h
        refine ⟨t', zs', ?_, ?_, a3⟩
        . rw [valV_put, if_neg]
          . exact a1
          . intro e
            have e' : r'.1 = r.1 := Sum.inr.inj e
            refine hn ?_
            rw [<- List.map_take, <- e']
            exact List.mem_map_of_mem h
        . rw [upd_ne (nt _ _ (x2 _ _ a2))]; exact x2 _ _ a2
      . subst h
        refine ⟨t2, zs, by rw [valV_put, if_pos rfl], by rw [upd_ne (nt _ _ h2)]; exact h2, ?_, hs⟩
        exact hp.trans (perm_of_nodup_mem (firstS_nodup _) hrow.2.2 (firstS_mem _))
  . rintro σ H ⟨v0, v1, kvs, rfl, h1, l1, m1, x⟩
    rw [List.length_map, hlen, List.take_length] at m1
    exact hdn H kvs x h1 m1
theorem ok_init (F : Fun K "__init__" "Sharing.__init__" s_Sharing___init f fd) (B : Bt mg) (S : ShC K C) (G_refuse_rows : FnX P w K mg base k "refuse_rows" ["rows"] (spRefRows CT) g gd) (G_rising : Fn P w K mg base k "rising" ["things"] (spRising K) g2 gd2) :
    FnOk P w K mg base (CXE P w) (k + 1) f fd ["self", "rows"] (spInit C CT) := by
  refine F.okX sc_init (fun vs H Q E h => ?_) (fun cdv A outer s H vs Q E hr h => ?_)
  . obtain ⟨x, L, dx, rs, rfl, _⟩ := h
    rfl
  obtain ⟨x, L, dx, rs, rfl, hx, hR, hSm, q0, qe⟩ := h
  have nd := sc_init.nd
  have hl6 := hSm.len
  have hpass := pass_flyG (P := P) (w := w) (K := K) (mg := mg) (base := base) (N := ["self", "rows"]) (qual := "Sharing.__init__") (scope := defScope s_Sharing___init) (f := f) (cd := cdv) (A := A) (outer := outer) (s0 := s) (CT := CT) (H0 := H) (E := E) (G := fun fs => ∃ n, fs = TwF n /\ dueG [] rs = some n) (fun a H' fs ⟨n, e1, e2⟩ na sm fl => qe n e2 a H' na sm (e1 ▸ fl))
  refine ⟨_, (pss_cons (ps_expr (pe_call G_refuse_rows.ok hr rfl G_refuse_rows.at_ G_refuse_rows.kp G_refuse_rows.bn .nil hpass (pa_cons (pv 1) pa_nil))) (pss_cons (ps_fld (pv 0) (pe_callTy call_tuple_of rfl B.tuple_ (by decide +kernel) (pa_cons (pe_comp (g := (gTup K 2 (gCons (gName 0) (gCons (gName 1) gNil)))) (tc := tYes) (te := (tVar 0)) (own := ["letter", "desks"]) (fr := ([] : List Str)) (idx := []) rfl (by show CompScope _ _ _ (defScope s_Sharing___init); exact ⟨rfl, by decide +kernel, by decide +kernel, by decide +kernel, by decide +kernel, by decide +kernel, by decide +kernel⟩) (pi_list (pv 1)) (fun _ _ _ _ _ => (pg_tup rfl (pgs_cons (pg_name (i := 0) (by show List.Nodup (["letter", "desks"] : List Str); decide +kernel) rfl (Or.inl rfl) (Or.inr rfl)) (pgs_cons (pg_name (i := 1) (by show List.Nodup (["letter", "desks"] : List Str); decide +kernel) rfl (Or.inl rfl) (Or.inr rfl)) pgs_nil)))) (fun _ _ _ _ _ => pts_nil) (fun _ _ _ _ _ => (pv 0)) rfl (hat_of rfl)) pa_nil)) rfl) (pss_cons (ps_fld (pv 0) (pe_call G_rising.ok hr rfl G_rising.at_ G_rising.kp G_rising.bn .nil pass0 (pa_cons (pe_comp2 (g := (gTup K 2 (gCons (gName 0) (gCons (gName 1) gNil)))) (tc := tYes) (te := (tVar 2)) (wi2 := (iTup K (tVar 1))) (g2 := (gName 2)) (tc2 := tYes) (own := ["letter", "desks", "desk"]) (fr := ([] : List Str)) (idx := []) rfl (by show CompScope _ _ _ (defScope s_Sharing___init); exact ⟨rfl, by decide +kernel, by decide +kernel, by decide +kernel, by decide +kernel, by decide +kernel, by decide +kernel⟩) (pi_list (pv 1)) (fun _ _ _ _ _ => (pg_tup rfl (pgs_cons (pg_name (i := 0) (by show List.Nodup (["letter", "desks", "desk"] : List Str); decide +kernel) rfl (Or.inl rfl) (Or.inr rfl)) (pgs_cons (pg_name (i := 1) (by show List.Nodup (["letter", "desks", "desk"] : List Str); decide +kernel) rfl (Or.inl rfl) (Or.inr rfl)) pgs_nil)))) (fun _ _ _ _ _ => pts_nil) (fun _ _ _ _ _ => (pi_tup (pv 1))) (fun _ _ _ _ _ => (pg_name (i := 2) (by show List.Nodup (["letter", "desks", "desk"] : List Str); decide +kernel) rfl (Or.inl rfl) (Or.inr rfl))) (fun _ _ _ _ _ => pts_nil) (fun _ _ _ _ _ => (pv 2)) rfl (hat_of rfl)) pa_nil)) rfl) (pss_one (ps_fld (pv 0) (pe_dcomp (g := (gTup K 2 (gCons (gName 0) (gCons (gName 1) gNil)))) (tc := tYes) (tk := (tVar 0)) (tv := (tCall (spRising K) [] E0 (tCons (tVar 1) tNil))) (own := ["letter", "desks"]) (fr := ([] : List Str)) (idx := []) rfl (by show CompScope _ _ _ (defScope s_Sharing___init); exact ⟨rfl, by decide +kernel, by decide +kernel, by decide +kernel, by decide +kernel, by decide +kernel, by decide +kernel⟩) (pi_list (pv 1)) (fun _ _ _ _ _ => (pg_tup rfl (pgs_cons (pg_name (i := 0) (by show List.Nodup (["letter", "desks"] : List Str); decide +kernel) rfl (Or.inl rfl) (Or.inr rfl)) (pgs_cons (pg_name (i := 1) (by show List.Nodup (["letter", "desks"] : List Str); decide +kernel) rfl (Or.inl rfl) (Or.inr rfl)) pgs_nil)))) (fun _ _ _ _ _ => pts_nil) (fun _ _ _ _ _ => (pv 0)) (fun _ _ _ _ _ => (pe_call G_rising.ok hr rfl G_rising.at_ G_rising.kp G_rising.bn .nil pass0 (pa_cons (pv 1) pa_nil))) rfl (hat_of rfl)) rfl))))), ?_⟩
  refine ⟨_, rfl, L, rs, rfl, hR, hSm, fun hdue H1 x1 => ?_, fun n hn a H' na sm fl => ⟨a, rfl, na, sm, _, fl, n, rfl, hn⟩⟩
  have hG := hSm.good hdue
  have q := q0 hdue
  have hR1 := hR.same x1
  obtain ⟨ts, hL1, _⟩ := id hR1
  refine ⟨_, rfl, L, rfl, ⟨_, SqL.of hL1⟩, fun D hD => firsts (K := K) (by omega) hD hR1 fun H2 x2 hD2 => ⟨D, _, rfl, .inl ⟨SqL.of hD2, fun tl htl => ?_⟩⟩⟩
  have xx2 : Same H (upd H2 tl (.tup ((rs.map (·.1)).map V.str))) := (x1.trans x2).trans (sm_new htl)
  refine ⟨_, rfl, x, C, dx, [], rfl, xx2 _ _ hx, S.cls, S.n1, by decide, ?_⟩
  have y2 : ∀ b o, b ≠ x -> H b = some o -> upd (upd H2 tl (.tup ((rs.map (·.1)).map V.str))) x (.ins C dx (putF "letters" (.ref tl) [])) b = some o := fun b o n e => by rw [upd_ne n]; exact xx2 _ _ e
  have ntl : tl ≠ x := ne_of (upd_same (H := H2)) (xx2 _ _ hx) (fun z => nomatch z)
  have k2 : upd (upd H2 tl (.tup ((rs.map (·.1)).map V.str))) x (.ins C dx (putF "letters" (.ref tl) [])) tl = some (.tup ((rs.map (·.1)).map V.str)) := by rw [upd_ne ntl]; exact upd_same
  have k2x : upd (upd H2 tl (.tup ((rs.map (·.1)).map V.str))) x (.ins C dx (putF "letters" (.ref tl) [])) x = some (.ins C dx [("letters", .ref tl)]) := upd_same
  generalize upd (upd H2 tl (.tup ((rs.map (·.1)).map V.str))) x (.ins C dx (putF "letters" (.ref tl) [])) = H3 at y2 k2 k2x ⊢
  have hR3 : RowsAt H3 L rs := by
    obtain ⟨ts, h1, h2⟩ := hR
    exact ⟨ts, y2 _ _ (ne_of h1 hx (fun z => nomatch z)) h1, RowsT.keep (fun b xs e => y2 _ _ (ne_of e hx (fun z => nomatch z)) e) h2⟩
  obtain ⟨ts3, hL3, _⟩ := id hR3
  refine ⟨_, rfl, L, rfl, ⟨_, SqL.of hL3⟩, fun D hD => desks2 (K := K) (by omega) (fun r hr => (hG.row r hr).2.1) hD hR3 fun H4 x4 hD4 => ?_⟩
  have lfm : (rs.flatMap (·.2)).length <= 7 * rs.length := by
    clear q hR hR1 hR3
    have : ∀ l : List Row, (∀ r ∈ l, r.2.length <= 7) -> (l.flatMap (·.2)).length <= 7 * l.length := by
      intro l
      induction l with
      | nil => intro _; exact Nat.le_refl _
      | cons r rr ih =>
        intro h
        have h1 := h r List.mem_cons_self
        have h2 := ih fun r' hr' => h r' (List.mem_cons_of_mem _ hr')
        rw [List.flatMap_cons, List.length_append, List.length_cons]
        omega
    exact this rs fun r hr => (hG.row r hr).2.1
  refine ⟨D, rs.flatMap (·.2), rfl, .inl (SqL.of hD4), by omega, fun td ds H5 hs5 hp5 htd x5 h5 => ?_⟩
  have xx5 : Same H3 H5 := x4.trans x5
  refine ⟨_, rfl, x, C, dx, _, rfl, xx5 _ _ k2x, S.cls, S.n2, (by show 1 < 1000; decide), ?_⟩
  have dlen : ds.length <= 60 := by
    have := firstS_le (rs.flatMap (·.2))
    rw [hp5.length_eq]; omega
  have dnd : ds.Nodup := hp5.nodup_iff.mpr (firstS_nodup _)
  have dmem : ∀ d, d ∈ ds ↔ ∃ r ∈ rs, d ∈ r.2 := fun d => by rw [hp5.mem_iff, firstS_mem, List.mem_flatMap]
  have y5 : ∀ b o, b ≠ x -> H3 b = some o -> upd H5 x (.ins C dx (putF "desks" (.ref td) [("letters", .ref tl)])) b = some o := fun b o n e => by rw [upd_ne n]; exact xx5 _ _ e
  have ntd : td ≠ x := ne_of h5 (xx5 _ _ k2x) (fun z => nomatch z)
  have k5 : upd H5 x (.ins C dx (putF "desks" (.ref td) [("letters", .ref tl)])) td = some (.tup (ds.map V.str)) := by rw [upd_ne ntd]; exact h5
  have k5x : upd H5 x (.ins C dx (putF "desks" (.ref td) [("letters", .ref tl)])) x = some (.ins C dx [("letters", .ref tl), ("desks", .ref td)]) := upd_same
  generalize upd H5 x (.ins C dx (putF "desks" (.ref td) [("letters", .ref tl)])) = H6 at y5 k5 k5x ⊢
  have hR6 : RowsAt H6 L rs := by
    obtain ⟨ts, h1, h2⟩ := hR3
    exact ⟨ts, y5 _ _ (ne_of h1 k2x (fun z => nomatch z)) h1, RowsT.keep (fun b xs e => y5 _ _ (ne_of e k2x (fun z => nomatch z)) e) h2⟩
  obtain ⟨ts6, hL6, _⟩ := id hR6
  refine ⟨_, rfl, L, rfl, ⟨_, SqL.of hL6⟩, fun D hD => dict_rows (K := K) hG hD hR6 fun H7 kvs x7 h7 m7 => ?_⟩
  refine ⟨_, rfl, x, C, dx, _, rfl, x7 _ _ k5x, S.cls, S.n3, (by show 2 < 1000; decide), ?_⟩
  have y7 : ∀ b o, b ≠ x -> H6 b = some o -> upd H7 x (.ins C dx (putF "desks_at" (.ref D) [("letters", .ref tl), ("desks", .ref td)])) b = some o := fun b o n e => by rw [upd_ne n]; exact x7 _ _ e
  refine q _ ⟨dx, tl, td, D, kvs, ds, upd_same, y7 _ _ ntl (y5 _ _ ntl k2), y7 _ _ ntd k5, hs5, dnd, dlen, dmem, ?_, fun r hr => ?_⟩ fun b o n e => y7 _ _ n (y5 _ _ n (y2 _ _ n e))
  . rw [upd_ne (ne_of h7 (x7 _ _ k5x) (fun z => nomatch z))]; exact h7
  . obtain ⟨t, zs, a1, a2, a3⟩ := m7 r hr
    exact ⟨t, zs, a1, by rw [upd_ne (ne_of a2 (x7 _ _ k5x) (fun z => nomatch z))]; exact a2, a3⟩
end
abbrev s_Sharing_meet : Stmt := inClass (top 16) 1
section
variable {P : Program} {w : World} {K : W.Frag} {mg : Str -> Option Value} {base : Heap} {f g g2 g3 g4 : Addr} {fd gd gd2 gd3 gd4 : FuncData} {k : Nat} {C : Addr}
def spMeet (C : Addr) : Sp := fun vs H Q _ => ∃ (x : Addr) (rs : List Row) (r : Row), vs = [.ref x, .str r.1] /\ ShAt C H x rs /\ r ∈ rs /\ ∀ t zs, H t = some (.tup (zs.map V.str)) -> zs.Perm r.2 -> sortedS zs = true -> Q (.ref t) H
theorem sc_meet : FnScope ["self", "letter"] ["self", "letter"] (defScope s_Sharing_meet) := ⟨rfl, rfl, rfl, by decide +kernel, rfl, by decide +kernel, by decide +kernel⟩
theorem ok_meet (F : Fun K "meet" "Sharing.meet" s_Sharing_meet f fd) (S : ShC K C) : FnOk P w K mg base CX0 (k + 1) f fd ["self", "letter"] (spMeet C) := by
  refine F.ok sc_meet (fun vs H Q E h => ?_) (fun cdv A outer s H vs Q E hr h => ?_)
  . obtain ⟨x, rs, r, rfl, _⟩ := h
    rfl
  obtain ⟨x, rs, r, rfl, ⟨dx, tl, td, dd, kvs, ds, h1, h2, h3, h4, h5, h6, h7, h8, h9⟩, hm, q⟩ := h
  have nd := sc_meet.nd
  obtain ⟨t, zs, a1, a2, a3, a4⟩ := h9 r hm
  refine ⟨_, (pss_cons (ps_if (pt_cmp (pc_dnotin (hu_of hr) (pv 1) (pe_fld (pv 0) rfl))) (pss_one ps_never) pss_nil) (pss_one (ps_ret (pe_dget (hu_of hr) (pe_fld (pv 0) rfl) (pv 1) (fun _ _ => rfl))))), ?_⟩
  have g : DGet H dd (.str r.1) (some (.ref t)) := by
    rw [<- a1]
    exact DGet.k (k := Sum.inr r.1) h8
  refine ⟨_, rfl, _, rfl, x, C, dx, _, _, rfl, h1, S.cls, S.n3, rfl, dd, _, rfl, g, _, rfl, ?_⟩
  refine iteF ?_
  exact ⟨_, rfl, x, C, dx, _, _, rfl, h1, S.cls, S.n3, rfl, _, rfl, dd, _, rfl, g, q t zs a2 a3 a4⟩
end
theorem str_ext {a b : Str} (h : a.cps.toList = b.cps.toList) : a = b := by
  obtain ⟨⟨a⟩⟩ := a
  obtain ⟨⟨b⟩⟩ := b
  cases h
  rfl
theorem join_toL (c : Nat) (ys : List Str) : (Txt.join ⟨#[c]⟩ ys).cps.toList = TX.jl c ys := by
  rw [show Txt.join ⟨#[c]⟩ ys = Str.join ⟨#[c]⟩ ys from StrLaws.glued_eq_join _ _]
  exact TX.join_toList ys
theorem sp_blank : (" " : Str) = ⟨#[32]⟩ := by decide +kernel
theorem sp_feed : ("\n" : Str) = ⟨#[10]⟩ := by decide +kernel
theorem jl_cons (c : Nat) (y : Str) {ys : List Str} (h : ys ≠ []) : TX.jl c (y :: ys) = y.cps.toList ++ c :: TX.jl c ys := by
  cases ys with
  | nil => exact absurd rfl h
  | cons z r => rfl
theorem jl_split (c : Nat) (l : List Nat) : ∃ ys : List Str, ys ≠ [] /\ (∀ y ∈ ys, c ∉ y.cps.toList) /\ TX.jl c ys = l := by
  induction l with
  | nil =>
    refine ⟨[⟨#[]⟩], List.cons_ne_nil _ _, fun y hy => ?_, rfl⟩
    rw [List.mem_singleton.mp hy]
    exact fun z => by cases z
  | cons d l ih =>
    obtain ⟨ys, hne, hc, e⟩ := ih
    by_cases h : d = c
    . refine ⟨⟨#[]⟩ :: ys, List.cons_ne_nil _ _, fun y hy => ?_, ?_⟩
      . rcases List.mem_cons.mp hy with rfl | hy
        . exact fun z => by cases z
        . exact hc y hy
      . rw [jl_cons c _ hne, e, h]; rfl
    . obtain ⟨y, r, rfl⟩ := List.exists_cons_of_ne_nil hne
      refine ⟨⟨⟨d :: y.cps.toList⟩⟩ :: r, List.cons_ne_nil _ _, fun z hz => ?_, ?_⟩
      . rcases List.mem_cons.mp hz with rfl | hz
        . intro q
          rcases List.mem_cons.mp q with q | q
          . exact h q.symm
          . exact hc y (List.mem_cons_self ..) q
        . exact hc z (List.mem_cons_of_mem _ hz)
      . cases r with
        | nil => show d :: y.cps.toList = d :: l; rw [<- e]; rfl
        | cons u v => show (d :: y.cps.toList) ++ c :: TX.jl c (u :: v) = d :: l; rw [<- e]; rfl
theorem text_parts (c : Nat) (t : Str) : ∃ ys : List Str, ys ≠ [] /\ (∀ y ∈ ys, c ∉ y.cps.toList) /\ t = Txt.join ⟨#[c]⟩ ys := by
  obtain ⟨ys, h1, h2, h3⟩ := jl_split c t.cps.toList
  exact ⟨ys, h1, h2, str_ext (by rw [join_toL, h3])⟩
theorem mem_jl {c d : Nat} {y : Str} : ∀ {ys : List Str}, y ∈ ys -> d ∈ y.cps.toList -> d ∈ TX.jl c ys := by
  intro ys
  induction ys with
  | nil => intro h; cases h
  | cons z r ih =>
    intro h hd
    cases r with
    | nil => rw [List.mem_singleton.mp h] at hd; exact hd
    | cons u v =>
      rw [jl_cons c z (List.cons_ne_nil u v)]
      rcases List.mem_cons.mp h with rfl | h
      . exact List.mem_append_left _ hd
      . exact List.mem_append_right _ (List.mem_cons_of_mem _ (ih h hd))
theorem jl_no {c d : Nat} (hcd : d ≠ c) {ys : List Str} : (∀ y ∈ ys, d ∉ y.cps.toList) -> d ∉ TX.jl c ys := by
  induction ys with
  | nil => intro _ z; cases z
  | cons z r ih =>
    intro h
    cases r with
    | nil => exact h z (List.mem_cons_self ..)
    | cons u v =>
      rw [jl_cons c z (List.cons_ne_nil u v)]
      intro q
      rcases List.mem_append.mp q with q | q
      . exact h z (List.mem_cons_self ..) q
      . rcases List.mem_cons.mp q with q | q
        . exact hcd q
        . exact ih (fun y hy => h y (List.mem_cons_of_mem _ hy)) q
def rowW (ws : List Str) : Str := Txt.join " " ws
def textW (wss : List (List Str)) : Str := Txt.join "\n" (wss.map rowW)
structure WOk (wss : List (List Str)) : Prop where
  ne : wss ≠ []
  rne : ∀ ws ∈ wss, ws ≠ []
  nb : ∀ ws ∈ wss, ∀ y ∈ ws, 32 ∉ y.cps.toList
  nf : ∀ ws ∈ wss, ∀ y ∈ ws, 10 ∉ y.cps.toList
theorem row_words {r : Str} (h : 10 ∉ r.cps.toList) : ∃ ws : List Str, ws ≠ [] /\ (∀ y ∈ ws, 32 ∉ y.cps.toList) /\ (∀ y ∈ ws, 10 ∉ y.cps.toList) /\ r = rowW ws := by
  obtain ⟨ws, h1, h2, h3⟩ := text_parts 32 r
  refine ⟨ws, h1, h2, fun y hy q => h ?_, by rw [rowW, sp_blank]; exact h3⟩
  rw [h3, join_toL]
  exact mem_jl hy q
theorem rows_words : ∀ {rs : List Str}, (∀ y ∈ rs, 10 ∉ y.cps.toList) -> ∃ wss : List (List Str), rs = wss.map rowW /\ ∀ ws ∈ wss, ws ≠ [] /\ (∀ y ∈ ws, 32 ∉ y.cps.toList) /\ ∀ y ∈ ws, 10 ∉ y.cps.toList := by
  intro rs
  induction rs with
  | nil => exact fun _ => ⟨[], rfl, fun _ h => by cases h⟩
  | cons r rs ih =>
    intro h
    obtain ⟨wss, e, hw⟩ := ih fun y hy => h y (List.mem_cons_of_mem _ hy)
    obtain ⟨ws, h1, h2, h3, h4⟩ := row_words (h r (List.mem_cons_self ..))
    refine ⟨ws :: wss, by rw [List.map_cons, <- e, <- h4], fun x hx => ?_⟩
    rcases List.mem_cons.mp hx with rfl | hx
    . exact ⟨h1, h2, h3⟩
    . exact hw x hx
theorem split_row {ws : List Str} (h1 : ws ≠ []) (h2 : ∀ y ∈ ws, 32 ∉ y.cps.toList) : Txt.split (rowW ws) " " = ws := by
  rw [rowW, sp_blank]
  exact TX.split_join h1 h2
theorem row_nf {ws : List Str} (h : ∀ y ∈ ws, 10 ∉ y.cps.toList) : 10 ∉ (rowW ws).cps.toList := by
  rw [rowW, sp_blank, join_toL]
  exact jl_no (by decide) h
theorem split_text {wss : List (List Str)} (W : WOk wss) : Txt.split (textW wss) "\n" = wss.map rowW := by
  rw [textW, sp_feed]
  refine TX.split_join (fun z => W.ne (List.map_eq_nil_iff.mp z)) fun y hy => ?_
  obtain ⟨ws, h, rfl⟩ := List.mem_map.mp hy
  exact row_nf (W.nf ws h)
def tot (ys : List Str) : Nat := (ys.map fun y => y.length + 1).sum
theorem tot_cons (y : Str) (ys : List Str) : tot (y :: ys) = y.length + 1 + tot ys := rfl
theorem tot_mem {y : Str} : ∀ {ys : List Str}, y ∈ ys -> y.length + 1 <= tot ys := by
  intro ys
  induction ys with
  | nil => intro h; cases h
  | cons z r ih =>
    intro h
    rw [tot_cons]
    rcases List.mem_cons.mp h with rfl | h
    . omega
    . have := ih h; omega
theorem tot_len (ys : List Str) : ys.length <= tot ys := by
  induction ys with
  | nil => exact Nat.le_refl _
  | cons z r ih => rw [tot_cons, List.length_cons]; omega
theorem len_jl (c : Nat) {ys : List Str} (h : ys ≠ []) : (TX.jl c ys).length + 1 = tot ys := by
  induction ys with
  | nil => exact absurd rfl h
  | cons z r ih =>
    cases r with
    | nil => rfl
    | cons u v =>
      rw [jl_cons c z (List.cons_ne_nil u v), List.length_append, List.length_cons, tot_cons, <- ih (List.cons_ne_nil u v)]
      show z.length + _ + 1 = _
      omega
theorem len_join (c : Nat) {ys : List Str} (h : ys ≠ []) : (Txt.join ⟨#[c]⟩ ys).length + 1 = tot ys := by
  rw [<- len_jl c h, <- join_toL]
  rfl
theorem count_jl {c : Nat} {ys : List Str} (h : ys ≠ []) : (∀ y ∈ ys, c ∉ y.cps.toList) -> (TX.jl c ys).count c + 1 = ys.length := by
  induction ys with
  | nil => exact absurd rfl h
  | cons z r ih =>
    intro hc
    have hz := List.count_eq_zero.mpr (hc z (List.mem_cons_self ..))
    cases r with
    | nil => show z.cps.toList.count c + 1 = 1; rw [hz]
    | cons u v =>
      have := ih (List.cons_ne_nil u v) fun y hy => hc y (List.mem_cons_of_mem _ hy)
      rw [jl_cons c z (List.cons_ne_nil u v), List.count_append, List.count_cons_self, hz, List.length_cons, <- this]
      omega
def feeds (t : Str) : Nat := t.cps.toList.count 10
theorem feeds_rows {rs : List Str} (h : rs ≠ []) (hc : ∀ y ∈ rs, 10 ∉ y.cps.toList) : feeds (Txt.join "\n" rs) + 1 = rs.length := by
  rw [feeds, sp_feed, join_toL]
  exact count_jl h hc
theorem feeds_text {wss : List (List Str)} (W : WOk wss) : feeds (textW wss) + 1 = wss.length := by
  rw [textW, feeds_rows (fun z => W.ne (List.map_eq_nil_iff.mp z)) fun y hy => ?_, List.length_map]
  obtain ⟨ws, h, rfl⟩ := List.mem_map.mp hy
  exact row_nf (W.nf ws h)
theorem row_len {wss : List (List Str)} (W : WOk wss) {ws : List Str} (h : ws ∈ wss) : (rowW ws).length <= (textW wss).length := by
  have a := len_join 10 (ys := wss.map rowW) (fun z => W.ne (List.map_eq_nil_iff.mp z))
  have b := tot_mem (List.mem_map_of_mem h (f := rowW))
  rw [textW, sp_feed]
  omega
theorem wd_tot {ws : List Str} (hne : ws ≠ []) : tot ws = (rowW ws).length + 1 := by
  rw [rowW, sp_blank]
  exact (len_join 32 hne).symm
def nmB (y : Str) : Bool := decide (1 <= y.length) && decide (y.length <= 8) && y.cps.toList.all fun c => decide (c ∈ abc.cps.toList)
theorem nm_iff {y : Str} : nmB y = true ↔ Nm y := by
  unfold nmB Nm AZ
  rw [Bool.and_eq_true, Bool.and_eq_true, decide_eq_true_iff, decide_eq_true_iff, List.all_eq_true, and_assoc]
  exact and_congr Iff.rfl (and_congr Iff.rfl ⟨fun h c hc => of_decide_eq_true (h c hc), fun h c hc => decide_eq_true (h c hc)⟩)
theorem lineM {n : Nat} (h : n <= 1000000) : n <= sizeLine := Nat.le_trans h (by rw [sizeLine_eq]; decide)
abbrev s_is_name : Stmt := top 11
abbrev s_words_of : Stmt := top 12
abbrev s_names_in : Stmt := top 20
section
variable {P : Program} {w : World} {K : W.Frag} {mg : Str -> Option Value} {base : Heap} {f g g2 g3 : Addr} {fd gd gd2 gd3 : FuncData} {k : Nat} {C : Addr}
def allIn (z y : Str) : Bool := y.cps.toList.all fun c => decide (c ∈ z.cps.toList)
theorem signs_in {D : Addr} {Q : VK} {H1 : Hp} {z y : Str} (h8 : y.length <= 100000) (hD : H1 D = none) (hdn : ∀ H', Same H1 H' -> H' D = some (.lst ((y.cps.toList.map fun c => decide (c ∈ z.cps.toList)).map V.bl)) -> Q (.ref D) H') :
    CompLoop (Its y) D (gName 0) tYes (tOp (fun x y H Q => ∃ i j, x = .str i /\ y = .str j /\ Q (.bl (!(Builtin.Str.occurrences j i 0 j.length 1).isEmpty)) H) (tVar 0) (tC (.str z))) Q [none] H1 := by
  refine comp_str (fun i ys σ H => ∃ v : Option V, ys = ((y.cps.toList.take i).map fun c => decide (c ∈ z.cps.toList)).map V.bl /\ σ = [v] /\ Same H1 H) ?_ ?_ ?_ ?_ ?_
  . exact ⟨none, rfl, rfl, sm_new hD⟩
  . show y.length <= 100000
    omega
  . rintro i ys σ H ⟨v, rfl, _⟩
    rw [List.length_map, List.length_map, List.length_take]; exact Nat.min_le_left _ _
  . rintro i c ys σ H hc hl2 ⟨v, rfl, rfl, x⟩
    have hm : y.cps.toList[i]? = some c := by rw [Array.getElem?_toList]; exact hc
    refine ⟨_, rfl, _, _, rfl, rfl, hl2, _, ?_, rfl, x.at hD⟩
    rw [StrLaws.found_one, take_snoc hm, List.map_append, List.map_append]; rfl
  . rintro ys σ H hl2 ⟨v, rfl, _, x⟩
    have e : y.cps.toList.take y.cps.size = y.cps.toList := List.take_of_length_le (by rw [Array.length_toList]; exact Nat.le_refl _)
    rw [e] at hl2
    exact hdn H x hl2
theorem all_of_map (z y : Str) : (y.cps.toList.map fun c => decide (c ∈ z.cps.toList)).all id = allIn z y := by
  rw [List.all_map]; rfl
def spIsName : Sp := fun vs H Q _ => ∃ y, vs = [.str y] /\ y.length <= 1000000 /\ ∀ H', Same H H' -> Q (.bl (nmB y)) H'
theorem sc_is_name : FnScope ["word"] ["word"] (defScope s_is_name) := ⟨rfl, rfl, rfl, by decide +kernel, rfl, by decide +kernel, by decide +kernel⟩
theorem ok_is_name (F : Fun K "is_name" "is_name" s_is_name f fd) (B : Bt mg) : FnOk P w K mg base CX0 (k + 1) f fd ["word"] spIsName := by
  refine F.ok sc_is_name (fun vs H Q E h => ?_) (fun cdv A outer s H vs Q E hr h => ?_)
  . obtain ⟨y, rfl, _⟩ := h
    rfl
  obtain ⟨y, rfl, hy, q⟩ := h
  have nd := sc_is_name.nd
  obtain ⟨t1, hLN⟩ := B.lng
  obtain ⟨t2, hSM⟩ := B.sml
  have hz := lineM hy
  have q0 := q H (Same.refl _)
  refine ⟨_, (pss_cons (ps_if (PW.pt (pw_or (pt_not (pt_val (pe_callB call_isi2 rfl B.isinstance_ boot_isinstance (pa_cons (pv 0) (pa_cons (pe_bltn (v := .ty "str") (u := .type "str") rfl B.str_ (by decide +kernel) rfl) pa_nil))) (fun _ => rfl))) (pw_or1 (pt_not (pt_chain op_le op_le pe_int (pe_callB call_len_str rfl B.len_ PySem.boot_len (pa_cons (pv 0) pa_nil)) (pe_glob (v := .int 8) rfl hLN ⟨_, rfl⟩)))))) (pss_one (ps_ret pe_bl)) pss_nil) (pss_one (ps_ret (pe_callB (call_allB rfl) rfl B.all_ (by decide +kernel) (pa_cons (pe_comp (g := (gName 0)) (tc := tYes) (te := (tOp (fun x y H Q => ∃ i j, x = .str i /\ y = .str j /\ Q (.bl (!(Builtin.Str.occurrences j i 0 j.length 1).isEmpty)) H) (tVar 0) (tC (.str abc)))) (own := ["sign"]) (fr := ([] : List Str)) (idx := []) rfl (by show CompScope _ _ _ (defScope s_is_name); exact ⟨rfl, by decide +kernel, by decide +kernel, by decide +kernel, by decide +kernel, by decide +kernel, by decide +kernel⟩) (pi_str (pv 0)) (fun _ _ _ _ _ => (pg_name (i := 0) (by show List.Nodup (["sign"] : List Str); decide +kernel) rfl (Or.inl rfl) (Or.inr rfl))) (fun _ _ _ _ _ => pts_nil) (fun _ _ _ _ _ => (pe_cmpR op_in_str (pv 0) (pe_glob (v := .str abc) rfl hSM ⟨_, rfl⟩) rfl)) rfl (hat_of rfl)) pa_nil))))), ?_⟩
  refine ⟨_, rfl, _, _, .type "str", _, true, rfl, .str y, rfl, fun _ h => h, kit_ss K, _, rfl, ?_⟩
  refine iteF ?_
  refine ⟨_, rfl, _, rfl, hz, _, _, rfl, rfl, _, rfl, ?_⟩
  by_cases h1 : 1 <= y.length
  . rw [decide_eq_true (show (1 : Int) <= (y.length : Nat) by omega)]
    refine iteT ?_
    refine ⟨_, _, rfl, rfl, _, rfl, ?_⟩
    by_cases h8 : y.length <= 8
    . rw [decide_eq_true (show ((y.length : Nat) : Int) <= 8 by omega)]
      refine iteF ?_
      refine ⟨_, rfl, y, rfl, fun D hD => signs_in (by omega) hD fun H2 x2 hD2 => ⟨D, _, rfl, SqL.of hD2, ?_⟩⟩
      rw [all_of_map]
      have := q H2 x2
      unfold nmB at this
      rw [decide_eq_true h1, decide_eq_true h8] at this
      exact this
    . rw [decide_eq_false (show ¬ ((y.length : Nat) : Int) <= 8 by omega)]
      refine iteT ?_
      unfold nmB at q0
      rw [decide_eq_false h8, Bool.and_false, Bool.false_and] at q0
      exact q0
  . rw [decide_eq_false (show ¬ (1 : Int) <= (y.length : Nat) by omega)]
    refine iteF ?_
    refine ⟨false, rfl, iteT ?_⟩
    unfold nmB at q0
    rw [decide_eq_false h1, Bool.false_and, Bool.false_and] at q0
    exact q0
def spWords (K : W.Frag) : Sp := fun vs H Q _ => ∃ ws : List Str, vs = [.str (rowW ws)] /\ ws ≠ [] /\ (∀ y ∈ ws, 32 ∉ y.cps.toList) /\ (rowW ws).length <= 900000 /\ (("" : Str) ∈ ws -> ∀ H', Same H H' -> Q .non H') /\ (("" : Str) ∉ ws -> ∀ l H', H l = none -> Same H H' -> H' l = some (.lst (ws.map V.str)) -> Q (.ref l) H')
theorem sc_words_of : FnScope ["row", "words"] ["row"] (defScope s_words_of) := ⟨rfl, rfl, rfl, by decide +kernel, rfl, by decide +kernel, by decide +kernel⟩
theorem ok_words_of (F : Fun K "words_of" "words_of" s_words_of f fd) (B : Bt mg) : FnOk P w K mg base CX0 (k + 1) f fd ["row"] (spWords K) := by
  refine F.ok sc_words_of (fun vs H Q E h => ?_) (fun cdv A outer s H vs Q E hr h => ?_)
  . obtain ⟨ws, rfl, _⟩ := h
    rfl
  obtain ⟨ws, rfl, hne, hb, hl, q1, q2⟩ := h
  have nd := sc_words_of.nd
  have ht := wd_tot hne
  have htl := tot_len ws
  refine ⟨_, (pss_cons (ps_set (i := 1) nd rfl (Or.inl rfl) (pe_bm (T := "str") (name := "split") (id := "str.split") PySem.F.plainAttrs_str PySem.F.slot_str_split PySem.F.type_str_split mt_split (pv 0) (pa_cons pe_str pa_nil))) (pss_cons (ps_if (pt_cmpR op_in_seq pe_str (pv 1) rfl) (pss_one (ps_ret pe_non)) pss_nil) (pss_one (ps_ret (pv 1))))), ?_⟩
  refine ⟨_, rfl, rfl, _, _, rfl, rfl, rfl, lineM (by omega), by rw [split_row hne hb]; exact lineM (by omega), fun l hl => ?_⟩
  rw [split_row hne hb]
  refine ⟨_, rfl, l, _, rfl, .inl (SqL.of upd_same), rfl, flat_strs ws, _, rfl, ?_⟩
  by_cases hin : ("" : Str) ∈ ws
  . rw [show (if false = true then !inV (.str "") (ws.map V.str) else inV (.str "") (ws.map V.str)) = true from inV_mem.mpr hin]
    refine iteT ?_
    exact q1 hin _ (sm_new hl)
  . rw [show (if false = true then !inV (.str "") (ws.map V.str) else inV (.str "") (ws.map V.str)) = false from inV_nmem.mpr hin]
    refine iteF ?_
    exact ⟨_, rfl, q2 hin l _ hl (sm_new hl) upd_same⟩
def spNamesIn (K : W.Frag) : Sp := fun vs H Q _ => ∃ ws : List Str, vs = [.str (rowW ws)] /\ ws ≠ [] /\ (∀ y ∈ ws, 32 ∉ y.cps.toList) /\ (rowW ws).length <= 90000 /\ (ws.all nmB = false -> ∀ H', Same H H' -> Q .non H') /\ (ws.all nmB = true -> ∀ l H', H l = none -> Same H H' -> H' l = some (.lst (ws.map V.str)) -> Q (.ref l) H')
theorem all_nm {D l : Addr} {Q : VK} {H1 : Hp} {ws : List Str} (hb : ∀ y ∈ ws, y.length <= 1000000) (hl : ws.length <= 100000) (hD : H1 D = none) (hL : H1 l = some (.lst (ws.map V.str))) (hdn : ∀ H', Same H1 H' -> H' D = some (.lst ((ws.map nmB).map V.bl)) -> Q (.ref D) H') :
    CompLoop (Itl K l) D (gName 0) tYes (tCall spIsName [] E0 (tCons (tVar 0) tNil)) Q [none] H1 := by
  refine comp_list (xs := ws.map V.str) (fun i zs σ H => ∃ v : Option V, zs = ((ws.take i).map nmB).map V.bl /\ σ = [v] /\ Same H1 H) ?_ (by rw [List.length_map]; omega) ?_ ?_ ?_ ?_
  . exact ⟨none, rfl, rfl, sm_new hD⟩
  . rintro i zs σ H ⟨v, rfl, _⟩
    rw [List.length_map, List.length_map, List.length_take]; exact Nat.min_le_left _ _
  . rintro i zs σ H ⟨v, _, _, x⟩
    exact SqL.of (x _ _ hL)
  . rintro i y zs σ H hy hl2 ⟨v, rfl, rfl, x⟩
    rw [List.getElem?_map] at hy
    obtain ⟨z, hz, rfl⟩ := Option.map_eq_some_iff.mp hy
    refine ⟨_, rfl, z, rfl, hb z (List.mem_of_getElem? hz), fun H2 x2 => ⟨x2 _ _ hl2, _, ?_, rfl, (x.trans x2).at hD⟩⟩
    rw [take_snoc hz, List.map_append, List.map_append]; rfl
  . rintro zs σ H hl2 ⟨v, rfl, _, x⟩
    rw [List.length_map, List.take_length] at hl2
    exact hdn H x hl2
theorem nmB_empty : nmB "" = false := by decide +kernel
theorem sc_names_in : FnScope ["row", "words"] ["row"] (defScope s_names_in) := ⟨rfl, rfl, rfl, by decide +kernel, rfl, by decide +kernel, by decide +kernel⟩
theorem all_id (ws : List Str) : (ws.map nmB).all id = ws.all nmB := by rw [List.all_map]; rfl
theorem ok_names_in (F : Fun K "names_in" "names_in" s_names_in f fd) (B : Bt mg) (G_words_of : Fn P w K mg base k "words_of" ["row"] (spWords K) g gd) (G_is_name : Fn P w K mg base k "is_name" ["word"] spIsName g2 gd2) :
    FnOk P w K mg base CX0 (k + 1) f fd ["row"] (spNamesIn K) := by
  refine F.ok sc_names_in (fun vs H Q E h => ?_) (fun cdv A outer s H vs Q E hr h => ?_)
  . obtain ⟨ws, rfl, _⟩ := h
    rfl
  obtain ⟨ws, rfl, hne, hb, hl, q1, q2⟩ := h
  have nd := sc_names_in.nd
  have ht := wd_tot hne
  have htl := tot_len ws
  refine ⟨_, (pss_cons (ps_set (i := 1) nd rfl (Or.inl rfl) (pe_call G_words_of.ok hr rfl G_words_of.at_ G_words_of.kp G_words_of.bn .nil pass0 (pa_cons (pv 0) pa_nil))) (pss_cons (ps_if (PW.pt (pw_or (pt_cmpR op_isN (pv 1) pe_non (nomark _)) (pw_or1 (pt_not (pt_val (pe_callB (call_allB rfl) rfl B.all_ (by decide +kernel) (pa_cons (pe_comp (g := (gName 0)) (tc := tYes) (te := (tCall spIsName [] E0 (tCons (tVar 0) tNil))) (own := ["word"]) (fr := ([] : List Str)) (idx := []) rfl (by show CompScope _ _ _ (defScope s_names_in); exact ⟨rfl, by decide +kernel, by decide +kernel, by decide +kernel, by decide +kernel, by decide +kernel, by decide +kernel⟩) (pi_list (pv 1)) (fun _ _ _ _ _ => (pg_name (i := 0) (by show List.Nodup (["word"] : List Str); decide +kernel) rfl (Or.inl rfl) (Or.inr rfl))) (fun _ _ _ _ _ => pts_nil) (fun _ _ _ _ _ => (pe_call G_is_name.ok hr rfl G_is_name.at_ G_is_name.kp G_is_name.bn .nil pass0 (pa_cons (pv 0) pa_nil))) rfl (hat_of rfl)) pa_nil)) (fun _ => rfl)))))) (pss_one (ps_ret pe_non)) pss_nil) (pss_one (ps_ret (pv 1))))), ?_⟩
  refine ⟨_, rfl, ws, rfl, hne, hb, by omega, fun hin H1 x1 => ?_, fun hin l H1 hl0 x1 h1 => ?_⟩
  . refine ⟨_, rfl, rfl, true, congrArg V.bl (decide_eq_true rfl), iteT ?_⟩
    refine q1 ?_ H1 x1
    refine Bool.eq_false_iff.mpr fun z => ?_
    have := List.all_eq_true.mp z _ hin
    rw [nmB_empty] at this
    cases this
  . refine ⟨_, rfl, rfl, false, congrArg V.bl (decide_eq_false fun z => nomatch z), iteF ?_⟩
    refine ⟨_, rfl, l, rfl, ⟨_, SqL.of h1⟩, fun D hD => all_nm (K := K) (fun y hy => by have := tot_mem hy; omega) (by omega) hD h1 fun H2 x2 hD2 => ⟨D, _, rfl, SqL.of hD2, _, rfl, ?_⟩⟩
    rw [all_id]
    cases e : ws.all nmB with
    | true =>
      refine iteF ?_
      exact ⟨_, rfl, q2 e l H2 hl0 (x1.trans x2) (x2 _ _ h1)⟩
    | false =>
      refine iteT ?_
      exact q1 e H2 (x1.trans x2)
end
end KK
namespace L2
open PySem PySem.Spec PyProof.Rows
theorem for_enum1 {K : W.Frag} {a : Addr} {xs : List V} {g : TG} {tb : TS} {D : Ends} {σ : St} {H : Hp} (Pv : Nat -> St -> Hp -> Prop) (h0 : Pv 0 σ H) (hl : ∀ i σ H, i <= xs.length -> Pv i σ H -> SqL K H a xs)
    (hs : ∀ i x σ H T, xs[i]? = some x -> H T = none -> Pv i σ H -> g (.ref T) σ (upd H T (.tup [.int (i + 1), x])) fun σ2 H2 => tb { D with nx := Pv (i + 1), ct := Pv (i + 1), bk := D.nx } σ2 H2) (hd : ∀ σ H, Pv xs.length σ H -> D.nx σ H) :
    ∃ W : Nat -> Nat -> St -> Hp -> Prop, (∃ m, W 0 m σ H) /\ ∀ i m σ H, W i m σ H ->
      ((Ite1 K a).stop i H /\ D.nx σ H) \/ ((Ite1 K a).go i H /\ ∃ N : St -> Hp -> Prop, (∀ σ' H', N σ' H' -> ∃ m', m' < m /\ W (i + 1) m' σ' H') /\ ∀ x H', (Ite1 K a).yld i H x H' -> g x σ H' fun σ2 H2 => tb { D with nx := N, ct := N, bk := D.nx } σ2 H2) := by
  refine ⟨fun i m σ H => m = xs.length - i /\ i <= xs.length /\ Pv i σ H, ⟨xs.length, by simp, Nat.zero_le _, h0⟩, ?_⟩
  rintro i m σ H ⟨rfl, hi, p⟩
  have q := hl i σ H hi p
  by_cases hlt : i < xs.length
  . refine .inr ⟨⟨xs, xs[i], q, by simp [hlt]⟩, Pv (i + 1), fun σ' H' p' => ⟨xs.length - (i + 1), by omega, rfl, hlt, p'⟩, fun x H' y => ?_⟩
    obtain ⟨T, hT, rfl, y⟩ := y
    obtain ⟨x', hx, rfl⟩ := y xs q
    exact hs i x' σ H T hx hT p
  . have e : i = xs.length := by omega
    subst e
    exact .inl ⟨⟨xs, q, Nat.le_refl _⟩, hd σ H p⟩
end L2
namespace KK
open PySem L2 PyProof.Rows KKM
abbrev s_read_sharing : Stmt := top 19
abbrev s_show_sharing : Stmt := top 21
section
variable {P : Program} {w : World} {K : W.Frag} {mg : Str -> Option Value} {base : Heap} {f g g2 g3 g4 : Addr} {fd gd gd2 gd3 gd4 : FuncData} {k j : Nat} {C : Addr}
theorem join_len {c : Nat} {ys : List Str} (h : ∀ y ∈ ys, y.length <= 200) (hl : ys.length <= 40) : (Txt.join ⟨#[c]⟩ ys).length <= 8040 /\ (ys.map (·.length)).sum + ys.length * (⟨#[c]⟩ : Str).length <= 8040 := by
  have e : Txt.join ⟨#[c]⟩ ys = Str.join ⟨#[c]⟩ ys := StrLaws.glued_eq_join _ _
  have q := StrLaws.join_length_le ⟨#[c]⟩ ys
  have l1 : (⟨#[c]⟩ : Str).length = 1 := rfl
  have sm : ∀ l : List Str, (∀ y ∈ l, y.length <= 200) -> (l.map (·.length)).sum <= 200 * l.length := by
    intro l
    induction l with
    | nil => intro _; exact Nat.le_refl _
    | cons y r ih =>
      intro h
      have h1 := h y List.mem_cons_self
      have h2 := ih fun z hz => h z (List.mem_cons_of_mem _ hz)
      rw [List.map_cons, List.sum_cons, List.length_cons]
      omega
  have s1 := sm ys h
  rw [l1] at q ⊢
  rw [e]
  constructor <;> omega
def rowText (r : Row) : Str := Txt.join " " (r.1 :: r.2)
def textOf (rs : List Row) : Str := Txt.join "\n" (rs.map rowText)
theorem row_names {rs : List Row} (hG : Good rs) {r : Row} (hr : r ∈ rs) : ∀ y ∈ r.1 :: r.2, Nm y := fun y hy => by
  rcases List.mem_cons.mp hy with h | h
  . rw [h]; exact hG.nm r.1 (List.mem_map_of_mem hr)
  . exact hG.dn r hr y h
theorem rowText_le {r : Row} (hn : ∀ y ∈ r.1 :: r.2, Nm y) (h4 : r.2.length <= 4) : (rowText r).length <= 200 := by
  unfold rowText
  rw [sp_blank, show Txt.join ⟨#[32]⟩ (r.1 :: r.2) = Str.join ⟨#[32]⟩ (r.1 :: r.2) from StrLaws.glued_eq_join _ _]
  have q := StrLaws.join_length_le ⟨#[32]⟩ (r.1 :: r.2)
  have sm : ∀ l : List Str, (∀ y ∈ l, Nm y) -> (l.map (·.length)).sum <= 8 * l.length := by
    intro l
    induction l with
    | nil => intro _; exact Nat.le_refl _
    | cons y r ih =>
      intro h
      have h1 := (h y List.mem_cons_self).2.1
      have h2 := ih fun z hz => h z (List.mem_cons_of_mem _ hz)
      rw [List.map_cons, List.sum_cons, List.length_cons]
      omega
  have s1 := sm _ hn
  have l1 : (⟨#[32]⟩ : Str).length = 1 := rfl
  rw [l1] at q
  rw [List.length_cons] at q s1
  omega
structure MakeX (P : Program) (w : World) (K : W.Frag) (mg : Str -> Option Value) (base : Heap) (k : Nat) (C CT : Addr) (g : Addr) (gd : FuncData) : Prop where
  mak : Mk K C g
  cls : Cls K C
  sh : ShC K C
  ok : FnOk P w K mg base (CXE P w) k g gd ["self", "rows"] (spInit C CT)
  bn : Binds K gd ["self", "rows"] []
  at_ : mg "Sharing" = some (.ref C)
structure MeetOk (P : Program) (w : World) (K : W.Frag) (mg : Str -> Option Value) (base : Heap) (k : Nat) (C : Addr) (g : Addr) (gd : FuncData) : Prop where
  meth : Meth K C "meet" g
  ok : FnOk P w K mg base CX0 k g gd ["self", "letter"] (spMeet C)
  bn : Binds K gd ["self", "letter"] []
theorem RowsT.snoc {H : Hp} : ∀ {ts : List Addr} {rs : List Row} {t : Addr} {r : Row}, RowsT H ts rs -> RowAt H t r -> RowsT H (ts ++ [t]) (rs ++ [r])
  | _, _, _, _, .nil, h => .cons h .nil
  | _, _, _, _, .cons a b, h => .cons a (RowsT.snoc b h)
theorem cut_tail (x : V) (xs : List V) : cutV (x :: xs) (some 1) none = xs := by
  unfold cutV HT.sIx
  simp
def SameRows (rs ps : List Row) : Prop := ps.map (·.1) = rs.map (·.1) /\ ∀ (i : Nat) (r p : Row), rs[i]? = some r -> ps[i]? = some p -> p.2.Perm r.2 /\ sortedS p.2 = true
theorem SameRows.get {rs ps : List Row} (h : SameRows rs ps) {i : Nat} {r : Row} (hr : rs[i]? = some r) : ∃ p, ps[i]? = some p /\ p.1 = r.1 /\ p.2.Perm r.2 /\ sortedS p.2 = true := by
  have e : (ps.map (·.1))[i]? = (rs.map (·.1))[i]? := by rw [h.1]
  rw [List.getElem?_map, List.getElem?_map, hr] at e
  obtain ⟨p, hp, e'⟩ := Option.map_eq_some_iff.mp e
  exact ⟨p, hp, e', h.2 i r p hr hp⟩
theorem SameRows.length {rs ps : List Row} (h : SameRows rs ps) : ps.length = rs.length := by
  have := congrArg List.length h.1
  rw [List.length_map, List.length_map] at this
  exact this
theorem row_sum {y : Str} {zs : List Str} (h0 : Nm y) (h : ∀ z ∈ zs, Nm z) (h4 : zs.length <= 4) : ((y :: zs).map (·.length)).sum + (y :: zs).length * Str.length " " <= 16777216 := by
  rw [sp_blank]
  have q := (join_len (c := 32) (ys := y :: zs) (fun u hu => by
    have : Nm u := (List.mem_cons.mp hu).elim (fun e => by rw [e]; exact h0) (h u)
    unfold Nm at this
    omega) (by rw [List.length_cons]; omega)).2
  omega
theorem shows {D x tl : Addr} {Q : VK} {H1 : Hp} {rs ps : List Row} (hS : ShAt C H1 x rs) (htl : H1 tl = some (.tup ((rs.map (·.1)).map V.str))) (hG : Good rs) (hP : SameRows rs ps) (hD : H1 D = none) (hdn : ∀ H', Same H1 H' -> H' D = some (.lst ((ps.map rowText).map V.str)) -> Q (.ref D) H') :
    CompLoop (Itt K tl) D (gName 0) tYes (tBM K "str" (rJoinT K) (tC (.str " ")) (tCons (tOp (rCatT K) (tTup (tCons (tVar 0) tNil)) (tMeth C "meet" (spMeet C) [] E0 (tVar 1) (tCons (tVar 0) tNil))) tNil)) Q [none, some (.ref x)] H1 := by
  have l6 := hG.len
  have hpl := hP.length
  have hs := line_200
  refine comp_tup (xs := (rs.map (·.1)).map V.str) (fun i ys σ H => ∃ v : Option V, ys = ((ps.take i).map rowText).map V.str /\ σ = [v, some (.ref x)] /\ Same H1 H) ?_ (by rw [List.length_map, List.length_map]; omega) ?_ ?_ ?_ ?_
  . exact ⟨none, rfl, rfl, sm_new hD⟩
  . rintro i ys σ H ⟨v, rfl, _⟩
    rw [List.length_map, List.length_map, List.length_take]; omega
  . rintro i ys σ H ⟨v, _, _, x1⟩
    exact SqT.of (x1 _ _ htl)
  . rintro i y ys σ H hy hl2 ⟨v, rfl, rfl, x1⟩
    rw [List.getElem?_map, List.getElem?_map] at hy
    obtain ⟨nm, hnm, rfl⟩ := Option.map_eq_some_iff.mp hy
    obtain ⟨r, hr', rfl⟩ := Option.map_eq_some_iff.mp hnm
    have hm : r ∈ rs := List.mem_of_getElem? hr'
    obtain ⟨p, hp, e1, e2, e3⟩ := hP.get hr'
    have hS1 := hS.same x1
    obtain ⟨dx, _, _, _, _, _, g1, _⟩ := id hS1
    refine ⟨rfl, _, rfl, Nat.le_trans (show 1 <= 1000 by decide) hs, fun T hT => ?_⟩
    have xT : Same H (upd H T (.tup [.str r.1])) := sm_new hT
    have hTt : upd H T (.tup [.str r.1]) T = some (.tup [.str r.1]) := upd_same
    generalize upd H T (.tup [.str r.1]) = H2 at xT hTt ⊢
    refine ⟨_, rfl, x, dx, _, rfl, xT _ _ g1, rfl, _, rfl, x, rs, r, rfl, hS1.same xT, hm, fun t2 zs2 a1 a2 a3 => ?_⟩
    have ez : zs2 = p.2 := sorted_same (a2.trans e2.symm) a3 e3
    subst ez
    have l4 : p.2.length <= 4 := by rw [e2.length_eq]; exact (hG.row r hm).2.1
    have hne : p.2 ≠ [] := fun z => by
      have z1 := e2.length_eq
      rw [z] at z1
      have z2 := List.length_pos_iff.mpr (hG.row r hm).1
      have z3 : (([] : List Str)).length = 0 := rfl
      omega
    refine ⟨T, t2, _, _, rfl, rfl, SqT.of hTt, SqT.of a1, (fun z => nomatch z), Nat.le_trans (show _ <= 1000 by rw [List.length_map]; show 1 + p.2.length <= 1000; omega) hs, fun z => absurd (List.map_eq_nil_iff.mp z) hne, fun _ T2 hT2 => ?_⟩
    have x3 : Same H2 (upd H2 T2 (.tup ([.str r.1] ++ p.2.map V.str))) := sm_new hT2
    have h3 : upd H2 T2 (.tup ([.str r.1] ++ p.2.map V.str)) T2 = some (.tup ((r.1 :: p.2).map V.str)) := upd_same
    generalize upd H2 T2 (.tup ([.str r.1] ++ p.2.map V.str)) = H3 at x3 h3 ⊢
    have x03 : Same H H3 := xT.trans x3
    refine ⟨_, T2, r.1 :: p.2, rfl, rfl, SqT.of h3, row_sum (row_names hG hm _ List.mem_cons_self) (fun z hz => row_names hG hm z (List.mem_cons_of_mem _ (e2.mem_iff.mp hz))) l4, x03 _ _ hl2, _, ?_, rfl, (x1.trans x03).at hD⟩
    rw [take_snoc hp, List.map_append, List.map_append]
    show _ = _ ++ [V.str (rowText p)]
    unfold rowText
    rw [e1]
  . rintro ys σ H hl2 ⟨v, rfl, _, x1⟩
    rw [List.length_map, List.length_map, <- hpl, List.take_length] at hl2
    exact hdn H x1 hl2
theorem SameRows.sum {rs ps : List Row} (hG : Good rs) (hP : SameRows rs ps) : ((ps.map rowText).map (·.length)).sum + (ps.map rowText).length * Str.length "\n" <= 16777216 := by
  have l6 := hG.len
  rw [sp_feed]
  have q := (join_len (c := 10) (ys := ps.map rowText) (fun y hy => ?_) (by rw [List.length_map, hP.length]; omega)).2
  . omega
  . obtain ⟨p, hp, rfl⟩ := List.mem_map.mp hy
    obtain ⟨i, hi⟩ := List.getElem?_of_mem hp
    have hlt : i < rs.length := by rw [<- hP.length]; exact (List.getElem?_eq_some_iff.mp hi).1
    have hr' : rs[i]? = some rs[i] := List.getElem?_eq_getElem hlt
    obtain ⟨p', hp', e1, e2, e3⟩ := hP.get hr'
    have ep : p' = p := Option.some.inj (hp'.symm.trans hi)
    subst ep
    have hm : rs[i] ∈ rs := List.mem_of_getElem? hr'
    have h4 : p'.2.length <= 4 := by rw [e2.length_eq]; exact (hG.row _ hm).2.1
    exact rowText_le (fun u hu => row_names hG hm u (by
        rcases List.mem_cons.mp hu with z | z
        . rw [z, e1]; exact List.mem_cons_self
        . exact List.mem_cons_of_mem _ (e2.mem_iff.mp z))) h4
def spShow (C : Addr) : Sp := fun vs H Q _ => ∃ (x : Addr) (rs ps : List Row), vs = [.ref x] /\ ShAt C H x rs /\ Good rs /\ SameRows rs ps /\ ∀ H', Same H H' -> Q (.str (textOf ps)) H'
theorem sc_show : FnScope ["sharing"] ["sharing"] (defScope s_show_sharing) := ⟨rfl, rfl, rfl, by decide +kernel, rfl, by decide +kernel, by decide +kernel⟩
theorem ok_show (F : Fun K "show_sharing" "show_sharing" s_show_sharing f fd) (B : Bt mg) {CT : Addr} (M_Sharing : MakeX P w K mg base j C CT g4 gd4) (N_meet : MeetOk P w K mg base k C g3 gd3) :
    FnOk P w K mg base CX0 (k + 1) f fd ["sharing"] (spShow C) := by
  refine F.ok sc_show (fun vs H Q E h => ?_) (fun cdv A outer s H vs Q E hr h => ?_)
  . obtain ⟨x, rs, ps, rfl, _⟩ := h
    rfl
  obtain ⟨x, rs, ps, rfl, hS, hG, hP, q⟩ := h
  have nd := sc_show.nd
  have S := M_Sharing.sh
  have l6 := hG.len
  obtain ⟨dx, tl, td, dd, kvs, ds, h1, h2, h3, h4, h5, h6, h7, h8, h9⟩ := id hS
  refine ⟨_, (pss_one (ps_ret (pe_bm PySem.F.plainAttrs_str PySem.F.slot_str_join PySem.F.type_str_join mt_join pe_str (pa_cons (pe_comp (g := (gName 0)) (tc := tYes) (te := (tBM K "str" (rJoinT K) (tC (.str " ")) (tCons (tOp (rCatT K) (tTup (tCons (tVar 0) tNil)) (tMeth C "meet" (spMeet C) [] E0 (tVar 1) (tCons (tVar 0) tNil))) tNil))) (own := ["letter"]) (fr := ["sharing"]) (idx := [0]) rfl (by show CompScope _ _ _ (defScope s_show_sharing); exact ⟨rfl, by decide +kernel, by decide +kernel, by decide +kernel, by decide +kernel, by decide +kernel, by decide +kernel⟩) (pi_tup (pe_fld (pv 0) rfl)) (fun _ _ _ _ _ => (pg_name (i := 0) (by show List.Nodup (["letter", "sharing"] : List Str); decide +kernel) rfl (Or.inl rfl) (Or.inr rfl))) (fun _ _ _ _ _ => pts_nil) (fun _ _ _ _ _ => (pe_bm PySem.F.plainAttrs_str PySem.F.slot_str_join PySem.F.type_str_join mt_joinT pe_str (pa_cons (pe_op op_catT (pe_tup (pa_cons (pv 0) pa_nil)) (pe_meth (pv 1) M_Sharing.cls N_meet.meth N_meet.ok hr N_meet.bn .nil pass0 (pa_cons (pv 0) pa_nil))) pa_nil))) rfl (hat_of rfl)) pa_nil)))), ?_⟩
  refine ⟨rfl, _, rfl, x, C, dx, _, _, rfl, h1, S.cls, S.n1, rfl, tl, rfl, ⟨_, SqT.of h2⟩, fun D hD => shows (K := K) hS h2 hG hP hD fun H2 x2 hD2 => ?_⟩
  exact ⟨_, D, ps.map rowText, rfl, rfl, SqL.of hD2, hP.sum hG, q H2 x2⟩
end
def bdW (ws : List Str) : Bool := !(ws.all nmB) || decide (ws.length < 2)
def fbad : Nat -> List (List Str) -> Option Nat
  | _, [] => none
  | i, ws :: r => if bdW ws = true then some i else fbad (i + 1) r
theorem fbad_step {wss : List (List Str)} {i : Nat} {ws : List Str} (h : wss[i]? = some ws) : fbad i (wss.drop i) = if bdW ws = true then some i else fbad (i + 1) (wss.drop (i + 1)) := by
  obtain ⟨hi, e⟩ := List.getElem?_eq_some_iff.mp h
  rw [List.drop_eq_getElem_cons hi, e]
  rfl
theorem fbad_none : ∀ {wss : List (List Str)} {i : Nat}, fbad i wss = none -> ∀ ws ∈ wss, bdW ws = false
  | [], _, _, _, h => by cases h
  | c :: r, i, h, ws, hw => by
    unfold fbad at h
    cases e : bdW c with
    | true => rw [e, if_pos rfl] at h; cases h
    | false =>
      rw [e, if_neg (by decide)] at h
      rcases List.mem_cons.mp hw with z | z
      . rw [z]; exact e
      . exact fbad_none h ws z
def rowOf (ws : List Str) : Row := (ws.headD "", ws.tail)
structure TxOk (wss : List (List Str)) : Prop where
  w : WOk wss
  len : (textW wss).length <= 30000
  few : wss.length <= 6
  ws8 : ∀ ws ∈ wss, ws.length <= 8
theorem bdW_false {ws : List Str} (h : bdW ws = false) : ws.all nmB = true /\ 2 <= ws.length := by
  unfold bdW at h
  obtain ⟨h1, h2⟩ := Bool.or_eq_false_iff.mp h
  exact ⟨by simpa using h1, by have := of_decide_eq_false h2; omega⟩
theorem tail_ne {ws : List Str} (h : 2 <= ws.length) : ws.tail ≠ [] := fun z => by
  have := congrArg List.length z
  rw [List.length_tail] at this
  have e : ([] : List Str).length = 0 := rfl
  omega
theorem head_tail {ws : List Str} (h : 1 <= ws.length) : ws = ws.headD "" :: ws.tail := by
  cases ws with
  | nil => cases h
  | cons a b => rfl
theorem small_of {wss : List (List Str)} (T : TxOk wss) (h : fbad 0 wss = none) : Small (wss.map rowOf) where
  ne := fun z => T.w.ne (List.map_eq_nil_iff.mp z)
  len := by rw [List.length_map]; exact T.few
  row := fun r hr => by
    obtain ⟨ws, hw, rfl⟩ := List.mem_map.mp hr
    obtain ⟨_, h2⟩ := bdW_false (fbad_none h ws hw)
    have := T.ws8 ws hw
    exact ⟨tail_ne h2, by show ws.tail.length <= 7; rw [List.length_tail]; omega⟩
def LnF (v : Int) : List (Str × V) := [("line", .int v)]
structure XMkN (P : Program) (w : World) (K : W.Frag) (mg : Str -> Option Value) (base : Heap) (k : Nat) (C M : Addr) (f : Addr) (fd : FuncData) : Prop where
  xc : XC K C M
  hin : W.findIn K (.ref C) "__init__" = some (some (.ref f))
  hfn : W.isFn K (.ref f) = true
  ok : FnOk P w K mg base CX0 k f fd ["self", "line"] (spInit1 C "line")
  bn : Binds K fd ["self", "line"] []
  at_ : mg "NoText" = some (.ref C)
  fn : W.findIn K (.ref C) "line" = some none
theorem raisedN {H H1 : Hp} {E : XK} {v : Int} {CN : Addr} {vs : List V} (x : Same H H1) (hE : ∀ a H', H a = none -> Same H H' -> FlyAt H' a CN (LnF v) -> E (.ref a) none H') :
    ∀ e u, H1 e = none -> H1 u = none -> u ≠ e -> spInit1 CN "line" (.ref e :: [.int v]) (upd (upd H1 u (.tup vs)) e (ExcO e CN u none)) (fun w H2 => w = .non /\ ∃ a fs, V.ref e = .ref a /\ XAt H2 a CN fs /\ RNew H E CN a fs H2) E0 := fun e u he hu hne =>
  ⟨e, u, .int v, rfl, upd_same, fun H' hX k => ⟨rfl, e, LnF v, rfl, hX, x.free he, fun b o q => k b o (ne_of_none (x b o q) he) (by rw [upd_ne (ne_of_none (x b o q) he), upd_ne (ne_of_none (x b o q) hu)]; exact x b o q), fun H'' sm fl => hE e H'' (x.free he) sm fl⟩⟩
section
variable {P : Program} {w : World} {K : W.Frag} {mg : Str -> Option Value} {base : Heap} {f g g2 g3 g4 : Addr} {fd gd gd2 gd3 gd4 : FuncData} {k j : Nat} {C CN CT M ft fn : Addr} {ftd fnd : FuncData}
def spRead (C CN CT : Addr) : Sp := fun vs H Q E => ∃ wss : List (List Str), vs = [.str (textW wss)] /\ TxOk wss /\
  (fbad 0 wss = none -> dueG [] (wss.map rowOf) = none -> ∀ x H', H x = none -> Same H H' -> ShAt C H' x (wss.map rowOf) -> Q (.ref x) H') /\
  (∀ i, fbad 0 wss = some i -> ∀ a H', H a = none -> Same H H' -> FlyAt H' a CN (LnF ((i : Int) + 1)) -> E (.ref a) none H') /\
  (∀ n, fbad 0 wss = none -> dueG [] (wss.map rowOf) = some n -> ∀ a H', H a = none -> Same H H' -> FlyAt H' a CT (TwF n) -> E (.ref a) none H')
theorem sc_read : FnScope ["text", "rows", "line", "row", "names"] ["text"] (defScope s_read_sharing) := ⟨rfl, rfl, rfl, by decide +kernel, rfl, by decide +kernel, by decide +kernel⟩
theorem ok_read (F : Fun K "read_sharing" "read_sharing" s_read_sharing f fd) (B : Bt mg) (xn : XMkN P w K mg base k CN M fn fnd) (G_names_in : Fn P w K mg base (k + 1) "names_in" ["row"] (spNamesIn K) g gd) (M_Sharing : MakeX P w K mg base k C CT g4 gd4) :
    FnOk P w K mg base (CXE P w) (k + 2) f fd ["text"] (spRead C CN CT) := by
  refine F.okX sc_read (fun vs H Q E h => ?_) (fun cdv A outer s H vs Q E hr h => ?_)
  . obtain ⟨wss, rfl, _⟩ := h
    rfl
  obtain ⟨wss, rfl, T, q, qn, qt⟩ := h
  have nd := sc_read.nd
  have W := T.w
  have tl := T.len
  have l6 := T.few
  have hs := line_200
  have hpass := pass_flyG (P := P) (w := w) (K := K) (mg := mg) (base := base) (N := ["text", "rows", "line", "row", "names"]) (qual := "read_sharing") (scope := defScope s_read_sharing) (f := f) (cd := cdv) (A := A) (outer := outer) (s0 := s) (CT := CT) (H0 := H) (E := E) (G := fun fs => ∃ n, fs = TwF n /\ fbad 0 wss = none /\ dueG [] (wss.map rowOf) = some n) (fun a H' fs ⟨n, e1, e2, e3⟩ na sm fl => qt n e2 e3 a H' na sm (e1 ▸ fl))
  refine ⟨_, (pss_cons (ps_set (i := 1) nd rfl (Or.inl rfl) (pe_lst pa_nil)) (pss_cons (ps_for PassesOwn.leaving rfl (pi_enum1 rfl B.enumerate_ (pa_cons (pe_bm (T := "str") (name := "split") (id := "str.split") PySem.F.plainAttrs_str PySem.F.slot_str_split PySem.F.type_str_split mt_split (pv 0) (pa_cons pe_str pa_nil)) pa_nil)) (pg_tup rfl (pgs_cons (pg_name (i := 2) nd rfl (Or.inl rfl)) (pgs_cons (pg_name (i := 3) nd rfl (Or.inl rfl)) pgs_nil))) (pss_cons (ps_set (i := 4) nd rfl (Or.inl rfl) (pe_call G_names_in.ok hr rfl G_names_in.at_ G_names_in.kp G_names_in.bn .nil pass0 (pa_cons (pv 3) pa_nil))) (pss_cons (ps_if (PW.pt (pw_or (pt_cmpR op_isN (pv 4) pe_non (nomark _)) (pw_or1 (pt_cmpR op_lt (pe_callB call_len_seq rfl B.len_ PySem.boot_len (pa_cons (pv 4) pa_nil)) pe_int (nomark _))))) (pss_one (ps_raise xn.xc rfl (pe_makeX xn.xc xn.hin xn.hfn xn.ok hr rfl xn.at_ xn.bn (pa_cons (pv 2) pa_nil)) raise_new)) pss_nil) (pss_one (ps_expr (pe_bm PySem.F.plainAttrs_list PySem.F.slot_list_append PySem.F.type_list_append mt_append (pv 1) (pa_cons (pe_tup (pa_cons (pe_ix ix_list (pv 4) pe_int (fun _ _ => rfl)) (pa_cons (pe_callTy call_tuple_of rfl B.tuple_ (by decide +kernel) (pa_cons (pe_slice sl_list (pv 4) (po_some pe_int) po_none) pa_nil)) pa_nil))) pa_nil))))))) (pss_one (ps_ret (pe_make M_Sharing.mak M_Sharing.ok hr rfl M_Sharing.at_ M_Sharing.bn .nil hpass (pa_cons (pv 1) pa_nil)))))), ?_⟩
  refine ⟨tiny (show 0 <= 1000 by decide), fun q0 hq0 => ?_⟩
  refine ⟨_, rfl, rfl, _, _, rfl, rfl, rfl, lineM (by omega), by rw [split_text W, List.length_map]; exact lineM (by omega), fun l hl => ?_⟩
  rw [split_text W]
  have hl0 : H l = none := (sm_new hq0).free hl
  have nq : q0 ≠ l := fun z => by rw [<- z, upd_same] at hl; cases hl
  refine ⟨l, rfl, ⟨_, SqL.of upd_same⟩, for_enum1 (xs := (wss.map rowW).map V.str) (fun i σ H' => ∃ (v2 v3 v4 : Option V) (ts : List Addr), σ = [some (.str (textW wss)), some (.ref q0), v2, v3, v4] /\ H' q0 = some (.lst (ts.map V.ref)) /\ RowsT H' ts ((wss.take i).map rowOf) /\ H' l = some (.lst ((wss.map rowW).map V.str)) /\ fbad i (wss.drop i) = fbad 0 wss /\ Same H H') ?_ ?_ ?_ ?_⟩
  . exact ⟨none, none, none, [], rfl, by rw [upd_ne nq]; exact upd_same, .nil, upd_same, rfl, (sm_new hq0).trans (sm_new hl)⟩
  . rintro i σ H1 _ ⟨v2, v3, v4, ts, _, _, _, h1, _⟩
    exact SqL.of h1
  . rintro i y σ H0 T0 hy hT0 ⟨v2, v3, v4, ts, rfl, h1, h2, h3, hf, x0⟩
    rw [List.getElem?_map, List.getElem?_map] at hy
    obtain ⟨tx, htx, rfl⟩ := Option.map_eq_some_iff.mp hy
    obtain ⟨ws, hr', rfl⟩ := Option.map_eq_some_iff.mp htx
    have hm : ws ∈ wss := List.mem_of_getElem? hr'
    have hi : i < wss.length := (List.getElem?_eq_some_iff.mp hr').1
    have htl := Paired.length h2
    rw [List.length_map, List.length_take] at htl
    rw [fbad_step hr'] at hf
    have hrl := row_len W hm
    have x1 : Same H (upd H0 T0 (.tup [.int (i + 1), .str (rowW ws)])) := x0.trans (sm_new hT0)
    have xT : Same H0 (upd H0 T0 (.tup [.int (i + 1), .str (rowW ws)])) := sm_new hT0
    have hTt : upd H0 T0 (.tup [.int (i + 1), .str (rowW ws)]) T0 = some (.tup [.int (i + 1), .str (rowW ws)]) := upd_same
    generalize upd H0 T0 (.tup [.int (i + 1), .str (rowW ws)]) = H1 at x1 xT hTt ⊢
    refine ⟨T0, _, rfl, SqT.of hTt, rfl, _, _, rfl, _, _, rfl, rfl, ?_⟩
    refine ⟨_, rfl, ws, rfl, W.rne ws hm, W.nb ws hm, by omega, fun hno H2 x2 => ?_, fun hall l4 H2 hl4 x2 h4 => ?_⟩
    . have hb : bdW ws = true := by unfold bdW; rw [hno]; rfl
      rw [if_pos hb] at hf
      refine ⟨_, rfl, rfl, true, congrArg V.bl (decide_eq_true rfl), iteT ?_⟩
      exact ⟨_, rfl, by simp, raisedN (x1.trans x2) (qn i hf.symm)⟩
    refine ⟨_, rfl, rfl, false, congrArg V.bl (decide_eq_false fun z => nomatch z), iteF ?_⟩
    refine ⟨_, rfl, l4, _, rfl, .inl (SqL.of h4), _, _, rfl, rfl, _, rfl, ?_⟩
    rw [List.length_map]
    by_cases h2l : ws.length < 2
    . have hb : bdW ws = true := by unfold bdW; rw [decide_eq_true h2l, Bool.or_true]
      rw [if_pos hb] at hf
      rw [decide_eq_true (show ((ws.length : Nat) : Int) < 2 by omega)]
      refine iteT ?_
      exact ⟨_, rfl, by simp, raisedN (x1.trans x2) (qn i hf.symm)⟩
    have hb : bdW ws = false := by unfold bdW; rw [hall, decide_eq_false h2l]; rfl
    rw [if_neg (by rw [hb]; decide)] at hf
    rw [decide_eq_false (show ¬ ((ws.length : Nat) : Int) < 2 by omega)]
    refine iteF ?_
    have h1' := x2 _ _ (xT _ _ h1)
    obtain ⟨a0, r0, rfl⟩ : ∃ a r, ws = a :: r := List.exists_cons_of_ne_nil (W.rne ws hm)
    refine ⟨_, rfl, .inl ⟨rfl, _, SqL.of h1'⟩, ?_⟩
    refine ⟨_, rfl, l4, _, _, _, rfl, rfl, SqL.of h4, atI_nat (j := 0) (v := V.str a0) rfl, ?_⟩
    refine ⟨_, rfl, 1, rfl, l4, _, rfl, SqL.of h4, fun p hp => ⟨p, _, rfl, .inl ⟨SqL.of upd_same, fun t ht => ?_⟩⟩⟩
    rw [List.map_cons, cut_tail] at ht ⊢
    have x3 : Same H2 (upd (upd H2 p (.lst (r0.map V.str))) t (.tup (r0.map V.str))) := (sm_new hp).trans (sm_new ht)
    have h5 : upd (upd H2 p (.lst (r0.map V.str))) t (.tup (r0.map V.str)) t = some (.tup (r0.map V.str)) := upd_same
    generalize upd (upd H2 p (.lst (r0.map V.str))) t (.tup (r0.map V.str)) = H3 at x3 h5 ⊢
    refine ⟨Nat.le_trans (show 2 <= 1000 by decide) hs, fun T2 hT2 => ?_⟩
    have x4 : Same H3 (upd H3 T2 (.tup [.str a0, .ref t])) := sm_new hT2
    have h6 : upd H3 T2 (.tup [.str a0, .ref t]) T2 = some (.tup [.str a0, .ref t]) := upd_same
    generalize upd H3 T2 (.tup [.str a0, .ref t]) = H4 at x4 h6 ⊢
    have x04 : Same H0 H4 := xT.trans (x2.trans (x3.trans x4))
    have h7 := x04 _ _ h1
    refine ⟨q0, _, _, rfl, rfl, h7, Nat.lt_of_lt_of_le (by rw [List.length_map]; omega) hs, _, _, _, ts ++ [T2], rfl, by rw [upd_same, List.map_append]; rfl, ?_, by rw [upd_ne (Ne.symm nq)]; exact x04 _ _ h3, hf, (x0.trans x04).at hq0⟩
    rw [take_snoc hr', List.map_append]
    exact RowsT.keep (TK.lst h7) (RowsT.snoc (RowsT.keep (Same.tk x04) h2) (r := (a0, r0)) ⟨t, h6, x4 _ _ h5⟩)
  . rintro σ H1 ⟨v2, v3, v4, ts, rfl, h1, h2, h3, hf, x0⟩
    rw [List.length_map, List.length_map, List.take_length] at h2
    rw [List.length_map, List.length_map, List.drop_length] at hf
    have hfn : fbad 0 wss = none := hf.symm
    refine ⟨_, rfl, fun x dx hx hdx ndx => ?_⟩
    have y8 : Same H1 (upd (upd H1 dx (.own x)) x (.ins C dx [])) := (sm_new hdx).trans (sm_new (by rw [upd_ne (Ne.symm ndx)]; exact hx))
    have h8 : upd (upd H1 dx (.own x)) x (.ins C dx []) x = some (.ins C dx []) := upd_same
    generalize upd (upd H1 dx (.own x)) x (.ins C dx []) = H8 at y8 h8 ⊢
    refine ⟨x, q0, dx, _, rfl, h8, ⟨ts, y8 _ _ h1, RowsT.keep (Same.tk y8) h2⟩, small_of T hfn, fun hdue H9 hSh x9 => ⟨rfl, ?_⟩, fun n hn a H' na sm fl => ⟨a, rfl, (x0.trans y8).free na, (x0.trans y8).trans sm, _, fl, n, rfl, hfn, hn⟩⟩
    exact q hfn hdue x H9 (x0.free hx) (x0.trans fun b o e => x9 b o (ne_of_none e hx) (y8 _ _ e)) hSh
end
abbrev s_law_name : Stmt := top 34
abbrev s_law_twice : Stmt := top 35
abbrev s_law_due : Stmt := top 36
abbrev WsT (H : Hp) : List Addr -> List (List Str) -> Prop := Paired fun l ws => H l = some (.lst (ws.map V.str))
theorem WsT.same {H H' : Hp} (x : Same H H') : ∀ {ls : List Addr} {wss : List (List Str)}, WsT H ls wss -> WsT H' ls wss
  | _, _, .nil => .nil
  | _, _, .cons a b => .cons (x _ _ a) (WsT.same x b)
theorem WsT.get {H : Hp} : ∀ {ls : List Addr} {wss : List (List Str)} {i : Nat} {l : Addr}, WsT H ls wss -> ls[i]? = some l -> ∃ ws, wss[i]? = some ws /\ H l = some (.lst (ws.map V.str))
  | _, _, _, _, .nil, h => by simp at h
  | _, _, 0, _, .cons a b, h => by
    have e := Option.some.inj h
    exact ⟨_, rfl, e ▸ a⟩
  | _, _, i + 1, _, .cons a b, h => WsT.get (i := i) b h
theorem WsT.snoc {H : Hp} : ∀ {ls : List Addr} {wss : List (List Str)} {l : Addr} {ws : List Str}, WsT H ls wss -> H l = some (.lst (ws.map V.str)) -> WsT H (ls ++ [l]) (wss ++ [ws])
  | _, _, _, _, .nil, h => .cons h .nil
  | _, _, _, _, .cons a b, h => .cons a (WsT.snoc b h)
def WsAt (H : Hp) (L : Addr) (wss : List (List Str)) : Prop := ∃ ls : List Addr, H L = some (.lst (ls.map V.ref)) /\ WsT H ls wss
theorem WsAt.same {H H' : Hp} {L : Addr} {wss : List (List Str)} (h : WsAt H L wss) (x : Same H H') : WsAt H' L wss := let ⟨ls, h1, h2⟩ := h; ⟨ls, x _ _ h1, h2.same x⟩
section
variable {P : Program} {w : World} {K : W.Frag} {mg : Str -> Option Value} {base : Heap} {f g g2 g3 g4 : Addr} {fd gd gd2 gd3 gd4 : FuncData} {k j : Nat} {C CN CT M ft fn : Addr} {ftd fnd : FuncData}
theorem splits {D L : Addr} {Q : VK} {H1 : Hp} {wss : List (List Str)} (W : WOk wss) (hl : (textW wss).length <= 90000) (hD : H1 D = none) (hL : H1 L = some (.lst ((wss.map rowW).map V.str))) (hdn : ∀ H', Same H1 H' -> WsAt H' D wss -> Q (.ref D) H') :
    CompLoop (Itl K L) D (gName 0) tYes (tBM K "str" rSplit (tVar 0) (tCons (tC (.str " ")) tNil)) Q [none] H1 := by
  have hfew : wss.length <= 90001 := by
    have a := feeds_text W
    have b : feeds (textW wss) <= (textW wss).length := List.count_le_length
    omega
  refine comp_list (xs := (wss.map rowW).map V.str) (fun i ys σ H => ∃ (v : Option V) (ls : List Addr), ys = ls.map V.ref /\ ls.length = i /\ WsT H ls (wss.take i) /\ D ∉ ls /\ σ = [v] /\ Same H1 H) ?_ (by rw [List.length_map, List.length_map]; omega) ?_ ?_ ?_ ?_
  . exact ⟨none, [], rfl, rfl, .nil, (fun z => nomatch z), rfl, sm_new hD⟩
  . rintro i ys σ H ⟨_, ls, rfl, rfl, _⟩
    rw [List.length_map]; exact Nat.le_refl _
  . rintro i ys σ H ⟨_, _, _, _, _, _, _, x⟩
    exact SqL.of (x _ _ hL)
  . rintro i y ys σ H hy hl2 ⟨v, ls, rfl, hlen, hT, hn, rfl, x⟩
    rw [List.getElem?_map, List.getElem?_map] at hy
    obtain ⟨tx, htx, rfl⟩ := Option.map_eq_some_iff.mp hy
    obtain ⟨ws, hw, rfl⟩ := Option.map_eq_some_iff.mp htx
    have hm : ws ∈ wss := List.mem_of_getElem? hw
    have hrl := row_len W hm
    have ht := wd_tot (W.rne ws hm)
    have htl := tot_len ws
    refine ⟨_, rfl, rfl, _, _, rfl, rfl, rfl, lineM (by omega), by rw [split_row (W.rne ws hm) (W.nb ws hm)]; exact lineM (by omega), fun l hl3 => ?_⟩
    rw [split_row (W.rne ws hm) (W.nb ws hm)]
    have x2 : Same H (upd H l (.lst (ws.map V.str))) := sm_new hl3
    have k2 : upd H l (.lst (ws.map V.str)) l = some (.lst (ws.map V.str)) := upd_same
    have nl : l ≠ D := Ne.symm (ne_of_none hl2 hl3)
    generalize upd H l (.lst (ws.map V.str)) = H2 at x2 k2 ⊢
    refine ⟨x2 _ _ hl2, _, ls ++ [l], by rw [List.map_append]; rfl, by rw [List.length_append, hlen]; rfl, ?_, ?_, rfl, (x.trans x2).at hD⟩
    . rw [take_snoc hw]
      have h3 : WsT H2 (ls ++ [l]) (wss.take i ++ [ws]) := (hT.same x2).snoc k2
      have h4 : D ∉ ls ++ [l] := fun z => (List.mem_append.mp z).elim hn fun z => nl (List.mem_singleton.mp z).symm
      generalize ls ++ [l] = us at h3 h4
      generalize wss.take i ++ [ws] = vs at h3
      clear hT hn hlen
      induction h3 with
      | nil => exact .nil
      | cons a b ih => exact .cons (by rw [upd_ne (fun z => h4 (by rw [<- z]; exact List.mem_cons_self))]; exact a) (ih fun z => h4 (List.mem_cons_of_mem _ z))
    . exact fun z => (List.mem_append.mp z).elim hn fun z => nl (List.mem_singleton.mp z).symm
  . rintro ys σ H hl2 ⟨_, ls, rfl, hlen, hT, _, _, x⟩
    rw [List.length_map, List.length_map, List.take_length] at hT
    exact hdn H x ⟨ls, hl2, hT⟩
def spName2 : Sp := fun vs H Q _ => ∃ y, vs = [.str y] /\ y.length <= 90000 /\ ∀ H', Same H H' -> Q (.bl (nmB y)) H'
theorem sc_name2 : FnScope ["_law_word", "_law_letters"] ["_law_word"] (defScope s_law_name) := ⟨rfl, rfl, rfl, by decide +kernel, rfl, by decide +kernel, by decide +kernel⟩
theorem signs_in2 {D : Addr} {Q : VK} {H1 : Hp} {z y : Str} (h8 : y.length <= 100000) (hD : H1 D = none) (hdn : ∀ H', Same H1 H' -> H' D = some (.lst ((y.cps.toList.map fun c => decide (c ∈ z.cps.toList)).map V.bl)) -> Q (.ref D) H') :
    CompLoop (Its y) D (gName 0) tYes (tOp (fun x y H Q => ∃ i j, x = .str i /\ y = .str j /\ Q (.bl (!(Builtin.Str.occurrences j i 0 j.length 1).isEmpty)) H) (tVar 0) (tVar 1)) Q [none, some (.str z)] H1 := by
  refine comp_str (fun i ys σ H => ∃ v : Option V, ys = ((y.cps.toList.take i).map fun c => decide (c ∈ z.cps.toList)).map V.bl /\ σ = [v, some (.str z)] /\ Same H1 H) ?_ ?_ ?_ ?_ ?_
  . exact ⟨none, rfl, rfl, sm_new hD⟩
  . show y.length <= 100000
    omega
  . rintro i ys σ H ⟨v, rfl, _⟩
    rw [List.length_map, List.length_map, List.length_take]; exact Nat.min_le_left _ _
  . rintro i c ys σ H hc hl2 ⟨v, rfl, rfl, x⟩
    have hm : y.cps.toList[i]? = some c := by rw [Array.getElem?_toList]; exact hc
    refine ⟨_, rfl, _, rfl, _, _, rfl, rfl, hl2, _, ?_, rfl, x.at hD⟩
    rw [StrLaws.found_one, take_snoc hm, List.map_append, List.map_append]; rfl
  . rintro ys σ H hl2 ⟨v, rfl, _, x⟩
    have e : y.cps.toList.take y.cps.size = y.cps.toList := List.take_of_length_le (by rw [Array.length_toList]; exact Nat.le_refl _)
    rw [e] at hl2
    exact hdn H x hl2
theorem ok_name2 (F : Fun K "_law_name" "_law_name" s_law_name f fd) (B : Bt mg) : FnOk P w K mg base CX0 (k + 1) f fd ["_law_word"] spName2 := by
  refine F.ok sc_name2 (fun vs H Q E h => ?_) (fun cdv A outer s H vs Q E hr h => ?_)
  . obtain ⟨y, rfl, _⟩ := h
    rfl
  obtain ⟨y, rfl, hy, q⟩ := h
  have nd := sc_name2.nd
  have q0 := q H (Same.refl _)
  refine ⟨_, (pss_cons (ps_set (i := 1) nd rfl (Or.inr rfl) pe_str) (pss_one (ps_ret (pe_and (pe_chain op_le op_le pe_int (pe_callB call_len_str rfl B.len_ PySem.boot_len (pa_cons (pv 0) pa_nil)) pe_int) (pe_one (pe_callB (call_allB rfl) rfl B.all_ (by decide +kernel) (pa_cons (pe_comp (g := (gName 0)) (tc := tYes) (te := (tOp (fun x y H Q => ∃ i j, x = .str i /\ y = .str j /\ Q (.bl (!(Builtin.Str.occurrences j i 0 j.length 1).isEmpty)) H) (tVar 0) (tVar 1))) (own := ["_law_sign_here"]) (fr := ["_law_letters"]) (idx := [1]) rfl (by show CompScope _ _ _ (defScope s_law_name); exact ⟨rfl, by decide +kernel, by decide +kernel, by decide +kernel, by decide +kernel, by decide +kernel, by decide +kernel⟩) (pi_str (pv 0)) (fun _ _ _ _ _ => (pg_name (i := 0) (by show List.Nodup (["_law_sign_here", "_law_letters"] : List Str); decide +kernel) rfl (Or.inl rfl) (Or.inr rfl))) (fun _ _ _ _ _ => pts_nil) (fun _ _ _ _ _ => (pe_cmpR op_in_str (pv 0) (pv 1) rfl)) rfl (hat_of rfl)) pa_nil))))))), ?_⟩
  refine ⟨_, rfl, _, rfl, lineM (by omega), _, _, rfl, rfl, _, rfl, ?_⟩
  by_cases h1 : 1 <= y.length
  . rw [decide_eq_true (show (1 : Int) <= (y.length : Nat) by omega)]
    refine iteT ?_
    refine ⟨_, _, rfl, rfl, _, rfl, ?_⟩
    by_cases h8 : y.length <= 8
    . rw [decide_eq_true (show ((y.length : Nat) : Int) <= 8 by omega)]
      refine iteT ?_
      refine ⟨_, rfl, y, rfl, fun D hD => signs_in2 (z := abc) (by omega) hD fun H2 x2 hD2 => ⟨D, _, rfl, SqL.of hD2, ?_⟩⟩
      rw [all_of_map]
      have := q H2 x2
      unfold nmB at this
      rw [decide_eq_true h1, decide_eq_true h8] at this
      exact this
    . rw [decide_eq_false (show ¬ ((y.length : Nat) : Int) <= 8 by omega)]
      refine iteF ?_
      unfold nmB at q0
      rw [decide_eq_false h8, Bool.and_false, Bool.false_and] at q0
      exact q0
  . rw [decide_eq_false (show ¬ (1 : Int) <= (y.length : Nat) by omega)]
    refine iteF ?_
    refine ⟨false, rfl, iteF ?_⟩
    unfold nmB at q0
    rw [decide_eq_false h1, Bool.false_and, Bool.false_and] at q0
    exact q0
def dueV : Option Str -> V
  | some n => .str n
  | none => .non
def spTwi : Sp := fun vs H Q _ => ∃ (L : Addr) (wss : List (List Str)), vs = [.ref L] /\ WsAt H L wss /\ (∀ ws ∈ wss, 1 <= ws.length /\ ws.length <= 100) /\ wss.length <= 100 /\ ∀ H', Same H H' -> Q (dueV (dueG [] (wss.map rowOf))) H'
theorem sc_twi : FnScope ["_law_rows", "_law_at", "_law_words", "_law_spot"] ["_law_rows"] (defScope s_law_twice) := ⟨rfl, rfl, rfl, by decide +kernel, rfl, by decide +kernel, by decide +kernel⟩
theorem cut_to (xs : List V) (k : Nat) : cutV xs none (some (k : Int)) = xs.take k := by
  unfold cutV
  rw [HT.sIx_none, HT.sIx_nat, List.drop_zero, Nat.sub_zero]
  rw [List.take_eq_take_iff]; omega
theorem cut_in (x : V) (xs : List V) (j : Nat) (h : j <= xs.length) : cutV (x :: xs) (some 1) (some (1 + (j : Int))) = xs.take j := by
  unfold cutV
  rw [show (1 : Int) + (j : Int) = ((j + 1 : Nat) : Int) by omega, show (some (1 : Int)) = some ((1 : Nat) : Int) from rfl, HT.sIx_nat, HT.sIx_nat, List.length_cons, Nat.min_eq_left (by omega), Nat.min_eq_left (by omega)]
  rfl
theorem heads {D p : Addr} {Q : VK} {H1 : Hp} {ls : List Addr} {wss : List (List Str)} (hT : WsT H1 ls wss) (h1 : ∀ ws ∈ wss, 1 <= ws.length) (h100 : wss.length <= 100) (hD : H1 D = none) (hp : H1 p = some (.lst (ls.map V.ref))) (hdn : ∀ H', Same H1 H' -> H' D = some (.lst ((wss.map fun ws => (rowOf ws).1).map V.str)) -> Q (.ref D) H') :
    CompLoop (Itl K p) D (gName 0) tYes (tOp (rIxL K) (tVar 0) (tC (.int 0))) Q [none] H1 := by
  have hlen := Paired.length hT
  refine comp_list (xs := ls.map V.ref) (fun i ys σ H => ∃ v : Option V, ys = ((wss.take i).map fun ws => (rowOf ws).1).map V.str /\ σ = [v] /\ Same H1 H) ?_ (by rw [List.length_map]; omega) ?_ ?_ ?_ ?_
  . exact ⟨none, rfl, rfl, sm_new hD⟩
  . rintro i ys σ H ⟨_, rfl, _⟩
    rw [List.length_map, List.length_map, List.length_take]; exact Nat.min_le_left _ _
  . rintro i ys σ H ⟨_, _, _, x⟩
    exact SqL.of (x _ _ hp)
  . rintro i y ys σ H hy hl2 ⟨v, rfl, rfl, x⟩
    rw [List.getElem?_map] at hy
    obtain ⟨l, hl, rfl⟩ := Option.map_eq_some_iff.mp hy
    obtain ⟨ws, hw, kl⟩ := hT.get hl
    have e := head_tail (h1 ws (List.mem_of_getElem? hw))
    refine ⟨_, rfl, l, _, 0, .str (ws.headD ""), rfl, rfl, SqL.of (x _ _ kl), ?_, hl2, _, ?_, rfl, x.at hD⟩
    . rw [e]; exact atI_nat (j := 0) rfl
    . rw [take_snoc hw, List.map_append, List.map_append]; rfl
  . rintro ys σ H hl2 ⟨_, rfl, _, x⟩
    rw [List.length_map, hlen, List.take_length] at hl2
    exact hdn H x hl2
theorem WsT.take {H : Hp} : ∀ {ls : List Addr} {wss : List (List Str)} (i : Nat), WsT H ls wss -> WsT H (ls.take i) (wss.take i)
  | _, _, 0, _ => by rw [List.take_zero, List.take_zero]; exact .nil
  | _, _, i + 1, .nil => by rw [List.take_nil, List.take_nil]; exact .nil
  | _, _, i + 1, .cons a b => .cons a (WsT.take i b)
theorem ok_twi (F : Fun K "_law_twice" "_law_twice" s_law_twice f fd) (B : Bt mg) : FnOk P w K mg base CX0 (k + 1) f fd ["_law_rows"] spTwi := by
  refine F.ok sc_twi (fun vs H Q E h => ?_) (fun cdv A outer s H vs Q E hr h => ?_)
  . obtain ⟨L, wss, rfl, _⟩ := h
    rfl
  obtain ⟨L, wss, rfl, ⟨ls, hL, hT⟩, h1, h100, q⟩ := h
  have nd := sc_twi.nd
  have hlen := Paired.length hT
  have hs := line_200
  refine ⟨_, (pss_cons (ps_for PassesOwn.never rfl (pi_enum rfl B.enumerate_ (pa_cons (pv 0) pa_nil)) (pg_tup rfl (pgs_cons (pg_name (i := 1) nd rfl (Or.inl rfl)) (pgs_cons (pg_name (i := 2) nd rfl (Or.inl rfl)) pgs_nil))) (pss_cons (ps_if (pt_cmpR op_in_seq (pe_ix ix_list (pv 2) pe_int (fun _ _ => rfl)) (pe_comp (g := (gName 0)) (tc := tYes) (te := (tOp (rIxL K) (tVar 0) (tC (.int 0)))) (own := ["_law_one"]) (fr := ([] : List Str)) (idx := []) rfl (by show CompScope _ _ _ (defScope s_law_twice); exact ⟨rfl, by decide +kernel, by decide +kernel, by decide +kernel, by decide +kernel, by decide +kernel, by decide +kernel⟩) (pi_list (pe_slice sl_list (pv 0) po_none (po_some (pv 1)))) (fun _ _ _ _ _ => (pg_name (i := 0) (by show List.Nodup (["_law_one"] : List Str); decide +kernel) rfl (Or.inl rfl) (Or.inr rfl))) (fun _ _ _ _ _ => pts_nil) (fun _ _ _ _ _ => (pe_ix ix_list (pv 0) pe_int (fun _ _ => rfl))) rfl (hat_of rfl)) rfl) (pss_one (ps_ret (pe_ix ix_list (pv 2) pe_int (fun _ _ => rfl)))) pss_nil) (pss_one (ps_for PassesOwn.never rfl (pi_range2 rfl B.range_ (pa_cons pe_int (pa_cons (pe_callB call_len_seq rfl B.len_ PySem.boot_len (pa_cons (pv 2) pa_nil)) pa_nil))) (pg_name (i := 3) nd rfl (Or.inl rfl)) (pss_one (ps_if (pt_cmpR op_in_seq (pe_ix ix_list (pv 2) (pv 3) (fun _ _ => rfl)) (pe_slice sl_list (pv 2) (po_some pe_int) (po_some (pv 3))) rfl) (pss_one (ps_ret (pe_ix ix_list (pv 2) (pv 3) (fun _ _ => rfl)))) pss_nil)))))) (pss_one (ps_ret pe_non))), ?_⟩
  refine ⟨_, rfl, L, rfl, ⟨_, SqL.of hL⟩, for_enum (xs := ls.map V.ref) (fun i σ H' => ∃ v1 v2 v3 : Option V, σ = [some (.ref L), v1, v2, v3] /\ dueG (((wss.map rowOf).map (·.1)).take i) ((wss.map rowOf).drop i) = dueG [] (wss.map rowOf) /\ Same H H') ?_ ?_ ?_ ?_⟩
  . exact ⟨_, _, _, rfl, rfl, Same.refl _⟩
  . rintro i σ H1 _ ⟨_, _, _, _, _, x1⟩
    exact SqL.of (x1 _ _ hL)
  . rintro i y σ H0 T hy hT0 ⟨v1, v2, v3, rfl, hd, x0⟩
    rw [List.getElem?_map] at hy
    obtain ⟨l, hl, rfl⟩ := Option.map_eq_some_iff.mp hy
    obtain ⟨ws, hw, kl⟩ := hT.get hl
    have hm : ws ∈ wss := List.mem_of_getElem? hw
    have hr : (wss.map rowOf)[i]? = some (rowOf ws) := by rw [List.getElem?_map, hw]; rfl
    rw [due_step hr] at hd
    obtain ⟨w1, w100⟩ := h1 ws hm
    have e := head_tail w1
    have x1 : Same H (upd H0 T (.tup [.int i, .ref l])) := x0.trans (sm_new hT0)
    refine ⟨T, _, rfl, SqT.of upd_same, rfl, _, _, rfl, _, _, rfl, rfl, ?_⟩
    generalize upd H0 T (.tup [.int i, .ref l]) = H1 at x1 ⊢
    have hat0 : atI (ws.map V.str) 0 = some (.str (rowOf ws).1) := by rw [e]; exact atI_nat (j := 0) rfl
    refine ⟨_, rfl, l, _, 0, _, rfl, rfl, SqL.of (x1 _ _ kl), hat0, _, rfl, _, rfl, _, rfl, L, _, rfl, SqL.of (x1 _ _ hL), fun p hp => ?_⟩
    rw [cut_to, show (ls.map V.ref).take i = (ls.take i).map V.ref from List.map_take.symm]
    have x2 : Same H (upd H1 p (.lst ((ls.take i).map V.ref))) := x1.trans (sm_new hp)
    have k2 : upd H1 p (.lst ((ls.take i).map V.ref)) p = some (.lst ((ls.take i).map V.ref)) := upd_same
    generalize upd H1 p (.lst ((ls.take i).map V.ref)) = H2 at x2 k2 ⊢
    refine ⟨p, rfl, ⟨_, SqL.of k2⟩, fun D hD => heads (K := K) ((hT.take i).same x2) (fun c hc => (h1 c (List.mem_of_mem_take hc)).1) (by rw [List.length_take]; omega) hD k2 fun H3 x3 hD3 => ?_⟩
    have y3 := x2.trans x3
    refine ⟨D, _, rfl, .inl (SqL.of hD3), rfl, flat_strs _, _, rfl, ?_⟩
    have hin : (if false = true then !inV (.str (rowOf ws).1) (((wss.take i).map fun ws => (rowOf ws).1).map V.str) else inV (.str (rowOf ws).1) (((wss.take i).map fun ws => (rowOf ws).1).map V.str)) = decide ((rowOf ws).1 ∈ ((wss.map rowOf).map (·.1)).take i) := by
      rw [if_neg (by decide), Bool.eq_iff_iff, inV_mem, decide_eq_true_iff, List.map_map, <- List.map_take]
      rfl
    rw [hin]
    by_cases hn : (rowOf ws).1 ∈ ((wss.map rowOf).map (·.1)).take i
    . rw [decide_eq_true hn]
      rw [if_pos hn] at hd
      refine iteT ?_
      refine ⟨_, rfl, l, _, 0, _, rfl, rfl, SqL.of (y3 _ _ kl), hat0, ?_⟩
      have := q H3 y3
      rw [<- hd] at this
      exact this
    rw [decide_eq_false hn]
    rw [if_neg hn] at hd
    refine iteF ?_
    have hwl : ws.length = (rowOf ws).2.length + 1 := by show _ = ws.tail.length + 1; rw [List.length_tail]; omega
    refine ⟨_, rfl, l, _, rfl, .inl (SqL.of (y3 _ _ kl)), 1, _, rfl, ⟨by decide, by decide, by rw [List.length_map]; omega, by rw [List.length_map]; omega⟩, for_range (fun jj σ H' => ∃ v3 : Option V, σ = [some (.ref L), some (.int i), some (.ref l), v3] /\ dupG ((rowOf ws).2.take jj) ((rowOf ws).2.drop jj) = dupG [] (rowOf ws).2 /\ Same H H') ?_ ?_ ?_⟩
    . exact ⟨_, rfl, rfl, y3⟩
    . rintro jj σ H4 hj ⟨v3', rfl, hdu, y4⟩
      rw [List.length_map] at hj
      have hj' : jj < (rowOf ws).2.length := by omega
      have hz : (rowOf ws).2[jj]? = some (rowOf ws).2[jj] := List.getElem?_eq_getElem hj'
      generalize (rowOf ws).2[jj] = z at hz
      rw [dup_step hz] at hdu
      have hatj : atI (ws.map V.str) (1 + (jj : Int)) = some (.str z) := by
        rw [e, show (1 : Int) + (jj : Int) = ((jj + 1 : Nat) : Int) by omega]
        exact atI_nat (j := jj + 1) (by rw [List.getElem?_map]; show Option.map V.str (ws.tail[jj]?) = _; rw [show ws.tail[jj]? = some z from hz]; rfl)
      refine ⟨_, rfl, _, rfl, l, _, _, _, rfl, rfl, SqL.of (y4 _ _ kl), hatj, _, rfl, 1, rfl, _, rfl, _, rfl, l, _, rfl, SqL.of (y4 _ _ kl), fun p5 hp5 => ?_⟩
      rw [show cutV (ws.map V.str) (some 1) (some (1 + (jj : Int))) = ((rowOf ws).2.take jj).map V.str by
        rw [e, List.map_cons, cut_in _ _ _ (by rw [List.length_map]; exact Nat.le_of_lt hj'), <- List.map_take]; rfl]
      have y5 : Same H (upd H4 p5 (.lst (((rowOf ws).2.take jj).map V.str))) := y4.trans (sm_new hp5)
      have k5 : upd H4 p5 (.lst (((rowOf ws).2.take jj).map V.str)) p5 = some (.lst (((rowOf ws).2.take jj).map V.str)) := upd_same
      generalize upd H4 p5 (.lst (((rowOf ws).2.take jj).map V.str)) = H5 at y5 k5 ⊢
      refine ⟨p5, _, rfl, .inl (SqL.of k5), rfl, flat_strs _, _, rfl, ?_⟩
      have hin2 : (if false = true then !inV (.str z) (((rowOf ws).2.take jj).map V.str) else inV (.str z) (((rowOf ws).2.take jj).map V.str)) = decide (z ∈ (rowOf ws).2.take jj) := by
        rw [if_neg (by decide), Bool.eq_iff_iff, inV_mem, decide_eq_true_iff]
      rw [hin2]
      by_cases hzn : z ∈ (rowOf ws).2.take jj
      . rw [decide_eq_true hzn]
        rw [if_pos hzn] at hdu
        refine iteT ?_
        refine ⟨_, rfl, _, rfl, l, _, _, _, rfl, rfl, SqL.of (y5 _ _ kl), hatj, ?_⟩
        rw [<- hdu] at hd
        have := q H5 y5
        rw [<- hd] at this
        exact this
      . rw [decide_eq_false hzn]
        rw [if_neg hzn] at hdu
        refine iteF ?_
        exact ⟨_, rfl, hdu, y5⟩
    . rintro σ H4 ⟨v3', rfl, hdu, y4⟩
      refine ⟨_, _, _, rfl, ?_, y4⟩
      rw [List.length_map, show ((((ws.length : Nat) : Int) - 1).toNat) = (rowOf ws).2.length by omega, List.drop_length] at hdu
      rw [<- hdu] at hd
      exact hd
  . rintro σ H1 ⟨v1, v2, v3, rfl, hd, x1⟩
    rw [List.length_map, hlen, show (wss.map rowOf).drop wss.length = [] from List.drop_eq_nil_of_le (by rw [List.length_map]; exact Nat.le_refl _)] at hd
    have := q H1 x1
    rw [<- hd] at this
    exact this
end
def TxF (wss : List (List Str)) : Prop := ∃ ds : List Str, ds.length <= 4 /\ ∀ ws ∈ wss, ∀ d ∈ ws.tail, d ∈ ds
theorem nodup_len : ∀ {a b : List Str}, a.Nodup -> (∀ x ∈ a, x ∈ b) -> a.length <= b.length
  | [], _, _, _ => Nat.zero_le _
  | x :: a, b, hn, h => by
    obtain ⟨h1, h2⟩ := List.nodup_cons.mp hn
    have hx := h x List.mem_cons_self
    have ih := nodup_len (b := b.erase x) h2 fun y hy => (List.mem_erase_of_ne (a := y) (b := x) (by intro z; rw [z] at hy; exact h1 hy)).mpr (h y (List.mem_cons_of_mem _ hy))
    have l := List.length_erase_of_mem hx
    have p := List.length_pos_of_mem hx
    rw [List.length_cons]
    omega
theorem good_of {wss : List (List Str)} (T : TxOk wss) (F : TxF wss) (h1 : fbad 0 wss = none) (h2 : dueG [] (wss.map rowOf) = none) : Good (wss.map rowOf) := by
  have g := (small_of T h1).good h2
  obtain ⟨ds, hd, hin⟩ := F
  have all : ∀ ws ∈ wss, ∀ y ∈ ws, Nm y := fun ws hw y hy => nm_iff.mp (List.all_eq_true.mp (bdW_false (fbad_none h1 ws hw)).1 y hy)
  have hsub : ∀ r ∈ wss.map rowOf, ∀ d ∈ r.2, d ∈ ds := fun r hr d hd' => by
    obtain ⟨ws, hw, rfl⟩ := List.mem_map.mp hr
    exact hin ws hw d hd'
  refine ⟨g.ne, g.len, g.nd, fun r hr => ⟨(g.row r hr).1, Nat.le_trans (nodup_len (g.row r hr).2.2 (hsub r hr)) hd, (g.row r hr).2.2⟩, fun y hy => ?_, fun r hr y hy => ?_, ds, hd, hsub⟩
  . rw [List.map_map] at hy
    obtain ⟨ws, hw, rfl⟩ := List.mem_map.mp hy
    refine all ws hw _ ?_
    show ws.headD "" ∈ ws
    have e := head_tail (Nat.le_trans (by decide) (bdW_false (fbad_none h1 ws hw)).2)
    rw [e]; exact List.mem_cons_self
  . obtain ⟨ws, hw, rfl⟩ := List.mem_map.mp hr
    exact all ws hw y (List.mem_of_mem_tail hy)
def outL (wss : List (List Str)) (ps : List Row) : List V :=
  match fbad 0 wss with
  | some i => [.str "no text", .int ((i : Int) + 1), .bl true]
  | none => match dueG [] (wss.map rowOf) with
    | some n => [.str "twice", .str n, .bl true]
    | none => [.str "read", .str (textOf ps), .bl true]
theorem out_plain (wss : List (List Str)) (ps : List Row) : ∀ z ∈ outL wss ps, plainV z := by
  have three : ∀ (a b c : V), plainV a -> plainV b -> plainV c -> ∀ z ∈ [a, b, c], plainV z := fun a b c ha hb hc z hz => by
    rcases List.mem_cons.mp hz with e | hz
    . rw [e]; exact ha
    rcases List.mem_cons.mp hz with e | hz
    . rw [e]; exact hb
    . rw [List.mem_singleton.mp hz]; exact hc
  unfold outL
  split
  . exact three _ _ _ (.inl ⟨_, rfl⟩) (.inr (.inr ⟨_, rfl⟩)) (.inr (.inl ⟨_, rfl⟩))
  . split
    . exact three _ _ _ (.inl ⟨_, rfl⟩) (.inl ⟨_, rfl⟩) (.inr (.inl ⟨_, rfl⟩))
    . exact three _ _ _ (.inl ⟨_, rfl⟩) (.inl ⟨_, rfl⟩) (.inr (.inl ⟨_, rfl⟩))
section
variable {P : Program} {w : World} {K : W.Frag} {mg : Str -> Option Value} {base : Heap} {f g g2 g3 g4 : Addr} {fd gd gd2 gd3 gd4 : FuncData} {k j : Nat} {C CN CT M ft fn : Addr} {ftd fnd : FuncData}
theorem all_nm2 {D l : Addr} {Q : VK} {H1 : Hp} {ws : List Str} (hb : ∀ y ∈ ws, y.length <= 90000) (hl : ws.length <= 100000) (hD : H1 D = none) (hL : H1 l = some (.lst (ws.map V.str))) (hdn : ∀ H', Same H1 H' -> H' D = some (.lst ((ws.map nmB).map V.bl)) -> Q (.ref D) H') :
    CompLoop (Itl K l) D (gName 0) tYes (tCall spName2 [] E0 (tCons (tVar 0) tNil)) Q [none] H1 := by
  refine comp_list (xs := ws.map V.str) (fun i zs σ H => ∃ v : Option V, zs = ((ws.take i).map nmB).map V.bl /\ σ = [v] /\ Same H1 H) ?_ (by rw [List.length_map]; omega) ?_ ?_ ?_ ?_
  . exact ⟨none, rfl, rfl, sm_new hD⟩
  . rintro i zs σ H ⟨v, rfl, _⟩
    rw [List.length_map, List.length_map, List.length_take]; exact Nat.min_le_left _ _
  . rintro i zs σ H ⟨v, _, _, x⟩
    exact SqL.of (x _ _ hL)
  . rintro i y zs σ H hy hl2 ⟨v, rfl, rfl, x⟩
    rw [List.getElem?_map] at hy
    obtain ⟨z, hz, rfl⟩ := Option.map_eq_some_iff.mp hy
    refine ⟨_, rfl, z, rfl, hb z (List.mem_of_getElem? hz), fun H2 x2 => ⟨x2 _ _ hl2, _, ?_, rfl, (x.trans x2).at hD⟩⟩
    rw [take_snoc hz, List.map_append, List.map_append]; rfl
  . rintro zs σ H hl2 ⟨v, rfl, _, x⟩
    rw [List.length_map, List.take_length] at hl2
    exact hdn H x hl2
theorem cut_one (x : V) (xs : List V) : cutV (x :: xs) none (some 1) = [x] := by
  rw [show (some (1 : Int)) = some ((1 : Nat) : Int) from rfl, cut_to]; rfl
theorem sorts {D L : Addr} {Q : VK} {H1 : Hp} {ls : List Addr} {wss : List (List Str)} {ps : List Row} (hT : WsT H1 ls wss) (h1 : ∀ ws ∈ wss, 1 <= ws.length) (hG : Good (wss.map rowOf)) (hP : SameRows (wss.map rowOf) ps) (hD : H1 D = none) (hL : H1 L = some (.lst (ls.map V.ref))) (hdn : ∀ H', Same H1 H' -> H' D = some (.lst ((ps.map rowText).map V.str)) -> Q (.ref D) H') :
    CompLoop (Itl K L) D (gName 0) tYes (tBM K "str" (rJoin K) (tC (.str " ")) (tCons (tOp rCat (tSl (rSlL K) (tVar 0) tNoPart (tPart (tC (.int 1)))) (tCB (fun xs H Q => ∃ p zs, xs = [.ref p] /\ SqL K H p (zs.map V.str) /\ zs.length < 64 /\ ∀ l zs', H l = none -> zs'.Perm zs -> sortedS zs' = true -> Q (.ref l) (upd H l (.lst (zs'.map V.str)))) (tCons (tSl (rSlL K) (tVar 0) (tPart (tC (.int 1))) tNoPart) tNil))) tNil)) Q [none] H1 := by
  have hlen := Paired.length hT
  have l6 := hG.len
  have hpl := hP.length
  have hs := line_200
  rw [List.length_map] at l6 hpl
  refine comp_list (xs := ls.map V.ref) (fun i ys σ H => ∃ v : Option V, ys = ((ps.take i).map rowText).map V.str /\ σ = [v] /\ Same H1 H) ?_ (by rw [List.length_map]; omega) ?_ ?_ ?_ ?_
  . exact ⟨none, rfl, rfl, sm_new hD⟩
  . rintro i ys σ H ⟨_, rfl, _⟩
    rw [List.length_map, List.length_map, List.length_take]; exact Nat.min_le_left _ _
  . rintro i ys σ H ⟨_, _, _, x⟩
    exact SqL.of (x _ _ hL)
  . rintro i y ys σ H hy hl2 ⟨v, rfl, rfl, x⟩
    rw [List.getElem?_map] at hy
    obtain ⟨l, hl, rfl⟩ := Option.map_eq_some_iff.mp hy
    obtain ⟨ws, hw, kl⟩ := hT.get hl
    have hm : ws ∈ wss := List.mem_of_getElem? hw
    have hr : (wss.map rowOf)[i]? = some (rowOf ws) := by rw [List.getElem?_map, hw]; rfl
    have hrm : rowOf ws ∈ wss.map rowOf := List.mem_map_of_mem hm
    obtain ⟨p, hp, e1, e2, e3⟩ := hP.get hr
    have rn := row_names hG hrm
    have l4 := (hG.row _ hrm).2.1
    obtain ⟨a0, r0, rfl⟩ : ∃ a r, ws = a :: r := List.exists_cons_of_ne_nil (fun z => by have := h1 ws hm; rw [z] at this; cases this)
    have rn' : ∀ y ∈ a0 :: r0, Nm y := rn
    have l4' : r0.length <= 4 := l4
    have e2' : p.2.Perm r0 := e2
    have e1' : p.1 = a0 := e1
    refine ⟨rfl, _, rfl, 1, rfl, l, _, rfl, SqL.of (x _ _ kl), fun p1 hp1 => ?_⟩
    rw [List.map_cons, cut_one]
    have x2 : Same H (upd H p1 (.lst [V.str a0])) := sm_new hp1
    have k2 : upd H p1 (.lst [V.str a0]) p1 = some (.lst [V.str a0]) := upd_same
    generalize upd H p1 (.lst [V.str a0]) = H2 at x2 k2 ⊢
    refine ⟨_, rfl, 1, rfl, l, _, rfl, SqL.of (x2 _ _ (x _ _ kl)), fun p2 hp2 => ?_⟩
    rw [List.map_cons, cut_tail]
    have x3 : Same H2 (upd H2 p2 (.lst (r0.map V.str))) := sm_new hp2
    have k3 : upd H2 p2 (.lst (r0.map V.str)) p2 = some (.lst (r0.map V.str)) := upd_same
    generalize upd H2 p2 (.lst (r0.map V.str)) = H3 at x3 k3 ⊢
    refine ⟨p2, r0, rfl, SqL.of k3, by omega, fun l3 zs' hl3 hpm hso => ?_⟩
    have ez : zs' = p.2 := sorted_same (hpm.trans e2'.symm) hso e3
    subst ez
    have x4 : Same H3 (upd H3 l3 (.lst (p.2.map V.str))) := sm_new hl3
    have k4 : upd H3 l3 (.lst (p.2.map V.str)) l3 = some (.lst (p.2.map V.str)) := upd_same
    generalize upd H3 l3 (.lst (p.2.map V.str)) = H4 at x4 k4 ⊢
    have pl4 : p.2.length <= 4 := by rw [e2'.length_eq]; exact l4'
    refine ⟨p1, l3, _, _, rfl, rfl, (x3.trans x4) _ _ k2, k4, Nat.le_trans (show _ <= 1000 by rw [List.length_map]; show 1 + _ <= _; omega) hs, fun p5 hp5 => ?_⟩
    have x5 : Same H4 (upd H4 p5 (.lst ([V.str a0] ++ p.2.map V.str))) := sm_new hp5
    have k5 : upd H4 p5 (.lst ([V.str a0] ++ p.2.map V.str)) p5 = some (.lst ((a0 :: p.2).map V.str)) := upd_same
    generalize upd H4 p5 (.lst ([V.str a0] ++ p.2.map V.str)) = H5 at x5 k5 ⊢
    have x05 : Same H H5 := x2.trans (x3.trans (x4.trans x5))
    refine ⟨_, p5, a0 :: p.2, rfl, rfl, SqL.of k5, row_sum (rn' _ List.mem_cons_self) (fun z hz => rn' z (List.mem_cons_of_mem _ (e2'.mem_iff.mp hz))) pl4, x05 _ _ hl2, _, ?_, rfl, (x.trans x05).at hD⟩
    rw [take_snoc hp, List.map_append, List.map_append]
    show _ = _ ++ [V.str (rowText p)]
    unfold rowText
    rw [e1']
  . rintro ys σ H hl2 ⟨_, rfl, _, x⟩
    rw [List.length_map, hlen, <- hpl, List.take_length] at hl2
    exact hdn H x hl2
def spDue : Sp := fun vs H Q _ => ∃ (wss : List (List Str)) (ps : List Row), vs = [.str (textW wss)] /\ TxOk wss /\ TxF wss /\ (fbad 0 wss = none -> dueG [] (wss.map rowOf) = none -> SameRows (wss.map rowOf) ps) /\ ∀ t H', Same H H' -> H' t = some (.tup (outL wss ps)) -> Q (.ref t) H'
theorem sc_due : FnScope ["_law_text", "_law_rows", "_law_at", "_law_words"] ["_law_text"] (defScope s_law_due) := ⟨rfl, rfl, rfl, by decide +kernel, rfl, by decide +kernel, by decide +kernel⟩
theorem ok_due (F : Fun K "_law_due" "_law_due" s_law_due f fd) (B : Bt mg) (G__law_name : Fn P w K mg base k "_law_name" ["_law_word"] spName2 g gd) (G__law_twice : Fn P w K mg base k "_law_twice" ["_law_rows"] spTwi g2 gd2) : FnOk P w K mg base CX0 (k + 1) f fd ["_law_text"] spDue := by
  refine F.ok sc_due (fun vs H Q E h => ?_) (fun cdv A outer s H vs Q E hr h => ?_)
  . obtain ⟨wss, ps, rfl, _⟩ := h
    rfl
  obtain ⟨wss, ps, rfl, T, TF, hP, q⟩ := h
  have nd := sc_due.nd
  have W := T.w
  have tl := T.len
  have l6 := T.few
  have hs := line_200
  refine ⟨_, (pss_cons (ps_setC (i := 1) nd rfl (Or.inl rfl) (g := (gName 0)) (tc := tYes) (te := (tBM K "str" rSplit (tVar 0) (tCons (tC (.str " ")) tNil))) (own := ["_law_row"]) (fr := ([] : List Str)) (idx := []) rfl (by show CompScope _ _ _ (defScope s_law_due); exact ⟨rfl, by decide +kernel, by decide +kernel, by decide +kernel, by decide +kernel, by decide +kernel, by decide +kernel⟩) (pi_list (pe_bm (T := "str") (name := "split") (id := "str.split") PySem.F.plainAttrs_str PySem.F.slot_str_split PySem.F.type_str_split mt_split (pv 0) (pa_cons pe_str pa_nil))) (fun _ _ _ _ _ => (pg_name (i := 0) (by show List.Nodup (["_law_row"] : List Str); decide +kernel) rfl (Or.inl rfl) (Or.inr rfl))) (fun _ _ _ _ _ => pts_nil) (fun _ _ _ _ _ => (pe_bm (T := "str") (name := "split") (id := "str.split") PySem.F.plainAttrs_str PySem.F.slot_str_split PySem.F.type_str_split mt_split (pv 0) (pa_cons pe_str pa_nil))) rfl (hat_of rfl)) (pss_cons (ps_for PassesOwn.never rfl (pi_enum rfl B.enumerate_ (pa_cons (pv 1) pa_nil)) (pg_tup rfl (pgs_cons (pg_name (i := 2) nd rfl (Or.inl rfl)) (pgs_cons (pg_name (i := 3) nd rfl (Or.inl rfl)) pgs_nil))) (pss_one (ps_if (PW.pt (pw_or (pt_cmpR op_lt (pe_callB call_len_seq rfl B.len_ PySem.boot_len (pa_cons (pv 3) pa_nil)) pe_int (nomark _)) (pw_or1 (pt_not (pt_val (pe_callB (call_allB rfl) rfl B.all_ (by decide +kernel) (pa_cons (pe_comp (g := (gName 0)) (tc := tYes) (te := (tCall spName2 [] E0 (tCons (tVar 0) tNil))) (own := ["_law_word"]) (fr := ([] : List Str)) (idx := []) rfl (by show CompScope _ _ _ (defScope s_law_due); exact ⟨rfl, by decide +kernel, by decide +kernel, by decide +kernel, by decide +kernel, by decide +kernel, by decide +kernel⟩) (pi_list (pv 3)) (fun _ _ _ _ _ => (pg_name (i := 0) (by show List.Nodup (["_law_word"] : List Str); decide +kernel) rfl (Or.inl rfl) (Or.inr rfl))) (fun _ _ _ _ _ => pts_nil) (fun _ _ _ _ _ => (pe_call G__law_name.ok hr rfl G__law_name.at_ G__law_name.kp G__law_name.bn .nil pass0 (pa_cons (pv 0) pa_nil))) rfl (hat_of rfl)) pa_nil)) (fun _ => rfl)))))) (pss_one (ps_ret (pe_tup (pa_cons pe_str (pa_cons (pe_op op_add (pv 2) pe_int) (pa_cons pe_bl pa_nil)))))) pss_nil))) (pss_cons (ps_if (pt_cmpR op_notN (pe_call G__law_twice.ok hr rfl G__law_twice.at_ G__law_twice.kp G__law_twice.bn .nil pass0 (pa_cons (pv 1) pa_nil)) pe_non (nomark _)) (pss_one (ps_ret (pe_tup (pa_cons pe_str (pa_cons (pe_call G__law_twice.ok hr rfl G__law_twice.at_ G__law_twice.kp G__law_twice.bn .nil pass0 (pa_cons (pv 1) pa_nil)) (pa_cons pe_bl pa_nil)))))) pss_nil) (pss_one (ps_ret (pe_tup (pa_cons pe_str (pa_cons (pe_bm (T := "str") (name := "join") (id := "str.join") PySem.F.plainAttrs_str PySem.F.slot_str_join PySem.F.type_str_join mt_join pe_str (pa_cons (pe_comp (g := (gName 0)) (tc := tYes) (te := (tBM K "str" (rJoin K) (tC (.str " ")) (tCons (tOp rCat (tSl (rSlL K) (tVar 0) tNoPart (tPart (tC (.int 1)))) (tCB (fun xs H Q => ∃ p zs, xs = [.ref p] /\ SqL K H p (zs.map V.str) /\ zs.length < 64 /\ ∀ l zs', H l = none -> zs'.Perm zs -> sortedS zs' = true -> Q (.ref l) (upd H l (.lst (zs'.map V.str)))) (tCons (tSl (rSlL K) (tVar 0) (tPart (tC (.int 1))) tNoPart) tNil))) tNil))) (own := ["_law_words"]) (fr := ([] : List Str)) (idx := []) rfl (by show CompScope _ _ _ (defScope s_law_due); exact ⟨rfl, by decide +kernel, by decide +kernel, by decide +kernel, by decide +kernel, by decide +kernel, by decide +kernel⟩) (pi_list (pv 1)) (fun _ _ _ _ _ => (pg_name (i := 0) (by show List.Nodup (["_law_words"] : List Str); decide +kernel) rfl (Or.inl rfl) (Or.inr rfl))) (fun _ _ _ _ _ => pts_nil) (fun _ _ _ _ _ => (pe_bm (T := "str") (name := "join") (id := "str.join") PySem.F.plainAttrs_str PySem.F.slot_str_join PySem.F.type_str_join mt_join pe_str (pa_cons (pe_op op_cat (pe_slice sl_list (pv 0) po_none (po_some pe_int)) (pe_callB call_sortedS rfl B.sorted_ (by decide +kernel) (pa_cons (pe_slice sl_list (pv 0) (po_some pe_int) po_none) pa_nil))) pa_nil))) rfl (hat_of rfl)) pa_nil)) (pa_cons pe_bl pa_nil))))))))), ?_⟩
  refine ⟨_, rfl, rfl, _, _, rfl, rfl, rfl, lineM (by omega), by rw [split_text W, List.length_map]; exact lineM (by omega), fun l hl => ?_⟩
  rw [split_text W]
  have x1 : Same H (upd H l (.lst ((wss.map rowW).map V.str))) := sm_new hl
  have k1 : upd H l (.lst ((wss.map rowW).map V.str)) l = some (.lst ((wss.map rowW).map V.str)) := upd_same
  generalize upd H l (.lst ((wss.map rowW).map V.str)) = H1 at x1 k1 ⊢
  refine ⟨l, rfl, ⟨_, SqL.of k1⟩, fun D hD => splits (K := K) W (by omega) hD k1 fun H2 x2 hW => ?_⟩
  obtain ⟨ls, kD, hT⟩ := id hW
  have hlen := Paired.length hT
  have y2 := x1.trans x2
  have wlen : ∀ ws ∈ wss, 1 <= ws.length := fun ws hw => List.length_pos_iff.mpr (W.rne ws hw)
  refine ⟨_, rfl, D, rfl, ⟨_, SqL.of kD⟩, for_enum (xs := ls.map V.ref) (fun i σ H' => ∃ v2 v3 : Option V, σ = [some (.str (textW wss)), some (.ref D), v2, v3] /\ fbad i (wss.drop i) = fbad 0 wss /\ Same H2 H') ?_ ?_ ?_ ?_⟩
  . exact ⟨_, _, rfl, rfl, Same.refl _⟩
  . rintro i σ H3 _ ⟨_, _, _, _, x3⟩
    exact SqL.of (x3 _ _ kD)
  . rintro i y σ H3 T0 hy hT0 ⟨v2, v3, rfl, hf, x3⟩
    rw [List.getElem?_map] at hy
    obtain ⟨l0, hl0, rfl⟩ := Option.map_eq_some_iff.mp hy
    obtain ⟨ws, hw, kl⟩ := hT.get hl0
    have hm : ws ∈ wss := List.mem_of_getElem? hw
    have hrl := row_len W hm
    have ht := wd_tot (W.rne ws hm)
    have w8 := T.ws8 ws hm
    rw [fbad_step hw] at hf
    have x4 : Same H2 (upd H3 T0 (.tup [.int i, .ref l0])) := x3.trans (sm_new hT0)
    refine ⟨T0, _, rfl, SqT.of upd_same, rfl, _, _, rfl, _, _, rfl, rfl, ?_⟩
    generalize upd H3 T0 (.tup [.int i, .ref l0]) = H4 at x4 ⊢
    have bad : ∀ H5, Same H2 H5 -> bdW ws = true -> tTup (tCons (tC (.str "no text")) (tCons (tOp (rI0 fun i j => .int (i + j)) (tVar 2) (tC (.int 1))) (tCons (tC (.bl true)) tNil))) [some (.str (textW wss)), some (.ref D), some (.int (i : Int)), some (.ref l0)] H5 Q := fun H5 x5 hb => by
      rw [if_pos hb] at hf
      refine ⟨_, rfl, _, _, rfl, rfl, tiny (show 3 <= 1000 by decide), fun t ht => q t _ ((y2.trans x5).trans (sm_new ht)) ?_⟩
      rw [upd_same]
      unfold outL
      rw [<- hf]
    refine ⟨_, rfl, l0, _, rfl, .inl (SqL.of (x4 _ _ kl)), _, _, rfl, rfl, _, rfl, ?_⟩
    rw [List.length_map]
    by_cases h2l : ws.length < 2
    . have hb : bdW ws = true := by unfold bdW; rw [decide_eq_true h2l, Bool.or_true]
      rw [decide_eq_true (show ((ws.length : Nat) : Int) < 2 by omega)]
      refine iteT ?_
      exact bad H4 x4 hb
    rw [decide_eq_false (show ¬ ((ws.length : Nat) : Int) < 2 by omega)]
    refine iteF ?_
    refine ⟨_, rfl, l0, rfl, ⟨_, SqL.of (x4 _ _ kl)⟩, fun D2 hD2 => all_nm2 (K := K) (fun y hy => by have := tot_mem hy; omega) (by omega) hD2 (x4 _ _ kl) fun H5 x5 hD5 => ⟨D2, _, rfl, SqL.of hD5, _, rfl, ?_⟩⟩
    rw [all_id]
    cases e : ws.all nmB with
    | false =>
      refine iteT ?_
      exact bad H5 (x4.trans x5) (by unfold bdW; rw [e]; rfl)
    | true =>
      refine iteF ?_
      have hb : bdW ws = false := by unfold bdW; rw [e, decide_eq_false h2l]; rfl
      rw [if_neg (by rw [hb]; decide)] at hf
      exact ⟨_, _, rfl, hf, x4.trans x5⟩
  . rintro σ H3 ⟨v2, v3, rfl, hf, x3⟩
    rw [List.length_map, hlen, List.drop_length] at hf
    have hfn : fbad 0 wss = none := hf.symm
    have y3 := y2.trans x3
    refine ⟨_, rfl, D, wss, rfl, hW.same x3, fun ws hw => ⟨wlen ws hw, by have := T.ws8 ws hw; omega⟩, by omega, fun H4 x4 => ⟨rfl, _, rfl, ?_⟩⟩
    have z4 := x3.trans x4
    have y4 := y3.trans x4
    cases hd : dueG [] (wss.map rowOf) with
    | some n =>
      have e : (!decide (dueV (some n) = V.non)) = true := by simp [dueV]
      rw [e]
      refine iteT ?_
      refine ⟨_, rfl, D, wss, rfl, hW.same z4, fun ws hw => ⟨wlen ws hw, by have := T.ws8 ws hw; omega⟩, by omega, fun H5 x5 => ⟨tiny (show 3 <= 1000 by decide), fun t ht => q t _ ((y4.trans x5).trans (sm_new ht)) ?_⟩⟩
      rw [upd_same]
      unfold outL
      rw [hfn, hd]
      rfl
    | none =>
      have e : (!decide (dueV none = V.non)) = false := by simp [dueV]
      rw [e]
      refine iteF ?_
      have hPs := hP hfn hd
      have hG := good_of T TF hfn hd
      refine ⟨rfl, _, rfl, D, rfl, ⟨_, SqL.of (z4 _ _ kD)⟩, fun D3 hD3 => sorts (K := K) (hT.same z4) wlen hG hPs hD3 (z4 _ _ kD) fun H5 x5 k5 => ⟨_, D3, ps.map rowText, rfl, rfl, SqL.of k5, hPs.sum hG, tiny (show 3 <= 1000 by decide), fun t ht => q t _ ((y4.trans x5).trans (sm_new ht)) ?_⟩⟩
      rw [upd_same]
      unfold outL
      rw [hfn, hd]
      rfl
end
abbrev s_law_told : Stmt := top 37
abbrev s_law_few : Stmt := top 38
abbrev s_law_right : Stmt := top 39
abbrev s_law_sign : Stmt := top 31
abbrev s_law_otherwise : Stmt := top 32
abbrev s_law_spoilt : Stmt := top 33
structure XOt (K : W.Frag) (mg : Str -> Option Value) (CN CT M : Addr) (c : Nat -> Addr) : Prop where
  m2 : mg "BadStep" = some (.ref (c 2))
  m4 : mg "NoLetter" = some (.ref (c 4))
  m9 : mg "NoName" = some (.ref (c 9))
  m11 : mg "NoRow" = some (.ref (c 11))
  kN : PySem.W.kitAny K (.ref CN) ([CT, c 2, c 4, c 9, c 11].map Value.ref) = some false
  kT : PySem.W.kitAny K (.ref CT) ([c 2, c 4, c 9, c 11].map Value.ref) = some false
theorem FlyAt.same {H H' : Hp} {a C : Addr} {fs : List (Str × V)} (x : FlyAt H a C fs) (y : Same H H') : FlyAt H' a C fs := by
  obtain ⟨T, d, e1, n1, e2, hd⟩ := x
  refine ⟨T, d, y _ _ e1, n1, y _ _ e2, ?_⟩
  rcases hd with h | ⟨dx, h1, h2, h3, h4⟩
  . exact .inl h
  . exact .inr ⟨dx, h1, y _ _ h2, h3, h4⟩
theorem pe_as {X : Cx} {e : Expr} (R : TE) (h : PE X e R) : PE X e R := h
abbrev rIsiFT (K : W.Frag) (C : Addr) : List V -> Hp -> VK -> Prop := fun xs H Q => ∃ e fs t, ∃ cs : List Addr, ∃ b, xs = [.ref e, .ref t] /\ FlyAt H e C fs /\ H t = some (.tup (cs.map V.ref)) /\ PySem.W.kitAny K (.ref C) (cs.map Value.ref) = some b /\ Q (.bl b) H
theorem len3 {σ : L2.St} (h : List.length σ = 3) : ∃ a b c, σ = [a, b, c] := by
  match σ, h with
  | [a, b, c], _ => exact ⟨a, b, c, rfl⟩
theorem same_ex : ∀ {rs : List Row}, (∀ r ∈ rs, ∃ zs : List Str, zs.Perm r.2 /\ sortedS zs = true) -> ∃ ps, SameRows rs ps
  | [], _ => ⟨[], rfl, fun i r p h => by simp at h⟩
  | r :: rs, h => by
    obtain ⟨zs, h1, h2⟩ := h r List.mem_cons_self
    obtain ⟨ps, e, k⟩ := same_ex fun r' hr => h r' (List.mem_cons_of_mem _ hr)
    refine ⟨(r.1, zs) :: ps, by rw [List.map_cons, List.map_cons, e], fun i r' p hr hp => ?_⟩
    cases i with
    | zero =>
      rw [List.getElem?_cons_zero] at hr hp
      cases hr; cases hp
      exact ⟨h1, h2⟩
    | succ i =>
      rw [List.getElem?_cons_succ] at hr hp
      exact k i r' p hr hp
theorem ShAt.rows {C x : Addr} {H : Hp} {rs : List Row} (h : ShAt C H x rs) : ∃ ps, SameRows rs ps := by
  obtain ⟨_, _, _, _, _, _, _, _, _, _, _, _, _, _, h9⟩ := h
  exact same_ex fun r hr => let ⟨_, zs, _, _, c, d⟩ := h9 r hr; ⟨zs, c, d⟩
section
variable {P : Program} {w : World} {K : W.Frag} {mg : Str -> Option Value} {base : Heap} {f g g2 g3 g4 : Addr} {fd gd gd2 gd3 gd4 : FuncData} {k j : Nat} {C CN CT M ft fn : Addr} {ftd fnd : FuncData} {c : Nat -> Addr}
def spTo (cond : List (List Str) -> Prop) : Sp := fun vs H Q _ => ∃ wss : List (List Str), vs = [.str (textW wss)] /\ TxOk wss /\ TxF wss /\ cond wss /\ ∀ ps t H', (fbad 0 wss = none -> dueG [] (wss.map rowOf) = none -> SameRows (wss.map rowOf) ps) -> Same H H' -> H' t = some (.tup (outL wss ps)) -> Q (.ref t) H'
def cdN (wss : List (List Str)) : Prop := fbad 0 wss = none -> dueG [] (wss.map rowOf) = none
def cdT (wss : List (List Str)) : Prop := fbad 0 wss = none
theorem sc_told : FnScope ["_law_text", "_law_found", "e"] ["_law_text"] (defScope s_law_told) := ⟨rfl, rfl, rfl, by decide +kernel, rfl, by decide +kernel, by decide +kernel⟩
theorem out_read {wss : List (List Str)} {ps : List Row} (h1 : fbad 0 wss = none) (h2 : dueG [] (wss.map rowOf) = none) : outL wss ps = [.str "read", .str (textOf ps), .bl true] := by unfold outL; rw [h1]; simp only [h2]
theorem out_bad {wss : List (List Str)} {ps : List Row} {i : Nat} (h1 : fbad 0 wss = some i) : outL wss ps = [.str "no text", .int ((i : Int) + 1), .bl true] := by unfold outL; rw [h1]
theorem out_two {wss : List (List Str)} {ps : List Row} {n : Str} (h1 : fbad 0 wss = none) (h2 : dueG [] (wss.map rowOf) = some n) : outL wss ps = [.str "twice", .str n, .bl true] := by unfold outL; rw [h1]; simp only [h2]
theorem ok_toldN (F : Fun K "_law_told" "_law_told" s_law_told f fd) (B : Bt mg) (xn : XMkN P w K mg base j CN M fn fnd) (xt : XMk P w K mg base j CT M ft ftd) (xo : XOt K mg CN CT M c) (nNT : CN ≠ CT) (nNM : CN ≠ M)
    (G_read_sharing : FnX P w K mg base (k + 1) "read_sharing" ["text"] (spRead C CN CT) g gd) (G_show_sharing : Fn P w K mg base (k + 1) "show_sharing" ["sharing"] (spShow C) g2 gd2) : FnOk P w K mg base CX0 (k + 2) f fd ["_law_text"] (spTo cdN) := by
  refine F.ok sc_told (fun vs H Q E h => ?_) (fun cdv A outer s H vs Q E hr h => ?_)
  . obtain ⟨wss, rfl, _⟩ := h
    rfl
  obtain ⟨wss, rfl, T, TF, hc, q⟩ := h
  have nd := sc_told.nd
  have hRX : ∀ a fs H1 H2, (H a = none /\ Same H H1 /\ ∃ i, fbad 0 wss = some i /\ fs = LnF ((i : Int) + 1)) -> (∀ b o, b ≠ a -> H1 b = some o -> H2 b = some o) -> FlyAt H2 a CN fs -> (H a = none /\ Same H H2 /\ ∃ i, fbad 0 wss = some i /\ fs = LnF ((i : Int) + 1)) := fun a fs H1 H2 ⟨na, sm, g⟩ k _ => ⟨na, fun b o e => k b o (ne_of_none e na) (sm b o e), g⟩
  refine ⟨_, (pss_cons (ps_set (i := 1) nd rfl (Or.inl rfl) pe_non) (pss_cons (ps_tryH xn.xc rfl rfl hRX (fun E pn hpass => (pss_one (ps_set (i := 1) nd rfl (Or.inl rfl) (pe_as (tTup (tCons (tC (.str "read")) (tCons (tCall (spShow C) [] E0 (tCons (tCall (spRead C CN CT) [] (EXT CN fun a fs H1 => H a = none /\ Same H H1 /\ ∃ i, fbad 0 wss = some i /\ fs = LnF ((i : Int) + 1)) (tCons (tVar 0) tNil)) tNil)) (tCons (tC (.bl true)) tNil)))) (pe_tup (pa_cons pe_str (pa_cons (pe_call G_show_sharing.ok hr rfl G_show_sharing.at_ G_show_sharing.kp G_show_sharing.bn .nil pass0 (pa_cons (pe_call G_read_sharing.ok hr rfl G_read_sharing.at_ G_read_sharing.kp G_read_sharing.bn .nil hpass (pa_cons (pv 0) pa_nil)) pa_nil)) (pa_cons pe_bl pa_nil))))))))
      (hb_own (i := 2) xn.xc nd rfl rfl rfl (fun a => pe_glob (v := .ref CN) rfl xn.at_ rfl) (fun a => (pss_one (ps_set (i := 1) nd rfl (Or.inl rfl) (pe_as (tTup (tCons (tC (.str "no text")) (tCons (tFldF CN (tVar 2) "line") (tCons (tNotV (tCB (rIsiFT K CN) (tCons (tVar 2) (tCons (tTup (tCons (tC (.ref CT)) (tCons (tC (.ref (c 2))) (tCons (tC (.ref (c 4))) (tCons (tC (.ref (c 9))) (tCons (tC (.ref (c 11))) tNil)))))) tNil)))) tNil)))) (pe_tup (pa_cons pe_str (pa_cons (pe_fldF xn.xc xn.fn (pv 2)) (pa_cons (pe_not (pe_callB (call_isiFT xn.xc) rfl B.isinstance_ boot_isinstance (pa_cons (pv 2) (pa_cons (pe_tup (pa_cons (pe_glob (v := .ref CT) rfl xt.at_ rfl) (pa_cons (pe_glob (v := .ref (c 2)) rfl xo.m2 rfl) (pa_cons (pe_glob (v := .ref (c 4)) rfl xo.m4 rfl) (pa_cons (pe_glob (v := .ref (c 9)) rfl xo.m9 rfl) (pa_cons (pe_glob (v := .ref (c 11)) rfl xo.m11 rfl) pa_nil)))))) pa_nil)))) pa_nil)))))))))) (pss_one (ps_ret (pv 1))))), ?_⟩
  refine ⟨?_, ?_⟩
  . refine ⟨_, rfl, wss, rfl, T, fun h1 h2 x H9 hx y9 hS => ?_, fun i hi a H' na sm fl => ?_, fun n h1 h2 a H' na sm fl => ?_⟩
    . obtain ⟨ps, hP⟩ := hS.rows
      refine ⟨x, _, ps, rfl, hS, good_of T TF h1 h2, hP, fun H8 y8 => ⟨tiny (show 3 <= 1000 by decide), fun z hz => ?_⟩⟩
      refine ⟨_, rfl, q ps z _ (fun _ _ => hP) ((y9.trans y8).trans (sm_new hz)) ?_⟩
      rw [out_read h1 h2]
      exact upd_same
    . exact ⟨a, _, rfl, fl, na, sm, i, hi, rfl⟩
    . rw [hc h1] at h2; cases h2
  . rintro a fs H1 σ1 fl ⟨na, sm, i, hi, rfl⟩ hl
    obtain ⟨s0, s1, s2, rfl⟩ := len3 hl
    refine ⟨_, rfl, a, _, .int ((i : Int) + 1), rfl, fl, rfl, _, rfl, tiny (show 5 <= 1000 by decide), fun t5 h5 => ⟨a, _, t5, [CT, c 2, c 4, c 9, c 11], false, rfl, FlyAt.same fl (sm_new h5), upd_same, xo.kN, false, rfl, tiny (show 3 <= 1000 by decide), fun z hz => ?_⟩⟩
    refine ⟨_, rfl, q [] z _ (fun h => by rw [hi] at h; cases h) ((sm.trans (sm_new h5)).trans (sm_new hz)) ?_⟩
    rw [out_bad hi]
    exact upd_same
theorem ok_toldT (F : Fun K "_law_told" "_law_told" s_law_told f fd) (B : Bt mg) (xn : XMkN P w K mg base j CN M fn fnd) (xt : XMk P w K mg base j CT M ft ftd) (xo : XOt K mg CN CT M c) (nNT : CN ≠ CT) (nNM : CN ≠ M)
    (G_read_sharing : FnX P w K mg base (k + 1) "read_sharing" ["text"] (spRead C CN CT) g gd) (G_show_sharing : Fn P w K mg base (k + 1) "show_sharing" ["sharing"] (spShow C) g2 gd2) : FnOk P w K mg base CX0 (k + 2) f fd ["_law_text"] (spTo cdT) := by
  refine F.ok sc_told (fun vs H Q E h => ?_) (fun cdv A outer s H vs Q E hr h => ?_)
  . obtain ⟨wss, rfl, _⟩ := h
    rfl
  obtain ⟨wss, rfl, T, TF, hc, q⟩ := h
  have nd := sc_told.nd
  have hRX : ∀ a fs H1 H2, (H a = none /\ Same H H1 /\ ∃ n, fbad 0 wss = none /\ dueG [] (wss.map rowOf) = some n /\ fs = TwF n) -> (∀ b o, b ≠ a -> H1 b = some o -> H2 b = some o) -> FlyAt H2 a CT fs -> (H a = none /\ Same H H2 /\ ∃ n, fbad 0 wss = none /\ dueG [] (wss.map rowOf) = some n /\ fs = TwF n) := fun a fs H1 H2 ⟨na, sm, g⟩ k _ => ⟨na, fun b o e => k b o (ne_of_none e na) (sm b o e), g⟩
  refine ⟨_, (pss_cons (ps_set (i := 1) nd rfl (Or.inl rfl) pe_non) (pss_cons (ps_tryH xt.xc rfl rfl hRX (fun E pn hpass => (pss_one (ps_set (i := 1) nd rfl (Or.inl rfl) (pe_as (tTup (tCons (tC (.str "read")) (tCons (tCall (spShow C) [] E0 (tCons (tCall (spRead C CN CT) [] (EXT CT fun a fs H1 => H a = none /\ Same H H1 /\ ∃ n, fbad 0 wss = none /\ dueG [] (wss.map rowOf) = some n /\ fs = TwF n) (tCons (tVar 0) tNil)) tNil)) (tCons (tC (.bl true)) tNil)))) (pe_tup (pa_cons pe_str (pa_cons (pe_call G_show_sharing.ok hr rfl G_show_sharing.at_ G_show_sharing.kp G_show_sharing.bn .nil pass0 (pa_cons (pe_call G_read_sharing.ok hr rfl G_read_sharing.at_ G_read_sharing.kp G_read_sharing.bn .nil hpass (pa_cons (pv 0) pa_nil)) pa_nil)) (pa_cons pe_bl pa_nil))))))))
      (hb_skip xt.xc xn.xc nNT nNM (fun a => pe_glob (v := .ref CN) rfl xn.at_ rfl) (hb_own (i := 2) xt.xc nd rfl rfl rfl (fun a => pe_glob (v := .ref CT) rfl xt.at_ rfl) (fun a => (pss_one (ps_set (i := 1) nd rfl (Or.inl rfl) (pe_as (tTup (tCons (tC (.str "twice")) (tCons (tFldF CT (tVar 2) "name") (tCons (tNotV (tCB (rIsiFT K CT) (tCons (tVar 2) (tCons (tTup (tCons (tC (.ref (c 2))) (tCons (tC (.ref (c 4))) (tCons (tC (.ref (c 9))) (tCons (tC (.ref (c 11))) tNil))))) tNil)))) tNil)))) (pe_tup (pa_cons pe_str (pa_cons (pe_fldF xt.xc xt.fn (pv 2)) (pa_cons (pe_not (pe_callB (call_isiFT xt.xc) rfl B.isinstance_ boot_isinstance (pa_cons (pv 2) (pa_cons (pe_tup (pa_cons (pe_glob (v := .ref (c 2)) rfl xo.m2 rfl) (pa_cons (pe_glob (v := .ref (c 4)) rfl xo.m4 rfl) (pa_cons (pe_glob (v := .ref (c 9)) rfl xo.m9 rfl) (pa_cons (pe_glob (v := .ref (c 11)) rfl xo.m11 rfl) pa_nil))))) pa_nil)))) pa_nil))))))))))) (pss_one (ps_ret (pv 1))))), ?_⟩
  refine ⟨?_, ?_⟩
  . refine ⟨_, rfl, wss, rfl, T, fun h1 h2 x H9 hx y9 hS => ?_, fun i hi a H' na sm fl => ?_, fun n h1 h2 a H' na sm fl => ?_⟩
    . obtain ⟨ps, hP⟩ := hS.rows
      refine ⟨x, _, ps, rfl, hS, good_of T TF h1 h2, hP, fun H8 y8 => ⟨tiny (show 3 <= 1000 by decide), fun z hz => ?_⟩⟩
      refine ⟨_, rfl, q ps z _ (fun _ _ => hP) ((y9.trans y8).trans (sm_new hz)) ?_⟩
      rw [out_read h1 h2]
      exact upd_same
    . rw [show fbad 0 wss = none from hc] at hi; cases hi
    . exact ⟨a, _, rfl, fl, na, sm, n, h1, h2, rfl⟩
  . rintro a fs H1 σ1 fl ⟨na, sm, n, h1, h2, rfl⟩ hl
    obtain ⟨s0, s1, s2, rfl⟩ := len3 hl
    refine ⟨_, rfl, a, _, .str n, rfl, fl, rfl, _, rfl, tiny (show 4 <= 1000 by decide), fun t5 h5 => ⟨a, _, t5, [c 2, c 4, c 9, c 11], false, rfl, FlyAt.same fl (sm_new h5), upd_same, xo.kT, false, rfl, tiny (show 3 <= 1000 by decide), fun z hz => ?_⟩⟩
    refine ⟨_, rfl, q [] z _ (fun _ h => by rw [h2] at h; cases h) ((sm.trans (sm_new h5)).trans (sm_new hz)) ?_⟩
    rw [out_two h1 h2]
    exact upd_same
end
section
variable {P : Program} {w : World} {K : W.Frag} {mg : Str -> Option Value} {base : Heap} {f g g2 g3 g4 : Addr} {fd gd gd2 gd3 gd4 : FuncData} {k j : Nat} {C CN CT M ft fn : Addr} {ftd fnd : FuncData} {c : Nat -> Addr}
theorem newd {D p l : Addr} {Q : VK} {H1 : Hp} {ws ds : List Str} (hl : H1 l = some (.lst (ds.map V.str))) (hp : H1 p = some (.lst (ws.map V.str))) (h : ws.length <= 100000) (hD : H1 D = none) (hdn : ∀ H' (ys : List Str), Same H1 H' -> H' D = some (.lst (ys.map V.str)) -> ys.length <= ws.length -> (∀ d ∈ ws, d ∈ ds \/ d ∈ ys) -> Q (.ref D) H') :
    CompLoop (Itl K p) D (gName 0) (tTest (tOp (rIn K true) (tVar 0) (tVar 1))) (tVar 0) Q [none, some (.ref l)] H1 := by
  refine comp_list (xs := ws.map V.str) (fun i zs σ H => ∃ (v : Option V) (ys : List Str), zs = ys.map V.str /\ ys.length <= i /\ σ = [v, some (.ref l)] /\ (∀ d ∈ ws.take i, d ∈ ds \/ d ∈ ys) /\ Same H1 H) ?_ (by rw [List.length_map]; omega) ?_ ?_ ?_ ?_
  . exact ⟨none, [], rfl, Nat.le_refl _, rfl, (fun d hd => by rw [List.take_zero] at hd; cases hd), sm_new hD⟩
  . rintro i zs σ H ⟨v, ys, rfl, hi, _⟩
    rw [List.length_map]; exact hi
  . rintro i zs σ H ⟨v, ys, _, _, _, _, x⟩
    exact SqL.of (x _ _ hp)
  . rintro i y zs σ H hy hl2 ⟨v, ys, rfl, hi, rfl, hin, x⟩
    rw [List.getElem?_map] at hy
    obtain ⟨z, hz, rfl⟩ := Option.map_eq_some_iff.mp hy
    refine ⟨_, rfl, _, rfl, l, _, rfl, .inl (SqL.of (x _ _ hl)), rfl, flat_strs _, _, rfl, ?_⟩
    have e : (if true = true then !inV (.str z) (ds.map V.str) else inV (.str z) (ds.map V.str)) = !decide (z ∈ ds) := by
      rw [if_pos rfl, show inV (.str z) (ds.map V.str) = decide (z ∈ ds) by rw [Bool.eq_iff_iff, inV_mem, decide_eq_true_iff]]
    rw [e]
    by_cases hm : z ∈ ds
    . rw [decide_eq_true hm]
      refine iteF ⟨hl2, _, ys, rfl, by omega, rfl, fun d hd => ?_, x⟩
      rw [take_snoc hz] at hd
      rcases List.mem_append.mp hd with hd | hd
      . exact hin d hd
      . rw [List.mem_singleton.mp hd]; exact .inl hm
    . rw [decide_eq_false hm]
      refine iteT ⟨_, rfl, hl2, _, ys ++ [z], by rw [List.map_append]; rfl, by rw [List.length_append]; show ys.length + 1 <= _; omega, rfl, fun d hd => ?_, x.at hD⟩
      rw [take_snoc hz] at hd
      rcases List.mem_append.mp hd with hd | hd
      . exact (hin d hd).imp id fun h => List.mem_append.mpr (.inl h)
      . exact .inr (List.mem_append.mpr (.inr hd))
  . rintro zs σ H hl2 ⟨v, ys, rfl, hi, _, hin, x⟩
    rw [List.length_map] at hi hin
    rw [List.take_length] at hin
    exact hdn H ys x hl2 hi hin
def spFew : Sp := fun vs H Q _ => ∃ wss : List (List Str), vs = [.str (textW wss)] /\ TxOk wss /\ ∀ (b : Bool) H', (b = true -> TxF wss) -> Same H H' -> Q (.bl b) H'
theorem sc_few : FnScope ["_law_text", "_law_rows", "_law_desks", "_law_words"] ["_law_text"] (defScope s_law_few) := ⟨rfl, rfl, rfl, by decide +kernel, rfl, by decide +kernel, by decide +kernel⟩
theorem ok_few (F : Fun K "_law_few" "_law_few" s_law_few f fd) (B : Bt mg) : FnOk P w K mg base CX0 (k + 1) f fd ["_law_text"] spFew := by
  refine F.ok sc_few (fun vs H Q E h => ?_) (fun cdv A outer s H vs Q E hr h => ?_)
  . obtain ⟨wss, rfl, _⟩ := h
    rfl
  obtain ⟨wss, rfl, T, q⟩ := h
  have nd := sc_few.nd
  have W := T.w
  have tl := T.len
  have l6 := T.few
  have hs := line_200
  refine ⟨_, (pss_cons (ps_setC (i := 1) nd rfl (Or.inl rfl) (g := (gName 0)) (tc := tYes) (te := (tBM K "str" rSplit (tVar 0) (tCons (tC (.str " ")) tNil))) (own := ["_law_row"]) (fr := ([] : List Str)) (idx := []) rfl (by show CompScope _ _ _ (defScope s_law_few); exact ⟨rfl, by decide +kernel, by decide +kernel, by decide +kernel, by decide +kernel, by decide +kernel, by decide +kernel⟩) (pi_list (pe_bm (T := "str") (name := "split") (id := "str.split") PySem.F.plainAttrs_str PySem.F.slot_str_split PySem.F.type_str_split mt_split (pv 0) (pa_cons pe_str pa_nil))) (fun _ _ _ _ _ => (pg_name (i := 0) (by show List.Nodup (["_law_row"] : List Str); decide +kernel) rfl (Or.inl rfl) (Or.inr rfl))) (fun _ _ _ _ _ => pts_nil) (fun _ _ _ _ _ => (pe_bm (T := "str") (name := "split") (id := "str.split") PySem.F.plainAttrs_str PySem.F.slot_str_split PySem.F.type_str_split mt_split (pv 0) (pa_cons pe_str pa_nil))) rfl (hat_of rfl)) (pss_cons (ps_set (i := 2) nd rfl (Or.inr rfl) (pe_lst pa_nil)) (pss_cons (ps_for PassesOwn.never rfl (pi_list (pv 1)) (pg_name (i := 3) nd rfl (Or.inl rfl)) (pss_one (ps_expr (pe_bm PySem.F.plainAttrs_list PySem.F.slot_list_extend PySem.F.type_list_extend mt_extend (pv 2) (pa_cons (pe_comp (g := (gName 0)) (tc := (tTest (tOp (rIn K true) (tVar 0) (tVar 1)))) (te := (tVar 0)) (own := ["_law_word"]) (fr := ["_law_desks"]) (idx := [2]) rfl (by show CompScope _ _ _ (defScope s_law_few); exact ⟨rfl, by decide +kernel, by decide +kernel, by decide +kernel, by decide +kernel, by decide +kernel, by decide +kernel⟩) (pi_list (pe_slice sl_list (pv 3) (po_some pe_int) po_none)) (fun _ _ _ _ _ => (pg_name (i := 0) (by show List.Nodup (["_law_word", "_law_desks"] : List Str); decide +kernel) rfl (Or.inl rfl) (Or.inr rfl))) (fun _ _ _ _ _ => pts_one (pt_cmpR op_notIn_seq (pv 0) (pv 1) rfl)) (fun _ _ _ _ _ => (pv 0)) rfl (hat_of rfl)) pa_nil))))) (pss_one (ps_ret (pe_and (pe_cmpR op_lt (pe_callB call_len_seq rfl B.len_ PySem.boot_len (pa_cons (pv 1) pa_nil)) pe_int (nomark _)) (pe_one (pe_cmpR op_lt (pe_callB call_len_seq rfl B.len_ PySem.boot_len (pa_cons (pv 2) pa_nil)) pe_int (nomark _))))))))), ?_⟩
  refine ⟨_, rfl, rfl, _, _, rfl, rfl, rfl, lineM (by omega), by rw [split_text W, List.length_map]; exact lineM (by omega), fun l hl => ?_⟩
  rw [split_text W]
  have x1 : Same H (upd H l (.lst ((wss.map rowW).map V.str))) := sm_new hl
  have k1 : upd H l (.lst ((wss.map rowW).map V.str)) l = some (.lst ((wss.map rowW).map V.str)) := upd_same
  generalize upd H l (.lst ((wss.map rowW).map V.str)) = H1 at x1 k1 ⊢
  refine ⟨l, rfl, ⟨_, SqL.of k1⟩, fun D hD => splits (K := K) W (by omega) hD k1 fun H2 x2 hW => ?_⟩
  obtain ⟨ls, kD, hT⟩ := id hW
  have hlen := Paired.length hT
  have y2 := x1.trans x2
  refine ⟨tiny (show 0 <= 1000 by decide), fun d hd => ?_⟩
  have x3 : Same H2 (upd H2 d (.lst [])) := sm_new hd
  have k3 : upd H2 d (.lst []) d = some (.lst (([] : List Str).map V.str)) := upd_same
  generalize upd H2 d (.lst []) = H3 at x3 k3 ⊢
  have nDd : D ≠ d := ne_of_none kD hd
  have nls : ∀ {i : Nat} {l0 : Addr}, ls[i]? = some l0 -> l0 ≠ d := fun h => by
    obtain ⟨ws, _, kl⟩ := hT.get h
    exact ne_of_none kl hd
  refine ⟨_, rfl, D, rfl, ⟨_, SqL.of (x3 _ _ kD)⟩, for_list (xs := ls.map V.ref) (fun i σ H' => ∃ (v3 : Option V) (ds : List Str), σ = [some (.str (textW wss)), some (.ref D), some (.ref d), v3] /\ H' d = some (.lst (ds.map V.str)) /\ ds.length <= 8 * i /\ (∀ ws ∈ wss.take i, ∀ y ∈ ws.tail, y ∈ ds) /\ ∀ b o, b ≠ d -> H3 b = some o -> H' b = some o) ?_ ?_ ?_ ?_⟩
  . exact ⟨_, [], rfl, k3, Nat.le_refl _, (fun ws hw => by rw [List.take_zero] at hw; cases hw), fun _ _ _ h => h⟩
  . rintro i σ H4 _ ⟨_, _, _, _, _, _, x4⟩
    exact SqL.of (x4 _ _ nDd (x3 _ _ kD))
  . rintro i y σ H4 hy ⟨v3, ds, rfl, kd, hds, hin, x4⟩
    rw [List.getElem?_map] at hy
    obtain ⟨l0, hl0, rfl⟩ := Option.map_eq_some_iff.mp hy
    obtain ⟨ws, hw, kl⟩ := hT.get hl0
    have hm : ws ∈ wss := List.mem_of_getElem? hw
    have w8 := T.ws8 ws hm
    have hi : i < wss.length := (List.getElem?_eq_some_iff.mp hw).1
    have kl4 := x4 _ _ (nls hl0) (x3 _ _ kl)
    obtain ⟨a0, r0, rfl⟩ : ∃ a r, ws = a :: r := List.exists_cons_of_ne_nil (W.rne ws hm)
    rw [List.length_cons] at w8
    refine ⟨_, rfl, .inl ⟨rfl, _, SqL.of kd⟩, ?_⟩
    refine ⟨_, rfl, 1, rfl, l0, _, rfl, SqL.of kl4, fun p hp => ?_⟩
    rw [List.map_cons, cut_tail]
    have x5 : Same H4 (upd H4 p (.lst (r0.map V.str))) := sm_new hp
    have k5 : upd H4 p (.lst (r0.map V.str)) p = some (.lst (r0.map V.str)) := upd_same
    generalize upd H4 p (.lst (r0.map V.str)) = H5 at x5 k5 ⊢
    refine ⟨p, rfl, ⟨_, SqL.of k5⟩, fun D2 hD2 => newd (K := K) (ds := ds) (x5 _ _ kd) k5 (by omega) hD2 fun H6 ys x6 kD2 hys hin2 => ?_⟩
    refine ⟨d, D2, _, _, rfl, rfl, x6 _ _ (x5 _ _ kd), kD2, by rw [List.length_map, List.length_map]; exact Nat.le_trans (show ds.length + ys.length <= 1000 by omega) (tiny (Nat.le_refl _)), ?_⟩
    refine ⟨_, ds ++ ys, rfl, by rw [upd_same, List.map_append], by rw [List.length_append]; omega, fun ws' hw' y hy => ?_, fun b o hb h => by rw [upd_ne hb]; exact x6 _ _ (x5 _ _ (x4 _ _ hb h))⟩
    rw [take_snoc hw] at hw'
    rcases List.mem_append.mp hw' with hw' | hw'
    . exact List.mem_append.mpr (.inl (hin ws' hw' y hy))
    . rw [List.mem_singleton.mp hw'] at hy
      exact List.mem_append.mpr (hin2 y hy)
  . rintro σ H4 ⟨v3, ds, rfl, kd, hds, hin, x4⟩
    rw [List.length_map, hlen] at hds hin
    rw [List.take_length] at hin
    have y4 : Same H H4 := fun b o h => x4 _ _ (ne_of_none (y2 _ _ h) hd) (x3 _ _ (y2 _ _ h))
    refine ⟨_, rfl, D, _, rfl, .inl (SqL.of (x4 _ _ nDd (x3 _ _ kD))), _, _, rfl, rfl, _, rfl, ?_⟩
    rw [List.length_map, decide_eq_true (show ((ls.length : Nat) : Int) < 7 by omega)]
    refine iteT ?_
    refine ⟨_, rfl, d, _, rfl, .inl (SqL.of kd), _, _, rfl, rfl, q _ H4 (fun hb => ?_) y4⟩
    have := of_decide_eq_true hb
    rw [List.length_map] at this
    exact ⟨ds, by omega, hin⟩
def spRight : Sp := fun vs H Q _ => ∃ wss : List (List Str), vs = [.str (textW wss)] /\ TxOk wss /\ ∀ H', Same H H' -> Q (.bl true) H'
theorem sc_right : FnScope ["_law_text"] ["_law_text"] (defScope s_law_right) := ⟨rfl, rfl, rfl, by decide +kernel, rfl, by decide +kernel, by decide +kernel⟩
def spToA : Sp := fun vs H Q E => spTo cdN vs H Q E \/ spTo cdT vs H Q E
theorem toA {wss : List (List Str)} {H : Hp} {Q : VK} {E : XK} (T : TxOk wss) (F : TxF wss) (q : ∀ ps t H', (fbad 0 wss = none -> dueG [] (wss.map rowOf) = none -> SameRows (wss.map rowOf) ps) -> Same H H' -> H' t = some (.tup (outL wss ps)) -> Q (.ref t) H') : spToA [.str (textW wss)] H Q E := by
  by_cases h : fbad 0 wss = none
  . exact .inr ⟨wss, rfl, T, F, h, q⟩
  . exact .inl ⟨wss, rfl, T, F, (fun z => absurd z h), q⟩
theorem ok_right (F : Fun K "_law_right" "_law_right" s_law_right f fd) (B : Bt mg) (G__law_few : Fn P w K mg base k "_law_few" ["_law_text"] spFew g gd) (G__law_told : Fn P w K mg base k "_law_told" ["_law_text"] spToA g2 gd2) (G__law_due : Fn P w K mg base k "_law_due" ["_law_text"] spDue g3 gd3) : FnOk P w K mg base CX0 (k + 1) f fd ["_law_text"] spRight := by
  refine F.ok sc_right (fun vs H Q E h => ?_) (fun cdv A outer s H vs Q E hr h => ?_)
  . obtain ⟨wss, rfl, _⟩ := h
    rfl
  obtain ⟨wss, rfl, T, q⟩ := h
  have nd := sc_right.nd
  refine ⟨_, (pss_one (ps_ret (pe_or (pe_not (pe_call G__law_few.ok hr rfl G__law_few.at_ G__law_few.kp G__law_few.bn .nil pass0 (pa_cons (pv 0) pa_nil))) (pe_one (pe_cmpR (op_eqTW (hu0_of hr)) (pe_call G__law_told.ok hr rfl G__law_told.at_ G__law_told.kp G__law_told.bn .nil pass0 (pa_cons (pv 0) pa_nil)) (pe_call G__law_due.ok hr rfl G__law_due.at_ G__law_due.kp G__law_due.bn .nil pass0 (pa_cons (pv 0) pa_nil)) (nomark _)))))), ?_⟩
  refine ⟨_, rfl, wss, rfl, T, fun b H1 hb x1 => ⟨b, rfl, _, rfl, ?_⟩⟩
  cases b with
  | false => exact iteT (q H1 x1)
  | true =>
    refine iteF ?_
    have TF := hb rfl
    refine ⟨_, rfl, toA T TF fun ps t H2 hP x2 k2 => ?_⟩
    refine ⟨_, rfl, wss, ps, rfl, T, TF, hP, fun t2 H3 x3 k3 => ?_⟩
    exact ⟨t, t2, _, rfl, rfl, x3 _ _ k2, k3, out_plain wss ps, q H3 ((x1.trans x2).trans x3)⟩
end
end KK
namespace KK
open PySem L2 PyProof.Rows KKM PySem.Builtin PySem.Builtin.Str
def bk (t : Str) : Nat := t.cps.toList.count 32
def nf (t : Str) : Prop := 10 ∉ t.cps.toList
theorem app_list (x y : Str) : (x ++ y).cps.toList = x.cps.toList ++ y.cps.toList := by
  show (x.cps ++ y.cps).toList = _
  rw [Array.toList_append]
theorem nf_app {x y : Str} (h1 : nf x) (h2 : nf y) : nf (x ++ y) := fun z => by
  rw [app_list] at z
  exact (List.mem_append.mp z).elim h1 h2
theorem bk_app (x y : Str) : bk (x ++ y) = bk x + bk y := by unfold bk; rw [app_list, List.count_append]
structure RowB (b m : Nat) (r : Str) : Prop where
  nf : nf r
  bk : bk r <= b
  len : r.length <= m
theorem bk_none {t : Str} (h : 32 ∉ t.cps.toList) : bk t = 0 := List.count_eq_zero.mpr h
theorem nf_blank : nf " " := by unfold nf; decide +kernel
theorem bk_blank : bk " " = 1 := by decide +kernel
theorem len_blank : Str.length " " = 1 := by decide +kernel
theorem cut_row {x : Str} {i : Int} (h0 : 0 <= i) (h1 : i <= x.length) (hn : nf x) : nf (Txt.slice x none (some i)) /\ nf (Txt.slice x (some i) none) /\ nf (Txt.slice x (some (i + 1)) none) /\
    bk (Txt.slice x none (some i)) + bk (Txt.slice x (some i) none) = bk x /\ bk (Txt.slice x (some (i + 1)) none) <= bk (Txt.slice x (some i) none) /\
    (Txt.slice x none (some i)).length + (Txt.slice x (some i) none).length = x.length /\ (Txt.slice x (some (i + 1)) none).length <= (Txt.slice x (some i) none).length := by
  have a := slice_to h0 h1
  have b := slice_from h0 h1
  have c : (Txt.slice x (some (i + 1)) none).cps.toList = x.cps.toList.drop (i.toNat + 1) := by
    by_cases h : i + 1 <= x.length
    . rw [slice_from (by omega) h]; congr 1; omega
    . rw [slice_beyond (by omega), List.drop_of_length_le (by rw [<- len_list]; omega)]; rfl
  have sub : List.Sublist (x.cps.toList.drop (i.toNat + 1)) (x.cps.toList.drop i.toNat) := by
    rw [<- List.drop_drop]
    exact List.drop_sublist _ _
  refine ⟨fun z => hn ?_, fun z => hn ?_, fun z => hn ?_, ?_, ?_, len_parts h0 h1, ?_⟩
  . rw [a] at z; exact List.mem_of_mem_take z
  . rw [b] at z; exact List.mem_of_mem_drop z
  . rw [c] at z; exact List.mem_of_mem_drop z
  . unfold bk; rw [a, b, <- List.count_append, List.take_append_drop]
  . unfold bk; rw [b, c]; exact sub.count_le _
  . rw [len_list, len_list (Txt.slice x (some i) none), b, c]; exact sub.length_le
structure Parted (x p q r : Str) : Prop where
  eq : Txt.partition x " " = (p, q, r)
  sum : x = p ++ q ++ r
  nb : 32 ∉ p.cps.toList
  mid : q = " " \/ (q = "" /\ r = "")
theorem parted (x : Str) : ∃ p q r, Parted x p q r := by
  have hb : (" " : Str) = ⟨#[32]⟩ := by decide +kernel
  have hs := StrLaws.partition_sum x " "
  refine ⟨(Txt.partition x " ").1, (Txt.partition x " ").2.1, (Txt.partition x " ").2.2, rfl, hs.symm, ?_, ?_⟩
  . rcases PyProof.Rows.partition_head x " " with ⟨e, hn⟩ | ⟨i, e, hi, hn⟩
    . rw [e]
      intro hm
      obtain ⟨j, hj⟩ := List.getElem?_of_mem hm
      refine hn j ?_
      rw [hb]
      exact (StrLaws.subAt_one x 32 j).mpr hj
    . rw [e]
      intro hm
      obtain ⟨j, hj⟩ := List.getElem?_of_mem hm
      have e1 : (strSub x 0 i).cps.toList = x.cps.toList.take i := by
        show (x.cps.extract 0 i).toList = _
        rw [Array.toList_extract]; rfl
      rw [e1] at hj
      have hlt : j < i := by
        have := (List.getElem?_eq_some_iff.mp hj).1
        rw [List.length_take] at this
        omega
      rw [List.getElem?_take_of_lt hlt] at hj
      refine hn j hlt ?_
      rw [hb]
      exact (StrLaws.subAt_one x 32 j).mpr hj
  . unfold Txt.partition
    split
    . exact .inl rfl
    . exact .inr ⟨rfl, rfl⟩
theorem Parted.facts {x p q r : Str} (h : Parted x p q r) (hn : nf x) : nf p /\ nf q /\ nf r /\ bk p = 0 /\ bk q + bk r = bk x /\ bk q <= 1 /\ p.length + q.length + r.length = x.length /\ (bk r = 0 \/ bk r + 1 <= bk x) := by
  have e := h.sum
  have b0 := bk_none h.nb
  have b1 : bk x = bk p + bk q + bk r := by rw [e, bk_app, bk_app]
  have l1 : x.length = p.length + q.length + r.length := by rw [e, app_len, app_len]
  have m : ∀ c, c ∈ x.cps.toList ↔ c ∈ p.cps.toList \/ c ∈ q.cps.toList \/ c ∈ r.cps.toList := fun c => by
    rw [e, app_list, app_list, List.mem_append, List.mem_append, or_assoc]
  refine ⟨fun z => hn ((m 10).mpr (.inl z)), fun z => hn ((m 10).mpr (.inr (.inl z))), fun z => hn ((m 10).mpr (.inr (.inr z))), b0, by omega, ?_, by omega, ?_⟩
  . rcases h.mid with h | ⟨h, _⟩
    . rw [h, bk_blank]; exact Nat.le_refl _
    . rw [h]; exact Nat.zero_le _
  . rcases h.mid with h | ⟨_, h⟩
    . rw [h, bk_blank] at b1; right; omega
    . left; rw [h]; rfl
theorem dbl_facts {x : Str} (hn : nf x) : nf (dbl x) /\ bk (dbl x) <= bk x + 1 /\ (dbl x).length <= x.length + 1 := by
  obtain ⟨p, q, r, h⟩ := parted x
  obtain ⟨f1, f2, f3, f4, f5, f6, f7, _⟩ := h.facts hn
  unfold dbl
  by_cases hc : (occurrences x " " 0 x.length 1).isEmpty = true
  . rw [if_pos hc]; exact ⟨hn, by omega, by omega⟩
  . rw [if_neg hc]
    have hlen : (occurrences x " " 0 x.length 1).length <= 1 := StrLaws.occ_length_le x " " 0 x.length 1
    have he := h.eq
    unfold Txt.partition at he
    revert he hlen hc
    cases occurrences x " " 0 x.length 1 with
    | nil => intro hc _ _; exact absurd rfl hc
    | cons i rest =>
      intro _ hlen he
      have : rest = [] := by
        cases rest with
        | nil => rfl
        | cons a b => rw [List.length_cons, List.length_cons] at hlen; omega
      subst this
      have he' : (strSub x 0 i, (" " : Str), strSub x (i + Str.length " ") x.length) = (p, q, r) := he
      have e1 : strSub x 0 i = p := congrArg Prod.fst he'
      have e2 : (" " : Str) = q := congrArg (fun z => z.2.1) he'
      have e3 : strSub x (i + 1) x.length = r := congrArg (fun z => z.2.2) he'
      have g : glued "  " (partsBetween x [i] 1) = p ++ "  " ++ r := by
        rw [<- e1, <- e3]; rfl
      rw [g]
      have n2 : nf "  " := by unfold nf; decide +kernel
      have b2 : bk "  " = 2 := by decide +kernel
      have l2 : Str.length "  " = 2 := by decide +kernel
      have bq : bk q = 1 := by rw [<- e2]; exact bk_blank
      have lq : q.length = 1 := by rw [<- e2]; exact len_blank
      refine ⟨nf_app (nf_app f1 n2) f3, ?_, ?_⟩
      . rw [bk_app, bk_app]; omega
      . rw [app_len, app_len]; omega
theorem glued_list : ∀ (ws : List Str) (a : Array Nat), (ws.foldl (fun acc p => acc ++ (Str.cps "") ++ p.cps) a).toList = a.toList ++ (ws.map fun y => y.cps.toList).flatten
  | [], a => by simp
  | y :: ws, a => by
    rw [List.foldl_cons, glued_list ws, List.map_cons, List.flatten_cons, Array.toList_append, Array.toList_append, show (Str.cps "").toList = [] by decide +kernel, List.append_nil, List.append_assoc]
theorem flat_len : ∀ (ws : List Str), (ws.map fun y => y.cps.toList).flatten.length <= tot ws
  | [] => Nat.zero_le _
  | y :: ws => by
    rw [List.map_cons, List.flatten_cons, List.length_append, tot_cons, <- len_list]
    have := flat_len ws
    omega
theorem glued_facts {ws : List Str} (h1 : ws ≠ []) (h2 : ∀ y ∈ ws, 32 ∉ y.cps.toList) (h3 : ∀ y ∈ ws, 10 ∉ y.cps.toList) : nf (glued "" ws) /\ bk (glued "" ws) = 0 /\ (glued "" ws).length <= tot ws := by
  obtain ⟨a, r, rfl⟩ := List.exists_cons_of_ne_nil h1
  have e : (glued "" (a :: r)).cps.toList = ((a :: r).map fun y => y.cps.toList).flatten := glued_list r a.cps
  refine ⟨?_, ?_, ?_⟩
  . unfold nf
    rw [e]
    intro z
    obtain ⟨l, hl, hz⟩ := List.mem_flatten.mp z
    obtain ⟨y, hy, rfl⟩ := List.mem_map.mp hl
    exact h3 y hy hz
  . refine bk_none ?_
    rw [e]
    intro z
    obtain ⟨l, hl, hz⟩ := List.mem_flatten.mp z
    obtain ⟨y, hy, rfl⟩ := List.mem_map.mp hl
    exact h2 y hy hz
  . rw [len_list, e]; exact flat_len _
theorem repl_facts {x : Str} (hn : nf x) : nf (Txt.replace x " " "") /\ bk (Txt.replace x " " "") <= bk x /\ (Txt.replace x " " "").length <= x.length + 1 := by
  unfold Txt.replace
  by_cases hc : ((occurrences x " " 0 x.length (x.length + 1)).isEmpty || (Str.length " " == 0 && Str.length "" == 0)) = true
  . rw [if_pos hc]; exact ⟨hn, Nat.le_refl _, by omega⟩
  . rw [if_neg hc]
    have hc1 : (occurrences x " " 0 x.length (x.length + 1)).isEmpty = false := (Bool.or_eq_false_iff.mp (eq_false_of_ne_true hc)).1
    obtain ⟨ws, w1, w2, w3, rfl⟩ := row_words hn
    have hsp := split_row w1 w2
    have hk : ¬ (decide ((rowW ws).length < Str.length " ") || decide (PySem.Builtin.Str.strKind (rowW ws) < PySem.Builtin.Str.strKind " ")) = true := by
      intro z
      rcases Bool.or_eq_true_iff.mp z with z | z
      . have z := of_decide_eq_true z
        rw [len_blank] at z
        rcases StrLaws.occ_head (rowW ws) " " ((rowW ws).length + 1) (by omega) with ⟨h0, _⟩ | ⟨i, r, h0, hi, _⟩
        . rw [h0] at hc1; cases hc1
        . have := hi.1
          rw [len_blank] at this
          omega
      . have z := of_decide_eq_true z
        have k1 : PySem.Builtin.Str.strKind " " = 1 := by decide +kernel
        rw [k1] at z
        unfold PySem.Builtin.Str.strKind at z
        split at z
        . omega
        . split at z <;> omega
    have e : partsBetween (rowW ws) (occurrences (rowW ws) " " 0 (rowW ws).length ((rowW ws).length + 1)) (Str.length " ") = ws := by
      have h2 := hsp
      unfold Txt.split at h2
      rw [if_neg hk, if_neg (by rw [hc1]; exact Bool.false_ne_true)] at h2
      exact h2
    rw [e]
    obtain ⟨g1, g2, g3⟩ := glued_facts w1 w2 w3
    have := wd_tot w1
    exact ⟨g1, by omega, by omega⟩
section
variable {P : Program} {w : World} {K : W.Frag} {mg : Str -> Option Value} {base : Heap} {f g g2 g3 g4 : Addr} {fd gd gd2 gd3 gd4 : FuncData} {k j : Nat}
def spSign : Sp := fun vs H Q _ => ∃ a : Addr, vs = [.ref a] /\ FlowAt H a /\ ∀ (r : Str) (H' : Hp), RowB 1 1 r -> FlowAt H' a -> Ext a H H' -> Q (.str r) H'
theorem sc_sign : FnScope ["_law_flow_here", "_law_signs"] ["_law_flow_here"] (defScope s_law_sign) := ⟨rfl, rfl, rfl, by decide +kernel, rfl, by decide +kernel, by decide +kernel⟩
def sgns : Str := " !\"#$&'()*+,-./0123456789:;<=>?@ABCDEFGHIJKLMNOPQRSTUVWXYZ[]^_`abcdefghijklmnopqrstuvwxyz{|}~"
theorem sgn_len : sgns.length = 93 := by decide +kernel
theorem sgn_nf : ∀ c ∈ sgns.cps.toList, c ≠ 10 := by decide +kernel
theorem ok_sign (F : Fun K "_law_sign" "_law_sign" s_law_sign f fd) (B : Bt mg) (G__law_draw : Fn P w K mg base k "_law_draw" ["_law_flow_here", "_law_many"] spDraw g gd) : FnOk P w K mg base CX0 (k + 1) f fd ["_law_flow_here"] spSign := by
  refine F.ok sc_sign (fun vs H Q E h => ?_) (fun cdv A outer s H vs Q E hr h => ?_)
  . obtain ⟨a, rfl, _⟩ := h
    rfl
  obtain ⟨a, rfl, hF, q⟩ := h
  have nd := sc_sign.nd
  refine ⟨_, (pss_cons (ps_set (i := 1) nd rfl (Or.inl rfl) pe_str) (pss_one (ps_ret (pe_ix ix_str (pv 1) (pe_call G__law_draw.ok hr rfl G__law_draw.at_ G__law_draw.kp G__law_draw.bn .nil pass0 (pa_cons (pv 0) (pa_cons (pe_callB call_len_str rfl B.len_ PySem.boot_len (pa_cons (pv 1) pa_nil)) pa_nil))) (fun _ _ => rfl))))), ?_⟩
  have hlen := sgn_len
  refine ⟨_, rfl, _, rfl, _, rfl, sgns, rfl, lineM (by omega), a, _, rfl, hF, by omega, by omega, fun r H1 h0 h1 f1 x1 => ?_⟩
  have hi : r.toNat < sgns.cps.toList.length := by rw [<- len_list]; omega
  have hat : atI sgns.cps.toList r = some sgns.cps.toList[r.toNat] := by
    have := atI_nat (List.getElem?_eq_getElem hi)
    rwa [show ((r.toNat : Nat) : Int) = r by omega] at this
  refine ⟨sgns, r, _, rfl, rfl, lineM (by omega), hat, q _ H1 ⟨?_, ?_, Nat.le_refl _⟩ f1 x1⟩
  . intro z
    exact sgn_nf _ (List.getElem_mem hi) (List.mem_singleton.mp z).symm
  . exact List.count_le_length
theorem at_last {xs : List V} {x : V} : atI (xs ++ [x]) (-1) = some x := by
  have l : (xs ++ [x]).length = xs.length + 1 := by simp
  have e : ((-1 : Int) + ((xs ++ [x]).length : Nat)).toNat = xs.length := by rw [l]; omega
  unfold atI ixN
  rw [if_neg (by decide), if_pos (by rw [l]; omega), e]
  simp
end
end KK
namespace KK
open PySem L2 PyProof.Rows KKM PySem.Builtin PySem.Builtin.Str
section
variable {P : Program} {w : World} {K : W.Frag} {mg : Str -> Option Value} {base : Heap} {f g g2 g3 g4 : Addr} {fd gd gd2 gd3 gd4 : FuncData} {k j : Nat}
def spOth : Sp := fun vs H Q _ => ∃ (a : Addr) (row letter : Str) (b m : Nat), vs = [.ref a, .str row, .str letter] /\ FlowAt H a /\ RowB b m row /\ RowB 0 m letter /\ m <= 10000 /\ ∀ (r : Str) (H' : Hp), RowB (b + 1) (2 * m + 10) r -> FlowAt H' a -> Ext a H H' -> Q (.str r) H'
theorem sc_oth : FnScope ["_law_flow_here", "_law_row", "_law_letter", "_law_form", "_law_at", "_law_word", "_law_blank", "_law_rest"] ["_law_flow_here", "_law_row", "_law_letter"] (defScope s_law_otherwise) := ⟨rfl, rfl, rfl, by decide +kernel, rfl, by decide +kernel, by decide +kernel⟩
theorem ok_oth (F : Fun K "_law_otherwise" "_law_otherwise" s_law_otherwise f fd) (B : Bt mg) (G__law_draw : Fn P w K mg base (k + 1) "_law_draw" ["_law_flow_here", "_law_many"] spDraw g gd) (G__law_sign : Fn P w K mg base (k + 1) "_law_sign" ["_law_flow_here"] spSign g2 gd2) : FnOk P w K mg base CX0 (k + 2) f fd ["_law_flow_here", "_law_row", "_law_letter"] spOth := by
  refine F.ok sc_oth (fun vs H Q E h => ?_) (fun cdv A outer s H vs Q E hr h => ?_)
  . obtain ⟨a, row, letter, b, m, rfl, _⟩ := h
    rfl
  obtain ⟨a, row, letter, b, m, rfl, hF, hR, hL, hm, q⟩ := h
  have nd := sc_oth.nd
  have rl := hR.len
  have rb := hR.bk
  have hn := hR.nf
  have ll := hL.len
  have lb := hL.bk
  have hline := line_200
  refine ⟨_, (pss_cons (ps_set (i := 3) nd rfl (Or.inl rfl) (pe_call G__law_draw.ok hr rfl G__law_draw.at_ G__law_draw.kp G__law_draw.bn .nil pass0 (pa_cons (pv 0) (pa_cons pe_int pa_nil)))) (pss_cons (ps_set (i := 4) nd rfl (Or.inl rfl) (pe_call G__law_draw.ok hr rfl G__law_draw.at_ G__law_draw.kp G__law_draw.bn .nil pass0 (pa_cons (pv 0) (pa_cons (pe_op op_add (pe_callB call_len_str rfl B.len_ PySem.boot_len (pa_cons (pv 1) pa_nil)) pe_int) pa_nil)))) (pss_cons (ps_if (pt_cmpR op_lt (pv 3) pe_int (nomark _)) (pss_one (ps_ret (pe_op op_add_str (pe_op op_add_str (pe_slice sl_str (pv 1) po_none (po_some (pv 4))) (pe_call G__law_sign.ok hr rfl G__law_sign.at_ G__law_sign.kp G__law_sign.bn .nil pass0 (pa_cons (pv 0) pa_nil))) (pe_slice sl_str (pv 1) (po_some (pe_op op_add (pv 4) pe_int)) po_none)))) pss_nil) (pss_cons (ps_if (pt_cmpR op_eq (pv 3) pe_int (nomark _)) (pss_one (ps_ret (pe_op op_add_str (pe_op op_add_str (pe_slice sl_str (pv 1) po_none (po_some (pv 4))) (pe_call G__law_sign.ok hr rfl G__law_sign.at_ G__law_sign.kp G__law_sign.bn .nil pass0 (pa_cons (pv 0) pa_nil))) (pe_slice sl_str (pv 1) (po_some (pv 4)) po_none)))) pss_nil) (pss_cons (ps_if (pt_cmpR op_eq (pv 3) pe_int (nomark _)) (pss_one (ps_ret (pe_op op_add_str (pe_slice sl_str (pv 1) po_none (po_some (pv 4))) (pe_slice sl_str (pv 1) (po_some (pe_op op_add (pv 4) pe_int)) po_none)))) pss_nil) (pss_cons (ps_if (pt_cmpR op_eq (pv 3) pe_int (nomark _)) (pss_one (ps_ret (pe_ix ix_list (pe_four (i := 1) rfl (Or.inl rfl) (by decide) (by decide) rfl rfl) (pe_call G__law_draw.ok hr rfl G__law_draw.at_ G__law_draw.kp G__law_draw.bn .nil pass0 (pa_cons (pv 0) (pa_cons pe_int pa_nil))) (fun _ _ => rfl)))) pss_nil) (pss_cons (ps_if (pt_cmpR op_eq (pv 3) pe_int (nomark _)) (pss_one (ps_ret (pe_ix ix_tup (pe_bm (T := "str") (name := "partition") (id := "str.partition") PySem.F.plainAttrs_str PySem.F.slot_str_partition PySem.F.type_str_partition mt_part (pv 1) (pa_cons pe_str pa_nil)) pe_int (fun _ _ => rfl)))) pss_nil) (pss_cons (ps_if (pt_cmpR op_eq (pv 3) pe_int (nomark _)) (pss_cons (ps_asg (pe_bm (T := "str") (name := "partition") (id := "str.partition") PySem.F.plainAttrs_str PySem.F.slot_str_partition PySem.F.type_str_partition mt_part (pv 1) (pa_cons pe_str pa_nil)) (pg_tup rfl (pgs_cons (pg_name (i := 5) nd rfl (Or.inl rfl)) (pgs_cons (pg_name (i := 6) nd rfl (Or.inl rfl)) (pgs_cons (pg_name (i := 7) nd rfl (Or.inl rfl)) pgs_nil))))) (pss_one (ps_ret (pe_op op_add_str (pe_op op_add_str (pe_slice sl_str (pe_op op_add_str (pv 5) pe_str) po_none (po_some pe_int)) (pv 6)) (pv 7))))) pss_nil) (pss_cons (ps_if (pt_cmpR op_eq (pv 3) pe_int (nomark _)) (pss_one (ps_ret (pe_op op_add_str (pe_op op_add_str (pv 2) pe_str) (pe_ix ix_tup (pe_bm (T := "str") (name := "partition") (id := "str.partition") PySem.F.plainAttrs_str PySem.F.slot_str_partition PySem.F.type_str_partition mt_part (pv 1) (pa_cons pe_str pa_nil)) pe_int (fun _ _ => rfl))))) pss_nil) (pss_cons (ps_if (pt_cmpR op_eq (pv 3) pe_int (nomark _)) (pss_one (ps_ret (pe_op op_add_str (pe_op op_add_str (pv 1) pe_str) (pe_ix ix_list (pe_bm (T := "str") (name := "split") (id := "str.split") PySem.F.plainAttrs_str PySem.F.slot_str_split PySem.F.type_str_split mt_split (pv 1) (pa_cons pe_str pa_nil)) pe_neg1 (fun _ _ => rfl))))) pss_nil) (pss_one (ps_ret pe_str)))))))))))), ?_⟩
  refine ⟨_, rfl, a, 10, rfl, hF, by decide, by decide, fun fm H1 fm0 fm1 f1 x1 => ?_⟩
  refine ⟨_, rfl, _, rfl, row, rfl, lineM (by omega), _, _, rfl, rfl, a, _, rfl, f1, by omega, by omega, fun at' H2 a0 a1 f2 x2 => ?_⟩
  have y2 := x1.trans x2
  have hat : at' <= (row.length : Int) := by omega
  obtain ⟨c1, c2, c3, c4, c5, c6, c7⟩ := cut_row a0 hat hn
  obtain ⟨p, qq, r, hP⟩ := parted row
  obtain ⟨p1, p2, p3, p4, p5, p6, p7, p8⟩ := hP.facts hn
  have nfb := nf_blank
  have bkb := bk_blank
  have lnb := len_blank
  refine ⟨_, rfl, _, _, rfl, rfl, _, rfl, ?_⟩
  refine ite2 (fun _ => ?_) (fun _ => ?_)
  . refine ⟨_, rfl, _, rfl, _, rfl, row, rfl, lineM (by omega), ?_⟩
    refine ⟨_, rfl, a, rfl, f2, fun sg H3 hs f3 x3 => ?_⟩
    have s1 := hs.bk
    have s2 := hs.len
    refine ⟨_, _, rfl, rfl, lineM (by omega), ?_⟩
    refine ⟨_, rfl, _, rfl, _, _, rfl, rfl, _, rfl, row, rfl, lineM (by omega), ?_⟩
    refine ⟨_, _, rfl, rfl, lineM (by rw [app_len]; omega), q _ H3 ⟨nf_app (nf_app c1 hs.nf) c3, ?_, ?_⟩ f3 (y2.trans x3)⟩
    . rw [bk_app, bk_app]; omega
    . rw [app_len, app_len]; omega
  refine ⟨_, rfl, rfl, _, rfl, ?_⟩
  refine ite2 (fun _ => ?_) (fun _ => ?_)
  . refine ⟨_, rfl, _, rfl, _, rfl, row, rfl, lineM (by omega), ?_⟩
    refine ⟨_, rfl, a, rfl, f2, fun sg H3 hs f3 x3 => ?_⟩
    have s1 := hs.bk
    have s2 := hs.len
    refine ⟨_, _, rfl, rfl, lineM (by omega), ?_⟩
    refine ⟨_, rfl, _, rfl, _, rfl, row, rfl, lineM (by omega), ?_⟩
    refine ⟨_, _, rfl, rfl, lineM (by rw [app_len]; omega), q _ H3 ⟨nf_app (nf_app c1 hs.nf) c2, ?_, ?_⟩ f3 (y2.trans x3)⟩
    . rw [bk_app, bk_app]; omega
    . rw [app_len, app_len]; omega
  refine ⟨_, rfl, rfl, _, rfl, ?_⟩
  refine ite2 (fun _ => ?_) (fun _ => ?_)
  . refine ⟨_, rfl, _, rfl, _, rfl, row, rfl, lineM (by omega), ?_⟩
    refine ⟨_, rfl, _, rfl, _, _, rfl, rfl, _, rfl, row, rfl, lineM (by omega), ?_⟩
    refine ⟨_, _, rfl, rfl, lineM (by omega), q _ H2 ⟨nf_app c1 c3, ?_, ?_⟩ f2 y2⟩
    . rw [bk_app]; omega
    . rw [app_len]; omega
  refine ⟨_, rfl, rfl, _, rfl, ?_⟩
  refine ite2 (fun _ => ?_) (fun _ => ?_)
  . refine ⟨row, rfl, by omega, fun l hl => ?_⟩
    have x3 : Ext a H2 (upd H2 l (.lst [.str (" " ++ row), .str (row ++ " "), .str (dbl row), .str (Txt.replace row " " "")])) := Ext.new hl
    have f3 := f2.new (o := .lst [.str (" " ++ row), .str (row ++ " "), .str (dbl row), .str (Txt.replace row " " "")]) hl
    have nla := ne_flow hl f2
    refine ⟨_, rfl, a, 4, rfl, f3, by decide, by decide, fun i H4 i0 i1 f4 x4 => ?_⟩
    have k4 : H4 l = some (.lst [.str (" " ++ row), .str (row ++ " "), .str (dbl row), .str (Txt.replace row " " "")]) := x4 _ _ nla upd_same
    have y4 := (y2.trans x3).trans x4
    obtain ⟨d1, d2, d3⟩ := dbl_facts hn
    obtain ⟨e1, e2, e3⟩ := repl_facts hn
    have all : ∀ z ∈ [" " ++ row, row ++ " ", dbl row, Txt.replace row " " ""], RowB (b + 1) (2 * m + 10) z := by
      intro z hz
      rcases List.mem_cons.mp hz with rfl | hz
      . exact ⟨nf_app nfb hn, by rw [bk_app]; omega, by rw [app_len]; omega⟩
      rcases List.mem_cons.mp hz with rfl | hz
      . exact ⟨nf_app hn nfb, by rw [bk_app]; omega, by rw [app_len]; omega⟩
      rcases List.mem_cons.mp hz with rfl | hz
      . exact ⟨d1, by omega, by omega⟩
      . rw [List.mem_singleton.mp hz]; exact ⟨e1, by omega, by omega⟩
    have hi : i.toNat < ([" " ++ row, row ++ " ", dbl row, Txt.replace row " " ""] : List Str).length := by show i.toNat < 4; omega
    have hz := List.getElem_mem hi
    have hat : atI ([" " ++ row, row ++ " ", dbl row, Txt.replace row " " ""].map V.str) i = some (.str ([" " ++ row, row ++ " ", dbl row, Txt.replace row " " ""][i.toNat]'hi)) := by
      have := atI_nat (xs := [" " ++ row, row ++ " ", dbl row, Txt.replace row " " ""].map V.str) (j := i.toNat) (v := .str ([" " ++ row, row ++ " ", dbl row, Txt.replace row " " ""][i.toNat]'hi)) (by rw [List.getElem?_map, List.getElem?_eq_getElem hi]; rfl)
      rwa [show ((i.toNat : Nat) : Int) = i by omega] at this
    exact ⟨l, _, i, _, rfl, rfl, SqL.of k4, hat, q _ H4 (all _ hz) f4 y4⟩
  refine ⟨_, rfl, rfl, _, rfl, ?_⟩
  refine ite2 (fun _ => ?_) (fun _ => ?_)
  . refine ⟨_, rfl, rfl, row, " ", rfl, rfl, rfl, lineM (by omega), fun l hl => ?_⟩
    rw [hP.eq]
    exact ⟨l, _, 0, _, rfl, rfl, SqT.of upd_same, atI_nat (j := 0) (v := V.str p) rfl, q _ _ ⟨p1, by omega, by omega⟩ (f2.new hl) (y2.trans (Ext.new hl))⟩
  refine ⟨_, rfl, rfl, _, rfl, ?_⟩
  refine ite2 (fun _ => ?_) (fun _ => ?_)
  . refine ⟨_, rfl, rfl, row, " ", rfl, rfl, rfl, lineM (by omega), fun l hl => ?_⟩
    rw [hP.eq]
    refine ⟨l, _, rfl, SqT.of upd_same, rfl, _, _, rfl, _, _, rfl, _, _, rfl, rfl, ?_⟩
    have l9 : Str.length "abcdefghi" = 9 := by decide +kernel
    have n9 : nf "abcdefghi" := by unfold nf; decide +kernel
    have b9 : bk "abcdefghi" = 0 := by decide +kernel
    have hl9 := app_len p "abcdefghi"
    have hs9 := slice_to (x := p ++ "abcdefghi") (j := 9) (by decide) (by omega)
    have hl9' : (Txt.slice (p ++ "abcdefghi") none (some 9)).length <= 9 := by rw [len_list, hs9, List.length_take]; omega
    have hn9 : nf (Txt.slice (p ++ "abcdefghi") none (some 9)) := fun z => by
      rw [hs9] at z; exact nf_app p1 n9 (List.mem_of_mem_take z)
    have hb9 : bk (Txt.slice (p ++ "abcdefghi") none (some 9)) = 0 := by
      have h : bk (p ++ "abcdefghi") = 0 := by rw [bk_app]; omega
      refine bk_none ?_
      rw [hs9]
      exact fun z => List.count_eq_zero.mp h (List.mem_of_mem_take z)
    refine ⟨_, rfl, p, "abcdefghi", rfl, rfl, lineM (by omega), 9, rfl, p ++ "abcdefghi", rfl, lineM (by omega), ?_⟩
    refine ⟨_, rfl, _, qq, rfl, rfl, lineM (by omega), ?_⟩
    refine ⟨_, rfl, _, r, rfl, rfl, lineM (by rw [app_len]; omega), q _ _ ⟨nf_app (nf_app hn9 p2) p3, by rw [bk_app, bk_app]; omega, by rw [app_len, app_len]; omega⟩ (f2.new hl) (y2.trans (Ext.new hl))⟩
  refine ⟨_, rfl, rfl, _, rfl, ?_⟩
  refine ite2 (fun _ => ?_) (fun _ => ?_)
  . refine ⟨_, rfl, _, _, rfl, rfl, lineM (by omega), ?_⟩
    refine ⟨_, rfl, rfl, row, " ", rfl, rfl, rfl, lineM (by omega), fun l hl => ?_⟩
    rw [hP.eq]
    refine ⟨l, _, 2, _, rfl, rfl, SqT.of upd_same, atI_nat (j := 2) (v := V.str r) rfl, ?_⟩
    refine ⟨_, _, rfl, rfl, lineM (by rw [app_len]; omega), q _ _ ⟨nf_app (nf_app hL.nf nfb) p3, by rw [bk_app, bk_app]; omega, by rw [app_len, app_len]; omega⟩ (f2.new hl) (y2.trans (Ext.new hl))⟩
  refine ⟨_, rfl, rfl, _, rfl, ?_⟩
  refine ite2 (fun _ => ?_) (fun _ => ?_)
  . obtain ⟨ws, w1, w2, w3, hw⟩ := row_words hn
    have hsp : Txt.split row " " = ws := by rw [hw]; exact split_row w1 w2
    have hlen : ws.length <= row.length + 1 := by
      have a := wd_tot w1
      have b := tot_len ws
      rw [<- hw] at a
      omega
    refine ⟨_, rfl, _, _, rfl, rfl, lineM (by omega), ?_⟩
    refine ⟨_, rfl, rfl, _, _, rfl, rfl, rfl, lineM (by omega), by rw [hsp]; exact lineM (by omega), fun l hl => ?_⟩
    rw [hsp]
    obtain ⟨us, y, rfl⟩ : ∃ us y, ws = us ++ [y] := ⟨ws.dropLast, ws.getLast w1, (List.dropLast_concat_getLast w1).symm⟩
    have hy : y ∈ us ++ [y] := List.mem_append.mpr (.inr List.mem_cons_self)
    have ty := tot_mem hy
    have a := wd_tot w1
    rw [<- hw] at a
    refine ⟨l, _, -1, .str y, rfl, rfl, SqL.of upd_same, by rw [List.map_append]; exact at_last, ?_⟩
    have by0 := bk_none (w2 y hy)
    refine ⟨_, _, rfl, rfl, lineM (by rw [app_len]; omega), q _ _ ⟨nf_app (nf_app hn nfb) (w3 y hy), by rw [bk_app, bk_app]; omega, by rw [app_len, app_len]; omega⟩ (f2.new hl) (y2.trans (Ext.new hl))⟩
  . exact q "" H2 ⟨by unfold nf; decide +kernel, Nat.zero_le _, Nat.zero_le _⟩ f2 y2
end
end KK
namespace KK
open PySem L2 PyProof.Rows KKM PySem.Builtin PySem.Builtin.Str
def TxB (b m : Nat) (t : Str) : Prop := ∃ rows : List Str, rows ≠ [] /\ rows.length <= 6 /\ (∀ r ∈ rows, RowB b m r) /\ t = Txt.join "\n" rows
theorem RowB.up {b b' m m' : Nat} {r : Str} (h : RowB b m r) (h1 : b <= b') (h2 : m <= m') : RowB b' m' r := ⟨h.nf, Nat.le_trans h.bk h1, Nat.le_trans h.len h2⟩
theorem rowB_empty (b m : Nat) : RowB b m "" := ⟨by unfold nf; decide +kernel, Nat.zero_le _, Nat.zero_le _⟩
theorem tot_le {m : Nat} : ∀ {rows : List Str}, (∀ r ∈ rows, r.length <= m) -> tot rows <= rows.length * (m + 1)
  | [], _ => Nat.zero_le _
  | r :: rows, h => by
    have ih := tot_le (rows := rows) fun r hr => h r (List.mem_cons_of_mem _ hr)
    have := h r List.mem_cons_self
    rw [tot_cons, List.length_cons, Nat.succ_mul]
    omega
theorem sum_tot (rows : List Str) : (rows.map (·.length)).sum + rows.length * Str.length "\n" = tot rows := by
  have e : Str.length "\n" = 1 := by decide +kernel
  rw [e, Nat.mul_one]
  induction rows with
  | nil => rfl
  | cons r rows ih => rw [List.map_cons, List.sum_cons, List.length_cons, tot_cons]; omega
theorem join_fits {b m : Nat} {rows : List Str} (h : ∀ r ∈ rows, RowB b m r) (hl : rows.length <= 7) (hm : m <= 1000000) : (rows.map (·.length)).sum + rows.length * Str.length "\n" <= 16777216 := by
  have a := tot_le (m := m) (rows := rows) fun r hr => (h r hr).len
  have c : rows.length * (m + 1) <= 7 * (m + 1) := Nat.mul_le_mul_right _ hl
  rw [sum_tot]
  omega
theorem TxB.split {b m : Nat} {rows : List Str} (h1 : rows ≠ []) (h : ∀ r ∈ rows, RowB b m r) : Txt.split (Txt.join "\n" rows) "\n" = rows := by
  rw [sp_feed]
  exact TX.split_join h1 fun y hy => (h y hy).nf
theorem TxB.len {b m : Nat} {rows : List Str} (h1 : rows ≠ []) (h6 : rows.length <= 6) (h : ∀ r ∈ rows, RowB b m r) : (Txt.join "\n" rows).length <= 6 * (m + 1) := by
  have a := tot_le (m := m) (rows := rows) fun r hr => (h r hr).len
  have c : rows.length * (m + 1) <= 6 * (m + 1) := Nat.mul_le_mul_right _ h6
  have d := len_join 10 h1
  rw [<- sp_feed] at d
  omega
theorem cut_from (xs : List V) (k : Nat) (h : k <= xs.length) : cutV xs (some (k : Int)) none = xs.drop k := by
  unfold cutV
  rw [HT.sIx_none, HT.sIx_nat, Nat.min_eq_left h]
  exact List.take_of_length_le (by rw [List.length_drop]; exact Nat.le_refl _)
section
variable {P : Program} {w : World} {K : W.Frag} {mg : Str -> Option Value} {base : Heap} {f g g2 g3 g4 : Addr} {fd gd gd2 gd3 gd4 : FuncData} {k j : Nat}
def spSpo : Sp := fun vs H Q _ => ∃ (a : Addr) (t : Str) (b m : Nat), vs = [.ref a, .str t] /\ FlowAt H a /\ TxB b m t /\ m <= 10000 /\ ∀ (t' : Str) (H' : Hp), TxB (b + 1) (2 * m + 10) t' -> FlowAt H' a -> Ext a H H' -> Q (.str t') H'
theorem sc_spo : FnScope ["_law_flow_here", "_law_text", "_law_rows", "_law_at", "_law_form", "_law_spot", "_law_letter"] ["_law_flow_here", "_law_text"] (defScope s_law_spoilt) := ⟨rfl, rfl, rfl, by decide +kernel, rfl, by decide +kernel, by decide +kernel⟩
theorem ok_spo (F : Fun K "_law_spoilt" "_law_spoilt" s_law_spoilt f fd) (B : Bt mg) (G__law_draw : Fn P w K mg base (k + 2) "_law_draw" ["_law_flow_here", "_law_many"] spDraw g gd) (G__law_otherwise : Fn P w K mg base (k + 2) "_law_otherwise" ["_law_flow_here", "_law_row", "_law_letter"] spOth g2 gd2) : FnOk P w K mg base CX0 (k + 3) f fd ["_law_flow_here", "_law_text"] spSpo := by
  refine F.ok sc_spo (fun vs H Q E h => ?_) (fun cdv A outer s H vs Q E hr h => ?_)
  . obtain ⟨a, t, b, m, rfl, _⟩ := h
    rfl
  obtain ⟨a, t, b, m, rfl, hF, ⟨rows, r1, r6, rb, rfl⟩, hm, q⟩ := h
  have nd := sc_spo.nd
  have hline := line_200
  have hlen := TxB.len r1 r6 rb
  have hsp := TxB.split r1 rb
  have hpos : 1 <= rows.length := List.length_pos_iff.mpr r1
  have ru : ∀ r ∈ rows, RowB (b + 1) (2 * m + 10) r := fun r hr => (rb r hr).up (by omega) (by omega)
  have lm : (rows.map V.str).length = rows.length := List.length_map _
  refine ⟨_, (pss_cons (ps_set (i := 2) nd rfl (Or.inl rfl) (pe_bm (T := "str") (name := "split") (id := "str.split") PySem.F.plainAttrs_str PySem.F.slot_str_split PySem.F.type_str_split mt_split (pv 1) (pa_cons pe_str pa_nil))) (pss_cons (ps_set (i := 3) nd rfl (Or.inl rfl) (pe_call G__law_draw.ok hr rfl G__law_draw.at_ G__law_draw.kp G__law_draw.bn .nil pass0 (pa_cons (pv 0) (pa_cons (pe_callB call_len_seq rfl B.len_ PySem.boot_len (pa_cons (pv 2) pa_nil)) pa_nil)))) (pss_cons (ps_set (i := 4) nd rfl (Or.inl rfl) (pe_call G__law_draw.ok hr rfl G__law_draw.at_ G__law_draw.kp G__law_draw.bn .nil pass0 (pa_cons (pv 0) (pa_cons pe_int pa_nil)))) (pss_cons (ps_if (PW.pt (pw_and (pt_cmpR op_eq (pv 4) pe_int (nomark _)) (pw_and1 (pt_cmpR op_lt (pe_callB call_len_seq rfl B.len_ PySem.boot_len (pa_cons (pv 2) pa_nil)) pe_int (nomark _))))) (pss_cons (ps_set (i := 5) nd rfl (Or.inl rfl) (pe_call G__law_draw.ok hr rfl G__law_draw.at_ G__law_draw.kp G__law_draw.bn .nil pass0 (pa_cons (pv 0) (pa_cons (pe_op op_add (pe_callB call_len_seq rfl B.len_ PySem.boot_len (pa_cons (pv 2) pa_nil)) pe_int) pa_nil)))) (pss_one (ps_ret (pe_bm (T := "str") (name := "join") (id := "str.join") PySem.F.plainAttrs_str PySem.F.slot_str_join PySem.F.type_str_join mt_join pe_str (pa_cons (pe_op op_cat (pe_op op_cat (pe_slice sl_list (pv 2) po_none (po_some (pv 5))) (pe_lst (pa_cons pe_str pa_nil))) (pe_slice sl_list (pv 2) (po_some (pv 5)) po_none)) pa_nil))))) pss_nil) (pss_cons (ps_if (pt_cmpR op_eq (pv 4) pe_int (nomark _)) (pss_one (ps_ret (pe_bm (T := "str") (name := "join") (id := "str.join") PySem.F.plainAttrs_str PySem.F.slot_str_join PySem.F.type_str_join mt_join pe_str (pa_cons (pe_op op_cat (pe_slice sl_list (pv 2) po_none (po_some (pv 3))) (pe_slice sl_list (pv 2) (po_some (pe_op op_add (pv 3) pe_int)) po_none)) pa_nil)))) pss_nil) (pss_cons (ps_set (i := 6) nd rfl (Or.inl rfl) (pe_ix ix_tup (pe_bm (T := "str") (name := "partition") (id := "str.partition") PySem.F.plainAttrs_str PySem.F.slot_str_partition PySem.F.type_str_partition mt_part (pe_ix ix_list (pv 2) (pe_call G__law_draw.ok hr rfl G__law_draw.at_ G__law_draw.kp G__law_draw.bn .nil pass0 (pa_cons (pv 0) (pa_cons (pe_callB call_len_seq rfl B.len_ PySem.boot_len (pa_cons (pv 2) pa_nil)) pa_nil))) (fun _ _ => rfl)) (pa_cons pe_str pa_nil)) pe_int (fun _ _ => rfl))) (pss_one (ps_ret (pe_bm (T := "str") (name := "join") (id := "str.join") PySem.F.plainAttrs_str PySem.F.slot_str_join PySem.F.type_str_join mt_join pe_str (pa_cons (pe_op op_cat (pe_op op_cat (pe_slice sl_list (pv 2) po_none (po_some (pv 3))) (pe_lst (pa_cons (pe_call G__law_otherwise.ok hr rfl G__law_otherwise.at_ G__law_otherwise.kp G__law_otherwise.bn .nil pass0 (pa_cons (pv 0) (pa_cons (pe_ix ix_list (pv 2) (pv 3) (fun _ _ => rfl)) (pa_cons (pv 6) pa_nil)))) pa_nil))) (pe_slice sl_list (pv 2) (po_some (pe_op op_add (pv 3) pe_int)) po_none)) pa_nil)))))))))), ?_⟩
  refine ⟨_, rfl, rfl, _, _, rfl, rfl, rfl, lineM (by omega), by rw [hsp]; exact lineM (by omega), fun l hl => ?_⟩
  rw [hsp]
  have x1 : Ext a H (upd H l (.lst (rows.map V.str))) := Ext.new hl
  have f1 := hF.new (o := .lst (rows.map V.str)) hl
  have nla := ne_flow hl hF
  have k1 : upd H l (.lst (rows.map V.str)) l = some (.lst (rows.map V.str)) := upd_same
  generalize upd H l (.lst (rows.map V.str)) = H1 at x1 f1 k1 ⊢
  refine ⟨_, rfl, _, rfl, l, _, rfl, .inl (SqL.of k1), a, _, rfl, f1, by omega, by omega, fun at' H2 a0 a1 f2 x2 => ?_⟩
  rw [lm] at a1
  have k2 := x2 _ _ nla k1
  refine ⟨_, rfl, a, 8, rfl, f2, by decide, by decide, fun fm H3 m0 m1 f3 x3 => ?_⟩
  have k3 := x3 _ _ nla k2
  have y3 := (x1.trans x2).trans x3
  obtain ⟨i, hi⟩ : ∃ i : Nat, at' = (i : Int) := ⟨at'.toNat, by omega⟩
  subst hi
  have hil : i < rows.length := by omega
  -- what the three last steps of a join want
  have fin : ∀ (rs : List Str) (H' : Hp) (p : Addr), H' p = some (.lst (rs.map V.str)) -> rs.length <= 6 -> (∀ r ∈ rs, RowB (b + 1) (2 * m + 10) r) -> FlowAt H' a -> Ext a H H' -> rJoin K (.str "\n") [.ref p] H' Q := fun rs H' p kp l6 hb f' x' => by
    refine ⟨"\n", p, rs, rfl, rfl, SqL.of kp, join_fits hb (by omega) (by omega), q _ H' ?_ f' x'⟩
    by_cases hr : rs = []
    . subst hr
      exact ⟨[""], by simp, by decide, fun r hr => by rw [List.mem_singleton.mp hr]; exact rowB_empty _ _, by decide +kernel⟩
    . exact ⟨rs, hr, l6, hb, rfl⟩
  have two : ∀ (us vs : List Str) (H' : Hp) (p1 p2 : Addr), H' p1 = some (.lst (us.map V.str)) -> H' p2 = some (.lst (vs.map V.str)) -> us.length + vs.length <= 6 -> (∀ r ∈ us ++ vs, RowB (b + 1) (2 * m + 10) r) -> FlowAt H' a -> Ext a H H' -> rCat (.ref p1) (.ref p2) H' fun x H2 => rJoin K (.str "\n") [x] H2 Q := fun us vs H' p1 p2 h1 h2 l6 hb f' x' => by
    refine ⟨p1, p2, _, _, rfl, rfl, h1, h2, by rw [List.length_map, List.length_map]; exact Nat.le_trans (show us.length + vs.length <= 1000 by omega) (tiny (Nat.le_refl _)), fun p hp => ?_⟩
    exact fin (us ++ vs) _ p (by rw [upd_same, List.map_append]) (by rw [List.length_append]; exact l6) hb (f'.new hp) (x'.trans (Ext.new hp))
  have three : ∀ (z : Str) (i n : Nat) (H' : Hp), i <= n -> n <= rows.length -> i + 1 + (rows.length - n) <= 6 -> RowB (b + 1) (2 * m + 10) z -> H' l = some (.lst (rows.map V.str)) -> FlowAt H' a -> Ext a H H' -> ∀ (p1 p2 : Addr), H' p1 = some (.lst ((rows.take i).map V.str)) -> H' p2 = some (.lst [.str z]) ->
      ∀ (R : V -> Hp -> Prop), (∀ x H2, (rSlL K (.ref l) (some (n : Int)) none H2 fun y H3 => rCat x y H3 fun x H2 => rJoin K (.str "\n") [x] H2 Q) -> R x H2) -> rCat (.ref p1) (.ref p2) H' R := fun z i n H' hin hn h6 hz kl f' x' p1 p2 h1 h2 R hR => by
    have lt : (rows.take i).length = i := by rw [List.length_take]; omega
    refine ⟨p1, p2, _, _, rfl, rfl, h1, h2, by rw [List.length_map, lt]; exact Nat.le_trans (show i + 1 <= 1000 by omega) (tiny (Nat.le_refl _)), fun p3 h3 => ?_⟩
    have e3 : upd H' p3 (.lst ((rows.take i).map V.str ++ [.str z])) p3 = some (.lst ((rows.take i ++ [z]).map V.str)) := by rw [upd_same, List.map_append]; rfl
    have f3 := f'.new (o := .lst ((rows.take i).map V.str ++ [.str z])) h3
    have x3 : Ext a H (upd H' p3 (.lst ((rows.take i).map V.str ++ [.str z]))) := x'.trans (Ext.new h3)
    have k3 : upd H' p3 (.lst ((rows.take i).map V.str ++ [.str z])) l = some (.lst (rows.map V.str)) := by rw [upd_ne (ne_of_none kl h3)]; exact kl
    generalize upd H' p3 (.lst ((rows.take i).map V.str ++ [.str z])) = H4 at e3 f3 x3 k3 ⊢
    refine hR _ _ ⟨l, _, rfl, SqL.of k3, fun p4 h4 => ?_⟩
    rw [cut_from _ _ (by rw [lm]; exact hn), <- List.map_drop]
    refine two (rows.take i ++ [z]) (rows.drop n) _ p3 p4 (by rw [upd_ne (ne_of_none e3 h4)]; exact e3) upd_same (by rw [List.length_append, lt, List.length_drop]; exact h6) (fun r hr => ?_) (f3.new h4) (x3.trans (Ext.new h4))
    rcases List.mem_append.mp hr with hr | hr
    . rcases List.mem_append.mp hr with hr | hr
      . exact ru r (List.mem_of_mem_take hr)
      . rw [List.mem_singleton.mp hr]; exact hz
    . exact ru r (List.mem_of_mem_drop hr)
  refine ⟨_, rfl, rfl, _, rfl, ?_⟩
  refine ite2 (fun _ => ⟨_, rfl, l, _, rfl, .inl (SqL.of k3), _, _, rfl, rfl, _, rfl, ite2 (fun c2 => ?_) (fun _ => ?_)⟩) (fun _ => ?_)
  . have c2 := of_decide_eq_true c2
    rw [lm] at c2
    refine ⟨_, rfl, _, rfl, l, _, rfl, .inl (SqL.of k3), _, _, rfl, rfl, a, _, rfl, f3, by omega, by omega, fun sp H4 s0 s1 f4 x4 => ?_⟩
    rw [lm] at s1
    have k4 := x4 _ _ nla k3
    have y4 := y3.trans x4
    obtain ⟨n, hn⟩ : ∃ n : Nat, sp = (n : Int) := ⟨sp.toNat, by omega⟩
    subst hn
    refine ⟨rfl, _, rfl, _, rfl, _, rfl, l, _, rfl, SqL.of k4, fun p1 h1 => ?_⟩
    rw [cut_to, <- List.map_take]
    have f5 := f4.new (o := .lst ((rows.take n).map V.str)) h1
    have x5 : Ext a H (upd H4 p1 (.lst ((rows.take n).map V.str))) := y4.trans (Ext.new h1)
    have k5 : upd H4 p1 (.lst ((rows.take n).map V.str)) l = some (.lst (rows.map V.str)) := by rw [upd_ne (ne_of_none k4 h1)]; exact k4
    have e5 : upd H4 p1 (.lst ((rows.take n).map V.str)) p1 = some (.lst ((rows.take n).map V.str)) := upd_same
    generalize upd H4 p1 (.lst ((rows.take n).map V.str)) = H5 at f5 x5 k5 e5 ⊢
    refine ⟨tiny (show 1 <= 1000 by decide), fun p2 h2 => ?_⟩
    refine three "" n n _ (Nat.le_refl _) (by omega) (by omega) (rowB_empty _ _) (by rw [upd_ne (ne_of_none k5 h2)]; exact k5) (f5.new h2) (x5.trans (Ext.new h2)) p1 p2 (by rw [upd_ne (ne_of_none e5 h2)]; exact e5) upd_same _ fun x H6 h => ?_
    exact ⟨_, rfl, _, rfl, _, rfl, h⟩
  all_goals
    refine ⟨_, rfl, rfl, _, rfl, ?_⟩
    refine ite2 (fun _ => ?_) (fun _ => ?_)
    . refine ⟨rfl, _, rfl, _, rfl, _, rfl, l, _, rfl, SqL.of k3, fun p1 h1 => ?_⟩
      rw [cut_to, <- List.map_take]
      have f5 := f3.new (o := .lst ((rows.take i).map V.str)) h1
      have x5 : Ext a H (upd H3 p1 (.lst ((rows.take i).map V.str))) := y3.trans (Ext.new h1)
      have k5 : upd H3 p1 (.lst ((rows.take i).map V.str)) l = some (.lst (rows.map V.str)) := by rw [upd_ne (ne_of_none k3 h1)]; exact k3
      have e5 : upd H3 p1 (.lst ((rows.take i).map V.str)) p1 = some (.lst ((rows.take i).map V.str)) := upd_same
      generalize upd H3 p1 (.lst ((rows.take i).map V.str)) = H5 at f5 x5 k5 e5 ⊢
      refine ⟨_, rfl, _, rfl, _, _, rfl, rfl, _, rfl, l, _, rfl, SqL.of k5, fun p2 h2 => ?_⟩
      rw [show ((i : Int) + 1) = ((i + 1 : Nat) : Int) by omega, cut_from _ _ (by rw [lm]; omega), <- List.map_drop] at *
      refine two (rows.take i) (rows.drop (i + 1)) _ p1 p2 (by rw [upd_ne (ne_of_none e5 h2)]; exact e5) upd_same (by rw [List.length_take, List.length_drop]; omega) (fun r hr => ?_) (f5.new h2) (x5.trans (Ext.new h2))
      exact (List.mem_append.mp hr).elim (fun h => ru r (List.mem_of_mem_take h)) fun h => ru r (List.mem_of_mem_drop h)
    . refine ⟨_, rfl, _, rfl, _, rfl, l, _, rfl, .inl (SqL.of k3), a, _, rfl, f3, by omega, by omega, fun d H4 d0 d1 f4 x4 => ?_⟩
      rw [lm] at d1
      have k4 := x4 _ _ nla k3
      have y4 := y3.trans x4
      obtain ⟨n, hn⟩ : ∃ n : Nat, d = (n : Int) := ⟨d.toNat, by omega⟩
      subst hn
      have hnl : n < rows.length := by omega
      have hat : ∀ {n : Nat} (h : n < rows.length), atI (rows.map V.str) (n : Int) = some (.str rows[n]) := fun h => atI_nat (by rw [List.getElem?_map, List.getElem?_eq_getElem h]; rfl)
      have hrn := rb _ (List.getElem_mem hnl)
      have hri := rb _ (List.getElem_mem hil)
      have ln := hrn.len
      obtain ⟨p, qq, r, hP⟩ := parted rows[n]
      obtain ⟨q1, _, _, q4, _, _, q7, _⟩ := hP.facts hrn.nf
      refine ⟨l, _, _, _, rfl, rfl, SqL.of k4, hat hnl, rfl, _, " ", rfl, rfl, rfl, lineM (by omega), fun t ht => ?_⟩
      rw [hP.eq]
      have k5 : ∀ o, upd H4 t o l = some (.lst (rows.map V.str)) := fun o => by rw [upd_ne (ne_of_none k4 ht)]; exact k4
      refine ⟨t, _, 0, _, rfl, rfl, SqT.of upd_same, atI_nat (j := 0) (v := V.str p) rfl, ?_⟩
      have x5 : ∀ o, Ext a H (upd H4 t o) := fun o => y4.trans (Ext.new ht)
      have f5 : ∀ o, FlowAt (upd H4 t o) a := fun o => f4.new ht
      have k5 := k5 (.tup [.str (p, qq, r).1, .str (p, qq, r).2.1, .str (p, qq, r).2.2])
      have x5 := x5 (.tup [.str (p, qq, r).1, .str (p, qq, r).2.1, .str (p, qq, r).2.2])
      have f5 := f5 (.tup [.str (p, qq, r).1, .str (p, qq, r).2.1, .str (p, qq, r).2.2])
      generalize upd H4 t (.tup [.str (p, qq, r).1, .str (p, qq, r).2.1, .str (p, qq, r).2.2]) = H5 at k5 x5 f5 ⊢
      refine ⟨rfl, _, rfl, _, rfl, _, rfl, l, _, rfl, SqL.of k5, fun p1 h1 => ?_⟩
      rw [cut_to, <- List.map_take]
      have f6 := f5.new (o := .lst ((rows.take i).map V.str)) h1
      have x6 : Ext a H (upd H5 p1 (.lst ((rows.take i).map V.str))) := x5.trans (Ext.new h1)
      have k6 : upd H5 p1 (.lst ((rows.take i).map V.str)) l = some (.lst (rows.map V.str)) := by rw [upd_ne (ne_of_none k5 h1)]; exact k5
      have e6 : upd H5 p1 (.lst ((rows.take i).map V.str)) p1 = some (.lst ((rows.take i).map V.str)) := upd_same
      have n6 := ne_flow h1 f5
      generalize upd H5 p1 (.lst ((rows.take i).map V.str)) = H6 at f6 x6 k6 e6 ⊢
      refine ⟨_, rfl, _, rfl, _, rfl, l, _, _, _, rfl, rfl, SqL.of k6, hat hil, _, rfl, a, rows[i], p, b, m, rfl, f6, hri, ⟨q1, by omega, by omega⟩, hm, fun z H7 hz f7 x7 => ⟨tiny (show 1 <= 1000 by decide), fun p2 h2 => ?_⟩⟩
      have k7 := x7 _ _ nla k6
      have e7 := x7 _ _ n6 e6
      refine three z i (i + 1) _ (by omega) (by omega) (by omega) hz (by rw [upd_ne (ne_of_none k7 h2)]; exact k7) (f7.new h2) ((x6.trans x7).trans (Ext.new h2)) p1 p2 (by rw [upd_ne (ne_of_none e7 h2)]; exact e7) upd_same _ fun x H8 h => ?_
      rw [show ((i + 1 : Nat) : Int) = (i : Int) + 1 by omega] at h
      exact ⟨_, rfl, _, rfl, _, _, rfl, rfl, _, rfl, h⟩
end
end KK
namespace KK
open PySem L2 PyProof.Rows KKM PySem.Builtin PySem.Builtin.Str
abbrev s_law : Stmt := top 40
section
variable {P : Program} {w : World} {K : W.Frag} {mg : Str -> Option Value} {base : Heap} {f g g2 g3 g4 g5 g6 g7 : Addr} {fd gd gd2 gd3 gd4 gd5 gd6 gd7 : FuncData} {k j : Nat} {C : Addr}
theorem texts {D L : Addr} {Q : VK} {H1 : Hp} {rs : List Row} (l6 : rs.length <= 6) (hN : ∀ r ∈ rs, r.2.length <= 4 /\ ∀ y ∈ r.1 :: r.2, Nm y) (hD : H1 D = none) (hL : RowsAt H1 L rs) (hdn : ∀ H', Same H1 H' -> H' D = some (.lst ((rs.map rowText).map V.str)) -> Q (.ref D) H') :
    CompLoop (Itl K L) D (gTup K 2 (gCons (gName 0) (gCons (gName 1) gNil))) tYes (tBM K "str" (rJoin K) (tC (.str " ")) (tCons (tOp rCat (tLst (tCons (tVar 0) tNil)) (tCB (fun xs H Q => ∃ p ys, xs = [.ref p] /\ (SqL K H p ys \/ SqT K H p ys) /\ ∀ l, H l = none -> Q (.ref l) (upd H l (.lst ys))) (tCons (tVar 1) tNil))) tNil)) Q [none, none] H1 := by
  obtain ⟨ts, hL, hT⟩ := hL
  have hlen := Paired.length hT
  have hs := line_200
  refine comp_list (xs := ts.map V.ref) (fun i ys σ H => ∃ v0 v1 : Option V, ys = ((rs.take i).map rowText).map V.str /\ σ = [v0, v1] /\ Same H1 H) ?_ (by rw [List.length_map]; omega) ?_ ?_ ?_ ?_
  . exact ⟨none, none, rfl, rfl, sm_new hD⟩
  . rintro i ys σ H ⟨v0, v1, rfl, _⟩
    rw [List.length_map, List.length_map, List.length_take]; omega
  . rintro i ys σ H ⟨v0, v1, _, _, x⟩
    exact SqL.of (x _ _ hL)
  . rintro i y ys σ H hy hl2 ⟨v0, v1, rfl, rfl, x⟩
    rw [List.getElem?_map] at hy
    obtain ⟨t, ht, rfl⟩ := Option.map_eq_some_iff.mp hy
    obtain ⟨r, hr', d, e1, e2⟩ := hT.get ht
    have hm : r ∈ rs := List.mem_of_getElem? hr'
    obtain ⟨h4, hn⟩ := hN r hm
    refine ⟨t, _, rfl, SqT.of (x _ _ e1), rfl, _, _, rfl, _, _, rfl, rfl, ?_⟩
    refine ⟨rfl, _, rfl, Nat.le_trans (show 1 <= 1000 by decide) hs, fun T hT => ?_⟩
    have xT : Same H (upd H T (.lst [.str r.1])) := sm_new hT
    have hTt : upd H T (.lst [.str r.1]) T = some (.lst [.str r.1]) := upd_same
    generalize upd H T (.lst [.str r.1]) = H2 at xT hTt ⊢
    refine ⟨_, rfl, d, _, rfl, .inr (SqT.of (xT _ _ (x _ _ e2))), fun l hl => ?_⟩
    have x3 : Same H2 (upd H2 l (.lst (r.2.map V.str))) := sm_new hl
    have h3 : upd H2 l (.lst (r.2.map V.str)) l = some (.lst (r.2.map V.str)) := upd_same
    generalize upd H2 l (.lst (r.2.map V.str)) = H3 at x3 h3 ⊢
    refine ⟨T, l, _, _, rfl, rfl, x3 _ _ hTt, h3, Nat.le_trans (show _ <= 1000 by rw [List.length_map]; show 1 + r.2.length <= 1000; omega) hs, fun p hp => ?_⟩
    have x4 : Same H3 (upd H3 p (.lst ([.str r.1] ++ r.2.map V.str))) := sm_new hp
    have h5 : upd H3 p (.lst ([.str r.1] ++ r.2.map V.str)) p = some (.lst ((r.1 :: r.2).map V.str)) := upd_same
    generalize upd H3 p (.lst ([.str r.1] ++ r.2.map V.str)) = H4 at x4 h5 ⊢
    have x04 : Same H H4 := xT.trans (x3.trans x4)
    refine ⟨_, p, r.1 :: r.2, rfl, rfl, SqL.of h5, row_sum (hn _ List.mem_cons_self) (fun z hz => hn z (List.mem_cons_of_mem _ hz)) h4, x04 _ _ hl2, _, _, ?_, rfl, (x.trans x04).at hD⟩
    rw [take_snoc hr', List.map_append, List.map_append]
    rfl
  . rintro ys σ H hl2 ⟨v0, v1, rfl, _, x⟩
    rw [List.length_map, hlen, List.take_length] at hl2
    exact hdn H x hl2
theorem nm_not {y : Str} (h : Nm y) {c : Nat} (hc : c ∉ abc.cps.toList) : c ∉ y.cps.toList := fun z => hc (h.2.2 c z)
theorem no32 : 32 ∉ abc.cps.toList := by decide +kernel
theorem no10 : 10 ∉ abc.cps.toList := by decide +kernel
theorem rowB_text {r : Row} (h4 : r.2.length <= 4) (hn : ∀ y ∈ r.1 :: r.2, Nm y) : RowB 4 200 (rowText r) := by
  refine ⟨?_, ?_, rowText_le hn h4⟩
  . exact row_nf fun y hy => nm_not (hn y hy) no10
  . have e : bk (rowText r) = (TX.jl 32 (r.1 :: r.2)).count 32 := by
      unfold bk rowText
      rw [sp_blank, join_toL]
    have c := count_jl (c := 32) (ys := r.1 :: r.2) (by simp) fun y hy => nm_not (hn y hy) no32
    rw [List.length_cons] at c
    omega
theorem TxB.up {b b' m m' : Nat} {t : Str} (h : TxB b m t) (h1 : b <= b') (h2 : m <= m') : TxB b' m' t := let ⟨rows, a, c, d, e⟩ := h; ⟨rows, a, c, fun r hr => (d r hr).up h1 h2, e⟩
theorem TxB.ok {t : Str} (h : TxB 7 2000 t) : ∃ wss, t = textW wss /\ TxOk wss := by
  obtain ⟨rows, r1, r6, rb, rfl⟩ := h
  have hlen := TxB.len r1 r6 rb
  obtain ⟨wss, hw, hp⟩ := rows_words (rs := rows) fun y hy => (rb y hy).nf
  subst hw
  refine ⟨wss, rfl, ⟨⟨fun z => r1 (by rw [z]; rfl), fun ws h => (hp ws h).1, fun ws h => (hp ws h).2.1, fun ws h => (hp ws h).2.2⟩, by show (Txt.join "\n" (wss.map rowW)).length <= 30000; omega, by rw [List.length_map] at r6; exact r6, fun ws h => ?_⟩⟩
  have hb := (rb (rowW ws) (List.mem_map.mpr ⟨ws, h, rfl⟩)).bk
  have e : bk (rowW ws) = (TX.jl 32 ws).count 32 := by
    unfold bk rowW
    rw [sp_blank, join_toL]
  have c := count_jl (c := 32) (hp ws h).1 (hp ws h).2.1
  omega
def mm : Nat -> Nat
  | 0 => 200
  | i + 1 => 2 * mm i + 10
theorem mm_le {i : Nat} (h : i <= 3) : mm i <= 1670 := by
  match i, h with
  | 0, _ => decide
  | 1, _ => decide
  | 2, _ => decide
  | 3, _ => decide
theorem RowsT.take {H : Hp} : ∀ {ts : List Addr} {rs : List Row} (i : Nat), RowsT H ts rs -> RowsT H (ts.take i) (rs.take i)
  | _, _, 0, _ => by rw [List.take_zero, List.take_zero]; exact .nil
  | _, _, i + 1, .nil => by rw [List.take_nil, List.take_nil]; exact .nil
  | _, _, i + 1, .cons a b => .cons a (RowsT.take i b)
def spLaw (K : W.Frag) : Sp := fun vs H Q _ => ∃ (z : Addr) (ns : List Int), vs = [.ref z] /\ SqL K H z (ns.map V.int) /\ ns.length <= 63 /\ ∀ H', Q (.bl true) H'
theorem sc_law : FnScope ["_law_script", "_law_k", "_law_flow_here", "_law_rows", "_law_some", "_law_turn", "_law_text"] ["_law_script"] (defScope s_law) := ⟨rfl, rfl, rfl, by decide +kernel, rfl, by decide +kernel, by decide +kernel⟩
theorem ok_law (F : Fun K "law" "law" s_law f fd) (B : Bt mg) (G__law_flow : Fn P w K mg base k "_law_flow" ["_law_script", "_law_k"] (spFlow K) g gd) (G__law_draw : Fn P w K mg base k "_law_draw" ["_law_flow_here", "_law_many"] spDraw g2 gd2)
    (G__law_houses : Fn P w K mg base k "_law_houses" ["_law_flow_here", "_law_count"] spRows g3 gd3) (G__law_called : Fn P w K mg base k "_law_called" ["_law_flow_here", "_law_rows"] spCalled g5 gd5)
    (G__law_spoilt : Fn P w K mg base k "_law_spoilt" ["_law_flow_here", "_law_text"] spSpo g6 gd6) (G__law_right : Fn P w K mg base k "_law_right" ["_law_text"] spRight g7 gd7) : FnOk P w K mg base CX0 (k + 1) f fd ["_law_script"] (spLaw K) := by
  refine F.ok sc_law (fun vs H Q E h => ?_) (fun cdv A outer s H vs Q E hr h => ?_)
  . obtain ⟨z, ns, rfl, _⟩ := h
    rfl
  obtain ⟨z, ns, rfl, hS, h63, q⟩ := h
  have nd := sc_law.nd
  have hs := line_200
  refine ⟨_, (pss_cons (ps_for PassesOwn.never rfl (pi_range1 rfl B.range_ (pa_cons (pe_callB (call_max2 rfl) rfl B.max_ (by decide +kernel) (pa_cons pe_int (pa_cons (pe_callB call_len_seq rfl B.len_ PySem.boot_len (pa_cons (pe_slice sl_list (pv 0) po_none (po_some pe_int)) pa_nil)) pa_nil))) pa_nil)) (pg_name (i := 1) nd rfl (Or.inl rfl)) (pss_cons (ps_set (i := 2) nd rfl (Or.inl rfl) (pe_call G__law_flow.ok hr rfl G__law_flow.at_ G__law_flow.kp G__law_flow.bn .nil pass0 (pa_cons (pv 0) (pa_cons (pv 1) pa_nil)))) (pss_cons (ps_set (i := 3) nd rfl (Or.inl rfl) (pe_slice sl_list (pe_call G__law_called.ok hr rfl G__law_called.at_ G__law_called.kp G__law_called.bn .nil pass0 (pa_cons (pv 2) (pa_cons (pe_call G__law_houses.ok hr rfl G__law_houses.at_ G__law_houses.kp G__law_houses.bn .nil pass0 (pa_cons (pv 2) (pa_cons (pe_op op_add pe_int (pe_call G__law_draw.ok hr rfl G__law_draw.at_ G__law_draw.kp G__law_draw.bn .nil pass0 (pa_cons (pv 2) (pa_cons pe_int pa_nil)))) pa_nil))) pa_nil))) po_none (po_some pe_int))) (pss_cons (ps_set (i := 4) nd rfl (Or.inl rfl) (pe_lst (pa_cons (pe_bm (T := "str") (name := "join") (id := "str.join") PySem.F.plainAttrs_str PySem.F.slot_str_join PySem.F.type_str_join mt_join pe_str (pa_cons (pe_comp (g := (gTup K 2 (gCons (gName 0) (gCons (gName 1) gNil)))) (tc := tYes) (te := (tBM K "str" (rJoin K) (tC (.str " ")) (tCons (tOp rCat (tLst (tCons (tVar 0) tNil)) (tCB (fun xs H Q => ∃ p ys, xs = [.ref p] /\ (SqL K H p ys \/ SqT K H p ys) /\ ∀ l, H l = none -> Q (.ref l) (upd H l (.lst ys))) (tCons (tVar 1) tNil))) tNil))) (own := ["_law_letter", "_law_some"]) (fr := ([] : List Str)) (idx := []) rfl (by show CompScope _ _ _ (defScope s_law); exact ⟨rfl, by decide +kernel, by decide +kernel, by decide +kernel, by decide +kernel, by decide +kernel, by decide +kernel⟩) (pi_list (pv 3)) (fun _ _ _ _ _ => (pg_tup rfl (pgs_cons (pg_name (i := 0) (by show List.Nodup (["_law_letter", "_law_some"] : List Str); decide +kernel) rfl (Or.inl rfl) (Or.inr rfl)) (pgs_cons (pg_name (i := 1) (by show List.Nodup (["_law_letter", "_law_some"] : List Str); decide +kernel) rfl (Or.inl rfl) (Or.inr rfl)) pgs_nil)))) (fun _ _ _ _ _ => pts_nil) (fun _ _ _ _ _ => (pe_bm (T := "str") (name := "join") (id := "str.join") PySem.F.plainAttrs_str PySem.F.slot_str_join PySem.F.type_str_join mt_join pe_str (pa_cons (pe_op op_cat (pe_lst (pa_cons (pv 0) pa_nil)) (pe_callTy call_list_of rfl B.list_ (by decide +kernel) (pa_cons (pv 1) pa_nil))) pa_nil))) rfl (hat_of rfl)) pa_nil)) pa_nil))) (pss_cons (ps_for PassesOwn.never rfl (pi_range1 rfl B.range_ (pa_cons (pe_call G__law_draw.ok hr rfl G__law_draw.at_ G__law_draw.kp G__law_draw.bn .nil pass0 (pa_cons (pv 2) (pa_cons pe_int pa_nil))) pa_nil)) (pg_name (i := 5) nd rfl (Or.inl rfl)) (pss_one (ps_expr (pe_bm PySem.F.plainAttrs_list PySem.F.slot_list_append PySem.F.type_list_append mt_append (pv 4) (pa_cons (pe_call G__law_spoilt.ok hr rfl G__law_spoilt.at_ G__law_spoilt.kp G__law_spoilt.bn .nil pass0 (pa_cons (pv 2) (pa_cons (pe_ix ix_list (pv 4) pe_neg1 (fun _ _ => rfl)) pa_nil))) pa_nil))))) (pss_one (ps_for PassesOwn.never rfl (pi_list (pe_op op_cat (pe_op op_cat (pe_op op_cat (pv 4) (pe_slice sl_list (pv 4) po_none (po_some pe_int))) (pe_lst (pa_cons pe_str pa_nil))) (pv 4))) (pg_name (i := 6) nd rfl (Or.inl rfl)) (pss_one (ps_if (pt_not (pt_val (pe_call G__law_right.ok hr rfl G__law_right.at_ G__law_right.kp G__law_right.bn .nil pass0 (pa_cons (pv 6) pa_nil)) (fun _ => rfl))) (pss_one (ps_ret pe_bl)) pss_nil))))))))) (pss_one (ps_ret pe_bl))), ?_⟩
  refine ⟨_, rfl, 4, rfl, z, _, rfl, hS, fun p hp => ⟨p, _, rfl, .inl (SqL.of upd_same), ?_⟩⟩
  have hl := cutV_length (ns.map V.int) none (some 4)
  rw [List.length_map] at hl
  generalize cutV (ns.map V.int) none (some 4) = LL at hl ⊢
  have h64 : (if (LL.length : Int) > 1 then (LL.length : Int) else 1) <= 64 := by split <;> omega
  refine ⟨1, (LL.length : Int), rfl, _, rfl, by split <;> omega, by split <;> omega, for_range (n := (if (LL.length : Int) > 1 then (LL.length : Int) else 1).toNat) (fun i σ H' => ∃ (v1 v2 v3 v4 v5 v6 : Option V), σ = [some (.ref z), v1, v2, v3, v4, v5, v6] /\ Same H H') ?_ ?_ ?_⟩
  . exact ⟨_, _, _, _, _, _, rfl, sm_new hp⟩
  . rintro i σ H1 hi ⟨v1, v2, v3, v4, v5, v6, rfl, x1⟩
    refine ⟨_, rfl, _, rfl, z, ns, _, rfl, x1.seq hS, h63, by omega, by omega, fun a o2 ha hF => ?_⟩
    have x2 : Same H1 (L2.upd H1 a o2) := sm_new ha
    have step : ∀ H', Ext a (L2.upd H1 a o2) H' -> Same H1 H' := fun H' x b o e => x b o (ne_of_none e ha) (x2 _ _ e)
    generalize L2.upd H1 a o2 = H2 at hF x2 step ⊢
    refine ⟨_, rfl, _, rfl, _, rfl, a, 4, rfl, hF, by decide, by decide, fun r2 H3 r20 r21 f3 x3 => ⟨_, _, rfl, rfl, a, _, rfl, f3, by omega, by omega, fun L4 rs4 H4 hG4 nL4 _ f4 x4 hR4 => ?_⟩⟩
    refine ⟨a, L4, rs4, rfl, f4, hR4, hG4, nL4, fun L rs H5 hG5 nL hL f5 x5 hR5 => ?_⟩
    obtain ⟨ts, kL, hT⟩ := hR5
    have y5 : Ext a H2 H5 := x3.trans (x4.trans x5)
    refine ⟨5, rfl, L, _, rfl, SqL.of kL, fun p5 h5 => ?_⟩
    rw [show (some (5 : Int)) = some ((5 : Nat) : Int) from rfl, cut_to, <- List.map_take]
    have y6 : Ext a H2 (L2.upd H5 p5 (.lst ((ts.take 5).map V.ref))) := y5.trans (Ext.new h5)
    have f6 := f5.new (o := .lst ((ts.take 5).map V.ref)) h5
    have hR6 : RowsAt (L2.upd H5 p5 (.lst ((ts.take 5).map V.ref))) p5 (rs.take 5) := ⟨ts.take 5, upd_same, RowsT.keep (Same.tk (sm_new h5)) (hT.take 5)⟩
    generalize L2.upd H5 p5 (.lst ((ts.take 5).map V.ref)) = H6 at y6 f6 hR6 ⊢
    have hN : ∀ r ∈ rs.take 5, r.2.length <= 4 /\ ∀ y ∈ r.1 :: r.2, Nm y := fun r hr => ⟨(hG5.row r (List.mem_of_mem_take hr)).2.1, row_names hG5 (List.mem_of_mem_take hr)⟩
    have l5 : (rs.take 5).length <= 5 := by rw [List.length_take]; omega
    have hB : TxB 4 200 (textOf (rs.take 5)) := by
      refine ⟨(rs.take 5).map rowText, fun e => ?_, by rw [List.length_map]; omega, fun r hr => ?_, rfl⟩
      . have e := congrArg List.length e
        rw [List.length_map, List.length_take] at e
        have := List.length_pos_iff.mpr hG5.ne
        have z : ([] : List Str).length = 0 := rfl
        omega
      . obtain ⟨r', hr', rfl⟩ := List.mem_map.mp hr
        exact rowB_text (hN r' hr').1 (hN r' hr').2
    obtain ⟨us, kU, hU⟩ := id hR6
    refine ⟨rfl, _, rfl, p5, rfl, ⟨_, SqL.of kU⟩, fun D hD => texts (K := K) (by omega) hN hD hR6 fun H7 x7 kD => ?_⟩
    refine ⟨"\n", D, _, rfl, rfl, SqL.of kD, join_fits (b := 4) (m := 200) (fun r hr => ?_) (by rw [List.length_map]; omega) (by decide), ⟨tiny (show 1 <= 1000 by decide), fun q0 hq0 => ?_⟩⟩
    . obtain ⟨r', hr', rfl⟩ := List.mem_map.mp hr
      exact rowB_text (hN r' hr').1 (hN r' hr').2
    have nq : q0 ≠ a := fun e => by
      obtain ⟨o, ho⟩ := f6.some
      rw [e, x7 _ _ ho] at hq0
      cases hq0
    have f7 : FlowAt H7 a := let ⟨x, y, z, h, h'⟩ := f6; ⟨x, y, z, x7 _ _ h, h'⟩
    have y7 : Ext a H2 H7 := fun b o n h => x7 _ _ (y6 b o n h)
    have f8 := f7.new (o := .lst [.str (textOf (rs.take 5))]) hq0
    have y8 : Ext a H2 (L2.upd H7 q0 (.lst [.str (textOf (rs.take 5))])) := y7.trans (Ext.new hq0)
    have k8 : L2.upd H7 q0 (.lst [.str (textOf (rs.take 5))]) q0 = some (.lst ([textOf (rs.take 5)].map V.str)) := upd_same
    have q2 : H2 q0 = none := by
      cases e : H2 q0 with
      | none => rfl
      | some o => rw [y7 _ _ nq e] at hq0; cases hq0
    show (fun H8 => _) (L2.upd H7 q0 (.lst [.str (textOf (rs.take 5))]))
    generalize L2.upd H7 q0 (.lst [.str (textOf (rs.take 5))]) = H8 at f8 y8 k8 ⊢
    refine ⟨_, rfl, a, 4, rfl, f8, by decide, by decide, fun n H9 n0 n1 f9 x9 => ?_⟩
    refine ⟨n, rfl, by omega, by omega, for_range (n := n.toNat) (fun i σ H' => ∃ (v1 v3 v5 v6 : Option V) (us : List Str) (t : Str), σ = [some (.ref z), v1, some (.ref a), v3, some (.ref q0), v5, v6] /\ H' q0 = some (.lst ((us ++ [t]).map V.str)) /\ us.length = i /\ TxB (4 + i) (mm i) t /\ (∀ u ∈ us ++ [t], TxB 7 2000 u) /\ FlowAt H' a /\ ∀ b o, b ≠ a -> b ≠ q0 -> H2 b = some o -> H' b = some o) ?_ ?_ ?_⟩
    . exact ⟨_, _, _, _, [], textOf (rs.take 5), rfl, x9 _ _ nq k8, rfl, hB, fun u hu => by rw [List.mem_singleton.mp hu]; exact hB.up (by decide) (by decide), f9, fun b o nb _ h => x9 _ _ nb (y8 _ _ nb h)⟩
    . rintro i σ H10 hi ⟨v1, v3, v5, v6, us, t, rfl, k10, rfl, ht, hu, f10, y10⟩
      have hi3 : us.length <= 2 := by omega
      have hmm := mm_le (i := us.length) (by omega)
      refine ⟨_, rfl, .inl ⟨rfl, _, SqL.of k10⟩, ?_⟩
      refine ⟨_, rfl, _, rfl, q0, _, -1, .str t, rfl, rfl, SqL.of k10, by rw [List.map_append]; exact at_last, a, t, _, _, rfl, f10, ht, by omega, fun t' H11 ht' f11 x11 => ?_⟩
      have k11 := x11 _ _ nq k10
      have hmm' := mm_le (i := us.length + 1) (by omega)
      refine ⟨q0, _, _, rfl, rfl, k11, Nat.lt_of_lt_of_le (by rw [List.length_map, List.length_append, List.length_singleton]; omega) hs, _, _, _, _, us ++ [t], t', rfl, by rw [upd_same, List.map_append (l₁ := us ++ [t])]; rfl, by rw [List.length_append]; rfl, ht', fun u hu' => ?_, f11.set (Ne.symm nq), fun b o nb nb' h => by rw [upd_ne nb']; exact x11 _ _ nb (y10 _ _ nb nb' h)⟩
      rcases List.mem_append.mp hu' with h | h
      . exact hu u h
      . rw [List.mem_singleton.mp h]
        exact ht'.up (by omega) (Nat.le_trans hmm' (by decide))
    . rintro σ H10 ⟨v1, v3, v5, v6, us, t, rfl, k10, hus, ht, hu, f10, y10⟩
      have hwl : (us ++ [t]).length <= 4 := by rw [List.length_append, List.length_singleton]; omega
      generalize us ++ [t] = ws at k10 hu hwl
      have y0 : Same H H10 := fun b o h => by
        have h1 := x1 _ _ h
        have h2 := x2 _ _ h1
        exact y10 _ _ (ne_of_none h1 ha) (ne_of_none h2 q2) h2
      refine ⟨_, rfl, _, rfl, 1, rfl, q0, _, rfl, SqL.of k10, fun p1 h1 => ?_⟩
      rw [show (some (1 : Int)) = some ((1 : Nat) : Int) from rfl, cut_to, <- List.map_take]
      have z1 : Same H10 (L2.upd H10 p1 (.lst ((ws.take 1).map V.str))) := sm_new h1
      have e1 : L2.upd H10 p1 (.lst ((ws.take 1).map V.str)) p1 = some (.lst ((ws.take 1).map V.str)) := upd_same
      generalize L2.upd H10 p1 (.lst ((ws.take 1).map V.str)) = H11 at z1 e1 ⊢
      have lt1 : (ws.take 1).length <= 1 := by rw [List.length_take]; omega
      refine ⟨q0, p1, _, _, rfl, rfl, z1 _ _ k10, e1, by rw [List.length_map, List.length_map]; exact Nat.le_trans (show ws.length + (ws.take 1).length <= 1000 by omega) (tiny (Nat.le_refl _)), fun p2 h2 => ?_⟩
      rw [<- List.map_append]
      have z2 : Same H11 (L2.upd H11 p2 (.lst ((ws ++ ws.take 1).map V.str))) := sm_new h2
      have e2 : L2.upd H11 p2 (.lst ((ws ++ ws.take 1).map V.str)) p2 = some (.lst ((ws ++ ws.take 1).map V.str)) := upd_same
      generalize L2.upd H11 p2 (.lst ((ws ++ ws.take 1).map V.str)) = H12 at z2 e2 ⊢
      refine ⟨tiny (show 1 <= 1000 by decide), fun p3 h3 => ?_⟩
      have z3 : Same H12 (L2.upd H12 p3 (.lst [.str ""])) := sm_new h3
      have e3 : L2.upd H12 p3 (.lst [.str ""]) p3 = some (.lst ([("" : Str)].map V.str)) := upd_same
      generalize L2.upd H12 p3 (.lst [.str ""]) = H13 at z3 e3 ⊢
      refine ⟨p2, p3, _, _, rfl, rfl, z3 _ _ e2, e3, by rw [List.length_map, List.length_append]; exact Nat.le_trans (show ws.length + (ws.take 1).length + 1 <= 1000 by omega) (tiny (Nat.le_refl _)), fun p4 h4 => ?_⟩
      rw [<- List.map_append]
      have z4 : Same H13 (L2.upd H13 p4 (.lst ((ws ++ ws.take 1 ++ [("" : Str)]).map V.str))) := sm_new h4
      have e4 : L2.upd H13 p4 (.lst ((ws ++ ws.take 1 ++ [("" : Str)]).map V.str)) p4 = some (.lst ((ws ++ ws.take 1 ++ [("" : Str)]).map V.str)) := upd_same
      generalize L2.upd H13 p4 (.lst ((ws ++ ws.take 1 ++ [("" : Str)]).map V.str)) = H14 at z4 e4 ⊢
      have w4 : Same H10 H14 := z1.trans (z2.trans (z3.trans z4))
      have l14 : (ws ++ ws.take 1 ++ [("" : Str)]).length <= 6 := by rw [List.length_append, List.length_append, List.length_singleton]; omega
      refine ⟨_, rfl, p4, q0, _, _, rfl, rfl, e4, w4 _ _ k10, by rw [List.length_map, List.length_map]; exact Nat.le_trans (show (ws ++ ws.take 1 ++ [("" : Str)]).length + ws.length <= 1000 by omega) (tiny (Nat.le_refl _)), fun p5 h5 => ?_⟩
      rw [<- List.map_append]
      have z5 : Same H14 (L2.upd H14 p5 (.lst ((ws ++ ws.take 1 ++ [("" : Str)] ++ ws).map V.str))) := sm_new h5
      have e5 : L2.upd H14 p5 (.lst ((ws ++ ws.take 1 ++ [("" : Str)] ++ ws).map V.str)) p5 = some (.lst ((ws ++ ws.take 1 ++ [("" : Str)] ++ ws).map V.str)) := upd_same
      have all : ∀ u ∈ ws ++ ws.take 1 ++ [("" : Str)] ++ ws, TxB 7 2000 u := fun u h => by
        rcases List.mem_append.mp h with h | h
        . rcases List.mem_append.mp h with h | h
          . rcases List.mem_append.mp h with h | h
            . exact hu u h
            . exact hu u (List.mem_of_mem_take h)
          . rw [List.mem_singleton.mp h]
            exact ⟨[("" : Str)], by simp, by decide, fun r hr => by rw [List.mem_singleton.mp hr]; exact rowB_empty _ _, by decide +kernel⟩
        . exact hu u h
      generalize L2.upd H14 p5 (.lst ((ws ++ ws.take 1 ++ [("" : Str)] ++ ws).map V.str)) = H15 at z5 e5 ⊢
      generalize ws ++ ws.take 1 ++ [("" : Str)] ++ ws = zs at e5 all ⊢
      refine ⟨p5, rfl, ⟨_, SqL.of e5⟩, for_list (xs := zs.map V.str) (fun i σ H' => ∃ v1 v2 v3 v4 v5 v6 : Option V, σ = [some (.ref z), v1, v2, v3, v4, v5, v6] /\ Same H15 H') ?_ ?_ ?_ ?_⟩
      . exact ⟨_, _, _, _, _, _, rfl, Same.refl _⟩
      . rintro i σ H16 _ ⟨_, _, _, _, _, _, _, x16⟩
        exact SqL.of (x16 _ _ e5)
      . rintro i y σ H16 hy ⟨v1, v2, v3, v4, v5, v6, rfl, x16⟩
        rw [List.getElem?_map] at hy
        obtain ⟨u, hu', rfl⟩ := Option.map_eq_some_iff.mp hy
        obtain ⟨wss, rfl, T⟩ := (all u (List.mem_of_getElem? hu')).ok
        refine ⟨_, rfl, wss, rfl, T, fun H17 x17 => ⟨_, rfl, ?_⟩⟩
        refine iteF ?_
        exact ⟨_, _, _, _, _, _, rfl, x16.trans x17⟩
      . rintro σ H16 ⟨v1, v2, v3, v4, v5, v6, rfl, x16⟩
        exact ⟨_, _, _, _, _, _, rfl, y0.trans (w4.trans (z5.trans x16))⟩
  . rintro σ H1 ⟨v1, v2, v3, v4, v5, v6, rfl, x1⟩
    exact q H1
end
end KK
namespace KK
open PySem L2 PyProof.Rows
abbrev s_Twice___init : Stmt := inClass (top 3) 0
abbrev s_NoText___init : Stmt := inClass (top 2) 0
theorem us1 {α : Type} {C : List α -> Prop} (h : ∀ a, C [a]) (us : List α) (hl : us.length = 1) : C us := by
  cases us with
  | nil => cases hl
  | cons a t =>
    obtain rfl := List.length_eq_zero_iff.mp (Nat.succ.inj hl)
    exact h a
theorem us2 {α : Type} {C : List α -> Prop} (h : ∀ a b, C [a, b]) (us : List α) (hl : us.length = 2) : C us := by
  cases us with
  | nil => cases hl
  | cons a t => exact us1 (C := fun t => C (a :: t)) (h a) t (Nat.succ.inj hl)
theorem us3 {α : Type} {C : List α -> Prop} (h : ∀ a b c, C [a, b, c]) (us : List α) (hl : us.length = 3) : C us := by
  cases us with
  | nil => cases hl
  | cons a t => exact us2 (C := fun t => C (a :: t)) (h a) t (Nat.succ.inj hl)
def cs12 (c2 c4 c9 c11 : Addr) (i : Nat) : Addr := [0, 0, c2, 0, c4, 0, 0, 0, 0, c9, 0, c11].getD i 0
theorem kitAny_cons {K : W.Frag} {t c : Value} {r : List Value} (h1 : W.kitOne K t c = some false) (h2 : PySem.W.kitAny K t r = some false) : PySem.W.kitAny K t (c :: r) = some false := by
  show (match W.kitOne K t c with | some true => some true | some false => PySem.W.kitAny K t r | none => none) = some false
  rw [h1]
  exact h2
theorem _root_.L2.FnOk.or {P : Program} {w : World} {K : W.Frag} {mg : Str -> Option Value} {base : Heap} {k : Nat} {f : Addr} {fd : FuncData} {CX : CXT} {ps : List Str} {sp sp' : Sp} (F : FnOk P w K mg base CX k f fd ps sp) (G : FnOk P w K mg base CX k f fd ps sp') : FnOk P w K mg base CX k f fd ps (fun vs H Q E => sp vs H Q E \/ sp' vs H Q E) :=
  ⟨fun vs H Q E q => q.elim (F.len vs H Q E) (G.len vs H Q E), fun A outer s H args us vs Q E hr he hb hv hs => hs.elim (F.run A outer s H args us vs Q E hr he hb hv) (G.run A outer s H args us vs Q E hr he hb hv)⟩
set_option maxHeartbeats 40000000 in
theorem all_mk {l : W.OpenLaw} {w : World} {K : W.Frag} {h : Heap} {mg : Str -> Option Value} {fa : Addr} (X : K.In h) (G : h.Ns mainGlobals mg) (hfa : mg "law" = some (.ref fa))
    {f_cell : Addr} {od_cell an_cell : Option Addr} {sl_cell : Array (Option Value)} {oc_cell kV_cell dc_cell pm_cell cd_cell ct_cell : Value}
    {f_flow : Addr} {od_flow an_flow : Option Addr} {sl_flow : Array (Option Value)} {oc_flow kV_flow dc_flow pm_flow cd_flow ct_flow : Value}
    {f_draw : Addr} {od_draw an_draw : Option Addr} {sl_draw : Array (Option Value)} {oc_draw kV_draw dc_draw pm_draw cd_draw ct_draw : Value}
    {f_nam : Addr} {od_nam an_nam : Option Addr} {sl_nam : Array (Option Value)} {oc_nam kV_nam dc_nam pm_nam cd_nam ct_nam : Value}
    {f_hou : Addr} {od_hou an_hou : Option Addr} {sl_hou : Array (Option Value)} {oc_hou kV_hou dc_hou pm_hou cd_hou ct_hou : Value}
    {f_tur : Addr} {od_tur an_tur : Option Addr} {sl_tur : Array (Option Value)} {oc_tur kV_tur dc_tur pm_tur cd_tur ct_tur : Value}
    {f_dof : Addr} {od_dof an_dof : Option Addr} {sl_dof : Array (Option Value)} {oc_dof kV_dof dc_dof pm_dof cd_dof ct_dof : Value}
    {f_cal : Addr} {od_cal an_cal : Option Addr} {sl_cal : Array (Option Value)} {oc_cal kV_cal dc_cal pm_cal cd_cal ct_cal : Value}
    {f_sig : Addr} {od_sig an_sig : Option Addr} {sl_sig : Array (Option Value)} {oc_sig kV_sig dc_sig pm_sig cd_sig ct_sig : Value}
    {f_oth : Addr} {od_oth an_oth : Option Addr} {sl_oth : Array (Option Value)} {oc_oth kV_oth dc_oth pm_oth cd_oth ct_oth : Value}
    {f_spo : Addr} {od_spo an_spo : Option Addr} {sl_spo : Array (Option Value)} {oc_spo kV_spo dc_spo pm_spo cd_spo ct_spo : Value}
    {f_lna : Addr} {od_lna an_lna : Option Addr} {sl_lna : Array (Option Value)} {oc_lna kV_lna dc_lna pm_lna cd_lna ct_lna : Value}
    {f_ltw : Addr} {od_ltw an_ltw : Option Addr} {sl_ltw : Array (Option Value)} {oc_ltw kV_ltw dc_ltw pm_ltw cd_ltw ct_ltw : Value}
    {f_due : Addr} {od_due an_due : Option Addr} {sl_due : Array (Option Value)} {oc_due kV_due dc_due pm_due cd_due ct_due : Value}
    {f_tol : Addr} {od_tol an_tol : Option Addr} {sl_tol : Array (Option Value)} {oc_tol kV_tol dc_tol pm_tol cd_tol ct_tol : Value}
    {f_few : Addr} {od_few an_few : Option Addr} {sl_few : Array (Option Value)} {oc_few kV_few dc_few pm_few cd_few ct_few : Value}
    {f_rig : Addr} {od_rig an_rig : Option Addr} {sl_rig : Array (Option Value)} {oc_rig kV_rig dc_rig pm_rig cd_rig ct_rig : Value}
    {f_law : Addr} {od_law an_law : Option Addr} {sl_law : Array (Option Value)} {oc_law kV_law dc_law pm_law cd_law ct_law : Value}
    {f_ris : Addr} {od_ris an_ris : Option Addr} {sl_ris : Array (Option Value)} {oc_ris kV_ris dc_ris pm_ris cd_ris ct_ris : Value}
    {f_twi : Addr} {od_twi an_twi : Option Addr} {sl_twi : Array (Option Value)} {oc_twi kV_twi dc_twi pm_twi cd_twi ct_twi : Value}
    {f_ref : Addr} {od_ref an_ref : Option Addr} {sl_ref : Array (Option Value)} {oc_ref kV_ref dc_ref pm_ref cd_ref ct_ref : Value}
    {f_isn : Addr} {od_isn an_isn : Option Addr} {sl_isn : Array (Option Value)} {oc_isn kV_isn dc_isn pm_isn cd_isn ct_isn : Value}
    {f_wor : Addr} {od_wor an_wor : Option Addr} {sl_wor : Array (Option Value)} {oc_wor kV_wor dc_wor pm_wor cd_wor ct_wor : Value}
    {f_nin : Addr} {od_nin an_nin : Option Addr} {sl_nin : Array (Option Value)} {oc_nin kV_nin dc_nin pm_nin cd_nin ct_nin : Value}
    {f_rea : Addr} {od_rea an_rea : Option Addr} {sl_rea : Array (Option Value)} {oc_rea kV_rea dc_rea pm_rea cd_rea ct_rea : Value}
    {f_sho : Addr} {od_sho an_sho : Option Addr} {sl_sho : Array (Option Value)} {oc_sho kV_sho dc_sho pm_sho cd_sho ct_sho : Value}
    {C_Sharing : Addr}
    {f_ini : Addr} {od_ini an_ini : Option Addr} {sl_ini : Array (Option Value)} {oc_ini kV_ini dc_ini pm_ini cd_ini ct_ini : Value}
    {f_mee : Addr} {od_mee an_mee : Option Addr} {sl_mee : Array (Option Value)} {oc_mee kV_mee dc_mee pm_mee cd_mee ct_mee : Value}
    {tLN tSM : Tok} {aSM : Str}
    {cM : Addr}
    {cT : Addr} {nmT quT : Str} {NT : Addr} {bsT subT : List Value} {snT : List Str} {abT : Bool} {colT : Option Bool} {ddT : Option Addr} {uT vT wT xT yT : Option Value} {gT : Addr} {ocdT : ClassData}
    {od_gT an_gT : Option Addr} {sl_gT : Array (Option Value)} {oc_gT kV_gT dc_gT pm_gT cd_gT ct_gT : Value}
    {cN : Addr} {nmN quN : Str} {NN : Addr} {bsN subN : List Value} {snN : List Str} {abN : Bool} {colN : Option Bool} {ddN : Option Addr} {uN vN wN xN yN : Option Value} {gN : Addr} {ocdN : ClassData}
    {od_gN an_gN : Option Addr} {sl_gN : Array (Option Value)} {oc_gN kV_gN dc_gN pm_gN cd_gN ct_gN : Value}
    {c2 : Addr} {ocd2 : ClassData}
    {c4 : Addr} {ocd4 : ClassData}
    {c9 : Addr} {ocd9 : ClassData}
    {c11 : Addr} {ocd11 : ClassData}
    (a_cell : W.nsIn K mainGlobals "_law_cell" = some (some (.ref f_cell)))
    (l_cell : K.lookup f_cell = some ⟨oc_cell, od_cell, .func (W.fnOf "_law_cell" "_law_cell" (defArgs sCell) (defBody sCell) (defScope sCell) .none kV_cell dc_cell pm_cell an_cell cd_cell ct_cell), sl_cell⟩)
    (c_cell : W.codeIn K cd_cell "_law_cell" = true)
    (k_cell : W.keepIn K (.ref f_cell) = true)
    (a_flow : W.nsIn K mainGlobals "_law_flow" = some (some (.ref f_flow)))
    (l_flow : K.lookup f_flow = some ⟨oc_flow, od_flow, .func (W.fnOf "_law_flow" "_law_flow" (defArgs sFlow) (defBody sFlow) (defScope sFlow) .none kV_flow dc_flow pm_flow an_flow cd_flow ct_flow), sl_flow⟩)
    (c_flow : W.codeIn K cd_flow "_law_flow" = true)
    (k_flow : W.keepIn K (.ref f_flow) = true)
    (a_draw : W.nsIn K mainGlobals "_law_draw" = some (some (.ref f_draw)))
    (l_draw : K.lookup f_draw = some ⟨oc_draw, od_draw, .func (W.fnOf "_law_draw" "_law_draw" (defArgs sDraw) (defBody sDraw) (defScope sDraw) .none kV_draw dc_draw pm_draw an_draw cd_draw ct_draw), sl_draw⟩)
    (c_draw : W.codeIn K cd_draw "_law_draw" = true)
    (k_draw : W.keepIn K (.ref f_draw) = true)
    (a_nam : W.nsIn K mainGlobals "_law_names" = some (some (.ref f_nam)))
    (l_nam : K.lookup f_nam = some ⟨oc_nam, od_nam, .func (W.fnOf "_law_names" "_law_names" (defArgs sNames) (defBody sNames) (defScope sNames) .none kV_nam dc_nam pm_nam an_nam cd_nam ct_nam), sl_nam⟩)
    (c_nam : W.codeIn K cd_nam "_law_names" = true)
    (k_nam : W.keepIn K (.ref f_nam) = true)
    (a_hou : W.nsIn K mainGlobals "_law_houses" = some (some (.ref f_hou)))
    (l_hou : K.lookup f_hou = some ⟨oc_hou, od_hou, .func (W.fnOf "_law_houses" "_law_houses" (defArgs s_law_houses) (defBody s_law_houses) (defScope s_law_houses) .none kV_hou dc_hou pm_hou an_hou cd_hou ct_hou), sl_hou⟩)
    (c_hou : W.codeIn K cd_hou "_law_houses" = true)
    (k_hou : W.keepIn K (.ref f_hou) = true)
    (a_tur : W.nsIn K mainGlobals "_law_turned" = some (some (.ref f_tur)))
    (l_tur : K.lookup f_tur = some ⟨oc_tur, od_tur, .func (W.fnOf "_law_turned" "_law_turned" (defArgs s_law_turned) (defBody s_law_turned) (defScope s_law_turned) .none kV_tur dc_tur pm_tur an_tur cd_tur ct_tur), sl_tur⟩)
    (c_tur : W.codeIn K cd_tur "_law_turned" = true)
    (k_tur : W.keepIn K (.ref f_tur) = true)
    (a_dof : W.nsIn K mainGlobals "_law_desks_of" = some (some (.ref f_dof)))
    (l_dof : K.lookup f_dof = some ⟨oc_dof, od_dof, .func (W.fnOf "_law_desks_of" "_law_desks_of" (defArgs s_law_desks_of) (defBody s_law_desks_of) (defScope s_law_desks_of) .none kV_dof dc_dof pm_dof an_dof cd_dof ct_dof), sl_dof⟩)
    (c_dof : W.codeIn K cd_dof "_law_desks_of" = true)
    (k_dof : W.keepIn K (.ref f_dof) = true)
    (a_cal : W.nsIn K mainGlobals "_law_called" = some (some (.ref f_cal)))
    (l_cal : K.lookup f_cal = some ⟨oc_cal, od_cal, .func (W.fnOf "_law_called" "_law_called" (defArgs s_law_called) (defBody s_law_called) (defScope s_law_called) .none kV_cal dc_cal pm_cal an_cal cd_cal ct_cal), sl_cal⟩)
    (c_cal : W.codeIn K cd_cal "_law_called" = true)
    (k_cal : W.keepIn K (.ref f_cal) = true)
    (a_sig : W.nsIn K mainGlobals "_law_sign" = some (some (.ref f_sig)))
    (l_sig : K.lookup f_sig = some ⟨oc_sig, od_sig, .func (W.fnOf "_law_sign" "_law_sign" (defArgs s_law_sign) (defBody s_law_sign) (defScope s_law_sign) .none kV_sig dc_sig pm_sig an_sig cd_sig ct_sig), sl_sig⟩)
    (c_sig : W.codeIn K cd_sig "_law_sign" = true)
    (k_sig : W.keepIn K (.ref f_sig) = true)
    (a_oth : W.nsIn K mainGlobals "_law_otherwise" = some (some (.ref f_oth)))
    (l_oth : K.lookup f_oth = some ⟨oc_oth, od_oth, .func (W.fnOf "_law_otherwise" "_law_otherwise" (defArgs s_law_otherwise) (defBody s_law_otherwise) (defScope s_law_otherwise) .none kV_oth dc_oth pm_oth an_oth cd_oth ct_oth), sl_oth⟩)
    (c_oth : W.codeIn K cd_oth "_law_otherwise" = true)
    (k_oth : W.keepIn K (.ref f_oth) = true)
    (a_spo : W.nsIn K mainGlobals "_law_spoilt" = some (some (.ref f_spo)))
    (l_spo : K.lookup f_spo = some ⟨oc_spo, od_spo, .func (W.fnOf "_law_spoilt" "_law_spoilt" (defArgs s_law_spoilt) (defBody s_law_spoilt) (defScope s_law_spoilt) .none kV_spo dc_spo pm_spo an_spo cd_spo ct_spo), sl_spo⟩)
    (c_spo : W.codeIn K cd_spo "_law_spoilt" = true)
    (k_spo : W.keepIn K (.ref f_spo) = true)
    (a_lna : W.nsIn K mainGlobals "_law_name" = some (some (.ref f_lna)))
    (l_lna : K.lookup f_lna = some ⟨oc_lna, od_lna, .func (W.fnOf "_law_name" "_law_name" (defArgs s_law_name) (defBody s_law_name) (defScope s_law_name) .none kV_lna dc_lna pm_lna an_lna cd_lna ct_lna), sl_lna⟩)
    (c_lna : W.codeIn K cd_lna "_law_name" = true)
    (k_lna : W.keepIn K (.ref f_lna) = true)
    (a_ltw : W.nsIn K mainGlobals "_law_twice" = some (some (.ref f_ltw)))
    (l_ltw : K.lookup f_ltw = some ⟨oc_ltw, od_ltw, .func (W.fnOf "_law_twice" "_law_twice" (defArgs s_law_twice) (defBody s_law_twice) (defScope s_law_twice) .none kV_ltw dc_ltw pm_ltw an_ltw cd_ltw ct_ltw), sl_ltw⟩)
    (c_ltw : W.codeIn K cd_ltw "_law_twice" = true)
    (k_ltw : W.keepIn K (.ref f_ltw) = true)
    (a_due : W.nsIn K mainGlobals "_law_due" = some (some (.ref f_due)))
    (l_due : K.lookup f_due = some ⟨oc_due, od_due, .func (W.fnOf "_law_due" "_law_due" (defArgs s_law_due) (defBody s_law_due) (defScope s_law_due) .none kV_due dc_due pm_due an_due cd_due ct_due), sl_due⟩)
    (c_due : W.codeIn K cd_due "_law_due" = true)
    (k_due : W.keepIn K (.ref f_due) = true)
    (a_tol : W.nsIn K mainGlobals "_law_told" = some (some (.ref f_tol)))
    (l_tol : K.lookup f_tol = some ⟨oc_tol, od_tol, .func (W.fnOf "_law_told" "_law_told" (defArgs s_law_told) (defBody s_law_told) (defScope s_law_told) .none kV_tol dc_tol pm_tol an_tol cd_tol ct_tol), sl_tol⟩)
    (c_tol : W.codeIn K cd_tol "_law_told" = true)
    (k_tol : W.keepIn K (.ref f_tol) = true)
    (a_few : W.nsIn K mainGlobals "_law_few" = some (some (.ref f_few)))
    (l_few : K.lookup f_few = some ⟨oc_few, od_few, .func (W.fnOf "_law_few" "_law_few" (defArgs s_law_few) (defBody s_law_few) (defScope s_law_few) .none kV_few dc_few pm_few an_few cd_few ct_few), sl_few⟩)
    (c_few : W.codeIn K cd_few "_law_few" = true)
    (k_few : W.keepIn K (.ref f_few) = true)
    (a_rig : W.nsIn K mainGlobals "_law_right" = some (some (.ref f_rig)))
    (l_rig : K.lookup f_rig = some ⟨oc_rig, od_rig, .func (W.fnOf "_law_right" "_law_right" (defArgs s_law_right) (defBody s_law_right) (defScope s_law_right) .none kV_rig dc_rig pm_rig an_rig cd_rig ct_rig), sl_rig⟩)
    (c_rig : W.codeIn K cd_rig "_law_right" = true)
    (k_rig : W.keepIn K (.ref f_rig) = true)
    (a_law : W.nsIn K mainGlobals "law" = some (some (.ref f_law)))
    (l_law : K.lookup f_law = some ⟨oc_law, od_law, .func (W.fnOf "law" "law" (defArgs s_law) (defBody s_law) (defScope s_law) .none kV_law dc_law pm_law an_law cd_law ct_law), sl_law⟩)
    (c_law : W.codeIn K cd_law "law" = true)
    (k_law : W.keepIn K (.ref f_law) = true)
    (a_ris : W.nsIn K mainGlobals "rising" = some (some (.ref f_ris)))
    (l_ris : K.lookup f_ris = some ⟨oc_ris, od_ris, .func (W.fnOf "rising" "rising" (defArgs s_rising) (defBody s_rising) (defScope s_rising) .none kV_ris dc_ris pm_ris an_ris cd_ris ct_ris), sl_ris⟩)
    (c_ris : W.codeIn K cd_ris "rising" = true)
    (k_ris : W.keepIn K (.ref f_ris) = true)
    (a_twi : W.nsIn K mainGlobals "refuse_twice" = some (some (.ref f_twi)))
    (l_twi : K.lookup f_twi = some ⟨oc_twi, od_twi, .func (W.fnOf "refuse_twice" "refuse_twice" (defArgs s_refuse_twice) (defBody s_refuse_twice) (defScope s_refuse_twice) .none kV_twi dc_twi pm_twi an_twi cd_twi ct_twi), sl_twi⟩)
    (c_twi : W.codeIn K cd_twi "refuse_twice" = true)
    (k_twi : W.keepIn K (.ref f_twi) = true)
    (a_ref : W.nsIn K mainGlobals "refuse_rows" = some (some (.ref f_ref)))
    (l_ref : K.lookup f_ref = some ⟨oc_ref, od_ref, .func (W.fnOf "refuse_rows" "refuse_rows" (defArgs s_refuse_rows) (defBody s_refuse_rows) (defScope s_refuse_rows) .none kV_ref dc_ref pm_ref an_ref cd_ref ct_ref), sl_ref⟩)
    (c_ref : W.codeIn K cd_ref "refuse_rows" = true)
    (k_ref : W.keepIn K (.ref f_ref) = true)
    (a_isn : W.nsIn K mainGlobals "is_name" = some (some (.ref f_isn)))
    (l_isn : K.lookup f_isn = some ⟨oc_isn, od_isn, .func (W.fnOf "is_name" "is_name" (defArgs s_is_name) (defBody s_is_name) (defScope s_is_name) .none kV_isn dc_isn pm_isn an_isn cd_isn ct_isn), sl_isn⟩)
    (c_isn : W.codeIn K cd_isn "is_name" = true)
    (k_isn : W.keepIn K (.ref f_isn) = true)
    (a_wor : W.nsIn K mainGlobals "words_of" = some (some (.ref f_wor)))
    (l_wor : K.lookup f_wor = some ⟨oc_wor, od_wor, .func (W.fnOf "words_of" "words_of" (defArgs s_words_of) (defBody s_words_of) (defScope s_words_of) .none kV_wor dc_wor pm_wor an_wor cd_wor ct_wor), sl_wor⟩)
    (c_wor : W.codeIn K cd_wor "words_of" = true)
    (k_wor : W.keepIn K (.ref f_wor) = true)
    (a_nin : W.nsIn K mainGlobals "names_in" = some (some (.ref f_nin)))
    (l_nin : K.lookup f_nin = some ⟨oc_nin, od_nin, .func (W.fnOf "names_in" "names_in" (defArgs s_names_in) (defBody s_names_in) (defScope s_names_in) .none kV_nin dc_nin pm_nin an_nin cd_nin ct_nin), sl_nin⟩)
    (c_nin : W.codeIn K cd_nin "names_in" = true)
    (k_nin : W.keepIn K (.ref f_nin) = true)
    (a_rea : W.nsIn K mainGlobals "read_sharing" = some (some (.ref f_rea)))
    (l_rea : K.lookup f_rea = some ⟨oc_rea, od_rea, .func (W.fnOf "read_sharing" "read_sharing" (defArgs s_read_sharing) (defBody s_read_sharing) (defScope s_read_sharing) .none kV_rea dc_rea pm_rea an_rea cd_rea ct_rea), sl_rea⟩)
    (c_rea : W.codeIn K cd_rea "read_sharing" = true)
    (k_rea : W.keepIn K (.ref f_rea) = true)
    (a_sho : W.nsIn K mainGlobals "show_sharing" = some (some (.ref f_sho)))
    (l_sho : K.lookup f_sho = some ⟨oc_sho, od_sho, .func (W.fnOf "show_sharing" "show_sharing" (defArgs s_show_sharing) (defBody s_show_sharing) (defScope s_show_sharing) .none kV_sho dc_sho pm_sho an_sho cd_sho ct_sho), sl_sho⟩)
    (c_sho : W.codeIn K cd_sho "show_sharing" = true)
    (k_sho : W.keepIn K (.ref f_sho) = true)
    (ca_Sharing : W.nsIn K mainGlobals "Sharing" = some (some (.ref C_Sharing)))
    (cm_Sharing : W.makesIn K C_Sharing = true)
    (ck_Sharing : W.keepIn K (.ref C_Sharing) = true)
    (cg_Sharing : W.plainGet K C_Sharing Str.empty = true)
    (ch_Sharing : W.hasDictIn K C_Sharing = true)
    (co_Sharing : W.plainOver K C_Sharing = true)
    (cs_Sharing : W.findIn K (.ref C_Sharing) "__setattr__" = some (some (.builtin "object.__setattr__")))
    (cf_Sharing_letters : W.findIn K (.ref C_Sharing) "letters" = some none)
    (cf_Sharing_desks : W.findIn K (.ref C_Sharing) "desks" = some none)
    (cf_Sharing_desks_at : W.findIn K (.ref C_Sharing) "desks_at" = some none)
    (ma_ini : W.findIn K (.ref C_Sharing) "__init__" = some (some (.ref f_ini)))
    (mb_ini : W.isFn K (.ref f_ini) = true)
    (l_ini : K.lookup f_ini = some ⟨oc_ini, od_ini, .func (W.fnOf "__init__" "Sharing.__init__" (defArgs s_Sharing___init) (defBody s_Sharing___init) (defScope s_Sharing___init) .none kV_ini dc_ini pm_ini an_ini cd_ini ct_ini), sl_ini⟩)
    (c_ini : W.codeIn K cd_ini "Sharing.__init__" = true)
    (k_ini : W.keepIn K (.ref f_ini) = true)
    (ma_mee : W.findIn K (.ref C_Sharing) "meet" = some (some (.ref f_mee)))
    (mb_mee : W.isFn K (.ref f_mee) = true)
    (l_mee : K.lookup f_mee = some ⟨oc_mee, od_mee, .func (W.fnOf "meet" "Sharing.meet" (defArgs s_Sharing_meet) (defBody s_Sharing_meet) (defScope s_Sharing_meet) .none kV_mee dc_mee pm_mee an_mee cd_mee ct_mee), sl_mee⟩)
    (c_mee : W.codeIn K cd_mee "Sharing.meet" = true)
    (k_mee : W.keepIn K (.ref f_mee) = true)
    (gLN : W.nsIn K mainGlobals "LONGEST_NAME" = some (some (.int 8 tLN)))
    (gSM : W.nsIn K mainGlobals "SMALL_LETTERS" = some (some (.str aSM tSM)))
    (kg : W.specialIn K (.builtin "object.__class__") "__get__" = some (some (.builtin "getset_descriptor.__get__")))
    (kt : W.takesIn K (.builtin "object.__class__") = some true)
    (caT : W.nsIn K mainGlobals "Twice" = some (some (.ref cT)))
    (cbT : K.lookup cT = some (excClassObj nmT quT cT NT bsT (.ref cM :: vTail) true snT subT abT colT ddT uT vT wT xT yT "ValueError.__new__"))
    (ccT : W.findIn K (.ref cT) "__getattribute__" = some (some (.builtin "BaseException.__getattribute__")))
    (cxT : W.findIn K (.ref cT) "__getattr__" = some none)
    (cdT : W.hasDictIn K cT = true)
    (ceT : W.findIn K (.ref cT) "__setattr__" = some (some (.builtin "object.__setattr__")))
    (cfT : W.findIn K (.ref cT) "__class__" = some (some (.builtin "object.__class__")))
    (cgT : W.mroIn K cT (.type "object") = some true)
    (chT : W.keepIn K (.ref cT) = true)
    (gaT : W.findIn K (.ref cT) "__init__" = some (some (.ref gT)))
    (gbT : W.isFn K (.ref gT) = true)
    (l_gT : K.lookup gT = some ⟨oc_gT, od_gT, .func (W.fnOf "__init__" "Twice.__init__" (defArgs s_Twice___init) (defBody s_Twice___init) (defScope s_Twice___init) .none kV_gT dc_gT pm_gT an_gT cd_gT ct_gT), sl_gT⟩)
    (c_gT : W.codeIn K cd_gT "Twice.__init__" = true)
    (k_gT : W.keepIn K (.ref gT) = true)
    (hnT : W.findIn K (.ref cT) "name" = some none)
    (otT : W.typeIn K (.ref cT) = some (.type "type"))
    (olT : W.clsIn K cT = some ocdT)
    (caN : W.nsIn K mainGlobals "NoText" = some (some (.ref cN)))
    (cbN : K.lookup cN = some (excClassObj nmN quN cN NN bsN (.ref cM :: vTail) true snN subN abN colN ddN uN vN wN xN yN "ValueError.__new__"))
    (ccN : W.findIn K (.ref cN) "__getattribute__" = some (some (.builtin "BaseException.__getattribute__")))
    (cxN : W.findIn K (.ref cN) "__getattr__" = some none)
    (cdN : W.hasDictIn K cN = true)
    (ceN : W.findIn K (.ref cN) "__setattr__" = some (some (.builtin "object.__setattr__")))
    (cfN : W.findIn K (.ref cN) "__class__" = some (some (.builtin "object.__class__")))
    (cgN : W.mroIn K cN (.type "object") = some true)
    (chN : W.keepIn K (.ref cN) = true)
    (gaN : W.findIn K (.ref cN) "__init__" = some (some (.ref gN)))
    (gbN : W.isFn K (.ref gN) = true)
    (l_gN : K.lookup gN = some ⟨oc_gN, od_gN, .func (W.fnOf "__init__" "NoText.__init__" (defArgs s_NoText___init) (defBody s_NoText___init) (defScope s_NoText___init) .none kV_gN dc_gN pm_gN an_gN cd_gN ct_gN), sl_gN⟩)
    (c_gN : W.codeIn K cd_gN "NoText.__init__" = true)
    (k_gN : W.keepIn K (.ref gN) = true)
    (hnN : W.findIn K (.ref cN) "line" = some none)
    (otN : W.typeIn K (.ref cN) = some (.type "type"))
    (olN : W.clsIn K cN = some ocdN)
    (oa2 : W.nsIn K mainGlobals "BadStep" = some (some (.ref c2)))
    (ot2 : W.typeIn K (.ref c2) = some (.type "type"))
    (ol2 : W.clsIn K c2 = some ocd2)
    (oa4 : W.nsIn K mainGlobals "NoLetter" = some (some (.ref c4)))
    (ot4 : W.typeIn K (.ref c4) = some (.type "type"))
    (ol4 : W.clsIn K c4 = some ocd4)
    (oa9 : W.nsIn K mainGlobals "NoName" = some (some (.ref c9)))
    (ot9 : W.typeIn K (.ref c9) = some (.type "type"))
    (ol9 : W.clsIn K c9 = some ocd9)
    (oa11 : W.nsIn K mainGlobals "NoRow" = some (some (.ref c11)))
    (ot11 : W.typeIn K (.ref c11) = some (.type "type"))
    (ol11 : W.clsIn K c11 = some ocd11)
    (z_len : W.nsIn K mainGlobals "len" = some none)
    (z_range : W.nsIn K mainGlobals "range" = some none)
    (z_max : W.nsIn K mainGlobals "max" = some none)
    (z_sorted : W.nsIn K mainGlobals "sorted" = some none)
    (z_tuple : W.nsIn K mainGlobals "tuple" = some none)
    (z_list : W.nsIn K mainGlobals "list" = some none)
    (z_set : W.nsIn K mainGlobals "set" = some none)
    (z_int : W.nsIn K mainGlobals "int" = some none)
    (z_isinstance : W.nsIn K mainGlobals "isinstance" = some none)
    (z_all : W.nsIn K mainGlobals "all" = some none)
    (z_str : W.nsIn K mainGlobals "str" = some none)
    (z_enumerate : W.nsIn K mainGlobals "enumerate" = some none)
    (eSM : aSM = abc) (nd : [cM, cT, cN, c2, c4, c9, c11].Nodup) :
    ∃ fd : FuncData, (∀ (s : Shared) (v : Value), BindsTo s fd ⟨[v], []⟩ [("_law_script", v)]) /\ ∀ base : Heap, K.In base -> base.Ns mainGlobals mg -> FnOk l.prog w K mg base CX0 12 fa fd ["_law_script"] (spLaw K) := by
  have e := hfa.symm.trans (W.mg_of X G a_law)
  cases e
  have F_cell := fun_mk (st := sCell) l_cell c_cell k_cell
  have F_flow := fun_mk (st := sFlow) l_flow c_flow k_flow
  have F_draw := fun_mk (st := sDraw) l_draw c_draw k_draw
  have F_nam := fun_mk (st := sNames) l_nam c_nam k_nam
  have F_hou := fun_mk (st := s_law_houses) l_hou c_hou k_hou
  have F_tur := fun_mk (st := s_law_turned) l_tur c_tur k_tur
  have F_dof := fun_mk (st := s_law_desks_of) l_dof c_dof k_dof
  have F_cal := fun_mk (st := s_law_called) l_cal c_cal k_cal
  have F_sig := fun_mk (st := s_law_sign) l_sig c_sig k_sig
  have F_oth := fun_mk (st := s_law_otherwise) l_oth c_oth k_oth
  have F_spo := fun_mk (st := s_law_spoilt) l_spo c_spo k_spo
  have F_lna := fun_mk (st := s_law_name) l_lna c_lna k_lna
  have F_ltw := fun_mk (st := s_law_twice) l_ltw c_ltw k_ltw
  have F_due := fun_mk (st := s_law_due) l_due c_due k_due
  have F_tol := fun_mk (st := s_law_told) l_tol c_tol k_tol
  have F_few := fun_mk (st := s_law_few) l_few c_few k_few
  have F_rig := fun_mk (st := s_law_right) l_rig c_rig k_rig
  have F_law := fun_mk (st := s_law) l_law c_law k_law
  have F_ris := fun_mk (st := s_rising) l_ris c_ris k_ris
  have F_twi := fun_mk (st := s_refuse_twice) l_twi c_twi k_twi
  have F_ref := fun_mk (st := s_refuse_rows) l_ref c_ref k_ref
  have F_isn := fun_mk (st := s_is_name) l_isn c_isn k_isn
  have F_wor := fun_mk (st := s_words_of) l_wor c_wor k_wor
  have F_nin := fun_mk (st := s_names_in) l_nin c_nin k_nin
  have F_rea := fun_mk (st := s_read_sharing) l_rea c_rea k_rea
  have F_sho := fun_mk (st := s_show_sharing) l_sho c_sho k_sho
  have F_ini := fun_mk (st := s_Sharing___init) l_ini c_ini k_ini
  have F_mee := fun_mk (st := s_Sharing_meet) l_mee c_mee k_mee
  have b_cell := F_cell.binds (ps := ["_law_script", "_law_k"]) fun _ _ _ _ _ _ us hl => by
    apply us2 ?_ us hl
    intros
    rfl
  have b_flow := F_flow.binds (ps := ["_law_script", "_law_k"]) fun _ _ _ _ _ _ us hl => by
    apply us2 ?_ us hl
    intros
    rfl
  have b_draw := F_draw.binds (ps := ["_law_flow_here", "_law_many"]) fun _ _ _ _ _ _ us hl => by
    apply us2 ?_ us hl
    intros
    rfl
  have b_nam := F_nam.binds (ps := ["_law_flow_here", "_law_many"]) fun _ _ _ _ _ _ us hl => by
    apply us2 ?_ us hl
    intros
    rfl
  have b_hou := F_hou.binds (ps := ["_law_flow_here", "_law_count"]) fun _ _ _ _ _ _ us hl => by
    apply us2 ?_ us hl
    intros
    rfl
  have b_tur := F_tur.binds (ps := ["_law_flow_here", "_law_some"]) fun _ _ _ _ _ _ us hl => by
    apply us2 ?_ us hl
    intros
    rfl
  have b_dof := F_dof.binds (ps := ["_law_rows"]) fun _ _ _ _ _ _ us hl => by
    apply us1 ?_ us hl
    intros
    rfl
  have b_cal := F_cal.binds (ps := ["_law_flow_here", "_law_rows"]) fun _ _ _ _ _ _ us hl => by
    apply us2 ?_ us hl
    intros
    rfl
  have b_sig := F_sig.binds (ps := ["_law_flow_here"]) fun _ _ _ _ _ _ us hl => by
    apply us1 ?_ us hl
    intros
    rfl
  have b_oth := F_oth.binds (ps := ["_law_flow_here", "_law_row", "_law_letter"]) fun _ _ _ _ _ _ us hl => by
    apply us3 ?_ us hl
    intros
    rfl
  have b_spo := F_spo.binds (ps := ["_law_flow_here", "_law_text"]) fun _ _ _ _ _ _ us hl => by
    apply us2 ?_ us hl
    intros
    rfl
  have b_lna := F_lna.binds (ps := ["_law_word"]) fun _ _ _ _ _ _ us hl => by
    apply us1 ?_ us hl
    intros
    rfl
  have b_ltw := F_ltw.binds (ps := ["_law_rows"]) fun _ _ _ _ _ _ us hl => by
    apply us1 ?_ us hl
    intros
    rfl
  have b_due := F_due.binds (ps := ["_law_text"]) fun _ _ _ _ _ _ us hl => by
    apply us1 ?_ us hl
    intros
    rfl
  have b_tol := F_tol.binds (ps := ["_law_text"]) fun _ _ _ _ _ _ us hl => by
    apply us1 ?_ us hl
    intros
    rfl
  have b_few := F_few.binds (ps := ["_law_text"]) fun _ _ _ _ _ _ us hl => by
    apply us1 ?_ us hl
    intros
    rfl
  have b_rig := F_rig.binds (ps := ["_law_text"]) fun _ _ _ _ _ _ us hl => by
    apply us1 ?_ us hl
    intros
    rfl
  have b_ris := F_ris.binds (ps := ["things"]) fun _ _ _ _ _ _ us hl => by
    apply us1 ?_ us hl
    intros
    rfl
  have b_twi := F_twi.binds (ps := ["names"]) fun _ _ _ _ _ _ us hl => by
    apply us1 ?_ us hl
    intros
    rfl
  have b_ref := F_ref.binds (ps := ["rows"]) fun _ _ _ _ _ _ us hl => by
    apply us1 ?_ us hl
    intros
    rfl
  have b_isn := F_isn.binds (ps := ["word"]) fun _ _ _ _ _ _ us hl => by
    apply us1 ?_ us hl
    intros
    rfl
  have b_wor := F_wor.binds (ps := ["row"]) fun _ _ _ _ _ _ us hl => by
    apply us1 ?_ us hl
    intros
    rfl
  have b_nin := F_nin.binds (ps := ["row"]) fun _ _ _ _ _ _ us hl => by
    apply us1 ?_ us hl
    intros
    rfl
  have b_rea := F_rea.binds (ps := ["text"]) fun _ _ _ _ _ _ us hl => by
    apply us1 ?_ us hl
    intros
    rfl
  have b_sho := F_sho.binds (ps := ["sharing"]) fun _ _ _ _ _ _ us hl => by
    apply us1 ?_ us hl
    intros
    rfl
  have b_ini := F_ini.binds (ps := ["self", "rows"]) fun _ _ _ _ _ _ us hl => by
    apply us2 ?_ us hl
    intros
    rfl
  have b_mee := F_mee.binds (ps := ["self", "letter"]) fun _ _ _ _ _ _ us hl => by
    apply us2 ?_ us hl
    intros
    rfl
  have B : Bt mg := ⟨W.mg_none_of X G z_len, W.mg_none_of X G z_range, W.mg_none_of X G z_max, W.mg_none_of X G z_sorted, W.mg_none_of X G z_tuple, W.mg_none_of X G z_list, W.mg_none_of X G z_set, W.mg_none_of X G z_int, W.mg_none_of X G z_isinstance, W.mg_none_of X G z_all, W.mg_none_of X G z_str, W.mg_none_of X G z_enumerate, ⟨_, W.mg_of X G gLN⟩, ⟨_, eSM ▸ W.mg_of X G gSM⟩⟩
  refine ⟨W.fnOf "law" "law" (defArgs s_law) (defBody s_law) (defScope s_law) .none kV_law dc_law pm_law an_law cd_law ct_law, fun s v => .of_eq rfl, fun base _ _ => ?_⟩
  have xcT : XC K cT cM := ⟨⟨_, _, _, _, _, _, _, _, _, _, _, _, _, _, cbT⟩, ccT, cxT, cdT, ceT, cfT, kg, kt, cgT, chT⟩
  have F_gT := fun_mk (st := s_Twice___init) l_gT c_gT k_gT
  have b_gT := F_gT.binds (ps := ["self", "name"]) fun _ _ _ _ _ _ us hl => match us, hl with | [_, _], _ => rfl
  have T0 := ok_init1 (P := l.prog) (w := w) (mg := mg) (base := base) (k := 0) (C := cT) (M := cM) (f1 := "name") F_gT xcT hnT ⟨rfl, rfl, rfl, by decide +kernel, rfl, by decide +kernel, by decide +kernel⟩ rfl (by decide +kernel) (by decide +kernel) (by decide) (by decide)
  have xcN : XC K cN cM := ⟨⟨_, _, _, _, _, _, _, _, _, _, _, _, _, _, cbN⟩, ccN, cxN, cdN, ceN, cfN, kg, kt, cgN, chN⟩
  have F_gN := fun_mk (st := s_NoText___init) l_gN c_gN k_gN
  have b_gN := F_gN.binds (ps := ["self", "line"]) fun _ _ _ _ _ _ us hl => match us, hl with | [_, _], _ => rfl
  have N0 := ok_init1 (P := l.prog) (w := w) (mg := mg) (base := base) (k := 0) (C := cN) (M := cM) (f1 := "line") F_gN xcN hnN ⟨rfl, rfl, rfl, by decide +kernel, rfl, by decide +kernel, by decide +kernel⟩ rfl (by decide +kernel) (by decide +kernel) (by decide) (by decide)
  have xt1 : XMk l.prog w K mg base 1 cT cM gT _ := ⟨xcT, gaT, gbT, T0.mono (by decide), b_gT, W.mg_of X G caT, hnT⟩
  have xt2 : XMk l.prog w K mg base 2 cT cM gT _ := ⟨xcT, gaT, gbT, T0.mono (by decide), b_gT, W.mg_of X G caT, hnT⟩
  have xn1 : XMkN l.prog w K mg base 1 cN cM gN _ := ⟨xcN, gaN, gbN, N0.mono (by decide), b_gN, W.mg_of X G caN, hnN⟩
  have xn5 : XMkN l.prog w K mg base 5 cN cM gN _ := ⟨xcN, gaN, gbN, N0.mono (by decide), b_gN, W.mg_of X G caN, hnN⟩
  have nMT : cT ≠ cM := fun z => by simp [z] at nd
  have nMN : cN ≠ cM := fun z => by simp [z] at nd
  have nNT : cN ≠ cT := fun z => by simp [z] at nd
  have nM2 : c2 ≠ cM := fun z => by simp [z] at nd
  have nT2 : cT ≠ c2 := fun z => by simp [z] at nd
  have nN2 : cN ≠ c2 := fun z => by simp [z] at nd
  have nM4 : c4 ≠ cM := fun z => by simp [z] at nd
  have nT4 : cT ≠ c4 := fun z => by simp [z] at nd
  have nN4 : cN ≠ c4 := fun z => by simp [z] at nd
  have nM9 : c9 ≠ cM := fun z => by simp [z] at nd
  have nT9 : cT ≠ c9 := fun z => by simp [z] at nd
  have nN9 : cN ≠ c9 := fun z => by simp [z] at nd
  have nM11 : c11 ≠ cM := fun z => by simp [z] at nd
  have nT11 : cT ≠ c11 := fun z => by simp [z] at nd
  have nN11 : cN ≠ c11 := fun z => by simp [z] at nd
  have xo : XOt K mg cN cT cM (cs12 c2 c4 c9 c11) := ⟨W.mg_of X G oa2, W.mg_of X G oa4, W.mg_of X G oa9, W.mg_of X G oa11, (kitAny_cons (kit_other xcN otT olT nNT nMT) (kitAny_cons (kit_other xcN ot2 ol2 nN2 nM2) (kitAny_cons (kit_other xcN ot4 ol4 nN4 nM4) (kitAny_cons (kit_other xcN ot9 ol9 nN9 nM9) (kitAny_cons (kit_other xcN ot11 ol11 nN11 nM11) rfl))))), (kitAny_cons (kit_other xcT ot2 ol2 nT2 nM2) (kitAny_cons (kit_other xcT ot4 ol4 nT4 nM4) (kitAny_cons (kit_other xcT ot9 ol9 nT9 nM9) (kitAny_cons (kit_other xcT ot11 ol11 nT11 nM11) rfl))))⟩
  have D1 := ok_draw (P := l.prog) (w := w) (mg := mg) (base := base) (k := 0) F_draw
  have C1 := ok_cell (P := l.prog) (w := w) (mg := mg) (base := base) (k := 0) F_cell B.len_
  have W1 := ok_flow F_flow C1 b_cell k_cell (W.mg_of X G a_cell)
  have Y1 := ok_names F_nam D1 b_draw k_draw (W.mg_of X G a_draw) B.range_ B.len_
  have G_draw : Fn l.prog w K mg base 2 _ _ _ _ _ := ⟨D1.mono (by decide), b_draw, k_draw, W.mg_of X G a_draw⟩
  have G_nam : Fn l.prog w K mg base 2 _ _ _ _ _ := ⟨Y1, b_nam, k_nam, W.mg_of X G a_nam⟩
  have U1 := ok_turned (k := 2) F_tur B G_draw
  have O1 := ok_desks_of (P := l.prog) (w := w) (mg := mg) (base := base) (k := 2) F_dof B
  have H1 := ok_houses F_hou B G_draw G_nam
  have G_tur : Fn l.prog w K mg base 3 _ _ _ _ _ := ⟨U1, b_tur, k_tur, W.mg_of X G a_tur⟩
  have G_dof : Fn l.prog w K mg base 3 _ _ _ _ _ := ⟨O1, b_dof, k_dof, W.mg_of X G a_dof⟩
  have G_draw3 : Fn l.prog w K mg base 3 _ _ _ _ _ := ⟨D1.mono (by decide), b_draw, k_draw, W.mg_of X G a_draw⟩
  have G_draw4 : Fn l.prog w K mg base 4 _ _ _ _ _ := ⟨D1.mono (by decide), b_draw, k_draw, W.mg_of X G a_draw⟩
  have L1 := ok_called F_cal B G_draw3 G_tur G_dof
  have R1 := ok_rising (P := l.prog) (w := w) (mg := mg) (base := base) (k := 3) F_ris B
  have T1 := ok_twice F_twi B xt1
  have G_twi : FnX l.prog w K mg base 3 _ _ _ _ _ := ⟨T1, b_twi, k_twi, W.mg_of X G a_twi⟩
  have E1 := ok_refrows F_ref B xt2 G_twi
  have G_ref : FnX l.prog w K mg base 4 _ _ _ _ _ := ⟨E1, b_ref, k_ref, W.mg_of X G a_ref⟩
  have G_ris : Fn l.prog w K mg base 4 _ _ _ _ _ := ⟨R1, b_ris, k_ris, W.mg_of X G a_ris⟩
  have S : ShC K C_Sharing := ⟨⟨cg_Sharing, ch_Sharing, co_Sharing, cs_Sharing⟩, cf_Sharing_letters, cf_Sharing_desks, cf_Sharing_desks_at⟩
  have I1 := ok_init F_ini B S G_ref G_ris
  have M5 : MakeX l.prog w K mg base 5 C_Sharing cT f_ini _ := ⟨⟨cm_Sharing, ma_ini, mb_ini, ck_Sharing⟩, S.cls, S, I1, b_ini, W.mg_of X G ca_Sharing⟩
  have N1' := ok_meet (P := l.prog) (w := w) (mg := mg) (base := base) (k := 2) F_mee S
  have NM : MeetOk l.prog w K mg base 3 C_Sharing f_mee _ := ⟨⟨ma_mee, mb_mee, k_mee⟩, N1', b_mee⟩
  have B1 := ok_is_name (P := l.prog) (w := w) (mg := mg) (base := base) (k := 0) F_isn B
  have B2 := ok_words_of (P := l.prog) (w := w) (mg := mg) (base := base) (k := 0) F_wor B
  have G_isn : Fn l.prog w K mg base 1 _ _ _ _ _ := ⟨B1, b_isn, k_isn, W.mg_of X G a_isn⟩
  have G_wor : Fn l.prog w K mg base 1 _ _ _ _ _ := ⟨B2, b_wor, k_wor, W.mg_of X G a_wor⟩
  have B3 := ok_names_in F_nin B G_wor G_isn
  have G_nin : Fn l.prog w K mg base 6 _ _ _ _ _ := ⟨B3.mono (by decide), b_nin, k_nin, W.mg_of X G a_nin⟩
  have B4 := ok_read F_rea B xn5 G_nin M5
  have B5 := ok_show F_sho B M5 NM
  have G_rea : FnX l.prog w K mg base 7 _ _ _ _ _ := ⟨B4, b_rea, k_rea, W.mg_of X G a_rea⟩
  have G_sho : Fn l.prog w K mg base 7 _ _ _ _ _ := ⟨B5.mono (by decide), b_sho, k_sho, W.mg_of X G a_sho⟩
  have TO : FnOk l.prog w K mg base CX0 8 _ _ _ spToA := (ok_toldN F_tol B xn1 xt1 xo nNT nMN G_rea G_sho).or (ok_toldT F_tol B xn1 xt1 xo nNT nMN G_rea G_sho)
  have V1 := ok_name2 (P := l.prog) (w := w) (mg := mg) (base := base) (k := 0) F_lna B
  have V2 := ok_twi (P := l.prog) (w := w) (mg := mg) (base := base) (k := 0) F_ltw B
  have G_lna : Fn l.prog w K mg base 1 _ _ _ _ _ := ⟨V1, b_lna, k_lna, W.mg_of X G a_lna⟩
  have G_ltw : Fn l.prog w K mg base 1 _ _ _ _ _ := ⟨V2, b_ltw, k_ltw, W.mg_of X G a_ltw⟩
  have V3 := ok_due F_due B G_lna G_ltw
  have V4 := ok_few (P := l.prog) (w := w) (mg := mg) (base := base) (k := 0) F_few B
  have G_few : Fn l.prog w K mg base 8 _ _ _ _ _ := ⟨V4.mono (by decide), b_few, k_few, W.mg_of X G a_few⟩
  have G_tol : Fn l.prog w K mg base 8 _ _ _ _ _ := ⟨TO, b_tol, k_tol, W.mg_of X G a_tol⟩
  have G_due : Fn l.prog w K mg base 8 _ _ _ _ _ := ⟨V3.mono (by decide), b_due, k_due, W.mg_of X G a_due⟩
  have Z1 := ok_right F_rig B G_few G_tol G_due
  have Q1 := ok_sign F_sig B G_draw
  have G_sig : Fn l.prog w K mg base 3 _ _ _ _ _ := ⟨Q1, b_sig, k_sig, W.mg_of X G a_sig⟩
  have Q2 := ok_oth F_oth B G_draw3 G_sig
  have G_oth : Fn l.prog w K mg base 4 _ _ _ _ _ := ⟨Q2, b_oth, k_oth, W.mg_of X G a_oth⟩
  have Q3 := ok_spo F_spo B G_draw4 G_oth
  have A1 : Fn l.prog w K mg base 11 _ _ _ _ _ := ⟨W1.mono (by decide), b_flow, k_flow, W.mg_of X G a_flow⟩
  have A2 : Fn l.prog w K mg base 11 _ _ _ _ _ := ⟨D1.mono (by decide), b_draw, k_draw, W.mg_of X G a_draw⟩
  have A3 : Fn l.prog w K mg base 11 _ _ _ _ _ := ⟨H1.mono (by decide), b_hou, k_hou, W.mg_of X G a_hou⟩
  have A4 : Fn l.prog w K mg base 11 _ _ _ _ _ := ⟨L1.mono (by decide), b_cal, k_cal, W.mg_of X G a_cal⟩
  have A5 : Fn l.prog w K mg base 11 _ _ _ _ _ := ⟨Q3.mono (by decide), b_spo, k_spo, W.mg_of X G a_spo⟩
  have A6 : Fn l.prog w K mg base 11 _ _ _ _ _ := ⟨Z1.mono (by decide), b_rig, k_rig, W.mg_of X G a_rig⟩
  exact ok_law F_law B A1 A2 A3 A4 A5 A6
theorem walk {l : PySem.W.OpenLaw} {q : Program} {loose : List Str} {XP : (Str -> Option Value) -> Heap -> Prop} {YP : World -> Heap -> Prop} {d : DefRec} {K : Params -> W.Frag} (hn : l.most = some 63) (hdf : d.params.defaults = [])
    (hY : ∀ (w : World) (h : Heap), YP w h -> (K w.params).In h)
    (F : ∀ (w : World) (mg : Str -> Option Value) (fa : Addr) (h : Heap), (K w.params).In h -> h.Ns mainGlobals mg -> mg d.name = some (.ref fa) ->
      ∃ fd : FuncData, (∀ (s : Shared) (u : Value), BindsTo s fd ⟨[u], []⟩ [("_law_script", u)]) /\ ∀ base : Heap, (K w.params).In base -> base.Ns mainGlobals mg -> FnOk l.prog w (K w.params) mg base CX0 12 fa fd ["_law_script"] (spLaw (K w.params))) :
    PySem.W.WalkO q loose XP YP l.row.toRowW d [] (fun f vs => PySem.call f vs) :=
  L2.walk_of (n := 63) (k := 12) (x := "_law_script") (CX := fun _ => CX0) (sp := fun w => spLaw (K w.params)) hn (by decide) hdf ⟨rfl, by decide, by decide⟩ hY F (fun _ _ a ns hl _ hS => ⟨a, ns, rfl, hS, hl, fun _ => rfl⟩) fun _ _ _ _ _ z => z
end KK
open PySem PySem.W PyProof.Rows
def PySem.W.Fast.tw3534066662675479913 : Nat := 0
def PySem.W.Fast.tw10636436048135853901 : Nat := 0
def PySem.W.Fast.tw17361934033319204229 : Nat := 0
def PySem.W.Fast.tw6625930747965244740 : Nat := 0
def PySem.W.Fast.tw14148389165282130314 : Nat := 0
def PySem.W.Fast.tw13053821658236307834 : Nat := 0
def PySem.W.Fast.tw14321942628326621670 : Nat := 0
def PySem.W.Fast.tw1740881006270806220 : Nat := 0
def PySem.W.Fast.tw17261278353788548083 : Nat := 0
def PySem.W.Fast.tw4315451197760549270 : Nat := 0
def PySem.W.Fast.tw18013688037824571903 : Nat := 0
def PySem.W.Fast.tw5136281925121837957 : Nat := 0
def PySem.W.Fast.tw15215524588308830243 : Nat := 0
def PySem.W.Fast.tw4467234211815799304 : Nat := 0
def PySem.W.Fast.tw16044042125581610506 : Nat := 0
def PySem.W.Fast.tw2444811454305912693 : Nat := 0
set_option maxRecDepth 100000 in
set_option maxHeartbeats 0 in
theorem PySem.Challenge.cw_meetdesks_k06_sharings_texts_spoilt_holds : PySem.Challenge.rw_meetdesks_k06_sharings_texts_spoilt.Holds := by
  w_on; o_law; k_head; (case hw => w_witness2)
  k_fill
  refine KK.walk (l := PySem.Challenge.rw_meetdesks_k06_sharings_texts_spoilt) rfl rfl (fun w h Y => PySem.W.kIn_of Y) ?F
  case F =>
    intro w mg fa h KX G hmg
    refine' KK.all_mk KX G hmg ?_ ?_ ?_ ?_ ?_ ?_ ?_ ?_ ?_ ?_ ?_ ?_ ?_ ?_ ?_ ?_ ?_ ?_ ?_ ?_ ?_ ?_ ?_ ?_ ?_ ?_ ?_ ?_ ?_ ?_ ?_ ?_ ?_ ?_ ?_ ?_ ?_ ?_ ?_ ?_ ?_ ?_ ?_ ?_ ?_ ?_ ?_ ?_ ?_ ?_ ?_ ?_ ?_ ?_ ?_ ?_ ?_ ?_ ?_ ?_ ?_ ?_ ?_ ?_ ?_ ?_ ?_ ?_ ?_ ?_ ?_ ?_ ?_ ?_ ?_ ?_ ?_ ?_ ?_ ?_ ?_ ?_ ?_ ?_ ?_ ?_ ?_ ?_ ?_ ?_ ?_ ?_ ?_ ?_ ?_ ?_ ?_ ?_ ?_ ?_ ?_ ?_ ?_ ?_ ?_ ?_ ?_ ?_ ?_ ?_ ?_ ?_ ?_ ?_ ?_ ?_ ?_ ?_ ?_ ?_ ?_ ?_ ?_ ?_ ?_ ?_ ?_ ?_ ?_ ?_ ?_ ?_ ?_ ?_ ?_ ?_ ?_ ?_ ?_ ?_ ?_ ?_ ?_ ?_ ?_ ?_ ?_ ?_ ?_ ?_ ?_ ?_ ?_ ?_ ?_ ?_ ?_ ?_ ?_ ?_ ?_ ?_ ?_ ?_ ?_ ?_ ?_ ?_ ?_ ?_ ?_ ?_ ?_ ?_ ?_ ?_ ?_ ?_ ?_ ?_ ?_ ?_ ?_ ?_ ?_ ?_ ?_ ?_
    all_goals try first | k_is | decide | decide +kernel
