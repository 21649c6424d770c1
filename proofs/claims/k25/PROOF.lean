import PyProof.Rows.All
import Wide.All
import OpenK.AllK
import Wide.FinOn
import Lean
import PyProof.EqAt
import PyProof.EqKinds
import PyProof.TupleCall
import PyProof.NeKinds
import PyProof.FactsAll.set_1
import PyProof.FactsAll.list_3
import PyProof.FactsAll.tuple_2
import PyProof.FactsAll.tuple_3
import PyProof.AutoListH
import PyProof.ReprRoads
import PyProof.ReprLen
import PyProof.FitsInt
import PyProof.Seq
import PyProof.ListRange
import PyProof.CollectIter
import PyProof.TupleOfSeq
import PyProof.RangeFor
import KE.KRevSl
import PyProof.FactsAll.dict_4
import PyProof.Rows.Range3
import PyProof.Rows.CountFlat
import KE.KDictSum
import KE.KDictOf
import PySem.Challenge.RW_meetdesks_k25_along_in_any_order
set_option Elab.async false
set_option linter.all false
set_option maxRecDepth 100000
namespace L2
open PySem PySem.Spec PyProof.Rows
variable {H H' : Hp} {h h' : Heap} {X : Cx} {pins : List (Addr × Obj)} {s : Shared} {ta tb te : TE} {pos p : Pos} {A : Around} {dx C : Addr} {es : List Expr}
abbrev Key := Sum Int Str
def keyIs : Key -> Value -> Bool
 | .inl k,v => Value.isInt k v
 | .inr x,v => Value.isStrOf x v
def keyH (w : World) : Key -> Int
 | .inl k => hashInt k
 | .inr x => hashStr w x
theorem keyIs_shape : ∀ {k : Key} {v : Value},keyIs k v = true -> (∃ i t,k = Sum.inl i /\ v = Value.int i t) \/ (∃ x t,k = Sum.inr x /\ v = Value.str x t)
 | .inl i,v,h => by
  obtain ⟨t,e⟩ := Value.isInt_shape (k := i) (v := v) h;exact .inl ⟨i,t,rfl,e⟩
 | .inr x,v,h => by
  obtain ⟨t,e⟩ := Value.isStrOf_shape (x := x) (v := v) h;exact .inr ⟨x,t,rfl,e⟩
theorem keyIs_int (i : Int) (t : Tok) : keyIs (.inl i) (.int i t) = true := by simp [keyIs,Value.isInt]
theorem keyIs_str (x : Str) (t : Tok) : keyIs (.inr x) (.str x t) = true := by simp [keyIs,Value.isStrOf]
theorem key_ll (a b : Int) : decide ((Sum.inl a : Key) = Sum.inl b) = (a == b) := by
 by_cases e : a = b
 . subst e; simp
 . have h : ¬ (Sum.inl a : Key) = Sum.inl b := λ q => e (Sum.inl.inj q);rw [decide_eq_false h];exact (beq_eq_false_iff_ne.mpr e).symm
theorem key_rr (a b : Str) : decide ((Sum.inr a : Key) = Sum.inr b) = decide (a = b) := by
 by_cases e : a = b
 . subst e; simp
 . have h : ¬ (Sum.inr a : Key) = Sum.inr b := λ q => e (Sum.inr.inj q);rw [decide_eq_false h,decide_eq_false e]
theorem key_lr (a : Int) (b : Str) : decide ((Sum.inl a : Key) = Sum.inr b) = false := decide_eq_false (λ q => nomatch q)
theorem key_rl (a : Str) (b : Int) : decide ((Sum.inr a : Key) = Sum.inl b) = false := decide_eq_false (λ q => nomatch q)
def mixKind (prog : Program) (w : World) : PySem.KeyKind prog w Key where
 is := keyIs
 hash := keyH w
 inj := λ v a b ha hb => by
  rcases keyIs_shape ha with ⟨i,t,rfl,rfl⟩ | ⟨x,t,rfl,rfl⟩
  . rcases keyIs_shape hb with ⟨j,u,rfl,e⟩ | ⟨y,u,rfl,e⟩
    . injection e with e1 _; rw [e1]
    . exact nomatch e
  . rcases keyIs_shape hb with ⟨j,u,rfl,e⟩ | ⟨y,u,rfl,e⟩
    . exact nomatch e
    . injection e with e1 _; rw [e1]
 byValue := λ k v h => by
  rcases keyIs_shape h with ⟨i,t,rfl,rfl⟩ | ⟨x,t,rfl,rfl⟩ <;> rfl
 pyHash := λ hv h => by
  rcases keyIs_shape hv with ⟨i,t,rfl,rfl⟩ | ⟨x,t,rfl,rfl⟩
  . exact wpAny_pyHash_int h
  . exact wpAny_pyHash_str h
 eqBool := λ hu hv h => by
  rcases keyIs_shape hu with ⟨i,t,rfl,rfl⟩ | ⟨x,t,rfl,rfl⟩
  . rcases keyIs_shape hv with ⟨j,u,rfl,rfl⟩ | ⟨y,u,rfl,rfl⟩
    . rw [key_ll] at h; exact wpAny_eqBool_int h
    . rw [key_lr] at h; exact SeqAt.EqAt.int_str i t y u _ _ _ _ h
  . rcases keyIs_shape hv with ⟨j,u,rfl,rfl⟩ | ⟨y,u,rfl,rfl⟩
    . rw [key_rl] at h; exact SeqAt.EqAt.str_int x t j u _ _ _ _ h
    . rw [key_rr] at h; exact wpAny_eqBool_str h
 «strs» := λ k x t v h => by
  rcases keyIs_shape h with ⟨i,u,rfl,e⟩ | ⟨y,u,rfl,e⟩
  . exact nomatch e
  . injection e with e1 _
    subst e1;cases v <;> rfl
theorem mixKind_int (prog : Program) (w : World) (i : Int) (t : Tok) : (mixKind prog w).is (.inl i) (.int i t) = true := keyIs_int i t
theorem mixKind_str (prog : Program) (w : World) (x : Str) (t : Tok) : (mixKind prog w).is (.inr x) (.str x t) = true := keyIs_str x t
inductive V where
 | non | bl (b : Bool) | int (i : Int) | str (x : Str) | byt (b : Array UInt8) | flt (b : UInt64) | ref (a : Addr) | ty (n : String)
 deriving DecidableEq
def RelV : V -> Value -> Prop
 | .non,u => u = Value.none
 | .bl b,u => u = Value.bool b
 | .int i,u => ∃ t,u = Value.int i t
 | .str x,u => ∃ t,u = Value.str x t
 | .byt b,u => ∃ t,u = Value.bytes b t
 | .flt b,u => ∃ t,u = Value.float b t
 | .ref a,u => u = Value.ref a
 | .ty n,u => u = Value.type n
abbrev Vals : List V -> List Value -> Prop := Paired RelV
theorem Vals.length {xs : List V} {us : List Value} (r : Vals xs us) : xs.length = us.length := Paired.length r
theorem Vals.get : ∀ {xs : List V} {us : List Value} {i : Nat} {x : V},Vals xs us -> xs[i]? = some x -> ∃ u,us[i]? = some u /\ RelV x u
 | _,_,_,_,.nil,e => by simp at e
 | _,_,0,_,.cons r _,e => by simp at e; subst e; exact ⟨_,rfl,r⟩
 | _,_,i + 1,x,.cons _ t,e => by
  obtain ⟨u,h1,h2⟩ := Vals.get (i := i) (x := x) t (by simpa using e);exact ⟨u,by simpa using h1,h2⟩
theorem Vals.set {x : V} {u : Value} (r : RelV x u) : ∀ {xs : List V} {us : List Value} (i : Nat),Vals xs us -> Vals (xs.set i x) (us.set i u)
 | _,_,_,.nil => .nil
 | _,_,0,.cons _ t => .cons r t
 | _,_,i + 1,.cons q t => .cons q (Vals.set r i t)
theorem Vals.append {xs ys : List V} {us ws : List Value} (h : Vals xs us) (s : Vals ys ws) : Vals (xs ++ ys) (us ++ ws) := by
 induction h with
 | nil => exact s
 | cons r t ih => exact .cons r ih
def RelO : Option V -> Option Value -> Prop
 | some v,some u => RelV v u
 | none,none => True
 | _,_ => False
def KV {κ : Type} : List (κ × V) -> List (κ × Value) -> Prop := Paired λ (p : κ × V) (q : κ × Value) => p.1 = q.1 /\ RelV p.2 q.2
def kV : Key -> V
 | .inl i => .int i
 | .inr x => .str x
inductive HO where
 /-- a list -/
 | lst (xs : List V)
 /-- a tuple (never changes) -/
 | tup (xs : List V)
 /-- a dict whose keys are ints and texts; one whose keys are tuples of ints and texts (the empty one is both) -/
 | dK (kvs : List (Key × V)) | dT (kvs : List (List Key × V))
 /-- a set of ints: its members,its size -/
 | set (S : Int -> Bool) (n : Nat)
 /-- an instance of the class at C,its dict at dx,its attributes -/
 | ins (C dx : Addr) (fs : List (Str × V))
 /-- the dict of the instance at x -/
 | own (x : Addr)
 /-- the dict of an exception -/
 | xd (fs : List (Str × V))
 /-- a bound method,f of x -/
 | met (f x : Addr)
 /-- a range object lo,lo + 1,.. below hi -/
 | rng (lo hi : Int)
 /-- a thing that is known to the object (the script; a dict while a loop walks it): read,never written while it is so -/
 | frz (o : Obj) (u : HO)
 /-- a code object's table -/
 | tbl (ps : Array Value)
 /-- any other thing,by what is true of its one object (a def of one's own: SetO a S n := HO.ext λ h => ..) -/
 | ext (φ : Heap -> Prop)
abbrev Hp := Addr -> Option HO
def upd (H : Hp) (a : Addr) (o : HO) : Hp := λ b => if b = a then some o else H b
theorem upd_same {H : Hp} {a : Addr} {o : HO} : upd H a o a = some o := by unfold upd; rw [if_pos rfl]
theorem upd_ne {H : Hp} {a b : Addr} {o : HO} (h : b ≠ a) : upd H a o b = H b := by unfold upd; rw [if_neg h]
theorem upd_upd {H : Hp} {a : Addr} {o u : HO} : upd (upd H a o) a u = upd H a u := by
 funext b; unfold upd; split <;> rfl
theorem ne_of {H : Hp} {a b : Addr} {o u : HO} (h : H a = some o) (h' : H b = some u) (d : o ≠ u) : a ≠ b := by
 intro e; subst e; rw [h] at h'; exact d (Option.some.inj h')
theorem ne_of_none {H : Hp} {a b : Addr} {o : HO} (h : H a = some o) (h' : H b = none) : a ≠ b := by
 intro e; subst e; rw [h] at h'; cases h'
section
variable (P : Program) (w : World)
def ObjOk (H : Hp) (h : Heap) (a : Addr) : HO -> Prop
 | .lst xs => xs.length <= sizeLine /\ ∃ (its : List Value) (n : Nat),Vals xs its /\ h.get? a = some { cls := .type "list",data := .seq its.toArray n }
 | .tup xs => xs.length <= sizeLine /\ ∃ its : List Value,Vals xs its /\ IsTup h a its.toArray
 | .dK kvs => kvs.length <= sizeLine /\ (a == sysModules) = false /\ ∃ vs,KV kvs vs /\ h.DictOf (mixKind P w) a vs
 | .dT kvs => kvs.length <= sizeLine /\ (a == sysModules) = false /\ ∃ xs : List (List Key × Addr × Value),
  Paired (λ (p : List Key × V) (q : List Key × Addr × Value) => p.1 = q.1 /\ H q.2.1 = some (.tup (p.1.map kV)) /\ RelV p.2 q.2.2) kvs xs /\
  ∃ o es ep,h.get? a = some o /\ o.ExactDict /\ o.data = .dict es ep /\ es.toList = xs.map (entryOfKey (tupleKind (mixKind P w))) /\ (xs.map (·.1)).Nodup
 | .set S n => h.SetOf (intKind P w) a S n
 | .ins C dx fs => H dx = some (.own a) /\ fs.length <= 1000 /\ dx ≠ a /\ h.get? a = some (W.instObj C dx) /\
  ∃ mA,h.Ns1 dx mA /\ (∀ f,RelO (fs.lookup f) (mA f)) /\ PySem.Within mA (fs.map (·.1))
 | .own _ => ∃ o,h.get? a = some o
 | .xd fs => ∃ mA,h.Ns1 a mA /\ ∀ f,RelO (fs.lookup f) (mA f)
 | .rng lo hi => ∃ t u v,h.get? a = some { cls := .type "range",data := .fields #[.int lo t,.int hi u,.int 1 v] }
 | .frz o u => h.get? a = some o /\ ObjOk H h a u
 | .tbl ps => h.get? a = some { cls := .none,data := .fields ps }
 | .met f x => h.get? a = some (PySem.W.methodObj (.ref f) (.ref x))
 | .ext φ => φ h /\ (∃ o,h.get? a = some o) /\ ∀ h1 h2 : Heap,φ h1 -> (∀ o,h1.get? a = some o -> h2.get? a = some o) -> φ h2
def HOk (H : Hp) (h : Heap) : Prop := ∀ a o,H a = some o -> ObjOk P w H h a o
end
section
variable {P : Program} {w : World} {a : Addr} {o : HO}
theorem ObjOk.lt (x : ObjOk P w H h a o) : a < h.objs.size := by
 cases o with
 | lst xs => obtain ⟨_,_,_,_,e⟩ := x; exact Heap.lt_size e
 | tup xs => obtain ⟨_,_,_,p⟩ := x; exact p.lt
 | dK kvs => obtain ⟨_,_,_,_,o,_,_,e,_⟩ := x; exact Heap.lt_size e
 | dT kvs => obtain ⟨_,_,_,_,o,_,_,e,_⟩ := x; exact Heap.lt_size e
 | set S n => obtain ⟨o,_,_,_,e,_⟩ := x; exact Heap.lt_size e
 | ins C dx fs => obtain ⟨_,_,_,e,_⟩ := x; exact Heap.lt_size e
 | own y => obtain ⟨_,e⟩ := x; exact Heap.lt_size e
 | xd fs => obtain ⟨_,⟨_,_,_,e,_⟩,_⟩ := x; exact Heap.lt_size e
 | rng lo hi => obtain ⟨_,_,_,e⟩ := x; exact Heap.lt_size e
 | frz ob u => obtain ⟨e,_⟩ := x; exact Heap.lt_size e
 | tbl ps => exact Heap.lt_size (show h.get? a = some _ from x)
 | met f y => exact Heap.lt_size (show h.get? a = some _ from x)
 | ext φ => obtain ⟨_,⟨_,e⟩,_⟩ := x; exact Heap.lt_size e
theorem Paired.mapP {α β : Type} {F G : α -> β -> Prop} {l₁ : List α} {l₂ : List β} (h : Paired F l₁ l₂) (f : ∀ a b,F a b -> G a b) : Paired G l₁ l₂ := by
 induction h with
 | nil => exact .nil
 | cons r t ih => exact .cons (f _ _ r) ih
theorem ObjOk.stay (x : ObjOk P w H h a o) (k : ∀ b u,(b = a \/ H b = some (.own a)) -> h.get? b = some u -> h'.get? b = some u)
 (ho : ∀ b,H b = some (.own a) -> H' b = some (.own a)) (ht : ∀ b xs,H b = some (.tup xs) -> H' b = some (.tup xs)) : ObjOk P w H' h' a o := by
 induction o with
 | lst xs => obtain ⟨z,its,n,r,e⟩ := x; exact ⟨z,its,n,r,k _ _ (.inl rfl) e⟩
 | tup xs => obtain ⟨z,its,r,ob,e,c⟩ := x; exact ⟨z,its,r,ob,k _ _ (.inl rfl) e,c⟩
 | dK kvs => obtain ⟨z,y,vs,r,ob,es,ep,e,c⟩ := x; exact ⟨z,y,vs,r,ob,es,ep,k _ _ (.inl rfl) e,c⟩
 | dT kvs =>
  obtain ⟨z,y,xs,r,ob,es,ep,e,c⟩ := x;exact ⟨z,y,xs,Paired.mapP r λ p q z => ⟨z.1,ht _ _ z.2.1,z.2.2⟩,ob,es,ep,k _ _ (.inl rfl) e,c⟩
 | set S n => obtain ⟨ob,es,ep,t,e,c⟩ := x; exact ⟨ob,es,ep,t,k _ _ (.inl rfl) e,c⟩
 | ins C dx fs =>
  obtain ⟨d,z,ne,e,mA,⟨od,es,ep,e2,c⟩,r⟩ := x;exact ⟨ho _ d,z,ne,k _ _ (.inl rfl) e,mA,⟨od,es,ep,k _ _ (.inr d) e2,c⟩,r⟩
 | own y => obtain ⟨ob,e⟩ := x; exact ⟨ob,k _ _ (.inl rfl) e⟩
 | xd fs => obtain ⟨mA,⟨od,es,ep,e,c⟩,r⟩ := x; exact ⟨mA,⟨od,es,ep,k _ _ (.inl rfl) e,c⟩,r⟩
 | rng lo hi => obtain ⟨t,u,v,e⟩ := x; exact ⟨t,u,v,k _ _ (.inl rfl) e⟩
 | frz ob u ih => obtain ⟨e,q⟩ := x; exact ⟨k _ _ (.inl rfl) e,ih q⟩
 | tbl ps =>
  have e : h.get? a = some { cls := .none,data := .fields ps } := x;show h'.get? a = some { cls := .none,data := .fields ps };exact k a _ (.inl rfl) e
 | met f y =>
  have e : h.get? a = some (PySem.W.methodObj (.ref f) (.ref y)) := x;show h'.get? a = some (PySem.W.methodObj (.ref f) (.ref y));exact k a _ (.inl rfl) e
 | ext φ => obtain ⟨p,⟨o,e⟩,st⟩ := x; exact ⟨st _ _ p λ o q => k _ _ (.inl rfl) q,⟨o,k _ _ (.inl rfl) e⟩,st⟩
theorem HOk.lt (x : HOk P w H h) (e : H a = some o) : a < h.objs.size := (x a o e).lt
theorem HOk.fresh (x : HOk P w H h) (e : h.objs.size <= a) : H a = none := by
 cases q : H a with
 | none => rfl
 | some u => exact absurd (Nat.lt_of_lt_of_le (x.lt q) e) (Nat.lt_irrefl _)
theorem HOk.kept (x : HOk P w H h) (k : ∀ b u,h.get? b = some u -> h'.get? b = some u) : HOk P w H h' := λ a o e =>
 (x a o e).stay (λ b u _ q => k b u q) (λ _ q => q) λ _ _ q => q
theorem HOk.laid (x : HOk P w H h) (k : ∀ b u,h.get? b = some u -> h'.get? b = some u) (hp : h.objs.size <= a) (new : ObjOk P w (upd H a o) h' a o) : HOk P w (upd H a o) h' := λ b u e => by
 have hn := x.fresh hp
 by_cases hb : b = a
 . subst hb; rw [upd_same] at e; cases e; exact new
 . rw [upd_ne hb] at e;exact (x b u e).stay (λ c v _ q => k c v q) (λ c q => by rw [upd_ne (ne_of_none q hn)]; exact q) λ c xs q => by rw [upd_ne (ne_of_none q hn)]; exact q
end
def Rd (H : Hp) (a : Addr) (u : HO) : Prop := H a = some u \/ ∃ o,H a = some (.frz o u)
theorem Rd.of {H : Hp} {a : Addr} {u : HO} (h : H a = some u) : Rd H a u := .inl h
theorem Rd.ok {P : Program} {w : World} {H : Hp} {h : Heap} {a : Addr} {u : HO} (r : Rd H a u) (x : HOk P w H h) : ObjOk P w H h a u := by
 rcases r with r | ⟨o,r⟩
 . exact x a u r
 . obtain ⟨_,q⟩ := x a _ r;exact q
def Mut : Option HO -> Prop
 | some (.lst _) => True
 | some (.dK _) => True
 | some (.dT _) => True
 | some (.set _ _) => True
 | some (.ins _ _ _) => True
 | some (.ext _) => True
 | _ => False
section
variable {P : Program} {w : World} {x e : Addr} {o' : HO}
theorem HOk.write (ok : HOk P w H h) (mu : Mut (H x)) (he : e = x \/ H e = some (.own x)) (k : ∀ b u,b ≠ e -> h.get? b = some u -> h'.get? b = some u) (heo : ∃ u,h'.get? e = some u)
 (new : ObjOk P w (upd H x o') h' x o') : HOk P w (upd H x o') h' := λ b u q => by
 have nown : ∀ c y,H c = some (.own y) -> c ≠ x := λ c y r z => by subst z; rw [r] at mu; exact mu
 have ntup : ∀ c xs,H c = some (.tup xs) -> c ≠ x := λ c xs r z => by subst z; rw [r] at mu; exact mu
 by_cases hb : b = x
 . subst hb; rw [upd_same] at q; cases q; exact new
 . rw [upd_ne hb] at q
   by_cases hbe : b = e
   . have q' : H b = some (.own x) := by
      rcases he with z | z
      . exact absurd (hbe.trans z) hb
      . rw [hbe]; exact z
     rw [q] at q'; cases q';obtain ⟨v,hv⟩ := heo;exact ⟨v,by rw [hbe]; exact hv⟩
   . refine (ok b u q).stay (λ c v hc r => k c v ?_ r) (λ c r => by rw [upd_ne (nown c b r)]; exact r) λ c xs r => by rw [upd_ne (ntup c xs r)]; exact r
     rcases hc with rfl | hc
     . exact hbe
     . rintro rfl
       rcases he with z | z
       . exact nown c b hc z
       . rw [hc] at z; cases z; exact hb rfl
end
structure Un (fs ex : List Addr) (H H' : Hp) (h h' : Heap) : Prop where
 keep : ∀ b o,h.get? b = some o -> H b = none -> b ∉ fs -> b ∉ ex -> h'.get? b = some o
 slot : ∀ b o,h.get? b = some o -> H b = none -> b ∈ fs -> b ∉ ex -> ∃ sl,h'.get? b = some { o with slots := sl }
 free : ∀ b o,h.get? b = some o -> H b = none -> b ∉ ex -> H' b = none
 there : ∀ b o,h.get? b = some o -> b ∉ ex -> ∃ o',h'.get? b = some o'
 tups : ∀ b xs,H b = some (.tup xs) -> H' b = some (.tup xs)
 frzs : ∀ b o u,H b = some (.frz o u) -> H' b = some (.frz o u)
 tbls : ∀ b ps,H b = some (.tbl ps) -> ∃ more,H' b = some (.tbl (ps ++ more))
section
variable {fs fs' ex ex' : List Addr} {H1 H2 : Hp} {h1 h2 : Heap} {a x e : Addr} {o : HO}
theorem Un.any (u : Un fs ex H H1 h h1) {b : Addr} {ob : Obj} (q : h.get? b = some ob) (n : H b = none) (hx : b ∉ ex) : ∃ sl,h1.get? b = some { ob with slots := sl } := by
 by_cases hb : b ∈ fs
 . exact u.slot b ob q n hb hx
 . exact ⟨ob.slots,u.keep b ob q n hb hx⟩
theorem Un.kept (k : ∀ b u,h.get? b = some u -> h'.get? b = some u) : Un fs ex H H h h' :=
 ⟨λ b ob q _ _ _ => k b ob q,λ b ob q _ _ _ => ⟨ob.slots,k b ob q⟩,λ _ _ _ n _ => n,λ b ob q _ => ⟨ob,k b ob q⟩,λ _ _ q => q,λ _ _ _ q => q,λ _ ps q => ⟨#[],by rw [q]; simp⟩⟩
theorem Un.refl : Un fs ex H H h h := Un.kept λ _ _ q => q
theorem Un.laid (k : ∀ b u,h.get? b = some u -> h'.get? b = some u) (hp : h.objs.size <= a) (hn : H a = none) : Un fs ex H (upd H a o) h h' where
 keep := λ b u q _ _ _ => k b u q
 slot := λ b u q _ _ _ => ⟨u.slots,k b u q⟩
 free := λ b u q n _ => by rw [upd_ne (Nat.ne_of_lt (Nat.lt_of_lt_of_le (Heap.lt_size q) hp))]; exact n
 there := λ b u q _ => ⟨u,k b u q⟩
 tups := λ b xs q => by rw [upd_ne (ne_of_none q hn)]; exact q
 frzs := λ b u xs q => by rw [upd_ne (ne_of_none q hn)]; exact q
 tbls := λ b ps q => ⟨#[],by rw [upd_ne (ne_of_none q hn),q]; simp⟩
theorem Un.write (mu : Mut (H x)) (he : e = x \/ H e = some (.own x)) (k : ∀ b u,b ≠ e -> h.get? b = some u -> h'.get? b = some u) (heo : ∃ u,h'.get? e = some u) : Un fs ex H (upd H x o) h h' := by
 have hx : ∀ b,H b = none -> b ≠ x := λ b n z => by subst z; rw [n] at mu; exact mu
 have hb : ∀ b,H b = none -> b ≠ e := λ b n z => by
  subst z
  rcases he with r | r
  . exact hx b n r
  . rw [n] at r; cases r
 have hm : ∀ b u,H b = some u -> ¬ Mut (some u) -> b ≠ x := λ b u q nm z => by subst z; rw [q] at mu; exact nm mu
 refine ⟨λ b u q n _ _ => k b u (hb b n) q,λ b u q n _ _ => ⟨u.slots,k b u (hb b n) q⟩,λ b u q n _ => by rw [upd_ne (hx b n)]; exact n,λ b u q _ => ?_,
  λ b xs q => by rw [upd_ne (hm b _ q λ z => z)]; exact q,λ b u xs q => by rw [upd_ne (hm b _ q λ z => z)]; exact q,λ b ps q => ⟨#[],by rw [upd_ne (hm b _ q λ z => z),q]; simp⟩⟩
 by_cases hbe : b = e
 . subst hbe; exact heo
 . exact ⟨u,k b u hbe q⟩
end
def trk (h : Heap) (H : Hp) : List Addr := (List.range h.objs.size).filter λ a => (H a).isSome
def hidT (h : Heap) (H : Hp) : Heap := PySem.W.hideAll h (trk h H)
theorem hidT_size (h : Heap) (H : Hp) : (hidT h H).objs.size = h.objs.size := PySem.W.hideAll_size _ _
theorem hidT_get {h : Heap} {H : Hp} {b : Addr} {o : Obj} (e : h.get? b = some o) (n : H b = none) : (hidT h H).get? b = some o :=
 PySem.W.hideAll_get _ e λ hm => by
  have q : (H b).isSome = true := (List.mem_filter.mp hm).2;rw [n] at q; simp at q
theorem of_hidT {h : Heap} {H : Hp} {b : Addr} {o : Obj} (e : (hidT h H).get? b = some o) : h.get? b = some o /\ H b = none := by
 have e' : h.get? b = some o := PySem.W.of_hideAll (trk h H) e
 refine ⟨e',?_⟩
 cases q : H b with
 | none => rfl
 | some x =>
  have hm : b ∈ trk h H := List.mem_filter.mpr ⟨List.mem_range.mpr (Heap.lt_size e'),by simp [q]⟩;have z : (hidT h H).get? b = none := PySem.W.hideAll_none (trk h H) hm;rw [z] at e; cases e
def allNews (g h : Heap) (L : Addr) : List (Addr × Obj) := (List.range h.objs.size).filterMap λ a => if a = L \/ (g.get? a).isSome = true then none else (h.get? a).map λ o => (a,o)
def rest (g h : Heap) (L d : Addr) : List (Addr × Obj) := (allNews g h L).filter λ p => decide (p.1 ≠ d)
structure Mod (K : W.Frag) (mg : Str -> Option Value) (base : Heap) : Prop where
 kin : K.In base
 glob : base.Ns mainGlobals mg
 blt : ∃ mb,base.Ns builtinsNs mb /\ ∀ x : Str,x ≠ "__name__" -> mb x = bootBuiltins x
 nolimit : base.NoLimit
structure Cx where
 prog : Program
 w : World
 K : W.Frag
 mg : Str -> Option Value
 base : Heap
 A : Around
 N : List Str
 s₀ : Shared
 H₀ : Hp
 env : Env
 outer : List Env
 stack : List Env
 ex : List Addr
 fn : Str -> Bool
 calm : Bool
 pn : List (Addr × Obj)
 xe : Value -> Shared -> Prop
def frs (l : List Env) : List Addr := l.filterMap (·.frame)
abbrev Cx.fs (X : Cx) : List Addr := frs X.outer
def Vis (sc : Scope) (x : Str) : Prop := sc.names.lookup x = some .local \/ sc.names.lookup x = some .cell \/ sc.names.lookup x = some .free
def Loc (sc : Scope) (x : Str) : Prop := sc.names.lookup x = some .local \/ sc.names.lookup x = some .cell
def Look (env : Env) (h : Heap) (m : Str -> Option Value) (x : Str) (u : Value) : Prop :=
 (env.kindOf x = some .local /\ m x = some u) \/ ((env.kindOf x = some .cell \/ env.kindOf x = some .free) /\ ∃ c,env.cells.lookup x = some c /\ h.IsCell c (some u))
structure Cx.Ok (X : Cx) : Prop where
 mod : Mod X.K X.mg X.base
 kind : X.env.scope.kind = .function
 glob : X.env.globals = mainGlobals
 blt : X.env.builtins = builtinsNs
 above : X.s₀.heap.objs.size <= X.env.locals
 inj : ∀ x y c,X.env.cells.lookup x = some c -> X.env.cells.lookup y = some c -> x = y
 has : ∀ x,(X.env.kindOf x = some .cell \/ X.env.kindOf x = some .free) -> ∃ c,X.env.cells.lookup x = some c
 cab : ∀ x c,X.fn x = true -> X.env.cells.lookup x = some c -> X.s₀.heap.objs.size <= c
 hd : X.calm = true -> X.A.handled = none
 frames : X.A.frames = some X.stack
 stk : X.stack = X.outer \/ (X.stack = X.env :: X.outer /\ X.env.frame = some X.env.locals)
 exf : ∀ b ∈ X.ex,b ≠ X.env.locals /\ ∀ x c,X.env.cells.lookup x = some c -> c ≠ b
 bs : ∀ b o,X.base.get? b = some o -> X.s₀.heap.get? b = some o /\ X.H₀ b = none
 bsz : X.base.objs.size <= X.s₀.heap.objs.size
 noex : ∀ b o,X.base.get? b = some o -> b ∉ X.ex
 exfs : ∀ b ∈ X.ex,b ∉ X.fs
 funs : X.s₀.heap.FunFrames X.base X.outer
 frf : ∀ b ∈ X.fs,X.H₀ b = none
structure Inv (X : Cx) (pins : List (Addr × Obj)) (σ : List (Option V)) (H : Hp) (s : Shared) : Prop where
 ok : X.Ok
 os : s.os = X.s₀.os
 bare : AllBare s.gens
 base : Un X.fs X.ex X.H₀ H X.s₀.heap s.heap
 loc : ∃ m,s.heap.Ns X.env.locals m /\ ∀ (i : Nat) (x : Str) (v : V),X.N[i]? = some x -> σ[i]? = some (some v) -> Vis X.env.scope x -> ∃ u,RelV v u /\ Look X.env s.heap m x u
 cell : ∀ x c,X.env.cells.lookup x = some c -> ∃ v,s.heap.IsCell c v
 free : H X.env.locals = none
 freeC : ∀ x c,X.env.cells.lookup x = some c -> H c = none
 pin : ∀ p ∈ X.pn ++ pins,s.heap.get? p.1 = some p.2 /\ H p.1 = none /\ p.1 ≠ X.env.locals /\ p.1 ∉ X.fs /\ ∀ v,p.2.data ≠ .cell v
 hok : HOk X.prog X.w H s.heap
 len : σ.length = X.N.length
section
variable {σ : List (Option V)}
theorem Cx.Ok.nofr (ok : X.Ok) {b : Addr} {o : Obj} (e : X.base.get? b = some o) : b ∉ X.fs := λ hb => by
 have := (ok.funs.mem hb).1
 rw [e] at this; cases this
theorem Inv.bs (I : Inv X pins σ H s) : ∀ b o,X.base.get? b = some o -> s.heap.get? b = some o /\ H b = none := λ b o e =>
 ⟨I.base.keep b o (I.ok.bs b o e).1 (I.ok.bs b o e).2 (I.ok.nofr e) (I.ok.noex b o e),I.base.free b o (I.ok.bs b o e).1 (I.ok.bs b o e).2 (I.ok.noex b o e)⟩
theorem Inv.bk (I : Inv X pins σ H s) : ∀ b o,X.base.get? b = some o -> s.heap.get? b = some o := λ b o e => (I.bs b o e).1
theorem Inv.mod (I : Inv X pins σ H s) : Mod X.K X.mg X.base := I.ok.mod
theorem Inv.kIn (I : Inv X pins σ H s) : X.K.In s.heap := I.ok.mod.kin.keeps I.bk
theorem Inv.lt (I : Inv X pins σ H s) : X.env.locals < s.heap.objs.size := let ⟨_,hn,_⟩ := I.loc; hn.lt
theorem Inv.sz (I : Inv X pins σ H s) : X.s₀.heap.objs.size <= s.heap.objs.size := Nat.le_trans I.ok.above (Nat.le_of_lt I.lt)
theorem Inv.nofs (I : Inv X pins σ H s) {a : Addr} (h : s.heap.objs.size <= a) : a ∉ X.fs := λ hb => by
 obtain ⟨_,o,ho,_⟩ := I.ok.funs.mem hb
 exact absurd (Nat.lt_of_lt_of_le (Heap.lt_size ho) (Nat.le_trans I.sz h)) (Nat.lt_irrefl _)
theorem Inv.cne (I : Inv X pins σ H s) : ∀ x c,X.env.cells.lookup x = some c -> c ≠ X.env.locals := λ x c e z => by
 obtain ⟨v,o,ho,hd⟩ := I.cell x c e
 obtain ⟨m,⟨o',es,ep,ho',hd',_⟩,_⟩ := I.loc
 rw [z,ho'] at ho; cases ho; rw [hd'] at hd; cases hd
theorem Inv.funs (I : Inv X pins σ H s) : s.heap.FunFrames X.base X.outer := by
 have all : ∀ (l : List Env),(∀ b ∈ frs l,b ∈ X.fs) -> X.s₀.heap.FunFrames X.base l -> s.heap.FunFrames X.base l := by
  intro l
  induction l with
  | nil => intro _ _; trivial
  | cons env r ih =>
   intro hs hl;obtain ⟨hk,⟨L,o,hf,hn,ho,hd⟩,hr⟩ := hl;have hL : L ∈ X.fs := hs L (by unfold frs; rw [List.filterMap_cons,hf]; exact List.mem_cons_self);obtain ⟨sl,e⟩ := I.base.slot L o ho (I.ok.frf L hL) hL λ z => I.ok.exfs L z hL;exact ⟨hk,⟨L,_,hf,hn,e,hd⟩,ih (λ b hb => hs b (by unfold frs; rw [List.filterMap_cons,hf]; exact List.mem_cons_of_mem _ hb)) hr⟩
 exact all X.outer (λ _ hb => hb) I.ok.funs
theorem Inv.stack (I : Inv X pins σ H s) : s.heap.FunFrames X.base X.stack := by
 rcases I.ok.stk with e | ⟨e,hf⟩
 . rw [e]; exact I.funs
 . rw [e];obtain ⟨m,hn,_⟩ := I.loc;refine .cons (by rw [I.ok.kind]; decide) hf hn ?_ I.funs;exact Heap.get?_none_of_le (Nat.le_trans I.ok.bsz I.ok.above)
theorem Inv.stkSub (I : Inv X pins σ H s) : ∀ b ∈ frs X.stack,b ∈ X.env.locals :: X.fs := λ b hb => by
 rcases I.ok.stk with e | ⟨e,hf⟩
 . rw [e] at hb; exact List.mem_cons_of_mem _ hb
 . rw [e] at hb;unfold frs at hb;rw [List.filterMap_cons,hf] at hb;exact hb
theorem Inv.stkFree (I : Inv X pins σ H s) : ∀ b ∈ frs X.stack,H b = none := λ b hb => by
 rcases List.mem_cons.mp (I.stkSub b hb) with e | hb
 . rw [e]; exact I.free
 . obtain ⟨_,o,ho,_⟩ := I.ok.funs.mem hb;exact I.base.free b o ho (I.ok.frf b hb) λ z => I.ok.exfs b z hb
theorem Inv.step {g' : Array GenState} {t' : Nat} {d' : Drawn} {ch : List Addr} (I : Inv X pins σ H s)
 (hch : ∀ b ∈ ch,(b ∈ X.ex \/ X.s₀.heap.objs.size <= b) /\ b ≠ X.env.locals /\ (∀ x c,X.env.cells.lookup x = some c -> c ≠ b) /\ ∀ p ∈ X.pn ++ pins,p.1 ≠ b)
 (keep : ∀ b o,b ≠ X.env.locals -> b ∉ X.fs -> b ∉ ch -> s.heap.get? b = some o -> H b = none -> h'.get? b = some o)
 (slot : ∀ b o,b ≠ X.env.locals -> b ∈ X.fs -> b ∉ ch -> s.heap.get? b = some o -> H b = none -> ∃ sl,h'.get? b = some { o with slots := sl }) (free : ∀ b o,b ∉ ch -> s.heap.get? b = some o -> H b = none -> H' b = none)
 (there : ∀ b o,b ∉ ch -> s.heap.get? b = some o -> ∃ o',h'.get? b = some o')
 (tups : ∀ b xs,H b = some (.tup xs) -> H' b = some (.tup xs)) (frzs : ∀ b o u,H b = some (.frz o u) -> H' b = some (.frz o u)) (tbls : ∀ b ps,H b = some (.tbl ps) -> ∃ more,H' b = some (.tbl (ps ++ more)))
 (ns : ∀ m,s.heap.Ns X.env.locals m -> h'.Ns X.env.locals m) (hok : HOk X.prog X.w H' h') (hg : AllBare g') :
 Inv X pins σ H' { s with heap := h',gens := g',drawn := d',toks := t' } := by
 have neL : ∀ b o,X.s₀.heap.get? b = some o -> b ≠ X.env.locals := λ b o e => Nat.ne_of_lt (Nat.lt_of_lt_of_le (Heap.lt_size e) I.ok.above)
 have neC : ∀ b o,X.s₀.heap.get? b = some o -> b ∉ X.ex -> b ∉ ch := λ b o e hx hb => by
  rcases (hch b hb).1 with z | z
  . exact hx z
  . exact absurd (Nat.lt_of_lt_of_le (Heap.lt_size e) z) (Nat.lt_irrefl _)
 have cellK : ∀ x c,X.env.cells.lookup x = some c -> ∀ v,s.heap.IsCell c v -> h'.IsCell c v := λ x c e v ⟨o,ho,hd⟩ => by
  have nch : c ∉ ch := λ z => (hch c z).2.2.1 x c e rfl
  by_cases hc : c ∈ X.fs
  . obtain ⟨sl,q⟩ := slot c o (I.cne x c e) hc nch ho (I.freeC x c e);exact ⟨_,q,hd⟩
  . exact ⟨o,keep c o (I.cne x c e) hc nch ho (I.freeC x c e),hd⟩
 refine ⟨I.ok,I.os,hg,⟨λ b o e n hb hx => ?_,λ b o e n hb hx => ?_,λ b o e n hx => ?_,λ b o e hx => ?_,λ b xs e => tups b xs (I.base.tups b xs e),λ b o xs e => frzs b o xs (I.base.frzs b o xs e),λ b ps e => ?_⟩,?_,λ x c e => ?_,?_,λ x c e => ?_,λ p hp => ?_,hok,I.len⟩
 . exact keep b o (neL b o e) hb (neC b o e hx) (I.base.keep b o e n hb hx) (I.base.free b o e n hx)
 . obtain ⟨sl,e1⟩ := I.base.slot b o e n hb hx;obtain ⟨sl',e2⟩ := slot b _ (neL b o e) hb (neC b o e hx) e1 (I.base.free b o e n hx);exact ⟨sl',e2⟩
 . obtain ⟨o',e1⟩ := I.base.there b o e hx;exact free b o' (neC b o e hx) e1 (I.base.free b o e n hx)
 . obtain ⟨o',e1⟩ := I.base.there b o e hx;exact there b o' (neC b o e hx) e1
 . obtain ⟨m1,e1⟩ := I.base.tbls b ps e;obtain ⟨m2,e2⟩ := tbls b _ e1;exact ⟨m1 ++ m2,by rw [e2,Array.append_assoc]⟩
 . obtain ⟨m,hn,hl⟩ := I.loc;refine ⟨m,ns m hn,λ i x v e1 e2 e3 => ?_⟩;obtain ⟨u,r,l⟩ := hl i x v e1 e2 e3;refine ⟨u,r,?_⟩
   rcases l with l | ⟨k,c,e,z⟩
   . exact .inl l
   . exact .inr ⟨k,c,e,cellK x c e _ z⟩
 . obtain ⟨v,z⟩ := I.cell x c e;exact ⟨v,cellK x c e v z⟩
 . obtain ⟨m,⟨o,_,_,ho,_⟩,_⟩ := I.loc;exact free _ o (λ z => (hch _ z).2.1 rfl) ho I.free
 . obtain ⟨v,o,ho,hd⟩ := I.cell x c e;exact free c o (λ z => (hch c z).2.2.1 x c e rfl) ho (I.freeC x c e)
 . obtain ⟨e,n,ne,nf,d⟩ := I.pin p hp;have nch : p.1 ∉ ch := λ z => (hch p.1 z).2.2.2 p hp rfl;exact ⟨keep p.1 p.2 ne nf nch e n,free p.1 p.2 nch e n,ne,nf,d⟩
theorem Inv.un {t' : Nat} (I : Inv X pins σ H s) (u : Un X.fs [] H H' s.heap h') (hok : HOk X.prog X.w H' h') : Inv X pins σ H' { s with heap := h',toks := t' } := by
 obtain ⟨m,⟨o,es,ep,ho,r⟩,_⟩ := id I.loc
 obtain ⟨sl,hL⟩ := u.any ho I.free (by simp)
 exact I.step (g' := s.gens) (d' := s.drawn) (ch := []) (λ _ z => nomatch z) (λ b o _ hb _ e n => u.keep b o e n hb (by simp)) (λ b o _ hb _ e n => u.slot b o e n hb (by simp)) (λ b o _ e n => u.free b o e n (by simp)) (λ b o _ e => u.there b o e (by simp)) u.tups u.frzs u.tbls (λ m' hm => by
  obtain ⟨o',es',ep',ho',r'⟩ := hm;rw [ho] at ho'; cases ho';exact ⟨_,es',ep',hL,r'⟩) hok I.bare
theorem Inv.call {g' : Array GenState} {t' : Nat} {d' : Drawn} {ch : List Addr} (I : Inv X pins σ H s) (u : Un (frs X.stack) ch H H' s.heap h') (hok : HOk X.prog X.w H' h') (hg : AllBare g')
 (hch : ∀ b ∈ ch,(b ∈ X.ex \/ X.s₀.heap.objs.size <= b) /\ b ≠ X.env.locals /\ (∀ x c,X.env.cells.lookup x = some c -> c ≠ b) /\ ∀ p ∈ X.pn ++ pins,p.1 ≠ b) :
 Inv X pins σ H' { s with heap := h',gens := g',drawn := d',toks := t' } := by
 obtain ⟨m,⟨o,es,ep,ho,r⟩,_⟩ := id I.loc
 obtain ⟨sl,hL⟩ := u.any ho I.free λ z => (hch _ z).2.1 rfl
 exact I.step (ch := ch) hch (λ b o hL hb hc e n => u.keep b o e n (λ z => (List.mem_cons.mp (I.stkSub b z)).elim hL hb) hc) (λ b o _ _ hc e n => u.any e n hc) (λ b o hc e n => u.free b o e n hc) (λ b o hc e => u.there b o e hc) u.tups u.frzs u.tbls (λ m' hm => by
  obtain ⟨o',es',ep',ho',r'⟩ := hm;rw [ho] at ho'; cases ho';exact ⟨_,es',ep',hL,r'⟩) hok hg
theorem Inv.turned {t' : Nat} {it : Addr} (I : Inv X pins σ H s) (k : ∀ b o,b ≠ it -> s.heap.get? b = some o -> h'.get? b = some o) (hn : H it = none) (hL : it ≠ X.env.locals)
 (h1 : it ∈ X.ex \/ X.s₀.heap.objs.size <= it) (h2 : ∀ x c,X.env.cells.lookup x = some c -> c ≠ it) (h3 : ∀ p ∈ X.pn ++ pins,p.1 ≠ it) : Inv X pins σ H { s with heap := h',toks := t' } := by
 have nit : ∀ b u,H b = some u -> b ≠ it := λ b u e z => by rw [z,hn] at e; cases e
 refine I.step (g' := s.gens) (d' := s.drawn) (ch := [it]) (λ b hb => ?_) (λ b o _ _ hc e _ => k b o (λ z => hc (by simp [z])) e) (λ b o _ _ hc e _ => ⟨o.slots,k b o (λ z => hc (by simp [z])) e⟩) (λ _ _ _ _ n => n)
  (λ b o hc e => ⟨o,k b o (λ z => hc (by simp [z])) e⟩) (λ _ _ e => e) (λ _ _ _ e => e) (λ b ps e => ⟨#[],by rw [e]; simp⟩) (λ m hm => ?_) (λ b u e => ?_) I.bare
 . have e : b = it := by simpa using hb
   subst e;exact ⟨h1,hL,h2,h3⟩
 . obtain ⟨o,es,ep,ho,r⟩ := hm;exact ⟨o,es,ep,k _ o (Ne.symm hL) ho,r⟩
 . refine (I.hok b u e).stay (λ c v hc q => k c v ?_ q) (λ _ q => q) λ _ _ q => q
   rcases hc with z | z
   . rw [z]; exact nit b u e
   . exact nit c _ z
theorem Inv.tok (I : Inv X pins σ H s) (t : Nat) : Inv X pins σ H { s with toks := t } := I.un (h' := s.heap) (t' := t) Un.refl I.hok
theorem Inv.kept {t' : Nat} (I : Inv X pins σ H s) (k : ∀ b u,s.heap.get? b = some u -> h'.get? b = some u) : Inv X pins σ H { s with heap := h',toks := t' } := I.un (Un.kept k) (I.hok.kept k)
theorem Inv.laid {a : Addr} {o : HO} {t' : Nat} (I : Inv X pins σ H s) (k : ∀ b u,s.heap.get? b = some u -> h'.get? b = some u) (hp : s.heap.objs.size <= a) (new : ObjOk X.prog X.w (upd H a o) h' a o) :
 Inv X pins σ (upd H a o) { s with heap := h',toks := t' } := I.un (Un.laid k hp (I.hok.fresh hp)) (I.hok.laid k hp new)
theorem Inv.write {x e : Addr} {o : HO} {t' : Nat} (I : Inv X pins σ H s) (mu : Mut (H x)) (he : e = x \/ H e = some (.own x)) (k : ∀ b u,b ≠ e -> s.heap.get? b = some u -> h'.get? b = some u) (heo : ∃ u,h'.get? e = some u)
 (new : ObjOk X.prog X.w (upd H x o) h' x o) : Inv X pins σ (upd H x o) { s with heap := h',toks := t' } := I.un (Un.write mu he k heo) (I.hok.write mu he k heo new)
theorem Inv.pins_of {pins' : List (Addr × Obj)} (I : Inv X pins σ H s) (h : ∀ p ∈ pins',s.heap.get? p.1 = some p.2 /\ H p.1 = none /\ p.1 ≠ X.env.locals /\ p.1 ∉ X.fs /\ ∀ v,p.2.data ≠ .cell v) : Inv X pins' σ H s :=
 ⟨I.ok,I.os,I.bare,I.base,I.loc,I.cell,I.free,I.freeC,λ p hp => (List.mem_append.mp hp).elim (λ z => I.pin p (List.mem_append_left _ z)) (h p),I.hok,I.len⟩
theorem nodup_ix {N : List Str} (hN : N.Nodup) {i j : Nat} {x : Str} (a : N[i]? = some x) (b : N[j]? = some x) : i = j := by
 obtain ⟨h1,e1⟩ := List.getElem?_eq_some_iff.mp a
 obtain ⟨h2,e2⟩ := List.getElem?_eq_some_iff.mp b
 exact (List.getElem_inj hN).mp (e1.trans e2.symm)
theorem store_ok2 {M : Model} {A : Around} {E : Value -> Shared -> Prop} {i : Nat} {x : Str} {v : V} {u : Value} {Q : Unit -> Shared -> Prop} (I : Inv X pins σ H s) (hN : X.N.Nodup) (hi : X.N[i]? = some x) (hx : Loc X.env.scope x) (r : RelV v u)
 (h : ∀ s',Inv X pins (σ.set i (some v)) H s' -> (∃ a,Heap.SameBut a s.heap s'.heap /\ (a = X.env.locals \/ X.env.cells.lookup x = some a)) -> Q () s') (hf : X.fn x = true \/ X.env.scope.names.lookup x = some .local := by first | exact .inl rfl | exact .inr rfl | assumption) : wpAny M A (storeName X.env x u) Q E s := by
 obtain ⟨m,hn,hl⟩ := id I.loc
 have hcls : (X.env.scope.kind == .class || (X.env.scope.kind == .module && X.env.locals != X.env.globals)) = false := by rw [I.ok.kind]; rfl
 have hiσ : i < σ.length := by rw [I.len]; exact (List.getElem?_eq_some_iff.mp hi).1
 have cne := I.cne
 have tracked : ∀ {a : Addr} {h' : Heap},(∃ o,s.heap.get? a = some o /\ H a = none) -> Heap.SameBut a s.heap h' -> HOk X.prog X.w H h' := λ {a h'} ha hs b ob e => by
  obtain ⟨_,_,hfree⟩ := ha;refine (I.hok b ob e).stay (λ c w' hc q => (hs.2 c ?_).trans q) (λ _ q => q) λ _ _ q => q;rintro rfl
  rcases hc with rfl | hc
  . rw [hfree] at e; cases e
  . rw [hfree] at hc; cases hc
 rcases hx with hk | hk
 . refine wpAny_storeName_local hk hn (λ h' hn' hs => ?_) hcls;obtain ⟨oL,_,_,hoL,_⟩ := id hn;refine h _ ⟨I.ok,I.os,I.bare,⟨λ b o e n hb hx => ?_,λ b o e n hb hx => ?_,I.base.free,λ b o e hx => ?_,I.base.tups,I.base.frzs,I.base.tbls⟩,⟨_,hn',λ j y v' e1 e2 e3 => ?_⟩,λ y c e => ?_,I.free,I.freeC,λ p hp => ?_,tracked ⟨oL,hoL,I.free⟩ hs,by simpa using I.len⟩ ⟨_,hs,.inl rfl⟩
   . exact (hs.2 b (Nat.ne_of_lt (Nat.lt_of_lt_of_le (Heap.lt_size e) I.ok.above))).trans (I.base.keep b o e n hb hx)
   . obtain ⟨sl,e1⟩ := I.base.slot b o e n hb hx;exact ⟨sl,(hs.2 b (Nat.ne_of_lt (Nat.lt_of_lt_of_le (Heap.lt_size e) I.ok.above))).trans e1⟩
   . obtain ⟨o',e1⟩ := I.base.there b o e hx;exact ⟨o',(hs.2 b (Nat.ne_of_lt (Nat.lt_of_lt_of_le (Heap.lt_size e) I.ok.above))).trans e1⟩
   . by_cases hj : j = i
     . subst hj;rw [hi] at e1; cases e1;rw [List.getElem?_set_self hiσ] at e2;cases e2;exact ⟨u,r,.inl ⟨hk,by simp⟩⟩
     . rw [List.getElem?_set_ne (Ne.symm hj)] at e2;obtain ⟨u',r',q⟩ := hl j y v' e1 e2 e3;refine ⟨u',r',?_⟩
       rcases q with ⟨k,e⟩ | ⟨k,c,e,z⟩
       . refine .inl ⟨k,?_⟩;have : y ≠ x := λ e => hj (nodup_ix hN e1 (e ▸ hi));simp [this,e]
       . exact .inr ⟨k,c,e,z.sameBut hs (cne y c e)⟩
   . obtain ⟨w',z⟩ := I.cell y c e;exact ⟨w',z.sameBut hs (cne y c e)⟩
   . obtain ⟨e,n,ne,nf,d⟩ := I.pin p hp;exact ⟨(hs.2 p.1 ne).trans e,n,ne,nf,d⟩
 . have hfn : X.fn x = true := by
    rcases hf with z | z
    . exact z
    . rw [z] at hk; cases hk
   obtain ⟨c,hc⟩ := I.ok.has x (.inl hk);obtain ⟨w',z⟩ := I.cell x c hc;refine wpAny_storeName_cell I.ok.kind hk hc z (λ h' hc' hs => ?_);obtain ⟨oc,hoc,hocd⟩ := id z;refine h { s with heap := h' } ⟨I.ok,I.os,I.bare,⟨λ b o e n hb hx => ?_,λ b o e n hb hx => ?_,I.base.free,λ b o e hx => ?_,I.base.tups,I.base.frzs,I.base.tbls⟩,⟨m,hn.sameBut hs (Ne.symm (cne x c hc)),λ j y v' e1 e2 e3 => ?_⟩,λ y c' e => ?_,I.free,I.freeC,λ p hp => ?_,tracked ⟨oc,hoc,I.freeC x c hc⟩ hs,by simpa using I.len⟩ ⟨c,hs,.inr hc⟩
   . exact (hs.2 b (Nat.ne_of_lt (Nat.lt_of_lt_of_le (Heap.lt_size e) (I.ok.cab x c hfn hc)))).trans (I.base.keep b o e n hb hx)
   . obtain ⟨sl,e1⟩ := I.base.slot b o e n hb hx;exact ⟨sl,(hs.2 b (Nat.ne_of_lt (Nat.lt_of_lt_of_le (Heap.lt_size e) (I.ok.cab x c hfn hc)))).trans e1⟩
   . obtain ⟨o',e1⟩ := I.base.there b o e hx;exact ⟨o',(hs.2 b (Nat.ne_of_lt (Nat.lt_of_lt_of_le (Heap.lt_size e) (I.ok.cab x c hfn hc)))).trans e1⟩
   . by_cases hj : j = i
     . subst hj;rw [hi] at e1; cases e1;rw [List.getElem?_set_self hiσ] at e2;cases e2;exact ⟨u,r,.inr ⟨.inl hk,c,hc,hc'⟩⟩
     . rw [List.getElem?_set_ne (Ne.symm hj)] at e2;obtain ⟨u',r',q⟩ := hl j y v' e1 e2 e3;refine ⟨u',r',?_⟩
       rcases q with q | ⟨k,c',e,z'⟩
       . exact .inl q
       . refine .inr ⟨k,c',e,z'.sameBut hs ?_⟩;rintro rfl;exact hj (nodup_ix hN e1 (I.ok.inj _ _ _ e hc ▸ hi))
   . by_cases hcc : c' = c
     . subst hcc; exact ⟨_,hc'⟩
     . obtain ⟨w2,z2⟩ := I.cell y c' e;exact ⟨w2,z2.sameBut hs hcc⟩
   . obtain ⟨e,n,ne,nf,d⟩ := I.pin p hp;refine ⟨(hs.2 p.1 ?_).trans e,n,ne,nf,d⟩;intro q;rw [q,hoc] at e;have q' : oc = p.2 := Option.some.inj e;exact d w' (by rw [<- q']; exact hocd)
theorem store_ok {M : Model} {A : Around} {E : Value -> Shared -> Prop} {i : Nat} {x : Str} {v : V} {u : Value} {Q : Unit -> Shared -> Prop} (I : Inv X pins σ H s) (hN : X.N.Nodup) (hi : X.N[i]? = some x) (hx : Loc X.env.scope x) (r : RelV v u)
 (h : ∀ s',Inv X pins (σ.set i (some v)) H s' -> Q () s') (hf : X.fn x = true \/ X.env.scope.names.lookup x = some .local := by first | exact .inl rfl | exact .inr rfl | assumption) : wpAny M A (storeName X.env x u) Q E s :=
 store_ok2 I hN hi hx r (λ s' I' _ => h s' I') hf
theorem Inv.call' {s' : Shared} {ch : List Addr} (I : Inv X pins σ H s) (ho : s'.os = s.os) (u : Un (frs X.stack) ch H H' s.heap s'.heap) (hok : HOk X.prog X.w H' s'.heap) (hg : AllBare s'.gens)
 (hch : ∀ b ∈ ch,(b ∈ X.ex \/ X.s₀.heap.objs.size <= b) /\ b ≠ X.env.locals /\ (∀ x c,X.env.cells.lookup x = some c -> c ≠ b) /\ ∀ p ∈ X.pn ++ pins,p.1 ≠ b) : Inv X pins σ H' s' := by
 obtain ⟨h',g',d',t',o'⟩ := s'
 have e : o' = s.os := ho
 subst e
 exact I.call (g' := g') (t' := t') (d' := d') u hok hg hch
end
abbrev XK := Value -> Option Addr -> Hp -> Prop
abbrev St := List (Option V)
abbrev VK := V -> Hp -> Prop
abbrev TE := St -> Hp -> VK -> Prop
abbrev TT := St -> Hp -> (Bool -> Hp -> Prop) -> Prop
abbrev TA := St -> Hp -> (List V -> Hp -> Prop) -> Prop
structure Ends where
 nx : St -> Hp -> Prop
 rt : VK
 bk : St -> Hp -> Prop := λ _ _ => False
 ct : St -> Hp -> Prop := λ _ _ => False
abbrev TS := Ends -> St -> Hp -> Prop
def EP (X : Cx) (pins : List (Addr × Obj)) (σ : St) (Q : VK) (u : Value) (s' : Shared) : Prop := ∃ v H',Inv X pins σ H' s' /\ RelV v u /\ Q v H'
def TP (X : Cx) (pins : List (Addr × Obj)) (σ : St) (Q : Bool -> Hp -> Prop) (b : Bool) (s' : Shared) : Prop := ∃ H',Inv X pins σ H' s' /\ Q b H'
def AP (X : Cx) (pins : List (Addr × Obj)) (σ : St) (Q : List V -> Hp -> Prop) (us : List Value) (s' : Shared) : Prop := ∃ vs H',Inv X pins σ H' s' /\ Vals vs us /\ Q vs H'
def SP (X : Cx) (pins : List (Addr × Obj)) (D : Ends) (f : Flow) (s' : Shared) : Prop :=
 match f with
 | .next => ∃ σ' H',Inv X pins σ' H' s' /\ D.nx σ' H'
 | .brk => ∃ σ' H',Inv X pins σ' H' s' /\ D.bk σ' H'
 | .cont => ∃ σ' H',Inv X pins σ' H' s' /\ D.ct σ' H'
 | .ret u => ∃ v σ' H',Inv X pins σ' H' s' /\ RelV v u /\ D.rt v H'
def PE (X : Cx) (e : Expr) (t : TE) : Prop :=
 ∀ (pins : List (Addr × Obj)) (s : Shared) (σ : St) (H : Hp) (Q : VK),Inv X pins σ H s -> t σ H Q -> wpAny (model X.prog X.w) X.A (eval e X.env) (EP X pins σ Q) X.xe s
def PT (X : Cx) (e : Expr) (t : TT) : Prop :=
 ∀ (pins : List (Addr × Obj)) (s : Shared) (σ : St) (H : Hp) (Q : Bool -> Hp -> Prop),Inv X pins σ H s -> t σ H Q -> wpAny (model X.prog X.w) X.A (isTrue e X.env (eval e X.env)) (TP X pins σ Q) X.xe s
def PW (X : Cx) (e : Expr) (t : TT) : Prop :=
 ∀ (whole : Sem Value) (pins : List (Addr × Obj)) (s : Shared) (σ : St) (H : Hp) (Q : Bool -> Hp -> Prop),Inv X pins σ H s -> t σ H Q -> wpAny (model X.prog X.w) X.A (isTrue e X.env whole) (TP X pins σ Q) X.xe s
theorem PW.pt {X : Cx} {e : Expr} {t : TT} (h : PW X e t) : PT X e t := h _
def PA (X : Cx) (es : List Expr) (t : TA) : Prop :=
 ∀ (pos : Pos) (pins : List (Addr × Obj)) (s : Shared) (σ : St) (H : Hp) (Q : List V -> Hp -> Prop),Inv X pins σ H s -> t σ H Q -> wpAny (model X.prog X.w) X.A (spliced (backTo pos (starEach es X.env))) (AP X pins σ Q) X.xe s
def PS (X : Cx) (st : Stmt) (t : TS) : Prop :=
 ∀ (pins : List (Addr × Obj)) (s : Shared) (σ : St) (H : Hp) (D : Ends),Inv X pins σ H s -> t D σ H -> wpAny (model X.prog X.w) X.A (exec st X.env) (SP X pins D) X.xe s
def PSs (X : Cx) (st : List Stmt) (t : TS) : Prop :=
 ∀ (pins : List (Addr × Obj)) (s : Shared) (σ : St) (H : Hp) (D : Ends),Inv X pins σ H s -> t D σ H -> wpAny (model X.prog X.w) X.A (execs st X.env) (SP X pins D) X.xe s
theorem thn {α : Type} {t : Sem α} {Q Q' : α -> Shared -> Prop} {M : Model} {A : Around} {E : Value -> Shared -> Prop} {s : Shared} (h : wpAny M A t Q E s) (hQ : ∀ a s,Q a s -> Q' a s) : wpAny M A t Q' E s := wpAny_mono h hQ λ _ _ x => x
section
theorem bin {a b : Expr} {ta tb : TE} (ha : PE X a ta) (hb : PE X b tb) {pins : List (Addr × Obj)} {s : Shared} {σ : St} {H : Hp} {R : V -> V -> Hp -> Prop} (I : Inv X pins σ H s) (h : ta σ H λ x H1 => tb σ H1 λ y H2 => R x y H2)
 {α : Type} {Q : α -> Shared -> Prop} {f : Value -> Value -> Sem α}
 (hf : ∀ v u s2 x y H2,Inv X pins σ H2 s2 -> RelV x v -> RelV y u -> R x y H2 -> wpAny (model X.prog X.w) X.A (f v u) Q X.xe s2) :
 wpAny (model X.prog X.w) X.A (eval a X.env) (λ v s₁ => wpAny (model X.prog X.w) X.A (eval b X.env) (λ u s₂ => wpAny (model X.prog X.w) X.A (f v u) Q X.xe s₂) X.xe s₁) X.xe s := by
 refine thn (ha pins s σ H _ I h) λ v s1 ⟨x,H1,I1,r1,q1⟩ => ?_
 refine thn (hb pins s1 σ H1 _ I1 q1) λ u s2 ⟨y,H2,I2,r2,q2⟩ => ?_
 exact hf v u s2 x y H2 I2 r1 r2 q2
def tVar (i : Nat) : TE := λ σ H Q => ∃ v,σ[i]? = some (some v) /\ Q v H
def tC (v : V) : TE := λ _ H Q => Q v H
theorem pe_var {i : Nat} {x : Str} {pos : Pos} (hN : X.N[i]? = some x) (hv : Vis X.env.scope x) (hd : (x == ("__debug__" : Str)) = false := by decide) (hcd : (x == ("__classdict__" : Str)) = false := by decide) : PE X (.Name x pos) (tVar i) := by
 intro pins s σ H Q I h
 obtain ⟨v,e,h⟩ := h
 obtain ⟨m,hn,hl⟩ := I.loc
 obtain ⟨u,r,l⟩ := hl i x v hN e hv
 have fin : EP X pins σ Q u s := ⟨v,H,I,r,h⟩
 rcases l with ⟨hk,hm⟩ | ⟨hk,c,hc,hcell⟩
 . exact wpAny_Name (wpAny_loadName_local I.ok.kind hk hn hm fin) hd
 . rcases hk with hk | hk
   . exact wpAny_Name (wpAny_loadName_cell I.ok.kind hk hc hcell fin) hd
   . exact wpAny_Name (wpAny_loadName_free I.ok.kind hk hc hcell fin hcd) hd
theorem pe_int {i j pos} : PE X (.Constant (.int i) j pos) (tC (.int i)) := λ _ _ _ H _ I h => wpAny_Constant_int ⟨.int i,H,I.tok _,⟨_,rfl⟩,h⟩
theorem pe_bl {b j pos} : PE X (.Constant (.bool b) j pos) (tC (.bl b)) := λ _ _ _ H _ I h => Constant_bool ⟨.bl b,H,I,rfl,h⟩
theorem pe_str {x j pos} : PE X (.Constant (.str x) j pos) (tC (.str x)) := λ _ _ _ H _ I h => Calls.Constant_str ⟨.str x,H,I.tok _,⟨_,rfl⟩,h⟩
def Gl (X : Cx) (x : Str) : Prop := X.env.kindOf x = some .globalImplicit
theorem ld_glob {E : Value -> Shared -> Prop} {pins : List (Addr × Obj)} {s : Shared} {σ : St} {H : Hp} {x : Str} {u : Value} {pos : Pos} {Q : Value -> Shared -> Prop} (I : Inv X pins σ H s) (hg : Gl X x) (hm : X.mg x = some u) (h : Q u s)
 (hd : (x == ("__debug__" : Str)) = false := by decide) : wpAny (model X.prog X.w) X.A (eval (.Name x pos) X.env) Q E s :=
 Calls.Name_function_global I.ok.kind hg (Calls.loadGlobal_global (by rw [I.ok.glob]; exact I.mod.glob.keeps I.bk) hm h) hd
theorem ld_blt {E : Value -> Shared -> Prop} {pins : List (Addr × Obj)} {s : Shared} {σ : St} {H : Hp} {x : Str} {u : Value} {pos : Pos} {Q : Value -> Shared -> Prop} (I : Inv X pins σ H s) (hg : Gl X x) (hm : X.mg x = none) (hv : bootBuiltins x = some u) (h : Q u s)
 (hn : x ≠ "__name__" := by decide) (hd : (x == ("__debug__" : Str)) = false := by decide) : wpAny (model X.prog X.w) X.A (eval (.Name x pos) X.env) Q E s := by
 obtain ⟨mb,h1,h2⟩ := I.mod.blt
 exact Calls.Name_function_global I.ok.kind hg (Calls.loadGlobal_builtin (by rw [I.ok.glob]; exact I.mod.glob.keeps I.bk) hm (by rw [I.ok.blt]; exact h1.keeps I.bk) ((h2 x hn).trans hv) h) hd
theorem pe_bltn {x : Str} {v : V} {u : Value} {pos : Pos} (hg : Gl X x) (hm : X.mg x = none) (hv : bootBuiltins x = some u) (r : RelV v u) (hn : x ≠ "__name__" := by decide) (hd : (x == ("__debug__" : Str)) = false := by decide) : PE X (.Name x pos) (tC v) :=
 λ _ _ _ H _ I h => ld_blt I hg hm hv ⟨v,H,I,r,h⟩ hn hd
variable {a b : Expr}
def PC (X : Cx) (op : CmpOp) (a b : Expr) (t : TE) : Prop :=
 ∀ (pins : List (Addr × Obj)) (s : Shared) (σ : St) (H : Hp) (Q : VK),Inv X pins σ H s -> t σ H Q ->
  wpAny (model X.prog X.w) X.A (eval a X.env) (λ v s₁ => wpAny (model X.prog X.w) X.A (eval b X.env) (λ u s₂ => wpAny (model X.prog X.w) X.A (compareOp op v u) (EP X pins σ Q) X.xe s₂) X.xe s₁) X.xe s
def tB (t : TE) : TT := λ σ H Q => t σ H λ x H1 => ∃ c,x = .bl c /\ Q c H1
theorem pt_cmp {op : CmpOp} {t : TE} (h : PC X op a b t) (h1 : behindInMarks op b = false := by first | exact nobehind _ (by decide) (by decide) | rfl) : PT X (.Compare a [op] [b] pos) (tB t) := by
 intro pins s σ H Q I hw
 refine wpAny_isTrue_Compare1 (thn (h pins s σ H _ I hw) λ v s1 h1 => thn h1 λ u s2 h2 => thn h2 λ c s3 ⟨x,H1,I1,r1,q1⟩ => ?_) h1
 obtain ⟨d,rfl,q⟩ := q1
 cases r1
 exact wpAny_truthy_bool ⟨H1,I1,q⟩
theorem pt_val {e : Expr} {t : TE} (h : PE X e t) (he : ∀ whole,isTrue e X.env whole = (do let v <- whole; standAt e.pos; holding [v] (truthy v)) := by intro _; rfl) : PT X e (tB t) := by
 intro pins s σ H Q I hw
 refine isTrue_plain (thn (h pins s σ H _ I hw) λ v s1 ⟨x,H1,I1,r1,q1⟩ => ?_) (he _)
 obtain ⟨d,rfl,q⟩ := q1
 cases r1
 exact wpAny_truthy_bool ⟨H1,I1,q⟩
variable {tA tB' : TT} {rest : List Expr}
def tOr (t u : TT) : TT := λ σ H Q => t σ H λ c H1 => if c = true then Q true H1 else u σ H1 Q
def tNot (t : TT) : TT := λ σ H Q => t σ H λ c H1 => Q (!c) H1
theorem pw_or1 (ha : PT X a tA) : PW X (.BoolOp .Or [a] pos) tA := by
 intro wh pins s σ H Q I h
 refine isTrue_or (thn (ha pins s σ H Q I h) λ c s1 e => ?_)
 cases c with
 | false => exact isTrue_or_nil e
 | true => exact e
theorem pw_or (ha : PT X a tA) (hb : PW X (.BoolOp .Or (b :: rest) pos) tB') : PW X (.BoolOp .Or (a :: b :: rest) pos) (tOr tA tB') := by
 intro wh pins s σ H Q I h
 refine isTrue_or (thn (ha pins s σ H _ I h) λ c s1 ⟨H1,I1,q1⟩ => ?_)
 cases c with
 | true => exact ⟨H1,I1,q1⟩
 | false => exact hb wh pins s1 σ H1 Q I1 q1
theorem pt_not (ha : PT X a tA) : PT X (.UnaryOp .Not a pos) (tNot tA) := by
 intro pins s σ H Q I h
 exact isTrue_not (ha pins s σ H (λ c H1 => Q (!c) H1) I h)
def tAndV (ta tb : TE) : TE := λ σ H Q => ta σ H λ x H1 => ∃ c,x = .bl c /\ if c = true then tb σ H1 Q else Q (.bl false) H1
def tNotV (ta : TE) : TE := λ σ H Q => ta σ H λ x H1 => ∃ c,x = .bl c /\ Q (.bl (!c)) H1
theorem pe_one {op} {t : TE} (h : PE X a t) : PE X (.BoolOp op [a] pos) t := λ pins s σ H Q I hw => BoolOp_one (h pins s σ H Q I hw)
theorem pe_and (ha : PE X a ta) (hb : PE X (.BoolOp .And (b :: rest) pos) tb) : PE X (.BoolOp .And (a :: b :: rest) pos) (tAndV ta tb) := by
 intro pins s σ H Q I h
 refine BoolOp_and (thn (ha pins s σ H _ I h) λ v s1 ⟨x,H1,I1,r1,q1⟩ => ?_)
 obtain ⟨c,rfl,q1⟩ := q1
 cases r1
 refine wpAny_truthy_bool ?_
 cases c with
 | true => exact hb pins s1 σ H1 Q I1 q1
 | false => exact ⟨.bl false,H1,I1,rfl,q1⟩
theorem pe_not (ha : PE X a ta) : PE X (.UnaryOp .Not a pos) (tNotV ta) := by
 intro pins s σ H Q I h
 refine UnaryOp_ (thn (ha pins s σ H _ I h) λ v s1 ⟨x,H1,I1,r1,q1⟩ => ?_)
 obtain ⟨c,rfl,q1⟩ := q1
 cases r1
 exact not_of (wpAny_truthy_bool ⟨.bl (!c),H1,I1,rfl,q1⟩)
end
def SqL (K : W.Frag) (H : Hp) (a : Addr) (xs : List V) : Prop :=
 Rd H a (.lst xs) \/
  ∃ (o : Obj) (its : Array Value) (n : Nat),K.lookup a = some o /\ o.cls = .type "list" /\ o.dict = none /\ o.data = .seq its n /\ its.size <= sizeLine /\ Vals xs its.toList
def SqT (K : W.Frag) (H : Hp) (a : Addr) (xs : List V) : Prop :=
 Rd H a (.tup xs) \/
  ∃ (o : Obj) (its : Array Value) (n : Nat),K.lookup a = some o /\ o.cls = .type "tuple" /\ o.data = .seq its n /\ its.size <= sizeLine /\ Vals xs its.toList
def absV : Value -> Option V
 | .none => some .non
 | .bool b => some (.bl b)
 | .int i _ => some (.int i)
 | .str x _ => some (.str x)
 | .bytes b _ => some (.byt b)
 | .float b _ => some (.flt b)
 | .ref a => some (.ref a)
 | .type n => some (.ty n)
 | _ => none
theorem RelV.abs {x : V} {u : Value} (r : RelV x u) : absV u = some x := by
 cases x with
 | non => cases r; rfl
 | bl _ => cases r; rfl
 | int _ => obtain ⟨t,rfl⟩ := r; rfl
 | str _ => obtain ⟨t,rfl⟩ := r; rfl
 | byt _ => obtain ⟨t,rfl⟩ := r; rfl
 | flt _ => obtain ⟨t,rfl⟩ := r; rfl
 | ref _ => cases r; rfl
 | ty _ => cases r; rfl
theorem RelV.inj {x y : V} {u : Value} (r : RelV x u) (q : RelV y u) : x = y := Option.some.inj (r.abs.symm.trans q.abs)
theorem Vals.inj {xs ys : List V} {us : List Value} (h : Vals xs us) : Vals ys us -> xs = ys := by
 induction h generalizing ys with
 | nil => intro q; cases q; rfl
 | cons r t ih => intro q; cases q with | cons r' t' => rw [r.inj r',ih t']
section
variable {σ : St} {a : Addr} {xs ys : List V}
theorem SqL.of {K : W.Frag} (h : H a = some (.lst xs)) : SqL K H a xs := .inl (.inl h)
theorem SqT.of {K : W.Frag} (h : H a = some (.tup xs)) : SqT K H a xs := .inl (.inl h)
theorem Inv.list (I : Inv X pins σ H s) (h : SqL X.K H a xs) : ∃ its : List Value,Vals xs its /\ PlainL s.heap a its.toArray /\ xs.length <= sizeLine := by
 rcases h with h | ⟨o,its,n,hk,hc,hd,hs,hz,r⟩
 . obtain ⟨z,its,n,r,e⟩ := h.ok I.hok;exact ⟨its,r,⟨_,n,e,rfl,rfl,rfl⟩,z⟩
 . refine ⟨its.toList,r,⟨o,n,I.kIn a o hk,hc,hd,by simpa using hs⟩,?_⟩;have e := r.length;simp only [Array.length_toList] at e;omega
theorem Inv.tuple (I : Inv X pins σ H s) (h : SqT X.K H a xs) : ∃ its : List Value,Vals xs its /\ IsTup s.heap a its.toArray /\ xs.length <= sizeLine := by
 rcases h with h | ⟨o,its,n,hk,hc,hs,hz,r⟩
 . obtain ⟨z,its,r,p⟩ := h.ok I.hok;exact ⟨its,r,p,z⟩
 . refine ⟨its.toList,r,⟨o,I.kIn a o hk,hc,n,by simpa using hs⟩,?_⟩;have e := r.length;simp only [Array.length_toList] at e;omega
theorem Inv.list_inj (I : Inv X pins σ H s) (h : SqL X.K H a xs) (h' : SqL X.K H a ys) : xs = ys := by
 obtain ⟨its,r,⟨o,n,e,_,_,d⟩,_⟩ := I.list h
 obtain ⟨its',r',⟨o',n',e',_,_,d'⟩,_⟩ := I.list h'
 rw [e] at e'; cases e'
 rw [d] at d'
 injection d' with d1 _
 have : its = its' := by simpa using congrArg Array.toList d1
 subst this
 exact r.inj r'
theorem Inv.tuple_inj (I : Inv X pins σ H s) (h : SqT X.K H a xs) (h' : SqT X.K H a ys) : xs = ys := by
 obtain ⟨its,r,⟨o,e,_,n,d⟩,_⟩ := I.tuple h
 obtain ⟨its',r',⟨o',e',_,n',d'⟩,_⟩ := I.tuple h'
 rw [e] at e'; cases e'
 rw [d] at d'
 injection d' with d1 _
 have : its = its' := by simpa using congrArg Array.toList d1
 subst this
 exact r.inj r'
end
abbrev Cx.wish (X : Cx) (E : Value -> Shared -> Prop) : Cx := { X with xe := E }
abbrev Cx.nox (X : Cx) : Cx := X.wish λ _ _ => False
theorem Cx.Ok.wish {X : Cx} (ok : X.Ok) (E : Value -> Shared -> Prop) : (X.wish E).Ok :=
 ⟨ok.mod,ok.kind,ok.glob,ok.blt,ok.above,ok.inj,ok.has,ok.cab,ok.hd,ok.frames,ok.stk,ok.exf,ok.bs,ok.bsz,ok.noex,ok.exfs,ok.funs,ok.frf⟩
theorem Cx.Ok.unwish {X : Cx} {E : Value -> Shared -> Prop} (ok : (X.wish E).Ok) : X.Ok :=
 ⟨ok.mod,ok.kind,ok.glob,ok.blt,ok.above,ok.inj,ok.has,ok.cab,ok.hd,ok.frames,ok.stk,ok.exf,ok.bs,ok.bsz,ok.noex,ok.exfs,ok.funs,ok.frf⟩
section
variable {σ : St} {E : Value -> Shared -> Prop}
theorem Inv.wish (I : Inv X pins σ H s) (E : Value -> Shared -> Prop) : Inv (X.wish E) pins σ H s := ⟨I.ok.wish E,I.os,I.bare,I.base,I.loc,I.cell,I.free,I.freeC,I.pin,I.hok,I.len⟩
theorem Inv.unwish (I : Inv (X.wish E) pins σ H s) : Inv X pins σ H s := ⟨I.ok.unwish,I.os,I.bare,I.base,I.loc,I.cell,I.free,I.freeC,I.pin,I.hok,I.len⟩
theorem SP.unwish {D : Ends} {f : Flow} {s' : Shared} (h : SP (X.wish E) pins D f s') : SP X pins D f s' := by
 cases f with
 | next => obtain ⟨σ',H',I,q⟩ := h; exact ⟨σ',H',I.unwish,q⟩
 | brk => obtain ⟨σ',H',I,q⟩ := h; exact ⟨σ',H',I.unwish,q⟩
 | cont => obtain ⟨σ',H',I,q⟩ := h; exact ⟨σ',H',I.unwish,q⟩
 | ret u => obtain ⟨v,σ',H',I,r,q⟩ := h; exact ⟨v,σ',H',I.unwish,r,q⟩
theorem PSs.nox {st : List Stmt} {t : TS} (h : PSs X.nox st t) : PSs X st t := λ pins s σ H D I hw =>
 wpAny_mono (h pins s σ H D (I.wish _) hw) (λ _ _ q => q.unwish) λ _ _ z => False.elim z
end
section
variable {st : Stmt} {rest : List Stmt} {t u : TS} {e : Expr}
def tNext : TS := λ D σ H => D.nx σ H
def tSeq (t u : TS) : TS := λ D σ H => t { D with nx := u D } σ H
theorem pss_nil : PSs X [] tNext := λ _ _ σ H _ I h => wpAny_execs_nil ⟨σ,H,I,h⟩
theorem pss_cons (h1 : PS X st t) (h2 : PSs X rest u) : PSs X (st :: rest) (tSeq t u) := by
 intro pins s σ H D I h
 refine wpAny_execs_cons (thn (h1 pins s σ H { D with nx := u D } I h) λ f s1 q => ?_)
 cases f with
 | next =>
  obtain ⟨σ',H',I',q⟩ := q;exact h2 pins s1 σ' H' D I' q
 | ret v => exact q
 | brk => exact q
 | cont => exact q
theorem pss_one (h1 : PS X st t) : PSs X [st] t := by
 intro pins s σ H D I h
 refine wpAny_execs_cons (thn (h1 pins s σ H D I h) λ f s1 q => ?_)
 cases f with
 | next => exact wpAny_execs_nil q
 | ret v => exact q
 | brk => exact q
 | cont => exact q
theorem Inv.quiet {pins : List (Addr × Obj)} {σ : St} {H : Hp} {s : Shared} (I : Inv X pins σ H s) : interactive X.env = false := by simp [interactive,I.ok.kind]
def tDrop (te : TE) : TS := λ D σ H => te σ H λ _ H1 => D.nx σ H1
theorem ps_expr (he : PE X e te) (hs : swapsWith e none pos.line X.env = pure false := by rfl) : PS X (.Expr e pos) (tDrop te) := by
 intro pins s σ H D I h
 exact wpAny_Expr_any (thn (he pins s σ H _ I h) λ v s1 ⟨x,H1,I1,r1,q1⟩ => ⟨σ,H1,I1,q1⟩) I.quiet hs
def tRet (te : TE) : TS := λ D σ H => te σ H D.rt
theorem ps_ret (he : PE X e te) : PS X (.Return (some e) pos) (tRet te) := by
 intro pins s σ H D I h
 exact wpAny_Return_some (thn (he pins s σ H _ I h) λ v s1 ⟨x,H1,I1,r1,q1⟩ => ⟨x,σ,H1,I1,r1,q1⟩)
def tIfS (c : TT) (t u : TS) : TS := λ D σ H => c σ H λ b H1 => if b = true then t D σ H1 else u D σ H1
theorem ps_if {c : Expr} {a b : List Stmt} {tc : TT} (hc : PT X c tc) (ha : PSs X a t) (hb : PSs X b u) : PS X (.If c a b pos) (tIfS tc t u) := by
 intro pins s σ H D I h
 refine wpAny_If (thn (hc pins s σ H _ I h) λ d s1 ⟨H1,I1,q1⟩ => ?_)
 cases d with
 | true => exact ha pins s1 σ H1 D I1 q1
 | false => exact hb pins s1 σ H1 D I1 q1
end
abbrev TG := V -> St -> Hp -> (St -> Hp -> Prop) -> Prop
abbrev TGs := List V -> St -> Hp -> (St -> Hp -> Prop) -> Prop
def PG (X : Cx) (target : Expr) (t : TG) : Prop :=
 ∀ (pins : List (Addr × Obj)) (s : Shared) (σ : St) (H : Hp) (v : V) (u : Value) (Q : St -> Hp -> Prop),Inv X pins σ H s -> RelV v u -> t v σ H Q ->
  wpAny (model X.prog X.w) X.A (assign target X.env u) (λ _ s' => ∃ σ' H',Inv X pins σ' H' s' /\ Q σ' H') X.xe s
def PGs (X : Cx) (ts : List Expr) (t : TGs) : Prop :=
 ∀ (pins : List (Addr × Obj)) (s : Shared) (σ : St) (H : Hp) (vs : List V) (us : List Value) (Q : St -> Hp -> Prop),Inv X pins σ H s -> Vals vs us -> t vs σ H Q ->
  wpAny (model X.prog X.w) X.A (assignInOrder ((assignEach ts X.env).map (·.2)) us) (λ _ s' => ∃ σ' H',Inv X pins σ' H' s' /\ Q σ' H') X.xe s
abbrev TSet := V -> V -> V -> Hp -> (Hp -> Prop) -> Prop
def PSet (X : Cx) (t : TSet) : Prop :=
 ∀ (pins : List (Addr × Obj)) (s : Shared) (σ : St) (H : Hp) (o i v : V) (ov iv u : Value) (Q : Hp -> Prop),Inv X pins σ H s -> RelV o ov -> RelV i iv -> RelV v u -> t o i v H Q ->
  wpAny (model X.prog X.w) X.A (setItem ov iv u) (λ _ s' => ∃ H',Inv X pins σ H' s' /\ Q H') X.xe s
def gName (i : Nat) : TG := λ v σ H Q => Q (σ.set i (some v)) H
theorem pg_name {i : Nat} {x : Str} (hN : X.N.Nodup) (hi : X.N[i]? = some x) (hx : Loc X.env.scope x) (hf : X.fn x = true \/ X.env.scope.names.lookup x = some .local := by first | exact .inl rfl | exact .inr rfl | assumption) : PG X (.Name x pos) (gName i) := by
 intro pins s σ H v u Q I r h
 exact wpAny_assign_Name (store_ok I hN hi hx r (λ s' I' => ⟨_,H,I',h⟩) hf)
def gNil : TGs := λ vs σ H Q => vs = [] /\ Q σ H
def gCons (t : TG) (u : TGs) : TGs := λ vs σ H Q => ∃ v r,vs = v :: r /\ t v σ H λ σ' H' => u r σ' H' Q
theorem pgs_nil : PGs X [] gNil := by
 intro pins s σ H vs us Q I r h
 obtain ⟨e,h⟩ := h
 subst e
 cases r
 exact assignInOrder_nil ⟨σ,H,I,h⟩
theorem pgs_cons {e : Expr} {es : List Expr} {t : TG} {u : TGs} (h1 : PG X e t) (h2 : PGs X es u)
 (hs : (assignEach (e :: es) X.env).map (·.2) = assign e X.env :: (assignEach es X.env).map (·.2) := by rfl) : PGs X (e :: es) (gCons t u) := by
 intro pins s σ H vs us Q I r h
 obtain ⟨v,vr,e1,h⟩ := h
 subst e1
 cases r with
 | cons r rr =>
  rw [hs];refine assignInOrder_cons (thn (h1 pins s σ H _ _ _ I r h) λ _ s1 ⟨σ1,H1,I1,q1⟩ => ?_);exact h2 pins s1 σ1 H1 _ _ Q I1 rr q1
def gTup (K : W.Frag) (n : Nat) (t : TGs) : TG := λ v σ H Q => ∃ a xs,v = .ref a /\ SqT K H a xs /\ xs.length = n /\ t xs σ H Q
theorem pg_tup {es : List Expr} {k : Nat} {t : TGs} {n : Nat} (hc : X.calm = true) (h : PGs X es t)
 (hn : (assignEach es X.env).length = n := by rfl) (hst : (assignEach es X.env).findIdx? (·.1) = none := by rfl) : PG X (.Tuple es k pos) (gTup X.K n t) := by
 intro pins s σ H v u Q I r hw
 obtain ⟨a,xs,e1,hq,hl,hw⟩ := hw
 subst e1
 cases r
 obtain ⟨its,rv,ht,hz⟩ := I.tuple hq
 refine assign_Tuple_tuple (I.ok.hd hc) ht (by simp [hn,<- hl,rv.length]) hst λ h' hx => ?_
 have I1 : Inv X pins σ H { s with heap := h' } := I.kept (t' := s.toks) λ b o e => hx b o (Nat.ne_of_lt (Heap.lt_size e)) e
 exact h pins _ σ H xs _ Q I1 (by simpa using rv) hw
def gSub (to ti : TE) (t : TSet) : TG := λ v σ H Q => to σ H λ o H1 => ti σ H1 λ i H2 => t o i v H2 λ H3 => Q σ H3
theorem pg_sub {o i : Expr} {to ti : TE} {t : TSet} (ho : PE X o to) (hi : PE X i ti) (hs : PSet X t)
 (ha : ∀ v,assign (.Subscript o i pos) X.env v = (do
  let ov <- holding [v] (eval o X.env)
  let iv <- holding [v,ov] (eval i X.env)
  standAt pos
  holding [v,ov,iv] (setItem ov iv v)
  release [v,ov,iv] []) := by intro _; rfl) : PG X (.Subscript o i pos) (gSub to ti t) := by
 intro pins s σ H v u Q I r h
 rw [ha]
 refine wpAny_bind (wpAny_holding (thn (ho pins s σ H _ I h) λ ov s1 ⟨x,H1,I1,r1,q1⟩ => ?_))
 refine wpAny_bind (wpAny_holding (thn (hi pins s1 σ H1 _ I1 q1) λ iv s2 ⟨y,H2,I2,r2,q2⟩ => ?_))
 refine wpAny_bind (wpAny_standAt (wpAny_bind (wpAny_holding (thn (hs pins s2 σ H2 x y v ov iv u _ I2 r1 r2 r q2) λ _ s3 ⟨H3,I3,q3⟩ => ?_))))
 exact wpAny_release ⟨σ,H3,I3,q3⟩
def tAsg (te : TE) (g : TG) : TS := λ D σ H => te σ H λ x H1 => g x σ H1 D.nx
theorem ps_asg {tg e : Expr} {te : TE} {g : TG} (he : PE X e te) (hg : PG X tg g) (hs : swapsWithSole [tg] e pos.line X.env = pure false := by rfl) (hw : swappedStores [tg] e X.env = pure none := by rfl)
 (h1 : (assignEach [tg] X.env).map (·.2) = [assign tg X.env] := by rfl) : PS X (.Assign [tg] e pos) (tAsg te g) := by
 intro pins s σ H D I h
 refine wpAny_Assign_stores (thn (he pins s σ H _ I h) λ v s1 ⟨x,H1,I1,r1,q1⟩ => ?_) hs hw
 rw [h1]
 exact thn (hg pins s1 σ H1 x v _ I1 r1 q1) λ _ s2 q => q
theorem ps_set {i : Nat} {x : Str} {e : Expr} {te : TE} {pos' : Pos} (hN : X.N.Nodup) (hi : X.N[i]? = some x) (hx : Loc X.env.scope x) (he : PE X e te) (hs : swapsWith e (some (.Name x pos')) pos.line X.env = pure false := by rfl) (hf : X.fn x = true \/ X.env.scope.names.lookup x = some .local := by first | exact .inl rfl | exact .inr rfl | assumption) :
 PS X (.Assign [.Name x pos'] e pos) (tAsg te (gName i)) := by
 intro pins s σ H D I h
 refine wpAny_Assign_Name (thn (he pins s σ H _ I h) λ v s1 ⟨y,H1,I1,r1,q1⟩ => ?_) hs
 exact store_ok I1 hN hi hx r1 (λ s2 I2 => ⟨_,H1,I2,q1⟩) hf
structure It where
 go : Nat -> Hp -> Prop
 yld : Nat -> Hp -> V -> Hp -> Prop
 stop : Nat -> Hp -> Prop
def FpOk (X : Cx) (pins : List (Addr × Obj)) (H : Hp) (b : Addr) : Prop :=
 H b = none /\ b ≠ X.env.locals /\ b ∉ X.fs /\ (b ∈ X.ex \/ X.s₀.heap.objs.size <= b) /\ (∀ x c,X.env.cells.lookup x = some c -> c ≠ b) /\ ∀ p ∈ X.pn ++ pins,p.1 ≠ b
theorem Inv.fpOk {X : Cx} {pins : List (Addr × Obj)} {σ : St} {H H' : Hp} {s : Shared} {b : Addr} (I : Inv X pins σ H s) (hb : s.heap.objs.size <= b) (hn : H' b = none) : FpOk X pins H' b := by
 refine ⟨hn,Nat.ne_of_gt (Nat.lt_of_lt_of_le I.lt hb),I.nofs hb,.inr (Nat.le_trans I.sz hb),λ x c e z => ?_,λ p hp z => ?_⟩
 . obtain ⟨v,q⟩ := I.cell x c e;exact absurd (Nat.lt_of_lt_of_le q.lt (by rw [z]; exact hb)) (Nat.lt_irrefl _)
 . exact absurd (Nat.lt_of_lt_of_le (Heap.lt_size (I.pin p hp).1) (by rw [z]; exact hb)) (Nat.lt_irrefl _)
structure Turn (P : Program) (w : World) (K : W.Frag) (tg : Expr) (J : It) (fp : List Addr) (it : Addr) (tn : Nat -> Heap -> Prop) : Prop where
 mem : it ∈ fp
 obj : ∀ i h,tn i h -> ∀ b ∈ fp,∃ o,h.get? b = some o /\ ∀ v,o.data ≠ .cell v
 keep : ∀ i h h',tn i h -> (∀ b ∈ fp,∀ o,h.get? b = some o -> h'.get? b = some o) -> tn i h'
 item : ∀ (X : Cx),X.prog = P -> X.w = w -> X.K = K -> X.calm = true -> ∀ (i : Nat) (pins : List (Addr × Obj)) (s : Shared) (σ : St) (H : Hp) (E : Value -> Shared -> Prop),Inv X pins σ H s -> (∀ b ∈ fp,FpOk X pins H b) -> tn i s.heap -> J.go i H ->
  wpAny (model P w) X.A (pyNext (.ref it)) (λ r s1 => ∃ u,r = some u /\
   wpAny (model P w) X.A (letOwnedTupleGo tg (.ref it) u) (λ _ s2 => ∃ x H',Inv X pins σ H' s2 /\ RelV x u /\ J.yld i H x H' /\ tn (i + 1) s2.heap /\ ∀ b ∈ fp,H' b = none) E s1) E s
 done : ∀ (X : Cx),X.prog = P -> X.w = w -> X.K = K -> X.calm = true -> ∀ (i : Nat) (pins : List (Addr × Obj)) (s : Shared) (σ : St) (H : Hp) (E : Value -> Shared -> Prop),Inv X pins σ H s -> (∀ b ∈ fp,FpOk X pins H b) -> tn i s.heap -> J.stop i H ->
  wpAny (model P w) X.A (pyNext (.ref it)) (λ r s1 => r = none /\ Inv X pins σ H s1) E s
 self : ∀ (A : Around) (i : Nat) (s : Shared) (Q : Value -> Shared -> Prop) (E : Value -> Shared -> Prop),tn i s.heap -> Q (.ref it) s -> wpAny (model P w) A (pyIter (.ref it)) Q E s
abbrev TI := St -> Hp -> (It -> Hp -> Prop) -> Prop
def PIE (X : Cx) (pins : List (Addr × Obj)) (σ : St) (tg : Expr) (R : It -> Hp -> Prop) (itv : Value) (s2 : Shared) : Prop :=
 ∃ (it : Addr) (fp : List Addr) (tn : Nat -> Heap -> Prop) (J : It) (H' : Hp),itv = .ref it /\ Inv X pins σ H' s2 /\ Turn X.prog X.w X.K tg J fp it tn /\ tn 0 s2.heap /\ (∀ b ∈ fp,FpOk X pins H' b) /\ R J H'
def PI (X : Cx) (tg iter : Expr) (wi : TI) : Prop :=
 ∀ (pins : List (Addr × Obj)) (s : Shared) (σ : St) (H : Hp) (R : It -> Hp -> Prop),Inv X pins σ H s -> wi σ H R ->
  wpAny (model X.prog X.w) X.A (eval iter X.env) (λ v s1 => wpAny (model X.prog X.w) X.A (pyIter v) (PIE X pins σ tg R) X.xe s1) X.xe s
theorem go_of {M : Model} {A : Around} {E : Value -> Shared -> Prop} {s : Shared} {tg : Expr} {it : Addr} {u : Value} {o : Obj} {n : String} {vs : Array Value} {Q : Unit -> Shared -> Prop} (ho : s.heap.get? it = some o) (hc : o.cls = .type n) (hd : o.data = .fields vs)
 (hn : ["enumerate","zip","dict_itemiterator","dict_reverseitemiterator","odict_iterator","itertools.zip_longest","itertools.pairwise"].contains n = false) (hQ : Q () s) : wpAny M A (letOwnedTupleGo tg (.ref it) u) Q E s := by
 unfold letOwnedTupleGo
 cases tg <;> first
  | exact wpAny_pure hQ
  | (cases u <;> first
   | exact wpAny_pure hQ
   | (refine wpAny_bind (wpAny_load ho ?_); rw [hc,hd]; show wpAny M A (if (["enumerate","zip","dict_itemiterator","dict_reverseitemiterator","odict_iterator","itertools.zip_longest","itertools.pairwise"].contains n && vs[0]? == some (rawInt _)) = true then _ else _) Q E s; rw [if_neg (by intro h; rw [hn,Bool.false_and] at h; cases h)]; exact wpAny_pure hQ))
def Itl (K : W.Frag) (a : Addr) : It :=
 ⟨λ i H => ∃ xs x,SqL K H a xs /\ xs[i]? = some x,λ i H x H' => H' = H /\ ∀ xs,SqL K H a xs -> xs[i]? = some x,λ i H => ∃ xs,SqL K H a xs /\ xs.length <= i⟩
def Itt (K : W.Frag) (a : Addr) : It :=
 ⟨λ i H => ∃ xs x,SqT K H a xs /\ xs[i]? = some x,λ i H x H' => H' = H /\ ∀ xs,SqT K H a xs -> xs[i]? = some x,λ i H => ∃ xs,SqT K H a xs /\ xs.length <= i⟩
def Itr (lo : Int) (n : Nat) : It := ⟨λ i _ => i < n,λ i H x H' => H' = H /\ x = .int (lo + i),λ i _ => n <= i⟩
theorem turn_list {P : Program} {w : World} {K : W.Frag} {tg : Expr} (a it : Addr) : Turn P w K tg (Itl K a) [it] it (λ i h => h.IsListIter it a i) where
 mem := by simp
 obj := λ i h st b hb => by
  have e : b = it := by simpa using hb
  subst e;obtain ⟨o,e,c,d⟩ := st;exact ⟨o,e,λ v z => by rw [d] at z; cases z⟩
 keep := λ i h h' st k => st.at λ o e => k it (by simp) o e
 item := by
  intro X hP hw hK hc i pins s σ H E I hf st hg;subst hP hw hK;obtain ⟨xs,x,hq,hx⟩ := hg;obtain ⟨its,rv,p,hz⟩ := I.list hq;obtain ⟨u,hu,ru⟩ := rv.get hx;obtain ⟨f0,f1,f2,f3,f4,f5⟩ := hf it (by simp);refine wpAny_pyNext_list_item st p.isList (x := u) (by simpa using hu) λ h' st' sb => ?_;have I1 : Inv X pins σ H { s with heap := h' } := I.turned (t' := s.toks) (λ b o hb e => (sb.2 b hb).trans e) f0 f1 f3 f4 f5;obtain ⟨o,e,c,d⟩ := id st';exact ⟨u,rfl,go_of (s := { s with heap := h' }) e c d (by decide) ⟨x,H,I1,ru,⟨rfl,λ ys hy => by rw [I.list_inj hy hq]; exact hx⟩,st',λ b hb => (hf b hb).1⟩⟩
 done := by
  intro X hP hw hK hc i pins s σ H E I hf st hg;subst hP hw hK;obtain ⟨xs,hq,hx⟩ := hg;obtain ⟨its,rv,p,hz⟩ := I.list hq;obtain ⟨f0,f1,f2,f3,f4,f5⟩ := hf it (by simp);have hl := rv.length;exact wpAny_pyNext_list_end (I.ok.hd hc) st p.isList (by simp; omega) λ h' eb => ⟨rfl,I.turned (t' := s.toks) (λ b o hb e => eb b o hb e) f0 f1 f3 f4 f5⟩
 self := λ _ _ _ _ _ st h => wpAny_pyIter_listiter st h
theorem turn_tuple {P : Program} {w : World} {K : W.Frag} {tg : Expr} (a it : Addr) : Turn P w K tg (Itt K a) [it] it (λ i h => h.IsTupleIter it a i) where
 mem := by simp
 obj := λ i h st b hb => by
  have e : b = it := by simpa using hb
  subst e;obtain ⟨o,e,c,d⟩ := st;exact ⟨o,e,λ v z => by rw [d] at z; cases z⟩
 keep := λ i h h' st k => st.at λ o e => k it (by simp) o e
 item := by
  intro X hP hw hK hc i pins s σ H E I hf st hg;subst hP hw hK;obtain ⟨xs,x,hq,hx⟩ := hg;obtain ⟨its,rv,p,hz⟩ := I.tuple hq;obtain ⟨u,hu,ru⟩ := rv.get hx;obtain ⟨f0,f1,f2,f3,f4,f5⟩ := hf it (by simp);refine wpAny_pyNext_tuple_item st (show s.heap.IsTuple a its.toArray from p) (x := u) (by simpa using hu) λ h' st' sb => ?_;have I1 : Inv X pins σ H { s with heap := h' } := I.turned (t' := s.toks) (λ b o hb e => (sb.2 b hb).trans e) f0 f1 f3 f4 f5;obtain ⟨o,e,c,d⟩ := id st';exact ⟨u,rfl,go_of (s := { s with heap := h' }) e c d (by decide) ⟨x,H,I1,ru,⟨rfl,λ ys hy => by rw [I.tuple_inj hy hq]; exact hx⟩,st',λ b hb => (hf b hb).1⟩⟩
 done := by
  intro X hP hw hK hc i pins s σ H E I hf st hg;subst hP hw hK;obtain ⟨xs,hq,hx⟩ := hg;obtain ⟨its,rv,p,hz⟩ := I.tuple hq;obtain ⟨f0,f1,f2,f3,f4,f5⟩ := hf it (by simp);have hl := rv.length;exact wpAny_pyNext_tuple_end (I.ok.hd hc) st (show s.heap.IsTuple a its.toArray from p) (by simp; omega) λ h' eb => ⟨rfl,I.turned (t' := s.toks) (λ b o hb e => eb b o hb e) f0 f1 f3 f4 f5⟩
 self := λ _ _ _ _ _ st h => wpAny_pyIter_tupleiter st h
theorem turn_range {P : Program} {w : World} {K : W.Frag} {tg : Expr} (it : Addr) (lo : Int) (n : Nat) : Turn P w K tg (Itr lo n) [it] it (λ i h => IsRangeIter h it (lo + (i : Nat) * 1) ((n : Int) - (i : Nat)) 1) where
 mem := by simp
 obj := λ i h st b hb => by
  have e : b = it := by simpa using hb
  subst e;exact ⟨_,st,λ v z => by
   have z' : Data.fields _ = Data.cell v := z;cases z'⟩
 keep := λ i h h' st k => k it (by simp) _ st
 item := by
  intro X hP hw hK hc i pins s σ H E I hf st hg;subst hP hw hK;obtain ⟨f0,f1,f2,f3,f4,f5⟩ := hf it (by simp);have W := Walks.range (prog := X.prog) (w := X.w) (I.ok.hd hc) it lo 1 n;refine W.item i s _ _ hg st λ v h' tk hv st' kk => ?_;obtain ⟨t,rfl⟩ := hv;have I1 : Inv X pins σ H { s with heap := h',toks := tk } := I.turned (λ b o hb e => kk b o (by simpa using hb) e) f0 f1 f3 f4 f5;refine ⟨_,rfl,go_of (s := { s with heap := h',toks := tk }) (n := "range_iterator") st' rfl rfl (by decide) ⟨.int (lo + i),H,I1,⟨t,?_⟩,⟨rfl,rfl⟩,st',λ b hb => (hf b hb).1⟩⟩;rw [Int.mul_one]
 done := by
  intro X hP hw hK hc i pins s σ H E I hf st hg;subst hP hw hK;obtain ⟨f0,f1,f2,f3,f4,f5⟩ := hf it (by simp);exact wpAny_pyNext_range_end (I.ok.hd hc) st (by have : n <= i := hg; omega) λ h' eb => ⟨rfl,I.turned (t' := s.toks) (λ b o hb e => eb b o hb e) f0 f1 f3 f4 f5⟩
 self := λ _ _ _ _ _ st h => wpAny_pyIter_rangeiter st h
section
variable {tg : Expr}
def iList (K : W.Frag) (tl : TE) : TI := λ σ H R => tl σ H λ x H1 => ∃ a,x = .ref a /\ (∃ xs,SqL K H1 a xs) /\ R (Itl K a) H1
def iTup (K : W.Frag) (tl : TE) : TI := λ σ H R => tl σ H λ x H1 => ∃ a,x = .ref a /\ (∃ xs,SqT K H1 a xs) /\ R (Itt K a) H1
theorem pi_list {l : Expr} {tl : TE} (hl : PE X l tl) : PI X tg l (iList X.K tl) := by
 intro pins s σ H R I h
 refine thn (hl pins s σ H _ I h) λ v s1 ⟨x,H1,I1,r1,q1⟩ => ?_
 obtain ⟨a,e,⟨xs,hq⟩,q⟩ := q1
 subst e
 cases r1
 obtain ⟨its,rv,p,hz⟩ := I1.list hq
 refine wpAny_pyIter_list p.isList ?_
 refine ⟨s1.heap.objs.size,[s1.heap.objs.size],_,_,H1,rfl,I1.kept (t' := s1.toks) λ b o e => Heap.get?_push_of_some _ e,turn_list a _,⟨_,Heap.get?_push_size _ rfl,rfl,rfl⟩,λ b hb => ?_,q⟩
 have e : b = s1.heap.objs.size := by simpa using hb
 subst e
 exact I1.fpOk (Nat.le_refl _) (I1.hok.fresh (Nat.le_refl _))
theorem pi_tup {l : Expr} {tl : TE} (hl : PE X l tl) : PI X tg l (iTup X.K tl) := by
 intro pins s σ H R I h
 refine thn (hl pins s σ H _ I h) λ v s1 ⟨x,H1,I1,r1,q1⟩ => ?_
 obtain ⟨a,e,⟨xs,hq⟩,q⟩ := q1
 subst e
 cases r1
 obtain ⟨its,rv,p,hz⟩ := I1.tuple hq
 refine wpAny_pyIter_tuple (show s1.heap.IsTuple a its.toArray from p) ?_
 refine ⟨s1.heap.objs.size,[s1.heap.objs.size],_,_,H1,rfl,I1.kept (t' := s1.toks) λ b o e => Heap.get?_push_of_some _ e,turn_tuple a _,⟨_,Heap.get?_push_size _ rfl,rfl,rfl⟩,λ b hb => ?_,q⟩
 have e : b = s1.heap.objs.size := by simpa using hb
 subst e
 exact I1.fpOk (Nat.le_refl _) (I1.hok.fresh (Nat.le_refl _))
theorem range_it {pins : List (Addr × Obj)} {σ : St} {H : Hp} {s : Shared} {R : It -> Hp -> Prop} {E : Value -> Shared -> Prop} {lo hi : Int} {t u v : Tok} {tk : Nat} (I : Inv X pins σ H s) (h1 : -(2 ^ 62) <= lo) (h2 : lo < 2 ^ 62) (h3 : -(2 ^ 62) <= hi) (h4 : hi < 2 ^ 62)
 (q : R (Itr lo (hi - lo).toNat) H) : wpAny (model X.prog X.w) X.A (pyIter (.ref s.heap.objs.size)) (PIE X pins σ tg R) E { s with heap := s.heap.push { cls := .type "range",data := .fields #[.int lo t,.int hi u,.int 1 v] },toks := tk } := by
 refine wpAny_pyIter_range (IsRange.new ..) (small_one h1 h2 h3 h4) ?_
 have I1 : Inv X pins σ H { s with heap := s.heap.push { cls := .type "range",data := .fields #[.int lo t,.int hi u,.int 1 v] },toks := tk } := I.kept λ b o e => Heap.get?_push_of_some _ e
 refine ⟨(s.heap.push { cls := .type "range",data := .fields #[.int lo t,.int hi u,.int 1 v] }).objs.size,[(s.heap.push { cls := .type "range",data := .fields #[.int lo t,.int hi u,.int 1 v] }).objs.size],_,_,H,rfl,
  I1.kept (t' := tk) λ b o e => Heap.get?_push_of_some _ e,turn_range _ lo (hi - lo).toNat,?_,λ b hb => ?_,q⟩
 . have e1 : lo + ((0 : Nat) : Int) * 1 = lo := by simp
   have e2 : (((hi - lo).toNat : Nat) : Int) - ((0 : Nat) : Int) = Builtin.Range.rangeSize lo hi 1 := by rw [rangeSize_one]; split <;> omega
   show IsRangeIter _ _ (lo + ((0 : Nat) : Int) * 1) ((((hi - lo).toNat : Nat) : Int) - ((0 : Nat) : Int)) 1
   rw [e1,e2];exact Heap.get?_push_size _ rfl
 . have e : b = (s.heap.push { cls := .type "range",data := .fields #[.int lo t,.int hi u,.int 1 v] }).objs.size := by simpa using hb
   subst e;exact I1.fpOk (Nat.le_refl _) (I1.hok.fresh (Nat.le_refl _))
def iRng1 (ta : TA) : TI := λ σ H R => ta σ H λ vs H1 => ∃ j : Int,vs = [.int j] /\ -(2 ^ 62) <= j /\ j < 2 ^ 62 /\ R (Itr 0 j.toNat) H1
theorem pi_range1 {a : Expr} {ta : TA} {p pos : Pos} (hg : Gl X "range") (hm : X.mg "range" = none) (ha : PA X [a] ta) (hs : starEach [a] X.env = [(false,eval a X.env)] := by rfl) : PI X tg (.Call (.Name "range" p) [a] [] pos) (iRng1 ta) := by
 intro pins s σ H R I h
 refine Call_ (ld_blt I hg hm boot_range (PyProof.Rows.callWith_type1 (thn (ha pos pins s σ H _ I h) λ us s1 ⟨vs,H1,I1,r1,q1⟩ => ?_) hs rfl))
 obtain ⟨j,e,q1,q2,q⟩ := q1
 subst e
 cases r1 with
 | cons r rr =>
  cases rr;obtain ⟨t,rfl⟩ := r;exact call_range_1 (range_it I1 (by omega) (by omega) q1 q2 (by simpa using q))
def tFor (wi : TI) (g : TG) (tb : TS) : TS := λ D σ H => wi σ H λ J H1 => ∃ W : Nat -> Nat -> St -> Hp -> Prop,(∃ m,W 0 m σ H1) /\ ∀ i m σ H,W i m σ H ->
 (J.stop i H /\ D.nx σ H) \/ (J.go i H /\ ∃ N : St -> Hp -> Prop,(∀ σ' H',N σ' H' -> ∃ m',m' < m /\ W (i + 1) m' σ' H') /\ ∀ x H',J.yld i H x H' -> g x σ H' λ σ2 H2 => tb { D with nx := N,ct := N,bk := D.nx } σ2 H2)
def pinsAt (fp : List Addr) (h : Heap) : List (Addr × Obj) := fp.filterMap λ b => (h.get? b).map λ o => (b,o)
theorem mem_pinsAt {fp : List Addr} {h : Heap} {b : Addr} {o : Obj} (hb : b ∈ fp) (e : h.get? b = some o) : (b,o) ∈ pinsAt fp h := List.mem_filterMap.mpr ⟨b,hb,by rw [e]; rfl⟩
theorem of_pinsAt {fp : List Addr} {h : Heap} {p : Addr × Obj} (hp : p ∈ pinsAt fp h) : p.1 ∈ fp /\ h.get? p.1 = some p.2 := by
 obtain ⟨b,hb,e⟩ := List.mem_filterMap.mp hp
 cases q : h.get? b with
 | none => rw [q] at e; cases e
 | some o =>
  rw [q] at e;have e' : (b,o) = p := Option.some.inj e;subst e';exact ⟨hb,q⟩
theorem Inv.pinned {pins : List (Addr × Obj)} {σ : St} {H : Hp} {s : Shared} {fp : List Addr} (I : Inv X pins σ H s) (hf : ∀ b ∈ fp,FpOk X pins H b) (ho : ∀ b ∈ fp,∃ o,s.heap.get? b = some o /\ ∀ v,o.data ≠ .cell v) : Inv X (pins ++ pinsAt fp s.heap) σ H s :=
 I.pins_of λ p hp => (List.mem_append.mp hp).elim (λ z => I.pin p (List.mem_append_right _ z)) λ z => by
  obtain ⟨hb,e⟩ := of_pinsAt z;obtain ⟨f0,f1,f2,_⟩ := hf p.1 hb;obtain ⟨o,e',d⟩ := ho p.1 hb;rw [e] at e'; cases e';exact ⟨e,f0,f1,f2,d⟩
theorem Inv.unpinned {pins pl : List (Addr × Obj)} {σ : St} {H : Hp} {s : Shared} (I : Inv X (pins ++ pl) σ H s) : Inv X pins σ H s := I.pins_of λ p hp => I.pin p (List.mem_append_right _ (List.mem_append_left _ hp))
theorem ps_for {iter : Expr} {body : List Stmt} {wi : TI} {g : TG} {tb : TS} {pos : Pos} (hp : PassesOwn (model X.prog X.w) X.A X.env X.xe) (hc : X.calm = true) (hi : PI X tg iter wi) (hg : PG X tg g) (hb : PSs X body tb)
 (hs : ∀ x,foldedSetIterable iter X.env x = pure x := by intro _; rfl) : PS X (.For tg iter body [] pos) (tFor wi g tb) := by
 intro pins s σ H D I h
 refine wpAny_For (thn (hi pins s σ H _ I h) λ v s1 h1 => thn h1 λ itv s2 h2 => ?_) hs
 obtain ⟨it,fp,tn,J,H2,e,I2,T,st2,f2,W,⟨m0,w0⟩,turn⟩ := h2
 subst e
 -- what stays true of the iterator's objects through the loop
 have stat : ∀ {H' : Hp},(∀ b ∈ fp,H' b = none) -> ∀ b ∈ fp,FpOk X pins H' b := λ hn b hb => ⟨hn b hb,(f2 b hb).2⟩
 refine codeAny_forLoop_any (λ n s' => ∃ i σ' H',Inv X pins σ' H' s' /\ tn i s'.heap /\ (∀ b ∈ fp,H' b = none) /\ W i n σ' H') ?_ m0 ⟨0,σ,H2,I2,st2,λ b hb => (f2 b hb).1,w0⟩
 rintro n s3 ⟨i,σ3,H3,I3,st3,fr3,w3⟩
 rcases turn i n σ3 H3 w3 with ⟨stop,qn⟩ | ⟨go,N,hN,step⟩
 . refine wpAny_passesOwn hp (thn (T.done X rfl rfl rfl hc i pins s3 σ3 H3 X.xe I3 (stat fr3) st3 stop) λ r s4 ⟨hr,I4⟩ => ?_);subst hr;exact wpAny_execs_nil ⟨σ3,H3,I4,qn⟩
 . refine wpAny_passesOwn hp (thn (T.item X rfl rfl rfl hc i pins s3 σ3 H3 X.xe I3 (stat fr3) st3 go) λ r s4 ⟨u,hr,h4⟩ => ?_);subst hr;refine wpAny_passesOwn hp (thn h4 λ _ s5 ⟨x,H5,I5,r5,y5,st5,fr5⟩ => ?_);have I5' := I5.pinned (stat fr5) (T.obj _ _ st5);refine wpAny_passesOwn hp (thn (hg _ s5 σ3 H5 x u _ I5' r5 (step x H5 y5)) λ _ s6 ⟨σ6,H6,I6,q6⟩ => ?_);refine wpAny_passesOwn hp (thn (hb _ s6 σ6 H6 _ I6 q6) λ f s7 q7 => ?_);have again : ∀ {σ7 : St} {H7 : Hp},Inv X (pins ++ pinsAt fp s5.heap) σ7 H7 s7 -> N σ7 H7 -> ∃ m,m < n /\ ∃ i σ' H',Inv X pins σ' H' s7 /\ tn i s7.heap /\ (∀ b ∈ fp,H' b = none) /\ W i m σ' H' := λ {σ7 H7} I7 n7 => by
    obtain ⟨m',hm,w7⟩ := hN σ7 H7 n7;refine ⟨m',hm,i + 1,σ7,H7,I7.unpinned,T.keep _ _ _ st5 λ b hb o e => (I7.pin (b,o) (List.mem_append_right _ (List.mem_append_right _ (mem_pinsAt hb e)))).1,λ b hb => ?_,w7⟩;obtain ⟨o,e,d⟩ := T.obj _ _ st5 b hb;exact (I7.pin (b,o) (List.mem_append_right _ (List.mem_append_right _ (mem_pinsAt hb e)))).2.1
   cases f with
   | next => obtain ⟨σ7,H7,I7,n7⟩ := q7; exact again I7 n7
   | cont => obtain ⟨σ7,H7,I7,n7⟩ := q7; exact again I7 n7
   | brk => obtain ⟨σ7,H7,I7,q7⟩ := q7; exact ⟨σ7,H7,I7.unpinned,q7⟩
   | ret v => obtain ⟨x7,σ7,H7,I7,r7,q7⟩ := q7; exact ⟨x7,σ7,H7,I7.unpinned,r7,q7⟩
end
theorem for_list {K : W.Frag} {a : Addr} {xs : List V} {g : TG} {tb : TS} {D : Ends} {σ : St} {H : Hp} (Pv : Nat -> St -> Hp -> Prop) (h0 : Pv 0 σ H) (hl : ∀ i σ H,i <= xs.length -> Pv i σ H -> SqL K H a xs)
 (hs : ∀ i x σ H,xs[i]? = some x -> Pv i σ H -> g x σ H λ σ2 H2 => tb { D with nx := Pv (i + 1),ct := Pv (i + 1),bk := D.nx } σ2 H2) (hd : ∀ σ H,Pv xs.length σ H -> D.nx σ H) :
 ∃ W : Nat -> Nat -> St -> Hp -> Prop,(∃ m,W 0 m σ H) /\ ∀ i m σ H,W i m σ H ->
  ((Itl K a).stop i H /\ D.nx σ H) \/ ((Itl K a).go i H /\ ∃ N : St -> Hp -> Prop,(∀ σ' H',N σ' H' -> ∃ m',m' < m /\ W (i + 1) m' σ' H') /\ ∀ x H',(Itl K a).yld i H x H' -> g x σ H' λ σ2 H2 => tb { D with nx := N,ct := N,bk := D.nx } σ2 H2) := by
 refine ⟨λ i m σ H => m = xs.length - i /\ i <= xs.length /\ Pv i σ H,⟨xs.length,by simp,Nat.zero_le _,h0⟩,?_⟩
 rintro i m σ H ⟨rfl,hi,p⟩
 have q := hl i σ H hi p
 by_cases hlt : i < xs.length
 . refine .inr ⟨⟨xs,xs[i],q,by simp [hlt]⟩,Pv (i + 1),λ σ' H' p' => ⟨xs.length - (i + 1),by omega,rfl,hlt,p'⟩,λ x H' y => ?_⟩;obtain ⟨e,y⟩ := y;subst e;exact hs i x σ _ (y xs q) p
 . have e : i = xs.length := by omega
   subst e;exact .inl ⟨⟨xs,q,Nat.le_refl _⟩,hd σ H p⟩
theorem for_tup {K : W.Frag} {a : Addr} {xs : List V} {g : TG} {tb : TS} {D : Ends} {σ : St} {H : Hp} (Pv : Nat -> St -> Hp -> Prop) (h0 : Pv 0 σ H) (hl : ∀ i σ H,i <= xs.length -> Pv i σ H -> SqT K H a xs)
 (hs : ∀ i x σ H,xs[i]? = some x -> Pv i σ H -> g x σ H λ σ2 H2 => tb { D with nx := Pv (i + 1),ct := Pv (i + 1),bk := D.nx } σ2 H2) (hd : ∀ σ H,Pv xs.length σ H -> D.nx σ H) :
 ∃ W : Nat -> Nat -> St -> Hp -> Prop,(∃ m,W 0 m σ H) /\ ∀ i m σ H,W i m σ H ->
  ((Itt K a).stop i H /\ D.nx σ H) \/ ((Itt K a).go i H /\ ∃ N : St -> Hp -> Prop,(∀ σ' H',N σ' H' -> ∃ m',m' < m /\ W (i + 1) m' σ' H') /\ ∀ x H',(Itt K a).yld i H x H' -> g x σ H' λ σ2 H2 => tb { D with nx := N,ct := N,bk := D.nx } σ2 H2) := by
 refine ⟨λ i m σ H => m = xs.length - i /\ i <= xs.length /\ Pv i σ H,⟨xs.length,by simp,Nat.zero_le _,h0⟩,?_⟩
 rintro i m σ H ⟨rfl,hi,p⟩
 have q := hl i σ H hi p
 by_cases hlt : i < xs.length
 . refine .inr ⟨⟨xs,xs[i],q,by simp [hlt]⟩,Pv (i + 1),λ σ' H' p' => ⟨xs.length - (i + 1),by omega,rfl,hlt,p'⟩,λ x H' y => ?_⟩;obtain ⟨e,y⟩ := y;subst e;exact hs i x σ _ (y xs q) p
 . have e : i = xs.length := by omega
   subst e;exact .inl ⟨⟨xs,q,Nat.le_refl _⟩,hd σ H p⟩
theorem for_range {lo : Int} {n : Nat} {g : TG} {tb : TS} {D : Ends} {σ : St} {H : Hp} (Pv : Nat -> St -> Hp -> Prop) (h0 : Pv 0 σ H)
 (hs : ∀ i σ H,i < n -> Pv i σ H -> g (.int (lo + i)) σ H λ σ2 H2 => tb { D with nx := Pv (i + 1),ct := Pv (i + 1),bk := D.nx } σ2 H2) (hd : ∀ σ H,Pv n σ H -> D.nx σ H) :
 ∃ W : Nat -> Nat -> St -> Hp -> Prop,(∃ m,W 0 m σ H) /\ ∀ i m σ H,W i m σ H ->
  ((Itr lo n).stop i H /\ D.nx σ H) \/ ((Itr lo n).go i H /\ ∃ N : St -> Hp -> Prop,(∀ σ' H',N σ' H' -> ∃ m',m' < m /\ W (i + 1) m' σ' H') /\ ∀ x H',(Itr lo n).yld i H x H' -> g x σ H' λ σ2 H2 => tb { D with nx := N,ct := N,bk := D.nx } σ2 H2) := by
 refine ⟨λ i m σ H => m = n - i /\ i <= n /\ Pv i σ H,⟨n,by simp,Nat.zero_le _,h0⟩,?_⟩
 rintro i m σ H ⟨rfl,hi,p⟩
 by_cases hlt : i < n
 . refine .inr ⟨hlt,Pv (i + 1),λ σ' H' p' => ⟨n - (i + 1),by omega,rfl,hlt,p'⟩,λ x H' y => ?_⟩;obtain ⟨e,y⟩ := y;subst e y;exact hs i σ _ hlt p
 . have e : i = n := by omega
   subst e;exact .inl ⟨Nat.le_refl _,hd σ H p⟩
abbrev R2 := V -> V -> Hp -> VK -> Prop
def OpR (X : Cx) (f : Value -> Value -> Sem Value) (r : R2) : Prop :=
 ∀ (pins : List (Addr × Obj)) (s : Shared) (σ : St) (H : Hp) (x y : V) (v u : Value) (Q : VK),Inv X pins σ H s -> RelV x v -> RelV y u -> r x y H Q ->
  wpAny (model X.prog X.w) X.A (f v u) (EP X pins σ Q) X.xe s
def UnR (X : Cx) (f : Value -> Sem Value) (r : V -> Hp -> VK -> Prop) : Prop :=
 ∀ (pins : List (Addr × Obj)) (s : Shared) (σ : St) (H : Hp) (x : V) (v : Value) (Q : VK),Inv X pins σ H s -> RelV x v -> r x H Q ->
  wpAny (model X.prog X.w) X.A (f v) (EP X pins σ Q) X.xe s
def CallR (X : Cx) (f : Value) (r : List V -> Hp -> VK -> Prop) : Prop :=
 ∀ (pins : List (Addr × Obj)) (s : Shared) (σ : St) (H : Hp) (xs : List V) (us : List Value) (Q : VK),Inv X pins σ H s -> Vals xs us -> r xs H Q ->
  wpAny (model X.prog X.w) X.A (call f us) (EP X pins σ Q) X.xe s
def tOp (r : R2) (ta tb : TE) : TE := λ σ H Q => ta σ H λ x H1 => tb σ H1 λ y H2 => r x y H2 Q
def tUn (r : V -> Hp -> VK -> Prop) (ta : TE) : TE := λ σ H Q => ta σ H λ x H1 => r x H1 Q
def rI (C : Int -> Int -> Prop) (g : Int -> Int -> V) : R2 := λ x y H Q => ∃ i j,x = .int i /\ y = .int j /\ C i j /\ Q (g i j) H
def rI0 (g : Int -> Int -> V) : R2 := λ x y H Q => ∃ i j,x = .int i /\ y = .int j /\ Q (g i j) H
def rU (g : Int -> V) : V -> Hp -> VK -> Prop := λ x H Q => ∃ i,x = .int i /\ Q (g i) H
section
variable {a b c : Expr} {tc : TE}
theorem binT (ha : PE X a ta) (hb : PE X b tb) {pins : List (Addr × Obj)} {s : Shared} {σ : St} {H : Hp} {R : V -> V -> Hp -> Prop} (I : Inv X pins σ H s)
 (h : ta σ H λ x H1 => tb σ H1 λ y H2 => R x y H2) {Q : Value -> Shared -> Prop} {f : Value -> Value -> Sem Value}
 (hf : ∀ v u s2 x y H2,Inv X pins σ H2 s2 -> RelV x v -> RelV y u -> R x y H2 -> wpAny (model X.prog X.w) X.A (f v u) Q X.xe s2) :
 wpAny (model X.prog X.w) X.A (eval a X.env) (λ v s₁ => wpAny (model X.prog X.w) X.A (eval b X.env) (λ u s₂ => wpAny (model X.prog X.w) X.A (f v u) Q X.xe s₂) X.xe s₁) X.xe s := by
 refine thn (ha pins s σ H _ I h) λ v s1 ⟨x,H1,I1,r1,q1⟩ => ?_
 refine thn (hb pins s1 σ H1 _ I1 q1) λ u s2 ⟨y,H2,I2,r2,q2⟩ => ?_
 exact hf v u s2 x y H2 I2 r1 r2 q2
theorem pe_op {op : Operator} {r : R2} (ho : OpR X (binaryOp op) r) (ha : PE X a ta) (hb : PE X b tb) : PE X (.BinOp a op b pos) (tOp r ta tb) := by
 intro pins s σ H Q I h
 exact wpAny_BinOp (binT ha hb I h λ v u s2 x y H2 I2 rx ry q => ho pins s2 σ H2 x y v u Q I2 rx ry q)
theorem pe_un {op : UnaryOp} {r : V -> Hp -> VK -> Prop} (ho : UnR X (unaryOp op) r) (ha : PE X a ta) : PE X (.UnaryOp op a pos) (tUn r ta) := by
 intro pins s σ H Q I h
 exact UnaryOp_ (thn (ha pins s σ H _ I h) λ v s1 ⟨x,H1,I1,r1,q1⟩ => ho pins s1 σ H1 x v Q I1 r1 q1)
theorem opI {f : Value -> Value -> Sem Value} {C : Int -> Int -> Prop} {g : Int -> Int -> Int}
 (rule : ∀ (i j : Int) (t u : Tok) (s : Shared) (Q : Value -> Shared -> Prop) (E : Value -> Shared -> Prop),C i j -> Q (.int (g i j) s.toks) { s with toks := s.toks + 1 } -> wpAny (model X.prog X.w) X.A (f (.int i t) (.int j u)) Q E s) :
 OpR X f (rI C λ i j => .int (g i j)) := by
 intro pins s σ H x y v u Q I rx ry h
 obtain ⟨i,j,rfl,rfl,hc,q⟩ := h
 obtain ⟨t,rfl⟩ := rx
 obtain ⟨t',rfl⟩ := ry
 exact rule i j t t' s _ _ hc ⟨.int (g i j),H,I.tok _,⟨_,rfl⟩,q⟩
theorem opI0 {f : Value -> Value -> Sem Value} {g : Int -> Int -> Int}
 (rule : ∀ (i j : Int) (t u : Tok) (s : Shared) (Q : Value -> Shared -> Prop) (E : Value -> Shared -> Prop),Q (.int (g i j) s.toks) { s with toks := s.toks + 1 } -> wpAny (model X.prog X.w) X.A (f (.int i t) (.int j u)) Q E s) :
 OpR X f (rI0 λ i j => .int (g i j)) := by
 intro pins s σ H x y v u Q I rx ry h
 obtain ⟨i,j,rfl,rfl,q⟩ := h
 obtain ⟨t,rfl⟩ := rx
 obtain ⟨t',rfl⟩ := ry
 exact rule i j t t' s _ _ ⟨.int (g i j),H,I.tok _,⟨_,rfl⟩,q⟩
theorem opB0 {f : Value -> Value -> Sem Value} {g : Int -> Int -> Bool}
 (rule : ∀ (i j : Int) (t u : Tok) (s : Shared) (Q : Value -> Shared -> Prop) (E : Value -> Shared -> Prop),Q (.bool (g i j)) s -> wpAny (model X.prog X.w) X.A (f (.int i t) (.int j u)) Q E s) :
 OpR X f (rI0 λ i j => .bl (g i j)) := by
 intro pins s σ H x y v u Q I rx ry h
 obtain ⟨i,j,rfl,rfl,q⟩ := h
 obtain ⟨t,rfl⟩ := rx
 obtain ⟨t',rfl⟩ := ry
 exact rule i j t t' s _ _ ⟨.bl (g i j),H,I,rfl,q⟩
def CPow (i j : Int) : Prop := 0 <= j /\ j <= 1000000 /\ i.natAbs < 2 ^ 64
def CMul (i j : Int) : Prop := (-(2 ^ 64) < i /\ i < 2 ^ 64) \/ (-(2 ^ 64) < j /\ j < 2 ^ 64)
theorem CMul.ok {i j : Int} (h : CMul i j) : IntMulOk i j := by
 rcases h with ⟨h1,h2⟩ | ⟨h1,h2⟩
 . exact .of_left (intBits_le_64 h1 h2)
 . exact .of_right (intBits_le_64 h1 h2)
theorem two_pow_nn (k : Nat) : (0 : Int) <= 2 ^ k := by
 rw [two_pow_cast]
 exact Int.natCast_nonneg _
theorem op_add : OpR X (binaryOp .Add) (rI0 λ i j => .int (i + j)) := opI0 λ _ _ _ _ _ _ _ q => add_int q
theorem op_sub : OpR X (binaryOp .Sub) (rI0 λ i j => .int (i - j)) := opI0 λ _ _ _ _ _ _ _ q => sub_int q
theorem op_mul : OpR X (binaryOp .Mult) (rI CMul λ i j => .int (i * j)) := opI λ _ _ _ _ _ _ _ hc q => mul_int q hc.ok
theorem op_mod : OpR X (binaryOp .Mod) (rI (λ _ j => 0 < j) λ i j => .int (i % j)) := opI λ i j _ _ _ _ _ hc q => by
 have h1 : (0 : Int) < j := hc
 exact mod_int' (by omega) (by rw [Int.fmod_eq_emod_of_nonneg i (by omega)]; exact q)
theorem op_pow : OpR X (binaryOp .Pow) (rI CPow λ i j => .int (i ^ j.toNat)) := opI λ _ _ _ _ _ _ _ hc q => pow_int_small hc.1 hc.2.1 hc.2.2 q
theorem op_shl : OpR X (binaryOp .LShift) (rI CPow λ i j => .int (i * 2 ^ j.toNat)) := opI λ _ _ _ _ _ _ _ hc q => lshift_int_small hc.1 hc.2.1 hc.2.2 q
theorem op_shr : OpR X (binaryOp .RShift) (rI (λ _ j => 0 <= j) λ i j => .int (i / 2 ^ j.toNat)) := opI λ i j _ _ _ _ _ hc q =>
 rshift_int hc (by rw [Int.fdiv_eq_ediv_of_nonneg i (two_pow_nn _)]; exact q)
theorem op_and : OpR X (binaryOp .BitAnd) (rI0 λ i j => .int (Builtin.bitAnd i j)) := opI0 λ _ _ _ _ _ _ _ q => and_int q
theorem unI {f : Value -> Sem Value} {g : Int -> Int}
 (rule : ∀ (i : Int) (t : Tok) (s : Shared) (Q : Value -> Shared -> Prop) (E : Value -> Shared -> Prop),Q (.int (g i) s.toks) { s with toks := s.toks + 1 } -> wpAny (model X.prog X.w) X.A (f (.int i t)) Q E s) :
 UnR X f (rU λ i => .int (g i)) := by
 intro pins s σ H x v Q I rx h
 obtain ⟨i,rfl,q⟩ := h
 obtain ⟨t,rfl⟩ := rx
 exact rule i t s _ _ ⟨.int (g i),H,I.tok _,⟨_,rfl⟩,q⟩
theorem un_neg : UnR X (unaryOp .USub) (rU λ i => .int (-i)) := unI λ _ _ _ _ _ q => neg_int q
end
def scal : V -> V -> Bool
 | .non,.non => true | .non,.int _ => true | .int _,.non => true | .non,.bl _ => true | .bl _,.non => true | .non,.str _ => true | .str _,.non => true
 | .int _,.int _ => true | .bl _,.bl _ => true | .str _,.str _ => true | .byt _,.byt _ => true
 | .int _,.str _ => true | .str _,.int _ => true | .bl _,.str _ => true | .str _,.bl _ => true
 | _,_ => false
def rEq : R2 := λ x y H Q => scal x y = true /\ Q (.bl (decide (x = y))) H
def rNe : R2 := λ x y H Q => scal x y = true /\ Q (.bl (!decide (x = y))) H
theorem dec_int {i j : Int} : decide (V.int i = V.int j) = (i == j) := by
 rw [Bool.eq_iff_iff]
 simp
theorem dec_bl {i j : Bool} : decide (V.bl i = V.bl j) = (i == j) := by
 rw [Bool.eq_iff_iff]
 simp
theorem dec_str {i j : Str} : decide (V.str i = V.str j) = (i == j) := by
 rw [Bool.eq_iff_iff]
 simp
theorem dec_byt {i j : Array UInt8} : decide (V.byt i = V.byt j) = (i.toList == j.toList) := by
 rw [Bool.eq_iff_iff]
 cases i
 cases j
 simp
section
variable {a b c : Expr} {tc : TE}
theorem fin_bl {pins : List (Addr × Obj)} {σ : St} {H : Hp} {s : Shared} {Q : VK} {k k' : Bool} (I : Inv X pins σ H s) (q : Q (.bl k) H) (e : k = k') : EP X pins σ Q (.bool k') s := by
 subst e
 exact ⟨.bl k,H,I,rfl,q⟩
theorem op_eq : OpR X (compareOp .Eq) rEq := by
 intro pins s σ H x y v u Q I rx ry h
 obtain ⟨hs,q⟩ := h
 cases x with
 | non =>
  cases rx;cases y with
  | non => cases ry; exact PySem.EqNone.eq_none_none (fin_bl I q (by simp))
  | bl j => cases ry; exact PySem.EqNone.eq_none_bool (fin_bl I q (by simp))
  | int j => obtain ⟨t',rfl⟩ := ry; exact PySem.EqNone.eq_none_int (fin_bl I q (by simp))
  | str j => obtain ⟨t',rfl⟩ := ry; exact PySem.EqNone.eq_none_str (fin_bl I q (by simp))
  | _ => exact absurd (show false = true from hs) Bool.false_ne_true
 | bl i =>
  cases rx;cases y with
  | non => cases ry; exact PySem.EqNone.eq_bool_none (fin_bl I q (by simp))
  | bl j => cases ry; exact eq_bool (fin_bl I q dec_bl)
  | str j => obtain ⟨t',rfl⟩ := ry; exact PySem.EqMixed.eq_bool_str (fin_bl I q (by simp))
  | _ => exact absurd (show false = true from hs) Bool.false_ne_true
 | int i =>
  obtain ⟨t,rfl⟩ := rx;cases y with
  | non => cases ry; exact PySem.EqNone.eq_int_none (fin_bl I q (by simp))
  | int j => obtain ⟨t',rfl⟩ := ry; exact eq_int (fin_bl I q dec_int)
  | str j => obtain ⟨t',rfl⟩ := ry; exact PySem.EqMixed.eq_int_str (fin_bl I q (by simp))
  | _ => exact absurd (show false = true from hs) Bool.false_ne_true
 | str i =>
  obtain ⟨t,rfl⟩ := rx;cases y with
  | non => cases ry; exact PySem.EqNone.eq_str_none (fin_bl I q (by simp))
  | bl j => cases ry; exact PySem.EqMixed.eq_str_bool (fin_bl I q (by simp))
  | int j => obtain ⟨t',rfl⟩ := ry; exact PySem.EqMixed.eq_str_int (fin_bl I q (by simp))
  | str j => obtain ⟨t',rfl⟩ := ry; exact eq_str (fin_bl I q dec_str)
  | _ => exact absurd (show false = true from hs) Bool.false_ne_true
 | byt i =>
  obtain ⟨t,rfl⟩ := rx;cases y with
  | byt j => obtain ⟨t',rfl⟩ := ry; exact PySem.W.eq_bytes (fin_bl I q dec_byt)
  | _ => exact absurd (show false = true from hs) Bool.false_ne_true
 | _ => cases y <;> exact absurd (show false = true from hs) Bool.false_ne_true
theorem op_ne : OpR X (compareOp .NotEq) rNe := by
 intro pins s σ H x y v u Q I rx ry h
 obtain ⟨hs,q⟩ := h
 cases x with
 | non =>
  cases rx;cases y with
  | non => cases ry; exact PySem.EqNone.ne_none_none (fin_bl I q (by simp))
  | bl j => cases ry; exact PySem.EqNone.ne_none_bool (fin_bl I q (by simp))
  | int j => obtain ⟨t',rfl⟩ := ry; exact PySem.EqNone.ne_none_int (fin_bl I q (by simp))
  | str j => obtain ⟨t',rfl⟩ := ry; exact PySem.EqNone.ne_none_str (fin_bl I q (by simp))
  | _ => exact absurd (show false = true from hs) Bool.false_ne_true
 | bl i =>
  cases rx;cases y with
  | non => cases ry; exact PySem.EqNone.ne_bool_none (fin_bl I q (by simp))
  | bl j => cases ry; exact ne_bool (fin_bl I q (congrArg not dec_bl))
  | str j => obtain ⟨t',rfl⟩ := ry; exact PySem.EqMixed.ne_bool_str (fin_bl I q (by simp))
  | _ => exact absurd (show false = true from hs) Bool.false_ne_true
 | int i =>
  obtain ⟨t,rfl⟩ := rx;cases y with
  | non => cases ry; exact PySem.EqNone.ne_int_none (fin_bl I q (by simp))
  | int j => obtain ⟨t',rfl⟩ := ry; exact ne_int (fin_bl I q (congrArg not dec_int))
  | str j => obtain ⟨t',rfl⟩ := ry; exact PySem.EqMixed.ne_int_str (fin_bl I q (by simp))
  | _ => exact absurd (show false = true from hs) Bool.false_ne_true
 | str i =>
  obtain ⟨t,rfl⟩ := rx;cases y with
  | non => cases ry; exact PySem.EqNone.ne_str_none (fin_bl I q (by simp))
  | bl j => cases ry; exact PySem.EqMixed.ne_str_bool (fin_bl I q (by simp))
  | int j => obtain ⟨t',rfl⟩ := ry; exact PySem.EqMixed.ne_str_int (fin_bl I q (by simp))
  | str j => obtain ⟨t',rfl⟩ := ry; exact ne_str (fin_bl I q (congrArg not dec_str))
  | _ => exact absurd (show false = true from hs) Bool.false_ne_true
 | byt i =>
  obtain ⟨t,rfl⟩ := rx;cases y with
  | byt j => obtain ⟨t',rfl⟩ := ry; exact PySem.W.ne_bytes (fin_bl I q (congrArg not dec_byt))
  | _ => exact absurd (show false = true from hs) Bool.false_ne_true
 | _ => cases y <;> exact absurd (show false = true from hs) Bool.false_ne_true
theorem op_lt : OpR X (compareOp .Lt) (rI0 λ i j => .bl (decide (i < j))) := opB0 λ _ _ _ _ _ _ _ q => lt_int q
theorem op_le : OpR X (compareOp .LtE) (rI0 λ i j => .bl (decide (i <= j))) := opB0 λ _ _ _ _ _ _ _ q => le_int q
theorem op_gt : OpR X (compareOp .Gt) (rI0 λ i j => .bl (decide (j < i))) := opB0 λ _ _ _ _ _ _ _ q => gt_int q
theorem op_ge : OpR X (compareOp .GtE) (rI0 λ i j => .bl (decide (j <= i))) := opB0 λ _ _ _ _ _ _ _ q => ge_int q
theorem nomark (b : Expr) {op : CmpOp} (h : op ≠ .In := by decide) (h2 : op ≠ .NotIn := by decide) : behindInMarks op b = false := by
 have e1 : (op == CmpOp.In) = false := by cases op <;> first | rfl | exact absurd rfl h
 have e2 : (op == CmpOp.NotIn) = false := by cases op <;> first | rfl | exact absurd rfl h2
 cases b <;> simp [behindInMarks,e1,e2]
theorem pe_cmpR {op : CmpOp} {r : R2} (ho : OpR X (compareOp op) r) (ha : PE X a ta) (hb : PE X b tb) (hm : behindInMarks op b = false) : PE X (.Compare a [op] [b] pos) (tOp r ta tb) := by
 intro pins s σ H Q I h
 exact wpAny_Compare1 (binT ha hb I h λ v u s2 x y H2 I2 rx ry q => ho pins s2 σ H2 x y v u Q I2 rx ry q) hm
def tTest (t : TE) : TT := λ σ H Q => t σ H λ x H' => ∃ k,x = .bl k /\ Q k H'
theorem pt_cmpR {op : CmpOp} {r : R2} (ho : OpR X (compareOp op) r) (ha : PE X a ta) (hb : PE X b tb) (hm : behindInMarks op b = false) : PT X (.Compare a [op] [b] pos) (tTest (tOp r ta tb)) := by
 intro pins s σ H Q I h
 refine wpAny_isTrue_Compare1 (thn (ha pins s σ H _ I h) λ v s1 ⟨x,H1,I1,r1,q1⟩ => thn (hb pins s1 σ H1 _ I1 q1) λ u s2 ⟨y,H2,I2,r2,q2⟩ =>
  thn (ho pins s2 σ H2 x y v u _ I2 r1 r2 q2) λ c s3 ⟨z,H3,I3,r3,k,e,q3⟩ => ?_) hm
 subst e
 cases r3
 exact wpAny_truthy_bool ⟨H3,I3,q3⟩
def tChain (r r' : R2) (ta tb tc : TE) : TE := λ σ H Q => ta σ H λ x H1 => tb σ H1 λ y H2 => r x y H2 λ z H3 => ∃ k,z = .bl k /\
 (if k = true then tc σ H3 λ w' H4 => r' y w' H4 Q else Q (.bl false) H3)
theorem pt_chain {op op' : CmpOp} {r r' : R2} (ho : OpR X (compareOp op) r) (ho' : OpR X (compareOp op') r') (ha : PE X a ta) (hb : PE X b tb) (hc : PE X c tc)
 (hm : lastMarks [op,op'] [b,c] = false := by with_unfolding_all rfl) : PT X (.Compare a [op,op'] [b,c] pos) (tTest (tChain r r' ta tb tc)) := by
 intro pins s σ H Q I h
 refine isTrue_chain (thn (ha pins s σ H _ I h) λ v s1 ⟨x,H1,I1,r1,q1⟩ => test_link (thn (hb pins s1 σ H1 _ I1 q1) λ u s2 ⟨y,H2,I2,r2,q2⟩ =>
  thn (ho pins s2 σ H2 x y v u _ I2 r1 r2 q2) λ d s3 ⟨z,H3,I3,r3,k,e,q3⟩ => ?_)) hm
 subst e
 cases r3
 refine wpAny_truthy_bool ?_
 cases k with
 | false =>
  obtain ⟨k',e',q'⟩ := q3;cases e';exact ite_ff ⟨H3,I3,q'⟩
 | true =>
  refine ite_tt (test_last (thn (hc pins s3 σ H3 _ I3 q3) λ w' s4 ⟨z',H4,I4,r4,q4⟩ => thn (ho' pins s4 σ H4 y z' u w' _ I4 r2 r4 q4) λ d' s5 ⟨z2,H5,I5,r5,k2,e2,q5⟩ => ?_));subst e2;cases r5;exact wpAny_truthy_bool ⟨H5,I5,q5⟩
theorem line63 : (sizeLine : Nat) < 2 ^ 63 := by rw [sizeLine_eq]; decide
theorem op_add_str : OpR X (binaryOp .Add) (λ x y H Q => ∃ i j,x = .str i /\ y = .str j /\ i.length + j.length <= sizeLine /\ Q (.str (i ++ j)) H) := by
 intro pins s σ H x y v u Q I rx ry h
 obtain ⟨i,j,rfl,rfl,hz,q⟩ := h
 obtain ⟨t,rfl⟩ := rx
 obtain ⟨t',rfl⟩ := ry
 exact add_str (λ t' tk => ⟨.str (i ++ j),H,I.tok _,⟨_,rfl⟩,q⟩) hz
theorem vals1 {x : V} {us : List Value} (r : Vals [x] us) : ∃ u,us = [u] /\ RelV x u := by
 cases r with
 | cons r1 r2 => cases r2; exact ⟨_,rfl,r1⟩
end
structure ObjM (h : Heap) (x dx C : Addr) (mA : Str -> Option Value) : Prop where
 obj : h.get? x = some (W.instObj C dx)
 ns : h.Ns1 dx mA
 ne : dx ≠ x
theorem lookIn_ns {h : Heap} {dx : Addr} {mA : Str -> Option Value} (n : h.Ns1 dx mA) : ∃ od,h.get? dx = some od /\ ∀ name,PySem.W.lookIn name od = some (mA name) := by
 obtain ⟨o,es,ep,ho,hd,hk,_,hm⟩ := n
 refine ⟨o,ho,λ name => ?_⟩
 have e := hm name
 unfold nsFind findBy at e
 rw [<- Array.find?_toList] at e
 unfold PySem.W.lookIn
 rw [hd]
 dsimp only
 split
 . rename_i y q
   rw [q] at e;exact congrArg some e
 . rename_i q
   rw [q] at e;have a : es.toList.any (·.refKey) = false := by
    rw [List.any_eq_false];intro y hy;obtain ⟨z,t,hkey⟩ := hk y (Array.mem_toList_iff.mp hy);simp [DictEntry.refKey,hkey]
   have a' : ¬ es.toList.any (·.refKey) = true := by rw [a]; exact Bool.false_ne_true
   rw [if_neg a'];exact congrArg some e
theorem ObjM.look {h : Heap} {x dx C : Addr} {mA : Str -> Option Value} (I : ObjM h x dx C mA) : ∃ od,PySem.W.InstAt h x (W.instObj C dx) C (some od) /\ ∀ name,PySem.W.lookIn name od = some (mA name) :=
 let ⟨od,ho,hl⟩ := lookIn_ns I.ns
 ⟨od,⟨I.obj,rfl,rfl,ho⟩,hl⟩
section
variable {prog : Program} {w : World} {E : Value -> Shared -> Prop} {K : W.Frag} {x f : Addr} {mA : Str -> Option Value} {name : Str} {v : Value}
theorem get_map {expr : Bool} {Q : Value -> Shared -> Prop} (X : K.In s.heap) (I : ObjM s.heap x dx C mA) (hg : W.plainGet K C name = true) (hh : PySem.W.hasDictIn K C = true)
 (ha : W.findIn K (.ref C) name = some none) (hv : mA name = some v) (hv' : PySem.W.handedIn v = true) (h : Q v { s with toks := s.toks + 1 }) :
 wpAny (model prog w) A (getAttr (.ref x) name expr) Q E s := by
 obtain ⟨od,J,hl⟩ := I.look
 exact PySem.W.get_value X J (PySem.W.plainGet_of hg).1 (PySem.W.findObj_own hh ha rfl (by rw [hl,hv])) hv' h
theorem set_map {ns : List Str} {Q : Unit -> Shared -> Prop} (X : K.In s.heap) (I : ObjM s.heap x dx C mA)
 (hs : W.findIn K (.ref C) "__setattr__" = some (some (.builtin "object.__setattr__"))) (hp : PySem.W.plainOver K C = true) (ht : PySem.W.takerIn K C name = some none) (hh : PySem.W.hasDictIn K C = true)
 (hw : PySem.Within mA ns) (hsz : ns.length <= sizeLine)
 (h : ∀ h',ObjM h' x dx C (λ y => if y = name then some v else mA y) -> Heap.SameBut dx s.heap h' -> Q () { s with heap := h',toks := s.toks + 2 }) :
 wpAny (model prog w) A (setAttr (.ref x) name v) Q E s := by
 obtain ⟨od,J,hl⟩ := I.look
 refine PySem.W.set_plain X J hs (PySem.W.osa_open (s := { s with toks := s.toks + 1 }) (r := none) X J hp ht λ b => ?_)
 obtain ⟨cd,hc,hd'⟩ := PySem.W.any_some hh
 have hx : s.heap.get? x = some ⟨.ref C,some dx,.plain,#[]⟩ := I.obj
 refine wpAny_bind (wpAny_pure (wpAny_bind (wpAny_bind (wpAny_loadPart hx (wpAny_bind (PySem.W.Looks.here (s := { s with toks := s.toks + 1 }) (PySem.W.looks_clsIn X hc) ?_))))))
 rw [hd']
 refine wpAny_pure (a := some dx) (wpAny_bind (wpAny_pure (wpAny_bind ?_)))
 refine wpAny_nsSet1 (s := { s with toks := s.toks + 1 }) I.ns λ h' hn2 hs2 => ?_
 obtain ⟨oD,esD,epD,hoD,hdD,hcD⟩ := hn2.count (PySem.Within.cons name v hw)
 refine wpAny_bind (wpAny_lookBehind hoD (by rw [hdD]; exact pastItsLine_dict (Nat.le_trans hcD (by rw [List.length_cons]; omega))) ?_)
 exact wpAny_pure (h _ ⟨(hs2.2 _ (Ne.symm I.ne)).trans I.obj,hn2,I.ne⟩ hs2)
theorem make_map {R : Result -> Shared -> Prop} {vs : List Value} {kw : List (Str × Value)} (X : K.In s.heap) (hm : PySem.W.makesIn K C = true)
 (hi : W.findIn K (.ref C) "__init__" = some (some (.ref f))) (hf : PySem.W.typeIn K (.ref f) = some (.type "function"))
 (h : codeAny (model prog w) (A.under (.builtin "type.__call__" ⟨.ref C :: vs,kw⟩)) (.call (.ref f) ⟨.ref (s.heap.objs.size + 1) :: vs,kw⟩) (PySem.W.InitBack (s.heap.objs.size + 1) R)
  { s with heap := (s.heap.push W.emptyDict).push (W.instObj C s.heap.objs.size) }) :
 codeAny (model prog w) A (.call (.ref C) ⟨vs,kw⟩) R s := by
 obtain ⟨hh,g,d,t,os⟩ := s
 exact PySem.W.make_core (PySem.W.makes_of X hm) (PySem.W.looks_findIn X hi) (λ self => PySem.W.bind_fn X self hf) (.inl rfl) h
end
def putF (f : Str) (v : V) : List (Str × V) -> List (Str × V)
 | [] => [(f,v)]
 | (g,x) :: r => if g = f then (g,v) :: r else (g,x) :: putF f v r
theorem lookup_putF (f g : Str) (v : V) : ∀ fs : List (Str × V),(putF f v fs).lookup g = if g = f then some v else fs.lookup g
 | [] => by
  show List.lookup g [(f,v)] = _
  by_cases h : g = f
  . have hb : (g == f) = true := beq_iff_eq.mpr h;simp only [List.lookup,hb,if_pos h]
  . have hb : (g == f) = false := beq_eq_false_iff_ne.mpr h;simp only [List.lookup,hb,if_neg h]
 | (k,x) :: r => by
  have ih := lookup_putF f g v r;rw [show putF f v ((k,x) :: r) = (if k = f then (k,v) :: r else (k,x) :: putF f v r) from rfl]
  by_cases hk : k = f
  . rw [if_pos hk]
    by_cases h : g = k
    . have hb : (g == k) = true := beq_iff_eq.mpr h;simp only [List.lookup,hb,if_pos (h.trans hk)]
    . have hb : (g == k) = false := beq_eq_false_iff_ne.mpr h;simp only [List.lookup,hb,if_neg (λ e : g = f => h (e.trans hk.symm))]
  . rw [if_neg hk]
    by_cases h : g = k
    . have hb : (g == k) = true := beq_iff_eq.mpr h;simp only [List.lookup,hb,if_neg (λ e : g = f => hk (h.symm.trans e))]
    . have hb : (g == k) = false := beq_eq_false_iff_ne.mpr h;simp only [List.lookup,hb];exact ih
theorem keys_putF (f : Str) (v : V) : ∀ fs : List (Str × V),f ∈ (putF f v fs).map (·.1) /\ ∀ g,g ∈ fs.map (·.1) -> g ∈ (putF f v fs).map (·.1)
 | [] => ⟨by simp [putF],λ g h => by simp at h⟩
 | (k,x) :: r => by
  obtain ⟨i1,i2⟩ := keys_putF f v r;rw [show putF f v ((k,x) :: r) = (if k = f then (k,v) :: r else (k,x) :: putF f v r) from rfl]
  by_cases hk : k = f
  . rw [if_pos hk];subst hk;exact ⟨by simp,λ g h => by simpa using h⟩
  . rw [if_neg hk];refine ⟨?_,λ g h => ?_⟩
    . rw [List.map_cons];exact List.mem_cons_of_mem _ i1
    . rw [List.map_cons] at h ⊢
      rcases List.mem_cons.mp h with e | e
      . exact List.mem_cons.mpr (.inl e)
      . exact List.mem_cons_of_mem _ (i2 g e)
theorem length_putF (f : Str) (v : V) : ∀ fs : List (Str × V),(putF f v fs).length <= fs.length + 1
 | [] => by simp [putF]
 | (k,x) :: r => by
  have ih := length_putF f v r;rw [show putF f v ((k,x) :: r) = (if k = f then (k,v) :: r else (k,x) :: putF f v r) from rfl]
  by_cases hk : k = f
  . rw [if_pos hk,List.length_cons,List.length_cons]; omega
  . rw [if_neg hk,List.length_cons,List.length_cons]; omega
theorem RelO.some_of {v : V} {o : Option Value} (r : RelO (some v) o) : ∃ u,o = some u /\ RelV v u := by
 cases o with
 | none => exact (show False from r).elim
 | some u => exact ⟨u,rfl,r⟩
theorem handed_of {v : V} {u : Value} (r : RelV v u) : PySem.W.handedIn u = true := by
 cases v with
 | non => cases (show u = Value.none from r); rfl
 | bl b => cases (show u = Value.bool b from r); rfl
 | int i => obtain ⟨t,e⟩ := (show ∃ t,u = Value.int i t from r); cases e; rfl
 | str x => obtain ⟨t,e⟩ := (show ∃ t,u = Value.str x t from r); cases e; rfl
 | byt b => obtain ⟨t,e⟩ := (show ∃ t,u = Value.bytes b t from r); cases e; rfl
 | flt b => obtain ⟨t,e⟩ := (show ∃ t,u = Value.float b t from r); cases e; rfl
 | ref a => cases (show u = Value.ref a from r); rfl
 | ty n => cases (show u = Value.type n from r); rfl
section
variable {P : Program} {w : World} {a : Addr} {fs fs' : List (Str × V)}
theorem ins_get (hok : HOk P w H h) (e : H a = some (.ins C dx fs)) : ∃ mA,ObjM h a dx C mA /\ (∀ f,RelO (fs.lookup f) (mA f)) /\ PySem.Within mA (fs.map (·.1)) /\ fs.length <= 1000 /\ H dx = some (.own a) := by
 obtain ⟨d,z,ne,ob,mA,n,r,q⟩ := (show ObjOk P w H h a (.ins C dx fs) from hok a _ e)
 exact ⟨mA,⟨ob,n,ne⟩,r,q,z,d⟩
end
structure Cls (K : W.Frag) (C : Addr) : Prop where
 pg : W.plainGet K C Str.empty = true
 hd : PySem.W.hasDictIn K C = true
 po : PySem.W.plainOver K C = true
 sa : W.findIn K (.ref C) "__setattr__" = some (some (.builtin "object.__setattr__"))
theorem Cls.get {K : W.Frag} {C : Addr} (c : Cls K C) (f : Str) : W.plainGet K C f = true := c.pg
def NoAttr (K : W.Frag) (C : Addr) (f : Str) : Prop := W.findIn K (.ref C) f = some none
theorem NoAttr.taker {K : W.Frag} {C : Addr} {f : Str} (n : NoAttr K C f) : PySem.W.takerIn K C f = some none := by
 unfold PySem.W.takerIn
 rw [show W.findIn K (.ref C) f = some none from n]
 rfl
section
variable {σ : St} {a : Addr} {fs : List (Str × V)} {f : Str} {v : V} {E : Value -> Shared -> Prop}
theorem getattr_ok {b : Bool} {Q : Value -> Shared -> Prop} (I : Inv X pins σ H s) (e : H a = some (.ins C dx fs)) (c : Cls X.K C) (n : NoAttr X.K C f) (l : fs.lookup f = some v)
 (h : ∀ u s',Inv X pins σ H s' -> RelV v u -> Q u s') : wpAny (model X.prog X.w) A (getAttr (.ref a) f b) Q E s := by
 obtain ⟨mA,O,r,_,_,_⟩ := ins_get I.hok e
 obtain ⟨u,hu,ru⟩ := RelO.some_of (v := v) (o := mA f) (by rw [<- l]; exact r f)
 exact get_map I.kIn O (c.get f) c.hd n hu (handed_of ru) (h u _ (I.tok _) ru)
theorem setattr_ok {y : V} {u : Value} {Q : Unit -> Shared -> Prop} (I : Inv X pins σ H s) (e : H a = some (.ins C dx fs)) (c : Cls X.K C) (n : NoAttr X.K C f) (hl : fs.length < 1000) (ry : RelV y u)
 (h : ∀ s',Inv X pins σ (upd H a (.ins C dx (putF f y fs))) s' -> Q () s') : wpAny (model X.prog X.w) A (setAttr (.ref a) f u) Q E s := by
 obtain ⟨mA,O,r,wi,_,ho⟩ := ins_get I.hok e
 have hz : (fs.map (·.1)).length <= sizeLine := by rw [List.length_map,sizeLine_eq]; omega
 refine set_map I.kIn O c.sa c.po n.taker c.hd wi hz λ h' O' sb => h _ ?_
 have hd : ∃ o,h'.get? dx = some o := let ⟨o,_,_,e',_⟩ := O'.ns; ⟨o,e'⟩
 refine I.write (x := a) (e := dx) (by rw [e]; exact True.intro) (.inr ho) (λ b q hb z => (sb.2 b hb).trans z) hd ?_
 refine ⟨by rw [upd_ne O.ne]; exact ho,?_,O.ne,O'.obj,_,O'.ns,λ g => ?_,λ g hg => ?_⟩
 . have := length_putF f y fs; omega
 . show RelO ((putF f y fs).lookup g) (if g = f then some u else mA g)
   rw [lookup_putF]
   by_cases q : g = f
   . rw [if_pos q,if_pos q]; exact ry
   . rw [if_neg q,if_neg q]; exact r g
 . by_cases q : g = f
   . rw [q]; exact (keys_putF f y fs).1
   . refine (keys_putF f y fs).2 g (wi g λ z => hg ?_);show (if g = f then some u else mA g) = none;rw [if_neg q]; exact z
theorem Inv.made (I : Inv X pins σ H s) : Inv X pins σ (upd (upd H s.heap.objs.size (.own (s.heap.objs.size + 1))) (s.heap.objs.size + 1) (.ins C s.heap.objs.size []))
 { s with heap := (s.heap.push W.emptyDict).push (W.instObj C s.heap.objs.size) } := by
 have e1 : (s.heap.push W.emptyDict).get? s.heap.objs.size = some W.emptyDict := Heap.get?_push_size s.heap rfl
 have e2 : ((s.heap.push W.emptyDict).push (W.instObj C s.heap.objs.size)).get? (s.heap.objs.size + 1) = some (W.instObj C s.heap.objs.size) := by
  have := Heap.get?_push_size (s.heap.push W.emptyDict) (o := W.instObj C s.heap.objs.size) rfl
  rwa [Heap.size_push] at this
 have e3 : (s.heap.push W.emptyDict).Ns s.heap.objs.size (λ _ => none) := ⟨W.emptyDict,#[],_,e1,rfl,(λ e he => absurd he (by simp)),λ _ => rfl⟩
 have I1 := I.laid (a := s.heap.objs.size) (o := .own (s.heap.objs.size + 1)) (h' := s.heap.push W.emptyDict) (t' := s.toks) (λ b u q => Heap.get?_push_of_some _ q) (Nat.le_refl _) ⟨_,e1⟩
 refine I1.laid (a := s.heap.objs.size + 1) (o := .ins C s.heap.objs.size []) (t' := s.toks) (λ b u q => Heap.get?_push_of_some _ q) (Nat.le_of_eq (Heap.size_push _ _)) ?_
 have ne : s.heap.objs.size ≠ s.heap.objs.size + 1 := Nat.ne_of_lt (Nat.lt_succ_self _)
 refine ⟨by rw [upd_ne ne,upd_same],Nat.zero_le _,ne,e2,λ _ => none,(Heap.Ns1.of_empty e3).at λ o q => Heap.get?_push_of_some _ q,λ _ => True.intro,λ y hy => absurd rfl hy⟩
theorem attr_of {prog : Program} {w : World} {env : Env} {e : Expr} {f : Str} {pos : Pos} {s : Shared} {Q : Value -> Shared -> Prop} (hb : attributeBase e f env (eval e env) = eval e env)
 (h : wpAny (model prog w) A (eval e env) (λ o s₁ => wpAny (model prog w) A (getAttr o f true) Q E s₁) E s) : wpAny (model prog w) A (eval (.Attribute e f pos) env) Q E s :=
 Attribute_any_ h (by rw [arm_eval_Attribute,hb])
end
def tFld (K : W.Frag) (ta : TE) (f : Str) : TE := λ σ H Q => ta σ H λ x H1 => ∃ a C dx fs v,x = .ref a /\ H1 a = some (.ins C dx fs) /\ Cls K C /\ NoAttr K C f /\ fs.lookup f = some v /\ Q v H1
def sFld (K : W.Frag) (ta tv : TE) (f : Str) : TS := λ D σ H => tv σ H λ y H1 => ta σ H1 λ x H2 => ∃ a C dx fs,x = .ref a /\ H2 a = some (.ins C dx fs) /\ Cls K C /\ NoAttr K C f /\ fs.length < 1000 /\
 D.nx σ (upd H2 a (.ins C dx (putF f y fs)))
section
variable {o e value : Expr} {f : Str} {pos' tpos : Pos} {tv : TE}
theorem pe_fld (he : PE X e ta) (hb : attributeBase e f X.env (eval e X.env) = eval e X.env) : PE X (.Attribute e f pos) (tFld X.K ta f) := by
 intro pins s σ H Q I h
 refine attr_of hb (thn (he pins s σ H _ I h) λ u s1 ⟨x,H1,I1,rx,a,C,dx,fs,v,ex,ea,c,n,l,q⟩ => ?_)
 subst ex
 obtain rfl : u = Value.ref a := rx
 exact getattr_ok I1 ea c n l λ u' s2 I2 ru => ⟨v,H1,I2,ru,q⟩
theorem ps_fld (ha : PE X o ta) (hv : PE X value tv) (hs : swapsWith value (some (.Attribute o f pos')) pos.line X.env = pure false) : PS X (.Assign [.Attribute o f pos'] value pos) (sFld X.K ta tv f) := by
 intro pins s σ H D I h
 refine plainObj_wpAny_Assign_Attribute (thn (hv pins s σ H _ I h) λ u s1 ⟨y,H1,I1,ry,q⟩ => thn (ha pins s1 σ H1 _ I1 q) λ ov s2 ⟨x,H2,I2,rx,a,C,dx,fs,ex,ea,c,n,l,q2⟩ => ?_) hs
 subst ex
 obtain rfl : ov = Value.ref a := rx
 exact setattr_ok I2 ea c n l ry λ s3 I3 => ⟨σ,_,I3,q2⟩
end
section
variable {σ : St} {E : Value -> Shared -> Prop} {Q : Value -> Shared -> Prop} {c : Value} {b : Bool}
inductive TyOf (K : W.Frag) (H : Hp) : V -> Value -> Prop where
 | non : TyOf K H .non (.type "NoneType")
 | bl (x : Bool) : TyOf K H (.bl x) (.type "bool")
 | int (i : Int) : TyOf K H (.int i) (.type "int")
 | str (x : Str) : TyOf K H (.str x) (.type "str")
 | flt (x : UInt64) : TyOf K H (.flt x) (.type "float")
 | lst {a : Addr} {xs : List V} (e : H a = some (.lst xs)) : TyOf K H (.ref a) (.type "list")
 | frz {a : Addr} {o : Obj} {xs : List V} (e : H a = some (.frz o (.lst xs))) : TyOf K H (.ref a) (.type "list")
 | tup {a : Addr} {xs : List V} (e : H a = some (.tup xs)) : TyOf K H (.ref a) (.type "tuple")
 | dK {a : Addr} {kvs : List (Key × V)} (e : H a = some (.dK kvs)) : TyOf K H (.ref a) (.type "dict")
 | dT {a : Addr} {kvs : List (List Key × V)} (e : H a = some (.dT kvs)) : TyOf K H (.ref a) (.type "dict")
 | ins {a C dx : Addr} {fs : List (Str × V)} (e : H a = some (.ins C dx fs)) (cl : Cls K C) (ha : W.findIn K (.ref C) "__class__" = some (some (.builtin "object.__class__")))
  (hn : PySem.W.specialIn K (.builtin "object.__class__") "__get__" = some (some (.builtin "getset_descriptor.__get__"))) (htk : PySem.W.takesIn K (.builtin "object.__class__") = some true)
  (hm : PySem.W.mroIn K C (.type "object") = some true) : TyOf K H (.ref a) (.ref C)
theorem isinst_ok {x : V} {u t : Value} (I : Inv X pins σ H s) (rx : RelV x u) (ty : TyOf X.K H x t) (e : W.kitOne X.K t c = some b) (h : ∀ tk,Q (.bool b) { s with toks := tk }) :
 wpAny (model X.prog X.w) A (call (.builtin "isinstance") [u,c]) Q E s := by
 cases ty with
 | non => cases (show u = Value.none from rx); exact PySem.W.kia_one PySem.W.kitx_none I.kIn True.intro e (λ z => nomatch z) h
 | bl y => cases (show u = Value.bool y from rx); exact PySem.W.kia_one PySem.W.kitx_bool I.kIn True.intro e (λ z => nomatch z) h
 | int i => obtain ⟨t,q⟩ := (show ∃ t,u = Value.int i t from rx); cases q; exact PySem.W.kia_one PySem.W.kitx_int I.kIn True.intro e (λ z => nomatch z) h
 | str y => obtain ⟨t,q⟩ := (show ∃ t,u = Value.str y t from rx); cases q; exact PySem.W.kia_one PySem.W.kitx_str I.kIn True.intro e (λ z => nomatch z) h
 | flt y => obtain ⟨t,q⟩ := (show ∃ t,u = Value.float y t from rx); cases q; exact PySem.W.kia_one PySem.W.kitx_float I.kIn True.intro e (λ z => nomatch z) h
 | @lst a xs ea =>
  cases (show u = Value.ref a from rx);obtain ⟨_,_,n,_,h1⟩ := (show ObjOk X.prog X.w H s.heap a (.lst xs) from I.hok a _ ea);exact PySem.W.kia_one PySem.W.kitx_list I.kIn ⟨_,h1,rfl⟩ e (λ z => nomatch z) h
 | @frz a ob xs ea =>
  cases (show u = Value.ref a from rx);obtain ⟨_,_,_,n,_,h1⟩ := (show ObjOk X.prog X.w H s.heap a (.frz ob (.lst xs)) from I.hok a _ ea);exact PySem.W.kia_one PySem.W.kitx_list I.kIn ⟨_,h1,rfl⟩ e (λ z => nomatch z) h
 | @tup a xs ea =>
  cases (show u = Value.ref a from rx);obtain ⟨_,_,_,p⟩ := (show ObjOk X.prog X.w H s.heap a (.tup xs) from I.hok a _ ea);obtain ⟨o,h1,h2,_⟩ := p;exact PySem.W.kia_one PySem.W.kitx_tuple I.kIn ⟨o,h1,h2⟩ e (λ z => nomatch z) h
 | @dK a kvs ea =>
  cases (show u = Value.ref a from rx);obtain ⟨_,_,vs,_,p⟩ := (show ObjOk X.prog X.w H s.heap a (.dK kvs) from I.hok a _ ea);obtain ⟨o,es,ep,h1,h2,_⟩ := p;exact PySem.W.kia_one PySem.W.kitx_dict I.kIn ⟨o,h1,h2.1⟩ e (λ z => nomatch z) h
 | @dT a kvs ea =>
  cases (show u = Value.ref a from rx);obtain ⟨_,_,xs,_,o,es,ep,h1,h2,_⟩ := (show ObjOk X.prog X.w H s.heap a (.dT kvs) from I.hok a _ ea);exact PySem.W.kia_one PySem.W.kitx_dict I.kIn ⟨o,h1,h2.1⟩ e (λ z => nomatch z) h
 | @ins a C dx fs ea cl ha hn htk hm =>
  cases (show u = Value.ref a from rx);obtain ⟨mA,O,_⟩ := ins_get I.hok ea;obtain ⟨od,J,_⟩ := O.look;exact PySem.W.kia_one (PySem.W.kitx_own (cl.get _) cl.hd ha hn htk hm) I.kIn J e (λ z => nomatch z) h
end
structure Room (k : Nat) (A : Around) : Prop where
 hd : A.handled = none
 dp : A.depth + 3 * k + 5 < recursionLimit
 un : A.units + 16 * k + 200 < cLine
 gd : A.guards = some []
theorem Room.mono {j k : Nat} {A : Around} (r : Room k A) (h : j <= k) : Room j A := ⟨r.hd,Nat.lt_of_le_of_lt (Nat.add_le_add_right (Nat.add_le_add_left (Nat.mul_le_mul_left 3 h) _) 5) r.dp,Nat.lt_of_le_of_lt (Nat.add_le_add_right (Nat.add_le_add_left (Nat.mul_le_mul_left 16 h) _) 200) r.un,r.gd⟩
theorem lt3 {a k b c d m n : Nat} (z : c + d <= m) (h : a + m * (k + 1) + b < n) : a + c + m * k + b < n := by
 refine Nat.lt_of_le_of_lt (Nat.add_le_add_right ?_ b) h
 rw [Nat.mul_succ,Nat.add_assoc a,Nat.add_comm c]
 exact Nat.add_le_add_left (Nat.add_le_add_left (Nat.le_trans (Nat.le_add_right _ _) z) _) a
theorem Room.deeper {k : Nat} {A : Around} (r : Room (k + 1) A) (env : Env) : Room k (A.deeper env) :=
 ⟨r.hd,lt3 (d := 0) (by decide) r.dp,lt3 (d := 0) (by decide) r.un,r.gd⟩
theorem make_depth {A : Around} {C : Addr} {us : List Value} {kw : List (Str × Value)} : (A.under (.builtin "type.__call__" ⟨.ref C :: us,kw⟩)).depth = A.depth + 1 := by
 first | rfl | simp [Around.under,Code.weight,Code.isCreation,Code.isGuard,Code.isCaller,Code.frames,Code.isFrame,guardIds]
theorem make_units {A : Around} {C : Addr} {us : List Value} {kw : List (Str × Value)} : (A.under (.builtin "type.__call__" ⟨.ref C :: us,kw⟩)).units = A.units + 1 := by
 first | rfl | simp [Around.under,Code.cUnits,Code.frames,Code.isFrame]
theorem make_guards {A : Around} {C : Addr} {us : List Value} {kw : List (Str × Value)} : (A.under (.builtin "type.__call__" ⟨.ref C :: us,kw⟩)).guards = A.guards := by
 first | rfl | simp [Around.under,Code.guards,Code.isGuard,pushGuards,guardIds]
theorem Room.make {k : Nat} {A : Around} (r : Room (k + 1) A) (C : Addr) (us : List Value) (kw : List (Str × Value)) : Room k (A.under (.builtin "type.__call__" ⟨.ref C :: us,kw⟩)) :=
 ⟨r.hd,by have := r.dp; rw [make_depth]; omega,by have := r.un; rw [make_units]; omega,by rw [make_guards]; exact r.gd⟩
theorem Room.depth {k : Nat} {A : Around} (r : Room k A) : A.depth < recursionLimit := by have := r.dp; omega
theorem Room.units {k : Nat} {A : Around} (r : Room k A) : A.units + 64 < cLine := by have := r.un; omega
def tNil : TA := λ _ H Q => Q [] H
def tCons (ta : TE) (tr : TA) : TA := λ σ H Q => ta σ H λ x H1 => tr σ H1 λ xs H2 => Q (x :: xs) H2
section
variable {e : Expr} {t : TA}
theorem pa_nil : PA X [] tNil := λ _ _ _ _ H Q I h => Calls.spliced_nil ⟨[],H,I,.nil,h⟩
theorem pa_cons (ha : PE X e te) (hr : PA X es t) (hs : starEach (e :: es) X.env = (false,eval e X.env) :: starEach es X.env := by rfl) : PA X (e :: es) (tCons te t) := by
 intro pos pins s σ H Q I h
 rw [hs]
 show wpAny _ _ (spliced ((false,eval e X.env) :: backTo pos (starEach es X.env))) _ _ s
 refine Calls.spliced_cons (thn (ha pins s σ H _ I h) λ u s1 ⟨x,H1,I1,r1,q1⟩ => ?_)
 exact thn (hr pos pins s1 σ H1 _ I1 q1) λ us s2 ⟨xs,H2,I2,r2,q2⟩ => ⟨x :: xs,H2,I2,.cons r1 r2,q2⟩
def tTup (t : TA) : TE := λ σ H Q => t σ H λ xs H1 => xs.length <= sizeLine /\ ∀ p,H1 p = none -> Q (.ref p) (upd H1 p (.tup xs))
def tLst (t : TA) : TE := λ σ H Q => t σ H λ xs H1 => xs.length <= sizeLine /\ ∀ p,H1 p = none -> Q (.ref p) (upd H1 p (.lst xs))
theorem pe_tup {x1} (h : PA X es t) : PE X (.Tuple es x1 pos) (tTup t) := by
 intro pins s σ H Q I hq
 refine wpAny_Tuple_spliced (thn (h pos pins s σ H _ I hq) λ us s1 ⟨xs,H1,I1,r,z,q⟩ => ⟨by rw [<- r.length]; exact z,?_⟩)
 have hf : H1 s1.heap.objs.size = none := I1.hok.fresh (Nat.le_refl _)
 refine ⟨.ref s1.heap.objs.size,upd H1 s1.heap.objs.size (.tup xs),I1.laid (t' := s1.toks) (λ b u e => Heap.get?_push_of_some _ e) (Nat.le_refl _) ?_,rfl,q _ hf⟩
 exact ⟨z,us,r,⟨_,Heap.get?_push_size _ rfl,rfl,_,rfl⟩⟩
theorem pe_lst (h : PA X es t) : PE X (.List es pos) (tLst t) := by
 intro pins s σ H Q I hq
 refine wpAny_List_spliced (thn (h pos pins s σ H _ I hq) λ us s1 ⟨xs,H1,I1,r,z,q⟩ => ⟨by rw [<- r.length]; exact z,?_⟩)
 have hf : H1 s1.heap.objs.size = none := I1.hok.fresh (Nat.le_refl _)
 refine ⟨.ref s1.heap.objs.size,upd H1 s1.heap.objs.size (.lst xs),I1.laid (t' := s1.toks) (λ b u e => Heap.get?_push_of_some _ e) (Nat.le_refl _) ?_,rfl,q _ hf⟩
 exact ⟨z,us,0,r,Heap.get?_push_size _ rfl⟩
end
abbrev Sp := List V -> Hp -> VK -> XK -> Prop
abbrev CXT := List Env -> Hp -> Shared -> XK -> Value -> Shared -> Prop
structure Env0 (P : Program) (w : World) (K : W.Frag) (mg : Str -> Option Value) (base : Heap) (A : Around) (outer : List Env) (s : Shared) (H : Hp) : Prop where
 frames : A.frames = some outer
 mod : Mod K mg base
 bs : ∀ b o,base.get? b = some o -> s.heap.get? b = some o /\ H b = none
 bsz : base.objs.size <= s.heap.objs.size
 funs : s.heap.FunFrames base outer
 frf : ∀ b ∈ frs outer,H b = none
 hok : HOk P w H s.heap
 bare : AllBare s.gens
def CE (outer : List Env) (P : Program) (w : World) (H : Hp) (s : Shared) (Q : VK) (u : Value) (s' : Shared) : Prop :=
 ∃ v H',s'.os = s.os /\ AllBare s'.gens /\ Un (frs outer) [] H H' s.heap s'.heap /\ HOk P w H' s'.heap /\ RelV v u /\ Q v H'
def CR (CX : CXT) (outer : List Env) (P : Program) (w : World) (H : Hp) (s : Shared) (Q : VK) (E : XK) (r : Result) (s' : Shared) : Prop :=
 match r with
 | .ok (.ret u) => CE outer P w H s Q u s'
 | .ok _ => False
 | .error e => CX outer H s E e s'
structure FnOk (P : Program) (w : World) (K : W.Frag) (mg : Str -> Option Value) (base : Heap) (CX : CXT) (k : Nat) (f : Addr) (fd : FuncData) (ps : List Str) (sp : Sp) : Prop where
 len : ∀ vs H Q E,sp vs H Q E -> vs.length = ps.length
 run : ∀ (A : Around) (outer : List Env) (s : Shared) (H : Hp) (args : Args) (us : List Value) (vs : List V) (Q : VK) (E : XK),Room k A -> Env0 P w K mg base A outer s H -> BindsTo s fd args (ps.zip us) -> Vals vs us -> sp vs H Q E ->
  codeAny (model P w) A (.call (.ref f) args) (CR CX outer P w H s Q E) s
theorem FnOk.mono {P : Program} {w : World} {K : W.Frag} {mg : Str -> Option Value} {base : Heap} {CX : CXT} {j k : Nat} {f : Addr} {fd : FuncData} {ps : List Str} {sp : Sp} (F : FnOk P w K mg base CX j f fd ps sp) (h : j <= k) :
 FnOk P w K mg base CX k f fd ps sp := ⟨F.len,λ A outer s H args us vs Q E hr => F.run A outer s H args us vs Q E (hr.mono h)⟩
theorem Env0.make {P : Program} {w : World} {K : W.Frag} {mg : Str -> Option Value} {base : Heap} {A : Around} {outer : List Env} {s : Shared} {H : Hp} (e : Env0 P w K mg base A outer s H) (C : Addr) (us : List Value) (kw : List (Str × Value)) :
 Env0 P w K mg base (A.under (.builtin "type.__call__" ⟨.ref C :: us,kw⟩)) outer s H := ⟨by first | exact e.frames | (simpa [Around.under,Code.envs,Code.isFrame,pushEnvs] using e.frames),e.mod,e.bs,e.bsz,e.funs,e.frf,e.hok,e.bare⟩
section
variable {σ : St} {s' : Shared}
theorem Inv.env0 (I : Inv X pins σ H s) : Env0 X.prog X.w X.K X.mg X.base X.A X.stack s H :=
 ⟨I.ok.frames,I.ok.mod,I.bs,Nat.le_trans I.ok.bsz I.sz,I.stack,I.stkFree,I.hok,I.bare⟩
theorem Inv.after {Q : VK} {u : Value} (I : Inv X pins σ H s) (h : CE X.stack X.prog X.w H s Q u s') : EP X pins σ Q u s' := by
 obtain ⟨v,H',os,bare,un,hok,r,q⟩ := h
 obtain ⟨hh,g,d,t,os'⟩ := s'
 obtain rfl : os' = s.os := os
 exact ⟨v,H',I.call (h' := hh) (g' := g) (d' := d) (t' := t) (ch := []) un hok bare (λ b z => absurd z (by simp)),r,q⟩
end
def tCall (sp : Sp) (dvs : List V) (E : XK) (t : TA) : TE := λ σ H Q => t σ H λ vs H1 => sp (vs ++ dvs) H1 Q E
def tMake (C : Addr) (sp : Sp) (dvs : List V) (E : XK) (t : TA) : TE := λ σ H Q => t σ H λ vs H1 => ∀ x dx,H1 x = none -> H1 dx = none -> dx ≠ x ->
 sp (.ref x :: (vs ++ dvs)) (upd (upd H1 dx (.own x)) x (.ins C dx [])) (λ v H2 => v = .non /\ Q (.ref x) H2) E
def Binds (K : W.Frag) (fd : FuncData) (ps : List Str) (ds : List Value) : Prop :=
 ∀ (s : Shared) (us : List Value),K.In s.heap -> (us ++ ds).length = ps.length -> BindsTo s fd ⟨us,[]⟩ (ps.zip (us ++ ds))
theorem Binds.all {K : W.Frag} {fd : FuncData} {ps : List Str} (h : ∀ us : List Value,us.length = ps.length -> bindArgs fd ⟨us,[]⟩ = pure (ps.zip us)) : Binds K fd ps [] := λ s us _ hl => by
 rw [List.append_nil] at hl ⊢
 exact .of_eq (h us hl)
def Passes (CX : CXT) (X : Cx) (E : XK) : Prop := ∀ (pins : List (Addr × Obj)) (σ : St) (H : Hp) (s : Shared) (e : Value) (s' : Shared),Inv X pins σ H s -> CX X.stack H s E e s' -> X.xe e s'
section
variable {CX : CXT} {k : Nat} {f : Addr} {fd : FuncData} {ps : List Str} {sp : Sp} {dvs : List V} {ds : List Value} {E : XK} {x m : Str} {apos : Pos} {e o : Expr} {t : TA}
theorem run_fn {pins : List (Addr × Obj)} {σ : St} {H : Hp} {s : Shared} {Q : VK} {us : List Value} {vs : List V} (F : FnOk X.prog X.w X.K X.mg X.base CX k f fd ps sp) (hr : Room k X.A) (hb : Binds X.K fd ps ds) (hd : Vals dvs ds) (hx : Passes CX X E)
 (I : Inv X pins σ H s) (r : Vals vs us) (h : sp (vs ++ dvs) H Q E) : wpAny (model X.prog X.w) X.A (call (.ref f) us) (EP X pins σ Q) X.xe s := by
 have r2 : Vals (vs ++ dvs) (us ++ ds) := r.append hd
 have hl : (us ++ ds).length = ps.length := by rw [<- r2.length]; exact F.len _ _ _ _ h
 refine wpAny_call (codeAny_mono (F.run X.A X.stack s H ⟨us,[]⟩ (us ++ ds) (vs ++ dvs) Q E hr I.env0 (hb s us I.kIn hl) r2 h) λ r s' hq => ?_)
 cases r with
 | error e => exact hx pins σ H s e s' I hq
 | ok fl =>
  cases fl with
  | ret u => exact I.after hq
  | next => exact False.elim hq
  | brk => exact False.elim hq
  | cont => exact False.elim hq
theorem pe_call (F : FnOk X.prog X.w X.K X.mg X.base CX k f fd ps sp) (hr : Room k X.A) (hg : Gl X x) (hm : X.mg x = some (.ref f)) (hk : W.keepIn X.K (.ref f) = true) (hb : Binds X.K fd ps ds) (hd : Vals dvs ds) (hx : Passes CX X E)
 (ha : PA X (e :: es) t) (hdb : (x == ("__debug__" : Str)) = false := by decide) (he : starEach (e :: es) X.env = (false,eval e X.env) :: starEach es X.env := by rfl) (hpl : (backTo pos (starEach es X.env)).any (·.1) = false := by rfl) :
 PE X (.Call (.Name x p) (e :: es) [] pos) (tCall sp dvs E t) := by
 intro pins s σ H Q I h
 refine wpAny_Call_Name_kw (ld_glob I hg hm ?_ hdb)
 refine PySem.W.callWith_K (h₀ := X.base) I.ok.mod.kin hk (thn (ha pos pins s σ H _ I h) λ us s1 ⟨vs,H1,I1,r,q⟩ => ⟨I1.kIn,?_⟩) he hpl
 exact run_fn F hr hb hd hx I1 r q
structure Mk (K : W.Frag) (C f : Addr) : Prop where
 makes : PySem.W.makesIn K C = true
 init : W.findIn K (.ref C) "__init__" = some (some (.ref f))
 fn : W.isFn K (.ref f) = true
 kp : W.keepIn K (.ref C) = true
theorem run_make {pins : List (Addr × Obj)} {σ : St} {H : Hp} {s : Shared} {Q : VK} {us : List Value} {vs : List V} (M : Mk X.K C f) (F : FnOk X.prog X.w X.K X.mg X.base CX k f fd ps sp) (hr : Room (k + 1) X.A) (hb : Binds X.K fd ps ds) (hd : Vals dvs ds)
 (hx : Passes CX X E) (I : Inv X pins σ H s) (r : Vals vs us)
 (h : ∀ x dx,H x = none -> H dx = none -> dx ≠ x -> sp (.ref x :: (vs ++ dvs)) (upd (upd H dx (.own x)) x (.ins C dx [])) (λ v H2 => v = .non /\ Q (.ref x) H2) E) :
 wpAny (model X.prog X.w) X.A (call (.ref C) us) (EP X pins σ Q) X.xe s := by
 have hq := h (s.heap.objs.size + 1) s.heap.objs.size (I.hok.fresh (Nat.le_succ _)) (I.hok.fresh (Nat.le_refl _)) (Nat.ne_of_lt (Nat.lt_succ_self _))
 have I2 := Inv.made (C := C) I
 have r2 : Vals (V.ref (s.heap.objs.size + 1) :: (vs ++ dvs)) (Value.ref (s.heap.objs.size + 1) :: (us ++ ds)) := .cons rfl (r.append hd)
 have hl : (Value.ref (s.heap.objs.size + 1) :: us ++ ds).length = ps.length := by
  have e := r2.length;rw [F.len _ _ _ _ hq] at e;exact e.symm
 refine wpAny_call (make_map (f := f) I.kIn M.makes M.init (beq_iff_eq.mp M.fn) (codeAny_mono (F.run _ X.stack _ _ ⟨Value.ref (s.heap.objs.size + 1) :: us,[]⟩ (Value.ref (s.heap.objs.size + 1) :: (us ++ ds)) _ _ E (hr.make C us [])
  (I2.env0.make C us []) (hb _ (Value.ref (s.heap.objs.size + 1) :: us) I2.kIn hl) r2 hq) λ r s' hq' => ?_))
 cases r with
 | error e => exact hx pins σ _ _ e s' I2 hq'
 | ok fl =>
  cases fl with
  | ret u =>
   obtain ⟨v,H',I3,rv,ev,q3⟩ := I2.after hq';subst ev;exact ⟨rv,⟨V.ref (s.heap.objs.size + 1),H',I3,rfl,q3⟩⟩
  | next => exact False.elim hq'
  | brk => exact False.elim hq'
  | cont => exact False.elim hq'
theorem pe_make (M : Mk X.K C f) (F : FnOk X.prog X.w X.K X.mg X.base CX k f fd ps sp) (hr : Room (k + 1) X.A) (hg : Gl X x) (hm : X.mg x = some (.ref C)) (hb : Binds X.K fd ps ds) (hd : Vals dvs ds) (hx : Passes CX X E)
 (ha : PA X (e :: es) t) (hdb : (x == ("__debug__" : Str)) = false := by decide) (he : starEach (e :: es) X.env = (false,eval e X.env) :: starEach es X.env := by rfl) (hpl : (backTo pos (starEach es X.env)).any (·.1) = false := by rfl) :
 PE X (.Call (.Name x p) (e :: es) [] pos) (tMake C sp dvs E t) := by
 intro pins s σ H Q I h
 refine wpAny_Call_Name_kw (ld_glob I hg hm ?_ hdb)
 refine PySem.W.callWith_K (h₀ := X.base) I.ok.mod.kin M.kp (thn (ha pos pins s σ H _ I h) λ us s1 ⟨vs,H1,I1,r,q⟩ => ⟨I1.kIn,?_⟩) he hpl
 exact run_make M F hr hb hd hx I1 r q
end
section
variable {CX : CXT} {k : Nat} {f : Addr} {fd : FuncData} {ps ks : List Str} {sp : Sp} {E : XK} {x m : Str} {apos kpos : Pos} {e o : Expr} {kws : List Keyword} {t tk : TA} {nm : Option Str}
variable {g : List Value -> List Value -> List Value} {gV : List V -> List V -> List V}
end
structure FnScope (N P : List Str) (sc : Scope) : Prop where
 kind : sc.kind = .function
 co : sc.isCoroutine = false
 gen : sc.isGenerator = false
 nd : N.Nodup
 pre : N.take P.length = P
 par : ∀ x ∈ P,sc.names.lookup x = some .local \/ sc.names.lookup x = some .cell
 nofree : ∀ y ∈ sc.names,y.2 ≠ .free
theorem FnScope.of {N P : List Str} {sc : Scope} (a : sc.kind = .function) (b : sc.isCoroutine = false) (c : sc.isGenerator = false) (d : N.take P.length = P) (h : N.Nodup ∧ (∀ x ∈ P,sc.names.lookup x = some .local ∨ sc.names.lookup x = some .cell) ∧ ∀ y ∈ sc.names,y.2 ≠ .free) : FnScope N P sc := ⟨a,b,c,h.1,d,h.2.1,h.2.2⟩
theorem bindL_out {kindOf : Str -> Option NameKind} {x : Str} : ∀ {binds : List (Str × Value)} {m : Str -> Option Value},(∀ v,(x,v) ∉ binds) -> bindL kindOf binds m x = m x
 | [],_,_ => rfl
 | (n,v) :: r,m,h => by
  unfold bindL;rw [bindL_out λ w hw => h w (List.mem_cons_of_mem _ hw)]
  split
  . have : x ≠ n := by rintro rfl; exact h v List.mem_cons_self
    simp [this]
  . rfl
theorem bindC_out {kindOf : Str -> Option NameKind} {x : Str} : ∀ {binds : List (Str × Value)} {m : Str -> Option Value},(∀ v,(x,v) ∉ binds) -> bindC kindOf binds m x = m x
 | [],_,_ => rfl
 | (n,v) :: r,m,h => by
  unfold bindC;rw [bindC_out λ w hw => h w (List.mem_cons_of_mem _ hw)]
  split
  . rfl
  . have : x ≠ n := by rintro rfl; exact h v List.mem_cons_self
    simp [this]
theorem bindL_get {kindOf : Str -> Option NameKind} {x : Str} {v : Value} : ∀ {P : List Str} {vs : List Value} {i : Nat} {m : Str -> Option Value},P.Nodup -> P[i]? = some x -> vs[i]? = some v -> kindOf x = some .local ->
 bindL kindOf (P.zip vs) m x = some v
 | [],_,_,_,_,h,_,_ => by simp at h
 | _ :: _,[],_,_,_,_,h,_ => by simp at h
 | p :: P,w :: vs,0,m,nd,h1,h2,hk => by
  simp at h1 h2; subst h1; subst h2;show bindL kindOf ((p,w) :: P.zip vs) m p = _;unfold bindL;rw [bindL_out λ v hv => (List.nodup_cons.mp nd).1 (List.of_mem_zip hv).1,if_pos hk];simp
 | p :: P,w :: vs,i + 1,m,nd,h1,h2,hk => by
  show bindL kindOf ((p,w) :: P.zip vs) m x = _
  unfold bindL;exact bindL_get (i := i) (List.nodup_cons.mp nd).2 (by simpa using h1) (by simpa using h2) hk
theorem bindC_get {kindOf : Str -> Option NameKind} {x : Str} {v : Value} : ∀ {P : List Str} {vs : List Value} {i : Nat} {m : Str -> Option Value},P.Nodup -> P[i]? = some x -> vs[i]? = some v -> kindOf x ≠ some .local ->
 bindC kindOf (P.zip vs) m x = some v
 | [],_,_,_,_,h,_,_ => by simp at h
 | _ :: _,[],_,_,_,_,h,_ => by simp at h
 | p :: P,w :: vs,0,m,nd,h1,h2,hk => by
  simp at h1 h2; subst h1; subst h2;show bindC kindOf ((p,w) :: P.zip vs) m p = _;unfold bindC;rw [bindC_out λ v hv => (List.nodup_cons.mp nd).1 (List.of_mem_zip hv).1,if_neg hk];simp
 | p :: P,w :: vs,i + 1,m,nd,h1,h2,hk => by
  show bindC kindOf ((p,w) :: P.zip vs) m x = _
  unfold bindC;exact bindC_get (i := i) (List.nodup_cons.mp nd).2 (by simpa using h1) (by simpa using h2) hk
def start (N : List Str) (vs : List V) : St := vs.map some ++ List.replicate (N.length - vs.length) none
def cxOf (CX : CXT) (P : Program) (w : World) (K : W.Frag) (mg : Str -> Option Value) (base : Heap) (N : List Str) (qual : Str) (scope : Scope) (f : Addr) (cd : Value) (A : Around) (outer : List Env) (s : Shared) (H : Hp) (E : XK) : Cx where
 prog := P
 w := w
 K := K
 mg := mg
 base := base
 A := A.deeper (envOfC qual scope s.heap.objs.size f cd)
 N := N
 s₀ := s
 H₀ := H
 env := envOfC qual scope s.heap.objs.size f cd
 outer := outer
 stack := envOfC qual scope s.heap.objs.size f cd :: outer
 ex := []
 calm := true
 fn := λ _ => true
 pn := []
 xe := λ e s' => wpAny (model P w) (A.deeper (envOfC qual scope s.heap.objs.size f cd)) (leaving (envOfC qual scope s.heap.objs.size f cd) e) (λ _ s'' => CX outer H s E e s'') (λ e' s'' => CX outer H s E e' s'') s'
theorem cell_has {sc : Scope} {n : Nat} {x : Str} (h : sc.names.lookup x = some .cell) : ∃ c,(cellsFrom n sc.names []).lookup x = some c := by
 have q := PySem.W.cellsFrom_some sc.names n [] (.inl h)
 exact Option.isSome_iff_exists.mp q
theorem inv_start {CX : CXT} {P : Program} {w : World} {K : W.Frag} {mg : Str -> Option Value} {base : Heap} {N ps : List Str} {qual : Str} {scope : Scope} {f : Addr} {cd : Value} {A : Around} {outer : List Env} {s s1 : Shared} {H : Hp} {E : XK} {us : List Value} {vs : List V}
 (S : FnScope N ps scope) (hd : A.handled = none) (e0 : Env0 P w K mg base A outer s H) (hl : vs.length = ps.length) (r : Vals vs us)
 (x : InCallC s s.heap.objs.size (bindL (envOfC qual scope s.heap.objs.size f cd).kindOf (ps.zip us) λ _ => none) (cellsFrom (s.heap.objs.size + 1) scope.names []) (bindC (envOfC qual scope s.heap.objs.size f cd).kindOf (ps.zip us) λ _ => none) s1) :
 Inv (cxOf CX P w K mg base N qual scope f cd A outer s H E) [] (start N vs) H s1 := by
 have hpl : ps.length <= N.length := by have := congrArg List.length S.pre; rw [List.length_take] at this; omega
 obtain ⟨h1,tk,rfl,hk⟩ := x.done
 have noA : ∀ b : Addr,b ∉ (cxOf CX P w K mg base N qual scope f cd A outer s H E).ex := λ b z => absurd (show b ∈ ([] : List Addr) from z) (by simp)
 refine ⟨⟨e0.mod,S.kind,rfl,rfl,Nat.le_refl _,λ y z c h1 h2 => ?_,λ y hy => ?_,λ y c _ h => ?_,λ _ => hd,Around.frames_deeper e0.frames,.inr ⟨rfl,rfl⟩,λ b z => absurd z (noA b),e0.bs,e0.bsz,λ b _ _ => noA b,λ b z => absurd z (noA b),e0.funs,e0.frf⟩,
  rfl,e0.bare,Un.kept hk,⟨_,x.toInCall.ns,λ i y v h1 h2 h3 => ?_⟩,λ y c h => ⟨_,x.cell y c h⟩,e0.hok.fresh (Nat.le_refl _),λ y c h => ?_,λ p hp => absurd (show p ∈ ([] : List (Addr × Obj)) from hp) (by simp),e0.hok.kept hk,?_⟩
 . exact name_of_addr x.apart (PySem.mem_of_lookup h1) (PySem.mem_of_lookup h2)
 . have hy : scope.names.lookup y = some .cell \/ scope.names.lookup y = some .free := hy
   rcases hy with hy | hy
   . exact cell_has hy
   . exact absurd rfl (S.nofree _ (PySem.mem_of_lookup hy))
 . exact Nat.le_of_lt (x.above y c (PySem.mem_of_lookup h))
 . have hi : i < vs.length := by
    unfold start at h2
    by_cases hi : i < vs.length
    . exact hi
    . rw [List.getElem?_append_right (by simpa using hi)] at h2;rw [List.getElem?_replicate] at h2
      split at h2 <;> cases h2
   have ha : vs[i]? = some v := by
    unfold start at h2;rw [List.getElem?_append_left (by simpa using hi),List.getElem?_map] at h2;cases e : vs[i]? with
    | none => rw [e] at h2; cases h2
    | some a => rw [e] at h2; cases h2; rfl
   obtain ⟨u,hu,rv⟩ := r.get ha;have hp : ps[i]? = some y := by
    rw [<- S.pre,List.getElem?_take_of_lt (by omega)]; exact h1
   have ndP : ps.Nodup := by rw [<- S.pre]; exact S.nd.sublist (List.take_sublist _ _)
   refine ⟨u,rv,?_⟩
   rcases S.par y (List.mem_of_getElem? hp) with k | k
   . exact .inl ⟨k,bindL_get ndP hp hu k⟩
   . obtain ⟨c,e⟩ := cell_has (n := s.heap.objs.size + 1) k;refine .inr ⟨.inl k,c,e,?_⟩;have q := x.cell y c e;rw [bindC_get ndP hp hu (by show scope.names.lookup y ≠ _; rw [k]; decide)] at q;exact q
 . exact e0.hok.fresh (Nat.le_of_lt (x.above y c (PySem.mem_of_lookup h)))
 . unfold start;show _ = N.length;rw [List.length_append,List.length_map,List.length_replicate];omega
theorem fn_of {CX : CXT} {P : Program} {w : World} {K : W.Frag} {mg : Str -> Option Value} {base : Heap} {k : Nat} {f : Addr} {name qual : Str} {params : Arguments} {body : List Stmt} {scope : Scope} {dV kV doc pm cdv ct oc : Value} {an od : Option Addr}
 {osl : Array (Option Value)} {N ps : List Str} {sp : Sp} (lk : K.lookup f = some ⟨oc,od,.func (PySem.W.fnOf name qual params body scope dV kV doc pm an cdv ct),osl⟩) (hcd : PySem.W.codeIn K cdv qual = true) (S : FnScope N ps scope)
 (len : ∀ vs H Q E,sp vs H Q E -> vs.length = ps.length)
 (hbody : ∀ (A : Around) (outer : List Env) (s : Shared) (H : Hp) (vs : List V) (Q : VK) (E : XK),Room k (A.deeper (envOfC qual scope s.heap.objs.size f cdv)) -> sp vs H Q E ->
  ∃ t,PSs (cxOf CX P w K mg base N qual scope f cdv A outer s H E) body t /\ t { nx := λ _ H' => Q .non H',rt := Q } (start N vs) H) :
 FnOk P w K mg base CX (k + 1) f (PySem.W.fnOf name qual params body scope dV kV doc pm an cdv ct) ps sp := by
 refine ⟨len,λ A outer s H args us vs Q E hr e0 hb r hsp => ?_⟩
 have hl := len _ _ _ _ hsp
 have KX : K.In s.heap := e0.mod.kin.keeps λ b o e => (e0.bs b o e).1
 have lim : s.heap.NoLimit := e0.mod.nolimit.keeps λ b o e => (e0.bs b o e).1
 have hkind : ∀ y ∈ ps.zip us,scope.names.lookup y.1 = some .local \/ (scope.names.lookup y.1 = some .cell /\ ((cellsFrom (s.heap.objs.size + 1) scope.names []).lookup y.1).isSome = true) := λ ⟨n,v⟩ hy => by
  rcases S.par n (List.of_mem_zip hy).1 with q | q
  . exact .inl q
  . exact .inr ⟨q,PySem.W.cellsFrom_some _ _ _ (.inl q)⟩
 refine codeAny_call_function hr.depth (KX _ _ lk) rfl S.co S.gen rfl (PySem.W.codeRec_of KX hcd) (hb _ _ _ _ ?_)
 refine wpAny_newFunctionEnv_cells S.kind hkind λ env he s1 x => ?_
 subst he
 refine ⟨lim.keeps x.toInCall.keep,codeAny_func ?_⟩
 obtain ⟨t,ht,hq⟩ := hbody A outer s H vs Q E (hr.deeper _) hsp
 have I : Inv (cxOf CX P w K mg base N qual scope f cdv A outer s H E) [] (start N vs) H s1 := inv_start S hr.hd e0 hl r x
 refine wpAny_mono (ht [] s1 (start N vs) H _ I hq) (λ fl s' hs => ?_) λ e s' hs => hs
 have fin : ∀ {σ' : St} {H' : Hp} {v : V} {u : Value},Inv (cxOf CX P w K mg base N qual scope f cdv A outer s H E) [] σ' H' s' -> RelV v u -> Q v H' -> CE outer P w H s Q u s' :=
  λ {σ' H' v u} J rv q => ⟨v,H',J.os,J.bare,J.base,J.hok,rv,q⟩
 cases fl with
 | ret u =>
  obtain ⟨v,σ',H',J,rv,q⟩ := hs;exact fin J rv q
 | next =>
  obtain ⟨σ',H',J,q⟩ := hs;exact fin (v := V.non) (u := Value.none) J rfl q
 | brk =>
  obtain ⟨_,_,_,q⟩ := hs;exact False.elim q
 | cont =>
  obtain ⟨_,_,_,q⟩ := hs;exact False.elim q
section
variable {x : Str} {e : Expr} {t : TA} {id T : String} {r : List V -> Hp -> VK -> Prop}
def tCB (r : List V -> Hp -> VK -> Prop) (t : TA) : TE := λ σ H Q => t σ H λ vs H1 => r vs H1 Q
theorem pe_callB (hc : CallR X (.builtin id) r) (hg : Gl X x) (hm : X.mg x = none) (hv : bootBuiltins x = some (.builtin id)) (ha : PA X (e :: es) t) (hn : x ≠ "__name__" := by decide) (hdb : (x == ("__debug__" : Str)) = false := by decide)
 (he : starEach (e :: es) X.env = (false,eval e X.env) :: starEach es X.env := by rfl) (hpl : (backTo pos (starEach es X.env)).any (·.1) = false := by rfl) : PE X (.Call (.Name x p) (e :: es) [] pos) (tCB r t) := by
 intro pins s σ H Q I h
 refine wpAny_Call_Name_kw (ld_blt I hg hm hv ?_ hn hdb)
 exact PyProof.Rows.callWith_builtin1 (thn (ha pos pins s σ H _ I h) λ us s1 ⟨vs,H1,I1,r1,q1⟩ => hc pins s1 σ H1 vs us Q I1 r1 q1) he hpl
theorem pe_callTy (hc : CallR X (.type T) r) (hg : Gl X x) (hm : X.mg x = none) (hv : bootBuiltins x = some (.type T)) (ha : PA X (e :: es) t) (hn : x ≠ "__name__" := by decide) (hdb : (x == ("__debug__" : Str)) = false := by decide)
 (he : starEach (e :: es) X.env = (false,eval e X.env) :: starEach es X.env := by rfl) (hpl : (backTo pos (starEach es X.env)).any (·.1) = false := by rfl) : PE X (.Call (.Name x p) (e :: es) [] pos) (tCB r t) := by
 intro pins s σ H Q I h
 refine wpAny_Call_Name_kw (ld_blt I hg hm hv ?_ hn hdb)
 exact PyProof.Rows.callWith_type1 (thn (ha pos pins s σ H _ I h) λ us s1 ⟨vs,H1,I1,r1,q1⟩ => hc pins s1 σ H1 vs us Q I1 r1 q1) he hpl
theorem pe_callTy0 (hc : CallR X (.type T) r) (hg : Gl X x) (hm : X.mg x = none) (hv : bootBuiltins x = some (.type T)) (hn : x ≠ "__name__" := by decide) (hdb : (x == ("__debug__" : Str)) = false := by decide) :
 PE X (.Call (.Name x p) [] [] pos) (tCB r tNil) := by
 intro pins s σ H Q I h
 refine wpAny_Call_Name_kw (ld_blt I hg hm hv ?_ hn hdb)
 exact PyProof.Rows.callWith_type0 (hc pins s σ H [] [] Q I .nil h)
end
end L2
namespace HT
open PySem PyProof.Rows
section
open PySem.SeqAt
open PySem.AutoSeq1 (wpAny_loadPart')
open PySem.MeetsSeq PySem.MeetsSeq2 PySem.MeetsSeq3
end
section
variable {prog : Program} {w : World} {A : Around} {E : Value -> Shared -> Prop} {s : Shared}
end
end HT
namespace L2
open PySem PySem.Spec PyProof.Rows
variable {X : Cx}
abbrev TO := St -> Hp -> (Option Int -> Hp -> Prop) -> Prop
def PO (X : Cx) (e : Option Expr) (t : TO) : Prop :=
 ∀ (pins : List (Addr × Obj)) (s : Shared) (σ : St) (H : Hp) (Q : Option Int -> Hp -> Prop),Inv X pins σ H s -> t σ H Q ->
  wpAny (model X.prog X.w) X.A (evalPart e X.env) (λ u s' => ∃ o H',Inv X pins σ H' s' /\ IsPart u o /\ Q o H') X.xe s
def tNoPart : TO := λ _ H Q => Q none H
def tPart (t : TE) : TO := λ σ H Q => t σ H λ x H1 => ∃ i,x = .int i /\ Q (some i) H1
theorem intsAre_of {ns : List Int} : ∀ {us : List Value},Vals (ns.map V.int) us -> IntsAre us ns := by
 induction ns with
 | nil => intro us r; rw [List.map_nil] at r; cases r; exact .nil
 | cons n ns ih =>
  intro us r;rw [List.map_cons] at r;cases r with
  | cons r1 r2 =>
   obtain ⟨t,e⟩ := r1;subst e;exact .cons n t (ih r2)
section
variable {e : Expr} {te : TE} {lo hi : Option Expr} {tl th : TO} {pos p2 : Pos}
theorem po_none : PO X none tNoPart := by
 intro pins s σ H Q I h
 rw [evalPart_none]
 exact wpAny_pure ⟨none,H,I,.none,h⟩
theorem po_some (h : PE X e te) : PO X (some e) (tPart te) := by
 intro pins s σ H Q I hw
 rw [evalPart_some]
 refine thn (h pins s σ H _ I hw) λ u s1 ⟨x,H1,I1,r1,q1⟩ => ?_
 obtain ⟨i,rfl,q⟩ := q1
 obtain ⟨t,rfl⟩ := r1
 exact ⟨some i,H1,I1,.int i t,q⟩
def SlR (X : Cx) (r : V -> Option Int -> Option Int -> Hp -> VK -> Prop) : Prop :=
 ∀ (pins : List (Addr × Obj)) (s : Shared) (σ : St) (H : Hp) (x : V) (v vl vu : Value) (lo hi : Option Int) (sl : Addr) (Q : VK),Inv X pins σ H s -> RelV x v -> s.heap.IsSliceOf sl vl vu .none -> IsPart vl lo -> IsPart vu hi -> r x lo hi H Q ->
  ∃ T id,typeLookup (.type T) "__getitem__" = pure (some (.builtin id)) /\ s.TypeIs v T /\ wpAny (model X.prog X.w) X.A (getItem v (.ref sl)) (EP X pins σ Q) X.xe s
def tSl (r : V -> Option Int -> Option Int -> Hp -> VK -> Prop) (te : TE) (tl th : TO) : TE := λ σ H Q => te σ H λ x H1 => tl σ H1 λ l H2 => th σ H2 λ u H3 => r x l u H3 Q
theorem pe_slice {r : V -> Option Int -> Option Int -> Hp -> VK -> Prop} (hr : SlR X r) (he : PE X e te) (hl : PO X lo tl) (hu : PO X hi th) : PE X (.Subscript e (.Slice lo hi none p2) pos) (tSl r te tl th) := by
 intro pins s σ H Q I h
 refine Subscript_ (thn (he pins s σ H _ I h) λ v s1 ⟨x,H1,I1,r1,q1⟩ => ?_)
 refine wpAny_Slice (thn (hl pins s1 σ H1 _ I1 q1) λ vl s2 ⟨l,H2,I2,pl,q2⟩ => thn (hu pins s2 σ H2 _ I2 q2) λ vu s3 ⟨u,H3,I3,pu,q3⟩ => ?_)
 rw [evalPart_none]
 refine wpAny_pure ?_
 have I4 : Inv X pins σ H3 { s3 with heap := s3.heap.push { cls := .type "slice",data := .fields #[vl,vu,.none] } } := I3.kept (t' := s3.toks) λ b ob q => Heap.get?_push_of_some _ q
 obtain ⟨T,id,hT,ht,hg⟩ := hr pins { s3 with heap := s3.heap.push { cls := .type "slice",data := .fields #[vl,vu,.none] } } σ H3 x v vl vu l u s3.heap.objs.size Q I4 r1 (Heap.IsSliceOf.new ..) pl pu q3
 show wpAny (model X.prog X.w) X.A (subscriptTail e (.Slice lo hi none p2) v (.ref s3.heap.objs.size)) (EP X pins σ Q) X.xe { s3 with heap := s3.heap.push { cls := .type "slice",data := .fields #[vl,vu,.none] } }
 exact tail_any (ops := [.ref s3.heap.objs.size,v]) ht hT hg (by with_unfolding_all rfl)
end
def ixN (n : Nat) (i : Int) : Option Nat := if 0 <= i then (if i < n then some i.toNat else none) else if -(n : Int) <= i then some (i + n).toNat else none
def atI {α : Type} (xs : List α) (i : Int) : Option α := (ixN xs.length i).bind λ j => xs[j]?
theorem ixN_seq {n : Nat} {i : Int} {j : Nat} (h : ixN n i = some j) : seqIndex? i n = some j /\ j < n /\ -(n : Int) <= i /\ i < n := by
 unfold ixN at h
 by_cases h0 : 0 <= i
 . rw [if_pos h0] at h
   by_cases h1 : i < n
   . rw [if_pos h1] at h;have e : i.toNat = j := Option.some.inj h;exact ⟨by rw [seqIndex_of h0 h1,e],by omega,by omega,h1⟩
   . rw [if_neg h1] at h; cases h
 . rw [if_neg h0] at h
   by_cases h1 : -(n : Int) <= i
   . rw [if_pos h1] at h;have e : (i + n).toNat = j := Option.some.inj h;exact ⟨by rw [seqIndex_neg (by omega) h1,e],by omega,h1,by omega⟩
   . rw [if_neg h1] at h; cases h
theorem atI_get {α : Type} {xs : List α} {i : Int} {v : α} (h : atI xs i = some v) : ∃ j,seqIndex? i xs.length = some j /\ xs[j]? = some v /\ j < xs.length /\ -(xs.length : Int) <= i /\ i < xs.length := by
 unfold atI at h
 cases e : ixN xs.length i with
 | none => rw [e] at h; cases h
 | some j =>
  rw [e] at h;obtain ⟨h1,h2,h3,h4⟩ := ixN_seq e;exact ⟨j,h1,h,h2,h3,h4⟩
theorem atI_nat {α : Type} {xs : List α} {j : Nat} {v : α} (h : xs[j]? = some v) : atI xs (j : Int) = some v := by
 have hj : j < xs.length := (List.getElem?_eq_some_iff.mp h).1
 have e : ixN xs.length (j : Int) = some j := by
  unfold ixN;rw [if_pos (by omega),if_pos (by omega)]; simp
 unfold atI; rw [e]; exact h
theorem atI_last {α : Type} (xs : List α) (v : α) : atI (xs ++ [v]) (-1) = some v := by
 have hl : (xs ++ [v]).length = xs.length + 1 := by simp
 have e : ixN (xs ++ [v]).length (-1) = some xs.length := by
  unfold ixN;rw [hl,if_neg (by decide),if_pos (by omega)]
  congr 1
  omega
 unfold atI
 rw [e]
 show (xs ++ [v])[xs.length]? = some v
 simp
def PlainIx (b : Expr) : Prop := ∀ o i,subscripted b false o i = operate [o,i] (getItem o i)
def IxR (X : Cx) (r : R2) : Prop :=
 ∀ (value slice : Expr) (pins : List (Addr × Obj)) (s : Shared) (σ : St) (H : Hp) (x y : V) (v u : Value) (Q : VK),Inv X pins σ H s -> RelV x v -> RelV y u -> r x y H Q ->
  subscripted slice false v u = operate [v,u] (getItem v u) -> wpAny (model X.prog X.w) X.A (subscriptTail value slice v u) (EP X pins σ Q) X.xe s
def MtR (X : Cx) (id : String) (r : V -> List V -> Hp -> VK -> Prop) : Prop :=
 ∀ (pins : List (Addr × Obj)) (s : Shared) (σ : St) (H : Hp) (x : V) (xs : List V) (v : Value) (us : List Value) (Q : VK),Inv X pins σ H s -> RelV x v -> Vals xs us -> r x xs H Q ->
  wpAny (model X.prog X.w) X.A (call (.builtin id) (v :: us)) (EP X pins σ Q) X.xe s
section
variable {a b : Expr} {ta tb : TE} {pos : Pos}
theorem pe_ix {r : R2} (hr : IxR X r) (ha : PE X a ta) (hb : PE X b tb) (hs : PlainIx b) : PE X (.Subscript a b pos) (tOp r ta tb) := by
 intro pins s σ H Q I h
 exact Subscript_ (binT ha hb I h λ v u s2 x y H2 I2 rx ry q => hr a b pins s2 σ H2 x y v u Q I2 rx ry q (hs _ _))
def rIxL (K : W.Frag) : R2 := λ x y H Q => ∃ p xs i v,x = .ref p /\ y = .int i /\ SqL K H p xs /\ atI xs i = some v /\ Q v H
def rIxT (K : W.Frag) : R2 := λ x y H Q => ∃ p xs i v,x = .ref p /\ y = .int i /\ SqT K H p xs /\ atI xs i = some v /\ Q v H
def rIxS : R2 := λ x y H Q => ∃ z i c,x = .str z /\ y = .int i /\ z.length <= sizeLine /\ atI z.cps.toList i = some c /\ Q (.str ⟨#[c]⟩) H
theorem ix_list : IxR X (rIxL X.K) := by
 intro value slice pins s σ H x y v u Q I rx ry h hs
 obtain ⟨p,xs,i,z,rfl,rfl,hq,he,q⟩ := h
 cases rx
 obtain ⟨t,rfl⟩ := ry
 obtain ⟨its,r,pl,hz⟩ := I.list hq
 obtain ⟨j,h1,h2,h3,h4,h5⟩ := atI_get he
 obtain ⟨w,ew,rw'⟩ := r.get h2
 have hl := r.length
 have hn := line63
 have fin : EP X pins σ Q w s := ⟨z,H,I,rw',q⟩
 by_cases h0 : 0 <= i
 . have hj : i.toNat = j := by
    rw [seqIndex_of h0 h5] at h1;exact Option.some.inj h1
   exact item_listR pl.isList h0 (by omega) (by rw [hj]; simpa using ew) fin hs
 . have hj : (i + (its.toArray.size : Int)).toNat = j := by
    rw [seqIndex_neg (by omega) h4] at h1;rw [List.size_toArray,<- hl];exact Option.some.inj h1
   exact subscriptTail_builtinR (x := w) pl.isList.typeIs slot_list_getitem.lookup
    (wpAny_getItem_list_neg (Q := λ r s' => r = w /\ EP X pins σ Q r s') pl.isList (by omega) (by rw [List.size_toArray] <;> omega) (by omega) (by rw [hj]; simpa using ew) ⟨rfl,fin⟩) hs
theorem ix_tup : IxR X (rIxT X.K) := by
 intro value slice pins s σ H x y v u Q I rx ry h hs
 obtain ⟨p,xs,i,z,rfl,rfl,hq,he,q⟩ := h
 cases rx
 obtain ⟨t,rfl⟩ := ry
 obtain ⟨its,r,pl,hz⟩ := I.tuple hq
 obtain ⟨j,h1,h2,h3,h4,h5⟩ := atI_get he
 obtain ⟨w,ew,rw'⟩ := r.get h2
 have hl := r.length
 have hn := line63
 have fin : EP X pins σ Q w s := ⟨z,H,I,rw',q⟩
 exact subscriptTail_builtinR (x := w) pl.typeIs slot_tuple_getitem.lookup
  (getItem_tuple (j := j) (Q := λ r s' => r = w /\ EP X pins σ Q r s') pl (by omega) (by omega) (by rw [List.size_toArray,<- hl]; exact h1) (by simpa using ew) ⟨rfl,fin⟩) hs
theorem ix_str : IxR X rIxS := by
 intro value slice pins s σ H x y v u Q I rx ry h hs
 obtain ⟨z,i,c,rfl,rfl,hz,he,q⟩ := h
 obtain ⟨t,rfl⟩ := rx
 obtain ⟨t',rfl⟩ := ry
 obtain ⟨j,h1,h2,h3,h4,h5⟩ := atI_get he
 have hl : z.cps.toList.length = z.length := by simp [Str.length]
 rw [hl] at h1 h4 h5
 have hn := line63
 exact tail_any (typeIs_str s z t) slot_str_getitem.lookup (getItem_str (c := c) (by
  have e1 : decide (i < -(2 ^ 63 : Int)) = false := decide_eq_false (by omega);have e2 : decide (i ≥ 2 ^ 63) = false := decide_eq_false (by omega);rw [e1,e2,Bool.or_false]) (by rw [h1]; simpa using h2) ⟨.str ⟨#[c]⟩,H,I.tok _,⟨_,rfl⟩,q⟩) hs
theorem mapSeq_set (its : List Value) (n j : Nat) (u : Value) : Obj.mapSeq (·.setIfInBounds j u) { cls := .type "list",data := .seq its.toArray n } = { cls := .type "list",data := .seq (its.set j u).toArray n } := by
 simp [Obj.mapSeq]
theorem Inv.lst {pins : List (Addr × Obj)} {σ : St} {H : Hp} {s : Shared} {p : Addr} {xs : List V} (I : Inv X pins σ H s) (h : H p = some (.lst xs)) :
 ∃ (its : List Value) (n : Nat),Vals xs its /\ s.heap.get? p = some { cls := .type "list",data := .seq its.toArray n } /\ xs.length <= sizeLine := by
 obtain ⟨z,its,n,r,e⟩ := I.hok p _ h
 exact ⟨its,n,r,e,z⟩
theorem Inv.lstUpd {pins : List (Addr × Obj)} {σ : St} {H : Hp} {s : Shared} {p : Addr} {xs ys : List V} {its its' : List Value} {n n' : Nat} {f : Obj -> Obj} (I : Inv X pins σ H s) (h : H p = some (.lst xs))
 (ho : s.heap.get? p = some { cls := .type "list",data := .seq its.toArray n }) (hf : f { cls := .type "list",data := .seq its.toArray n } = { cls := .type "list",data := .seq its'.toArray n' }) (r : Vals ys its') (hz : ys.length <= sizeLine) (t : Nat) :
 Inv X pins σ (upd H p (.lst ys)) { s with heap := s.heap.update p f,toks := t } := by
 have e : (s.heap.update p f).get? p = some { cls := .type "list",data := .seq its'.toArray n' } := by
  rw [Heap.get?_update_self f ho (by rw [hf] <;> rfl),hf]
 refine I.write (x := p) (e := p) (by rw [h]; trivial) (.inl rfl) (λ b u hb q => (Heap.get?_update_other _ _ (Ne.symm hb)).trans q) ⟨_,e⟩ ?_
 exact ⟨hz,its',n',r,e⟩
def rSetL : V -> V -> V -> Hp -> (Hp -> Prop) -> Prop := λ o i v H Q => ∃ p xs k j,o = .ref p /\ i = .int k /\ H p = some (.lst xs) /\ ixN xs.length k = some j /\ Q (upd H p (.lst (xs.set j v)))
theorem set_list : PSet X rSetL := by
 intro pins s σ H o i v ov iv u Q I ro ri rv h
 obtain ⟨p,xs,k,j,rfl,rfl,hp,hj,q⟩ := h
 cases ro
 obtain ⟨t,rfl⟩ := ri
 obtain ⟨its,n,r,ho,hz⟩ := I.lst hp
 obtain ⟨h1,h2,h3,h4⟩ := ixN_seq hj
 have hl := r.length
 have hn := line63
 have I' : Inv X pins σ (upd H p (.lst (xs.set j v))) { s with heap := s.heap.update p (Obj.mapSeq (·.setIfInBounds j u)) } :=
  I.lstUpd hp ho (mapSeq_set its n j u) (r.set rv j) (by rw [List.length_set]; exact hz) s.toks
 by_cases h0 : 0 <= k
 . have hk : k.toNat = j := by
    rw [seqIndex_of h0 h4] at h1;exact Option.some.inj h1
   exact PySem.W.ki_setAt ho h0 (by omega) (by rw [List.size_toArray,<- hl]; exact h4) (by rw [hk]; exact ⟨_,I',q⟩)
 . have hk : (k + (its.toArray.size : Int)).toNat = j := by
    rw [seqIndex_neg (by omega) h3] at h1;rw [List.size_toArray,<- hl];exact Option.some.inj h1
   exact PySem.W.ki_setBack ho (by omega) (by rw [List.size_toArray,<- hl]; exact h3) (by omega) (by rw [hk]; exact ⟨_,I',q⟩)
def flatV : V -> Bool
 | .non => true
 | .bl _ => true
 | .int _ => true
 | .str _ => true
 | _ => false
def eqV : V -> V -> Bool
 | .non,.non => true
 | .bl a,.bl b => a == b
 | .bl a,.int b => (if a then 1 else 0) == b
 | .int a,.bl b => a == (if b then 1 else 0)
 | .int a,.int b => a == b
 | .str a,.str b => a == b
 | _,_ => false
theorem eqAt_V {A : Around} {s : Shared} {y x : V} {u v : Value} (ry : RelV y u) (rx : RelV x v) (fy : flatV y = true) (fx : flatV x = true) : SeqAt.EqAt A s u v (eqV y x) := by
 cases y with
 | non =>
  cases ry;cases x with
  | non => cases rx; exact SeqAt.EqAt.same _
  | bl b => cases rx; exact SeqAt.EqAt.none_bool b
  | int b => obtain ⟨t,rfl⟩ := rx; exact SeqAt.EqAt.none_int b t
  | str b => obtain ⟨t,rfl⟩ := rx; exact SeqAt.EqAt.none_str b t
  | _ => exact absurd (show false = true from fx) Bool.false_ne_true
 | bl a =>
  cases ry;cases x with
  | non => cases rx; exact SeqAt.EqAt.bool_none a
  | bl b => cases rx; exact SeqAt.EqAt.bool_bool a b
  | int b => obtain ⟨t,rfl⟩ := rx; exact SeqAt.EqAt.bool_int a b t
  | str b => obtain ⟨t,rfl⟩ := rx; exact SeqAt.EqAt.bool_str a b t
  | _ => exact absurd (show false = true from fx) Bool.false_ne_true
 | int a =>
  obtain ⟨t',rfl⟩ := ry;cases x with
  | non => cases rx; exact SeqAt.EqAt.int_none a t'
  | bl b => cases rx; exact SeqAt.EqAt.int_bool a t' b
  | int b => obtain ⟨t,rfl⟩ := rx; exact SeqAt.EqAt.int_int a t' b t
  | str b => obtain ⟨t,rfl⟩ := rx; exact SeqAt.EqAt.int_str a t' b t
  | _ => exact absurd (show false = true from fx) Bool.false_ne_true
 | str a =>
  obtain ⟨t',rfl⟩ := ry;cases x with
  | non => cases rx; exact SeqAt.EqAt.str_none a t'
  | bl b => cases rx; exact SeqAt.EqAt.str_bool a t' b
  | int b => obtain ⟨t,rfl⟩ := rx; exact SeqAt.EqAt.str_int a t' b t
  | str b => obtain ⟨t,rfl⟩ := rx; exact SeqAt.EqAt.str_str a t' b t
  | _ => exact absurd (show false = true from fx) Bool.false_ne_true
 | _ => exact absurd (show false = true from fy) Bool.false_ne_true
def eqU (x : V) (u : Value) : Bool := match u with
 | .none => eqV .non x
 | .bool b => eqV (.bl b) x
 | .int i _ => eqV (.int i) x
 | .str z _ => eqV (.str z) x
 | _ => false
theorem eqU_of {x y : V} {u : Value} (r : RelV y u) (f : flatV y = true) : eqU x u = eqV y x := by
 cases y with
 | non => cases r; rfl
 | bl b => cases r; rfl
 | int i => obtain ⟨t,rfl⟩ := r; rfl
 | str z => obtain ⟨t,rfl⟩ := r; rfl
 | _ => exact absurd (show false = true from f) Bool.false_ne_true
theorem any_eqU {x : V} : ∀ {xs : List V} {us : List Value},Vals xs us -> xs.all flatV = true -> us.any (eqU x) = xs.any λ y => eqV y x
 | _,_,.nil,_ => rfl
 | y :: xs,u :: us,.cons r t,f => by
  rw [List.all_cons,Bool.and_eq_true] at f;rw [List.any_cons,List.any_cons,eqU_of r f.1,any_eqU t f.2]
theorem mem_eqAt {A : Around} {s : Shared} {x : V} {v : Value} (rx : RelV x v) (fx : flatV x = true) : ∀ {xs : List V} {us : List Value},Vals xs us -> xs.all flatV = true -> ∀ u ∈ us,SeqAt.EqAt A s u v (eqU x u)
 | _,_,.nil,_ => λ u hu => by cases hu
 | y :: xs,u :: us,.cons r t,f => λ u' hu => by
  rw [List.all_cons,Bool.and_eq_true] at f
  rcases List.mem_cons.mp hu with rfl | hu
  . rw [eqU_of r f.1]; exact eqAt_V r rx f.1 fx
  . exact mem_eqAt rx fx t f.2 u' hu
def inV (x : V) (xs : List V) : Bool := xs.any λ y => eqV y x
def rIn (K : W.Frag) (neg : Bool) : R2 := λ x y H Q => ∃ p xs,y = .ref p /\ (SqL K H p xs \/ SqT K H p xs) /\ flatV x = true /\ xs.all flatV = true /\ Q (.bl (if neg then !inV x xs else inV x xs)) H
theorem op_in_seq : OpR X (compareOp .In) (rIn X.K false) := by
 intro pins s σ H x y v u Q I rx ry h
 obtain ⟨p,xs,rfl,hq,fx,fs,q⟩ := h
 cases ry
 rcases hq with hq | hq
 . obtain ⟨its,r,pl,hz⟩ := I.list hq;refine SeqAt.in_listAt (eqU x) pl.isList (λ w hw => mem_eqAt rx fx r fs w (by simpa using hw)) ⟨.bl _,H,I,rfl,?_⟩;rw [show its.toArray.any (eqU x) = its.any (eqU x) by simp,any_eqU r fs];exact q
 . obtain ⟨its,r,pl,hz⟩ := I.tuple hq;refine SeqAt.in_tupleAt (eqU x) pl (λ w hw => mem_eqAt rx fx r fs w (by simpa using hw)) ⟨.bl _,H,I,rfl,?_⟩;rw [show its.toArray.any (eqU x) = its.any (eqU x) by simp,any_eqU r fs];exact q
theorem op_notIn_seq : OpR X (compareOp .NotIn) (rIn X.K true) := by
 intro pins s σ H x y v u Q I rx ry h
 obtain ⟨p,xs,rfl,hq,fx,fs,q⟩ := h
 cases ry
 rcases hq with hq | hq
 . obtain ⟨its,r,pl,hz⟩ := I.list hq;refine SeqAt.notIn_listAt (eqU x) pl.isList (λ w hw => mem_eqAt rx fx r fs w (by simpa using hw)) ⟨.bl _,H,I,rfl,?_⟩;rw [show its.toArray.any (eqU x) = its.any (eqU x) by simp,any_eqU r fs];exact q
 . obtain ⟨its,r,pl,hz⟩ := I.tuple hq;refine SeqAt.notIn_tupleAt (eqU x) pl (λ w hw => mem_eqAt rx fx r fs w (by simpa using hw)) ⟨.bl _,H,I,rfl,?_⟩;rw [show its.toArray.any (eqU x) = its.any (eqU x) by simp,any_eqU r fs];exact q
theorem call_len_seq : CallR X (.builtin "len") (λ xs H Q => ∃ p ys,xs = [.ref p] /\ (SqL X.K H p ys \/ SqT X.K H p ys) /\ Q (.int ys.length) H) := by
 intro pins s σ H xs us Q I r h
 obtain ⟨p,ys,rfl,hq,q⟩ := h
 obtain ⟨u,rfl,rx⟩ := vals1 r
 cases rx
 have hn := line63
 rcases hq with hq | hq
 . obtain ⟨its,r',pl,hz⟩ := I.list hq;have hlen := r'.length;exact Calls.call_len_list pl.isList (by simp only [List.size_toArray] <;> omega) ⟨.int ys.length,H,I.tok _,⟨s.toks + 1,by rw [List.size_toArray,hlen]⟩,q⟩
 . obtain ⟨its,r',pl,hz⟩ := I.tuple hq;have hlen := r'.length;exact len_tuple pl (by simp only [List.size_toArray] <;> omega) ⟨.int ys.length,H,I.tok _,⟨s.toks + 1,by rw [List.size_toArray,hlen]⟩,q⟩
theorem call_len_str : CallR X (.builtin "len") (λ xs H Q => ∃ z,xs = [.str z] /\ z.length <= sizeLine /\ Q (.int z.length) H) := by
 intro pins s σ H xs us Q I r h
 obtain ⟨z,rfl,hz,q⟩ := h
 obtain ⟨u,rfl,t,rfl⟩ := vals1 r
 have hn := line63
 exact len_str (by omega) ⟨.int z.length,H,I.tok _,⟨_,rfl⟩,q⟩
theorem CallR.or {f : Value} {r r' : List V -> Hp -> VK -> Prop} (h : CallR X f r) (h' : CallR X f r') : CallR X f (λ xs H Q => r xs H Q \/ r' xs H Q) := by
 intro pins s σ H xs us Q I rs q
 rcases q with q | q
 . exact h pins s σ H xs us Q I rs q
 . exact h' pins s σ H xs us Q I rs q
theorem call_list_of : CallR X (.type "list") (λ xs H Q => ∃ p ys,xs = [.ref p] /\ (SqL X.K H p ys \/ SqT X.K H p ys) /\ ∀ l,H l = none -> Q (.ref l) (upd H l (.lst ys))) := by
 intro pins s σ H xs us Q I r h
 obtain ⟨p,ys,rfl,hq,q⟩ := h
 obtain ⟨u,rfl,rx⟩ := vals1 r
 cases rx
 have fin : ∀ (its : List Value),Vals ys its -> ys.length <= sizeLine -> ∀ (h' : Heap) (c' : Nat),(∀ b o',s.heap.get? b = some o' -> h'.get? b = some o') ->
  h'.get? s.heap.objs.size = some { cls := .type "list",dict := none,data := .seq its.toArray c',slots := #[] } -> EP X pins σ Q (.ref s.heap.objs.size) { s with heap := h' } := λ its r' hz h' c' kp e =>
  ⟨.ref s.heap.objs.size,_,I.laid (t' := s.toks) kp (Nat.le_refl _) (show ObjOk X.prog X.w _ h' _ (.lst ys) from ⟨hz,its,c',r',e⟩),rfl,q _ (I.hok.fresh (Nat.le_refl _))⟩
 rcases hq with hq | hq
 . obtain ⟨its,r',pl,hz⟩ := I.list hq;have hlen := r'.length;obtain ⟨o,ho,hc,n,hd⟩ := pl.isList;exact call_list_seq p (.inl rfl) ho hc hd (λ h' c' kp e => fin its r' hz h' c' kp e) (by simp only [List.size_toArray] <;> omega)
 . obtain ⟨its,r',pl,hz⟩ := I.tuple hq;have hlen := r'.length;obtain ⟨o,ho,hc,n,hd⟩ := pl;exact call_list_seq p (.inr rfl) ho hc hd (λ h' c' kp e => fin its r' hz h' c' kp e) (by simp only [List.size_toArray] <;> omega)
theorem call_tuple_of : CallR X (.type "tuple") (λ xs H Q => ∃ p ys,xs = [.ref p] /\ ((SqL X.K H p ys /\ ∀ l,H l = none -> Q (.ref l) (upd H l (.tup ys))) \/ (SqT X.K H p ys /\ Q (.ref p) H))) := by
 intro pins s σ H xs us Q I r h
 obtain ⟨p,ys,rfl,h⟩ := h
 obtain ⟨u,rfl,rx⟩ := vals1 r
 cases rx
 rcases h with ⟨hq,q⟩ | ⟨hq,q⟩
 . obtain ⟨its,r',pl,hz⟩ := I.list hq;have hlen := r'.length;refine call_tuple_list pl.isList (λ h' kp => ?_) (by simp only [List.size_toArray] <;> omega);have I1 : Inv X pins σ H { s with heap := h' } := I.kept (t' := s.toks) kp;have I2 : Inv X pins σ (upd H h'.objs.size (.tup ys)) { s with heap := h'.push { cls := .type "tuple",data := .seq its.toArray } } :=
    I1.laid (t' := s.toks) (λ b o e => Heap.get?_push_of_some _ e) (Nat.le_refl _) (show ObjOk X.prog X.w _ _ _ (.tup ys) from ⟨hz,its,r',IsTup.new _ _⟩)
   exact ⟨.ref h'.objs.size,_,I2,rfl,q _ (I1.hok.fresh (Nat.le_refl _))⟩
 . obtain ⟨its,r',pl,hz⟩ := I.tuple hq;exact call_tuple_same pl ⟨.ref p,H,I,rfl,q⟩
def tyV (K : W.Frag) (T : String) (x : V) (H : Hp) : Prop := match x with
 | .str _ => T = "str"
 | .int _ => T = "int"
 | .ref p => (T = "list" /\ ∃ xs,SqL K H p xs) \/ (T = "tuple" /\ ∃ o,K.lookup p = some o /\ o.cls = .type "tuple" /\ o.dict = none) \/
  (T = "dict" /\ ((∃ kvs,H p = some (.dK kvs)) \/ ∃ kvs,H p = some (.dT kvs))) \/ (T = "set" /\ ∃ S n,H p = some (.set S n))
 | _ => False
theorem tyV_is {pins : List (Addr × Obj)} {σ : St} {H : Hp} {s : Shared} {T : String} {x : V} {v : Value} (I : Inv X pins σ H s) (r : RelV x v) (ty : tyV X.K T x H) :
 s.TypeIs v T /\ ∀ a,v = .ref a -> ∃ ob,s.heap.get? a = some ob /\ ob.dict = none := by
 cases x with
 | str z =>
  obtain ⟨t,rfl⟩ := r;cases (show T = "str" from ty);exact ⟨typeIs_str s z t,λ _ e => nomatch e⟩
 | int i =>
  obtain ⟨t,rfl⟩ := r;cases (show T = "int" from ty);exact ⟨typeIs_int s i t,λ _ e => nomatch e⟩
 | ref p =>
  cases r
  rcases ty with ⟨rfl,xs,hq⟩ | ⟨rfl,o,hk,hc,hd⟩ | ⟨rfl,hk⟩ | ⟨rfl,S,n,hk⟩
  . obtain ⟨its,_,pl,_⟩ := I.list hq;refine ⟨pl.isList.typeIs,λ a e => ?_⟩;cases e;obtain ⟨o,n,e,c,hd,_⟩ := pl;exact ⟨o,e,hd⟩
  . refine ⟨⟨o,I.kIn p o hk,hc⟩,λ a e => ?_⟩;cases e;exact ⟨o,I.kIn _ o hk,hd⟩
  . have z : ∃ o,s.heap.get? p = some o /\ o.ExactDict := by
     rcases hk with ⟨kvs,hk⟩ | ⟨kvs,hk⟩
     . obtain ⟨_,_,_,_,o,_,_,e,ex,_⟩ := I.hok p _ hk;exact ⟨o,e,ex⟩
     . obtain ⟨_,_,_,_,o,_,_,e,ex,_⟩ := I.hok p _ hk;exact ⟨o,e,ex⟩
    obtain ⟨o,e,ex⟩ := z;refine ⟨⟨o,e,ex.1⟩,λ a e2 => ?_⟩;cases e2;exact ⟨o,e,ex.2.1⟩
  . obtain ⟨o,_,_,_,e,ex,_⟩ := I.hok p _ hk;refine ⟨⟨o,e,ex.1⟩,λ a e2 => ?_⟩;cases e2;exact ⟨o,e,ex.2.1⟩
 | _ => exact False.elim ty
def tBM (K : W.Frag) (T : String) (r : V -> List V -> Hp -> VK -> Prop) (to : TE) (t : TA) : TE := λ σ H Q => to σ H λ x H1 => tyV K T x H1 /\ t σ H1 λ xs H2 => r x xs H2 Q
variable {o e : Expr} {es : List Expr} {to : TE} {t : TA} {name : Str} {apos cpos : Pos} {T id : String} {r : V -> List V -> Hp -> VK -> Prop}
theorem pe_bm (pa : PlainAttrs T) (slot : Slot T name id) (hty : typeOf (.builtin id) = pure (.type "method_descriptor")) (hm : MtR X id r) (ho : PE X o to) (ha : PA X (e :: es) t)
 (hbase : attributeBase o name X.env (eval o X.env) = eval o X.env := by rfl)
 (hfew : ((backTo cpos (starEach (e :: es) X.env)).all (λ x => !x.1) && (backToKw cpos (keywordEach [] X.env)).all (λ x => x.1.isSome)
  && decide ((e :: es).length + ([] : List Keyword).length + (if ([] : List Keyword).isEmpty then 0 else 1) < 30)) = true := by rfl)
 (hline : (apos.endLine == cpos.line) = true := by rfl) (hs : starEach (e :: es) X.env = (false,eval e X.env) :: starEach es X.env := by rfl) (hplain : (backTo cpos (starEach es X.env)).any (·.1) = false := by rfl) :
 PE X (.Call (.Attribute o name apos) (e :: es) [] cpos) (tBM X.K T r to t) := by
 intro pins s σ H Q I h
 refine wpAny_Call_method_late hbase hfew hline rfl (thn (ho pins s σ H _ I h) λ v s1 ⟨x,H1,I1,r1,ty,q1⟩ => ?_)
 obtain ⟨h1,h2⟩ := tyV_is I1 r1 ty
 refine ⟨T,id,pa,slot,hty,h1,h2,?_⟩
 have hA := ha cpos pins s1 σ H1 _ I1 q1
 rw [hs] at hA ⊢
 refine Calls.callWith_builtin (by show (false || (backTo cpos (starEach es X.env)).any (·.1)) = false; rw [hplain] <;> rfl) (Calls.evalArgs_plain ?_)
 exact thn hA λ us s2 ⟨vs,H2,I2,r2,q2⟩ => hm pins s2 σ H2 x vs v us Q I2 r1 r2 q2
/- xs.append(e),list.index on a module's tuple .. are MtR facts of 06m -/
end
def MtM (X : Cx) (id : String) (r : V -> List V -> Hp -> VK -> Prop) : Prop :=
 ∀ (pins : List (Addr × Obj)) (s : Shared) (σ : St) (H : Hp) (x : V) (xs : List V) (v : Value) (us : List Value) (Q : VK),Inv X pins σ H s -> RelV x v -> Vals xs us -> r x xs H Q ->
  wpAny (model X.prog X.w) X.A (call (.builtin id) (v :: us)) (EP X pins σ Q) X.xe s
theorem Vals.one {x : V} {us : List Value} (h : Vals [x] us) : ∃ u,us = [u] /\ RelV x u := by
 cases h with | cons r t => cases t; exact ⟨_,rfl,r⟩
theorem Vals.two {x y : V} {us : List Value} (h : Vals [x,y] us) : ∃ u v,us = [u,v] /\ RelV x u /\ RelV y v := by
 cases h with | cons r t => obtain ⟨v,e,q⟩ := Vals.one t; exact ⟨_,v,by rw [e],r,q⟩
theorem Vals.reverse {xs : List V} {us : List Value} (h : Vals xs us) : Vals xs.reverse us.reverse := by
 induction h with
 | nil => exact .nil
 | cons r t ih => rw [List.reverse_cons,List.reverse_cons]; exact Vals.append ih (.cons r .nil)
section
variable {pins : List (Addr × Obj)} {σ : St} {H : Hp} {s : Shared} {l b : Addr} {xs ys zs : List V}
theorem Inv.lset {its its' : List Value} {n : Nat} {f : Array Value -> Array Value} {t' : Nat} (I : Inv X pins σ H s) (hH : H l = some (.lst xs))
 (e : s.heap.get? l = some { cls := .type "list",data := .seq its.toArray n }) (hf : f its.toArray = its'.toArray) (hv : Vals ys its') (hz : ys.length <= sizeLine) :
 Inv X pins σ (upd H l (.lst ys)) { s with heap := s.heap.update l (Obj.mapSeq f),toks := t' } := by
 have q := PySem.IsL.update e f
 rw [hf] at q
 refine I.write (x := l) (e := l) (by rw [hH]; exact trivial) (.inl rfl) (λ b' u hb hu => (Heap.get?_update_other s.heap (Obj.mapSeq f) (Ne.symm hb)).trans hu) ⟨_,q⟩ ?_
 exact ⟨hz,its',_,hv,q⟩
theorem Inv.lnew {its : List Value} {t' : Nat} (I : Inv X pins σ H s) (hv : Vals ys its) (hz : ys.length <= sizeLine) :
 Inv X pins σ (upd H s.heap.objs.size (.lst ys)) { s with heap := s.heap.push { cls := .type "list",data := .seq its.toArray },toks := t' } :=
 I.laid (λ _ _ q => Heap.get?_push_of_some _ q) (Nat.le_refl _) ⟨hz,its,0,hv,Heap.get?_push_size _ rfl⟩
theorem Inv.fresh (I : Inv X pins σ H s) : H s.heap.objs.size = none := I.hok.fresh (Nat.le_refl _)
theorem Inv.lstM (I : Inv X pins σ H s) (hH : H l = some (.lst xs)) : xs.length <= sizeLine /\ ∃ (its : List Value) (n : Nat),Vals xs its /\ xs.length = its.length /\ s.heap.get? l = some { cls := .type "list",data := .seq its.toArray n } := by
 obtain ⟨z,its,n,r,e⟩ := I.hok l _ hH
 exact ⟨z,its,n,r,r.length,e⟩
theorem notLongL {n : Nat} (h : n <= sizeLine) : Builtin.List.listTooLong n = false := by
 unfold Builtin.List.listTooLong
 exact decide_eq_false (by omega)
end
def rAppend : V -> List V -> Hp -> VK -> Prop := λ x vs H Q => ∃ l xs y,x = .ref l /\ vs = [y] /\ H l = some (.lst xs) /\ xs.length < sizeLine /\ Q .non (upd H l (.lst (xs ++ [y])))
theorem mt_append : MtM X "list.append" rAppend := by
 intro pins s σ H x vs v us Q I rx rv h
 obtain ⟨l,xs,y,rfl,rfl,hH,hz,q⟩ := h
 cases rx
 obtain ⟨u,rfl,ru⟩ := rv.one
 obtain ⟨z,its,n,r,hl,e⟩ := I.lstM hH
 refine call_meets F.slot_list_append ⟨_,e,rfl⟩ F.entry_list_append (F.args_list_append_2 _ _) (PySem.list_append l its.toArray n u (by rw [List.size_toArray]; omega)) ⟨e,?_⟩
 refine ⟨.non,_,I.lset (its' := its ++ [u]) hH e (by simp) (r.append (.cons ru .nil)) ?_,rfl,q⟩
 rw [List.length_append,List.length_singleton]
 omega
def rExtend : V -> List V -> Hp -> VK -> Prop := λ x vs H Q => ∃ l b xs zs,x = .ref l /\ vs = [.ref b] /\ H l = some (.lst xs) /\ H b = some (.lst zs) /\ xs.length + zs.length <= sizeLine /\ Q .non (upd H l (.lst (xs ++ zs)))
theorem mt_extend : MtM X "list.extend" rExtend := by
 intro pins s σ H x vs v us Q I rx rv h
 obtain ⟨l,b,xs,zs,rfl,rfl,hH,hB,hz,q⟩ := h
 cases rx
 obtain ⟨u,rfl,ru⟩ := rv.one
 cases ru
 obtain ⟨z,its,n,r,hl,e⟩ := I.lstM hH
 obtain ⟨z2,its2,n2,r2,hl2,e2⟩ := I.lstM hB
 have hsz : its.toArray.size + its2.toArray.size <= sizeLine := by rw [List.size_toArray,List.size_toArray]; omega
 have hlong : ¬ (!its.toArray.isEmpty && Builtin.List.listTooLong (its.toArray.size + its2.toArray.size)) = true := by
  rw [notLongL hsz,Bool.and_false];exact Bool.false_ne_true
 refine call_meets F.slot_list_extend ⟨_,e,rfl⟩ F.entry_list_extend (F.args_list_extend_2 _ _)
  (AutoSeq1.list_extend_list_list_0 l its.toArray n b its2.toArray n2 hlong (by rw [List.size_toArray]; omega) (by omega)) ⟨e,e2,?_⟩
 refine ⟨.non,_,I.lset (its' := its ++ its2) hH e (by simp) (r.append r2) ?_,rfl,q⟩
 rw [List.length_append]
 omega
def rCat : R2 := λ x y H Q => ∃ l b xs zs,x = .ref l /\ y = .ref b /\ H l = some (.lst xs) /\ H b = some (.lst zs) /\ xs.length + zs.length <= sizeLine /\ ∀ p,H p = none -> Q (.ref p) (upd H p (.lst (xs ++ zs)))
theorem op_cat : OpR X (binaryOp .Add) rCat := by
 intro pins s σ H x y v u Q I rx ry h
 obtain ⟨l,b,xs,zs,rfl,rfl,hH,hB,hz,q⟩ := h
 cases rx
 cases ry
 obtain ⟨z,its,n,r,hl,e⟩ := I.lstM hH
 obtain ⟨z2,its2,n2,r2,hl2,e2⟩ := I.lstM hB
 refine PySem.P.add_list e e2 ?_ (by rw [List.size_toArray,List.size_toArray]; omega)
 have ea : its.toArray ++ its2.toArray = (its ++ its2).toArray := by simp
 rw [ea]
 exact ⟨.ref _,_,I.lnew (t' := s.toks) (r.append r2) (by rw [List.length_append]; omega),rfl,q _ I.fresh⟩
section
variable {prog : Program} {w : World} {A : Around} {E : Value -> Shared -> Prop} {s : Shared}
end
end L2
namespace Att
open PySem PySem.W PySem.Calls PyProof.Rows
theorem ints_of_wellAll {P : Params} {h : Heap} : ∀ (ns : List Int) (vs : List Value),WellAll P h vs (ns.map WData.int) -> IntsAre vs ns := by
 intro ns
 induction ns with
 | nil =>
  intro vs w;rw [List.map_nil] at w;cases w;exact .nil
 | cons n ns ih =>
  intro vs w;rw [List.map_cons] at w;cases w with
  | cons a b =>
   cases a;exact .cons _ _ (ih _ b)
theorem script_of {l : OpenLaw} {n : Nat} (hn : l.most = some n) {P : Params} {h : Heap} {args : List WData} {vals : List Value}
 (hpre : l.row.toRowW.claim.pre args = true) (hwl : WellAll P h vals args) :
 ∃ a vs ns,vals = [Value.ref a] /\ args = [WData.list (ns.map WData.int)] /\ h.get? a = some { cls := .type "list",data := .seq vs.toArray } /\ IntsAre vs ns /\ ns.length <= n := by
 have hsh : WShape.hasAll [] args [.list .int] = true := (pre_splitW hpre).1
 have hc : l.pre.holds [] { args := args } = true := (pre_splitW hpre).2
 obtain ⟨d,r,rfl,h1,h2⟩ := hasAllW_cons hsh
 obtain rfl := hasAllW_nil h2
 obtain ⟨xs,rfl,h3⟩ := hasW_list h1
 obtain ⟨ns,rfl⟩ := items_int h3
 have hlen : ns.length <= n := by
  unfold OpenLaw.pre at hc;have h4 : (WTm.not (.lt (.lit (.int (n : Int))) (.len (.arg 0)))).holds [] { args := [.list (ns.map .int)] } = true := by
   have h4 := (holds_andW hc).1;rw [hn] at h4;exact h4
  have h5 := condW_of h4 (w_not (w_lt w_lit (w_len_list (w_arg rfl))));rw [List.length_map] at h5;refine Nat.le_of_not_lt λ q => ?_;have q' : (n : Int) < ((ns.length : Nat) : Int) := by omega
  first
   | (rw [decide_eq_true q'] at h5; exact absurd h5 (by decide))
   | (simp at h5; omega)
 cases hwl with
 | cons w1 w2 =>
  cases w2;cases w1 with
  | list ho hall => exact ⟨_,_,ns,rfl,rfl,ho,ints_of_wellAll ns _ hall,hlen⟩
theorem post_true (l : OpenLaw) (args : List WData) : l.row.toRowW.claim.post args (.bool true) args = true :=
 postW_of (r := l.row.toRowW) (X := (true == true))
  (show WShape.has [] (.bool true) .bool = true by first | rfl | decide | simp [WShape.has,WShape.arms,WShape.armsAll])
  (show (WTm.eq .res (.lit (.bool true))).value [] { args := args,res := some (.bool true),after := args } = some (.bool (true == true)) from w_eq_bool (w_res rfl) w_lit) rfl
theorem attach_call {l : OpenLaw} {n : Nat} {q : Program} {loose : List Str} {XP : (Str -> Option Value) -> Heap -> Prop} {YP : World -> Heap -> Prop} {d : DefRec}
 (hn : l.most = some n) (hdf : d.params.defaults = [])
 (call : ∀ (w : World) (s₀ s₁ : Shared) (mg mb : Str -> Option Value) (fa : Addr) (o : Obj) (pm cd doc : Value) (a : Addr) (vs : List Value) (ns : List Int),
  Ground q loose [] XP w s₀ mg mb s₁.heap -> YP w s₁.heap ->
  s₁.heap.get? fa = some o -> o.data = .func (docDef d.name d.params d.body d.scope pm cd doc) -> s₁.heap.CodeRec cd d.name -> mg d.name = some (.ref fa) ->
  s₁.heap.get? a = some { cls := .type "list",data := .seq vs.toArray } -> IntsAre vs ns -> ns.length <= n -> s₁.gens = #[] ->
  codeAny (model l.prog w) callerA (.call (.ref fa) ⟨[.ref a],[]⟩) (λ r s' => r = .ok (.ret (.bool true)) /\ OldK s₁.heap s'.heap /\ s'.os = s₁.os /\ AllBare s'.gens) s₁) :
 WalkO q loose XP YP l.row.toRowW d [] (λ f vs => PySem.call f vs) := by
 intro w s₀ s₁ mg mb G Y fa o pm cd doc dV kV ho hd hcd hD hmg hg args vals as hpre hlay hrd hwl hlo
 obtain rfl : dV = .none := Dflts.none hD hdf
 obtain rfl : kV = .none := Dflts.noKw hD
 obtain ⟨a,vs,ns,rfl,rfl,hobj,hints,hlen⟩ := script_of hn hpre hwl
 refine enter_call (codeAny_mono (call w s₀ s₁ mg mb fa o pm cd doc a vs ns G Y ho (fd_plain hd) hcd hmg hobj hints hlen hg) λ r s' hq => ?_)
 obtain ⟨rfl,h2,h3,h4⟩ := hq
 exact ⟨.inl ⟨.bool true,.bool true,[],rfl,λ _ => rfl,.bool true,post_true l _,λ _ => ⟨List.Pairwise.nil,λ _ hm => (nomatch hm)⟩⟩,h2,h3,h4⟩
section
variable {prog : Program} {w : World} {A : Around} {E : Value -> Shared -> Prop} {s : Shared} {K : Frag}
def ledger (h : Heap) (L d : Addr) : List (Addr × Obj) := (List.range h.objs.size).filterMap λ a => if a = L \/ a = d then none else (h.get? a).map λ o => (a,o)
end
end Att
namespace L2
open PySem PySem.Spec PyProof.Rows
theorem vals_ints : ∀ {vs : List Value} {ns : List Int},IntsAre vs ns -> Vals (ns.map V.int) vs
 | _,_,.nil => .nil
 | _,_,.cons n t h => .cons ⟨t,rfl⟩ (vals_ints h)
def Only (H : Hp) : Prop := ∀ b,H b = none \/ ∃ o xs,H b = some (.frz o (.lst xs))
theorem law_call {P : Program} {w : World} {K : W.Frag} {mg mb : Str -> Option Value} {CX : CXT} {k : Nat} {fa a : Addr} {fd : FuncData} {x : Str} {sp : Sp} {s₁ : Shared} {vs : List Value} {ns : List Int}
 (KX : K.In s₁.heap) (hns : s₁.heap.Ns mainGlobals mg) (hb : s₁.heap.Ns builtinsNs mb) (hbb : ∀ x : Str,x ≠ "__name__" -> mb x = bootBuiltins x) (hlim : s₁.heap.NoLimit) (hg : s₁.gens = #[])
 (ha : s₁.heap.get? a = some { cls := .type "list",data := .seq vs.toArray }) (hi : IntsAre vs ns) (hl : ns.length <= sizeLine) (hr : Room k callerA)
 (F : ∀ base : Heap,K.In base -> base.Ns mainGlobals mg -> FnOk P w K mg base CX k fa fd [x] sp) (hbind : ∀ (s : Shared) (u : Value),BindsTo s fd ⟨[u],[]⟩ [(x,u)])
 (hsp : ∀ H : Hp,Only H -> SqL K H a (ns.map V.int) -> sp [.ref a] H (λ v _ => v = .bl true) λ _ _ _ => False)
 (hCX : ∀ H e s',CX [] H s₁ (λ _ _ _ => False) e s' -> False) :
 codeAny (model P w) callerA (.call (.ref fa) ⟨[.ref a],[]⟩) (λ r s' => r = .ok (.ret (.bool true)) /\ OldK s₁.heap s'.heap /\ s'.os = s₁.os /\ AllBare s'.gens) s₁ := by
 have rv := vals_ints hi
 have lenV := hi.length
 -- from an abstract heap in which nothing but the script may be tracked
 have core : ∀ H : Hp,Only H -> SqL K H a (ns.map V.int) -> HOk P w H s₁.heap -> (∀ b,H b ≠ none -> b = a) -> (H a ≠ none -> K.lookup a = none) ->
  codeAny (model P w) callerA (.call (.ref fa) ⟨[.ref a],[]⟩) (λ r s' => r = .ok (.ret (.bool true)) /\ OldK s₁.heap s'.heap /\ s'.os = s₁.os /\ AllBare s'.gens) s₁ := by
  intro H hO hS hok hA hK;have base_of : ∀ {b : Addr} {o : Obj},s₁.heap.get? b = some o -> H b = none -> (hidT s₁.heap H).get? b = some o := λ e n => hidT_get e n;have noA : ∀ {b : Addr} {o : Obj} {es : Array DictEntry} {ep : Nat},s₁.heap.get? b = some o -> o.data = .dict es ep -> H b = none := λ {b o es ep} e d => by
   cases q : H b with
   | none => rfl
   | some u =>
    have e' : b = a := hA b (by rw [q]; simp);subst e';rw [ha] at e; cases e;have d' : Data.seq vs.toArray _ = Data.dict es ep := d;cases d'
  have nsK : ∀ {b : Addr} {m : Str -> Option Value},s₁.heap.Ns b m -> (hidT s₁.heap H).Ns b m := λ {b m} ⟨o,es,ep,e,d,r⟩ => ⟨o,es,ep,base_of e (noA e d),d,r⟩;have hKb : K.In (hidT s₁.heap H) := λ b o e => base_of (KX b o e) (by
   cases q : H b with
   | none => rfl
   | some u =>
    have e' : b = a := hA b (by rw [q]; simp);subst e';rw [hK (by rw [q]; simp)] at e; cases e)
  have hM : Mod K mg (hidT s₁.heap H) := ⟨hKb,nsK hns,⟨mb,nsK hb,hbb⟩,let ⟨mc,h1,h2⟩ := hlim; ⟨mc,nsK h1,h2⟩⟩;have e0 : Env0 P w K mg (hidT s₁.heap H) callerA [] s₁ H := ⟨rfl,hM,λ b o e => of_hidT e,Nat.le_of_eq (hidT_size _ _),trivial,λ b hb => absurd (show b ∈ ([] : List Addr) from hb) (by simp),hok,.of_eq hg⟩;refine codeAny_mono ((F _ hKb (nsK hns)).run callerA [] s₁ H ⟨[.ref a],[]⟩ [.ref a] [.ref a] _ _ hr e0 (hbind s₁ (.ref a)) (.cons rfl .nil) (hsp H hO hS)) λ r s' h => ?_;cases r with
  | error e => exact (hCX H e s' h).elim
  | ok fl =>
   cases fl with
   | next => exact False.elim h
   | brk => exact False.elim h
   | cont => exact False.elim h
   | ret u =>
    obtain ⟨v,H',os,bare,un,hok',r',q⟩ := h;have q' : v = .bl true := q;subst q';obtain rfl : u = Value.bool true := r';refine ⟨rfl,OldK.of_keep λ b o e => ?_,os,bare⟩;cases q : H b with
    | none => exact un.keep b o e q (by intro z; exact absurd (show b ∈ ([] : List Addr) from z) (by simp)) (by simp)
    | some u =>
     rcases hO b with z | ⟨ob,xs,z⟩
     . rw [q] at z; cases z
     . have z2 := un.frzs b ob _ z;obtain ⟨e1,_⟩ := hok b _ z;obtain ⟨e2,_⟩ := hok' b _ z2;rw [e] at e1; cases e1;exact e2
 cases hk : K.lookup a with
 | some o =>
  -- the script is one of the module's own objects
  have e := KX a o hk;rw [ha] at e;cases e;refine core (λ _ => none) (λ _ => .inl rfl) (.inr ⟨_,vs.toArray,_,hk,rfl,rfl,rfl,by rw [List.size_toArray,lenV]; exact hl,by simpa using rv⟩) (λ b u z => by have z' : (none : Option HO) = some u := z; cases z') (λ b z => absurd rfl z) λ z => absurd rfl z
 | none =>
  refine core (λ b => if b = a then some (.frz { cls := .type "list",data := .seq vs.toArray } (.lst (ns.map V.int))) else none) (λ b => ?_) (.inl (.inr ⟨{ cls := .type "list",data := .seq vs.toArray },if_pos rfl⟩)) (λ b u z => ?_) (λ b z => ?_) λ _ => hk
  . by_cases hb : b = a
    . exact .inr ⟨_,_,if_pos hb⟩
    . exact .inl (if_neg hb)
  . by_cases hb : b = a
    . have z' := (if_pos hb).symm.trans z;cases z';subst hb;exact ⟨ha,by rw [List.length_map]; exact hl,vs,_,rv,ha⟩
    . have z' := (if_neg hb).symm.trans z;cases z'
  . by_cases hb : b = a
    . exact hb
    . exact absurd (if_neg hb) z
theorem walk_of {l : PySem.W.OpenLaw} {n k : Nat} {q : Program} {loose : List Str} {XP : (Str -> Option Value) -> Heap -> Prop} {YP : World -> Heap -> Prop} {d : DefRec} {K : Params -> W.Frag} {CX : World -> CXT} {sp : World -> Sp} {x : Str}
 (hn : l.most = some n) (hn2 : n <= sizeLine) (hdf : d.params.defaults = []) (hr : Room k callerA)
 (hY : ∀ (w : World) (h : Heap),YP w h -> (K w.params).In h)
 (F : ∀ (w : World) (mg : Str -> Option Value) (fa : Addr) (h : Heap),(K w.params).In h -> h.Ns mainGlobals mg -> mg d.name = some (.ref fa) ->
  ∃ fd : FuncData,(∀ (s : Shared) (u : Value),BindsTo s fd ⟨[u],[]⟩ [(x,u)]) /\
   ∀ base : Heap,(K w.params).In base -> base.Ns mainGlobals mg -> FnOk l.prog w (K w.params) mg base (CX w) k fa fd [x] (sp w))
 (hsp : ∀ (w : World) (H : Hp) (a : Addr) (ns : List Int),ns.length <= n -> Only H -> SqL (K w.params) H a (ns.map V.int) -> sp w [.ref a] H (λ v _ => v = .bl true) λ _ _ _ => False)
 (hCX : ∀ (w : World) (H : Hp) (s : Shared) (e : Value) (s' : Shared),CX w [] H s (λ _ _ _ => False) e s' -> False) :
 PySem.W.WalkO q loose XP YP l.row.toRowW d [] (λ f vs => PySem.call f vs) := by
 refine Att.attach_call hn hdf λ w s₀ s₁ mg mb fa o pm cd doc a vs ns G Y ho hd hcd hmg hobj hints hlen hg => ?_
 have KX := hY w _ Y
 obtain ⟨fd,hb,hF⟩ := F w mg fa _ KX G.T.g hmg
 exact law_call KX G.T.g G.T.b G.T.builtins G.T.nolimit hg hobj hints (Nat.le_trans hlen hn2) hr hF hb (λ H hO hS => hsp w H a ns hlen hO hS) λ H e s' => hCX w H s₁ e s'
def inClass (s : Stmt) (j : Nat) : Stmt := match s with
 | .ClassDef _ _ _ body _ _ _ _ _ _ _ => body.getD j (.Pass ⟨0,0,0,0⟩)
 | _ => .Pass ⟨0,0,0,0⟩
def defArgs (s : Stmt) : Arguments := match s with
 | .FunctionDef _ a _ _ _ _ _ _ _ _ => a
 | _ => { posonlyargs := [],args := [],vararg := none,kwonlyargs := [],kw_defaults := [],kwarg := none,defaults := [] }
def defBody (s : Stmt) : List Stmt := match s with
 | .FunctionDef _ _ b _ _ _ _ _ _ _ => b
 | _ => []
def defScope (s : Stmt) : Scope := match s with
 | .FunctionDef _ _ _ _ _ _ sc _ _ _ => sc
 | _ => { kind := .function,names := [],isGenerator := false,isCoroutine := false }
abbrev CX0 : CXT := λ _ _ _ _ _ _ => False
abbrev E0 : XK := λ _ _ _ => False
theorem pass0 {X : Cx} : Passes CX0 X E0 := λ _ _ _ _ _ _ _ h => h.elim
structure Fun (K : W.Frag) (x qual : Str) (st : Stmt) (f : Addr) (fd : FuncData) : Prop where
 ex : ∃ (oc : Value) (od : Option Addr) (kV doc pm : Value) (an : Option Addr) (cdv ct : Value) (osl : Array (Option Value)),
  fd = PySem.W.fnOf x qual (defArgs st) (defBody st) (defScope st) .none kV doc pm an cdv ct /\ K.lookup f = some ⟨oc,od,.func fd,osl⟩ /\ PySem.W.codeIn K cdv qual = true
 kp : W.keepIn K (.ref f) = true
section
variable {P : Program} {w : World} {K : W.Frag} {mg : Str -> Option Value} {base : Heap}
theorem Fun.ok {x qual : Str} {st : Stmt} {f : Addr} {fd : FuncData} {N ps : List Str} {k : Nat} {sp : Sp} (F : Fun K x qual st f fd) (S : FnScope N ps (defScope st)) (len : ∀ vs H Q E,sp vs H Q E -> vs.length = ps.length)
 (hbody : ∀ (cdv : Value) (A : Around) (outer : List Env) (s : Shared) (H : Hp) (vs : List V) (Q : VK) (E : XK),Room k (A.deeper (envOfC qual (defScope st) s.heap.objs.size f cdv)) -> sp vs H Q E ->
  ∃ t,PSs (cxOf CX0 P w K mg base N qual (defScope st) f cdv A outer s H E).nox (defBody st) t /\ t { nx := λ _ H' => Q .non H',rt := Q } (start N vs) H) : FnOk P w K mg base CX0 (k + 1) f fd ps sp := by
 obtain ⟨oc,od,kV,doc,pm,an,cdv,ct,osl,rfl,lk,hcd⟩ := F.ex
 refine fn_of lk hcd S len λ A outer s H vs Q E hr hsp => ?_
 obtain ⟨t,h,q⟩ := hbody cdv A outer s H vs Q E hr hsp
 exact ⟨t,h.nox,q⟩
theorem Fun.binds {x qual : Str} {st : Stmt} {f : Addr} {fd : FuncData} {ps : List Str} (F : Fun K x qual st f fd)
 (h : ∀ (kV doc pm : Value) (an : Option Addr) (cdv ct : Value) (us : List Value),us.length = ps.length -> bindArgs (PySem.W.fnOf x qual (defArgs st) (defBody st) (defScope st) .none kV doc pm an cdv ct) ⟨us,[]⟩ = pure (ps.zip us)) : Binds K fd ps [] := by
 obtain ⟨oc,od,kV,doc,pm,an,cdv,ct,osl,rfl,lk,hcd⟩ := F.ex
 exact .all (h kV doc pm an cdv ct)
theorem fun_mk {x qual : Str} {st : Stmt} {f : Addr} {oc : Value} {od an : Option Addr} {osl : Array (Option Value)} {kV doc pm cdv ct : Value} (l : K.lookup f = some ⟨oc,od,.func (PySem.W.fnOf x qual (defArgs st) (defBody st) (defScope st) .none kV doc pm an cdv ct),osl⟩)
 (c : PySem.W.codeIn K cdv qual = true) (k : W.keepIn K (.ref f) = true) : Fun K x qual st f (PySem.W.fnOf x qual (defArgs st) (defBody st) (defScope st) .none kV doc pm an cdv ct) := ⟨⟨oc,od,kV,doc,pm,an,cdv,ct,osl,rfl,l,c⟩,k⟩
end
theorem hu_of {A : Around} {k : Nat} (hr : Room k A) : A.units + 1 < cLine := Nat.lt_of_le_of_lt (Nat.add_le_add_left (by decide : 1 <= 64) _) hr.units
theorem small1000 {n : Nat} (h : n <= 1000) : n < sizeLine := Nat.lt_of_le_of_lt h (by decide)
section
variable {X : Cx}
theorem pv (i : Nat) {x : Str} {pos : Pos} (hN : X.N[i]? = some x := by rfl) (hv : Vis X.env.scope x := by first | exact Or.inl rfl | exact Or.inr (Or.inl rfl) | exact Or.inr (Or.inr rfl)) (hd : (x == ("__debug__" : Str)) = false := by decide)
 (hcd : (x == ("__classdict__" : Str)) = false := by decide) : PE X (.Name x pos) (tVar i) := pe_var hN hv hd hcd
end
theorem iteF {A B : Prop} (h : B) : if false = true then A else B := by
 rw [if_neg Bool.false_ne_true]
 exact h
theorem iteT {A B : Prop} (h : A) : if true = true then A else B := by
 rw [if_pos rfl]
 exact h
theorem ite2 {c A B : Prop} [Decidable c] (h1 : c -> A) (h2 : ¬ c -> B) : if c then A else B := by
 by_cases h : c
 . rw [if_pos h];exact h1 h
 . rw [if_neg h];exact h2 h
def Same (H H' : Hp) : Prop := ∀ b o,H b = some o -> H' b = some o
theorem Same.refl (H : Hp) : Same H H := λ _ _ h => h
theorem Same.trans {H H1 H2 : Hp} (a : Same H H1) (b : Same H1 H2) : Same H H2 := λ c o h => b c o (a c o h)
theorem Same.free {H H' : Hp} (e : Same H H') {l : Addr} (h : H' l = Option.none) : H l = Option.none := by
 cases q : H l with
 | none => rfl
 | some o =>
  rw [e l o q] at h;cases h
theorem Same.seq {K : W.Frag} {H H' : Hp} {a : Addr} {xs : List V} (e : Same H H') (h : SqL K H a xs) : SqL K H' a xs := by
 rcases h with (h | ⟨o,h⟩) | h
 . exact .inl (.inl (e _ _ h))
 . exact .inl (.inr ⟨o,e _ _ h⟩)
 . exact .inr h
end L2
set_option maxHeartbeats 4000000
namespace L2
open PySem PySem.Spec PyProof.Rows
variable {X : Cx} {w : World} {A : Around} {E : Value -> Shared -> Prop} {s : Shared} {P : Program}
def PTs (X : Cx) (cs : List Expr) (t : TT) : Prop :=
 ∀ (pins : List (Addr × Obj)) (s : Shared) (σ : St) (H : Hp) (Q : Bool -> Hp -> Prop),Inv X pins σ H s -> t σ H Q ->
  wpAny (model X.prog X.w) X.A (forIn cs true λ c r => if r = true then do let ok <- isTrue c X.env (eval c X.env); pure (ForInStep.yield ok) else pure (ForInStep.yield r)) (TP X pins σ Q) X.xe s
def tYes : TT := λ _ H Q => Q true H
theorem pts_nil {X : Cx} : PTs X [] tYes := λ _ _ _ H _ I h => wpAny_tests_nil ⟨H,I,h⟩
theorem pts_one {X : Cx} {c : Expr} {t : TT} (h : PT X c t) : PTs X [c] t := λ pins s σ H Q I q => wpAny_tests_one (h pins s σ H Q I q)
theorem codeAny_compLoop_own {prog : Program} {w : World} {A : Around} {R : Result -> Shared -> Prop} {s : Shared} {elt target iter : Expr} {ifs : List Expr} {scope : Scope} {pos : Pos} {it acc : Value} {env : Env} (I : Nat -> Shared -> Prop)
 (turn : ∀ n s,I n s -> wpAny (model prog w) A (pyNext it) (λ r s₁ => match r with
  | none => R (.ok .next) s₁
  | some v => wpAny (model prog w) A (letOwnedTupleGo target it v) (λ _ s₁' => wpAny (model prog w) A (assign target env v) (λ _ s₂ =>
   wpAny (model prog w) A (forIn ifs true λ c r => if r = true then do let ok <- isTrue c env (eval c env); pure (ForInStep.yield ok) else pure (ForInStep.yield r)) (λ ok s₃ =>
    if ok = true then wpAny (model prog w) A (eval elt env) (λ x s₄ =>
     wpAny (model prog w) A (call (.builtin "list.append") [acc,x]) (λ _ s₅ => ∃ m,m < n /\ I m s₅) (λ _ _ => False) s₄) (λ _ _ => False) s₃
    else ∃ m,m < n /\ I m s₃) (λ _ _ => False) s₂) (λ _ _ => False) s₁') (λ _ _ => False) s₁) (λ _ _ => False) s)
 (n : Nat) (h : I n s) :
 codeAny (model prog w) A (.compLoop (.ListComp elt [⟨target,iter,ifs,0⟩] scope pos) 0 it acc env) R s := by
 refine codeAny_loop rfl I (λ n s hI => ?_) n h
 show wpAny _ A ((compTurn (.ListComp elt [⟨target,iter,ifs,0⟩] scope pos) 0 it acc env).onRaise (λ x => do noteFrame x env; theTreesLotGoes x)) _ _ s
 refine wpAny_noted ?_
 rw [compTurn_list]
 refine wpAny_bind (wpAny_standAt (wpAny_bind (wpAny_mono (turn n s hI) (λ r s₁ h₁ => ?_) λ _ _ h' => h'.elim)))
 cases r with
 | none => exact wpAny_pure h₁
 | some v =>
  refine wpAny_bind (wpAny_mono h₁ (λ _ s₁' h₁' => ?_) λ _ _ h' => h'.elim);refine wpAny_bind (wpAny_mono h₁' (λ _ s₂ h₂ => wpAny_bind (wpAny_mono h₂ (λ ok s₃ h₃ => ?_) λ _ _ h' => h'.elim)) λ _ _ h' => h'.elim);cases ok with
  | false => exact wpAny_pure ⟨rfl,h₃⟩
  | true =>
   exact wpAny_bind (wpAny_bind (wpAny_mono h₃ (λ x s₄ h₄ => wpAny_bind (wpAny_mono h₄ (λ _ s₅ h₅ => wpAny_pure (wpAny_pure ⟨rfl,h₅⟩)) λ _ _ h' => h'.elim)) λ _ _ h' => h'.elim))
def closL (env : Env) : List (Str × NameKind) -> List (Str × Addr) -> List (Str × Addr)
 | [],cs => cs
 | (n,k) :: r,cs => closL env r (if k == .free then (match env.cells.lookup n with | some a => (n,a) :: cs | none => cs) else cs)
theorem clos_go {env : Env} : ∀ (ns : List (Str × NameKind)) (cs : List (Str × Addr)),(∀ x ∈ ns,x.2 = .free -> ∃ c,env.cells.lookup x.1 = some c) ->
 (forIn ns cs λ x (r : List (Str × Addr)) => (match x with | (name,kind) => if (kind == .free) = true then do let a <- cellOf env name; pure (ForInStep.yield ((name,a) :: r)) else pure (ForInStep.yield r) : Sem (ForInStep (List (Str × Addr))))) = (pure (closL env ns cs) : Sem (List (Str × Addr)))
 | [],cs,_ => rfl
 | (n,k) :: r,cs,h => by
  have ih := λ cs => clos_go (env := env) r cs λ x hx => h x (List.mem_cons_of_mem _ hx);rw [List.forIn_cons];unfold closL
  by_cases hk : k = .free
  . subst hk;obtain ⟨c,e⟩ := h (n,.free) List.mem_cons_self rfl;have ec : cellOf env n = pure c := by unfold cellOf; rw [e]
    simp only [beq_self_eq_true,if_true,ec,e,pure_bind];exact ih _
  . have hb : (k == NameKind.free) = false := by simpa using hk
    simp only [hb,Bool.false_eq_true,if_false,pure_bind];exact ih _
theorem clos_eq {scope : Scope} {env : Env} (h : ∀ x ∈ scope.names,x.2 = .free -> ∃ c,env.cells.lookup x.1 = some c) : closureFor scope env = pure (closL env scope.names []) := by
 have q := clos_go (env := env) scope.names [] h
 unfold closureFor
 simp only [bind_pure_comp,map_pure,bind_pure] at q ⊢
 first
  | exact q
  | (simpa using q)
theorem closL_sub {env : Env} : ∀ (ns : List (Str × NameKind)) (cs : List (Str × Addr)) (x : Str) (c : Addr),(closL env ns cs).lookup x = some c -> env.cells.lookup x = some c \/ cs.lookup x = some c
 | [],cs,x,c,h => .inr h
 | (n,k) :: r,cs,x,c,h => by
  unfold closL at h
  rcases closL_sub r _ x c h with q | q
  . exact .inl q
  . by_cases hk : k = .free
    . subst hk;simp only [beq_self_eq_true,if_true] at q;cases e : env.cells.lookup n with
      | none => rw [e] at q; exact .inr q
      | some a =>
       rw [e] at q;simp only [List.lookup_cons] at q;cases hx : x == n with
       | true =>
        rw [hx] at q;have ex : x = n := by simpa using hx
        subst ex;have ea : a = c := Option.some.inj q;subst ea;exact .inl e
       | false => rw [hx] at q; exact .inr q
    . have hb : (k == NameKind.free) = false := by simpa using hk
      simp only [hb,Bool.false_eq_true,if_false] at q;exact .inr q
theorem closL_mono {env : Env} : ∀ (ns : List (Str × NameKind)) (cs : List (Str × Addr)) (x : Str),(∃ c,cs.lookup x = some c) -> ∃ c,(closL env ns cs).lookup x = some c
 | [],_,_,h => h
 | (n,k) :: r,cs,x,⟨c,h⟩ => by
  unfold closL;refine closL_mono r _ x ?_
  by_cases hk : (k == NameKind.free) = true
  . rw [if_pos hk];cases e : env.cells.lookup n with
    | none => exact ⟨c,h⟩
    | some a =>
     simp only [List.lookup_cons];cases hx : x == n with
     | true => exact ⟨a,rfl⟩
     | false => exact ⟨c,h⟩
  . rw [if_neg hk]; exact ⟨c,h⟩
theorem closL_has {env : Env} : ∀ (ns : List (Str × NameKind)) (cs : List (Str × Addr)) (x : Str),(x,NameKind.free) ∈ ns -> (∃ c,env.cells.lookup x = some c) -> ∃ c,(closL env ns cs).lookup x = some c
 | [],_,_,h,_ => nomatch h
 | (n,k) :: r,cs,x,h,⟨c,e⟩ => by
  unfold closL
  rcases List.mem_cons.mp h with z | z
  . have z1 : x = n := congrArg Prod.fst z;have z2 : NameKind.free = k := congrArg Prod.snd z;subst z1 z2;refine closL_mono r _ x ?_;simp only [beq_self_eq_true,if_true,e,List.lookup_cons];exact ⟨c,rfl⟩
  . exact closL_has r _ x z ⟨c,e⟩
theorem mem_of_lookup' {ns : List (Str × NameKind)} {x : Str} {k : NameKind} (h : ns.lookup x = some k) : (x,k) ∈ ns := PySem.mem_of_lookup h
theorem relabel_look {env : Env} : ∀ (names : List (Str × NameKind)) (x : Str),
 (names.map λ (n,k) => if (k == NameKind.free && env.scope.kind == .function && env.kindOf n == some .cell) then (n,NameKind.cell) else (n,k)).lookup x =
  (names.lookup x).map λ k => if (k == NameKind.free && env.scope.kind == .function && env.kindOf x == some .cell) then NameKind.cell else k
 | [],x => rfl
 | (n,k) :: r,x => by
  have ih := relabel_look (env := env) r x;rw [List.map_cons];show List.lookup x ((if (k == NameKind.free && env.scope.kind == .function && env.kindOf n == some .cell) = true then (n,NameKind.cell) else (n,k)) :: _) = _;cases hx : x == n with
  | true =>
   have ex : x = n := by simpa using hx
   subst ex
   by_cases hc : (k == NameKind.free && env.scope.kind == .function && env.kindOf x == some .cell) = true
   . rw [if_pos hc]; simp only [List.lookup_cons,beq_self_eq_true,Option.map_some]; rw [if_pos hc]
   . rw [if_neg hc]; simp only [List.lookup_cons,beq_self_eq_true,Option.map_some]; rw [if_neg hc]
  | false =>
   by_cases hc : (k == NameKind.free && env.scope.kind == .function && env.kindOf n == some .cell) = true
   . rw [if_pos hc]; simp only [List.lookup_cons,hx]; exact ih
   . rw [if_neg hc]; simp only [List.lookup_cons,hx]; exact ih
structure CompScope (own fr : List Str) (scope : Scope) (outer : Scope) : Prop where
 kind : scope.kind = .function
 nocell : ∀ y ∈ scope.names,y.2 ≠ .cell
 names : ∀ y ∈ scope.names,y.2 = .local -> scope.names.lookup y.1 = some .local
 nd : (own ++ fr).Nodup
 outs : ∀ y ∈ scope.names,y.2 = .free -> outer.names.lookup y.1 = some .cell \/ outer.names.lookup y.1 = some .free
 frs : ∀ x ∈ fr,scope.names.lookup x = some .free
 owns : ∀ x ∈ own,scope.names.lookup x = some .local
theorem CompScope.of {own fr : List Str} {sc out : Scope} (k : sc.kind = .function) (h : (∀ y ∈ sc.names,y.2 ≠ .cell) ∧ (∀ y ∈ sc.names,y.2 = .local → sc.names.lookup y.1 = some .local) ∧ (own ++ fr).Nodup ∧ (∀ y ∈ sc.names,y.2 = .free → out.names.lookup y.1 = some .cell ∨ out.names.lookup y.1 = some .free) ∧ (∀ x ∈ fr,sc.names.lookup x = some .free) ∧ ∀ x ∈ own,sc.names.lookup x = some .local) : CompScope own fr sc out := ⟨k,h.1,h.2.1,h.2.2.1,h.2.2.2.1,h.2.2.2.2.1,h.2.2.2.2.2⟩
def compCx (X : Cx) (scope : Scope) (C : Addr) (N : List Str) (s : Shared) (H : Hp) (pins : List (Addr × Obj)) (fp : List Addr) : Cx :=
 { X with N := N,s₀ := s,H₀ := H,env := compEnvC scope (closL X.env scope.names []) C X.env,outer := X.stack,stack := X.stack,ex := fp,fn := λ _ => false,pn := X.pn ++ pins,xe := λ _ _ => False }
def compSt (n : Nat) (idx : List Nat) (σ : St) : St := List.replicate n none ++ idx.map λ j => (σ[j]?).join
def CompLoop (J : It) (D : Addr) (g : TG) (tc : TT) (te : TE) (Q : VK) (σ0 : St) (H1 : Hp) : Prop := ∃ W : Nat -> Nat -> List V -> St -> Hp -> Prop,(∃ m,W 0 m [] σ0 (upd H1 D (.lst []))) /\
 ∀ i m ys σ H,H D = some (.lst ys) -> W i m ys σ H -> (J.stop i H /\ Q (.ref D) H) \/ (J.go i H /\ ys.length < sizeLine /\ ∃ N : List V -> St -> Hp -> Prop,(∀ ys' σ' H',N ys' σ' H' -> ∃ m',m' < m /\ W (i + 1) m' ys' σ' H') /\
  ∀ x H',J.yld i H x H' -> g x σ H' λ σ2 H2 => tc σ2 H2 λ b H3 =>
   if b = true then te σ2 H3 λ v H4 => H4 D = some (.lst ys) /\ N (ys ++ [v]) σ2 (upd H4 D (.lst (ys ++ [v])))
   else H3 D = some (.lst ys) /\ N ys σ2 H3)
def tComp (wi : TI) (n : Nat) (idx : List Nat) (g : TG) (tc : TT) (te : TE) : TE := λ σ H Q => wi σ H λ J H1 => ∀ D,H1 D = none -> CompLoop J D g tc te Q (compSt n idx σ) H1
theorem compCx_ok {scope : Scope} {own fr : List Str} {C : Addr} {pins : List (Addr × Obj)} {σ : St} {H : Hp} {s : Shared} {fp : List Addr} (S : CompScope own fr scope X.env.scope) (I : Inv X pins σ H s) (hf : ∀ b ∈ fp,FpOk X pins H b)
 (hC : s.heap.objs.size <= C) (hfC : ∀ b ∈ fp,b ≠ C) : (compCx X scope C (own ++ fr) s H pins fp).Ok := by
 have sub : ∀ x c,(closL X.env scope.names []).lookup x = some c -> X.env.cells.lookup x = some c := λ x c e => (closL_sub _ _ x c e).elim id λ z => nomatch z
 have kindEq : ∀ x,(compEnvC scope (closL X.env scope.names []) C X.env).kindOf x = (scope.names.lookup x).map λ k => if (k == NameKind.free && X.env.scope.kind == .function && X.env.kindOf x == some .cell) then NameKind.cell else k := λ x => relabel_look _ x
 refine ⟨I.ok.mod,S.kind,I.ok.glob,I.ok.blt,hC,λ x y c e1 e2 => I.ok.inj x y c (sub x c e1) (sub y c e2),λ x hx => ?_,λ x c z => absurd z Bool.false_ne_true,I.ok.hd,I.ok.frames,.inl rfl,λ b hb => ⟨hfC b hb,λ x c e => (hf b hb).2.2.2.2.1 x c (sub x c e)⟩,
  I.bs,Nat.le_trans I.ok.bsz I.sz,λ b o e hb => ?_,λ b hb z => ?_,I.stack,I.stkFree⟩
 . have hx' : (compEnvC scope (closL X.env scope.names []) C X.env).kindOf x = some .cell \/ (compEnvC scope (closL X.env scope.names []) C X.env).kindOf x = some .free := hx;rw [kindEq] at hx';cases e : scope.names.lookup x with
   | none => rw [e] at hx'; rcases hx' with z | z <;> cases z
   | some k =>
    have hk : k = .free := by
     rw [e] at hx';have nc := S.nocell (x,k) (mem_of_lookup' e);cases k with
     | free => rfl
     | cell => exact absurd rfl nc
     | «local» => rcases hx' with z | z <;> simp at z
     | globalImplicit => rcases hx' with z | z <;> simp at z
     | globalExplicit => rcases hx' with z | z <;> simp at z
    subst hk;have m := mem_of_lookup' e;refine closL_has _ _ x m ?_;exact I.ok.has x (S.outs _ m rfl)
 . rcases (hf b hb).2.2.2.1 with z | z
   . exact I.ok.noex b o e z
   . exact absurd (Nat.lt_of_lt_of_le (Heap.lt_size e) (Nat.le_trans I.ok.bsz z)) (Nat.lt_irrefl _)
 . have z' : b ∈ frs X.stack := z
   rcases List.mem_cons.mp (I.stkSub b z') with q | q
   . exact (hf b hb).2.1 q
   . exact (hf b hb).2.2.1 q
theorem compSt_get {own fr : List Str} {idx : List Nat} {σ : St} (hix : idx.length = fr.length) {i : Nat} {x : Str} {v : V} (h1 : (own ++ fr)[i]? = some x) (h2 : (compSt own.length idx σ)[i]? = some (some v)) :
 ∃ (k j : Nat),fr[k]? = some x /\ idx[k]? = some j /\ σ[j]? = some (some v) := by
 unfold compSt at h2
 by_cases hi : i < own.length
 . rw [List.getElem?_append_left (by simpa using hi),List.getElem?_replicate] at h2
   split at h2 <;> cases h2
 . rw [List.getElem?_append_right (by simpa using hi)] at h2;rw [List.getElem?_append_right (by omega)] at h1;rw [List.length_replicate,List.getElem?_map] at h2;cases e : idx[i - own.length]? with
   | none => rw [e] at h2; cases h2
   | some j =>
    rw [e] at h2;have h3 : (σ[j]?).join = some v := Option.some.inj h2;refine ⟨i - own.length,j,h1,e,?_⟩;cases q : σ[j]? with
    | none => rw [q] at h3; cases h3
    | some w => rw [q] at h3; have h4 : w = some v := h3; rw [h4]
theorem comp_start {scope : Scope} {own fr : List Str} {idx : List Nat} {pins : List (Addr × Obj)} {σ : St} {H : Hp} {s : Shared} {fp : List Addr} {h4 : Heap} {tk : Nat} {m : Str -> Option Value} (S : CompScope own fr scope X.env.scope)
 (hix : idx.length = fr.length) (hat : ∀ (k : Nat) (x : Str) (j : Nat),fr[k]? = some x -> idx[k]? = some j -> X.N[j]? = some x)
 (I : Inv X pins σ H s) (hf : ∀ b ∈ fp,FpOk X pins H b) (hfs : ∀ b ∈ fp,b < s.heap.objs.size) (hn : h4.Ns s.heap.objs.size m) (hk : ∀ b o,s.heap.get? b = some o -> h4.get? b = some o) :
 Inv (compCx X scope s.heap.objs.size (own ++ fr) s H pins fp) [] (compSt own.length idx σ) H { s with heap := h4,toks := tk } := by
 have sub : ∀ x c,(closL X.env scope.names []).lookup x = some c -> X.env.cells.lookup x = some c := λ x c e => (closL_sub _ _ x c e).elim id λ z => nomatch z
 have hfC : ∀ b ∈ fp,b ≠ s.heap.objs.size := λ b hb => Nat.ne_of_lt (hfs b hb)
 have ok := compCx_ok (fp := fp) S I hf (Nat.le_refl _) hfC
 refine ⟨ok,rfl,I.bare,Un.kept hk,⟨m,hn,λ i x v e1 e2 e3 => ?_⟩,λ x c e => ?_,I.hok.fresh (Nat.le_refl _),λ x c e => I.freeC x c (sub x c e),λ p hp => ?_,I.hok.kept hk,?_⟩
 . obtain ⟨k,j,q1,q2,q3⟩ := compSt_get hix e1 e2;have hN := hat k x j q1 q2;have hx := List.mem_of_getElem? q1;have hfree := S.frs x hx;have hout := S.outs _ (mem_of_lookup' hfree) rfl;obtain ⟨m0,_,hl⟩ := I.loc;obtain ⟨u,ru,lk⟩ := hl j x v hN q3 (hout.elim (λ z => .inr (.inl z)) λ z => .inr (.inr z));refine ⟨u,ru,?_⟩;have hkind : (compEnvC scope (closL X.env scope.names []) s.heap.objs.size X.env).kindOf x = some .cell \/ (compEnvC scope (closL X.env scope.names []) s.heap.objs.size X.env).kindOf x = some .free := by
    have q := relabel_look (env := X.env) scope.names x;rw [hfree] at q
    by_cases hc : (NameKind.free == NameKind.free && X.env.scope.kind == .function && X.env.kindOf x == some .cell) = true
    . refine .inl (q.trans ?_); simp only [Option.map_some]; rw [if_pos hc]
    . refine .inr (q.trans ?_); simp only [Option.map_some]; rw [if_neg hc]
   rcases lk with ⟨kl,_⟩ | ⟨_,c,ec,cc⟩
   . have kl' : X.env.scope.names.lookup x = some .local := kl
     rcases hout with z | z <;> (rw [kl'] at z; cases z)
   . obtain ⟨c',ec'⟩ := closL_has scope.names [] x (mem_of_lookup' hfree) ⟨c,ec⟩;have e' := sub x c' ec';rw [ec] at e';cases e';obtain ⟨o,ho,hd⟩ := cc;exact .inr ⟨hkind,c,ec',o,hk c o ho,hd⟩
 . obtain ⟨v,o,ho,hd⟩ := I.cell x c (sub x c e);exact ⟨v,o,hk c o ho,hd⟩
 . have hp' : p ∈ X.pn ++ pins := by
    rcases List.mem_append.mp hp with z | z
    . exact z
    . exact nomatch z
   obtain ⟨a1,a2,a3,a4,a5⟩ := I.pin p hp';refine ⟨hk _ _ a1,a2,Nat.ne_of_lt (Heap.lt_size a1),λ z => ?_,a5⟩
   rcases List.mem_cons.mp (I.stkSub p.1 z) with q | q
   . exact a3 q
   . exact a4 q
 . show (compSt own.length idx σ).length = (own ++ fr).length
   unfold compSt;rw [List.length_append,List.length_append,List.length_replicate,List.length_map,hix]
theorem comp_back {scope : Scope} {N : List Str} {pins : List (Addr × Obj)} {σ σ' : St} {H H' : Hp} {s s' : Shared} {fp : List Addr} {h' : Heap}
 (I : Inv X pins σ H s) (hf : ∀ b ∈ fp,FpOk X pins H b) (J : Inv (compCx X scope s.heap.objs.size N s H pins fp) [] σ' H' s') (hs : Heap.SameBut s.heap.objs.size s'.heap h') :
 Inv X pins σ H' { s' with heap := h' } := by
 have ne : ∀ b o,s.heap.get? b = some o -> b ≠ s.heap.objs.size := λ b o e => Nat.ne_of_lt (Heap.lt_size e)
 have hCn : H' s.heap.objs.size = none := J.free
 have u := J.base
 refine I.call' (s' := { s' with heap := h' }) (ch := fp) J.os ⟨λ b o e n hb hx => ?_,λ b o e n hb hx => ?_,u.free,λ b o e hx => ?_,u.tups,u.frzs,u.tbls⟩ (λ b ob e => ?_) J.bare λ b hb => ?_
 . exact (hs.2 b (ne b o e)).trans (u.keep b o e n hb hx)
 . obtain ⟨sl,q⟩ := u.slot b o e n hb hx;exact ⟨sl,(hs.2 b (ne b o e)).trans q⟩
 . obtain ⟨o',q⟩ := u.there b o e hx;exact ⟨o',(hs.2 b (ne b o e)).trans q⟩
 . refine (J.hok b ob e).stay (λ c v hc q => (hs.2 c ?_).trans q) (λ _ q => q) λ _ _ q => q;rintro rfl
   rcases hc with z | z
   . rw [<- z,hCn] at e; cases e
   . rw [hCn] at z; cases z
 . obtain ⟨f0,f1,f2,f3,f4,f5⟩ := hf b hb;exact ⟨f3,f1,f4,f5⟩
theorem comp_core {Y : Cx} {elt tg iter : Expr} {ifs : List Expr} {scope : Scope} {pos : Pos} {it D : Addr} {fp : List Addr} {tn : Nat -> Heap -> Prop} {J : It} {g : TG} {tc : TT} {te : TE} {Q : Hp -> Prop} {W : Nat -> Nat -> List V -> St -> Hp -> Prop} {R : Result -> Shared -> Prop} {s0 : Shared} {m0 : Nat}
 (hc : Y.calm = true) (hg : PG Y tg g) (ht : PTs Y ifs tc) (he : PE Y elt te) (hF : ∀ v s,Y.xe v s -> False) (T : Turn Y.prog Y.w Y.K tg J fp it tn) (fpC : ∀ {H' : Hp},(∀ b ∈ fp,H' b = none) -> ∀ b ∈ fp,FpOk Y [] H' b)
 (turn : ∀ i m ys σ H,H D = some (.lst ys) -> W i m ys σ H -> (J.stop i H /\ Q H) \/ (J.go i H /\ ys.length < sizeLine /\ ∃ N : List V -> St -> Hp -> Prop,(∀ ys' σ' H',N ys' σ' H' -> ∃ m',m' < m /\ W (i + 1) m' ys' σ' H') /\
  ∀ x H',J.yld i H x H' -> g x σ H' λ σ2 H2 => tc σ2 H2 λ b H3 =>
   if b = true then te σ2 H3 λ v H4 => H4 D = some (.lst ys) /\ N (ys ++ [v]) σ2 (upd H4 D (.lst (ys ++ [v])))
   else H3 D = some (.lst ys) /\ N ys σ2 H3))
 (done : ∀ s6 σ H,Inv Y [] σ H s6 -> Q H -> R (.ok .next) s6)
 (h0 : ∃ i ys σ' H',Inv Y [] σ' H' s0 /\ tn i s0.heap /\ (∀ b ∈ fp,H' b = none) /\ H' D = some (.lst ys) /\ W i m0 ys σ' H') :
 codeAny (model Y.prog Y.w) Y.A (.compLoop (.ListComp elt [⟨tg,iter,ifs,0⟩] scope pos) 0 (.ref it) (.ref D) Y.env) R s0 := by
 have thnF : ∀ {α : Type} {m : Sem α} {Q Q' : α -> Shared -> Prop} {s : Shared},wpAny (model Y.prog Y.w) Y.A m Q Y.xe s -> (∀ v s',Q v s' -> Q' v s') -> wpAny (model Y.prog Y.w) Y.A m Q' (λ _ _ => False) s := λ h k => wpAny_mono h k hF
 refine codeAny_compLoop_own (λ n s' => ∃ i ys σ' H',Inv Y [] σ' H' s' /\ tn i s'.heap /\ (∀ b ∈ fp,H' b = none) /\ H' D = some (.lst ys) /\ W i n ys σ' H') ?_ m0 h0
 rintro n s5 ⟨i,ys,σ5,H5,I5,st5,fr5,hD5,w5⟩
 rcases turn i n ys σ5 H5 hD5 w5 with ⟨stop,q⟩ | ⟨go,hlen,N,hN,step⟩
 . refine thn (T.done Y rfl rfl rfl hc i [] s5 σ5 H5 _ I5 (fpC fr5) st5 stop) λ r s6 zz => ?_;obtain ⟨hr,I6⟩ := zz;subst hr;exact done s6 σ5 H5 I6 q
 . refine thn (T.item Y rfl rfl rfl hc i [] s5 σ5 H5 _ I5 (fpC fr5) st5 go) λ r s6 zz => ?_;obtain ⟨u,hr,h6⟩ := zz;subst hr;refine thn h6 λ _ s7 zz => ?_;obtain ⟨x,H7,I7,r7,y7,st7,fr7⟩ := zz;have I7' := I7.pinned (fpC fr7) (T.obj _ _ st7);refine thnF (hg _ s7 σ5 H7 x u _ I7' r7 (step x H7 y7)) λ _ s8 zz => ?_;obtain ⟨σ8,H8,I8,q8⟩ := zz;refine thnF (ht _ s8 σ8 H8 _ I8 q8) λ ok s9 zz => ?_;obtain ⟨H9,I9,q9⟩ := zz;have again : ∀ {σ' : St} {H' : Hp} {s' : Shared} {ys' : List V},Inv Y ([] ++ pinsAt fp s7.heap) σ' H' s' -> H' D = some (.lst ys') -> N ys' σ' H' ->
    ∃ m,m < n /\ ∃ i ys σ' H',Inv Y [] σ' H' s' /\ tn i s'.heap /\ (∀ b ∈ fp,H' b = none) /\ H' D = some (.lst ys) /\ W i m ys σ' H' := λ {σ' H' s' ys'} I' hD' n' => by
    obtain ⟨m',hm,w'⟩ := hN ys' σ' H' n';have pin : ∀ b ∈ fp,∀ o,s7.heap.get? b = some o -> s'.heap.get? b = some o /\ H' b = none := λ b hb o e => by
     have q := I'.pin (b,o) (List.mem_append_right _ (List.mem_append_right _ (mem_pinsAt hb e)));exact ⟨q.1,q.2.1⟩
    refine ⟨m',hm,i + 1,ys',σ',H',I'.unpinned,T.keep _ _ _ st7 λ b hb o e => (pin b hb o e).1,λ b hb => ?_,hD',w'⟩;obtain ⟨o,e,_⟩ := T.obj _ _ st7 b hb;exact (pin b hb o e).2
   cases ok with
   | false =>
    have q9' : H9 D = some (.lst ys) /\ N ys σ8 H9 := by simpa using q9
    simp only [Bool.false_eq_true,if_false];exact again I9 q9'.1 q9'.2
   | true =>
    simp only [if_true] at q9 ⊢;refine thnF (he _ s9 σ8 H9 _ I9 q9) λ xv s10 zz => ?_;obtain ⟨v,H10,I10,r10,hD10,w10⟩ := zz;refine thnF (mt_append _ s10 σ8 H10 (.ref D) [v] _ [xv] (λ _ H' => H' = upd H10 D (.lst (ys ++ [v]))) I10 rfl (.cons r10 .nil) ⟨_,ys,v,rfl,rfl,hD10,hlen,rfl⟩) λ _ s11 zz => ?_;obtain ⟨_,H11,I11,_,e11⟩ := zz;subst e11;exact again I11 upd_same w10
theorem pe_comp {elt tg iter : Expr} {ifs : List Expr} {scope : Scope} {own fr : List Str} {idx : List Nat} {wi : TI} {g : TG} {tc : TT} {te : TE} {pos : Pos} (hc : X.calm = true) (S : CompScope own fr scope X.env.scope)
 (hi : PI X tg iter wi) (hg : ∀ C s H pins fp,PG (compCx X scope C (own ++ fr) s H pins fp) tg g) (ht : ∀ C s H pins fp,PTs (compCx X scope C (own ++ fr) s H pins fp) ifs tc) (he : ∀ C s H pins fp,PE (compCx X scope C (own ++ fr) s H pins fp) elt te)
 (hix : idx.length = fr.length := by rfl) (hat : ∀ (k : Nat) (x : Str) (j : Nat),fr[k]? = some x -> idx[k]? = some j -> X.N[j]? = some x)
 (hs : ∀ x,foldedSetIterable iter X.env x = pure x := by intro _; rfl) : PE X (.ListComp elt [⟨tg,iter,ifs,0⟩] scope pos) (tComp wi own.length idx g tc te) := by
 intro pins s σ H Q I h
 rw [eval_ListComp]
 have hclos : closureFor scope X.env = pure (closL X.env scope.names []) := clos_eq λ x hx hfree => I.ok.has x.1 (S.outs x hx hfree)
 refine wpAny_comprehension_free (use := none) rfl hs hclos S.kind S.names (thn (hi pins s σ H _ I h) λ v s1 h1 => thn h1 λ itv s2 h2 => ?_)
 obtain ⟨it,fp,tn,J,H2,e,I2,T,st2,f2,h2⟩ := h2
 subst e
 refine wpAny_newObj_type ?_
 obtain ⟨W,⟨m0,w0⟩,turn⟩ := h2 s2.heap.objs.size I2.fresh
 have I3 : Inv X pins σ (upd H2 s2.heap.objs.size (.lst [])) { s2 with heap := s2.heap.push { cls := .type "list",data := .seq ([] : List Value).toArray },toks := s2.toks } := I2.lnew .nil (Nat.zero_le _)
 have fpl : ∀ b ∈ fp,b < s2.heap.objs.size := λ b hb => by
  obtain ⟨o,e,_⟩ := T.obj _ _ st2 b hb;exact Heap.lt_size e
 have f3 : ∀ b ∈ fp,FpOk X pins (upd H2 s2.heap.objs.size (.lst [])) b := λ b hb => ⟨by rw [upd_ne (Nat.ne_of_lt (fpl b hb))]; exact (f2 b hb).1,(f2 b hb).2⟩
 generalize hs3 : ({ s2 with heap := s2.heap.push { cls := .type "list",data := .seq ([] : List Value).toArray },toks := s2.toks } : Shared) = s3 at I3
 have hsz : s3.heap.objs.size = s2.heap.objs.size + 1 := by rw [<- hs3]; exact Heap.size_push _ _
 have st3 : tn 0 s3.heap := T.keep _ _ _ st2 λ b hb o e => by rw [<- hs3]; exact Heap.get?_push_of_some _ e
 refine wpAny_newFunctionEnv S.nocell (by intro y hy; simp at hy) (λ h4 hn4 hsb4 => ?_) S.kind
 have hk4 : ∀ b o,s3.heap.get? b = some o -> h4.get? b = some o := λ b o e => hsb4.extBut b o (Nat.ne_of_lt (Heap.lt_size e)) (Heap.get?_push_of_some _ e)
 have I4 := comp_start (idx := idx) (tk := s3.toks + ([] : List (Str × Value)).length) S hix hat I3 f3 (λ b hb => by rw [hsz]; exact Nat.lt_succ_of_lt (fpl b hb)) hn4 hk4
 have fpC : ∀ {H' : Hp} (pl : List (Addr × Obj)),(∀ p ∈ pl,∀ b ∈ fp,p.1 ≠ b) -> (∀ b ∈ fp,H' b = none) -> ∀ b ∈ fp,FpOk (compCx X scope s3.heap.objs.size (own ++ fr) s3 (upd H2 s2.heap.objs.size (.lst [])) pins fp) pl H' b := λ {H'} pl hpl hn b hb => by
  obtain ⟨g0,g1,g2,g3,g4,g5⟩ := f3 b hb;refine ⟨hn b hb,?_,λ z => ?_,.inl hb,λ x c e => g4 x c ((closL_sub _ _ x c e).elim id λ z => nomatch z),λ p hp => ?_⟩
  . show b ≠ s3.heap.objs.size
    exact Nat.ne_of_lt (by rw [hsz]; exact Nat.lt_succ_of_lt (fpl b hb))
  . rcases List.mem_cons.mp (I3.stkSub b z) with q | q
    . exact g1 q
    . exact g2 q
  . rcases List.mem_append.mp hp with q | q
    . exact g5 p q
    . exact hpl p q b hb
 have loop : codeAny (model X.prog X.w) X.A (.compLoop (.ListComp elt [⟨tg,iter,ifs,0⟩] scope pos) 0 (.ref it) (.ref s2.heap.objs.size) (compEnvC scope (closL X.env scope.names []) s3.heap.objs.size X.env))
  (compPost (model X.prog X.w) X.A X.xe none (EP X pins σ Q) (.ref s2.heap.objs.size) s3.heap.objs.size) { s3 with heap := h4,toks := s3.toks + ([] : List (Str × Value)).length } := by
  refine comp_core (Y := compCx X scope s3.heap.objs.size (own ++ fr) s3 (upd H2 s2.heap.objs.size (.lst [])) pins fp) (W := W) (m0 := m0) hc (hg _ _ _ _ _) (ht _ _ _ _ _) (he _ _ _ _ _) (λ _ _ z => z) T (λ hn => fpC [] (λ _ z => nomatch z) hn) turn (λ s6 σ5 H5 I6 q => ?_) ⟨0,[],_,_,I4,T.keep _ _ _ st3 λ b _ o e => hk4 b o e,λ b hb => (f3 b hb).1,upd_same,w0⟩;obtain ⟨m6,hn6,_⟩ := id I6.loc;refine ⟨m6,hn6,λ h' hsb => ?_⟩;exact ⟨.ref s2.heap.objs.size,H5,comp_back I3 f3 I6 hsb,rfl,q⟩
 exact codeAny_compStart_list loop (T.self _ 0 _ _ _ (T.keep _ _ _ st3 λ b _ o e => hk4 b o e) loop)
theorem comp_gen {J : It} {n : Nat} {item : Nat -> V} {g : TG} {tc : TT} {te : TE} {σ0 : St} {H1 : Hp} {D : Addr} {Q : VK} (Pv : Nat -> List V -> St -> Hp -> Prop) (h0 : Pv 0 [] σ0 (upd H1 D (.lst []))) (hn : n <= 100000)
 (hgo : ∀ i ys σ H,i < n -> Pv i ys σ H -> J.go i H /\ ∀ x H',J.yld i H x H' -> H' = H /\ x = item i) (hst : ∀ ys σ H,Pv n ys σ H -> J.stop n H) (hl : ∀ i ys σ H,Pv i ys σ H -> ys.length <= i)
 (hs : ∀ i ys σ H,i < n -> H D = some (.lst ys) -> Pv i ys σ H -> g (item i) σ H λ σ2 H2 => tc σ2 H2 λ b H3 =>
  if b = true then te σ2 H3 λ v H4 => H4 D = some (.lst ys) /\ Pv (i + 1) (ys ++ [v]) σ2 (upd H4 D (.lst (ys ++ [v]))) else H3 D = some (.lst ys) /\ Pv (i + 1) ys σ2 H3)
 (hd : ∀ ys σ H,H D = some (.lst ys) -> Pv n ys σ H -> Q (.ref D) H) : CompLoop J D g tc te Q σ0 H1 := by
 refine ⟨λ i m ys σ H => m = n - i /\ i <= n /\ Pv i ys σ H,⟨n,by simp,Nat.zero_le _,h0⟩,?_⟩
 rintro i m ys σ H hD ⟨rfl,hi,p⟩
 by_cases hlt : i < n
 . have hz : ys.length < sizeLine := by
    have h1 := hl i ys σ H p;have h2 : (100000 : Nat) < sizeLine := by rw [sizeLine_eq]; decide
    omega
   obtain ⟨go,yl⟩ := hgo i ys σ H hlt p;refine .inr ⟨go,hz,Pv (i + 1),λ ys' σ' H' p' => ⟨n - (i + 1),by omega,rfl,hlt,p'⟩,λ x H' y => ?_⟩;obtain ⟨e1,e2⟩ := yl x H' y;subst e1 e2;exact hs i ys σ _ hlt hD p
 . have e : i = n := by omega
   subst e;exact .inl ⟨hst ys σ H p,hd ys σ H hD p⟩
theorem comp_range {lo : Int} {n : Nat} {g : TG} {tc : TT} {te : TE} {σ0 : St} {H1 : Hp} {D : Addr} {Q : VK} (Pv : Nat -> List V -> St -> Hp -> Prop) (h0 : Pv 0 [] σ0 (upd H1 D (.lst []))) (hn : n <= 100000) (hl : ∀ i ys σ H,Pv i ys σ H -> ys.length <= i)
 (hs : ∀ i ys σ H,i < n -> H D = some (.lst ys) -> Pv i ys σ H -> g (.int (lo + i)) σ H λ σ2 H2 => tc σ2 H2 λ b H3 =>
  if b = true then te σ2 H3 λ v H4 => H4 D = some (.lst ys) /\ Pv (i + 1) (ys ++ [v]) σ2 (upd H4 D (.lst (ys ++ [v]))) else H3 D = some (.lst ys) /\ Pv (i + 1) ys σ2 H3)
 (hd : ∀ ys σ H,H D = some (.lst ys) -> Pv n ys σ H -> Q (.ref D) H) : CompLoop (Itr lo n) D g tc te Q σ0 H1 :=
 comp_gen (item := λ i => .int (lo + i)) Pv h0 hn (λ i ys σ H hi _ => ⟨hi,λ x H' y => y⟩) (λ _ _ _ _ => Nat.le_refl _) hl hs hd
theorem comp_list {K : W.Frag} {a : Addr} {xs : List V} {g : TG} {tc : TT} {te : TE} {σ0 : St} {H1 : Hp} {D : Addr} {Q : VK} (Pv : Nat -> List V -> St -> Hp -> Prop) (h0 : Pv 0 [] σ0 (upd H1 D (.lst []))) (hn : xs.length <= 100000) (hl : ∀ i ys σ H,Pv i ys σ H -> ys.length <= i)
 (ha : ∀ i ys σ H,Pv i ys σ H -> SqL K H a xs)
 (hs : ∀ i x ys σ H,xs[i]? = some x -> H D = some (.lst ys) -> Pv i ys σ H -> g x σ H λ σ2 H2 => tc σ2 H2 λ b H3 =>
  if b = true then te σ2 H3 λ v H4 => H4 D = some (.lst ys) /\ Pv (i + 1) (ys ++ [v]) σ2 (upd H4 D (.lst (ys ++ [v]))) else H3 D = some (.lst ys) /\ Pv (i + 1) ys σ2 H3)
 (hd : ∀ ys σ H,H D = some (.lst ys) -> Pv xs.length ys σ H -> Q (.ref D) H) : CompLoop (Itl K a) D g tc te Q σ0 H1 := by
 refine comp_gen (n := xs.length) (item := λ i => xs.getD i .non) Pv h0 hn (λ i ys σ H hi p => ?_) (λ ys σ H p => ⟨xs,ha _ _ _ _ p,Nat.le_refl _⟩) hl (λ i ys σ H hi hD p => ?_) hd
 . have e : xs[i]? = some xs[i] := List.getElem?_eq_getElem hi;refine ⟨⟨xs,xs[i],ha _ _ _ _ p,e⟩,λ x H' y => ⟨y.1,?_⟩⟩;have q := y.2 xs (ha _ _ _ _ p);rw [List.getD_eq_getElem?_getD,q]; rfl
 . have e : xs[i]? = some (xs.getD i .non) := by rw [List.getD_eq_getElem?_getD,List.getElem?_eq_getElem hi]; rfl
   exact hs i _ ys σ H e hD p
theorem comp_tup {K : W.Frag} {a : Addr} {xs : List V} {g : TG} {tc : TT} {te : TE} {σ0 : St} {H1 : Hp} {D : Addr} {Q : VK} (Pv : Nat -> List V -> St -> Hp -> Prop) (h0 : Pv 0 [] σ0 (upd H1 D (.lst []))) (hn : xs.length <= 100000) (hl : ∀ i ys σ H,Pv i ys σ H -> ys.length <= i)
 (ha : ∀ i ys σ H,Pv i ys σ H -> SqT K H a xs)
 (hs : ∀ i x ys σ H,xs[i]? = some x -> H D = some (.lst ys) -> Pv i ys σ H -> g x σ H λ σ2 H2 => tc σ2 H2 λ b H3 =>
  if b = true then te σ2 H3 λ v H4 => H4 D = some (.lst ys) /\ Pv (i + 1) (ys ++ [v]) σ2 (upd H4 D (.lst (ys ++ [v]))) else H3 D = some (.lst ys) /\ Pv (i + 1) ys σ2 H3)
 (hd : ∀ ys σ H,H D = some (.lst ys) -> Pv xs.length ys σ H -> Q (.ref D) H) : CompLoop (Itt K a) D g tc te Q σ0 H1 := by
 refine comp_gen (n := xs.length) (item := λ i => xs.getD i .non) Pv h0 hn (λ i ys σ H hi p => ?_) (λ ys σ H p => ⟨xs,ha _ _ _ _ p,Nat.le_refl _⟩) hl (λ i ys σ H hi hD p => ?_) hd
 . have e : xs[i]? = some xs[i] := List.getElem?_eq_getElem hi;refine ⟨⟨xs,xs[i],ha _ _ _ _ p,e⟩,λ x H' y => ⟨y.1,?_⟩⟩;have q := y.2 xs (ha _ _ _ _ p);rw [List.getD_eq_getElem?_getD,q]; rfl
 . have e : xs[i]? = some (xs.getD i .non) := by rw [List.getD_eq_getElem?_getD,List.getElem?_eq_getElem hi]; rfl
   exact hs i _ ys σ H e hD p
def CDivB (_i j : Int) : Prop := 0 < j /\ j <= 2 ^ 100
theorem log2_small {n : Nat} (h : n <= 2 ^ 100) : n.log2 < 9000 := by
 by_cases h0 : n = 0
 . subst h0; decide
 . exact (Nat.log2_lt h0).mpr (Nat.lt_of_le_of_lt h (Nat.pow_lt_pow_right (by decide) (by decide)))
theorem op_fdivB : OpR X (binaryOp .FloorDiv) (rI CDivB λ i j => .int (i / j)) := opI λ i j _ _ _ _ _ hc q => by
 have h1 : (0 : Int) < j := hc.1
 have h2 : j <= 2 ^ 100 := hc.2
 have e : j.natAbs <= 2 ^ 100 := by
  have : ((j.natAbs : Nat) : Int) <= ((2 ^ 100 : Nat) : Int) := by rw [Int.natAbs_of_nonneg (by omega)]; exact h2
  exact Int.ofNat_le.mp this
 exact floordiv_int (by omega) (by rw [Int.fdiv_eq_ediv_of_nonneg i (by omega)]; exact q) (.inl (PyProof.noPylong_of_log2 (log2_small e)))
theorem strsAre_of {ys : List Str} : ∀ {us : List Value},Vals (ys.map V.str) us -> StrsAre us ys := by
 induction ys with
 | nil => intro us h; cases h; exact .nil
 | cons y r ih =>
  intro us h;cases h with
  | cons a b =>
   obtain ⟨t,rfl⟩ := a;exact .cons _ _ (ih b)
def rJoin (K : W.Frag) : V -> List V -> Hp -> VK -> Prop := λ x xs H Q => ∃ sep p ys,x = .str sep /\ xs = [.ref p] /\ SqL K H p (ys.map V.str) /\ (ys.map (·.length)).sum + ys.length * sep.length <= 16777216 /\ Q (.str (Txt.join sep ys)) H
theorem mt_join : MtR X "str.join" (rJoin X.K) := by
 intro pins s σ H x xs v us Q I rx rs h
 obtain ⟨sep,p,ys,rfl,rfl,hq,hz,q⟩ := h
 obtain ⟨t,rfl⟩ := rx
 obtain ⟨u,rfl,ru⟩ := rs.one
 cases ru
 obtain ⟨its,r,pl,_⟩ := I.list hq
 exact join_list pl.isList (strsAre_of r) hz λ t' k => ⟨.str (Txt.join sep ys),H,I.tok k,⟨_,rfl⟩,q⟩
def rSlS : V -> Option Int -> Option Int -> Hp -> VK -> Prop := λ x lo hi H Q => ∃ z,x = .str z /\ z.length <= sizeLine /\ Q (.str (Txt.slice z lo hi)) H
theorem sl_str : SlR X rSlS := by
 intro pins s σ H x v vl vu lo hi sl Q I rx hs pl pu h
 obtain ⟨z,rfl,hz,q⟩ := h
 obtain ⟨t,rfl⟩ := rx
 refine ⟨"str",_,F.slot_str_getitem.lookup,typeIs_str _ _ _,?_⟩
 have fin : ∀ t' k,EP X pins σ Q (.str (Txt.slice z lo hi) t') { s with toks := k } := λ t' k => ⟨.str (Txt.slice z lo hi),H,I.tok k,⟨_,rfl⟩,q⟩
 cases pl with
 | none =>
  cases pu with
  | none => exact wpAny_getItem_str_slice (l := none) (u := none) (st := none) hs rfl (post_val_or_str ⟨Nat.le_trans (Txt.slice_le z _ _) hz,λ t' k => fin t' k⟩)
  | int j uj => exact wpAny_getItem_str_slice (l := none) (u := some (j,uj)) (st := none) hs rfl (post_val_or_str ⟨Nat.le_trans (Txt.slice_le z _ _) hz,λ t' k => fin t' k⟩)
 | int i ui =>
  cases pu with
  | none => exact wpAny_getItem_str_slice (l := some (i,ui)) (u := none) (st := none) hs rfl (post_val_or_str ⟨Nat.le_trans (Txt.slice_le z _ _) hz,λ t' k => fin t' k⟩)
  | int j uj => exact wpAny_getItem_str_slice (l := some (i,ui)) (u := some (j,uj)) (st := none) hs rfl (post_val_or_str ⟨Nat.le_trans (Txt.slice_le z _ _) hz,λ t' k => fin t' k⟩)
theorem Inv.turnLaid {pins : List (Addr × Obj)} {σ : St} {H : Hp} {s : Shared} {h' : Heap} {ch : List Addr} {T : Addr} {o : HO} {t' : Nat} (I : Inv X pins σ H s) (hch : ∀ b ∈ ch,FpOk X pins H b) (keep : ∀ b ob,b ∉ ch -> s.heap.get? b = some ob -> h'.get? b = some ob)
 (hT : s.heap.objs.size <= T) (new : ObjOk X.prog X.w (upd H T o) h' T o) : Inv X pins σ (upd H T o) { s with heap := h',toks := t' } := by
 have nT : ∀ b ob,s.heap.get? b = some ob -> b ≠ T := λ b ob e => Nat.ne_of_lt (Nat.lt_of_lt_of_le (Heap.lt_size e) hT)
 have fT : H T = none := I.hok.fresh hT
 have nch : ∀ b u,H b = some u -> b ∉ ch := λ b u e z => by rw [(hch b z).1] at e; cases e
 refine I.step (g' := s.gens) (d' := s.drawn) (ch := ch) (λ b hb => ?_) (λ b ob _ _ hc e _ => keep b ob hc e) (λ b ob _ _ hc e _ => ⟨ob.slots,keep b ob hc e⟩) (λ b ob _ e n => by rw [upd_ne (nT b ob e)]; exact n)
  (λ b ob hc e => ⟨ob,keep b ob hc e⟩) (λ b xs e => by rw [upd_ne (ne_of_none e fT)]; exact e) (λ b ob u e => by rw [upd_ne (ne_of_none e fT)]; exact e) (λ b ps e => ⟨#[],by rw [upd_ne (ne_of_none e fT),e]; simp⟩) (λ m hm => ?_) (λ b u e => ?_) I.bare
 . obtain ⟨_,f1,_,f3,f4,f5⟩ := hch b hb;exact ⟨f3,f1,f4,f5⟩
 . obtain ⟨ob,es,ep,ho,r⟩ := hm;exact ⟨ob,es,ep,keep _ ob (λ z => (hch _ z).2.1 rfl) ho,r⟩
 . by_cases hb : b = T
   . subst hb; rw [upd_same] at e; cases e; exact new
   . rw [upd_ne hb] at e;refine (I.hok b u e).stay (λ c v hc q => keep c v ?_ q) (λ c q => by rw [upd_ne (ne_of_none q fT)]; exact q) λ c xs q => by rw [upd_ne (ne_of_none q fT)]; exact q
     rcases hc with z | z
     . rw [z]; exact nch b u e
     . exact nch c _ z
theorem Inv.turnedL {pins : List (Addr × Obj)} {σ : St} {H : Hp} {s : Shared} {h' : Heap} {ch : List Addr} {t' : Nat} (I : Inv X pins σ H s) (hch : ∀ b ∈ ch,FpOk X pins H b) (keep : ∀ b ob,b ∉ ch -> s.heap.get? b = some ob -> h'.get? b = some ob) :
 Inv X pins σ H { s with heap := h',toks := t' } := by
 have nch : ∀ b u,H b = some u -> b ∉ ch := λ b u e z => by rw [(hch b z).1] at e; cases e
 refine I.step (g' := s.gens) (d' := s.drawn) (ch := ch) (λ b hb => ?_) (λ b ob _ _ hc e _ => keep b ob hc e) (λ b ob _ _ hc e _ => ⟨ob.slots,keep b ob hc e⟩) (λ b ob _ e n => n)
  (λ b ob hc e => ⟨ob,keep b ob hc e⟩) (λ b xs e => e) (λ b ob u e => e) (λ b ps e => ⟨#[],by rw [e]; simp⟩) (λ m hm => ?_) (λ b u e => ?_) I.bare
 . obtain ⟨_,f1,_,f3,f4,f5⟩ := hch b hb;exact ⟨f3,f1,f4,f5⟩
 . obtain ⟨ob,es,ep,ho,r⟩ := hm;exact ⟨ob,es,ep,keep _ ob (λ z => (hch _ z).2.1 rfl) ho,r⟩
 . refine (I.hok b u e).stay (λ c v hc q => keep c v ?_ q) (λ c q => q) λ c xs q => q
   rcases hc with z | z
   . rw [z]; exact nch b u e
   . exact nch c _ z
def Its (x : Str) : It := ⟨λ i _ => i < x.cps.size,λ i H v H' => H' = H /\ ∃ c,x.cps[i]? = some c /\ v = .str ⟨#[c]⟩,λ i _ => x.cps.size <= i⟩
theorem strIter_ok {ty : String} {x : Str} {t : Tok} {i : Nat} {h : Heap} {it : Addr} (st : h.IsStrIter it ty x t i) : ∀ b ∈ [it],∃ o,h.get? b = some o /\ ∀ v,o.data ≠ .cell v := λ b hb => by
 have e : b = it := by simpa using hb
 subst e
 obtain ⟨o,e,c,d⟩ := st
 exact ⟨o,e,λ v z => by rw [d] at z; cases z⟩
theorem turn_str {P : Program} {w : World} {K : W.Frag} {y : Str} {p : Pos} (it : Addr) (x : Str) (t : Tok) : Turn P w K (.Name y p) (Its x) [it] it (λ i h => h.IsStrIter it (strIterType x) x t i) where
 mem := by simp
 obj := λ i h st => strIter_ok st
 keep := λ i h h' st k => by
  obtain ⟨o,e,r⟩ := st;exact ⟨o,k it (by simp) o e,r⟩
 item := by
  intro X hP hw hK hc i pins s σ H E I hf st hg;subst hP hw hK;obtain ⟨f0,f1,f2,f3,f4,f5⟩ := hf it (by simp);have hlt : i < x.cps.size := hg;have hi : x.cps[i]? = some x.cps[i] := Array.getElem?_eq_getElem hlt;have fin : ∀ h',h'.IsStrIter it (strIterType x) x t (i + 1) -> Heap.SameBut it s.heap h' -> ∃ u,some (Value.str ⟨#[x.cps[i]]⟩ s.toks) = some u /\
   wpAny (model X.prog X.w) X.A (letOwnedTupleGo (.Name y p) (.ref it) u) (λ _ s2 => ∃ v H',Inv X pins σ H' s2 /\ RelV v u /\ (Its x).yld i H v H' /\ s2.heap.IsStrIter it (strIterType x) x t (i + 1) /\ ∀ b ∈ [it],H' b = none) E { s with heap := h',toks := s.toks + 1 } := λ h' st' sb => by
   have I1 : Inv X pins σ H { s with heap := h',toks := s.toks + 1 } := I.turned (λ b o hb e => (sb.2 b hb).trans e) f0 f1 f3 f4 f5;exact ⟨_,rfl,wpAny_pure ⟨.str ⟨#[x.cps[i]]⟩,H,I1,⟨_,rfl⟩,⟨rfl,_,hi,rfl⟩,st',λ b hb => (hf b hb).1⟩⟩
  unfold strIterType at st fin ⊢;cases ha : x.cps.all (· < 128)
  . rw [ha] at st fin;exact wpAny_pyNext_wide_item st hi λ h' st' sb => fin h' st' sb
  . rw [ha] at st fin;exact wpAny_pyNext_ascii_item st hi λ h' st' sb => fin h' st' sb
 done := by
  intro X hP hw hK hc i pins s σ H E I hf st hg;subst hP hw hK;obtain ⟨f0,f1,f2,f3,f4,f5⟩ := hf it (by simp);have hi : x.cps[i]? = none := Array.getElem?_eq_none hg;have fin : ∀ h',Heap.ExtBut it s.heap h' -> (none : Option Value) = none /\ Inv X pins σ H { s with heap := h' } := λ h' eb => ⟨rfl,I.turned (t' := s.toks) (λ b o hb e => eb b o hb e) f0 f1 f3 f4 f5⟩;unfold strIterType at st;cases ha : x.cps.all (· < 128)
  . rw [ha] at st;exact wpAny_pyNext_wide_end (I.ok.hd hc) st hi λ h' eb => fin h' eb
  . rw [ha] at st;exact wpAny_pyNext_ascii_end (I.ok.hd hc) st hi λ h' eb => fin h' eb
 self := λ A i s Q E st h => by
  unfold strIterType at st;cases ha : x.cps.all (· < 128)
  . rw [ha] at st;exact wpAny_pyIter_striter_wide st h
  . rw [ha] at st;exact wpAny_pyIter_striter_ascii st h
def iStr (tl : TE) : TI := λ σ H R => tl σ H λ x H1 => ∃ z,x = .str z /\ R (Its z) H1
theorem pi_str {X : Cx} {y : Str} {p : Pos} {l : Expr} {tl : TE} (hl : PE X l tl) : PI X (.Name y p) l (iStr tl) := by
 intro pins s σ H R I h
 refine thn (hl pins s σ H _ I h) λ v s1 ⟨x,H1,I1,r1,q1⟩ => ?_
 obtain ⟨z,e,q⟩ := q1
 subst e
 obtain ⟨t,rfl⟩ := r1
 refine wpAny_pyIter_strU ?_
 refine ⟨s1.heap.objs.size,[s1.heap.objs.size],_,_,H1,rfl,I1.kept (t' := s1.toks) λ b o e => Heap.get?_push_of_some _ e,turn_str _ z t,⟨_,Heap.get?_push_size _ rfl,rfl,rfl⟩,λ b hb => ?_,q⟩
 have e : b = s1.heap.objs.size := by simpa using hb
 subst e
 exact I1.fpOk (Nat.le_refl _) (I1.hok.fresh (Nat.le_refl _))
theorem comp_str {z : Str} {g : TG} {tc : TT} {te : TE} {σ0 : St} {H1 : Hp} {D : Addr} {Q : VK} (Pv : Nat -> List V -> St -> Hp -> Prop) (h0 : Pv 0 [] σ0 (upd H1 D (.lst []))) (hn : z.cps.size <= 100000) (hl : ∀ i ys σ H,Pv i ys σ H -> ys.length <= i)
 (hs : ∀ i c ys σ H,z.cps[i]? = some c -> H D = some (.lst ys) -> Pv i ys σ H -> g (.str ⟨#[c]⟩) σ H λ σ2 H2 => tc σ2 H2 λ b H3 =>
  if b = true then te σ2 H3 λ v H4 => H4 D = some (.lst ys) /\ Pv (i + 1) (ys ++ [v]) σ2 (upd H4 D (.lst (ys ++ [v]))) else H3 D = some (.lst ys) /\ Pv (i + 1) ys σ2 H3)
 (hd : ∀ ys σ H,H D = some (.lst ys) -> Pv z.cps.size ys σ H -> Q (.ref D) H) : CompLoop (Its z) D g tc te Q σ0 H1 := by
 refine comp_gen (n := z.cps.size) (item := λ i => .str ⟨#[z.cps.getD i 0]⟩) Pv h0 hn (λ i ys σ H hi p => ⟨hi,λ x H' y => ?_⟩) (λ ys σ H p => Nat.le_refl _) hl (λ i ys σ H hi hD p => ?_) hd
 . obtain ⟨e,c,e1,e2⟩ := y;refine ⟨e,?_⟩;rw [e2,Array.getD_eq_getD_getElem?,e1]; rfl
 . have e : z.cps[i]? = some (z.cps.getD i 0) := by rw [Array.getD_eq_getD_getElem?]; simp [hi]
   exact hs i _ ys σ H e hD p
def Ite (K : W.Frag) (a : Addr) : It :=
 ⟨λ i H => ∃ xs x,SqL K H a xs /\ xs[i]? = some x,λ i H v H' => ∃ T,H T = none /\ v = .ref T /\ ∀ xs,SqL K H a xs -> ∃ x,xs[i]? = some x /\ H' = upd H T (.tup [.int i,x]),λ i H => ∃ xs,SqL K H a xs /\ xs.length <= i⟩
theorem turn_enum {P : Program} {w : World} {K : W.Frag} {elts : List Expr} {k : Nat} {pos : Pos} (a e it : Addr) (hne : e ≠ it) : Turn P w K (.Tuple elts k pos) (Ite K a) [e,it] e (λ i h => (∃ old,IsEnum h e it i old) /\ h.IsListIter it a i) where
 mem := by simp
 obj := λ i h st b hb => by
  obtain ⟨⟨old,he⟩,o,ho,c,d⟩ := st
  rcases List.mem_cons.mp hb with z | z
  . subst z;exact ⟨_,he,λ v q => by
     have q' : Data.fields _ = Data.cell v := q;cases q'⟩
  . have z' : b = it := by simpa using z
    subst z';exact ⟨o,ho,λ v q => by rw [d] at q; cases q⟩
 keep := λ i h h' st kk => by
  obtain ⟨⟨old,he⟩,hl⟩ := st;exact ⟨⟨old,kk e (by simp) _ he⟩,hl.at λ o q => kk it (by simp) o q⟩
 item := by
  intro X hP hw hK hc i pins s σ H E I hf st hg;subst hP hw hK;obtain ⟨xs,x,hq,hx⟩ := hg;obtain ⟨⟨old,he⟩,hl⟩ := st;obtain ⟨its,rv,pl,hz⟩ := I.list hq;obtain ⟨u,hu,ru⟩ := rv.get hx;refine wpAny_pyNext_enum_item he hl pl.isList (x := u) (by simpa using hu) hne λ h' eo li tp hsz kk => ?_;refine ⟨_,rfl,wpAny_letOwnedTupleGo_enum (s := { s with heap := h',toks := s.toks + 1 }) eo λ h2 en sb => ?_⟩;have hTe : s.heap.objs.size ≠ e := Nat.ne_of_gt (Heap.lt_size he);have hs' : h2.get? s.heap.objs.size = some { cls := .type "tuple",data := .seq #[.int i s.toks,u] } := (sb.2 _ hTe).trans tp;have kp : ∀ b ob,b ∉ [e,it] -> s.heap.get? b = some ob -> h2.get? b = some ob := λ b ob hb q => by
   have h1 : b ≠ e := λ z => hb (by simp [z]);have h2' : b ≠ it := λ z => hb (by simp [z]);exact (sb.2 b h1).trans (kk b ob h1 h2' q)
  have I2 : Inv X pins σ (upd H s.heap.objs.size (.tup [.int i,x])) { s with heap := h2,toks := s.toks + 1 } := I.turnLaid (o := .tup [.int i,x]) (t' := s.toks + 1) hf kp (Nat.le_refl _)
   ⟨by show 2 <= sizeLine; rw [sizeLine_eq]; decide,[.int i s.toks,u],.cons ⟨_,rfl⟩ (.cons ru .nil),⟨_,hs',rfl,_,rfl⟩⟩
  refine ⟨.ref s.heap.objs.size,_,I2,rfl,⟨_,I.fresh,rfl,λ ys hy => ⟨x,by rw [I.list_inj hy hq]; exact hx,rfl⟩⟩,⟨⟨_,en⟩,li.extBut sb.extBut (Ne.symm hne)⟩,λ b hb => ?_⟩;have hlt : b ≠ s.heap.objs.size := by
   obtain ⟨o,ho,_⟩ : ∃ o,s.heap.get? b = some o /\ True := by
    rcases List.mem_cons.mp hb with z | z
    . subst z; exact ⟨_,he,trivial⟩
    . have z' : b = it := by simpa using z
      subst z';obtain ⟨o,ho,_⟩ := hl;exact ⟨o,ho,trivial⟩
   exact Nat.ne_of_lt (Heap.lt_size ho)
  rw [upd_ne hlt];exact (hf b hb).1
 done := by
  intro X hP hw hK hc i pins s σ H E I hf st hg;subst hP hw hK;obtain ⟨xs,hq,hx⟩ := hg;obtain ⟨⟨old,he⟩,hl⟩ := st;obtain ⟨its,rv,pl,hz⟩ := I.list hq;have hlen := rv.length;exact wpAny_pyNext_enum_end (I.ok.hd hc) he hl pl.isList (by simp; omega) λ h' eb => ⟨rfl,I.turnedL (t' := s.toks) hf λ b ob hb q => eb b ob (λ z => hb (by simp [z])) q⟩
 self := λ A i s Q E st h => by
  obtain ⟨⟨old,he⟩,_⟩ := st;exact wpAny_pyIter_enum he h
def iEnum (K : W.Frag) (ta : TA) : TI := λ σ H R => ta σ H λ vs H1 => ∃ a,vs = [.ref a] /\ (∃ xs,SqL K H1 a xs) /\ R (Ite K a) H1
theorem pi_enum {X : Cx} {elts : List Expr} {k : Nat} {tpos : Pos} {l : Expr} {ta : TA} {p pos : Pos} (hg : Gl X "enumerate") (hm : X.mg "enumerate" = none) (ha : PA X [l] ta) (hs : starEach [l] X.env = [(false,eval l X.env)] := by rfl) :
 PI X (.Tuple elts k tpos) (.Call (.Name "enumerate" p) [l] [] pos) (iEnum X.K ta) := by
 intro pins s σ H R I h
 refine Call_ (ld_blt I hg hm (show bootBuiltins "enumerate" = some (.type "enumerate") by decide +kernel) (PyProof.Rows.callWith_type1 (thn (ha pos pins s σ H _ I h) λ us s1 ⟨vs,H1,I1,r1,q1⟩ => ?_) hs rfl))
 obtain ⟨a,e,⟨xs,hq⟩,q⟩ := q1
 subst e
 obtain ⟨u,rfl,ru⟩ := r1.one
 cases ru
 obtain ⟨its,rv,pl,hz⟩ := I1.list hq
 refine call_enumerate_list pl.isList λ h' en li hsz kk => ?_
 have hT : (Shared.mk h' s1.gens s1.drawn s1.toks s1.os).TypeIs (.ref (s1.heap.objs.size + 1)) "enumerate" := ⟨_,en,rfl⟩
 have I2 : Inv X pins σ H1 { s1 with heap := h' } := I1.kept (t' := s1.toks) kk
 have T := turn_enum (P := X.prog) (w := X.w) (K := X.K) (elts := elts) (k := k) (pos := tpos) a (s1.heap.objs.size + 1) s1.heap.objs.size (Nat.ne_of_gt (Nat.lt_succ_self _))
 refine T.self X.A 0 { s1 with heap := h' } _ _ ⟨⟨_,en⟩,li⟩ ⟨_,_,_,_,H1,rfl,I2,T,⟨⟨_,en⟩,li⟩,λ b hb => ?_,q⟩
 have hb' : s1.heap.objs.size <= b := by
  rcases List.mem_cons.mp hb with z | z
  . subst z; exact Nat.le_succ _
  . have z' : b = s1.heap.objs.size := by simpa using z
    subst z'; exact Nat.le_refl _
 exact I1.fpOk hb' (I1.hok.fresh hb')
theorem ns_nocell {h : Heap} {a : Addr} {m : Str -> Option Value} {o : Obj} (n : h.Ns a m) (e : h.get? a = some o) (v : Option Value) (ev : o.data = .cell v) : False := by
 obtain ⟨o',es,ep,ho,r⟩ := n
 rw [e] at ho
 cases ho
 have hd := r.1
 rw [ev] at hd
 cases hd
theorem ps_setC {i : Nat} {y : Str} {py spos : Pos} {elt tg iter : Expr} {ifs : List Expr} {scope : Scope} {own fr : List Str} {idx : List Nat} {wi : TI} {g : TG} {tc : TT} {te : TE} {pos : Pos} (hN : X.N.Nodup) (hiy : X.N[i]? = some y) (hly : Loc X.env.scope y) (hc : X.calm = true) (S : CompScope own fr scope X.env.scope)
 (hi : PI X tg iter wi) (hg : ∀ C s H pins fp,PG (compCx X scope C (own ++ fr) s H pins fp) tg g) (ht : ∀ C s H pins fp,PTs (compCx X scope C (own ++ fr) s H pins fp) ifs tc) (he : ∀ C s H pins fp,PE (compCx X scope C (own ++ fr) s H pins fp) elt te)
 (hix : idx.length = fr.length := by rfl) (hat : ∀ (k : Nat) (x : Str) (j : Nat),fr[k]? = some x -> idx[k]? = some j -> X.N[j]? = some x)
 (hs : ∀ x,foldedSetIterable iter X.env x = pure x := by intro _; rfl) (hf : X.fn y = true \/ X.env.scope.names.lookup y = some .local := by first | exact .inl rfl | exact .inr rfl)
 (hsw : swapsWith (.ListComp elt [⟨tg,iter,ifs,0⟩] scope pos) (some (.Name y py)) spos.line X.env = pure true := by rfl) : PS X (.Assign [.Name y py] (.ListComp elt [⟨tg,iter,ifs,0⟩] scope pos) spos) (tAsg (tComp wi own.length idx g tc te) (gName i)) := by
 intro pins s σ H Dn I h
 rw [exec_Assign_Name_used _ _ _ _ hsw]
 refine wpAny_bind (wpAny_standAt (wpAny_bind ?_))
 show wpAny _ X.A (do let _ <- comprehension (.ListComp elt [⟨tg,iter,ifs,0⟩] scope pos) scope X.env _ (newList []) false (eval iter X.env) (some (assign (.Name y py) X.env))) _ _ s
 have hclos : closureFor scope X.env = pure (closL X.env scope.names []) := clos_eq λ x hx hfree => I.ok.has x.1 (S.outs x hx hfree)
 refine wpAny_bind (wpAny_mono (wpAny_comprehension_free (use := some (assign (.Name y py) X.env)) (Q := λ _ s' => SP X pins Dn .next s') rfl hs hclos S.kind S.names (thn (hi pins s σ H _ I h) λ v s1 h1 => thn h1 λ itv s2 h2 => ?_)) (λ _ s' hq => wpAny_pure (wpAny_pure hq)) λ _ _ e => e)
 obtain ⟨it,fp,tn,J,H2,e,I2,T,st2,f2,h2⟩ := h2
 subst e
 refine wpAny_newObj_type ?_
 obtain ⟨W,⟨m0,w0⟩,turn⟩ := h2 s2.heap.objs.size I2.fresh
 have I3 : Inv X pins σ (upd H2 s2.heap.objs.size (.lst [])) { s2 with heap := s2.heap.push { cls := .type "list",data := .seq ([] : List Value).toArray },toks := s2.toks } := I2.lnew .nil (Nat.zero_le _)
 have fpl : ∀ b ∈ fp,b < s2.heap.objs.size := λ b hb => by
  obtain ⟨o,e,_⟩ := T.obj _ _ st2 b hb;exact Heap.lt_size e
 have f3 : ∀ b ∈ fp,FpOk X pins (upd H2 s2.heap.objs.size (.lst [])) b := λ b hb => ⟨by rw [upd_ne (Nat.ne_of_lt (fpl b hb))]; exact (f2 b hb).1,(f2 b hb).2⟩
 generalize hs3 : ({ s2 with heap := s2.heap.push { cls := .type "list",data := .seq ([] : List Value).toArray },toks := s2.toks } : Shared) = s3 at I3
 have hsz : s3.heap.objs.size = s2.heap.objs.size + 1 := by rw [<- hs3]; exact Heap.size_push _ _
 have st3 : tn 0 s3.heap := T.keep _ _ _ st2 λ b hb o e => by rw [<- hs3]; exact Heap.get?_push_of_some _ e
 refine wpAny_newFunctionEnv S.nocell (by intro y hy; simp at hy) (λ h4 hn4 hsb4 => ?_) S.kind
 have hk4 : ∀ b o,s3.heap.get? b = some o -> h4.get? b = some o := λ b o e => hsb4.extBut b o (Nat.ne_of_lt (Heap.lt_size e)) (Heap.get?_push_of_some _ e)
 have I4 := comp_start (idx := idx) (tk := s3.toks + ([] : List (Str × Value)).length) S hix hat I3 f3 (λ b hb => by rw [hsz]; exact Nat.lt_succ_of_lt (fpl b hb)) hn4 hk4
 have fpC : ∀ {H' : Hp} (pl : List (Addr × Obj)),(∀ p ∈ pl,∀ b ∈ fp,p.1 ≠ b) -> (∀ b ∈ fp,H' b = none) -> ∀ b ∈ fp,FpOk (compCx X scope s3.heap.objs.size (own ++ fr) s3 (upd H2 s2.heap.objs.size (.lst [])) pins fp) pl H' b := λ {H'} pl hpl hn b hb => by
  obtain ⟨g0,g1,g2,g3,g4,g5⟩ := f3 b hb;refine ⟨hn b hb,?_,λ z => ?_,.inl hb,λ x c e => g4 x c ((closL_sub _ _ x c e).elim id λ z => nomatch z),λ p hp => ?_⟩
  . show b ≠ s3.heap.objs.size
    exact Nat.ne_of_lt (by rw [hsz]; exact Nat.lt_succ_of_lt (fpl b hb))
  . rcases List.mem_cons.mp (I3.stkSub b z) with q | q
    . exact g1 q
    . exact g2 q
  . rcases List.mem_append.mp hp with q | q
    . exact g5 p q
    . exact hpl p q b hb
 have loop : codeAny (model X.prog X.w) X.A (.compLoop (.ListComp elt [⟨tg,iter,ifs,0⟩] scope pos) 0 (.ref it) (.ref s2.heap.objs.size) (compEnvC scope (closL X.env scope.names []) s3.heap.objs.size X.env))
  (compPost (model X.prog X.w) X.A X.xe (some (assign (.Name y py) X.env)) (λ _ s' => SP X pins Dn .next s') (.ref s2.heap.objs.size) s3.heap.objs.size) { s3 with heap := h4,toks := s3.toks + ([] : List (Str × Value)).length } := by
  refine comp_core (Y := compCx X scope s3.heap.objs.size (own ++ fr) s3 (upd H2 s2.heap.objs.size (.lst [])) pins fp) (W := W) (m0 := m0) hc (hg _ _ _ _ _) (ht _ _ _ _ _) (he _ _ _ _ _) (λ _ _ z => z) T (λ hn => fpC [] (λ _ z => nomatch z) hn) turn (λ s6 σ5 H5 I6 q => ?_) ⟨0,[],_,_,I4,T.keep _ _ _ st3 λ b _ o e => hk4 b o e,λ b hb => (f3 b hb).1,upd_same,w0⟩;obtain ⟨m6,hn6,_⟩ := id I6.loc;have hn6' : s6.heap.Ns s3.heap.objs.size m6 := hn6;obtain ⟨oC,es,ep,hoC,hrest⟩ := id hn6';have I7 : Inv X pins σ H5 s6 := comp_back (h' := s6.heap) I3 f3 I6 (Heap.SameBut.refl ..);have hfree : H5 s3.heap.objs.size = none := I6.free;have I8 : Inv X (pins ++ [(s3.heap.objs.size,oC)]) σ H5 s6 := I7.pins_of λ p hp => (List.mem_append.mp hp).elim (λ z => I7.pin p (List.mem_append_right _ z)) λ z => by
   have e : p = (s3.heap.objs.size,oC) := List.mem_singleton.mp z;subst e;exact ⟨hoC,hfree,Nat.ne_of_gt I3.lt,I3.nofs (Nat.le_refl _),λ v ev => ns_nocell hn6' hoC v ev⟩
  refine thn (pg_name (pos := py) hN hiy hly hf _ s6 σ H5 (.ref s2.heap.objs.size) (.ref s2.heap.objs.size) _ I8 rfl q) λ _ s9 ⟨σ9,H9,I9,q9⟩ => ?_;have hp9 := I9.pin (s3.heap.objs.size,oC) (List.mem_append_right _ (List.mem_append_right _ (List.mem_singleton.mpr rfl)));refine ⟨m6,hn6'.at' λ o e => ?_,λ h' hsb => ?_⟩
  . rw [hoC] at e;cases e;exact hp9.1
  . refine ⟨σ9,H9,I9.unpinned.turnedL (ch := [s3.heap.objs.size]) (t' := s9.toks) (λ b hb => ?_) λ b ob hb e => ?_,q9⟩
    . rw [List.mem_singleton.mp hb];exact I3.fpOk (Nat.le_refl _) hp9.2.1
    . exact hsb.extBut b ob (λ z => hb (List.mem_singleton.mpr z)) e
 exact codeAny_compStart_list loop (T.self _ 0 _ _ _ (T.keep _ _ _ st3 λ b _ o e => hk4 b o e) loop)
section
variable {prog : Program}
end
section
variable {pos : Pos}
end
theorem strs_vals : ∀ {zs : List Str} {us : List Value},Vals (zs.map V.str) us -> StrsAre us zs
 | [],_,.nil => .nil
 | _ :: _,_,.cons ⟨t,e⟩ r => by
  subst e;exact .cons _ t (strs_vals r)
theorem vals_strs {us : List Value} {zs : List Str} (h : StrsAre us zs) : Vals (zs.map V.str) us := by
 induction h with
 | nil => exact .nil
 | cons _ t r ih => exact .cons ⟨t,rfl⟩ ih
theorem call_sortedS : CallR X (.builtin "sorted") (λ xs H Q => ∃ p zs,xs = [.ref p] /\ SqL X.K H p (zs.map V.str) /\ zs.length < 64 /\ ∀ l zs',H l = none -> zs'.Perm zs -> sortedS zs' = true -> Q (.ref l) (upd H l (.lst (zs'.map V.str)))) := by
 intro pins s σ H xs us Q I r h
 obtain ⟨p,zs,rfl,hq,hz,q⟩ := h
 obtain ⟨u,rfl,rx⟩ := vals1 r
 cases rx
 obtain ⟨its,r',pl,hz'⟩ := I.list hq
 have hlen := r'.length
 rw [List.length_map] at hlen
 refine sorted_strs pl.isList (strs_vals r') (by omega) λ out ss' a1 a2 a3 => ?_
 obtain ⟨e,he⟩ := sortedAll_at s.heap its out
 refine ⟨.ref (s.heap.objs.size + 1),_,I.laid (t' := s.toks) (λ _ _ => sortedAll_old) (Nat.le_succ _) (show ObjOk X.prog X.w _ _ _ (.lst (ss'.map V.str)) from ⟨?_,out.toList,e,vals_strs a1,he⟩),rfl,q _ _ (I.hok.fresh (Nat.le_succ _)) a2 a3⟩
 rw [List.length_map,a2.length_eq]
 rw [List.length_map] at hz'
 exact hz'
section
variable {M : Model}
theorem wpAny_choose {src : Source} {n : Nat} {Q : Nat -> Shared -> Prop} (hn : n ≠ 0) (h : ∀ i,i < n -> ∀ d,Q i { s with drawn := d }) : wpAny M A (choose src n) Q E s := by
 intro Γ p hc
 exact ⟨hn,h _ (Nat.mod_lt _ (Nat.pos_of_ne_zero hn)) _⟩
theorem perm_eraseAt {α : Type} : ∀ (l : List α) (i : Nat) (h : i < l.length),(l[i] :: l.eraseIdx i).Perm l
 | _ :: _,0,_ => .refl _
 | x :: xs,i + 1,h => by
  simp only [List.getElem_cons_succ,List.eraseIdx_cons_succ];exact (List.Perm.swap x _ _).trans (.cons x (perm_eraseAt xs i (by simpa using h)))
theorem wpAny_drawOrder {α : Type} : ∀ (n : Nat) (xs : List α) {Q : List α -> Shared -> Prop} {s : Shared},n = xs.length -> (∀ ys d,ys.Perm xs -> Q ys { s with drawn := d }) -> wpAny M A (drawOrder n xs) Q E s
 | 0,xs,Q,s,e,h => by
  have : xs = [] := List.length_eq_zero_iff.mp e.symm;subst this;exact wpAny_pure (h [] s.drawn .nil)
 | n + 1,[],Q,s,e,h => by cases e
 | n + 1,x :: xs,Q,s,e,h => by
  refine wpAny_bind (wpAny_choose (by simp) λ i hi d => ?_);have hg : (x :: xs)[i]? = some ((x :: xs)[i]) := List.getElem?_eq_getElem hi;rw [hg];refine wpAny_bind (wpAny_drawOrder n _ (by rw [List.length_eraseIdx_of_lt hi]; simp at e ⊢; omega) λ ys d' hp => wpAny_pure (h _ _ ?_));exact (List.Perm.cons _ hp).trans (perm_eraseAt _ _ hi)
end
def SetS (P : Program) (w : World) (led : Bool) (h : Heap) (a : Addr) (zs : List Str) : Prop :=
 ∃ o es ep t,h.get? a = some o /\ o.ExactSet /\ o.data = .set es ep t /\ ElemsOf (mixKind P w) es.toList /\ (∃ us : List Value,(es.toList.map (·.2)).Perm us /\ StrsAre us zs) /\ zs.Nodup
  /\ es.size < scanBound /\ t.fits es.size = true /\ t.led = led /\ (1 <= es.size -> t.plain = false)
theorem strs_length : ∀ {us : List Value} {zs : List Str},StrsAre us zs -> us.length = zs.length
 | _,_,.nil => rfl
 | _,_,.cons _ _ r => congrArg (· + 1) (strs_length r)
abbrev led0 (w : World) : Bool := !(w.params.followText "set-order")
abbrev setO (w : World) : Obj := { cls := .type "set",dict := none,data := .set #[] 0 (.fresh 0 0 (led0 w)) }
section
theorem set_new_led {rest : List Value} {Q₁ : Value -> Shared -> Prop} (hc : checkBuiltinCall "set.__new__" ⟨.type "set" :: rest,[]⟩ = pure ())
 (h : Q₁ (.ref s.heap.objs.size) { s with heap := s.heap.push (setO w) }) : codeAny (model P w) A (.call (.builtin "set.__new__") ⟨.type "set" :: rest,[]⟩) (wants Q₁ E) s := by
 refine codeAny_of_tree (show wpAny _ A.in1 (do checkBuiltinCall "set.__new__" ⟨.type "set" :: rest,[]⟩; again (.builtin "set.__new__" ⟨.type "set" :: rest,[]⟩)) _ _ s from ?_)
 refine wpAny_bind (wpAny_of_eq hc (wpAny_pure ⟨plainId_quiet PySem.F.plain_set_new _,codeAny_builtin PySem.F.entry_set_new ?_⟩))
 rw [PySem.Around.under_plainId PySem.F.plain_set_new _]
 have hsub := PySem.sub_set_self
 obtain ⟨hp,g,d,tk,os⟩ := s
 unfold Builtin.«set.__new__»
 unfold Builtin.Frozenset.newClass
 dsimp only
 wp_walk
 refine wpAny_askSetting (wpAny_pure ?_)
 simp only [newObj]
 exact wpAny_bind (wpAny_alloc (wpAny_pure (wpAny_pure h)))
def firstS (l : List Str) : List Str := l.foldl (λ σ v => if v ∈ σ then σ else σ ++ [v]) []
variable {R : Result -> Shared -> Prop} {I : Addr} {fp wr : List Addr} {G : Array GenState -> Array GenState -> Prop} {n : Nat} {Pv : Nat -> Value -> Prop} {St : Nat -> Shared -> Prop}
end
namespace F
theorem entry_set_iter : entryFor table "set.__iter__" = some Builtin.«frozenset.__iter__» := entryFor_alias (id' := "frozenset.__iter__") (by kernel_rfl) (by first | rfl | decide +kernel) (by decide +kernel) (by kernel_rfl)
theorem slot_setit_next : Slot "set_iterator" "__next__" "set_iterator.__next__" :=
 .of (owner := "set_iterator") (n := "__next__") (by rw [typeLookup_type,builtinLookup_eq_fast]; kernel_rfl) (by decide +kernel) (by decide +kernel) (by decide +kernel)
  (by first | exact .inl (by decide +kernel) | exact .inr (by decide +kernel)) (by rw [isSubtype_type]; kernel_rfl)
theorem entry_setit_next : entryFor table "set_iterator.__next__" = some Builtin.«set_iterator.__next__» := entryFor_of_tree (by kernel_rfl)
theorem args_setit_next (a : Value) : argsOk "set_iterator.__next__" ⟨[a],[]⟩ := by unfold argsOk; kernel_rfl
end F
abbrev setItO (f : Value) (i : Nat) (S : Addr) (n ep : Nat) : Obj := { cls := .type "set_iterator",data := .fields #[f,rawInt i,.ref S,rawInt n,rawInt ep] }
theorem drawn_eq {S : Addr} {o : Obj} {es : Array (Int × Value)} {ep : Nat} {t : SetTable} {Q : Bool -> Shared -> Prop} (ho : s.heap.get? S = some o) (hd : o.data = .set es ep t) (hf : t.fits es.size = true)
 (h : Q (!(w.params.followText "set-order") && (!t.plain && decide (es.size > 1))) s) : wpAny (model P w) A (setDrawn S) Q E s := by
 unfold setDrawn
 refine wpAny_bind (wpAny_setState_of ho hd hf ?_)
 refine wpAny_bind (wpAny_bind (wpAny_askSetting (wpAny_pure ?_)))
 exact wpAny_pure h
theorem iter_set {S : Addr} {o : Obj} {es : Array (Int × Value)} {ep : Nat} {t : SetTable} {Q : Value -> Shared -> Prop} (ho : s.heap.get? S = some o) (hex : o.ExactSet) (hd : o.data = .set es ep t) (hf : t.fits es.size = true) (hb : es.size < scanBound)
 (h1 : (!(w.params.followText "set-order") && (!t.plain && decide (es.size > 1))) = false -> Q (.ref s.heap.objs.size) { s with heap := s.heap.push (setItO (rawInt 0) 0 S es.size ep) })
 (h2 : (!(w.params.followText "set-order") && (!t.plain && decide (es.size > 1))) = true -> ∀ (ps : List Nat) (d : Drawn),ps.Perm (List.range es.size) ->
  Q (.ref (s.heap.objs.size + 1)) { s with drawn := d,heap := (s.heap.push { cls := .type "tuple",data := .seq (ps.map λ i : Nat => rawInt i).toArray }).push (setItO (.ref s.heap.objs.size) 0 S es.size ep) }) :
 wpAny (model P w) A (pyIter (.ref S)) Q E s := by
 have hT : s.TypeIs (.ref S) "set" := ⟨o,ho,hex.1⟩
 refine wpAny_pyIter_slot hT PySem.F.slot_set_iter (wpAny_call_entry PySem.F.slot_set_iter hT F.entry_set_iter ?_ (PySem.F.args_set_iter_1 _))
 unfold Builtin.«frozenset.__iter__»
 refine wpAny_bind (show wpAny _ _ (pure S) _ _ _ from wpAny_pure ?_)
 refine wpAny_bind (show wpAny _ _ (setEntries S >>= λ e => pure e.size) _ _ _ from wpAny_bind (show wpAny _ _ (setState S >>= λ e => pure e.1) _ _ _ from wpAny_bind (wpAny_setState_of ho hd hf (wpAny_pure (wpAny_pure ?_)))))
 refine wpAny_bind (drawn_eq ho hd hf ?_)
 cases hq : (!(w.params.followText "set-order") && (!t.plain && decide (es.size > 1)))
 . rw [if_neg (λ z => nomatch z)];refine wpAny_bind (wpAny_pure (wpAny_bind (wpAny_setEpoch_of ho hd hf ?_)));exact wpAny_bind (wpAny_newObj_type (wpAny_pure ⟨_,rfl,"set_iterator",_,⟨_,Heap.get?_push_size _ rfl,rfl⟩,F.slot_setit_next.lookup,h1 hq⟩))
 . rw [if_pos rfl];refine wpAny_bind (wpAny_drawOrder _ _ (by rw [List.length_range]) λ ps d hp => ?_);have hz : (ps.map λ i : Nat => rawInt i).length <= sizeLine := by
    rw [List.length_map,hp.length_eq,List.length_range];exact fits_of_scanBound hb
   refine wpAny_bind (wpAny_newTuple (wpAny_bind (wpAny_setEpoch_of (Heap.get?_push_of_some _ ho) hd hf ?_)) hz);refine wpAny_bind (wpAny_newObj_type (wpAny_pure ⟨_,rfl,"set_iterator",_,⟨_,Heap.get?_push_size _ rfl,rfl⟩,F.slot_setit_next.lookup,?_⟩));have e : (s.heap.push { cls := .type "tuple",data := .seq (ps.map λ i : Nat => rawInt i).toArray }).objs.size = s.heap.objs.size + 1 := Heap.size_push _ _;rw [e];exact h2 hq ps d hp
end L2
namespace L2
open PySem PySem.Spec PyProof.Rows
variable {P : Program} {w : World} {A : Around} {E : Value -> Shared -> Prop} {s : Shared} {I S T a : Addr} {ep : Nat} {X : Cx} {e : Expr} {H : Hp} {pins : List (Addr × Obj)} {σ : St} {y : V} {u : Value}
section
variable {i : Nat} {es : Array (Int × Value)} {t : SetTable} {o : Obj}
theorem setEntries_of {Q : Array (Int × Value) -> Shared -> Prop} (ho : s.heap.get? S = some o) (hd : o.data = .set es ep t) (hf : t.fits es.size = true) (h : Q es s) : wpAny (model P w) A (setEntries S) Q E s := by
 unfold setEntries
 exact wpAny_bind (wpAny_setState_of ho hd hf (wpAny_pure h))
theorem next_drawn {places : Array Value} {p : Nat} {pk : Tok} {hx : Int} {x : Value} {n : Nat} {Q : Option Value -> Shared -> Prop} (hit : s.heap.get? I = some (setItO (.ref T) i S es.size ep)) (ho : s.heap.get? S = some o) (hd : o.data = .set es ep t) (hf : t.fits es.size = true)
 (hT : s.heap.get? T = some { cls := .type "tuple",data := .seq places n }) (hp : places[i]? = some (.int p pk)) (he : es[p]? = some (hx,x))
 (h : ∀ h',h'.get? I = some (setItO (.ref T) (i + 1) S es.size ep) -> Heap.SameBut I s.heap h' -> Q (some x) { s with heap := h' }) : wpAny (model P w) A (pyNext (.ref I)) Q E s := by
 have hTy : s.TypeIs (.ref I) "set_iterator" := ⟨_,hit,rfl⟩
 unfold pyNext
 refine wpAny_bind (wpAny_attempt (wpAny_callSpecial?_slot (name := Str.ofString "__next__") hTy F.slot_setit_next (wpAny_call_entry F.slot_setit_next hTy F.entry_setit_next ?_ (F.args_setit_next _))))
 unfold Builtin.«set_iterator.__next__»
 refine wpAny_bind (wpAny_pure (wpAny_bind (show wpAny _ _ (fieldsOf (.ref I)) _ _ _ from wpAny_fieldsOf hit rfl ?_)))
 refine (show wpAny _ _ (setEntries S >>= _) _ _ _ from wpAny_bind (setEntries_of ho hd hf ?_))
 rw [if_neg (by simp)]
 refine (show wpAny _ _ (seqItems? (.ref T) >>= _) _ _ _ from wpAny_bind (wpAny_seqItems hT rfl ?_))
 simp only [Int.toNat_natCast,hp]
 refine wpAny_bind (show wpAny _ _ (setState S >>= _) _ _ _ from wpAny_bind (wpAny_setState_of ho hd hf ?_))
 dsimp only
 rw [if_neg (by simp),he]
 exact wpAny_pure (wpAny_bind (wpAny_setField hit rfl (by simp) (wpAny_pure ⟨x,rfl,wpAny_pure (h _ (Heap.get?_update_self _ hit rfl) (Heap.SameBut.update ..))⟩)))
theorem next_drawn_end {places : Array Value} {n : Nat} {Q : Option Value -> Shared -> Prop} (hh : A.handled = none) (hit : s.heap.get? I = some (setItO (.ref T) i S es.size ep)) (ho : s.heap.get? S = some o) (hd : o.data = .set es ep t) (hf : t.fits es.size = true)
 (hT : s.heap.get? T = some { cls := .type "tuple",data := .seq places n }) (hp : places[i]? = none)
 (h : ∀ h',Heap.ExtBut I s.heap h' -> Q none { s with heap := h' }) : wpAny (model P w) A (pyNext (.ref I)) Q E s := by
 have hTy : s.TypeIs (.ref I) "set_iterator" := ⟨_,hit,rfl⟩
 unfold pyNext
 refine wpAny_bind (wpAny_attempt (wpAny_callSpecial?_slot (name := Str.ofString "__next__") hTy F.slot_setit_next (wpAny_call_entry F.slot_setit_next hTy F.entry_setit_next ?_ (F.args_setit_next _))))
 unfold Builtin.«set_iterator.__next__»
 refine wpAny_bind (wpAny_pure (wpAny_bind (show wpAny _ _ (fieldsOf (.ref I)) _ _ _ from wpAny_fieldsOf hit rfl ?_)))
 refine (show wpAny _ _ (setEntries S >>= _) _ _ _ from wpAny_bind (setEntries_of ho hd hf ?_))
 rw [if_neg (by simp)]
 refine (show wpAny _ _ (seqItems? (.ref T) >>= _) _ _ _ from wpAny_bind (wpAny_seqItems hT rfl ?_))
 simp only [Int.toNat_natCast,hp]
 refine wpAny_bind (wpAny_setField hit rfl (by simp) (wpAny_bind (wpAny_setField (Heap.get?_update_self _ hit rfl) rfl (by simp) ?_)))
 refine (show wpAny _ _ (newExc (.type "StopIteration") [] >>= _) _ _ _ from wpAny_bind ?_)
 simp only [newExc,newTuple]
 refine wpAny_bind (wpAny_newObj_type (wpAny_bind (m := firstArgMember _ _) (wpAny_of_eq (a := Value.none) (by first | rfl | (simp only [firstArgMember]; rfl)) (wpAny_newObj_type ?_ (by size_fits)))) (by size_fits))
 simp only [raiseNew]
 refine wpAny_bind (wpAny_handled ?_)
 rw [show A.in1.handled = none from hh]
 refine wpAny_bind (wpAny_pure (wpAny_throw ?_))
 refine wpAny_bind (wpAny_isInstance (T := "StopIteration") (b := true) ⟨_,Heap.get?_push_size _ rfl,rfl⟩ isSubtype_stop ?_)
 refine wpAny_pure (h _ ?_)
 exact ((((Heap.SameBut.update ..).trans (Heap.SameBut.update ..)).extBut.push _).push _)
def Nxt (P : Program) (w : World) (o : Obj) (S : Addr) (sl i ep : Nat) (r : Option (Value × Nat)) : Prop :=
 ∀ (A : Around) (E : Value -> Shared -> Prop) (s : Shared) (Q : Option (Value × Nat) -> Shared -> Prop),s.heap.get? S = some o -> Q r s -> wpAny (model P w) A (setNext S sl i ep) Q E s
theorem next_led {sl sl' : Nat} {x : Value} {Q : Option Value -> Shared -> Prop} (hit : s.heap.get? I = some (setItO (rawInt sl) i S es.size ep)) (ho : s.heap.get? S = some o) (hd : o.data = .set es ep t) (hf : t.fits es.size = true)
 (hx : Nxt P w o S sl i ep (some (x,sl')))
 (h : ∀ h',h'.get? I = some (setItO (rawInt sl') (i + 1) S es.size ep) -> Heap.SameBut I s.heap h' -> Q (some x) { s with heap := h' }) : wpAny (model P w) A (pyNext (.ref I)) Q E s := by
 have hTy : s.TypeIs (.ref I) "set_iterator" := ⟨_,hit,rfl⟩
 unfold pyNext
 refine wpAny_bind (wpAny_attempt (wpAny_callSpecial?_slot (name := Str.ofString "__next__") hTy F.slot_setit_next (wpAny_call_entry F.slot_setit_next hTy F.entry_setit_next ?_ (F.args_setit_next _))))
 unfold Builtin.«set_iterator.__next__»
 refine wpAny_bind (wpAny_pure (wpAny_bind (show wpAny _ _ (fieldsOf (.ref I)) _ _ _ from wpAny_fieldsOf hit rfl ?_)))
 refine (show wpAny _ _ (setEntries S >>= _) _ _ _ from wpAny_bind (setEntries_of ho hd hf ?_))
 rw [if_neg (by simp)]
 refine (show wpAny _ _ (setNext S (Int.toNat sl) (Int.toNat i) (Int.toNat ep) >>= _) _ _ _ from wpAny_bind ?_)
 rw [Int.toNat_natCast,Int.toNat_natCast,Int.toNat_natCast]
 refine hx _ _ _ _ ho ?_
 refine wpAny_bind (wpAny_setField hit rfl (by simp) (wpAny_bind (wpAny_setField (Heap.get?_update_self _ hit rfl) rfl (by simp) (wpAny_pure ⟨x,rfl,wpAny_pure (h _ (Heap.get?_update_self _ (Heap.get?_update_self _ hit rfl) rfl) ((Heap.SameBut.update ..).trans (Heap.SameBut.update ..)))⟩))))
theorem next_led_end {sl : Nat} {Q : Option Value -> Shared -> Prop} (hh : A.handled = none) (hit : s.heap.get? I = some (setItO (rawInt sl) i S es.size ep)) (ho : s.heap.get? S = some o) (hd : o.data = .set es ep t) (hf : t.fits es.size = true)
 (hx : Nxt P w o S sl i ep none) (h : ∀ h',Heap.ExtBut I s.heap h' -> Q none { s with heap := h' }) : wpAny (model P w) A (pyNext (.ref I)) Q E s := by
 have hTy : s.TypeIs (.ref I) "set_iterator" := ⟨_,hit,rfl⟩
 unfold pyNext
 refine wpAny_bind (wpAny_attempt (wpAny_callSpecial?_slot (name := Str.ofString "__next__") hTy F.slot_setit_next (wpAny_call_entry F.slot_setit_next hTy F.entry_setit_next ?_ (F.args_setit_next _))))
 unfold Builtin.«set_iterator.__next__»
 refine wpAny_bind (wpAny_pure (wpAny_bind (show wpAny _ _ (fieldsOf (.ref I)) _ _ _ from wpAny_fieldsOf hit rfl ?_)))
 refine (show wpAny _ _ (setEntries S >>= _) _ _ _ from wpAny_bind (setEntries_of ho hd hf ?_))
 rw [if_neg (by simp)]
 refine (show wpAny _ _ (setNext S (Int.toNat sl) (Int.toNat i) (Int.toNat ep) >>= _) _ _ _ from wpAny_bind ?_)
 rw [Int.toNat_natCast,Int.toNat_natCast,Int.toNat_natCast]
 refine hx _ _ _ _ ho ?_
 refine wpAny_bind (wpAny_setField hit rfl (by simp) ?_)
 refine (show wpAny _ _ (newExc (.type "StopIteration") [] >>= _) _ _ _ from wpAny_bind ?_)
 simp only [newExc,newTuple]
 refine wpAny_bind (wpAny_newObj_type (wpAny_bind (m := firstArgMember _ _) (wpAny_of_eq (a := Value.none) (by first | rfl | (simp only [firstArgMember]; rfl)) (wpAny_newObj_type ?_ (by size_fits)))) (by size_fits))
 simp only [raiseNew]
 refine wpAny_bind (wpAny_handled ?_)
 rw [show A.in1.handled = none from hh]
 refine wpAny_bind (wpAny_pure (wpAny_throw ?_))
 refine wpAny_bind (wpAny_isInstance (T := "StopIteration") (b := true) ⟨_,Heap.get?_push_size _ rfl,rfl⟩ isSubtype_stop ?_)
 refine wpAny_pure (h _ ?_)
 exact (((Heap.SameBut.update ..).extBut.push _).push _)
end
theorem pick_go {α : Type} (f : Nat -> Nat) : ∀ (fuel k : Nat) (left : List α) (out : Array α),left.length = fuel -> (pickOrder.go f fuel k left out).toList.Perm (out.toList ++ left)
 | 0,_,left,out,e => by
  obtain rfl : left = [] := List.length_eq_zero_iff.mp e;rw [List.append_nil];exact .refl _
 | fuel + 1,k,left,out,e => by
  have hi : f k % left.length < left.length := Nat.mod_lt _ (by omega);unfold pickOrder.go;rw [List.getElem?_eq_getElem hi];refine (pick_go f fuel (k + 1) _ _ (by rw [List.length_eraseIdx_of_lt hi]; omega)).trans ?_;rw [Array.toList_push,List.append_assoc];exact List.Perm.append_left _ (perm_eraseAt left _ hi)
theorem pick_perm {α : Type} (f : Nat -> Nat) (xs : Array α) : (pickOrder f xs).toList.Perm xs.toList := by
 have q := pick_go f xs.size 0 xs.toList #[] (by rw [Array.length_toList])
 exact q
section
variable {i : Nat} {es : Array (Int × Value)} {t : SetTable} {o : Obj}
theorem nxt_text {sl i : Nat} (hw : w.params.followText "set-order" = true) (hd : o.data = .set es ep t) (hf : t.fits es.size = true) :
 Nxt P w o S sl i ep (((pickOrder (w.params.setOrder S ep) es)[i]?).map λ e => (e.2,sl)) := by
 intro A E s Q ho q
 unfold setNext
 refine wpAny_bind (wpAny_setState_of ho hd hf ?_)
 refine wpAny_bind (show wpAny _ _ (ask >>= λ a => pure (a.params.followText "set-order")) _ _ _ from wpAny_bind (wpAny_askSetting (wpAny_pure ?_)))
 dsimp only
 rw [if_pos (show (model P w).w.params.followText "set-order" = true from hw),if_neg (by simp)]
 refine wpAny_bind ?_
 unfold setWalk
 refine wpAny_bind (wpAny_setState_of ho hd hf ?_)
 refine wpAny_bind (show wpAny _ _ (ask >>= λ a => pure (a.params.followText "set-order")) _ _ _ from wpAny_bind (wpAny_askSetting (wpAny_pure ?_)))
 rw [if_pos (show (model P w).w.params.followText "set-order" = true from hw)]
 refine wpAny_bind (wpAny_askSetting (wpAny_pure ?_))
 exact wpAny_pure q
structure Led (P : Program) (w : World) (o : Obj) (S : Addr) (ep : Nat) (us : List Value) (sl : Nat -> Nat) : Prop where
 item : ∀ i x,us[i]? = some x -> Nxt P w o S (sl i) i ep (some (x,sl (i + 1)))
 stop : Nxt P w o S (sl us.length) us.length ep none
 zero : sl 0 = 0
theorem led_text (hw : w.params.followText "set-order" = true) (hd : o.data = .set es ep t) (hf : t.fits es.size = true) : Led P w o S ep ((pickOrder (w.params.setOrder S ep) es).toList.map (·.2)) (λ _ => 0) where
 item := λ i x e => by
  have q := nxt_text (P := P) (S := S) (sl := 0) (i := i) hw hd hf;rw [List.getElem?_map,Array.getElem?_toList] at e;obtain ⟨y,e1,rfl⟩ := Option.map_eq_some_iff.mp e;rw [e1] at q;exact q
 stop := by
  have q := nxt_text (P := P) (S := S) (sl := 0) (i := ((pickOrder (w.params.setOrder S ep) es).toList.map (·.2)).length) hw hd hf;rw [Array.getElem?_eq_none (by rw [List.length_map,Array.length_toList]; exact Nat.le_refl _)] at q;exact q
 zero := rfl
theorem slot_setit_iter : Slot "set_iterator" "__iter__" "set_iterator.__iter__" :=
 .of (owner := "set_iterator") (n := "__iter__") (by rw [typeLookup_type,builtinLookup_eq_fast]; kernel_rfl) (by decide +kernel) (by decide +kernel) (by decide +kernel) (by first | exact .inl (by decide +kernel) | exact .inr (by decide +kernel)) (by rw [isSubtype_type]; kernel_rfl)
theorem entry_setit_iter : entryFor table "set_iterator.__iter__" = some Builtin.«dict_keyiterator.__iter__» := entryFor_alias (id' := "dict_keyiterator.__iter__") (by kernel_rfl) (by first | rfl | decide +kernel) (by decide +kernel) (by kernel_rfl)
theorem args_setit_iter (a : Value) : argsOk "set_iterator.__iter__" ⟨[a],[]⟩ := by unfold argsOk; kernel_rfl
theorem self_setit {f : Value} {n : Nat} {Q : Value -> Shared -> Prop} (hit : s.heap.get? I = some (setItO f i S n ep)) (h : Q (.ref I) s) : wpAny (model P w) A (pyIter (.ref I)) Q E s := by
 have hTy : s.TypeIs (.ref I) "set_iterator" := ⟨_,hit,rfl⟩
 refine wpAny_pyIter_slot hTy slot_setit_iter (wpAny_call_entry slot_setit_iter hTy entry_setit_iter ?_ (args_setit_iter _))
 exact (show wpAny _ _ (ret (.ref I)) _ _ s from wpAny_pure ⟨_,rfl,"set_iterator",_,hTy,F.slot_setit_next.lookup,h⟩)
theorem walk_led {us : List Value} {sl : Nat -> Nat} (L : Led P w o S ep us sl) (hh : A.handled = none) (hd : o.data = .set es ep t) (hf : t.fits es.size = true) (hne : S ≠ I) :
 WalksS P w A I [I,S] [I] (λ a b => b = a) us.length (λ i v => us[i]? = some v) (λ i s => s.heap.get? I = some (setItO (rawInt (sl i)) i S es.size ep) /\ s.heap.get? S = some o) where
 sub := λ b hb => by simp at hb; simp [hb]
 grefl := λ _ => rfl
 gtrans := λ _ _ _ h1 h2 => h2.trans h1
 frame := λ i s h' tk st _ k => ⟨k I (by simp) _ st.1,k S (by simp) _ st.2⟩
 item := λ i s Q E hi st hQ => by
  have e : us[i]? = some us[i] := List.getElem?_eq_getElem hi;refine next_led st.1 st.2 hd hf (L.item i _ e) λ h' a b => hQ _ _ e ⟨a,(b.2 S hne).trans st.2⟩ ⟨λ c o' hc e' => ?_,rfl,rfl,rfl,Nat.le_refl _⟩;exact (b.2 c λ z => hc (by simp [z])).trans e'
 done := λ s Q E st hQ => next_led_end hh st.1 st.2 hd hf L.stop λ h' a => hQ _ ⟨λ c o' hc e' => a c o' (λ z => hc (by simp [z])) e',rfl,rfl,rfl,Nat.le_refl _⟩
 self := λ i s Q E st hQ => self_setit st.1 hQ
theorem walk_drawn {places : List Nat} {n : Nat} (hh : A.handled = none) (hd : o.data = .set es ep t) (hf : t.fits es.size = true) (hp : places.Perm (List.range es.size)) (hne : S ≠ I) (hTn : T ≠ I) :
 WalksS P w A I [I,S,T] [I] (λ a b => b = a) places.length (λ i v => (places.map λ p => (es.toList.map (·.2)).getD p .none)[i]? = some v)
  (λ i s => s.heap.get? I = some (setItO (.ref T) i S es.size ep) /\ s.heap.get? S = some o /\ s.heap.get? T = some { cls := .type "tuple",data := .seq (places.map λ i : Nat => rawInt i).toArray n }) where
 sub := λ b hb => by simp at hb; simp [hb]
 grefl := λ _ => rfl
 gtrans := λ _ _ _ h1 h2 => h2.trans h1
 frame := λ i s h' tk st _ k => ⟨k I (by simp) _ st.1,k S (by simp) _ st.2.1,k T (by simp) _ st.2.2⟩
 item := λ i s Q E hi st hQ => by
  have e : places[i]? = some places[i] := List.getElem?_eq_getElem hi;have hlt : places[i] < es.size := List.mem_range.mp (hp.mem_iff.mp (List.getElem_mem hi));have e2 : es[places[i]]? = some (es[places[i]].1,es[places[i]].2) := Array.getElem?_eq_getElem hlt;refine next_drawn (p := places[i]) (pk := 0) (x := es[places[i]].2) st.1 st.2.1 hd hf st.2.2 (by rw [List.getElem?_toArray,List.getElem?_map,e]; rfl) e2 λ h' a b => hQ _ _ ?_ ⟨a,(b.2 S hne).trans st.2.1,(b.2 T hTn).trans st.2.2⟩ ⟨λ c o' hc e' => ?_,rfl,rfl,rfl,Nat.le_refl _⟩
  . rw [List.getElem?_map,e];simp [hlt]
  . exact (b.2 c λ z => hc (by simp [z])).trans e'
 done := λ s Q E st hQ => next_drawn_end hh st.1 st.2.1 hd hf st.2.2 (by simp) λ h' a => hQ _ ⟨λ c o' hc e' => a c o' (λ z => hc (by simp [z])) e',rfl,rfl,rfl,Nat.le_refl _⟩
 self := λ i s Q E st hQ => self_setit st.1 hQ
end
theorem set_len_at : typeLookup (.type "set") "__len__" = pure (some (.builtin "set.__len__")) := by rw [typeLookup_type,builtinLookup_eq_fast]; kernel_rfl
section
variable {i : Nat} {es : Array (Int × Value)} {t : SetTable} {o : Obj}
theorem hint_set {Q : Bool -> Shared -> Prop} (hT : s.TypeIs (.ref S) "set") (h : Q false s) : wpAny (model P w) A (Builtin.List.listLengthHint (.ref S)) Q E s := by
 unfold Builtin.List.listLengthHint
 refine wpAny_bind (wpAny_specialOf (T := "set") hT set_len_at ?_)
 wp_delta
 refine wpAny_bind (wpAny_isInstance (T := "set") (b := true) hT (by rw [isSubtype_type]; kernel_rfl) ?_)
 exact (show wpAny _ A (typeOf (Value.ref S) >>= _) _ _ _ from wpAny_bind (wpAny_typeOf (T := "set") hT (wpAny_pure h)))
theorem loop_walk {L : Addr} {c0 : Nat} {fp : List Addr} {us : List Value} {St : Nat -> Shared -> Prop} {s1 : Shared} {R : Result -> Shared -> Prop} (W : WalksS P w A.in1 I fp [I] (λ a b => b = a) us.length (λ i v => us[i]? = some v) St) (hz : us.length <= sizeLine) (st : St 0 s1) (hL : L ∉ fp)
 (hl : s1.heap.get? L = some { cls := .type "list",data := .seq #[] c0 })
 (h : ∀ s' c,(∀ b o,b ≠ L -> b ≠ I -> s1.heap.get? b = some o -> s'.heap.get? b = some o) -> s'.gens = s1.gens -> s'.os = s1.os -> s'.heap.get? L = some { cls := .type "list",dict := none,data := .seq us.toArray c,slots := #[] } -> R (.ok (.ret (.ref L))) s') :
 codeAny (model P w) A (.builtin "list.extend.loop" ⟨[.ref L,.ref I,.ref L],[]⟩) R s1 := by
 refine codeAny_extend_loopS W hz L hL _ us.length 0 s1 _ _ rfl (Nat.zero_le _) st hl (ItemsOf.nil _) λ s' acc' c' hm hS' hacc => ?_
 have e : acc' = us.toArray := by
  apply Array.toList_inj.mp;apply List.ext_getElem?;intro j
  by_cases hj : j < us.length
  . have h0 : j < acc'.size := by rw [hacc.1]; exact hj
    have h1 : acc'[j]? = some acc'[j] := Array.getElem?_eq_getElem h0;rw [Array.getElem?_toList,h1];exact (hacc.2 j _ h1).symm
  . rw [Array.getElem?_toList,Array.getElem?_eq_none (by rw [hacc.1]; omega)];simp at hj ⊢;exact hj
 rw [e] at hS'
 exact h s' c' (λ b o' h1 h2 q => hm.heap b o' (by simp [h1,h2]) q) hm.gens hm.os hS'
theorem collect_set {Q : List Value -> Shared -> Prop} (hT : s.TypeIs (.ref S) "set")
 (h : wpAny (model P w) A.in1 (pyIter (.ref S)) (λ v s1 => ∃ I,v = .ref I /\ s1.TypeIs (.ref S) "set" /\ s1.heap.get? s.heap.objs.size = some { cls := .type "list",data := .seq ([] : List Value).toArray } /\
  ∀ h' c,(∀ b o,b ≠ s.heap.objs.size -> s1.heap.get? b = some o -> h'.get? b = some o) -> h'.get? s.heap.objs.size = some { cls := .type "list",data := .seq #[] c } ->
   codeAny (model P w) A (.builtin "list.extend.loop" ⟨[.ref s.heap.objs.size,.ref I,.ref s.heap.objs.size],[]⟩) (λ r s' => ∃ us c,r = .ok (.ret (.ref s.heap.objs.size)) /\ s'.heap.get? s.heap.objs.size = some { cls := .type "list",dict := none,data := .seq us c,slots := #[] } /\ Q us.toList s') { s1 with heap := h' }) (λ _ _ => False)
  { s with heap := s.heap.push { cls := .type "list",data := .seq ([] : List Value).toArray } }) :
 wpAny (model P w) A (collect (.ref S)) Q E s := by
 unfold collect
 refine wpAny_bind (wpAny_runValue (codeAny_builtin PySem.F.entry_proto_collect ?_))
 rw [PySem.Around.under_plainId PySem.F.plain_proto_collect _]
 refine (show wpAny _ A.in1 (newList [] >>= λ l => again (.builtin "list.__iadd__" ⟨[l,.ref S],[]⟩)) _ _ s from wpAny_bind (wpAny_newObj_type (wpAny_pure ⟨plainId_quiet PySem.F.plain_list_iadd _,codeAny_builtin PySem.F.entry_list_iadd ?_⟩)))
 rw [PySem.Around.under_plainId PySem.F.plain_list_iadd _]
 refine (show wpAny _ A.in1 (Builtin.List.listExtendWith (.ref s.heap.objs.size) (.ref S) (.ref s.heap.objs.size)) _ _ _ from ?_)
 unfold Builtin.List.listExtendWith
 have hT1 : Shared.TypeIs { s with heap := s.heap.push { cls := .type "list",data := .seq ([] : List Value).toArray } } (.ref S) "set" := by
  obtain ⟨o,ho,hc⟩ := hT;exact ⟨o,Heap.get?_push_of_some _ ho,hc⟩
 have hne : (Builtin.List.listSameRef (.ref s.heap.objs.size) (.ref S) || Value.type "set" == Value.type "list" || Value.type "set" == Value.type "tuple") = false := by
  obtain ⟨o,ho,hc⟩ := hT;have q : (s.heap.objs.size == S) = false := by
   rw [beq_eq_false_iff_ne];exact Nat.ne_of_gt (Heap.lt_size ho)
  have q2 : Builtin.List.listSameRef (.ref s.heap.objs.size) (.ref S) = (s.heap.objs.size == S) := rfl;rw [q2,q]
  decide
 refine wpAny_bind (wpAny_typeOf (T := "set") hT1 ?_)
 rw [if_neg (by rw [hne]; exact λ z => nomatch z)]
 refine wpAny_bind (wpAny_mono h (λ v s1 ⟨I,e,h1,h5,h2⟩ => ?_) λ _ _ z => z.elim)
 subst e
 refine wpAny_bind (wpAny_holding (hint_set h1 ?_))
 rw [if_pos (by decide)]
 refine wpAny_bind (wpAny_rule (wpAny_bind (show wpAny _ A.in1 (updateSeq s.heap.objs.size (·.push .none) >>= λ _ => updateSeq s.heap.objs.size (·.pop)) _ _ _ from wpAny_bind (wpAny_updateSeq h5 rfl ?_))))
 have g2 := Heap.get?_update_self (Obj.mapSeq (·.push Value.none)) h5 rfl
 refine wpAny_updateSeq (hz := by seq_fits) g2 rfl ?_
 have g3 := Heap.get?_update_self (Obj.mapSeq (·.pop)) g2 rfl
 refine wpAny_pure ⟨plainId_quiet PySem.F.plain_extend_loop _,codeAny_mono (h2 _ _ (λ b o' hb q => (Heap.get?_update_other _ _ (Ne.symm hb)).trans ((Heap.get?_update_other _ _ (Ne.symm hb)).trans q)) g3) λ r s' ⟨us,c,e,h3,h4⟩ => ?_⟩
 subst e
 exact (show wpAny _ A (load s.heap.objs.size >>= _) _ _ s' from wpAny_bind (wpAny_load h3 (wpAny_pure h4)))
end
theorem strs_perm {us us0 : List Value} {zs : List Str} (hp : us.Perm us0) (hs : StrsAre us0 zs) : ∃ zs',StrsAre us zs' /\ zs'.Perm zs :=
 ⟨us.map strOf,strsAre_map us λ v hv => hs.all v (hp.mem_iff.mp hv),by rw [<- hs.strs]; exact hp.map _⟩
theorem range_getD {α : Type} (d : α) : ∀ l : List α,(List.range l.length).map (λ p => l.getD p d) = l := λ l => by
 apply List.ext_getElem?
 intro j
 rw [List.getElem?_map]
 by_cases hj : j < l.length
 . rw [List.getElem?_range hj]; simp [hj]
 . rw [List.getElem?_eq_none (by simp; omega),List.getElem?_eq_none (by omega)]; rfl
def SetO (P : Program) (w : World) (a : Addr) (zs : List Str) : HO := .ext λ h => SetS P w (led0 w) h a zs
theorem sub_tup_set : isSubtype (.type "tuple") (.type "set") = pure false := by rw [isSubtype_type]; kernel_rfl
theorem sub_tup_frozen : isSubtype (.type "tuple") (.type "frozenset") = pure false := by rw [isSubtype_type]; kernel_rfl
theorem call_set0 {Q : Value -> Shared -> Prop} (h : Q (.ref s.heap.objs.size) { s with heap := s.heap.push (setO w) }) : wpAny (model P w) A (call (.type "set") []) Q E s := by
 obtain ⟨c,tl,hmro⟩ := PySem.F.called_set.mro
 have c1 := PySem.F.called_set.made
 have c2 := PySem.F.called_set.sub
 have c3 := PySem.F.called_set.notType
 have c4 := PySem.F.called_set.canCreate
 have c5 := PySem.F.typeCall_set_0
 refine wpAny_call (codeAny_of_tree (show wpAny _ _ (callAny (.type "set") _) _ _ _ from wpAny_pure ⟨Code.quiet_builtin _ (by decide +kernel),codeAny_builtin PySem.F.entry_type_call ?_⟩))
 rw [PySem.Around.under_plain (weight_type_call_type "set" [] []) rfl]
 repeat (any_goals (first | assumption | wp_step))
 refine codeAny_mono (set_new_led (P := P) (E := E) (rest := []) (Q₁ := λ obj s₁ => obj = .ref s.heap.objs.size /\ s₁ = { s with heap := s.heap.push (setO w) }) PySem.F.newCall_set_0 ⟨rfl,rfl⟩) λ r s₁ hr => ?_
 cases r with
 | error e => exact hr
 | ok fl =>
  cases fl with
  | ret obj =>
   obtain ⟨rfl,rfl⟩ := hr;have hS : (s.heap.push (setO w)).get? s.heap.objs.size = some (setO w) := Heap.get?_push_size _ rfl;have hT : Shared.TypeIs { s with heap := s.heap.push (setO w) } (.ref s.heap.objs.size) "set" := ⟨_,hS,rfl⟩;have c6 := PySem.F.called_set.init.lookup;have c7 := PySem.F.called_set.init.bind (.ref s.heap.objs.size)
   repeat (any_goals (first | assumption | wp_step))
   refine codeAny_call_builtin PySem.F.called_set.init.plain PySem.F.entry_set_init (PySem.check_set_init hT ?_);unfold Builtin.«set.__init__» noKeywords
   wp_walk
   exact h
  | _ => exact hr.elim
section
variable {o : Expr} {es : List Expr} {to : TE} {t : TA} {name : Str} {apos cpos : Pos} {id : String} {r : V -> List V -> Hp -> VK -> Prop}
example : Slot "set" "add" "set.add" := PySem.F.slot_set_add
example : typeOf (.builtin "set.add") = pure (.type "method_descriptor") := PySem.F.type_set_add
end
theorem notLt_le {a b : Str} (h : (!ltCps b.cps.toList a.cps.toList) = true) : a.cps.toList <= b.cps.toList := by
 rw [ltCps_eq] at h
 simp at h
 exact h
theorem rising_all : ∀ (l : List Str) (p : Str),risingS p l = true -> ∀ x ∈ l,p.cps.toList <= x.cps.toList
 | [],_,_,x,hx => nomatch hx
 | y :: l,p,h,x,hx => by
  obtain ⟨h1,h2⟩ := Bool.and_eq_true_iff.mp h;have q := notLt_le h1
  rcases List.mem_cons.mp hx with rfl | hx
  . exact q
  . exact List.le_trans q (rising_all l y h2 x hx)
theorem rising_pair : ∀ (l : List Str) (p : Str),risingS p l = true -> (p :: l).Pairwise λ a b => a.cps.toList <= b.cps.toList
 | [],_,_ => .cons (λ _ z => nomatch z) .nil
 | y :: l,p,h => .cons (rising_all _ p h) (rising_pair l y (Bool.and_eq_true_iff.mp h).2)
theorem sorted_pair : ∀ (l : List Str),sortedS l = true -> l.Pairwise λ a b => a.cps.toList <= b.cps.toList
 | [],_ => .nil
 | p :: l,h => rising_pair l p h
section
variable {κ : Type} [DecidableEq κ]
def valV (kvs : List (κ × V)) (k : κ) : Option V := (kvs.find? λ kv => decide (kv.1 = k)).map (·.2)
def putK (kvs : List (κ × V)) (k : κ) (v : V) : List (κ × V) :=
 if (kvs.any λ kv => decide (kv.1 = k)) = true then kvs.map (λ kv => if kv.1 = k then (kv.1,v) else kv) else kvs ++ [(k,v)]
theorem valV_pos {p : κ × V} {r : List (κ × V)} {k : κ} (e : p.1 = k) : valV (p :: r) k = some p.2 := by simp [valV,List.find?_cons,e]
theorem valV_neg {p : κ × V} {r : List (κ × V)} {k : κ} (e : ¬ p.1 = k) : valV (p :: r) k = valV r k := by simp [valV,List.find?_cons,e]
theorem valV_any (k : κ) : ∀ kvs : List (κ × V),(kvs.any λ kv => decide (kv.1 = k)) = (valV kvs k).isSome
 | [] => rfl
 | p :: r => by
  rw [List.any_cons]
  by_cases e : p.1 = k
  . simp only [valV_pos e,decide_eq_true e,Bool.true_or,Option.isSome_some]
  . rw [valV_neg e,decide_eq_false e,Bool.false_or]; exact valV_any k r
theorem valV_map (k j : κ) (y : V) : ∀ kvs : List (κ × V),valV (kvs.map λ kv => if kv.1 = k then (kv.1,y) else kv) j = (valV kvs j).map λ x => if j = k then y else x
 | [] => rfl
 | p :: r => by
  have ih := valV_map k j y r;rw [List.map_cons]
  by_cases h : p.1 = k
  . rw [if_pos h]
    by_cases e : p.1 = j
    . rw [valV_pos (p := (p.1,y)) e,valV_pos e,Option.map_some,if_pos (e.symm.trans h)]
    . rw [valV_neg (p := (p.1,y)) e,valV_neg e,ih]
  . rw [if_neg h]
    by_cases e : p.1 = j
    . rw [valV_pos (p := p) e,valV_pos e,Option.map_some,if_neg (λ z => h (e.trans z))]
    . rw [valV_neg (p := p) e,valV_neg e,ih]
theorem valV_snoc (k j : κ) (y : V) : ∀ kvs : List (κ × V),valV kvs k = none -> valV (kvs ++ [(k,y)]) j = if j = k then some y else valV kvs j
 | [],_ => by
  by_cases e : k = j
  . rw [if_pos e.symm]; exact valV_pos (p := (k,y)) e
  . rw [if_neg (λ z => e z.symm)]; exact valV_neg (p := (k,y)) e
 | p :: r,hn => by
  rw [List.cons_append];have hk : ¬ p.1 = k := λ z => by rw [valV_pos z] at hn; cases hn
  rw [valV_neg hk] at hn;have ih := valV_snoc k j y r hn
  by_cases e : p.1 = j
  . rw [valV_pos e,valV_pos e,if_neg (λ z => hk (e.trans z))]
  . rw [valV_neg e,valV_neg e,ih]
theorem valV_put (kvs : List (κ × V)) (k j : κ) (y : V) : valV (putK kvs k y) j = if j = k then some y else valV kvs j := by
 unfold putK
 by_cases a : (kvs.any λ kv => decide (kv.1 = k)) = true
 . rw [if_pos a,valV_map];rw [valV_any] at a
   by_cases e : j = k
   . obtain ⟨x,hx⟩ := Option.isSome_iff_exists.mp a;rw [if_pos e,e,hx,Option.map_some,if_pos rfl]
   . rw [if_neg e];cases valV kvs j with
     | none => rfl
     | some x => rw [Option.map_some,if_neg e]
 . rw [if_neg a];refine valV_snoc k j y kvs ?_;rw [valV_any] at a;cases q : valV kvs k with
   | none => rfl
   | some x => rw [q] at a; exact (a rfl).elim
theorem length_putK (kvs : List (κ × V)) (k : κ) (v : V) : (putK kvs k v).length <= kvs.length + 1 := by
 unfold putK
 split
 . rw [List.length_map]; omega
 . rw [List.length_append,List.length_cons,List.length_nil]; omega
theorem RelO.isSome_eq {o : Option V} {u : Option Value} (r : RelO o u) : o.isSome = u.isSome := by
 cases o with
 | none => cases u with
  | none => rfl
  | some _ => exact (show False from r).elim
 | some _ => cases u with
  | none => exact (show False from r).elim
  | some _ => rfl
theorem KV.val {kvs : List (κ × V)} {vs : List (κ × Value)} (r : KV kvs vs) (k : κ) : RelO (valV kvs k) (valueAt vs k) := by
 unfold KV at r
 induction r with
 | nil => exact True.intro
 | @cons p q ps qs h t ih =>
  obtain ⟨h1,h2⟩ := h
  by_cases e : p.1 = k
  . have e' : q.1 = k := h1.symm.trans e;have b : valueAt (q :: qs) k = some q.2 := by simp [valueAt,List.find?_cons,e']
    rw [valV_pos e,b]; exact h2
  . have e' : ¬ q.1 = k := λ z => e (h1.trans z);have b : valueAt (q :: qs) k = valueAt qs k := by simp [valueAt,List.find?_cons,e']
    rw [valV_neg e,b]; exact ih
theorem KV.any {kvs : List (κ × V)} {vs : List (κ × Value)} (r : KV kvs vs) (k : κ) : (kvs.any λ kv => decide (kv.1 = k)) = vs.any λ kv => decide (kv.1 = k) := by
 unfold KV at r
 induction r with
 | nil => rfl
 | cons h t ih => rw [List.any_cons,List.any_cons,ih,h.1]
theorem KV.repl {kvs : List (κ × V)} {vs : List (κ × Value)} (r : KV kvs vs) (k : κ) {y : V} {u : Value} (ry : RelV y u) :
 KV (kvs.map λ kv => if kv.1 = k then (kv.1,y) else kv) (vs.map λ kv => if kv.1 = k then (kv.1,u) else kv) := by
 unfold KV at r ⊢
 induction r with
 | nil => exact .nil
 | @cons p q ps qs h t ih =>
  rw [List.map_cons,List.map_cons];refine .cons ?_ ih;obtain ⟨h1,h2⟩ := h
  by_cases e : p.1 = k
  . rw [if_pos e,if_pos (h1.symm.trans e)]; exact ⟨h1,ry⟩
  . rw [if_neg e,if_neg (λ z => e (h1.trans z))]; exact ⟨h1,h2⟩
theorem KV.put {kvs : List (κ × V)} {vs : List (κ × Value)} (r : KV kvs vs) (k : κ) {y : V} {u : Value} (ry : RelV y u) : KV (putK kvs k y) (stored vs k u) := by
 unfold putK stored
 rw [r.any k]
 by_cases e : (vs.any λ kv => decide (kv.1 = k)) = true
 . rw [if_pos e,if_pos e]; exact r.repl k ry
 . rw [if_neg e,if_neg e]; exact Paired.snoc r ⟨rfl,ry⟩
theorem KV.keys {kvs : List (κ × V)} {vs : List (κ × Value)} (r : KV kvs vs) : kvs.map (·.1) = vs.map (·.1) := by
 unfold KV at r
 induction r with
 | nil => rfl
 | cons h t ih => rw [List.map_cons,List.map_cons,ih,h.1]
theorem KV.length {kvs : List (κ × V)} {vs : List (κ × Value)} (r : KV kvs vs) : kvs.length = vs.length := Paired.length r
end
theorem kV_is {P : Program} {w : World} {k : Key} {u : Value} (r : RelV (kV k) u) : (mixKind P w).is k u = true := by
 cases k with
 | inl i => obtain ⟨t,e⟩ := (show ∃ t,u = Value.int i t from r); subst e; exact mixKind_int P w i t
 | inr x => obtain ⟨t,e⟩ := (show ∃ t,u = Value.str x t from r); subst e; exact mixKind_str P w x t
theorem items_are {P : Program} {w : World} : ∀ {ks : List Key} {us : List Value},Vals (ks.map kV) us -> ItemsAre (mixKind P w) ks us
 | [],_,r => by rw [List.map_nil] at r; cases r; exact .nil
 | k :: ks,_,r => by
  rw [List.map_cons] at r;cases r with
  | cons h t => exact .cons (kV_is h) (items_are t)
abbrev KT (H : Hp) : List (List Key × V) -> List (List Key × Addr × Value) -> Prop := Paired λ p q => p.1 = q.1 /\ H q.2.1 = some (.tup (p.1.map kV)) /\ RelV p.2 q.2.2
theorem KT.val {H : Hp} {kvs : List (List Key × V)} {xs : List (List Key × Addr × Value)} (r : KT H kvs xs) (k : List Key) : RelO (valV kvs k) ((atKey xs k).map (·.2)) := by
 induction r with
 | nil => exact True.intro
 | @cons p q ps qs h t ih =>
  obtain ⟨h1,_,h2⟩ := h
  by_cases e : p.1 = k
  . have e' : q.1 = k := h1.symm.trans e;have b : atKey (q :: qs) k = some q.2 := by simp [atKey,List.find?_cons,e']
    rw [valV_pos e,b]; exact h2
  . have e' : ¬ q.1 = k := λ z => e (h1.trans z);have b : atKey (q :: qs) k = atKey qs k := by simp [atKey,List.find?_cons,e']
    rw [valV_neg e,b]; exact ih
theorem KT.repl {H : Hp} {kvs : List (List Key × V)} {xs : List (List Key × Addr × Value)} (r : KT H kvs xs) (k : List Key) {y : V} {u : Value} (ry : RelV y u) :
 KT H (kvs.map λ kv => if kv.1 = k then (kv.1,y) else kv) (xs.map (putAt k u)) := by
 induction r with
 | nil => exact .nil
 | @cons p q ps qs h t ih =>
  rw [List.map_cons,List.map_cons];refine .cons ?_ ih;obtain ⟨h1,h2,h3⟩ := h;unfold putAt
  by_cases e : p.1 = k
  . rw [if_pos e,if_pos (h1.symm.trans e)]; exact ⟨h1,h2,ry⟩
  . rw [if_neg e,if_neg (λ z => e (h1.trans z))]; exact ⟨h1,h2,h3⟩
theorem KT.put {H : Hp} {kvs : List (List Key × V)} {xs : List (List Key × Addr × Value)} (r : KT H kvs xs) (k : List Key) {b : Addr} {y : V} {u : Value} (hb : H b = some (.tup (k.map kV))) (ry : RelV y u) :
 KT H (putK kvs k y) (storedH xs k b u) := by
 have e : (kvs.any λ kv => decide (kv.1 = k)) = (atKey xs k).isSome := by
  rw [valV_any,(r.val k).isSome_eq,Option.isSome_map]
 unfold putK storedH
 rw [e]
 by_cases q : (atKey xs k).isSome = true
 . rw [if_pos q,if_pos q]; exact r.repl k ry
 . rw [if_neg q,if_neg q]; exact Paired.snoc r ⟨rfl,hb,ry⟩
theorem KT.keeps {H H' : Hp} {kvs : List (List Key × V)} {xs : List (List Key × Addr × Value)} (r : KT H kvs xs) (ht : ∀ b ys,H b = some (.tup ys) -> H' b = some (.tup ys)) : KT H' kvs xs :=
 Paired.mapP r λ _ _ z => ⟨z.1,ht _ _ z.2.1,z.2.2⟩
section
variable {h : Heap}
theorem rd_of {u : HO} (ok : HOk P w H h) (e : Rd H a u) : ObjOk P w H h a u := e.ok ok
theorem dk_rd {kvs : List (Key × V)} (ok : HOk P w H h) (e : Rd H a (.dK kvs)) : kvs.length <= sizeLine /\ (a == sysModules) = false /\ ∃ vs,KV kvs vs /\ h.DictOf (mixKind P w) a vs :=
 show ObjOk P w H h a (.dK kvs) from rd_of ok e
theorem dk_of {kvs : List (Key × V)} (ok : HOk P w H h) (e : H a = some (.dK kvs)) : kvs.length <= sizeLine /\ (a == sysModules) = false /\ ∃ vs,KV kvs vs /\ h.DictOf (mixKind P w) a vs := dk_rd ok (.inl e)
theorem key_of {ks : List Key} (ok : HOk P w H h) (e : H a = some (.tup (ks.map kV))) : (tupleKind (mixKind P w)).is h ks a := by
 obtain ⟨_,its,r,o,h1,h2,n,h3⟩ := (show ObjOk P w H h a (.tup (ks.map kV)) from ok a _ e)
 exact ⟨o,its.toArray,n,h1,h2,h3,by simpa using items_are r⟩
theorem dt_rd {kvs : List (List Key × V)} (ok : HOk P w H h) (e : Rd H a (.dT kvs)) : kvs.length <= sizeLine /\ (a == sysModules) = false /\
 ∃ xs,KT H kvs xs /\ h.DictOfH (tupleKind (mixKind P w)) a xs := by
 obtain ⟨z,y,xs,r,o,es,ep,h1,h2,h3,h4,h5⟩ := (show ObjOk P w H h a (.dT kvs) from rd_of ok e)
 refine ⟨z,y,xs,r,o,es,ep,h1,h2,h3,h4,λ x hx => ?_,h5⟩
 have all : ∀ {l : List (List Key × V)} {m : List (List Key × Addr × Value)},KT H l m -> ∀ x ∈ m,(tupleKind (mixKind P w)).is h x.1 x.2.1 := by
  intro l m q
  induction q with
  | nil => intro x hx; exact nomatch hx
  | @cons p q ps qs hq t ih =>
   intro x hx
   rcases List.mem_cons.mp hx with e | hx
   . subst e;exact key_of ok (by rw [<- hq.1]; exact hq.2.1)
   . exact ih x hx
 exact all r x hx
theorem dt_of {kvs : List (List Key × V)} (ok : HOk P w H h) (e : H a = some (.dT kvs)) : kvs.length <= sizeLine /\ (a == sysModules) = false /\
 ∃ xs,KT H kvs xs /\ h.DictOfH (tupleKind (mixKind P w)) a xs := dt_rd ok (.inl e)
end
def DGet (H : Hp) (a : Addr) (y : V) (r : Option V) : Prop :=
 (∃ kvs k,Rd H a (.dK kvs) /\ y = kV k /\ r = valV kvs k) \/ ∃ kvs k b,Rd H a (.dT kvs) /\ y = .ref b /\ H b = some (.tup (k.map kV)) /\ r = valV kvs k
def DPut (H : Hp) (a : Addr) (y v : V) (H' : Hp) : Prop :=
 (∃ kvs k,H a = some (.dK kvs) /\ y = kV k /\ kvs.length < sizeLine /\ H' = upd H a (.dK (putK kvs k v))) \/
 ∃ kvs k b,H a = some (.dT kvs) /\ y = .ref b /\ H b = some (.tup (k.map kV)) /\ kvs.length < sizeLine /\ H' = upd H a (.dT (putK kvs k v))
theorem DGet.k {H : Hp} {a : Addr} {kvs : List (Key × V)} {k : Key} (e : H a = some (.dK kvs)) : DGet H a (kV k) (valV kvs k) := .inl ⟨kvs,k,.inl e,rfl,rfl⟩
theorem DPut.k {H : Hp} {a : Addr} {kvs : List (Key × V)} {k : Key} {v : V} (e : H a = some (.dK kvs)) (hl : kvs.length < sizeLine) : DPut H a (kV k) v (upd H a (.dK (putK kvs k v))) := .inl ⟨kvs,k,e,rfl,hl,rfl⟩
section
variable {v : V} {r : Value} {o : Option V}
theorem Inv.big (I : Inv X pins σ H s) : sysModules < s.heap.objs.size := by
 have h : mainGlobals < s.heap.objs.size := (I.mod.glob.keeps I.bk).lt
 exact Nat.lt_trans (by decide) h
theorem d_getItem {Q : Value -> Shared -> Prop} (hu : A.units + 1 < cLine) (I : Inv X pins σ H s) (g : DGet H a y (some v)) (ry : RelV y u) (h : ∀ w' s',Inv X pins σ H s' -> RelV v w' -> Q w' s') :
 wpAny (model X.prog X.w) A (getItem (.ref a) u) Q E s := by
 rcases g with ⟨kvs,k,e,ey,l⟩ | ⟨kvs,k,b,e,ey,eb,l⟩
 . subst ey;obtain ⟨z,hd,vs,rel,dd⟩ := dk_rd I.hok e;obtain ⟨w',hw,rw'⟩ := RelO.some_of (v := v) (o := valueAt vs k) (by rw [l]; exact rel.val k);exact wpAny_getItem_of (kV_is ry) dd.mapOf hw (h w' _ (I.tok _) rw')
 . subst ey;cases (show u = Value.ref b from ry);obtain ⟨z,hd,xs,rel,dd⟩ := dt_rd I.hok e;obtain ⟨w',hw,rw'⟩ := RelO.some_of (v := v) (o := (atKey xs k).map (·.2)) (by rw [l]; exact rel.val k);obtain ⟨p,hp,hp2⟩ := Option.map_eq_some_iff.mp hw;refine wpAny_getItem_heap (tupleKind_room_in1 hu) (key_of I.hok eb) dd hp ?_;rw [hp2];exact h w' _ (I.tok _) rw'
theorem d_notIn {Q : Value -> Shared -> Prop} (hu : A.units + 1 < cLine) (I : Inv X pins σ H s) (g : DGet H a y o) (ry : RelV y u) (h : ∀ s',Inv X pins σ H s' -> Q (.bool (!o.isSome)) s') :
 wpAny (model X.prog X.w) A (compareOp .NotIn u (.ref a)) Q E s := by
 rcases g with ⟨kvs,k,e,ey,l⟩ | ⟨kvs,k,b,e,ey,eb,l⟩
 . subst ey;obtain ⟨z,hd,vs,rel,dd⟩ := dk_rd I.hok e;refine wpAny_notIn_of (kV_is ry) hd dd.mapOf ?_;rw [<- (rel.val k).isSome_eq,<- l];exact h _ (I.tok _)
 . subst ey;cases (show u = Value.ref b from ry);obtain ⟨z,hd,xs,rel,dd⟩ := dt_rd I.hok e;refine wpAny_notIn_heap (tupleKind_room_in1 hu) (key_of I.hok eb) hd dd ?_;have q := (rel.val k).isSome_eq;rw [Option.isSome_map] at q;rw [<- q,<- l];exact h _ (I.tok _)
theorem d_write {h' : Heap} {t' : Nat} {ob : HO} (I : Inv X pins σ H s) (mu : Mut (H a)) (hs : Heap.SameBut a s.heap h') (he : ∃ q,h'.get? a = some q) (new : ObjOk X.prog X.w (upd H a ob) h' a ob) :
 Inv X pins σ (upd H a ob) { s with heap := h',toks := t' } :=
 I.write (x := a) (e := a) mu (.inl rfl) (λ b q hb z => (hs.2 b hb).trans z) he new
theorem dk_new {P : Program} {w : World} {H' : Hp} {h' : Heap} {kvs : List (Key × V)} {vs : List (Key × Value)} (z : kvs.length <= sizeLine) (hd : (a == sysModules) = false) (rel : KV kvs vs) (dd : h'.DictOf (mixKind P w) a vs) :
 ObjOk P w H' h' a (.dK kvs) := ⟨z,hd,vs,rel,dd⟩
theorem d_setItem {H' : Hp} {Q : Unit -> Shared -> Prop} (hu : A.units + 1 < cLine) (I : Inv X pins σ H s) (g : DPut H a y v H') (ry : RelV y u) (rv : RelV v r) (h : ∀ s',Inv X pins σ H' s' -> Q () s') :
 wpAny (model X.prog X.w) A (setItem (.ref a) u r) Q E s := by
 rcases g with ⟨kvs,k,e,ey,l,eH⟩ | ⟨kvs,k,b,e,ey,eb,l,eH⟩
 . subst ey eH;obtain ⟨z,hd,vs,rel,dd⟩ := dk_of I.hok e;have hz : vs.length <= sizeLine := by rw [<- rel.length]; exact z
   have hl : (putK kvs k v).length <= sizeLine := by have := length_putK kvs k v; omega
   refine wpAny_setItem_pairs (hsz := hz) (kV_is ry) dd λ h' dd' hs => h _ ?_;have he : ∃ q,h'.get? a = some q := let ⟨q,_,_,hq,_⟩ := dd'; ⟨q,hq⟩
   exact d_write I (by rw [e]; exact True.intro) hs he (dk_new hl hd (rel.put k rv) dd')
 . subst ey eH;cases (show u = Value.ref b from ry);obtain ⟨z,hd,xs,rel,dd⟩ := dt_of I.hok e;have hz : xs.length <= sizeLine := by rw [<- Paired.length rel]; exact z
   have hl : (putK kvs k v).length <= sizeLine := by have := length_putK kvs k v; omega
   refine wpAny_setItem_heap (hsz := hz) (tupleKind_room_in1 hu) (key_of I.hok eb) dd λ h' dd' hs => h _ ?_;obtain ⟨q,es,ep,hq,h2,h3,h4,_,h5⟩ := dd';refine d_write I (by rw [e]; exact True.intro) hs ⟨q,hq⟩ ⟨hl,hd,_,(rel.put k eb rv).keeps λ c ys ec => ?_,q,es,ep,hq,h2,h3,h4,h5⟩;rw [upd_ne (ne_of ec e (λ z => nomatch z))];exact ec
end
section
variable {kvs : List (Key × V)} {k : Key}
end
def NoSl (i : Expr) : Prop := ∀ ov iv,subscripted i false ov iv = operate [ov,iv] (getItem ov iv)
theorem subD_of {prog : Program} {w : World} {A : Around} {E : Value -> Shared -> Prop} {s : Shared} {env : Env} {value slice : Expr} {pos : Pos} {T id : String} {Q : Value -> Shared -> Prop}
 (hl : typeLookup (.type T) "__getitem__" = pure (some (.builtin id))) (hs : NoSl slice)
 (h : wpAny (model prog w) A (eval value env) (λ o s₁ => wpAny (model prog w) A (eval slice env) (λ i s₂ => s₂.TypeIs o T /\ wpAny (model prog w) A (getItem o i) Q E s₂) E s₁) E s) :
 wpAny (model prog w) A (eval (.Subscript value slice pos) env) Q E s := by
 refine Subscript_ (wpAny_mono h (λ o s₁ h₁ => wpAny_mono h₁ (λ i s₂ h₂ => ?_) λ _ _ x => x) λ _ _ x => x)
 obtain ⟨hT,h₂⟩ := h₂
 unfold subscriptTail
 refine wpAny_bind ?_
 rw [getitemInPython_of_ne hT.not_modules]
 refine wpAny_bind (wpAny_specialOf hT hl ?_)
 have fin : wpAny (model prog w) A (subscripted slice false o i) (λ r s₃ => wpAny (model prog w) A (letTemporaryGo value o r >>= λ _ => pure r) Q E s₃) E s₂ := by
  rw [hs o i];exact wpAny_operating (wpAny_mono h₂ (λ r s₃ h₃ => wpAny_bind (wpAny_letTemporaryGo (wpAny_pure h₃))) λ _ _ x => x)
 first
  | exact wpAny_pure (wpAny_bind fin)
  | exact wpAny_bind (wpAny_pure (wpAny_bind fin))
  | exact wpAny_bind fin
theorem dict_typeIs {X : Cx} {pins : List (Addr × Obj)} {σ : St} {H : Hp} {s : Shared} {a : Addr} {y : V} {o : Option V} (I : Inv X pins σ H s) (g : DGet H a y o) : s.TypeIs (.ref a) "dict" := by
 rcases g with ⟨kvs,k,e,_,_⟩ | ⟨kvs,k,b,e,_,_,_⟩
 . obtain ⟨_,_,vs,_,dd⟩ := dk_rd I.hok e;exact dd.typeIs
 . obtain ⟨_,_,xs,_,dd⟩ := dt_rd I.hok e;exact dd.typeIs
def tDGet (td ty : TE) : TE := λ σ H Q => td σ H λ x H1 => ty σ H1 λ y H2 => ∃ a v,x = .ref a /\ DGet H2 a y (some v) /\ Q v H2
def tDNotIn (ty td : TE) : TE := λ σ H Q => ty σ H λ y H1 => td σ H1 λ x H2 => ∃ a o,x = .ref a /\ DGet H2 a y o /\ Q (.bl (!o.isSome)) H2
def sDPut (td ty tv : TE) : TS := λ D σ H => tv σ H λ v H1 => td σ H1 λ x H2 => ty σ H2 λ y H3 => ∃ a H4,x = .ref a /\ DPut H3 a y v H4 /\ D.nx σ H4
section
variable {o i value : Expr} {pos pos' tpos : Pos} {td ty tv : TE}
theorem pe_dget (hu : X.A.units + 1 < cLine) (ho : PE X o td) (hi : PE X i ty) (hs : NoSl i) : PE X (.Subscript o i pos) (tDGet td ty) := by
 intro pins s σ H Q I h
 refine subD_of PySem.F.slot_dict_getitem.lookup hs (thn (ho pins s σ H _ I h) λ u s1 ⟨x,H1,I1,rx,q1⟩ => thn (hi pins s1 σ H1 _ I1 q1) λ iv s2 ⟨y,H2,I2,ry,a,v,ex,g,q2⟩ => ?_)
 subst ex
 obtain rfl : u = Value.ref a := rx
 exact ⟨dict_typeIs I2 g,d_getItem hu I2 g ry λ w' s3 I3 rw' => ⟨v,H2,I3,rw',q2⟩⟩
theorem pc_dnotin (hu : X.A.units + 1 < cLine) (hi : PE X i ty) (ho : PE X o td) : PC X .NotIn i o (tDNotIn ty td) := by
 intro pins s σ H Q I h
 refine thn (hi pins s σ H _ I h) λ iv s1 ⟨y,H1,I1,ry,q1⟩ => thn (ho pins s1 σ H1 _ I1 q1) λ u s2 ⟨x,H2,I2,rx,a,ov,ex,g,q2⟩ => ?_
 subst ex
 obtain rfl : u = Value.ref a := rx
 exact d_notIn hu I2 g ry λ s3 I3 => ⟨.bl (!ov.isSome),H2,I3,rfl,q2⟩
theorem ps_dput (hu : X.A.units + 1 < cLine) (ho : PE X o td) (hi : PE X i ty) (hv : PE X value tv) (hs : swapsWith value (some (.Subscript o i pos')) pos.line X.env = pure false) :
 PS X (.Assign [.Subscript o i pos'] value pos) (sDPut td ty tv) := by
 intro pins s σ H D I h
 refine wpAny_Assign_Subscript (thn (hv pins s σ H _ I h) λ r s1 ⟨v,H1,I1,rv,q1⟩ => thn (ho pins s1 σ H1 _ I1 q1) λ u s2 ⟨x,H2,I2,rx,q2⟩ => thn (hi pins s2 σ H2 _ I2 q2) λ iv s3 ⟨y,H3,I3,ry,a,H4,ex,g,q3⟩ => ?_) hs
 subst ex
 obtain rfl : u = Value.ref a := rx
 exact d_setItem hu I3 g ry rv λ s4 I4 => ⟨σ,H4,I4,q3⟩
end
theorem dk_empty {P : Program} {w : World} {H : Hp} (h : Heap) (hb : sysModules < h.objs.size) : ObjOk P w H (h.push { cls := .type "dict",data := .dict #[] }) h.objs.size (.dK []) :=
 ⟨Nat.zero_le _,beq_eq_false_iff_ne.mpr (Ne.symm (Nat.ne_of_lt hb)),[],.nil,Heap.DictOf.new h⟩
def tDNewK : TE := λ _ H Q => ∀ p,H p = none -> Q (.ref p) (upd H p (.dK []))
section
variable {pos : Pos}
theorem pe_dnewK : PE X (.Dict [] [] pos) tDNewK := λ pins s σ H Q I h =>
 wpAny_Dict_empty ⟨.ref s.heap.objs.size,_,I.laid (a := s.heap.objs.size) (o := .dK []) (t' := s.toks) (λ _ _ q => Heap.get?_push_of_some _ q) (Nat.le_refl _) (dk_empty s.heap I.big),rfl,h _ (I.hok.fresh (Nat.le_refl _))⟩
end
def tPairs : List (TE × TE) -> St -> Hp -> (List (V × V) -> Hp -> Prop) -> Prop
 | [],_,H,Q => Q [] H
 | (tk,tv) :: r,σ,H,Q => tk σ H λ x H1 => tv σ H1 λ y H2 => tPairs r σ H2 λ ps H3 => Q ((x,y) :: ps) H3
abbrev VV : List (V × V) -> List (Value × Value) -> Prop := Paired λ p q => RelV p.1 q.1 /\ RelV p.2 q.2
def PPs (X : Cx) (pos : Pos) (keys : List (Option Expr)) (values : List Expr) (trs : List (TE × TE)) : Prop :=
 ∀ (pins : List (Addr × Obj)) (s : Shared) (σ : St) (H : Hp) (Q : List (V × V) -> Hp -> Prop),Inv X pins σ H s -> tPairs trs σ H Q ->
  wpAny (model X.prog X.w) X.A (evalPairs (pairTrees keys values X.env pos)) (λ vs s' => ∃ ps H',Inv X pins σ H' s' /\ VV ps vs /\ Q ps H') X.xe s
theorem pps_nil {X : Cx} {pos : Pos} : PPs X pos [] [] [] := λ pins s σ H Q I h => pairTrees_nil_walk ⟨[],H,I,.nil,h⟩
theorem pps_cons {X : Cx} {pos : Pos} {k v : Expr} {ks : List (Option Expr)} {vs : List Expr} {tk tv : TE} {trs : List (TE × TE)} (hk : PE X k tk) (hv : PE X v tv) (hr : PPs X pos ks vs trs) :
 PPs X pos (some k :: ks) (v :: vs) ((tk,tv) :: trs) := λ pins s σ H Q I h =>
 pairTrees_cons_walk (thn (hk pins s σ H _ I h) λ u s1 ⟨x,H1,I1,rx,q1⟩ => thn (hv pins s1 σ H1 _ I1 q1) λ w2 s2 ⟨y,H2,I2,ry,q2⟩ =>
  thn (hr pins s2 σ H2 _ I2 q2) λ ws s3 ⟨ps,H3,I3,rel,q3⟩ => ⟨(x,y) :: ps,H3,I3,.cons ⟨rx,ry⟩ rel,q3⟩)
def mergeK (kvs more : List (Key × V)) : List (Key × V) := more.foldl (λ acc kv => putK acc kv.1 kv.2) kvs
theorem KV.merge : ∀ {more : List (Key × V)} {rs : List (Key × Value)} {kvs : List (Key × V)} {vs : List (Key × Value)},KV more rs -> KV kvs vs -> KV (mergeK kvs more) (merged vs rs) := by
 intro more rs kvs vs r
 unfold KV at r
 induction r generalizing kvs vs with
 | nil => intro q; exact q
 | @cons p q ps qs h t ih =>
  intro r0;have e : KV (putK kvs p.1 p.2) (stored vs q.1 q.2) := by
   have := r0.put p.1 h.2;rw [<- h.1]; exact this
  exact ih e
theorem length_mergeK : ∀ (more kvs : List (Key × V)),(mergeK kvs more).length <= kvs.length + more.length
 | [],kvs => by show kvs.length <= kvs.length + 0; omega
 | p :: r,kvs => by
  have h1 := length_mergeK r (putK kvs p.1 p.2);have h2 := length_putK kvs p.1 p.2;show (mergeK (putK kvs p.1 p.2) r).length <= _;rw [List.length_cons]; omega
theorem carries_of {P : Program} {w : World} : ∀ {kvs : List (Key × V)} {ws : List (Value × Value)},VV (kvs.map λ kv => (kV kv.1,kv.2)) ws -> ∃ rs,Carries (mixKind P w) ws rs /\ KV kvs rs
 | [],_,r => by rw [List.map_nil] at r; cases r; exact ⟨[],True.intro,.nil⟩
 | p :: kvs,_,r => by
  rw [List.map_cons] at r;cases r with
  | @cons a b as bs h t =>
   obtain ⟨rs,c,q⟩ := carries_of (P := P) (w := w) t;obtain ⟨b1,b2⟩ := b;exact ⟨(p.1,b2) :: rs,⟨kV_is h.1,rfl,c⟩,.cons ⟨rfl,h.2⟩ q⟩
def tDisp (trs : List (TE × TE)) : TE := λ σ H Q => ∀ p,H p = none -> tPairs trs σ (upd H p (.dK [])) λ ps H2 => H2 p = some (.dK []) /\ ∃ kvs : List (Key × V),ps = kvs.map (λ kv => (kV kv.1,kv.2)) /\ kvs.length <= 15 /\ Q (.ref p) (upd H2 p (.dK (mergeK [] kvs)))
theorem pe_disp {X : Cx} {pos : Pos} {keys : List (Option Expr)} {values : List Expr} {trs : List (TE × TE)} (h : PPs X pos keys values trs) (hall : keys.all (·.isSome) = true) (hl : keys.length = values.length) (h0 : keys ≠ [])
 (h15 : keys.length <= 15) : PE X (.Dict keys values pos) (tDisp trs) := by
 intro pins s σ H Q I q
 have hn := I.hok.fresh (Nat.le_refl s.heap.objs.size)
 have I1 := I.laid (a := s.heap.objs.size) (o := .dK []) (h' := s.heap.push { cls := .type "dict",data := .dict #[] }) (t' := s.toks) (λ _ _ q => Heap.get?_push_of_some _ q) (Nat.le_refl _) (dk_empty s.heap I.big)
 refine wpAny_Dict_walk (knd := mixKind X.prog X.w) hall hl h0 h15 (thn (h pins _ σ _ _ I1 (q _ hn)) λ ws s2 ⟨ps,H2,I2,rel,e,kvs,ep,lk,q2⟩ => ?_)
 subst ep
 obtain ⟨rs,c,rk⟩ := carries_of (P := X.prog) (w := X.w) rel
 obtain ⟨z,hd,vs0,r0,dd⟩ := dk_of I2.hok e
 cases r0
 refine ⟨rs,c,dd,λ h' dd' hs => ⟨.ref s.heap.objs.size,_,?_,rfl,q2⟩⟩
 have hz : (mergeK [] kvs).length <= sizeLine := by
  have h1 := length_mergeK kvs [];rw [List.length_nil] at h1;rw [sizeLine_eq]; omega
 have he : ∃ q,h'.get? s.heap.objs.size = some q := let ⟨q,_,_,hq,_⟩ := dd'; ⟨q,hq⟩
 exact d_write I2 (by rw [e]; exact True.intro) hs he (dk_new hz hd (rk.merge .nil) dd')
structure M1 (X : Cx) (o : Expr) (m : Str) (apos : Pos) (e : Expr) (cpos : Pos) : Prop where
 base : attributeBase o m X.env (eval o X.env) = eval o X.env
 few : ((backTo cpos (starEach [e] X.env)).all (λ x => !x.1) && (backToKw cpos (keywordEach [] X.env)).all (λ x => x.1.isSome)
  && decide (([e] : List Expr).length + ([] : List Keyword).length + (if ([] : List Keyword).isEmpty then 0 else 1) < 30)) = true
 line : (apos.endLine == cpos.line) = true
 trees : backTo cpos (starEach [e] X.env) = [(false,eval e X.env)]
section
variable {d : V} {r : Value} {o : Option V}
end
section
variable {o f : Expr} {apos cpos : Pos} {td ty tx : TE}
end
section
variable {kvs : List (Key × V)}
end
abbrev tests (ifs : List Expr) (env : Env) : Sem Bool := forIn ifs true λ c r => if r = true then do let ok <- isTrue c env (eval c env); pure (ForInStep.yield ok) else pure (ForInStep.yield r)
section
variable {prog : Program} {R : Result -> Shared -> Prop}
end
theorem hu0_of {A : Around} {k : Nat} (hr : Room k A) : A.units < cLine := Nat.lt_of_le_of_lt (Nat.le_add_right _ _) hr.units
theorem call_isi2 : CallR X (.builtin "isinstance") (λ xs H Q => ∃ x c cv t b,xs = [x,c] /\ TyOf X.K H x t /\ RelV c cv /\ (∀ u,RelV c u -> u = cv) /\ W.kitOne X.K t cv = some b /\ Q (.bl b) H) := by
 intro pins s σ H xs us Q I r h
 obtain ⟨x,c,cv,t,b,rfl,ty,rc,hu,hk,q⟩ := h
 obtain ⟨u1,u2,rfl,r1,r2⟩ := r.two
 obtain rfl := hu _ r2
 exact isinst_ok I r1 ty hk λ tk => ⟨.bl b,H,I.tok tk,rfl,q⟩
end L2
namespace L2
open PySem PySem.Spec PyProof.Rows PySem.W
open Builtin Builtin.ObjectAttr
abbrev vTail : List Value := [.type "ValueError",.type "Exception",.type "BaseException",.type "object"]
abbrev excObj (C t : Addr) (d : Option Addr) : Obj := { cls := .ref C,dict := d,data := .fields #[.ref t,.none,.none,.none,.bool false,.none] }
section
variable {prog : Program} {w : World} {A : Around} {h : Heap} {g : Array GenState} {d : Drawn} {tk : Nat} {os : OsState}
variable {nm q : Str} {C N : Addr} {bs bm : List Value} {hdct : Bool} {sn : List Str} {sub : List Value} {ab : Bool} {col : Option Bool} {dd : Option Addr} {k0 k1 k2 k3 k5 : Option Value}
theorem xc_check_new {M : Model} {E : Value -> Shared -> Prop} {rest : List Value} {Q : Unit -> Shared -> Prop} (hC : h.get? C = some (excClassObj nm q C N bs bm hdct sn sub ab col dd k0 k1 k2 k3 k5 "ValueError.__new__"))
 (hv : (Value.ref C :: bm).contains (.type "ValueError") = true) (hq : Q () ⟨h,g,d,tk,os⟩) : wpAny M A (checkBuiltinCall "ValueError.__new__" ⟨.ref C :: rest,[]⟩) Q E ⟨h,g,d,tk,os⟩ := by
 have Fv := PySem.F.excBase_ValueError
 have hst := Fv.noStar
 simp only [checkBuiltinCall,Fv.newKind,Fv.newSplit,Fv.newRow]
 repeat (first | (refine wpAny_isSubtype_exc hC ?_; rw [hv]) | refine wpAny_staticBase_exc hC ?_ | refine wpAny_madeBy_exc hC ?_ | refine wpAny_loadPart_at hC ?_ | simp only [bne_self_eq_false,Bool.false_eq_true,if_false] | wp_step)
 exact hq
theorem xc_new {R : Result -> Shared -> Prop} {rest : List Value} (hC : h.get? C = some (excClassObj nm q C N bs bm hdct sn sub ab col dd k0 k1 k2 k3 k5 "ValueError.__new__"))
 (hv : (Value.ref C :: bm).contains (.type "ValueError") = true) (ha : (Value.ref C :: bm).contains (.type "AttributeError") = false) (hn : (Value.ref C :: bm).contains (.type "NameError") = false) (hrest : rest.length <= sizeLine)
 (hq : R (.ok (.ret (.ref (h.objs.size + 1)))) ⟨(h.push { cls := .type "tuple",data := .seq rest.toArray }).push (excObj C h.objs.size none),g,d,tk,os⟩) :
 codeAny (model prog w) A (.builtin "ValueError.__new__" ⟨.ref C :: rest,[]⟩) R ⟨h,g,d,tk,os⟩ := by
 have Fv := PySem.F.excBase_ValueError
 have he := Fv.ends
 refine codeAny_builtinAt Fv.entry ?_
 unfold Builtin.«BaseException.__new__»
 refine PySem.wpAt_bind ?_
 show PySem.wpAt _ _ _ (stack >>= _) _ _ _
 refine PySem.wpAt_bind (PySem.wpAt_stack λ p below => PySem.wpAt_of_wpAny ?_)
 wp_walk
 refine PySem.wpAt_of_wpAny ?_
 rw [Fv.owner]
 repeat (first | with_reducible refine wpAny_madeHere_exc Fv.canon hC ?_ | (with_reducible refine wpAny_isSubtype_exc hC ?_; first | rw [hv] | rw [ha] | rw [hn]) | with_reducible refine wpAny_loadPart_at hC ?_ | wp_step)
 show R _ _
 rw [Heap.size_push]
 exact hq
theorem xc_type_call {E : Value -> Shared -> Prop} {rest : List Value} {fI : Addr} {Q : Fin -> Shared -> Prop} (hC : h.get? C = some (excClassObj nm q C N bs bm hdct sn sub ab col dd k0 k1 k2 k3 k5 "ValueError.__new__"))
 (hv : (Value.ref C :: bm).contains (.type "ValueError") = true) (ha : (Value.ref C :: bm).contains (.type "AttributeError") = false) (hn : (Value.ref C :: bm).contains (.type "NameError") = false) (hrest : rest.length <= sizeLine)
 (hi : Looks (model prog w) h (typeLookup (.ref C) "__init__") (some (.ref fI))) (hb : ∀ self,Looks (model prog w) h (bindSpecial (.ref fI) self) (.ref fI,[self]))
 (hq : wpAny (model prog w) A (call (.ref fI) (.ref (h.objs.size + 1) :: rest)) (λ r s' => r = .none /\ Q (.done (.ret (.ref (h.objs.size + 1)))) s') E ⟨(h.push { cls := .type "tuple",data := .seq rest.toArray }).push (excObj C h.objs.size none),g,d,tk,os⟩) :
 wpAny (model prog w) A (Builtin.«type.__call__» ⟨.ref C :: rest,[]⟩) Q E ⟨h,g,d,tk,os⟩ := by
 have Fv := PySem.F.excBase_ValueError
 repeat (first | (with_reducible refine wpAny_madeBy_exc hC ?_) | (with_reducible refine wpAny_loadPart_at hC ?_) | wp_step)
 refine codeAny_call_builtin_code (Code.quiet_builtin _ Fv.quiet) (xc_check_new hC hv ?_)
 refine xc_new hC hv ha hn hrest ?_
 show wpAny _ _ _ _ _ _
 generalize hH : (h.push { cls := .type "tuple",data := .seq rest.toArray }).push (excObj C h.objs.size none) = H2 at hq ⊢
 have kp : ∀ b o,h.get? b = some o -> H2.get? b = some o := λ b o e => by rw [<- hH]; exact Heap.get?_push_of_some _ (Heap.get?_push_of_some _ e)
 have hget : H2.get? (h.objs.size + 1) = some (excObj C h.objs.size none) := by
  rw [<- hH];exact Heap.get?_push_at (by rw [Heap.size_push]) rfl
 have hC2 := kp _ _ hC
 have hself : (Value.ref C :: bm).contains (.ref C) = true := by simp
 unfold isInstance
 repeat (first | with_reducible refine wpAny_loadPart_at hget ?_ | (with_reducible refine wpAny_isSubtype_exc hC2 ?_; rw [hself]) | wp_step)
 show wpAny _ _ (typeLookup (.ref C) _) _ _ _
 refine (hi.keeps kp).at ?_
 refine wpAny_holding (wpAny_bind (((hb _).keeps kp).at ?_))
 refine wpAny_bind (wpAny_mono hq (λ r s' hr => ?_) λ _ _ z => z)
 obtain ⟨rfl,hQ⟩ := hr
 wp_walk
 exact hQ
theorem xc_call {E : Value -> Shared -> Prop} {rest : List Value} {fI : Addr} {Q : Value -> Shared -> Prop} (hC : h.get? C = some (excClassObj nm q C N bs bm hdct sn sub ab col dd k0 k1 k2 k3 k5 "ValueError.__new__"))
 (hv : (Value.ref C :: bm).contains (.type "ValueError") = true) (ha : (Value.ref C :: bm).contains (.type "AttributeError") = false) (hn : (Value.ref C :: bm).contains (.type "NameError") = false) (hrest : rest.length <= sizeLine)
 (hi : Looks (model prog w) h (typeLookup (.ref C) "__init__") (some (.ref fI))) (hb : ∀ self,Looks (model prog w) h (bindSpecial (.ref fI) self) (.ref fI,[self]))
 (hq : wpAny (model prog w) (A.under (.builtin "type.__call__" ⟨.ref C :: rest,[]⟩)) (call (.ref fI) (.ref (h.objs.size + 1) :: rest)) (λ r s' => r = .none /\ Q (.ref (h.objs.size + 1)) s') E
  ⟨(h.push { cls := .type "tuple",data := .seq rest.toArray }).push (excObj C h.objs.size none),g,d,tk,os⟩) : wpAny (model prog w) A (call (.ref C) rest) Q E ⟨h,g,d,tk,os⟩ := by
 have f1 := tc_lookup
 have f2 := tc_bind (.ref C)
 have hT : (⟨h,g,d,tk,os⟩ : Shared).TypeIs (.ref C) "type" := ⟨_,hC,rfl⟩
 refine wpAny_call (codeAny_of_tree ?_)
 show wpAny _ _ (callAny (.ref C) _) _ _ _
 repeat (any_goals (first | assumption | (with_reducible refine wpAny_loadPart_at hC ?_) | wp_step))
 refine ⟨rfl,?_⟩
 exact codeAny_call_builtin_at (Code.quiet_builtin _ (by decide +kernel)) entry_typeCall (wpAny_check_type_call_sub hC (xc_type_call hC hv ha hn hrest hi hb hq))
end
end L2
namespace L2
open PySem PySem.Spec PyProof.Rows PySem.W
open Builtin Builtin.ObjectAttr
structure XC (K : Frag) (C M : Addr) : Prop where
 at_ : ∃ nm q N bs sn sub ab col dd k0 k1 k2 k3 k5,K.lookup C = some (excClassObj nm q C N bs (.ref M :: vTail) true sn sub ab col dd k0 k1 k2 k3 k5 "ValueError.__new__")
 ga : findIn K (.ref C) "__getattribute__" = some (some (.builtin "BaseException.__getattribute__"))
 gb : findIn K (.ref C) "__getattr__" = some none
 hd : hasDictIn K C = true
 sa : findIn K (.ref C) "__setattr__" = some (some (.builtin "object.__setattr__"))
 kc : findIn K (.ref C) "__class__" = some (some (.builtin "object.__class__"))
 kg : specialIn K (.builtin "object.__class__") "__get__" = some (some (.builtin "getset_descriptor.__get__"))
 kt : takesIn K (.builtin "object.__class__") = some true
 mo : mroIn K C (.type "object") = some true
 kp : keepIn K (.ref C) = true
section
variable {prog : Program} {w : World} {A : Around} {E : Value -> Shared -> Prop} {s : Shared} {K : Frag} {x C M t : Addr} {ox : Obj} {od : Option Obj} {name : Str} {v : Value}
theorem XC.mro {Md : Model} {h : Heap} (X : K.In h) (xc : XC K C M) : Looks Md h (mroOf (.ref C)) (.ref C :: .ref M :: vTail) := by
 obtain ⟨nm,q,N,bs,sn,sub,ab,col,dd,k0,k1,k2,k3,k5,e⟩ := xc.at_
 have hc : clsIn K C = some { name := nm,bases := bs,mro := .ref C :: .ref M :: vTail,ns := N,qualname := q,hasDict := true,slotNames := sn,subclasses := sub,abstract := ab,collection := col,hasDel := false } := by unfold clsIn; rw [e]
 exact (looks_clsIn X hc).andThen .now
theorem xc_osa {R : Result -> Shared -> Prop} {tk : Tok} (X : K.In s.heap) (xc : XC K C M) (I : InstAt s.heap x ox C od) (ha : findIn K (.ref C) name = some none)
 (h : wpAny (model prog w) A.in1 (storeInOwnDict (.ref x) (.ref C) (.str name tk) name v false) (λ fin s' => match fin with | .done f => R (.ok f) s' | .again c' => c'.quiet = true /\ codeAny (model prog w) A c' R s') (λ e s' => R (.error e) s') s) :
 codeAny (model prog w) A (.call (.builtin "object.__setattr__") ⟨[.ref x,.str name tk,v],[]⟩) R s := by
 have SF := PySem.F.store_object
 have sub : Looks (model prog w) s.heap (isInstance (.ref x) (.type "object")) true := I.type.andThen (looks_mroIn X xc.mo)
 refine codeAny_call_builtin SF.slot.plain SF.entry (@check_slot (model prog w) _ _ s "object.__setattr__" "object" "__setattr__" (.ref x) [.str name tk,v] [] _ SF.kind SF.split sub (SF.args _ _ _) ?_)
 rw [osa_eq,refuse_eq]
 refine wpAny_bind (wpAny_bind (I.type.here (wpAny_bind ((xc.mro X).here ?_))))
 rw [refuseLoop_ref,refuseLoop_ref,PySem.F.store_ValueError.passes]
 refine wpAny_pure (wpAny_bind (I.type.here (wpAny_bind ((looks_findIn X ha).here ?_))))
 exact wpAny_bind (wpAny_pure h)
theorem xc_set0 {Q : Unit -> Shared -> Prop} (X : K.In s.heap) (xc : XC K C M) (hx : s.heap.get? x = some (excObj C t none)) (ha : findIn K (.ref C) name = some none)
 (h : ∀ h',h'.get? x = some (excObj C t (some s.heap.objs.size)) -> h'.Ns1 s.heap.objs.size (λ y => if y = name then some v else none) -> (∀ b o,b ≠ x -> s.heap.get? b = some o -> h'.get? b = some o) -> Q () { s with heap := h',toks := s.toks + 2 }) :
 wpAny (model prog w) A (setAttr (.ref x) name v) Q E s := by
 have J : InstAt s.heap x (excObj C t none) C none := ⟨hx,rfl,rfl,trivial⟩
 refine set_plain X J xc.sa (xc_osa (s := { s with toks := s.toks + 1 }) X xc J ha ?_)
 obtain ⟨cd,hc,hd'⟩ := any_some xc.hd
 refine wpAny_bind (wpAny_pure (wpAny_bind (wpAny_bind (wpAny_loadPart hx (wpAny_bind (Looks.here (s := { s with toks := s.toks + 1 }) (looks_clsIn X hc) ?_))))))
 rw [hd']
 have hxs : x ≠ s.heap.objs.size := Nat.ne_of_lt (Heap.lt_size hx)
 have hx1 : (s.heap.push { cls := .type "dict",data := .dict #[] }).get? x = some (excObj C t none) := Heap.get?_push_of_some _ hx
 show wpAny _ _ (alloc { cls := .type "dict",data := .dict #[] } >>= _) _ _ _
 refine wpAny_bind (wpAny_alloc ?_)
 refine wpAny_bind (wpAny_update hx1 ?_)
 refine wpAny_pure (wpAny_bind (wpAny_pure (wpAny_bind ?_)))
 have hgd : ((s.heap.push { cls := .type "dict",data := .dict #[] }).update x λ o => { o with dict := some s.heap.objs.size }).get? s.heap.objs.size = some { cls := .type "dict",data := .dict #[] } :=
  (Heap.get?_update_ne _ _ _ _ hxs.symm).trans (Heap.get?_push_at rfl rfl)
 have hnd : ((s.heap.push { cls := .type "dict",data := .dict #[] }).update x λ o => { o with dict := some s.heap.objs.size }).Ns s.heap.objs.size (λ _ => none) := ⟨_,#[],_,hgd,rfl,λ e he => absurd he (by simp),λ _ => rfl⟩
 refine wpAny_nsSet1 (Heap.Ns1.of_empty hnd) λ h' hn' hs => ?_
 obtain ⟨oD,esD,epD,hoD,hdD,hcD⟩ := hn'.count (Within.cons name v Within.nil)
 refine wpAny_bind (wpAny_lookBehind hoD (by rw [hdD]; exact pastItsLine_dict (Nat.le_trans hcD (by rw [List.length_cons,List.length_nil,sizeLine_eq]; decide))) ?_)
 refine wpAny_pure (h h' ((hs.2 x hxs).trans (Heap.get?_update_self _ hx1 rfl)) hn' λ b o hb e => ?_)
 exact (hs.2 b (Nat.ne_of_lt (Heap.lt_size e))).trans ((Heap.get?_update_ne _ _ _ _ hb).trans (Heap.get?_push_of_some _ e))
theorem xc_set1 {Q : Unit -> Shared -> Prop} {dx : Addr} {mA : Str -> Option Value} {ns : List Str} (X : K.In s.heap) (xc : XC K C M) (hx : s.heap.get? x = some (excObj C t (some dx))) (hn : s.heap.Ns1 dx mA) (hne : dx ≠ x) (ha : findIn K (.ref C) name = some none) (hw : Within mA ns) (hsz : ns.length < 1000)
 (h : ∀ h',h'.Ns1 dx (λ y => if y = name then some v else mA y) -> Heap.SameBut dx s.heap h' -> Q () { s with heap := h',toks := s.toks + 2 }) : wpAny (model prog w) A (setAttr (.ref x) name v) Q E s := by
 obtain ⟨od,hod,_⟩ := lookIn_ns hn
 have J : InstAt s.heap x (excObj C t (some dx)) C (some od) := ⟨hx,rfl,rfl,hod⟩
 refine set_plain X J xc.sa (xc_osa (s := { s with toks := s.toks + 1 }) X xc J ha ?_)
 obtain ⟨cd,hc,hd'⟩ := any_some xc.hd
 refine wpAny_bind (wpAny_pure (wpAny_bind (wpAny_bind (wpAny_loadPart hx (wpAny_bind (Looks.here (s := { s with toks := s.toks + 1 }) (looks_clsIn X hc) ?_))))))
 rw [hd']
 refine wpAny_pure (a := some dx) (wpAny_bind (wpAny_pure (wpAny_bind ?_)))
 refine wpAny_nsSet1 (s := { s with toks := s.toks + 1 }) hn λ h' hn' hs => ?_
 obtain ⟨oD,esD,epD,hoD,hdD,hcD⟩ := hn'.count (Within.cons name v hw)
 refine wpAny_bind (wpAny_lookBehind hoD (by rw [hdD]; exact pastItsLine_dict (Nat.le_trans hcD (by rw [List.length_cons,sizeLine_eq]; omega))) ?_)
 exact wpAny_pure (h h' hn' hs)
end
end L2
namespace L2
open PySem PySem.Spec PyProof.Rows
variable {X : Cx} {pins : List (Addr × Obj)} {σ : St} {H : Hp} {s : Shared} {C a : Addr} {A : Around} {base : Heap} {env : Env} {outer : List Env} {Q : Unit -> Shared -> Prop} {P prog : Program} {w : World} {K : W.Frag} {mg : Str -> Option Value}
def ExcO (e C t : Addr) (d : Option Addr) : HO := .ext λ h => h.get? e = some (excObj C t d)
def DctO (dx : Addr) (fs : List (Str × V)) : HO := .ext λ h => fs.length <= 900 /\ ∃ mA,h.Ns1 dx mA /\ (∀ f,RelO (fs.lookup f) (mA f)) /\ PySem.Within mA (fs.map (·.1))
def XAt (H : Hp) (e C : Addr) (fs : List (Str × V)) : Prop := ∃ t,(H e = some (ExcO e C t none) /\ fs = []) \/ ∃ dx,H e = some (ExcO e C t (some dx)) /\ H dx = some (DctO dx fs) /\ dx ≠ e
theorem excO_ok {P : Program} {w : World} {H : Hp} {h : Heap} {e C t : Addr} {d : Option Addr} (q : h.get? e = some (excObj C t d)) : ObjOk P w H h e (ExcO e C t d) :=
 ⟨q,⟨_,q⟩,λ _ _ p k => k _ p⟩
theorem dctO_ok {P : Program} {w : World} {H : Hp} {h : Heap} {dx : Addr} {fs : List (Str × V)} {mA : Str -> Option Value} (hl : fs.length <= 900) (n : h.Ns1 dx mA) (r : ∀ f,RelO (fs.lookup f) (mA f)) (w' : PySem.Within mA (fs.map (·.1))) : ObjOk P w H h dx (DctO dx fs) := by
 refine ⟨⟨hl,mA,n,r,w'⟩,?_,λ h1 h2 ⟨hl,mA,n,r,w'⟩ k => ?_⟩
 . obtain ⟨o,es,ep,e,_⟩ := n;exact ⟨o,e⟩
 . obtain ⟨o,es,ep,e,z⟩ := n;exact ⟨hl,mA,⟨o,es,ep,k o e,z⟩,r,w'⟩
theorem Inv.exc (I : Inv X pins σ H s) {e C t : Addr} {d : Option Addr} (h : H e = some (ExcO e C t d)) : s.heap.get? e = some (excObj C t d) := (I.hok e _ h).1
theorem Inv.writeLaid {h' : Heap} {x a : Addr} {o1 o2 : HO} {t' : Nat} (I : Inv X pins σ H s) (mu : Mut (H x)) (k : ∀ b u,b ≠ x -> s.heap.get? b = some u -> h'.get? b = some u) (hx : ∃ u,h'.get? x = some u) (ha : s.heap.objs.size <= a)
 (n1 : ObjOk X.prog X.w (upd (upd H x o1) a o2) h' x o1) (n2 : ObjOk X.prog X.w (upd (upd H x o1) a o2) h' a o2) : Inv X pins σ (upd (upd H x o1) a o2) { s with heap := h',toks := t' } := by
 have nx : ∀ b,H b = none -> b ≠ x := λ b n z => by subst z; rw [n] at mu; exact mu
 have na : ∀ b ob,s.heap.get? b = some ob -> b ≠ a := λ b ob e => Nat.ne_of_lt (Nat.lt_of_lt_of_le (Heap.lt_size e) ha)
 have fa : H a = none := I.hok.fresh ha
 have nm : ∀ b u,H b = some u -> ¬ Mut (some u) -> b ≠ x := λ b u q nmu z => by subst z; rw [q] at mu; exact nmu mu
 have lift : ∀ b u,H b = some u -> ¬ Mut (some u) -> upd (upd H x o1) a o2 b = some u := λ b u q nmu => by rw [upd_ne (ne_of_none q fa),upd_ne (nm b u q nmu)]; exact q
 have xa : x ≠ a := λ z => by rw [z,fa] at mu; exact mu
 refine I.step (g' := s.gens) (d' := s.drawn) (ch := []) (λ _ z => nomatch z) (λ b ob _ _ _ e n => k b ob (nx b n) e) (λ b ob _ _ _ e n => ⟨ob.slots,k b ob (nx b n) e⟩) (λ b ob _ e n => by rw [upd_ne (na b ob e),upd_ne (nx b n)]; exact n)
  (λ b ob _ e => ?_) (λ b xs e => lift b _ e λ z => z) (λ b ob u e => lift b _ e λ z => z) (λ b ps e => ⟨#[],by rw [lift b _ e λ z => z]; simp⟩) (λ m hm => ?_) (λ b u e => ?_) I.bare
 . by_cases hb : b = x
   . rw [hb]; exact hx
   . exact ⟨ob,k b ob hb e⟩
 . obtain ⟨ob,es,ep,ho,r⟩ := hm;exact ⟨ob,es,ep,k _ ob (nx _ I.free) ho,r⟩
 . by_cases hb : b = a
   . rw [hb,upd_same] at e; cases e; rw [hb]; exact n2
   . rw [upd_ne hb] at e
     by_cases hbx : b = x
     . rw [hbx,upd_same] at e; cases e; rw [hbx]; exact n1
     . rw [upd_ne hbx] at e;refine (I.hok b u e).stay (λ c v hc q => k c v ?_ q) (λ c q => lift c _ q λ z => z) λ c xs q => lift c _ q λ z => z
       rcases hc with z | z
       . rw [z]; exact hbx
       . exact nm c _ z λ z => z
section
variable {M : Addr}
def sFldX (C : Addr) (ta tv : TE) (f : Str) : TS := λ D σ H => tv σ H λ y H1 => ta σ H1 λ x H2 => ∃ e,x = .ref e /\
 ((∃ t,H2 e = some (ExcO e C t none) /\ ∀ dx,H2 dx = none -> dx ≠ e -> D.nx σ (upd (upd H2 e (ExcO e C t (some dx))) dx (DctO dx [(f,y)]))) \/
  ∃ t dx fs,H2 e = some (ExcO e C t (some dx)) /\ H2 dx = some (DctO dx fs) /\ dx ≠ e /\ fs.length < 900 /\ D.nx σ (upd H2 dx (DctO dx (putF f y fs))))
theorem ps_fldX {o value : Expr} {f : Str} {ta tv : TE} {pos pos' : Pos} (xc : XC X.K C M) (hf : W.findIn X.K (.ref C) f = some none) (ha : PE X o ta) (hv : PE X value tv) (hs : swapsWith value (some (.Attribute o f pos')) pos.line X.env = pure false := by rfl) :
 PS X (.Assign [.Attribute o f pos'] value pos) (sFldX C ta tv f) := by
 intro pins s σ H D I h
 refine plainObj_wpAny_Assign_Attribute (thn (hv pins s σ H _ I h) λ v s1 ⟨y,H1,I1,ry,q1⟩ => thn (ha pins s1 σ H1 _ I1 q1) λ u s2 ⟨x,H2,I2,rx,q2⟩ => ?_) hs
 obtain ⟨e,rfl,q2⟩ := q2
 cases rx
 rcases q2 with ⟨t,he,q⟩ | ⟨t,dx,fs,he,hd,hne,hl,q⟩
 . have hx := I2.exc he;have hxs : s2.heap.objs.size ≠ e := Nat.ne_of_gt (Heap.lt_size hx);refine xc_set0 I2.kIn xc hx hf λ h' a1 a2 a3 => ⟨σ,_,I2.writeLaid (o1 := ExcO e C t (some s2.heap.objs.size)) (o2 := DctO s2.heap.objs.size [(f,y)]) (t' := s2.toks + 2) (by rw [he]; exact trivial) a3 ⟨_,a1⟩ (Nat.le_refl _) (excO_ok a1) (dctO_ok (show 1 <= 900 by decide) a2 (λ g => ?_) ?_),q _ I2.fresh hxs⟩
   . show RelO (List.lookup g (putF f y [])) _
     rw [lookup_putF]
     by_cases hg : g = f
     . simp only [if_pos hg]; exact ry
     . simp only [if_neg hg]; trivial
   . exact PySem.Within.cons f v PySem.Within.nil
 . have hx := I2.exc he;obtain ⟨_,mA,hn,hr,hw⟩ := (I2.hok dx _ hd).1;refine xc_set1 I2.kIn xc hx hn hne hf hw (by rw [List.length_map]; omega) λ h' a1 a2 => ?_;have hok : ObjOk X.prog X.w (upd H2 dx (DctO dx (putF f y fs))) h' dx (DctO dx (putF f y fs)) := by
    refine dctO_ok (Nat.le_trans (length_putF f y fs) (by omega)) a1 (λ g => ?_) ?_
    . rw [lookup_putF]
      by_cases hg : g = f
      . simp only [if_pos hg]; exact ry
      . simp only [if_neg hg]; exact hr g
    . intro g hg;have q := (keys_putF f y fs)
      by_cases hgf : g = f
      . rw [hgf]; exact q.1
      . simp only [if_neg hgf] at hg;exact q.2 g (hw g hg)
   obtain ⟨o',es',ep',e',_⟩ := id a1;exact ⟨σ,_,I2.write (o := DctO dx (putF f y fs)) (t' := s2.toks + 2) (by rw [hd]; exact trivial) (.inl rfl) (λ b u hb q => (a2.2 b hb).trans q) ⟨_,e'⟩ hok,q⟩
def tMakeX (C : Addr) (sp : Sp) (t : TA) : TE := λ σ H Q => t σ H λ vs H1 => vs.length <= 100 /\ ∀ e u,H1 e = none -> H1 u = none -> u ≠ e ->
 sp (.ref e :: vs) (upd (upd H1 u (.tup vs)) e (ExcO e C u none)) (λ v H2 => v = .non /\ Q (.ref e) H2) E0
theorem vcont (C M : Addr) : (Value.ref C :: Value.ref M :: vTail).contains (.type "ValueError") = true /\ (Value.ref C :: Value.ref M :: vTail).contains (.type "AttributeError") = false /\ (Value.ref C :: Value.ref M :: vTail).contains (.type "NameError") = false := by
 refine ⟨?_,?_,?_⟩ <;> simp [vTail]
theorem run_makeX {k : Nat} {f : Addr} {fd : FuncData} {ps : List Str} {sp : Sp} {pins : List (Addr × Obj)} {σ : St} {H : Hp} {s : Shared} {Q : VK} {us : List Value} {vs : List V} (xc : XC X.K C M) (hin : W.findIn X.K (.ref C) "__init__" = some (some (.ref f))) (hfn : W.isFn X.K (.ref f) = true)
 (F : FnOk X.prog X.w X.K X.mg X.base CX0 k f fd ps sp) (hr : Room (k + 1) X.A) (hb : Binds X.K fd ps []) (I : Inv X pins σ H s) (r : Vals vs us) (hl : vs.length <= 100)
 (h : ∀ e u,H e = none -> H u = none -> u ≠ e -> sp (.ref e :: vs) (upd (upd H u (.tup vs)) e (ExcO e C u none)) (λ v H2 => v = .non /\ Q (.ref e) H2) E0) :
 wpAny (model X.prog X.w) X.A (call (.ref C) us) (EP X pins σ Q) X.xe s := by
 obtain ⟨nm,q,N,bs,sn,sub,ab,col,dd,k0,k1,k2,k3,k5,e⟩ := xc.at_
 obtain ⟨c1,c2,c3⟩ := vcont C M
 have hz : (100 : Nat) <= sizeLine := by rw [sizeLine_eq]; decide
 have hq := h (s.heap.objs.size + 1) s.heap.objs.size (I.hok.fresh (Nat.le_succ _)) I.fresh (Nat.ne_of_lt (Nat.lt_succ_self _))
 have I1 : Inv X pins σ (upd H s.heap.objs.size (.tup vs)) { s with heap := s.heap.push { cls := .type "tuple",data := .seq us.toArray },toks := s.toks } :=
  I.laid (o := .tup vs) (λ _ _ z => Heap.get?_push_of_some _ z) (Nat.le_refl _) ⟨Nat.le_trans hl hz,us,r,IsTup.new _ _⟩
 have I2 : Inv X pins σ (upd (upd H s.heap.objs.size (.tup vs)) (s.heap.objs.size + 1) (ExcO (s.heap.objs.size + 1) C s.heap.objs.size none))
  { s with heap := (s.heap.push { cls := .type "tuple",data := .seq us.toArray }).push (excObj C s.heap.objs.size none),toks := s.toks } :=
  I1.laid (o := ExcO (s.heap.objs.size + 1) C s.heap.objs.size none) (λ _ _ z => Heap.get?_push_of_some _ z) (by rw [Heap.size_push]; exact Nat.le_refl _) (excO_ok (Heap.get?_push_at (by rw [Heap.size_push]) rfl))
 have r2 : Vals (V.ref (s.heap.objs.size + 1) :: vs) (Value.ref (s.heap.objs.size + 1) :: us) := .cons rfl r
 have hlen : (Value.ref (s.heap.objs.size + 1) :: us).length = ps.length := by rw [<- r2.length]; exact F.len _ _ _ _ hq
 obtain ⟨hh,g,d,tk,os⟩ := s
 refine xc_call (I.kIn _ _ e) c1 c2 c3 (by rw [<- r.length]; exact Nat.le_trans hl hz) (PySem.W.looks_findIn I.kIn hin) (λ self => PySem.W.bind_fn I.kIn self (beq_iff_eq.mp hfn)) (wpAny_call ?_)
 have bb := hb ⟨_,g,d,tk,os⟩ (Value.ref (hh.objs.size + 1) :: us) I2.kIn (by rw [List.append_nil]; exact hlen)
 rw [List.append_nil] at bb
 refine codeAny_mono (F.run _ X.stack _ _ ⟨Value.ref (hh.objs.size + 1) :: us,[]⟩ (Value.ref (hh.objs.size + 1) :: us) _ _ E0 (hr.make C us []) (I2.env0.make C us []) bb r2 hq) λ r s' hq' => ?_
 cases r with
 | error e => exact False.elim hq'
 | ok fl =>
  cases fl with
  | ret u =>
   obtain ⟨v,H',I3,rv,ev,q3⟩ := I2.after hq';subst ev;exact ⟨rv,⟨V.ref (hh.objs.size + 1),H',I3,rfl,q3⟩⟩
  | next => exact False.elim hq'
  | brk => exact False.elim hq'
  | cont => exact False.elim hq'
theorem pe_makeX {k : Nat} {f : Addr} {fd : FuncData} {ps : List Str} {sp : Sp} {x : Str} {p pos : Pos} {e : Expr} {es : List Expr} {t : TA} (xc : XC X.K C M) (hin : W.findIn X.K (.ref C) "__init__" = some (some (.ref f))) (hfn : W.isFn X.K (.ref f) = true)
 (F : FnOk X.prog X.w X.K X.mg X.base CX0 k f fd ps sp) (hr : Room (k + 1) X.A) (hg : Gl X x) (hm : X.mg x = some (.ref C)) (hb : Binds X.K fd ps []) (ha : PA X (e :: es) t)
 (hdb : (x == ("__debug__" : Str)) = false := by decide) (he : starEach (e :: es) X.env = (false,eval e X.env) :: starEach es X.env := by rfl) (hpl : (backTo pos (starEach es X.env)).any (·.1) = false := by rfl) :
 PE X (.Call (.Name x p) (e :: es) [] pos) (tMakeX C sp t) := by
 intro pins s σ H Q I h
 refine wpAny_Call_Name_kw (ld_glob I hg hm ?_ hdb)
 refine PySem.W.callWith_K (h₀ := X.base) I.ok.mod.kin xc.kp (thn (ha pos pins s σ H _ I h) λ us s1 ⟨vs,H1,I1,r,hl,q⟩ => ⟨I1.kIn,?_⟩) he hpl
 exact run_makeX xc hin hfn F hr hb I1 r hl q
end
def Itz (K : W.Frag) (a b : Addr) : It :=
 ⟨λ i H => ∃ xs ys x y,SqL K H a xs /\ SqL K H b ys /\ xs[i]? = some x /\ ys[i]? = some y,
  λ i H v H' => ∃ T,H T = none /\ v = .ref T /\ ∀ xs ys,SqL K H a xs -> SqL K H b ys -> ∃ x y,xs[i]? = some x /\ ys[i]? = some y /\ H' = upd H T (.tup [x,y]),
  λ i H => ∃ xs ys,SqL K H a xs /\ SqL K H b ys /\ (xs.length <= i \/ ys.length <= i)⟩
def ZipSt (z TI TO i1 i2 a b : Addr) (i : Nat) (h : Heap) : Prop := IsZip h z TI TO .none /\ IsPair h TI (.ref i1) (.ref i2) /\ (∃ p q,IsPair h TO p q) /\ h.IsListIter i1 a i /\ h.IsListIter i2 b i
theorem zipSt_obj {z TI TO i1 i2 a b : Addr} {i : Nat} {h : Heap} (st : ZipSt z TI TO i1 i2 a b i h) : ∀ c ∈ [z,TI,TO,i1,i2],∃ o,h.get? c = some o /\ ∀ v,o.data ≠ .cell v := λ c hc => by
 obtain ⟨h1,h2,⟨p,q,h3⟩,⟨o4,h4,_,d4⟩,⟨o5,h5,_,d5⟩⟩ := st
 simp only [List.mem_cons,List.not_mem_nil,or_false] at hc
 rcases hc with rfl | rfl | rfl | rfl | rfl
 . exact ⟨_,h1,λ v z => nomatch (show Data.fields _ = Data.cell v from z)⟩
 . exact ⟨_,h2,λ v z => nomatch (show Data.seq _ _ = Data.cell v from z)⟩
 . exact ⟨_,h3,λ v z => nomatch (show Data.seq _ _ = Data.cell v from z)⟩
 . exact ⟨o4,h4,λ v z => by rw [d4] at z; cases z⟩
 . exact ⟨o5,h5,λ v z => by rw [d5] at z; cases z⟩
theorem turn_zip {P : Program} {w : World} {K : W.Frag} {elts : List Expr} {k : Nat} {pos : Pos} {z TI TO i1 i2 a b : Addr} (D : ZipApart z TI TO i1 i2 a b) : Turn P w K (.Tuple elts k pos) (Itz K a b) [z,TI,TO,i1,i2] z (ZipSt z TI TO i1 i2 a b) where
 mem := by simp
 obj := λ i h st => zipSt_obj st
 keep := λ i h h' st kk => by
  obtain ⟨h1,h2,⟨p,q,h3⟩,h4,h5⟩ := st;exact ⟨kk z (by simp) _ h1,kk TI (by simp) _ h2,⟨p,q,kk TO (by simp) _ h3⟩,h4.at λ o e => kk i1 (by simp) o e,h5.at λ o e => kk i2 (by simp) o e⟩
 item := by
  intro X hP hw hK hc i pins s σ H E I hf st hg;subst hP hw hK;have ob := zipSt_obj st;obtain ⟨xs,ys,x,y,hq1,hq2,hx,hy⟩ := hg;obtain ⟨h1,h2,⟨p,q,h3⟩,h4,h5⟩ := st;obtain ⟨its1,rv1,pl1,hz1⟩ := I.list hq1;obtain ⟨its2,rv2,pl2,hz2⟩ := I.list hq2;obtain ⟨u1,hu1,ru1⟩ := rv1.get hx;obtain ⟨u2,hu2,ru2⟩ := rv2.get hy;refine wpAny_pyNext_zip_item D h1 h2 h3 h4 h5 pl1.isList pl2.isList (x := u1) (y := u2) (by simpa using hu1) (by simpa using hu2) λ h' a1 a2 a3 a4 a5 a6 kk => ?_;have hTz : s.heap.objs.size ≠ z := Nat.ne_of_gt (Heap.lt_size h1);refine ⟨_,rfl,wpAny_letOwnedTupleGo_zip (s := { s with heap := h' }) a1 λ h9 zn sb => ?_⟩;have kp : ∀ c ob,c ∉ [z,TI,TO,i1,i2] -> s.heap.get? c = some ob -> h9.get? c = some ob := λ c ob hc e => by
   simp only [List.mem_cons,List.not_mem_nil,or_false,not_or] at hc;exact (sb.2 c hc.1).trans (kk c ob hc.1 hc.2.2.1 hc.2.2.2.1 hc.2.2.2.2 e)
  have hpair : h9.get? s.heap.objs.size = some { cls := .type "tuple",data := .seq #[u1,u2] } := (sb.2 _ hTz).trans a5;have I2 : Inv X pins σ (upd H s.heap.objs.size (.tup [x,y])) { s with heap := h9,toks := s.toks } := I.turnLaid (o := .tup [x,y]) (t' := s.toks) hf kp (Nat.le_refl _)
   ⟨by show 2 <= sizeLine; rw [sizeLine_eq]; decide,[u1,u2],.cons ru1 (.cons ru2 .nil),⟨_,hpair,rfl,_,rfl⟩⟩
  refine ⟨.ref s.heap.objs.size,_,I2,rfl,⟨_,I.fresh,rfl,λ xs' ys' g1 g2 => ⟨x,y,by rw [I.list_inj g1 hq1]; exact hx,by rw [I.list_inj g2 hq2]; exact hy,rfl⟩⟩,⟨zn,?_,⟨_,_,(sb.2 _ D.TOz).trans a2⟩,a3.extBut sb.extBut D.i1z,a4.extBut sb.extBut D.i2z⟩,λ c hc => ?_⟩
  . exact (sb.2 _ D.TIz).trans (kk _ _ D.TIz D.TITO D.TIi1 D.TIi2 h2)
  . obtain ⟨o,ho,_⟩ := ob c hc;rw [upd_ne (Nat.ne_of_lt (Heap.lt_size ho))];exact (hf c hc).1
 done := by
  intro X hP hw hK hc i pins s σ H E I hf st hg;subst hP hw hK;obtain ⟨xs,ys,hq1,hq2,hend⟩ := hg;obtain ⟨h1,h2,⟨p,q,h3⟩,h4,h5⟩ := st;obtain ⟨its1,rv1,pl1,hz1⟩ := I.list hq1;obtain ⟨its2,rv2,pl2,hz2⟩ := I.list hq2;have l1 := rv1.length;have l2 := rv2.length;refine wpAny_pyNext_zip_end (I.ok.hd hc) D h1 h2 h3 h4 h5 pl1.isList pl2.isList ?_ λ h' kk => ⟨rfl,I.turnedL (t' := s.toks) hf λ c ob hc e => ?_⟩
  . rcases hend with g | g
    . exact .inl (by simp; omega)
    . exact .inr (by simp; omega)
  . simp only [List.mem_cons,List.not_mem_nil,or_false,not_or] at hc;exact kk c ob hc.1 hc.2.2.1 hc.2.2.2.1 hc.2.2.2.2 e
 self := λ A i s Q E st h => wpAny_pyIter_zip st.1 h
def iZip (K : W.Frag) (ta : TA) : TI := λ σ H R => ta σ H λ vs H1 => ∃ a b,vs = [.ref a,.ref b] /\ (∃ xs,SqL K H1 a xs) /\ (∃ ys,SqL K H1 b ys) /\ R (Itz K a b) H1
theorem pi_zip {X : Cx} {elts : List Expr} {k : Nat} {tpos : Pos} {l l2 : Expr} {ta : TA} {p pos : Pos} (hg : Gl X "zip") (hm : X.mg "zip" = none) (ha : PA X [l,l2] ta) (hs : starEach [l,l2] X.env = [(false,eval l X.env),(false,eval l2 X.env)] := by rfl) (hs2 : starEach [l2] X.env = [(false,eval l2 X.env)] := by rfl) :
 PI X (.Tuple elts k tpos) (.Call (.Name "zip" p) [l,l2] [] pos) (iZip X.K ta) := by
 intro pins s σ H R I h
 refine Call_ (ld_blt I hg hm (show bootBuiltins "zip" = some (.type "zip") by decide +kernel) (PyProof.Rows.callWith_type1 (thn (ha pos pins s σ H _ I h) λ us s1 ⟨vs,H1,I1,r1,q1⟩ => ?_) (by rw [hs,hs2]) (by rw [hs2]; rfl)))
 obtain ⟨a,b,e,⟨xs,hq1⟩,⟨ys,hq2⟩,q⟩ := q1
 subst e
 obtain ⟨u1,u2,rfl,r1,r2⟩ := r1.two
 cases r1
 cases r2
 obtain ⟨its1,rv1,pl1,hz1⟩ := I1.list hq1
 obtain ⟨its2,rv2,pl2,hz2⟩ := I1.list hq2
 have la : a < s1.heap.objs.size := by obtain ⟨o,ho,_⟩ := pl1.isList; exact Heap.lt_size ho
 have lb : b < s1.heap.objs.size := by obtain ⟨o,ho,_⟩ := pl2.isList; exact Heap.lt_size ho
 refine call_zip_2 pl1.isList pl2.isList λ h' z1 z2 z3 z4 z5 hsz kk => ?_
 have I2 : Inv X pins σ H1 { s1 with heap := h' } := I1.kept (t' := s1.toks) kk
 have T := turn_zip (P := X.prog) (w := X.w) (K := X.K) (elts := elts) (k := k) (pos := tpos) (zipApart_new la lb)
 refine T.self X.A 0 { s1 with heap := h' } _ _ ⟨z1,z2,⟨_,_,z3⟩,z4,z5⟩ ⟨_,_,_,_,H1,rfl,I2,T,⟨z1,z2,⟨_,_,z3⟩,z4,z5⟩,λ c hc => ?_,q⟩
 have hb' : s1.heap.objs.size <= c := by
  simp only [List.mem_cons,List.not_mem_nil,or_false] at hc
  rcases hc with rfl | rfl | rfl | rfl | rfl <;> omega
 exact I1.fpOk hb' (I1.hok.fresh hb')
def tRev (K : W.Frag) (te : TE) : TE := λ σ H Q => te σ H λ x H1 => ∃ a xs,x = .ref a /\ SqL K H1 a xs /\ ∀ p,H1 p = none -> Q (.ref p) (upd H1 p (.lst xs.reverse))
theorem pe_rev {e : Expr} {te : TE} {st : Expr} {p2 pos : Pos} (he : PE X e te) (hst : PE X st (λ _ H Q => Q (.int (-1)) H))
 (hsub : ∀ o i,subscripted (.Slice none none (some st) p2) false o i = operate [o,i] (getItem o i) := by intro _ _; with_unfolding_all rfl) : PE X (.Subscript e (.Slice none none (some st) p2) pos) (tRev X.K te) := by
 intro pins s σ H Q I h
 refine Subscript_ (thn (he pins s σ H _ I h) λ v s1 ⟨x,H1,I1,r1,q1⟩ => ?_)
 obtain ⟨a,xs,rfl,hq,q⟩ := q1
 cases r1
 refine wpAny_Slice ?_
 rw [evalPart_none]
 refine wpAny_pure (wpAny_pure ?_)
 refine wpAny_evalPart_some (thn (hst pins s1 σ H1 (λ v H' => v = .int (-1) /\ H' = H1) I1 ⟨rfl,rfl⟩) λ u s2 ⟨y,H2,I2,r2,ey,eh⟩ => ?_)
 subst ey eh
 obtain ⟨t,rfl⟩ := r2
 have I3 : Inv X pins σ H2 { s2 with heap := s2.heap.push { cls := .type "slice",data := .fields #[.none,.none,.int (-1) t] } } := I2.kept (t' := s2.toks) λ b ob z => Heap.get?_push_of_some _ z
 obtain ⟨its,r,pl,hz⟩ := I3.list hq
 have hlen := r.length
 refine tail_any (ops := [.ref a,.ref s2.heap.objs.size]) pl.isList.typeIs slot_list_getitem.lookup (wpAny_getItem_list_slice pl.isList (Heap.IsSliceOf.new ..) .none .none (.int (-1) t) (by decide) ?_ (by rw [List.size_toArray] <;> omega)) (hsub _ _)
 rw [PySem.W.krv_pick]
 refine ⟨.ref _,_,I3.laid (t' := s2.toks) (o := .lst xs.reverse) (λ b ob z => Heap.get?_push_of_some _ z) (Nat.le_refl _) ?_,rfl,q _ I3.fresh⟩
 exact ⟨by rw [List.length_reverse]; exact hz,_,0,r.reverse,Heap.get?_push_size _ rfl⟩
def TbAt (h : Heap) (T : Addr) : Prop := ∃ oT ts,h.get? T = some oT /\ oT.data = .fields ts /\ ts[3]? = some .none
structure Lft (fs : List Addr) (a T : Addr) (h h' : Heap) : Prop where
 keep : ∀ b o,b ∉ fs -> b ≠ a -> h.get? b = some o -> h'.get? b = some o
 slot : ∀ b o,b ∈ fs -> h.get? b = some o -> ∃ sl,h'.get? b = some { o with slots := sl }
 tb : TbAt h' T
section
variable {M : Model} {E : Value -> Shared -> Prop} {L : Addr} {oe : Obj} {vs : Array Value}
theorem entry_lft {head : Value} {hadNext : Bool} (hfr : A.frames = some (env :: outer)) (hl : s.heap.FunFrames base (env :: outer)) (hf : env.frame = some L) (he : s.heap.get? a = some oe) (hd : oe.data = .fields vs) (hsz : 1 < vs.size)
 (h : ∀ h',Lft (frs (env :: outer)) a s.heap.objs.size s.heap h' -> h'.get? a = some (oe.mapFields (·.setIfInBounds 1 (.ref s.heap.objs.size))) -> Q () { s with heap := h' }) :
 wpAny M A (do let x <- frameOf env; let p <- entryPlaceOf L hadNext; let t <- EntryCells.newEntry head x .none (rawInt L) .none p; setField (.ref a) 1 t) (λ _ s' => wpAny M A (setFlight (.ref a) none) Q E s') E s := by
 have na : a ∉ frs (env :: outer) := λ hm => by
  obtain ⟨_,o,ho,hnf⟩ := hl.mem hm;rw [he] at ho;cases ho;exact hnf vs hd
 refine wpAny_bind (wpAny_frameOf_fun hfr hl hf λ k so => wpAny_bind (wpAny_entryPlaceOf λ pl hpl => ?_))
 obtain ⟨s1,s2,s3⟩ := so
 unfold EntryCells.newEntry newFields
 refine wpAny_bind (wpAny_newObj_type ?_ (hpl.sizeOk5 _ _ _ _ _))
 generalize hTB : ({ cls := .type "traceback",dict := none,data := .fields ([head,.ref L,.none,rawInt L,.none] ++ (if pl.isEmpty then List.replicate 6 Value.none else pl)).toArray } : Obj) = TB
 have dTB : TB.data = .fields ([head,.ref L,.none,rawInt L,.none] ++ (if pl.isEmpty then List.replicate 6 Value.none else pl)).toArray := by rw [<- hTB]
 have fTB : TB.isFreed = false := by rw [<- hTB]; rfl
 have e1 : k.get? a = some oe := (s2 a na).trans he
 have e2 : (k.push TB).get? a = some oe := Heap.get?_push_of_some _ e1
 have nT : k.objs.size ≠ a := Nat.ne_of_gt (Heap.lt_size e1)
 have t2 : (k.push TB).get? k.objs.size = some TB := Heap.get?_push_size _ fTB
 refine wpAny_setField e2 hd hsz ?_
 have d3 := Obj.data_mapFields hd (·.setIfInBounds 1 (Value.ref k.objs.size))
 have e3 := Heap.get?_update_self (Obj.mapFields (·.setIfInBounds 1 (Value.ref k.objs.size))) e2 (Obj.isFreed_of_fields d3)
 have t3 := (Heap.get?_update_other (k.push TB) (Obj.mapFields (·.setIfInBounds 1 (Value.ref k.objs.size))) (Ne.symm nT)).trans t2
 unfold setFlight
 refine wpAny_bind (wpAny_field e3 d3 (x := .ref k.objs.size) (by simp [hsz]) ?_)
 rw [if_pos (show (Value.ref k.objs.size != Value.none) = true by simp)]
 have sz3 : 3 < ([head,.ref L,.none,rawInt L,.none] ++ (if pl.isEmpty then List.replicate 6 Value.none else pl)).toArray.size := by
  simp only [List.size_toArray,List.length_append,List.length_cons,List.length_nil]; omega
 refine wpAny_setField t3 dTB sz3 ?_
 have d4 := Obj.data_mapFields dTB (·.setIfInBounds 3 ((none : Option Addr).elim Value.none λ f => rawInt f))
 have all : ∀ b o,b ≠ a -> k.get? b = some o -> (((k.push TB).update a (Obj.mapFields (·.setIfInBounds 1 (Value.ref k.objs.size)))).update k.objs.size (Obj.mapFields (·.setIfInBounds 3 ((none : Option Addr).elim Value.none λ f => rawInt f)))).get? b = some o := λ b o nb e => by
  rw [Heap.get?_update_other _ _ (Nat.ne_of_gt (Heap.lt_size e)),Heap.get?_update_other _ _ (Ne.symm nb)];exact Heap.get?_push_of_some _ e
 have q := h (((k.push TB).update a (Obj.mapFields (·.setIfInBounds 1 (Value.ref k.objs.size)))).update k.objs.size (Obj.mapFields (·.setIfInBounds 3 ((none : Option Addr).elim Value.none λ f => rawInt f))))
 rw [<- s1] at q
 refine q ⟨λ b o nf nb e => all b o nb ((s2 b nf).trans e),λ b o hb e => ?_,?_⟩ ?_
 . obtain ⟨sl,e'⟩ := s3 b o e;exact ⟨sl,all b _ (λ z => na (z ▸ hb)) e'⟩
 . exact ⟨_,_,Heap.get?_update_self _ t3 (Obj.isFreed_of_fields d4),d4,by simp [sz3]⟩
 . rw [Heap.get?_update_other _ _ nT]; exact e3
theorem leave_first (hfr : A.frames = some (env :: outer)) (hl : s.heap.FunFrames base (env :: outer)) (hf : env.frame = some L) (he : s.heap.get? a = some oe) (hd : oe.data = .fields vs) (h1 : vs[1]? = some .none)
 (h : ∀ h',Lft (frs (env :: outer)) a s.heap.objs.size s.heap h' -> h'.get? a = some (oe.mapFields (·.setIfInBounds 1 (.ref s.heap.objs.size))) -> Q () { s with heap := h' }) : wpAny M A (leaving env (.ref a)) Q E s := by
 unfold leaving noteFrame
 simp only [hf]
 refine wpAny_bind (wpAny_bind (wpAny_field he hd h1 ?_))
 rw [if_neg (by decide)]
 exact entry_lft hfr hl hf he hd (Array.getElem?_eq_some_iff.mp h1).1 h
theorem leave_next {T : Addr} (hfr : A.frames = some (env :: outer)) (hl : s.heap.FunFrames base (env :: outer)) (hf : env.frame = some L) (he : s.heap.get? a = some oe) (hd : oe.data = .fields vs) (h1 : vs[1]? = some (.ref T)) (ht : TbAt s.heap T) (nTa : T ≠ a)
 (h : ∀ h' k,(∀ b o,b ≠ T -> s.heap.get? b = some o -> k.get? b = some o) -> TbAt k T -> k.objs.size = s.heap.objs.size -> Lft (frs (env :: outer)) a s.heap.objs.size k h' -> h'.get? a = some (oe.mapFields (·.setIfInBounds 1 (.ref s.heap.objs.size))) -> Q () { s with heap := h' }) : wpAny M A (leaving env (.ref a)) Q E s := by
 obtain ⟨oT,ts,hT,dT,t3⟩ := ht
 have s3 : 3 < ts.size := (Array.getElem?_eq_some_iff.mp t3).1
 unfold leaving noteFrame
 simp only [hf]
 refine wpAny_bind (wpAny_bind (wpAny_field he hd h1 ?_))
 rw [if_pos (show (Value.ref T != Value.none) = true by simp)]
 refine wpAny_bind (wpAny_field hT dT t3 ?_)
 rw [if_neg (show ¬ ((Value.none == rawInt L) = true) by simp [rawInt])]
 refine wpAny_bind (wpAny_setField hT dT s3 ?_)
 have oth : ∀ b,b ≠ T -> (s.heap.update T (Obj.mapFields (·.setIfInBounds 3 Value.none))).get? b = s.heap.get? b := λ b nb => Heap.get?_update_other _ _ (Ne.symm nb)
 have d4 := Obj.data_mapFields dT (·.setIfInBounds 3 Value.none)
 have tT : TbAt (s.heap.update T (Obj.mapFields (·.setIfInBounds 3 Value.none))) T := ⟨_,_,Heap.get?_update_self _ hT (Obj.isFreed_of_fields d4),d4,by simp [s3]⟩
 have zz : (s.heap.update T (Obj.mapFields (·.setIfInBounds 3 Value.none))).objs.size = s.heap.objs.size := Heap.size_after_update ..
 have nfT : ∀ b o,s.heap.get? b = some o -> (∀ ws,o.data ≠ .fields ws) -> b ≠ T := λ b o e nf z => by
  rw [z,hT] at e;cases e;exact nf ts dT
 refine entry_lft (s := { s with heap := s.heap.update T (Obj.mapFields (·.setIfInBounds 3 Value.none)) }) hfr (hl.of_keeps λ b o e nf => ⟨o,(oth b (nfT b o e nf)).trans e,rfl⟩) hf ((oth a (Ne.symm nTa)).trans he) hd (Array.getElem?_eq_some_iff.mp h1).1 λ h' lf ea => ?_
 exact h h' _ (λ b o nb e => (oth b nb).trans e) tT zz (by rw [<- zz]; exact lf) (by rw [<- zz]; exact ea)
end
def TbO (T : Addr) : HO := .ext λ h => TbAt h T
def FlyO (a C : Addr) (d : Option Addr) (T : Addr) : HO := .ext λ h => ∃ vs,h.get? a = some { cls := .ref C,dict := d,data := .fields vs } /\ vs[1]? = some (.ref T)
theorem tbO_ok {P : Program} {w : World} {H : Hp} {h : Heap} {T : Addr} (q : TbAt h T) : ObjOk P w H h T (TbO T) := by
 refine ⟨q,?_,λ h1 h2 ⟨oT,ts,e,r⟩ k => ⟨oT,ts,k _ e,r⟩⟩
 obtain ⟨oT,ts,e,_⟩ := q
 exact ⟨oT,e⟩
theorem flyO_ok {P : Program} {w : World} {H : Hp} {h : Heap} {a C T : Addr} {d : Option Addr} {vs : Array Value} (q : h.get? a = some { cls := .ref C,dict := d,data := .fields vs }) (h1 : vs[1]? = some (.ref T)) : ObjOk P w H h a (FlyO a C d T) :=
 ⟨⟨vs,q,h1⟩,⟨_,q⟩,λ _ _ ⟨vs,e,r⟩ k => ⟨vs,k _ e,r⟩⟩
def FlyAt (H : Hp) (a C : Addr) (fs : List (Str × V)) : Prop := ∃ T d,H T = some (TbO T) /\ T ≠ a /\ H a = some (FlyO a C d T) /\ ((d = none /\ fs = []) \/ ∃ dx,d = some dx /\ H dx = some (DctO dx fs) /\ dx ≠ a /\ dx ≠ T)
def CXE (P : Program) (w : World) : CXT := λ outer H s E e s' => ∃ (a : Addr) (H' : Hp),e = .ref a /\ s'.os = s.os /\ AllBare s'.gens /\ Un (frs outer) [] H H' s.heap s'.heap /\ HOk P w H' s'.heap /\ E e none H'
section
variable {N : List Str} {qual : Str} {scope : Scope} {f : Addr} {cd : Value} {s0 : Shared} {H0 : Hp} {E : XK}
theorem left_ok {a T : Addr} {oa : HO} {k h' : Heap} (I : Inv (cxOf (CXE P w) P w K mg base N qual scope f cd A outer s0 H0 E) pins σ H s) (mu : ∃ φ,H a = some (.ext φ)) (hT : T = s.heap.objs.size) (lf : Lft (frs (envOfC qual scope s0.heap.objs.size f cd :: outer)) a T k h')
 (hk : ∀ b o,(∀ φ,H b ≠ some (.ext φ)) -> s.heap.get? b = some o -> k.get? b = some o) (hkt : ∀ b o,s.heap.get? b = some o -> ∃ o',k.get? b = some o') (hext : ∀ b φ,H b = some (.ext φ) -> b ≠ a -> φ s.heap -> ObjOk P w (upd (upd H a oa) T (TbO T)) h' b (.ext φ))
 (ha : ∃ o,h'.get? a = some o) (hoa : ObjOk P w (upd (upd H a oa) T (TbO T)) h' a oa) :
 Un (frs outer) [] H0 (upd (upd H a oa) T (TbO T)) s0.heap h' /\ HOk P w (upd (upd H a oa) T (TbO T)) h' := by
 obtain ⟨φa,eA⟩ := mu
 have fT : H T = none := by rw [hT]; exact I.fresh
 have naT : a ≠ T := ne_of_none eA fT
 have top : (cxOf (CXE P w) P w K mg base N qual scope f cd A outer s0 H0 E).stack = envOfC qual scope s0.heap.objs.size f cd :: outer := rfl
 have frN : ∀ b ∈ frs (envOfC qual scope s0.heap.objs.size f cd :: outer),H b = none := λ b hb => I.stkFree b hb
 have sub : ∀ b ∈ frs (envOfC qual scope s0.heap.objs.size f cd :: outer),b ∈ s0.heap.objs.size :: frs outer := λ b hb => I.stkSub b hb
 have sup : ∀ b ∈ frs outer,b ∈ frs (envOfC qual scope s0.heap.objs.size f cd :: outer) := λ b hb => by
  show b ∈ List.filterMap (·.frame) (envOfC qual scope s0.heap.objs.size f cd :: outer)
  rw [List.filterMap_cons];exact List.mem_cons_of_mem _ hb
 have zs : s0.heap.objs.size <= s.heap.objs.size := I.sz
 have nex : ∀ b,H b = none -> ∀ φ,H b ≠ some (.ext φ) := λ b e φ z => by rw [e] at z; cases z
 have u := I.base
 have in0 : ∀ b o,s0.heap.get? b = some o -> b ≠ T /\ b ≠ s0.heap.objs.size := λ b o e => ⟨Nat.ne_of_lt (Nat.lt_of_lt_of_le (Heap.lt_size e) (by rw [hT]; exact zs)),Nat.ne_of_lt (Heap.lt_size e)⟩
 have old : ∀ b u,H b = some u -> (∀ φ,u ≠ .ext φ) -> upd (upd H a oa) T (TbO T) b = some u := λ b u e nx => by
  rw [upd_ne (ne_of_none e fT),upd_ne (λ z => by rw [z,eA] at e; cases e; exact nx _ rfl)]; exact e
 refine ⟨⟨λ b o e n nf _ => ?_,λ b o e n hf _ => ?_,λ b o e n _ => ?_,λ b o e _ => ?_,λ b xs e => ?_,λ b o u' e => ?_,λ b ps e => ?_⟩,λ b u' e => ?_⟩
 . have e1 := u.keep b o e n nf (λ z => nomatch z);have n1 := u.free b o e n (λ z => nomatch z);refine lf.keep b o (λ hb => ?_) (ne_of_none eA n1).symm (hk b o (nex b n1) e1)
   rcases List.mem_cons.mp (sub b hb) with z | z
   . exact (in0 b o e).2 z
   . exact nf z
 . obtain ⟨sl,e1⟩ := u.slot b o e n hf (λ z => nomatch z);have n1 := u.free b o e n (λ z => nomatch z);obtain ⟨sl2,e2⟩ := lf.slot b _ (sup b hf) (hk b _ (nex b n1) e1);exact ⟨sl2,e2⟩
 . have n1 := u.free b o e n (λ z => nomatch z);rw [upd_ne (in0 b o e).1,upd_ne (ne_of_none eA n1).symm]; exact n1
 . obtain ⟨o1,e1⟩ := u.there b o e (λ z => nomatch z);obtain ⟨o2,e2⟩ := hkt b o1 e1
   by_cases hb : b ∈ frs (envOfC qual scope s0.heap.objs.size f cd :: outer)
   . obtain ⟨sl,e3⟩ := lf.slot b o2 hb e2;exact ⟨_,e3⟩
   . by_cases hba : b = a
     . rw [hba]; exact ha
     . exact ⟨o2,lf.keep b o2 hb hba e2⟩
 . exact old b _ (u.tups b xs e) (λ φ z => nomatch z)
 . exact old b _ (u.frzs b o u' e) (λ φ z => nomatch z)
 . obtain ⟨more,e1⟩ := u.tbls b ps e;exact ⟨more,old b _ e1 (λ φ z => nomatch z)⟩
 . by_cases hbT : b = T
   . rw [hbT,upd_same] at e;cases e;rw [hbT];exact tbO_ok lf.tb
   . rw [upd_ne hbT] at e
     by_cases hba : b = a
     . rw [hba,upd_same] at e;cases e;rw [hba];exact hoa
     . rw [upd_ne hba] at e;have nb : b ∉ frs (envOfC qual scope s0.heap.objs.size f cd :: outer) := λ hb => by rw [frN b hb] at e; cases e
       by_cases hx : ∃ φ,u' = .ext φ
       . obtain ⟨φ,rfl⟩ := hx;exact hext b φ e hba (I.hok b _ e).1
       . have nx : ∀ φ,H b ≠ some (.ext φ) := λ φ z => hx ⟨φ,by rw [e] at z; cases z; rfl⟩;refine (I.hok b u' e).stay (λ c v hc q => ?_) (λ c q => old c _ q (λ φ z => nomatch z)) λ c xs q => old c _ q (λ φ z => nomatch z)
         rcases hc with rfl | hc
         . exact lf.keep c v nb hba (hk c v nx q)
         . exact lf.keep c v (λ hb => by rw [frN c hb] at hc; cases hc) (λ z => by rw [z,eA] at hc; cases hc) (hk c v (λ φ z => by rw [hc] at z; cases z) q)
theorem xe_first {a C : Addr} {fs : List (Str × V)} (I : Inv (cxOf (CXE P w) P w K mg base N qual scope f cd A outer s0 H0 E) pins σ H s) (x : XAt H a C fs)
 (hE : ∀ H',FlyAt H' a C fs -> (∀ b o,b ≠ a -> H b = some o -> H' b = some o) -> E (.ref a) none H') : (cxOf (CXE P w) P w K mg base N qual scope f cd A outer s0 H0 E).xe (.ref a) s := by
 obtain ⟨t,hx⟩ := x
 have go : ∀ d,H a = some (ExcO a C t d) -> ((d = none /\ fs = []) \/ ∃ dx,d = some dx /\ H dx = some (DctO dx fs) /\ dx ≠ a) -> (cxOf (CXE P w) P w K mg base N qual scope f cd A outer s0 H0 E).xe (.ref a) s := λ d ea hd => by
  have ho : s.heap.get? a = some (excObj C t d) := (I.hok a _ ea).1;show wpAny (model P w) (A.deeper (envOfC qual scope s0.heap.objs.size f cd)) (leaving (envOfC qual scope s0.heap.objs.size f cd) (.ref a)) _ _ s;refine leave_first (base := base) I.ok.frames I.stack (L := s0.heap.objs.size) rfl ho rfl rfl λ h' lf ea' => ?_;have eaO : h'.get? a = some { cls := .ref C,dict := d,data := .fields ((#[.ref t,.none,.none,.none,.bool false,.none] : Array Value).setIfInBounds 1 (.ref s.heap.objs.size)) } := ea';have fT : H s.heap.objs.size = none := I.fresh;have naT : a ≠ s.heap.objs.size := ne_of_none ea fT;have fr : ∀ b u,H b = some u -> b ∉ frs (envOfC qual scope s0.heap.objs.size f cd :: outer) := λ b u e hb => by
   rw [show H b = none from I.stkFree b hb] at e; cases e
  obtain ⟨un,ok⟩ := left_ok (oa := FlyO a C d s.heap.objs.size) (k := s.heap) I ⟨_,ea⟩ rfl lf (λ _ _ _ e => e) (λ _ o e => ⟨o,e⟩)
   (λ b φ e nb p => by
    obtain ⟨_,⟨o,ho'⟩,st⟩ := I.hok b _ e;exact ⟨st _ _ p λ o q => lf.keep b o (fr b _ e) nb q,⟨o,lf.keep b o (fr b _ e) nb ho'⟩,st⟩) ⟨_,eaO⟩ (flyO_ok eaO rfl)
  refine ⟨a,_,rfl,I.os,I.bare,un,ok,hE _ ⟨s.heap.objs.size,d,upd_same,Ne.symm naT,by rw [upd_ne naT]; exact upd_same,?_⟩ λ b o nb e => by rw [upd_ne (ne_of_none e fT),upd_ne nb]; exact e⟩
  rcases hd with hd | ⟨dx,e1,e2,e3⟩
  . exact .inl hd
  . exact .inr ⟨dx,e1,by rw [upd_ne (ne_of_none e2 fT),upd_ne e3]; exact e2,e3,ne_of_none e2 fT⟩
 rcases hx with ⟨h1,h2⟩ | ⟨dx,h1,h2,h3⟩
 . exact go none h1 (.inl ⟨rfl,h2⟩)
 . exact go (some dx) h1 (.inr ⟨dx,rfl,h2,h3⟩)
theorem xe_next {a C : Addr} {fs : List (Str × V)} (I : Inv (cxOf (CXE P w) P w K mg base N qual scope f cd A outer s0 H0 E) pins σ H s) (x : FlyAt H a C fs)
 (hE : ∀ H',FlyAt H' a C fs -> (∀ b o,b ≠ a -> H b = some o -> H' b = some o) -> E (.ref a) none H') : (cxOf (CXE P w) P w K mg base N qual scope f cd A outer s0 H0 E).xe (.ref a) s := by
 obtain ⟨T,d,eT,nTa,ea,hd⟩ := x
 obtain ⟨vs,ho,h1⟩ := (I.hok a _ ea).1
 have tT : TbAt s.heap T := (I.hok T _ eT).1
 show wpAny (model P w) (A.deeper (envOfC qual scope s0.heap.objs.size f cd)) (leaving (envOfC qual scope s0.heap.objs.size f cd) (.ref a)) _ _ s
 refine leave_next (base := base) I.ok.frames I.stack (L := s0.heap.objs.size) rfl ho rfl h1 tT nTa λ h' k kk kT kz lf ea' => ?_
 have hsz : 1 < vs.size := (Array.getElem?_eq_some_iff.mp h1).1
 have eaO : h'.get? a = some { cls := .ref C,dict := d,data := .fields (vs.setIfInBounds 1 (.ref s.heap.objs.size)) } := ea'
 have fT : H s.heap.objs.size = none := I.fresh
 have naT : a ≠ s.heap.objs.size := ne_of_none ea fT
 have fr : ∀ b u,H b = some u -> b ∉ frs (envOfC qual scope s0.heap.objs.size f cd :: outer) := λ b u e hb => by
  rw [show H b = none from I.stkFree b hb] at e; cases e
 obtain ⟨un,ok⟩ := left_ok (oa := FlyO a C d s.heap.objs.size) (k := k) I ⟨_,ea⟩ rfl lf (λ b o nx e => kk b o (λ z => by subst z; exact nx _ eT) e)
  (λ b o e => by
   by_cases z : b = T
   . obtain ⟨oT,_,e',_⟩ := kT;exact ⟨oT,by rw [z]; exact e'⟩
   . exact ⟨o,kk b o z e⟩)
  (λ b φ e nb p => by
   by_cases z : b = T
   . rw [z,eT] at e;cases e;obtain ⟨oT,ts,e',r⟩ := kT;have e2 := lf.keep T oT (fr T _ eT) nTa e';rw [z];exact tbO_ok ⟨oT,ts,e2,r⟩
   . obtain ⟨_,⟨o,ho'⟩,st⟩ := I.hok b _ e;exact ⟨st _ _ p λ o q => lf.keep b o (fr b _ e) nb (kk b o z q),⟨o,lf.keep b o (fr b _ e) nb (kk b o z ho')⟩,st⟩) ⟨_,eaO⟩ (flyO_ok eaO (by simp [hsz]))
 refine ⟨a,_,rfl,I.os,I.bare,un,ok,hE _ ⟨s.heap.objs.size,d,upd_same,Ne.symm naT,by rw [upd_ne naT]; exact upd_same,?_⟩ λ b o nb e => by rw [upd_ne (ne_of_none e fT),upd_ne nb]; exact e⟩
 rcases hd with hd | ⟨dx,e1,e2,e3,e4⟩
 . exact .inl hd
 . exact .inr ⟨dx,e1,by rw [upd_ne (ne_of_none e2 fT),upd_ne e3]; exact e2,e3,ne_of_none e2 fT⟩
def EX (H0 : Hp) (R : Addr -> Hp -> Prop) : XK := λ e _ H' => ∃ a,e = .ref a /\ H0 a = none /\ Same H0 H' /\ R a H'
end
section
variable {M : Model} {E : Value -> Shared -> Prop}
variable {nm q : Str} {N : Addr} {bs bm : List Value} {hdct : Bool} {sn : List Str} {sub : List Value} {ab : Bool} {col : Option Bool} {dd : Option Addr} {k0 k1 k2 k3 k5 : Option Value} {newId : String}
theorem raise_made {x : Sem Value} {Q : Flow -> Shared -> Prop} (hbase : bm.contains (.type "BaseException") = true) (hh : A.handled = none)
 (h : wpAny M A x (λ v s₁ => ∃ a t d,v = .ref a /\ s₁.heap.get? C = some (excClassObj nm q C N bs bm hdct sn sub ab col dd k0 k1 k2 k3 k5 newId) /\ s₁.heap.get? a = some (excObj C t d) /\ E (.ref a) s₁) E s) :
 wpAny M A (raiseStmt env (some x) none) Q E s := by
 have cB : (Value.ref C :: bm).contains (.type "BaseException") = true := by rw [List.contains_cons,hbase,Bool.or_true]
 unfold raiseStmt
 refine wpAny_bind (wpAny_mono h (λ v s₁ h₁ => ?_) λ _ _ y => y)
 obtain ⟨a,t,d,rfl,hC,ha,hE⟩ := h₁
 obtain ⟨hp,g,dr,tk,os⟩ := s₁
 repeat (first | with_reducible refine wpAny_loadPart_at ha ?_ | with_reducible refine wpAny_loadPart_at hC ?_ | (with_reducible refine wpAny_isSubtype_exc hC ?_; rw [cB]) | wp_step)
 exact wpAny_raiseNew_none hh hE
end
section
variable {M : Addr}
def tRaise (C : Addr) (te : TE) (RX : Addr -> List (Str × V) -> Hp -> Prop) : TS := λ _ σ H => te σ H λ v H1 => ∃ a fs,v = .ref a /\ XAt H1 a C fs /\ RX a fs H1
theorem ps_raise {ex : Expr} {te : TE} {pos : Pos} {RX : Addr -> List (Str × V) -> Hp -> Prop} (xc : XC X.K C M) (hc : X.calm = true) (he : PE X ex te)
 (hx : ∀ pins σ H s a fs,Inv X pins σ H s -> XAt H a C fs -> RX a fs H -> X.xe (.ref a) s) : PS X (.Raise (some ex) none pos) (tRaise C te RX) := by
 intro pins s σ H D I h
 obtain ⟨nm,q,N,bs,sn,sub,ab,col,dd,k0,k1,k2,k3,k5,e⟩ := xc.at_
 rw [arm_exec_Raise]
 have key : wpAny (model X.prog X.w) X.A (raiseStmt X.env (some (do let v <- eval ex X.env; standAt pos; pure v)) none) (SP X pins D) X.xe s := by
  refine raise_made (C := C) (nm := nm) (q := q) (N := N) (bs := bs) (bm := .ref M :: vTail) (hdct := true) (sn := sn) (sub := sub) (ab := ab) (col := col) (dd := dd) (k0 := k0) (k1 := k1) (k2 := k2) (k3 := k3) (k5 := k5) (newId := "ValueError.__new__") (by simp [vTail]) (I.ok.hd hc) (wpAny_bind (thn (he pins s σ H _ I h) λ v s1 ⟨x,H1,I1,rx,a,fs,ex,hX,r⟩ => wpAny_bind (wpAny_standAt (wpAny_pure ?_))));subst ex;cases rx;have hE := hx pins σ H1 s1 a fs I1 hX r;obtain ⟨t,hX⟩ := hX
  rcases hX with ⟨h1,_⟩ | ⟨dx,h1,_,_⟩
  . exact ⟨a,t,none,rfl,I1.kIn _ _ e,I1.exc h1,hE⟩
  . exact ⟨a,t,some dx,rfl,I1.kIn _ _ e,I1.exc h1,hE⟩
 first
  | exact wpAny_bind (wpAny_standAt key)
  | (simp only [evalOpt,Option.map]; exact wpAny_bind (wpAny_standAt key))
  | (show wpAny _ _ (do standAt pos; raiseStmt X.env (some (do let v <- eval ex X.env; standAt pos; pure v)) none) _ _ _; exact wpAny_bind (wpAny_standAt key))
end
theorem Fun.okX {x qual : Str} {st : Stmt} {f : Addr} {fd : FuncData} {N ps : List Str} {k : Nat} {sp : Sp} (F : Fun K x qual st f fd) (S : FnScope N ps (defScope st)) (len : ∀ vs H Q E,sp vs H Q E -> vs.length = ps.length)
 (hbody : ∀ (cdv : Value) (A : Around) (outer : List Env) (s : Shared) (H : Hp) (vs : List V) (Q : VK) (E : XK),Room k (A.deeper (envOfC qual (defScope st) s.heap.objs.size f cdv)) -> sp vs H Q E ->
  ∃ t,PSs (cxOf (CXE P w) P w K mg base N qual (defScope st) f cdv A outer s H E) (defBody st) t /\ t { nx := λ _ H' => Q .non H',rt := Q } (start N vs) H) : FnOk P w K mg base (CXE P w) (k + 1) f fd ps sp := by
 obtain ⟨oc,od,kV,doc,pm,an,cdv,ct,osl,rfl,lk,hcd⟩ := F.ex
 exact fn_of lk hcd S len λ A outer s H vs Q E hr hsp => hbody cdv A outer s H vs Q E hr hsp
def RNew (H0 : Hp) (E : XK) (C : Addr) : Addr -> List (Str × V) -> Hp -> Prop := λ a fs H1 => H0 a = none /\ Same H0 H1 /\ ∀ H',Same H0 H' -> FlyAt H' a C fs -> E (.ref a) none H'
theorem raise_new {N : List Str} {qual : Str} {scope : Scope} {f : Addr} {cd : Value} {A : Around} {outer : List Env} {s0 : Shared} {H0 : Hp} {E : XK} {C : Addr} :
 ∀ pins σ H s a fs,Inv (cxOf (CXE P w) P w K mg base N qual scope f cd A outer s0 H0 E) pins σ H s -> XAt H a C fs -> RNew H0 E C a fs H -> (cxOf (CXE P w) P w K mg base N qual scope f cd A outer s0 H0 E).xe (.ref a) s :=
 λ _ _ _ _ a _ I x ⟨na,sm,r⟩ => xe_first I x λ H' fl k => r H' (λ b o q => k b o (ne_of_none q na) (sm b o q)) fl
section
variable {M : Model} {E : Value -> Shared -> Prop} {L : Addr} {oe : Obj} {vs : Array Value}
end
section
variable {fs : List (Str × V)} {A' : Around} {E' : Value -> Shared -> Prop}
abbrev Cx.hand (X : Cx) (a : Addr) (E : Value -> Shared -> Prop) : Cx := { X with A := X.A.mark (some (.ref a)),calm := false,xe := E }
end
section
variable {M : Addr} {RX : Addr -> List (Str × V) -> Hp -> Prop}
end
section
variable {M : Addr}
end
section
variable {E : Value -> Shared -> Prop}
end
open AutoSeq1 (wpAny_loadPart')
section
variable {E : Value -> Shared -> Prop}
end
section
variable {E : Value -> Shared -> Prop}
end
section
variable {Md : Model} {E : Value -> Shared -> Prop} {M : Addr}
variable {nm q nm' q' : Str} {N N' : Addr} {bs bs' sub sub' : List Value} {hdct hdct' : Bool} {sn sn' : List Str} {ab ab' : Bool} {col col' : Option Bool} {dd dd' : Option Addr} {k0 k1 k2 k3 k5 j0 j1 j2 j3 j5 : Option Value} {newId newId' : String}
end
section
variable {M : Addr} {RX : Addr -> List (Str × V) -> Hp -> Prop}
end
abbrev Around.calm (A : Around) : Around := { A with handled := none }
section
variable {k : Nat} {f : Addr} {fd : FuncData} {ps : List Str} {sp : Sp} {x : Str} {p pos : Pos} {e : Expr} {es : List Expr} {t : TA}
end
theorem any_getD : ∀ bs : List Bool,(List.range bs.length).any (λ i => bs.getD i false) = bs.any id
 | [] => rfl
 | b :: bs => by
  rw [List.length_cons,List.range_succ_eq_map,List.any_cons,List.any_cons,List.any_map];have e : ((λ i => (b :: bs).getD i false) ∘ Nat.succ) = λ i => bs.getD i false := by
   funext i
   simp
  rw [e,any_getD bs];rfl
theorem call_anyB (hc : X.calm = true) : CallR X (.builtin "any") (λ xs H Q => ∃ (p : Addr) (bs : List Bool),xs = [.ref p] /\ SqL X.K H p (bs.map V.bl) /\ Q (.bl (bs.any id)) H) := by
 intro pins s σ H xs us Q I r h
 obtain ⟨p,bs,rfl,hq,q⟩ := h
 obtain ⟨u,rfl,ru⟩ := r.one
 cases ru
 obtain ⟨its,rv,pl,hz⟩ := I.list hq
 have hp : p < s.heap.objs.size := by
  obtain ⟨o,ho,_⟩ := pl.isList;exact Heap.lt_size ho
 have hlen : its.toArray.size = bs.length := by rw [List.size_toArray,<- rv.length,List.length_map]
 refine call_any_walk (wpAny_pyIter_list pl.isList ⟨s.heap.objs.size,_,_,its.toArray.size,_,_,λ i => bs.getD i false,rfl,Walks.list (show X.A.in1.handled = none from I.ok.hd hc) _ p (Nat.ne_of_lt hp) its.toArray,⟨⟨_,Heap.get?_push_size _ rfl,rfl,rfl⟩,pl.isList.push _⟩,?_,?_⟩)
 . intro i v s' Q' E' hP hQ';have hv : its[i]? = some v := by simpa using hP
   have hi : i < its.length := (List.getElem?_eq_some_iff.mp hv).1;have hi2 : i < bs.length := by rw [<- hlen]; simpa using hi
   obtain ⟨u,hu,ru⟩ := rv.get (i := i) (x := V.bl bs[i]) (by rw [List.getElem?_map,List.getElem?_eq_getElem hi2]; rfl);rw [hv] at hu;cases hu;have e : v = Value.bool bs[i] := ru;subst e;refine wpAny_truthy_bool ?_;have e2 : bs.getD i false = bs[i] := by rw [List.getD_eq_getElem?_getD,List.getElem?_eq_getElem hi2]; rfl
   have hQ2 : Q' (bs.getD i false) s' := hQ';rw [e2] at hQ2;exact hQ2
 . intro h' tk hk;have I1 : Inv X pins σ H { s with heap := h',toks := tk } := I.kept λ b o e => hk b o (λ z => by
    have z' : b = s.heap.objs.size := by simpa using z
    exact absurd (Heap.lt_size e) (by rw [z']; exact Nat.lt_irrefl _)) (Heap.get?_push_of_some _ e)
   have e : (List.range its.toArray.size).any (λ i => bs.getD i false) = bs.any id := by
    rw [hlen];exact any_getD bs
   exact ⟨.bl (bs.any id),H,I1,by rw [e]; rfl,q⟩
theorem op_eqLE (hu : X.A.units < cLine) : OpR X (compareOp .Eq) (λ x y H Q => ∃ (a b : Addr) (zs : List V),x = .ref a /\ y = .ref b /\ SqL X.K H a zs /\ SqL X.K H b [] /\ Q (.bl zs.isEmpty) H) := by
 intro pins s σ H x y v u Q I rx ry h
 obtain ⟨a,b,zs,rfl,rfl,h1,h2,q⟩ := h
 cases rx
 cases ry
 obtain ⟨its1,rv1,pl1,hz1⟩ := I.list h1
 obtain ⟨its2,rv2,pl2,hz2⟩ := I.list h2
 cases rv2
 cases zs with
 | nil =>
  cases rv1;have rc := SeqAt.RcAt.lists (A := X.A) (s := s) (e := λ _ => true) pl1.isList pl2.isList rfl hu λ j j1 j2 => absurd j1 (by simp);exact rc _ _ _ _ ⟨.bl true,H,I,rfl,q⟩
 | cons z r =>
  cases rv1 with
  | cons h1 h2 =>
   have rc := SeqAt.RcAt.lists_lengths (A := X.A) (s := s) pl1.isList pl2.isList (by simp) hu;exact rc _ _ _ _ ⟨.bl false,H,I,rfl,q⟩
end L2
namespace TX
open PySem PySem.Calls
theorem lk_list_keys : typeLookup (.type "list") "keys" = pure none := by rw [typeLookup_type,builtinLookup_eq_fast]; kernel_rfl
section
variable {prog : Program} {w : World} {A : Around} {E : Value -> Shared -> Prop} {s : Shared} {a : Addr} {its : Array Value} {n : Nat}
theorem keys_none {sl : Array (Option Value)} {Q : Option Value -> Shared -> Prop} (hh : A.handled = none) (hx : s.heap.get? a = some { cls := .type "list",dict := none,data := .seq its n,slots := sl })
 (h : ∀ h' tk,(∀ b o,s.heap.get? b = some o -> h'.get? b = some o) -> Q none { s with heap := h',toks := tk }) : wpAny (model prog w) A (getAttr? (.ref a) "keys") Q E s := by
 obtain ⟨hp1,g1,d1,tk1,os1⟩ := s
 have hT1 : ∀ tk',(⟨hp1,g1,d1,tk',os1⟩ : Shared).TypeIs (.ref a) "list" := λ _ => ⟨_,hx,rfl⟩
 have f1 := sub_AttributeError
 have f3 := F.slot_list_getattribute.lookup
 have f4 := F.slot_list_getattribute.bind (.ref a)
 have f5 := am_list_getattr_none
 have hsz : Str.length "keys" + 100 <= sizeLine := by rw [sizeLine_eq]; decide
 unfold getAttr? getAttrBy? getAttrBy
 repeat any_goals first | assumption | exact hT1 _ | ((with_reducible show wpAny _ _ (call (Value.builtin "list.__getattribute__") _ _) _ _ _); refine call_meets F.slot_list_getattribute (hT1 _) am_entry_list_getattribute (F.args_list_getattribute_2 _ _) (meets_getattribute_miss_list a its n sl "keys" _ lk_list_keys (by decide +kernel) hsz) ⟨hx,hh,λ h' tk' e hx' => ?_⟩) | wp_step
 obtain ⟨t',u',he⟩ := hx'.there
 show wpAny (model prog w) A (getattributeRaised _ _ _ _ _ _ _) _ _ _
 unfold getattributeRaised
 repeat any_goals first | assumption | wp_step
 exact h _ _ hx'.keeps
end
end TX
namespace TX
open PySem PySem.Calls
theorem entry_dloop : entryFor table "dict.update.loop" = some Builtin.«dict.update.loop» := entryFor_of_tree (by kernel_rfl)
theorem plain_dloop : plainId "dict.update.loop" = true := by decide +kernel
section
variable {prog : Program} {w : World} {A : Around} {E : Value -> Shared -> Prop} {K : Type} [DecidableEq K] {knd : KeyKind prog w K}
def PairAt (h : Heap) (T : Addr) (key v : Value) : Prop := ∃ o m,h.get? T = some o /\ o.cls = .type "tuple" /\ o.data = .seq #[key,v] m
theorem pair_items {s : Shared} {T : Addr} {key v : Value} {Q : List Value -> Shared -> Prop} (h : PairAt s.heap T key v) (q : Q [key,v] s) : wpAny (model prog w) A (Builtin.Dict.pairItems (.ref T)) Q E s := by
 obtain ⟨o,m,e,c,d⟩ := h
 have hT : s.TypeIs (.ref T) "tuple" := ⟨o,e,c⟩
 unfold Builtin.Dict.pairItems
 refine wpAny_bind (wpAny_typeOf hT ?_)
 rw [if_pos (by decide)]
 exact wpAny_bind (wpAny_seqItems e d (wpAny_pure q))
theorem loop_dict {R : Result -> Shared -> Prop} {D I l : Addr} {items : Array Value} {more : List (K × Value)} (hh : A.in1.handled = none) (hDI : D ≠ I) (hlI : l ≠ I) (hlD : l ≠ D) (hlen : more.length = items.size) (hz : items.size <= sizeLine) :
 ∀ (k i : Nat) (s : Shared),items.size - i = k -> i <= items.size -> s.heap.IsListIter I l i -> s.heap.IsList l items -> s.heap.DictOf knd D (merged [] (more.take i)) ->
  (∀ (i : Nat) (v : Value),items[i]? = some v -> ∃ (T : Addr) (key : Value) (kv : K × Value),v = .ref T /\ more[i]? = some kv /\ knd.is kv.1 key = true /\ T ≠ D /\ T ≠ I /\ PairAt s.heap T key kv.2) ->
  (∀ h' tk,h'.DictOf knd D (merged [] more) -> (∀ b o,b ≠ D -> b ≠ I -> s.heap.get? b = some o -> h'.get? b = some o) -> R (.ok (.ret .none)) { s with heap := h',toks := tk }) ->
  codeAny (model prog w) A (.builtin "dict.update.loop" ⟨[.ref D,.ref I,rawInt i,.none],[]⟩) R s := by
 intro k
 have W := Walks.list (prog := prog) (w := w) (A := A.in1) hh I l hlI items
 induction k with
 | zero =>
  intro i s hk hi hit hl hd hp hR;obtain rfl : i = items.size := by omega
  refine codeAny_builtin entry_dloop (by
   rw [PySem.Around.under_plainId plain_dloop _];refine (show wpAny _ A.in1 (pyNext (.ref I) >>= _) _ _ s from wpAny_bind (W.done s _ _ ⟨hit,hl⟩ λ h' tk hm => ?_));refine wpAny_bind (show wpAny _ A.in1 (pure ()) _ _ _ from wpAny_pure ?_);refine wpAny_pure (hR h' tk ?_ λ b o n1 n2 e => hm b o (by simp [n2]) e);rw [<- hlen,List.take_length] at hd;exact hd.at λ o e => hm D o (by simp [hDI]) e)
 | succ k ih =>
  intro i s hk hi hit hl hd hp hR;have hlt : i < items.size := by omega
  refine codeAny_builtin entry_dloop (by
   rw [PySem.Around.under_plainId plain_dloop _];refine (show wpAny _ A.in1 (pyNext (.ref I) >>= _) _ _ s from wpAny_bind (W.item i s _ _ hlt ⟨hit,hl⟩ λ v h' tk hv st hm => ?_));obtain ⟨T,key,kv,rfl,hkv,hkey,nD,nI,o,m,e,c,d⟩ := hp i v hv;have eT := hm T o (by simp [nI]) e;have hd1 : h'.DictOf knd D (merged [] (more.take i)) := hd.at λ o e => hm D o (by simp [hDI]) e;have hq : PairAt h' T key kv.2 := ⟨o,m,eT,c,d⟩;have hlm : (merged [] (more.take i)).length <= sizeLine := by
    have q := merged_length_le [] (more.take i);rw [List.length_take] at q;have q0 : ([] : List (K × Value)).length = 0 := rfl;omega
   refine wpAny_bind (wpAny_holding (wpAny_bind (wpAny_tryCatch (pair_items hq ?_))));refine wpAny_holding (wpAny_dictSet_pairs hkey hd1 (λ h2 hd2 sb => ?_) hlm);rw [<- merged_take_succ [] more i kv hkv] at hd2;have e2 : ∀ b ob,b ≠ D -> h'.get? b = some ob -> h2.get? b = some ob := λ b ob n e => (sb.2 b n).trans e;have ni : ((i : Int) + 1) = ((i + 1 : Nat) : Int) := by omega
   refine wpAny_pure ⟨plainId_quiet plain_dloop _,?_⟩;rw [ni];refine ih (i + 1) _ (by omega) hlt ?_ ?_ hd2 (λ j v hj => ?_) λ h3 tk3 hd3 kp => ?_
   . exact st.1.at λ ob q => e2 I ob (Ne.symm hDI) q
   . exact st.2.at λ ob q => e2 l ob hlD q
   . obtain ⟨T2,key2,kv2,r1,r2,r3,r4,r5,o2,m2,g1,g2,g3⟩ := hp j v hj;exact ⟨T2,key2,kv2,r1,r2,r3,r4,r5,o2,m2,e2 T2 _ r4 (hm T2 _ (by simp [r5]) g1),g2,g3⟩
   . exact hR h3 tk3 hd3 λ b ob n1 n2 q => kp b ob n1 n2 (e2 b _ n1 (hm b _ (by simp [n2]) q)))
end
end TX
namespace TX
open PySem PySem.Calls
section
variable {prog : Program} {w : World} {A : Around} {E : Value -> Shared -> Prop} {s : Shared} {K : Type} [DecidableEq K] {knd : KeyKind prog w K}
theorem call_dict_list {l : Addr} {items : Array Value} {nl : Nat} {sl : Array (Option Value)} {more : List (K × Value)} {Q : Value -> Shared -> Prop} (hh : A.handled = none)
 (hx : s.heap.get? l = some { cls := .type "list",dict := none,data := .seq items nl,slots := sl }) (hlen : more.length = items.size) (hz : items.size <= sizeLine)
 (hp : ∀ (i : Nat) (v : Value),items[i]? = some v -> ∃ (T : Addr) (key : Value) (kv : K × Value),v = .ref T /\ more[i]? = some kv /\ knd.is kv.1 key = true /\ PairAt s.heap T key kv.2)
 (h : ∀ h' tk,h'.DictOf knd s.heap.objs.size (merged [] more) -> (∀ b o,s.heap.get? b = some o -> h'.get? b = some o) -> Q (.ref s.heap.objs.size) { s with heap := h',toks := tk }) :
 wpAny (model prog w) A (call (.type "dict") [.ref l]) Q E s := by
 refine callType_codes (Q₁ := λ obj s₁ => obj = .ref s.heap.objs.size /\ s₁ = { s with heap := s.heap.push { cls := .type "dict",data := .dict #[] } }) F.kt_called_dict (F.kt_typeCall_dict_1 _) F.entry_dict_init (kt_code_dict_new _ ⟨rfl,rfl⟩) ?_
 rintro obj s₁ ⟨rfl,rfl⟩
 have hnew : (s.heap.push { cls := .type "dict",data := .dict #[] }).DictOf knd s.heap.objs.size [] := Heap.DictOf.new s.heap
 have hx1 : (s.heap.push { cls := .type "dict",data := .dict #[] }).get? l = some { cls := .type "list",dict := none,data := .seq items nl,slots := sl } := Heap.get?_push_of_some _ hx
 have hlt : l < s.heap.objs.size := Heap.lt_size hx
 have up1 : ∀ b o,s.heap.get? b = some o -> (s.heap.push { cls := .type "dict",data := .dict #[] }).get? b = some o := λ b o e => Heap.get?_push_of_some _ e
 have hsz : (s.heap.push { cls := .type "dict",data := .dict #[] }).objs.size = s.heap.objs.size + 1 := Heap.size_push ..
 generalize s.heap.push { cls := .type "dict",data := .dict #[] } = h1 at hnew hx1 up1 hsz ⊢
 refine ⟨hnew.typeIs,F.args_dict_init_2 _ _,?_⟩
 unfold Builtin.«dict.__init__»
 refine wpAny_bind ?_
 unfold Builtin.Dict.selfAndRest
 refine wpAny_bind (wpAny_notOrdered_dict hnew.typeIs ?_)
 refine (show wpAny _ _ (pure (s.heap.objs.size,[Value.ref l])) _ _ _ from wpAny_pure ?_)
 show wpAny _ _ (Builtin.Dict.updateFrom "dict.__init__" s.heap.objs.size (.ref l) [] .none) _ _ _
 unfold Builtin.Dict.updateFrom
 refine wpAny_bind (wpAny_typeOf (T := "list") ⟨_,hx1,rfl⟩ ?_)
 rw [if_pos (by decide)]
 refine wpAny_bind (keys_none (by simpa using hh) hx1 λ h2 tk2 k2 => ?_)
 rw [if_pos (show (Option.isNone (none : Option Value)) = true from rfl)]
 have hx2 := k2 _ _ hx1
 have hd2 : h2.DictOf knd s.heap.objs.size [] := hnew.at λ o e => k2 _ _ e
 have hD2 : s.heap.objs.size < h2.objs.size := by
  obtain ⟨o,_,_,e,_⟩ := hd2;exact Heap.lt_size e
 have hl2 : l < h2.objs.size := Heap.lt_size hx2
 refine wpAny_bind (wpAny_rule (wpAny_bind (wpAny_pyIter_list ⟨_,hx2,rfl,nl,rfl⟩ ?_)))
 have up : ∀ b o,h2.get? b = some o -> (h2.push { cls := .type "list_iterator",data := .fields #[.ref l,.int 0 0] }).get? b = some o := λ b o e => Heap.get?_push_of_some _ e
 refine wpAny_pure ⟨plainId_quiet plain_dloop _,?_⟩
 refine loop_dict (knd := knd) (more := more) (D := s.heap.objs.size) (I := h2.objs.size) (l := l) (items := items) (by simpa using hh) (Nat.ne_of_lt hD2) (Nat.ne_of_lt hl2) (Nat.ne_of_lt hlt) hlen hz items.size 0 _ rfl (Nat.zero_le _) ⟨_,Heap.get?_push_size _ rfl,rfl,rfl⟩ ⟨_,up _ _ hx2,rfl,nl,rfl⟩ (hd2.at λ o e => up _ _ e) (λ i v e => ?_) λ h' tk hd' kp => ⟨rfl,h h' tk hd' λ b o e => ?_⟩
 . obtain ⟨T,key,kv,r1,r2,r3,o,m,g1,g2,g3⟩ := hp i v e;have hTlt : T < s.heap.objs.size := Heap.lt_size g1;exact ⟨T,key,kv,r1,r2,r3,Nat.ne_of_lt hTlt,Nat.ne_of_lt (Nat.lt_trans hTlt hD2),o,m,up _ _ (k2 _ _ (up1 _ _ g1)),g2,g3⟩
 . have hb : b < s.heap.objs.size := Heap.lt_size e;exact kp b o (Nat.ne_of_lt hb) (Nat.ne_of_lt (Nat.lt_trans hb hD2)) (up _ _ (k2 _ _ (up1 _ _ e)))
end
end TX
namespace TX
open PySem PySem.Calls
section
variable {prog : Program} {w : World} {A : Around} {E : Value -> Shared -> Prop} {s : Shared}
end
end TX
namespace L2
open PySem PySem.Spec PyProof.Rows
variable {X : Cx}
def PairsAt (H : Hp) : List Addr -> List (Str × V) -> Prop := Paired λ t p => H t = some (.tup [.str p.1,p.2])
def keyed (kvs : List (Str × V)) : List (Key × V) := kvs.map λ p => (.inr p.1,p.2)
theorem vals_ref_at : ∀ {ts : List Addr} {us : List Value},Vals (ts.map V.ref) us -> us = ts.map Value.ref
 | [],_,.nil => rfl
 | t :: r,_,.cons e q => by
  have e' : _ = Value.ref t := e;rw [List.map_cons,<- vals_ref_at q,e']
theorem pairs_more {P : Program} {w : World} {H : Hp} {h : Heap} (ok : HOk P w H h) {ts : List Addr} {kvs : List (Str × V)} (hp : PairsAt H ts kvs) : ∃ more : List (Key × Value),KV (keyed kvs) more /\ more.map (·.1) = kvs.map (λ p => Sum.inr p.1) /\
 ∀ (i : Nat) (t : Addr),ts[i]? = some t -> ∃ (key : Value) (kv : Key × Value),more[i]? = some kv /\ (mixKind P w).is kv.1 key = true /\ TX.PairAt h t key kv.2 := by
 induction hp with
 | nil => exact ⟨[],.nil,rfl,λ i t e => nomatch e⟩
 | cons e r ih =>
  obtain ⟨more,h1,h2,h3⟩ := ih;obtain ⟨_,its,rv,o,e1,e2,m,e3⟩ := ok _ _ e;obtain ⟨u1,u2,rfl,r1,r2⟩ := rv.two;refine ⟨(.inr _,u2) :: more,.cons ⟨rfl,r2⟩ h1,by rw [List.map_cons,h2]; rfl,λ i t' hi => ?_⟩;cases i with
  | zero =>
   cases hi;exact ⟨u1,_,rfl,kV_is (k := .inr _) r1,o,m,e1,e2,e3⟩
  | succ i => exact h3 i t' hi
def rDictL : List V -> Hp -> VK -> Prop := λ xs H Q => ∃ (L : Addr) (ts : List Addr) (kvs : List (Str × V)),xs = [.ref L] /\ H L = some (.lst (ts.map V.ref)) /\ PairsAt H ts kvs /\ (kvs.map (·.1)).Nodup /\ ∀ D,H D = none -> Q (.ref D) (upd H D (.dK (keyed kvs)))
theorem call_dictL (hc : X.calm = true) : CallR X (.type "dict") rDictL := by
 intro pins s σ H xs us Q I r h
 obtain ⟨L,ts,kvs,rfl,hL,hP,hn,q⟩ := h
 obtain ⟨u,rfl,rx⟩ := vals1 r
 cases rx
 obtain ⟨hz,its,n,rv,e⟩ := I.hok _ _ hL
 have ei := vals_ref_at rv
 subst ei
 obtain ⟨more,h1,h2,h3⟩ := pairs_more I.hok hP
 have hlen : ts.length = kvs.length := Paired.length hP
 have hml : more.length = kvs.length := by
  have := congrArg List.length h2;rw [List.length_map,List.length_map] at this;exact this
 rw [List.length_map] at hz
 refine TX.call_dict_list (knd := mixKind X.prog X.w) (more := more) (I.ok.hd hc) e (by simp [hml,hlen]) (by simpa using hz) (λ i v hv => ?_) λ h' tk hd kp => ?_
 . have hv' : (ts.map Value.ref)[i]? = some v := by simpa using hv
   rw [List.getElem?_map] at hv';obtain ⟨t,ht,rfl⟩ := Option.map_eq_some_iff.mp hv';obtain ⟨key,kv,g1,g2,g3⟩ := h3 i t ht;exact ⟨t,key,kv,rfl,g1,g2,g3⟩
 . have hnd : (more.map (·.1)).Nodup := by
    rw [h2,show (kvs.map λ p => (Sum.inr p.1 : Key)) = (kvs.map (·.1)).map Sum.inr by rw [List.map_map]; rfl];exact List.Pairwise.map _ (λ a b hab e => hab (Sum.inr.inj e)) hn
   rw [merged_nil_of_nodup more hnd] at hd;have hkl : (keyed kvs).length <= sizeLine := by
    show (kvs.map _).length <= sizeLine
    rw [List.length_map];omega
   have hb : (s.heap.objs.size == sysModules) = false := beq_eq_false_iff_ne.mpr (Ne.symm (Nat.ne_of_lt I.big));exact ⟨.ref s.heap.objs.size,_,I.laid (a := s.heap.objs.size) (o := .dK (keyed kvs)) (t' := tk) kp (Nat.le_refl _) (dk_new hkl hb h1 hd),rfl,q _ (I.hok.fresh (Nat.le_refl _))⟩
end L2
namespace L2
open PySem PyProof.Rows
section
variable {X : Cx}
end
end L2
namespace L2
open PySem PySem.Spec PyProof.Rows
variable {X : Cx} {P : Program} {w : World} {A : Around} {E : Value -> Shared -> Prop} {s : Shared}
def sameS (z : Str) : Value -> Bool
 | .str a _ => a == z
 | _ => false
theorem items_str {zs : List Str} {its : List Value} (r : Vals (zs.map V.str) its) {j : Nat} {u : Value} (h : its[j]? = some u) : ∃ a t,zs[j]? = some a /\ u = .str a t := by
 have hj : j < zs.length := by
  have := (List.getElem?_eq_some_iff.mp h).1;have e := r.length;rw [List.length_map] at e;omega
 obtain ⟨u',h',ru⟩ := r.get (i := j) (x := .str zs[j]) (by rw [List.getElem?_map,List.getElem?_eq_getElem hj]; rfl)
 rw [h] at h'
 obtain ⟨t,rfl⟩ := ru
 exact ⟨zs[j],t,List.getElem?_eq_getElem hj,Option.some.inj h'⟩
theorem gives_str {zs : List Str} {its : List Value} {z : Str} {t : Tok} (r : Vals (zs.map V.str) its) : ∀ y ∈ its.toArray,MeetsSeq.EqGives y (.str z t) (sameS z y) := λ y hy => by
 obtain ⟨j,hj⟩ := List.getElem?_of_mem (show y ∈ its by simpa using hy)
 obtain ⟨a,t',_,rfl⟩ := items_str r hj
 exact λ prog w A E s Q h => SeqAt.EqAt.str_str a t' z t prog w E Q h
theorem first_is {zs : List Str} {its : List Value} {z : Str} (r : Vals (zs.map V.str) its) (hz : z ∈ zs) : ∃ hj : zs.idxOf z < its.toArray.size,sameS z its.toArray[zs.idxOf z] = true /\ ∀ (m : Nat) (hm : m < its.toArray.size),m < zs.idxOf z -> sameS z its.toArray[m] = false := by
 have hj : zs.idxOf z < zs.length := List.idxOf_lt_length_of_mem hz
 have e := r.length
 rw [List.length_map] at e
 refine ⟨by rw [List.size_toArray]; omega,?_,λ m hm hl => ?_⟩
 . obtain ⟨a,t,h1,h2⟩ := items_str r (List.getElem?_eq_getElem (by omega : zs.idxOf z < its.length));show sameS z its[zs.idxOf z] = true;rw [h2];rw [List.getElem?_eq_getElem hj] at h1;have : a = z := by rw [<- Option.some.inj h1]; exact List.getElem_idxOf hj
   subst this;exact beq_self_eq_true a
 . rw [List.size_toArray] at hm;obtain ⟨a,t,h1,h2⟩ := items_str r (List.getElem?_eq_getElem hm);show sameS z its[m] = false;rw [h2];obtain ⟨hm',h1⟩ := List.getElem?_eq_some_iff.mp h1;show (a == z) = false;rw [beq_eq_false_iff_ne];rintro rfl;have hc := List.not_of_lt_findIdx hl;rw [h1,beq_self_eq_true] at hc;cases hc
def rIdxS : V -> List V -> Hp -> VK -> Prop := λ x vs H Q => ∃ (l : Addr) (z : Str) (zs : List Str),x = .ref l /\ vs = [.str z] /\ H l = some (.lst (zs.map V.str)) /\ z ∈ zs /\ zs.length <= 1000 /\ Q (.int (zs.idxOf z : Nat)) H
theorem mt_indexS : MtM X "list.index" rIdxS := by
 intro pins s σ H x vs v us Q I rx rv h
 obtain ⟨l,z,zs,rfl,rfl,hH,hz,h1000,q⟩ := h
 cases rx
 obtain ⟨u,rfl,ru⟩ := rv.one
 obtain ⟨t,rfl⟩ := ru
 obtain ⟨sz,its,n,r,hl,e⟩ := I.lstM hH
 obtain ⟨hj,h1,h2⟩ := first_is r hz
 have hj' : zs.idxOf z < zs.length := List.idxOf_lt_length_of_mem hz
 refine call_meets F.slot_list_index ⟨_,e,rfl⟩ F.entry_list_index (F.args_list_index_2 _ _)
  (MeetsSeq.list_index l its.toArray n (.str z t) (sameS z) (gives_str r) _ hj (by omega) h1 h2) ⟨e,?_⟩
 exact ⟨.int _,H,I.tok _,⟨_,rfl⟩,q⟩
section
variable {tg : Expr}
def rMaxL (K : W.Frag) : List V -> Hp -> VK -> Prop := λ xs H Q => ∃ (p : Addr) (ns : List Int),xs = [.ref p] /\ SqL K H p (ns.map V.int) /\ ns ≠ [] /\ ∀ m,m ∈ ns -> (∀ n ∈ ns,n <= m) -> Q (.int m) H
theorem call_maxL (hc : X.calm = true) : CallR X (.builtin "max") (rMaxL X.K) := by
 intro pins s σ H xs us Q I r h
 obtain ⟨p,ns,rfl,hq,hne,q⟩ := h
 obtain ⟨u,rfl,rx⟩ := vals1 r
 cases rx
 obtain ⟨its,r',pl,hz⟩ := I.list hq
 have hi : IntsAre its ns := intsAre_of r'
 obtain ⟨zs,e⟩ := hi.allInts.items
 have e2 : ns = zs.toList.map (·.1) := by rw [<- hi.numsOf,<- nums_intItems,<- e]
 have e3 : ns.length = zs.size := by rw [e2,List.length_map,Array.length_toList]
 have e4 : 0 < ns.length := List.length_pos_iff.mpr hne
 have hl := pl.isList
 rw [e] at hl
 refine max_intList (I.ok.hd hc) hl (by omega) λ v h' tk hv hk => ?_
 obtain ⟨t,rfl⟩ := intItems_at hv
 obtain ⟨_,b2⟩ := argBest_gt (numAt zs) (zs.size - 1)
 refine ⟨.int _,H,I.kept hk,⟨t,rfl⟩,q _ ?_ λ a ha => ?_⟩
 . rw [e2,numAt_eq]; exact getD_mem (by rw [<- e2]; omega)
 . rw [e2] at ha; obtain ⟨j,hj,rfl⟩ := mem_getD ha; rw [<- e2] at hj;rw [<- numAt_eq]; exact b2 j (by omega)
def rUpdD : V -> List V -> Hp -> VK -> Prop := λ x vs H Q => ∃ (d e : Addr) (kvs more : List (Key × V)),x = .ref d /\ vs = [.ref e] /\ H d = some (.dK kvs) /\ H e = some (.dK more) /\ d ≠ e /\ kvs.length + more.length <= sizeLine /\ Q .non (upd H d (.dK (mergeK kvs more)))
theorem mt_updateD : MtR X "dict.update" rUpdD := by
 intro pins s σ H x vs v us Q I rx rv h
 obtain ⟨d,e,kvs,more,rfl,rfl,hd,he,hne,hsz,q⟩ := h
 cases rx
 obtain ⟨u,rfl,ru⟩ := vals1 rv
 cases ru
 obtain ⟨z1,y1,vs1,r1,d1⟩ := dk_of I.hok hd
 obtain ⟨z2,y2,vs2,r2,d2⟩ := dk_of I.hok he
 have l1 := r1.length
 have l2 := r2.length
 refine call_meetsIn PySem.F.slot_dict_update d1.typeIs PySem.F.entry_dict_update (PySem.F.args_dict_update_2 _ _) (meets_dict_update _ d e hne y2) ⟨vs1,vs2,d1,d2,by omega,λ h' a1 a2 a3 => ?_⟩
 have hl := length_mergeK more kvs
 obtain ⟨o',ho',_⟩ := Heap.dictOf_iff.mp a1
 exact ⟨.non,_,d_write (t' := s.toks) I (by rw [hd]; trivial) a3 ⟨o',ho'⟩ (dk_new (by omega) y1 (KV.merge r2 r1) a1),rfl,q⟩
end
theorem kV_rel {k : Key} {u : Value} (h : keyIs k u = true) : RelV (kV k) u := by
 rcases keyIs_shape h with ⟨i,t,rfl,rfl⟩ | ⟨x,t,rfl,rfl⟩
 . exact ⟨t,rfl⟩
 . exact ⟨t,rfl⟩
def Itd (a : Addr) (o : Obj) (kvs : List (Key × V)) : It :=
 ⟨λ i H => H a = some (.frz o (.dK kvs)) /\ i < kvs.length,λ i H x H' => H' = H /\ ∃ kv,kvs[i]? = some kv /\ x = kV kv.1,λ i H => H a = some (.frz o (.dK kvs)) /\ kvs.length <= i⟩
theorem turn_dict {P : Program} {w : World} {K : W.Frag} {tg : Expr} (a it : Addr) (o : Obj) (kvs : List (Key × V)) (vs : List (Key × Value)) (ep : Nat) (rel : KV kvs vs) (hD : ∀ h : Heap,h.get? a = some o -> h.DictAt (mixKind P w) a vs ep) :
 Turn P w K tg (Itd a o kvs) [it] it (λ i h => h.IsKeyIter it a i vs.length ep) where
 mem := List.mem_singleton.mpr rfl
 obj := λ i h st b hb => by
  cases List.mem_singleton.mp hb; obtain ⟨o,e,c,d⟩ := st;exact ⟨o,e,λ v z => by rw [d] at z; cases z⟩
 keep := λ i h h' st k => st.at λ o e => k it (List.mem_singleton.mpr rfl) o e
 item := by
  intro X hP hw hK hc i pins s σ H E I hf st ⟨hH,hi⟩;subst hP hw hK;obtain ⟨f0,f1,f2,f3,f4,f5⟩ := hf it (List.mem_singleton.mpr rfl);obtain ⟨e,_⟩ := I.hok a _ hH;have hl := rel.length;obtain ⟨kv,hk⟩ : ∃ kv,kvs[i]? = some kv := ⟨_,List.getElem?_eq_getElem hi⟩;obtain ⟨pv,hv⟩ : ∃ pv,vs[i]? = some pv := ⟨_,List.getElem?_eq_getElem (by omega)⟩;have ek : kv.1 = pv.1 := by
   have q : (kvs.map (·.1))[i]? = (vs.map (·.1))[i]? := by rw [rel.keys]
   rw [List.getElem?_map,List.getElem?_map,hv,hk] at q;exact Option.some.inj q
  refine wpAny_pyNext_dict_item st (hD s.heap e) hv λ key h' hkey st' sb => ?_;have I1 : Inv X pins σ H { s with heap := h' } := I.turned (t' := s.toks) (λ b ob hb e => (sb.2 b hb).trans e) f0 f1 f3 f4 f5;obtain ⟨o1,e1,c1,d1⟩ := id st';have hkey : keyIs kv.1 key = true := by rw [ek]; exact hkey
  exact ⟨key,rfl,go_of (s := { s with heap := h' }) e1 c1 d1 (by decide) ⟨kV kv.1,H,I1,kV_rel hkey,⟨rfl,_,hk,rfl⟩,st',λ b hb => (hf b hb).1⟩⟩
 done := by
  intro X hP hw hK hc i pins s σ H E I hf st ⟨hH,hi⟩;subst hP hw hK;obtain ⟨f0,f1,f2,f3,f4,f5⟩ := hf it (List.mem_singleton.mpr rfl);obtain ⟨e,_⟩ := I.hok a _ hH;have hl := rel.length;exact wpAny_pyNext_dict_end (I.ok.hd hc) st (hD s.heap e) (List.getElem?_eq_none (by omega)) λ h' eb => ⟨rfl,I.turned (t' := s.toks) (λ b ob hb e => eb b ob hb e) f0 f1 f3 f4 f5⟩
 self := λ _ _ _ _ _ st h => wpAny_pyIter_keyiter st h
section
variable {tg : Expr}
def iDict (td : TE) : TI := λ σ H R => td σ H λ x H1 => ∃ a kvs,x = .ref a /\ H1 a = some (.dK kvs) /\ ∀ o,R (Itd a o kvs) (upd H1 a (.frz o (.dK kvs)))
theorem pi_dict {l : Expr} {tl : TE} (hl : PE X l tl) : PI X tg l (iDict tl) := by
 intro pins s σ H R I h
 refine thn (hl pins s σ H _ I h) λ v s1 ⟨x,H1,I1,r1,q1⟩ => ?_
 obtain ⟨a,kvs,rfl,hq,q⟩ := q1
 cases r1
 obtain ⟨z,hs,vs,rel,dd⟩ := dk_of I1.hok hq
 obtain ⟨o,es,ep,ho,hr⟩ := id dd
 have hD : ∀ h : Heap,h.get? a = some o -> h.DictAt (mixKind X.prog X.w) a vs ep := λ h e => ⟨o,es,e,hr⟩
 have I2 : Inv X pins σ (upd H1 a (.frz o (.dK kvs))) { s1 with heap := s1.heap,toks := s1.toks } := I1.write (x := a) (e := a) (by rw [hq]; trivial) (.inl rfl) (λ _ _ _ z => z) ⟨o,ho⟩ (show ObjOk X.prog X.w _ s1.heap a (.frz o (.dK kvs)) from ⟨ho,z,hs,vs,rel,dd⟩)
 refine wpAny_pyIter_dict hs (hD _ ho) ?_
 refine ⟨s1.heap.objs.size,[s1.heap.objs.size],_,_,_,rfl,I2.kept (t' := s1.toks) λ b o e => Heap.get?_push_of_some _ e,turn_dict a _ o kvs vs ep rel hD,⟨_,Heap.get?_push_size _ rfl,rfl,rfl⟩,λ b hb => ?_,q o⟩
 cases List.mem_singleton.mp hb
 exact I2.fpOk (Nat.le_refl _) (I2.hok.fresh (Nat.le_refl _))
end
theorem CompScope.relab {own fr : List Str} {scope outer : Scope} {env : Env} (S : CompScope own fr scope outer) : CompScope own fr scope (relabel outer env) := by
 refine ⟨S.kind,S.nocell,S.names,S.nd,λ y hy hf => ?_,S.frs,S.owns⟩
 have q := relabel_look (env := env) outer.names y.1
 rcases S.outs y hy hf with e | e
 . rw [e] at q; exact .inl q
 . rw [e] at q
   by_cases hc : (NameKind.free == NameKind.free && env.scope.kind == .function && env.kindOf y.1 == some .cell) = true
   . refine .inl (q.trans ?_); simp only [Option.map_some]; rw [if_pos hc]
   . refine .inr (q.trans ?_); simp only [Option.map_some]; rw [if_neg hc]
theorem pe_disp1 {X : Cx} {k v : Expr} {tk tv : TE} {pos : Pos} (hk : PE X k tk) (hv : PE X v tv) : PE X (.Dict [some k] [v] pos) (tDisp [(tk,tv)]) := pe_disp (pps_cons hk hv pps_nil) rfl rfl (λ z => nomatch z) (by show (1 : Nat) <= 15; decide)
def Rise (xs : Array Nat) : Prop := ∀ i j : Nat,i < j -> j < xs.size -> xs.getD i 0 < xs.getD j 0
theorem below_go {xs : Array Nat} {j c : Nat} (h1 : ∀ k : Nat,k < c -> xs.getD k j < j) (h2 : ∀ k : Nat,c <= k -> k < xs.size -> ¬ xs.getD k j < j) :
 ∀ (fuel lo hi : Nat),lo <= c -> c <= hi -> hi <= xs.size -> hi - lo <= fuel -> SetTable.below.go xs j fuel lo hi = c
 | 0,lo,hi,a,b,_,d => by
  show lo = c
  omega
 | fuel + 1,lo,hi,a,b,e,d => by
  unfold SetTable.below.go
  by_cases hl : lo < hi
  . rw [if_pos hl];dsimp only
    by_cases hm : xs.getD ((lo + hi) / 2) j < j
    . rw [if_pos hm];have hc : (lo + hi) / 2 < c := Nat.lt_of_not_le λ z => h2 _ z (by omega) hm;exact below_go h1 h2 fuel _ hi (by omega) b e (by omega)
    . rw [if_neg hm];have hc : c <= (lo + hi) / 2 := Nat.le_of_not_lt λ z => hm (h1 _ z);exact below_go h1 h2 fuel lo _ a hc (by omega) (by omega)
  . rw [if_neg hl];omega
theorem below_at {xs : Array Nat} {j c : Nat} (hc : c <= xs.size) (h1 : ∀ k : Nat,k < c -> xs.getD k 0 < j) (h2 : ∀ k : Nat,c <= k -> k < xs.size -> j <= xs.getD k 0) : SetTable.below xs j = c := by
 unfold SetTable.below
 refine below_go (λ k hk => ?_) (λ k hk hs => ?_) _ 0 _ (Nat.zero_le _) hc (Nat.le_refl _) (by omega)
 . have q := h1 k hk;rw [Array.getD_eq_getD_getElem?,Array.getElem?_eq_getElem (by omega : k < xs.size)] at q ⊢;exact q
 . have q := h2 k hk hs;rw [Array.getD_eq_getD_getElem?,Array.getElem?_eq_getElem hs] at q ⊢;exact Nat.not_lt.mpr q
theorem Rise.first {xs : Array Nat} (h : Rise xs) : SetTable.below xs 0 = 0 := below_at (Nat.zero_le _) (λ _ z => absurd z (Nat.not_lt_zero _)) λ _ _ _ => Nat.zero_le _
theorem Rise.next {xs : Array Nat} (h : Rise xs) {i : Nat} (hi : i < xs.size) : SetTable.below xs (xs.getD i 0 + 1) = i + 1 := by
 refine below_at hi (λ k hk => ?_) (λ k hk hs => h i k hk hs)
 rcases Nat.lt_or_ge k i with z | z
 . exact Nat.lt_succ_of_lt (h k i z hi)
 . have : k = i := by omega
   rw [this]; exact Nat.lt_succ_self _
theorem Rise.place {xs : Array Nat} (h : Rise xs) (j : Nat) : ∃ c,c <= xs.size /\ (∀ k : Nat,k < c -> xs.getD k 0 < j) /\ (∀ k : Nat,c <= k -> k < xs.size -> j <= xs.getD k 0) /\ SetTable.below xs j = c := by
 have key : ∀ n : Nat,n <= xs.size -> ∃ c,c <= n /\ (∀ k : Nat,k < c -> xs.getD k 0 < j) /\ ∀ k : Nat,c <= k -> k < n -> j <= xs.getD k 0 := by
  intro n
  induction n with
  | zero => exact λ _ => ⟨0,Nat.le_refl _,λ _ z => absurd z (Nat.not_lt_zero _),λ _ _ z => absurd z (Nat.not_lt_zero _)⟩
  | succ n ih =>
   intro hn;obtain ⟨c,a,b,d⟩ := ih (by omega)
   by_cases hc : xs.getD n 0 < j
   . refine ⟨n + 1,Nat.le_refl _,λ k hk => ?_,λ k a b => by omega⟩
     rcases Nat.lt_or_ge k n with z | z
     . exact Nat.lt_trans (h k n z (by omega)) hc
     . have : k = n := by omega
       rw [this]; exact hc
   . refine ⟨c,by omega,b,λ k hk hk2 => ?_⟩
     rcases Nat.lt_or_ge k n with z | z
     . exact d k hk z
     . have : k = n := by omega
       rw [this]; exact Nat.le_of_not_lt hc
 obtain ⟨c,a,b,d⟩ := key xs.size (Nat.le_refl _)
 exact ⟨c,a,b,d,below_at a b d⟩
theorem getD_lt {xs : Array Nat} {i : Nat} (h : i < xs.size) : xs[i]? = some (xs.getD i 0) := by
 rw [Array.getD_eq_getD_getElem?,Array.getElem?_eq_getElem h]; rfl
theorem rise_range (n : Nat) : Rise (Array.range n) := λ i j h hj => by
 rw [Array.size_range] at hj
 rw [Array.getD_eq_getD_getElem?,Array.getD_eq_getD_getElem?,Array.getElem?_eq_getElem (by rw [Array.size_range]; omega),Array.getElem?_eq_getElem (by rw [Array.size_range]; omega)]
 simpa using h
theorem rise_list {l : List Nat} (h : l.Pairwise (· < ·)) : Rise l.toArray := λ i j hij hj => by
 rw [List.size_toArray] at hj
 rw [Array.getD_eq_getD_getElem?,Array.getD_eq_getD_getElem?,List.getElem?_toArray,List.getElem?_toArray,List.getElem?_eq_getElem (by omega : i < l.length),List.getElem?_eq_getElem hj]
 exact List.pairwise_iff_getElem.mp h i j (by omega) hj hij
theorem put_get {xs : Array Nat} {c j : Nat} (hc : c <= xs.size) (i : Nat) : (SetTable.insertAt xs c j).getD i 0 = if i < c then xs.getD i 0 else if i = c then j else xs.getD (i - 1) 0 := by
 unfold SetTable.insertAt
 have hy : (xs.extract 0 c).size = c := by rw [Array.size_extract,Nat.min_eq_left hc,Nat.sub_zero]
 have hz : ((xs.extract 0 c).push j).size = c + 1 := by rw [Array.size_push,hy]
 rw [Array.getD_eq_getD_getElem?]
 by_cases h1 : i < c
 . have h5 := Nat.lt_of_lt_of_le h1 hc;rw [if_pos h1,Array.getElem?_append_left (by rw [hz]; exact Nat.lt_succ_of_lt h1),Array.getElem?_push_lt (by rw [hy]; exact h1),Array.getElem_extract,Array.getD_eq_getD_getElem?,Array.getElem?_eq_getElem h5];simp only [Nat.zero_add]
 . rw [if_neg h1]
   by_cases h2 : i = c
   . subst h2;rw [if_pos rfl,Array.getElem?_append_left (by rw [hz]; exact Nat.lt_succ_self _)];have q := Array.getElem?_push_size (xs := xs.extract 0 i) (x := j);rw [hy] at q;rw [q]; rfl
   . have h6 : c + 1 <= i := Nat.lt_of_le_of_ne (Nat.not_lt.mp h1) (Ne.symm h2);obtain ⟨d,rfl⟩ := Nat.exists_eq_add_of_le h6;have e : c + d = c + 1 + d - 1 := by rw [Nat.add_right_comm]; rfl
     rw [if_neg h2,Array.getElem?_append_right (by rw [hz]; exact h6),hz,Array.getD_eq_getD_getElem?,Nat.add_sub_cancel_left,<- e,Array.getElem?_extract]
     by_cases h3 : c + d < xs.size
     . rw [if_pos (by rw [Nat.min_self]; exact Nat.lt_sub_of_add_lt (by rw [Nat.add_comm]; exact h3))]
     . rw [if_neg (by rw [Nat.min_self]; exact λ z => h3 (by have := Nat.add_lt_of_lt_sub z; rw [Nat.add_comm]; exact this)),Array.getElem?_eq_none (Nat.not_lt.mp h3)]
theorem put_size {xs : Array Nat} {c j : Nat} (hc : c <= xs.size) : (SetTable.insertAt xs c j).size = xs.size + 1 := by
 unfold SetTable.insertAt
 rw [Array.size_append,Array.size_push,Array.size_extract,Array.size_extract,Nat.min_self,Nat.min_eq_left hc,Nat.sub_zero,Nat.add_right_comm,Nat.add_sub_cancel' hc]
theorem Rise.ins {xs : Array Nat} (h : Rise xs) {j : Nat} (hj : ¬ xs[SetTable.below xs j]? = some j) : Rise (SetTable.insertAt xs (SetTable.below xs j) j) := by
 obtain ⟨c,c1,c2,c3,c4⟩ := h.place j
 rw [c4] at hj ⊢
 intro a b hab hb
 rw [put_size c1] at hb
 have hcj : ∀ k : Nat,c <= k -> k < xs.size -> j < xs.getD k 0 := λ k k1 k2 => by
  rcases Nat.lt_or_ge c k with z | z
  . exact Nat.lt_of_le_of_lt (c3 c (Nat.le_refl _) (by omega)) (h c k z k2)
  . have : k = c := by omega
    subst this;refine Nat.lt_of_le_of_ne (c3 k k1 k2) λ e => hj ?_;rw [getD_lt k2,<- e]
 rw [put_get c1,put_get c1]
 by_cases a1 : a < c
 . rw [if_pos a1]
   by_cases b1 : b < c
   . rw [if_pos b1]; exact h a b hab (by omega)
   . rw [if_neg b1]
     by_cases b2 : b = c
     . rw [if_pos b2]; exact c2 a a1
     . rw [if_neg b2]; exact Nat.lt_trans (c2 a a1) (hcj _ (by omega) (by omega))
 . rw [if_neg a1]
   by_cases a2 : a = c
   . rw [if_pos a2,if_neg (by omega),if_neg (by omega)]; exact hcj _ (by omega) (by omega)
   . rw [if_neg a2,if_neg (by omega),if_neg (by omega)]; exact h _ _ (by omega) (by omega)
def FreeS (t : SetTable) (j : Nat) : Prop := ¬ t.place[SetTable.below t.place j]? = some j
theorem free_of {t : SetTable} {j : Nat} (h : ∀ i,t.slot j ≠ .live i) : FreeS t j := λ e => by
 refine h (SetTable.below t.place j) ?_
 unfold SetTable.slot
 dsimp only
 rw [if_pos (by rw [e]; exact beq_self_eq_true _)]
theorem probe_free {t : SetTable} {h h' : Int} (hh : (h' == h) = false) : ∀ (fuel : Nat) (p : SetTable.Probe) (j : Nat) (dm : Option Nat),(∀ d,p.dummy = some d -> FreeS t d) -> SetTable.probe.go t (λ _ => h') h fuel p = some (.empty j dm) -> FreeS t (dm.getD j)
 | 0,p,j,dm,_,e => by
  unfold SetTable.probe.go at e;cases e
 | fuel + 1,p,j,dm,hd,e => by
  unfold SetTable.probe.go at e;cases hs : t.slot p.j with
  | empty =>
   rw [hs] at e;injection e with e
   injection e with e1 e2
   subst e1 e2;cases hp : p.dummy with
   | none => exact free_of λ i z => by rw [show (none : Option Nat).getD p.j = p.j from rfl,hs] at z; cases z
   | some d => exact hd d hp
  | dummy =>
   rw [hs] at e;refine probe_free hh fuel _ j dm (λ d hd' => ?_) e;have q : (t.advance { p with dummy := some p.j }).dummy = some p.j := by
    unfold SetTable.advance
    split <;> rfl
   rw [q] at hd';cases hd';exact free_of λ i z => by rw [hs] at z; cases z
  | live i =>
   rw [hs] at e;dsimp only at e;rw [hh,if_neg (λ z => nomatch z)] at e;refine probe_free hh fuel _ j dm (λ d hd' => ?_) e;have q : (t.advance p).dummy = p.dummy := by
    unfold SetTable.advance
    split <;> rfl
   rw [q] at hd';exact hd d hd'
theorem rise_lay {t : SetTable} (h : Rise t.place) (es : Array (Int × Value)) (hs : Int) (x : Value) : Rise (layNew t es hs x).2.1.place := by
 unfold layNew
 have or_ : ∀ (t' : SetTable) (n : Nat),Rise t'.place -> Rise (t'.orStandIn n).place := λ t' n q => by
  unfold SetTable.orStandIn
  split
  . exact q
  . exact rise_range n
 cases hf : t.freeSlot hs with
 | none => exact rise_range _
 | some p =>
  obtain ⟨slot,wd⟩ := p;refine or_ _ _ ?_;show Rise (SetTable.insertAt t.place (SetTable.below t.place slot) slot);refine h.ins ?_;unfold SetTable.freeSlot at hf;cases hp : t.probe (λ _ => hs + 1) hs (t.probeStart hs) with
  | none => rw [hp] at hf; cases hf
  | some m =>
   rw [hp] at hf;cases m with
   | candidate _ _ _ => cases hf
   | empty j dm =>
    injection hf with hf
    injection hf with e1 _
    rw [<- e1];unfold SetTable.probe at hp;exact probe_free (beq_eq_false_iff_ne.mpr (by omega)) _ _ j dm (λ d z => by cases (show (none : Option Nat) = some d from z)) hp
theorem rise_relay {t : SetTable} (h : Rise t.place) (es : Array (Int × Value)) (n : Nat) : Rise (relayAll t es n).2.1.place := by
 unfold relayAll
 split
 . rename_i t' order e
   have hr : Rise t'.place := by
    unfold SetTable.relaid SetTable.laid at e;obtain ⟨ow,_,e⟩ := Option.bind_eq_some_iff.mp e;cases e;refine rise_list ?_;rw [List.pairwise_map];refine List.Pairwise.filterMap (R := λ a b : Nat => a < b) _ (λ a a' hlt b hb b' hb' => ?_) List.pairwise_lt_range;obtain ⟨y,_,rfl⟩ := Option.map_eq_some_iff.mp hb;obtain ⟨y',_,rfl⟩ := Option.map_eq_some_iff.mp hb';exact hlt
   dsimp only
   split
   . exact hr
   . exact rise_range _
 . exact rise_range _
instance keyMem (x : Key) (zs : List Key) : Decidable (x ∈ zs) := decidable_of_iff ((zs.any λ y => decide (y = x)) = true) (by simp)
theorem led_lay (t : SetTable) (es : Array (Int × Value)) (h : Int) (x : Value) : (layNew t es h x).2.1.led = t.led := by
 unfold layNew
 cases t.freeSlot h with
 | some p =>
  show ((t.put p.1).1.orStandIn _).led = t.led
  unfold SetTable.orStandIn
  split <;> rfl
 | none => rfl
theorem led_relay (t : SetTable) (es : Array (Int × Value)) (n : Nat) : (relayAll t es n).2.1.led = t.led := by
 unfold relayAll
 split
 . rename_i t' order e
   have hf : t'.led = t.led := by
    unfold SetTable.relaid SetTable.laid at e;obtain ⟨_,_,e⟩ := Option.bind_eq_some_iff.mp e;cases e;rfl
   dsimp only
   split
   . exact hf
   . rfl
 . rfl
theorem key_scan {k : Key} {u : Value} (r : RelV (kV k) u) : u.scannable = true := by
 cases k with
 | inl i => obtain ⟨t,rfl⟩ := r; rfl
 | inr x => obtain ⟨t,rfl⟩ := r; rfl
theorem vals_snoc {zs : List V} {us : List Value} {x : V} {u : Value} (h : Vals zs us) (r : RelV x u) : Vals (zs ++ [x]) (us ++ [u]) := h.append (.cons r .nil)
def SetK (P : Program) (w : World) (led : Bool) (h : Heap) (a : Addr) (zs : List Key) : Prop :=
 ∃ o es ep t,h.get? a = some o /\ o.ExactSet /\ o.data = .set es ep t /\ ElemsOf (mixKind P w) es.toList /\ (∃ us : List Value,(es.toList.map (·.2)).Perm us /\ Vals (zs.map kV) us) /\ zs.Nodup
  /\ es.size < scanBound /\ t.fits es.size = true /\ t.led = led /\ Rise t.place
theorem SetK.mem {zs : List Key} {es : Array (Int × Value)} {us : List Value} (hp : (es.toList.map (·.2)).Perm us) (hs : Vals (zs.map kV) us) (x : Key) :
 (∃ e ∈ es.toList,(mixKind P w).is x e.2 = true) ↔ x ∈ zs := by
 constructor
 . rintro ⟨e,he,hk⟩;obtain ⟨n,hn⟩ := List.getElem?_of_mem (hp.mem_iff.mp (List.mem_map_of_mem he));have hl := hs.length;rw [List.length_map] at hl;have hz : n < zs.length := by rw [hl]; exact (List.getElem?_eq_some_iff.mp hn).1
   obtain ⟨u,h1,h2⟩ := hs.get (i := n) (x := kV zs[n]) (by rw [List.getElem?_map,List.getElem?_eq_getElem hz]; rfl);rw [hn] at h1;cases Option.some.inj h1;rw [(mixKind P w).inj _ _ _ hk (kV_is h2)];exact List.getElem_mem hz
 . intro hx;obtain ⟨n,hn⟩ := List.getElem?_of_mem hx;obtain ⟨u,h1,h2⟩ := hs.get (i := n) (x := kV x) (by rw [List.getElem?_map,hn]; rfl);obtain ⟨e,he,h3⟩ := List.mem_map.mp (hp.mem_iff.mpr (List.mem_of_getElem? h1));exact ⟨e,he,by rw [h3]; exact kV_is h2⟩
theorem kset_add {led : Bool} {a : Addr} {zs : List Key} {x : Key} {u : Value} {Q : Bool -> Shared -> Prop} (ru : RelV (kV x) u) (hS : SetK P w led s.heap a zs) (hroom : zs.length + 1 < scanBound)
 (h : ∀ h',Heap.SameBut a s.heap h' -> SetK P w led h' a (if x ∈ zs then zs else zs ++ [x]) -> Q (!decide (x ∈ zs)) { s with heap := h',toks := s.toks + 1 }) :
 wpAny (model P w) A (setAdd a u) Q E s := by
 obtain ⟨o,es,ep,t,ho,hex,hd,hel,⟨us,hp,hs⟩,hnd,hb,hf,hled,hpl⟩ := hS
 have hkey : (mixKind P w).is x u = true := kV_is ru
 have hsc := key_scan ru
 have hsz : es.size = zs.length := by
  have e1 := hp.length_eq;rw [List.length_map,Array.length_toList] at e1;rw [e1];have e2 := hs.length;rw [List.length_map] at e2;exact e2.symm
 have hm := SetK.mem (P := P) (w := w) hp hs x
 unfold setAdd
 refine wpAny_holding (wpAny_bind ((mixKind P w).pyHash hkey ?_))
 unfold setAddHashed setAddHashedIn
 refine wpAny_holding (wpAny_bind (wpAny_setState_of (s := { s with toks := s.toks + 1 }) ho hd hf ?_))
 dsimp only
 rw [byScan_of (knd := mixKind P w) hsc hb hel,if_pos rfl]
 unfold setAddByScan
 refine wpAny_bind (wpAny_bind (wpAny_rule (wpAny_bind (wpAny_setScan_of (s := { s with toks := s.toks + 1 }) hkey ho hd hf hel ?_))))
 cases hr : List.findIdx? (λ e => (mixKind P w).is x e.2) es.toList with
 | some j =>
  obtain ⟨hj,hpj,_⟩ := List.findIdx?_eq_some_iff_getElem.mp hr;have hx : x ∈ zs := hm.mp ⟨es.toList[j],List.getElem_mem hj,hpj⟩;have q := h s.heap (Heap.SameBut.refl a s.heap) (by rw [if_pos hx]; exact ⟨o,es,ep,t,ho,hex,hd,hel,⟨us,hp,hs⟩,hnd,hb,hf,hled,hpl⟩);rw [decide_eq_true hx] at q;exact wpAny_pure (wpAny_pure q)
 | none =>
  have hx : x ∉ zs := λ z => by
   obtain ⟨e,he,hk⟩ := hm.mpr z;have y := List.findIdx?_eq_none_iff.mp hr e he;rw [hk] at y;cases y
  have hgw : ∀ (b : Bool) (s₁ : Shared) (Q' : Unit -> Shared -> Prop),Q' () s₁ -> wpAny (model P w) A (match b with | true => rule "set.scan.the-table-gave-way" | false => pure ()) Q' E s₁ := λ b s₁ Q' hq => by
   cases b
   . exact wpAny_pure hq
   . exact wpAny_rule hq
  have l1 := layNew_perm t es ((mixKind P w).hash x) u;have l2 := layNew_fits t es ((mixKind P w).hash x) u;have l3 := led_lay t es ((mixKind P w).hash x) u;have l4 := rise_lay hpl es ((mixKind P w).hash x) u;generalize layNew t es ((mixKind P w).hash x) u = L at l1 l2 l3 l4 ⊢;obtain ⟨es1,t1,wasDummy,gave⟩ := L;dsimp only at l1 l2 l3 l4 ⊢;rw [Array.toList_push] at l1;have hsz1 : es1.size = zs.length + 1 := by
   rw [<- Array.length_toList,l1.length_eq,List.length_append,Array.length_toList,hsz]; rfl
  have hb1 : es1.size < scanBound := by rw [hsz1]; exact hroom
  have hel1 : ElemsOf (mixKind P w) es1.toList := (hel.push hkey hsc).perm l1;have fin : ∀ (es2 : Array (Int × Value)) (t2 : SetTable) (o2 : Obj) (ep2 : Nat) (h2 : Heap),es2.toList.Perm es1.toList -> t2.fits es2.size = true -> t2.led = t.led -> Rise t2.place -> o2.ExactSet -> o2.data = .set es2 ep2 t2 -> h2.get? a = some o2 ->
   SetK P w led h2 a (if x ∈ zs then zs else zs ++ [x]) := λ es2 t2 o2 ep2 h2 p2 f2 e1 e2 x2 d2 g2 => by
   rw [if_neg hx];have hz2 : es2.size = es1.size := by rw [<- Array.length_toList,p2.length_eq,Array.length_toList]
   refine ⟨o2,es2,ep2,t2,g2,x2,d2,hel1.perm p2,⟨us ++ [u],?_,?_⟩,?_,by omega,f2,e1.trans hled,e2⟩
   . refine ((p2.trans l1).map _).trans ?_;rw [List.map_append];exact hp.append_right _
   . rw [List.map_append]; exact vals_snoc hs ru
   . exact List.nodup_append.mpr ⟨hnd,by simp,λ a ha b hb e => hx (by rw [List.mem_singleton] at hb; rw [<- hb,<- e]; exact ha)⟩
  refine wpAny_bind (hgw gave _ _ ?_);have tail : ∀ (g : Bool -> Sem Unit) (t2 : SetTable) (R : Option Bool -> Shared -> Prop),(∀ (b : Bool) (s₁ : Shared) (Q' : Unit -> Shared -> Prop),Q' () s₁ -> wpAny (model P w) A (g b) Q' E s₁) -> Rise t2.place -> t2.led = t.led -> t2.fits es1.size = true ->
   (∀ h',Heap.SameBut a s.heap h' -> SetK P w led h' a (if x ∈ zs then zs else zs ++ [x]) -> R (some true) { s with heap := h',toks := s.toks + 1 }) ->
   wpAny (model P w) A (do
    storeSet a es1 t2
    if (!wasDummy && t2.tooFull) = true then do
     g (relayAll t2 es1 (SetTable.grown es1.size)).2.2
     storeSet a (relayAll t2 es1 (SetTable.grown es1.size)).1 (relayAll t2 es1 (SetTable.grown es1.size)).2.1
     pure (some true)
     else pure (some true)) R E { s with toks := s.toks + 1 } := λ g t2 R hg e2 e1 f2 hR => by
   have ga : ∀ (h0 : Heap) (o0 : Obj) (es0 : Array (Int × Value)) (ep0 : Nat) (t0 : SetTable) (es' : Array (Int × Value)) (t' : SetTable),h0.get? a = some o0 -> o0.data = .set es0 ep0 t0 -> (h0.update a (Obj.putSet es' t')).get? a = some { o0 with data := .set es' (ep0 + 1) t' } := λ h0 o0 es0 ep0 t0 es' t' q1 q2 => by
    have z := Heap.get?_update_self (Obj.putSet es' t') q1 (by rw [putSet_of es' t' q2]; rfl);rw [putSet_of es' t' q2] at z;exact z
   have g1 := ga s.heap o es ep t es1 t2 ho hd;refine wpAny_bind (wpAny_storeSet_of (s := { s with toks := s.toks + 1 }) ho hd ?_ (fits_of_scanBound hb1))
   split
   . have r1 := relayAll_perm t2 es1 (SetTable.grown es1.size);have r2 := relayAll_fits t2 es1 (SetTable.grown es1.size);have r3 := led_relay t2 es1 (SetTable.grown es1.size);have hz2 : (relayAll t2 es1 (SetTable.grown es1.size)).1.size = es1.size := by rw [<- Array.length_toList,r1.length_eq,Array.length_toList]
     refine wpAny_bind (hg _ _ _ (wpAny_bind (wpAny_storeSet_of (s := { s with heap := s.heap.update a (Obj.putSet es1 t2),toks := s.toks + 1 }) g1 rfl ?_ (fits_of_scanBound (by rw [hz2]; exact hb1)))));have np := rise_relay e2 es1 (SetTable.grown es1.size);exact wpAny_pure (hR _ ((Heap.SameBut.update s.heap a _).trans (Heap.SameBut.update _ a _)) (fin _ _ { o with data := .set (relayAll t2 es1 (SetTable.grown es1.size)).1 (ep + 1 + 1) (relayAll t2 es1 (SetTable.grown es1.size)).2.1 } (ep + 1 + 1) _ r1 r2 (r3.trans e1) np hex rfl (ga _ { o with data := .set es1 (ep + 1) t2 } es1 (ep + 1) t2 _ _ g1 rfl)))
   . exact wpAny_pure (hR _ (Heap.SameBut.update s.heap a _) (fin es1 t2 { o with data := .set es1 (ep + 1) t2 } (ep + 1) _ (.refl _) f2 e1 e2 hex rfl g1))
  have q : ∀ h',Heap.SameBut a s.heap h' -> SetK P w led h' a (if x ∈ zs then zs else zs ++ [x]) -> wpAny (model P w) A (pure true) Q E { s with heap := h',toks := s.toks + 1 } := λ h' c1 c2 => by
   have q := h h' c1 c2;rw [decide_eq_false hx] at q;exact wpAny_pure q
  cases hp1 : t1.plain
  . rw [if_neg (λ z => nomatch z)];refine wpAny_bind (wpAny_pure ?_);exact tail _ t1 _ hgw l4 l3 l2 q
  . simp only [if_true];rw [hashByValue_scannable 8 hsc];refine wpAny_bind (wpAny_pure ?_);cases plainKind u
    . exact tail _ { t1 with plain := false } _ hgw l4 l3 (SetTable.fits_plain_off l2) q
    . exact tail _ t1 _ hgw l4 l3 l2 q
section
theorem setK_new {h : Heap} {a : Addr} (e : h.get? a = some (setO w)) : SetK P w (led0 w) h a [] := by
 refine ⟨_,#[],0,_,e,⟨rfl,rfl,rfl⟩,rfl,?_,⟨[],List.Perm.refl _,.nil⟩,List.Pairwise.nil,by decide,rfl,rfl,?_⟩
 . intro _ z;simp at z
 . intro i j h hj;exact absurd hj (Nat.not_lt_zero _)
def firstK (l : List Key) : List Key := l.foldl (λ σ v => if v ∈ σ then σ else σ ++ [v]) []
theorem firstK_snoc (l : List Key) (v : Key) : firstK (l ++ [v]) = if v ∈ firstK l then firstK l else firstK l ++ [v] := by
 unfold firstK
 rw [List.foldl_append]
 rfl
theorem firstK_go : ∀ (l σ : List Key),(l.foldl (λ σ v => if v ∈ σ then σ else σ ++ [v]) σ).length <= σ.length + l.length
 | [],_ => Nat.le_refl _
 | v :: l,σ => by
  rw [List.foldl_cons,List.length_cons];refine Nat.le_trans (firstK_go l _) ?_
  split
  . omega
  . rw [List.length_append,List.length_singleton]; omega
theorem firstK_le (l : List Key) : (firstK l).length <= l.length := by
 have q := firstK_go l []
 rw [List.length_nil,Nat.zero_add] at q
 exact q
theorem firstK_mem (l : List Key) : ∀ (σ : List Key) (x : Key),x ∈ l.foldl (λ σ v => if v ∈ σ then σ else σ ++ [v]) σ ↔ x ∈ σ \/ x ∈ l := by
 induction l with
 | nil => intro σ x; simp
 | cons v l ih =>
  intro σ x;rw [List.foldl_cons,ih]
  by_cases c : v ∈ σ
  . rw [if_pos c,List.mem_cons];exact ⟨λ z => z.imp id .inr,λ z => z.elim .inl λ z => z.elim (λ e => .inl (e ▸ c)) .inr⟩
  . rw [if_neg c,List.mem_append,List.mem_singleton,List.mem_cons];exact ⟨λ z => z.elim (λ z => z.imp id .inl) λ z => .inr (.inr z),λ z => z.elim (λ z => .inl (.inl z)) λ z => z.elim (λ z => .inl (.inr z)) .inr⟩
theorem firstK_nodup (l : List Key) : ∀ (σ : List Key),σ.Nodup -> (l.foldl (λ σ v => if v ∈ σ then σ else σ ++ [v]) σ).Nodup := by
 induction l with
 | nil => intro σ h; exact h
 | cons v l ih =>
  intro σ h;rw [List.foldl_cons];refine ih _ ?_
  by_cases c : v ∈ σ
  . rw [if_pos c]; exact h
  . rw [if_neg c];exact List.nodup_append.mpr ⟨h,List.nodup_cons.mpr ⟨List.not_mem_nil,List.nodup_nil⟩,λ a ha b hb e => c (by rw [<- List.mem_singleton.mp hb,<- e]; exact ha)⟩
theorem vals_key : ∀ {us : List Value} {ys : List Key},Vals (ys.map kV) us -> ∀ (i : Nat) (v : Value),us[i]? = some v -> ∃ y,ys[i]? = some y /\ RelV (kV y) v := λ {us ys} r i v e => by
 have hl := r.length
 rw [List.length_map] at hl
 have hi : i < ys.length := by rw [hl]; exact (List.getElem?_eq_some_iff.mp e).1
 obtain ⟨u,h1,h2⟩ := r.get (i := i) (x := kV ys[i]) (by rw [List.getElem?_map,List.getElem?_eq_getElem hi]; rfl)
 rw [e] at h1
 cases Option.some.inj h1
 exact ⟨_,List.getElem?_eq_getElem hi,h2⟩
theorem SetK.keep {led : Bool} {h h' : Heap} {a : Addr} {zs : List Key} (x : SetK P w led h a zs) (k : ∀ o,h.get? a = some o -> h'.get? a = some o) : SetK P w led h' a zs := by
 obtain ⟨o,es,ep,t,e,r⟩ := x
 exact ⟨o,es,ep,t,k o e,r⟩
variable {R : Result -> Shared -> Prop} {I : Addr} {fp wr : List Addr} {G : Array GenState -> Array GenState -> Prop} {n : Nat} {Pv : Nat -> Value -> Prop} {St : Nat -> Shared -> Prop}
theorem loop_setK {led : Bool} (W : WalksS P w A.in1 I fp wr G n Pv St) (S : Addr) (hSf : S ∉ fp) (ys : List Key) (hn : ys.length = n) (hval : ∀ i v,Pv i v -> ∃ y,ys[i]? = some y /\ RelV (kV y) v) (hb : n + 1 < scanBound) :
 ∀ (k i : Nat) (s : Shared),n - i = k -> i <= n -> St i s -> SetK P w led s.heap S (firstK (ys.take i)) ->
  (∀ s',Moved (S :: wr) G s s' -> SetK P w led s'.heap S (firstK ys) -> R (.ok (.ret .none)) s') ->
  codeAny (model P w) A (.builtin "set.update.loop" ⟨[.ref S,.ref I],[]⟩) R s := by
 have hSw : S ∉ wr := λ z => hSf (W.sub _ z)
 have up : ∀ b ∈ wr,b ∈ S :: wr := λ b z => .tail _ z
 intro k
 induction k with
 | zero =>
  intro i s hk hi hst hS hR;obtain rfl : i = n := by omega
  refine codeAny_builtin F.entry_set_update_loop (by
   rw [PySem.Around.under_plainId F.plain_set_update_loop _];refine (show wpAny _ A.in1 (pyNext (.ref I) >>= _) _ _ s from wpAny_bind (W.done s _ _ hst λ s' hm => ?_));refine (show wpAny _ A.in1 (ret Value.none) _ _ s' from wpAny_pure (hR s' (hm.mono up) ?_));rw [List.take_of_length_le (by omega)] at hS;exact hS.keep λ o e => hm.heap S o hSw e)
 | succ k ih =>
  intro i s hk hi hst hS hR;have hlt : i < n := by omega
  refine codeAny_builtin F.entry_set_update_loop (by
   rw [PySem.Around.under_plainId F.plain_set_update_loop _];refine (show wpAny _ A.in1 (pyNext (.ref I) >>= _) _ _ s from wpAny_bind (W.item i s _ _ hlt hst λ v s' hP hst' hm => ?_));obtain ⟨y,hy,ry⟩ := hval i v hP;have hS' : SetK P w led s'.heap S (firstK (ys.take i)) := hS.keep λ o e => hm.heap S o hSw e;refine (show wpAny _ A.in1 (holding [v] (setAdd S v) >>= _) _ _ s' from wpAny_bind (wpAny_holding (kset_add ry hS' ?_ λ h' hsb hS2 => ?_)))
   . have q := firstK_le (ys.take i);rw [List.length_take] at q;omega
   have e1 : ys.take (i + 1) = ys.take i ++ [y] := by rw [List.take_succ,hy]; rfl
   rw [<- firstK_snoc,<- e1] at hS2;refine wpAny_pure ⟨plainId_quiet F.plain_set_update_loop _,ih (i + 1) _ (by omega) hlt (W.frame _ s' _ _ hst' (Nat.le_succ _) λ b z o e => ?_) hS2 λ s'' hm'' hS'' => ?_⟩
   . exact (hsb.2 b λ q : b = S => hSf (q ▸ z)).trans e
   . refine hR s'' (Moved.trans W.gtrans ((hm.mono up).then_heap (Nat.le_succ _) λ b o z e => ?_) hm'') hS'';exact (hsb.2 b λ q : b = S => z (by rw [q]; exact .head _)).trans e)
set_option maxHeartbeats 8000000 in
theorem init_setK {S l : Addr} {items : Array Value} {ys : List Key} {R : Result -> Shared -> Prop} (hh : A.handled = none) (hS : s.heap.get? S = some (setO w)) (hl : s.heap.IsList l items) (hs : Vals (ys.map kV) items.toList) (hb : items.size + 1 < scanBound)
 (h : ∀ (h' : Heap) (tk : Nat),SetK P w (led0 w) h' S (firstK ys) -> (∀ b o,b ≠ S -> s.heap.get? b = some o -> h'.get? b = some o) -> R (.ok (.ret .none)) { s with heap := h',toks := tk }) :
 codeAny (model P w) A (.call (.builtin "set.__init__") ⟨[.ref S,.ref l],[]⟩) R s := by
 have hT : s.TypeIs (.ref S) "set" := ⟨_,hS,rfl⟩
 refine codeAny_call_builtin PySem.F.called_set.init.plain PySem.F.entry_set_init (check_set_init_1 hT ?_)
 obtain ⟨ol,hol,hcl,nl,hdl⟩ := id hl
 have hne : l ≠ S := λ z => by
  rw [z,hS] at hol;cases hol;have y : Value.type "set" = Value.type "list" := hcl;simp at y
 obtain ⟨ocls,odict,odata,oslots⟩ := ol
 obtain rfl : ocls = _ := hcl
 obtain rfl : odata = _ := hdl
 have c1 := PySem.F.sub_list_set
 have c2 := PySem.F.sub_list_frozenset
 have c3 : (Value.type "list" == Value.type "dict") = false := by decide
 unfold Builtin.«set.__init__» noKeywords
 unfold Builtin.Frozenset.updateFrom
 generalize hPI : pyIter = PI
 wp_walk
 subst hPI
 refine wpAny_pyIter_list hl (wpAny_bind (wpAny_runValue ?_))
 have hh3 : A.in1.in1.handled = none := by simp [hh]
 have hlt : l < s.heap.objs.size := Heap.lt_size hol
 have hsl : S < s.heap.objs.size := Heap.lt_size hS
 refine loop_setK (led := led0 w) ((Walks.list hh3 s.heap.objs.size l (Nat.ne_of_lt hlt) items).toS) S ?hf ys ?hn (λ i v e => vals_key hs i v (by rw [Array.getElem?_toList]; exact e)) hb (items.size - 0) 0 _ rfl (Nat.zero_le _) ⟨⟨_,Heap.get?_push_size _ rfl,rfl,rfl⟩,hl.push _⟩ ?hS0 ?hR
 case hf =>
  simp only [List.mem_cons,List.not_mem_nil,or_false,not_or];exact ⟨Nat.ne_of_lt hsl,λ z => hne z.symm⟩
 case hn =>
  have q := hs.length;rw [List.length_map,Array.length_toList] at q;exact q
 case hS0 => exact setK_new (Heap.get?_push_of_some _ hS)
 case hR =>
  intro s' hm hS';obtain ⟨h',g',d',tk',os'⟩ := s';obtain rfl : g' = s.gens := hm.gens;obtain rfl : d' = s.drawn := hm.drawn;obtain rfl : os' = s.os := hm.os;refine wpAny_pure (show wpAny _ _ (ret Value.none) _ _ _ from wpAny_pure (h h' tk' hS' λ b o hbS e => ?_));refine hm.heap b o (λ z => ?_) (Heap.get?_push_of_some _ e);simp only [List.mem_cons,List.not_mem_nil,or_false] at z
  rcases z with z | z
  . exact hbS z
  . exact absurd (Heap.lt_size e) (by rw [z]; exact Nat.lt_irrefl _)
set_option maxHeartbeats 8000000 in
theorem call_setK {l : Addr} {items : Array Value} {ys : List Key} {Q : Value -> Shared -> Prop} (hh : A.handled = none) (hl : s.heap.IsList l items) (hs : Vals (ys.map kV) items.toList) (hb : items.size + 1 < scanBound)
 (h : ∀ (h' : Heap) (tk : Nat),SetK P w (led0 w) h' s.heap.objs.size (firstK ys) -> (∀ b o,s.heap.get? b = some o -> h'.get? b = some o) -> Q (.ref s.heap.objs.size) { s with heap := h',toks := tk }) :
 wpAny (model P w) A (call (.type "set") [.ref l]) Q E s := by
 obtain ⟨c,tl,hmro⟩ := PySem.F.called_set.mro
 have c1 := PySem.F.called_set.made
 have c2 := PySem.F.called_set.sub
 have c3 := PySem.F.called_set.notType
 have c4 := PySem.F.called_set.canCreate
 have c5 := PySem.F.typeCall_set_1 (.ref l)
 refine wpAny_call (codeAny_of_tree (show wpAny _ _ (callAny (.type "set") _) _ _ _ from wpAny_pure ⟨Code.quiet_builtin _ (by decide +kernel),codeAny_builtin PySem.F.entry_type_call ?_⟩))
 rw [PySem.Around.under_plain (weight_type_call_type "set" [.ref l] []) rfl]
 repeat (any_goals (first | assumption | wp_step))
 refine codeAny_mono (set_new_led (P := P) (E := E) (rest := [.ref l]) (Q₁ := λ obj s₁ => obj = .ref s.heap.objs.size /\ s₁ = { s with heap := s.heap.push (setO w) }) (PySem.F.newCall_set_1 _) ⟨rfl,rfl⟩) λ r s₁ hr => ?_
 cases r with
 | error e => exact hr
 | ok fl =>
  cases fl with
  | ret obj =>
   obtain ⟨rfl,rfl⟩ := hr;have hS : (s.heap.push (setO w)).get? s.heap.objs.size = some (setO w) := Heap.get?_push_size _ rfl;have hT : Shared.TypeIs { s with heap := s.heap.push (setO w) } (.ref s.heap.objs.size) "set" := ⟨_,hS,rfl⟩;have c6 := PySem.F.called_set.init.lookup;have c7 := PySem.F.called_set.init.bind (.ref s.heap.objs.size)
   repeat (any_goals (first | assumption | wp_step))
   refine init_setK (s := { s with heap := s.heap.push (setO w) }) (by simp [hh]) hS (hl.push _) hs hb λ h' tk x k => ?_;refine wpAny_pure (wpAny_pure (h h' tk x λ b o e => k b o (Nat.ne_of_lt (Heap.lt_size e)) (Heap.get?_push_of_some _ e)))
  | _ => exact hr.elim
set_option maxHeartbeats 8000000 in
theorem init_setKT {S l : Addr} {items : Array Value} {ys : List Key} {R : Result -> Shared -> Prop} (hh : A.handled = none) (hS : s.heap.get? S = some (setO w)) (hl : s.heap.IsTuple l items) (hs : Vals (ys.map kV) items.toList) (hb : items.size + 1 < scanBound)
 (h : ∀ (h' : Heap) (tk : Nat),SetK P w (led0 w) h' S (firstK ys) -> (∀ b o,b ≠ S -> s.heap.get? b = some o -> h'.get? b = some o) -> R (.ok (.ret .none)) { s with heap := h',toks := tk }) :
 codeAny (model P w) A (.call (.builtin "set.__init__") ⟨[.ref S,.ref l],[]⟩) R s := by
 have hT : s.TypeIs (.ref S) "set" := ⟨_,hS,rfl⟩
 refine codeAny_call_builtin PySem.F.called_set.init.plain PySem.F.entry_set_init (check_set_init_1 hT ?_)
 obtain ⟨ol,hol,hcl,nl,hdl⟩ := id hl
 have hne : l ≠ S := λ z => by
  rw [z,hS] at hol;cases hol;have y : Value.type "set" = Value.type "tuple" := hcl;simp at y
 obtain ⟨ocls,odict,odata,oslots⟩ := ol
 obtain rfl : ocls = _ := hcl
 obtain rfl : odata = _ := hdl
 have c1 := sub_tup_set
 have c2 := sub_tup_frozen
 have c3 : (Value.type "tuple" == Value.type "dict") = false := by decide
 unfold Builtin.«set.__init__» noKeywords
 unfold Builtin.Frozenset.updateFrom
 generalize hPI : pyIter = PI
 wp_walk
 subst hPI
 refine wpAny_pyIter_tuple hl (wpAny_bind (wpAny_runValue ?_))
 have hh3 : A.in1.in1.handled = none := by simp [hh]
 have hlt : l < s.heap.objs.size := Heap.lt_size hol
 have hsl : S < s.heap.objs.size := Heap.lt_size hS
 refine loop_setK (led := led0 w) ((Walks.tuple hh3 s.heap.objs.size l (Nat.ne_of_lt hlt) items).toS) S ?hf ys ?hn (λ i v e => vals_key hs i v (by rw [Array.getElem?_toList]; exact e)) hb (items.size - 0) 0 _ rfl (Nat.zero_le _) ⟨⟨_,Heap.get?_push_size _ rfl,rfl,rfl⟩,hl.push _⟩ ?hS0 ?hR
 case hf =>
  simp only [List.mem_cons,List.not_mem_nil,or_false,not_or];exact ⟨Nat.ne_of_lt hsl,λ z => hne z.symm⟩
 case hn =>
  have q := hs.length;rw [List.length_map,Array.length_toList] at q;exact q
 case hS0 => exact setK_new (Heap.get?_push_of_some _ hS)
 case hR =>
  intro s' hm hS';obtain ⟨h',g',d',tk',os'⟩ := s';obtain rfl : g' = s.gens := hm.gens;obtain rfl : d' = s.drawn := hm.drawn;obtain rfl : os' = s.os := hm.os;refine wpAny_pure (show wpAny _ _ (ret Value.none) _ _ _ from wpAny_pure (h h' tk' hS' λ b o hbS e => ?_));refine hm.heap b o (λ z => ?_) (Heap.get?_push_of_some _ e);simp only [List.mem_cons,List.not_mem_nil,or_false] at z
  rcases z with z | z
  . exact hbS z
  . exact absurd (Heap.lt_size e) (by rw [z]; exact Nat.lt_irrefl _)
set_option maxHeartbeats 8000000 in
theorem call_setKT {l : Addr} {items : Array Value} {ys : List Key} {Q : Value -> Shared -> Prop} (hh : A.handled = none) (hl : s.heap.IsTuple l items) (hs : Vals (ys.map kV) items.toList) (hb : items.size + 1 < scanBound)
 (h : ∀ (h' : Heap) (tk : Nat),SetK P w (led0 w) h' s.heap.objs.size (firstK ys) -> (∀ b o,s.heap.get? b = some o -> h'.get? b = some o) -> Q (.ref s.heap.objs.size) { s with heap := h',toks := tk }) :
 wpAny (model P w) A (call (.type "set") [.ref l]) Q E s := by
 obtain ⟨c,tl,hmro⟩ := PySem.F.called_set.mro
 have c1 := PySem.F.called_set.made
 have c2 := PySem.F.called_set.sub
 have c3 := PySem.F.called_set.notType
 have c4 := PySem.F.called_set.canCreate
 have c5 := PySem.F.typeCall_set_1 (.ref l)
 refine wpAny_call (codeAny_of_tree (show wpAny _ _ (callAny (.type "set") _) _ _ _ from wpAny_pure ⟨Code.quiet_builtin _ (by decide +kernel),codeAny_builtin PySem.F.entry_type_call ?_⟩))
 rw [PySem.Around.under_plain (weight_type_call_type "set" [.ref l] []) rfl]
 repeat (any_goals (first | assumption | wp_step))
 refine codeAny_mono (set_new_led (P := P) (E := E) (rest := [.ref l]) (Q₁ := λ obj s₁ => obj = .ref s.heap.objs.size /\ s₁ = { s with heap := s.heap.push (setO w) }) (PySem.F.newCall_set_1 _) ⟨rfl,rfl⟩) λ r s₁ hr => ?_
 cases r with
 | error e => exact hr
 | ok fl =>
  cases fl with
  | ret obj =>
   obtain ⟨rfl,rfl⟩ := hr;have hS : (s.heap.push (setO w)).get? s.heap.objs.size = some (setO w) := Heap.get?_push_size _ rfl;have hT : Shared.TypeIs { s with heap := s.heap.push (setO w) } (.ref s.heap.objs.size) "set" := ⟨_,hS,rfl⟩;have c6 := PySem.F.called_set.init.lookup;have c7 := PySem.F.called_set.init.bind (.ref s.heap.objs.size)
   repeat (any_goals (first | assumption | wp_step))
   refine init_setKT (s := { s with heap := s.heap.push (setO w) }) (by simp [hh]) hS (hl.push _) hs hb λ h' tk x k => ?_;refine wpAny_pure (wpAny_pure (h h' tk x λ b o e => k b o (Nat.ne_of_lt (Heap.lt_size e)) (Heap.get?_push_of_some _ e)))
  | _ => exact hr.elim
end
section
variable {I S T : Addr} {i ep : Nat} {es : Array (Int × Value)} {t : SetTable} {o : Obj}
theorem nxt_flat {sl i : Nat} (hw : w.params.followText "set-order" = false) (hd : o.data = .set es ep t) (hf : t.fits es.size = true) (hled : t.led = true) (hn : (!t.plain && decide (es.size > 1)) = false) :
 Nxt P w o S sl i ep (match es[SetTable.below t.place sl]?,t.place[SetTable.below t.place sl]? with | some (_,x),some j => some (x,j + 1) | _,_ => none) := by
 intro A E s Q ho q
 unfold setNext
 refine wpAny_bind (wpAny_setState_of ho hd hf ?_)
 refine wpAny_bind (show wpAny _ _ (ask >>= λ a => pure (a.params.followText "set-order")) _ _ _ from wpAny_bind (wpAny_askSetting (wpAny_pure ?_)))
 dsimp only
 rw [if_neg (by rw [show (model P w).w.params.followText "set-order" = false from hw]; simp)]
 refine (show wpAny _ _ (if (!t.plain && decide (es.size > 1)) = true then _ else _) _ _ _ from ?_)
 rw [if_neg (by rw [hn]; exact λ z => nomatch z)]
 refine (show wpAny _ _ ((if (!t.led && !es.isEmpty) = true then unsupported "set:maker-not-led" else pure ()) >>= _) _ _ _ from ?_)
 rw [hled,if_neg (by simp)]
 exact wpAny_bind (wpAny_pure (wpAny_pure q))
theorem led_rise (hw : w.params.followText "set-order" = false) (hd : o.data = .set es ep t) (hf : t.fits es.size = true) (hled : t.led = true) (hn : (!t.plain && decide (es.size > 1)) = false) (hr : Rise t.place) :
 Led P w o S ep (es.toList.map (·.2)) (λ i => if i = 0 then 0 else t.place.getD (i - 1) 0 + 1) := by
 have hp : t.place.size = es.size := by
  simp only [SetTable.fits,Bool.and_eq_true,beq_iff_eq,decide_eq_true_eq] at hf;exact hf.1
 have hb : ∀ i : Nat,i <= es.size -> SetTable.below t.place (if i = 0 then 0 else t.place.getD (i - 1) 0 + 1) = i := λ i hi => by
  cases i with
  | zero => exact hr.first
  | succ k => exact hr.next (i := k) (by omega)
 refine ⟨λ i x e => ?_,?_,rfl⟩
 . rw [List.getElem?_map,Array.getElem?_toList] at e;obtain ⟨y,e1,rfl⟩ := Option.map_eq_some_iff.mp e;have hi : i < es.size := (Array.getElem?_eq_some_iff.mp e1).1;have q := nxt_flat (P := P) (S := S) (sl := if i = 0 then 0 else t.place.getD (i - 1) 0 + 1) (i := i) hw hd hf hled hn;rw [hb i (by omega),e1,getD_lt (by omega : i < t.place.size)] at q;exact q
 . have q := nxt_flat (P := P) (S := S) (sl := if (es.toList.map (·.2)).length = 0 then 0 else t.place.getD ((es.toList.map (·.2)).length - 1) 0 + 1) (i := (es.toList.map (·.2)).length) hw hd hf hled hn;rw [hb _ (by rw [List.length_map,Array.length_toList]; exact Nat.le_refl _),Array.getElem?_eq_none (by rw [List.length_map,Array.length_toList]; exact Nat.le_refl _)] at q;exact q
theorem ints_perm {us us0 : List Value} (hp : us.Perm us0) : ∀ {zs : List Int},IntsAre us0 zs -> ∃ zs',IntsAre us zs' /\ zs'.Perm zs := by
 induction hp with
 | nil => intro zs h; exact ⟨zs,h,.refl _⟩
 | cons x _ ih =>
  intro zs h;cases h with
  | cons n t r =>
   obtain ⟨zs',h1,h2⟩ := ih r;exact ⟨_,.cons n t h1,h2.cons n⟩
 | swap x y l =>
  intro zs h;cases h with
  | cons n t r =>
   cases r with
   | cons n' t' r' => exact ⟨_,.cons _ _ (.cons _ _ r'),List.Perm.swap ..⟩
 | trans _ _ ih1 ih2 =>
  intro zs h;obtain ⟨z1,h1,p1⟩ := ih2 h;obtain ⟨z2,h2,p2⟩ := ih1 h1;exact ⟨z2,h2,p2.trans p1⟩
theorem collect_setK {zs : List Key} {Q : List Value -> Shared -> Prop} (hh : A.handled = none) (hS : SetK P w (led0 w) s.heap S zs)
 (h : ∀ s' us,(∀ b o,s.heap.get? b = some o -> s'.heap.get? b = some o) -> s'.gens = s.gens -> s'.os = s.os -> s.heap.objs.size < s'.heap.objs.size -> (∃ us0,us.Perm us0 /\ Vals (zs.map kV) us0) -> Q us s') : wpAny (model P w) A (collect (.ref S)) Q E s := by
 obtain ⟨o,es,ep,t,ho,hex,hd,hel,⟨us0,hp,hs⟩,hnd,hb,hf,hled,hpl⟩ := hS
 have ho0 : (s.heap.push { cls := .type "list",data := .seq ([] : List Value).toArray }).get? S = some o := Heap.get?_push_of_some _ ho
 have hl0 : (s.heap.push { cls := .type "list",data := .seq ([] : List Value).toArray }).get? s.heap.objs.size = some { cls := .type "list",data := .seq ([] : List Value).toArray } := Heap.get?_push_size _ rfl
 have hsz : (s.heap.push { cls := .type "list",data := .seq ([] : List Value).toArray }).objs.size = s.heap.objs.size + 1 := Heap.size_push _ _
 have hSl : S < s.heap.objs.size := Heap.lt_size ho
 have hlen : es.size <= sizeLine := fits_of_scanBound hb
 refine collect_set ⟨o,ho,hex.1⟩ (iter_set ho0 hex hd hf hb (λ hq => ?_) λ hq ps d hps => ?_)
 . have hled' : ∃ us sl,Led P w o S ep us sl /\ us.Perm (es.toList.map (·.2)) := by
    cases hw : w.params.followText "set-order"
    . have hl1 : t.led = true := by rw [hled]; simp [hw]
      rw [hw] at hq;exact ⟨_,_,led_rise hw hd hf hl1 (by simpa using hq) hpl,.refl _⟩
    . exact ⟨_,_,led_text hw hd hf,(pick_perm _ _).map _⟩
   obtain ⟨us,sl,L,hpu⟩ := hled';have hul : us.length <= sizeLine := by rw [hpu.length_eq,List.length_map,Array.length_toList]; exact hlen
   refine ⟨_,rfl,⟨o,Heap.get?_push_of_some _ ho0,hex.1⟩,Heap.get?_push_of_some _ hl0,λ h' c k g => ?_⟩;refine loop_walk (walk_led (I := (s.heap.push { cls := .type "list",data := .seq ([] : List Value).toArray }).objs.size) L (by simp [hh]) hd hf (by rw [hsz]; exact Nat.ne_of_lt (Nat.lt_succ_of_lt hSl))) hul ⟨?_,?_⟩ ?_ g λ s' c' kk g1 g2 g3 => ⟨_,_,rfl,g3,h s' us (λ b o' e => ?_) g1 g2 (Heap.lt_size g3) ⟨us0,hpu.trans hp,hs⟩⟩
   . rw [L.zero];exact k _ _ (by rw [hsz]; exact Nat.succ_ne_self _) (Heap.get?_push_size _ rfl)
   . exact k _ _ (Nat.ne_of_lt hSl) (Heap.get?_push_of_some _ ho0)
   . rw [hsz];intro z
     rcases List.mem_cons.mp z with z | z
     . exact absurd z (Nat.ne_of_lt (Nat.lt_succ_self _))
     . exact absurd (List.mem_singleton.mp z) (Nat.ne_of_gt hSl)
   . have hbl := Heap.lt_size e;exact kk b o' (Nat.ne_of_lt hbl) (by rw [hsz]; exact Nat.ne_of_lt (Nat.lt_succ_of_lt hbl)) (k b o' (Nat.ne_of_lt hbl) (Heap.get?_push_of_some _ (Heap.get?_push_of_some _ e)))
 . have hsz2 : ((s.heap.push { cls := .type "list",data := .seq ([] : List Value).toArray }).push { cls := .type "tuple",data := .seq (ps.map λ i : Nat => rawInt i).toArray }).objs.size = s.heap.objs.size + 1 + 1 := by rw [Heap.size_push,hsz]
   have hpu : (ps.map λ p => (es.toList.map (·.2)).getD p .none).Perm (es.toList.map (·.2)) := by
    have q := hps.map λ p => (es.toList.map (·.2)).getD p Value.none;rw [show es.size = (es.toList.map (·.2)).length by rw [List.length_map,Array.length_toList],range_getD] at q;exact q
   have hpl2 : (ps.map λ p => (es.toList.map (·.2)).getD p .none).length = ps.length := List.length_map _;have hul : ps.length <= sizeLine := by rw [hps.length_eq,List.length_range]; exact hlen
   refine ⟨_,rfl,⟨o,Heap.get?_push_of_some _ (Heap.get?_push_of_some _ ho0),hex.1⟩,Heap.get?_push_of_some _ (Heap.get?_push_of_some _ hl0),λ h' c k g => ?_⟩;have W := walk_drawn (P := P) (w := w) (A := A.in1) (I := s.heap.objs.size + 1 + 1) (T := s.heap.objs.size + 1) (n := 0) (by simp [hh]) hd hf hps (Nat.ne_of_lt (Nat.lt_succ_of_lt (Nat.lt_succ_of_lt hSl))) (Nat.ne_of_lt (Nat.lt_succ_self _));rw [<- hpl2] at W;rw [hsz] at k ⊢;refine loop_walk W (by rw [hpl2]; exact hul) ⟨?_,?_,?_⟩ ?_ g λ s' c' kk g1 g2 g3 => ⟨_,_,rfl,g3,h s' _ (λ b o' e => ?_) g1 g2 (Heap.lt_size g3) ⟨us0,hpu.trans hp,hs⟩⟩
   . exact k _ _ (Nat.ne_of_gt (Nat.lt_succ_of_lt (Nat.lt_succ_self _))) (by have q := Heap.get?_push_size ((s.heap.push { cls := .type "list",data := .seq ([] : List Value).toArray }).push { cls := .type "tuple",data := .seq (ps.map λ i : Nat => rawInt i).toArray }) (o := setItO (.ref (s.heap.objs.size + 1)) 0 S es.size ep) rfl; rw [hsz2] at q; exact q)
   . exact k _ _ (Nat.ne_of_lt hSl) (Heap.get?_push_of_some _ (Heap.get?_push_of_some _ ho0))
   . exact k _ _ (Nat.succ_ne_self _) (Heap.get?_push_of_some _ (by have q := Heap.get?_push_size (s.heap.push { cls := .type "list",data := .seq ([] : List Value).toArray }) (o := { cls := .type "tuple",data := .seq (ps.map λ i : Nat => rawInt i).toArray }) rfl; rw [hsz] at q; exact q))
   . intro z
     rcases List.mem_cons.mp z with z | z
     . exact absurd z (Nat.ne_of_lt (Nat.lt_succ_of_lt (Nat.lt_succ_self _)))
     . rcases List.mem_cons.mp z with z | z
       . exact absurd z (Nat.ne_of_gt hSl)
       . exact absurd (List.mem_singleton.mp z) (Nat.ne_of_lt (Nat.lt_succ_self _))
   . have hbl := Heap.lt_size e;exact kk b o' (Nat.ne_of_lt hbl) (Nat.ne_of_lt (Nat.lt_succ_of_lt (Nat.lt_succ_of_lt hbl))) (k b o' (Nat.ne_of_lt hbl) (Heap.get?_push_of_some _ (Heap.get?_push_of_some _ (Heap.get?_push_of_some _ e))))
theorem sorted_setKS {zs : List Str} {Q : Value -> Shared -> Prop} (hh : A.handled = none) (hS : SetK P w (led0 w) s.heap S (zs.map Sum.inr)) (h64 : zs.length < 64)
 (h : ∀ s' l vs zs',(∀ b o,s.heap.get? b = some o -> s'.heap.get? b = some o) -> s'.gens = s.gens -> s'.os = s.os -> s.heap.objs.size <= l -> (∃ e,s'.heap.get? l = some (seqObj "list" vs e)) -> StrsAre vs.toList zs' -> zs'.Perm zs -> sortedS zs' = true -> Q (.ref l) s') :
 wpAny (model P w) A (call (.builtin "sorted") [.ref S]) Q E s := by
 refine Calls.call_function_entry kind_sorted plain_sorted entry_sorted (args_sorted1 _) ?_
 unfold Builtin.«sorted»
 refine wpAny_bind (m := checkCount "sorted" 1 1 _) (wpAny_pure ?_)
 refine wpAny_bind (collect_setK (by simp [hh]) hS λ s1 us k1 g1 o1 z1 ⟨us0,hpu,hv⟩ => ?_)
 rw [List.map_map] at hv
 obtain ⟨zs1,hs1,hp1⟩ := strs_perm hpu (strs_vals hv)
 have hz : us.length = zs.length := by rw [strs_length hs1,hp1.length_eq]
 refine wpAny_bind (wpAny_newList ?_ (by rw [hz]; have := line63; have : (64 : Nat) <= sizeLine := (by rw [sizeLine_eq]; decide); omega))
 have hoL : (s1.heap.push (seqObj "list" us.toArray 0)).get? s1.heap.objs.size = some (seqObj "list" us.toArray 0) := Heap.get?_push_size _ rfl
 refine wpAny_bind (wpAny_holding (wpAny_call_entry slot_list_sort ⟨_,hoL,rfl⟩ entry_list_sort (list_sort_treeK strKind_oneLt hoL hs1.keysOf (λ v₁ v₂ rest e => keyKind_strs (by rw [<- e]; exact hs1)) (by rw [hz]; exact h64) λ st' a1 a2 => ⟨_,rfl,?_⟩) (args_list_sort _)))
 obtain ⟨ss',b1,b2,b3⟩ := sorted_out_str hs1 a1 a2
 refine wpAny_pure ⟨_,rfl,h _ _ _ ss' (λ b o e => ?_) g1 o1 ?_ (sortedHeap_at hoL) b1 (b2.trans hp1) b3⟩
 . have e1 := k1 b o e;have hb := Heap.lt_size e1;rw [sortedHeap_old (Nat.ne_of_lt hb) (by rw [Heap.size_push]; exact Nat.lt_succ_of_lt hb)];exact Heap.get?_push_of_some _ e1
 . exact Nat.le_of_lt z1
theorem sorted_setKI {zs : List Int} {Q : Value -> Shared -> Prop} (hh : A.handled = none) (hS : SetK P w (led0 w) s.heap S (zs.map Sum.inl)) (h64 : zs.length < 64)
 (h : ∀ s' l vs zs',(∀ b o,s.heap.get? b = some o -> s'.heap.get? b = some o) -> s'.gens = s.gens -> s'.os = s.os -> s.heap.objs.size <= l -> (∃ e,s'.heap.get? l = some (seqObj "list" vs e)) -> IntsAre vs.toList zs' -> zs'.Perm zs -> zs'.Pairwise (· <= ·) -> Q (.ref l) s') :
 wpAny (model P w) A (call (.builtin "sorted") [.ref S]) Q E s := by
 refine Calls.call_function_entry kind_sorted plain_sorted entry_sorted (args_sorted1 _) ?_
 unfold Builtin.«sorted»
 refine wpAny_bind (m := checkCount "sorted" 1 1 _) (wpAny_pure ?_)
 refine wpAny_bind (collect_setK (by simp [hh]) hS λ s1 us k1 g1 o1 z1 ⟨us0,hpu,hv⟩ => ?_)
 rw [List.map_map] at hv
 have hl0 := hv.length
 rw [List.length_map] at hl0
 have hz : us.length = zs.length := by rw [hpu.length_eq]; exact hl0.symm
 obtain ⟨zs1,hs1,hp1⟩ := ints_perm hpu (intsAre_of hv)
 refine wpAny_bind (wpAny_newList ?_ (by rw [hz]; have := line63; have : (64 : Nat) <= sizeLine := (by rw [sizeLine_eq]; decide); omega))
 have hoL : (s1.heap.push (seqObj "list" us.toArray 0)).get? s1.heap.objs.size = some (seqObj "list" us.toArray 0) := Heap.get?_push_size _ rfl
 refine wpAny_bind (wpAny_holding (wpAny_call_entry slot_list_sort ⟨_,hoL,rfl⟩ entry_list_sort (list_sort_tree hoL hs1 (by rw [hz]; exact h64) λ out ns' b1 b2 b3 => ⟨_,rfl,?_⟩) (args_list_sort _)))
 refine wpAny_pure ⟨_,rfl,h _ _ _ ns' (λ b o e => ?_) g1 o1 ?_ (sortedHeap_at hoL) b1 (b2.trans hp1) b3⟩
 . have e1 := k1 b o e;have hb := Heap.lt_size e1;rw [sortedHeap_old (Nat.ne_of_lt hb) (by rw [Heap.size_push]; exact Nat.lt_succ_of_lt hb)];exact Heap.get?_push_of_some _ e1
 . exact Nat.le_of_lt z1
end
theorem inr_mem {z : Str} {zs : List Str} : (Sum.inr z : Key) ∈ zs.map Sum.inr ↔ z ∈ zs := by simp
theorem firstK_inr (l : List Str) : ∀ σ : List Str,(l.map (Sum.inr : Str -> Key)).foldl (λ σ v => if v ∈ σ then σ else σ ++ [v]) (σ.map Sum.inr) = (l.foldl (λ σ v => if v ∈ σ then σ else σ ++ [v]) σ).map Sum.inr := by
 induction l with
 | nil => intro σ; rfl
 | cons v l ih =>
  intro σ;rw [List.map_cons,List.foldl_cons,List.foldl_cons,<- ih]
  by_cases c : v ∈ σ
  . rw [if_pos (inr_mem.mpr c),if_pos c]
  . rw [if_neg (λ z => c (inr_mem.mp z)),if_neg c,List.map_append]; rfl
theorem first_inr (ys : List Str) : firstK (ys.map Sum.inr) = (firstS ys).map Sum.inr := firstK_inr ys []
theorem add_inr {z : Str} {zs : List Str} : (if (Sum.inr z : Key) ∈ zs.map Sum.inr then zs.map Sum.inr else zs.map Sum.inr ++ [Sum.inr z]) = (if z ∈ zs then zs else zs ++ [z]).map (Sum.inr : Str -> Key) := by
 by_cases c : z ∈ zs
 . rw [if_pos (inr_mem.mpr c),if_pos c]
 . rw [if_neg (λ q => c (inr_mem.mp q)),if_neg c,List.map_append]; rfl
theorem first_inl (ys : List Int) : ∃ zs : List Int,firstK (ys.map Sum.inl) = zs.map Sum.inl /\ zs.Nodup /\ ∀ x,x ∈ zs ↔ x ∈ ys := by
 have hm := firstK_mem (ys.map (Sum.inl : Int -> Key)) []
 have hn := firstK_nodup (ys.map (Sum.inl : Int -> Key)) [] List.nodup_nil
 have all : ∀ l : List Key,(∀ k ∈ l,∃ i,k = Sum.inl i) -> ∃ zs : List Int,l = zs.map Sum.inl := by
  intro l
  induction l with
  | nil => exact λ _ => ⟨[],rfl⟩
  | cons k l ih =>
   intro h;obtain ⟨i,rfl⟩ := h k List.mem_cons_self;obtain ⟨zs,rfl⟩ := ih λ k hk => h k (List.mem_cons_of_mem _ hk);exact ⟨i :: zs,rfl⟩
 obtain ⟨zs,e⟩ := all (firstK (ys.map Sum.inl)) λ k hk => by
  rcases (hm k).mp hk with z | z
  . cases z
  . obtain ⟨i,_,rfl⟩ := List.mem_map.mp z;exact ⟨i,rfl⟩
 refine ⟨zs,e,?_,λ x => ?_⟩
 . have q : (zs.map (Sum.inl : Int -> Key)).Nodup := by rw [<- e]; exact hn
   exact (List.pairwise_map.mp q).imp λ h z => h (by rw [z])
 . have q := hm (Sum.inl x);rw [show (ys.map (Sum.inl : Int -> Key)).foldl (λ σ v => if v ∈ σ then σ else σ ++ [v]) [] = firstK (ys.map Sum.inl) from rfl,e] at q;simpa using q
def SetQ (P : Program) (w : World) (a : Addr) (zs : List Str) : HO := .ext λ h => SetK P w (led0 w) h a (zs.map Sum.inr)
def SetN (P : Program) (w : World) (a : Addr) (zs : List Int) : HO := .ext λ h => SetK P w (led0 w) h a (zs.map Sum.inl)
theorem SetK.at_ {P : Program} {w : World} {b : Bool} {h : Heap} {a : Addr} {zs : List Key} (x : SetK P w b h a zs) : ∃ o,h.get? a = some o := let ⟨o,_,_,_,e,_⟩ := x; ⟨o,e⟩
theorem setQ_ok {P : Program} {w : World} {H : Hp} {h : Heap} {a : Addr} {zs : List Str} (x : SetK P w (led0 w) h a (zs.map Sum.inr)) : ObjOk P w H h a (SetQ P w a zs) := ⟨x,x.at_,λ _ _ y k => y.keep λ o e => k o e⟩
theorem setN_ok {P : Program} {w : World} {H : Hp} {h : Heap} {a : Addr} {zs : List Int} (x : SetK P w (led0 w) h a (zs.map Sum.inl)) : ObjOk P w H h a (SetN P w a zs) := ⟨x,x.at_,λ _ _ y k => y.keep λ o e => k o e⟩
theorem vals_inr {ys : List Str} {us : List Value} (h : Vals (ys.map V.str) us) : Vals ((ys.map (Sum.inr : Str -> Key)).map kV) us := by rw [List.map_map]; exact h
theorem vals_inl {ys : List Int} {us : List Value} (h : Vals (ys.map V.int) us) : Vals ((ys.map (Sum.inl : Int -> Key)).map kV) us := by rw [List.map_map]; exact h
theorem call_setQL (hc : X.calm = true) : CallR X (.type "set") (λ xs H Q => ∃ p ys,xs = [.ref p] /\ SqL X.K H p (ys.map V.str) /\ ys.length < 1000 /\ ∀ l,H l = none -> Q (.ref l) (upd H l (SetQ X.prog X.w l (firstS ys)))) := by
 intro pins s σ H xs us Q I r h
 obtain ⟨p,ys,rfl,hq,hz,q⟩ := h
 obtain ⟨u,rfl,rx⟩ := vals1 r
 cases rx
 obtain ⟨its,r',pl,hz'⟩ := I.list hq
 have hlen := r'.length
 rw [List.length_map] at hlen
 refine call_setK (P := X.prog) (w := X.w) ?hh pl.isList (vals_inr r') (by rw [List.size_toArray,<- hlen]; unfold scanBound; omega) λ h' tk x k => ?_
 case hh => exact I.ok.hd hc
 exact ⟨.ref s.heap.objs.size,_,I.laid (t' := tk) k (Nat.le_refl _) (setQ_ok (by rw [<- first_inr]; exact x)),rfl,q _ I.fresh⟩
theorem call_setNL (hc : X.calm = true) : CallR X (.type "set") (λ xs H Q => ∃ (p : Addr) (ys : List Int),xs = [.ref p] /\ SqL X.K H p (ys.map V.int) /\ ys.length < 1000 /\ ∀ (l : Addr) (zs : List Int),H l = none -> zs.Nodup -> (∀ x,x ∈ zs ↔ x ∈ ys) -> Q (.ref l) (upd H l (SetN X.prog X.w l zs))) := by
 intro pins s σ H xs us Q I r h
 obtain ⟨p,ys,rfl,hq,hz,q⟩ := h
 obtain ⟨u,rfl,rx⟩ := vals1 r
 cases rx
 obtain ⟨its,r',pl,hz'⟩ := I.list hq
 have hlen := r'.length
 rw [List.length_map] at hlen
 refine call_setK (P := X.prog) (w := X.w) ?hh pl.isList (vals_inl r') (by rw [List.size_toArray,<- hlen]; unfold scanBound; omega) λ h' tk x k => ?_
 case hh => exact I.ok.hd hc
 obtain ⟨zs,e1,e2,e3⟩ := first_inl ys
 exact ⟨.ref s.heap.objs.size,_,I.laid (t' := tk) k (Nat.le_refl _) (setN_ok (by rw [<- e1]; exact x)),rfl,q _ zs I.fresh e2 e3⟩
theorem call_sortedQ (hc : X.calm = true) : CallR X (.builtin "sorted") (λ xs H Q => ∃ p zs,xs = [.ref p] /\ H p = some (SetQ X.prog X.w p zs) /\ zs.length < 64 /\ ∀ l zs',H l = none -> zs'.Perm zs -> sortedS zs' = true -> Q (.ref l) (upd H l (.lst (zs'.map V.str)))) := by
 intro pins s σ H xs us Q I r h
 obtain ⟨p,zs,rfl,hq,hz,q⟩ := h
 obtain ⟨u,rfl,rx⟩ := vals1 r
 cases rx
 have hS : SetK X.prog X.w (led0 X.w) s.heap p (zs.map Sum.inr) := (I.hok p _ hq).1
 refine sorted_setKS ?hh hS hz λ s' l vs zs' k g o hl ⟨e,he⟩ a1 a2 a3 => ?_
 case hh => exact I.ok.hd hc
 have hz2 : (zs'.map V.str).length <= sizeLine := by
  have q : (64 : Nat) <= sizeLine := by rw [sizeLine_eq]; decide
  rw [List.length_map,a2.length_eq];omega
 have J : Inv X pins σ (upd H l (.lst (zs'.map V.str))) s' :=
  I.call' (ch := []) o (Un.laid k hl (I.hok.fresh hl)) (I.hok.laid k hl (show ObjOk X.prog X.w _ _ _ (.lst (zs'.map V.str)) from ⟨hz2,vs.toList,e,vals_strs a1,he⟩)) (by rw [g]; exact I.bare) (λ _ z => nomatch z)
 exact ⟨.ref l,_,J,rfl,q _ _ (I.hok.fresh hl) a2 a3⟩
theorem call_sortedN (hc : X.calm = true) : CallR X (.builtin "sorted") (λ xs H Q => ∃ (p : Addr) (zs : List Int),xs = [.ref p] /\ H p = some (SetN X.prog X.w p zs) /\ zs.length < 64 /\ ∀ (l : Addr) (zs' : List Int),H l = none -> zs'.Perm zs -> zs'.Pairwise (· <= ·) -> Q (.ref l) (upd H l (.lst (zs'.map V.int)))) := by
 intro pins s σ H xs us Q I r h
 obtain ⟨p,zs,rfl,hq,hz,q⟩ := h
 obtain ⟨u,rfl,rx⟩ := vals1 r
 cases rx
 have hS : SetK X.prog X.w (led0 X.w) s.heap p (zs.map Sum.inl) := (I.hok p _ hq).1
 refine sorted_setKI ?hh hS hz λ s' l vs zs' k g o hl ⟨e,he⟩ a1 a2 a3 => ?_
 case hh => exact I.ok.hd hc
 have hz2 : (zs'.map V.int).length <= sizeLine := by
  have q : (64 : Nat) <= sizeLine := by rw [sizeLine_eq]; decide
  rw [List.length_map,a2.length_eq];omega
 have J : Inv X pins σ (upd H l (.lst (zs'.map V.int))) s' :=
  I.call' (ch := []) o (Un.laid k hl (I.hok.fresh hl)) (I.hok.laid k hl (show ObjOk X.prog X.w _ _ _ (.lst (zs'.map V.int)) from ⟨hz2,vs.toList,e,vals_ints a1,he⟩)) (by rw [g]; exact I.bare) (λ _ z => nomatch z)
 exact ⟨.ref l,_,J,rfl,q _ _ (I.hok.fresh hl) a2 a3⟩
theorem call_setQT (hc : X.calm = true) : CallR X (.type "set") (λ xs H Q => ∃ p ys,xs = [.ref p] /\ SqT X.K H p (ys.map V.str) /\ ys.length < 1000 /\ ∀ l,H l = none -> Q (.ref l) (upd H l (SetQ X.prog X.w l (firstS ys)))) := by
 intro pins s σ H xs us Q I r h
 obtain ⟨p,ys,rfl,hq,hz,q⟩ := h
 obtain ⟨u,rfl,rx⟩ := vals1 r
 cases rx
 obtain ⟨its,r',pl,hz'⟩ := I.tuple hq
 have hlen := r'.length
 rw [List.length_map] at hlen
 obtain ⟨o,ho,hc1,n,hd⟩ := pl
 refine call_setKT (P := X.prog) (w := X.w) (I.ok.hd hc) ⟨o,ho,hc1,n,hd⟩ (vals_inr r') (by rw [List.size_toArray,<- hlen]; unfold scanBound; omega) λ h' tk x k => ?_
 exact ⟨.ref s.heap.objs.size,_,I.laid (t' := tk) k (Nat.le_refl _) (setQ_ok (by rw [<- first_inr]; exact x)),rfl,q _ I.fresh⟩
theorem call_setQ0 : CallR X (.type "set") (λ xs H Q => xs = [] /\ ∀ l,H l = none -> Q (.ref l) (upd H l (SetQ X.prog X.w l []))) := by
 intro pins s σ H xs us Q I r h
 obtain ⟨rfl,q⟩ := h
 cases r
 refine call_set0 ?_
 exact ⟨.ref s.heap.objs.size,_,I.laid (t' := s.toks) (λ b o e => Heap.get?_push_of_some _ e) (Nat.le_refl _) (setQ_ok (setK_new (Heap.get?_push_size _ rfl))),rfl,q _ I.fresh⟩
theorem call_set_anyQ (hc : X.calm = true) : CallR X (.type "set") (λ xs H Q => ((∃ p ys,xs = [.ref p] /\ SqL X.K H p (ys.map V.str) /\ ys.length < 1000 /\ ∀ l,H l = none -> Q (.ref l) (upd H l (SetQ X.prog X.w l (firstS ys)))) \/
 ∃ p ys,xs = [.ref p] /\ SqT X.K H p (ys.map V.str) /\ ys.length < 1000 /\ ∀ l,H l = none -> Q (.ref l) (upd H l (SetQ X.prog X.w l (firstS ys)))) \/
 ∃ (p : Addr) (ys : List Int),xs = [.ref p] /\ SqL X.K H p (ys.map V.int) /\ ys.length < 1000 /\ ∀ (l : Addr) (zs : List Int),H l = none -> zs.Nodup -> (∀ x,x ∈ zs ↔ x ∈ ys) -> Q (.ref l) (upd H l (SetN X.prog X.w l zs))) := ((call_setQL hc).or (call_setQT hc)).or (call_setNL hc)
theorem call_sorted_setQ (hc : X.calm = true) : CallR X (.builtin "sorted") (λ xs H Q => (∃ p zs,xs = [.ref p] /\ H p = some (SetQ X.prog X.w p zs) /\ zs.length < 64 /\ ∀ l zs',H l = none -> zs'.Perm zs -> sortedS zs' = true -> Q (.ref l) (upd H l (.lst (zs'.map V.str)))) \/
 ∃ (p : Addr) (zs : List Int),xs = [.ref p] /\ H p = some (SetN X.prog X.w p zs) /\ zs.length < 64 /\ ∀ (l : Addr) (zs' : List Int),H l = none -> zs'.Perm zs -> zs'.Pairwise (· <= ·) -> Q (.ref l) (upd H l (.lst (zs'.map V.int)))) := (call_sortedQ hc).or (call_sortedN hc)
theorem SetK.setOf {P : Program} {w : World} {b : Bool} {h : Heap} {a : Addr} {zs : List Key} (x : SetK P w b h a zs) : h.SetOf (mixKind P w) a (λ k => decide (k ∈ zs)) zs.length := by
 obtain ⟨o,es,ep,t,ho,hex,hd,hel,⟨us,hp,hs⟩,hnd,hb,hf,_,_⟩ := x
 have hsz : es.size = zs.length := by
  have e1 := hp.length_eq;rw [List.length_map,Array.length_toList] at e1;have e2 := hs.length;rw [List.length_map] at e2;omega
 refine ⟨o,es,ep,t,ho,hex,hd,hel,λ k => ?_,hb,hf,hsz⟩
 rw [SetK.mem (P := P) (w := w) hp hs k]
 exact decide_eq_true_iff
theorem op_in_setQ : OpR X (compareOp .In) (λ x y H Q => ∃ z p zs,x = .str z /\ y = .ref p /\ H p = some (SetQ X.prog X.w p zs) /\ Q (.bl (decide (z ∈ zs))) H) := by
 intro pins s σ H x y v u Q I rx ry h
 obtain ⟨z,p,zs,rfl,rfl,hH,q⟩ := h
 obtain ⟨t,rfl⟩ := rx
 cases ry
 have hS : SetK X.prog X.w (led0 X.w) s.heap p (zs.map Sum.inr) := (I.hok p _ hH).1
 exact wpAny_inSet_of (mixKind_str X.prog X.w z t) rfl hS.setOf ⟨.bl _,H,I.tok _,rfl,by rw [decide_eq_decide.mpr (inr_mem (z := z) (zs := zs))]; exact q⟩
theorem mt_addQ : MtM X "set.add" (λ x vs H Q => ∃ p z zs,x = .ref p /\ vs = [.str z] /\ H p = some (SetQ X.prog X.w p zs) /\ zs.length < 1000 /\ Q .non (upd H p (SetQ X.prog X.w p (if z ∈ zs then zs else zs ++ [z])))) := by
 intro pins s σ H x vs v us Q I rx rv h
 obtain ⟨p,z,zs,rfl,rfl,hH,hz,q⟩ := h
 cases rx
 obtain ⟨u,rfl,t,rfl⟩ := rv.one
 have hS : SetK X.prog X.w (led0 X.w) s.heap p (zs.map Sum.inr) := (I.hok p _ hH).1
 refine wpAny_call_entry PySem.F.slot_set_add hS.setOf.typeIs PySem.F.entry_set_add ?_ (PySem.F.args_set_add_2 _ _)
 refine (show wpAny _ _ (setAdd p (.str z t) >>= λ _ => ret .none) _ _ _ from wpAny_bind (kset_add (x := Sum.inr z) (u := .str z t) ⟨t,rfl⟩ hS (by rw [List.length_map]; unfold scanBound; omega) λ h' hb x => wpAny_pure ⟨_,rfl,?_⟩))
 refine ⟨.non,_,I.write (t' := s.toks + 1) (by rw [hH]; exact trivial) (.inl rfl) (λ b o' hb' e => (hb.2 b hb').trans e) x.at_ (setQ_ok (by rw [<- add_inr]; exact x)),rfl,q⟩
section
variable {o e : Expr} {es : List Expr} {to : TE} {t : TA} {name : Str} {apos cpos : Pos} {id : String} {r : V -> List V -> Hp -> VK -> Prop}
def tBMQ (P : Program) (w : World) (r : V -> List V -> Hp -> VK -> Prop) (to : TE) (t : TA) : TE := λ σ H Q => to σ H λ x H1 => (∃ p zs,x = .ref p /\ H1 p = some (SetQ P w p zs)) /\ t σ H1 λ xs H2 => r x xs H2 Q
theorem pe_bmQ (slot : Slot "set" name id) (hty : typeOf (.builtin id) = pure (.type "method_descriptor")) (hm : MtM X id r) (ho : PE X o to) (ha : PA X (e :: es) t)
 (hbase : attributeBase o name X.env (eval o X.env) = eval o X.env := by rfl)
 (hfew : ((backTo cpos (starEach (e :: es) X.env)).all (λ x => !x.1) && (backToKw cpos (keywordEach [] X.env)).all (λ x => x.1.isSome) && decide ((e :: es).length + ([] : List Keyword).length + (if ([] : List Keyword).isEmpty then 0 else 1) < 30)) = true := by rfl)
 (hline : (apos.endLine == cpos.line) = true := by rfl) (hs : starEach (e :: es) X.env = (false,eval e X.env) :: starEach es X.env := by rfl) (hplain : (backTo cpos (starEach es X.env)).any (·.1) = false := by rfl) :
 PE X (.Call (.Attribute o name apos) (e :: es) [] cpos) (tBMQ X.prog X.w r to t) := by
 intro pins s σ H Q I h
 refine wpAny_Call_method_late hbase hfew hline rfl (thn (ho pins s σ H _ I h) λ v s1 ⟨x,H1,I1,r1,⟨p,zs,ep,hH⟩,q1⟩ => ?_)
 subst ep
 cases r1
 have hS : SetK X.prog X.w (led0 X.w) s1.heap p (zs.map Sum.inr) := (I1.hok p _ hH).1
 refine ⟨"set",id,PySem.F.plainAttrs_set,slot,hty,hS.setOf.typeIs,hS.setOf.noDict,?_⟩
 have hA := ha cpos pins s1 σ H1 _ I1 q1
 rw [hs] at hA ⊢
 refine Calls.callWith_builtin (by show (false || (backTo cpos (starEach es X.env)).any (·.1)) = false; rw [hplain] <;> rfl) (Calls.evalArgs_plain (thn hA λ us s2 ⟨vs,H2,I2,r2,q2⟩ => hm pins s2 σ H2 (.ref p) vs _ us Q I2 rfl r2 q2))
end
end L2
namespace TX
open PySem PySem.Builtin.Str PySem.Calls
section
variable {prog : Program} {w : World} {A : Around} {E : Value -> Shared -> Prop} {s : Shared}
end
end TX
namespace TX
open PySem PySem.Builtin.Str PySem.Calls
section
variable {prog : Program} {w : World} {A : Around} {E : Value -> Shared -> Prop} {s : Shared}
end
end TX
namespace L2
open PySem PySem.Spec PyProof.Rows
variable {X : Cx} {w : World} {A : Around}
theorem rc_ints {pins : List (Addr × Obj)} {σ : St} {H : Hp} {s : Shared} {A : Around} {a b : Addr} {zs : List Int} (I : Inv X pins σ H s) (hu : A.units < cLine) (h1 : SqL X.K H a (zs.map V.int)) (h2 : SqL X.K H b (zs.map V.int)) :
 SeqAt.RcAt A s (.ref a) (.ref b) true /\ SeqAt.RcNeAt A s (.ref a) (.ref b) false := by
 obtain ⟨its1,rv1,pl1,_⟩ := I.list h1
 obtain ⟨its2,rv2,pl2,_⟩ := I.list h2
 have l1 := rv1.length
 have l2 := rv2.length
 rw [List.length_map] at l1 l2
 have he : ∀ (j : Nat) (j1 : j < its1.toArray.size) (j2 : j < its2.toArray.size),SeqAt.EqAt A.in1 s its1.toArray[j] its2.toArray[j] ((λ _ => true) j) := λ j j1 j2 => by
  have k1 : j < zs.length := by rw [l1]; simpa using j1
  obtain ⟨u1,e1,r1⟩ := rv1.get (i := j) (x := V.int zs[j]) (by rw [List.getElem?_map,List.getElem?_eq_getElem k1]; rfl);obtain ⟨u2,e2,r2⟩ := rv2.get (i := j) (x := V.int zs[j]) (by rw [List.getElem?_map,List.getElem?_eq_getElem k1]; rfl);have g1 : its1.toArray[j] = u1 := by
   have := List.getElem?_eq_some_iff.mp e1;simpa using this.2
  have g2 : its2.toArray[j] = u2 := by
   have := List.getElem?_eq_some_iff.mp e2;simpa using this.2
  rw [g1,g2];obtain ⟨t1,rfl⟩ := r1;obtain ⟨t2,rfl⟩ := r2;have q := SeqAt.EqAt.int_int (A := A.in1) (s := s) zs[j] t1 zs[j] t2;rw [beq_self_eq_true] at q;exact q
 have hs : its1.toArray.size = its2.toArray.size := by simp; omega
 have rc := SeqAt.RcAt.lists (A := A) (s := s) pl1.isList pl2.isList hs hu he
 have rn := SeqAt.RcNeAt.lists (A := A) (s := s) pl1.isList pl2.isList hs hu he
 have ea : ((List.range its1.toArray.size).all λ j => (λ _ => true) j) = true := by simp
 rw [ea] at rc rn
 exact ⟨rc,rn⟩
def rSameI (K : W.Frag) (c : Bool) : R2 := λ x y H Q => ∃ (a b : Addr) (zs : List Int),x = .ref a /\ y = .ref b /\ SqL K H a (zs.map V.int) /\ SqL K H b (zs.map V.int) /\ Q (.bl c) H
theorem op_neLI (hu : X.A.units < cLine) : OpR X (compareOp .NotEq) (rSameI X.K false) := by
 intro pins s σ H x y v u Q I rx ry h
 obtain ⟨a,b,zs,rfl,rfl,h1,h2,q⟩ := h
 cases rx
 cases ry
 exact (rc_ints I hu h1 h2).2 _ _ _ _ ⟨.bl _,H,I,rfl,q⟩
def DataAt (P : Program) (w : World) (H : Hp) (x : V) (d : PyData) : Prop := ∀ h u,HOk P w H h -> RelV x u -> ∃ as,Reads h u d as
section
variable {P : Program} {H : Hp}
theorem DataAt.int (i : Int) : DataAt P w H (.int i) (.int i) := λ h u _ r => by
 obtain ⟨t,rfl⟩ := r
 exact ⟨_,.int i t⟩
theorem DataAt.str (x : Str) : DataAt P w H (.str x) (.str x) := λ h u _ r => by
 obtain ⟨t,rfl⟩ := r
 exact ⟨_,.str x t⟩
theorem DataAt.bool (b : Bool) : DataAt P w H (.bl b) (.bool b) := λ h u _ r => by
 cases r
 exact ⟨_,.bool b⟩
theorem DataAt.all {xs : List V} {ds : List PyData} (q : Paired (DataAt P w H) xs ds) {h : Heap} (ok : HOk P w H h) : ∀ {us : List Value},Vals xs us -> ∃ as,ReadsAll h us ds as := by
 induction q with
 | nil => intro us r; cases r; exact ⟨_,.nil⟩
 | cons e _ ih =>
  intro us r;cases r with
  | cons r1 r2 =>
   obtain ⟨as,z1⟩ := e h _ ok r1;obtain ⟨bs,z2⟩ := ih r2;exact ⟨_,.cons z1 z2⟩
theorem DataAt.lst {a : Addr} {xs : List V} {ds : List PyData} (e : H a = some (.lst xs)) (q : Paired (DataAt P w H) xs ds) : DataAt P w H (.ref a) (.list ds) := λ h u ok r => by
 cases r
 obtain ⟨_,its,n,rv,z⟩ := ok _ _ e
 obtain ⟨as,zs⟩ := DataAt.all q ok rv
 exact ⟨_,.list z rfl rfl zs⟩
theorem DataAt.tup {a : Addr} {xs : List V} {ds : List PyData} (e : Rd H a (.tup xs)) (q : Paired (DataAt P w H) xs ds) : DataAt P w H (.ref a) (.tuple ds) := λ h u ok r => by
 cases r
 obtain ⟨_,its,rv,o,z,e1,n,e2⟩ := e.ok ok
 obtain ⟨as,zs⟩ := DataAt.all q ok rv
 exact ⟨_,.tuple z e1 e2 zs⟩
def DataN (H : Hp) : Nat -> V -> PyData -> Prop
 | 0,x,d => (∃ i,x = .int i /\ d = .int i) \/ (∃ s,x = .str s /\ d = .str s) \/ ∃ b,x = .bl b /\ d = .bool b
 | n + 1,x,d => DataN H n x d \/ ∃ a xs ds,x = .ref a /\ ((H a = some (.lst xs) /\ d = .list ds) \/ (Rd H a (.tup xs) /\ d = .tuple ds)) /\ Paired (DataN H n) xs ds
theorem DataN.at : ∀ {n : Nat} {x : V} {d : PyData},DataN H n x d -> DataAt P w H x d := by
 intro n
 induction n with
 | zero =>
  intro x d h
  rcases h with ⟨i,rfl,rfl⟩ | ⟨s,rfl,rfl⟩ | ⟨b,rfl,rfl⟩
  . exact DataAt.int i
  . exact DataAt.str s
  . exact DataAt.bool b
 | succ n ih =>
  intro x d h
  rcases h with h | ⟨a,xs,ds,rfl,h,q⟩
  . exact ih h
  . have q' := Paired.mapP q λ _ _ z => ih z
    rcases h with ⟨h,rfl⟩ | ⟨h,rfl⟩
    . exact DataAt.lst h q'
    . exact DataAt.tup h q'
theorem DataN.up {n : Nat} {x : V} {d : PyData} (h : DataN H n x d) : DataN H (n + 1) x d := .inl h
theorem DataN.int (n : Nat) (i : Int) : DataN H n (.int i) (.int i) := by
 induction n with
 | zero => exact .inl ⟨i,rfl,rfl⟩
 | succ n ih => exact .inl ih
theorem DataN.str (n : Nat) (x : Str) : DataN H n (.str x) (.str x) := by
 induction n with
 | zero => exact .inr (.inl ⟨x,rfl,rfl⟩)
 | succ n ih => exact .inl ih
theorem DataN.lst {n : Nat} {a : Addr} {xs : List V} {ds : List PyData} (h : H a = some (.lst xs)) (q : Paired (DataN H n) xs ds) : DataN H (n + 1) (.ref a) (.list ds) := .inr ⟨a,xs,ds,rfl,.inl ⟨h,rfl⟩,q⟩
theorem DataN.tup {n : Nat} {a : Addr} {xs : List V} {ds : List PyData} (h : H a = some (.tup xs)) (q : Paired (DataN H n) xs ds) : DataN H (n + 1) (.ref a) (.tuple ds) := .inr ⟨a,xs,ds,rfl,.inr ⟨.inl h,rfl⟩,q⟩
theorem DataN.tupR {n : Nat} {a : Addr} {xs : List V} {ds : List PyData} (h : Rd H a (.tup xs)) (q : Paired (DataN H n) xs ds) : DataN H (n + 1) (.ref a) (.tuple ds) := .inr ⟨a,xs,ds,rfl,.inr ⟨h,rfl⟩,q⟩
theorem DataN.ints (n : Nat) (is : List Int) : Paired (DataN H n) (is.map V.int) (is.map .int) := by
 induction is with
 | nil => exact .nil
 | cons i r ih => exact .cons (DataN.int n i) ih
theorem DataN.strs (n : Nat) (xs : List Str) : Paired (DataN H n) (xs.map V.str) (xs.map .str) := by
 induction xs with
 | nil => exact .nil
 | cons x r ih => exact .cons (DataN.str n x) ih
structure Sm (n w : Nat) (d : PyData) : Prop where
 sh : d.showable = true
 nd : d.hasDict = false
 lv : d.leavesShort 13 = true
 dp : d.depth <= n
 wt : d.weight <= w
theorem Sm.mono {n w n' w' : Nat} {d : PyData} (h : Sm n w d) (a : n <= n') (b : w <= w') : Sm n' w' d := ⟨h.sh,h.nd,h.lv,Nat.le_trans h.dp a,Nat.le_trans h.wt b⟩
theorem Sm.all {n w : Nat} : ∀ {ds : List PyData},(∀ d ∈ ds,Sm n w d) -> PyData.showableAll ds = true /\ PyData.hasDictAll ds = false /\ PyData.leavesShortAll 13 ds = true /\ PyData.depthAll ds <= n /\ PyData.weightAll ds <= ds.length * (w + 1) := by
 intro ds
 induction ds with
 | nil => intro _; exact ⟨rfl,rfl,rfl,Nat.zero_le _,Nat.zero_le _⟩
 | cons d ds ih =>
  intro h;have h1 := h d (List.mem_cons_self ..);obtain ⟨a,b,c,e,f⟩ := ih λ x hx => h x (List.mem_cons_of_mem _ hx);refine ⟨?_,?_,?_,?_,?_⟩
  . rw [PyData.showableAll,h1.sh,a]; rfl
  . rw [PyData.hasDictAll,h1.nd,b]; rfl
  . rw [PyData.leavesShortAll,h1.lv,c]; rfl
  . rw [PyData.depthAll]; exact Nat.max_le.mpr ⟨h1.dp,e⟩
  . rw [PyData.weightAll,List.length_cons,Nat.succ_mul,Nat.add_comm (ds.length * (w + 1))];exact Nat.add_le_add (Nat.add_le_add_right h1.wt 1) f
theorem Sm.list {n w m : Nat} {ds : List PyData} (h : ∀ d ∈ ds,Sm n w d) (hm : ds.length * (w + 1) <= m) : Sm (n + 1) m (.list ds) := by
 obtain ⟨a,b,c,e,f⟩ := Sm.all h
 exact ⟨by rw [PyData.showable]; exact a,by rw [PyData.hasDict]; exact b,by rw [PyData.leavesShort]; exact c,by rw [PyData.depth]; exact Nat.succ_le_succ e,by rw [PyData.weight]; exact Nat.le_trans f hm⟩
theorem Sm.tuple {n w m : Nat} {ds : List PyData} (h : ∀ d ∈ ds,Sm n w d) (hm : ds.length * (w + 1) <= m) : Sm (n + 1) m (.tuple ds) := by
 obtain ⟨a,b,c,e,f⟩ := Sm.all h
 exact ⟨by rw [PyData.showable]; exact a,by rw [PyData.hasDict]; exact b,by rw [PyData.leavesShort]; exact c,by rw [PyData.depth]; exact Nat.succ_le_succ e,by rw [PyData.weight]; exact Nat.le_trans f hm⟩
theorem Sm.int {w : Nat} {i : Int} (h1 : -(100000000000 : Int) <= i) (h2 : i <= 100000000000) (hw : 40 <= w) : Sm 0 w (.int i) := by
 have ha : i.natAbs < 10 ^ 12 := by
  have e : (10 : Nat) ^ 12 = 1000000000000 := by decide
  rw [e]; omega
 have hb : i.natAbs.log2 < 40 := by
  rcases Nat.eq_zero_or_pos i.natAbs with z | z
  . rw [z]; decide
  . refine (Nat.log2_lt (Nat.pos_iff_ne_zero.mp z)).mpr (Nat.lt_trans ha ?_)
    decide
 refine ⟨by rw [PyData.showable]; exact decide_eq_true (Nat.lt_trans hb (by decide)),rfl,?_,Nat.le_refl _,?_⟩
 . rw [PyData.leavesShort];exact decide_eq_true (PyData.shown_int_le ha)
 . rw [PyData.weight]
   split
   . exact Nat.zero_le _
   . exact Nat.le_trans hb hw
theorem Sm.str {w : Nat} {x : Str} (h : ∀ c ∈ x.cps.toList,c < 4294967296) (hw : x.length <= w) : Sm 0 w (.str x) :=
 ⟨rfl,rfl,by
  rw [PyData.leavesShort,List.all_eq_true];exact λ c hc => decide_eq_true (h c hc),Nat.le_refl _,by rw [PyData.weight]; exact hw⟩
end
def rRepr : List V -> Hp -> VK -> Prop := λ xs H Q => ∃ (a : Addr) (n : Nat) (d : PyData),xs = [.ref a] /\ DataN H n (.ref a) d /\ Sm 8 1048576 d /\ Q (.str d.shown) H
theorem call_repr (hg : X.A.guards = some []) (hu : X.A.units + 64 < cLine) : CallR X (.builtin "repr") rRepr := by
 intro pins s σ H xs us Q I r h
 obtain ⟨a,n,d,rfl,hd,sm,q⟩ := h
 obtain ⟨u,rfl,rx⟩ := Vals.one r
 cases rx
 obtain ⟨as,rd⟩ := hd.at _ _ I.hok rfl
 have h8 := sm.dp
 exact repr_of_reads' rd sm.sh (λ z => absurd (sm.nd.symm.trans z) Bool.false_ne_true) hg (by omega) (λ _ _ e => e) (λ h' u tk k => ⟨.str d.shown,_,I.kept k,⟨u,rfl⟩,q⟩)
  (PyData.shown_fits (B := 13) (by decide) (by decide) sm.lv sm.wt)
section
variable {Md : Model} {E : Value -> Shared -> Prop} {C M D : Addr}
variable {nm q nm' q' : Str} {N N' : Addr} {bs bs' sub sub' : List Value} {hdct hdct' : Bool} {sn sn' : List Str} {ab ab' : Bool} {col col' : Option Bool} {dd dd' : Option Addr} {k0 k1 k2 k3 k5 j0 j1 j2 j3 j5 : Option Value} {newId newId' : String}
end
section
variable {C M : Addr} {RX : Addr -> List (Str × V) -> Hp -> Prop}
end
theorem wpAny_forIn_rng {M : Model} {A : Around} {E : Value -> Shared -> Prop} {s : Shared} {β : Type} {n : Nat} (f : Nat -> β -> Sem (ForInStep β)) (I : List Nat -> β -> Shared -> Prop) (Q : β -> Shared -> Prop)
 (turn : ∀ x rest b s,I (x :: rest) b s -> wpAny M A (f x b) (λ r s' => match r with | .yield b' => I rest b' s' | .done b' => Q b' s') E s) (fin : ∀ b s,I [] b s -> Q b s) (b : β) (h : I (List.range' 0 n) b s) : wpAny M A (forIn [:n] b f) Q E s := by
 rw [Std.Legacy.Range.forIn_eq_forIn_range']
 simp only [Std.Legacy.Range.size,Nat.sub_zero,Nat.add_sub_cancel,Nat.div_one]
 exact wpAny_forIn_list f I Q turn fin _ b h
theorem tuple_index (l : Addr) (items : Array Value) (n : Nat) (dd : Option Addr) (sl : Array (Option Value)) (x : Value) (e : Value -> Bool) (he : ∀ y,y ∈ items -> MeetsSeq.EqGives y x (e y)) (j : Nat) (hj : j < items.size)
 (hit : e items[j] = true) (hno : ∀ m (hm : m < items.size),m < j -> e items[m] = false) :
 Meets (Builtin.«tuple.index» ⟨[.ref l,x],[]⟩)
  (λ _ R s => s.heap.get? l = some { cls := .type "tuple",dict := dd,data := .seq items n,slots := sl } /\ R (.ok (.ret (.int j s.toks))) { s with toks := s.toks + 1 }) :=
 .of_wp λ prog w A R s h => by
  obtain ⟨hp,g,d,tk,os⟩ := s; obtain ⟨hl,h⟩ := h
  wp_walk using wpAny_loadPart' hl,wpAny_forIn_rng _ (λ rest b s' => b.1 = none /\ s' = ⟨hp,g,d,tk,os⟩ /\ ∃ i,i <= j /\ rest = List.range' i (items.size - i)) _
  case turn =>
   rintro y rest b s' ⟨hb,rfl,i,hi,hr⟩;have hlt : i < items.size := by omega
   obtain ⟨rfl,hrest⟩ : y = i /\ rest = List.range' (i + 1) (items.size - (i + 1)) := by
    have e : items.size - i = (items.size - (i + 1)) + 1 := by omega
    rw [e,List.range'_succ] at hr;injection hr with h1 h2
    exact ⟨h1,h2⟩
   rw [Array.getElem?_eq_getElem hlt];refine wpAny_bind (he _ (Array.getElem_mem hlt) prog w _ _ _ _ ?_)
   rcases Nat.lt_or_ge y j with hyj | hyj
   . rw [hno y hlt hyj]
     wp_walk
     exact ⟨rfl,rfl,y + 1,hyj,hrest⟩
   . have ey : y = j := by omega
     subst ey;rw [hit]
     wp_walk
     exact ⟨_,rfl,h⟩
  case fin =>
   rintro ⟨b1,b2⟩ s' ⟨hb,rfl,i,hi,hr⟩
   exfalso
   have e : items.size - i = (items.size - (i + 1)) + 1 := by omega
   rw [e,List.range'_succ] at hr;cases hr
  case h =>
   exact ⟨rfl,rfl,0,Nat.zero_le _,by simp⟩
def rIdxT (K : W.Frag) : V -> List V -> Hp -> VK -> Prop := λ x vs H Q => ∃ (l : Addr) (z : Str) (zs : List Str),x = .ref l /\ vs = [.str z] /\ SqT K H l (zs.map V.str) /\ z ∈ zs /\ Q (.int (zs.idxOf z : Nat)) H
theorem mt_indexT : MtM X "tuple.index" (rIdxT X.K) := by
 intro pins s σ H x vs v us Q I rx rv h
 obtain ⟨l,z,zs,rfl,rfl,hH,hz,q⟩ := h
 cases rx
 obtain ⟨u,rfl,ru⟩ := rv.one
 obtain ⟨t,rfl⟩ := ru
 obtain ⟨its,r,⟨o,e,e1,n,e2⟩,hz'⟩ := I.tuple hH
 obtain ⟨hj,h1,h2⟩ := first_is r hz
 obtain ⟨cls,dd,dat,sl⟩ := o
 cases e1
 cases e2
 refine call_meets F.slot_tuple_index ⟨_,e,rfl⟩ F.entry_tuple_index (F.args_tuple_index_2 _ _) (tuple_index l its.toArray n dd sl (.str z t) (sameS z) (gives_str r) _ hj h1 h2) ⟨e,?_⟩
 exact ⟨.int _,H,I.tok _,⟨_,rfl⟩,q⟩
section
variable {prog : Program} {E : Value -> Shared -> Prop} {s : Shared}
end
section
variable {pos : Pos}
variable {x : Str} {p : Pos} {f : Addr} {fd : FuncData} {k i : Nat} {ps : List Str} {sp : Sp} {CX : CXT} {ds : List Value} {dvs : List V} {E : XK} {e : Expr} {es : List Expr} {t : TA}
end
def TupF (H : Hp) (a : Addr) (xs : List V) : Prop := ∃ o : Obj,H a = some (.frz o (.tup xs)) /\ o.dict = none /\ o.cls = .type "tuple"
theorem TupF.same {H H' : Hp} {a : Addr} {xs : List V} (h : TupF H a xs) (k : ∀ b o,H b = some o -> H' b = some o) : TupF H' a xs := let ⟨o,e,r⟩ := h; ⟨o,k _ _ e,r⟩
theorem TupF.sq {K : W.Frag} {H : Hp} {a : Addr} {xs : List V} (h : TupF H a xs) : SqT K H a xs := let ⟨o,e,_⟩ := h; .inl (.inr ⟨o,e⟩)
section
theorem call_tupleF : CallR X (.type "tuple") (λ xs H Q => ∃ p ys,xs = [.ref p] /\ SqL X.K H p ys /\ ∀ (l : Addr) (o : Obj),H l = none -> o.dict = none -> o.cls = .type "tuple" -> Q (.ref l) (upd H l (.frz o (.tup ys)))) := by
 intro pins s σ H xs us Q I r h
 obtain ⟨p,ys,rfl,hq,q⟩ := h
 obtain ⟨u,rfl,rx⟩ := vals1 r
 cases rx
 obtain ⟨its,r',pl,hz⟩ := I.list hq
 have hlen := r'.length
 refine call_tuple_list pl.isList (λ h' kp => ?_) (by simp only [List.size_toArray] <;> omega)
 have I1 : Inv X pins σ H { s with heap := h' } := I.kept (t' := s.toks) kp
 have I2 : Inv X pins σ (upd H h'.objs.size (.frz { cls := .type "tuple",data := .seq its.toArray } (.tup ys))) { s with heap := h'.push { cls := .type "tuple",data := .seq its.toArray } } :=
  I1.laid (t' := s.toks) (λ b o e => Heap.get?_push_of_some _ e) (Nat.le_refl _) (show ObjOk X.prog X.w _ _ _ (.frz _ (.tup ys)) from ⟨Heap.get?_push_size _ rfl,hz,its,r',IsTup.new _ _⟩)
 exact ⟨.ref h'.objs.size,_,I2,rfl,q _ _ (I1.hok.fresh (Nat.le_refl _)) rfl rfl⟩
variable {o e : Expr} {es : List Expr} {to : TE} {t : TA} {name : Str} {apos cpos : Pos} {id : String} {r : V -> List V -> Hp -> VK -> Prop}
def tBMF (r : V -> List V -> Hp -> VK -> Prop) (to : TE) (t : TA) : TE := λ σ H Q => to σ H λ x H1 => (∃ p xs,x = .ref p /\ TupF H1 p xs) /\ t σ H1 λ xs H2 => r x xs H2 Q
theorem pe_bmF (slot : Slot "tuple" name id) (hty : typeOf (.builtin id) = pure (.type "method_descriptor")) (hm : MtM X id r) (ho : PE X o to) (ha : PA X (e :: es) t)
 (hbase : attributeBase o name X.env (eval o X.env) = eval o X.env := by rfl)
 (hfew : ((backTo cpos (starEach (e :: es) X.env)).all (λ x => !x.1) && (backToKw cpos (keywordEach [] X.env)).all (λ x => x.1.isSome) && decide ((e :: es).length + ([] : List Keyword).length + (if ([] : List Keyword).isEmpty then 0 else 1) < 30)) = true := by rfl)
 (hline : (apos.endLine == cpos.line) = true := by rfl) (hs : starEach (e :: es) X.env = (false,eval e X.env) :: starEach es X.env := by rfl) (hplain : (backTo cpos (starEach es X.env)).any (·.1) = false := by rfl) :
 PE X (.Call (.Attribute o name apos) (e :: es) [] cpos) (tBMF r to t) := by
 intro pins s σ H Q I h
 refine wpAny_Call_method_late hbase hfew hline rfl (thn (ho pins s σ H _ I h) λ v s1 ⟨x,H1,I1,r1,⟨p,xs,ep,ob,hH,hd,hc⟩,q1⟩ => ?_)
 subst ep
 cases r1
 have hO : s1.heap.get? p = some ob := (I1.hok p _ hH).1
 refine ⟨"tuple",id,PySem.F.plainAttrs_tuple,slot,hty,⟨ob,hO,hc⟩,λ a ea => ?_,?_⟩
 . cases ea;exact ⟨ob,hO,hd⟩
 have hA := ha cpos pins s1 σ H1 _ I1 q1
 rw [hs] at hA ⊢
 refine Calls.callWith_builtin (by show (false || (backTo cpos (starEach es X.env)).any (·.1)) = false; rw [hplain] <;> rfl) (Calls.evalArgs_plain (thn hA λ us s2 ⟨vs,H2,I2,r2,q2⟩ => hm pins s2 σ H2 (.ref p) vs _ us Q I2 rfl r2 q2))
end
section
variable {prog : Program} {E : Value -> Shared -> Prop} {s : Shared}
theorem wpAny_collect_range {Q : List Value -> Shared -> Prop} {r : Addr} {a b c : Int} {t u v : Tok} {n : Nat} (hh : A.handled = none) (hr : IsRange s.heap r a b c t u v) (hsmall : Builtin.Range.small a b c = true)
 (hn : Builtin.Range.rangeSize a b c = n) (hlen : n <= 2 ^ 24)
 (hQ : ∀ h' tk acc,(∀ b o,s.heap.get? b = some o -> h'.get? b = some o) -> ItemsOf (λ i v => ∃ t,v = .int (a + i * c) t) acc n -> Q acc.toList { s with heap := h',toks := tk }) : wpAny (model prog w) A (collect (.ref r)) Q E s := by
 unfold collect
 refine wpAny_bind (wpAny_runValue (codeAny_builtin F.entry_proto_collect ?_))
 rw [Around.under_plainId F.plain_proto_collect _]
 show wpAny _ A.in1 (newList [] >>= λ l => again (.builtin "list.__iadd__" ⟨[l,.ref r],[]⟩)) _ _ s
 refine wpAny_bind (wpAny_newObj_type ?_)
 have hS₁ : (s.heap.push { cls := .type "list",data := .seq ([] : List Value).toArray }).get? s.heap.objs.size = some { cls := .type "list",data := .seq ([] : List Value).toArray } := Heap.get?_push_size _ rfl
 have key : ∀ R : Result -> Shared -> Prop,(∀ h' tk acc' c',(∀ b o,b ≠ s.heap.objs.size -> (s.heap.push { cls := .type "list",data := .seq ([] : List Value).toArray }).get? b = some o -> h'.get? b = some o) -> h'.get? s.heap.objs.size = some { cls := .type "list",dict := none,data := .seq acc' c',slots := #[] } -> ItemsOf (λ i v => ∃ t,v = .int (a + i * c) t) acc' n -> R (.ok (.ret (.ref s.heap.objs.size))) { s with heap := h',toks := tk }) ->
  codeAny (model prog w) A (.builtin "list.__iadd__" ⟨[.ref s.heap.objs.size,.ref r],[]⟩) R { s with heap := s.heap.push { cls := .type "list",data := .seq ([] : List Value).toArray } } := λ R hR => by
  refine codeAny_builtin F.entry_list_iadd ?_;rw [Around.under_plainId F.plain_list_iadd _];show wpAny _ A.in1 (Builtin.List.listExtendWith (.ref s.heap.objs.size) (.ref r) (.ref s.heap.objs.size)) _ _ _;exact wpAny_extend_range (s := { s with heap := s.heap.push { cls := .type "list",data := .seq ([] : List Value).toArray } }) (A := A) (R := R) hh (Heap.get?_push_of_some _ hr) hsmall hn hlen s.heap.objs.size (.ref s.heap.objs.size) 0 hS₁ hR
 refine wpAny_pure ⟨plainId_quiet F.plain_list_iadd _,key _ λ h' tk acc' c' hk hS' hacc => ?_⟩
 show wpAny _ A (load s.heap.objs.size >>= _) _ _ _
 refine wpAny_bind (wpAny_load hS' ?_)
 exact wpAny_pure (hQ h' tk acc' (λ b o e => hk b o (Nat.ne_of_lt (Heap.lt_size e)) (Heap.get?_push_of_some _ e)) hacc)
end
theorem meets_tuple_new_range (r : Addr) (a b : Int) (t u v : Tok) (n : Nat) (hsmall : Builtin.Range.small a b 1 = true) (hn : Builtin.Range.rangeSize a b 1 = n) (hlen : n <= 2 ^ 24) :
 Meets (Builtin.«tuple.__new__» ⟨[.type "tuple",.ref r],[]⟩)
  (λ A R s => A.handled = none /\ IsRange s.heap r a b 1 t u v /\ ∀ (h' : Heap) (tk : Nat) (acc : Array Value),(∀ b o',s.heap.get? b = some o' -> h'.get? b = some o') -> ItemsOf (λ i v => ∃ t,v = .int (a + i * 1) t) acc n -> R (.ok (.ret (.ref h'.objs.size))) { s with heap := h'.push { cls := .type "tuple",data := .seq acc },toks := tk }) :=
 .of_wp λ prog w A R s h => by
  obtain ⟨hp,g,d,tk,os⟩ := s; obtain ⟨hh,ht,h⟩ := h;have hsub := sub_tuple_self;have hinit := init_tuple_lookup;have hmh := madeHere_tuple;have hT : Shared.TypeIs ⟨hp,g,d,tk,os⟩ (.ref r) "range" := ⟨_,ht,rfl⟩
  wp_walk using wpAny_loadPart' ht,wpAny_typeOf hT,wpAny_collect_range (A := A.in1) hh ht hsmall hn hlen
  intro h' tk' acc hk hacc;have hsz : acc.size <= sizeLine := by rw [hacc.1,sizeLine_eq]; omega
  show wpAny _ _ (Builtin.Tuple.tupleExact acc.toList.toArray >>= λ v => ret v) _ _ _
  unfold Builtin.Tuple.tupleExact;refine wpAny_bind (wpAny_newObj_type ?_ (by show acc.toList.toArray.size <= sizeLine; simpa using hsz));refine wpAny_pure ⟨_,rfl,?_⟩;have e : acc.toList.toArray = acc := by simp
  rw [e];exact h h' tk' acc hk hacc
def rngV (lo hi : Int) : List V := (List.range (hi - lo).toNat).map λ k : Nat => V.int (lo + k)
theorem vals_rng {lo hi : Int} {acc : Array Value} (h : ItemsOf (λ i v => ∃ t,v = Value.int (lo + i * 1) t) acc (hi - lo).toNat) : Vals (rngV lo hi) acc.toList := by
 have key : ∀ (n : Nat) (l : List Value) (k : Nat),l.length = n -> (∀ j v,l[j]? = some v -> ∃ t,v = Value.int (lo + ((k + j : Nat) : Int)) t) -> Vals ((List.range' k n).map λ i : Nat => V.int (lo + i)) l := by
  intro n
  induction n with
  | zero =>
   intro l k hl _;rw [List.length_eq_zero_iff.mp hl]; exact .nil
  | succ n ih =>
   intro l k hl hv;cases l with
   | nil => cases hl
   | cons x r =>
    rw [List.range'_succ,List.map_cons];obtain ⟨t,ht⟩ := hv 0 x rfl;refine .cons ⟨t,ht⟩ (ih r (k + 1) (Nat.succ.inj hl) λ j v e => ?_);obtain ⟨t',ht'⟩ := hv (j + 1) v e;exact ⟨t',by rw [ht',show k + (j + 1) = k + 1 + j by omega]⟩
 rw [rngV,List.range_eq_range']
 refine key _ _ 0 (by rw [Array.length_toList]; exact h.1) λ j v e => ?_
 obtain ⟨t,ht⟩ := h.2 j v (by rw [<- Array.getElem?_toList]; exact e)
 exact ⟨t,by rw [ht,Nat.zero_add,Int.mul_one]⟩
theorem call_rangeV1 : CallR X (.type "range") (λ xs H Q => ∃ n : Int,xs = [.int n] /\ ∀ p,H p = none -> Q (.ref p) (upd H p (.rng 0 n))) := by
 intro pins s σ H xs us Q I r h
 obtain ⟨n,rfl,q⟩ := h
 obtain ⟨u,rfl,ru⟩ := Vals.one r
 obtain ⟨t,rfl⟩ := ru
 refine call_range_1 ?_
 exact ⟨.ref s.heap.objs.size,_,I.laid (o := .rng 0 n) (λ _ _ e => Heap.get?_push_of_some _ e) (Nat.le_refl _) ⟨_,_,_,Heap.get?_push_size _ rfl⟩,rfl,q _ I.fresh⟩
theorem call_rangeV2 : CallR X (.type "range") (λ xs H Q => ∃ m n : Int,xs = [.int m,.int n] /\ ∀ p,H p = none -> Q (.ref p) (upd H p (.rng m n))) := by
 intro pins s σ H xs us Q I r h
 obtain ⟨m,n,rfl,q⟩ := h
 obtain ⟨u,v,rfl,ru,rv⟩ := Vals.two r
 obtain ⟨t,rfl⟩ := ru
 obtain ⟨t',rfl⟩ := rv
 refine call_range_2 ?_
 exact ⟨.ref s.heap.objs.size,_,I.laid (o := .rng m n) (λ _ _ e => Heap.get?_push_of_some _ e) (Nat.le_refl _) ⟨_,_,_,Heap.get?_push_size _ rfl⟩,rfl,q _ I.fresh⟩
def rSeqR (mk : List V -> HO) : List V -> Hp -> VK -> Prop := λ xs H Q => ∃ (r : Addr) (lo hi : Int),xs = [.ref r] /\ H r = some (.rng lo hi) /\ 0 <= lo /\ lo <= 1000 /\ 0 <= hi /\ hi <= 1000 /\ ∀ l,H l = none -> Q (.ref l) (upd H l (mk (rngV lo hi)))
theorem rng_size {lo hi : Int} : Builtin.Range.rangeSize lo hi 1 = ((hi - lo).toNat : Nat) := by rw [rangeSize_one]; split <;> omega
theorem rngV_length (lo hi : Int) : (rngV lo hi).length = (hi - lo).toNat := by rw [rngV,List.length_map,List.length_range]
theorem call_tupleR (hc : X.calm = true) : CallR X (.type "tuple") (rSeqR .tup) := by
 intro pins s σ H xs us Q I rv h
 obtain ⟨r,lo,hi,rfl,hr,l0,l1,h0,h1,q⟩ := h
 obtain ⟨w,rfl,ru⟩ := Vals.one rv
 cases ru
 obtain ⟨t,u,v,e⟩ := I.hok r _ hr
 refine callType_new F.called_tuple (by decide) (F.typeCall_tuple_1 _) (F.newCall_tuple_1 _) (λ obj => F.args_object_init_2 obj _) F.entry_tuple_new
  (meets_tuple_new_range r lo hi t u v _ (small_one (by omega) (by omega) (by omega) (by omega)) rng_size (by omega)) ⟨I.ok.hd hc,e,λ h' tk acc hk hacc => ⟨⟨_,Heap.get?_push_size _ rfl,rfl⟩,?_⟩⟩
 have I1 : Inv X pins σ H { s with heap := h',toks := tk } := I.kept (t' := tk) hk
 have I2 := I1.laid (t' := tk) (o := .tup (rngV lo hi)) (λ b o e => Heap.get?_push_of_some { cls := .type "tuple",data := .seq acc } e) (Nat.le_refl _) (show ObjOk X.prog X.w _ _ _ (.tup (rngV lo hi)) from ⟨by rw [rngV_length,sizeLine_eq]; omega,acc.toList,vals_rng hacc,by simpa using IsTup.new h' acc⟩)
 exact ⟨.ref h'.objs.size,_,I2,rfl,q _ (I1.hok.fresh (Nat.le_refl _))⟩
theorem call_listR (hc : X.calm = true) : CallR X (.type "list") (rSeqR .lst) := by
 intro pins s σ H xs us Q I rv h
 obtain ⟨r,lo,hi,rfl,hr,l0,l1,h0,h1,q⟩ := h
 obtain ⟨w,rfl,ru⟩ := Vals.one rv
 cases ru
 obtain ⟨t,u,v,e⟩ := I.hok r _ hr
 refine call_list_range (I.ok.hd hc) e (small_one (by omega) (by omega) (by omega) (by omega)) rng_size (by omega) λ h' tk acc c hk hS hacc => ?_
 refine ⟨.ref s.heap.objs.size,_,I.laid (t' := tk) (o := .lst (rngV lo hi)) hk (Nat.le_refl _) ⟨by rw [rngV_length,sizeLine_eq]; omega,acc.toList,c,vals_rng hacc,by simpa using hS⟩,rfl,q _ I.fresh⟩
def rSameT (K : W.Frag) (c : Bool) : R2 := λ x y H Q => ∃ (a b : Addr) (zs : List Int),x = .ref a /\ y = .ref b /\ SqT K H a (zs.map V.int) /\ SqT K H b (zs.map V.int) /\ Q (.bl c) H
theorem items_ints {zs : List Int} {its1 its2 : List Value} {A : Around} {s : Shared} (rv1 : Vals (zs.map V.int) its1) (rv2 : Vals (zs.map V.int) its2) : ∀ j (h1 : j < its1.toArray.size) (h2 : j < its2.toArray.size),SeqAt.EqAt A s its1.toArray[j] its2.toArray[j] ((λ _ : Nat => true) j) := λ j j1 j2 => by
 have l1 := rv1.length
 rw [List.length_map] at l1
 have hj : j < zs.length := by rw [l1]; simpa using j1
 obtain ⟨u1,e1,r1⟩ := rv1.get (i := j) (x := V.int zs[j]) (by rw [List.getElem?_map,List.getElem?_eq_getElem hj]; rfl)
 obtain ⟨u2,e2,r2⟩ := rv2.get (i := j) (x := V.int zs[j]) (by rw [List.getElem?_map,List.getElem?_eq_getElem hj]; rfl)
 have g1 : its1.toArray[j] = u1 := by
  have := List.getElem?_eq_some_iff.mp e1;simpa using this.2
 have g2 : its2.toArray[j] = u2 := by
  have := List.getElem?_eq_some_iff.mp e2;simpa using this.2
 rw [g1,g2]
 obtain ⟨t1,rfl⟩ := r1
 obtain ⟨t2,rfl⟩ := r2
 have q := SeqAt.EqAt.int_int (A := A) (s := s) zs[j] t1 zs[j] t2
 rw [beq_self_eq_true] at q
 exact q
theorem op_neTI (hu : X.A.units < cLine) : OpR X (compareOp .NotEq) (rSameT X.K false) := by
 intro pins s σ H x y v u Q I rx ry h
 obtain ⟨a,b,zs,rfl,rfl,h1,h2,q⟩ := h
 cases rx
 cases ry
 obtain ⟨its1,rv1,pl1,hz1⟩ := I.tuple h1
 obtain ⟨its2,rv2,pl2,hz2⟩ := I.tuple h2
 have hs : its1.toArray.size = its2.toArray.size := by
  have l1 := rv1.length;have l2 := rv2.length;simp only [List.size_toArray]; omega
 have rc := SeqAt.RcNeAt.tuples (A := X.A) (s := s) (e := λ _ => true) pl1 pl2 hu (items_ints rv1 rv2)
 have e0 : (!((List.range (min its1.toArray.size its2.toArray.size)).all (λ _ => true) && its1.toArray.size == its2.toArray.size)) = false := by simp [hs]
 rw [e0] at rc
 exact rc _ _ _ _ ⟨.bl false,H,I,rfl,q⟩
theorem lats2 {t1 t2 : TS} {D : Ends} {σ : St} {H : Hp} (h : let D0 : Ends := D; let σ0 : St := σ; let U2 : TS := t2; tSeq t1 U2 D0 σ0 H) : (tSeq t1 t2) D σ H := h
theorem lats3 {t1 t2 t3 : TS} {D : Ends} {σ : St} {H : Hp} (h : let D0 : Ends := D; let σ0 : St := σ; let U3 : TS := t3; let U2 : TS := tSeq t2 U3; tSeq t1 U2 D0 σ0 H) : (tSeq t1 (tSeq t2 t3)) D σ H := h
theorem lats4 {t1 t2 t3 t4 : TS} {D : Ends} {σ : St} {H : Hp} (h : let D0 : Ends := D; let σ0 : St := σ; let U4 : TS := t4; let U3 : TS := tSeq t3 U4; let U2 : TS := tSeq t2 U3; tSeq t1 U2 D0 σ0 H) : (tSeq t1 (tSeq t2 (tSeq t3 t4))) D σ H := h
theorem lats5 {t1 t2 t3 t4 t5 : TS} {D : Ends} {σ : St} {H : Hp} (h : let D0 : Ends := D; let σ0 : St := σ; let U5 : TS := t5; let U4 : TS := tSeq t4 U5; let U3 : TS := tSeq t3 U4; let U2 : TS := tSeq t2 U3; tSeq t1 U2 D0 σ0 H) : (tSeq t1 (tSeq t2 (tSeq t3 (tSeq t4 t5)))) D σ H := h
theorem lats6 {t1 t2 t3 t4 t5 t6 : TS} {D : Ends} {σ : St} {H : Hp} (h : let D0 : Ends := D; let σ0 : St := σ; let U6 : TS := t6; let U5 : TS := tSeq t5 U6; let U4 : TS := tSeq t4 U5; let U3 : TS := tSeq t3 U4; let U2 : TS := tSeq t2 U3; tSeq t1 U2 D0 σ0 H) : (tSeq t1 (tSeq t2 (tSeq t3 (tSeq t4 (tSeq t5 t6))))) D σ H := h
theorem lats8 {t1 t2 t3 t4 t5 t6 t7 t8 : TS} {D : Ends} {σ : St} {H : Hp} (h : let D0 : Ends := D; let σ0 : St := σ; let U8 : TS := t8; let U7 : TS := tSeq t7 U8; let U6 : TS := tSeq t6 U7; let U5 : TS := tSeq t5 U6; let U4 : TS := tSeq t4 U5; let U3 : TS := tSeq t3 U4; let U2 : TS := tSeq t2 U3; tSeq t1 U2 D0 σ0 H) : (tSeq t1 (tSeq t2 (tSeq t3 (tSeq t4 (tSeq t5 (tSeq t6 (tSeq t7 t8))))))) D σ H := h
theorem lats9 {t1 t2 t3 t4 t5 t6 t7 t8 t9 : TS} {D : Ends} {σ : St} {H : Hp} (h : let D0 : Ends := D; let σ0 : St := σ; let U9 : TS := t9; let U8 : TS := tSeq t8 U9; let U7 : TS := tSeq t7 U8; let U6 : TS := tSeq t6 U7; let U5 : TS := tSeq t5 U6; let U4 : TS := tSeq t4 U5; let U3 : TS := tSeq t3 U4; let U2 : TS := tSeq t2 U3; tSeq t1 U2 D0 σ0 H) : (tSeq t1 (tSeq t2 (tSeq t3 (tSeq t4 (tSeq t5 (tSeq t6 (tSeq t7 (tSeq t8 t9)))))))) D σ H := h
theorem latg3 {t1 t2 t3 : TS} {D : Ends} {σ : St} {H : Hp} {i : Nat} {v : V} (h : let D0 : Ends := D; let σ0 : St := σ.set i (some v); let U3 : TS := t3; let U2 : TS := tSeq t2 U3; tSeq t1 U2 D0 σ0 H) : gName i v σ H λ σ2 H2 => (tSeq t1 (tSeq t2 t3)) D σ2 H2 := h
def Itn (lo : Int) (n : Nat) : It := ⟨λ i _ => i < n,λ i H x H' => H' = H /\ x = .int (lo - i),λ i _ => n <= i⟩
theorem size_down (a b : Int) : Builtin.Range.rangeSize a b (-1) = if a > b then a - b else 0 := by
 unfold Builtin.Range.rangeSize
 rw [if_neg (by decide)]
 split
 . rw [show -(-1 : Int) = 1 from rfl,Int.ediv_one]; omega
 . rfl
theorem small_down {a b : Int} (ha : -(2 ^ 62) <= a) (ha' : a < 2 ^ 62) (hb : -(2 ^ 62) <= b) (hb' : b < 2 ^ 62) : Builtin.Range.small a b (-1) = true := by
 unfold Builtin.Range.small
 rw [size_down]
 simp only [Builtin.Range.rangeFitsLong,Bool.and_eq_true,Bool.or_eq_true,decide_eq_true_eq,beq_iff_eq,show ¬ ((-1 : Int) > 0) by decide,if_false]
 split <;> omega
theorem turn_down {P : Program} {w : World} {K : W.Frag} {tg : Expr} (it : Addr) (lo : Int) (n : Nat) : Turn P w K tg (Itn lo n) [it] it (λ i h => IsRangeIter h it (lo + (i : Nat) * (-1)) ((n : Int) - (i : Nat)) (-1)) where
 mem := by simp
 obj := λ i h st b hb => by
  have e : b = it := by simpa using hb
  subst e;exact ⟨_,st,λ v z => by
   have z' : Data.fields _ = Data.cell v := z;cases z'⟩
 keep := λ i h h' st k => k it (by simp) _ st
 item := by
  intro X hP hw hK hc i pins s σ H E I hf st hg;subst hP hw hK;obtain ⟨f0,f1,f2,f3,f4,f5⟩ := hf it (by simp);have W := Walks.range (prog := X.prog) (w := X.w) (I.ok.hd hc) it lo (-1) n;refine W.item i s _ _ hg st λ v h' tk hv st' kk => ?_;obtain ⟨t,rfl⟩ := hv;have I1 : Inv X pins σ H { s with heap := h',toks := tk } := I.turned (λ b o hb e => kk b o (by simpa using hb) e) f0 f1 f3 f4 f5;refine ⟨_,rfl,go_of (s := { s with heap := h',toks := tk }) (n := "range_iterator") st' rfl rfl (by decide) ⟨.int (lo - i),H,I1,⟨t,?_⟩,⟨rfl,rfl⟩,st',λ b hb => (hf b hb).1⟩⟩;rw [Int.mul_neg,Int.mul_one]; rfl
 done := by
  intro X hP hw hK hc i pins s σ H E I hf st hg;subst hP hw hK;obtain ⟨f0,f1,f2,f3,f4,f5⟩ := hf it (by simp);exact wpAny_pyNext_range_end (I.ok.hd hc) st (by have : n <= i := hg; omega) λ h' eb => ⟨rfl,I.turned (t' := s.toks) (λ b o hb e => eb b o hb e) f0 f1 f3 f4 f5⟩
 self := λ _ _ _ _ _ st h => wpAny_pyIter_rangeiter st h
section
variable {tg : Expr}
theorem down_it {pins : List (Addr × Obj)} {σ : St} {H : Hp} {s : Shared} {R : It -> Hp -> Prop} {E : Value -> Shared -> Prop} {lo hi : Int} {t u v : Tok} {tk : Nat} (I : Inv X pins σ H s) (h1 : -(2 ^ 62) <= lo) (h2 : lo < 2 ^ 62) (h3 : -(2 ^ 62) <= hi) (h4 : hi < 2 ^ 62)
 (q : R (Itn lo (lo - hi).toNat) H) : wpAny (model X.prog X.w) X.A (pyIter (.ref s.heap.objs.size)) (PIE X pins σ tg R) E { s with heap := s.heap.push { cls := .type "range",data := .fields #[.int lo t,.int hi u,.int (-1) v] },toks := tk } := by
 refine wpAny_pyIter_range (IsRange.new ..) (small_down h1 h2 h3 h4) ?_
 have I1 : Inv X pins σ H { s with heap := s.heap.push { cls := .type "range",data := .fields #[.int lo t,.int hi u,.int (-1) v] },toks := tk } := I.kept λ b o e => Heap.get?_push_of_some _ e
 refine ⟨(s.heap.push { cls := .type "range",data := .fields #[.int lo t,.int hi u,.int (-1) v] }).objs.size,[(s.heap.push { cls := .type "range",data := .fields #[.int lo t,.int hi u,.int (-1) v] }).objs.size],_,_,H,rfl,
  I1.kept (t' := tk) λ b o e => Heap.get?_push_of_some _ e,turn_down _ lo (lo - hi).toNat,?_,λ b hb => ?_,q⟩
 . have e1 : lo + ((0 : Nat) : Int) * (-1) = lo := by simp
   have e2 : (((lo - hi).toNat : Nat) : Int) - ((0 : Nat) : Int) = Builtin.Range.rangeSize lo hi (-1) := by rw [size_down]; split <;> omega
   show IsRangeIter _ _ (lo + ((0 : Nat) : Int) * (-1)) ((((lo - hi).toNat : Nat) : Int) - ((0 : Nat) : Int)) (-1)
   rw [e1,e2];exact Heap.get?_push_size _ rfl
 . have e : b = (s.heap.push { cls := .type "range",data := .fields #[.int lo t,.int hi u,.int (-1) v] }).objs.size := by simpa using hb
   subst e;exact I1.fpOk (Nat.le_refl _) (I1.hok.fresh (Nat.le_refl _))
def iRngD (ta : TA) : TI := λ σ H R => ta σ H λ vs H1 => ∃ i j : Int,vs = [.int i,.int j,.int (-1)] /\ (-(2 ^ 62) <= i /\ i < 2 ^ 62 /\ -(2 ^ 62) <= j /\ j < 2 ^ 62) /\ R (Itn i (i - j).toNat) H1
theorem pi_range3 {a b c : Expr} {ta : TA} {p pos : Pos} (hg : Gl X "range") (hm : X.mg "range" = none) (ha : PA X [a,b,c] ta) (hs : starEach [a,b,c] X.env = [(false,eval a X.env),(false,eval b X.env),(false,eval c X.env)] := by rfl) (hs2 : starEach [b,c] X.env = [(false,eval b X.env),(false,eval c X.env)] := by rfl) :
 PI X tg (.Call (.Name "range" p) [a,b,c] [] pos) (iRngD ta) := by
 intro pins s σ H R I h
 refine Call_ (ld_blt I hg hm boot_range (PyProof.Rows.callWith_type1 (thn (ha pos pins s σ H _ I h) λ us s1 ⟨vs,H1,I1,r1,q1⟩ => ?_) (by rw [hs,hs2]) (by rw [hs2]; rfl)))
 obtain ⟨i,j,e,⟨q1,q2,q3,q4⟩,q⟩ := q1
 subst e
 cases r1 with
 | cons r rr =>
  cases rr with
  | cons r' rr =>
   cases rr with
   | cons r'' rr =>
    cases rr;obtain ⟨t,rfl⟩ := r;obtain ⟨t',rfl⟩ := r';obtain ⟨t'',rfl⟩ := r'';exact call_range_3 (by decide) (down_it I1 q1 q2 q3 q4 q) (.inl (PyProof.noPylong_small (by decide)))
end
theorem Inv.thaw {pins : List (Addr × Obj)} {σ : St} {H : Hp} {s : Shared} {a : Addr} {o : Obj} {u : HO} (I : Inv X pins σ H s) (ha : H a = some (.frz o u)) (h0 : ∀ o' u',X.H₀ a ≠ some (.frz o' u')) : Inv X pins σ (upd H a u) s := by
 have ne : ∀ {b v},H b = some v -> (∀ o' u',v ≠ .frz o' u') -> b ≠ a := λ e n z => by rw [z,ha] at e; exact n _ _ (Option.some.inj e).symm
 have no : ∀ {b},H b = none -> upd H a u b = none := λ {b} e => by rw [upd_ne (λ z => by rw [z,ha] at e; cases e)]; exact e
 refine ⟨I.ok,I.os,I.bare,⟨I.base.keep,I.base.slot,λ b ob h1 h2 h3 => no (I.base.free b ob h1 h2 h3),I.base.there,λ b xs e => ?_,λ b ob v e => ?_,λ b ps e => ?_⟩,I.loc,I.cell,no I.free,λ x c e => no (I.freeC x c e),λ p hp => let ⟨q1,q2,q3⟩ := I.pin p hp; ⟨q1,no q2,q3⟩,λ b v e => ?_,I.len⟩
 . have h := I.base.tups b xs e;rw [upd_ne (ne h λ _ _ => nofun)]; exact h
 . have h := I.base.frzs b ob v e;rw [upd_ne (λ z => h0 ob v (by rw [<- z]; exact e))]; exact h
 . obtain ⟨more,h⟩ := I.base.tbls b ps e;exact ⟨more,by rw [upd_ne (ne h λ _ _ => nofun)]; exact h⟩
 . have keep : ∀ {c w},ObjOk X.prog X.w H s.heap c w -> ObjOk X.prog X.w (upd H a u) s.heap c w := λ {c w} z => z.stay (λ _ _ _ q => q) (λ c' q => by rw [upd_ne (ne q λ _ _ => nofun)]; exact q) λ c' xs q => by rw [upd_ne (ne q λ _ _ => nofun)]; exact q
   by_cases hb : b = a
   . subst hb;rw [upd_same] at e;cases e;exact keep (I.hok b _ ha).2
   . rw [upd_ne hb] at e;exact keep (I.hok b v e)
def tThaw (H0 : Hp) (t : TS) : TS := λ D σ H => t { D with nx := λ σ' H' => ∃ a o u,H' a = some (.frz o u) /\ (∀ o' u',H0 a ≠ some (.frz o' u')) /\ D.nx σ' (upd H' a u) } σ H
theorem ps_thaw {st : Stmt} {t : TS} (h : PS X st t) : PS X st (tThaw X.H₀ t) := by
 intro pins s σ H D I q
 refine thn (h pins s σ H _ I q) λ f s' hf => ?_
 cases f with
 | next =>
  obtain ⟨σ',H',I',a,o,u,h1,h2,h3⟩ := hf;exact ⟨σ',_,I'.thaw h1 h2,h3⟩
 | brk => exact hf
 | cont => exact hf
 | ret v => exact hf
def rDictD : List V -> Hp -> VK -> Prop := λ xs H Q => ∃ (d : Addr) (kvs : List (Key × V)),xs = [.ref d] /\ Rd H d (.dK kvs) /\ ∀ p,H p = none -> Q (.ref p) (upd H p (.dK kvs))
theorem call_dictD : CallR X (.type "dict") rDictD := by
 intro pins s σ H xs us Q I r h
 obtain ⟨d,kvs,rfl,hd,q⟩ := h
 obtain ⟨u,rfl,ru⟩ := vals1 r
 cases ru
 obtain ⟨z,y,vs,rel,dd⟩ := hd.ok I.hok
 have hl := rel.length
 refine kt_call_dict y dd (by omega) λ h' a1 a2 => ?_
 have kp : ∀ b o,s.heap.get? b = some o -> h'.get? b = some o := λ b o e => (a2.2 b (Nat.ne_of_lt (Heap.lt_size e))).trans (Heap.get?_push_of_some _ e)
 refine ⟨.ref s.heap.objs.size,_,I.laid (t' := s.toks) (o := .dK kvs) kp (Nat.le_refl _) ⟨z,beq_eq_false_iff_ne.mpr (Ne.symm (Nat.ne_of_lt I.big)),vs,rel,a1⟩,rfl,q _ I.fresh⟩
theorem vals_at : ∀ {xs : List V} {us : List Value},xs.length = us.length -> (∀ (j : Nat) x u,xs[j]? = some x -> us[j]? = some u -> RelV x u) -> Vals xs us := by
 intro xs
 induction xs with
 | nil =>
  intro us hl _;rw [List.length_eq_zero_iff.mp hl.symm]; exact .nil
 | cons x r ih =>
  intro us hl h;cases us with
  | nil => cases hl
  | cons u t => exact .cons (h 0 x u rfl rfl) (ih (Nat.succ.inj hl) λ j x' u' a b => h (j + 1) x' u' a b)
def rSortD : List V -> Hp -> VK -> Prop := λ xs H Q => ∃ (d : Addr) (kvs : List (Key × V)) (ks : List Int),xs = [.ref d] /\ H d = some (.dK kvs) /\ kvs.map (·.1) = ks.map Sum.inl /\ ks.length < 64 /\ ∀ (l : Addr) (zs : List Int),H l = none -> zs.Perm ks -> zs.Pairwise (· <= ·) -> Q (.ref l) (upd H l (.lst (zs.map V.int)))
theorem call_sortedD (hc : X.calm = true) : CallR X (.builtin "sorted") rSortD := by
 intro pins s σ H xs us Q I r h
 obtain ⟨d,kvs,ks,rfl,hd,hk,h64,q⟩ := h
 obtain ⟨u,rfl,ru⟩ := vals1 r
 cases ru
 obtain ⟨z,y,vs,rel,dd⟩ := dk_of I.hok hd
 obtain ⟨o,es,ep,ho,hr⟩ := id dd
 have hl := rel.length
 refine Calls.call_function_entry kind_sorted plain_sorted entry_sorted (args_sorted1 _) ?_
 unfold Builtin.«sorted»
 refine wpAny_bind (m := checkCount "sorted" 1 1 _) (wpAny_pure ?_)
 refine wpAny_bind (PySem.W.kdu_collect (PySem.W.kdl_dict (knd := mixKind X.prog X.w) (kvs := vs) (ep := ep) y) (by simp [I.ok.hd hc]) ⟨o,es,ho,hr⟩ (by omega) λ h' tk acc kp hacc => ?_)
 have hv : Vals (ks.map V.int) acc.toList := by
  have e : kvs.map (λ p => kV p.1) = ks.map V.int := by
   have := congrArg (List.map kV) hk;rw [List.map_map,List.map_map] at this;exact this
  rw [<- e];refine vals_at (by rw [List.length_map,Array.length_toList]; exact hl.trans hacc.1.symm) λ j x v hx hv => ?_;obtain ⟨k,w',h1,h2⟩ := hacc.2 j v (by rw [<- Array.getElem?_toList]; exact hv);rw [List.getElem?_map] at hx;obtain ⟨p,hp,rfl⟩ := Option.map_eq_some_iff.mp hx;have ek : p.1 = k := by
   have q : (kvs.map (·.1))[j]? = (vs.map (·.1))[j]? := by rw [rel.keys]
   rw [List.getElem?_map,List.getElem?_map,h1,hp] at q;exact Option.some.inj q
  exact kV_rel (by rw [ek]; exact h2)
 have hi : IntsAre acc.toList ks := intsAre_of hv
 have I1 : Inv X pins σ H { s with heap := h',toks := tk } := I.kept (t' := tk) kp
 have hz : acc.toList.length = ks.length := by rw [hv.length.symm,List.length_map]
 refine wpAny_bind (wpAny_newList ?_ (by rw [hz]; have : (64 : Nat) <= sizeLine := (by rw [sizeLine_eq]; decide); omega))
 have hoL : (h'.push (seqObj "list" acc.toList.toArray 0)).get? h'.objs.size = some (seqObj "list" acc.toList.toArray 0) := Heap.get?_push_size _ rfl
 refine wpAny_bind (wpAny_holding (wpAny_call_entry slot_list_sort ⟨_,hoL,rfl⟩ entry_list_sort (list_sort_tree hoL hi (by rw [hz]; exact h64) λ out ns' b1 b2 b3 => ⟨_,rfl,?_⟩) (args_list_sort _)))
 obtain ⟨e,he⟩ := sortedHeap_at (out := out) hoL
 refine wpAny_pure ⟨_,rfl,.ref h'.objs.size,_,I1.laid (t' := tk) (o := .lst (ns'.map V.int)) (λ b ob eb => ?_) (Nat.le_refl _) ⟨?_,out.toList,e,vals_ints b1,he⟩,rfl,q _ _ (I1.hok.fresh (Nat.le_refl _)) b2 b3⟩
 . have e1 : h'.get? b = some ob := eb;have hb := Heap.lt_size e1;rw [sortedHeap_old (Nat.ne_of_lt hb) (by rw [Heap.size_push]; exact Nat.lt_succ_of_lt hb)];exact Heap.get?_push_of_some _ e1
 . rw [List.length_map,b2.length_eq];have : (64 : Nat) <= sizeLine := (by rw [sizeLine_eq]; decide);omega
end L2
namespace KKM
theorem nodup_map_on {α β : Type} {f : α -> β} {l : List α} (hf : ∀ a ∈ l,∀ b ∈ l,f a = f b -> a = b) (h : l.Nodup) : (l.map f).Nodup := by
 unfold List.Nodup at h ⊢
 rw [List.pairwise_map]
 exact List.Pairwise.imp_of_mem (λ {a b} ha hb hab e => hab (hf a ha b hb e)) h
theorem nodup_snoc {α : Type} {ys : List α} {y : α} (h : ys.Nodup) (n : y ∉ ys) : (ys ++ [y]).Nodup := by
 rw [List.nodup_append]
 refine ⟨h,by simp,λ a ha b hb e => ?_⟩
 rw [List.mem_singleton.mp hb] at e
 rw [e] at ha
 exact n ha
theorem nodup_filter {α : Type} {p : α -> Bool} {l : List α} (h : l.Nodup) : (l.filter p).Nodup := h.sublist List.filter_sublist
theorem take_snoc {α : Type} {l : List α} {i : Nat} {x : α} (h : l[i]? = some x) : l.take (i + 1) = l.take i ++ [x] := by
 rw [List.take_add_one,h]; rfl
theorem filter_snoc {α : Type} {p : α -> Bool} {l : List α} {x : α} : (l ++ [x]).filter p = if p x = true then l.filter p ++ [x] else l.filter p := by
 rw [List.filter_append]
 by_cases h : p x = true <;> simp [h]
end KKM
namespace KK
open PySem L2
def top (i : Nat) : Stmt := PySem.Challenge.pw_meetdesks_k25_along_in_any_order.main.body.getD i (.Pass ⟨0,0,0,0⟩)
abbrev sCell : Stmt := top 20
abbrev sFlow : Stmt := top 21
abbrev sDraw : Stmt := top 22
abbrev sNames : Stmt := top 23
def FlowAt (H : Hp) (a : Addr) : Prop := ∃ x y z : Int,H a = some (.lst [.int x,.int y,.int z]) /\ 0 <= z /\ z < 1099511627776
def Ext (a : Addr) (H H' : Hp) : Prop := ∀ b o,b ≠ a -> H b = some o -> H' b = some o
theorem Ext.refl (a : Addr) (H : Hp) : Ext a H H := λ _ _ _ h => h
theorem Ext.trans {a : Addr} {H H1 H2 : Hp} (x : Ext a H H1) (y : Ext a H1 H2) : Ext a H H2 := λ b o n h => y b o n (x b o n h)
theorem Ext.own {a : Addr} {H : Hp} {o : HO} : Ext a H (upd H a o) := λ b u n h => by rw [upd_ne n]; exact h
theorem Ext.new {a p : Addr} {H : Hp} {o : HO} (h : H p = none) : Ext a H (upd H p o) := λ b u _ q => by rw [upd_ne (ne_of_none q h)]; exact q
theorem FlowAt.some {H : Hp} {a : Addr} (f : FlowAt H a) : ∃ o,H a = Option.some o := let ⟨_,_,_,h,_⟩ := f; ⟨_,h⟩
theorem FlowAt.new {a p : Addr} {H : Hp} {o : HO} (f : FlowAt H a) (h : H p = none) : FlowAt (upd H p o) a := by
 obtain ⟨x,y,z,e,r⟩ := f
 exact ⟨x,y,z,by rw [upd_ne (ne_of_none e h)]; exact e,r⟩
theorem FlowAt.set {a p : Addr} {H : Hp} {o : HO} (f : FlowAt H a) (h : a ≠ p) : FlowAt (upd H p o) a := by
 obtain ⟨x,y,z,e,r⟩ := f
 exact ⟨x,y,z,by rw [upd_ne h]; exact e,r⟩
def spDraw : Sp := λ vs H Q _ => ∃ (a : Addr) (m : Int),vs = [.ref a,.int m] /\ FlowAt H a /\ 0 < m /\ m <= 100000000000000000000 /\ ∀ (r : Int) (H' : Hp),0 <= r -> r < m -> FlowAt H' a -> Ext a H H' -> Q (.int r) H'
def spCell (K : W.Frag) : Sp := λ vs H Q _ => ∃ (a : Addr) (ns : List Int) (k : Int),vs = [.ref a,.int k] /\ SqL K H a (ns.map V.int) /\ ns.length <= 63 /\ 0 <= k /\ k <= 100 /\ ∀ r : Int,Q (.int r) H
def spFlow (K : W.Frag) : Sp := λ vs H Q _ => ∃ (a : Addr) (ns : List Int) (k : Int),vs = [.ref a,.int k] /\ SqL K H a (ns.map V.int) /\ ns.length <= 63 /\ 0 <= k /\ k <= 100 /\ ∀ (p : Addr) (o : HO),H p = none -> FlowAt (upd H p o) p -> Q (.ref p) (upd H p o)
section
variable {P : Program} {w : World} {K : W.Frag} {mg : Str -> Option Value} {base : Heap} {f g : Addr} {fd gd : FuncData} {k : Nat}
theorem scDraw : FnScope ["_law_flow_here","_law_many","_law_digit","_law_number"] ["_law_flow_here","_law_many"] (defScope sDraw) := (.of rfl rfl rfl rfl (by decide +kernel))
theorem tiny {n : Nat} (h : n <= 1000) : n <= sizeLine := Nat.le_of_lt (small1000 h)
theorem ok_draw (F : Fun K "_law_draw" "_law_draw" sDraw f fd) : FnOk P w K mg base CX0 (k + 1) f fd ["_law_flow_here","_law_many"] spDraw := by
 refine F.ok scDraw (λ vs H Q E h => ?_) (λ cdv A outer s H vs Q E hr h => ?_)
 . obtain ⟨a,m,rfl,_⟩ := h;rfl
 obtain ⟨a,m,rfl,⟨x,y,z,e,hz0,hz1⟩,m0,m1,q⟩ := h
 have nd := scDraw.nd
 refine ⟨_,pss_cons (ps_if (pt_cmpR op_gt (pe_ix ix_list (pv 0) pe_int (λ _ _ => rfl)) pe_int (nomark _))
  (pss_cons (ps_set (i := 2) nd rfl (Or.inl rfl) (pe_op op_mod (pe_ix ix_list (pv 0) pe_int (λ _ _ => rfl)) (pv 1)))
  (pss_cons (ps_asg (pe_op op_fdivB (pe_ix ix_list (pv 0) pe_int (λ _ _ => rfl)) (pv 1)) (pg_sub (pv 0) pe_int set_list)) (pss_one (ps_ret (pv 2))))) pss_nil) (pss_cons (ps_asg (pe_op op_add (pe_ix ix_list (pv 0) pe_int (λ _ _ => rfl)) pe_int) (pg_sub (pv 0) pe_int set_list)) (pss_cons (ps_set (i := 3) nd rfl (Or.inl rfl) (pe_op op_mod (pe_op op_add (pe_op op_add (pe_op op_mul (pe_ix ix_list (pv 0) pe_int (λ _ _ => rfl)) (pe_op op_add pe_int (pe_op op_mul pe_int (pe_ix ix_list (pv 0) pe_int (λ _ _ => rfl))))) (pe_op op_mul pe_int (pe_ix ix_list (pv 0) pe_int (λ _ _ => rfl)))) pe_int) pe_int)) (pss_cons (ps_set (i := 3) nd rfl (Or.inl rfl) (pe_op op_mod (pe_op op_mul (pv 3) (pv 3)) pe_int)) (pss_one (ps_ret (pe_op op_mod (pe_op op_fdivB (pe_op op_mod (pe_op op_mul (pe_op op_add (pv 3) pe_int) (pe_op op_add (pv 3) pe_int)) pe_int) pe_int) (pv 1))))))),?_⟩
 refine ⟨_,rfl,a,_,_,_,rfl,rfl,SqL.of e,rfl,_,_,rfl,rfl,_,rfl,?_⟩
 refine ite2 (λ c => ?_) (λ c => ?_)
 . refine ⟨_,rfl,a,_,_,_,rfl,rfl,SqL.of e,rfl,_,rfl,_,_,rfl,rfl,m0,?_⟩;refine ⟨_,rfl,a,_,_,_,rfl,rfl,SqL.of e,rfl,_,rfl,_,_,rfl,rfl,⟨m0,Int.le_trans m1 (by decide)⟩,_,rfl,a,_,_,_,rfl,rfl,e,rfl,?_⟩;refine ⟨_,rfl,q _ _ (Int.emod_nonneg _ (by omega)) (Int.emod_lt_of_pos _ m0) ⟨_,_,_,upd_same,hz0,hz1⟩ Ext.own⟩
 . refine ⟨_,rfl,a,_,_,_,rfl,rfl,SqL.of e,rfl,_,_,rfl,rfl,_,rfl,a,_,_,_,rfl,rfl,e,rfl,?_⟩;have e2 : upd H a (.lst [.int x,.int (y + 1),.int z]) a = some (.lst [.int x,.int (y + 1),.int z]) := upd_same;refine ⟨_,rfl,a,_,_,_,rfl,rfl,SqL.of e2,rfl,_,rfl,a,_,_,_,rfl,rfl,SqL.of e2,rfl,_,_,rfl,rfl,.inl ⟨by decide,by decide⟩,_,_,rfl,rfl,_,_,rfl,rfl,.inl ⟨by omega,by omega⟩,_,rfl,a,_,_,_,rfl,rfl,SqL.of e2,rfl,_,_,rfl,rfl,.inl ⟨by decide,by decide⟩,_,_,rfl,rfl,_,_,rfl,rfl,_,_,rfl,rfl,(show (0 : Int) < 2147483629 by decide),?_⟩;have b1 := Int.emod_nonneg (z * (48271 + 2 * (y + 1)) + 7919 * (y + 1) + 1) (show (2147483629 : Int) ≠ 0 by decide);have b2 := Int.emod_lt_of_pos (z * (48271 + 2 * (y + 1)) + 7919 * (y + 1) + 1) (show (0 : Int) < 2147483629 by decide);generalize (z * (48271 + 2 * (y + 1)) + 7919 * (y + 1) + 1) % 2147483629 = n1 at b1 b2 ⊢;refine ⟨_,rfl,_,rfl,_,_,rfl,rfl,.inl ⟨by omega,by omega⟩,_,_,rfl,rfl,(show (0 : Int) < 2147483587 by decide),?_⟩;have b3 := Int.emod_nonneg (n1 * n1) (show (2147483587 : Int) ≠ 0 by decide);have b4 := Int.emod_lt_of_pos (n1 * n1) (show (0 : Int) < 2147483587 by decide);generalize n1 * n1 % 2147483587 = n2 at b3 b4 ⊢;refine ⟨_,rfl,_,_,rfl,rfl,_,rfl,_,_,rfl,rfl,_,_,rfl,rfl,.inl ⟨by omega,by omega⟩,_,_,rfl,rfl,(show (0 : Int) < 2147483579 by decide),_,_,rfl,rfl,⟨by decide,by decide⟩,_,rfl,_,_,rfl,rfl,m0,?_⟩;exact q _ _ (Int.emod_nonneg _ (by omega)) (Int.emod_lt_of_pos _ m0) ⟨_,_,_,e2,hz0,hz1⟩ Ext.own
theorem scCell : FnScope ["_law_script","_law_k","_law_number"] ["_law_script","_law_k"] (defScope sCell) := (.of rfl rfl rfl rfl (by decide +kernel))
theorem at_in {ns : List Int} {k : Int} (h0 : 0 <= k) (h1 : k < (ns.length : Int)) : ∃ v : Int,atI (ns.map V.int) k = some (.int v) := by
 have hk : k.toNat < ns.length := by omega
 have ek : k = ((k.toNat : Nat) : Int) := by omega
 refine ⟨ns[k.toNat],?_⟩
 have q : atI (ns.map V.int) ((k.toNat : Nat) : Int) = some (.int ns[k.toNat]) := atI_nat (by rw [List.getElem?_map,List.getElem?_eq_getElem hk]; rfl)
 rw [<- ek] at q
 exact q
theorem ok_cell (F : Fun K "_law_cell" "_law_cell" sCell f fd) (ml : mg "len" = none) : FnOk P w K mg base CX0 (k + 1) f fd ["_law_script","_law_k"] (spCell K) := by
 refine F.ok scCell (λ vs H Q E h => ?_) (λ cdv A outer s H vs Q E hr h => ?_)
 . obtain ⟨a,ns,i,rfl,_⟩ := h;rfl
 obtain ⟨a,ns,i,rfl,hS,h63,i0,i1,q⟩ := h
 have nd := scCell.nd
 have hl : (ns.map V.int).length = ns.length := List.length_map _
 refine ⟨_,pss_cons (ps_if (pt_cmpR op_lt (pv 1) (pe_callB call_len_seq rfl ml PySem.boot_len (pa_cons (pv 0) pa_nil)) (nomark _)) (pss_one (ps_ret (pe_ix ix_list (pv 0) (pv 1) (λ _ _ => rfl)))) pss_nil) (pss_cons (ps_set (i := 2) nd rfl (Or.inl rfl) (pe_op op_add (pe_op op_mul (pv 1) pe_int) pe_int)) (pss_cons (ps_if (pt_cmpR op_gt (pe_callB call_len_seq rfl ml PySem.boot_len (pa_cons (pv 0) pa_nil)) pe_int (nomark _))
  (pss_one (ps_set (i := 2) nd rfl (Or.inl rfl) (pe_op op_add (pe_op op_mul (pe_op op_mod (pe_ix ix_list (pv 0) (pe_op op_mod (pe_op op_mul (pv 1) pe_int) (pe_callB call_len_seq rfl ml PySem.boot_len (pa_cons (pv 0) pa_nil))) (λ _ _ => rfl)) pe_int) pe_int) (pe_op op_mul (pv 1) pe_int)))) pss_nil) (pss_one (ps_ret (pe_op op_mul (pe_op op_mod (pv 2) pe_int) pe_int))))),?_⟩
 have fin : ∀ n : Int,(λ (v : V) H1 => Q v H1) (.int (n % 2147483647 * 31)) H := λ n => q _
 have mulok : ∀ n : Int,CMul (n % 2147483647) 31 := λ n => by
  have b1 := Int.emod_nonneg n (show (2147483647 : Int) ≠ 0 by decide);have b2 := Int.emod_lt_of_pos n (show (0 : Int) < 2147483647 by decide);exact .inl ⟨by omega,by omega⟩
 refine ⟨_,rfl,_,rfl,a,_,rfl,.inl hS,_,_,rfl,rfl,_,rfl,?_⟩
 rw [hl]
 refine ite2 (λ c => ?_) (λ c => ?_)
 . have c' : i < (ns.length : Int) := of_decide_eq_true c;obtain ⟨v,hv⟩ := at_in (ns := ns) i0 c';exact ⟨_,rfl,_,rfl,a,_,_,_,rfl,rfl,hS,hv,q v⟩
 . refine ⟨_,rfl,_,_,rfl,rfl,.inl ⟨by omega,by omega⟩,_,_,rfl,rfl,?_⟩;refine ⟨_,rfl,a,_,rfl,.inl hS,_,_,rfl,rfl,_,rfl,?_⟩;rw [hl];refine ite2 (λ c2 => ?_) (λ c2 => ?_)
   . have c' : 0 < (ns.length : Int) := of_decide_eq_true c2;have b1 := Int.emod_nonneg (i * 7) (show (ns.length : Int) ≠ 0 by omega);have b2 := Int.emod_lt_of_pos (i * 7) c';obtain ⟨v,hv⟩ := at_in (ns := ns) b1 b2;have b3 := Int.emod_nonneg v (show (2147483629 : Int) ≠ 0 by decide);have b4 := Int.emod_lt_of_pos v (show (0 : Int) < 2147483629 by decide);refine ⟨_,rfl,_,rfl,_,_,rfl,rfl,.inl ⟨by omega,by omega⟩,_,rfl,a,_,rfl,.inl hS,_,_,rfl,rfl,by rw [hl]; exact c',a,_,_,_,rfl,rfl,hS,by rw [hl]; exact hv,_,_,rfl,rfl,(show (0 : Int) < 2147483629 by decide),_,_,rfl,rfl,.inl ⟨by omega,by omega⟩,_,rfl,_,_,rfl,rfl,.inl ⟨by omega,by omega⟩,_,_,rfl,rfl,?_⟩;exact ⟨_,rfl,_,_,rfl,rfl,(show (0 : Int) < 2147483647 by decide),_,_,rfl,rfl,mulok _,q _⟩
   . exact ⟨_,rfl,_,_,rfl,rfl,(show (0 : Int) < 2147483647 by decide),_,_,rfl,rfl,mulok _,q _⟩
theorem scFlow : FnScope ["_law_script","_law_k","_law_cell_here","_law_own"] ["_law_script","_law_k"] (defScope sFlow) := (.of rfl rfl rfl rfl (by decide +kernel))
theorem ok_flow (F : Fun K "_law_flow" "_law_flow" sFlow f fd) (G : FnOk P w K mg base CX0 k g gd ["_law_script","_law_k"] (spCell K)) (bG : Binds K gd ["_law_script","_law_k"] []) (kG : W.keepIn K (.ref g) = true) (mG : mg "_law_cell" = some (.ref g)) :
 FnOk P w K mg base CX0 (k + 1) f fd ["_law_script","_law_k"] (spFlow K) := by
 refine F.ok scFlow (λ vs H Q E h => ?_) (λ cdv A outer s H vs Q E hr h => ?_)
 . obtain ⟨a,ns,i,rfl,_⟩ := h;rfl
 obtain ⟨a,ns,i,rfl,hS,h63,i0,i1,q⟩ := h
 have nd := scFlow.nd
 refine ⟨_,pss_cons (ps_set (i := 2) nd rfl (Or.inl rfl) (pe_call G hr rfl mG kG bG .nil pass0 (pa_cons (pv 0) (pa_cons (pv 1) pa_nil)))) (pss_cons (ps_set (i := 3) nd rfl (Or.inl rfl) pe_int) (pss_cons (ps_if (pt_cmpR op_ge (pv 2) (pe_op op_pow pe_int pe_int) (nomark _)) (pss_one (ps_set (i := 3) nd rfl (Or.inl rfl) (pv 2))) pss_nil) (pss_one (ps_ret (pe_lst (pa_cons (pv 3) (pa_cons pe_int (pa_cons (pe_op op_add (pe_op op_mod (pv 2) pe_int) (pe_op op_mul pe_int (pv 1))) pa_nil)))))))),?_⟩
 refine ⟨_,rfl,_,rfl,a,ns,i,rfl,hS,h63,i0,i1,λ r => ?_⟩
 have b3 := Int.emod_nonneg r (show (2147483629 : Int) ≠ 0 by decide)
 have b4 := Int.emod_lt_of_pos r (show (0 : Int) < 2147483629 by decide)
 refine ⟨_,rfl,_,_,rfl,rfl,⟨by decide,by decide,by decide⟩,_,_,rfl,rfl,_,rfl,?_⟩
 have fin : ∀ (own : Int) (p : Addr),H p = none -> Q (.ref p) (upd H p (.lst [.int own,.int 0,.int (r % 2147483629 + 40692 * i)])) := λ own p hp => q p _ hp ⟨_,_,_,upd_same,by omega,by omega⟩
 refine ite2 (λ c => ?_) (λ c => ?_)
 . refine ⟨_,rfl,_,rfl,_,rfl,_,_,rfl,rfl,(show (0 : Int) < 2147483629 by decide),_,rfl,_,_,rfl,rfl,.inl ⟨by decide,by decide⟩,_,_,rfl,rfl,tiny (show 3 <= 1000 by decide),λ p hp => fin _ p hp⟩
 . refine ⟨_,rfl,_,rfl,_,_,rfl,rfl,(show (0 : Int) < 2147483629 by decide),_,rfl,_,_,rfl,rfl,.inl ⟨by decide,by decide⟩,_,_,rfl,rfl,tiny (show 3 <= 1000 by decide),λ p hp => fin _ p hp⟩
end
end KK
namespace L2
theorem hat_of {N fr : List PySem.Str} {idx : List Nat} (h : idx.map (λ j => N[j]?) = fr.map some) : ∀ (k : Nat) (x : PySem.Str) (j : Nat),fr[k]? = some x -> idx[k]? = some j -> N[j]? = some x := λ k x j h1 h2 => by
 have e : (idx.map λ j => N[j]?)[k]? = (fr.map some)[k]? := by rw [h]
 rw [List.getElem?_map,List.getElem?_map,h1,h2] at e
 exact Option.some.inj e
theorem pig {α : Type} [DecidableEq α] : ∀ (xs cs : List α),cs.Nodup -> xs.length < cs.length -> ∃ c,c ∈ cs /\ c ∉ xs
 | [],[],_,h => by simp at h
 | [],c :: r,_,_ => ⟨c,List.mem_cons_self,by simp⟩
 | x :: r,cs,hn,h => by
  have hl : r.length < (cs.erase x).length := by
   rw [List.length_erase];rw [List.length_cons] at h
   split <;> omega
  obtain ⟨c,h1,h2⟩ := pig r (cs.erase x) (hn.erase x) hl;have h3 := hn.mem_erase_iff.mp h1;exact ⟨c,h3.2,λ z => (List.mem_cons.mp z).elim h3.1 h2⟩
end L2
namespace KK
open PySem L2 PyProof.Rows
def abc : Str := "abcdefghijklmnopqrstuvwxyz"
theorem abc_at {r : Int} (h0 : 0 <= r) (h1 : r < 26) : ∃ c,atI abc.cps.toList r = some c := by
 have hl : abc.cps.toList.length = 26 := by decide +kernel
 have hk : r.toNat < abc.cps.toList.length := by omega
 have ek : r = ((r.toNat : Nat) : Int) := by omega
 have q : atI abc.cps.toList ((r.toNat : Nat) : Int) = some (abc.cps.toList[r.toNat]) := atI_nat (List.getElem?_eq_getElem hk)
 rw [<- ek] at q
 exact ⟨_,q⟩
theorem abc_len : abc.length <= sizeLine := by rw [sizeLine_eq]; decide +kernel
def AZ (y : Str) : Prop := ∀ c ∈ y.cps.toList,c ∈ abc.cps.toList
theorem az_one {c : Nat} (h : c ∈ abc.cps.toList) : AZ ⟨#[c]⟩ := λ d hd => by
 have e : d = c := by simpa using hd
 rw [e]; exact h
theorem az_app {x y : Str} (hx : AZ x) (hy : AZ y) : AZ (x ++ y) := λ c hc => by
 have hc' : c ∈ (x.cps ++ y.cps).toList := hc
 rw [Array.toList_append] at hc'
 exact (List.mem_append.mp hc').elim (hx c) (hy c)
theorem slice_to {x : Str} {j : Int} (h0 : 0 <= j) (h1 : j <= x.length) : (Txt.slice x none (some j)).cps.toList = x.cps.toList.take j.toNat := by
 have h := PyProof.Rows.slice_closes_to (x := x) (j := j) ⟨h0,h1⟩
 rw [beq_iff_eq.mp h]
 show (x.cps.toList.drop 0).take (j - 0).toNat = _
 rw [List.drop_zero,Int.sub_zero]
theorem slice_from {x : Str} {i : Int} (h0 : 0 <= i) (h1 : i <= x.length) : (Txt.slice x (some i) none).cps.toList = x.cps.toList.drop i.toNat := by
 rw [PyProof.Rows.slice_from_eq (b := x.length) h0 h1 rfl]
 show (x.cps.toList.drop i.toNat).take _ = _
 apply List.take_of_length_le
 rw [List.length_drop]
 show x.length - _ <= _
 omega
theorem len_list (x : Str) : x.length = x.cps.toList.length := rfl
theorem az_to {x : Str} {j : Int} (hx : AZ x) (h0 : 0 <= j) (h1 : j <= x.length) : AZ (Txt.slice x none (some j)) := λ c hc => by
 rw [slice_to h0 h1] at hc
 exact hx c (List.mem_of_mem_take hc)
theorem az_from {x : Str} {j : Int} (hx : AZ x) (h0 : 0 <= j) (h1 : j <= x.length) : AZ (Txt.slice x (some j) none) := λ c hc => by
 rw [slice_from h0 h1] at hc
 exact hx c (List.mem_of_mem_drop hc)
theorem len_parts {x : Str} {j : Int} (h0 : 0 <= j) (h1 : j <= x.length) : (Txt.slice x none (some j)).length + (Txt.slice x (some j) none).length = x.length := by
 rw [len_list (Txt.slice x none (some j)),len_list (Txt.slice x (some j) none),slice_to h0 h1,slice_from h0 h1,List.length_take,List.length_drop,<- len_list]
 omega
theorem join_cons (y : Str) (r : List Str) : (Txt.join "" (y :: r)).cps.toList = y.cps.toList ++ (Txt.join "" r).cps.toList := by
 have e : ∀ l,Txt.join "" l = Str.join "" l := λ l => PySem.StrLaws.glued_eq_join _ _
 rw [e,e]
 cases r with
 | nil =>
  show y.cps.toList = y.cps.toList ++ (Str.join "" []).cps.toList
  have h0 : (Str.join "" []).cps.toList = [] := rfl;rw [h0,List.append_nil]
 | cons z r =>
  show ((y.cps ++ Str.cps "") ++ (Str.join "" (z :: r)).cps).toList = _
  have h0 : Str.cps "" = #[] := rfl;rw [h0];simp
theorem join_all : ∀ {ys : List Str},(∀ y ∈ ys,y.length = 1 /\ AZ y) -> (Txt.join "" ys).length = ys.length /\ AZ (Txt.join "" ys)
 | [],_ => ⟨rfl,λ c hc => by
  have h0 : (Txt.join "" []).cps.toList = [] := rfl;rw [h0] at hc; cases hc⟩
 | y :: r,h => by
  obtain ⟨h1,h2⟩ := join_all (ys := r) λ z hz => h z (List.mem_cons_of_mem _ hz);obtain ⟨h3,h4⟩ := h y List.mem_cons_self
  constructor
  . rw [len_list,join_cons,List.length_append,<- len_list,<- len_list,h1,h3,List.length_cons]; omega
  . intro c hc;rw [join_cons] at hc;exact (List.mem_append.mp hc).elim (h4 c) (h2 c)
def Nm (y : Str) : Prop := 0 < y.length /\ y.length <= 8 /\ AZ y
theorem at_mem {r : Int} {c : Nat} (h : atI abc.cps.toList r = some c) : c ∈ abc.cps.toList := let ⟨_,_,e,_⟩ := atI_get h; List.mem_of_getElem? e
def Signs (ys : List Str) : Prop := ∀ y ∈ ys,y.length = 1 /\ AZ y
theorem Signs.snoc {ys : List Str} (h : Signs ys) {y : Str} (e : y.length = 1 /\ AZ y) : Signs (ys ++ [y]) := λ z hz => (List.mem_append.mp hz).elim (h z) λ q => by rw [List.mem_singleton.mp q]; exact e
theorem signs_sum : ∀ {ys : List Str},Signs ys -> (ys.map (·.length)).sum = ys.length
 | [],_ => rfl
 | y :: r,h => by
  have e1 := (h y List.mem_cons_self).1;have e2 := signs_sum (ys := r) λ z hz => h z (List.mem_cons_of_mem _ hz);rw [List.map_cons,List.sum_cons,e2,e1,List.length_cons];omega
def Bd (ys : List Str) : Prop := ∀ y ∈ ys,Nm y
abbrev teSign : TE := tOp rIxS (tVar 2) (tCall spDraw [] E0 (tCons (tVar 1) (tCons (tC (.int 26)) tNil)))
theorem ne_flow {H : Hp} {a D : Addr} (hD : H D = none) (hF : FlowAt H a) : D ≠ a := λ z => by
 obtain ⟨o,ho⟩ := hF.some
 rw [z,ho] at hD; cases hD
theorem ext_at {H H1 H4 : Hp} {a D : Addr} {o : HO} (hD : H D = none) (x : Ext a H H4) : Ext a H (upd H4 D o) := λ b u nb hb => by
 rw [upd_ne (ne_of_none hb hD)]; exact x b u nb hb
theorem letters {n : Nat} {D a : Addr} {Q : VK} {H1 : Hp} (hn : n <= 8) (hD : H1 D = none) (hF : FlowAt H1 a)
 (hd : ∀ (ys : List Str) (H' : Hp),ys.length = n -> Signs ys -> FlowAt H' a -> Ext a H1 H' -> H' D = some (.lst (ys.map V.str)) -> Q (.ref D) H') :
 CompLoop (Itr 0 n) D (gName 0) tYes teSign Q [none,some (.ref a),some (.str abc)] H1 := by
 have nD := ne_flow hD hF
 refine comp_range (λ i ys σ H => ∃ (xs : List Str) (v : Option V),ys = xs.map V.str /\ xs.length = i /\ Signs xs /\ σ = [v,some (.ref a),some (.str abc)] /\ FlowAt H a /\ Ext a H1 H) ?_ (by omega) ?_ ?_ ?_
 . exact ⟨[],none,rfl,rfl,(by intro _ z; cases z),rfl,hF.new hD,Ext.new hD⟩
 . rintro i ys σ H ⟨xs,v,rfl,rfl,_⟩;rw [List.length_map]; exact Nat.le_refl _
 . rintro i ys σ H hi hl ⟨xs,v,rfl,rfl,hs,rfl,f,x⟩;refine ⟨_,rfl,_,rfl,a,26,rfl,f,by decide,by decide,λ r H4 r0 r1 f4 x4 => ?_⟩;obtain ⟨c,hc⟩ := abc_at r0 r1;have hl4 : H4 D = some (.lst (xs.map V.str)) := x4 D _ nD hl;refine ⟨abc,r,c,rfl,rfl,abc_len,hc,hl4,xs ++ [⟨#[c]⟩],_,by rw [List.map_append]; rfl,by rw [List.length_append]; rfl,hs.snoc ⟨rfl,az_one (at_mem hc)⟩,rfl,f4.set (Ne.symm nD),ext_at (H1 := H1) hD (x.trans x4)⟩
 . rintro ys σ H hl ⟨xs,v,rfl,e,hs,_,f,x⟩;exact hd xs H e hs f x hl
def wordOf (ys : List Str) : Str := Txt.join "" ys
theorem word_len {ys : List Str} (h : Signs ys) (hl : ys.length <= 8) : (wordOf ys).length <= 68 /\ (ys.map (·.length)).sum + ys.length * (Str.length "") <= 16777216 := by
 have e := signs_sum h
 refine ⟨?_,?_⟩
 . have q := (join_all h).1;show (Txt.join "" ys).length <= 68;omega
 . have e0 : Str.length "" = 0 := by decide
   rw [e,e0]; omega
theorem fold_ge (g : Str) : ∀ (l : List Str) (acc : Array Nat),acc.size <= (l.foldl (λ acc p => acc ++ g.cps ++ p.cps) acc).size
 | [],acc => Nat.le_refl _
 | p :: r,acc => by rw [List.foldl_cons]; exact Nat.le_trans (by rw [Array.size_append,Array.size_append]; omega) (fold_ge g r _)
theorem word_pos {ys : List Str} (h : Signs ys) (hne : ys ≠ []) : 0 < (wordOf ys).length := by
 cases ys with
 | nil => exact absurd rfl hne
 | cons y r =>
  have e : y.cps.size = 1 := (h y List.mem_cons_self).1;have q := fold_ge "" r y.cps;rw [e] at q;exact q
theorem Ext.free {a p : Addr} {H H1 : Hp} (x : Ext a H H1) (f : FlowAt H1 a) (h : H1 p = none) : H p = none := by
 cases e : H p with
 | none => rfl
 | some o => rw [x _ _ (ne_flow h f) e] at h; cases h
def spNames : Sp := λ vs H Q _ => ∃ (a : Addr) (m : Int),vs = [.ref a,.int m] /\ FlowAt H a /\ 1 <= m /\ m <= 6 /\ ∀ (r : Addr) (ys : List Str) (H' : Hp),(ys.length : Int) = m -> Bd ys -> ys.Nodup -> r ≠ a -> H r = none -> FlowAt H' a -> Ext a H H' -> H' r = some (.lst (ys.map V.str)) -> Q (.ref r) H'
abbrev NN : List Str := ["_law_flow_here","_law_many","_law_some","_law_found","_law_k","_law_name","_law_word","_law_at","_law_first","_law_long"]
theorem scNames : FnScope NN ["_law_flow_here","_law_many"] (defScope sNames) := (.of rfl rfl rfl rfl (by decide +kernel))
theorem flat_strs (ys : List Str) : (ys.map V.str).all flatV = true := by
 rw [List.all_map]; exact List.all_eq_true.mpr λ _ _ => rfl
theorem inV_not {y : Str} {ys : List Str} (h : V.str y ∉ ys.map V.str) : inV (.str y) (ys.map V.str) = false := by
 unfold inV
 rw [List.any_eq_false]
 intro z hz
 obtain ⟨u,hu,rfl⟩ := List.mem_map.mp hz
 intro q
 have q' : (u == y) = true := q
 have e : u = y := by simpa using q'
 exact h (List.mem_map.mpr ⟨u,hu,by rw [e]⟩)
theorem Bd.snoc {ys : List Str} (h : Bd ys) {y : Str} (e : Nm y) : Bd (ys ++ [y]) := λ z hz => (List.mem_append.mp hz).elim (h z) λ q => by rw [List.mem_singleton.mp q]; exact e
theorem Bd.set {ys : List Str} (h : Bd ys) {y : Str} (e : Nm y) (i : Nat) : Bd (ys.set i y) := λ z hz => (List.mem_or_eq_of_mem_set hz).elim (h z) λ q => by rw [q]; exact e
theorem app_len (x y : Str) : (x ++ y).length = x.length + y.length := by
 show (x.cps ++ y.cps).size = x.cps.size + y.cps.size
 simp
theorem line_200 : (1000 : Nat) <= sizeLine := by rw [sizeLine_eq]; decide
theorem not_found {ys : List Str} (h : ys.length < 26) : ∃ (j : Nat) (c : Nat),j < 26 /\ abc.cps[j]? = some c /\ inV (.str ⟨#[c]⟩) (ys.map V.str) = false := by
 obtain ⟨v,h1,h2⟩ := pig (ys.map V.str) (abc.cps.toList.map λ c => V.str ⟨#[c]⟩) (by decide +kernel) (by rw [List.length_map,List.length_map]; exact Nat.lt_of_lt_of_le h (by decide +kernel))
 obtain ⟨c,hc,rfl⟩ := List.mem_map.mp h1
 obtain ⟨j,hj⟩ := List.getElem?_of_mem hc
 refine ⟨j,c,?_,by simpa using hj,inV_not h2⟩
 have := (List.getElem?_eq_some_iff.mp hj).1
 exact Nat.lt_of_lt_of_le this (by decide +kernel)
theorem inV_mem {y : Str} {ys : List Str} : inV (.str y) (ys.map V.str) = true ↔ y ∈ ys := by
 unfold inV
 rw [List.any_map,List.any_eq_true]
 constructor
 . rintro ⟨x,hx,q⟩;have q' : (x == y) = true := q;have e : x = y := by simpa using q'
   rw [<- e]; exact hx
 . intro h;exact ⟨y,h,show (y == y) = true by simp⟩
theorem inV_nmem {y : Str} {ys : List Str} : inV (.str y) (ys.map V.str) = false ↔ y ∉ ys := by
 rw [<- inV_mem]; simp
theorem nodup_snoc {α : Type} {ys : List α} {y : α} (h : ys.Nodup) (n : y ∉ ys) : (ys ++ [y]).Nodup := by
 rw [List.nodup_append]
 refine ⟨h,(by simp),λ a ha b hb e => ?_⟩
 rw [List.mem_singleton.mp hb] at e
 rw [e] at ha
 exact n ha
theorem nodup_set0 {us : List Str} {x : Str} (h : us.Nodup) (n : x ∉ us) : (us.set 0 x).Nodup := by
 cases us with
 | nil => exact h
 | cons u r =>
  rw [List.set_cons_zero];rw [List.nodup_cons] at h ⊢;exact ⟨λ z => n (List.mem_cons_of_mem _ z),h.2⟩
theorem nodup_map_range {f : Nat -> Str} {n : Nat} (h : ∀ i j,i < j -> j < n -> f i ≠ f j) : ((List.range n).map f).Nodup := by
 unfold List.Nodup
 rw [List.pairwise_map]
 refine List.Pairwise.imp_of_mem (R := λ a b => a < b) (λ {a b} _ hb hab => ?_) List.pairwise_lt_range
 exact h a b hab (List.mem_range.mp hb)
def abcC (r : Int) : Nat := abc.cps.toList.getD r.toNat 0
theorem abc_atC {r : Int} (h0 : 0 <= r) (h1 : r < 26) : atI abc.cps.toList r = some (abcC r) := by
 have hl : abc.cps.toList.length = 26 := by decide +kernel
 have hk : r.toNat < abc.cps.toList.length := by omega
 have ek : r = ((r.toNat : Nat) : Int) := by omega
 have q : atI abc.cps.toList ((r.toNat : Nat) : Int) = some (abcC r) := atI_nat (by unfold abcC; rw [List.getD_eq_getElem?_getD,List.getElem?_eq_getElem hk]; rfl)
 rw [<- ek] at q
 exact q
theorem abcC_inj {r s : Int} (r0 : 0 <= r) (r1 : r < 26) (s0 : 0 <= s) (s1 : s < 26) (e : abcC r = abcC s) : r = s := by
 have hl : abc.cps.toList.length = 26 := by decide +kernel
 have nd : abc.cps.toList.Nodup := by decide +kernel
 have hr : r.toNat < abc.cps.toList.length := by omega
 have hs : s.toNat < abc.cps.toList.length := by omega
 unfold abcC at e
 rw [List.getD_eq_getElem?_getD,List.getD_eq_getElem?_getD,List.getElem?_eq_getElem hr,List.getElem?_eq_getElem hs] at e
 have := (List.getElem_inj nd).mp e
 omega
theorem abcC_mem {r : Int} (h0 : 0 <= r) (h1 : r < 26) : abcC r ∈ abc.cps.toList := at_mem (abc_atC h0 h1)
def famS (word : Str) (at' first : Int) (k : Nat) : Str := Txt.slice word none (some at') ++ ⟨#[abcC ((first + 7 * (0 + (k : Int))) % 26)]⟩ ++ Txt.slice word (some at') none
theorem fam_ne {word : Str} {at' first : Int} {i j : Nat} (h : i < j) (hj : j < 6) : famS word at' first i ≠ famS word at' first j := λ e => by
 have e1 : (famS word at' first i).cps.toList = (famS word at' first j).cps.toList := by rw [e]
 have q : ∀ k : Nat,(famS word at' first k).cps.toList = (Txt.slice word none (some at')).cps.toList ++ ([abcC ((first + 7 * (0 + (k : Int))) % 26)] ++ (Txt.slice word (some at') none).cps.toList) := λ k => by
  show ((Txt.slice word none (some at')).cps ++ #[abcC ((first + 7 * (0 + (k : Int))) % 26)] ++ (Txt.slice word (some at') none).cps).toList = _
  simp
 rw [q i,q j] at e1
 have e2 := List.append_cancel_right (List.append_cancel_left e1)
 have e3 : abcC ((first + 7 * (0 + (i : Int))) % 26) = abcC ((first + 7 * (0 + (j : Int))) % 26) := (List.cons.inj e2).1
 have e4 := abcC_inj (by omega) (by omega) (by omega) (by omega) e3
 omega
theorem fam_nm {word : Str} {at' first : Int} {k : Nat} (hw : AZ word) (hl : word.length <= 7) (h0 : 0 <= at') (h1 : at' <= word.length) : Nm (famS word at' first k) := by
 have l1 := app_len (Txt.slice word none (some at')) ⟨#[abcC ((first + 7 * (0 + (k : Int))) % 26)]⟩
 have l2 := app_len (Txt.slice word none (some at') ++ ⟨#[abcC ((first + 7 * (0 + (k : Int))) % 26)]⟩) (Txt.slice word (some at') none)
 have l3 : Str.length ⟨#[abcC ((first + 7 * (0 + (k : Int))) % 26)]⟩ = 1 := rfl
 have l4 := len_parts (x := word) h0 h1
 have l5 : (famS word at' first k).length = (Txt.slice word none (some at') ++ ⟨#[abcC ((first + 7 * (0 + (k : Int))) % 26)]⟩ ++ Txt.slice word (some at') none).length := rfl
 refine ⟨by omega,by omega,az_app (az_app (az_to hw h0 h1) (az_one (abcC_mem (Int.emod_nonneg _ (by decide)) (Int.emod_lt_of_pos _ (by decide))))) (az_from hw h0 h1)⟩
theorem fam_nodup {word : Str} {at' first : Int} {n : Nat} (hn : n <= 6) : ((List.range n).map (famS word at' first)).Nodup := nodup_map_range λ i j h hj => fam_ne h (by omega)
end KK
namespace KK
open PySem L2 PyProof.Rows
section
variable {P : Program} {w : World} {K : W.Frag} {mg : Str -> Option Value} {base : Heap} {f g : Addr} {fd gd : FuncData} {k : Nat}
theorem unused {D q : Addr} {Q : VK} {H1 : Hp} {ys : List Str} (hy : ys.length < 26) (hD : H1 D = none) (hq : H1 q = some (.lst (ys.map V.str)))
 (hd : ∀ (zs : List Str),zs ≠ [] -> Signs zs -> (∀ z ∈ zs,z ∉ ys) -> ∀ H',(∀ b o,H1 b = some o -> H' b = some o) -> H' D = some (.lst (zs.map V.str)) -> Q (.ref D) H') :
 CompLoop (Its abc) D (gName 0) (tTest (tOp (rIn K true) (tVar 0) (tVar 1))) (tVar 0) Q [none,some (.ref q)] H1 := by
 obtain ⟨j0,c0,hj,hc0,hin⟩ := not_found hy
 have nqD : q ≠ D := ne_of_none hq hD
 refine comp_str (λ i zs σ H => ∃ (xs : List Str) (v : Option V),zs = xs.map V.str /\ xs.length <= i /\ Signs xs /\ σ = [v,some (.ref q)] /\ (∀ z ∈ xs,z ∉ ys) /\ (j0 < i -> xs ≠ []) /\ (∀ b o,H1 b = some o -> H b = some o)) ?_ (by decide +kernel) ?_ ?_ ?_
 . exact ⟨[],none,rfl,Nat.le_refl _,(by intro _ z; cases z),rfl,(by intro _ z; cases z),(by intro z; omega),λ b o h => by rw [upd_ne (ne_of_none h hD)]; exact h⟩
 . rintro i zs σ H ⟨xs,v,rfl,h,_⟩;rw [List.length_map]; exact h
 . rintro i c zs σ H hc hl ⟨xs,v,rfl,hle,hs,rfl,hnm,hne,hk⟩;refine ⟨_,rfl,_,rfl,q,_,rfl,.inl (SqL.of (hk _ _ hq)),rfl,flat_strs ys,_,rfl,?_⟩;refine ite2 (λ b => ?_) (λ b => ?_)
   . refine ⟨_,rfl,hl,xs ++ [⟨#[c]⟩],_,by rw [List.map_append]; rfl,by rw [List.length_append,List.length_singleton]; omega,hs.snoc ⟨rfl,az_one (List.mem_of_getElem? (by rw [Array.getElem?_toList]; exact hc))⟩,rfl,λ z hz => ?_,λ _ z => ?_,λ b o h => ?_⟩
     . rcases List.mem_append.mp hz with hz | hz
       . exact hnm z hz
       . rw [List.mem_singleton.mp hz];have b2 : (!inV (.str ⟨#[c]⟩) (ys.map V.str)) = true := by simpa using b
         exact inV_nmem.mp (by simpa using b2)
     . have e := congrArg List.length z;rw [List.length_append,List.length_singleton] at e;simp at e
     . rw [upd_ne (ne_of_none h hD)]; exact hk b o h
   . refine ⟨hl,xs,_,rfl,by omega,hs,rfl,hnm,λ h => ?_,hk⟩
     by_cases hi : j0 < i
     . exact hne hi
     . have e : i = j0 := by omega
       subst e;have e2 : c = c0 := Option.some.inj (hc.symm.trans hc0);rw [<- e2] at hin;exact absurd (show (if true = true then !inV (.str ⟨#[c]⟩) (ys.map V.str) else inV (.str ⟨#[c]⟩) (ys.map V.str)) = true by rw [if_pos rfl,hin]; rfl) b
 . rintro zs σ H hl ⟨xs,v,rfl,_,hs,_,hnm,hne,hk⟩;exact hd xs (hne (Nat.lt_of_lt_of_le hj (by decide +kernel))) hs hnm H hk hl
theorem sl_len (x : Str) (lo hi : Option Int) : (Txt.slice x lo hi).length <= x.length := Txt.slice_le x lo hi
theorem family {D : Addr} {Q : VK} {H1 : Hp} {word : Str} {at' first : Int} {n : Nat} (hw : word.length <= 7) (hz0 : AZ word) (ha0 : 0 <= at') (ha1 : at' <= word.length) (h0 : 0 <= first) (hn : n <= 6) (hD : H1 D = none)
 (hd : ∀ (zs : List Str) H',zs.length = n -> Bd zs -> zs.Nodup -> (∀ b o,H1 b = some o -> H' b = some o) -> H' D = some (.lst (zs.map V.str)) -> Q (.ref D) H') :
 CompLoop (Itr 0 n) D (gName 0) tYes (tOp (λ x y H Q => ∃ i j,x = .str i /\ y = .str j /\ i.length + j.length <= sizeLine /\ Q (.str (i ++ j)) H)
  (tOp (λ x y H Q => ∃ i j,x = .str i /\ y = .str j /\ i.length + j.length <= sizeLine /\ Q (.str (i ++ j)) H) (tSl rSlS (tVar 1) tNoPart (tPart (tVar 2)))
   (tOp rIxS (tVar 3) (tOp (rI (λ _ j => 0 < j) λ i j => .int (i % j)) (tOp (rI0 λ i j => .int (i + j)) (tVar 4) (tOp (rI CMul λ i j => .int (i * j)) (tC (.int 7)) (tVar 0))) (tC (.int 26)))))
  (tSl rSlS (tVar 1) (tPart (tVar 2)) tNoPart)) Q [none,some (.str word),some (.int at'),some (.str abc),some (.int first)] H1 := by
 have hz : word.length <= sizeLine := Nat.le_trans (by omega) line_200
 refine comp_range (λ i zs σ H => ∃ (xs : List Str) (v : Option V),zs = xs.map V.str /\ xs = (List.range i).map (famS word at' first) /\ xs.length = i /\ Bd xs /\ σ = [v,some (.str word),some (.int at'),some (.str abc),some (.int first)] /\ (∀ b o,H1 b = some o -> H b = some o)) ?_ (by omega) ?_ ?_ ?_
 . exact ⟨[],none,rfl,rfl,rfl,(by intro _ z; cases z),rfl,λ b o h => by rw [upd_ne (ne_of_none h hD)]; exact h⟩
 . rintro i zs σ H ⟨xs,v,rfl,_,rfl,_⟩;rw [List.length_map]; exact Nat.le_refl _
 . rintro i zs σ H hi hl ⟨xs,v,rfl,hfam,rfl,hb,rfl,hk⟩;have hc := abc_atC (Int.emod_nonneg (first + 7 * (0 + (xs.length : Int))) (show (26 : Int) ≠ 0 by decide)) (Int.emod_lt_of_pos _ (by decide));generalize hcc : abcC ((first + 7 * (0 + (xs.length : Int))) % 26) = c at hc;have l1 := sl_len word none (some at');have l2 := sl_len word (some at') none;have l3 : Str.length ⟨#[c]⟩ = 1 := rfl;have l4 := app_len (Txt.slice word none (some at')) ⟨#[c]⟩;have l5 := app_len (Txt.slice word none (some at') ++ ⟨#[c]⟩) (Txt.slice word (some at') none);have hs := line_200;refine ⟨_,rfl,_,rfl,_,rfl,word,rfl,hz,_,rfl,_,rfl,_,rfl,_,_,rfl,rfl,.inl ⟨by decide,by decide⟩,_,_,rfl,rfl,_,_,rfl,rfl,(show (0 : Int) < 26 by decide),abc,_,c,rfl,rfl,abc_len,hc,_,_,rfl,rfl,by omega,?_⟩;refine ⟨_,rfl,_,rfl,_,rfl,word,rfl,hz,_,_,rfl,rfl,by omega,hl,xs ++ [_],_,by rw [List.map_append]; rfl,?fam,by rw [List.length_append]; rfl,hb.snoc ?nm,rfl,λ b o h => ?_⟩
   case nm =>
    rw [<- hcc];exact fam_nm (word := word) (at' := at') (first := first) (k := xs.length) hz0 hw ha0 ha1
   case fam =>
    rw [List.range_succ,List.map_append,<- hfam,<- hcc]; rfl
   rw [upd_ne (ne_of_none h hD)]; exact hk b o h
 . rintro zs σ H hl ⟨xs,v,rfl,hfam,e,hb,_,hk⟩;exact hd xs H e hb (by rw [hfam]; exact fam_nodup hn) hk hl
theorem ok_names (F : Fun K "_law_names" "_law_names" sNames f fd) (G : FnOk P w K mg base CX0 k g gd ["_law_flow_here","_law_many"] spDraw) (bG : Binds K gd ["_law_flow_here","_law_many"] []) (kG : W.keepIn K (.ref g) = true) (mG : mg "_law_draw" = some (.ref g))
 (mr : mg "range" = none) (ml : mg "len" = none) : FnOk P w K mg base CX0 (k + 1) f fd ["_law_flow_here","_law_many"] spNames := by
 refine F.ok scNames (λ vs H Q E h => ?_) (λ cdv A outer s H vs Q E hr h => ?_)
 . obtain ⟨a,m,rfl,_⟩ := h;rfl
 obtain ⟨a,m,rfl,hF,m1,m6,q⟩ := h
 have nd := scNames.nd
 refine ⟨_,pss_cons (ps_set (i := 2) nd rfl (Or.inr rfl) pe_str) (pss_cons (ps_if (pt_cmpR op_eq (pe_call G hr rfl mG kG bG .nil pass0 (pa_cons (pv 0) (pa_cons pe_int pa_nil))) pe_int (nomark _))
  (pss_cons (ps_set (i := 3) nd rfl (Or.inr rfl) (pe_lst pa_nil))
  (pss_cons (ps_for PassesOwn.never rfl (pi_range1 rfl mr (pa_cons (pv 1) pa_nil)) (pg_name (i := 4) nd rfl (Or.inl rfl))
   (pss_cons (ps_set (i := 5) nd rfl (Or.inl rfl) (pe_bm PySem.F.plainAttrs_str PySem.F.slot_str_join PySem.F.type_str_join mt_join pe_str (pa_cons
    (pe_comp (own := ["_law_j"]) (fr := ["_law_flow_here","_law_some"]) (idx := [0,2]) rfl (by show CompScope _ _ _ (defScope sNames); exact (.of rfl (by decide +kernel)))
     (pi_range1 rfl mr (pa_cons (pe_op op_add pe_int (pe_call G hr rfl mG kG bG .nil pass0 (pa_cons (pv 0) (pa_cons pe_int pa_nil)))) pa_nil))
     (λ _ _ _ _ _ => pg_name (i := 0) (by show List.Nodup (["_law_j","_law_flow_here","_law_some"] : List Str); decide +kernel) rfl (Or.inl rfl) (Or.inr rfl)) (λ _ _ _ _ _ => pts_nil)
     (λ _ _ _ _ _ => pe_ix ix_str (pv 2) (pe_call G hr rfl mG kG bG .nil pass0 (pa_cons (pv 1) (pa_cons pe_int pa_nil))) (λ _ _ => rfl)) rfl (hat_of rfl)) pa_nil)))
   (pss_cons (ps_if (pt_cmpR op_in_seq (pv 5) (pv 3) rfl)
    (pss_one (ps_set (i := 5) nd rfl (Or.inl rfl) (pe_ix ix_list
     (pe_comp (own := ["_law_one"]) (fr := ["_law_found"]) (idx := [3]) (tc := tTest (tOp (rIn K true) (tVar 0) (tVar 1))) rfl (by show CompScope _ _ _ (defScope sNames); exact (.of rfl (by decide +kernel)))
      (pi_str (pv 2)) (λ _ _ _ _ _ => pg_name (i := 0) (by show List.Nodup (["_law_one","_law_found"] : List Str); decide +kernel) rfl (Or.inl rfl) (Or.inr rfl)) (λ _ _ _ _ _ => pts_one (pt_cmpR op_notIn_seq (pv 0) (pv 1) rfl)) (λ _ _ _ _ _ => pv 0) rfl (hat_of rfl))
     pe_int (λ _ _ => rfl)))) pss_nil)
   (pss_one (ps_expr (pe_bm PySem.F.plainAttrs_list PySem.F.slot_list_append PySem.F.type_list_append mt_append (pv 3) (pa_cons (pv 5) pa_nil)))))))
  (pss_one (ps_ret (pv 3))))) pss_nil) (pss_cons (ps_set (i := 6) nd rfl (Or.inr rfl) (pe_bm PySem.F.plainAttrs_str PySem.F.slot_str_join PySem.F.type_str_join mt_join pe_str (pa_cons
   (pe_comp (own := ["_law_j"]) (fr := ["_law_flow_here","_law_some"]) (idx := [0,2]) rfl (by show CompScope _ _ _ (defScope sNames); exact (.of rfl (by decide +kernel)))
    (pi_range1 rfl mr (pa_cons (pe_call G hr rfl mG kG bG .nil pass0 (pa_cons (pv 0) (pa_cons pe_int pa_nil))) pa_nil))
    (λ _ _ _ _ _ => pg_name (i := 0) (by show List.Nodup (["_law_j","_law_flow_here","_law_some"] : List Str); decide +kernel) rfl (Or.inl rfl) (Or.inr rfl)) (λ _ _ _ _ _ => pts_nil)
    (λ _ _ _ _ _ => pe_ix ix_str (pv 2) (pe_call G hr rfl mG kG bG .nil pass0 (pa_cons (pv 1) (pa_cons pe_int pa_nil))) (λ _ _ => rfl)) rfl (hat_of rfl)) pa_nil))) (pss_cons (ps_set (i := 7) nd rfl (Or.inr rfl) (pe_call G hr rfl mG kG bG .nil pass0 (pa_cons (pv 0) (pa_cons (pe_op op_add (pe_callB call_len_str rfl ml PySem.boot_len (pa_cons (pv 6) pa_nil)) pe_int) pa_nil)))) (pss_cons (ps_set (i := 8) nd rfl (Or.inr rfl) (pe_call G hr rfl mG kG bG .nil pass0 (pa_cons (pv 0) (pa_cons pe_int pa_nil)))) (pss_cons (ps_set (i := 3) nd rfl (Or.inr rfl)
   (pe_comp (own := ["_law_k"]) (fr := ["_law_word","_law_at","_law_some","_law_first"]) (idx := [6,7,2,8]) rfl (by show CompScope _ _ _ (defScope sNames); exact (.of rfl (by decide +kernel)))
    (pi_range1 rfl mr (pa_cons (pv 1) pa_nil))
    (λ _ _ _ _ _ => pg_name (i := 0) (by show List.Nodup (["_law_k","_law_word","_law_at","_law_some","_law_first"] : List Str); decide +kernel) rfl (Or.inl rfl) (Or.inr rfl)) (λ _ _ _ _ _ => pts_nil)
    (λ _ _ _ _ _ => pe_op op_add_str (pe_op op_add_str (pe_slice sl_str (pv 1) po_none (po_some (pv 2))) (pe_ix ix_str (pv 3) (pe_op op_mod (pe_op op_add (pv 4) (pe_op op_mul pe_int (pv 0))) pe_int) (λ _ _ => rfl))) (pe_slice sl_str (pv 1) (po_some (pv 2)) po_none)) rfl (hat_of rfl))) (pss_cons (ps_if (pt_cmpR op_eq (pe_call G hr rfl mG kG bG .nil pass0 (pa_cons (pv 0) (pa_cons pe_int pa_nil))) pe_int (nomark _))
  (pss_cons (ps_set (i := 9) nd rfl (Or.inl rfl) (pe_op op_add_str (pv 6) (pe_slice sl_str pe_str (po_some (pe_callB call_len_str rfl ml PySem.boot_len (pa_cons (pv 6) pa_nil))) po_none)))
  (pss_one (ps_if (pt_cmpR op_notIn_seq (pv 9) (pv 3) rfl) (pss_one (ps_asg (pv 9) (pg_sub (pv 3) pe_int set_list))) pss_nil))) pss_nil) (pss_one (ps_ret (pv 3))))))))),?_⟩
 have hmN : m.toNat <= 6 := by omega
 refine ⟨_,rfl,a,3,rfl,hF,by decide,by decide,λ r0 H0 _ _ f0 x0 => ⟨rfl,_,rfl,?_⟩⟩
 refine ite2 (λ c => ?_) (λ c => ?_)
 . refine ⟨tiny (show 0 <= 1000 by decide),λ q0 hq0 => ?_⟩;have nq := ne_flow hq0 f0;refine ⟨_,rfl,m,rfl,by omega,by omega,for_range (n := m.toNat) (λ i σ H => ∃ (ys : List Str) (v4 v5 v6 v7 v8 v9 : Option V),σ = [some (.ref a),some (.int m),some (.str abc),some (.ref q0),v4,v5,v6,v7,v8,v9] /\ ys.length = i /\ Bd ys /\ ys.Nodup /\ FlowAt H a /\ Ext a H0 H /\ H q0 = some (.lst (ys.map V.str))) ?_ ?_ ?_⟩
   . exact ⟨[],_,_,_,_,_,_,rfl,rfl,(by intro _ z; cases z),List.nodup_nil,f0.new hq0,Ext.new hq0,upd_same⟩
   . rintro i σ H ii ⟨ys,v4,v5,v6,v7,v8,v9,rfl,rfl,hb,hnd,fl,xl,hl⟩;refine ⟨rfl,_,rfl,a,8,rfl,fl,by decide,by decide,λ r1 H1 r10 r11 f1 x1 => ⟨_,_,rfl,rfl,_,rfl,by omega,by omega,λ D hD => letters (by omega) hD f1 λ zs H2 e2 s2 f2 x2 d2 => ?_⟩⟩;obtain ⟨wl,ws⟩ := word_len s2 (by omega);have l2 : H2 q0 = some (.lst (ys.map V.str)) := x2 _ _ nq (x1 _ _ nq hl);refine ⟨_,D,zs,rfl,rfl,SqL.of d2,ws,?_⟩;have step : ∀ (nm : Str) (H3 : Hp),Nm nm -> nm ∉ ys -> FlowAt H3 a -> Ext a H0 H3 -> H3 q0 = some (.lst (ys.map V.str)) -> ∃ v,[some (V.ref a),some (.int m),some (.str abc),some (.ref q0),some (.int (0 + (ys.length : Int))),some (.str nm),v6,v7,v8,v9][3]? = some (some v) /\ (tyV K "list" v H3 /\ ∃ v',[some (V.ref a),some (.int m),some (.str abc),some (.ref q0),some (.int (0 + (ys.length : Int))),some (.str nm),v6,v7,v8,v9][5]? = some (some v') /\ rAppend v [v'] H3 λ _ H4 =>
      ∃ (zs : List Str) (v4 v5 v6' v7' v8' v9' : Option V),[some (V.ref a),some (.int m),some (.str abc),some (.ref q0),some (.int (0 + (ys.length : Int))),some (.str nm),v6,v7,v8,v9] = [some (.ref a),some (.int m),some (.str abc),some (.ref q0),v4,v5,v6',v7',v8',v9'] /\ zs.length = ys.length + 1 /\ Bd zs /\ zs.Nodup /\ FlowAt H4 a /\ Ext a H0 H4 /\ H4 q0 = some (.lst (zs.map V.str))) := λ nm H3 hn hni f3 x3 l3 =>
      ⟨_,rfl,.inl ⟨rfl,_,SqL.of l3⟩,_,rfl,q0,_,_,rfl,rfl,l3,Nat.lt_of_lt_of_le (by rw [List.length_map]; omega) line_200,ys ++ [nm],_,_,_,_,_,_,rfl,by rw [List.length_append]; rfl,hb.snoc hn,nodup_snoc hnd hni,f3.set (Ne.symm nq),ext_at (H1 := H0) hq0 x3,by rw [upd_same,List.map_append]; rfl⟩
     refine ⟨_,rfl,_,rfl,q0,_,rfl,.inl (SqL.of l2),rfl,flat_strs ys,_,rfl,?_⟩;refine ite2 (λ _ => ?_) (λ cc => ?_)
     . refine ⟨_,rfl,abc,rfl,λ D2 hD2 => unused (by omega) hD2 l2 λ us une us2 unm H4 k4 d4 => ?_⟩;obtain ⟨u,ur,eu⟩ := List.exists_cons_of_ne_nil une;subst eu;refine ⟨D2,_,_,_,rfl,rfl,SqL.of d4,atI_nat (j := 0) (v := V.str u) rfl,?_⟩;obtain ⟨x,y,z,ef,hz⟩ := f2;exact step u H4 (by have us3 := us2 u List.mem_cons_self; exact ⟨by rw [us3.1]; decide,by rw [us3.1]; decide,us3.2⟩) (unm u List.mem_cons_self) ⟨x,y,z,k4 _ _ ef,hz⟩ (λ b o nb hb' => k4 _ _ ((xl.trans (x1.trans x2)) b o nb hb')) (k4 _ _ l2)
     . exact step _ H2 ⟨word_pos s2 (λ z => by rw [z] at e2; have e3 : 0 = _ := e2; omega),by have w1 : (Txt.join "" zs).length = zs.length := (join_all s2).1; show (Txt.join "" zs).length <= 8; omega,(join_all s2).2⟩ (inV_nmem.mp (by simpa using cc)) f2 (xl.trans (x1.trans x2)) l2
   . rintro σ H ⟨ys,v4,v5,v6,v7,v8,v9,rfl,e,hb,hnd,fl,xl,hl⟩;exact ⟨_,rfl,q q0 ys H (by omega) hb hnd nq (x0.free f0 hq0) fl (x0.trans xl) hl⟩
 . refine ⟨rfl,_,rfl,a,8,rfl,f0,by decide,by decide,λ r1 H1 r10 r11 f1 x1 => ⟨_,rfl,by omega,by omega,λ D hD => letters (by omega) hD f1 λ zs H2 e2 s2 f2 x2 d2 => ?_⟩⟩;obtain ⟨wl,ws⟩ := word_len s2 (by omega);refine ⟨_,D,zs,rfl,rfl,SqL.of d2,ws,?_⟩;have wa := (join_all s2).2;have w7 : (Txt.join "" zs).length <= 7 := by have w1 := (join_all s2).1; omega
   change (Txt.join "" zs).length <= 68 at wl
   generalize Txt.join "" zs = word at wl wa w7 ⊢;have wz : word.length <= sizeLine := Nat.le_trans (by omega) line_200;refine ⟨_,rfl,_,rfl,_,rfl,wz,_,_,rfl,rfl,a,_,rfl,f2,by omega,by omega,λ r3 H3 r30 r31 f3 x3 => ?_⟩;refine ⟨_,rfl,a,26,rfl,f3,by decide,by decide,λ r4 H4 r40 _ f4 x4 => ?_⟩;refine ⟨_,rfl,m,rfl,by omega,by omega,λ D2 hD2 => family w7 wa r30 (by omega) r40 hmN hD2 λ us H5 e5 b5 n5 k5 d5 => ?_⟩;have f5 : FlowAt H5 a := by
    obtain ⟨x,y,z,ef,hz⟩ := f4;exact ⟨x,y,z,k5 _ _ ef,hz⟩
   have n2 := ne_flow hD2 f4;have fr : H D2 = none := (x0.trans (x1.trans (x2.trans (x3.trans x4)))).free f4 hD2;have x5 : Ext a H H5 := λ b o nb hb => k5 _ _ ((x0.trans (x1.trans (x2.trans (x3.trans x4)))) b o nb hb);refine ⟨_,rfl,a,4,rfl,f5,by decide,by decide,λ r6 H6 _ _ f6 x6 => ⟨rfl,_,rfl,?_⟩⟩;have d6 := x6 _ _ n2 d5;refine ite2 (λ _ => ?_) (λ _ => ?_)
   . have ll := sl_len "zzzzzzzz" (some (word.length : Int)) none;have l8 : Str.length "zzzzzzzz" = 8 := by decide
     have la := app_len word (Txt.slice "zzzzzzzz" (some (word.length : Int)) none);have hs := line_200;have zAZ : AZ "zzzzzzzz" := by intro c hc; revert c; decide +kernel
     have lq := len_parts (x := "zzzzzzzz") (j := (word.length : Int)) (by omega) (by omega);have lr := congrArg List.length (slice_to (x := "zzzzzzzz") (j := (word.length : Int)) (by omega) (by omega));rw [<- len_list,List.length_take,<- len_list] at lr;have lp : 0 < word.length + (Txt.slice "zzzzzzzz" (some (word.length : Int)) none).length := by
      rcases Nat.eq_zero_or_pos word.length with h | h
      . rw [h]; decide
      . omega
     refine ⟨_,rfl,_,rfl,_,rfl,wz,_,rfl,_,rfl,by omega,_,_,rfl,rfl,by omega,?_⟩;refine ⟨_,rfl,_,rfl,D2,_,rfl,.inl (SqL.of d6),rfl,flat_strs us,_,rfl,?_⟩;refine ite2 (λ cc => ?_) (λ _ => ?_)
     . refine ⟨_,rfl,_,rfl,D2,_,0,0,rfl,rfl,d6,?_,?_⟩
       . unfold ixN;rw [List.length_map,e5,if_pos (by decide),if_pos (by omega)];rfl
       . refine ⟨_,rfl,q D2 (us.set 0 (word ++ Txt.slice "zzzzzzzz" (some (word.length : Int)) none)) _ (by rw [List.length_set]; omega) (b5.set ⟨by omega,by omega,az_app wa (az_from zAZ (by omega) (by omega))⟩ 0) (nodup_set0 n5 (inV_nmem.mp (by simpa using cc))) n2 fr (f6.set (Ne.symm n2)) (λ b o nb hb => ?_) ?_⟩
         . have := x6 _ _ nb (x5 b o nb hb)
           by_cases hbd : b = D2
           . exfalso
             rw [hbd] at hb;have := (x0.trans (x1.trans (x2.trans (x3.trans x4)))) _ _ n2 hb;rw [hD2] at this; cases this
           . rw [upd_ne hbd]; exact this
         . rw [upd_same,List.map_set]
     . exact ⟨_,rfl,q D2 us H6 (by omega) b5 n5 n2 fr f6 (x5.trans x6) d6⟩
   . exact ⟨_,rfl,q D2 us H6 (by omega) b5 n5 n2 fr f6 (x5.trans x6) d6⟩
end
end KK
namespace L2
open PySem PySem.Spec PyProof.Rows
theorem for_enum {K : W.Frag} {a : Addr} {xs : List V} {g : TG} {tb : TS} {D : Ends} {σ : St} {H : Hp} (Pv : Nat -> St -> Hp -> Prop) (h0 : Pv 0 σ H) (hl : ∀ i σ H,i <= xs.length -> Pv i σ H -> SqL K H a xs)
 (hs : ∀ i x σ H T,xs[i]? = some x -> H T = none -> Pv i σ H -> g (.ref T) σ (upd H T (.tup [.int i,x])) λ σ2 H2 => tb { D with nx := Pv (i + 1),ct := Pv (i + 1),bk := D.nx } σ2 H2) (hd : ∀ σ H,Pv xs.length σ H -> D.nx σ H) :
 ∃ W : Nat -> Nat -> St -> Hp -> Prop,(∃ m,W 0 m σ H) /\ ∀ i m σ H,W i m σ H ->
  ((Ite K a).stop i H /\ D.nx σ H) \/ ((Ite K a).go i H /\ ∃ N : St -> Hp -> Prop,(∀ σ' H',N σ' H' -> ∃ m',m' < m /\ W (i + 1) m' σ' H') /\ ∀ x H',(Ite K a).yld i H x H' -> g x σ H' λ σ2 H2 => tb { D with nx := N,ct := N,bk := D.nx } σ2 H2) := by
 refine ⟨λ i m σ H => m = xs.length - i /\ i <= xs.length /\ Pv i σ H,⟨xs.length,by simp,Nat.zero_le _,h0⟩,?_⟩
 rintro i m σ H ⟨rfl,hi,p⟩
 have q := hl i σ H hi p
 by_cases hlt : i < xs.length
 . refine .inr ⟨⟨xs,xs[i],q,by simp [hlt]⟩,Pv (i + 1),λ σ' H' p' => ⟨xs.length - (i + 1),by omega,rfl,hlt,p'⟩,λ x H' y => ?_⟩;obtain ⟨T,hT,rfl,y⟩ := y;obtain ⟨x',hx,rfl⟩ := y xs q;exact hs i x' σ H T hx hT p
 . have e : i = xs.length := by omega
   subst e;exact .inl ⟨⟨xs,q,Nat.le_refl _⟩,hd σ H p⟩
end L2
namespace KK
open PySem L2 PyProof.Rows
def spInit1 (C : Addr) (f1 : Str) : Sp := λ vs H Q _ => ∃ (e t : Addr) (v1 : V),vs = [.ref e,v1] /\ H e = some (ExcO e C t none) /\ ∀ H',XAt H' e C [(f1,v1)] -> (∀ b o,b ≠ e -> H b = some o -> H' b = some o) -> Q .non H'
section
variable {P : Program} {w : World} {K : W.Frag} {mg : Str -> Option Value} {base : Heap} {f C M : Addr} {fd : FuncData} {k : Nat} {st : Stmt} {qual f1 f2 : Str} {p1 p2 p3 p4 p5 p6 p7 p8 : Pos}
theorem ok_init1 (F : Fun K "__init__" qual st f fd) (xc : XC K C M) (a1 : W.findIn K (.ref C) f1 = some none) (S : FnScope ["self",f1] ["self",f1] (defScope st)) (hb : defBody st = [.Assign [.Attribute (.Name "self" p1) f1 p2] (.Name f1 p3) p4])
 (h0 : (defScope st).names.lookup ("self" : Str) = some .local) (h1 : (defScope st).names.lookup f1 = some .local) (d1 : (f1 == ("__debug__" : Str)) = false) (d2 : (f1 == ("__classdict__" : Str)) = false) : FnOk P w K mg base CX0 (k + 1) f fd ["self",f1] (spInit1 C f1) := by
 refine F.ok S (λ vs H Q E h => ?_) (λ cdv A outer s H vs Q E hr h => ?_)
 . obtain ⟨e,t,v1,rfl,_⟩ := h;rfl
 obtain ⟨e,t,v1,rfl,he,q⟩ := h
 rw [hb]
 refine ⟨_,pss_one (ps_fldX xc a1 (pv 0 rfl (Or.inl h0)) (pv 1 rfl (Or.inl h1) d1 d2)),?_⟩
 refine ⟨_,rfl,_,rfl,e,rfl,.inl ⟨t,he,λ dx hd hn => q _ ⟨t,.inr ⟨dx,by rw [upd_ne (Ne.symm hn)]; exact upd_same,upd_same,hn⟩⟩ λ b o nb hb' => ?_⟩⟩
 rw [upd_ne (ne_of_none hb' hd),upd_ne nb]; exact hb'
variable {D : Addr} {cd : ClassData}
theorem pe_neg1 {X : Cx} {j : Nat} {p pos : Pos} : PE X (.UnaryOp .USub (.Constant (.int 1) j p) pos) (λ _ H Q => Q (.int (-1)) H) := λ pins s σ H Q I h => pe_un un_neg pe_int pins s σ H Q I ⟨1,rfl,h⟩
end
end KK
namespace KK
open PySem L2 PyProof.Rows KKM
variable {P : Program} {w : World} {K : W.Frag} {mg : Str -> Option Value} {base : Heap} {f g g2 g3 C M CT ft g4 CB CG CN g5 g6 g7 : Addr} {fd gd gd2 gd3 ftd gd4 gd5 gd6 gd7 : FuncData} {k j : Nat}
structure Fn (P : Program) (w : World) (K : W.Frag) (mg : Str -> Option Value) (base : Heap) (k : Nat) (x : Str) (ps : List Str) (sp : Sp) (g : Addr) (gd : FuncData) : Prop where
 ok : FnOk P w K mg base CX0 k g gd ps sp
 bn : Binds K gd ps []
 kp : W.keepIn K (.ref g) = true
 at_ : mg x = some (.ref g)
structure Bt (mg : Str -> Option Value) : Prop where
 len_ : mg "len" = none
 range_ : mg "range" = none
 max_ : mg "max" = none
 sorted_ : mg "sorted" = none
 tuple_ : mg "tuple" = none
 list_ : mg "list" = none
 set_ : mg "set" = none
 int_ : mg "int" = none
 isinstance_ : mg "isinstance" = none
 all_ : mg "all" = none
 str_ : mg "str" = none
 bool_ : mg "bool" = none
 min_ : mg "min" = none
 dict_ : mg "dict" = none
 any_ : mg "any" = none
 enumerate_ : mg "enumerate" = none
 zip_ : mg "zip" = none
 repr_ : mg "repr" = none
abbrev s_law_houses : Stmt := top 24
abbrev s_law_desks : Stmt := top 25
def TK (H H' : Hp) : Prop := ∀ b xs,H b = some (.tup xs) -> H' b = some (.tup xs)
theorem TK.trans {H H1 H2 : Hp} (x : TK H H1) (y : TK H1 H2) : TK H H2 := λ b o h => y b o (x b o h)
theorem TK.lst {H : Hp} {p : Addr} {ys : List V} {o : HO} (h : H p = some (.lst ys)) : TK H (upd H p o) := λ b xs q => by rw [upd_ne (ne_of q h (λ z => nomatch z))]; exact q
theorem Ext.tk {a : Addr} {H H' : Hp} (x : Ext a H H') (f : FlowAt H a) : TK H H' := λ b xs q => by
 obtain ⟨_,_,_,e,_⟩ := f
 exact x b _ (ne_of q e (λ z => nomatch z)) q
theorem _root_.L2.Same.tk {H H' : Hp} (x : Same H H') : TK H H' := λ b xs q => x b _ q
theorem _root_.L2.Same.ext {a : Addr} {H H' : Hp} (x : Same H H') : Ext a H H' := λ b o _ q => x b o q
theorem _root_.L2.Same.flow {a : Addr} {H H' : Hp} (x : Same H H') (f : FlowAt H a) : FlowAt H' a := by
 obtain ⟨i,j,k,e,r⟩ := f
 exact ⟨i,j,k,x _ _ e,r⟩
theorem _root_.L2.Same.tup {K : W.Frag} {H H' : Hp} {a : Addr} {xs : List V} (e : Same H H') (h : SqT K H a xs) : SqT K H' a xs := by
 rcases h with (h | ⟨o,h⟩) | h
 . exact .inl (.inl (e _ _ h))
 . exact .inl (.inr ⟨o,e _ _ h⟩)
 . exact .inr h
theorem sm_new {H : Hp} {p : Addr} {o : HO} (h : H p = none) : Same H (upd H p o) := λ b u q => by rw [upd_ne (ne_of_none q h)]; exact q
theorem _root_.L2.Same.at {H H' : Hp} {p : Addr} {o : HO} (x : Same H H') (h : H p = none) : Same H (upd H' p o) := λ b u q => by rw [upd_ne (ne_of_none q h)]; exact x b u q
theorem Ext.at {a : Addr} {H H' : Hp} {p : Addr} {o : HO} (x : Ext a H H') (h : H p = none) : Ext a H (upd H' p o) := λ b u n q => by rw [upd_ne (ne_of_none q h)]; exact x b u n q
theorem small {n : Nat} (h : n <= 1000) : n < sizeLine := small1000 h
abbrev Row := Str × List Str
def RowAt (H : Hp) (t : Addr) (r : Row) : Prop := ∃ d,H t = some (.tup [.str r.1,.ref d]) /\ H d = some (.tup (r.2.map V.str))
theorem RowAt.keep {H H' : Hp} {t : Addr} {r : Row} (k : TK H H') (h : RowAt H t r) : RowAt H' t r := let ⟨d,h1,h2⟩ := h; ⟨d,k _ _ h1,k _ _ h2⟩
abbrev RowsT (H : Hp) : List Addr -> List Row -> Prop := Paired (RowAt H)
theorem RowsT.keep {H H' : Hp} (k : TK H H') : ∀ {ts : List Addr} {rs : List Row},RowsT H ts rs -> RowsT H' ts rs
 | _,_,.nil => .nil
 | _,_,.cons h r => .cons (h.keep k) (RowsT.keep k r)
theorem RowsT.get {H : Hp} : ∀ {ts : List Addr} {rs : List Row} {i : Nat} {t : Addr},RowsT H ts rs -> ts[i]? = some t -> ∃ r,rs[i]? = some r /\ RowAt H t r
 | _,_,_,_,.nil,e => by simp at e
 | _,_,0,_,.cons h _,e => by
  have e' := Option.some.inj (show some _ = some _ from e);subst e';exact ⟨_,rfl,h⟩
 | _,_,i + 1,_,.cons _ r,e => RowsT.get (i := i) r (by simpa using e)
def RowsAt (H : Hp) (L : Addr) (rs : List Row) : Prop := ∃ ts : List Addr,H L = some (.lst (ts.map V.ref)) /\ RowsT H ts rs
theorem RowsAt.ext {a L : Addr} {H H' : Hp} {rs : List Row} (h : RowsAt H L rs) (x : Ext a H H') (f : FlowAt H a) (n : L ≠ a) : RowsAt H' L rs := let ⟨ts,h1,h2⟩ := h; ⟨ts,x _ _ n h1,h2.keep (x.tk f)⟩
theorem RowsAt.same {L : Addr} {H H' : Hp} {rs : List Row} (h : RowsAt H L rs) (x : Same H H') : RowsAt H' L rs := let ⟨ts,h1,h2⟩ := h; ⟨ts,x _ _ h1,h2.keep (Same.tk x)⟩
abbrev Srt (l : List Str) : Prop := l.Pairwise λ a b => a.cps.toList <= b.cps.toList
structure Good (rs : List Row) : Prop where
 ne : rs ≠ []
 len : rs.length <= 6
 nd : (rs.map (·.1)).Nodup
 row : ∀ r ∈ rs,r.2 ≠ [] /\ r.2.length <= 4 /\ r.2.Nodup
 nm : Bd (rs.map (·.1))
 dn : ∀ r ∈ rs,Bd r.2
 few : ∃ ds : List Str,ds.length <= 4 /\ ∀ r ∈ rs,∀ d ∈ r.2,d ∈ ds
 srt : ∀ r ∈ rs,Srt r.2
def spDesksOf : Sp := λ vs H Q _ => ∃ (L : Addr) (rs : List Row),vs = [.ref L] /\ RowsAt H L rs /\ rs.length <= 7 /\ (∀ r ∈ rs,r.2.length <= 8 /\ r.2.Nodup) /\
 ∀ (r : Addr) (zs : List Str) (H' : Hp),sortedS zs = true -> zs.Nodup -> zs.length <= 56 -> (∀ d,d ∈ zs ↔ ∃ x ∈ rs,d ∈ x.2) -> H r = none -> Same H H' -> H' r = some (.lst (zs.map V.str)) -> Q (.ref r) H'
theorem sc_desks_of : FnScope ["_law_rows","_law_found","_law_letter","_law_some"] ["_law_rows"] (defScope s_law_desks) := (.of rfl rfl rfl rfl (by decide +kernel))
theorem strange {D d q : Addr} {Q : VK} {H1 : Hp} {ds fo : List Str} (hl : ds.length <= 1000) (hD : H1 D = none) (hd : H1 d = some (.tup (ds.map V.str))) (hq : H1 q = some (.lst (fo.map V.str)))
 (hdn : ∀ H',Same H1 H' -> H' D = some (.lst ((ds.filter λ z => decide (z ∉ fo)).map V.str)) -> Q (.ref D) H') :
 CompLoop (Itt K d) D (gName 0) (tTest (tOp (rIn K true) (tVar 0) (tVar 1))) (tVar 0) Q [none,some (.ref q)] H1 := by
 refine comp_tup (xs := ds.map V.str) (λ i ys σ H => ∃ v : Option V,ys = ((ds.take i).filter λ z => decide (z ∉ fo)).map V.str /\ σ = [v,some (.ref q)] /\ Same H1 H) ?_ (by rw [List.length_map]; omega) ?_ ?_ ?_ ?_
 . exact ⟨none,rfl,rfl,sm_new hD⟩
 . rintro i ys σ H ⟨v,rfl,_⟩;rw [List.length_map];exact Nat.le_trans (List.length_filter_le _ _) (by rw [List.length_take]; omega)
 . rintro i ys σ H ⟨v,_,_,x⟩;exact SqT.of (x _ _ hd)
 . rintro i y ys σ H hy hl2 ⟨v,rfl,rfl,x⟩;rw [List.getElem?_map] at hy;obtain ⟨z,hz,rfl⟩ := Option.map_eq_some_iff.mp hy;refine ⟨_,rfl,_,rfl,q,_,rfl,.inl (SqL.of (x _ _ hq)),rfl,flat_strs fo,_,rfl,?_⟩;refine ite2 (λ b => ?_) (λ b => ?_)
   . have hn : z ∉ fo := inV_nmem.mp (by simpa using b);refine ⟨_,rfl,hl2,_,?_,rfl,x.at hD⟩;rw [take_snoc hz,filter_snoc,if_pos (by simpa using hn),List.map_append];rfl
   . have hn : ¬ z ∉ fo := λ c => b (by rw [if_pos rfl,inV_nmem.mpr c]; rfl);refine ⟨hl2,_,?_,rfl,x⟩;rw [take_snoc hz,filter_snoc,if_neg (by simpa using hn)]
 . rintro ys σ H hl2 ⟨v,rfl,_,x⟩;rw [List.length_map,List.take_length] at hl2;exact hdn H x hl2
theorem ok_desks_of (F : Fun K "_law_desks" "_law_desks" s_law_desks f fd) (B : Bt mg) : FnOk P w K mg base CX0 (k + 1) f fd ["_law_rows"] spDesksOf := by
 refine F.ok sc_desks_of (λ vs H Q E h => ?_) (λ cdv A outer s H vs Q E hr h => ?_)
 . obtain ⟨L,rs,rfl,_⟩ := h;rfl
 obtain ⟨L,rs,rfl,⟨ts,hL,hT⟩,h7,hR,q⟩ := h
 have nd := sc_desks_of.nd
 have hlen := Paired.length hT
 refine ⟨_,(pss_cons (ps_set (i := 1) nd rfl (Or.inr rfl) (pe_lst pa_nil)) (pss_cons (ps_for PassesOwn.never rfl (pi_list (pv 0)) (pg_tup rfl (pgs_cons (pg_name (i := 2) nd rfl (Or.inl rfl)) (pgs_cons (pg_name (i := 3) nd rfl (Or.inl rfl)) pgs_nil))) (pss_one (ps_expr (pe_bm PySem.F.plainAttrs_list PySem.F.slot_list_extend PySem.F.type_list_extend mt_extend (pv 1) (pa_cons (pe_comp (g := (gName 0)) (tc := (tTest (tOp (rIn K true) (tVar 0) (tVar 1)))) (te := (tVar 0)) (own := ["_law_desk"]) (fr := ["_law_found"]) (idx := [1]) rfl (by show CompScope _ _ _ (defScope s_law_desks); exact (.of rfl (by decide +kernel))) (pi_tup (pv 3)) (λ _ _ _ _ _ => (pg_name (i := 0) (by show List.Nodup (["_law_desk","_law_found"] : List Str); decide +kernel) rfl (Or.inl rfl) (Or.inr rfl))) (λ _ _ _ _ _ => pts_one (pt_cmpR op_notIn_seq (pv 0) (pv 1) rfl)) (λ _ _ _ _ _ => (pv 0)) rfl (hat_of rfl)) pa_nil))))) (pss_one (ps_ret (pe_callB call_sortedS rfl B.sorted_ (by decide +kernel) (pa_cons (pv 1) pa_nil)))))),?_⟩
 try dsimp only [cxOf,Cx.nox,Cx.wish]
 refine lats3 ?_
 intro D0 σ0 U3 U2
 refine ⟨tiny (show 0 <= 1000 by decide),λ q0 hq0 => ?_⟩
 refine ⟨_,rfl,L,rfl,⟨_,SqL.of ((sm_new hq0) _ _ hL)⟩,for_list (xs := ts.map V.ref)
  (λ i σ H' => ∃ (fo : List Str) (v2 v3 : Option V),σ = [some (.ref L),some (.ref q0),v2,v3] /\ H' q0 = some (.lst (fo.map V.str)) /\ fo.Nodup /\ fo.length <= 8 * i /\ (∀ d,d ∈ fo ↔ ∃ x ∈ rs.take i,d ∈ x.2) /\ Same H H') ?_ ?_ ?_ ?_⟩
 . exact ⟨[],none,none,rfl,upd_same,List.nodup_nil,Nat.zero_le _,λ d => by simp,sm_new hq0⟩
 . rintro i σ H1 _ ⟨fo,v2,v3,_,_,_,_,_,x⟩;exact SqL.of (x _ _ hL)
 . rintro i y σ H1 hy ⟨fo,v2,v3,rfl,h1,nd1,l1,m1,x1⟩;rw [List.getElem?_map] at hy;obtain ⟨t,ht,rfl⟩ := Option.map_eq_some_iff.mp hy;obtain ⟨r,hr',d,e1,e2⟩ := hT.get ht;have hm := List.mem_of_getElem? hr';obtain ⟨r8,rnd⟩ := hR r hm;have hi : i < rs.length := (List.getElem?_eq_some_iff.mp hr').1;refine ⟨t,_,rfl,SqT.of (x1 _ _ e1),rfl,_,_,rfl,_,_,rfl,rfl,?_⟩;refine ⟨_,rfl,.inl ⟨rfl,_,SqL.of h1⟩,_,rfl,d,rfl,⟨_,SqT.of (x1 _ _ e2)⟩,λ D hD => strange (K := K) (by omega) hD (x1 _ _ e2) h1 λ H2 x2 hD2 => ?_⟩;have hlf : (r.2.filter λ z => decide (z ∉ fo)).length <= r.2.length := List.length_filter_le _ _;refine ⟨q0,D,fo.map V.str,_,rfl,rfl,x2 _ _ h1,hD2,Nat.le_of_lt (small (by rw [List.length_map,List.length_map]; omega)),fo ++ (r.2.filter λ z => decide (z ∉ fo)),_,_,rfl,by rw [upd_same,List.map_append],?_,by rw [List.length_append]; omega,?_,(x1.trans x2).at hq0⟩
   . rw [List.nodup_append];refine ⟨nd1,nodup_filter rnd,λ a ha b hb e => ?_⟩;have hb2 := (List.mem_filter.mp hb).2;rw [e] at ha;exact absurd ha (by simpa using hb2)
   . intro d';rw [take_snoc hr',List.mem_append,m1 d']
     constructor
     . rintro (⟨x,hx,hd⟩ | hd)
       . exact ⟨x,List.mem_append_left _ hx,hd⟩
       . exact ⟨r,List.mem_append_right _ (List.mem_singleton.mpr rfl),(List.mem_filter.mp hd).1⟩
     . rintro ⟨x,hx,hd⟩
       rcases List.mem_append.mp hx with hx | hx
       . exact .inl ⟨x,hx,hd⟩
       . rw [List.mem_singleton.mp hx] at hd
         by_cases hf : d' ∈ fo
         . exact .inl ((m1 d').mp hf)
         . exact .inr (List.mem_filter.mpr ⟨hd,by simpa using hf⟩)
 . rintro σ H1 ⟨fo,v2,v3,rfl,h1,nd1,l1,m1,x1⟩;rw [List.length_map] at l1 m1;rw [hlen,List.take_length] at m1;refine ⟨_,rfl,q0,fo,rfl,SqL.of h1,by omega,λ l zs hl hp hs => ?_⟩;exact q l zs _ hs (hp.nodup_iff.mpr nd1) (by rw [hp.length_eq]; omega) (λ d => by rw [hp.mem_iff]; exact m1 d) (x1.free hl) (x1.trans (sm_new hl)) upd_same
theorem pick8 {r : Int} (h0 : 0 <= r) (h1 : r < 8) : ∃ m : Int,atI [V.int 3,V.int 4,V.int 2,V.int 5,V.int 3,V.int 4,V.int 6,V.int 1] r = some (.int m) /\ 1 <= m /\ m <= 6 := by
 obtain ⟨n,rfl⟩ := Int.eq_ofNat_of_zero_le h0
 match n,h1 with
 | 0,_ => exact ⟨3,atI_nat (j := 0) rfl,by decide,by decide⟩
 | 1,_ => exact ⟨4,atI_nat (j := 1) rfl,by decide,by decide⟩
 | 2,_ => exact ⟨2,atI_nat (j := 2) rfl,by decide,by decide⟩
 | 3,_ => exact ⟨5,atI_nat (j := 3) rfl,by decide,by decide⟩
 | 4,_ => exact ⟨3,atI_nat (j := 4) rfl,by decide,by decide⟩
 | 5,_ => exact ⟨4,atI_nat (j := 5) rfl,by decide,by decide⟩
 | 6,_ => exact ⟨6,atI_nat (j := 6) rfl,by decide,by decide⟩
 | 7,_ => exact ⟨1,atI_nat (j := 7) rfl,by decide,by decide⟩
 | n + 8,h => exact absurd h (by omega)
def bitK (m : Int) (j : Nat) : Bool := decide (V.int (Builtin.bitAnd (m / 2 ^ ((0 + (j : Int))).toNat) 1) = V.int 1)
theorem bit_some {m c : Nat} (hc : c <= 4) (h0 : 1 <= m) (h1 : m < 2 ^ c) : ∃ j,j < c /\ bitK (m : Int) j = true := by
 have hm : m < 16 := Nat.lt_of_lt_of_le h1 (Nat.le_trans (Nat.pow_le_pow_right (by decide) hc) (by decide))
 have all : ∀ (m : Fin 16) (c : Fin 5),1 <= m.val -> m.val < 2 ^ c.val -> ∃ j : Fin 4,j.val < c.val /\ bitK (m.val : Int) j.val = true := by decide +kernel
 obtain ⟨j,h2,h3⟩ := all ⟨m,hm⟩ ⟨c,by omega⟩ h0 h1
 exact ⟨j.val,h2,h3⟩
def picked (zs : List Str) (m : Int) (n : Nat) : List Str := ((List.range n).filter (bitK m)).map λ j => zs.getD j ""
theorem picked_nodup {zs : List Str} {m : Int} {n : Nat} (h : zs.Nodup) (hn : n <= zs.length) : (picked zs m n).Nodup := by
 refine KKM.nodup_map_on (λ a ha b hb e => ?_) (nodup_filter List.nodup_range)
 have la : a < zs.length := Nat.lt_of_lt_of_le (List.mem_range.mp (List.mem_filter.mp ha).1) hn
 have lb : b < zs.length := Nat.lt_of_lt_of_le (List.mem_range.mp (List.mem_filter.mp hb).1) hn
 rw [List.getD_eq_getElem?_getD,List.getD_eq_getElem?_getD,List.getElem?_eq_getElem la,List.getElem?_eq_getElem lb] at e
 exact (List.getElem_inj h).mp e
theorem picked_srt {zs : List Str} {m : Int} {n : Nat} (h : Srt zs) (hn : n <= zs.length) : Srt (picked zs m n) := by
 unfold picked Srt
 rw [List.pairwise_map]
 refine List.Pairwise.imp_of_mem (R := λ a b => a < b) (λ {a b} ha hb hab => ?_) (List.Pairwise.filter _ List.pairwise_lt_range)
 have la : a < zs.length := Nat.lt_of_lt_of_le (List.mem_range.mp (List.mem_filter.mp ha).1) hn
 have lb : b < zs.length := Nat.lt_of_lt_of_le (List.mem_range.mp (List.mem_filter.mp hb).1) hn
 rw [List.getD_eq_getElem?_getD,List.getD_eq_getElem?_getD,List.getElem?_eq_getElem la,List.getElem?_eq_getElem lb]
 exact (List.pairwise_iff_getElem.mp h) a b la lb hab
theorem picked_mem {zs : List Str} {m : Int} {n : Nat} (hn : n <= zs.length) {d : Str} (hd : d ∈ picked zs m n) : d ∈ zs := by
 obtain ⟨j,hj,rfl⟩ := List.mem_map.mp hd
 have lj : j < zs.length := Nat.lt_of_lt_of_le (List.mem_range.mp (List.mem_filter.mp hj).1) hn
 rw [List.getD_eq_getElem?_getD,List.getElem?_eq_getElem lj]
 exact List.getElem_mem lj
theorem picked_len (zs : List Str) (m : Int) (n : Nat) : (picked zs m n).length <= n := by
 unfold picked
 rw [List.length_map]
 exact Nat.le_trans (List.length_filter_le _ _) (by rw [List.length_range]; exact Nat.le_refl _)
theorem picked_ne {zs : List Str} {m : Int} {n : Nat} (hc : n <= 4) (h0 : 1 <= m) (h1 : m < 2 ^ n) : picked zs m n ≠ [] := λ e => by
 have h2 : ((m.toNat : Nat) : Int) < ((2 ^ n : Nat) : Int) := by rw [Int.natCast_pow]; exact Int.lt_of_le_of_lt (by omega) h1
 obtain ⟨j,hj,hb⟩ := bit_some (m := m.toNat) (c := n) hc (by omega) (by exact_mod_cast h2)
 have em : ((m.toNat : Nat) : Int) = m := by omega
 rw [em] at hb
 have : j ∈ (List.range n).filter (bitK m) := List.mem_filter.mpr ⟨List.mem_range.mpr hj,hb⟩
 have hne : (List.range n).filter (bitK m) = [] := by
  unfold picked at e;exact List.map_eq_nil_iff.mp e
 rw [hne] at this
 cases this
theorem picks {D l : Addr} {Q : VK} {H1 : Hp} {zs : List Str} {m : Int} {n : Nat} (hn : n <= 4) (hz : zs.length = n) (hD : H1 D = none) (hl : H1 l = some (.lst (zs.map V.str)))
 (hd : ∀ H',Same H1 H' -> H' D = some (.lst ((picked zs m n).map V.str)) -> Q (.ref D) H') :
 CompLoop (Itr 0 n) D (gName 0) (tTest (tOp rEq (tOp (rI0 λ i j => .int (Builtin.bitAnd i j)) (tOp (rI (λ _ j => 0 <= j) λ i j => .int (i / 2 ^ j.toNat)) (tVar 2) (tVar 0)) (tC (.int 1))) (tC (.int 1)))) (tOp (rIxL K) (tVar 1) (tVar 0)) Q [none,some (.ref l),some (.int m)] H1 := by
 refine comp_range (λ i ys σ H => ∃ v : Option V,ys = (picked zs m i).map V.str /\ σ = [v,some (.ref l),some (.int m)] /\ Same H1 H) ?_ (by omega) ?_ ?_ ?_
 . exact ⟨none,rfl,rfl,sm_new hD⟩
 . rintro i ys σ H ⟨v,rfl,_⟩;rw [List.length_map]; exact picked_len zs m i
 . rintro i ys σ H hi hl2 ⟨v,rfl,rfl,x⟩;have hi2 : i < zs.length := by omega
   refine ⟨_,rfl,_,rfl,_,_,rfl,rfl,by omega,_,_,rfl,rfl,rfl,_,rfl,?_⟩;have step : picked zs m (i + 1) = if bitK m i = true then picked zs m i ++ [zs[i]] else picked zs m i := by
    unfold picked;rw [List.range_succ,filter_snoc]
    by_cases hb : bitK m i = true
    . rw [if_pos hb,if_pos hb,List.map_append,List.map_cons,List.map_nil,List.getD_eq_getElem?_getD,List.getElem?_eq_getElem hi2]; rfl
    . rw [if_neg hb,if_neg hb]
   refine ite2 (λ b => ?_) (λ b => ?_)
   . have hb : bitK m i = true := b;refine ⟨_,rfl,_,rfl,l,_,_,.str zs[i],rfl,rfl,SqL.of (x _ _ hl),?_,hl2,_,?_,rfl,x.at hD⟩
     . have e0 : (0 + (i : Int)) = ((i : Nat) : Int) := by omega
       rw [e0];exact atI_nat (by rw [List.getElem?_map,List.getElem?_eq_getElem hi2]; rfl)
     . rw [step,if_pos hb,List.map_append]; rfl
   . have hb : ¬ bitK m i = true := b;refine ⟨hl2,_,?_,rfl,x⟩;rw [step,if_neg hb]
 . rintro ys σ H hl2 ⟨v,rfl,_,x⟩;exact hd H x hl2
def spRows : Sp := λ vs H Q _ => ∃ (a : Addr) (c : Int),vs = [.ref a,.int c] /\ FlowAt H a /\ 1 <= c /\ c <= 4 /\
 ∀ (L : Addr) (rs : List Row) (H' : Hp),Good rs -> L ≠ a -> H L = none -> FlowAt H' a -> Ext a H H' -> RowsAt H' L rs -> Q (.ref L) H'
theorem sc_houses : FnScope ["_law_flow_here","_law_count","_law_desks_here","_law_letters","_law_rows","_law_letter","_law_mask"] ["_law_flow_here","_law_count"] (defScope s_law_houses) := (.of rfl rfl rfl rfl (by decide +kernel))
theorem ok_houses (F : Fun K "_law_houses" "_law_houses" s_law_houses f fd) (B : Bt mg) (G__law_draw : Fn P w K mg base k "_law_draw" ["_law_flow_here","_law_many"] spDraw g gd) (G__law_names : Fn P w K mg base k "_law_names" ["_law_flow_here","_law_many"] spNames g2 gd2) :
 FnOk P w K mg base CX0 (k + 1) f fd ["_law_flow_here","_law_count"] spRows := by
 refine F.ok sc_houses (λ vs H Q E h => ?_) (λ cdv A outer s H vs Q E hr h => ?_)
 . obtain ⟨a,c,rfl,_⟩ := h;rfl
 obtain ⟨a,c,rfl,hF,c1,c4,q⟩ := h
 have nd := sc_houses.nd
 refine ⟨_,(pss_cons (ps_set (i := 2) nd rfl (Or.inr rfl) (pe_callB call_sortedS rfl B.sorted_ (by decide +kernel) (pa_cons (pe_call G__law_names.ok hr rfl G__law_names.at_ G__law_names.kp G__law_names.bn .nil pass0 (pa_cons (pv 0) (pa_cons (pv 1) pa_nil))) pa_nil))) (pss_cons (ps_set (i := 3) nd rfl (Or.inl rfl) (pe_call G__law_names.ok hr rfl G__law_names.at_ G__law_names.kp G__law_names.bn .nil pass0 (pa_cons (pv 0) (pa_cons (pe_ix ix_list (pe_lst (pa_cons pe_int (pa_cons pe_int (pa_cons pe_int (pa_cons pe_int (pa_cons pe_int (pa_cons pe_int (pa_cons pe_int (pa_cons pe_int pa_nil))))))))) (pe_call G__law_draw.ok hr rfl G__law_draw.at_ G__law_draw.kp G__law_draw.bn .nil pass0 (pa_cons (pv 0) (pa_cons pe_int pa_nil))) (λ _ _ => rfl)) pa_nil)))) (pss_cons (ps_set (i := 4) nd rfl (Or.inl rfl) (pe_lst pa_nil)) (pss_cons (ps_for PassesOwn.never rfl (pi_list (pv 3)) (pg_name (i := 5) nd rfl (Or.inl rfl)) (pss_cons (ps_set (i := 6) nd rfl (Or.inr rfl) (pe_op op_add pe_int (pe_call G__law_draw.ok hr rfl G__law_draw.at_ G__law_draw.kp G__law_draw.bn .nil pass0 (pa_cons (pv 0) (pa_cons (pe_op op_sub (pe_op op_shl pe_int (pv 1)) pe_int) pa_nil))))) (pss_cons (ps_if (pt_cmpR op_eq (pe_call G__law_draw.ok hr rfl G__law_draw.at_ G__law_draw.kp G__law_draw.bn .nil pass0 (pa_cons (pv 0) (pa_cons pe_int pa_nil))) pe_int (nomark _)) (pss_one (ps_set (i := 6) nd rfl (Or.inr rfl) (pe_op op_shl pe_int (pe_call G__law_draw.ok hr rfl G__law_draw.at_ G__law_draw.kp G__law_draw.bn .nil pass0 (pa_cons (pv 0) (pa_cons (pv 1) pa_nil)))))) pss_nil) (pss_one (ps_expr (pe_bm PySem.F.plainAttrs_list PySem.F.slot_list_append PySem.F.type_list_append mt_append (pv 4) (pa_cons (pe_tup (pa_cons (pv 5) (pa_cons (pe_callTy call_tuple_of rfl B.tuple_ (by decide +kernel) (pa_cons (pe_comp (g := (gName 0)) (tc := (tTest (tOp rEq (tOp (rI0 λ i j => .int (Builtin.bitAnd i j)) (tOp (rI (λ _ j => 0 <= j) λ i j => .int (i / 2 ^ j.toNat)) (tVar 2) (tVar 0)) (tC (.int 1))) (tC (.int 1))))) (te := (tOp (rIxL K) (tVar 1) (tVar 0))) (own := ["_law_k"]) (fr := ["_law_desks_here","_law_mask"]) (idx := [2,6]) rfl (by show CompScope _ _ _ (defScope s_law_houses); exact (.of rfl (by decide +kernel))) (pi_range1 rfl B.range_ (pa_cons (pv 1) pa_nil)) (λ _ _ _ _ _ => (pg_name (i := 0) (by show List.Nodup (["_law_k","_law_desks_here","_law_mask"] : List Str); decide +kernel) rfl (Or.inl rfl) (Or.inr rfl))) (λ _ _ _ _ _ => pts_one (pt_cmpR op_eq (pe_op op_and (pe_op op_shr (pv 2) (pv 0)) pe_int) pe_int (nomark _))) (λ _ _ _ _ _ => (pe_ix ix_list (pv 1) (pv 0) (λ _ _ => rfl))) rfl (hat_of rfl)) pa_nil)) pa_nil))) pa_nil))))))) (pss_one (ps_ret (pv 4))))))),?_⟩
 try dsimp only [cxOf,Cx.nox,Cx.wish]
 refine lats5 ?_
 intro D0 σ0 U5 U4 U3 U2
 refine ⟨_,rfl,_,rfl,a,c,rfl,hF,c1,by omega,λ r1 ys1 H1 e1 b1 n1 nr1 _ f1 x1 h1 => ⟨r1,ys1,rfl,SqL.of h1,by omega,λ l zs hl hp hs => ?_⟩⟩
 have hz : zs.length = c.toNat := by rw [hp.length_eq]; omega
 have zn : zs.Nodup := hp.nodup_iff.mpr n1
 have zsrt : Srt zs := L2.sorted_pair zs hs
 have zb : Bd zs := λ d hd => b1 d (hp.mem_iff.mp hd)
 have f2 := f1.new (o := .lst (zs.map V.str)) hl
 have x2 : Ext a H (upd H1 l (.lst (zs.map V.str))) := x1.trans (Ext.new hl)
 have h2 : upd H1 l (.lst (zs.map V.str)) l = some (.lst (zs.map V.str)) := upd_same
 have nl : l ≠ a := ne_flow hl f1
 generalize upd H1 l (.lst (zs.map V.str)) = H2 at f2 x2 h2 ⊢
 refine ⟨_,rfl,tiny (show 8 <= 1000 by decide),λ p hp => ⟨_,rfl,a,8,rfl,f2.new hp,by decide,by decide,λ r3 H3 r30 r31 f3 x3 => ?_⟩⟩
 obtain ⟨m,hm,m1,m6⟩ := pick8 r30 r31
 have np : p ≠ a := ne_flow hp f2
 have h3p := x3 _ _ np upd_same
 have h3l : H3 l = some (.lst (zs.map V.str)) := x3 _ _ nl (by rw [upd_ne (ne_of_none h2 hp)]; exact h2)
 refine ⟨p,_,_,_,rfl,rfl,SqL.of h3p,hm,a,m,rfl,f3,m1,m6,λ r4 ys4 H4 e4 b4 n4 nr4 _ f4 x4 h4 => ?_⟩
 have h4l := x4 _ _ nl h3l
 have x4' : Ext a H H4 := (x2.trans ((Ext.new hp).trans x3)).trans x4
 refine ⟨tiny (show 0 <= 1000 by decide),λ q0 hq0 => ?_⟩
 have nq : q0 ≠ a := ne_flow hq0 f4
 have nql : l ≠ q0 := ne_of_none h4l hq0
 have hq1 : H q0 = none := by
  cases e : H q0 with
  | none => rfl
  | some o =>
   have := x4' _ _ nq e;rw [hq0] at this;cases this
 refine ⟨_,rfl,r4,rfl,⟨_,SqL.of ((sm_new hq0) _ _ h4)⟩,for_list (xs := ys4.map V.str)
  (λ i σ H' => ∃ (rs : List Row) (v5 v6 : Option V),σ = [some (.ref a),some (.int c),some (.ref l),some (.ref r4),some (.ref q0),v5,v6] /\ rs.map (·.1) = ys4.take i /\ (∀ r ∈ rs,((r.2 ≠ [] /\ r.2.length <= 4 /\ r.2.Nodup) /\ ∀ d ∈ r.2,d ∈ zs) /\ Srt r.2) /\ FlowAt H' a /\ Ext a H4 H' /\ RowsAt H' q0 rs) ?_ ?_ ?_ ?_⟩
 . exact ⟨[],none,none,rfl,rfl,(by intro _ z; cases z),f4.new hq0,Ext.new hq0,[],upd_same,.nil⟩
 . rintro i σ H5 _ ⟨rs,v5,v6,_,_,_,f5,x5,_⟩;exact SqL.of (x5 _ _ nr4 h4)
 . rintro i y σ H5 hy ⟨rs,v5,v6,rfl,hm5,hg5,f5,x5,ts,h5,t5⟩;refine latg3 ?_;intro D1 σ1 W3 W2;rw [List.getElem?_map] at hy;obtain ⟨z,hz',rfl⟩ := Option.map_eq_some_iff.mp hy;have pw : (1 : Int) * 2 ^ c.toNat = 2 ^ c.toNat := Int.one_mul _;have cc : c.toNat = 1 \/ c.toNat = 2 \/ c.toNat = 3 \/ c.toNat = 4 := by omega
   have pb : (2 : Int) <= 2 ^ c.toNat /\ (2 : Int) ^ c.toNat <= 16 := by rcases cc with e | e | e | e <;> rw [e] <;> decide
   refine ⟨_,rfl,_,rfl,_,_,rfl,rfl,⟨by omega,by omega,by decide⟩,_,_,rfl,rfl,a,_,rfl,f5,by rw [pw]; omega,by rw [pw]; omega,λ r6 H6 r60 r61 f6 x6 => ⟨_,_,rfl,rfl,?_⟩⟩;rw [pw] at r61;refine ⟨_,rfl,a,3,rfl,f6,by decide,by decide,λ r7 H7 r70 r71 f7 x7 => ⟨rfl,_,rfl,?_⟩⟩;refine ite2 (λ _ => ?_) (λ _ => ?_)
   . refine ⟨_,rfl,_,rfl,a,c,rfl,f7,by omega,by omega,λ r8 H8 r80 r81 f8 x8 => ⟨_,_,rfl,rfl,⟨by omega,by omega,by decide⟩,?_⟩⟩;have mk1 : (1 : Int) <= 1 * 2 ^ r8.toNat := by rw [Int.one_mul]; have := Nat.one_le_two_pow (n := r8.toNat); exact_mod_cast this
     have mk2 : (1 : Int) * 2 ^ r8.toNat < 2 ^ c.toNat := by
      rw [Int.one_mul];have := Nat.pow_lt_pow_right (a := 2) (by decide) (show r8.toNat < c.toNat by omega)
      exact_mod_cast this
     have xx := (x6.trans x7).trans x8;have h8q := xx _ _ nq h5;have h8l := xx _ _ nl (x5 _ _ nl h4l);refine ⟨_,rfl,.inl ⟨rfl,_,SqL.of h8q⟩,_,rfl,_,rfl,c,rfl,by omega,by omega,λ D hD => picks (K := K) (n := c.toNat) (m := (1 * 2 ^ r8.toNat)) (by omega) hz hD h8l λ H9 x9 hD9 => ?_⟩;refine ⟨D,_,rfl,.inl ⟨SqL.of hD9,λ d hd => ⟨tiny (show 2 <= 1000 by decide),λ t ht => ?_⟩⟩⟩;have y9 : Same H8 (upd (upd H9 d (.tup ((picked zs (1 * 2 ^ r8.toNat) c.toNat).map V.str))) t (.tup [.str z,.ref d])) := x9.trans ((sm_new hd).trans (sm_new ht));have f9 := Same.flow y9 f8;have ndt : d ≠ t := λ e => by rw [<- e,upd_same] at ht; cases ht
     have hrow : RowAt (upd (upd H9 d (.tup ((picked zs (1 * 2 ^ r8.toNat) c.toNat).map V.str))) t (.tup [.str z,.ref d])) t (z,picked zs (1 * 2 ^ r8.toNat) c.toNat) := ⟨d,upd_same,by rw [upd_ne ndt]; exact upd_same⟩;generalize upd (upd H9 d (.tup ((picked zs (1 * 2 ^ r8.toNat) c.toNat).map V.str))) t (.tup [.str z,.ref d]) = H10 at y9 f9 hrow ⊢;have h10 := y9 _ _ h8q;have tk : TK H5 H10 := (xx.tk f5).trans (Same.tk y9);have lts : ts.length = rs.length := Paired.length t5;have lrs : rs.length <= i := by
      have := congrArg List.length hm5;rw [List.length_map,List.length_take] at this;omega
     have li : i < ys4.length := (List.getElem?_eq_some_iff.mp hz').1;refine ⟨q0,_,_,rfl,rfl,h10,small (by rw [List.length_map]; omega),rs ++ [(z,picked zs (1 * 2 ^ r8.toNat) c.toNat)],_,_,rfl,?_,?_,f9.set (Ne.symm nq),((x5.trans xx).trans (Same.ext y9)).at hq0,ts ++ [t],?_,?_⟩
     . rw [List.map_append,hm5,take_snoc hz']; rfl
     . intro r hr'
       rcases List.mem_append.mp hr' with hr' | hr'
       . exact hg5 r hr'
       . rw [List.mem_singleton.mp hr'];exact ⟨⟨⟨picked_ne (by omega) mk1 mk2,Nat.le_trans (picked_len _ _ _) (by omega),picked_nodup zn (by omega)⟩,λ d hd => picked_mem (by omega) hd⟩,picked_srt zsrt (by omega)⟩
     . rw [upd_same,List.map_append]; rfl
     . exact RowsT.keep (TK.lst h10) (Paired.snoc (RowsT.keep tk t5) hrow)
   . have mk1 : (1 : Int) <= 1 + r6 := by omega
     have mk2 : 1 + r6 < 2 ^ c.toNat := by omega
     have xx := x6.trans x7;have h8q := xx _ _ nq h5;have h8l := xx _ _ nl (x5 _ _ nl h4l);refine ⟨_,rfl,.inl ⟨rfl,_,SqL.of h8q⟩,_,rfl,_,rfl,c,rfl,by omega,by omega,λ D hD => picks (K := K) (n := c.toNat) (m := (1 + r6)) (by omega) hz hD h8l λ H9 x9 hD9 => ?_⟩;refine ⟨D,_,rfl,.inl ⟨SqL.of hD9,λ d hd => ⟨tiny (show 2 <= 1000 by decide),λ t ht => ?_⟩⟩⟩;have y9 : Same H7 (upd (upd H9 d (.tup ((picked zs (1 + r6) c.toNat).map V.str))) t (.tup [.str z,.ref d])) := x9.trans ((sm_new hd).trans (sm_new ht));have f9 := Same.flow y9 f7;have ndt : d ≠ t := λ e => by rw [<- e,upd_same] at ht; cases ht
     have hrow : RowAt (upd (upd H9 d (.tup ((picked zs (1 + r6) c.toNat).map V.str))) t (.tup [.str z,.ref d])) t (z,picked zs (1 + r6) c.toNat) := ⟨d,upd_same,by rw [upd_ne ndt]; exact upd_same⟩;generalize upd (upd H9 d (.tup ((picked zs (1 + r6) c.toNat).map V.str))) t (.tup [.str z,.ref d]) = H10 at y9 f9 hrow ⊢;have h10 := y9 _ _ h8q;have tk : TK H5 H10 := (xx.tk f5).trans (Same.tk y9);have lts : ts.length = rs.length := Paired.length t5;have lrs : rs.length <= i := by
      have := congrArg List.length hm5;rw [List.length_map,List.length_take] at this;omega
     have li : i < ys4.length := (List.getElem?_eq_some_iff.mp hz').1;refine ⟨q0,_,_,rfl,rfl,h10,small (by rw [List.length_map]; omega),rs ++ [(z,picked zs (1 + r6) c.toNat)],_,_,rfl,?_,?_,f9.set (Ne.symm nq),((x5.trans xx).trans (Same.ext y9)).at hq0,ts ++ [t],?_,?_⟩
     . rw [List.map_append,hm5,take_snoc hz']; rfl
     . intro r hr'
       rcases List.mem_append.mp hr' with hr' | hr'
       . exact hg5 r hr'
       . rw [List.mem_singleton.mp hr'];exact ⟨⟨⟨picked_ne (by omega) mk1 mk2,Nat.le_trans (picked_len _ _ _) (by omega),picked_nodup zn (by omega)⟩,λ d hd => picked_mem (by omega) hd⟩,picked_srt zsrt (by omega)⟩
     . rw [upd_same,List.map_append]; rfl
     . exact RowsT.keep (TK.lst h10) (Paired.snoc (RowsT.keep tk t5) hrow)
 . rintro σ H5 ⟨rs,v5,v6,rfl,hm5,hg5,f5,x5,h5⟩;rw [List.length_map,List.take_length] at hm5;refine ⟨_,rfl,q q0 rs H5 ⟨?_,?_,by rw [hm5]; exact n4,λ r hr => (hg5 r hr).1.1,by rw [hm5]; exact b4,λ r hr d hd => zb d ((hg5 r hr).1.2 d hd),⟨zs,by omega,λ r hr => (hg5 r hr).1.2⟩,λ r hr => (hg5 r hr).2⟩ nq hq1 f5 (x4'.trans x5) h5⟩
   . intro e;rw [e] at hm5;have : ys4.length = 0 := by rw [<- hm5]; rfl
     omega
   . have : rs.length = ys4.length := by rw [<- hm5,List.length_map]
     omega
abbrev s_rising : Stmt := top 7
abbrev s_refuse_twice : Stmt := top 8
abbrev s_refuse_steps : Stmt := top 17
abbrev s_refuse_good : Stmt := top 18
abbrev s_Machine___init : Stmt := inClass (top 16) 0
def spInit2 (C : Addr) (f1 f2 : Str) : Sp := λ vs H Q _ => ∃ (e t : Addr) (v1 v2 : V),vs = [.ref e,v1,v2] /\ H e = some (ExcO e C t none) /\ ∀ H',XAt H' e C (putF f2 v2 [(f1,v1)]) -> (∀ b o,b ≠ e -> H b = some o -> H' b = some o) -> Q .non H'
section
variable {st : Stmt} {qual f1 f2 : Str} {p1 p2 p3 p4 p5 p6 p7 p8 : Pos}
theorem ok_init2 (F : Fun K "__init__" qual st f fd) (xc : XC K C M) (a1 : W.findIn K (.ref C) f1 = some none) (a2 : W.findIn K (.ref C) f2 = some none) (S : FnScope ["self",f1,f2] ["self",f1,f2] (defScope st))
 (hb : defBody st = [.Assign [.Attribute (.Name "self" p1) f1 p2] (.Name f1 p3) p4,.Assign [.Attribute (.Name "self" p5) f2 p6] (.Name f2 p7) p8])
 (h0 : (defScope st).names.lookup ("self" : Str) = some .local) (h1 : (defScope st).names.lookup f1 = some .local) (h2 : (defScope st).names.lookup f2 = some .local) (d1 : (f1 == ("__debug__" : Str)) = false) (d2 : (f1 == ("__classdict__" : Str)) = false) (d3 : (f2 == ("__debug__" : Str)) = false) (d4 : (f2 == ("__classdict__" : Str)) = false) :
 FnOk P w K mg base CX0 (k + 1) f fd ["self",f1,f2] (spInit2 C f1 f2) := by
 refine F.ok S (λ vs H Q E h => ?_) (λ cdv A outer s H vs Q E hr h => ?_)
 . obtain ⟨e,t,v1,v2,rfl,_⟩ := h;rfl
 obtain ⟨e,t,v1,v2,rfl,he,q⟩ := h
 rw [hb]
 refine ⟨_,pss_cons (ps_fldX xc a1 (pv 0 rfl (Or.inl h0)) (pv 1 rfl (Or.inl h1) d1 d2)) (pss_one (ps_fldX xc a2 (pv 0 rfl (Or.inl h0)) (pv 2 rfl (Or.inl h2) d3 d4))),?_⟩
 refine ⟨_,rfl,_,rfl,e,rfl,.inl ⟨t,he,λ dx hd hn => ?_⟩⟩
 refine ⟨_,rfl,_,rfl,e,rfl,.inr ⟨t,dx,_,by rw [upd_ne (Ne.symm hn)]; exact upd_same,upd_same,hn,by show 1 < 900; decide,q _ ⟨t,.inr ⟨dx,by rw [upd_ne (Ne.symm hn),upd_ne (Ne.symm hn)]; exact upd_same,upd_same,hn⟩⟩ λ b o nb hb' => ?_⟩⟩
 rw [upd_ne (ne_of_none hb' hd),upd_ne (ne_of_none hb' hd),upd_ne nb]; exact hb'
end
def spRisingN (K : W.Frag) : Sp := λ vs H Q _ => ∃ (p : Addr) (ys : List Int),vs = [.ref p] /\ SqL K H p (ys.map V.int) /\ ys.length < 1000 /\ (∀ zs : List Int,zs.Nodup -> (∀ x,x ∈ zs ↔ x ∈ ys) -> zs.length < 64) /\
 ∀ (t : Addr) (zs : List Int) (H' : Hp),zs.Pairwise (· <= ·) -> zs.Nodup -> (∀ x,x ∈ zs ↔ x ∈ ys) -> H t = none -> Same H H' -> H' t = some (.tup (zs.map V.int)) -> Q (.ref t) H'
theorem sc_rising : FnScope ["things"] ["things"] (defScope s_rising) := (.of rfl rfl rfl rfl (by decide +kernel))
theorem ok_rising (F : Fun K "rising" "rising" s_rising f fd) (B : Bt mg) : FnOk P w K mg base CX0 (k + 1) f fd ["things"] (spRisingN K) := by
 refine F.ok sc_rising (λ vs H Q E h => ?_) (λ cdv A outer s H vs Q E hr h => ?_)
 . obtain ⟨p,ys,rfl,_⟩ := h;rfl
 have nd := sc_rising.nd
 refine ⟨_,(pss_one (ps_ret (pe_callTy call_tuple_of rfl B.tuple_ (by decide +kernel) (pa_cons (pe_callB (call_sorted_setQ rfl) rfl B.sorted_ (by decide +kernel) (pa_cons (pe_callTy (call_set_anyQ rfl) rfl B.set_ (by decide +kernel) (pa_cons (pv 0) pa_nil)) pa_nil)) pa_nil)))),?_⟩
 try dsimp only [cxOf,Cx.nox,Cx.wish]
 obtain ⟨p,ys,rfl,hS,hl,h64,q⟩ := h
 exact ⟨_,rfl,.inr ⟨p,ys,rfl,hS,hl,λ l zs hl hn hm => .inr ⟨l,zs,rfl,upd_same,h64 zs hn hm,λ l2 zs' hl2 hp hs => ⟨l2,_,rfl,.inl ⟨SqL.of upd_same,λ t ht => q t zs' _ hs (hp.nodup_iff.mpr hn) (λ x => (hp.mem_iff).trans (hm x)) ((sm_new hl).free ((sm_new hl2).free ht)) (((sm_new hl).trans (sm_new hl2)).trans (sm_new ht)) upd_same⟩⟩⟩⟩⟩
def dupG : List Str -> List Str -> Option Str
 | _,[] => none
 | seen,z :: zs => if z ∈ seen then some z else dupG (seen ++ [z]) zs
theorem dup_step {zs : List Str} {i : Nat} {z : Str} (h : zs[i]? = some z) : dupG (zs.take i) (zs.drop i) = if z ∈ zs.take i then some z else dupG (zs.take (i + 1)) (zs.drop (i + 1)) := by
 obtain ⟨hi,e⟩ := List.getElem?_eq_some_iff.mp h
 rw [List.drop_eq_getElem_cons hi,e,take_snoc h]
 rfl
structure XM1 (P : Program) (w : World) (K : W.Frag) (mg : Str -> Option Value) (base : Heap) (k : Nat) (x f1 : Str) (C M : Addr) (f : Addr) (fd : FuncData) : Prop where
 xc : XC K C M
 hin : W.findIn K (.ref C) "__init__" = some (some (.ref f))
 hfn : W.isFn K (.ref f) = true
 ok : FnOk P w K mg base CX0 k f fd ["self",f1] (spInit1 C f1)
 bn : Binds K fd ["self",f1] []
 at_ : mg x = some (.ref C)
 fn : W.findIn K (.ref C) f1 = some none
structure XM2 (P : Program) (w : World) (K : W.Frag) (mg : Str -> Option Value) (base : Heap) (k : Nat) (x f1 f2 : Str) (C M : Addr) (f : Addr) (fd : FuncData) : Prop where
 xc : XC K C M
 hin : W.findIn K (.ref C) "__init__" = some (some (.ref f))
 hfn : W.isFn K (.ref f) = true
 ok : FnOk P w K mg base CX0 k f fd ["self",f1,f2] (spInit2 C f1 f2)
 bn : Binds K fd ["self",f1,f2] []
 at_ : mg x = some (.ref C)
 fn : W.findIn K (.ref C) f1 = some none
 fn2 : W.findIn K (.ref C) f2 = some none
structure FnX (P : Program) (w : World) (K : W.Frag) (mg : Str -> Option Value) (base : Heap) (k : Nat) (x : Str) (ps : List Str) (sp : Sp) (g : Addr) (gd : FuncData) : Prop where
 ok : FnOk P w K mg base (CXE P w) k g gd ps sp
 bn : Binds K gd ps []
 kp : W.keepIn K (.ref g) = true
 at_ : mg x = some (.ref g)
abbrev Refuses (H : Hp) (E : XK) (C : Addr) (fs : List (Str × V)) : Prop := ∀ a H',H a = none -> Same H H' -> FlyAt H' a C fs -> E (.ref a) none H'
theorem raised {H H1 : Hp} {E : XK} {f1 : Str} {v : V} {CT : Addr} {vs : List V} (x : Same H H1) (hE : Refuses H E CT [(f1,v)]) :
 ∀ e u,H1 e = none -> H1 u = none -> u ≠ e -> spInit1 CT f1 (.ref e :: [v]) (upd (upd H1 u (.tup vs)) e (ExcO e CT u none)) (λ v H2 => v = .non /\ ∃ a fs,V.ref e = .ref a /\ XAt H2 a CT fs /\ RNew H E CT a fs H2) E0 := λ e u he hu hne =>
 ⟨e,u,v,rfl,upd_same,λ H' hX k => ⟨rfl,e,_,rfl,hX,x.free he,λ b o q => k b o (ne_of_none (x b o q) he) (by rw [upd_ne (ne_of_none (x b o q) he),upd_ne (ne_of_none (x b o q) hu)]; exact x b o q),λ H'' sm fl => hE e H'' (x.free he) sm fl⟩⟩
theorem raised2 {H H1 : Hp} {E : XK} {f1 f2 : Str} {v v2 : V} {CT : Addr} {vs : List V} (x : Same H H1) (hE : Refuses H E CT (putF f2 v2 [(f1,v)])) :
 ∀ e u,H1 e = none -> H1 u = none -> u ≠ e -> spInit2 CT f1 f2 (.ref e :: [v,v2]) (upd (upd H1 u (.tup vs)) e (ExcO e CT u none)) (λ v H2 => v = .non /\ ∃ a fs,V.ref e = .ref a /\ XAt H2 a CT fs /\ RNew H E CT a fs H2) E0 := λ e u he hu hne =>
 ⟨e,u,v,v2,rfl,upd_same,λ H' hX k => ⟨rfl,e,_,rfl,hX,x.free he,λ b o q => k b o (ne_of_none (x b o q) he) (by rw [upd_ne (ne_of_none (x b o q) he),upd_ne (ne_of_none (x b o q) hu)]; exact x b o q),λ H'' sm fl => hE e H'' (x.free he) sm fl⟩⟩
def spTwice (CT : Addr) : Sp := λ vs H Q E => ∃ (p : Addr) (zs : List Str),vs = [.ref p] /\ H p = some (.lst (zs.map V.str)) /\ zs.length <= 60 /\ (dupG [] zs = none -> ∀ H',Same H H' -> Q .non H') /\ ∀ n,dupG [] zs = some n -> Refuses H E CT [("name",.str n)]
theorem sc_twice : FnScope ["names","seen","name"] ["names"] (defScope s_refuse_twice) := (.of rfl rfl rfl rfl (by decide +kernel))
theorem ok_twice (F : Fun K "refuse_twice" "refuse_twice" s_refuse_twice f fd) (B : Bt mg) (xt : XM1 P w K mg base k "Twice" "name" CT M ft ftd) : FnOk P w K mg base (CXE P w) (k + 2) f fd ["names"] (spTwice CT) := by
 refine F.okX sc_twice (λ vs H Q E h => ?_) (λ cdv A outer s H vs Q E hr h => ?_)
 . obtain ⟨p,zs,rfl,_⟩ := h;rfl
 obtain ⟨p,zs,rfl,hS,h60,q,qe⟩ := h
 have nd := sc_twice.nd
 refine ⟨_,(pss_cons (ps_set (i := 1) nd rfl (Or.inl rfl) (pe_callTy0 call_setQ0 rfl B.set_ (by decide +kernel))) (pss_one (ps_for PassesOwn.leaving rfl (pi_list (pv 0)) (pg_name (i := 2) nd rfl (Or.inl rfl)) (pss_cons (ps_if (pt_cmpR op_in_setQ (pv 2) (pv 1) rfl) (pss_one (ps_raise xt.xc rfl (pe_makeX xt.xc xt.hin xt.hfn xt.ok hr rfl xt.at_ xt.bn (pa_cons (pv 2) pa_nil)) raise_new)) pss_nil) (pss_one (ps_expr (pe_bmQ PySem.F.slot_set_add PySem.F.type_set_add mt_addQ (pv 1) (pa_cons (pv 2) pa_nil)))))))),?_⟩
 try dsimp only [cxOf,Cx.nox,Cx.wish]
 refine lats2 ?_
 intro D0 σ0 U2
 refine ⟨rfl,λ l hl => ?_⟩
 refine ⟨_,rfl,p,rfl,⟨_,SqL.of ((sm_new hl) _ _ hS)⟩,for_list (xs := zs.map V.str) (λ i σ H' => ∃ v : Option V,σ = [some (.ref p),some (.ref l),v] /\ H' l = some (SetQ P w l (zs.take i)) /\ dupG (zs.take i) (zs.drop i) = dupG [] zs /\ Same H H') ?_ ?_ ?_ ?_⟩
 . exact ⟨none,rfl,upd_same,rfl,sm_new hl⟩
 . rintro i σ H1 _ ⟨v,_,_,_,x⟩;exact SqL.of (x _ _ hS)
 . rintro i y σ H1 hy ⟨v,rfl,h1,hd,x1⟩;rw [List.getElem?_map] at hy;obtain ⟨z,hz,rfl⟩ := Option.map_eq_some_iff.mp hy;have hi : i < zs.length := (List.getElem?_eq_some_iff.mp hz).1;rw [dup_step hz] at hd;refine ⟨_,rfl,_,rfl,z,l,_,rfl,rfl,h1,_,rfl,?_⟩
   by_cases hn : z ∈ zs.take i
   . rw [decide_eq_true hn];rw [if_pos hn] at hd;refine iteT ?_;exact ⟨_,rfl,by simp,raised x1 (qe z hd.symm)⟩
   . rw [decide_eq_false hn];rw [if_neg hn] at hd;refine iteF ?_;refine ⟨_,rfl,⟨l,_,rfl,h1⟩,_,rfl,l,z,_,rfl,rfl,h1,by rw [List.length_take]; omega,_,rfl,?_,hd,x1.at hl⟩;rw [upd_same,if_neg hn,take_snoc hz]
     try rfl
 . rintro σ H1 ⟨v,rfl,_,hd,x1⟩;rw [List.length_map,List.drop_length] at hd;exact q hd.symm H1 x1
def badN (n x : Int) : Bool := !(decide (0 <= x) && decide (x < n))
def stepRow (n : Int) : List Str -> List Int -> Option Str
 | l :: ls,x :: xs => if badN n x = true then some l else stepRow n ls xs
 | _,_ => none
def stepG (n : Int) (ls : List Str) : Nat -> List (List Int) -> Option (Nat × Str)
 | _,[] => none
 | i,r :: rs => match stepRow n ls r with
  | some l => some (i,l)
  | none => stepG n ls (i + 1) rs
def goodG (n : Int) : List Int -> Option Int
 | [] => none
 | x :: xs => if badN n x = true then some x else goodG n xs
theorem good_step {n : Int} {xs : List Int} {i : Nat} {x : Int} (h : xs[i]? = some x) : goodG n (xs.drop i) = if badN n x = true then some x else goodG n (xs.drop (i + 1)) := by
 obtain ⟨hi,e⟩ := List.getElem?_eq_some_iff.mp h
 rw [List.drop_eq_getElem_cons hi,e]
 rfl
theorem row_step {n : Int} {ls : List Str} {xs : List Int} {i : Nat} {l : Str} {x : Int} (h : ls[i]? = some l) (h' : xs[i]? = some x) : stepRow n (ls.drop i) (xs.drop i) = if badN n x = true then some l else stepRow n (ls.drop (i + 1)) (xs.drop (i + 1)) := by
 obtain ⟨hi,e⟩ := List.getElem?_eq_some_iff.mp h
 obtain ⟨hj,e'⟩ := List.getElem?_eq_some_iff.mp h'
 rw [List.drop_eq_getElem_cons hi,e,List.drop_eq_getElem_cons hj,e']
 rfl
theorem step_step {n : Int} {ls : List Str} {tb : List (List Int)} {i : Nat} {r : List Int} (h : tb[i]? = some r) : stepG n ls i (tb.drop i) = match stepRow n ls r with
 | some l => some (i,l)
 | none => stepG n ls (i + 1) (tb.drop (i + 1)) := by
 obtain ⟨hi,e⟩ := List.getElem?_eq_some_iff.mp h
 rw [List.drop_eq_getElem_cons hi,e]
 rfl
abbrev RowI (H : Hp) (r : Addr) (row : List Int) : Prop := H r = some (.lst (row.map V.int))
structure Tb (H : Hp) (t : Addr) (rs : List Addr) (tb : List (List Int)) (m : Nat) : Prop where
 at_ : H t = some (.lst (rs.map V.ref))
 rows : Paired (RowI H) rs tb
 len : ∀ r ∈ tb,r.length = m
 few : tb.length <= 60
theorem Tb.same {H H' : Hp} {t : Addr} {rs : List Addr} {tb : List (List Int)} {m : Nat} (h : Tb H t rs tb m) (x : Same H H') : Tb H' t rs tb m := ⟨x _ _ h.at_,Paired.mapP h.rows λ _ _ z => x _ _ z,h.len,h.few⟩
theorem paired_get {α β : Type} {F : α -> β -> Prop} {l : List α} {m : List β} (h : Paired F l m) : ∀ {i : Nat} {a : α},l[i]? = some a -> ∃ b,m[i]? = some b /\ F a b := by
 induction h with
 | nil => intro i a e; cases e
 | cons r _ ih =>
  intro i a e;cases i with
  | zero => cases e; exact ⟨_,rfl,r⟩
  | succ i => exact ih e
theorem Tb.width {H : Hp} {t : Addr} {rs : List Addr} {tb : List (List Int)} {m : Nat} (h : Tb H t rs tb m) : (rs.map V.ref).length = tb.length := by rw [List.length_map]; exact Paired.length h.rows
def spGood (CG : Addr) : Sp := λ vs H Q E => ∃ (t p : Addr) (rs : List Addr) (tb : List (List Int)) (m : Nat) (xs : List Int),vs = [.ref t,.ref p] /\ Tb H t rs tb m /\ H p = some (.lst (xs.map V.int)) /\
 (goodG tb.length xs = none -> ∀ H',Same H H' -> Q .non H') /\ ∀ x,goodG tb.length xs = some x -> Refuses H E CG [("state",.int x)]
theorem sc_good : FnScope ["table","good","state"] ["table","good"] (defScope s_refuse_good) := (.of rfl rfl rfl rfl (by decide +kernel))
theorem ok_good (F : Fun K "refuse_good" "refuse_good" s_refuse_good f fd) (B : Bt mg) (xt : XM1 P w K mg base k "BadGood" "state" CT M ft ftd) : FnOk P w K mg base (CXE P w) (k + 2) f fd ["table","good"] (spGood CT) := by
 refine F.okX sc_good (λ vs H Q E h => ?_) (λ cdv A outer s H vs Q E hr h => ?_)
 . obtain ⟨t,p,rs,tb,m,xs,rfl,_⟩ := h;rfl
 obtain ⟨t,p,rs,tb,m,xs,rfl,hT,hS,q,qe⟩ := h
 have nd := sc_good.nd
 refine ⟨_,(pss_one (ps_for PassesOwn.leaving rfl (pi_list (pv 1)) (pg_name (i := 2) nd rfl (Or.inl rfl)) (pss_one (ps_if (pt_not (pt_chain op_le op_lt pe_int (pv 2) (pe_callB call_len_seq rfl B.len_ PySem.boot_len (pa_cons (pv 0) pa_nil)))) (pss_one (ps_raise xt.xc rfl (pe_makeX xt.xc xt.hin xt.hfn xt.ok hr rfl xt.at_ xt.bn (pa_cons (pv 2) pa_nil)) raise_new)) pss_nil)))),?_⟩
 try dsimp only [cxOf,Cx.nox,Cx.wish]
 refine ⟨_,rfl,p,rfl,⟨_,SqL.of hS⟩,for_list (xs := xs.map V.int) (λ i σ H' => ∃ v : Option V,σ = [some (.ref t),some (.ref p),v] /\ goodG tb.length (xs.drop i) = goodG tb.length xs /\ Same H H') ?_ ?_ ?_ ?_⟩
 . exact ⟨none,rfl,rfl,Same.refl _⟩
 . rintro i σ H1 _ ⟨v,_,_,x⟩;exact SqL.of (x _ _ hS)
 . rintro i y σ H1 hy ⟨v,rfl,hd,x1⟩;rw [List.getElem?_map] at hy;obtain ⟨z,hz,rfl⟩ := Option.map_eq_some_iff.mp hy;rw [good_step hz] at hd;have hT1 := hT.same x1;refine ⟨_,rfl,_,_,rfl,rfl,_,rfl,?_⟩;have fin : ∀ b : Bool,badN tb.length z = b -> (if b = true then tRaise CT (tMakeX CT (spInit1 CT "state") (tCons (tVar 2) tNil)) (RNew H E CT) { nx := λ σ H' => ∃ v : Option V,σ = [some (V.ref t),some (V.ref p),v] /\ goodG tb.length (xs.drop (i + 1)) = goodG tb.length xs /\ Same H H',rt := Q,bk := λ _ H' => Q .non H',ct := λ σ H' => ∃ v : Option V,σ = [some (V.ref t),some (V.ref p),v] /\ goodG tb.length (xs.drop (i + 1)) = goodG tb.length xs /\ Same H H' } [some (V.ref t),some (V.ref p),some (.int z)] H1 else ∃ v : Option V,[some (V.ref t),some (V.ref p),some (.int z)] = [some (V.ref t),some (V.ref p),v] /\ goodG tb.length (xs.drop (i + 1)) = goodG tb.length xs /\ Same H H1) := λ b hb => by
    rw [hb] at hd;cases b with
    | true =>
     refine iteT ?_;exact ⟨_,rfl,by simp,raised x1 (qe z hd.symm)⟩
    | false =>
     refine iteF ?_;exact ⟨_,rfl,hd,x1⟩
   by_cases h0 : (0 : Int) <= z
   . rw [decide_eq_true h0];refine iteT ?_;refine ⟨_,rfl,t,_,rfl,.inl (SqL.of hT1.at_),_,_,rfl,rfl,_,rfl,?_⟩;refine fin _ ?_;rw [badN,decide_eq_true h0,hT.width]; rfl
   . rw [decide_eq_false h0];refine iteF ?_;refine ⟨_,rfl,?_⟩;refine fin true ?_;rw [badN,decide_eq_false h0]; rfl
 . rintro σ H1 ⟨v,rfl,hd,x1⟩;rw [List.length_map,List.drop_length] at hd;exact q hd.symm H1 x1
abbrev StF (i : Nat) (l : Str) : List (Str × V) := putF "letter" (.str l) [("state",.int (i : Int))]
def spSteps (CT : Addr) : Sp := λ vs H Q E => ∃ (p t : Addr) (ls : List Str) (rs : List Addr) (tb : List (List Int)),vs = [.ref p,.ref t] /\ H p = some (.lst (ls.map V.str)) /\ Tb H t rs tb ls.length /\ ls.length <= 60 /\
 (stepG tb.length ls 0 tb = none -> ∀ H',Same H H' -> Q .non H') /\ ∀ i l,stepG tb.length ls 0 tb = some (i,l) -> Refuses H E CT (StF i l)
theorem sc_steps : FnScope ["letters","table","state","row","at","letter"] ["letters","table"] (defScope s_refuse_steps) := (.of rfl rfl rfl rfl (by decide +kernel))
theorem at_i {xs : List Int} {j : Nat} {x : Int} (h : xs[j]? = some x) : atI (xs.map V.int) (j : Int) = some (.int x) := atI_nat (by rw [List.getElem?_map,h]; rfl)
theorem ok_steps (F : Fun K "refuse_steps" "refuse_steps" s_refuse_steps f fd) (B : Bt mg) (xt : XM2 P w K mg base k "BadStep" "state" "letter" CT M ft ftd) : FnOk P w K mg base (CXE P w) (k + 2) f fd ["letters","table"] (spSteps CT) := by
 refine F.okX sc_steps (λ vs H Q E h => ?_) (λ cdv A outer s H vs Q E hr h => ?_)
 . obtain ⟨p,t,ls,rs,tb,rfl,_⟩ := h;rfl
 obtain ⟨p,t,ls,rs,tb,rfl,hS,hT,h60,q,qe⟩ := h
 have nd := sc_steps.nd
 refine ⟨_,(pss_one (ps_for PassesOwn.leaving rfl (pi_enum rfl B.enumerate_ (pa_cons (pv 1) pa_nil)) (pg_tup rfl (pgs_cons (pg_name (i := 2) nd rfl (Or.inl rfl)) (pgs_cons (pg_name (i := 3) nd rfl (Or.inl rfl)) pgs_nil))) (pss_one (ps_for PassesOwn.leaving rfl (pi_enum rfl B.enumerate_ (pa_cons (pv 0) pa_nil)) (pg_tup rfl (pgs_cons (pg_name (i := 4) nd rfl (Or.inl rfl)) (pgs_cons (pg_name (i := 5) nd rfl (Or.inl rfl)) pgs_nil))) (pss_one (ps_if (PW.pt (pw_or (pt_cmpR op_ge (pv 4) (pe_callB call_len_seq rfl B.len_ PySem.boot_len (pa_cons (pv 3) pa_nil)) (nomark _)) (pw_or1 (pt_not (pt_chain op_le op_lt pe_int (pe_ix ix_list (pv 3) (pv 4) (λ _ _ => rfl)) (pe_callB call_len_seq rfl B.len_ PySem.boot_len (pa_cons (pv 1) pa_nil))))))) (pss_one (ps_raise xt.xc rfl (pe_makeX xt.xc xt.hin xt.hfn xt.ok hr rfl xt.at_ xt.bn (pa_cons (pv 2) (pa_cons (pv 5) pa_nil))) raise_new)) pss_nil)))))),?_⟩
 try dsimp only [cxOf,Cx.nox,Cx.wish]
 refine ⟨_,rfl,t,rfl,⟨_,SqL.of hT.at_⟩,for_enum (xs := rs.map V.ref) (λ i σ H' => ∃ v1 v2 v3 v4 : Option V,σ = [some (.ref p),some (.ref t),v1,v2,v3,v4] /\ stepG tb.length ls i (tb.drop i) = stepG tb.length ls 0 tb /\ Same H H') ?_ ?_ ?_ ?_⟩
 . exact ⟨none,none,none,none,rfl,rfl,Same.refl _⟩
 . rintro i σ H1 _ ⟨v1,v2,v3,v4,_,_,x⟩;exact SqL.of (x _ _ hT.at_)
 . rintro i y σ H0 T hy hT0 ⟨v1,v2,v3,v4,rfl,hd,x0⟩;rw [List.getElem?_map] at hy;obtain ⟨r,hr',rfl⟩ := Option.map_eq_some_iff.mp hy;obtain ⟨row,hrow,hri⟩ := paired_get hT.rows hr';have hlen := hT.len row (List.mem_of_getElem? hrow);rw [step_step hrow] at hd;have x1 : Same H (upd H0 T (.tup [.int i,.ref r])) := x0.trans (sm_new hT0);have hTt : upd H0 T (.tup [.int i,.ref r]) T = some (.tup [.int i,.ref r]) := upd_same;generalize upd H0 T (.tup [.int i,.ref r]) = H1 at x1 hTt ⊢;refine ⟨T,_,rfl,SqT.of hTt,rfl,_,_,rfl,_,_,rfl,rfl,?_⟩;refine ⟨_,rfl,p,rfl,⟨_,SqL.of (x1 _ _ hS)⟩,for_enum (xs := ls.map V.str) (λ j σ H' => ∃ v3 v4 : Option V,σ = [some (.ref p),some (.ref t),some (.int i),some (.ref r),v3,v4] /\ stepRow tb.length (ls.drop j) (row.drop j) = stepRow tb.length ls row /\ Same H H') ?_ ?_ ?_ ?_⟩
   . exact ⟨_,_,rfl,rfl,x1⟩
   . rintro j σ H2 _ ⟨v3,v4,_,_,x⟩;exact SqL.of (x _ _ hS)
   . rintro j y2 σ H2 T2 hy2 hT2 ⟨v3,v4,rfl,hd2,x2⟩;rw [List.getElem?_map] at hy2;obtain ⟨l,hl,rfl⟩ := Option.map_eq_some_iff.mp hy2;have hj : j < row.length := by rw [hlen]; exact (List.getElem?_eq_some_iff.mp hl).1
     have hx : row[j]? = some row[j] := List.getElem?_eq_getElem hj;generalize row[j] = x at hx;rw [row_step hl hx] at hd2;have x3 : Same H (upd H2 T2 (.tup [.int j,.str l])) := x2.trans (sm_new hT2);have hTt2 : upd H2 T2 (.tup [.int j,.str l]) T2 = some (.tup [.int j,.str l]) := upd_same;generalize upd H2 T2 (.tup [.int j,.str l]) = H3 at x3 hTt2 ⊢;refine ⟨T2,_,rfl,SqT.of hTt2,rfl,_,_,rfl,_,_,rfl,rfl,?_⟩;refine ⟨_,rfl,_,rfl,r,_,rfl,.inl (SqL.of (x3 _ _ hri)),_,_,rfl,rfl,_,rfl,?_⟩;rw [decide_eq_false (by rw [List.length_map]; omega)];refine iteF ?_;refine ⟨_,rfl,_,rfl,r,_,_,_,rfl,rfl,SqL.of (x3 _ _ hri),at_i hx,_,_,rfl,rfl,_,rfl,?_⟩;have bad : badN tb.length x = true -> stepG tb.length ls 0 tb = some (i,l) := λ hb => by
      rw [if_pos hb] at hd2;rw [<- hd2] at hd;exact hd.symm
     by_cases h0 : (0 : Int) <= x
     . rw [decide_eq_true h0];refine iteT ?_;refine ⟨_,rfl,t,_,rfl,.inl (SqL.of (x3 _ _ hT.at_)),_,_,rfl,rfl,_,rfl,?_⟩
       by_cases h1 : x < tb.length
       . rw [hT.width,decide_eq_true h1];refine iteF ?_;rw [if_neg (by rw [badN,decide_eq_true h0,decide_eq_true h1]; exact Bool.false_ne_true)] at hd2;exact ⟨_,_,rfl,hd2,x3⟩
       . rw [hT.width,decide_eq_false h1];refine iteT ?_;exact ⟨_,rfl,_,rfl,by simp,raised2 x3 (qe i l (bad (by rw [badN,decide_eq_false h1,Bool.and_false]; rfl)))⟩
     . rw [decide_eq_false h0];refine iteF ?_;refine ⟨_,rfl,?_⟩;refine iteT ?_;exact ⟨_,rfl,_,rfl,by simp,raised2 x3 (qe i l (bad (by rw [badN,decide_eq_false h0]; rfl)))⟩
   . rintro σ H2 ⟨v3,v4,rfl,hd2,x2⟩;rw [List.length_map,List.drop_length] at hd2;have e : stepRow tb.length ls row = none := hd2.symm;rw [e] at hd;exact ⟨_,_,_,_,rfl,hd,x2⟩
 . rintro σ H1 ⟨v1,v2,v3,v4,rfl,hd,x1⟩;rw [hT.width,List.drop_length] at hd;exact q hd.symm H1 x1
abbrev RowU (H : Hp) (u : Addr) (row : List Int) : Prop := H u = some (.tup (row.map V.int))
def MoAt (C : Addr) (H : Hp) (x : Addr) (ls : List Str) (tb : List (List Int)) (zs : List Int) : Prop := ∃ (dx tl tt tg : Addr) (us : List Addr),H x = some (.ins C dx [("letters",.ref tl),("table",.ref tt),("good",.ref tg)]) /\ TupF H tl (ls.map V.str) /\
 H tt = some (.tup (us.map V.ref)) /\ Paired (RowU H) us tb /\ H tg = some (.tup (zs.map V.int))
theorem MoAt.same {H H' : Hp} {x : Addr} {ls : List Str} {tb : List (List Int)} {zs : List Int} (h : MoAt C H x ls tb zs) (y : Same H H') : MoAt C H' x ls tb zs := by
 obtain ⟨dx,tl,tt,tg,us,h1,h2,h3,h4,h5⟩ := h
 exact ⟨dx,tl,tt,tg,us,y _ _ h1,h2.same y,y _ _ h3,Paired.mapP h4 λ _ _ z => y _ _ z,y _ _ h5⟩
structure MoC (K : W.Frag) (C : Addr) : Prop where
 cls : Cls K C
 n1 : NoAttr K C "letters"
 n2 : NoAttr K C "table"
 n3 : NoAttr K C "good"
structure Ris (gd zs : List Int) : Prop where
 up : zs.Pairwise (· <= ·)
 nd : zs.Nodup
 mem : ∀ x,x ∈ zs ↔ x ∈ gd
theorem pass_any {N : List Str} {qual : Str} {scope : Scope} {f : Addr} {cd : Value} {A : Around} {outer : List Env} {s0 : Shared} {H0 : Hp} {E : XK} {G : Addr -> List (Str × V) -> Prop} (hE : ∀ a H' C fs,G C fs -> H0 a = none -> Same H0 H' -> FlyAt H' a C fs -> E (.ref a) none H') :
 Passes (CXE P w) (cxOf (CXE P w) P w K mg base N qual scope f cd A outer s0 H0 E) (EX H0 λ a H' => ∃ C fs,FlyAt H' a C fs /\ G C fs) := by
 intro pins σ H s e s' I h
 obtain ⟨a,H',rfl,os,bare,un,hok,a',e1,na,sm,C,fs,fl,hG⟩ := h
 cases e1
 have I' : Inv (cxOf (CXE P w) P w K mg base N qual scope f cd A outer s0 H0 E) pins σ H' s' := I.call' (ch := []) os un hok bare (λ _ z => nomatch z)
 exact xe_next I' fl λ H2 f2 k2 => hE a H2 C fs hG na (λ b o q => k2 b o (ne_of_none q na) (sm b o q)) f2
def dueX (CT CB CG : Addr) (ls : List Str) (tb : List (List Int)) (gd : List Int) : Option (Addr × List (Str × V)) :=
 match dupG [] ls with
 | some n => some (CT,[("name",.str n)])
 | none => match stepG tb.length ls 0 tb with
  | some (i,l) => some (CB,StF i l)
  | none => match goodG tb.length gd with
   | some x => some (CG,[("state",.int x)])
   | none => none
def spInit (C CT CB CG : Addr) : Sp := λ vs H Q E => ∃ (x p t g dx : Addr) (ls : List Str) (rs : List Addr) (tb : List (List Int)) (gd : List Int),vs = [.ref x,.ref p,.ref t,.ref g] /\ H x = some (.ins C dx []) /\ H p = some (.lst (ls.map V.str)) /\ Tb H t rs tb ls.length /\ ls.length <= 60 /\ H g = some (.lst (gd.map V.int)) /\ gd.length < 60 /\
 (dueX CT CB CG ls tb gd = none -> ∀ H' zs,MoAt C H' x ls tb zs -> Ris gd zs -> (∀ b o,b ≠ x -> H b = some o -> H' b = some o) -> Q .non H') /\ ∀ c fs,dueX CT CB CG ls tb gd = some (c,fs) -> Refuses H E c fs
theorem sc_init : FnScope ["self","letters","table","good"] ["self","letters","table","good"] (defScope s_Machine___init) := (.of rfl rfl rfl rfl (by decide +kernel))
theorem paired_app {α β : Type} {F : α -> β -> Prop} {l l' : List α} {m m' : List β} (h : Paired F l m) (h' : Paired F l' m') : Paired F (l ++ l') (m ++ m') := by
 induction h with
 | nil => exact h'
 | cons r _ ih => exact .cons r ih
theorem tuples {D t : Addr} {Q : VK} {H1 : Hp} {rs : List Addr} {tb : List (List Int)} {m : Nat} (hD : H1 D = none) (hT : Tb H1 t rs tb m) (hdn : ∀ H' us,Same H1 H' -> H' D = some (.lst (us.map V.ref)) -> Paired (RowU H') us tb -> Q (.ref D) H') :
 CompLoop (Itl K t) D (gName 0) tYes (tCB (λ xs H Q => ∃ p ys,xs = [.ref p] /\ ((SqL K H p ys /\ ∀ l,H l = none -> Q (.ref l) (upd H l (.tup ys))) \/ (SqT K H p ys /\ Q (.ref p) H))) (tCons (tVar 0) tNil)) Q [none] H1 := by
 have hlen := Paired.length hT.rows
 have hf := hT.few
 refine comp_list (xs := rs.map V.ref) (λ i ys σ H => ∃ (v : Option V) (us : List Addr),ys = us.map V.ref /\ σ = [v] /\ Same H1 H /\ Paired (RowU H) us (tb.take i)) ?_ (by rw [List.length_map]; omega) ?_ ?_ ?_ ?_
 . exact ⟨none,[],rfl,rfl,sm_new hD,.nil⟩
 . rintro i ys σ H ⟨v,us,rfl,_,_,h⟩;have := Paired.length h;rw [List.length_map,this,List.length_take]; omega
 . rintro i ys σ H ⟨v,us,_,_,x,_⟩;exact SqL.of (x _ _ hT.at_)
 . rintro i y ys σ H hy hl2 ⟨v,us,rfl,rfl,x,h⟩;rw [List.getElem?_map] at hy;obtain ⟨r,hr',rfl⟩ := Option.map_eq_some_iff.mp hy;obtain ⟨row,hrow,hri⟩ := paired_get hT.rows hr';refine ⟨_,rfl,r,_,rfl,.inl ⟨SqL.of (x _ _ hri),λ u hu => ?_⟩⟩;have nu : D ≠ u := ne_of_none hl2 hu;refine ⟨by rw [upd_ne nu]; exact hl2,_,us ++ [u],by rw [List.map_append]; rfl,rfl,(x.trans (sm_new hu)).at hD,?_⟩;rw [take_snoc hrow];have k1 : ∀ b w,RowU H b w -> RowU (upd (upd H u (.tup (row.map V.int))) D (.lst (us.map V.ref ++ [.ref u]))) b w := λ b w z => by
    show upd _ D _ b = _
    rw [upd_ne (ne_of z hl2 (λ q => nomatch q)),upd_ne (ne_of_none z hu)]; exact z
   refine paired_app (Paired.mapP h k1) (.cons ?_ .nil);show upd _ D _ u = _;rw [upd_ne (Ne.symm nu)]; exact upd_same
 . rintro ys σ H hl2 ⟨v,us,rfl,_,x,h⟩;rw [List.length_map,hlen,List.take_length] at h;exact hdn H us x hl2 h
theorem Tb.but {H H' : Hp} {t x : Addr} {rs : List Addr} {tb : List (List Int)} {m : Nat} {o : HO} (h : Tb H t rs tb m) (hx : H x = some o) (ho : ∀ ys,o ≠ .lst ys) (k : ∀ b o,b ≠ x -> H b = some o -> H' b = some o) : Tb H' t rs tb m :=
 ⟨k _ _ (ne_of h.at_ hx (λ z => ho _ z.symm)) h.at_,Paired.mapP h.rows λ _ _ z => k _ _ (ne_of z hx (λ q => ho _ q.symm)) z,h.len,h.few⟩
theorem few_of {zs ys : List Int} (hn : zs.Nodup) (hm : ∀ x,x ∈ zs ↔ x ∈ ys) (hl : ys.length < 60) : zs.length < 64 := by
 rcases Nat.lt_or_ge zs.length 64 with h | h
 . exact h
 . obtain ⟨c,h1,h2⟩ := pig ys zs hn (by omega);exact absurd ((hm c).mp h1) h2
theorem ok_init (F : Fun K "__init__" "Machine.__init__" s_Machine___init f fd) (B : Bt mg) (S : MoC K C) (G_refuse_twice : FnX P w K mg base k "refuse_twice" ["names"] (spTwice CT) g gd) (G_refuse_steps : FnX P w K mg base k "refuse_steps" ["letters","table"] (spSteps CB) g2 gd2)
 (G_refuse_good : FnX P w K mg base k "refuse_good" ["table","good"] (spGood CG) g3 gd3) (G_rising : Fn P w K mg base k "rising" ["things"] (spRisingN K) g4 gd4) : FnOk P w K mg base (CXE P w) (k + 1) f fd ["self","letters","table","good"] (spInit C CT CB CG) := by
 refine F.okX sc_init (λ vs H Q E h => ?_) (λ cdv A outer s H vs Q E hr h => ?_)
 . obtain ⟨x,p,t,g,dx,ls,rs,tb,gd,rfl,_⟩ := h;rfl
 obtain ⟨x,p,t,g,dx,ls,rs,tb,gdl,rfl,hx,hp,hT,h60,hg,hg60,q0,qe⟩ := h
 have nd := sc_init.nd
 have hpass := pass_any (P := P) (w := w) (K := K) (mg := mg) (base := base) (N := ["self","letters","table","good"]) (qual := "Machine.__init__") (scope := defScope s_Machine___init) (f := f) (cd := cdv) (A := A) (outer := outer) (s0 := s) (H0 := H) (E := E) (G := λ c fs => dueX CT CB CG ls tb gdl = some (c,fs)) (λ a H' c fs e na sm fl => qe c fs e a H' na sm fl)
 refine ⟨_,(pss_cons (ps_expr (pe_call G_refuse_twice.ok hr rfl G_refuse_twice.at_ G_refuse_twice.kp G_refuse_twice.bn .nil hpass (pa_cons (pv 1) pa_nil))) (pss_cons (ps_expr (pe_call G_refuse_steps.ok hr rfl G_refuse_steps.at_ G_refuse_steps.kp G_refuse_steps.bn .nil hpass (pa_cons (pv 1) (pa_cons (pv 2) pa_nil)))) (pss_cons (ps_expr (pe_call G_refuse_good.ok hr rfl G_refuse_good.at_ G_refuse_good.kp G_refuse_good.bn .nil hpass (pa_cons (pv 2) (pa_cons (pv 3) pa_nil)))) (pss_cons (ps_fld (pv 0) (pe_callTy call_tupleF rfl B.tuple_ (by decide +kernel) (pa_cons (pv 1) pa_nil)) rfl) (pss_cons (ps_fld (pv 0) (pe_callTy call_tuple_of rfl B.tuple_ (by decide +kernel) (pa_cons (pe_comp (g := (gName 0)) (tc := tYes) (te := (tCB (λ xs H Q => ∃ p ys,xs = [.ref p] /\ ((SqL K H p ys /\ ∀ l,H l = none -> Q (.ref l) (upd H l (.tup ys))) \/ (SqT K H p ys /\ Q (.ref p) H))) (tCons (tVar 0) tNil))) (own := ["row"]) (fr := ([] : List Str)) (idx := []) rfl (by show CompScope _ _ _ (defScope s_Machine___init); exact (.of rfl (by decide +kernel))) (pi_list (pv 2)) (λ _ _ _ _ _ => (pg_name (i := 0) (by show List.Nodup (["row"] : List Str); decide +kernel) rfl (Or.inl rfl) (Or.inr rfl))) (λ _ _ _ _ _ => pts_nil) (λ _ _ _ _ _ => (pe_callTy call_tuple_of rfl B.tuple_ (by decide +kernel) (pa_cons (pv 0) pa_nil))) rfl (hat_of rfl)) pa_nil)) rfl) (pss_one (ps_fld (pv 0) (pe_call G_rising.ok hr rfl G_rising.at_ G_rising.kp G_rising.bn .nil pass0 (pa_cons (pv 3) pa_nil)) rfl))))))),?_⟩
 try dsimp only [cxOf,Cx.nox,Cx.wish]
 refine lats6 ?_
 intro D0 σ0 U6 U5 U4 U3 U2
 refine ⟨_,rfl,p,ls,rfl,hp,h60,λ d1 H1 x1 => ?_,λ n hn a H' na sm fl => ⟨a,rfl,na,sm,_,_,fl,by rw [dueX,hn]⟩⟩
 have hT1 := hT.same x1
 refine ⟨_,rfl,_,rfl,p,t,ls,rs,tb,rfl,x1 _ _ hp,hT1,h60,λ d2 H2 x2 => ?_,λ i l hn a H' na sm fl => ⟨a,rfl,x1.free na,x1.trans sm,_,_,fl,by rw [dueX,d1]; simp only [hn]⟩⟩
 have x12 := x1.trans x2
 refine ⟨_,rfl,_,rfl,t,g,rs,tb,ls.length,gdl,rfl,hT.same x12,x12 _ _ hg,λ d3 H3 x3 => ?_,λ z hn a H' na sm fl => ⟨a,rfl,x12.free na,x12.trans sm,_,_,fl,by rw [dueX,d1]; simp only [d2,hn]⟩⟩
 have q := q0 (by rw [dueX,d1]; simp only [d2,d3])
 have x13 := x12.trans x3
 clear q0 qe hpass
 refine ⟨_,rfl,p,_,rfl,SqL.of (x13 _ _ hp),λ tl ob htl hob hoc => ?_⟩
 have xx4 := x13.trans (sm_new (o := .frz ob (.tup (ls.map V.str))) htl)
 have ktl : upd H3 tl (.frz ob (.tup (ls.map V.str))) tl = some (.frz ob (.tup (ls.map V.str))) := upd_same
 generalize upd H3 tl (.frz ob (.tup (ls.map V.str))) = H4 at xx4 ktl ⊢
 refine ⟨_,rfl,x,C,dx,[],rfl,xx4 _ _ hx,S.cls,S.n1,by decide,?_⟩
 have y5 : ∀ b o,b ≠ x -> H b = some o -> upd H4 x (.ins C dx (putF "letters" (.ref tl) [])) b = some o := λ b o n e => by rw [upd_ne n]; exact xx4 _ _ e
 have ntl : tl ≠ x := ne_of ktl (xx4 _ _ hx) (λ z => nomatch z)
 have k5 : upd H4 x (.ins C dx (putF "letters" (.ref tl) [])) tl = some (.frz ob (.tup (ls.map V.str))) := by rw [upd_ne ntl]; exact ktl
 have k5x : upd H4 x (.ins C dx (putF "letters" (.ref tl) [])) x = some (.ins C dx [("letters",.ref tl)]) := upd_same
 generalize upd H4 x (.ins C dx (putF "letters" (.ref tl) [])) = H5 at y5 k5 k5x ⊢
 have hT5 : Tb H5 t rs tb ls.length := hT.but hx (λ _ z => nomatch z) y5
 refine ⟨_,rfl,t,rfl,⟨_,SqL.of hT5.at_⟩,λ D hD => tuples (K := K) hD hT5 λ H6 us x6 hD6 hU6 => ⟨D,_,rfl,.inl ⟨SqL.of hD6,λ tt htt => ?_⟩⟩⟩
 have xx7 := x6.trans (sm_new (o := .tup (us.map V.ref)) htt)
 have ktt : upd H6 tt (.tup (us.map V.ref)) tt = some (.tup (us.map V.ref)) := upd_same
 have hU7 : Paired (RowU (upd H6 tt (.tup (us.map V.ref)))) us tb := Paired.mapP hU6 λ _ _ z => (sm_new htt) _ _ z
 generalize upd H6 tt (.tup (us.map V.ref)) = H7 at xx7 ktt hU7 ⊢
 refine ⟨_,rfl,x,C,dx,_,rfl,xx7 _ _ k5x,S.cls,S.n2,(by show 1 < 1000; decide),?_⟩
 have nt : ∀ {b : Addr} {ys : List V},H7 b = some (.tup ys) -> b ≠ x := λ e => ne_of e (xx7 _ _ k5x) (λ z => nomatch z)
 have y8 : ∀ b o,b ≠ x -> H7 b = some o -> upd H7 x (.ins C dx (putF "table" (.ref tt) [("letters",.ref tl)])) b = some o := λ b o n e => by rw [upd_ne n]; exact e
 have k8x : upd H7 x (.ins C dx (putF "table" (.ref tt) [("letters",.ref tl)])) x = some (.ins C dx [("letters",.ref tl),("table",.ref tt)]) := upd_same
 have k8 : upd H7 x (.ins C dx (putF "table" (.ref tt) [("letters",.ref tl)])) tl = some (.frz ob (.tup (ls.map V.str))) := y8 _ _ ntl (xx7 _ _ k5)
 have k8t : upd H7 x (.ins C dx (putF "table" (.ref tt) [("letters",.ref tl)])) tt = some (.tup (us.map V.ref)) := y8 _ _ (nt ktt) ktt
 have hU8 : Paired (RowU (upd H7 x (.ins C dx (putF "table" (.ref tt) [("letters",.ref tl)])))) us tb := Paired.mapP hU7 λ _ _ z => y8 _ _ (nt z) z
 have z8 : ∀ b o,b ≠ x -> H b = some o -> upd H7 x (.ins C dx (putF "table" (.ref tt) [("letters",.ref tl)])) b = some o := λ b o n e => y8 _ _ n (xx7 _ _ (y5 _ _ n e))
 clear y8
 generalize upd H7 x (.ins C dx (putF "table" (.ref tt) [("letters",.ref tl)])) = H8 at k8x k8 k8t hU8 z8 ⊢
 refine ⟨_,rfl,g,gdl,rfl,SqL.of (z8 _ _ (ne_of hg hx (λ z => nomatch z)) hg),by omega,λ zs hn hm => few_of hn hm hg60,λ tg zs H9 up ndz mem htg x9 h9 => ?_⟩
 refine ⟨_,rfl,x,C,dx,_,rfl,x9 _ _ k8x,S.cls,S.n3,(by show 2 < 1000; decide),?_⟩
 have nt9 : ∀ {b : Addr} {ys : List V},H9 b = some (.tup ys) -> b ≠ x := λ e => ne_of e (x9 _ _ k8x) (λ z => nomatch z)
 have y10 : ∀ b o,b ≠ x -> H9 b = some o -> upd H9 x (.ins C dx (putF "good" (.ref tg) [("letters",.ref tl),("table",.ref tt)])) b = some o := λ b o n e => by rw [upd_ne n]; exact e
 refine q _ zs ⟨dx,tl,tt,tg,us,upd_same,⟨ob,y10 _ _ ntl (x9 _ _ k8),hob,hoc⟩,y10 _ _ (nt9 (x9 _ _ k8t)) (x9 _ _ k8t),Paired.mapP hU8 λ _ _ z => y10 _ _ (nt9 (x9 _ _ z)) (x9 _ _ z),y10 _ _ (nt9 h9) h9⟩ ⟨up,ndz,mem⟩ λ b o n e => y10 _ _ n (x9 _ _ (z8 _ _ n e))
abbrev s_staying : Stmt := top 11
abbrev s_and_then : Stmt := top 12
abbrev s_map_of : Stmt := top 13
abbrev s_along : Stmt := top 14
abbrev s_refuse_letters : Stmt := top 9
abbrev s_law_whole : Stmt := top 33
abbrev s_law_led : Stmt := top 34
abbrev s_law_is_map : Stmt := top 38
abbrev s_law : Stmt := top 39
def Bi (x : Int) : Prop := -10 <= x /\ x <= 1000000000
theorem paired_on {α β : Type} {F G : α -> β -> Prop} {l : List α} {m : List β} (h : Paired F l m) : (∀ a b,a ∈ l -> F a b -> G a b) -> Paired G l m := by
 induction h with
 | nil => exact λ _ => .nil
 | cons r _ ih => exact λ k => .cons (k _ _ (List.mem_cons_self ..) r) (ih λ a b ha z => k a b (List.mem_cons_of_mem _ ha) z)
abbrev Lt (n : Str) : List (Str × V) := [("letter",.str n)]
def bad (ys row : List Str) : Option Str := row.find? λ l => !decide (l ∈ ys)
theorem bad_none {ys row : List Str} : bad ys row = none ↔ ∀ l ∈ row,l ∈ ys := by
 unfold bad
 rw [List.find?_eq_none]
 simp
theorem bad_at {ys row : List Str} {i : Nat} {l : Str} (h0 : bad ys (row.take i) = none) (hl : row[i]? = some l) (hn : l ∉ ys) : bad ys row = some l := by
 have e : row = row.take i ++ (l :: row.drop (i + 1)) := by
  have h1 := List.take_append_drop i row;have hi : i < row.length := (List.getElem?_eq_some_iff.mp hl).1;have h2 : row.drop i = l :: row.drop (i + 1) := by
   rw [List.drop_eq_getElem_cons hi];rw [(List.getElem?_eq_some_iff.mp hl).2]
  rw [h2] at h1;exact h1.symm
 unfold bad at h0 ⊢
 rw [e,List.find?_append,h0]
 simp [hn]
def spRefL (K : W.Frag) (CN : Addr) : Sp := λ vs H Q E => ∃ (T L : Addr) (ys row : List Str),vs = [.ref T,.ref L] /\ SqT K H T (ys.map V.str) /\ SqL K H L (row.map V.str) /\ (bad ys row = none -> ∀ H',Same H H' -> Q .non H') /\ ∀ l,bad ys row = some l -> Refuses H E CN (Lt l)
theorem sc_refl : FnScope ["letters","row","letter"] ["letters","row"] (defScope s_refuse_letters) := (.of rfl rfl rfl rfl (by decide +kernel))
theorem ok_refl (F : Fun K "refuse_letters" "refuse_letters" s_refuse_letters f fd) (xt : XM1 P w K mg base k "NoLetter" "letter" CN M ft ftd) : FnOk P w K mg base (CXE P w) (k + 2) f fd ["letters","row"] (spRefL K CN) := by
 refine F.okX sc_refl (λ vs H Q E h => ?_) (λ cdv A outer s H vs Q E hr h => ?_)
 . obtain ⟨T,L,ys,row,rfl,_⟩ := h;rfl
 obtain ⟨T,L,ys,row,rfl,hT,hL,q,qe⟩ := h
 have nd := sc_refl.nd
 refine ⟨_,(pss_one (ps_for PassesOwn.leaving rfl (pi_list (pv 1)) (pg_name (i := 2) nd rfl (Or.inl rfl)) (pss_one (ps_if (pt_cmpR op_notIn_seq (pv 2) (pv 0) rfl) (pss_one (ps_raise xt.xc rfl (pe_makeX xt.xc xt.hin xt.hfn xt.ok hr rfl xt.at_ xt.bn (pa_cons (pv 2) pa_nil)) raise_new)) pss_nil)))),?_⟩
 try dsimp only [cxOf,Cx.nox,Cx.wish]
 refine ⟨_,rfl,L,rfl,⟨_,hL⟩,for_list (xs := row.map V.str) (λ i σ H' => ∃ v : Option V,σ = [some (.ref T),some (.ref L),v] /\ bad ys (row.take i) = none /\ Same H H') ?_ ?_ ?_ ?_⟩
 . exact ⟨none,rfl,rfl,Same.refl _⟩
 . rintro i σ H1 _ ⟨v,_,_,x⟩;exact x.seq hL
 . rintro i y σ H1 hy ⟨v,rfl,h0,x1⟩;rw [List.getElem?_map] at hy;obtain ⟨l,hl,rfl⟩ := Option.map_eq_some_iff.mp hy;refine ⟨_,rfl,_,rfl,T,_,rfl,.inr (Same.tup x1 hT),rfl,flat_strs ys,_,rfl,?_⟩;refine ite2 (λ c => ?_) (λ c => ?_)
   . have hn : l ∉ ys := inV_nmem.mp (by simpa using c);exact ⟨_,rfl,by simp,raised x1 (qe l (bad_at h0 hl hn))⟩
   . have hm : l ∈ ys := by
      refine Classical.byContradiction λ z => c ?_;rw [if_pos rfl,inV_nmem.mpr z]; rfl
     refine ⟨_,rfl,?_,x1⟩;rw [take_snoc hl];exact bad_none.mpr λ l' hl' => (List.mem_append.mp hl').elim (bad_none.mp h0 l') λ z => by rw [List.mem_singleton.mp z]; exact hm
 . rintro σ H1 ⟨v,rfl,h0,x1⟩;rw [List.length_map,List.take_length] at h0;exact q h0 H1 x1
theorem paired_getR {α β : Type} {F : α -> β -> Prop} {l : List α} {m : List β} (h : Paired F l m) : ∀ {i : Nat} {b : β},m[i]? = some b -> ∃ a,l[i]? = some a /\ F a b := by
 induction h with
 | nil => intro i a e; cases e
 | cons r _ ih =>
  intro i a e;cases i with
  | zero => cases e; exact ⟨_,rfl,r⟩
  | succ i => exact ih e
def goG (ls : List Str) (tb : List (List Int)) (st : Int) (l : Str) : Int := (tb.getD st.toNat []).getD (ls.idxOf l) 0
structure GM (ls : List Str) (tb : List (List Int)) : Prop where
 len : ∀ r ∈ tb,r.length = ls.length
 ent : ∀ r ∈ tb,∀ x ∈ r,0 <= x /\ x < tb.length
 one : 1 <= tb.length
theorem go_in {ls : List Str} {tb : List (List Int)} (G : GM ls tb) {st : Int} {l : Str} (h0 : 0 <= st) (h1 : st < tb.length) (hl : l ∈ ls) : ∃ r,tb[st.toNat]? = some r /\ r[ls.idxOf l]? = some (goG ls tb st l) /\ 0 <= goG ls tb st l /\ goG ls tb st l < tb.length := by
 have hi : st.toNat < tb.length := by omega
 have e1 : tb[st.toNat]? = some tb[st.toNat] := List.getElem?_eq_getElem hi
 have hm : tb[st.toNat] ∈ tb := List.getElem_mem hi
 have hj : ls.idxOf l < (tb[st.toNat]).length := by rw [G.len _ hm]; exact List.idxOf_lt_length_of_mem hl
 have e2 : (tb[st.toNat])[ls.idxOf l]? = some (tb[st.toNat])[ls.idxOf l] := List.getElem?_eq_getElem hj
 have e3 : goG ls tb st l = (tb[st.toNat])[ls.idxOf l] := by
  unfold goG;rw [List.getD_eq_getElem?_getD,List.getD_eq_getElem?_getD,e1];simp only [Option.getD_some];rw [e2]; rfl
 refine ⟨_,e1,by rw [e3]; exact e2,?_⟩
 rw [e3]
 exact G.ent _ hm _ (List.getElem_mem hj)
theorem run_in {ls : List Str} {tb : List (List Int)} (G : GM ls tb) (row : List Str) : ∀ (st : Int),0 <= st -> st < tb.length -> (∀ l ∈ row,l ∈ ls) -> 0 <= row.foldl (goG ls tb) st /\ row.foldl (goG ls tb) st < tb.length := by
 induction row with
 | nil => intro st h0 h1 _; exact ⟨h0,h1⟩
 | cons l r ih =>
  intro st h0 h1 h;obtain ⟨_,_,_,a,b⟩ := go_in G h0 h1 (h l (List.mem_cons_self ..));exact ih _ a b λ z hz => h z (List.mem_cons_of_mem _ hz)
def ids (n : Nat) : List Int := (List.range n).map λ k : Nat => (k : Int)
theorem ids_rng (n : Nat) : rngV 0 (n : Int) = (ids n).map V.int := by
 rw [rngV,ids,List.map_map,Int.sub_zero,Int.toNat_natCast]
 refine List.map_congr_left λ k _ => ?_
 show V.int (0 + (k : Int)) = V.int (k : Int)
 rw [Int.zero_add]
def thenG (zs os : List Int) : List Int := zs.map λ z => os.getD z.toNat 0
def mapG (ls : List Str) (tb : List (List Int)) (row : List Str) : List Int := (ids tb.length).map λ s => row.foldl (goG ls tb) s
def colG (ls : List Str) (tb : List (List Int)) (l : Str) : List Int := tb.map λ r => r.getD (ls.idxOf l) 0
theorem ids_in {n : Nat} {x : Int} (h : x ∈ ids n) : 0 <= x /\ x < n := by
 obtain ⟨k,hk,rfl⟩ := List.mem_map.mp h
 have := List.mem_range.mp hk
 omega
theorem map_in {ls : List Str} {tb : List (List Int)} (G : GM ls tb) {row : List Str} (h : ∀ l ∈ row,l ∈ ls) : ∀ x ∈ mapG ls tb row,0 <= x /\ x < tb.length := λ x hx => by
 obtain ⟨s,hs,rfl⟩ := List.mem_map.mp hx
 obtain ⟨a,b⟩ := ids_in hs
 exact run_in G row s a b h
theorem map_snoc {ls : List Str} {tb : List (List Int)} (G : GM ls tb) {row : List Str} {l : Str} (h : ∀ l ∈ row,l ∈ ls) : thenG (mapG ls tb row) (colG ls tb l) = mapG ls tb (row ++ [l]) := by
 unfold thenG mapG
 rw [List.map_map]
 refine List.map_congr_left λ s hs => ?_
 obtain ⟨a,b⟩ := ids_in hs
 obtain ⟨c,d⟩ := run_in G row s a b h
 show (colG ls tb l).getD (row.foldl (goG ls tb) s).toNat 0 = _
 rw [List.foldl_append]
 show _ = goG ls tb (row.foldl (goG ls tb) s) l
 have hi : (row.foldl (goG ls tb) s).toNat < tb.length := by omega
 generalize row.foldl (goG ls tb) s = st at hi
 unfold colG goG
 rw [List.getD_eq_getElem?_getD,List.getElem?_map,List.getD_eq_getElem?_getD (l := tb),List.getElem?_eq_getElem hi]
 rfl
theorem map_nil (ls : List Str) (tb : List (List Int)) : mapG ls tb [] = ids tb.length := by
 unfold mapG
 exact List.map_id _
def spThen (K : W.Frag) (o : Bool) : Sp := λ vs H Q _ => ∃ (a b : Addr) (zs os : List Int),vs = [.ref a,.ref b] /\ SqT K H a (zs.map V.int) /\ (if o = true then SqT K H b (os.map V.int) else SqL K H b (os.map V.int)) /\ zs.length <= 100 /\ (∀ z ∈ zs,0 <= z /\ z < os.length) /\ ∀ t H',Same H H' -> H' t = some (.tup ((thenG zs os).map V.int)) -> Q (.ref t) H'
theorem sc_then : FnScope ["one","other"] ["one","other"] (defScope s_and_then) := (.of rfl rfl rfl rfl (by decide +kernel))
theorem then_comp {D a b : Addr} {Q : VK} {H1 : Hp} {zs os : List Int} {r : R2} (hr : ∀ (H : Hp) (z : Int) (Q' : VK),Same H1 H -> 0 <= z -> z < os.length -> Q' (.int (os.getD z.toNat 0)) H -> r (.ref b) (.int z) H Q') (h100 : zs.length <= 100) (hz : ∀ z ∈ zs,0 <= z /\ z < os.length) (hD : H1 D = none) (ha : SqT K H1 a (zs.map V.int))
 (hdn : ∀ H',Same H1 H' -> H' D = some (.lst ((thenG zs os).map V.int)) -> Q (.ref D) H') :
 CompLoop (Itt K a) D (gName 0) tYes (tOp r (tVar 1) (tVar 0)) Q [none,some (.ref b)] H1 := by
 refine comp_tup (xs := zs.map V.int) (λ i ys σ H => ∃ v : Option V,ys = (thenG (zs.take i) os).map V.int /\ σ = [v,some (.ref b)] /\ Same H1 H) ?_ (by rw [List.length_map]; omega) ?_ ?_ ?_ ?_
 . exact ⟨none,rfl,rfl,sm_new hD⟩
 . rintro i ys σ H ⟨v,rfl,_⟩;unfold thenG;rw [List.length_map,List.length_map,List.length_take]; omega
 . rintro i ys σ H ⟨v,_,_,x⟩;exact Same.tup x ha
 . rintro i y ys σ H hy hl2 ⟨v,rfl,rfl,x⟩;rw [List.getElem?_map] at hy;obtain ⟨z,hz',rfl⟩ := Option.map_eq_some_iff.mp hy;obtain ⟨z0,z1⟩ := hz z (List.mem_of_getElem? hz');refine ⟨_,rfl,_,rfl,hr H z _ x z0 z1 ⟨hl2,_,?_,rfl,x.at hD⟩⟩;rw [take_snoc hz'];unfold thenG;rw [List.map_append,List.map_append]; rfl
 . rintro ys σ H hl2 ⟨v,rfl,_,x⟩;rw [List.length_map,List.take_length] at hl2;exact hdn H x hl2
theorem ok_thenT (F : Fun K "and_then" "and_then" s_and_then f fd) (B : Bt mg) : FnOk P w K mg base CX0 (k + 1) f fd ["one","other"] (spThen K true) := by
 refine F.ok sc_then (λ vs H Q E h => ?_) (λ cdv A outer s H vs Q E hr h => ?_)
 . obtain ⟨a,b,zs,os,rfl,_⟩ := h;rfl
 obtain ⟨a,b,zs,os,rfl,ha,hb,h100,hz,q⟩ := h
 have hb : SqT K H b (os.map V.int) := hb
 have nd := sc_then.nd
 refine ⟨_,(pss_one (ps_ret (pe_callTy call_tuple_of rfl B.tuple_ (by decide +kernel) (pa_cons (pe_comp (g := (gName 0)) (tc := tYes) (te := (tOp (rIxT K) (tVar 1) (tVar 0))) (own := ["state"]) (fr := ["other"]) (idx := [1]) rfl (by show CompScope _ _ _ (defScope s_and_then); exact (.of rfl (by decide +kernel))) (pi_tup (pv 0)) (λ _ _ _ _ _ => (pg_name (i := 0) (by show List.Nodup (["state","other"] : List Str); decide +kernel) rfl (Or.inl rfl) (Or.inr rfl))) (λ _ _ _ _ _ => pts_nil) (λ _ _ _ _ _ => (pe_ix ix_tup (pv 1) (pv 0) (λ _ _ => rfl))) rfl (hat_of rfl)) pa_nil)))),?_⟩
 try dsimp only [cxOf,Cx.nox,Cx.wish]
 refine ⟨_,rfl,a,rfl,⟨_,ha⟩,λ D hD => then_comp (K := K) (os := os) (λ H' z Q' x z0 z1 q' => ⟨b,_,z,_,rfl,rfl,Same.tup x hb,?_,q'⟩) h100 hz hD ha λ H2 x2 hD2 => ⟨D,_,rfl,.inl ⟨SqL.of hD2,λ t ht => q t _ (x2.trans (sm_new ht)) upd_same⟩⟩⟩
 obtain ⟨n,rfl⟩ := Int.eq_ofNat_of_zero_le z0
 have hn : n < os.length := by omega
 refine (at_i (xs := os) (j := n) (List.getElem?_eq_getElem hn)).trans ?_
 rw [List.getD_eq_getElem?_getD,Int.toNat_natCast,List.getElem?_eq_getElem hn]; rfl
def spStay : Sp := λ vs H Q _ => ∃ n : Nat,vs = [.int (n : Int)] /\ n <= 100 /\ ∀ t H',Same H H' -> H' t = some (.tup ((ids n).map V.int)) -> Q (.ref t) H'
theorem sc_stay : FnScope ["many"] ["many"] (defScope s_staying) := (.of rfl rfl rfl rfl (by decide +kernel))
theorem ok_stay (F : Fun K "staying" "staying" s_staying f fd) (B : Bt mg) : FnOk P w K mg base CX0 (k + 1) f fd ["many"] spStay := by
 refine F.ok sc_stay (λ vs H Q E h => ?_) (λ cdv A outer s H vs Q E hr h => ?_)
 . obtain ⟨n,rfl,_⟩ := h;rfl
 obtain ⟨n,rfl,hn,q⟩ := h
 have nd := sc_stay.nd
 refine ⟨_,(pss_one (ps_ret (pe_callTy (call_tupleR rfl) rfl B.tuple_ (by decide +kernel) (pa_cons (pe_callTy call_rangeV1 rfl B.range_ (by decide +kernel) (pa_cons (pv 0) pa_nil)) pa_nil)))),?_⟩
 try dsimp only [cxOf,Cx.nox,Cx.wish]
 refine ⟨_,rfl,_,rfl,λ p hp => ⟨p,0,(n : Int),rfl,upd_same,by decide,by decide,by omega,by omega,λ t ht => ?_⟩⟩
 rw [ids_rng]
 exact q t _ ((sm_new hp).trans (sm_new ht)) upd_same
theorem ok_thenL (F : Fun K "and_then" "and_then" s_and_then f fd) (B : Bt mg) : FnOk P w K mg base CX0 (k + 1) f fd ["one","other"] (spThen K false) := by
 refine F.ok sc_then (λ vs H Q E h => ?_) (λ cdv A outer s H vs Q E hr h => ?_)
 . obtain ⟨a,b,zs,os,rfl,_⟩ := h;rfl
 obtain ⟨a,b,zs,os,rfl,ha,hb,h100,hz,q⟩ := h
 have hb : SqL K H b (os.map V.int) := hb
 have nd := sc_then.nd
 refine ⟨_,(pss_one (ps_ret (pe_callTy call_tuple_of rfl B.tuple_ (by decide +kernel) (pa_cons (pe_comp (g := (gName 0)) (tc := tYes) (te := (tOp (rIxL K) (tVar 1) (tVar 0))) (own := ["state"]) (fr := ["other"]) (idx := [1]) rfl (by show CompScope _ _ _ (defScope s_and_then); exact (.of rfl (by decide +kernel))) (pi_tup (pv 0)) (λ _ _ _ _ _ => (pg_name (i := 0) (by show List.Nodup (["state","other"] : List Str); decide +kernel) rfl (Or.inl rfl) (Or.inr rfl))) (λ _ _ _ _ _ => pts_nil) (λ _ _ _ _ _ => (pe_ix ix_list (pv 1) (pv 0) (λ _ _ => rfl))) rfl (hat_of rfl)) pa_nil)))),?_⟩
 try dsimp only [cxOf,Cx.nox,Cx.wish]
 refine ⟨_,rfl,a,rfl,⟨_,ha⟩,λ D hD => then_comp (K := K) (os := os) (λ H' z Q' x z0 z1 q' => ⟨b,_,z,_,rfl,rfl,x.seq hb,?_,q'⟩) h100 hz hD ha λ H2 x2 hD2 => ⟨D,_,rfl,.inl ⟨SqL.of hD2,λ t ht => q t _ (x2.trans (sm_new ht)) upd_same⟩⟩⟩
 obtain ⟨n,rfl⟩ := Int.eq_ofNat_of_zero_le z0
 have hn : n < os.length := by omega
 refine (at_i (xs := os) (j := n) (List.getElem?_eq_getElem hn)).trans ?_
 rw [List.getD_eq_getElem?_getD,Int.toNat_natCast,List.getElem?_eq_getElem hn]; rfl
theorem _root_.L2.FnOk.or {CX : CXT} {ps : List Str} {sp sp' : Sp} (F : FnOk P w K mg base CX k f fd ps sp) (G : FnOk P w K mg base CX k f fd ps sp') : FnOk P w K mg base CX k f fd ps (λ vs H Q E => sp vs H Q E \/ sp' vs H Q E) :=
 ⟨λ vs H Q E q => q.elim (F.len vs H Q E) (G.len vs H Q E),λ A outer s H args us vs Q E hr he hb hv hs => hs.elim (F.run A outer s H args us vs Q E hr he hb hv) (G.run A outer s H args us vs Q E hr he hb hv)⟩
def spThenA (K : W.Frag) : Sp := λ vs H Q E => spThen K true vs H Q E \/ spThen K false vs H Q E
theorem col_len (ls : List Str) (tb : List (List Int)) (l : Str) : (colG ls tb l).length = tb.length := by
 unfold colG
 exact List.length_map ..
theorem map_len (ls : List Str) (tb : List (List Int)) (row : List Str) : (mapG ls tb row).length = tb.length := by
 unfold mapG ids
 rw [List.length_map,List.length_map,List.length_range]
theorem col_comp {D tt : Addr} {Q : VK} {H1 : Hp} {us : List Addr} {ls : List Str} {tb : List (List Int)} {l : Str} (hG : GM ls tb) (h100 : tb.length <= 100) (hl : l ∈ ls) (hD : H1 D = none) (ht : H1 tt = some (.tup (us.map V.ref))) (hu : Paired (RowU H1) us tb)
 (hdn : ∀ H',Same H1 H' -> H' D = some (.lst ((colG ls tb l).map V.int)) -> Q (.ref D) H') :
 CompLoop (Itt K tt) D (gName 0) tYes (tOp (rIxT K) (tVar 0) (tVar 1)) Q [none,some (.int (ls.idxOf l : Nat))] H1 := by
 have hlen := Paired.length hu
 refine comp_tup (xs := us.map V.ref) (λ i ys σ H => ∃ v : Option V,ys = (colG ls (tb.take i) l).map V.int /\ σ = [v,some (.int (ls.idxOf l : Nat))] /\ Same H1 H) ?_ (by rw [List.length_map]; omega) ?_ ?_ ?_ ?_
 . exact ⟨none,rfl,rfl,sm_new hD⟩
 . rintro i ys σ H ⟨v,rfl,_⟩;rw [List.length_map,col_len,List.length_take]; omega
 . rintro i ys σ H ⟨v,_,_,x⟩;exact SqT.of (x _ _ ht)
 . rintro i y ys σ H hy hl2 ⟨v,rfl,rfl,x⟩;rw [List.getElem?_map] at hy;obtain ⟨u,hu',rfl⟩ := Option.map_eq_some_iff.mp hy;obtain ⟨r,hr',hru⟩ := paired_get hu hu';have hj : ls.idxOf l < r.length := by rw [hG.len _ (List.mem_of_getElem? hr')]; exact List.idxOf_lt_length_of_mem hl
   refine ⟨_,rfl,_,rfl,u,_,_,_,rfl,rfl,SqT.of (x _ _ hru),at_i (List.getElem?_eq_getElem hj),hl2,_,?_,rfl,x.at hD⟩;rw [take_snoc hr'];unfold colG;rw [List.map_append,List.map_append];show _ = _ ++ [V.int (r.getD (ls.idxOf l) 0)];rw [List.getD_eq_getElem?_getD,List.getElem?_eq_getElem hj]; rfl
 . rintro ys σ H hl2 ⟨v,rfl,_,x⟩;rw [List.length_map,hlen,List.take_length] at hl2;exact hdn H x hl2
def spMapOf (K : W.Frag) (C CN : Addr) : Sp := λ vs H Q E => ∃ (x L : Addr) (ls : List Str) (tb : List (List Int)) (zs : List Int) (row : List Str),vs = [.ref x,.ref L] /\ MoAt C H x ls tb zs /\ GM ls tb /\ tb.length <= 100 /\ SqL K H L (row.map V.str) /\
 (bad ls row = none -> ∀ t H',Same H H' -> H' t = some (.tup ((mapG ls tb row).map V.int)) -> Q (.ref t) H') /\ ∀ l,bad ls row = some l -> Refuses H E CN (Lt l)
theorem sc_map : FnScope ["machine","row","told","letter","at"] ["machine","row"] (defScope s_map_of) := (.of rfl rfl rfl rfl (by decide +kernel))
theorem ok_map (F : Fun K "map_of" "map_of" s_map_of f fd) (S : MoC K C) (B : Bt mg) (G_refuse_letters : FnX P w K mg base k "refuse_letters" ["letters","row"] (spRefL K CN) g gd)
 (G_staying : Fn P w K mg base k "staying" ["many"] spStay g2 gd2) (G_and_then : Fn P w K mg base k "and_then" ["one","other"] (spThenA K) g3 gd3) : FnOk P w K mg base (CXE P w) (k + 1) f fd ["machine","row"] (spMapOf K C CN) := by
 refine F.okX sc_map (λ vs H Q E h => ?_) (λ cdv A outer s H vs Q E hr h => ?_)
 . obtain ⟨x,L,ls,tb,zs,row,rfl,_⟩ := h;rfl
 obtain ⟨x,L,ls,tb,zs,row,rfl,hM,hG,h100,hL,q,qe⟩ := h
 have nd := sc_map.nd
 have hpass := pass_any (P := P) (w := w) (K := K) (mg := mg) (base := base) (N := ["machine","row","told","letter","at"]) (qual := "map_of") (scope := defScope s_map_of) (f := f) (cd := cdv) (A := A) (outer := outer) (s0 := s) (H0 := H) (E := E) (G := λ c fs => ∃ l,c = CN /\ fs = Lt l /\ bad ls row = some l) (λ a H' c fs ⟨l,e1,e2,e3⟩ na sm fl => qe l e3 a H' na sm (e1 ▸ e2 ▸ fl))
 obtain ⟨dx,tl,tt,tg,us,m1,m2,m3,m4,m5⟩ := id hM
 have hlen := Paired.length m4
 refine ⟨_,(pss_cons (ps_expr (pe_call G_refuse_letters.ok hr rfl G_refuse_letters.at_ G_refuse_letters.kp G_refuse_letters.bn .nil hpass (pa_cons (pe_fld (pv 0) rfl) (pa_cons (pv 1) pa_nil)))) (pss_cons (ps_set (i := 2) nd rfl (Or.inl rfl) (pe_call G_staying.ok hr rfl G_staying.at_ G_staying.kp G_staying.bn .nil pass0 (pa_cons (pe_callB call_len_seq rfl B.len_ PySem.boot_len (pa_cons (pe_fld (pv 0) rfl) pa_nil)) pa_nil))) (pss_cons (ps_for PassesOwn.leaving rfl (pi_list (pv 1)) (pg_name (i := 3) nd rfl (Or.inl rfl)) (pss_cons (ps_set (i := 4) nd rfl (Or.inr rfl) (pe_bmF PySem.F.slot_tuple_index PySem.F.type_tuple_index mt_indexT (pe_fld (pv 0) rfl) (pa_cons (pv 3) pa_nil))) (pss_one (ps_set (i := 2) nd rfl (Or.inl rfl) (pe_call G_and_then.ok hr rfl G_and_then.at_ G_and_then.kp G_and_then.bn .nil pass0 (pa_cons (pv 2) (pa_cons (pe_comp (g := (gName 0)) (tc := tYes) (te := (tOp (rIxT K) (tVar 0) (tVar 1))) (own := ["steps"]) (fr := ["at"]) (idx := [4]) rfl (by show CompScope _ _ _ (defScope s_map_of); exact (.of rfl (by decide +kernel))) (pi_tup (pe_fld (pv 0) rfl)) (λ _ _ _ _ _ => (pg_name (i := 0) (by show List.Nodup (["steps","at"] : List Str); decide +kernel) rfl (Or.inl rfl) (Or.inr rfl))) (λ _ _ _ _ _ => pts_nil) (λ _ _ _ _ _ => (pe_ix ix_tup (pv 0) (pv 1) (λ _ _ => rfl))) rfl (hat_of rfl)) pa_nil))))))) (pss_one (ps_ret (pv 2)))))),?_⟩
 try dsimp only [cxOf,Cx.nox,Cx.wish]
 refine lats4 ?_
 intro D0 σ0 U4 U3 U2
 refine ⟨_,rfl,x,C,dx,_,_,rfl,m1,S.cls,S.n1,rfl,_,rfl,tl,L,ls,row,rfl,m2.sq,hL,λ hb H1 x1 => ?_,λ l hl a H' na sm fl => ⟨a,rfl,na,sm,_,_,fl,l,rfl,rfl,hl⟩⟩
 have hall := bad_none.mp hb
 refine ⟨_,rfl,x,C,dx,_,_,rfl,x1 _ _ m1,S.cls,S.n2,rfl,tt,_,rfl,.inr (SqT.of (x1 _ _ m3)),us.length,by rw [List.length_map]; rfl,by omega,λ t0 H2 x2 ht0 => ?_⟩
 have x12 := x1.trans x2
 refine ⟨_,rfl,L,rfl,⟨_,x12.seq hL⟩,for_list (xs := row.map V.str) (λ i σ H' => ∃ (t : Addr) (v v' : Option V),σ = [some (.ref x),some (.ref L),some (.ref t),v,v'] /\ Same H H' /\ H' t = some (.tup ((mapG ls tb (row.take i)).map V.int))) ?_ ?_ ?_ ?_⟩
 . exact ⟨t0,none,none,rfl,x12,by rw [ht0,hlen,List.take_zero,map_nil]⟩
 . rintro i σ H3 _ ⟨t,v,v',_,x3,_⟩;exact x3.seq hL
 . rintro i y σ H3 hy ⟨t,v,v',rfl,x3,ht⟩;rw [List.getElem?_map] at hy;obtain ⟨l,hl,rfl⟩ := Option.map_eq_some_iff.mp hy;have hml := hall l (List.mem_of_getElem? hl);have hin : ∀ z ∈ row.take i,z ∈ ls := λ z hz => hall z (List.mem_of_mem_take hz);refine ⟨_,rfl,x,C,dx,_,_,rfl,x3 _ _ m1,S.cls,S.n1,rfl,⟨tl,_,rfl,m2.same x3⟩,_,rfl,tl,l,ls,rfl,rfl,(m2.same x3).sq,hml,?_⟩;refine ⟨_,rfl,_,rfl,x,C,dx,_,_,rfl,x3 _ _ m1,S.cls,S.n2,rfl,tt,rfl,⟨_,SqT.of (x3 _ _ m3)⟩,λ D hD => col_comp (K := K) hG h100 hml hD (x3 _ _ m3) (Paired.mapP m4 λ _ _ z => x3 _ _ z) λ H4 x4 h4 => ?_⟩;refine .inr ⟨t,D,_,_,rfl,SqT.of (x4 _ _ ht),SqL.of h4,by rw [map_len]; exact h100,λ z hz => by rw [col_len]; exact map_in hG hin z hz,λ t' H5 x5 h5 => ?_⟩;refine ⟨t',_,_,rfl,x3.trans (x4.trans x5),?_⟩;rw [h5,map_snoc hG hin,take_snoc hl]
 . rintro σ H3 ⟨t,v,v',rfl,x3,ht⟩;rw [List.length_map,List.take_length] at ht;exact ⟨_,rfl,q hb t H3 x3 ht⟩
def pickG (row : List Str) (ns : List Int) : List Str := ns.map λ n => row.getD (n - 1).toNat default
theorem pick_snoc (row : List Str) (ns : List Int) (n : Int) : pickG row (ns ++ [n]) = pickG row ns ++ [row.getD (n - 1).toNat default] := by
 unfold pickG
 rw [List.map_append]; rfl
theorem pick_at {row : List Str} {n : Int} (h0 : 0 < n) (h1 : n <= row.length) : atI (row.map V.str) (n - 1) = some (.str (row.getD (n - 1).toNat default)) := by
 obtain ⟨m,hm⟩ := Int.eq_ofNat_of_zero_le (show 0 <= n - 1 by omega)
 have hlt : m < row.length := by omega
 rw [hm,List.getD_eq_getElem?_getD,Int.toNat_natCast,List.getElem?_eq_getElem hlt]
 exact atI_nat (by rw [List.getElem?_map,List.getElem?_eq_getElem hlt]; rfl)
theorem pick_in {row : List Str} {ns : List Int} (h : ∀ n ∈ ns,0 < n /\ n <= row.length) : ∀ l ∈ pickG row ns,l ∈ row := λ l hl => by
 obtain ⟨n,hn,rfl⟩ := List.mem_map.mp hl
 obtain ⟨h0,h1⟩ := h n hn
 rw [List.getD_eq_getElem?_getD,List.getElem?_eq_getElem (show (n - 1).toNat < row.length by omega)]
 exact List.getElem_mem _
def posG (ns : List Int) : List Int := ns.filter λ n => decide (0 < n)
theorem pos_comp {D p L : Addr} {Q : VK} {H1 : Hp} {ns : List Int} {row : List Str} (h100 : ns.length <= 100) (hn : ∀ n ∈ ns,n <= row.length) (hD : H1 D = none) (hp : SqL K H1 p (ns.map V.int)) (hL : SqL K H1 L (row.map V.str))
 (hdn : ∀ H',Same H1 H' -> H' D = some (.lst ((pickG row (posG ns)).map V.str)) -> Q (.ref D) H') :
 CompLoop (Itl K p) D (gName 0) (tTest (tOp (rI0 λ i j => .bl (decide (j < i))) (tVar 0) (tC (.int 0)))) (tOp (rIxL K) (tVar 1) (tOp (rI0 λ i j => .int (i - j)) (tVar 0) (tC (.int 1)))) Q [none,some (.ref L)] H1 := by
 have e0 : ∀ i,(posG (ns.take i)).length <= i := λ i => Nat.le_trans (List.length_filter_le ..) (by rw [List.length_take]; omega)
 refine comp_list (xs := ns.map V.int) (λ i ys σ H => ∃ v : Option V,ys = (pickG row (posG (ns.take i))).map V.str /\ σ = [v,some (.ref L)] /\ Same H1 H) ?_ (by rw [List.length_map]; omega) ?_ ?_ ?_ ?_
 . exact ⟨none,rfl,rfl,sm_new hD⟩
 . rintro i ys σ H ⟨v,rfl,_⟩;rw [List.length_map];unfold pickG;rw [List.length_map]; exact e0 i
 . rintro i ys σ H ⟨v,_,_,x⟩;exact x.seq hp
 . rintro i y ys σ H hy hl2 ⟨v,rfl,rfl,x⟩;rw [List.getElem?_map] at hy;obtain ⟨n,hn',rfl⟩ := Option.map_eq_some_iff.mp hy;have hnr := hn n (List.mem_of_getElem? hn');have ep : posG (ns.take (i + 1)) = if 0 < n then posG (ns.take i) ++ [n] else posG (ns.take i) := by
    unfold posG;rw [take_snoc hn',filter_snoc]
    by_cases c : 0 < n
    . rw [if_pos c,if_pos (by simpa using c)]
    . rw [if_neg c,if_neg (by simpa using c)]
   refine ⟨_,rfl,n,0,rfl,rfl,_,rfl,?_⟩;refine ite2 (λ c => ?_) (λ c => ?_)
   . have c : 0 < n := by simpa using c
     refine ⟨_,rfl,_,rfl,n,1,rfl,rfl,L,_,_,_,rfl,rfl,x.seq hL,pick_at c hnr,hl2,_,?_,rfl,x.at hD⟩;rw [ep,if_pos c,pick_snoc,List.map_append]; rfl
   . have c : ¬ 0 < n := by simpa using c
     refine ⟨hl2,_,?_,rfl,x⟩;rw [ep,if_neg c]
 . rintro ys σ H hl2 ⟨v,rfl,_,x⟩;rw [List.length_map,List.take_length] at hl2;exact hdn H x hl2
theorem pos_in {ns : List Int} {m : Int} (h : ∀ n ∈ ns,n <= m) : ∀ n ∈ posG ns,0 < n /\ n <= m := λ n hn => by
 obtain ⟨h1,h2⟩ := List.mem_filter.mp hn
 exact ⟨by simpa using h2,h n h1⟩
def spAlong (K : W.Frag) (C CN : Addr) : Sp := λ vs H Q E => ∃ (x L p : Addr) (ls : List Str) (tb : List (List Int)) (zs : List Int) (row : List Str) (ns : List Int),vs = [.ref x,.ref L,.ref p] /\ MoAt C H x ls tb zs /\ GM ls tb /\ tb.length <= 100 /\ SqL K H L (row.map V.str) /\ SqL K H p (ns.map V.int) /\ ns.length <= 100 /\ (∀ n ∈ ns,n <= row.length) /\
 (bad ls row = none -> ∀ t H',Same H H' -> H' t = some (.tup ((mapG ls tb (pickG row (posG ns))).map V.int)) -> Q (.ref t) H') /\ ∀ l,bad ls row = some l -> Refuses H E CN (Lt l)
theorem sc_along : FnScope ["machine","row","numbers"] ["machine","row","numbers"] (defScope s_along) := (.of rfl rfl rfl rfl (by decide +kernel))
theorem ok_along (F : Fun K "along" "along" s_along f fd) (S : MoC K C) (G_refuse_letters : FnX P w K mg base k "refuse_letters" ["letters","row"] (spRefL K CN) g gd) (G_map_of : FnX P w K mg base k "map_of" ["machine","row"] (spMapOf K C CN) g2 gd2) : FnOk P w K mg base (CXE P w) (k + 1) f fd ["machine","row","numbers"] (spAlong K C CN) := by
 refine F.okX sc_along (λ vs H Q E h => ?_) (λ cdv A outer s H vs Q E hr h => ?_)
 . obtain ⟨x,L,p,ls,tb,zs,row,ns,rfl,_⟩ := h;rfl
 obtain ⟨x,L,p,ls,tb,zs,row,ns,rfl,hM,hG,h100,hL,hp,hn,hnr,q,qe⟩ := h
 have nd := sc_along.nd
 have hpass := pass_any (P := P) (w := w) (K := K) (mg := mg) (base := base) (N := ["machine","row","numbers"]) (qual := "along") (scope := defScope s_along) (f := f) (cd := cdv) (A := A) (outer := outer) (s0 := s) (H0 := H) (E := E) (G := λ c fs => ∃ l,c = CN /\ fs = Lt l /\ bad ls row = some l) (λ a H' c fs ⟨l,e1,e2,e3⟩ na sm fl => qe l e3 a H' na sm (e1 ▸ e2 ▸ fl))
 obtain ⟨dx,tl,tt,tg,us,m1,m2,m3,m4,m5⟩ := id hM
 refine ⟨_,(pss_cons (ps_expr (pe_call G_refuse_letters.ok hr rfl G_refuse_letters.at_ G_refuse_letters.kp G_refuse_letters.bn .nil hpass (pa_cons (pe_fld (pv 0) rfl) (pa_cons (pv 1) pa_nil)))) (pss_one (ps_ret (pe_call G_map_of.ok hr rfl G_map_of.at_ G_map_of.kp G_map_of.bn .nil hpass (pa_cons (pv 0) (pa_cons (pe_comp (g := (gName 0)) (tc := (tTest (tOp (rI0 λ i j => .bl (decide (j < i))) (tVar 0) (tC (.int 0))))) (te := (tOp (rIxL K) (tVar 1) (tOp (rI0 λ i j => .int (i - j)) (tVar 0) (tC (.int 1))))) (own := ["number"]) (fr := ["row"]) (idx := [1]) rfl (by show CompScope _ _ _ (defScope s_along); exact (.of rfl (by decide +kernel))) (pi_list (pv 2)) (λ _ _ _ _ _ => (pg_name (i := 0) (by show List.Nodup (["number","row"] : List Str); decide +kernel) rfl (Or.inl rfl) (Or.inr rfl))) (λ _ _ _ _ _ => pts_one (pt_cmpR op_gt (pv 0) pe_int (nomark _))) (λ _ _ _ _ _ => (pe_ix ix_list (pv 1) (pe_op op_sub (pv 0) pe_int) (λ _ _ => rfl))) rfl (hat_of rfl)) pa_nil)))))),?_⟩
 try dsimp only [cxOf,Cx.nox,Cx.wish]
 refine lats2 ?_
 intro D0 σ0 U2
 refine ⟨_,rfl,x,C,dx,_,_,rfl,m1,S.cls,S.n1,rfl,_,rfl,tl,L,ls,row,rfl,m2.sq,hL,λ hb H1 x1 => ?_,λ l hl a H' na sm fl => ⟨a,rfl,na,sm,_,_,fl,l,rfl,rfl,hl⟩⟩
 have hall := bad_none.mp hb
 have hok : bad ls (pickG row (posG ns)) = none := bad_none.mpr λ l hl => hall l (pick_in (pos_in hnr) l hl)
 refine ⟨_,rfl,_,rfl,p,rfl,⟨_,x1.seq hp⟩,λ D hD => pos_comp (K := K) hn hnr hD (x1.seq hp) (x1.seq hL) λ H2 x2 h2 => ?_⟩
 have x12 := x1.trans x2
 exact ⟨x,D,ls,tb,zs,_,rfl,hM.same x12,hG,h100,SqL.of h2,λ _ t H3 x3 h3 => q hb t H3 (x12.trans x3) h3,λ l hl => absurd (hok.symm.trans hl) (λ z => by cases z)⟩
theorem kit_ii (K : W.Frag) : W.kitOne K (.type "int") (.type "int") = some true := by kernel_rfl
theorem kit_ib (K : W.Frag) : W.kitOne K (.type "int") (.type "bool") = some false := by kernel_rfl
theorem kit_tt (K : W.Frag) : W.kitOne K (.type "tuple") (.type "tuple") = some true := by kernel_rfl
def spWhole : Sp := λ vs H Q _ => ∃ n : Int,vs = [.int n] /\ Q (.bl true) H
theorem sc_whole : FnScope ["_law_found"] ["_law_found"] (defScope s_law_whole) := (.of rfl rfl rfl rfl (by decide +kernel))
theorem ok_whole (F : Fun K "_law_whole" "_law_whole" s_law_whole f fd) (B : Bt mg) : FnOk P w K mg base CX0 (k + 1) f fd ["_law_found"] spWhole := by
 refine F.ok sc_whole (λ vs H Q E h => ?_) (λ cdv A outer s H vs Q E hr h => ?_)
 . obtain ⟨n,rfl,_⟩ := h;rfl
 obtain ⟨n,rfl,q⟩ := h
 have nd := sc_whole.nd
 refine ⟨_,(pss_one (ps_ret (pe_and (pe_callB call_isi2 rfl B.isinstance_ boot_isinstance (pa_cons (pv 0) (pa_cons (pe_bltn (v := .ty "int") (u := .type "int") rfl B.int_ (by decide +kernel) rfl) pa_nil))) (pe_one (pe_not (pe_callB call_isi2 rfl B.isinstance_ boot_isinstance (pa_cons (pv 0) (pa_cons (pe_bltn (v := .ty "bool") (u := .type "bool") rfl B.bool_ (by decide +kernel) rfl) pa_nil)))))))),?_⟩
 try dsimp only [cxOf,Cx.nox,Cx.wish]
 refine ⟨_,rfl,_,_,.type "int",_,true,rfl,.int n,rfl,λ _ z => z,kit_ii K,true,rfl,iteT ?_⟩
 exact ⟨_,rfl,_,_,.type "bool",_,false,rfl,.int n,rfl,λ _ z => z,kit_ib K,false,rfl,q⟩
theorem ids_snoc (n : Nat) : ids (n + 1) = ids n ++ [(n : Int)] := by
 unfold ids
 rw [List.range_succ,List.map_append]; rfl
def spLed (K : W.Frag) : Sp := λ vs H Q _ => ∃ (t l p : Addr) (rs : List Addr) (tb : List (List Int)) (ls row : List Str),vs = [.ref t,.ref l,.ref p] /\ Tb H t rs tb ls.length /\ H l = some (.lst (ls.map V.str)) /\ SqL K H p (row.map V.str) /\ GM ls tb /\ ls.length <= 1000 /\ (∀ z ∈ row,z ∈ ls) /\
 ∀ u H',Same H H' -> H' u = some (.tup ((mapG ls tb row).map V.int)) -> Q (.ref u) H'
theorem sc_led : FnScope ["_law_table","_law_letters","_law_names_here","_law_found","_law_state","_law_goal","_law_name"] ["_law_table","_law_letters","_law_names_here"] (defScope s_law_led) := (.of rfl rfl rfl rfl (by decide +kernel))
theorem ok_led (F : Fun K "_law_led" "_law_led" s_law_led f fd) (B : Bt mg) : FnOk P w K mg base CX0 (k + 1) f fd ["_law_table","_law_letters","_law_names_here"] (spLed K) := by
 refine F.ok sc_led (λ vs H Q E h => ?_) (λ cdv A outer s H vs Q E hr h => ?_)
 . obtain ⟨t,l,p,rs,tb,ls,row,rfl,_⟩ := h;rfl
 obtain ⟨t,l,p,rs,tb,ls,row,rfl,hT,hl,hp,hG,hls,hin,q⟩ := h
 have nd := sc_led.nd
 have hlen := Paired.length hT.rows
 have hf := hT.few
 have s1000 := line_200
 refine ⟨_,(pss_cons (ps_set (i := 3) nd rfl (Or.inl rfl) (pe_lst pa_nil)) (pss_cons (ps_for PassesOwn.never rfl (pi_range1 rfl B.range_ (pa_cons (pe_callB call_len_seq rfl B.len_ PySem.boot_len (pa_cons (pv 0) pa_nil)) pa_nil)) (pg_name (i := 4) nd rfl (Or.inl rfl)) (pss_cons (ps_set (i := 5) nd rfl (Or.inl rfl) (pv 4)) (pss_cons (ps_for PassesOwn.never rfl (pi_list (pv 2)) (pg_name (i := 6) nd rfl (Or.inl rfl)) (pss_one (ps_set (i := 5) nd rfl (Or.inl rfl) (pe_ix ix_list (pe_ix ix_list (pv 0) (pv 5) (λ _ _ => rfl)) (pe_bm PySem.F.plainAttrs_list PySem.F.slot_list_index PySem.F.type_list_index mt_indexS (pv 1) (pa_cons (pv 6) pa_nil)) (λ _ _ => rfl))))) (pss_one (ps_expr (pe_bm PySem.F.plainAttrs_list PySem.F.slot_list_append PySem.F.type_list_append mt_append (pv 3) (pa_cons (pv 5) pa_nil))))))) (pss_one (ps_ret (pe_callTy call_tuple_of rfl B.tuple_ (by decide +kernel) (pa_cons (pv 3) pa_nil)))))),?_⟩
 try dsimp only [cxOf,Cx.nox,Cx.wish]
 refine lats3 ?_
 intro D0 σ0 U3 U2
 refine ⟨tiny (show 0 <= 1000 by decide),λ D hD => ?_⟩
 refine ⟨_,rfl,t,_,rfl,.inl (SqL.of ((sm_new hD) _ _ hT.at_)),(tb.length : Int),by rw [List.length_map,hlen],by omega,by omega,for_range (n := (tb.length : Int).toNat) (λ i σ H' => ∃ v4 v5 v6 : Option V,σ = [some (.ref t),some (.ref l),some (.ref p),some (.ref D),v4,v5,v6] /\ Same H H' /\ H' D = some (.lst (((ids i).map λ s => row.foldl (goG ls tb) s).map V.int))) ?_ ?_ ?_⟩
 . exact ⟨none,none,none,rfl,sm_new hD,upd_same⟩
 . rintro i σ H1 hi ⟨v4,v5,v6,rfl,x1,h1⟩;rw [Int.toNat_natCast] at hi;refine ⟨_,rfl,_,rfl,p,rfl,⟨_,x1.seq hp⟩,for_list (xs := row.map V.str) (λ j σ H' => ∃ v : Option V,σ = [some (.ref t),some (.ref l),some (.ref p),some (.ref D),some (.int (0 + (i : Int))),some (.int ((row.take j).foldl (goG ls tb) (i : Int))),v] /\ H' = H1) ?_ ?_ ?_ ?_⟩
   . exact ⟨v6,by rw [Int.zero_add]; rfl,rfl⟩
   . rintro j σ H2 _ ⟨v,_,rfl⟩;exact x1.seq hp
   . rintro j y σ H2 hy ⟨v,rfl,rfl⟩;rw [List.getElem?_map] at hy;obtain ⟨z,hz,rfl⟩ := Option.map_eq_some_iff.mp hy;have hm := hin z (List.mem_of_getElem? hz);obtain ⟨s0,s1⟩ := run_in hG (row.take j) (i : Int) (by omega) (by omega) λ u hu => hin u (List.mem_of_mem_take hu);obtain ⟨r,e1,e2,_,_⟩ := go_in hG s0 s1 hm;obtain ⟨st,hst⟩ := Int.eq_ofNat_of_zero_le s0;obtain ⟨u,hu1,hu2⟩ := paired_getR hT.rows e1;refine ⟨_,rfl,_,rfl,t,_,_,_,rfl,rfl,SqL.of (x1 _ _ hT.at_),(by rw [hst]; exact atI_nat (by rw [List.getElem?_map,show st = ((row.take j).foldl (goG ls tb) (i : Int)).toNat by rw [hst]; rfl,hu1]; rfl)),?_⟩;refine ⟨_,rfl,.inl ⟨rfl,_,SqL.of (x1 _ _ hl)⟩,_,rfl,l,z,ls,rfl,rfl,x1 _ _ hl,hm,hls,u,_,_,_,rfl,rfl,SqL.of (x1 _ _ hu2),at_i e2,some (.str z),?_,rfl⟩;rw [take_snoc hz,List.foldl_append]; rfl
   . rintro σ H2 ⟨v,rfl,rfl⟩;rw [List.length_map,List.take_length];refine ⟨_,rfl,.inl ⟨rfl,_,SqL.of h1⟩,_,rfl,D,_,_,rfl,rfl,h1,?_,_,_,_,rfl,x1.at hD,?_⟩
     . rw [List.length_map,List.length_map]; unfold ids; rw [List.length_map,List.length_range]; omega
     . rw [upd_same,ids_snoc,List.map_append,List.map_append]; rfl
 . rintro σ H1 ⟨v4,v5,v6,rfl,x1,h1⟩;rw [Int.toNat_natCast] at h1;exact ⟨_,rfl,D,_,rfl,.inl ⟨SqL.of h1,λ u hu => q u _ (x1.trans (sm_new hu)) upd_same⟩⟩
def spIsMap (K : W.Frag) : Sp := λ vs H Q _ => ∃ (a b : Addr) (zs : List Int),vs = [.ref a,.ref b] /\ H a = some (.tup (zs.map V.int)) /\ SqT K H b (zs.map V.int) /\ zs.length <= 100 /\ ∀ H',Same H H' -> Q (.bl true) H'
theorem sc_ismap : FnScope ["_law_found","_law_due"] ["_law_found","_law_due"] (defScope s_law_is_map) := (.of rfl rfl rfl rfl (by decide +kernel))
theorem whole_comp {D a : Addr} {Q : VK} {H1 : Hp} {zs : List Int} (h100 : zs.length <= 100) (hD : H1 D = none) (ha : H1 a = some (.tup (zs.map V.int))) (hdn : ∀ H',Same H1 H' -> H' D = some (.lst (zs.map V.int)) -> Q (.ref D) H') :
 CompLoop (Itt K a) D (gName 0) (tB (tCall spWhole [] E0 (tCons (tVar 0) tNil))) (tVar 0) Q [none] H1 := by
 refine comp_tup (xs := zs.map V.int) (λ i ys σ H => ∃ v : Option V,ys = (zs.take i).map V.int /\ σ = [v] /\ Same H1 H) ?_ (by rw [List.length_map]; omega) ?_ ?_ ?_ ?_
 . exact ⟨none,rfl,rfl,sm_new hD⟩
 . rintro i ys σ H ⟨v,rfl,_⟩;rw [List.length_map,List.length_take]; omega
 . rintro i ys σ H ⟨v,_,_,x⟩;exact SqT.of (x _ _ ha)
 . rintro i y ys σ H hy hl2 ⟨v,rfl,rfl,x⟩;rw [List.getElem?_map] at hy;obtain ⟨z,hz,rfl⟩ := Option.map_eq_some_iff.mp hy;refine ⟨_,rfl,z,rfl,true,rfl,iteT ⟨_,rfl,hl2,_,?_,rfl,x.at hD⟩⟩;rw [take_snoc hz,List.map_append]; rfl
 . rintro ys σ H hl2 ⟨v,rfl,_,x⟩;rw [List.length_map,List.take_length] at hl2;exact hdn H x hl2
theorem ok_ismap (F : Fun K "_law_is_map" "_law_is_map" s_law_is_map f fd) (B : Bt mg) (G__law_whole : Fn P w K mg base k "_law_whole" ["_law_found"] spWhole g gd) : FnOk P w K mg base CX0 (k + 1) f fd ["_law_found","_law_due"] (spIsMap K) := by
 refine F.ok sc_ismap (λ vs H Q E h => ?_) (λ cdv A outer s H vs Q E hr h => ?_)
 . obtain ⟨a,b,zs,rfl,_⟩ := h;rfl
 obtain ⟨a,b,zs,rfl,ha,hb,h100,q⟩ := h
 have nd := sc_ismap.nd
 refine ⟨_,(pss_cons (ps_if (PW.pt (pw_or (pt_not (pt_val (pe_callB call_isi2 rfl B.isinstance_ boot_isinstance (pa_cons (pv 0) (pa_cons (pe_bltn (v := .ty "tuple") (u := .type "tuple") rfl B.tuple_ (by decide +kernel) rfl) pa_nil))) (λ _ => rfl))) (pw_or1 (pt_cmpR (op_neTI (hu0_of hr)) (pv 0) (pv 1) (nomark _))))) (pss_one (ps_ret pe_bl)) pss_nil) (pss_one (ps_ret (pe_cmpR op_eq (pe_callB call_len_seq rfl B.len_ PySem.boot_len (pa_cons (pe_comp (g := (gName 0)) (tc := (tB (tCall spWhole [] E0 (tCons (tVar 0) tNil)))) (te := (tVar 0)) (own := ["_law_state"]) (fr := ([] : List Str)) (idx := []) rfl (by show CompScope _ _ _ (defScope s_law_is_map); exact (.of rfl (by decide +kernel))) (pi_tup (pv 0)) (λ _ _ _ _ _ => (pg_name (i := 0) (by show List.Nodup (["_law_state"] : List Str); decide +kernel) rfl (Or.inl rfl) (Or.inr rfl))) (λ _ _ _ _ _ => pts_one (pt_val (pe_call G__law_whole.ok hr rfl G__law_whole.at_ G__law_whole.kp G__law_whole.bn .nil pass0 (pa_cons (pv 0) pa_nil)) (λ _ => rfl))) (λ _ _ _ _ _ => (pv 0)) rfl (hat_of rfl)) pa_nil)) (pe_callB call_len_seq rfl B.len_ PySem.boot_len (pa_cons (pv 1) pa_nil)) (nomark _))))),?_⟩
 try dsimp only [cxOf,Cx.nox,Cx.wish]
 refine lats2 ?_
 intro D0 σ0 U2
 refine ⟨_,rfl,_,_,.type "tuple",_,true,rfl,.tup ha,rfl,λ _ z => z,kit_tt K,true,rfl,?_⟩
 refine iteF ?_
 have x1 := Same.refl H
 refine ⟨_,rfl,_,rfl,a,b,zs,rfl,rfl,SqT.of ha,hb,false,rfl,?_⟩
 refine iteF ?_
 refine ⟨_,rfl,a,rfl,⟨_,SqT.of (x1 _ _ ha)⟩,λ D hD => whole_comp (K := K) h100 hD (x1 _ _ ha) λ H2 x2 h2 => ?_⟩
 refine ⟨D,_,rfl,.inl (SqL.of h2),_,rfl,b,_,rfl,.inr (Same.tup x2 hb),?_⟩
 refine ⟨rfl,?_⟩
 rw [decide_eq_true (rfl : V.int ((zs.map V.int).length : Int) = V.int ((zs.map V.int).length : Int))]
 exact q H2 (x1.trans x2)
def prodG (ms : List Int) : Int := ms.foldr (· * ·) 1
def splitG : Int -> List Int -> List Int
 | _,[] => []
 | s,m :: ms => s % m :: splitG (s / m) ms
def putG : List Int -> List Int -> Int
 | p :: ps,m :: ms => putG ps ms * m + p
 | _,_ => 0
structure Pt (ps ms : List Int) : Prop where
 len : ps.length = ms.length
 lo : ∀ (i : Nat) (p m : Int),ps[i]? = some p -> ms[i]? = some m -> 0 <= p /\ p < m
theorem Pt.tail {p m : Int} {ps ms : List Int} (h : Pt (p :: ps) (m :: ms)) : (0 <= p /\ p < m) /\ Pt ps ms :=
 ⟨h.lo 0 p m rfl rfl,Nat.succ.inj h.len,λ i p' m' a b => h.lo (i + 1) p' m' (by simpa using a) (by simpa using b)⟩
theorem Pt.cons {p m : Int} {ps ms : List Int} (h : 0 <= p /\ p < m) (t : Pt ps ms) : Pt (p :: ps) (m :: ms) :=
 ⟨congrArg (· + 1) t.len,λ i p' m' a b => by
  cases i with
  | zero => cases Option.some.inj a; cases Option.some.inj b; exact h
  | succ i => exact t.lo i p' m' (by simpa using a) (by simpa using b)⟩
theorem prod_pos : ∀ {ms : List Int},(∀ m ∈ ms,0 < m) -> 0 < prodG ms
 | [],_ => by decide
 | m :: ms,h => by
  show 0 < m * prodG ms
  exact Int.mul_pos (h m List.mem_cons_self) (prod_pos λ z hz => h z (List.mem_cons_of_mem _ hz))
theorem split_len : ∀ (ms : List Int) (s : Int),(splitG s ms).length = ms.length
 | [],_ => rfl
 | m :: ms,s => congrArg (· + 1) (split_len ms (s / m))
theorem split_pt : ∀ {ms : List Int},(∀ m ∈ ms,0 < m) -> ∀ s,Pt (splitG s ms) ms
 | [],_,_ => ⟨rfl,λ i p m a _ => by simp [splitG] at a⟩
 | m :: ms,h,s => by
  have hm := h m List.mem_cons_self;exact .cons ⟨Int.emod_nonneg _ (by omega),Int.emod_lt_of_pos _ hm⟩ (split_pt (λ z hz => h z (List.mem_cons_of_mem _ hz)) (s / m))
theorem put_in : ∀ {ps ms : List Int},Pt ps ms -> 0 <= putG ps ms /\ putG ps ms < prodG ms
 | [],[],_ => by decide
 | [],_ :: _,h => by have := h.len; simp at this
 | _ :: _,[],h => by have := h.len; simp at this
 | p :: ps,m :: ms,h => by
  obtain ⟨⟨a,b⟩,t⟩ := h.tail;obtain ⟨c,d⟩ := put_in t;show 0 <= putG ps ms * m + p /\ putG ps ms * m + p < m * prodG ms;have hm : 0 < m := by omega
  have e1 : 0 <= putG ps ms * m := Int.mul_nonneg c (by omega);have e2 : (putG ps ms + 1) * m <= prodG ms * m := Int.mul_le_mul_of_nonneg_right (by omega) (by omega);rw [Int.add_mul,Int.one_mul] at e2;rw [Int.mul_comm m];omega
theorem split_put : ∀ {ps ms : List Int},Pt ps ms -> splitG (putG ps ms) ms = ps
 | [],[],_ => rfl
 | [],_ :: _,h => by have := h.len; simp at this
 | _ :: _,[],h => by have := h.len; simp at this
 | p :: ps,m :: ms,h => by
  obtain ⟨⟨a,b⟩,t⟩ := h.tail;have hm : m ≠ 0 := by omega
  show (putG ps ms * m + p) % m :: splitG ((putG ps ms * m + p) / m) ms = p :: ps
  have e1 : (putG ps ms * m + p) % m = p := by rw [Int.add_comm,Int.add_mul_emod_self_right]; exact Int.emod_eq_of_lt a b
  have e2 : (putG ps ms * m + p) / m = putG ps ms := by rw [Int.add_comm,Int.add_mul_ediv_right _ _ hm,Int.ediv_eq_zero_of_lt a b,Int.zero_add]
  rw [e1,e2,split_put t]
def setAll (ps : List Int) (zs : List (Nat × Int)) : List Int := zs.foldl (λ q z => q.set z.1 z.2) ps
theorem setAll_len : ∀ (zs : List (Nat × Int)) (ps : List Int),(setAll ps zs).length = ps.length
 | [],_ => rfl
 | z :: zs,ps => by
  show (setAll (ps.set z.1 z.2) zs).length = _
  rw [setAll_len zs,List.length_set]
theorem setAll_get : ∀ {zs : List (Nat × Int)} {ps : List Int},(zs.map (·.1)).Nodup -> (∀ z ∈ zs,z.1 < ps.length) -> ∀ i : Nat,(setAll ps zs)[i]? = (zs.lookup i).or ps[i]?
 | [],ps,_,_,i => rfl
 | z :: zs,ps,nd,hl,i => by
  rw [List.map_cons,List.nodup_cons] at nd;show (setAll (ps.set z.1 z.2) zs)[i]? = _;rw [setAll_get (ps := ps.set z.1 z.2) nd.2 (λ y hy => by rw [List.length_set]; exact hl y (List.mem_cons_of_mem _ hy)) i];obtain ⟨a,v⟩ := z
  by_cases e : i = a
  . subst e;have hn : zs.lookup i = none := by
     rw [List.lookup_eq_none_iff];intro y hy;exact bne_iff_ne.mpr λ hb => nd.1 (List.mem_map.mpr ⟨y,hy,hb.symm⟩)
    have hi := hl (i,v) List.mem_cons_self;rw [hn,List.lookup_cons];simp [hi]
  . have eb : (i == a) = false := beq_eq_false_iff_ne.mpr e;rw [List.lookup_cons,eb,List.getElem?_set_ne (λ z => e z.symm)]
structure AD where
 pl : List Nat
 mv : List (List Int)
 st : Int
def subG (pl : List Nat) (ps : List Int) : List Int := pl.map λ i => ps.getD i 0
def goalG (ms : List Int) (a : AD) (ps : List Int) : List Int := a.mv.getD (putG (subG a.pl ps) (subG a.pl ms)).toNat []
def lastG (ms : List Int) : Nat := ms.length - 1
def actG (ms : List Int) (a : AD) (ps : List Int) : List Int :=
 (setAll ps (a.pl.zip (goalG ms a ps))).set (lastG ms) (((setAll ps (a.pl.zip (goalG ms a ps))).getD (lastG ms) 0 + a.st) % ms.getD (lastG ms) 0)
structure OkA (ms : List Int) (a : AD) : Prop where
 nd : a.pl.Nodup
 lt : ∀ i ∈ a.pl,i < lastG ms
 len : (a.mv.length : Int) = prodG (subG a.pl ms)
 row : ∀ r ∈ a.mv,Pt r (subG a.pl ms)
theorem sub_pt {ms ps : List Int} {pl : List Nat} (h : Pt ps ms) (hl : ∀ i ∈ pl,i < lastG ms) : Pt (subG pl ps) (subG pl ms) := by
 refine ⟨by unfold subG; rw [List.length_map,List.length_map],λ i p m a b => ?_⟩
 unfold subG at a b
 rw [List.getElem?_map] at a b
 obtain ⟨j,hj,rfl⟩ := Option.map_eq_some_iff.mp a
 rw [hj] at b
 cases Option.some.inj b
 have hlt := hl j (List.mem_of_getElem? hj)
 have h1 : j < ms.length := by unfold lastG at hlt; omega
 have h2 : j < ps.length := by rw [h.len]; exact h1
 refine h.lo j _ _ ?_ ?_
 . rw [List.getD_eq_getElem?_getD,List.getElem?_eq_getElem h2]; rfl
 . show ms[j]? = some (ms.getD j 0)
   rw [List.getD_eq_getElem?_getD,List.getElem?_eq_getElem h1]; rfl
theorem goal_pt {ms ps : List Int} {a : AD} (h : Pt ps ms) (o : OkA ms a) : Pt (goalG ms a ps) (subG a.pl ms) := by
 obtain ⟨c,d⟩ := put_in (sub_pt h o.lt)
 rw [<- o.len] at d
 have hi : (putG (subG a.pl ps) (subG a.pl ms)).toNat < a.mv.length := by omega
 unfold goalG
 rw [List.getD_eq_getElem?_getD,List.getElem?_eq_getElem hi]
 exact o.row _ (List.getElem_mem hi)
theorem zip_fst : ∀ {pl : List Nat} {vs : List Int},vs.length = pl.length -> (pl.zip vs).map (·.1) = pl
 | [],_,_ => rfl
 | _ :: _,[],h => by cases h
 | p :: pl,v :: vs,h => by
  show p :: (pl.zip vs).map (·.1) = _
  rw [zip_fst (Nat.succ.inj h)]
theorem zip_none {pl : List Nat} {vs : List Int} {i : Nat} (h : i ∉ pl) : (pl.zip vs).lookup i = none := by
 rw [List.lookup_eq_none_iff]
 intro y hy
 exact bne_iff_ne.mpr λ e => h (e ▸ (List.of_mem_zip (show (y.1,y.2) ∈ _ from hy)).1)
theorem look_mem : ∀ {zs : List (Nat × Int)} {i : Nat} {v : Int},zs.lookup i = some v -> (i,v) ∈ zs
 | [],_,_,h => by cases h
 | (a,w) :: zs,i,v,h => by
  rw [List.lookup_cons] at h
  by_cases e : i = a
  . subst e;rw [beq_self_eq_true] at h;cases Option.some.inj h;exact List.mem_cons_self
  . rw [beq_eq_false_iff_ne.mpr e] at h;exact List.mem_cons_of_mem _ (look_mem h)
theorem act_get {ms ps : List Int} {a : AD} (h : Pt ps ms) (o : OkA ms a) (i : Nat) : (actG ms a ps)[i]? = if i = lastG ms /\ i < ms.length then some ((ps.getD i 0 + a.st) % ms.getD i 0) else ((a.pl.zip (goalG ms a ps)).lookup i).or ps[i]? := by
 have gl : (goalG ms a ps).length = a.pl.length := by rw [(goal_pt h o).len]; unfold subG; rw [List.length_map]
 have G := λ j => setAll_get (zs := a.pl.zip (goalG ms a ps)) (ps := ps) (by rw [zip_fst gl]; exact o.nd) (λ z hz => by
  have := o.lt z.1 (by have := List.mem_map_of_mem (f := (·.1)) hz; rw [zip_fst gl] at this; exact this);rw [h.len]; unfold lastG at this; omega) j
 unfold actG
 by_cases e : i = lastG ms /\ i < ms.length
 . rw [if_pos e];obtain ⟨rfl,hlt⟩ := e;rw [List.getElem?_set_self (by rw [setAll_len,h.len]; exact hlt)];have hn : lastG ms ∉ a.pl := λ z => Nat.lt_irrefl _ (o.lt _ z);rw [List.getD_eq_getElem?_getD,G,zip_none hn,Option.none_or,<- List.getD_eq_getElem?_getD]
 . rw [if_neg e]
   by_cases e1 : i = lastG ms
   . have : ms.length = 0 := by unfold lastG at e1; rcases Nat.eq_zero_or_pos ms.length with z | z; exact z; exact absurd ⟨e1,by omega⟩ e
     have hp : ps = [] := List.length_eq_zero_iff.mp (h.len.trans this);have hn : i ∉ a.pl := λ z => by have := o.lt _ z; omega
     rw [zip_none hn,Option.none_or,hp];have : (setAll [] (a.pl.zip (goalG ms a []))).length = 0 := by rw [setAll_len]; rfl
     rw [List.length_eq_zero_iff.mp this];rfl
   . rw [List.getElem?_set_ne (λ z => e1 z.symm),G]
theorem act_len {ms ps : List Int} {a : AD} : (actG ms a ps).length = ps.length := by
 unfold actG
 rw [List.length_set,setAll_len]
theorem act_pt {ms ps : List Int} {a : AD} (hm : ∀ m ∈ ms,0 < m) (h : Pt ps ms) (o : OkA ms a) : Pt (actG ms a ps) ms := by
 refine ⟨act_len.trans h.len,λ i p m hp hq => ?_⟩
 have gp := goal_pt h o
 rw [act_get h o] at hp
 by_cases e : i = lastG ms /\ i < ms.length
 . rw [if_pos e] at hp;cases Option.some.inj hp;have em : ms.getD i 0 = m := by rw [List.getD_eq_getElem?_getD,hq]; rfl
   rw [em];have := hm m (List.mem_of_getElem? hq);exact ⟨Int.emod_nonneg _ (by show m ≠ 0; omega),Int.emod_lt_of_pos _ this⟩
 . rw [if_neg e] at hp;cases el : (a.pl.zip (goalG ms a ps)).lookup i with
   | none =>
    rw [el,Option.none_or] at hp;exact h.lo i p m hp hq
   | some v =>
    rw [el,Option.some_or] at hp;cases Option.some.inj hp;have hmem := look_mem el;obtain ⟨j,hj⟩ := List.getElem?_of_mem hmem;rw [List.getElem?_zip_eq_some] at hj;refine gp.lo j _ m hj.2 ?_;unfold subG;rw [List.getElem?_map,hj.1];show some (ms.getD i 0) = some m;rw [List.getD_eq_getElem?_getD,hq]; rfl
theorem act_sub {ms ps : List Int} {a : AD} (h : Pt ps ms) (o : OkA ms a) {pl : List Nat} (hl : ∀ i ∈ pl,i < lastG ms) (hd : ∀ i ∈ pl,i ∉ a.pl) : subG pl (actG ms a ps) = subG pl ps := by
 unfold subG
 refine List.map_congr_left λ i hi => ?_
 have := hl i hi
 rw [List.getD_eq_getElem?_getD,List.getD_eq_getElem?_getD,act_get h o,if_neg (λ z => by omega),zip_none (hd i hi),Option.none_or]
theorem act_comm {ms ps : List Int} {a b : AD} (hm : ∀ m ∈ ms,0 < m) (h : Pt ps ms) (oa : OkA ms a) (ob : OkA ms b) (hd : ∀ i ∈ a.pl,i ∉ b.pl) : actG ms b (actG ms a ps) = actG ms a (actG ms b ps) := by
 have ha := act_pt hm h oa
 have hb := act_pt hm h ob
 have e1 : goalG ms b (actG ms a ps) = goalG ms b ps := by unfold goalG; rw [act_sub h oa ob.lt λ i hi z => hd i z hi]
 have e2 : goalG ms a (actG ms b ps) = goalG ms a ps := by unfold goalG; rw [act_sub h ob oa.lt hd]
 refine List.ext_getElem? λ i => ?_
 rw [act_get ha ob,act_get hb oa,e1,e2]
 by_cases e : i = lastG ms /\ i < ms.length
 . rw [if_pos e,if_pos e,List.getD_eq_getElem?_getD,act_get h oa,if_pos e,List.getD_eq_getElem?_getD (l := actG ms b ps),act_get h ob,if_pos e];show some (((ps.getD i 0 + a.st) % ms.getD i 0 + b.st) % ms.getD i 0) = some (((ps.getD i 0 + b.st) % ms.getD i 0 + a.st) % ms.getD i 0);rw [Int.emod_add_emod,Int.emod_add_emod,Int.add_right_comm]
 . rw [if_neg e,if_neg e,act_get h oa,if_neg e,act_get h ob,if_neg e]
   by_cases hi : i ∈ a.pl
   . rw [zip_none (hd i hi),Option.none_or,Option.none_or]
   . rw [zip_none (pl := a.pl) hi,Option.none_or,Option.none_or]
def ledG (ms : List Int) (a : AD) (s : Int) : Int := putG (actG ms a (splitG s ms)) ms
theorem led_in {ms : List Int} {a : AD} (hm : ∀ m ∈ ms,0 < m) (o : OkA ms a) (s : Int) : 0 <= ledG ms a s /\ ledG ms a s < prodG ms := put_in (act_pt hm (split_pt hm s) o)
theorem led_comm {ms : List Int} {a b : AD} (hm : ∀ m ∈ ms,0 < m) (oa : OkA ms a) (ob : OkA ms b) (hd : ∀ i ∈ a.pl,i ∉ b.pl) (s : Int) : ledG ms b (ledG ms a s) = ledG ms a (ledG ms b s) := by
 unfold ledG
 rw [split_put (act_pt hm (split_pt hm s) oa),split_put (act_pt hm (split_pt hm s) ob),act_comm hm (split_pt hm s) oa ob hd]
abbrev s_law_sizes : Stmt := top 26
abbrev s_law_split : Stmt := top 27
abbrev s_law_put : Stmt := top 28
theorem ext_free {a p : Addr} {H H' : Hp} (x : Ext a H H') (n : p ≠ a) (h : H' p = none) : H p = none := by
 cases e : H p with
 | none => rfl
 | some o => rw [x _ _ n e] at h; cases h
theorem pickS {r : Int} (h0 : 0 <= r) (h1 : r < 8) : ∃ m : Int,atI [V.int 2,V.int 2,V.int 1,V.int 3,V.int 2,V.int 2,V.int 1,V.int 4] r = some (.int m) /\ 1 <= m /\ m <= 4 := by
 obtain ⟨n,rfl⟩ := Int.eq_ofNat_of_zero_le h0
 rcases n with _ | _ | _ | _ | _ | _ | _ | _ | n
 . exact ⟨2,atI_nat (j := 0) rfl,by decide,by decide⟩
 . exact ⟨2,atI_nat (j := 1) rfl,by decide,by decide⟩
 . exact ⟨1,atI_nat (j := 2) rfl,by decide,by decide⟩
 . exact ⟨3,atI_nat (j := 3) rfl,by decide,by decide⟩
 . exact ⟨2,atI_nat (j := 4) rfl,by decide,by decide⟩
 . exact ⟨2,atI_nat (j := 5) rfl,by decide,by decide⟩
 . exact ⟨1,atI_nat (j := 6) rfl,by decide,by decide⟩
 . exact ⟨4,atI_nat (j := 7) rfl,by decide,by decide⟩
 . omega
theorem pickC {r : Int} (h0 : 0 <= r) (h1 : r < 4) : ∃ m : Int,atI [V.int 1,V.int 1,V.int 2,V.int 3] r = some (.int m) /\ 1 <= m /\ m <= 4 := by
 obtain ⟨n,rfl⟩ := Int.eq_ofNat_of_zero_le h0
 rcases n with _ | _ | _ | _ | n
 . exact ⟨1,atI_nat (j := 0) rfl,by decide,by decide⟩
 . exact ⟨1,atI_nat (j := 1) rfl,by decide,by decide⟩
 . exact ⟨2,atI_nat (j := 2) rfl,by decide,by decide⟩
 . exact ⟨3,atI_nat (j := 3) rfl,by decide,by decide⟩
 . omega
theorem prod_snoc (ms : List Int) (m : Int) : prodG (ms ++ [m]) = prodG ms * m := by
 induction ms with
 | nil => show m * 1 = 1 * m; omega
 | cons a r ih =>
  show a * prodG (r ++ [m]) = a * prodG r * m
  rw [ih,Int.mul_assoc]
def restG (s : Int) (ms : List Int) : Int := ms.foldl (λ t m => t / m) s
theorem split_snoc : ∀ (ms : List Int) (s m : Int),splitG s (ms ++ [m]) = splitG s ms ++ [restG s ms % m]
 | [],_,_ => rfl
 | a :: r,s,m => by
  show s % a :: splitG (s / a) (r ++ [m]) = _
  rw [split_snoc r (s / a) m]; rfl
theorem rest_snoc (s : Int) (ms : List Int) (m : Int) : restG s (ms ++ [m]) = restG s ms / m := by unfold restG; rw [List.foldl_append]; rfl
theorem put_drop : ∀ (ps ms : List Int) (j : Nat) (p m : Int),ps[j]? = some p -> ms[j]? = some m -> putG (ps.drop j) (ms.drop j) = putG (ps.drop (j + 1)) (ms.drop (j + 1)) * m + p := by
 intro ps ms j p m hp hm
 obtain ⟨h1,e1⟩ := List.getElem?_eq_some_iff.mp hp
 obtain ⟨h2,e2⟩ := List.getElem?_eq_some_iff.mp hm
 rw [List.drop_eq_getElem_cons h1,List.drop_eq_getElem_cons h2,e1,e2]; rfl
def spSizes : Sp := λ vs H Q _ => ∃ (a E : Addr) (ds : List Str),vs = [.ref a,.ref E,.int 12] /\ FlowAt H a /\ H E = some (.lst (ds.map V.str)) /\ E ≠ a /\ ds.length <= 4 /\
 ∀ (r : Addr) (ms : List Int) (H' : Hp),ms.length = ds.length + 1 -> (∀ m ∈ ms,1 <= m /\ m <= 4) -> prodG ms <= 12 -> r ≠ a -> H r = none -> FlowAt H' a -> Ext a H H' -> H' r = some (.lst (ms.map V.int)) -> Q (.ref r) H'
theorem sc_sizes : FnScope ["_law_flow_here","_law_desks_here","_law_most","_law_sizes_here","_law_total","_law_desk","_law_size","_law_count"] ["_law_flow_here","_law_desks_here","_law_most"] (defScope s_law_sizes) := (.of rfl rfl rfl rfl (by decide +kernel))
theorem ok_sizes (F : Fun K "_law_sizes" "_law_sizes" s_law_sizes f fd) (B : Bt mg) (G__law_draw : Fn P w K mg base k "_law_draw" ["_law_flow_here","_law_many"] spDraw g gd) : FnOk P w K mg base CX0 (k + 1) f fd ["_law_flow_here","_law_desks_here","_law_most"] spSizes := by
 refine F.ok sc_sizes (λ vs H Q E h => ?_) (λ cdv A outer s H vs Q E hr h => ?_)
 . obtain ⟨a,E,ds,rfl,_⟩ := h;rfl
 obtain ⟨a,E,ds,rfl,hF,hE,nE,h4,q⟩ := h
 have nd := sc_sizes.nd
 refine ⟨_,(pss_cons (ps_set (i := 3) nd rfl (Or.inl rfl) (pe_lst pa_nil)) (pss_cons (ps_set (i := 4) nd rfl (Or.inl rfl) pe_int) (pss_cons (ps_for PassesOwn.never rfl (pi_list (pv 1)) (pg_name (i := 5) nd rfl (Or.inl rfl)) (pss_cons (ps_set (i := 6) nd rfl (Or.inl rfl) (pe_ix ix_list (pe_lst (pa_cons pe_int (pa_cons pe_int (pa_cons pe_int (pa_cons pe_int (pa_cons pe_int (pa_cons pe_int (pa_cons pe_int (pa_cons pe_int pa_nil))))))))) (pe_call G__law_draw.ok hr rfl G__law_draw.at_ G__law_draw.kp G__law_draw.bn .nil pass0 (pa_cons (pv 0) (pa_cons pe_int pa_nil))) (λ _ _ => rfl))) (pss_cons (ps_if (pt_cmpR op_gt (pe_op op_mul (pv 4) (pv 6)) (pv 2) (nomark _)) (pss_one (ps_set (i := 6) nd rfl (Or.inl rfl) pe_int)) pss_nil) (pss_cons (ps_set (i := 4) nd rfl (Or.inl rfl) (pe_op op_mul (pv 4) (pv 6))) (pss_one (ps_expr (pe_bm PySem.F.plainAttrs_list PySem.F.slot_list_append PySem.F.type_list_append mt_append (pv 3) (pa_cons (pv 6) pa_nil)))))))) (pss_cons (ps_set (i := 7) nd rfl (Or.inl rfl) (pe_ix ix_list (pe_lst (pa_cons pe_int (pa_cons pe_int (pa_cons pe_int (pa_cons pe_int pa_nil))))) (pe_call G__law_draw.ok hr rfl G__law_draw.at_ G__law_draw.kp G__law_draw.bn .nil pass0 (pa_cons (pv 0) (pa_cons pe_int pa_nil))) (λ _ _ => rfl))) (pss_cons (ps_if (pt_cmpR op_gt (pe_op op_mul (pv 4) (pv 7)) (pv 2) (nomark _)) (pss_one (ps_set (i := 7) nd rfl (Or.inl rfl) pe_int)) pss_nil) (pss_one (ps_ret (pe_op op_cat (pv 3) (pe_lst (pa_cons (pv 7) pa_nil)))))))))),?_⟩
 try dsimp only [cxOf,Cx.nox,Cx.wish]
 refine lats6 ?_
 intro D0 σ0 U6 U5 U4 U3 U2
 refine ⟨tiny (show 0 <= 1000 by decide),λ z hz => ?_⟩
 have nz : z ≠ a := ne_flow hz hF
 have x0 : Ext a H (upd H z (.lst [])) := Same.ext (sm_new hz)
 refine ⟨_,rfl,E,rfl,⟨_,SqL.of (sm_new hz _ _ hE)⟩,for_list (xs := ds.map V.str) (λ i σ H' => ∃ (ms : List Int) (v5 v6 v7 : Option V),σ = [some (.ref a),some (.ref E),some (.int 12),some (.ref z),some (.int (prodG ms)),v5,v6,v7] /\ ms.length = i /\ (∀ m ∈ ms,1 <= m /\ m <= 4) /\ prodG ms <= 12 /\ H' z = some (.lst (ms.map V.int)) /\ Ext a H H' /\ FlowAt H' a) ?_ ?_ ?_ ?_⟩
 . exact ⟨[],_,_,_,rfl,rfl,(λ _ z => nomatch z),by decide,upd_same,x0,Same.flow (sm_new hz) hF⟩
 . rintro i σ H1 _ ⟨ms,_,_,_,_,_,_,_,_,x,_⟩;exact SqL.of (x _ _ nE hE)
 . rintro i y σ H1 hy ⟨ms,v5,v6,v7,rfl,el,hm,hp,hz1,x1,f1⟩;refine ⟨tiny (show 8 <= 1000 by decide),λ pk hpk => ?_⟩;have xk : Same H1 (upd H1 pk (.lst [.int 2,.int 2,.int 1,.int 3,.int 2,.int 2,.int 1,.int 4])) := sm_new hpk;have kk : upd H1 pk (.lst [.int 2,.int 2,.int 1,.int 3,.int 2,.int 2,.int 1,.int 4]) pk = some (.lst [.int 2,.int 2,.int 1,.int 3,.int 2,.int 2,.int 1,.int 4]) := upd_same;have npk : pk ≠ a := ne_flow hpk f1;generalize upd H1 pk (.lst [.int 2,.int 2,.int 1,.int 3,.int 2,.int 2,.int 1,.int 4]) = Hk at xk kk ⊢;refine ⟨_,rfl,a,8,rfl,Same.flow xk f1,by decide,by decide,λ r1 H2 r10 r11 f2 x2 => ?_⟩;obtain ⟨m0,hm0,m01,m04⟩ := pickS r10 r11;have hz2 := x2 _ _ nz (xk _ _ hz1);have e2 : Ext a H H2 := x1.trans ((Same.ext xk).trans x2);refine ⟨pk,_,_,_,rfl,rfl,SqL.of (x2 _ _ npk kk),hm0,?_⟩;have p0 : 0 < prodG ms := prod_pos λ m h => by have := hm m h; omega
   have fin : ∀ m : Int,1 <= m -> m <= 4 -> prodG ms * m <= 12 -> ∃ (ms' : List Int) (v5 v6 v7' : Option V),[some (.ref a),some (.ref E),some (.int 12),some (.ref z),some (.int (prodG ms * m)),some y,some (.int m),v7] = [some (.ref a),some (.ref E),some (.int 12),some (.ref z),some (.int (prodG ms')),v5,v6,v7'] /\ ms'.length = i + 1 /\ (∀ m ∈ ms',1 <= m /\ m <= 4) /\ prodG ms' <= 12 /\ upd H2 z (.lst (ms.map V.int ++ [.int m])) z = some (.lst (ms'.map V.int)) /\ Ext a H (upd H2 z (.lst (ms.map V.int ++ [.int m]))) /\ FlowAt (upd H2 z (.lst (ms.map V.int ++ [.int m]))) a := λ m a1 a2 a3 => by
    refine ⟨ms ++ [m],_,_,_,by rw [prod_snoc],by rw [List.length_append,el]; rfl,λ m' h' => ?_,by rw [prod_snoc]; exact a3,by rw [upd_same,List.map_append]; rfl,e2.at hz,f2.set (Ne.symm nz)⟩
    rcases List.mem_append.mp h' with c | c
    . exact hm m' c
    . rw [List.mem_singleton.mp c]; exact ⟨a1,a2⟩
   refine ⟨_,rfl,_,rfl,_,_,rfl,rfl,.inr (by omega),_,rfl,_,_,rfl,rfl,_,rfl,?_⟩;have lz : (ms.map V.int).length <= 100 := by
    have : i < ds.length := by rw [List.getElem?_map] at hy; obtain ⟨_,h1,_⟩ := Option.map_eq_some_iff.mp hy; exact (List.getElem?_eq_some_iff.mp h1).1
    rw [List.length_map]; omega
   refine ite2 (λ c => ?_) (λ c => ?_)
   . refine ⟨_,rfl,_,rfl,_,_,rfl,rfl,.inr (by decide),?_⟩;refine ⟨_,rfl,.inl ⟨rfl,_,SqL.of hz2⟩,_,rfl,z,_,_,rfl,rfl,hz2,small (by omega),?_⟩;exact fin 1 (by decide) (by decide) (by omega)
   . have c : ¬ (12 < prodG ms * m0) := by simpa using c
     refine ⟨_,rfl,_,rfl,_,_,rfl,rfl,.inr (by omega),?_⟩;refine ⟨_,rfl,.inl ⟨rfl,_,SqL.of hz2⟩,_,rfl,z,_,_,rfl,rfl,hz2,small (by omega),?_⟩;exact fin m0 m01 m04 (by omega)
 . rintro σ H1 ⟨ms,v5,v6,v7,rfl,el,hm,hp,hz1,x1,f1⟩;rw [List.length_map] at el;refine ⟨tiny (show 4 <= 1000 by decide),λ pk hpk => ?_⟩;have xk : Same H1 (upd H1 pk (.lst [.int 1,.int 1,.int 2,.int 3])) := sm_new hpk;have kk : upd H1 pk (.lst [.int 1,.int 1,.int 2,.int 3]) pk = some (.lst [.int 1,.int 1,.int 2,.int 3]) := upd_same;have npk : pk ≠ a := ne_flow hpk f1;generalize upd H1 pk (.lst [.int 1,.int 1,.int 2,.int 3]) = Hk at xk kk ⊢;refine ⟨_,rfl,a,4,rfl,Same.flow xk f1,by decide,by decide,λ r1 H2 r10 r11 f2 x2 => ?_⟩;obtain ⟨m0,hm0,m01,m04⟩ := pickC r10 r11;have hz2 := x2 _ _ nz (xk _ _ hz1);have e2 : Ext a H H2 := x1.trans ((Same.ext xk).trans x2);refine ⟨pk,_,_,_,rfl,rfl,SqL.of (x2 _ _ npk kk),hm0,?_⟩;have p0 : 0 < prodG ms := prod_pos λ m h => by have := hm m h; omega
   have lz : (ms.map V.int).length <= 100 := by rw [List.length_map]; omega
   have fin : ∀ (m : Int) (pl pr : Addr),1 <= m -> m <= 4 -> prodG ms * m <= 12 -> H2 pl = none -> upd H2 pl (.lst [.int m]) pr = none -> Q (.ref pr) (upd (upd H2 pl (.lst [.int m])) pr (.lst (ms.map V.int ++ [.int m]))) := λ m pl pr a1 a2 a3 h1 h2 => by
    have y1 := sm_new (o := .lst [.int m]) h1;have y2 := sm_new (o := .lst (ms.map V.int ++ [.int m])) h2;have npr : pr ≠ a := ne_flow h2 (Same.flow y1 f2);refine q pr (ms ++ [m]) _ (by rw [List.length_append,el]; rfl) (λ m' h' => ?_) (by rw [prod_snoc]; exact a3) npr (ext_free e2 npr (y1.free h2)) (Same.flow (y1.trans y2) f2) (e2.trans (Same.ext (y1.trans y2))) (by rw [upd_same,List.map_append]; rfl)
    rcases List.mem_append.mp h' with c | c
    . exact hm m' c
    . rw [List.mem_singleton.mp c]; exact ⟨a1,a2⟩
   refine ⟨_,rfl,_,rfl,_,_,rfl,rfl,.inr (by omega),_,rfl,_,_,rfl,rfl,_,rfl,?_⟩;refine ite2 (λ c => ?_) (λ c => ?_)
   . refine ⟨_,rfl,_,rfl,tiny (show 1 <= 1000 by decide),λ pl hpl => ⟨z,pl,_,_,rfl,rfl,sm_new hpl _ _ hz2,upd_same,tiny (show _ <= 1000 by show (ms.map V.int).length + 1 <= 1000; omega),λ pr hpr => ?_⟩⟩;exact fin 1 pl pr (by decide) (by decide) (by omega) hpl hpr
   . have c : ¬ (12 < prodG ms * m0) := by simpa using c
     refine ⟨_,rfl,_,rfl,tiny (show 1 <= 1000 by decide),λ pl hpl => ⟨z,pl,_,_,rfl,rfl,sm_new hpl _ _ hz2,upd_same,tiny (show _ <= 1000 by show (ms.map V.int).length + 1 <= 1000; omega),λ pr hpr => ?_⟩⟩;exact fin m0 pl pr m01 m04 (by omega) hpl hpr
theorem for_dn {lo : Int} {n : Nat} {g : TG} {tb : TS} {D : Ends} {σ : L2.St} {H : Hp} (Pv : Nat -> L2.St -> Hp -> Prop) (h0 : Pv 0 σ H)
 (hs : ∀ i σ H,i < n -> Pv i σ H -> g (.int (lo - i)) σ H λ σ2 H2 => tb { D with nx := Pv (i + 1),ct := Pv (i + 1),bk := D.nx } σ2 H2) (hd : ∀ σ H,Pv n σ H -> D.nx σ H) :
 ∃ W : Nat -> Nat -> L2.St -> Hp -> Prop,(∃ m,W 0 m σ H) /\ ∀ i m σ H,W i m σ H ->
  ((Itn lo n).stop i H /\ D.nx σ H) \/ ((Itn lo n).go i H /\ ∃ N : L2.St -> Hp -> Prop,(∀ σ' H',N σ' H' -> ∃ m',m' < m /\ W (i + 1) m' σ' H') /\ ∀ x H',(Itn lo n).yld i H x H' -> g x σ H' λ σ2 H2 => tb { D with nx := N,ct := N,bk := D.nx } σ2 H2) := by
 refine ⟨λ i m σ H => m = n - i /\ i <= n /\ Pv i σ H,⟨n,by simp,Nat.zero_le _,h0⟩,λ i m σ H ⟨em,hi,p⟩ => ?_⟩
 subst em
 by_cases hlt : i < n
 . exact .inr ⟨hlt,Pv (i + 1),λ σ' H' p' => ⟨n - (i + 1),by omega,rfl,hlt,p'⟩,λ x H' ⟨e1,e2⟩ => by rw [e1,e2]; exact hs i σ H hlt p⟩
 . have e : i = n := by omega
   subst e;exact .inl ⟨Nat.le_refl _,hd σ H p⟩
def spSplit : Sp := λ vs H Q _ => ∃ (s : Int) (M : Addr) (ms : List Int),vs = [.int s,.ref M] /\ H M = some (.lst (ms.map V.int)) /\ ms.length <= 10 /\ (∀ m ∈ ms,1 <= m /\ m <= 4) /\
 ∀ (r : Addr) (H' : Hp),H r = none -> Same H H' -> H' r = some (.lst ((splitG s ms).map V.int)) -> Q (.ref r) H'
theorem sc_split : FnScope ["_law_state","_law_sizes_here","_law_found","_law_size"] ["_law_state","_law_sizes_here"] (defScope s_law_split) := (.of rfl rfl rfl rfl (by decide +kernel))
theorem ok_split (F : Fun K "_law_split" "_law_split" s_law_split f fd) : FnOk P w K mg base CX0 (k + 1) f fd ["_law_state","_law_sizes_here"] spSplit := by
 refine F.ok sc_split (λ vs H Q E h => ?_) (λ cdv A outer s H vs Q E hr h => ?_)
 . obtain ⟨s,M,ms,rfl,_⟩ := h;rfl
 obtain ⟨st,M,ms,rfl,hM,h10,hm,q⟩ := h
 have nd := sc_split.nd
 refine ⟨_,(pss_cons (ps_set (i := 2) nd rfl (Or.inl rfl) (pe_lst pa_nil)) (pss_cons (ps_for PassesOwn.never rfl (pi_list (pv 1)) (pg_name (i := 3) nd rfl (Or.inl rfl)) (pss_cons (ps_expr (pe_bm PySem.F.plainAttrs_list PySem.F.slot_list_append PySem.F.type_list_append mt_append (pv 2) (pa_cons (pe_op op_mod (pv 0) (pv 3)) pa_nil))) (pss_one (ps_set (i := 0) nd rfl (Or.inl rfl) (pe_op op_fdivB (pv 0) (pv 3)))))) (pss_one (ps_ret (pv 2))))),?_⟩
 try dsimp only [cxOf,Cx.nox,Cx.wish]
 refine lats3 ?_
 intro D0 σ0 U3 U2
 refine ⟨tiny (show 0 <= 1000 by decide),λ z hz => ?_⟩
 refine ⟨_,rfl,M,rfl,⟨_,SqL.of (sm_new hz _ _ hM)⟩,for_list (xs := ms.map V.int) (λ i σ H' => ∃ v3 : Option V,σ = [some (.int (restG st (ms.take i))),some (.ref M),some (.ref z),v3] /\ H' z = some (.lst ((splitG st (ms.take i)).map V.int)) /\ Same H H') ?_ ?_ ?_ ?_⟩
 . exact ⟨_,rfl,by rw [List.take_zero]; exact upd_same,sm_new hz⟩
 . rintro i σ H1 _ ⟨_,_,_,x⟩;exact SqL.of (x _ _ hM)
 . rintro i y σ H1 hy ⟨v3,rfl,h1,x1⟩;rw [List.getElem?_map] at hy;obtain ⟨m,hm',rfl⟩ := Option.map_eq_some_iff.mp hy;have hmm := hm m (List.mem_of_getElem? hm');have hi := (List.getElem?_eq_some_iff.mp hm').1;have hl : ((splitG st (ms.take i)).map V.int).length <= 10 := by rw [List.length_map,split_len,List.length_take]; omega
   refine ⟨_,rfl,.inl ⟨rfl,_,SqL.of h1⟩,_,rfl,_,rfl,_,_,rfl,rfl,by show (0 : Int) < m; omega,z,_,_,rfl,rfl,h1,small (by omega),?_⟩;refine ⟨_,rfl,_,rfl,_,_,rfl,rfl,⟨by omega,Int.le_trans hmm.2 (by decide)⟩,?_⟩;refine ⟨some (.int m),?_,?_,x1.at hz⟩
   . rw [take_snoc hm',rest_snoc]; rfl
   . rw [upd_same,take_snoc hm',split_snoc,List.map_append]; rfl
 . rintro σ H1 ⟨v3,rfl,h1,x1⟩;rw [List.length_map,List.take_length] at h1;exact ⟨_,rfl,q z H1 hz x1 h1⟩
def spPut (K : W.Frag) : Sp := λ vs H Q _ => ∃ (A M : Addr) (ps ms : List Int),vs = [.ref A,.ref M] /\ SqL K H A (ps.map V.int) /\ SqL K H M (ms.map V.int) /\ ps.length = ms.length /\ ms.length <= 10 /\ (∀ m ∈ ms,1 <= m /\ m <= 4) /\ Q (.int (putG ps ms)) H
theorem sc_put : FnScope ["_law_parts","_law_sizes_here","_law_number","_law_k"] ["_law_parts","_law_sizes_here"] (defScope s_law_put) := (.of rfl rfl rfl rfl (by decide +kernel))
theorem ok_put (F : Fun K "_law_put" "_law_put" s_law_put f fd) (B : Bt mg) : FnOk P w K mg base CX0 (k + 1) f fd ["_law_parts","_law_sizes_here"] (spPut K) := by
 refine F.ok sc_put (λ vs H Q E h => ?_) (λ cdv A outer s H vs Q E hr h => ?_)
 . obtain ⟨A,M,ps,ms,rfl,_⟩ := h;rfl
 obtain ⟨A',M,ps,ms,rfl,hA,hM,hl,h10,hm,q⟩ := h
 have nd := sc_put.nd
 refine ⟨_,(pss_cons (ps_set (i := 2) nd rfl (Or.inl rfl) pe_int) (pss_cons (ps_for PassesOwn.never rfl (pi_range3 rfl B.range_ (pa_cons (pe_op op_sub (pe_callB call_len_seq rfl B.len_ PySem.boot_len (pa_cons (pv 1) pa_nil)) pe_int) (pa_cons pe_neg1 (pa_cons pe_neg1 pa_nil)))) (pg_name (i := 3) nd rfl (Or.inl rfl)) (pss_one (ps_set (i := 2) nd rfl (Or.inl rfl) (pe_op op_add (pe_op op_mul (pv 2) (pe_ix ix_list (pv 1) (pv 3) (λ _ _ => rfl))) (pe_ix ix_list (pv 0) (pv 3) (λ _ _ => rfl)))))) (pss_one (ps_ret (pv 2))))),?_⟩
 try dsimp only [cxOf,Cx.nox,Cx.wish]
 refine lats3 ?_
 intro D0 σ0 U3 U2
 refine ⟨_,rfl,M,_,rfl,.inl hM,_,_,rfl,rfl,?_⟩
 have hn : ((((ms.map V.int).length : Nat) : Int) - 1 - (-1)).toNat = ms.length := by rw [List.length_map]; omega
 refine ⟨_,_,rfl,⟨by rw [List.length_map]; omega,by rw [List.length_map]; omega,by decide,by decide⟩,?_⟩
 rw [hn]
 refine for_dn (λ i σ H' => ∃ v3 : Option V,σ = [some (.ref A'),some (.ref M),some (.int (putG (ps.drop (ms.length - i)) (ms.drop (ms.length - i)))),v3] /\ H' = H) ?_ ?_ ?_
 . refine ⟨none,?_,rfl⟩;rw [Nat.sub_zero,List.drop_of_length_le (Nat.le_refl ms.length),List.drop_of_length_le (by rw [hl]; exact Nat.le_refl _)]; rfl
 . rintro i σ H1 hi ⟨v3,rfl,rfl⟩;have hj : ms.length - (i + 1) < ms.length := by omega
   have hj2 : ms.length - (i + 1) < ps.length := by omega
   have e1 : (((ms.map V.int).length : Nat) : Int) - 1 - (i : Int) = ((ms.length - (i + 1) : Nat) : Int) := by rw [List.length_map]; omega
   have gm : ms[ms.length - (i + 1)]? = some ms[ms.length - (i + 1)] := List.getElem?_eq_getElem hj;have gp : ps[ms.length - (i + 1)]? = some ps[ms.length - (i + 1)] := List.getElem?_eq_getElem hj2;have hmm := hm _ (List.getElem_mem hj);rw [e1];refine ⟨_,rfl,_,rfl,_,rfl,M,_,_,_,rfl,rfl,hM,atI_nat (by rw [List.getElem?_map,gm]; rfl),_,_,rfl,rfl,.inr (by omega),_,rfl,_,rfl,A',_,_,_,rfl,rfl,hA,atI_nat (by rw [List.getElem?_map,gp]; rfl),_,_,rfl,rfl,some (.int ((ms.length - (i + 1) : Nat) : Int)),?_,rfl⟩;have e2 := put_drop ps ms (ms.length - (i + 1)) _ _ gp gm;rw [show ms.length - (i + 1) + 1 = ms.length - i by omega] at e2;rw [e2]; rfl
 . rintro σ H1 ⟨v3,rfl,rfl⟩;refine ⟨_,rfl,?_⟩;rw [Nat.sub_self,List.drop_zero,List.drop_zero];exact q
abbrev s_law_moves : Stmt := top 29
abbrev nats (pl : List Nat) : List V := pl.map λ i : Nat => V.int (i : Int)
theorem prod_le : ∀ {ms : List Int},(∀ m ∈ ms,1 <= m /\ m <= 4) -> prodG ms <= ((4 ^ ms.length : Nat) : Int)
 | [],_ => by decide
 | m :: ms,h => by
  have ih := prod_le λ z hz => h z (List.mem_cons_of_mem _ hz);have hm := h m List.mem_cons_self;have p0 : 0 < prodG ms := prod_pos λ z hz => by have := h z (List.mem_cons_of_mem _ hz); omega
  show m * prodG ms <= _
  have : m * prodG ms <= 4 * prodG ms := Int.mul_le_mul_of_nonneg_right hm.2 (by omega);rw [List.length_cons,Nat.pow_succ];omega
theorem sub_in {ms : List Int} {pl : List Nat} (hm : ∀ m ∈ ms,1 <= m /\ m <= 4) (hl : ∀ i ∈ pl,i < ms.length) : ∀ m ∈ subG pl ms,1 <= m /\ m <= 4 := λ m h => by
 obtain ⟨i,hi,rfl⟩ := List.mem_map.mp h
 rw [List.getD_eq_getElem?_getD,List.getElem?_eq_getElem (hl i hi)]
 exact hm _ (List.getElem_mem (hl i hi))
theorem drawnP {D a l M : Addr} {Q : VK} {H1 : Hp} {pl : List Nat} {ms : List Int} (hm : ∀ m ∈ ms,1 <= m /\ m <= 4) (hpl : ∀ i ∈ pl,i < ms.length) (hD : H1 D = none) (hF : FlowAt H1 a) (hl : H1 l = some (.lst (nats pl))) (nl : l ≠ a) (hM : H1 M = some (.lst (ms.map V.int))) (nM : M ≠ a) (h4 : pl.length <= 4)
 (hdn : ∀ (row : List Int) (H' : Hp),Pt row (subG pl ms) -> FlowAt H' a -> Ext a H1 H' -> H' D = some (.lst (row.map V.int)) -> Q (.ref D) H') :
 CompLoop (Itl K l) D (gName 0) tYes (tCall spDraw [] E0 (tCons (tVar 1) (tCons (tOp (rIxL K) (tVar 2) (tVar 0)) tNil))) Q [none,some (.ref a),some (.ref M)] H1 := by
 have nD := ne_flow hD hF
 refine comp_list (xs := nats pl) (λ i ys σ H => ∃ (row : List Int) (v : Option V),ys = row.map V.int /\ Pt row (subG (pl.take i) ms) /\ σ = [v,some (.ref a),some (.ref M)] /\ FlowAt H a /\ Ext a H1 H) ?_ (by rw [List.length_map]; omega) ?_ ?_ ?_ ?_
 . exact ⟨[],none,rfl,⟨rfl,λ i p m h _ => by simp at h⟩,rfl,hF.new hD,Ext.new hD⟩
 . rintro i ys σ H ⟨row,v,rfl,e,_⟩;rw [List.length_map,e.len]; unfold subG; rw [List.length_map,List.length_take]; exact Nat.min_le_left _ _
 . rintro i ys σ H ⟨row,v,_,_,_,fl,x⟩;exact SqL.of (x _ _ nl hl)
 . rintro i y ys σ H hy hl2 ⟨row,v,rfl,e,rfl,fl,x⟩;rw [List.getElem?_map] at hy;obtain ⟨j,hj,rfl⟩ := Option.map_eq_some_iff.mp hy;have hjl := hpl j (List.mem_of_getElem? hj);have gm : ms[j]? = some ms[j] := List.getElem?_eq_getElem hjl;have hmm := hm _ (List.getElem_mem hjl);refine ⟨_,rfl,_,rfl,_,rfl,M,_,_,_,rfl,rfl,SqL.of (x _ _ nM hM),atI_nat (by rw [List.getElem?_map,gm]; rfl),a,ms[j],rfl,fl,by omega,by omega,λ r H2 r0 r1 f2 x2 => ?_⟩;refine ⟨x2 _ _ nD hl2,row ++ [r],_,by rw [List.map_append]; rfl,?_,rfl,f2.set (Ne.symm nD),(x.trans x2).at hD⟩;have es : subG (pl.take (i + 1)) ms = subG (pl.take i) ms ++ [ms[j]] := by
    unfold subG;rw [take_snoc hj,List.map_append];show _ ++ [ms.getD j 0] = _;rw [List.getD_eq_getElem?_getD,gm]; rfl
   rw [es];refine ⟨by rw [List.length_append,List.length_append,e.len]; rfl,λ i' p m h1 h2 => ?_⟩
   rcases Nat.lt_or_ge i' row.length with z | z
   . rw [List.getElem?_append_left z] at h1;rw [List.getElem?_append_left (by rw [<- e.len]; exact z)] at h2;exact e.lo i' p m h1 h2
   . rw [List.getElem?_append_right z] at h1;rw [List.getElem?_append_right (by rw [<- e.len]; exact z),<- e.len] at h2;obtain ⟨k1,e1⟩ := List.getElem?_eq_some_iff.mp h1;have k2 : i' - row.length = 0 := by rw [List.length_singleton] at k1; omega
     rw [k2] at h1 h2;cases Option.some.inj h1;cases Option.some.inj h2;exact ⟨r0,r1⟩
 . rintro ys σ H hl2 ⟨row,v,rfl,e,_,fl,x⟩;rw [List.length_map,List.take_length] at e;exact hdn row H e fl x hl2
theorem tableP {D a l M : Addr} {Q : VK} {H1 : Hp} {n : Nat} {pl : List Nat} {ms : List Int} (hn : n <= 256) (hm : ∀ m ∈ ms,1 <= m /\ m <= 4) (hpl : ∀ i ∈ pl,i < ms.length) (hD : H1 D = none) (hF : FlowAt H1 a) (hl : H1 l = some (.lst (nats pl))) (nl : l ≠ a) (hM : H1 M = some (.lst (ms.map V.int))) (nM : M ≠ a) (h4 : pl.length <= 4)
 (hdn : ∀ (rs : List Addr) (tb : List (List Int)) (H' : Hp),(∀ u ∈ rs,H1 u = none) -> tb.length = n -> Paired (RowI H') rs tb -> (∀ r ∈ tb,Pt r (subG pl ms)) -> FlowAt H' a -> Ext a H1 H' -> H' D = some (.lst (rs.map V.ref)) -> Q (.ref D) H') :
 CompLoop (Itr 0 n) D (gName 0) tYes (tComp (iList K (tVar 3)) 1 [1,2] (gName 0) tYes (tCall spDraw [] E0 (tCons (tVar 1) (tCons (tOp (rIxL K) (tVar 2) (tVar 0)) tNil)))) Q [none,some (.ref a),some (.ref M),some (.ref l)] H1 := by
 have nD := ne_flow hD hF
 refine comp_range (λ i ys σ H => ∃ (rs : List Addr) (tb : List (List Int)) (v : Option V),ys = rs.map V.ref /\ tb.length = i /\ Paired (RowI H) rs tb /\ (∀ r ∈ tb,Pt r (subG pl ms)) /\ (∀ u ∈ rs,H1 u = none) /\ D ∉ rs /\ σ = [v,some (.ref a),some (.ref M),some (.ref l)] /\ FlowAt H a /\ Ext a H1 H) ?_ (by omega) ?_ ?_ ?_
 . exact ⟨[],[],none,rfl,rfl,.nil,(by intro _ z; cases z),(by intro _ z; cases z),(by intro z; cases z),rfl,hF.new hD,Ext.new hD⟩
 . rintro i ys σ H ⟨rs,tb,v,rfl,e,hP,_⟩;rw [List.length_map,hP.length,e]; exact Nat.le_refl _
 . rintro i ys σ H hi hl2 ⟨rs,tb,v,rfl,e,hP,hb,hfr,hDn,rfl,fl,x⟩;have hll := x _ _ nl hl;refine ⟨_,rfl,l,rfl,⟨_,SqL.of hll⟩,λ D2 hD2 => drawnP (K := K) hm hpl hD2 fl hll nl (x _ _ nM hM) nM h4 λ row H4 e4 f4 x4 h4 => ?_⟩;have nDD : D ≠ D2 := ne_of_none hl2 hD2;have nua : ∀ u ∈ rs,u ≠ a := λ u hu => ne_flow (hfr u hu) hF;have nD2 : D2 ≠ a := ne_flow hD2 fl;have hD1 : H1 D2 = none := ext_free x nD2 hD2;refine ⟨x4 _ _ nD hl2,rs ++ [D2],tb ++ [row],_,by rw [List.map_append]; rfl,by rw [List.length_append,e]; rfl,paired_app (paired_on hP λ u w hu z => ?_) (.cons ?_ .nil),λ r hr => ?_,λ u hu => ?_,λ hu => ?_,rfl,f4.set (Ne.symm nD),(x.trans x4).at hD⟩
   . show upd H4 D _ u = _
     rw [upd_ne (show u ≠ D from λ q => hDn (q ▸ hu))]; exact x4 _ _ (nua u hu) z
   . show upd H4 D _ D2 = _
     rw [upd_ne (Ne.symm nDD)]; exact h4
   . rcases List.mem_append.mp hr with h | h
     . exact hb r h
     . rw [List.mem_singleton.mp h]; exact e4
   . rcases List.mem_append.mp hu with h | h
     . exact hfr u h
     . rw [List.mem_singleton.mp h]; exact hD1
   . rcases List.mem_append.mp hu with h | h
     . exact hDn h
     . exact nDD (List.mem_singleton.mp h)
 . rintro ys σ H hl2 ⟨rs,tb,v,rfl,e,hP,hb,hfr,hDn,_,fl,x⟩;exact hdn rs tb H hfr e hP hb fl x hl2
def spMoves : Sp := λ vs H Q _ => ∃ (a l M : Addr) (pl : List Nat) (ms : List Int),vs = [.ref a,.ref l,.ref M] /\ FlowAt H a /\ H l = some (.lst (nats pl)) /\ l ≠ a /\ H M = some (.lst (ms.map V.int)) /\ M ≠ a /\ pl.length <= 4 /\ (∀ i ∈ pl,i < ms.length) /\ (∀ m ∈ ms,1 <= m /\ m <= 4) /\
 ∀ (D : Addr) (us : List Addr) (mv : List (List Int)) (H' : Hp),H D = none -> (∀ u ∈ us,H u = none) -> (mv.length : Int) = prodG (subG pl ms) -> Paired (RowI H') us mv -> (∀ r ∈ mv,Pt r (subG pl ms)) -> FlowAt H' a -> Ext a H H' -> H' D = some (.lst (us.map V.ref)) -> Q (.ref D) H'
theorem sc_moves : FnScope ["_law_flow_here","_law_places","_law_sizes_here","_law_many","_law_place"] ["_law_flow_here","_law_places","_law_sizes_here"] (defScope s_law_moves) := (.of rfl rfl rfl rfl (by decide +kernel))
theorem ok_moves (F : Fun K "_law_moves" "_law_moves" s_law_moves f fd) (B : Bt mg) (G__law_draw : Fn P w K mg base k "_law_draw" ["_law_flow_here","_law_many"] spDraw g gd) : FnOk P w K mg base CX0 (k + 1) f fd ["_law_flow_here","_law_places","_law_sizes_here"] spMoves := by
 refine F.ok sc_moves (λ vs H Q E h => ?_) (λ cdv A outer s H vs Q E hr h => ?_)
 . obtain ⟨a,l,M,pl,ms,rfl,_⟩ := h;rfl
 obtain ⟨a,l,M,pl,ms,rfl,hF,hl,nl,hM,nM,h4,hpl,hm,q⟩ := h
 have nd := sc_moves.nd
 refine ⟨_,(pss_cons (ps_set (i := 3) nd rfl (Or.inl rfl) pe_int) (pss_cons (ps_for PassesOwn.never rfl (pi_list (pv 1)) (pg_name (i := 4) nd rfl (Or.inl rfl)) (pss_one (ps_set (i := 3) nd rfl (Or.inl rfl) (pe_op op_mul (pv 3) (pe_ix ix_list (pv 2) (pv 4) (λ _ _ => rfl)))))) (pss_one (ps_ret (pe_comp (g := (gName 0)) (tc := tYes) (te := (tComp (iList K (tVar 3)) 1 [1,2] (gName 0) tYes (tCall spDraw [] E0 (tCons (tVar 1) (tCons (tOp (rIxL K) (tVar 2) (tVar 0)) tNil))))) (own := ["_law_k"]) (fr := ["_law_flow_here","_law_sizes_here","_law_places"]) (idx := [0,2,1]) rfl (by show CompScope _ _ _ (defScope s_law_moves); exact (.of rfl (by decide +kernel))) (pi_range1 rfl B.range_ (pa_cons (pv 3) pa_nil)) (λ _ _ _ _ _ => (pg_name (i := 0) (by show List.Nodup (["_law_k","_law_flow_here","_law_sizes_here","_law_places"] : List Str); decide +kernel) rfl (Or.inl rfl) (Or.inr rfl))) (λ _ _ _ _ _ => pts_nil) (λ _ _ _ _ _ => (pe_comp (g := (gName 0)) (tc := tYes) (te := (tCall spDraw [] E0 (tCons (tVar 1) (tCons (tOp (rIxL K) (tVar 2) (tVar 0)) tNil)))) (own := ["_law_place"]) (fr := ["_law_flow_here","_law_sizes_here"]) (idx := [1,2]) rfl (CompScope.relab (.of rfl (by decide +kernel))) (pi_list (pv 3)) (λ _ _ _ _ _ => (pg_name (i := 0) (by show List.Nodup (["_law_place","_law_flow_here","_law_sizes_here"] : List Str); decide +kernel) rfl (Or.inl rfl) (Or.inr rfl))) (λ _ _ _ _ _ => pts_nil) (λ _ _ _ _ _ => (pe_call G__law_draw.ok hr rfl G__law_draw.at_ G__law_draw.kp G__law_draw.bn .nil pass0 (pa_cons (pv 1) (pa_cons (pe_ix ix_list (pv 2) (pv 0) (λ _ _ => rfl)) pa_nil)))) rfl (hat_of rfl))) rfl (hat_of rfl)))))),?_⟩
 try dsimp only [cxOf,Cx.nox,Cx.wish]
 refine lats3 ?_
 intro D0 σ0 U3 U2
 refine ⟨_,rfl,l,rfl,⟨_,SqL.of hl⟩,for_list (xs := nats pl) (λ i σ H' => ∃ v4 : Option V,σ = [some (.ref a),some (.ref l),some (.ref M),some (.int (prodG (subG (pl.take i) ms))),v4] /\ H' = H) ?_ ?_ ?_ ?_⟩
 . exact ⟨none,rfl,rfl⟩
 . rintro i σ H1 _ ⟨_,_,rfl⟩;exact SqL.of hl
 . rintro i y σ H1 hy ⟨v4,rfl,rfl⟩;rw [List.getElem?_map] at hy;obtain ⟨j,hj,rfl⟩ := Option.map_eq_some_iff.mp hy;have hjl := hpl j (List.mem_of_getElem? hj);have gm : ms[j]? = some ms[j] := List.getElem?_eq_getElem hjl;have hmm := hm _ (List.getElem_mem hjl);refine ⟨_,rfl,_,rfl,_,rfl,M,_,_,_,rfl,rfl,SqL.of hM,atI_nat (by rw [List.getElem?_map,gm]; rfl),_,_,rfl,rfl,.inr (by omega),some (.int (j : Int)),?_,rfl⟩;have es : prodG (subG (pl.take (i + 1)) ms) = prodG (subG (pl.take i) ms) * ms[j] := by
    rw [<- prod_snoc];unfold subG;rw [take_snoc hj,List.map_append];show prodG (_ ++ [ms.getD j 0]) = _;rw [List.getD_eq_getElem?_getD,gm]; rfl
   rw [es]; rfl
 . rintro σ H1 ⟨v4,rfl,rfl⟩;rw [List.length_map,List.take_length];have si := sub_in hm hpl;have p0 : 0 < prodG (subG pl ms) := prod_pos λ z hz => by have := si z hz; omega
   have p1 := prod_le si;have p2 : (subG pl ms).length <= 4 := by unfold subG; rw [List.length_map]; exact h4
   have p3 : 4 ^ (subG pl ms).length <= 4 ^ 4 := Nat.pow_le_pow_right (by decide) p2;refine ⟨_,rfl,_,rfl,by omega,by omega,λ D hD => ?_⟩;exact tableP (K := K) (by omega) hm hpl hD hF hl nl hM nM h4 λ rs tb H' hfr e hP hb f' x' k' => q D rs tb H' hD hfr (by omega) hP hb f' x' k'
abbrev s_law_calm : Stmt := top 30
def forBody : Stmt -> List Stmt
 | .For _ _ b _ _ => b
 | _ => []
abbrev letterB : List Stmt := forBody ((defBody s_law_calm).getD 6 (.Pass ⟨0,0,0,0⟩))
abbrev innerB : List Stmt := forBody (letterB.getD 5 (.Pass ⟨0,0,0,0⟩))
def ButL (us : List Addr) (H H' : Hp) : Prop := ∀ b o,b ∉ us -> H b = some o -> H' b = some o
theorem ButL.refl (us : List Addr) (H : Hp) : ButL us H H := λ _ _ _ h => h
theorem ButL.trans {us : List Addr} {H H1 H2 : Hp} (x : ButL us H H1) (y : ButL us H1 H2) : ButL us H H2 := λ b o n h => y b o n (x b o n h)
theorem ButL.of {us : List Addr} {H H' : Hp} (x : Same H H') : ButL us H H' := λ b o _ h => x b o h
theorem for_zip {K : W.Frag} {a b : Addr} {xs zs : List V} {g : TG} {tb : TS} {D : Ends} {σ : L2.St} {H : Hp} (Pv : Nat -> L2.St -> Hp -> Prop) (h0 : Pv 0 σ H) (hxz : xs.length = zs.length) (ha : ∀ i σ H,Pv i σ H -> SqL K H a xs /\ SqL K H b zs)
 (hs : ∀ i x z σ H T,xs[i]? = some x -> zs[i]? = some z -> H T = none -> Pv i σ H -> g (.ref T) σ (upd H T (.tup [x,z])) λ σ2 H2 => tb { D with nx := Pv (i + 1),ct := Pv (i + 1),bk := D.nx } σ2 H2) (hd : ∀ σ H,Pv xs.length σ H -> D.nx σ H) :
 ∃ W : Nat -> Nat -> L2.St -> Hp -> Prop,(∃ m,W 0 m σ H) /\ ∀ i m σ H,W i m σ H ->
  ((Itz K a b).stop i H /\ D.nx σ H) \/ ((Itz K a b).go i H /\ ∃ N : L2.St -> Hp -> Prop,(∀ σ' H',N σ' H' -> ∃ m',m' < m /\ W (i + 1) m' σ' H') /\ ∀ x H',(Itz K a b).yld i H x H' -> g x σ H' λ σ2 H2 => tb { D with nx := N,ct := N,bk := D.nx } σ2 H2) := by
 refine ⟨λ i m σ H => m = xs.length - i /\ i <= xs.length /\ Pv i σ H,⟨xs.length,by simp,Nat.zero_le _,h0⟩,λ i m σ H ⟨em,hi,p⟩ => ?_⟩
 subst em
 obtain ⟨qa,qb⟩ := ha i σ H p
 by_cases hlt : i < xs.length
 . have hlz : i < zs.length := by omega
   refine .inr ⟨⟨xs,zs,xs[i],zs[i],qa,qb,by simp [hlt],by simp [hlz]⟩,Pv (i + 1),λ σ' H' p' => ⟨xs.length - (i + 1),by omega,rfl,hlt,p'⟩,λ x H' y => ?_⟩;obtain ⟨T,hT,rfl,y⟩ := y;obtain ⟨x',z',hx,hz',rfl⟩ := y xs zs qa qb;exact hs i x' z' σ H T hx hz' hT p
 . have e : i = xs.length := by omega
   subst e;exact .inl ⟨⟨xs,zs,qa,qb,.inl (Nat.le_refl _)⟩,hd σ H p⟩
theorem at_last {xs : List Int} (h : xs ≠ []) : atI (xs.map V.int) (-1) = some (.int (xs.getD (xs.length - 1) 0)) /\ ixN (xs.map V.int).length (-1) = some (xs.length - 1) := by
 have hp := List.length_pos_iff.mpr h
 have e : ixN (xs.map V.int).length (-1) = some (xs.length - 1) := by
  unfold ixN;rw [List.length_map,if_neg (by decide),if_pos (by omega)]
  congr 1
  omega
 refine ⟨?_,e⟩
 unfold atI
 rw [e]
 show (xs.map V.int)[xs.length - 1]? = _
 rw [List.getElem?_map,List.getD_eq_getElem?_getD,List.getElem?_eq_getElem (by omega)]; rfl
structure CIn (ms : List Int) (a : AD) (M T PL SO MV : Addr) (us ws : List Addr) (H : Hp) : Prop where
 m : H M = some (.lst (ms.map V.int))
 pl : H PL = some (.lst (nats a.pl))
 so : H SO = some (.lst ((subG a.pl ms).map V.int))
 mv : H MV = some (.lst (ws.map V.ref))
 rw_ : Paired (RowI H) ws a.mv
 t : H T = some (.lst (us.map V.ref))
 nM : M ∉ us
 nP : PL ∉ us
 nS : SO ∉ us
 nV : MV ∉ us
 nT : T ∉ us
 nw : ∀ w ∈ ws,w ∉ us
theorem CIn.but {ms : List Int} {a : AD} {M T PL SO MV : Addr} {us ws : List Addr} {H H' : Hp} (h : CIn ms a M T PL SO MV us ws H) (x : ButL us H H') : CIn ms a M T PL SO MV us ws H' :=
 ⟨x _ _ h.nM h.m,x _ _ h.nP h.pl,x _ _ h.nS h.so,x _ _ h.nV h.mv,paired_on h.rw_ λ u w hu z => x _ _ (h.nw u hu) z,x _ _ h.nT h.t,h.nM,h.nP,h.nS,h.nV,h.nT,h.nw⟩
structure MsOk (ms : List Int) : Prop where
 ne : ms ≠ []
 len : ms.length <= 5
 rng : ∀ m ∈ ms,1 <= m /\ m <= 4
 prod : prodG ms <= 12
def InnerOk (tr : TS) : Prop := ∀ (Dn : Ends) (s0 s1 s2 s3 s4 s5 s7 s8 s10 s11 s12 s18 s19 s20 s21 : Option V) (ms : List Int) (a : AD) (M T PL SO MV u : Addr) (us ws : List Addr) (st : Nat) (xs : List Int) (H : Hp),MsOk ms -> OkA ms a -> a.pl.length <= 4 -> CIn ms a M T PL SO MV us ws H -> us[st]? = some u -> (∀ b ∈ us,H b ≠ none) -> H u = some (.lst (xs.map V.int)) -> xs.length <= 10 ->
 (∀ v18 v19 v20 v21 H',ButL us H H' -> H' u = some (.lst ((xs ++ [ledG ms a (st : Int)]).map V.int)) -> (∀ b ∈ us,b ≠ u -> H' b = H b) -> Dn.nx [s0,s1,s2,s3,s4,s5,some (.ref M),s7,s8,some (.ref T),s10,s11,s12,some (.int a.st),some (.ref PL),some (.ref SO),some (.ref MV),some (.int (st : Int)),v18,v19,v20,v21] H') ->
 tr Dn [s0,s1,s2,s3,s4,s5,some (.ref M),s7,s8,some (.ref T),s10,s11,s12,some (.int a.st),some (.ref PL),some (.ref SO),some (.ref MV),some (.int (st : Int)),s18,s19,s20,s21] H
theorem subs {D PL A' : Addr} {Q : VK} {H1 : Hp} {pl : List Nat} {ps : List Int} (hl : ∀ i ∈ pl,i < ps.length) (h4 : pl.length <= 4) (hP : H1 PL = some (.lst (nats pl))) (hA : H1 A' = some (.lst (ps.map V.int))) (hD : H1 D = none) (hdn : ∀ H',Same H1 H' -> H' D = some (.lst ((subG pl ps).map V.int)) -> Q (.ref D) H') :
 CompLoop (Itl K PL) D (gName 0) tYes (tOp (rIxL K) (tVar 1) (tVar 0)) Q [none,some (.ref A')] H1 := by
 refine comp_list (xs := nats pl) (λ i ys σ H => ∃ v : Option V,ys = (subG (pl.take i) ps).map V.int /\ σ = [v,some (.ref A')] /\ Same H1 H) ?_ (by rw [List.length_map]; omega) ?_ ?_ ?_ ?_
 . exact ⟨none,rfl,rfl,sm_new hD⟩
 . rintro i ys σ H ⟨v,rfl,_⟩;unfold subG;rw [List.length_map,List.length_map,List.length_take]; exact Nat.min_le_left _ _
 . rintro i ys σ H ⟨v,_,_,x⟩;exact SqL.of (x _ _ hP)
 . rintro i y ys σ H hy hl2 ⟨v,rfl,rfl,x⟩;rw [List.getElem?_map] at hy;obtain ⟨j,hj,rfl⟩ := Option.map_eq_some_iff.mp hy;have hjl := hl j (List.mem_of_getElem? hj);have gp : ps[j]? = some ps[j] := List.getElem?_eq_getElem hjl;refine ⟨_,rfl,_,rfl,A',_,_,_,rfl,rfl,SqL.of (x _ _ hA),atI_nat (by rw [List.getElem?_map,gp]; rfl),hl2,some (.int (j : Int)),?_,rfl,x.at hD⟩;unfold subG;rw [take_snoc hj,List.map_append,List.map_append];show _ = _ ++ [V.int (ps.getD j 0)];rw [List.getD_eq_getElem?_getD,gp]; rfl
 . rintro ys σ H hl2 ⟨v,rfl,_,x⟩;rw [List.length_map,List.take_length] at hl2;exact hdn H x hl2
theorem sc_calm : FnScope ["_law_script","_law_first","_law_rows","_law_most","_law_flow_here","_law_desks_here","_law_sizes_here","_law_total","_law_size","_law_table","_law_k","_law_pair","_law_one","_law_step","_law_places","_law_some","_law_moves_here","_law_state","_law_parts","_law_goal","_law_place","_law_value"] ["_law_script","_law_first","_law_rows","_law_most"] (defScope s_law_calm) := (.of rfl rfl rfl rfl (by decide +kernel))
theorem calm_inner {cdv : Value} {A : Around} {outer : List Env} {s : Shared} {H : Hp} {E : XK} (hr : Room k (A.deeper (envOfC "_law_calm" (defScope s_law_calm) s.heap.objs.size f cdv))) (B : Bt mg) (G__law_split : Fn P w K mg base k "_law_split" ["_law_state","_law_sizes_here"] spSplit g gd) (G__law_put : Fn P w K mg base k "_law_put" ["_law_parts","_law_sizes_here"] (spPut K) g2 gd2) :
 ∃ tr,PSs (cxOf CX0 P w K mg base ["_law_script","_law_first","_law_rows","_law_most","_law_flow_here","_law_desks_here","_law_sizes_here","_law_total","_law_size","_law_table","_law_k","_law_pair","_law_one","_law_step","_law_places","_law_some","_law_moves_here","_law_state","_law_parts","_law_goal","_law_place","_law_value"] "_law_calm" (defScope s_law_calm) f cdv A outer s H E).nox innerB tr /\ InnerOk tr := by
 have nd := sc_calm.nd
 refine ⟨_,(pss_cons (ps_set (i := 18) nd rfl (Or.inr rfl) (pe_call G__law_split.ok hr rfl G__law_split.at_ G__law_split.kp G__law_split.bn .nil pass0 (pa_cons (pv 17) (pa_cons (pv 6) pa_nil)))) (pss_cons (ps_set (i := 19) nd rfl (Or.inl rfl) (pe_ix ix_list (pv 16) (pe_call G__law_put.ok hr rfl G__law_put.at_ G__law_put.kp G__law_put.bn .nil pass0 (pa_cons (pe_comp (g := (gName 0)) (tc := tYes) (te := (tOp (rIxL K) (tVar 1) (tVar 0))) (own := ["_law_place"]) (fr := ["_law_parts"]) (idx := [18]) rfl (by show CompScope _ _ _ (defScope s_law_calm); exact (.of rfl (by decide +kernel))) (pi_list (pv 14)) (λ _ _ _ _ _ => (pg_name (i := 0) (by show List.Nodup (["_law_place","_law_parts"] : List Str); decide +kernel) rfl (Or.inl rfl) (Or.inr rfl))) (λ _ _ _ _ _ => pts_nil) (λ _ _ _ _ _ => (pe_ix ix_list (pv 1) (pv 0) (λ _ _ => rfl))) rfl (hat_of rfl)) (pa_cons (pv 15) pa_nil))) (λ _ _ => rfl))) (pss_cons (ps_for PassesOwn.never rfl (pi_zip rfl B.zip_ (pa_cons (pv 14) (pa_cons (pv 19) pa_nil))) (pg_tup rfl (pgs_cons (pg_name (i := 20) nd rfl (Or.inl rfl)) (pgs_cons (pg_name (i := 21) nd rfl (Or.inl rfl)) pgs_nil))) (pss_one (ps_asg (pv 21) (pg_sub (pv 18) (pv 20) set_list)))) (pss_cons (ps_asg (pe_op op_mod (pe_op op_add (pe_ix ix_list (pv 18) pe_neg1 (λ _ _ => rfl)) (pv 13)) (pe_ix ix_list (pv 6) pe_neg1 (λ _ _ => rfl))) (pg_sub (pv 18) pe_neg1 set_list)) (pss_one (ps_expr (pe_bm PySem.F.plainAttrs_list PySem.F.slot_list_append PySem.F.type_list_append mt_append (pe_ix ix_list (pv 9) (pv 17) (λ _ _ => rfl)) (pa_cons (pe_call G__law_put.ok hr rfl G__law_put.at_ G__law_put.kp G__law_put.bn .nil pass0 (pa_cons (pv 18) (pa_cons (pv 6) pa_nil))) pa_nil)))))))),?_⟩
 rintro Dn s0 s1 s2 s3 s4 s5 s7 s8 s10 s11 s12 s18 s19 s20 s21 ms a M T PL SO MV u us ws st xs H1 hm oa h4 hC hu hex hx hxl q
 try dsimp only [cxOf,Cx.nox,Cx.wish]
 refine lats5 ?_
 intro D0 σ0 U5 U4 U3 U2
 have h10 : ms.length <= 10 := by have := hm.len; omega
 have mp : ∀ m ∈ ms,0 < m := λ m h => by have := hm.rng m h; omega
 have pt0 := split_pt mp (st : Int)
 have pll : ∀ i ∈ a.pl,i < ms.length := λ i hi => by have := oa.lt i hi; unfold lastG at this; omega
 refine ⟨_,rfl,_,rfl,(st : Int),M,ms,rfl,hC.m,h10,hm.rng,λ r H2 hr0 x2 k2 => ?_⟩
 have nr : r ∉ us := λ hm' => hex r hm' hr0
 have hC2 := hC.but (.of x2)
 refine ⟨_,rfl,_,rfl,PL,rfl,⟨_,SqL.of hC2.pl⟩,λ D hD => subs (K := K) (λ i hi => by rw [pt0.len]; exact pll i hi) h4 hC2.pl k2 hD λ H3 x3 k3 => ?_⟩
 have hC3 := hC2.but (.of x3)
 have k23 := x3 _ _ k2
 have gp := goal_pt pt0 oa
 have sp := sub_pt pt0 oa.lt
 have sl : (subG a.pl ms).length = a.pl.length := by unfold subG; rw [List.length_map]
 obtain ⟨c0,c1⟩ := put_in sp
 rw [<- oa.len] at c1
 have hi : (putG (subG a.pl (splitG (st : Int) ms)) (subG a.pl ms)).toNat < a.mv.length := by omega
 have gg : a.mv[(putG (subG a.pl (splitG (st : Int) ms)) (subG a.pl ms)).toNat]? = some (goalG ms a (splitG (st : Int) ms)) := by
  unfold goalG;rw [List.getD_eq_getElem?_getD,List.getElem?_eq_getElem hi]; rfl
 obtain ⟨ga,hga,hgr⟩ := paired_getR hC3.rw_ gg
 have hgr : H3 ga = some (.lst ((goalG ms a (splitG (st : Int) ms)).map V.int)) := hgr
 have hat : atI (ws.map V.ref) (putG (subG a.pl (splitG (st : Int) ms)) (subG a.pl ms)) = some (.ref ga) := by
  have e : putG (subG a.pl (splitG (st : Int) ms)) (subG a.pl ms) = (((putG (subG a.pl (splitG (st : Int) ms)) (subG a.pl ms)).toNat : Nat) : Int) := by omega
  rw [e];exact atI_nat (by rw [List.getElem?_map,hga]; rfl)
 refine ⟨_,rfl,D,SO,subG a.pl (splitG (st : Int) ms),subG a.pl ms,rfl,SqL.of k3,SqL.of hC3.so,sp.len,by omega,sub_in hm.rng pll,MV,_,_,_,rfl,rfl,SqL.of hC3.mv,hat,?_⟩
 have nga : ga ∉ us := hC.nw ga (List.mem_of_getElem? hga)
 have y3 : Same H1 H3 := x2.trans x3
 have nr3 : ∀ {b o},H1 b = some o -> b ≠ r := λ {b o} e z => by rw [z,hr0] at e; cases e
 have nga3 : ga ≠ r := by
  obtain ⟨_,_,zz⟩ := paired_get hC.rw_ hga;exact nr3 (show H1 ga = some _ from zz)
 generalize hps : splitG (st : Int) ms = ps at *
 generalize hgo : goalG ms a ps = go at *
 have gl : go.length = a.pl.length := by rw [gp.len,sl]
 refine ⟨_,rfl,_,rfl,PL,ga,rfl,⟨_,SqL.of hC3.pl⟩,⟨_,SqL.of hgr⟩,for_zip (xs := nats a.pl) (zs := go.map V.int) (λ i σ H' => ∃ v20 v21 : Option V,σ = [s0,s1,s2,s3,s4,s5,some (.ref M),s7,s8,some (.ref T),s10,s11,s12,some (.int a.st),some (.ref PL),some (.ref SO),some (.ref MV),some (.int (st : Int)),some (.ref r),some (.ref ga),v20,v21] /\ H' r = some (.lst ((setAll ps ((a.pl.zip go).take i)).map V.int)) /\ Same H1 H' /\ H' ga = some (.lst (go.map V.int))) ?_ ?_ ?_ ?_ ?_⟩
 . exact ⟨_,_,rfl,by rw [List.take_zero]; exact k23,y3,hgr⟩
 . rw [List.length_map,List.length_map,gl]
 . rintro i σ H4 ⟨v20,v21,_,_,x4,hg4⟩;exact ⟨SqL.of (x4 _ _ hC.pl),SqL.of hg4⟩
 . rintro i x z σ H4 tt hx' hz' ht ⟨v20,v21,rfl,k4,x4,hg4⟩;rw [List.getElem?_map] at hx' hz';obtain ⟨j,hj,rfl⟩ := Option.map_eq_some_iff.mp hx';obtain ⟨v,hv,rfl⟩ := Option.map_eq_some_iff.mp hz';have y4 : Same H4 (upd H4 tt (.tup [.int (j : Int),.int v])) := sm_new ht;have kt : upd H4 tt (.tup [.int (j : Int),.int v]) tt = some (.tup [.int (j : Int),.int v]) := upd_same;generalize upd H4 tt (.tup [.int (j : Int),.int v]) = H5 at y4 kt ⊢;have hjl : j < ps.length := by rw [pt0.len]; exact pll j (List.mem_of_getElem? hj)
   have hz : (a.pl.zip go)[i]? = some (j,v) := List.getElem?_zip_eq_some.mpr ⟨hj,hv⟩;have hix : ixN ((setAll ps ((a.pl.zip go).take i)).map V.int).length (j : Int) = some j := by
    rw [List.length_map,setAll_len];unfold ixN;rw [if_pos (by omega),if_pos (by omega)]; simp
   refine ⟨tt,_,rfl,SqT.of kt,rfl,_,_,rfl,_,_,rfl,rfl,?_⟩;refine ⟨_,rfl,_,rfl,_,rfl,r,_,_,j,rfl,rfl,y4 _ _ k4,hix,some (.int (j : Int)),some (.int v),rfl,?_,?_,?_⟩
   . rw [upd_same,take_snoc hz];unfold setAll;rw [List.foldl_append];exact congrArg (λ l => some (HO.lst l)) (List.map_set ..).symm
   . exact λ b o e => by rw [upd_ne (nr3 e)]; exact y4 _ _ (x4 _ _ e)
   . rw [upd_ne nga3]; exact y4 _ _ hg4
 . rintro σ H4 ⟨v20,v21,rfl,k4,x4,hg4⟩;rw [List.length_map,List.take_of_length_le (by rw [List.length_zip]; omega)] at k4;have hl4 : (setAll ps (a.pl.zip go)).length = ms.length := by rw [setAll_len,pt0.len]
   have ne4 : setAll ps (a.pl.zip go) ≠ [] := λ z => hm.ne (List.length_eq_zero_iff.mp (by rw [<- hl4,z]; rfl));obtain ⟨l1,l2⟩ := at_last ne4;obtain ⟨l3,_⟩ := at_last hm.ne;have hC4 := hC.but (.of x4);have hlast : 0 < ms.getD (ms.length - 1) 0 := by
    have hp := List.length_pos_iff.mpr hm.ne;rw [List.getD_eq_getElem?_getD,List.getElem?_eq_getElem (by omega)];exact mp _ (List.getElem_mem _)
   refine ⟨_,rfl,r,_,_,_,rfl,rfl,SqL.of k4,l1,_,rfl,_,_,rfl,rfl,_,rfl,M,_,_,_,rfl,rfl,SqL.of hC4.m,l3,_,_,rfl,rfl,hlast,_,rfl,r,_,_,_,rfl,rfl,k4,l2,?_⟩;have ea : actG ms a ps = (setAll ps (a.pl.zip go)).set (ms.length - 1) (((setAll ps (a.pl.zip go)).getD (ms.length - 1) 0 + a.st) % ms.getD (ms.length - 1) 0) := by
    unfold actG lastG;rw [hgo]
   rw [hl4];have k5 : upd H4 r (.lst (((setAll ps (a.pl.zip go)).map V.int).set (ms.length - 1) (.int (((setAll ps (a.pl.zip go)).getD (ms.length - 1) 0 + a.st) % ms.getD (ms.length - 1) 0)))) r = some (.lst ((actG ms a ps).map V.int)) := by
    rw [upd_same,ea,List.map_set]
   have x5 : Same H1 (upd H4 r (.lst (((setAll ps (a.pl.zip go)).map V.int).set (ms.length - 1) (.int (((setAll ps (a.pl.zip go)).getD (ms.length - 1) 0 + a.st) % ms.getD (ms.length - 1) 0))))) := λ b o e => by rw [upd_ne (nr3 e)]; exact x4 _ _ e
   have o5 : ∀ b ∈ us,upd H4 r (.lst (((setAll ps (a.pl.zip go)).map V.int).set (ms.length - 1) (.int (((setAll ps (a.pl.zip go)).getD (ms.length - 1) 0 + a.st) % ms.getD (ms.length - 1) 0)))) b = H1 b := λ b hb => by
    cases e : H1 b with
    | none => exact absurd e (hex b hb)
    | some o => exact x5 b o e
   generalize upd H4 r (.lst (((setAll ps (a.pl.zip go)).map V.int).set (ms.length - 1) (.int (((setAll ps (a.pl.zip go)).getD (ms.length - 1) 0 + a.st) % ms.getD (ms.length - 1) 0)))) = H5 at k5 x5 o5 ⊢;have hC5 := hC.but (.of x5);have hux := x5 _ _ hx;refine ⟨_,rfl,_,rfl,T,_,_,.ref u,rfl,rfl,SqL.of hC5.t,atI_nat (by rw [List.getElem?_map,hu]; rfl),.inl ⟨rfl,_,SqL.of hux⟩,_,rfl,_,rfl,r,M,actG ms a ps,ms,rfl,SqL.of k5,SqL.of hC5.m,by rw [act_len,pt0.len],h10,hm.rng,u,_,_,rfl,rfl,hux,small (by rw [List.length_map]; omega),?_⟩;refine q _ _ _ _ _ (λ b o n e => ?_) ?_ λ b hb n => ?_
   . rw [upd_ne (λ z => n (by rw [z]; exact List.mem_of_getElem? hu))]; exact x5 _ _ e
   . rw [upd_same,List.map_append];unfold ledG;rw [hps]; rfl
   . rw [upd_ne n]; exact o5 b hb
structure LIn (K : W.Frag) (ns : List Int) (ds : List Str) (ms : List Int) (us : List Addr) (fs : Nat -> List Int) (z E M T : Addr) (H : Hp) : Prop where
 scr : ∀ H',ButL us H H' -> SqL K H' z (ns.map V.int)
 n63 : ns.length <= 63
 e : H E = some (.lst (ds.map V.str))
 m : H M = some (.lst (ms.map V.int))
 t : H T = some (.lst (us.map V.ref))
 rows : ∀ j u,us[j]? = some u -> H u = some (.lst ((fs j).map V.int))
 nE : E ∉ us
 nM : M ∉ us
 nT : T ∉ us
 nd : us.Nodup
 len : (us.length : Int) = prodG ms
 d4 : ds.length <= 4
 md : ms.length = ds.length + 1
 dn : ds.Nodup
def LetterOk (K : W.Frag) (tr : TS) : Prop := ∀ (Dn : Ends) (s2 s3 s4 s8 s12 s13 s14 s15 s16 s17 s18 s19 s20 s21 : Option V) (ns : List Int) (ds : List Str) (ms : List Int) (us : List Addr) (fs : Nat -> List Int) (z E M T p d : Addr) (l : Str) (r : List Str) (fi : Int) (kk : Nat) (H : Hp),LIn K ns ds ms us fs z E M T H -> MsOk ms -> (∀ j,(fs j).length <= 9) -> 0 <= fi -> fi + kk <= 60 -> H p = some (.tup [.str l,.ref d]) -> H d = some (.tup (r.map V.str)) -> (∀ e ∈ r,e ∈ ds) -> r.Nodup -> r.length <= 4 ->
 (∀ (a : AD) v12 v13 v14 v15 v16 v17 v18 v19 v20 v21 H',OkA ms a -> a.pl = r.map ds.idxOf -> ButL us H H' -> (∀ j u,us[j]? = some u -> H' u = some (.lst ((fs j ++ [ledG ms a (j : Int)]).map V.int))) -> Dn.nx [some (.ref z),some (.int fi),s2,s3,s4,some (.ref E),some (.ref M),some (.int (prodG ms)),s8,some (.ref T),some (.int (kk : Int)),some (.ref p),v12,v13,v14,v15,v16,v17,v18,v19,v20,v21] H') ->
 tr Dn [some (.ref z),some (.int fi),s2,s3,s4,some (.ref E),some (.ref M),some (.int (prodG ms)),s8,some (.ref T),some (.int (kk : Int)),some (.ref p),s12,s13,s14,s15,s16,s17,s18,s19,s20,s21] H
theorem idx_nodup : ∀ {r ds : List Str},r.Nodup -> (∀ e ∈ r,e ∈ ds) -> (r.map ds.idxOf).Nodup := by
 intro r ds nd hin
 induction r with
 | nil => exact List.nodup_nil
 | cons x t ih =>
  rw [List.nodup_cons] at nd;rw [List.map_cons,List.nodup_cons];refine ⟨λ hm => ?_,ih nd.2 λ e he => hin e (List.mem_cons_of_mem _ he)⟩;obtain ⟨y,hy,e⟩ := List.mem_map.mp hm;have hx := List.getElem_idxOf (List.idxOf_lt_length_of_mem (hin x List.mem_cons_self));have hy' := List.getElem_idxOf (List.idxOf_lt_length_of_mem (hin y (List.mem_cons_of_mem _ hy)));have : x = y := by rw [<- hx,<- hy']; congr 1; exact e.symm
  exact nd.1 (this ▸ hy)
theorem places {D d E : Addr} {Q : VK} {H1 : Hp} {r ds : List Str} (hin : ∀ e ∈ r,e ∈ ds) (h4 : r.length <= 4) (d4 : ds.length <= 4) (hd : H1 d = some (.tup (r.map V.str))) (hE : H1 E = some (.lst (ds.map V.str))) (hD : H1 D = none) (hdn : ∀ H',Same H1 H' -> H' D = some (.lst (nats (r.map ds.idxOf))) -> Q (.ref D) H') :
 CompLoop (Itt K d) D (gName 0) tYes (tBM K "list" rIdxS (tVar 1) (tCons (tVar 0) tNil)) Q [none,some (.ref E)] H1 := by
 refine comp_tup (xs := r.map V.str) (λ i ys σ H => ∃ v : Option V,ys = nats ((r.take i).map ds.idxOf) /\ σ = [v,some (.ref E)] /\ Same H1 H) ?_ (by rw [List.length_map]; omega) ?_ ?_ ?_ ?_
 . exact ⟨none,rfl,rfl,sm_new hD⟩
 . rintro i ys σ H ⟨v,rfl,_⟩;rw [List.length_map,List.length_map,List.length_take]; exact Nat.min_le_left _ _
 . rintro i ys σ H ⟨v,_,_,x⟩;exact SqT.of (x _ _ hd)
 . rintro i y ys σ H hy hl2 ⟨v,rfl,rfl,x⟩;rw [List.getElem?_map] at hy;obtain ⟨e,he,rfl⟩ := Option.map_eq_some_iff.mp hy;have hm := hin e (List.mem_of_getElem? he);refine ⟨_,rfl,.inl ⟨rfl,_,SqL.of (x _ _ hE)⟩,_,rfl,E,e,ds,rfl,rfl,x _ _ hE,hm,by omega,hl2,some (.str e),?_,rfl,x.at hD⟩;rw [take_snoc he,List.map_append];show _ = List.map _ (_ ++ _);rw [List.map_append]; rfl
 . rintro ys σ H hl2 ⟨v,rfl,_,x⟩;rw [List.length_map,List.take_length] at hl2;exact hdn H x hl2
theorem calm_letter {cdv : Value} {A : Around} {outer : List Env} {s : Shared} {H : Hp} {E : XK} (hr : Room k (A.deeper (envOfC "_law_calm" (defScope s_law_calm) s.heap.objs.size f cdv))) (B : Bt mg) {tr1 : TS} (hR1 : PSs (cxOf CX0 P w K mg base ["_law_script","_law_first","_law_rows","_law_most","_law_flow_here","_law_desks_here","_law_sizes_here","_law_total","_law_size","_law_table","_law_k","_law_pair","_law_one","_law_step","_law_places","_law_some","_law_moves_here","_law_state","_law_parts","_law_goal","_law_place","_law_value"] "_law_calm" (defScope s_law_calm) f cdv A outer s H E).nox innerB tr1) (hT1 : InnerOk tr1) (G__law_flow : Fn P w K mg base k "_law_flow" ["_law_script","_law_k"] (spFlow K) g gd) (G__law_draw : Fn P w K mg base k "_law_draw" ["_law_flow_here","_law_many"] spDraw g2 gd2) (G__law_moves : Fn P w K mg base k "_law_moves" ["_law_flow_here","_law_places","_law_sizes_here"] spMoves g3 gd3) :
 ∃ tr,PSs (cxOf CX0 P w K mg base ["_law_script","_law_first","_law_rows","_law_most","_law_flow_here","_law_desks_here","_law_sizes_here","_law_total","_law_size","_law_table","_law_k","_law_pair","_law_one","_law_step","_law_places","_law_some","_law_moves_here","_law_state","_law_parts","_law_goal","_law_place","_law_value"] "_law_calm" (defScope s_law_calm) f cdv A outer s H E).nox letterB tr /\ LetterOk K tr := by
 have nd := sc_calm.nd
 refine ⟨_,(pss_cons (ps_set (i := 12) nd rfl (Or.inl rfl) (pe_call G__law_flow.ok hr rfl G__law_flow.at_ G__law_flow.kp G__law_flow.bn .nil pass0 (pa_cons (pv 0) (pa_cons (pe_op op_add (pe_op op_add (pv 1) pe_int) (pv 10)) pa_nil)))) (pss_cons (ps_set (i := 13) nd rfl (Or.inl rfl) (pe_call G__law_draw.ok hr rfl G__law_draw.at_ G__law_draw.kp G__law_draw.bn .nil pass0 (pa_cons (pv 12) (pa_cons (pe_ix ix_list (pv 6) pe_neg1 (λ _ _ => rfl)) pa_nil)))) (pss_cons (ps_setC (i := 14) nd rfl (Or.inl rfl) (g := (gName 0)) (tc := tYes) (te := (tBM K "list" rIdxS (tVar 1) (tCons (tVar 0) tNil))) (own := ["_law_desk"]) (fr := ["_law_desks_here"]) (idx := [5]) rfl (by show CompScope _ _ _ (defScope s_law_calm); exact (.of rfl (by decide +kernel))) (pi_tup (pe_ix ix_tup (pv 11) pe_int (λ _ _ => rfl))) (λ _ _ _ _ _ => (pg_name (i := 0) (by show List.Nodup (["_law_desk","_law_desks_here"] : List Str); decide +kernel) rfl (Or.inl rfl) (Or.inr rfl))) (λ _ _ _ _ _ => pts_nil) (λ _ _ _ _ _ => (pe_bm PySem.F.plainAttrs_list PySem.F.slot_list_index PySem.F.type_list_index mt_indexS (pv 1) (pa_cons (pv 0) pa_nil))) rfl (hat_of rfl)) (pss_cons (ps_setC (i := 15) nd rfl (Or.inl rfl) (g := (gName 0)) (tc := tYes) (te := (tOp (rIxL K) (tVar 1) (tVar 0))) (own := ["_law_place"]) (fr := ["_law_sizes_here"]) (idx := [6]) rfl (by show CompScope _ _ _ (defScope s_law_calm); exact (.of rfl (by decide +kernel))) (pi_list (pv 14)) (λ _ _ _ _ _ => (pg_name (i := 0) (by show List.Nodup (["_law_place","_law_sizes_here"] : List Str); decide +kernel) rfl (Or.inl rfl) (Or.inr rfl))) (λ _ _ _ _ _ => pts_nil) (λ _ _ _ _ _ => (pe_ix ix_list (pv 1) (pv 0) (λ _ _ => rfl))) rfl (hat_of rfl)) (pss_cons (ps_set (i := 16) nd rfl (Or.inl rfl) (pe_call G__law_moves.ok hr rfl G__law_moves.at_ G__law_moves.kp G__law_moves.bn .nil pass0 (pa_cons (pv 12) (pa_cons (pv 14) (pa_cons (pv 6) pa_nil))))) (pss_one (ps_for PassesOwn.never rfl (pi_range1 rfl B.range_ (pa_cons (pv 7) pa_nil)) (pg_name (i := 17) nd rfl (Or.inl rfl)) hR1))))))),?_⟩
 rintro Dn s2 s3 s4 s8 s12 s13 s14 s15 s16 s17 s18 s19 s20 s21 ns ds ms us fs z E M T p d l r fi kk H1 hL hm hf9 fi0 fik hp hd hin rnd r4 q
 try dsimp only [cxOf,Cx.nox,Cx.wish]
 refine lats6 ?_
 intro D0 σ0 U6 U5 U4 U3 U2
 have mp : ∀ m ∈ ms,0 < m := λ m h => by have := hm.rng m h; omega
 have hex : ∀ b ∈ us,H1 b ≠ none := λ b hb e => by
  obtain ⟨j,hj⟩ := List.getElem?_of_mem hb;rw [hL.rows j b hj] at e; cases e
 have nus : ∀ {b o},H1 b = some o -> (∀ xs : List Int,o ≠ .lst (xs.map V.int)) -> b ∉ us := λ {b o} e n hb => by
  obtain ⟨j,hj⟩ := List.getElem?_of_mem hb;rw [hL.rows j b hj] at e;exact n _ (Option.some.inj e).symm
 refine ⟨_,rfl,_,rfl,_,_,rfl,rfl,_,rfl,_,_,rfl,rfl,z,ns,_,rfl,hL.scr H1 (ButL.refl us H1),hL.n63,by omega,by omega,λ b o2 hb fb => ?_⟩
 have nb : b ∉ us := λ h => hex b h hb
 have x2 : Same H1 (upd H1 b o2) := sm_new hb
 generalize upd H1 b o2 = H2 at fb x2 ⊢
 obtain ⟨l3,_⟩ := at_last hm.ne
 have hlast : 1 <= ms.getD (ms.length - 1) 0 /\ ms.getD (ms.length - 1) 0 <= 4 := by
  have hp := List.length_pos_iff.mpr hm.ne;rw [List.getD_eq_getElem?_getD,List.getElem?_eq_getElem (by omega)];exact hm.rng _ (List.getElem_mem _)
 have nbs : ∀ {c o},H1 c = some o -> c ≠ b := λ e => ne_of_none e hb
 refine ⟨_,rfl,_,rfl,M,_,_,_,rfl,rfl,SqL.of (x2 _ _ hL.m),l3,b,_,rfl,fb,by omega,by omega,λ st H3 st0 st1 f3 x3 => ?_⟩
 have e3 : ∀ {c o},H1 c = some o -> H3 c = some o := λ e => x3 _ _ (nbs e) (x2 _ _ e)
 have hat : atI [V.str l,V.ref d] 1 = some (.ref d) := atI_nat (j := 1) rfl
 refine ⟨_,rfl,p,_,_,_,rfl,rfl,SqT.of (e3 hp),hat,d,rfl,⟨_,SqT.of (e3 hd)⟩,λ D hD => places (K := K) hin r4 hL.d4 (e3 hd) (e3 hL.e) hD λ H4 x4 k4 => ?_⟩
 have e4 : ∀ {c o},H1 c = some o -> H4 c = some o := λ e => x4 _ _ (e3 e)
 have fr : ∀ {c},c ≠ b -> H3 c = none -> H1 c = none := λ {c} n e => x2.free (ext_free x3 n e)
 have nDb : D ≠ b := ne_flow hD f3
 have nD : D ∉ us := λ h => hex D h (fr nDb hD)
 have pll : ∀ i ∈ r.map ds.idxOf,i < ds.length := λ i hi => by
  obtain ⟨e,he,rfl⟩ := List.mem_map.mp hi;exact List.idxOf_lt_length_of_mem (hin e he)
 have pl4 : (r.map ds.idxOf).length <= 4 := by rw [List.length_map]; exact r4
 have pnd := idx_nodup rnd hin
 generalize hpl : r.map ds.idxOf = pl at k4 pll pl4 pnd
 have f4 := Same.flow x4 f3
 refine ⟨_,rfl,D,rfl,⟨_,SqL.of k4⟩,λ S hS => subs (K := K) (λ i hi => by have := pll i hi; rw [hL.md]; omega) pl4 k4 (e4 hL.m) hS λ H5 x5 k5 => ?_⟩
 have e5 : ∀ {c o},H1 c = some o -> H5 c = some o := λ e => x5 _ _ (e4 e)
 have k45 := x5 _ _ k4
 have nSb : S ≠ b := ne_flow hS f4
 have nS : S ∉ us := λ h => hex S h (fr nSb (x4.free hS))
 have f5 := Same.flow x5 f4
 refine ⟨_,rfl,_,rfl,_,rfl,b,D,M,pl,ms,rfl,f5,k45,nDb,e5 hL.m,nbs hL.m,pl4,λ i hi => by have := pll i hi; rw [hL.md]; omega,hm.rng,λ Va us2 mv H6 hV hfr ml hP hrow f6 x6 k6 => ?_⟩
 have e6 : ∀ {c o},H1 c = some o -> H6 c = some o := λ e => x6 _ _ (nbs e) (e5 e)
 have nVb : Va ≠ b := ne_flow hV f5
 have nV : Va ∉ us := λ h => hex Va h (fr nVb (x4.free (x5.free hV)))
 have nw : ∀ w ∈ us2,w ∉ us := λ w hw h => by
  have hw5 := hfr w hw;have nwb : w ≠ b := ne_flow hw5 f5;exact hex w h (fr nwb (x4.free (x5.free hw5)))
 have oa : OkA ms ⟨pl,mv,st⟩ := ⟨pnd,λ i hi => by have := pll i hi; unfold lastG; rw [hL.md]; omega,ml,hrow⟩
 have hC : CIn ms ⟨pl,mv,st⟩ M T D S Va us us2 H6 := ⟨e6 hL.m,x6 _ _ nDb k45,x6 _ _ nSb k5,k6,hP,e6 hL.t,hL.nM,nD,nS,nV,hL.nT,nw⟩
 have B6 : ButL us H1 H6 := λ c o _ e => e6 e
 have ln : us.length = (prodG ms).toNat := by have := hL.len; omega
 have pr := hm.prod
 have p0 := prod_pos mp
 refine ⟨_,rfl,_,rfl,by omega,by omega,for_range (n := (prodG ms).toNat) (λ i σ H' => ∃ v17 v18 v19 v20 v21 : Option V,σ = [some (.ref z),some (.int fi),s2,s3,s4,some (.ref E),some (.ref M),some (.int (prodG ms)),s8,some (.ref T),some (.int (kk : Int)),some (.ref p),some (.ref b),some (.int st),some (.ref D),some (.ref S),some (.ref Va),v17,v18,v19,v20,v21] /\ ButL us H6 H' /\ (∀ j u,us[j]? = some u -> H' u = some (.lst ((fs j ++ (if j < i then [ledG ms ⟨pl,mv,st⟩ (j : Int)] else [])).map V.int)))) ?_ ?_ ?_⟩
 . refine ⟨_,_,_,_,_,rfl,ButL.refl us H6,λ j u hj => ?_⟩;rw [if_neg (Nat.not_lt_zero j),List.append_nil];exact e6 (hL.rows j u hj)
 . rintro i σ H7 hi ⟨v17,v18,v19,v20,v21,rfl,b7,r7⟩;rw [Int.zero_add];have hiu : i < us.length := by omega
   have hu : us[i]? = some us[i] := List.getElem?_eq_getElem hiu;have hx := r7 i _ hu;rw [if_neg (Nat.lt_irrefl i),List.append_nil] at hx;refine hT1 _ _ _ _ _ _ _ _ _ _ _ _ _ _ _ _ ms ⟨pl,mv,st⟩ M T D S Va us[i] us us2 i (fs i) H7 hm oa pl4 (hC.but b7) hu (λ c hc e => ?_) hx (by have := hf9 i; omega) λ v18 v19 v20 v21 H8 b8 k8 o8 => ⟨_,_,_,_,_,rfl,b7.trans b8,λ j u hj => ?_⟩
   . obtain ⟨j,hj⟩ := List.getElem?_of_mem hc;rw [r7 j c hj] at e; cases e
   . by_cases ej : j = i
     . subst ej;have : u = us[j] := Option.some.inj (hj.symm.trans hu);rw [this,if_pos (Nat.lt_succ_self j)];exact k8
     . obtain ⟨h1,e1⟩ := List.getElem?_eq_some_iff.mp hj;have nu : u ≠ us[i] := λ z => ej ((List.getElem_inj hL.nd).mp (e1.trans z));rw [o8 u (List.mem_of_getElem? hj) nu,r7 j u hj];have : (j < i + 1) ↔ (j < i) := by omega
       simp only [this]
 . rintro σ H7 ⟨v17,v18,v19,v20,v21,rfl,b7,r7⟩;refine q ⟨pl,mv,st⟩ _ _ _ _ _ _ _ _ _ _ H7 oa hpl.symm (B6.trans b7) λ j u hj => ?_;have := r7 j u hj;rw [if_pos (by have := (List.getElem?_eq_some_iff.mp hj).1; omega)] at this;exact this
def colAt (tb : List (List Int)) (s : Int) (i : Nat) : Int := (tb.getD s.toNat []).getD i 0
structure CalmG (rs : List Row) (tb : List (List Int)) : Prop where
 gm : GM (rs.map (·.1)) tb
 comm : ∀ (i j : Nat) (ri rj : Row),rs[i]? = some ri -> rs[j]? = some rj -> (∀ d ∈ ri.2,d ∉ rj.2) -> ∀ s : Int,0 <= s -> s < tb.length -> colAt tb (colAt tb s i) j = colAt tb (colAt tb s j) i
def tabG (ms : List Int) (acts : List AD) (n : Nat) : List (List Int) := (List.range n).map λ st : Nat => acts.map λ a => ledG ms a (st : Int)
theorem tab_at {ms : List Int} {acts : List AD} {n : Nat} {s : Int} {i : Nat} {a : AD} (h0 : 0 <= s) (h1 : s < n) (ha : acts[i]? = some a) : colAt (tabG ms acts n) s i = ledG ms a s := by
 have hs : s.toNat < n := by omega
 have e1 : (tabG ms acts n).getD s.toNat [] = acts.map λ a => ledG ms a ((s.toNat : Nat) : Int) := by
  unfold tabG;rw [List.getD_eq_getElem?_getD,List.getElem?_map,List.getElem?_range hs]; rfl
 unfold colAt
 rw [e1]
 rw [List.getD_eq_getElem?_getD,List.getElem?_map,ha]
 show ledG ms a ((s.toNat : Nat) : Int) = _
 rw [show ((s.toNat : Nat) : Int) = s by omega]
theorem calm_of {rs : List Row} {ds : List Str} {ms : List Int} {acts : List AD} (hm : ∀ m ∈ ms,0 < m) (hl : acts.length = rs.length) (hin : ∀ r ∈ rs,∀ d ∈ r.2,d ∈ ds) (ha : ∀ (j : Nat) a r,acts[j]? = some a -> rs[j]? = some r -> OkA ms a /\ a.pl = r.2.map ds.idxOf) : CalmG rs (tabG ms acts (prodG ms).toNat) := by
 have p0 := prod_pos hm
 have tl : (tabG ms acts (prodG ms).toNat).length = (prodG ms).toNat := by unfold tabG; rw [List.length_map,List.length_range]
 have ok : ∀ a ∈ acts,OkA ms a := λ a h => by
  obtain ⟨j,hj⟩ := List.getElem?_of_mem h;have hlt : j < rs.length := by rw [<- hl]; exact (List.getElem?_eq_some_iff.mp hj).1
  exact (ha j a _ hj (List.getElem?_eq_getElem hlt)).1
 refine ⟨⟨λ r hr => ?_,λ r hr x hx => ?_,by omega⟩,λ i j ri rj hi hj hd s s0 s1 => ?_⟩
 . obtain ⟨st,_,rfl⟩ := List.mem_map.mp hr;rw [List.length_map,List.length_map,hl]
 . obtain ⟨st,_,rfl⟩ := List.mem_map.mp hr;obtain ⟨a,haa,rfl⟩ := List.mem_map.mp hx;have := led_in hm (ok a haa) (st : Int);omega
 . have li := (List.getElem?_eq_some_iff.mp hi).1;have lj := (List.getElem?_eq_some_iff.mp hj).1;have ai : acts[i]? = some (acts[i]'(by omega)) := List.getElem?_eq_getElem _;have aj : acts[j]? = some (acts[j]'(by omega)) := List.getElem?_eq_getElem _;obtain ⟨oi,pi⟩ := ha i _ _ ai hi;obtain ⟨oj,pj⟩ := ha j _ _ aj hj;generalize acts[i]'(by omega) = a at ai oi pi;generalize acts[j]'(by omega) = b at aj oj pj;have s1' : s < ((prodG ms).toNat : Nat) := by omega
   have ra := led_in hm oi s;have rb := led_in hm oj s;rw [tab_at s0 s1' ai,tab_at s0 s1' aj,tab_at ra.1 (by omega) aj,tab_at rb.1 (by omega) ai];refine led_comm hm oi oj (λ x hx hy => ?_) s;rw [pi] at hx;rw [pj] at hy;obtain ⟨d,hd1,e1⟩ := List.mem_map.mp hx;obtain ⟨e,he1,e2⟩ := List.mem_map.mp hy;have hdm := hin ri (List.mem_of_getElem? hi) d hd1;have hem := hin rj (List.mem_of_getElem? hj) e he1;have g1 := List.getElem_idxOf (List.idxOf_lt_length_of_mem hdm);have g2 := List.getElem_idxOf (List.idxOf_lt_length_of_mem hem);have : d = e := by rw [<- g1,<- g2]; congr 1; exact e1.trans e2.symm
   exact hd d hd1 (this ▸ he1)
theorem paired_mk {α β : Type} {F : α -> β -> Prop} : ∀ {l : List α} {m : List β},l.length = m.length -> (∀ (j : Nat) a b,l[j]? = some a -> m[j]? = some b -> F a b) -> Paired F l m := by
 intro l
 induction l with
 | nil =>
  intro m h _;rw [List.length_eq_zero_iff.mp h.symm]; exact .nil
 | cons x t ih =>
  intro m h f;cases m with
  | nil => cases h
  | cons y r => exact .cons (f 0 x y rfl rfl) (ih (Nat.succ.inj h) λ j a b h1 h2 => f (j + 1) a b h1 h2)
theorem empties {D : Addr} {Q : VK} {H1 : Hp} {n : Nat} (hn : n <= 60) (hD : H1 D = none) (hdn : ∀ (us : List Addr) (H' : Hp),us.length = n -> us.Nodup -> (∀ u ∈ us,H1 u = none /\ H' u = some (.lst [])) -> D ∉ us -> Same H1 H' -> H' D = some (.lst (us.map V.ref)) -> Q (.ref D) H') :
 CompLoop (Itr 0 n) D (gName 0) tYes (tLst tNil) Q [none] H1 := by
 refine comp_range (λ i ys σ H => ∃ (us : List Addr) (v : Option V),ys = us.map V.ref /\ us.length = i /\ us.Nodup /\ (∀ u ∈ us,H1 u = none /\ H u = some (.lst [])) /\ D ∉ us /\ σ = [v] /\ Same H1 H) ?_ (by omega) ?_ ?_ ?_
 . exact ⟨[],none,rfl,rfl,List.nodup_nil,(by intro _ z; cases z),(by intro z; cases z),rfl,sm_new hD⟩
 . rintro i ys σ H ⟨us,v,rfl,e,_⟩;rw [List.length_map,e]; exact Nat.le_refl _
 . rintro i ys σ H hi hl2 ⟨us,v,rfl,e,hnd,hu,hDn,rfl,x⟩;refine ⟨Nat.zero_le _,λ e1 he1 => ?_⟩;have nDe : D ≠ e1 := ne_of_none hl2 he1;have nin : e1 ∉ us := λ h => by rw [(hu e1 h).2] at he1; cases he1
   have y : Same H (upd H e1 (.lst [])) := sm_new he1;refine ⟨y _ _ hl2,us ++ [e1],_,by rw [List.map_append]; rfl,by rw [List.length_append,e]; rfl,KKM.nodup_snoc hnd nin,λ u h => ?_,λ h => ?_,rfl,(x.trans y).at hD⟩
   . have nuD : u ≠ D := λ z => by
      rcases List.mem_append.mp h with h | h
      . exact hDn (z ▸ h)
      . exact nDe ((z.symm.trans (List.mem_singleton.mp h)))
     rw [upd_ne nuD]
     rcases List.mem_append.mp h with h | h
     . exact ⟨(hu u h).1,y _ _ (hu u h).2⟩
     . rw [List.mem_singleton.mp h]; exact ⟨x.free he1,upd_same⟩
   . rcases List.mem_append.mp h with h | h
     . exact hDn h
     . exact nDe (List.mem_singleton.mp h)
 . rintro ys σ H hl2 ⟨us,v,rfl,e,hnd,hu,hDn,_,x⟩;exact hdn us H e hnd hu hDn x hl2
theorem goods {D a : Addr} {Q : VK} {H1 : Hp} {n : Nat} (hn : n <= 60) (hD : H1 D = none) (hF : FlowAt H1 a) (hdn : ∀ (gd : List Int) (H' : Hp),(∀ x ∈ gd,0 <= x /\ x < n) -> gd.length <= n -> Ext a H1 H' -> FlowAt H' a -> H' D = some (.lst (gd.map V.int)) -> Q (.ref D) H') :
 CompLoop (Itr 0 n) D (gName 0) (tTest (tOp rEq (tCall spDraw [] E0 (tCons (tVar 1) (tCons (tC (.int 2)) tNil))) (tC (.int 0)))) (tVar 0) Q [none,some (.ref a)] H1 := by
 have nD := ne_flow hD hF
 refine comp_range (λ i ys σ H => ∃ (gd : List Int) (v : Option V),ys = gd.map V.int /\ gd.length <= i /\ (∀ x ∈ gd,0 <= x /\ x < i) /\ σ = [v,some (.ref a)] /\ FlowAt H a /\ Ext a H1 H) ?_ (by omega) ?_ ?_ ?_
 . exact ⟨[],none,rfl,Nat.le_refl _,(by intro _ z; cases z),rfl,hF.new hD,Ext.new hD⟩
 . rintro i ys σ H ⟨gd,v,rfl,e,_⟩;rw [List.length_map]; exact e
 . rintro i ys σ H hi hl2 ⟨gd,v,rfl,e,hb,rfl,fl,x⟩;refine ⟨_,rfl,a,2,rfl,fl,by decide,by decide,λ r H2 r0 r1 f2 x2 => ?_⟩;refine ⟨rfl,_,rfl,?_⟩;rw [Int.zero_add];refine ite2 (λ c => ?_) (λ c => ?_)
   . refine ⟨_,rfl,x2 _ _ nD hl2,gd ++ [(i : Int)],_,by rw [List.map_append]; rfl,by rw [List.length_append]; show gd.length + 1 <= _; omega,λ y hy => ?_,rfl,f2.set (Ne.symm nD),(x.trans x2).at hD⟩
     rcases List.mem_append.mp hy with h | h
     . have := hb y h; omega
     . rw [List.mem_singleton.mp h]; omega
   . exact ⟨x2 _ _ nD hl2,gd,_,rfl,by omega,λ y hy => by have := hb y hy; omega,rfl,f2,x.trans x2⟩
 . rintro ys σ H hl2 ⟨gd,v,rfl,e,hb,_,fl,x⟩;exact hdn gd H hb e x fl hl2
def spCalm (K : W.Frag) : Sp := λ vs H Q _ => ∃ (z L : Addr) (ns : List Int) (rs : List Row),vs = [.ref z,.int 1,.ref L,.int 12] /\ SqL K H z (ns.map V.int) /\ ns.length <= 63 /\ RowsAt H L rs /\ Good rs /\
 ∀ (t T G : Addr) (us : List Addr) (tb : List (List Int)) (gd : List Int) (H' : Hp),Same H H' -> H' t = some (.tup [.ref T,.ref G]) -> Tb H' T us tb rs.length -> H' G = some (.lst (gd.map V.int)) -> (∀ x ∈ gd,0 <= x /\ x < tb.length) -> tb.length <= 12 -> gd.length <= 12 -> CalmG rs tb -> (∀ u ∈ T :: G :: us,H u = none) -> Q (.ref t) H'
theorem ok_calm (F : Fun K "_law_calm" "_law_calm" s_law_calm f fd) (B : Bt mg) (G__law_flow : Fn P w K mg base k "_law_flow" ["_law_script","_law_k"] (spFlow K) g gd) (G__law_draw : Fn P w K mg base k "_law_draw" ["_law_flow_here","_law_many"] spDraw g2 gd2) (G__law_moves : Fn P w K mg base k "_law_moves" ["_law_flow_here","_law_places","_law_sizes_here"] spMoves g3 gd3) (G__law_split : Fn P w K mg base k "_law_split" ["_law_state","_law_sizes_here"] spSplit g4 gd4) (G__law_put : Fn P w K mg base k "_law_put" ["_law_parts","_law_sizes_here"] (spPut K) g5 gd5) (G__law_desks : Fn P w K mg base k "_law_desks" ["_law_rows"] spDesksOf g6 gd6) (G__law_sizes : Fn P w K mg base k "_law_sizes" ["_law_flow_here","_law_desks_here","_law_most"] spSizes g7 gd7) : FnOk P w K mg base CX0 (k + 1) f fd ["_law_script","_law_first","_law_rows","_law_most"] (spCalm K) := by
 refine F.ok sc_calm (λ vs H Q E h => ?_) (λ cdv A outer s H vs Q E hr h => ?_)
 . obtain ⟨z,L,ns,rs,rfl,_⟩ := h;rfl
 obtain ⟨z,L,ns,rs,rfl,hS,h63,hL,hG,q⟩ := h
 have nd := sc_calm.nd
 obtain ⟨tr1,hR1,hT1⟩ := calm_inner (cdv := cdv) (A := A) (outer := outer) (s := s) (H := H) (E := E) hr B G__law_split G__law_put
 obtain ⟨tr2,hR2,hT2⟩ := calm_letter hr B hR1 hT1 G__law_flow G__law_draw G__law_moves
 refine ⟨_,(pss_cons (ps_set (i := 4) nd rfl (Or.inr rfl) (pe_call G__law_flow.ok hr rfl G__law_flow.at_ G__law_flow.kp G__law_flow.bn .nil pass0 (pa_cons (pv 0) (pa_cons (pv 1) pa_nil)))) (pss_cons (ps_set (i := 5) nd rfl (Or.inr rfl) (pe_call G__law_desks.ok hr rfl G__law_desks.at_ G__law_desks.kp G__law_desks.bn .nil pass0 (pa_cons (pv 2) pa_nil))) (pss_cons (ps_set (i := 6) nd rfl (Or.inr rfl) (pe_call G__law_sizes.ok hr rfl G__law_sizes.at_ G__law_sizes.kp G__law_sizes.bn .nil pass0 (pa_cons (pv 4) (pa_cons (pv 5) (pa_cons (pv 3) pa_nil))))) (pss_cons (ps_set (i := 7) nd rfl (Or.inl rfl) pe_int) (pss_cons (ps_for PassesOwn.never rfl (pi_list (pv 6)) (pg_name (i := 8) nd rfl (Or.inl rfl)) (pss_one (ps_set (i := 7) nd rfl (Or.inl rfl) (pe_op op_mul (pv 7) (pv 8))))) (pss_cons (ps_setC (i := 9) nd rfl (Or.inl rfl) (g := (gName 0)) (tc := tYes) (te := (tLst tNil)) (own := ["_law_state"]) (fr := ([] : List Str)) (idx := []) rfl (by show CompScope _ _ _ (defScope s_law_calm); exact (.of rfl (by decide +kernel))) (pi_range1 rfl B.range_ (pa_cons (pv 7) pa_nil)) (λ _ _ _ _ _ => (pg_name (i := 0) (by show List.Nodup (["_law_state"] : List Str); decide +kernel) rfl (Or.inl rfl) (Or.inr rfl))) (λ _ _ _ _ _ => pts_nil) (λ _ _ _ _ _ => (pe_lst pa_nil)) rfl (hat_of rfl)) (pss_cons (ps_for PassesOwn.never rfl (pi_enum rfl B.enumerate_ (pa_cons (pv 2) pa_nil)) (pg_tup rfl (pgs_cons (pg_name (i := 10) nd rfl (Or.inl rfl)) (pgs_cons (pg_name (i := 11) nd rfl (Or.inl rfl)) pgs_nil))) hR2) (pss_one (ps_ret (pe_tup (pa_cons (pv 9) (pa_cons (pe_comp (g := (gName 0)) (tc := (tTest (tOp rEq (tCall spDraw [] E0 (tCons (tVar 1) (tCons (tC (.int 2)) tNil))) (tC (.int 0))))) (te := (tVar 0)) (own := ["_law_state"]) (fr := ["_law_flow_here"]) (idx := [4]) rfl (by show CompScope _ _ _ (defScope s_law_calm); exact (.of rfl (by decide +kernel))) (pi_range1 rfl B.range_ (pa_cons (pv 7) pa_nil)) (λ _ _ _ _ _ => (pg_name (i := 0) (by show List.Nodup (["_law_state","_law_flow_here"] : List Str); decide +kernel) rfl (Or.inl rfl) (Or.inr rfl))) (λ _ _ _ _ _ => pts_one (pt_cmpR op_eq (pe_call G__law_draw.ok hr rfl G__law_draw.at_ G__law_draw.kp G__law_draw.bn .nil pass0 (pa_cons (pv 1) (pa_cons pe_int pa_nil))) pe_int (nomark _))) (λ _ _ _ _ _ => (pv 0)) rfl (hat_of rfl)) pa_nil)))))))))))),?_⟩
 try dsimp only [cxOf,Cx.nox,Cx.wish]
 refine lats8 ?_
 intro D0 σ0 U8 U7 U6 U5 U4 U3 U2
 have l6 := hG.len
 refine ⟨_,rfl,_,rfl,z,ns,1,rfl,hS,h63,by decide,by decide,λ a o2 ha hF => ?_⟩
 have x1 : Same H (upd H a o2) := sm_new ha
 generalize upd H a o2 = H1 at hF x1 ⊢
 refine ⟨_,rfl,L,rs,rfl,hL.same x1,by omega,λ r hr' => ⟨by have := (hG.row r hr').2.1; omega,(hG.row r hr').2.2⟩,λ e ds H2 _ dn _ dm he x2 ke => ?_⟩
 have f2 := Same.flow x2 hF
 have ne : e ≠ a := ne_flow he hF
 have d4 : ds.length <= 4 := by
  obtain ⟨fs,h4,hin⟩ := hG.few
  rcases Nat.lt_or_ge fs.length ds.length with h | h
  . obtain ⟨c,h1,h2⟩ := pig fs ds dn h;obtain ⟨r,a',b'⟩ := (dm c).mp h1;exact absurd (hin r a' c b') h2
  . omega
 refine ⟨_,rfl,_,rfl,_,rfl,a,e,ds,rfl,f2,ke,ne,d4,λ M ms H3 ml mr mp nM hM0 f3 x3 kM => ?_⟩
 have hm : MsOk ms := ⟨λ z => by rw [z] at ml; simp at ml,by omega,mr,mp⟩
 have mpos : ∀ m ∈ ms,0 < m := λ m h => by have := mr m h; omega
 have e3 : ∀ {b o},H b = some o -> H3 b = some o := λ {b o} h => x3 _ _ (ne_of_none h ha) (x2 _ _ (x1 _ _ h))
 have ke3 := x3 _ _ ne ke
 have p0 := prod_pos mpos
 refine ⟨_,rfl,M,rfl,⟨_,SqL.of kM⟩,for_list (xs := ms.map V.int) (λ i σ H' => ∃ v8 : Option V,σ = [some (.ref z),some (.int 1),some (.ref L),some (.int 12),some (.ref a),some (.ref e),some (.ref M),some (.int (prodG (ms.take i))),v8,none,none,none,none,none,none,none,none,none,none,none,none,none] /\ H' = H3) ?_ ?_ ?_ ?_⟩
 . exact ⟨none,rfl,rfl⟩
 . rintro i σ H4 _ ⟨_,_,rfl⟩;exact SqL.of kM
 . rintro i y σ H4 hy ⟨v8,rfl,rfl⟩;rw [List.getElem?_map] at hy;obtain ⟨m,hm',rfl⟩ := Option.map_eq_some_iff.mp hy;have hmm := mr m (List.mem_of_getElem? hm');refine ⟨_,rfl,_,rfl,_,_,rfl,rfl,.inr (by omega),some (.int m),?_,rfl⟩;rw [take_snoc hm',prod_snoc]; rfl
 rintro σ H4 ⟨v8,rfl,rfl⟩
 rw [List.length_map,List.take_length]
 refine ⟨_,rfl,_,rfl,by omega,by omega,λ T hT => empties (n := (prodG ms).toNat) (by omega) hT λ us H5 ul und hu nTu x5 kT => ?_⟩
 obtain ⟨ts,hLt,hTs⟩ := id hL
 have ma : M ≠ a := nM
 have hM3 := x5 _ _ kM
 have he3 := x5 _ _ ke3
 have hLt5 := x5 _ _ (e3 hLt)
 have fresh : ∀ {b o},H4 b = some o -> b ∉ us := λ {b o} h hb => by rw [(hu b hb).1] at h; cases h
 have ln : (us.length : Int) = prodG ms := by rw [ul]; omega
 have fa5 := Same.flow x5 f3
 obtain ⟨_,_,_,ea,_⟩ := id f3
 have na : a ∉ us := fresh ea
 have tlen := Paired.length hTs
 refine ⟨_,rfl,L,rfl,⟨_,SqL.of hLt5⟩,for_enum (xs := ts.map V.ref) (λ i σ H' => ∃ (v10 v11 v12 v13 v14 v15 v16 v17 v18 v19 v20 v21 : Option V) (acts : List AD),σ = [some (.ref z),some (.int 1),some (.ref L),some (.int 12),some (.ref a),some (.ref e),some (.ref M),some (.int (prodG ms)),v8,some (.ref T),v10,v11,v12,v13,v14,v15,v16,v17,v18,v19,v20,v21] /\ acts.length = i /\ (∀ (j : Nat) a r,acts[j]? = some a -> rs[j]? = some r -> OkA ms a /\ a.pl = r.2.map ds.idxOf) /\ (∀ (j : Nat) (u : Addr),us[j]? = some u -> H' u = some (.lst ((acts.map λ a => ledG ms a (j : Int)).map V.int))) /\ ButL us H5 H') ?_ ?_ ?_ ?_⟩
 . exact ⟨_,_,_,_,_,_,_,_,_,_,_,_,[],rfl,rfl,(λ j a r h => by simp at h),(λ j u hj => (hu u (List.mem_of_getElem? hj)).2),ButL.refl us H5⟩
 . rintro i σ H6 _ ⟨_,_,_,_,_,_,_,_,_,_,_,_,acts,_,_,_,_,b6⟩;exact SqL.of (b6 _ _ (fresh (e3 hLt)) hLt5)
 . rintro i y σ H6 tt hy htt ⟨v10,v11,v12,v13,v14,v15,v16,v17,v18,v19,v20,v21,acts,rfl,al,ha6,hr6,b6⟩;rw [List.getElem?_map] at hy;obtain ⟨p,hp,rfl⟩ := Option.map_eq_some_iff.mp hy;obtain ⟨r,hri,d,hpd,hdd⟩ := hTs.get hp;have y7 : Same H6 (upd H6 tt (.tup [.int (i : Int),.ref p])) := sm_new htt;have kt : upd H6 tt (.tup [.int (i : Int),.ref p]) tt = some (.tup [.int (i : Int),.ref p]) := upd_same;generalize upd H6 tt (.tup [.int (i : Int),.ref p]) = H7 at y7 kt ⊢;have b7 : ButL us H5 H7 := b6.trans (.of y7);have k7 : ∀ {b o},H4 b = some o -> H7 b = some o := λ {b o} h => b7 _ _ (fresh h) (x5 _ _ h);have hm' := hG.row r (List.mem_of_getElem? hri);have hil := (List.getElem?_eq_some_iff.mp hri).1;refine ⟨tt,_,rfl,SqT.of kt,rfl,_,_,rfl,_,_,rfl,rfl,?_⟩;have hLI : LIn K ns ds ms us (λ j => acts.map λ a => ledG ms a (j : Int)) z e M T H7 := by
    refine ⟨λ H' b' => ?_,h63,k7 ke3,k7 kM,b7 _ _ nTu kT,λ j u hj => y7 _ _ (hr6 j u hj),fresh ke3,fresh kM,nTu,und,ln,d4,ml,dn⟩
    rcases hS with (h | ⟨o,h⟩) | h
    . exact .inl (.inl (b' _ _ (fresh (e3 h)) (k7 (e3 h))))
    . exact .inl (.inr ⟨o,b' _ _ (fresh (e3 h)) (k7 (e3 h))⟩)
    . exact .inr h
   refine hT2 _ _ _ _ _ _ _ _ _ _ _ _ _ _ _ ns ds ms us _ z e M T p d r.1 r.2 1 i H7 hLI hm (λ j => by rw [List.length_map,al]; omega) (by decide) (by omega) (k7 (e3 hpd)) (k7 (e3 hdd)) (λ d' h' => (dm d').mpr ⟨r,List.mem_of_getElem? hri,h'⟩) hm'.2.2 hm'.2.1 λ ac v12 v13 v14 v15 v16 v17 v18 v19 v20 v21 H8 oac pac b8 k8 => ?_;refine ⟨_,_,_,_,_,_,_,_,_,_,_,_,acts ++ [ac],rfl,by rw [List.length_append,al]; rfl,λ j a' r' h1 h2 => ?_,λ j u hj => ?_,b7.trans b8⟩
   . rcases Nat.lt_or_ge j acts.length with c | c
     . rw [List.getElem?_append_left c] at h1;exact ha6 j a' r' h1 h2
     . rw [List.getElem?_append_right c] at h1;have hj0 : j - acts.length = 0 := by
        have := (List.getElem?_eq_some_iff.mp h1).1;rw [List.length_singleton] at this; omega
       rw [hj0] at h1;cases Option.some.inj h1;have : j = i := by omega
       subst this;cases Option.some.inj (h2.symm.trans hri);exact ⟨oac,pac⟩
   . have ea : (acts ++ [ac]).map (λ a => ledG ms a (j : Int)) = acts.map (λ a => ledG ms a (j : Int)) ++ [ledG ms ac (j : Int)] := by rw [List.map_append]; rfl
     rw [ea]; exact k8 j u hj
 . rintro σ H6 ⟨v10,v11,v12,v13,v14,v15,v16,v17,v18,v19,v20,v21,acts,rfl,al,ha6,hr6,b6⟩;rw [List.length_map,tlen] at al;have k6 : ∀ {b o},H4 b = some o -> H6 b = some o := λ {b o} h => b6 _ _ (fresh h) (x5 _ _ h);have f6 : FlowAt H6 a := by
    obtain ⟨u1,u2,u3,e1,e2⟩ := f3;exact ⟨u1,u2,u3,k6 e1,e2⟩
   refine ⟨_,rfl,_,rfl,_,rfl,by omega,by omega,λ G hGn => goods (n := (prodG ms).toNat) (by omega) hGn f6 λ gd H7 hgd hgl x7 f7 k7 => ?_⟩;have nGa : G ≠ a := ne_flow hGn f6;refine ⟨tiny (show 2 <= 1000 by decide),λ t ht => ?_⟩;have y8 : Same H7 (upd H7 t (.tup [.ref T,.ref G])) := sm_new ht;have kt : upd H7 t (.tup [.ref T,.ref G]) t = some (.tup [.ref T,.ref G]) := upd_same;generalize upd H7 t (.tup [.ref T,.ref G]) = H8 at y8 kt ⊢;have CG := calm_of mpos al (λ r hr' d' h' => (dm d').mpr ⟨r,hr',h'⟩) ha6;have tl : (tabG ms acts (prodG ms).toNat).length = (prodG ms).toNat := by unfold tabG; rw [List.length_map,List.length_range]
   refine q t T G us (tabG ms acts (prodG ms).toNat) gd H8 (λ b o h => y8 _ _ (x7 _ _ (ne_of_none h ha) (k6 (e3 h)))) kt ?_ (y8 _ _ k7) (λ x hx => by rw [tl]; have := hgd x hx; omega) (by omega) (by omega) CG (λ u hu' => ?_)
   rotate_left
   . cases e : H u with
     | none => rfl
     | some o =>
      have e4 := e3 e
      rcases List.mem_cons.mp hu' with z | hu'
      . rw [z,hT] at e4; cases e4
      rcases List.mem_cons.mp hu' with z | hu'
      . rw [z] at e4; have := k6 e4; rw [hGn] at this; cases this
      . rw [(hu u hu').1] at e4; cases e4
   have nTa : T ≠ a := λ z => by rw [z,ea] at hT; cases hT
   refine ⟨y8 _ _ (x7 _ _ nTa (b6 _ _ nTu kT)),?_,λ r hr' => ?_,by omega⟩
   . refine paired_mk (by rw [tl,ul]) λ j u r hj hr' => ?_;have hr2 : r = acts.map λ a => ledG ms a (j : Int) := by
      unfold tabG at hr';rw [List.getElem?_map] at hr';obtain ⟨j',hj',rfl⟩ := Option.map_eq_some_iff.mp hr';have := List.getElem?_eq_some_iff.mp hj';obtain ⟨h1,h2⟩ := this;rw [List.getElem_range] at h2;rw [h2]
     rw [hr2];exact y8 _ _ (x7 _ _ (λ z => na (z ▸ List.mem_of_getElem? hj)) (hr6 j u hj))
   . have := CG.gm.len r hr';rw [this,List.length_map]
abbrev s_law_row : Stmt := top 31
abbrev s_law_group : Stmt := top 37
theorem fsts {D L : Addr} {Q : VK} {H1 : Hp} {rs : List Row} (hl : rs.length <= 60) (hD : H1 D = none) (hL : RowsAt H1 L rs) (hdn : ∀ H',Same H1 H' -> H' D = some (.lst ((rs.map (·.1)).map V.str)) -> Q (.ref D) H') :
 CompLoop (Itl K L) D (gName 0) tYes (tOp (rIxT K) (tVar 0) (tC (.int 0))) Q [none] H1 := by
 obtain ⟨ts,hT,hR⟩ := hL
 have tl := Paired.length hR
 refine comp_list (xs := ts.map V.ref) (λ i ys σ H => ∃ v : Option V,ys = ((rs.take i).map (·.1)).map V.str /\ σ = [v] /\ Same H1 H) ?_ (by rw [List.length_map]; omega) ?_ ?_ ?_ ?_
 . exact ⟨none,rfl,rfl,sm_new hD⟩
 . rintro i ys σ H ⟨v,rfl,_⟩;rw [List.length_map,List.length_map,List.length_take]; exact Nat.min_le_left _ _
 . rintro i ys σ H ⟨v,_,_,x⟩;exact SqL.of (x _ _ hT)
 . rintro i y ys σ H hy hl2 ⟨v,rfl,rfl,x⟩;rw [List.getElem?_map] at hy;obtain ⟨t,ht,rfl⟩ := Option.map_eq_some_iff.mp hy;obtain ⟨r,hr,d,h1,_⟩ := hR.get ht;refine ⟨_,rfl,t,_,_,_,rfl,rfl,SqT.of (x _ _ h1),atI_nat (j := 0) rfl,hl2,some (.ref t),?_,rfl,x.at hD⟩;rw [take_snoc hr,List.map_append,List.map_append]; rfl
 . rintro ys σ H hl2 ⟨v,rfl,_,x⟩;rw [List.length_map,tl,List.take_length] at hl2;exact hdn H x hl2
def spRowT (K : W.Frag) : Sp := λ vs H Q _ => ∃ (z L : Addr) (ns : List Int) (rs : List Row) (n : Nat),vs = [.ref z,.int 9,.ref L,.int (n : Int)] /\ SqL K H z (ns.map V.int) /\ ns.length <= 63 /\ RowsAt H L rs /\ Good rs /\ n <= 20 /\
 ∀ (R : Addr) (row : List Str) (H' : Hp),H R = none -> Same H H' -> row.length = n -> (∀ l ∈ row,l ∈ rs.map (·.1)) -> H' R = some (.lst (row.map V.str)) -> Q (.ref R) H'
theorem drawL {D z D0 : Addr} {Q : VK} {H1 : Hp} {n : Nat} {ns : List Int} {ls : List Str} (hn : n <= 20) (hS : SqL K H1 z (ns.map V.int)) (h63 : ns.length <= 63) (h0 : H1 D0 = some (.lst (ls.map V.str))) (hne : ls ≠ []) (h60 : ls.length <= 60) (hD : H1 D = none) (hdn : ∀ (row : List Str) (H' : Hp),Same H1 H' -> row.length = n -> (∀ l ∈ row,l ∈ ls) -> H' D = some (.lst (row.map V.str)) -> Q (.ref D) H') :
 CompLoop (Itr 0 n) D (gName 0) tYes (tOp (rIxL K) (tVar 1) (tCall spDraw [] E0 (tCons (tCall (spFlow K) [] E0 (tCons (tVar 2) (tCons (tOp (rI0 λ i j => .int (i + j)) (tVar 3) (tVar 0)) tNil))) (tCons (tCB (λ xs H Q => ∃ p ys,xs = [.ref p] /\ (SqL K H p ys \/ SqT K H p ys) /\ Q (.int ys.length) H) (tCons (tVar 1) tNil)) tNil)))) Q [none,some (.ref D0),some (.ref z),some (.int 9)] H1 := by
 have lp := List.length_pos_iff.mpr hne
 refine comp_range (λ i ys σ H => ∃ (row : List Str) (v : Option V),ys = row.map V.str /\ row.length = i /\ (∀ l ∈ row,l ∈ ls) /\ σ = [v,some (.ref D0),some (.ref z),some (.int 9)] /\ Same H1 H) ?_ (by omega) ?_ ?_ ?_
 . exact ⟨[],none,rfl,rfl,(by intro _ z; cases z),rfl,sm_new hD⟩
 . rintro i ys σ H ⟨row,v,rfl,e,_⟩;rw [List.length_map,e]; exact Nat.le_refl _
 . rintro i ys σ H hi hl2 ⟨row,v,rfl,e,hb,rfl,x⟩;rw [Int.zero_add];refine ⟨_,rfl,_,rfl,_,rfl,_,rfl,_,_,rfl,rfl,z,ns,_,rfl,x.seq hS,h63,by omega,by omega,λ b o2 hb2 fb => ?_⟩;have x2 : Same H (upd H b o2) := sm_new hb2;have nDb : D ≠ b := ne_of_none hl2 hb2;have n0b : D0 ≠ b := ne_of_none (x _ _ h0) hb2;generalize upd H b o2 = H2 at fb x2 ⊢;refine ⟨_,rfl,D0,_,rfl,.inl (SqL.of (x2 _ _ (x _ _ h0))),b,_,rfl,fb,by rw [List.length_map]; omega,by rw [List.length_map]; omega,λ r H3 r0 r1 f3 x3 => ?_⟩;rw [List.length_map] at r1;obtain ⟨j,rfl⟩ := Int.eq_ofNat_of_zero_le r0;have hj : j < ls.length := by omega
   have gl : ls[j]? = some ls[j] := List.getElem?_eq_getElem hj;have y3 : Same H1 H3 := λ c o h => x3 _ _ (ne_of_none (x _ _ h) hb2) (x2 _ _ (x _ _ h));refine ⟨D0,_,_,_,rfl,rfl,SqL.of (y3 _ _ h0),atI_nat (by rw [List.getElem?_map,gl]; rfl),x3 _ _ nDb (x2 _ _ hl2),row ++ [ls[j]],_,by rw [List.map_append]; rfl,by rw [List.length_append,e]; rfl,λ l hl => ?_,rfl,y3.at hD⟩
   rcases List.mem_append.mp hl with h | h
   . exact hb l h
   . rw [List.mem_singleton.mp h]; exact List.getElem_mem hj
 . rintro ys σ H hl2 ⟨row,v,rfl,e,hb,_,x⟩;exact hdn row H x e hb hl2
theorem sc_row : FnScope ["_law_script","_law_first","_law_rows","_law_many","_law_letters"] ["_law_script","_law_first","_law_rows","_law_many"] (defScope s_law_row) := (.of rfl rfl rfl rfl (by decide +kernel))
theorem ok_row (F : Fun K "_law_row" "_law_row" s_law_row f fd) (B : Bt mg) (G__law_flow : Fn P w K mg base k "_law_flow" ["_law_script","_law_k"] (spFlow K) g gd) (G__law_draw : Fn P w K mg base k "_law_draw" ["_law_flow_here","_law_many"] spDraw g2 gd2) : FnOk P w K mg base CX0 (k + 1) f fd ["_law_script","_law_first","_law_rows","_law_many"] (spRowT K) := by
 refine F.ok sc_row (λ vs H Q E h => ?_) (λ cdv A outer s H vs Q E hr h => ?_)
 . obtain ⟨z,L,ns,rs,n,rfl,_⟩ := h;rfl
 obtain ⟨z,L,ns,rs,n,rfl,hS,h63,hL,hG,hn,q⟩ := h
 have nd := sc_row.nd
 refine ⟨_,(pss_cons (ps_set (i := 4) nd rfl (Or.inr rfl) (pe_comp (g := (gName 0)) (tc := tYes) (te := (tOp (rIxT K) (tVar 0) (tC (.int 0)))) (own := ["_law_pair"]) (fr := ([] : List Str)) (idx := []) rfl (by show CompScope _ _ _ (defScope s_law_row); exact (.of rfl (by decide +kernel))) (pi_list (pv 2)) (λ _ _ _ _ _ => (pg_name (i := 0) (by show List.Nodup (["_law_pair"] : List Str); decide +kernel) rfl (Or.inl rfl) (Or.inr rfl))) (λ _ _ _ _ _ => pts_nil) (λ _ _ _ _ _ => (pe_ix ix_tup (pv 0) pe_int (λ _ _ => rfl))) rfl (hat_of rfl))) (pss_one (ps_ret (pe_comp (g := (gName 0)) (tc := tYes) (te := (tOp (rIxL K) (tVar 1) (tCall spDraw [] E0 (tCons (tCall (spFlow K) [] E0 (tCons (tVar 2) (tCons (tOp (rI0 λ i j => .int (i + j)) (tVar 3) (tVar 0)) tNil))) (tCons (tCB (λ xs H Q => ∃ p ys,xs = [.ref p] /\ (SqL K H p ys \/ SqT K H p ys) /\ Q (.int ys.length) H) (tCons (tVar 1) tNil)) tNil))))) (own := ["_law_k"]) (fr := ["_law_letters","_law_script","_law_first"]) (idx := [4,0,1]) rfl (by show CompScope _ _ _ (defScope s_law_row); exact (.of rfl (by decide +kernel))) (pi_range1 rfl B.range_ (pa_cons (pv 3) pa_nil)) (λ _ _ _ _ _ => (pg_name (i := 0) (by show List.Nodup (["_law_k","_law_letters","_law_script","_law_first"] : List Str); decide +kernel) rfl (Or.inl rfl) (Or.inr rfl))) (λ _ _ _ _ _ => pts_nil) (λ _ _ _ _ _ => (pe_ix ix_list (pv 1) (pe_call G__law_draw.ok hr rfl G__law_draw.at_ G__law_draw.kp G__law_draw.bn .nil pass0 (pa_cons (pe_call G__law_flow.ok hr rfl G__law_flow.at_ G__law_flow.kp G__law_flow.bn .nil pass0 (pa_cons (pv 2) (pa_cons (pe_op op_add (pv 3) (pv 0)) pa_nil))) (pa_cons (pe_callB call_len_seq rfl B.len_ PySem.boot_len (pa_cons (pv 1) pa_nil)) pa_nil))) (λ _ _ => rfl))) rfl (hat_of rfl))))),?_⟩
 try dsimp only [cxOf,Cx.nox,Cx.wish]
 refine lats2 ?_
 intro D0 σ0 U2
 have l6 := hG.len
 obtain ⟨ts,hT,_⟩ := id hL
 have lsn : rs.map (·.1) ≠ [] := λ e => hG.ne (List.map_eq_nil_iff.mp e)
 refine ⟨_,rfl,L,rfl,⟨_,SqL.of hT⟩,λ D0' hD0 => fsts (K := K) (by omega) hD0 hL λ H1 x1 k1 => ?_⟩
 refine ⟨_,rfl,_,rfl,by omega,by omega,λ D hD => ?_⟩
 exact drawL (K := K) (by omega) (x1.seq hS) h63 k1 lsn (by rw [List.length_map]; omega) hD λ row H2 x2 e2 b2 k2 => q D row H2 (x1.free hD) (x1.trans x2) (by omega) b2 k2
def spGroup : Sp := λ vs H Q _ => ∃ (a E : Addr) (ds : List Str),vs = [.ref a,.ref E] /\ FlowAt H a /\ H E = some (.lst (ds.map V.str)) /\ E ≠ a /\ ds ≠ [] /\ ds.length <= 10 /\
 ∀ (G : Addr) (grp : List Str) (H' : Hp),G ≠ a -> H G = none -> Ext a H H' -> FlowAt H' a -> (∀ d ∈ grp,d ∈ ds) -> grp.length <= 10 -> H' G = some (.lst (grp.map V.str)) -> Q (.ref G) H'
theorem grps {D a E : Addr} {Q : VK} {H1 : Hp} {ds : List Str} (h10 : ds.length <= 10) (hE : H1 E = some (.lst (ds.map V.str))) (nE : E ≠ a) (hD : H1 D = none) (hF : FlowAt H1 a) (hdn : ∀ (grp : List Str) (H' : Hp),(∀ d ∈ grp,d ∈ ds) -> grp.length <= 10 -> Ext a H1 H' -> FlowAt H' a -> H' D = some (.lst (grp.map V.str)) -> Q (.ref D) H') :
 CompLoop (Itl K E) D (gName 0) (tTest (tOp rEq (tCall spDraw [] E0 (tCons (tVar 1) (tCons (tC (.int 2)) tNil))) (tC (.int 0)))) (tVar 0) Q [none,some (.ref a)] H1 := by
 have nD := ne_flow hD hF
 refine comp_list (xs := ds.map V.str) (λ i ys σ H => ∃ (grp : List Str) (v : Option V),ys = grp.map V.str /\ grp.length <= i /\ (∀ d ∈ grp,d ∈ ds) /\ σ = [v,some (.ref a)] /\ FlowAt H a /\ Ext a H1 H) ?_ (by rw [List.length_map]; omega) ?_ ?_ ?_ ?_
 . exact ⟨[],none,rfl,Nat.le_refl _,(by intro _ z; cases z),rfl,hF.new hD,Ext.new hD⟩
 . rintro i ys σ H ⟨grp,v,rfl,e,_⟩;rw [List.length_map]; exact e
 . rintro i ys σ H ⟨grp,v,_,_,_,_,_,x⟩;exact SqL.of (x _ _ nE hE)
 . rintro i y ys σ H hy hl2 ⟨grp,v,rfl,e,hb,rfl,fl,x⟩;rw [List.getElem?_map] at hy;obtain ⟨d,hd,rfl⟩ := Option.map_eq_some_iff.mp hy;refine ⟨_,rfl,a,2,rfl,fl,by decide,by decide,λ r H2 r0 r1 f2 x2 => ⟨rfl,_,rfl,?_⟩⟩;refine ite2 (λ c => ?_) (λ c => ?_)
   . refine ⟨_,rfl,x2 _ _ nD hl2,grp ++ [d],_,by rw [List.map_append]; rfl,by rw [List.length_append]; show grp.length + 1 <= _; omega,λ y hy => ?_,rfl,f2.set (Ne.symm nD),(x.trans x2).at hD⟩
     rcases List.mem_append.mp hy with h | h
     . exact hb y h
     . rw [List.mem_singleton.mp h]; exact List.mem_of_getElem? hd
   . exact ⟨x2 _ _ nD hl2,grp,_,rfl,by omega,hb,rfl,f2,x.trans x2⟩
 . rintro ys σ H hl2 ⟨grp,v,rfl,e,hb,_,fl,x⟩;rw [List.length_map] at e;exact hdn grp H hb (by omega) x fl hl2
theorem sc_group : FnScope ["_law_flow_here","_law_desks_here","_law_found"] ["_law_flow_here","_law_desks_here"] (defScope s_law_group) := (.of rfl rfl rfl rfl (by decide +kernel))
theorem ok_group (F : Fun K "_law_group" "_law_group" s_law_group f fd) (B : Bt mg) (G__law_draw : Fn P w K mg base k "_law_draw" ["_law_flow_here","_law_many"] spDraw g2 gd2) : FnOk P w K mg base CX0 (k + 1) f fd ["_law_flow_here","_law_desks_here"] spGroup := by
 refine F.ok sc_group (λ vs H Q E h => ?_) (λ cdv A outer s H vs Q E hr h => ?_)
 . obtain ⟨a,E,ds,rfl,_⟩ := h;rfl
 obtain ⟨a,E,ds,rfl,hF,hE,nE,hne,h10,q⟩ := h
 have nd := sc_group.nd
 refine ⟨_,(pss_cons (ps_setC (i := 2) nd rfl (Or.inl rfl) (g := (gName 0)) (tc := (tTest (tOp rEq (tCall spDraw [] E0 (tCons (tVar 1) (tCons (tC (.int 2)) tNil))) (tC (.int 0))))) (te := (tVar 0)) (own := ["_law_desk"]) (fr := ["_law_flow_here"]) (idx := [0]) rfl (by show CompScope _ _ _ (defScope s_law_group); exact (.of rfl (by decide +kernel))) (pi_list (pv 1)) (λ _ _ _ _ _ => (pg_name (i := 0) (by show List.Nodup (["_law_desk","_law_flow_here"] : List Str); decide +kernel) rfl (Or.inl rfl) (Or.inr rfl))) (λ _ _ _ _ _ => pts_one (pt_cmpR op_eq (pe_call G__law_draw.ok hr rfl G__law_draw.at_ G__law_draw.kp G__law_draw.bn .nil pass0 (pa_cons (pv 1) (pa_cons pe_int pa_nil))) pe_int (nomark _))) (λ _ _ _ _ _ => (pv 0)) rfl (hat_of rfl)) (pss_cons (ps_if (pt_cmpR (op_eqLE (hu0_of hr)) (pv 2) (pe_lst pa_nil) (nomark _)) (pss_one (ps_ret (pe_lst (pa_cons (pe_ix ix_list (pv 1) (pe_call G__law_draw.ok hr rfl G__law_draw.at_ G__law_draw.kp G__law_draw.bn .nil pass0 (pa_cons (pv 0) (pa_cons (pe_callB call_len_seq rfl B.len_ PySem.boot_len (pa_cons (pv 1) pa_nil)) pa_nil))) (λ _ _ => rfl)) pa_nil)))) pss_nil) (pss_one (ps_ret (pv 2))))),?_⟩
 try dsimp only [cxOf,Cx.nox,Cx.wish]
 refine lats3 ?_
 intro D0 σ0 U3 U2
 have lp := List.length_pos_iff.mpr hne
 refine ⟨_,rfl,E,rfl,⟨_,SqL.of hE⟩,λ D hD => grps (K := K) h10 hE nE hD hF λ grp H1 hg gl x1 f1 k1 => ?_⟩
 have nD := ne_flow hD hF
 refine ⟨_,rfl,Nat.zero_le _,λ e1 he1 => ?_⟩
 have y1 : Same H1 (upd H1 e1 (.lst [])) := sm_new he1
 have ke : upd H1 e1 (.lst []) e1 = some (.lst []) := upd_same
 generalize upd H1 e1 (.lst []) = H2 at y1 ke ⊢
 have x2 : Ext a H H2 := x1.trans (Same.ext y1)
 have f2 := Same.flow y1 f1
 refine ⟨D,e1,_,rfl,rfl,SqL.of (y1 _ _ k1),SqL.of ke,_,rfl,?_⟩
 refine ite2 (λ c => ?_) (λ c => ?_)
 . refine ⟨_,rfl,_,rfl,_,rfl,E,_,rfl,.inl (SqL.of (x2 _ _ nE hE)),a,_,rfl,f2,by rw [List.length_map]; omega,by rw [List.length_map]; omega,λ r H3 r0 r1 f3 x3 => ?_⟩;rw [List.length_map] at r1;obtain ⟨j,rfl⟩ := Int.eq_ofNat_of_zero_le r0;have hj : j < ds.length := by omega
   have gl : ds[j]? = some ds[j] := List.getElem?_eq_getElem hj;have x03 : Ext a H H3 := x2.trans x3;refine ⟨E,_,_,_,rfl,rfl,SqL.of (x03 _ _ nE hE),atI_nat (by rw [List.getElem?_map,gl]; rfl),tiny (show 1 <= 1000 by decide),λ G hG => ?_⟩;have nG := ne_flow hG f3;refine q G [ds[j]] _ nG (ext_free x03 nG hG) (x03.trans (Same.ext (sm_new hG))) (Same.flow (sm_new hG) f3) (λ d hd => ?_) (show 1 <= 10 by decide) upd_same;rw [List.mem_singleton.mp hd]; exact List.getElem_mem hj
 . exact ⟨_,rfl,q D grp H2 nD hD x2 f2 hg gl (y1 _ _ k1)⟩
theorem perm_mem {α : Type} [DecidableEq α] : ∀ {a b : List α},a.Nodup -> b.Nodup -> (∀ x,x ∈ a ↔ x ∈ b) -> a.Perm b
 | [],b,_,_,h => by
  cases b with
  | nil => exact .refl _
  | cons y r => exact absurd ((h y).mpr List.mem_cons_self) List.not_mem_nil
 | x :: a,b,ha,hb,h => by
  have hx : x ∈ b := (h x).mp List.mem_cons_self;rw [List.nodup_cons] at ha;refine List.Perm.trans (List.Perm.cons x (perm_mem ha.2 (hb.erase x) λ y => ?_)) (List.perm_cons_erase hx).symm;rw [hb.mem_erase_iff]
  constructor
  . intro hy;exact ⟨λ e => ha.1 (e ▸ hy),(h y).mp (List.mem_cons_of_mem _ hy)⟩
  . rintro ⟨e,hy⟩;exact (List.mem_cons.mp ((h y).mpr hy)).resolve_left e
theorem keys_put {kvs : List (Key × V)} {k : Key} {v : V} : ∀ x,x ∈ (putK kvs k v).map (·.1) ↔ x = k \/ x ∈ kvs.map (·.1) := by
 intro x
 unfold putK
 split
 . rename_i h
   rw [List.any_eq_true] at h;obtain ⟨kv,h1,h2⟩ := h;have e : (kvs.map λ kv => if kv.1 = k then (kv.1,v) else kv).map (·.1) = kvs.map (·.1) := by
    rw [List.map_map]; refine List.map_congr_left λ kv _ => ?_;show (if kv.1 = k then (kv.1,v) else kv).1 = kv.1
    split <;> rfl
   rw [e];refine ⟨.inr,λ z => z.elim (λ z => ?_) id⟩;rw [z,<- of_decide_eq_true h2]; exact List.mem_map_of_mem h1
 . rw [List.map_append,List.mem_append];show _ \/ x ∈ [k] ↔ _;rw [List.mem_singleton]; exact Or.comm
theorem nodup_put {kvs : List (Key × V)} {k : Key} {v : V} (h : (kvs.map (·.1)).Nodup) : ((putK kvs k v).map (·.1)).Nodup := by
 unfold putK
 split
 . have e : (kvs.map λ kv => if kv.1 = k then (kv.1,v) else kv).map (·.1) = kvs.map (·.1) := by
    rw [List.map_map]; refine List.map_congr_left λ kv _ => ?_;show (if kv.1 = k then (kv.1,v) else kv).1 = kv.1
    split <;> rfl
   rw [e]; exact h
 . rename_i hk
   rw [List.map_append];refine List.nodup_append.mpr ⟨h,(List.nodup_cons.mpr ⟨List.not_mem_nil,List.nodup_nil⟩),λ x hx y hy => ?_⟩;rintro rfl;obtain ⟨kv,h1,h2⟩ := List.mem_map.mp hx;refine hk (List.any_eq_true.mpr ⟨kv,h1,decide_eq_true ?_⟩);exact h2.trans (List.mem_singleton.mp hy)
theorem keys_merge : ∀ (more kvs : List (Key × V)) (x : Key),x ∈ (mergeK kvs more).map (·.1) ↔ x ∈ kvs.map (·.1) \/ x ∈ more.map (·.1)
 | [],kvs,x => by show x ∈ kvs.map (·.1) ↔ _; simp
 | p :: r,kvs,x => by
  show x ∈ (mergeK (putK kvs p.1 p.2) r).map (·.1) ↔ _
  rw [keys_merge r,keys_put,List.map_cons,List.mem_cons];exact ⟨λ z => z.elim (λ z => z.elim (λ e => .inr (.inl e)) .inl) λ z => .inr (.inr z),λ z => z.elim (λ z => .inl (.inr z)) λ z => z.elim (λ e => .inl (.inl e)) .inr⟩
theorem nodup_merge : ∀ (more kvs : List (Key × V)),(kvs.map (·.1)).Nodup -> ((mergeK kvs more).map (·.1)).Nodup
 | [],_,h => h
 | p :: r,kvs,h => nodup_merge r (putK kvs p.1 p.2) (nodup_put h)
theorem keys_few {kv : List (Key × V)} {k : Nat} (nd : (kv.map (·.1)).Nodup) (h : ∀ x ∈ kv.map (·.1),∃ j : Nat,x = Sum.inl (j : Int) /\ j <= k) : kv.length <= k + 1 := by
 refine Classical.byContradiction λ hc => ?_
 obtain ⟨c,h1,h2⟩ := pig ((List.range (k + 1)).map λ j : Nat => (Sum.inl (j : Int) : Key)) (kv.map (·.1)) nd (by rw [List.length_map,List.length_map,List.length_range]; omega)
 obtain ⟨j,rfl,hj⟩ := h c h1
 exact h2 (List.mem_map_of_mem (List.mem_range.mpr (by omega)))
def MeetD (H : Hp) (kv : List (Key × V)) (rs : List Row) : Prop := ∀ r ∈ rs,∃ d,valV kv (.inr r.1) = some (.ref d) /\ H d = some (.tup (r.2.map V.str))
theorem MeetD.same {H H' : Hp} {kv : List (Key × V)} {rs : List Row} (h : MeetD H kv rs) (x : Same H H') : MeetD H' kv rs := λ r hr => let ⟨d,a,b⟩ := h r hr; ⟨d,a,x _ _ b⟩
theorem rows_pairs {H : Hp} : ∀ {ts : List Addr} {rs : List Row},RowsT H ts rs -> (rs.map (·.1)).Nodup -> ∃ kvs,PairsAt H ts kvs /\ kvs.map (·.1) = rs.map (·.1) /\ MeetD H (keyed kvs) rs
 | _,_,.nil,_ => ⟨[],.nil,rfl,λ _ z => nomatch z⟩
 | t :: _,r :: rs,.cons h q,hn => by
  rw [List.map_cons,List.nodup_cons] at hn;obtain ⟨kvs,h1,h2,h3⟩ := rows_pairs q hn.2;obtain ⟨d,e1,e2⟩ := h;refine ⟨(r.1,.ref d) :: kvs,.cons e1 h1,by rw [List.map_cons,h2]; rfl,λ r' hr' => ?_⟩
  by_cases e : r'.1 = r.1
  . rcases List.mem_cons.mp hr' with z | z
    . subst z;exact ⟨d,by simp [valV,keyed],e2⟩
    . exact absurd (by rw [<- e]; exact List.mem_map_of_mem z) hn.1
  . rcases List.mem_cons.mp hr' with z | z
    . exact absurd (by rw [z]) e
    . obtain ⟨d',a,b⟩ := h3 r' z;refine ⟨d',?_,b⟩;rw [<- a];have ne : ¬ (Sum.inr r.1 : Key) = Sum.inr r'.1 := λ q => e (Sum.inr.inj q).symm;simp [valV,keyed,ne,Ne.symm e]
theorem MeetD.get {H : Hp} {m : Addr} {kv : List (Key × V)} {rs : List Row} (h : MeetD H kv rs) (hm : H m = some (.dK kv)) {r : Row} (hr : r ∈ rs) : ∃ d,DGet H m (.str r.1) (some (.ref d)) /\ H d = some (.tup (r.2.map V.str)) := by
 obtain ⟨d,a,b⟩ := h r hr
 refine ⟨d,?_,b⟩
 rw [<- a]
 exact DGet.k (k := Sum.inr r.1) hm
def letG (row : List Str) (m : Int) : Str := row.getD (m - 1).toNat default
def ApartG (rs : List Row) (l m : Str) : Prop := ∀ r ∈ rs,∀ r' ∈ rs,r.1 = l -> r'.1 = m -> ∀ d ∈ r.2,d ∉ r'.2
def upG (n : Nat) : List Int := (List.range n).map λ j : Nat => (1 : Int) + j
inductive Exch (rs : List Row) (row : List Str) : List Int -> Prop
 | base : Exch rs row (upG row.length)
 | swap {a b : List Int} {x y : Int} : Exch rs row (a ++ x :: y :: b) -> ApartG rs (letG row x) (letG row y) -> Exch rs row (a ++ y :: x :: b)
theorem Exch.perm {rs : List Row} {row : List Str} {os : List Int} (h : Exch rs row os) : os.Perm (upG row.length) := by
 induction h with
 | base => exact .refl _
 | swap _ _ ih => exact ((List.Perm.swap _ _ _).append_left _).trans ih
theorem Exch.len {rs : List Row} {row : List Str} {os : List Int} (h : Exch rs row os) : os.length = row.length := by rw [h.perm.length_eq,upG,List.length_map,List.length_range]
theorem up_in {n : Nat} {m : Int} : m ∈ upG n ↔ 0 < m /\ m <= n := by
 refine ⟨λ h => ?_,λ ⟨a,b⟩ => List.mem_map.mpr ⟨(m - 1).toNat,List.mem_range.mpr (by omega),by omega⟩⟩
 obtain ⟨j,hj,rfl⟩ := List.mem_map.mp h
 have := List.mem_range.mp hj
 omega
theorem Exch.in_ {rs : List Row} {row : List Str} {os : List Int} (h : Exch rs row os) : ∀ m ∈ os,0 < m /\ m <= row.length := λ m hm => up_in.mp (h.perm.mem_iff.mp hm)
theorem let_in {row : List Str} {m : Int} (h : 0 < m /\ m <= row.length) : letG row m ∈ row := by
 unfold letG
 have hi : (m - 1).toNat < row.length := by omega
 rw [List.getD_eq_getElem?_getD,List.getElem?_eq_getElem hi]
 exact List.getElem_mem _
theorem go_comm {rs : List Row} {tb : List (List Int)} (C : CalmG rs tb) {l m : Str} (hl : l ∈ rs.map (·.1)) (hm : m ∈ rs.map (·.1)) (ha : ApartG rs l m) {s : Int} (h0 : 0 <= s) (h1 : s < tb.length) : goG (rs.map (·.1)) tb (goG (rs.map (·.1)) tb s l) m = goG (rs.map (·.1)) tb (goG (rs.map (·.1)) tb s m) l := by
 have e : ∀ z,z ∈ rs.map (·.1) -> ∃ r,rs[(rs.map (·.1)).idxOf z]? = some r /\ r ∈ rs /\ r.1 = z := λ z hz => by
  have hi := List.idxOf_lt_length_iff.mpr hz;have hi' := hi;rw [List.length_map] at hi';refine ⟨rs[(rs.map (·.1)).idxOf z],List.getElem?_eq_getElem hi',List.getElem_mem hi',?_⟩;have := List.getElem_idxOf hi;rw [List.getElem_map] at this;exact this
 obtain ⟨r,a1,a2,a3⟩ := e l hl
 obtain ⟨r',b1,b2,b3⟩ := e m hm
 exact C.comm _ _ r r' a1 b1 (ha r a2 r' b2 a3 b3) s h0 h1
theorem map_comm {rs : List Row} {tb : List (List Int)} (C : CalmG rs tb) {a b : List Str} {l m : Str} (ha : ∀ z ∈ a,z ∈ rs.map (·.1)) (hl : l ∈ rs.map (·.1)) (hm : m ∈ rs.map (·.1)) (hap : ApartG rs l m) : mapG (rs.map (·.1)) tb (a ++ m :: l :: b) = mapG (rs.map (·.1)) tb (a ++ l :: m :: b) := by
 unfold mapG
 refine List.map_congr_left λ s hs => ?_
 unfold ids at hs
 obtain ⟨j,hj,rfl⟩ := List.mem_map.mp hs
 have hj := List.mem_range.mp hj
 rw [List.foldl_append,List.foldl_append]
 obtain ⟨h0,h1⟩ := run_in C.gm a (j : Int) (by omega) (by omega) ha
 rw [List.foldl_cons,List.foldl_cons,List.foldl_cons,List.foldl_cons,go_comm C hl hm hap h0 h1]
theorem Exch.map {rs : List Row} {row : List Str} {tb : List (List Int)} (C : CalmG rs tb) (hr : ∀ l ∈ row,l ∈ rs.map (·.1)) (p : Int -> Bool) {os : List Int} (h : Exch rs row os) : mapG (rs.map (·.1)) tb (pickG row (os.filter p)) = mapG (rs.map (·.1)) tb (pickG row ((upG row.length).filter p)) := by
 induction h with
 | base => rfl
 | @swap a b x y h ap ih =>
  rw [<- ih];have lt : ∀ m ∈ a ++ x :: y :: b,letG row m ∈ rs.map (·.1) := λ m hm => hr _ (let_in (h.in_ m hm));rw [List.filter_append,List.filter_append];cases hx : p x with
  | false => rw [List.filter_cons,List.filter_cons,List.filter_cons,List.filter_cons,hx]; rfl
  | true =>
   cases hy : p y with
   | false => rw [List.filter_cons,List.filter_cons,List.filter_cons,List.filter_cons,hy]; rfl
   | true =>
    rw [List.filter_cons,List.filter_cons,List.filter_cons,List.filter_cons,hx,hy];show mapG _ tb ((a.filter p ++ y :: x :: b.filter p).map (letG row)) = mapG _ tb ((a.filter p ++ x :: y :: b.filter p).map (letG row));rw [List.map_append,List.map_append];exact map_comm C (λ z hz => by
     obtain ⟨m,hm,rfl⟩ := List.mem_map.mp hz;exact lt m (List.mem_append_left _ (List.mem_filter.mp hm).1)) (lt x (List.mem_append_right _ List.mem_cons_self)) (lt y (List.mem_append_right _ (List.mem_cons_of_mem _ List.mem_cons_self))) ap
theorem up_srt (n : Nat) : (upG n).Pairwise (· < ·) := by
 unfold upG
 rw [List.pairwise_map]
 exact List.Pairwise.imp (λ h => by omega) List.pairwise_lt_range
theorem up_pick {n : Nat} {ns : List Int} (hs : ns.Pairwise (· < ·)) (hi : ∀ m ∈ ns,0 < m /\ m <= n) : (upG n).filter (λ m => decide (m ∈ ns)) = ns := by
 have h1 : ((upG n).filter (λ m => decide (m ∈ ns))).Pairwise (· < ·) := (up_srt n).sublist List.filter_sublist
 have nd : ∀ {l : List Int},l.Pairwise (· < ·) -> l.Nodup := λ h => h.imp λ q => by omega
 refine List.Perm.eq_of_pairwise (le := (· < ·)) (λ a b _ _ x y => by omega) h1 hs (perm_mem (nd h1) (nd hs) λ x => ?_)
 rw [List.mem_filter,decide_eq_true_eq]
 exact ⟨λ h => h.2,λ h => ⟨up_in.mpr (hi x h),h⟩⟩
theorem sel_map {os : List Int} {row : List Str} (p : Int -> Bool) : ∀ (n : Nat),n <= os.length -> pickG (os.map (letG row)) ((((List.range n).filter λ k => p (os.getD k 0)).map λ k : Nat => (k : Int) + 1)) = pickG row ((os.take n).filter p)
 | 0,_ => rfl
 | n + 1,h => by
  have ih := sel_map (os := os) (row := row) p n (by omega);have hn : n < os.length := by omega
  have e : os[n]? = some os[n] := List.getElem?_eq_getElem hn;have eg : os.getD n 0 = os[n] := by rw [List.getD_eq_getElem?_getD,e]; rfl
  rw [List.range_succ,List.filter_append,List.map_append,take_snoc e,List.filter_append];unfold pickG at ih ⊢;rw [List.map_append,List.map_append,ih]
  congr 1
  rw [List.filter_cons,List.filter_cons,eg];cases hp : p os[n] with
  | false => rfl
  | true =>
   show [(os.map (letG row)).getD ((n : Int) + 1 - 1).toNat default] = [letG row os[n]]
   rw [show ((n : Int) + 1 - 1).toNat = n by omega,List.getD_eq_getElem?_getD,List.getElem?_map,e];rfl
abbrev s_law_exchanged : Stmt := top 36
theorem inV_dec {y : Str} {ys : List Str} : inV (.str y) (ys.map V.str) = decide (y ∈ ys) := by rw [Bool.eq_iff_iff,inV_mem,decide_eq_true_eq]
theorem set_two {α : Type} (b : List α) (x y : α) : ∀ a : List α,((a ++ x :: y :: b).set a.length y).set (a.length + 1) x = a ++ y :: x :: b
 | [] => rfl
 | c :: a => congrArg (c :: ·) (set_two b x y a)
theorem split_two {os : List Int} {j : Nat} (h : j + 1 < os.length) : ∃ a b x y,os = a ++ x :: y :: b /\ a.length = j := by
 refine ⟨os.take j,os.drop (j + 2),os[j],os[j + 1],?_,by rw [List.length_take]; omega⟩
 rw [<- List.drop_eq_getElem_cons,<- List.drop_eq_getElem_cons,List.take_append_drop]
theorem ix_nat {n j : Nat} (h : j < n) : ixN n (j : Int) = some j := by
 unfold ixN
 rw [if_pos (by omega),if_pos (by omega),Int.toNat_natCast]
theorem at_let {row : List Str} {m : Int} (h : 0 < m /\ m <= row.length) : atI (row.map V.str) (m - 1) = some (.str (letG row m)) := by
 have hi : (m - 1).toNat < row.length := by omega
 rw [show m - 1 = (((m - 1).toNat : Nat) : Int) by omega]
 refine atI_nat ?_
 unfold letG
 rw [List.getElem?_map,List.getD_eq_getElem?_getD,List.getElem?_eq_getElem hi]
 rfl
theorem row_eq : ∀ {rs : List Row} {r r' : Row},(rs.map (·.1)).Nodup -> r ∈ rs -> r' ∈ rs -> r.1 = r'.1 -> r = r'
 | _ :: rs,r,r',nd,h1,h2,e => by
  rw [List.map_cons,List.nodup_cons] at nd
  rcases List.mem_cons.mp h1 with z | z <;> rcases List.mem_cons.mp h2 with u | u
  . rw [z,u]
  . subst z; exact absurd (by rw [e]; exact List.mem_map_of_mem u) nd.1
  . subst u; exact absurd (by rw [<- e]; exact List.mem_map_of_mem z) nd.1
  . exact row_eq nd.2 z u e
theorem anys {D d1 m R : Addr} {Q : VK} {H1 : Hp} {kv : List (Key × V)} {row r1 : List Str} {rs : List Row} {r2 : Row} {y : Int} (hl : r1.length <= 100) (h1 : H1 d1 = some (.tup (r1.map V.str))) (M : MeetD H1 kv rs) (hm : H1 m = some (.dK kv)) (hr2 : r2 ∈ rs) (hR : H1 R = some (.lst (row.map V.str))) (hy : atI (row.map V.str) (y - 1) = some (.str r2.1)) (hD : H1 D = none)
 (hdn : ∀ H',Same H1 H' -> H' D = some (.lst ((r1.map λ d => decide (d ∈ r2.2)).map V.bl)) -> Q (.ref D) H') :
 CompLoop (Itt K d1) D (gName 0) tYes (tOp (rIn K false) (tVar 0) (tDGet (tVar 1) (tOp (rIxL K) (tVar 2) (tOp (rI0 λ i j => .int (i - j)) (tVar 3) (tC (.int 1)))))) Q [none,some (.ref m),some (.ref R),some (.int y)] H1 := by
 refine comp_tup (xs := r1.map V.str) (λ i ys σ H => ∃ v : Option V,ys = ((r1.take i).map λ d => decide (d ∈ r2.2)).map V.bl /\ σ = [v,some (.ref m),some (.ref R),some (.int y)] /\ Same H1 H) ?_ (by rw [List.length_map]; omega) ?_ ?_ ?_ ?_
 . exact ⟨none,rfl,rfl,sm_new hD⟩
 . rintro i ys σ H ⟨v,rfl,_⟩;rw [List.length_map,List.length_map,List.length_take]; exact Nat.min_le_left _ _
 . rintro i ys σ H ⟨v,_,_,x⟩;exact SqT.of (x _ _ h1)
 . rintro i z ys σ H hz hl2 ⟨v,rfl,rfl,x⟩;rw [List.getElem?_map] at hz;obtain ⟨d,hd,rfl⟩ := Option.map_eq_some_iff.mp hz;obtain ⟨d2,g1,g2⟩ := (M.same x).get (x _ _ hm) hr2;refine ⟨_,rfl,_,rfl,_,rfl,_,rfl,_,_,rfl,rfl,R,_,_,_,rfl,rfl,SqL.of (x _ _ hR),hy,m,_,rfl,g1,d2,_,rfl,.inr (SqT.of g2),rfl,flat_strs _,hl2,some (.str d),?_,rfl,x.at hD⟩;rw [take_snoc hd,List.map_append,List.map_append];show _ ++ [V.bl (inV _ _)] = _;rw [inV_dec]; rfl
 . rintro ys σ H hl2 ⟨v,rfl,_,x⟩;rw [List.length_map,List.take_length] at hl2;exact hdn H x hl2
def spExch : Sp := λ vs H Q _ => ∃ (a L R : Addr) (rs : List Row) (row : List Str),vs = [.ref a,.ref L,.ref R] /\ FlowAt H a /\ RowsAt H L rs /\ Good rs /\ H R = some (.lst (row.map V.str)) /\ R ≠ a /\ row.length <= 20 /\ (∀ l ∈ row,l ∈ rs.map (·.1)) /\
 ∀ (O : Addr) (os : List Int) (H' : Hp),O ≠ a -> H O = none -> Ext a H H' -> FlowAt H' a -> Exch rs row os -> H' O = some (.lst (os.map V.int)) -> Q (.ref O) H'
theorem sc_exch : FnScope ["_law_flow_here","_law_rows","_law_row_here","_law_meet","_law_order","_law_k","_law_at","_law_one","_law_other"] ["_law_flow_here","_law_rows","_law_row_here"] (defScope s_law_exchanged) := (.of rfl rfl rfl rfl (by decide +kernel))
theorem ok_exch (F : Fun K "_law_exchanged" "_law_exchanged" s_law_exchanged f fd) (B : Bt mg) (G__law_draw : Fn P w K mg base k "_law_draw" ["_law_flow_here","_law_many"] spDraw g2 gd2) : FnOk P w K mg base CX0 (k + 1) f fd ["_law_flow_here","_law_rows","_law_row_here"] spExch := by
 refine F.ok sc_exch (λ vs H Q E h => ?_) (λ cdv A outer s H vs Q E hr h => ?_)
 . obtain ⟨a,L,R,rs,row,rfl,_⟩ := h;rfl
 obtain ⟨a,L,R,rs,row,rfl,hF,hL,hG,hR,nR,h20,hin,q⟩ := h
 have nd := sc_exch.nd
 refine ⟨_,(pss_cons (ps_set (i := 3) nd rfl (Or.inr rfl) (pe_callTy (call_dictL rfl) rfl B.dict_ (by decide +kernel) (pa_cons (pv 1) pa_nil))) (pss_cons (ps_set (i := 4) nd rfl (Or.inl rfl) (pe_callTy (call_listR rfl) rfl B.list_ (by decide +kernel) (pa_cons (pe_callTy call_rangeV2 rfl B.range_ (by decide +kernel) (pa_cons pe_int (pa_cons (pe_op op_add (pe_callB call_len_seq rfl B.len_ PySem.boot_len (pa_cons (pv 2) pa_nil)) pe_int) pa_nil))) pa_nil))) (pss_cons (ps_for PassesOwn.never rfl (pi_range1 rfl B.range_ (pa_cons pe_int pa_nil)) (pg_name (i := 5) nd rfl (Or.inl rfl)) (pss_one (ps_if (pt_cmpR op_gt (pe_callB call_len_seq rfl B.len_ PySem.boot_len (pa_cons (pv 4) pa_nil)) pe_int (nomark _)) (pss_cons (ps_set (i := 6) nd rfl (Or.inl rfl) (pe_call G__law_draw.ok hr rfl G__law_draw.at_ G__law_draw.kp G__law_draw.bn .nil pass0 (pa_cons (pv 0) (pa_cons (pe_op op_sub (pe_callB call_len_seq rfl B.len_ PySem.boot_len (pa_cons (pv 4) pa_nil)) pe_int) pa_nil)))) (pss_cons (ps_asg (pe_tup (pa_cons (pe_ix ix_list (pv 4) (pv 6) (λ _ _ => rfl)) (pa_cons (pe_ix ix_list (pv 4) (pe_op op_add (pv 6) pe_int) (λ _ _ => rfl)) pa_nil))) (pg_tup rfl (pgs_cons (pg_name (i := 7) nd rfl (Or.inl rfl)) (pgs_cons (pg_name (i := 8) nd rfl (Or.inr rfl)) pgs_nil)))) (pss_one (ps_if (pt_not (pt_val (pe_callB (call_anyB rfl) rfl B.any_ boot_any (pa_cons (pe_comp (g := (gName 0)) (tc := tYes) (te := (tOp (rIn K false) (tVar 0) (tDGet (tVar 1) (tOp (rIxL K) (tVar 2) (tOp (rI0 λ i j => .int (i - j)) (tVar 3) (tC (.int 1))))))) (own := ["_law_desk"]) (fr := ["_law_meet","_law_row_here","_law_other"]) (idx := [3,2,8]) rfl (by show CompScope _ _ _ (defScope s_law_exchanged); exact (.of rfl (by decide +kernel))) (pi_tup (pe_dget (hu_of hr) (pv 3) (pe_ix ix_list (pv 2) (pe_op op_sub (pv 7) pe_int) (λ _ _ => rfl)) (λ _ _ => rfl))) (λ _ _ _ _ _ => (pg_name (i := 0) (by show List.Nodup (["_law_desk","_law_meet","_law_row_here","_law_other"] : List Str); decide +kernel) rfl (Or.inl rfl) (Or.inr rfl))) (λ _ _ _ _ _ => pts_nil) (λ _ _ _ _ _ => (pe_cmpR op_in_seq (pv 0) (pe_dget (hu_of hr) (pv 1) (pe_ix ix_list (pv 2) (pe_op op_sub (pv 3) pe_int) (λ _ _ => rfl)) (λ _ _ => rfl)) rfl)) rfl (hat_of rfl)) pa_nil)) (λ _ => rfl))) (pss_cons (ps_asg (pv 8) (pg_sub (pv 4) (pv 6) set_list)) (pss_one (ps_asg (pv 7) (pg_sub (pv 4) (pe_op op_add (pv 6) pe_int) set_list)))) pss_nil)))) pss_nil))) (pss_one (ps_ret (pv 4)))))),?_⟩
 try dsimp only [cxOf,Cx.nox,Cx.wish]
 refine lats4 ?_
 intro D0 σ0 U4 U3 U2
 obtain ⟨ts,hT,hRs⟩ := hL
 obtain ⟨kvs,p1,p2,p3⟩ := rows_pairs hRs hG.nd
 refine ⟨_,rfl,L,ts,kvs,rfl,hT,p1,by rw [p2]; exact hG.nd,λ m hm => ?_⟩
 have nm := ne_flow hm hF
 have x1 : Same H (upd H m (.dK (keyed kvs))) := sm_new hm
 have km : upd H m (.dK (keyed kvs)) m = some (.dK (keyed kvs)) := upd_same
 generalize upd H m (.dK (keyed kvs)) = H1 at x1 km ⊢
 refine ⟨_,rfl,R,_,rfl,.inl (SqL.of (x1 _ _ hR)),_,_,rfl,rfl,_,_,rfl,λ p hp => ?_⟩
 have x2 : Same H1 (upd H1 p (.rng 1 (((row.map V.str).length : Int) + 1))) := sm_new hp
 have kp : upd H1 p (.rng 1 (((row.map V.str).length : Int) + 1)) p = some (.rng 1 (((row.map V.str).length : Int) + 1)) := upd_same
 generalize upd H1 p (.rng 1 (((row.map V.str).length : Int) + 1)) = H2 at x2 kp ⊢
 rw [List.length_map] at kp
 refine ⟨p,_,_,rfl,kp,by decide,by decide,by omega,by omega,λ O hO => ?_⟩
 have hO1 := x2.free hO
 have hO0 := x1.free hO1
 have nO := ne_flow hO0 hF
 have e0 : rngV 1 ((row.length : Int) + 1) = (upG row.length).map V.int := by
  rw [rngV,upG,List.map_map,show ((row.length : Int) + 1 - 1).toNat = row.length by omega]; rfl
 have M1 := p3.same x1
 have f1 := Same.flow x1 hF
 refine ⟨20,rfl,by decide,by decide,for_range (n := (20 : Int).toNat) (λ i σ H' => ∃ (os : List Int) (v5 v6 v7 v8 : Option V),σ = [some (.ref a),some (.ref L),some (.ref R),some (.ref m),some (.ref O),v5,v6,v7,v8] /\ Exch rs row os /\ FlowAt H' a /\ Ext a H1 H' /\ H' O = some (.lst (os.map V.int))) ?_ ?_ ?_⟩
 . exact ⟨_,none,none,none,none,rfl,.base,(Same.flow x2 f1).new hO,(Same.ext x2).at hO1,by rw [<- e0]; exact upd_same⟩
 . rintro i σ H3 hi ⟨os,v5,v6,v7,v8,rfl,ex,f3,x3,k3⟩;have hlen := ex.len;refine ⟨_,rfl,O,_,rfl,.inl (SqL.of k3),_,_,rfl,rfl,_,rfl,ite2 (λ c => ?_) (λ c => ?_)⟩
   . rw [List.length_map,decide_eq_true_eq] at c;refine ⟨_,rfl,_,rfl,O,_,rfl,.inl (SqL.of k3),_,_,rfl,rfl,a,_,rfl,f3,by rw [List.length_map]; omega,by rw [List.length_map]; omega,λ r H4 r0 r1 f4 x4 => ?_⟩;rw [List.length_map] at r1;obtain ⟨j,rfl⟩ := Int.eq_ofNat_of_zero_le r0;obtain ⟨la,lb,x,y,rfl,rfl⟩ := split_two (os := os) (j := j) (by omega);have k4 := x4 _ _ nO k3;have y4 : Ext a H1 H4 := x3.trans x4;have a1 : atI ((la ++ x :: y :: lb).map V.int) (la.length : Int) = some (.int x) := at_i (by simp);have a2 : atI ((la ++ x :: y :: lb).map V.int) ((la.length : Int) + 1) = some (.int y) := at_i (j := la.length + 1) (by simp);refine ⟨_,rfl,_,rfl,O,_,_,_,rfl,rfl,SqL.of k4,a1,_,rfl,_,rfl,_,_,rfl,rfl,O,_,_,_,rfl,rfl,SqL.of k4,a2,tiny (show 2 <= 1000 by decide),λ t ht => ⟨t,_,rfl,SqT.of upd_same,rfl,_,_,rfl,_,_,rfl,rfl,?_⟩⟩;have xt : Same H4 (upd H4 t (.tup [.int x,.int y])) := sm_new ht;generalize upd H4 t (.tup [.int x,.int y]) = H4' at xt ⊢;replace k4 := xt _ _ k4;replace y4 : Ext a H1 H4' := y4.trans (Same.ext xt);replace f4 := Same.flow xt f4;clear xt ht;have ix := ex.in_ x (List.mem_append_right _ List.mem_cons_self);have iy := ex.in_ y (List.mem_append_right _ (List.mem_cons_of_mem _ List.mem_cons_self));obtain ⟨r1',hr1,e1⟩ := List.mem_map.mp (hin _ (let_in ix));obtain ⟨r2',hr2,e2⟩ := List.mem_map.mp (hin _ (let_in iy));have k1 := y4 _ _ nm km;have M4 : MeetD H4' (keyed kvs) rs := λ r hr => let ⟨d,u1,u2⟩ := M1 r hr; ⟨d,u1,y4.tk f1 _ _ u2⟩
     have R4 := y4 _ _ nR (x1 _ _ hR);obtain ⟨d1,g1,g2⟩ := M4.get k1 hr1;have b1 := at_let ix;have b2 := at_let iy;rw [<- e1] at b1;rw [<- e2] at b2;refine ⟨_,rfl,_,rfl,_,rfl,_,_,rfl,rfl,R,_,_,_,rfl,rfl,SqL.of R4,b1,m,_,rfl,g1,d1,rfl,⟨_,SqT.of g2⟩,λ D hD => anys (K := K) (by have := (hG.row _ hr1).2.1; omega) g2 M4 k1 hr2 R4 b2 hD λ H5 x5 k5 => ?_⟩;refine ⟨D,_,rfl,SqL.of k5,_,rfl,ite2 (λ c2 => ?_) (λ c2 => ?_)⟩
     . have l5 := x5 _ _ k4;have lx : la.length < ((la ++ x :: y :: lb).map V.int).length := by simp
       refine ⟨_,rfl,_,rfl,_,rfl,O,_,_,_,rfl,rfl,l5,ix_nat lx,?_⟩;refine ⟨_,rfl,_,rfl,_,rfl,_,_,rfl,rfl,O,_,_,la.length + 1,rfl,rfl,upd_same,ix_nat (j := la.length + 1) (by simp),?_⟩;refine ⟨la ++ y :: x :: lb,_,_,_,_,rfl,.swap ex (λ r hr r' hr' z1 z2 d hd hd' => ?_),((Same.flow x5 f4).set (Ne.symm nO)).set (Ne.symm nO),((y4.trans (Same.ext x5)).at hO1).at hO1,?_⟩
       . cases row_eq hG.nd hr hr1 (z1.trans e1.symm);cases row_eq hG.nd hr' hr2 (z2.trans e2.symm);have c3 : ∀ x ∈ r1'.2,x ∉ r2'.2 := by simpa using c2
         exact c3 d hd hd'
       . rw [upd_same];have := set_two (lb.map V.int) (V.int x) (V.int y) (la.map V.int);rw [List.length_map] at this;rw [List.map_append,List.map_append];exact congrArg (λ z => some (HO.lst z)) this
     . exact ⟨_,_,_,_,_,rfl,ex,Same.flow x5 f4,y4.trans (Same.ext x5),x5 _ _ k4⟩
   . exact ⟨os,_,_,_,_,rfl,ex,f3,x3,k3⟩
 . rintro σ H3 ⟨os,v5,v6,v7,v8,rfl,ex,f3,x3,k3⟩;exact ⟨_,rfl,q O os H3 nO hO0 ((Same.ext x1).trans x3) f3 ex k3⟩
abbrev s_law_met : Stmt := top 32
theorem for_dict {a : Addr} {o : Obj} {kvs : List (Key × V)} {g : TG} {tb : TS} {D : Ends} {σ : L2.St} {H : Hp} (Pv : Nat -> L2.St -> Hp -> Prop) (h0 : Pv 0 σ H) (ha : ∀ i σ H,Pv i σ H -> H a = some (.frz o (.dK kvs)))
 (hs : ∀ i kv σ H,kvs[i]? = some kv -> Pv i σ H -> g (kV kv.1) σ H λ σ2 H2 => tb { D with nx := Pv (i + 1),ct := Pv (i + 1),bk := D.nx } σ2 H2) (hd : ∀ σ H,Pv kvs.length σ H -> D.nx σ H) :
 ∃ W : Nat -> Nat -> L2.St -> Hp -> Prop,(∃ m,W 0 m σ H) /\ ∀ i m σ H,W i m σ H ->
  ((Itd a o kvs).stop i H /\ D.nx σ H) \/ ((Itd a o kvs).go i H /\ ∃ N : L2.St -> Hp -> Prop,(∀ σ' H',N σ' H' -> ∃ m',m' < m /\ W (i + 1) m' σ' H') /\ ∀ x H',(Itd a o kvs).yld i H x H' -> g x σ H' λ σ2 H2 => tb { D with nx := N,ct := N,bk := D.nx } σ2 H2) := by
 refine ⟨λ i m σ H => m = kvs.length - i /\ i <= kvs.length /\ Pv i σ H,⟨kvs.length,by simp,Nat.zero_le _,h0⟩,λ i m σ H ⟨em,hi,p⟩ => ?_⟩
 subst em
 by_cases hlt : i < kvs.length
 . refine .inr ⟨⟨ha i σ H p,hlt⟩,Pv (i + 1),λ σ' H' p' => ⟨kvs.length - (i + 1),by omega,rfl,hlt,p'⟩,λ x H' y => ?_⟩;obtain ⟨e1,kv,e2,e3⟩ := y;rw [e1,e3]; exact hs i kv σ H e2 p
 . have e : i = kvs.length := by omega
   subst e;exact .inl ⟨⟨ha _ σ H p,Nat.le_refl _⟩,hd σ H p⟩
theorem val_key {kv : List (Key × V)} {k : Key} {v : V} (h : valV kv k = some v) : k ∈ kv.map (·.1) := by
 unfold valV at h
 obtain ⟨p,hp,_⟩ := Option.map_eq_some_iff.mp h
 have := List.find?_some hp
 rw [<- of_decide_eq_true this]
 exact List.mem_map_of_mem (List.mem_of_find?_eq_some hp)
structure UD (n : Nat) (kv : List (Key × V)) : Prop where
 nd : (kv.map (·.1)).Nodup
 sub : ∀ x ∈ kv.map (·.1),∃ j : Nat,x = Sum.inl (j : Int) /\ j <= n
theorem UD.few {n : Nat} {kv : List (Key × V)} (h : UD n kv) : kv.length <= n + 1 := keys_few h.nd h.sub
theorem UD.mono {n m : Nat} {kv : List (Key × V)} (h : UD n kv) (hm : n <= m) : UD m kv := ⟨h.nd,λ x hx => let ⟨j,a,b⟩ := h.sub x hx; ⟨j,a,Nat.le_trans b hm⟩⟩
theorem UD.one (n : Nat) (v : V) : UD n [(Sum.inl (n : Int),v)] := ⟨List.nodup_cons.mpr ⟨(by intro z; cases z),List.nodup_nil⟩,λ x hx => ⟨n,List.mem_singleton.mp hx,Nat.le_refl _⟩⟩
theorem UD.merge {n : Nat} {kv kv' : List (Key × V)} (h : UD n kv) (h' : UD n kv') : UD n (mergeK kv kv') := ⟨nodup_merge _ _ h.nd,λ x hx => ((keys_merge _ _ x).mp hx).elim (h.sub x) (h'.sub x)⟩
structure DD (all xs : List Key) (p : Int -> Prop) (kv : List (Key × V)) : Prop where
 nd : (kv.map (·.1)).Nodup
 sub : ∀ x ∈ kv.map (·.1),x ∈ all
 val : ∀ x ∈ xs,∃ j : Int,p j /\ valV kv x = some (.int j)
theorem DD.few {all xs : List Key} {p : Int -> Prop} {kv : List (Key × V)} (h : DD all xs p kv) : kv.length <= all.length := by
 refine Classical.byContradiction λ hc => ?_
 obtain ⟨c,h1,h2⟩ := pig all (kv.map (·.1)) h.nd (by rw [List.length_map]; omega)
 exact h2 (h.sub c h1)
theorem DD.put {all xs : List Key} {p : Int -> Prop} {kv : List (Key × V)} {k : Key} {j : Int} (h : DD all xs p kv) (hk : k ∈ all) (hj : p j) : DD all (k :: xs) p (putK kv k (.int j)) := by
 refine ⟨nodup_put h.nd,λ x hx => ?_,λ x hx => ?_⟩
 . rcases (keys_put x).mp hx with z | z
   . rw [z]; exact hk
   . exact h.sub x z
 . rw [valV_put]
   by_cases e : x = k
   . rw [if_pos e]; exact ⟨j,hj,rfl⟩
   . rw [if_neg e]; exact h.val x ((List.mem_cons.mp hx).resolve_left e)
theorem DD.imp {all xs ys : List Key} {p q : Int -> Prop} {kv : List (Key × V)} (h : DD all xs p kv) (hx : ∀ x ∈ ys,x ∈ xs) (hp : ∀ j,p j -> q j) : DD all ys q kv := ⟨h.nd,h.sub,λ x hy => let ⟨j,a,b⟩ := h.val x (hx x hy); ⟨j,hp j a,b⟩⟩
abbrev ksG (ds : List Str) : List Key := ds.map Sum.inr
structure Vw (H : Hp) (U T Z : Addr) (ds : List Str) (n : Nat) : Prop where
 u : ∃ us : List Addr,H U = some (.lst (us.map V.ref)) /\ us.length = n + 1 /\ ∀ a ∈ us,∃ kv,H a = some (.dK kv) /\ UD n kv
 t : ∃ ts : List Addr,H T = some (.lst (ts.map V.ref)) /\ ts.length = n + 1 /\ ∀ a ∈ ts,∃ kv,H a = some (.dK kv) /\ DD (ksG ds) (ksG ds) (λ _ => True) kv
 z : ∃ zs : List Addr,H Z = some (.lst (zs.map V.ref)) /\ zs.length = n + 1 /\ ∀ a ∈ zs,∃ kv,H a = some (.dK kv) /\ DD (ksG ds) (ksG ds) (λ j => 0 <= j /\ j <= n) kv
theorem tmaxs {D d1 T la : Addr} {o : Obj} {Q : VK} {H1 : Hp} {ds r : List Str} {dsk : Str} {ts : List Addr} {kvL : List (Key × V)} {n : Nat} (hl : r.length <= 100) (h1 : H1 d1 = some (.tup (r.map V.str))) (hT : H1 T = some (.lst (ts.map V.ref))) (tl : ts.length = n + 1) (ht : ∀ a ∈ ts,∃ kv,H1 a = some (.dK kv) /\ DD (ksG ds) (ksG ds) (λ _ => True) kv) (hla : H1 la = some (.frz o (.dK kvL))) (dl : DD (ksG ds) (ksG ds) (λ j => 0 <= j /\ j <= n) kvL) (hr : ∀ d ∈ r,d ∈ ds) (hd : dsk ∈ ds) (hD : H1 D = none)
 (hdn : ∀ (ns : List Int) (H' : Hp),ns.length = r.length -> Same H1 H' -> H' D = some (.lst (ns.map V.int)) -> Q (.ref D) H') :
 CompLoop (Itt K d1) D (gName 0) tYes (tDGet (tOp (rIxL K) (tVar 1) (tDGet (tVar 2) (tVar 0))) (tVar 3)) Q [none,some (.ref T),some (.ref la),some (.str dsk)] H1 := by
 refine comp_tup (xs := r.map V.str) (λ i ys σ H => ∃ (ns : List Int) (v : Option V),ys = ns.map V.int /\ ns.length = i /\ σ = [v,some (.ref T),some (.ref la),some (.str dsk)] /\ Same H1 H) ?_ (by rw [List.length_map]; omega) ?_ ?_ ?_ ?_
 . exact ⟨[],none,rfl,rfl,rfl,sm_new hD⟩
 . rintro i ys σ H ⟨ns,v,rfl,e,_⟩;rw [List.length_map,e]; exact Nat.le_refl _
 . rintro i ys σ H ⟨ns,v,_,_,_,x⟩;exact SqT.of (x _ _ h1)
 . rintro i z ys σ H hz hl2 ⟨ns,v,rfl,e,rfl,x⟩;rw [List.getElem?_map] at hz;obtain ⟨d,hdi,rfl⟩ := Option.map_eq_some_iff.mp hz;obtain ⟨j,⟨j0,j1⟩,ej⟩ := dl.val _ (List.mem_map_of_mem (hr d (List.mem_of_getElem? hdi)));obtain ⟨jn,rfl⟩ := Int.eq_ofNat_of_zero_le j0;have lt : jn < ts.length := by omega
   have gt : ts[jn]? = some ts[jn] := List.getElem?_eq_getElem lt;obtain ⟨kvt,k1,k2⟩ := ht _ (List.getElem_mem lt);obtain ⟨i2,_,ei⟩ := k2.val _ (List.mem_map_of_mem hd);exact ⟨_,rfl,_,rfl,_,rfl,la,_,rfl,.inl ⟨kvL,.inr d,.inr ⟨o,x _ _ hla⟩,rfl,ej.symm⟩,T,_,_,_,rfl,rfl,SqL.of (x _ _ hT),atI_nat (by rw [List.getElem?_map,gt]; rfl),_,rfl,_,_,rfl,.inl ⟨kvt,.inr dsk,.inl (x _ _ k1),rfl,ei.symm⟩,hl2,ns ++ [i2],_,by rw [List.map_append]; rfl,by rw [List.length_append,e]; rfl,rfl,x.at hD⟩
 . rintro ys σ H hl2 ⟨ns,v,rfl,e,_,x⟩;rw [List.length_map] at e;exact hdn ns H e x hl2
def Ext3 (U T Z : Addr) (H H' : Hp) : Prop := ∀ b o,b ≠ U -> b ≠ T -> b ≠ Z -> H b = some o -> H' b = some o
def spMet : Sp := λ vs H Q _ => ∃ (m U T Z : Addr) (l : Str) (rs : List Row) (kv : List (Key × V)) (ds : List Str) (n : Nat),vs = [.ref m,.ref U,.ref T,.ref Z,.str l] /\ H m = some (.dK kv) /\ MeetD H kv rs /\ Good rs /\ (∀ r ∈ rs,∀ d ∈ r.2,d ∈ ds) /\ l ∈ rs.map (·.1) /\ Vw H U T Z ds n /\ U ≠ T /\ U ≠ Z /\ T ≠ Z /\ n <= 30 /\ ds.length <= 56 /\
 ∀ H',Ext3 U T Z H H' -> Vw H' U T Z ds (n + 1) -> Q .non H'
theorem sc_met : FnScope ["_law_meet","_law_under","_law_tops","_law_lasts","_law_letter","_law_number","_law_mine","_law_last","_law_top","_law_desk"] ["_law_meet","_law_under","_law_tops","_law_lasts","_law_letter"] (defScope s_law_met) := (.of rfl rfl rfl rfl (by decide +kernel))
theorem ok_met (F : Fun K "_law_met" "_law_met" s_law_met f fd) (B : Bt mg) : FnOk P w K mg base CX0 (k + 1) f fd ["_law_meet","_law_under","_law_tops","_law_lasts","_law_letter"] spMet := by
 refine F.ok sc_met (λ vs H Q E h => ?_) (λ cdv A outer s H vs Q E hr h => ?_)
 . obtain ⟨m,U,T,Z,l,rs,kv,ds,n,rfl,_⟩ := h;rfl
 obtain ⟨m,U,T,Z,l,rs,kv,ds,n,rfl,hm,M,hG,hin,hlm,V0,nUT,nUZ,nTZ,hn,h56,q⟩ := h
 have nd := sc_met.nd
 refine ⟨_,(pss_cons (ps_set (i := 5) nd rfl (Or.inl rfl) (pe_callB call_len_seq rfl B.len_ PySem.boot_len (pa_cons (pv 1) pa_nil))) (pss_cons (ps_set (i := 6) nd rfl (Or.inl rfl) (pe_disp1 (pv 5) pe_bl)) (pss_cons (ps_set (i := 7) nd rfl (Or.inr rfl) (pe_callTy call_dictD rfl B.dict_ (by decide +kernel) (pa_cons (pe_ix ix_list (pv 3) pe_neg1 (λ _ _ => rfl)) pa_nil))) (pss_cons (ps_set (i := 8) nd rfl (Or.inl rfl) pe_dnewK) (pss_cons (ps_thaw (ps_for PassesOwn.never rfl (pi_dict (pv 7)) (pg_name (i := 9) nd rfl (Or.inr rfl)) (pss_one (ps_dput (hu_of hr) (pv 8) (pv 9) (pe_callB (call_maxL rfl) rfl B.max_ (by decide +kernel) (pa_cons (pe_comp (g := (gName 0)) (tc := tYes) (te := (tDGet (tOp (rIxL K) (tVar 1) (tDGet (tVar 2) (tVar 0))) (tVar 3))) (own := ["_law_each"]) (fr := ["_law_tops","_law_last","_law_desk"]) (idx := [2,7,9]) rfl (by show CompScope _ _ _ (defScope s_law_met); exact (.of rfl (by decide +kernel))) (pi_tup (pe_dget (hu_of hr) (pv 0) (pv 4) (λ _ _ => rfl))) (λ _ _ _ _ _ => (pg_name (i := 0) (by show List.Nodup (["_law_each","_law_tops","_law_last","_law_desk"] : List Str); decide +kernel) rfl (Or.inl rfl) (Or.inr rfl))) (λ _ _ _ _ _ => pts_nil) (λ _ _ _ _ _ => (pe_dget (hu_of hr) (pe_ix ix_list (pv 1) (pe_dget (hu_of hr) (pv 2) (pv 0) (λ _ _ => rfl)) (λ _ _ => rfl)) (pv 3) (λ _ _ => rfl))) rfl (hat_of rfl)) pa_nil)) rfl)))) (pss_cons (ps_for PassesOwn.never rfl (pi_tup (pe_dget (hu_of hr) (pv 0) (pv 4) (λ _ _ => rfl))) (pg_name (i := 9) nd rfl (Or.inr rfl)) (pss_cons (ps_expr (pe_bm PySem.F.plainAttrs_dict PySem.F.slot_dict_update PySem.F.type_dict_update mt_updateD (pv 6) (pa_cons (pe_ix ix_list (pv 1) (pe_dget (hu_of hr) (pv 7) (pv 9) (λ _ _ => rfl)) (λ _ _ => rfl)) pa_nil))) (pss_cons (ps_dput (hu_of hr) (pv 8) (pv 9) (pv 5) rfl) (pss_one (ps_dput (hu_of hr) (pv 7) (pv 9) (pv 5) rfl))))) (pss_cons (ps_expr (pe_bm PySem.F.plainAttrs_list PySem.F.slot_list_append PySem.F.type_list_append mt_append (pv 1) (pa_cons (pv 6) pa_nil))) (pss_cons (ps_expr (pe_bm PySem.F.plainAttrs_list PySem.F.slot_list_append PySem.F.type_list_append mt_append (pv 2) (pa_cons (pv 8) pa_nil))) (pss_one (ps_expr (pe_bm PySem.F.plainAttrs_list PySem.F.slot_list_append PySem.F.type_list_append mt_append (pv 3) (pa_cons (pv 7) pa_nil)))))))))))),?_⟩
 try dsimp only [cxOf,Cx.nox,Cx.wish]
 refine lats9 ?_
 intro D0 σ0 U9 U8 U7 U6 U5 U4 U3 U2
 obtain ⟨us,hU,ul,hu⟩ := V0.u
 obtain ⟨ts,hT,tl,ht⟩ := V0.t
 obtain ⟨zs,hZ,zl,hz⟩ := V0.z
 obtain ⟨r,hrr,rfl⟩ := List.mem_map.mp hlm
 obtain ⟨rd1,rd2,rd3⟩ := hG.row r hrr
 have s1000 := line_200
 refine ⟨_,rfl,U,_,rfl,.inl (SqL.of hU),?_⟩
 rw [List.length_map,ul]
 refine λ mi hmi => ⟨_,rfl,upd_same,[(Sum.inl (((n + 1 : Nat)) : Int),.bl true)],rfl,(by show (1 : Nat) <= 15; decide),?_⟩
 rw [upd_upd,show mergeK [] [((Sum.inl (((n + 1 : Nat)) : Int) : Key),V.bl true)] = [(Sum.inl (((n + 1 : Nat)) : Int),V.bl true)] from rfl]
 have x1 : Same H (upd H mi (.dK [(Sum.inl (((n + 1 : Nat)) : Int),V.bl true)])) := sm_new hmi
 have k1 : upd H mi (.dK [(Sum.inl (((n + 1 : Nat)) : Int),V.bl true)]) mi = some (.dK [(Sum.inl (((n + 1 : Nat)) : Int),V.bl true)]) := upd_same
 generalize upd H mi (.dK [(Sum.inl (((n + 1 : Nat)) : Int),V.bl true)]) = H1 at x1 k1 ⊢
 obtain ⟨zi,zz,rfl⟩ : ∃ zi zz,zs = zi ++ [zz] := by
  rcases List.eq_nil_or_concat zs with e | ⟨a,b,e⟩
  . rw [e] at zl; cases zl
  . exact ⟨a,b,by rw [e,List.concat_eq_append]⟩
 obtain ⟨kvL,c1,c2⟩ := hz zz (List.mem_append_right _ List.mem_cons_self)
 refine ⟨_,rfl,Z,_,_,_,rfl,rfl,SqL.of (x1 _ _ hZ),by rw [List.map_append]; exact atI_last _ _,zz,kvL,rfl,Rd.of (x1 _ _ c1),λ la hla => ?_⟩
 have hla0 := x1.free hla
 have nml : mi ≠ la := ne_of_none k1 hla
 intro tp htp
 have ntl : la ≠ tp := ne_of_none upd_same htp
 have htp1 : H1 tp = none := by rw [upd_ne (Ne.symm ntl)] at htp; exact htp
 have htp0 := x1.free htp1
 have nmt : mi ≠ tp := ne_of_none k1 htp1
 refine ⟨_,rfl,la,kvL,rfl,by rw [upd_ne ntl]; exact upd_same,λ o => ?_⟩
 refine for_dict (λ i σ H' => ∃ (kvt : List (Key × V)) (v9 : Option V),σ = [some (.ref m),some (.ref U),some (.ref T),some (.ref Z),some (.str r.1),some (.int ((n + 1 : Nat) : Int)),some (.ref mi),some (.ref la),some (.ref tp),v9] /\ Same H1 H' /\ H' la = some (.frz o (.dK kvL)) /\ H' tp = some (.dK kvt) /\ DD (ksG ds) ((kvL.take i).map (·.1)) (λ _ => True) kvt) ?_ ?_ ?_ ?_
 . refine ⟨[],none,rfl,((sm_new hla).at htp1).at hla,upd_same,by rw [upd_ne (Ne.symm ntl)]; exact upd_same,List.nodup_nil,(by intro _ z; cases z),(by intro _ z; cases z)⟩
 . rintro i σ H2 ⟨kvt,v9,_,_,h,_⟩;exact h
 . rintro i kx σ H2 hk ⟨kvt,v9,rfl,x2,a2,t2,d2⟩;obtain ⟨d,hd,ed⟩ := List.mem_map.mp (c2.sub _ (List.mem_map_of_mem (List.mem_of_getElem? hk)));have x02 := x1.trans x2;obtain ⟨d1,g1,g2⟩ := (M.same x02).get (x02 _ _ hm) hrr;rw [<- ed];refine ⟨_,rfl,_,rfl,m,_,rfl,g1,d1,rfl,⟨_,SqT.of g2⟩,λ D hD => tmaxs (K := K) (by omega) g2 (x02 _ _ hT) tl (λ a ha => let ⟨kk,y1,y2⟩ := ht a ha; ⟨kk,x02 _ _ y1,y2⟩) a2 c2 (hin r hrr) hd hD λ ns H3 nl x3 k3 => ?_⟩;refine ⟨D,ns,rfl,SqL.of k3,λ z => rd1 (List.length_eq_zero_iff.mp (by rw [<- nl,z]; rfl)),λ mx _ _ => ?_⟩;have hf := d2.few;rw [List.length_map] at hf;refine ⟨_,rfl,_,rfl,tp,_,rfl,DPut.k (k := .inr d) (x3 _ _ t2) (by omega),_,_,rfl,(x2.trans x3).at htp1,by rw [upd_ne ntl]; exact x3 _ _ a2,upd_same,?_⟩;refine (d2.put (k := .inr d) (j := mx) (List.mem_map_of_mem hd) True.intro).imp (λ x hx => ?_) (λ _ z => z);rw [take_snoc hk,List.map_append] at hx
   rcases List.mem_append.mp hx with z | z
   . exact List.mem_cons_of_mem _ z
   . rw [List.mem_singleton.mp z];show kx.1 ∈ _;rw [<- ed]; exact List.mem_cons_self
 . rintro σ H2 ⟨kvt,v9,rfl,x2,a2,t2,d2⟩;rw [List.take_length] at d2;refine ⟨la,o,_,a2,(λ o' u' z => by rw [show H la = none from hla0] at z; cases z),?_⟩;have D2 : DD (ksG ds) (ksG ds) (λ _ => True) kvt := d2.imp (λ x hx => let ⟨_,_,e⟩ := c2.val x hx; val_key e) λ _ z => z;have x3 : Same H1 (upd H2 la (.dK kvL)) := x2.at hla;have a3 : upd H2 la (.dK kvL) la = some (.dK kvL) := upd_same;have t3 : upd H2 la (.dK kvL) tp = some (.dK kvt) := by rw [upd_ne (Ne.symm ntl)]; exact t2
   generalize upd H2 la (.dK kvL) = H3 at x3 a3 t3 ⊢;clear a2 t2 x2 d2;have x03 := x1.trans x3;obtain ⟨d1,g1,g2⟩ := (M.same x03).get (x03 _ _ hm) hrr;refine ⟨_,rfl,_,rfl,m,_,rfl,g1,d1,rfl,⟨_,SqT.of g2⟩,for_tup (xs := r.2.map V.str) (λ i σ H' => ∃ (kvm kvl kvt : List (Key × V)) (v9 : Option V),σ = [some (.ref m),some (.ref U),some (.ref T),some (.ref Z),some (.str r.1),some (.int ((n + 1 : Nat) : Int)),some (.ref mi),some (.ref la),some (.ref tp),v9] /\ Same H H' /\ H' d1 = some (.tup (r.2.map V.str)) /\ H' mi = some (.dK kvm) /\ UD (n + 1) kvm /\ H' la = some (.dK kvl) /\ DD (ksG ds) (ksG ds) (λ j => 0 <= j /\ j <= (n + 1 : Nat)) kvl /\ DD (ksG ds) (ksG (r.2.drop i)) (λ j => 0 <= j /\ j <= n) kvl /\ H' tp = some (.dK kvt) /\ DD (ksG ds) (ksG ds) (λ _ => True) kvt) ?_ ?_ ?_ ?_⟩
   . exact ⟨_,kvL,kvt,_,rfl,x03,g2,x3 _ _ k1,UD.one _ _,a3,c2.imp (λ _ z => z) (λ j z => ⟨z.1,by omega⟩),c2.imp (λ x hx => by
      obtain ⟨d,hd,rfl⟩ := List.mem_map.mp hx;exact List.mem_map_of_mem (hin r hrr d (List.mem_of_mem_drop hd))) (λ _ z => z),t3,D2⟩
   . rintro i σ H4 _ ⟨_,_,_,_,_,_,h,_⟩;exact SqT.of h
   . rintro i y σ H4 hy ⟨kvm,kvl,kvt,v9,rfl,x4,g4,m4,u4,a4,d4,e4,t4,f4⟩;rw [List.getElem?_map] at hy;obtain ⟨d,hd,rfl⟩ := Option.map_eq_some_iff.mp hy;have hi := (List.getElem?_eq_some_iff.mp hd).1;have hdd : d ∈ r.2.drop i := by
      rw [List.drop_eq_getElem_cons hi,(List.getElem?_eq_some_iff.mp hd).2]; exact List.mem_cons_self
     obtain ⟨j,⟨j0,j1⟩,ej⟩ := e4.val (.inr d) (List.mem_map_of_mem hdd);obtain ⟨jn,rfl⟩ := Int.eq_ofNat_of_zero_le j0;have lt : jn < us.length := by omega
     have gu : us[jn]? = some us[jn] := List.getElem?_eq_getElem lt;obtain ⟨kvu,y1,y2⟩ := hu _ (List.getElem_mem lt);have nqm : mi ≠ us[jn] := Ne.symm (ne_of_none y1 hmi);have l1 := u4.few;have l2 := y2.few;have l3 := d4.few;have l4 := f4.few;rw [List.length_map] at l3 l4;have hda := hin r hrr d (List.mem_of_getElem? hd);refine ⟨_,rfl,.inr (.inr (.inl ⟨rfl,.inl ⟨_,m4⟩⟩)),_,rfl,_,rfl,_,rfl,la,_,rfl,.inl ⟨kvl,.inr d,.inl a4,rfl,ej.symm⟩,U,_,_,_,rfl,rfl,SqL.of (x4 _ _ hU),atI_nat (by rw [List.getElem?_map,gu]; rfl),mi,_,kvm,kvu,rfl,rfl,m4,x4 _ _ y1,nqm,by omega,?_⟩;refine ⟨_,rfl,_,rfl,_,rfl,tp,_,rfl,DPut.k (k := .inr d) (by rw [upd_ne (Ne.symm nmt)]; exact t4) (by omega),?_⟩;refine ⟨_,rfl,_,rfl,_,rfl,la,_,rfl,DPut.k (k := .inr d) (by rw [upd_ne ntl,upd_ne (Ne.symm nml)]; exact a4) (by omega),?_⟩;refine ⟨_,_,_,_,rfl,((x4.at hmi).at htp0).at hla0,?_,?_,u4.merge (y2.mono (by omega)),upd_same,(d4.put (k := .inr d) (j := ((n + 1 : Nat) : Int)) (List.mem_map_of_mem hda) ⟨by omega,by omega⟩).imp (λ x hx => List.mem_cons_of_mem _ hx) (λ _ z => z),?_,?_,(f4.put (k := .inr d) (j := ((n + 1 : Nat) : Int)) (List.mem_map_of_mem hda) True.intro).imp (λ x hx => List.mem_cons_of_mem _ hx) (λ _ z => z)⟩
     . rw [upd_ne (ne_of g4 a4 (λ z => nomatch z)),upd_ne (ne_of g4 t4 (λ z => nomatch z)),upd_ne (ne_of g4 m4 (λ z => nomatch z))]; exact g4
     . rw [upd_ne nml,upd_ne nmt]; exact upd_same
     . refine ⟨nodup_put e4.nd,(d4.put (k := .inr d) (j := ((n + 1 : Nat) : Int)) (List.mem_map_of_mem hda) ⟨by omega,by omega⟩).sub,λ x hx => ?_⟩;obtain ⟨d',hd',rfl⟩ := List.mem_map.mp hx;have hnd : d' ≠ d := λ z => by
        have := rd3;rw [<- List.take_append_drop (i + 1) r.2,List.nodup_append] at this;exact this.2.2 d (by rw [take_snoc hd]; exact List.mem_append_right _ List.mem_cons_self) d' hd' z.symm
       rw [valV_put,if_neg (λ z => hnd (Sum.inr.inj z))];refine e4.val _ (List.mem_map_of_mem ?_);rw [List.drop_eq_getElem_cons hi];exact List.mem_cons_of_mem _ hd'
     . rw [upd_ne (Ne.symm ntl)]; exact upd_same
   . rintro σ H4 ⟨kvm,kvl,kvt,v9,rfl,x4,g4,m4,u4,a4,d4,e4,t4,f4⟩;have nmU : mi ≠ U := Ne.symm (ne_of_none hU hmi);have nlU : la ≠ U := Ne.symm (ne_of_none hU hla0);have ntU : tp ≠ U := Ne.symm (ne_of_none hU htp0);have nmT : mi ≠ T := Ne.symm (ne_of_none hT hmi);have nlT : la ≠ T := Ne.symm (ne_of_none hT hla0);have ntT : tp ≠ T := Ne.symm (ne_of_none hT htp0);have nmZ : mi ≠ Z := Ne.symm (ne_of_none hZ hmi);have nlZ : la ≠ Z := Ne.symm (ne_of_none hZ hla0);have ntZ : tp ≠ Z := Ne.symm (ne_of_none hZ htp0);have U4 := x4 _ _ hU;have T4 := x4 _ _ hT;have Z4 := x4 _ _ hZ;refine ⟨_,rfl,.inl ⟨rfl,_,SqL.of U4⟩,_,rfl,U,_,_,rfl,rfl,U4,small (by rw [List.length_map]; omega),?_⟩;have T5 : upd H4 U (.lst (us.map V.ref ++ [V.ref mi])) T = some (.lst (ts.map V.ref)) := by rw [upd_ne (Ne.symm nUT)]; exact T4
     refine ⟨_,rfl,.inl ⟨rfl,_,SqL.of T5⟩,_,rfl,T,_,_,rfl,rfl,T5,small (by rw [List.length_map]; omega),?_⟩;have Z5 : upd (upd H4 U (.lst (us.map V.ref ++ [V.ref mi]))) T (.lst (ts.map V.ref ++ [V.ref tp])) Z = some (.lst ((zi ++ [zz]).map V.ref)) := by rw [upd_ne (Ne.symm nTZ),upd_ne (Ne.symm nUZ)]; exact Z4
     refine ⟨_,rfl,.inl ⟨rfl,_,SqL.of Z5⟩,_,rfl,Z,_,_,rfl,rfl,Z5,small (by rw [List.length_map]; omega),?_⟩;have keep : ∀ b o,b ≠ U -> b ≠ T -> b ≠ Z -> H4 b = some o -> upd (upd (upd H4 U (.lst (us.map V.ref ++ [V.ref mi]))) T (.lst (ts.map V.ref ++ [V.ref tp]))) Z (.lst ((zi ++ [zz]).map V.ref ++ [V.ref la])) b = some o := λ b o n1 n2 n3 h => by
      rw [upd_ne n3,upd_ne n2,upd_ne n1]; exact h
     have keepD : ∀ b kk,H4 b = some (.dK kk) -> upd (upd (upd H4 U (.lst (us.map V.ref ++ [V.ref mi]))) T (.lst (ts.map V.ref ++ [V.ref tp]))) Z (.lst ((zi ++ [zz]).map V.ref ++ [V.ref la])) b = some (.dK kk) := λ b kk h => keep b _ (ne_of h U4 (λ z => nomatch z)) (ne_of h T4 (λ z => nomatch z)) (ne_of h Z4 (λ z => nomatch z)) h;refine q _ (λ b o n1 n2 n3 h => keep b o n1 n2 n3 (x4 _ _ h)) ⟨⟨us ++ [mi],?_,by rw [List.length_append,ul]; rfl,λ a ha => ?_⟩,⟨ts ++ [tp],?_,by rw [List.length_append,tl]; rfl,λ a ha => ?_⟩,⟨zi ++ [zz] ++ [la],?_,by rw [List.length_append,zl]; rfl,λ a ha => ?_⟩⟩
     . rw [upd_ne nUZ,upd_ne nUT,upd_same,List.map_append]; rfl
     . rcases List.mem_append.mp ha with z | z
       . obtain ⟨kk,y1,y2⟩ := hu a z;exact ⟨kk,keepD _ _ (x4 _ _ y1),y2.mono (by omega)⟩
       . rw [List.mem_singleton.mp z]; exact ⟨_,keepD _ _ m4,u4⟩
     . rw [upd_ne nTZ,upd_same,List.map_append]; rfl
     . rcases List.mem_append.mp ha with z | z
       . obtain ⟨kk,y1,y2⟩ := ht a z;exact ⟨kk,keepD _ _ (x4 _ _ y1),y2⟩
       . rw [List.mem_singleton.mp z]; exact ⟨_,keepD _ _ t4,f4⟩
     . rw [upd_same,List.map_append (l₁ := zi ++ [zz])]; rfl
     . rcases List.mem_append.mp ha with z | z
       . obtain ⟨kk,y1,y2⟩ := hz a z;exact ⟨kk,keepD _ _ (x4 _ _ y1),y2.imp (λ _ z => z) λ j z => ⟨z.1,by omega⟩⟩
       . rw [List.mem_singleton.mp z]; exact ⟨_,keepD _ _ a4,d4⟩
abbrev s_law_views : Stmt := top 35
theorem Vw.same {H H' : Hp} {U T Z : Addr} {ds : List Str} {n : Nat} (h : Vw H U T Z ds n) (x : Same H H') : Vw H' U T Z ds n := by
 obtain ⟨⟨us,a1,a2,a3⟩,⟨ts,b1,b2,b3⟩,⟨zs,c1,c2,c3⟩⟩ := h
 exact ⟨⟨us,x _ _ a1,a2,λ a h => let ⟨k,y1,y2⟩ := a3 a h; ⟨k,x _ _ y1,y2⟩⟩,⟨ts,x _ _ b1,b2,λ a h => let ⟨k,y1,y2⟩ := b3 a h; ⟨k,x _ _ y1,y2⟩⟩,⟨zs,x _ _ c1,c2,λ a h => let ⟨k,y1,y2⟩ := c3 a h; ⟨k,x _ _ y1,y2⟩⟩⟩
def FdG (H : Hp) (kvf : List (Key × V)) (ds : List Str) (n : Nat) : Prop := ∀ d ∈ ds,∃ a kv,valV kvf (.inr d) = some (.ref a) /\ H a = some (.dK kv) /\ UD n kv
def spViews : Sp := λ vs H Q _ => ∃ (L R : Addr) (rs : List Row) (row : List Str),vs = [.ref L,.ref R] /\ RowsAt H L rs /\ Good rs /\ H R = some (.lst (row.map V.str)) /\ row.length <= 20 /\ (∀ l ∈ row,l ∈ rs.map (·.1)) /\
 ∀ (F : Addr) (kvf : List (Key × V)) (ds : List Str) (H' : Hp),H F = none -> Same H H' -> H' F = some (.dK kvf) -> (∀ r ∈ rs,∀ d ∈ r.2,d ∈ ds) -> FdG H' kvf ds row.length -> Q (.ref F) H'
theorem sc_views : FnScope ["_law_rows","_law_row_here","_law_last","_law_desk","_law_under","_law_tops","_law_lasts","_law_letter","_law_found"] ["_law_rows","_law_row_here"] (defScope s_law_views) := (.of rfl rfl rfl rfl (by decide +kernel))
theorem ok_views (F : Fun K "_law_views" "_law_views" s_law_views f fd) (B : Bt mg) (G__law_desks : Fn P w K mg base k "_law_desks" ["_law_rows"] spDesksOf g gd) (G__law_met : Fn P w K mg base k "_law_met" ["_law_meet","_law_under","_law_tops","_law_lasts","_law_letter"] spMet g2 gd2) : FnOk P w K mg base CX0 (k + 1) f fd ["_law_rows","_law_row_here"] spViews := by
 refine F.ok sc_views (λ vs H Q E h => ?_) (λ cdv A outer s H vs Q E hr h => ?_)
 . obtain ⟨L,R,rs,row,rfl,_⟩ := h;rfl
 obtain ⟨L,R,rs,row,rfl,hL,hG,hR,h20,hin,q⟩ := h
 have nd := sc_views.nd
 refine ⟨_,(pss_cons (ps_set (i := 2) nd rfl (Or.inl rfl) pe_dnewK) (pss_cons (ps_for PassesOwn.never rfl (pi_list (pe_call G__law_desks.ok hr rfl G__law_desks.at_ G__law_desks.kp G__law_desks.bn .nil pass0 (pa_cons (pv 0) pa_nil))) (pg_name (i := 3) nd rfl (Or.inl rfl)) (pss_one (ps_dput (hu_of hr) (pv 2) (pv 3) pe_int rfl))) (pss_cons (ps_set (i := 4) nd rfl (Or.inl rfl) (pe_lst (pa_cons (pe_disp1 pe_int pe_bl) pa_nil))) (pss_cons (ps_set (i := 5) nd rfl (Or.inl rfl) (pe_lst (pa_cons (pe_callTy call_dictD rfl B.dict_ (by decide +kernel) (pa_cons (pv 2) pa_nil)) pa_nil))) (pss_cons (ps_set (i := 6) nd rfl (Or.inl rfl) (pe_lst (pa_cons (pv 2) pa_nil))) (pss_cons (ps_for PassesOwn.never rfl (pi_list (pv 1)) (pg_name (i := 7) nd rfl (Or.inl rfl)) (pss_one (ps_expr (pe_call G__law_met.ok hr rfl G__law_met.at_ G__law_met.kp G__law_met.bn .nil pass0 (pa_cons (pe_callTy (call_dictL rfl) rfl B.dict_ (by decide +kernel) (pa_cons (pv 0) pa_nil)) (pa_cons (pv 4) (pa_cons (pv 5) (pa_cons (pv 6) (pa_cons (pv 7) pa_nil))))))))) (pss_cons (ps_set (i := 8) nd rfl (Or.inl rfl) pe_dnewK) (pss_cons (ps_for PassesOwn.never rfl (pi_dict (pv 2)) (pg_name (i := 3) nd rfl (Or.inl rfl)) (pss_one (ps_dput (hu_of hr) (pv 8) (pv 3) (pe_ix ix_list (pv 4) (pe_dget (hu_of hr) (pe_ix ix_list (pv 6) pe_neg1 (λ _ _ => rfl)) (pv 3) (λ _ _ => rfl)) (λ _ _ => rfl)) rfl))) (pss_one (ps_ret (pv 8))))))))))),?_⟩
 try dsimp only [cxOf,Cx.nox,Cx.wish]
 refine lats9 ?_
 intro D0 σ0 U9 U8 U7 U6 U5 U4 U3 U2
 intro la hla
 have x1 : Same H (upd H la (.dK [])) := sm_new hla
 have k1 : upd H la (.dK []) la = some (.dK []) := upd_same
 generalize upd H la (.dK []) = H1 at x1 k1 ⊢
 have l6 := hG.len
 refine ⟨_,rfl,L,rs,rfl,hL.same x1,by omega,λ r hr => ⟨by have := (hG.row r hr).2.1; omega,(hG.row r hr).2.2⟩,λ E0' ds H2 _ dnd d56 dmem hE x2 k2 => ?_⟩
 have hds : ∀ r ∈ rs,∀ d ∈ r.2,d ∈ ds := λ r hr d hd => (dmem d).mpr ⟨r,hr,hd⟩
 have s1000 := line_200
 refine ⟨E0',rfl,⟨_,SqL.of k2⟩,for_list (xs := ds.map V.str) (λ i σ H' => ∃ (kv : List (Key × V)) (v3 : Option V),σ = [some (.ref L),some (.ref R),some (.ref la),v3,none,none,none,none,none] /\ Same H H' /\ H' E0' = some (.lst (ds.map V.str)) /\ H' la = some (.dK kv) /\ DD (ksG ds) (ksG (ds.take i)) (λ j => 0 <= j /\ j <= (0 : Nat)) kv) ?_ ?_ ?_ ?_⟩
 . exact ⟨[],none,rfl,x1.trans x2,k2,x2 _ _ k1,List.nodup_nil,(by intro _ z; cases z),(by intro _ z; rw [List.take_zero] at z; cases z)⟩
 . rintro i σ H3 _ ⟨kv,v3,_,_,h,_⟩;exact SqL.of h
 . rintro i y σ H3 hy ⟨kv,v3,rfl,x3,e3,a3,d3⟩;rw [List.getElem?_map] at hy;obtain ⟨d,hd,rfl⟩ := Option.map_eq_some_iff.mp hy;have hf := d3.few;rw [List.length_map] at hf;refine ⟨_,rfl,_,rfl,la,_,rfl,DPut.k (k := .inr d) a3 (by omega),_,_,rfl,x3.at hla,by rw [upd_ne (ne_of e3 a3 (λ z => nomatch z))]; exact e3,upd_same,?_⟩;refine (d3.put (k := .inr d) (j := 0) (List.mem_map_of_mem (List.mem_of_getElem? hd)) ⟨by omega,by omega⟩).imp (λ x hx => ?_) (λ _ z => z);obtain ⟨d',hd',rfl⟩ := List.mem_map.mp hx;rw [take_snoc hd] at hd'
   rcases List.mem_append.mp hd' with z | z
   . exact List.mem_cons_of_mem _ (List.mem_map_of_mem z)
   . rw [List.mem_singleton.mp z]; exact List.mem_cons_self
 rintro σ H3 ⟨kv0,v3,rfl,x3,_,a3,d3⟩
 rw [List.length_map,List.take_length] at d3
 refine λ p0 hp0 => ⟨upd_same,[(Sum.inl 0,.bl true)],rfl,(by decide),?_⟩
 rw [upd_upd,show mergeK [] [((Sum.inl 0 : Key),V.bl true)] = [(Sum.inl ((0 : Nat) : Int),V.bl true)] from rfl]
 refine ⟨tiny (show 1 <= 1000 by decide),λ U hU => ?_⟩
 have y1 : Same H3 (upd H3 p0 (.dK [(Sum.inl ((0 : Nat) : Int),V.bl true)])) := sm_new hp0
 have z1 : upd H3 p0 (.dK [(Sum.inl ((0 : Nat) : Int),V.bl true)]) p0 = some (.dK [(Sum.inl ((0 : Nat) : Int),V.bl true)]) := upd_same
 generalize upd H3 p0 (.dK [(Sum.inl ((0 : Nat) : Int),V.bl true)]) = H4 at y1 z1 hU ⊢
 have hU3 := y1.free hU
 have hU0 := x3.free hU3
 have y2 : Same H4 (upd H4 U (.lst [V.ref p0])) := sm_new hU
 have z2 : upd H4 U (.lst [V.ref p0]) U = some (.lst [V.ref p0]) := upd_same
 generalize upd H4 U (.lst [V.ref p0]) = H5 at y2 z2 ⊢
 have a5 := y2 _ _ (y1 _ _ a3)
 refine ⟨_,rfl,la,kv0,rfl,Rd.of a5,λ p1 hp1 => ⟨tiny (show 1 <= 1000 by decide),λ T hT => ?_⟩⟩
 have y3 : Same H5 (upd H5 p1 (.dK kv0)) := sm_new hp1
 have z3 : upd H5 p1 (.dK kv0) p1 = some (.dK kv0) := upd_same
 generalize upd H5 p1 (.dK kv0) = H6 at y3 z3 hT ⊢
 have hT5 := y3.free hT
 have nUT : U ≠ T := ne_of_none z2 hT5
 have hT0 := x3.free (y1.free (y2.free hT5))
 have y4 : Same H6 (upd H6 T (.lst [V.ref p1])) := sm_new hT
 have z4 : upd H6 T (.lst [V.ref p1]) T = some (.lst [V.ref p1]) := upd_same
 generalize upd H6 T (.lst [V.ref p1]) = H7 at y4 z4 ⊢
 refine ⟨_,rfl,tiny (show 1 <= 1000 by decide),λ Z hZ => ?_⟩
 have hZ6 := y4.free hZ
 have hZ5 := y3.free hZ6
 have nUZ : U ≠ Z := ne_of_none z2 hZ5
 have nTZ : T ≠ Z := ne_of_none z4 hZ
 have hZ0 := x3.free (y1.free (y2.free hZ5))
 have y5 : Same H7 (upd H7 Z (.lst [V.ref la])) := sm_new hZ
 have z5 : upd H7 Z (.lst [V.ref la]) Z = some (.lst [V.ref la]) := upd_same
 generalize upd H7 Z (.lst [V.ref la]) = H8 at y5 z5 ⊢
 have y45 := y4.trans y5
 have y35 := y3.trans y45
 have y25 := y2.trans y35
 have x8 : Same H H8 := x3.trans (y1.trans y25)
 have a8 := y35 _ _ a5
 have V8 : Vw H8 U T Z ds 0 := ⟨⟨[p0],y35 _ _ z2,rfl,λ a ha => by rw [List.mem_singleton.mp ha]; exact ⟨_,y25 _ _ z1,UD.one 0 _⟩⟩,⟨[p1],y5 _ _ z4,rfl,λ a ha => by rw [List.mem_singleton.mp ha]; exact ⟨_,y45 _ _ z3,d3.imp (λ _ z => z) λ _ _ => True.intro⟩⟩,⟨[la],z5,rfl,λ a ha => by rw [List.mem_singleton.mp ha]; exact ⟨_,a8,d3⟩⟩⟩
 have nlU : la ≠ U := ne_of_none (y1 _ _ a3) hU
 have nlT : la ≠ T := ne_of_none a5 hT5
 have nlZ : la ≠ Z := ne_of_none a5 hZ5
 clear y1 y2 y3 y4 y5 y25 y35 y45 z1 z2 z3 z4 z5
 obtain ⟨ts,hTs,hRs⟩ := id hL
 obtain ⟨kvs,p1',p2,p3⟩ := rows_pairs hRs hG.nd
 refine ⟨_,rfl,R,rfl,⟨_,SqL.of (x8 _ _ hR)⟩,for_list (xs := row.map V.str) (λ i σ H' => ∃ v7 : Option V,σ = [some (.ref L),some (.ref R),some (.ref la),v3,some (.ref U),some (.ref T),some (.ref Z),v7,none] /\ Vw H' U T Z ds i /\ Same H H' /\ H' la = some (.dK kv0)) ?_ ?_ ?_ ?_⟩
 . exact ⟨none,rfl,V8,x8,a8⟩
 . rintro i σ H9 _ ⟨v7,_,_,x9,_⟩;exact SqL.of (x9 _ _ hR)
 . rintro i y σ H9 hy ⟨v7,rfl,V9,x9,a9⟩;rw [List.getElem?_map] at hy;obtain ⟨l,hl,rfl⟩ := Option.map_eq_some_iff.mp hy;have hi := (List.getElem?_eq_some_iff.mp hl).1;refine ⟨_,rfl,L,ts,kvs,rfl,x9 _ _ hTs,Paired.mapP p1' λ _ _ z => x9 _ _ z,by rw [p2]; exact hG.nd,λ m hm => ?_⟩;refine ⟨_,rfl,_,rfl,_,rfl,_,rfl,m,U,T,Z,l,rs,keyed kvs,ds,i,rfl,upd_same,p3.same (x9.trans (sm_new hm)),hG,hds,hin l (List.mem_of_getElem? hl),V9.same (sm_new hm),nUT,nUZ,nTZ,by omega,d56,λ H' x' V' => ?_⟩;exact ⟨_,rfl,V',λ b o hb => x' b o (ne_of_none hb hU0) (ne_of_none hb hT0) (ne_of_none hb hZ0) ((sm_new hm) _ _ (x9 _ _ hb)),x' _ _ nlU nlT nlZ ((sm_new hm) _ _ a9)⟩
 rintro σ H9 ⟨v7,rfl,V9,x9,a9⟩
 rw [List.length_map] at V9
 intro F hF
 have nFl : la ≠ F := ne_of_none a9 hF
 obtain ⟨us,hUs,ul,hu⟩ := V9.u
 obtain ⟨zs,hZs,zl,hz⟩ := V9.z
 obtain ⟨zi,zz,rfl⟩ : ∃ zi zz,zs = zi ++ [zz] := by
  rcases List.eq_nil_or_concat zs with e | ⟨a,b,e⟩
  . rw [e] at zl; cases zl
  . exact ⟨a,b,by rw [e,List.concat_eq_append]⟩
 obtain ⟨kvZ,c1,c2⟩ := hz zz (List.mem_append_right _ List.mem_cons_self)
 refine ⟨_,rfl,la,kv0,rfl,by rw [upd_ne nFl]; exact a9,λ o => ?_⟩
 refine for_dict (λ i σ H' => ∃ (kvf : List (Key × V)) (v : Option V),σ = [some (.ref L),some (.ref R),some (.ref la),v,some (.ref U),some (.ref T),some (.ref Z),v7,some (.ref F)] /\ (∀ b o,b ≠ la -> H9 b = some o -> H' b = some o) /\ H' la = some (.frz o (.dK kv0)) /\ H' F = some (.dK kvf) /\ (kvf.map (·.1)).Nodup /\ (∀ x ∈ kvf.map (·.1),x ∈ ksG ds) /\ ∀ x ∈ (kv0.take i).map (·.1),∃ a ∈ us,valV kvf x = some (.ref a)) ?_ ?_ ?_ ?_
 . exact ⟨[],v3,rfl,λ b o' nb hb => by rw [upd_ne nb,upd_ne (ne_of_none hb hF)]; exact hb,upd_same,by rw [upd_ne (Ne.symm nFl)]; exact upd_same,List.nodup_nil,(by intro _ z; cases z),(by intro _ z; cases z)⟩
 . rintro i σ H2 ⟨kvf,v,_,_,h,_⟩;exact h
 . rintro i kx σ HA hk ⟨kvf,v,rfl,xA,aA,fA,ndA,suA,vaA⟩;obtain ⟨d,hd,ed⟩ := List.mem_map.mp (d3.sub _ (List.mem_map_of_mem (List.mem_of_getElem? hk)));obtain ⟨j,⟨j0,j1⟩,ej⟩ := c2.val _ (List.mem_map_of_mem hd);obtain ⟨jn,rfl⟩ := Int.eq_ofNat_of_zero_le j0;have lt : jn < us.length := by omega
   have gu : us[jn]? = some us[jn] := List.getElem?_eq_getElem lt;rw [<- ed];have RZ : Rd HA zz (.dK kvZ) := by
    by_cases e : zz = la
    . subst e;rw [a9] at c1;cases c1;exact .inr ⟨o,aA⟩
    . exact .inl (xA _ _ e c1)
   have lf : kvf.length <= ds.length := by
    have := DD.few (p := λ _ => True) (xs := []) ⟨ndA,suA,(by intro _ z; cases z)⟩;rw [List.length_map] at this;exact this
   refine ⟨_,rfl,_,rfl,Z,_,_,_,rfl,rfl,SqL.of (xA _ _ (Ne.symm nlZ) hZs),by rw [List.map_append]; exact atI_last _ _,_,rfl,zz,_,rfl,.inl ⟨kvZ,.inr d,RZ,rfl,ej.symm⟩,U,_,_,_,rfl,rfl,SqL.of (xA _ _ (Ne.symm nlU) hUs),atI_nat (by rw [List.getElem?_map,gu]; rfl),_,rfl,_,rfl,F,_,rfl,DPut.k (k := .inr d) fA (by omega),?_⟩;refine ⟨_,_,rfl,λ b o' nb hb => by rw [upd_ne (ne_of_none hb hF)]; exact xA b o' nb hb,by rw [upd_ne nFl]; exact aA,upd_same,nodup_put ndA,λ x hx => ?_,λ x hx => ?_⟩
   . rcases (keys_put x).mp hx with z | z
     . rw [z]; exact List.mem_map_of_mem hd
     . exact suA x z
   . rw [valV_put]
     by_cases e : x = .inr d
     . rw [if_pos e]; exact ⟨_,List.getElem_mem lt,rfl⟩
     . rw [if_neg e];refine vaA x ?_;rw [take_snoc hk,List.map_append] at hx
       rcases List.mem_append.mp hx with z | z
       . exact z
       . exact absurd ((List.mem_singleton.mp z).trans ed.symm) e
 . rintro σ HA ⟨kvf,v,rfl,xA,aA,fA,ndA,suA,vaA⟩;rw [List.take_length] at vaA;refine ⟨_,rfl,q F kvf ds HA (x9.free hF) (λ b o' hb => xA b o' (ne_of_none hb hla) (x9 _ _ hb)) fA hds λ d hd => ?_⟩;obtain ⟨_,_,e⟩ := d3.val _ (List.mem_map_of_mem hd);obtain ⟨a,ha,ev⟩ := vaA _ (val_key e);obtain ⟨kv,y1,y2⟩ := hu a ha
   by_cases ea : a = la
   . exfalso
     subst ea;rw [a9] at y1;cases y1;obtain ⟨x,hx1,hx2⟩ := y2.sub _ (val_key e);cases hx1
   . exact ⟨a,kv,ev,xA _ _ ea y1,y2⟩
theorem abc_small {c : Nat} (h : c ∈ abc.cps.toList) : c < 4294967296 := by
 revert c
 decide +kernel
theorem nm_small {z : Str} (h : Nm z) : Sm 0 200 (.str z) := Sm.str (λ c hc => abc_small (h.2.2 c hc)) (Nat.le_trans h.2.1 (by decide))
theorem bi_small {x : Int} (h : Bi x) : Sm 0 200 (.int x) := Sm.int (Int.le_trans (by decide) h.1) (Int.le_trans h.2 (by decide)) (by decide)
theorem strs_small {ls : List Str} (h : ∀ z ∈ ls,Nm z) : ∀ d ∈ ls.map PyData.str,Sm 0 200 d := λ d hd => by
 obtain ⟨z,hz,rfl⟩ := List.mem_map.mp hd
 exact nm_small (h z hz)
theorem ints_small {xs : List Int} (h : ∀ z ∈ xs,Bi z) : ∀ d ∈ xs.map PyData.int,Sm 0 200 d := λ d hd => by
 obtain ⟨z,hz,rfl⟩ := List.mem_map.mp hd
 exact bi_small (h z hz)
theorem m4 {p : PyData -> Prop} {a b c d : PyData} (ha : p a) (hb : p b) (hc : p c) (hd : p d) : ∀ x ∈ [a,b,c,d],p x := λ x hx => by
 simp only [List.mem_cons,List.not_mem_nil,or_false] at hx
 rcases hx with rfl | rfl | rfl | rfl
 . exact ha
 . exact hb
 . exact hc
 . exact hd
def keptD (ls : List Str) (tb : List (List Int)) (zs : List Int) (row : List Str) : PyData := .tuple [.tuple (ls.map .str),.tuple (tb.map λ r => .tuple (r.map .int)),.tuple (zs.map .int),.list (row.map .str)]
theorem kept_small {ls : List Str} {tb : List (List Int)} {zs : List Int} {row : List Str} (l6 : ls.length < 26) (t24 : tb.length <= 24) (z24 : zs.length <= 24) (r60 : row.length <= 60) (nm : ∀ z ∈ ls,Nm z) (rin : ∀ z ∈ row,z ∈ ls) (G : GM ls tb) (hz : ∀ z ∈ zs,0 <= z /\ z < tb.length) : Sm 8 1048576 (keptD ls tb zs row) := by
 have bi : ∀ x : Int,0 <= x /\ x < tb.length -> Bi x := λ x h => by rw [Bi]; omega
 refine (Sm.tuple (n := 2) (w := 125000) (m := 500004) (m4 ((Sm.tuple (strs_small nm) (Nat.le_refl _)).mono (by decide) (by rw [List.length_map]; omega)) (Sm.tuple (n := 1) (w := 5200) (m := 125000) (λ d hd => ?_) (by rw [List.length_map]; omega)) ((Sm.tuple (ints_small λ x hx => bi x (hz x hx)) (Nat.le_refl _)).mono (by decide) (by rw [List.length_map]; omega)) ((Sm.list (strs_small λ z hz => nm z (rin z hz)) (Nat.le_refl _)).mono (by decide) (by rw [List.length_map]; omega))) (show 4 * (125000 + 1) <= 500004 by decide)).mono (by decide) (by decide)
 obtain ⟨row,hrow,rfl⟩ := List.mem_map.mp hd
 have := G.len row hrow
 exact Sm.tuple (ints_small λ x hx => bi x (G.ent row hrow x hx)) (by rw [List.length_map]; omega)
theorem rows_data {H : Hp} {us : List Addr} {tb : List (List Int)} (h : Paired (RowU H) us tb) (n : Nat) : Paired (DataN H (n + 1)) (us.map V.ref) (tb.map λ r => .tuple (r.map .int)) := by
 induction h with
 | nil => exact .nil
 | cons r _ ih => exact .cons (DataN.tup r (DataN.ints n _)) ih
theorem TupF.rd {H : Hp} {a : Addr} {xs : List V} (h : TupF H a xs) : Rd H a (.tup xs) := let ⟨o,e,_⟩ := h; .inr ⟨o,e⟩
theorem kept_data {H : Hp} {R tl tt tg tm : Addr} {us : List Addr} {ls : List Str} {tb : List (List Int)} {zs : List Int} {row : List Str} (m2 : TupF H tl (ls.map V.str)) (m3 : H tt = some (.tup (us.map V.ref))) (m4' : Paired (RowU H) us tb) (m5 : H tg = some (.tup (zs.map V.int))) (hR : H R = some (.lst (row.map V.str))) (htm : H tm = none) :
 DataN (upd H tm (.tup [.ref tl,.ref tt,.ref tg,.ref R])) 3 (.ref tm) (keptD ls tb zs row) := by
 have x5 := sm_new (o := .tup [.ref tl,.ref tt,.ref tg,.ref R]) htm
 exact DataN.tup upd_same (.cons (DataN.up (DataN.tupR (TupF.rd (m2.same x5)) (DataN.strs 0 _))) (.cons (DataN.tup (x5 _ _ m3) (rows_data (Paired.mapP m4' λ _ _ z => x5 _ _ z) 0)) (.cons (DataN.up (DataN.tup (x5 _ _ m5) (DataN.ints 0 _))) (.cons (DataN.up (DataN.lst (x5 _ _ hR) (DataN.strs 0 _))) .nil))))
theorem comp_enum {K : W.Frag} {a : Addr} {xs : List V} {g : TG} {tc : TT} {te : TE} {σ0 : L2.St} {H1 : Hp} {D : Addr} {Q : VK} (Pv : Nat -> List V -> L2.St -> Hp -> Prop) (h0 : Pv 0 [] σ0 (upd H1 D (.lst []))) (hn : xs.length <= 100000) (hl : ∀ i ys σ H,Pv i ys σ H -> ys.length <= i)
 (ha : ∀ i ys σ H,Pv i ys σ H -> SqL K H a xs)
 (hs : ∀ i x ys σ H T,xs[i]? = some x -> H D = some (.lst ys) -> H T = none -> Pv i ys σ H -> g (.ref T) σ (upd H T (.tup [.int i,x])) λ σ2 H2 => tc σ2 H2 λ b H3 => if b = true then te σ2 H3 λ v H4 => H4 D = some (.lst ys) /\ Pv (i + 1) (ys ++ [v]) σ2 (upd H4 D (.lst (ys ++ [v]))) else H3 D = some (.lst ys) /\ Pv (i + 1) ys σ2 H3)
 (hd : ∀ ys σ H,H D = some (.lst ys) -> Pv xs.length ys σ H -> Q (.ref D) H) : CompLoop (Ite K a) D g tc te Q σ0 H1 := by
 refine ⟨λ i m ys σ H => m = xs.length - i /\ i <= xs.length /\ Pv i ys σ H,⟨xs.length,by simp,Nat.zero_le _,h0⟩,λ i m ys σ H hD ⟨em,hi,p⟩ => ?_⟩
 subst em
 have q := ha i ys σ H p
 by_cases hlt : i < xs.length
 . have hz : ys.length < sizeLine := by
    have h1 := hl i ys σ H p;have h2 : (100000 : Nat) < sizeLine := by rw [sizeLine_eq]; decide
    omega
   refine .inr ⟨⟨xs,xs[i],q,by simp [hlt]⟩,hz,Pv (i + 1),λ ys' σ' H' p' => ⟨xs.length - (i + 1),by omega,rfl,hlt,p'⟩,λ x H' y => ?_⟩;obtain ⟨T,hT,rfl,y⟩ := y;obtain ⟨x',hx,rfl⟩ := y xs q;exact hs i x' ys σ H T hx hD hT p
 . have e : i = xs.length := by omega
   subst e;exact .inl ⟨⟨xs,q,Nat.le_refl _⟩,hd ys σ H hD p⟩
theorem inI_dec {y : Int} {ys : List Int} : inV (.int y) (ys.map V.int) = decide (y ∈ ys) := by
 rw [Bool.eq_iff_iff,decide_eq_true_eq]
 unfold inV
 rw [List.any_map,List.any_eq_true]
 constructor
 . rintro ⟨x,hx,q⟩;have q' : (x == y) = true := q;have e : x = y := by simpa using q'
   rw [<- e]; exact hx
 . intro h;exact ⟨y,h,show (y == y) = true by simp⟩
theorem flat_ints (ys : List Int) : (ys.map V.int).all flatV = true := by
 rw [List.all_map,List.all_eq_true]; intro _ _; rfl
structure MakeM (P : Program) (w : World) (K : W.Frag) (mg : Str -> Option Value) (base : Heap) (k : Nat) (C CT CB CG : Addr) (g : Addr) (gd : FuncData) : Prop where
 mak : Mk K C g
 mo : MoC K C
 ok : FnOk P w K mg base (CXE P w) k g gd ["self","letters","table","good"] (spInit C CT CB CG)
 bn : Binds K gd ["self","letters","table","good"] []
 at_ : mg "Machine" = some (.ref C)
theorem dup_nodup : ∀ {zs seen : List Str},(seen ++ zs).Nodup -> dupG seen zs = none := by
 intro zs
 induction zs with
 | nil => intro seen _; rfl
 | cons z zs ih =>
  intro seen h;unfold dupG;have h' : (seen ++ [z] ++ zs).Nodup := by rw [List.append_assoc]; exact h
  rw [if_neg (λ hz => by
   have := (List.nodup_append.mp h).2.2 z hz z (List.mem_cons_self ..);exact this rfl)]
  exact ih h'
theorem row_good {n : Int} : ∀ {ls : List Str} {xs : List Int},(∀ x ∈ xs,0 <= x /\ x < n) -> stepRow n ls xs = none := by
 intro ls
 induction ls with
 | nil => intro xs _; rfl
 | cons l ls ih =>
  intro xs h;cases xs with
  | nil => rfl
  | cons x xs =>
   unfold stepRow;obtain ⟨a,b⟩ := h x (List.mem_cons_self ..);rw [if_neg (by rw [badN,decide_eq_true a,decide_eq_true b]; exact Bool.false_ne_true)];exact ih λ y hy => h y (List.mem_cons_of_mem _ hy)
theorem step_good {n : Int} {ls : List Str} : ∀ {tb : List (List Int)} {i : Nat},(∀ r ∈ tb,∀ x ∈ r,0 <= x /\ x < n) -> stepG n ls i tb = none := by
 intro tb
 induction tb with
 | nil => intro i _; rfl
 | cons r tb ih =>
  intro i h;unfold stepG;rw [row_good (h r (List.mem_cons_self ..))];exact ih λ y hy => h y (List.mem_cons_of_mem _ hy)
theorem good_good {n : Int} : ∀ {xs : List Int},(∀ x ∈ xs,0 <= x /\ x < n) -> goodG n xs = none := by
 intro xs
 induction xs with
 | nil => intro _; rfl
 | cons x xs ih =>
  intro h;unfold goodG;obtain ⟨a,b⟩ := h x (List.mem_cons_self ..);rw [if_neg (by rw [badN,decide_eq_true a,decide_eq_true b]; exact Bool.false_ne_true)];exact ih λ y hy => h y (List.mem_cons_of_mem _ hy)
theorem not_due {ls : List Str} {tb : List (List Int)} {gd : List Int} (h1 : ls.Nodup) (h2 : ∀ r ∈ tb,∀ x ∈ r,0 <= x /\ x < tb.length) (h3 : ∀ x ∈ gd,0 <= x /\ x < tb.length) : dueX CT CB CG ls tb gd = none := by
 rw [dueX,dup_nodup (by simpa using h1)]
 simp only [step_good h2,good_good h3]
theorem copies {D t : Addr} {Q : VK} {H1 : Hp} {rs : List Addr} {tb : List (List Int)} {m : Nat} (hD : H1 D = none) (hT : Tb H1 t rs tb m) (hdn : ∀ H' us,Same H1 H' -> H' D = some (.lst (us.map V.ref)) -> Paired (RowI H') us tb -> us.Nodup -> (∀ u ∈ us,H1 u = none) -> D ∉ us -> Q (.ref D) H') :
 CompLoop (Itl K t) D (gName 0) tYes (tCB (λ xs H Q => ∃ p ys,xs = [.ref p] /\ (SqL K H p ys \/ SqT K H p ys) /\ ∀ l,H l = none -> Q (.ref l) (upd H l (.lst ys))) (tCons (tVar 0) tNil)) Q [none] H1 := by
 have hlen := Paired.length hT.rows
 have hf := hT.few
 refine comp_list (xs := rs.map V.ref) (λ i ys σ H => ∃ (v : Option V) (us : List Addr),ys = us.map V.ref /\ σ = [v] /\ Same H1 H /\ Paired (RowI H) us (tb.take i) /\ us.Nodup /\ (∀ u ∈ us,H1 u = none) /\ D ∉ us) ?_ (by rw [List.length_map]; omega) ?_ ?_ ?_ ?_
 . exact ⟨none,[],rfl,rfl,sm_new hD,.nil,List.nodup_nil,(by intro _ z; cases z),(by intro z; cases z)⟩
 . rintro i ys σ H ⟨v,us,rfl,_,_,h,_⟩;have := Paired.length h;rw [List.length_map,this,List.length_take]; omega
 . rintro i ys σ H ⟨v,us,_,_,x,_⟩;exact SqL.of (x _ _ hT.at_)
 . rintro i y ys σ H hy hl2 ⟨v,us,rfl,rfl,x,h,hn,hfr,hDn⟩;rw [List.getElem?_map] at hy;obtain ⟨r,hr',rfl⟩ := Option.map_eq_some_iff.mp hy;obtain ⟨row,hrow,hri⟩ := paired_get hT.rows hr';refine ⟨_,rfl,r,_,rfl,.inl (SqL.of (x _ _ hri)),λ u hu => ?_⟩;have nu : D ≠ u := ne_of_none hl2 hu;have nin : u ∉ us := λ hm => by
    obtain ⟨j,hj⟩ := List.getElem?_of_mem hm;obtain ⟨_,_,z⟩ := paired_get h hj;have z' : H u = _ := z;rw [hu] at z'; cases z'
   refine ⟨by rw [upd_ne nu]; exact hl2,_,us ++ [u],by rw [List.map_append]; rfl,rfl,(x.trans (sm_new hu)).at hD,?_,nodup_snoc hn nin,λ b hb => ?_,λ hb => ?_⟩
   . rw [take_snoc hrow];refine paired_app (paired_on h λ b w hb z => ?_) (.cons ?_ .nil)
     . show upd _ D _ b = _
       rw [upd_ne (show b ≠ D from λ q => hDn (q ▸ hb)),upd_ne (ne_of_none z hu)]; exact z
     . show upd _ D _ u = _
       rw [upd_ne (Ne.symm nu)]; exact upd_same
   . rcases List.mem_append.mp hb with h | h
     . exact hfr b h
     . rw [List.mem_singleton.mp h]; exact x.free hu
   . rcases List.mem_append.mp hb with h | h
     . exact hDn h
     . exact nu (List.mem_singleton.mp h)
 . rintro ys σ H hl2 ⟨v,us,rfl,_,x,h,hn,hfr,hDn⟩;rw [List.length_map,hlen,List.take_length] at h;exact hdn H us x hl2 h hn hfr hDn
theorem pickN {xs : List Int} {lo hi r : Int} (hx : ∀ x ∈ xs,lo <= x /\ x <= hi) (h0 : 0 <= r) (h1 : r < xs.length) : ∃ x : Int,atI (xs.map V.int) r = some (.int x) /\ lo <= x /\ x <= hi := by
 obtain ⟨n,rfl⟩ := Int.eq_ofNat_of_zero_le h0
 have hn : n < xs.length := by omega
 have e : xs[n]? = some xs[n] := List.getElem?_eq_getElem hn
 exact ⟨xs[n],at_i e,hx _ (List.getElem_mem hn)⟩
theorem same_ext {a : Addr} {H0 H H' : Hp} (x : Same H0 H) (na : H0 a = none) (y : Ext a H H') : Same H0 H' := λ b o e => y b o (ne_of_none e na) (x b o e)
theorem FlowAt.ext {H H' : Hp} {a b : Addr} (f : FlowAt H a) (x : Ext b H H') (n : a ≠ b) : FlowAt H' a := by
 obtain ⟨i,j,k,e,r⟩ := f
 exact ⟨i,j,k,x _ _ n e,r⟩
theorem made {Q : Addr -> Hp -> Prop} {H : Hp} {E : XK} {l D p : Addr} {us : List Addr} {ls : List Str} {tb : List (List Int)} {gs : List Int} (hl : H l = some (.lst (ls.map V.str))) (hT : Tb H D us tb ls.length) (hp : H p = some (.lst (gs.map V.int))) (g12 : gs.length <= 12) (hg : ∀ x ∈ gs,0 <= x /\ x < tb.length) (nd : ls.Nodup) (G : GM ls tb) (l60 : ls.length <= 60)
 (hdn : ∀ (x : Addr) (zs : List Int) (H' : Hp),MoAt C H' x ls tb zs -> (∀ z ∈ zs,0 <= z /\ z < tb.length) -> zs.length <= 12 -> Same H H' -> Q x H') (x dx : Addr) (hx : H x = none) (hdx : H dx = none) (ndx : dx ≠ x) : spInit C CT CB CG [.ref x,.ref l,.ref D,.ref p] (upd (upd H dx (.own x)) x (.ins C dx [])) (λ v H2 => v = .non /\ Q x H2) E := by
 have y8 : Same H (upd (upd H dx (.own x)) x (.ins C dx [])) := (sm_new hdx).trans (sm_new (by rw [upd_ne (Ne.symm ndx)]; exact hx))
 have h8 : upd (upd H dx (.own x)) x (.ins C dx []) x = some (.ins C dx []) := upd_same
 generalize upd (upd H dx (.own x)) x (.ins C dx []) = H8 at y8 h8 ⊢
 have ndue : dueX CT CB CG ls tb gs = none := not_due nd G.ent hg
 refine ⟨x,l,D,p,dx,ls,us,tb,gs,rfl,h8,y8 _ _ hl,hT.same y8,l60,y8 _ _ hp,by omega,λ _ H9 zs hM hR x9 => ⟨rfl,?_⟩,λ c fs hn => by rw [ndue] at hn; cases hn⟩
 refine hdn x zs H9 hM (λ z hz => hg z ((hR.mem z).mp hz)) (Nat.le_trans (Nat.le_of_not_lt λ hc => ?_) g12) λ b o e => x9 b o (ne_of_none e hx) (y8 _ _ e)
 obtain ⟨c,h1,h2⟩ := pig gs zs hR.nd hc
 exact h2 ((hR.mem c).mp h1)
theorem nums {D S O : Addr} {Q : VK} {H1 : Hp} {ks : List Int} {kvo : List (Key × V)} (h : ks.length <= 100) (hS : H1 S = some (.lst (ks.map V.int))) (hO : H1 O = some (.dK kvo)) (hD : H1 D = none) (hdn : ∀ H',Same H1 H' -> H' D = some (.lst ((ks.filter λ m => !(valV kvo (.inl m)).isSome).map V.int)) -> Q (.ref D) H') :
 CompLoop (Itl K S) D (gName 0) (tTest (tDNotIn (tVar 0) (tVar 1))) (tVar 0) Q [none,some (.ref O)] H1 := by
 refine comp_list (xs := ks.map V.int) (λ i ys σ H => ∃ v : Option V,ys = ((ks.take i).filter λ m => !(valV kvo (.inl m)).isSome).map V.int /\ σ = [v,some (.ref O)] /\ Same H1 H) ?_ (by rw [List.length_map]; omega) ?_ ?_ ?_ ?_
 . exact ⟨none,rfl,rfl,sm_new hD⟩
 . rintro i ys σ H ⟨v,rfl,_⟩;rw [List.length_map];exact Nat.le_trans (List.length_filter_le _ _) (by rw [List.length_take]; exact Nat.min_le_left _ _)
 . rintro i ys σ H ⟨v,_,_,x⟩;exact SqL.of (x _ _ hS)
 . rintro i y ys σ H hy hl2 ⟨v,rfl,rfl,x⟩;rw [List.getElem?_map] at hy;obtain ⟨m,hm,rfl⟩ := Option.map_eq_some_iff.mp hy;refine ⟨_,rfl,_,rfl,O,_,rfl,DGet.k (k := .inl m) (x _ _ hO),_,rfl,?_⟩;have es : (ks.take (i + 1)).filter (λ m => !(valV kvo (.inl m)).isSome) = (ks.take i).filter (λ m => !(valV kvo (.inl m)).isSome) ++ if (!(valV kvo (.inl m)).isSome) = true then [m] else [] := by
    rw [take_snoc hm,List.filter_append,List.filter_cons,List.filter_nil]
   refine ite2 (λ c => ?_) (λ c => ?_)
   . refine ⟨_,rfl,hl2,some (.int m),?_,rfl,x.at hD⟩;rw [es,if_pos c,List.map_append]; rfl
   . refine ⟨hl2,some (.int m),?_,rfl,x⟩;rw [es,if_neg c,List.append_nil]
 . rintro ys σ H hl2 ⟨v,rfl,_,x⟩;rw [List.length_map,List.take_length] at hl2;exact hdn H x hl2
theorem picksR {D p R : Addr} {Q : VK} {H1 : Hp} {ns : List Int} {row : List Str} (h : ns.length <= 100) (hn : ∀ n ∈ ns,0 < n /\ n <= row.length) (hp : H1 p = some (.lst (ns.map V.int))) (hR : H1 R = some (.lst (row.map V.str))) (hD : H1 D = none) (hdn : ∀ H',Same H1 H' -> H' D = some (.lst ((pickG row ns).map V.str)) -> Q (.ref D) H') :
 CompLoop (Itl K p) D (gName 0) tYes (tOp (rIxL K) (tVar 1) (tOp (rI0 λ i j => .int (i - j)) (tVar 0) (tC (.int 1)))) Q [none,some (.ref R)] H1 := by
 refine comp_list (xs := ns.map V.int) (λ i ys σ H => ∃ v : Option V,ys = (pickG row (ns.take i)).map V.str /\ σ = [v,some (.ref R)] /\ Same H1 H) ?_ (by rw [List.length_map]; omega) ?_ ?_ ?_ ?_
 . exact ⟨none,rfl,rfl,sm_new hD⟩
 . rintro i ys σ H ⟨v,rfl,_⟩;unfold pickG;rw [List.length_map,List.length_map,List.length_take]; exact Nat.min_le_left _ _
 . rintro i ys σ H ⟨v,_,_,x⟩;exact SqL.of (x _ _ hp)
 . rintro i y ys σ H hy hl2 ⟨v,rfl,rfl,x⟩;rw [List.getElem?_map] at hy;obtain ⟨m,hm,rfl⟩ := Option.map_eq_some_iff.mp hy;refine ⟨_,rfl,_,rfl,_,_,rfl,rfl,R,_,_,_,rfl,rfl,SqL.of (x _ _ hR),at_let (hn m (List.mem_of_getElem? hm)),hl2,some (.int m),?_,rfl,x.at hD⟩;rw [take_snoc hm,pick_snoc,List.map_append]; rfl
 . rintro ys σ H hl2 ⟨v,rfl,_,x⟩;rw [List.length_map,List.take_length] at hl2;exact hdn H x hl2
def otherG (os ns : List Int) (n : Nat) : List Int := ((List.range n).filter λ k => decide (os.getD k 0 ∈ ns)).map λ k : Nat => (k : Int) + 1
theorem others {D p N : Addr} {Q : VK} {H1 : Hp} {os ns : List Int} (h : os.length <= 100) (hp : H1 p = some (.lst (os.map V.int))) (hN : H1 N = some (.lst (ns.map V.int))) (hD : H1 D = none) (hdn : ∀ H',Same H1 H' -> H' D = some (.lst ((otherG os ns os.length).map V.int)) -> Q (.ref D) H') :
 CompLoop (Ite K p) D (gTup K 2 (gCons (gName 0) (gCons (gName 1) gNil))) (tTest (tOp (rIn K false) (tVar 1) (tVar 2))) (tOp (rI0 λ i j => .int (i + j)) (tVar 0) (tC (.int 1))) Q [none,none,some (.ref N)] H1 := by
 refine comp_enum (xs := os.map V.int) (λ i ys σ H => ∃ v v' : Option V,ys = (otherG os ns i).map V.int /\ σ = [v,v',some (.ref N)] /\ Same H1 H) ?_ (by rw [List.length_map]; omega) ?_ ?_ ?_ ?_
 . exact ⟨none,none,rfl,rfl,sm_new hD⟩
 . rintro i ys σ H ⟨v,v',rfl,_⟩;unfold otherG;rw [List.length_map,List.length_map];exact Nat.le_trans (List.length_filter_le _ _) (by rw [List.length_range]; exact Nat.le_refl _)
 . rintro i ys σ H ⟨v,v',_,_,x⟩;exact SqL.of (x _ _ hp)
 . rintro i y ys σ H T hy hl2 hT ⟨v,v',rfl,rfl,x⟩;rw [List.getElem?_map] at hy;obtain ⟨m,hm,rfl⟩ := Option.map_eq_some_iff.mp hy;have eg : os.getD i 0 = m := by rw [List.getD_eq_getElem?_getD,hm]; rfl
   have xT := sm_new (o := .tup [.int (i : Int),.int m]) hT;have kT : upd H T (.tup [.int (i : Int),.int m]) T = some (.tup [.int (i : Int),.int m]) := upd_same;generalize upd H T (.tup [.int (i : Int),.int m]) = H2 at xT kT ⊢;have x2 := x.trans xT;refine ⟨T,_,rfl,SqT.of kT,rfl,_,_,rfl,_,_,rfl,rfl,?_⟩;refine ⟨_,rfl,_,rfl,N,_,rfl,.inl (SqL.of (x2 _ _ hN)),rfl,flat_ints _,_,rfl,?_⟩;have es : otherG os ns (i + 1) = otherG os ns i ++ if decide (m ∈ ns) = true then [(i : Int) + 1] else [] := by
    unfold otherG;rw [List.range_succ,List.filter_append,List.map_append,List.filter_cons,List.filter_nil,eg];cases decide (m ∈ ns) <;> rfl
   rw [if_neg (by decide),inI_dec];refine ite2 (λ c => ?_) (λ c => ?_)
   . refine ⟨_,rfl,_,_,rfl,rfl,xT _ _ hl2,some (.int (i : Int)),some (.int m),?_,rfl,x2.at hD⟩;rw [es,if_pos c,List.map_append]; rfl
   . refine ⟨xT _ _ hl2,some (.int (i : Int)),some (.int m),?_,rfl,x2⟩;rw [es,if_neg c,List.append_nil]
 . rintro ys σ H hl2 ⟨v,v',rfl,_,x⟩;rw [List.length_map] at hl2;exact hdn H x hl2
theorem lats25 {t1 t2 t3 t4 t5 t6 t7 t8 t9 t10 t11 t12 t13 t14 t15 t16 t17 t18 t19 t20 t21 t22 t23 t24 t25 : TS} {D : Ends} {σ : L2.St} {H : Hp} (h : let D0 : Ends := D; let σ0 : L2.St := σ; let U25 : TS := t25; let U24 : TS := tSeq t24 U25; let U23 : TS := tSeq t23 U24; let U22 : TS := tSeq t22 U23; let U21 : TS := tSeq t21 U22; let U20 : TS := tSeq t20 U21; let U19 : TS := tSeq t19 U20; let U18 : TS := tSeq t18 U19; let U17 : TS := tSeq t17 U18; let U16 : TS := tSeq t16 U17; let U15 : TS := tSeq t15 U16; let U14 : TS := tSeq t14 U15; let U13 : TS := tSeq t13 U14; let U12 : TS := tSeq t12 U13; let U11 : TS := tSeq t11 U12; let U10 : TS := tSeq t10 U11; let U9 : TS := tSeq t9 U10; let U8 : TS := tSeq t8 U9; let U7 : TS := tSeq t7 U8; let U6 : TS := tSeq t6 U7; let U5 : TS := tSeq t5 U6; let U4 : TS := tSeq t4 U5; let U3 : TS := tSeq t3 U4; let U2 : TS := tSeq t2 U3; tSeq t1 U2 D0 σ0 H) : (tSeq t1 (tSeq t2 (tSeq t3 (tSeq t4 (tSeq t5 (tSeq t6 (tSeq t7 (tSeq t8 (tSeq t9 (tSeq t10 (tSeq t11 (tSeq t12 (tSeq t13 (tSeq t14 (tSeq t15 (tSeq t16 (tSeq t17 (tSeq t18 (tSeq t19 (tSeq t20 (tSeq t21 (tSeq t22 (tSeq t23 (tSeq t24 t25)))))))))))))))))))))))) D σ H := h
theorem pos_all {ns : List Int} (h : ∀ n ∈ ns,0 < n) : posG ns = ns := by
 unfold posG
 rw [List.filter_eq_self]
 intro n hn
 exact decide_eq_true (h n hn)
theorem pos_zero {ns : List Int} (h : ∀ n ∈ ns,0 < n) : posG (0 :: ns) = ns := by
 have := pos_all h
 unfold posG at this ⊢
 rw [List.filter_cons,if_neg (by decide)]
 exact this
theorem pos_ids (n : Nat) : posG (ids (n + 1)) = upG n := by
 have e : ids (n + 1) = 0 :: upG n := by
  unfold ids upG;rw [List.range_succ_eq_map,List.map_cons,List.map_map];refine congrArg (List.cons _) (List.map_congr_left λ j _ => ?_);show ((j + 1 : Nat) : Int) = 1 + j;omega
 rw [e]
 exact pos_zero λ m hm => (up_in.mp hm).1
theorem pick_up (row : List Str) : pickG row (upG row.length) = row := by
 unfold pickG upG
 rw [List.map_map]
 refine List.ext_getElem (by rw [List.length_map,List.length_range]) λ i h1 h2 => ?_
 rw [List.getElem_map,List.getElem_range]
 show row.getD ((1 : Int) + i - 1).toNat default = _
 rw [show ((1 : Int) + i - 1).toNat = i by omega,List.getD_eq_getElem?_getD,List.getElem?_eq_getElem h2]
 rfl
theorem other_pos (os ns : List Int) (n : Nat) : ∀ m ∈ otherG os ns n,0 < m /\ m <= n := λ m hm => by
 obtain ⟨k,hk,rfl⟩ := List.mem_map.mp hm
 have := List.mem_range.mp (List.mem_filter.mp hk).1
 omega
theorem other_len (os ns : List Int) (n : Nat) : (otherG os ns n).length <= n := by
 unfold otherG
 rw [List.length_map]
 exact Nat.le_trans (List.length_filter_le _ _) (by rw [List.length_range]; exact Nat.le_refl _)
theorem other_map {rs : List Row} {row : List Str} {tb : List (List Int)} {os ns : List Int} (C : CalmG rs tb) (hr : ∀ l ∈ row,l ∈ rs.map (·.1)) (ex : Exch rs row os) (hs : ns.Pairwise (· < ·)) (hi : ∀ m ∈ ns,0 < m /\ m <= row.length) : mapG (rs.map (·.1)) tb (pickG (pickG row os) (posG (otherG os ns os.length))) = mapG (rs.map (·.1)) tb (pickG row ns) := by
 rw [pos_all λ m hm => (other_pos os ns _ m hm).1]
 have e := sel_map (os := os) (row := row) (λ m => decide (m ∈ ns)) os.length (Nat.le_refl _)
 rw [List.take_length] at e
 have e1 : pickG (pickG row os) (otherG os ns os.length) = pickG row (os.filter λ m => decide (m ∈ ns)) := e
 rw [e1,ex.map C hr,up_pick hs hi]
theorem ud_keys {n : Nat} {kv : List (Key × V)} (h : UD n kv) : ∃ ks : List Int,kv.map (·.1) = ks.map Sum.inl /\ ks.Nodup /\ ks.length <= n + 1 /\ ∀ x ∈ ks,0 <= x /\ x <= n := by
 have e : kv.map (·.1) = (kv.map λ p => match p.1 with | .inl i => i | .inr _ => (0 : Int)).map (Sum.inl : Int -> Key) := by
  rw [List.map_map];refine List.map_congr_left λ p hp => ?_;obtain ⟨j,ej,_⟩ := h.sub _ (List.mem_map_of_mem hp);have ej' : p.1 = Sum.inl (j : Int) := ej;show p.1 = Sum.inl (match p.1 with | .inl i => i | .inr _ => (0 : Int));rw [ej']
 refine ⟨_,e,?_,by rw [List.length_map]; exact h.few,λ x hx => ?_⟩
 . have := h.nd;rw [e] at this;exact List.Pairwise.of_map _ (λ a b hab z => hab (congrArg _ z)) this
 . have hm : (Sum.inl x : Key) ∈ kv.map (·.1) := by rw [e]; exact List.mem_map_of_mem hx
   obtain ⟨j,ej,hj⟩ := h.sub _ hm;cases Sum.inl.inj ej;omega
theorem key_val {kv : List (Key × V)} {x : Key} (h : x ∈ kv.map (·.1)) : (valV kv x).isSome = true := by
 rw [<- valV_any,List.any_eq_true]
 obtain ⟨p,hp,e⟩ := List.mem_map.mp h
 exact ⟨p,hp,decide_eq_true e⟩
theorem desks_few {rs : List Row} {zs : List Str} (hG : Good rs) (nd : zs.Nodup) (dm : ∀ d,d ∈ zs ↔ ∃ x ∈ rs,d ∈ x.2) : zs ≠ [] /\ zs.length <= 4 := by
 constructor
 . intro e;obtain ⟨r,rs',rfl⟩ := List.exists_cons_of_ne_nil hG.ne;obtain ⟨d,ds',ed⟩ := List.exists_cons_of_ne_nil (hG.row r List.mem_cons_self).1;have := (dm d).mpr ⟨r,List.mem_cons_self,by rw [ed]; exact List.mem_cons_self⟩;rw [e] at this; cases this
 . obtain ⟨fs,h4,hin⟩ := hG.few
   rcases Nat.lt_or_ge fs.length zs.length with h | h
   . obtain ⟨c,h1,h2⟩ := pig fs zs nd h;obtain ⟨r,a',b'⟩ := (dm c).mp h1;exact absurd (hin r a' c b') h2
   . omega
theorem passX0 {X : Cx} {P : Program} {w : World} : Passes (CXE P w) X E0 := λ _ _ _ _ _ _ _ h => by
 obtain ⟨_,_,_,_,_,_,_,z⟩ := h
 exact z.elim
theorem MoAt.ext {H H' : Hp} {a x : Addr} {ls : List Str} {tb : List (List Int)} {zs : List Int} (h : MoAt C H x ls tb zs) (f : FlowAt H a) (y : Ext a H H') : MoAt C H' x ls tb zs := by
 obtain ⟨dx,tl,tt,tg,us,h1,⟨o,h2,h2'⟩,h3,h4,h5⟩ := h
 obtain ⟨i,j,k,e,_⟩ := f
 exact ⟨dx,tl,tt,tg,us,y _ _ (ne_of h1 e (λ z => nomatch z)) h1,⟨o,y _ _ (ne_of h2 e (λ z => nomatch z)) h2,h2'⟩,y _ _ (ne_of h3 e (λ z => nomatch z)) h3,Paired.mapP h4 λ _ _ z => y _ _ (ne_of z e (λ z => nomatch z)) z,y _ _ (ne_of h5 e (λ z => nomatch z)) h5⟩
structure LW (C : Addr) (H0 H : Hp) (a L l T R x : Addr) (rs : List Row) (us : List Addr) (tb : List (List Int)) (zs : List Int) (row : List Str) : Prop where
 y : Same H0 H
 f : FlowAt H a
 hL : RowsAt H L rs
 hl : H l = some (.lst ((rs.map (·.1)).map V.str))
 hT : Tb H T us tb (rs.map (·.1)).length
 hR : H R = some (.lst (row.map V.str))
 hM : MoAt C H x (rs.map (·.1)) tb zs
 ha : H0 a = none
 na : a ∉ L :: l :: T :: R :: us
theorem LW.same {H0 H H' : Hp} {a L l T R x : Addr} {rs : List Row} {us : List Addr} {tb : List (List Int)} {zs : List Int} {row : List Str} (h : LW C H0 H a L l T R x rs us tb zs row) (w : Same H H') : LW C H0 H' a L l T R x rs us tb zs row :=
 ⟨h.y.trans w,Same.flow w h.f,h.hL.same w,w _ _ h.hl,h.hT.same w,w _ _ h.hR,h.hM.same w,h.ha,h.na⟩
theorem LW.ext {H0 H H' : Hp} {a L l T R x : Addr} {rs : List Row} {us : List Addr} {tb : List (List Int)} {zs : List Int} {row : List Str} (h : LW C H0 H a L l T R x rs us tb zs row) (w : Ext a H H') (f' : FlowAt H' a) : LW C H0 H' a L l T R x rs us tb zs row := by
 have na := h.na
 simp only [List.mem_cons,not_or] at na
 obtain ⟨n1,n2,n3,n4,n5⟩ := na
 exact ⟨same_ext h.y h.ha w,f',h.hL.ext w h.f (Ne.symm n1),w _ _ (Ne.symm n2) h.hl,⟨w _ _ (Ne.symm n3) h.hT.at_,paired_on h.hT.rows λ u r hu z => w _ _ (λ e => n5 (e ▸ hu)) z,h.hT.len,h.hT.few⟩,w _ _ (Ne.symm n4) h.hR,h.hM.ext h.f w,h.ha,h.na⟩
theorem LW.put {H0 H H' : Hp} {a L l T R x I : Addr} {rs : List Row} {us : List Addr} {tb : List (List Int)} {zs : List Int} {row : List Str} {kv : List (Key × V)} (h : LW C H0 H a L l T R x rs us tb zs row) (w : Ext I H H') (kI : H I = some (.dK kv)) (hI : H0 I = none) : LW C H0 H' a L l T R x rs us tb zs row := by
 have tk : TK H H' := λ b xs e => w _ _ (ne_of e kI (λ z => nomatch z)) e
 obtain ⟨ts,hL1,hL2⟩ := h.hL
 obtain ⟨dx,tl,tt,tg,us',h1,⟨o,h2,h2'⟩,h3,h4,h5⟩ := h.hM
 obtain ⟨_,_,_,ea,_⟩ := id h.f
 exact ⟨same_ext h.y hI w,h.f.ext w (ne_of ea kI (λ z => nomatch z)),⟨ts,w _ _ (ne_of hL1 kI (λ z => nomatch z)) hL1,hL2.keep tk⟩,w _ _ (ne_of h.hl kI (λ z => nomatch z)) h.hl,⟨w _ _ (ne_of h.hT.at_ kI (λ z => nomatch z)) h.hT.at_,Paired.mapP h.hT.rows λ _ _ z => w _ _ (ne_of z kI (λ z => nomatch z)) z,h.hT.len,h.hT.few⟩,w _ _ (ne_of h.hR kI (λ z => nomatch z)) h.hR,⟨dx,tl,tt,tg,us',w _ _ (ne_of h1 kI (λ z => nomatch z)) h1,⟨o,w _ _ (ne_of h2 kI (λ z => nomatch z)) h2,h2'⟩,tk _ _ h3,Paired.mapP h4 λ _ _ z => tk _ _ z,tk _ _ h5⟩,h.ha,h.na⟩
section
variable {g8 g9 g10 g11 g12 g13 g14 : Addr} {gd8 gd9 gd10 gd11 gd12 gd13 gd14 : FuncData}
def spLaw (K : W.Frag) : Sp := λ vs H Q _ => ∃ (a : Addr) (ns : List Int),vs = [.ref a] /\ SqL K H a (ns.map V.int) /\ ns.length <= 63 /\ ∀ H',Q (.bl true) H'
theorem sc_law : FnScope ["_law_script","_law_flow_here","_law_rows","_law_letters","_law_table","_law_good","_law_row_here","_law_machine","_law_kept","_law_views_here","_law_out","_law_inside","_law_desk","_law_numbers","_law_due","_law_handed","_law_order","_law_others","_law_back"] ["_law_script"] (defScope s_law) := (.of rfl rfl rfl rfl (by decide +kernel))
set_option maxHeartbeats 40000000 in
noncomputable def lawT (B : Bt mg) (G__law_flow : Fn P w K mg base (k + 1) "_law_flow" ["_law_script","_law_k"] (spFlow K) g gd) (G__law_draw : Fn P w K mg base (k + 1) "_law_draw" ["_law_flow_here","_law_many"] spDraw g2 gd2) (G__law_houses : Fn P w K mg base (k + 1) "_law_houses" ["_law_flow_here","_law_count"] spRows g3 gd3) (M_Machine : MakeM P w K mg base k C CT CB CG g4 gd4)
 (G__law_calm : Fn P w K mg base (k + 1) "_law_calm" ["_law_script","_law_first","_law_rows","_law_most"] (spCalm K) g5 gd5) (G__law_is_map : Fn P w K mg base (k + 1) "_law_is_map" ["_law_found","_law_due"] (spIsMap K) g6 gd6) (G_map_of : FnX P w K mg base (k + 1) "map_of" ["machine","row"] (spMapOf K C CN) g7 gd7) (G__law_led : Fn P w K mg base (k + 1) "_law_led" ["_law_table","_law_letters","_law_names_here"] (spLed K) g8 gd8)
 (G_along : FnX P w K mg base (k + 1) "along" ["machine","row","numbers"] (spAlong K C CN) g9 gd9) (G__law_row : Fn P w K mg base (k + 1) "_law_row" ["_law_script","_law_first","_law_rows","_law_many"] (spRowT K) g10 gd10) (G__law_views : Fn P w K mg base (k + 1) "_law_views" ["_law_rows","_law_row_here"] spViews g11 gd11) (G__law_group : Fn P w K mg base (k + 1) "_law_group" ["_law_flow_here","_law_desks_here"] spGroup g12 gd12)
 (G__law_desks : Fn P w K mg base (k + 1) "_law_desks" ["_law_rows"] spDesksOf g13 gd13) (G__law_exchanged : Fn P w K mg base (k + 1) "_law_exchanged" ["_law_flow_here","_law_rows","_law_row_here"] spExch g14 gd14) {cdv : Value} {A : Around} {outer : List Env} {s : Shared} {H : Hp} {E : XK} (nd : List.Nodup (["_law_script","_law_flow_here","_law_rows","_law_letters","_law_table","_law_good","_law_row_here","_law_machine","_law_kept","_law_views_here","_law_out","_law_inside","_law_desk","_law_numbers","_law_due","_law_handed","_law_order","_law_others","_law_back"] : List Str)) (hr : Room (k + 1) (A.deeper (envOfC "law" (defScope s_law) s.heap.objs.size f cdv))) :
 { t : TS // PSs (cxOf CX0 P w K mg base ["_law_script","_law_flow_here","_law_rows","_law_letters","_law_table","_law_good","_law_row_here","_law_machine","_law_kept","_law_views_here","_law_out","_law_inside","_law_desk","_law_numbers","_law_due","_law_handed","_law_order","_law_others","_law_back"] "law" (defScope s_law) f cdv A outer s H E).nox (defBody s_law) t } :=
 ⟨_,(pss_cons (ps_set (i := 1) nd rfl (Or.inl rfl) (pe_call G__law_flow.ok hr rfl G__law_flow.at_ G__law_flow.kp G__law_flow.bn .nil pass0 (pa_cons (pv 0) (pa_cons pe_int pa_nil)))) (pss_cons (ps_set (i := 2) nd rfl (Or.inl rfl) (pe_call G__law_houses.ok hr rfl G__law_houses.at_ G__law_houses.kp G__law_houses.bn .nil pass0 (pa_cons (pv 1) (pa_cons (pe_ix ix_list (pe_lst (pa_cons pe_int (pa_cons pe_int (pa_cons pe_int (pa_cons pe_int (pa_cons pe_int (pa_cons pe_int (pa_cons pe_int (pa_cons pe_int pa_nil))))))))) (pe_call G__law_draw.ok hr rfl G__law_draw.at_ G__law_draw.kp G__law_draw.bn .nil pass0 (pa_cons (pv 1) (pa_cons pe_int pa_nil))) (λ _ _ => rfl)) pa_nil)))) (pss_cons (ps_setC (i := 3) nd rfl (Or.inl rfl) (g := (gName 0)) (tc := tYes) (te := (tOp (rIxT K) (tVar 0) (tC (.int 0)))) (own := ["_law_pair"]) (fr := ([] : List Str)) (idx := []) rfl (by show CompScope _ _ _ (defScope s_law); exact (.of rfl (by decide +kernel))) (pi_list (pv 2)) (λ _ _ _ _ _ => (pg_name (i := 0) (by show List.Nodup (["_law_pair"] : List Str); decide +kernel) rfl (Or.inl rfl) (Or.inr rfl))) (λ _ _ _ _ _ => pts_nil) (λ _ _ _ _ _ => (pe_ix ix_tup (pv 0) pe_int (λ _ _ => rfl))) rfl (hat_of rfl)) (pss_cons (ps_asg (pe_call G__law_calm.ok hr rfl G__law_calm.at_ G__law_calm.kp G__law_calm.bn .nil pass0 (pa_cons (pv 0) (pa_cons pe_int (pa_cons (pv 2) (pa_cons pe_int pa_nil))))) (pg_tup rfl (pgs_cons (pg_name (i := 4) nd rfl (Or.inl rfl)) (pgs_cons (pg_name (i := 5) nd rfl (Or.inl rfl)) pgs_nil)))) (pss_cons (ps_set (i := 6) nd rfl (Or.inr rfl) (pe_call G__law_row.ok hr rfl G__law_row.at_ G__law_row.kp G__law_row.bn .nil pass0 (pa_cons (pv 0) (pa_cons pe_int (pa_cons (pv 2) (pa_cons (pe_op op_add pe_int (pe_call G__law_draw.ok hr rfl G__law_draw.at_ G__law_draw.kp G__law_draw.bn .nil pass0 (pa_cons (pv 1) (pa_cons pe_int pa_nil)))) pa_nil)))))) (pss_cons (ps_set (i := 7) nd rfl (Or.inl rfl) (pe_make M_Machine.mak M_Machine.ok hr rfl M_Machine.at_ M_Machine.bn .nil passX0 (pa_cons (pe_callTy call_list_of rfl B.list_ (by decide +kernel) (pa_cons (pv 3) pa_nil)) (pa_cons (pe_comp (g := (gName 0)) (tc := tYes) (te := (tCB (λ xs H Q => ∃ p ys,xs = [.ref p] /\ (SqL K H p ys \/ SqT K H p ys) /\ ∀ l,H l = none -> Q (.ref l) (upd H l (.lst ys))) (tCons (tVar 0) tNil))) (own := ["_law_steps"]) (fr := ([] : List Str)) (idx := []) rfl (by show CompScope _ _ _ (defScope s_law); exact (.of rfl (by decide +kernel))) (pi_list (pv 4)) (λ _ _ _ _ _ => (pg_name (i := 0) (by show List.Nodup (["_law_steps"] : List Str); decide +kernel) rfl (Or.inl rfl) (Or.inr rfl))) (λ _ _ _ _ _ => pts_nil) (λ _ _ _ _ _ => (pe_callTy call_list_of rfl B.list_ (by decide +kernel) (pa_cons (pv 0) pa_nil))) rfl (hat_of rfl)) (pa_cons (pe_callTy call_list_of rfl B.list_ (by decide +kernel) (pa_cons (pv 5) pa_nil)) pa_nil))))) (pss_cons (ps_set (i := 8) nd rfl (Or.inl rfl) (pe_callB (call_repr hr.gd hr.units) rfl B.repr_ (by decide +kernel) (pa_cons (pe_tup (pa_cons (pe_fld (pv 7) rfl) (pa_cons (pe_fld (pv 7) rfl) (pa_cons (pe_fld (pv 7) rfl) (pa_cons (pv 6) pa_nil))))) pa_nil))) (pss_cons (ps_set (i := 9) nd rfl (Or.inl rfl) (pe_call G__law_views.ok hr rfl G__law_views.at_ G__law_views.kp G__law_views.bn .nil pass0 (pa_cons (pv 2) (pa_cons (pv 6) pa_nil)))) (pss_cons (ps_set (i := 10) nd rfl (Or.inr rfl) (pe_disp1 pe_int pe_bl)) (pss_cons (ps_set (i := 11) nd rfl (Or.inl rfl) (pe_disp1 pe_int pe_bl)) (pss_cons (ps_for PassesOwn.never rfl (pi_list (pe_call G__law_group.ok hr rfl G__law_group.at_ G__law_group.kp G__law_group.bn .nil pass0 (pa_cons (pv 1) (pa_cons (pe_call G__law_desks.ok hr rfl G__law_desks.at_ G__law_desks.kp G__law_desks.bn .nil pass0 (pa_cons (pv 2) pa_nil)) pa_nil)))) (pg_name (i := 12) nd rfl (Or.inl rfl)) (pss_one (ps_expr (pe_bm PySem.F.plainAttrs_dict PySem.F.slot_dict_update PySem.F.type_dict_update mt_updateD (pv 11) (pa_cons (pe_dget (hu_of hr) (pv 9) (pv 12) (λ _ _ => rfl)) pa_nil))))) (pss_cons (ps_if (pt_cmpR op_gt (pe_call G__law_draw.ok hr rfl G__law_draw.at_ G__law_draw.kp G__law_draw.bn .nil pass0 (pa_cons (pv 1) (pa_cons pe_int pa_nil))) pe_int (nomark _)) (pss_one (ps_for PassesOwn.never rfl (pi_list (pe_call G__law_group.ok hr rfl G__law_group.at_ G__law_group.kp G__law_group.bn .nil pass0 (pa_cons (pv 1) (pa_cons (pe_call G__law_desks.ok hr rfl G__law_desks.at_ G__law_desks.kp G__law_desks.bn .nil pass0 (pa_cons (pv 2) pa_nil)) pa_nil)))) (pg_name (i := 12) nd rfl (Or.inl rfl)) (pss_one (ps_expr (pe_bm PySem.F.plainAttrs_dict PySem.F.slot_dict_update PySem.F.type_dict_update mt_updateD (pv 10) (pa_cons (pe_dget (hu_of hr) (pv 9) (pv 12) (λ _ _ => rfl)) pa_nil)))))) pss_nil) (pss_cons (ps_set (i := 13) nd rfl (Or.inr rfl) (pe_comp (g := (gName 0)) (tc := (tTest (tDNotIn (tVar 0) (tVar 1)))) (te := (tVar 0)) (own := ["_law_m"]) (fr := ["_law_out"]) (idx := [10]) rfl (by show CompScope _ _ _ (defScope s_law); exact (.of rfl (by decide +kernel))) (pi_list (pe_callB (call_sortedD rfl) rfl B.sorted_ (by decide +kernel) (pa_cons (pv 11) pa_nil))) (λ _ _ _ _ _ => (pg_name (i := 0) (by show List.Nodup (["_law_m","_law_out"] : List Str); decide +kernel) rfl (Or.inl rfl) (Or.inr rfl))) (λ _ _ _ _ _ => pts_one (pt_cmp (pc_dnotin (hu_of hr) (pv 0) (pv 1)))) (λ _ _ _ _ _ => (pv 0)) rfl (hat_of rfl))) (pss_cons (ps_set (i := 14) nd rfl (Or.inl rfl) (pe_call G__law_led.ok hr rfl G__law_led.at_ G__law_led.kp G__law_led.bn .nil pass0 (pa_cons (pv 4) (pa_cons (pv 3) (pa_cons (pe_comp (g := (gName 0)) (tc := tYes) (te := (tOp (rIxL K) (tVar 1) (tOp (rI0 λ i j => .int (i - j)) (tVar 0) (tC (.int 1))))) (own := ["_law_m"]) (fr := ["_law_row_here"]) (idx := [6]) rfl (by show CompScope _ _ _ (defScope s_law); exact (.of rfl (by decide +kernel))) (pi_list (pv 13)) (λ _ _ _ _ _ => (pg_name (i := 0) (by show List.Nodup (["_law_m","_law_row_here"] : List Str); decide +kernel) rfl (Or.inl rfl) (Or.inr rfl))) (λ _ _ _ _ _ => pts_nil) (λ _ _ _ _ _ => (pe_ix ix_list (pv 1) (pe_op op_sub (pv 0) pe_int) (λ _ _ => rfl))) rfl (hat_of rfl)) pa_nil))))) (pss_cons (ps_set (i := 15) nd rfl (Or.inl rfl) (pe_op op_cat (pe_lst (pa_cons pe_int pa_nil)) (pv 13))) (pss_cons (ps_if (PW.pt (pw_or (pt_not (pt_val (pe_call G__law_is_map.ok hr rfl G__law_is_map.at_ G__law_is_map.kp G__law_is_map.bn .nil pass0 (pa_cons (pe_call G_along.ok hr rfl G_along.at_ G_along.kp G_along.bn .nil passX0 (pa_cons (pv 7) (pa_cons (pe_callTy call_list_of rfl B.list_ (by decide +kernel) (pa_cons (pv 6) pa_nil)) (pa_cons (pv 15) pa_nil)))) (pa_cons (pv 14) pa_nil))) (λ _ => rfl))) (pw_or1 (pt_cmpR (op_neLI (hu0_of hr)) (pv 15) (pe_op op_cat (pe_lst (pa_cons pe_int pa_nil)) (pv 13)) (nomark _))))) (pss_one (ps_ret pe_bl)) pss_nil) (pss_cons (ps_set (i := 16) nd rfl (Or.inl rfl) (pe_call G__law_exchanged.ok hr rfl G__law_exchanged.at_ G__law_exchanged.kp G__law_exchanged.bn .nil pass0 (pa_cons (pe_call G__law_flow.ok hr rfl G__law_flow.at_ G__law_flow.kp G__law_flow.bn .nil pass0 (pa_cons (pv 0) (pa_cons pe_int pa_nil))) (pa_cons (pv 2) (pa_cons (pv 6) pa_nil))))) (pss_cons (ps_setC (i := 17) nd rfl (Or.inl rfl) (g := (gTup K 2 (gCons (gName 0) (gCons (gName 1) gNil)))) (tc := (tTest (tOp (rIn K false) (tVar 1) (tVar 2)))) (te := (tOp (rI0 λ i j => .int (i + j)) (tVar 0) (tC (.int 1)))) (own := ["_law_k","_law_m"]) (fr := ["_law_numbers"]) (idx := [13]) rfl (by show CompScope _ _ _ (defScope s_law); exact (.of rfl (by decide +kernel))) (pi_enum rfl B.enumerate_ (pa_cons (pv 16) pa_nil)) (λ _ _ _ _ _ => (pg_tup rfl (pgs_cons (pg_name (i := 0) (by show List.Nodup (["_law_k","_law_m","_law_numbers"] : List Str); decide +kernel) rfl (Or.inl rfl) (Or.inr rfl)) (pgs_cons (pg_name (i := 1) (by show List.Nodup (["_law_k","_law_m","_law_numbers"] : List Str); decide +kernel) rfl (Or.inl rfl) (Or.inr rfl)) pgs_nil)))) (λ _ _ _ _ _ => pts_one (pt_cmpR op_in_seq (pv 1) (pv 2) rfl)) (λ _ _ _ _ _ => (pe_op op_add (pv 0) pe_int)) rfl (hat_of rfl)) (pss_cons (ps_if (pt_not (pt_val (pe_call G__law_is_map.ok hr rfl G__law_is_map.at_ G__law_is_map.kp G__law_is_map.bn .nil pass0 (pa_cons (pe_call G_along.ok hr rfl G_along.at_ G_along.kp G_along.bn .nil passX0 (pa_cons (pv 7) (pa_cons (pe_comp (g := (gName 0)) (tc := tYes) (te := (tOp (rIxL K) (tVar 1) (tOp (rI0 λ i j => .int (i - j)) (tVar 0) (tC (.int 1))))) (own := ["_law_m"]) (fr := ["_law_row_here"]) (idx := [6]) rfl (by show CompScope _ _ _ (defScope s_law); exact (.of rfl (by decide +kernel))) (pi_list (pv 16)) (λ _ _ _ _ _ => (pg_name (i := 0) (by show List.Nodup (["_law_m","_law_row_here"] : List Str); decide +kernel) rfl (Or.inl rfl) (Or.inr rfl))) (λ _ _ _ _ _ => pts_nil) (λ _ _ _ _ _ => (pe_ix ix_list (pv 1) (pe_op op_sub (pv 0) pe_int) (λ _ _ => rfl))) rfl (hat_of rfl)) (pa_cons (pv 17) pa_nil)))) (pa_cons (pv 14) pa_nil))) (λ _ => rfl))) (pss_one (ps_ret pe_bl)) pss_nil) (pss_cons (ps_if (pt_not (pt_val (pe_call G__law_is_map.ok hr rfl G__law_is_map.at_ G__law_is_map.kp G__law_is_map.bn .nil pass0 (pa_cons (pe_call G_along.ok hr rfl G_along.at_ G_along.kp G_along.bn .nil passX0 (pa_cons (pv 7) (pa_cons (pv 6) (pa_cons (pv 13) pa_nil)))) (pa_cons (pv 14) pa_nil))) (λ _ => rfl))) (pss_one (ps_ret pe_bl)) pss_nil) (pss_cons (ps_if (pt_cmpR (op_neTI (hu0_of hr)) (pe_call G_along.ok hr rfl G_along.at_ G_along.kp G_along.bn .nil passX0 (pa_cons (pv 7) (pa_cons (pv 6) (pa_cons (pe_callTy (call_listR rfl) rfl B.list_ (by decide +kernel) (pa_cons (pe_callTy call_rangeV1 rfl B.range_ (by decide +kernel) (pa_cons (pe_op op_add (pe_callB call_len_seq rfl B.len_ PySem.boot_len (pa_cons (pv 6) pa_nil)) pe_int) pa_nil)) pa_nil)) pa_nil)))) (pe_call G_map_of.ok hr rfl G_map_of.at_ G_map_of.kp G_map_of.bn .nil passX0 (pa_cons (pv 7) (pa_cons (pv 6) pa_nil))) (nomark _)) (pss_one (ps_ret pe_bl)) pss_nil) (pss_cons (ps_set (i := 18) nd rfl (Or.inl rfl) (pe_call G__law_led.ok hr rfl G__law_led.at_ G__law_led.kp G__law_led.bn .nil pass0 (pa_cons (pv 4) (pa_cons (pv 3) (pa_cons (pe_rev (pv 6) (by exact pe_neg1)) pa_nil))))) (pss_cons (ps_if (pt_not (pt_val (pe_call G__law_is_map.ok hr rfl G__law_is_map.at_ G__law_is_map.kp G__law_is_map.bn .nil pass0 (pa_cons (pe_call G_along.ok hr rfl G_along.at_ G_along.kp G_along.bn .nil passX0 (pa_cons (pv 7) (pa_cons (pe_rev (pv 6) (by exact pe_neg1)) (pa_cons (pe_callTy (call_listR rfl) rfl B.list_ (by decide +kernel) (pa_cons (pe_callTy call_rangeV1 rfl B.range_ (by decide +kernel) (pa_cons (pe_op op_add (pe_callB call_len_seq rfl B.len_ PySem.boot_len (pa_cons (pv 6) pa_nil)) pe_int) pa_nil)) pa_nil)) pa_nil)))) (pa_cons (pv 18) pa_nil))) (λ _ => rfl))) (pss_one (ps_ret pe_bl)) pss_nil) (pss_cons (ps_if (pt_cmpR op_ne (pe_callB (call_repr hr.gd hr.units) rfl B.repr_ (by decide +kernel) (pa_cons (pe_tup (pa_cons (pe_fld (pv 7) rfl) (pa_cons (pe_fld (pv 7) rfl) (pa_cons (pe_fld (pv 7) rfl) (pa_cons (pv 6) pa_nil))))) pa_nil)) (pv 8) (nomark _)) (pss_one (ps_ret pe_bl)) pss_nil) (pss_one (ps_ret (pe_call G__law_is_map.ok hr rfl G__law_is_map.at_ G__law_is_map.kp G__law_is_map.bn .nil pass0 (pa_cons (pe_call G_along.ok hr rfl G_along.at_ G_along.kp G_along.bn .nil passX0 (pa_cons (pv 7) (pa_cons (pv 6) (pa_cons (pe_lst pa_nil) pa_nil)))) (pa_cons (pe_callTy call_tuple_of rfl B.tuple_ (by decide +kernel) (pa_cons (pe_callTy (call_listR rfl) rfl B.list_ (by decide +kernel) (pa_cons (pe_callTy call_rangeV1 rfl B.range_ (by decide +kernel) (pa_cons (pe_callB call_len_seq rfl B.len_ PySem.boot_len (pa_cons (pv 4) pa_nil)) pa_nil)) pa_nil)) pa_nil)) pa_nil)))))))))))))))))))))))))))))⟩
end
section
variable {g8 g9 g10 g11 g12 g13 g14 : Addr} {gd8 gd9 gd10 gd11 gd12 gd13 gd14 : FuncData}
set_option maxHeartbeats 40000000 in
theorem ok_law (F : Fun K "law" "law" s_law f fd) (B : Bt mg) (G__law_flow : Fn P w K mg base (k + 1) "_law_flow" ["_law_script","_law_k"] (spFlow K) g gd) (G__law_draw : Fn P w K mg base (k + 1) "_law_draw" ["_law_flow_here","_law_many"] spDraw g2 gd2) (G__law_houses : Fn P w K mg base (k + 1) "_law_houses" ["_law_flow_here","_law_count"] spRows g3 gd3) (M_Machine : MakeM P w K mg base k C CT CB CG g4 gd4)
 (G__law_calm : Fn P w K mg base (k + 1) "_law_calm" ["_law_script","_law_first","_law_rows","_law_most"] (spCalm K) g5 gd5) (G__law_is_map : Fn P w K mg base (k + 1) "_law_is_map" ["_law_found","_law_due"] (spIsMap K) g6 gd6) (G_map_of : FnX P w K mg base (k + 1) "map_of" ["machine","row"] (spMapOf K C CN) g7 gd7) (G__law_led : Fn P w K mg base (k + 1) "_law_led" ["_law_table","_law_letters","_law_names_here"] (spLed K) g8 gd8)
 (G_along : FnX P w K mg base (k + 1) "along" ["machine","row","numbers"] (spAlong K C CN) g9 gd9) (G__law_row : Fn P w K mg base (k + 1) "_law_row" ["_law_script","_law_first","_law_rows","_law_many"] (spRowT K) g10 gd10) (G__law_views : Fn P w K mg base (k + 1) "_law_views" ["_law_rows","_law_row_here"] spViews g11 gd11) (G__law_group : Fn P w K mg base (k + 1) "_law_group" ["_law_flow_here","_law_desks_here"] spGroup g12 gd12)
 (G__law_desks : Fn P w K mg base (k + 1) "_law_desks" ["_law_rows"] spDesksOf g13 gd13) (G__law_exchanged : Fn P w K mg base (k + 1) "_law_exchanged" ["_law_flow_here","_law_rows","_law_row_here"] spExch g14 gd14) : FnOk P w K mg base CX0 (k + 2) f fd ["_law_script"] (spLaw K) := by
 refine F.ok sc_law (λ vs H Q E h => ?_) (λ cdv A outer s H vs Q E hr h => ?_)
 . obtain ⟨z,ns,rfl,_⟩ := h;rfl
 obtain ⟨z,ns,rfl,hS,h63,q⟩ := h
 have nd := sc_law.nd
 have s1000 := line_200
 have S := M_Machine.mo
 refine ⟨(lawT (P := P) (w := w) (base := base) B G__law_flow G__law_draw G__law_houses M_Machine G__law_calm G__law_is_map G_map_of G__law_led G_along G__law_row G__law_views G__law_group G__law_desks G__law_exchanged nd hr).1,(lawT (P := P) (w := w) (base := base) B G__law_flow G__law_draw G__law_houses M_Machine G__law_calm G__law_is_map G_map_of G__law_led G_along G__law_row G__law_views G__law_group G__law_desks G__law_exchanged nd hr).2,?_⟩
 unfold lawT
 try dsimp only [cxOf,Cx.nox,Cx.wish]
 refine lats25 ?_
 intro D0 σ0 U25 U24 U23 U22 U21 U20 U19 U18 U17 U16 U15 U14 U13 U12 U11 U10 U9 U8 U7 U6 U5 U4 U3 U2
 refine ⟨_,rfl,z,ns,0,rfl,hS,h63,by decide,by decide,λ a o0 ha F0 => ?_⟩
 have y1 : Same H (upd H a o0) := sm_new ha
 generalize upd H a o0 = H1 at F0 y1 ⊢
 refine ⟨_,rfl,tiny (show 8 <= 1000 by decide),λ p2 hp2 => ⟨_,rfl,a,8,rfl,F0.new hp2,by decide,by decide,λ r2 H2 r20 r21 f2 x2 => ?_⟩⟩
 have np2 := ne_flow hp2 F0
 obtain ⟨m,hm,m1,m4⟩ := pickN (xs := [2,3,3,2,3,4,3,1]) (lo := 1) (hi := 4) (by decide) r20 r21
 refine ⟨p2,_,_,_,rfl,rfl,SqL.of (x2 _ _ np2 upd_same),hm,a,m,rfl,f2,by omega,by omega,λ L rs H3 hG nL hL0 f3 x3 hL => ?_⟩
 have y3 := same_ext (same_ext (y1.trans (sm_new hp2)) ha x2) ha x3
 clear x2 x3 f2 hm np2 hp2 y1 F0 m1 m4 r20 r21
 have l6 := hG.len
 obtain ⟨ts,hTs,_⟩ := id hL
 refine ⟨_,rfl,L,rfl,⟨_,SqL.of hTs⟩,λ l hl => fsts (K := K) (by omega) hl hL λ H4 x4 k4 => ?_⟩
 have nl := ne_flow hl f3
 have f4 := Same.flow x4 f3
 have y4 := y3.trans x4
 have hL4 := hL.same x4
 clear hTs hl x4 f3 y3 hL
 refine ⟨_,rfl,_,rfl,z,L,ns,rs,rfl,y4.seq hS,h63,hL4,hG,λ t T Gd us tb gds H5 x5 kt hT kG hgd t12 g12 hC hfr => ⟨t,_,rfl,SqT.of kt,rfl,_,_,rfl,_,_,rfl,rfl,?_⟩⟩
 have f5 := Same.flow x5 f4
 have y5 := y4.trans x5
 have hL5 := hL4.same x5
 have k5 := x5 _ _ k4
 have nfr : ∀ u ∈ T :: Gd :: us,a ≠ u := λ u hu e => by
  obtain ⟨_,_,_,ea,_⟩ := f4;have := hfr u hu;rw [<- e,ea] at this; cases this
 have G : GM (rs.map (·.1)) tb := hC.gm
 rw [show rs.length = (rs.map (·.1)).length by rw [List.length_map]] at hT
 clear kt x5 f4 y4 hL4 k4 hfr
 refine ⟨_,rfl,_,rfl,_,rfl,a,7,rfl,f5,by decide,by decide,λ r6 H6 r60 r61 f6 x6 => ?_⟩
 obtain ⟨rn,rfl⟩ := Int.eq_ofNat_of_zero_le r60
 have y6 := same_ext y5 ha x6
 have hL6 := hL5.ext x6 f5 nL
 have k6 := x6 _ _ nl k5
 have nG : Gd ≠ a := Ne.symm (nfr Gd (List.mem_cons_of_mem _ List.mem_cons_self))
 have nT : T ≠ a := Ne.symm (nfr T List.mem_cons_self)
 have nus : a ∉ us := λ hu => nfr a (List.mem_cons_of_mem _ (List.mem_cons_of_mem _ hu)) rfl
 have kG6 := x6 _ _ nG kG
 have T6 : Tb H6 T us tb (rs.map (·.1)).length := ⟨x6 _ _ nT hT.at_,paired_on hT.rows λ u r hu z => x6 _ _ (λ e => nus (e ▸ hu)) z,hT.len,hT.few⟩
 clear y5 hL5 k5 kG hT x6 f5 nfr
 refine ⟨_,_,rfl,rfl,z,L,ns,rs,4 + rn,rfl,y6.seq hS,h63,hL6,hG,by omega,λ R row H7 hR x7 rl rin kR => ?_⟩
 have r20 : row.length <= 20 := by omega
 have nR := ne_flow hR f6
 have f7 := Same.flow x7 f6
 have y7 := y6.trans x7
 have hL7 := hL6.same x7
 have k7 := x7 _ _ k6
 have kG7 := x7 _ _ kG6
 have T7 := T6.same x7
 clear y6 hL6 k6 kG6 T6 x7 f6 hR
 refine ⟨_,rfl,l,_,rfl,.inl (SqL.of k7),λ l1' hl1' => ?_⟩
 have x9 := sm_new (o := .lst ((rs.map (·.1)).map V.str)) hl1'
 have k9 : upd H7 l1' (.lst ((rs.map (·.1)).map V.str)) l1' = some (.lst ((rs.map (·.1)).map V.str)) := upd_same
 generalize upd H7 l1' (.lst ((rs.map (·.1)).map V.str)) = H9 at x9 k9 ⊢
 refine ⟨_,rfl,T,rfl,⟨_,SqL.of (T7.same x9).at_⟩,λ D9 hD9 => copies (K := K) hD9 (T7.same x9) λ H10 vs x10 hD10 hP10 hn10 hfr10 hDn10 => ?_⟩
 refine ⟨_,rfl,Gd,_,rfl,.inl (SqL.of (x10 _ _ (x9 _ _ kG7))),λ p11 hp11 => ?_⟩
 have x11 := sm_new (o := .lst (gds.map V.int)) hp11
 have k11 : upd H10 p11 (.lst (gds.map V.int)) p11 = some (.lst (gds.map V.int)) := upd_same
 generalize upd H10 p11 (.lst (gds.map V.int)) = H11 at x11 k11 ⊢
 intro x dx hx hdx ndx
 show spInit C CT CB CG [V.ref x,V.ref l1',V.ref D9,V.ref p11] _ (λ v H2 => v = .non /\ U7 D0 _ H2) E0
 revert x dx hx hdx ndx
 refine made (C := C) (CT := CT) (CB := CB) (CG := CG) (tb := tb) (us := vs) (gs := gds) (E := E0) (Q := λ x H2 => U7 D0 (((((((σ0.set 1 (some (V.ref a))).set 2 (some (V.ref L))).set 3 (some (V.ref l))).set 4 (some (V.ref T))).set 5 (some (V.ref Gd))).set 6 (some (V.ref R))).set 7 (some (V.ref x))) H2) (x11 _ _ (x10 _ _ k9)) ⟨x11 _ _ hD10,Paired.mapP hP10 λ _ _ z => x11 _ _ z,G.len,by omega⟩ k11 g12 hgd hG.nd G (by rw [List.length_map]; omega) (λ x zs H12 hM hz z12 x12 => ?_)
 have w12 := (x9.trans x10).trans (x11.trans x12)
 have W : LW C H H12 a L l T R x rs us tb zs row := ⟨y7.trans w12,Same.flow w12 f7,hL7.same w12,w12 _ _ k7,T7.same w12,w12 _ _ kR,hM,ha,by simp only [List.mem_cons,not_or]; exact ⟨Ne.symm nL,Ne.symm nl,Ne.symm nT,Ne.symm nR,nus⟩⟩
 have rll : (rs.map (·.1)).length <= 6 := by rw [List.length_map]; exact l6
 have ks := kept_small (zs := zs) (row := row) (by omega) (by omega) (by omega) (by omega) hG.nm rin G hz
 have hb0 := bad_none.mpr rin
 have t100 : tb.length <= 100 := by omega
 have l1000 : (rs.map (·.1)).length <= 1000 := by omega
 clear x9 x10 x11 x12 k9 hD10 hP10 hn10 hfr10 hDn10 k11 w12 T7 k7 f7 y7 hL7 kG7 kR hM hl1' hD9 hp11
 show U7 D0 [some (.ref z),some (.ref a),some (.ref L),some (.ref l),some (.ref T),some (.ref Gd),some (.ref R),some (.ref x),none,none,none,none,none,none,none,none,none,none,none] H12
 obtain ⟨dx,ml,mt,mg',ms,q1,q2,q3,q4,q5⟩ := id W.hM
 refine ⟨_,rfl,x,C,dx,_,_,rfl,q1,S.cls,S.n1,rfl,_,rfl,x,C,dx,_,_,rfl,q1,S.cls,S.n2,rfl,_,rfl,x,C,dx,_,_,rfl,q1,S.cls,S.n3,rfl,_,rfl,tiny (show 4 <= 1000 by decide),λ tk htk => ?_⟩
 have x13 := sm_new (o := .tup [.ref ml,.ref mt,.ref mg',.ref R]) htk
 have dk := kept_data q2 q3 q4 q5 W.hR htk
 generalize upd H12 tk (.tup [.ref ml,.ref mt,.ref mg',.ref R]) = H13 at x13 dk ⊢
 refine ⟨tk,3,_,rfl,dk,ks,?_⟩
 replace W := W.same x13
 clear q1 q2 q3 q4 q5 htk x13 dk
 refine ⟨_,rfl,_,rfl,L,R,rs,row,rfl,W.hL,hG,W.hR,r20,rin,λ F kvf ds H14 hF0 x14 kF hds fdg => ?_⟩
 replace W := W.same x14
 have y14 := W.y
 clear x14 hF0
 refine λ O hO => ⟨upd_same,[(Sum.inl 0,.bl true)],rfl,(by decide),?_⟩
 rw [upd_upd,show mergeK [] [((Sum.inl 0 : Key),V.bl true)] = [(Sum.inl ((0 : Nat) : Int),V.bl true)] from rfl]
 have x15 : Same H14 (upd H14 O (.dK [(Sum.inl ((0 : Nat) : Int),V.bl true)])) := sm_new hO
 have k15 : upd H14 O (.dK [(Sum.inl ((0 : Nat) : Int),V.bl true)]) O = some (.dK [(Sum.inl ((0 : Nat) : Int),V.bl true)]) := upd_same
 have fdg15 : ∀ d ∈ ds,∃ b kv,valV kvf (.inr d) = some (.ref b) /\ H14 b = some (.dK kv) /\ UD row.length kv := fdg
 generalize upd H14 O (.dK [(Sum.inl ((0 : Nat) : Int),V.bl true)]) = H15 at x15 k15 ⊢
 have x15' := x15
 refine λ I hI => ⟨upd_same,[(Sum.inl 0,.bl true)],rfl,(by decide),?_⟩
 rw [upd_upd,show mergeK [] [((Sum.inl 0 : Key),V.bl true)] = [(Sum.inl ((0 : Nat) : Int),V.bl true)] from rfl]
 have x16 : Same H15 (upd H15 I (.dK [(Sum.inl ((0 : Nat) : Int),V.bl true)])) := sm_new hI
 have k16 : upd H15 I (.dK [(Sum.inl ((0 : Nat) : Int),V.bl true)]) I = some (.dK [(Sum.inl ((0 : Nat) : Int),V.bl true)]) := upd_same
 generalize upd H15 I (.dK [(Sum.inl ((0 : Nat) : Int),V.bl true)]) = H16 at x16 k16 ⊢
 have hI14 := x15.free hI
 have nOI : O ≠ I := ne_of_none k15 hI
 have kF16 := x16 _ _ (x15 _ _ kF)
 have nFO : F ≠ O := ne_of_none kF hO
 have nFI : F ≠ I := ne_of_none (x15 _ _ kF) hI
 replace W := W.same (x15.trans x16)
 replace k15 := x16 _ _ k15
 -- what the dicts of the desks are,whatever happens to out and inside
 have vd : ∀ {Hn : Hp},(∀ b o,b ≠ O -> b ≠ I -> b ≠ a -> H16 b = some o -> Hn b = some o) -> ∀ d ∈ ds,∃ b kv,b ≠ O /\ b ≠ I /\ valV kvf (.inr d) = some (.ref b) /\ Hn b = some (.dK kv) /\ UD row.length kv := λ {Hn} kp d hd => by
  obtain ⟨b,kv,e1,e2,e3⟩ := fdg15 d hd;have n1 := ne_of_none e2 hO;have n2 := ne_of_none e2 hI14;have e16 := x16 _ _ (x15 _ _ e2);obtain ⟨_,_,_,ea,_⟩ := W.f;exact ⟨b,kv,n1,n2,e1,kp _ _ n1 n2 (ne_of e16 ea (λ z => nomatch z)) e16,e3⟩
 have nFa : F ≠ a := by
  obtain ⟨_,_,_,ea,_⟩ := W.f;exact ne_of kF16 ea (λ z => nomatch z)
 have nOa : O ≠ a := by
  obtain ⟨_,_,_,ea,_⟩ := W.f;exact ne_of k15 ea (λ z => nomatch z)
 have nIa : I ≠ a := by
  obtain ⟨_,_,_,ea,_⟩ := W.f;exact ne_of k16 ea (λ z => nomatch z)
 have hI0 : H I = none := by
  cases e : H I with
  | none => rfl
  | some o => rw [x15' _ _ (y14 _ _ e)] at hI; cases hI
 have hO0 : H O = none := by
  cases e : H O with
  | none => rfl
  | some o => rw [y14 _ _ e] at hO; cases hO
 clear x15 x16 kF hO hI fdg fdg15 hI14 x15' y14
 have two : (1 : Nat) <= sizeLine := tiny (show 1 <= 1000 by decide)
 have rest : ∀ (kvo kvi : List (Key × V)) (v12 : Option V) (Hn : Hp),LW C H Hn a L l T R x rs us tb zs row -> Hn O = some (.dK kvo) -> (Sum.inl 0 : Key) ∈ kvo.map (·.1) -> Hn I = some (.dK kvi) -> UD row.length kvi -> U13 D0 [some (.ref z),some (.ref a),some (.ref L),some (.ref l),some (.ref T),some (.ref Gd),some (.ref R),some (.ref x),some (.str (keptD (rs.map (·.1)) tb zs row).shown),some (.ref F),some (.ref O),some (.ref I),v12,none,none,none,none,none,none] Hn := by
  intro kvo kvi v12 Hn W kO zO kI uI;obtain ⟨ks',ke,kn,kl,kin⟩ := ud_keys uI;refine ⟨_,rfl,I,kvi,ks',rfl,kI,ke,by omega,λ Sx zs' hSx zp zsrt => ⟨Sx,rfl,⟨_,SqL.of upd_same⟩,λ N hN => ?_⟩⟩;have x1 : Same Hn (upd Hn Sx (.lst (zs'.map V.int))) := sm_new hSx;have k1 : upd Hn Sx (.lst (zs'.map V.int)) Sx = some (.lst (zs'.map V.int)) := upd_same;generalize upd Hn Sx (.lst (zs'.map V.int)) = H1 at x1 k1 hN ⊢;refine nums (K := K) (ks := zs') (by rw [zp.length_eq]; omega) k1 (x1 _ _ kO) hN λ H2 x2 kN => ?_;have znd : zs'.Nodup := zp.nodup_iff.mpr kn;have zlt : zs'.Pairwise (· < ·) := (zsrt.and znd).imp λ ⟨h1,h2⟩ => by omega
  obtain ⟨nms,hnms⟩ : ∃ nms : List Int,nms = zs'.filter (λ m => !(valV kvo (.inl m)).isSome) := ⟨_,rfl⟩;rw [<- hnms] at kN;have nsrt : nms.Pairwise (· < ·) := by rw [hnms]; exact zlt.sublist List.filter_sublist
  have nin : ∀ m ∈ nms,0 < m /\ m <= row.length := λ m hm => by
   rw [hnms] at hm;obtain ⟨h1,h2⟩ := List.mem_filter.mp hm;have h3 := kin m (zp.mem_iff.mp h1);have h4 : m ≠ 0 := λ e => by
    rw [e] at h2;have h5 := key_val zO;rw [h5] at h2; cases h2
   omega
  have nlen : nms.length <= 21 := by
   rw [hnms];exact Nat.le_trans (List.length_filter_le _ _) (by rw [zp.length_eq]; omega)
  have npos : ∀ m ∈ nms,0 < m := λ m hm => (nin m hm).1;have nl' : ∀ m ∈ nms,m <= row.length := λ m hm => (nin m hm).2;have pin : ∀ c ∈ pickG row nms,c ∈ rs.map (·.1) := λ c hc => rin c (pick_in nin c hc);replace W := W.same (x1.trans x2);clear x1 k1 x2 hN hSx kO zO kI uI ke kn kl kin zp zsrt znd zlt hnms;refine ⟨_,rfl,_,rfl,_,rfl,N,rfl,⟨_,SqL.of kN⟩,λ D3 hD3 => picksR (K := K) (by omega) nin kN W.hR hD3 λ H3 x3 k3 => ?_⟩;replace W := W.same x3;refine ⟨T,l,D3,us,tb,_,pickG row nms,rfl,W.hT,W.hl,SqL.of k3,G,l1000,pin,λ u H4 x4 ku => ?_⟩;replace W := W.same x4;replace kN := x4 _ _ (x3 _ _ kN);clear x3 k3 x4 hD3;refine ⟨two,λ p5 hp5 => ⟨_,rfl,p5,N,_,_,rfl,rfl,upd_same,(sm_new hp5) _ _ kN,by rw [List.length_map]; show 1 + nms.length <= _; omega,λ Hd hHd => ?_⟩⟩;have x5 : Same H4 (upd (upd H4 p5 (.lst [V.int 0])) Hd (.lst ([V.int 0] ++ nms.map V.int))) := (sm_new hp5).trans (sm_new hHd);have kH : upd (upd H4 p5 (.lst [V.int 0])) Hd (.lst ([V.int 0] ++ nms.map V.int)) Hd = some (.lst ((0 :: nms).map V.int)) := upd_same;generalize upd (upd H4 p5 (.lst [V.int 0])) Hd (.lst ([V.int 0] ++ nms.map V.int)) = H5 at x5 kH ⊢;replace W := W.same x5;replace kN := x5 _ _ kN;replace ku := x5 _ _ ku;clear x5 hp5 hHd;refine ⟨_,rfl,_,rfl,R,_,rfl,.inl (SqL.of W.hR),λ p7 hp7 => ?_⟩;have x7 := sm_new (o := .lst (row.map V.str)) hp7;have k7 : upd H5 p7 (.lst (row.map V.str)) p7 = some (.lst (row.map V.str)) := upd_same;generalize upd H5 p7 (.lst (row.map V.str)) = H7 at x7 k7 ⊢;replace W := W.same x7;refine ⟨_,rfl,x,p7,Hd,_,tb,zs,row,0 :: nms,rfl,W.hM,G,t100,SqL.of k7,SqL.of (x7 _ _ kH),by show nms.length + 1 <= 100; omega,λ m hm => ?_,λ _ t8 H8 x8 k8 => ?_,λ l' hl' => absurd (hb0.symm.trans hl') (λ z => by cases z)⟩
  . rcases List.mem_cons.mp hm with e | e
    . rw [e]; omega
    . exact nl' m e
  rw [pos_zero npos] at k8;replace W := W.same x8;refine ⟨_,rfl,t8,u,_,rfl,k8,SqT.of (x8 _ _ (x7 _ _ ku)),by rw [map_len]; exact t100,λ H9 x9 => ⟨true,rfl,iteF ?_⟩⟩;replace W := W.same x9;replace kN := x9 _ _ (x8 _ _ (x7 _ _ kN));replace ku := x9 _ _ (x8 _ _ (x7 _ _ ku));replace kH := x9 _ _ (x8 _ _ (x7 _ _ kH));clear x7 k7 x8 k8 x9 hp7;refine ⟨_,rfl,two,λ p10 hp10 => ⟨_,rfl,p10,N,_,_,rfl,rfl,upd_same,(sm_new hp10) _ _ kN,by rw [List.length_map]; show 1 + nms.length <= _; omega,λ p11 hp11 => ?_⟩⟩;have x11 : Same H9 (upd (upd H9 p10 (.lst [V.int 0])) p11 (.lst ([V.int 0] ++ nms.map V.int))) := (sm_new hp10).trans (sm_new hp11);have k11 : upd (upd H9 p10 (.lst [V.int 0])) p11 (.lst ([V.int 0] ++ nms.map V.int)) p11 = some (.lst ((0 :: nms).map V.int)) := upd_same;generalize upd (upd H9 p10 (.lst [V.int 0])) p11 (.lst ([V.int 0] ++ nms.map V.int)) = H11 at x11 k11 ⊢;refine ⟨Hd,p11,0 :: nms,rfl,rfl,SqL.of (x11 _ _ kH),SqL.of k11,_,rfl,iteF ?_⟩;replace W := W.same x11;replace kN := x11 _ _ kN;replace ku := x11 _ _ ku;clear x11 k11 hp10 hp11 kH;refine ⟨_,rfl,z,ns,8,rfl,W.y.seq hS,h63,by decide,by decide,λ b ob hb Fb => ?_⟩;have xb : Same H11 (upd H11 b ob) := sm_new hb;have nRb : R ≠ b := ne_of_none W.hR hb;generalize upd H11 b ob = H12 at xb Fb ⊢;refine ⟨_,rfl,_,rfl,b,L,R,rs,row,rfl,Fb,W.hL.same xb,hG,xb _ _ W.hR,nRb,r20,rin,λ Or os H13 nOr _ x13 _ ex kOr => ?_⟩;have w13 : Same H11 H13 := same_ext xb hb x13;replace W := W.same w13;replace kN := w13 _ _ kN;replace ku := w13 _ _ ku;clear xb x13 w13 Fb hb nRb;have ol := ex.len;refine ⟨_,rfl,Or,rfl,⟨_,SqL.of kOr⟩,λ Ot hOt => others (K := K) (by omega) kOr kN hOt λ H14 x14 k14 => ?_⟩;replace W := W.same x14;replace kN := x14 _ _ kN;replace ku := x14 _ _ ku;replace kOr := x14 _ _ kOr;clear x14 hOt;refine ⟨_,rfl,_,rfl,Or,rfl,⟨_,SqL.of kOr⟩,λ D15 hD15 => picksR (K := K) (ns := os) (by omega) ex.in_ kOr W.hR hD15 λ H15 x15 k15' => ?_⟩;have pl : (pickG row os).length = os.length := by unfold pickG; rw [List.length_map]
  have hbo := bad_none.mpr (λ c hc => rin c (pick_in ex.in_ c hc) : ∀ c ∈ pickG row os,c ∈ rs.map (·.1));have oln := other_len os nms os.length;replace W := W.same x15;refine ⟨_,rfl,x,D15,Ot,_,tb,zs,pickG row os,otherG os nms os.length,rfl,W.hM,G,t100,SqL.of k15',SqL.of (x15 _ _ k14),by omega,λ m hm => by rw [pl]; exact (other_pos os nms _ m hm).2,λ _ t16 H16' x16 k16' => ?_,λ l' hl' => absurd (hbo.symm.trans hl') (λ z => by cases z)⟩;rw [other_map hC rin ex nsrt nin] at k16';replace W := W.same x16;refine ⟨_,rfl,t16,u,_,rfl,k16',SqT.of (x16 _ _ (x15 _ _ ku)),by rw [map_len]; exact t100,λ H17 x17 => ⟨true,rfl,iteF ?_⟩⟩;replace W := W.same x17;replace kN := x17 _ _ (x16 _ _ (x15 _ _ kN));replace ku := x17 _ _ (x16 _ _ (x15 _ _ ku));clear x15 k15' x16 k16' x17 k14 kOr hD15 pl hbo oln ol ex;refine ⟨_,rfl,_,rfl,_,rfl,x,R,N,_,tb,zs,row,nms,rfl,W.hM,G,t100,SqL.of W.hR,SqL.of kN,by omega,nl',λ _ t18 H18 x18 k18 => ?_,λ l' hl' => absurd (hb0.symm.trans hl') (λ z => by cases z)⟩;rw [pos_all npos] at k18;replace W := W.same x18;refine ⟨_,rfl,t18,u,_,rfl,k18,SqT.of (x18 _ _ ku),by rw [map_len]; exact t100,λ H19 x19 => ⟨true,rfl,iteF ?_⟩⟩;replace W := W.same x19;clear x18 k18 x19 kN ku npos nl' nin nlen nsrt pin;have er : rngV 0 ((row.length : Int) + 1) = (ids (row.length + 1)).map V.int := ids_rng (row.length + 1);have il : (ids (row.length + 1)).length = row.length + 1 := by unfold ids; rw [List.length_map,List.length_range]
  have iin : ∀ m ∈ ids (row.length + 1),m <= row.length := λ m hm => by
   unfold ids at hm;obtain ⟨j,hj,rfl⟩ := List.mem_map.mp hm;have := List.mem_range.mp hj;omega
  refine ⟨_,rfl,_,rfl,_,rfl,R,_,rfl,.inl (SqL.of W.hR),_,_,rfl,rfl,_,rfl,λ p20 hp20 => ?_⟩;rw [List.length_map];refine ⟨p20,_,_,rfl,upd_same,by decide,by decide,by omega,by omega,λ p21 hp21 => ?_⟩;rw [er];have x21 : Same H19 (upd (upd H19 p20 (.rng 0 ((row.length : Int) + 1))) p21 (.lst ((ids (row.length + 1)).map V.int))) := (sm_new hp20).trans (sm_new hp21);have k21 : upd (upd H19 p20 (.rng 0 ((row.length : Int) + 1))) p21 (.lst ((ids (row.length + 1)).map V.int)) p21 = some (.lst ((ids (row.length + 1)).map V.int)) := upd_same;generalize upd (upd H19 p20 (.rng 0 ((row.length : Int) + 1))) p21 (.lst ((ids (row.length + 1)).map V.int)) = H21 at x21 k21 ⊢;replace W := W.same x21;refine ⟨x,R,p21,_,tb,zs,row,ids (row.length + 1),rfl,W.hM,G,t100,SqL.of W.hR,SqL.of k21,by omega,iin,λ _ t22 H22 x22 k22 => ?_,λ l' hl' => absurd (hb0.symm.trans hl') (λ z => by cases z)⟩;rw [pos_ids,pick_up] at k22;replace W := W.same x22;refine ⟨_,rfl,_,rfl,x,R,_,tb,zs,row,rfl,W.hM,G,t100,SqL.of W.hR,λ _ t23 H23 x23 k23 => ?_,λ l' hl' => absurd (hb0.symm.trans hl') (λ z => by cases z)⟩;replace W := W.same x23;refine ⟨t22,t23,_,rfl,rfl,SqT.of (x23 _ _ k22),SqT.of k23,_,rfl,iteF ?_⟩;clear x21 k21 x22 k22 x23 k23 hp20 hp21;have rinv : ∀ c ∈ row.reverse,c ∈ rs.map (·.1) := λ c hc => rin c (List.mem_reverse.mp hc);have hbr := bad_none.mpr rinv;refine ⟨_,rfl,_,rfl,_,rfl,R,_,rfl,SqL.of W.hR,λ p24 hp24 => ?_⟩;rw [<- List.map_reverse];have x24 := sm_new (o := .lst (row.reverse.map V.str)) hp24;have k24 : upd H23 p24 (.lst (row.reverse.map V.str)) p24 = some (.lst (row.reverse.map V.str)) := upd_same;generalize upd H23 p24 (.lst (row.reverse.map V.str)) = H24 at x24 k24 ⊢;replace W := W.same x24;refine ⟨T,l,p24,us,tb,_,row.reverse,rfl,W.hT,W.hl,SqL.of k24,G,l1000,rinv,λ ub H25 x25 kub => ?_⟩;replace W := W.same x25;clear x24 k24 x25 hp24;refine ⟨_,rfl,_,rfl,R,_,rfl,SqL.of W.hR,λ p26 hp26 => ?_⟩;rw [<- List.map_reverse];have x26 := sm_new (o := .lst (row.reverse.map V.str)) hp26;have k26 : upd H25 p26 (.lst (row.reverse.map V.str)) p26 = some (.lst (row.reverse.map V.str)) := upd_same;generalize upd H25 p26 (.lst (row.reverse.map V.str)) = H26 at x26 k26 ⊢;replace W := W.same x26;refine ⟨_,rfl,R,_,rfl,.inl (SqL.of W.hR),_,_,rfl,rfl,_,rfl,λ p27 hp27 => ?_⟩;rw [List.length_map];refine ⟨p27,_,_,rfl,upd_same,by decide,by decide,by omega,by omega,λ p28 hp28 => ?_⟩;rw [er];have x28 : Same H26 (upd (upd H26 p27 (.rng 0 ((row.length : Int) + 1))) p28 (.lst ((ids (row.length + 1)).map V.int))) := (sm_new hp27).trans (sm_new hp28);have k28 : upd (upd H26 p27 (.rng 0 ((row.length : Int) + 1))) p28 (.lst ((ids (row.length + 1)).map V.int)) p28 = some (.lst ((ids (row.length + 1)).map V.int)) := upd_same;generalize upd (upd H26 p27 (.rng 0 ((row.length : Int) + 1))) p28 (.lst ((ids (row.length + 1)).map V.int)) = H28 at x28 k28 ⊢;replace W := W.same x28;have rvl : row.reverse.length = row.length := List.length_reverse;refine ⟨x,p26,p28,_,tb,zs,row.reverse,ids (row.length + 1),rfl,W.hM,G,t100,SqL.of (x28 _ _ k26),SqL.of k28,by omega,λ m hm => by rw [rvl]; exact iin m hm,λ _ t29 H29 x29 k29 => ?_,λ l' hl' => absurd (hbr.symm.trans hl') (λ z => by cases z)⟩
  rw [pos_ids,<- rvl,pick_up] at k29;replace W := W.same x29;refine ⟨_,rfl,t29,ub,_,rfl,k29,SqT.of (x29 _ _ (x28 _ _ (x26 _ _ kub))),by rw [map_len]; exact t100,λ H30 x30 => ⟨true,rfl,iteF ?_⟩⟩;replace W := W.same x30;clear x26 k26 x28 k28 x29 k29 x30 hp26 hp27 hp28 kub er il iin rinv hbr;obtain ⟨dx,ml,mt,mg',ms,q1,q2,q3,q4,q5⟩ := id W.hM;refine ⟨_,rfl,x,C,dx,_,_,rfl,q1,S.cls,S.n1,rfl,_,rfl,x,C,dx,_,_,rfl,q1,S.cls,S.n2,rfl,_,rfl,x,C,dx,_,_,rfl,q1,S.cls,S.n3,rfl,_,rfl,tiny (show 4 <= 1000 by decide),λ tk htk => ?_⟩;have x31 := sm_new (o := .tup [.ref ml,.ref mt,.ref mg',.ref R]) htk;have dk := kept_data q2 q3 q4 q5 W.hR htk;generalize upd H30 tk (.tup [.ref ml,.ref mt,.ref mg',.ref R]) = H31 at x31 dk ⊢;refine ⟨tk,3,_,rfl,dk,ks,_,rfl,rfl,_,rfl,?_⟩;rw [decide_eq_true (rfl : V.str (keptD (rs.map (·.1)) tb zs row).shown = V.str (keptD (rs.map (·.1)) tb zs row).shown)];refine iteF ?_;replace W := W.same x31;clear q1 q2 q3 q4 q5 htk x31 dk;refine ⟨_,rfl,_,rfl,tiny (show 0 <= 1000 by decide),λ p32 hp32 => ?_⟩;have x32 := sm_new (o := .lst []) hp32;have k32 : upd H31 p32 (.lst []) p32 = some (.lst (([] : List Int).map V.int)) := upd_same;generalize upd H31 p32 (.lst []) = H32 at x32 k32 ⊢;replace W := W.same x32;refine ⟨x,R,p32,_,tb,zs,row,[],rfl,W.hM,G,t100,SqL.of W.hR,SqL.of k32,by show (0 : Nat) <= 100; omega,(by intro _ hm; cases hm),λ _ t33 H33 x33 k33 => ?_,λ l' hl' => absurd (hb0.symm.trans hl') (λ z => by cases z)⟩;rw [show pickG row (posG []) = [] from rfl,map_nil] at k33;replace W := W.same x33;have tl := Paired.length W.hT.rows;refine ⟨_,rfl,T,_,rfl,.inl (SqL.of W.hT.at_),_,rfl,λ p34 hp34 => ?_⟩;rw [List.length_map,tl];refine ⟨p34,_,_,rfl,upd_same,by decide,by decide,by omega,by omega,λ p35 hp35 => ?_⟩;rw [ids_rng];refine ⟨p35,_,rfl,.inl ⟨SqL.of upd_same,λ p36 hp36 => ?_⟩⟩;refine ⟨t33,p36,ids tb.length,rfl,?_,SqT.of upd_same,by unfold ids; rw [List.length_map,List.length_range]; exact t100,λ H37 _ => q H37⟩;exact (sm_new hp36) _ _ ((sm_new hp35) _ _ ((sm_new hp34) _ _ k33))
 refine ⟨_,rfl,_,rfl,L,rs,rfl,W.hL,by omega,λ r hr' => ⟨by have := (hG.row r hr').2.1; omega,(hG.row r hr').2.2⟩,λ E1 ds1 H17 _ dn _ dm hE1 x17 kE1 => ?_⟩
 obtain ⟨dne,d4⟩ := desks_few hG dn dm
 have dsub : ∀ d ∈ ds1,d ∈ ds := λ d hd => let ⟨r,h1,h2⟩ := (dm d).mp hd; hds r h1 d h2
 refine ⟨a,E1,ds1,rfl,(W.same x17).f,kE1,ne_flow hE1 W.f,dne,by omega,λ G1 grp H18 nG1 hG1 x18 f18 hgrp gl kG1 => ?_⟩
 have W18 := (W.same x17).ext x18 f18
 have kI18 := x18 _ _ nIa (x17 _ _ k16)
 have kO18 := x18 _ _ nOa (x17 _ _ k15)
 have kF18 := x18 _ _ nFa (x17 _ _ kF16)
 have nGI : G1 ≠ I := ne_of kG1 kI18 (λ z => nomatch z)
 refine ⟨G1,rfl,⟨_,SqL.of kG1⟩,for_list (xs := grp.map V.str) (λ i σ H' => ∃ (kvi : List (Key × V)) (v12 : Option V),σ = [some (.ref z),some (.ref a),some (.ref L),some (.ref l),some (.ref T),some (.ref Gd),some (.ref R),some (.ref x),some (.str (keptD (rs.map (·.1)) tb zs row).shown),some (.ref F),some (.ref O),some (.ref I),v12,none,none,none,none,none,none] /\ Ext I H18 H' /\ H' I = some (.dK kvi) /\ UD row.length kvi) ?_ ?_ ?_ ?_⟩
 . exact ⟨_,none,rfl,Ext.refl _ _,kI18,(UD.one 0 _).mono (Nat.zero_le _)⟩
 . rintro i σ H19 _ ⟨kvi,v12,_,x19,_⟩;exact SqL.of (x19 _ _ nGI kG1)
 . rintro i y σ H19 hy ⟨kvi,v12,rfl,x19,k19,u19⟩;rw [List.getElem?_map] at hy;obtain ⟨d,hd,rfl⟩ := Option.map_eq_some_iff.mp hy;obtain ⟨b,kv,nbO,nbI,e1,e2,e3⟩ := vd (Hn := H18) (λ b o n1 n2 n3 h => x18 _ _ n3 (x17 _ _ h)) d (dsub d (hgrp d (List.mem_of_getElem? hd)));have l1 := u19.few;have l2 := e3.few;refine ⟨_,rfl,.inr (.inr (.inl ⟨rfl,.inl ⟨_,k19⟩⟩)),_,rfl,_,rfl,F,_,rfl,.inl ⟨kvf,.inr d,.inl (x19 _ _ nFI kF18),rfl,e1.symm⟩,I,b,kvi,kv,rfl,rfl,k19,x19 _ _ nbI e2,Ne.symm nbI,by omega,?_⟩;exact ⟨_,_,rfl,x19.trans Ext.own,upd_same,u19.merge e3⟩
 rintro σ H19 ⟨kvi,v12,rfl,x19,k19,u19⟩
 have W19 := W18.put x19 kI18 hI0
 have kO19 := x19 _ _ nOI kO18
 have kF19 := x19 _ _ nFI kF18
 refine ⟨_,rfl,a,4,rfl,W19.f,by decide,by decide,λ rr H20 rr0 rr1 f20 x20 => ⟨_,_,rfl,rfl,_,rfl,ite2 (λ c => ?_) (λ c => ?_)⟩⟩
 . have W20 := W19.ext x20 f20;have kI20 := x20 _ _ nIa k19;have kO20 := x20 _ _ nOa kO19;have kF20 := x20 _ _ nFa kF19;refine ⟨_,rfl,_,rfl,L,rs,rfl,W20.hL,by omega,λ r hr' => ⟨by have := (hG.row r hr').2.1; omega,(hG.row r hr').2.2⟩,λ E2 ds2 H21 _ dn2 _ dm2 hE2 x21 kE2 => ?_⟩;obtain ⟨dne2,d42⟩ := desks_few hG dn2 dm2;have dsub2 : ∀ d ∈ ds2,d ∈ ds := λ d hd => let ⟨r,h1,h2⟩ := (dm2 d).mp hd; hds r h1 d h2
   refine ⟨a,E2,ds2,rfl,(W20.same x21).f,kE2,ne_flow hE2 W20.f,dne2,by omega,λ G2 grp2 H22 nG2 hG2 x22 f22 hgrp2 gl2 kG2 => ?_⟩;have W22 := (W20.same x21).ext x22 f22;have kI22 := x22 _ _ nIa (x21 _ _ kI20);have kO22 := x22 _ _ nOa (x21 _ _ kO20);have kF22 := x22 _ _ nFa (x21 _ _ kF20);have nGO : G2 ≠ O := ne_of kG2 kO22 (λ z => nomatch z);refine ⟨G2,rfl,⟨_,SqL.of kG2⟩,for_list (xs := grp2.map V.str) (λ i σ H' => ∃ (kvo : List (Key × V)) (v12 : Option V),σ = [some (.ref z),some (.ref a),some (.ref L),some (.ref l),some (.ref T),some (.ref Gd),some (.ref R),some (.ref x),some (.str (keptD (rs.map (·.1)) tb zs row).shown),some (.ref F),some (.ref O),some (.ref I),v12,none,none,none,none,none,none] /\ Ext O H22 H' /\ H' O = some (.dK kvo) /\ UD row.length kvo /\ (Sum.inl 0 : Key) ∈ kvo.map (·.1)) ?_ ?_ ?_ ?_⟩
   . exact ⟨_,_,rfl,Ext.refl _ _,kO22,(UD.one 0 _).mono (Nat.zero_le _),List.mem_cons_self⟩
   . rintro i σ H23 _ ⟨kvo,v12,_,x23,_⟩;exact SqL.of (x23 _ _ nGO kG2)
   . rintro i y σ H23 hy ⟨kvo,v12,rfl,x23,k23,u23,z23⟩;rw [List.getElem?_map] at hy;obtain ⟨d,hd,rfl⟩ := Option.map_eq_some_iff.mp hy;obtain ⟨b,kv,nbO,nbI,e1,e2,e3⟩ := vd (Hn := H22) (λ b o n1 n2 n3 h => x22 _ _ n3 (x21 _ _ (x20 _ _ n3 (x19 _ _ n2 (x18 _ _ n3 (x17 _ _ h)))))) d (dsub2 d (hgrp2 d (List.mem_of_getElem? hd)));have l1 := u23.few;have l2 := e3.few;refine ⟨_,rfl,.inr (.inr (.inl ⟨rfl,.inl ⟨_,k23⟩⟩)),_,rfl,_,rfl,F,_,rfl,.inl ⟨kvf,.inr d,.inl (x23 _ _ nFO kF22),rfl,e1.symm⟩,O,b,kvo,kv,rfl,rfl,k23,x23 _ _ nbO e2,Ne.symm nbO,by omega,?_⟩;exact ⟨_,_,rfl,x23.trans Ext.own,upd_same,u23.merge e3,(keys_merge _ _ _).mpr (.inl z23)⟩
   rintro σ H23 ⟨kvo,v12',rfl,x23,k23,u23,z23⟩;exact rest kvo kvi _ H23 (W22.put x23 kO22 hO0) k23 z23 (x23 _ _ (Ne.symm nOI) kI22) u19
 . exact rest _ kvi _ H20 (W19.ext x20 f20) (x20 _ _ nOa kO19) List.mem_cons_self (x20 _ _ nIa k19) u19
end
end KK
namespace KK
open PySem L2 PyProof.Rows
abbrev s_Twice___init : Stmt := inClass (top 2) 0
abbrev s_BadStep___init : Stmt := inClass (top 3) 0
abbrev s_BadGood___init : Stmt := inClass (top 4) 0
abbrev s_NoLetter___init : Stmt := inClass (top 5) 0
theorem us1 {α : Type} {C : List α -> Prop} (h : ∀ a,C [a]) (us : List α) (hl : us.length = 1) : C us := by
 cases us with
 | nil => cases hl
 | cons a t =>
  obtain rfl := List.length_eq_zero_iff.mp (Nat.succ.inj hl);exact h a
theorem us2 {α : Type} {C : List α -> Prop} (h : ∀ a b,C [a,b]) (us : List α) (hl : us.length = 2) : C us := by
 cases us with
 | nil => cases hl
 | cons a t => exact us1 (C := λ t => C (a :: t)) (h a) t (Nat.succ.inj hl)
theorem us3 {α : Type} {C : List α -> Prop} (h : ∀ a b c,C [a,b,c]) (us : List α) (hl : us.length = 3) : C us := by
 cases us with
 | nil => cases hl
 | cons a t => exact us2 (C := λ t => C (a :: t)) (h a) t (Nat.succ.inj hl)
theorem us4 {α : Type} {C : List α -> Prop} (h : ∀ a b c d,C [a,b,c,d]) (us : List α) (hl : us.length = 4) : C us := by
 cases us with
 | nil => cases hl
 | cons a t => exact us3 (C := λ t => C (a :: t)) (h a) t (Nat.succ.inj hl)
theorem us5 {α : Type} {C : List α -> Prop} (h : ∀ a b c d e,C [a,b,c,d,e]) (us : List α) (hl : us.length = 5) : C us := by
 cases us with
 | nil => cases hl
 | cons a t => exact us4 (C := λ t => C (a :: t)) (h a) t (Nat.succ.inj hl)
def Df (K : W.Frag) (x : Str) (st : Stmt) : Prop := ∃ (f : Addr) (oc : Value) (od an : Option Addr) (sl : Array (Option Value)) (kV dc pm cd ct : Value),PySem.W.nsIn K mainGlobals x = some (some (.ref f)) /\ K.lookup f = some ⟨oc,od,.func (PySem.W.fnOf x x (defArgs st) (defBody st) (defScope st) .none kV dc pm an cd ct),sl⟩ /\ PySem.W.codeIn K cd x = true /\ W.keepIn K (.ref f) = true
theorem Df.mk' {K : W.Frag} {x : Str} {st : Stmt} {f : Addr} {oc : Value} {od an : Option Addr} {sl : Array (Option Value)} {kV dc pm cd ct : Value} (a : PySem.W.nsIn K mainGlobals x = some (some (.ref f))) (l : K.lookup f = some ⟨oc,od,.func (PySem.W.fnOf x x (defArgs st) (defBody st) (defScope st) .none kV dc pm an cd ct),sl⟩) (c : PySem.W.codeIn K cd x = true) (k : W.keepIn K (.ref f) = true) : Df K x st := ⟨f,oc,od,an,sl,kV,dc,pm,cd,ct,a,l,c,k⟩
theorem Df.get {K : W.Frag} {x : Str} {st : Stmt} {h : Heap} {mg : Str -> Option Value} (p : Df K x st) (X : K.In h) (G : h.Ns mainGlobals mg) : ∃ (f : Addr) (fd : FuncData),Fun K x x st f fd /\ W.keepIn K (.ref f) = true /\ mg x = some (.ref f) := by
 obtain ⟨f,oc,od,an,sl,kV,dc,pm,cd,ct,a,l,c,k⟩ := p
 exact ⟨f,_,fun_mk l c k,k,PySem.W.mg_of X G a⟩
theorem df_binds {K : W.Frag} {x y : Str} {st : Stmt} {f : Addr} {fd : FuncData} (F : Fun K x x st f fd) (hb : ∀ (kV dc pm : Value) (an : Option Addr) (cd ct : Value) (v : Value),bindArgs (PySem.W.fnOf x x (defArgs st) (defBody st) (defScope st) .none kV dc pm an cd ct) ⟨[v],[]⟩ = pure [(y,v)]) (s : Shared) (v : Value) : BindsTo s fd ⟨[v],[]⟩ [(y,v)] := by
 obtain ⟨oc,od,kV,dc,pm,an,cd,ct,sl,rfl,lk,hcd⟩ := F.ex
 exact .of_eq (hb kV dc pm an cd ct v)
set_option maxHeartbeats 40000000 in
theorem all_mk {l : W.OpenLaw} {w : World} {K : W.Frag} {h : Heap} {mg : Str -> Option Value} {fa : Addr} (X : K.In h) (G : h.Ns mainGlobals mg) (hfa : mg "law" = some (.ref fa))
 {C_Machine : Addr}
 {f_ini : Addr} {od_ini an_ini : Option Addr} {sl_ini : Array (Option Value)} {oc_ini kV_ini dc_ini pm_ini cd_ini ct_ini : Value}
 {cM : Addr}
 {cT : Addr} {nmT quT : Str} {NT : Addr} {bsT subT : List Value} {snT : List Str} {abT : Bool} {colT : Option Bool} {ddT : Option Addr} {uT vT wT xT yT : Option Value} {gT : Addr}
 {od_gT an_gT : Option Addr} {sl_gT : Array (Option Value)} {oc_gT kV_gT dc_gT pm_gT cd_gT ct_gT : Value}
 {cB : Addr} {nmB quB : Str} {NB : Addr} {bsB subB : List Value} {snB : List Str} {abB : Bool} {colB : Option Bool} {ddB : Option Addr} {uB vB wB xB yB : Option Value} {gB : Addr}
 {od_gB an_gB : Option Addr} {sl_gB : Array (Option Value)} {oc_gB kV_gB dc_gB pm_gB cd_gB ct_gB : Value}
 {cG : Addr} {nmG quG : Str} {NG : Addr} {bsG subG : List Value} {snG : List Str} {abG : Bool} {colG : Option Bool} {ddG : Option Addr} {uG vG wG xG yG : Option Value} {gG : Addr}
 {od_gG an_gG : Option Addr} {sl_gG : Array (Option Value)} {oc_gG kV_gG dc_gG pm_gG cd_gG ct_gG : Value}
 {cN : Addr} {nmN quN : Str} {NN : Addr} {bsN subN : List Value} {snN : List Str} {abN : Bool} {colN : Option Bool} {ddN : Option Addr} {uN vN wN xN yN : Option Value} {gN : Addr}
 {od_gN an_gN : Option Addr} {sl_gN : Array (Option Value)} {oc_gN kV_gN dc_gN pm_gN cd_gN ct_gN : Value}
 {nmM quM : Str} {NM : Addr} {bsM subM : List Value} {snM : List Str} {abM : Bool} {colM : Option Bool} {ddM : Option Addr} {uM vM wM xM yM : Option Value}
 (p_cell : Df K "_law_cell" sCell)
 (p_flow : Df K "_law_flow" sFlow)
 (p_draw : Df K "_law_draw" sDraw)
 (p_nam : Df K "_law_names" sNames)
 (p_hou : Df K "_law_houses" s_law_houses)
 (p_des : Df K "_law_desks" s_law_desks)
 (p_siz : Df K "_law_sizes" s_law_sizes)
 (p_spl : Df K "_law_split" s_law_split)
 (p_put : Df K "_law_put" s_law_put)
 (p_mov : Df K "_law_moves" s_law_moves)
 (p_cal : Df K "_law_calm" s_law_calm)
 (p_row : Df K "_law_row" s_law_row)
 (p_met : Df K "_law_met" s_law_met)
 (p_vie : Df K "_law_views" s_law_views)
 (p_exc : Df K "_law_exchanged" s_law_exchanged)
 (p_gro : Df K "_law_group" s_law_group)
 (p_who : Df K "_law_whole" s_law_whole)
 (p_led : Df K "_law_led" s_law_led)
 (p_ism : Df K "_law_is_map" s_law_is_map)
 (p_law : Df K "law" s_law)
 (p_ris : Df K "rising" s_rising)
 (p_twi : Df K "refuse_twice" s_refuse_twice)
 (p_ste : Df K "refuse_steps" s_refuse_steps)
 (p_goo : Df K "refuse_good" s_refuse_good)
 (p_rfl : Df K "refuse_letters" s_refuse_letters)
 (p_sta : Df K "staying" s_staying)
 (p_the : Df K "and_then" s_and_then)
 (p_map : Df K "map_of" s_map_of)
 (p_alo : Df K "along" s_along)
 (ca_Machine : W.nsIn K mainGlobals "Machine" = some (some (.ref C_Machine)))
 (cm_Machine : W.makesIn K C_Machine = true)
 (ck_Machine : W.keepIn K (.ref C_Machine) = true)
 (cg_Machine : W.plainGet K C_Machine Str.empty = true)
 (ch_Machine : W.hasDictIn K C_Machine = true)
 (co_Machine : W.plainOver K C_Machine = true)
 (cs_Machine : W.findIn K (.ref C_Machine) "__setattr__" = some (some (.builtin "object.__setattr__")))
 (cf_Machine_letters : W.findIn K (.ref C_Machine) "letters" = some none)
 (cf_Machine_table : W.findIn K (.ref C_Machine) "table" = some none)
 (cf_Machine_good : W.findIn K (.ref C_Machine) "good" = some none)
 (ma_ini : W.findIn K (.ref C_Machine) "__init__" = some (some (.ref f_ini)))
 (mb_ini : W.isFn K (.ref f_ini) = true)
 (l_ini : K.lookup f_ini = some ⟨oc_ini,od_ini,.func (W.fnOf "__init__" "Machine.__init__" (defArgs s_Machine___init) (defBody s_Machine___init) (defScope s_Machine___init) .none kV_ini dc_ini pm_ini an_ini cd_ini ct_ini),sl_ini⟩)
 (c_ini : W.codeIn K cd_ini "Machine.__init__" = true)
 (k_ini : W.keepIn K (.ref f_ini) = true)
 (aM : W.nsIn K mainGlobals "MeetError" = some (some (.ref cM)))
 (kg : W.specialIn K (.builtin "object.__class__") "__get__" = some (some (.builtin "getset_descriptor.__get__")))
 (kt : W.takesIn K (.builtin "object.__class__") = some true)
 (caT : W.nsIn K mainGlobals "Twice" = some (some (.ref cT)))
 (cbT : K.lookup cT = some (excClassObj nmT quT cT NT bsT (.ref cM :: vTail) true snT subT abT colT ddT uT vT wT xT yT "ValueError.__new__"))
 (ccT : W.findIn K (.ref cT) "__getattribute__" = some (some (.builtin "BaseException.__getattribute__")))
 (cxT : W.findIn K (.ref cT) "__getattr__" = some none)
 (cdT : W.hasDictIn K cT = true)
 (ceT : W.findIn K (.ref cT) "__setattr__" = some (some (.builtin "object.__setattr__")))
 (cfT : W.findIn K (.ref cT) "__class__" = some (some (.builtin "object.__class__")))
 (cgT : W.mroIn K cT (.type "object") = some true)
 (chT : W.keepIn K (.ref cT) = true)
 (gaT : W.findIn K (.ref cT) "__init__" = some (some (.ref gT)))
 (gbT : W.isFn K (.ref gT) = true)
 (l_gT : K.lookup gT = some ⟨oc_gT,od_gT,.func (W.fnOf "__init__" "Twice.__init__" (defArgs s_Twice___init) (defBody s_Twice___init) (defScope s_Twice___init) .none kV_gT dc_gT pm_gT an_gT cd_gT ct_gT),sl_gT⟩)
 (c_gT : W.codeIn K cd_gT "Twice.__init__" = true)
 (k_gT : W.keepIn K (.ref gT) = true)
 (hnT : W.findIn K (.ref cT) "name" = some none)
 (caB : W.nsIn K mainGlobals "BadStep" = some (some (.ref cB)))
 (cbB : K.lookup cB = some (excClassObj nmB quB cB NB bsB (.ref cM :: vTail) true snB subB abB colB ddB uB vB wB xB yB "ValueError.__new__"))
 (ccB : W.findIn K (.ref cB) "__getattribute__" = some (some (.builtin "BaseException.__getattribute__")))
 (cxB : W.findIn K (.ref cB) "__getattr__" = some none)
 (cdB : W.hasDictIn K cB = true)
 (ceB : W.findIn K (.ref cB) "__setattr__" = some (some (.builtin "object.__setattr__")))
 (cfB : W.findIn K (.ref cB) "__class__" = some (some (.builtin "object.__class__")))
 (cgB : W.mroIn K cB (.type "object") = some true)
 (chB : W.keepIn K (.ref cB) = true)
 (gaB : W.findIn K (.ref cB) "__init__" = some (some (.ref gB)))
 (gbB : W.isFn K (.ref gB) = true)
 (l_gB : K.lookup gB = some ⟨oc_gB,od_gB,.func (W.fnOf "__init__" "BadStep.__init__" (defArgs s_BadStep___init) (defBody s_BadStep___init) (defScope s_BadStep___init) .none kV_gB dc_gB pm_gB an_gB cd_gB ct_gB),sl_gB⟩)
 (c_gB : W.codeIn K cd_gB "BadStep.__init__" = true)
 (k_gB : W.keepIn K (.ref gB) = true)
 (hnB : W.findIn K (.ref cB) "state" = some none)
 (hnB2 : W.findIn K (.ref cB) "letter" = some none)
 (caG : W.nsIn K mainGlobals "BadGood" = some (some (.ref cG)))
 (cbG : K.lookup cG = some (excClassObj nmG quG cG NG bsG (.ref cM :: vTail) true snG subG abG colG ddG uG vG wG xG yG "ValueError.__new__"))
 (ccG : W.findIn K (.ref cG) "__getattribute__" = some (some (.builtin "BaseException.__getattribute__")))
 (cxG : W.findIn K (.ref cG) "__getattr__" = some none)
 (cdG : W.hasDictIn K cG = true)
 (ceG : W.findIn K (.ref cG) "__setattr__" = some (some (.builtin "object.__setattr__")))
 (cfG : W.findIn K (.ref cG) "__class__" = some (some (.builtin "object.__class__")))
 (cgG : W.mroIn K cG (.type "object") = some true)
 (chG : W.keepIn K (.ref cG) = true)
 (gaG : W.findIn K (.ref cG) "__init__" = some (some (.ref gG)))
 (gbG : W.isFn K (.ref gG) = true)
 (l_gG : K.lookup gG = some ⟨oc_gG,od_gG,.func (W.fnOf "__init__" "BadGood.__init__" (defArgs s_BadGood___init) (defBody s_BadGood___init) (defScope s_BadGood___init) .none kV_gG dc_gG pm_gG an_gG cd_gG ct_gG),sl_gG⟩)
 (c_gG : W.codeIn K cd_gG "BadGood.__init__" = true)
 (k_gG : W.keepIn K (.ref gG) = true)
 (hnG : W.findIn K (.ref cG) "state" = some none)
 (caN : W.nsIn K mainGlobals "NoLetter" = some (some (.ref cN)))
 (cbN : K.lookup cN = some (excClassObj nmN quN cN NN bsN (.ref cM :: vTail) true snN subN abN colN ddN uN vN wN xN yN "ValueError.__new__"))
 (ccN : W.findIn K (.ref cN) "__getattribute__" = some (some (.builtin "BaseException.__getattribute__")))
 (cxN : W.findIn K (.ref cN) "__getattr__" = some none)
 (cdN : W.hasDictIn K cN = true)
 (ceN : W.findIn K (.ref cN) "__setattr__" = some (some (.builtin "object.__setattr__")))
 (cfN : W.findIn K (.ref cN) "__class__" = some (some (.builtin "object.__class__")))
 (cgN : W.mroIn K cN (.type "object") = some true)
 (chN : W.keepIn K (.ref cN) = true)
 (gaN : W.findIn K (.ref cN) "__init__" = some (some (.ref gN)))
 (gbN : W.isFn K (.ref gN) = true)
 (l_gN : K.lookup gN = some ⟨oc_gN,od_gN,.func (W.fnOf "__init__" "NoLetter.__init__" (defArgs s_NoLetter___init) (defBody s_NoLetter___init) (defScope s_NoLetter___init) .none kV_gN dc_gN pm_gN an_gN cd_gN ct_gN),sl_gN⟩)
 (c_gN : W.codeIn K cd_gN "NoLetter.__init__" = true)
 (k_gN : W.keepIn K (.ref gN) = true)
 (hnN : W.findIn K (.ref cN) "letter" = some none)
 (cbM : K.lookup cM = some (excClassObj nmM quM cM NM bsM vTail true snM subM abM colM ddM uM vM wM xM yM "ValueError.__new__"))
 (z_len : W.nsIn K mainGlobals "len" = some none)
 (z_range : W.nsIn K mainGlobals "range" = some none)
 (z_max : W.nsIn K mainGlobals "max" = some none)
 (z_sorted : W.nsIn K mainGlobals "sorted" = some none)
 (z_tuple : W.nsIn K mainGlobals "tuple" = some none)
 (z_list : W.nsIn K mainGlobals "list" = some none)
 (z_set : W.nsIn K mainGlobals "set" = some none)
 (z_int : W.nsIn K mainGlobals "int" = some none)
 (z_isinstance : W.nsIn K mainGlobals "isinstance" = some none)
 (z_all : W.nsIn K mainGlobals "all" = some none)
 (z_str : W.nsIn K mainGlobals "str" = some none)
 (z_bool : W.nsIn K mainGlobals "bool" = some none)
 (z_min : W.nsIn K mainGlobals "min" = some none)
 (z_dict : W.nsIn K mainGlobals "dict" = some none)
 (z_any : W.nsIn K mainGlobals "any" = some none)
 (z_enumerate : W.nsIn K mainGlobals "enumerate" = some none)
 (z_zip : W.nsIn K mainGlobals "zip" = some none)
 (z_repr : W.nsIn K mainGlobals "repr" = some none) :
 ∃ fd : FuncData,(∀ (s : Shared) (v : Value),BindsTo s fd ⟨[v],[]⟩ [("_law_script",v)]) /\ ∀ base : Heap,K.In base -> base.Ns mainGlobals mg -> FnOk l.prog w K mg base CX0 12 fa fd ["_law_script"] (spLaw K) := by
 obtain ⟨f_cell,d_cell,F_cell,k_cell,m_cell⟩ := p_cell.get X G
 obtain ⟨f_flow,d_flow,F_flow,k_flow,m_flow⟩ := p_flow.get X G
 obtain ⟨f_draw,d_draw,F_draw,k_draw,m_draw⟩ := p_draw.get X G
 obtain ⟨f_nam,d_nam,F_nam,k_nam,m_nam⟩ := p_nam.get X G
 obtain ⟨f_hou,d_hou,F_hou,k_hou,m_hou⟩ := p_hou.get X G
 obtain ⟨f_des,d_des,F_des,k_des,m_des⟩ := p_des.get X G
 obtain ⟨f_siz,d_siz,F_siz,k_siz,m_siz⟩ := p_siz.get X G
 obtain ⟨f_spl,d_spl,F_spl,k_spl,m_spl⟩ := p_spl.get X G
 obtain ⟨f_put,d_put,F_put,k_put,m_put⟩ := p_put.get X G
 obtain ⟨f_mov,d_mov,F_mov,k_mov,m_mov⟩ := p_mov.get X G
 obtain ⟨f_cal,d_cal,F_cal,k_cal,m_cal⟩ := p_cal.get X G
 obtain ⟨f_row,d_row,F_row,k_row,m_row⟩ := p_row.get X G
 obtain ⟨f_met,d_met,F_met,k_met,m_met⟩ := p_met.get X G
 obtain ⟨f_vie,d_vie,F_vie,k_vie,m_vie⟩ := p_vie.get X G
 obtain ⟨f_exc,d_exc,F_exc,k_exc,m_exc⟩ := p_exc.get X G
 obtain ⟨f_gro,d_gro,F_gro,k_gro,m_gro⟩ := p_gro.get X G
 obtain ⟨f_who,d_who,F_who,k_who,m_who⟩ := p_who.get X G
 obtain ⟨f_led,d_led,F_led,k_led,m_led⟩ := p_led.get X G
 obtain ⟨f_ism,d_ism,F_ism,k_ism,m_ism⟩ := p_ism.get X G
 obtain ⟨f_law,d_law,F_law,k_law,m_law⟩ := p_law.get X G
 obtain ⟨f_ris,d_ris,F_ris,k_ris,m_ris⟩ := p_ris.get X G
 obtain ⟨f_twi,d_twi,F_twi,k_twi,m_twi⟩ := p_twi.get X G
 obtain ⟨f_ste,d_ste,F_ste,k_ste,m_ste⟩ := p_ste.get X G
 obtain ⟨f_goo,d_goo,F_goo,k_goo,m_goo⟩ := p_goo.get X G
 obtain ⟨f_rfl,d_rfl,F_rfl,k_rfl,m_rfl⟩ := p_rfl.get X G
 obtain ⟨f_sta,d_sta,F_sta,k_sta,m_sta⟩ := p_sta.get X G
 obtain ⟨f_the,d_the,F_the,k_the,m_the⟩ := p_the.get X G
 obtain ⟨f_map,d_map,F_map,k_map,m_map⟩ := p_map.get X G
 obtain ⟨f_alo,d_alo,F_alo,k_alo,m_alo⟩ := p_alo.get X G
 have e := hfa.symm.trans m_law
 cases e
 have F_ini := fun_mk (st := s_Machine___init) l_ini c_ini k_ini
 have b_cell := F_cell.binds (ps := ["_law_script","_law_k"]) λ _ _ _ _ _ _ => us2 λ _ _ => rfl
 have b_flow := F_flow.binds (ps := ["_law_script","_law_k"]) λ _ _ _ _ _ _ => us2 λ _ _ => rfl
 have b_draw := F_draw.binds (ps := ["_law_flow_here","_law_many"]) λ _ _ _ _ _ _ => us2 λ _ _ => rfl
 have b_nam := F_nam.binds (ps := ["_law_flow_here","_law_many"]) λ _ _ _ _ _ _ => us2 λ _ _ => rfl
 have b_hou := F_hou.binds (ps := ["_law_flow_here","_law_count"]) λ _ _ _ _ _ _ => us2 λ _ _ => rfl
 have b_des := F_des.binds (ps := ["_law_rows"]) λ _ _ _ _ _ _ => us1 λ _ => rfl
 have b_siz := F_siz.binds (ps := ["_law_flow_here","_law_desks_here","_law_most"]) λ _ _ _ _ _ _ => us3 λ _ _ _ => rfl
 have b_spl := F_spl.binds (ps := ["_law_state","_law_sizes_here"]) λ _ _ _ _ _ _ => us2 λ _ _ => rfl
 have b_put := F_put.binds (ps := ["_law_parts","_law_sizes_here"]) λ _ _ _ _ _ _ => us2 λ _ _ => rfl
 have b_mov := F_mov.binds (ps := ["_law_flow_here","_law_places","_law_sizes_here"]) λ _ _ _ _ _ _ => us3 λ _ _ _ => rfl
 have b_cal := F_cal.binds (ps := ["_law_script","_law_first","_law_rows","_law_most"]) λ _ _ _ _ _ _ => us4 λ _ _ _ _ => rfl
 have b_row := F_row.binds (ps := ["_law_script","_law_first","_law_rows","_law_many"]) λ _ _ _ _ _ _ => us4 λ _ _ _ _ => rfl
 have b_met := F_met.binds (ps := ["_law_meet","_law_under","_law_tops","_law_lasts","_law_letter"]) λ _ _ _ _ _ _ => us5 λ _ _ _ _ _ => rfl
 have b_vie := F_vie.binds (ps := ["_law_rows","_law_row_here"]) λ _ _ _ _ _ _ => us2 λ _ _ => rfl
 have b_exc := F_exc.binds (ps := ["_law_flow_here","_law_rows","_law_row_here"]) λ _ _ _ _ _ _ => us3 λ _ _ _ => rfl
 have b_gro := F_gro.binds (ps := ["_law_flow_here","_law_desks_here"]) λ _ _ _ _ _ _ => us2 λ _ _ => rfl
 have b_who := F_who.binds (ps := ["_law_found"]) λ _ _ _ _ _ _ => us1 λ _ => rfl
 have b_led := F_led.binds (ps := ["_law_table","_law_letters","_law_names_here"]) λ _ _ _ _ _ _ => us3 λ _ _ _ => rfl
 have b_ism := F_ism.binds (ps := ["_law_found","_law_due"]) λ _ _ _ _ _ _ => us2 λ _ _ => rfl
 have b_ris := F_ris.binds (ps := ["things"]) λ _ _ _ _ _ _ => us1 λ _ => rfl
 have b_twi := F_twi.binds (ps := ["names"]) λ _ _ _ _ _ _ => us1 λ _ => rfl
 have b_ste := F_ste.binds (ps := ["letters","table"]) λ _ _ _ _ _ _ => us2 λ _ _ => rfl
 have b_goo := F_goo.binds (ps := ["table","good"]) λ _ _ _ _ _ _ => us2 λ _ _ => rfl
 have b_rfl := F_rfl.binds (ps := ["letters","row"]) λ _ _ _ _ _ _ => us2 λ _ _ => rfl
 have b_sta := F_sta.binds (ps := ["many"]) λ _ _ _ _ _ _ => us1 λ _ => rfl
 have b_the := F_the.binds (ps := ["one","other"]) λ _ _ _ _ _ _ => us2 λ _ _ => rfl
 have b_map := F_map.binds (ps := ["machine","row"]) λ _ _ _ _ _ _ => us2 λ _ _ => rfl
 have b_alo := F_alo.binds (ps := ["machine","row","numbers"]) λ _ _ _ _ _ _ => us3 λ _ _ _ => rfl
 have b_ini := F_ini.binds (ps := ["self","letters","table","good"]) λ _ _ _ _ _ _ => us4 λ _ _ _ _ => rfl
 have B : Bt mg := ⟨W.mg_none_of X G z_len,W.mg_none_of X G z_range,W.mg_none_of X G z_max,W.mg_none_of X G z_sorted,W.mg_none_of X G z_tuple,W.mg_none_of X G z_list,W.mg_none_of X G z_set,W.mg_none_of X G z_int,W.mg_none_of X G z_isinstance,W.mg_none_of X G z_all,W.mg_none_of X G z_str,W.mg_none_of X G z_bool,W.mg_none_of X G z_min,W.mg_none_of X G z_dict,W.mg_none_of X G z_any,W.mg_none_of X G z_enumerate,W.mg_none_of X G z_zip,W.mg_none_of X G z_repr⟩
 refine ⟨d_law,λ s v => df_binds F_law (λ _ _ _ _ _ _ _ => rfl) s v,λ base _ _ => ?_⟩
 have xcT : XC K cT cM := ⟨⟨_,_,_,_,_,_,_,_,_,_,_,_,_,_,cbT⟩,ccT,cxT,cdT,ceT,cfT,kg,kt,cgT,chT⟩
 have F_gT := fun_mk (st := s_Twice___init) l_gT c_gT k_gT
 have b_gT := F_gT.binds (ps := ["self","name"]) λ _ _ _ _ _ _ us hl => by
  apply us2 ?_ us hl
  intros
  rfl
 have T0T := ok_init1 (P := l.prog) (w := w) (mg := mg) (base := base) (k := 0) (C := cT) (M := cM) (f1 := "name") F_gT xcT hnT (.of rfl rfl rfl rfl (by decide +kernel)) rfl (by decide +kernel) (by decide +kernel) (by decide) (by decide)
 have xtT : XM1 l.prog w K mg base 1 "Twice" "name" cT cM gT _ := ⟨xcT,gaT,gbT,T0T,b_gT,W.mg_of X G caT,hnT⟩
 have xcB : XC K cB cM := ⟨⟨_,_,_,_,_,_,_,_,_,_,_,_,_,_,cbB⟩,ccB,cxB,cdB,ceB,cfB,kg,kt,cgB,chB⟩
 have F_gB := fun_mk (st := s_BadStep___init) l_gB c_gB k_gB
 have b_gB := F_gB.binds (ps := ["self","state","letter"]) λ _ _ _ _ _ _ us hl => by
  apply us3 ?_ us hl
  intros
  rfl
 have T0B := ok_init2 (P := l.prog) (w := w) (mg := mg) (base := base) (k := 0) (C := cB) (M := cM) (f1 := "state") (f2 := "letter") F_gB xcB hnB hnB2 (.of rfl rfl rfl rfl (by decide +kernel)) rfl (by decide +kernel) (by decide +kernel) (by decide +kernel) (by decide) (by decide) (by decide) (by decide)
 have xtB : XM2 l.prog w K mg base 1 "BadStep" "state" "letter" cB cM gB _ := ⟨xcB,gaB,gbB,T0B,b_gB,W.mg_of X G caB,hnB,hnB2⟩
 have xcG : XC K cG cM := ⟨⟨_,_,_,_,_,_,_,_,_,_,_,_,_,_,cbG⟩,ccG,cxG,cdG,ceG,cfG,kg,kt,cgG,chG⟩
 have F_gG := fun_mk (st := s_BadGood___init) l_gG c_gG k_gG
 have b_gG := F_gG.binds (ps := ["self","state"]) λ _ _ _ _ _ _ us hl => by
  apply us2 ?_ us hl
  intros
  rfl
 have T0G := ok_init1 (P := l.prog) (w := w) (mg := mg) (base := base) (k := 0) (C := cG) (M := cM) (f1 := "state") F_gG xcG hnG (.of rfl rfl rfl rfl (by decide +kernel)) rfl (by decide +kernel) (by decide +kernel) (by decide) (by decide)
 have xtG : XM1 l.prog w K mg base 1 "BadGood" "state" cG cM gG _ := ⟨xcG,gaG,gbG,T0G,b_gG,W.mg_of X G caG,hnG⟩
 have xcN : XC K cN cM := ⟨⟨_,_,_,_,_,_,_,_,_,_,_,_,_,_,cbN⟩,ccN,cxN,cdN,ceN,cfN,kg,kt,cgN,chN⟩
 have F_gN := fun_mk (st := s_NoLetter___init) l_gN c_gN k_gN
 have b_gN := F_gN.binds (ps := ["self","letter"]) λ _ _ _ _ _ _ us hl => by
  apply us2 ?_ us hl
  intros
  rfl
 have T0N := ok_init1 (P := l.prog) (w := w) (mg := mg) (base := base) (k := 0) (C := cN) (M := cM) (f1 := "letter") F_gN xcN hnN (.of rfl rfl rfl rfl (by decide +kernel)) rfl (by decide +kernel) (by decide +kernel) (by decide) (by decide)
 have xtN : XM1 l.prog w K mg base 1 "NoLetter" "letter" cN cM gN _ := ⟨xcN,gaN,gbN,T0N,b_gN,W.mg_of X G caN,hnN⟩
 have D1 := ok_draw (P := l.prog) (w := w) (mg := mg) (base := base) (k := 0) F_draw
 have C1 := ok_cell (P := l.prog) (w := w) (mg := mg) (base := base) (k := 0) F_cell B.len_
 have W1 := ok_flow F_flow C1 b_cell k_cell m_cell
 have Y1 := ok_names F_nam D1 b_draw k_draw m_draw B.range_ B.len_
 have dr2 : Fn l.prog w K mg base 2 _ _ _ _ _ := ⟨D1.mono (by decide),b_draw,k_draw,m_draw⟩
 have fl2 : Fn l.prog w K mg base 2 _ _ _ _ _ := ⟨W1.mono (by decide),b_flow,k_flow,m_flow⟩
 have na2 : Fn l.prog w K mg base 2 _ _ _ _ _ := ⟨Y1.mono (by decide),b_nam,k_nam,m_nam⟩
 have HO := ok_houses F_hou B dr2 na2
 have DE := ok_desks_of (P := l.prog) (w := w) (mg := mg) (base := base) (k := 2) F_des B
 have SI := ok_sizes F_siz B dr2
 have SP := ok_split (P := l.prog) (w := w) (mg := mg) (base := base) (k := 2) F_spl
 have PU := ok_put (P := l.prog) (w := w) (mg := mg) (base := base) (k := 2) F_put B
 have MV := ok_moves F_mov B dr2
 have des3 : Fn l.prog w K mg base 3 _ _ _ _ _ := ⟨DE.mono (by decide),b_des,k_des,m_des⟩
 have siz3 : Fn l.prog w K mg base 3 _ _ _ _ _ := ⟨SI.mono (by decide),b_siz,k_siz,m_siz⟩
 have spl3 : Fn l.prog w K mg base 3 _ _ _ _ _ := ⟨SP.mono (by decide),b_spl,k_spl,m_spl⟩
 have put3 : Fn l.prog w K mg base 3 _ _ _ _ _ := ⟨PU.mono (by decide),b_put,k_put,m_put⟩
 have mov3 : Fn l.prog w K mg base 3 _ _ _ _ _ := ⟨MV.mono (by decide),b_mov,k_mov,m_mov⟩
 have draw3 : Fn l.prog w K mg base 3 _ _ _ _ _ := ⟨D1.mono (by decide),b_draw,k_draw,m_draw⟩
 have flow3 : Fn l.prog w K mg base 3 _ _ _ _ _ := ⟨W1.mono (by decide),b_flow,k_flow,m_flow⟩
 have CA := ok_calm F_cal B flow3 draw3 mov3 spl3 put3 des3 siz3
 have RO := ok_row F_row B fl2 dr2
 have GR := ok_group F_gro B dr2
 have EX := ok_exch F_exc B dr2
 have ME := ok_met (P := l.prog) (w := w) (mg := mg) (base := base) (k := 2) F_met B
 have met3 : Fn l.prog w K mg base 3 _ _ _ _ _ := ⟨ME,b_met,k_met,m_met⟩
 have VI := ok_views F_vie B des3 met3
 have R1 := ok_rising (P := l.prog) (w := w) (mg := mg) (base := base) (k := 2) F_ris B
 have T1 := ok_twice F_twi B xtT
 have S1 := ok_steps F_ste B xtB
 have O1 := ok_good F_goo B xtG
 have L1 := ok_refl F_rfl xtN
 have G_twi : FnX l.prog w K mg base 3 _ _ _ _ _ := ⟨T1,b_twi,k_twi,m_twi⟩
 have G_ste : FnX l.prog w K mg base 3 _ _ _ _ _ := ⟨S1,b_ste,k_ste,m_ste⟩
 have G_goo : FnX l.prog w K mg base 3 _ _ _ _ _ := ⟨O1,b_goo,k_goo,m_goo⟩
 have G_ris : Fn l.prog w K mg base 3 _ _ _ _ _ := ⟨R1,b_ris,k_ris,m_ris⟩
 have G_rfl : FnX l.prog w K mg base 3 _ _ _ _ _ := ⟨L1,b_rfl,k_rfl,m_rfl⟩
 have S : MoC K C_Machine := ⟨⟨cg_Machine,ch_Machine,co_Machine,cs_Machine⟩,cf_Machine_letters,cf_Machine_table,cf_Machine_good⟩
 have I1 := ok_init F_ini B S G_twi G_ste G_goo G_ris
 have M1 : MakeM l.prog w K mg base 10 C_Machine cT cB cG f_ini _ := ⟨⟨cm_Machine,ma_ini,mb_ini,ck_Machine⟩,S,I1.mono (by decide),b_ini,W.mg_of X G ca_Machine⟩
 have ST := ok_stay (P := l.prog) (w := w) (mg := mg) (base := base) (k := 2) F_sta B
 have TH : FnOk l.prog w K mg base CX0 3 _ _ _ (spThenA K) := (ok_thenT (P := l.prog) (w := w) (mg := mg) (base := base) (k := 2) F_the B).or (ok_thenL (P := l.prog) (w := w) (mg := mg) (base := base) (k := 2) F_the B)
 have G_sta : Fn l.prog w K mg base 3 _ _ _ _ _ := ⟨ST,b_sta,k_sta,m_sta⟩
 have G_the : Fn l.prog w K mg base 3 _ _ _ _ _ := ⟨TH,b_the,k_the,m_the⟩
 have MP := ok_map F_map S B G_rfl G_sta G_the
 have rfl4 : FnX l.prog w K mg base 4 _ _ _ _ _ := ⟨L1.mono (by decide),b_rfl,k_rfl,m_rfl⟩
 have map4 : FnX l.prog w K mg base 4 _ _ _ _ _ := ⟨MP,b_map,k_map,m_map⟩
 have AL := ok_along F_alo S rfl4 map4
 have WH := ok_whole (P := l.prog) (w := w) (mg := mg) (base := base) (k := 2) F_who B
 have who3 : Fn l.prog w K mg base 3 _ _ _ _ _ := ⟨WH,b_who,k_who,m_who⟩
 have IM := ok_ismap F_ism B who3
 have LD := ok_led (P := l.prog) (w := w) (mg := mg) (base := base) (k := 3) F_led B
 have Z1 : Fn l.prog w K mg base 11 _ _ _ _ _ := ⟨W1.mono (by decide),b_flow,k_flow,m_flow⟩
 have Z2 : Fn l.prog w K mg base 11 _ _ _ _ _ := ⟨D1.mono (by decide),b_draw,k_draw,m_draw⟩
 have Z3 : Fn l.prog w K mg base 11 _ _ _ _ _ := ⟨HO.mono (by decide),b_hou,k_hou,m_hou⟩
 have Z4 : Fn l.prog w K mg base 11 _ _ _ _ _ := ⟨CA.mono (by decide),b_cal,k_cal,m_cal⟩
 have Z5 : Fn l.prog w K mg base 11 _ _ _ _ _ := ⟨IM.mono (by decide),b_ism,k_ism,m_ism⟩
 have Z6 : FnX l.prog w K mg base 11 _ _ _ _ _ := ⟨MP.mono (by decide),b_map,k_map,m_map⟩
 have Z7 : Fn l.prog w K mg base 11 _ _ _ _ _ := ⟨LD.mono (by decide),b_led,k_led,m_led⟩
 have Z8 : FnX l.prog w K mg base 11 _ _ _ _ _ := ⟨AL.mono (by decide),b_alo,k_alo,m_alo⟩
 have Z9 : Fn l.prog w K mg base 11 _ _ _ _ _ := ⟨RO.mono (by decide),b_row,k_row,m_row⟩
 have ZA : Fn l.prog w K mg base 11 _ _ _ _ _ := ⟨VI.mono (by decide),b_vie,k_vie,m_vie⟩
 have ZB : Fn l.prog w K mg base 11 _ _ _ _ _ := ⟨GR.mono (by decide),b_gro,k_gro,m_gro⟩
 have ZC : Fn l.prog w K mg base 11 _ _ _ _ _ := ⟨DE.mono (by decide),b_des,k_des,m_des⟩
 have ZD : Fn l.prog w K mg base 11 _ _ _ _ _ := ⟨EX.mono (by decide),b_exc,k_exc,m_exc⟩
 exact ok_law F_law B Z1 Z2 Z3 M1 Z4 Z5 Z6 Z7 Z8 Z9 ZA ZB ZC ZD
theorem walk {l : PySem.W.OpenLaw} {q : Program} {loose : List Str} {XP : (Str -> Option Value) -> Heap -> Prop} {YP : World -> Heap -> Prop} {d : DefRec} {K : Params -> W.Frag} (hn : l.most = some 63) (hdf : d.params.defaults = [])
 (hY : ∀ (w : World) (h : Heap),YP w h -> (K w.params).In h)
 (F : ∀ (w : World) (mg : Str -> Option Value) (fa : Addr) (h : Heap),(K w.params).In h -> h.Ns mainGlobals mg -> mg d.name = some (.ref fa) ->
  ∃ fd : FuncData,(∀ (s : Shared) (u : Value),BindsTo s fd ⟨[u],[]⟩ [("_law_script",u)]) /\ ∀ base : Heap,(K w.params).In base -> base.Ns mainGlobals mg -> FnOk l.prog w (K w.params) mg base CX0 12 fa fd ["_law_script"] (spLaw (K w.params))) :
 PySem.W.WalkO q loose XP YP l.row.toRowW d [] (λ f vs => PySem.call f vs) :=
 L2.walk_of (n := 63) (k := 12) (x := "_law_script") (CX := λ _ => CX0) (sp := λ w => spLaw (K w.params)) hn (by decide) hdf ⟨rfl,by decide,by decide,rfl⟩ hY F (λ _ _ a ns hl _ hS => ⟨a,ns,rfl,hS,hl,λ _ => rfl⟩) λ _ _ _ _ _ z => z
end KK
open PySem PySem.W PyProof.Rows
def PySem.W.Fast.tw16600935045617800733 : Nat := 0
def PySem.W.Fast.tw16817636565451953694 : Nat := 0
def PySem.W.Fast.tw13026292915820195516 : Nat := 0
def PySem.W.Fast.tw4606476595598981469 : Nat := 0
def PySem.W.Fast.tw17090665956217344790 : Nat := 0
def PySem.W.Fast.tw16352328451171914171 : Nat := 0
def PySem.W.Fast.tw14781097531858901794 : Nat := 0
def PySem.W.Fast.tw16358859765912834778 : Nat := 0
def PySem.W.Fast.tw6488720236271908292 : Nat := 0
def PySem.W.Fast.tw15671540648624916987 : Nat := 0
def PySem.W.Fast.tw10296070596423730499 : Nat := 0
def PySem.W.Fast.tw8904925417199806494 : Nat := 0
def PySem.W.Fast.tw11403310960848304948 : Nat := 0
def PySem.W.Fast.tw9123324074950869896 : Nat := 0
set_option maxRecDepth 100000 in
set_option maxHeartbeats 0 in
theorem PySem.Challenge.cw_meetdesks_k25_along_in_any_order_holds : PySem.Challenge.rw_meetdesks_k25_along_in_any_order.Holds := by
 w_on; o_law; k_head; (case hw => w_witness2)
 k_fill
 refine KK.walk (l := PySem.Challenge.rw_meetdesks_k25_along_in_any_order) rfl rfl (λ w h Y => PySem.W.kIn_of Y) ?F
 case F =>
  intro w mg fa h KX G hmg;refine' KK.all_mk KX G hmg (.mk' ?_ ?_ ?_ ?_) (.mk' ?_ ?_ ?_ ?_) (.mk' ?_ ?_ ?_ ?_) (.mk' ?_ ?_ ?_ ?_) (.mk' ?_ ?_ ?_ ?_) (.mk' ?_ ?_ ?_ ?_) (.mk' ?_ ?_ ?_ ?_) (.mk' ?_ ?_ ?_ ?_) (.mk' ?_ ?_ ?_ ?_) (.mk' ?_ ?_ ?_ ?_) (.mk' ?_ ?_ ?_ ?_) (.mk' ?_ ?_ ?_ ?_) (.mk' ?_ ?_ ?_ ?_) (.mk' ?_ ?_ ?_ ?_) (.mk' ?_ ?_ ?_ ?_) (.mk' ?_ ?_ ?_ ?_) (.mk' ?_ ?_ ?_ ?_) (.mk' ?_ ?_ ?_ ?_) (.mk' ?_ ?_ ?_ ?_) (.mk' ?_ ?_ ?_ ?_) (.mk' ?_ ?_ ?_ ?_) (.mk' ?_ ?_ ?_ ?_) (.mk' ?_ ?_ ?_ ?_) (.mk' ?_ ?_ ?_ ?_) (.mk' ?_ ?_ ?_ ?_) (.mk' ?_ ?_ ?_ ?_) (.mk' ?_ ?_ ?_ ?_) (.mk' ?_ ?_ ?_ ?_) (.mk' ?_ ?_ ?_ ?_) ?_ ?_ ?_ ?_ ?_ ?_ ?_ ?_ ?_ ?_ ?_ ?_ ?_ ?_ ?_ ?_ ?_ ?_ ?_ ?_ ?_ ?_ ?_ ?_ ?_ ?_ ?_ ?_ ?_ ?_ ?_ ?_ ?_ ?_ ?_ ?_ ?_ ?_ ?_ ?_ ?_ ?_ ?_ ?_ ?_ ?_ ?_ ?_ ?_ ?_ ?_ ?_ ?_ ?_ ?_ ?_ ?_ ?_ ?_ ?_ ?_ ?_ ?_ ?_ ?_ ?_ ?_ ?_ ?_ ?_ ?_ ?_ ?_ ?_ ?_ ?_ ?_ ?_ ?_ ?_ ?_ ?_ ?_ ?_ ?_ ?_ ?_ ?_ ?_ ?_ ?_ ?_ ?_ ?_ ?_ ?_ ?_ ?_
  all_goals try first | k_is | decide | kernel_rfl
