import PyProof.Rows.All
import Wide.All
import OpenK.AllK
import Wide.FinOn
import Lean
import PyProof.EqAt
import PyProof.EqKinds
import PyProof.TupleCall
import PyProof.NeKinds
import PyProof.FactsAll.set_1
import PyProof.FactsAll.dict_4
import KE.KRevSl
import PyProof.Cells
import KE.KNest
import KE.KNestM
import KE.KEqDict
import PyProof.DictFindH
import PyProof.DictValues
import PyProof.CollectWalk
import PyProof.WalkLemmas
import PyProof.ListNew
import PyProof.ListRange
import PySem.Challenge.RW_meetdesks_k15_news_told
set_option Elab.async false
set_option linter.all false
set_option maxRecDepth 100000
namespace L2
open PySem PySem.Spec PyProof.Rows
variable {H H' : Hp} {h h' : Heap} {X : Cx} {aA : List (Addr × Obj)} {s : Shared} {ta tb te : TE} {pos p : Pos} {A : Around} {dx C : Addr} {es : List Expr}
abbrev bP := Sum Int Str
def qM : bP -> Value -> Bool
 | .inl k,v => Value.isInt k v
 | .inr x,v => Value.isStrOf x v
def keyH (w : World) : bP -> Int
 | .inl k => hashInt k
 | .inr x => hashStr w x
theorem dE : ∀ {k : bP} {v : Value},qM k v = true -> (∃ i t,k = Sum.inl i /\ v = Value.int i t) \/ (∃ x t,k = Sum.inr x /\ v = Value.str x t)
 | .inl i,v,h => by
  obtain ⟨t,e⟩ := Value.isInt_shape (k := i) (v := v) h;exact .inl ⟨i,t,rfl,e⟩
 | .inr x,v,h => by
  obtain ⟨t,e⟩ := Value.isStrOf_shape (x := x) (v := v) h;exact .inr ⟨x,t,rfl,e⟩
theorem keyIs_int (i : Int) (t : Tok) : qM (.inl i) (.int i t) = true := by simp [qM,Value.isInt]
theorem keyIs_str (x : Str) (t : Tok) : qM (.inr x) (.str x t) = true := by simp [qM,Value.isStrOf]
theorem key_ll (a b : Int) : decide ((Sum.inl a : bP) = Sum.inl b) = (a == b) := by
 by_cases e : a = b
 . subst e; simp
 . have h : ¬ (Sum.inl a : bP) = Sum.inl b := λ q => e (Sum.inl.inj q);rw [decide_eq_false h];exact (beq_eq_false_iff_ne.mpr e).symm
theorem key_rr (a b : Str) : decide ((Sum.inr a : bP) = Sum.inr b) = decide (a = b) := by
 by_cases e : a = b
 . subst e; simp
 . have h : ¬ (Sum.inr a : bP) = Sum.inr b := λ q => e (Sum.inr.inj q);rw [decide_eq_false h,decide_eq_false e]
theorem key_lr (a : Int) (b : Str) : decide ((Sum.inl a : bP) = Sum.inr b) = false := decide_eq_false (λ q => nomatch q)
theorem key_rl (a : Str) (b : Int) : decide ((Sum.inr a : bP) = Sum.inl b) = false := decide_eq_false (λ q => nomatch q)
def bH (prog : Program) (w : World) : PySem.KeyKind prog w bP where
 is := qM
 hash := keyH w
 inj := λ v a b ha hb => by
  rcases dE ha with ⟨i,t,rfl,rfl⟩ | ⟨x,t,rfl,rfl⟩
  . rcases dE hb with ⟨j,u,rfl,e⟩ | ⟨y,u,rfl,e⟩
    . injection e with e1 _; rw [e1]
    . exact nomatch e
  . rcases dE hb with ⟨j,u,rfl,e⟩ | ⟨y,u,rfl,e⟩
    . exact nomatch e
    . injection e with e1 _; rw [e1]
 byValue := λ k v h => by
  rcases dE h with ⟨i,t,rfl,rfl⟩ | ⟨x,t,rfl,rfl⟩ <;> rfl
 pyHash := λ hv h => by
  rcases dE hv with ⟨i,t,rfl,rfl⟩ | ⟨x,t,rfl,rfl⟩
  . exact wpAny_pyHash_int h
  . exact wpAny_pyHash_str h
 eqBool := λ hu hv h => by
  rcases dE hu with ⟨i,t,rfl,rfl⟩ | ⟨x,t,rfl,rfl⟩
  . rcases dE hv with ⟨j,u,rfl,rfl⟩ | ⟨y,u,rfl,rfl⟩
    . rw [key_ll] at h; exact wpAny_eqBool_int h
    . rw [key_lr] at h; exact SeqAt.EqAt.int_str i t y u _ _ _ _ h
  . rcases dE hv with ⟨j,u,rfl,rfl⟩ | ⟨y,u,rfl,rfl⟩
    . rw [key_rl] at h; exact SeqAt.EqAt.str_int x t j u _ _ _ _ h
    . rw [key_rr] at h; exact wpAny_eqBool_str h
 «strs» := λ k x t v h => by
  rcases dE h with ⟨i,u,rfl,e⟩ | ⟨y,u,rfl,e⟩
  . exact nomatch e
  . injection e with e1 _
    subst e1;cases v <;> rfl
theorem mixKind_int (prog : Program) (w : World) (i : Int) (t : Tok) : (bH prog w).is (.inl i) (.int i t) = true := keyIs_int i t
theorem qS (prog : Program) (w : World) (x : Str) (t : Tok) : (bH prog w).is (.inr x) (.str x t) = true := keyIs_str x t
inductive V where
 | non | bl (b : Bool) | int (i : Int) | str (x : Str) | byt (b : Array UInt8) | flt (b : UInt64) | ref (a : Addr) | ty (n : String)
 deriving DecidableEq
def bD : V -> Value -> Prop
 | .non,u => u = Value.none
 | .bl b,u => u = Value.bool b
 | .int i,u => ∃ t,u = Value.int i t
 | .str x,u => ∃ t,u = Value.str x t
 | .byt b,u => ∃ t,u = Value.bytes b t
 | .flt b,u => ∃ t,u = Value.float b t
 | .ref a,u => u = Value.ref a
 | .ty n,u => u = Value.type n
abbrev aX : List V -> List Value -> Prop := Paired bD
theorem aX.length {xs : List V} {us : List Value} (r : aX xs us) : xs.length = us.length := Paired.length r
theorem aX.get : ∀ {xs : List V} {us : List Value} {i : Nat} {x : V},aX xs us -> xs[i]? = some x -> ∃ u,us[i]? = some u /\ bD x u
 | _,_,_,_,.nil,e => by simp at e
 | _,_,0,_,.cons r _,e => by simp at e; subst e; exact ⟨_,rfl,r⟩
 | _,_,i + 1,x,.cons _ t,e => by
  obtain ⟨u,h1,h2⟩ := aX.get (i := i) (x := x) t (by simpa using e);exact ⟨u,by simpa using h1,h2⟩
theorem aX.set {x : V} {u : Value} (r : bD x u) : ∀ {xs : List V} {us : List Value} (i : Nat),aX xs us -> aX (xs.set i x) (us.set i u)
 | _,_,_,.nil => .nil
 | _,_,0,.cons _ t => .cons r t
 | _,_,i + 1,.cons q t => .cons q (aX.set r i t)
theorem aX.append : ∀ {xs ys : List V} {us ws : List Value},aX xs us -> aX ys ws -> aX (xs ++ ys) (us ++ ws)
 | _,_,_,_,.nil,s => s
 | _,_,_,_,.cons r t,s => .cons r (aX.append t s)
theorem aX.take : ∀ {xs : List V} {us : List Value} (n : Nat),aX xs us -> aX (xs.take n) (us.take n)
 | _,_,0,_ => .nil
 | _,_,_ + 1,.nil => .nil
 | _,_,n + 1,.cons r t => .cons r (aX.take n t)
theorem aX.drop : ∀ {xs : List V} {us : List Value} (n : Nat),aX xs us -> aX (xs.drop n) (us.drop n)
 | _,_,0,r => r
 | _,_,_ + 1,.nil => .nil
 | _,_,n + 1,.cons _ t => aX.drop n t
def kC : Option V -> Option Value -> Prop
 | some v,some u => bD v u
 | none,none => True
 | _,_ => False
def KV {κ : Type} : List (κ × V) -> List (κ × Value) -> Prop := Paired λ (p : κ × V) (q : κ × Value) => p.1 = q.1 /\ bD p.2 q.2
def kV : bP -> V
 | .inl i => .int i
 | .inr x => .str x
inductive HO where
 /-- a list -/
 | lst (xs : List V)
 /-- a tuple (never changes) -/
 | tup (xs : List V)
 /-- a dict whose keys are ints and texts; one whose keys are tuples of ints and texts (the empty one is both) -/
 | dK (aO : List (bP × V)) | dT (aO : List (List bP × V))
 /-- a set of ints: bJ members,bJ size -/
 | set (S : Int -> Bool) (n : Nat)
 /-- an instance of the class at C,bJ dict at dx,bJ attributes -/
 | ins (C dx : Addr) (fs : List (Str × V))
 /-- the dict of the instance at x -/
 | own (x : Addr)
 /-- the dict of an exception -/
 | xd (fs : List (Str × V))
 /-- a bound method,f of x -/
 | met (f x : Addr)
 /-- a range object lo,lo + 1,.. below hi -/
 | rng (lo hi : Int)
 /-- a thing that is known to the object (the script; a dict while a kY walks it): read,never written while it is so -/
 | frz (o : Obj) (u : HO)
 /-- a code object's table -/
 | tbl (ps : Array Value)
 /-- any other thing,by what is true of bJ one object (a def of one's own: SetO a S n := HO.ext λ h => ..) -/
 | ext (φ : Heap -> Prop)
abbrev Hp := Addr -> Option HO
def aL (H : Hp) (a : Addr) (o : HO) : Hp := λ b => if b = a then some o else H b
theorem aC {H : Hp} {a : Addr} {o : HO} : aL H a o a = some o := by unfold aL; rw [if_pos rfl]
theorem aH {H : Hp} {a b : Addr} {o : HO} (h : b ≠ a) : aL H a o b = H b := by unfold aL; rw [if_neg h]
theorem upd_upd {H : Hp} {a : Addr} {o u : HO} : aL (aL H a o) a u = aL H a u := by
 funext b; unfold aL; split <;> rfl
theorem cO {H : Hp} {a b : Addr} {o u : HO} (h : H a = some o) (h' : H b = some u) (d : o ≠ u) : a ≠ b := by
 intro e; subst e; rw [h] at h'; exact d (Option.some.inj h')
theorem aD {H : Hp} {a b : Addr} {o : HO} (h : H a = some o) (h' : H b = none) : a ≠ b := by
 intro e; subst e; rw [h] at h'; cases h'
section
variable (P : Program) (w : World)
def bZ (H : Hp) (h : Heap) (a : Addr) : HO -> Prop
 | .lst xs => xs.length <= sizeLine /\ ∃ (bJ : List Value) (n : Nat),aX xs bJ /\ h.get? a = some { cls := .type "list",data := .seq bJ.toArray n }
 | .tup xs => xs.length <= sizeLine /\ ∃ bJ : List Value,aX xs bJ /\ IsTup h a bJ.toArray
 | .dK aO => aO.length <= sizeLine /\ (a == sysModules) = false /\ ∃ vs,KV aO vs /\ h.DictOf (bH P w) a vs
 | .dT aO => aO.length <= sizeLine /\ (a == sysModules) = false /\ ∃ xs : List (List bP × Addr × Value),
  Paired (λ (p : List bP × V) (q : List bP × Addr × Value) => p.1 = q.1 /\ H q.2.1 = some (.tup (p.1.map kV)) /\ bD p.2 q.2.2) aO xs /\
  ∃ o es ep,h.get? a = some o /\ o.ExactDict /\ o.data = .dict es ep /\ es.toList = xs.map (entryOfKey (tupleKind (bH P w))) /\ (xs.map (·.1)).Nodup
 | .set S n => h.SetOf (intKind P w) a S n
 | .ins C dx fs => H dx = some (.own a) /\ fs.length <= 1000 /\ dx ≠ a /\ h.get? a = some (W.instObj C dx) /\
  ∃ mA,h.Ns1 dx mA /\ (∀ f,kC (fs.lookup f) (mA f)) /\ PySem.Within mA (fs.map (·.1))
 | .own _ => ∃ o,h.get? a = some o
 | .xd fs => ∃ mA,h.Ns1 a mA /\ ∀ f,kC (fs.lookup f) (mA f)
 | .rng lo hi => ∃ t u v,h.get? a = some { cls := .type "range",data := .fields #[.int lo t,.int hi u,.int 1 v] }
 | .frz o u => h.get? a = some o /\ bZ H h a u
 | .tbl ps => h.get? a = some { cls := .none,data := .fields ps }
 | .met f x => h.get? a = some (PySem.W.methodObj (.ref f) (.ref x))
 | .ext φ => φ h /\ (∃ o,h.get? a = some o) /\ ∀ h1 h2 : Heap,φ h1 -> (∀ o,h1.get? a = some o -> h2.get? a = some o) -> φ h2
def mL (H : Hp) (h : Heap) : Prop := ∀ a o,H a = some o -> bZ P w H h a o
end
section
variable {P : Program} {w : World} {a : Addr} {o : HO}
theorem bZ.lt (x : bZ P w H h a o) : a < h.objs.size := by
 cases o with
 | lst xs => obtain ⟨_,_,_,_,e⟩ := x; exact Heap.lt_size e
 | tup xs => obtain ⟨_,_,_,p⟩ := x; exact p.lt
 | dK aO => obtain ⟨_,_,_,_,o,_,_,e,_⟩ := x; exact Heap.lt_size e
 | dT aO => obtain ⟨_,_,_,_,o,_,_,e,_⟩ := x; exact Heap.lt_size e
 | set S n => obtain ⟨o,_,_,_,e,_⟩ := x; exact Heap.lt_size e
 | ins C dx fs => obtain ⟨_,_,_,e,_⟩ := x; exact Heap.lt_size e
 | own y => obtain ⟨_,e⟩ := x; exact Heap.lt_size e
 | xd fs => obtain ⟨_,⟨_,_,_,e,_⟩,_⟩ := x; exact Heap.lt_size e
 | rng lo hi => obtain ⟨_,_,_,e⟩ := x; exact Heap.lt_size e
 | frz ob u => obtain ⟨e,_⟩ := x; exact Heap.lt_size e
 | tbl ps => exact Heap.lt_size (show h.get? a = some _ from x)
 | met f y => exact Heap.lt_size (show h.get? a = some _ from x)
 | ext φ => obtain ⟨_,⟨_,e⟩,_⟩ := x; exact Heap.lt_size e
theorem Paired.mapP {α β : Type} {F G : α -> β -> Prop} : ∀ {l₁ : List α} {l₂ : List β},Paired F l₁ l₂ -> (∀ a b,F a b -> G a b) -> Paired G l₁ l₂
 | _,_,.nil,_ => .nil
 | _,_,.cons r t,f => .cons (f _ _ r) (Paired.mapP t f)
theorem bZ.stay (x : bZ P w H h a o) (k : ∀ b u,(b = a \/ H b = some (.own a)) -> h.get? b = some u -> h'.get? b = some u)
 (ho : ∀ b,H b = some (.own a) -> H' b = some (.own a)) (ht : ∀ b xs,H b = some (.tup xs) -> H' b = some (.tup xs)) : bZ P w H' h' a o := by
 induction o with
 | lst xs => obtain ⟨z,bJ,n,r,e⟩ := x; exact ⟨z,bJ,n,r,k _ _ (.inl rfl) e⟩
 | tup xs => obtain ⟨z,bJ,r,ob,e,c⟩ := x; exact ⟨z,bJ,r,ob,k _ _ (.inl rfl) e,c⟩
 | dK aO => obtain ⟨z,y,vs,r,ob,es,ep,e,c⟩ := x; exact ⟨z,y,vs,r,ob,es,ep,k _ _ (.inl rfl) e,c⟩
 | dT aO =>
  obtain ⟨z,y,xs,r,ob,es,ep,e,c⟩ := x;exact ⟨z,y,xs,Paired.mapP r λ p q z => ⟨z.1,ht _ _ z.2.1,z.2.2⟩,ob,es,ep,k _ _ (.inl rfl) e,c⟩
 | set S n => obtain ⟨ob,es,ep,t,e,c⟩ := x; exact ⟨ob,es,ep,t,k _ _ (.inl rfl) e,c⟩
 | ins C dx fs =>
  obtain ⟨d,z,ne,e,mA,⟨od,es,ep,e2,c⟩,r⟩ := x;exact ⟨ho _ d,z,ne,k _ _ (.inl rfl) e,mA,⟨od,es,ep,k _ _ (.inr d) e2,c⟩,r⟩
 | own y => obtain ⟨ob,e⟩ := x; exact ⟨ob,k _ _ (.inl rfl) e⟩
 | xd fs => obtain ⟨mA,⟨od,es,ep,e,c⟩,r⟩ := x; exact ⟨mA,⟨od,es,ep,k _ _ (.inl rfl) e,c⟩,r⟩
 | rng lo hi => obtain ⟨t,u,v,e⟩ := x; exact ⟨t,u,v,k _ _ (.inl rfl) e⟩
 | frz ob u ih => obtain ⟨e,q⟩ := x; exact ⟨k _ _ (.inl rfl) e,ih q⟩
 | tbl ps =>
  have e : h.get? a = some { cls := .none,data := .fields ps } := x;show h'.get? a = some { cls := .none,data := .fields ps };exact k a _ (.inl rfl) e
 | met f y =>
  have e : h.get? a = some (PySem.W.methodObj (.ref f) (.ref y)) := x;show h'.get? a = some (PySem.W.methodObj (.ref f) (.ref y));exact k a _ (.inl rfl) e
 | ext φ => obtain ⟨p,⟨o,e⟩,st⟩ := x; exact ⟨st _ _ p λ o q => k _ _ (.inl rfl) q,⟨o,k _ _ (.inl rfl) e⟩,st⟩
theorem mL.lt (x : mL P w H h) (e : H a = some o) : a < h.objs.size := (x a o e).lt
theorem mL.fresh (x : mL P w H h) (e : h.objs.size <= a) : H a = none := by
 cases q : H a with
 | none => rfl
 | some u => exact absurd (Nat.lt_of_lt_of_le (x.lt q) e) (Nat.lt_irrefl _)
theorem mL.kept (x : mL P w H h) (k : ∀ b u,h.get? b = some u -> h'.get? b = some u) : mL P w H h' := λ a o e =>
 (x a o e).stay (λ b u _ q => k b u q) (λ _ q => q) λ _ _ q => q
theorem mL.laid (x : mL P w H h) (k : ∀ b u,h.get? b = some u -> h'.get? b = some u) (hp : h.objs.size <= a) (new : bZ P w (aL H a o) h' a o) : mL P w (aL H a o) h' := λ b u e => by
 have hn := x.fresh hp
 by_cases hb : b = a
 . subst hb; rw [aC] at e; cases e; exact new
 . rw [aH hb] at e;exact (x b u e).stay (λ c v _ q => k c v q) (λ c q => by rw [aH (aD q hn)]; exact q) λ c xs q => by rw [aH (aD q hn)]; exact q
end
def Rd (H : Hp) (a : Addr) (u : HO) : Prop := H a = some u \/ ∃ o,H a = some (.frz o u)
theorem Rd.ok {P : Program} {w : World} {H : Hp} {h : Heap} {a : Addr} {u : HO} (r : Rd H a u) (x : mL P w H h) : bZ P w H h a u := by
 rcases r with r | ⟨o,r⟩
 . exact x a u r
 . obtain ⟨_,q⟩ := x a _ r;exact q
def Mut : Option HO -> Prop
 | some (.lst _) => True
 | some (.dK _) => True
 | some (.dT _) => True
 | some (.set _ _) => True
 | some (.ins _ _ _) => True
 | some (.ext _) => True
 | _ => False
section
variable {P : Program} {w : World} {x e : Addr} {o' : HO}
theorem mL.write (ok : mL P w H h) (mu : Mut (H x)) (he : e = x \/ H e = some (.own x)) (k : ∀ b u,b ≠ e -> h.get? b = some u -> h'.get? b = some u) (heo : ∃ u,h'.get? e = some u)
 (new : bZ P w (aL H x o') h' x o') : mL P w (aL H x o') h' := λ b u q => by
 have nown : ∀ c y,H c = some (.own y) -> c ≠ x := λ c y r z => by subst z; rw [r] at mu; exact mu
 have ntup : ∀ c xs,H c = some (.tup xs) -> c ≠ x := λ c xs r z => by subst z; rw [r] at mu; exact mu
 by_cases hb : b = x
 . subst hb; rw [aC] at q; cases q; exact new
 . rw [aH hb] at q
   by_cases hbe : b = e
   . have q' : H b = some (.own x) := by
      rcases he with z | z
      . exact absurd (hbe.trans z) hb
      . rw [hbe]; exact z
     rw [q] at q'; cases q';obtain ⟨v,hv⟩ := heo;exact ⟨v,by rw [hbe]; exact hv⟩
   . refine (ok b u q).stay (λ c v hc r => k c v ?_ r) (λ c r => by rw [aH (nown c b r)]; exact r) λ c xs r => by rw [aH (ntup c xs r)]; exact r
     rcases hc with rfl | hc
     . exact hbe
     . rintro rfl
       rcases he with z | z
       . exact nown c b hc z
       . rw [hc] at z; cases z; exact hb rfl
end
structure Un (fs ex : List Addr) (H H' : Hp) (h h' : Heap) : Prop where
 keep : ∀ b o,h.get? b = some o -> H b = none -> b ∉ fs -> b ∉ ex -> h'.get? b = some o
 slot : ∀ b o,h.get? b = some o -> H b = none -> b ∈ fs -> b ∉ ex -> ∃ sl,h'.get? b = some { o with slots := sl }
 free : ∀ b o,h.get? b = some o -> H b = none -> b ∉ ex -> H' b = none
 there : ∀ b o,h.get? b = some o -> b ∉ ex -> ∃ o',h'.get? b = some o'
 tups : ∀ b xs,H b = some (.tup xs) -> H' b = some (.tup xs)
 frzs : ∀ b o u,H b = some (.frz o u) -> H' b = some (.frz o u)
 tbls : ∀ b ps,H b = some (.tbl ps) -> ∃ more,H' b = some (.tbl (ps ++ more))
section
variable {fs fs' ex ex' : List Addr} {H1 H2 : Hp} {h1 h2 : Heap} {a x e : Addr} {o : HO}
theorem Un.any (u : Un fs ex H H1 h h1) {b : Addr} {ob : Obj} (q : h.get? b = some ob) (n : H b = none) (hx : b ∉ ex) : ∃ sl,h1.get? b = some { ob with slots := sl } := by
 by_cases hb : b ∈ fs
 . exact u.slot b ob q n hb hx
 . exact ⟨ob.slots,u.keep b ob q n hb hx⟩
theorem Un.kept (k : ∀ b u,h.get? b = some u -> h'.get? b = some u) : Un fs ex H H h h' :=
 ⟨λ b ob q _ _ _ => k b ob q,λ b ob q _ _ _ => ⟨ob.slots,k b ob q⟩,λ _ _ _ n _ => n,λ b ob q _ => ⟨ob,k b ob q⟩,λ _ _ q => q,λ _ _ _ q => q,λ _ ps q => ⟨#[],by rw [q]; simp⟩⟩
theorem Un.refl : Un fs ex H H h h := Un.kept λ _ _ q => q
theorem Un.laid (k : ∀ b u,h.get? b = some u -> h'.get? b = some u) (hp : h.objs.size <= a) (hn : H a = none) : Un fs ex H (aL H a o) h h' where
 keep := λ b u q _ _ _ => k b u q
 slot := λ b u q _ _ _ => ⟨u.slots,k b u q⟩
 free := λ b u q n _ => by rw [aH (Nat.ne_of_lt (Nat.lt_of_lt_of_le (Heap.lt_size q) hp))]; exact n
 there := λ b u q _ => ⟨u,k b u q⟩
 tups := λ b xs q => by rw [aH (aD q hn)]; exact q
 frzs := λ b u xs q => by rw [aH (aD q hn)]; exact q
 tbls := λ b ps q => ⟨#[],by rw [aH (aD q hn),q]; simp⟩
theorem Un.write (mu : Mut (H x)) (he : e = x \/ H e = some (.own x)) (k : ∀ b u,b ≠ e -> h.get? b = some u -> h'.get? b = some u) (heo : ∃ u,h'.get? e = some u) : Un fs ex H (aL H x o) h h' := by
 have hx : ∀ b,H b = none -> b ≠ x := λ b n z => by subst z; rw [n] at mu; exact mu
 have hb : ∀ b,H b = none -> b ≠ e := λ b n z => by
  subst z
  rcases he with r | r
  . exact hx b n r
  . rw [n] at r; cases r
 have hm : ∀ b u,H b = some u -> ¬ Mut (some u) -> b ≠ x := λ b u q nm z => by subst z; rw [q] at mu; exact nm mu
 refine ⟨λ b u q n _ _ => k b u (hb b n) q,λ b u q n _ _ => ⟨u.slots,k b u (hb b n) q⟩,λ b u q n _ => by rw [aH (hx b n)]; exact n,λ b u q _ => ?_,
  λ b xs q => by rw [aH (hm b _ q λ z => z)]; exact q,λ b u xs q => by rw [aH (hm b _ q λ z => z)]; exact q,λ b ps q => ⟨#[],by rw [aH (hm b _ q λ z => z),q]; simp⟩⟩
 by_cases hbe : b = e
 . subst hbe; exact heo
 . exact ⟨u,k b u hbe q⟩
end
def trk (h : Heap) (H : Hp) : List Addr := (List.range h.objs.size).filter λ a => (H a).isSome
def hidT (h : Heap) (H : Hp) : Heap := PySem.W.hideAll h (trk h H)
theorem hidT_size (h : Heap) (H : Hp) : (hidT h H).objs.size = h.objs.size := PySem.W.hideAll_size _ _
theorem hidT_get {h : Heap} {H : Hp} {b : Addr} {o : Obj} (e : h.get? b = some o) (n : H b = none) : (hidT h H).get? b = some o :=
 PySem.W.hideAll_get _ e λ hm => by
  have q : (H b).isSome = true := (List.mem_filter.mp hm).2;rw [n] at q; simp at q
theorem of_hidT {h : Heap} {H : Hp} {b : Addr} {o : Obj} (e : (hidT h H).get? b = some o) : h.get? b = some o /\ H b = none := by
 have e' : h.get? b = some o := PySem.W.of_hideAll (trk h H) e
 refine ⟨e',?_⟩
 cases q : H b with
 | none => rfl
 | some x =>
  have hm : b ∈ trk h H := List.mem_filter.mpr ⟨List.mem_range.mpr (Heap.lt_size e'),by simp [q]⟩;have z : (hidT h H).get? b = none := PySem.W.hideAll_none (trk h H) hm;rw [z] at e; cases e
def allNews (g h : Heap) (L : Addr) : List (Addr × Obj) := (List.range h.objs.size).filterMap λ a => if a = L \/ (g.get? a).isSome = true then none else (h.get? a).map λ o => (a,o)
def rest (g h : Heap) (L d : Addr) : List (Addr × Obj) := (allNews g h L).filter λ p => decide (p.1 ≠ d)
structure Mod (K : W.Frag) (mg : Str -> Option Value) (base : Heap) : Prop where
 kin : K.In base
 glob : base.Ns mainGlobals mg
 blt : ∃ mb,base.Ns builtinsNs mb /\ ∀ x : Str,x ≠ "__name__" -> mb x = bootBuiltins x
 nolimit : base.NoLimit
structure Cx where
 prog : Program
 w : World
 K : W.Frag
 mg : Str -> Option Value
 base : Heap
 A : Around
 N : List Str
 s₀ : Shared
 H₀ : Hp
 env : Env
 outer : List Env
 stack : List Env
 ex : List Addr
 fn : Str -> Bool
 calm : Bool
 pn : List (Addr × Obj)
 xe : Value -> Shared -> Prop
def frs (l : List Env) : List Addr := l.filterMap (·.frame)
abbrev Cx.fs (X : Cx) : List Addr := frs X.outer
def Vis (sc : Scope) (x : Str) : Prop := sc.names.lookup x = some .local \/ sc.names.lookup x = some .cell \/ sc.names.lookup x = some .free
def Loc (sc : Scope) (x : Str) : Prop := sc.names.lookup x = some .local \/ sc.names.lookup x = some .cell
def Look (env : Env) (h : Heap) (m : Str -> Option Value) (x : Str) (u : Value) : Prop :=
 (env.kindOf x = some .local /\ m x = some u) \/ ((env.kindOf x = some .cell \/ env.kindOf x = some .free) /\ ∃ c,env.cells.lookup x = some c /\ h.IsCell c (some u))
structure Cx.Ok (X : Cx) : Prop where
 mod : Mod X.K X.mg X.base
 kind : X.env.scope.kind = .function
 glob : X.env.globals = mainGlobals
 blt : X.env.builtins = builtinsNs
 above : X.s₀.heap.objs.size <= X.env.locals
 inj : ∀ x y c,X.env.cells.lookup x = some c -> X.env.cells.lookup y = some c -> x = y
 has : ∀ x,(X.env.kindOf x = some .cell \/ X.env.kindOf x = some .free) -> ∃ c,X.env.cells.lookup x = some c
 cab : ∀ x c,X.fn x = true -> X.env.cells.lookup x = some c -> X.s₀.heap.objs.size <= c
 hd : X.calm = true -> X.A.handled = none
 frames : X.A.frames = some X.stack
 stk : X.stack = X.outer \/ (X.stack = X.env :: X.outer /\ X.env.frame = some X.env.locals)
 exf : ∀ b ∈ X.ex,b ≠ X.env.locals /\ ∀ x c,X.env.cells.lookup x = some c -> c ≠ b
 bs : ∀ b o,X.base.get? b = some o -> X.s₀.heap.get? b = some o /\ X.H₀ b = none
 bsz : X.base.objs.size <= X.s₀.heap.objs.size
 noex : ∀ b o,X.base.get? b = some o -> b ∉ X.ex
 exfs : ∀ b ∈ X.ex,b ∉ X.fs
 funs : X.s₀.heap.FunFrames X.base X.outer
 frf : ∀ b ∈ X.fs,X.H₀ b = none
structure aR (X : Cx) (aA : List (Addr × Obj)) (σ : List (Option V)) (H : Hp) (s : Shared) : Prop where
 ok : X.Ok
 os : s.os = X.s₀.os
 bare : AllBare s.gens
 base : Un X.fs X.ex X.H₀ H X.s₀.heap s.heap
 loc : ∃ m,s.heap.Ns X.env.locals m /\ ∀ (i : Nat) (x : Str) (v : V),X.N[i]? = some x -> σ[i]? = some (some v) -> Vis X.env.scope x -> ∃ u,bD v u /\ Look X.env s.heap m x u
 cell : ∀ x c,X.env.cells.lookup x = some c -> ∃ v,s.heap.IsCell c v
 free : H X.env.locals = none
 freeC : ∀ x c,X.env.cells.lookup x = some c -> H c = none
 pin : ∀ p ∈ X.pn ++ aA,s.heap.get? p.1 = some p.2 /\ H p.1 = none /\ p.1 ≠ X.env.locals /\ p.1 ∉ X.fs /\ ∀ v,p.2.data ≠ .cell v
 hok : mL X.prog X.w H s.heap
 len : σ.length = X.N.length
section
variable {σ : List (Option V)}
theorem Cx.Ok.nofr (ok : X.Ok) {b : Addr} {o : Obj} (e : X.base.get? b = some o) : b ∉ X.fs := λ hb => by
 have := (ok.funs.mem hb).1
 rw [e] at this; cases this
theorem aR.bs (I : aR X aA σ H s) : ∀ b o,X.base.get? b = some o -> s.heap.get? b = some o /\ H b = none := λ b o e =>
 ⟨I.base.keep b o (I.ok.bs b o e).1 (I.ok.bs b o e).2 (I.ok.nofr e) (I.ok.noex b o e),I.base.free b o (I.ok.bs b o e).1 (I.ok.bs b o e).2 (I.ok.noex b o e)⟩
theorem aR.bk (I : aR X aA σ H s) : ∀ b o,X.base.get? b = some o -> s.heap.get? b = some o := λ b o e => (I.bs b o e).1
theorem aR.mod (I : aR X aA σ H s) : Mod X.K X.mg X.base := I.ok.mod
theorem aR.kIn (I : aR X aA σ H s) : X.K.In s.heap := I.ok.mod.kin.keeps I.bk
theorem aR.lt (I : aR X aA σ H s) : X.env.locals < s.heap.objs.size := let ⟨_,hn,_⟩ := I.loc; hn.lt
theorem aR.sz (I : aR X aA σ H s) : X.s₀.heap.objs.size <= s.heap.objs.size := Nat.le_trans I.ok.above (Nat.le_of_lt I.lt)
theorem aR.nofs (I : aR X aA σ H s) {a : Addr} (h : s.heap.objs.size <= a) : a ∉ X.fs := λ hb => by
 obtain ⟨_,o,ho,_⟩ := I.ok.funs.mem hb
 exact absurd (Nat.lt_of_lt_of_le (Heap.lt_size ho) (Nat.le_trans I.sz h)) (Nat.lt_irrefl _)
theorem aR.cne (I : aR X aA σ H s) : ∀ x c,X.env.cells.lookup x = some c -> c ≠ X.env.locals := λ x c e z => by
 obtain ⟨v,o,ho,hd⟩ := I.cell x c e
 obtain ⟨m,⟨o',es,ep,ho',hd',_⟩,_⟩ := I.loc
 rw [z,ho'] at ho; cases ho; rw [hd'] at hd; cases hd
theorem aR.funs (I : aR X aA σ H s) : s.heap.FunFrames X.base X.outer := by
 have all : ∀ (l : List Env),(∀ b ∈ frs l,b ∈ X.fs) -> X.s₀.heap.FunFrames X.base l -> s.heap.FunFrames X.base l := by
  intro l
  induction l with
  | nil => intro _ _; trivial
  | cons env r ih =>
   intro hs hl;obtain ⟨hk,⟨L,o,hf,hn,ho,hd⟩,hr⟩ := hl;have hL : L ∈ X.fs := hs L (by unfold frs; rw [List.filterMap_cons,hf]; exact List.mem_cons_self);obtain ⟨sl,e⟩ := I.base.slot L o ho (I.ok.frf L hL) hL λ z => I.ok.exfs L z hL;exact ⟨hk,⟨L,_,hf,hn,e,hd⟩,ih (λ b hb => hs b (by unfold frs; rw [List.filterMap_cons,hf]; exact List.mem_cons_of_mem _ hb)) hr⟩
 exact all X.outer (λ _ hb => hb) I.ok.funs
theorem aR.stack (I : aR X aA σ H s) : s.heap.FunFrames X.base X.stack := by
 rcases I.ok.stk with e | ⟨e,hf⟩
 . rw [e]; exact I.funs
 . rw [e];obtain ⟨m,hn,_⟩ := I.loc;refine .cons (by rw [I.ok.kind]; decide) hf hn ?_ I.funs;exact Heap.get?_none_of_le (Nat.le_trans I.ok.bsz I.ok.above)
theorem aR.stkSub (I : aR X aA σ H s) : ∀ b ∈ frs X.stack,b ∈ X.env.locals :: X.fs := λ b hb => by
 rcases I.ok.stk with e | ⟨e,hf⟩
 . rw [e] at hb; exact List.mem_cons_of_mem _ hb
 . rw [e] at hb;unfold frs at hb;rw [List.filterMap_cons,hf] at hb;exact hb
theorem aR.stkFree (I : aR X aA σ H s) : ∀ b ∈ frs X.stack,H b = none := λ b hb => by
 rcases List.mem_cons.mp (I.stkSub b hb) with e | hb
 . rw [e]; exact I.free
 . obtain ⟨_,o,ho,_⟩ := I.ok.funs.mem hb;exact I.base.free b o ho (I.ok.frf b hb) λ z => I.ok.exfs b z hb
theorem aR.step {g' : Array GenState} {t' : Nat} {d' : Drawn} {ch : List Addr} (I : aR X aA σ H s)
 (hch : ∀ b ∈ ch,(b ∈ X.ex \/ X.s₀.heap.objs.size <= b) /\ b ≠ X.env.locals /\ (∀ x c,X.env.cells.lookup x = some c -> c ≠ b) /\ ∀ p ∈ X.pn ++ aA,p.1 ≠ b)
 (keep : ∀ b o,b ≠ X.env.locals -> b ∉ X.fs -> b ∉ ch -> s.heap.get? b = some o -> H b = none -> h'.get? b = some o)
 (slot : ∀ b o,b ≠ X.env.locals -> b ∈ X.fs -> b ∉ ch -> s.heap.get? b = some o -> H b = none -> ∃ sl,h'.get? b = some { o with slots := sl }) (free : ∀ b o,b ∉ ch -> s.heap.get? b = some o -> H b = none -> H' b = none)
 (there : ∀ b o,b ∉ ch -> s.heap.get? b = some o -> ∃ o',h'.get? b = some o')
 (tups : ∀ b xs,H b = some (.tup xs) -> H' b = some (.tup xs)) (frzs : ∀ b o u,H b = some (.frz o u) -> H' b = some (.frz o u)) (tbls : ∀ b ps,H b = some (.tbl ps) -> ∃ more,H' b = some (.tbl (ps ++ more)))
 (ns : ∀ m,s.heap.Ns X.env.locals m -> h'.Ns X.env.locals m) (hok : mL X.prog X.w H' h') (hg : AllBare g') :
 aR X aA σ H' { s with heap := h',gens := g',drawn := d',toks := t' } := by
 have neL : ∀ b o,X.s₀.heap.get? b = some o -> b ≠ X.env.locals := λ b o e => Nat.ne_of_lt (Nat.lt_of_lt_of_le (Heap.lt_size e) I.ok.above)
 have neC : ∀ b o,X.s₀.heap.get? b = some o -> b ∉ X.ex -> b ∉ ch := λ b o e hx hb => by
  rcases (hch b hb).1 with z | z
  . exact hx z
  . exact absurd (Nat.lt_of_lt_of_le (Heap.lt_size e) z) (Nat.lt_irrefl _)
 have cellK : ∀ x c,X.env.cells.lookup x = some c -> ∀ v,s.heap.IsCell c v -> h'.IsCell c v := λ x c e v ⟨o,ho,hd⟩ => by
  have nch : c ∉ ch := λ z => (hch c z).2.2.1 x c e rfl
  by_cases hc : c ∈ X.fs
  . obtain ⟨sl,q⟩ := slot c o (I.cne x c e) hc nch ho (I.freeC x c e);exact ⟨_,q,hd⟩
  . exact ⟨o,keep c o (I.cne x c e) hc nch ho (I.freeC x c e),hd⟩
 refine ⟨I.ok,I.os,hg,⟨λ b o e n hb hx => ?_,λ b o e n hb hx => ?_,λ b o e n hx => ?_,λ b o e hx => ?_,λ b xs e => tups b xs (I.base.tups b xs e),λ b o xs e => frzs b o xs (I.base.frzs b o xs e),λ b ps e => ?_⟩,?_,λ x c e => ?_,?_,λ x c e => ?_,λ p hp => ?_,hok,I.len⟩
 . exact keep b o (neL b o e) hb (neC b o e hx) (I.base.keep b o e n hb hx) (I.base.free b o e n hx)
 . obtain ⟨sl,e1⟩ := I.base.slot b o e n hb hx;obtain ⟨sl',e2⟩ := slot b _ (neL b o e) hb (neC b o e hx) e1 (I.base.free b o e n hx);exact ⟨sl',e2⟩
 . obtain ⟨o',e1⟩ := I.base.there b o e hx;exact free b o' (neC b o e hx) e1 (I.base.free b o e n hx)
 . obtain ⟨o',e1⟩ := I.base.there b o e hx;exact there b o' (neC b o e hx) e1
 . obtain ⟨m1,e1⟩ := I.base.tbls b ps e;obtain ⟨m2,e2⟩ := tbls b _ e1;exact ⟨m1 ++ m2,by rw [e2,Array.append_assoc]⟩
 . obtain ⟨m,hn,hl⟩ := I.loc;refine ⟨m,ns m hn,λ i x v e1 e2 e3 => ?_⟩;obtain ⟨u,r,l⟩ := hl i x v e1 e2 e3;refine ⟨u,r,?_⟩
   rcases l with l | ⟨k,c,e,z⟩
   . exact .inl l
   . exact .inr ⟨k,c,e,cellK x c e _ z⟩
 . obtain ⟨v,z⟩ := I.cell x c e;exact ⟨v,cellK x c e v z⟩
 . obtain ⟨m,⟨o,_,_,ho,_⟩,_⟩ := I.loc;exact free _ o (λ z => (hch _ z).2.1 rfl) ho I.free
 . obtain ⟨v,o,ho,hd⟩ := I.cell x c e;exact free c o (λ z => (hch c z).2.2.1 x c e rfl) ho (I.freeC x c e)
 . obtain ⟨e,n,ne,nf,d⟩ := I.pin p hp;have nch : p.1 ∉ ch := λ z => (hch p.1 z).2.2.2 p hp rfl;exact ⟨keep p.1 p.2 ne nf nch e n,free p.1 p.2 nch e n,ne,nf,d⟩
theorem aR.un {t' : Nat} (I : aR X aA σ H s) (u : Un X.fs [] H H' s.heap h') (hok : mL X.prog X.w H' h') : aR X aA σ H' { s with heap := h',toks := t' } := by
 obtain ⟨m,⟨o,es,ep,ho,r⟩,_⟩ := id I.loc
 obtain ⟨sl,hL⟩ := u.any ho I.free (by simp)
 exact I.step (g' := s.gens) (d' := s.drawn) (ch := []) (λ _ z => nomatch z) (λ b o _ hb _ e n => u.keep b o e n hb (by simp)) (λ b o _ hb _ e n => u.slot b o e n hb (by simp)) (λ b o _ e n => u.free b o e n (by simp)) (λ b o _ e => u.there b o e (by simp)) u.tups u.frzs u.tbls (λ m' hm => by
  obtain ⟨o',es',ep',ho',r'⟩ := hm;rw [ho] at ho'; cases ho';exact ⟨_,es',ep',hL,r'⟩) hok I.bare
theorem aR.call {g' : Array GenState} {t' : Nat} {d' : Drawn} {ch : List Addr} (I : aR X aA σ H s) (u : Un (frs X.stack) ch H H' s.heap h') (hok : mL X.prog X.w H' h') (hg : AllBare g')
 (hch : ∀ b ∈ ch,(b ∈ X.ex \/ X.s₀.heap.objs.size <= b) /\ b ≠ X.env.locals /\ (∀ x c,X.env.cells.lookup x = some c -> c ≠ b) /\ ∀ p ∈ X.pn ++ aA,p.1 ≠ b) :
 aR X aA σ H' { s with heap := h',gens := g',drawn := d',toks := t' } := by
 obtain ⟨m,⟨o,es,ep,ho,r⟩,_⟩ := id I.loc
 obtain ⟨sl,hL⟩ := u.any ho I.free λ z => (hch _ z).2.1 rfl
 exact I.step (ch := ch) hch (λ b o hL hb hc e n => u.keep b o e n (λ z => (List.mem_cons.mp (I.stkSub b z)).elim hL hb) hc) (λ b o _ _ hc e n => u.any e n hc) (λ b o hc e n => u.free b o e n hc) (λ b o hc e => u.there b o e hc) u.tups u.frzs u.tbls (λ m' hm => by
  obtain ⟨o',es',ep',ho',r'⟩ := hm;rw [ho] at ho'; cases ho';exact ⟨_,es',ep',hL,r'⟩) hok hg
theorem aR.turned {t' : Nat} {it : Addr} (I : aR X aA σ H s) (k : ∀ b o,b ≠ it -> s.heap.get? b = some o -> h'.get? b = some o) (hn : H it = none) (hL : it ≠ X.env.locals)
 (h1 : it ∈ X.ex \/ X.s₀.heap.objs.size <= it) (h2 : ∀ x c,X.env.cells.lookup x = some c -> c ≠ it) (h3 : ∀ p ∈ X.pn ++ aA,p.1 ≠ it) : aR X aA σ H { s with heap := h',toks := t' } := by
 have nit : ∀ b u,H b = some u -> b ≠ it := λ b u e z => by rw [z,hn] at e; cases e
 refine I.step (g' := s.gens) (d' := s.drawn) (ch := [it]) (λ b hb => ?_) (λ b o _ _ hc e _ => k b o (λ z => hc (by simp [z])) e) (λ b o _ _ hc e _ => ⟨o.slots,k b o (λ z => hc (by simp [z])) e⟩) (λ _ _ _ _ n => n)
  (λ b o hc e => ⟨o,k b o (λ z => hc (by simp [z])) e⟩) (λ _ _ e => e) (λ _ _ _ e => e) (λ b ps e => ⟨#[],by rw [e]; simp⟩) (λ m hm => ?_) (λ b u e => ?_) I.bare
 . have e : b = it := by simpa using hb
   subst e;exact ⟨h1,hL,h2,h3⟩
 . obtain ⟨o,es,ep,ho,r⟩ := hm;exact ⟨o,es,ep,k _ o (Ne.symm hL) ho,r⟩
 . refine (I.hok b u e).stay (λ c v hc q => k c v ?_ q) (λ _ q => q) λ _ _ q => q
   rcases hc with z | z
   . rw [z]; exact nit b u e
   . exact nit c _ z
theorem aR.tok (I : aR X aA σ H s) (t : Nat) : aR X aA σ H { s with toks := t } := I.un (h' := s.heap) (t' := t) Un.refl I.hok
theorem aR.kept {t' : Nat} (I : aR X aA σ H s) (k : ∀ b u,s.heap.get? b = some u -> h'.get? b = some u) : aR X aA σ H { s with heap := h',toks := t' } := I.un (Un.kept k) (I.hok.kept k)
theorem aR.laid {a : Addr} {o : HO} {t' : Nat} (I : aR X aA σ H s) (k : ∀ b u,s.heap.get? b = some u -> h'.get? b = some u) (hp : s.heap.objs.size <= a) (new : bZ X.prog X.w (aL H a o) h' a o) :
 aR X aA σ (aL H a o) { s with heap := h',toks := t' } := I.un (Un.laid k hp (I.hok.fresh hp)) (I.hok.laid k hp new)
theorem aR.write {x e : Addr} {o : HO} {t' : Nat} (I : aR X aA σ H s) (mu : Mut (H x)) (he : e = x \/ H e = some (.own x)) (k : ∀ b u,b ≠ e -> s.heap.get? b = some u -> h'.get? b = some u) (heo : ∃ u,h'.get? e = some u)
 (new : bZ X.prog X.w (aL H x o) h' x o) : aR X aA σ (aL H x o) { s with heap := h',toks := t' } := I.un (Un.write mu he k heo) (I.hok.write mu he k heo new)
theorem aR.pins_of {pins' : List (Addr × Obj)} (I : aR X aA σ H s) (h : ∀ p ∈ pins',s.heap.get? p.1 = some p.2 /\ H p.1 = none /\ p.1 ≠ X.env.locals /\ p.1 ∉ X.fs /\ ∀ v,p.2.data ≠ .cell v) : aR X pins' σ H s :=
 ⟨I.ok,I.os,I.bare,I.base,I.loc,I.cell,I.free,I.freeC,λ p hp => (List.mem_append.mp hp).elim (λ z => I.pin p (List.mem_append_left _ z)) (h p),I.hok,I.len⟩
theorem nodup_ix {N : List Str} (hN : N.Nodup) {i j : Nat} {x : Str} (a : N[i]? = some x) (b : N[j]? = some x) : i = j := by
 obtain ⟨h1,e1⟩ := List.getElem?_eq_some_iff.mp a
 obtain ⟨h2,e2⟩ := List.getElem?_eq_some_iff.mp b
 exact (List.getElem_inj hN).mp (e1.trans e2.symm)
theorem store_ok2 {M : Model} {A : Around} {E : Value -> Shared -> Prop} {i : Nat} {x : Str} {v : V} {u : Value} {Q : Unit -> Shared -> Prop} (I : aR X aA σ H s) (hN : X.N.Nodup) (hi : X.N[i]? = some x) (hx : Loc X.env.scope x) (r : bD v u)
 (h : ∀ s',aR X aA (σ.set i (some v)) H s' -> (∃ a,Heap.SameBut a s.heap s'.heap /\ (a = X.env.locals \/ X.env.cells.lookup x = some a)) -> Q () s') (hf : X.fn x = true \/ X.env.scope.names.lookup x = some .local := by first | exact .inl rfl | exact .inr rfl | assumption) : wpAny M A (storeName X.env x u) Q E s := by
 obtain ⟨m,hn,hl⟩ := id I.loc
 have hcls : (X.env.scope.kind == .class || (X.env.scope.kind == .module && X.env.locals != X.env.globals)) = false := by rw [I.ok.kind]; rfl
 have hiσ : i < σ.length := by rw [I.len]; exact (List.getElem?_eq_some_iff.mp hi).1
 have cne := I.cne
 have tracked : ∀ {a : Addr} {h' : Heap},(∃ o,s.heap.get? a = some o /\ H a = none) -> Heap.SameBut a s.heap h' -> mL X.prog X.w H h' := λ {a h'} ha hs b ob e => by
  obtain ⟨_,_,fS⟩ := ha;refine (I.hok b ob e).stay (λ c w' hc q => (hs.2 c ?_).trans q) (λ _ q => q) λ _ _ q => q;rintro rfl
  rcases hc with rfl | hc
  . rw [fS] at e; cases e
  . rw [fS] at hc; cases hc
 rcases hx with hk | hk
 . refine wpAny_storeName_local hk hn (λ h' hn' hs => ?_) hcls;obtain ⟨oL,_,_,hoL,_⟩ := id hn;refine h _ ⟨I.ok,I.os,I.bare,⟨λ b o e n hb hx => ?_,λ b o e n hb hx => ?_,I.base.free,λ b o e hx => ?_,I.base.tups,I.base.frzs,I.base.tbls⟩,⟨_,hn',λ j y v' e1 e2 e3 => ?_⟩,λ y c e => ?_,I.free,I.freeC,λ p hp => ?_,tracked ⟨oL,hoL,I.free⟩ hs,by simpa using I.len⟩ ⟨_,hs,.inl rfl⟩
   . exact (hs.2 b (Nat.ne_of_lt (Nat.lt_of_lt_of_le (Heap.lt_size e) I.ok.above))).trans (I.base.keep b o e n hb hx)
   . obtain ⟨sl,e1⟩ := I.base.slot b o e n hb hx;exact ⟨sl,(hs.2 b (Nat.ne_of_lt (Nat.lt_of_lt_of_le (Heap.lt_size e) I.ok.above))).trans e1⟩
   . obtain ⟨o',e1⟩ := I.base.there b o e hx;exact ⟨o',(hs.2 b (Nat.ne_of_lt (Nat.lt_of_lt_of_le (Heap.lt_size e) I.ok.above))).trans e1⟩
   . by_cases hj : j = i
     . subst hj;rw [hi] at e1; cases e1;rw [List.getElem?_set_self hiσ] at e2;cases e2;exact ⟨u,r,.inl ⟨hk,by simp⟩⟩
     . rw [List.getElem?_set_ne (Ne.symm hj)] at e2;obtain ⟨u',r',q⟩ := hl j y v' e1 e2 e3;refine ⟨u',r',?_⟩
       rcases q with ⟨k,e⟩ | ⟨k,c,e,z⟩
       . refine .inl ⟨k,?_⟩;have : y ≠ x := λ e => hj (nodup_ix hN e1 (e ▸ hi));simp [this,e]
       . exact .inr ⟨k,c,e,z.sameBut hs (cne y c e)⟩
   . obtain ⟨w',z⟩ := I.cell y c e;exact ⟨w',z.sameBut hs (cne y c e)⟩
   . obtain ⟨e,n,ne,nf,d⟩ := I.pin p hp;exact ⟨(hs.2 p.1 ne).trans e,n,ne,nf,d⟩
 . have hfn : X.fn x = true := by
    rcases hf with z | z
    . exact z
    . rw [z] at hk; cases hk
   obtain ⟨c,hc⟩ := I.ok.has x (.inl hk);obtain ⟨w',z⟩ := I.cell x c hc;refine wpAny_storeName_cell I.ok.kind hk hc z (λ h' hc' hs => ?_);obtain ⟨oc,hoc,hocd⟩ := id z;refine h { s with heap := h' } ⟨I.ok,I.os,I.bare,⟨λ b o e n hb hx => ?_,λ b o e n hb hx => ?_,I.base.free,λ b o e hx => ?_,I.base.tups,I.base.frzs,I.base.tbls⟩,⟨m,hn.sameBut hs (Ne.symm (cne x c hc)),λ j y v' e1 e2 e3 => ?_⟩,λ y c' e => ?_,I.free,I.freeC,λ p hp => ?_,tracked ⟨oc,hoc,I.freeC x c hc⟩ hs,by simpa using I.len⟩ ⟨c,hs,.inr hc⟩
   . exact (hs.2 b (Nat.ne_of_lt (Nat.lt_of_lt_of_le (Heap.lt_size e) (I.ok.cab x c hfn hc)))).trans (I.base.keep b o e n hb hx)
   . obtain ⟨sl,e1⟩ := I.base.slot b o e n hb hx;exact ⟨sl,(hs.2 b (Nat.ne_of_lt (Nat.lt_of_lt_of_le (Heap.lt_size e) (I.ok.cab x c hfn hc)))).trans e1⟩
   . obtain ⟨o',e1⟩ := I.base.there b o e hx;exact ⟨o',(hs.2 b (Nat.ne_of_lt (Nat.lt_of_lt_of_le (Heap.lt_size e) (I.ok.cab x c hfn hc)))).trans e1⟩
   . by_cases hj : j = i
     . subst hj;rw [hi] at e1; cases e1;rw [List.getElem?_set_self hiσ] at e2;cases e2;exact ⟨u,r,.inr ⟨.inl hk,c,hc,hc'⟩⟩
     . rw [List.getElem?_set_ne (Ne.symm hj)] at e2;obtain ⟨u',r',q⟩ := hl j y v' e1 e2 e3;refine ⟨u',r',?_⟩
       rcases q with q | ⟨k,c',e,z'⟩
       . exact .inl q
       . refine .inr ⟨k,c',e,z'.sameBut hs ?_⟩;rintro rfl;exact hj (nodup_ix hN e1 (I.ok.inj _ _ _ e hc ▸ hi))
   . by_cases hcc : c' = c
     . subst hcc; exact ⟨_,hc'⟩
     . obtain ⟨w2,z2⟩ := I.cell y c' e;exact ⟨w2,z2.sameBut hs hcc⟩
   . obtain ⟨e,n,ne,nf,d⟩ := I.pin p hp;refine ⟨(hs.2 p.1 ?_).trans e,n,ne,nf,d⟩;intro q;rw [q,hoc] at e;have q' : oc = p.2 := Option.some.inj e;exact d w' (by rw [<- q']; exact hocd)
theorem kI {M : Model} {A : Around} {E : Value -> Shared -> Prop} {i : Nat} {x : Str} {v : V} {u : Value} {Q : Unit -> Shared -> Prop} (I : aR X aA σ H s) (hN : X.N.Nodup) (hi : X.N[i]? = some x) (hx : Loc X.env.scope x) (r : bD v u)
 (h : ∀ s',aR X aA (σ.set i (some v)) H s' -> Q () s') (hf : X.fn x = true \/ X.env.scope.names.lookup x = some .local := by first | exact .inl rfl | exact .inr rfl | assumption) : wpAny M A (storeName X.env x u) Q E s :=
 store_ok2 I hN hi hx r (λ s' I' _ => h s' I') hf
theorem aR.call' {s' : Shared} {ch : List Addr} (I : aR X aA σ H s) (ho : s'.os = s.os) (u : Un (frs X.stack) ch H H' s.heap s'.heap) (hok : mL X.prog X.w H' s'.heap) (hg : AllBare s'.gens)
 (hch : ∀ b ∈ ch,(b ∈ X.ex \/ X.s₀.heap.objs.size <= b) /\ b ≠ X.env.locals /\ (∀ x c,X.env.cells.lookup x = some c -> c ≠ b) /\ ∀ p ∈ X.pn ++ aA,p.1 ≠ b) : aR X aA σ H' s' := by
 obtain ⟨h',g',d',t',o'⟩ := s'
 have e : o' = s.os := ho
 subst e
 exact I.call (g' := g') (t' := t') (d' := d') u hok hg hch
end
abbrev XK := Value -> Option Addr -> Hp -> Prop
abbrev St := List (Option V)
abbrev VK := V -> Hp -> Prop
abbrev TE := St -> Hp -> VK -> Prop
abbrev TT := St -> Hp -> (Bool -> Hp -> Prop) -> Prop
abbrev TA := St -> Hp -> (List V -> Hp -> Prop) -> Prop
structure eL where
 nx : St -> Hp -> Prop
 rt : VK
 bk : St -> Hp -> Prop := λ _ _ => False
 ct : St -> Hp -> Prop := λ _ _ => False
abbrev TS := eL -> St -> Hp -> Prop
def EP (X : Cx) (aA : List (Addr × Obj)) (σ : St) (Q : VK) (u : Value) (s' : Shared) : Prop := ∃ v H',aR X aA σ H' s' /\ bD v u /\ Q v H'
def TP (X : Cx) (aA : List (Addr × Obj)) (σ : St) (Q : Bool -> Hp -> Prop) (b : Bool) (s' : Shared) : Prop := ∃ H',aR X aA σ H' s' /\ Q b H'
def AP (X : Cx) (aA : List (Addr × Obj)) (σ : St) (Q : List V -> Hp -> Prop) (us : List Value) (s' : Shared) : Prop := ∃ vs H',aR X aA σ H' s' /\ aX vs us /\ Q vs H'
def SP (X : Cx) (aA : List (Addr × Obj)) (D : eL) (f : Flow) (s' : Shared) : Prop :=
 match f with
 | .next => ∃ σ' H',aR X aA σ' H' s' /\ D.nx σ' H'
 | .brk => ∃ σ' H',aR X aA σ' H' s' /\ D.bk σ' H'
 | .cont => ∃ σ' H',aR X aA σ' H' s' /\ D.ct σ' H'
 | .ret u => ∃ v σ' H',aR X aA σ' H' s' /\ bD v u /\ D.rt v H'
def PE (X : Cx) (e : Expr) (t : TE) : Prop :=
 ∀ (aA : List (Addr × Obj)) (s : Shared) (σ : St) (H : Hp) (Q : VK),aR X aA σ H s -> t σ H Q -> wpAny (model X.prog X.w) X.A (eval e X.env) (EP X aA σ Q) X.xe s
def PT (X : Cx) (e : Expr) (t : TT) : Prop :=
 ∀ (aA : List (Addr × Obj)) (s : Shared) (σ : St) (H : Hp) (Q : Bool -> Hp -> Prop),aR X aA σ H s -> t σ H Q -> wpAny (model X.prog X.w) X.A (isTrue e X.env (eval e X.env)) (TP X aA σ Q) X.xe s
def PW (X : Cx) (e : Expr) (t : TT) : Prop :=
 ∀ (whole : Sem Value) (aA : List (Addr × Obj)) (s : Shared) (σ : St) (H : Hp) (Q : Bool -> Hp -> Prop),aR X aA σ H s -> t σ H Q -> wpAny (model X.prog X.w) X.A (isTrue e X.env whole) (TP X aA σ Q) X.xe s
theorem PW.pt {X : Cx} {e : Expr} {t : TT} (h : PW X e t) : PT X e t := h _
def PA (X : Cx) (es : List Expr) (t : TA) : Prop :=
 ∀ (pos : Pos) (aA : List (Addr × Obj)) (s : Shared) (σ : St) (H : Hp) (Q : List V -> Hp -> Prop),aR X aA σ H s -> t σ H Q -> wpAny (model X.prog X.w) X.A (spliced (backTo pos (starEach es X.env))) (AP X aA σ Q) X.xe s
def PS (X : Cx) (st : Stmt) (t : TS) : Prop :=
 ∀ (aA : List (Addr × Obj)) (s : Shared) (σ : St) (H : Hp) (D : eL),aR X aA σ H s -> t D σ H -> wpAny (model X.prog X.w) X.A (exec st X.env) (SP X aA D) X.xe s
def PSs (X : Cx) (st : List Stmt) (t : TS) : Prop :=
 ∀ (aA : List (Addr × Obj)) (s : Shared) (σ : St) (H : Hp) (D : eL),aR X aA σ H s -> t D σ H -> wpAny (model X.prog X.w) X.A (execs st X.env) (SP X aA D) X.xe s
theorem cP {α : Type} {t : Sem α} {Q Q' : α -> Shared -> Prop} {M : Model} {A : Around} {E : Value -> Shared -> Prop} {s : Shared} (h : wpAny M A t Q E s) (hQ : ∀ a s,Q a s -> Q' a s) : wpAny M A t Q' E s := wpAny_mono h hQ λ _ _ x => x
section
theorem bin {a b : Expr} {ta tb : TE} (ha : PE X a ta) (hb : PE X b tb) {aA : List (Addr × Obj)} {s : Shared} {σ : St} {H : Hp} {R : V -> V -> Hp -> Prop} (I : aR X aA σ H s) (h : ta σ H λ x H1 => tb σ H1 λ y H2 => R x y H2)
 {α : Type} {Q : α -> Shared -> Prop} {f : Value -> Value -> Sem α}
 (hf : ∀ v u s2 x y H2,aR X aA σ H2 s2 -> bD x v -> bD y u -> R x y H2 -> wpAny (model X.prog X.w) X.A (f v u) Q X.xe s2) :
 wpAny (model X.prog X.w) X.A (eval a X.env) (λ v s₁ => wpAny (model X.prog X.w) X.A (eval b X.env) (λ u s₂ => wpAny (model X.prog X.w) X.A (f v u) Q X.xe s₂) X.xe s₁) X.xe s := by
 refine cP (ha aA s σ H _ I h) λ v s1 ⟨x,H1,I1,r1,q1⟩ => ?_
 refine cP (hb aA s1 σ H1 _ I1 q1) λ u s2 ⟨y,H2,I2,r2,q2⟩ => ?_
 exact hf v u s2 x y H2 I2 r1 r2 q2
def aU (i : Nat) : TE := λ σ H Q => ∃ v,σ[i]? = some (some v) /\ Q v H
def tC (v : V) : TE := λ _ H Q => Q v H
theorem pe_var {i : Nat} {x : Str} {pos : Pos} (hN : X.N[i]? = some x) (hv : Vis X.env.scope x) (hd : (x == ("__debug__" : Str)) = false := by decide) (qR : (x == ("__classdict__" : Str)) = false := by decide) : PE X (.Name x pos) (aU i) := by
 intro aA s σ H Q I h
 obtain ⟨v,e,h⟩ := h
 obtain ⟨m,hn,hl⟩ := I.loc
 obtain ⟨u,r,l⟩ := hl i x v hN e hv
 have eO : EP X aA σ Q u s := ⟨v,H,I,r,h⟩
 rcases l with ⟨hk,hm⟩ | ⟨hk,c,hc,nF⟩
 . exact wpAny_Name (wpAny_loadName_local I.ok.kind hk hn hm eO) hd
 . rcases hk with hk | hk
   . exact wpAny_Name (wpAny_loadName_cell I.ok.kind hk hc nF eO) hd
   . exact wpAny_Name (wpAny_loadName_free I.ok.kind hk hc nF eO qR) hd
theorem aJ {i j pos} : PE X (.Constant (.int i) j pos) (tC (.int i)) := λ _ _ _ H _ I h => wpAny_Constant_int ⟨.int i,H,I.tok _,⟨_,rfl⟩,h⟩
theorem kK {b j pos} : PE X (.Constant (.bool b) j pos) (tC (.bl b)) := λ _ _ _ H _ I h => Constant_bool ⟨.bl b,H,I,rfl,h⟩
theorem pe_non {j pos} : PE X (.Constant .none j pos) (tC .non) := λ _ _ _ H _ I h => Constant_none ⟨.non,H,I,rfl,h⟩
theorem gM {x j pos} : PE X (.Constant (.str x) j pos) (tC (.str x)) := λ _ _ _ H _ I h => Calls.Constant_str ⟨.str x,H,I.tok _,⟨_,rfl⟩,h⟩
def Gl (X : Cx) (x : Str) : Prop := X.env.kindOf x = some .globalImplicit
theorem oM {E : Value -> Shared -> Prop} {aA : List (Addr × Obj)} {s : Shared} {σ : St} {H : Hp} {x : Str} {u : Value} {pos : Pos} {Q : Value -> Shared -> Prop} (I : aR X aA σ H s) (hg : Gl X x) (hm : X.mg x = some u) (h : Q u s)
 (hd : (x == ("__debug__" : Str)) = false := by decide) : wpAny (model X.prog X.w) X.A (eval (.Name x pos) X.env) Q E s :=
 Calls.Name_function_global I.ok.kind hg (Calls.loadGlobal_global (by rw [I.ok.glob]; exact I.mod.glob.keeps I.bk) hm h) hd
theorem nV {E : Value -> Shared -> Prop} {aA : List (Addr × Obj)} {s : Shared} {σ : St} {H : Hp} {x : Str} {u : Value} {pos : Pos} {Q : Value -> Shared -> Prop} (I : aR X aA σ H s) (hg : Gl X x) (hm : X.mg x = none) (hv : bootBuiltins x = some u) (h : Q u s)
 (hn : x ≠ "__name__" := by decide) (hd : (x == ("__debug__" : Str)) = false := by decide) : wpAny (model X.prog X.w) X.A (eval (.Name x pos) X.env) Q E s := by
 obtain ⟨mb,h1,h2⟩ := I.mod.blt
 exact Calls.Name_function_global I.ok.kind hg (Calls.loadGlobal_builtin (by rw [I.ok.glob]; exact I.mod.glob.keeps I.bk) hm (by rw [I.ok.blt]; exact h1.keeps I.bk) ((h2 x hn).trans hv) h) hd
theorem gX {x : Str} {v : V} {u : Value} {pos : Pos} (hg : Gl X x) (hm : X.mg x = some u) (r : bD v u) (hd : (x == ("__debug__" : Str)) = false := by decide) : PE X (.Name x pos) (tC v) :=
 λ _ _ _ H _ I h => oM I hg hm ⟨v,H,I,r,h⟩ hd
theorem pe_bltn {x : Str} {v : V} {u : Value} {pos : Pos} (hg : Gl X x) (hm : X.mg x = none) (hv : bootBuiltins x = some u) (r : bD v u) (hn : x ≠ "__name__" := by decide) (hd : (x == ("__debug__" : Str)) = false := by decide) : PE X (.Name x pos) (tC v) :=
 λ _ _ _ H _ I h => nV I hg hm hv ⟨v,H,I,r,h⟩ hn hd
variable {a b : Expr}
def PC (X : Cx) (op : CmpOp) (a b : Expr) (t : TE) : Prop :=
 ∀ (aA : List (Addr × Obj)) (s : Shared) (σ : St) (H : Hp) (Q : VK),aR X aA σ H s -> t σ H Q ->
  wpAny (model X.prog X.w) X.A (eval a X.env) (λ v s₁ => wpAny (model X.prog X.w) X.A (eval b X.env) (λ u s₂ => wpAny (model X.prog X.w) X.A (compareOp op v u) (EP X aA σ Q) X.xe s₂) X.xe s₁) X.xe s
def tB (t : TE) : TT := λ σ H Q => t σ H λ x H1 => ∃ c,x = .bl c /\ Q c H1
theorem pt_cmp {op : CmpOp} {t : TE} (h : PC X op a b t) (h1 : behindInMarks op b = false := by first | exact nobehind _ (by decide) (by decide) | rfl) : PT X (.Compare a [op] [b] pos) (tB t) := by
 intro aA s σ H Q I hw
 refine wpAny_isTrue_Compare1 (cP (h aA s σ H _ I hw) λ v s1 h1 => cP h1 λ u s2 h2 => cP h2 λ c s3 ⟨x,H1,I1,r1,q1⟩ => ?_) h1
 obtain ⟨d,rfl,q⟩ := q1
 cases r1
 exact wpAny_truthy_bool ⟨H1,I1,q⟩
theorem fM {e : Expr} {t : TE} (h : PE X e t) (he : ∀ whole,isTrue e X.env whole = (do let v <- whole; standAt e.pos; holding [v] (truthy v)) := by intro _; rfl) : PT X e (tB t) := by
 intro aA s σ H Q I hw
 refine isTrue_plain (cP (h aA s σ H _ I hw) λ v s1 ⟨x,H1,I1,r1,q1⟩ => ?_) (he _)
 obtain ⟨d,rfl,q⟩ := q1
 cases r1
 exact wpAny_truthy_bool ⟨H1,I1,q⟩
variable {tA tB' : TT} {rest : List Expr}
def tAnd (t u : TT) : TT := λ σ H Q => t σ H λ c H1 => if c = true then u σ H1 Q else Q false H1
def tOr (t u : TT) : TT := λ σ H Q => t σ H λ c H1 => if c = true then Q true H1 else u σ H1 Q
def tNot (t : TT) : TT := λ σ H Q => t σ H λ c H1 => Q (!c) H1
theorem rE (ha : PT X a tA) : PW X (.BoolOp .And [a] pos) tA := by
 intro wh aA s σ H Q I h
 refine isTrue_and (cP (ha aA s σ H Q I h) λ c s1 e => ?_)
 cases c with
 | true => exact isTrue_and_nil e
 | false => exact e
theorem pw_or1 (ha : PT X a tA) : PW X (.BoolOp .Or [a] pos) tA := by
 intro wh aA s σ H Q I h
 refine isTrue_or (cP (ha aA s σ H Q I h) λ c s1 e => ?_)
 cases c with
 | false => exact isTrue_or_nil e
 | true => exact e
theorem pw_and (ha : PT X a tA) (hb : PW X (.BoolOp .And (b :: rest) pos) tB') : PW X (.BoolOp .And (a :: b :: rest) pos) (tAnd tA tB') := by
 intro wh aA s σ H Q I h
 refine isTrue_and (cP (ha aA s σ H _ I h) λ c s1 ⟨H1,I1,q1⟩ => ?_)
 cases c with
 | true => exact hb wh aA s1 σ H1 Q I1 q1
 | false => exact ⟨H1,I1,q1⟩
theorem pw_or (ha : PT X a tA) (hb : PW X (.BoolOp .Or (b :: rest) pos) tB') : PW X (.BoolOp .Or (a :: b :: rest) pos) (tOr tA tB') := by
 intro wh aA s σ H Q I h
 refine isTrue_or (cP (ha aA s σ H _ I h) λ c s1 ⟨H1,I1,q1⟩ => ?_)
 cases c with
 | true => exact ⟨H1,I1,q1⟩
 | false => exact hb wh aA s1 σ H1 Q I1 q1
theorem jQ (ha : PT X a tA) : PT X (.UnaryOp .Not a pos) (tNot tA) := by
 intro aA s σ H Q I h
 exact isTrue_not (ha aA s σ H (λ c H1 => Q (!c) H1) I h)
def tAndV (ta tb : TE) : TE := λ σ H Q => ta σ H λ x H1 => ∃ c,x = .bl c /\ if c = true then tb σ H1 Q else Q (.bl false) H1
def tOrV (ta tb : TE) : TE := λ σ H Q => ta σ H λ x H1 => ∃ c,x = .bl c /\ if c = true then Q (.bl true) H1 else tb σ H1 Q
def tNotV (ta : TE) : TE := λ σ H Q => ta σ H λ x H1 => ∃ c,x = .bl c /\ Q (.bl (!c)) H1
theorem pe_one {op} {t : TE} (h : PE X a t) : PE X (.BoolOp op [a] pos) t := λ aA s σ H Q I hw => BoolOp_one (h aA s σ H Q I hw)
theorem pe_and (ha : PE X a ta) (hb : PE X (.BoolOp .And (b :: rest) pos) tb) : PE X (.BoolOp .And (a :: b :: rest) pos) (tAndV ta tb) := by
 intro aA s σ H Q I h
 refine BoolOp_and (cP (ha aA s σ H _ I h) λ v s1 ⟨x,H1,I1,r1,q1⟩ => ?_)
 obtain ⟨c,rfl,q1⟩ := q1
 cases r1
 refine wpAny_truthy_bool ?_
 cases c with
 | true => exact hb aA s1 σ H1 Q I1 q1
 | false => exact ⟨.bl false,H1,I1,rfl,q1⟩
theorem pe_or (ha : PE X a ta) (hb : PE X (.BoolOp .Or (b :: rest) pos) tb) : PE X (.BoolOp .Or (a :: b :: rest) pos) (tOrV ta tb) := by
 intro aA s σ H Q I h
 refine BoolOp_or (cP (ha aA s σ H _ I h) λ v s1 ⟨x,H1,I1,r1,q1⟩ => ?_)
 obtain ⟨c,rfl,q1⟩ := q1
 cases r1
 refine wpAny_truthy_bool ?_
 cases c with
 | false => exact hb aA s1 σ H1 Q I1 q1
 | true => exact ⟨.bl true,H1,I1,rfl,q1⟩
theorem pe_not (ha : PE X a ta) : PE X (.UnaryOp .Not a pos) (tNotV ta) := by
 intro aA s σ H Q I h
 refine UnaryOp_ (cP (ha aA s σ H _ I h) λ v s1 ⟨x,H1,I1,r1,q1⟩ => ?_)
 obtain ⟨c,rfl,q1⟩ := q1
 cases r1
 exact not_of (wpAny_truthy_bool ⟨.bl (!c),H1,I1,rfl,q1⟩)
end
def bC (K : W.Frag) (H : Hp) (a : Addr) (xs : List V) : Prop :=
 Rd H a (.lst xs) \/
  ∃ (o : Obj) (bJ : Array Value) (n : Nat),K.lookup a = some o /\ o.cls = .type "list" /\ o.dict = none /\ o.data = .seq bJ n /\ bJ.size <= sizeLine /\ aX xs bJ.toList
def dM (K : W.Frag) (H : Hp) (a : Addr) (xs : List V) : Prop :=
 Rd H a (.tup xs) \/
  ∃ (o : Obj) (bJ : Array Value) (n : Nat),K.lookup a = some o /\ o.cls = .type "tuple" /\ o.data = .seq bJ n /\ bJ.size <= sizeLine /\ aX xs bJ.toList
def absV : Value -> Option V
 | .none => some .non
 | .bool b => some (.bl b)
 | .int i _ => some (.int i)
 | .str x _ => some (.str x)
 | .bytes b _ => some (.byt b)
 | .float b _ => some (.flt b)
 | .ref a => some (.ref a)
 | .type n => some (.ty n)
 | _ => none
theorem bD.abs {x : V} {u : Value} (r : bD x u) : absV u = some x := by
 cases x with
 | non => cases r; rfl
 | bl _ => cases r; rfl
 | int _ => obtain ⟨t,rfl⟩ := r; rfl
 | str _ => obtain ⟨t,rfl⟩ := r; rfl
 | byt _ => obtain ⟨t,rfl⟩ := r; rfl
 | flt _ => obtain ⟨t,rfl⟩ := r; rfl
 | ref _ => cases r; rfl
 | ty _ => cases r; rfl
theorem bD.inj {x y : V} {u : Value} (r : bD x u) (q : bD y u) : x = y := Option.some.inj (r.abs.symm.trans q.abs)
theorem aX.inj : ∀ {xs ys : List V} {us : List Value},aX xs us -> aX ys us -> xs = ys
 | _,_,_,.nil,.nil => rfl
 | _,_,_,.cons r t,.cons r' t' => by rw [r.inj r',aX.inj t t']
section
variable {σ : St} {a : Addr} {xs ys : List V}
theorem bC.of {K : W.Frag} (h : H a = some (.lst xs)) : bC K H a xs := .inl (.inl h)
theorem dM.of {K : W.Frag} (h : H a = some (.tup xs)) : dM K H a xs := .inl (.inl h)
theorem aR.list (I : aR X aA σ H s) (h : bC X.K H a xs) : ∃ bJ : List Value,aX xs bJ /\ PlainL s.heap a bJ.toArray /\ xs.length <= sizeLine := by
 rcases h with h | ⟨o,bJ,n,hk,hc,hd,hs,hz,r⟩
 . obtain ⟨z,bJ,n,r,e⟩ := h.ok I.hok;exact ⟨bJ,r,⟨_,n,e,rfl,rfl,rfl⟩,z⟩
 . refine ⟨bJ.toList,r,⟨o,n,I.kIn a o hk,hc,hd,by simpa using hs⟩,?_⟩;have e := r.length;simp only [Array.length_toList] at e;omega
theorem aR.tuple (I : aR X aA σ H s) (h : dM X.K H a xs) : ∃ bJ : List Value,aX xs bJ /\ IsTup s.heap a bJ.toArray /\ xs.length <= sizeLine := by
 rcases h with h | ⟨o,bJ,n,hk,hc,hs,hz,r⟩
 . obtain ⟨z,bJ,r,p⟩ := h.ok I.hok;exact ⟨bJ,r,p,z⟩
 . refine ⟨bJ.toList,r,⟨o,I.kIn a o hk,hc,n,by simpa using hs⟩,?_⟩;have e := r.length;simp only [Array.length_toList] at e;omega
theorem aR.list_inj (I : aR X aA σ H s) (h : bC X.K H a xs) (h' : bC X.K H a ys) : xs = ys := by
 obtain ⟨bJ,r,⟨o,n,e,_,_,d⟩,_⟩ := I.list h
 obtain ⟨its',r',⟨o',n',e',_,_,d'⟩,_⟩ := I.list h'
 rw [e] at e'; cases e'
 rw [d] at d'
 injection d' with d1 _
 have : bJ = its' := by simpa using congrArg Array.toList d1
 subst this
 exact r.inj r'
theorem aR.tuple_inj (I : aR X aA σ H s) (h : dM X.K H a xs) (h' : dM X.K H a ys) : xs = ys := by
 obtain ⟨bJ,r,⟨o,e,_,n,d⟩,_⟩ := I.tuple h
 obtain ⟨its',r',⟨o',e',_,n',d'⟩,_⟩ := I.tuple h'
 rw [e] at e'; cases e'
 rw [d] at d'
 injection d' with d1 _
 have : bJ = its' := by simpa using congrArg Array.toList d1
 subst this
 exact r.inj r'
end
abbrev Cx.wish (X : Cx) (E : Value -> Shared -> Prop) : Cx := { X with xe := E }
abbrev Cx.nox (X : Cx) : Cx := X.wish λ _ _ => False
theorem Cx.Ok.wish {X : Cx} (ok : X.Ok) (E : Value -> Shared -> Prop) : (X.wish E).Ok :=
 ⟨ok.mod,ok.kind,ok.glob,ok.blt,ok.above,ok.inj,ok.has,ok.cab,ok.hd,ok.frames,ok.stk,ok.exf,ok.bs,ok.bsz,ok.noex,ok.exfs,ok.funs,ok.frf⟩
theorem Cx.Ok.unwish {X : Cx} {E : Value -> Shared -> Prop} (ok : (X.wish E).Ok) : X.Ok :=
 ⟨ok.mod,ok.kind,ok.glob,ok.blt,ok.above,ok.inj,ok.has,ok.cab,ok.hd,ok.frames,ok.stk,ok.exf,ok.bs,ok.bsz,ok.noex,ok.exfs,ok.funs,ok.frf⟩
section
variable {σ : St} {E : Value -> Shared -> Prop}
theorem aR.wish (I : aR X aA σ H s) (E : Value -> Shared -> Prop) : aR (X.wish E) aA σ H s := ⟨I.ok.wish E,I.os,I.bare,I.base,I.loc,I.cell,I.free,I.freeC,I.pin,I.hok,I.len⟩
theorem aR.unwish (I : aR (X.wish E) aA σ H s) : aR X aA σ H s := ⟨I.ok.unwish,I.os,I.bare,I.base,I.loc,I.cell,I.free,I.freeC,I.pin,I.hok,I.len⟩
theorem SP.unwish {D : eL} {f : Flow} {s' : Shared} (h : SP (X.wish E) aA D f s') : SP X aA D f s' := by
 cases f with
 | next => obtain ⟨σ',H',I,q⟩ := h; exact ⟨σ',H',I.unwish,q⟩
 | brk => obtain ⟨σ',H',I,q⟩ := h; exact ⟨σ',H',I.unwish,q⟩
 | cont => obtain ⟨σ',H',I,q⟩ := h; exact ⟨σ',H',I.unwish,q⟩
 | ret u => obtain ⟨v,σ',H',I,r,q⟩ := h; exact ⟨v,σ',H',I.unwish,r,q⟩
theorem PSs.nox {st : List Stmt} {t : TS} (h : PSs X.nox st t) : PSs X st t := λ aA s σ H D I hw =>
 wpAny_mono (h aA s σ H D (I.wish _) hw) (λ _ _ q => q.unwish) λ _ _ z => False.elim z
end
section
variable {st : Stmt} {rest : List Stmt} {t u : TS} {e : Expr}
def tNext : TS := λ D σ H => D.nx σ H
def bV (t u : TS) : TS := λ D σ H => t { D with nx := u D } σ H
theorem bU : PSs X [] tNext := λ _ _ σ H _ I h => wpAny_execs_nil ⟨σ,H,I,h⟩
theorem aE (h1 : PS X st t) (h2 : PSs X rest u) : PSs X (st :: rest) (bV t u) := by
 intro aA s σ H D I h
 refine wpAny_execs_cons (cP (h1 aA s σ H { D with nx := u D } I h) λ f s1 q => ?_)
 cases f with
 | next =>
  obtain ⟨σ',H',I',q⟩ := q;exact h2 aA s1 σ' H' D I' q
 | ret v => exact q
 | brk => exact q
 | cont => exact q
theorem aK (h1 : PS X st t) : PSs X [st] t := by
 intro aA s σ H D I h
 refine wpAny_execs_cons (cP (h1 aA s σ H D I h) λ f s1 q => ?_)
 cases f with
 | next => exact wpAny_execs_nil q
 | ret v => exact q
 | brk => exact q
 | cont => exact q
theorem aR.quiet {aA : List (Addr × Obj)} {σ : St} {H : Hp} {s : Shared} (I : aR X aA σ H s) : interactive X.env = false := by simp [interactive,I.ok.kind]
def tDrop (te : TE) : TS := λ D σ H => te σ H λ _ H1 => D.nx σ H1
theorem fL (he : PE X e te) (hs : swapsWith e none pos.line X.env = pure false := by rfl) : PS X (.Expr e pos) (tDrop te) := by
 intro aA s σ H D I h
 exact wpAny_Expr_any (cP (he aA s σ H _ I h) λ v s1 ⟨x,H1,I1,r1,q1⟩ => ⟨σ,H1,I1,q1⟩) I.quiet hs
def tRet (te : TE) : TS := λ D σ H => te σ H D.rt
theorem bN (he : PE X e te) : PS X (.Return (some e) pos) (tRet te) := by
 intro aA s σ H D I h
 exact wpAny_Return_some (cP (he aA s σ H _ I h) λ v s1 ⟨x,H1,I1,r1,q1⟩ => ⟨x,σ,H1,I1,r1,q1⟩)
def tIfS (c : TT) (t u : TS) : TS := λ D σ H => c σ H λ b H1 => if b = true then t D σ H1 else u D σ H1
theorem dH {c : Expr} {a b : List Stmt} {tc : TT} (hc : PT X c tc) (ha : PSs X a t) (hb : PSs X b u) : PS X (.If c a b pos) (tIfS tc t u) := by
 intro aA s σ H D I h
 refine wpAny_If (cP (hc aA s σ H _ I h) λ d s1 ⟨H1,I1,q1⟩ => ?_)
 cases d with
 | true => exact ha aA s1 σ H1 D I1 q1
 | false => exact hb aA s1 σ H1 D I1 q1
def tNever : TS := λ _ _ _ => False
theorem ps_never : PS X st tNever := λ _ _ _ _ _ _ h => h.elim
end
abbrev TG := V -> St -> Hp -> (St -> Hp -> Prop) -> Prop
abbrev TGs := List V -> St -> Hp -> (St -> Hp -> Prop) -> Prop
def PG (X : Cx) (qB : Expr) (t : TG) : Prop :=
 ∀ (aA : List (Addr × Obj)) (s : Shared) (σ : St) (H : Hp) (v : V) (u : Value) (Q : St -> Hp -> Prop),aR X aA σ H s -> bD v u -> t v σ H Q ->
  wpAny (model X.prog X.w) X.A (assign qB X.env u) (λ _ s' => ∃ σ' H',aR X aA σ' H' s' /\ Q σ' H') X.xe s
def PGs (X : Cx) (ts : List Expr) (t : TGs) : Prop :=
 ∀ (aA : List (Addr × Obj)) (s : Shared) (σ : St) (H : Hp) (vs : List V) (us : List Value) (Q : St -> Hp -> Prop),aR X aA σ H s -> aX vs us -> t vs σ H Q ->
  wpAny (model X.prog X.w) X.A (assignInOrder ((assignEach ts X.env).map (·.2)) us) (λ _ s' => ∃ σ' H',aR X aA σ' H' s' /\ Q σ' H') X.xe s
abbrev TSet := V -> V -> V -> Hp -> (Hp -> Prop) -> Prop
def PSet (X : Cx) (t : TSet) : Prop :=
 ∀ (aA : List (Addr × Obj)) (s : Shared) (σ : St) (H : Hp) (o i v : V) (ov iv u : Value) (Q : Hp -> Prop),aR X aA σ H s -> bD o ov -> bD i iv -> bD v u -> t o i v H Q ->
  wpAny (model X.prog X.w) X.A (setItem ov iv u) (λ _ s' => ∃ H',aR X aA σ H' s' /\ Q H') X.xe s
def bO (i : Nat) : TG := λ v σ H Q => Q (σ.set i (some v)) H
theorem aP {i : Nat} {x : Str} (hN : X.N.Nodup) (hi : X.N[i]? = some x) (hx : Loc X.env.scope x) (hf : X.fn x = true \/ X.env.scope.names.lookup x = some .local := by first | exact .inl rfl | exact .inr rfl | assumption) : PG X (.Name x pos) (bO i) := by
 intro aA s σ H v u Q I r h
 exact wpAny_assign_Name (kI I hN hi hx r (λ s' I' => ⟨_,H,I',h⟩) hf)
def gNil : TGs := λ vs σ H Q => vs = [] /\ Q σ H
def fE (t : TG) (u : TGs) : TGs := λ vs σ H Q => ∃ v r,vs = v :: r /\ t v σ H λ σ' H' => u r σ' H' Q
theorem fJ : PGs X [] gNil := by
 intro aA s σ H vs us Q I r h
 obtain ⟨e,h⟩ := h
 subst e
 cases r
 exact assignInOrder_nil ⟨σ,H,I,h⟩
theorem bW {e : Expr} {es : List Expr} {t : TG} {u : TGs} (h1 : PG X e t) (h2 : PGs X es u)
 (hs : (assignEach (e :: es) X.env).map (·.2) = assign e X.env :: (assignEach es X.env).map (·.2) := by rfl) : PGs X (e :: es) (fE t u) := by
 intro aA s σ H vs us Q I r h
 obtain ⟨v,vr,e1,h⟩ := h
 subst e1
 cases r with
 | cons r rr =>
  rw [hs];refine assignInOrder_cons (cP (h1 aA s σ H _ _ _ I r h) λ _ s1 ⟨σ1,H1,I1,q1⟩ => ?_);exact h2 aA s1 σ1 H1 _ _ Q I1 rr q1
def gTup (K : W.Frag) (n : Nat) (t : TGs) : TG := λ v σ H Q => ∃ a xs,v = .ref a /\ dM K H a xs /\ xs.length = n /\ t xs σ H Q
theorem iE {es : List Expr} {k : Nat} {t : TGs} {n : Nat} (hc : X.calm = true) (h : PGs X es t)
 (hn : (assignEach es X.env).length = n := by rfl) (hst : (assignEach es X.env).findIdx? (·.1) = none := by rfl) : PG X (.Tuple es k pos) (gTup X.K n t) := by
 intro aA s σ H v u Q I r hw
 obtain ⟨a,xs,e1,hq,hl,hw⟩ := hw
 subst e1
 cases r
 obtain ⟨bJ,rv,ht,hz⟩ := I.tuple hq
 refine assign_Tuple_tuple (I.ok.hd hc) ht (by simp [hn,<- hl,rv.length]) hst λ h' hx => ?_
 have I1 : aR X aA σ H { s with heap := h' } := I.kept (t' := s.toks) λ b o e => hx b o (Nat.ne_of_lt (Heap.lt_size e)) e
 exact h aA _ σ H xs _ Q I1 (by simpa using rv) hw
def gSub (to ti : TE) (t : TSet) : TG := λ v σ H Q => to σ H λ o H1 => ti σ H1 λ i H2 => t o i v H2 λ H3 => Q σ H3
theorem pg_sub {o i : Expr} {to ti : TE} {t : TSet} (ho : PE X o to) (hi : PE X i ti) (hs : PSet X t)
 (ha : ∀ v,assign (.Subscript o i pos) X.env v = (do
  let ov <- holding [v] (eval o X.env)
  let iv <- holding [v,ov] (eval i X.env)
  standAt pos
  holding [v,ov,iv] (setItem ov iv v)
  release [v,ov,iv] []) := by intro _; rfl) : PG X (.Subscript o i pos) (gSub to ti t) := by
 intro aA s σ H v u Q I r h
 rw [ha]
 refine wpAny_bind (wpAny_holding (cP (ho aA s σ H _ I h) λ ov s1 ⟨x,H1,I1,r1,q1⟩ => ?_))
 refine wpAny_bind (wpAny_holding (cP (hi aA s1 σ H1 _ I1 q1) λ iv s2 ⟨y,H2,I2,r2,q2⟩ => ?_))
 refine wpAny_bind (wpAny_standAt (wpAny_bind (wpAny_holding (cP (hs aA s2 σ H2 x y v ov iv u _ I2 r1 r2 r q2) λ _ s3 ⟨H3,I3,q3⟩ => ?_))))
 exact wpAny_release ⟨σ,H3,I3,q3⟩
def tAsg (te : TE) (g : TG) : TS := λ D σ H => te σ H λ x H1 => g x σ H1 D.nx
theorem ps_asg {tg e : Expr} {te : TE} {g : TG} (he : PE X e te) (hg : PG X tg g) (hs : swapsWithSole [tg] e pos.line X.env = pure false := by rfl) (hw : swappedStores [tg] e X.env = pure none := by rfl)
 (h1 : (assignEach [tg] X.env).map (·.2) = [assign tg X.env] := by rfl) : PS X (.Assign [tg] e pos) (tAsg te g) := by
 intro aA s σ H D I h
 refine wpAny_Assign_stores (cP (he aA s σ H _ I h) λ v s1 ⟨x,H1,I1,r1,q1⟩ => ?_) hs hw
 rw [h1]
 exact cP (hg aA s1 σ H1 x v _ I1 r1 q1) λ _ s2 q => q
theorem aS {i : Nat} {x : Str} {e : Expr} {te : TE} {pos' : Pos} (hN : X.N.Nodup) (hi : X.N[i]? = some x) (hx : Loc X.env.scope x) (he : PE X e te) (hs : swapsWith e (some (.Name x pos')) pos.line X.env = pure false := by rfl) (hf : X.fn x = true \/ X.env.scope.names.lookup x = some .local := by first | exact .inl rfl | exact .inr rfl | assumption) :
 PS X (.Assign [.Name x pos'] e pos) (tAsg te (bO i)) := by
 intro aA s σ H D I h
 refine wpAny_Assign_Name (cP (he aA s σ H _ I h) λ v s1 ⟨y,H1,I1,r1,q1⟩ => ?_) hs
 exact kI I1 hN hi hx r1 (λ s2 I2 => ⟨_,H1,I2,q1⟩) hf
structure It where
 go : Nat -> Hp -> Prop
 yld : Nat -> Hp -> V -> Hp -> Prop
 stop : Nat -> Hp -> Prop
def iM (X : Cx) (aA : List (Addr × Obj)) (H : Hp) (b : Addr) : Prop :=
 H b = none /\ b ≠ X.env.locals /\ b ∉ X.fs /\ (b ∈ X.ex \/ X.s₀.heap.objs.size <= b) /\ (∀ x c,X.env.cells.lookup x = some c -> c ≠ b) /\ ∀ p ∈ X.pn ++ aA,p.1 ≠ b
theorem aR.fpOk {X : Cx} {aA : List (Addr × Obj)} {σ : St} {H H' : Hp} {s : Shared} {b : Addr} (I : aR X aA σ H s) (hb : s.heap.objs.size <= b) (hn : H' b = none) : iM X aA H' b := by
 refine ⟨hn,Nat.ne_of_gt (Nat.lt_of_lt_of_le I.lt hb),I.nofs hb,.inr (Nat.le_trans I.sz hb),λ x c e z => ?_,λ p hp z => ?_⟩
 . obtain ⟨v,q⟩ := I.cell x c e;exact absurd (Nat.lt_of_lt_of_le q.lt (by rw [z]; exact hb)) (Nat.lt_irrefl _)
 . exact absurd (Nat.lt_of_lt_of_le (Heap.lt_size (I.pin p hp).1) (by rw [z]; exact hb)) (Nat.lt_irrefl _)
structure qY (P : Program) (w : World) (K : W.Frag) (tg : Expr) (J : It) (fp : List Addr) (it : Addr) (tn : Nat -> Heap -> Prop) : Prop where
 mem : it ∈ fp
 obj : ∀ i h,tn i h -> ∀ b ∈ fp,∃ o,h.get? b = some o /\ ∀ v,o.data ≠ .cell v
 keep : ∀ i h h',tn i h -> (∀ b ∈ fp,∀ o,h.get? b = some o -> h'.get? b = some o) -> tn i h'
 item : ∀ (X : Cx),X.prog = P -> X.w = w -> X.K = K -> X.calm = true -> ∀ (i : Nat) (aA : List (Addr × Obj)) (s : Shared) (σ : St) (H : Hp) (E : Value -> Shared -> Prop),aR X aA σ H s -> (∀ b ∈ fp,iM X aA H b) -> tn i s.heap -> J.go i H ->
  wpAny (model P w) X.A (pyNext (.ref it)) (λ r s1 => ∃ u,r = some u /\
   wpAny (model P w) X.A (letOwnedTupleGo tg (.ref it) u) (λ _ s2 => ∃ x H',aR X aA σ H' s2 /\ bD x u /\ J.yld i H x H' /\ tn (i + 1) s2.heap /\ ∀ b ∈ fp,H' b = none) E s1) E s
 done : ∀ (X : Cx),X.prog = P -> X.w = w -> X.K = K -> X.calm = true -> ∀ (i : Nat) (aA : List (Addr × Obj)) (s : Shared) (σ : St) (H : Hp) (E : Value -> Shared -> Prop),aR X aA σ H s -> (∀ b ∈ fp,iM X aA H b) -> tn i s.heap -> J.stop i H ->
  wpAny (model P w) X.A (pyNext (.ref it)) (λ r s1 => r = none /\ aR X aA σ H s1) E s
 self : ∀ (A : Around) (i : Nat) (s : Shared) (Q : Value -> Shared -> Prop) (E : Value -> Shared -> Prop),tn i s.heap -> Q (.ref it) s -> wpAny (model P w) A (pyIter (.ref it)) Q E s
abbrev TI := St -> Hp -> (It -> Hp -> Prop) -> Prop
def PIE (X : Cx) (aA : List (Addr × Obj)) (σ : St) (tg : Expr) (R : It -> Hp -> Prop) (itv : Value) (s2 : Shared) : Prop :=
 ∃ (it : Addr) (fp : List Addr) (tn : Nat -> Heap -> Prop) (J : It) (H' : Hp),itv = .ref it /\ aR X aA σ H' s2 /\ qY X.prog X.w X.K tg J fp it tn /\ tn 0 s2.heap /\ (∀ b ∈ fp,iM X aA H' b) /\ R J H'
def PI (X : Cx) (tg cZ : Expr) (wi : TI) : Prop :=
 ∀ (aA : List (Addr × Obj)) (s : Shared) (σ : St) (H : Hp) (R : It -> Hp -> Prop),aR X aA σ H s -> wi σ H R ->
  wpAny (model X.prog X.w) X.A (eval cZ X.env) (λ v s1 => wpAny (model X.prog X.w) X.A (pyIter v) (PIE X aA σ tg R) X.xe s1) X.xe s
theorem go_of {M : Model} {A : Around} {E : Value -> Shared -> Prop} {s : Shared} {tg : Expr} {it : Addr} {u : Value} {o : Obj} {n : String} {vs : Array Value} {Q : Unit -> Shared -> Prop} (ho : s.heap.get? it = some o) (hc : o.cls = .type n) (hd : o.data = .fields vs)
 (hn : ["enumerate","zip","dict_itemiterator","dict_reverseitemiterator","odict_iterator","itertools.zip_longest","itertools.pairwise"].contains n = false) (hQ : Q () s) : wpAny M A (letOwnedTupleGo tg (.ref it) u) Q E s := by
 unfold letOwnedTupleGo
 cases tg <;> first
  | exact wpAny_pure hQ
  | (cases u <;> first
   | exact wpAny_pure hQ
   | (refine wpAny_bind (wpAny_load ho ?_); rw [hc,hd]; show wpAny M A (if (["enumerate","zip","dict_itemiterator","dict_reverseitemiterator","odict_iterator","itertools.zip_longest","itertools.pairwise"].contains n && vs[0]? == some (rawInt _)) = true then _ else _) Q E s; rw [if_neg (by intro h; rw [hn,Bool.false_and] at h; cases h)]; exact wpAny_pure hQ))
def Itl (K : W.Frag) (a : Addr) : It :=
 ⟨λ i H => ∃ xs x,bC K H a xs /\ xs[i]? = some x,λ i H x H' => H' = H /\ ∀ xs,bC K H a xs -> xs[i]? = some x,λ i H => ∃ xs,bC K H a xs /\ xs.length <= i⟩
def Itt (K : W.Frag) (a : Addr) : It :=
 ⟨λ i H => ∃ xs x,dM K H a xs /\ xs[i]? = some x,λ i H x H' => H' = H /\ ∀ xs,dM K H a xs -> xs[i]? = some x,λ i H => ∃ xs,dM K H a xs /\ xs.length <= i⟩
def Itr (lo : Int) (n : Nat) : It := ⟨λ i _ => i < n,λ i H x H' => H' = H /\ x = .int (lo + i),λ i _ => n <= i⟩
theorem turn_list {P : Program} {w : World} {K : W.Frag} {tg : Expr} (a it : Addr) : qY P w K tg (Itl K a) [it] it (λ i h => h.IsListIter it a i) where
 mem := by simp
 obj := λ i h st b hb => by
  have e : b = it := by simpa using hb
  subst e;obtain ⟨o,e,c,d⟩ := st;exact ⟨o,e,λ v z => by rw [d] at z; cases z⟩
 keep := λ i h h' st k => st.at λ o e => k it (by simp) o e
 item := by
  intro X hP hw hK hc i aA s σ H E I hf st hg;subst hP hw hK;obtain ⟨xs,x,hq,hx⟩ := hg;obtain ⟨bJ,rv,p,hz⟩ := I.list hq;obtain ⟨u,hu,ru⟩ := rv.get hx;obtain ⟨f0,f1,f2,f3,f4,f5⟩ := hf it (by simp);refine wpAny_pyNext_list_item st p.isList (x := u) (by simpa using hu) λ h' st' sb => ?_;have I1 : aR X aA σ H { s with heap := h' } := I.turned (t' := s.toks) (λ b o hb e => (sb.2 b hb).trans e) f0 f1 f3 f4 f5;obtain ⟨o,e,c,d⟩ := id st';exact ⟨u,rfl,go_of (s := { s with heap := h' }) e c d (by decide) ⟨x,H,I1,ru,⟨rfl,λ ys hy => by rw [I.list_inj hy hq]; exact hx⟩,st',λ b hb => (hf b hb).1⟩⟩
 done := by
  intro X hP hw hK hc i aA s σ H E I hf st hg;subst hP hw hK;obtain ⟨xs,hq,hx⟩ := hg;obtain ⟨bJ,rv,p,hz⟩ := I.list hq;obtain ⟨f0,f1,f2,f3,f4,f5⟩ := hf it (by simp);have hl := rv.length;exact wpAny_pyNext_list_end (I.ok.hd hc) st p.isList (by simp; omega) λ h' eb => ⟨rfl,I.turned (t' := s.toks) (λ b o hb e => eb b o hb e) f0 f1 f3 f4 f5⟩
 self := λ _ _ _ _ _ st h => wpAny_pyIter_listiter st h
theorem turn_tuple {P : Program} {w : World} {K : W.Frag} {tg : Expr} (a it : Addr) : qY P w K tg (Itt K a) [it] it (λ i h => h.IsTupleIter it a i) where
 mem := by simp
 obj := λ i h st b hb => by
  have e : b = it := by simpa using hb
  subst e;obtain ⟨o,e,c,d⟩ := st;exact ⟨o,e,λ v z => by rw [d] at z; cases z⟩
 keep := λ i h h' st k => st.at λ o e => k it (by simp) o e
 item := by
  intro X hP hw hK hc i aA s σ H E I hf st hg;subst hP hw hK;obtain ⟨xs,x,hq,hx⟩ := hg;obtain ⟨bJ,rv,p,hz⟩ := I.tuple hq;obtain ⟨u,hu,ru⟩ := rv.get hx;obtain ⟨f0,f1,f2,f3,f4,f5⟩ := hf it (by simp);refine wpAny_pyNext_tuple_item st (show s.heap.IsTuple a bJ.toArray from p) (x := u) (by simpa using hu) λ h' st' sb => ?_;have I1 : aR X aA σ H { s with heap := h' } := I.turned (t' := s.toks) (λ b o hb e => (sb.2 b hb).trans e) f0 f1 f3 f4 f5;obtain ⟨o,e,c,d⟩ := id st';exact ⟨u,rfl,go_of (s := { s with heap := h' }) e c d (by decide) ⟨x,H,I1,ru,⟨rfl,λ ys hy => by rw [I.tuple_inj hy hq]; exact hx⟩,st',λ b hb => (hf b hb).1⟩⟩
 done := by
  intro X hP hw hK hc i aA s σ H E I hf st hg;subst hP hw hK;obtain ⟨xs,hq,hx⟩ := hg;obtain ⟨bJ,rv,p,hz⟩ := I.tuple hq;obtain ⟨f0,f1,f2,f3,f4,f5⟩ := hf it (by simp);have hl := rv.length;exact wpAny_pyNext_tuple_end (I.ok.hd hc) st (show s.heap.IsTuple a bJ.toArray from p) (by simp; omega) λ h' eb => ⟨rfl,I.turned (t' := s.toks) (λ b o hb e => eb b o hb e) f0 f1 f3 f4 f5⟩
 self := λ _ _ _ _ _ st h => wpAny_pyIter_tupleiter st h
theorem turn_range {P : Program} {w : World} {K : W.Frag} {tg : Expr} (it : Addr) (lo : Int) (n : Nat) : qY P w K tg (Itr lo n) [it] it (λ i h => IsRangeIter h it (lo + (i : Nat) * 1) ((n : Int) - (i : Nat)) 1) where
 mem := by simp
 obj := λ i h st b hb => by
  have e : b = it := by simpa using hb
  subst e;exact ⟨_,st,λ v z => by
   have z' : Data.fields _ = Data.cell v := z;cases z'⟩
 keep := λ i h h' st k => k it (by simp) _ st
 item := by
  intro X hP hw hK hc i aA s σ H E I hf st hg;subst hP hw hK;obtain ⟨f0,f1,f2,f3,f4,f5⟩ := hf it (by simp);have W := Walks.range (prog := X.prog) (w := X.w) (I.ok.hd hc) it lo 1 n;refine W.item i s _ _ hg st λ v h' tk hv st' kk => ?_;obtain ⟨t,rfl⟩ := hv;have I1 : aR X aA σ H { s with heap := h',toks := tk } := I.turned (λ b o hb e => kk b o (by simpa using hb) e) f0 f1 f3 f4 f5;refine ⟨_,rfl,go_of (s := { s with heap := h',toks := tk }) (n := "range_iterator") st' rfl rfl (by decide) ⟨.int (lo + i),H,I1,⟨t,?_⟩,⟨rfl,rfl⟩,st',λ b hb => (hf b hb).1⟩⟩;rw [Int.mul_one]
 done := by
  intro X hP hw hK hc i aA s σ H E I hf st hg;subst hP hw hK;obtain ⟨f0,f1,f2,f3,f4,f5⟩ := hf it (by simp);exact wpAny_pyNext_range_end (I.ok.hd hc) st (by have : n <= i := hg; omega) λ h' eb => ⟨rfl,I.turned (t' := s.toks) (λ b o hb e => eb b o hb e) f0 f1 f3 f4 f5⟩
 self := λ _ _ _ _ _ st h => wpAny_pyIter_rangeiter st h
section
variable {tg : Expr}
def iList (K : W.Frag) (tl : TE) : TI := λ σ H R => tl σ H λ x H1 => ∃ a,x = .ref a /\ (∃ xs,bC K H1 a xs) /\ R (Itl K a) H1
def iTup (K : W.Frag) (tl : TE) : TI := λ σ H R => tl σ H λ x H1 => ∃ a,x = .ref a /\ (∃ xs,dM K H1 a xs) /\ R (Itt K a) H1
theorem dG {l : Expr} {tl : TE} (hl : PE X l tl) : PI X tg l (iList X.K tl) := by
 intro aA s σ H R I h
 refine cP (hl aA s σ H _ I h) λ v s1 ⟨x,H1,I1,r1,q1⟩ => ?_
 obtain ⟨a,e,⟨xs,hq⟩,q⟩ := q1
 subst e
 cases r1
 obtain ⟨bJ,rv,p,hz⟩ := I1.list hq
 refine wpAny_pyIter_list p.isList ?_
 refine ⟨s1.heap.objs.size,[s1.heap.objs.size],_,_,H1,rfl,I1.kept (t' := s1.toks) λ b o e => Heap.get?_push_of_some _ e,turn_list a _,⟨_,Heap.get?_push_size _ rfl,rfl,rfl⟩,λ b hb => ?_,q⟩
 have e : b = s1.heap.objs.size := by simpa using hb
 subst e
 exact I1.fpOk (Nat.le_refl _) (I1.hok.fresh (Nat.le_refl _))
theorem fZ {l : Expr} {tl : TE} (hl : PE X l tl) : PI X tg l (iTup X.K tl) := by
 intro aA s σ H R I h
 refine cP (hl aA s σ H _ I h) λ v s1 ⟨x,H1,I1,r1,q1⟩ => ?_
 obtain ⟨a,e,⟨xs,hq⟩,q⟩ := q1
 subst e
 cases r1
 obtain ⟨bJ,rv,p,hz⟩ := I1.tuple hq
 refine wpAny_pyIter_tuple (show s1.heap.IsTuple a bJ.toArray from p) ?_
 refine ⟨s1.heap.objs.size,[s1.heap.objs.size],_,_,H1,rfl,I1.kept (t' := s1.toks) λ b o e => Heap.get?_push_of_some _ e,turn_tuple a _,⟨_,Heap.get?_push_size _ rfl,rfl,rfl⟩,λ b hb => ?_,q⟩
 have e : b = s1.heap.objs.size := by simpa using hb
 subst e
 exact I1.fpOk (Nat.le_refl _) (I1.hok.fresh (Nat.le_refl _))
theorem range_it {aA : List (Addr × Obj)} {σ : St} {H : Hp} {s : Shared} {R : It -> Hp -> Prop} {E : Value -> Shared -> Prop} {lo hi : Int} {t u v : Tok} {tk : Nat} (I : aR X aA σ H s) (h1 : -(2 ^ 62) <= lo) (h2 : lo < 2 ^ 62) (h3 : -(2 ^ 62) <= hi) (h4 : hi < 2 ^ 62)
 (q : R (Itr lo (hi - lo).toNat) H) : wpAny (model X.prog X.w) X.A (pyIter (.ref s.heap.objs.size)) (PIE X aA σ tg R) E { s with heap := s.heap.push { cls := .type "range",data := .fields #[.int lo t,.int hi u,.int 1 v] },toks := tk } := by
 refine wpAny_pyIter_range (IsRange.new ..) (small_one h1 h2 h3 h4) ?_
 have I1 : aR X aA σ H { s with heap := s.heap.push { cls := .type "range",data := .fields #[.int lo t,.int hi u,.int 1 v] },toks := tk } := I.kept λ b o e => Heap.get?_push_of_some _ e
 refine ⟨(s.heap.push { cls := .type "range",data := .fields #[.int lo t,.int hi u,.int 1 v] }).objs.size,[(s.heap.push { cls := .type "range",data := .fields #[.int lo t,.int hi u,.int 1 v] }).objs.size],_,_,H,rfl,
  I1.kept (t' := tk) λ b o e => Heap.get?_push_of_some _ e,turn_range _ lo (hi - lo).toNat,?_,λ b hb => ?_,q⟩
 . have e1 : lo + ((0 : Nat) : Int) * 1 = lo := by simp
   have e2 : (((hi - lo).toNat : Nat) : Int) - ((0 : Nat) : Int) = Builtin.Range.rangeSize lo hi 1 := by rw [rangeSize_one]; split <;> omega
   show IsRangeIter _ _ (lo + ((0 : Nat) : Int) * 1) ((((hi - lo).toNat : Nat) : Int) - ((0 : Nat) : Int)) 1
   rw [e1,e2];exact Heap.get?_push_size _ rfl
 . have e : b = (s.heap.push { cls := .type "range",data := .fields #[.int lo t,.int hi u,.int 1 v] }).objs.size := by simpa using hb
   subst e;exact I1.fpOk (Nat.le_refl _) (I1.hok.fresh (Nat.le_refl _))
def iRng1 (ta : TA) : TI := λ σ H R => ta σ H λ vs H1 => ∃ j : Int,vs = [.int j] /\ -(2 ^ 62) <= j /\ j < 2 ^ 62 /\ R (Itr 0 j.toNat) H1
theorem eE {a : Expr} {ta : TA} {p pos : Pos} (hg : Gl X "range") (hm : X.mg "range" = none) (ha : PA X [a] ta) (hs : starEach [a] X.env = [(false,eval a X.env)] := by rfl) : PI X tg (.Call (.Name "range" p) [a] [] pos) (iRng1 ta) := by
 intro aA s σ H R I h
 refine Call_ (nV I hg hm boot_range (PyProof.Rows.callWith_type1 (cP (ha pos aA s σ H _ I h) λ us s1 ⟨vs,H1,I1,r1,q1⟩ => ?_) hs rfl))
 obtain ⟨j,e,q1,q2,q⟩ := q1
 subst e
 cases r1 with
 | cons r rr =>
  cases rr;obtain ⟨t,rfl⟩ := r;exact call_range_1 (range_it I1 (by omega) (by omega) q1 q2 (by simpa using q))
def tFor (wi : TI) (g : TG) (tb : TS) : TS := λ D σ H => wi σ H λ J H1 => ∃ W : Nat -> Nat -> St -> Hp -> Prop,(∃ m,W 0 m σ H1) /\ ∀ i m σ H,W i m σ H ->
 (J.stop i H /\ D.nx σ H) \/ (J.go i H /\ ∃ N : St -> Hp -> Prop,(∀ σ' H',N σ' H' -> ∃ m',m' < m /\ W (i + 1) m' σ' H') /\ ∀ x H',J.yld i H x H' -> g x σ H' λ σ2 H2 => tb { D with nx := N,ct := N,bk := D.nx } σ2 H2)
def pH (fp : List Addr) (h : Heap) : List (Addr × Obj) := fp.filterMap λ b => (h.get? b).map λ o => (b,o)
theorem jA {fp : List Addr} {h : Heap} {b : Addr} {o : Obj} (hb : b ∈ fp) (e : h.get? b = some o) : (b,o) ∈ pH fp h := List.mem_filterMap.mpr ⟨b,hb,by rw [e]; rfl⟩
theorem of_pinsAt {fp : List Addr} {h : Heap} {p : Addr × Obj} (hp : p ∈ pH fp h) : p.1 ∈ fp /\ h.get? p.1 = some p.2 := by
 obtain ⟨b,hb,e⟩ := List.mem_filterMap.mp hp
 cases q : h.get? b with
 | none => rw [q] at e; cases e
 | some o =>
  rw [q] at e;have e' : (b,o) = p := Option.some.inj e;subst e';exact ⟨hb,q⟩
theorem aR.pinned {aA : List (Addr × Obj)} {σ : St} {H : Hp} {s : Shared} {fp : List Addr} (I : aR X aA σ H s) (hf : ∀ b ∈ fp,iM X aA H b) (ho : ∀ b ∈ fp,∃ o,s.heap.get? b = some o /\ ∀ v,o.data ≠ .cell v) : aR X (aA ++ pH fp s.heap) σ H s :=
 I.pins_of λ p hp => (List.mem_append.mp hp).elim (λ z => I.pin p (List.mem_append_right _ z)) λ z => by
  obtain ⟨hb,e⟩ := of_pinsAt z;obtain ⟨f0,f1,f2,_⟩ := hf p.1 hb;obtain ⟨o,e',d⟩ := ho p.1 hb;rw [e] at e'; cases e';exact ⟨e,f0,f1,f2,d⟩
theorem aR.unpinned {aA pl : List (Addr × Obj)} {σ : St} {H : Hp} {s : Shared} (I : aR X (aA ++ pl) σ H s) : aR X aA σ H s := I.pins_of λ p hp => I.pin p (List.mem_append_right _ (List.mem_append_left _ hp))
theorem dC {cZ : Expr} {body : List Stmt} {wi : TI} {g : TG} {tb : TS} {pos : Pos} (hp : PassesOwn (model X.prog X.w) X.A X.env X.xe) (hc : X.calm = true) (hi : PI X tg cZ wi) (hg : PG X tg g) (hb : PSs X body tb)
 (hs : ∀ x,foldedSetIterable cZ X.env x = pure x := by intro _; rfl) : PS X (.For tg cZ body [] pos) (tFor wi g tb) := by
 intro aA s σ H D I h
 refine wpAny_For (cP (hi aA s σ H _ I h) λ v s1 h1 => cP h1 λ itv s2 h2 => ?_) hs
 obtain ⟨it,fp,tn,J,H2,e,I2,T,qZ,f2,W,⟨m0,w0⟩,oU⟩ := h2
 subst e
 -- what stays true of the iterator's objects through the kY
 have stat : ∀ {H' : Hp},(∀ b ∈ fp,H' b = none) -> ∀ b ∈ fp,iM X aA H' b := λ hn b hb => ⟨hn b hb,(f2 b hb).2⟩
 refine codeAny_forLoop_any (λ n s' => ∃ i σ' H',aR X aA σ' H' s' /\ tn i s'.heap /\ (∀ b ∈ fp,H' b = none) /\ W i n σ' H') ?_ m0 ⟨0,σ,H2,I2,qZ,λ b hb => (f2 b hb).1,w0⟩
 rintro n s3 ⟨i,σ3,H3,I3,st3,fr3,w3⟩
 rcases oU i n σ3 H3 w3 with ⟨stop,qn⟩ | ⟨go,N,hN,step⟩
 . refine wpAny_passesOwn hp (cP (T.done X rfl rfl rfl hc i aA s3 σ3 H3 X.xe I3 (stat fr3) st3 stop) λ r s4 ⟨hr,I4⟩ => ?_);subst hr;exact wpAny_execs_nil ⟨σ3,H3,I4,qn⟩
 . refine wpAny_passesOwn hp (cP (T.item X rfl rfl rfl hc i aA s3 σ3 H3 X.xe I3 (stat fr3) st3 go) λ r s4 ⟨u,hr,h4⟩ => ?_);subst hr;refine wpAny_passesOwn hp (cP h4 λ _ s5 ⟨x,H5,I5,r5,y5,st5,fr5⟩ => ?_);have I5' := I5.pinned (stat fr5) (T.obj _ _ st5);refine wpAny_passesOwn hp (cP (hg _ s5 σ3 H5 x u _ I5' r5 (step x H5 y5)) λ _ s6 ⟨σ6,H6,I6,q6⟩ => ?_);refine wpAny_passesOwn hp (cP (hb _ s6 σ6 H6 _ I6 q6) λ f s7 q7 => ?_);have again : ∀ {σ7 : St} {H7 : Hp},aR X (aA ++ pH fp s5.heap) σ7 H7 s7 -> N σ7 H7 -> ∃ m,m < n /\ ∃ i σ' H',aR X aA σ' H' s7 /\ tn i s7.heap /\ (∀ b ∈ fp,H' b = none) /\ W i m σ' H' := λ {σ7 H7} I7 n7 => by
    obtain ⟨m',hm,w7⟩ := hN σ7 H7 n7;refine ⟨m',hm,i + 1,σ7,H7,I7.unpinned,T.keep _ _ _ st5 λ b hb o e => (I7.pin (b,o) (List.mem_append_right _ (List.mem_append_right _ (jA hb e)))).1,λ b hb => ?_,w7⟩;obtain ⟨o,e,d⟩ := T.obj _ _ st5 b hb;exact (I7.pin (b,o) (List.mem_append_right _ (List.mem_append_right _ (jA hb e)))).2.1
   cases f with
   | next => obtain ⟨σ7,H7,I7,n7⟩ := q7; exact again I7 n7
   | cont => obtain ⟨σ7,H7,I7,n7⟩ := q7; exact again I7 n7
   | brk => obtain ⟨σ7,H7,I7,q7⟩ := q7; exact ⟨σ7,H7,I7.unpinned,q7⟩
   | ret v => obtain ⟨x7,σ7,H7,I7,r7,q7⟩ := q7; exact ⟨x7,σ7,H7,I7.unpinned,r7,q7⟩
end
theorem fF {K : W.Frag} {a : Addr} {xs : List V} {g : TG} {tb : TS} {D : eL} {σ : St} {H : Hp} (Pv : Nat -> St -> Hp -> Prop) (h0 : Pv 0 σ H) (hl : ∀ i σ H,i <= xs.length -> Pv i σ H -> bC K H a xs)
 (hs : ∀ i x σ H,xs[i]? = some x -> Pv i σ H -> g x σ H λ σ2 H2 => tb { D with nx := Pv (i + 1),ct := Pv (i + 1),bk := D.nx } σ2 H2) (hd : ∀ σ H,Pv xs.length σ H -> D.nx σ H) :
 ∃ W : Nat -> Nat -> St -> Hp -> Prop,(∃ m,W 0 m σ H) /\ ∀ i m σ H,W i m σ H ->
  ((Itl K a).stop i H /\ D.nx σ H) \/ ((Itl K a).go i H /\ ∃ N : St -> Hp -> Prop,(∀ σ' H',N σ' H' -> ∃ m',m' < m /\ W (i + 1) m' σ' H') /\ ∀ x H',(Itl K a).yld i H x H' -> g x σ H' λ σ2 H2 => tb { D with nx := N,ct := N,bk := D.nx } σ2 H2) := by
 refine ⟨λ i m σ H => m = xs.length - i /\ i <= xs.length /\ Pv i σ H,⟨xs.length,by simp,Nat.zero_le _,h0⟩,?_⟩
 rintro i m σ H ⟨rfl,hi,p⟩
 have q := hl i σ H hi p
 by_cases fR : i < xs.length
 . refine .inr ⟨⟨xs,xs[i],q,by simp [fR]⟩,Pv (i + 1),λ σ' H' p' => ⟨xs.length - (i + 1),by omega,rfl,fR,p'⟩,λ x H' y => ?_⟩;obtain ⟨e,y⟩ := y;subst e;exact hs i x σ _ (y xs q) p
 . have e : i = xs.length := by omega
   subst e;exact .inl ⟨⟨xs,q,Nat.le_refl _⟩,hd σ H p⟩
theorem jG {K : W.Frag} {a : Addr} {xs : List V} {g : TG} {tb : TS} {D : eL} {σ : St} {H : Hp} (Pv : Nat -> St -> Hp -> Prop) (h0 : Pv 0 σ H) (hl : ∀ i σ H,i <= xs.length -> Pv i σ H -> dM K H a xs)
 (hs : ∀ i x σ H,xs[i]? = some x -> Pv i σ H -> g x σ H λ σ2 H2 => tb { D with nx := Pv (i + 1),ct := Pv (i + 1),bk := D.nx } σ2 H2) (hd : ∀ σ H,Pv xs.length σ H -> D.nx σ H) :
 ∃ W : Nat -> Nat -> St -> Hp -> Prop,(∃ m,W 0 m σ H) /\ ∀ i m σ H,W i m σ H ->
  ((Itt K a).stop i H /\ D.nx σ H) \/ ((Itt K a).go i H /\ ∃ N : St -> Hp -> Prop,(∀ σ' H',N σ' H' -> ∃ m',m' < m /\ W (i + 1) m' σ' H') /\ ∀ x H',(Itt K a).yld i H x H' -> g x σ H' λ σ2 H2 => tb { D with nx := N,ct := N,bk := D.nx } σ2 H2) := by
 refine ⟨λ i m σ H => m = xs.length - i /\ i <= xs.length /\ Pv i σ H,⟨xs.length,by simp,Nat.zero_le _,h0⟩,?_⟩
 rintro i m σ H ⟨rfl,hi,p⟩
 have q := hl i σ H hi p
 by_cases fR : i < xs.length
 . refine .inr ⟨⟨xs,xs[i],q,by simp [fR]⟩,Pv (i + 1),λ σ' H' p' => ⟨xs.length - (i + 1),by omega,rfl,fR,p'⟩,λ x H' y => ?_⟩;obtain ⟨e,y⟩ := y;subst e;exact hs i x σ _ (y xs q) p
 . have e : i = xs.length := by omega
   subst e;exact .inl ⟨⟨xs,q,Nat.le_refl _⟩,hd σ H p⟩
theorem mR {lo : Int} {n : Nat} {g : TG} {tb : TS} {D : eL} {σ : St} {H : Hp} (Pv : Nat -> St -> Hp -> Prop) (h0 : Pv 0 σ H)
 (hs : ∀ i σ H,i < n -> Pv i σ H -> g (.int (lo + i)) σ H λ σ2 H2 => tb { D with nx := Pv (i + 1),ct := Pv (i + 1),bk := D.nx } σ2 H2) (hd : ∀ σ H,Pv n σ H -> D.nx σ H) :
 ∃ W : Nat -> Nat -> St -> Hp -> Prop,(∃ m,W 0 m σ H) /\ ∀ i m σ H,W i m σ H ->
  ((Itr lo n).stop i H /\ D.nx σ H) \/ ((Itr lo n).go i H /\ ∃ N : St -> Hp -> Prop,(∀ σ' H',N σ' H' -> ∃ m',m' < m /\ W (i + 1) m' σ' H') /\ ∀ x H',(Itr lo n).yld i H x H' -> g x σ H' λ σ2 H2 => tb { D with nx := N,ct := N,bk := D.nx } σ2 H2) := by
 refine ⟨λ i m σ H => m = n - i /\ i <= n /\ Pv i σ H,⟨n,by simp,Nat.zero_le _,h0⟩,?_⟩
 rintro i m σ H ⟨rfl,hi,p⟩
 by_cases fR : i < n
 . refine .inr ⟨fR,Pv (i + 1),λ σ' H' p' => ⟨n - (i + 1),by omega,rfl,fR,p'⟩,λ x H' y => ?_⟩;obtain ⟨e,y⟩ := y;subst e y;exact hs i σ _ fR p
 . have e : i = n := by omega
   subst e;exact .inl ⟨Nat.le_refl _,hd σ H p⟩
abbrev R2 := V -> V -> Hp -> VK -> Prop
def pD (X : Cx) (f : Value -> Value -> Sem Value) (r : R2) : Prop :=
 ∀ (aA : List (Addr × Obj)) (s : Shared) (σ : St) (H : Hp) (x y : V) (v u : Value) (Q : VK),aR X aA σ H s -> bD x v -> bD y u -> r x y H Q ->
  wpAny (model X.prog X.w) X.A (f v u) (EP X aA σ Q) X.xe s
def UnR (X : Cx) (f : Value -> Sem Value) (r : V -> Hp -> VK -> Prop) : Prop :=
 ∀ (aA : List (Addr × Obj)) (s : Shared) (σ : St) (H : Hp) (x : V) (v : Value) (Q : VK),aR X aA σ H s -> bD x v -> r x H Q ->
  wpAny (model X.prog X.w) X.A (f v) (EP X aA σ Q) X.xe s
def dP (X : Cx) (f : Value) (r : List V -> Hp -> VK -> Prop) : Prop :=
 ∀ (aA : List (Addr × Obj)) (s : Shared) (σ : St) (H : Hp) (xs : List V) (us : List Value) (Q : VK),aR X aA σ H s -> aX xs us -> r xs H Q ->
  wpAny (model X.prog X.w) X.A (call f us) (EP X aA σ Q) X.xe s
def iC (r : R2) (ta tb : TE) : TE := λ σ H Q => ta σ H λ x H1 => tb σ H1 λ y H2 => r x y H2 Q
def tUn (r : V -> Hp -> VK -> Prop) (ta : TE) : TE := λ σ H Q => ta σ H λ x H1 => r x H1 Q
def rI (C : Int -> Int -> Prop) (g : Int -> Int -> V) : R2 := λ x y H Q => ∃ i j,x = .int i /\ y = .int j /\ C i j /\ Q (g i j) H
def rI0 (g : Int -> Int -> V) : R2 := λ x y H Q => ∃ i j,x = .int i /\ y = .int j /\ Q (g i j) H
def rU (g : Int -> V) : V -> Hp -> VK -> Prop := λ x H Q => ∃ i,x = .int i /\ Q (g i) H
section
variable {a b c : Expr} {tc : TE}
theorem binT (ha : PE X a ta) (hb : PE X b tb) {aA : List (Addr × Obj)} {s : Shared} {σ : St} {H : Hp} {R : V -> V -> Hp -> Prop} (I : aR X aA σ H s)
 (h : ta σ H λ x H1 => tb σ H1 λ y H2 => R x y H2) {Q : Value -> Shared -> Prop} {f : Value -> Value -> Sem Value}
 (hf : ∀ v u s2 x y H2,aR X aA σ H2 s2 -> bD x v -> bD y u -> R x y H2 -> wpAny (model X.prog X.w) X.A (f v u) Q X.xe s2) :
 wpAny (model X.prog X.w) X.A (eval a X.env) (λ v s₁ => wpAny (model X.prog X.w) X.A (eval b X.env) (λ u s₂ => wpAny (model X.prog X.w) X.A (f v u) Q X.xe s₂) X.xe s₁) X.xe s := by
 refine cP (ha aA s σ H _ I h) λ v s1 ⟨x,H1,I1,r1,q1⟩ => ?_
 refine cP (hb aA s1 σ H1 _ I1 q1) λ u s2 ⟨y,H2,I2,r2,q2⟩ => ?_
 exact hf v u s2 x y H2 I2 r1 r2 q2
theorem aW {op : Operator} {r : R2} (ho : pD X (binaryOp op) r) (ha : PE X a ta) (hb : PE X b tb) : PE X (.BinOp a op b pos) (iC r ta tb) := by
 intro aA s σ H Q I h
 exact wpAny_BinOp (binT ha hb I h λ v u s2 x y H2 I2 rx ry q => ho aA s2 σ H2 x y v u Q I2 rx ry q)
theorem pe_un {op : UnaryOp} {r : V -> Hp -> VK -> Prop} (ho : UnR X (unaryOp op) r) (ha : PE X a ta) : PE X (.UnaryOp op a pos) (tUn r ta) := by
 intro aA s σ H Q I h
 exact UnaryOp_ (cP (ha aA s σ H _ I h) λ v s1 ⟨x,H1,I1,r1,q1⟩ => ho aA s1 σ H1 x v Q I1 r1 q1)
theorem opI {f : Value -> Value -> Sem Value} {C : Int -> Int -> Prop} {g : Int -> Int -> Int}
 (rule : ∀ (i j : Int) (t u : Tok) (s : Shared) (Q : Value -> Shared -> Prop) (E : Value -> Shared -> Prop),C i j -> Q (.int (g i j) s.toks) { s with toks := s.toks + 1 } -> wpAny (model X.prog X.w) X.A (f (.int i t) (.int j u)) Q E s) :
 pD X f (rI C λ i j => .int (g i j)) := by
 intro aA s σ H x y v u Q I rx ry h
 obtain ⟨i,j,rfl,rfl,hc,q⟩ := h
 obtain ⟨t,rfl⟩ := rx
 obtain ⟨t',rfl⟩ := ry
 exact rule i j t t' s _ _ hc ⟨.int (g i j),H,I.tok _,⟨_,rfl⟩,q⟩
theorem opI0 {f : Value -> Value -> Sem Value} {g : Int -> Int -> Int}
 (rule : ∀ (i j : Int) (t u : Tok) (s : Shared) (Q : Value -> Shared -> Prop) (E : Value -> Shared -> Prop),Q (.int (g i j) s.toks) { s with toks := s.toks + 1 } -> wpAny (model X.prog X.w) X.A (f (.int i t) (.int j u)) Q E s) :
 pD X f (rI0 λ i j => .int (g i j)) := by
 intro aA s σ H x y v u Q I rx ry h
 obtain ⟨i,j,rfl,rfl,q⟩ := h
 obtain ⟨t,rfl⟩ := rx
 obtain ⟨t',rfl⟩ := ry
 exact rule i j t t' s _ _ ⟨.int (g i j),H,I.tok _,⟨_,rfl⟩,q⟩
theorem opB0 {f : Value -> Value -> Sem Value} {g : Int -> Int -> Bool}
 (rule : ∀ (i j : Int) (t u : Tok) (s : Shared) (Q : Value -> Shared -> Prop) (E : Value -> Shared -> Prop),Q (.bool (g i j)) s -> wpAny (model X.prog X.w) X.A (f (.int i t) (.int j u)) Q E s) :
 pD X f (rI0 λ i j => .bl (g i j)) := by
 intro aA s σ H x y v u Q I rx ry h
 obtain ⟨i,j,rfl,rfl,q⟩ := h
 obtain ⟨t,rfl⟩ := rx
 obtain ⟨t',rfl⟩ := ry
 exact rule i j t t' s _ _ ⟨.bl (g i j),H,I,rfl,q⟩
def CPow (i j : Int) : Prop := 0 <= j /\ j <= 1000000 /\ i.natAbs < 2 ^ 64
def CMul (i j : Int) : Prop := (-(2 ^ 64) < i /\ i < 2 ^ 64) \/ (-(2 ^ 64) < j /\ j < 2 ^ 64)
theorem CMul.ok {i j : Int} (h : CMul i j) : IntMulOk i j := by
 rcases h with ⟨h1,h2⟩ | ⟨h1,h2⟩
 . exact .of_left (intBits_le_64 h1 h2)
 . exact .of_right (intBits_le_64 h1 h2)
theorem two_pow_nn (k : Nat) : (0 : Int) <= 2 ^ k := by
 rw [two_pow_cast]
 exact Int.natCast_nonneg _
theorem dF : pD X (binaryOp .Add) (rI0 λ i j => .int (i + j)) := opI0 λ _ _ _ _ _ _ _ q => add_int q
theorem op_sub : pD X (binaryOp .Sub) (rI0 λ i j => .int (i - j)) := opI0 λ _ _ _ _ _ _ _ q => sub_int q
theorem iH : pD X (binaryOp .Mult) (rI CMul λ i j => .int (i * j)) := opI λ _ _ _ _ _ _ _ hc q => mul_int q hc.ok
theorem gN : pD X (binaryOp .Mod) (rI (λ _ j => 0 < j) λ i j => .int (i % j)) := opI λ i j _ _ _ _ _ hc q => by
 have h1 : (0 : Int) < j := hc
 exact mod_int' (by omega) (by rw [Int.fmod_eq_emod_of_nonneg i (by omega)]; exact q)
theorem op_pow : pD X (binaryOp .Pow) (rI CPow λ i j => .int (i ^ j.toNat)) := opI λ _ _ _ _ _ _ _ hc q => pow_int_small hc.1 hc.2.1 hc.2.2 q
theorem op_shl : pD X (binaryOp .LShift) (rI CPow λ i j => .int (i * 2 ^ j.toNat)) := opI λ _ _ _ _ _ _ _ hc q => lshift_int_small hc.1 hc.2.1 hc.2.2 q
theorem op_shr : pD X (binaryOp .RShift) (rI (λ _ j => 0 <= j) λ i j => .int (i / 2 ^ j.toNat)) := opI λ i j _ _ _ _ _ hc q =>
 rshift_int hc (by rw [Int.fdiv_eq_ediv_of_nonneg i (two_pow_nn _)]; exact q)
theorem op_and : pD X (binaryOp .BitAnd) (rI0 λ i j => .int (Builtin.bitAnd i j)) := opI0 λ _ _ _ _ _ _ _ q => and_int q
theorem unI {f : Value -> Sem Value} {g : Int -> Int}
 (rule : ∀ (i : Int) (t : Tok) (s : Shared) (Q : Value -> Shared -> Prop) (E : Value -> Shared -> Prop),Q (.int (g i) s.toks) { s with toks := s.toks + 1 } -> wpAny (model X.prog X.w) X.A (f (.int i t)) Q E s) :
 UnR X f (rU λ i => .int (g i)) := by
 intro aA s σ H x v Q I rx h
 obtain ⟨i,rfl,q⟩ := h
 obtain ⟨t,rfl⟩ := rx
 exact rule i t s _ _ ⟨.int (g i),H,I.tok _,⟨_,rfl⟩,q⟩
theorem un_neg : UnR X (unaryOp .USub) (rU λ i => .int (-i)) := unI λ _ _ _ _ _ q => neg_int q
end
def scal : V -> V -> Bool
 | .non,.non => true | .non,.int _ => true | .int _,.non => true | .non,.bl _ => true | .bl _,.non => true | .non,.str _ => true | .str _,.non => true
 | .int _,.int _ => true | .bl _,.bl _ => true | .str _,.str _ => true | .byt _,.byt _ => true
 | .int _,.str _ => true | .str _,.int _ => true | .bl _,.str _ => true | .str _,.bl _ => true
 | _,_ => false
def rEq : R2 := λ x y H Q => scal x y = true /\ Q (.bl (decide (x = y))) H
theorem dec_int {i j : Int} : decide (V.int i = V.int j) = (i == j) := by
 rw [Bool.eq_iff_iff]
 simp
theorem dec_bl {i j : Bool} : decide (V.bl i = V.bl j) = (i == j) := by
 rw [Bool.eq_iff_iff]
 simp
theorem dec_str {i j : Str} : decide (V.str i = V.str j) = (i == j) := by
 rw [Bool.eq_iff_iff]
 simp
theorem dec_byt {i j : Array UInt8} : decide (V.byt i = V.byt j) = (i.toList == j.toList) := by
 rw [Bool.eq_iff_iff]
 cases i
 cases j
 simp
section
variable {a b c : Expr} {tc : TE}
theorem fO {aA : List (Addr × Obj)} {σ : St} {H : Hp} {s : Shared} {Q : VK} {k k' : Bool} (I : aR X aA σ H s) (q : Q (.bl k) H) (e : k = k') : EP X aA σ Q (.bool k') s := by
 subst e
 exact ⟨.bl k,H,I,rfl,q⟩
theorem op_eq : pD X (compareOp .Eq) rEq := by
 intro aA s σ H x y v u Q I rx ry h
 obtain ⟨hs,q⟩ := h
 cases x with
 | non =>
  cases rx;cases y with
  | non => cases ry; exact PySem.EqNone.eq_none_none (fO I q (by simp))
  | bl j => cases ry; exact PySem.EqNone.eq_none_bool (fO I q (by simp))
  | int j => obtain ⟨t',rfl⟩ := ry; exact PySem.EqNone.eq_none_int (fO I q (by simp))
  | str j => obtain ⟨t',rfl⟩ := ry; exact PySem.EqNone.eq_none_str (fO I q (by simp))
  | _ => exact absurd (show false = true from hs) Bool.false_ne_true
 | bl i =>
  cases rx;cases y with
  | non => cases ry; exact PySem.EqNone.eq_bool_none (fO I q (by simp))
  | bl j => cases ry; exact eq_bool (fO I q dec_bl)
  | str j => obtain ⟨t',rfl⟩ := ry; exact PySem.EqMixed.eq_bool_str (fO I q (by simp))
  | _ => exact absurd (show false = true from hs) Bool.false_ne_true
 | int i =>
  obtain ⟨t,rfl⟩ := rx;cases y with
  | non => cases ry; exact PySem.EqNone.eq_int_none (fO I q (by simp))
  | int j => obtain ⟨t',rfl⟩ := ry; exact eq_int (fO I q dec_int)
  | str j => obtain ⟨t',rfl⟩ := ry; exact PySem.EqMixed.eq_int_str (fO I q (by simp))
  | _ => exact absurd (show false = true from hs) Bool.false_ne_true
 | str i =>
  obtain ⟨t,rfl⟩ := rx;cases y with
  | non => cases ry; exact PySem.EqNone.eq_str_none (fO I q (by simp))
  | bl j => cases ry; exact PySem.EqMixed.eq_str_bool (fO I q (by simp))
  | int j => obtain ⟨t',rfl⟩ := ry; exact PySem.EqMixed.eq_str_int (fO I q (by simp))
  | str j => obtain ⟨t',rfl⟩ := ry; exact eq_str (fO I q dec_str)
  | _ => exact absurd (show false = true from hs) Bool.false_ne_true
 | byt i =>
  obtain ⟨t,rfl⟩ := rx;cases y with
  | byt j => obtain ⟨t',rfl⟩ := ry; exact PySem.W.eq_bytes (fO I q dec_byt)
  | _ => exact absurd (show false = true from hs) Bool.false_ne_true
 | _ => cases y <;> exact absurd (show false = true from hs) Bool.false_ne_true
theorem op_lt : pD X (compareOp .Lt) (rI0 λ i j => .bl (decide (i < j))) := opB0 λ _ _ _ _ _ _ _ q => lt_int q
theorem op_gt : pD X (compareOp .Gt) (rI0 λ i j => .bl (decide (j < i))) := opB0 λ _ _ _ _ _ _ _ q => gt_int q
theorem op_ge : pD X (compareOp .GtE) (rI0 λ i j => .bl (decide (j <= i))) := opB0 λ _ _ _ _ _ _ _ q => ge_int q
theorem eD (b : Expr) {op : CmpOp} (h : op ≠ .In := by decide) (h2 : op ≠ .NotIn := by decide) : behindInMarks op b = false := by
 have e1 : (op == CmpOp.In) = false := by cases op <;> first | rfl | exact absurd rfl h
 have e2 : (op == CmpOp.NotIn) = false := by cases op <;> first | rfl | exact absurd rfl h2
 cases b <;> simp [behindInMarks,e1,e2]
theorem pe_cmpR {op : CmpOp} {r : R2} (ho : pD X (compareOp op) r) (ha : PE X a ta) (hb : PE X b tb) (hm : behindInMarks op b = false) : PE X (.Compare a [op] [b] pos) (iC r ta tb) := by
 intro aA s σ H Q I h
 exact wpAny_Compare1 (binT ha hb I h λ v u s2 x y H2 I2 rx ry q => ho aA s2 σ H2 x y v u Q I2 rx ry q) hm
def lR (t : TE) : TT := λ σ H Q => t σ H λ x H' => ∃ k,x = .bl k /\ Q k H'
theorem bX {op : CmpOp} {r : R2} (ho : pD X (compareOp op) r) (ha : PE X a ta) (hb : PE X b tb) (hm : behindInMarks op b = false) : PT X (.Compare a [op] [b] pos) (lR (iC r ta tb)) := by
 intro aA s σ H Q I h
 refine wpAny_isTrue_Compare1 (cP (ha aA s σ H _ I h) λ v s1 ⟨x,H1,I1,r1,q1⟩ => cP (hb aA s1 σ H1 _ I1 q1) λ u s2 ⟨y,H2,I2,r2,q2⟩ =>
  cP (ho aA s2 σ H2 x y v u _ I2 r1 r2 q2) λ c s3 ⟨z,H3,I3,r3,k,e,q3⟩ => ?_) hm
 subst e
 cases r3
 exact wpAny_truthy_bool ⟨H3,I3,q3⟩
theorem lZ : (sizeLine : Nat) < 2 ^ 63 := by rw [sizeLine_eq]; decide
theorem fN : pD X (binaryOp .Add) (λ x y H Q => ∃ i j,x = .str i /\ y = .str j /\ i.length + j.length <= sizeLine /\ Q (.str (i ++ j)) H) := by
 intro aA s σ H x y v u Q I rx ry h
 obtain ⟨i,j,rfl,rfl,hz,q⟩ := h
 obtain ⟨t,rfl⟩ := rx
 obtain ⟨t',rfl⟩ := ry
 exact add_str (λ t' tk => ⟨.str (i ++ j),H,I.tok _,⟨_,rfl⟩,q⟩) hz
theorem kF {x : V} {us : List Value} (r : aX [x] us) : ∃ u,us = [u] /\ bD x u := by
 cases r with
 | cons r1 r2 => cases r2; exact ⟨_,rfl,r1⟩
theorem vals2 {x y : V} {us : List Value} (r : aX [x,y] us) : ∃ u w',us = [u,w'] /\ bD x u /\ bD y w' := by
 cases r with
 | cons r1 r2 =>
  cases r2 with
  | cons r3 r4 => cases r4; exact ⟨_,_,rfl,r1,r3⟩
theorem call_max2 (hc : X.calm = true) : dP X (.builtin "max") (λ xs H Q => ∃ i j,xs = [.int i,.int j] /\ Q (.int (if j > i then j else i)) H) := by
 intro aA s σ H xs us Q I r h
 obtain ⟨i,j,rfl,q⟩ := h
 obtain ⟨u,w',rfl,⟨t,rfl⟩,⟨t',rfl⟩⟩ := vals2 r
 refine max_two_ints (I.ok.hd hc) λ h' tk k => ⟨_,H,I.kept k,?_,q⟩
 by_cases hj : j > i
 . rw [if_pos hj,if_pos hj]; exact ⟨_,rfl⟩
 . rw [if_neg hj,if_neg hj]; exact ⟨_,rfl⟩
end
structure ObjM (h : Heap) (x dx C : Addr) (mA : Str -> Option Value) : Prop where
 obj : h.get? x = some (W.instObj C dx)
 ns : h.Ns1 dx mA
 ne : dx ≠ x
theorem pL {h : Heap} {dx : Addr} {mA : Str -> Option Value} (n : h.Ns1 dx mA) : ∃ od,h.get? dx = some od /\ ∀ name,PySem.W.lookIn name od = some (mA name) := by
 obtain ⟨o,es,ep,ho,hd,hk,_,hm⟩ := n
 refine ⟨o,ho,λ name => ?_⟩
 have e := hm name
 unfold nsFind findBy at e
 rw [<- Array.find?_toList] at e
 unfold PySem.W.lookIn
 rw [hd]
 dsimp only
 split
 . rename_i y q
   rw [q] at e;exact congrArg some e
 . rename_i q
   rw [q] at e;have a : es.toList.any (·.refKey) = false := by
    rw [List.any_eq_false];intro y hy;obtain ⟨z,t,hkey⟩ := hk y (Array.mem_toList_iff.mp hy);simp [DictEntry.refKey,hkey]
   have a' : ¬ es.toList.any (·.refKey) = true := by rw [a]; exact Bool.false_ne_true
   rw [if_neg a'];exact congrArg some e
theorem ObjM.look {h : Heap} {x dx C : Addr} {mA : Str -> Option Value} (I : ObjM h x dx C mA) : ∃ od,PySem.W.InstAt h x (W.instObj C dx) C (some od) /\ ∀ name,PySem.W.lookIn name od = some (mA name) :=
 let ⟨od,ho,hl⟩ := pL I.ns
 ⟨od,⟨I.obj,rfl,rfl,ho⟩,hl⟩
section
variable {prog : Program} {w : World} {E : Value -> Shared -> Prop} {K : W.Frag} {x f : Addr} {mA : Str -> Option Value} {name : Str} {v : Value}
theorem get_map {expr : Bool} {Q : Value -> Shared -> Prop} (X : K.In s.heap) (I : ObjM s.heap x dx C mA) (hg : W.plainGet K C name = true) (hh : PySem.W.hasDictIn K C = true)
 (ha : W.findIn K (.ref C) name = some none) (hv : mA name = some v) (hv' : PySem.W.handedIn v = true) (h : Q v { s with toks := s.toks + 1 }) :
 wpAny (model prog w) A (getAttr (.ref x) name expr) Q E s := by
 obtain ⟨od,J,hl⟩ := I.look
 exact PySem.W.get_value X J (PySem.W.plainGet_of hg).1 (PySem.W.findObj_own hh ha rfl (by rw [hl,hv])) hv' h
theorem get_meth {pl : Sem Bool} {Q : Value × List Value -> Shared -> Prop} (X : K.In s.heap) (I : ObjM s.heap x dx C mA) (hg : W.plainGet K C name = true)
 (hf : W.findIn K (.ref C) name = some (some (.ref f))) (ht : W.isFn K (.ref f) = true) (hv : mA name = none) (h : Q (.ref f,[.ref x]) s) :
 wpAny (model prog w) A (getMethod (.ref x) name pl) Q E s := by
 obtain ⟨od,J,hl⟩ := I.look
 exact PySem.W.method_fn X J (PySem.W.plainGet_of hg).1 (PySem.W.plainGet_of hg).2 hf (beq_iff_eq.mp ht) (by show (PySem.W.lookIn name od).map (·.isSome) = some false; rw [hl,hv]; rfl) h
theorem set_map {ns : List Str} {Q : Unit -> Shared -> Prop} (X : K.In s.heap) (I : ObjM s.heap x dx C mA)
 (hs : W.findIn K (.ref C) "__setattr__" = some (some (.builtin "object.__setattr__"))) (hp : PySem.W.plainOver K C = true) (ht : PySem.W.takerIn K C name = some none) (hh : PySem.W.hasDictIn K C = true)
 (hw : PySem.Within mA ns) (hsz : ns.length <= sizeLine)
 (h : ∀ h',ObjM h' x dx C (λ y => if y = name then some v else mA y) -> Heap.SameBut dx s.heap h' -> Q () { s with heap := h',toks := s.toks + 2 }) :
 wpAny (model prog w) A (setAttr (.ref x) name v) Q E s := by
 obtain ⟨od,J,hl⟩ := I.look
 refine PySem.W.set_plain X J hs (PySem.W.osa_open (s := { s with toks := s.toks + 1 }) (r := none) X J hp ht λ b => ?_)
 obtain ⟨cd,hc,hd'⟩ := PySem.W.any_some hh
 have hx : s.heap.get? x = some ⟨.ref C,some dx,.plain,#[]⟩ := I.obj
 refine wpAny_bind (wpAny_pure (wpAny_bind (wpAny_bind (wpAny_loadPart hx (wpAny_bind (PySem.W.Looks.here (s := { s with toks := s.toks + 1 }) (PySem.W.looks_clsIn X hc) ?_))))))
 rw [hd']
 refine wpAny_pure (a := some dx) (wpAny_bind (wpAny_pure (wpAny_bind ?_)))
 refine wpAny_nsSet1 (s := { s with toks := s.toks + 1 }) I.ns λ h' hn2 hs2 => ?_
 obtain ⟨oD,esD,epD,hoD,hdD,hcD⟩ := hn2.count (PySem.Within.cons name v hw)
 refine wpAny_bind (wpAny_lookBehind hoD (by rw [hdD]; exact pastItsLine_dict (Nat.le_trans hcD (by rw [List.length_cons]; omega))) ?_)
 exact wpAny_pure (h _ ⟨(hs2.2 _ (Ne.symm I.ne)).trans I.obj,hn2,I.ne⟩ hs2)
theorem make_map {R : Result -> Shared -> Prop} {vs : List Value} {kw : List (Str × Value)} (X : K.In s.heap) (hm : PySem.W.makesIn K C = true)
 (hi : W.findIn K (.ref C) "__init__" = some (some (.ref f))) (hf : PySem.W.typeIn K (.ref f) = some (.type "function"))
 (h : codeAny (model prog w) (A.under (.builtin "type.__call__" ⟨.ref C :: vs,kw⟩)) (.call (.ref f) ⟨.ref (s.heap.objs.size + 1) :: vs,kw⟩) (PySem.W.InitBack (s.heap.objs.size + 1) R)
  { s with heap := (s.heap.push W.emptyDict).push (W.instObj C s.heap.objs.size) }) :
 codeAny (model prog w) A (.call (.ref C) ⟨vs,kw⟩) R s := by
 obtain ⟨hh,g,d,t,os⟩ := s
 exact PySem.W.make_core (PySem.W.makes_of X hm) (PySem.W.looks_findIn X hi) (λ self => PySem.W.bind_fn X self hf) (.inl rfl) h
end
def fW (f : Str) (v : V) : List (Str × V) -> List (Str × V)
 | [] => [(f,v)]
 | (g,x) :: r => if g = f then (g,v) :: r else (g,x) :: fW f v r
theorem jE (f g : Str) (v : V) : ∀ fs : List (Str × V),(fW f v fs).lookup g = if g = f then some v else fs.lookup g
 | [] => by
  show List.lookup g [(f,v)] = _
  by_cases h : g = f
  . have hb : (g == f) = true := beq_iff_eq.mpr h;simp only [List.lookup,hb,if_pos h]
  . have hb : (g == f) = false := beq_eq_false_iff_ne.mpr h;simp only [List.lookup,hb,if_neg h]
 | (k,x) :: r => by
  have ih := jE f g v r;rw [show fW f v ((k,x) :: r) = (if k = f then (k,v) :: r else (k,x) :: fW f v r) from rfl]
  by_cases hk : k = f
  . rw [if_pos hk]
    by_cases h : g = k
    . have hb : (g == k) = true := beq_iff_eq.mpr h;simp only [List.lookup,hb,if_pos (h.trans hk)]
    . have hb : (g == k) = false := beq_eq_false_iff_ne.mpr h;simp only [List.lookup,hb,if_neg (λ e : g = f => h (e.trans hk.symm))]
  . rw [if_neg hk]
    by_cases h : g = k
    . have hb : (g == k) = true := beq_iff_eq.mpr h;simp only [List.lookup,hb,if_neg (λ e : g = f => hk (h.symm.trans e))]
    . have hb : (g == k) = false := beq_eq_false_iff_ne.mpr h;simp only [List.lookup,hb];exact ih
theorem mT (f : Str) (v : V) : ∀ fs : List (Str × V),f ∈ (fW f v fs).map (·.1) /\ ∀ g,g ∈ fs.map (·.1) -> g ∈ (fW f v fs).map (·.1)
 | [] => ⟨by simp [fW],λ g h => by simp at h⟩
 | (k,x) :: r => by
  obtain ⟨i1,i2⟩ := mT f v r;rw [show fW f v ((k,x) :: r) = (if k = f then (k,v) :: r else (k,x) :: fW f v r) from rfl]
  by_cases hk : k = f
  . rw [if_pos hk];subst hk;exact ⟨by simp,λ g h => by simpa using h⟩
  . rw [if_neg hk];refine ⟨?_,λ g h => ?_⟩
    . rw [List.map_cons];exact List.mem_cons_of_mem _ i1
    . rw [List.map_cons] at h ⊢
      rcases List.mem_cons.mp h with e | e
      . exact List.mem_cons.mpr (.inl e)
      . exact List.mem_cons_of_mem _ (i2 g e)
theorem mD (f : Str) (v : V) : ∀ fs : List (Str × V),(fW f v fs).length <= fs.length + 1
 | [] => by simp [fW]
 | (k,x) :: r => by
  have ih := mD f v r;rw [show fW f v ((k,x) :: r) = (if k = f then (k,v) :: r else (k,x) :: fW f v r) from rfl]
  by_cases hk : k = f
  . rw [if_pos hk,List.length_cons,List.length_cons]; omega
  . rw [if_neg hk,List.length_cons,List.length_cons]; omega
theorem kC.some_of {v : V} {o : Option Value} (r : kC (some v) o) : ∃ u,o = some u /\ bD v u := by
 cases o with
 | none => exact (show False from r).elim
 | some u => exact ⟨u,rfl,r⟩
theorem kC.none_of {o : Option Value} (r : kC none o) : o = none := by
 cases o with
 | none => rfl
 | some u => exact (show False from r).elim
theorem handed_of {v : V} {u : Value} (r : bD v u) : PySem.W.handedIn u = true := by
 cases v with
 | non => cases (show u = Value.none from r); rfl
 | bl b => cases (show u = Value.bool b from r); rfl
 | int i => obtain ⟨t,e⟩ := (show ∃ t,u = Value.int i t from r); cases e; rfl
 | str x => obtain ⟨t,e⟩ := (show ∃ t,u = Value.str x t from r); cases e; rfl
 | byt b => obtain ⟨t,e⟩ := (show ∃ t,u = Value.bytes b t from r); cases e; rfl
 | flt b => obtain ⟨t,e⟩ := (show ∃ t,u = Value.float b t from r); cases e; rfl
 | ref a => cases (show u = Value.ref a from r); rfl
 | ty n => cases (show u = Value.type n from r); rfl
section
variable {P : Program} {w : World} {a : Addr} {fs fs' : List (Str × V)}
theorem ins_get (hok : mL P w H h) (e : H a = some (.ins C dx fs)) : ∃ mA,ObjM h a dx C mA /\ (∀ f,kC (fs.lookup f) (mA f)) /\ PySem.Within mA (fs.map (·.1)) /\ fs.length <= 1000 /\ H dx = some (.own a) := by
 obtain ⟨d,z,ne,ob,mA,n,r,q⟩ := (show bZ P w H h a (.ins C dx fs) from hok a _ e)
 exact ⟨mA,⟨ob,n,ne⟩,r,q,z,d⟩
end
structure Cls (K : W.Frag) (C : Addr) : Prop where
 pg : W.plainGet K C Str.empty = true
 hd : PySem.W.hasDictIn K C = true
 po : PySem.W.plainOver K C = true
 sa : W.findIn K (.ref C) "__setattr__" = some (some (.builtin "object.__setattr__"))
theorem Cls.get {K : W.Frag} {C : Addr} (c : Cls K C) (f : Str) : W.plainGet K C f = true := c.pg
def lH (K : W.Frag) (C : Addr) (f : Str) : Prop := W.findIn K (.ref C) f = some none
theorem lH.taker {K : W.Frag} {C : Addr} {f : Str} (n : lH K C f) : PySem.W.takerIn K C f = some none := by
 unfold PySem.W.takerIn
 rw [show W.findIn K (.ref C) f = some none from n]
 rfl
structure Meth (K : W.Frag) (C : Addr) (m : Str) (f : Addr) : Prop where
 at_ : W.findIn K (.ref C) m = some (some (.ref f))
 fn : W.isFn K (.ref f) = true
 kp : W.keepIn K (.ref f) = true
section
variable {σ : St} {a : Addr} {fs : List (Str × V)} {f : Str} {v : V} {E : Value -> Shared -> Prop}
theorem getattr_ok {b : Bool} {Q : Value -> Shared -> Prop} (I : aR X aA σ H s) (e : H a = some (.ins C dx fs)) (c : Cls X.K C) (n : lH X.K C f) (l : fs.lookup f = some v)
 (h : ∀ u s',aR X aA σ H s' -> bD v u -> Q u s') : wpAny (model X.prog X.w) A (getAttr (.ref a) f b) Q E s := by
 obtain ⟨mA,O,r,_,_,_⟩ := ins_get I.hok e
 obtain ⟨u,hu,ru⟩ := kC.some_of (v := v) (o := mA f) (by rw [<- l]; exact r f)
 exact get_map I.kIn O (c.get f) c.hd n hu (handed_of ru) (h u _ (I.tok _) ru)
theorem getmeth_ok {m : Str} {g : Addr} {pl : Sem Bool} {Q : Value × List Value -> Shared -> Prop} (I : aR X aA σ H s) (e : H a = some (.ins C dx fs)) (c : Cls X.K C) (k : Meth X.K C m g) (l : fs.lookup m = none)
 (h : Q (.ref g,[.ref a]) s) : wpAny (model X.prog X.w) A (getMethod (.ref a) m pl) Q E s := by
 obtain ⟨mA,O,r,_,_,_⟩ := ins_get I.hok e
 have hn : mA m = none := kC.none_of (by rw [<- l]; exact r m)
 exact get_meth I.kIn O (c.get m) k.at_ k.fn hn h
theorem setattr_ok {y : V} {u : Value} {Q : Unit -> Shared -> Prop} (I : aR X aA σ H s) (e : H a = some (.ins C dx fs)) (c : Cls X.K C) (n : lH X.K C f) (hl : fs.length < 1000) (ry : bD y u)
 (h : ∀ s',aR X aA σ (aL H a (.ins C dx (fW f y fs))) s' -> Q () s') : wpAny (model X.prog X.w) A (setAttr (.ref a) f u) Q E s := by
 obtain ⟨mA,O,r,wi,_,ho⟩ := ins_get I.hok e
 have hz : (fs.map (·.1)).length <= sizeLine := by rw [List.length_map,sizeLine_eq]; omega
 refine set_map I.kIn O c.sa c.po n.taker c.hd wi hz λ h' O' sb => h _ ?_
 have hd : ∃ o,h'.get? dx = some o := let ⟨o,_,_,e',_⟩ := O'.ns; ⟨o,e'⟩
 refine I.write (x := a) (e := dx) (by rw [e]; exact True.intro) (.inr ho) (λ b q hb z => (sb.2 b hb).trans z) hd ?_
 refine ⟨by rw [aH O.ne]; exact ho,?_,O.ne,O'.obj,_,O'.ns,λ g => ?_,λ g hg => ?_⟩
 . have := mD f y fs; omega
 . show kC ((fW f y fs).lookup g) (if g = f then some u else mA g)
   rw [jE]
   by_cases q : g = f
   . rw [if_pos q,if_pos q]; exact ry
   . rw [if_neg q,if_neg q]; exact r g
 . by_cases q : g = f
   . rw [q]; exact (mT f y fs).1
   . refine (mT f y fs).2 g (wi g λ z => hg ?_);show (if g = f then some u else mA g) = none;rw [if_neg q]; exact z
theorem aR.made (I : aR X aA σ H s) : aR X aA σ (aL (aL H s.heap.objs.size (.own (s.heap.objs.size + 1))) (s.heap.objs.size + 1) (.ins C s.heap.objs.size []))
 { s with heap := (s.heap.push W.emptyDict).push (W.instObj C s.heap.objs.size) } := by
 have e1 : (s.heap.push W.emptyDict).get? s.heap.objs.size = some W.emptyDict := Heap.get?_push_size s.heap rfl
 have e2 : ((s.heap.push W.emptyDict).push (W.instObj C s.heap.objs.size)).get? (s.heap.objs.size + 1) = some (W.instObj C s.heap.objs.size) := by
  have := Heap.get?_push_size (s.heap.push W.emptyDict) (o := W.instObj C s.heap.objs.size) rfl
  rwa [Heap.size_push] at this
 have e3 : (s.heap.push W.emptyDict).Ns s.heap.objs.size (λ _ => none) := ⟨W.emptyDict,#[],_,e1,rfl,(λ e he => absurd he (by simp)),λ _ => rfl⟩
 have I1 := I.laid (a := s.heap.objs.size) (o := .own (s.heap.objs.size + 1)) (h' := s.heap.push W.emptyDict) (t' := s.toks) (λ b u q => Heap.get?_push_of_some _ q) (Nat.le_refl _) ⟨_,e1⟩
 refine I1.laid (a := s.heap.objs.size + 1) (o := .ins C s.heap.objs.size []) (t' := s.toks) (λ b u q => Heap.get?_push_of_some _ q) (Nat.le_of_eq (Heap.size_push _ _)) ?_
 have ne : s.heap.objs.size ≠ s.heap.objs.size + 1 := Nat.ne_of_lt (Nat.lt_succ_self _)
 refine ⟨by rw [aH ne,aC],Nat.zero_le _,ne,e2,λ _ => none,(Heap.Ns1.of_empty e3).at λ o q => Heap.get?_push_of_some _ q,λ _ => True.intro,λ y hy => absurd rfl hy⟩
theorem attr_of {prog : Program} {w : World} {env : Env} {e : Expr} {f : Str} {pos : Pos} {s : Shared} {Q : Value -> Shared -> Prop} (hb : attributeBase e f env (eval e env) = eval e env)
 (h : wpAny (model prog w) A (eval e env) (λ o s₁ => wpAny (model prog w) A (getAttr o f true) Q E s₁) E s) : wpAny (model prog w) A (eval (.Attribute e f pos) env) Q E s :=
 Attribute_any_ h (by rw [arm_eval_Attribute,hb])
end
def tFld (K : W.Frag) (ta : TE) (f : Str) : TE := λ σ H Q => ta σ H λ x H1 => ∃ a C dx fs v,x = .ref a /\ H1 a = some (.ins C dx fs) /\ Cls K C /\ lH K C f /\ fs.lookup f = some v /\ Q v H1
def sFld (K : W.Frag) (ta tv : TE) (f : Str) : TS := λ D σ H => tv σ H λ y H1 => ta σ H1 λ x H2 => ∃ a C dx fs,x = .ref a /\ H2 a = some (.ins C dx fs) /\ Cls K C /\ lH K C f /\ fs.length < 1000 /\
 D.nx σ (aL H2 a (.ins C dx (fW f y fs)))
section
variable {o e value : Expr} {f : Str} {pos' tpos : Pos} {tv : TE}
theorem iD (he : PE X e ta) (hb : attributeBase e f X.env (eval e X.env) = eval e X.env) : PE X (.Attribute e f pos) (tFld X.K ta f) := by
 intro aA s σ H Q I h
 refine attr_of hb (cP (he aA s σ H _ I h) λ u s1 ⟨x,H1,I1,rx,a,C,dx,fs,v,ex,ea,c,n,l,q⟩ => ?_)
 subst ex
 obtain rfl : u = Value.ref a := rx
 exact getattr_ok I1 ea c n l λ u' s2 I2 ru => ⟨v,H1,I2,ru,q⟩
theorem ps_fld (ha : PE X o ta) (hv : PE X value tv) (hs : swapsWith value (some (.Attribute o f pos')) pos.line X.env = pure false) : PS X (.Assign [.Attribute o f pos'] value pos) (sFld X.K ta tv f) := by
 intro aA s σ H D I h
 refine plainObj_wpAny_Assign_Attribute (cP (hv aA s σ H _ I h) λ u s1 ⟨y,H1,I1,ry,q⟩ => cP (ha aA s1 σ H1 _ I1 q) λ ov s2 ⟨x,H2,I2,rx,a,C,dx,fs,ex,ea,c,n,l,q2⟩ => ?_) hs
 subst ex
 obtain rfl : ov = Value.ref a := rx
 exact setattr_ok I2 ea c n l ry λ s3 I3 => ⟨σ,_,I3,q2⟩
theorem methcall_of {pl : Sem Bool} {m : Str} {kA : Pos} {args : List Expr} {aA : List (Addr × Obj)} {s : Shared} {σ : St} {H : Hp} {Q : Value -> Shared -> Prop} {te : TE} (he : PE X e te) (I : aR X aA σ H s)
 (h : te σ H λ x H1 => ∃ a C dx fs g,x = .ref a /\ H1 a = some (.ins C dx fs) /\ Cls X.K C /\ Meth X.K C m g /\ fs.lookup m = none /\
  ∀ s1,aR X aA σ H1 s1 -> wpAny (model X.prog X.w) X.A (callWith pos (.ref g) [.ref a] (backTo pos (starEach args X.env)) (backToKw pos (keywordEach [] X.env))) Q X.xe s1)
 (ht : eval (.Call (.Attribute e m kA) args [] pos) X.env = (do
  let ov <- eval e X.env
  standAt kA.atName
  let (f,first) <- holding [ov] (getMethod ov m pl)
  callWith pos f first (backTo pos (starEach args X.env)) (backToKw pos (keywordEach [] X.env)))) :
 wpAny (model X.prog X.w) X.A (eval (.Call (.Attribute e m kA) args [] pos) X.env) Q X.xe s := by
 refine PySem.W.methodCall_KW (pl := pl) (cP (he aA s σ H _ I h) λ u s1 ⟨x,H1,I1,rx,a,C,dx,fs,g,ex,ea,c,k,l,q⟩ => ?_) ht
 subst ex
 obtain rfl : u = Value.ref a := rx
 exact getmeth_ok I1 ea c k l (q s1 I1)
end
section
variable {σ : St} {E : Value -> Shared -> Prop} {Q : Value -> Shared -> Prop} {c : Value} {b : Bool}
inductive mE (K : W.Frag) (H : Hp) : V -> Value -> Prop where
 | non : mE K H .non (.type "NoneType")
 | bl (x : Bool) : mE K H (.bl x) (.type "bool")
 | int (i : Int) : mE K H (.int i) (.type "int")
 | str (x : Str) : mE K H (.str x) (.type "str")
 | flt (x : UInt64) : mE K H (.flt x) (.type "float")
 | lst {a : Addr} {xs : List V} (e : H a = some (.lst xs)) : mE K H (.ref a) (.type "list")
 | frz {a : Addr} {o : Obj} {xs : List V} (e : H a = some (.frz o (.lst xs))) : mE K H (.ref a) (.type "list")
 | tup {a : Addr} {xs : List V} (e : H a = some (.tup xs)) : mE K H (.ref a) (.type "tuple")
 | dK {a : Addr} {aO : List (bP × V)} (e : H a = some (.dK aO)) : mE K H (.ref a) (.type "dict")
 | dT {a : Addr} {aO : List (List bP × V)} (e : H a = some (.dT aO)) : mE K H (.ref a) (.type "dict")
 | ins {a C dx : Addr} {fs : List (Str × V)} (e : H a = some (.ins C dx fs)) (cl : Cls K C) (ha : W.findIn K (.ref C) "__class__" = some (some (.builtin "object.__class__")))
  (hn : PySem.W.specialIn K (.builtin "object.__class__") "__get__" = some (some (.builtin "getset_descriptor.__get__"))) (htk : PySem.W.takesIn K (.builtin "object.__class__") = some true)
  (hm : PySem.W.mroIn K C (.type "object") = some true) : mE K H (.ref a) (.ref C)
theorem isinst_ok {x : V} {u t : Value} (I : aR X aA σ H s) (rx : bD x u) (ty : mE X.K H x t) (e : W.kitOne X.K t c = some b) (h : ∀ tk,Q (.bool b) { s with toks := tk }) :
 wpAny (model X.prog X.w) A (call (.builtin "isinstance") [u,c]) Q E s := by
 cases ty with
 | non => cases (show u = Value.none from rx); exact PySem.W.kia_one PySem.W.kitx_none I.kIn True.intro e (λ z => nomatch z) h
 | bl y => cases (show u = Value.bool y from rx); exact PySem.W.kia_one PySem.W.kitx_bool I.kIn True.intro e (λ z => nomatch z) h
 | int i => obtain ⟨t,q⟩ := (show ∃ t,u = Value.int i t from rx); cases q; exact PySem.W.kia_one PySem.W.kitx_int I.kIn True.intro e (λ z => nomatch z) h
 | str y => obtain ⟨t,q⟩ := (show ∃ t,u = Value.str y t from rx); cases q; exact PySem.W.kia_one PySem.W.kitx_str I.kIn True.intro e (λ z => nomatch z) h
 | flt y => obtain ⟨t,q⟩ := (show ∃ t,u = Value.float y t from rx); cases q; exact PySem.W.kia_one PySem.W.kitx_float I.kIn True.intro e (λ z => nomatch z) h
 | @lst a xs ea =>
  cases (show u = Value.ref a from rx);obtain ⟨_,_,n,_,h1⟩ := (show bZ X.prog X.w H s.heap a (.lst xs) from I.hok a _ ea);exact PySem.W.kia_one PySem.W.kitx_list I.kIn ⟨_,h1,rfl⟩ e (λ z => nomatch z) h
 | @frz a ob xs ea =>
  cases (show u = Value.ref a from rx);obtain ⟨_,_,_,n,_,h1⟩ := (show bZ X.prog X.w H s.heap a (.frz ob (.lst xs)) from I.hok a _ ea);exact PySem.W.kia_one PySem.W.kitx_list I.kIn ⟨_,h1,rfl⟩ e (λ z => nomatch z) h
 | @tup a xs ea =>
  cases (show u = Value.ref a from rx);obtain ⟨_,_,_,p⟩ := (show bZ X.prog X.w H s.heap a (.tup xs) from I.hok a _ ea);obtain ⟨o,h1,h2,_⟩ := p;exact PySem.W.kia_one PySem.W.kitx_tuple I.kIn ⟨o,h1,h2⟩ e (λ z => nomatch z) h
 | @dK a aO ea =>
  cases (show u = Value.ref a from rx);obtain ⟨_,_,vs,_,p⟩ := (show bZ X.prog X.w H s.heap a (.dK aO) from I.hok a _ ea);obtain ⟨o,es,ep,h1,h2,_⟩ := p;exact PySem.W.kia_one PySem.W.kitx_dict I.kIn ⟨o,h1,h2.1⟩ e (λ z => nomatch z) h
 | @dT a aO ea =>
  cases (show u = Value.ref a from rx);obtain ⟨_,_,xs,_,o,es,ep,h1,h2,_⟩ := (show bZ X.prog X.w H s.heap a (.dT aO) from I.hok a _ ea);exact PySem.W.kia_one PySem.W.kitx_dict I.kIn ⟨o,h1,h2.1⟩ e (λ z => nomatch z) h
 | @ins a C dx fs ea cl ha hn htk hm =>
  cases (show u = Value.ref a from rx);obtain ⟨mA,O,_⟩ := ins_get I.hok ea;obtain ⟨od,J,_⟩ := O.look;exact PySem.W.kia_one (PySem.W.kitx_own (cl.get _) cl.hd ha hn htk hm) I.kIn J e (λ z => nomatch z) h
end
structure dW (k : Nat) (A : Around) : Prop where
 hd : A.handled = none
 dp : A.depth + 3 * k + 5 < recursionLimit
 un : A.units + 16 * k + 200 < cLine
theorem dW.mono {j k : Nat} {A : Around} (r : dW k A) (h : j <= k) : dW j A := ⟨r.hd,by have := r.dp; omega,by have := r.un; omega⟩
theorem dW.deeper {k : Nat} {A : Around} (r : dW (k + 1) A) (env : Env) : dW k (A.deeper env) :=
 ⟨r.hd,by have := r.dp; show A.depth + 1 + 3 * k + 5 < _; omega,by have := r.un; show A.units + 3 + 16 * k + 200 < _; omega⟩
theorem make_depth {A : Around} {C : Addr} {us : List Value} {kw : List (Str × Value)} : (A.under (.builtin "type.__call__" ⟨.ref C :: us,kw⟩)).depth = A.depth + 1 := by
 first | rfl | simp [Around.under,Code.weight,Code.isCreation,Code.isGuard,Code.isCaller,Code.frames,Code.isFrame,guardIds]
theorem make_units {A : Around} {C : Addr} {us : List Value} {kw : List (Str × Value)} : (A.under (.builtin "type.__call__" ⟨.ref C :: us,kw⟩)).units = A.units + 1 := by
 first | rfl | simp [Around.under,Code.cUnits,Code.frames,Code.isFrame]
theorem dW.make {k : Nat} {A : Around} (r : dW (k + 1) A) (C : Addr) (us : List Value) (kw : List (Str × Value)) : dW k (A.under (.builtin "type.__call__" ⟨.ref C :: us,kw⟩)) :=
 ⟨r.hd,by have := r.dp; rw [make_depth]; omega,by have := r.un; rw [make_units]; omega⟩
theorem dW.depth {k : Nat} {A : Around} (r : dW k A) : A.depth < recursionLimit := by have := r.dp; omega
theorem dW.units {k : Nat} {A : Around} (r : dW k A) : A.units + 64 < cLine := by have := r.un; omega
def fD : TA := λ _ H Q => Q [] H
def cC (ta : TE) (tr : TA) : TA := λ σ H Q => ta σ H λ x H1 => tr σ H1 λ xs H2 => Q (x :: xs) H2
section
variable {e : Expr} {t : TA}
theorem aF : PA X [] fD := λ _ _ _ _ H Q I h => Calls.spliced_nil ⟨[],H,I,.nil,h⟩
theorem aB (ha : PE X e te) (hr : PA X es t) (hs : starEach (e :: es) X.env = (false,eval e X.env) :: starEach es X.env := by rfl) : PA X (e :: es) (cC te t) := by
 intro pos aA s σ H Q I h
 rw [hs]
 show wpAny _ _ (spliced ((false,eval e X.env) :: backTo pos (starEach es X.env))) _ _ s
 refine Calls.spliced_cons (cP (ha aA s σ H _ I h) λ u s1 ⟨x,H1,I1,r1,q1⟩ => ?_)
 exact cP (hr pos aA s1 σ H1 _ I1 q1) λ us s2 ⟨xs,H2,I2,r2,q2⟩ => ⟨x :: xs,H2,I2,.cons r1 r2,q2⟩
def tTup (t : TA) : TE := λ σ H Q => t σ H λ xs H1 => xs.length <= sizeLine /\ ∀ p,H1 p = none -> Q (.ref p) (aL H1 p (.tup xs))
def tLst (t : TA) : TE := λ σ H Q => t σ H λ xs H1 => xs.length <= sizeLine /\ ∀ p,H1 p = none -> Q (.ref p) (aL H1 p (.lst xs))
theorem fP {x1} (h : PA X es t) : PE X (.Tuple es x1 pos) (tTup t) := by
 intro aA s σ H Q I hq
 refine wpAny_Tuple_spliced (cP (h pos aA s σ H _ I hq) λ us s1 ⟨xs,H1,I1,r,z,q⟩ => ⟨by rw [<- r.length]; exact z,?_⟩)
 have hf : H1 s1.heap.objs.size = none := I1.hok.fresh (Nat.le_refl _)
 refine ⟨.ref s1.heap.objs.size,aL H1 s1.heap.objs.size (.tup xs),I1.laid (t' := s1.toks) (λ b u e => Heap.get?_push_of_some _ e) (Nat.le_refl _) ?_,rfl,q _ hf⟩
 exact ⟨z,us,r,⟨_,Heap.get?_push_size _ rfl,rfl,_,rfl⟩⟩
theorem iG (h : PA X es t) : PE X (.List es pos) (tLst t) := by
 intro aA s σ H Q I hq
 refine wpAny_List_spliced (cP (h pos aA s σ H _ I hq) λ us s1 ⟨xs,H1,I1,r,z,q⟩ => ⟨by rw [<- r.length]; exact z,?_⟩)
 have hf : H1 s1.heap.objs.size = none := I1.hok.fresh (Nat.le_refl _)
 refine ⟨.ref s1.heap.objs.size,aL H1 s1.heap.objs.size (.lst xs),I1.laid (t' := s1.toks) (λ b u e => Heap.get?_push_of_some _ e) (Nat.le_refl _) ?_,rfl,q _ hf⟩
 exact ⟨z,us,0,r,Heap.get?_push_size _ rfl⟩
end
abbrev Sp := List V -> Hp -> VK -> XK -> Prop
abbrev CXT := List Env -> Hp -> Shared -> XK -> Value -> Shared -> Prop
structure rB (P : Program) (w : World) (K : W.Frag) (mg : Str -> Option Value) (base : Heap) (A : Around) (outer : List Env) (s : Shared) (H : Hp) : Prop where
 frames : A.frames = some outer
 mod : Mod K mg base
 bs : ∀ b o,base.get? b = some o -> s.heap.get? b = some o /\ H b = none
 bsz : base.objs.size <= s.heap.objs.size
 funs : s.heap.FunFrames base outer
 frf : ∀ b ∈ frs outer,H b = none
 hok : mL P w H s.heap
 bare : AllBare s.gens
def CE (outer : List Env) (P : Program) (w : World) (H : Hp) (s : Shared) (Q : VK) (u : Value) (s' : Shared) : Prop :=
 ∃ v H',s'.os = s.os /\ AllBare s'.gens /\ Un (frs outer) [] H H' s.heap s'.heap /\ mL P w H' s'.heap /\ bD v u /\ Q v H'
def CR (CX : CXT) (outer : List Env) (P : Program) (w : World) (H : Hp) (s : Shared) (Q : VK) (E : XK) (r : Result) (s' : Shared) : Prop :=
 match r with
 | .ok (.ret u) => CE outer P w H s Q u s'
 | .ok _ => False
 | .error e => CX outer H s E e s'
structure FnOk (P : Program) (w : World) (K : W.Frag) (mg : Str -> Option Value) (base : Heap) (CX : CXT) (k : Nat) (f : Addr) (fd : FuncData) (ps : List Str) (sp : Sp) : Prop where
 len : ∀ vs H Q E,sp vs H Q E -> vs.length = ps.length
 run : ∀ (A : Around) (outer : List Env) (s : Shared) (H : Hp) (args : Args) (us : List Value) (vs : List V) (Q : VK) (E : XK),dW k A -> rB P w K mg base A outer s H -> BindsTo s fd args (ps.zip us) -> aX vs us -> sp vs H Q E ->
  codeAny (model P w) A (.call (.ref f) args) (CR CX outer P w H s Q E) s
theorem FnOk.mono {P : Program} {w : World} {K : W.Frag} {mg : Str -> Option Value} {base : Heap} {CX : CXT} {j k : Nat} {f : Addr} {fd : FuncData} {ps : List Str} {sp : Sp} (F : FnOk P w K mg base CX j f fd ps sp) (h : j <= k) :
 FnOk P w K mg base CX k f fd ps sp := ⟨F.len,λ A outer s H args us vs Q E hr => F.run A outer s H args us vs Q E (hr.mono h)⟩
theorem FnOk.imp {P : Program} {w : World} {K : W.Frag} {mg : Str -> Option Value} {base : Heap} {CX : CXT} {k : Nat} {f : Addr} {fd : FuncData} {ps : List Str} {sp sp' : Sp} (F : FnOk P w K mg base CX k f fd ps sp)
 (h : ∀ vs H Q E,sp' vs H Q E -> sp vs H Q E) : FnOk P w K mg base CX k f fd ps sp' :=
 ⟨λ vs H Q E q => F.len vs H Q E (h _ _ _ _ q),λ A outer s H args us vs Q E hr he hb hv hs => F.run A outer s H args us vs Q E hr he hb hv (h _ _ _ _ hs)⟩
theorem rB.make {P : Program} {w : World} {K : W.Frag} {mg : Str -> Option Value} {base : Heap} {A : Around} {outer : List Env} {s : Shared} {H : Hp} (e : rB P w K mg base A outer s H) (C : Addr) (us : List Value) (kw : List (Str × Value)) :
 rB P w K mg base (A.under (.builtin "type.__call__" ⟨.ref C :: us,kw⟩)) outer s H := ⟨by first | exact e.frames | (simpa [Around.under,Code.envs,Code.isFrame,pushEnvs] using e.frames),e.mod,e.bs,e.bsz,e.funs,e.frf,e.hok,e.bare⟩
section
variable {σ : St} {s' : Shared}
theorem aR.env0 (I : aR X aA σ H s) : rB X.prog X.w X.K X.mg X.base X.A X.stack s H :=
 ⟨I.ok.frames,I.ok.mod,I.bs,Nat.le_trans I.ok.bsz I.sz,I.stack,I.stkFree,I.hok,I.bare⟩
theorem aR.after {Q : VK} {u : Value} (I : aR X aA σ H s) (h : CE X.stack X.prog X.w H s Q u s') : EP X aA σ Q u s' := by
 obtain ⟨v,H',os,bare,un,hok,r,q⟩ := h
 obtain ⟨hh,g,d,t,os'⟩ := s'
 obtain rfl : os' = s.os := os
 exact ⟨v,H',I.call (h' := hh) (g' := g) (d' := d) (t' := t) (ch := []) un hok bare (λ b z => absurd z (by simp)),r,q⟩
end
def nA (sp : Sp) (dvs : List V) (E : XK) (t : TA) : TE := λ σ H Q => t σ H λ vs H1 => sp (vs ++ dvs) H1 Q E
def tMeth (C : Addr) (m : Str) (sp : Sp) (dvs : List V) (E : XK) (ta : TE) (t : TA) : TE := λ σ H Q => ta σ H λ x H1 => ∃ a dx fs,x = .ref a /\ H1 a = some (.ins C dx fs) /\ fs.lookup m = none /\
 t σ H1 λ vs H2 => sp (x :: (vs ++ dvs)) H2 Q E
def tMake (C : Addr) (sp : Sp) (dvs : List V) (E : XK) (t : TA) : TE := λ σ H Q => t σ H λ vs H1 => ∀ x dx,H1 x = none -> H1 dx = none -> dx ≠ x ->
 sp (.ref x :: (vs ++ dvs)) (aL (aL H1 dx (.own x)) x (.ins C dx [])) (λ v H2 => v = .non /\ Q (.ref x) H2) E
def fG (K : W.Frag) (fd : FuncData) (ps : List Str) (ds : List Value) : Prop :=
 ∀ (s : Shared) (us : List Value),K.In s.heap -> (us ++ ds).length = ps.length -> BindsTo s fd ⟨us,[]⟩ (ps.zip (us ++ ds))
theorem fG.all {K : W.Frag} {fd : FuncData} {ps : List Str} (h : ∀ us : List Value,us.length = ps.length -> bindArgs fd ⟨us,[]⟩ = pure (ps.zip us)) : fG K fd ps [] := λ s us _ hl => by
 rw [List.append_nil] at hl ⊢
 exact .of_eq (h us hl)
def jP (CX : CXT) (X : Cx) (E : XK) : Prop := ∀ (aA : List (Addr × Obj)) (σ : St) (H : Hp) (s : Shared) (e : Value) (s' : Shared),aR X aA σ H s -> CX X.stack H s E e s' -> X.xe e s'
section
variable {CX : CXT} {k : Nat} {f : Addr} {fd : FuncData} {ps : List Str} {sp : Sp} {dvs : List V} {ds : List Value} {E : XK} {x m : Str} {kA : Pos} {e o : Expr} {t : TA}
theorem run_fn {aA : List (Addr × Obj)} {σ : St} {H : Hp} {s : Shared} {Q : VK} {us : List Value} {vs : List V} (F : FnOk X.prog X.w X.K X.mg X.base CX k f fd ps sp) (hr : dW k X.A) (hb : fG X.K fd ps ds) (hd : aX dvs ds) (hx : jP CX X E)
 (I : aR X aA σ H s) (r : aX vs us) (h : sp (vs ++ dvs) H Q E) : wpAny (model X.prog X.w) X.A (call (.ref f) us) (EP X aA σ Q) X.xe s := by
 have r2 : aX (vs ++ dvs) (us ++ ds) := r.append hd
 have hl : (us ++ ds).length = ps.length := by rw [<- r2.length]; exact F.len _ _ _ _ h
 refine wpAny_call (codeAny_mono (F.run X.A X.stack s H ⟨us,[]⟩ (us ++ ds) (vs ++ dvs) Q E hr I.env0 (hb s us I.kIn hl) r2 h) λ r s' hq => ?_)
 cases r with
 | error e => exact hx aA σ H s e s' I hq
 | ok fl =>
  cases fl with
  | ret u => exact I.after hq
  | next => exact False.elim hq
  | brk => exact False.elim hq
  | cont => exact False.elim hq
theorem aQ (F : FnOk X.prog X.w X.K X.mg X.base CX k f fd ps sp) (hr : dW k X.A) (hg : Gl X x) (hm : X.mg x = some (.ref f)) (hk : W.keepIn X.K (.ref f) = true) (hb : fG X.K fd ps ds) (hd : aX dvs ds) (hx : jP CX X E)
 (ha : PA X (e :: es) t) (hdb : (x == ("__debug__" : Str)) = false := by decide) (he : starEach (e :: es) X.env = (false,eval e X.env) :: starEach es X.env := by rfl) (oE : (backTo pos (starEach es X.env)).any (·.1) = false := by rfl) :
 PE X (.Call (.Name x p) (e :: es) [] pos) (nA sp dvs E t) := by
 intro aA s σ H Q I h
 refine wpAny_Call_Name_kw (oM I hg hm ?_ hdb)
 refine PySem.W.callWith_K (h₀ := X.base) I.ok.mod.kin hk (cP (ha pos aA s σ H _ I h) λ us s1 ⟨vs,H1,I1,r,q⟩ => ⟨I1.kIn,?_⟩) he oE
 exact run_fn F hr hb hd hx I1 r q
theorem pe_meth {pl : Sem Bool} (he : PE X o ta) (c : Cls X.K C) (hm : Meth X.K C m f) (F : FnOk X.prog X.w X.K X.mg X.base CX k f fd ps sp) (hr : dW k X.A) (hb : fG X.K fd ps ds) (hd : aX dvs ds) (hx : jP CX X E) (ha : PA X (e :: es) t)
 (hst : starEach (e :: es) X.env = (false,eval e X.env) :: starEach es X.env := by rfl) (oE : (backTo pos (starEach es X.env)).any (·.1) = false := by rfl)
 (ht : eval (.Call (.Attribute o m kA) (e :: es) [] pos) X.env = (do
  let ov <- eval o X.env
  standAt kA.atName
  let (f,first) <- holding [ov] (getMethod ov m pl)
  callWith pos f first (backTo pos (starEach (e :: es) X.env)) (backToKw pos (keywordEach [] X.env))) := by rfl) :
 PE X (.Call (.Attribute o m kA) (e :: es) [] pos) (tMeth C m sp dvs E ta t) := by
 intro aA s σ H Q I h
 refine PySem.W.methodCall_KW (pl := pl) (cP (he aA s σ H _ I h) λ u s1 ⟨x,H1,I1,rx,a,dx,fs,ex,ea,l,q⟩ => ?_) ht
 subst ex
 obtain rfl : u = Value.ref a := rx
 refine getmeth_ok I1 ea c hm l ?_
 refine PySem.W.callWith_K (first := [.ref a]) (h₀ := X.base) I.ok.mod.kin hm.kp (cP (ha pos aA s1 σ H1 _ I1 q) λ us s2 ⟨vs,H2,I2,r,q2⟩ => ⟨I2.kIn,?_⟩) hst oE
 exact run_fn (us := .ref a :: us) (vs := .ref a :: vs) F hr hb hd hx I2 (.cons rfl r) q2
structure Mk (K : W.Frag) (C f : Addr) : Prop where
 makes : PySem.W.makesIn K C = true
 init : W.findIn K (.ref C) "__init__" = some (some (.ref f))
 fn : W.isFn K (.ref f) = true
 kp : W.keepIn K (.ref C) = true
theorem run_make {aA : List (Addr × Obj)} {σ : St} {H : Hp} {s : Shared} {Q : VK} {us : List Value} {vs : List V} (M : Mk X.K C f) (F : FnOk X.prog X.w X.K X.mg X.base CX k f fd ps sp) (hr : dW (k + 1) X.A) (hb : fG X.K fd ps ds) (hd : aX dvs ds)
 (hx : jP CX X E) (I : aR X aA σ H s) (r : aX vs us)
 (h : ∀ x dx,H x = none -> H dx = none -> dx ≠ x -> sp (.ref x :: (vs ++ dvs)) (aL (aL H dx (.own x)) x (.ins C dx [])) (λ v H2 => v = .non /\ Q (.ref x) H2) E) :
 wpAny (model X.prog X.w) X.A (call (.ref C) us) (EP X aA σ Q) X.xe s := by
 have hq := h (s.heap.objs.size + 1) s.heap.objs.size (I.hok.fresh (Nat.le_succ _)) (I.hok.fresh (Nat.le_refl _)) (Nat.ne_of_lt (Nat.lt_succ_self _))
 have I2 := aR.made (C := C) I
 have r2 : aX (V.ref (s.heap.objs.size + 1) :: (vs ++ dvs)) (Value.ref (s.heap.objs.size + 1) :: (us ++ ds)) := .cons rfl (r.append hd)
 have hl : (Value.ref (s.heap.objs.size + 1) :: us ++ ds).length = ps.length := by
  have e := r2.length;rw [F.len _ _ _ _ hq] at e;exact e.symm
 refine wpAny_call (make_map (f := f) I.kIn M.makes M.init (beq_iff_eq.mp M.fn) (codeAny_mono (F.run _ X.stack _ _ ⟨Value.ref (s.heap.objs.size + 1) :: us,[]⟩ (Value.ref (s.heap.objs.size + 1) :: (us ++ ds)) _ _ E (hr.make C us [])
  (I2.env0.make C us []) (hb _ (Value.ref (s.heap.objs.size + 1) :: us) I2.kIn hl) r2 hq) λ r s' hq' => ?_))
 cases r with
 | error e => exact hx aA σ _ _ e s' I2 hq'
 | ok fl =>
  cases fl with
  | ret u =>
   obtain ⟨v,H',I3,rv,ev,q3⟩ := I2.after hq';subst ev;exact ⟨rv,⟨V.ref (s.heap.objs.size + 1),H',I3,rfl,q3⟩⟩
  | next => exact False.elim hq'
  | brk => exact False.elim hq'
  | cont => exact False.elim hq'
theorem pe_make (M : Mk X.K C f) (F : FnOk X.prog X.w X.K X.mg X.base CX k f fd ps sp) (hr : dW (k + 1) X.A) (hg : Gl X x) (hm : X.mg x = some (.ref C)) (hb : fG X.K fd ps ds) (hd : aX dvs ds) (hx : jP CX X E)
 (ha : PA X (e :: es) t) (hdb : (x == ("__debug__" : Str)) = false := by decide) (he : starEach (e :: es) X.env = (false,eval e X.env) :: starEach es X.env := by rfl) (oE : (backTo pos (starEach es X.env)).any (·.1) = false := by rfl) :
 PE X (.Call (.Name x p) (e :: es) [] pos) (tMake C sp dvs E t) := by
 intro aA s σ H Q I h
 refine wpAny_Call_Name_kw (oM I hg hm ?_ hdb)
 refine PySem.W.callWith_K (h₀ := X.base) I.ok.mod.kin M.kp (cP (ha pos aA s σ H _ I h) λ us s1 ⟨vs,H1,I1,r,q⟩ => ⟨I1.kIn,?_⟩) he oE
 exact run_make M F hr hb hd hx I1 r q
end
def PK (X : Cx) (kws : List Keyword) (t : TA) : Prop :=
 ∀ (pos : Pos) (aA : List (Addr × Obj)) (s : Shared) (σ : St) (H : Hp) (Q : List V -> Hp -> Prop),aR X aA σ H s -> t σ H Q -> wpAny (model X.prog X.w) X.A (evalAll ((backToKw pos (keywordEach kws X.env)).map (·.2))) (AP X aA σ Q) X.xe s
section
variable {CX : CXT} {k : Nat} {f : Addr} {fd : FuncData} {ps ks : List Str} {sp : Sp} {E : XK} {x m : Str} {kA kpos : Pos} {e o : Expr} {kws : List Keyword} {t tk : TA} {nm : Option Str}
theorem pk_nil : PK X [] fD := λ _ _ _ _ H Q I h => wpAny_evalAll_nil ⟨[],H,I,.nil,h⟩
theorem pk_cons (ha : PE X e te) (hr : PK X kws t) : PK X (⟨nm,e,kpos⟩ :: kws) (cC te t) := by
 intro pos aA s σ H Q I h
 show wpAny _ _ (evalAll ((do let v <- eval e X.env; standAt pos; pure v) :: (backToKw pos (keywordEach kws X.env)).map (·.2))) _ _ s
 refine wpAny_evalAll_cons (wpAny_bind (cP (ha aA s σ H _ I h) λ u s1 ⟨x,H1,I1,r1,q1⟩ => wpAny_bind (wpAny_standAt (wpAny_pure ?_))))
 exact cP (hr pos aA s1 σ H1 _ I1 q1) λ us s2 ⟨xs,H2,I2,r2,q2⟩ => ⟨x :: xs,H2,I2,.cons r1 r2,q2⟩
variable {g : List Value -> List Value -> List Value} {gV : List V -> List V -> List V}
end
structure bI (N P : List Str) (sc : Scope) : Prop where
 kind : sc.kind = .function
 co : sc.isCoroutine = false
 gen : sc.isGenerator = false
 nd : N.Nodup
 pre : N.take P.length = P
 par : ∀ x ∈ P,sc.names.lookup x = some .local \/ sc.names.lookup x = some .cell
 nofree : ∀ y ∈ sc.names,y.2 ≠ .free
theorem bI.of {N P : List Str} {sc : Scope} (a : sc.kind = .function) (b : sc.isCoroutine = false) (c : sc.isGenerator = false) (d : N.take P.length = P) (h : N.Nodup ∧ (∀ x ∈ P,sc.names.lookup x = some .local ∨ sc.names.lookup x = some .cell) ∧ ∀ y ∈ sc.names,y.2 ≠ .free) : bI N P sc := ⟨a,b,c,h.1,d,h.2.1,h.2.2⟩
theorem bindL_out {kindOf : Str -> Option NameKind} {x : Str} : ∀ {binds : List (Str × Value)} {m : Str -> Option Value},(∀ v,(x,v) ∉ binds) -> bindL kindOf binds m x = m x
 | [],_,_ => rfl
 | (n,v) :: r,m,h => by
  unfold bindL;rw [bindL_out λ w hw => h w (List.mem_cons_of_mem _ hw)]
  split
  . have : x ≠ n := by rintro rfl; exact h v List.mem_cons_self
    simp [this]
  . rfl
theorem qA {kindOf : Str -> Option NameKind} {x : Str} : ∀ {binds : List (Str × Value)} {m : Str -> Option Value},(∀ v,(x,v) ∉ binds) -> bindC kindOf binds m x = m x
 | [],_,_ => rfl
 | (n,v) :: r,m,h => by
  unfold bindC;rw [qA λ w hw => h w (List.mem_cons_of_mem _ hw)]
  split
  . rfl
  . have : x ≠ n := by rintro rfl; exact h v List.mem_cons_self
    simp [this]
theorem pW {kindOf : Str -> Option NameKind} {x : Str} {v : Value} : ∀ {P : List Str} {vs : List Value} {i : Nat} {m : Str -> Option Value},P.Nodup -> P[i]? = some x -> vs[i]? = some v -> kindOf x = some .local ->
 bindL kindOf (P.zip vs) m x = some v
 | [],_,_,_,_,h,_,_ => by simp at h
 | _ :: _,[],_,_,_,_,h,_ => by simp at h
 | p :: P,w :: vs,0,m,nd,h1,h2,hk => by
  simp at h1 h2; subst h1; subst h2;show bindL kindOf ((p,w) :: P.zip vs) m p = _;unfold bindL;rw [bindL_out λ v hv => (List.nodup_cons.mp nd).1 (List.of_mem_zip hv).1,if_pos hk];simp
 | p :: P,w :: vs,i + 1,m,nd,h1,h2,hk => by
  show bindL kindOf ((p,w) :: P.zip vs) m x = _
  unfold bindL;exact pW (i := i) (List.nodup_cons.mp nd).2 (by simpa using h1) (by simpa using h2) hk
theorem pM {kindOf : Str -> Option NameKind} {x : Str} {v : Value} : ∀ {P : List Str} {vs : List Value} {i : Nat} {m : Str -> Option Value},P.Nodup -> P[i]? = some x -> vs[i]? = some v -> kindOf x ≠ some .local ->
 bindC kindOf (P.zip vs) m x = some v
 | [],_,_,_,_,h,_,_ => by simp at h
 | _ :: _,[],_,_,_,_,h,_ => by simp at h
 | p :: P,w :: vs,0,m,nd,h1,h2,hk => by
  simp at h1 h2; subst h1; subst h2;show bindC kindOf ((p,w) :: P.zip vs) m p = _;unfold bindC;rw [qA λ v hv => (List.nodup_cons.mp nd).1 (List.of_mem_zip hv).1,if_neg hk];simp
 | p :: P,w :: vs,i + 1,m,nd,h1,h2,hk => by
  show bindC kindOf ((p,w) :: P.zip vs) m x = _
  unfold bindC;exact pM (i := i) (List.nodup_cons.mp nd).2 (by simpa using h1) (by simpa using h2) hk
def start (N : List Str) (vs : List V) : St := vs.map some ++ List.replicate (N.length - vs.length) none
def cH (CX : CXT) (P : Program) (w : World) (K : W.Frag) (mg : Str -> Option Value) (base : Heap) (N : List Str) (qual : Str) (scope : Scope) (f : Addr) (cd : Value) (A : Around) (outer : List Env) (s : Shared) (H : Hp) (E : XK) : Cx where
 prog := P
 w := w
 K := K
 mg := mg
 base := base
 A := A.deeper (envOfC qual scope s.heap.objs.size f cd)
 N := N
 s₀ := s
 H₀ := H
 env := envOfC qual scope s.heap.objs.size f cd
 outer := outer
 stack := envOfC qual scope s.heap.objs.size f cd :: outer
 ex := []
 calm := true
 fn := λ _ => true
 pn := []
 xe := λ e s' => wpAny (model P w) (A.deeper (envOfC qual scope s.heap.objs.size f cd)) (leaving (envOfC qual scope s.heap.objs.size f cd) e) (λ _ s'' => CX outer H s E e s'') (λ e' s'' => CX outer H s E e' s'') s'
theorem cell_has {sc : Scope} {n : Nat} {x : Str} (h : sc.names.lookup x = some .cell) : ∃ c,(cellsFrom n sc.names []).lookup x = some c := by
 have q := PySem.W.cellsFrom_some sc.names n [] (.inl h)
 exact Option.isSome_iff_exists.mp q
theorem inv_start {CX : CXT} {P : Program} {w : World} {K : W.Frag} {mg : Str -> Option Value} {base : Heap} {N ps : List Str} {qual : Str} {scope : Scope} {f : Addr} {cd : Value} {A : Around} {outer : List Env} {s s1 : Shared} {H : Hp} {E : XK} {us : List Value} {vs : List V}
 (S : bI N ps scope) (hd : A.handled = none) (e0 : rB P w K mg base A outer s H) (hl : vs.length = ps.length) (r : aX vs us)
 (x : InCallC s s.heap.objs.size (bindL (envOfC qual scope s.heap.objs.size f cd).kindOf (ps.zip us) λ _ => none) (cellsFrom (s.heap.objs.size + 1) scope.names []) (bindC (envOfC qual scope s.heap.objs.size f cd).kindOf (ps.zip us) λ _ => none) s1) :
 aR (cH CX P w K mg base N qual scope f cd A outer s H E) [] (start N vs) H s1 := by
 have oE : ps.length <= N.length := by have := congrArg List.length S.pre; rw [List.length_take] at this; omega
 obtain ⟨h1,tk,rfl,hk⟩ := x.done
 have noA : ∀ b : Addr,b ∉ (cH CX P w K mg base N qual scope f cd A outer s H E).ex := λ b z => absurd (show b ∈ ([] : List Addr) from z) (by simp)
 refine ⟨⟨e0.mod,S.kind,rfl,rfl,Nat.le_refl _,λ y z c h1 h2 => ?_,λ y hy => ?_,λ y c _ h => ?_,λ _ => hd,Around.frames_deeper e0.frames,.inr ⟨rfl,rfl⟩,λ b z => absurd z (noA b),e0.bs,e0.bsz,λ b _ _ => noA b,λ b z => absurd z (noA b),e0.funs,e0.frf⟩,
  rfl,e0.bare,Un.kept hk,⟨_,x.toInCall.ns,λ i y v h1 h2 h3 => ?_⟩,λ y c h => ⟨_,x.cell y c h⟩,e0.hok.fresh (Nat.le_refl _),λ y c h => ?_,λ p hp => absurd (show p ∈ ([] : List (Addr × Obj)) from hp) (by simp),e0.hok.kept hk,?_⟩
 . exact name_of_addr x.apart (PySem.mem_of_lookup h1) (PySem.mem_of_lookup h2)
 . have hy : scope.names.lookup y = some .cell \/ scope.names.lookup y = some .free := hy
   rcases hy with hy | hy
   . exact cell_has hy
   . exact absurd rfl (S.nofree _ (PySem.mem_of_lookup hy))
 . exact Nat.le_of_lt (x.above y c (PySem.mem_of_lookup h))
 . have hi : i < vs.length := by
    unfold start at h2
    by_cases hi : i < vs.length
    . exact hi
    . rw [List.getElem?_append_right (by simpa using hi)] at h2;rw [List.getElem?_replicate] at h2
      split at h2 <;> cases h2
   have ha : vs[i]? = some v := by
    unfold start at h2;rw [List.getElem?_append_left (by simpa using hi),List.getElem?_map] at h2;cases e : vs[i]? with
    | none => rw [e] at h2; cases h2
    | some a => rw [e] at h2; cases h2; rfl
   obtain ⟨u,hu,rv⟩ := r.get ha;have hp : ps[i]? = some y := by
    rw [<- S.pre,List.getElem?_take_of_lt (by omega)]; exact h1
   have ndP : ps.Nodup := by rw [<- S.pre]; exact S.nd.sublist (List.take_sublist _ _)
   refine ⟨u,rv,?_⟩
   rcases S.par y (List.mem_of_getElem? hp) with k | k
   . exact .inl ⟨k,pW ndP hp hu k⟩
   . obtain ⟨c,e⟩ := cell_has (n := s.heap.objs.size + 1) k;refine .inr ⟨.inl k,c,e,?_⟩;have q := x.cell y c e;rw [pM ndP hp hu (by show scope.names.lookup y ≠ _; rw [k]; decide)] at q;exact q
 . exact e0.hok.fresh (Nat.le_of_lt (x.above y c (PySem.mem_of_lookup h)))
 . unfold start;show _ = N.length;rw [List.length_append,List.length_map,List.length_replicate];omega
theorem fn_of {CX : CXT} {P : Program} {w : World} {K : W.Frag} {mg : Str -> Option Value} {base : Heap} {k : Nat} {f : Addr} {name qual : Str} {params : Arguments} {body : List Stmt} {scope : Scope} {dV kV lV pm cdv ct oc : Value} {an od : Option Addr}
 {osl : Array (Option Value)} {N ps : List Str} {sp : Sp} (lk : K.lookup f = some ⟨oc,od,.func (PySem.W.fnOf name qual params body scope dV kV lV pm an cdv ct),osl⟩) (qR : PySem.W.codeIn K cdv qual = true) (S : bI N ps scope)
 (len : ∀ vs H Q E,sp vs H Q E -> vs.length = ps.length)
 (kH : ∀ (A : Around) (outer : List Env) (s : Shared) (H : Hp) (vs : List V) (Q : VK) (E : XK),dW k (A.deeper (envOfC qual scope s.heap.objs.size f cdv)) -> sp vs H Q E ->
  ∃ t,PSs (cH CX P w K mg base N qual scope f cdv A outer s H E) body t /\ t { nx := λ _ H' => Q .non H',rt := Q } (start N vs) H) :
 FnOk P w K mg base CX (k + 1) f (PySem.W.fnOf name qual params body scope dV kV lV pm an cdv ct) ps sp := by
 refine ⟨len,λ A outer s H args us vs Q E hr e0 hb r hsp => ?_⟩
 have hl := len _ _ _ _ hsp
 have KX : K.In s.heap := e0.mod.kin.keeps λ b o e => (e0.bs b o e).1
 have lim : s.heap.NoLimit := e0.mod.nolimit.keeps λ b o e => (e0.bs b o e).1
 have oY : ∀ y ∈ ps.zip us,scope.names.lookup y.1 = some .local \/ (scope.names.lookup y.1 = some .cell /\ ((cellsFrom (s.heap.objs.size + 1) scope.names []).lookup y.1).isSome = true) := λ ⟨n,v⟩ hy => by
  rcases S.par n (List.of_mem_zip hy).1 with q | q
  . exact .inl q
  . exact .inr ⟨q,PySem.W.cellsFrom_some _ _ _ (.inl q)⟩
 refine codeAny_call_function hr.depth (KX _ _ lk) rfl S.co S.gen rfl (PySem.W.codeRec_of KX qR) (hb _ _ _ _ ?_)
 refine wpAny_newFunctionEnv_cells S.kind oY λ env he s1 x => ?_
 subst he
 refine ⟨lim.keeps x.toInCall.keep,codeAny_func ?_⟩
 obtain ⟨t,ht,hq⟩ := kH A outer s H vs Q E (hr.deeper _) hsp
 have I : aR (cH CX P w K mg base N qual scope f cdv A outer s H E) [] (start N vs) H s1 := inv_start S hr.hd e0 hl r x
 refine wpAny_mono (ht [] s1 (start N vs) H _ I hq) (λ fl s' hs => ?_) λ e s' hs => hs
 have eO : ∀ {σ' : St} {H' : Hp} {v : V} {u : Value},aR (cH CX P w K mg base N qual scope f cdv A outer s H E) [] σ' H' s' -> bD v u -> Q v H' -> CE outer P w H s Q u s' :=
  λ {σ' H' v u} J rv q => ⟨v,H',J.os,J.bare,J.base,J.hok,rv,q⟩
 cases fl with
 | ret u =>
  obtain ⟨v,σ',H',J,rv,q⟩ := hs;exact eO J rv q
 | next =>
  obtain ⟨σ',H',J,q⟩ := hs;exact eO (v := V.non) (u := Value.none) J rfl q
 | brk =>
  obtain ⟨_,_,_,q⟩ := hs;exact False.elim q
 | cont =>
  obtain ⟨_,_,_,q⟩ := hs;exact False.elim q
section
variable {x : Str} {e : Expr} {t : TA} {id T : String} {r : List V -> Hp -> VK -> Prop}
def tCB (r : List V -> Hp -> VK -> Prop) (t : TA) : TE := λ σ H Q => t σ H λ vs H1 => r vs H1 Q
theorem aZ (hc : dP X (.builtin id) r) (hg : Gl X x) (hm : X.mg x = none) (hv : bootBuiltins x = some (.builtin id)) (ha : PA X (e :: es) t) (hn : x ≠ "__name__" := by decide) (hdb : (x == ("__debug__" : Str)) = false := by decide)
 (he : starEach (e :: es) X.env = (false,eval e X.env) :: starEach es X.env := by rfl) (oE : (backTo pos (starEach es X.env)).any (·.1) = false := by rfl) : PE X (.Call (.Name x p) (e :: es) [] pos) (tCB r t) := by
 intro aA s σ H Q I h
 refine wpAny_Call_Name_kw (nV I hg hm hv ?_ hn hdb)
 exact PyProof.Rows.callWith_builtin1 (cP (ha pos aA s σ H _ I h) λ us s1 ⟨vs,H1,I1,r1,q1⟩ => hc aA s1 σ H1 vs us Q I1 r1 q1) he oE
theorem cX (hc : dP X (.type T) r) (hg : Gl X x) (hm : X.mg x = none) (hv : bootBuiltins x = some (.type T)) (ha : PA X (e :: es) t) (hn : x ≠ "__name__" := by decide) (hdb : (x == ("__debug__" : Str)) = false := by decide)
 (he : starEach (e :: es) X.env = (false,eval e X.env) :: starEach es X.env := by rfl) (oE : (backTo pos (starEach es X.env)).any (·.1) = false := by rfl) : PE X (.Call (.Name x p) (e :: es) [] pos) (tCB r t) := by
 intro aA s σ H Q I h
 refine wpAny_Call_Name_kw (nV I hg hm hv ?_ hn hdb)
 exact PyProof.Rows.callWith_type1 (cP (ha pos aA s σ H _ I h) λ us s1 ⟨vs,H1,I1,r1,q1⟩ => hc aA s1 σ H1 vs us Q I1 r1 q1) he oE
theorem pe_callTy0 (hc : dP X (.type T) r) (hg : Gl X x) (hm : X.mg x = none) (hv : bootBuiltins x = some (.type T)) (hn : x ≠ "__name__" := by decide) (hdb : (x == ("__debug__" : Str)) = false := by decide) :
 PE X (.Call (.Name x p) [] [] pos) (tCB r fD) := by
 intro aA s σ H Q I h
 refine wpAny_Call_Name_kw (nV I hg hm hv ?_ hn hdb)
 exact PyProof.Rows.callWith_type0 (hc aA s σ H [] [] Q I .nil h)
end
end L2
namespace HT
open PySem PyProof.Rows
section
open PySem.SeqAt
open PySem.AutoSeq1 (wpAny_loadPart')
open PySem.MeetsSeq PySem.MeetsSeq2 PySem.MeetsSeq3
end
section
variable {prog : Program} {w : World} {A : Around} {E : Value -> Shared -> Prop} {s : Shared}
def sIx (n d : Nat) : Option Int -> Nat
 | none => d
 | some v => if v < 0 then (v + (n : Int)).toNat else min v.toNat n
theorem sIx_nat (n d k : Nat) : sIx n d (some (k : Int)) = min k n := by
 show (if (k : Int) < 0 then ((k : Int) + (n : Int)).toNat else min (k : Int).toNat n) = min k n
 rw [if_neg (by omega),Int.toNat_natCast]
end
end HT
namespace L2
open PySem PySem.Spec PyProof.Rows
variable {X : Cx}
abbrev TO := St -> Hp -> (Option Int -> Hp -> Prop) -> Prop
def PO (X : Cx) (e : Option Expr) (t : TO) : Prop :=
 ∀ (aA : List (Addr × Obj)) (s : Shared) (σ : St) (H : Hp) (Q : Option Int -> Hp -> Prop),aR X aA σ H s -> t σ H Q ->
  wpAny (model X.prog X.w) X.A (evalPart e X.env) (λ u s' => ∃ o H',aR X aA σ H' s' /\ IsPart u o /\ Q o H') X.xe s
def mH : TO := λ _ H Q => Q none H
def tPart (t : TE) : TO := λ σ H Q => t σ H λ x H1 => ∃ i,x = .int i /\ Q (some i) H1
theorem intsAre_of {ns : List Int} : ∀ {us : List Value},aX (ns.map V.int) us -> IntsAre us ns := by
 induction ns with
 | nil => intro us r; rw [List.map_nil] at r; cases r; exact .nil
 | cons n ns ih =>
  intro us r;rw [List.map_cons] at r;cases r with
  | cons r1 r2 =>
   obtain ⟨t,e⟩ := r1;subst e;exact .cons n t (ih r2)
section
variable {e : Expr} {te : TE} {lo hi : Option Expr} {tl th : TO} {pos p2 : Pos}
theorem eZ : PO X none mH := by
 intro aA s σ H Q I h
 rw [evalPart_none]
 exact wpAny_pure ⟨none,H,I,.none,h⟩
theorem fB (h : PE X e te) : PO X (some e) (tPart te) := by
 intro aA s σ H Q I hw
 rw [evalPart_some]
 refine cP (h aA s σ H _ I hw) λ u s1 ⟨x,H1,I1,r1,q1⟩ => ?_
 obtain ⟨i,rfl,q⟩ := q1
 obtain ⟨t,rfl⟩ := r1
 exact ⟨some i,H1,I1,.int i t,q⟩
def SlR (X : Cx) (r : V -> Option Int -> Option Int -> Hp -> VK -> Prop) : Prop :=
 ∀ (aA : List (Addr × Obj)) (s : Shared) (σ : St) (H : Hp) (x : V) (v vl vu : Value) (lo hi : Option Int) (sl : Addr) (Q : VK),aR X aA σ H s -> bD x v -> s.heap.IsSliceOf sl vl vu .none -> IsPart vl lo -> IsPart vu hi -> r x lo hi H Q ->
  ∃ T id,typeLookup (.type T) "__getitem__" = pure (some (.builtin id)) /\ s.TypeIs v T /\ wpAny (model X.prog X.w) X.A (getItem v (.ref sl)) (EP X aA σ Q) X.xe s
def tSl (r : V -> Option Int -> Option Int -> Hp -> VK -> Prop) (te : TE) (tl th : TO) : TE := λ σ H Q => te σ H λ x H1 => tl σ H1 λ l H2 => th σ H2 λ u H3 => r x l u H3 Q
theorem dS {r : V -> Option Int -> Option Int -> Hp -> VK -> Prop} (hr : SlR X r) (he : PE X e te) (hl : PO X lo tl) (hu : PO X hi th) : PE X (.Subscript e (.Slice lo hi none p2) pos) (tSl r te tl th) := by
 intro aA s σ H Q I h
 refine Subscript_ (cP (he aA s σ H _ I h) λ v s1 ⟨x,H1,I1,r1,q1⟩ => ?_)
 refine wpAny_Slice (cP (hl aA s1 σ H1 _ I1 q1) λ vl s2 ⟨l,H2,I2,pl,q2⟩ => cP (hu aA s2 σ H2 _ I2 q2) λ vu s3 ⟨u,H3,I3,pu,q3⟩ => ?_)
 rw [evalPart_none]
 refine wpAny_pure ?_
 have I4 : aR X aA σ H3 { s3 with heap := s3.heap.push { cls := .type "slice",data := .fields #[vl,vu,.none] } } := I3.kept (t' := s3.toks) λ b ob q => Heap.get?_push_of_some _ q
 obtain ⟨T,id,hT,ht,hg⟩ := hr aA { s3 with heap := s3.heap.push { cls := .type "slice",data := .fields #[vl,vu,.none] } } σ H3 x v vl vu l u s3.heap.objs.size Q I4 r1 (Heap.IsSliceOf.new ..) pl pu q3
 show wpAny (model X.prog X.w) X.A (subscriptTail e (.Slice lo hi none p2) v (.ref s3.heap.objs.size)) (EP X aA σ Q) X.xe { s3 with heap := s3.heap.push { cls := .type "slice",data := .fields #[vl,vu,.none] } }
 exact tail_any (ops := [.ref s3.heap.objs.size,v]) ht hT hg (by with_unfolding_all rfl)
def cutV (xs : List V) (lo hi : Option Int) : List V := (xs.drop (HT.sIx xs.length 0 lo)).take (HT.sIx xs.length xs.length hi - HT.sIx xs.length 0 lo)
theorem qT (xs : List V) (lo hi : Option Int) : (cutV xs lo hi).length <= xs.length := by
 unfold cutV
 rw [List.length_take,List.length_drop]
 omega
end
def ixN (n : Nat) (i : Int) : Option Nat := if 0 <= i then (if i < n then some i.toNat else none) else if -(n : Int) <= i then some (i + n).toNat else none
def oB {α : Type} (xs : List α) (i : Int) : Option α := (ixN xs.length i).bind λ j => xs[j]?
theorem ixN_seq {n : Nat} {i : Int} {j : Nat} (h : ixN n i = some j) : seqIndex? i n = some j /\ j < n /\ -(n : Int) <= i /\ i < n := by
 unfold ixN at h
 by_cases h0 : 0 <= i
 . rw [if_pos h0] at h
   by_cases h1 : i < n
   . rw [if_pos h1] at h;have e : i.toNat = j := Option.some.inj h;exact ⟨by rw [seqIndex_of h0 h1,e],by omega,by omega,h1⟩
   . rw [if_neg h1] at h; cases h
 . rw [if_neg h0] at h
   by_cases h1 : -(n : Int) <= i
   . rw [if_pos h1] at h;have e : (i + n).toNat = j := Option.some.inj h;exact ⟨by rw [seqIndex_neg (by omega) h1,e],by omega,h1,by omega⟩
   . rw [if_neg h1] at h; cases h
theorem atI_get {α : Type} {xs : List α} {i : Int} {v : α} (h : oB xs i = some v) : ∃ j,seqIndex? i xs.length = some j /\ xs[j]? = some v /\ j < xs.length /\ -(xs.length : Int) <= i /\ i < xs.length := by
 unfold oB at h
 cases e : ixN xs.length i with
 | none => rw [e] at h; cases h
 | some j =>
  rw [e] at h;obtain ⟨h1,h2,h3,h4⟩ := ixN_seq e;exact ⟨j,h1,h,h2,h3,h4⟩
theorem bT {α : Type} {xs : List α} {j : Nat} {v : α} (h : xs[j]? = some v) : oB xs (j : Int) = some v := by
 have hj : j < xs.length := (List.getElem?_eq_some_iff.mp h).1
 have e : ixN xs.length (j : Int) = some j := by
  unfold ixN;rw [if_pos (by omega),if_pos (by omega)]; simp
 unfold oB; rw [e]; exact h
theorem atI_last {α : Type} (xs : List α) (v : α) : oB (xs ++ [v]) (-1) = some v := by
 have hl : (xs ++ [v]).length = xs.length + 1 := by simp
 have e : ixN (xs ++ [v]).length (-1) = some xs.length := by
  unfold ixN;rw [hl,if_neg (by decide),if_pos (by omega)]
  congr 1
  omega
 unfold oB
 rw [e]
 show (xs ++ [v])[xs.length]? = some v
 simp
def PlainIx (b : Expr) : Prop := ∀ o i,subscripted b false o i = operate [o,i] (getItem o i)
def IxR (X : Cx) (r : R2) : Prop :=
 ∀ (value slice : Expr) (aA : List (Addr × Obj)) (s : Shared) (σ : St) (H : Hp) (x y : V) (v u : Value) (Q : VK),aR X aA σ H s -> bD x v -> bD y u -> r x y H Q ->
  subscripted slice false v u = operate [v,u] (getItem v u) -> wpAny (model X.prog X.w) X.A (subscriptTail value slice v u) (EP X aA σ Q) X.xe s
def MtR (X : Cx) (id : String) (r : V -> List V -> Hp -> VK -> Prop) : Prop :=
 ∀ (aA : List (Addr × Obj)) (s : Shared) (σ : St) (H : Hp) (x : V) (xs : List V) (v : Value) (us : List Value) (Q : VK),aR X aA σ H s -> bD x v -> aX xs us -> r x xs H Q ->
  wpAny (model X.prog X.w) X.A (call (.builtin id) (v :: us)) (EP X aA σ Q) X.xe s
section
variable {a b : Expr} {ta tb : TE} {pos : Pos}
theorem cN {r : R2} (hr : IxR X r) (ha : PE X a ta) (hb : PE X b tb) (hs : PlainIx b) : PE X (.Subscript a b pos) (iC r ta tb) := by
 intro aA s σ H Q I h
 exact Subscript_ (binT ha hb I h λ v u s2 x y H2 I2 rx ry q => hr a b aA s2 σ H2 x y v u Q I2 rx ry q (hs _ _))
def nG (K : W.Frag) : R2 := λ x y H Q => ∃ p xs i v,x = .ref p /\ y = .int i /\ bC K H p xs /\ oB xs i = some v /\ Q v H
def rIxT (K : W.Frag) : R2 := λ x y H Q => ∃ p xs i v,x = .ref p /\ y = .int i /\ dM K H p xs /\ oB xs i = some v /\ Q v H
def rIxS : R2 := λ x y H Q => ∃ z i c,x = .str z /\ y = .int i /\ z.length <= sizeLine /\ oB z.cps.toList i = some c /\ Q (.str ⟨#[c]⟩) H
theorem bS : IxR X (nG X.K) := by
 intro value slice aA s σ H x y v u Q I rx ry h hs
 obtain ⟨p,xs,i,z,rfl,rfl,hq,he,q⟩ := h
 cases rx
 obtain ⟨t,rfl⟩ := ry
 obtain ⟨bJ,r,pl,hz⟩ := I.list hq
 obtain ⟨j,h1,h2,h3,h4,h5⟩ := atI_get he
 obtain ⟨w,ew,rw'⟩ := r.get h2
 have hl := r.length
 have hn := lZ
 have eO : EP X aA σ Q w s := ⟨z,H,I,rw',q⟩
 by_cases h0 : 0 <= i
 . have hj : i.toNat = j := by
    rw [seqIndex_of h0 h5] at h1;exact Option.some.inj h1
   exact item_listR pl.isList h0 (by omega) (by rw [hj]; simpa using ew) eO hs
 . have hj : (i + (bJ.toArray.size : Int)).toNat = j := by
    rw [seqIndex_neg (by omega) h4] at h1;rw [List.size_toArray,<- hl];exact Option.some.inj h1
   exact subscriptTail_builtinR (x := w) pl.isList.typeIs slot_list_getitem.lookup
    (wpAny_getItem_list_neg (Q := λ r s' => r = w /\ EP X aA σ Q r s') pl.isList (by omega) (by rw [List.size_toArray] <;> omega) (by omega) (by rw [hj]; simpa using ew) ⟨rfl,eO⟩) hs
theorem ix_tup : IxR X (rIxT X.K) := by
 intro value slice aA s σ H x y v u Q I rx ry h hs
 obtain ⟨p,xs,i,z,rfl,rfl,hq,he,q⟩ := h
 cases rx
 obtain ⟨t,rfl⟩ := ry
 obtain ⟨bJ,r,pl,hz⟩ := I.tuple hq
 obtain ⟨j,h1,h2,h3,h4,h5⟩ := atI_get he
 obtain ⟨w,ew,rw'⟩ := r.get h2
 have hl := r.length
 have hn := lZ
 have eO : EP X aA σ Q w s := ⟨z,H,I,rw',q⟩
 exact subscriptTail_builtinR (x := w) pl.typeIs slot_tuple_getitem.lookup
  (getItem_tuple (j := j) (Q := λ r s' => r = w /\ EP X aA σ Q r s') pl (by omega) (by omega) (by rw [List.size_toArray,<- hl]; exact h1) (by simpa using ew) ⟨rfl,eO⟩) hs
theorem ix_str : IxR X rIxS := by
 intro value slice aA s σ H x y v u Q I rx ry h hs
 obtain ⟨z,i,c,rfl,rfl,hz,he,q⟩ := h
 obtain ⟨t,rfl⟩ := rx
 obtain ⟨t',rfl⟩ := ry
 obtain ⟨j,h1,h2,h3,h4,h5⟩ := atI_get he
 have hl : z.cps.toList.length = z.length := by simp [Str.length]
 rw [hl] at h1 h4 h5
 have hn := lZ
 exact tail_any (typeIs_str s z t) slot_str_getitem.lookup (getItem_str (c := c) (by
  have e1 : decide (i < -(2 ^ 63 : Int)) = false := decide_eq_false (by omega);have e2 : decide (i ≥ 2 ^ 63) = false := decide_eq_false (by omega);rw [e1,e2,Bool.or_false]) (by rw [h1]; simpa using h2) ⟨.str ⟨#[c]⟩,H,I.tok _,⟨_,rfl⟩,q⟩) hs
theorem mapSeq_set (bJ : List Value) (n j : Nat) (u : Value) : Obj.mapSeq (·.setIfInBounds j u) { cls := .type "list",data := .seq bJ.toArray n } = { cls := .type "list",data := .seq (bJ.set j u).toArray n } := by
 simp [Obj.mapSeq]
theorem aR.lst {aA : List (Addr × Obj)} {σ : St} {H : Hp} {s : Shared} {p : Addr} {xs : List V} (I : aR X aA σ H s) (h : H p = some (.lst xs)) :
 ∃ (bJ : List Value) (n : Nat),aX xs bJ /\ s.heap.get? p = some { cls := .type "list",data := .seq bJ.toArray n } /\ xs.length <= sizeLine := by
 obtain ⟨z,bJ,n,r,e⟩ := I.hok p _ h
 exact ⟨bJ,n,r,e,z⟩
theorem aR.lstUpd {aA : List (Addr × Obj)} {σ : St} {H : Hp} {s : Shared} {p : Addr} {xs ys : List V} {bJ its' : List Value} {n n' : Nat} {f : Obj -> Obj} (I : aR X aA σ H s) (h : H p = some (.lst xs))
 (ho : s.heap.get? p = some { cls := .type "list",data := .seq bJ.toArray n }) (hf : f { cls := .type "list",data := .seq bJ.toArray n } = { cls := .type "list",data := .seq its'.toArray n' }) (r : aX ys its') (hz : ys.length <= sizeLine) (t : Nat) :
 aR X aA σ (aL H p (.lst ys)) { s with heap := s.heap.update p f,toks := t } := by
 have e : (s.heap.update p f).get? p = some { cls := .type "list",data := .seq its'.toArray n' } := by
  rw [Heap.get?_update_self f ho (by rw [hf] <;> rfl),hf]
 refine I.write (x := p) (e := p) (by rw [h]; trivial) (.inl rfl) (λ b u hb q => (Heap.get?_update_other _ _ (Ne.symm hb)).trans q) ⟨_,e⟩ ?_
 exact ⟨hz,its',n',r,e⟩
def rSetL : V -> V -> V -> Hp -> (Hp -> Prop) -> Prop := λ o i v H Q => ∃ p xs k j,o = .ref p /\ i = .int k /\ H p = some (.lst xs) /\ ixN xs.length k = some j /\ Q (aL H p (.lst (xs.set j v)))
theorem set_list : PSet X rSetL := by
 intro aA s σ H o i v ov iv u Q I ro ri rv h
 obtain ⟨p,xs,k,j,rfl,rfl,hp,hj,q⟩ := h
 cases ro
 obtain ⟨t,rfl⟩ := ri
 obtain ⟨bJ,n,r,ho,hz⟩ := I.lst hp
 obtain ⟨h1,h2,h3,h4⟩ := ixN_seq hj
 have hl := r.length
 have hn := lZ
 have I' : aR X aA σ (aL H p (.lst (xs.set j v))) { s with heap := s.heap.update p (Obj.mapSeq (·.setIfInBounds j u)) } :=
  I.lstUpd hp ho (mapSeq_set bJ n j u) (r.set rv j) (by rw [List.length_set]; exact hz) s.toks
 by_cases h0 : 0 <= k
 . have hk : k.toNat = j := by
    rw [seqIndex_of h0 h4] at h1;exact Option.some.inj h1
   exact PySem.W.ki_setAt ho h0 (by omega) (by rw [List.size_toArray,<- hl]; exact h4) (by rw [hk]; exact ⟨_,I',q⟩)
 . have hk : (k + (bJ.toArray.size : Int)).toNat = j := by
    rw [seqIndex_neg (by omega) h3] at h1;rw [List.size_toArray,<- hl];exact Option.some.inj h1
   exact PySem.W.ki_setBack ho (by omega) (by rw [List.size_toArray,<- hl]; exact h3) (by omega) (by rw [hk]; exact ⟨_,I',q⟩)
theorem slice_bounds (lo hi : Option Int) (n : Nat) : (sliceBounds lo hi none n).1 = ((HT.sIx n 0 lo : Nat) : Int) /\ (sliceBounds lo hi none n).2.1 = ((HT.sIx n n hi : Nat) : Int) /\ (sliceBounds lo hi none n).2.2 = 1 := by
 refine ⟨?_,?_,rfl⟩
 . cases lo with
   | none => simp [sliceBounds,HT.sIx]
   | some i =>
    simp only [sliceBounds,HT.sIx,Option.getD_none,show (1 : Int) > 0 by decide,if_true]
    by_cases h : i < 0
    . simp only [h,if_true] <;> omega
    . simp only [h,if_false] <;> omega
 . cases hi with
   | none => simp [sliceBounds,HT.sIx]
   | some i =>
    simp only [sliceBounds,HT.sIx,Option.getD_none,show (1 : Int) > 0 by decide,if_true]
    by_cases h : i < 0
    . simp only [h,if_true] <;> omega
    . simp only [h,if_false] <;> omega
theorem slicePick_cut (bJ : List Value) (lo hi : Option Int) : slicePick bJ.toArray lo hi none = ((bJ.drop (HT.sIx bJ.length 0 lo)).take (HT.sIx bJ.length bJ.length hi - HT.sIx bJ.length 0 lo)).toArray := by
 obtain ⟨h1,h2,h3⟩ := slice_bounds lo hi bJ.toArray.size
 unfold slicePick
 rw [h1,h2,h3]
 simp only [sliceRange_one,pick_run,List.size_toArray] <;> rfl
def rSlL (K : W.Frag) : V -> Option Int -> Option Int -> Hp -> VK -> Prop := λ x lo hi H Q => ∃ a xs,x = .ref a /\ bC K H a xs /\ ∀ p,H p = none -> Q (.ref p) (aL H p (.lst (cutV xs lo hi)))
theorem kZ : SlR X (rSlL X.K) := by
 intro aA s σ H x v vl vu lo hi sl Q I rx hs pl pu h
 obtain ⟨a,xs,rfl,hx,q⟩ := h
 cases rx
 obtain ⟨bJ,r,ht,hz⟩ := I.list hx
 have cE := r.length
 refine ⟨"list",_,slot_list_getitem.lookup,ht.isList.typeIs,?_⟩
 refine wpAny_getItem_list_slice ht.isList hs pl pu .none (by simp) ?_ (by rw [List.size_toArray] <;> omega)
 rw [slicePick_cut,<- cE]
 refine ⟨.ref s.heap.objs.size,_,I.laid (t' := s.toks) (o := .lst (cutV xs lo hi)) (λ b ob q => Heap.get?_push_of_some _ q) (Nat.le_refl _) ?_,rfl,q _ (I.hok.fresh (Nat.le_refl _))⟩
 exact ⟨Nat.le_trans (qT xs lo hi) hz,_,0,(r.drop (HT.sIx xs.length 0 lo)).take (HT.sIx xs.length xs.length hi - HT.sIx xs.length 0 lo),Heap.get?_push_size _ rfl⟩
def pC : V -> Bool
 | .non => true
 | .bl _ => true
 | .int _ => true
 | .str _ => true
 | _ => false
def eqV : V -> V -> Bool
 | .non,.non => true
 | .bl a,.bl b => a == b
 | .bl a,.int b => (if a then 1 else 0) == b
 | .int a,.bl b => a == (if b then 1 else 0)
 | .int a,.int b => a == b
 | .str a,.str b => a == b
 | _,_ => false
theorem eqAt_V {A : Around} {s : Shared} {y x : V} {u v : Value} (ry : bD y u) (rx : bD x v) (fy : pC y = true) (fx : pC x = true) : SeqAt.EqAt A s u v (eqV y x) := by
 cases y with
 | non =>
  cases ry;cases x with
  | non => cases rx; exact SeqAt.EqAt.same _
  | bl b => cases rx; exact SeqAt.EqAt.none_bool b
  | int b => obtain ⟨t,rfl⟩ := rx; exact SeqAt.EqAt.none_int b t
  | str b => obtain ⟨t,rfl⟩ := rx; exact SeqAt.EqAt.none_str b t
  | _ => exact absurd (show false = true from fx) Bool.false_ne_true
 | bl a =>
  cases ry;cases x with
  | non => cases rx; exact SeqAt.EqAt.bool_none a
  | bl b => cases rx; exact SeqAt.EqAt.bool_bool a b
  | int b => obtain ⟨t,rfl⟩ := rx; exact SeqAt.EqAt.bool_int a b t
  | str b => obtain ⟨t,rfl⟩ := rx; exact SeqAt.EqAt.bool_str a b t
  | _ => exact absurd (show false = true from fx) Bool.false_ne_true
 | int a =>
  obtain ⟨t',rfl⟩ := ry;cases x with
  | non => cases rx; exact SeqAt.EqAt.int_none a t'
  | bl b => cases rx; exact SeqAt.EqAt.int_bool a t' b
  | int b => obtain ⟨t,rfl⟩ := rx; exact SeqAt.EqAt.int_int a t' b t
  | str b => obtain ⟨t,rfl⟩ := rx; exact SeqAt.EqAt.int_str a t' b t
  | _ => exact absurd (show false = true from fx) Bool.false_ne_true
 | str a =>
  obtain ⟨t',rfl⟩ := ry;cases x with
  | non => cases rx; exact SeqAt.EqAt.str_none a t'
  | bl b => cases rx; exact SeqAt.EqAt.str_bool a t' b
  | int b => obtain ⟨t,rfl⟩ := rx; exact SeqAt.EqAt.str_int a t' b t
  | str b => obtain ⟨t,rfl⟩ := rx; exact SeqAt.EqAt.str_str a t' b t
  | _ => exact absurd (show false = true from fx) Bool.false_ne_true
 | _ => exact absurd (show false = true from fy) Bool.false_ne_true
def eqU (x : V) (u : Value) : Bool := match u with
 | .none => eqV .non x
 | .bool b => eqV (.bl b) x
 | .int i _ => eqV (.int i) x
 | .str z _ => eqV (.str z) x
 | _ => false
theorem eqU_of {x y : V} {u : Value} (r : bD y u) (f : pC y = true) : eqU x u = eqV y x := by
 cases y with
 | non => cases r; rfl
 | bl b => cases r; rfl
 | int i => obtain ⟨t,rfl⟩ := r; rfl
 | str z => obtain ⟨t,rfl⟩ := r; rfl
 | _ => exact absurd (show false = true from f) Bool.false_ne_true
theorem oO {x : V} : ∀ {xs : List V} {us : List Value},aX xs us -> xs.all pC = true -> us.any (eqU x) = xs.any λ y => eqV y x
 | _,_,.nil,_ => rfl
 | y :: xs,u :: us,.cons r t,f => by
  rw [List.all_cons,Bool.and_eq_true] at f;rw [List.any_cons,List.any_cons,eqU_of r f.1,oO t f.2]
theorem mB {A : Around} {s : Shared} {x : V} {v : Value} (rx : bD x v) (fx : pC x = true) : ∀ {xs : List V} {us : List Value},aX xs us -> xs.all pC = true -> ∀ u ∈ us,SeqAt.EqAt A s u v (eqU x u)
 | _,_,.nil,_ => λ u hu => by cases hu
 | y :: xs,u :: us,.cons r t,f => λ u' hu => by
  rw [List.all_cons,Bool.and_eq_true] at f
  rcases List.mem_cons.mp hu with rfl | hu
  . rw [eqU_of r f.1]; exact eqAt_V r rx f.1 fx
  . exact mB rx fx t f.2 u' hu
def inV (x : V) (xs : List V) : Bool := xs.any λ y => eqV y x
def rIn (K : W.Frag) (neg : Bool) : R2 := λ x y H Q => ∃ p xs,y = .ref p /\ (bC K H p xs \/ dM K H p xs) /\ pC x = true /\ xs.all pC = true /\ Q (.bl (if neg then !inV x xs else inV x xs)) H
theorem mI : pD X (compareOp .In) (rIn X.K false) := by
 intro aA s σ H x y v u Q I rx ry h
 obtain ⟨p,xs,rfl,hq,fx,fs,q⟩ := h
 cases ry
 rcases hq with hq | hq
 . obtain ⟨bJ,r,pl,hz⟩ := I.list hq;refine SeqAt.in_listAt (eqU x) pl.isList (λ w hw => mB rx fx r fs w (by simpa using hw)) ⟨.bl _,H,I,rfl,?_⟩;rw [show bJ.toArray.any (eqU x) = bJ.any (eqU x) by simp,oO r fs];exact q
 . obtain ⟨bJ,r,pl,hz⟩ := I.tuple hq;refine SeqAt.in_tupleAt (eqU x) pl (λ w hw => mB rx fx r fs w (by simpa using hw)) ⟨.bl _,H,I,rfl,?_⟩;rw [show bJ.toArray.any (eqU x) = bJ.any (eqU x) by simp,oO r fs];exact q
theorem fC : pD X (compareOp .NotIn) (rIn X.K true) := by
 intro aA s σ H x y v u Q I rx ry h
 obtain ⟨p,xs,rfl,hq,fx,fs,q⟩ := h
 cases ry
 rcases hq with hq | hq
 . obtain ⟨bJ,r,pl,hz⟩ := I.list hq;refine SeqAt.notIn_listAt (eqU x) pl.isList (λ w hw => mB rx fx r fs w (by simpa using hw)) ⟨.bl _,H,I,rfl,?_⟩;rw [show bJ.toArray.any (eqU x) = bJ.any (eqU x) by simp,oO r fs];exact q
 . obtain ⟨bJ,r,pl,hz⟩ := I.tuple hq;refine SeqAt.notIn_tupleAt (eqU x) pl (λ w hw => mB rx fx r fs w (by simpa using hw)) ⟨.bl _,H,I,rfl,?_⟩;rw [show bJ.toArray.any (eqU x) = bJ.any (eqU x) by simp,oO r fs];exact q
theorem cQ : dP X (.builtin "len") (λ xs H Q => ∃ p ys,xs = [.ref p] /\ (bC X.K H p ys \/ dM X.K H p ys) /\ Q (.int ys.length) H) := by
 intro aA s σ H xs us Q I r h
 obtain ⟨p,ys,rfl,hq,q⟩ := h
 obtain ⟨u,rfl,rx⟩ := kF r
 cases rx
 have hn := lZ
 rcases hq with hq | hq
 . obtain ⟨bJ,r',pl,hz⟩ := I.list hq;have cE := r'.length;exact Calls.call_len_list pl.isList (by simp only [List.size_toArray] <;> omega) ⟨.int ys.length,H,I.tok _,⟨s.toks + 1,by rw [List.size_toArray,cE]⟩,q⟩
 . obtain ⟨bJ,r',pl,hz⟩ := I.tuple hq;have cE := r'.length;exact len_tuple pl (by simp only [List.size_toArray] <;> omega) ⟨.int ys.length,H,I.tok _,⟨s.toks + 1,by rw [List.size_toArray,cE]⟩,q⟩
theorem lF : dP X (.builtin "len") (λ xs H Q => ∃ z,xs = [.str z] /\ z.length <= sizeLine /\ Q (.int z.length) H) := by
 intro aA s σ H xs us Q I r h
 obtain ⟨z,rfl,hz,q⟩ := h
 obtain ⟨u,rfl,t,rfl⟩ := kF r
 have hn := lZ
 exact len_str (by omega) ⟨.int z.length,H,I.tok _,⟨_,rfl⟩,q⟩
theorem dP.or {f : Value} {r r' : List V -> Hp -> VK -> Prop} (h : dP X f r) (h' : dP X f r') : dP X f (λ xs H Q => r xs H Q \/ r' xs H Q) := by
 intro aA s σ H xs us Q I rs q
 rcases q with q | q
 . exact h aA s σ H xs us Q I rs q
 . exact h' aA s σ H xs us Q I rs q
theorem eB : dP X (.type "list") (λ xs H Q => ∃ p ys,xs = [.ref p] /\ (bC X.K H p ys \/ dM X.K H p ys) /\ ∀ l,H l = none -> Q (.ref l) (aL H l (.lst ys))) := by
 intro aA s σ H xs us Q I r h
 obtain ⟨p,ys,rfl,hq,q⟩ := h
 obtain ⟨u,rfl,rx⟩ := kF r
 cases rx
 have eO : ∀ (bJ : List Value),aX ys bJ -> ys.length <= sizeLine -> ∀ (h' : Heap) (c' : Nat),(∀ b o',s.heap.get? b = some o' -> h'.get? b = some o') ->
  h'.get? s.heap.objs.size = some { cls := .type "list",dict := none,data := .seq bJ.toArray c',slots := #[] } -> EP X aA σ Q (.ref s.heap.objs.size) { s with heap := h' } := λ bJ r' hz h' c' kp e =>
  ⟨.ref s.heap.objs.size,_,I.laid (t' := s.toks) kp (Nat.le_refl _) (show bZ X.prog X.w _ h' _ (.lst ys) from ⟨hz,bJ,c',r',e⟩),rfl,q _ (I.hok.fresh (Nat.le_refl _))⟩
 rcases hq with hq | hq
 . obtain ⟨bJ,r',pl,hz⟩ := I.list hq;have cE := r'.length;obtain ⟨o,ho,hc,n,hd⟩ := pl.isList;exact call_list_seq p (.inl rfl) ho hc hd (λ h' c' kp e => eO bJ r' hz h' c' kp e) (by simp only [List.size_toArray] <;> omega)
 . obtain ⟨bJ,r',pl,hz⟩ := I.tuple hq;have cE := r'.length;obtain ⟨o,ho,hc,n,hd⟩ := pl;exact call_list_seq p (.inr rfl) ho hc hd (λ h' c' kp e => eO bJ r' hz h' c' kp e) (by simp only [List.size_toArray] <;> omega)
theorem jS : dP X (.type "tuple") (λ xs H Q => ∃ p ys,xs = [.ref p] /\ ((bC X.K H p ys /\ ∀ l,H l = none -> Q (.ref l) (aL H l (.tup ys))) \/ (dM X.K H p ys /\ Q (.ref p) H))) := by
 intro aA s σ H xs us Q I r h
 obtain ⟨p,ys,rfl,h⟩ := h
 obtain ⟨u,rfl,rx⟩ := kF r
 cases rx
 rcases h with ⟨hq,q⟩ | ⟨hq,q⟩
 . obtain ⟨bJ,r',pl,hz⟩ := I.list hq;have cE := r'.length;refine call_tuple_list pl.isList (λ h' kp => ?_) (by simp only [List.size_toArray] <;> omega);have I1 : aR X aA σ H { s with heap := h' } := I.kept (t' := s.toks) kp;have I2 : aR X aA σ (aL H h'.objs.size (.tup ys)) { s with heap := h'.push { cls := .type "tuple",data := .seq bJ.toArray } } :=
    I1.laid (t' := s.toks) (λ b o e => Heap.get?_push_of_some _ e) (Nat.le_refl _) (show bZ X.prog X.w _ _ _ (.tup ys) from ⟨hz,bJ,r',IsTup.new _ _⟩)
   exact ⟨.ref h'.objs.size,_,I2,rfl,q _ (I1.hok.fresh (Nat.le_refl _))⟩
 . obtain ⟨bJ,r',pl,hz⟩ := I.tuple hq;exact call_tuple_same pl ⟨.ref p,H,I,rfl,q⟩
def tyV (K : W.Frag) (T : String) (x : V) (H : Hp) : Prop := match x with
 | .str _ => T = "str"
 | .int _ => T = "int"
 | .ref p => (T = "list" /\ ∃ xs,bC K H p xs) \/ (T = "tuple" /\ ∃ o,K.lookup p = some o /\ o.cls = .type "tuple" /\ o.dict = none) \/
  (T = "dict" /\ ((∃ aO,H p = some (.dK aO)) \/ ∃ aO,H p = some (.dT aO))) \/ (T = "set" /\ ∃ S n,H p = some (.set S n))
 | _ => False
theorem tyV_is {aA : List (Addr × Obj)} {σ : St} {H : Hp} {s : Shared} {T : String} {x : V} {v : Value} (I : aR X aA σ H s) (r : bD x v) (ty : tyV X.K T x H) :
 s.TypeIs v T /\ ∀ a,v = .ref a -> ∃ ob,s.heap.get? a = some ob /\ ob.dict = none := by
 cases x with
 | str z =>
  obtain ⟨t,rfl⟩ := r;cases (show T = "str" from ty);exact ⟨typeIs_str s z t,λ _ e => nomatch e⟩
 | int i =>
  obtain ⟨t,rfl⟩ := r;cases (show T = "int" from ty);exact ⟨typeIs_int s i t,λ _ e => nomatch e⟩
 | ref p =>
  cases r
  rcases ty with ⟨rfl,xs,hq⟩ | ⟨rfl,o,hk,hc,hd⟩ | ⟨rfl,hk⟩ | ⟨rfl,S,n,hk⟩
  . obtain ⟨bJ,_,pl,_⟩ := I.list hq;refine ⟨pl.isList.typeIs,λ a e => ?_⟩;cases e;obtain ⟨o,n,e,c,hd,_⟩ := pl;exact ⟨o,e,hd⟩
  . refine ⟨⟨o,I.kIn p o hk,hc⟩,λ a e => ?_⟩;cases e;exact ⟨o,I.kIn _ o hk,hd⟩
  . have z : ∃ o,s.heap.get? p = some o /\ o.ExactDict := by
     rcases hk with ⟨aO,hk⟩ | ⟨aO,hk⟩
     . obtain ⟨_,_,_,_,o,_,_,e,ex,_⟩ := I.hok p _ hk;exact ⟨o,e,ex⟩
     . obtain ⟨_,_,_,_,o,_,_,e,ex,_⟩ := I.hok p _ hk;exact ⟨o,e,ex⟩
    obtain ⟨o,e,ex⟩ := z;refine ⟨⟨o,e,ex.1⟩,λ a e2 => ?_⟩;cases e2;exact ⟨o,e,ex.2.1⟩
  . obtain ⟨o,_,_,_,e,ex,_⟩ := I.hok p _ hk;refine ⟨⟨o,e,ex.1⟩,λ a e2 => ?_⟩;cases e2;exact ⟨o,e,ex.2.1⟩
 | _ => exact False.elim ty
def tBM0 (K : W.Frag) (T : String) (r : V -> List V -> Hp -> VK -> Prop) (to : TE) : TE := λ σ H Q => to σ H λ x H1 => tyV K T x H1 /\ r x [] H1 Q
def tBM (K : W.Frag) (T : String) (r : V -> List V -> Hp -> VK -> Prop) (to : TE) (t : TA) : TE := λ σ H Q => to σ H λ x H1 => tyV K T x H1 /\ t σ H1 λ xs H2 => r x xs H2 Q
variable {o e : Expr} {es : List Expr} {to : TE} {t : TA} {name : Str} {kA gZ : Pos} {T id : String} {r : V -> List V -> Hp -> VK -> Prop}
theorem pe_bm0 (pa : PlainAttrs T) (slot : Slot T name id) (hty : typeOf (.builtin id) = pure (.type "method_descriptor")) (hm : MtR X id r) (ho : PE X o to)
 (hbase : attributeBase o name X.env (eval o X.env) = eval o X.env := by rfl) (hline : (kA.endLine == gZ.line) = true := by rfl) : PE X (.Call (.Attribute o name kA) [] [] gZ) (tBM0 X.K T r to) := by
 intro aA s σ H Q I h
 refine wpAny_Call_method0_late hbase hline (cP (ho aA s σ H _ I h) λ v s1 ⟨x,H1,I1,r1,ty,q1⟩ => ?_)
 obtain ⟨h1,h2⟩ := tyV_is I1 r1 ty
 exact ⟨T,id,pa,slot,hty,h1,h2,Calls.callWith_builtin rfl (PySem.evalArgs_none (hm aA s1 σ H1 x [] v [] Q I1 r1 .nil q1))⟩
theorem pA (pa : PlainAttrs T) (slot : Slot T name id) (hty : typeOf (.builtin id) = pure (.type "method_descriptor")) (hm : MtR X id r) (ho : PE X o to) (ha : PA X (e :: es) t)
 (hbase : attributeBase o name X.env (eval o X.env) = eval o X.env := by rfl)
 (hfew : ((backTo gZ (starEach (e :: es) X.env)).all (λ x => !x.1) && (backToKw gZ (keywordEach [] X.env)).all (λ x => x.1.isSome)
  && decide ((e :: es).length + ([] : List Keyword).length + (if ([] : List Keyword).isEmpty then 0 else 1) < 30)) = true := by rfl)
 (hline : (kA.endLine == gZ.line) = true := by rfl) (hs : starEach (e :: es) X.env = (false,eval e X.env) :: starEach es X.env := by rfl) (hplain : (backTo gZ (starEach es X.env)).any (·.1) = false := by rfl) :
 PE X (.Call (.Attribute o name kA) (e :: es) [] gZ) (tBM X.K T r to t) := by
 intro aA s σ H Q I h
 refine wpAny_Call_method_late hbase hfew hline rfl (cP (ho aA s σ H _ I h) λ v s1 ⟨x,H1,I1,r1,ty,q1⟩ => ?_)
 obtain ⟨h1,h2⟩ := tyV_is I1 r1 ty
 refine ⟨T,id,pa,slot,hty,h1,h2,?_⟩
 have hA := ha gZ aA s1 σ H1 _ I1 q1
 rw [hs] at hA ⊢
 refine Calls.callWith_builtin (by show (false || (backTo gZ (starEach es X.env)).any (·.1)) = false; rw [hplain] <;> rfl) (Calls.evalArgs_plain ?_)
 exact cP hA λ us s2 ⟨vs,H2,I2,r2,q2⟩ => hm aA s2 σ H2 x vs v us Q I2 r1 r2 q2
/- xs.append(e),list.index on a module's tuple .. are MtR facts of 06m -/
end
def MtM (X : Cx) (id : String) (r : V -> List V -> Hp -> VK -> Prop) : Prop :=
 ∀ (aA : List (Addr × Obj)) (s : Shared) (σ : St) (H : Hp) (x : V) (xs : List V) (v : Value) (us : List Value) (Q : VK),aR X aA σ H s -> bD x v -> aX xs us -> r x xs H Q ->
  wpAny (model X.prog X.w) X.A (call (.builtin id) (v :: us)) (EP X aA σ Q) X.xe s
theorem aX.one : ∀ {x : V} {us : List Value},aX [x] us -> ∃ u,us = [u] /\ bD x u
 | _,_,.cons r .nil => ⟨_,rfl,r⟩
theorem aX.two : ∀ {x y : V} {us : List Value},aX [x,y] us -> ∃ u v,us = [u,v] /\ bD x u /\ bD y v
 | _,_,_,.cons r (.cons q .nil) => ⟨_,_,rfl,r,q⟩
theorem aX.reverse {xs : List V} {us : List Value} (h : aX xs us) : aX xs.reverse us.reverse := by
 induction h with
 | nil => exact .nil
 | cons r t ih => rw [List.reverse_cons,List.reverse_cons]; exact aX.append ih (.cons r .nil)
section
variable {aA : List (Addr × Obj)} {σ : St} {H : Hp} {s : Shared} {l b : Addr} {xs ys zs : List V}
theorem aR.lset {bJ its' : List Value} {n : Nat} {f : Array Value -> Array Value} {t' : Nat} (I : aR X aA σ H s) (hH : H l = some (.lst xs))
 (e : s.heap.get? l = some { cls := .type "list",data := .seq bJ.toArray n }) (hf : f bJ.toArray = its'.toArray) (hv : aX ys its') (hz : ys.length <= sizeLine) :
 aR X aA σ (aL H l (.lst ys)) { s with heap := s.heap.update l (Obj.mapSeq f),toks := t' } := by
 have q := PySem.IsL.update e f
 rw [hf] at q
 refine I.write (x := l) (e := l) (by rw [hH]; exact trivial) (.inl rfl) (λ b' u hb hu => (Heap.get?_update_other s.heap (Obj.mapSeq f) (Ne.symm hb)).trans hu) ⟨_,q⟩ ?_
 exact ⟨hz,its',_,hv,q⟩
theorem aR.lnew {bJ : List Value} {t' : Nat} (I : aR X aA σ H s) (hv : aX ys bJ) (hz : ys.length <= sizeLine) :
 aR X aA σ (aL H s.heap.objs.size (.lst ys)) { s with heap := s.heap.push { cls := .type "list",data := .seq bJ.toArray },toks := t' } :=
 I.laid (λ _ _ q => Heap.get?_push_of_some _ q) (Nat.le_refl _) ⟨hz,bJ,0,hv,Heap.get?_push_size _ rfl⟩
theorem aR.fresh (I : aR X aA σ H s) : H s.heap.objs.size = none := I.hok.fresh (Nat.le_refl _)
theorem aR.lstM (I : aR X aA σ H s) (hH : H l = some (.lst xs)) : xs.length <= sizeLine /\ ∃ (bJ : List Value) (n : Nat),aX xs bJ /\ xs.length = bJ.length /\ s.heap.get? l = some { cls := .type "list",data := .seq bJ.toArray n } := by
 obtain ⟨z,bJ,n,r,e⟩ := I.hok l _ hH
 exact ⟨z,bJ,n,r,r.length,e⟩
theorem notLongL {n : Nat} (h : n <= sizeLine) : Builtin.List.listTooLong n = false := by
 unfold Builtin.List.listTooLong
 exact decide_eq_false (by omega)
end
def rAppend : V -> List V -> Hp -> VK -> Prop := λ x vs H Q => ∃ l xs y,x = .ref l /\ vs = [y] /\ H l = some (.lst xs) /\ xs.length < sizeLine /\ Q .non (aL H l (.lst (xs ++ [y])))
theorem iS : MtM X "list.append" rAppend := by
 intro aA s σ H x vs v us Q I rx rv h
 obtain ⟨l,xs,y,rfl,rfl,hH,hz,q⟩ := h
 cases rx
 obtain ⟨u,rfl,ru⟩ := rv.one
 obtain ⟨z,bJ,n,r,hl,e⟩ := I.lstM hH
 refine call_meets F.slot_list_append ⟨_,e,rfl⟩ F.entry_list_append (F.args_list_append_2 _ _) (PySem.list_append l bJ.toArray n u (by rw [List.size_toArray]; omega)) ⟨e,?_⟩
 refine ⟨.non,_,I.lset (its' := bJ ++ [u]) hH e (by simp) (r.append (.cons ru .nil)) ?_,rfl,q⟩
 rw [List.length_append,List.length_singleton]
 omega
def rExtend : V -> List V -> Hp -> VK -> Prop := λ x vs H Q => ∃ l b xs zs,x = .ref l /\ vs = [.ref b] /\ H l = some (.lst xs) /\ H b = some (.lst zs) /\ xs.length + zs.length <= sizeLine /\ Q .non (aL H l (.lst (xs ++ zs)))
theorem mt_extend : MtM X "list.extend" rExtend := by
 intro aA s σ H x vs v us Q I rx rv h
 obtain ⟨l,b,xs,zs,rfl,rfl,hH,hB,hz,q⟩ := h
 cases rx
 obtain ⟨u,rfl,ru⟩ := rv.one
 cases ru
 obtain ⟨z,bJ,n,r,hl,e⟩ := I.lstM hH
 obtain ⟨z2,lM,n2,r2,gK,e2⟩ := I.lstM hB
 have hsz : bJ.toArray.size + lM.toArray.size <= sizeLine := by rw [List.size_toArray,List.size_toArray]; omega
 have hlong : ¬ (!bJ.toArray.isEmpty && Builtin.List.listTooLong (bJ.toArray.size + lM.toArray.size)) = true := by
  rw [notLongL hsz,Bool.and_false];exact Bool.false_ne_true
 refine call_meets F.slot_list_extend ⟨_,e,rfl⟩ F.entry_list_extend (F.args_list_extend_2 _ _)
  (AutoSeq1.list_extend_list_list_0 l bJ.toArray n b lM.toArray n2 hlong (by rw [List.size_toArray]; omega) (by omega)) ⟨e,e2,?_⟩
 refine ⟨.non,_,I.lset (its' := bJ ++ lM) hH e (by simp) (r.append r2) ?_,rfl,q⟩
 rw [List.length_append]
 omega
def rCat : R2 := λ x y H Q => ∃ l b xs zs,x = .ref l /\ y = .ref b /\ H l = some (.lst xs) /\ H b = some (.lst zs) /\ xs.length + zs.length <= sizeLine /\ ∀ p,H p = none -> Q (.ref p) (aL H p (.lst (xs ++ zs)))
theorem op_cat : pD X (binaryOp .Add) rCat := by
 intro aA s σ H x y v u Q I rx ry h
 obtain ⟨l,b,xs,zs,rfl,rfl,hH,hB,hz,q⟩ := h
 cases rx
 cases ry
 obtain ⟨z,bJ,n,r,hl,e⟩ := I.lstM hH
 obtain ⟨z2,lM,n2,r2,gK,e2⟩ := I.lstM hB
 refine PySem.P.add_list e e2 ?_ (by rw [List.size_toArray,List.size_toArray]; omega)
 have ea : bJ.toArray ++ lM.toArray = (bJ ++ lM).toArray := by simp
 rw [ea]
 exact ⟨.ref _,_,I.lnew (t' := s.toks) (r.append r2) (by rw [List.length_append]; omega),rfl,q _ I.fresh⟩
section
variable {prog : Program} {w : World} {A : Around} {E : Value -> Shared -> Prop} {s : Shared}
end
end L2
namespace Att
open PySem PySem.W PySem.Calls PyProof.Rows
theorem qX {P : Params} {h : Heap} : ∀ (ns : List Int) (vs : List Value),WellAll P h vs (ns.map WData.int) -> IntsAre vs ns := by
 intro ns
 induction ns with
 | nil =>
  intro vs w;rw [List.map_nil] at w;cases w;exact .nil
 | cons n ns ih =>
  intro vs w;rw [List.map_cons] at w;cases w with
  | cons a b =>
   cases a;exact .cons _ _ (ih _ b)
theorem script_of {l : OpenLaw} {n : Nat} (hn : l.most = some n) {P : Params} {h : Heap} {args : List WData} {vals : List Value}
 (hpre : l.row.toRowW.claim.pre args = true) (hwl : WellAll P h vals args) :
 ∃ a vs ns,vals = [Value.ref a] /\ args = [WData.list (ns.map WData.int)] /\ h.get? a = some { cls := .type "list",data := .seq vs.toArray } /\ IntsAre vs ns /\ ns.length <= n := by
 have hsh : WShape.hasAll [] args [.list .int] = true := (pre_splitW hpre).1
 have hc : l.pre.holds [] { args := args } = true := (pre_splitW hpre).2
 obtain ⟨d,r,rfl,h1,h2⟩ := hasAllW_cons hsh
 obtain rfl := hasAllW_nil h2
 obtain ⟨xs,rfl,h3⟩ := hasW_list h1
 obtain ⟨ns,rfl⟩ := items_int h3
 have cE : ns.length <= n := by
  unfold OpenLaw.pre at hc;have h4 : (WTm.not (.lt (.lit (.int (n : Int))) (.len (.arg 0)))).holds [] { args := [.list (ns.map .int)] } = true := by
   have h4 := (holds_andW hc).1;rw [hn] at h4;exact h4
  have h5 := condW_of h4 (w_not (w_lt w_lit (w_len_list (w_arg rfl))));rw [List.length_map] at h5;refine Nat.le_of_not_lt λ q => ?_;have q' : (n : Int) < ((ns.length : Nat) : Int) := by omega
  first
   | (rw [decide_eq_true q'] at h5; exact absurd h5 (by decide))
   | (simp at h5; omega)
 cases hwl with
 | cons w1 w2 =>
  cases w2;cases w1 with
  | list ho hall => exact ⟨_,_,ns,rfl,rfl,ho,qX ns _ hall,cE⟩
theorem post_true (l : OpenLaw) (args : List WData) : l.row.toRowW.claim.post args (.bool true) args = true :=
 postW_of (r := l.row.toRowW) (X := (true == true))
  (show WShape.has [] (.bool true) .bool = true by first | rfl | decide | simp [WShape.has,WShape.arms,WShape.armsAll])
  (show (WTm.eq .res (.lit (.bool true))).value [] { args := args,res := some (.bool true),after := args } = some (.bool (true == true)) from w_eq_bool (w_res rfl) w_lit) rfl
theorem attach_call {l : OpenLaw} {n : Nat} {q : Program} {loose : List Str} {XP : (Str -> Option Value) -> Heap -> Prop} {YP : World -> Heap -> Prop} {d : DefRec}
 (hn : l.most = some n) (hdf : d.params.defaults = [])
 (call : ∀ (w : World) (s₀ s₁ : Shared) (mg mb : Str -> Option Value) (fa : Addr) (o : Obj) (pm cd lV : Value) (a : Addr) (vs : List Value) (ns : List Int),
  Ground q loose [] XP w s₀ mg mb s₁.heap -> YP w s₁.heap ->
  s₁.heap.get? fa = some o -> o.data = .func (docDef d.name d.params d.body d.scope pm cd lV) -> s₁.heap.CodeRec cd d.name -> mg d.name = some (.ref fa) ->
  s₁.heap.get? a = some { cls := .type "list",data := .seq vs.toArray } -> IntsAre vs ns -> ns.length <= n -> s₁.gens = #[] ->
  codeAny (model l.prog w) callerA (.call (.ref fa) ⟨[.ref a],[]⟩) (λ r s' => r = .ok (.ret (.bool true)) /\ OldK s₁.heap s'.heap /\ s'.os = s₁.os /\ AllBare s'.gens) s₁) :
 WalkO q loose XP YP l.row.toRowW d [] (λ f vs => PySem.call f vs) := by
 intro w s₀ s₁ mg mb G Y fa o pm cd lV dV kV ho hd qR hD hmg hg args vals as hpre hlay hrd hwl hlo
 obtain rfl : dV = .none := Dflts.none hD hdf
 obtain rfl : kV = .none := Dflts.noKw hD
 obtain ⟨a,vs,ns,rfl,rfl,hobj,hints,cE⟩ := script_of hn hpre hwl
 refine enter_call (codeAny_mono (call w s₀ s₁ mg mb fa o pm cd lV a vs ns G Y ho (fd_plain hd) qR hmg hobj hints cE hg) λ r s' hq => ?_)
 obtain ⟨rfl,h2,h3,h4⟩ := hq
 exact ⟨.inl ⟨.bool true,.bool true,[],rfl,λ _ => rfl,.bool true,post_true l _,λ _ => ⟨List.Pairwise.nil,λ _ hm => (nomatch hm)⟩⟩,h2,h3,h4⟩
section
variable {prog : Program} {w : World} {A : Around} {E : Value -> Shared -> Prop} {s : Shared} {K : Frag}
def ledger (h : Heap) (L d : Addr) : List (Addr × Obj) := (List.range h.objs.size).filterMap λ a => if a = L \/ a = d then none else (h.get? a).map λ o => (a,o)
end
end Att
namespace L2
open PySem PySem.Spec PyProof.Rows
theorem pI : ∀ {vs : List Value} {ns : List Int},IntsAre vs ns -> aX (ns.map V.int) vs
 | _,_,.nil => .nil
 | _,_,.cons n t h => .cons ⟨t,rfl⟩ (pI h)
def inClass (s : Stmt) (j : Nat) : Stmt := match s with
 | .ClassDef _ _ _ body _ _ _ _ _ _ _ => body.getD j (.Pass ⟨0,0,0,0⟩)
 | _ => .Pass ⟨0,0,0,0⟩
def dZ (s : Stmt) : Arguments := match s with
 | .FunctionDef _ a _ _ _ _ _ _ _ _ => a
 | _ => { posonlyargs := [],args := [],vararg := none,kwonlyargs := [],kw_defaults := [],kwarg := none,defaults := [] }
def cL (s : Stmt) : List Stmt := match s with
 | .FunctionDef _ _ b _ _ _ _ _ _ _ => b
 | _ => []
def aG (s : Stmt) : Scope := match s with
 | .FunctionDef _ _ _ _ _ _ sc _ _ _ => sc
 | _ => { kind := .function,names := [],isGenerator := false,isCoroutine := false }
abbrev gO : CXT := λ _ _ _ _ _ _ => False
abbrev E0 : XK := λ _ _ _ => False
theorem bE {X : Cx} : jP gO X E0 := λ _ _ _ _ _ _ _ h => h.elim
structure jY (K : W.Frag) (x qual : Str) (st : Stmt) (f : Addr) (fd : FuncData) : Prop where
 ex : ∃ (oc : Value) (od : Option Addr) (kV lV pm : Value) (an : Option Addr) (cdv ct : Value) (osl : Array (Option Value)),
  fd = PySem.W.fnOf x qual (dZ st) (cL st) (aG st) .none kV lV pm an cdv ct /\ K.lookup f = some ⟨oc,od,.func fd,osl⟩ /\ PySem.W.codeIn K cdv qual = true
 kp : W.keepIn K (.ref f) = true
section
variable {P : Program} {w : World} {K : W.Frag} {mg : Str -> Option Value} {base : Heap}
theorem jY.ok {x qual : Str} {st : Stmt} {f : Addr} {fd : FuncData} {N ps : List Str} {k : Nat} {sp : Sp} (F : jY K x qual st f fd) (S : bI N ps (aG st)) (len : ∀ vs H Q E,sp vs H Q E -> vs.length = ps.length)
 (kH : ∀ (cdv : Value) (A : Around) (outer : List Env) (s : Shared) (H : Hp) (vs : List V) (Q : VK) (E : XK),dW k (A.deeper (envOfC qual (aG st) s.heap.objs.size f cdv)) -> sp vs H Q E ->
  ∃ t,PSs (cH gO P w K mg base N qual (aG st) f cdv A outer s H E).nox (cL st) t /\ t { nx := λ _ H' => Q .non H',rt := Q } (start N vs) H) : FnOk P w K mg base gO (k + 1) f fd ps sp := by
 obtain ⟨oc,od,kV,lV,pm,an,cdv,ct,osl,rfl,lk,qR⟩ := F.ex
 refine fn_of lk qR S len λ A outer s H vs Q E hr hsp => ?_
 obtain ⟨t,h,q⟩ := kH cdv A outer s H vs Q E hr hsp
 exact ⟨t,h.nox,q⟩
theorem jY.binds {x qual : Str} {st : Stmt} {f : Addr} {fd : FuncData} {ps : List Str} (F : jY K x qual st f fd)
 (h : ∀ (kV lV pm : Value) (an : Option Addr) (cdv ct : Value) (us : List Value),us.length = ps.length -> bindArgs (PySem.W.fnOf x qual (dZ st) (cL st) (aG st) .none kV lV pm an cdv ct) ⟨us,[]⟩ = pure (ps.zip us)) : fG K fd ps [] := by
 obtain ⟨oc,od,kV,lV,pm,an,cdv,ct,osl,rfl,lk,qR⟩ := F.ex
 exact .all (h kV lV pm an cdv ct)
theorem pT {x qual : Str} {st : Stmt} {f : Addr} {oc : Value} {od an : Option Addr} {osl : Array (Option Value)} {kV lV pm cdv ct : Value} (l : K.lookup f = some ⟨oc,od,.func (PySem.W.fnOf x qual (dZ st) (cL st) (aG st) .none kV lV pm an cdv ct),osl⟩)
 (c : PySem.W.codeIn K cdv qual = true) (k : W.keepIn K (.ref f) = true) : jY K x qual st f (PySem.W.fnOf x qual (dZ st) (cL st) (aG st) .none kV lV pm an cdv ct) := ⟨⟨oc,od,kV,lV,pm,an,cdv,ct,osl,rfl,l,c⟩,k⟩
end
theorem iB {A : Around} {k : Nat} (hr : dW k A) : A.units + 1 < cLine := Nat.lt_of_le_of_lt (Nat.add_le_add_left (by decide : 1 <= 64) _) hr.units
theorem small1000 {n : Nat} (h : n <= 1000) : n < sizeLine := Nat.lt_of_le_of_lt h (by decide)
section
variable {X : Cx}
theorem pv (i : Nat) {x : Str} {pos : Pos} (hN : X.N[i]? = some x := by rfl) (hv : Vis X.env.scope x := by first | exact Or.inl rfl | exact Or.inr (Or.inl rfl) | exact Or.inr (Or.inr rfl)) (hd : (x == ("__debug__" : Str)) = false := by decide)
 (qR : (x == ("__classdict__" : Str)) = false := by decide) : PE X (.Name x pos) (aU i) := pe_var hN hv hd qR
end
theorem kL {A B : Prop} (h : B) : if false = true then A else B := by
 rw [if_neg Bool.false_ne_true]
 exact h
theorem iteT {A B : Prop} (h : A) : if true = true then A else B := by
 rw [if_pos rfl]
 exact h
theorem kW {c A B : Prop} [Decidable c] (h1 : c -> A) (h2 : ¬ c -> B) : if c then A else B := by
 by_cases h : c
 . rw [if_pos h];exact h1 h
 . rw [if_neg h];exact h2 h
def Same (H H' : Hp) : Prop := ∀ b o,H b = some o -> H' b = some o
theorem Same.refl (H : Hp) : Same H H := λ _ _ h => h
theorem Same.trans {H H1 H2 : Hp} (a : Same H H1) (b : Same H1 H2) : Same H H2 := λ c o h => b c o (a c o h)
theorem Same.free {H H' : Hp} (e : Same H H') {l : Addr} (h : H' l = Option.none) : H l = Option.none := by
 cases q : H l with
 | none => rfl
 | some o =>
  rw [e l o q] at h;cases h
theorem Same.seq {K : W.Frag} {H H' : Hp} {a : Addr} {xs : List V} (e : Same H H') (h : bC K H a xs) : bC K H' a xs := by
 rcases h with (h | ⟨o,h⟩) | h
 . exact .inl (.inl (e _ _ h))
 . exact .inl (.inr ⟨o,e _ _ h⟩)
 . exact .inr h
end L2
set_option maxHeartbeats 4000000
namespace L2
open PySem PySem.Spec PyProof.Rows
variable {X : Cx} {w : World} {A : Around} {E : Value -> Shared -> Prop} {s : Shared} {P : Program}
def PTs (X : Cx) (cs : List Expr) (t : TT) : Prop :=
 ∀ (aA : List (Addr × Obj)) (s : Shared) (σ : St) (H : Hp) (Q : Bool -> Hp -> Prop),aR X aA σ H s -> t σ H Q ->
  wpAny (model X.prog X.w) X.A (forIn cs true λ c r => if r = true then do let ok <- isTrue c X.env (eval c X.env); pure (ForInStep.yield ok) else pure (ForInStep.yield r)) (TP X aA σ Q) X.xe s
def fV : TT := λ _ H Q => Q true H
theorem dI {X : Cx} : PTs X [] fV := λ _ _ _ H _ I h => wpAny_tests_nil ⟨H,I,h⟩
theorem oW {X : Cx} {c : Expr} {t : TT} (h : PT X c t) : PTs X [c] t := λ aA s σ H Q I q => wpAny_tests_one (h aA s σ H Q I q)
theorem lQ {prog : Program} {w : World} {A : Around} {R : Result -> Shared -> Prop} {s : Shared} {kN qB cZ : Expr} {iR : List Expr} {scope : Scope} {pos : Pos} {it acc : Value} {env : Env} (I : Nat -> Shared -> Prop)
 (oU : ∀ n s,I n s -> wpAny (model prog w) A (pyNext it) (λ r s₁ => match r with
  | none => R (.ok .next) s₁
  | some v => wpAny (model prog w) A (letOwnedTupleGo qB it v) (λ _ s₁' => wpAny (model prog w) A (assign qB env v) (λ _ s₂ =>
   wpAny (model prog w) A (forIn iR true λ c r => if r = true then do let ok <- isTrue c env (eval c env); pure (ForInStep.yield ok) else pure (ForInStep.yield r)) (λ ok s₃ =>
    if ok = true then wpAny (model prog w) A (eval kN env) (λ x s₄ =>
     wpAny (model prog w) A (call (.builtin "list.append") [acc,x]) (λ _ s₅ => ∃ m,m < n /\ I m s₅) (λ _ _ => False) s₄) (λ _ _ => False) s₃
    else ∃ m,m < n /\ I m s₃) (λ _ _ => False) s₂) (λ _ _ => False) s₁') (λ _ _ => False) s₁) (λ _ _ => False) s)
 (n : Nat) (h : I n s) :
 codeAny (model prog w) A (.compLoop (.ListComp kN [⟨qB,cZ,iR,0⟩] scope pos) 0 it acc env) R s := by
 refine codeAny_loop rfl I (λ n s hI => ?_) n h
 show wpAny _ A ((compTurn (.ListComp kN [⟨qB,cZ,iR,0⟩] scope pos) 0 it acc env).onRaise (λ x => do noteFrame x env; theTreesLotGoes x)) _ _ s
 refine wpAny_noted ?_
 rw [compTurn_list]
 refine wpAny_bind (wpAny_standAt (wpAny_bind (wpAny_mono (oU n s hI) (λ r s₁ h₁ => ?_) λ _ _ h' => h'.elim)))
 cases r with
 | none => exact wpAny_pure h₁
 | some v =>
  refine wpAny_bind (wpAny_mono h₁ (λ _ s₁' h₁' => ?_) λ _ _ h' => h'.elim);refine wpAny_bind (wpAny_mono h₁' (λ _ s₂ h₂ => wpAny_bind (wpAny_mono h₂ (λ ok s₃ h₃ => ?_) λ _ _ h' => h'.elim)) λ _ _ h' => h'.elim);cases ok with
  | false => exact wpAny_pure ⟨rfl,h₃⟩
  | true =>
   exact wpAny_bind (wpAny_bind (wpAny_mono h₃ (λ x s₄ h₄ => wpAny_bind (wpAny_mono h₄ (λ _ s₅ h₅ => wpAny_pure (wpAny_pure ⟨rfl,h₅⟩)) λ _ _ h' => h'.elim)) λ _ _ h' => h'.elim))
def cU (env : Env) : List (Str × NameKind) -> List (Str × Addr) -> List (Str × Addr)
 | [],cs => cs
 | (n,k) :: r,cs => cU env r (if k == .free then (match env.cells.lookup n with | some a => (n,a) :: cs | none => cs) else cs)
theorem clos_go {env : Env} : ∀ (ns : List (Str × NameKind)) (cs : List (Str × Addr)),(∀ x ∈ ns,x.2 = .free -> ∃ c,env.cells.lookup x.1 = some c) ->
 (forIn ns cs λ x (r : List (Str × Addr)) => (match x with | (name,kind) => if (kind == .free) = true then do let a <- cellOf env name; pure (ForInStep.yield ((name,a) :: r)) else pure (ForInStep.yield r) : Sem (ForInStep (List (Str × Addr))))) = (pure (cU env ns cs) : Sem (List (Str × Addr)))
 | [],cs,_ => rfl
 | (n,k) :: r,cs,h => by
  have ih := λ cs => clos_go (env := env) r cs λ x hx => h x (List.mem_cons_of_mem _ hx);rw [List.forIn_cons];unfold cU
  by_cases hk : k = .free
  . subst hk;obtain ⟨c,e⟩ := h (n,.free) List.mem_cons_self rfl;have ec : cellOf env n = pure c := by unfold cellOf; rw [e]
    simp only [beq_self_eq_true,if_true,ec,e,pure_bind];exact ih _
  . have hb : (k == NameKind.free) = false := by simpa using hk
    simp only [hb,Bool.false_eq_true,if_false,pure_bind];exact ih _
theorem oQ {scope : Scope} {env : Env} (h : ∀ x ∈ scope.names,x.2 = .free -> ∃ c,env.cells.lookup x.1 = some c) : closureFor scope env = pure (cU env scope.names []) := by
 have q := clos_go (env := env) scope.names [] h
 unfold closureFor
 simp only [bind_pure_comp,map_pure,bind_pure] at q ⊢
 first
  | exact q
  | (simpa using q)
theorem gP {env : Env} : ∀ (ns : List (Str × NameKind)) (cs : List (Str × Addr)) (x : Str) (c : Addr),(cU env ns cs).lookup x = some c -> env.cells.lookup x = some c \/ cs.lookup x = some c
 | [],cs,x,c,h => .inr h
 | (n,k) :: r,cs,x,c,h => by
  unfold cU at h
  rcases gP r _ x c h with q | q
  . exact .inl q
  . by_cases hk : k = .free
    . subst hk;simp only [beq_self_eq_true,if_true] at q;cases e : env.cells.lookup n with
      | none => rw [e] at q; exact .inr q
      | some a =>
       rw [e] at q;simp only [List.lookup_cons] at q;cases hx : x == n with
       | true =>
        rw [hx] at q;have ex : x = n := by simpa using hx
        subst ex;have ea : a = c := Option.some.inj q;subst ea;exact .inl e
       | false => rw [hx] at q; exact .inr q
    . have hb : (k == NameKind.free) = false := by simpa using hk
      simp only [hb,Bool.false_eq_true,if_false] at q;exact .inr q
theorem closL_mono {env : Env} : ∀ (ns : List (Str × NameKind)) (cs : List (Str × Addr)) (x : Str),(∃ c,cs.lookup x = some c) -> ∃ c,(cU env ns cs).lookup x = some c
 | [],_,_,h => h
 | (n,k) :: r,cs,x,⟨c,h⟩ => by
  unfold cU;refine closL_mono r _ x ?_
  by_cases hk : (k == NameKind.free) = true
  . rw [if_pos hk];cases e : env.cells.lookup n with
    | none => exact ⟨c,h⟩
    | some a =>
     simp only [List.lookup_cons];cases hx : x == n with
     | true => exact ⟨a,rfl⟩
     | false => exact ⟨c,h⟩
  . rw [if_neg hk]; exact ⟨c,h⟩
theorem qG {env : Env} : ∀ (ns : List (Str × NameKind)) (cs : List (Str × Addr)) (x : Str),(x,NameKind.free) ∈ ns -> (∃ c,env.cells.lookup x = some c) -> ∃ c,(cU env ns cs).lookup x = some c
 | [],_,_,h,_ => nomatch h
 | (n,k) :: r,cs,x,h,⟨c,e⟩ => by
  unfold cU
  rcases List.mem_cons.mp h with z | z
  . have z1 : x = n := congrArg Prod.fst z;have z2 : NameKind.free = k := congrArg Prod.snd z;subst z1 z2;refine closL_mono r _ x ?_;simp only [beq_self_eq_true,if_true,e,List.lookup_cons];exact ⟨c,rfl⟩
  . exact qG r _ x z ⟨c,e⟩
theorem gE {ns : List (Str × NameKind)} {x : Str} {k : NameKind} (h : ns.lookup x = some k) : (x,k) ∈ ns := PySem.mem_of_lookup h
theorem lB {env : Env} : ∀ (names : List (Str × NameKind)) (x : Str),
 (names.map λ (n,k) => if (k == NameKind.free && env.scope.kind == .function && env.kindOf n == some .cell) then (n,NameKind.cell) else (n,k)).lookup x =
  (names.lookup x).map λ k => if (k == NameKind.free && env.scope.kind == .function && env.kindOf x == some .cell) then NameKind.cell else k
 | [],x => rfl
 | (n,k) :: r,x => by
  have ih := lB (env := env) r x;rw [List.map_cons];show List.lookup x ((if (k == NameKind.free && env.scope.kind == .function && env.kindOf n == some .cell) = true then (n,NameKind.cell) else (n,k)) :: _) = _;cases hx : x == n with
  | true =>
   have ex : x = n := by simpa using hx
   subst ex
   by_cases hc : (k == NameKind.free && env.scope.kind == .function && env.kindOf x == some .cell) = true
   . rw [if_pos hc]; simp only [List.lookup_cons,beq_self_eq_true,Option.map_some]; rw [if_pos hc]
   . rw [if_neg hc]; simp only [List.lookup_cons,beq_self_eq_true,Option.map_some]; rw [if_neg hc]
  | false =>
   by_cases hc : (k == NameKind.free && env.scope.kind == .function && env.kindOf n == some .cell) = true
   . rw [if_pos hc]; simp only [List.lookup_cons,hx]; exact ih
   . rw [if_neg hc]; simp only [List.lookup_cons,hx]; exact ih
structure aV (own fr : List Str) (scope : Scope) (outer : Scope) : Prop where
 kind : scope.kind = .function
 nocell : ∀ y ∈ scope.names,y.2 ≠ .cell
 names : ∀ y ∈ scope.names,y.2 = .local -> scope.names.lookup y.1 = some .local
 nd : (own ++ fr).Nodup
 outs : ∀ y ∈ scope.names,y.2 = .free -> outer.names.lookup y.1 = some .cell \/ outer.names.lookup y.1 = some .free
 frs : ∀ x ∈ fr,scope.names.lookup x = some .free
 owns : ∀ x ∈ own,scope.names.lookup x = some .local
theorem aV.of {own fr : List Str} {sc out : Scope} (k : sc.kind = .function) (h : (∀ y ∈ sc.names,y.2 ≠ .cell) ∧ (∀ y ∈ sc.names,y.2 = .local → sc.names.lookup y.1 = some .local) ∧ (own ++ fr).Nodup ∧ (∀ y ∈ sc.names,y.2 = .free → out.names.lookup y.1 = some .cell ∨ out.names.lookup y.1 = some .free) ∧ (∀ x ∈ fr,sc.names.lookup x = some .free) ∧ ∀ x ∈ own,sc.names.lookup x = some .local) : aV own fr sc out := ⟨k,h.1,h.2.1,h.2.2.1,h.2.2.2.1,h.2.2.2.2.1,h.2.2.2.2.2⟩
def bL (X : Cx) (scope : Scope) (C : Addr) (N : List Str) (s : Shared) (H : Hp) (aA : List (Addr × Obj)) (fp : List Addr) : Cx :=
 { X with N := N,s₀ := s,H₀ := H,env := compEnvC scope (cU X.env scope.names []) C X.env,outer := X.stack,stack := X.stack,ex := fp,fn := λ _ => false,pn := X.pn ++ aA,xe := λ _ _ => False }
def jU (n : Nat) (idx : List Nat) (σ : St) : St := List.replicate n none ++ idx.map λ j => (σ[j]?).join
def cG (J : It) (D : Addr) (g : TG) (tc : TT) (te : TE) (Q : VK) (σ0 : St) (H1 : Hp) : Prop := ∃ W : Nat -> Nat -> List V -> St -> Hp -> Prop,(∃ m,W 0 m [] σ0 (aL H1 D (.lst []))) /\
 ∀ i m ys σ H,H D = some (.lst ys) -> W i m ys σ H -> (J.stop i H /\ Q (.ref D) H) \/ (J.go i H /\ ys.length < sizeLine /\ ∃ N : List V -> St -> Hp -> Prop,(∀ ys' σ' H',N ys' σ' H' -> ∃ m',m' < m /\ W (i + 1) m' ys' σ' H') /\
  ∀ x H',J.yld i H x H' -> g x σ H' λ σ2 H2 => tc σ2 H2 λ b H3 =>
   if b = true then te σ2 H3 λ v H4 => H4 D = some (.lst ys) /\ N (ys ++ [v]) σ2 (aL H4 D (.lst (ys ++ [v])))
   else H3 D = some (.lst ys) /\ N ys σ2 H3)
def tComp (wi : TI) (n : Nat) (idx : List Nat) (g : TG) (tc : TT) (te : TE) : TE := λ σ H Q => wi σ H λ J H1 => ∀ D,H1 D = none -> cG J D g tc te Q (jU n idx σ) H1
theorem compCx_ok {scope : Scope} {own fr : List Str} {C : Addr} {aA : List (Addr × Obj)} {σ : St} {H : Hp} {s : Shared} {fp : List Addr} (S : aV own fr scope X.env.scope) (I : aR X aA σ H s) (hf : ∀ b ∈ fp,iM X aA H b)
 (hC : s.heap.objs.size <= C) (hfC : ∀ b ∈ fp,b ≠ C) : (bL X scope C (own ++ fr) s H aA fp).Ok := by
 have sub : ∀ x c,(cU X.env scope.names []).lookup x = some c -> X.env.cells.lookup x = some c := λ x c e => (gP _ _ x c e).elim id λ z => nomatch z
 have kindEq : ∀ x,(compEnvC scope (cU X.env scope.names []) C X.env).kindOf x = (scope.names.lookup x).map λ k => if (k == NameKind.free && X.env.scope.kind == .function && X.env.kindOf x == some .cell) then NameKind.cell else k := λ x => lB _ x
 refine ⟨I.ok.mod,S.kind,I.ok.glob,I.ok.blt,hC,λ x y c e1 e2 => I.ok.inj x y c (sub x c e1) (sub y c e2),λ x hx => ?_,λ x c z => absurd z Bool.false_ne_true,I.ok.hd,I.ok.frames,.inl rfl,λ b hb => ⟨hfC b hb,λ x c e => (hf b hb).2.2.2.2.1 x c (sub x c e)⟩,
  I.bs,Nat.le_trans I.ok.bsz I.sz,λ b o e hb => ?_,λ b hb z => ?_,I.stack,I.stkFree⟩
 . have hx' : (compEnvC scope (cU X.env scope.names []) C X.env).kindOf x = some .cell \/ (compEnvC scope (cU X.env scope.names []) C X.env).kindOf x = some .free := hx;rw [kindEq] at hx';cases e : scope.names.lookup x with
   | none => rw [e] at hx'; rcases hx' with z | z <;> cases z
   | some k =>
    have hk : k = .free := by
     rw [e] at hx';have nc := S.nocell (x,k) (gE e);cases k with
     | free => rfl
     | cell => exact absurd rfl nc
     | «local» => rcases hx' with z | z <;> simp at z
     | globalImplicit => rcases hx' with z | z <;> simp at z
     | globalExplicit => rcases hx' with z | z <;> simp at z
    subst hk;have m := gE e;refine qG _ _ x m ?_;exact I.ok.has x (S.outs _ m rfl)
 . rcases (hf b hb).2.2.2.1 with z | z
   . exact I.ok.noex b o e z
   . exact absurd (Nat.lt_of_lt_of_le (Heap.lt_size e) (Nat.le_trans I.ok.bsz z)) (Nat.lt_irrefl _)
 . have z' : b ∈ frs X.stack := z
   rcases List.mem_cons.mp (I.stkSub b z') with q | q
   . exact (hf b hb).2.1 q
   . exact (hf b hb).2.2.1 q
theorem compSt_get {own fr : List Str} {idx : List Nat} {σ : St} (hix : idx.length = fr.length) {i : Nat} {x : Str} {v : V} (h1 : (own ++ fr)[i]? = some x) (h2 : (jU own.length idx σ)[i]? = some (some v)) :
 ∃ (k j : Nat),fr[k]? = some x /\ idx[k]? = some j /\ σ[j]? = some (some v) := by
 unfold jU at h2
 by_cases hi : i < own.length
 . rw [List.getElem?_append_left (by simpa using hi),List.getElem?_replicate] at h2
   split at h2 <;> cases h2
 . rw [List.getElem?_append_right (by simpa using hi)] at h2;rw [List.getElem?_append_right (by omega)] at h1;rw [List.length_replicate,List.getElem?_map] at h2;cases e : idx[i - own.length]? with
   | none => rw [e] at h2; cases h2
   | some j =>
    rw [e] at h2;have h3 : (σ[j]?).join = some v := Option.some.inj h2;refine ⟨i - own.length,j,h1,e,?_⟩;cases q : σ[j]? with
    | none => rw [q] at h3; cases h3
    | some w => rw [q] at h3; have h4 : w = some v := h3; rw [h4]
theorem lA {scope : Scope} {own fr : List Str} {idx : List Nat} {aA : List (Addr × Obj)} {σ : St} {H : Hp} {s : Shared} {fp : List Addr} {h4 : Heap} {tk : Nat} {m : Str -> Option Value} (S : aV own fr scope X.env.scope)
 (hix : idx.length = fr.length) (oA : ∀ (k : Nat) (x : Str) (j : Nat),fr[k]? = some x -> idx[k]? = some j -> X.N[j]? = some x)
 (I : aR X aA σ H s) (hf : ∀ b ∈ fp,iM X aA H b) (hfs : ∀ b ∈ fp,b < s.heap.objs.size) (hn : h4.Ns s.heap.objs.size m) (hk : ∀ b o,s.heap.get? b = some o -> h4.get? b = some o) :
 aR (bL X scope s.heap.objs.size (own ++ fr) s H aA fp) [] (jU own.length idx σ) H { s with heap := h4,toks := tk } := by
 have sub : ∀ x c,(cU X.env scope.names []).lookup x = some c -> X.env.cells.lookup x = some c := λ x c e => (gP _ _ x c e).elim id λ z => nomatch z
 have hfC : ∀ b ∈ fp,b ≠ s.heap.objs.size := λ b hb => Nat.ne_of_lt (hfs b hb)
 have ok := compCx_ok (fp := fp) S I hf (Nat.le_refl _) hfC
 refine ⟨ok,rfl,I.bare,Un.kept hk,⟨m,hn,λ i x v e1 e2 e3 => ?_⟩,λ x c e => ?_,I.hok.fresh (Nat.le_refl _),λ x c e => I.freeC x c (sub x c e),λ p hp => ?_,I.hok.kept hk,?_⟩
 . obtain ⟨k,j,q1,q2,q3⟩ := compSt_get hix e1 e2;have hN := oA k x j q1 q2;have hx := List.mem_of_getElem? q1;have fS := S.frs x hx;have hout := S.outs _ (gE fS) rfl;obtain ⟨m0,_,hl⟩ := I.loc;obtain ⟨u,ru,lk⟩ := hl j x v hN q3 (hout.elim (λ z => .inr (.inl z)) λ z => .inr (.inr z));refine ⟨u,ru,?_⟩;have oY : (compEnvC scope (cU X.env scope.names []) s.heap.objs.size X.env).kindOf x = some .cell \/ (compEnvC scope (cU X.env scope.names []) s.heap.objs.size X.env).kindOf x = some .free := by
    have q := lB (env := X.env) scope.names x;rw [fS] at q
    by_cases hc : (NameKind.free == NameKind.free && X.env.scope.kind == .function && X.env.kindOf x == some .cell) = true
    . refine .inl (q.trans ?_); simp only [Option.map_some]; rw [if_pos hc]
    . refine .inr (q.trans ?_); simp only [Option.map_some]; rw [if_neg hc]
   rcases lk with ⟨kl,_⟩ | ⟨_,c,ec,cc⟩
   . have kl' : X.env.scope.names.lookup x = some .local := kl
     rcases hout with z | z <;> (rw [kl'] at z; cases z)
   . obtain ⟨c',ec'⟩ := qG scope.names [] x (gE fS) ⟨c,ec⟩;have e' := sub x c' ec';rw [ec] at e';cases e';obtain ⟨o,ho,hd⟩ := cc;exact .inr ⟨oY,c,ec',o,hk c o ho,hd⟩
 . obtain ⟨v,o,ho,hd⟩ := I.cell x c (sub x c e);exact ⟨v,o,hk c o ho,hd⟩
 . have hp' : p ∈ X.pn ++ aA := by
    rcases List.mem_append.mp hp with z | z
    . exact z
    . exact nomatch z
   obtain ⟨a1,a2,a3,a4,a5⟩ := I.pin p hp';refine ⟨hk _ _ a1,a2,Nat.ne_of_lt (Heap.lt_size a1),λ z => ?_,a5⟩
   rcases List.mem_cons.mp (I.stkSub p.1 z) with q | q
   . exact a3 q
   . exact a4 q
 . show (jU own.length idx σ).length = (own ++ fr).length
   unfold jU;rw [List.length_append,List.length_append,List.length_replicate,List.length_map,hix]
theorem mQ {scope : Scope} {N : List Str} {aA : List (Addr × Obj)} {σ σ' : St} {H H' : Hp} {s s' : Shared} {fp : List Addr} {h' : Heap}
 (I : aR X aA σ H s) (hf : ∀ b ∈ fp,iM X aA H b) (J : aR (bL X scope s.heap.objs.size N s H aA fp) [] σ' H' s') (hs : Heap.SameBut s.heap.objs.size s'.heap h') :
 aR X aA σ H' { s' with heap := h' } := by
 have ne : ∀ b o,s.heap.get? b = some o -> b ≠ s.heap.objs.size := λ b o e => Nat.ne_of_lt (Heap.lt_size e)
 have hCn : H' s.heap.objs.size = none := J.free
 have u := J.base
 refine I.call' (s' := { s' with heap := h' }) (ch := fp) J.os ⟨λ b o e n hb hx => ?_,λ b o e n hb hx => ?_,u.free,λ b o e hx => ?_,u.tups,u.frzs,u.tbls⟩ (λ b ob e => ?_) J.bare λ b hb => ?_
 . exact (hs.2 b (ne b o e)).trans (u.keep b o e n hb hx)
 . obtain ⟨sl,q⟩ := u.slot b o e n hb hx;exact ⟨sl,(hs.2 b (ne b o e)).trans q⟩
 . obtain ⟨o',q⟩ := u.there b o e hx;exact ⟨o',(hs.2 b (ne b o e)).trans q⟩
 . refine (J.hok b ob e).stay (λ c v hc q => (hs.2 c ?_).trans q) (λ _ q => q) λ _ _ q => q;rintro rfl
   rcases hc with z | z
   . rw [<- z,hCn] at e; cases e
   . rw [hCn] at z; cases z
 . obtain ⟨f0,f1,f2,f3,f4,f5⟩ := hf b hb;exact ⟨f3,f1,f4,f5⟩
theorem comp_core {Y : Cx} {kN tg cZ : Expr} {iR : List Expr} {scope : Scope} {pos : Pos} {it D : Addr} {fp : List Addr} {tn : Nat -> Heap -> Prop} {J : It} {g : TG} {tc : TT} {te : TE} {Q : Hp -> Prop} {W : Nat -> Nat -> List V -> St -> Hp -> Prop} {R : Result -> Shared -> Prop} {s0 : Shared} {m0 : Nat}
 (hc : Y.calm = true) (hg : PG Y tg g) (ht : PTs Y iR tc) (he : PE Y kN te) (hF : ∀ v s,Y.xe v s -> False) (T : qY Y.prog Y.w Y.K tg J fp it tn) (fpC : ∀ {H' : Hp},(∀ b ∈ fp,H' b = none) -> ∀ b ∈ fp,iM Y [] H' b)
 (oU : ∀ i m ys σ H,H D = some (.lst ys) -> W i m ys σ H -> (J.stop i H /\ Q H) \/ (J.go i H /\ ys.length < sizeLine /\ ∃ N : List V -> St -> Hp -> Prop,(∀ ys' σ' H',N ys' σ' H' -> ∃ m',m' < m /\ W (i + 1) m' ys' σ' H') /\
  ∀ x H',J.yld i H x H' -> g x σ H' λ σ2 H2 => tc σ2 H2 λ b H3 =>
   if b = true then te σ2 H3 λ v H4 => H4 D = some (.lst ys) /\ N (ys ++ [v]) σ2 (aL H4 D (.lst (ys ++ [v])))
   else H3 D = some (.lst ys) /\ N ys σ2 H3))
 (done : ∀ s6 σ H,aR Y [] σ H s6 -> Q H -> R (.ok .next) s6)
 (h0 : ∃ i ys σ' H',aR Y [] σ' H' s0 /\ tn i s0.heap /\ (∀ b ∈ fp,H' b = none) /\ H' D = some (.lst ys) /\ W i m0 ys σ' H') :
 codeAny (model Y.prog Y.w) Y.A (.compLoop (.ListComp kN [⟨tg,cZ,iR,0⟩] scope pos) 0 (.ref it) (.ref D) Y.env) R s0 := by
 have thnF : ∀ {α : Type} {m : Sem α} {Q Q' : α -> Shared -> Prop} {s : Shared},wpAny (model Y.prog Y.w) Y.A m Q Y.xe s -> (∀ v s',Q v s' -> Q' v s') -> wpAny (model Y.prog Y.w) Y.A m Q' (λ _ _ => False) s := λ h k => wpAny_mono h k hF
 refine lQ (λ n s' => ∃ i ys σ' H',aR Y [] σ' H' s' /\ tn i s'.heap /\ (∀ b ∈ fp,H' b = none) /\ H' D = some (.lst ys) /\ W i n ys σ' H') ?_ m0 h0
 rintro n s5 ⟨i,ys,σ5,H5,I5,st5,fr5,hD5,w5⟩
 rcases oU i n ys σ5 H5 hD5 w5 with ⟨stop,q⟩ | ⟨go,cE,N,hN,step⟩
 . refine cP (T.done Y rfl rfl rfl hc i [] s5 σ5 H5 _ I5 (fpC fr5) st5 stop) λ r s6 zz => ?_;obtain ⟨hr,I6⟩ := zz;subst hr;exact done s6 σ5 H5 I6 q
 . refine cP (T.item Y rfl rfl rfl hc i [] s5 σ5 H5 _ I5 (fpC fr5) st5 go) λ r s6 zz => ?_;obtain ⟨u,hr,h6⟩ := zz;subst hr;refine cP h6 λ _ s7 zz => ?_;obtain ⟨x,H7,I7,r7,y7,st7,fr7⟩ := zz;have I7' := I7.pinned (fpC fr7) (T.obj _ _ st7);refine thnF (hg _ s7 σ5 H7 x u _ I7' r7 (step x H7 y7)) λ _ s8 zz => ?_;obtain ⟨σ8,H8,I8,q8⟩ := zz;refine thnF (ht _ s8 σ8 H8 _ I8 q8) λ ok s9 zz => ?_;obtain ⟨H9,I9,q9⟩ := zz;have again : ∀ {σ' : St} {H' : Hp} {s' : Shared} {ys' : List V},aR Y ([] ++ pH fp s7.heap) σ' H' s' -> H' D = some (.lst ys') -> N ys' σ' H' ->
    ∃ m,m < n /\ ∃ i ys σ' H',aR Y [] σ' H' s' /\ tn i s'.heap /\ (∀ b ∈ fp,H' b = none) /\ H' D = some (.lst ys) /\ W i m ys σ' H' := λ {σ' H' s' ys'} I' hD' n' => by
    obtain ⟨m',hm,w'⟩ := hN ys' σ' H' n';have pin : ∀ b ∈ fp,∀ o,s7.heap.get? b = some o -> s'.heap.get? b = some o /\ H' b = none := λ b hb o e => by
     have q := I'.pin (b,o) (List.mem_append_right _ (List.mem_append_right _ (jA hb e)));exact ⟨q.1,q.2.1⟩
    refine ⟨m',hm,i + 1,ys',σ',H',I'.unpinned,T.keep _ _ _ st7 λ b hb o e => (pin b hb o e).1,λ b hb => ?_,hD',w'⟩;obtain ⟨o,e,_⟩ := T.obj _ _ st7 b hb;exact (pin b hb o e).2
   cases ok with
   | false =>
    have q9' : H9 D = some (.lst ys) /\ N ys σ8 H9 := by simpa using q9
    simp only [Bool.false_eq_true,if_false];exact again I9 q9'.1 q9'.2
   | true =>
    simp only [if_true] at q9 ⊢;refine thnF (he _ s9 σ8 H9 _ I9 q9) λ xv s10 zz => ?_;obtain ⟨v,H10,I10,r10,hD10,w10⟩ := zz;refine thnF (iS _ s10 σ8 H10 (.ref D) [v] _ [xv] (λ _ H' => H' = aL H10 D (.lst (ys ++ [v]))) I10 rfl (.cons r10 .nil) ⟨_,ys,v,rfl,rfl,hD10,cE,rfl⟩) λ _ s11 zz => ?_;obtain ⟨_,H11,I11,_,e11⟩ := zz;subst e11;exact again I11 aC w10
theorem dX {kN tg cZ : Expr} {iR : List Expr} {scope : Scope} {own fr : List Str} {idx : List Nat} {wi : TI} {g : TG} {tc : TT} {te : TE} {pos : Pos} (hc : X.calm = true) (S : aV own fr scope X.env.scope)
 (hi : PI X tg cZ wi) (hg : ∀ C s H aA fp,PG (bL X scope C (own ++ fr) s H aA fp) tg g) (ht : ∀ C s H aA fp,PTs (bL X scope C (own ++ fr) s H aA fp) iR tc) (he : ∀ C s H aA fp,PE (bL X scope C (own ++ fr) s H aA fp) kN te)
 (hix : idx.length = fr.length := by rfl) (oA : ∀ (k : Nat) (x : Str) (j : Nat),fr[k]? = some x -> idx[k]? = some j -> X.N[j]? = some x)
 (hs : ∀ x,foldedSetIterable cZ X.env x = pure x := by intro _; rfl) : PE X (.ListComp kN [⟨tg,cZ,iR,0⟩] scope pos) (tComp wi own.length idx g tc te) := by
 intro aA s σ H Q I h
 rw [eval_ListComp]
 have oV : closureFor scope X.env = pure (cU X.env scope.names []) := oQ λ x hx fS => I.ok.has x.1 (S.outs x hx fS)
 refine wpAny_comprehension_free (use := none) rfl hs oV S.kind S.names (cP (hi aA s σ H _ I h) λ v s1 h1 => cP h1 λ itv s2 h2 => ?_)
 obtain ⟨it,fp,tn,J,H2,e,I2,T,qZ,f2,h2⟩ := h2
 subst e
 refine wpAny_newObj_type ?_
 obtain ⟨W,⟨m0,w0⟩,oU⟩ := h2 s2.heap.objs.size I2.fresh
 have I3 : aR X aA σ (aL H2 s2.heap.objs.size (.lst [])) { s2 with heap := s2.heap.push { cls := .type "list",data := .seq ([] : List Value).toArray },toks := s2.toks } := I2.lnew .nil (Nat.zero_le _)
 have fpl : ∀ b ∈ fp,b < s2.heap.objs.size := λ b hb => by
  obtain ⟨o,e,_⟩ := T.obj _ _ qZ b hb;exact Heap.lt_size e
 have f3 : ∀ b ∈ fp,iM X aA (aL H2 s2.heap.objs.size (.lst [])) b := λ b hb => ⟨by rw [aH (Nat.ne_of_lt (fpl b hb))]; exact (f2 b hb).1,(f2 b hb).2⟩
 generalize hs3 : ({ s2 with heap := s2.heap.push { cls := .type "list",data := .seq ([] : List Value).toArray },toks := s2.toks } : Shared) = s3 at I3
 have hsz : s3.heap.objs.size = s2.heap.objs.size + 1 := by rw [<- hs3]; exact Heap.size_push _ _
 have st3 : tn 0 s3.heap := T.keep _ _ _ qZ λ b hb o e => by rw [<- hs3]; exact Heap.get?_push_of_some _ e
 refine wpAny_newFunctionEnv S.nocell (by intro y hy; simp at hy) (λ h4 hn4 hsb4 => ?_) S.kind
 have hk4 : ∀ b o,s3.heap.get? b = some o -> h4.get? b = some o := λ b o e => hsb4.extBut b o (Nat.ne_of_lt (Heap.lt_size e)) (Heap.get?_push_of_some _ e)
 have I4 := lA (idx := idx) (tk := s3.toks + ([] : List (Str × Value)).length) S hix oA I3 f3 (λ b hb => by rw [hsz]; exact Nat.lt_succ_of_lt (fpl b hb)) hn4 hk4
 have fpC : ∀ {H' : Hp} (pl : List (Addr × Obj)),(∀ p ∈ pl,∀ b ∈ fp,p.1 ≠ b) -> (∀ b ∈ fp,H' b = none) -> ∀ b ∈ fp,iM (bL X scope s3.heap.objs.size (own ++ fr) s3 (aL H2 s2.heap.objs.size (.lst [])) aA fp) pl H' b := λ {H'} pl oE hn b hb => by
  obtain ⟨g0,g1,g2,g3,g4,g5⟩ := f3 b hb;refine ⟨hn b hb,?_,λ z => ?_,.inl hb,λ x c e => g4 x c ((gP _ _ x c e).elim id λ z => nomatch z),λ p hp => ?_⟩
  . show b ≠ s3.heap.objs.size
    exact Nat.ne_of_lt (by rw [hsz]; exact Nat.lt_succ_of_lt (fpl b hb))
  . rcases List.mem_cons.mp (I3.stkSub b z) with q | q
    . exact g1 q
    . exact g2 q
  . rcases List.mem_append.mp hp with q | q
    . exact g5 p q
    . exact oE p q b hb
 have kY : codeAny (model X.prog X.w) X.A (.compLoop (.ListComp kN [⟨tg,cZ,iR,0⟩] scope pos) 0 (.ref it) (.ref s2.heap.objs.size) (compEnvC scope (cU X.env scope.names []) s3.heap.objs.size X.env))
  (compPost (model X.prog X.w) X.A X.xe none (EP X aA σ Q) (.ref s2.heap.objs.size) s3.heap.objs.size) { s3 with heap := h4,toks := s3.toks + ([] : List (Str × Value)).length } := by
  refine comp_core (Y := bL X scope s3.heap.objs.size (own ++ fr) s3 (aL H2 s2.heap.objs.size (.lst [])) aA fp) (W := W) (m0 := m0) hc (hg _ _ _ _ _) (ht _ _ _ _ _) (he _ _ _ _ _) (λ _ _ z => z) T (λ hn => fpC [] (λ _ z => nomatch z) hn) oU (λ s6 σ5 H5 I6 q => ?_) ⟨0,[],_,_,I4,T.keep _ _ _ st3 λ b _ o e => hk4 b o e,λ b hb => (f3 b hb).1,aC,w0⟩;obtain ⟨m6,hn6,_⟩ := id I6.loc;refine ⟨m6,hn6,λ h' hsb => ?_⟩;exact ⟨.ref s2.heap.objs.size,H5,mQ I3 f3 I6 hsb,rfl,q⟩
 exact codeAny_compStart_list kY (T.self _ 0 _ _ _ (T.keep _ _ _ st3 λ b _ o e => hk4 b o e) kY)
theorem lS {J : It} {n : Nat} {item : Nat -> V} {g : TG} {tc : TT} {te : TE} {σ0 : St} {H1 : Hp} {D : Addr} {Q : VK} (Pv : Nat -> List V -> St -> Hp -> Prop) (h0 : Pv 0 [] σ0 (aL H1 D (.lst []))) (hn : n <= 100000)
 (hgo : ∀ i ys σ H,i < n -> Pv i ys σ H -> J.go i H /\ ∀ x H',J.yld i H x H' -> H' = H /\ x = item i) (hst : ∀ ys σ H,Pv n ys σ H -> J.stop n H) (hl : ∀ i ys σ H,Pv i ys σ H -> ys.length <= i)
 (hs : ∀ i ys σ H,i < n -> H D = some (.lst ys) -> Pv i ys σ H -> g (item i) σ H λ σ2 H2 => tc σ2 H2 λ b H3 =>
  if b = true then te σ2 H3 λ v H4 => H4 D = some (.lst ys) /\ Pv (i + 1) (ys ++ [v]) σ2 (aL H4 D (.lst (ys ++ [v]))) else H3 D = some (.lst ys) /\ Pv (i + 1) ys σ2 H3)
 (hd : ∀ ys σ H,H D = some (.lst ys) -> Pv n ys σ H -> Q (.ref D) H) : cG J D g tc te Q σ0 H1 := by
 refine ⟨λ i m ys σ H => m = n - i /\ i <= n /\ Pv i ys σ H,⟨n,by simp,Nat.zero_le _,h0⟩,?_⟩
 rintro i m ys σ H hD ⟨rfl,hi,p⟩
 by_cases fR : i < n
 . have hz : ys.length < sizeLine := by
    have h1 := hl i ys σ H p;have h2 : (100000 : Nat) < sizeLine := by rw [sizeLine_eq]; decide
    omega
   obtain ⟨go,yl⟩ := hgo i ys σ H fR p;refine .inr ⟨go,hz,Pv (i + 1),λ ys' σ' H' p' => ⟨n - (i + 1),by omega,rfl,fR,p'⟩,λ x H' y => ?_⟩;obtain ⟨e1,e2⟩ := yl x H' y;subst e1 e2;exact hs i ys σ _ fR hD p
 . have e : i = n := by omega
   subst e;exact .inl ⟨hst ys σ H p,hd ys σ H hD p⟩
theorem iV {lo : Int} {n : Nat} {g : TG} {tc : TT} {te : TE} {σ0 : St} {H1 : Hp} {D : Addr} {Q : VK} (Pv : Nat -> List V -> St -> Hp -> Prop) (h0 : Pv 0 [] σ0 (aL H1 D (.lst []))) (hn : n <= 100000) (hl : ∀ i ys σ H,Pv i ys σ H -> ys.length <= i)
 (hs : ∀ i ys σ H,i < n -> H D = some (.lst ys) -> Pv i ys σ H -> g (.int (lo + i)) σ H λ σ2 H2 => tc σ2 H2 λ b H3 =>
  if b = true then te σ2 H3 λ v H4 => H4 D = some (.lst ys) /\ Pv (i + 1) (ys ++ [v]) σ2 (aL H4 D (.lst (ys ++ [v]))) else H3 D = some (.lst ys) /\ Pv (i + 1) ys σ2 H3)
 (hd : ∀ ys σ H,H D = some (.lst ys) -> Pv n ys σ H -> Q (.ref D) H) : cG (Itr lo n) D g tc te Q σ0 H1 :=
 lS (item := λ i => .int (lo + i)) Pv h0 hn (λ i ys σ H hi _ => ⟨hi,λ x H' y => y⟩) (λ _ _ _ _ => Nat.le_refl _) hl hs hd
theorem mO {K : W.Frag} {a : Addr} {xs : List V} {g : TG} {tc : TT} {te : TE} {σ0 : St} {H1 : Hp} {D : Addr} {Q : VK} (Pv : Nat -> List V -> St -> Hp -> Prop) (h0 : Pv 0 [] σ0 (aL H1 D (.lst []))) (hn : xs.length <= 100000) (hl : ∀ i ys σ H,Pv i ys σ H -> ys.length <= i)
 (ha : ∀ i ys σ H,Pv i ys σ H -> bC K H a xs)
 (hs : ∀ i x ys σ H,xs[i]? = some x -> H D = some (.lst ys) -> Pv i ys σ H -> g x σ H λ σ2 H2 => tc σ2 H2 λ b H3 =>
  if b = true then te σ2 H3 λ v H4 => H4 D = some (.lst ys) /\ Pv (i + 1) (ys ++ [v]) σ2 (aL H4 D (.lst (ys ++ [v]))) else H3 D = some (.lst ys) /\ Pv (i + 1) ys σ2 H3)
 (hd : ∀ ys σ H,H D = some (.lst ys) -> Pv xs.length ys σ H -> Q (.ref D) H) : cG (Itl K a) D g tc te Q σ0 H1 := by
 refine lS (n := xs.length) (item := λ i => xs.getD i .non) Pv h0 hn (λ i ys σ H hi p => ?_) (λ ys σ H p => ⟨xs,ha _ _ _ _ p,Nat.le_refl _⟩) hl (λ i ys σ H hi hD p => ?_) hd
 . have e : xs[i]? = some xs[i] := List.getElem?_eq_getElem hi;refine ⟨⟨xs,xs[i],ha _ _ _ _ p,e⟩,λ x H' y => ⟨y.1,?_⟩⟩;have q := y.2 xs (ha _ _ _ _ p);rw [List.getD_eq_getElem?_getD,q]; rfl
 . have e : xs[i]? = some (xs.getD i .non) := by rw [List.getD_eq_getElem?_getD,List.getElem?_eq_getElem hi]; rfl
   exact hs i _ ys σ H e hD p
theorem comp_tup {K : W.Frag} {a : Addr} {xs : List V} {g : TG} {tc : TT} {te : TE} {σ0 : St} {H1 : Hp} {D : Addr} {Q : VK} (Pv : Nat -> List V -> St -> Hp -> Prop) (h0 : Pv 0 [] σ0 (aL H1 D (.lst []))) (hn : xs.length <= 100000) (hl : ∀ i ys σ H,Pv i ys σ H -> ys.length <= i)
 (ha : ∀ i ys σ H,Pv i ys σ H -> dM K H a xs)
 (hs : ∀ i x ys σ H,xs[i]? = some x -> H D = some (.lst ys) -> Pv i ys σ H -> g x σ H λ σ2 H2 => tc σ2 H2 λ b H3 =>
  if b = true then te σ2 H3 λ v H4 => H4 D = some (.lst ys) /\ Pv (i + 1) (ys ++ [v]) σ2 (aL H4 D (.lst (ys ++ [v]))) else H3 D = some (.lst ys) /\ Pv (i + 1) ys σ2 H3)
 (hd : ∀ ys σ H,H D = some (.lst ys) -> Pv xs.length ys σ H -> Q (.ref D) H) : cG (Itt K a) D g tc te Q σ0 H1 := by
 refine lS (n := xs.length) (item := λ i => xs.getD i .non) Pv h0 hn (λ i ys σ H hi p => ?_) (λ ys σ H p => ⟨xs,ha _ _ _ _ p,Nat.le_refl _⟩) hl (λ i ys σ H hi hD p => ?_) hd
 . have e : xs[i]? = some xs[i] := List.getElem?_eq_getElem hi;refine ⟨⟨xs,xs[i],ha _ _ _ _ p,e⟩,λ x H' y => ⟨y.1,?_⟩⟩;have q := y.2 xs (ha _ _ _ _ p);rw [List.getD_eq_getElem?_getD,q]; rfl
 . have e : xs[i]? = some (xs.getD i .non) := by rw [List.getD_eq_getElem?_getD,List.getElem?_eq_getElem hi]; rfl
   exact hs i _ ys σ H e hD p
def CDivB (_i j : Int) : Prop := 0 < j /\ j <= 2 ^ 100
theorem log2_small {n : Nat} (h : n <= 2 ^ 100) : n.log2 < 9000 := by
 by_cases h0 : n = 0
 . subst h0; decide
 . exact (Nat.log2_lt h0).mpr (Nat.lt_of_le_of_lt h (Nat.pow_lt_pow_right (by decide) (by decide)))
theorem op_fdivB : pD X (binaryOp .FloorDiv) (rI CDivB λ i j => .int (i / j)) := opI λ i j _ _ _ _ _ hc q => by
 have h1 : (0 : Int) < j := hc.1
 have h2 : j <= 2 ^ 100 := hc.2
 have e : j.natAbs <= 2 ^ 100 := by
  have : ((j.natAbs : Nat) : Int) <= ((2 ^ 100 : Nat) : Int) := by rw [Int.natAbs_of_nonneg (by omega)]; exact h2
  exact Int.ofNat_le.mp this
 exact floordiv_int (by omega) (by rw [Int.fdiv_eq_ediv_of_nonneg i (by omega)]; exact q) (.inl (PyProof.noPylong_of_log2 (log2_small e)))
theorem strsAre_of {ys : List Str} : ∀ {us : List Value},aX (ys.map V.str) us -> StrsAre us ys := by
 induction ys with
 | nil => intro us h; cases h; exact .nil
 | cons y r ih =>
  intro us h;cases h with
  | cons a b =>
   obtain ⟨t,rfl⟩ := a;exact .cons _ _ (ih b)
def rJoin (K : W.Frag) : V -> List V -> Hp -> VK -> Prop := λ x xs H Q => ∃ sep p ys,x = .str sep /\ xs = [.ref p] /\ bC K H p (ys.map V.str) /\ (ys.map (·.length)).sum + ys.length * sep.length <= 16777216 /\ Q (.str (Txt.join sep ys)) H
theorem mt_join : MtR X "str.join" (rJoin X.K) := by
 intro aA s σ H x xs v us Q I rx rs h
 obtain ⟨sep,p,ys,rfl,rfl,hq,hz,q⟩ := h
 obtain ⟨t,rfl⟩ := rx
 obtain ⟨u,rfl,ru⟩ := rs.one
 cases ru
 obtain ⟨bJ,r,pl,_⟩ := I.list hq
 exact join_list pl.isList (strsAre_of r) hz λ t' k => ⟨.str (Txt.join sep ys),H,I.tok k,⟨_,rfl⟩,q⟩
def rSlS : V -> Option Int -> Option Int -> Hp -> VK -> Prop := λ x lo hi H Q => ∃ z,x = .str z /\ z.length <= sizeLine /\ Q (.str (Txt.slice z lo hi)) H
theorem pU : SlR X rSlS := by
 intro aA s σ H x v vl vu lo hi sl Q I rx hs pl pu h
 obtain ⟨z,rfl,hz,q⟩ := h
 obtain ⟨t,rfl⟩ := rx
 refine ⟨"str",_,F.slot_str_getitem.lookup,typeIs_str _ _ _,?_⟩
 have eO : ∀ t' k,EP X aA σ Q (.str (Txt.slice z lo hi) t') { s with toks := k } := λ t' k => ⟨.str (Txt.slice z lo hi),H,I.tok k,⟨_,rfl⟩,q⟩
 cases pl with
 | none =>
  cases pu with
  | none => exact wpAny_getItem_str_slice (l := none) (u := none) (st := none) hs rfl (post_val_or_str ⟨Nat.le_trans (Txt.slice_le z _ _) hz,λ t' k => eO t' k⟩)
  | int j uj => exact wpAny_getItem_str_slice (l := none) (u := some (j,uj)) (st := none) hs rfl (post_val_or_str ⟨Nat.le_trans (Txt.slice_le z _ _) hz,λ t' k => eO t' k⟩)
 | int i ui =>
  cases pu with
  | none => exact wpAny_getItem_str_slice (l := some (i,ui)) (u := none) (st := none) hs rfl (post_val_or_str ⟨Nat.le_trans (Txt.slice_le z _ _) hz,λ t' k => eO t' k⟩)
  | int j uj => exact wpAny_getItem_str_slice (l := some (i,ui)) (u := some (j,uj)) (st := none) hs rfl (post_val_or_str ⟨Nat.le_trans (Txt.slice_le z _ _) hz,λ t' k => eO t' k⟩)
theorem aR.turnLaid {aA : List (Addr × Obj)} {σ : St} {H : Hp} {s : Shared} {h' : Heap} {ch : List Addr} {T : Addr} {o : HO} {t' : Nat} (I : aR X aA σ H s) (hch : ∀ b ∈ ch,iM X aA H b) (keep : ∀ b ob,b ∉ ch -> s.heap.get? b = some ob -> h'.get? b = some ob)
 (hT : s.heap.objs.size <= T) (new : bZ X.prog X.w (aL H T o) h' T o) : aR X aA σ (aL H T o) { s with heap := h',toks := t' } := by
 have nT : ∀ b ob,s.heap.get? b = some ob -> b ≠ T := λ b ob e => Nat.ne_of_lt (Nat.lt_of_lt_of_le (Heap.lt_size e) hT)
 have fT : H T = none := I.hok.fresh hT
 have nch : ∀ b u,H b = some u -> b ∉ ch := λ b u e z => by rw [(hch b z).1] at e; cases e
 refine I.step (g' := s.gens) (d' := s.drawn) (ch := ch) (λ b hb => ?_) (λ b ob _ _ hc e _ => keep b ob hc e) (λ b ob _ _ hc e _ => ⟨ob.slots,keep b ob hc e⟩) (λ b ob _ e n => by rw [aH (nT b ob e)]; exact n)
  (λ b ob hc e => ⟨ob,keep b ob hc e⟩) (λ b xs e => by rw [aH (aD e fT)]; exact e) (λ b ob u e => by rw [aH (aD e fT)]; exact e) (λ b ps e => ⟨#[],by rw [aH (aD e fT),e]; simp⟩) (λ m hm => ?_) (λ b u e => ?_) I.bare
 . obtain ⟨_,f1,_,f3,f4,f5⟩ := hch b hb;exact ⟨f3,f1,f4,f5⟩
 . obtain ⟨ob,es,ep,ho,r⟩ := hm;exact ⟨ob,es,ep,keep _ ob (λ z => (hch _ z).2.1 rfl) ho,r⟩
 . by_cases hb : b = T
   . subst hb; rw [aC] at e; cases e; exact new
   . rw [aH hb] at e;refine (I.hok b u e).stay (λ c v hc q => keep c v ?_ q) (λ c q => by rw [aH (aD q fT)]; exact q) λ c xs q => by rw [aH (aD q fT)]; exact q
     rcases hc with z | z
     . rw [z]; exact nch b u e
     . exact nch c _ z
theorem aR.turnedL {aA : List (Addr × Obj)} {σ : St} {H : Hp} {s : Shared} {h' : Heap} {ch : List Addr} {t' : Nat} (I : aR X aA σ H s) (hch : ∀ b ∈ ch,iM X aA H b) (keep : ∀ b ob,b ∉ ch -> s.heap.get? b = some ob -> h'.get? b = some ob) :
 aR X aA σ H { s with heap := h',toks := t' } := by
 have nch : ∀ b u,H b = some u -> b ∉ ch := λ b u e z => by rw [(hch b z).1] at e; cases e
 refine I.step (g' := s.gens) (d' := s.drawn) (ch := ch) (λ b hb => ?_) (λ b ob _ _ hc e _ => keep b ob hc e) (λ b ob _ _ hc e _ => ⟨ob.slots,keep b ob hc e⟩) (λ b ob _ e n => n)
  (λ b ob hc e => ⟨ob,keep b ob hc e⟩) (λ b xs e => e) (λ b ob u e => e) (λ b ps e => ⟨#[],by rw [e]; simp⟩) (λ m hm => ?_) (λ b u e => ?_) I.bare
 . obtain ⟨_,f1,_,f3,f4,f5⟩ := hch b hb;exact ⟨f3,f1,f4,f5⟩
 . obtain ⟨ob,es,ep,ho,r⟩ := hm;exact ⟨ob,es,ep,keep _ ob (λ z => (hch _ z).2.1 rfl) ho,r⟩
 . refine (I.hok b u e).stay (λ c v hc q => keep c v ?_ q) (λ c q => q) λ c xs q => q
   rcases hc with z | z
   . rw [z]; exact nch b u e
   . exact nch c _ z
def Its (x : Str) : It := ⟨λ i _ => i < x.cps.size,λ i H v H' => H' = H /\ ∃ c,x.cps[i]? = some c /\ v = .str ⟨#[c]⟩,λ i _ => x.cps.size <= i⟩
theorem strIter_ok {ty : String} {x : Str} {t : Tok} {i : Nat} {h : Heap} {it : Addr} (st : h.IsStrIter it ty x t i) : ∀ b ∈ [it],∃ o,h.get? b = some o /\ ∀ v,o.data ≠ .cell v := λ b hb => by
 have e : b = it := by simpa using hb
 subst e
 obtain ⟨o,e,c,d⟩ := st
 exact ⟨o,e,λ v z => by rw [d] at z; cases z⟩
theorem turn_str {P : Program} {w : World} {K : W.Frag} {y : Str} {p : Pos} (it : Addr) (x : Str) (t : Tok) : qY P w K (.Name y p) (Its x) [it] it (λ i h => h.IsStrIter it (strIterType x) x t i) where
 mem := by simp
 obj := λ i h st => strIter_ok st
 keep := λ i h h' st k => by
  obtain ⟨o,e,r⟩ := st;exact ⟨o,k it (by simp) o e,r⟩
 item := by
  intro X hP hw hK hc i aA s σ H E I hf st hg;subst hP hw hK;obtain ⟨f0,f1,f2,f3,f4,f5⟩ := hf it (by simp);have fR : i < x.cps.size := hg;have hi : x.cps[i]? = some x.cps[i] := Array.getElem?_eq_getElem fR;have eO : ∀ h',h'.IsStrIter it (strIterType x) x t (i + 1) -> Heap.SameBut it s.heap h' -> ∃ u,some (Value.str ⟨#[x.cps[i]]⟩ s.toks) = some u /\
   wpAny (model X.prog X.w) X.A (letOwnedTupleGo (.Name y p) (.ref it) u) (λ _ s2 => ∃ v H',aR X aA σ H' s2 /\ bD v u /\ (Its x).yld i H v H' /\ s2.heap.IsStrIter it (strIterType x) x t (i + 1) /\ ∀ b ∈ [it],H' b = none) E { s with heap := h',toks := s.toks + 1 } := λ h' st' sb => by
   have I1 : aR X aA σ H { s with heap := h',toks := s.toks + 1 } := I.turned (λ b o hb e => (sb.2 b hb).trans e) f0 f1 f3 f4 f5;exact ⟨_,rfl,wpAny_pure ⟨.str ⟨#[x.cps[i]]⟩,H,I1,⟨_,rfl⟩,⟨rfl,_,hi,rfl⟩,st',λ b hb => (hf b hb).1⟩⟩
  unfold strIterType at st eO ⊢;cases ha : x.cps.all (· < 128)
  . rw [ha] at st eO;exact wpAny_pyNext_wide_item st hi λ h' st' sb => eO h' st' sb
  . rw [ha] at st eO;exact wpAny_pyNext_ascii_item st hi λ h' st' sb => eO h' st' sb
 done := by
  intro X hP hw hK hc i aA s σ H E I hf st hg;subst hP hw hK;obtain ⟨f0,f1,f2,f3,f4,f5⟩ := hf it (by simp);have hi : x.cps[i]? = none := Array.getElem?_eq_none hg;have eO : ∀ h',Heap.ExtBut it s.heap h' -> (none : Option Value) = none /\ aR X aA σ H { s with heap := h' } := λ h' eb => ⟨rfl,I.turned (t' := s.toks) (λ b o hb e => eb b o hb e) f0 f1 f3 f4 f5⟩;unfold strIterType at st;cases ha : x.cps.all (· < 128)
  . rw [ha] at st;exact wpAny_pyNext_wide_end (I.ok.hd hc) st hi λ h' eb => eO h' eb
  . rw [ha] at st;exact wpAny_pyNext_ascii_end (I.ok.hd hc) st hi λ h' eb => eO h' eb
 self := λ A i s Q E st h => by
  unfold strIterType at st;cases ha : x.cps.all (· < 128)
  . rw [ha] at st;exact wpAny_pyIter_striter_wide st h
  . rw [ha] at st;exact wpAny_pyIter_striter_ascii st h
def iStr (tl : TE) : TI := λ σ H R => tl σ H λ x H1 => ∃ z,x = .str z /\ R (Its z) H1
theorem pi_str {X : Cx} {y : Str} {p : Pos} {l : Expr} {tl : TE} (hl : PE X l tl) : PI X (.Name y p) l (iStr tl) := by
 intro aA s σ H R I h
 refine cP (hl aA s σ H _ I h) λ v s1 ⟨x,H1,I1,r1,q1⟩ => ?_
 obtain ⟨z,e,q⟩ := q1
 subst e
 obtain ⟨t,rfl⟩ := r1
 refine wpAny_pyIter_strU ?_
 refine ⟨s1.heap.objs.size,[s1.heap.objs.size],_,_,H1,rfl,I1.kept (t' := s1.toks) λ b o e => Heap.get?_push_of_some _ e,turn_str _ z t,⟨_,Heap.get?_push_size _ rfl,rfl,rfl⟩,λ b hb => ?_,q⟩
 have e : b = s1.heap.objs.size := by simpa using hb
 subst e
 exact I1.fpOk (Nat.le_refl _) (I1.hok.fresh (Nat.le_refl _))
theorem comp_str {z : Str} {g : TG} {tc : TT} {te : TE} {σ0 : St} {H1 : Hp} {D : Addr} {Q : VK} (Pv : Nat -> List V -> St -> Hp -> Prop) (h0 : Pv 0 [] σ0 (aL H1 D (.lst []))) (hn : z.cps.size <= 100000) (hl : ∀ i ys σ H,Pv i ys σ H -> ys.length <= i)
 (hs : ∀ i c ys σ H,z.cps[i]? = some c -> H D = some (.lst ys) -> Pv i ys σ H -> g (.str ⟨#[c]⟩) σ H λ σ2 H2 => tc σ2 H2 λ b H3 =>
  if b = true then te σ2 H3 λ v H4 => H4 D = some (.lst ys) /\ Pv (i + 1) (ys ++ [v]) σ2 (aL H4 D (.lst (ys ++ [v]))) else H3 D = some (.lst ys) /\ Pv (i + 1) ys σ2 H3)
 (hd : ∀ ys σ H,H D = some (.lst ys) -> Pv z.cps.size ys σ H -> Q (.ref D) H) : cG (Its z) D g tc te Q σ0 H1 := by
 refine lS (n := z.cps.size) (item := λ i => .str ⟨#[z.cps.getD i 0]⟩) Pv h0 hn (λ i ys σ H hi p => ⟨hi,λ x H' y => ?_⟩) (λ ys σ H p => Nat.le_refl _) hl (λ i ys σ H hi hD p => ?_) hd
 . obtain ⟨e,c,e1,e2⟩ := y;refine ⟨e,?_⟩;rw [e2,Array.getD_eq_getD_getElem?,e1]; rfl
 . have e : z.cps[i]? = some (z.cps.getD i 0) := by rw [Array.getD_eq_getD_getElem?]; simp [hi]
   exact hs i _ ys σ H e hD p
def Ite (K : W.Frag) (a : Addr) : It :=
 ⟨λ i H => ∃ xs x,bC K H a xs /\ xs[i]? = some x,λ i H v H' => ∃ T,H T = none /\ v = .ref T /\ ∀ xs,bC K H a xs -> ∃ x,xs[i]? = some x /\ H' = aL H T (.tup [.int i,x]),λ i H => ∃ xs,bC K H a xs /\ xs.length <= i⟩
theorem turn_enum {P : Program} {w : World} {K : W.Frag} {elts : List Expr} {k : Nat} {pos : Pos} (a e it : Addr) (iQ : e ≠ it) : qY P w K (.Tuple elts k pos) (Ite K a) [e,it] e (λ i h => (∃ jD,IsEnum h e it i jD) /\ h.IsListIter it a i) where
 mem := by simp
 obj := λ i h st b hb => by
  obtain ⟨⟨jD,he⟩,o,ho,c,d⟩ := st
  rcases List.mem_cons.mp hb with z | z
  . subst z;exact ⟨_,he,λ v q => by
     have q' : Data.fields _ = Data.cell v := q;cases q'⟩
  . have z' : b = it := by simpa using z
    subst z';exact ⟨o,ho,λ v q => by rw [d] at q; cases q⟩
 keep := λ i h h' st kk => by
  obtain ⟨⟨jD,he⟩,hl⟩ := st;exact ⟨⟨jD,kk e (by simp) _ he⟩,hl.at λ o q => kk it (by simp) o q⟩
 item := by
  intro X hP hw hK hc i aA s σ H E I hf st hg;subst hP hw hK;obtain ⟨xs,x,hq,hx⟩ := hg;obtain ⟨⟨jD,he⟩,hl⟩ := st;obtain ⟨bJ,rv,pl,hz⟩ := I.list hq;obtain ⟨u,hu,ru⟩ := rv.get hx;refine wpAny_pyNext_enum_item he hl pl.isList (x := u) (by simpa using hu) iQ λ h' eo li tp hsz kk => ?_;refine ⟨_,rfl,wpAny_letOwnedTupleGo_enum (s := { s with heap := h',toks := s.toks + 1 }) eo λ h2 en sb => ?_⟩;have hTe : s.heap.objs.size ≠ e := Nat.ne_of_gt (Heap.lt_size he);have hs' : h2.get? s.heap.objs.size = some { cls := .type "tuple",data := .seq #[.int i s.toks,u] } := (sb.2 _ hTe).trans tp;have kp : ∀ b ob,b ∉ [e,it] -> s.heap.get? b = some ob -> h2.get? b = some ob := λ b ob hb q => by
   have h1 : b ≠ e := λ z => hb (by simp [z]);have h2' : b ≠ it := λ z => hb (by simp [z]);exact (sb.2 b h1).trans (kk b ob h1 h2' q)
  have I2 : aR X aA σ (aL H s.heap.objs.size (.tup [.int i,x])) { s with heap := h2,toks := s.toks + 1 } := I.turnLaid (o := .tup [.int i,x]) (t' := s.toks + 1) hf kp (Nat.le_refl _)
   ⟨by show 2 <= sizeLine; rw [sizeLine_eq]; decide,[.int i s.toks,u],.cons ⟨_,rfl⟩ (.cons ru .nil),⟨_,hs',rfl,_,rfl⟩⟩
  refine ⟨.ref s.heap.objs.size,_,I2,rfl,⟨_,I.fresh,rfl,λ ys hy => ⟨x,by rw [I.list_inj hy hq]; exact hx,rfl⟩⟩,⟨⟨_,en⟩,li.extBut sb.extBut (Ne.symm iQ)⟩,λ b hb => ?_⟩;have fR : b ≠ s.heap.objs.size := by
   obtain ⟨o,ho,_⟩ : ∃ o,s.heap.get? b = some o /\ True := by
    rcases List.mem_cons.mp hb with z | z
    . subst z; exact ⟨_,he,trivial⟩
    . have z' : b = it := by simpa using z
      subst z';obtain ⟨o,ho,_⟩ := hl;exact ⟨o,ho,trivial⟩
   exact Nat.ne_of_lt (Heap.lt_size ho)
  rw [aH fR];exact (hf b hb).1
 done := by
  intro X hP hw hK hc i aA s σ H E I hf st hg;subst hP hw hK;obtain ⟨xs,hq,hx⟩ := hg;obtain ⟨⟨jD,he⟩,hl⟩ := st;obtain ⟨bJ,rv,pl,hz⟩ := I.list hq;have cE := rv.length;exact wpAny_pyNext_enum_end (I.ok.hd hc) he hl pl.isList (by simp; omega) λ h' eb => ⟨rfl,I.turnedL (t' := s.toks) hf λ b ob hb q => eb b ob (λ z => hb (by simp [z])) q⟩
 self := λ A i s Q E st h => by
  obtain ⟨⟨jD,he⟩,_⟩ := st;exact wpAny_pyIter_enum he h
def iEnum (K : W.Frag) (ta : TA) : TI := λ σ H R => ta σ H λ vs H1 => ∃ a,vs = [.ref a] /\ (∃ xs,bC K H1 a xs) /\ R (Ite K a) H1
theorem pi_enum {X : Cx} {elts : List Expr} {k : Nat} {tpos : Pos} {l : Expr} {ta : TA} {p pos : Pos} (hg : Gl X "enumerate") (hm : X.mg "enumerate" = none) (ha : PA X [l] ta) (hs : starEach [l] X.env = [(false,eval l X.env)] := by rfl) :
 PI X (.Tuple elts k tpos) (.Call (.Name "enumerate" p) [l] [] pos) (iEnum X.K ta) := by
 intro aA s σ H R I h
 refine Call_ (nV I hg hm (show bootBuiltins "enumerate" = some (.type "enumerate") by decide +kernel) (PyProof.Rows.callWith_type1 (cP (ha pos aA s σ H _ I h) λ us s1 ⟨vs,H1,I1,r1,q1⟩ => ?_) hs rfl))
 obtain ⟨a,e,⟨xs,hq⟩,q⟩ := q1
 subst e
 obtain ⟨u,rfl,ru⟩ := r1.one
 cases ru
 obtain ⟨bJ,rv,pl,hz⟩ := I1.list hq
 refine call_enumerate_list pl.isList λ h' en li hsz kk => ?_
 have hT : (Shared.mk h' s1.gens s1.drawn s1.toks s1.os).TypeIs (.ref (s1.heap.objs.size + 1)) "enumerate" := ⟨_,en,rfl⟩
 have I2 : aR X aA σ H1 { s1 with heap := h' } := I1.kept (t' := s1.toks) kk
 have T := turn_enum (P := X.prog) (w := X.w) (K := X.K) (elts := elts) (k := k) (pos := tpos) a (s1.heap.objs.size + 1) s1.heap.objs.size (Nat.ne_of_gt (Nat.lt_succ_self _))
 refine T.self X.A 0 { s1 with heap := h' } _ _ ⟨⟨_,en⟩,li⟩ ⟨_,_,_,_,H1,rfl,I2,T,⟨⟨_,en⟩,li⟩,λ b hb => ?_,q⟩
 have hb' : s1.heap.objs.size <= b := by
  rcases List.mem_cons.mp hb with z | z
  . subst z; exact Nat.le_succ _
  . have z' : b = s1.heap.objs.size := by simpa using z
    subst z'; exact Nat.le_refl _
 exact I1.fpOk hb' (I1.hok.fresh hb')
theorem ns_nocell {h : Heap} {a : Addr} {m : Str -> Option Value} {o : Obj} (n : h.Ns a m) (e : h.get? a = some o) (v : Option Value) (ev : o.data = .cell v) : False := by
 obtain ⟨o',es,ep,ho,r⟩ := n
 rw [e] at ho
 cases ho
 have hd := r.1
 rw [ev] at hd
 cases hd
theorem ps_setC {i : Nat} {y : Str} {py spos : Pos} {kN tg cZ : Expr} {iR : List Expr} {scope : Scope} {own fr : List Str} {idx : List Nat} {wi : TI} {g : TG} {tc : TT} {te : TE} {pos : Pos} (hN : X.N.Nodup) (hiy : X.N[i]? = some y) (hly : Loc X.env.scope y) (hc : X.calm = true) (S : aV own fr scope X.env.scope)
 (hi : PI X tg cZ wi) (hg : ∀ C s H aA fp,PG (bL X scope C (own ++ fr) s H aA fp) tg g) (ht : ∀ C s H aA fp,PTs (bL X scope C (own ++ fr) s H aA fp) iR tc) (he : ∀ C s H aA fp,PE (bL X scope C (own ++ fr) s H aA fp) kN te)
 (hix : idx.length = fr.length := by rfl) (oA : ∀ (k : Nat) (x : Str) (j : Nat),fr[k]? = some x -> idx[k]? = some j -> X.N[j]? = some x)
 (hs : ∀ x,foldedSetIterable cZ X.env x = pure x := by intro _; rfl) (hf : X.fn y = true \/ X.env.scope.names.lookup y = some .local := by first | exact .inl rfl | exact .inr rfl)
 (hsw : swapsWith (.ListComp kN [⟨tg,cZ,iR,0⟩] scope pos) (some (.Name y py)) spos.line X.env = pure true := by rfl) : PS X (.Assign [.Name y py] (.ListComp kN [⟨tg,cZ,iR,0⟩] scope pos) spos) (tAsg (tComp wi own.length idx g tc te) (bO i)) := by
 intro aA s σ H Dn I h
 rw [exec_Assign_Name_used _ _ _ _ hsw]
 refine wpAny_bind (wpAny_standAt (wpAny_bind ?_))
 show wpAny _ X.A (do let _ <- comprehension (.ListComp kN [⟨tg,cZ,iR,0⟩] scope pos) scope X.env _ (newList []) false (eval cZ X.env) (some (assign (.Name y py) X.env))) _ _ s
 have oV : closureFor scope X.env = pure (cU X.env scope.names []) := oQ λ x hx fS => I.ok.has x.1 (S.outs x hx fS)
 refine wpAny_bind (wpAny_mono (wpAny_comprehension_free (use := some (assign (.Name y py) X.env)) (Q := λ _ s' => SP X aA Dn .next s') rfl hs oV S.kind S.names (cP (hi aA s σ H _ I h) λ v s1 h1 => cP h1 λ itv s2 h2 => ?_)) (λ _ s' hq => wpAny_pure (wpAny_pure hq)) λ _ _ e => e)
 obtain ⟨it,fp,tn,J,H2,e,I2,T,qZ,f2,h2⟩ := h2
 subst e
 refine wpAny_newObj_type ?_
 obtain ⟨W,⟨m0,w0⟩,oU⟩ := h2 s2.heap.objs.size I2.fresh
 have I3 : aR X aA σ (aL H2 s2.heap.objs.size (.lst [])) { s2 with heap := s2.heap.push { cls := .type "list",data := .seq ([] : List Value).toArray },toks := s2.toks } := I2.lnew .nil (Nat.zero_le _)
 have fpl : ∀ b ∈ fp,b < s2.heap.objs.size := λ b hb => by
  obtain ⟨o,e,_⟩ := T.obj _ _ qZ b hb;exact Heap.lt_size e
 have f3 : ∀ b ∈ fp,iM X aA (aL H2 s2.heap.objs.size (.lst [])) b := λ b hb => ⟨by rw [aH (Nat.ne_of_lt (fpl b hb))]; exact (f2 b hb).1,(f2 b hb).2⟩
 generalize hs3 : ({ s2 with heap := s2.heap.push { cls := .type "list",data := .seq ([] : List Value).toArray },toks := s2.toks } : Shared) = s3 at I3
 have hsz : s3.heap.objs.size = s2.heap.objs.size + 1 := by rw [<- hs3]; exact Heap.size_push _ _
 have st3 : tn 0 s3.heap := T.keep _ _ _ qZ λ b hb o e => by rw [<- hs3]; exact Heap.get?_push_of_some _ e
 refine wpAny_newFunctionEnv S.nocell (by intro y hy; simp at hy) (λ h4 hn4 hsb4 => ?_) S.kind
 have hk4 : ∀ b o,s3.heap.get? b = some o -> h4.get? b = some o := λ b o e => hsb4.extBut b o (Nat.ne_of_lt (Heap.lt_size e)) (Heap.get?_push_of_some _ e)
 have I4 := lA (idx := idx) (tk := s3.toks + ([] : List (Str × Value)).length) S hix oA I3 f3 (λ b hb => by rw [hsz]; exact Nat.lt_succ_of_lt (fpl b hb)) hn4 hk4
 have fpC : ∀ {H' : Hp} (pl : List (Addr × Obj)),(∀ p ∈ pl,∀ b ∈ fp,p.1 ≠ b) -> (∀ b ∈ fp,H' b = none) -> ∀ b ∈ fp,iM (bL X scope s3.heap.objs.size (own ++ fr) s3 (aL H2 s2.heap.objs.size (.lst [])) aA fp) pl H' b := λ {H'} pl oE hn b hb => by
  obtain ⟨g0,g1,g2,g3,g4,g5⟩ := f3 b hb;refine ⟨hn b hb,?_,λ z => ?_,.inl hb,λ x c e => g4 x c ((gP _ _ x c e).elim id λ z => nomatch z),λ p hp => ?_⟩
  . show b ≠ s3.heap.objs.size
    exact Nat.ne_of_lt (by rw [hsz]; exact Nat.lt_succ_of_lt (fpl b hb))
  . rcases List.mem_cons.mp (I3.stkSub b z) with q | q
    . exact g1 q
    . exact g2 q
  . rcases List.mem_append.mp hp with q | q
    . exact g5 p q
    . exact oE p q b hb
 have kY : codeAny (model X.prog X.w) X.A (.compLoop (.ListComp kN [⟨tg,cZ,iR,0⟩] scope pos) 0 (.ref it) (.ref s2.heap.objs.size) (compEnvC scope (cU X.env scope.names []) s3.heap.objs.size X.env))
  (compPost (model X.prog X.w) X.A X.xe (some (assign (.Name y py) X.env)) (λ _ s' => SP X aA Dn .next s') (.ref s2.heap.objs.size) s3.heap.objs.size) { s3 with heap := h4,toks := s3.toks + ([] : List (Str × Value)).length } := by
  refine comp_core (Y := bL X scope s3.heap.objs.size (own ++ fr) s3 (aL H2 s2.heap.objs.size (.lst [])) aA fp) (W := W) (m0 := m0) hc (hg _ _ _ _ _) (ht _ _ _ _ _) (he _ _ _ _ _) (λ _ _ z => z) T (λ hn => fpC [] (λ _ z => nomatch z) hn) oU (λ s6 σ5 H5 I6 q => ?_) ⟨0,[],_,_,I4,T.keep _ _ _ st3 λ b _ o e => hk4 b o e,λ b hb => (f3 b hb).1,aC,w0⟩;obtain ⟨m6,hn6,_⟩ := id I6.loc;have hn6' : s6.heap.Ns s3.heap.objs.size m6 := hn6;obtain ⟨oC,es,ep,hoC,hrest⟩ := id hn6';have I7 : aR X aA σ H5 s6 := mQ (h' := s6.heap) I3 f3 I6 (Heap.SameBut.refl ..);have fS : H5 s3.heap.objs.size = none := I6.free;have I8 : aR X (aA ++ [(s3.heap.objs.size,oC)]) σ H5 s6 := I7.pins_of λ p hp => (List.mem_append.mp hp).elim (λ z => I7.pin p (List.mem_append_right _ z)) λ z => by
   have e : p = (s3.heap.objs.size,oC) := List.mem_singleton.mp z;subst e;exact ⟨hoC,fS,Nat.ne_of_gt I3.lt,I3.nofs (Nat.le_refl _),λ v ev => ns_nocell hn6' hoC v ev⟩
  refine cP (aP (pos := py) hN hiy hly hf _ s6 σ H5 (.ref s2.heap.objs.size) (.ref s2.heap.objs.size) _ I8 rfl q) λ _ s9 ⟨σ9,H9,I9,q9⟩ => ?_;have hp9 := I9.pin (s3.heap.objs.size,oC) (List.mem_append_right _ (List.mem_append_right _ (List.mem_singleton.mpr rfl)));refine ⟨m6,hn6'.at' λ o e => ?_,λ h' hsb => ?_⟩
  . rw [hoC] at e;cases e;exact hp9.1
  . refine ⟨σ9,H9,I9.unpinned.turnedL (ch := [s3.heap.objs.size]) (t' := s9.toks) (λ b hb => ?_) λ b ob hb e => ?_,q9⟩
    . rw [List.mem_singleton.mp hb];exact I3.fpOk (Nat.le_refl _) hp9.2.1
    . exact hsb.extBut b ob (λ z => hb (List.mem_singleton.mpr z)) e
 exact codeAny_compStart_list kY (T.self _ 0 _ _ _ (T.keep _ _ _ st3 λ b _ o e => hk4 b o e) kY)
section
variable {prog : Program}
end
section
variable {pos : Pos}
theorem all_getD : ∀ bs : List Bool,(List.range bs.length).all (λ i => bs.getD i true) = bs.all id
 | [] => rfl
 | b :: r => by
  rw [List.length_cons,List.range_succ_eq_map,List.all_cons,List.all_map,List.all_cons];have ih := all_getD r;have e : ((λ i => (b :: r).getD i true) ∘ Nat.succ) = λ i => r.getD i true := by
   funext i
   simp
  rw [e,ih];rfl
theorem call_allB (hc : X.calm = true) : dP X (.builtin "all") (λ xs H Q => ∃ (p : Addr) (bs : List Bool),xs = [.ref p] /\ bC X.K H p (bs.map V.bl) /\ Q (.bl (bs.all id)) H) := by
 intro aA s σ H xs us Q I r h
 obtain ⟨p,bs,rfl,hq,q⟩ := h
 obtain ⟨u,rfl,ru⟩ := r.one
 cases ru
 obtain ⟨bJ,rv,pl,hz⟩ := I.list hq
 have hp : p < s.heap.objs.size := by
  obtain ⟨o,ho,_⟩ := pl.isList;exact Heap.lt_size ho
 have cE : bJ.toArray.size = bs.length := by rw [List.size_toArray,<- rv.length,List.length_map]
 refine call_all_walk (wpAny_pyIter_list pl.isList ⟨s.heap.objs.size,_,_,bJ.toArray.size,_,_,λ i => bs.getD i true,rfl,Walks.list (show X.A.in1.handled = none from I.ok.hd hc) _ p (Nat.ne_of_lt hp) bJ.toArray,⟨⟨_,Heap.get?_push_size _ rfl,rfl,rfl⟩,pl.isList.push _⟩,?_,?_⟩)
 . intro i v s' Q' E' hP hQ';have hv : bJ[i]? = some v := by simpa using hP
   have hi : i < bJ.length := (List.getElem?_eq_some_iff.mp hv).1;have hi2 : i < bs.length := by rw [<- cE]; simpa using hi
   obtain ⟨u,hu,ru⟩ := rv.get (i := i) (x := V.bl bs[i]) (by rw [List.getElem?_map,List.getElem?_eq_getElem hi2]; rfl);rw [hv] at hu;cases hu;have e : v = Value.bool bs[i] := ru;subst e;refine wpAny_truthy_bool ?_;have e2 : bs.getD i true = bs[i] := by rw [List.getD_eq_getElem?_getD,List.getElem?_eq_getElem hi2]; rfl
   have hQ2 : Q' (bs.getD i true) s' := hQ';rw [e2] at hQ2;exact hQ2
 . intro h' tk hk;have I1 : aR X aA σ H { s with heap := h',toks := tk } := I.kept λ b o e => hk b o (λ z => by
    have z' : b = s.heap.objs.size := by simpa using z
    exact absurd (Heap.lt_size e) (by rw [z']; exact Nat.lt_irrefl _)) (Heap.get?_push_of_some _ e)
   have e : (List.range bJ.toArray.size).all (λ i => bs.getD i true) = bs.all id := by
    rw [cE];exact all_getD bs
   exact ⟨.bl (bs.all id),H,I1,by rw [e]; rfl,q⟩
end
theorem pQ : ∀ {zs : List Str} {us : List Value},aX (zs.map V.str) us -> StrsAre us zs
 | [],_,.nil => .nil
 | _ :: _,_,.cons ⟨t,e⟩ r => by
  subst e;exact .cons _ t (pQ r)
theorem pR : ∀ {us : List Value} {zs : List Str},StrsAre us zs -> aX (zs.map V.str) us
 | _,_,.nil => .nil
 | _,_,.cons _ t r => .cons ⟨t,rfl⟩ (pR r)
theorem oK : dP X (.builtin "sorted") (λ xs H Q => ∃ p zs,xs = [.ref p] /\ bC X.K H p (zs.map V.str) /\ zs.length < 64 /\ ∀ l gQ,H l = none -> gQ.Perm zs -> sortedS gQ = true -> Q (.ref l) (aL H l (.lst (gQ.map V.str)))) := by
 intro aA s σ H xs us Q I r h
 obtain ⟨p,zs,rfl,hq,hz,q⟩ := h
 obtain ⟨u,rfl,rx⟩ := kF r
 cases rx
 obtain ⟨bJ,r',pl,hz'⟩ := I.list hq
 have cE := r'.length
 rw [List.length_map] at cE
 refine sorted_strs pl.isList (pQ r') (by omega) λ out ss' a1 a2 a3 => ?_
 obtain ⟨e,he⟩ := sortedAll_at s.heap bJ out
 refine ⟨.ref (s.heap.objs.size + 1),_,I.laid (t' := s.toks) (λ _ _ => sortedAll_old) (Nat.le_succ _) (show bZ X.prog X.w _ _ _ (.lst (ss'.map V.str)) from ⟨?_,out.toList,e,pR a1,he⟩),rfl,q _ _ (I.hok.fresh (Nat.le_succ _)) a2 a3⟩
 rw [List.length_map,a2.length_eq]
 rw [List.length_map] at hz'
 exact hz'
section
variable {M : Model}
theorem wpAny_choose {src : Source} {n : Nat} {Q : Nat -> Shared -> Prop} (hn : n ≠ 0) (h : ∀ i,i < n -> ∀ d,Q i { s with drawn := d }) : wpAny M A (choose src n) Q E s := by
 intro Γ p hc
 exact ⟨hn,h _ (Nat.mod_lt _ (Nat.pos_of_ne_zero hn)) _⟩
theorem kX {α : Type} : ∀ (l : List α) (i : Nat) (h : i < l.length),(l[i] :: l.eraseIdx i).Perm l
 | _ :: _,0,_ => .refl _
 | x :: xs,i + 1,h => by
  simp only [List.getElem_cons_succ,List.eraseIdx_cons_succ];exact (List.Perm.swap x _ _).trans (.cons x (kX xs i (by simpa using h)))
theorem lK {α : Type} : ∀ (n : Nat) (xs : List α) {Q : List α -> Shared -> Prop} {s : Shared},n = xs.length -> (∀ ys d,ys.Perm xs -> Q ys { s with drawn := d }) -> wpAny M A (drawOrder n xs) Q E s
 | 0,xs,Q,s,e,h => by
  have : xs = [] := List.length_eq_zero_iff.mp e.symm;subst this;exact wpAny_pure (h [] s.drawn .nil)
 | n + 1,[],Q,s,e,h => by cases e
 | n + 1,x :: xs,Q,s,e,h => by
  refine wpAny_bind (wpAny_choose (by simp) λ i hi d => ?_);have hg : (x :: xs)[i]? = some ((x :: xs)[i]) := List.getElem?_eq_getElem hi;rw [hg];refine wpAny_bind (lK n _ (by rw [List.length_eraseIdx_of_lt hi]; simp at e ⊢; omega) λ ys d' hp => wpAny_pure (h _ _ ?_));exact (List.Perm.cons _ hp).trans (kX _ _ hi)
end
def SetS (P : Program) (w : World) (led : Bool) (h : Heap) (a : Addr) (zs : List Str) : Prop :=
 ∃ o es ep t,h.get? a = some o /\ o.ExactSet /\ o.data = .set es ep t /\ ElemsOf (bH P w) es.toList /\ (∃ us : List Value,(es.toList.map (·.2)).Perm us /\ StrsAre us zs) /\ zs.Nodup
  /\ es.size < scanBound /\ t.fits es.size = true /\ t.led = led /\ (1 <= es.size -> t.plain = false)
theorem qO : ∀ {us : List Value} {zs : List Str},StrsAre us zs -> us.length = zs.length
 | _,_,.nil => rfl
 | _,_,.cons _ _ r => congrArg (· + 1) (qO r)
abbrev jT (w : World) : Bool := !(w.params.followText "set-order")
abbrev kR (w : World) : Obj := { cls := .type "set",dict := none,data := .set #[] 0 (.fresh 0 0 (jT w)) }
section
theorem lP {rest : List Value} {Q₁ : Value -> Shared -> Prop} (hc : checkBuiltinCall "set.__new__" ⟨.type "set" :: rest,[]⟩ = pure ())
 (h : Q₁ (.ref s.heap.objs.size) { s with heap := s.heap.push (kR w) }) : codeAny (model P w) A (.call (.builtin "set.__new__") ⟨.type "set" :: rest,[]⟩) (wants Q₁ E) s := by
 refine codeAny_of_tree (show wpAny _ A.in1 (do checkBuiltinCall "set.__new__" ⟨.type "set" :: rest,[]⟩; again (.builtin "set.__new__" ⟨.type "set" :: rest,[]⟩)) _ _ s from ?_)
 refine wpAny_bind (wpAny_of_eq hc (wpAny_pure ⟨plainId_quiet PySem.F.plain_set_new _,codeAny_builtin PySem.F.entry_set_new ?_⟩))
 rw [PySem.Around.under_plainId PySem.F.plain_set_new _]
 have hsub := PySem.sub_set_self
 obtain ⟨hp,g,d,tk,os⟩ := s
 unfold Builtin.«set.__new__»
 unfold Builtin.Frozenset.newClass
 dsimp only
 wp_walk
 refine wpAny_askSetting (wpAny_pure ?_)
 simp only [newObj]
 exact wpAny_bind (wpAny_alloc (wpAny_pure (wpAny_pure h)))
def eG (l : List Str) : List Str := l.foldl (λ σ v => if v ∈ σ then σ else σ ++ [v]) []
theorem firstS_go : ∀ (l σ : List Str),(l.foldl (λ σ v => if v ∈ σ then σ else σ ++ [v]) σ).length <= σ.length + l.length
 | [],_ => Nat.le_refl _
 | v :: l,σ => by
  rw [List.foldl_cons,List.length_cons];refine Nat.le_trans (firstS_go l _) ?_
  split
  . omega
  . rw [List.length_append,List.length_singleton]; omega
theorem firstS_le (l : List Str) : (eG l).length <= l.length := by
 have q := firstS_go l []
 rw [List.length_nil,Nat.zero_add] at q
 exact q
variable {R : Result -> Shared -> Prop} {I : Addr} {fp wr : List Addr} {G : Array GenState -> Array GenState -> Prop} {n : Nat} {Pv : Nat -> Value -> Prop} {St : Nat -> Shared -> Prop}
end
namespace F
theorem entry_set_iter : entryFor table "set.__iter__" = some Builtin.«frozenset.__iter__» := entryFor_alias (id' := "frozenset.__iter__") (by kernel_rfl) (by first | rfl | decide +kernel) (by decide +kernel) (by kernel_rfl)
theorem slot_setit_next : Slot "set_iterator" "__next__" "set_iterator.__next__" :=
 .of (owner := "set_iterator") (n := "__next__") (by rw [typeLookup_type,builtinLookup_eq_fast]; kernel_rfl) (by decide +kernel) (by decide +kernel) (by decide +kernel)
  (by first | exact .inl (by decide +kernel) | exact .inr (by decide +kernel)) (by rw [isSubtype_type]; kernel_rfl)
theorem entry_setit_next : entryFor table "set_iterator.__next__" = some Builtin.«set_iterator.__next__» := entryFor_of_tree (by kernel_rfl)
theorem args_setit_next (a : Value) : argsOk "set_iterator.__next__" ⟨[a],[]⟩ := by unfold argsOk; kernel_rfl
end F
abbrev iF (f : Value) (i : Nat) (S : Addr) (n ep : Nat) : Obj := { cls := .type "set_iterator",data := .fields #[f,rawInt i,.ref S,rawInt n,rawInt ep] }
theorem drawn_eq {S : Addr} {o : Obj} {es : Array (Int × Value)} {ep : Nat} {t : SetTable} {Q : Bool -> Shared -> Prop} (ho : s.heap.get? S = some o) (hd : o.data = .set es ep t) (hf : t.fits es.size = true)
 (h : Q (!(w.params.followText "set-order") && (!t.plain && decide (es.size > 1))) s) : wpAny (model P w) A (setDrawn S) Q E s := by
 unfold setDrawn
 refine wpAny_bind (wpAny_setState_of ho hd hf ?_)
 refine wpAny_bind (wpAny_bind (wpAny_askSetting (wpAny_pure ?_)))
 exact wpAny_pure h
theorem iter_set {S : Addr} {o : Obj} {es : Array (Int × Value)} {ep : Nat} {t : SetTable} {Q : Value -> Shared -> Prop} (ho : s.heap.get? S = some o) (hex : o.ExactSet) (hd : o.data = .set es ep t) (hf : t.fits es.size = true) (hb : es.size < scanBound)
 (h1 : (!(w.params.followText "set-order") && (!t.plain && decide (es.size > 1))) = false -> Q (.ref s.heap.objs.size) { s with heap := s.heap.push (iF (rawInt 0) 0 S es.size ep) })
 (h2 : (!(w.params.followText "set-order") && (!t.plain && decide (es.size > 1))) = true -> ∀ (ps : List Nat) (d : Drawn),ps.Perm (List.range es.size) ->
  Q (.ref (s.heap.objs.size + 1)) { s with drawn := d,heap := (s.heap.push { cls := .type "tuple",data := .seq (ps.map λ i : Nat => rawInt i).toArray }).push (iF (.ref s.heap.objs.size) 0 S es.size ep) }) :
 wpAny (model P w) A (pyIter (.ref S)) Q E s := by
 have hT : s.TypeIs (.ref S) "set" := ⟨o,ho,hex.1⟩
 refine wpAny_pyIter_slot hT PySem.F.slot_set_iter (wpAny_call_entry PySem.F.slot_set_iter hT F.entry_set_iter ?_ (PySem.F.args_set_iter_1 _))
 unfold Builtin.«frozenset.__iter__»
 refine wpAny_bind (show wpAny _ _ (pure S) _ _ _ from wpAny_pure ?_)
 refine wpAny_bind (show wpAny _ _ (setEntries S >>= λ e => pure e.size) _ _ _ from wpAny_bind (show wpAny _ _ (setState S >>= λ e => pure e.1) _ _ _ from wpAny_bind (wpAny_setState_of ho hd hf (wpAny_pure (wpAny_pure ?_)))))
 refine wpAny_bind (drawn_eq ho hd hf ?_)
 cases hq : (!(w.params.followText "set-order") && (!t.plain && decide (es.size > 1)))
 . rw [if_neg (λ z => nomatch z)];refine wpAny_bind (wpAny_pure (wpAny_bind (wpAny_setEpoch_of ho hd hf ?_)));exact wpAny_bind (wpAny_newObj_type (wpAny_pure ⟨_,rfl,"set_iterator",_,⟨_,Heap.get?_push_size _ rfl,rfl⟩,F.slot_setit_next.lookup,h1 hq⟩))
 . rw [if_pos rfl];refine wpAny_bind (lK _ _ (by rw [List.length_range]) λ ps d hp => ?_);have hz : (ps.map λ i : Nat => rawInt i).length <= sizeLine := by
    rw [List.length_map,hp.length_eq,List.length_range];exact fits_of_scanBound hb
   refine wpAny_bind (wpAny_newTuple (wpAny_bind (wpAny_setEpoch_of (Heap.get?_push_of_some _ ho) hd hf ?_)) hz);refine wpAny_bind (wpAny_newObj_type (wpAny_pure ⟨_,rfl,"set_iterator",_,⟨_,Heap.get?_push_size _ rfl,rfl⟩,F.slot_setit_next.lookup,?_⟩));have e : (s.heap.push { cls := .type "tuple",data := .seq (ps.map λ i : Nat => rawInt i).toArray }).objs.size = s.heap.objs.size + 1 := Heap.size_push _ _;rw [e];exact h2 hq ps d hp
end L2
namespace L2
open PySem PySem.Spec PyProof.Rows
variable {P : Program} {w : World} {A : Around} {E : Value -> Shared -> Prop} {s : Shared} {I S T a : Addr} {ep : Nat} {X : Cx} {e : Expr} {H : Hp} {aA : List (Addr × Obj)} {σ : St} {y : V} {u : Value}
section
variable {i : Nat} {es : Array (Int × Value)} {t : SetTable} {o : Obj}
theorem gS {Q : Array (Int × Value) -> Shared -> Prop} (ho : s.heap.get? S = some o) (hd : o.data = .set es ep t) (hf : t.fits es.size = true) (h : Q es s) : wpAny (model P w) A (setEntries S) Q E s := by
 unfold setEntries
 exact wpAny_bind (wpAny_setState_of ho hd hf (wpAny_pure h))
theorem next_drawn {eI : Array Value} {p : Nat} {pk : Tok} {hx : Int} {x : Value} {n : Nat} {Q : Option Value -> Shared -> Prop} (nY : s.heap.get? I = some (iF (.ref T) i S es.size ep)) (ho : s.heap.get? S = some o) (hd : o.data = .set es ep t) (hf : t.fits es.size = true)
 (hT : s.heap.get? T = some { cls := .type "tuple",data := .seq eI n }) (hp : eI[i]? = some (.int p pk)) (he : es[p]? = some (hx,x))
 (h : ∀ h',h'.get? I = some (iF (.ref T) (i + 1) S es.size ep) -> Heap.SameBut I s.heap h' -> Q (some x) { s with heap := h' }) : wpAny (model P w) A (pyNext (.ref I)) Q E s := by
 have hTy : s.TypeIs (.ref I) "set_iterator" := ⟨_,nY,rfl⟩
 unfold pyNext
 refine wpAny_bind (wpAny_attempt (wpAny_callSpecial?_slot (name := Str.ofString "__next__") hTy F.slot_setit_next (wpAny_call_entry F.slot_setit_next hTy F.entry_setit_next ?_ (F.args_setit_next _))))
 unfold Builtin.«set_iterator.__next__»
 refine wpAny_bind (wpAny_pure (wpAny_bind (show wpAny _ _ (fieldsOf (.ref I)) _ _ _ from wpAny_fieldsOf nY rfl ?_)))
 refine (show wpAny _ _ (setEntries S >>= _) _ _ _ from wpAny_bind (gS ho hd hf ?_))
 rw [if_neg (by simp)]
 refine (show wpAny _ _ (seqItems? (.ref T) >>= _) _ _ _ from wpAny_bind (wpAny_seqItems hT rfl ?_))
 simp only [Int.toNat_natCast,hp]
 refine wpAny_bind (show wpAny _ _ (setState S >>= _) _ _ _ from wpAny_bind (wpAny_setState_of ho hd hf ?_))
 dsimp only
 rw [if_neg (by simp),he]
 exact wpAny_pure (wpAny_bind (wpAny_setField nY rfl (by simp) (wpAny_pure ⟨x,rfl,wpAny_pure (h _ (Heap.get?_update_self _ nY rfl) (Heap.SameBut.update ..))⟩)))
theorem next_drawn_end {eI : Array Value} {n : Nat} {Q : Option Value -> Shared -> Prop} (hh : A.handled = none) (nY : s.heap.get? I = some (iF (.ref T) i S es.size ep)) (ho : s.heap.get? S = some o) (hd : o.data = .set es ep t) (hf : t.fits es.size = true)
 (hT : s.heap.get? T = some { cls := .type "tuple",data := .seq eI n }) (hp : eI[i]? = none)
 (h : ∀ h',Heap.ExtBut I s.heap h' -> Q none { s with heap := h' }) : wpAny (model P w) A (pyNext (.ref I)) Q E s := by
 have hTy : s.TypeIs (.ref I) "set_iterator" := ⟨_,nY,rfl⟩
 unfold pyNext
 refine wpAny_bind (wpAny_attempt (wpAny_callSpecial?_slot (name := Str.ofString "__next__") hTy F.slot_setit_next (wpAny_call_entry F.slot_setit_next hTy F.entry_setit_next ?_ (F.args_setit_next _))))
 unfold Builtin.«set_iterator.__next__»
 refine wpAny_bind (wpAny_pure (wpAny_bind (show wpAny _ _ (fieldsOf (.ref I)) _ _ _ from wpAny_fieldsOf nY rfl ?_)))
 refine (show wpAny _ _ (setEntries S >>= _) _ _ _ from wpAny_bind (gS ho hd hf ?_))
 rw [if_neg (by simp)]
 refine (show wpAny _ _ (seqItems? (.ref T) >>= _) _ _ _ from wpAny_bind (wpAny_seqItems hT rfl ?_))
 simp only [Int.toNat_natCast,hp]
 refine wpAny_bind (wpAny_setField nY rfl (by simp) (wpAny_bind (wpAny_setField (Heap.get?_update_self _ nY rfl) rfl (by simp) ?_)))
 refine (show wpAny _ _ (newExc (.type "StopIteration") [] >>= _) _ _ _ from wpAny_bind ?_)
 simp only [newExc,newTuple]
 refine wpAny_bind (wpAny_newObj_type (wpAny_bind (m := firstArgMember _ _) (wpAny_of_eq (a := Value.none) (by first | rfl | (simp only [firstArgMember]; rfl)) (wpAny_newObj_type ?_ (by size_fits)))) (by size_fits))
 simp only [raiseNew]
 refine wpAny_bind (wpAny_handled ?_)
 rw [show A.in1.handled = none from hh]
 refine wpAny_bind (wpAny_pure (wpAny_throw ?_))
 refine wpAny_bind (wpAny_isInstance (T := "StopIteration") (b := true) ⟨_,Heap.get?_push_size _ rfl,rfl⟩ isSubtype_stop ?_)
 refine wpAny_pure (h _ ?_)
 exact ((((Heap.SameBut.update ..).trans (Heap.SameBut.update ..)).extBut.push _).push _)
def Nxt (P : Program) (w : World) (o : Obj) (S : Addr) (sl i ep : Nat) (r : Option (Value × Nat)) : Prop :=
 ∀ (A : Around) (E : Value -> Shared -> Prop) (s : Shared) (Q : Option (Value × Nat) -> Shared -> Prop),s.heap.get? S = some o -> Q r s -> wpAny (model P w) A (setNext S sl i ep) Q E s
theorem next_led {sl sl' : Nat} {x : Value} {Q : Option Value -> Shared -> Prop} (nY : s.heap.get? I = some (iF (rawInt sl) i S es.size ep)) (ho : s.heap.get? S = some o) (hd : o.data = .set es ep t) (hf : t.fits es.size = true)
 (hx : Nxt P w o S sl i ep (some (x,sl')))
 (h : ∀ h',h'.get? I = some (iF (rawInt sl') (i + 1) S es.size ep) -> Heap.SameBut I s.heap h' -> Q (some x) { s with heap := h' }) : wpAny (model P w) A (pyNext (.ref I)) Q E s := by
 have hTy : s.TypeIs (.ref I) "set_iterator" := ⟨_,nY,rfl⟩
 unfold pyNext
 refine wpAny_bind (wpAny_attempt (wpAny_callSpecial?_slot (name := Str.ofString "__next__") hTy F.slot_setit_next (wpAny_call_entry F.slot_setit_next hTy F.entry_setit_next ?_ (F.args_setit_next _))))
 unfold Builtin.«set_iterator.__next__»
 refine wpAny_bind (wpAny_pure (wpAny_bind (show wpAny _ _ (fieldsOf (.ref I)) _ _ _ from wpAny_fieldsOf nY rfl ?_)))
 refine (show wpAny _ _ (setEntries S >>= _) _ _ _ from wpAny_bind (gS ho hd hf ?_))
 rw [if_neg (by simp)]
 refine (show wpAny _ _ (setNext S (Int.toNat sl) (Int.toNat i) (Int.toNat ep) >>= _) _ _ _ from wpAny_bind ?_)
 rw [Int.toNat_natCast,Int.toNat_natCast,Int.toNat_natCast]
 refine hx _ _ _ _ ho ?_
 refine wpAny_bind (wpAny_setField nY rfl (by simp) (wpAny_bind (wpAny_setField (Heap.get?_update_self _ nY rfl) rfl (by simp) (wpAny_pure ⟨x,rfl,wpAny_pure (h _ (Heap.get?_update_self _ (Heap.get?_update_self _ nY rfl) rfl) ((Heap.SameBut.update ..).trans (Heap.SameBut.update ..)))⟩))))
theorem next_led_end {sl : Nat} {Q : Option Value -> Shared -> Prop} (hh : A.handled = none) (nY : s.heap.get? I = some (iF (rawInt sl) i S es.size ep)) (ho : s.heap.get? S = some o) (hd : o.data = .set es ep t) (hf : t.fits es.size = true)
 (hx : Nxt P w o S sl i ep none) (h : ∀ h',Heap.ExtBut I s.heap h' -> Q none { s with heap := h' }) : wpAny (model P w) A (pyNext (.ref I)) Q E s := by
 have hTy : s.TypeIs (.ref I) "set_iterator" := ⟨_,nY,rfl⟩
 unfold pyNext
 refine wpAny_bind (wpAny_attempt (wpAny_callSpecial?_slot (name := Str.ofString "__next__") hTy F.slot_setit_next (wpAny_call_entry F.slot_setit_next hTy F.entry_setit_next ?_ (F.args_setit_next _))))
 unfold Builtin.«set_iterator.__next__»
 refine wpAny_bind (wpAny_pure (wpAny_bind (show wpAny _ _ (fieldsOf (.ref I)) _ _ _ from wpAny_fieldsOf nY rfl ?_)))
 refine (show wpAny _ _ (setEntries S >>= _) _ _ _ from wpAny_bind (gS ho hd hf ?_))
 rw [if_neg (by simp)]
 refine (show wpAny _ _ (setNext S (Int.toNat sl) (Int.toNat i) (Int.toNat ep) >>= _) _ _ _ from wpAny_bind ?_)
 rw [Int.toNat_natCast,Int.toNat_natCast,Int.toNat_natCast]
 refine hx _ _ _ _ ho ?_
 refine wpAny_bind (wpAny_setField nY rfl (by simp) ?_)
 refine (show wpAny _ _ (newExc (.type "StopIteration") [] >>= _) _ _ _ from wpAny_bind ?_)
 simp only [newExc,newTuple]
 refine wpAny_bind (wpAny_newObj_type (wpAny_bind (m := firstArgMember _ _) (wpAny_of_eq (a := Value.none) (by first | rfl | (simp only [firstArgMember]; rfl)) (wpAny_newObj_type ?_ (by size_fits)))) (by size_fits))
 simp only [raiseNew]
 refine wpAny_bind (wpAny_handled ?_)
 rw [show A.in1.handled = none from hh]
 refine wpAny_bind (wpAny_pure (wpAny_throw ?_))
 refine wpAny_bind (wpAny_isInstance (T := "StopIteration") (b := true) ⟨_,Heap.get?_push_size _ rfl,rfl⟩ isSubtype_stop ?_)
 refine wpAny_pure (h _ ?_)
 exact (((Heap.SameBut.update ..).extBut.push _).push _)
end
theorem pick_go {α : Type} (f : Nat -> Nat) : ∀ (nH k : Nat) (left : List α) (out : Array α),left.length = nH -> (pickOrder.go f nH k left out).toList.Perm (out.toList ++ left)
 | 0,_,left,out,e => by
  obtain rfl : left = [] := List.length_eq_zero_iff.mp e;rw [List.append_nil];exact .refl _
 | nH + 1,k,left,out,e => by
  have hi : f k % left.length < left.length := Nat.mod_lt _ (by omega);unfold pickOrder.go;rw [List.getElem?_eq_getElem hi];refine (pick_go f nH (k + 1) _ _ (by rw [List.length_eraseIdx_of_lt hi]; omega)).trans ?_;rw [Array.toList_push,List.append_assoc];exact List.Perm.append_left _ (kX left _ hi)
theorem pick_perm {α : Type} (f : Nat -> Nat) (xs : Array α) : (pickOrder f xs).toList.Perm xs.toList := by
 have q := pick_go f xs.size 0 xs.toList #[] (by rw [Array.length_toList])
 exact q
section
variable {i : Nat} {es : Array (Int × Value)} {t : SetTable} {o : Obj}
theorem nxt_text {sl i : Nat} (hw : w.params.followText "set-order" = true) (hd : o.data = .set es ep t) (hf : t.fits es.size = true) :
 Nxt P w o S sl i ep (((pickOrder (w.params.setOrder S ep) es)[i]?).map λ e => (e.2,sl)) := by
 intro A E s Q ho q
 unfold setNext
 refine wpAny_bind (wpAny_setState_of ho hd hf ?_)
 refine wpAny_bind (show wpAny _ _ (ask >>= λ a => pure (a.params.followText "set-order")) _ _ _ from wpAny_bind (wpAny_askSetting (wpAny_pure ?_)))
 dsimp only
 rw [if_pos (show (model P w).w.params.followText "set-order" = true from hw),if_neg (by simp)]
 refine wpAny_bind ?_
 unfold setWalk
 refine wpAny_bind (wpAny_setState_of ho hd hf ?_)
 refine wpAny_bind (show wpAny _ _ (ask >>= λ a => pure (a.params.followText "set-order")) _ _ _ from wpAny_bind (wpAny_askSetting (wpAny_pure ?_)))
 rw [if_pos (show (model P w).w.params.followText "set-order" = true from hw)]
 refine wpAny_bind (wpAny_askSetting (wpAny_pure ?_))
 exact wpAny_pure q
structure Led (P : Program) (w : World) (o : Obj) (S : Addr) (ep : Nat) (us : List Value) (sl : Nat -> Nat) : Prop where
 item : ∀ i x,us[i]? = some x -> Nxt P w o S (sl i) i ep (some (x,sl (i + 1)))
 stop : Nxt P w o S (sl us.length) us.length ep none
 zero : sl 0 = 0
theorem led_text (hw : w.params.followText "set-order" = true) (hd : o.data = .set es ep t) (hf : t.fits es.size = true) : Led P w o S ep ((pickOrder (w.params.setOrder S ep) es).toList.map (·.2)) (λ _ => 0) where
 item := λ i x e => by
  have q := nxt_text (P := P) (S := S) (sl := 0) (i := i) hw hd hf;rw [List.getElem?_map,Array.getElem?_toList] at e;obtain ⟨y,e1,rfl⟩ := Option.map_eq_some_iff.mp e;rw [e1] at q;exact q
 stop := by
  have q := nxt_text (P := P) (S := S) (sl := 0) (i := ((pickOrder (w.params.setOrder S ep) es).toList.map (·.2)).length) hw hd hf;rw [Array.getElem?_eq_none (by rw [List.length_map,Array.length_toList]; exact Nat.le_refl _)] at q;exact q
 zero := rfl
theorem lJ : Slot "set_iterator" "__iter__" "set_iterator.__iter__" :=
 .of (owner := "set_iterator") (n := "__iter__") (by rw [typeLookup_type,builtinLookup_eq_fast]; kernel_rfl) (by decide +kernel) (by decide +kernel) (by decide +kernel) (by first | exact .inl (by decide +kernel) | exact .inr (by decide +kernel)) (by rw [isSubtype_type]; kernel_rfl)
theorem pZ : entryFor table "set_iterator.__iter__" = some Builtin.«dict_keyiterator.__iter__» := entryFor_alias (id' := "dict_keyiterator.__iter__") (by kernel_rfl) (by first | rfl | decide +kernel) (by decide +kernel) (by kernel_rfl)
theorem qV (a : Value) : argsOk "set_iterator.__iter__" ⟨[a],[]⟩ := by unfold argsOk; kernel_rfl
theorem self_setit {f : Value} {n : Nat} {Q : Value -> Shared -> Prop} (nY : s.heap.get? I = some (iF f i S n ep)) (h : Q (.ref I) s) : wpAny (model P w) A (pyIter (.ref I)) Q E s := by
 have hTy : s.TypeIs (.ref I) "set_iterator" := ⟨_,nY,rfl⟩
 refine wpAny_pyIter_slot hTy lJ (wpAny_call_entry lJ hTy pZ ?_ (qV _))
 exact (show wpAny _ _ (ret (.ref I)) _ _ s from wpAny_pure ⟨_,rfl,"set_iterator",_,hTy,F.slot_setit_next.lookup,h⟩)
theorem walk_led {us : List Value} {sl : Nat -> Nat} (L : Led P w o S ep us sl) (hh : A.handled = none) (hd : o.data = .set es ep t) (hf : t.fits es.size = true) (iQ : S ≠ I) :
 WalksS P w A I [I,S] [I] (λ a b => b = a) us.length (λ i v => us[i]? = some v) (λ i s => s.heap.get? I = some (iF (rawInt (sl i)) i S es.size ep) /\ s.heap.get? S = some o) where
 sub := λ b hb => by simp at hb; simp [hb]
 grefl := λ _ => rfl
 gtrans := λ _ _ _ h1 h2 => h2.trans h1
 frame := λ i s h' tk st _ k => ⟨k I (by simp) _ st.1,k S (by simp) _ st.2⟩
 item := λ i s Q E hi st hQ => by
  have e : us[i]? = some us[i] := List.getElem?_eq_getElem hi;refine next_led st.1 st.2 hd hf (L.item i _ e) λ h' a b => hQ _ _ e ⟨a,(b.2 S iQ).trans st.2⟩ ⟨λ c o' hc e' => ?_,rfl,rfl,rfl,Nat.le_refl _⟩;exact (b.2 c λ z => hc (by simp [z])).trans e'
 done := λ s Q E st hQ => next_led_end hh st.1 st.2 hd hf L.stop λ h' a => hQ _ ⟨λ c o' hc e' => a c o' (λ z => hc (by simp [z])) e',rfl,rfl,rfl,Nat.le_refl _⟩
 self := λ i s Q E st hQ => self_setit st.1 hQ
theorem walk_drawn {eI : List Nat} {n : Nat} (hh : A.handled = none) (hd : o.data = .set es ep t) (hf : t.fits es.size = true) (hp : eI.Perm (List.range es.size)) (iQ : S ≠ I) (hTn : T ≠ I) :
 WalksS P w A I [I,S,T] [I] (λ a b => b = a) eI.length (λ i v => (eI.map λ p => (es.toList.map (·.2)).getD p .none)[i]? = some v)
  (λ i s => s.heap.get? I = some (iF (.ref T) i S es.size ep) /\ s.heap.get? S = some o /\ s.heap.get? T = some { cls := .type "tuple",data := .seq (eI.map λ i : Nat => rawInt i).toArray n }) where
 sub := λ b hb => by simp at hb; simp [hb]
 grefl := λ _ => rfl
 gtrans := λ _ _ _ h1 h2 => h2.trans h1
 frame := λ i s h' tk st _ k => ⟨k I (by simp) _ st.1,k S (by simp) _ st.2.1,k T (by simp) _ st.2.2⟩
 item := λ i s Q E hi st hQ => by
  have e : eI[i]? = some eI[i] := List.getElem?_eq_getElem hi;have fR : eI[i] < es.size := List.mem_range.mp (hp.mem_iff.mp (List.getElem_mem hi));have e2 : es[eI[i]]? = some (es[eI[i]].1,es[eI[i]].2) := Array.getElem?_eq_getElem fR;refine next_drawn (p := eI[i]) (pk := 0) (x := es[eI[i]].2) st.1 st.2.1 hd hf st.2.2 (by rw [List.getElem?_toArray,List.getElem?_map,e]; rfl) e2 λ h' a b => hQ _ _ ?_ ⟨a,(b.2 S iQ).trans st.2.1,(b.2 T hTn).trans st.2.2⟩ ⟨λ c o' hc e' => ?_,rfl,rfl,rfl,Nat.le_refl _⟩
  . rw [List.getElem?_map,e];simp [fR]
  . exact (b.2 c λ z => hc (by simp [z])).trans e'
 done := λ s Q E st hQ => next_drawn_end hh st.1 st.2.1 hd hf st.2.2 (by simp) λ h' a => hQ _ ⟨λ c o' hc e' => a c o' (λ z => hc (by simp [z])) e',rfl,rfl,rfl,Nat.le_refl _⟩
 self := λ i s Q E st hQ => self_setit st.1 hQ
end
theorem set_len_at : typeLookup (.type "set") "__len__" = pure (some (.builtin "set.__len__")) := by rw [typeLookup_type,builtinLookup_eq_fast]; kernel_rfl
section
variable {i : Nat} {es : Array (Int × Value)} {t : SetTable} {o : Obj}
theorem hint_set {Q : Bool -> Shared -> Prop} (hT : s.TypeIs (.ref S) "set") (h : Q false s) : wpAny (model P w) A (Builtin.List.listLengthHint (.ref S)) Q E s := by
 unfold Builtin.List.listLengthHint
 refine wpAny_bind (wpAny_specialOf (T := "set") hT set_len_at ?_)
 wp_delta
 refine wpAny_bind (wpAny_isInstance (T := "set") (b := true) hT (by rw [isSubtype_type]; kernel_rfl) ?_)
 exact (show wpAny _ A (typeOf (Value.ref S) >>= _) _ _ _ from wpAny_bind (wpAny_typeOf (T := "set") hT (wpAny_pure h)))
theorem loop_walk {L : Addr} {c0 : Nat} {fp : List Addr} {us : List Value} {St : Nat -> Shared -> Prop} {s1 : Shared} {R : Result -> Shared -> Prop} (W : WalksS P w A.in1 I fp [I] (λ a b => b = a) us.length (λ i v => us[i]? = some v) St) (hz : us.length <= sizeLine) (st : St 0 s1) (hL : L ∉ fp)
 (hl : s1.heap.get? L = some { cls := .type "list",data := .seq #[] c0 })
 (h : ∀ s' c,(∀ b o,b ≠ L -> b ≠ I -> s1.heap.get? b = some o -> s'.heap.get? b = some o) -> s'.gens = s1.gens -> s'.os = s1.os -> s'.heap.get? L = some { cls := .type "list",dict := none,data := .seq us.toArray c,slots := #[] } -> R (.ok (.ret (.ref L))) s') :
 codeAny (model P w) A (.builtin "list.extend.loop" ⟨[.ref L,.ref I,.ref L],[]⟩) R s1 := by
 refine codeAny_extend_loopS W hz L hL _ us.length 0 s1 _ _ rfl (Nat.zero_le _) st hl (ItemsOf.nil _) λ s' acc' c' hm hS' hacc => ?_
 have e : acc' = us.toArray := by
  apply Array.toList_inj.mp;apply List.ext_getElem?;intro j
  by_cases hj : j < us.length
  . have h0 : j < acc'.size := by rw [hacc.1]; exact hj
    have h1 : acc'[j]? = some acc'[j] := Array.getElem?_eq_getElem h0;rw [Array.getElem?_toList,h1];exact (hacc.2 j _ h1).symm
  . rw [Array.getElem?_toList,Array.getElem?_eq_none (by rw [hacc.1]; omega)];simp at hj ⊢;exact hj
 rw [e] at hS'
 exact h s' c' (λ b o' h1 h2 q => hm.heap b o' (by simp [h1,h2]) q) hm.gens hm.os hS'
theorem collect_set {Q : List Value -> Shared -> Prop} (hT : s.TypeIs (.ref S) "set")
 (h : wpAny (model P w) A.in1 (pyIter (.ref S)) (λ v s1 => ∃ I,v = .ref I /\ s1.TypeIs (.ref S) "set" /\ s1.heap.get? s.heap.objs.size = some { cls := .type "list",data := .seq ([] : List Value).toArray } /\
  ∀ h' c,(∀ b o,b ≠ s.heap.objs.size -> s1.heap.get? b = some o -> h'.get? b = some o) -> h'.get? s.heap.objs.size = some { cls := .type "list",data := .seq #[] c } ->
   codeAny (model P w) A (.builtin "list.extend.loop" ⟨[.ref s.heap.objs.size,.ref I,.ref s.heap.objs.size],[]⟩) (λ r s' => ∃ us c,r = .ok (.ret (.ref s.heap.objs.size)) /\ s'.heap.get? s.heap.objs.size = some { cls := .type "list",dict := none,data := .seq us c,slots := #[] } /\ Q us.toList s') { s1 with heap := h' }) (λ _ _ => False)
  { s with heap := s.heap.push { cls := .type "list",data := .seq ([] : List Value).toArray } }) :
 wpAny (model P w) A (collect (.ref S)) Q E s := by
 unfold collect
 refine wpAny_bind (wpAny_runValue (codeAny_builtin PySem.F.entry_proto_collect ?_))
 rw [PySem.Around.under_plainId PySem.F.plain_proto_collect _]
 refine (show wpAny _ A.in1 (newList [] >>= λ l => again (.builtin "list.__iadd__" ⟨[l,.ref S],[]⟩)) _ _ s from wpAny_bind (wpAny_newObj_type (wpAny_pure ⟨plainId_quiet PySem.F.plain_list_iadd _,codeAny_builtin PySem.F.entry_list_iadd ?_⟩)))
 rw [PySem.Around.under_plainId PySem.F.plain_list_iadd _]
 refine (show wpAny _ A.in1 (Builtin.List.listExtendWith (.ref s.heap.objs.size) (.ref S) (.ref s.heap.objs.size)) _ _ _ from ?_)
 unfold Builtin.List.listExtendWith
 have hT1 : Shared.TypeIs { s with heap := s.heap.push { cls := .type "list",data := .seq ([] : List Value).toArray } } (.ref S) "set" := by
  obtain ⟨o,ho,hc⟩ := hT;exact ⟨o,Heap.get?_push_of_some _ ho,hc⟩
 have iQ : (Builtin.List.listSameRef (.ref s.heap.objs.size) (.ref S) || Value.type "set" == Value.type "list" || Value.type "set" == Value.type "tuple") = false := by
  obtain ⟨o,ho,hc⟩ := hT;have q : (s.heap.objs.size == S) = false := by
   rw [beq_eq_false_iff_ne];exact Nat.ne_of_gt (Heap.lt_size ho)
  have q2 : Builtin.List.listSameRef (.ref s.heap.objs.size) (.ref S) = (s.heap.objs.size == S) := rfl;rw [q2,q]
  decide
 refine wpAny_bind (wpAny_typeOf (T := "set") hT1 ?_)
 rw [if_neg (by rw [iQ]; exact λ z => nomatch z)]
 refine wpAny_bind (wpAny_mono h (λ v s1 ⟨I,e,h1,h5,h2⟩ => ?_) λ _ _ z => z.elim)
 subst e
 refine wpAny_bind (wpAny_holding (hint_set h1 ?_))
 rw [if_pos (by decide)]
 refine wpAny_bind (wpAny_rule (wpAny_bind (show wpAny _ A.in1 (updateSeq s.heap.objs.size (·.push .none) >>= λ _ => updateSeq s.heap.objs.size (·.pop)) _ _ _ from wpAny_bind (wpAny_updateSeq h5 rfl ?_))))
 have g2 := Heap.get?_update_self (Obj.mapSeq (·.push Value.none)) h5 rfl
 refine wpAny_updateSeq (hz := by seq_fits) g2 rfl ?_
 have g3 := Heap.get?_update_self (Obj.mapSeq (·.pop)) g2 rfl
 refine wpAny_pure ⟨plainId_quiet PySem.F.plain_extend_loop _,codeAny_mono (h2 _ _ (λ b o' hb q => (Heap.get?_update_other _ _ (Ne.symm hb)).trans ((Heap.get?_update_other _ _ (Ne.symm hb)).trans q)) g3) λ r s' ⟨us,c,e,h3,h4⟩ => ?_⟩
 subst e
 exact (show wpAny _ A (load s.heap.objs.size >>= _) _ _ s' from wpAny_bind (wpAny_load h3 (wpAny_pure h4)))
end
theorem strs_perm {us us0 : List Value} {zs : List Str} (hp : us.Perm us0) (hs : StrsAre us0 zs) : ∃ gQ,StrsAre us gQ /\ gQ.Perm zs :=
 ⟨us.map strOf,strsAre_map us λ v hv => hs.all v (hp.mem_iff.mp hv),by rw [<- hs.strs]; exact hp.map _⟩
theorem range_getD {α : Type} (d : α) : ∀ l : List α,(List.range l.length).map (λ p => l.getD p d) = l := λ l => by
 apply List.ext_getElem?
 intro j
 rw [List.getElem?_map]
 by_cases hj : j < l.length
 . rw [List.getElem?_range hj]; simp [hj]
 . rw [List.getElem?_eq_none (by simp; omega),List.getElem?_eq_none (by omega)]; rfl
def SetO (P : Program) (w : World) (a : Addr) (zs : List Str) : HO := .ext λ h => SetS P w (jT w) h a zs
theorem sub_tup_set : isSubtype (.type "tuple") (.type "set") = pure false := by rw [isSubtype_type]; kernel_rfl
theorem sub_tup_frozen : isSubtype (.type "tuple") (.type "frozenset") = pure false := by rw [isSubtype_type]; kernel_rfl
theorem call_set0 {Q : Value -> Shared -> Prop} (h : Q (.ref s.heap.objs.size) { s with heap := s.heap.push (kR w) }) : wpAny (model P w) A (call (.type "set") []) Q E s := by
 obtain ⟨c,tl,hmro⟩ := PySem.F.called_set.mro
 have c1 := PySem.F.called_set.made
 have c2 := PySem.F.called_set.sub
 have c3 := PySem.F.called_set.notType
 have c4 := PySem.F.called_set.canCreate
 have c5 := PySem.F.typeCall_set_0
 refine wpAny_call (codeAny_of_tree (show wpAny _ _ (callAny (.type "set") _) _ _ _ from wpAny_pure ⟨Code.quiet_builtin _ (by decide +kernel),codeAny_builtin PySem.F.entry_type_call ?_⟩))
 rw [PySem.Around.under_plain (weight_type_call_type "set" [] []) rfl]
 repeat (any_goals (first | assumption | wp_step))
 refine codeAny_mono (lP (P := P) (E := E) (rest := []) (Q₁ := λ obj s₁ => obj = .ref s.heap.objs.size /\ s₁ = { s with heap := s.heap.push (kR w) }) PySem.F.newCall_set_0 ⟨rfl,rfl⟩) λ r s₁ hr => ?_
 cases r with
 | error e => exact hr
 | ok fl =>
  cases fl with
  | ret obj =>
   obtain ⟨rfl,rfl⟩ := hr;have hS : (s.heap.push (kR w)).get? s.heap.objs.size = some (kR w) := Heap.get?_push_size _ rfl;have hT : Shared.TypeIs { s with heap := s.heap.push (kR w) } (.ref s.heap.objs.size) "set" := ⟨_,hS,rfl⟩;have c6 := PySem.F.called_set.init.lookup;have c7 := PySem.F.called_set.init.bind (.ref s.heap.objs.size)
   repeat (any_goals (first | assumption | wp_step))
   refine codeAny_call_builtin PySem.F.called_set.init.plain PySem.F.entry_set_init (PySem.check_set_init hT ?_);unfold Builtin.«set.__init__» noKeywords
   wp_walk
   exact h
  | _ => exact hr.elim
section
variable {o : Expr} {es : List Expr} {to : TE} {t : TA} {name : Str} {kA gZ : Pos} {id : String} {r : V -> List V -> Hp -> VK -> Prop}
example : Slot "set" "add" "set.add" := PySem.F.slot_set_add
example : typeOf (.builtin "set.add") = pure (.type "method_descriptor") := PySem.F.type_set_add
end
theorem notLt_le {a b : Str} (h : (!ltCps b.cps.toList a.cps.toList) = true) : a.cps.toList <= b.cps.toList := by
 rw [ltCps_eq] at h
 simp at h
 exact h
theorem rising_all : ∀ (l : List Str) (p : Str),risingS p l = true -> ∀ x ∈ l,p.cps.toList <= x.cps.toList
 | [],_,_,x,hx => nomatch hx
 | y :: l,p,h,x,hx => by
  obtain ⟨h1,h2⟩ := Bool.and_eq_true_iff.mp h;have q := notLt_le h1
  rcases List.mem_cons.mp hx with rfl | hx
  . exact q
  . exact List.le_trans q (rising_all l y h2 x hx)
theorem qK : ∀ (l : List Str) (p : Str),risingS p l = true -> (p :: l).Pairwise λ a b => a.cps.toList <= b.cps.toList
 | [],_,_ => .cons (λ _ z => nomatch z) .nil
 | y :: l,p,h => .cons (rising_all _ p h) (qK l y (Bool.and_eq_true_iff.mp h).2)
theorem sorted_pair : ∀ (l : List Str),sortedS l = true -> l.Pairwise λ a b => a.cps.toList <= b.cps.toList
 | [],_ => .nil
 | p :: l,h => qK l p h
theorem qQ {a b : List Str} (hp : a.Perm b) (ha : sortedS a = true) (hb : sortedS b = true) : a = b := by
 refine hp.eq_of_pairwise (le := λ a b => a.cps.toList <= b.cps.toList) (λ x y _ _ h1 h2 => ?_) (sorted_pair a ha) (sorted_pair b hb)
 have q : x.cps.toList = y.cps.toList := List.le_antisymm h1 h2
 cases x
 cases y
 exact congrArg _ (Array.toList_inj.mp q)
section
variable {κ : Type} [DecidableEq κ]
def eC (aO : List (κ × V)) (k : κ) : Option V := (aO.find? λ kv => decide (kv.1 = k)).map (·.2)
def dY (aO : List (κ × V)) (k : κ) (v : V) : List (κ × V) :=
 if (aO.any λ kv => decide (kv.1 = k)) = true then aO.map (λ kv => if kv.1 = k then (kv.1,v) else kv) else aO ++ [(k,v)]
theorem eQ {p : κ × V} {r : List (κ × V)} {k : κ} (e : p.1 = k) : eC (p :: r) k = some p.2 := by simp [eC,List.find?_cons,e]
theorem eN {p : κ × V} {r : List (κ × V)} {k : κ} (e : ¬ p.1 = k) : eC (p :: r) k = eC r k := by simp [eC,List.find?_cons,e]
theorem lT (k : κ) : ∀ aO : List (κ × V),(aO.any λ kv => decide (kv.1 = k)) = (eC aO k).isSome
 | [] => rfl
 | p :: r => by
  rw [List.any_cons]
  by_cases e : p.1 = k
  . simp only [eQ e,decide_eq_true e,Bool.true_or,Option.isSome_some]
  . rw [eN e,decide_eq_false e,Bool.false_or]; exact lT k r
theorem valV_map (k j : κ) (y : V) : ∀ aO : List (κ × V),eC (aO.map λ kv => if kv.1 = k then (kv.1,y) else kv) j = (eC aO j).map λ x => if j = k then y else x
 | [] => rfl
 | p :: r => by
  have ih := valV_map k j y r;rw [List.map_cons]
  by_cases h : p.1 = k
  . rw [if_pos h]
    by_cases e : p.1 = j
    . rw [eQ (p := (p.1,y)) e,eQ e,Option.map_some,if_pos (e.symm.trans h)]
    . rw [eN (p := (p.1,y)) e,eN e,ih]
  . rw [if_neg h]
    by_cases e : p.1 = j
    . rw [eQ (p := p) e,eQ e,Option.map_some,if_neg (λ z => h (e.trans z))]
    . rw [eN (p := p) e,eN e,ih]
theorem valV_snoc (k j : κ) (y : V) : ∀ aO : List (κ × V),eC aO k = none -> eC (aO ++ [(k,y)]) j = if j = k then some y else eC aO j
 | [],_ => by
  by_cases e : k = j
  . rw [if_pos e.symm]; exact eQ (p := (k,y)) e
  . rw [if_neg (λ z => e z.symm)]; exact eN (p := (k,y)) e
 | p :: r,hn => by
  rw [List.cons_append];have hk : ¬ p.1 = k := λ z => by rw [eQ z] at hn; cases hn
  rw [eN hk] at hn;have ih := valV_snoc k j y r hn
  by_cases e : p.1 = j
  . rw [eQ e,eQ e,if_neg (λ z => hk (e.trans z))]
  . rw [eN e,eN e,ih]
theorem kB (aO : List (κ × V)) (k j : κ) (y : V) : eC (dY aO k y) j = if j = k then some y else eC aO j := by
 unfold dY
 by_cases a : (aO.any λ kv => decide (kv.1 = k)) = true
 . rw [if_pos a,valV_map];rw [lT] at a
   by_cases e : j = k
   . obtain ⟨x,hx⟩ := Option.isSome_iff_exists.mp a;rw [if_pos e,e,hx,Option.map_some,if_pos rfl]
   . rw [if_neg e];cases eC aO j with
     | none => rfl
     | some x => rw [Option.map_some,if_neg e]
 . rw [if_neg a];refine valV_snoc k j y aO ?_;rw [lT] at a;cases q : eC aO k with
   | none => rfl
   | some x => rw [q] at a; exact (a rfl).elim
theorem dJ (aO : List (κ × V)) (k : κ) (v : V) : (dY aO k v).length <= aO.length + 1 := by
 unfold dY
 split
 . rw [List.length_map]; omega
 . rw [List.length_append,List.length_cons,List.length_nil]; omega
theorem putK_new {aO : List (κ × V)} {k : κ} (v : V) (h : eC aO k = none) : dY aO k v = aO ++ [(k,v)] := by
 unfold dY
 rw [lT,h]
 exact if_neg (by decide)
theorem kC.isSome_eq {o : Option V} {u : Option Value} (r : kC o u) : o.isSome = u.isSome := by
 cases o with
 | none => cases u with
  | none => rfl
  | some _ => exact (show False from r).elim
 | some _ => cases u with
  | none => exact (show False from r).elim
  | some _ => rfl
theorem KV.val {aO : List (κ × V)} {vs : List (κ × Value)} (r : KV aO vs) (k : κ) : kC (eC aO k) (valueAt vs k) := by
 unfold KV at r
 induction r with
 | nil => exact True.intro
 | @cons p q ps qs h t ih =>
  obtain ⟨h1,h2⟩ := h
  by_cases e : p.1 = k
  . have e' : q.1 = k := h1.symm.trans e;have b : valueAt (q :: qs) k = some q.2 := by simp [valueAt,List.find?_cons,e']
    rw [eQ e,b]; exact h2
  . have e' : ¬ q.1 = k := λ z => e (h1.trans z);have b : valueAt (q :: qs) k = valueAt qs k := by simp [valueAt,List.find?_cons,e']
    rw [eN e,b]; exact ih
theorem KV.any {aO : List (κ × V)} {vs : List (κ × Value)} (r : KV aO vs) (k : κ) : (aO.any λ kv => decide (kv.1 = k)) = vs.any λ kv => decide (kv.1 = k) := by
 unfold KV at r
 induction r with
 | nil => rfl
 | cons h t ih => rw [List.any_cons,List.any_cons,ih,h.1]
theorem KV.repl {aO : List (κ × V)} {vs : List (κ × Value)} (r : KV aO vs) (k : κ) {y : V} {u : Value} (ry : bD y u) :
 KV (aO.map λ kv => if kv.1 = k then (kv.1,y) else kv) (vs.map λ kv => if kv.1 = k then (kv.1,u) else kv) := by
 unfold KV at r ⊢
 induction r with
 | nil => exact .nil
 | @cons p q ps qs h t ih =>
  rw [List.map_cons,List.map_cons];refine .cons ?_ ih;obtain ⟨h1,h2⟩ := h
  by_cases e : p.1 = k
  . rw [if_pos e,if_pos (h1.symm.trans e)]; exact ⟨h1,ry⟩
  . rw [if_neg e,if_neg (λ z => e (h1.trans z))]; exact ⟨h1,h2⟩
theorem KV.put {aO : List (κ × V)} {vs : List (κ × Value)} (r : KV aO vs) (k : κ) {y : V} {u : Value} (ry : bD y u) : KV (dY aO k y) (stored vs k u) := by
 unfold dY stored
 rw [r.any k]
 by_cases e : (vs.any λ kv => decide (kv.1 = k)) = true
 . rw [if_pos e,if_pos e]; exact r.repl k ry
 . rw [if_neg e,if_neg e]; exact Paired.snoc r ⟨rfl,ry⟩
theorem KV.keys {aO : List (κ × V)} {vs : List (κ × Value)} (r : KV aO vs) : aO.map (·.1) = vs.map (·.1) := by
 unfold KV at r
 induction r with
 | nil => rfl
 | cons h t ih => rw [List.map_cons,List.map_cons,ih,h.1]
theorem KV.length {aO : List (κ × V)} {vs : List (κ × Value)} (r : KV aO vs) : aO.length = vs.length := Paired.length r
end
theorem mY {P : Program} {w : World} {k : bP} {u : Value} (r : bD (kV k) u) : (bH P w).is k u = true := by
 cases k with
 | inl i => obtain ⟨t,e⟩ := (show ∃ t,u = Value.int i t from r); subst e; exact mixKind_int P w i t
 | inr x => obtain ⟨t,e⟩ := (show ∃ t,u = Value.str x t from r); subst e; exact qS P w x t
theorem items_are {P : Program} {w : World} : ∀ {ks : List bP} {us : List Value},aX (ks.map kV) us -> ItemsAre (bH P w) ks us
 | [],_,r => by rw [List.map_nil] at r; cases r; exact .nil
 | k :: ks,_,r => by
  rw [List.map_cons] at r;cases r with
  | cons h t => exact .cons (mY h) (items_are t)
abbrev KT (H : Hp) : List (List bP × V) -> List (List bP × Addr × Value) -> Prop := Paired λ p q => p.1 = q.1 /\ H q.2.1 = some (.tup (p.1.map kV)) /\ bD p.2 q.2.2
theorem KT.val {H : Hp} {aO : List (List bP × V)} {xs : List (List bP × Addr × Value)} (r : KT H aO xs) (k : List bP) : kC (eC aO k) ((atKey xs k).map (·.2)) := by
 induction r with
 | nil => exact True.intro
 | @cons p q ps qs h t ih =>
  obtain ⟨h1,_,h2⟩ := h
  by_cases e : p.1 = k
  . have e' : q.1 = k := h1.symm.trans e;have b : atKey (q :: qs) k = some q.2 := by simp [atKey,List.find?_cons,e']
    rw [eQ e,b]; exact h2
  . have e' : ¬ q.1 = k := λ z => e (h1.trans z);have b : atKey (q :: qs) k = atKey qs k := by simp [atKey,List.find?_cons,e']
    rw [eN e,b]; exact ih
theorem KT.repl {H : Hp} {aO : List (List bP × V)} {xs : List (List bP × Addr × Value)} (r : KT H aO xs) (k : List bP) {y : V} {u : Value} (ry : bD y u) :
 KT H (aO.map λ kv => if kv.1 = k then (kv.1,y) else kv) (xs.map (putAt k u)) := by
 induction r with
 | nil => exact .nil
 | @cons p q ps qs h t ih =>
  rw [List.map_cons,List.map_cons];refine .cons ?_ ih;obtain ⟨h1,h2,h3⟩ := h;unfold putAt
  by_cases e : p.1 = k
  . rw [if_pos e,if_pos (h1.symm.trans e)]; exact ⟨h1,h2,ry⟩
  . rw [if_neg e,if_neg (λ z => e (h1.trans z))]; exact ⟨h1,h2,h3⟩
theorem KT.put {H : Hp} {aO : List (List bP × V)} {xs : List (List bP × Addr × Value)} (r : KT H aO xs) (k : List bP) {b : Addr} {y : V} {u : Value} (hb : H b = some (.tup (k.map kV))) (ry : bD y u) :
 KT H (dY aO k y) (storedH xs k b u) := by
 have e : (aO.any λ kv => decide (kv.1 = k)) = (atKey xs k).isSome := by
  rw [lT,(r.val k).isSome_eq,Option.isSome_map]
 unfold dY storedH
 rw [e]
 by_cases q : (atKey xs k).isSome = true
 . rw [if_pos q,if_pos q]; exact r.repl k ry
 . rw [if_neg q,if_neg q]; exact Paired.snoc r ⟨rfl,hb,ry⟩
theorem KT.keeps {H H' : Hp} {aO : List (List bP × V)} {xs : List (List bP × Addr × Value)} (r : KT H aO xs) (ht : ∀ b ys,H b = some (.tup ys) -> H' b = some (.tup ys)) : KT H' aO xs :=
 Paired.mapP r λ _ _ z => ⟨z.1,ht _ _ z.2.1,z.2.2⟩
section
variable {h : Heap}
theorem rd_of {u : HO} (ok : mL P w H h) (e : Rd H a u) : bZ P w H h a u := e.ok ok
theorem dk_rd {aO : List (bP × V)} (ok : mL P w H h) (e : Rd H a (.dK aO)) : aO.length <= sizeLine /\ (a == sysModules) = false /\ ∃ vs,KV aO vs /\ h.DictOf (bH P w) a vs :=
 show bZ P w H h a (.dK aO) from rd_of ok e
theorem dk_of {aO : List (bP × V)} (ok : mL P w H h) (e : H a = some (.dK aO)) : aO.length <= sizeLine /\ (a == sysModules) = false /\ ∃ vs,KV aO vs /\ h.DictOf (bH P w) a vs := dk_rd ok (.inl e)
theorem key_of {ks : List bP} (ok : mL P w H h) (e : H a = some (.tup (ks.map kV))) : (tupleKind (bH P w)).is h ks a := by
 obtain ⟨_,bJ,r,o,h1,h2,n,h3⟩ := (show bZ P w H h a (.tup (ks.map kV)) from ok a _ e)
 exact ⟨o,bJ.toArray,n,h1,h2,h3,by simpa using items_are r⟩
theorem dt_rd {aO : List (List bP × V)} (ok : mL P w H h) (e : Rd H a (.dT aO)) : aO.length <= sizeLine /\ (a == sysModules) = false /\
 ∃ xs,KT H aO xs /\ h.DictOfH (tupleKind (bH P w)) a xs := by
 obtain ⟨z,y,xs,r,o,es,ep,h1,h2,h3,h4,h5⟩ := (show bZ P w H h a (.dT aO) from rd_of ok e)
 refine ⟨z,y,xs,r,o,es,ep,h1,h2,h3,h4,λ x hx => ?_,h5⟩
 have all : ∀ {l : List (List bP × V)} {m : List (List bP × Addr × Value)},KT H l m -> ∀ x ∈ m,(tupleKind (bH P w)).is h x.1 x.2.1 := by
  intro l m q
  induction q with
  | nil => intro x hx; exact nomatch hx
  | @cons p q ps qs hq t ih =>
   intro x hx
   rcases List.mem_cons.mp hx with e | hx
   . subst e;exact key_of ok (by rw [<- hq.1]; exact hq.2.1)
   . exact ih x hx
 exact all r x hx
theorem dt_of {aO : List (List bP × V)} (ok : mL P w H h) (e : H a = some (.dT aO)) : aO.length <= sizeLine /\ (a == sysModules) = false /\
 ∃ xs,KT H aO xs /\ h.DictOfH (tupleKind (bH P w)) a xs := dt_rd ok (.inl e)
end
def jC (H : Hp) (a : Addr) (y : V) (r : Option V) : Prop :=
 (∃ aO k,Rd H a (.dK aO) /\ y = kV k /\ r = eC aO k) \/ ∃ aO k b,Rd H a (.dT aO) /\ y = .ref b /\ H b = some (.tup (k.map kV)) /\ r = eC aO k
def rA (H : Hp) (a : Addr) (y v : V) (H' : Hp) : Prop :=
 (∃ aO k,H a = some (.dK aO) /\ y = kV k /\ aO.length < sizeLine /\ H' = aL H a (.dK (dY aO k v))) \/
 ∃ aO k b,H a = some (.dT aO) /\ y = .ref b /\ H b = some (.tup (k.map kV)) /\ aO.length < sizeLine /\ H' = aL H a (.dT (dY aO k v))
theorem jC.k {H : Hp} {a : Addr} {aO : List (bP × V)} {k : bP} (e : H a = some (.dK aO)) : jC H a (kV k) (eC aO k) := .inl ⟨aO,k,.inl e,rfl,rfl⟩
theorem rA.k {H : Hp} {a : Addr} {aO : List (bP × V)} {k : bP} {v : V} (e : H a = some (.dK aO)) (hl : aO.length < sizeLine) : rA H a (kV k) v (aL H a (.dK (dY aO k v))) := .inl ⟨aO,k,e,rfl,hl,rfl⟩
theorem rA.t {H : Hp} {a b : Addr} {aO : List (List bP × V)} {k : List bP} {v : V} (e : H a = some (.dT aO)) (eb : H b = some (.tup (k.map kV))) (hl : aO.length < sizeLine) :
 rA H a (.ref b) v (aL H a (.dT (dY aO k v))) := .inr ⟨aO,k,b,e,rfl,eb,hl,rfl⟩
section
variable {v : V} {r : Value} {o : Option V}
theorem aR.big (I : aR X aA σ H s) : sysModules < s.heap.objs.size := by
 have h : mainGlobals < s.heap.objs.size := (I.mod.glob.keeps I.bk).lt
 exact Nat.lt_trans (by decide) h
theorem d_getItem {Q : Value -> Shared -> Prop} (hu : A.units + 1 < cLine) (I : aR X aA σ H s) (g : jC H a y (some v)) (ry : bD y u) (h : ∀ w' s',aR X aA σ H s' -> bD v w' -> Q w' s') :
 wpAny (model X.prog X.w) A (getItem (.ref a) u) Q E s := by
 rcases g with ⟨aO,k,e,ey,l⟩ | ⟨aO,k,b,e,ey,eb,l⟩
 . subst ey;obtain ⟨z,hd,vs,nW,dd⟩ := dk_rd I.hok e;obtain ⟨w',hw,rw'⟩ := kC.some_of (v := v) (o := valueAt vs k) (by rw [l]; exact nW.val k);exact wpAny_getItem_of (mY ry) dd.mapOf hw (h w' _ (I.tok _) rw')
 . subst ey;cases (show u = Value.ref b from ry);obtain ⟨z,hd,xs,nW,dd⟩ := dt_rd I.hok e;obtain ⟨w',hw,rw'⟩ := kC.some_of (v := v) (o := (atKey xs k).map (·.2)) (by rw [l]; exact nW.val k);obtain ⟨p,hp,hp2⟩ := Option.map_eq_some_iff.mp hw;refine wpAny_getItem_heap (tupleKind_room_in1 hu) (key_of I.hok eb) dd hp ?_;rw [hp2];exact h w' _ (I.tok _) rw'
theorem d_notIn {Q : Value -> Shared -> Prop} (hu : A.units + 1 < cLine) (I : aR X aA σ H s) (g : jC H a y o) (ry : bD y u) (h : ∀ s',aR X aA σ H s' -> Q (.bool (!o.isSome)) s') :
 wpAny (model X.prog X.w) A (compareOp .NotIn u (.ref a)) Q E s := by
 rcases g with ⟨aO,k,e,ey,l⟩ | ⟨aO,k,b,e,ey,eb,l⟩
 . subst ey;obtain ⟨z,hd,vs,nW,dd⟩ := dk_rd I.hok e;refine wpAny_notIn_of (mY ry) hd dd.mapOf ?_;rw [<- (nW.val k).isSome_eq,<- l];exact h _ (I.tok _)
 . subst ey;cases (show u = Value.ref b from ry);obtain ⟨z,hd,xs,nW,dd⟩ := dt_rd I.hok e;refine wpAny_notIn_heap (tupleKind_room_in1 hu) (key_of I.hok eb) hd dd ?_;have q := (nW.val k).isSome_eq;rw [Option.isSome_map] at q;rw [<- q,<- l];exact h _ (I.tok _)
theorem oP {h' : Heap} {t' : Nat} {ob : HO} (I : aR X aA σ H s) (mu : Mut (H a)) (hs : Heap.SameBut a s.heap h') (he : ∃ q,h'.get? a = some q) (new : bZ X.prog X.w (aL H a ob) h' a ob) :
 aR X aA σ (aL H a ob) { s with heap := h',toks := t' } :=
 I.write (x := a) (e := a) mu (.inl rfl) (λ b q hb z => (hs.2 b hb).trans z) he new
theorem dk_new {P : Program} {w : World} {H' : Hp} {h' : Heap} {aO : List (bP × V)} {vs : List (bP × Value)} (z : aO.length <= sizeLine) (hd : (a == sysModules) = false) (nW : KV aO vs) (dd : h'.DictOf (bH P w) a vs) :
 bZ P w H' h' a (.dK aO) := ⟨z,hd,vs,nW,dd⟩
theorem d_setItem {H' : Hp} {Q : Unit -> Shared -> Prop} (hu : A.units + 1 < cLine) (I : aR X aA σ H s) (g : rA H a y v H') (ry : bD y u) (rv : bD v r) (h : ∀ s',aR X aA σ H' s' -> Q () s') :
 wpAny (model X.prog X.w) A (setItem (.ref a) u r) Q E s := by
 rcases g with ⟨aO,k,e,ey,l,eH⟩ | ⟨aO,k,b,e,ey,eb,l,eH⟩
 . subst ey eH;obtain ⟨z,hd,vs,nW,dd⟩ := dk_of I.hok e;have hz : vs.length <= sizeLine := by rw [<- nW.length]; exact z
   have hl : (dY aO k v).length <= sizeLine := by have := dJ aO k v; omega
   refine wpAny_setItem_pairs (hsz := hz) (mY ry) dd λ h' dd' hs => h _ ?_;have he : ∃ q,h'.get? a = some q := let ⟨q,_,_,hq,_⟩ := dd'; ⟨q,hq⟩
   exact oP I (by rw [e]; exact True.intro) hs he (dk_new hl hd (nW.put k rv) dd')
 . subst ey eH;cases (show u = Value.ref b from ry);obtain ⟨z,hd,xs,nW,dd⟩ := dt_of I.hok e;have hz : xs.length <= sizeLine := by rw [<- Paired.length nW]; exact z
   have hl : (dY aO k v).length <= sizeLine := by have := dJ aO k v; omega
   refine wpAny_setItem_heap (hsz := hz) (tupleKind_room_in1 hu) (key_of I.hok eb) dd λ h' dd' hs => h _ ?_;obtain ⟨q,es,ep,hq,h2,h3,h4,_,h5⟩ := dd';refine oP I (by rw [e]; exact True.intro) hs ⟨q,hq⟩ ⟨hl,hd,_,(nW.put k eb rv).keeps λ c ys ec => ?_,q,es,ep,hq,h2,h3,h4,h5⟩;rw [aH (cO ec e (λ z => nomatch z))];exact ec
end
section
variable {aO : List (bP × V)} {k : bP}
end
def NoSl (i : Expr) : Prop := ∀ ov iv,subscripted i false ov iv = operate [ov,iv] (getItem ov iv)
theorem subD_of {prog : Program} {w : World} {A : Around} {E : Value -> Shared -> Prop} {s : Shared} {env : Env} {value slice : Expr} {pos : Pos} {T id : String} {Q : Value -> Shared -> Prop}
 (hl : typeLookup (.type T) "__getitem__" = pure (some (.builtin id))) (hs : NoSl slice)
 (h : wpAny (model prog w) A (eval value env) (λ o s₁ => wpAny (model prog w) A (eval slice env) (λ i s₂ => s₂.TypeIs o T /\ wpAny (model prog w) A (getItem o i) Q E s₂) E s₁) E s) :
 wpAny (model prog w) A (eval (.Subscript value slice pos) env) Q E s := by
 refine Subscript_ (wpAny_mono h (λ o s₁ h₁ => wpAny_mono h₁ (λ i s₂ h₂ => ?_) λ _ _ x => x) λ _ _ x => x)
 obtain ⟨hT,h₂⟩ := h₂
 unfold subscriptTail
 refine wpAny_bind ?_
 rw [getitemInPython_of_ne hT.not_modules]
 refine wpAny_bind (wpAny_specialOf hT hl ?_)
 have eO : wpAny (model prog w) A (subscripted slice false o i) (λ r s₃ => wpAny (model prog w) A (letTemporaryGo value o r >>= λ _ => pure r) Q E s₃) E s₂ := by
  rw [hs o i];exact wpAny_operating (wpAny_mono h₂ (λ r s₃ h₃ => wpAny_bind (wpAny_letTemporaryGo (wpAny_pure h₃))) λ _ _ x => x)
 first
  | exact wpAny_pure (wpAny_bind eO)
  | exact wpAny_bind (wpAny_pure (wpAny_bind eO))
  | exact wpAny_bind eO
theorem dict_typeIs {X : Cx} {aA : List (Addr × Obj)} {σ : St} {H : Hp} {s : Shared} {a : Addr} {y : V} {o : Option V} (I : aR X aA σ H s) (g : jC H a y o) : s.TypeIs (.ref a) "dict" := by
 rcases g with ⟨aO,k,e,_,_⟩ | ⟨aO,k,b,e,_,_,_⟩
 . obtain ⟨_,_,vs,_,dd⟩ := dk_rd I.hok e;exact dd.typeIs
 . obtain ⟨_,_,xs,_,dd⟩ := dt_rd I.hok e;exact dd.typeIs
def tDGet (td ty : TE) : TE := λ σ H Q => td σ H λ x H1 => ty σ H1 λ y H2 => ∃ a v,x = .ref a /\ jC H2 a y (some v) /\ Q v H2
def tDNotIn (ty td : TE) : TE := λ σ H Q => ty σ H λ y H1 => td σ H1 λ x H2 => ∃ a o,x = .ref a /\ jC H2 a y o /\ Q (.bl (!o.isSome)) H2
def sDPut (td ty tv : TE) : TS := λ D σ H => tv σ H λ v H1 => td σ H1 λ x H2 => ty σ H2 λ y H3 => ∃ a H4,x = .ref a /\ rA H3 a y v H4 /\ D.nx σ H4
section
variable {o i value : Expr} {pos pos' tpos : Pos} {td ty tv : TE}
theorem jK (hu : X.A.units + 1 < cLine) (ho : PE X o td) (hi : PE X i ty) (hs : NoSl i) : PE X (.Subscript o i pos) (tDGet td ty) := by
 intro aA s σ H Q I h
 refine subD_of PySem.F.slot_dict_getitem.lookup hs (cP (ho aA s σ H _ I h) λ u s1 ⟨x,H1,I1,rx,q1⟩ => cP (hi aA s1 σ H1 _ I1 q1) λ iv s2 ⟨y,H2,I2,ry,a,v,ex,g,q2⟩ => ?_)
 subst ex
 obtain rfl : u = Value.ref a := rx
 exact ⟨dict_typeIs I2 g,d_getItem hu I2 g ry λ w' s3 I3 rw' => ⟨v,H2,I3,rw',q2⟩⟩
theorem pc_dnotin (hu : X.A.units + 1 < cLine) (hi : PE X i ty) (ho : PE X o td) : PC X .NotIn i o (tDNotIn ty td) := by
 intro aA s σ H Q I h
 refine cP (hi aA s σ H _ I h) λ iv s1 ⟨y,H1,I1,ry,q1⟩ => cP (ho aA s1 σ H1 _ I1 q1) λ u s2 ⟨x,H2,I2,rx,a,ov,ex,g,q2⟩ => ?_
 subst ex
 obtain rfl : u = Value.ref a := rx
 exact d_notIn hu I2 g ry λ s3 I3 => ⟨.bl (!ov.isSome),H2,I3,rfl,q2⟩
theorem mS (hu : X.A.units + 1 < cLine) (ho : PE X o td) (hi : PE X i ty) (hv : PE X value tv) (hs : swapsWith value (some (.Subscript o i pos')) pos.line X.env = pure false) :
 PS X (.Assign [.Subscript o i pos'] value pos) (sDPut td ty tv) := by
 intro aA s σ H D I h
 refine wpAny_Assign_Subscript (cP (hv aA s σ H _ I h) λ r s1 ⟨v,H1,I1,rv,q1⟩ => cP (ho aA s1 σ H1 _ I1 q1) λ u s2 ⟨x,H2,I2,rx,q2⟩ => cP (hi aA s2 σ H2 _ I2 q2) λ iv s3 ⟨y,H3,I3,ry,a,H4,ex,g,q3⟩ => ?_) hs
 subst ex
 obtain rfl : u = Value.ref a := rx
 exact d_setItem hu I3 g ry rv λ s4 I4 => ⟨σ,H4,I4,q3⟩
end
theorem dk_empty {P : Program} {w : World} {H : Hp} (h : Heap) (hb : sysModules < h.objs.size) : bZ P w H (h.push { cls := .type "dict",data := .dict #[] }) h.objs.size (.dK []) :=
 ⟨Nat.zero_le _,beq_eq_false_iff_ne.mpr (Ne.symm (Nat.ne_of_lt hb)),[],.nil,Heap.DictOf.new h⟩
theorem dt_empty {P : Program} {w : World} {H : Hp} (h : Heap) (hb : sysModules < h.objs.size) : bZ P w H (h.push { cls := .type "dict",data := .dict #[] }) h.objs.size (.dT []) :=
 ⟨Nat.zero_le _,beq_eq_false_iff_ne.mpr (Ne.symm (Nat.ne_of_lt hb)),[],.nil,_,#[],0,Heap.get?_push_size _ rfl,⟨rfl,rfl,rfl⟩,rfl,rfl,List.nodup_nil⟩
def tDNewK : TE := λ _ H Q => ∀ p,H p = none -> Q (.ref p) (aL H p (.dK []))
def tDNewT : TE := λ _ H Q => ∀ p,H p = none -> Q (.ref p) (aL H p (.dT []))
section
variable {pos : Pos}
theorem pe_dnewK : PE X (.Dict [] [] pos) tDNewK := λ aA s σ H Q I h =>
 wpAny_Dict_empty ⟨.ref s.heap.objs.size,_,I.laid (a := s.heap.objs.size) (o := .dK []) (t' := s.toks) (λ _ _ q => Heap.get?_push_of_some _ q) (Nat.le_refl _) (dk_empty s.heap I.big),rfl,h _ (I.hok.fresh (Nat.le_refl _))⟩
theorem pe_dnewT : PE X (.Dict [] [] pos) tDNewT := λ aA s σ H Q I h =>
 wpAny_Dict_empty ⟨.ref s.heap.objs.size,_,I.laid (a := s.heap.objs.size) (o := .dT []) (t' := s.toks) (λ _ _ q => Heap.get?_push_of_some _ q) (Nat.le_refl _) (dt_empty s.heap I.big),rfl,h _ (I.hok.fresh (Nat.le_refl _))⟩
end
def tPairs : List (TE × TE) -> St -> Hp -> (List (V × V) -> Hp -> Prop) -> Prop
 | [],_,H,Q => Q [] H
 | (tk,tv) :: r,σ,H,Q => tk σ H λ x H1 => tv σ H1 λ y H2 => tPairs r σ H2 λ ps H3 => Q ((x,y) :: ps) H3
abbrev VV : List (V × V) -> List (Value × Value) -> Prop := Paired λ p q => bD p.1 q.1 /\ bD p.2 q.2
def PPs (X : Cx) (pos : Pos) (keys : List (Option Expr)) (values : List Expr) (trs : List (TE × TE)) : Prop :=
 ∀ (aA : List (Addr × Obj)) (s : Shared) (σ : St) (H : Hp) (Q : List (V × V) -> Hp -> Prop),aR X aA σ H s -> tPairs trs σ H Q ->
  wpAny (model X.prog X.w) X.A (evalPairs (pairTrees keys values X.env pos)) (λ vs s' => ∃ ps H',aR X aA σ H' s' /\ VV ps vs /\ Q ps H') X.xe s
theorem pps_nil {X : Cx} {pos : Pos} : PPs X pos [] [] [] := λ aA s σ H Q I h => pairTrees_nil_walk ⟨[],H,I,.nil,h⟩
theorem pps_cons {X : Cx} {pos : Pos} {k v : Expr} {ks : List (Option Expr)} {vs : List Expr} {tk tv : TE} {trs : List (TE × TE)} (hk : PE X k tk) (hv : PE X v tv) (hr : PPs X pos ks vs trs) :
 PPs X pos (some k :: ks) (v :: vs) ((tk,tv) :: trs) := λ aA s σ H Q I h =>
 pairTrees_cons_walk (cP (hk aA s σ H _ I h) λ u s1 ⟨x,H1,I1,rx,q1⟩ => cP (hv aA s1 σ H1 _ I1 q1) λ w2 s2 ⟨y,H2,I2,ry,q2⟩ =>
  cP (hr aA s2 σ H2 _ I2 q2) λ ws s3 ⟨ps,H3,I3,nW,q3⟩ => ⟨(x,y) :: ps,H3,I3,.cons ⟨rx,ry⟩ nW,q3⟩)
def gJ (aO more : List (bP × V)) : List (bP × V) := more.foldl (λ acc kv => dY acc kv.1 kv.2) aO
theorem KV.merge : ∀ {more : List (bP × V)} {rs : List (bP × Value)} {aO : List (bP × V)} {vs : List (bP × Value)},KV more rs -> KV aO vs -> KV (gJ aO more) (merged vs rs) := by
 intro more rs aO vs r
 unfold KV at r
 induction r generalizing aO vs with
 | nil => intro q; exact q
 | @cons p q ps qs h t ih =>
  intro r0;have e : KV (dY aO p.1 p.2) (stored vs q.1 q.2) := by
   have := r0.put p.1 h.2;rw [<- h.1]; exact this
  exact ih e
theorem jV : ∀ (more aO : List (bP × V)),(gJ aO more).length <= aO.length + more.length
 | [],aO => by show aO.length <= aO.length + 0; omega
 | p :: r,aO => by
  have h1 := jV r (dY aO p.1 p.2);have h2 := dJ aO p.1 p.2;show (gJ (dY aO p.1 p.2) r).length <= _;rw [List.length_cons]; omega
theorem carries_of {P : Program} {w : World} : ∀ {aO : List (bP × V)} {ws : List (Value × Value)},VV (aO.map λ kv => (kV kv.1,kv.2)) ws -> ∃ rs,Carries (bH P w) ws rs /\ KV aO rs
 | [],_,r => by rw [List.map_nil] at r; cases r; exact ⟨[],True.intro,.nil⟩
 | p :: aO,_,r => by
  rw [List.map_cons] at r;cases r with
  | @cons a b as bs h t =>
   obtain ⟨rs,c,q⟩ := carries_of (P := P) (w := w) t;obtain ⟨b1,b2⟩ := b;exact ⟨(p.1,b2) :: rs,⟨mY h.1,rfl,c⟩,.cons ⟨rfl,h.2⟩ q⟩
def tDisp (trs : List (TE × TE)) : TE := λ σ H Q => ∀ p,H p = none -> tPairs trs σ (aL H p (.dK [])) λ ps H2 => H2 p = some (.dK []) /\ ∃ aO : List (bP × V),ps = aO.map (λ kv => (kV kv.1,kv.2)) /\ aO.length <= 15 /\ Q (.ref p) (aL H2 p (.dK (gJ [] aO)))
theorem pe_disp {X : Cx} {pos : Pos} {keys : List (Option Expr)} {values : List Expr} {trs : List (TE × TE)} (h : PPs X pos keys values trs) (hall : keys.all (·.isSome) = true) (hl : keys.length = values.length) (h0 : keys ≠ [])
 (h15 : keys.length <= 15) : PE X (.Dict keys values pos) (tDisp trs) := by
 intro aA s σ H Q I q
 have hn := I.hok.fresh (Nat.le_refl s.heap.objs.size)
 have I1 := I.laid (a := s.heap.objs.size) (o := .dK []) (h' := s.heap.push { cls := .type "dict",data := .dict #[] }) (t' := s.toks) (λ _ _ q => Heap.get?_push_of_some _ q) (Nat.le_refl _) (dk_empty s.heap I.big)
 refine wpAny_Dict_walk (knd := bH X.prog X.w) hall hl h0 h15 (cP (h aA _ σ _ _ I1 (q _ hn)) λ ws s2 ⟨ps,H2,I2,nW,e,aO,ep,lk,q2⟩ => ?_)
 subst ep
 obtain ⟨rs,c,rk⟩ := carries_of (P := X.prog) (w := X.w) nW
 obtain ⟨z,hd,vs0,r0,dd⟩ := dk_of I2.hok e
 cases r0
 refine ⟨rs,c,dd,λ h' dd' hs => ⟨.ref s.heap.objs.size,_,?_,rfl,q2⟩⟩
 have hz : (gJ [] aO).length <= sizeLine := by
  have h1 := jV aO [];rw [List.length_nil] at h1;rw [sizeLine_eq]; omega
 have he : ∃ q,h'.get? s.heap.objs.size = some q := let ⟨q,_,_,hq,_⟩ := dd'; ⟨q,hq⟩
 exact oP I2 (by rw [e]; exact True.intro) hs he (dk_new hz hd (rk.merge .nil) dd')
structure M1 (X : Cx) (o : Expr) (m : Str) (kA : Pos) (e : Expr) (gZ : Pos) : Prop where
 base : attributeBase o m X.env (eval o X.env) = eval o X.env
 few : ((backTo gZ (starEach [e] X.env)).all (λ x => !x.1) && (backToKw gZ (keywordEach [] X.env)).all (λ x => x.1.isSome)
  && decide (([e] : List Expr).length + ([] : List Keyword).length + (if ([] : List Keyword).isEmpty then 0 else 1) < 30)) = true
 line : (kA.endLine == gZ.line) = true
 trees : backTo gZ (starEach [e] X.env) = [(false,eval e X.env)]
section
variable {d : V} {r : Value} {o : Option V}
end
section
variable {o f : Expr} {kA gZ : Pos} {td ty tx : TE}
end
section
variable {aO : List (bP × V)}
end
abbrev TM := St -> Hp -> (St -> Hp -> Prop) -> Prop
def PM (X : Cx) (emit : Sem Unit) (t : TM) : Prop :=
 ∀ (aA : List (Addr × Obj)) (s : Shared) (σ : St) (H : Hp) (Q : St -> Hp -> Prop),aR X aA σ H s -> t σ H Q ->
  wpAny (model X.prog X.w) X.A emit (λ _ s' => ∃ σ' H',aR X aA σ' H' s' /\ Q σ' H') (λ _ _ => False) s
def PB (X : Cx) (body : Sem Fin) (c : Code) (t : TM) : Prop :=
 ∀ (aA : List (Addr × Obj)) (s : Shared) (σ : St) (H : Hp) (Q : St -> Hp -> Prop),aR X aA σ H s -> t σ H Q ->
  wpAny (model X.prog X.w) X.A body (λ f s' => f = .again c /\ ∃ σ' H',aR X aA σ' H' s' /\ Q σ' H') (λ _ _ => False) s
theorem PM.pb {X : Cx} {emit : Sem Unit} {c : Code} {t : TM} (h : PM X emit t) : PB X (emit >>= λ _ => again c) c t := λ aA s σ H Q I q =>
 wpAny_bind (wpAny_mono (h aA s σ H Q I q) (λ _ s' h' => wpAny_pure ⟨rfl,h'⟩) λ _ _ z => z)
def lL (J : It) (g : TG) (tc : TT) (tm : TM) (Q : St -> Hp -> Prop) (σ0 : St) (H1 : Hp) : Prop := ∃ W : Nat -> Nat -> St -> Hp -> Prop,(∃ m,W 0 m σ0 H1) /\
 ∀ i m σ H,W i m σ H -> (J.stop i H /\ Q σ H) \/ (J.go i H /\ ∃ N : St -> Hp -> Prop,(∀ σ' H',N σ' H' -> ∃ m',m' < m /\ W (i + 1) m' σ' H') /\
  ∀ x H',J.yld i H x H' -> g x σ H' λ σ2 H2 => tc σ2 H2 λ b H3 => if b = true then tm σ2 H3 N else N σ2 H3)
def tEmit (D : Addr) (te : TE) : TM := λ σ H Q => te σ H λ v H4 => ∃ ys,H4 D = some (.lst ys) /\ ys.length < sizeLine /\ Q σ (aL H4 D (.lst (ys ++ [v])))
def tEmitD (D : Addr) (tk tv : TE) : TM := λ σ H Q => tk σ H λ y H4 => tv σ H4 λ v H5 => ∃ aO k,y = kV k /\ H5 D = some (.dK aO) /\ aO.length < sizeLine /\ Q σ (aL H5 D (.dK (dY aO k v)))
def tNest (wi : TI) (g : TG) (tc : TT) (tm : TM) : TM := λ σ H Q => wi σ H λ J H1 => lL J g tc tm Q σ H1
abbrev tests (iR : List Expr) (env : Env) : Sem Bool := forIn iR true λ c r => if r = true then do let ok <- isTrue c env (eval c env); pure (ForInStep.yield ok) else pure (ForInStep.yield r)
def turnG (e : Expr) (depth : Nat) (tg : Expr) (iR : List Expr) (p : Pos) (body : Sem Fin) (it acc : Value) (env : Env) : Sem Fin := do
 standAt p
 match <- pyNext it with
 | none => pure (.done .next)
 | some v =>
  letOwnedTupleGo tg it v
  assign tg env v
  let mut ok := true
  for c in iR do
   if ok then ok <- isTrue c env (eval c env)
  if ok then body else again (.compLoop e depth it acc env)
section
variable {prog : Program} {R : Result -> Shared -> Prop}
theorem turnG_ok {e tg : Expr} {depth : Nat} {iR : List Expr} {p : Pos} {body : Sem Fin} {it acc : Value} {env : Env} {n : Nat} {I : Nat -> Shared -> Prop} {R' : Value -> Shared -> Prop}
 (oU : wpAny (model prog w) A (pyNext it) (λ r s₁ => match r with
  | none => R (.ok .next) s₁
  | some v => wpAny (model prog w) A (letOwnedTupleGo tg it v) (λ _ s₁' => wpAny (model prog w) A (assign tg env v) (λ _ s₂ =>
   wpAny (model prog w) A (tests iR env) (λ ok s₃ =>
    if ok = true then wpAny (model prog w) A body (λ f s₄ => f = .again (.compLoop e depth it acc env) /\ ∃ m,m < n /\ I m s₄) (λ _ _ => False) s₃
    else ∃ m,m < n /\ I m s₃) (λ _ _ => False) s₂) (λ _ _ => False) s₁') (λ _ _ => False) s₁) (λ _ _ => False) s) :
 wpAny (model prog w) A (turnG e depth tg iR p body it acc env) (λ f s' => match f with
  | .done fl => R (.ok fl) s'
  | .again c => c = .compLoop e depth it acc env /\ ∃ m,m < n /\ I m s') R' s := by
 unfold turnG
 refine wpAny_bind (wpAny_standAt (wpAny_bind (wpAny_mono oU (λ r s₁ h₁ => ?_) λ _ _ h' => h'.elim)))
 cases r with
 | none => exact wpAny_pure h₁
 | some v =>
  refine wpAny_bind (wpAny_mono h₁ (λ _ s₁' h₁' => ?_) λ _ _ h' => h'.elim);refine wpAny_bind (wpAny_mono h₁' (λ _ s₂ h₂ => wpAny_bind (wpAny_mono h₂ (λ ok s₃ h₃ => ?_) λ _ _ h' => h'.elim)) λ _ _ h' => h'.elim);cases ok with
  | false => exact wpAny_pure ⟨rfl,h₃⟩
  | true => exact wpAny_mono h₃ (λ f s₄ h₄ => by obtain ⟨e1,h₄⟩ := h₄; subst e1; exact ⟨rfl,h₄⟩) λ _ _ h' => h'.elim
end
theorem nJ {aA : List (Addr × Obj)} {e tg : Expr} {depth : Nat} {iR : List Expr} {p : Pos} {body : Sem Fin} {acc : Value} {J : It} {fp : List Addr} {it : Addr} {tn : Nat -> Heap -> Prop} {g : TG} {tc : TT} {tm : TM} {Q : St -> Hp -> Prop} {σ0 : St} {H1 : Hp} {s : Shared} {R : Result -> Shared -> Prop}
 (hxe : X.xe = λ _ _ => False) (hc : X.calm = true) (hq : (Code.compLoop e depth (.ref it) acc X.env).quiet = true)
 (hden : (model X.prog X.w).den (.compLoop e depth (.ref it) acc X.env) = (turnG e depth tg iR p body (.ref it) acc X.env).onRaise (λ x => do noteFrame x X.env; theTreesLotGoes x)) (hun : X.A.under (.compLoop e depth (.ref it) acc X.env) = X.A)
 (hg : PG X tg g) (hts : PTs X iR tc) (hm : PB X body (.compLoop e depth (.ref it) acc X.env) tm) (T : qY X.prog X.w X.K tg J fp it tn) (I : aR X aA σ0 H1 s) (st : tn 0 s.heap) (f : ∀ b ∈ fp,iM X aA H1 b)
 (h : lL J g tc tm Q σ0 H1) (hR : ∀ s' σ' H',aR X aA σ' H' s' -> Q σ' H' -> R (.ok .next) s') : codeAny (model X.prog X.w) X.A (.compLoop e depth (.ref it) acc X.env) R s := by
 obtain ⟨W,⟨m0,w0⟩,oU⟩ := h
 have stat : ∀ {H' : Hp},(∀ b ∈ fp,H' b = none) -> ∀ b ∈ fp,iM X aA H' b := λ hn b hb => ⟨hn b hb,(f b hb).2⟩
 have no : ∀ (x : Value) (s' : Shared),X.xe x s' -> False := λ x s' z => by rw [hxe] at z; exact z
 refine codeAny_loop hq (λ n s' => ∃ i σ' H',aR X aA σ' H' s' /\ tn i s'.heap /\ (∀ b ∈ fp,H' b = none) /\ W i n σ' H') (λ n s3 hI => ?_) m0 ⟨0,σ0,H1,I,st,λ b hb => (f b hb).1,w0⟩
 obtain ⟨i,σ3,H3,I3,st3,fr3,w3⟩ := hI
 rw [hden,hun]
 refine wpAny_noted (turnG_ok (I := λ n s' => ∃ i σ' H',aR X aA σ' H' s' /\ tn i s'.heap /\ (∀ b ∈ fp,H' b = none) /\ W i n σ' H') ?_)
 rcases oU i n σ3 H3 w3 with ⟨stop,qn⟩ | ⟨go,N,hN,step⟩
 . refine cP (T.done X rfl rfl rfl hc i aA s3 σ3 H3 _ I3 (stat fr3) st3 stop) λ r s4 ⟨hr,I4⟩ => ?_;subst hr;exact hR _ _ _ I4 qn
 . refine cP (T.item X rfl rfl rfl hc i aA s3 σ3 H3 _ I3 (stat fr3) st3 go) λ r s4 ⟨u,hr,h4⟩ => ?_;subst hr;refine cP h4 λ _ s5 ⟨x,H5,I5,r5,y5,st5,fr5⟩ => ?_;have I5' := I5.pinned (stat fr5) (T.obj _ _ st5);have again : ∀ {σ7 : St} {H7 : Hp} {s7 : Shared},aR X (aA ++ pH fp s5.heap) σ7 H7 s7 -> N σ7 H7 -> ∃ m,m < n /\ ∃ i σ' H',aR X aA σ' H' s7 /\ tn i s7.heap /\ (∀ b ∈ fp,H' b = none) /\ W i m σ' H' := λ {σ7 H7 s7} I7 n7 => by
    obtain ⟨m',hm,w7⟩ := hN σ7 H7 n7;refine ⟨m',hm,i + 1,σ7,H7,I7.unpinned,T.keep _ _ _ st5 λ b hb o e => (I7.pin (b,o) (List.mem_append_right _ (List.mem_append_right _ (jA hb e)))).1,λ b hb => ?_,w7⟩;obtain ⟨o,e,d⟩ := T.obj _ _ st5 b hb;exact (I7.pin (b,o) (List.mem_append_right _ (List.mem_append_right _ (jA hb e)))).2.1
   refine wpAny_mono (hg _ s5 σ3 H5 x u _ I5' r5 (step x H5 y5)) (λ _ s6 ⟨σ6,H6,I6,q6⟩ => ?_) no;refine wpAny_mono (hts _ s6 σ6 H6 _ I6 q6) (λ ok s7 ⟨H7,I7,q7⟩ => ?_) no;cases ok with
   | false =>
    simp only [Bool.false_eq_true,if_false] at q7 ⊢;exact again I7 q7
   | true =>
    simp only [if_true] at q7 ⊢;exact cP (hm _ s7 σ6 H7 _ I7 q7) λ _ s8 ⟨e8,σ8,H8,I8,q8⟩ => ⟨e8,again I8 q8⟩
abbrev emitL (D : Addr) (kN : Expr) (env : Env) : Sem Unit := do let _ <- call (.builtin "list.append") [.ref D,<- eval kN env]
abbrev emitD (D : Addr) (kx vx : Expr) (env : Env) : Sem Unit := do
 let kv <- eval kx env
 let vv <- holding [kv] (eval vx env)
 standAt { kx.pos with endLine := vx.pos.endLine,endCol := vx.pos.endCol }
 holding [kv,vv] (dictSet D kv vv)
abbrev emitN (e : Expr) (depth : Nat) (cZ : Expr) (acc : Value) (env : Env) (c : Code) : Sem Fin := do
 let x <- eval cZ env
 standAt cZ.pos
 let x <- foldedSetIterable cZ env x
 let _ <- runOwn (.compStart e depth (<- holding [x] (pyIter x)) acc env) env
 again c
theorem pm_list {D : Addr} {kN : Expr} {te : TE} (hxe : X.xe = λ _ _ => False) (he : PE X kN te) : PM X (emitL D kN X.env) (tEmit D te) := by
 intro aA s σ H Q I h
 have no : ∀ (x : Value) (s' : Shared),X.xe x s' -> False := λ x s' z => by rw [hxe] at z; exact z
 refine wpAny_bind (wpAny_mono (he aA s σ H _ I h) (λ xv s1 ⟨v,H1,I1,r1,ys,hD,hl,q⟩ => ?_) no)
 refine wpAny_bind (wpAny_mono (iS aA s1 σ H1 (.ref D) [v] _ [xv] (λ _ H' => H' = aL H1 D (.lst (ys ++ [v]))) I1 rfl (.cons r1 .nil) ⟨D,ys,v,rfl,rfl,hD,hl,rfl⟩) (λ _ s2 ⟨_,H2,I2,_,e2⟩ => ?_) no)
 exact wpAny_pure ⟨σ,H2,I2,by rw [e2]; exact q⟩
theorem pm_dict {D : Addr} {kx vx : Expr} {tk tv : TE} (hxe : X.xe = λ _ _ => False) (hk : PE X kx tk) (hv : PE X vx tv) : PM X (emitD D kx vx X.env) (tEmitD D tk tv) := by
 intro aA s σ H Q I h
 have no : ∀ (x : Value) (s' : Shared),X.xe x s' -> False := λ x s' z => by rw [hxe] at z; exact z
 refine wpAny_bind (wpAny_mono (hk aA s σ H _ I h) (λ kv s1 ⟨y,H1,I1,r1,q1⟩ => ?_) no)
 refine wpAny_bind (wpAny_holding (wpAny_mono (hv aA s1 σ H1 _ I1 q1) (λ vv s2 ⟨v,H2,I2,r2,aO,k,ey,e,l,q⟩ => ?_) no))
 subst ey
 refine wpAny_bind (wpAny_standAt (wpAny_holding ?_))
 obtain ⟨z,hd,vs,nW,dd⟩ := dk_of I2.hok e
 have hz : vs.length <= sizeLine := by rw [<- nW.length]; exact z
 have hl : (dY aO k v).length <= sizeLine := by have := dJ aO k v; omega
 refine wpAny_dictSet_pairs (hsz := hz) (mY r1) dd λ h' dd' hs => ⟨σ,_,?_,q⟩
 have he : ∃ q,h'.get? D = some q := let ⟨q,_,_,hq,_⟩ := dd'; ⟨q,hq⟩
 exact oP I2 (by rw [e]; exact True.intro) hs he (dk_new hl hd (nW.put k r2) dd')
theorem pm_nest {kN tg1 it1 tg2 qW : Expr} {if1 if2 : List Expr} {scope : Scope} {pos : Pos} {D : Addr} {wi : TI} {g : TG} {tc : TT} {te : TE} {c : Code} (hxe : X.xe = λ _ _ => False) (hc : X.calm = true)
 (hi : PI X tg2 qW wi) (hg : PG X tg2 g) (hts : PTs X if2 tc) (he : PE X kN te) (hs : ∀ x,foldedSetIterable qW X.env x = pure x) :
 PB X (emitN (.ListComp kN [⟨tg1,it1,if1,0⟩,⟨tg2,qW,if2,0⟩] scope pos) 1 qW (.ref D) X.env c) c (tNest wi g tc (tEmit D te)) := by
 intro aA s σ H Q I h
 have no : ∀ (x : Value) (s' : Shared),X.xe x s' -> False := λ x s' z => by rw [hxe] at z; exact z
 refine wpAny_bind (wpAny_mono (hi aA s σ H _ I h) (λ v s1 h1 => ?_) no)
 refine wpAny_bind (wpAny_standAt (wpAny_bind ?_))
 rw [hs v]
 refine wpAny_pure (wpAny_bind (wpAny_holding (wpAny_mono h1 (λ itv s2 h2 => ?_) no)))
 obtain ⟨it,fp,tn,J,H2,e,I2,T,qZ,f2,q⟩ := h2
 subst e
 have kY : codeAny (model X.prog X.w) X.A (.compLoop (.ListComp kN [⟨tg1,it1,if1,0⟩,⟨tg2,qW,if2,0⟩] scope pos) 1 (.ref it) (.ref D) X.env)
  (λ r s' => match r with | .ok f => (∃ σ' H',aR X aA σ' H' s' /\ Q σ' H') | .error e => cameBackBy (model X.prog X.w) X.A X.env (λ _ _ => False) e s') s2 := by
  refine nJ (p := qW.pos) (body := emitL D kN X.env >>= λ _ => again _) hxe hc rfl rfl rfl hg hts (pm_list hxe he).pb T I2 qZ f2 q λ s' σ' H' I' q' => ?_;exact ⟨σ',H',I',q'⟩
 refine wpAny_bind (wpAny_runOwn (codeAny_mono (R := λ r s' => match r with | .ok f => (∃ σ' H',aR X aA σ' H' s' /\ Q σ' H') | .error e => cameBackBy (model X.prog X.w) X.A X.env (λ _ _ => False) e s') ?_ λ r s' hr => ?_))
 . refine codeAny_of_tree ?_;show wpAny _ X.A ((compStart (.ListComp kN [⟨tg1,it1,if1,0⟩,⟨tg2,qW,if2,0⟩] scope pos) 1 (.ref it) (.ref D) X.env).onRaise (λ x => do noteFrame x X.env; standAt theWindowsPlace)) _ _ s2;refine wpAny_notedAt ?_;unfold compStart;show wpAny _ _ (ask >>= _) _ _ s2;refine wpAny_bind (wpAny_askSetting (wpAny_ite ?_))
   split
   . first
      | exact wpAny_bind (wpAny_pure (wpAny_pure (And.intro rfl kY)))
      | exact wpAny_pure (And.intro rfl kY)
   . have h' := T.self X.A 0 s2 (λ it' s' => codeAny (model X.prog X.w) X.A (.compLoop (.ListComp kN [⟨tg1,it1,if1,0⟩,⟨tg2,qW,if2,0⟩] scope pos) 1 it' (.ref D) X.env) (λ r s' => match r with | .ok f => (∃ σ' H',aR X aA σ' H' s' /\ Q σ' H') | .error e => cameBackBy (model X.prog X.w) X.A X.env (λ _ _ => False) e s') s') (λ _ _ => False) qZ kY
     first
      | exact wpAny_bind (wpAny_rule (wpAny_bind (wpAny_standAt (wpAny_bind (wpAny_mono h' (λ it' s' h' => wpAny_pure (And.intro rfl h')) λ _ _ x => x.elim)))))
      | (refine wpAny_bind (wpAny_rule ?_); show wpAny _ _ (standAt qW.pos >>= _) _ _ s2; exact wpAny_bind (wpAny_standAt (wpAny_bind (wpAny_mono h' (λ it' s' h' => wpAny_pure (And.intro rfl h')) λ _ _ x => x.elim))))
 . cases r with
   | error e => exact hr
   | ok fl => exact wpAny_pure ⟨rfl,hr⟩
def tComp2 (wi : TI) (n : Nat) (idx : List Nat) (g : TG) (tc : TT) (wi2 : TI) (g2 : TG) (tc2 : TT) (te : TE) : TE := λ σ H Q => wi σ H λ J H1 => ∀ D,H1 D = none -> lL J g tc (tNest wi2 g2 tc2 (tEmit D te)) (λ _ H' => Q (.ref D) H') (jU n idx σ) (aL H1 D (.lst []))
def tDComp (wi : TI) (n : Nat) (idx : List Nat) (g : TG) (tc : TT) (tk tv : TE) : TE := λ σ H Q => wi σ H λ J H1 => ∀ D,H1 D = none -> lL J g tc (tEmitD D tk tv) (λ _ H' => Q (.ref D) H') (jU n idx σ) (aL H1 D (.dK []))
theorem comp_block {e : Expr} {tg : Expr} {scope : Scope} {own fr : List Str} {idx : List Nat} {aA : List (Addr × Obj)} {σ : St} {H2 : Hp} {s2 s3 : Shared} {o0 : HO} {fp : List Addr} {it : Addr} {tn : Nat -> Heap -> Prop} {J : It} {g : TG} {tc : TT} {tm : TM} {Q : VK} {body : Env -> Sem Fin} {iR : List Expr} {p : Pos}
 (hc : X.calm = true) (S : aV own fr scope X.env.scope) (hix : idx.length = fr.length) (oA : ∀ (k : Nat) (x : Str) (j : Nat),fr[k]? = some x -> idx[k]? = some j -> X.N[j]? = some x)
 (T : qY X.prog X.w X.K tg J fp it tn) (qZ : tn 0 s2.heap) (f2 : ∀ b ∈ fp,iM X aA H2 b)
 (hs3 : ∃ o,s3 = { s2 with heap := s2.heap.push o,toks := s2.toks }) (I3 : aR X aA σ (aL H2 s2.heap.objs.size o0) s3)
 (hg : ∀ C s H aA fp,PG (bL X scope C (own ++ fr) s H aA fp) tg g) (ht : ∀ C s H aA fp,PTs (bL X scope C (own ++ fr) s H aA fp) iR tc)
 (hm : ∀ C s H aA fp,PB (bL X scope C (own ++ fr) s H aA fp) (body (bL X scope C (own ++ fr) s H aA fp).env) (.compLoop e 0 (.ref it) (.ref s2.heap.objs.size) (bL X scope C (own ++ fr) s H aA fp).env) tm)
 (hq : ∀ env,(Code.compLoop e 0 (.ref it) (.ref s2.heap.objs.size) env).quiet = true)
 (hden : ∀ env,(model X.prog X.w).den (.compLoop e 0 (.ref it) (.ref s2.heap.objs.size) env) = (turnG e 0 tg iR p (body env) (.ref it) (.ref s2.heap.objs.size) env).onRaise (λ x => do noteFrame x env; theTreesLotGoes x))
 (hun : ∀ env,X.A.under (.compLoop e 0 (.ref it) (.ref s2.heap.objs.size) env) = X.A)
 (hst : ∀ env R s,codeAny (model X.prog X.w) X.A (.compLoop e 0 (.ref it) (.ref s2.heap.objs.size) env) R s -> tn 0 s.heap -> codeAny (model X.prog X.w) X.A (.compStart e 0 (.ref it) (.ref s2.heap.objs.size) env) R s)
 (h : lL J g tc tm (λ _ H' => Q (.ref s2.heap.objs.size) H') (jU own.length idx σ) (aL H2 s2.heap.objs.size o0)) {E : Value -> Shared -> Prop} :
 wpAny (model X.prog X.w) X.A (newFunctionEnv scope X.env.globals (cU X.env scope.names []) [] X.env.qual none .none (some X.env)) (λ cenv s₄ =>
  codeAny (model X.prog X.w) X.A (.compStart e 0 (.ref it) (.ref s2.heap.objs.size) { cenv with scope := relabel scope X.env }) (compPost (model X.prog X.w) X.A X.xe none (EP X aA σ Q) (.ref s2.heap.objs.size) cenv.locals) s₄) E s3 := by
 have fpl : ∀ b ∈ fp,b < s2.heap.objs.size := λ b hb => by
  obtain ⟨o,e,_⟩ := T.obj _ _ qZ b hb;exact Heap.lt_size e
 have f3 : ∀ b ∈ fp,iM X aA (aL H2 s2.heap.objs.size o0) b := λ b hb => ⟨by rw [aH (Nat.ne_of_lt (fpl b hb))]; exact (f2 b hb).1,(f2 b hb).2⟩
 obtain ⟨oo,hs3⟩ := hs3
 have hsz : s3.heap.objs.size = s2.heap.objs.size + 1 := by rw [hs3]; exact Heap.size_push _ _
 have st3 : tn 0 s3.heap := T.keep _ _ _ qZ λ b hb o e => by rw [hs3]; exact Heap.get?_push_of_some _ e
 refine wpAny_newFunctionEnv S.nocell (by intro y hy; simp at hy) (λ h4 hn4 hsb4 => ?_) S.kind
 have hk4 : ∀ b o,s3.heap.get? b = some o -> h4.get? b = some o := λ b o e => hsb4.extBut b o (Nat.ne_of_lt (Heap.lt_size e)) (Heap.get?_push_of_some _ e)
 have I4 := lA (idx := idx) (tk := s3.toks + ([] : List (Str × Value)).length) S hix oA I3 f3 (λ b hb => by rw [hsz]; exact Nat.lt_succ_of_lt (fpl b hb)) hn4 hk4
 have fpC : ∀ b ∈ fp,iM (bL X scope s3.heap.objs.size (own ++ fr) s3 (aL H2 s2.heap.objs.size o0) aA fp) [] (aL H2 s2.heap.objs.size o0) b := λ b hb => by
  obtain ⟨g0,g1,g2,g3,g4,g5⟩ := f3 b hb;refine ⟨g0,?_,λ z => ?_,.inl hb,λ x c e => g4 x c ((gP _ _ x c e).elim id λ z => nomatch z),λ p hp => ?_⟩
  . show b ≠ s3.heap.objs.size
    exact Nat.ne_of_lt (by rw [hsz]; exact Nat.lt_succ_of_lt (fpl b hb))
  . rcases List.mem_cons.mp (I3.stkSub b z) with q | q
    . exact g1 q
    . exact g2 q
  . rcases List.mem_append.mp hp with q | q
    . exact g5 p q
    . exact nomatch q
 have st4 : tn 0 h4 := T.keep _ _ _ st3 λ b _ o e => hk4 b o e
 have kY := nJ (X := bL X scope s3.heap.objs.size (own ++ fr) s3 (aL H2 s2.heap.objs.size o0) aA fp) (e := e) (depth := 0) (p := p) (acc := .ref s2.heap.objs.size) (R := compPost (model X.prog X.w) X.A X.xe none (EP X aA σ Q) (.ref s2.heap.objs.size) s3.heap.objs.size)
  rfl hc (hq _) (hden _) (hun _) (hg _ _ _ _ _) (ht _ _ _ _ _) (hm _ _ _ _ _) T I4 st4 fpC h λ s' σ' H' I' q' => by
   obtain ⟨m6,hn6,_⟩ := id I'.loc;exact ⟨m6,hn6,λ h' hsb => ⟨.ref s2.heap.objs.size,H',mQ I3 f3 I' hsb,rfl,q'⟩⟩
 exact hst _ _ _ kY st4
theorem pe_comp2 {kN tg cZ tg2 qW : Expr} {iR if2 : List Expr} {scope : Scope} {own fr : List Str} {idx : List Nat} {wi : TI} {g : TG} {tc : TT} {wi2 : TI} {g2 : TG} {tc2 : TT} {te : TE} {pos : Pos} (hc : X.calm = true) (S : aV own fr scope X.env.scope)
 (hi : PI X tg cZ wi) (hg : ∀ C s H aA fp,PG (bL X scope C (own ++ fr) s H aA fp) tg g) (ht : ∀ C s H aA fp,PTs (bL X scope C (own ++ fr) s H aA fp) iR tc)
 (hi2 : ∀ C s H aA fp,PI (bL X scope C (own ++ fr) s H aA fp) tg2 qW wi2) (hg2 : ∀ C s H aA fp,PG (bL X scope C (own ++ fr) s H aA fp) tg2 g2) (ht2 : ∀ C s H aA fp,PTs (bL X scope C (own ++ fr) s H aA fp) if2 tc2)
 (he : ∀ C s H aA fp,PE (bL X scope C (own ++ fr) s H aA fp) kN te)
 (hix : idx.length = fr.length := by rfl) (oA : ∀ (k : Nat) (x : Str) (j : Nat),fr[k]? = some x -> idx[k]? = some j -> X.N[j]? = some x)
 (hs : ∀ x,foldedSetIterable cZ X.env x = pure x := by intro _; rfl) (hs2 : ∀ env x,foldedSetIterable qW env x = pure x := by intro _ _; rfl) :
 PE X (.ListComp kN [⟨tg,cZ,iR,0⟩,⟨tg2,qW,if2,0⟩] scope pos) (tComp2 wi own.length idx g tc wi2 g2 tc2 te) := by
 intro aA s σ H Q I h
 rw [eval_ListComp]
 have oV : closureFor scope X.env = pure (cU X.env scope.names []) := oQ λ x hx fS => I.ok.has x.1 (S.outs x hx fS)
 refine wpAny_comprehension_free (use := none) rfl hs oV S.kind S.names (cP (hi aA s σ H _ I h) λ v s1 h1 => cP h1 λ itv s2 h2 => ?_)
 obtain ⟨it,fp,tn,J,H2,e,I2,T,qZ,f2,h2⟩ := h2
 subst e
 refine wpAny_newObj_type ?_
 exact comp_block (o0 := .lst []) (p := cZ.pos) (body := λ env => emitN (.ListComp kN [⟨tg,cZ,iR,0⟩,⟨tg2,qW,if2,0⟩] scope pos) 1 qW (.ref s2.heap.objs.size) env (.compLoop (.ListComp kN [⟨tg,cZ,iR,0⟩,⟨tg2,qW,if2,0⟩] scope pos) 0 (.ref it) (.ref s2.heap.objs.size) env)) hc S hix oA T qZ f2 ⟨_,rfl⟩ (I2.lnew (t' := s2.toks) .nil (Nat.zero_le _)) hg ht
  (λ C s H aA fp => pm_nest rfl hc (hi2 C s H aA fp) (hg2 C s H aA fp) (ht2 C s H aA fp) (he C s H aA fp) (hs2 _)) (λ _ => rfl) (λ _ => rfl) (λ _ => rfl)
  (λ env R s lo st => codeAny_compStart_list lo (T.self _ 0 _ _ _ st lo)) (h2 s2.heap.objs.size I2.fresh)
theorem pe_dcomp {kx vx tg cZ : Expr} {iR : List Expr} {scope : Scope} {own fr : List Str} {idx : List Nat} {wi : TI} {g : TG} {tc : TT} {tk tv : TE} {pos : Pos} (hc : X.calm = true) (S : aV own fr scope X.env.scope)
 (hi : PI X tg cZ wi) (hg : ∀ C s H aA fp,PG (bL X scope C (own ++ fr) s H aA fp) tg g) (ht : ∀ C s H aA fp,PTs (bL X scope C (own ++ fr) s H aA fp) iR tc)
 (hk : ∀ C s H aA fp,PE (bL X scope C (own ++ fr) s H aA fp) kx tk) (hv : ∀ C s H aA fp,PE (bL X scope C (own ++ fr) s H aA fp) vx tv)
 (hix : idx.length = fr.length := by rfl) (oA : ∀ (k : Nat) (x : Str) (j : Nat),fr[k]? = some x -> idx[k]? = some j -> X.N[j]? = some x)
 (hs : ∀ x,foldedSetIterable cZ X.env x = pure x := by intro _; rfl) :
 PE X (.DictComp kx vx [⟨tg,cZ,iR,0⟩] scope pos) (tDComp wi own.length idx g tc tk tv) := by
 intro aA s σ H Q I h
 rw [arm_eval_DictComp]
 have oV : closureFor scope X.env = pure (cU X.env scope.names []) := oQ λ x hx fS => I.ok.has x.1 (S.outs x hx fS)
 refine wpAny_comprehension_free (use := none) rfl hs oV S.kind S.names (cP (hi aA s σ H _ I h) λ v s1 h1 => cP h1 λ itv s2 h2 => ?_)
 obtain ⟨it,fp,tn,J,H2,e,I2,T,qZ,f2,h2⟩ := h2
 subst e
 refine wpAny_newObj_type ?_
 exact comp_block (o0 := .dK []) (p := cZ.pos) (body := λ env => emitD s2.heap.objs.size kx vx env >>= λ _ => again (.compLoop (.DictComp kx vx [⟨tg,cZ,iR,0⟩] scope pos) 0 (.ref it) (.ref s2.heap.objs.size) env)) hc S hix oA T qZ f2 ⟨_,rfl⟩ (I2.laid (a := s2.heap.objs.size) (o := .dK []) (t' := s2.toks) (λ _ _ q => Heap.get?_push_of_some _ q) (Nat.le_refl _) (dk_empty s2.heap I2.big)) hg ht
  (λ C s H aA fp => (pm_dict rfl (hk C s H aA fp) (hv C s H aA fp)).pb) (λ _ => rfl) (λ _ => rfl) (λ _ => rfl)
  (λ env R s lo st => codeAny_compStart_dict lo (T.self _ 0 _ _ _ st lo)) (h2 s2.heap.objs.size I2.fresh)
theorem loop_list {K : W.Frag} {a : Addr} {xs : List V} {g : TG} {tc : TT} {tm : TM} {Q : St -> Hp -> Prop} {σ0 : St} {H1 : Hp} (Pv : Nat -> St -> Hp -> Prop) (h0 : Pv 0 σ0 H1) (hl : ∀ i σ H,i <= xs.length -> Pv i σ H -> bC K H a xs)
 (hs : ∀ i x σ H,xs[i]? = some x -> Pv i σ H -> g x σ H λ σ2 H2 => tc σ2 H2 λ b H3 => if b = true then tm σ2 H3 (Pv (i + 1)) else Pv (i + 1) σ2 H3) (hd : ∀ σ H,Pv xs.length σ H -> Q σ H) : lL (Itl K a) g tc tm Q σ0 H1 := by
 refine ⟨λ i m σ H => m = xs.length - i /\ i <= xs.length /\ Pv i σ H,⟨xs.length,by simp,Nat.zero_le _,h0⟩,?_⟩
 rintro i m σ H ⟨rfl,hi,p⟩
 have q := hl i σ H hi p
 by_cases fR : i < xs.length
 . refine .inr ⟨⟨xs,xs[i],q,by simp [fR]⟩,Pv (i + 1),λ σ' H' p' => ⟨xs.length - (i + 1),by omega,rfl,fR,p'⟩,λ x H' y => ?_⟩;obtain ⟨e,y⟩ := y;subst e;exact hs i x σ _ (y xs q) p
 . have e : i = xs.length := by omega
   subst e;exact .inl ⟨⟨xs,q,Nat.le_refl _⟩,hd σ H p⟩
theorem oI {K : W.Frag} {a : Addr} {xs : List V} {g : TG} {tc : TT} {tm : TM} {Q : St -> Hp -> Prop} {σ0 : St} {H1 : Hp} (Pv : Nat -> St -> Hp -> Prop) (h0 : Pv 0 σ0 H1) (hl : ∀ i σ H,i <= xs.length -> Pv i σ H -> dM K H a xs)
 (hs : ∀ i x σ H,xs[i]? = some x -> Pv i σ H -> g x σ H λ σ2 H2 => tc σ2 H2 λ b H3 => if b = true then tm σ2 H3 (Pv (i + 1)) else Pv (i + 1) σ2 H3) (hd : ∀ σ H,Pv xs.length σ H -> Q σ H) : lL (Itt K a) g tc tm Q σ0 H1 := by
 refine ⟨λ i m σ H => m = xs.length - i /\ i <= xs.length /\ Pv i σ H,⟨xs.length,by simp,Nat.zero_le _,h0⟩,?_⟩
 rintro i m σ H ⟨rfl,hi,p⟩
 have q := hl i σ H hi p
 by_cases fR : i < xs.length
 . refine .inr ⟨⟨xs,xs[i],q,by simp [fR]⟩,Pv (i + 1),λ σ' H' p' => ⟨xs.length - (i + 1),by omega,rfl,fR,p'⟩,λ x H' y => ?_⟩;obtain ⟨e,y⟩ := y;subst e;exact hs i x σ _ (y xs q) p
 . have e : i = xs.length := by omega
   subst e;exact .inl ⟨⟨xs,q,Nat.le_refl _⟩,hd σ H p⟩
theorem qD {A : Around} {k : Nat} (hr : dW k A) : A.units < cLine := Nat.lt_of_le_of_lt (Nat.le_add_right _ _) hr.units
theorem qC : dP X (.builtin "isinstance") (λ xs H Q => ∃ x c cv t b,xs = [x,c] /\ mE X.K H x t /\ bD c cv /\ (∀ u,bD c u -> u = cv) /\ W.kitOne X.K t cv = some b /\ Q (.bl b) H) := by
 intro aA s σ H xs us Q I r h
 obtain ⟨x,c,cv,t,b,rfl,ty,rc,hu,hk,q⟩ := h
 obtain ⟨u1,u2,rfl,r1,r2⟩ := r.two
 obtain rfl := hu _ r2
 exact isinst_ok I r1 ty hk λ tk => ⟨.bl b,H,I.tok tk,rfl,q⟩
theorem firstS_mem : ∀ (l : List Str) (x : Str),x ∈ eG l ↔ x ∈ l := by
 have go : ∀ (l σ : List Str) (x : Str),x ∈ l.foldl (λ σ v => if v ∈ σ then σ else σ ++ [v]) σ ↔ x ∈ σ \/ x ∈ l := by
  intro l
  induction l with
  | nil => intro σ x; simp
  | cons v r ih =>
   intro σ x;rw [List.foldl_cons,ih]
   by_cases hv : v ∈ σ
   . rw [if_pos hv,List.mem_cons]
     constructor
     . rintro (h | h)
       . exact .inl h
       . exact .inr (.inr h)
     . rintro (h | h | h)
       . exact .inl h
       . subst h; exact .inl hv
       . exact .inr h
   . rw [if_neg hv,List.mem_cons,List.mem_append,List.mem_singleton]
     constructor
     . rintro ((h | h) | h)
       . exact .inl h
       . exact .inr (.inl h)
       . exact .inr (.inr h)
     . rintro (h | h | h)
       . exact .inl (.inl h)
       . exact .inl (.inr h)
       . exact .inr h
 intro l x
 have := go l [] x
 simpa [eG] using this
theorem pB (l : List Str) : (eG l).Nodup := by
 have go : ∀ (l σ : List Str),σ.Nodup -> (l.foldl (λ σ v => if v ∈ σ then σ else σ ++ [v]) σ).Nodup := by
  intro l
  induction l with
  | nil => intro σ h; exact h
  | cons v r ih =>
   intro σ h;rw [List.foldl_cons];refine ih _ ?_
   by_cases hv : v ∈ σ
   . rw [if_pos hv]; exact h
   . rw [if_neg hv,List.nodup_append];exact ⟨h,(by simp),λ a ha b hb e => hv (by rw [List.mem_singleton.mp hb] at e; rw [<- e]; exact ha)⟩
 exact go l [] List.nodup_nil
theorem jH {a b : List Str} (ha : a.Nodup) (hb : b.Nodup) (h : ∀ x,x ∈ a ↔ x ∈ b) : a.Perm b := by
 rw [List.perm_iff_count]
 intro x
 rw [ha.count,hb.count]
 by_cases hx : x ∈ a
 . rw [if_pos hx,if_pos ((h x).mp hx)]
 . rw [if_neg hx,if_neg (λ z => hx ((h x).mpr z))]
end L2
namespace L2
open PySem PySem.Spec PyProof.Rows PySem.W
open Builtin Builtin.ObjectAttr
abbrev eM : List Value := [.type "ValueError",.type "Exception",.type "BaseException",.type "object"]
abbrev eW (C t : Addr) (d : Option Addr) : Obj := { cls := .ref C,dict := d,data := .fields #[.ref t,.none,.none,.none,.bool false,.none] }
section
variable {prog : Program} {w : World} {A : Around} {h : Heap} {g : Array GenState} {d : Drawn} {tk : Nat} {os : OsState}
variable {nm q : Str} {C N : Addr} {bs bm : List Value} {hdct : Bool} {sn : List Str} {sub : List Value} {ab : Bool} {col : Option Bool} {dd : Option Addr} {k0 k1 k2 k3 k5 : Option Value}
theorem xc_check_new {M : Model} {E : Value -> Shared -> Prop} {rest : List Value} {Q : Unit -> Shared -> Prop} (hC : h.get? C = some (excClassObj nm q C N bs bm hdct sn sub ab col dd k0 k1 k2 k3 k5 "ValueError.__new__"))
 (hv : (Value.ref C :: bm).contains (.type "ValueError") = true) (hq : Q () ⟨h,g,d,tk,os⟩) : wpAny M A (checkBuiltinCall "ValueError.__new__" ⟨.ref C :: rest,[]⟩) Q E ⟨h,g,d,tk,os⟩ := by
 have Fv := PySem.F.excBase_ValueError
 have hst := Fv.noStar
 simp only [checkBuiltinCall,Fv.newKind,Fv.newSplit,Fv.newRow]
 repeat (first | (refine wpAny_isSubtype_exc hC ?_; rw [hv]) | refine wpAny_staticBase_exc hC ?_ | refine wpAny_madeBy_exc hC ?_ | refine wpAny_loadPart_at hC ?_ | simp only [bne_self_eq_false,Bool.false_eq_true,if_false] | wp_step)
 exact hq
theorem xc_new {R : Result -> Shared -> Prop} {rest : List Value} (hC : h.get? C = some (excClassObj nm q C N bs bm hdct sn sub ab col dd k0 k1 k2 k3 k5 "ValueError.__new__"))
 (hv : (Value.ref C :: bm).contains (.type "ValueError") = true) (ha : (Value.ref C :: bm).contains (.type "AttributeError") = false) (hn : (Value.ref C :: bm).contains (.type "NameError") = false) (hrest : rest.length <= sizeLine)
 (hq : R (.ok (.ret (.ref (h.objs.size + 1)))) ⟨(h.push { cls := .type "tuple",data := .seq rest.toArray }).push (eW C h.objs.size none),g,d,tk,os⟩) :
 codeAny (model prog w) A (.builtin "ValueError.__new__" ⟨.ref C :: rest,[]⟩) R ⟨h,g,d,tk,os⟩ := by
 have Fv := PySem.F.excBase_ValueError
 have he := Fv.ends
 refine codeAny_builtinAt Fv.entry ?_
 unfold Builtin.«BaseException.__new__»
 refine PySem.wpAt_bind ?_
 show PySem.wpAt _ _ _ (stack >>= _) _ _ _
 refine PySem.wpAt_bind (PySem.wpAt_stack λ p below => PySem.wpAt_of_wpAny ?_)
 wp_walk
 refine PySem.wpAt_of_wpAny ?_
 rw [Fv.owner]
 repeat (first | with_reducible refine wpAny_madeHere_exc Fv.canon hC ?_ | (with_reducible refine wpAny_isSubtype_exc hC ?_; first | rw [hv] | rw [ha] | rw [hn]) | with_reducible refine wpAny_loadPart_at hC ?_ | wp_step)
 show R _ _
 rw [Heap.size_push]
 exact hq
theorem xc_type_call {E : Value -> Shared -> Prop} {rest : List Value} {fI : Addr} {Q : Fin -> Shared -> Prop} (hC : h.get? C = some (excClassObj nm q C N bs bm hdct sn sub ab col dd k0 k1 k2 k3 k5 "ValueError.__new__"))
 (hv : (Value.ref C :: bm).contains (.type "ValueError") = true) (ha : (Value.ref C :: bm).contains (.type "AttributeError") = false) (hn : (Value.ref C :: bm).contains (.type "NameError") = false) (hrest : rest.length <= sizeLine)
 (hi : Looks (model prog w) h (typeLookup (.ref C) "__init__") (some (.ref fI))) (hb : ∀ self,Looks (model prog w) h (bindSpecial (.ref fI) self) (.ref fI,[self]))
 (hq : wpAny (model prog w) A (call (.ref fI) (.ref (h.objs.size + 1) :: rest)) (λ r s' => r = .none /\ Q (.done (.ret (.ref (h.objs.size + 1)))) s') E ⟨(h.push { cls := .type "tuple",data := .seq rest.toArray }).push (eW C h.objs.size none),g,d,tk,os⟩) :
 wpAny (model prog w) A (Builtin.«type.__call__» ⟨.ref C :: rest,[]⟩) Q E ⟨h,g,d,tk,os⟩ := by
 have Fv := PySem.F.excBase_ValueError
 repeat (first | (with_reducible refine wpAny_madeBy_exc hC ?_) | (with_reducible refine wpAny_loadPart_at hC ?_) | wp_step)
 refine codeAny_call_builtin_code (Code.quiet_builtin _ Fv.quiet) (xc_check_new hC hv ?_)
 refine xc_new hC hv ha hn hrest ?_
 show wpAny _ _ _ _ _ _
 generalize hH : (h.push { cls := .type "tuple",data := .seq rest.toArray }).push (eW C h.objs.size none) = H2 at hq ⊢
 have kp : ∀ b o,h.get? b = some o -> H2.get? b = some o := λ b o e => by rw [<- hH]; exact Heap.get?_push_of_some _ (Heap.get?_push_of_some _ e)
 have hget : H2.get? (h.objs.size + 1) = some (eW C h.objs.size none) := by
  rw [<- hH];exact Heap.get?_push_at (by rw [Heap.size_push]) rfl
 have hC2 := kp _ _ hC
 have hself : (Value.ref C :: bm).contains (.ref C) = true := by simp
 unfold isInstance
 repeat (first | with_reducible refine wpAny_loadPart_at hget ?_ | (with_reducible refine wpAny_isSubtype_exc hC2 ?_; rw [hself]) | wp_step)
 show wpAny _ _ (typeLookup (.ref C) _) _ _ _
 refine (hi.keeps kp).at ?_
 refine wpAny_holding (wpAny_bind (((hb _).keeps kp).at ?_))
 refine wpAny_bind (wpAny_mono hq (λ r s' hr => ?_) λ _ _ z => z)
 obtain ⟨rfl,hQ⟩ := hr
 wp_walk
 exact hQ
theorem xc_call {E : Value -> Shared -> Prop} {rest : List Value} {fI : Addr} {Q : Value -> Shared -> Prop} (hC : h.get? C = some (excClassObj nm q C N bs bm hdct sn sub ab col dd k0 k1 k2 k3 k5 "ValueError.__new__"))
 (hv : (Value.ref C :: bm).contains (.type "ValueError") = true) (ha : (Value.ref C :: bm).contains (.type "AttributeError") = false) (hn : (Value.ref C :: bm).contains (.type "NameError") = false) (hrest : rest.length <= sizeLine)
 (hi : Looks (model prog w) h (typeLookup (.ref C) "__init__") (some (.ref fI))) (hb : ∀ self,Looks (model prog w) h (bindSpecial (.ref fI) self) (.ref fI,[self]))
 (hq : wpAny (model prog w) (A.under (.builtin "type.__call__" ⟨.ref C :: rest,[]⟩)) (call (.ref fI) (.ref (h.objs.size + 1) :: rest)) (λ r s' => r = .none /\ Q (.ref (h.objs.size + 1)) s') E
  ⟨(h.push { cls := .type "tuple",data := .seq rest.toArray }).push (eW C h.objs.size none),g,d,tk,os⟩) : wpAny (model prog w) A (call (.ref C) rest) Q E ⟨h,g,d,tk,os⟩ := by
 have f1 := tc_lookup
 have f2 := tc_bind (.ref C)
 have hT : (⟨h,g,d,tk,os⟩ : Shared).TypeIs (.ref C) "type" := ⟨_,hC,rfl⟩
 refine wpAny_call (codeAny_of_tree ?_)
 show wpAny _ _ (callAny (.ref C) _) _ _ _
 repeat (any_goals (first | assumption | (with_reducible refine wpAny_loadPart_at hC ?_) | wp_step))
 refine ⟨rfl,?_⟩
 exact codeAny_call_builtin_at (Code.quiet_builtin _ (by decide +kernel)) entry_typeCall (wpAny_check_type_call_sub hC (xc_type_call hC hv ha hn hrest hi hb hq))
end
end L2
namespace L2
open PySem PySem.Spec PyProof.Rows PySem.W
open Builtin Builtin.ObjectAttr
structure XC (K : Frag) (C M : Addr) : Prop where
 at_ : ∃ nm q N bs sn sub ab col dd k0 k1 k2 k3 k5,K.lookup C = some (excClassObj nm q C N bs (.ref M :: eM) true sn sub ab col dd k0 k1 k2 k3 k5 "ValueError.__new__")
 ga : findIn K (.ref C) "__getattribute__" = some (some (.builtin "BaseException.__getattribute__"))
 gb : findIn K (.ref C) "__getattr__" = some none
 hd : hasDictIn K C = true
 sa : findIn K (.ref C) "__setattr__" = some (some (.builtin "object.__setattr__"))
 kc : findIn K (.ref C) "__class__" = some (some (.builtin "object.__class__"))
 kg : specialIn K (.builtin "object.__class__") "__get__" = some (some (.builtin "getset_descriptor.__get__"))
 kt : takesIn K (.builtin "object.__class__") = some true
 mo : mroIn K C (.type "object") = some true
 kp : keepIn K (.ref C) = true
section
variable {prog : Program} {w : World} {A : Around} {E : Value -> Shared -> Prop} {s : Shared} {K : Frag} {x C M t : Addr} {ox : Obj} {od : Option Obj} {name : Str} {v : Value}
theorem xga_open {fill expr : Bool} {Q : Value -> Shared -> Prop} {tk : Tok} (X : K.In s.heap) (I : InstAt s.heap x ox C od) (hga : findIn K (.ref C) "__getattribute__" = some (some (.builtin "BaseException.__getattribute__"))) (hk : findIn K (.ref C) "__getattr__" = some none)
 (sub : Looks (model prog w) s.heap (isInstance (.ref x) (.type "BaseException")) true)
 (h : wpAny (model prog w) A.in1 (Builtin.«object.__getattribute__» ⟨[.ref x,.str name tk],[]⟩)
  (λ eO s' => match eO with | .done (.ret v) => wpAny (model prog w) A (handedOut v) Q E s' | .done _ => False | .again c' => c'.quiet = true /\ codeAny (model prog w) A c' (λ r s'' => match r with | .ok (.ret v) => wpAny (model prog w) A (handedOut v) Q E s'' | _ => False) s') (λ _ _ => False) s) :
 wpAny (model prog w) A (getAttrBy (.ref x) (.str name tk) fill expr) Q E s := by
 obtain ⟨hh,g,d,t,os⟩ := s
 have L0 := I.type (M := model prog w)
 have L1 := looks_findIn (M := model prog w) X hga
 have L2 := looks_findIn (M := model prog w) X hk
 have hx2 : (Value.builtin "BaseException.__getattribute__" == Value.builtin "object.__getattribute__") = false := by decide +kernel
 have hx1 : (onTheHeap (Value.ref C) && Value.builtin "BaseException.__getattribute__" == Value.builtin "object.__getattribute__") = false := by rw [hx2]; rfl
 have hx0 : (expr && onTheHeap (Value.builtin "BaseException.__getattribute__")) = false := by cases expr <;> rfl
 unfold getAttrBy
 refine wpAny_holding (wpAny_bind (L0.at (wpAny_bind (L1.at ?_))))
 simp only [hx1,Bool.false_eq_true,if_false]
 unfold getAttrByItsOwn
 refine wpAny_bind (L2.at (wpAny_bind (wpAny_attempt (wpAny_holding ?_))))
 unfold callGetattribute
 rw [hx0]
 simp only [Bool.false_eq_true,if_false]
 unfold boundAndCalled
 rw [PySem.F.excAttr_ValueError.ga.bind]
 refine wpAny_bind (wpAny_pure (wpAny_call ?_))
 refine codeAny_call_builtin PySem.F.excAttr_ValueError.ga.plain PySem.F.entry_bexc_ga (check_slot (i := "BaseException.__getattribute__") (owner := "BaseException") (n := "__getattribute__") (by decide +kernel) (by decide +kernel) sub (PySem.F.args_bexc_ga _ _) ?_)
 refine wpAny_mono h (λ eO s' z => ?_) λ _ _ z => z.elim
 rcases eO with (_ | _ | _ | _) | _
 all_goals first | exact z | exact z.elim | skip
 exact ⟨z.1,codeAny_mono z.2 λ r s'' y => by rcases r with _ | (_ | _ | _ | _) <;> first | exact y | exact y.elim⟩
theorem xga_value {fill expr : Bool} {Q : Value -> Shared -> Prop} {tk : Tok} (X : K.In s.heap) (I : InstAt s.heap x ox C od) (hga : findIn K (.ref C) "__getattribute__" = some (some (.builtin "BaseException.__getattribute__"))) (hk : findIn K (.ref C) "__getattr__" = some none)
 (sub : Looks (model prog w) s.heap (isInstance (.ref x) (.type "BaseException")) true) (hf : findObj K C od name = some (.value v)) (hh : handedIn v = true) (h : Q v s) : wpAny (model prog w) A (getAttrBy (.ref x) (.str name tk) fill expr) Q E s := by
 refine xga_open X I hga hk sub ?_
 obtain ⟨hh',g,d,t,os⟩ := s
 have L0 := I.type (M := model prog w)
 have L1 := looks_find (M := model prog w) X I hf
 refine wpAny_bind (wpAny_pure (wpAny_bind (wpAny_pure (wpAny_bind (L0.at (wpAny_bind (L1.at ?_)))))))
 refine wpAny_pure ?_
 show wpAny _ _ (handedOut v) _ _ _
 rw [handedOut_of hh]; exact wpAny_pure h
theorem xga_class {fill expr : Bool} {Q : Value -> Shared -> Prop} {tk : Tok} (X : K.In s.heap) (I : InstAt s.heap x ox C od) (hga : findIn K (.ref C) "__getattribute__" = some (some (.builtin "BaseException.__getattribute__"))) (hk : findIn K (.ref C) "__getattr__" = some none)
 (sub : Looks (model prog w) s.heap (isInstance (.ref x) (.type "BaseException")) true) (hf : findObj K C od name = some (.bind (.builtin "getset_descriptor.__get__") (.builtin "object.__class__"))) (hm : mroIn K C (.type "object") = some true) (h : Q (.ref C) s) : wpAny (model prog w) A (getAttrBy (.ref x) (.str name tk) fill expr) Q E s := by
 refine xga_open X I hga hk sub ?_
 obtain ⟨hh',g,d,t,os⟩ := s
 have L0 := I.type (M := model prog w)
 have L1 := looks_find (M := model prog w) X I hf
 refine wpAny_bind (wpAny_pure (wpAny_bind (wpAny_pure (wpAny_bind (L0.at (wpAny_bind (L1.at ?_)))))))
 show wpAny _ _ (holding [.builtin "object.__class__"] (call (.builtin "getset_descriptor.__get__") [.builtin "object.__class__",.ref x,.ref C]) >>= ret) _ _ _
 refine wpAny_bind (wpAny_holding (wpAny_call (class_get (od := od) X I hm ?_)))
 exact wpAny_pure (handed_on rfl h)
theorem XC.mro {Md : Model} {h : Heap} (X : K.In h) (xc : XC K C M) : Looks Md h (mroOf (.ref C)) (.ref C :: .ref M :: eM) := by
 obtain ⟨nm,q,N,bs,sn,sub,ab,col,dd,k0,k1,k2,k3,k5,e⟩ := xc.at_
 have hc : clsIn K C = some { name := nm,bases := bs,mro := .ref C :: .ref M :: eM,ns := N,qualname := q,hasDict := true,slotNames := sn,subclasses := sub,abstract := ab,collection := col,hasDel := false } := by unfold clsIn; rw [e]
 exact (looks_clsIn X hc).andThen .now
theorem XC.isB {Md : Model} {h : Heap} (X : K.In h) (xc : XC K C M) (I : InstAt h x ox C od) : Looks Md h (isInstance (.ref x) (.type "BaseException")) true := by
 have hc : (Value.ref C :: Value.ref M :: eM).contains (.type "BaseException") = true := by simp [eM]
 exact I.type.andThen (hc ▸ (xc.mro X).andThen .now)
theorem xc_osa {R : Result -> Shared -> Prop} {tk : Tok} (X : K.In s.heap) (xc : XC K C M) (I : InstAt s.heap x ox C od) (ha : findIn K (.ref C) name = some none)
 (h : wpAny (model prog w) A.in1 (storeInOwnDict (.ref x) (.ref C) (.str name tk) name v false) (λ eO s' => match eO with | .done f => R (.ok f) s' | .again c' => c'.quiet = true /\ codeAny (model prog w) A c' R s') (λ e s' => R (.error e) s') s) :
 codeAny (model prog w) A (.call (.builtin "object.__setattr__") ⟨[.ref x,.str name tk,v],[]⟩) R s := by
 have SF := PySem.F.store_object
 have sub : Looks (model prog w) s.heap (isInstance (.ref x) (.type "object")) true := I.type.andThen (looks_mroIn X xc.mo)
 refine codeAny_call_builtin SF.slot.plain SF.entry (@check_slot (model prog w) _ _ s "object.__setattr__" "object" "__setattr__" (.ref x) [.str name tk,v] [] _ SF.kind SF.split sub (SF.args _ _ _) ?_)
 rw [osa_eq,refuse_eq]
 refine wpAny_bind (wpAny_bind (I.type.here (wpAny_bind ((xc.mro X).here ?_))))
 rw [refuseLoop_ref,refuseLoop_ref,PySem.F.store_ValueError.passes]
 refine wpAny_pure (wpAny_bind (I.type.here (wpAny_bind ((looks_findIn X ha).here ?_))))
 exact wpAny_bind (wpAny_pure h)
theorem xc_set0 {Q : Unit -> Shared -> Prop} (X : K.In s.heap) (xc : XC K C M) (hx : s.heap.get? x = some (eW C t none)) (ha : findIn K (.ref C) name = some none)
 (h : ∀ h',h'.get? x = some (eW C t (some s.heap.objs.size)) -> h'.Ns1 s.heap.objs.size (λ y => if y = name then some v else none) -> (∀ b o,b ≠ x -> s.heap.get? b = some o -> h'.get? b = some o) -> Q () { s with heap := h',toks := s.toks + 2 }) :
 wpAny (model prog w) A (setAttr (.ref x) name v) Q E s := by
 have J : InstAt s.heap x (eW C t none) C none := ⟨hx,rfl,rfl,trivial⟩
 refine set_plain X J xc.sa (xc_osa (s := { s with toks := s.toks + 1 }) X xc J ha ?_)
 obtain ⟨cd,hc,hd'⟩ := any_some xc.hd
 refine wpAny_bind (wpAny_pure (wpAny_bind (wpAny_bind (wpAny_loadPart hx (wpAny_bind (Looks.here (s := { s with toks := s.toks + 1 }) (looks_clsIn X hc) ?_))))))
 rw [hd']
 have hxs : x ≠ s.heap.objs.size := Nat.ne_of_lt (Heap.lt_size hx)
 have hx1 : (s.heap.push { cls := .type "dict",data := .dict #[] }).get? x = some (eW C t none) := Heap.get?_push_of_some _ hx
 show wpAny _ _ (alloc { cls := .type "dict",data := .dict #[] } >>= _) _ _ _
 refine wpAny_bind (wpAny_alloc ?_)
 refine wpAny_bind (wpAny_update hx1 ?_)
 refine wpAny_pure (wpAny_bind (wpAny_pure (wpAny_bind ?_)))
 have hgd : ((s.heap.push { cls := .type "dict",data := .dict #[] }).update x λ o => { o with dict := some s.heap.objs.size }).get? s.heap.objs.size = some { cls := .type "dict",data := .dict #[] } :=
  (Heap.get?_update_ne _ _ _ _ hxs.symm).trans (Heap.get?_push_at rfl rfl)
 have hnd : ((s.heap.push { cls := .type "dict",data := .dict #[] }).update x λ o => { o with dict := some s.heap.objs.size }).Ns s.heap.objs.size (λ _ => none) := ⟨_,#[],_,hgd,rfl,λ e he => absurd he (by simp),λ _ => rfl⟩
 refine wpAny_nsSet1 (Heap.Ns1.of_empty hnd) λ h' hn' hs => ?_
 obtain ⟨oD,esD,epD,hoD,hdD,hcD⟩ := hn'.count (Within.cons name v Within.nil)
 refine wpAny_bind (wpAny_lookBehind hoD (by rw [hdD]; exact pastItsLine_dict (Nat.le_trans hcD (by rw [List.length_cons,List.length_nil,sizeLine_eq]; decide))) ?_)
 refine wpAny_pure (h h' ((hs.2 x hxs).trans (Heap.get?_update_self _ hx1 rfl)) hn' λ b o hb e => ?_)
 exact (hs.2 b (Nat.ne_of_lt (Heap.lt_size e))).trans ((Heap.get?_update_ne _ _ _ _ hb).trans (Heap.get?_push_of_some _ e))
theorem xc_set1 {Q : Unit -> Shared -> Prop} {dx : Addr} {mA : Str -> Option Value} {ns : List Str} (X : K.In s.heap) (xc : XC K C M) (hx : s.heap.get? x = some (eW C t (some dx))) (hn : s.heap.Ns1 dx mA) (iQ : dx ≠ x) (ha : findIn K (.ref C) name = some none) (hw : Within mA ns) (hsz : ns.length < 1000)
 (h : ∀ h',h'.Ns1 dx (λ y => if y = name then some v else mA y) -> Heap.SameBut dx s.heap h' -> Q () { s with heap := h',toks := s.toks + 2 }) : wpAny (model prog w) A (setAttr (.ref x) name v) Q E s := by
 obtain ⟨od,hod,_⟩ := pL hn
 have J : InstAt s.heap x (eW C t (some dx)) C (some od) := ⟨hx,rfl,rfl,hod⟩
 refine set_plain X J xc.sa (xc_osa (s := { s with toks := s.toks + 1 }) X xc J ha ?_)
 obtain ⟨cd,hc,hd'⟩ := any_some xc.hd
 refine wpAny_bind (wpAny_pure (wpAny_bind (wpAny_bind (wpAny_loadPart hx (wpAny_bind (Looks.here (s := { s with toks := s.toks + 1 }) (looks_clsIn X hc) ?_))))))
 rw [hd']
 refine wpAny_pure (a := some dx) (wpAny_bind (wpAny_pure (wpAny_bind ?_)))
 refine wpAny_nsSet1 (s := { s with toks := s.toks + 1 }) hn λ h' hn' hs => ?_
 obtain ⟨oD,esD,epD,hoD,hdD,hcD⟩ := hn'.count (Within.cons name v hw)
 refine wpAny_bind (wpAny_lookBehind hoD (by rw [hdD]; exact pastItsLine_dict (Nat.le_trans hcD (by rw [List.length_cons,sizeLine_eq]; omega))) ?_)
 exact wpAny_pure (h h' hn' hs)
theorem xc_kit (xc : XC K C M) : KitX K (.ref x) (.ref C) (λ h => InstAt h x ox C od) where
 ty := λ _ _ _ I => I.type
 it := λ _ _ X _ => by
  obtain ⟨nm,q,N,bs,sn,sub,ab,col,dd,k0,k1,k2,k3,k5,e⟩ := xc.at_;intro A' Q' E' s' k q';unfold isType loadHead;exact wpAny_bind (wpAny_loadPart (k _ _ (X _ _ e)) (wpAny_pure q'))
 ne := λ h tp dd bJ n sl X htp => by
  obtain ⟨nm,q,N,bs,sn,sub,ab,col,dd',k0,k1,k2,k3,k5,e⟩ := xc.at_;refine Bool.eq_false_iff.mpr λ z => ?_;have e2 : C = tp := Value.ref.inj (beq_iff_eq.mp z);rw [e2] at e;have z2 := congrArg Obj.data (Option.some.inj ((X _ _ e).symm.trans htp));cases z2
 ca := λ X I k => by
  have hf : findObj K C od "__class__" = some (.bind (.builtin "getset_descriptor.__get__") (.builtin "object.__class__")) := by
   obtain ⟨cd,hc,_⟩ := any_some xc.hd;unfold findObj;rw [hc,Option.bind_some,xc.kc,Option.bind_some];simp [xc.kg,xc.kt]
  unfold getAttr? getAttrBy?;exact wpAny_bind (wpAny_mkText (wpAny_bind (wpAny_attempt (xga_class X I xc.ga xc.gb (xc.isB X I) hf xc.mo (wpAny_pure k)))))
end
end L2
namespace L2
open PySem PySem.Spec PyProof.Rows
variable {X : Cx} {aA : List (Addr × Obj)} {σ : St} {H : Hp} {s : Shared} {C a : Addr} {A : Around} {base : Heap} {env : Env} {outer : List Env} {Q : Unit -> Shared -> Prop} {P prog : Program} {w : World} {K : W.Frag} {mg : Str -> Option Value}
def mW (e C t : Addr) (d : Option Addr) : HO := .ext λ h => h.get? e = some (eW C t d)
def DctO (dx : Addr) (fs : List (Str × V)) : HO := .ext λ h => fs.length <= 900 /\ ∃ mA,h.Ns1 dx mA /\ (∀ f,kC (fs.lookup f) (mA f)) /\ PySem.Within mA (fs.map (·.1))
def XAt (H : Hp) (e C : Addr) (fs : List (Str × V)) : Prop := ∃ t,(H e = some (mW e C t none) /\ fs = []) \/ ∃ dx,H e = some (mW e C t (some dx)) /\ H dx = some (DctO dx fs) /\ dx ≠ e
theorem excO_ok {P : Program} {w : World} {H : Hp} {h : Heap} {e C t : Addr} {d : Option Addr} (q : h.get? e = some (eW C t d)) : bZ P w H h e (mW e C t d) :=
 ⟨q,⟨_,q⟩,λ _ _ p k => k _ p⟩
theorem dctO_ok {P : Program} {w : World} {H : Hp} {h : Heap} {dx : Addr} {fs : List (Str × V)} {mA : Str -> Option Value} (hl : fs.length <= 900) (n : h.Ns1 dx mA) (r : ∀ f,kC (fs.lookup f) (mA f)) (w' : PySem.Within mA (fs.map (·.1))) : bZ P w H h dx (DctO dx fs) := by
 refine ⟨⟨hl,mA,n,r,w'⟩,?_,λ h1 h2 ⟨hl,mA,n,r,w'⟩ k => ?_⟩
 . obtain ⟨o,es,ep,e,_⟩ := n;exact ⟨o,e⟩
 . obtain ⟨o,es,ep,e,z⟩ := n;exact ⟨hl,mA,⟨o,es,ep,k o e,z⟩,r,w'⟩
theorem aR.exc (I : aR X aA σ H s) {e C t : Addr} {d : Option Addr} (h : H e = some (mW e C t d)) : s.heap.get? e = some (eW C t d) := (I.hok e _ h).1
theorem aR.writeLaid {h' : Heap} {x a : Addr} {o1 o2 : HO} {t' : Nat} (I : aR X aA σ H s) (mu : Mut (H x)) (k : ∀ b u,b ≠ x -> s.heap.get? b = some u -> h'.get? b = some u) (hx : ∃ u,h'.get? x = some u) (ha : s.heap.objs.size <= a)
 (n1 : bZ X.prog X.w (aL (aL H x o1) a o2) h' x o1) (n2 : bZ X.prog X.w (aL (aL H x o1) a o2) h' a o2) : aR X aA σ (aL (aL H x o1) a o2) { s with heap := h',toks := t' } := by
 have nx : ∀ b,H b = none -> b ≠ x := λ b n z => by subst z; rw [n] at mu; exact mu
 have na : ∀ b ob,s.heap.get? b = some ob -> b ≠ a := λ b ob e => Nat.ne_of_lt (Nat.lt_of_lt_of_le (Heap.lt_size e) ha)
 have fa : H a = none := I.hok.fresh ha
 have nm : ∀ b u,H b = some u -> ¬ Mut (some u) -> b ≠ x := λ b u q nmu z => by subst z; rw [q] at mu; exact nmu mu
 have lift : ∀ b u,H b = some u -> ¬ Mut (some u) -> aL (aL H x o1) a o2 b = some u := λ b u q nmu => by rw [aH (aD q fa),aH (nm b u q nmu)]; exact q
 have xa : x ≠ a := λ z => by rw [z,fa] at mu; exact mu
 refine I.step (g' := s.gens) (d' := s.drawn) (ch := []) (λ _ z => nomatch z) (λ b ob _ _ _ e n => k b ob (nx b n) e) (λ b ob _ _ _ e n => ⟨ob.slots,k b ob (nx b n) e⟩) (λ b ob _ e n => by rw [aH (na b ob e),aH (nx b n)]; exact n)
  (λ b ob _ e => ?_) (λ b xs e => lift b _ e λ z => z) (λ b ob u e => lift b _ e λ z => z) (λ b ps e => ⟨#[],by rw [lift b _ e λ z => z]; simp⟩) (λ m hm => ?_) (λ b u e => ?_) I.bare
 . by_cases hb : b = x
   . rw [hb]; exact hx
   . exact ⟨ob,k b ob hb e⟩
 . obtain ⟨ob,es,ep,ho,r⟩ := hm;exact ⟨ob,es,ep,k _ ob (nx _ I.free) ho,r⟩
 . by_cases hb : b = a
   . rw [hb,aC] at e; cases e; rw [hb]; exact n2
   . rw [aH hb] at e
     by_cases hbx : b = x
     . rw [hbx,aC] at e; cases e; rw [hbx]; exact n1
     . rw [aH hbx] at e;refine (I.hok b u e).stay (λ c v hc q => k c v ?_ q) (λ c q => lift c _ q λ z => z) λ c xs q => lift c _ q λ z => z
       rcases hc with z | z
       . rw [z]; exact hbx
       . exact nm c _ z λ z => z
section
variable {M : Addr}
def sFldX (C : Addr) (ta tv : TE) (f : Str) : TS := λ D σ H => tv σ H λ y H1 => ta σ H1 λ x H2 => ∃ e,x = .ref e /\
 ((∃ t,H2 e = some (mW e C t none) /\ ∀ dx,H2 dx = none -> dx ≠ e -> D.nx σ (aL (aL H2 e (mW e C t (some dx))) dx (DctO dx [(f,y)]))) \/
  ∃ t dx fs,H2 e = some (mW e C t (some dx)) /\ H2 dx = some (DctO dx fs) /\ dx ≠ e /\ fs.length < 900 /\ D.nx σ (aL H2 dx (DctO dx (fW f y fs))))
theorem ps_fldX {o value : Expr} {f : Str} {ta tv : TE} {pos pos' : Pos} (xc : XC X.K C M) (hf : W.findIn X.K (.ref C) f = some none) (ha : PE X o ta) (hv : PE X value tv) (hs : swapsWith value (some (.Attribute o f pos')) pos.line X.env = pure false := by rfl) :
 PS X (.Assign [.Attribute o f pos'] value pos) (sFldX C ta tv f) := by
 intro aA s σ H D I h
 refine plainObj_wpAny_Assign_Attribute (cP (hv aA s σ H _ I h) λ v s1 ⟨y,H1,I1,ry,q1⟩ => cP (ha aA s1 σ H1 _ I1 q1) λ u s2 ⟨x,H2,I2,rx,q2⟩ => ?_) hs
 obtain ⟨e,rfl,q2⟩ := q2
 cases rx
 rcases q2 with ⟨t,he,q⟩ | ⟨t,dx,fs,he,hd,iQ,hl,q⟩
 . have hx := I2.exc he;have hxs : s2.heap.objs.size ≠ e := Nat.ne_of_gt (Heap.lt_size hx);refine xc_set0 I2.kIn xc hx hf λ h' a1 a2 a3 => ⟨σ,_,I2.writeLaid (o1 := mW e C t (some s2.heap.objs.size)) (o2 := DctO s2.heap.objs.size [(f,y)]) (t' := s2.toks + 2) (by rw [he]; exact trivial) a3 ⟨_,a1⟩ (Nat.le_refl _) (excO_ok a1) (dctO_ok (show 1 <= 900 by decide) a2 (λ g => ?_) ?_),q _ I2.fresh hxs⟩
   . show kC (List.lookup g (fW f y [])) _
     rw [jE]
     by_cases hg : g = f
     . simp only [if_pos hg]; exact ry
     . simp only [if_neg hg]; trivial
   . exact PySem.Within.cons f v PySem.Within.nil
 . have hx := I2.exc he;obtain ⟨_,mA,hn,hr,hw⟩ := (I2.hok dx _ hd).1;refine xc_set1 I2.kIn xc hx hn iQ hf hw (by rw [List.length_map]; omega) λ h' a1 a2 => ?_;have hok : bZ X.prog X.w (aL H2 dx (DctO dx (fW f y fs))) h' dx (DctO dx (fW f y fs)) := by
    refine dctO_ok (Nat.le_trans (mD f y fs) (by omega)) a1 (λ g => ?_) ?_
    . rw [jE]
      by_cases hg : g = f
      . simp only [if_pos hg]; exact ry
      . simp only [if_neg hg]; exact hr g
    . intro g hg;have q := (mT f y fs)
      by_cases hgf : g = f
      . rw [hgf]; exact q.1
      . simp only [if_neg hgf] at hg;exact q.2 g (hw g hg)
   obtain ⟨o',es',ep',e',_⟩ := id a1;exact ⟨σ,_,I2.write (o := DctO dx (fW f y fs)) (t' := s2.toks + 2) (by rw [hd]; exact trivial) (.inl rfl) (λ b u hb q => (a2.2 b hb).trans q) ⟨_,e'⟩ hok,q⟩
def tMakeX (C : Addr) (sp : Sp) (t : TA) : TE := λ σ H Q => t σ H λ vs H1 => vs.length <= 100 /\ ∀ e u,H1 e = none -> H1 u = none -> u ≠ e ->
 sp (.ref e :: vs) (aL (aL H1 u (.tup vs)) e (mW e C u none)) (λ v H2 => v = .non /\ Q (.ref e) H2) E0
theorem vcont (C M : Addr) : (Value.ref C :: Value.ref M :: eM).contains (.type "ValueError") = true /\ (Value.ref C :: Value.ref M :: eM).contains (.type "AttributeError") = false /\ (Value.ref C :: Value.ref M :: eM).contains (.type "NameError") = false := by
 refine ⟨?_,?_,?_⟩ <;> simp [eM]
theorem run_makeX {k : Nat} {f : Addr} {fd : FuncData} {ps : List Str} {sp : Sp} {aA : List (Addr × Obj)} {σ : St} {H : Hp} {s : Shared} {Q : VK} {us : List Value} {vs : List V} (xc : XC X.K C M) (hin : W.findIn X.K (.ref C) "__init__" = some (some (.ref f))) (hfn : W.isFn X.K (.ref f) = true)
 (F : FnOk X.prog X.w X.K X.mg X.base gO k f fd ps sp) (hr : dW (k + 1) X.A) (hb : fG X.K fd ps []) (I : aR X aA σ H s) (r : aX vs us) (hl : vs.length <= 100)
 (h : ∀ e u,H e = none -> H u = none -> u ≠ e -> sp (.ref e :: vs) (aL (aL H u (.tup vs)) e (mW e C u none)) (λ v H2 => v = .non /\ Q (.ref e) H2) E0) :
 wpAny (model X.prog X.w) X.A (call (.ref C) us) (EP X aA σ Q) X.xe s := by
 obtain ⟨nm,q,N,bs,sn,sub,ab,col,dd,k0,k1,k2,k3,k5,e⟩ := xc.at_
 obtain ⟨c1,c2,c3⟩ := vcont C M
 have hz : (100 : Nat) <= sizeLine := by rw [sizeLine_eq]; decide
 have hq := h (s.heap.objs.size + 1) s.heap.objs.size (I.hok.fresh (Nat.le_succ _)) I.fresh (Nat.ne_of_lt (Nat.lt_succ_self _))
 have I1 : aR X aA σ (aL H s.heap.objs.size (.tup vs)) { s with heap := s.heap.push { cls := .type "tuple",data := .seq us.toArray },toks := s.toks } :=
  I.laid (o := .tup vs) (λ _ _ z => Heap.get?_push_of_some _ z) (Nat.le_refl _) ⟨Nat.le_trans hl hz,us,r,IsTup.new _ _⟩
 have I2 : aR X aA σ (aL (aL H s.heap.objs.size (.tup vs)) (s.heap.objs.size + 1) (mW (s.heap.objs.size + 1) C s.heap.objs.size none))
  { s with heap := (s.heap.push { cls := .type "tuple",data := .seq us.toArray }).push (eW C s.heap.objs.size none),toks := s.toks } :=
  I1.laid (o := mW (s.heap.objs.size + 1) C s.heap.objs.size none) (λ _ _ z => Heap.get?_push_of_some _ z) (by rw [Heap.size_push]; exact Nat.le_refl _) (excO_ok (Heap.get?_push_at (by rw [Heap.size_push]) rfl))
 have r2 : aX (V.ref (s.heap.objs.size + 1) :: vs) (Value.ref (s.heap.objs.size + 1) :: us) := .cons rfl r
 have cE : (Value.ref (s.heap.objs.size + 1) :: us).length = ps.length := by rw [<- r2.length]; exact F.len _ _ _ _ hq
 obtain ⟨hh,g,d,tk,os⟩ := s
 refine xc_call (I.kIn _ _ e) c1 c2 c3 (by rw [<- r.length]; exact Nat.le_trans hl hz) (PySem.W.looks_findIn I.kIn hin) (λ self => PySem.W.bind_fn I.kIn self (beq_iff_eq.mp hfn)) (wpAny_call ?_)
 have bb := hb ⟨_,g,d,tk,os⟩ (Value.ref (hh.objs.size + 1) :: us) I2.kIn (by rw [List.append_nil]; exact cE)
 rw [List.append_nil] at bb
 refine codeAny_mono (F.run _ X.stack _ _ ⟨Value.ref (hh.objs.size + 1) :: us,[]⟩ (Value.ref (hh.objs.size + 1) :: us) _ _ E0 (hr.make C us []) (I2.env0.make C us []) bb r2 hq) λ r s' hq' => ?_
 cases r with
 | error e => exact False.elim hq'
 | ok fl =>
  cases fl with
  | ret u =>
   obtain ⟨v,H',I3,rv,ev,q3⟩ := I2.after hq';subst ev;exact ⟨rv,⟨V.ref (hh.objs.size + 1),H',I3,rfl,q3⟩⟩
  | next => exact False.elim hq'
  | brk => exact False.elim hq'
  | cont => exact False.elim hq'
theorem pe_makeX {k : Nat} {f : Addr} {fd : FuncData} {ps : List Str} {sp : Sp} {x : Str} {p pos : Pos} {e : Expr} {es : List Expr} {t : TA} (xc : XC X.K C M) (hin : W.findIn X.K (.ref C) "__init__" = some (some (.ref f))) (hfn : W.isFn X.K (.ref f) = true)
 (F : FnOk X.prog X.w X.K X.mg X.base gO k f fd ps sp) (hr : dW (k + 1) X.A) (hg : Gl X x) (hm : X.mg x = some (.ref C)) (hb : fG X.K fd ps []) (ha : PA X (e :: es) t)
 (hdb : (x == ("__debug__" : Str)) = false := by decide) (he : starEach (e :: es) X.env = (false,eval e X.env) :: starEach es X.env := by rfl) (oE : (backTo pos (starEach es X.env)).any (·.1) = false := by rfl) :
 PE X (.Call (.Name x p) (e :: es) [] pos) (tMakeX C sp t) := by
 intro aA s σ H Q I h
 refine wpAny_Call_Name_kw (oM I hg hm ?_ hdb)
 refine PySem.W.callWith_K (h₀ := X.base) I.ok.mod.kin xc.kp (cP (ha pos aA s σ H _ I h) λ us s1 ⟨vs,H1,I1,r,hl,q⟩ => ⟨I1.kIn,?_⟩) he oE
 exact run_makeX xc hin hfn F hr hb I1 r hl q
end
def tRev (K : W.Frag) (te : TE) : TE := λ σ H Q => te σ H λ x H1 => ∃ a xs,x = .ref a /\ bC K H1 a xs /\ ∀ p,H1 p = none -> Q (.ref p) (aL H1 p (.lst xs.reverse))
theorem pe_rev {e : Expr} {te : TE} {st : Expr} {p2 pos : Pos} (he : PE X e te) (hst : PE X st (λ _ H Q => Q (.int (-1)) H))
 (hsub : ∀ o i,subscripted (.Slice none none (some st) p2) false o i = operate [o,i] (getItem o i) := by intro _ _; with_unfolding_all rfl) : PE X (.Subscript e (.Slice none none (some st) p2) pos) (tRev X.K te) := by
 intro aA s σ H Q I h
 refine Subscript_ (cP (he aA s σ H _ I h) λ v s1 ⟨x,H1,I1,r1,q1⟩ => ?_)
 obtain ⟨a,xs,rfl,hq,q⟩ := q1
 cases r1
 refine wpAny_Slice ?_
 rw [evalPart_none]
 refine wpAny_pure (wpAny_pure ?_)
 refine wpAny_evalPart_some (cP (hst aA s1 σ H1 (λ v H' => v = .int (-1) /\ H' = H1) I1 ⟨rfl,rfl⟩) λ u s2 ⟨y,H2,I2,r2,ey,eh⟩ => ?_)
 subst ey eh
 obtain ⟨t,rfl⟩ := r2
 have I3 : aR X aA σ H2 { s2 with heap := s2.heap.push { cls := .type "slice",data := .fields #[.none,.none,.int (-1) t] } } := I2.kept (t' := s2.toks) λ b ob z => Heap.get?_push_of_some _ z
 obtain ⟨bJ,r,pl,hz⟩ := I3.list hq
 have cE := r.length
 refine tail_any (ops := [.ref a,.ref s2.heap.objs.size]) pl.isList.typeIs slot_list_getitem.lookup (wpAny_getItem_list_slice pl.isList (Heap.IsSliceOf.new ..) .none .none (.int (-1) t) (by decide) ?_ (by rw [List.size_toArray] <;> omega)) (hsub _ _)
 rw [PySem.W.krv_pick]
 refine ⟨.ref _,_,I3.laid (t' := s2.toks) (o := .lst xs.reverse) (λ b ob z => Heap.get?_push_of_some _ z) (Nat.le_refl _) ?_,rfl,q _ I3.fresh⟩
 exact ⟨by rw [List.length_reverse]; exact hz,_,0,r.reverse,Heap.get?_push_size _ rfl⟩
def TbAt (h : Heap) (T : Addr) : Prop := ∃ oT ts,h.get? T = some oT /\ oT.data = .fields ts /\ ts[3]? = some .none
structure Lft (fs : List Addr) (a T : Addr) (h h' : Heap) : Prop where
 keep : ∀ b o,b ∉ fs -> b ≠ a -> h.get? b = some o -> h'.get? b = some o
 slot : ∀ b o,b ∈ fs -> h.get? b = some o -> ∃ sl,h'.get? b = some { o with slots := sl }
 tb : TbAt h' T
section
variable {M : Model} {E : Value -> Shared -> Prop} {L : Addr} {oe : Obj} {vs : Array Value}
theorem qE {head : Value} {hadNext : Bool} (hfr : A.frames = some (env :: outer)) (hl : s.heap.FunFrames base (env :: outer)) (hf : env.frame = some L) (he : s.heap.get? a = some oe) (hd : oe.data = .fields vs) (hsz : 1 < vs.size)
 (h : ∀ h',Lft (frs (env :: outer)) a s.heap.objs.size s.heap h' -> h'.get? a = some (oe.mapFields (·.setIfInBounds 1 (.ref s.heap.objs.size))) -> Q () { s with heap := h' }) :
 wpAny M A (do let x <- frameOf env; let p <- entryPlaceOf L hadNext; let t <- EntryCells.newEntry head x .none (rawInt L) .none p; setField (.ref a) 1 t) (λ _ s' => wpAny M A (setFlight (.ref a) none) Q E s') E s := by
 have na : a ∉ frs (env :: outer) := λ hm => by
  obtain ⟨_,o,ho,hnf⟩ := hl.mem hm;rw [he] at ho;cases ho;exact hnf vs hd
 refine wpAny_bind (wpAny_frameOf_fun hfr hl hf λ k so => wpAny_bind (wpAny_entryPlaceOf λ pl oE => ?_))
 obtain ⟨s1,s2,s3⟩ := so
 unfold EntryCells.newEntry newFields
 refine wpAny_bind (wpAny_newObj_type ?_ (oE.sizeOk5 _ _ _ _ _))
 generalize hTB : ({ cls := .type "traceback",dict := none,data := .fields ([head,.ref L,.none,rawInt L,.none] ++ (if pl.isEmpty then List.replicate 6 Value.none else pl)).toArray } : Obj) = TB
 have dTB : TB.data = .fields ([head,.ref L,.none,rawInt L,.none] ++ (if pl.isEmpty then List.replicate 6 Value.none else pl)).toArray := by rw [<- hTB]
 have fTB : TB.isFreed = false := by rw [<- hTB]; rfl
 have e1 : k.get? a = some oe := (s2 a na).trans he
 have e2 : (k.push TB).get? a = some oe := Heap.get?_push_of_some _ e1
 have nT : k.objs.size ≠ a := Nat.ne_of_gt (Heap.lt_size e1)
 have t2 : (k.push TB).get? k.objs.size = some TB := Heap.get?_push_size _ fTB
 refine wpAny_setField e2 hd hsz ?_
 have d3 := Obj.data_mapFields hd (·.setIfInBounds 1 (Value.ref k.objs.size))
 have e3 := Heap.get?_update_self (Obj.mapFields (·.setIfInBounds 1 (Value.ref k.objs.size))) e2 (Obj.isFreed_of_fields d3)
 have t3 := (Heap.get?_update_other (k.push TB) (Obj.mapFields (·.setIfInBounds 1 (Value.ref k.objs.size))) (Ne.symm nT)).trans t2
 unfold setFlight
 refine wpAny_bind (wpAny_field e3 d3 (x := .ref k.objs.size) (by simp [hsz]) ?_)
 rw [if_pos (show (Value.ref k.objs.size != Value.none) = true by simp)]
 have sz3 : 3 < ([head,.ref L,.none,rawInt L,.none] ++ (if pl.isEmpty then List.replicate 6 Value.none else pl)).toArray.size := by
  simp only [List.size_toArray,List.length_append,List.length_cons,List.length_nil]; omega
 refine wpAny_setField t3 dTB sz3 ?_
 have d4 := Obj.data_mapFields dTB (·.setIfInBounds 3 ((none : Option Addr).elim Value.none λ f => rawInt f))
 have all : ∀ b o,b ≠ a -> k.get? b = some o -> (((k.push TB).update a (Obj.mapFields (·.setIfInBounds 1 (Value.ref k.objs.size)))).update k.objs.size (Obj.mapFields (·.setIfInBounds 3 ((none : Option Addr).elim Value.none λ f => rawInt f)))).get? b = some o := λ b o nb e => by
  rw [Heap.get?_update_other _ _ (Nat.ne_of_gt (Heap.lt_size e)),Heap.get?_update_other _ _ (Ne.symm nb)];exact Heap.get?_push_of_some _ e
 have q := h (((k.push TB).update a (Obj.mapFields (·.setIfInBounds 1 (Value.ref k.objs.size)))).update k.objs.size (Obj.mapFields (·.setIfInBounds 3 ((none : Option Addr).elim Value.none λ f => rawInt f))))
 rw [<- s1] at q
 refine q ⟨λ b o nf nb e => all b o nb ((s2 b nf).trans e),λ b o hb e => ?_,?_⟩ ?_
 . obtain ⟨sl,e'⟩ := s3 b o e;exact ⟨sl,all b _ (λ z => na (z ▸ hb)) e'⟩
 . exact ⟨_,_,Heap.get?_update_self _ t3 (Obj.isFreed_of_fields d4),d4,by simp [sz3]⟩
 . rw [Heap.get?_update_other _ _ nT]; exact e3
theorem leave_first (hfr : A.frames = some (env :: outer)) (hl : s.heap.FunFrames base (env :: outer)) (hf : env.frame = some L) (he : s.heap.get? a = some oe) (hd : oe.data = .fields vs) (h1 : vs[1]? = some .none)
 (h : ∀ h',Lft (frs (env :: outer)) a s.heap.objs.size s.heap h' -> h'.get? a = some (oe.mapFields (·.setIfInBounds 1 (.ref s.heap.objs.size))) -> Q () { s with heap := h' }) : wpAny M A (leaving env (.ref a)) Q E s := by
 unfold leaving noteFrame
 simp only [hf]
 refine wpAny_bind (wpAny_bind (wpAny_field he hd h1 ?_))
 rw [if_neg (by decide)]
 exact qE hfr hl hf he hd (Array.getElem?_eq_some_iff.mp h1).1 h
theorem leave_next {T : Addr} (hfr : A.frames = some (env :: outer)) (hl : s.heap.FunFrames base (env :: outer)) (hf : env.frame = some L) (he : s.heap.get? a = some oe) (hd : oe.data = .fields vs) (h1 : vs[1]? = some (.ref T)) (ht : TbAt s.heap T) (nTa : T ≠ a)
 (h : ∀ h' k,(∀ b o,b ≠ T -> s.heap.get? b = some o -> k.get? b = some o) -> TbAt k T -> k.objs.size = s.heap.objs.size -> Lft (frs (env :: outer)) a s.heap.objs.size k h' -> h'.get? a = some (oe.mapFields (·.setIfInBounds 1 (.ref s.heap.objs.size))) -> Q () { s with heap := h' }) : wpAny M A (leaving env (.ref a)) Q E s := by
 obtain ⟨oT,ts,hT,dT,t3⟩ := ht
 have s3 : 3 < ts.size := (Array.getElem?_eq_some_iff.mp t3).1
 unfold leaving noteFrame
 simp only [hf]
 refine wpAny_bind (wpAny_bind (wpAny_field he hd h1 ?_))
 rw [if_pos (show (Value.ref T != Value.none) = true by simp)]
 refine wpAny_bind (wpAny_field hT dT t3 ?_)
 rw [if_neg (show ¬ ((Value.none == rawInt L) = true) by simp [rawInt])]
 refine wpAny_bind (wpAny_setField hT dT s3 ?_)
 have oth : ∀ b,b ≠ T -> (s.heap.update T (Obj.mapFields (·.setIfInBounds 3 Value.none))).get? b = s.heap.get? b := λ b nb => Heap.get?_update_other _ _ (Ne.symm nb)
 have d4 := Obj.data_mapFields dT (·.setIfInBounds 3 Value.none)
 have tT : TbAt (s.heap.update T (Obj.mapFields (·.setIfInBounds 3 Value.none))) T := ⟨_,_,Heap.get?_update_self _ hT (Obj.isFreed_of_fields d4),d4,by simp [s3]⟩
 have zz : (s.heap.update T (Obj.mapFields (·.setIfInBounds 3 Value.none))).objs.size = s.heap.objs.size := Heap.size_after_update ..
 have nfT : ∀ b o,s.heap.get? b = some o -> (∀ ws,o.data ≠ .fields ws) -> b ≠ T := λ b o e nf z => by
  rw [z,hT] at e;cases e;exact nf ts dT
 refine qE (s := { s with heap := s.heap.update T (Obj.mapFields (·.setIfInBounds 3 Value.none)) }) hfr (hl.of_keeps λ b o e nf => ⟨o,(oth b (nfT b o e nf)).trans e,rfl⟩) hf ((oth a (Ne.symm nTa)).trans he) hd (Array.getElem?_eq_some_iff.mp h1).1 λ h' lf ea => ?_
 exact h h' _ (λ b o nb e => (oth b nb).trans e) tT zz (by rw [<- zz]; exact lf) (by rw [<- zz]; exact ea)
end
def TbO (T : Addr) : HO := .ext λ h => TbAt h T
def FlyO (a C : Addr) (d : Option Addr) (T : Addr) : HO := .ext λ h => ∃ vs,h.get? a = some { cls := .ref C,dict := d,data := .fields vs } /\ vs[1]? = some (.ref T)
theorem tbO_ok {P : Program} {w : World} {H : Hp} {h : Heap} {T : Addr} (q : TbAt h T) : bZ P w H h T (TbO T) := by
 refine ⟨q,?_,λ h1 h2 ⟨oT,ts,e,r⟩ k => ⟨oT,ts,k _ e,r⟩⟩
 obtain ⟨oT,ts,e,_⟩ := q
 exact ⟨oT,e⟩
theorem flyO_ok {P : Program} {w : World} {H : Hp} {h : Heap} {a C T : Addr} {d : Option Addr} {vs : Array Value} (q : h.get? a = some { cls := .ref C,dict := d,data := .fields vs }) (h1 : vs[1]? = some (.ref T)) : bZ P w H h a (FlyO a C d T) :=
 ⟨⟨vs,q,h1⟩,⟨_,q⟩,λ _ _ ⟨vs,e,r⟩ k => ⟨vs,k _ e,r⟩⟩
def dR (H : Hp) (a C : Addr) (fs : List (Str × V)) : Prop := ∃ T d,H T = some (TbO T) /\ T ≠ a /\ H a = some (FlyO a C d T) /\ ((d = none /\ fs = []) \/ ∃ dx,d = some dx /\ H dx = some (DctO dx fs) /\ dx ≠ a /\ dx ≠ T)
def pY (P : Program) (w : World) : CXT := λ outer H s E e s' => ∃ (a : Addr) (H' : Hp),e = .ref a /\ s'.os = s.os /\ AllBare s'.gens /\ Un (frs outer) [] H H' s.heap s'.heap /\ mL P w H' s'.heap /\ E e none H'
section
variable {N : List Str} {qual : Str} {scope : Scope} {f : Addr} {cd : Value} {s0 : Shared} {H0 : Hp} {E : XK}
theorem left_ok {a T : Addr} {oa : HO} {k h' : Heap} (I : aR (cH (pY P w) P w K mg base N qual scope f cd A outer s0 H0 E) aA σ H s) (mu : ∃ φ,H a = some (.ext φ)) (hT : T = s.heap.objs.size) (lf : Lft (frs (envOfC qual scope s0.heap.objs.size f cd :: outer)) a T k h')
 (hk : ∀ b o,(∀ φ,H b ≠ some (.ext φ)) -> s.heap.get? b = some o -> k.get? b = some o) (hkt : ∀ b o,s.heap.get? b = some o -> ∃ o',k.get? b = some o') (hext : ∀ b φ,H b = some (.ext φ) -> b ≠ a -> φ s.heap -> bZ P w (aL (aL H a oa) T (TbO T)) h' b (.ext φ))
 (ha : ∃ o,h'.get? a = some o) (hoa : bZ P w (aL (aL H a oa) T (TbO T)) h' a oa) :
 Un (frs outer) [] H0 (aL (aL H a oa) T (TbO T)) s0.heap h' /\ mL P w (aL (aL H a oa) T (TbO T)) h' := by
 obtain ⟨φa,eA⟩ := mu
 have fT : H T = none := by rw [hT]; exact I.fresh
 have naT : a ≠ T := aD eA fT
 have top : (cH (pY P w) P w K mg base N qual scope f cd A outer s0 H0 E).stack = envOfC qual scope s0.heap.objs.size f cd :: outer := rfl
 have frN : ∀ b ∈ frs (envOfC qual scope s0.heap.objs.size f cd :: outer),H b = none := λ b hb => I.stkFree b hb
 have sub : ∀ b ∈ frs (envOfC qual scope s0.heap.objs.size f cd :: outer),b ∈ s0.heap.objs.size :: frs outer := λ b hb => I.stkSub b hb
 have sup : ∀ b ∈ frs outer,b ∈ frs (envOfC qual scope s0.heap.objs.size f cd :: outer) := λ b hb => by
  show b ∈ List.filterMap (·.frame) (envOfC qual scope s0.heap.objs.size f cd :: outer)
  rw [List.filterMap_cons];exact List.mem_cons_of_mem _ hb
 have zs : s0.heap.objs.size <= s.heap.objs.size := I.sz
 have nex : ∀ b,H b = none -> ∀ φ,H b ≠ some (.ext φ) := λ b e φ z => by rw [e] at z; cases z
 have u := I.base
 have in0 : ∀ b o,s0.heap.get? b = some o -> b ≠ T /\ b ≠ s0.heap.objs.size := λ b o e => ⟨Nat.ne_of_lt (Nat.lt_of_lt_of_le (Heap.lt_size e) (by rw [hT]; exact zs)),Nat.ne_of_lt (Heap.lt_size e)⟩
 have jD : ∀ b u,H b = some u -> (∀ φ,u ≠ .ext φ) -> aL (aL H a oa) T (TbO T) b = some u := λ b u e nx => by
  rw [aH (aD e fT),aH (λ z => by rw [z,eA] at e; cases e; exact nx _ rfl)]; exact e
 refine ⟨⟨λ b o e n nf _ => ?_,λ b o e n hf _ => ?_,λ b o e n _ => ?_,λ b o e _ => ?_,λ b xs e => ?_,λ b o u' e => ?_,λ b ps e => ?_⟩,λ b u' e => ?_⟩
 . have e1 := u.keep b o e n nf (λ z => nomatch z);have n1 := u.free b o e n (λ z => nomatch z);refine lf.keep b o (λ hb => ?_) (aD eA n1).symm (hk b o (nex b n1) e1)
   rcases List.mem_cons.mp (sub b hb) with z | z
   . exact (in0 b o e).2 z
   . exact nf z
 . obtain ⟨sl,e1⟩ := u.slot b o e n hf (λ z => nomatch z);have n1 := u.free b o e n (λ z => nomatch z);obtain ⟨sl2,e2⟩ := lf.slot b _ (sup b hf) (hk b _ (nex b n1) e1);exact ⟨sl2,e2⟩
 . have n1 := u.free b o e n (λ z => nomatch z);rw [aH (in0 b o e).1,aH (aD eA n1).symm]; exact n1
 . obtain ⟨o1,e1⟩ := u.there b o e (λ z => nomatch z);obtain ⟨o2,e2⟩ := hkt b o1 e1
   by_cases hb : b ∈ frs (envOfC qual scope s0.heap.objs.size f cd :: outer)
   . obtain ⟨sl,e3⟩ := lf.slot b o2 hb e2;exact ⟨_,e3⟩
   . by_cases hba : b = a
     . rw [hba]; exact ha
     . exact ⟨o2,lf.keep b o2 hb hba e2⟩
 . exact jD b _ (u.tups b xs e) (λ φ z => nomatch z)
 . exact jD b _ (u.frzs b o u' e) (λ φ z => nomatch z)
 . obtain ⟨more,e1⟩ := u.tbls b ps e;exact ⟨more,jD b _ e1 (λ φ z => nomatch z)⟩
 . by_cases hbT : b = T
   . rw [hbT,aC] at e;cases e;rw [hbT];exact tbO_ok lf.tb
   . rw [aH hbT] at e
     by_cases hba : b = a
     . rw [hba,aC] at e;cases e;rw [hba];exact hoa
     . rw [aH hba] at e;have nb : b ∉ frs (envOfC qual scope s0.heap.objs.size f cd :: outer) := λ hb => by rw [frN b hb] at e; cases e
       by_cases hx : ∃ φ,u' = .ext φ
       . obtain ⟨φ,rfl⟩ := hx;exact hext b φ e hba (I.hok b _ e).1
       . have nx : ∀ φ,H b ≠ some (.ext φ) := λ φ z => hx ⟨φ,by rw [e] at z; cases z; rfl⟩;refine (I.hok b u' e).stay (λ c v hc q => ?_) (λ c q => jD c _ q (λ φ z => nomatch z)) λ c xs q => jD c _ q (λ φ z => nomatch z)
         rcases hc with rfl | hc
         . exact lf.keep c v nb hba (hk c v nx q)
         . exact lf.keep c v (λ hb => by rw [frN c hb] at hc; cases hc) (λ z => by rw [z,eA] at hc; cases hc) (hk c v (λ φ z => by rw [hc] at z; cases z) q)
theorem xe_first {a C : Addr} {fs : List (Str × V)} (I : aR (cH (pY P w) P w K mg base N qual scope f cd A outer s0 H0 E) aA σ H s) (x : XAt H a C fs)
 (hE : ∀ H',dR H' a C fs -> (∀ b o,b ≠ a -> H b = some o -> H' b = some o) -> E (.ref a) none H') : (cH (pY P w) P w K mg base N qual scope f cd A outer s0 H0 E).xe (.ref a) s := by
 obtain ⟨t,hx⟩ := x
 have go : ∀ d,H a = some (mW a C t d) -> ((d = none /\ fs = []) \/ ∃ dx,d = some dx /\ H dx = some (DctO dx fs) /\ dx ≠ a) -> (cH (pY P w) P w K mg base N qual scope f cd A outer s0 H0 E).xe (.ref a) s := λ d ea hd => by
  have ho : s.heap.get? a = some (eW C t d) := (I.hok a _ ea).1;show wpAny (model P w) (A.deeper (envOfC qual scope s0.heap.objs.size f cd)) (leaving (envOfC qual scope s0.heap.objs.size f cd) (.ref a)) _ _ s;refine leave_first (base := base) I.ok.frames I.stack (L := s0.heap.objs.size) rfl ho rfl rfl λ h' lf ea' => ?_;have eaO : h'.get? a = some { cls := .ref C,dict := d,data := .fields ((#[.ref t,.none,.none,.none,.bool false,.none] : Array Value).setIfInBounds 1 (.ref s.heap.objs.size)) } := ea';have fT : H s.heap.objs.size = none := I.fresh;have naT : a ≠ s.heap.objs.size := aD ea fT;have fr : ∀ b u,H b = some u -> b ∉ frs (envOfC qual scope s0.heap.objs.size f cd :: outer) := λ b u e hb => by
   rw [show H b = none from I.stkFree b hb] at e; cases e
  obtain ⟨un,ok⟩ := left_ok (oa := FlyO a C d s.heap.objs.size) (k := s.heap) I ⟨_,ea⟩ rfl lf (λ _ _ _ e => e) (λ _ o e => ⟨o,e⟩)
   (λ b φ e nb p => by
    obtain ⟨_,⟨o,ho'⟩,st⟩ := I.hok b _ e;exact ⟨st _ _ p λ o q => lf.keep b o (fr b _ e) nb q,⟨o,lf.keep b o (fr b _ e) nb ho'⟩,st⟩) ⟨_,eaO⟩ (flyO_ok eaO rfl)
  refine ⟨a,_,rfl,I.os,I.bare,un,ok,hE _ ⟨s.heap.objs.size,d,aC,Ne.symm naT,by rw [aH naT]; exact aC,?_⟩ λ b o nb e => by rw [aH (aD e fT),aH nb]; exact e⟩
  rcases hd with hd | ⟨dx,e1,e2,e3⟩
  . exact .inl hd
  . exact .inr ⟨dx,e1,by rw [aH (aD e2 fT),aH e3]; exact e2,e3,aD e2 fT⟩
 rcases hx with ⟨h1,h2⟩ | ⟨dx,h1,h2,h3⟩
 . exact go none h1 (.inl ⟨rfl,h2⟩)
 . exact go (some dx) h1 (.inr ⟨dx,rfl,h2,h3⟩)
theorem xe_next {a C : Addr} {fs : List (Str × V)} (I : aR (cH (pY P w) P w K mg base N qual scope f cd A outer s0 H0 E) aA σ H s) (x : dR H a C fs)
 (hE : ∀ H',dR H' a C fs -> (∀ b o,b ≠ a -> H b = some o -> H' b = some o) -> E (.ref a) none H') : (cH (pY P w) P w K mg base N qual scope f cd A outer s0 H0 E).xe (.ref a) s := by
 obtain ⟨T,d,eT,nTa,ea,hd⟩ := x
 obtain ⟨vs,ho,h1⟩ := (I.hok a _ ea).1
 have tT : TbAt s.heap T := (I.hok T _ eT).1
 show wpAny (model P w) (A.deeper (envOfC qual scope s0.heap.objs.size f cd)) (leaving (envOfC qual scope s0.heap.objs.size f cd) (.ref a)) _ _ s
 refine leave_next (base := base) I.ok.frames I.stack (L := s0.heap.objs.size) rfl ho rfl h1 tT nTa λ h' k kk kT kz lf ea' => ?_
 have hsz : 1 < vs.size := (Array.getElem?_eq_some_iff.mp h1).1
 have eaO : h'.get? a = some { cls := .ref C,dict := d,data := .fields (vs.setIfInBounds 1 (.ref s.heap.objs.size)) } := ea'
 have fT : H s.heap.objs.size = none := I.fresh
 have naT : a ≠ s.heap.objs.size := aD ea fT
 have fr : ∀ b u,H b = some u -> b ∉ frs (envOfC qual scope s0.heap.objs.size f cd :: outer) := λ b u e hb => by
  rw [show H b = none from I.stkFree b hb] at e; cases e
 obtain ⟨un,ok⟩ := left_ok (oa := FlyO a C d s.heap.objs.size) (k := k) I ⟨_,ea⟩ rfl lf (λ b o nx e => kk b o (λ z => by subst z; exact nx _ eT) e)
  (λ b o e => by
   by_cases z : b = T
   . obtain ⟨oT,_,e',_⟩ := kT;exact ⟨oT,by rw [z]; exact e'⟩
   . exact ⟨o,kk b o z e⟩)
  (λ b φ e nb p => by
   by_cases z : b = T
   . rw [z,eT] at e;cases e;obtain ⟨oT,ts,e',r⟩ := kT;have e2 := lf.keep T oT (fr T _ eT) nTa e';rw [z];exact tbO_ok ⟨oT,ts,e2,r⟩
   . obtain ⟨_,⟨o,ho'⟩,st⟩ := I.hok b _ e;exact ⟨st _ _ p λ o q => lf.keep b o (fr b _ e) nb (kk b o z q),⟨o,lf.keep b o (fr b _ e) nb (kk b o z ho')⟩,st⟩) ⟨_,eaO⟩ (flyO_ok eaO (by simp [hsz]))
 refine ⟨a,_,rfl,I.os,I.bare,un,ok,hE _ ⟨s.heap.objs.size,d,aC,Ne.symm naT,by rw [aH naT]; exact aC,?_⟩ λ b o nb e => by rw [aH (aD e fT),aH nb]; exact e⟩
 rcases hd with hd | ⟨dx,e1,e2,e3,e4⟩
 . exact .inl hd
 . exact .inr ⟨dx,e1,by rw [aH (aD e2 fT),aH e3]; exact e2,e3,aD e2 fT⟩
def EX (H0 : Hp) (R : Addr -> Hp -> Prop) : XK := λ e _ H' => ∃ a,e = .ref a /\ H0 a = none /\ Same H0 H' /\ R a H'
end
section
variable {M : Model} {E : Value -> Shared -> Prop}
variable {nm q : Str} {N : Addr} {bs bm : List Value} {hdct : Bool} {sn : List Str} {sub : List Value} {ab : Bool} {col : Option Bool} {dd : Option Addr} {k0 k1 k2 k3 k5 : Option Value} {newId : String}
theorem raise_made {x : Sem Value} {Q : Flow -> Shared -> Prop} (hbase : bm.contains (.type "BaseException") = true) (hh : A.handled = none)
 (h : wpAny M A x (λ v s₁ => ∃ a t d,v = .ref a /\ s₁.heap.get? C = some (excClassObj nm q C N bs bm hdct sn sub ab col dd k0 k1 k2 k3 k5 newId) /\ s₁.heap.get? a = some (eW C t d) /\ E (.ref a) s₁) E s) :
 wpAny M A (raiseStmt env (some x) none) Q E s := by
 have cB : (Value.ref C :: bm).contains (.type "BaseException") = true := by rw [List.contains_cons,hbase,Bool.or_true]
 unfold raiseStmt
 refine wpAny_bind (wpAny_mono h (λ v s₁ h₁ => ?_) λ _ _ y => y)
 obtain ⟨a,t,d,rfl,hC,ha,hE⟩ := h₁
 obtain ⟨hp,g,dr,tk,os⟩ := s₁
 repeat (first | with_reducible refine wpAny_loadPart_at ha ?_ | with_reducible refine wpAny_loadPart_at hC ?_ | (with_reducible refine wpAny_isSubtype_exc hC ?_; rw [cB]) | wp_step)
 exact wpAny_raiseNew_none hh hE
end
section
variable {M : Addr}
def tRaise (C : Addr) (te : TE) (RX : Addr -> List (Str × V) -> Hp -> Prop) : TS := λ _ σ H => te σ H λ v H1 => ∃ a fs,v = .ref a /\ XAt H1 a C fs /\ RX a fs H1
theorem ps_raise {ex : Expr} {te : TE} {pos : Pos} {RX : Addr -> List (Str × V) -> Hp -> Prop} (xc : XC X.K C M) (hc : X.calm = true) (he : PE X ex te)
 (hx : ∀ aA σ H s a fs,aR X aA σ H s -> XAt H a C fs -> RX a fs H -> X.xe (.ref a) s) : PS X (.Raise (some ex) none pos) (tRaise C te RX) := by
 intro aA s σ H D I h
 obtain ⟨nm,q,N,bs,sn,sub,ab,col,dd,k0,k1,k2,k3,k5,e⟩ := xc.at_
 rw [arm_exec_Raise]
 have lE : wpAny (model X.prog X.w) X.A (raiseStmt X.env (some (do let v <- eval ex X.env; standAt pos; pure v)) none) (SP X aA D) X.xe s := by
  refine raise_made (C := C) (nm := nm) (q := q) (N := N) (bs := bs) (bm := .ref M :: eM) (hdct := true) (sn := sn) (sub := sub) (ab := ab) (col := col) (dd := dd) (k0 := k0) (k1 := k1) (k2 := k2) (k3 := k3) (k5 := k5) (newId := "ValueError.__new__") (by simp [eM]) (I.ok.hd hc) (wpAny_bind (cP (he aA s σ H _ I h) λ v s1 ⟨x,H1,I1,rx,a,fs,ex,hX,r⟩ => wpAny_bind (wpAny_standAt (wpAny_pure ?_))));subst ex;cases rx;have hE := hx aA σ H1 s1 a fs I1 hX r;obtain ⟨t,hX⟩ := hX
  rcases hX with ⟨h1,_⟩ | ⟨dx,h1,_,_⟩
  . exact ⟨a,t,none,rfl,I1.kIn _ _ e,I1.exc h1,hE⟩
  . exact ⟨a,t,some dx,rfl,I1.kIn _ _ e,I1.exc h1,hE⟩
 first
  | exact wpAny_bind (wpAny_standAt lE)
  | (simp only [evalOpt,Option.map]; exact wpAny_bind (wpAny_standAt lE))
  | (show wpAny _ _ (do standAt pos; raiseStmt X.env (some (do let v <- eval ex X.env; standAt pos; pure v)) none) _ _ _; exact wpAny_bind (wpAny_standAt lE))
end
theorem jY.okX {x qual : Str} {st : Stmt} {f : Addr} {fd : FuncData} {N ps : List Str} {k : Nat} {sp : Sp} (F : jY K x qual st f fd) (S : bI N ps (aG st)) (len : ∀ vs H Q E,sp vs H Q E -> vs.length = ps.length)
 (kH : ∀ (cdv : Value) (A : Around) (outer : List Env) (s : Shared) (H : Hp) (vs : List V) (Q : VK) (E : XK),dW k (A.deeper (envOfC qual (aG st) s.heap.objs.size f cdv)) -> sp vs H Q E ->
  ∃ t,PSs (cH (pY P w) P w K mg base N qual (aG st) f cdv A outer s H E) (cL st) t /\ t { nx := λ _ H' => Q .non H',rt := Q } (start N vs) H) : FnOk P w K mg base (pY P w) (k + 1) f fd ps sp := by
 obtain ⟨oc,od,kV,lV,pm,an,cdv,ct,osl,rfl,lk,qR⟩ := F.ex
 exact fn_of lk qR S len λ A outer s H vs Q E hr hsp => kH cdv A outer s H vs Q E hr hsp
def RNew (H0 : Hp) (E : XK) (C : Addr) : Addr -> List (Str × V) -> Hp -> Prop := λ a fs H1 => H0 a = none /\ Same H0 H1 /\ ∀ H',Same H0 H' -> dR H' a C fs -> E (.ref a) none H'
theorem raise_new {N : List Str} {qual : Str} {scope : Scope} {f : Addr} {cd : Value} {A : Around} {outer : List Env} {s0 : Shared} {H0 : Hp} {E : XK} {C : Addr} :
 ∀ aA σ H s a fs,aR (cH (pY P w) P w K mg base N qual scope f cd A outer s0 H0 E) aA σ H s -> XAt H a C fs -> RNew H0 E C a fs H -> (cH (pY P w) P w K mg base N qual scope f cd A outer s0 H0 E).xe (.ref a) s :=
 λ _ _ _ _ a _ I x ⟨na,sm,r⟩ => xe_first I x λ H' fl k => r H' (λ b o q => k b o (aD q na) (sm b o q)) fl
theorem upd_eq {H : Hp} {a : Addr} {o : HO} (h : H a = some o) : aL H a o = H := by
 funext b
 unfold aL
 by_cases z : b = a
 . rw [if_pos z,z,h]
 . rw [if_neg z]
section
variable {M : Model} {E : Value -> Shared -> Prop} {L : Addr} {oe : Obj} {vs : Array Value}
theorem note_next {T : Addr} (hfr : A.frames = some (env :: outer)) (hl : s.heap.FunFrames base (env :: outer)) (hf : env.frame = some L) (he : s.heap.get? a = some oe) (hd : oe.data = .fields vs) (h1 : vs[1]? = some (.ref T)) (ht : TbAt s.heap T) (nTa : T ≠ a)
 (h : ∀ h' k,(∀ b o,b ≠ T -> s.heap.get? b = some o -> k.get? b = some o) -> TbAt k T -> Lft (frs (env :: outer)) a s.heap.objs.size k h' -> h'.get? a = some (oe.mapFields (·.setIfInBounds 1 (.ref s.heap.objs.size))) -> Q () { s with heap := h' }) :
 wpAny M A (noteFrame (.ref a) env) (λ _ s' => wpAny M A (setFlight (.ref a) none) Q E s') E s := by
 obtain ⟨oT,ts,hT,dT,t3⟩ := ht
 have s3 : 3 < ts.size := (Array.getElem?_eq_some_iff.mp t3).1
 unfold noteFrame
 simp only [hf]
 refine wpAny_bind (wpAny_field he hd h1 ?_)
 rw [if_pos (show (Value.ref T != Value.none) = true by simp)]
 refine wpAny_bind (wpAny_field hT dT t3 ?_)
 rw [if_neg (show ¬ ((Value.none == rawInt L) = true) by simp [rawInt])]
 refine wpAny_bind (wpAny_setField hT dT s3 ?_)
 have oth : ∀ b,b ≠ T -> (s.heap.update T (Obj.mapFields (·.setIfInBounds 3 Value.none))).get? b = s.heap.get? b := λ b nb => Heap.get?_update_other _ _ (Ne.symm nb)
 have d4 := Obj.data_mapFields dT (·.setIfInBounds 3 Value.none)
 have tT : TbAt (s.heap.update T (Obj.mapFields (·.setIfInBounds 3 Value.none))) T := ⟨_,_,Heap.get?_update_self _ hT (Obj.isFreed_of_fields d4),d4,by simp [s3]⟩
 have zz : (s.heap.update T (Obj.mapFields (·.setIfInBounds 3 Value.none))).objs.size = s.heap.objs.size := Heap.size_after_update ..
 have nfT : ∀ b o,s.heap.get? b = some o -> (∀ ws,o.data ≠ .fields ws) -> b ≠ T := λ b o e nf z => by
  rw [z,hT] at e;cases e;exact nf ts dT
 refine qE (s := { s with heap := s.heap.update T (Obj.mapFields (·.setIfInBounds 3 Value.none)) }) hfr (hl.of_keeps λ b o e nf => ⟨o,(oth b (nfT b o e nf)).trans e,rfl⟩) hf ((oth a (Ne.symm nTa)).trans he) hd (Array.getElem?_eq_some_iff.mp h1).1 λ h' lf ea => ?_
 exact h h' _ (λ b o nb e => (oth b nb).trans e) tT (by rw [<- zz]; exact lf) (by rw [<- zz]; exact ea)
end
section
variable {fs : List (Str × V)} {A' : Around} {E' : Value -> Shared -> Prop}
theorem land (I : aR X aA σ H s) (x : dR H a C fs) (hst : X.stack = X.env :: X.outer) (hf : X.env.frame = some X.env.locals) (hA : A'.frames = X.A.frames)
 (h : ∀ h' H',aR X aA σ H' { s with heap := h' } -> dR H' a C fs -> (∀ b o,b ≠ a -> H b = some o -> H' b = some o) -> Q () { s with heap := h' }) :
 wpAny (model X.prog X.w) A' (noteFrame (.ref a) X.env) (λ _ s' => wpAny (model X.prog X.w) A' (setFlight (.ref a) none) Q E' s') E' s := by
 obtain ⟨T,d,eT,nTa,ea,hd⟩ := x
 obtain ⟨vs,ho,h1⟩ := (I.hok a _ ea).1
 have tT : TbAt s.heap T := (I.hok T _ eT).1
 have stk := I.stack
 have frm := I.ok.frames
 rw [hst] at stk frm
 refine note_next (base := X.base) (hA.trans frm) stk hf ho rfl h1 tT nTa λ h' k kk kT lf ea' => ?_
 rw [<- hst] at lf
 have hsz : 1 < vs.size := (Array.getElem?_eq_some_iff.mp h1).1
 have eaO : h'.get? a = some { cls := .ref C,dict := d,data := .fields (vs.setIfInBounds 1 (.ref s.heap.objs.size)) } := ea'
 have fT : H s.heap.objs.size = none := I.fresh
 have naT : a ≠ s.heap.objs.size := aD ea fT
 have fr : ∀ b u,H b = some u -> b ∉ frs X.stack := λ b u e hb => by
  rw [I.stkFree b hb] at e; cases e
 have nex : ∀ b,(∀ φ,H b ≠ some (.ext φ)) -> b ≠ T := λ b nx z => by subst z; exact nx _ eT
 have jD : ∀ b u,H b = some u -> (∀ φ,u ≠ .ext φ) -> aL (aL H a (FlyO a C d s.heap.objs.size)) s.heap.objs.size (TbO s.heap.objs.size) b = some u := λ b u e nx => by
  rw [aH (aD e fT),aH (λ z => by rw [z,ea] at e; cases e; exact nx _ rfl)]; exact e
 have non : ∀ b,H b = none -> b ≠ a /\ b ≠ T := λ b n => ⟨(aD ea n).symm,(aD eT n).symm⟩
 have un : Un (frs X.stack) [] H (aL (aL H a (FlyO a C d s.heap.objs.size)) s.heap.objs.size (TbO s.heap.objs.size)) s.heap h' := by
  refine ⟨λ b o e n nf _ => lf.keep b o nf (non b n).1 (kk b o (non b n).2 e),λ b o e n hb _ => lf.slot b o hb (kk b o (non b n).2 e),λ b o e n _ => ?_,λ b o e _ => ?_,λ b xs e => jD b _ e (λ φ z => nomatch z),λ b o u e => jD b _ e (λ φ z => nomatch z),λ b ps e => ⟨#[],by rw [jD b _ e (λ φ z => nomatch z)]; simp⟩⟩
  . rw [aH (Nat.ne_of_lt (Heap.lt_size e)),aH (non b n).1]; exact n
  . have e2 : ∃ o2,k.get? b = some o2 := by
     by_cases z : b = T
     . obtain ⟨oT,_,e',_⟩ := kT;exact ⟨oT,by rw [z]; exact e'⟩
     . exact ⟨o,kk b o z e⟩
    obtain ⟨o2,e2⟩ := e2
    by_cases hb : b ∈ frs X.stack
    . obtain ⟨sl,e3⟩ := lf.slot b o2 hb e2;exact ⟨_,e3⟩
    . by_cases hba : b = a
      . rw [hba]; exact ⟨_,eaO⟩
      . exact ⟨o2,lf.keep b o2 hb hba e2⟩
 have hok : mL X.prog X.w (aL (aL H a (FlyO a C d s.heap.objs.size)) s.heap.objs.size (TbO s.heap.objs.size)) h' := λ b u e => by
  by_cases hbT : b = s.heap.objs.size
  . rw [hbT,aC] at e;cases e;rw [hbT];exact tbO_ok lf.tb
  . rw [aH hbT] at e
    by_cases hba : b = a
    . rw [hba,aC] at e;cases e;rw [hba];exact flyO_ok eaO (by simp [hsz])
    . rw [aH hba] at e
      by_cases z : b = T
      . rw [z,eT] at e;cases e;obtain ⟨oT,ts,e',r⟩ := kT;rw [z];exact tbO_ok ⟨oT,ts,lf.keep T oT (fr T _ eT) nTa e',r⟩
      . refine (I.hok b u e).stay (λ c v hc q => ?_) (λ c q => jD c _ q (λ φ z => nomatch z)) λ c xs q => jD c _ q (λ φ z => nomatch z)
        rcases hc with rfl | hc
        . exact lf.keep c v (fr c _ e) hba (kk c v z q)
        . exact lf.keep c v (fr c _ hc) (λ y => by rw [y,ea] at hc; cases hc) (kk c v (λ y => by rw [y,eT] at hc; cases hc) q)
 refine h h' _ (I.call' (s' := { s with heap := h' }) (ch := []) rfl un hok I.bare (λ _ z => nomatch z)) ⟨s.heap.objs.size,d,aC,Ne.symm naT,by rw [aH naT]; exact aC,?_⟩ λ b o nb e => by rw [aH (aD e fT),aH nb]; exact e
 rcases hd with hd | ⟨dx,e1,e2,e3,e4⟩
 . exact .inl hd
 . exact .inr ⟨dx,e1,by rw [aH (aD e2 fT),aH e3]; exact e2,e3,aD e2 fT⟩
theorem flight (I : aR X aA σ H s) (x : dR H a C fs) (h : ∀ h',aR X aA σ H { s with heap := h' } -> Q () { s with heap := h' }) : wpAny (model X.prog X.w) A' (setFlight (.ref a) none) Q E' s := by
 obtain ⟨T,d,eT,nTa,ea,hd⟩ := x
 obtain ⟨vs,ho,h1⟩ := (I.hok a _ ea).1
 obtain ⟨oT,ts,hT,dT,t3⟩ := (I.hok T _ eT).1
 have s3 : 3 < ts.size := (Array.getElem?_eq_some_iff.mp t3).1
 unfold setFlight
 refine wpAny_bind (wpAny_field ho rfl h1 ?_)
 rw [if_pos (show (Value.ref T != Value.none) = true by simp)]
 refine wpAny_setField hT dT s3 ?_
 have d4 := Obj.data_mapFields dT (·.setIfInBounds 3 ((none : Option Addr).elim Value.none λ f => rawInt f))
 have e4 := Heap.get?_update_self (Obj.mapFields (·.setIfInBounds 3 ((none : Option Addr).elim Value.none λ f => rawInt f))) hT (Obj.isFreed_of_fields d4)
 have J := I.write (x := T) (e := T) (o := TbO T) (t' := s.toks) (h' := s.heap.update T (Obj.mapFields (·.setIfInBounds 3 ((none : Option Addr).elim Value.none λ f => rawInt f)))) (by rw [eT]; exact trivial) (.inl rfl) (λ b u nb e => (Heap.get?_update_other _ _ (Ne.symm nb)).trans e) ⟨_,e4⟩ (tbO_ok ⟨_,_,e4,d4,by simp [s3]⟩)
 rw [upd_eq eT] at J
 exact h _ J
abbrev Cx.hand (X : Cx) (a : Addr) (E : Value -> Shared -> Prop) : Cx := { X with A := X.A.mark (some (.ref a)),calm := false,xe := E }
theorem Cx.Ok.hand (ok : X.Ok) (a : Addr) (E : Value -> Shared -> Prop) : (X.hand a E).Ok :=
 ⟨ok.mod,ok.kind,ok.glob,ok.blt,ok.above,ok.inj,ok.has,ok.cab,λ z => absurd z Bool.false_ne_true,ok.frames,ok.stk,ok.exf,ok.bs,ok.bsz,ok.noex,ok.exfs,ok.funs,ok.frf⟩
theorem aR.hand (I : aR X aA σ H s) (a : Addr) (E : Value -> Shared -> Prop) : aR (X.hand a E) aA σ H s := ⟨I.ok.hand a E,I.os,I.bare,I.base,I.loc,I.cell,I.free,I.freeC,I.pin,I.hok,I.len⟩
theorem aR.unhand {a : Addr} {E : Value -> Shared -> Prop} {σ' : St} {H' : Hp} {s' : Shared} (I : aR (X.hand a E) aA σ' H' s') (ok : X.Ok) : aR X aA σ' H' s' := ⟨ok,I.os,I.bare,I.base,I.loc,I.cell,I.free,I.freeC,I.pin,I.hok,I.len⟩
abbrev Cx.tried (X : Cx) (E : Value -> Shared -> Prop) (pn : List (Addr × Obj)) : Cx := { X with xe := E,pn := pn }
theorem aR.tried (I : aR X aA σ H s) (E : Value -> Shared -> Prop) : aR (X.tried E (X.pn ++ aA)) [] σ H s :=
 ⟨⟨I.ok.mod,I.ok.kind,I.ok.glob,I.ok.blt,I.ok.above,I.ok.inj,I.ok.has,I.ok.cab,I.ok.hd,I.ok.frames,I.ok.stk,I.ok.exf,I.ok.bs,I.ok.bsz,I.ok.noex,I.ok.exfs,I.ok.funs,I.ok.frf⟩,I.os,I.bare,I.base,I.loc,I.cell,I.free,I.freeC,λ p hp => I.pin p (by simpa using hp),I.hok,I.len⟩
theorem aR.untried {E : Value -> Shared -> Prop} {pins' : List (Addr × Obj)} {σ' : St} {H' : Hp} {s' : Shared} (I : aR (X.tried E (X.pn ++ aA)) pins' σ' H' s') (ok : X.Ok) : aR X aA σ' H' s' :=
 ⟨ok,I.os,I.bare,I.base,I.loc,I.cell,I.free,I.freeC,λ p hp => I.pin p (List.mem_append_left _ hp),I.hok,I.len⟩
theorem unbind_ok {i : Nat} {n : Str} {v : V} (I : aR X aA σ H s) (hN : X.N.Nodup) (hi : X.N[i]? = some n) (hk : X.env.scope.names.lookup n = some .local) (hv : σ[i]? = some (some v)) (h : ∀ s',aR X aA (σ.set i none) H s' -> Q () s') :
 wpAny (model X.prog X.w) A' (unbindName X.env n) Q E' s := by
 obtain ⟨m,hn,hl⟩ := id I.loc
 obtain ⟨u,ru,lk⟩ := hl i n v hi hv (.inl hk)
 have hm : m n = some u := by
  rcases lk with ⟨_,e⟩ | ⟨z,_⟩
  . exact e
  . have hk' : X.env.kindOf n = some .local := hk
    rcases z with z | z <;> (rw [hk'] at z; cases z)
 have hiσ : i < σ.length := by rw [I.len]; exact (List.getElem?_eq_some_iff.mp hi).1
 refine wpAny_unbindName_local hk hn hm (by rw [I.ok.kind]; rfl) λ h' u' hn' hs => ?_
 obtain ⟨oL,_,_,hoL,_⟩ := id hn
 have nl : ∀ b o,X.s₀.heap.get? b = some o -> b ≠ X.env.locals := λ b o e => Nat.ne_of_lt (Nat.lt_of_lt_of_le (Heap.lt_size e) I.ok.above)
 refine h _ ⟨I.ok,I.os,I.bare,⟨λ b o e n' hb hx => (hs.2 b (nl b o e)).trans (I.base.keep b o e n' hb hx),λ b o e n' hb hx => ?_,I.base.free,λ b o e hx => ?_,I.base.tups,I.base.frzs,I.base.tbls⟩,⟨_,hn',λ j y v' e1 e2 e3 => ?_⟩,λ y c e => ?_,I.free,I.freeC,λ p hp => ?_,λ b ob e => ?_,by simpa using I.len⟩
 . obtain ⟨sl,e1⟩ := I.base.slot b o e n' hb hx;exact ⟨sl,(hs.2 b (nl b o e)).trans e1⟩
 . obtain ⟨o',e1⟩ := I.base.there b o e hx;exact ⟨o',(hs.2 b (nl b o e)).trans e1⟩
 . by_cases hj : j = i
   . subst hj;rw [List.getElem?_set_self hiσ] at e2;cases e2
   . rw [List.getElem?_set_ne (Ne.symm hj)] at e2;obtain ⟨u2,r2,q⟩ := hl j y v' e1 e2 e3;refine ⟨u2,r2,?_⟩
     rcases q with ⟨k,e⟩ | ⟨k,c,e,z⟩
     . refine .inl ⟨k,?_⟩;have ny : y ≠ n := λ e => hj (nodup_ix hN e1 (e ▸ hi));show (if y = n then u' else m y) = some u2;rw [if_neg ny]; exact e
     . exact .inr ⟨k,c,e,z.sameBut hs (I.cne y c e)⟩
 . obtain ⟨w',z⟩ := I.cell y c e;exact ⟨w',z.sameBut hs (I.cne y c e)⟩
 . obtain ⟨e,n',ne,nf,d⟩ := I.pin p hp;exact ⟨(hs.2 p.1 ne).trans e,n',ne,nf,d⟩
 . refine (I.hok b ob e).stay (λ c w' hc q => (hs.2 c ?_).trans q) (λ _ q => q) λ _ _ q => q;rintro rfl
   rcases hc with z | z
   . rw [<- z,I.free] at e; cases e
   . rw [I.free] at z; cases z
end
def tTry (n i : Nat) (C : Addr) (RX : Addr -> List (Str × V) -> Hp -> Prop) (tb ts : TS) : TS := λ D σ H => tb D σ H /\ ∀ a fs H1 σ1,List.length σ1 = n -> dR H1 a C fs -> RX a fs H1 ->
 ts { nx := λ σ2 H2 => D.nx (σ2.set i none) H2,rt := D.rt,bk := λ σ2 H2 => D.bk (σ2.set i none) H2,ct := λ σ2 H2 => D.ct (σ2.set i none) H2 } (σ1.set i (some (.ref a))) H1
def EXT (C : Addr) (RX : Addr -> List (Str × V) -> Hp -> Prop) : XK := λ e _ H' => ∃ a fs,e = .ref a /\ dR H' a C fs /\ RX a fs H'
section
variable {M : Addr} {RX : Addr -> List (Str × V) -> Hp -> Prop}
theorem SP.untried {aA : List (Addr × Obj)} {E : Value -> Shared -> Prop} {D : eL} {f : Flow} {s' : Shared} (ok : X.Ok) (h : SP (X.tried E (X.pn ++ aA)) [] D f s') : SP X aA D f s' := by
 cases f with
 | next => obtain ⟨σ',H',I,q⟩ := h; exact ⟨σ',H',I.untried ok,q⟩
 | brk => obtain ⟨σ',H',I,q⟩ := h; exact ⟨σ',H',I.untried ok,q⟩
 | cont => obtain ⟨σ',H',I,q⟩ := h; exact ⟨σ',H',I.untried ok,q⟩
 | ret u => obtain ⟨v,σ',H',I,r,q⟩ := h; exact ⟨v,σ',H',I.untried ok,r,q⟩
end
section
variable {M : Addr}
theorem dR.inst {aA : List (Addr × Obj)} {σ : St} {H : Hp} {s : Shared} {a : Addr} {fs : List (Str × V)} (I : aR X aA σ H s) (x : dR H a C fs) : ∃ ox od,PySem.W.InstAt s.heap a ox C od := by
 obtain ⟨T,d,eT,nTa,ea,hd⟩ := x
 obtain ⟨vs,ho,h1⟩ := (I.hok a _ ea).1
 rcases hd with ⟨rfl,_⟩ | ⟨dx,rfl,h2,_,_⟩
 . exact ⟨_,none,ho,rfl,rfl,trivial⟩
 . obtain ⟨_,⟨o,ho'⟩,_⟩ := I.hok dx _ h2;exact ⟨_,some o,ho,rfl,rfl,ho'⟩
def tFldF (C : Addr) (ta : TE) (f : Str) : TE := λ σ H Q => ta σ H λ x H1 => ∃ e fs v,x = .ref e /\ dR H1 e C fs /\ fs.lookup f = some v /\ Q v H1
theorem pe_fldF {e : Expr} {f : Str} {ta : TE} {pos : Pos} (xc : XC X.K C M) (hf : W.findIn X.K (.ref C) f = some none) (he : PE X e ta) (hb : attributeBase e f X.env (eval e X.env) = eval e X.env := by rfl) : PE X (.Attribute e f pos) (tFldF C ta f) := by
 intro aA s σ H Q I h
 refine attr_of hb (cP (he aA s σ H _ I h) λ u s1 ⟨x,H1,I1,rx,q1⟩ => ?_)
 obtain ⟨a,fs,v,rfl,⟨T,d,eT,nTa,ea,hd⟩,hl,q⟩ := q1
 cases rx
 rcases hd with ⟨_,rfl⟩ | ⟨dx,rfl,h2,_,_⟩
 . cases hl
 . obtain ⟨_,mA,hn,hr,hw⟩ := (I1.hok dx _ h2).1;obtain ⟨od,hod,hlook⟩ := pL hn;obtain ⟨vs,ho,h1⟩ := (I1.hok a _ ea).1;have J : PySem.W.InstAt s1.heap a _ C (some od) := ⟨ho,rfl,rfl,hod⟩;have rv := hr f;rw [hl] at rv;obtain ⟨u,eu,ru⟩ := kC.some_of rv;unfold getAttr;exact wpAny_bind (wpAny_mkText (xga_value (s := { s1 with toks := s1.toks + 1 }) I1.kIn J xc.ga xc.gb (xc.isB I1.kIn J) (PySem.W.findObj_own xc.hd hf rfl (by rw [hlook,eu])) (handed_of ru) ⟨v,H1,I1.tok _,ru,q⟩))
theorem fU (xc : XC X.K C M) : dP X (.builtin "isinstance") (λ xs H Q => ∃ e fs c cv b,xs = [.ref e,c] /\ dR H e C fs /\ bD c cv /\ (∀ u,bD c u -> u = cv) /\ W.kitOne X.K (.ref C) cv = some b /\ Q (.bl b) H) := by
 intro aA s σ H xs us Q I r h
 obtain ⟨e,fs,c,cv,b,rfl,hX,rc,hu,hk,q⟩ := h
 obtain ⟨u1,u2,rfl,r1,r2⟩ := r.two
 cases r1
 obtain rfl := hu _ r2
 obtain ⟨ox,od,J⟩ := hX.inst I
 exact PySem.W.kia_one (xc_kit xc) I.kIn J hk (λ z => nomatch z) λ tk => ⟨.bl b,H,I.tok tk,rfl,q⟩
end
section
variable {E : Value -> Shared -> Prop}
end
open AutoSeq1 (wpAny_loadPart')
section
variable {E : Value -> Shared -> Prop}
end
section
variable {E : Value -> Shared -> Prop}
end
def XB (K : W.Frag) (M : Addr) : Prop := ∃ nm q N bs sn sub ab col dd k0 k1 k2 k3 k5,K.lookup M = some (excClassObj nm q M N bs eM true sn sub ab col dd k0 k1 k2 k3 k5 "ValueError.__new__")
section
variable {Md : Model} {E : Value -> Shared -> Prop} {M : Addr}
variable {nm q nm' q' : Str} {N N' : Addr} {bs bs' sub sub' : List Value} {hdct hdct' : Bool} {sn sn' : List Str} {ab ab' : Bool} {col col' : Option Bool} {dd dd' : Option Addr} {k0 k1 k2 k3 k5 j0 j1 j2 j3 j5 : Option Value} {newId newId' : String}
theorem match_base {h : Heap} {g : Array GenState} {d : Drawn} {t : Nat} {os : OsState} {e : Addr} {oe : Obj} {Q : Bool -> Shared -> Prop} (hC : h.get? C = some (excClassObj nm q C N bs (.ref M :: eM) hdct sn sub ab col dd k0 k1 k2 k3 k5 newId))
 (hM : h.get? M = some (excClassObj nm' q' M N' bs' eM hdct' sn' sub' ab' col' dd' j0 j1 j2 j3 j5 newId')) (he : h.get? e = some oe) (hcls : oe.cls = .ref C) (hq : Q true ⟨h,g,d,t,os⟩) : wpAny Md A (excMatches (.ref e) (.ref M)) Q E ⟨h,g,d,t,os⟩ := by
 have hB : (Value.ref M :: eM).contains (.type "BaseException") = true := by simp [eM]
 have hcM : (Value.ref C :: Value.ref M :: eM).contains (.ref M) = true := by simp
 have f := tc_notTuple
 unfold excMatches
 repeat (first | (with_reducible refine wpAny_loadPart_at he ?_; rw [hcls]) | with_reducible refine wpAny_loadPart_at hM ?_ | (with_reducible refine wpAny_isSubtype_exc hM ?_; rw [hB]) | (with_reducible refine wpAny_isSubtype_exc hC ?_; rw [hcM]) | wp_step)
 exact hq
end
section
variable {M : Addr} {RX : Addr -> List (Str × V) -> Hp -> Prop}
theorem ps_tryB {body : List Stmt} {b0 : Stmt} {suite : List Stmt} {t : Expr} {nm : Str} {i n : Nat} {rest : List ExceptHandler} {pos hpos : Pos} {tb ts : TS}
 (xc : XC X.K C M) (xb : XB X.K M) (hst : X.stack = X.env :: X.outer) (hf : X.env.frame = some X.env.locals) (hN : X.N.Nodup) (hn : X.N.length = n) (hi : X.N[i]? = some nm) (hk : X.env.scope.names.lookup nm = some .local)
 (hRX : ∀ a fs H H',RX a fs H -> (∀ b o,b ≠ a -> H b = some o -> H' b = some o) -> dR H' a C fs -> RX a fs H')
 (hb : ∀ E pn,jP (pY X.prog X.w) (X.tried E pn) (EXT C RX) -> PSs (X.tried E pn) body tb)
 (ht : ∀ a,PE (X.hand a λ _ _ => False) t (tC (.ref M)))
 (hs : ∀ a,PSs (X.hand a λ _ _ => False) (b0 :: suite) ts) :
 PS X (.Try body (.ExceptHandler (some t) (some nm) (b0 :: suite) hpos :: rest) [] [] pos) (tTry n i C RX tb ts) := by
 intro aA s σ H D I ⟨hbd,hsu⟩
 have ok := I.ok
 refine wpAny_Try_except (wpAny_mono (hb (λ e s' => ∃ σ1 H1 a fs,e = .ref a /\ aR X aA σ1 H1 s' /\ dR H1 a C fs /\ RX a fs H1) (X.pn ++ aA) ?_ [] s σ H D (I.tried _) hbd) (λ f s1 h1 => ?_) λ e s1 h1 => ?_)
 . intro pins' σ' H' s' e s2 I' h';obtain ⟨a,H2,rfl,os,bare,un,hok,a',fs,e1,fl,rx⟩ := h';cases e1;have I2 : aR (X.tried _ (X.pn ++ aA)) pins' σ' H2 s2 := I'.call' (ch := []) os un hok bare (λ _ z => nomatch z);exact ⟨σ',H2,a,fs,rfl,I2.untried ok,fl,rx⟩
 . have h2 := SP.untried ok h1;cases f with
   | next => exact wpAny_execs_nil h2
   | brk => exact h2
   | cont => exact h2
   | ret u => exact h2
 . obtain ⟨σ1,H1,a,fs,rfl,I1,fl,rx⟩ := h1;refine land (A' := X.A) I1 fl hst hf rfl λ h2 H2 I2 fl2 k2 => ?_;have rx2 := hRX a fs H1 H2 rx k2 fl2;obtain ⟨cn,q,N,bs,sn,sub,ab,col,dd,k0,k1,k2,k3,k5,e⟩ := xc.at_;obtain ⟨mn,mq,mN,mb,ms,mu,ma,mc,md,j0,j1,j2,j3,j5,em⟩ := xb;have J2 : aR (X.hand a λ _ _ => False) aA σ1 H2 _ := I2.hand a _;refine wpAny_handleBy_cons (codeAny_handlers_test (wpAny_mono (ht a aA _ σ1 H2 (λ v H3 => v = .ref M /\ H3 = H2) J2 ⟨rfl,rfl⟩) (λ c s3 h3 => ?_) λ _ _ x => x.elim)) (by intro q; cases q);obtain ⟨v,H3,J3,r3,rfl,rfl⟩ := h3;cases r3;obtain ⟨T,d,eT,nTa,ea,hd⟩ := id fl2;obtain ⟨vs,ho,h1'⟩ := (J3.hok a _ ea).1;have hC := J3.kIn _ _ e;have hM := J3.kIn _ _ em;obtain ⟨hp,g,dr,tk,os⟩ := s3;refine match_base hC hM ho rfl ?_;refine codeAny_handlers_suite_as ?_;refine flight (X := X.hand a λ _ _ => False) (Q := _) J3 fl2 λ h4 J4 => ?_;refine kI (X := X.hand a λ _ _ => False) (v := .ref a) J4 hN hi (.inl hk) rfl (λ s5 J5 => ?_) (.inr hk);have hl : σ1.length = n := by rw [<- hn]; exact I1.len
   refine wpAny_mono (hs a aA s5 _ _ _ J5 (hsu a fs _ σ1 hl fl2 rx2)) (λ f s6 h6 => ?_) λ _ _ x => x.elim;have eO : ∀ σ6 H6,aR (X.hand a λ _ _ => False) aA σ6 H6 s6 -> ∀ {Q : Shared -> Prop},(∀ s',aR X aA (σ6.set i none) H6 s' -> Q s') -> wpAny (model X.prog X.w) X.A (do bindName X.env nm .none; unbindBehindTheSuite X.env nm hpos) (λ _ s' => Q s') X.xe s6 := λ σ6 H6 J6 Q hq => by
    refine wpAny_bind (wpAny_bindName (kI (v := .non) (J6.unhand ok) hN hi (.inl hk) rfl (λ s7 J7 => ?_) (.inr hk)));unfold unbindBehindTheSuite;refine wpAny_onRaise (unbind_ok (v := .non) J7 hN hi hk ?_ λ s8 J8 => ?_)
    . rw [List.getElem?_set_self];rw [J6.len]; exact (List.getElem?_eq_some_iff.mp hi).1
    . rw [List.set_set] at J8;exact hq s8 J8
   cases f with
   | next => obtain ⟨σ6,H6,J6,q⟩ := h6; exact eO σ6 H6 J6 λ s' J => ⟨_,_,J,q⟩
   | brk => obtain ⟨σ6,H6,J6,q⟩ := h6; exact eO σ6 H6 J6 λ s' J => ⟨_,_,J,q⟩
   | cont => obtain ⟨σ6,H6,J6,q⟩ := h6; exact eO σ6 H6 J6 λ s' J => ⟨_,_,J,q⟩
   | ret u => obtain ⟨v,σ6,H6,J6,r,q⟩ := h6; exact eO σ6 H6 J6 λ s' J => ⟨v,_,_,J,r,q⟩
end
structure RoomH (k : Nat) (A : Around) : Prop where
 dp : A.depth + 3 * k + 5 < recursionLimit
 un : A.units + 16 * k + 200 < cLine
theorem dW.hand {k : Nat} {A : Around} (r : dW k A) (v : Option Value) : RoomH k (A.mark v) := ⟨r.dp,r.un⟩
abbrev Around.calm (A : Around) : Around := { A with handled := none }
theorem RoomH.room {k : Nat} {A : Around} (r : RoomH k A) : dW k (Around.calm A) := ⟨rfl,r.dp,r.un⟩
structure FnOkH (P : Program) (w : World) (K : W.Frag) (mg : Str -> Option Value) (base : Heap) (k : Nat) (f : Addr) (fd : FuncData) (ps : List Str) (sp : Sp) : Prop where
 len : ∀ vs H Q E,sp vs H Q E -> vs.length = ps.length
 run : ∀ (A : Around) (outer : List Env) (s : Shared) (H : Hp) (args : Args) (us : List Value) (vs : List V) (Q : VK),RoomH k A -> rB P w K mg base A outer s H -> BindsTo s fd args (ps.zip us) -> aX vs us -> sp vs H Q E0 ->
  codeAny (model P w) A (.call (.ref f) args) (CR gO outer P w H s Q E0) s
abbrev Cx.loud (X : Cx) (A : Around) : Cx := { X with A := A,calm := false,xe := λ _ _ => False }
theorem aR.loud {X : Cx} {aA : List (Addr × Obj)} {σ : St} {H : Hp} {s : Shared} (I : aR X aA σ H s) (A : Around) (hf : A.frames = X.A.frames) : aR (X.loud A) aA σ H s :=
 ⟨⟨I.ok.mod,I.ok.kind,I.ok.glob,I.ok.blt,I.ok.above,I.ok.inj,I.ok.has,I.ok.cab,λ z => absurd z Bool.false_ne_true,hf.trans I.ok.frames,I.ok.stk,I.ok.exf,I.ok.bs,I.ok.bsz,I.ok.noex,I.ok.exfs,I.ok.funs,I.ok.frf⟩,I.os,I.bare,I.base,I.loc,I.cell,I.free,I.freeC,I.pin,I.hok,I.len⟩
theorem jY.okH {x qual : Str} {st : Stmt} {f : Addr} {fd : FuncData} {N ps : List Str} {k : Nat} {sp : Sp} (F : jY K x qual st f fd) (S : bI N ps (aG st)) (len : ∀ vs H Q E,sp vs H Q E -> vs.length = ps.length)
 (kH : ∀ (cdv : Value) (A : Around) (outer : List Env) (s : Shared) (H : Hp) (vs : List V) (Q : VK),sp vs H Q E0 ->
  ∃ t,PSs ((cH gO P w K mg base N qual (aG st) f cdv (Around.calm A) outer s H E0).loud (A.deeper (envOfC qual (aG st) s.heap.objs.size f cdv))) (cL st) t /\ t { nx := λ _ H' => Q .non H',rt := Q } (start N vs) H) : FnOkH P w K mg base (k + 1) f fd ps sp := by
 obtain ⟨oc,od,kV,lV,pm,an,cdv,ct,osl,rfl,lk,qR⟩ := F.ex
 refine ⟨len,λ A outer s H args us vs Q hr e0 hb r hsp => ?_⟩
 have hl := len _ _ _ _ hsp
 have KX : K.In s.heap := e0.mod.kin.keeps λ b o e => (e0.bs b o e).1
 have lim : s.heap.NoLimit := e0.mod.nolimit.keeps λ b o e => (e0.bs b o e).1
 have oY : ∀ y ∈ ps.zip us,(aG st).names.lookup y.1 = some .local \/ ((aG st).names.lookup y.1 = some .cell /\ ((cellsFrom (s.heap.objs.size + 1) (aG st).names []).lookup y.1).isSome = true) := λ ⟨n,v⟩ hy => by
  rcases S.par n (List.of_mem_zip hy).1 with q | q
  . exact .inl q
  . exact .inr ⟨q,PySem.W.cellsFrom_some _ _ _ (.inl q)⟩
 refine codeAny_call_function hr.room.depth (KX _ _ lk) rfl S.co S.gen rfl (PySem.W.codeRec_of KX qR) (hb _ _ _ _ ?_)
 refine wpAny_newFunctionEnv_cells S.kind oY λ env he s1 x => ?_
 subst he
 refine ⟨lim.keeps x.toInCall.keep,codeAny_func ?_⟩
 obtain ⟨t,ht,hq⟩ := kH cdv A outer s H vs Q hsp
 have e1 : rB P w K mg base (Around.calm A) outer s H := ⟨e0.frames,e0.mod,e0.bs,e0.bsz,e0.funs,e0.frf,e0.hok,e0.bare⟩
 have I0 : aR (cH gO P w K mg base N qual (aG st) f cdv (Around.calm A) outer s H E0) [] (start N vs) H s1 := inv_start S rfl e1 hl r x
 have I := I0.loud (A.deeper (envOfC qual (aG st) s.heap.objs.size f cdv)) rfl
 refine wpAny_mono (ht [] s1 (start N vs) H _ I hq) (λ fl s' hs => ?_) λ e s' hs => hs.elim
 have eO : ∀ {σ' : St} {H' : Hp} {v : V} {u : Value},aR ((cH gO P w K mg base N qual (aG st) f cdv (Around.calm A) outer s H E0).loud (A.deeper (envOfC qual (aG st) s.heap.objs.size f cdv))) [] σ' H' s' -> bD v u -> Q v H' -> CE outer P w H s Q u s' :=
  λ {σ' H' v u} J rv q => ⟨v,H',J.os,J.bare,J.base,J.hok,rv,q⟩
 cases fl with
 | ret u =>
  obtain ⟨v,σ',H',J,rv,q⟩ := hs;exact eO J rv q
 | next =>
  obtain ⟨σ',H',J,q⟩ := hs;exact eO (v := V.non) (u := Value.none) J rfl q
 | brk =>
  obtain ⟨_,_,_,q⟩ := hs;exact False.elim q
 | cont =>
  obtain ⟨_,_,_,q⟩ := hs;exact False.elim q
section
variable {k : Nat} {f : Addr} {fd : FuncData} {ps : List Str} {sp : Sp} {x : Str} {p pos : Pos} {e : Expr} {es : List Expr} {t : TA}
theorem run_fnH {aA : List (Addr × Obj)} {σ : St} {H : Hp} {s : Shared} {Q : VK} {us : List Value} {vs : List V} (F : FnOkH X.prog X.w X.K X.mg X.base k f fd ps sp) (hr : RoomH k X.A) (hb : fG X.K fd ps [])
 (I : aR X aA σ H s) (r : aX vs us) (h : sp vs H Q E0) : wpAny (model X.prog X.w) X.A (call (.ref f) us) (EP X aA σ Q) X.xe s := by
 have hl : us.length = ps.length := by rw [<- r.length]; exact F.len _ _ _ _ h
 have bb := hb s us I.kIn (by rw [List.append_nil]; exact hl)
 rw [List.append_nil] at bb
 refine wpAny_call (codeAny_mono (F.run X.A X.stack s H ⟨us,[]⟩ us vs Q hr I.env0 bb r h) λ r s' hq => ?_)
 cases r with
 | error e => exact False.elim hq
 | ok fl =>
  cases fl with
  | ret u => exact I.after hq
  | next => exact False.elim hq
  | brk => exact False.elim hq
  | cont => exact False.elim hq
theorem pe_callH (F : FnOkH X.prog X.w X.K X.mg X.base k f fd ps sp) (hr : RoomH k X.A) (hg : Gl X x) (hm : X.mg x = some (.ref f)) (hk : W.keepIn X.K (.ref f) = true) (hb : fG X.K fd ps [])
 (ha : PA X (e :: es) t) (hdb : (x == ("__debug__" : Str)) = false := by decide) (he : starEach (e :: es) X.env = (false,eval e X.env) :: starEach es X.env := by rfl) (oE : (backTo pos (starEach es X.env)).any (·.1) = false := by rfl) :
 PE X (.Call (.Name x p) (e :: es) [] pos) (nA sp [] E0 t) := by
 intro aA s σ H Q I h
 refine wpAny_Call_Name_kw (oM I hg hm ?_ hdb)
 refine PySem.W.callWith_K (h₀ := X.base) I.ok.mod.kin hk (cP (ha pos aA s σ H _ I h) λ us s1 ⟨vs,H1,I1,r,q⟩ => ⟨I1.kIn,?_⟩) he oE
 have q' : sp (vs ++ []) H1 Q E0 := q
 rw [List.append_nil] at q'
 exact run_fnH F hr hb I1 r q'
end
end L2
namespace TX
open PySem PySem.Calls
theorem lk_list_keys : typeLookup (.type "list") "keys" = pure none := by rw [typeLookup_type,builtinLookup_eq_fast]; kernel_rfl
section
variable {prog : Program} {w : World} {A : Around} {E : Value -> Shared -> Prop} {s : Shared} {a : Addr} {bJ : Array Value} {n : Nat}
theorem keys_none {sl : Array (Option Value)} {Q : Option Value -> Shared -> Prop} (hh : A.handled = none) (hx : s.heap.get? a = some { cls := .type "list",dict := none,data := .seq bJ n,slots := sl })
 (h : ∀ h' tk,(∀ b o,s.heap.get? b = some o -> h'.get? b = some o) -> Q none { s with heap := h',toks := tk }) : wpAny (model prog w) A (getAttr? (.ref a) "keys") Q E s := by
 obtain ⟨hp1,g1,d1,tk1,os1⟩ := s
 have hT1 : ∀ tk',(⟨hp1,g1,d1,tk',os1⟩ : Shared).TypeIs (.ref a) "list" := λ _ => ⟨_,hx,rfl⟩
 have f1 := sub_AttributeError
 have f3 := F.slot_list_getattribute.lookup
 have f4 := F.slot_list_getattribute.bind (.ref a)
 have f5 := am_list_getattr_none
 have hsz : Str.length "keys" + 100 <= sizeLine := by rw [sizeLine_eq]; decide
 unfold getAttr? getAttrBy? getAttrBy
 repeat any_goals first | assumption | exact hT1 _ | ((with_reducible show wpAny _ _ (call (Value.builtin "list.__getattribute__") _ _) _ _ _); refine call_meets F.slot_list_getattribute (hT1 _) am_entry_list_getattribute (F.args_list_getattribute_2 _ _) (meets_getattribute_miss_list a bJ n sl "keys" _ lk_list_keys (by decide +kernel) hsz) ⟨hx,hh,λ h' tk' e hx' => ?_⟩) | wp_step
 obtain ⟨t',u',he⟩ := hx'.there
 show wpAny (model prog w) A (getattributeRaised _ _ _ _ _ _ _) _ _ _
 unfold getattributeRaised
 repeat any_goals first | assumption | wp_step
 exact h _ _ hx'.keeps
end
end TX
namespace TX
open PySem PySem.Calls
theorem qL : entryFor table "dict.update.loop" = some Builtin.«dict.update.loop» := entryFor_of_tree (by kernel_rfl)
theorem jI : plainId "dict.update.loop" = true := by decide +kernel
section
variable {prog : Program} {w : World} {A : Around} {E : Value -> Shared -> Prop} {K : Type} [DecidableEq K] {knd : KeyKind prog w K}
def PairAt (h : Heap) (T : Addr) (lE v : Value) : Prop := ∃ o m,h.get? T = some o /\ o.cls = .type "tuple" /\ o.data = .seq #[lE,v] m
theorem pair_items {s : Shared} {T : Addr} {lE v : Value} {Q : List Value -> Shared -> Prop} (h : PairAt s.heap T lE v) (q : Q [lE,v] s) : wpAny (model prog w) A (Builtin.Dict.pairItems (.ref T)) Q E s := by
 obtain ⟨o,m,e,c,d⟩ := h
 have hT : s.TypeIs (.ref T) "tuple" := ⟨o,e,c⟩
 unfold Builtin.Dict.pairItems
 refine wpAny_bind (wpAny_typeOf hT ?_)
 rw [if_pos (by decide)]
 exact wpAny_bind (wpAny_seqItems e d (wpAny_pure q))
theorem loop_dict {R : Result -> Shared -> Prop} {D I l : Addr} {items : Array Value} {more : List (K × Value)} (hh : A.in1.handled = none) (hDI : D ≠ I) (hlI : l ≠ I) (hlD : l ≠ D) (cE : more.length = items.size) (hz : items.size <= sizeLine) :
 ∀ (k i : Nat) (s : Shared),items.size - i = k -> i <= items.size -> s.heap.IsListIter I l i -> s.heap.IsList l items -> s.heap.DictOf knd D (merged [] (more.take i)) ->
  (∀ (i : Nat) (v : Value),items[i]? = some v -> ∃ (T : Addr) (lE : Value) (kv : K × Value),v = .ref T /\ more[i]? = some kv /\ knd.is kv.1 lE = true /\ T ≠ D /\ T ≠ I /\ PairAt s.heap T lE kv.2) ->
  (∀ h' tk,h'.DictOf knd D (merged [] more) -> (∀ b o,b ≠ D -> b ≠ I -> s.heap.get? b = some o -> h'.get? b = some o) -> R (.ok (.ret .none)) { s with heap := h',toks := tk }) ->
  codeAny (model prog w) A (.builtin "dict.update.loop" ⟨[.ref D,.ref I,rawInt i,.none],[]⟩) R s := by
 intro k
 have W := Walks.list (prog := prog) (w := w) (A := A.in1) hh I l hlI items
 induction k with
 | zero =>
  intro i s hk hi nY hl hd hp hR;obtain rfl : i = items.size := by omega
  refine codeAny_builtin qL (by
   rw [PySem.Around.under_plainId jI _];refine (show wpAny _ A.in1 (pyNext (.ref I) >>= _) _ _ s from wpAny_bind (W.done s _ _ ⟨nY,hl⟩ λ h' tk hm => ?_));refine wpAny_bind (show wpAny _ A.in1 (pure ()) _ _ _ from wpAny_pure ?_);refine wpAny_pure (hR h' tk ?_ λ b o n1 n2 e => hm b o (by simp [n2]) e);rw [<- cE,List.take_length] at hd;exact hd.at λ o e => hm D o (by simp [hDI]) e)
 | succ k ih =>
  intro i s hk hi nY hl hd hp hR;have fR : i < items.size := by omega
  refine codeAny_builtin qL (by
   rw [PySem.Around.under_plainId jI _];refine (show wpAny _ A.in1 (pyNext (.ref I) >>= _) _ _ s from wpAny_bind (W.item i s _ _ fR ⟨nY,hl⟩ λ v h' tk hv st hm => ?_));obtain ⟨T,lE,kv,rfl,hkv,hkey,nD,nI,o,m,e,c,d⟩ := hp i v hv;have eT := hm T o (by simp [nI]) e;have hd1 : h'.DictOf knd D (merged [] (more.take i)) := hd.at λ o e => hm D o (by simp [hDI]) e;have hq : PairAt h' T lE kv.2 := ⟨o,m,eT,c,d⟩;have hlm : (merged [] (more.take i)).length <= sizeLine := by
    have q := merged_length_le [] (more.take i);rw [List.length_take] at q;have q0 : ([] : List (K × Value)).length = 0 := rfl;omega
   refine wpAny_bind (wpAny_holding (wpAny_bind (wpAny_tryCatch (pair_items hq ?_))));refine wpAny_holding (wpAny_dictSet_pairs hkey hd1 (λ h2 hd2 sb => ?_) hlm);rw [<- merged_take_succ [] more i kv hkv] at hd2;have e2 : ∀ b ob,b ≠ D -> h'.get? b = some ob -> h2.get? b = some ob := λ b ob n e => (sb.2 b n).trans e;have ni : ((i : Int) + 1) = ((i + 1 : Nat) : Int) := by omega
   refine wpAny_pure ⟨plainId_quiet jI _,?_⟩;rw [ni];refine ih (i + 1) _ (by omega) fR ?_ ?_ hd2 (λ j v hj => ?_) λ h3 tk3 hd3 kp => ?_
   . exact st.1.at λ ob q => e2 I ob (Ne.symm hDI) q
   . exact st.2.at λ ob q => e2 l ob hlD q
   . obtain ⟨T2,key2,kv2,r1,r2,r3,r4,r5,o2,m2,g1,g2,g3⟩ := hp j v hj;exact ⟨T2,key2,kv2,r1,r2,r3,r4,r5,o2,m2,e2 T2 _ r4 (hm T2 _ (by simp [r5]) g1),g2,g3⟩
   . exact hR h3 tk3 hd3 λ b ob n1 n2 q => kp b ob n1 n2 (e2 b _ n1 (hm b _ (by simp [n2]) q)))
end
end TX
namespace TX
open PySem PySem.Calls
section
variable {prog : Program} {w : World} {A : Around} {E : Value -> Shared -> Prop} {s : Shared} {K : Type} [DecidableEq K] {knd : KeyKind prog w K}
theorem call_dict_list {l : Addr} {items : Array Value} {nl : Nat} {sl : Array (Option Value)} {more : List (K × Value)} {Q : Value -> Shared -> Prop} (hh : A.handled = none)
 (hx : s.heap.get? l = some { cls := .type "list",dict := none,data := .seq items nl,slots := sl }) (cE : more.length = items.size) (hz : items.size <= sizeLine)
 (hp : ∀ (i : Nat) (v : Value),items[i]? = some v -> ∃ (T : Addr) (lE : Value) (kv : K × Value),v = .ref T /\ more[i]? = some kv /\ knd.is kv.1 lE = true /\ PairAt s.heap T lE kv.2)
 (h : ∀ h' tk,h'.DictOf knd s.heap.objs.size (merged [] more) -> (∀ b o,s.heap.get? b = some o -> h'.get? b = some o) -> Q (.ref s.heap.objs.size) { s with heap := h',toks := tk }) :
 wpAny (model prog w) A (call (.type "dict") [.ref l]) Q E s := by
 refine callType_codes (Q₁ := λ obj s₁ => obj = .ref s.heap.objs.size /\ s₁ = { s with heap := s.heap.push { cls := .type "dict",data := .dict #[] } }) F.kt_called_dict (F.kt_typeCall_dict_1 _) F.entry_dict_init (kt_code_dict_new _ ⟨rfl,rfl⟩) ?_
 rintro obj s₁ ⟨rfl,rfl⟩
 have hnew : (s.heap.push { cls := .type "dict",data := .dict #[] }).DictOf knd s.heap.objs.size [] := Heap.DictOf.new s.heap
 have hx1 : (s.heap.push { cls := .type "dict",data := .dict #[] }).get? l = some { cls := .type "list",dict := none,data := .seq items nl,slots := sl } := Heap.get?_push_of_some _ hx
 have fR : l < s.heap.objs.size := Heap.lt_size hx
 have up1 : ∀ b o,s.heap.get? b = some o -> (s.heap.push { cls := .type "dict",data := .dict #[] }).get? b = some o := λ b o e => Heap.get?_push_of_some _ e
 have hsz : (s.heap.push { cls := .type "dict",data := .dict #[] }).objs.size = s.heap.objs.size + 1 := Heap.size_push ..
 generalize s.heap.push { cls := .type "dict",data := .dict #[] } = h1 at hnew hx1 up1 hsz ⊢
 refine ⟨hnew.typeIs,F.args_dict_init_2 _ _,?_⟩
 unfold Builtin.«dict.__init__»
 refine wpAny_bind ?_
 unfold Builtin.Dict.selfAndRest
 refine wpAny_bind (wpAny_notOrdered_dict hnew.typeIs ?_)
 refine (show wpAny _ _ (pure (s.heap.objs.size,[Value.ref l])) _ _ _ from wpAny_pure ?_)
 show wpAny _ _ (Builtin.Dict.updateFrom "dict.__init__" s.heap.objs.size (.ref l) [] .none) _ _ _
 unfold Builtin.Dict.updateFrom
 refine wpAny_bind (wpAny_typeOf (T := "list") ⟨_,hx1,rfl⟩ ?_)
 rw [if_pos (by decide)]
 refine wpAny_bind (keys_none (by simpa using hh) hx1 λ h2 tk2 k2 => ?_)
 rw [if_pos (show (Option.isNone (none : Option Value)) = true from rfl)]
 have hx2 := k2 _ _ hx1
 have hd2 : h2.DictOf knd s.heap.objs.size [] := hnew.at λ o e => k2 _ _ e
 have hD2 : s.heap.objs.size < h2.objs.size := by
  obtain ⟨o,_,_,e,_⟩ := hd2;exact Heap.lt_size e
 have gK : l < h2.objs.size := Heap.lt_size hx2
 refine wpAny_bind (wpAny_rule (wpAny_bind (wpAny_pyIter_list ⟨_,hx2,rfl,nl,rfl⟩ ?_)))
 have up : ∀ b o,h2.get? b = some o -> (h2.push { cls := .type "list_iterator",data := .fields #[.ref l,.int 0 0] }).get? b = some o := λ b o e => Heap.get?_push_of_some _ e
 refine wpAny_pure ⟨plainId_quiet jI _,?_⟩
 refine loop_dict (knd := knd) (more := more) (D := s.heap.objs.size) (I := h2.objs.size) (l := l) (items := items) (by simpa using hh) (Nat.ne_of_lt hD2) (Nat.ne_of_lt gK) (Nat.ne_of_lt fR) cE hz items.size 0 _ rfl (Nat.zero_le _) ⟨_,Heap.get?_push_size _ rfl,rfl,rfl⟩ ⟨_,up _ _ hx2,rfl,nl,rfl⟩ (hd2.at λ o e => up _ _ e) (λ i v e => ?_) λ h' tk hd' kp => ⟨rfl,h h' tk hd' λ b o e => ?_⟩
 . obtain ⟨T,lE,kv,r1,r2,r3,o,m,g1,g2,g3⟩ := hp i v e;have hTlt : T < s.heap.objs.size := Heap.lt_size g1;exact ⟨T,lE,kv,r1,r2,r3,Nat.ne_of_lt hTlt,Nat.ne_of_lt (Nat.lt_trans hTlt hD2),o,m,up _ _ (k2 _ _ (up1 _ _ g1)),g2,g3⟩
 . have hb : b < s.heap.objs.size := Heap.lt_size e;exact kp b o (Nat.ne_of_lt hb) (Nat.ne_of_lt (Nat.lt_trans hb hD2)) (up _ _ (k2 _ _ (up1 _ _ e)))
end
end TX
namespace TX
open PySem PySem.Calls
section
variable {prog : Program} {w : World} {A : Around} {E : Value -> Shared -> Prop} {s : Shared}
end
end TX
namespace L2
open PySem PySem.Spec PyProof.Rows
variable {X : Cx}
def PairsAt (H : Hp) : List Addr -> List (Str × V) -> Prop := Paired λ t p => H t = some (.tup [.str p.1,p.2])
def gY (aO : List (Str × V)) : List (bP × V) := aO.map λ p => (.inr p.1,p.2)
theorem qN : ∀ {ts : List Addr} {us : List Value},aX (ts.map V.ref) us -> us = ts.map Value.ref
 | [],_,.nil => rfl
 | t :: r,_,.cons e q => by
  have e' : _ = Value.ref t := e;rw [List.map_cons,<- qN q,e']
theorem pairs_more {P : Program} {w : World} {H : Hp} {h : Heap} (ok : mL P w H h) : ∀ {ts : List Addr} {aO : List (Str × V)},PairsAt H ts aO -> ∃ more : List (bP × Value),KV (gY aO) more /\ more.map (·.1) = aO.map (λ p => Sum.inr p.1) /\
 ∀ (i : Nat) (t : Addr),ts[i]? = some t -> ∃ (lE : Value) (kv : bP × Value),more[i]? = some kv /\ (bH P w).is kv.1 lE = true /\ TX.PairAt h t lE kv.2
 | _,_,.nil => ⟨[],.nil,rfl,λ i t e => by simp at e⟩
 | t :: _,(k,y) :: _,.cons e r => by
  obtain ⟨more,h1,h2,h3⟩ := pairs_more ok r;obtain ⟨_,bJ,rv,o,e1,e2,m,e3⟩ := ok _ _ e;obtain ⟨u1,u2,rfl,r1,r2⟩ := rv.two;refine ⟨(.inr k,u2) :: more,.cons ⟨rfl,r2⟩ h1,by rw [List.map_cons,h2]; rfl,λ i t' hi => ?_⟩
  match i,hi with
  | 0,hi =>
   cases hi;exact ⟨u1,_,rfl,mY (k := .inr k) r1,o,m,e1,e2,e3⟩
  | i + 1,hi => exact h3 i t' (by simpa using hi)
def rDictL : List V -> Hp -> VK -> Prop := λ xs H Q => ∃ (L : Addr) (ts : List Addr) (aO : List (Str × V)),xs = [.ref L] /\ H L = some (.lst (ts.map V.ref)) /\ PairsAt H ts aO /\ (aO.map (·.1)).Nodup /\ ∀ D,H D = none -> Q (.ref D) (aL H D (.dK (gY aO)))
theorem call_dictL (hc : X.calm = true) : dP X (.type "dict") rDictL := by
 intro aA s σ H xs us Q I r h
 obtain ⟨L,ts,aO,rfl,hL,hP,hn,q⟩ := h
 obtain ⟨u,rfl,rx⟩ := kF r
 cases rx
 obtain ⟨hz,bJ,n,rv,e⟩ := I.hok _ _ hL
 have ei := qN rv
 subst ei
 obtain ⟨more,h1,h2,h3⟩ := pairs_more I.hok hP
 have cE : ts.length = aO.length := Paired.length hP
 have hml : more.length = aO.length := by
  have := congrArg List.length h2;rw [List.length_map,List.length_map] at this;exact this
 rw [List.length_map] at hz
 refine TX.call_dict_list (knd := bH X.prog X.w) (more := more) (I.ok.hd hc) e (by simp [hml,cE]) (by simpa using hz) (λ i v hv => ?_) λ h' tk hd kp => ?_
 . have hv' : (ts.map Value.ref)[i]? = some v := by simpa using hv
   rw [List.getElem?_map] at hv';obtain ⟨t,ht,rfl⟩ := Option.map_eq_some_iff.mp hv';obtain ⟨lE,kv,g1,g2,g3⟩ := h3 i t ht;exact ⟨t,lE,kv,rfl,g1,g2,g3⟩
 . have hnd : (more.map (·.1)).Nodup := by
    rw [h2,show (aO.map λ p => (Sum.inr p.1 : bP)) = (aO.map (·.1)).map Sum.inr by rw [List.map_map]; rfl];exact List.Pairwise.map _ (λ a b hab e => hab (Sum.inr.inj e)) hn
   rw [merged_nil_of_nodup more hnd] at hd;have hkl : (gY aO).length <= sizeLine := by
    show (aO.map _).length <= sizeLine
    rw [List.length_map];omega
   have hb : (s.heap.objs.size == sysModules) = false := beq_eq_false_iff_ne.mpr (Ne.symm (Nat.ne_of_lt I.big));exact ⟨.ref s.heap.objs.size,_,I.laid (a := s.heap.objs.size) (o := .dK (gY aO)) (t' := tk) kp (Nat.le_refl _) (dk_new hkl hb h1 hd),rfl,q _ (I.hok.fresh (Nat.le_refl _))⟩
theorem rc_texts {A : Around} {aA : List (Addr × Obj)} {s : Shared} {σ : St} {H : Hp} (I : aR X aA σ H s) (hu : A.units < cLine) {a b : Addr} {xs ys : List Str} (h1 : bC X.K H a (xs.map V.str)) (h2 : bC X.K H b (ys.map V.str)) :
 SeqAt.RcAt A s (.ref a) (.ref b) (decide (xs = ys)) /\ SeqAt.RcNeAt A s (.ref a) (.ref b) (!decide (xs = ys)) := by
 obtain ⟨its1,rv1,pl1,hz1⟩ := I.list h1
 obtain ⟨lM,rv2,pl2,hz2⟩ := I.list h2
 have l1 := rv1.length
 have l2 := rv2.length
 rw [List.length_map] at l1 l2
 by_cases hl : xs.length = ys.length
 . have hs : its1.toArray.size = lM.toArray.size := by simp; omega
   have he : ∀ j (j1 : j < its1.toArray.size) (j2 : j < lM.toArray.size),SeqAt.EqAt A.in1 s its1.toArray[j] lM.toArray[j] (decide (xs[j]? = ys[j]?)) := λ j j1 j2 => by
    have k1 : j < xs.length := by rw [l1]; simpa using j1
    have k2 : j < ys.length := by rw [l2]; simpa using j2
    obtain ⟨u1,e1,r1⟩ := rv1.get (i := j) (x := V.str xs[j]) (by rw [List.getElem?_map,List.getElem?_eq_getElem k1]; rfl);obtain ⟨u2,e2,r2⟩ := rv2.get (i := j) (x := V.str ys[j]) (by rw [List.getElem?_map,List.getElem?_eq_getElem k2]; rfl);have g1 : its1.toArray[j] = u1 := by
     have := List.getElem?_eq_some_iff.mp e1;simpa using this.2
    have g2 : lM.toArray[j] = u2 := by
     have := List.getElem?_eq_some_iff.mp e2;simpa using this.2
    rw [g1,g2];have q := eqAt_V (A := A.in1) (s := s) r1 r2 rfl rfl;have ev : eqV (V.str xs[j]) (V.str ys[j]) = decide (xs[j]? = ys[j]?) := by
     rw [List.getElem?_eq_getElem k1,List.getElem?_eq_getElem k2]
     by_cases z : xs[j] = ys[j] <;> simp [eqV,z]
    rw [ev] at q;exact q
   have ea : ((List.range its1.toArray.size).all λ j => decide (xs[j]? = ys[j]?)) = decide (xs = ys) := by
    rw [Bool.eq_iff_iff,List.all_eq_true,decide_eq_true_iff]
    constructor
    . intro z;apply List.ext_getElem?;intro j
      by_cases hj : j < xs.length
      . exact of_decide_eq_true (z j (List.mem_range.mpr (by rw [l1] at hj; simpa using hj)))
      . rw [List.getElem?_eq_none (by omega),List.getElem?_eq_none (by omega)]
    . intro z j _;rw [z]; simp
   have rc := SeqAt.RcAt.lists (A := A) (s := s) pl1.isList pl2.isList hs hu he;have rn := SeqAt.RcNeAt.lists (A := A) (s := s) pl1.isList pl2.isList hs hu he;rw [ea] at rc rn;exact ⟨rc,rn⟩
 . have iQ : (its1.toArray.size != lM.toArray.size) = true := by simp; omega
   have ed : decide (xs = ys) = false := decide_eq_false λ z => hl (by rw [z]);rw [ed];exact ⟨SeqAt.RcAt.lists_lengths pl1.isList pl2.isList iQ hu,SeqAt.RcNeAt.lists_lengths pl1.isList pl2.isList iQ hu⟩
def rEqLS (K : W.Frag) (f : Bool -> Bool) : R2 := λ x y H Q => ∃ (a b : Addr) (xs ys : List Str),x = .ref a /\ y = .ref b /\ bC K H a (xs.map V.str) /\ bC K H b (ys.map V.str) /\ Q (.bl (f (decide (xs = ys)))) H
theorem op_eqLS (hu : X.A.units < cLine) : pD X (compareOp .Eq) (rEqLS X.K id) := by
 intro aA s σ H x y v u Q I rx ry h
 obtain ⟨a,b,xs,ys,rfl,rfl,h1,h2,q⟩ := h
 cases rx
 cases ry
 exact (rc_texts I hu h1 h2).1 _ _ _ _ ⟨.bl _,H,I,rfl,q⟩
theorem op_neLS (hu : X.A.units < cLine) : pD X (compareOp .NotEq) (rEqLS X.K not) := by
 intro aA s σ H x y v u Q I rx ry h
 obtain ⟨a,b,xs,ys,rfl,rfl,h1,h2,q⟩ := h
 cases rx
 cases ry
 exact (rc_texts I hu h1 h2).2 _ _ _ _ ⟨.bl _,H,I,rfl,q⟩
theorem op_neTV (hu : X.A.units < cLine) : pD X (compareOp .NotEq) (λ x y H Q => ∃ (a b : Addr) (zs : List V),x = .ref a /\ y = .ref b /\ H a = some (.tup zs) /\ H b = some (.tup zs) /\ (∀ z ∈ zs,∃ t,z = .str t) /\ Q (.bl false) H) := by
 intro aA s σ H x y v u Q I rx ry h
 obtain ⟨a,b,zs,rfl,rfl,h1,h2,hf,q⟩ := h
 cases rx
 cases ry
 obtain ⟨its1,rv1,pl1,hz1⟩ := I.tuple (dM.of h1)
 obtain ⟨lM,rv2,pl2,hz2⟩ := I.tuple (dM.of h2)
 have l1 := rv1.length
 have l2 := rv2.length
 have hs : its1.toArray.size = lM.toArray.size := by simp [<- l1,<- l2]
 have rc := SeqAt.RcNeAt.tuples (A := X.A) (s := s) (e := λ _ => true) pl1 pl2 hu λ j j1 j2 => by
  have hj : j < zs.length := by rw [l1]; simpa using j1
  obtain ⟨u1,e1,r1⟩ := rv1.get (i := j) (x := zs[j]) (List.getElem?_eq_getElem hj);obtain ⟨u2,e2,r2⟩ := rv2.get (i := j) (x := zs[j]) (List.getElem?_eq_getElem hj);have g1 : its1.toArray[j] = u1 := by
   have := List.getElem?_eq_some_iff.mp e1;simpa using this.2
  have g2 : lM.toArray[j] = u2 := by
   have := List.getElem?_eq_some_iff.mp e2;simpa using this.2
  rw [g1,g2];obtain ⟨t,ht⟩ := hf zs[j] (List.getElem_mem hj);rw [ht] at r1 r2;have q := eqAt_V (A := X.A.in1) (s := s) r1 r2 rfl rfl;have ev : eqV (V.str t) (V.str t) = true := by simp [eqV]
  rw [ev] at q;exact q
 have e0 : (!((List.range (min its1.toArray.size lM.toArray.size)).all (λ _ => true) && its1.toArray.size == lM.toArray.size)) = false := by simp [hs]
 rw [e0] at rc
 exact rc _ _ _ _ ⟨.bl false,H,I,rfl,q⟩
end L2
namespace L2
open PySem PyProof.Rows
section
variable {X : Cx}
end
end L2
namespace L2
open PySem PySem.Spec PyProof.Rows
variable {X : Cx} {P : Program} {w : World} {A : Around} {E : Value -> Shared -> Prop} {s : Shared}
def sameS (z : Str) : Value -> Bool
 | .str a _ => a == z
 | _ => false
theorem pN {zs : List Str} {bJ : List Value} (r : aX (zs.map V.str) bJ) {j : Nat} {u : Value} (h : bJ[j]? = some u) : ∃ a t,zs[j]? = some a /\ u = .str a t := by
 have hj : j < zs.length := by
  have := (List.getElem?_eq_some_iff.mp h).1;have e := r.length;rw [List.length_map] at e;omega
 obtain ⟨u',h',ru⟩ := r.get (i := j) (x := .str zs[j]) (by rw [List.getElem?_map,List.getElem?_eq_getElem hj]; rfl)
 rw [h] at h'
 obtain ⟨t,rfl⟩ := ru
 exact ⟨zs[j],t,List.getElem?_eq_getElem hj,Option.some.inj h'⟩
theorem gives_str {zs : List Str} {bJ : List Value} {z : Str} {t : Tok} (r : aX (zs.map V.str) bJ) : ∀ y ∈ bJ.toArray,MeetsSeq.EqGives y (.str z t) (sameS z y) := λ y hy => by
 obtain ⟨j,hj⟩ := List.getElem?_of_mem (show y ∈ bJ by simpa using hy)
 obtain ⟨a,t',_,rfl⟩ := pN r hj
 exact λ prog w A E s Q h => SeqAt.EqAt.str_str a t' z t prog w E Q h
theorem first_is {zs : List Str} {bJ : List Value} {z : Str} (r : aX (zs.map V.str) bJ) (hz : z ∈ zs) : ∃ hj : zs.idxOf z < bJ.toArray.size,sameS z bJ.toArray[zs.idxOf z] = true /\ ∀ (m : Nat) (hm : m < bJ.toArray.size),m < zs.idxOf z -> sameS z bJ.toArray[m] = false := by
 have hj : zs.idxOf z < zs.length := List.idxOf_lt_length_of_mem hz
 have e := r.length
 rw [List.length_map] at e
 refine ⟨by rw [List.size_toArray]; omega,?_,λ m hm hl => ?_⟩
 . obtain ⟨a,t,h1,h2⟩ := pN r (List.getElem?_eq_getElem (by omega : zs.idxOf z < bJ.length));show sameS z bJ[zs.idxOf z] = true;rw [h2];rw [List.getElem?_eq_getElem hj] at h1;have : a = z := by rw [<- Option.some.inj h1]; exact List.getElem_idxOf hj
   subst this;exact beq_self_eq_true a
 . rw [List.size_toArray] at hm;obtain ⟨a,t,h1,h2⟩ := pN r (List.getElem?_eq_getElem hm);show sameS z bJ[m] = false;rw [h2];obtain ⟨hm',h1⟩ := List.getElem?_eq_some_iff.mp h1;show (a == z) = false;rw [beq_eq_false_iff_ne];rintro rfl;have hc := List.not_of_lt_findIdx hl;rw [h1,beq_self_eq_true] at hc;cases hc
def rIdxS : V -> List V -> Hp -> VK -> Prop := λ x vs H Q => ∃ (l : Addr) (z : Str) (zs : List Str),x = .ref l /\ vs = [.str z] /\ H l = some (.lst (zs.map V.str)) /\ z ∈ zs /\ zs.length <= 1000 /\ Q (.int (zs.idxOf z : Nat)) H
theorem mt_indexS : MtM X "list.index" rIdxS := by
 intro aA s σ H x vs v us Q I rx rv h
 obtain ⟨l,z,zs,rfl,rfl,hH,hz,h1000,q⟩ := h
 cases rx
 obtain ⟨u,rfl,ru⟩ := rv.one
 obtain ⟨t,rfl⟩ := ru
 obtain ⟨sz,bJ,n,r,hl,e⟩ := I.lstM hH
 obtain ⟨hj,h1,h2⟩ := first_is r hz
 have hj' : zs.idxOf z < zs.length := List.idxOf_lt_length_of_mem hz
 refine call_meets F.slot_list_index ⟨_,e,rfl⟩ F.entry_list_index (F.args_list_index_2 _ _)
  (MeetsSeq.list_index l bJ.toArray n (.str z t) (sameS z) (gives_str r) _ hj (by omega) h1 h2) ⟨e,?_⟩
 exact ⟨.int _,H,I.tok _,⟨_,rfl⟩,q⟩
section
variable {tg : Expr}
def rMaxL (K : W.Frag) : List V -> Hp -> VK -> Prop := λ xs H Q => ∃ (p : Addr) (ns : List Int),xs = [.ref p] /\ bC K H p (ns.map V.int) /\ ns ≠ [] /\ ∀ m,m ∈ ns -> (∀ n ∈ ns,n <= m) -> Q (.int m) H
theorem call_maxL (hc : X.calm = true) : dP X (.builtin "max") (rMaxL X.K) := by
 intro aA s σ H xs us Q I r h
 obtain ⟨p,ns,rfl,hq,iQ,q⟩ := h
 obtain ⟨u,rfl,rx⟩ := kF r
 cases rx
 obtain ⟨bJ,r',pl,hz⟩ := I.list hq
 have hi : IntsAre bJ ns := intsAre_of r'
 obtain ⟨zs,e⟩ := hi.allInts.items
 have e2 : ns = zs.toList.map (·.1) := by rw [<- hi.numsOf,<- nums_intItems,<- e]
 have e3 : ns.length = zs.size := by rw [e2,List.length_map,Array.length_toList]
 have e4 : 0 < ns.length := List.length_pos_iff.mpr iQ
 have hl := pl.isList
 rw [e] at hl
 refine max_intList (I.ok.hd hc) hl (by omega) λ v h' tk hv hk => ?_
 obtain ⟨t,rfl⟩ := intItems_at hv
 obtain ⟨_,b2⟩ := argBest_gt (numAt zs) (zs.size - 1)
 refine ⟨.int _,H,I.kept hk,⟨t,rfl⟩,q _ ?_ λ a ha => ?_⟩
 . rw [e2,numAt_eq]; exact getD_mem (by rw [<- e2]; omega)
 . rw [e2] at ha; obtain ⟨j,hj,rfl⟩ := mem_getD ha; rw [<- e2] at hj;rw [<- numAt_eq]; exact b2 j (by omega)
def rUpdD : V -> List V -> Hp -> VK -> Prop := λ x vs H Q => ∃ (d e : Addr) (aO more : List (bP × V)),x = .ref d /\ vs = [.ref e] /\ H d = some (.dK aO) /\ H e = some (.dK more) /\ d ≠ e /\ aO.length + more.length <= sizeLine /\ Q .non (aL H d (.dK (gJ aO more)))
theorem mt_updateD : MtR X "dict.update" rUpdD := by
 intro aA s σ H x vs v us Q I rx rv h
 obtain ⟨d,e,aO,more,rfl,rfl,hd,he,iQ,hsz,q⟩ := h
 cases rx
 obtain ⟨u,rfl,ru⟩ := kF rv
 cases ru
 obtain ⟨z1,y1,vs1,r1,d1⟩ := dk_of I.hok hd
 obtain ⟨z2,y2,vs2,r2,d2⟩ := dk_of I.hok he
 have l1 := r1.length
 have l2 := r2.length
 refine call_meetsIn PySem.F.slot_dict_update d1.typeIs PySem.F.entry_dict_update (PySem.F.args_dict_update_2 _ _) (meets_dict_update _ d e iQ y2) ⟨vs1,vs2,d1,d2,by omega,λ h' a1 a2 a3 => ?_⟩
 have hl := jV more aO
 obtain ⟨o',ho',_⟩ := Heap.dictOf_iff.mp a1
 exact ⟨.non,_,oP (t' := s.toks) I (by rw [hd]; trivial) a3 ⟨o',ho'⟩ (dk_new (by omega) y1 (KV.merge r2 r1) a1),rfl,q⟩
end
theorem kV_rel {k : bP} {u : Value} (h : qM k u = true) : bD (kV k) u := by
 rcases dE h with ⟨i,t,rfl,rfl⟩ | ⟨x,t,rfl,rfl⟩
 . exact ⟨t,rfl⟩
 . exact ⟨t,rfl⟩
def Itd (a : Addr) (o : Obj) (aO : List (bP × V)) : It :=
 ⟨λ i H => H a = some (.frz o (.dK aO)) /\ i < aO.length,λ i H x H' => H' = H /\ ∃ kv,aO[i]? = some kv /\ x = kV kv.1,λ i H => H a = some (.frz o (.dK aO)) /\ aO.length <= i⟩
theorem turn_dict {P : Program} {w : World} {K : W.Frag} {tg : Expr} (a it : Addr) (o : Obj) (aO : List (bP × V)) (vs : List (bP × Value)) (ep : Nat) (nW : KV aO vs) (hD : ∀ h : Heap,h.get? a = some o -> h.DictAt (bH P w) a vs ep) :
 qY P w K tg (Itd a o aO) [it] it (λ i h => h.IsKeyIter it a i vs.length ep) where
 mem := List.mem_singleton.mpr rfl
 obj := λ i h st b hb => by
  cases List.mem_singleton.mp hb; obtain ⟨o,e,c,d⟩ := st;exact ⟨o,e,λ v z => by rw [d] at z; cases z⟩
 keep := λ i h h' st k => st.at λ o e => k it (List.mem_singleton.mpr rfl) o e
 item := by
  intro X hP hw hK hc i aA s σ H E I hf st ⟨hH,hi⟩;subst hP hw hK;obtain ⟨f0,f1,f2,f3,f4,f5⟩ := hf it (List.mem_singleton.mpr rfl);obtain ⟨e,_⟩ := I.hok a _ hH;have hl := nW.length;obtain ⟨kv,hk⟩ : ∃ kv,aO[i]? = some kv := ⟨_,List.getElem?_eq_getElem hi⟩;obtain ⟨pv,hv⟩ : ∃ pv,vs[i]? = some pv := ⟨_,List.getElem?_eq_getElem (by omega)⟩;have ek : kv.1 = pv.1 := by
   have q : (aO.map (·.1))[i]? = (vs.map (·.1))[i]? := by rw [nW.keys]
   rw [List.getElem?_map,List.getElem?_map,hv,hk] at q;exact Option.some.inj q
  refine wpAny_pyNext_dict_item st (hD s.heap e) hv λ lE h' hkey st' sb => ?_;have I1 : aR X aA σ H { s with heap := h' } := I.turned (t' := s.toks) (λ b ob hb e => (sb.2 b hb).trans e) f0 f1 f3 f4 f5;obtain ⟨o1,e1,c1,d1⟩ := id st';have hkey : qM kv.1 lE = true := by rw [ek]; exact hkey
  exact ⟨lE,rfl,go_of (s := { s with heap := h' }) e1 c1 d1 (by decide) ⟨kV kv.1,H,I1,kV_rel hkey,⟨rfl,_,hk,rfl⟩,st',λ b hb => (hf b hb).1⟩⟩
 done := by
  intro X hP hw hK hc i aA s σ H E I hf st ⟨hH,hi⟩;subst hP hw hK;obtain ⟨f0,f1,f2,f3,f4,f5⟩ := hf it (List.mem_singleton.mpr rfl);obtain ⟨e,_⟩ := I.hok a _ hH;have hl := nW.length;exact wpAny_pyNext_dict_end (I.ok.hd hc) st (hD s.heap e) (List.getElem?_eq_none (by omega)) λ h' eb => ⟨rfl,I.turned (t' := s.toks) (λ b ob hb e => eb b ob hb e) f0 f1 f3 f4 f5⟩
 self := λ _ _ _ _ _ st h => wpAny_pyIter_keyiter st h
section
variable {tg : Expr}
theorem comp_dict {a : Addr} {o : Obj} {aO : List (bP × V)} {g : TG} {tc : TT} {te : TE} {σ0 : St} {H1 : Hp} {D : Addr} {Q : VK} (Pv : Nat -> List V -> St -> Hp -> Prop) (h0 : Pv 0 [] σ0 (aL H1 D (.lst []))) (hn : aO.length <= 100000) (hl : ∀ i ys σ H,Pv i ys σ H -> ys.length <= i)
 (ha : ∀ i ys σ H,Pv i ys σ H -> H a = some (.frz o (.dK aO)))
 (hs : ∀ i kv ys σ H,aO[i]? = some kv -> H D = some (.lst ys) -> Pv i ys σ H -> g (kV kv.1) σ H λ σ2 H2 => tc σ2 H2 λ b H3 => if b = true then te σ2 H3 λ v H4 => H4 D = some (.lst ys) /\ Pv (i + 1) (ys ++ [v]) σ2 (aL H4 D (.lst (ys ++ [v]))) else H3 D = some (.lst ys) /\ Pv (i + 1) ys σ2 H3)
 (hd : ∀ ys σ H,H D = some (.lst ys) -> Pv aO.length ys σ H -> Q (.ref D) H) : cG (Itd a o aO) D g tc te Q σ0 H1 := by
 refine lS (n := aO.length) (item := λ i => ((aO[i]?).map λ kv => kV kv.1).getD .non) Pv h0 hn (λ i ys σ H hi p => ⟨⟨ha _ _ _ _ p,hi⟩,λ x H' y => ?_⟩) (λ ys σ H p => ⟨ha _ _ _ _ p,Nat.le_refl _⟩) hl (λ i ys σ H hi hD p => ?_) hd
 . obtain ⟨e,kv,hk,rfl⟩ := y; exact ⟨e,by rw [hk]; rfl⟩
 . have e : aO[i]? = some aO[i] := List.getElem?_eq_getElem hi;have q := hs i _ ys σ H e hD p;rw [e]; exact q
end
theorem pe_disp1 {X : Cx} {k v : Expr} {tk tv : TE} {pos : Pos} (hk : PE X k tk) (hv : PE X v tv) : PE X (.Dict [some k] [v] pos) (tDisp [(tk,tv)]) := pe_disp (pps_cons hk hv pps_nil) rfl rfl (λ z => nomatch z) (by show (1 : Nat) <= 15; decide)
def iZ (xs : Array Nat) : Prop := ∀ i j : Nat,i < j -> j < xs.size -> xs.getD i 0 < xs.getD j 0
theorem below_go {xs : Array Nat} {j c : Nat} (h1 : ∀ k : Nat,k < c -> xs.getD k j < j) (h2 : ∀ k : Nat,c <= k -> k < xs.size -> ¬ xs.getD k j < j) :
 ∀ (nH lo hi : Nat),lo <= c -> c <= hi -> hi <= xs.size -> hi - lo <= nH -> SetTable.below.go xs j nH lo hi = c
 | 0,lo,hi,a,b,_,d => by
  show lo = c
  omega
 | nH + 1,lo,hi,a,b,e,d => by
  unfold SetTable.below.go
  by_cases hl : lo < hi
  . rw [if_pos hl];dsimp only
    by_cases hm : xs.getD ((lo + hi) / 2) j < j
    . rw [if_pos hm];have hc : (lo + hi) / 2 < c := Nat.lt_of_not_le λ z => h2 _ z (by omega) hm;exact below_go h1 h2 nH _ hi (by omega) b e (by omega)
    . rw [if_neg hm];have hc : c <= (lo + hi) / 2 := Nat.le_of_not_lt λ z => hm (h1 _ z);exact below_go h1 h2 nH lo _ a hc (by omega) (by omega)
  . rw [if_neg hl];omega
theorem below_at {xs : Array Nat} {j c : Nat} (hc : c <= xs.size) (h1 : ∀ k : Nat,k < c -> xs.getD k 0 < j) (h2 : ∀ k : Nat,c <= k -> k < xs.size -> j <= xs.getD k 0) : SetTable.below xs j = c := by
 unfold SetTable.below
 refine below_go (λ k hk => ?_) (λ k hk hs => ?_) _ 0 _ (Nat.zero_le _) hc (Nat.le_refl _) (by omega)
 . have q := h1 k hk;rw [Array.getD_eq_getD_getElem?,Array.getElem?_eq_getElem (by omega : k < xs.size)] at q ⊢;exact q
 . have q := h2 k hk hs;rw [Array.getD_eq_getD_getElem?,Array.getElem?_eq_getElem hs] at q ⊢;exact Nat.not_lt.mpr q
theorem iZ.first {xs : Array Nat} (h : iZ xs) : SetTable.below xs 0 = 0 := below_at (Nat.zero_le _) (λ _ z => absurd z (Nat.not_lt_zero _)) λ _ _ _ => Nat.zero_le _
theorem iZ.next {xs : Array Nat} (h : iZ xs) {i : Nat} (hi : i < xs.size) : SetTable.below xs (xs.getD i 0 + 1) = i + 1 := by
 refine below_at hi (λ k hk => ?_) (λ k hk hs => h i k hk hs)
 rcases Nat.lt_or_ge k i with z | z
 . exact Nat.lt_succ_of_lt (h k i z hi)
 . have : k = i := by omega
   rw [this]; exact Nat.lt_succ_self _
theorem iZ.place {xs : Array Nat} (h : iZ xs) (j : Nat) : ∃ c,c <= xs.size /\ (∀ k : Nat,k < c -> xs.getD k 0 < j) /\ (∀ k : Nat,c <= k -> k < xs.size -> j <= xs.getD k 0) /\ SetTable.below xs j = c := by
 have lE : ∀ n : Nat,n <= xs.size -> ∃ c,c <= n /\ (∀ k : Nat,k < c -> xs.getD k 0 < j) /\ ∀ k : Nat,c <= k -> k < n -> j <= xs.getD k 0 := by
  intro n
  induction n with
  | zero => exact λ _ => ⟨0,Nat.le_refl _,λ _ z => absurd z (Nat.not_lt_zero _),λ _ _ z => absurd z (Nat.not_lt_zero _)⟩
  | succ n ih =>
   intro hn;obtain ⟨c,a,b,d⟩ := ih (by omega)
   by_cases hc : xs.getD n 0 < j
   . refine ⟨n + 1,Nat.le_refl _,λ k hk => ?_,λ k a b => by omega⟩
     rcases Nat.lt_or_ge k n with z | z
     . exact Nat.lt_trans (h k n z (by omega)) hc
     . have : k = n := by omega
       rw [this]; exact hc
   . refine ⟨c,by omega,b,λ k hk hk2 => ?_⟩
     rcases Nat.lt_or_ge k n with z | z
     . exact d k hk z
     . have : k = n := by omega
       rw [this]; exact Nat.le_of_not_lt hc
 obtain ⟨c,a,b,d⟩ := lE xs.size (Nat.le_refl _)
 exact ⟨c,a,b,d,below_at a b d⟩
theorem getD_lt {xs : Array Nat} {i : Nat} (h : i < xs.size) : xs[i]? = some (xs.getD i 0) := by
 rw [Array.getD_eq_getD_getElem?,Array.getElem?_eq_getElem h]; rfl
theorem kQ (n : Nat) : iZ (Array.range n) := λ i j h hj => by
 rw [Array.size_range] at hj
 rw [Array.getD_eq_getD_getElem?,Array.getD_eq_getD_getElem?,Array.getElem?_eq_getElem (by rw [Array.size_range]; omega),Array.getElem?_eq_getElem (by rw [Array.size_range]; omega)]
 simpa using h
theorem rise_list {l : List Nat} (h : l.Pairwise (· < ·)) : iZ l.toArray := λ i j hij hj => by
 rw [List.size_toArray] at hj
 rw [Array.getD_eq_getD_getElem?,Array.getD_eq_getD_getElem?,List.getElem?_toArray,List.getElem?_toArray,List.getElem?_eq_getElem (by omega : i < l.length),List.getElem?_eq_getElem hj]
 exact List.pairwise_iff_getElem.mp h i j (by omega) hj hij
theorem put_get {xs : Array Nat} {c j : Nat} (hc : c <= xs.size) (i : Nat) : (SetTable.insertAt xs c j).getD i 0 = if i < c then xs.getD i 0 else if i = c then j else xs.getD (i - 1) 0 := by
 unfold SetTable.insertAt
 have hz : ((xs.extract 0 c).push j).size = c + 1 := by rw [Array.size_push,Array.size_extract]; omega
 rw [Array.getD_eq_getD_getElem?]
 by_cases h1 : i < c
 . rw [if_pos h1,Array.getElem?_append_left (by omega),Array.getElem?_push_lt (by rw [Array.size_extract]; omega),Array.getElem_extract,Array.getD_eq_getD_getElem?,Array.getElem?_eq_getElem (by omega : i < xs.size)];simp
 . rw [if_neg h1]
   by_cases h2 : i = c
   . subst h2;rw [if_pos rfl,Array.getElem?_append_left (by omega)];have e : (xs.extract 0 i).size = i := by rw [Array.size_extract]; omega
     have q := Array.getElem?_push_size (xs := xs.extract 0 i) (x := j);rw [e] at q;rw [q]; rfl
   . rw [if_neg h2,Array.getElem?_append_right (by omega),hz,Array.getD_eq_getD_getElem?]
     by_cases h3 : i - 1 < xs.size
     . rw [Array.getElem?_extract_of_lt (by omega),Array.getElem?_eq_getElem h3];have e : c + (i - (c + 1)) = i - 1 := by omega
       simp only [e]
     . rw [Array.getElem?_eq_none (by rw [Array.size_extract]; omega),Array.getElem?_eq_none (by omega : xs.size <= i - 1)]
theorem put_size {xs : Array Nat} {c j : Nat} (hc : c <= xs.size) : (SetTable.insertAt xs c j).size = xs.size + 1 := by
 unfold SetTable.insertAt
 rw [Array.size_append,Array.size_push,Array.size_extract,Array.size_extract]; omega
theorem iZ.ins {xs : Array Nat} (h : iZ xs) {j : Nat} (hj : ¬ xs[SetTable.below xs j]? = some j) : iZ (SetTable.insertAt xs (SetTable.below xs j) j) := by
 obtain ⟨c,c1,c2,c3,c4⟩ := h.place j
 rw [c4] at hj ⊢
 intro a b hab hb
 rw [put_size c1] at hb
 have hcj : ∀ k : Nat,c <= k -> k < xs.size -> j < xs.getD k 0 := λ k k1 k2 => by
  rcases Nat.lt_or_ge c k with z | z
  . exact Nat.lt_of_le_of_lt (c3 c (Nat.le_refl _) (by omega)) (h c k z k2)
  . have : k = c := by omega
    subst this;refine Nat.lt_of_le_of_ne (c3 k k1 k2) λ e => hj ?_;rw [getD_lt k2,<- e]
 rw [put_get c1,put_get c1]
 by_cases a1 : a < c
 . rw [if_pos a1]
   by_cases b1 : b < c
   . rw [if_pos b1]; exact h a b hab (by omega)
   . rw [if_neg b1]
     by_cases b2 : b = c
     . rw [if_pos b2]; exact c2 a a1
     . rw [if_neg b2]; exact Nat.lt_trans (c2 a a1) (hcj _ (by omega) (by omega))
 . rw [if_neg a1]
   by_cases a2 : a = c
   . rw [if_pos a2,if_neg (by omega),if_neg (by omega)]; exact hcj _ (by omega) (by omega)
   . rw [if_neg a2,if_neg (by omega),if_neg (by omega)]; exact h _ _ (by omega) (by omega)
def FreeS (t : SetTable) (j : Nat) : Prop := ¬ t.place[SetTable.below t.place j]? = some j
theorem free_of {t : SetTable} {j : Nat} (h : ∀ i,t.slot j ≠ .live i) : FreeS t j := λ e => by
 refine h (SetTable.below t.place j) ?_
 unfold SetTable.slot
 dsimp only
 rw [if_pos (by rw [e]; exact beq_self_eq_true _)]
theorem nP {t : SetTable} {h h' : Int} (hh : (h' == h) = false) : ∀ (nH : Nat) (p : SetTable.Probe) (j : Nat) (dm : Option Nat),(∀ d,p.dummy = some d -> FreeS t d) -> SetTable.probe.go t (λ _ => h') h nH p = some (.empty j dm) -> FreeS t (dm.getD j)
 | 0,p,j,dm,_,e => by
  unfold SetTable.probe.go at e;cases e
 | nH + 1,p,j,dm,hd,e => by
  unfold SetTable.probe.go at e;cases hs : t.slot p.j with
  | empty =>
   rw [hs] at e;injection e with e
   injection e with e1 e2
   subst e1 e2;cases hp : p.dummy with
   | none => exact free_of λ i z => by rw [show (none : Option Nat).getD p.j = p.j from rfl,hs] at z; cases z
   | some d => exact hd d hp
  | dummy =>
   rw [hs] at e;refine nP hh nH _ j dm (λ d hd' => ?_) e;have q : (t.advance { p with dummy := some p.j }).dummy = some p.j := by
    unfold SetTable.advance
    split <;> rfl
   rw [q] at hd';cases hd';exact free_of λ i z => by rw [hs] at z; cases z
  | live i =>
   rw [hs] at e;dsimp only at e;rw [hh,if_neg (λ z => nomatch z)] at e;refine nP hh nH _ j dm (λ d hd' => ?_) e;have q : (t.advance p).dummy = p.dummy := by
    unfold SetTable.advance
    split <;> rfl
   rw [q] at hd';exact hd d hd'
theorem rise_lay {t : SetTable} (h : iZ t.place) (es : Array (Int × Value)) (hs : Int) (x : Value) : iZ (layNew t es hs x).2.1.place := by
 unfold layNew
 have or_ : ∀ (t' : SetTable) (n : Nat),iZ t'.place -> iZ (t'.orStandIn n).place := λ t' n q => by
  unfold SetTable.orStandIn
  split
  . exact q
  . exact kQ n
 cases hf : t.freeSlot hs with
 | none => exact kQ _
 | some p =>
  obtain ⟨slot,wd⟩ := p;refine or_ _ _ ?_;show iZ (SetTable.insertAt t.place (SetTable.below t.place slot) slot);refine h.ins ?_;unfold SetTable.freeSlot at hf;cases hp : t.probe (λ _ => hs + 1) hs (t.probeStart hs) with
  | none => rw [hp] at hf; cases hf
  | some m =>
   rw [hp] at hf;cases m with
   | candidate _ _ _ => cases hf
   | empty j dm =>
    injection hf with hf
    injection hf with e1 _
    rw [<- e1];unfold SetTable.probe at hp;exact nP (beq_eq_false_iff_ne.mpr (by omega)) _ _ j dm (λ d z => by cases (show (none : Option Nat) = some d from z)) hp
theorem rise_relay {t : SetTable} (h : iZ t.place) (es : Array (Int × Value)) (n : Nat) : iZ (relayAll t es n).2.1.place := by
 unfold relayAll
 split
 . rename_i t' order e
   have hr : iZ t'.place := by
    unfold SetTable.relaid SetTable.laid at e;obtain ⟨ow,_,e⟩ := Option.bind_eq_some_iff.mp e;cases e;refine rise_list ?_;rw [List.pairwise_map];refine List.Pairwise.filterMap (R := λ a b : Nat => a < b) _ (λ a a' fR b hb b' hb' => ?_) List.pairwise_lt_range;obtain ⟨y,_,rfl⟩ := Option.map_eq_some_iff.mp hb;obtain ⟨y',_,rfl⟩ := Option.map_eq_some_iff.mp hb';exact fR
   dsimp only
   split
   . exact hr
   . exact kQ _
 . exact kQ _
instance keyMem (x : bP) (zs : List bP) : Decidable (x ∈ zs) := decidable_of_iff ((zs.any λ y => decide (y = x)) = true) (by simp)
theorem led_lay (t : SetTable) (es : Array (Int × Value)) (h : Int) (x : Value) : (layNew t es h x).2.1.led = t.led := by
 unfold layNew
 cases t.freeSlot h with
 | some p =>
  show ((t.put p.1).1.orStandIn _).led = t.led
  unfold SetTable.orStandIn
  split <;> rfl
 | none => rfl
theorem led_relay (t : SetTable) (es : Array (Int × Value)) (n : Nat) : (relayAll t es n).2.1.led = t.led := by
 unfold relayAll
 split
 . rename_i t' order e
   have hf : t'.led = t.led := by
    unfold SetTable.relaid SetTable.laid at e;obtain ⟨_,_,e⟩ := Option.bind_eq_some_iff.mp e;cases e;rfl
   dsimp only
   split
   . exact hf
   . rfl
 . rfl
theorem key_scan {k : bP} {u : Value} (r : bD (kV k) u) : u.scannable = true := by
 cases k with
 | inl i => obtain ⟨t,rfl⟩ := r; rfl
 | inr x => obtain ⟨t,rfl⟩ := r; rfl
theorem vals_snoc {zs : List V} {us : List Value} {x : V} {u : Value} (h : aX zs us) (r : bD x u) : aX (zs ++ [x]) (us ++ [u]) := h.append (.cons r .nil)
def eS (P : Program) (w : World) (led : Bool) (h : Heap) (a : Addr) (zs : List bP) : Prop :=
 ∃ o es ep t,h.get? a = some o /\ o.ExactSet /\ o.data = .set es ep t /\ ElemsOf (bH P w) es.toList /\ (∃ us : List Value,(es.toList.map (·.2)).Perm us /\ aX (zs.map kV) us) /\ zs.Nodup
  /\ es.size < scanBound /\ t.fits es.size = true /\ t.led = led /\ iZ t.place
theorem eS.mem {zs : List bP} {es : Array (Int × Value)} {us : List Value} (hp : (es.toList.map (·.2)).Perm us) (hs : aX (zs.map kV) us) (x : bP) :
 (∃ e ∈ es.toList,(bH P w).is x e.2 = true) ↔ x ∈ zs := by
 constructor
 . rintro ⟨e,he,hk⟩;obtain ⟨n,hn⟩ := List.getElem?_of_mem (hp.mem_iff.mp (List.mem_map_of_mem he));have hl := hs.length;rw [List.length_map] at hl;have hz : n < zs.length := by rw [hl]; exact (List.getElem?_eq_some_iff.mp hn).1
   obtain ⟨u,h1,h2⟩ := hs.get (i := n) (x := kV zs[n]) (by rw [List.getElem?_map,List.getElem?_eq_getElem hz]; rfl);rw [hn] at h1;cases Option.some.inj h1;rw [(bH P w).inj _ _ _ hk (mY h2)];exact List.getElem_mem hz
 . intro hx;obtain ⟨n,hn⟩ := List.getElem?_of_mem hx;obtain ⟨u,h1,h2⟩ := hs.get (i := n) (x := kV x) (by rw [List.getElem?_map,hn]; rfl);obtain ⟨e,he,h3⟩ := List.mem_map.mp (hp.mem_iff.mpr (List.mem_of_getElem? h1));exact ⟨e,he,by rw [h3]; exact mY h2⟩
theorem kset_add {led : Bool} {a : Addr} {zs : List bP} {x : bP} {u : Value} {Q : Bool -> Shared -> Prop} (ru : bD (kV x) u) (hS : eS P w led s.heap a zs) (hroom : zs.length + 1 < scanBound)
 (h : ∀ h',Heap.SameBut a s.heap h' -> eS P w led h' a (if x ∈ zs then zs else zs ++ [x]) -> Q (!decide (x ∈ zs)) { s with heap := h',toks := s.toks + 1 }) :
 wpAny (model P w) A (setAdd a u) Q E s := by
 obtain ⟨o,es,ep,t,ho,hex,hd,hel,⟨us,hp,hs⟩,hnd,hb,hf,hled,oE⟩ := hS
 have hkey : (bH P w).is x u = true := mY ru
 have hsc := key_scan ru
 have hsz : es.size = zs.length := by
  have e1 := hp.length_eq;rw [List.length_map,Array.length_toList] at e1;rw [e1];have e2 := hs.length;rw [List.length_map] at e2;exact e2.symm
 have hm := eS.mem (P := P) (w := w) hp hs x
 unfold setAdd
 refine wpAny_holding (wpAny_bind ((bH P w).pyHash hkey ?_))
 unfold setAddHashed setAddHashedIn
 refine wpAny_holding (wpAny_bind (wpAny_setState_of (s := { s with toks := s.toks + 1 }) ho hd hf ?_))
 dsimp only
 rw [byScan_of (knd := bH P w) hsc hb hel,if_pos rfl]
 unfold setAddByScan
 refine wpAny_bind (wpAny_bind (wpAny_rule (wpAny_bind (wpAny_setScan_of (s := { s with toks := s.toks + 1 }) hkey ho hd hf hel ?_))))
 cases hr : List.findIdx? (λ e => (bH P w).is x e.2) es.toList with
 | some j =>
  obtain ⟨hj,hpj,_⟩ := List.findIdx?_eq_some_iff_getElem.mp hr;have hx : x ∈ zs := hm.mp ⟨es.toList[j],List.getElem_mem hj,hpj⟩;have q := h s.heap (Heap.SameBut.refl a s.heap) (by rw [if_pos hx]; exact ⟨o,es,ep,t,ho,hex,hd,hel,⟨us,hp,hs⟩,hnd,hb,hf,hled,oE⟩);rw [decide_eq_true hx] at q;exact wpAny_pure (wpAny_pure q)
 | none =>
  have hx : x ∉ zs := λ z => by
   obtain ⟨e,he,hk⟩ := hm.mpr z;have y := List.findIdx?_eq_none_iff.mp hr e he;rw [hk] at y;cases y
  have hgw : ∀ (b : Bool) (s₁ : Shared) (Q' : Unit -> Shared -> Prop),Q' () s₁ -> wpAny (model P w) A (match b with | true => rule "set.scan.the-table-gave-way" | false => pure ()) Q' E s₁ := λ b s₁ Q' hq => by
   cases b
   . exact wpAny_pure hq
   . exact wpAny_rule hq
  have l1 := layNew_perm t es ((bH P w).hash x) u;have l2 := layNew_fits t es ((bH P w).hash x) u;have l3 := led_lay t es ((bH P w).hash x) u;have l4 := rise_lay oE es ((bH P w).hash x) u;generalize layNew t es ((bH P w).hash x) u = L at l1 l2 l3 l4 ⊢;obtain ⟨mJ,t1,wasDummy,gave⟩ := L;dsimp only at l1 l2 l3 l4 ⊢;rw [Array.toList_push] at l1;have hsz1 : mJ.size = zs.length + 1 := by
   rw [<- Array.length_toList,l1.length_eq,List.length_append,Array.length_toList,hsz]; rfl
  have hb1 : mJ.size < scanBound := by rw [hsz1]; exact hroom
  have hel1 : ElemsOf (bH P w) mJ.toList := (hel.push hkey hsc).perm l1;have eO : ∀ (es2 : Array (Int × Value)) (t2 : SetTable) (o2 : Obj) (ep2 : Nat) (h2 : Heap),es2.toList.Perm mJ.toList -> t2.fits es2.size = true -> t2.led = t.led -> iZ t2.place -> o2.ExactSet -> o2.data = .set es2 ep2 t2 -> h2.get? a = some o2 ->
   eS P w led h2 a (if x ∈ zs then zs else zs ++ [x]) := λ es2 t2 o2 ep2 h2 p2 f2 e1 e2 x2 d2 g2 => by
   rw [if_neg hx];have hz2 : es2.size = mJ.size := by rw [<- Array.length_toList,p2.length_eq,Array.length_toList]
   refine ⟨o2,es2,ep2,t2,g2,x2,d2,hel1.perm p2,⟨us ++ [u],?_,?_⟩,?_,by omega,f2,e1.trans hled,e2⟩
   . refine ((p2.trans l1).map _).trans ?_;rw [List.map_append];exact hp.append_right _
   . rw [List.map_append]; exact vals_snoc hs ru
   . exact List.nodup_append.mpr ⟨hnd,by simp,λ a ha b hb e => hx (by rw [List.mem_singleton] at hb; rw [<- hb,<- e]; exact ha)⟩
  refine wpAny_bind (hgw gave _ _ ?_);have tail : ∀ (g : Bool -> Sem Unit) (t2 : SetTable) (R : Option Bool -> Shared -> Prop),(∀ (b : Bool) (s₁ : Shared) (Q' : Unit -> Shared -> Prop),Q' () s₁ -> wpAny (model P w) A (g b) Q' E s₁) -> iZ t2.place -> t2.led = t.led -> t2.fits mJ.size = true ->
   (∀ h',Heap.SameBut a s.heap h' -> eS P w led h' a (if x ∈ zs then zs else zs ++ [x]) -> R (some true) { s with heap := h',toks := s.toks + 1 }) ->
   wpAny (model P w) A (do
    storeSet a mJ t2
    if (!wasDummy && t2.tooFull) = true then do
     g (relayAll t2 mJ (SetTable.grown mJ.size)).2.2
     storeSet a (relayAll t2 mJ (SetTable.grown mJ.size)).1 (relayAll t2 mJ (SetTable.grown mJ.size)).2.1
     pure (some true)
     else pure (some true)) R E { s with toks := s.toks + 1 } := λ g t2 R hg e2 e1 f2 hR => by
   have ga : ∀ (h0 : Heap) (o0 : Obj) (es0 : Array (Int × Value)) (ep0 : Nat) (t0 : SetTable) (es' : Array (Int × Value)) (t' : SetTable),h0.get? a = some o0 -> o0.data = .set es0 ep0 t0 -> (h0.update a (Obj.putSet es' t')).get? a = some { o0 with data := .set es' (ep0 + 1) t' } := λ h0 o0 es0 ep0 t0 es' t' q1 q2 => by
    have z := Heap.get?_update_self (Obj.putSet es' t') q1 (by rw [putSet_of es' t' q2]; rfl);rw [putSet_of es' t' q2] at z;exact z
   have g1 := ga s.heap o es ep t mJ t2 ho hd;refine wpAny_bind (wpAny_storeSet_of (s := { s with toks := s.toks + 1 }) ho hd ?_ (fits_of_scanBound hb1))
   split
   . have r1 := relayAll_perm t2 mJ (SetTable.grown mJ.size);have r2 := relayAll_fits t2 mJ (SetTable.grown mJ.size);have r3 := led_relay t2 mJ (SetTable.grown mJ.size);have hz2 : (relayAll t2 mJ (SetTable.grown mJ.size)).1.size = mJ.size := by rw [<- Array.length_toList,r1.length_eq,Array.length_toList]
     refine wpAny_bind (hg _ _ _ (wpAny_bind (wpAny_storeSet_of (s := { s with heap := s.heap.update a (Obj.putSet mJ t2),toks := s.toks + 1 }) g1 rfl ?_ (fits_of_scanBound (by rw [hz2]; exact hb1)))));have np := rise_relay e2 mJ (SetTable.grown mJ.size);exact wpAny_pure (hR _ ((Heap.SameBut.update s.heap a _).trans (Heap.SameBut.update _ a _)) (eO _ _ { o with data := .set (relayAll t2 mJ (SetTable.grown mJ.size)).1 (ep + 1 + 1) (relayAll t2 mJ (SetTable.grown mJ.size)).2.1 } (ep + 1 + 1) _ r1 r2 (r3.trans e1) np hex rfl (ga _ { o with data := .set mJ (ep + 1) t2 } mJ (ep + 1) t2 _ _ g1 rfl)))
   . exact wpAny_pure (hR _ (Heap.SameBut.update s.heap a _) (eO mJ t2 { o with data := .set mJ (ep + 1) t2 } (ep + 1) _ (.refl _) f2 e1 e2 hex rfl g1))
  have q : ∀ h',Heap.SameBut a s.heap h' -> eS P w led h' a (if x ∈ zs then zs else zs ++ [x]) -> wpAny (model P w) A (pure true) Q E { s with heap := h',toks := s.toks + 1 } := λ h' c1 c2 => by
   have q := h h' c1 c2;rw [decide_eq_false hx] at q;exact wpAny_pure q
  cases hp1 : t1.plain
  . rw [if_neg (λ z => nomatch z)];refine wpAny_bind (wpAny_pure ?_);exact tail _ t1 _ hgw l4 l3 l2 q
  . simp only [if_true];rw [hashByValue_scannable 8 hsc];refine wpAny_bind (wpAny_pure ?_);cases plainKind u
    . exact tail _ { t1 with plain := false } _ hgw l4 l3 (SetTable.fits_plain_off l2) q
    . exact tail _ t1 _ hgw l4 l3 l2 q
section
theorem setK_new {h : Heap} {a : Addr} (e : h.get? a = some (kR w)) : eS P w (jT w) h a [] := by
 refine ⟨_,#[],0,_,e,⟨rfl,rfl,rfl⟩,rfl,?_,⟨[],List.Perm.refl _,.nil⟩,List.Pairwise.nil,by decide,rfl,rfl,?_⟩
 . intro _ z;simp at z
 . intro i j h hj;exact absurd hj (Nat.not_lt_zero _)
def eP (l : List bP) : List bP := l.foldl (λ σ v => if v ∈ σ then σ else σ ++ [v]) []
theorem firstK_snoc (l : List bP) (v : bP) : eP (l ++ [v]) = if v ∈ eP l then eP l else eP l ++ [v] := by
 unfold eP
 rw [List.foldl_append]
 rfl
theorem firstK_go : ∀ (l σ : List bP),(l.foldl (λ σ v => if v ∈ σ then σ else σ ++ [v]) σ).length <= σ.length + l.length
 | [],_ => Nat.le_refl _
 | v :: l,σ => by
  rw [List.foldl_cons,List.length_cons];refine Nat.le_trans (firstK_go l _) ?_
  split
  . omega
  . rw [List.length_append,List.length_singleton]; omega
theorem firstK_le (l : List bP) : (eP l).length <= l.length := by
 have q := firstK_go l []
 rw [List.length_nil,Nat.zero_add] at q
 exact q
theorem firstK_mem (l : List bP) : ∀ (σ : List bP) (x : bP),x ∈ l.foldl (λ σ v => if v ∈ σ then σ else σ ++ [v]) σ ↔ x ∈ σ \/ x ∈ l := by
 induction l with
 | nil => intro σ x; simp
 | cons v l ih =>
  intro σ x;rw [List.foldl_cons,ih]
  by_cases c : v ∈ σ
  . rw [if_pos c,List.mem_cons];exact ⟨λ z => z.imp id .inr,λ z => z.elim .inl λ z => z.elim (λ e => .inl (e ▸ c)) .inr⟩
  . rw [if_neg c,List.mem_append,List.mem_singleton,List.mem_cons];exact ⟨λ z => z.elim (λ z => z.imp id .inl) λ z => .inr (.inr z),λ z => z.elim (λ z => .inl (.inl z)) λ z => z.elim (λ z => .inl (.inr z)) .inr⟩
theorem firstK_nodup (l : List bP) : ∀ (σ : List bP),σ.Nodup -> (l.foldl (λ σ v => if v ∈ σ then σ else σ ++ [v]) σ).Nodup := by
 induction l with
 | nil => intro σ h; exact h
 | cons v l ih =>
  intro σ h;rw [List.foldl_cons];refine ih _ ?_
  by_cases c : v ∈ σ
  . rw [if_pos c]; exact h
  . rw [if_neg c];exact List.nodup_append.mpr ⟨h,List.nodup_cons.mpr ⟨List.not_mem_nil,List.nodup_nil⟩,λ a ha b hb e => c (by rw [<- List.mem_singleton.mp hb,<- e]; exact ha)⟩
theorem vals_key : ∀ {us : List Value} {ys : List bP},aX (ys.map kV) us -> ∀ (i : Nat) (v : Value),us[i]? = some v -> ∃ y,ys[i]? = some y /\ bD (kV y) v := λ {us ys} r i v e => by
 have hl := r.length
 rw [List.length_map] at hl
 have hi : i < ys.length := by rw [hl]; exact (List.getElem?_eq_some_iff.mp e).1
 obtain ⟨u,h1,h2⟩ := r.get (i := i) (x := kV ys[i]) (by rw [List.getElem?_map,List.getElem?_eq_getElem hi]; rfl)
 rw [e] at h1
 cases Option.some.inj h1
 exact ⟨_,List.getElem?_eq_getElem hi,h2⟩
theorem eS.keep {led : Bool} {h h' : Heap} {a : Addr} {zs : List bP} (x : eS P w led h a zs) (k : ∀ o,h.get? a = some o -> h'.get? a = some o) : eS P w led h' a zs := by
 obtain ⟨o,es,ep,t,e,r⟩ := x
 exact ⟨o,es,ep,t,k o e,r⟩
variable {R : Result -> Shared -> Prop} {I : Addr} {fp wr : List Addr} {G : Array GenState -> Array GenState -> Prop} {n : Nat} {Pv : Nat -> Value -> Prop} {St : Nat -> Shared -> Prop}
theorem loop_setK {led : Bool} (W : WalksS P w A.in1 I fp wr G n Pv St) (S : Addr) (hSf : S ∉ fp) (ys : List bP) (hn : ys.length = n) (hval : ∀ i v,Pv i v -> ∃ y,ys[i]? = some y /\ bD (kV y) v) (hb : n + 1 < scanBound) :
 ∀ (k i : Nat) (s : Shared),n - i = k -> i <= n -> St i s -> eS P w led s.heap S (eP (ys.take i)) ->
  (∀ s',Moved (S :: wr) G s s' -> eS P w led s'.heap S (eP ys) -> R (.ok (.ret .none)) s') ->
  codeAny (model P w) A (.builtin "set.update.loop" ⟨[.ref S,.ref I],[]⟩) R s := by
 have hSw : S ∉ wr := λ z => hSf (W.sub _ z)
 have up : ∀ b ∈ wr,b ∈ S :: wr := λ b z => .tail _ z
 intro k
 induction k with
 | zero =>
  intro i s hk hi hst hS hR;obtain rfl : i = n := by omega
  refine codeAny_builtin F.entry_set_update_loop (by
   rw [PySem.Around.under_plainId F.plain_set_update_loop _];refine (show wpAny _ A.in1 (pyNext (.ref I) >>= _) _ _ s from wpAny_bind (W.done s _ _ hst λ s' hm => ?_));refine (show wpAny _ A.in1 (ret Value.none) _ _ s' from wpAny_pure (hR s' (hm.mono up) ?_));rw [List.take_of_length_le (by omega)] at hS;exact hS.keep λ o e => hm.heap S o hSw e)
 | succ k ih =>
  intro i s hk hi hst hS hR;have fR : i < n := by omega
  refine codeAny_builtin F.entry_set_update_loop (by
   rw [PySem.Around.under_plainId F.plain_set_update_loop _];refine (show wpAny _ A.in1 (pyNext (.ref I) >>= _) _ _ s from wpAny_bind (W.item i s _ _ fR hst λ v s' hP hst' hm => ?_));obtain ⟨y,hy,ry⟩ := hval i v hP;have hS' : eS P w led s'.heap S (eP (ys.take i)) := hS.keep λ o e => hm.heap S o hSw e;refine (show wpAny _ A.in1 (holding [v] (setAdd S v) >>= _) _ _ s' from wpAny_bind (wpAny_holding (kset_add ry hS' ?_ λ h' hsb hS2 => ?_)))
   . have q := firstK_le (ys.take i);rw [List.length_take] at q;omega
   have e1 : ys.take (i + 1) = ys.take i ++ [y] := by rw [List.take_succ,hy]; rfl
   rw [<- firstK_snoc,<- e1] at hS2;refine wpAny_pure ⟨plainId_quiet F.plain_set_update_loop _,ih (i + 1) _ (by omega) fR (W.frame _ s' _ _ hst' (Nat.le_succ _) λ b z o e => ?_) hS2 λ s'' hm'' hS'' => ?_⟩
   . exact (hsb.2 b λ q : b = S => hSf (q ▸ z)).trans e
   . refine hR s'' (Moved.trans W.gtrans ((hm.mono up).then_heap (Nat.le_succ _) λ b o z e => ?_) hm'') hS'';exact (hsb.2 b λ q : b = S => z (by rw [q]; exact .head _)).trans e)
set_option maxHeartbeats 8000000 in
theorem init_setK {S l : Addr} {items : Array Value} {ys : List bP} {R : Result -> Shared -> Prop} (hh : A.handled = none) (hS : s.heap.get? S = some (kR w)) (hl : s.heap.IsList l items) (hs : aX (ys.map kV) items.toList) (hb : items.size + 1 < scanBound)
 (h : ∀ (h' : Heap) (tk : Nat),eS P w (jT w) h' S (eP ys) -> (∀ b o,b ≠ S -> s.heap.get? b = some o -> h'.get? b = some o) -> R (.ok (.ret .none)) { s with heap := h',toks := tk }) :
 codeAny (model P w) A (.call (.builtin "set.__init__") ⟨[.ref S,.ref l],[]⟩) R s := by
 have hT : s.TypeIs (.ref S) "set" := ⟨_,hS,rfl⟩
 refine codeAny_call_builtin PySem.F.called_set.init.plain PySem.F.entry_set_init (check_set_init_1 hT ?_)
 obtain ⟨ol,hol,hcl,nl,hdl⟩ := id hl
 have iQ : l ≠ S := λ z => by
  rw [z,hS] at hol;cases hol;have y : Value.type "set" = Value.type "list" := hcl;simp at y
 obtain ⟨ocls,odict,odata,oslots⟩ := ol
 obtain rfl : ocls = _ := hcl
 obtain rfl : odata = _ := hdl
 have c1 := PySem.F.sub_list_set
 have c2 := PySem.F.sub_list_frozenset
 have c3 : (Value.type "list" == Value.type "dict") = false := by decide
 unfold Builtin.«set.__init__» noKeywords
 unfold Builtin.Frozenset.updateFrom
 generalize hPI : pyIter = PI
 wp_walk
 subst hPI
 refine wpAny_pyIter_list hl (wpAny_bind (wpAny_runValue ?_))
 have hh3 : A.in1.in1.handled = none := by simp [hh]
 have fR : l < s.heap.objs.size := Heap.lt_size hol
 have hsl : S < s.heap.objs.size := Heap.lt_size hS
 refine loop_setK (led := jT w) ((Walks.list hh3 s.heap.objs.size l (Nat.ne_of_lt fR) items).toS) S ?hf ys ?hn (λ i v e => vals_key hs i v (by rw [Array.getElem?_toList]; exact e)) hb (items.size - 0) 0 _ rfl (Nat.zero_le _) ⟨⟨_,Heap.get?_push_size _ rfl,rfl,rfl⟩,hl.push _⟩ ?hS0 ?hR
 case hf =>
  simp only [List.mem_cons,List.not_mem_nil,or_false,not_or];exact ⟨Nat.ne_of_lt hsl,λ z => iQ z.symm⟩
 case hn =>
  have q := hs.length;rw [List.length_map,Array.length_toList] at q;exact q
 case hS0 => exact setK_new (Heap.get?_push_of_some _ hS)
 case hR =>
  intro s' hm hS';obtain ⟨h',g',d',tk',os'⟩ := s';obtain rfl : g' = s.gens := hm.gens;obtain rfl : d' = s.drawn := hm.drawn;obtain rfl : os' = s.os := hm.os;refine wpAny_pure (show wpAny _ _ (ret Value.none) _ _ _ from wpAny_pure (h h' tk' hS' λ b o hbS e => ?_));refine hm.heap b o (λ z => ?_) (Heap.get?_push_of_some _ e);simp only [List.mem_cons,List.not_mem_nil,or_false] at z
  rcases z with z | z
  . exact hbS z
  . exact absurd (Heap.lt_size e) (by rw [z]; exact Nat.lt_irrefl _)
set_option maxHeartbeats 8000000 in
theorem call_setK {l : Addr} {items : Array Value} {ys : List bP} {Q : Value -> Shared -> Prop} (hh : A.handled = none) (hl : s.heap.IsList l items) (hs : aX (ys.map kV) items.toList) (hb : items.size + 1 < scanBound)
 (h : ∀ (h' : Heap) (tk : Nat),eS P w (jT w) h' s.heap.objs.size (eP ys) -> (∀ b o,s.heap.get? b = some o -> h'.get? b = some o) -> Q (.ref s.heap.objs.size) { s with heap := h',toks := tk }) :
 wpAny (model P w) A (call (.type "set") [.ref l]) Q E s := by
 obtain ⟨c,tl,hmro⟩ := PySem.F.called_set.mro
 have c1 := PySem.F.called_set.made
 have c2 := PySem.F.called_set.sub
 have c3 := PySem.F.called_set.notType
 have c4 := PySem.F.called_set.canCreate
 have c5 := PySem.F.typeCall_set_1 (.ref l)
 refine wpAny_call (codeAny_of_tree (show wpAny _ _ (callAny (.type "set") _) _ _ _ from wpAny_pure ⟨Code.quiet_builtin _ (by decide +kernel),codeAny_builtin PySem.F.entry_type_call ?_⟩))
 rw [PySem.Around.under_plain (weight_type_call_type "set" [.ref l] []) rfl]
 repeat (any_goals (first | assumption | wp_step))
 refine codeAny_mono (lP (P := P) (E := E) (rest := [.ref l]) (Q₁ := λ obj s₁ => obj = .ref s.heap.objs.size /\ s₁ = { s with heap := s.heap.push (kR w) }) (PySem.F.newCall_set_1 _) ⟨rfl,rfl⟩) λ r s₁ hr => ?_
 cases r with
 | error e => exact hr
 | ok fl =>
  cases fl with
  | ret obj =>
   obtain ⟨rfl,rfl⟩ := hr;have hS : (s.heap.push (kR w)).get? s.heap.objs.size = some (kR w) := Heap.get?_push_size _ rfl;have hT : Shared.TypeIs { s with heap := s.heap.push (kR w) } (.ref s.heap.objs.size) "set" := ⟨_,hS,rfl⟩;have c6 := PySem.F.called_set.init.lookup;have c7 := PySem.F.called_set.init.bind (.ref s.heap.objs.size)
   repeat (any_goals (first | assumption | wp_step))
   refine init_setK (s := { s with heap := s.heap.push (kR w) }) (by simp [hh]) hS (hl.push _) hs hb λ h' tk x k => ?_;refine wpAny_pure (wpAny_pure (h h' tk x λ b o e => k b o (Nat.ne_of_lt (Heap.lt_size e)) (Heap.get?_push_of_some _ e)))
  | _ => exact hr.elim
set_option maxHeartbeats 8000000 in
theorem init_setKT {S l : Addr} {items : Array Value} {ys : List bP} {R : Result -> Shared -> Prop} (hh : A.handled = none) (hS : s.heap.get? S = some (kR w)) (hl : s.heap.IsTuple l items) (hs : aX (ys.map kV) items.toList) (hb : items.size + 1 < scanBound)
 (h : ∀ (h' : Heap) (tk : Nat),eS P w (jT w) h' S (eP ys) -> (∀ b o,b ≠ S -> s.heap.get? b = some o -> h'.get? b = some o) -> R (.ok (.ret .none)) { s with heap := h',toks := tk }) :
 codeAny (model P w) A (.call (.builtin "set.__init__") ⟨[.ref S,.ref l],[]⟩) R s := by
 have hT : s.TypeIs (.ref S) "set" := ⟨_,hS,rfl⟩
 refine codeAny_call_builtin PySem.F.called_set.init.plain PySem.F.entry_set_init (check_set_init_1 hT ?_)
 obtain ⟨ol,hol,hcl,nl,hdl⟩ := id hl
 have iQ : l ≠ S := λ z => by
  rw [z,hS] at hol;cases hol;have y : Value.type "set" = Value.type "tuple" := hcl;simp at y
 obtain ⟨ocls,odict,odata,oslots⟩ := ol
 obtain rfl : ocls = _ := hcl
 obtain rfl : odata = _ := hdl
 have c1 := sub_tup_set
 have c2 := sub_tup_frozen
 have c3 : (Value.type "tuple" == Value.type "dict") = false := by decide
 unfold Builtin.«set.__init__» noKeywords
 unfold Builtin.Frozenset.updateFrom
 generalize hPI : pyIter = PI
 wp_walk
 subst hPI
 refine wpAny_pyIter_tuple hl (wpAny_bind (wpAny_runValue ?_))
 have hh3 : A.in1.in1.handled = none := by simp [hh]
 have fR : l < s.heap.objs.size := Heap.lt_size hol
 have hsl : S < s.heap.objs.size := Heap.lt_size hS
 refine loop_setK (led := jT w) ((Walks.tuple hh3 s.heap.objs.size l (Nat.ne_of_lt fR) items).toS) S ?hf ys ?hn (λ i v e => vals_key hs i v (by rw [Array.getElem?_toList]; exact e)) hb (items.size - 0) 0 _ rfl (Nat.zero_le _) ⟨⟨_,Heap.get?_push_size _ rfl,rfl,rfl⟩,hl.push _⟩ ?hS0 ?hR
 case hf =>
  simp only [List.mem_cons,List.not_mem_nil,or_false,not_or];exact ⟨Nat.ne_of_lt hsl,λ z => iQ z.symm⟩
 case hn =>
  have q := hs.length;rw [List.length_map,Array.length_toList] at q;exact q
 case hS0 => exact setK_new (Heap.get?_push_of_some _ hS)
 case hR =>
  intro s' hm hS';obtain ⟨h',g',d',tk',os'⟩ := s';obtain rfl : g' = s.gens := hm.gens;obtain rfl : d' = s.drawn := hm.drawn;obtain rfl : os' = s.os := hm.os;refine wpAny_pure (show wpAny _ _ (ret Value.none) _ _ _ from wpAny_pure (h h' tk' hS' λ b o hbS e => ?_));refine hm.heap b o (λ z => ?_) (Heap.get?_push_of_some _ e);simp only [List.mem_cons,List.not_mem_nil,or_false] at z
  rcases z with z | z
  . exact hbS z
  . exact absurd (Heap.lt_size e) (by rw [z]; exact Nat.lt_irrefl _)
set_option maxHeartbeats 8000000 in
theorem call_setKT {l : Addr} {items : Array Value} {ys : List bP} {Q : Value -> Shared -> Prop} (hh : A.handled = none) (hl : s.heap.IsTuple l items) (hs : aX (ys.map kV) items.toList) (hb : items.size + 1 < scanBound)
 (h : ∀ (h' : Heap) (tk : Nat),eS P w (jT w) h' s.heap.objs.size (eP ys) -> (∀ b o,s.heap.get? b = some o -> h'.get? b = some o) -> Q (.ref s.heap.objs.size) { s with heap := h',toks := tk }) :
 wpAny (model P w) A (call (.type "set") [.ref l]) Q E s := by
 obtain ⟨c,tl,hmro⟩ := PySem.F.called_set.mro
 have c1 := PySem.F.called_set.made
 have c2 := PySem.F.called_set.sub
 have c3 := PySem.F.called_set.notType
 have c4 := PySem.F.called_set.canCreate
 have c5 := PySem.F.typeCall_set_1 (.ref l)
 refine wpAny_call (codeAny_of_tree (show wpAny _ _ (callAny (.type "set") _) _ _ _ from wpAny_pure ⟨Code.quiet_builtin _ (by decide +kernel),codeAny_builtin PySem.F.entry_type_call ?_⟩))
 rw [PySem.Around.under_plain (weight_type_call_type "set" [.ref l] []) rfl]
 repeat (any_goals (first | assumption | wp_step))
 refine codeAny_mono (lP (P := P) (E := E) (rest := [.ref l]) (Q₁ := λ obj s₁ => obj = .ref s.heap.objs.size /\ s₁ = { s with heap := s.heap.push (kR w) }) (PySem.F.newCall_set_1 _) ⟨rfl,rfl⟩) λ r s₁ hr => ?_
 cases r with
 | error e => exact hr
 | ok fl =>
  cases fl with
  | ret obj =>
   obtain ⟨rfl,rfl⟩ := hr;have hS : (s.heap.push (kR w)).get? s.heap.objs.size = some (kR w) := Heap.get?_push_size _ rfl;have hT : Shared.TypeIs { s with heap := s.heap.push (kR w) } (.ref s.heap.objs.size) "set" := ⟨_,hS,rfl⟩;have c6 := PySem.F.called_set.init.lookup;have c7 := PySem.F.called_set.init.bind (.ref s.heap.objs.size)
   repeat (any_goals (first | assumption | wp_step))
   refine init_setKT (s := { s with heap := s.heap.push (kR w) }) (by simp [hh]) hS (hl.push _) hs hb λ h' tk x k => ?_;refine wpAny_pure (wpAny_pure (h h' tk x λ b o e => k b o (Nat.ne_of_lt (Heap.lt_size e)) (Heap.get?_push_of_some _ e)))
  | _ => exact hr.elim
end
section
variable {I S T : Addr} {i ep : Nat} {es : Array (Int × Value)} {t : SetTable} {o : Obj}
theorem nxt_flat {sl i : Nat} (hw : w.params.followText "set-order" = false) (hd : o.data = .set es ep t) (hf : t.fits es.size = true) (hled : t.led = true) (hn : (!t.plain && decide (es.size > 1)) = false) :
 Nxt P w o S sl i ep (match es[SetTable.below t.place sl]?,t.place[SetTable.below t.place sl]? with | some (_,x),some j => some (x,j + 1) | _,_ => none) := by
 intro A E s Q ho q
 unfold setNext
 refine wpAny_bind (wpAny_setState_of ho hd hf ?_)
 refine wpAny_bind (show wpAny _ _ (ask >>= λ a => pure (a.params.followText "set-order")) _ _ _ from wpAny_bind (wpAny_askSetting (wpAny_pure ?_)))
 dsimp only
 rw [if_neg (by rw [show (model P w).w.params.followText "set-order" = false from hw]; simp)]
 refine (show wpAny _ _ (if (!t.plain && decide (es.size > 1)) = true then _ else _) _ _ _ from ?_)
 rw [if_neg (by rw [hn]; exact λ z => nomatch z)]
 refine (show wpAny _ _ ((if (!t.led && !es.isEmpty) = true then unsupported "set:maker-not-led" else pure ()) >>= _) _ _ _ from ?_)
 rw [hled,if_neg (by simp)]
 exact wpAny_bind (wpAny_pure (wpAny_pure q))
theorem led_rise (hw : w.params.followText "set-order" = false) (hd : o.data = .set es ep t) (hf : t.fits es.size = true) (hled : t.led = true) (hn : (!t.plain && decide (es.size > 1)) = false) (hr : iZ t.place) :
 Led P w o S ep (es.toList.map (·.2)) (λ i => if i = 0 then 0 else t.place.getD (i - 1) 0 + 1) := by
 have hp : t.place.size = es.size := by
  simp only [SetTable.fits,Bool.and_eq_true,beq_iff_eq,decide_eq_true_eq] at hf;exact hf.1
 have hb : ∀ i : Nat,i <= es.size -> SetTable.below t.place (if i = 0 then 0 else t.place.getD (i - 1) 0 + 1) = i := λ i hi => by
  cases i with
  | zero => exact hr.first
  | succ k => exact hr.next (i := k) (by omega)
 refine ⟨λ i x e => ?_,?_,rfl⟩
 . rw [List.getElem?_map,Array.getElem?_toList] at e;obtain ⟨y,e1,rfl⟩ := Option.map_eq_some_iff.mp e;have hi : i < es.size := (Array.getElem?_eq_some_iff.mp e1).1;have q := nxt_flat (P := P) (S := S) (sl := if i = 0 then 0 else t.place.getD (i - 1) 0 + 1) (i := i) hw hd hf hled hn;rw [hb i (by omega),e1,getD_lt (by omega : i < t.place.size)] at q;exact q
 . have q := nxt_flat (P := P) (S := S) (sl := if (es.toList.map (·.2)).length = 0 then 0 else t.place.getD ((es.toList.map (·.2)).length - 1) 0 + 1) (i := (es.toList.map (·.2)).length) hw hd hf hled hn;rw [hb _ (by rw [List.length_map,Array.length_toList]; exact Nat.le_refl _),Array.getElem?_eq_none (by rw [List.length_map,Array.length_toList]; exact Nat.le_refl _)] at q;exact q
theorem ints_perm {us us0 : List Value} (hp : us.Perm us0) : ∀ {zs : List Int},IntsAre us0 zs -> ∃ gQ,IntsAre us gQ /\ gQ.Perm zs := by
 induction hp with
 | nil => intro zs h; exact ⟨zs,h,.refl _⟩
 | cons x _ ih =>
  intro zs h;cases h with
  | cons n t r =>
   obtain ⟨gQ,h1,h2⟩ := ih r;exact ⟨_,.cons n t h1,h2.cons n⟩
 | swap x y l =>
  intro zs h;cases h with
  | cons n t r =>
   cases r with
   | cons n' t' r' => exact ⟨_,.cons _ _ (.cons _ _ r'),List.Perm.swap ..⟩
 | trans _ _ ih1 ih2 =>
  intro zs h;obtain ⟨z1,h1,p1⟩ := ih2 h;obtain ⟨z2,h2,p2⟩ := ih1 h1;exact ⟨z2,h2,p2.trans p1⟩
theorem oJ {zs : List bP} {Q : List Value -> Shared -> Prop} (hh : A.handled = none) (hS : eS P w (jT w) s.heap S zs)
 (h : ∀ s' us,(∀ b o,s.heap.get? b = some o -> s'.heap.get? b = some o) -> s'.gens = s.gens -> s'.os = s.os -> s.heap.objs.size < s'.heap.objs.size -> (∃ us0,us.Perm us0 /\ aX (zs.map kV) us0) -> Q us s') : wpAny (model P w) A (collect (.ref S)) Q E s := by
 obtain ⟨o,es,ep,t,ho,hex,hd,hel,⟨us0,hp,hs⟩,hnd,hb,hf,hled,oE⟩ := hS
 have ho0 : (s.heap.push { cls := .type "list",data := .seq ([] : List Value).toArray }).get? S = some o := Heap.get?_push_of_some _ ho
 have hl0 : (s.heap.push { cls := .type "list",data := .seq ([] : List Value).toArray }).get? s.heap.objs.size = some { cls := .type "list",data := .seq ([] : List Value).toArray } := Heap.get?_push_size _ rfl
 have hsz : (s.heap.push { cls := .type "list",data := .seq ([] : List Value).toArray }).objs.size = s.heap.objs.size + 1 := Heap.size_push _ _
 have hSl : S < s.heap.objs.size := Heap.lt_size ho
 have cE : es.size <= sizeLine := fits_of_scanBound hb
 refine collect_set ⟨o,ho,hex.1⟩ (iter_set ho0 hex hd hf hb (λ hq => ?_) λ hq ps d hps => ?_)
 . have hled' : ∃ us sl,Led P w o S ep us sl /\ us.Perm (es.toList.map (·.2)) := by
    cases hw : w.params.followText "set-order"
    . have hl1 : t.led = true := by rw [hled]; simp [hw]
      rw [hw] at hq;exact ⟨_,_,led_rise hw hd hf hl1 (by simpa using hq) oE,.refl _⟩
    . exact ⟨_,_,led_text hw hd hf,(pick_perm _ _).map _⟩
   obtain ⟨us,sl,L,hpu⟩ := hled';have hul : us.length <= sizeLine := by rw [hpu.length_eq,List.length_map,Array.length_toList]; exact cE
   refine ⟨_,rfl,⟨o,Heap.get?_push_of_some _ ho0,hex.1⟩,Heap.get?_push_of_some _ hl0,λ h' c k g => ?_⟩;refine loop_walk (walk_led (I := (s.heap.push { cls := .type "list",data := .seq ([] : List Value).toArray }).objs.size) L (by simp [hh]) hd hf (by rw [hsz]; exact Nat.ne_of_lt (Nat.lt_succ_of_lt hSl))) hul ⟨?_,?_⟩ ?_ g λ s' c' kk g1 g2 g3 => ⟨_,_,rfl,g3,h s' us (λ b o' e => ?_) g1 g2 (Heap.lt_size g3) ⟨us0,hpu.trans hp,hs⟩⟩
   . rw [L.zero];exact k _ _ (by rw [hsz]; exact Nat.succ_ne_self _) (Heap.get?_push_size _ rfl)
   . exact k _ _ (Nat.ne_of_lt hSl) (Heap.get?_push_of_some _ ho0)
   . rw [hsz];intro z
     rcases List.mem_cons.mp z with z | z
     . exact absurd z (Nat.ne_of_lt (Nat.lt_succ_self _))
     . exact absurd (List.mem_singleton.mp z) (Nat.ne_of_gt hSl)
   . have hbl := Heap.lt_size e;exact kk b o' (Nat.ne_of_lt hbl) (by rw [hsz]; exact Nat.ne_of_lt (Nat.lt_succ_of_lt hbl)) (k b o' (Nat.ne_of_lt hbl) (Heap.get?_push_of_some _ (Heap.get?_push_of_some _ e)))
 . have hsz2 : ((s.heap.push { cls := .type "list",data := .seq ([] : List Value).toArray }).push { cls := .type "tuple",data := .seq (ps.map λ i : Nat => rawInt i).toArray }).objs.size = s.heap.objs.size + 1 + 1 := by rw [Heap.size_push,hsz]
   have hpu : (ps.map λ p => (es.toList.map (·.2)).getD p .none).Perm (es.toList.map (·.2)) := by
    have q := hps.map λ p => (es.toList.map (·.2)).getD p Value.none;rw [show es.size = (es.toList.map (·.2)).length by rw [List.length_map,Array.length_toList],range_getD] at q;exact q
   have hpl2 : (ps.map λ p => (es.toList.map (·.2)).getD p .none).length = ps.length := List.length_map _;have hul : ps.length <= sizeLine := by rw [hps.length_eq,List.length_range]; exact cE
   refine ⟨_,rfl,⟨o,Heap.get?_push_of_some _ (Heap.get?_push_of_some _ ho0),hex.1⟩,Heap.get?_push_of_some _ (Heap.get?_push_of_some _ hl0),λ h' c k g => ?_⟩;have W := walk_drawn (P := P) (w := w) (A := A.in1) (I := s.heap.objs.size + 1 + 1) (T := s.heap.objs.size + 1) (n := 0) (by simp [hh]) hd hf hps (Nat.ne_of_lt (Nat.lt_succ_of_lt (Nat.lt_succ_of_lt hSl))) (Nat.ne_of_lt (Nat.lt_succ_self _));rw [<- hpl2] at W;rw [hsz] at k ⊢;refine loop_walk W (by rw [hpl2]; exact hul) ⟨?_,?_,?_⟩ ?_ g λ s' c' kk g1 g2 g3 => ⟨_,_,rfl,g3,h s' _ (λ b o' e => ?_) g1 g2 (Heap.lt_size g3) ⟨us0,hpu.trans hp,hs⟩⟩
   . exact k _ _ (Nat.ne_of_gt (Nat.lt_succ_of_lt (Nat.lt_succ_self _))) (by have q := Heap.get?_push_size ((s.heap.push { cls := .type "list",data := .seq ([] : List Value).toArray }).push { cls := .type "tuple",data := .seq (ps.map λ i : Nat => rawInt i).toArray }) (o := iF (.ref (s.heap.objs.size + 1)) 0 S es.size ep) rfl; rw [hsz2] at q; exact q)
   . exact k _ _ (Nat.ne_of_lt hSl) (Heap.get?_push_of_some _ (Heap.get?_push_of_some _ ho0))
   . exact k _ _ (Nat.succ_ne_self _) (Heap.get?_push_of_some _ (by have q := Heap.get?_push_size (s.heap.push { cls := .type "list",data := .seq ([] : List Value).toArray }) (o := { cls := .type "tuple",data := .seq (ps.map λ i : Nat => rawInt i).toArray }) rfl; rw [hsz] at q; exact q))
   . intro z
     rcases List.mem_cons.mp z with z | z
     . exact absurd z (Nat.ne_of_lt (Nat.lt_succ_of_lt (Nat.lt_succ_self _)))
     . rcases List.mem_cons.mp z with z | z
       . exact absurd z (Nat.ne_of_gt hSl)
       . exact absurd (List.mem_singleton.mp z) (Nat.ne_of_lt (Nat.lt_succ_self _))
   . have hbl := Heap.lt_size e;exact kk b o' (Nat.ne_of_lt hbl) (Nat.ne_of_lt (Nat.lt_succ_of_lt (Nat.lt_succ_of_lt hbl))) (k b o' (Nat.ne_of_lt hbl) (Heap.get?_push_of_some _ (Heap.get?_push_of_some _ (Heap.get?_push_of_some _ e))))
theorem sorted_setKS {zs : List Str} {Q : Value -> Shared -> Prop} (hh : A.handled = none) (hS : eS P w (jT w) s.heap S (zs.map Sum.inr)) (h64 : zs.length < 64)
 (h : ∀ s' l vs gQ,(∀ b o,s.heap.get? b = some o -> s'.heap.get? b = some o) -> s'.gens = s.gens -> s'.os = s.os -> s.heap.objs.size <= l -> (∃ e,s'.heap.get? l = some (seqObj "list" vs e)) -> StrsAre vs.toList gQ -> gQ.Perm zs -> sortedS gQ = true -> Q (.ref l) s') :
 wpAny (model P w) A (call (.builtin "sorted") [.ref S]) Q E s := by
 refine Calls.call_function_entry kind_sorted plain_sorted entry_sorted (args_sorted1 _) ?_
 unfold Builtin.«sorted»
 refine wpAny_bind (m := checkCount "sorted" 1 1 _) (wpAny_pure ?_)
 refine wpAny_bind (oJ (by simp [hh]) hS λ s1 us k1 g1 o1 z1 ⟨us0,hpu,hv⟩ => ?_)
 rw [List.map_map] at hv
 obtain ⟨zs1,hs1,hp1⟩ := strs_perm hpu (pQ hv)
 have hz : us.length = zs.length := by rw [qO hs1,hp1.length_eq]
 refine wpAny_bind (wpAny_newList ?_ (by rw [hz]; have := lZ; have : (64 : Nat) <= sizeLine := (by rw [sizeLine_eq]; decide); omega))
 have hoL : (s1.heap.push (seqObj "list" us.toArray 0)).get? s1.heap.objs.size = some (seqObj "list" us.toArray 0) := Heap.get?_push_size _ rfl
 refine wpAny_bind (wpAny_holding (wpAny_call_entry slot_list_sort ⟨_,hoL,rfl⟩ entry_list_sort (list_sort_treeK strKind_oneLt hoL hs1.keysOf (λ v₁ v₂ rest e => keyKind_strs (by rw [<- e]; exact hs1)) (by rw [hz]; exact h64) λ st' a1 a2 => ⟨_,rfl,?_⟩) (args_list_sort _)))
 obtain ⟨ss',b1,b2,b3⟩ := sorted_out_str hs1 a1 a2
 refine wpAny_pure ⟨_,rfl,h _ _ _ ss' (λ b o e => ?_) g1 o1 ?_ (sortedHeap_at hoL) b1 (b2.trans hp1) b3⟩
 . have e1 := k1 b o e;have hb := Heap.lt_size e1;rw [sortedHeap_old (Nat.ne_of_lt hb) (by rw [Heap.size_push]; exact Nat.lt_succ_of_lt hb)];exact Heap.get?_push_of_some _ e1
 . exact Nat.le_of_lt z1
theorem sorted_setKI {zs : List Int} {Q : Value -> Shared -> Prop} (hh : A.handled = none) (hS : eS P w (jT w) s.heap S (zs.map Sum.inl)) (h64 : zs.length < 64)
 (h : ∀ s' l vs gQ,(∀ b o,s.heap.get? b = some o -> s'.heap.get? b = some o) -> s'.gens = s.gens -> s'.os = s.os -> s.heap.objs.size <= l -> (∃ e,s'.heap.get? l = some (seqObj "list" vs e)) -> IntsAre vs.toList gQ -> gQ.Perm zs -> gQ.Pairwise (· <= ·) -> Q (.ref l) s') :
 wpAny (model P w) A (call (.builtin "sorted") [.ref S]) Q E s := by
 refine Calls.call_function_entry kind_sorted plain_sorted entry_sorted (args_sorted1 _) ?_
 unfold Builtin.«sorted»
 refine wpAny_bind (m := checkCount "sorted" 1 1 _) (wpAny_pure ?_)
 refine wpAny_bind (oJ (by simp [hh]) hS λ s1 us k1 g1 o1 z1 ⟨us0,hpu,hv⟩ => ?_)
 rw [List.map_map] at hv
 have hl0 := hv.length
 rw [List.length_map] at hl0
 have hz : us.length = zs.length := by rw [hpu.length_eq]; exact hl0.symm
 obtain ⟨zs1,hs1,hp1⟩ := ints_perm hpu (intsAre_of hv)
 refine wpAny_bind (wpAny_newList ?_ (by rw [hz]; have := lZ; have : (64 : Nat) <= sizeLine := (by rw [sizeLine_eq]; decide); omega))
 have hoL : (s1.heap.push (seqObj "list" us.toArray 0)).get? s1.heap.objs.size = some (seqObj "list" us.toArray 0) := Heap.get?_push_size _ rfl
 refine wpAny_bind (wpAny_holding (wpAny_call_entry slot_list_sort ⟨_,hoL,rfl⟩ entry_list_sort (list_sort_tree hoL hs1 (by rw [hz]; exact h64) λ out ns' b1 b2 b3 => ⟨_,rfl,?_⟩) (args_list_sort _)))
 refine wpAny_pure ⟨_,rfl,h _ _ _ ns' (λ b o e => ?_) g1 o1 ?_ (sortedHeap_at hoL) b1 (b2.trans hp1) b3⟩
 . have e1 := k1 b o e;have hb := Heap.lt_size e1;rw [sortedHeap_old (Nat.ne_of_lt hb) (by rw [Heap.size_push]; exact Nat.lt_succ_of_lt hb)];exact Heap.get?_push_of_some _ e1
 . exact Nat.le_of_lt z1
end
theorem oZ {z : Str} {zs : List Str} : (Sum.inr z : bP) ∈ zs.map Sum.inr ↔ z ∈ zs := by simp
theorem firstK_inr (l : List Str) : ∀ σ : List Str,(l.map (Sum.inr : Str -> bP)).foldl (λ σ v => if v ∈ σ then σ else σ ++ [v]) (σ.map Sum.inr) = (l.foldl (λ σ v => if v ∈ σ then σ else σ ++ [v]) σ).map Sum.inr := by
 induction l with
 | nil => intro σ; rfl
 | cons v l ih =>
  intro σ;rw [List.map_cons,List.foldl_cons,List.foldl_cons,<- ih]
  by_cases c : v ∈ σ
  . rw [if_pos (oZ.mpr c),if_pos c]
  . rw [if_neg (λ z => c (oZ.mp z)),if_neg c,List.map_append]; rfl
theorem first_inr (ys : List Str) : eP (ys.map Sum.inr) = (eG ys).map Sum.inr := firstK_inr ys []
theorem add_inr {z : Str} {zs : List Str} : (if (Sum.inr z : bP) ∈ zs.map Sum.inr then zs.map Sum.inr else zs.map Sum.inr ++ [Sum.inr z]) = (if z ∈ zs then zs else zs ++ [z]).map (Sum.inr : Str -> bP) := by
 by_cases c : z ∈ zs
 . rw [if_pos (oZ.mpr c),if_pos c]
 . rw [if_neg (λ q => c (oZ.mp q)),if_neg c,List.map_append]; rfl
theorem first_inl (ys : List Int) : ∃ zs : List Int,eP (ys.map Sum.inl) = zs.map Sum.inl /\ zs.Nodup /\ ∀ x,x ∈ zs ↔ x ∈ ys := by
 have hm := firstK_mem (ys.map (Sum.inl : Int -> bP)) []
 have hn := firstK_nodup (ys.map (Sum.inl : Int -> bP)) [] List.nodup_nil
 have all : ∀ l : List bP,(∀ k ∈ l,∃ i,k = Sum.inl i) -> ∃ zs : List Int,l = zs.map Sum.inl := by
  intro l
  induction l with
  | nil => exact λ _ => ⟨[],rfl⟩
  | cons k l ih =>
   intro h;obtain ⟨i,rfl⟩ := h k List.mem_cons_self;obtain ⟨zs,rfl⟩ := ih λ k hk => h k (List.mem_cons_of_mem _ hk);exact ⟨i :: zs,rfl⟩
 obtain ⟨zs,e⟩ := all (eP (ys.map Sum.inl)) λ k hk => by
  rcases (hm k).mp hk with z | z
  . cases z
  . obtain ⟨i,_,rfl⟩ := List.mem_map.mp z;exact ⟨i,rfl⟩
 refine ⟨zs,e,?_,λ x => ?_⟩
 . have q : (zs.map (Sum.inl : Int -> bP)).Nodup := by rw [<- e]; exact hn
   exact (List.pairwise_map.mp q).imp λ h z => h (by rw [z])
 . have q := hm (Sum.inl x);rw [show (ys.map (Sum.inl : Int -> bP)).foldl (λ σ v => if v ∈ σ then σ else σ ++ [v]) [] = eP (ys.map Sum.inl) from rfl,e] at q;simpa using q
def iX (P : Program) (w : World) (a : Addr) (zs : List Str) : HO := .ext λ h => eS P w (jT w) h a (zs.map Sum.inr)
def SetN (P : Program) (w : World) (a : Addr) (zs : List Int) : HO := .ext λ h => eS P w (jT w) h a (zs.map Sum.inl)
theorem eS.at_ {P : Program} {w : World} {b : Bool} {h : Heap} {a : Addr} {zs : List bP} (x : eS P w b h a zs) : ∃ o,h.get? a = some o := let ⟨o,_,_,_,e,_⟩ := x; ⟨o,e⟩
theorem setQ_ok {P : Program} {w : World} {H : Hp} {h : Heap} {a : Addr} {zs : List Str} (x : eS P w (jT w) h a (zs.map Sum.inr)) : bZ P w H h a (iX P w a zs) := ⟨x,x.at_,λ _ _ y k => y.keep λ o e => k o e⟩
theorem setN_ok {P : Program} {w : World} {H : Hp} {h : Heap} {a : Addr} {zs : List Int} (x : eS P w (jT w) h a (zs.map Sum.inl)) : bZ P w H h a (SetN P w a zs) := ⟨x,x.at_,λ _ _ y k => y.keep λ o e => k o e⟩
theorem vals_inr {ys : List Str} {us : List Value} (h : aX (ys.map V.str) us) : aX ((ys.map (Sum.inr : Str -> bP)).map kV) us := by rw [List.map_map]; exact h
theorem vals_inl {ys : List Int} {us : List Value} (h : aX (ys.map V.int) us) : aX ((ys.map (Sum.inl : Int -> bP)).map kV) us := by rw [List.map_map]; exact h
theorem call_setQL (hc : X.calm = true) : dP X (.type "set") (λ xs H Q => ∃ p ys,xs = [.ref p] /\ bC X.K H p (ys.map V.str) /\ ys.length < 1000 /\ ∀ l,H l = none -> Q (.ref l) (aL H l (iX X.prog X.w l (eG ys)))) := by
 intro aA s σ H xs us Q I r h
 obtain ⟨p,ys,rfl,hq,hz,q⟩ := h
 obtain ⟨u,rfl,rx⟩ := kF r
 cases rx
 obtain ⟨bJ,r',pl,hz'⟩ := I.list hq
 have cE := r'.length
 rw [List.length_map] at cE
 refine call_setK (P := X.prog) (w := X.w) ?hh pl.isList (vals_inr r') (by rw [List.size_toArray,<- cE]; unfold scanBound; omega) λ h' tk x k => ?_
 case hh => exact I.ok.hd hc
 exact ⟨.ref s.heap.objs.size,_,I.laid (t' := tk) k (Nat.le_refl _) (setQ_ok (by rw [<- first_inr]; exact x)),rfl,q _ I.fresh⟩
theorem call_setNL (hc : X.calm = true) : dP X (.type "set") (λ xs H Q => ∃ (p : Addr) (ys : List Int),xs = [.ref p] /\ bC X.K H p (ys.map V.int) /\ ys.length < 1000 /\ ∀ (l : Addr) (zs : List Int),H l = none -> zs.Nodup -> (∀ x,x ∈ zs ↔ x ∈ ys) -> Q (.ref l) (aL H l (SetN X.prog X.w l zs))) := by
 intro aA s σ H xs us Q I r h
 obtain ⟨p,ys,rfl,hq,hz,q⟩ := h
 obtain ⟨u,rfl,rx⟩ := kF r
 cases rx
 obtain ⟨bJ,r',pl,hz'⟩ := I.list hq
 have cE := r'.length
 rw [List.length_map] at cE
 refine call_setK (P := X.prog) (w := X.w) ?hh pl.isList (vals_inl r') (by rw [List.size_toArray,<- cE]; unfold scanBound; omega) λ h' tk x k => ?_
 case hh => exact I.ok.hd hc
 obtain ⟨zs,e1,e2,e3⟩ := first_inl ys
 exact ⟨.ref s.heap.objs.size,_,I.laid (t' := tk) k (Nat.le_refl _) (setN_ok (by rw [<- e1]; exact x)),rfl,q _ zs I.fresh e2 e3⟩
theorem call_sortedQ (hc : X.calm = true) : dP X (.builtin "sorted") (λ xs H Q => ∃ p zs,xs = [.ref p] /\ H p = some (iX X.prog X.w p zs) /\ zs.length < 64 /\ ∀ l gQ,H l = none -> gQ.Perm zs -> sortedS gQ = true -> Q (.ref l) (aL H l (.lst (gQ.map V.str)))) := by
 intro aA s σ H xs us Q I r h
 obtain ⟨p,zs,rfl,hq,hz,q⟩ := h
 obtain ⟨u,rfl,rx⟩ := kF r
 cases rx
 have hS : eS X.prog X.w (jT X.w) s.heap p (zs.map Sum.inr) := (I.hok p _ hq).1
 refine sorted_setKS ?hh hS hz λ s' l vs gQ k g o hl ⟨e,he⟩ a1 a2 a3 => ?_
 case hh => exact I.ok.hd hc
 have hz2 : (gQ.map V.str).length <= sizeLine := by
  have q : (64 : Nat) <= sizeLine := by rw [sizeLine_eq]; decide
  rw [List.length_map,a2.length_eq];omega
 have J : aR X aA σ (aL H l (.lst (gQ.map V.str))) s' :=
  I.call' (ch := []) o (Un.laid k hl (I.hok.fresh hl)) (I.hok.laid k hl (show bZ X.prog X.w _ _ _ (.lst (gQ.map V.str)) from ⟨hz2,vs.toList,e,pR a1,he⟩)) (by rw [g]; exact I.bare) (λ _ z => nomatch z)
 exact ⟨.ref l,_,J,rfl,q _ _ (I.hok.fresh hl) a2 a3⟩
theorem call_sortedN (hc : X.calm = true) : dP X (.builtin "sorted") (λ xs H Q => ∃ (p : Addr) (zs : List Int),xs = [.ref p] /\ H p = some (SetN X.prog X.w p zs) /\ zs.length < 64 /\ ∀ (l : Addr) (gQ : List Int),H l = none -> gQ.Perm zs -> gQ.Pairwise (· <= ·) -> Q (.ref l) (aL H l (.lst (gQ.map V.int)))) := by
 intro aA s σ H xs us Q I r h
 obtain ⟨p,zs,rfl,hq,hz,q⟩ := h
 obtain ⟨u,rfl,rx⟩ := kF r
 cases rx
 have hS : eS X.prog X.w (jT X.w) s.heap p (zs.map Sum.inl) := (I.hok p _ hq).1
 refine sorted_setKI ?hh hS hz λ s' l vs gQ k g o hl ⟨e,he⟩ a1 a2 a3 => ?_
 case hh => exact I.ok.hd hc
 have hz2 : (gQ.map V.int).length <= sizeLine := by
  have q : (64 : Nat) <= sizeLine := by rw [sizeLine_eq]; decide
  rw [List.length_map,a2.length_eq];omega
 have J : aR X aA σ (aL H l (.lst (gQ.map V.int))) s' :=
  I.call' (ch := []) o (Un.laid k hl (I.hok.fresh hl)) (I.hok.laid k hl (show bZ X.prog X.w _ _ _ (.lst (gQ.map V.int)) from ⟨hz2,vs.toList,e,pI a1,he⟩)) (by rw [g]; exact I.bare) (λ _ z => nomatch z)
 exact ⟨.ref l,_,J,rfl,q _ _ (I.hok.fresh hl) a2 a3⟩
theorem call_setQT (hc : X.calm = true) : dP X (.type "set") (λ xs H Q => ∃ p ys,xs = [.ref p] /\ dM X.K H p (ys.map V.str) /\ ys.length < 1000 /\ ∀ l,H l = none -> Q (.ref l) (aL H l (iX X.prog X.w l (eG ys)))) := by
 intro aA s σ H xs us Q I r h
 obtain ⟨p,ys,rfl,hq,hz,q⟩ := h
 obtain ⟨u,rfl,rx⟩ := kF r
 cases rx
 obtain ⟨bJ,r',pl,hz'⟩ := I.tuple hq
 have cE := r'.length
 rw [List.length_map] at cE
 obtain ⟨o,ho,hc1,n,hd⟩ := pl
 refine call_setKT (P := X.prog) (w := X.w) (I.ok.hd hc) ⟨o,ho,hc1,n,hd⟩ (vals_inr r') (by rw [List.size_toArray,<- cE]; unfold scanBound; omega) λ h' tk x k => ?_
 exact ⟨.ref s.heap.objs.size,_,I.laid (t' := tk) k (Nat.le_refl _) (setQ_ok (by rw [<- first_inr]; exact x)),rfl,q _ I.fresh⟩
theorem call_setQ0 : dP X (.type "set") (λ xs H Q => xs = [] /\ ∀ l,H l = none -> Q (.ref l) (aL H l (iX X.prog X.w l []))) := by
 intro aA s σ H xs us Q I r h
 obtain ⟨rfl,q⟩ := h
 cases r
 refine call_set0 ?_
 exact ⟨.ref s.heap.objs.size,_,I.laid (t' := s.toks) (λ b o e => Heap.get?_push_of_some _ e) (Nat.le_refl _) (setQ_ok (setK_new (Heap.get?_push_size _ rfl))),rfl,q _ I.fresh⟩
theorem call_set_anyQ (hc : X.calm = true) : dP X (.type "set") (λ xs H Q => ((∃ p ys,xs = [.ref p] /\ bC X.K H p (ys.map V.str) /\ ys.length < 1000 /\ ∀ l,H l = none -> Q (.ref l) (aL H l (iX X.prog X.w l (eG ys)))) \/
 ∃ p ys,xs = [.ref p] /\ dM X.K H p (ys.map V.str) /\ ys.length < 1000 /\ ∀ l,H l = none -> Q (.ref l) (aL H l (iX X.prog X.w l (eG ys)))) \/
 ∃ (p : Addr) (ys : List Int),xs = [.ref p] /\ bC X.K H p (ys.map V.int) /\ ys.length < 1000 /\ ∀ (l : Addr) (zs : List Int),H l = none -> zs.Nodup -> (∀ x,x ∈ zs ↔ x ∈ ys) -> Q (.ref l) (aL H l (SetN X.prog X.w l zs))) := ((call_setQL hc).or (call_setQT hc)).or (call_setNL hc)
theorem qH (hc : X.calm = true) : dP X (.builtin "sorted") (λ xs H Q => (∃ p zs,xs = [.ref p] /\ H p = some (iX X.prog X.w p zs) /\ zs.length < 64 /\ ∀ l gQ,H l = none -> gQ.Perm zs -> sortedS gQ = true -> Q (.ref l) (aL H l (.lst (gQ.map V.str)))) \/
 ∃ (p : Addr) (zs : List Int),xs = [.ref p] /\ H p = some (SetN X.prog X.w p zs) /\ zs.length < 64 /\ ∀ (l : Addr) (gQ : List Int),H l = none -> gQ.Perm zs -> gQ.Pairwise (· <= ·) -> Q (.ref l) (aL H l (.lst (gQ.map V.int)))) := (call_sortedQ hc).or (call_sortedN hc)
theorem eS.setOf {P : Program} {w : World} {b : Bool} {h : Heap} {a : Addr} {zs : List bP} (x : eS P w b h a zs) : h.SetOf (bH P w) a (λ k => decide (k ∈ zs)) zs.length := by
 obtain ⟨o,es,ep,t,ho,hex,hd,hel,⟨us,hp,hs⟩,hnd,hb,hf,_,_⟩ := x
 have hsz : es.size = zs.length := by
  have e1 := hp.length_eq;rw [List.length_map,Array.length_toList] at e1;have e2 := hs.length;rw [List.length_map] at e2;omega
 refine ⟨o,es,ep,t,ho,hex,hd,hel,λ k => ?_,hb,hf,hsz⟩
 rw [eS.mem (P := P) (w := w) hp hs k]
 exact decide_eq_true_iff
theorem op_in_setQ : pD X (compareOp .In) (λ x y H Q => ∃ z p zs,x = .str z /\ y = .ref p /\ H p = some (iX X.prog X.w p zs) /\ Q (.bl (decide (z ∈ zs))) H) := by
 intro aA s σ H x y v u Q I rx ry h
 obtain ⟨z,p,zs,rfl,rfl,hH,q⟩ := h
 obtain ⟨t,rfl⟩ := rx
 cases ry
 have hS : eS X.prog X.w (jT X.w) s.heap p (zs.map Sum.inr) := (I.hok p _ hH).1
 exact wpAny_inSet_of (qS X.prog X.w z t) rfl hS.setOf ⟨.bl _,H,I.tok _,rfl,by rw [decide_eq_decide.mpr (oZ (z := z) (zs := zs))]; exact q⟩
theorem mt_addQ : MtM X "set.add" (λ x vs H Q => ∃ p z zs,x = .ref p /\ vs = [.str z] /\ H p = some (iX X.prog X.w p zs) /\ zs.length < 1000 /\ Q .non (aL H p (iX X.prog X.w p (if z ∈ zs then zs else zs ++ [z])))) := by
 intro aA s σ H x vs v us Q I rx rv h
 obtain ⟨p,z,zs,rfl,rfl,hH,hz,q⟩ := h
 cases rx
 obtain ⟨u,rfl,t,rfl⟩ := rv.one
 have hS : eS X.prog X.w (jT X.w) s.heap p (zs.map Sum.inr) := (I.hok p _ hH).1
 refine wpAny_call_entry PySem.F.slot_set_add hS.setOf.typeIs PySem.F.entry_set_add ?_ (PySem.F.args_set_add_2 _ _)
 refine (show wpAny _ _ (setAdd p (.str z t) >>= λ _ => ret .none) _ _ _ from wpAny_bind (kset_add (x := Sum.inr z) (u := .str z t) ⟨t,rfl⟩ hS (by rw [List.length_map]; unfold scanBound; omega) λ h' hb x => wpAny_pure ⟨_,rfl,?_⟩))
 refine ⟨.non,_,I.write (t' := s.toks + 1) (by rw [hH]; exact trivial) (.inl rfl) (λ b o' hb' e => (hb.2 b hb').trans e) x.at_ (setQ_ok (by rw [<- add_inr]; exact x)),rfl,q⟩
section
variable {o e : Expr} {es : List Expr} {to : TE} {t : TA} {name : Str} {kA gZ : Pos} {id : String} {r : V -> List V -> Hp -> VK -> Prop}
def tBMQ (P : Program) (w : World) (r : V -> List V -> Hp -> VK -> Prop) (to : TE) (t : TA) : TE := λ σ H Q => to σ H λ x H1 => (∃ p zs,x = .ref p /\ H1 p = some (iX P w p zs)) /\ t σ H1 λ xs H2 => r x xs H2 Q
theorem pe_bmQ (slot : Slot "set" name id) (hty : typeOf (.builtin id) = pure (.type "method_descriptor")) (hm : MtM X id r) (ho : PE X o to) (ha : PA X (e :: es) t)
 (hbase : attributeBase o name X.env (eval o X.env) = eval o X.env := by rfl)
 (hfew : ((backTo gZ (starEach (e :: es) X.env)).all (λ x => !x.1) && (backToKw gZ (keywordEach [] X.env)).all (λ x => x.1.isSome) && decide ((e :: es).length + ([] : List Keyword).length + (if ([] : List Keyword).isEmpty then 0 else 1) < 30)) = true := by rfl)
 (hline : (kA.endLine == gZ.line) = true := by rfl) (hs : starEach (e :: es) X.env = (false,eval e X.env) :: starEach es X.env := by rfl) (hplain : (backTo gZ (starEach es X.env)).any (·.1) = false := by rfl) :
 PE X (.Call (.Attribute o name kA) (e :: es) [] gZ) (tBMQ X.prog X.w r to t) := by
 intro aA s σ H Q I h
 refine wpAny_Call_method_late hbase hfew hline rfl (cP (ho aA s σ H _ I h) λ v s1 ⟨x,H1,I1,r1,⟨p,zs,ep,hH⟩,q1⟩ => ?_)
 subst ep
 cases r1
 have hS : eS X.prog X.w (jT X.w) s1.heap p (zs.map Sum.inr) := (I1.hok p _ hH).1
 refine ⟨"set",id,PySem.F.plainAttrs_set,slot,hty,hS.setOf.typeIs,hS.setOf.noDict,?_⟩
 have hA := ha gZ aA s1 σ H1 _ I1 q1
 rw [hs] at hA ⊢
 refine Calls.callWith_builtin (by show (false || (backTo gZ (starEach es X.env)).any (·.1)) = false; rw [hplain] <;> rfl) (Calls.evalArgs_plain (cP hA λ us s2 ⟨vs,H2,I2,r2,q2⟩ => hm aA s2 σ H2 (.ref p) vs _ us Q I2 rfl r2 q2))
end
end L2
namespace TX
open PySem PySem.Builtin.Str PySem.Calls
section
variable {prog : Program} {w : World} {A : Around} {E : Value -> Shared -> Prop} {s : Shared}
end
theorem meets_enum1 (l : Addr) (t : Tok) (items : Array Value) (n : Nat) (dct : Option Addr) (sl : Array (Option Value)) :
 Meets (Builtin.«enumerate.__new__» ⟨[.type "enumerate",.ref l],[("start",.int 1 t)]⟩) (λ _ R s => s.heap.get? l = some { cls := .type "list",dict := dct,data := .seq items n,slots := sl } /\
  R (.ok (.ret (.ref (s.heap.push { cls := .type "list_iterator",data := .fields #[.ref l,.int 0 0] }).objs.size)))
   { s with heap := (s.heap.push { cls := .type "list_iterator",data := .fields #[.ref l,.int 0 0] }).push { cls := .type "enumerate",data := .fields #[.none,.bool false,.ref s.heap.objs.size,rawInt 1,.none,.none] } }) :=
 .of_wp λ prog w A R s h => by
  obtain ⟨hp1,g1,d1,tk1,os1⟩ := s;obtain ⟨hl,hq⟩ := h;have hsub := sub_enumerate;have hL1 : Heap.IsList (Shared.heap ⟨hp1,g1,d1,tk1,os1⟩) l items := ⟨_,hl,rfl,n,rfl⟩
  wp_walk using AutoSeq1.wpAny_loadPart' hl
  refine wpAny_stack_any λ _ => wpAny_pure ?_
  split
  . rename_i c1 _ _ _ _ _
    cases (c1 == Value.type "enumerate")
    . wp_walk using AutoSeq1.wpAny_loadPart' hl,wpAny_pyIter_list hL1
      exact ⟨_,rfl,hq⟩
    . wp_walk using AutoSeq1.wpAny_loadPart' hl,wpAny_pyIter_list hL1
      exact ⟨_,rfl,hq⟩
  . wp_walk using AutoSeq1.wpAny_loadPart' hl,wpAny_pyIter_list hL1
    exact ⟨_,rfl,hq⟩
end TX
namespace TX
open PySem PySem.Builtin.Str PySem.Calls
section
variable {prog : Program} {w : World} {A : Around} {E : Value -> Shared -> Prop} {s : Shared}
theorem kw_check (a : Value) (t : Tok) : checkTypeCall "enumerate" ⟨[a],[("start",.int 1 t)]⟩ = pure () := by kernel_rfl
theorem kw_new (a : Value) (t : Tok) : checkBuiltinCall "enumerate.__new__" ⟨[.type "enumerate",a],[("start",.int 1 t)]⟩ = pure () := by kernel_rfl
theorem kw_init (a b : Value) (t : Tok) : argsOk "object.__init__" ⟨[a,b],[("start",.int 1 t)]⟩ := by
 unfold argsOk
 rw [signature?_of (id := "object.__init__") (n := "__init__".toList.reverse) (o := "object".toList.reverse) (by kernel_rfl) F.owner_object]
 kernel_rfl
theorem init_kw {T newId : String} {self b : Value} {t : Tok} (hl : typeLookup (.type T) "__init__" = pure (some (.builtin "object.__init__"))) (hm : Bind.madeBy (.type T) = pure (some newId)) (iQ : (some newId != some "object.__new__") = true) :
 Meets (Builtin.«object.__init__» ⟨[self,b],[("start",.int 1 t)]⟩) (λ _ R s => s.TypeIs self T /\ R (.ok (.ret .none)) s) := by
 refine Meets.of_wp λ prog w A R s ⟨hT,hq⟩ => ?_
 repeat any_goals first | assumption | wp_step
 exact ⟨_,rfl,hq⟩
theorem call_enum1 {l : Addr} {items : Array Value} {t : Tok} {Q : Value -> Shared -> Prop} (hL : s.heap.IsList l items)
 (h : ∀ h',IsEnum h' (s.heap.objs.size + 1) s.heap.objs.size 1 .none -> h'.IsListIter s.heap.objs.size l 0 -> (∀ b o,s.heap.get? b = some o -> h'.get? b = some o) -> Q (.ref (s.heap.objs.size + 1)) { s with heap := h' }) :
 wpAny (model prog w) A (call (.type "enumerate") [.ref l] [("start",.int 1 t)]) Q E s := by
 obtain ⟨⟨c,dct,dt,sl⟩,hl,hc,n,hd⟩ := hL
 have hc' : c = .type "list" := hc
 have hd' : dt = .seq items n := hd
 subst hc' hd'
 have ft := F.called_enumerate
 obtain ⟨c,tl,hmro⟩ := ft.mro
 have hmade := ft.made
 have hsub := ft.sub
 have hct := kw_check (.ref l) t
 have hcn := kw_new (.ref l) t
 have eO : ∀ s' : Shared,s' = { s with heap := (s.heap.push { cls := .type "list_iterator",data := .fields #[.ref l,.int 0 0] }).push { cls := .type "enumerate",data := .fields #[.none,.bool false,.ref s.heap.objs.size,rawInt 1,.none,.none] } } -> s'.TypeIs (.ref (s.heap.objs.size + 1)) "enumerate" /\ Q (.ref (s.heap.objs.size + 1)) s' := λ s' e => by
  subst e;have hz : (s.heap.push { cls := .type "list_iterator",data := .fields #[.ref l,.int 0 0] }).objs.size = s.heap.objs.size + 1 := Heap.size_push ..;have en : IsEnum ((s.heap.push { cls := .type "list_iterator",data := .fields #[.ref l,.int 0 0] }).push { cls := .type "enumerate",data := .fields #[.none,.bool false,.ref s.heap.objs.size,rawInt 1,.none,.none] }) (s.heap.objs.size + 1) s.heap.objs.size 1 .none := by
   rw [<- hz];exact Heap.get?_push_size _ rfl
  refine ⟨⟨_,en,rfl⟩,h _ en ⟨_,Heap.get?_push_of_some _ (Heap.get?_push_size _ rfl),rfl,rfl⟩ λ b o q => Heap.get?_push_of_some _ (Heap.get?_push_of_some _ q)⟩
 have hsz : (s.heap.push { cls := .type "list_iterator",data := .fields #[.ref l,.int 0 0] }).objs.size = s.heap.objs.size + 1 := Heap.size_push ..
 refine wpAny_call (codeAny_of_tree ?_)
 show wpAny _ _ (callAny (.type "enumerate") _) _ _ _
 refine wpAny_pure ⟨Code.quiet_builtin _ (by decide +kernel),codeAny_builtin F.entry_type_call ?_⟩
 rw [Around.under_plain (weight_type_call_type "enumerate" [.ref l] [("start",.int 1 t)]) (units_type_call_type "enumerate" [.ref l] [("start",.int 1 t)])]
 have h1 := ft.notType
 have h2 := ft.canCreate
 repeat any_goals first | assumption | wp_step
 refine codeAny_mono (?_ : codeAny _ _ _ (λ r s' => r = .ok (.ret (.ref (s.heap.objs.size + 1))) /\ s'.TypeIs (.ref (s.heap.objs.size + 1)) "enumerate" /\ Q (.ref (s.heap.objs.size + 1)) s') _) λ r s₁ hr => ?_
 . have hN := meets_enum1 l t items n dct sl prog w A.in1 (λ r s' => r = .ok (.ret (.ref (s.heap.objs.size + 1))) /\ s'.TypeIs (.ref (s.heap.objs.size + 1)) "enumerate" /\ Q (.ref (s.heap.objs.size + 1)) s') s ⟨hl,by rw [hsz]; exact ⟨rfl,eO _ rfl⟩⟩;exact codeAny_call_builtin ft.plain F.entry_enumerate_new (wpAny_of_eq hcn hN)
 . obtain ⟨rfl,hT,hq⟩ := hr;have hli := ft.init.lookup;have hbi := ft.init.bind (.ref (s.heap.objs.size + 1))
   repeat any_goals first | assumption | wp_step
   refine codeAny_mono (?_ : codeAny _ _ _ (λ r s' => r = .ok (.ret .none) /\ Q (.ref (s.heap.objs.size + 1)) s') _) λ r₂ s₂ hr₂ => ?_
   . have hI := init_kw (T := "enumerate") (self := .ref (s.heap.objs.size + 1)) (b := .ref l) (t := t) ft.init.lookup ft.made (by decide) prog w A.in1 (λ r s' => r = .ok (.ret .none) /\ Q (.ref (s.heap.objs.size + 1)) s') s₁ ⟨hT,rfl,hq⟩;exact codeAny_call_builtin ft.init.plain F.entry_object_init (ft.init.check _ _ _ _ _ _ _ _ hT (kw_init _ _ _) hI)
   obtain ⟨rfl,hq2⟩ := hr₂
   repeat any_goals first | assumption | wp_step
end
theorem draws1 {prog : Program} {w : World} {A : Around} (hh : A.handled = none) (it l : Addr) (iQ : l ≠ it) (items : Array Value) :
 Draws prog w A it [it,l] (items.size + 1) (λ k x => 1 <= k /\ items[k - 1]? = some x) (λ k h => 1 <= k /\ h.IsListIter it l (k - 1) /\ h.IsList l items) where
 live := λ k h ⟨_,⟨o,e,_⟩,_⟩ => ⟨o,e⟩
 frame := λ k h h' ⟨h1,h2,h3⟩ kp => ⟨h1,h2.at λ o q => kp it (by simp) o q,by
  obtain ⟨o,e,r⟩ := h3;exact ⟨o,kp l (by simp) o e,r⟩⟩
 item := λ k s Q E hk ⟨h1,h2,h3⟩ hQ => by
  have fR : k - 1 < items.size := by omega
  have hx : items[k - 1]? = some items[k - 1] := Array.getElem?_eq_getElem fR;refine wpAny_nextOf_list_item h2 h3 hx λ h' li sb => hQ _ h' s.toks ⟨h1,hx⟩ ⟨by omega,?_,?_⟩ sb
  . rw [show k + 1 - 1 = k - 1 + 1 by omega];exact li
  . obtain ⟨o,e,r⟩ := h3;exact ⟨o,(sb.2 l iQ).trans e,r⟩
 done := λ s Q E ⟨h1,h2,h3⟩ hE => wpAny_nextOf_list_end hh h2 h3 (Array.getElem?_eq_none (by omega)) λ h' e eb he => hE h' e eb he
theorem draws_end {prog : Program} {w : World} {A : Around} (hh : A.handled = none) (it l : Addr) (items : Array Value) (i : Nat) (hi : items.size <= i) :
 Draws prog w A it [it,l] (i + 1) (λ _ _ => True) (λ k h => k = i + 1 /\ h.IsListIter it l i /\ h.IsList l items) where
 live := λ k h ⟨_,⟨o,e,_⟩,_⟩ => ⟨o,e⟩
 frame := λ k h h' ⟨h1,h2,h3⟩ kp => ⟨h1,h2.at λ o q => kp it (by simp) o q,by
  obtain ⟨o,e,r⟩ := h3;exact ⟨o,kp l (by simp) o e,r⟩⟩
 item := λ k s Q E hk ⟨h1,_,_⟩ _ => absurd h1 (Nat.ne_of_lt hk)
 done := λ s Q E ⟨_,h2,h3⟩ hE => wpAny_nextOf_list_end hh h2 h3 (Array.getElem?_eq_none hi) λ h' e eb he => hE h' e eb he
end TX
namespace L2
open PySem PySem.Spec PyProof.Rows
variable {X : Cx}
def Ite1 (K : W.Frag) (a : Addr) : It :=
 ⟨λ i H => ∃ xs x,bC K H a xs /\ xs[i]? = some x,λ i H v H' => ∃ T,H T = none /\ v = .ref T /\ ∀ xs,bC K H a xs -> ∃ x,xs[i]? = some x /\ H' = aL H T (.tup [.int (i + 1),x]),λ i H => ∃ xs,bC K H a xs /\ xs.length <= i⟩
theorem turn_enum1 {P : Program} {w : World} {K : W.Frag} {elts : List Expr} {k : Nat} {pos : Pos} (a e it : Addr) (iQ : e ≠ it) (hai : a ≠ it) (hae : a ≠ e) : qY P w K (.Tuple elts k pos) (Ite1 K a) [e,it] e (λ i h => (∃ jD,IsEnum h e it ((i : Int) + 1) jD) /\ h.IsListIter it a i) where
 mem := by simp
 obj := λ i h st b hb => by
  obtain ⟨⟨jD,he⟩,o,ho,c,d⟩ := st
  rcases List.mem_cons.mp hb with z | z
  . subst z;exact ⟨_,he,λ v q => by
     have q' : Data.fields _ = Data.cell v := q;cases q'⟩
  . have z' : b = it := by simpa using z
    subst z';exact ⟨o,ho,λ v q => by rw [d] at q; cases q⟩
 keep := λ i h h' st kk => by
  obtain ⟨⟨jD,he⟩,hl⟩ := st;exact ⟨⟨jD,kk e (by simp) _ he⟩,hl.at λ o q => kk it (by simp) o q⟩
 item := by
  intro X hP hw hK hc i aA s σ H E I hf st hg;subst hP hw hK;obtain ⟨xs,x,hq,hx⟩ := hg;obtain ⟨⟨jD,he⟩,hl⟩ := st;obtain ⟨bJ,rv,pl,hz⟩ := I.list hq;obtain ⟨u,hu,ru⟩ := rv.get hx;have fR : i < bJ.toArray.size := by
   have := (List.getElem?_eq_some_iff.mp hu).1;simpa using this
  have D := TX.draws1 (prog := X.prog) (w := X.w) (A := X.A.in1) (I.ok.hd hc) it a hai bJ.toArray;refine wpAny_pyNext_enum_itemD (i := i + 1) D he ⟨by omega,hl,pl.isList⟩ (by omega) iQ (by simp; exact ⟨iQ,Ne.symm hae⟩) λ x' h' tk px eo st' tp hsz kk => ?_;have ex : x' = u := by
   have p2 := px.2;rw [Nat.add_sub_cancel] at p2;have hu' : bJ.toArray[i]? = some u := by simpa using hu
   exact Option.some.inj (p2.symm.trans hu')
  subst ex;refine ⟨_,rfl,wpAny_letOwnedTupleGo_enum (s := { s with heap := h',toks := tk + 1 }) eo λ h2 en sb => ?_⟩;have hTe : s.heap.objs.size ≠ e := Nat.ne_of_gt (Heap.lt_size he);have hs' : h2.get? s.heap.objs.size = some { cls := .type "tuple",data := .seq #[.int ((i + 1 : Nat) : Int) tk,x'] } := (sb.2 _ hTe).trans tp;have kp : ∀ b ob,b ∉ [e,it] -> s.heap.get? b = some ob -> h2.get? b = some ob := λ b ob hb q => by
   have h1 : b ≠ e := λ z => hb (by simp [z]);have h2' : b ≠ it := λ z => hb (by simp [z]);exact (sb.2 b h1).trans (kk b ob h1 h2' q)
  have I2 : aR X aA σ (aL H s.heap.objs.size (.tup [.int (i + 1),x])) { s with heap := h2,toks := tk + 1 } := I.turnLaid (o := .tup [.int (i + 1),x]) (t' := tk + 1) hf kp (Nat.le_refl _)
   ⟨by show 2 <= sizeLine; rw [sizeLine_eq]; decide,[.int ((i + 1 : Nat) : Int) tk,x'],.cons ⟨_,rfl⟩ (.cons ru .nil),⟨_,hs',rfl,_,rfl⟩⟩
  refine ⟨.ref s.heap.objs.size,_,I2,rfl,⟨_,I.fresh,rfl,λ ys hy => ⟨x,by rw [I.list_inj hy hq]; exact hx,rfl⟩⟩,⟨⟨_,en⟩,?_⟩,λ b hb => ?_⟩
  . have li := st'.2.1;rw [Nat.add_sub_cancel] at li;exact li.extBut sb.extBut (Ne.symm iQ)
  . have fR : b ≠ s.heap.objs.size := by
     obtain ⟨o,ho,_⟩ : ∃ o,s.heap.get? b = some o /\ True := by
      rcases List.mem_cons.mp hb with z | z
      . subst z; exact ⟨_,he,trivial⟩
      . have z' : b = it := by simpa using z
        subst z';obtain ⟨o,ho,_⟩ := hl;exact ⟨o,ho,trivial⟩
     exact Nat.ne_of_lt (Heap.lt_size ho)
    rw [aH fR];exact (hf b hb).1
 done := by
  intro X hP hw hK hc i aA s σ H E I hf st hg;subst hP hw hK;obtain ⟨xs,hq,hx⟩ := hg;obtain ⟨⟨jD,he⟩,hl⟩ := st;obtain ⟨bJ,rv,pl,hz⟩ := I.list hq;have cE := rv.length;have D := TX.draws_end (prog := X.prog) (w := X.w) (A := X.A.in1) (I.ok.hd hc) it a bJ.toArray i (by simp; omega);exact wpAny_pyNext_enum_endD D he ⟨rfl,hl,pl.isList⟩ λ h' eb => ⟨rfl,I.turnedL (t' := s.toks) hf λ b ob hb q => eb b ob (λ z => hb (by simp [z])) q⟩
 self := λ A i s Q E st h => by
  obtain ⟨⟨jD,he⟩,_⟩ := st;exact wpAny_pyIter_enum he h
def iEnum1 (K : W.Frag) (ta : TA) : TI := λ σ H R => ta σ H λ vs H1 => ∃ a,vs = [.ref a] /\ (∃ xs,bC K H1 a xs) /\ R (Ite1 K a) H1
theorem pi_enum1 {X : Cx} {elts : List Expr} {k : Nat} {tpos : Pos} {l : Expr} {ta : TA} {p pos kpos : Pos} {j : Nat} {gZ : Pos} (hg : Gl X "enumerate") (hm : X.mg "enumerate" = none) (ha : PA X [l] ta) (hs : starEach [l] X.env = [(false,eval l X.env)] := by rfl) :
 PI X (.Tuple elts k tpos) (.Call (.Name "enumerate" p) [l] [⟨some "start",.Constant (.int 1) j gZ,kpos⟩] pos) (iEnum1 X.K ta) := by
 intro aA s σ H R I h
 refine wpAny_Call_Name_kw (nV I hg hm (show bootBuiltins "enumerate" = some (.type "enumerate") by decide +kernel) ?_)
 refine PySem.W.callWith_of (P := λ h => X.K.In h) (by rw [hs]; rfl) (λ h _ => ⟨.machine,.inr (.inl rfl),PySem.W.Looks.of_pure rfl⟩) (evalArgs_kw2 rfl (cP (ha pos aA s σ H _ I h) λ us s1 ⟨vs,H1,I1,r1,q1⟩ => ?_) hs)
 refine cP ((pk_cons (X := X) (nm := some "start") (kpos := kpos) aJ pk_nil) pos aA s1 σ H1 (λ zs H2 => zs = [.int 1] /\ H2 = H1) I1 ⟨rfl,rfl⟩) λ ws s2 ⟨zs,H2,I2,rz,e1,e2⟩ => ⟨I2.kIn,?_⟩
 subst e1 e2
 obtain ⟨a,e,⟨xs,hq⟩,q⟩ := q1
 subst e
 obtain ⟨u,rfl,ru⟩ := r1.one
 cases ru
 obtain ⟨w0,rfl,rw0⟩ := rz.one
 obtain ⟨t,rfl⟩ := rw0
 obtain ⟨bJ,rv,pl,hz⟩ := I2.list hq
 show wpAny _ _ (call (.type "enumerate") [.ref a] [("start",.int 1 t)]) _ _ _
 refine TX.call_enum1 pl.isList λ h' en li kk => ?_
 have I3 : aR X aA σ H2 { s2 with heap := h' } := I2.kept (t' := s2.toks) kk
 have fR : a < s2.heap.objs.size := by
  obtain ⟨o,ho,_⟩ := pl.isList;exact Heap.lt_size ho
 have T := turn_enum1 (P := X.prog) (w := X.w) (K := X.K) (elts := elts) (k := k) (pos := tpos) a (s2.heap.objs.size + 1) s2.heap.objs.size (Nat.ne_of_gt (Nat.lt_succ_self _)) (Nat.ne_of_lt fR) (Nat.ne_of_lt (Nat.lt_succ_of_lt fR))
 refine T.self X.A 0 { s2 with heap := h' } _ _ ⟨⟨_,en⟩,li⟩ ⟨_,_,_,_,H2,rfl,I3,T,⟨⟨_,en⟩,li⟩,λ b hb => ?_,q⟩
 have hb' : s2.heap.objs.size <= b := by
  rcases List.mem_cons.mp hb with z | z
  . subst z; exact Nat.le_succ _
  . have z' : b = s2.heap.objs.size := by simpa using z
    subst z'; exact Nat.le_refl _
 exact I2.fpOk hb' (I2.hok.fresh hb')
theorem comp_blockS {i : Nat} {y : Str} {py : Pos} {Dn : eL} {e : Expr} {tg : Expr} {scope : Scope} {own fr : List Str} {idx : List Nat} {aA : List (Addr × Obj)} {σ : St} {H2 : Hp} {s2 s3 : Shared} {o0 : HO} {fp : List Addr} {it : Addr} {tn : Nat -> Heap -> Prop} {J : It} {g : TG} {tc : TT} {tm : TM} {body : Env -> Sem Fin} {iR : List Expr} {p : Pos}
 (hN : X.N.Nodup) (hiy : X.N[i]? = some y) (hly : Loc X.env.scope y) (hf : X.fn y = true \/ X.env.scope.names.lookup y = some .local) (hc : X.calm = true) (S : aV own fr scope X.env.scope) (hix : idx.length = fr.length) (oA : ∀ (k : Nat) (x : Str) (j : Nat),fr[k]? = some x -> idx[k]? = some j -> X.N[j]? = some x)
 (T : qY X.prog X.w X.K tg J fp it tn) (qZ : tn 0 s2.heap) (f2 : ∀ b ∈ fp,iM X aA H2 b)
 (hs3 : ∃ o,s3 = { s2 with heap := s2.heap.push o,toks := s2.toks }) (I3 : aR X aA σ (aL H2 s2.heap.objs.size o0) s3)
 (hg : ∀ C s H aA fp,PG (bL X scope C (own ++ fr) s H aA fp) tg g) (ht : ∀ C s H aA fp,PTs (bL X scope C (own ++ fr) s H aA fp) iR tc)
 (hm : ∀ C s H aA fp,PB (bL X scope C (own ++ fr) s H aA fp) (body (bL X scope C (own ++ fr) s H aA fp).env) (.compLoop e 0 (.ref it) (.ref s2.heap.objs.size) (bL X scope C (own ++ fr) s H aA fp).env) tm)
 (hq : ∀ env,(Code.compLoop e 0 (.ref it) (.ref s2.heap.objs.size) env).quiet = true)
 (hden : ∀ env,(model X.prog X.w).den (.compLoop e 0 (.ref it) (.ref s2.heap.objs.size) env) = (turnG e 0 tg iR p (body env) (.ref it) (.ref s2.heap.objs.size) env).onRaise (λ x => do noteFrame x env; theTreesLotGoes x))
 (hun : ∀ env,X.A.under (.compLoop e 0 (.ref it) (.ref s2.heap.objs.size) env) = X.A)
 (hst : ∀ env R s,codeAny (model X.prog X.w) X.A (.compLoop e 0 (.ref it) (.ref s2.heap.objs.size) env) R s -> tn 0 s.heap -> codeAny (model X.prog X.w) X.A (.compStart e 0 (.ref it) (.ref s2.heap.objs.size) env) R s)
 (h : lL J g tc tm (λ _ H' => bO i (.ref s2.heap.objs.size) σ H' Dn.nx) (jU own.length idx σ) (aL H2 s2.heap.objs.size o0)) {E : Value -> Shared -> Prop} :
 wpAny (model X.prog X.w) X.A (newFunctionEnv scope X.env.globals (cU X.env scope.names []) [] X.env.qual none .none (some X.env)) (λ cenv s₄ =>
  codeAny (model X.prog X.w) X.A (.compStart e 0 (.ref it) (.ref s2.heap.objs.size) { cenv with scope := relabel scope X.env }) (compPost (model X.prog X.w) X.A X.xe (some (assign (.Name y py) X.env)) (λ _ s' => SP X aA Dn .next s') (.ref s2.heap.objs.size) cenv.locals) s₄) E s3 := by
 have fpl : ∀ b ∈ fp,b < s2.heap.objs.size := λ b hb => by
  obtain ⟨o,e,_⟩ := T.obj _ _ qZ b hb;exact Heap.lt_size e
 have f3 : ∀ b ∈ fp,iM X aA (aL H2 s2.heap.objs.size o0) b := λ b hb => ⟨by rw [aH (Nat.ne_of_lt (fpl b hb))]; exact (f2 b hb).1,(f2 b hb).2⟩
 obtain ⟨oo,hs3⟩ := hs3
 have hsz : s3.heap.objs.size = s2.heap.objs.size + 1 := by rw [hs3]; exact Heap.size_push _ _
 have st3 : tn 0 s3.heap := T.keep _ _ _ qZ λ b hb o e => by rw [hs3]; exact Heap.get?_push_of_some _ e
 refine wpAny_newFunctionEnv S.nocell (by intro y hy; simp at hy) (λ h4 hn4 hsb4 => ?_) S.kind
 have hk4 : ∀ b o,s3.heap.get? b = some o -> h4.get? b = some o := λ b o e => hsb4.extBut b o (Nat.ne_of_lt (Heap.lt_size e)) (Heap.get?_push_of_some _ e)
 have I4 := lA (idx := idx) (tk := s3.toks + ([] : List (Str × Value)).length) S hix oA I3 f3 (λ b hb => by rw [hsz]; exact Nat.lt_succ_of_lt (fpl b hb)) hn4 hk4
 have fpC : ∀ b ∈ fp,iM (bL X scope s3.heap.objs.size (own ++ fr) s3 (aL H2 s2.heap.objs.size o0) aA fp) [] (aL H2 s2.heap.objs.size o0) b := λ b hb => by
  obtain ⟨g0,g1,g2,g3,g4,g5⟩ := f3 b hb;refine ⟨g0,?_,λ z => ?_,.inl hb,λ x c e => g4 x c ((gP _ _ x c e).elim id λ z => nomatch z),λ p hp => ?_⟩
  . show b ≠ s3.heap.objs.size
    exact Nat.ne_of_lt (by rw [hsz]; exact Nat.lt_succ_of_lt (fpl b hb))
  . rcases List.mem_cons.mp (I3.stkSub b z) with q | q
    . exact g1 q
    . exact g2 q
  . rcases List.mem_append.mp hp with q | q
    . exact g5 p q
    . exact nomatch q
 have st4 : tn 0 h4 := T.keep _ _ _ st3 λ b _ o e => hk4 b o e
 have kY := nJ (X := bL X scope s3.heap.objs.size (own ++ fr) s3 (aL H2 s2.heap.objs.size o0) aA fp) (e := e) (depth := 0) (p := p) (acc := .ref s2.heap.objs.size) (R := compPost (model X.prog X.w) X.A X.xe (some (assign (.Name y py) X.env)) (λ _ s' => SP X aA Dn .next s') (.ref s2.heap.objs.size) s3.heap.objs.size)
  rfl hc (hq _) (hden _) (hun _) (hg _ _ _ _ _) (ht _ _ _ _ _) (hm _ _ _ _ _) T I4 st4 fpC h λ s' σ' H' I' q' => by
   obtain ⟨m6,hn6,_⟩ := id I'.loc;have hn6' : s'.heap.Ns s3.heap.objs.size m6 := hn6;obtain ⟨oC,es,ep,hoC,hrest⟩ := id hn6';have I7 : aR X aA σ H' s' := mQ (h' := s'.heap) I3 f3 I' (Heap.SameBut.refl ..);have fS : H' s3.heap.objs.size = none := I'.free;have I8 : aR X (aA ++ [(s3.heap.objs.size,oC)]) σ H' s' := I7.pins_of λ p hp => (List.mem_append.mp hp).elim (λ z => I7.pin p (List.mem_append_right _ z)) λ z => by
    have e : p = (s3.heap.objs.size,oC) := List.mem_singleton.mp z;subst e;exact ⟨hoC,fS,Nat.ne_of_gt I3.lt,I3.nofs (Nat.le_refl _),λ v ev => ns_nocell hn6' hoC v ev⟩
   refine cP (aP (pos := py) hN hiy hly hf _ s' σ H' (.ref s2.heap.objs.size) (.ref s2.heap.objs.size) _ I8 rfl q') λ _ s9 ⟨σ9,H9,I9,q9⟩ => ?_;have hp9 := I9.pin (s3.heap.objs.size,oC) (List.mem_append_right _ (List.mem_append_right _ (List.mem_singleton.mpr rfl)));refine ⟨m6,hn6'.at' λ o e => ?_,λ h' hsb => ?_⟩
   . rw [hoC] at e;cases e;exact hp9.1
   . refine ⟨σ9,H9,I9.unpinned.turnedL (ch := [s3.heap.objs.size]) (t' := s9.toks) (λ b hb => ?_) λ b ob hb e => ?_,q9⟩
     . rw [List.mem_singleton.mp hb];exact I3.fpOk (Nat.le_refl _) hp9.2.1
     . exact hsb.extBut b ob (λ z => hb (List.mem_singleton.mpr z)) e
 exact hst _ _ _ kY st4
theorem ps_setC2 {i : Nat} {y : Str} {py spos : Pos} {kN tg cZ tg2 qW : Expr} {iR if2 : List Expr} {scope : Scope} {own fr : List Str} {idx : List Nat} {wi : TI} {g : TG} {tc : TT} {wi2 : TI} {g2 : TG} {tc2 : TT} {te : TE} {pos : Pos} (hN : X.N.Nodup) (hiy : X.N[i]? = some y) (hly : Loc X.env.scope y) (hc : X.calm = true) (S : aV own fr scope X.env.scope)
 (hi : PI X tg cZ wi) (hg : ∀ C s H aA fp,PG (bL X scope C (own ++ fr) s H aA fp) tg g) (ht : ∀ C s H aA fp,PTs (bL X scope C (own ++ fr) s H aA fp) iR tc)
 (hi2 : ∀ C s H aA fp,PI (bL X scope C (own ++ fr) s H aA fp) tg2 qW wi2) (hg2 : ∀ C s H aA fp,PG (bL X scope C (own ++ fr) s H aA fp) tg2 g2) (ht2 : ∀ C s H aA fp,PTs (bL X scope C (own ++ fr) s H aA fp) if2 tc2)
 (he : ∀ C s H aA fp,PE (bL X scope C (own ++ fr) s H aA fp) kN te)
 (hix : idx.length = fr.length := by rfl) (oA : ∀ (k : Nat) (x : Str) (j : Nat),fr[k]? = some x -> idx[k]? = some j -> X.N[j]? = some x)
 (hs : ∀ x,foldedSetIterable cZ X.env x = pure x := by intro _; rfl) (hs2 : ∀ env x,foldedSetIterable qW env x = pure x := by intro _ _; rfl) (hf : X.fn y = true \/ X.env.scope.names.lookup y = some .local := by first | exact .inl rfl | exact .inr rfl)
 (hsw : swapsWith (.ListComp kN [⟨tg,cZ,iR,0⟩,⟨tg2,qW,if2,0⟩] scope pos) (some (.Name y py)) spos.line X.env = pure true := by rfl) :
 PS X (.Assign [.Name y py] (.ListComp kN [⟨tg,cZ,iR,0⟩,⟨tg2,qW,if2,0⟩] scope pos) spos) (tAsg (tComp2 wi own.length idx g tc wi2 g2 tc2 te) (bO i)) := by
 intro aA s σ H Dn I h
 rw [exec_Assign_Name_used _ _ _ _ hsw]
 refine wpAny_bind (wpAny_standAt (wpAny_bind ?_))
 show wpAny _ X.A (do let _ <- comprehension (.ListComp kN [⟨tg,cZ,iR,0⟩,⟨tg2,qW,if2,0⟩] scope pos) scope X.env _ (newList []) false (eval cZ X.env) (some (assign (.Name y py) X.env))) _ _ s
 have oV : closureFor scope X.env = pure (cU X.env scope.names []) := oQ λ x hx fS => I.ok.has x.1 (S.outs x hx fS)
 refine wpAny_bind (wpAny_mono (wpAny_comprehension_free (use := some (assign (.Name y py) X.env)) (Q := λ _ s' => SP X aA Dn .next s') rfl hs oV S.kind S.names (cP (hi aA s σ H _ I h) λ v s1 h1 => cP h1 λ itv s2 h2 => ?_)) (λ _ s' hq => wpAny_pure (wpAny_pure hq)) λ _ _ e => e)
 obtain ⟨it,fp,tn,J,H2,e,I2,T,qZ,f2,h2⟩ := h2
 subst e
 refine wpAny_newObj_type ?_
 exact comp_blockS (o0 := .lst []) (p := cZ.pos) (body := λ env => emitN (.ListComp kN [⟨tg,cZ,iR,0⟩,⟨tg2,qW,if2,0⟩] scope pos) 1 qW (.ref s2.heap.objs.size) env (.compLoop (.ListComp kN [⟨tg,cZ,iR,0⟩,⟨tg2,qW,if2,0⟩] scope pos) 0 (.ref it) (.ref s2.heap.objs.size) env)) hN hiy hly hf hc S hix oA T qZ f2 ⟨_,rfl⟩ (I2.lnew (t' := s2.toks) .nil (Nat.zero_le _)) hg ht
  (λ C s H aA fp => pm_nest rfl hc (hi2 C s H aA fp) (hg2 C s H aA fp) (ht2 C s H aA fp) (he C s H aA fp) (hs2 _)) (λ _ => rfl) (λ _ => rfl) (λ _ => rfl)
  (λ env R s lo st => codeAny_compStart_list lo (T.self _ 0 _ _ _ st lo)) (h2 s2.heap.objs.size I2.fresh)
theorem lats2 {t1 t2 : TS} {D : eL} {σ : St} {H : Hp} (h : let D0 : eL := D; let σ0 : St := σ; let U2 : TS := t2; bV t1 U2 D0 σ0 H) : (bV t1 t2) D σ H := h
theorem qU {t1 t2 t3 : TS} {D : eL} {σ : St} {H : Hp} (h : let D0 : eL := D; let σ0 : St := σ; let U3 : TS := t3; let U2 : TS := bV t2 U3; bV t1 U2 D0 σ0 H) : (bV t1 (bV t2 t3)) D σ H := h
theorem lats4 {t1 t2 t3 t4 : TS} {D : eL} {σ : St} {H : Hp} (h : let D0 : eL := D; let σ0 : St := σ; let U4 : TS := t4; let U3 : TS := bV t3 U4; let U2 : TS := bV t2 U3; bV t1 U2 D0 σ0 H) : (bV t1 (bV t2 (bV t3 t4))) D σ H := h
theorem lats5 {t1 t2 t3 t4 t5 : TS} {D : eL} {σ : St} {H : Hp} (h : let D0 : eL := D; let σ0 : St := σ; let U5 : TS := t5; let U4 : TS := bV t4 U5; let U3 : TS := bV t3 U4; let U2 : TS := bV t2 U3; bV t1 U2 D0 σ0 H) : (bV t1 (bV t2 (bV t3 (bV t4 t5)))) D σ H := h
theorem lats6 {t1 t2 t3 t4 t5 t6 : TS} {D : eL} {σ : St} {H : Hp} (h : let D0 : eL := D; let σ0 : St := σ; let U6 : TS := t6; let U5 : TS := bV t5 U6; let U4 : TS := bV t4 U5; let U3 : TS := bV t3 U4; let U2 : TS := bV t2 U3; bV t1 U2 D0 σ0 H) : (bV t1 (bV t2 (bV t3 (bV t4 (bV t5 t6))))) D σ H := h
theorem lats7 {t1 t2 t3 t4 t5 t6 t7 : TS} {D : eL} {σ : St} {H : Hp} (h : let D0 : eL := D; let σ0 : St := σ; let U7 : TS := t7; let U6 : TS := bV t6 U7; let U5 : TS := bV t5 U6; let U4 : TS := bV t4 U5; let U3 : TS := bV t3 U4; let U2 : TS := bV t2 U3; bV t1 U2 D0 σ0 H) : (bV t1 (bV t2 (bV t3 (bV t4 (bV t5 (bV t6 t7)))))) D σ H := h
theorem lats8 {t1 t2 t3 t4 t5 t6 t7 t8 : TS} {D : eL} {σ : St} {H : Hp} (h : let D0 : eL := D; let σ0 : St := σ; let U8 : TS := t8; let U7 : TS := bV t7 U8; let U6 : TS := bV t6 U7; let U5 : TS := bV t5 U6; let U4 : TS := bV t4 U5; let U3 : TS := bV t3 U4; let U2 : TS := bV t2 U3; bV t1 U2 D0 σ0 H) : (bV t1 (bV t2 (bV t3 (bV t4 (bV t5 (bV t6 (bV t7 t8))))))) D σ H := h
theorem latg2 {t1 t2 : TS} {D : eL} {σ : St} {H : Hp} {i : Nat} {v : V} (h : let D0 : eL := D; let σ0 : St := σ.set i (some v); let U2 : TS := t2; bV t1 U2 D0 σ0 H) : bO i v σ H λ σ2 H2 => (bV t1 t2) D σ2 H2 := h
theorem latg3 {t1 t2 t3 : TS} {D : eL} {σ : St} {H : Hp} {i : Nat} {v : V} (h : let D0 : eL := D; let σ0 : St := σ.set i (some v); let U3 : TS := t3; let U2 : TS := bV t2 U3; bV t1 U2 D0 σ0 H) : bO i v σ H λ σ2 H2 => (bV t1 (bV t2 t3)) D σ2 H2 := h
theorem latg7 {t1 t2 t3 t4 t5 t6 t7 : TS} {D : eL} {σ : St} {H : Hp} {i : Nat} {v : V} (h : let D0 : eL := D; let σ0 : St := σ.set i (some v); let U7 : TS := t7; let U6 : TS := bV t6 U7; let U5 : TS := bV t5 U6; let U4 : TS := bV t4 U5; let U3 : TS := bV t3 U4; let U2 : TS := bV t2 U3; bV t1 U2 D0 σ0 H) : bO i v σ H λ σ2 H2 => (bV t1 (bV t2 (bV t3 (bV t4 (bV t5 (bV t6 t7)))))) D σ2 H2 := h
theorem kJ (names : List (Str × NameKind)) : ∀ (k : Nat) (acc : List (Str × Addr)),cellsFrom k names acc = cellsFrom k names [] ++ acc := by
 induction names with
 | nil => intro k acc; rfl
 | cons p r ih =>
  intro k acc;obtain ⟨x,kd⟩ := p;simp only [cellsFrom];cases (kd == NameKind.cell) with
  | true => rw [if_pos rfl,if_pos rfl,ih (k + 1) ((x,k) :: acc),ih (k + 1) [(x,k)],List.append_assoc]; rfl
  | false => rw [if_neg Bool.false_ne_true,if_neg Bool.false_ne_true]; exact ih k acc
theorem jM (names : List (Str × NameKind)) : ∀ (k : Nat) (n : Str) (c : Addr),(n,c) ∈ cellsFrom k names [] -> k <= c /\ (n,NameKind.cell) ∈ names := by
 induction names with
 | nil => intro k n c h; cases h
 | cons p r ih =>
  intro k n c h;obtain ⟨x,kd⟩ := p;simp only [cellsFrom] at h
  by_cases hk : (kd == NameKind.cell) = true
  . rw [if_pos hk,kJ] at h
    rcases List.mem_append.mp h with z | z
    . obtain ⟨h1,h2⟩ := ih (k + 1) n c z;exact ⟨by omega,.tail _ h2⟩
    . cases List.mem_singleton.mp z;rw [eq_of_beq hk];exact ⟨Nat.le_refl _,.head _⟩
  . rw [if_neg hk] at h;obtain ⟨h1,h2⟩ := ih k n c h;exact ⟨h1,.tail _ h2⟩
theorem oN {α : Type} (n : Str) (ys : List (Str × α)) : ∀ xs : List (Str × α),(xs ++ ys).lookup n = (xs.lookup n).or (ys.lookup n)
 | [] => rfl
 | p :: xs => by
  obtain ⟨k,v⟩ := p;rw [List.cons_append,List.lookup_cons,List.lookup_cons];cases n == k with
  | true => rfl
  | false => exact oN n ys xs
theorem nK (names : List (Str × NameKind)) (k : Nat) (acc : List (Str × Addr)) {n : Str} {c : Addr} (h : (cellsFrom k names acc).lookup n = some c) : (k <= c /\ (n,NameKind.cell) ∈ names) \/ acc.lookup n = some c := by
 rw [kJ,oN] at h
 cases e : (cellsFrom k names []).lookup n with
 | none => rw [e] at h; exact .inr h
 | some d => rw [e] at h; cases h; exact .inl (jM names k n c (PySem.mem_of_lookup e))
theorem pV (names : List (Str × NameKind)) (k : Nat) (acc : List (Str × Addr)) {n : Str} (h : (n,NameKind.cell) ∉ names) : (cellsFrom k names acc).lookup n = acc.lookup n := by
 rw [kJ,oN]
 cases e : (cellsFrom k names []).lookup n with
 | none => rfl
 | some d => exact absurd (jM names k n d (PySem.mem_of_lookup e)).2 h
structure jL (s₀ : Shared) (L : Addr) (m : Str -> Option Value) (kd : Str -> Option NameKind) (cs : List (Str × Addr)) (cm : Str -> Option Value) (s : Shared) : Prop where
 toInCall : InCall s₀ L m s
 cell : ∀ n c,List.lookup n cs = some c -> Heap.IsCell s.heap c (cm n)
 apart : List.Pairwise (λ x y : Str × Addr => x.2 ≠ y.2) cs
 off : ∀ n c,List.lookup n cs = some c -> c ≠ L
 new : ∀ n c,kd n = some .cell -> List.lookup n cs = some c -> L < c
theorem bindL_snoc (kd : Str -> Option NameKind) (p : Str × Value) : ∀ (bs : List (Str × Value)) (m : Str -> Option Value),bindL kd (bs ++ [p]) m = bindL kd [p] (bindL kd bs m)
 | [],_ => rfl
 | _ :: bs,_ => bindL_snoc kd p bs _
theorem bindC_snoc (kd : Str -> Option NameKind) (p : Str × Value) : ∀ (bs : List (Str × Value)) (m : Str -> Option Value),bindC kd (bs ++ [p]) m = bindC kd [p] (bindC kd bs m)
 | [],_ => rfl
 | _ :: bs,_ => bindC_snoc kd p bs _
section
variable {M : Model} {A : Around}
theorem jL.bind {E : Value -> Shared -> Prop} {Q : Unit -> Shared -> Prop} {s₀ s : Shared} {env : Env} {m cm : Str -> Option Value} {n : Str} {v : Value} (x : jL s₀ env.locals m env.kindOf env.cells cm s) (hk : env.scope.kind = .function)
 (hn : env.kindOf n = some .local \/ (env.kindOf n = some .cell /\ ∃ c,env.cells.lookup n = some c))
 (h : ∀ s',jL s₀ env.locals (bindL env.kindOf [(n,v)] m) env.kindOf env.cells (bindC env.kindOf [(n,v)] cm) s' -> Q () s') : wpAny M A (storeName env n v) Q E s := by
 have jD : ∀ {b : Addr} {o : Obj},s₀.heap.get? b = some o -> b < env.locals := λ e => Nat.lt_of_lt_of_le (Heap.lt_size e) x.toInCall.fresh
 obtain ⟨g,tk,es⟩ := x.toInCall.same
 rcases hn with hl | ⟨hl,c,hc⟩
 . have e1 : bindL env.kindOf [(n,v)] m = λ y => if y = n then some v else m y := if_pos hl
   have e2 : bindC env.kindOf [(n,v)] cm = cm := if_pos hl;rw [e1,e2] at h;refine wpAny_storeName_local hl x.toInCall.ns (λ g' ns sb => h _ ?_) (by rw [hk]; rfl);refine ⟨⟨⟨g',_,by rw [es]⟩,ns,λ b o e => ?_,x.toInCall.fresh⟩,λ y d hd => ?_,x.apart,x.off,x.new⟩
   . exact (sb.2 b (Nat.ne_of_lt (jD e))).trans (x.toInCall.keep b o e)
   . exact Heap.IsCell.sameBut (x.cell y d hd) sb (x.off y d hd)
 . have nl : ¬ env.kindOf n = some .local := λ z => by rw [hl] at z; cases z
   have e1 : bindL env.kindOf [(n,v)] m = m := if_neg nl;have e2 : bindC env.kindOf [(n,v)] cm = λ y => if y = n then some v else cm y := if_neg nl
   rw [e1,e2] at h;have lt := x.new n c hl hc;refine wpAny_storeName_cell hk hl hc (x.cell n c hc) λ g' ce sb => h _ ?_;refine ⟨⟨⟨g',_,by rw [es]⟩,Heap.Ns.sameBut x.toInCall.ns sb (Nat.ne_of_lt lt),λ b o e => ?_,x.toInCall.fresh⟩,λ y d hd => ?_,x.apart,x.off,x.new⟩
   . exact (sb.2 b (Nat.ne_of_lt (Nat.lt_trans (jD e) lt))).trans (x.toInCall.keep b o e)
   . show Heap.IsCell g' d (if y = n then some v else cm y)
     split
     . rename_i z
       subst z;rw [hc] at hd;cases hd;exact ce
     . rename_i z
       exact Heap.IsCell.sameBut (x.cell y d hd) sb λ e => z (name_of_addr x.apart (PySem.mem_of_lookup hd) (by rw [e]; exact PySem.mem_of_lookup hc))
theorem newEnvD {E : Value -> Shared -> Prop} {s : Shared} {scope : Scope} {globals : Addr} {clos : List (Str × Addr)} {binds : List (Str × Value)} {qual : Str} {func : Option Addr} {code : Value} {builtins : Addr} {cv : Str -> Option Value} {Q : Env -> Shared -> Prop}
 (hk : scope.kind = .function) (hc : ∀ n c,(n,c) ∈ clos -> s.heap.IsCell c (cv n)) (hp : clos.Pairwise λ x y => x.2 ≠ y.2) (hn : ∀ n c,(n,c) ∈ clos -> (n,NameKind.cell) ∉ scope.names)
 (oY : ∀ x ∈ binds,scope.names.lookup x.1 = some .local \/ (scope.names.lookup x.1 = some .cell /\ ((cellsFrom (s.heap.objs.size + 1) scope.names clos).lookup x.1).isSome = true))
 (hQ : ∀ env,env = newEnv scope s.heap.objs.size globals (cellsFrom (s.heap.objs.size + 1) scope.names clos) qual func code none builtins ->
  ∀ s',jL s env.locals (bindL env.kindOf binds λ _ => none) env.kindOf env.cells (bindC env.kindOf binds λ n => if (n,NameKind.cell) ∈ scope.names then none else cv n) s' -> Q env s') :
 wpAny M A (newFunctionEnv scope globals clos binds qual func code none builtins) Q E s := by
 have own : CellsOk (pushCells (s.heap.push { cls := .type "frame",data := .dict #[] }) scope.names) (s.heap.objs.size + 1) (cellsFrom (s.heap.objs.size + 1) scope.names []) := by
  have q := cellsFrom_ok scope.names (s.heap.push { cls := .type "frame",data := .dict #[] }) (s.heap.objs.size + 1) [] ⟨(λ _ _ z => by cases z),.nil⟩ (Nat.le_of_eq (Heap.size_push ..).symm)
  rwa [Heap.size_push] at q
 have stay : ∀ b o,s.heap.get? b = some o -> (pushCells (s.heap.push { cls := .type "frame",data := .dict #[] }) scope.names).get? b = some o := λ b o e => pushCells_keeps scope.names _ b o (Heap.get?_push_of_some _ e)
 have lows : ∀ p ∈ clos,p.2 < s.heap.objs.size := λ p hm => Heap.IsCell.lt (hc p.1 p.2 hm)
 have start : jL s s.heap.objs.size (λ _ => none) (newEnv scope s.heap.objs.size globals (cellsFrom (s.heap.objs.size + 1) scope.names clos) qual func code none builtins).kindOf (cellsFrom (s.heap.objs.size + 1) scope.names clos) (λ n => if (n,NameKind.cell) ∈ scope.names then none else cv n)
  { s with heap := pushCells (s.heap.push { cls := .type "frame",data := .dict #[] }) scope.names } := by
  refine ⟨⟨⟨_,s.toks,rfl⟩,Heap.Ns.keeps (Heap.Ns.new s.heap (.type "frame")) (pushCells_keeps scope.names _),stay,Nat.le_refl _⟩,λ n c hl => ?_,?_,λ n c hl => ?_,λ n c hkd hl => ?_⟩
  . rw [kJ,oN] at hl;cases e : (cellsFrom (s.heap.objs.size + 1) scope.names []).lookup n with
    | some d =>
     rw [e] at hl;cases hl;rw [if_pos (jM _ _ _ _ (PySem.mem_of_lookup e)).2];exact (own.empty n c (PySem.mem_of_lookup e)).1
    | none =>
     rw [e] at hl;have hm := PySem.mem_of_lookup (show clos.lookup n = some c from hl);rw [if_neg (hn n c hm)];exact Heap.IsCell.keeps (hc n c hm) stay
  . rw [kJ];exact List.pairwise_append.mpr ⟨own.apart,hp,λ a ha b hb z => by
     have h1 := (jM _ _ a.1 a.2 ha).1;have h2 := lows b hb;rw [<- z] at h2;exact absurd (Nat.lt_of_lt_of_le (Nat.lt_succ_self _) h1) (Nat.lt_asymm h2)⟩
  . rcases nK _ _ _ hl with ⟨z,_⟩ | z
    . exact Nat.ne_of_gt (Nat.lt_of_lt_of_le (Nat.lt_succ_self _) z)
    . exact Nat.ne_of_lt (lows (n,c) (PySem.mem_of_lookup z))
  . rcases nK _ _ _ hl with ⟨z,_⟩ | z
    . exact Nat.lt_of_lt_of_le (Nat.lt_succ_self _) z
    . exact absurd (PySem.mem_of_lookup (show scope.names.lookup n = some .cell from hkd)) (hn n c (PySem.mem_of_lookup z))
 simp only [newFunctionEnv,Option.isSome_none,Bool.false_eq_true,if_false]
 refine wpAny_bind (wpAny_alloc (wpAny_bind (wpAny_layCells _ (λ y kd cs => by by_cases z : (kd == NameKind.cell) = true <;> simp [z]) scope.names clos _ _ ?_)))
 have sz : ({ s with heap := s.heap.push { cls := .type "frame",data := .dict #[] } } : Shared).heap.objs.size = s.heap.objs.size + 1 := Heap.size_push ..
 rw [sz]
 refine wpAny_bind (wpAny_forIn_list _ (λ rest (_ : PUnit) s' => ∃ done,binds = done ++ rest /\ jL s s.heap.objs.size (bindL (newEnv scope s.heap.objs.size globals (cellsFrom (s.heap.objs.size + 1) scope.names clos) qual func code none builtins).kindOf done λ _ => none) (newEnv scope s.heap.objs.size globals (cellsFrom (s.heap.objs.size + 1) scope.names clos) qual func code none builtins).kindOf (cellsFrom (s.heap.objs.size + 1) scope.names clos)
  (bindC (newEnv scope s.heap.objs.size globals (cellsFrom (s.heap.objs.size + 1) scope.names clos) qual func code none builtins).kindOf done λ n => if (n,NameKind.cell) ∈ scope.names then none else cv n) s') _ ?_ ?_ binds _ ⟨[],rfl,start⟩)
 . rintro ⟨n,v⟩ rest _ s' ⟨done,hd,x⟩;refine wpAny_bind (jL.bind (env := newEnv scope s.heap.objs.size globals (cellsFrom (s.heap.objs.size + 1) scope.names clos) qual func code none builtins) x hk ?_ λ s'' x' => wpAny_pure ⟨done ++ [(n,v)],by rw [hd,List.append_assoc]; rfl,?_⟩)
   . rcases oY (n,v) (by rw [hd]; exact List.mem_append.mpr (.inr (.head _))) with z | ⟨z,y⟩
     . exact .inl z
     . exact .inr ⟨z,Option.isSome_iff_exists.mp y⟩
   . rw [bindL_snoc,bindC_snoc]; exact x'
 . rintro _ s' ⟨done,hd,x⟩;rw [List.append_nil] at hd;subst hd;exact wpAny_pure (hQ _ rfl s' x)
end
structure rD (N P : List Str) (sc : Scope) : Prop where
 kind : sc.kind = .function
 co : sc.isCoroutine = false
 gen : sc.isGenerator = false
 nd : N.Nodup
 pre : N.take P.length = P
 par : ∀ x ∈ P,sc.names.lookup x = some .local \/ sc.names.lookup x = some .cell
 cel : ∀ x,(x,NameKind.cell) ∈ sc.names -> sc.names.lookup x = some .cell
def cxIn (CX : CXT) (P : Program) (w : World) (K : W.Frag) (mg : Str -> Option Value) (base : Heap) (N : List Str) (qual : Str) (scope : Scope) (clos : List (Str × Addr)) (f : Addr) (cd : Value) (A : Around) (outer : List Env) (s : Shared) (H : Hp) (E : XK) : Cx where
 prog := P
 w := w
 K := K
 mg := mg
 base := base
 A := A.deeper (PySem.W.envX qual scope s.heap.objs.size f cd (cellsFrom (s.heap.objs.size + 1) scope.names clos))
 N := N
 s₀ := s
 H₀ := H
 env := PySem.W.envX qual scope s.heap.objs.size f cd (cellsFrom (s.heap.objs.size + 1) scope.names clos)
 outer := outer
 stack := PySem.W.envX qual scope s.heap.objs.size f cd (cellsFrom (s.heap.objs.size + 1) scope.names clos) :: outer
 ex := []
 calm := true
 fn := λ x => scope.names.lookup x == some .cell
 pn := []
 xe := λ e s' => wpAny (model P w) (A.deeper (PySem.W.envX qual scope s.heap.objs.size f cd (cellsFrom (s.heap.objs.size + 1) scope.names clos))) (leaving (PySem.W.envX qual scope s.heap.objs.size f cd (cellsFrom (s.heap.objs.size + 1) scope.names clos)) e) (λ _ s'' => CX outer H s E e s'') (λ e' s'' => CX outer H s E e' s'') s'
theorem inv_startD {CX : CXT} {P : Program} {w : World} {K : W.Frag} {mg : Str -> Option Value} {base : Heap} {N ps : List Str} {qual : Str} {scope : Scope} {clos : List (Str × Addr)} {f : Addr} {cd : Value} {A : Around} {outer : List Env} {s s1 : Shared} {H : Hp} {E : XK} {us : List Value} {vs : List V} {fs : List (Option V)} {cv : Str -> Option Value}
 (S : rD N ps scope) (hd : A.handled = none) (e0 : rB P w K mg base A outer s H) (hl : vs.length = ps.length) (r : aX vs us) (hfl : ps.length + fs.length = N.length)
 (hc : ∀ n c,(n,c) ∈ clos -> H c = none /\ s.heap.IsCell c (cv n)) (hn : ∀ n c,(n,c) ∈ clos -> (n,NameKind.cell) ∉ scope.names) (hfr : ∀ n,scope.names.lookup n = some .free -> ∃ c,clos.lookup n = some c)
 (hfs : ∀ (j : Nat) (y : Str) (v : V),(N.drop ps.length)[j]? = some y -> fs[j]? = some (some v) -> scope.names.lookup y = some .free /\ ∃ u,bD v u /\ cv y = some u)
 (x : jL s s.heap.objs.size (bindL (PySem.W.envX qual scope s.heap.objs.size f cd (cellsFrom (s.heap.objs.size + 1) scope.names clos)).kindOf (ps.zip us) λ _ => none) (PySem.W.envX qual scope s.heap.objs.size f cd (cellsFrom (s.heap.objs.size + 1) scope.names clos)).kindOf (cellsFrom (s.heap.objs.size + 1) scope.names clos)
  (bindC (PySem.W.envX qual scope s.heap.objs.size f cd (cellsFrom (s.heap.objs.size + 1) scope.names clos)).kindOf (ps.zip us) λ n => if (n,NameKind.cell) ∈ scope.names then none else cv n) s1) :
 aR (cxIn CX P w K mg base N qual scope clos f cd A outer s H E) [] (vs.map some ++ fs) H s1 := by
 have oE : ps.length <= N.length := by have := congrArg List.length S.pre; rw [List.length_take] at this; omega
 obtain ⟨h1,tk,rfl,hk⟩ := x.toInCall.done
 have noA : ∀ b : Addr,b ∉ (cxIn CX P w K mg base N qual scope clos f cd A outer s H E).ex := λ b z => absurd (show b ∈ ([] : List Addr) from z) (by simp)
 have notC : ∀ {y : Str},scope.names.lookup y = some .free -> (y,NameKind.cell) ∉ scope.names := λ h z => by rw [S.cel _ z] at h; cases h
 have freeOut : ∀ {y : Str} {v : Value},scope.names.lookup y = some .free -> (y,v) ∉ ps.zip us := λ h z => by
  rcases S.par _ (List.of_mem_zip z).1 with k | k <;> (rw [k] at h; cases h)
 refine ⟨⟨e0.mod,S.kind,rfl,rfl,Nat.le_refl _,λ y z c h1 h2 => ?_,λ y hy => ?_,λ y c hy h => ?_,λ _ => hd,Around.frames_deeper e0.frames,.inr ⟨rfl,rfl⟩,λ b z => absurd z (noA b),e0.bs,e0.bsz,λ b _ _ => noA b,λ b z => absurd z (noA b),e0.funs,e0.frf⟩,
  rfl,e0.bare,Un.kept hk,⟨_,x.toInCall.ns,λ i y v h1 h2 h3 => ?_⟩,λ y c h => ⟨_,x.cell y c h⟩,e0.hok.fresh (Nat.le_refl _),λ y c h => ?_,λ p hp => absurd (show p ∈ ([] : List (Addr × Obj)) from hp) (by simp),e0.hok.kept hk,?_⟩
 . exact name_of_addr x.apart (PySem.mem_of_lookup h1) (PySem.mem_of_lookup h2)
 . have hy : scope.names.lookup y = some .cell \/ scope.names.lookup y = some .free := hy
   rcases hy with hy | hy
   . exact Option.isSome_iff_exists.mp (PySem.W.cellsFrom_some scope.names (s.heap.objs.size + 1) clos (.inl hy))
   . obtain ⟨c,e⟩ := hfr y hy;exact ⟨c,(pV _ _ _ (notC hy)).trans e⟩
 . exact Nat.le_of_lt (x.new y c (eq_of_beq (show (scope.names.lookup y == some NameKind.cell) = true from hy)) h)
 . by_cases hi : i < vs.length
   . have ha : vs[i]? = some v := by
      rw [List.getElem?_append_left (by simpa using hi),List.getElem?_map] at h2;cases e : vs[i]? with
      | none => rw [e] at h2; cases h2
      | some a => rw [e] at h2; cases h2; rfl
     obtain ⟨u,hu,rv⟩ := r.get ha;have hp : ps[i]? = some y := by
      rw [<- S.pre,List.getElem?_take_of_lt (by omega)]; exact h1
     have ndP : ps.Nodup := by rw [<- S.pre]; exact S.nd.sublist (List.take_sublist _ _)
     refine ⟨u,rv,?_⟩
     rcases S.par y (List.mem_of_getElem? hp) with k | k
     . exact .inl ⟨k,pW ndP hp hu k⟩
     . obtain ⟨c,e⟩ := Option.isSome_iff_exists.mp (PySem.W.cellsFrom_some scope.names (s.heap.objs.size + 1) clos (.inl k));refine .inr ⟨.inl k,c,e,?_⟩;have q := x.cell y c e;rw [pM ndP hp hu (by show scope.names.lookup y ≠ _; rw [k]; decide)] at q;exact q
   . rw [List.getElem?_append_right (by simpa using hi),List.length_map] at h2;have h1' : (N.drop ps.length)[i - vs.length]? = some y := by rw [List.getElem?_drop,<- hl,show vs.length + (i - vs.length) = i by omega]; exact h1
     obtain ⟨hy,u,rv,eu⟩ := hfs _ y v h1' h2;obtain ⟨c,e⟩ := hfr y hy;refine ⟨u,rv,.inr ⟨.inr hy,c,(pV _ _ _ (notC hy)).trans e,?_⟩⟩;have q := x.cell y c ((pV _ _ _ (notC hy)).trans e);rw [qA λ v z => freeOut hy z,if_neg (notC hy),eu] at q;exact q
 . rcases nK _ _ _ (show (cellsFrom (s.heap.objs.size + 1) scope.names clos).lookup y = some c from h) with ⟨hge,_⟩ | hm
   . exact e0.hok.fresh (Nat.le_trans (Nat.le_succ _) hge)
   . exact (hc y c (PySem.mem_of_lookup hm)).1
 . show (vs.map some ++ fs).length = N.length
   rw [List.length_append,List.length_map];omega
theorem inner_run {CX : CXT} {P : Program} {w : World} {K : W.Frag} {mg : Str -> Option Value} {base : Heap} {k : Nat} {f : Addr} {o : Obj} {name qual : Str} {params : Arguments} {body : List Stmt} {scope : Scope} {clos : List (Str × Addr)} {dV kV lV pm cdv ct : Value} {an : Option Addr} {N ps : List Str} {A : Around} {outer : List Env} {s : Shared} {H : Hp} {args : Args} {us : List Value} {vs : List V} {fs : List (Option V)} {cv : Str -> Option Value} {Q : VK} {E : XK}
 (hr : dW (k + 1) A) (e0 : rB P w K mg base A outer s H) (ho : s.heap.get? f = some o) (hod : o.data = .func (PySem.W.fnX name qual params body scope clos dV kV lV pm an cdv ct)) (qR : s.heap.CodeRec cdv qual) (S : rD N ps scope)
 (hl : vs.length = ps.length) (r : aX vs us) (hfl : ps.length + fs.length = N.length)
 (hc : ∀ n c,(n,c) ∈ clos -> H c = none /\ s.heap.IsCell c (cv n)) (hp : clos.Pairwise λ x y => x.2 ≠ y.2) (hn : ∀ n c,(n,c) ∈ clos -> (n,NameKind.cell) ∉ scope.names) (hfr : ∀ n,scope.names.lookup n = some .free -> ∃ c,clos.lookup n = some c)
 (hfs : ∀ (j : Nat) (y : Str) (v : V),(N.drop ps.length)[j]? = some y -> fs[j]? = some (some v) -> scope.names.lookup y = some .free /\ ∃ u,bD v u /\ cv y = some u)
 (hb : BindsTo s (PySem.W.fnX name qual params body scope clos dV kV lV pm an cdv ct) args (ps.zip us))
 (kH : dW k (A.deeper (PySem.W.envX qual scope s.heap.objs.size f cdv (cellsFrom (s.heap.objs.size + 1) scope.names clos))) ->
  ∃ t,PSs (cxIn CX P w K mg base N qual scope clos f cdv A outer s H E) body t /\ t { nx := λ _ H' => Q .non H',rt := Q } (vs.map some ++ fs) H) :
 codeAny (model P w) A (.call (.ref f) args) (CR CX outer P w H s Q E) s := by
 have lim : s.heap.NoLimit := e0.mod.nolimit.keeps λ b o e => (e0.bs b o e).1
 have oY : ∀ y ∈ ps.zip us,scope.names.lookup y.1 = some .local \/ (scope.names.lookup y.1 = some .cell /\ ((cellsFrom (s.heap.objs.size + 1) scope.names clos).lookup y.1).isSome = true) := λ ⟨n,v⟩ hy => by
  rcases S.par n (List.of_mem_zip hy).1 with q | q
  . exact .inl q
  . exact .inr ⟨q,PySem.W.cellsFrom_some _ _ _ (.inl q)⟩
 refine codeAny_call_function hr.depth ho hod S.co S.gen rfl qR (hb _ _ _ _ ?_)
 refine newEnvD (cv := cv) S.kind (λ n c h => (hc n c h).2) hp hn oY λ env he s1 x => ?_
 subst he
 refine ⟨lim.keeps x.toInCall.keep,codeAny_func ?_⟩
 obtain ⟨t,ht,hq⟩ := kH (hr.deeper _)
 have I : aR (cxIn CX P w K mg base N qual scope clos f cdv A outer s H E) [] (vs.map some ++ fs) H s1 := inv_startD S hr.hd e0 hl r hfl hc hn hfr hfs x
 refine wpAny_mono (ht [] s1 (vs.map some ++ fs) H _ I hq) (λ fl s' hs => ?_) λ e s' hs => hs
 have eO : ∀ {σ' : St} {H' : Hp} {v : V} {u : Value},aR (cxIn CX P w K mg base N qual scope clos f cdv A outer s H E) [] σ' H' s' -> bD v u -> Q v H' -> CE outer P w H s Q u s' :=
  λ {σ' H' v u} J rv q => ⟨v,H',J.os,J.bare,J.base,J.hok,rv,q⟩
 cases fl with
 | ret u =>
  obtain ⟨v,σ',H',J,rv,q⟩ := hs;exact eO J rv q
 | next =>
  obtain ⟨σ',H',J,q⟩ := hs;exact eO (v := V.non) (u := Value.none) J rfl q
 | brk =>
  obtain ⟨_,_,_,q⟩ := hs;exact False.elim q
 | cont =>
  obtain ⟨_,_,_,q⟩ := hs;exact False.elim q
end L2
namespace L2
open PySem PySem.Spec PyProof.Rows PySem.W
def FnO (f : Addr) (o : Obj) : HO := .ext λ h => h.get? f = some o
def iA (c : Addr) (qual : Str) : HO := .ext λ h => h.CodeRec (.ref c) qual
section
variable {P : Program} {w : World} {H : Hp} {h : Heap}
theorem fnO_ok {f : Addr} {o : Obj} (e : h.get? f = some o) : bZ P w H h f (FnO f o) := ⟨e,⟨o,e⟩,λ _ _ p k => k _ p⟩
theorem codeO_ok {c : Addr} {q : Str} (e : h.CodeRec (.ref c) q) : bZ P w H h c (iA c q) := by
 refine ⟨e,?_,λ h1 h2 p k => ?_⟩
 . obtain ⟨c',o,vs,t,z,g,_⟩ := e;cases z;exact ⟨o,g⟩
 . obtain ⟨c',o,vs,t,z,g,r⟩ := p;cases z;exact ⟨c,o,vs,t,rfl,k _ g,r⟩
end
section
variable {X : Cx} {aA : List (Addr × Obj)} {σ : St} {H : Hp} {s : Shared}
theorem aR.fnAt (I : aR X aA σ H s) {f : Addr} {o : Obj} (e : H f = some (FnO f o)) : s.heap.get? f = some o := (I.hok f _ e).1
theorem aR.codeAt (I : aR X aA σ H s) {c : Addr} {q : Str} (e : H c = some (iA c q)) : s.heap.CodeRec (.ref c) q := (I.hok c _ e).1
theorem aR.tblAt (I : aR X aA σ H s) {p : Addr} {ps : Array Value} (e : H p = some (.tbl ps)) : s.heap.get? p = some (tabObj ps) := I.hok p _ e
theorem aR.grown (I : aR X aA σ H s) {p c : Addr} {ps more : Array Value} {q : Str} {o : Obj} {h' : Heap} {tk : Nat} (e : H p = some (.tbl ps)) (hx : Heap.ExtBut p s.heap h') (hge : s.heap.objs.size <= c) (fR : c < h'.objs.size) (hrec : h'.CodeRec (.ref c) q) (hp : h'.get? p = some (tabObj (ps ++ more))) (hfo : o.isFreed = false) :
 aR X aA σ (aL (aL (aL H p (.tbl (ps ++ more))) c (iA c q)) h'.objs.size (FnO h'.objs.size o)) { s with heap := h'.push o,toks := tk } := by
 have lp : p < s.heap.objs.size := I.hok.lt e
 have jD : ∀ b,b < s.heap.objs.size -> b ≠ c /\ b ≠ h'.objs.size := λ b hb => ⟨Nat.ne_of_lt (Nat.lt_of_lt_of_le hb hge),Nat.ne_of_lt (Nat.lt_trans (Nat.lt_of_lt_of_le hb hge) fR)⟩
 have at_ : ∀ b,b < s.heap.objs.size -> b ≠ p -> aL (aL (aL H p (.tbl (ps ++ more))) c (iA c q)) h'.objs.size (FnO h'.objs.size o) b = H b := λ b hb hp => by
  rw [aH (jD b hb).2,aH (jD b hb).1,aH hp]
 have keep : ∀ b u,b ≠ p -> s.heap.get? b = some u -> (h'.push o).get? b = some u := λ b u hb e => Heap.get?_push_of_some _ (hx b u hb e)
 have np : ∀ b,H b = none -> b ≠ p := λ b n z => by rw [z,e] at n; cases n
 have some_ : ∀ b u,H b = some u -> u ≠ .tbl ps -> aL (aL (aL H p (.tbl (ps ++ more))) c (iA c q)) h'.objs.size (FnO h'.objs.size o) b = some u := λ b u hb hu => by
  rw [at_ b (I.hok.lt hb) λ z => hu (by rw [z,e] at hb; cases hb; rfl)]; exact hb
 refine I.un ⟨λ b u q n _ _ => keep b u (np b n) q,λ b u q n _ _ => ⟨u.slots,keep b u (np b n) q⟩,λ b u q n _ => ?_,λ b u q _ => ?_,λ b xs q => some_ b _ q (by simp),λ b u xs q => some_ b _ q (by simp),λ b qs q => ?_⟩ λ b u q => ?_
 . rw [at_ b (Heap.lt_size q) (np b n)]; exact n
 . by_cases hb : b = p
   . exact ⟨_,by rw [hb]; exact Heap.get?_push_of_some _ hp⟩
   . exact ⟨u,keep b u hb q⟩
 . by_cases hb : b = p
   . subst hb;rw [e] at q; cases q;exact ⟨more,by rw [aH (jD b lp).2,aH (jD b lp).1,aC]⟩
   . exact ⟨#[],by rw [at_ b (I.hok.lt q) hb,q]; simp⟩
 . by_cases h1 : b = h'.objs.size
   . rw [h1,aC] at q; cases q;rw [h1];exact fnO_ok (Heap.get?_push_size _ hfo)
   rw [aH h1] at q
   by_cases h2 : b = c
   . rw [h2,aC] at q; cases q;rw [h2];exact codeO_ok (hrec.push o)
   rw [aH h2] at q
   by_cases h3 : b = p
   . rw [h3,aC] at q; cases q;rw [h3];show (h'.push o).get? p = _;exact Heap.get?_push_of_some _ hp
   rw [aH h3] at q;refine (I.hok b u q).stay (λ d v hd r => keep d v ?_ r) (λ d r => some_ d _ r (by simp)) λ d xs r => some_ d _ r (by simp)
   rcases hd with rfl | hd
   . exact h3
   . intro z; rw [z,e] at hd; cases hd
theorem aR.fnew (I : aR X aA σ H s) {o : Obj} {h' : Heap} {tk : Nat} (hk : ∀ b u,s.heap.get? b = some u -> h'.get? b = some u) (hsz : s.heap.objs.size <= h'.objs.size) (hfo : o.isFreed = false) :
 aR X aA σ (aL H h'.objs.size (FnO h'.objs.size o)) { s with heap := h'.push o,toks := tk } :=
 I.laid (λ b u e => Heap.get?_push_of_some _ (hk b u e)) hsz (fnO_ok (Heap.get?_push_size _ hfo))
def FnIs (name qual : Str) (params : Arguments) (body : List Stmt) (scope : Scope) (clos : List (Str × Addr)) (c : Addr) (o : Obj) : Prop := ∃ lV pm ct,o = fnMade name qual params body scope clos lV pm c ct
def nC (mg : Str -> Option Value) (base : Heap) : Prop := ∃ bm ob,mg "__builtins__" = some (.ref bm) /\ bm ≠ builtinsNs /\ base.get? bm = some ob /\ ob.cls = .type "module" /\ ob.dict = some builtinsNs /\ ob.data = .plain
theorem aR.bltAt (I : aR X aA σ H s) (B : nC X.mg X.base) {p : Addr} {ps : Array Value} (hp : s.heap.get? p = some (tabObj ps)) : s.heap.BuiltinsAt X.mg p := by
 obtain ⟨bm,ob,b1,b2,b3,b4,b5,b6⟩ := B
 refine ⟨bm,ob,b1,b2,λ z => ?_,λ z => ?_,I.bk _ _ b3,b4,b5,b6⟩
 . obtain ⟨o,es,ep,e,d,_⟩ := I.mod.glob;rw [z,e] at b3; cases b3; rw [d] at b6; cases b6
 . have := I.bk _ _ b3;rw [z,hp] at this; cases this; cases b6
def tDef (name qual : Str) (params : Arguments) (body : List Stmt) (scope : Scope) (clos : List (Str × Addr)) (i : Nat) (p : Addr) (pos : Pos) : TS := λ D σ H => ∃ ps,H p = some (.tbl ps) /\ TriplesOk ps.toList /\
 ((codeAmong pos ps.toList = none /\ ∀ (c f : Addr) (o : Obj),H c = none -> H f = none -> c ≠ f -> FnIs name qual params body scope clos c o ->
  D.nx (σ.set i (some (.ref f))) (aL (aL (aL H p (.tbl (ps ++ #[rawInt pos.line,rawInt pos.col,.ref c]))) c (iA c qual)) f (FnO f o))) \/
  ∃ c,codeAmong pos ps.toList = some (.ref c) /\ H c = some (iA c qual) /\ ∀ (f : Addr) (o : Obj),H f = none -> FnIs name qual params body scope clos c o -> D.nx (σ.set i (some (.ref f))) (aL H f (FnO f o)))
theorem ps_def {name qual : Str} {params : Arguments} {body : List Stmt} {scope : Scope} {clos : List (Str × Addr)} {i : Nat} {c p : Addr} {pos : Pos} (B : nC X.mg X.base) (hcode : X.env.code = .ref c) (hC : ∀ h,X.K.In h -> CodeHd h c p) (hN : X.N.Nodup) (hi : X.N[i]? = some name) (hx : Loc X.env.scope name)
 (hcl : closureFor scope X.env = pure clos) (hq : qualnameIn X.env name name = qual) (hd0 : params.defaults = [] := by rfl) (hk0 : params.kw_defaults = [] := by rfl) (ha : annTrees params none X.env = [] := by rfl)
 (hf : X.fn name = true \/ X.env.scope.names.lookup name = some .local := by first | exact .inl rfl | exact .inr rfl | assumption) :
 PS X (.FunctionDef name params body [] none [] scope none name pos) (tDef name qual params body scope clos i p pos) := by
 intro aA s σ H D I h
 obtain ⟨ps,e,ht,h⟩ := h
 refine nestDef_K hd0 hk0 ha ?_
 rw [hq]
 have hP := I.tblAt e
 have hg : s.heap.Ns mainGlobals X.mg := I.mod.glob.keeps I.bk
 have hgP : mainGlobals ≠ p := λ z => by
  obtain ⟨o,es,ep,g,d,_⟩ := hg;rw [z,hP] at g; cases g; cases d
 rcases h with ⟨hnf,h⟩ | ⟨c',hf',hc',h⟩
 . refine makeFunction_K (mg := X.mg) hcl I.ok.glob hg hcode (hC _ I.kIn) hP ht hnf hgP (I.bltAt B hP) λ c' ctv lV h' tk hx' hge fR hrec htb => ?_;refine kI (I.grown (o := fnMade name qual params body scope clos lV ((X.mg "__name__").getD .none) c' ctv) (tk := tk) e hx' hge fR hrec htb rfl) hN hi hx (show bD (.ref h'.objs.size) (.ref h'.objs.size) from rfl) (λ s2 I2 => ⟨_,_,I2,?_⟩) hf;exact h c' h'.objs.size _ (I.hok.fresh hge) (I.hok.fresh (Nat.le_trans hge (Nat.le_of_lt fR))) (Nat.ne_of_lt fR) ⟨_,_,_,rfl⟩
 . refine makeFunction_hit (mg := X.mg) hcl I.ok.glob hg hcode (hC _ I.kIn) hP ht hf' (I.bltAt B hP) λ ctv lV h' tk hk hsz => ?_;refine kI (I.fnew (o := fnMade name qual params body scope clos lV ((X.mg "__name__").getD .none) c' ctv) (tk := tk) hk hsz rfl) hN hi hx (show bD (.ref h'.objs.size) (.ref h'.objs.size) from rfl) (λ s2 I2 => ⟨_,_,I2,?_⟩) hf;exact h h'.objs.size _ (I.hok.fresh hsz) ⟨_,_,_,rfl⟩
end
end L2
namespace L2
open PySem PySem.Spec PyProof.Rows PySem.W
def InOk (P : Program) (w : World) (K : W.Frag) (mg : Str -> Option Value) (base : Heap) (CX : CXT) (k : Nat) (name qual : Str) (params : Arguments) (body : List Stmt) (scope : Scope) (ps fr : List Str) (sp : List V -> Sp) : Prop :=
 ∀ (A : Around) (outer : List Env) (s : Shared) (H : Hp) (f c : Addr) (o : Obj) (clos : List (Str × Addr)) (us : List Value) (vs pG : List V) (cv : Str -> Option Value) (Q : VK) (E : XK),
  dW k A -> rB P w K mg base A outer s H -> s.heap.get? f = some o -> FnIs name qual params body scope clos c o -> s.heap.CodeRec (.ref c) qual ->
  (∀ n d,(n,d) ∈ clos -> n ∈ fr /\ H d = none /\ s.heap.IsCell d (cv n)) -> (clos.Pairwise λ x y => x.2 ≠ y.2) -> (∀ n ∈ fr,∃ d,clos.lookup n = some d) -> Paired (λ n v => ∃ u,bD v u /\ cv n = some u) fr pG ->
  aX vs us -> sp pG vs H Q E -> codeAny (model P w) A (.call (.ref f) ⟨us,[]⟩) (CR CX outer P w H s Q E) s
theorem pair_at {α β : Type} {R : α -> β -> Prop} : ∀ {xs : List α} {ys : List β} {j : Nat} {x : α} {y : β},Paired R xs ys -> xs[j]? = some x -> ys[j]? = some y -> R x y
 | _,_,_,_,_,.nil,h,_ => by simp at h
 | _,_,0,_,_,.cons a _,h,h2 => by simp at h h2; subst h; subst h2; exact a
 | _,_,j + 1,_,_,.cons _ b,h,h2 => pair_at (j := j) b (by simpa using h) (by simpa using h2)
theorem in_ok {P : Program} {w : World} {K : W.Frag} {mg : Str -> Option Value} {base : Heap} {k : Nat} {name qual : Str} {params : Arguments} {body : List Stmt} {scope : Scope} {N ps mid fr : List Str} {sp : List V -> Sp}
 (S : rD N ps scope) (hN : N = ps ++ (mid ++ fr)) (hfr : ∀ n ∈ fr,scope.names.lookup n = some .free) (hall : ∀ y ∈ scope.names,y.2 = .free -> y.1 ∈ fr)
 (hb : ∀ (clos : List (Str × Addr)) (lV pm ct : Value) (c : Addr) (us : List Value),us.length = ps.length -> bindArgs (fnX name qual params body scope clos .none .none lV pm none (.ref c) ct) ⟨us,[]⟩ = pure (ps.zip us))
 (len : ∀ pG vs H Q E,sp pG vs H Q E -> vs.length = ps.length)
 (kH : ∀ (clos : List (Str × Addr)) (cdv : Value) (f : Addr) (A : Around) (outer : List Env) (s : Shared) (H : Hp) (pG vs : List V) (Q : VK) (E : XK),dW k (A.deeper (envX qual scope s.heap.objs.size f cdv (cellsFrom (s.heap.objs.size + 1) scope.names clos))) -> sp pG vs H Q E ->
  ∃ t,PSs (cxIn gO P w K mg base N qual scope clos f cdv A outer s H E).nox body t /\ t { nx := λ _ H' => Q .non H',rt := Q } (vs.map some ++ (List.replicate mid.length none ++ pG.map some)) H) :
 InOk P w K mg base gO (k + 1) name qual params body scope ps fr sp := by
 intro A outer s H f c o clos us vs pG cv Q E hr e0 ho hO qR hc hp hfc hfv r hsp
 obtain ⟨lV,pm,ct,rfl⟩ := hO
 have hl := len _ _ _ _ _ hsp
 have notC : ∀ {y : Str},scope.names.lookup y = some .free -> (y,NameKind.cell) ∉ scope.names := λ h z => by rw [S.cel _ z] at h; cases h
 have flen := Paired.length hfv
 refine inner_run (CX := gO) (cv := cv) (fs := List.replicate mid.length none ++ pG.map some) hr e0 ho rfl qR S hl r ?_ (λ n d h => (hc n d h).2) hp (λ n d h => notC (hfr n (hc n d h).1)) (λ n h => hfc n (hall _ (mem_of_lookup h) rfl)) ?_ ?_ λ hW => ?_
 . rw [List.length_append,List.length_replicate,List.length_map,<- flen,hN,List.length_append,List.length_append]
 . intro j y v h1 h2;rw [hN,List.drop_left] at h1
   by_cases hj : j < mid.length
   . rw [List.getElem?_append_left (by rw [List.length_replicate]; exact hj),List.getElem?_replicate,if_pos hj] at h2;cases h2
   . rw [List.getElem?_append_right (by omega)] at h1;rw [List.getElem?_append_right (by rw [List.length_replicate]; omega),List.length_replicate,List.getElem?_map] at h2;obtain ⟨v',hv',e⟩ := Option.map_eq_some_iff.mp h2;cases e;exact ⟨hfr y (List.mem_of_getElem? h1),pair_at hfv h1 hv'⟩
 . exact .of_eq (hb clos lV pm ct c us (by rw [<- r.length]; exact hl))
 . obtain ⟨t,h,q⟩ := kH clos _ f A outer s H pG vs Q E hW hsp;exact ⟨t,h.nox,q⟩
def mK (h : Heap) (c : Addr) : Option Value := match h.get? c with
 | some o => (match o.data with | .cell v => v | _ => none)
 | none => none
theorem cellVal_of {h : Heap} {c : Addr} {v : Option Value} (x : h.IsCell c v) : mK h c = v := by
 obtain ⟨o,e,d⟩ := x
 unfold mK
 rw [e]
 simp only [d]
section
variable {X : Cx} {CX : CXT} {k : Nat} {name qual x : Str} {params : Arguments} {body : List Stmt} {scope : Scope} {ps fr : List Str} {sp : List V -> Sp} {E : XK} {e : Expr} {es : List Expr} {t : TA} {p pos : Pos} {clos : List (Str × Addr)}
theorem ld_var {i : Nat} {aA : List (Addr × Obj)} {s : Shared} {σ : St} {H : Hp} {v : V} {Q : Value -> Shared -> Prop} {E : Value -> Shared -> Prop} (hN : X.N[i]? = some x) (hv : Vis X.env.scope x) (hd : (x == ("__debug__" : Str)) = false) (qR : (x == ("__classdict__" : Str)) = false)
 (I : aR X aA σ H s) (e : σ[i]? = some (some v)) (h : ∀ u,bD v u -> Q u s) : wpAny (model X.prog X.w) X.A (eval (.Name x p) X.env) Q E s := by
 obtain ⟨m,hn,hl⟩ := I.loc
 obtain ⟨u,r,l⟩ := hl i x v hN e hv
 have eO := h u r
 rcases l with ⟨hk,hm⟩ | ⟨hk,c,hc,nF⟩
 . exact wpAny_Name (wpAny_loadName_local I.ok.kind hk hn hm eO) hd
 . rcases hk with hk | hk
   . exact wpAny_Name (wpAny_loadName_cell I.ok.kind hk hc nF eO) hd
   . exact wpAny_Name (wpAny_loadName_free I.ok.kind hk hc nF eO qR) hd
def tCallI (i : Nat) (js : List Nat) (name qual : Str) (params : Arguments) (body : List Stmt) (scope : Scope) (clos : List (Str × Addr)) (sp : List V -> Sp) (E : XK) (t : TA) : TE := λ σ H Q =>
 ∃ f o0,σ[i]? = some (some (.ref f)) /\ H f = some (FnO f o0) /\ (∃ fd,o0.data = .func fd) /\ t σ H λ vs H1 => ∃ c o pG,H1 f = some (FnO f o) /\ FnIs name qual params body scope clos c o /\ H1 c = some (iA c qual) /\ Paired (λ j v => σ[j]? = some (some v)) js pG /\ sp pG vs H1 Q E
theorem pe_callI {i : Nat} {js : List Nat} (F : InOk X.prog X.w X.K X.mg X.base CX k name qual params body scope ps fr sp) (hr : dW k X.A) (hx : jP CX X E) (hN : X.N[i]? = some x) (hv : Vis X.env.scope x)
 (hcl : ∀ n d,(n,d) ∈ clos -> n ∈ fr /\ X.env.cells.lookup n = some d) (hcp : clos.Pairwise λ x y => x.2 ≠ y.2) (hcf : ∀ n ∈ fr,∃ d,clos.lookup n = some d) (hjs : Paired (λ j n => X.N[j]? = some n /\ (X.env.scope.names.lookup n = some .cell \/ X.env.scope.names.lookup n = some .free)) js fr)
 (ha : PA X (e :: es) t) (hd : (x == ("__debug__" : Str)) = false := by decide) (qR : (x == ("__classdict__" : Str)) = false := by decide)
 (he : starEach (e :: es) X.env = (false,eval e X.env) :: starEach es X.env := by rfl) (oE : (backTo pos (starEach es X.env)).any (·.1) = false := by rfl) :
 PE X (.Call (.Name x p) (e :: es) [] pos) (tCallI i js name qual params body scope clos sp E t) := by
 intro aA s σ H Q I h
 obtain ⟨f,o0,ef,hf0,⟨fd0,hd0⟩,h⟩ := h
 refine wpAny_Call_Name_kw (ld_var hN hv hd qR I ef λ u r => ?_)
 cases r
 have at0 : ∀ {s1 : Shared} {H1 : Hp} {o : Obj},aR X aA σ H1 s1 -> H1 f = some (FnO f o) -> (∃ fd,o.data = .func fd) -> FnAt f s1.heap := λ {s1 H1 o} J z ⟨fd,d⟩ => by
  have := J.fnAt z;cases o;cases d;exact ⟨_,_,_,_,this⟩
 refine callWith_F (at0 I hf0 ⟨fd0,hd0⟩) (cP (ha pos aA s σ H _ I h) λ us s1 ⟨vs,H1,I1,r,q⟩ => ?_) he oE
 obtain ⟨c,o,pG,h1,h2,h3,h4,h5⟩ := q
 have ofd : ∃ fd,o.data = .func fd := by
  obtain ⟨_,_,_,rfl⟩ := h2;exact ⟨_,rfl⟩
 refine ⟨at0 I1 h1 ofd,?_⟩
 have run := F X.A X.stack s1 H1 f c o clos us vs pG (λ n => (X.env.cells.lookup n).bind (mK s1.heap)) Q E hr I1.env0 (I1.fnAt h1) h2 (I1.codeAt h3) (λ n d hm => ?_) hcp hcf ?_ r h5
 . refine wpAny_call (codeAny_mono run λ r s' hq => ?_);cases r with
   | error e => exact hx aA σ H1 s1 e s' I1 hq
   | ok fl =>
    cases fl with
    | ret u => exact I1.after hq
    | next => exact False.elim hq
    | brk => exact False.elim hq
    | cont => exact False.elim hq
 . obtain ⟨hin,hlk⟩ := hcl n d hm;obtain ⟨v,nF⟩ := I1.cell n d hlk;refine ⟨hin,I1.freeC n d hlk,?_⟩;show s1.heap.IsCell d ((X.env.cells.lookup n).bind (mK s1.heap));rw [hlk];show s1.heap.IsCell d (mK s1.heap d);rw [cellVal_of nF];exact nF
 . obtain ⟨m,_,hl⟩ := I1.loc;have lE : ∀ {js : List Nat} {fr : List Str} {pG : List V},Paired (λ j n => X.N[j]? = some n /\ (X.env.scope.names.lookup n = some .cell \/ X.env.scope.names.lookup n = some .free)) js fr -> Paired (λ j v => σ[j]? = some (some v)) js pG ->
    Paired (λ n v => ∃ u,bD v u /\ (X.env.cells.lookup n).bind (mK s1.heap) = some u) fr pG := by
    intro js fr pG h1
    induction h1 generalizing pG with
    | nil => intro h2; cases h2; exact .nil
    | cons a b ih =>
     intro h2;cases h2 with
     | cons a' b' =>
      refine .cons ?_ (ih b');obtain ⟨u,rv,lk⟩ := hl _ _ _ a.1 a' (.inr a.2);refine ⟨u,rv,?_⟩
      rcases lk with ⟨kk,_⟩ | ⟨_,d,hlk,nF⟩
      . have kk : X.env.scope.names.lookup _ = some .local := kk
        rcases a.2 with z | z <;> (rw [z] at kk; cases kk)
      . rw [hlk];exact cellVal_of nF
   exact lE hjs h4
end
end L2
namespace L2
open PySem PySem.Spec PyProof.Rows PySem.W
def OnlyT (tabs : List (Addr × Addr)) (H : Hp) : Prop := ∀ b,H b = none \/ (∃ o xs,H b = some (.frz o (.lst xs))) \/ (b ∈ tabs.map (·.2) /\ H b = some (.tbl #[]))
theorem law_callT {P : Program} {w : World} {K : W.Frag} {mg mb : Str -> Option Value} {CX : CXT} {k : Nat} {fa a : Addr} {fd : FuncData} {x : Str} {sp : Sp} {s₁ : Shared} {vs : List Value} {ns : List Int} {tabs : List (Addr × Addr)}
 (KX : K.In s₁.heap) (hns : s₁.heap.Ns mainGlobals mg) (hb : s₁.heap.Ns builtinsNs mb) (hbb : ∀ x : Str,x ≠ "__name__" -> mb x = bootBuiltins x) (hlim : s₁.heap.NoLimit) (hg : s₁.gens = #[])
 (hT : TabsAt tabs s₁.heap) (hnK : noTabs K = true) (hB : nC mg s₁.heap)
 (ha : s₁.heap.get? a = some { cls := .type "list",data := .seq vs.toArray }) (hi : IntsAre vs ns) (hl : ns.length <= sizeLine) (hr : dW k callerA)
 (F : ∀ base : Heap,K.In base -> base.Ns mainGlobals mg -> nC mg base -> FnOk P w K mg base CX k fa fd [x] sp) (hbind : ∀ (s : Shared) (u : Value),BindsTo s fd ⟨[u],[]⟩ [(x,u)])
 (hsp : ∀ H : Hp,(∀ q ∈ tabs,H q.2 = some (.tbl #[])) -> OnlyT tabs H -> bC K H a (ns.map V.int) -> sp [.ref a] H (λ v _ => v = .bl true) λ _ _ _ => False)
 (hCX : ∀ H e s',CX [] H s₁ (λ _ _ _ => False) e s' -> False) :
 codeAny (model P w) callerA (.call (.ref fa) ⟨[.ref a],[]⟩) (λ r s' => r = .ok (.ret (.bool true)) /\ OldK s₁.heap s'.heap /\ s'.os = s₁.os /\ AllBare s'.gens) s₁ := by
 have rv := pI hi
 have lenV := hi.length
 have tabAt : ∀ {b : Addr},b ∈ tabs.map (·.2) -> isCodeTable s₁.heap b /\ s₁.heap.get? b = some (tabObj #[]) := λ {b} hm => by
  obtain ⟨q,hq,rfl⟩ := List.mem_map.mp hm;exact ⟨((hT q hq).1.tab (hT q hq).2).isCodeTable,(hT q hq).2⟩
 have aT : a ∉ tabs.map (·.2) := λ hm => by
  have := (tabAt hm).2;rw [ha] at this; cases this
 have core : ∀ H : Hp,(∀ q ∈ tabs,H q.2 = some (.tbl #[])) -> OnlyT tabs H -> bC K H a (ns.map V.int) -> mL P w H s₁.heap -> (∀ b,H b ≠ none -> b = a \/ b ∈ tabs.map (·.2)) -> (H a ≠ none -> K.lookup a = none) ->
  codeAny (model P w) callerA (.call (.ref fa) ⟨[.ref a],[]⟩) (λ r s' => r = .ok (.ret (.bool true)) /\ OldK s₁.heap s'.heap /\ s'.os = s₁.os /\ AllBare s'.gens) s₁ := by
  intro H hTH hO hS hok hA hK;have base_of : ∀ {b : Addr} {o : Obj},s₁.heap.get? b = some o -> H b = none -> (hidT s₁.heap H).get? b = some o := λ e n => hidT_get e n;have noA : ∀ {b : Addr} {o : Obj},s₁.heap.get? b = some o -> (∀ xs n,o.data ≠ .seq xs n) -> o ≠ tabObj #[] -> H b = none := λ {b o} e d dt => by
   cases q : H b with
   | none => rfl
   | some u =>
    rcases hA b (by rw [q]; simp) with z | z
    . subst z;rw [ha] at e; cases e;exact absurd rfl (d _ _)
    . have := (tabAt z).2;rw [e] at this;exact absurd (Option.some.inj this) dt
  have nsK : ∀ {b : Addr} {m : Str -> Option Value},s₁.heap.Ns b m -> (hidT s₁.heap H).Ns b m := λ {b m} ⟨o,es,ep,e,d,r⟩ => ⟨o,es,ep,base_of e (noA e (λ _ _ z => by rw [d] at z; cases z) λ z => by rw [z] at d; cases d),d,r⟩;have hKb : K.In (hidT s₁.heap H) := λ b o e => base_of (KX b o e) (by
   cases q : H b with
   | none => rfl
   | some u =>
    rcases hA b (by rw [q]; simp) with z | z
    . subst z;rw [hK (by rw [q]; simp)] at e; cases e
    . have h1 := (tabAt z).2;rw [KX b o e] at h1;have h2 := List.all_eq_true.mp hnK (b,o) (mem_of_lookupK e);rw [Option.some.inj h1] at h2;exact absurd (show false = true from h2) Bool.false_ne_true)
  have hM : Mod K mg (hidT s₁.heap H) := ⟨hKb,nsK hns,⟨mb,nsK hb,hbb⟩,let ⟨mc,h1,h2⟩ := hlim; ⟨mc,nsK h1,h2⟩⟩;have hBb : nC mg (hidT s₁.heap H) := let ⟨bm,ob,b1,b2,b3,b4,b5,b6⟩ := hB; ⟨bm,ob,b1,b2,base_of b3 (noA b3 (λ _ _ z => by rw [b6] at z; cases z) λ z => by rw [z] at b6; cases b6),b4,b5,b6⟩
  have e0 : rB P w K mg (hidT s₁.heap H) callerA [] s₁ H := ⟨rfl,hM,λ b o e => of_hidT e,Nat.le_of_eq (hidT_size _ _),trivial,λ b hb => absurd (show b ∈ ([] : List Addr) from hb) (by simp),hok,.of_eq hg⟩;refine codeAny_mono ((F _ hKb (nsK hns) hBb).run callerA [] s₁ H ⟨[.ref a],[]⟩ [.ref a] [.ref a] _ _ hr e0 (hbind s₁ (.ref a)) (.cons rfl .nil) (hsp H hTH hO hS)) λ r s' h => ?_;cases r with
  | error e => exact (hCX H e s' h).elim
  | ok fl =>
   cases fl with
   | next => exact False.elim h
   | brk => exact False.elim h
   | cont => exact False.elim h
   | ret u =>
    obtain ⟨v,H',os,bare,un,hok',r',q⟩ := h;have q' : v = .bl true := q;subst q';obtain rfl : u = Value.bool true := r';have grown : ∀ b,b ∈ tabs.map (·.2) -> ∃ ps,s'.heap.get? b = some (tabObj ps) := λ b hm => by
     obtain ⟨q,hq,rfl⟩ := List.mem_map.mp hm;obtain ⟨more,e⟩ := un.tbls _ _ (hTH q hq);exact ⟨_,hok' _ _ e⟩
    have keep : ∀ b o,b ∉ tabs.map (·.2) -> s₁.heap.get? b = some o -> s'.heap.get? b = some o := λ b o hm e => by
     cases q : H b with
     | none => exact un.keep b o e q (by intro z; exact absurd (show b ∈ ([] : List Addr) from z) (by simp)) (by simp)
     | some u =>
      rcases hO b with z | ⟨ob,xs,z⟩ | ⟨z,_⟩
      . rw [q] at z; cases z
      . have z2 := un.frzs b ob _ z;obtain ⟨e1,_⟩ := hok b _ z;obtain ⟨e2,_⟩ := hok' b _ z2;rw [e] at e1; cases e1;exact e2
      . exact absurd z hm
    refine ⟨rfl,⟨λ b o e => ?_,λ b o e => ?_⟩,os,bare⟩
    . by_cases hm : b ∈ tabs.map (·.2)
      . obtain ⟨ht,e2⟩ := tabAt hm;rw [e] at e2;have e2 := Option.some.inj e2;subst e2;obtain ⟨ps,hP⟩ := grown b hm;exact .inr (.inl ⟨ht,rfl,#[],ps,rfl,by rw [Array.empty_append]; exact hP⟩)
      . exact .inl (keep b o hm e)
    . by_cases hm : b ∈ tabs.map (·.2)
      . obtain ⟨ps,hP⟩ := grown b hm;exact ⟨_,hP⟩
      . exact ⟨o,keep b o hm e⟩
 cases hk : K.lookup a with
 | some o =>
  have e := KX a o hk;rw [ha] at e;cases e;refine core (λ b => if b ∈ tabs.map (·.2) then some (.tbl #[]) else none) (λ q hq => if_pos (List.mem_map_of_mem hq)) (λ b => ?_) (.inr ⟨_,vs.toArray,_,hk,rfl,rfl,rfl,by rw [List.size_toArray,lenV]; exact hl,by simpa using rv⟩) (λ b u z => ?_) (λ b z => ?_) λ z => absurd (if_neg aT) z
  . by_cases hm : b ∈ tabs.map (·.2)
    . exact .inr (.inr ⟨hm,if_pos hm⟩)
    . exact .inl (if_neg hm)
  . by_cases hm : b ∈ tabs.map (·.2)
    . have z' := (if_pos hm).symm.trans z;cases z';exact (tabAt hm).2
    . have z' := (if_neg hm).symm.trans z;cases z'
  . by_cases hm : b ∈ tabs.map (·.2)
    . exact .inr hm
    . exact absurd (if_neg hm) z
 | none =>
  refine core (λ b => if b ∈ tabs.map (·.2) then some (.tbl #[]) else if b = a then some (.frz { cls := .type "list",data := .seq vs.toArray } (.lst (ns.map V.int))) else none) (λ q hq => if_pos (List.mem_map_of_mem hq)) (λ b => ?_) (.inl (.inr ⟨{ cls := .type "list",data := .seq vs.toArray },(if_neg aT).trans (if_pos rfl)⟩)) (λ b u z => ?_) (λ b z => ?_) λ _ => hk
  . by_cases hm : b ∈ tabs.map (·.2)
    . exact .inr (.inr ⟨hm,if_pos hm⟩)
    . by_cases hb : b = a
      . exact .inr (.inl ⟨_,_,(if_neg hm).trans (if_pos hb)⟩)
      . exact .inl ((if_neg hm).trans (if_neg hb))
  . by_cases hm : b ∈ tabs.map (·.2)
    . have z' := (if_pos hm).symm.trans z;cases z';exact (tabAt hm).2
    . by_cases hb : b = a
      . have z' := ((if_neg hm).trans (if_pos hb)).symm.trans z;cases z';subst hb;exact ⟨ha,by rw [List.length_map]; exact hl,vs,_,rv,ha⟩
      . have z' := ((if_neg hm).trans (if_neg hb)).symm.trans z;cases z'
  . by_cases hm : b ∈ tabs.map (·.2)
    . exact .inr hm
    . by_cases hb : b = a
      . exact .inl hb
      . exact absurd ((if_neg hm).trans (if_neg hb)) z
theorem walk_ofT {l : PySem.W.OpenLaw} {n k : Nat} {q : Program} {loose : List Str} {XP : (Str -> Option Value) -> Heap -> Prop} {YP : World -> Heap -> Prop} {d : DefRec} {K : Params -> W.Frag} {CX : World -> CXT} {sp : World -> Sp} {x : Str} {tabs : World -> List (Addr × Addr)}
 (hn : l.most = some n) (hn2 : n <= sizeLine) (hdf : d.params.defaults = []) (hr : dW k callerA)
 (hY : ∀ (w : World) (h : Heap),YP w h -> (K w.params).In h) (hnK : ∀ w : World,noTabs (K w.params) = true)
 (T : ∀ (w : World) (h : Heap),YP w h -> TabsAt (tabs w) h)
 (F : ∀ (w : World) (mg : Str -> Option Value) (fa : Addr) (h : Heap),(K w.params).In h -> h.Ns mainGlobals mg -> mg d.name = some (.ref fa) ->
  ∃ fd : FuncData,(∀ (s : Shared) (u : Value),BindsTo s fd ⟨[u],[]⟩ [(x,u)]) /\
   ∀ base : Heap,(K w.params).In base -> base.Ns mainGlobals mg -> nC mg base -> FnOk l.prog w (K w.params) mg base (CX w) k fa fd [x] (sp w))
 (hsp : ∀ (w : World) (H : Hp) (a : Addr) (ns : List Int),ns.length <= n -> (∀ q ∈ tabs w,H q.2 = some (.tbl #[])) -> OnlyT (tabs w) H -> bC (K w.params) H a (ns.map V.int) -> sp w [.ref a] H (λ v _ => v = .bl true) λ _ _ _ => False)
 (hCX : ∀ (w : World) (H : Hp) (s : Shared) (e : Value) (s' : Shared),CX w [] H s (λ _ _ _ => False) e s' -> False) :
 PySem.W.WalkO q loose XP YP l.row.toRowW d [] (λ f vs => PySem.call f vs) := by
 refine Att.attach_call hn hdf λ w s₀ s₁ mg mb fa o pm cd lV a vs ns G Y ho hd qR hmg hobj hints cE hg => ?_
 have KX := hY w _ Y
 obtain ⟨fd,hb,hF⟩ := F w mg fa _ KX G.T.g hmg
 have hB : nC mg s₁.heap := let ⟨bm,ob,b1,b2,b3,b4,b5,b6⟩ := G.T.bmain; ⟨bm,ob,b1,b2,b3,b4,b5,b6⟩
 exact law_callT (tabs := tabs w) KX G.T.g G.T.b G.T.builtins G.T.nolimit hg (T w _ Y) (hnK w) hB hobj hints (Nat.le_trans cE hn2) hr hF hb (λ H h1 h2 h3 => hsp w H a ns cE h1 h2 h3) λ H e s' => hCX w H s₁ e s'
end L2
namespace L2
open PySem PySem.Spec PyProof.Rows
section
variable {X : Cx} {tg : Expr}
def iDictZ (td : TE) : TI := λ σ H R => td σ H λ x H1 => ∃ a aO,x = .ref a /\ ((H1 a = some (.dK aO) /\ ∀ o,R (Itd a o aO) (aL H1 a (.frz o (.dK aO)))) \/ ∃ o,H1 a = some (.frz o (.dK aO)) /\ R (Itd a o aO) H1)
theorem pi_dictZ {l : Expr} {tl : TE} (hl : PE X l tl) : PI X tg l (iDictZ tl) := by
 intro aA s σ H R I h
 refine cP (hl aA s σ H _ I h) λ v s1 ⟨x,H1,I1,r1,q1⟩ => ?_
 obtain ⟨a,aO,rfl,q⟩ := q1
 cases r1
 rcases q with ⟨hq,q⟩ | ⟨o,hq,q⟩
 . obtain ⟨z,hs,vs,nW,dd⟩ := dk_of I1.hok hq;obtain ⟨o,es,ep,ho,hr⟩ := id dd;have hD : ∀ h : Heap,h.get? a = some o -> h.DictAt (bH X.prog X.w) a vs ep := λ h e => ⟨o,es,e,hr⟩;have I2 : aR X aA σ (aL H1 a (.frz o (.dK aO))) { s1 with heap := s1.heap,toks := s1.toks } := I1.write (x := a) (e := a) (by rw [hq]; trivial) (.inl rfl) (λ _ _ _ z => z) ⟨o,ho⟩ (show bZ X.prog X.w _ s1.heap a (.frz o (.dK aO)) from ⟨ho,z,hs,vs,nW,dd⟩);refine wpAny_pyIter_dict hs (hD _ ho) ?_;refine ⟨s1.heap.objs.size,[s1.heap.objs.size],_,_,_,rfl,I2.kept (t' := s1.toks) λ b o e => Heap.get?_push_of_some _ e,turn_dict a _ o aO vs ep nW hD,⟨_,Heap.get?_push_size _ rfl,rfl,rfl⟩,λ b hb => ?_,q o⟩;cases List.mem_singleton.mp hb;exact I2.fpOk (Nat.le_refl _) (I2.hok.fresh (Nat.le_refl _))
 . obtain ⟨ho,z,hs,vs,nW,dd⟩ := I1.hok a _ hq;obtain ⟨o',es,ep,ho',hr⟩ := id dd;have e : o = o' := Option.some.inj (ho.symm.trans ho');subst e;have hD : ∀ h : Heap,h.get? a = some o -> h.DictAt (bH X.prog X.w) a vs ep := λ h e => ⟨o,es,e,hr⟩;refine wpAny_pyIter_dict hs (hD _ ho) ?_;refine ⟨s1.heap.objs.size,[s1.heap.objs.size],_,_,_,rfl,I1.kept (t' := s1.toks) λ b o e => Heap.get?_push_of_some _ e,turn_dict a _ o aO vs ep nW hD,⟨_,Heap.get?_push_size _ rfl,rfl,rfl⟩,λ b hb => ?_,q⟩;cases List.mem_singleton.mp hb;exact I1.fpOk (Nat.le_refl _) (I1.hok.fresh (Nat.le_refl _))
end
end L2
namespace L2
open PySem PySem.Spec PyProof.Rows PySem.W
section
variable {prog : Program} {w : World} {K : Type} [DecidableEq K] {knd : HeapKind prog w K} {A : Around} {E : Value -> Shared -> Prop} {s : Shared}
theorem same_pairsH {nm : String} {a b : Addr} {xs ys : List (K × Addr × Value)} {Q : Bool -> Shared -> Prop} (hu : knd.room A) (ha : (a == sysModules) = false) (hb : (b == sysModules) = false)
 (da : s.heap.DictOfH knd a xs) (db : s.heap.DictOfH knd b ys) (hk : xs.map (·.1) = ys.map (·.1)) (hv : ∀ (j : Nat) x y,xs[j]? = some x -> ys[j]? = some y -> ∃ n t u,x.2.2 = .int n t /\ y.2.2 = .int n u) (h : Q true s) :
 wpAny (model prog w) A (Builtin.Dict.samePairs nm a b) Q E s := by
 obtain ⟨o1,e1,p1,g1,_,d1,l1,i1,n1⟩ := da
 obtain ⟨o2,e2,p2,g2,_,d2,l2,i2,n2⟩ := db
 have z1 : e1.size = xs.length := size_of_entries l1
 have z2 : e2.size = xs.length := (size_of_entries l2).trans (by have := congrArg List.length hk; rw [List.length_map,List.length_map] at this; exact this.symm)
 unfold Builtin.Dict.samePairs Builtin.Dict.showsAll
 rw [ha,hb]
 refine wpAny_bind (wpAny_pure (wpAny_bind (wpAny_pure (wpAny_bind (wpAny_dictEntries g1 d1 (wpAny_bind (wpAny_dictEntries g2 d2 ?_)))))))
 have ez : (e1.size != e2.size) = false := by rw [z1,z2]; exact bne_self_eq_false _
 dsimp only
 rw [ez]
 refine wpAny_bind (wpAny_dictEpoch g1 d1 (wpAny_bind ?_))
 rw [Std.Legacy.Range.forIn_eq_forIn_range']
 refine wpAny_forIn_list _ (λ rest q s' => (s' = s /\ q = (none,())) /\ ∀ j ∈ rest,j < xs.length) _ (λ j rest q s' ⟨⟨es,eq⟩,all⟩ => ?_) (λ q s' ⟨⟨es,eq⟩,_⟩ => by rw [es,eq]; exact wpAny_pure h) _ _ ⟨⟨rfl,rfl⟩,λ j hj => by
  have : j < e1.size := by simpa [Std.Legacy.Range.size] using hj
  omega⟩
 rw [es]
 have lt := all j (.head _)
 have lty : j < ys.length := by rw [<- size_of_entries l2,z2]; exact lt
 refine wpAny_bind (wpAny_dictEntries g1 d1 ?_)
 rw [entry_at l1 j,List.getElem?_eq_getElem lt]
 have ky : xs[j].1 = ys[j].1 := by
  have q := congrArg (λ l => l[j]?) hk;simpa [lt,lty] using q
 obtain ⟨n,t,u,v1,v2⟩ := hv j _ _ (List.getElem?_eq_getElem lt) (List.getElem?_eq_getElem lty)
 -- where the lE stands in the other dict
 have at_ : ∀ {R : Option Nat -> Shared -> Prop},R (some j) s -> wpAny (model prog w) A (dictFind b (.ref xs[j].2.1) (knd.hash xs[j].1)) R E s := λ {R} r => by
  refine wpAny_dictFind_heap hu (i1 _ (List.getElem_mem lt)) g2 d2 l2 i2 n2 (λ no => absurd ?_ (no j ys[j].2)) λ k p hp => ?_
  . rw [List.getElem?_eq_getElem lty,ky]
  . obtain ⟨lk,ek⟩ := List.getElem?_eq_some_iff.mp hp;have : (ys.map (·.1))[k]'(by rw [List.length_map]; exact lk) = (ys.map (·.1))[j]'(by rw [List.length_map]; exact lty) := by
     rw [List.getElem_map,List.getElem_map,ek,<- ky]
    rw [(List.getElem_inj n2).mp this];exact r
 refine wpAny_bind (wpAny_holding (wpAny_bind (at_ (wpAny_bind (wpAny_dictEntries g2 d2 ?_)))))
 rw [entry_at l2 j,List.getElem?_eq_getElem lty]
 show wpAny _ _ (holding [ys[j].2.2] (eqBool xs[j].2.2 ys[j].2.2)) _ _ _
 rw [v1,v2]
 refine wpAny_holding (SeqAt.EqAt.int_int n t n u prog w _ _ ?_)
 rw [beq_self_eq_true]
 refine wpAny_bind (wpAny_dictEpoch g1 d1 ?_)
 rw [bne_self_eq_false]
 exact wpAny_pure ⟨⟨rfl,rfl⟩,λ k hk => all k (.tail _ hk)⟩
end
section
variable {X : Cx}
theorem op_neDT (hu : X.A.units + 1 < cLine) : pD X (compareOp .NotEq) (λ x y H Q => ∃ (a b : Addr) (aO : List (List bP × V)),x = .ref a /\ y = .ref b /\ H a = some (.dT aO) /\ H b = some (.dT aO) /\ (∀ p ∈ aO,∃ n,p.2 = .int n) /\ Q (.bl false) H) := by
 intro aA s σ H x y v u Q I rx ry h
 obtain ⟨a,b,aO,rfl,rfl,h1,h2,hi,q⟩ := h
 cases rx
 cases ry
 obtain ⟨_,na,xs,ra,da⟩ := dt_of I.hok h1
 obtain ⟨_,nb,ys,rb,db⟩ := dt_of I.hok h2
 have lE : ∀ {l : List (List bP × V)} {m : List (List bP × Addr × Value)},KT H l m -> m.map (·.1) = l.map (·.1) /\ ∀ (j : Nat) p z,l[j]? = some p -> m[j]? = some z -> bD p.2 z.2.2 := by
  intro l m r
  induction r with
  | nil => exact ⟨rfl,λ j p z h => by simp at h⟩
  | @cons p z ps zs hq t ih =>
   refine ⟨by rw [List.map_cons,List.map_cons,ih.1,hq.1],λ j p' z' h1 h2 => ?_⟩;cases j with
   | zero => simp at h1 h2; subst h1; subst h2; exact hq.2.2
   | succ j => exact ih.2 j p' z' (by simpa using h1) (by simpa using h2)
 have hxy : xs.map (·.1) = ys.map (·.1) := (lE ra).1.trans (lE rb).1.symm
 refine wpAny_richCompare_same_room (op := .NotEq) da.typeIs db.typeIs PySem.F.slot_dict_ne (wpAny_call_entry PySem.F.slot_dict_ne da.typeIs PySem.F.entry_dict_ne ?_ (PySem.F.args_dict_ne_2 _ _)) (by omega)
 have two : ∀ {A' : Around} {E' : Value -> Shared -> Prop} {R : Value × Value -> Shared -> Prop},R (.ref a,.ref b) s -> wpAny (model X.prog X.w) A' (Builtin.Dict.dictSlotArgs "__ne__" ⟨[.ref a,.ref b],[]⟩) R E' s := λ r => by
  simp only [Builtin.Dict.dictSlotArgs];exact wpAny_bind (wpAny_notOrdered_dict da.typeIs (wpAny_pure r))
 refine wpAny_bind (two (wpAny_bind (wpAny_isInstance db.typeIs PySem.F.sub_dict_dict ?_)))
 rw [if_neg (by decide)]
 refine wpAny_bind (wpAny_pure (wpAny_bind (wpAny_pure ?_)))
 refine wpAny_bind (same_pairsH (knd := tupleKind (bH X.prog X.w)) ?_ na nb da db hxy (λ j x y hx hy => ?_) ?_)
 . show _ < cLine
   first | exact hu | (exact Nat.lt_of_le_of_lt (by simp [Around.in1,Around.under]) hu)
 . have hl : j < aO.length := by
    have := (List.getElem?_eq_some_iff.mp hx).1;have e := congrArg List.length (lE ra).1;rw [List.length_map,List.length_map] at e;omega
   have hp : aO[j]? = some aO[j] := List.getElem?_eq_getElem hl;obtain ⟨n,hn⟩ := hi _ (List.getElem_mem hl);have r1 := (lE ra).2 j _ _ hp hx;have r2 := (lE rb).2 j _ _ hp hy;rw [hn] at r1 r2;obtain ⟨t,e1⟩ := r1;obtain ⟨u,e2⟩ := r2;exact ⟨n,t,u,e1,e2⟩
 . refine wpAny_pure ⟨_,rfl,?_,?_⟩
   . exact λ x => nomatch x
   . exact ⟨.bl false,H,I,by simp; rfl,q⟩
end
end L2
namespace L2
open PySem PySem.Spec PyProof.Rows PySem.W
section
variable {prog : Program} {w : World} {A : Around} {E : Value -> Shared -> Prop} {s : Shared}
def DV (h : Heap) (d : Addr) (es : Array DictEntry) (ep : Nat) : Prop := ∃ o,h.get? d = some o /\ o.ExactDict /\ o.data = .dict es ep
def VAt (I d : Addr) (es : Array DictEntry) (ep i : Nat) (h : Heap) : Prop := I ≠ d /\ DV h d es ep /\ h.IsValIter I d i es.size ep
theorem dv_item {I d : Addr} {es : Array DictEntry} {ep i : Nat} {Q : Option Value -> Shared -> Prop} (st : VAt I d es ep i s.heap) (hi : i < es.size)
 (hQ : ∀ h',VAt I d es ep (i + 1) h' -> Heap.SameBut I s.heap h' -> Q (some es[i].val) { s with heap := h' }) : wpAny (model prog w) A (pyNext (.ref I)) Q E s := by
 obtain ⟨nI,⟨od,hod,hx,hdd⟩,nY⟩ := id st
 obtain ⟨o,ho,hc,hd⟩ := id nY
 have hT := nY.typeIs
 unfold pyNext
 refine wpAny_bind (wpAny_attempt (wpAny_callSpecial?_slot (name := Str.ofString "__next__") hT F.slot_dict_valueiterator_next (wpAny_call_entry F.slot_dict_valueiterator_next hT F.entry_dict_valueiterator_next ?_ (F.args_dict_valueiterator_next_1 _))))
 wp_walk using wpAny_typeNameOfWhole_valiter hT,wpAny_fieldsOf ho hd,wpAny_dictEntries hod hdd,wpAny_dictEpoch hod hdd
 rw [show (if (i : Int) < 0 then none else es[(i : Int).toNat]?) = some es[i] by rw [if_neg (by omega),Int.toNat_natCast,Array.getElem?_eq_getElem hi]]
 have qZ : VAt I d es ep (i + 1) (s.heap.update I (Obj.mapFields (·.setIfInBounds 1 (rawInt ((i : Int) + 1))))) :=
  ⟨nI,⟨od,(Heap.get?_update_other _ _ nI).trans hod,hx,hdd⟩,_,Heap.get?_update_self _ ho (Obj.isFreed_of_fields (Obj.data_mapFields hd _)),(Obj.cls_mapFields ..).trans hc,by rw [Obj.data_mapFields hd]; simp [rawInt]⟩
 have hT2 : Shared.TypeIs { s with heap := s.heap.update I (Obj.mapFields (·.setIfInBounds 1 (rawInt ((i : Int) + 1)))) } (.ref I) "dict_valueiterator" := qZ.2.2.typeIs (s := { s with heap := _ })
 refine wpAny_bind (wpAny_bind (wpAny_typeNameOfWhole_valiter hT (wpAny_pure (wpAny_bind (wpAny_isOneOf_valiter hT (wpAny_bind (wpAny_setField (i := 1) (x := rawInt ((i : Int) + 1)) ho hd (by simp) ?_)))))))
 refine wpAny_bind (wpAny_holding (wpAny_bind (wpAny_isOneOf_valiter hT2 (wpAny_bind (wpAny_isOneOf_valiter hT2 ?_)))))
 exact wpAny_pure (wpAny_pure ⟨_,rfl,wpAny_pure (hQ _ qZ (Heap.SameBut.update ..))⟩)
theorem dv_end {I d : Addr} {es : Array DictEntry} {ep : Nat} {Q : Option Value -> Shared -> Prop} (hh : A.handled = none) (st : VAt I d es ep es.size s.heap)
 (hQ : ∀ h',Heap.ExtBut I s.heap h' -> Q none { s with heap := h' }) : wpAny (model prog w) A (pyNext (.ref I)) Q E s := by
 obtain ⟨nI,⟨od,hod,hx,hdd⟩,nY⟩ := id st
 obtain ⟨o,ho,hc,hd⟩ := id nY
 have hT := nY.typeIs
 unfold pyNext
 refine wpAny_bind (wpAny_attempt (wpAny_callSpecial?_slot (name := Str.ofString "__next__") hT F.slot_dict_valueiterator_next (wpAny_call_entry F.slot_dict_valueiterator_next hT F.entry_dict_valueiterator_next ?_ (F.args_dict_valueiterator_next_1 _))))
 wp_walk using wpAny_typeNameOfWhole_valiter hT,wpAny_fieldsOf ho hd,wpAny_dictEntries hod hdd,wpAny_dictEpoch hod hdd
 rw [show (if (es.size : Int) < 0 then none else es[(es.size : Int).toNat]?) = none by rw [if_neg (by omega),Int.toNat_natCast]; simp]
 have hh1 : A.in1.handled = none := hh
 refine wpAny_bind (wpAny_bind (wpAny_typeNameOfWhole_valiter hT (wpAny_pure (wpAny_bind (wpAny_setField (i := 0) (x := .none) ho hd (by simp) ?_)))))
 wp_walk
 simp only [raiseNew]
 refine wpAny_bind (wpAny_handled ?_)
 rw [hh1]
 refine wpAny_bind (wpAny_pure (wpAny_throw ?_))
 refine wpAny_bind (wpAny_isInstance (T := "StopIteration") (b := true) ⟨_,Heap.get?_push_size _ rfl,rfl⟩ isSubtype_stop ?_)
 exact wpAny_pure (hQ _ (((Heap.SameBut.update ..).extBut.push _).push _))
theorem entry_vi : entryFor table "dict_valueiterator.__iter__" = some Builtin.«dict_keyiterator.__iter__» := entryFor_alias (id' := "dict_keyiterator.__iter__") (by rw [fastTable_eq_tree]; kernel_rfl) rfl (by decide +kernel) (by rw [fastTable_eq_tree]; kernel_rfl)
theorem dv_walks (hh : A.handled = none) (I d : Addr) (es : Array DictEntry) (ep : Nat) : Walks prog w A I [I,d] [I] es.size (λ i v => ∃ h : i < es.size,v = es[i].val) (λ i h => VAt I d es ep i h) where
 sub := λ b hb => by rw [List.mem_singleton.mp hb]; exact List.mem_cons_self
 frame := λ i h h' ⟨n,⟨o,a,b⟩,p,c,e⟩ k => ⟨n,⟨o,k d (by simp) o a,b⟩,p,k I (by simp) p c,e⟩
 item := λ i s Q E hi st hQ => dv_item st hi λ h' st' sb => hQ _ h' s.toks ⟨hi,rfl⟩ st' λ b o hb e => sb.extBut b o (λ z => hb (by simp [z])) e
 done := λ s Q E st hQ => dv_end hh st λ h' he => hQ h' s.toks λ b o hb e => he b o (λ z => hb (by simp [z])) e
 self := λ i s Q E st hQ => by
  have hT := st.2.2.typeIs;refine wpAny_pyIter_slot hT F.slot_dict_valueiterator_iter (wpAny_call_entry F.slot_dict_valueiterator_iter hT entry_vi ?_ (F.args_dict_valueiterator_iter_1 _));exact wpAny_pure ⟨_,rfl,"dict_valueiterator",_,hT,F.slot_dict_valueiterator_next.lookup,hQ⟩
theorem dv_view {d : Addr} {es : Array DictEntry} {ep : Nat} {Q : Value -> Shared -> Prop} (hs : (d == sysModules) = false) (hd : DV s.heap d es ep) (hQ : Q (.ref s.heap.objs.size) { s with heap := s.heap.push { cls := .type "dict_values",data := .fields #[.ref d] } }) :
 wpAny (model prog w) A (call (.builtin "dict.values") [.ref d]) Q E s := by
 obtain ⟨o,ho,hx,hdat⟩ := id hd
 have hT : s.TypeIs (.ref d) "dict" := ⟨o,ho,hx.1⟩
 refine wpAny_call_entry F.slot_dict_values hT F.entry_dict_values ?_ (F.args_dict_values_1 _)
 wp_walk using wpAny_notOrdered_dict hT
 exact ⟨_,rfl,hQ⟩
theorem dv_iter {v d : Addr} {es : Array DictEntry} {ep : Nat} {Q : Value -> Shared -> Prop} (hv : s.heap.IsValuesView v d) (hd : DV s.heap d es ep)
 (hQ : VAt s.heap.objs.size d es ep 0 (s.heap.push { cls := .type "dict_valueiterator",data := .fields #[.ref d,.int 0 0,.int es.size 0,.int ep 0] }) -> Q (.ref s.heap.objs.size) { s with heap := s.heap.push { cls := .type "dict_valueiterator",data := .fields #[.ref d,.int 0 0,.int es.size 0,.int ep 0] } }) : wpAny (model prog w) A (pyIter (.ref v)) Q E s := by
 obtain ⟨ov,hov,hcv,hdv⟩ := id hv
 obtain ⟨o,ho,hx,hdat⟩ := id hd
 refine wpAny_pyIter_slot hv.typeIs F.slot_dict_values_iter (wpAny_call_entry F.slot_dict_values_iter hv.typeIs F.entry_dict_values_iter ?_ (F.args_dict_values_iter_1 _))
 wp_walk using wpAny_field hov hdv (x := .ref d) rfl,wpAny_dictEntries ho hdat,wpAny_dictEpoch ho hdat,wpAny_newObj_type (hd := by decide)
 have e : (if Builtin.Dict_items.ownsTuple "dict_valueiterator" = true then Builtin.Dict_items.ownedTupleFields ++ [Value.ref d,rawInt (if false = true then (es.size : Int) - 1 else 0),rawInt es.size,rawInt ep] ++ [Value.none,Value.none] else [Value.ref d,rawInt (if false = true then (es.size : Int) - 1 else 0),rawInt es.size,rawInt ep]).toArray = #[.ref d,.int 0 0,.int es.size 0,.int ep 0] := rfl
 rw [e]
 have iQ : s.heap.objs.size ≠ d := λ z => Nat.lt_irrefl _ (z ▸ Heap.lt_size ho)
 refine ⟨_,rfl,"dict_valueiterator",_,⟨_,Heap.get?_push_size _ rfl,rfl⟩,F.slot_dict_valueiterator_next.lookup,hQ ⟨iQ,⟨o,Heap.get?_push_of_some _ ho,hx,hdat⟩,_,Heap.get?_push_size _ rfl,rfl,rfl⟩⟩
theorem dv_list {v d : Addr} {es : Array DictEntry} {ep : Nat} {Q : Value -> Shared -> Prop} (hh : A.handled = none) (hv : s.heap.IsValuesView v d) (hd : DV s.heap d es ep) (hn : es.size <= sizeLine)
 (hQ : ∀ h' tk acc c,(∀ b o,s.heap.get? b = some o -> h'.get? b = some o) -> h'.get? s.heap.objs.size = some { cls := .type "list",dict := none,data := .seq acc c,slots := #[] } -> ItemsOf (λ i v => ∃ h : i < es.size,v = es[i].val) acc es.size -> Q (.ref s.heap.objs.size) { s with heap := h',toks := tk }) :
 wpAny (model prog w) A (call (.type "list") [.ref v]) Q E s := by
 refine callType_codes (Q₁ := λ obj s₁ => obj = .ref s.heap.objs.size /\ s₁ = { s with heap := s.heap.push { cls := .type "list",data := .seq #[] } }) F.called_list (F.typeCall_list_1 _) F.entry_list_init (code_list_new _ ⟨rfl,rfl⟩) λ obj s₁ h₁ => ?_
 obtain ⟨rfl,rfl⟩ := h₁
 have hS : (s.heap.push { cls := .type "list",data := .seq #[] }).get? s.heap.objs.size = some { cls := .type "list",data := .seq #[] } := Heap.get?_push_size _ rfl
 refine ⟨⟨_,hS,rfl⟩,F.args_list_init_2 _ _,?_⟩
 have jD : ∀ b o,s.heap.get? b = some o -> b ≠ s.heap.objs.size := λ b o e => Nat.ne_of_lt (Heap.lt_size e)
 generalize hSa : s.heap.objs.size = S at hS jD hQ ⊢
 have kp : ∀ b o,s.heap.get? b = some o -> (s.heap.push { cls := .type "list",data := .seq #[] }).get? b = some o := λ b o e => Heap.get?_push_of_some _ e
 generalize s.heap.push { cls := .type "list",data := .seq #[] } = h1 at hS kp ⊢
 show wpAny _ _ (do let jD <- Builtin.List.listItems (.ref S); Builtin.List.listUpdate (.ref S) (λ _ => #[]); letGo jD.toList.reverse; Builtin.List.listExtendWith (.ref S) (.ref v) .none) _ _ _
 refine wpAny_bind (wpAny_bind (wpAny_seqItems hS rfl (wpAny_pure (wpAny_bind (wpAny_updateSeq hS rfl (wpAny_bind (wpAny_letGo ?_)))))))
 have hS2 := Heap.get?_update_self (Obj.mapSeq (λ _ => (#[] : Array Value))) hS rfl
 have kp2 : ∀ b o,s.heap.get? b = some o -> (h1.update S (Obj.mapSeq (λ _ => (#[] : Array Value)))).get? b = some o := λ b o e => (Heap.get?_update_other _ _ (jD b o e).symm).trans (kp b o e)
 dsimp only at hS2 kp2 ⊢
 generalize h1.update S (Obj.mapSeq (λ _ => (#[] : Array Value))) = h2 at hS2 kp2 ⊢
 clear hS kp h1
 obtain ⟨ov,v1,v2,v3⟩ := id hv
 obtain ⟨od,d1,d2,d3⟩ := id hd
 have hv2 : h2.IsValuesView v d := ⟨ov,kp2 _ _ v1,v2,v3⟩
 have hT2 : Shared.TypeIs { s with heap := h2 } (.ref v) "dict_values" := ⟨ov,kp2 _ _ v1,v2⟩
 have iQ : Builtin.List.listSameRef (.ref S) (.ref v) = false := by simp [Builtin.List.listSameRef,(jD _ _ v1).symm]
 unfold Builtin.List.listExtendWith
 refine wpAny_bind (wpAny_typeOf hT2 ?_)
 rw [if_neg (by rw [iQ]; decide)]
 refine wpAny_bind (dv_iter (s := { s with heap := h2 }) hv2 ⟨od,kp2 _ _ d1,d2,d3⟩ λ st => ?_)
 have hS3 := Heap.get?_push_of_some { cls := .type "dict_valueiterator",data := .fields #[.ref d,.int 0 0,.int es.size 0,.int ep 0] } hS2
 have kp3 : ∀ b o,s.heap.get? b = some o -> (h2.push { cls := .type "dict_valueiterator",data := .fields #[.ref d,.int 0 0,.int es.size 0,.int ep 0] }).get? b = some o := λ b o e => Heap.get?_push_of_some _ (kp2 b o e)
 have hSI : S ≠ h2.objs.size := Nat.ne_of_lt (Heap.lt_size hS2)
 have nI : ∀ b o,s.heap.get? b = some o -> b ≠ h2.objs.size := λ b o e z => Nat.lt_irrefl _ (z ▸ Heap.lt_size (kp2 b o e))
 dsimp only at st hS3 kp3 hSI nI ⊢
 generalize h2.objs.size = I at st hSI nI ⊢
 generalize h2.push { cls := .type "dict_valueiterator",data := .fields #[.ref d,.int 0 0,.int es.size 0,.int ep 0] } = h3 at st hS3 kp3 ⊢
 have hT3 : Shared.TypeIs { s with heap := h3 } (.ref v) "dict_values" := ⟨ov,kp3 _ _ v1,v2⟩
 have W := (dv_walks (prog := prog) (w := w) (A := A.in1.in1) hh I d es ep).toS
 have hSf : S ∉ [I,d] := λ hm => by
  rcases List.mem_cons.mp hm with z | z
  . exact hSI z
  . exact jD _ _ d1 (List.mem_singleton.mp z).symm
 -- the kY,from any heap in which the list is empty
 have kY : ∀ (h4 : Heap) (c : Nat),(∀ b o,b ≠ S -> h3.get? b = some o -> h4.get? b = some o) -> h4.get? S = some { cls := .type "list",data := .seq #[] c } ->
  codeAny (model prog w) A.in1 (.builtin "list.extend.loop" ⟨[.ref S,.ref I,.none],[]⟩) (wants (λ r s₂ => r = Value.none /\ Q (.ref S) s₂) E) { s with heap := h4 } := λ h4 c k4 e4 => by
  have st4 : VAt I d es ep 0 h4 := by
   obtain ⟨n,⟨o,a,b⟩,p,q,r⟩ := st;exact ⟨n,⟨o,k4 _ _ (jD _ _ d1) a,b⟩,p,k4 _ _ hSI.symm q,r⟩
  refine codeAny_extend_loopS W hn S hSf .none es.size 0 _ #[] c rfl (Nat.zero_le _) st4 e4 (ItemsOf.nil _) λ s' acc c' hm hS' hacc => ?_;rw [Moved.eq_with hm];refine ⟨rfl,hQ s'.heap s'.toks acc c' (λ b o e => hm.heap b o (λ hmem => ?_) (k4 b o (jD b o e) (kp3 b o e))) hS' hacc⟩
  rcases List.mem_cons.mp hmem with z | z
  . exact jD b o e z
  . exact nI b o e (List.mem_singleton.mp z)
 refine wpAny_bind (wpAny_holding ?_)
 unfold Builtin.List.listLengthHint
 refine wpAny_bind (wpAny_specialOf hT3 F.slot_dict_values_len.lookup ?_)
 dsimp only
 rw [show splitId "dict_values.__len__" = some ("dict_values","__len__") by decide +kernel]
 refine wpAny_bind (wpAny_isInstance (b := true) hT3 (by rw [isSubtype_type]; kernel_rfl) ?_)
 rw [if_neg (by decide),if_pos (by decide +kernel)]
 refine wpAny_bind (wpAny_typeOf hT3 (wpAny_pure ?_))
 refine wpAny_ite_split (λ _ => ?_) (λ _ => wpAny_pure ⟨plainId_quiet F.plain_extend_loop _,kY h3 _ (λ _ _ _ e => e) hS3⟩)
 have hS4 := Heap.get?_update_self (Obj.mapSeq (·.push Value.none)) hS3 rfl
 have hS5 := Heap.get?_update_self (Obj.mapSeq (·.pop)) hS4 rfl
 refine wpAny_bind (wpAny_rule (wpAny_bind ?_))
 unfold Builtin.List.listTouch Builtin.List.listUpdate
 refine wpAny_bind (wpAny_updateSeq hS3 rfl (wpAny_updateSeq hS4 rfl (wpAny_pure ⟨plainId_quiet F.plain_extend_loop _,kY _ _ (λ b o hb e => ?_) hS5⟩) (hz := by seq_fits)) (hz := by seq_fits))
 exact (Heap.get?_update_other _ _ (Ne.symm hb)).trans ((Heap.get?_update_other _ _ (Ne.symm hb)).trans e)
end
section
variable {X : Cx}
abbrev Vw (v d : Addr) : HO := .ext λ h => h.IsValuesView v d
def rVals : V -> List V -> Hp -> VK -> Prop := λ x vs H Q => ∃ (d : Addr) (aO : List (List bP × V)),x = .ref d /\ vs = [] /\ H d = some (.dT aO) /\ ∀ v,H v = none -> Q (.ref v) (aL H v (Vw v d))
theorem mt_values : MtR X "dict.values" rVals := by
 intro aA s σ H x vs v us Q I rx rv h
 obtain ⟨d,aO,rfl,rfl,hd,q⟩ := h
 cases rx
 cases rv
 obtain ⟨_,nd,xs,r,o,es,ep,ho,hx,hdat,_⟩ := dt_of I.hok hd
 refine dv_view nd ⟨o,ho,hx,hdat⟩ ?_
 refine ⟨.ref s.heap.objs.size,_,I.laid (t' := s.toks) (o := Vw s.heap.objs.size d) (λ b o e => Heap.get?_push_of_some _ e) (Nat.le_refl _) ?_,rfl,q _ I.fresh⟩
 exact ⟨⟨_,Heap.get?_push_size _ rfl,rfl,rfl⟩,⟨_,Heap.get?_push_size _ rfl⟩,λ h1 h2 ⟨o,a,b⟩ k => ⟨o,k o a,b⟩⟩
theorem kt_vals {H : Hp} {aO : List (List bP × V)} {xs : List (List bP × Addr × Value)} (r : KT H aO xs) : aX (aO.map (·.2)) (xs.map (·.2.2)) := by
 induction r with
 | nil => exact .nil
 | cons h t ih => exact .cons h.2.2 ih
theorem call_listVw (hc : X.calm = true) : dP X (.type "list") (λ xs H Q => ∃ (v d : Addr) (aO : List (List bP × V)),xs = [.ref v] /\ H v = some (Vw v d) /\ H d = some (.dT aO) /\ ∀ l,H l = none -> Q (.ref l) (aL H l (.lst (aO.map (·.2))))) := by
 intro aA s σ H xs us Q I rv h
 obtain ⟨v,d,aO,rfl,hv,hd,q⟩ := h
 obtain ⟨u,rfl,ru⟩ := aX.one rv
 cases ru
 obtain ⟨hz,nd,zs,r,o,es,ep,ho,hx,hdat,hes,_⟩ := dt_of I.hok hd
 obtain ⟨hvw,_⟩ := I.hok v _ hv
 have hl : es.size = aO.length := (size_of_entries hes).trans (by have := r.length; omega)
 refine dv_list (I.ok.hd hc) hvw ⟨o,ho,hx,hdat⟩ (by omega) λ h' tk acc c hk hS hacc => ?_
 refine ⟨.ref s.heap.objs.size,_,I.laid (t' := tk) (o := .lst (aO.map (·.2))) hk (Nat.le_refl _) ⟨by rw [List.length_map]; exact hz,acc.toList,c,?_,by simpa using hS⟩,rfl,q _ I.fresh⟩
 have e : acc.toList = zs.map (·.2.2) := by
  refine List.ext_getElem (by rw [Array.length_toList,hacc.1,List.length_map]; exact size_of_entries hes) λ i a b => ?_;have ha : i < acc.size := by simpa using a
  obtain ⟨hi,ev⟩ := hacc.2 i acc[i] (Array.getElem?_eq_getElem ha);rw [Array.getElem_toList,ev,List.getElem_map];have e2 := entry_at hes i;rw [Array.getElem?_eq_getElem hi,List.getElem?_eq_getElem (by simpa using b)] at e2;rw [Option.some.inj e2];rfl
 rw [e]
 exact kt_vals r
end
end L2
namespace KKM
theorem nodup_map_on {α β : Type} {f : α -> β} {l : List α} (hf : ∀ a ∈ l,∀ b ∈ l,f a = f b -> a = b) (h : l.Nodup) : (l.map f).Nodup := by
 unfold List.Nodup at h ⊢
 rw [List.pairwise_map]
 exact List.Pairwise.imp_of_mem (λ {a b} ha hb hab e => hab (hf a ha b hb e)) h
theorem oX {α : Type} {p : α -> Bool} {l : List α} (h : l.Nodup) : (l.filter p).Nodup := h.sublist List.filter_sublist
theorem bR {α : Type} {l : List α} {i : Nat} {x : α} (h : l[i]? = some x) : l.take (i + 1) = l.take i ++ [x] := by
 rw [List.take_add_one,h]; rfl
theorem mC {α : Type} {p : α -> Bool} {l : List α} {x : α} : (l ++ [x]).filter p = if p x = true then l.filter p ++ [x] else l.filter p := by
 rw [List.filter_append]
 by_cases h : p x = true <;> simp [h]
theorem cR {α : Type} {l : List α} {i : Nat} {x y : α} (h : l[i]? = some x) : y ∈ l.take (i + 1) ↔ y ∈ l.take i \/ y = x := by
 rw [bR h,List.mem_append,List.mem_singleton]
theorem iL {α : Type} : ∀ {l : List α} {i : Nat} {x : α},l.Nodup -> l[i]? = some x -> x ∉ l.take i
 | _ :: _,0,_,_,_ => by simp
 | y :: r,i + 1,x,h,e => by
  rw [List.nodup_cons] at h;have e' : r[i]? = some x := by simpa using e
  rw [List.take_succ_cons,List.mem_cons,not_or];exact ⟨λ z => h.1 (z ▸ List.mem_of_getElem? e'),iL h.2 e'⟩
end KKM
namespace KK
open PySem L2
def top (i : Nat) : Stmt := PySem.Challenge.pw_meetdesks_k15_news_told.main.body.getD i (.Pass ⟨0,0,0,0⟩)
abbrev sCell : Stmt := top 18
abbrev sFlow : Stmt := top 19
abbrev sDraw : Stmt := top 20
abbrev nN : Stmt := top 21
def bM (H : Hp) (a : Addr) : Prop := ∃ x y z : Int,H a = some (.lst [.int x,.int y,.int z]) /\ 0 <= z /\ z < 1099511627776
def iT (a : Addr) (H H' : Hp) : Prop := ∀ b o,b ≠ a -> H b = some o -> H' b = some o
theorem iT.trans {a : Addr} {H H1 H2 : Hp} (x : iT a H H1) (y : iT a H1 H2) : iT a H H2 := λ b o n h => y b o n (x b o n h)
theorem iT.own {a : Addr} {H : Hp} {o : HO} : iT a H (aL H a o) := λ b u n h => by rw [aH n]; exact h
theorem iT.new {a p : Addr} {H : Hp} {o : HO} (h : H p = none) : iT a H (aL H p o) := λ b u _ q => by rw [aH (aD q h)]; exact q
theorem bM.some {H : Hp} {a : Addr} (f : bM H a) : ∃ o,H a = Option.some o := let ⟨_,_,_,h,_⟩ := f; ⟨_,h⟩
theorem bM.new {a p : Addr} {H : Hp} {o : HO} (f : bM H a) (h : H p = none) : bM (aL H p o) a := by
 obtain ⟨x,y,z,e,r⟩ := f
 exact ⟨x,y,z,by rw [aH (aD e h)]; exact e,r⟩
theorem bM.set {a p : Addr} {H : Hp} {o : HO} (f : bM H a) (h : a ≠ p) : bM (aL H p o) a := by
 obtain ⟨x,y,z,e,r⟩ := f
 exact ⟨x,y,z,by rw [aH h]; exact e,r⟩
def jB : Sp := λ vs H Q _ => ∃ (a : Addr) (m : Int),vs = [.ref a,.int m] /\ bM H a /\ 0 < m /\ m <= 100000000000000000000 /\ ∀ (r : Int) (H' : Hp),0 <= r -> r < m -> bM H' a -> iT a H H' -> Q (.int r) H'
def spCell (K : W.Frag) : Sp := λ vs H Q _ => ∃ (a : Addr) (ns : List Int) (k : Int),vs = [.ref a,.int k] /\ bC K H a (ns.map V.int) /\ ns.length <= 63 /\ 0 <= k /\ k <= 100 /\ ∀ r : Int,Q (.int r) H
def spFlow (K : W.Frag) : Sp := λ vs H Q _ => ∃ (a : Addr) (ns : List Int) (k : Int),vs = [.ref a,.int k] /\ bC K H a (ns.map V.int) /\ ns.length <= 63 /\ 0 <= k /\ k <= 100 /\ ∀ (p : Addr) (o : HO),H p = none -> bM (aL H p o) p -> Q (.ref p) (aL H p o)
section
variable {P : Program} {w : World} {K : W.Frag} {mg : Str -> Option Value} {base : Heap} {f g : Addr} {fd gd : FuncData} {k : Nat}
theorem scDraw : bI ["_law_flow_here","_law_many","_law_digit","_law_number"] ["_law_flow_here","_law_many"] (aG sDraw) := (.of rfl rfl rfl rfl (by decide +kernel))
theorem gH {n : Nat} (h : n <= 1000) : n <= sizeLine := Nat.le_of_lt (small1000 h)
theorem ok_draw (F : jY K "_law_draw" "_law_draw" sDraw f fd) : FnOk P w K mg base gO (k + 1) f fd ["_law_flow_here","_law_many"] jB := by
 refine F.ok scDraw (λ vs H Q E h => ?_) (λ cdv A outer s H vs Q E hr h => ?_)
 . obtain ⟨a,m,rfl,_⟩ := h;rfl
 obtain ⟨a,m,rfl,⟨x,y,z,e,hz0,hz1⟩,m0,m1,q⟩ := h
 have nd := scDraw.nd
 refine ⟨_,aE (dH (bX op_gt (cN bS (pv 0) aJ (λ _ _ => rfl)) aJ (eD _))
  (aE (aS (i := 2) nd rfl (Or.inl rfl) (aW gN (cN bS (pv 0) aJ (λ _ _ => rfl)) (pv 1)))
  (aE (ps_asg (aW op_fdivB (cN bS (pv 0) aJ (λ _ _ => rfl)) (pv 1)) (pg_sub (pv 0) aJ set_list)) (aK (bN (pv 2))))) bU) (aE (ps_asg (aW dF (cN bS (pv 0) aJ (λ _ _ => rfl)) aJ) (pg_sub (pv 0) aJ set_list)) (aE (aS (i := 3) nd rfl (Or.inl rfl) (aW gN (aW dF (aW dF (aW iH (cN bS (pv 0) aJ (λ _ _ => rfl)) (aW dF aJ (aW iH aJ (cN bS (pv 0) aJ (λ _ _ => rfl))))) (aW iH aJ (cN bS (pv 0) aJ (λ _ _ => rfl)))) aJ) aJ)) (aE (aS (i := 3) nd rfl (Or.inl rfl) (aW gN (aW iH (pv 3) (pv 3)) aJ)) (aK (bN (aW gN (aW op_fdivB (aW gN (aW iH (aW dF (pv 3) aJ) (aW dF (pv 3) aJ)) aJ) aJ) (pv 1))))))),?_⟩
 refine ⟨_,rfl,a,_,_,_,rfl,rfl,bC.of e,rfl,_,_,rfl,rfl,_,rfl,?_⟩
 refine kW (λ c => ?_) (λ c => ?_)
 . refine ⟨_,rfl,a,_,_,_,rfl,rfl,bC.of e,rfl,_,rfl,_,_,rfl,rfl,m0,?_⟩;refine ⟨_,rfl,a,_,_,_,rfl,rfl,bC.of e,rfl,_,rfl,_,_,rfl,rfl,⟨m0,Int.le_trans m1 (by decide)⟩,_,rfl,a,_,_,_,rfl,rfl,e,rfl,?_⟩;refine ⟨_,rfl,q _ _ (Int.emod_nonneg _ (by omega)) (Int.emod_lt_of_pos _ m0) ⟨_,_,_,aC,hz0,hz1⟩ iT.own⟩
 . refine ⟨_,rfl,a,_,_,_,rfl,rfl,bC.of e,rfl,_,_,rfl,rfl,_,rfl,a,_,_,_,rfl,rfl,e,rfl,?_⟩;have e2 : aL H a (.lst [.int x,.int (y + 1),.int z]) a = some (.lst [.int x,.int (y + 1),.int z]) := aC;refine ⟨_,rfl,a,_,_,_,rfl,rfl,bC.of e2,rfl,_,rfl,a,_,_,_,rfl,rfl,bC.of e2,rfl,_,_,rfl,rfl,.inl ⟨by decide,by decide⟩,_,_,rfl,rfl,_,_,rfl,rfl,.inl ⟨by omega,by omega⟩,_,rfl,a,_,_,_,rfl,rfl,bC.of e2,rfl,_,_,rfl,rfl,.inl ⟨by decide,by decide⟩,_,_,rfl,rfl,_,_,rfl,rfl,_,_,rfl,rfl,(show (0 : Int) < 2147483629 by decide),?_⟩;have b1 := Int.emod_nonneg (z * (48271 + 2 * (y + 1)) + 7919 * (y + 1) + 1) (show (2147483629 : Int) ≠ 0 by decide);have b2 := Int.emod_lt_of_pos (z * (48271 + 2 * (y + 1)) + 7919 * (y + 1) + 1) (show (0 : Int) < 2147483629 by decide);generalize (z * (48271 + 2 * (y + 1)) + 7919 * (y + 1) + 1) % 2147483629 = n1 at b1 b2 ⊢;refine ⟨_,rfl,_,rfl,_,_,rfl,rfl,.inl ⟨by omega,by omega⟩,_,_,rfl,rfl,(show (0 : Int) < 2147483587 by decide),?_⟩;have b3 := Int.emod_nonneg (n1 * n1) (show (2147483587 : Int) ≠ 0 by decide);have b4 := Int.emod_lt_of_pos (n1 * n1) (show (0 : Int) < 2147483587 by decide);generalize n1 * n1 % 2147483587 = n2 at b3 b4 ⊢;refine ⟨_,rfl,_,_,rfl,rfl,_,rfl,_,_,rfl,rfl,_,_,rfl,rfl,.inl ⟨by omega,by omega⟩,_,_,rfl,rfl,(show (0 : Int) < 2147483579 by decide),_,_,rfl,rfl,⟨by decide,by decide⟩,_,rfl,_,_,rfl,rfl,m0,?_⟩;exact q _ _ (Int.emod_nonneg _ (by omega)) (Int.emod_lt_of_pos _ m0) ⟨_,_,_,e2,hz0,hz1⟩ iT.own
theorem scCell : bI ["_law_script","_law_k","_law_number"] ["_law_script","_law_k"] (aG sCell) := (.of rfl rfl rfl rfl (by decide +kernel))
theorem at_in {ns : List Int} {k : Int} (h0 : 0 <= k) (h1 : k < (ns.length : Int)) : ∃ v : Int,oB (ns.map V.int) k = some (.int v) := by
 have hk : k.toNat < ns.length := by omega
 have ek : k = ((k.toNat : Nat) : Int) := by omega
 refine ⟨ns[k.toNat],?_⟩
 have q : oB (ns.map V.int) ((k.toNat : Nat) : Int) = some (.int ns[k.toNat]) := bT (by rw [List.getElem?_map,List.getElem?_eq_getElem hk]; rfl)
 rw [<- ek] at q
 exact q
theorem ok_cell (F : jY K "_law_cell" "_law_cell" sCell f fd) (ml : mg "len" = none) : FnOk P w K mg base gO (k + 1) f fd ["_law_script","_law_k"] (spCell K) := by
 refine F.ok scCell (λ vs H Q E h => ?_) (λ cdv A outer s H vs Q E hr h => ?_)
 . obtain ⟨a,ns,i,rfl,_⟩ := h;rfl
 obtain ⟨a,ns,i,rfl,hS,h63,i0,i1,q⟩ := h
 have nd := scCell.nd
 have hl : (ns.map V.int).length = ns.length := List.length_map _
 refine ⟨_,aE (dH (bX op_lt (pv 1) (aZ cQ rfl ml PySem.boot_len (aB (pv 0) aF)) (eD _)) (aK (bN (cN bS (pv 0) (pv 1) (λ _ _ => rfl)))) bU) (aE (aS (i := 2) nd rfl (Or.inl rfl) (aW dF (aW iH (pv 1) aJ) aJ)) (aE (dH (bX op_gt (aZ cQ rfl ml PySem.boot_len (aB (pv 0) aF)) aJ (eD _))
  (aK (aS (i := 2) nd rfl (Or.inl rfl) (aW dF (aW iH (aW gN (cN bS (pv 0) (aW gN (aW iH (pv 1) aJ) (aZ cQ rfl ml PySem.boot_len (aB (pv 0) aF))) (λ _ _ => rfl)) aJ) aJ) (aW iH (pv 1) aJ)))) bU) (aK (bN (aW iH (aW gN (pv 2) aJ) aJ))))),?_⟩
 have eO : ∀ n : Int,(λ (v : V) H1 => Q v H1) (.int (n % 2147483647 * 31)) H := λ n => q _
 have mulok : ∀ n : Int,CMul (n % 2147483647) 31 := λ n => by
  have b1 := Int.emod_nonneg n (show (2147483647 : Int) ≠ 0 by decide);have b2 := Int.emod_lt_of_pos n (show (0 : Int) < 2147483647 by decide);exact .inl ⟨by omega,by omega⟩
 refine ⟨_,rfl,_,rfl,a,_,rfl,.inl hS,_,_,rfl,rfl,_,rfl,?_⟩
 rw [hl]
 refine kW (λ c => ?_) (λ c => ?_)
 . have c' : i < (ns.length : Int) := of_decide_eq_true c;obtain ⟨v,hv⟩ := at_in (ns := ns) i0 c';exact ⟨_,rfl,_,rfl,a,_,_,_,rfl,rfl,hS,hv,q v⟩
 . refine ⟨_,rfl,_,_,rfl,rfl,.inl ⟨by omega,by omega⟩,_,_,rfl,rfl,?_⟩;refine ⟨_,rfl,a,_,rfl,.inl hS,_,_,rfl,rfl,_,rfl,?_⟩;rw [hl];refine kW (λ c2 => ?_) (λ c2 => ?_)
   . have c' : 0 < (ns.length : Int) := of_decide_eq_true c2;have b1 := Int.emod_nonneg (i * 7) (show (ns.length : Int) ≠ 0 by omega);have b2 := Int.emod_lt_of_pos (i * 7) c';obtain ⟨v,hv⟩ := at_in (ns := ns) b1 b2;have b3 := Int.emod_nonneg v (show (2147483629 : Int) ≠ 0 by decide);have b4 := Int.emod_lt_of_pos v (show (0 : Int) < 2147483629 by decide);refine ⟨_,rfl,_,rfl,_,_,rfl,rfl,.inl ⟨by omega,by omega⟩,_,rfl,a,_,rfl,.inl hS,_,_,rfl,rfl,by rw [hl]; exact c',a,_,_,_,rfl,rfl,hS,by rw [hl]; exact hv,_,_,rfl,rfl,(show (0 : Int) < 2147483629 by decide),_,_,rfl,rfl,.inl ⟨by omega,by omega⟩,_,rfl,_,_,rfl,rfl,.inl ⟨by omega,by omega⟩,_,_,rfl,rfl,?_⟩;exact ⟨_,rfl,_,_,rfl,rfl,(show (0 : Int) < 2147483647 by decide),_,_,rfl,rfl,mulok _,q _⟩
   . exact ⟨_,rfl,_,_,rfl,rfl,(show (0 : Int) < 2147483647 by decide),_,_,rfl,rfl,mulok _,q _⟩
theorem scFlow : bI ["_law_script","_law_k","_law_cell_here","_law_own"] ["_law_script","_law_k"] (aG sFlow) := (.of rfl rfl rfl rfl (by decide +kernel))
theorem ok_flow (F : jY K "_law_flow" "_law_flow" sFlow f fd) (G : FnOk P w K mg base gO k g gd ["_law_script","_law_k"] (spCell K)) (bG : fG K gd ["_law_script","_law_k"] []) (kG : W.keepIn K (.ref g) = true) (mG : mg "_law_cell" = some (.ref g)) :
 FnOk P w K mg base gO (k + 1) f fd ["_law_script","_law_k"] (spFlow K) := by
 refine F.ok scFlow (λ vs H Q E h => ?_) (λ cdv A outer s H vs Q E hr h => ?_)
 . obtain ⟨a,ns,i,rfl,_⟩ := h;rfl
 obtain ⟨a,ns,i,rfl,hS,h63,i0,i1,q⟩ := h
 have nd := scFlow.nd
 refine ⟨_,aE (aS (i := 2) nd rfl (Or.inl rfl) (aQ G hr rfl mG kG bG .nil bE (aB (pv 0) (aB (pv 1) aF)))) (aE (aS (i := 3) nd rfl (Or.inl rfl) aJ) (aE (dH (bX op_ge (pv 2) (aW op_pow aJ aJ) (eD _)) (aK (aS (i := 3) nd rfl (Or.inl rfl) (pv 2))) bU) (aK (bN (iG (aB (pv 3) (aB aJ (aB (aW dF (aW gN (pv 2) aJ) (aW iH aJ (pv 1))) aF)))))))),?_⟩
 refine ⟨_,rfl,_,rfl,a,ns,i,rfl,hS,h63,i0,i1,λ r => ?_⟩
 have b3 := Int.emod_nonneg r (show (2147483629 : Int) ≠ 0 by decide)
 have b4 := Int.emod_lt_of_pos r (show (0 : Int) < 2147483629 by decide)
 refine ⟨_,rfl,_,_,rfl,rfl,⟨by decide,by decide,by decide⟩,_,_,rfl,rfl,_,rfl,?_⟩
 have eO : ∀ (own : Int) (p : Addr),H p = none -> Q (.ref p) (aL H p (.lst [.int own,.int 0,.int (r % 2147483629 + 40692 * i)])) := λ own p hp => q p _ hp ⟨_,_,_,aC,by omega,by omega⟩
 refine kW (λ c => ?_) (λ c => ?_)
 . refine ⟨_,rfl,_,rfl,_,rfl,_,_,rfl,rfl,(show (0 : Int) < 2147483629 by decide),_,rfl,_,_,rfl,rfl,.inl ⟨by decide,by decide⟩,_,_,rfl,rfl,gH (show 3 <= 1000 by decide),λ p hp => eO _ p hp⟩
 . refine ⟨_,rfl,_,rfl,_,_,rfl,rfl,(show (0 : Int) < 2147483629 by decide),_,rfl,_,_,rfl,rfl,.inl ⟨by decide,by decide⟩,_,_,rfl,rfl,gH (show 3 <= 1000 by decide),λ p hp => eO _ p hp⟩
end
end KK
namespace L2
theorem dO {N fr : List PySem.Str} {idx : List Nat} (h : idx.map (λ j => N[j]?) = fr.map some) : ∀ (k : Nat) (x : PySem.Str) (j : Nat),fr[k]? = some x -> idx[k]? = some j -> N[j]? = some x := λ k x j h1 h2 => by
 have e : (idx.map λ j => N[j]?)[k]? = (fr.map some)[k]? := by rw [h]
 rw [List.getElem?_map,List.getElem?_map,h1,h2] at e
 exact Option.some.inj e
theorem pig {α : Type} [DecidableEq α] : ∀ (xs cs : List α),cs.Nodup -> xs.length < cs.length -> ∃ c,c ∈ cs /\ c ∉ xs
 | [],[],_,h => by simp at h
 | [],c :: r,_,_ => ⟨c,List.mem_cons_self,by simp⟩
 | x :: r,cs,hn,h => by
  have hl : r.length < (cs.erase x).length := by
   rw [List.length_erase];rw [List.length_cons] at h
   split <;> omega
  obtain ⟨c,h1,h2⟩ := pig r (cs.erase x) (hn.erase x) hl;have h3 := hn.mem_erase_iff.mp h1;exact ⟨c,h3.2,λ z => (List.mem_cons.mp z).elim h3.1 h2⟩
end L2
namespace KK
open PySem L2 PyProof.Rows
def mZ : Str := "abcdefghijklmnopqrstuvwxyz"
theorem abc_at {r : Int} (h0 : 0 <= r) (h1 : r < 26) : ∃ c,oB mZ.cps.toList r = some c := by
 have hl : mZ.cps.toList.length = 26 := by decide +kernel
 have hk : r.toNat < mZ.cps.toList.length := by omega
 have ek : r = ((r.toNat : Nat) : Int) := by omega
 have q : oB mZ.cps.toList ((r.toNat : Nat) : Int) = some (mZ.cps.toList[r.toNat]) := bT (List.getElem?_eq_getElem hk)
 rw [<- ek] at q
 exact ⟨_,q⟩
theorem abc_len : mZ.length <= sizeLine := by rw [sizeLine_eq]; decide +kernel
def nB (ys : List Str) : Prop := ∀ y ∈ ys,y.length = 1
theorem nB.snoc {ys : List Str} (h : nB ys) {y : Str} (e : y.length = 1) : nB (ys ++ [y]) := λ z hz => (List.mem_append.mp hz).elim (h z) λ q => by rw [List.mem_singleton.mp q]; exact e
theorem signs_sum : ∀ {ys : List Str},nB ys -> (ys.map (·.length)).sum = ys.length
 | [],_ => rfl
 | y :: r,h => by
  have e1 := h y List.mem_cons_self;have e2 := signs_sum (ys := r) λ z hz => h z (List.mem_cons_of_mem _ hz);rw [List.map_cons,List.sum_cons,e2,e1,List.length_cons];omega
def Bd (ys : List Str) : Prop := ∀ y ∈ ys,0 < y.length /\ y.length <= 200
abbrev teSign : TE := iC rIxS (aU 2) (nA jB [] E0 (cC (aU 1) (cC (tC (.int 26)) fD)))
theorem dN {H : Hp} {a D : Addr} (hD : H D = none) (hF : bM H a) : D ≠ a := λ z => by
 obtain ⟨o,ho⟩ := hF.some
 rw [z,ho] at hD; cases hD
theorem ext_at {H H1 H4 : Hp} {a D : Addr} {o : HO} (hD : H D = none) (x : iT a H H4) : iT a H (aL H4 D o) := λ b u nb hb => by
 rw [aH (aD hb hD)]; exact x b u nb hb
theorem letters {n : Nat} {D a : Addr} {Q : VK} {H1 : Hp} (hn : n <= 8) (hD : H1 D = none) (hF : bM H1 a)
 (hd : ∀ (ys : List Str) (H' : Hp),ys.length = n -> nB ys -> bM H' a -> iT a H1 H' -> H' D = some (.lst (ys.map V.str)) -> Q (.ref D) H') :
 cG (Itr 0 n) D (bO 0) fV teSign Q [none,some (.ref a),some (.str mZ)] H1 := by
 have nD := dN hD hF
 refine iV (λ i ys σ H => ∃ (xs : List Str) (v : Option V),ys = xs.map V.str /\ xs.length = i /\ nB xs /\ σ = [v,some (.ref a),some (.str mZ)] /\ bM H a /\ iT a H1 H) ?_ (by omega) ?_ ?_ ?_
 . exact ⟨[],none,rfl,rfl,(by intro _ z; cases z),rfl,hF.new hD,iT.new hD⟩
 . rintro i ys σ H ⟨xs,v,rfl,rfl,_⟩;rw [List.length_map]; exact Nat.le_refl _
 . rintro i ys σ H hi hl ⟨xs,v,rfl,rfl,hs,rfl,f,x⟩;refine ⟨_,rfl,_,rfl,a,26,rfl,f,by decide,by decide,λ r H4 r0 r1 f4 x4 => ?_⟩;obtain ⟨c,hc⟩ := abc_at r0 r1;have hl4 : H4 D = some (.lst (xs.map V.str)) := x4 D _ nD hl;refine ⟨mZ,r,c,rfl,rfl,abc_len,hc,hl4,xs ++ [⟨#[c]⟩],_,by rw [List.map_append]; rfl,by rw [List.length_append]; rfl,hs.snoc rfl,rfl,f4.set (Ne.symm nD),ext_at (H1 := H1) hD (x.trans x4)⟩
 . rintro ys σ H hl ⟨xs,v,rfl,e,hs,_,f,x⟩;exact hd xs H e hs f x hl
def wordOf (ys : List Str) : Str := Txt.join "" ys
theorem word_len {ys : List Str} (h : nB ys) (hl : ys.length <= 8) : (wordOf ys).length <= 68 /\ (ys.map (·.length)).sum + ys.length * (Str.length "") <= 16777216 := by
 have e := signs_sum h
 refine ⟨?_,?_⟩
 . have q := len_join_le (sep := "") (ys := ys) (n := 16) (by unfold Weighs; omega) (by decide);exact Nat.le_trans q (by decide)
 . have e0 : Str.length "" = 0 := by decide
   rw [e,e0]; omega
theorem fold_ge (g : Str) : ∀ (l : List Str) (acc : Array Nat),acc.size <= (l.foldl (λ acc p => acc ++ g.cps ++ p.cps) acc).size
 | [],acc => Nat.le_refl _
 | p :: r,acc => by rw [List.foldl_cons]; exact Nat.le_trans (by rw [Array.size_append,Array.size_append]; omega) (fold_ge g r _)
theorem word_pos {ys : List Str} (h : nB ys) (iQ : ys ≠ []) : 0 < (wordOf ys).length := by
 cases ys with
 | nil => exact absurd rfl iQ
 | cons y r =>
  have e : y.cps.size = 1 := h y List.mem_cons_self;have q := fold_ge "" r y.cps;rw [e] at q;exact q
def spNames : Sp := λ vs H Q _ => ∃ (a : Addr) (m : Int),vs = [.ref a,.int m] /\ bM H a /\ 1 <= m /\ m <= 6 /\ ∀ (r : Addr) (ys : List Str) (H' : Hp),(ys.length : Int) = m -> Bd ys -> ys.Nodup -> r ≠ a -> bM H' a -> iT a H H' -> H' r = some (.lst (ys.map V.str)) -> Q (.ref r) H'
abbrev NN : List Str := ["_law_flow_here","_law_many","_law_some","_law_found","_law_k","_law_name","_law_word","_law_at","_law_first","_law_long"]
theorem scNames : bI NN ["_law_flow_here","_law_many"] (aG nN) := (.of rfl rfl rfl rfl (by decide +kernel))
theorem eF (ys : List Str) : (ys.map V.str).all pC = true := by
 rw [List.all_map]; exact List.all_eq_true.mpr λ _ _ => rfl
theorem inV_not {y : Str} {ys : List Str} (h : V.str y ∉ ys.map V.str) : inV (.str y) (ys.map V.str) = false := by
 unfold inV
 rw [List.any_eq_false]
 intro z hz
 obtain ⟨u,hu,rfl⟩ := List.mem_map.mp hz
 intro q
 have q' : (u == y) = true := q
 have e : u = y := by simpa using q'
 exact h (List.mem_map.mpr ⟨u,hu,by rw [e]⟩)
theorem Bd.snoc {ys : List Str} (h : Bd ys) {y : Str} (e : 0 < y.length /\ y.length <= 200) : Bd (ys ++ [y]) := λ z hz => (List.mem_append.mp hz).elim (h z) λ q => by rw [List.mem_singleton.mp q]; exact e
theorem Bd.set {ys : List Str} (h : Bd ys) {y : Str} (e : 0 < y.length /\ y.length <= 200) (i : Nat) : Bd (ys.set i y) := λ z hz => (List.mem_or_eq_of_mem_set hz).elim (h z) λ q => by rw [q]; exact e
theorem app_len (x y : Str) : (x ++ y).length = x.length + y.length := by
 show (x.cps ++ y.cps).size = x.cps.size + y.cps.size
 simp
theorem dA : (1000 : Nat) <= sizeLine := by rw [sizeLine_eq]; decide
theorem not_found {ys : List Str} (h : ys.length < 26) : ∃ (j : Nat) (c : Nat),j < 26 /\ mZ.cps[j]? = some c /\ inV (.str ⟨#[c]⟩) (ys.map V.str) = false := by
 obtain ⟨v,h1,h2⟩ := pig (ys.map V.str) (mZ.cps.toList.map λ c => V.str ⟨#[c]⟩) (by decide +kernel) (by rw [List.length_map,List.length_map]; exact Nat.lt_of_lt_of_le h (by decide +kernel))
 obtain ⟨c,hc,rfl⟩ := List.mem_map.mp h1
 obtain ⟨j,hj⟩ := List.getElem?_of_mem hc
 refine ⟨j,c,?_,by simpa using hj,inV_not h2⟩
 have := (List.getElem?_eq_some_iff.mp hj).1
 exact Nat.lt_of_lt_of_le this (by decide +kernel)
theorem inV_mem {y : Str} {ys : List Str} : inV (.str y) (ys.map V.str) = true ↔ y ∈ ys := by
 unfold inV
 rw [List.any_map,List.any_eq_true]
 constructor
 . rintro ⟨x,hx,q⟩;have q' : (x == y) = true := q;have e : x = y := by simpa using q'
   rw [<- e]; exact hx
 . intro h;exact ⟨y,h,show (y == y) = true by simp⟩
theorem eR {y : Str} {ys : List Str} : inV (.str y) (ys.map V.str) = false ↔ y ∉ ys := by
 rw [<- inV_mem]; simp
theorem nodup_snoc {α : Type} {ys : List α} {y : α} (h : ys.Nodup) (n : y ∉ ys) : (ys ++ [y]).Nodup := by
 rw [List.nodup_append]
 refine ⟨h,(by simp),λ a ha b hb e => ?_⟩
 rw [List.mem_singleton.mp hb] at e
 rw [e] at ha
 exact n ha
theorem nodup_set0 {us : List Str} {x : Str} (h : us.Nodup) (n : x ∉ us) : (us.set 0 x).Nodup := by
 cases us with
 | nil => exact h
 | cons u r =>
  rw [List.set_cons_zero];rw [List.nodup_cons] at h ⊢;exact ⟨λ z => n (List.mem_cons_of_mem _ z),h.2⟩
theorem lI {f : Nat -> Str} {n : Nat} (h : ∀ i j,i < j -> j < n -> f i ≠ f j) : ((List.range n).map f).Nodup := by
 unfold List.Nodup
 rw [List.pairwise_map]
 refine List.Pairwise.imp_of_mem (R := λ a b => a < b) (λ {a b} _ hb hab => ?_) List.pairwise_lt_range
 exact h a b hab (List.mem_range.mp hb)
def kO (r : Int) : Nat := mZ.cps.toList.getD r.toNat 0
theorem abc_atC {r : Int} (h0 : 0 <= r) (h1 : r < 26) : oB mZ.cps.toList r = some (kO r) := by
 have hl : mZ.cps.toList.length = 26 := by decide +kernel
 have hk : r.toNat < mZ.cps.toList.length := by omega
 have ek : r = ((r.toNat : Nat) : Int) := by omega
 have q : oB mZ.cps.toList ((r.toNat : Nat) : Int) = some (kO r) := bT (by unfold kO; rw [List.getD_eq_getElem?_getD,List.getElem?_eq_getElem hk]; rfl)
 rw [<- ek] at q
 exact q
theorem abcC_inj {r s : Int} (r0 : 0 <= r) (r1 : r < 26) (s0 : 0 <= s) (s1 : s < 26) (e : kO r = kO s) : r = s := by
 have hl : mZ.cps.toList.length = 26 := by decide +kernel
 have nd : mZ.cps.toList.Nodup := by decide +kernel
 have hr : r.toNat < mZ.cps.toList.length := by omega
 have hs : s.toNat < mZ.cps.toList.length := by omega
 unfold kO at e
 rw [List.getD_eq_getElem?_getD,List.getD_eq_getElem?_getD,List.getElem?_eq_getElem hr,List.getElem?_eq_getElem hs] at e
 have := (List.getElem_inj nd).mp e
 omega
def famS (word : Str) (at' first : Int) (k : Nat) : Str := Txt.slice word none (some at') ++ ⟨#[kO ((first + 7 * (0 + (k : Int))) % 26)]⟩ ++ Txt.slice word (some at') none
theorem fam_ne {word : Str} {at' first : Int} {i j : Nat} (h : i < j) (hj : j < 6) : famS word at' first i ≠ famS word at' first j := λ e => by
 have e1 : (famS word at' first i).cps.toList = (famS word at' first j).cps.toList := by rw [e]
 have q : ∀ k : Nat,(famS word at' first k).cps.toList = (Txt.slice word none (some at')).cps.toList ++ ([kO ((first + 7 * (0 + (k : Int))) % 26)] ++ (Txt.slice word (some at') none).cps.toList) := λ k => by
  show ((Txt.slice word none (some at')).cps ++ #[kO ((first + 7 * (0 + (k : Int))) % 26)] ++ (Txt.slice word (some at') none).cps).toList = _
  simp
 rw [q i,q j] at e1
 have e2 := List.append_cancel_right (List.append_cancel_left e1)
 have e3 : kO ((first + 7 * (0 + (i : Int))) % 26) = kO ((first + 7 * (0 + (j : Int))) % 26) := (List.cons.inj e2).1
 have e4 := abcC_inj (by omega) (by omega) (by omega) (by omega) e3
 omega
theorem fam_nodup {word : Str} {at' first : Int} {n : Nat} (hn : n <= 6) : ((List.range n).map (famS word at' first)).Nodup := lI λ i j h hj => fam_ne h (by omega)
end KK
namespace KK
open PySem L2 PyProof.Rows
section
variable {P : Program} {w : World} {K : W.Frag} {mg : Str -> Option Value} {base : Heap} {f g : Addr} {fd gd : FuncData} {k : Nat}
theorem unused {D q : Addr} {Q : VK} {H1 : Hp} {ys : List Str} (hy : ys.length < 26) (hD : H1 D = none) (hq : H1 q = some (.lst (ys.map V.str)))
 (hd : ∀ (zs : List Str),zs ≠ [] -> nB zs -> (∀ z ∈ zs,z ∉ ys) -> ∀ H',(∀ b o,H1 b = some o -> H' b = some o) -> H' D = some (.lst (zs.map V.str)) -> Q (.ref D) H') :
 cG (Its mZ) D (bO 0) (lR (iC (rIn K true) (aU 0) (aU 1))) (aU 0) Q [none,some (.ref q)] H1 := by
 obtain ⟨j0,c0,hj,hc0,hin⟩ := not_found hy
 have nqD : q ≠ D := aD hq hD
 refine comp_str (λ i zs σ H => ∃ (xs : List Str) (v : Option V),zs = xs.map V.str /\ xs.length <= i /\ nB xs /\ σ = [v,some (.ref q)] /\ (∀ z ∈ xs,z ∉ ys) /\ (j0 < i -> xs ≠ []) /\ (∀ b o,H1 b = some o -> H b = some o)) ?_ (by decide +kernel) ?_ ?_ ?_
 . exact ⟨[],none,rfl,Nat.le_refl _,(by intro _ z; cases z),rfl,(by intro _ z; cases z),(by intro z; omega),λ b o h => by rw [aH (aD h hD)]; exact h⟩
 . rintro i zs σ H ⟨xs,v,rfl,h,_⟩;rw [List.length_map]; exact h
 . rintro i c zs σ H hc hl ⟨xs,v,rfl,hle,hs,rfl,hnm,iQ,hk⟩;refine ⟨_,rfl,_,rfl,q,_,rfl,.inl (bC.of (hk _ _ hq)),rfl,eF ys,_,rfl,?_⟩;refine kW (λ b => ?_) (λ b => ?_)
   . refine ⟨_,rfl,hl,xs ++ [⟨#[c]⟩],_,by rw [List.map_append]; rfl,by rw [List.length_append,List.length_singleton]; omega,hs.snoc rfl,rfl,λ z hz => ?_,λ _ z => ?_,λ b o h => ?_⟩
     . rcases List.mem_append.mp hz with hz | hz
       . exact hnm z hz
       . rw [List.mem_singleton.mp hz];have b2 : (!inV (.str ⟨#[c]⟩) (ys.map V.str)) = true := by simpa using b
         exact eR.mp (by simpa using b2)
     . have e := congrArg List.length z;rw [List.length_append,List.length_singleton] at e;simp at e
     . rw [aH (aD h hD)]; exact hk b o h
   . refine ⟨hl,xs,_,rfl,by omega,hs,rfl,hnm,λ h => ?_,hk⟩
     by_cases hi : j0 < i
     . exact iQ hi
     . have e : i = j0 := by omega
       subst e;have e2 : c = c0 := Option.some.inj (hc.symm.trans hc0);rw [<- e2] at hin;exact absurd (show (if true = true then !inV (.str ⟨#[c]⟩) (ys.map V.str) else inV (.str ⟨#[c]⟩) (ys.map V.str)) = true by rw [if_pos rfl,hin]; rfl) b
 . rintro zs σ H hl ⟨xs,v,rfl,_,hs,_,hnm,iQ,hk⟩;exact hd xs (iQ (Nat.lt_of_lt_of_le hj (by decide +kernel))) hs hnm H hk hl
theorem sl_len (x : Str) (lo hi : Option Int) : (Txt.slice x lo hi).length <= x.length := Txt.slice_le x lo hi
theorem family {D : Addr} {Q : VK} {H1 : Hp} {word : Str} {at' first : Int} {n : Nat} (hw : word.length <= 68) (h0 : 0 <= first) (hn : n <= 6) (hD : H1 D = none)
 (hd : ∀ (zs : List Str) H',zs.length = n -> Bd zs -> zs.Nodup -> (∀ b o,H1 b = some o -> H' b = some o) -> H' D = some (.lst (zs.map V.str)) -> Q (.ref D) H') :
 cG (Itr 0 n) D (bO 0) fV (iC (λ x y H Q => ∃ i j,x = .str i /\ y = .str j /\ i.length + j.length <= sizeLine /\ Q (.str (i ++ j)) H)
  (iC (λ x y H Q => ∃ i j,x = .str i /\ y = .str j /\ i.length + j.length <= sizeLine /\ Q (.str (i ++ j)) H) (tSl rSlS (aU 1) mH (tPart (aU 2)))
   (iC rIxS (aU 3) (iC (rI (λ _ j => 0 < j) λ i j => .int (i % j)) (iC (rI0 λ i j => .int (i + j)) (aU 4) (iC (rI CMul λ i j => .int (i * j)) (tC (.int 7)) (aU 0))) (tC (.int 26)))))
  (tSl rSlS (aU 1) (tPart (aU 2)) mH)) Q [none,some (.str word),some (.int at'),some (.str mZ),some (.int first)] H1 := by
 have hz : word.length <= sizeLine := Nat.le_trans (by omega) dA
 refine iV (λ i zs σ H => ∃ (xs : List Str) (v : Option V),zs = xs.map V.str /\ xs = (List.range i).map (famS word at' first) /\ xs.length = i /\ Bd xs /\ σ = [v,some (.str word),some (.int at'),some (.str mZ),some (.int first)] /\ (∀ b o,H1 b = some o -> H b = some o)) ?_ (by omega) ?_ ?_ ?_
 . exact ⟨[],none,rfl,rfl,rfl,(by intro _ z; cases z),rfl,λ b o h => by rw [aH (aD h hD)]; exact h⟩
 . rintro i zs σ H ⟨xs,v,rfl,_,rfl,_⟩;rw [List.length_map]; exact Nat.le_refl _
 . rintro i zs σ H hi hl ⟨xs,v,rfl,hfam,rfl,hb,rfl,hk⟩;have hc := abc_atC (Int.emod_nonneg (first + 7 * (0 + (xs.length : Int))) (show (26 : Int) ≠ 0 by decide)) (Int.emod_lt_of_pos _ (by decide));generalize hcc : kO ((first + 7 * (0 + (xs.length : Int))) % 26) = c at hc;have l1 := sl_len word none (some at');have l2 := sl_len word (some at') none;have l3 : Str.length ⟨#[c]⟩ = 1 := rfl;have l4 := app_len (Txt.slice word none (some at')) ⟨#[c]⟩;have l5 := app_len (Txt.slice word none (some at') ++ ⟨#[c]⟩) (Txt.slice word (some at') none);have hs := dA;refine ⟨_,rfl,_,rfl,_,rfl,word,rfl,hz,_,rfl,_,rfl,_,rfl,_,_,rfl,rfl,.inl ⟨by decide,by decide⟩,_,_,rfl,rfl,_,_,rfl,rfl,(show (0 : Int) < 26 by decide),mZ,_,c,rfl,rfl,abc_len,hc,_,_,rfl,rfl,by omega,?_⟩;refine ⟨_,rfl,_,rfl,_,rfl,word,rfl,hz,_,_,rfl,rfl,by omega,hl,xs ++ [_],_,by rw [List.map_append]; rfl,?fam,by rw [List.length_append]; rfl,hb.snoc ⟨by omega,by omega⟩,rfl,λ b o h => ?_⟩
   case fam =>
    rw [List.range_succ,List.map_append,<- hfam,<- hcc]; rfl
   rw [aH (aD h hD)]; exact hk b o h
 . rintro zs σ H hl ⟨xs,v,rfl,hfam,e,hb,_,hk⟩;exact hd xs H e hb (by rw [hfam]; exact fam_nodup hn) hk hl
theorem ok_names (F : jY K "_law_names" "_law_names" nN f fd) (G : FnOk P w K mg base gO k g gd ["_law_flow_here","_law_many"] jB) (bG : fG K gd ["_law_flow_here","_law_many"] []) (kG : W.keepIn K (.ref g) = true) (mG : mg "_law_draw" = some (.ref g))
 (mr : mg "range" = none) (ml : mg "len" = none) : FnOk P w K mg base gO (k + 1) f fd ["_law_flow_here","_law_many"] spNames := by
 refine F.ok scNames (λ vs H Q E h => ?_) (λ cdv A outer s H vs Q E hr h => ?_)
 . obtain ⟨a,m,rfl,_⟩ := h;rfl
 obtain ⟨a,m,rfl,hF,m1,m6,q⟩ := h
 have nd := scNames.nd
 refine ⟨_,aE (aS (i := 2) nd rfl (Or.inr rfl) gM) (aE (dH (bX op_eq (aQ G hr rfl mG kG bG .nil bE (aB (pv 0) (aB aJ aF))) aJ (eD _))
  (aE (aS (i := 3) nd rfl (Or.inr rfl) (iG aF))
  (aE (dC PassesOwn.never rfl (eE rfl mr (aB (pv 1) aF)) (aP (i := 4) nd rfl (Or.inl rfl))
   (aE (aS (i := 5) nd rfl (Or.inl rfl) (pA PySem.F.plainAttrs_str PySem.F.slot_str_join PySem.F.type_str_join mt_join gM (aB
    (dX (own := ["_law_j"]) (fr := ["_law_flow_here","_law_some"]) (idx := [0,2]) rfl (by show aV _ _ _ (aG nN); exact (.of rfl (by decide +kernel)))
     (eE rfl mr (aB (aW dF aJ (aQ G hr rfl mG kG bG .nil bE (aB (pv 0) (aB aJ aF)))) aF))
     (λ _ _ _ _ _ => aP (i := 0) (by show List.Nodup (["_law_j","_law_flow_here","_law_some"] : List Str); decide +kernel) rfl (Or.inl rfl) (Or.inr rfl)) (λ _ _ _ _ _ => dI)
     (λ _ _ _ _ _ => cN ix_str (pv 2) (aQ G hr rfl mG kG bG .nil bE (aB (pv 1) (aB aJ aF))) (λ _ _ => rfl)) rfl (dO rfl)) aF)))
   (aE (dH (bX mI (pv 5) (pv 3) rfl)
    (aK (aS (i := 5) nd rfl (Or.inl rfl) (cN bS
     (dX (own := ["_law_one"]) (fr := ["_law_found"]) (idx := [3]) (tc := lR (iC (rIn K true) (aU 0) (aU 1))) rfl (by show aV _ _ _ (aG nN); exact (.of rfl (by decide +kernel)))
      (pi_str (pv 2)) (λ _ _ _ _ _ => aP (i := 0) (by show List.Nodup (["_law_one","_law_found"] : List Str); decide +kernel) rfl (Or.inl rfl) (Or.inr rfl)) (λ _ _ _ _ _ => oW (bX fC (pv 0) (pv 1) rfl)) (λ _ _ _ _ _ => pv 0) rfl (dO rfl))
     aJ (λ _ _ => rfl)))) bU)
   (aK (fL (pA PySem.F.plainAttrs_list PySem.F.slot_list_append PySem.F.type_list_append iS (pv 3) (aB (pv 5) aF)))))))
  (aK (bN (pv 3))))) bU) (aE (aS (i := 6) nd rfl (Or.inr rfl) (pA PySem.F.plainAttrs_str PySem.F.slot_str_join PySem.F.type_str_join mt_join gM (aB
   (dX (own := ["_law_j"]) (fr := ["_law_flow_here","_law_some"]) (idx := [0,2]) rfl (by show aV _ _ _ (aG nN); exact (.of rfl (by decide +kernel)))
    (eE rfl mr (aB (aQ G hr rfl mG kG bG .nil bE (aB (pv 0) (aB aJ aF))) aF))
    (λ _ _ _ _ _ => aP (i := 0) (by show List.Nodup (["_law_j","_law_flow_here","_law_some"] : List Str); decide +kernel) rfl (Or.inl rfl) (Or.inr rfl)) (λ _ _ _ _ _ => dI)
    (λ _ _ _ _ _ => cN ix_str (pv 2) (aQ G hr rfl mG kG bG .nil bE (aB (pv 1) (aB aJ aF))) (λ _ _ => rfl)) rfl (dO rfl)) aF))) (aE (aS (i := 7) nd rfl (Or.inr rfl) (aQ G hr rfl mG kG bG .nil bE (aB (pv 0) (aB (aW dF (aZ lF rfl ml PySem.boot_len (aB (pv 6) aF)) aJ) aF)))) (aE (aS (i := 8) nd rfl (Or.inr rfl) (aQ G hr rfl mG kG bG .nil bE (aB (pv 0) (aB aJ aF)))) (aE (aS (i := 3) nd rfl (Or.inr rfl)
   (dX (own := ["_law_k"]) (fr := ["_law_word","_law_at","_law_some","_law_first"]) (idx := [6,7,2,8]) rfl (by show aV _ _ _ (aG nN); exact (.of rfl (by decide +kernel)))
    (eE rfl mr (aB (pv 1) aF))
    (λ _ _ _ _ _ => aP (i := 0) (by show List.Nodup (["_law_k","_law_word","_law_at","_law_some","_law_first"] : List Str); decide +kernel) rfl (Or.inl rfl) (Or.inr rfl)) (λ _ _ _ _ _ => dI)
    (λ _ _ _ _ _ => aW fN (aW fN (dS pU (pv 1) eZ (fB (pv 2))) (cN ix_str (pv 3) (aW gN (aW dF (pv 4) (aW iH aJ (pv 0))) aJ) (λ _ _ => rfl))) (dS pU (pv 1) (fB (pv 2)) eZ)) rfl (dO rfl))) (aE (dH (bX op_eq (aQ G hr rfl mG kG bG .nil bE (aB (pv 0) (aB aJ aF))) aJ (eD _))
  (aE (aS (i := 9) nd rfl (Or.inl rfl) (aW fN (pv 6) (dS pU gM (fB (aZ lF rfl ml PySem.boot_len (aB (pv 6) aF))) eZ)))
  (aK (dH (bX fC (pv 9) (pv 3) rfl) (aK (ps_asg (pv 9) (pg_sub (pv 3) aJ set_list))) bU))) bU) (aK (bN (pv 3))))))))),?_⟩
 try dsimp only [cH,Cx.nox,Cx.wish]
 refine lats8 ?_
 intro D0 σ0 U8 U7 U6 U5 U4 U3 U2
 have hmN : m.toNat <= 6 := by omega
 refine ⟨_,rfl,a,3,rfl,hF,by decide,by decide,λ r0 H0 _ _ f0 x0 => ⟨rfl,_,rfl,?_⟩⟩
 refine kW (λ c => ?_) (λ c => ?_)
 . refine ⟨gH (show 0 <= 1000 by decide),λ q0 hq0 => ?_⟩;have nq := dN hq0 f0;refine ⟨_,rfl,m,rfl,by omega,by omega,mR (n := m.toNat) (λ i σ H => ∃ (ys : List Str) (v4 v5 v6 v7 v8 v9 : Option V),σ = [some (.ref a),some (.int m),some (.str mZ),some (.ref q0),v4,v5,v6,v7,v8,v9] /\ ys.length = i /\ Bd ys /\ ys.Nodup /\ bM H a /\ iT a H0 H /\ H q0 = some (.lst (ys.map V.str))) ?_ ?_ ?_⟩
   . exact ⟨[],_,_,_,_,_,_,rfl,rfl,(by intro _ z; cases z),List.nodup_nil,f0.new hq0,iT.new hq0,aC⟩
   . rintro i σ H ii ⟨ys,v4,v5,v6,v7,v8,v9,rfl,rfl,hb,hnd,fl,xl,hl⟩;refine latg3 ?_;intro D1 σ1 W3 W2;refine ⟨rfl,_,rfl,a,8,rfl,fl,by decide,by decide,λ r1 H1 r10 r11 f1 x1 => ⟨_,_,rfl,rfl,_,rfl,by omega,by omega,λ D hD => letters (by omega) hD f1 λ zs H2 e2 s2 f2 x2 d2 => ?_⟩⟩;obtain ⟨wl,ws⟩ := word_len s2 (by omega);have l2 : H2 q0 = some (.lst (ys.map V.str)) := x2 _ _ nq (x1 _ _ nq hl);refine ⟨_,D,zs,rfl,rfl,bC.of d2,ws,?_⟩;have step : ∀ (nm : Str) (H3 : Hp),(0 < nm.length /\ nm.length <= 200) -> nm ∉ ys -> bM H3 a -> iT a H0 H3 -> H3 q0 = some (.lst (ys.map V.str)) -> ∃ v,[some (V.ref a),some (.int m),some (.str mZ),some (.ref q0),some (.int (0 + (ys.length : Int))),some (.str nm),v6,v7,v8,v9][3]? = some (some v) /\ (tyV K "list" v H3 /\ ∃ v',[some (V.ref a),some (.int m),some (.str mZ),some (.ref q0),some (.int (0 + (ys.length : Int))),some (.str nm),v6,v7,v8,v9][5]? = some (some v') /\ rAppend v [v'] H3 λ _ H4 =>
      ∃ (zs : List Str) (v4 v5 v6' v7' v8' v9' : Option V),[some (V.ref a),some (.int m),some (.str mZ),some (.ref q0),some (.int (0 + (ys.length : Int))),some (.str nm),v6,v7,v8,v9] = [some (.ref a),some (.int m),some (.str mZ),some (.ref q0),v4,v5,v6',v7',v8',v9'] /\ zs.length = ys.length + 1 /\ Bd zs /\ zs.Nodup /\ bM H4 a /\ iT a H0 H4 /\ H4 q0 = some (.lst (zs.map V.str))) := λ nm H3 hn hni f3 x3 l3 =>
      ⟨_,rfl,.inl ⟨rfl,_,bC.of l3⟩,_,rfl,q0,_,_,rfl,rfl,l3,Nat.lt_of_lt_of_le (by rw [List.length_map]; omega) dA,ys ++ [nm],_,_,_,_,_,_,rfl,by rw [List.length_append]; rfl,hb.snoc hn,nodup_snoc hnd hni,f3.set (Ne.symm nq),ext_at (H1 := H0) hq0 x3,by rw [aC,List.map_append]; rfl⟩
     refine ⟨_,rfl,_,rfl,q0,_,rfl,.inl (bC.of l2),rfl,eF ys,_,rfl,?_⟩;refine kW (λ _ => ?_) (λ cc => ?_)
     . refine ⟨_,rfl,mZ,rfl,λ D2 hD2 => unused (by omega) hD2 l2 λ us une us2 unm H4 k4 d4 => ?_⟩;obtain ⟨u,ur,eu⟩ := List.exists_cons_of_ne_nil une;subst eu;refine ⟨D2,_,_,_,rfl,rfl,bC.of d4,bT (j := 0) (v := V.str u) rfl,?_⟩;obtain ⟨x,y,z,ef,hz⟩ := f2;exact step u H4 (by rw [us2 u List.mem_cons_self]; exact ⟨by decide,by decide⟩) (unm u List.mem_cons_self) ⟨x,y,z,k4 _ _ ef,hz⟩ (λ b o nb hb' => k4 _ _ ((xl.trans (x1.trans x2)) b o nb hb')) (k4 _ _ l2)
     . exact step _ H2 ⟨word_pos s2 (λ z => by rw [z] at e2; have e3 : 0 = _ := e2; omega),Nat.le_trans wl (by decide)⟩ (eR.mp (by simpa using cc)) f2 (xl.trans (x1.trans x2)) l2
   . rintro σ H ⟨ys,v4,v5,v6,v7,v8,v9,rfl,e,hb,hnd,fl,xl,hl⟩;exact ⟨_,rfl,q q0 ys H (by omega) hb hnd nq fl (x0.trans xl) hl⟩
 . refine ⟨rfl,_,rfl,a,8,rfl,f0,by decide,by decide,λ r1 H1 r10 r11 f1 x1 => ⟨_,rfl,by omega,by omega,λ D hD => letters (by omega) hD f1 λ zs H2 e2 s2 f2 x2 d2 => ?_⟩⟩;obtain ⟨wl,ws⟩ := word_len s2 (by omega);refine ⟨_,D,zs,rfl,rfl,bC.of d2,ws,?_⟩
   change (Txt.join "" zs).length <= 68 at wl
   generalize Txt.join "" zs = word at wl ⊢;have wz : word.length <= sizeLine := Nat.le_trans (by omega) dA;refine ⟨_,rfl,_,rfl,_,rfl,wz,_,_,rfl,rfl,a,_,rfl,f2,by omega,by omega,λ r3 H3 _ _ f3 x3 => ?_⟩;refine ⟨_,rfl,a,26,rfl,f3,by decide,by decide,λ r4 H4 r40 _ f4 x4 => ?_⟩;refine ⟨_,rfl,m,rfl,by omega,by omega,λ D2 hD2 => family wl r40 hmN hD2 λ us H5 e5 b5 n5 k5 d5 => ?_⟩;have f5 : bM H5 a := by
    obtain ⟨x,y,z,ef,hz⟩ := f4;exact ⟨x,y,z,k5 _ _ ef,hz⟩
   have n2 := dN hD2 f4;have x5 : iT a H H5 := λ b o nb hb => k5 _ _ ((x0.trans (x1.trans (x2.trans (x3.trans x4)))) b o nb hb);refine ⟨_,rfl,a,4,rfl,f5,by decide,by decide,λ r6 H6 _ _ f6 x6 => ⟨rfl,_,rfl,?_⟩⟩;have d6 := x6 _ _ n2 d5;refine kW (λ _ => ?_) (λ _ => ?_)
   . have ll := sl_len "zzzzzzzz" (some (word.length : Int)) none;have l8 : Str.length "zzzzzzzz" = 8 := by decide
     have la := app_len word (Txt.slice "zzzzzzzz" (some (word.length : Int)) none);have hs := dA;have lp : 0 < word.length + (Txt.slice "zzzzzzzz" (some (word.length : Int)) none).length := by
      rcases Nat.eq_zero_or_pos word.length with h | h
      . rw [h]; decide
      . omega
     refine ⟨_,rfl,_,rfl,_,rfl,wz,_,rfl,_,rfl,by omega,_,_,rfl,rfl,by omega,?_⟩;refine ⟨_,rfl,_,rfl,D2,_,rfl,.inl (bC.of d6),rfl,eF us,_,rfl,?_⟩;refine kW (λ cc => ?_) (λ _ => ?_)
     . refine ⟨_,rfl,_,rfl,D2,_,0,0,rfl,rfl,d6,?_,?_⟩
       . unfold ixN;rw [List.length_map,e5,if_pos (by decide),if_pos (by omega)];rfl
       . refine ⟨_,rfl,q D2 (us.set 0 (word ++ Txt.slice "zzzzzzzz" (some (word.length : Int)) none)) _ (by rw [List.length_set]; omega) (b5.set ⟨by omega,by omega⟩ 0) (nodup_set0 n5 (eR.mp (by simpa using cc))) n2 (f6.set (Ne.symm n2)) (λ b o nb hb => ?_) ?_⟩
         . have := x6 _ _ nb (x5 b o nb hb)
           by_cases hbd : b = D2
           . exfalso
             rw [hbd] at hb;have := (x0.trans (x1.trans (x2.trans (x3.trans x4)))) _ _ n2 hb;rw [hD2] at this; cases this
           . rw [aH hbd]; exact this
         . rw [aC,List.map_set]
     . exact ⟨_,rfl,q D2 us H6 (by omega) b5 n5 n2 f6 (x5.trans x6) d6⟩
   . exact ⟨_,rfl,q D2 us H6 (by omega) b5 n5 n2 f6 (x5.trans x6) d6⟩
end
end KK
namespace KK
open PySem L2 PyProof.Rows KKM
variable {P : Program} {w : World} {K : W.Frag} {mg : Str -> Option Value} {base : Heap} {f g g2 g3 : Addr} {fd gd gd2 gd3 : FuncData} {k : Nat}
structure Fn (P : Program) (w : World) (K : W.Frag) (mg : Str -> Option Value) (base : Heap) (k : Nat) (x : Str) (ps : List Str) (sp : Sp) (g : Addr) (gd : FuncData) : Prop where
 ok : FnOk P w K mg base gO k g gd ps sp
 bn : fG K gd ps []
 kp : W.keepIn K (.ref g) = true
 at_ : mg x = some (.ref g)
structure Bt (mg : Str -> Option Value) : Prop where
 len_ : mg "len" = none
 range_ : mg "range" = none
 max_ : mg "max" = none
 sorted_ : mg "sorted" = none
 tuple_ : mg "tuple" = none
 list_ : mg "list" = none
 set_ : mg "set" = none
 int_ : mg "int" = none
 isinstance_ : mg "isinstance" = none
 all_ : mg "all" = none
 str_ : mg "str" = none
 bool_ : mg "bool" = none
 min_ : mg "min" = none
 dict_ : mg "dict" = none
 any_ : mg "any" = none
 enumerate_ : mg "enumerate" = none
 zip_ : mg "zip" = none
abbrev iK : Stmt := top 22
abbrev jO : Stmt := top 25
def TK (H H' : Hp) : Prop := ∀ b xs,H b = some (.tup xs) -> H' b = some (.tup xs)
theorem TK.trans {H H1 H2 : Hp} (x : TK H H1) (y : TK H1 H2) : TK H H2 := λ b o h => y b o (x b o h)
theorem TK.lst {H : Hp} {p : Addr} {ys : List V} {o : HO} (h : H p = some (.lst ys)) : TK H (aL H p o) := λ b xs q => by rw [aH (cO q h (λ z => nomatch z))]; exact q
theorem iT.tk {a : Addr} {H H' : Hp} (x : iT a H H') (f : bM H a) : TK H H' := λ b xs q => by
 obtain ⟨_,_,_,e,_⟩ := f
 exact x b _ (cO q e (λ z => nomatch z)) q
theorem _root_.L2.Same.tk {H H' : Hp} (x : Same H H') : TK H H' := λ b xs q => x b _ q
theorem _root_.L2.Same.ext {a : Addr} {H H' : Hp} (x : Same H H') : iT a H H' := λ b o _ q => x b o q
theorem _root_.L2.Same.flow {a : Addr} {H H' : Hp} (x : Same H H') (f : bM H a) : bM H' a := by
 obtain ⟨i,j,k,e,r⟩ := f
 exact ⟨i,j,k,x _ _ e,r⟩
theorem _root_.L2.Same.tup {K : W.Frag} {H H' : Hp} {a : Addr} {xs : List V} (e : Same H H') (h : dM K H a xs) : dM K H' a xs := by
 rcases h with (h | ⟨o,h⟩) | h
 . exact .inl (.inl (e _ _ h))
 . exact .inl (.inr ⟨o,e _ _ h⟩)
 . exact .inr h
theorem aN {H : Hp} {p : Addr} {o : HO} (h : H p = none) : Same H (aL H p o) := λ b u q => by rw [aH (aD q h)]; exact q
theorem _root_.L2.Same.at {H H' : Hp} {p : Addr} {o : HO} (x : Same H H') (h : H p = none) : Same H (aL H' p o) := λ b u q => by rw [aH (aD q h)]; exact x b u q
theorem iT.at {a : Addr} {H H' : Hp} {p : Addr} {o : HO} (x : iT a H H') (h : H p = none) : iT a H (aL H' p o) := λ b u n q => by rw [aH (aD q h)]; exact x b u n q
theorem oH {n : Nat} (h : n <= 1000) : n < sizeLine := small1000 h
abbrev cY := Str × List Str
def RowAt (H : Hp) (t : Addr) (r : cY) : Prop := ∃ d,H t = some (.tup [.str r.1,.ref d]) /\ H d = some (.tup (r.2.map V.str))
theorem RowAt.keep {H H' : Hp} {t : Addr} {r : cY} (k : TK H H') (h : RowAt H t r) : RowAt H' t r := let ⟨d,h1,h2⟩ := h; ⟨d,k _ _ h1,k _ _ h2⟩
abbrev eU (H : Hp) : List Addr -> List cY -> Prop := Paired (RowAt H)
theorem eU.keep {H H' : Hp} (k : TK H H') : ∀ {ts : List Addr} {rs : List cY},eU H ts rs -> eU H' ts rs
 | _,_,.nil => .nil
 | _,_,.cons h r => .cons (h.keep k) (eU.keep k r)
theorem eU.get {H : Hp} : ∀ {ts : List Addr} {rs : List cY} {i : Nat} {t : Addr},eU H ts rs -> ts[i]? = some t -> ∃ r,rs[i]? = some r /\ RowAt H t r
 | _,_,_,_,.nil,e => by simp at e
 | _,_,0,_,.cons h _,e => by
  have e' := Option.some.inj (show some _ = some _ from e);subst e';exact ⟨_,rfl,h⟩
 | _,_,i + 1,_,.cons _ r,e => eU.get (i := i) r (by simpa using e)
def cI (H : Hp) (L : Addr) (rs : List cY) : Prop := ∃ ts : List Addr,H L = some (.lst (ts.map V.ref)) /\ eU H ts rs
theorem cI.ext {a L : Addr} {H H' : Hp} {rs : List cY} (h : cI H L rs) (x : iT a H H') (f : bM H a) (n : L ≠ a) : cI H' L rs := let ⟨ts,h1,h2⟩ := h; ⟨ts,x _ _ n h1,h2.keep (x.tk f)⟩
theorem cI.same {L : Addr} {H H' : Hp} {rs : List cY} (h : cI H L rs) (x : Same H H') : cI H' L rs := let ⟨ts,h1,h2⟩ := h; ⟨ts,x _ _ h1,h2.keep (Same.tk x)⟩
abbrev Srt (l : List Str) : Prop := l.Pairwise λ a b => a.cps.toList <= b.cps.toList
structure gG (rs : List cY) : Prop where
 ne : rs ≠ []
 len : rs.length <= 6
 nd : (rs.map (·.1)).Nodup
 row : ∀ r ∈ rs,r.2 ≠ [] /\ r.2.length <= 4 /\ r.2.Nodup
 nm : Bd (rs.map (·.1))
 dn : ∀ r ∈ rs,Bd r.2
 few : ∃ ds : List Str,ds.length <= 4 /\ ∀ r ∈ rs,∀ d ∈ r.2,d ∈ ds
 srt : ∀ r ∈ rs,Srt r.2
def jZ : Sp := λ vs H Q _ => ∃ (L : Addr) (rs : List cY),vs = [.ref L] /\ cI H L rs /\ rs.length <= 7 /\ (∀ r ∈ rs,r.2.length <= 8 /\ r.2.Nodup) /\
 ∀ (r : Addr) (zs : List Str) (H' : Hp),sortedS zs = true -> zs.Nodup -> zs.length <= 56 -> (∀ d,d ∈ zs ↔ ∃ x ∈ rs,d ∈ x.2) -> H r = none -> Same H H' -> H' r = some (.lst (zs.map V.str)) -> Q (.ref r) H'
theorem qJ : bI ["_law_rows","_law_found","_law_letter","_law_some"] ["_law_rows"] (aG jO) := (.of rfl rfl rfl rfl (by decide +kernel))
theorem strange {D d q : Addr} {Q : VK} {H1 : Hp} {ds fo : List Str} (hl : ds.length <= 1000) (hD : H1 D = none) (hd : H1 d = some (.tup (ds.map V.str))) (hq : H1 q = some (.lst (fo.map V.str)))
 (oG : ∀ H',Same H1 H' -> H' D = some (.lst ((ds.filter λ z => decide (z ∉ fo)).map V.str)) -> Q (.ref D) H') :
 cG (Itt K d) D (bO 0) (lR (iC (rIn K true) (aU 0) (aU 1))) (aU 0) Q [none,some (.ref q)] H1 := by
 refine comp_tup (xs := ds.map V.str) (λ i ys σ H => ∃ v : Option V,ys = ((ds.take i).filter λ z => decide (z ∉ fo)).map V.str /\ σ = [v,some (.ref q)] /\ Same H1 H) ?_ (by rw [List.length_map]; omega) ?_ ?_ ?_ ?_
 . exact ⟨none,rfl,rfl,aN hD⟩
 . rintro i ys σ H ⟨v,rfl,_⟩;rw [List.length_map];exact Nat.le_trans (List.length_filter_le _ _) (by rw [List.length_take]; omega)
 . rintro i ys σ H ⟨v,_,_,x⟩;exact dM.of (x _ _ hd)
 . rintro i y ys σ H hy gK ⟨v,rfl,rfl,x⟩;rw [List.getElem?_map] at hy;obtain ⟨z,hz,rfl⟩ := Option.map_eq_some_iff.mp hy;refine ⟨_,rfl,_,rfl,q,_,rfl,.inl (bC.of (x _ _ hq)),rfl,eF fo,_,rfl,?_⟩;refine kW (λ b => ?_) (λ b => ?_)
   . have hn : z ∉ fo := eR.mp (by simpa using b);refine ⟨_,rfl,gK,_,?_,rfl,x.at hD⟩;rw [bR hz,mC,if_pos (by simpa using hn),List.map_append];rfl
   . have hn : ¬ z ∉ fo := λ c => b (by rw [if_pos rfl,eR.mpr c]; rfl);refine ⟨gK,_,?_,rfl,x⟩;rw [bR hz,mC,if_neg (by simpa using hn)]
 . rintro ys σ H gK ⟨v,rfl,_,x⟩;rw [List.length_map,List.take_length] at gK;exact oG H x gK
theorem ok_desks_of (F : jY K "_law_desks" "_law_desks" jO f fd) (B : Bt mg) : FnOk P w K mg base gO (k + 1) f fd ["_law_rows"] jZ := by
 refine F.ok qJ (λ vs H Q E h => ?_) (λ cdv A outer s H vs Q E hr h => ?_)
 . obtain ⟨L,rs,rfl,_⟩ := h;rfl
 obtain ⟨L,rs,rfl,⟨ts,hL,hT⟩,h7,hR,q⟩ := h
 have nd := qJ.nd
 have cE := Paired.length hT
 refine ⟨_,(aE (aS (i := 1) nd rfl (Or.inr rfl) (iG aF)) (aE (dC PassesOwn.never rfl (dG (pv 0)) (iE rfl (bW (aP (i := 2) nd rfl (Or.inl rfl)) (bW (aP (i := 3) nd rfl (Or.inl rfl)) fJ))) (aK (fL (pA PySem.F.plainAttrs_list PySem.F.slot_list_extend PySem.F.type_list_extend mt_extend (pv 1) (aB (dX (g := (bO 0)) (tc := (lR (iC (rIn K true) (aU 0) (aU 1)))) (te := (aU 0)) (own := ["_law_desk"]) (fr := ["_law_found"]) (idx := [1]) rfl (by show aV _ _ _ (aG jO); exact (.of rfl (by decide +kernel))) (fZ (pv 3)) (λ _ _ _ _ _ => (aP (i := 0) (by show List.Nodup (["_law_desk","_law_found"] : List Str); decide +kernel) rfl (Or.inl rfl) (Or.inr rfl))) (λ _ _ _ _ _ => oW (bX fC (pv 0) (pv 1) rfl)) (λ _ _ _ _ _ => (pv 0)) rfl (dO rfl)) aF))))) (aK (bN (aZ oK rfl B.sorted_ (by decide +kernel) (aB (pv 1) aF)))))),?_⟩
 try dsimp only [cH,Cx.nox,Cx.wish]
 refine qU ?_
 intro D0 σ0 U3 U2
 refine ⟨gH (show 0 <= 1000 by decide),λ q0 hq0 => ?_⟩
 refine ⟨_,rfl,L,rfl,⟨_,bC.of ((aN hq0) _ _ hL)⟩,fF (xs := ts.map V.ref)
  (λ i σ H' => ∃ (fo : List Str) (v2 v3 : Option V),σ = [some (.ref L),some (.ref q0),v2,v3] /\ H' q0 = some (.lst (fo.map V.str)) /\ fo.Nodup /\ fo.length <= 8 * i /\ (∀ d,d ∈ fo ↔ ∃ x ∈ rs.take i,d ∈ x.2) /\ Same H H') ?_ ?_ ?_ ?_⟩
 . exact ⟨[],none,none,rfl,aC,List.nodup_nil,Nat.zero_le _,λ d => by simp,aN hq0⟩
 . rintro i σ H1 _ ⟨fo,v2,v3,_,_,_,_,_,x⟩;exact bC.of (x _ _ hL)
 . rintro i y σ H1 hy ⟨fo,v2,v3,rfl,h1,nd1,l1,m1,x1⟩;rw [List.getElem?_map] at hy;obtain ⟨t,ht,rfl⟩ := Option.map_eq_some_iff.mp hy;obtain ⟨r,hW,d,e1,e2⟩ := hT.get ht;have hm := List.mem_of_getElem? hW;obtain ⟨r8,rnd⟩ := hR r hm;have hi : i < rs.length := (List.getElem?_eq_some_iff.mp hW).1;refine ⟨t,_,rfl,dM.of (x1 _ _ e1),rfl,_,_,rfl,_,_,rfl,rfl,?_⟩;refine ⟨_,rfl,.inl ⟨rfl,_,bC.of h1⟩,_,rfl,d,rfl,⟨_,dM.of (x1 _ _ e2)⟩,λ D hD => strange (K := K) (by omega) hD (x1 _ _ e2) h1 λ H2 x2 hD2 => ?_⟩;have hlf : (r.2.filter λ z => decide (z ∉ fo)).length <= r.2.length := List.length_filter_le _ _;refine ⟨q0,D,fo.map V.str,_,rfl,rfl,x2 _ _ h1,hD2,Nat.le_of_lt (oH (by rw [List.length_map,List.length_map]; omega)),fo ++ (r.2.filter λ z => decide (z ∉ fo)),_,_,rfl,by rw [aC,List.map_append],?_,by rw [List.length_append]; omega,?_,(x1.trans x2).at hq0⟩
   . rw [List.nodup_append];refine ⟨nd1,oX rnd,λ a ha b hb e => ?_⟩;have hb2 := (List.mem_filter.mp hb).2;rw [e] at ha;exact absurd ha (by simpa using hb2)
   . intro d';rw [bR hW,List.mem_append,m1 d']
     constructor
     . rintro (⟨x,hx,hd⟩ | hd)
       . exact ⟨x,List.mem_append_left _ hx,hd⟩
       . exact ⟨r,List.mem_append_right _ (List.mem_singleton.mpr rfl),(List.mem_filter.mp hd).1⟩
     . rintro ⟨x,hx,hd⟩
       rcases List.mem_append.mp hx with hx | hx
       . exact .inl ⟨x,hx,hd⟩
       . rw [List.mem_singleton.mp hx] at hd
         by_cases hf : d' ∈ fo
         . exact .inl ((m1 d').mp hf)
         . exact .inr (List.mem_filter.mpr ⟨hd,by simpa using hf⟩)
 . rintro σ H1 ⟨fo,v2,v3,rfl,h1,nd1,l1,m1,x1⟩;rw [List.length_map] at l1 m1;rw [cE,List.take_length] at m1;refine ⟨_,rfl,q0,fo,rfl,bC.of h1,by omega,λ l zs hl hp hs => ?_⟩;exact q l zs _ hs (hp.nodup_iff.mpr nd1) (by rw [hp.length_eq]; omega) (λ d => by rw [hp.mem_iff]; exact m1 d) (x1.free hl) (x1.trans (aN hl)) aC
theorem pick8 {r : Int} (h0 : 0 <= r) (h1 : r < 8) : ∃ m : Int,oB [V.int 3,V.int 4,V.int 2,V.int 5,V.int 3,V.int 4,V.int 6,V.int 1] r = some (.int m) /\ 1 <= m /\ m <= 6 := by
 obtain ⟨n,rfl⟩ := Int.eq_ofNat_of_zero_le h0
 match n,h1 with
 | 0,_ => exact ⟨3,bT (j := 0) rfl,by decide,by decide⟩
 | 1,_ => exact ⟨4,bT (j := 1) rfl,by decide,by decide⟩
 | 2,_ => exact ⟨2,bT (j := 2) rfl,by decide,by decide⟩
 | 3,_ => exact ⟨5,bT (j := 3) rfl,by decide,by decide⟩
 | 4,_ => exact ⟨3,bT (j := 4) rfl,by decide,by decide⟩
 | 5,_ => exact ⟨4,bT (j := 5) rfl,by decide,by decide⟩
 | 6,_ => exact ⟨6,bT (j := 6) rfl,by decide,by decide⟩
 | 7,_ => exact ⟨1,bT (j := 7) rfl,by decide,by decide⟩
 | n + 8,h => exact absurd h (by omega)
def bitK (m : Int) (j : Nat) : Bool := decide (V.int (Builtin.bitAnd (m / 2 ^ ((0 + (j : Int))).toNat) 1) = V.int 1)
theorem bit_some {m c : Nat} (hc : c <= 4) (h0 : 1 <= m) (h1 : m < 2 ^ c) : ∃ j,j < c /\ bitK (m : Int) j = true := by
 have hm : m < 16 := Nat.lt_of_lt_of_le h1 (Nat.le_trans (Nat.pow_le_pow_right (by decide) hc) (by decide))
 have all : ∀ (m : Fin 16) (c : Fin 5),1 <= m.val -> m.val < 2 ^ c.val -> ∃ j : Fin 4,j.val < c.val /\ bitK (m.val : Int) j.val = true := by decide +kernel
 obtain ⟨j,h2,h3⟩ := all ⟨m,hm⟩ ⟨c,by omega⟩ h0 h1
 exact ⟨j.val,h2,h3⟩
def dB (zs : List Str) (m : Int) (n : Nat) : List Str := ((List.range n).filter (bitK m)).map λ j => zs.getD j ""
theorem oS {zs : List Str} {m : Int} {n : Nat} (h : zs.Nodup) (hn : n <= zs.length) : (dB zs m n).Nodup := by
 refine KKM.nodup_map_on (λ a ha b hb e => ?_) (oX List.nodup_range)
 have la : a < zs.length := Nat.lt_of_lt_of_le (List.mem_range.mp (List.mem_filter.mp ha).1) hn
 have lb : b < zs.length := Nat.lt_of_lt_of_le (List.mem_range.mp (List.mem_filter.mp hb).1) hn
 rw [List.getD_eq_getElem?_getD,List.getD_eq_getElem?_getD,List.getElem?_eq_getElem la,List.getElem?_eq_getElem lb] at e
 exact (List.getElem_inj h).mp e
theorem picked_srt {zs : List Str} {m : Int} {n : Nat} (h : Srt zs) (hn : n <= zs.length) : Srt (dB zs m n) := by
 unfold dB Srt
 rw [List.pairwise_map]
 refine List.Pairwise.imp_of_mem (R := λ a b => a < b) (λ {a b} ha hb hab => ?_) (List.Pairwise.filter _ List.pairwise_lt_range)
 have la : a < zs.length := Nat.lt_of_lt_of_le (List.mem_range.mp (List.mem_filter.mp ha).1) hn
 have lb : b < zs.length := Nat.lt_of_lt_of_le (List.mem_range.mp (List.mem_filter.mp hb).1) hn
 rw [List.getD_eq_getElem?_getD,List.getD_eq_getElem?_getD,List.getElem?_eq_getElem la,List.getElem?_eq_getElem lb]
 exact (List.pairwise_iff_getElem.mp h) a b la lb hab
theorem picked_mem {zs : List Str} {m : Int} {n : Nat} (hn : n <= zs.length) {d : Str} (hd : d ∈ dB zs m n) : d ∈ zs := by
 obtain ⟨j,hj,rfl⟩ := List.mem_map.mp hd
 have lj : j < zs.length := Nat.lt_of_lt_of_le (List.mem_range.mp (List.mem_filter.mp hj).1) hn
 rw [List.getD_eq_getElem?_getD,List.getElem?_eq_getElem lj]
 exact List.getElem_mem lj
theorem nZ (zs : List Str) (m : Int) (n : Nat) : (dB zs m n).length <= n := by
 unfold dB
 rw [List.length_map]
 exact Nat.le_trans (List.length_filter_le _ _) (by rw [List.length_range]; exact Nat.le_refl _)
theorem picked_ne {zs : List Str} {m : Int} {n : Nat} (hc : n <= 4) (h0 : 1 <= m) (h1 : m < 2 ^ n) : dB zs m n ≠ [] := λ e => by
 have h2 : ((m.toNat : Nat) : Int) < ((2 ^ n : Nat) : Int) := by rw [Int.natCast_pow]; exact Int.lt_of_le_of_lt (by omega) h1
 obtain ⟨j,hj,hb⟩ := bit_some (m := m.toNat) (c := n) hc (by omega) (by exact_mod_cast h2)
 have em : ((m.toNat : Nat) : Int) = m := by omega
 rw [em] at hb
 have : j ∈ (List.range n).filter (bitK m) := List.mem_filter.mpr ⟨List.mem_range.mpr hj,hb⟩
 have iQ : (List.range n).filter (bitK m) = [] := by
  unfold dB at e;exact List.map_eq_nil_iff.mp e
 rw [iQ] at this
 cases this
theorem picks {D l : Addr} {Q : VK} {H1 : Hp} {zs : List Str} {m : Int} {n : Nat} (hn : n <= 4) (hz : zs.length = n) (hD : H1 D = none) (hl : H1 l = some (.lst (zs.map V.str)))
 (hd : ∀ H',Same H1 H' -> H' D = some (.lst ((dB zs m n).map V.str)) -> Q (.ref D) H') :
 cG (Itr 0 n) D (bO 0) (lR (iC rEq (iC (rI0 λ i j => .int (Builtin.bitAnd i j)) (iC (rI (λ _ j => 0 <= j) λ i j => .int (i / 2 ^ j.toNat)) (aU 2) (aU 0)) (tC (.int 1))) (tC (.int 1)))) (iC (nG K) (aU 1) (aU 0)) Q [none,some (.ref l),some (.int m)] H1 := by
 refine iV (λ i ys σ H => ∃ v : Option V,ys = (dB zs m i).map V.str /\ σ = [v,some (.ref l),some (.int m)] /\ Same H1 H) ?_ (by omega) ?_ ?_ ?_
 . exact ⟨none,rfl,rfl,aN hD⟩
 . rintro i ys σ H ⟨v,rfl,_⟩;rw [List.length_map]; exact nZ zs m i
 . rintro i ys σ H hi gK ⟨v,rfl,rfl,x⟩;have hi2 : i < zs.length := by omega
   refine ⟨_,rfl,_,rfl,_,_,rfl,rfl,by omega,_,_,rfl,rfl,rfl,_,rfl,?_⟩;have step : dB zs m (i + 1) = if bitK m i = true then dB zs m i ++ [zs[i]] else dB zs m i := by
    unfold dB;rw [List.range_succ,mC]
    by_cases hb : bitK m i = true
    . rw [if_pos hb,if_pos hb,List.map_append,List.map_cons,List.map_nil,List.getD_eq_getElem?_getD,List.getElem?_eq_getElem hi2]; rfl
    . rw [if_neg hb,if_neg hb]
   refine kW (λ b => ?_) (λ b => ?_)
   . have hb : bitK m i = true := b;refine ⟨_,rfl,_,rfl,l,_,_,.str zs[i],rfl,rfl,bC.of (x _ _ hl),?_,gK,_,?_,rfl,x.at hD⟩
     . have e0 : (0 + (i : Int)) = ((i : Nat) : Int) := by omega
       rw [e0];exact bT (by rw [List.getElem?_map,List.getElem?_eq_getElem hi2]; rfl)
     . rw [step,if_pos hb,List.map_append]; rfl
   . have hb : ¬ bitK m i = true := b;refine ⟨gK,_,?_,rfl,x⟩;rw [step,if_neg hb]
 . rintro ys σ H gK ⟨v,rfl,_,x⟩;exact hd H x gK
def spRows : Sp := λ vs H Q _ => ∃ (a : Addr) (c : Int),vs = [.ref a,.int c] /\ bM H a /\ 1 <= c /\ c <= 4 /\
 ∀ (L : Addr) (rs : List cY) (H' : Hp),gG rs -> L ≠ a -> H L = none -> bM H' a -> iT a H H' -> cI H' L rs -> Q (.ref L) H'
theorem sc_houses : bI ["_law_flow_here","_law_count","_law_desks_here","_law_letters","_law_rows","_law_letter","_law_mask"] ["_law_flow_here","_law_count"] (aG iK) := (.of rfl rfl rfl rfl (by decide +kernel))
theorem ok_houses (F : jY K "_law_houses" "_law_houses" iK f fd) (B : Bt mg) (aI : Fn P w K mg base k "_law_draw" ["_law_flow_here","_law_many"] jB g gd) (dL : Fn P w K mg base k "_law_names" ["_law_flow_here","_law_many"] spNames g2 gd2) :
 FnOk P w K mg base gO (k + 1) f fd ["_law_flow_here","_law_count"] spRows := by
 refine F.ok sc_houses (λ vs H Q E h => ?_) (λ cdv A outer s H vs Q E hr h => ?_)
 . obtain ⟨a,c,rfl,_⟩ := h;rfl
 obtain ⟨a,c,rfl,hF,c1,c4,q⟩ := h
 have nd := sc_houses.nd
 refine ⟨_,(aE (aS (i := 2) nd rfl (Or.inr rfl) (aZ oK rfl B.sorted_ (by decide +kernel) (aB (aQ dL.ok hr rfl dL.at_ dL.kp dL.bn .nil bE (aB (pv 0) (aB (pv 1) aF))) aF))) (aE (aS (i := 3) nd rfl (Or.inl rfl) (aQ dL.ok hr rfl dL.at_ dL.kp dL.bn .nil bE (aB (pv 0) (aB (cN bS (iG (aB aJ (aB aJ (aB aJ (aB aJ (aB aJ (aB aJ (aB aJ (aB aJ aF))))))))) (aQ aI.ok hr rfl aI.at_ aI.kp aI.bn .nil bE (aB (pv 0) (aB aJ aF))) (λ _ _ => rfl)) aF)))) (aE (aS (i := 4) nd rfl (Or.inl rfl) (iG aF)) (aE (dC PassesOwn.never rfl (dG (pv 3)) (aP (i := 5) nd rfl (Or.inl rfl)) (aE (aS (i := 6) nd rfl (Or.inr rfl) (aW dF aJ (aQ aI.ok hr rfl aI.at_ aI.kp aI.bn .nil bE (aB (pv 0) (aB (aW op_sub (aW op_shl aJ (pv 1)) aJ) aF))))) (aE (dH (bX op_eq (aQ aI.ok hr rfl aI.at_ aI.kp aI.bn .nil bE (aB (pv 0) (aB aJ aF))) aJ (eD _)) (aK (aS (i := 6) nd rfl (Or.inr rfl) (aW op_shl aJ (aQ aI.ok hr rfl aI.at_ aI.kp aI.bn .nil bE (aB (pv 0) (aB (pv 1) aF)))))) bU) (aK (fL (pA PySem.F.plainAttrs_list PySem.F.slot_list_append PySem.F.type_list_append iS (pv 4) (aB (fP (aB (pv 5) (aB (cX jS rfl B.tuple_ (by decide +kernel) (aB (dX (g := (bO 0)) (tc := (lR (iC rEq (iC (rI0 λ i j => .int (Builtin.bitAnd i j)) (iC (rI (λ _ j => 0 <= j) λ i j => .int (i / 2 ^ j.toNat)) (aU 2) (aU 0)) (tC (.int 1))) (tC (.int 1))))) (te := (iC (nG K) (aU 1) (aU 0))) (own := ["_law_k"]) (fr := ["_law_desks_here","_law_mask"]) (idx := [2,6]) rfl (by show aV _ _ _ (aG iK); exact (.of rfl (by decide +kernel))) (eE rfl B.range_ (aB (pv 1) aF)) (λ _ _ _ _ _ => (aP (i := 0) (by show List.Nodup (["_law_k","_law_desks_here","_law_mask"] : List Str); decide +kernel) rfl (Or.inl rfl) (Or.inr rfl))) (λ _ _ _ _ _ => oW (bX op_eq (aW op_and (aW op_shr (pv 2) (pv 0)) aJ) aJ (eD _))) (λ _ _ _ _ _ => (cN bS (pv 1) (pv 0) (λ _ _ => rfl))) rfl (dO rfl)) aF)) aF))) aF))))))) (aK (bN (pv 4))))))),?_⟩
 try dsimp only [cH,Cx.nox,Cx.wish]
 refine lats5 ?_
 intro D0 σ0 U5 U4 U3 U2
 refine ⟨_,rfl,_,rfl,a,c,rfl,hF,c1,by omega,λ r1 ys1 H1 e1 b1 n1 nr1 f1 x1 h1 => ⟨r1,ys1,rfl,bC.of h1,by omega,λ l zs hl hp hs => ?_⟩⟩
 have hz : zs.length = c.toNat := by rw [hp.length_eq]; omega
 have zn : zs.Nodup := hp.nodup_iff.mpr n1
 have zsrt : Srt zs := L2.sorted_pair zs hs
 have zb : Bd zs := λ d hd => b1 d (hp.mem_iff.mp hd)
 have f2 := f1.new (o := .lst (zs.map V.str)) hl
 have x2 : iT a H (aL H1 l (.lst (zs.map V.str))) := x1.trans (iT.new hl)
 have h2 : aL H1 l (.lst (zs.map V.str)) l = some (.lst (zs.map V.str)) := aC
 have nl : l ≠ a := dN hl f1
 generalize aL H1 l (.lst (zs.map V.str)) = H2 at f2 x2 h2 ⊢
 refine ⟨_,rfl,gH (show 8 <= 1000 by decide),λ p hp => ⟨_,rfl,a,8,rfl,f2.new hp,by decide,by decide,λ r3 H3 r30 r31 f3 x3 => ?_⟩⟩
 obtain ⟨m,hm,m1,m6⟩ := pick8 r30 r31
 have np : p ≠ a := dN hp f2
 have h3p := x3 _ _ np aC
 have h3l : H3 l = some (.lst (zs.map V.str)) := x3 _ _ nl (by rw [aH (aD h2 hp)]; exact h2)
 refine ⟨p,_,_,_,rfl,rfl,bC.of h3p,hm,a,m,rfl,f3,m1,m6,λ r4 ys4 H4 e4 b4 n4 nr4 f4 x4 h4 => ?_⟩
 have h4l := x4 _ _ nl h3l
 have x4' : iT a H H4 := (x2.trans ((iT.new hp).trans x3)).trans x4
 refine ⟨gH (show 0 <= 1000 by decide),λ q0 hq0 => ?_⟩
 have nq : q0 ≠ a := dN hq0 f4
 have nql : l ≠ q0 := aD h4l hq0
 have hq1 : H q0 = none := by
  cases e : H q0 with
  | none => rfl
  | some o =>
   have := x4' _ _ nq e;rw [hq0] at this;cases this
 refine ⟨_,rfl,r4,rfl,⟨_,bC.of ((aN hq0) _ _ h4)⟩,fF (xs := ys4.map V.str)
  (λ i σ H' => ∃ (rs : List cY) (v5 v6 : Option V),σ = [some (.ref a),some (.int c),some (.ref l),some (.ref r4),some (.ref q0),v5,v6] /\ rs.map (·.1) = ys4.take i /\ (∀ r ∈ rs,((r.2 ≠ [] /\ r.2.length <= 4 /\ r.2.Nodup) /\ ∀ d ∈ r.2,d ∈ zs) /\ Srt r.2) /\ bM H' a /\ iT a H4 H' /\ cI H' q0 rs) ?_ ?_ ?_ ?_⟩
 . exact ⟨[],none,none,rfl,rfl,(by intro _ z; cases z),f4.new hq0,iT.new hq0,[],aC,.nil⟩
 . rintro i σ H5 _ ⟨rs,v5,v6,_,_,_,f5,x5,_⟩;exact bC.of (x5 _ _ nr4 h4)
 . rintro i y σ H5 hy ⟨rs,v5,v6,rfl,hm5,hg5,f5,x5,ts,h5,t5⟩;refine latg3 ?_;intro D1 σ1 W3 W2;rw [List.getElem?_map] at hy;obtain ⟨z,hz',rfl⟩ := Option.map_eq_some_iff.mp hy;have pw : (1 : Int) * 2 ^ c.toNat = 2 ^ c.toNat := Int.one_mul _;have cc : c.toNat = 1 \/ c.toNat = 2 \/ c.toNat = 3 \/ c.toNat = 4 := by omega
   have pb : (2 : Int) <= 2 ^ c.toNat /\ (2 : Int) ^ c.toNat <= 16 := by rcases cc with e | e | e | e <;> rw [e] <;> decide
   refine ⟨_,rfl,_,rfl,_,_,rfl,rfl,⟨by omega,by omega,by decide⟩,_,_,rfl,rfl,a,_,rfl,f5,by rw [pw]; omega,by rw [pw]; omega,λ r6 H6 r60 r61 f6 x6 => ⟨_,_,rfl,rfl,?_⟩⟩;rw [pw] at r61;refine ⟨_,rfl,a,3,rfl,f6,by decide,by decide,λ r7 H7 r70 r71 f7 x7 => ⟨rfl,_,rfl,?_⟩⟩;refine kW (λ _ => ?_) (λ _ => ?_)
   . refine ⟨_,rfl,_,rfl,a,c,rfl,f7,by omega,by omega,λ r8 H8 r80 r81 f8 x8 => ⟨_,_,rfl,rfl,⟨by omega,by omega,by decide⟩,?_⟩⟩;have mk1 : (1 : Int) <= 1 * 2 ^ r8.toNat := by rw [Int.one_mul]; have := Nat.one_le_two_pow (n := r8.toNat); exact_mod_cast this
     have mk2 : (1 : Int) * 2 ^ r8.toNat < 2 ^ c.toNat := by
      rw [Int.one_mul];have := Nat.pow_lt_pow_right (a := 2) (by decide) (show r8.toNat < c.toNat by omega)
      exact_mod_cast this
     have xx := (x6.trans x7).trans x8;have h8q := xx _ _ nq h5;have h8l := xx _ _ nl (x5 _ _ nl h4l);refine ⟨_,rfl,.inl ⟨rfl,_,bC.of h8q⟩,_,rfl,_,rfl,c,rfl,by omega,by omega,λ D hD => picks (K := K) (n := c.toNat) (m := (1 * 2 ^ r8.toNat)) (by omega) hz hD h8l λ H9 x9 hD9 => ?_⟩;refine ⟨D,_,rfl,.inl ⟨bC.of hD9,λ d hd => ⟨gH (show 2 <= 1000 by decide),λ t ht => ?_⟩⟩⟩;have y9 : Same H8 (aL (aL H9 d (.tup ((dB zs (1 * 2 ^ r8.toNat) c.toNat).map V.str))) t (.tup [.str z,.ref d])) := x9.trans ((aN hd).trans (aN ht));have f9 := Same.flow y9 f8;have ndt : d ≠ t := λ e => by rw [<- e,aC] at ht; cases ht
     have hrow : RowAt (aL (aL H9 d (.tup ((dB zs (1 * 2 ^ r8.toNat) c.toNat).map V.str))) t (.tup [.str z,.ref d])) t (z,dB zs (1 * 2 ^ r8.toNat) c.toNat) := ⟨d,aC,by rw [aH ndt]; exact aC⟩;generalize aL (aL H9 d (.tup ((dB zs (1 * 2 ^ r8.toNat) c.toNat).map V.str))) t (.tup [.str z,.ref d]) = H10 at y9 f9 hrow ⊢;have h10 := y9 _ _ h8q;have tk : TK H5 H10 := (xx.tk f5).trans (Same.tk y9);have lts : ts.length = rs.length := Paired.length t5;have lrs : rs.length <= i := by
      have := congrArg List.length hm5;rw [List.length_map,List.length_take] at this;omega
     have li : i < ys4.length := (List.getElem?_eq_some_iff.mp hz').1;refine ⟨q0,_,_,rfl,rfl,h10,oH (by rw [List.length_map]; omega),rs ++ [(z,dB zs (1 * 2 ^ r8.toNat) c.toNat)],_,_,rfl,?_,?_,f9.set (Ne.symm nq),((x5.trans xx).trans (Same.ext y9)).at hq0,ts ++ [t],?_,?_⟩
     . rw [List.map_append,hm5,bR hz']; rfl
     . intro r hW
       rcases List.mem_append.mp hW with hW | hW
       . exact hg5 r hW
       . rw [List.mem_singleton.mp hW];exact ⟨⟨⟨picked_ne (by omega) mk1 mk2,Nat.le_trans (nZ _ _ _) (by omega),oS zn (by omega)⟩,λ d hd => picked_mem (by omega) hd⟩,picked_srt zsrt (by omega)⟩
     . rw [aC,List.map_append]; rfl
     . exact eU.keep (TK.lst h10) (Paired.snoc (eU.keep tk t5) hrow)
   . have mk1 : (1 : Int) <= 1 + r6 := by omega
     have mk2 : 1 + r6 < 2 ^ c.toNat := by omega
     have xx := x6.trans x7;have h8q := xx _ _ nq h5;have h8l := xx _ _ nl (x5 _ _ nl h4l);refine ⟨_,rfl,.inl ⟨rfl,_,bC.of h8q⟩,_,rfl,_,rfl,c,rfl,by omega,by omega,λ D hD => picks (K := K) (n := c.toNat) (m := (1 + r6)) (by omega) hz hD h8l λ H9 x9 hD9 => ?_⟩;refine ⟨D,_,rfl,.inl ⟨bC.of hD9,λ d hd => ⟨gH (show 2 <= 1000 by decide),λ t ht => ?_⟩⟩⟩;have y9 : Same H7 (aL (aL H9 d (.tup ((dB zs (1 + r6) c.toNat).map V.str))) t (.tup [.str z,.ref d])) := x9.trans ((aN hd).trans (aN ht));have f9 := Same.flow y9 f7;have ndt : d ≠ t := λ e => by rw [<- e,aC] at ht; cases ht
     have hrow : RowAt (aL (aL H9 d (.tup ((dB zs (1 + r6) c.toNat).map V.str))) t (.tup [.str z,.ref d])) t (z,dB zs (1 + r6) c.toNat) := ⟨d,aC,by rw [aH ndt]; exact aC⟩;generalize aL (aL H9 d (.tup ((dB zs (1 + r6) c.toNat).map V.str))) t (.tup [.str z,.ref d]) = H10 at y9 f9 hrow ⊢;have h10 := y9 _ _ h8q;have tk : TK H5 H10 := (xx.tk f5).trans (Same.tk y9);have lts : ts.length = rs.length := Paired.length t5;have lrs : rs.length <= i := by
      have := congrArg List.length hm5;rw [List.length_map,List.length_take] at this;omega
     have li : i < ys4.length := (List.getElem?_eq_some_iff.mp hz').1;refine ⟨q0,_,_,rfl,rfl,h10,oH (by rw [List.length_map]; omega),rs ++ [(z,dB zs (1 + r6) c.toNat)],_,_,rfl,?_,?_,f9.set (Ne.symm nq),((x5.trans xx).trans (Same.ext y9)).at hq0,ts ++ [t],?_,?_⟩
     . rw [List.map_append,hm5,bR hz']; rfl
     . intro r hW
       rcases List.mem_append.mp hW with hW | hW
       . exact hg5 r hW
       . rw [List.mem_singleton.mp hW];exact ⟨⟨⟨picked_ne (by omega) mk1 mk2,Nat.le_trans (nZ _ _ _) (by omega),oS zn (by omega)⟩,λ d hd => picked_mem (by omega) hd⟩,picked_srt zsrt (by omega)⟩
     . rw [aC,List.map_append]; rfl
     . exact eU.keep (TK.lst h10) (Paired.snoc (eU.keep tk t5) hrow)
 . rintro σ H5 ⟨rs,v5,v6,rfl,hm5,hg5,f5,x5,h5⟩;rw [List.length_map,List.take_length] at hm5;refine ⟨_,rfl,q q0 rs H5 ⟨?_,?_,by rw [hm5]; exact n4,λ r hr => (hg5 r hr).1.1,by rw [hm5]; exact b4,λ r hr d hd => zb d ((hg5 r hr).1.2 d hd),⟨zs,by omega,λ r hr => (hg5 r hr).1.2⟩,λ r hr => (hg5 r hr).2⟩ nq hq1 f5 (x4'.trans x5) h5⟩
   . intro e;rw [e] at hm5;have : ys4.length = 0 := by rw [<- hm5]; rfl
     omega
   . have : rs.length = ys4.length := by rw [<- hm5,List.length_map]
     omega
abbrev s_rising : Stmt := top 6
abbrev iY : Stmt := top 7
abbrev jX : Stmt := top 16
abbrev cA : Stmt := inClass (top 15) 0
abbrev dU : Stmt := inClass (top 15) 1
section
variable {C : Addr}
def lO (K : W.Frag) : Sp := λ vs H Q _ => ∃ (p : Addr) (ys : List Str),vs = [.ref p] /\ (bC K H p (ys.map V.str) \/ dM K H p (ys.map V.str)) /\ ys.length < 64 /\
 ∀ (t : Addr) (zs : List Str) (H' : Hp),sortedS zs = true -> zs.Perm (eG ys) -> H t = none -> Same H H' -> H' t = some (.tup (zs.map V.str)) -> Q (.ref t) H'
theorem sc_rising : bI ["things"] ["things"] (aG s_rising) := (.of rfl rfl rfl rfl (by decide +kernel))
def spRisingN (K : W.Frag) : Sp := λ vs H Q _ => ∃ (p : Addr) (ys : List Int),vs = [.ref p] /\ bC K H p (ys.map V.int) /\ ys.length < 1000 /\ (∀ zs : List Int,zs.Nodup -> (∀ x,x ∈ zs ↔ x ∈ ys) -> zs.length < 64) /\
 ∀ (t : Addr) (zs : List Int) (H' : Hp),zs.Pairwise (· <= ·) -> zs.Nodup -> (∀ x,x ∈ zs ↔ x ∈ ys) -> H t = none -> Same H H' -> H' t = some (.tup (zs.map V.int)) -> Q (.ref t) H'
def spRisingB (K : W.Frag) : Sp := λ vs H Q E => lO K vs H Q E \/ spRisingN K vs H Q E
theorem ok_rising (F : jY K "rising" "rising" s_rising f fd) (B : Bt mg) : FnOk P w K mg base gO (k + 1) f fd ["things"] (spRisingB K) := by
 refine F.ok sc_rising (λ vs H Q E h => ?_) (λ cdv A outer s H vs Q E hr h => ?_)
 . rcases h with ⟨p,ys,rfl,_⟩ | ⟨p,ys,rfl,_⟩
   . rfl
   . rfl
 have nd := sc_rising.nd
 refine ⟨_,(aK (bN (cX jS rfl B.tuple_ (by decide +kernel) (aB (aZ (qH rfl) rfl B.sorted_ (by decide +kernel) (aB (cX (call_set_anyQ rfl) rfl B.set_ (by decide +kernel) (aB (pv 0) aF)) aF)) aF)))),?_⟩
 try dsimp only [cH,Cx.nox,Cx.wish]
 rcases h with ⟨p,ys,rfl,hS,h64,q⟩ | ⟨p,ys,rfl,hS,hl,h64,q⟩
 . have hf := firstS_le ys;have eO : ∀ l,H l = none -> ∃ p zs,[V.ref l] = [.ref p] /\ aL H l (iX P w l (eG ys)) p = some (iX P w p zs) /\ zs.length < 64 /\ ∀ l2 gQ,aL H l (iX P w l (eG ys)) l2 = none -> gQ.Perm zs -> sortedS gQ = true ->
    ∃ p ys',[V.ref l2] = [.ref p] /\ ((bC K (aL (aL H l (iX P w l (eG ys))) l2 (.lst (gQ.map V.str))) p ys' /\ ∀ t,aL (aL H l (iX P w l (eG ys))) l2 (.lst (gQ.map V.str)) t = none -> Q (.ref t) (aL (aL (aL H l (iX P w l (eG ys))) l2 (.lst (gQ.map V.str))) t (.tup ys'))) \/
     (dM K (aL (aL H l (iX P w l (eG ys))) l2 (.lst (gQ.map V.str))) p ys' /\ Q (.ref p) (aL (aL H l (iX P w l (eG ys))) l2 (.lst (gQ.map V.str))))) := λ l hl =>
    ⟨l,eG ys,rfl,aC,by omega,λ l2 zs gK hp hs => ⟨l2,_,rfl,.inl ⟨bC.of aC,λ t ht => q t zs _ hs hp ((aN hl).free ((aN gK).free ht)) (((aN hl).trans (aN gK)).trans (aN ht)) aC⟩⟩⟩
   rcases hS with hS | hS
   . exact ⟨_,rfl,.inl (.inl ⟨p,ys,rfl,hS,by omega,λ l hl => .inl (eO l hl)⟩)⟩
   . exact ⟨_,rfl,.inl (.inr ⟨p,ys,rfl,hS,by omega,λ l hl => .inl (eO l hl)⟩)⟩
 . exact ⟨_,rfl,.inr ⟨p,ys,rfl,hS,hl,λ l zs hl hn hm => .inr ⟨l,zs,rfl,aC,h64 zs hn hm,λ l2 gQ gK hp hs => ⟨l2,_,rfl,.inl ⟨bC.of aC,λ t ht => q t gQ _ hs (hp.nodup_iff.mpr hn) (λ x => (hp.mem_iff).trans (hm x)) ((aN hl).free ((aN gK).free ht)) (((aN hl).trans (aN gK)).trans (aN ht)) aC⟩⟩⟩⟩⟩
def spTwice (K : W.Frag) : Sp := λ vs H Q _ => ∃ (p : Addr) (zs : List Str),vs = [.ref p] /\ dM K H p (zs.map V.str) /\ zs.Nodup /\ zs.length <= 60 /\ ∀ H',Same H H' -> Q .non H'
theorem sc_twice : bI ["names","seen","name"] ["names"] (aG iY) := (.of rfl rfl rfl rfl (by decide +kernel))
theorem ok_twice (F : jY K "refuse_twice" "refuse_twice" iY f fd) (B : Bt mg) : FnOk P w K mg base gO (k + 1) f fd ["names"] (spTwice K) := by
 refine F.ok sc_twice (λ vs H Q E h => ?_) (λ cdv A outer s H vs Q E hr h => ?_)
 . obtain ⟨p,zs,rfl,_⟩ := h;rfl
 obtain ⟨p,zs,rfl,hS,hnd,h60,q⟩ := h
 have nd := sc_twice.nd
 refine ⟨_,(aE (aS (i := 1) nd rfl (Or.inl rfl) (pe_callTy0 call_setQ0 rfl B.set_ (by decide +kernel))) (aK (dC PassesOwn.never rfl (fZ (pv 0)) (aP (i := 2) nd rfl (Or.inl rfl)) (aE (dH (bX op_in_setQ (pv 2) (pv 1) rfl) (aK ps_never) bU) (aK (fL (pe_bmQ PySem.F.slot_set_add PySem.F.type_set_add mt_addQ (pv 1) (aB (pv 2) aF)))))))),?_⟩
 try dsimp only [cH,Cx.nox,Cx.wish]
 refine lats2 ?_
 intro D0 σ0 U2
 refine ⟨rfl,λ l hl => ?_⟩
 refine ⟨_,rfl,p,rfl,⟨_,Same.tup (aN hl) hS⟩,jG (xs := zs.map V.str) (λ i σ H' => ∃ v : Option V,σ = [some (.ref p),some (.ref l),v] /\ H' l = some (iX P w l (zs.take i)) /\ Same H H') ?_ ?_ ?_ ?_⟩
 . exact ⟨none,rfl,aC,aN hl⟩
 . rintro i σ H1 _ ⟨v,_,_,x⟩;exact Same.tup x hS
 . rintro i y σ H1 hy ⟨v,rfl,h1,x1⟩;rw [List.getElem?_map] at hy;obtain ⟨z,hz,rfl⟩ := Option.map_eq_some_iff.mp hy;have hn := iL hnd hz;have hi : i < zs.length := (List.getElem?_eq_some_iff.mp hz).1;refine ⟨_,rfl,_,rfl,z,l,_,rfl,rfl,h1,_,rfl,?_⟩;rw [decide_eq_false hn];refine kL ?_;refine ⟨_,rfl,⟨l,_,rfl,h1⟩,_,rfl,l,z,_,rfl,rfl,h1,by rw [List.length_take]; omega,_,rfl,?_,x1.at hl⟩;rw [aC,if_neg hn,bR hz]
   try rfl
 . rintro σ H1 ⟨v,rfl,_,x1⟩;exact q H1 x1
def spRefRows : Sp := λ vs H Q _ => ∃ (L : Addr) (rs : List cY),vs = [.ref L] /\ cI H L rs /\ gG rs /\ ∀ H',Same H H' -> Q .non H'
theorem sc_refrows : bI ["rows","seen","letter","desks"] ["rows"] (aG jX) := (.of rfl rfl rfl rfl (by decide +kernel))
theorem ok_refrows (F : jY K "refuse_rows" "refuse_rows" jX f fd) (B : Bt mg) (fY : Fn P w K mg base k "refuse_twice" ["names"] (spTwice K) g gd) : FnOk P w K mg base gO (k + 1) f fd ["rows"] spRefRows := by
 refine F.ok sc_refrows (λ vs H Q E h => ?_) (λ cdv A outer s H vs Q E hr h => ?_)
 . obtain ⟨L,rs,rfl,_⟩ := h;rfl
 obtain ⟨L,rs,rfl,⟨ts,hL,hT⟩,hG,q⟩ := h
 have nd := sc_refrows.nd
 have cE := Paired.length hT
 have hl6 := hG.len
 refine ⟨_,(aE (aS (i := 1) nd rfl (Or.inl rfl) (pe_callTy0 call_setQ0 rfl B.set_ (by decide +kernel))) (aK (dC PassesOwn.never rfl (dG (pv 0)) (iE rfl (bW (aP (i := 2) nd rfl (Or.inl rfl)) (bW (aP (i := 3) nd rfl (Or.inl rfl)) fJ))) (aE (dH (bX op_in_setQ (pv 2) (pv 1) rfl) (aK ps_never) bU) (aE (fL (pe_bmQ PySem.F.slot_set_add PySem.F.type_set_add mt_addQ (pv 1) (aB (pv 2) aF))) (aK (fL (aQ fY.ok hr rfl fY.at_ fY.kp fY.bn .nil bE (aB (pv 3) aF))))))))),?_⟩
 try dsimp only [cH,Cx.nox,Cx.wish]
 refine lats2 ?_
 intro D0 σ0 U2
 refine ⟨rfl,λ l hl => ?_⟩
 refine ⟨_,rfl,L,rfl,⟨_,bC.of ((aN hl) _ _ hL)⟩,fF (xs := ts.map V.ref) (λ i σ H' => ∃ v2 v3 : Option V,σ = [some (.ref L),some (.ref l),v2,v3] /\ H' l = some (iX P w l ((rs.map (·.1)).take i)) /\ Same H H') ?_ ?_ ?_ ?_⟩
 . exact ⟨none,none,rfl,aC,aN hl⟩
 . rintro i σ H1 _ ⟨v2,v3,_,_,x⟩;exact bC.of (x _ _ hL)
 . rintro i y σ H1 hy ⟨v2,v3,rfl,h1,x1⟩;rw [List.getElem?_map] at hy;obtain ⟨t,ht,rfl⟩ := Option.map_eq_some_iff.mp hy;obtain ⟨r,hW,d,e1,e2⟩ := hT.get ht;have hz : (rs.map (·.1))[i]? = some r.1 := by rw [List.getElem?_map,hW]; rfl
   have hn := iL hG.nd hz;have hi : i < rs.length := (List.getElem?_eq_some_iff.mp hW).1;have hrow := hG.row r (List.mem_of_getElem? hW);refine ⟨t,_,rfl,dM.of (x1 _ _ e1),rfl,_,_,rfl,_,_,rfl,rfl,?_⟩;refine qU ?_;intro D1 σ1 W3 W2;refine ⟨_,rfl,_,rfl,r.1,l,_,rfl,rfl,h1,_,rfl,?_⟩;rw [decide_eq_false hn];refine kL ?_;refine ⟨_,rfl,⟨l,_,rfl,h1⟩,_,rfl,l,r.1,_,rfl,rfl,h1,by rw [List.length_take]; omega,?_⟩;have x2 : Same H (aL H1 l (iX P w l (if r.1 ∈ (rs.map (·.1)).take i then (rs.map (·.1)).take i else (rs.map (·.1)).take i ++ [r.1]))) := x1.at hl;refine ⟨_,rfl,d,r.2,rfl,dM.of (x2 _ _ e2),hrow.2.2,by omega,λ H2 x3 => ⟨_,_,rfl,?_,x2.trans x3⟩⟩;refine x3 _ _ ?_;rw [aC,if_neg hn,bR hz]
   try rfl
 . rintro σ H1 ⟨v2,v3,rfl,_,x1⟩;exact q H1 x1
def iO (C : Addr) (H : Hp) (x : Addr) (rs : List cY) : Prop := ∃ (dx tl td dd : Addr) (aO : List (bP × V)) (ds : List Str),H x = some (.ins C dx [("letters",.ref tl),("desks",.ref td),("desks_at",.ref dd)]) /\ H tl = some (.tup ((rs.map (·.1)).map V.str)) /\
 H td = some (.tup (ds.map V.str)) /\ sortedS ds = true /\ ds.Nodup /\ ds.length <= 60 /\ (∀ d,d ∈ ds ↔ ∃ r ∈ rs,d ∈ r.2) /\ H dd = some (.dK aO) /\ ∀ r ∈ rs,∃ t zs,eC aO (.inr r.1) = some (.ref t) /\ H t = some (.tup (zs.map V.str)) /\ zs.Perm r.2 /\ sortedS zs = true
theorem iO.same {C x : Addr} {H H' : Hp} {rs : List cY} (h : iO C H x rs) (e : Same H H') : iO C H' x rs := by
 obtain ⟨dx,tl,td,dd,aO,ds,h1,h2,h3,h4,h5,h6,h7,h8,h9⟩ := h
 exact ⟨dx,tl,td,dd,aO,ds,e _ _ h1,e _ _ h2,e _ _ h3,h4,h5,h6,h7,e _ _ h8,λ r hr => let ⟨t,zs,a,b,c⟩ := h9 r hr; ⟨t,zs,a,e _ _ b,c⟩⟩
structure ShC (K : W.Frag) (C : Addr) : Prop where
 cls : Cls K C
 n1 : lH K C "letters"
 n2 : lH K C "desks"
 n3 : lH K C "desks_at"
def spInit (C : Addr) : Sp := λ vs H Q _ => ∃ (x L dx : Addr) (rs : List cY),vs = [.ref x,.ref L] /\ H x = some (.ins C dx []) /\ cI H L rs /\ gG rs /\
 ∀ H',iO C H' x rs -> (∀ b o,b ≠ x -> H b = some o -> H' b = some o) -> Q .non H'
theorem sc_init : bI ["self","rows"] ["self","rows"] (aG cA) := (.of rfl rfl rfl rfl (by decide +kernel))
theorem firsts {D L : Addr} {Q : VK} {H1 : Hp} {rs : List cY} (hl : rs.length <= 60) (hD : H1 D = none) (hL : cI H1 L rs) (oG : ∀ H',Same H1 H' -> H' D = some (.lst ((rs.map (·.1)).map V.str)) -> Q (.ref D) H') :
 cG (Itl K L) D (gTup K 2 (fE (bO 0) (fE (bO 1) gNil))) fV (aU 0) Q [none,none] H1 := by
 obtain ⟨ts,hL,hT⟩ := hL
 have cE := Paired.length hT
 refine mO (xs := ts.map V.ref) (λ i ys σ H => ∃ v0 v1 : Option V,ys = ((rs.take i).map (·.1)).map V.str /\ σ = [v0,v1] /\ Same H1 H) ?_ (by rw [List.length_map]; omega) ?_ ?_ ?_ ?_
 . exact ⟨none,none,rfl,rfl,aN hD⟩
 . rintro i ys σ H ⟨v0,v1,rfl,_⟩;rw [List.length_map,List.length_map,List.length_take]; omega
 . rintro i ys σ H ⟨v0,v1,_,_,x⟩;exact bC.of (x _ _ hL)
 . rintro i y ys σ H hy gK ⟨v0,v1,rfl,rfl,x⟩;rw [List.getElem?_map] at hy;obtain ⟨t,ht,rfl⟩ := Option.map_eq_some_iff.mp hy;obtain ⟨r,hW,d,e1,e2⟩ := hT.get ht;refine ⟨t,_,rfl,dM.of (x _ _ e1),rfl,_,_,rfl,_,_,rfl,rfl,_,rfl,gK,_,_,?_,rfl,x.at hD⟩;rw [bR hW,List.map_append,List.map_append]; rfl
 . rintro ys σ H gK ⟨v0,v1,rfl,_,x⟩;rw [List.length_map,cE,List.take_length] at gK;exact oG H x gK
theorem desks2 {D L : Addr} {Q : Hp -> Prop} {H1 : Hp} {rs : List cY} (hl : rs.length <= 6) (h4 : ∀ r ∈ rs,r.2.length <= 4) (hD : H1 D = none) (hL : cI H1 L rs) (oG : ∀ H',Same H1 H' -> H' D = some (.lst ((rs.flatMap (·.2)).map V.str)) -> Q H') :
 lL (Itl K L) (gTup K 2 (fE (bO 0) (fE (bO 1) gNil))) fV (tNest (iTup K (aU 1)) (bO 2) fV (tEmit D (aU 2))) (λ _ H' => Q H') [none,none,none] (aL H1 D (.lst [])) := by
 obtain ⟨ts,hL,hT⟩ := hL
 have cE := Paired.length hT
 refine loop_list (xs := ts.map V.ref) (λ i σ H => ∃ v0 v1 v2 : Option V,σ = [v0,v1,v2] /\ H D = some (.lst (((rs.take i).flatMap (·.2)).map V.str)) /\ ((rs.take i).flatMap (·.2)).length <= 4 * i /\ Same H1 H) ?_ ?_ ?_ ?_
 . exact ⟨none,none,none,rfl,aC,Nat.zero_le _,aN hD⟩
 . rintro i σ H _ ⟨v0,v1,v2,_,_,_,x⟩;exact bC.of (x _ _ hL)
 . rintro i y σ H hy ⟨v0,v1,v2,rfl,h1,l1,x⟩;rw [List.getElem?_map] at hy;obtain ⟨t,ht,rfl⟩ := Option.map_eq_some_iff.mp hy;obtain ⟨r,hW,d,e1,e2⟩ := hT.get ht;have hi : i < rs.length := (List.getElem?_eq_some_iff.mp hW).1;have r4 := h4 r (List.mem_of_getElem? hW);have fm : (rs.take (i + 1)).flatMap (·.2) = (rs.take i).flatMap (·.2) ++ r.2 := by rw [bR hW,List.flatMap_append]; simp
   refine ⟨t,_,rfl,dM.of (x _ _ e1),rfl,_,_,rfl,_,_,rfl,rfl,?_⟩;refine ⟨_,rfl,d,rfl,⟨_,dM.of (x _ _ e2)⟩,oI (xs := r.2.map V.str) (λ j σ2 H2 => ∃ v2 : Option V,σ2 = [some (.str r.1),some (.ref d),v2] /\ H2 D = some (.lst (((rs.take i).flatMap (·.2) ++ r.2.take j).map V.str)) /\ Same H1 H2) ?_ ?_ ?_ ?_⟩
   . exact ⟨_,rfl,by rw [List.take_zero,List.append_nil]; exact h1,x⟩
   . rintro j σ2 H2 _ ⟨v2',_,_,x2⟩;exact dM.of (x2 _ _ e2)
   . rintro j y2 σ2 H2 hy2 ⟨v2',rfl,h2,x2⟩;rw [List.getElem?_map] at hy2;obtain ⟨z,hz,rfl⟩ := Option.map_eq_some_iff.mp hy2;have hj : j < r.2.length := (List.getElem?_eq_some_iff.mp hz).1;refine ⟨_,rfl,_,h2,oH (by rw [List.length_map,List.length_append,List.length_take]; omega),_,rfl,?_,x2.at hD⟩;rw [aC,bR hz,<- List.append_assoc,List.map_append (l₂ := [z])]; rfl
   . rintro σ2 H2 ⟨v2',rfl,h2,x2⟩;rw [List.length_map,List.take_length,<- fm] at h2;refine ⟨_,_,_,rfl,h2,?_,x2⟩;rw [fm,List.length_append]; omega
 . rintro σ H ⟨v0,v1,v2,rfl,h1,l1,x⟩;rw [List.length_map,cE,List.take_length] at h1;exact oG H x h1
end
section
variable {g4 : Addr} {gd4 : FuncData} {C : Addr}
theorem dict_rows {D L : Addr} {Q : Hp -> Prop} {H1 : Hp} {rs : List cY} (hG : gG rs) (hD : H1 D = none) (hL : cI H1 L rs)
 (oG : ∀ H' (aO : List (bP × V)),Same H1 H' -> H' D = some (.dK aO) -> (∀ r ∈ rs,∃ t zs,eC aO (.inr r.1) = some (.ref t) /\ H' t = some (.tup (zs.map V.str)) /\ zs.Perm r.2 /\ sortedS zs = true) -> Q H') :
 lL (Itl K L) (gTup K 2 (fE (bO 0) (fE (bO 1) gNil))) fV (tEmitD D (aU 0) (nA (lO K) [] E0 (cC (aU 1) fD))) (λ _ H' => Q H') [none,none] (aL H1 D (.dK [])) := by
 obtain ⟨ts,hL,hT⟩ := hL
 have cE := Paired.length hT
 have l6 := hG.len
 refine loop_list (xs := ts.map V.ref) (λ i σ H => ∃ (v0 v1 : Option V) (aO : List (bP × V)),σ = [v0,v1] /\ H D = some (.dK aO) /\ aO.length <= i /\ (∀ r ∈ rs.take i,∃ t zs,eC aO (.inr r.1) = some (.ref t) /\ H t = some (.tup (zs.map V.str)) /\ zs.Perm r.2 /\ sortedS zs = true) /\ Same H1 H) ?_ ?_ ?_ ?_
 . exact ⟨none,none,[],rfl,aC,Nat.le_refl _,(by intro _ z; cases z),aN hD⟩
 . rintro i σ H _ ⟨v0,v1,aO,_,_,_,_,x⟩;exact bC.of (x _ _ hL)
 . rintro i y σ H hy ⟨v0,v1,aO,rfl,h1,l1,m1,x⟩;rw [List.getElem?_map] at hy;obtain ⟨t,ht,rfl⟩ := Option.map_eq_some_iff.mp hy;obtain ⟨r,hW,d,e1,e2⟩ := hT.get ht;have hi : i < rs.length := (List.getElem?_eq_some_iff.mp hW).1;have hrow := hG.row r (List.mem_of_getElem? hW);have hz : (rs.map (·.1))[i]? = some r.1 := by rw [List.getElem?_map,hW]; rfl
   have hn := iL hG.nd hz;refine ⟨t,_,rfl,dM.of (x _ _ e1),rfl,_,_,rfl,_,_,rfl,rfl,?_⟩;refine ⟨_,rfl,_,rfl,d,r.2,rfl,.inr (dM.of (x _ _ e2)),by omega,λ t2 zs H2 hs hp ht2 x2 h2 => ?_⟩;refine ⟨aO,.inr r.1,rfl,x2 _ _ h1,oH (by omega),_,_,dY aO (.inr r.1) (.ref t2),rfl,aC,?_,?_,(x.trans x2).at hD⟩
   . have := dJ aO (.inr r.1) (.ref t2);omega
   . intro r' hr2;have nt : ∀ t' ys,H2 t' = some (.tup ys) -> t' ≠ D := λ t' ys e => cO e (x2 _ _ h1) (λ z => nomatch z)
     rcases (cR hW).mp hr2 with h | h
     . obtain ⟨t',gQ,a1,a2,a3⟩ := m1 r' h;refine ⟨t',gQ,?_,?_,a3⟩
       . rw [kB,if_neg]
         . exact a1
         . intro e;have e' : r'.1 = r.1 := Sum.inr.inj e;refine hn ?_;rw [<- List.map_take,<- e'];exact List.mem_map_of_mem h
       . rw [aH (nt _ _ (x2 _ _ a2))]; exact x2 _ _ a2
     . subst h;refine ⟨t2,zs,by rw [kB,if_pos rfl],by rw [aH (nt _ _ h2)]; exact h2,?_,hs⟩;exact hp.trans (jH (pB _) hrow.2.2 (firstS_mem _))
 . rintro σ H ⟨v0,v1,aO,rfl,h1,l1,m1,x⟩;rw [List.length_map,cE,List.take_length] at m1;exact oG H aO x h1 m1
theorem ok_init (F : jY K "__init__" "Sharing.__init__" cA f fd) (B : Bt mg) (S : ShC K C) (gR : Fn P w K mg base k "refuse_rows" ["rows"] spRefRows g gd) (G_rising : Fn P w K mg base k "rising" ["things"] (lO K) g2 gd2) :
 FnOk P w K mg base gO (k + 1) f fd ["self","rows"] (spInit C) := by
 refine F.ok sc_init (λ vs H Q E h => ?_) (λ cdv A outer s H vs Q E hr h => ?_)
 . obtain ⟨x,L,dx,rs,rfl,_⟩ := h;rfl
 obtain ⟨x,L,dx,rs,rfl,hx,hR,hG,q⟩ := h
 have nd := sc_init.nd
 have hl6 := hG.len
 refine ⟨_,(aE (fL (aQ gR.ok hr rfl gR.at_ gR.kp gR.bn .nil bE (aB (pv 1) aF))) (aE (ps_fld (pv 0) (cX jS rfl B.tuple_ (by decide +kernel) (aB (dX (g := (gTup K 2 (fE (bO 0) (fE (bO 1) gNil)))) (tc := fV) (te := (aU 0)) (own := ["letter","desks"]) (fr := ([] : List Str)) (idx := []) rfl (by show aV _ _ _ (aG cA); exact (.of rfl (by decide +kernel))) (dG (pv 1)) (λ _ _ _ _ _ => (iE rfl (bW (aP (i := 0) (by show List.Nodup (["letter","desks"] : List Str); decide +kernel) rfl (Or.inl rfl) (Or.inr rfl)) (bW (aP (i := 1) (by show List.Nodup (["letter","desks"] : List Str); decide +kernel) rfl (Or.inl rfl) (Or.inr rfl)) fJ)))) (λ _ _ _ _ _ => dI) (λ _ _ _ _ _ => (pv 0)) rfl (dO rfl)) aF)) rfl) (aE (ps_fld (pv 0) (aQ G_rising.ok hr rfl G_rising.at_ G_rising.kp G_rising.bn .nil bE (aB (pe_comp2 (g := (gTup K 2 (fE (bO 0) (fE (bO 1) gNil)))) (tc := fV) (te := (aU 2)) (wi2 := (iTup K (aU 1))) (g2 := (bO 2)) (tc2 := fV) (own := ["letter","desks","desk"]) (fr := ([] : List Str)) (idx := []) rfl (by show aV _ _ _ (aG cA); exact (.of rfl (by decide +kernel))) (dG (pv 1)) (λ _ _ _ _ _ => (iE rfl (bW (aP (i := 0) (by show List.Nodup (["letter","desks","desk"] : List Str); decide +kernel) rfl (Or.inl rfl) (Or.inr rfl)) (bW (aP (i := 1) (by show List.Nodup (["letter","desks","desk"] : List Str); decide +kernel) rfl (Or.inl rfl) (Or.inr rfl)) fJ)))) (λ _ _ _ _ _ => dI) (λ _ _ _ _ _ => (fZ (pv 1))) (λ _ _ _ _ _ => (aP (i := 2) (by show List.Nodup (["letter","desks","desk"] : List Str); decide +kernel) rfl (Or.inl rfl) (Or.inr rfl))) (λ _ _ _ _ _ => dI) (λ _ _ _ _ _ => (pv 2)) rfl (dO rfl)) aF)) rfl) (aK (ps_fld (pv 0) (pe_dcomp (g := (gTup K 2 (fE (bO 0) (fE (bO 1) gNil)))) (tc := fV) (tk := (aU 0)) (tv := (nA (lO K) [] E0 (cC (aU 1) fD))) (own := ["letter","desks"]) (fr := ([] : List Str)) (idx := []) rfl (by show aV _ _ _ (aG cA); exact (.of rfl (by decide +kernel))) (dG (pv 1)) (λ _ _ _ _ _ => (iE rfl (bW (aP (i := 0) (by show List.Nodup (["letter","desks"] : List Str); decide +kernel) rfl (Or.inl rfl) (Or.inr rfl)) (bW (aP (i := 1) (by show List.Nodup (["letter","desks"] : List Str); decide +kernel) rfl (Or.inl rfl) (Or.inr rfl)) fJ)))) (λ _ _ _ _ _ => dI) (λ _ _ _ _ _ => (pv 0)) (λ _ _ _ _ _ => (aQ G_rising.ok hr rfl G_rising.at_ G_rising.kp G_rising.bn .nil bE (aB (pv 1) aF))) rfl (dO rfl)) rfl))))),?_⟩
 try dsimp only [cH,Cx.nox,Cx.wish]
 refine lats4 ?_
 intro D0 σ0 U4 U3 U2
 refine ⟨_,rfl,L,rs,rfl,hR,hG,λ H1 x1 => ?_⟩
 have hR1 := hR.same x1
 obtain ⟨ts,hL1,_⟩ := id hR1
 refine ⟨_,rfl,L,rfl,⟨_,bC.of hL1⟩,λ D hD => firsts (K := K) (by omega) hD hR1 λ H2 x2 hD2 => ⟨D,_,rfl,.inl ⟨bC.of hD2,λ tl htl => ?_⟩⟩⟩
 have xx2 : Same H (aL H2 tl (.tup ((rs.map (·.1)).map V.str))) := (x1.trans x2).trans (aN htl)
 refine ⟨_,rfl,x,C,dx,[],rfl,xx2 _ _ hx,S.cls,S.n1,by decide,?_⟩
 have y2 : ∀ b o,b ≠ x -> H b = some o -> aL (aL H2 tl (.tup ((rs.map (·.1)).map V.str))) x (.ins C dx (fW "letters" (.ref tl) [])) b = some o := λ b o n e => by rw [aH n]; exact xx2 _ _ e
 have ntl : tl ≠ x := cO (aC (H := H2)) (xx2 _ _ hx) (λ z => nomatch z)
 have k2 : aL (aL H2 tl (.tup ((rs.map (·.1)).map V.str))) x (.ins C dx (fW "letters" (.ref tl) [])) tl = some (.tup ((rs.map (·.1)).map V.str)) := by rw [aH ntl]; exact aC
 have k2x : aL (aL H2 tl (.tup ((rs.map (·.1)).map V.str))) x (.ins C dx (fW "letters" (.ref tl) [])) x = some (.ins C dx [("letters",.ref tl)]) := aC
 generalize aL (aL H2 tl (.tup ((rs.map (·.1)).map V.str))) x (.ins C dx (fW "letters" (.ref tl) [])) = H3 at y2 k2 k2x ⊢
 have hR3 : cI H3 L rs := by
  obtain ⟨ts,h1,h2⟩ := hR;exact ⟨ts,y2 _ _ (cO h1 hx (λ z => nomatch z)) h1,eU.keep (λ b xs e => y2 _ _ (cO e hx (λ z => nomatch z)) e) h2⟩
 obtain ⟨ts3,hL3,_⟩ := id hR3
 refine ⟨_,rfl,L,rfl,⟨_,bC.of hL3⟩,λ D hD => desks2 (K := K) (by omega) (λ r hr => (hG.row r hr).2.1) hD hR3 λ H4 x4 hD4 => ?_⟩
 have lfm : (rs.flatMap (·.2)).length <= 4 * rs.length := by
  clear q hR hR1 hR3;have : ∀ l : List cY,(∀ r ∈ l,r.2.length <= 4) -> (l.flatMap (·.2)).length <= 4 * l.length := by
   intro l
   induction l with
   | nil => intro _; exact Nat.le_refl _
   | cons r rr ih =>
    intro h;have h1 := h r List.mem_cons_self;have h2 := ih λ r' hW => h r' (List.mem_cons_of_mem _ hW);rw [List.flatMap_cons,List.length_append,List.length_cons];omega
  exact this rs λ r hr => (hG.row r hr).2.1
 refine ⟨D,rs.flatMap (·.2),rfl,.inl (bC.of hD4),by omega,λ td ds H5 hs5 hp5 htd x5 h5 => ?_⟩
 have xx5 : Same H3 H5 := x4.trans x5
 refine ⟨_,rfl,x,C,dx,_,rfl,xx5 _ _ k2x,S.cls,S.n2,(by show 1 < 1000; decide),?_⟩
 have dlen : ds.length <= 60 := by
  have := firstS_le (rs.flatMap (·.2));rw [hp5.length_eq]; omega
 have dnd : ds.Nodup := hp5.nodup_iff.mpr (pB _)
 have dmem : ∀ d,d ∈ ds ↔ ∃ r ∈ rs,d ∈ r.2 := λ d => by rw [hp5.mem_iff,firstS_mem,List.mem_flatMap]
 have y5 : ∀ b o,b ≠ x -> H3 b = some o -> aL H5 x (.ins C dx (fW "desks" (.ref td) [("letters",.ref tl)])) b = some o := λ b o n e => by rw [aH n]; exact xx5 _ _ e
 have ntd : td ≠ x := cO h5 (xx5 _ _ k2x) (λ z => nomatch z)
 have k5 : aL H5 x (.ins C dx (fW "desks" (.ref td) [("letters",.ref tl)])) td = some (.tup (ds.map V.str)) := by rw [aH ntd]; exact h5
 have k5x : aL H5 x (.ins C dx (fW "desks" (.ref td) [("letters",.ref tl)])) x = some (.ins C dx [("letters",.ref tl),("desks",.ref td)]) := aC
 generalize aL H5 x (.ins C dx (fW "desks" (.ref td) [("letters",.ref tl)])) = H6 at y5 k5 k5x ⊢
 have hR6 : cI H6 L rs := by
  obtain ⟨ts,h1,h2⟩ := hR3;exact ⟨ts,y5 _ _ (cO h1 k2x (λ z => nomatch z)) h1,eU.keep (λ b xs e => y5 _ _ (cO e k2x (λ z => nomatch z)) e) h2⟩
 obtain ⟨ts6,hL6,_⟩ := id hR6
 refine ⟨_,rfl,L,rfl,⟨_,bC.of hL6⟩,λ D hD => dict_rows (K := K) hG hD hR6 λ H7 aO x7 h7 m7 => ?_⟩
 refine ⟨_,rfl,x,C,dx,_,rfl,x7 _ _ k5x,S.cls,S.n3,(by show 2 < 1000; decide),?_⟩
 have y7 : ∀ b o,b ≠ x -> H6 b = some o -> aL H7 x (.ins C dx (fW "desks_at" (.ref D) [("letters",.ref tl),("desks",.ref td)])) b = some o := λ b o n e => by rw [aH n]; exact x7 _ _ e
 refine q _ ⟨dx,tl,td,D,aO,ds,aC,y7 _ _ ntl (y5 _ _ ntl k2),y7 _ _ ntd k5,hs5,dnd,dlen,dmem,?_,λ r hr => ?_⟩ λ b o n e => y7 _ _ n (y5 _ _ n (y2 _ _ n e))
 . rw [aH (cO h7 (x7 _ _ k5x) (λ z => nomatch z))]; exact h7
 . obtain ⟨t,zs,a1,a2,a3⟩ := m7 r hr;exact ⟨t,zs,a1,by rw [aH (cO a2 (x7 _ _ k5x) (λ z => nomatch z))]; exact a2,a3⟩
def spMeet (C : Addr) : Sp := λ vs H Q _ => ∃ (x : Addr) (rs : List cY) (r : cY),vs = [.ref x,.str r.1] /\ iO C H x rs /\ r ∈ rs /\ ∀ t zs,H t = some (.tup (zs.map V.str)) -> zs.Perm r.2 -> sortedS zs = true -> Q (.ref t) H
theorem sc_meet : bI ["self","letter"] ["self","letter"] (aG dU) := (.of rfl rfl rfl rfl (by decide +kernel))
theorem ok_meet (F : jY K "meet" "Sharing.meet" dU f fd) (S : ShC K C) : FnOk P w K mg base gO (k + 1) f fd ["self","letter"] (spMeet C) := by
 refine F.ok sc_meet (λ vs H Q E h => ?_) (λ cdv A outer s H vs Q E hr h => ?_)
 . obtain ⟨x,rs,r,rfl,_⟩ := h;rfl
 obtain ⟨x,rs,r,rfl,⟨dx,tl,td,dd,aO,ds,h1,h2,h3,h4,h5,h6,h7,h8,h9⟩,hm,q⟩ := h
 have nd := sc_meet.nd
 obtain ⟨t,zs,a1,a2,a3,a4⟩ := h9 r hm
 refine ⟨_,(aE (dH (pt_cmp (pc_dnotin (iB hr) (pv 1) (iD (pv 0) rfl))) (aK ps_never) bU) (aK (bN (jK (iB hr) (iD (pv 0) rfl) (pv 1) (λ _ _ => rfl))))),?_⟩
 try dsimp only [cH,Cx.nox,Cx.wish]
 refine lats2 ?_
 intro D0 σ0 U2
 have g : jC H dd (.str r.1) (some (.ref t)) := by
  rw [<- a1];exact jC.k (k := Sum.inr r.1) h8
 refine ⟨_,rfl,_,rfl,x,C,dx,_,_,rfl,h1,S.cls,S.n3,rfl,dd,_,rfl,g,_,rfl,?_⟩
 refine kL ?_
 exact ⟨_,rfl,x,C,dx,_,_,rfl,h1,S.cls,S.n3,rfl,_,rfl,dd,_,rfl,g,q t zs a2 a3 a4⟩
end
end KK
namespace L2
open PySem PySem.Spec PyProof.Rows
theorem for_enum {K : W.Frag} {a : Addr} {xs : List V} {g : TG} {tb : TS} {D : eL} {σ : St} {H : Hp} (Pv : Nat -> St -> Hp -> Prop) (h0 : Pv 0 σ H) (hl : ∀ i σ H,i <= xs.length -> Pv i σ H -> bC K H a xs)
 (hs : ∀ i x σ H T,xs[i]? = some x -> H T = none -> Pv i σ H -> g (.ref T) σ (aL H T (.tup [.int i,x])) λ σ2 H2 => tb { D with nx := Pv (i + 1),ct := Pv (i + 1),bk := D.nx } σ2 H2) (hd : ∀ σ H,Pv xs.length σ H -> D.nx σ H) :
 ∃ W : Nat -> Nat -> St -> Hp -> Prop,(∃ m,W 0 m σ H) /\ ∀ i m σ H,W i m σ H ->
  ((Ite K a).stop i H /\ D.nx σ H) \/ ((Ite K a).go i H /\ ∃ N : St -> Hp -> Prop,(∀ σ' H',N σ' H' -> ∃ m',m' < m /\ W (i + 1) m' σ' H') /\ ∀ x H',(Ite K a).yld i H x H' -> g x σ H' λ σ2 H2 => tb { D with nx := N,ct := N,bk := D.nx } σ2 H2) := by
 refine ⟨λ i m σ H => m = xs.length - i /\ i <= xs.length /\ Pv i σ H,⟨xs.length,by simp,Nat.zero_le _,h0⟩,?_⟩
 rintro i m σ H ⟨rfl,hi,p⟩
 have q := hl i σ H hi p
 by_cases fR : i < xs.length
 . refine .inr ⟨⟨xs,xs[i],q,by simp [fR]⟩,Pv (i + 1),λ σ' H' p' => ⟨xs.length - (i + 1),by omega,rfl,fR,p'⟩,λ x H' y => ?_⟩;obtain ⟨T,hT,rfl,y⟩ := y;obtain ⟨x',hx,rfl⟩ := y xs q;exact hs i x' σ H T hx hT p
 . have e : i = xs.length := by omega
   subst e;exact .inl ⟨⟨xs,q,Nat.le_refl _⟩,hd σ H p⟩
end L2
namespace KK
open PySem L2 PyProof.Rows
def oF (C : Addr) (f1 : Str) : Sp := λ vs H Q _ => ∃ (e t : Addr) (v1 : V),vs = [.ref e,v1] /\ H e = some (mW e C t none) /\ ∀ H',XAt H' e C [(f1,v1)] -> (∀ b o,b ≠ e -> H b = some o -> H' b = some o) -> Q .non H'
section
variable {P : Program} {w : World} {K : W.Frag} {mg : Str -> Option Value} {base : Heap} {f C M : Addr} {fd : FuncData} {k : Nat} {st : Stmt} {qual f1 f2 : Str} {p1 p2 p3 p4 p5 p6 p7 p8 : Pos}
theorem ok_init1 (F : jY K "__init__" qual st f fd) (xc : XC K C M) (a1 : W.findIn K (.ref C) f1 = some none) (S : bI ["self",f1] ["self",f1] (aG st)) (hb : cL st = [.Assign [.Attribute (.Name "self" p1) f1 p2] (.Name f1 p3) p4])
 (h0 : (aG st).names.lookup ("self" : Str) = some .local) (h1 : (aG st).names.lookup f1 = some .local) (d1 : (f1 == ("__debug__" : Str)) = false) (d2 : (f1 == ("__classdict__" : Str)) = false) : FnOk P w K mg base gO (k + 1) f fd ["self",f1] (oF C f1) := by
 refine F.ok S (λ vs H Q E h => ?_) (λ cdv A outer s H vs Q E hr h => ?_)
 . obtain ⟨e,t,v1,rfl,_⟩ := h;rfl
 obtain ⟨e,t,v1,rfl,he,q⟩ := h
 rw [hb]
 refine ⟨_,aK (ps_fldX xc a1 (pv 0 rfl (Or.inl h0)) (pv 1 rfl (Or.inl h1) d1 d2)),?_⟩
 refine ⟨_,rfl,_,rfl,e,rfl,.inl ⟨t,he,λ dx hd hn => q _ ⟨t,.inr ⟨dx,by rw [aH (Ne.symm hn)]; exact aC,aC,hn⟩⟩ λ b o nb hb' => ?_⟩⟩
 rw [aH (aD hb' hd),aH nb]; exact hb'
variable {D : Addr} {cd : ClassData}
theorem XC.cls {C : Addr} (x : XC K C M) : ∃ cd,PySem.W.clsIn K C = some cd /\ cd.mro = .ref C :: .ref M :: eM := by
 obtain ⟨nm,q,N,bs,sn,sub,ab,col,dd,k0,k1,k2,k3,k5,e⟩ := x.at_
 exact ⟨_,by unfold PySem.W.clsIn; rw [e],rfl⟩
theorem XC.sub {C : Addr} (x : XC K C M) (v : Value) : PySem.W.subIn K (.ref C) v = some ((Value.ref C :: .ref M :: eM).contains v) := by
 obtain ⟨cd,h1,h2⟩ := XC.cls x
 show PySem.W.mroIn K C v = _
 unfold PySem.W.mroIn
 rw [h1,Option.bind_some,h2]
 rfl
theorem kit_other (x : XC K C M) (ty : PySem.W.typeIn K (.ref D) = some (.type "type")) (cl : PySem.W.clsIn K D = some cd) (n1 : C ≠ D) (n2 : D ≠ M) : W.kitOne K (.ref C) (.ref D) = some false := by
 unfold W.kitOne
 rw [if_neg (by simpa using n1)]
 unfold PySem.W.kitCls
 dsimp only
 rw [cl,ty,if_pos (by simp),XC.sub x]
 simp [eM,n1.symm,n2]
theorem pe_neg1 {X : Cx} {j : Nat} {p pos : Pos} : PE X (.UnaryOp .USub (.Constant (.int 1) j p) pos) (λ _ H Q => Q (.int (-1)) H) := λ aA s σ H Q I h => pe_un un_neg aJ aA s σ H Q I ⟨1,rfl,h⟩
end
end KK
namespace KK
open PySem L2 PyProof.Rows KKM
variable {P : Program} {w : World} {K : W.Frag} {mg : Str -> Option Value} {base : Heap} {f g g2 g3 g4 C CN M ft CD pt : Addr} {fd gd gd2 gd3 gd4 ftd : FuncData} {k j : Nat} {c : Nat -> Addr}
abbrev mU : Stmt := top 24
structure pS (P : Program) (w : World) (K : W.Frag) (mg : Str -> Option Value) (base : Heap) (k : Nat) (C : Addr) (g : Addr) (gd : FuncData) : Prop where
 mak : Mk K C g
 cls : Cls K C
 sh : ShC K C
 ok : FnOk P w K mg base gO k g gd ["self","rows"] (spInit C)
 bn : fG K gd ["self","rows"] []
 at_ : mg "Sharing" = some (.ref C)
structure MeetOk (P : Program) (w : World) (K : W.Frag) (mg : Str -> Option Value) (base : Heap) (k : Nat) (C : Addr) (g : Addr) (gd : FuncData) : Prop where
 meth : Meth K C "meet" g
 ok : FnOk P w K mg base gO k g gd ["self","letter"] (spMeet C)
 bn : fG K gd ["self","letter"] []
def eK (rs : List cY) (l : Str) : List Str := ((rs.find? λ r => r.1 == l).map (·.2)).getD []
theorem fQ {rs : List cY} (hn : (rs.map (·.1)).Nodup) {r : cY} (hr : r ∈ rs) : eK rs r.1 = r.2 := by
 induction rs with
 | nil => cases hr
 | cons q t ih =>
  rw [List.map_cons,List.nodup_cons] at hn;unfold eK
  rcases List.mem_cons.mp hr with e | e
  . subst e;rw [List.find?_cons_of_pos (by simp)];rfl
  . have iQ : q.1 ≠ r.1 := λ z => hn.1 (by rw [z]; exact List.mem_map_of_mem e);rw [List.find?_cons_of_neg (by simpa using iQ)];exact ih hn.2 e
def seen (rs : List cY) (row : List Str) (d : Str) : List Str := row.filter λ l => decide (d ∈ eK rs l)
abbrev Of (rs : List cY) (row : List Str) : Prop := ∀ l ∈ row,l ∈ rs.map (·.1)
def spRow (K : W.Frag) : Sp := λ vs H Q _ => ∃ (a L : Addr) (ys : List Str) (m : Int),vs = [.ref a,.ref L,.int m] /\ bM H a /\ H L = some (.lst (ys.map V.str)) /\ L ≠ a /\ ys ≠ [] /\ ys.length <= 60 /\ 1 <= m /\ m <= 20 /\
 ∀ (r : Addr) (row : List Str) (H' : Hp),row.length <= 60 -> (∀ l ∈ row,l ∈ ys) -> r ≠ a -> H r = none -> bM H' a -> iT a H H' -> H' r = some (.lst (row.map V.str)) -> Q (.ref r) H'
theorem sc_row : bI ["_law_flow_here","_law_letters","_law_most","_law_many"] ["_law_flow_here","_law_letters","_law_most"] (aG mU) := (.of rfl rfl rfl rfl (by decide +kernel))
theorem row_loop {D a L : Addr} {Q : VK} {H1 : Hp} {ys : List Str} {n : Nat} (hn : n <= 100) (hy : ys ≠ []) (h60 : ys.length <= 60) (hD : H1 D = none) (hF : bM H1 a) (hL : H1 L = some (.lst (ys.map V.str))) (nL : L ≠ a)
 (hd : ∀ (row : List Str) (H' : Hp),row.length = n -> (∀ l ∈ row,l ∈ ys) -> bM H' a -> iT a H1 H' -> H' D = some (.lst (row.map V.str)) -> Q (.ref D) H') :
 cG (Itr 0 n) D (bO 0) fV (iC (nG K) (aU 1) (nA jB [] E0 (cC (aU 2) (cC (tCB (λ xs H Q => ∃ p ys,xs = [.ref p] /\ (bC K H p ys \/ dM K H p ys) /\ Q (.int ys.length) H) (cC (aU 1) fD)) fD)))) Q [none,some (.ref L),some (.ref a)] H1 := by
 have nD := dN hD hF
 have hpos : 1 <= ys.length := List.length_pos_iff.mpr hy
 refine iV (λ i zs σ H => ∃ (xs : List Str) (v : Option V),zs = xs.map V.str /\ xs.length = i /\ (∀ l ∈ xs,l ∈ ys) /\ σ = [v,some (.ref L),some (.ref a)] /\ bM H a /\ iT a H1 H) ?_ (by omega) ?_ ?_ ?_
 . exact ⟨[],none,rfl,rfl,(λ _ z => nomatch z),rfl,hF.new hD,iT.new hD⟩
 . rintro i zs σ H ⟨xs,v,rfl,rfl,_⟩;rw [List.length_map]; exact Nat.le_refl _
 . rintro i zs σ H hi hl ⟨xs,v,rfl,rfl,hm,rfl,fl,x⟩;have hL1 : H L = some (.lst (ys.map V.str)) := x _ _ nL hL;refine ⟨_,rfl,_,rfl,_,rfl,L,_,rfl,.inl (bC.of hL1),a,_,rfl,fl,by rw [List.length_map]; omega,by rw [List.length_map]; omega,λ r H4 r0 r1 f4 x4 => ?_⟩;rw [List.length_map] at r1;have hk : r.toNat < ys.length := by omega
   have oA : oB (ys.map V.str) r = some (.str ys[r.toNat]) := by
    have e : (ys.map V.str)[r.toNat]? = some (.str ys[r.toNat]) := by rw [List.getElem?_map,List.getElem?_eq_getElem hk]; rfl
    have q := bT e;rw [show ((r.toNat : Nat) : Int) = r by omega] at q;exact q
   refine ⟨L,_,_,_,rfl,rfl,bC.of (x4 _ _ nL hL1),oA,x4 _ _ nD hl,xs ++ [ys[r.toNat]],_,by rw [List.map_append]; rfl,by rw [List.length_append]; rfl,λ l hl' => ?_,rfl,f4.set (Ne.symm nD),ext_at (H1 := H1) hD (x.trans x4)⟩
   rcases List.mem_append.mp hl' with z | z
   . exact hm l z
   . rw [List.mem_singleton.mp z]; exact List.getElem_mem hk
 . rintro zs σ H hl ⟨xs,v,rfl,e,hm,_,fl,x⟩;exact hd xs H e hm fl x hl
theorem ok_row (F : jY K "_law_row" "_law_row" mU f fd) (B : Bt mg) (aI : Fn P w K mg base k "_law_draw" ["_law_flow_here","_law_many"] jB g gd) : FnOk P w K mg base gO (k + 1) f fd ["_law_flow_here","_law_letters","_law_most"] (spRow K) := by
 refine F.ok sc_row (λ vs H Q E h => ?_) (λ cdv A outer s H vs Q E hr h => ?_)
 . obtain ⟨a,L,ys,m,rfl,_⟩ := h;rfl
 obtain ⟨a,L,ys,m,rfl,hF,hL,nL,hy,h60,m1,m20,q⟩ := h
 have nd := sc_row.nd
 refine ⟨_,(aE (aS (i := 3) nd rfl (Or.inl rfl) (aQ aI.ok hr rfl aI.at_ aI.kp aI.bn .nil bE (aB (pv 0) (aB (aW dF (pv 2) aJ) aF)))) (aE (dH (bX op_eq (aQ aI.ok hr rfl aI.at_ aI.kp aI.bn .nil bE (aB (pv 0) (aB aJ aF))) aJ (eD _)) (aK (aS (i := 3) nd rfl (Or.inl rfl) (aW dF (pv 2) (aQ aI.ok hr rfl aI.at_ aI.kp aI.bn .nil bE (aB (pv 0) (aB (aW op_sub aJ (pv 2)) aF)))))) bU) (aK (bN (dX (g := (bO 0)) (tc := fV) (te := (iC (nG K) (aU 1) (nA jB [] E0 (cC (aU 2) (cC (tCB (λ xs H Q => ∃ p ys,xs = [.ref p] /\ (bC K H p ys \/ dM K H p ys) /\ Q (.int ys.length) H) (cC (aU 1) fD)) fD))))) (own := ["_law_k"]) (fr := ["_law_letters","_law_flow_here"]) (idx := [1,0]) rfl (by show aV _ _ _ (aG mU); exact (.of rfl (by decide +kernel))) (eE rfl B.range_ (aB (pv 3) aF)) (λ _ _ _ _ _ => (aP (i := 0) (by show List.Nodup (["_law_k","_law_letters","_law_flow_here"] : List Str); decide +kernel) rfl (Or.inl rfl) (Or.inr rfl))) (λ _ _ _ _ _ => dI) (λ _ _ _ _ _ => (cN bS (pv 1) (aQ aI.ok hr rfl aI.at_ aI.kp aI.bn .nil bE (aB (pv 2) (aB (aZ cQ rfl B.len_ PySem.boot_len (aB (pv 1) aF)) aF))) (λ _ _ => rfl))) rfl (dO rfl)))))),?_⟩
 try dsimp only [cH,Cx.nox,Cx.wish]
 refine qU ?_
 intro D0 σ0 U3 U2
 refine ⟨_,rfl,_,rfl,_,_,rfl,rfl,a,_,rfl,hF,by omega,by omega,λ r1 H1 r10 r11 f1 x1 => ?_⟩
 refine ⟨_,rfl,a,8,rfl,f1,by decide,by decide,λ r2 H2 r20 r21 f2 x2 => ⟨rfl,_,rfl,?_⟩⟩
 have eO : ∀ (n : Int) (H3 : Hp),0 <= n -> n <= 60 -> bM H3 a -> iT a H H3 -> ∀ D,H3 D = none -> cG (Itr 0 n.toNat) D (bO 0) fV (iC (nG K) (aU 1) (nA jB [] E0 (cC (aU 2) (cC (tCB (λ xs H Q => ∃ p ys,xs = [.ref p] /\ (bC K H p ys \/ dM K H p ys) /\ Q (.int ys.length) H) (cC (aU 1) fD)) fD)))) Q [none,some (.ref L),some (.ref a)] H3 := λ n H3 n0 n60 f3 x3 D hD => by
  have nD := dN hD f3;have hH : H D = none := by
   cases e : H D with
   | none => rfl
   | some o => rw [x3 D o nD e] at hD; cases hD
  exact row_loop (K := K) (by omega) hy h60 hD f3 (x3 _ _ nL hL) nL λ row H4 e4 hm f4 x4 hD4 => q D row H4 (by omega) hm nD hH f4 (x3.trans x4) hD4
 refine kW (λ _ => ?_) (λ _ => ?_)
 . refine ⟨_,rfl,_,rfl,_,rfl,_,_,rfl,rfl,a,_,rfl,f2,by omega,by omega,λ r3 H3 r30 r31 f3 x3 => ⟨_,_,rfl,rfl,?_⟩⟩;exact ⟨_,rfl,_,rfl,by omega,by omega,λ D hD => eO _ H3 (by omega) (by omega) f3 (x1.trans (x2.trans x3)) D hD⟩
 . exact ⟨_,rfl,_,rfl,by omega,by omega,λ D hD => eO _ H2 (by omega) (by omega) f2 (x1.trans x2) D hD⟩
abbrev gL : Stmt := top 8
structure XMk (P : Program) (w : World) (K : W.Frag) (mg : Str -> Option Value) (base : Heap) (k : Nat) (C M : Addr) (f : Addr) (fd : FuncData) : Prop where
 xc : XC K C M
 hin : W.findIn K (.ref C) "__init__" = some (some (.ref f))
 hfn : W.isFn K (.ref f) = true
 ok : FnOk P w K mg base gO k f fd ["self","letter"] (oF C "letter")
 bn : fG K fd ["self","letter"] []
 at_ : mg "NoLetter" = some (.ref C)
 fn : W.findIn K (.ref C) "letter" = some none
structure FnX (P : Program) (w : World) (K : W.Frag) (mg : Str -> Option Value) (base : Heap) (k : Nat) (x : Str) (ps : List Str) (sp : Sp) (g : Addr) (gd : FuncData) : Prop where
 ok : FnOk P w K mg base (pY P w) k g gd ps sp
 bn : fG K gd ps []
 kp : W.keepIn K (.ref g) = true
 at_ : mg x = some (.ref g)
def Lt (n : Str) : List (Str × V) := [("letter",.str n)]
theorem raised {H H1 : Hp} {E : XK} {n : Str} {CT : Addr} {vs : List V} (x : Same H H1) (hE : ∀ a H',H a = none -> Same H H' -> dR H' a CT (Lt n) -> E (.ref a) none H') :
 ∀ e u,H1 e = none -> H1 u = none -> u ≠ e -> oF CT "letter" (.ref e :: [.str n]) (aL (aL H1 u (.tup vs)) e (mW e CT u none)) (λ v H2 => v = .non /\ ∃ a fs,V.ref e = .ref a /\ XAt H2 a CT fs /\ RNew H E CT a fs H2) E0 := λ e u he hu iQ =>
 ⟨e,u,.str n,rfl,aC,λ H' hX k => ⟨rfl,e,Lt n,rfl,hX,x.free he,λ b o q => k b o (aD (x b o q) he) (by rw [aH (aD (x b o q) he),aH (aD (x b o q) hu)]; exact x b o q),λ H'' sm fl => hE e H'' (x.free he) sm fl⟩⟩
theorem pass_flyG {N : List Str} {qual : Str} {scope : Scope} {f : Addr} {cd : Value} {A : Around} {outer : List Env} {s0 : Shared} {H0 : Hp} {E : XK} {G : List (Str × V) -> Prop} (hE : ∀ a H' fs,G fs -> H0 a = none -> Same H0 H' -> dR H' a CN fs -> E (.ref a) none H') :
 jP (pY P w) (cH (pY P w) P w K mg base N qual scope f cd A outer s0 H0 E) (EX H0 λ a H' => ∃ fs,dR H' a CN fs /\ G fs) := by
 intro aA σ H s e s' I h
 obtain ⟨a,H',rfl,os,bare,un,hok,a',e1,na,sm,fs,fl,hG⟩ := h
 cases e1
 have I' : aR (cH (pY P w) P w K mg base N qual scope f cd A outer s0 H0 E) aA σ H' s' := I.call' (ch := []) os un hok bare (λ _ z => nomatch z)
 exact xe_next I' fl λ H2 f2 k2 => hE a H2 fs hG na (λ b o q => k2 b o (aD q na) (sm b o q)) f2
def pX (ys row : List Str) : Option Str := row.find? λ l => !decide (l ∈ ys)
theorem eV {ys row : List Str} : pX ys row = none ↔ ∀ l ∈ row,l ∈ ys := by
 unfold pX
 rw [List.find?_eq_none]
 simp
theorem bad_at {ys row : List Str} {i : Nat} {l : Str} (h0 : pX ys (row.take i) = none) (hl : row[i]? = some l) (hn : l ∉ ys) : pX ys row = some l := by
 have e : row = row.take i ++ (l :: row.drop (i + 1)) := by
  have h1 := List.take_append_drop i row;have hi : i < row.length := (List.getElem?_eq_some_iff.mp hl).1;have h2 : row.drop i = l :: row.drop (i + 1) := by
   rw [List.drop_eq_getElem_cons hi];rw [(List.getElem?_eq_some_iff.mp hl).2]
  rw [h2] at h1;exact h1.symm
 unfold pX at h0 ⊢
 rw [e,List.find?_append,h0]
 simp [hn]
def spRefL (K : W.Frag) (CN : Addr) : Sp := λ vs H Q E => ∃ (T L : Addr) (ys row : List Str),vs = [.ref T,.ref L] /\ dM K H T (ys.map V.str) /\ bC K H L (row.map V.str) /\ (pX ys row = none -> ∀ H',Same H H' -> Q .non H') /\
 ∀ l,pX ys row = some l -> ∀ a H',H a = none -> Same H H' -> dR H' a CN (Lt l) -> E (.ref a) none H'
theorem sc_refl : bI ["letters","row","letter"] ["letters","row"] (aG gL) := (.of rfl rfl rfl rfl (by decide +kernel))
theorem ok_refl (F : jY K "refuse_letters" "refuse_letters" gL f fd) (xt : XMk P w K mg base k CN M ft ftd) : FnOk P w K mg base (pY P w) (k + 2) f fd ["letters","row"] (spRefL K CN) := by
 refine F.okX sc_refl (λ vs H Q E h => ?_) (λ cdv A outer s H vs Q E hr h => ?_)
 . obtain ⟨T,L,ys,row,rfl,_⟩ := h;rfl
 obtain ⟨T,L,ys,row,rfl,hT,hL,q,qe⟩ := h
 have nd := sc_refl.nd
 refine ⟨_,(aK (dC PassesOwn.leaving rfl (dG (pv 1)) (aP (i := 2) nd rfl (Or.inl rfl)) (aK (dH (bX fC (pv 2) (pv 0) rfl) (aK (ps_raise xt.xc rfl (pe_makeX xt.xc xt.hin xt.hfn xt.ok hr rfl xt.at_ xt.bn (aB (pv 2) aF)) raise_new)) bU)))),?_⟩
 try dsimp only [cH,Cx.nox,Cx.wish]
 refine ⟨_,rfl,L,rfl,⟨_,hL⟩,fF (xs := row.map V.str) (λ i σ H' => ∃ v : Option V,σ = [some (.ref T),some (.ref L),v] /\ pX ys (row.take i) = none /\ Same H H') ?_ ?_ ?_ ?_⟩
 . exact ⟨none,rfl,rfl,Same.refl _⟩
 . rintro i σ H1 _ ⟨v,_,_,x⟩;exact x.seq hL
 . rintro i y σ H1 hy ⟨v,rfl,h0,x1⟩;rw [List.getElem?_map] at hy;obtain ⟨l,hl,rfl⟩ := Option.map_eq_some_iff.mp hy;refine ⟨_,rfl,_,rfl,T,_,rfl,.inr (Same.tup x1 hT),rfl,eF ys,_,rfl,?_⟩;refine kW (λ c => ?_) (λ c => ?_)
   . have hn : l ∉ ys := eR.mp (by simpa using c);exact ⟨_,rfl,by simp,raised x1 (qe l (bad_at h0 hl hn))⟩
   . have hm : l ∈ ys := by
      refine Classical.byContradiction λ z => c ?_;rw [if_pos rfl,eR.mpr z]; rfl
     refine ⟨_,rfl,?_,x1⟩;rw [bR hl];exact eV.mpr λ l' hl' => (List.mem_append.mp hl').elim (eV.mp h0 l') λ z => by rw [List.mem_singleton.mp z]; exact hm
 . rintro σ H1 ⟨v,rfl,h0,x1⟩;rw [List.length_map,List.take_length] at h0;exact q h0 H1 x1
abbrev hJ : Stmt := top 32
def MeetD (H : Hp) (kv : List (bP × V)) (rs : List cY) : Prop := ∀ r ∈ rs,∃ d,eC kv (.inr r.1) = some (.ref d) /\ H d = some (.tup (r.2.map V.str))
theorem nM {H : Hp} : ∀ {ts : List Addr} {rs : List cY},eU H ts rs -> (rs.map (·.1)).Nodup -> ∃ aO,PairsAt H ts aO /\ aO.map (·.1) = rs.map (·.1) /\ MeetD H (gY aO) rs
 | _,_,.nil,_ => ⟨[],.nil,rfl,λ _ z => nomatch z⟩
 | t :: _,r :: rs,.cons h q,hn => by
  rw [List.map_cons,List.nodup_cons] at hn;obtain ⟨aO,h1,h2,h3⟩ := nM q hn.2;obtain ⟨d,e1,e2⟩ := h;refine ⟨(r.1,.ref d) :: aO,.cons e1 h1,by rw [List.map_cons,h2]; rfl,λ r' hW => ?_⟩
  by_cases e : r'.1 = r.1
  . rcases List.mem_cons.mp hW with z | z
    . subst z;exact ⟨d,by simp [eC,gY],e2⟩
    . exact absurd (by rw [<- e]; exact List.mem_map_of_mem z) hn.1
  . rcases List.mem_cons.mp hW with z | z
    . exact absurd (by rw [z]) e
    . obtain ⟨d',a,b⟩ := h3 r' z;refine ⟨d',?_,b⟩;rw [<- a];have ne : ¬ (Sum.inr r.1 : bP) = Sum.inr r'.1 := λ q => e (Sum.inr.inj q).symm;simp [eC,gY,ne,Ne.symm e]
theorem at_str {row : List Str} {n : Nat} {l : Str} (h : row[n]? = some l) : oB (row.map V.str) (n : Int) = some (.str l) := bT (by rw [List.getElem?_map,h]; rfl)
abbrev eY : Stmt := top 33
theorem srt_same {a b : List Str} (hp : a.Perm b) (ha : Srt a) (hb : Srt b) : a = b := by
 refine hp.eq_of_pairwise (le := λ a b => a.cps.toList <= b.cps.toList) (λ x y _ _ h1 h2 => ?_) ha hb
 have q : x.cps.toList = y.cps.toList := List.le_antisymm h1 h2
 obtain ⟨⟨x⟩⟩ := x
 obtain ⟨⟨y⟩⟩ := y
 have q' : x = y := q
 rw [q']
theorem all_rep (n : Nat) : (List.replicate n true).all id = true := by rw [List.all_eq_true]; intro b hb; exact (List.mem_replicate.mp hb).2
def spStays (C : Addr) : Sp := λ vs H Q _ => ∃ (x L : Addr) (rs : List cY),vs = [.ref x,.ref L] /\ iO C H x rs /\ cI H L rs /\ gG rs /\ ∀ H',Same H H' -> Q (.bl true) H'
theorem sc_stays : bI ["_law_sharing","_law_rows"] ["_law_sharing","_law_rows"] (aG hJ) := (.of rfl rfl rfl rfl (by decide +kernel))
theorem keeps {D L x : Addr} {Q : VK} {H1 : Hp} {rs : List cY} (hG : gG rs) (hS : iO C H1 x rs) (hD : H1 D = none) (hL : cI H1 L rs) (oG : ∀ H',Same H1 H' -> H' D = some (.lst ((List.replicate rs.length true).map V.bl)) -> Q (.ref D) H') :
 cG (Itl K L) D (gTup K 2 (fE (bO 0) (fE (bO 1) gNil))) fV (iC (rEqLS K id) (tCB (λ xs H Q => ∃ p ys,xs = [.ref p] /\ (bC K H p ys \/ dM K H p ys) /\ ∀ l,H l = none -> Q (.ref l) (aL H l (.lst ys))) (cC (tMeth C "meet" (spMeet C) [] E0 (aU 2) (cC (aU 0) fD)) fD)) (tCB (λ xs H Q => ∃ p ys,xs = [.ref p] /\ (bC K H p ys \/ dM K H p ys) /\ ∀ l,H l = none -> Q (.ref l) (aL H l (.lst ys))) (cC (aU 1) fD))) Q [none,none,some (.ref x)] H1 := by
 obtain ⟨ts,hL,hT⟩ := hL
 have cE := Paired.length hT
 have l6 := hG.len
 refine mO (xs := ts.map V.ref) (λ i ys σ H => ∃ v0 v1 : Option V,ys = (List.replicate i true).map V.bl /\ σ = [v0,v1,some (.ref x)] /\ Same H1 H) ?_ (by rw [List.length_map]; omega) ?_ ?_ ?_ ?_
 . exact ⟨none,none,rfl,rfl,aN hD⟩
 . rintro i ys σ H ⟨v0,v1,rfl,_⟩;rw [List.length_map,List.length_replicate]; exact Nat.le_refl _
 . rintro i ys σ H ⟨v0,v1,_,_,x1⟩;exact bC.of (x1 _ _ hL)
 . rintro i y ys σ H hy gK ⟨v0,v1,rfl,rfl,x1⟩;rw [List.getElem?_map] at hy;obtain ⟨t,ht,rfl⟩ := Option.map_eq_some_iff.mp hy;obtain ⟨r,hW,d,e1,e2⟩ := hT.get ht;have hm : r ∈ rs := List.mem_of_getElem? hW;have hS1 := hS.same x1;obtain ⟨dx,_,_,_,_,_,g1,_⟩ := id hS1;refine ⟨t,_,rfl,dM.of (x1 _ _ e1),rfl,_,_,rfl,_,_,rfl,rfl,?_⟩;refine ⟨_,rfl,x,dx,_,rfl,g1,rfl,_,rfl,x,rs,r,rfl,hS1,hm,λ t2 zs2 a1 a2 a3 => ⟨t2,_,rfl,.inr (dM.of a1),λ q1 hq1 => ?_⟩⟩;have ez : zs2 = r.2 := srt_same a2 (sorted_pair zs2 a3) (hG.srt r hm);subst ez;have x2 : Same H (aL H q1 (.lst (r.2.map V.str))) := aN hq1;have k2 : aL H q1 (.lst (r.2.map V.str)) q1 = some (.lst (r.2.map V.str)) := aC;generalize aL H q1 (.lst (r.2.map V.str)) = H2 at x2 k2 ⊢;refine ⟨_,rfl,d,_,rfl,.inr (dM.of (x2 _ _ (x1 _ _ e2))),λ q2 hq2 => ?_⟩;have x3 : Same H2 (aL H2 q2 (.lst (r.2.map V.str))) := aN hq2;have k3 : aL H2 q2 (.lst (r.2.map V.str)) q2 = some (.lst (r.2.map V.str)) := aC;generalize aL H2 q2 (.lst (r.2.map V.str)) = H3 at x3 k3 ⊢;refine ⟨q1,q2,_,_,rfl,rfl,bC.of (x3 _ _ k2),bC.of k3,(x2.trans x3) _ _ gK,_,_,?_,rfl,(x1.trans (x2.trans x3)).at hD⟩;rw [decide_eq_true rfl,List.replicate_succ',List.map_append]; rfl
 . rintro ys σ H gK ⟨v0,v1,rfl,_,x1⟩;rw [List.length_map,cE] at gK;exact oG H x1 gK
theorem ok_stays (F : jY K "_law_stays" "_law_stays" hJ f fd) (B : Bt mg) (cF : pS P w K mg base j C g4 gd4) (N_meet : MeetOk P w K mg base k C g3 gd3) (aY : Fn P w K mg base k "_law_desks" ["_law_rows"] jZ g gd) : FnOk P w K mg base gO (k + 1) f fd ["_law_sharing","_law_rows"] (spStays C) := by
 refine F.ok sc_stays (λ vs H Q E h => ?_) (λ cdv A outer s H vs Q E hr h => ?_)
 . obtain ⟨x,L,rs,rfl,_⟩ := h;rfl
 obtain ⟨x,L,rs,rfl,hS,hR,hG,q⟩ := h
 have nd := sc_stays.nd
 have S := cF.sh
 have l6 := hG.len
 obtain ⟨dx,tl,td,dd,aO,ds,h1,h2,h3,h4,h5,h6,h7,h8,h9⟩ := id hS
 obtain ⟨ts,hL,hT⟩ := id hR
 refine ⟨_,(aE (dH (PW.pt (pw_or (bX (op_neLS (qD hr)) (cX eB rfl B.list_ (by decide +kernel) (aB (iD (pv 0) rfl) aF)) (dX (g := (gTup K 2 (fE (bO 0) (fE (bO 1) gNil)))) (tc := fV) (te := (aU 0)) (own := ["_law_letter","_law_some"]) (fr := ([] : List Str)) (idx := []) rfl (by show aV _ _ _ (aG hJ); exact (.of rfl (by decide +kernel))) (dG (pv 1)) (λ _ _ _ _ _ => (iE rfl (bW (aP (i := 0) (by show List.Nodup (["_law_letter","_law_some"] : List Str); decide +kernel) rfl (Or.inl rfl) (Or.inr rfl)) (bW (aP (i := 1) (by show List.Nodup (["_law_letter","_law_some"] : List Str); decide +kernel) rfl (Or.inl rfl) (Or.inr rfl)) fJ)))) (λ _ _ _ _ _ => dI) (λ _ _ _ _ _ => (pv 0)) rfl (dO rfl)) (eD _)) (pw_or1 (bX (op_neLS (qD hr)) (cX eB rfl B.list_ (by decide +kernel) (aB (iD (pv 0) rfl) aF)) (aQ aY.ok hr rfl aY.at_ aY.kp aY.bn .nil bE (aB (pv 1) aF)) (eD _))))) (aK (bN kK)) bU) (aK (bN (aZ (call_allB rfl) rfl B.all_ (by decide +kernel) (aB (dX (g := (gTup K 2 (fE (bO 0) (fE (bO 1) gNil)))) (tc := fV) (te := (iC (rEqLS K id) (tCB (λ xs H Q => ∃ p ys,xs = [.ref p] /\ (bC K H p ys \/ dM K H p ys) /\ ∀ l,H l = none -> Q (.ref l) (aL H l (.lst ys))) (cC (tMeth C "meet" (spMeet C) [] E0 (aU 2) (cC (aU 0) fD)) fD)) (tCB (λ xs H Q => ∃ p ys,xs = [.ref p] /\ (bC K H p ys \/ dM K H p ys) /\ ∀ l,H l = none -> Q (.ref l) (aL H l (.lst ys))) (cC (aU 1) fD)))) (own := ["_law_letter","_law_some"]) (fr := ["_law_sharing"]) (idx := [0]) rfl (by show aV _ _ _ (aG hJ); exact (.of rfl (by decide +kernel))) (dG (pv 1)) (λ _ _ _ _ _ => (iE rfl (bW (aP (i := 0) (by show List.Nodup (["_law_letter","_law_some","_law_sharing"] : List Str); decide +kernel) rfl (Or.inl rfl) (Or.inr rfl)) (bW (aP (i := 1) (by show List.Nodup (["_law_letter","_law_some","_law_sharing"] : List Str); decide +kernel) rfl (Or.inl rfl) (Or.inr rfl)) fJ)))) (λ _ _ _ _ _ => dI) (λ _ _ _ _ _ => (pe_cmpR (op_eqLS (qD hr)) (cX eB rfl B.list_ (by decide +kernel) (aB (pe_meth (pv 2) cF.cls N_meet.meth N_meet.ok hr N_meet.bn .nil bE (aB (pv 0) aF)) aF)) (cX eB rfl B.list_ (by decide +kernel) (aB (pv 1) aF)) (eD _))) rfl (dO rfl)) aF))))),?_⟩
 try dsimp only [cH,Cx.nox,Cx.wish]
 refine lats2 ?_
 intro D0 σ0 U2
 refine ⟨_,rfl,x,C,dx,_,_,rfl,h1,S.cls,S.n1,rfl,tl,_,rfl,.inr (dM.of h2),λ q1 hq1 => ?_⟩
 have x1 : Same H (aL H q1 (.lst ((rs.map (·.1)).map V.str))) := aN hq1
 have k1 : aL H q1 (.lst ((rs.map (·.1)).map V.str)) q1 = some (.lst ((rs.map (·.1)).map V.str)) := aC
 generalize aL H q1 (.lst ((rs.map (·.1)).map V.str)) = H1 at x1 k1 ⊢
 refine ⟨_,rfl,L,rfl,⟨_,bC.of (x1 _ _ hL)⟩,λ D hD => firsts (K := K) (by omega) hD (hR.same x1) λ H2 x2 hD2 => ⟨q1,D,rs.map (·.1),rs.map (·.1),rfl,rfl,bC.of (x2 _ _ k1),bC.of hD2,false,congrArg V.bl (by rw [decide_eq_true rfl]; rfl),?_⟩⟩
 refine kL ?_
 have y2 : Same H H2 := x1.trans x2
 refine ⟨_,rfl,x,C,dx,_,_,rfl,y2 _ _ h1,S.cls,S.n2,rfl,td,_,rfl,.inr (dM.of (y2 _ _ h3)),λ q2 hq2 => ?_⟩
 have x3 : Same H2 (aL H2 q2 (.lst (ds.map V.str))) := aN hq2
 have k3 : aL H2 q2 (.lst (ds.map V.str)) q2 = some (.lst (ds.map V.str)) := aC
 generalize aL H2 q2 (.lst (ds.map V.str)) = H3 at x3 k3 ⊢
 have y3 : Same H H3 := y2.trans x3
 refine ⟨_,rfl,L,rs,rfl,hR.same y3,by omega,λ r hr => ⟨by have := hG.row r hr; omega,(hG.row r hr).2.2⟩,λ r1 zs H4 s4 n4 l4 m4 hr4 x4 hz4 => ?_⟩
 have ez : zs = ds := qQ (jH n4 h5 λ d => (m4 d).trans (h7 d).symm) s4 h4
 subst ez
 refine ⟨q2,r1,zs,zs,rfl,rfl,bC.of (x4 _ _ k3),bC.of hz4,false,congrArg V.bl (by rw [decide_eq_true rfl]; rfl),?_⟩
 refine kL ?_
 have y4 : Same H H4 := y3.trans x4
 refine ⟨_,rfl,L,rfl,⟨_,bC.of (y4 _ _ hL)⟩,λ D2 hD3 => keeps (K := K) hG (hS.same y4) hD3 (hR.same y4) λ H5 x5 hD5 => ⟨D2,_,rfl,bC.of hD5,?_⟩⟩
 rw [all_rep]
 exact q H5 (y4.trans x5)
abbrev jR : Stmt := top 23
def famX (word : Str) (at' first : Int) (k : Nat) : Str := Txt.slice word none (some at') ++ ⟨#[kO ((first + (0 + (k : Int))) % 26)]⟩ ++ Txt.slice word (some (at' + 1)) none
theorem famX_ne {word : Str} {at' first : Int} {i j : Nat} (h : i < j) (hj : j < 26) : famX word at' first i ≠ famX word at' first j := λ e => by
 have e1 : (famX word at' first i).cps.toList = (famX word at' first j).cps.toList := by rw [e]
 have q : ∀ k : Nat,(famX word at' first k).cps.toList = (Txt.slice word none (some at')).cps.toList ++ ([kO ((first + (0 + (k : Int))) % 26)] ++ (Txt.slice word (some (at' + 1)) none).cps.toList) := λ k => by
  show ((Txt.slice word none (some at')).cps ++ #[kO ((first + (0 + (k : Int))) % 26)] ++ (Txt.slice word (some (at' + 1)) none).cps).toList = _
  simp
 rw [q i,q j] at e1
 have e2 := List.append_cancel_right (List.append_cancel_left e1)
 have e3 : kO ((first + (0 + (i : Int))) % 26) = kO ((first + (0 + (j : Int))) % 26) := (List.cons.inj e2).1
 have e4 := abcC_inj (by omega) (by omega) (by omega) (by omega) e3
 omega
theorem famX_some {word : Str} {at' first : Int} {ys : List Str} (h : ys.length < 26) : ∃ j,j < 26 /\ famX word at' first j ∉ ys := by
 obtain ⟨c,h1,h2⟩ := pig ys ((List.range 26).map (famX word at' first)) (lI λ i j h hj => famX_ne h hj) (by rw [List.length_map,List.length_range]; exact h)
 obtain ⟨j,hj,rfl⟩ := List.mem_map.mp h1
 exact ⟨j,List.mem_range.mp hj,h2⟩
def lW (xs : List Str) (lo hi : Option Int) : List Str := (xs.drop (HT.sIx xs.length 0 lo)).take (HT.sIx xs.length xs.length hi - HT.sIx xs.length 0 lo)
theorem kE (xs : List Str) (lo hi : Option Int) : cutV (xs.map V.str) lo hi = (lW xs lo hi).map V.str := by
 unfold cutV lW
 rw [List.length_map,List.map_take,List.map_drop]
theorem cutS_mem {xs : List Str} {lo hi : Option Int} {l : Str} (h : l ∈ lW xs lo hi) : l ∈ xs := List.mem_of_mem_drop (List.mem_of_mem_take h)
theorem cutS_hd (xs : List Str) (n : Nat) : lW xs none (some (n : Int)) = xs.take n := by
 unfold lW
 rw [HT.sIx_nat,show HT.sIx xs.length 0 none = 0 from rfl,List.drop_zero,Nat.sub_zero]
 by_cases h : n <= xs.length
 . rw [Nat.min_eq_left h]
 . rw [Nat.min_eq_right (by omega),List.take_length,List.take_of_length_le (by omega)]
theorem cutS_tl (xs : List Str) (n : Nat) : lW xs (some (n : Int)) none = xs.drop n := by
 unfold lW
 rw [HT.sIx_nat,show HT.sIx xs.length xs.length none = xs.length from rfl]
 by_cases h : n <= xs.length
 . rw [Nat.min_eq_left h,List.take_of_length_le (by rw [List.length_drop]; omega)]
 . rw [Nat.min_eq_right (by omega),List.drop_of_length_le (Nat.le_refl _),List.drop_of_length_le (by omega)];simp
def pF : Sp := λ vs H Q _ => ∃ (a p : Addr) (ys : List Str),vs = [.ref a,.ref p] /\ bM H a /\ H p = some (.lst (ys.map V.str)) /\ p ≠ a /\ ys ≠ [] /\ ys.length < 26 /\ Bd ys /\ ∀ (n : Str) (H' : Hp),n ∉ ys -> bM H' a -> iT a H H' -> Q (.str n) H'
theorem sc_strange : bI ["_law_flow_here","_law_some","_law_letters","_law_name","_law_at","_law_sign","_law_k","_law_other"] ["_law_flow_here","_law_some"] (aG jR) := (.of rfl rfl rfl rfl (by decide +kernel))
theorem ok_strange (F : jY K "_law_strange" "_law_strange" jR f fd) (B : Bt mg) (aI : Fn P w K mg base k "_law_draw" ["_law_flow_here","_law_many"] jB g gd) : FnOk P w K mg base gO (k + 1) f fd ["_law_flow_here","_law_some"] pF := by
 refine F.ok sc_strange (λ vs H Q E h => ?_) (λ cdv A outer s H vs Q E hr h => ?_)
 . obtain ⟨a,p,ys,rfl,_⟩ := h;rfl
 obtain ⟨a,p,ys,rfl,hF,hp,npa,iQ,h26,hb,q⟩ := h
 have nd := sc_strange.nd
 have hpos := List.length_pos_iff.mpr iQ
 have hs := dA
 refine ⟨_,(aE (aS (i := 2) nd rfl (Or.inl rfl) gM) (aE (aS (i := 3) nd rfl (Or.inl rfl) (cN bS (pv 1) (aQ aI.ok hr rfl aI.at_ aI.kp aI.bn .nil bE (aB (pv 0) (aB (aZ cQ rfl B.len_ PySem.boot_len (aB (pv 1) aF)) aF))) (λ _ _ => rfl))) (aE (aS (i := 4) nd rfl (Or.inl rfl) (aQ aI.ok hr rfl aI.at_ aI.kp aI.bn .nil bE (aB (pv 0) (aB (aZ lF rfl B.len_ PySem.boot_len (aB (pv 3) aF)) aF)))) (aE (aS (i := 5) nd rfl (Or.inl rfl) (aQ aI.ok hr rfl aI.at_ aI.kp aI.bn .nil bE (aB (pv 0) (aB aJ aF)))) (aE (dC PassesOwn.never rfl (eE rfl B.range_ (aB aJ aF)) (aP (i := 6) nd rfl (Or.inl rfl)) (aE (aS (i := 7) nd rfl (Or.inl rfl) (aW fN (aW fN (dS pU (pv 3) eZ (fB (pv 4))) (cN ix_str (pv 2) (aW gN (aW dF (pv 5) (pv 6)) aJ) (λ _ _ => rfl))) (dS pU (pv 3) (fB (aW dF (pv 4) aJ)) eZ))) (aK (dH (bX fC (pv 7) (pv 1) rfl) (aK (bN (pv 7))) bU)))) (aK (bN (aW fN (aW fN gM (dS pU (pv 3) (fB aJ) eZ)) gM)))))))),?_⟩
 try dsimp only [cH,Cx.nox,Cx.wish]
 refine lats6 ?_
 intro D0 σ0 U6 U5 U4 U3 U2
 refine ⟨_,rfl,_,rfl,_,rfl,p,_,rfl,.inl (bC.of hp),a,_,rfl,hF,by rw [List.length_map]; omega,by rw [List.length_map]; omega,λ r1 H1 r10 r11 f1 x1 => ?_⟩
 rw [List.length_map] at r11
 obtain ⟨n,rfl⟩ := Int.eq_ofNat_of_zero_le r10
 have hn : n < ys.length := by omega
 obtain ⟨b1,b2⟩ := hb ys[n] (List.getElem_mem hn)
 refine ⟨p,_,_,_,rfl,rfl,bC.of (x1 _ _ npa hp),bT (j := n) (v := V.str ys[n]) (by rw [List.getElem?_map,List.getElem?_eq_getElem hn]; rfl),?_⟩
 generalize ys[n] = word at b1 b2 ⊢
 have wz : word.length <= sizeLine := by omega
 refine ⟨_,rfl,_,rfl,_,rfl,wz,a,_,rfl,f1,by omega,by omega,λ r2 H2 r20 r21 f2 x2 => ?_⟩
 refine ⟨_,rfl,a,26,rfl,f2,by decide,by decide,λ r3 H3 r30 r31 f3 x3 => ?_⟩
 have x13 := (x1.trans x2).trans x3
 have hp3 := x13 _ _ npa hp
 obtain ⟨j0,hj0,hnot⟩ := famX_some (word := word) (at' := r2) (first := r3) h26
 refine ⟨26,rfl,by decide,by decide,mR (n := (26 : Int).toNat) (λ i σ H' => ∃ v6 v7 : Option V,σ = [some (.ref a),some (.ref p),some (.str mZ),some (.str word),some (.int r2),some (.int r3),v6,v7] /\ H' = H3 /\ i <= j0) ?_ ?_ ?_⟩
 . exact ⟨_,_,rfl,rfl,Nat.zero_le _⟩
 . rintro i σ H4 hi ⟨v6,v7,rfl,rfl,hij⟩;refine latg2 ?_;intro D1 σ1 W2;have hc := abc_atC (Int.emod_nonneg (r3 + (0 + (i : Int))) (show (26 : Int) ≠ 0 by decide)) (Int.emod_lt_of_pos _ (by decide));have l1 := Txt.slice_le word none (some r2);have l2 := Txt.slice_le word (some (r2 + 1)) none;have l3 : Str.length ⟨#[kO ((r3 + (0 + (i : Int))) % 26)]⟩ = 1 := rfl;have l4 := app_len (Txt.slice word none (some r2)) ⟨#[kO ((r3 + (0 + (i : Int))) % 26)]⟩;refine ⟨_,rfl,_,rfl,_,rfl,word,rfl,wz,_,rfl,_,rfl,_,rfl,_,_,rfl,rfl,_,_,rfl,rfl,(show (0 : Int) < 26 by decide),mZ,_,_,rfl,rfl,abc_len,hc,_,_,rfl,rfl,by omega,?_⟩;refine ⟨_,rfl,_,rfl,_,_,rfl,rfl,_,rfl,word,rfl,wz,_,_,rfl,rfl,by omega,?_⟩;refine ⟨_,rfl,_,rfl,p,_,rfl,.inl (bC.of hp3),rfl,eF ys,_,rfl,?_⟩;refine kW (λ cc => ?_) (λ cc => ?_)
   . refine ⟨_,rfl,q _ _ (eR.mp (by simpa using cc)) f3 x13⟩
   . refine ⟨_,_,rfl,rfl,?_⟩
     by_cases h : i = j0
     . exfalso
       subst h;have e : inV (.str (famX word r2 r3 i)) (ys.map V.str) = false := eR.mpr hnot;exact cc (show (if true = true then !inV (.str (famX word r2 r3 i)) (ys.map V.str) else inV (.str (famX word r2 r3 i)) (ys.map V.str)) = true by rw [if_pos rfl,e]; rfl)
     . omega
 . rintro σ H4 ⟨v6,v7,rfl,rfl,hij⟩
   exfalso
   have : (26 : Int).toNat = 26 := rfl;omega
def nxt (rs : List cY) (i : Nat) : cY := ((rs.getD i ("",[])).1,(rs.getD ((i + 1) % rs.length) ("",[])).2)
def iI (rs : List cY) : List cY := (List.range rs.length).map (nxt rs)
theorem mF (rs : List cY) : (iI rs).length = rs.length := by unfold iI; rw [List.length_map,List.length_range]
theorem pJ (rs : List cY) : (iI rs).map (·.1) = rs.map (·.1) := by
 refine List.ext_getElem (by rw [List.length_map,List.length_map,mF]) λ i h1 h2 => ?_
 rw [List.length_map] at h2
 simp [iI,nxt,h2]
theorem mP {rs : List cY} {r : cY} (h : r ∈ iI rs) : ∃ r' ∈ rs,r.2 = r'.2 := by
 unfold iI at h
 obtain ⟨i,hi,rfl⟩ := List.mem_map.mp h
 have hi' := List.mem_range.mp hi
 have hp : (i + 1) % rs.length < rs.length := Nat.mod_lt _ (by omega)
 refine ⟨rs[(i + 1) % rs.length],List.getElem_mem hp,?_⟩
 unfold nxt
 rw [List.getD_eq_getElem?_getD,List.getD_eq_getElem?_getD,List.getElem?_eq_getElem hp]
 rfl
theorem nextD_good {rs : List cY} (h : gG rs) : gG (iI rs) where
 ne := λ z => by have e := mF rs; rw [z] at e; exact h.ne (List.length_eq_zero_iff.mp e.symm)
 len := by rw [mF]; exact h.len
 nd := by rw [pJ]; exact h.nd
 row := λ r hr => by obtain ⟨r',h1,e⟩ := mP hr; rw [e]; exact h.row r' h1
 nm := by rw [pJ]; exact h.nm
 dn := λ r hr => by obtain ⟨r',h1,e⟩ := mP hr; rw [e]; exact h.dn r' h1
 few := let ⟨ds,h1,h2⟩ := h.few; ⟨ds,h1,λ r hr => by obtain ⟨r',h3,e⟩ := mP hr; rw [e]; exact h2 r' h3⟩
 srt := λ r hr => by obtain ⟨r',h1,e⟩ := mP hr; rw [e]; exact h.srt r' h1
def spNext : Sp := λ vs H Q _ => ∃ (L : Addr) (rs : List cY),vs = [.ref L] /\ cI H L rs /\ gG rs /\ ∀ D H',H D = none -> Same H H' -> cI H' D (iI rs) -> Q (.ref D) H'
theorem sc_next : bI ["_law_rows"] ["_law_rows"] (aG eY) := (.of rfl rfl rfl rfl (by decide +kernel))
theorem ok_next (F : jY K "_law_next_desks" "_law_next_desks" eY f fd) (B : Bt mg) : FnOk P w K mg base gO (k + 1) f fd ["_law_rows"] spNext := by
 refine F.ok sc_next (λ vs H Q E h => ?_) (λ cdv A outer s H vs Q E hr h => ?_)
 . obtain ⟨L,rs,rfl,_⟩ := h;rfl
 obtain ⟨L,rs,rfl,hR,hG,q⟩ := h
 have nd := sc_next.nd
 have l6 := hG.len
 have lpos : 0 < rs.length := List.length_pos_iff.mpr hG.ne
 obtain ⟨ts,hL,hT⟩ := id hR
 have cE := Paired.length hT
 have hs := dA
 refine ⟨_,(aK (bN (dX (g := (bO 0)) (tc := fV) (te := (tTup (cC (iC (rIxT K) (iC (nG K) (aU 1) (aU 0)) (tC (.int 0))) (cC (iC (rIxT K) (iC (nG K) (aU 1) (iC (rI (λ _ j => 0 < j) λ i j => .int (i % j)) (iC (rI0 λ i j => .int (i + j)) (aU 0) (tC (.int 1))) (tCB (λ xs H Q => ∃ p ys,xs = [.ref p] /\ (bC K H p ys \/ dM K H p ys) /\ Q (.int ys.length) H) (cC (aU 1) fD)))) (tC (.int 1))) fD)))) (own := ["_law_k"]) (fr := ["_law_rows"]) (idx := [0]) rfl (by show aV _ _ _ (aG eY); exact (.of rfl (by decide +kernel))) (eE rfl B.range_ (aB (aZ cQ rfl B.len_ PySem.boot_len (aB (pv 0) aF)) aF)) (λ _ _ _ _ _ => (aP (i := 0) (by show List.Nodup (["_law_k","_law_rows"] : List Str); decide +kernel) rfl (Or.inl rfl) (Or.inr rfl))) (λ _ _ _ _ _ => dI) (λ _ _ _ _ _ => (fP (aB (cN ix_tup (cN bS (pv 1) (pv 0) (λ _ _ => rfl)) aJ (λ _ _ => rfl)) (aB (cN ix_tup (cN bS (pv 1) (aW gN (aW dF (pv 0) aJ) (aZ cQ rfl B.len_ PySem.boot_len (aB (pv 1) aF))) (λ _ _ => rfl)) aJ (λ _ _ => rfl)) aF)))) rfl (dO rfl)))),?_⟩
 try dsimp only [cH,Cx.nox,Cx.wish]
 refine ⟨_,rfl,L,_,rfl,.inl (bC.of hL),_,rfl,by omega,by rw [List.length_map]; omega,λ D hD => ?_⟩
 rw [List.length_map,cE,Int.toNat_natCast]
 refine iV (λ i ys σ H' => ∃ (us : List Addr) (v : Option V),ys = us.map V.ref /\ eU H' us ((iI rs).take i) /\ us.length = i /\ σ = [v,some (.ref L)] /\ Same H H') ?_ (by omega) ?_ ?_ ?_
 . exact ⟨[],none,rfl,.nil,rfl,rfl,aN hD⟩
 . rintro i ys σ H1 ⟨us,v,rfl,_,e,_⟩;rw [List.length_map]; omega
 . rintro i ys σ H1 hi gK ⟨us,v,rfl,hT1,e,rfl,x1⟩;have hL1 := x1 _ _ hL;have hmod : (i + 1) % rs.length < rs.length := Nat.mod_lt _ lpos;obtain ⟨r1,hr1,d1,a1,a2⟩ := (eU.keep (Same.tk x1) hT).get (List.getElem?_eq_getElem (show i < ts.length by omega));obtain ⟨r2,hr2,d2,b1,b2⟩ := (eU.keep (Same.tk x1) hT).get (List.getElem?_eq_getElem (show (i + 1) % rs.length < ts.length by omega));have g1 : oB (ts.map V.ref) (0 + (i : Int)) = some (V.ref (ts[i]'(by omega))) := by
    rw [Int.zero_add];exact bT (by rw [List.getElem?_map,List.getElem?_eq_getElem (show i < ts.length by omega)]; rfl)
   have g2 : oB (ts.map V.ref) ((0 + (i : Int) + 1) % ((ts.map V.ref).length : Int)) = some (V.ref (ts[(i + 1) % rs.length]'(by omega))) := by
    have em : (0 + (i : Int) + 1) % ((ts.map V.ref).length : Int) = (((i + 1) % rs.length : Nat) : Int) := by rw [List.length_map,cE,Int.zero_add]; rfl
    rw [em];exact bT (by rw [List.getElem?_map,List.getElem?_eq_getElem (show (i + 1) % rs.length < ts.length by omega)]; rfl)
   refine ⟨_,rfl,_,rfl,L,_,_,_,rfl,rfl,bC.of hL1,g1,_,_,_,_,rfl,rfl,dM.of a1,rfl,?_⟩;refine ⟨_,rfl,_,rfl,_,_,rfl,rfl,_,rfl,L,_,rfl,.inl (bC.of hL1),_,_,rfl,rfl,by rw [List.length_map]; omega,L,_,_,_,rfl,rfl,bC.of hL1,g2,_,_,_,_,rfl,rfl,dM.of b1,rfl,by show (2 : Nat) <= _; omega,λ p hp => ?_⟩;have x2 : Same H1 (aL H1 p (.tup [.str r1.1,.ref d2])) := aN hp;have k2 : aL H1 p (.tup [.str r1.1,.ref d2]) p = some (.tup [.str r1.1,.ref d2]) := aC;generalize aL H1 p (.tup [.str r1.1,.ref d2]) = H2 at x2 k2 ⊢;refine ⟨x2 _ _ gK,us ++ [p],_,by rw [List.map_append]; rfl,?_,by rw [List.length_append,e]; rfl,rfl,(x1.trans x2).at hD⟩;have hn : (iI rs)[i]? = some (r1.1,r2.2) := by
    unfold iI;rw [List.getElem?_map,List.getElem?_range hi];show some (nxt rs i) = _;unfold nxt;rw [List.getD_eq_getElem?_getD,List.getD_eq_getElem?_getD,hr1,hr2];rfl
   rw [bR hn];exact eU.keep (TK.lst (x2 _ _ gK)) (Paired.snoc (eU.keep (Same.tk x2) hT1) ⟨d2,k2,x2 _ _ b2⟩)
 . rintro ys σ H1 gK ⟨us,v,rfl,hT1,e,_,x1⟩;rw [List.take_of_length_le (by rw [mF]; exact Nat.le_refl _)] at hT1;exact q D H1 hD x1 ⟨us,gK,hT1⟩
theorem good_ne {rs : List cY} (hG : gG rs) : ∀ l ∈ rs.map (·.1),eK rs l ≠ [] := λ l hl => by
 obtain ⟨r,hm,rfl⟩ := List.mem_map.mp hl
 rw [fQ hG.nd hm]; exact (hG.row r hm).1
def bF (rs : List cY) (row : List Str) : Nat -> Str -> Nat
 | 0,_ => 0
 | n + 1,d => if d ∈ eK rs (row.getD n "") then n + 1 else bF rs row n d
theorem lastp_at {rs : List cY} {row : List Str} {n : Nat} {l d : Str} (h : row[n]? = some l) : bF rs row (n + 1) d = if d ∈ eK rs l then n + 1 else bF rs row n d := by
 show (if d ∈ eK rs (row.getD n "") then n + 1 else bF rs row n d) = _
 rw [List.getD_eq_getElem?_getD,h]; rfl
theorem hZ (rs : List cY) (row : List Str) (d : Str) : ∀ n,bF rs row n d <= n
 | 0 => Nat.le_refl _
 | n + 1 => by
  show (if d ∈ eK rs (row.getD n "") then n + 1 else bF rs row n d) <= n + 1
  have := hZ rs row d n
  split <;> omega
inductive Und (rs : List cY) (row : List Str) : Nat -> Nat -> Prop where
 | self (n : Nat) : Und rs row n n
 | step {n k : Nat} {l d : Str} (h : row[n]? = some l) (hd : d ∈ eK rs l) (u : Und rs row (bF rs row n d) k) : Und rs row (n + 1) k
theorem und_zero {rs : List cY} {row : List Str} {k : Nat} : Und rs row 0 k ↔ k = 0 := by
 constructor
 . intro h;cases h with
   | self => rfl
 . rintro rfl; exact .self 0
theorem oR {rs : List cY} {row : List Str} {n k : Nat} {l : Str} (h : row[n]? = some l) : Und rs row (n + 1) k ↔ k = n + 1 \/ ∃ d ∈ eK rs l,Und rs row (bF rs row n d) k := by
 constructor
 . intro u;cases u with
   | self => exact .inl rfl
   | step h' hd u =>
    rw [h] at h';cases Option.some.inj h';exact .inr ⟨_,hd,u⟩
 . rintro (rfl | ⟨d,hd,u⟩)
   . exact .self _
   . exact .step h hd u
theorem kS {rs : List cY} {row : List Str} {n k : Nat} (h : Und rs row n k) : k <= n := by
 induction h with
 | self => exact Nat.le_refl _
 | @step n k l d h hd u ih =>
  have := hZ rs row d n;omega
theorem keys_put {aO : List (bP × V)} {k : bP} {v : V} : ∀ x,x ∈ (dY aO k v).map (·.1) ↔ x = k \/ x ∈ aO.map (·.1) := by
 intro x
 unfold dY
 split
 . rename_i h
   rw [List.any_eq_true] at h;obtain ⟨kv,h1,h2⟩ := h;have e : (aO.map λ kv => if kv.1 = k then (kv.1,v) else kv).map (·.1) = aO.map (·.1) := by
    rw [List.map_map]; refine List.map_congr_left λ kv _ => ?_;show (if kv.1 = k then (kv.1,v) else kv).1 = kv.1
    split <;> rfl
   rw [e];refine ⟨.inr,λ z => z.elim (λ z => ?_) id⟩;rw [z,<- of_decide_eq_true h2]; exact List.mem_map_of_mem h1
 . rw [List.map_append,List.mem_append];show _ \/ x ∈ [k] ↔ _;rw [List.mem_singleton]; exact Or.comm
theorem nodup_put {aO : List (bP × V)} {k : bP} {v : V} (h : (aO.map (·.1)).Nodup) : ((dY aO k v).map (·.1)).Nodup := by
 unfold dY
 split
 . have e : (aO.map λ kv => if kv.1 = k then (kv.1,v) else kv).map (·.1) = aO.map (·.1) := by
    rw [List.map_map]; refine List.map_congr_left λ kv _ => ?_;show (if kv.1 = k then (kv.1,v) else kv).1 = kv.1
    split <;> rfl
   rw [e]; exact h
 . rename_i hk
   rw [List.map_append];refine List.nodup_append.mpr ⟨h,(List.nodup_cons.mpr ⟨List.not_mem_nil,List.nodup_nil⟩),λ x hx y hy => ?_⟩;rintro rfl;obtain ⟨kv,h1,h2⟩ := List.mem_map.mp hx;refine hk (List.any_eq_true.mpr ⟨kv,h1,decide_eq_true ?_⟩);exact h2.trans (List.mem_singleton.mp hy)
theorem keys_merge : ∀ (more aO : List (bP × V)) (x : bP),x ∈ (gJ aO more).map (·.1) ↔ x ∈ aO.map (·.1) \/ x ∈ more.map (·.1)
 | [],aO,x => by show x ∈ aO.map (·.1) ↔ _; simp
 | p :: r,aO,x => by
  show x ∈ (gJ (dY aO p.1 p.2) r).map (·.1) ↔ _
  rw [keys_merge r,keys_put,List.map_cons,List.mem_cons];exact ⟨λ z => z.elim (λ z => z.elim (λ e => .inr (.inl e)) .inl) λ z => .inr (.inr z),λ z => z.elim (λ z => .inl (.inr z)) λ z => z.elim (λ e => .inl (.inl e)) .inr⟩
theorem qP : ∀ (more aO : List (bP × V)),(aO.map (·.1)).Nodup -> ((gJ aO more).map (·.1)).Nodup
 | [],_,h => h
 | p :: r,aO,h => qP r (dY aO p.1 p.2) (nodup_put h)
theorem keys_few {kv : List (bP × V)} {k : Nat} (nd : (kv.map (·.1)).Nodup) (h : ∀ x ∈ kv.map (·.1),∃ j : Nat,x = Sum.inl (j : Int) /\ j <= k) : kv.length <= k + 1 := by
 refine Classical.byContradiction λ hc => ?_
 obtain ⟨c,h1,h2⟩ := pig ((List.range (k + 1)).map λ j : Nat => (Sum.inl (j : Int) : bP)) (kv.map (·.1)) nd (by rw [List.length_map,List.length_map,List.length_range]; omega)
 obtain ⟨j,rfl,hj⟩ := h c h1
 exact h2 (List.mem_map_of_mem (List.mem_range.mpr (by omega)))
structure UV (rs : List cY) (row : List Str) (n : Nat) (kv : List (bP × V)) : Prop where
 nd : (kv.map (·.1)).Nodup
 mem : ∀ x,x ∈ kv.map (·.1) ↔ ∃ j : Nat,x = Sum.inl (j : Int) /\ Und rs row n j
theorem UV.few {rs : List cY} {row : List Str} {k : Nat} {kv : List (bP × V)} (h : UV rs row k kv) : kv.length <= k + 1 := keys_few h.nd λ x hx => let ⟨j,a,b⟩ := (h.mem x).mp hx; ⟨j,a,kS b⟩
structure NV (rs : List cY) (row : List Str) (n : Nat) (ns : List Int) : Prop where
 nd : ns.Nodup
 mem : ∀ x,x ∈ ns ↔ ∃ j : Nat,x = (j : Int) /\ Und rs row n j
theorem ints_few {ns : List Int} {k : Nat} (nd : ns.Nodup) (h : ∀ x ∈ ns,∃ j : Nat,x = (j : Int) /\ j <= k) : ns.length <= k + 1 := by
 refine Classical.byContradiction λ hc => ?_
 obtain ⟨c,h1,h2⟩ := pig ((List.range (k + 1)).map λ j : Nat => (j : Int)) ns nd (by rw [List.length_map,List.length_range]; omega)
 obtain ⟨j,rfl,hj⟩ := h c h1
 exact h2 (List.mem_map_of_mem (List.mem_range.mpr (by omega)))
abbrev lY : Stmt := top 26
structure UnI (rs : List cY) (row : List Str) (H0 H : Hp) (mt la U : Addr) (kvm : List (bP × V)) (us : List Addr) (i : Nat) : Prop where
 same : Same H0 H
 m : H mt = some (.dK kvm)
 u : H U = some (.lst (us.map V.ref))
 len : us.length = i + 1
 nd : us.Nodup
 new : ∀ p ∈ us,H0 p = none
 ok : ∀ k p,us[k]? = some p -> ∃ kv,H p = some (.dK kv) /\ UV rs row k kv
 nl : la ∉ us
 la0 : H0 la = none
 U0 : H0 U = none
 lm : la ≠ mt
 l : ∃ pO : List (bP × V),H la = some (.dK pO) /\ pO.length <= 60 + 4 * i /\ ∀ d,(∃ r ∈ rs,d ∈ r.2) -> eC pO (.inr d) = some (.int ((bF rs row i d : Nat) : Int))
theorem UnI.keep {rs : List cY} {row : List Str} {H0 H H' : Hp} {mt la U : Addr} {kvm : List (bP × V)} {us : List Addr} {i : Nat} (h : UnI rs row H0 H mt la U kvm us i) (x : Same H H') : UnI rs row H0 H' mt la U kvm us i := by
 obtain ⟨pO,l1,l2,l3⟩ := h.l
 exact ⟨h.same.trans x,x _ _ h.m,x _ _ h.u,h.len,h.nd,h.new,λ k p e => let ⟨kv,a,b⟩ := h.ok k p e; ⟨kv,x _ _ a,b⟩,h.nl,h.la0,h.U0,h.lm,pO,x _ _ l1,l2,l3⟩
structure MnI (rs : List cY) (row : List Str) (zs : List Str) (i : Nat) (kv : List (bP × V)) : Prop where
 nd : (kv.map (·.1)).Nodup
 mem : ∀ x,x ∈ kv.map (·.1) ↔ x = Sum.inl ((i + 1 : Nat) : Int) \/ ∃ d ∈ zs,∃ j : Nat,x = Sum.inl (j : Int) /\ Und rs row (bF rs row i d) j
theorem MnI.start (rs : List cY) (row : List Str) (i : Nat) : MnI rs row [] i [(Sum.inl ((i : Int) + 1),.bl true)] where
 nd := List.nodup_cons.mpr ⟨List.not_mem_nil,List.nodup_nil⟩
 mem := λ x => by
  show x ∈ [(Sum.inl ((i : Int) + 1) : bP)] ↔ _
  rw [List.mem_singleton];exact ⟨λ e => .inl (by rw [e]; simp),λ e => e.elim (λ e => by rw [e]; simp) λ ⟨_,z,_⟩ => nomatch z⟩
theorem MnI.step {rs : List cY} {row : List Str} {kv more : List (bP × V)} {zs : List Str} {i : Nat} {d : Str} (h : MnI rs row zs i kv) (hu : UV rs row (bF rs row i d) more) : MnI rs row (zs ++ [d]) i (gJ kv more) where
 nd := qP more kv h.nd
 mem := λ x => by
  rw [keys_merge,h.mem,hu.mem]
  constructor
  . rintro ((e | ⟨d',h1,h2⟩) | h2)
    . exact .inl e
    . exact .inr ⟨d',List.mem_append_left _ h1,h2⟩
    . exact .inr ⟨d,List.mem_append_right _ (List.mem_singleton.mpr rfl),h2⟩
  . rintro (e | ⟨d',h1,h2⟩)
    . exact .inl (.inl e)
    . rcases List.mem_append.mp h1 with z | z
      . exact .inl (.inr ⟨d',z,h2⟩)
      . rw [List.mem_singleton.mp z] at h2;exact .inr h2
theorem MnI.few {rs : List cY} {row : List Str} {kv : List (bP × V)} {zs : List Str} {i : Nat} (h : MnI rs row zs i kv) : kv.length <= i + 2 := keys_few h.nd λ x hx => by
 rcases (h.mem x).mp hx with e | ⟨d,_,j,e,u⟩
 . exact ⟨i + 1,e,Nat.le_refl _⟩
 . have := kS u;have := hZ rs row d i;exact ⟨j,e,by omega⟩
theorem MnI.done {rs : List cY} {row : List Str} {kv : List (bP × V)} {zs : List Str} {i : Nat} {l : Str} (h : MnI rs row zs i kv) (hl : row[i]? = some l) (hz : eK rs l = zs) : UV rs row (i + 1) kv where
 nd := h.nd
 mem := λ x => by
  rw [h.mem]
  constructor
  . rintro (e | ⟨d,h1,j,e,u⟩)
    . exact ⟨i + 1,e,.self _⟩
    . exact ⟨j,e,(oR hl).mpr (.inr ⟨d,by rw [hz]; exact h1,u⟩)⟩
  . rintro ⟨j,e,u⟩
    rcases (oR hl).mp u with z | ⟨d,h1,h2⟩
    . exact .inl (by rw [e,z])
    . exact .inr ⟨d,by rw [<- hz]; exact h1,j,e,h2⟩
def spUnder : Sp := λ vs H Q _ => ∃ (L R : Addr) (rs : List cY) (row : List Str),vs = [.ref L,.ref R] /\ cI H L rs /\ gG rs /\ H R = some (.lst (row.map V.str)) /\ Of rs row /\ row.length <= 100 /\
 ∀ (T U la : Addr) (us : List Addr) (H' : Hp),Same H H' -> H' T = some (.tup [.ref U,.ref la]) -> H' U = some (.lst (us.map V.ref)) -> us.length = row.length + 1 -> us.Nodup -> la ∉ us -> (∀ p ∈ us,H p = none) -> (∀ k p,us[k]? = some p -> ∃ kv,H' p = some (.dK kv) /\ UV rs row k kv) -> (∃ pO : List (bP × V),H' la = some (.dK pO) /\ ∀ d,(∃ r ∈ rs,d ∈ r.2) -> eC pO (.inr d) = some (.int ((bF rs row row.length d : Nat) : Int))) -> Q (.ref T) H'
theorem sc_under : bI ["_law_rows","_law_row_here","_law_meet","_law_last","_law_desk","_law_under_here","_law_k","_law_letter","_law_mine"] ["_law_rows","_law_row_here"] (aG lY) := (.of rfl rfl rfl rfl (by decide +kernel))
theorem ok_under (F : jY K "_law_under" "_law_under" lY f fd) (B : Bt mg) (aY : Fn P w K mg base k "_law_desks" ["_law_rows"] jZ g gd) : FnOk P w K mg base gO (k + 1) f fd ["_law_rows","_law_row_here"] spUnder := by
 refine F.ok sc_under (λ vs H Q E h => ?_) (λ cdv A outer s H vs Q E hr h => ?_)
 . obtain ⟨L,R,rs,row,rfl,_⟩ := h;rfl
 obtain ⟨L,R,rs,row,rfl,hL,hG,hR,hO,h100,q⟩ := h
 have nd := sc_under.nd
 have hs := dA
 have l6 := hG.len
 obtain ⟨ts,hLt,hT⟩ := id hL
 obtain ⟨aO,p1,p2,p3⟩ := nM hT hG.nd
 refine ⟨_,(aE (aS (i := 2) nd rfl (Or.inl rfl) (cX (call_dictL rfl) rfl B.dict_ (by decide +kernel) (aB (pv 0) aF))) (aE (aS (i := 3) nd rfl (Or.inl rfl) pe_dnewK) (aE (dC PassesOwn.never rfl (dG (aQ aY.ok hr rfl aY.at_ aY.kp aY.bn .nil bE (aB (pv 0) aF))) (aP (i := 4) nd rfl (Or.inl rfl)) (aK (mS (iB hr) (pv 3) (pv 4) aJ rfl))) (aE (aS (i := 5) nd rfl (Or.inl rfl) (iG (aB (pe_disp1 aJ kK) aF))) (aE (dC PassesOwn.never rfl (pi_enum rfl B.enumerate_ (aB (pv 1) aF)) (iE rfl (bW (aP (i := 6) nd rfl (Or.inl rfl)) (bW (aP (i := 7) nd rfl (Or.inl rfl)) fJ))) (aE (aS (i := 8) nd rfl (Or.inl rfl) (pe_disp1 (aW dF (pv 6) aJ) kK)) (aE (dC PassesOwn.never rfl (fZ (jK (iB hr) (pv 2) (pv 7) (λ _ _ => rfl))) (aP (i := 4) nd rfl (Or.inl rfl)) (aK (fL (pA PySem.F.plainAttrs_dict PySem.F.slot_dict_update PySem.F.type_dict_update mt_updateD (pv 8) (aB (cN bS (pv 5) (jK (iB hr) (pv 3) (pv 4) (λ _ _ => rfl)) (λ _ _ => rfl)) aF))))) (aE (dC PassesOwn.never rfl (fZ (jK (iB hr) (pv 2) (pv 7) (λ _ _ => rfl))) (aP (i := 4) nd rfl (Or.inl rfl)) (aK (mS (iB hr) (pv 3) (pv 4) (aW dF (pv 6) aJ) rfl))) (aK (fL (pA PySem.F.plainAttrs_list PySem.F.slot_list_append PySem.F.type_list_append iS (pv 5) (aB (pv 8) aF)))))))) (aK (bN (fP (aB (pv 5) (aB (pv 3) aF)))))))))),?_⟩
 try dsimp only [cH,Cx.nox,Cx.wish]
 refine lats6 ?_
 intro D0 σ0 U6 U5 U4 U3 U2
 refine ⟨_,rfl,L,ts,aO,rfl,hLt,p1,by rw [p2]; exact hG.nd,λ mt hmt => ?_⟩
 have x1 : Same H (aL H mt (.dK (gY aO))) := aN hmt
 have k1 : aL H mt (.dK (gY aO)) mt = some (.dK (gY aO)) := aC
 generalize aL H mt (.dK (gY aO)) = H1 at x1 k1 ⊢
 intro la hla
 have la0 : H la = none := x1.free hla
 have lm : la ≠ mt := Ne.symm (aD k1 hla)
 have x2 : Same H1 (aL H1 la (.dK [])) := aN hla
 have k2 : aL H1 la (.dK []) la = some (.dK []) := aC
 generalize aL H1 la (.dK []) = H2 at x2 k2 ⊢
 have m2 := x2 _ _ k1
 have y2 := x1.trans x2
 refine ⟨_,rfl,L,rs,rfl,hL.same y2,by omega,λ r hr => ⟨by have := hG.row r hr; omega,(hG.row r hr).2.2⟩,λ r1 zs H3 s3 n3 z3 d3 hr3 x3 hz3 => ?_⟩
 have y3 := y2.trans x3
 have m3 := x3 _ _ m2
 have k3 := x3 _ _ k2
 refine ⟨r1,rfl,⟨_,bC.of hz3⟩,fF (xs := zs.map V.str) (λ i σ H' => ∃ (v4 : Option V) (kv : List (bP × V)),σ = [some (.ref L),some (.ref R),some (.ref mt),some (.ref la),v4,none,none,none,none] /\ (∀ a o,a ≠ la -> H3 a = some o -> H' a = some o) /\ H' la = some (.dK kv) /\ kv.length <= i /\ ∀ d ∈ zs.take i,eC kv (.inr d) = some (.int 0)) ?_ ?_ ?_ ?_⟩
 . exact ⟨none,[],rfl,λ _ _ _ h => h,k3,Nat.le_refl _,by intro _ z; cases z⟩
 . rintro i σ H4 _ ⟨v4,kv,_,x4,_⟩;exact bC.of (x4 _ _ (cO hz3 k3 (λ z => nomatch z)) hz3)
 . rintro i y σ H4 hy ⟨v4,kv,rfl,x4,h4,l4,e4⟩;rw [List.getElem?_map] at hy;obtain ⟨d,hd,rfl⟩ := Option.map_eq_some_iff.mp hy;have hi : i < zs.length := (List.getElem?_eq_some_iff.mp hd).1;refine ⟨_,rfl,_,rfl,la,_,rfl,rA.k (k := .inr d) h4 (oH (by omega)),_,dY kv (.inr d) (.int 0),rfl,λ a o n e => by rw [aH n]; exact x4 a o n e,aC,?_,λ d' hd' => ?_⟩
   . have := dJ kv (.inr d) (.int 0);omega
   . rw [kB]
     by_cases e : (Sum.inr d' : bP) = .inr d
     . rw [if_pos e]
     . rw [if_neg e]
       rcases (cR hd).mp hd' with z | z
       . exact e4 d' z
       . exact absurd (by rw [z]) e
 . rintro σ H4 ⟨v4,kv,rfl,x4,k4,l4,e4⟩;rw [List.length_map,List.take_length] at e4;rw [List.length_map] at l4;have y4 : Same H H4 := λ a o e => x4 a o (aD e la0) (y3 a o e);have m4 := x4 _ _ (Ne.symm lm) m3;clear x4 m3 k3 y3 x3 y2 m2 k2 x2 k1 x1 hla hmt hr3 hz3;refine λ p0 hp0 => ⟨aC,[(Sum.inl 0,.bl true)],rfl,(by decide),?_⟩;rw [upd_upd,show gJ [] [((Sum.inl 0 : bP),V.bl true)] = [(Sum.inl 0,V.bl true)] from rfl];have x5 : Same H4 (aL H4 p0 (.dK [(Sum.inl 0,.bl true)])) := aN hp0;have k5 : aL H4 p0 (.dK [(Sum.inl 0,.bl true)]) p0 = some (.dK [(Sum.inl 0,.bl true)]) := aC;have np0 : la ≠ p0 := aD k4 hp0;generalize aL H4 p0 (.dK [(Sum.inl 0,.bl true)]) = H5 at x5 k5 ⊢;refine ⟨gH (show 1 <= 1000 by decide),λ U hU => ?_⟩;have x6 : Same H5 (aL H5 U (.lst [.ref p0])) := aN hU;have k6 : aL H5 U (.lst [.ref p0]) U = some (.lst ([p0].map V.ref)) := aC;generalize aL H5 U (.lst [.ref p0]) = H6 at x6 k6 ⊢;have x46 := x5.trans x6;have I0 : UnI rs row H H6 mt la U (gY aO) [p0] 0 := by
    refine ⟨y4.trans x46,x46 _ _ m4,k6,rfl,List.nodup_cons.mpr ⟨List.not_mem_nil,List.nodup_nil⟩,λ p hp => ?_,λ k p e => ?_,λ z => np0 (List.mem_singleton.mp z),la0,(y4.trans x5).free hU,lm,kv,x46 _ _ k4,by omega,λ d hd => e4 d ((d3 d).mpr hd)⟩
    . rw [List.mem_singleton.mp hp]; exact y4.free hp0
    . have hk : k = 0 := by
       have z := (List.getElem?_eq_some_iff.mp e).1;rw [show [p0].length = 1 from rfl] at z;omega
      subst hk;cases Option.some.inj (show some p0 = some p from e);refine ⟨_,x6 _ _ k5,List.nodup_cons.mpr ⟨List.not_mem_nil,List.nodup_nil⟩,λ x => ⟨λ hx => ⟨0,List.mem_singleton.mp hx,.self 0⟩,λ ⟨j,e,u⟩ => List.mem_singleton.mpr (by rw [e,und_zero.mp u]; rfl)⟩⟩
   clear x46 x6 k6 x5 k5 y4 m4 k4 l4 e4 hp0 hU np0;refine ⟨_,rfl,R,rfl,⟨_,bC.of (I0.same _ _ hR)⟩,for_enum (xs := row.map V.str) (λ i σ H' => ∃ (v4 v6 v7 v8 : Option V) (us : List Addr),σ = [some (.ref L),some (.ref R),some (.ref mt),some (.ref la),v4,some (.ref U),v6,v7,v8] /\ UnI rs row H H' mt la U (gY aO) us i) ?_ ?_ ?_ ?_⟩
   . exact ⟨_,none,none,none,[p0],rfl,I0⟩
   . rintro i σ H7 _ ⟨_,_,_,_,_,_,I7⟩;exact bC.of (I7.same _ _ hR)
   . rintro i y σ H7 T hy hT7 ⟨w4,w6,w7,w8,us,rfl,I7⟩;rw [List.getElem?_map] at hy;obtain ⟨l,hl,rfl⟩ := Option.map_eq_some_iff.mp hy;have hi : i < row.length := (List.getElem?_eq_some_iff.mp hl).1;obtain ⟨r,hm,rfl⟩ := List.mem_map.mp (hO l (List.mem_of_getElem? hl));have l4 := (hG.row r hm).2.1;have hdk : eK rs r.1 = r.2 := fQ hG.nd hm;have I8 := I7.keep (aN (o := .tup [.int i,.str r.1]) hT7);refine ⟨T,_,rfl,dM.of aC,rfl,_,_,rfl,_,_,rfl,rfl,?_⟩;generalize aL H7 T (.tup [.int i,.str r.1]) = H8 at I8 ⊢;clear I7 hT7;refine lats4 ?_;intro D1 σ1 W4 W3 W2;refine λ p hp => ⟨_,rfl,_,_,rfl,rfl,aC,[(Sum.inl ((i : Int) + 1),.bl true)],rfl,(by show (1 : Nat) <= 15; decide),?_⟩;rw [upd_upd,show gJ [] [((Sum.inl ((i : Int) + 1) : bP),V.bl true)] = [(Sum.inl ((i : Int) + 1),V.bl true)] from rfl];have p0' : H p = none := I8.same.free hp;have I9 := I8.keep (aN (o := .dK [(Sum.inl ((i : Int) + 1),.bl true)]) hp);have k9 : aL H8 p (.dK [(Sum.inl ((i : Int) + 1),.bl true)]) p = some (.dK [(Sum.inl ((i : Int) + 1),.bl true)]) := aC;have pu : p ∉ us := λ z => by
      obtain ⟨n,hn⟩ := List.getElem?_of_mem z;obtain ⟨kv,a,_⟩ := I8.ok n p hn;exact aD a hp rfl
     have pl : la ≠ p := let ⟨_,a,_⟩ := I8.l; aD a hp
     have pm : mt ≠ p := aD I8.m hp;generalize aL H8 p (.dK [(Sum.inl ((i : Int) + 1),.bl true)]) = H9 at I9 k9 ⊢;clear I8 hp;obtain ⟨pO,la9,ll9,hv9⟩ := I9.l;obtain ⟨t1,a1,a2⟩ := p3 r hm;have b1 : jC H9 mt (.str r.1) (some (.ref t1)) := by rw [<- a1]; exact jC.k (k := .inr r.1) I9.m
     have b2 := I9.same _ _ a2;refine ⟨_,rfl,_,rfl,mt,_,rfl,b1,t1,rfl,⟨_,dM.of b2⟩,jG (xs := r.2.map V.str) (λ n σ H' => ∃ (v4 : Option V) (kv : List (bP × V)),σ = [some (.ref L),some (.ref R),some (.ref mt),some (.ref la),v4,some (.ref U),some (.int (i : Int)),some (.str r.1),some (.ref p)] /\ (∀ a o,a ≠ p -> H9 a = some o -> H' a = some o) /\ H' p = some (.dK kv) /\ MnI rs row (r.2.take n) i kv) ?_ ?_ ?_ ?_⟩
     . exact ⟨_,_,rfl,λ _ _ _ h => h,k9,MnI.start rs row i⟩
     . rintro n σ Ha _ ⟨_,_,_,xa,_⟩;exact dM.of (xa _ _ (cO b2 k9 (λ z => nomatch z)) b2)
     . rintro n y σ Ha hy ⟨v4',kva,rfl,xa,ka,ma⟩;rw [List.getElem?_map] at hy;obtain ⟨d,hd,rfl⟩ := Option.map_eq_some_iff.mp hy;have hdm := List.mem_of_getElem? hd;have v1 := hv9 d ⟨r,hm,hdm⟩;have v2 := hZ rs row d i;obtain ⟨qn,hqn⟩ : ∃ qn,bF rs row i d = qn := ⟨_,rfl⟩;rw [hqn] at v1 v2;have hun : us[qn]? = some (us[qn]'(by rw [I9.len]; omega)) := List.getElem?_eq_getElem (by rw [I9.len]; omega);obtain ⟨mo,c1,c2⟩ := I9.ok qn _ hun;have hqm := List.mem_of_getElem? hun;generalize us[qn]'(by rw [I9.len]; omega) = qa at hun c1 hqm;have nq : qa ≠ p := λ z => pu (z ▸ hqm);have gla : jC Ha la (.str d) (some (.int (qn : Int))) := by rw [<- v1]; exact jC.k (k := .inr d) (xa _ _ pl la9)
       have hfew := ma.few;have hfew2 := c2.few;refine ⟨_,rfl,.inr (.inr (.inl ⟨rfl,.inl ⟨_,ka⟩⟩)),_,rfl,_,rfl,_,rfl,la,_,rfl,gla,U,_,_,_,rfl,rfl,bC.of (xa _ _ (cO I9.u k9 (λ z => nomatch z)) I9.u),bT (by rw [List.getElem?_map,hun]; rfl),p,qa,kva,mo,rfl,rfl,ka,xa _ _ nq c1,Ne.symm nq,by omega,?_⟩;refine ⟨_,gJ kva mo,rfl,λ a o n e => by rw [aH n]; exact xa a o n e,aC,?_⟩;rw [bR hd];exact ma.step (by rw [hqn]; exact c2)
     . rintro σ Ha ⟨v4',kva,rfl,xa,ka,ma⟩;rw [List.length_map,List.take_length] at ma;have ua : UV rs row (i + 1) kva := ma.done hl hdk;have laa := xa _ _ pl la9;have b2a := xa _ _ (cO b2 k9 (λ z => nomatch z)) b2;have b1a : jC Ha mt (.str r.1) (some (.ref t1)) := by rw [<- a1]; exact jC.k (k := .inr r.1) (xa _ _ pm I9.m)
       refine ⟨_,rfl,_,rfl,mt,_,rfl,b1a,t1,rfl,⟨_,dM.of b2a⟩,jG (xs := r.2.map V.str) (λ n σ H' => ∃ (v4 : Option V) (kv' : List (bP × V)),σ = [some (.ref L),some (.ref R),some (.ref mt),some (.ref la),v4,some (.ref U),some (.int (i : Int)),some (.str r.1),some (.ref p)] /\ (∀ a o,a ≠ la -> Ha a = some o -> H' a = some o) /\ H' la = some (.dK kv') /\ kv'.length <= pO.length + n /\ ∀ d,eC kv' (.inr d) = if d ∈ r.2.take n then some (.int ((i : Int) + 1)) else eC pO (.inr d)) ?_ ?_ ?_ ?_⟩
       . exact ⟨_,_,rfl,λ _ _ _ h => h,laa,Nat.le_refl _,λ d => by rw [if_neg (by intro z; cases z)]⟩
       . rintro n σ Hb _ ⟨_,_,_,xb,_⟩;exact dM.of (xb _ _ (cO b2a laa (λ z => nomatch z)) b2a)
       . rintro n y σ Hb hy ⟨v4'',kvb,rfl,xb,kb,lb,vb⟩;rw [List.getElem?_map] at hy;obtain ⟨d,hd,rfl⟩ := Option.map_eq_some_iff.mp hy;have hn : n < r.2.length := (List.getElem?_eq_some_iff.mp hd).1;refine ⟨_,rfl,_,_,rfl,rfl,_,rfl,_,rfl,la,_,rfl,rA.k (k := .inr d) kb (oH (by omega)),_,dY kvb (.inr d) (.int ((i : Int) + 1)),rfl,λ a o n e => by rw [aH n]; exact xb a o n e,aC,?_,λ d' => ?_⟩
         . have := dJ kvb (.inr d) (.int ((i : Int) + 1));omega
         . rw [kB]
           by_cases e : (Sum.inr d' : bP) = .inr d
           . rw [if_pos e,if_pos ((cR hd).mpr (.inr (Sum.inr.inj e)))]
           . rw [if_neg e,vb d']
             by_cases z : d' ∈ r.2.take n
             . rw [if_pos z,if_pos ((cR hd).mpr (.inl z))]
             . rw [if_neg z,if_neg];intro z'
               rcases (cR hd).mp z' with y | y
               . exact z y
               . exact e (by rw [y])
       . rintro σ Hb ⟨v4'',kvb,rfl,xb,kb,lb,vb⟩;rw [List.length_map,List.take_length] at vb;rw [List.length_map] at lb;have nU : U ≠ p := cO I9.u k9 (λ z => nomatch z);have ua2 := xa _ _ nU I9.u;have nUl : U ≠ la := cO ua2 laa (λ z => nomatch z);have ub := xb _ _ nUl ua2;refine ⟨_,rfl,.inl ⟨rfl,_,bC.of ub⟩,_,rfl,U,_,_,rfl,rfl,ub,by rw [List.length_map,I9.len]; omega,?_⟩;refine ⟨_,_,_,_,us ++ [p],rfl,?_⟩;have un : ∀ k q,us[k]? = some q -> q ≠ p /\ q ≠ la /\ q ≠ U := λ k q e => by
          have hq := List.mem_of_getElem? e;obtain ⟨kv,a,_⟩ := I9.ok k q e;exact ⟨λ z => pu (z ▸ hq),λ z => I9.nl (z ▸ hq),cO a I9.u (λ z => nomatch z)⟩
         refine ⟨λ a o e => ?_,?_,by rw [aC,List.map_append]; rfl,by rw [List.length_append,I9.len]; rfl,?_,λ q hq => ?_,λ k q e => ?_,λ z => ?_,la0,I9.U0,lm,kvb,?_,by omega,λ d hd => ?_⟩
         . rw [aH (aD e I9.U0)];exact xb a o (aD e la0) (xa a o (aD e p0') (I9.same a o e))
         . rw [aH (cO I9.m I9.u (λ z => nomatch z))];exact xb _ _ (Ne.symm lm) (xa _ _ pm I9.m)
         . refine List.nodup_append.mpr ⟨I9.nd,List.nodup_cons.mpr ⟨List.not_mem_nil,List.nodup_nil⟩,λ x hx y hy => ?_⟩;rw [List.mem_singleton.mp hy];exact λ z => pu (z ▸ hx)
         . rcases List.mem_append.mp hq with z | z
           . exact I9.new q z
           . rw [List.mem_singleton.mp z]; exact p0'
         . by_cases hk : k < us.length
           . rw [List.getElem?_append_left hk] at e;obtain ⟨kv,a,b⟩ := I9.ok k q e;obtain ⟨n1,n2,n3⟩ := un k q e;exact ⟨kv,by rw [aH n3]; exact xb _ _ n2 (xa _ _ n1 a),b⟩
           . rw [List.getElem?_append_right (by omega)] at e;have hk1 := (List.getElem?_eq_some_iff.mp e).1;have hk2 : k = i + 1 := by
              rw [show [p].length = 1 from rfl] at hk1;have := I9.len;omega
             subst hk2;rw [I9.len,Nat.sub_self] at e;cases Option.some.inj (show some p = some q from e);exact ⟨kva,by rw [aH (Ne.symm nU)]; exact xb _ _ (Ne.symm pl) ka,ua⟩
         . rcases List.mem_append.mp z with z | z
           . exact I9.nl z
           . exact pl (List.mem_singleton.mp z)
         . rw [aH (Ne.symm nUl)]; exact kb
         . rw [vb d,lastp_at hl,hdk]
           by_cases z : d ∈ r.2
           . rw [if_pos z,if_pos z]; rfl
           . rw [if_neg z,if_neg z]; exact hv9 d hd
   . rintro σ H7 ⟨w4,w6,w7,w8,us,rfl,I7⟩;have cE := I7.len;rw [List.length_map] at cE;refine ⟨_,rfl,_,rfl,gH (show 2 <= 1000 by decide),λ T hT => ?_⟩;have x8 := aN (o := .tup [.ref U,.ref la]) hT;exact q T U la us _ (I7.same.trans x8) aC (x8 _ _ I7.u) cE I7.nd I7.nl I7.new (λ k p e => (let ⟨kv,a,b⟩ := I7.ok k p e; ⟨kv,x8 _ _ a,b⟩)) (by
      obtain ⟨pO,b1,_,b3⟩ := I7.l;rw [List.length_map] at b3;exact ⟨pO,x8 _ _ b1,b3⟩)
abbrev iW : Stmt := top 9
structure XMkD (P : Program) (w : World) (K : W.Frag) (mg : Str -> Option Value) (base : Heap) (k : Nat) (C M : Addr) (f : Addr) (fd : FuncData) : Prop where
 xc : XC K C M
 hin : W.findIn K (.ref C) "__init__" = some (some (.ref f))
 hfn : W.isFn K (.ref f) = true
 ok : FnOk P w K mg base gO k f fd ["self","desk"] (oF C "desk")
 bn : fG K fd ["self","desk"] []
 at_ : mg "NoDesk" = some (.ref C)
 fn : W.findIn K (.ref C) "desk" = some none
def Dk (n : Str) : List (Str × V) := [("desk",.str n)]
theorem raisedD {H H1 : Hp} {E : XK} {n : Str} {CT : Addr} {vs : List V} (x : Same H H1) (hE : ∀ a H',H a = none -> Same H H' -> dR H' a CT (Dk n) -> E (.ref a) none H') :
 ∀ e u,H1 e = none -> H1 u = none -> u ≠ e -> oF CT "desk" (.ref e :: [.str n]) (aL (aL H1 u (.tup vs)) e (mW e CT u none)) (λ v H2 => v = .non /\ ∃ a fs,V.ref e = .ref a /\ XAt H2 a CT fs /\ RNew H E CT a fs H2) E0 := λ e u he hu iQ =>
 ⟨e,u,.str n,rfl,aC,λ H' hX k => ⟨rfl,e,Dk n,rfl,hX,x.free he,λ b o q => k b o (aD (x b o q) he) (by rw [aH (aD (x b o q) he),aH (aD (x b o q) hu)]; exact x b o q),λ H'' sm fl => hE e H'' (x.free he) sm fl⟩⟩
def spRefD (K : W.Frag) (CN : Addr) : Sp := λ vs H Q E => ∃ (T L : Addr) (ys row : List Str),vs = [.ref T,.ref L] /\ dM K H T (ys.map V.str) /\ bC K H L (row.map V.str) /\ (pX ys row = none -> ∀ H',Same H H' -> Q .non H') /\
 ∀ l,pX ys row = some l -> ∀ a H',H a = none -> Same H H' -> dR H' a CN (Dk l) -> E (.ref a) none H'
theorem sc_refd : bI ["desks","group","desk"] ["desks","group"] (aG iW) := (.of rfl rfl rfl rfl (by decide +kernel))
theorem ok_refd (F : jY K "refuse_desks" "refuse_desks" iW f fd) (xt : XMkD P w K mg base k CN M ft ftd) : FnOk P w K mg base (pY P w) (k + 2) f fd ["desks","group"] (spRefD K CN) := by
 refine F.okX sc_refd (λ vs H Q E h => ?_) (λ cdv A outer s H vs Q E hr h => ?_)
 . obtain ⟨T,L,ys,row,rfl,_⟩ := h;rfl
 obtain ⟨T,L,ys,row,rfl,hT,hL,q,qe⟩ := h
 have nd := sc_refd.nd
 refine ⟨_,(aK (dC PassesOwn.leaving rfl (dG (pv 1)) (aP (i := 2) nd rfl (Or.inl rfl)) (aK (dH (bX fC (pv 2) (pv 0) rfl) (aK (ps_raise xt.xc rfl (pe_makeX xt.xc xt.hin xt.hfn xt.ok hr rfl xt.at_ xt.bn (aB (pv 2) aF)) raise_new)) bU)))),?_⟩
 try dsimp only [cH,Cx.nox,Cx.wish]
 refine ⟨_,rfl,L,rfl,⟨_,hL⟩,fF (xs := row.map V.str) (λ i σ H' => ∃ v : Option V,σ = [some (.ref T),some (.ref L),v] /\ pX ys (row.take i) = none /\ Same H H') ?_ ?_ ?_ ?_⟩
 . exact ⟨none,rfl,rfl,Same.refl _⟩
 . rintro i σ H1 _ ⟨v,_,_,x⟩;exact x.seq hL
 . rintro i y σ H1 hy ⟨v,rfl,h0,x1⟩;rw [List.getElem?_map] at hy;obtain ⟨l,hl,rfl⟩ := Option.map_eq_some_iff.mp hy;refine ⟨_,rfl,_,rfl,T,_,rfl,.inr (Same.tup x1 hT),rfl,eF ys,_,rfl,?_⟩;refine kW (λ c => ?_) (λ c => ?_)
   . have hn : l ∉ ys := eR.mp (by simpa using c);exact ⟨_,rfl,by simp,raisedD x1 (qe l (bad_at h0 hl hn))⟩
   . have hm : l ∈ ys := by
      refine Classical.byContradiction λ z => c ?_;rw [if_pos rfl,eR.mpr z]; rfl
     refine ⟨_,rfl,?_,x1⟩;rw [bR hl];exact eV.mpr λ l' hl' => (List.mem_append.mp hl').elim (eV.mp h0 l') λ z => by rw [List.mem_singleton.mp z]; exact hm
 . rintro σ H1 ⟨v,rfl,h0,x1⟩;rw [List.length_map,List.take_length] at h0;exact q h0 H1 x1
theorem bad_congr {ys ys' row : List Str} (h : ∀ d,d ∈ ys ↔ d ∈ ys') : pX ys row = pX ys' row := by
 unfold pX
 congr 1
 funext l
 rw [decide_eq_decide.mpr (h l)]
theorem _root_.L2.FnOk.or {CX : CXT} {ps : List Str} {sp sp' : Sp} (F : FnOk P w K mg base CX k f fd ps sp) (G : FnOk P w K mg base CX k f fd ps sp') : FnOk P w K mg base CX k f fd ps (λ vs H Q E => sp vs H Q E \/ sp' vs H Q E) :=
 ⟨λ vs H Q E q => q.elim (F.len vs H Q E) (G.len vs H Q E),λ A outer s H args us vs Q E hr he hb hv hs => hs.elim (F.run A outer s H args us vs Q E hr he hb hv) (G.run A outer s H args us vs Q E hr he hb hv)⟩
abbrev fX : Stmt := top 11
theorem for_enum1 {K : W.Frag} {a : Addr} {xs : List V} {g : TG} {tb : TS} {D : eL} {σ : L2.St} {H : Hp} (Pv : Nat -> L2.St -> Hp -> Prop) (h0 : Pv 0 σ H) (hl : ∀ i σ H,i <= xs.length -> Pv i σ H -> bC K H a xs)
 (hs : ∀ i x σ H T,xs[i]? = some x -> H T = none -> Pv i σ H -> g (.ref T) σ (aL H T (.tup [.int (i + 1),x])) λ σ2 H2 => tb { D with nx := Pv (i + 1),ct := Pv (i + 1),bk := D.nx } σ2 H2) (hd : ∀ σ H,Pv xs.length σ H -> D.nx σ H) :
 ∃ W : Nat -> Nat -> L2.St -> Hp -> Prop,(∃ m,W 0 m σ H) /\ ∀ i m σ H,W i m σ H ->
  ((Ite1 K a).stop i H /\ D.nx σ H) \/ ((Ite1 K a).go i H /\ ∃ N : L2.St -> Hp -> Prop,(∀ σ' H',N σ' H' -> ∃ m',m' < m /\ W (i + 1) m' σ' H') /\ ∀ x H',(Ite1 K a).yld i H x H' -> g x σ H' λ σ2 H2 => tb { D with nx := N,ct := N,bk := D.nx } σ2 H2) := by
 refine ⟨λ i m σ H => m = xs.length - i /\ i <= xs.length /\ Pv i σ H,⟨xs.length,by simp,Nat.zero_le _,h0⟩,?_⟩
 rintro i m σ H ⟨rfl,hi,p⟩
 have q := hl i σ H hi p
 by_cases fR : i < xs.length
 . refine .inr ⟨⟨xs,xs[i],q,by simp [fR]⟩,Pv (i + 1),λ σ' H' p' => ⟨xs.length - (i + 1),by omega,rfl,fR,p'⟩,λ x H' y => ?_⟩;obtain ⟨T,hT,rfl,y⟩ := y;obtain ⟨x',hx,rfl⟩ := y xs q;exact hs i x' σ H T hx hT p
 . have e : i = xs.length := by omega
   subst e;exact .inl ⟨⟨xs,q,Nat.le_refl _⟩,hd σ H p⟩
structure HsI (rs : List cY) (row : List Str) (H : Hp) (dn la : Addr) (lN : List Addr) (i : Nat) : Prop where
 d : H dn = some (.lst (lN.map V.ref))
 len : lN.length = i + 1
 ok : ∀ k p,lN[k]? = some p -> ∃ ns : List Int,H p = some (.tup (ns.map V.int)) /\ NV rs row k ns
 l : ∃ pO : List (bP × V),H la = some (.dK pO) /\ pO.length <= 60 + 4 * i /\ ∀ d,(∃ r ∈ rs,d ∈ r.2) -> eC pO (.inr d) = some (.int ((bF rs row i d : Nat) : Int))
theorem HsI.same {rs : List cY} {row : List Str} {H H' : Hp} {dn la : Addr} {lN : List Addr} {i : Nat} (h : HsI rs row H dn la lN i) (x : Same H H') : HsI rs row H' dn la lN i := by
 obtain ⟨pO,l1,l2,l3⟩ := h.l
 exact ⟨x _ _ h.d,h.len,λ k p e => let ⟨ns,a,b⟩ := h.ok k p e; ⟨ns,x _ _ a,b⟩,pO,x _ _ l1,l2,l3⟩
def Under (rs : List cY) (row : List Str) (i : Nat) (zs : List Str) (ys : List Int) : Prop := ∀ x,x ∈ ys ↔ ∃ d ∈ zs,∃ j : Nat,x = (j : Int) /\ Und rs row (bF rs row i d) j
theorem Under.snoc {rs : List cY} {row : List Str} {i : Nat} {zs : List Str} {ys ns : List Int} {d : Str} (h : Under rs row i zs ys) (hn : NV rs row (bF rs row i d) ns) : Under rs row i (zs ++ [d]) (ys ++ ns) := λ x => by
 rw [List.mem_append,h x,hn.mem]
 constructor
 . rintro (⟨d',h1,h2⟩ | h2)
   . exact ⟨d',List.mem_append_left _ h1,h2⟩
   . exact ⟨d,List.mem_append_right _ (List.mem_singleton.mpr rfl),h2⟩
 . rintro ⟨d',h1,h2⟩
   rcases List.mem_append.mp h1 with z | z
   . exact .inl ⟨d',z,h2⟩
   . rw [List.mem_singleton.mp z] at h2;exact .inr h2
theorem low_in {D dn la : Addr} {Qn : L2.St -> Hp -> Prop} {H1 H : Hp} {rs : List cY} {row : List Str} {lN : List Addr} {i : Nat} {d : Str} {ys : List Int} {v1 : Option V} (hs : HsI rs row H1 dn la lN i) (hd : ∃ r ∈ rs,d ∈ r.2) (hi : i <= 100) (hl : ys.length <= 800) (hD : H1 D = none) (x : Same H1 H) (kD : H D = some (.lst (ys.map V.int)))
 (oG : ∀ v1 H' (ns : List Int),Same H1 H' -> NV rs row (bF rs row i d) ns -> ns.length <= i + 1 -> H' D = some (.lst ((ys ++ ns).map V.int)) -> Qn [some (.str d),v1,some (.ref dn),some (.ref la)] H') :
 tNest (iTup K (iC (nG K) (aU 2) (tDGet (aU 3) (aU 0)))) (bO 1) fV (tEmit D (aU 1)) [some (.str d),v1,some (.ref dn),some (.ref la)] H Qn := by
 obtain ⟨pO,l1,_,l3⟩ := hs.l
 have hle := hZ rs row d i
 have v := l3 d hd
 obtain ⟨n,hn⟩ : ∃ n,bF rs row i d = n := ⟨_,rfl⟩
 rw [hn] at v hle oG
 have hun : lN[n]? = some (lN[n]'(by rw [hs.len]; omega)) := List.getElem?_eq_getElem (by rw [hs.len]; omega)
 obtain ⟨ns,c1,c2⟩ := hs.ok n _ hun
 generalize lN[n]'(by rw [hs.len]; omega) = p at hun c1
 have hfew : ns.length <= n + 1 := ints_few c2.nd λ x hx => let ⟨j,a,b⟩ := (c2.mem x).mp hx; ⟨j,a,kS b⟩
 have gla : jC H la (.str d) (some (.int (n : Int))) := by rw [<- v]; exact jC.k (k := .inr d) (x _ _ l1)
 have hz := dA
 refine ⟨_,rfl,_,rfl,_,rfl,la,_,rfl,gla,dn,_,_,.ref p,rfl,rfl,bC.of (x _ _ hs.d),bT (by rw [List.getElem?_map,hun]; rfl),p,rfl,⟨_,dM.of (x _ _ c1)⟩,oI (xs := ns.map V.int) (λ m σ H' => ∃ v1 : Option V,σ = [some (.str d),v1,some (.ref dn),some (.ref la)] /\ Same H1 H' /\ H' D = some (.lst ((ys ++ ns.take m).map V.int))) ?_ ?_ ?_ ?_⟩
 . exact ⟨v1,rfl,x,by rw [List.take_zero,List.append_nil]; exact kD⟩
 . rintro m σ H2 _ ⟨_,_,x2,_⟩;exact dM.of (x2 _ _ c1)
 . rintro m y σ H2 hy ⟨v1',rfl,x2,k2⟩;rw [List.getElem?_map] at hy;obtain ⟨z,hz2,rfl⟩ := Option.map_eq_some_iff.mp hy;refine ⟨_,rfl,_,k2,?_,_,rfl,x2.at hD,?_⟩
   . rw [List.length_map,List.length_append,List.length_take]; omega
   . rw [aC,List.take_add_one,hz2];simp
 . rintro σ H2 ⟨v1',rfl,x2,k2⟩;rw [List.length_map,List.take_length] at k2;exact oG v1' H2 ns x2 c2 (by omega) k2
theorem low_tup {D t dn la : Addr} {Q : Hp -> Prop} {H1 : Hp} {rs : List cY} {row : List Str} {lN : List Addr} {i : Nat} {zs : List Str} (hs : HsI rs row H1 dn la lN i) (hT : H1 t = some (.tup (zs.map V.str))) (hz : ∀ d ∈ zs,∃ r ∈ rs,d ∈ r.2) (hl : zs.length <= 8) (hi : i <= 60) (hD : H1 D = none)
 (oG : ∀ H' (ys : List Int),Same H1 H' -> H' D = some (.lst (ys.map V.int)) -> ys.length <= 8 * 61 -> Under rs row i zs ys -> Q H') :
 lL (Itt K t) (bO 0) fV (tNest (iTup K (iC (nG K) (aU 2) (tDGet (aU 3) (aU 0)))) (bO 1) fV (tEmit D (aU 1))) (λ _ H' => Q H') [none,none,some (.ref dn),some (.ref la)] (aL H1 D (.lst [])) := by
 refine oI (xs := zs.map V.str) (λ m σ H => ∃ (v0 v1 : Option V) (ys : List Int),σ = [v0,v1,some (.ref dn),some (.ref la)] /\ Same H1 H /\ H D = some (.lst (ys.map V.int)) /\ ys.length <= m * 61 /\ Under rs row i (zs.take m) ys) ?_ ?_ ?_ ?_
 . exact ⟨none,none,[],rfl,aN hD,aC,Nat.zero_le _,λ x => ⟨(λ z => nomatch z),λ ⟨_,z,_⟩ => nomatch z⟩⟩
 . rintro m σ H _ ⟨_,_,_,_,x,_⟩;exact dM.of (x _ _ hT)
 . rintro m y σ H hy ⟨v0,v1,ys,rfl,x,k,l,u⟩;rw [List.getElem?_map] at hy;obtain ⟨d,hd,rfl⟩ := Option.map_eq_some_iff.mp hy;have hm : m < zs.length := (List.getElem?_eq_some_iff.mp hd).1;refine low_in (K := K) hs (hz d (List.mem_of_getElem? hd)) (by omega) (by omega) hD x k λ v1' H2 ns x2 hn gK k2 => ?_;exact ⟨_,_,ys ++ ns,rfl,x2,k2,by rw [List.length_append]; omega,by rw [bR hd]; exact u.snoc hn⟩
 . rintro σ H ⟨v0,v1,ys,rfl,x,k,l,u⟩;rw [List.length_map,List.take_length] at u;rw [List.length_map] at l;exact oG H ys x k (by omega) u
theorem zeros {D td : Addr} {Q : Hp -> Prop} {H1 : Hp} {ds : List Str} {v : V} (hn : ds.length <= 60) (hT : H1 td = some (.tup (ds.map V.str))) (hD : H1 D = none)
 (oG : ∀ H' (kv : List (bP × V)),Same H1 H' -> H' D = some (.dK kv) -> kv.length <= 60 -> (∀ d ∈ ds,eC kv (.inr d) = some v) -> Q H') :
 lL (Itt K td) (bO 0) fV (tEmitD D (aU 0) (tC v)) (λ _ H' => Q H') [none] (aL H1 D (.dK [])) := by
 refine oI (xs := ds.map V.str) (λ i σ H => ∃ (v0 : Option V) (kv : List (bP × V)),σ = [v0] /\ H D = some (.dK kv) /\ kv.length <= i /\ (∀ d ∈ ds.take i,eC kv (.inr d) = some v) /\ Same H1 H) ?_ ?_ ?_ ?_
 . exact ⟨none,[],rfl,aC,Nat.le_refl _,(by intro _ z; cases z),aN hD⟩
 . rintro i σ H _ ⟨v0,kv,_,_,_,_,x⟩;exact dM.of (x _ _ hT)
 . rintro i y σ H hy ⟨v0,kv,rfl,h1,l1,m1,x⟩;rw [List.getElem?_map] at hy;obtain ⟨d,hd,rfl⟩ := Option.map_eq_some_iff.mp hy;have hi : i < ds.length := (List.getElem?_eq_some_iff.mp hd).1;refine ⟨_,rfl,kv,.inr d,rfl,h1,oH (by omega),_,dY kv (.inr d) v,rfl,aC,?_,?_,x.at hD⟩
   . have := dJ kv (.inr d) v;omega
   . intro d' hd';rw [kB]
     by_cases e : (Sum.inr d' : bP) = .inr d
     . rw [if_pos e]
     . rw [if_neg e]
       rcases (cR hd).mp hd' with z | z
       . exact m1 d' z
       . exact absurd (by rw [z]) e
 . rintro σ H ⟨v0,kv,rfl,h1,l1,m1,x⟩;rw [List.length_map,List.take_length] at m1;rw [List.length_map] at l1;exact oG H kv x h1 (by omega) m1
def spHis (K : W.Frag) (C : Addr) : Sp := λ vs H Q _ => ∃ (x L : Addr) (rs : List cY) (row : List Str),vs = [.ref x,.ref L] /\ iO C H x rs /\ gG rs /\ bC K H L (row.map V.str) /\ Of rs row /\ row.length <= 60 /\
 ∀ (T dn la : Addr) (lN : List Addr) (H' : Hp),Same H H' -> H' T = some (.tup [.ref dn,.ref la]) -> HsI rs row H' dn la lN row.length -> Q (.ref T) H'
theorem sc_his : bI ["sharing","row","downs","last","number","letter","desks","under","desk"] ["sharing","row"] (aG fX) := (.of rfl rfl rfl rfl (by decide +kernel))
theorem ok_his (F : jY K "history_of" "history_of" fX f fd) (B : Bt mg) (S : ShC K C) (cF : pS P w K mg base j C g4 gd4) (N_meet : MeetOk P w K mg base k C g3 gd3) (G_rising : Fn P w K mg base k "rising" ["things"] (spRisingB K) g gd) : FnOk P w K mg base gO (k + 1) f fd ["sharing","row"] (spHis K C) := by
 refine F.ok sc_his (λ vs H Q E h => ?_) (λ cdv A outer s H vs Q E hr h => ?_)
 . obtain ⟨x,L,rs,row,rfl,_⟩ := h;rfl
 obtain ⟨x,L,rs,row,rfl,hS,hG,hL,hO,h60,q⟩ := h
 have nd := sc_his.nd
 have hz := dA
 obtain ⟨dx,tl,td,dd,aO,ds,h1,h2,h3,h4,h5,h6,h7,h8,h9⟩ := id hS
 refine ⟨_,(aE (aS (i := 2) nd rfl (Or.inr rfl) (iG (aB (fP (aB aJ aF)) aF))) (aE (aS (i := 3) nd rfl (Or.inr rfl) (pe_dcomp (g := (bO 0)) (tc := fV) (tk := (aU 0)) (tv := (tC (.int 0))) (own := ["desk"]) (fr := ([] : List Str)) (idx := []) rfl (by show aV _ _ _ (aG fX); exact (.of rfl (by decide +kernel))) (fZ (iD (pv 0) rfl)) (λ _ _ _ _ _ => (aP (i := 0) (by show List.Nodup (["desk"] : List Str); decide +kernel) rfl (Or.inl rfl) (Or.inr rfl))) (λ _ _ _ _ _ => dI) (λ _ _ _ _ _ => (pv 0)) (λ _ _ _ _ _ => aJ) rfl (dO rfl))) (aE (dC PassesOwn.never rfl (pi_enum1 rfl B.enumerate_ (aB (pv 1) aF)) (iE rfl (bW (aP (i := 4) nd rfl (Or.inl rfl)) (bW (aP (i := 5) nd rfl (Or.inl rfl)) fJ))) (aE (aS (i := 6) nd rfl (Or.inl rfl) (pe_meth (pv 0) cF.cls N_meet.meth N_meet.ok hr N_meet.bn .nil bE (aB (pv 5) aF))) (aE (ps_setC2 (i := 7) nd rfl (Or.inl rfl) (g := (bO 0)) (tc := fV) (te := (aU 1)) (wi2 := (iTup K (iC (nG K) (aU 2) (tDGet (aU 3) (aU 0))))) (g2 := (bO 1)) (tc2 := fV) (own := ["desk","lower"]) (fr := ["downs","last"]) (idx := [2,3]) rfl (by show aV _ _ _ (aG fX); exact (.of rfl (by decide +kernel))) (fZ (pv 6)) (λ _ _ _ _ _ => (aP (i := 0) (by show List.Nodup (["desk","lower","downs","last"] : List Str); decide +kernel) rfl (Or.inl rfl) (Or.inr rfl))) (λ _ _ _ _ _ => dI) (λ _ _ _ _ _ => (fZ (cN bS (pv 2) (jK (iB hr) (pv 3) (pv 0) (λ _ _ => rfl)) (λ _ _ => rfl)))) (λ _ _ _ _ _ => (aP (i := 1) (by show List.Nodup (["desk","lower","downs","last"] : List Str); decide +kernel) rfl (Or.inl rfl) (Or.inr rfl))) (λ _ _ _ _ _ => dI) (λ _ _ _ _ _ => (pv 1)) rfl (dO rfl)) (aE (fL (pA PySem.F.plainAttrs_list PySem.F.slot_list_append PySem.F.type_list_append iS (pv 2) (aB (aQ G_rising.ok hr rfl G_rising.at_ G_rising.kp G_rising.bn .nil bE (aB (aW op_cat (pv 7) (iG (aB (pv 4) aF))) aF)) aF))) (aK (dC PassesOwn.never rfl (fZ (pv 6)) (aP (i := 8) nd rfl (Or.inl rfl)) (aK (mS (iB hr) (pv 3) (pv 8) (pv 4) rfl)))))))) (aK (bN (fP (aB (pv 2) (aB (pv 3) aF)))))))),?_⟩
 try dsimp only [cH,Cx.nox,Cx.wish]
 refine lats4 ?_
 intro D0 σ0 U4 U3 U2
 refine ⟨gH (show 1 <= 1000 by decide),λ p0 hp0 => ⟨gH (show 1 <= 1000 by decide),λ dn oG => ?_⟩⟩
 have x1 := aN (o := .tup [.int 0]) hp0
 have x2 : Same H (aL (aL H p0 (.tup [.int 0])) dn (.lst [.ref p0])) := x1.trans (aN oG)
 have k2 : aL (aL H p0 (.tup [.int 0])) dn (.lst [.ref p0]) dn = some (.lst ([p0].map V.ref)) := aC
 have t2 : aL (aL H p0 (.tup [.int 0])) dn (.lst [.ref p0]) p0 = some (.tup ([(0 : Int)].map V.int)) := (aN oG) _ _ aC
 have dn0 : H dn = none := x1.free oG
 generalize aL (aL H p0 (.tup [.int 0])) dn (.lst [.ref p0]) = H2 at x2 k2 t2 ⊢
 clear x1 oG
 refine ⟨_,rfl,x,C,dx,_,_,rfl,x2 _ _ h1,S.cls,S.n2,rfl,td,rfl,⟨_,dM.of (x2 _ _ h3)⟩,λ la hla => zeros (K := K) h6 (x2 _ _ h3) hla λ H3 kv x3 k3 l3 m3 => ?_⟩
 have y3 := x2.trans x3
 have la0 : H la = none := x2.free hla
 refine ⟨_,rfl,L,rfl,⟨_,y3.seq hL⟩,for_enum1 (xs := row.map V.str) (λ i σ H' => ∃ (v4 v5 v6 v7 v8 : Option V) (lN : List Addr),σ = [some (.ref x),some (.ref L),some (.ref dn),some (.ref la),v4,v5,v6,v7,v8] /\ Same H H' /\ HsI rs row H' dn la lN i) ?_ ?_ ?_ ?_⟩
 . refine ⟨none,none,none,none,none,[p0],rfl,y3,x3 _ _ k2,rfl,λ k p e => ?_,kv,k3,by omega,λ d hd => m3 d ((h7 d).mpr hd)⟩;have hk : k = 0 := by
    have z := (List.getElem?_eq_some_iff.mp e).1;rw [show [p0].length = 1 from rfl] at z;omega
   subst hk;cases Option.some.inj (show some p0 = some p from e);refine ⟨[0],x3 _ _ t2,List.nodup_cons.mpr ⟨List.not_mem_nil,List.nodup_nil⟩,λ x => ?_⟩;rw [List.mem_singleton];exact ⟨λ e => ⟨0,e,.self 0⟩,λ ⟨j,e,u⟩ => by rw [e,und_zero.mp u]; rfl⟩
 . rintro i σ H4 _ ⟨_,_,_,_,_,_,_,x4,_⟩;exact x4.seq hL
 . rintro i y σ H4 T hy hT4 ⟨v4,v5,v6,v7,v8,lN,rfl,x4,I4⟩;rw [List.getElem?_map] at hy;obtain ⟨l,hl,rfl⟩ := Option.map_eq_some_iff.mp hy;have hi : i < row.length := (List.getElem?_eq_some_iff.mp hl).1;obtain ⟨r,hm,rfl⟩ := List.mem_map.mp (hO l (List.mem_of_getElem? hl));have l4 := (hG.row r hm).2.1;have hdk : eK rs r.1 = r.2 := fQ hG.nd hm;have I5 := I4.same (aN (o := .tup [.int (i + 1),.str r.1]) hT4);have x5 : Same H (aL H4 T (.tup [.int (i + 1),.str r.1])) := x4.trans (aN hT4);refine ⟨T,_,rfl,dM.of aC,rfl,_,_,rfl,_,_,rfl,rfl,?_⟩;generalize aL H4 T (.tup [.int (i + 1),.str r.1]) = H5 at I5 x5 ⊢;clear I4 x4 hT4;refine lats4 ?_;intro D1 σ1 W4 W3 W2;refine ⟨_,rfl,x,dx,_,rfl,x5 _ _ h1,rfl,_,rfl,x,rs,r,rfl,hS.same x5,hm,λ tz zs a1 a2 a3 => ?_⟩;have lz : zs.length <= 4 := by rw [a2.length_eq]; exact l4
   have hzs : ∀ d,d ∈ zs ↔ d ∈ r.2 := λ d => a2.mem_iff;refine ⟨_,rfl,tz,rfl,⟨_,dM.of a1⟩,λ D hD => low_tup (K := K) I5 a1 (λ d hd => ⟨r,hm,(hzs d).mp hd⟩) (by omega) (by omega) hD λ H6 ys x6 k6 l6 u6 => ?_⟩;have I6 := I5.same x6;have y6 := x5.trans x6;refine ⟨_,rfl,.inl ⟨rfl,_,bC.of I6.d⟩,_,rfl,_,rfl,gH (show 1 <= 1000 by decide),λ e he => ⟨D,e,_,_,rfl,rfl,(aN he) _ _ k6,aC,?_,λ c hc => ?_⟩⟩
   . rw [List.length_map]; show ys.length + 1 <= _; omega
   have x7 : Same H6 (aL (aL H6 e (.lst [.int (i + 1)])) c (.lst (ys.map V.int ++ [.int (i + 1)]))) := (aN he).trans (aN hc);have k7 : aL (aL H6 e (.lst [.int (i + 1)])) c (.lst (ys.map V.int ++ [.int (i + 1)])) c = some (.lst ((ys ++ [(i : Int) + 1]).map V.int)) := by rw [aC,List.map_append]; rfl
   generalize aL (aL H6 e (.lst [.int (i + 1)])) c (.lst (ys.map V.int ++ [.int (i + 1)])) = H7 at x7 k7 ⊢;have hmem : ∀ x,x ∈ ys ++ [(i : Int) + 1] ↔ ∃ j : Nat,x = (j : Int) /\ Und rs row (i + 1) j := λ x => by
    rw [List.mem_append,u6 x,List.mem_singleton]
    constructor
    . rintro (⟨d,h1,j,e,u⟩ | e)
      . exact ⟨j,e,(oR hl).mpr (.inr ⟨d,by rw [hdk]; exact (hzs d).mp h1,u⟩)⟩
      . exact ⟨i + 1,by rw [e]; rfl,.self _⟩
    . rintro ⟨j,e,u⟩
      rcases (oR hl).mp u with z | ⟨d,h1,h2⟩
      . exact .inr (by rw [e,z]; rfl)
      . exact .inl ⟨d,by rw [hdk] at h1; exact (hzs d).mpr h1,j,e,h2⟩
   refine .inr ⟨c,_,rfl,bC.of k7,by rw [List.length_append]; show ys.length + 1 < _; omega,λ ns nn nm => ?_,λ t ns H8 ps pn pm ht x8 k8 => ?_⟩
   . have := ints_few (k := i + 1) nn λ x hx => let ⟨j,a,b⟩ := (hmem x).mp ((nm x).mp hx); ⟨j,a,kS b⟩
     omega
   have x68 := x7.trans x8;have I8 := I6.same x68;have y8 := y6.trans x68;have hnv : NV rs row (i + 1) ns := ⟨pn,λ x => (pm x).trans (hmem x)⟩;refine ⟨dn,_,_,rfl,rfl,I8.d,by rw [List.length_map,I8.len]; omega,?_⟩;obtain ⟨pO,e1,e2,e3⟩ := I8.l;have nl : la ≠ dn := cO e1 I8.d (λ z => nomatch z);have a8 := x68 _ _ (x6 _ _ a1);have nt : ∀ {p : Addr} {ts : List V},H8 p = some (.tup ts) -> p ≠ dn := λ e => cO e I8.d (λ z => nomatch z);refine ⟨_,rfl,tz,rfl,⟨_,dM.of (by rw [aH (nt a8)]; exact a8)⟩,jG (xs := zs.map V.str) (λ n σ H' => ∃ (v8 : Option V) (kv' : List (bP × V)),σ = [some (.ref x),some (.ref L),some (.ref dn),some (.ref la),some (.int ((i : Int) + 1)),some (.str r.1),some (.ref tz),some (.ref D),v8] /\ (∀ a o,a ≠ la -> aL H8 dn (.lst (lN.map V.ref ++ [.ref t])) a = some o -> H' a = some o) /\ H' la = some (.dK kv') /\ kv'.length <= pO.length + n /\ ∀ d,eC kv' (.inr d) = if d ∈ zs.take n then some (.int ((i : Int) + 1)) else eC pO (.inr d)) ?_ ?_ ?_ ?_⟩
   . exact ⟨_,pO,rfl,λ _ _ _ h => h,by rw [aH nl]; exact e1,Nat.le_refl _,λ d => by rw [if_neg (by intro z; cases z)]⟩
   . rintro n σ H9 _ ⟨_,_,_,x9,_⟩;exact dM.of (x9 _ _ (cO a8 e1 (λ z => nomatch z)) (by rw [aH (nt a8)]; exact a8))
   . rintro n y σ H9 hy ⟨v8',kv9,rfl,x9,k9,l9,m9⟩;rw [List.getElem?_map] at hy;obtain ⟨d,hd,rfl⟩ := Option.map_eq_some_iff.mp hy;have hn : n < zs.length := (List.getElem?_eq_some_iff.mp hd).1;refine ⟨_,rfl,_,rfl,_,rfl,la,_,rfl,rA.k (k := .inr d) k9 (oH (by omega)),_,dY kv9 (.inr d) (.int ((i : Int) + 1)),rfl,λ a o n e => by rw [aH n]; exact x9 a o n e,aC,?_,λ d' => ?_⟩
     . have := dJ kv9 (.inr d) (.int ((i : Int) + 1));omega
     . rw [kB]
       by_cases e : (Sum.inr d' : bP) = .inr d
       . rw [if_pos e,if_pos ((cR hd).mpr (.inr (Sum.inr.inj e)))]
       . rw [if_neg e,m9 d']
         by_cases z : d' ∈ zs.take n
         . rw [if_pos z,if_pos ((cR hd).mpr (.inl z))]
         . rw [if_neg z,if_neg];intro z'
           rcases (cR hd).mp z' with y | y
           . exact z y
           . exact e (by rw [y])
   . rintro σ H9 ⟨v8',kv9,rfl,x9,k9,l9,m9⟩;rw [List.length_map,List.take_length] at m9;rw [List.length_map] at l9;refine ⟨_,_,_,_,_,lN ++ [t],rfl,λ a o e => x9 a o (aD e la0) (by rw [aH (aD e dn0)]; exact y8 a o e),x9 _ _ (Ne.symm nl) (by rw [aC,List.map_append]; rfl),by rw [List.length_append,I8.len]; rfl,λ k p e => ?_,kv9,k9,by omega,λ d hd => ?_⟩
     . by_cases hk : k < lN.length
       . rw [List.getElem?_append_left hk] at e;obtain ⟨ns',a,b⟩ := I8.ok k p e;exact ⟨ns',x9 _ _ (cO a e1 (λ z => nomatch z)) (by rw [aH (nt a)]; exact a),b⟩
       . rw [List.getElem?_append_right (by omega)] at e;have hk1 := (List.getElem?_eq_some_iff.mp e).1;have hk2 : k = i + 1 := by
          rw [show [t].length = 1 from rfl] at hk1;have := I8.len;omega
         subst hk2;rw [I8.len,Nat.sub_self] at e;cases Option.some.inj (show some t = some p from e);exact ⟨ns,x9 _ _ (cO k8 e1 (λ z => nomatch z)) (by rw [aH (nt k8)]; exact k8),hnv⟩
     . rw [m9 d,lastp_at hl,hdk]
       by_cases z : d ∈ zs
       . rw [if_pos z,if_pos ((hzs d).mp z)]; rfl
       . rw [if_neg z,if_neg (λ y => z ((hzs d).mpr y))]; exact e3 d hd
 . rintro σ H4 ⟨v4,v5,v6,v7,v8,lN,rfl,x4,I4⟩;rw [List.length_map] at I4;refine ⟨_,rfl,_,rfl,gH (show 2 <= 1000 by decide),λ T hT => ?_⟩;exact q T dn la lN _ (x4.trans (aN hT)) aC (I4.same (aN hT))
abbrev gW : Stmt := top 29
theorem passX0 {X : Cx} {P : Program} {w : World} : jP (pY P w) X E0 := λ _ _ _ _ _ _ _ h => by
 obtain ⟨_,_,_,_,_,_,_,z⟩ := h
 exact z.elim
theorem len5 {σ : L2.St} (h : List.length σ = 5) : ∃ a b c d e,σ = [a,b,c,d,e] := by
 match σ,h with
 | [a,b,c,d,e],_ => exact ⟨a,b,c,d,e,rfl⟩
structure FnH (P : Program) (w : World) (K : W.Frag) (mg : Str -> Option Value) (base : Heap) (k : Nat) (x : Str) (ps : List Str) (sp : Sp) (g : Addr) (gd : FuncData) : Prop where
 ok : FnOkH P w K mg base k g gd ps sp
 bn : fG K gd ps []
 kp : W.keepIn K (.ref g) = true
 at_ : mg x = some (.ref g)
structure XOt (K : W.Frag) (mg : Str -> Option Value) (CN M : Addr) (c : Nat -> Addr) : Prop where
 m4 : mg "NoLetter" = some (.ref (c 4))
 m5 : mg "NoDesk" = some (.ref (c 5))
 mM : mg "MeetError" = some (.ref M)
 k4 : W.kitOne K (.ref CN) (.ref (c 4)) = some true
 k5 : W.kitOne K (.ref CN) (.ref (c 5)) = some false
def Said (l : Str) : HO := .tup [.str "no letter",.str l]
def spRefusal (CN : Addr) : Sp := λ vs H Q _ => ∃ (e : Addr) (l : Str),vs = [.ref e] /\ dR H e CN (Lt l) /\ ∀ t H',H t = none -> Same H H' -> H' t = some (Said l) -> Q (.ref t) H'
theorem lD : bI ["_law_e"] ["_law_e"] (aG gW) := (.of rfl rfl rfl rfl (by decide +kernel))
theorem ok_refusal (F : jY K "_law_refusal" "_law_refusal" gW f fd) (B : Bt mg) (xt : XMk P w K mg base j CN M ft ftd) (xo : XOt K mg CN M c) : FnOkH P w K mg base (k + 1) f fd ["_law_e"] (spRefusal CN) := by
 refine F.okH lD (λ vs H Q E h => ?_) (λ cdv A outer s H vs Q h => ?_)
 . obtain ⟨e,l,rfl,_⟩ := h;rfl
 obtain ⟨e,l,rfl,fl,q⟩ := h
 have nd := lD.nd
 refine ⟨_,(aE (dH (PW.pt (pw_and (fM (aZ (fU xt.xc) rfl B.isinstance_ boot_isinstance (aB (pv 0) (aB (gX (v := .ref (c 4)) rfl xo.m4 rfl) aF))) (λ _ => rfl)) (rE (jQ (fM (aZ (fU xt.xc) rfl B.isinstance_ boot_isinstance (aB (pv 0) (aB (gX (v := .ref (c 5)) rfl xo.m5 rfl) aF))) (λ _ => rfl)))))) (aK (bN (fP (aB gM (aB (pe_fldF xt.xc xt.fn (pv 0)) aF))))) bU) (aE (dH (PW.pt (pw_and (fM (aZ (fU xt.xc) rfl B.isinstance_ boot_isinstance (aB (pv 0) (aB (gX (v := .ref (c 5)) rfl xo.m5 rfl) aF))) (λ _ => rfl)) (rE (jQ (fM (aZ (fU xt.xc) rfl B.isinstance_ boot_isinstance (aB (pv 0) (aB (gX (v := .ref (c 4)) rfl xo.m4 rfl) aF))) (λ _ => rfl)))))) (aK (bN (fP (aB gM (aB (iD (pv 0) rfl) aF))))) bU) (aK (bN pe_non)))),?_⟩
 try dsimp only [cH,Cx.nox,Cx.wish]
 refine qU ?_
 intro D0 σ0 U3 U2
 refine ⟨_,rfl,e,_,.ref (c 4),.ref (c 4),true,rfl,fl,rfl,λ _ z => z,xo.k4,true,rfl,iteT ?_⟩
 refine ⟨_,rfl,e,_,.ref (c 5),.ref (c 5),false,rfl,fl,rfl,λ _ z => z,xo.k5,false,rfl,?_⟩
 refine iteT ?_
 exact ⟨_,rfl,e,Lt l,.str l,rfl,fl,rfl,gH (show 2 <= 1000 by decide),λ t ht => q t _ ht (aN ht) aC⟩
structure XOtD (K : W.Frag) (mg : Str -> Option Value) (CD M : Addr) (c : Nat -> Addr) : Prop where
 m4 : mg "NoLetter" = some (.ref (c 4))
 m5 : mg "NoDesk" = some (.ref (c 5))
 mM : mg "MeetError" = some (.ref M)
 k4 : W.kitOne K (.ref CD) (.ref (c 4)) = some false
 k5 : W.kitOne K (.ref CD) (.ref (c 5)) = some true
def SaidD (d : Str) : HO := .tup [.str "no desk",.str d]
def spRefusalD (CD : Addr) : Sp := λ vs H Q _ => ∃ (e : Addr) (d : Str),vs = [.ref e] /\ dR H e CD (Dk d) /\ ∀ t H',H t = none -> Same H H' -> H' t = some (SaidD d) -> Q (.ref t) H'
theorem ok_refusalD (F : jY K "_law_refusal" "_law_refusal" gW f fd) (B : Bt mg) (xt : XMkD P w K mg base j CD M ft ftd) (xo : XOtD K mg CD M c) : FnOkH P w K mg base (k + 1) f fd ["_law_e"] (spRefusalD CD) := by
 refine F.okH lD (λ vs H Q E h => ?_) (λ cdv A outer s H vs Q h => ?_)
 . obtain ⟨e,l,rfl,_⟩ := h;rfl
 obtain ⟨e,l,rfl,fl,q⟩ := h
 have nd := lD.nd
 refine ⟨_,(aE (dH (PW.pt (pw_and (fM (aZ (fU xt.xc) rfl B.isinstance_ boot_isinstance (aB (pv 0) (aB (gX (v := .ref (c 4)) rfl xo.m4 rfl) aF))) (λ _ => rfl)) (rE (jQ (fM (aZ (fU xt.xc) rfl B.isinstance_ boot_isinstance (aB (pv 0) (aB (gX (v := .ref (c 5)) rfl xo.m5 rfl) aF))) (λ _ => rfl)))))) (aK (bN (fP (aB gM (aB (iD (pv 0) rfl) aF))))) bU) (aE (dH (PW.pt (pw_and (fM (aZ (fU xt.xc) rfl B.isinstance_ boot_isinstance (aB (pv 0) (aB (gX (v := .ref (c 5)) rfl xo.m5 rfl) aF))) (λ _ => rfl)) (rE (jQ (fM (aZ (fU xt.xc) rfl B.isinstance_ boot_isinstance (aB (pv 0) (aB (gX (v := .ref (c 4)) rfl xo.m4 rfl) aF))) (λ _ => rfl)))))) (aK (bN (fP (aB gM (aB (pe_fldF xt.xc xt.fn (pv 0)) aF))))) bU) (aK (bN pe_non)))),?_⟩
 try dsimp only [cH,Cx.nox,Cx.wish]
 refine qU ?_
 intro D0 σ0 U3 U2
 refine ⟨_,rfl,e,_,.ref (c 4),.ref (c 4),false,rfl,fl,rfl,λ _ z => z,xo.k4,false,rfl,kL (kL ?_)⟩
 refine ⟨_,rfl,e,_,.ref (c 5),.ref (c 5),true,rfl,fl,rfl,λ _ z => z,xo.k5,true,rfl,iteT ?_⟩
 refine ⟨_,rfl,e,_,.ref (c 4),.ref (c 4),false,rfl,fl,rfl,λ _ z => z,xo.k4,false,rfl,?_⟩
 refine iteT ?_
 exact ⟨_,rfl,e,Dk l,.str l,rfl,fl,rfl,gH (show 2 <= 1000 by decide),λ t ht => q t _ ht (aN ht) aC⟩
theorem _root_.L2.FnOkH.or {ps : List Str} {sp sp' : Sp} (F : FnOkH P w K mg base k f fd ps sp) (G : FnOkH P w K mg base k f fd ps sp') : FnOkH P w K mg base k f fd ps (λ vs H Q E => sp vs H Q E \/ sp' vs H Q E) :=
 ⟨λ vs H Q E q => q.elim (F.len vs H Q E) (G.len vs H Q E),λ A outer s H args us vs Q hr he hb hv hs => hs.elim (F.run A outer s H args us vs Q hr he hb hv) (G.run A outer s H args us vs Q hr he hb hv)⟩
def nQ (CN CD : Addr) : Sp := λ vs H Q E => spRefusal CN vs H Q E \/ spRefusalD CD vs H Q E
abbrev s_was_at : Stmt := top 12
abbrev cK : Stmt := top 13
abbrev dQ : Stmt := (cL cK).getD 3 (.Pass ⟨0,0,0,0⟩)
def AtD (rs : List cY) (row : List Str) (d : Str) (j : Nat) : Prop := j = 0 \/ ∃ l,row[j - 1]? = some l /\ d ∈ eK rs l
structure jJ (rs : List cY) (row : List Str) (n : Nat) (d : Str) (m : Nat) : Prop where
 und : Und rs row n m
 at_ : AtD rs row d m
 top : ∀ j,Und rs row n j -> AtD rs row d j -> j <= m
theorem und_all {rs : List cY} {row : List Str} (hG : gG rs) (hO : Of rs row) : ∀ n,n <= row.length -> Und rs row n 0 := by
 intro n
 induction n using Nat.strongRecOn with
 | _ n ih =>
  intro hn;cases n with
  | zero => exact .self 0
  | succ n =>
   have hl : row[n]? = some row[n] := List.getElem?_eq_getElem (by omega);have iQ := good_ne hG row[n] (hO _ (List.getElem_mem (by omega)));obtain ⟨d,r,e⟩ := List.exists_cons_of_ne_nil iQ;have hle := hZ rs row d n;exact .step hl (by rw [e]; exact List.mem_cons_self) (ih _ (by omega) (by omega))
theorem lat_ex {rs : List cY} {row : List Str} (hG : gG rs) (hO : Of rs row) {n : Nat} (hn : n <= row.length) (d : Str) : ∃ m,jJ rs row n d m := by
 classical
 have lE : ∀ k,∃ m,Und rs row n m /\ AtD rs row d m /\ ∀ j,j <= k -> Und rs row n j -> AtD rs row d j -> j <= m := by
  intro k
  induction k with
  | zero => exact ⟨0,und_all hG hO n hn,.inl rfl,λ j hj _ _ => hj⟩
  | succ k ih =>
   obtain ⟨m,h1,h2,h3⟩ := ih
   by_cases h : Und rs row n (k + 1) /\ AtD rs row d (k + 1)
   . exact ⟨k + 1,h.1,h.2,λ j hj _ _ => hj⟩
   . refine ⟨m,h1,h2,λ j hj a b => ?_⟩
     rcases Nat.lt_or_ge j (k + 1) with z | z
     . exact h3 j (by omega) a b
     . have : j = k + 1 := by omega
       subst this;exact absurd ⟨a,b⟩ h
 obtain ⟨m,h1,h2,h3⟩ := lE n
 exact ⟨m,h1,h2,λ j a b => h3 j (kS a) a b⟩
theorem jJ.le {rs : List cY} {row : List Str} {n m : Nat} {d : Str} (h : jJ rs row n d m) : m <= n := kS h.und
theorem jJ.inj {rs : List cY} {row : List Str} {n m m' : Nat} {d : Str} (h : jJ rs row n d m) (h' : jJ rs row n d m') : m = m' := Nat.le_antisymm (h'.top m h.und h.at_) (h.top m' h'.und h'.at_)
theorem lat_of {rs : List cY} {row : List Str} {n : Nat} {d : Str} {ks : List Int} {m : Int} (hk : ∀ x,x ∈ ks ↔ ∃ j : Nat,x = (j : Int) /\ Und rs row n j /\ AtD rs row d j) (hm : m ∈ ks) (ht : ∀ x ∈ ks,x <= m) : ∃ j : Nat,m = (j : Int) /\ jJ rs row n d j := by
 obtain ⟨j,rfl,h1,h2⟩ := (hk m).mp hm
 refine ⟨j,rfl,h1,h2,λ i a b => ?_⟩
 have := ht (i : Int) ((hk _).mpr ⟨i,rfl,a,b⟩)
 omega
def spWas (K : W.Frag) (C : Addr) : Sp := λ vs H Q _ => ∃ (x L : Addr) (rs : List cY) (row : List Str) (d : Str) (n : Nat),vs = [.ref x,.ref L,.str d,.int n] /\ iO C H x rs /\ gG rs /\ bC K H L (row.map V.str) /\ Of rs row /\ n <= row.length /\ ∀ b : Bool,(b = true ↔ AtD rs row d n) -> Q (.bl b) H
theorem sc_was : bI ["sharing","row","desk","number"] ["sharing","row","desk","number"] (aG s_was_at) := (.of rfl rfl rfl rfl (by decide +kernel))
theorem ok_was (F : jY K "was_at" "was_at" s_was_at f fd) (B : Bt mg) (cF : pS P w K mg base j C g4 gd4) (N_meet : MeetOk P w K mg base k C g3 gd3) : FnOk P w K mg base gO (k + 1) f fd ["sharing","row","desk","number"] (spWas K C) := by
 refine F.ok sc_was (λ vs H Q E h => ?_) (λ cdv A outer s H vs Q E hr h => ?_)
 . obtain ⟨x,L,rs,row,d,n,rfl,_⟩ := h;rfl
 obtain ⟨x,L,rs,row,d,n,rfl,hS,hG,hL,hO,hn,q⟩ := h
 have nd := sc_was.nd
 refine ⟨_,(aK (bN (pe_or (pe_cmpR op_eq (pv 3) aJ (eD _)) (pe_one (pe_cmpR mI (pv 2) (pe_meth (pv 0) cF.cls N_meet.meth N_meet.ok hr N_meet.bn .nil bE (aB (cN bS (pv 1) (aW op_sub (pv 3) aJ) (λ _ _ => rfl)) aF)) rfl))))),?_⟩
 try dsimp only [cH,Cx.nox,Cx.wish]
 refine ⟨_,rfl,rfl,_,rfl,?_⟩
 refine kW (λ c => ?_) (λ c => ?_)
 . have c : (n : Int) = 0 := by simpa using c
   exact q true ⟨λ _ => .inl (by omega),λ _ => rfl⟩
 . have c : ¬ (n : Int) = 0 := by simpa using c
   obtain ⟨dx,_,_,_,_,_,h1,_⟩ := id hS;have hi : n - 1 < row.length := by omega
   have hl : row[n - 1]? = some row[n - 1] := List.getElem?_eq_getElem hi;obtain ⟨r,hW,e⟩ := List.mem_map.mp (hO _ (List.getElem_mem hi));have oA : oB (row.map V.str) ((n : Int) - 1) = some (.str r.1) := by
    rw [e,show (n : Int) - 1 = ((n - 1 : Nat) : Int) by omega];exact bT (by rw [List.getElem?_map,hl]; rfl)
   refine ⟨_,rfl,_,rfl,x,dx,_,rfl,h1,rfl,_,rfl,_,rfl,_,_,rfl,rfl,L,_,_,_,rfl,rfl,hL,oA,x,rs,r,rfl,hS,hW,λ t zs kt pz _ => ?_⟩;refine ⟨t,_,rfl,.inr (dM.of kt),rfl,eF _,q _ ?_⟩;rw [if_neg (by decide),inV_mem,pz.mem_iff]
   constructor
   . intro h;refine .inr ⟨_,hl,?_⟩;rw [<- e,fQ hG.nd hW]; exact h
   . rintro (h | ⟨l,h1,h2⟩)
     . omega
     . rw [hl] at h1;cases h1;rw [<- e,fQ hG.nd hW] at h2; exact h2
theorem keepsZ {D p x L : Addr} {Q : VK} {H1 : Hp} {rs : List cY} {row : List Str} {d : Str} {n : Nat} {ns : List Int} (hS : iO C H1 x rs) (hG : gG rs) (hL : bC K H1 L (row.map V.str)) (hO : Of rs row) (hV : NV rs row n ns) (hn : n <= row.length) (h60 : row.length <= 60) (hp : H1 p = some (.tup (ns.map V.int))) (hD : H1 D = none)
 (oG : ∀ H' (ks : List Int),Same H1 H' -> H' D = some (.lst (ks.map V.int)) -> (∀ z,z ∈ ks ↔ ∃ j : Nat,z = (j : Int) /\ Und rs row n j /\ AtD rs row d j) -> Q (.ref D) H') :
 cG (Itt K p) D (bO 0) (tB (nA (spWas K C) [] E0 (cC (aU 1) (cC (aU 2) (cC (aU 3) (cC (aU 0) fD)))))) (aU 0) Q [none,some (.ref x),some (.ref L),some (.str d)] H1 := by
 have few := ints_few (k := row.length) hV.nd λ z hz => by
  obtain ⟨j,e,u⟩ := (hV.mem z).mp hz;exact ⟨j,e,Nat.le_trans (kS u) hn⟩
 refine comp_tup (xs := ns.map V.int) (λ i zs σ H => ∃ (v : Option V) (ks : List Int),zs = ks.map V.int /\ ks.length <= i /\ σ = [v,some (.ref x),some (.ref L),some (.str d)] /\ (∀ z,z ∈ ks ↔ z ∈ ns.take i /\ ∃ j : Nat,z = (j : Int) /\ AtD rs row d j) /\ Same H1 H) ?_ (by rw [List.length_map]; omega) ?_ ?_ ?_ ?_
 . exact ⟨none,[],rfl,Nat.le_refl _,rfl,(λ z => by rw [List.take_zero]; simp),aN hD⟩
 . rintro i zs σ H ⟨v,ks,rfl,hi,_⟩;rw [List.length_map]; exact hi
 . rintro i zs σ H ⟨v,ks,_,_,_,_,y⟩;exact dM.of (y _ _ hp)
 . rintro i y zs σ H hy gK ⟨v,ks,rfl,hi,rfl,hk,y1⟩;rw [List.getElem?_map] at hy;obtain ⟨z,hz,rfl⟩ := Option.map_eq_some_iff.mp hy;obtain ⟨jz,rfl,uz⟩ := (hV.mem z).mp (List.mem_of_getElem? hz);refine ⟨_,rfl,_,rfl,_,rfl,_,rfl,x,L,rs,row,d,jz,rfl,hS.same y1,hG,y1.seq hL,hO,Nat.le_trans (kS uz) hn,λ b hb => ⟨b,rfl,?_⟩⟩;cases b with
   | true =>
    refine iteT ⟨_,rfl,gK,_,ks ++ [(jz : Int)],by rw [List.map_append]; rfl,by rw [List.length_append]; show ks.length + 1 <= _; omega,rfl,λ z => ?_,y1.at hD⟩;rw [bR hz,List.mem_append,List.mem_append,hk z]
    constructor
    . rintro (h | h)
      . exact ⟨.inl h.1,h.2⟩
      . rw [List.mem_singleton.mp h]; exact ⟨.inr List.mem_cons_self,jz,rfl,hb.mp rfl⟩
    . rintro ⟨h | h,h2⟩
      . exact .inl ⟨h,h2⟩
      . exact .inr h
   | false =>
    refine kL ⟨gK,_,ks,rfl,by omega,rfl,λ z => ?_,y1⟩;rw [bR hz,List.mem_append,hk z]
    constructor
    . exact λ h => ⟨.inl h.1,h.2⟩
    . rintro ⟨h | h,j',e,h2⟩
      . exact ⟨h,j',e,h2⟩
      . rw [List.mem_singleton.mp h] at e;have : jz = j' := by omega
        subst this;have := hb.mpr h2;cases this
 . rintro zs σ H gK ⟨v,ks,rfl,hi,_,hk,y1⟩;rw [List.length_map] at hk;rw [List.take_length] at hk;refine oG H ks y1 gK λ z => ?_;rw [hk z]
   constructor
   . rintro ⟨h,j',e,h2⟩;obtain ⟨j2,e2,u⟩ := (hV.mem z).mp h;have : j2 = j' := by omega
     subst this;exact ⟨j2,e2,u,h2⟩
   . rintro ⟨j',e,u,h2⟩;exact ⟨(hV.mem z).mpr ⟨j',e,u⟩,j',e,h2⟩
structure DnI (rs : List cY) (row : List Str) (H : Hp) (dn : Addr) (lN : List Addr) : Prop where
 d : H dn = some (.lst (lN.map V.ref))
 len : lN.length = row.length + 1
 ok : ∀ k p,lN[k]? = some p -> ∃ ns : List Int,H p = some (.tup (ns.map V.int)) /\ NV rs row k ns
def spLat (K : W.Frag) (C : Addr) : List V -> Sp := λ pG vs H Q _ => ∃ (dn x L : Addr) (rs : List cY) (row : List Str) (lN : List Addr) (d : Str) (n : Nat),pG = [.ref dn,.ref x,.ref L] /\ vs = [.str d,.int n] /\ iO C H x rs /\ gG rs /\ bC K H L (row.map V.str) /\ Of rs row /\ row.length <= 60 /\ DnI rs row H dn lN /\ n <= row.length /\
 ∀ (m : Nat) H',jJ rs row n d m -> Same H H' -> Q (.int m) H'
theorem sc_lat : rD ["asked","number","downs","sharing","row"] ["asked","number"] (aG dQ) := ⟨rfl,rfl,rfl,by decide +kernel,rfl,by decide +kernel,λ x h => (by decide +kernel : ∀ y ∈ (aG dQ).names,y.2 = .cell -> (aG dQ).names.lookup y.1 = some .cell) (x,.cell) h rfl⟩
theorem ok_latest (B : Bt mg) (G_was_at : Fn P w K mg base k "was_at" ["sharing","row","desk","number"] (spWas K C) g gd) : InOk P w K mg base gO (k + 1) "latest" "news_at.<locals>.latest" (dZ dQ) (cL dQ) (aG dQ) ["asked","number"] ["downs","sharing","row"] (spLat K C) := by
 refine in_ok (mid := []) sc_lat rfl (by decide +kernel) (by decide +kernel) (λ clos lV pm ct c us hl => match us,hl with | [_,_],_ => rfl) (λ pG vs H Q E h => ?_) (λ clos cdv f A outer s H pG vs Q E hr h => ?_)
 . obtain ⟨dn,x,L,rs,row,lN,d,n,rfl,rfl,_⟩ := h;rfl
 obtain ⟨dn,x,L,rs,row,lN,d,n,rfl,rfl,hS,hG,hL,hO,h60,hI,hn,q⟩ := h
 have nd := sc_lat.nd
 refine ⟨_,(aK (bN (aZ (call_maxL rfl) rfl B.max_ (by decide +kernel) (aB (dX (g := (bO 0)) (tc := (tB (nA (spWas K C) [] E0 (cC (aU 1) (cC (aU 2) (cC (aU 3) (cC (aU 0) fD))))))) (te := (aU 0)) (own := ["lower"]) (fr := ["sharing","row","asked"]) (idx := [3,4,0]) rfl (by show aV _ _ _ (aG dQ); exact (.of rfl (by decide +kernel))) (fZ (cN bS (pv 2) (pv 1) (λ _ _ => rfl))) (λ _ _ _ _ _ => (aP (i := 0) (by show List.Nodup (["lower","sharing","row","asked"] : List Str); decide +kernel) rfl (Or.inl rfl) (Or.inr rfl))) (λ _ _ _ _ _ => oW (fM (aQ G_was_at.ok hr rfl G_was_at.at_ G_was_at.kp G_was_at.bn .nil bE (aB (pv 1) (aB (pv 2) (aB (pv 3) (aB (pv 0) aF))))) (λ _ => rfl))) (λ _ _ _ _ _ => (pv 0)) rfl (dO rfl)) aF)))),?_⟩
 try dsimp only [cH,Cx.nox,Cx.wish]
 have hd : lN[n]? = some (lN[n]'(by rw [hI.len]; omega)) := List.getElem?_eq_getElem _
 generalize lN[n]'(by rw [hI.len]; omega) = p at hd
 obtain ⟨ns,hp,hV⟩ := hI.ok n p hd
 refine ⟨_,rfl,_,rfl,dn,_,_,_,rfl,rfl,bC.of hI.d,bT (by rw [List.getElem?_map,hd]; rfl),p,rfl,⟨_,dM.of hp⟩,λ D hD => keepsZ (K := K) hS hG hL hO hV hn h60 hp hD λ H' ks y hk hm => ⟨D,ks,rfl,bC.of hk,?_,λ m h1 h2 => ?_⟩⟩
 . have h0 : (0 : Int) ∈ ks := (hm 0).mpr ⟨0,rfl,und_all hG hO n hn,.inl rfl⟩;exact λ z => by rw [z] at h0; cases h0
 . obtain ⟨j,rfl,hj⟩ := lat_of hm h1 h2;exact q j H' hj y
abbrev pK : Str := "news_at.<locals>.latest"
def mX (F : Str -> Str -> Str -> V) (x y : Str) (zs : List Str) : List (List bP × V) := zs.map λ z => ([.inr x,.inr y,.inr z],F x y z)
def lX (F : Str -> Str -> Str -> V) (ds : List Str) (x : Str) (ys : List Str) : List (List bP × V) := ys.flatMap λ y => mX F x y ds
def kP (F : Str -> Str -> Str -> V) (ds xs : List Str) : List (List bP × V) := xs.flatMap λ x => lX F ds x ds
abbrev iU (F : Str -> Str -> Str -> V) (ds : List Str) : List (List bP × V) := kP F ds ds
theorem rowZ_mem {F : Str -> Str -> Str -> V} {x y : Str} {zs : List Str} {p : List bP × V} (h : p ∈ mX F x y zs) : ∃ z ∈ zs,p.1 = [.inr x,.inr y,.inr z] := by
 obtain ⟨z,hz,rfl⟩ := List.mem_map.mp h
 exact ⟨z,hz,rfl⟩
theorem rowY_mem {F : Str -> Str -> Str -> V} {ds : List Str} {x : Str} {ys : List Str} {p : List bP × V} (h : p ∈ lX F ds x ys) : ∃ y ∈ ys,∃ z ∈ ds,p.1 = [.inr x,.inr y,.inr z] := by
 obtain ⟨y,hy,h⟩ := List.mem_flatMap.mp h
 exact ⟨y,hy,rowZ_mem h⟩
theorem rowX_mem {F : Str -> Str -> Str -> V} {ds xs : List Str} {p : List bP × V} (h : p ∈ kP F ds xs) : ∃ x ∈ xs,∃ y ∈ ds,∃ z ∈ ds,p.1 = [.inr x,.inr y,.inr z] := by
 obtain ⟨x,hx,h⟩ := List.mem_flatMap.mp h
 exact ⟨x,hx,rowY_mem h⟩
theorem rowY_len (F : Str -> Str -> Str -> V) (ds : List Str) (x : Str) : ∀ ys : List Str,(lX F ds x ys).length = ys.length * ds.length
 | [] => by rw [List.length_nil,Nat.zero_mul]; rfl
 | y :: ys => by
  have ih := rowY_len F ds x ys;show (mX F x y ds ++ lX F ds x ys).length = _;rw [List.length_append,ih,List.length_cons,Nat.succ_mul];unfold mX;rw [List.length_map]; omega
theorem rowX_len (F : Str -> Str -> Str -> V) (ds : List Str) : ∀ xs : List Str,(kP F ds xs).length = xs.length * (ds.length * ds.length)
 | [] => by rw [List.length_nil,Nat.zero_mul]; rfl
 | x :: xs => by
  have ih := rowX_len F ds xs;show (lX F ds x ds ++ kP F ds xs).length = _;rw [List.length_append,ih,List.length_cons,Nat.succ_mul,rowY_len]; omega
theorem not_take {ds : List Str} (nd : ds.Nodup) {i : Nat} {x : Str} (h : ds[i]? = some x) : x ∉ ds.take i := λ hm => by
 obtain ⟨j,hj⟩ := List.getElem?_of_mem hm
 have fR : j < i := by
  have := (List.getElem?_eq_some_iff.mp hj).1;rw [List.length_take] at this;omega
 rw [List.getElem?_take_of_lt fR] at hj
 obtain ⟨h1,e1⟩ := List.getElem?_eq_some_iff.mp h
 obtain ⟨h2,e2⟩ := List.getElem?_eq_some_iff.mp hj
 have := (List.getElem_inj nd).mp (e1.trans e2.symm)
 omega
theorem val_none {aO : List (List bP × V)} {k : List bP} (h : ∀ p ∈ aO,p.1 ≠ k) : eC aO k = none := by
 unfold eC
 rw [List.find?_eq_none.mpr λ p hp z => h p hp (of_decide_eq_true z)]
 rfl
theorem trip_new {F : Str -> Str -> Str -> V} {ds : List Str} (nd : ds.Nodup) {i j k : Nat} {x y z : Str} (hx : ds[i]? = some x) (hy : ds[j]? = some y) (hz : ds[k]? = some z) (v : V) :
 dY (kP F ds (ds.take i) ++ lX F ds x (ds.take j) ++ mX F x y (ds.take k)) [.inr x,.inr y,.inr z] v = kP F ds (ds.take i) ++ lX F ds x (ds.take j) ++ mX F x y (ds.take k) ++ [([.inr x,.inr y,.inr z],v)] := by
 refine putK_new v (val_none λ p hp e => ?_)
 rcases List.mem_append.mp hp with hp | hp
 . rcases List.mem_append.mp hp with hp | hp
   . obtain ⟨x',hx',y',_,z',_,e'⟩ := rowX_mem hp;rw [e'] at e; injection e with e1 _; injection e1 with e1
     exact not_take nd hx (e1 ▸ hx')
   . obtain ⟨y',hy',z',_,e'⟩ := rowY_mem hp;rw [e'] at e; injection e with _ e; injection e with e1 _; injection e1 with e1
     exact not_take nd hy (e1 ▸ hy')
 . obtain ⟨z',hz',e'⟩ := rowZ_mem hp;rw [e'] at e; injection e with _ e; injection e with _ e; injection e with e1 _; injection e1 with e1
   exact not_take nd hz (e1 ▸ hz')
theorem rowZ_snoc {F : Str -> Str -> Str -> V} {ds : List Str} {x y z : Str} {k : Nat} (h : ds[k]? = some z) : mX F x y (ds.take (k + 1)) = mX F x y (ds.take k) ++ [([.inr x,.inr y,.inr z],F x y z)] := by
 unfold mX; rw [bR h,List.map_append]; rfl
theorem rowY_snoc {F : Str -> Str -> Str -> V} {ds : List Str} {x y : Str} {j : Nat} (h : ds[j]? = some y) : lX F ds x (ds.take (j + 1)) = lX F ds x (ds.take j) ++ mX F x y ds := by
 unfold lX; rw [bR h,List.flatMap_append]; simp
theorem rowX_snoc {F : Str -> Str -> Str -> V} {ds : List Str} {x : Str} {i : Nat} (h : ds[i]? = some x) : kP F ds (ds.take (i + 1)) = kP F ds (ds.take i) ++ lX F ds x ds := by
 unfold kP; rw [bR h,List.flatMap_append]; simp
noncomputable def lat (rs : List cY) (row : List Str) (n : Nat) (d : Str) : Nat := open Classical in if h : ∃ m,jJ rs row n d m then Classical.choose h else 0
theorem jJ.eq {rs : List cY} {row : List Str} {n m : Nat} {d : Str} (h : jJ rs row n d m) : lat rs row n d = m := by
 have hx : ∃ m,jJ rs row n d m := ⟨m,h⟩
 unfold lat
 rw [dif_pos hx]
 exact (Classical.choose_spec hx).inj h
theorem lat_is {rs : List cY} {row : List Str} (hG : gG rs) (hO : Of rs row) {n : Nat} (hn : n <= row.length) (d : Str) : jJ rs row n d (lat rs row n d) := by
 obtain ⟨m,h⟩ := lat_ex hG hO hn d
 rw [h.eq]; exact h
theorem lat_le {rs : List cY} {row : List Str} (hG : gG rs) (hO : Of rs row) {n : Nat} (hn : n <= row.length) (d : Str) : lat rs row n d <= row.length := Nat.le_trans (lat_is hG hO hn d).le hn
noncomputable def fH (rs : List cY) (row : List Str) (n : Nat) (x y z : Str) : V := .int ((lat rs row (lat rs row (lat rs row n x) y) z : Nat) : Int)
def cS (H : Hp) (p : Addr) : Prop := H p = some (.tbl #[]) \/ ∃ c,H p = some (.tbl (#[] ++ #[rawInt 51,rawInt 4,.ref c])) /\ H c = some (iA c pK)
def But (p : Addr) (H H' : Hp) : Prop := ∀ b o,b ≠ p -> H b = some o -> H' b = some o
theorem But.trans {p : Addr} {H H1 H2 : Hp} (a : But p H H1) (b : But p H1 H2) : But p H H2 := λ c o n h => b c o n (a c o n h)
theorem Same.but {p : Addr} {H H' : Hp} (a : Same H H') : But p H H' := λ c o _ h => a c o h
theorem q_lat : (Str.ofString "news_at" ++ Str.ofString ".<locals>.") ++ Str.ofString "latest" = pK := by decide +kernel
theorem qual_lat {S : Nat} {cd : Value} {f : Addr} : qualnameIn (envOfC "news_at" (aG cK) S f cd) "latest" "latest" = pK := by
 unfold qualnameIn
 rw [if_neg]
 . exact q_lat
 . show ¬ ((aG cK).names.lookup (Str.ofString "latest") == some NameKind.globalExplicit) = true
   decide +kernel
abbrev cU (S : Nat) : List (Str × Addr) := [("sharing",S + 1),("row",S + 1 + 1),("downs",S + 1 + 1 + 1)]
section
variable {g5 : Addr} {gd5 : FuncData} {cc : Addr}
theorem okXC {x qual : Str} {st : Stmt} {N ps : List Str} {sp : Sp} (F : jY K x qual st f fd) (S : bI N ps (aG st)) (len : ∀ vs H Q E,sp vs H Q E -> vs.length = ps.length)
 (kH : ∀ (cdv : Value),fd.code = cdv -> ∀ (A : Around) (outer : List Env) (s : Shared) (H : Hp) (vs : List V) (Q : VK) (E : XK),dW k (A.deeper (envOfC qual (aG st) s.heap.objs.size f cdv)) -> sp vs H Q E ->
  ∃ t,PSs (cH (pY P w) P w K mg base N qual (aG st) f cdv A outer s H E) (cL st) t /\ t { nx := λ _ H' => Q .non H',rt := Q } (start N vs) H) : FnOk P w K mg base (pY P w) (k + 1) f fd ps sp := by
 obtain ⟨oc,od,kV,lV,pm,an,cdv,ct,osl,rfl,lk,qR⟩ := F.ex
 exact fn_of lk qR S len λ A outer s H vs Q E hr hsp => kH cdv rfl A outer s H vs Q E hr hsp
theorem iO.nt {x : Addr} {H H' : Hp} {rs : List cY} (h : iO C H x rs) (e : ∀ b u,(∀ ps,u ≠ HO.tbl ps) -> H b = some u -> H' b = some u) : iO C H' x rs := by
 obtain ⟨dx,tl,td,dd,aO,ds,h1,h2,h3,h4,h5,h6,h7,h8,h9⟩ := h
 exact ⟨dx,tl,td,dd,aO,ds,e _ _ (λ _ => nofun) h1,e _ _ (λ _ => nofun) h2,e _ _ (λ _ => nofun) h3,h4,h5,h6,h7,e _ _ (λ _ => nofun) h8,λ r hr => let ⟨t,zs,a,b,c⟩ := h9 r hr; ⟨t,zs,a,e _ _ (λ _ => nofun) b,c⟩⟩
theorem bC.nt {a : Addr} {H H' : Hp} {xs : List V} (h : bC K H a xs) (e : ∀ b u,(∀ ps,u ≠ HO.tbl ps) -> H b = some u -> H' b = some u) : bC K H' a xs := by
 rcases h with (h | ⟨o,h⟩) | h
 . exact .inl (.inl (e _ _ (λ _ => nofun) h))
 . exact .inl (.inr ⟨o,e _ _ (λ _ => nofun) h⟩)
 . exact .inr h
theorem trip_few {F : Str -> Str -> Str -> V} {ds : List Str} {x y : Str} {i j k : Nat} (h : ds.length <= 60) : (kP F ds (ds.take i) ++ lX F ds x (ds.take j) ++ mX F x y (ds.take k)).length < sizeLine := by
 have a : (ds.take i).length <= 60 := by rw [List.length_take]; omega
 have b : (ds.take j).length <= 60 := by rw [List.length_take]; omega
 have c : (ds.take k).length <= 60 := by rw [List.length_take]; omega
 have e1 : (ds.take i).length * (ds.length * ds.length) <= 60 * (60 * 60) := Nat.mul_le_mul a (Nat.mul_le_mul h h)
 have e2 : (ds.take j).length * ds.length <= 60 * 60 := Nat.mul_le_mul b h
 have e3 : (mX F x y (ds.take k)).length = (ds.take k).length := by unfold mX; rw [List.length_map]
 rw [List.length_append,List.length_append,rowX_len,rowY_len,e3,sizeLine_eq]
 omega
def spNews (K : W.Frag) (C CN CD pt : Addr) : Sp := λ vs H Q E => ∃ (x L : Addr) (rs : List cY) (row : List Str) (d : Str),vs = [.ref x,.ref L,.str d] /\ iO C H x rs /\ gG rs /\ bC K H L (row.map V.str) /\ row.length <= 60 /\ cS H pt /\
 (Of rs row -> d ∈ rs.flatMap (·.2) -> ∀ D (ds : List Str) H',H D = none -> But pt H H' -> cS H' pt -> ds.Nodup -> sortedS ds = true -> (∀ e,e ∈ ds ↔ ∃ r ∈ rs,e ∈ r.2) -> H' D = some (.dT (iU (fH rs row (bF rs row row.length d)) ds)) -> Q (.ref D) H') /\
 (∀ l,pX (rs.map (·.1)) row = some l -> ∀ a H',H a = none -> Same H H' -> dR H' a CN (Lt l) -> E (.ref a) none H') /\
 (Of rs row -> ∀ d',pX (rs.flatMap (·.2)) [d] = some d' -> ∀ a H',H a = none -> Same H H' -> dR H' a CD (Dk d') -> E (.ref a) none H')
theorem sc_news : bI ["sharing","row","desk","downs","last","latest","news","x","first","y","second","z"] ["sharing","row","desk"] (aG cK) := (.of rfl rfl rfl rfl (by decide +kernel))
theorem ok_news (F : jY K "news_at" "news_at" cK f fd) (B : Bt mg) (S : ShC K C) (hB : nC mg base) (hfc : fd.code = .ref cc) (hC : ∀ h,K.In h -> PySem.W.CodeHd h cc pt) (eX : FnX P w K mg base (k + 2) "refuse_letters" ["letters","row"] (spRefL K CN) g gd) (gF : FnX P w K mg base (k + 2) "refuse_desks" ["desks","group"] (spRefD K CD) g2 gd2) (iJ : Fn P w K mg base (k + 2) "history_of" ["sharing","row"] (spHis K C) g3 gd3) (G_was : Fn P w K mg base (k + 1) "was_at" ["sharing","row","desk","number"] (spWas K C) g4 gd4) :
 FnOk P w K mg base (pY P w) (k + 3) f fd ["sharing","row","desk"] (spNews K C CN CD pt) := by
 refine okXC F sc_news (λ vs H Q E h => ?_) (λ cdv hcdv A outer s H vs Q E hr h => ?_)
 . obtain ⟨x,L,rs,row,d,rfl,_⟩ := h;rfl
 obtain ⟨x,L,rs,row,d,rfl,hS,hG,hL,h60,hT,q,qe,qd⟩ := h
 rw [hfc] at hcdv
 subst hcdv
 have nd := sc_news.nd
 have hs := dA
 have hpass := pass_flyG (P := P) (w := w) (K := K) (mg := mg) (base := base) (N := ["sharing","row","desk","downs","last","latest","news","x","first","y","second","z"]) (qual := "news_at") (scope := aG cK) (f := f) (cd := .ref cc) (A := A) (outer := outer) (s0 := s) (CN := CN) (H0 := H) (E := E) (G := λ fs => ∃ n,fs = Lt n /\ pX (rs.map (·.1)) row = some n) (λ a H' fs ⟨n,e1,e2⟩ na sm fl => qe n e2 a H' na sm (e1 ▸ fl))
 have hpassD := pass_flyG (P := P) (w := w) (K := K) (mg := mg) (base := base) (N := ["sharing","row","desk","downs","last","latest","news","x","first","y","second","z"]) (qual := "news_at") (scope := aG cK) (f := f) (cd := .ref cc) (A := A) (outer := outer) (s0 := s) (CN := CD) (H0 := H) (E := E) (G := λ fs => ∃ n,fs = Dk n /\ Of rs row /\ pX (rs.flatMap (·.2)) [d] = some n) (λ a H' fs ⟨n,e1,e2,e3⟩ na sm fl => qd e2 n e3 a H' na sm (e1 ▸ fl))
 have hcode : (cH (pY P w) P w K mg base ["sharing","row","desk","downs","last","latest","news","x","first","y","second","z"] "news_at" (aG cK) f (.ref cc) A outer s H E).env.code = .ref cc := rfl
 have G_latest := ok_latest (P := P) (w := w) (K := K) (mg := mg) (base := base) (C := C) B G_was
 have hcl : ∀ n d,(n,d) ∈ cU s.heap.objs.size -> n ∈ (["downs","sharing","row"] : List Str) /\ (cH (pY P w) P w K mg base ["sharing","row","desk","downs","last","latest","news","x","first","y","second","z"] "news_at" (aG cK) f (.ref cc) A outer s H E).env.cells.lookup n = some d := by
  intro n d h
  rcases List.mem_cons.mp h with h | h
  . cases h; exact ⟨by decide +kernel,rfl⟩
  rcases List.mem_cons.mp h with h | h
  . cases h; exact ⟨by decide +kernel,rfl⟩
  . cases List.mem_singleton.mp h; exact ⟨by decide +kernel,rfl⟩
 have hcp : (cU s.heap.objs.size).Pairwise λ x y => x.2 ≠ y.2 := by
  simp only [cU,List.pairwise_cons,List.mem_cons,List.not_mem_nil,or_false,forall_eq_or_imp,forall_eq];refine ⟨⟨?_,?_⟩,?_,?_,.nil⟩
  . exact Nat.ne_of_lt (by show s.heap.objs.size + 1 < s.heap.objs.size + 1 + 1; omega)
  . exact Nat.ne_of_lt (by show s.heap.objs.size + 1 < s.heap.objs.size + 1 + 1 + 1; omega)
  . exact Nat.ne_of_lt (by show s.heap.objs.size + 1 + 1 < s.heap.objs.size + 1 + 1 + 1; omega)
  . intro _ h; cases h
 have hcf : ∀ n ∈ (["downs","sharing","row"] : List Str),∃ d,(cU s.heap.objs.size).lookup n = some d := by
  intro n h
  rcases List.mem_cons.mp h with rfl | h
  . exact ⟨_,rfl⟩
  rcases List.mem_cons.mp h with rfl | h
  . exact ⟨_,rfl⟩
  . rw [List.mem_singleton.mp h]; exact ⟨_,rfl⟩
 have hjs : Paired (λ j n => (cH (pY P w) P w K mg base ["sharing","row","desk","downs","last","latest","news","x","first","y","second","z"] "news_at" (aG cK) f (.ref cc) A outer s H E).N[j]? = some n /\ ((cH (pY P w) P w K mg base ["sharing","row","desk","downs","last","latest","news","x","first","y","second","z"] "news_at" (aG cK) f (.ref cc) A outer s H E).env.scope.names.lookup n = some .cell \/ (cH (pY P w) P w K mg base ["sharing","row","desk","downs","last","latest","news","x","first","y","second","z"] "news_at" (aG cK) f (.ref cc) A outer s H E).env.scope.names.lookup n = some .free)) [3,0,1] (["downs","sharing","row"] : List Str) :=
  .cons ⟨rfl,.inl rfl⟩ (.cons ⟨rfl,.inl rfl⟩ (.cons ⟨rfl,.inl rfl⟩ .nil))
 refine ⟨_,(aE (fL (aQ eX.ok hr rfl eX.at_ eX.kp eX.bn .nil hpass (aB (iD (pv 0) rfl) (aB (pv 1) aF)))) (aE (fL (aQ gF.ok hr rfl gF.at_ gF.kp gF.bn .nil hpassD (aB (iD (pv 0) rfl) (aB (iG (aB (pv 2) aF)) aF)))) (aE (ps_asg (aQ iJ.ok hr rfl iJ.at_ iJ.kp iJ.bn .nil bE (aB (pv 0) (aB (pv 1) aF))) (iE rfl (bW (aP (i := 3) nd rfl (Or.inr rfl)) (bW (aP (i := 4) nd rfl (Or.inl rfl)) fJ)))) (aE (ps_def (i := 5) (clos := cU s.heap.objs.size) hB hcode hC nd rfl (Or.inl rfl) rfl qual_lat) (aE (aS (i := 6) nd rfl (Or.inl rfl) pe_dnewT) (aE (dC PassesOwn.leaving rfl (fZ (iD (pv 0) rfl)) (aP (i := 7) nd rfl (Or.inl rfl)) (aE (aS (i := 8) nd rfl (Or.inl rfl) (pe_callI (i := 5) (js := [3,0,1]) G_latest hr bE rfl (Or.inl rfl) hcl hcp hcf hjs (aB (pv 7) (aB (jK (iB hr) (pv 4) (pv 2) (λ _ _ => rfl)) aF)))) (aK (dC PassesOwn.leaving rfl (fZ (iD (pv 0) rfl)) (aP (i := 9) nd rfl (Or.inl rfl)) (aE (aS (i := 10) nd rfl (Or.inl rfl) (pe_callI (i := 5) (js := [3,0,1]) G_latest hr bE rfl (Or.inl rfl) hcl hcp hcf hjs (aB (pv 9) (aB (pv 8) aF)))) (aK (dC PassesOwn.leaving rfl (fZ (iD (pv 0) rfl)) (aP (i := 11) nd rfl (Or.inl rfl)) (aK (mS (iB hr) (pv 6) (fP (aB (pv 7) (aB (pv 9) (aB (pv 11) aF)))) (pe_callI (i := 5) (js := [3,0,1]) G_latest hr bE rfl (Or.inl rfl) hcl hcp hcf hjs (aB (pv 11) (aB (pv 10) aF))) rfl))))))))) (aK (bN (pv 6))))))))),?_⟩
 try dsimp only [cH,Cx.nox,Cx.wish]
 refine lats7 ?_
 intro D0 σ0 U7 U6 U5 U4 U3 U2
 obtain ⟨dx,tl,td,dd,aO,ds,h1,h2,h3,h4,h5,h6,h7,h8,h9⟩ := id hS
 have hbd : pX ds [d] = pX (rs.flatMap (·.2)) [d] := bad_congr λ d => by rw [h7 d,List.mem_flatMap]
 refine ⟨_,rfl,x,C,dx,_,_,rfl,h1,S.cls,S.n1,rfl,_,rfl,tl,L,_,row,rfl,dM.of h2,hL,λ hb1 H1 x1 => ?_,λ l hb a H' na sm fl => ⟨a,rfl,na,sm,_,fl,l,rfl,hb⟩⟩
 have hO : Of rs row := eV.mp hb1
 refine ⟨_,rfl,x,C,dx,_,_,rfl,x1 _ _ h1,S.cls,S.n2,rfl,_,rfl,gH (show 1 <= 1000 by decide),λ pl oE => ?_⟩
 have xl : Same H1 (aL H1 pl (.lst [.str d])) := aN oE
 have kl : aL H1 pl (.lst [.str d]) pl = some (.lst ([d].map V.str)) := aC
 generalize aL H1 pl (.lst [.str d]) = H1' at xl kl ⊢
 have y1 := x1.trans xl
 refine ⟨td,pl,ds,[d],rfl,dM.of (y1 _ _ h3),bC.of kl,λ hb2 H2 x2 => ?_,λ d' hb a H' na sm fl => ⟨a,rfl,y1.free na,y1.trans sm,_,fl,d',rfl,hO,by rw [<- hbd]; exact hb⟩⟩
 have hdd : d ∈ rs.flatMap (·.2) := by
  rw [hbd] at hb2;exact eV.mp hb2 d List.mem_cons_self
 have hdr : ∃ r ∈ rs,d ∈ r.2 := List.mem_flatMap.mp hdd
 have y2 := y1.trans x2
 refine ⟨_,rfl,_,rfl,x,L,rs,row,rfl,hS.same y2,hG,y2.seq hL,hO,h60,λ T dn la lN H3 x3 kT I3 => ⟨T,_,rfl,dM.of kT,rfl,_,_,rfl,_,_,rfl,rfl,?_⟩⟩
 have y3 := y2.trans x3
 have hT3 : cS H3 pt := by
  rcases hT with h | ⟨c,h,hc⟩
  . exact .inl (y3 _ _ h)
  . exact .inr ⟨c,y3 _ _ h,y3 _ _ hc⟩
 have tail : ∀ (c fl : Addr) (o : Obj) (H4 : Hp),But pt H3 H4 -> cS H4 pt -> H4 fl = some (FnO fl o) -> H4 c = some (iA c pK) -> FnIs "latest" pK (dZ dQ) (cL dQ) (aG dQ) (cU s.heap.objs.size) c o -> U5 D0 [some (.ref x),some (.ref L),some (.str d),some (.ref dn),some (.ref la),some (.ref fl),none,none,none,none,none,none] H4 := λ c fl o H4 x4 t4 f4 c4 hF => by
  have nt : ∀ b u,(∀ ps,u ≠ HO.tbl ps) -> H3 b = some u -> H4 b = some u := λ b u hu h => x4 b u (λ z => by subst z; rcases hT3 with k | ⟨_,k,_⟩ <;> (rw [k] at h; exact hu _ (Option.some.inj h).symm)) h;have hS4 : iO C H4 x rs := (hS.same y3).nt nt;have hL4 : bC K H4 L (row.map V.str) := bC.nt (y3.seq hL) nt;have hI4 : DnI rs row H4 dn lN := ⟨nt _ _ (λ _ => nofun) I3.d,I3.len,λ k p e => let ⟨ns,a,b⟩ := I3.ok k p e; ⟨ns,nt _ _ (λ _ => nofun) a,b⟩⟩;obtain ⟨pO,l1,_,l3⟩ := I3.l;have la4 : H4 la = some (.dK pO) := nt _ _ (λ _ => nofun) l1;have hv := l3 d hdr;have x0 : H4 x = some (.ins C dx [("letters",.ref tl),("desks",.ref td),("desks_at",.ref dd)]) := nt _ _ (λ _ => nofun) (y3 _ _ h1);have td0 : H4 td = some (.tup (ds.map V.str)) := nt _ _ (λ _ => nofun) (y3 _ _ h3);have hfo : ∃ fd,o.data = .func fd := by
   obtain ⟨_,_,_,rfl⟩ := hF;exact ⟨_,rfl⟩
  have n0 : bF rs row row.length d <= row.length := hZ rs row d row.length;have call : ∀ {σ : L2.St} {H' : Hp} (y : Same H4 H') (e : Str) (n : Nat) (Qc : VK),n <= row.length -> σ[3]? = some (some (.ref dn)) -> σ[0]? = some (some (.ref x)) -> σ[1]? = some (some (.ref L)) -> (∀ H2,Same H' H2 -> Qc (.int ((lat rs row n e : Nat) : Int)) H2) ->
   ∃ c o pG,H' fl = some (FnO fl o) /\ FnIs "latest" pK (dZ dQ) (cL dQ) (aG dQ) (cU s.heap.objs.size) c o /\ H' c = some (iA c pK) /\ Paired (λ j v => σ[j]? = some (some v)) [3,0,1] pG /\ spLat K C pG [.str e,.int n] H' Qc E0 :=
   λ {σ H'} y e n Qc hn a1 a2 a3 hq => ⟨_,o,[.ref dn,.ref x,.ref L],y _ _ f4,hF,y _ _ c4,.cons a1 (.cons a2 (.cons a3 .nil)),dn,x,L,rs,row,lN,e,n,rfl,rfl,hS4.same y,hG,y.seq hL4,hO,h60,⟨y _ _ hI4.d,hI4.len,λ k p e => let ⟨ns,a,b⟩ := hI4.ok k p e; ⟨ns,y _ _ a,b⟩⟩,hn,λ m H2 hm y2 => by rw [<- hm.eq]; exact hq H2 y2⟩
  have z4 : But pt H H4 := λ b u nb h => x4 b u nb (y3 _ _ h);refine λ nw hnw => ?_;have k5 : aL H4 nw (.dT []) nw = some (.dT (kP (fH rs row (bF rs row row.length d)) ds (ds.take 0))) := by rw [aC,List.take_zero]; rfl
  have x5 : Same H4 (aL H4 nw (.dT [])) := aN hnw;generalize aL H4 nw (.dT []) = H5 at k5 x5 ⊢;refine ⟨_,rfl,x,C,dx,_,_,rfl,x5 _ _ x0,S.cls,S.n2,rfl,td,rfl,⟨_,dM.of (x5 _ _ td0)⟩,jG (xs := ds.map V.str) (λ i σ H' => ∃ v7 v8 v9 pE kM : Option V,σ = [some (.ref x),some (.ref L),some (.str d),some (.ref dn),some (.ref la),some (.ref fl),some (.ref nw),v7,v8,v9,pE,kM] /\ H' nw = some (.dT (kP (fH rs row (bF rs row row.length d)) ds (ds.take i))) /\ Same H4 H') ?_ ?_ ?_ ?_⟩
  . exact ⟨_,_,_,_,_,rfl,k5,x5⟩
  . rintro i σ H6 _ ⟨_,_,_,_,_,_,_,x6⟩;exact dM.of (x6 _ _ td0)
  . rintro i y σ H6 hy ⟨v7,v8,v9,pE,kM,rfl,k6,x6⟩;rw [List.getElem?_map] at hy;obtain ⟨xx,hxx,rfl⟩ := Option.map_eq_some_iff.mp hy;have gla : jC H6 la (.str d) (some (.int ((bF rs row row.length d : Nat) : Int))) := by rw [<- hv]; exact jC.k (k := .inr d) (x6 _ _ la4)
    refine ⟨fl,o,rfl,x6 _ _ f4,hfo,_,rfl,_,rfl,_,rfl,la,_,rfl,gla,call x6 xx _ _ n0 rfl rfl rfl λ H7 x7 => ?_⟩;refine ⟨_,rfl,x,C,dx,_,_,rfl,x7 _ _ (x6 _ _ x0),S.cls,S.n2,rfl,td,rfl,⟨_,dM.of (x7 _ _ (x6 _ _ td0))⟩,jG (xs := ds.map V.str) (λ j σ H' => ∃ v9 pE kM : Option V,σ = [some (.ref x),some (.ref L),some (.str d),some (.ref dn),some (.ref la),some (.ref fl),some (.ref nw),some (.str xx),some (.int ((lat rs row (bF rs row row.length d) xx : Nat) : Int)),v9,pE,kM] /\ H' nw = some (.dT (kP (fH rs row (bF rs row row.length d)) ds (ds.take i) ++ lX (fH rs row (bF rs row row.length d)) ds xx (ds.take j))) /\ Same H4 H') ?_ ?_ ?_ ?_⟩
    . exact ⟨_,_,_,rfl,by rw [List.take_zero]; show H7 nw = some (.dT (_ ++ [])); rw [List.append_nil]; exact x7 _ _ k6,x6.trans x7⟩
    . rintro j σ H8 _ ⟨_,_,_,_,_,x8⟩;exact dM.of (x8 _ _ td0)
    . rintro j y σ H8 hy ⟨v9,pE,kM,rfl,k8,x8⟩;rw [List.getElem?_map] at hy;obtain ⟨yy,hyy,rfl⟩ := Option.map_eq_some_iff.mp hy;have n1 := lat_le hG hO n0 xx;refine ⟨fl,o,rfl,x8 _ _ f4,hfo,_,rfl,_,rfl,call x8 yy _ _ n1 rfl rfl rfl λ H9 x9 => ?_⟩;have n2 := lat_le hG hO n1 yy;refine ⟨_,rfl,x,C,dx,_,_,rfl,x9 _ _ (x8 _ _ x0),S.cls,S.n2,rfl,td,rfl,⟨_,dM.of (x9 _ _ (x8 _ _ td0))⟩,jG (xs := ds.map V.str) (λ k σ H' => ∃ kM : Option V,σ = [some (.ref x),some (.ref L),some (.str d),some (.ref dn),some (.ref la),some (.ref fl),some (.ref nw),some (.str xx),some (.int ((lat rs row (bF rs row row.length d) xx : Nat) : Int)),some (.str yy),some (.int ((lat rs row (lat rs row (bF rs row row.length d) xx) yy : Nat) : Int)),kM] /\ H' nw = some (.dT (kP (fH rs row (bF rs row row.length d)) ds (ds.take i) ++ lX (fH rs row (bF rs row row.length d)) ds xx (ds.take j) ++ mX (fH rs row (bF rs row row.length d)) xx yy (ds.take k))) /\ Same H4 H') ?_ ?_ ?_ ?_⟩
      . exact ⟨_,rfl,by rw [List.take_zero]; show H9 nw = some (.dT (_ ++ [])); rw [List.append_nil]; exact x9 _ _ k8,x8.trans x9⟩
      . rintro k σ Ha _ ⟨_,_,_,xa⟩;exact dM.of (xa _ _ td0)
      . rintro k y σ Ha hy ⟨kM,rfl,ka,xa⟩;rw [List.getElem?_map] at hy;obtain ⟨zz,hzz,rfl⟩ := Option.map_eq_some_iff.mp hy;refine ⟨fl,o,rfl,xa _ _ f4,hfo,_,rfl,_,rfl,call xa zz _ _ n2 rfl rfl rfl λ Hb xb => ?_⟩;refine ⟨_,rfl,_,rfl,_,rfl,_,rfl,gH (show 3 <= 1000 by decide),λ tt htt => ⟨nw,_,rfl,rA.t (k := [.inr xx,.inr yy,.inr zz]) (by rw [aH (aD (xb _ _ ka) htt)]; exact xb _ _ ka) aC (trip_few h6),?_⟩⟩;refine ⟨_,rfl,?_,λ b u h => ?_⟩
        . rw [aC,trip_new h5 hxx hyy hzz,rowZ_snoc hzz,List.append_assoc]; rfl
        . rw [aH (aD h hnw),aH (aD (xb _ _ (xa _ _ h)) htt)];exact xb _ _ (xa _ _ h)
      . rintro σ Ha ⟨kM,rfl,ka,xa⟩;rw [List.length_map,List.take_length] at ka;exact ⟨_,_,_,rfl,by rw [rowY_snoc hyy,<- List.append_assoc]; exact ka,xa⟩
    . rintro σ H8 ⟨v9,pE,kM,rfl,k8,x8⟩;rw [List.length_map,List.take_length] at k8;exact ⟨_,_,_,_,_,rfl,by rw [rowX_snoc hxx]; exact k8,x8⟩
  . rintro σ H6 ⟨v7,v8,v9,pE,kM,rfl,k6,x6⟩;rw [List.length_map,List.take_length] at k6;refine ⟨_,rfl,q hO hdd nw ds H6 ?_ (λ b u nb h => x6 _ _ (z4 b u nb h)) ?_ h5 h4 h7 k6⟩
    . cases e : H nw with
      | none => rfl
      | some u =>
       by_cases hn : nw = pt
       . rcases t4 with t | ⟨_,t,_⟩ <;> (rw [<- hn,hnw] at t; cases t)
       . rw [z4 nw u hn e] at hnw; cases hnw
    . rcases t4 with t | ⟨c1,t,tc⟩
      . exact .inl (x6 _ _ t)
      . exact .inr ⟨c1,x6 _ _ t,x6 _ _ tc⟩
 rcases hT3 with hT3 | ⟨c0,hT3,hc0⟩
 . refine ⟨#[],hT3,trivial,.inl ⟨rfl,λ c fl o nc nf ncf hF => ?_⟩⟩;have npt : ∀ {b : Addr},H3 b = none -> b ≠ pt := λ h z => by rw [z,hT3] at h; cases h
   have x4 : But pt H3 (aL (aL (aL H3 pt (.tbl (#[] ++ #[rawInt 51,rawInt 4,.ref c]))) c (iA c pK)) fl (FnO fl o)) := λ b u nb h => by
    rw [aH (aD h nf),aH (aD h nc),aH nb]; exact h
   have t4 : cS (aL (aL (aL H3 pt (.tbl (#[] ++ #[rawInt 51,rawInt 4,.ref c]))) c (iA c pK)) fl (FnO fl o)) pt :=
    .inr ⟨c,by rw [aH (npt nf).symm,aH (npt nc).symm,aC],by rw [aH ncf,aC]⟩
   have f4 : aL (aL (aL H3 pt (.tbl (#[] ++ #[rawInt 51,rawInt 4,.ref c]))) c (iA c pK)) fl (FnO fl o) fl = some (FnO fl o) := aC;have c4 : aL (aL (aL H3 pt (.tbl (#[] ++ #[rawInt 51,rawInt 4,.ref c]))) c (iA c pK)) fl (FnO fl o) c = some (iA c pK) := by rw [aH ncf,aC]
   exact tail c fl o _ x4 t4 f4 c4 hF
 . refine ⟨_,hT3,trivial,.inr ⟨c0,rfl,hc0,λ fl o nf hF => ?_⟩⟩;have x4 : But pt H3 (aL H3 fl (FnO fl o)) := λ b u nb h => by rw [aH (aD h nf)]; exact h
   have t4 : cS (aL H3 fl (FnO fl o)) pt := .inr ⟨c0,by rw [aH (aD hT3 nf)]; exact hT3,by rw [aH (aD hc0 nf)]; exact hc0⟩;have f4 : aL H3 fl (FnO fl o) fl = some (FnO fl o) := aC;have c4 : aL H3 fl (FnO fl o) c0 = some (iA c0 pK) := by rw [aH (aD hc0 nf)]; exact hc0
   exact tail c0 fl o _ x4 t4 f4 c4 hF
end
abbrev iP : Stmt := top 27
def DAt (H : Hp) (p : Addr) (kv : List (bP × V)) : Prop := H p = some (.dK kv) \/ ∃ o,H p = some (.frz o (.dK kv))
structure qF (rs : List cY) (row : List Str) (H : Hp) (U : Addr) (us : List Addr) : Prop where
 u : H U = some (.lst (us.map V.ref))
 len : us.length = row.length + 1
 ok : ∀ k p,us[k]? = some p -> ∃ kv,DAt H p kv /\ UV rs row k kv
def ButL (us : List Addr) (H H' : Hp) : Prop := ∀ b o,b ∉ us -> H b = some o -> H' b = some o
theorem qF.nin {rs : List cY} {row : List Str} {H : Hp} {U : Addr} {us : List Addr} (h : qF rs row H U us) {b : Addr} {o : HO} (e : H b = some o) (h1 : ∀ kv,o ≠ .dK kv) (h2 : ∀ u kv,o ≠ .frz u (.dK kv)) : b ∉ us := λ hm => by
 obtain ⟨k,hk⟩ := List.getElem?_of_mem hm
 obtain ⟨kv,hd | ⟨u,hd⟩,_⟩ := h.ok k b hk
 . rw [e] at hd; cases hd; exact h1 kv rfl
 . rw [e] at hd; cases hd; exact h2 u kv rfl
theorem keepsL {D p mt R : Addr} {o : Obj} {Q : VK} {H1 : Hp} {rs : List cY} {row : List Str} {d : Str} {n : Nat} {kv aO : List (bP × V)} (hG : gG rs) (hO : Of rs row) (hV : UV rs row n kv) (hn : n <= row.length) (h100 : row.length <= 100) (hp : H1 p = some (.frz o (.dK kv))) (hm : H1 mt = some (.dK aO)) (hR : H1 R = some (.lst (row.map V.str))) (hM : MeetD H1 aO rs) (hD : H1 D = none)
 (oG : ∀ H' (ks : List Int),Same H1 H' -> H' D = some (.lst (ks.map V.int)) -> (∀ z,z ∈ ks ↔ ∃ j : Nat,z = (j : Int) /\ Und rs row n j /\ AtD rs row d j) -> Q (.ref D) H') :
 cG (Itd p o kv) D (bO 0) (tOr (lR (iC rEq (aU 0) (tC (.int 0)))) (lR (iC (rIn K false) (aU 1) (tDGet (aU 2) (iC (nG K) (aU 3) (iC (rI0 λ i j => .int (i - j)) (aU 0) (tC (.int 1)))))))) (aU 0) Q [none,some (.str d),some (.ref mt),some (.ref R)] H1 := by
 have few := hV.few
 refine comp_dict (λ i zs σ H => ∃ (v : Option V) (ks : List Int),zs = ks.map V.int /\ ks.length <= i /\ σ = [v,some (.str d),some (.ref mt),some (.ref R)] /\ (∀ z,z ∈ ks ↔ (Sum.inl z : bP) ∈ (kv.map (·.1)).take i /\ ∃ j : Nat,z = (j : Int) /\ AtD rs row d j) /\ Same H1 H) ?_ (by omega) ?_ ?_ ?_ ?_
 . exact ⟨none,[],rfl,Nat.le_refl _,rfl,(λ z => by rw [List.take_zero]; simp),aN hD⟩
 . rintro i zs σ H ⟨v,ks,rfl,hi,_⟩;rw [List.length_map]; exact hi
 . rintro i zs σ H ⟨v,ks,_,_,_,_,y⟩;exact y _ _ hp
 . rintro i e zs σ H he gK ⟨v,ks,rfl,hi,rfl,hk,y1⟩;have he' : (kv.map (·.1))[i]? = some e.1 := by rw [List.getElem?_map,he]; rfl
   obtain ⟨jz,ez,uz⟩ := (hV.mem e.1).mp (List.mem_of_getElem? he');rw [ez] at he' ⊢;have hjz : jz <= row.length := Nat.le_trans (kS uz) hn;have eO : ∀ b : Bool,(b = true ↔ AtD rs row d jz) -> (if b = true then aU 0 ([v,some (.str d),some (.ref mt),some (.ref R)].set 0 (some (.int (jz : Int)))) H λ v H4 => H4 D = some (.lst (ks.map V.int)) /\ ∃ (v' : Option V) (ks' : List Int),ks.map V.int ++ [v] = ks'.map V.int /\ ks'.length <= i + 1 /\ [some (V.int (jz : Int)),some (.str d),some (.ref mt),some (.ref R)] = [v',some (.str d),some (.ref mt),some (.ref R)] /\ (∀ z,z ∈ ks' ↔ (Sum.inl z : bP) ∈ (kv.map (·.1)).take (i + 1) /\ ∃ j : Nat,z = (j : Int) /\ AtD rs row d j) /\ Same H1 (aL H4 D (.lst (ks.map V.int ++ [v])))
    else H D = some (.lst (ks.map V.int)) /\ ∃ (v' : Option V) (ks' : List Int),ks.map V.int = ks'.map V.int /\ ks'.length <= i + 1 /\ [some (V.int (jz : Int)),some (.str d),some (.ref mt),some (.ref R)] = [v',some (.str d),some (.ref mt),some (.ref R)] /\ (∀ z,z ∈ ks' ↔ (Sum.inl z : bP) ∈ (kv.map (·.1)).take (i + 1) /\ ∃ j : Nat,z = (j : Int) /\ AtD rs row d j) /\ Same H1 H) := λ b hb => by
    cases b with
    | true =>
     refine iteT ⟨_,rfl,gK,_,ks ++ [(jz : Int)],by rw [List.map_append]; rfl,by rw [List.length_append]; show ks.length + 1 <= _; omega,rfl,λ z => ?_,y1.at hD⟩;rw [bR he',List.mem_append,List.mem_append,hk z]
     constructor
     . rintro (h | h)
       . exact ⟨.inl h.1,h.2⟩
       . rw [List.mem_singleton.mp h]; exact ⟨.inr List.mem_cons_self,jz,rfl,hb.mp rfl⟩
     . rintro ⟨h | h,h2⟩
       . exact .inl ⟨h,h2⟩
       . have := Sum.inl.inj (List.mem_singleton.mp h);exact .inr (by rw [this]; exact List.mem_cons_self)
    | false =>
     refine kL ⟨gK,_,ks,rfl,by omega,rfl,λ z => ?_,y1⟩;rw [bR he',List.mem_append,hk z]
     constructor
     . exact λ h => ⟨.inl h.1,h.2⟩
     . rintro ⟨h | h,j',e',h2⟩
       . exact ⟨h,j',e',h2⟩
       . have := Sum.inl.inj (List.mem_singleton.mp h);have : jz = j' := by omega
         subst this;have := hb.mpr h2;cases this
   refine ⟨_,rfl,rfl,_,rfl,?_⟩;refine kW (λ c => ?_) (λ c => ?_)
   . have c : kV (Sum.inl (jz : Int)) = V.int 0 := by simpa using c
     have c : (jz : Int) = 0 := V.int.inj c;exact eO true ⟨λ _ => .inl (by omega),λ _ => rfl⟩
   . have c : ¬ kV (Sum.inl (jz : Int)) = V.int 0 := by simpa using c
     have c : ¬ (jz : Int) = 0 := λ z => c (congrArg V.int z);have hi' : jz - 1 < row.length := by omega
     have hl : row[jz - 1]? = some row[jz - 1] := List.getElem?_eq_getElem hi';obtain ⟨r,hW,er⟩ := List.mem_map.mp (hO _ (List.getElem_mem hi'));obtain ⟨t1,a1,a2⟩ := hM r hW;have b1 : jC H mt (.str r.1) (some (.ref t1)) := by rw [<- a1]; exact jC.k (k := .inr r.1) (y1 _ _ hm)
     have oA : oB (row.map V.str) ((jz : Int) - 1) = some (.str r.1) := by
      rw [er,show (jz : Int) - 1 = ((jz - 1 : Nat) : Int) by omega];exact bT (by rw [List.getElem?_map,hl]; rfl)
     refine ⟨_,rfl,_,rfl,_,rfl,_,rfl,_,_,rfl,rfl,R,_,_,_,rfl,rfl,bC.of (y1 _ _ hR),oA,mt,_,rfl,b1,t1,_,rfl,.inr (dM.of (y1 _ _ a2)),rfl,eF _,_,rfl,eO _ ?_⟩;rw [if_neg (by decide),inV_mem]
     constructor
     . intro h;refine .inr ⟨_,hl,?_⟩;rw [<- er,fQ hG.nd hW]; exact h
     . rintro (h | ⟨l,h1,h2⟩)
       . omega
       . rw [hl] at h1;cases h1;rw [<- er,fQ hG.nd hW] at h2; exact h2
 . rintro zs σ H gK ⟨v,ks,rfl,hi,_,hk,y1⟩;rw [List.take_of_length_le (by rw [List.length_map]; exact Nat.le_refl _)] at hk;refine oG H ks y1 gK λ z => ?_;rw [hk z,hV.mem]
   constructor
   . rintro ⟨⟨j2,e2,u⟩,j',e',h2⟩;have e2 := Sum.inl.inj e2;have : j2 = j' := by omega
     subst this;exact ⟨j2,e2,u,h2⟩
   . rintro ⟨j',e',u,h2⟩;exact ⟨⟨j',by rw [e'],u⟩,j',e',h2⟩
def spLLat : Sp := λ vs H Q _ => ∃ (L R U : Addr) (rs : List cY) (row : List Str) (us : List Addr) (n : Nat) (d : Str),vs = [.ref L,.ref R,.ref U,.int n,.str d] /\ cI H L rs /\ gG rs /\ H R = some (.lst (row.map V.str)) /\ Of rs row /\ row.length <= 100 /\ qF rs row H U us /\ n <= row.length /\
 ∀ (m : Nat) H',jJ rs row n d m -> ButL us H H' -> qF rs row H' U us -> Q (.int m) H'
theorem sc_llat : bI ["_law_rows","_law_row_here","_law_under_here","_law_meeting","_law_desk","_law_meet"] ["_law_rows","_law_row_here","_law_under_here","_law_meeting","_law_desk"] (aG iP) := (.of rfl rfl rfl rfl (by decide +kernel))
theorem ok_llat (F : jY K "_law_latest" "_law_latest" iP f fd) (B : Bt mg) : FnOk P w K mg base gO (k + 1) f fd ["_law_rows","_law_row_here","_law_under_here","_law_meeting","_law_desk"] spLLat := by
 refine F.ok sc_llat (λ vs H Q E h => ?_) (λ cdv A outer s H vs Q E hr h => ?_)
 . obtain ⟨L,R,U,rs,row,us,n,d,rfl,_⟩ := h;rfl
 obtain ⟨L,R,U,rs,row,us,n,d,rfl,hL,hG,hR,hO,h100,hU,hn,q⟩ := h
 have nd := sc_llat.nd
 obtain ⟨ts,hLt,hT⟩ := id hL
 obtain ⟨aO,p1,p2,p3⟩ := nM hT hG.nd
 refine ⟨_,(aE (aS (i := 5) nd rfl (Or.inr rfl) (cX (call_dictL rfl) rfl B.dict_ (by decide +kernel) (aB (pv 0) aF))) (aK (bN (aZ (call_maxL rfl) rfl B.max_ (by decide +kernel) (aB (dX (g := (bO 0)) (tc := (tOr (lR (iC rEq (aU 0) (tC (.int 0)))) (lR (iC (rIn K false) (aU 1) (tDGet (aU 2) (iC (nG K) (aU 3) (iC (rI0 λ i j => .int (i - j)) (aU 0) (tC (.int 1))))))))) (te := (aU 0)) (own := ["_law_k"]) (fr := ["_law_desk","_law_meet","_law_row_here"]) (idx := [4,5,1]) rfl (by show aV _ _ _ (aG iP); exact (.of rfl (by decide +kernel))) (pi_dictZ (cN bS (pv 2) (pv 3) (λ _ _ => rfl))) (λ _ _ _ _ _ => (aP (i := 0) (by show List.Nodup (["_law_k","_law_desk","_law_meet","_law_row_here"] : List Str); decide +kernel) rfl (Or.inl rfl) (Or.inr rfl))) (λ _ _ _ _ _ => oW (PW.pt (pw_or (bX op_eq (pv 0) aJ (eD _)) (pw_or1 (bX mI (pv 1) (jK (iB hr) (pv 2) (cN bS (pv 3) (aW op_sub (pv 0) aJ) (λ _ _ => rfl)) (λ _ _ => rfl)) rfl))))) (λ _ _ _ _ _ => (pv 0)) rfl (dO rfl)) aF))))),?_⟩
 try dsimp only [cH,Cx.nox,Cx.wish]
 refine lats2 ?_
 intro D0 σ0 U2
 refine ⟨_,rfl,L,ts,aO,rfl,hLt,p1,by rw [p2]; exact hG.nd,λ mt hmt => ?_⟩
 have x1 : Same H (aL H mt (.dK (gY aO))) := aN hmt
 have k1 : aL H mt (.dK (gY aO)) mt = some (.dK (gY aO)) := aC
 generalize aL H mt (.dK (gY aO)) = H1 at x1 k1 ⊢
 have hp : us[n]? = some (us[n]'(by rw [hU.len]; omega)) := List.getElem?_eq_getElem _
 generalize us[n]'(by rw [hU.len]; omega) = p at hp
 have pm : p ∈ us := List.mem_of_getElem? hp
 obtain ⟨kv,hd,hV⟩ := hU.ok n p hp
 have same_un : ∀ {H' : Hp},Same H H' -> qF rs row H' U us := λ {H'} y => ⟨y _ _ hU.u,hU.len,λ k p e => let ⟨kv,a,b⟩ := hU.ok k p e; ⟨kv,a.imp (λ h => y _ _ h) λ ⟨o,h⟩ => ⟨o,y _ _ h⟩,b⟩⟩
 have end_ : ∀ {H' : Hp} {D : Addr} {ks : List Int},H' D = some (.lst (ks.map V.int)) -> (∀ z,z ∈ ks ↔ ∃ j : Nat,z = (j : Int) /\ Und rs row n j /\ AtD rs row d j) -> ButL us H H' -> qF rs row H' U us -> rMaxL K [.ref D] H' Q := λ {H' D ks} hk hm hb hu => by
  refine ⟨D,ks,rfl,bC.of hk,?_,λ m h1 h2 => ?_⟩
  . have h0 : (0 : Int) ∈ ks := (hm 0).mpr ⟨0,rfl,und_all hG hO n hn,.inl rfl⟩;exact λ z => by rw [z] at h0; cases h0
  . obtain ⟨j,rfl,hj⟩ := lat_of hm h1 h2;exact q j H' hj hb hu
 have oA : oB (us.map V.ref) (n : Int) = some (.ref p) := bT (by rw [List.getElem?_map,hp]; rfl)
 refine ⟨_,rfl,_,rfl,U,_,_,_,rfl,rfl,bC.of (x1 _ _ hU.u),oA,p,kv,rfl,?_⟩
 rcases hd with hd | ⟨o,hd⟩
 . refine .inl ⟨x1 _ _ hd,λ o => ?_⟩;have kp : aL H1 p (.frz o (.dK kv)) p = some (.frz o (.dK kv)) := aC;have hd1 := x1 _ _ hd;have xp : ∀ b u,b ≠ p -> H1 b = some u -> aL H1 p (.frz o (.dK kv)) b = some u := λ b u nb h => by rw [aH nb]; exact h
   have nm : mt ≠ p := Ne.symm (aD hd hmt);generalize aL H1 p (.frz o (.dK kv)) = H2 at kp xp ⊢;refine λ D hD => keepsL (K := K) hG hO hV hn h100 kp (xp _ _ nm k1) (xp _ _ (cO (x1 _ _ hR) hd1 (λ z => nomatch z)) (x1 _ _ hR)) (λ r hr => let ⟨t,a,b⟩ := p3 r hr; ⟨t,a,xp _ _ (cO (x1 _ _ b) hd1 (λ z => nomatch z)) (x1 _ _ b)⟩) hD λ H' ks y hk hm => end_ hk hm (λ b u nb h => y _ _ (xp _ _ (λ z => nb (z ▸ pm)) (x1 _ _ h))) ⟨y _ _ (xp _ _ (cO (x1 _ _ hU.u) hd1 (λ z => nomatch z)) (x1 _ _ hU.u)),hU.len,λ k2 p2 e2 => ?_⟩
   by_cases e : p2 = p
   . obtain ⟨kv2,a2,b2⟩ := hU.ok k2 p2 e2;have : kv2 = kv := by
      rcases a2 with a2 | ⟨o2,a2⟩
      . rw [e,hd] at a2; cases a2; rfl
      . rw [e,hd] at a2; cases a2
     subst this;exact ⟨kv2,.inr ⟨o,by rw [e]; exact y _ _ kp⟩,b2⟩
   . obtain ⟨kv2,a2,b2⟩ := hU.ok k2 p2 e2;exact ⟨kv2,a2.imp (λ h => y _ _ (xp _ _ e (x1 _ _ h))) λ ⟨o,h⟩ => ⟨o,y _ _ (xp _ _ e (x1 _ _ h))⟩,b2⟩
 . refine .inr ⟨o,x1 _ _ hd,λ D hD => keepsL (K := K) hG hO hV hn h100 (x1 _ _ hd) k1 (x1 _ _ hR) (λ r hr => let ⟨t,a,b⟩ := p3 r hr; ⟨t,a,x1 _ _ b⟩) hD λ H' ks y hk hm => end_ hk hm (λ b u _ h => y _ _ (x1 _ _ h)) (same_un (x1.trans y))⟩
abbrev jW : Stmt := top 28
def spTri : Sp := λ vs H Q _ => ∃ (L R : Addr) (rs : List cY) (row : List Str) (d : Str),vs = [.ref L,.ref R,.str d] /\ cI H L rs /\ gG rs /\ H R = some (.lst (row.map V.str)) /\ Of rs row /\ row.length <= 100 /\ (∃ r ∈ rs,d ∈ r.2) /\
 ∀ D (ds : List Str) H',H D = none -> Same H H' -> ds.Nodup -> sortedS ds = true -> (∀ e,e ∈ ds ↔ ∃ r ∈ rs,e ∈ r.2) -> H' D = some (.dT (iU (fH rs row (bF rs row row.length d)) ds)) -> Q (.ref D) H'
theorem sc_tri : bI ["_law_rows","_law_row_here","_law_desk","_law_under_here","_law_last","_law_desks_here","_law_found","_law_x","_law_one","_law_y","_law_two","_law_z"] ["_law_rows","_law_row_here","_law_desk"] (aG jW) := (.of rfl rfl rfl rfl (by decide +kernel))
theorem ok_tri (F : jY K "_law_triples" "_law_triples" jW f fd) (B : Bt mg) (iN : Fn P w K mg base k "_law_under" ["_law_rows","_law_row_here"] spUnder g gd) (aY : Fn P w K mg base k "_law_desks" ["_law_rows"] jZ g2 gd2) (bY : Fn P w K mg base k "_law_latest" ["_law_rows","_law_row_here","_law_under_here","_law_meeting","_law_desk"] spLLat g3 gd3) : FnOk P w K mg base gO (k + 1) f fd ["_law_rows","_law_row_here","_law_desk"] spTri := by
 refine F.ok sc_tri (λ vs H Q E h => ?_) (λ cdv A outer s H vs Q E hr h => ?_)
 . obtain ⟨L,R,rs,row,d,rfl,_⟩ := h;rfl
 obtain ⟨L,R,rs,row,d,rfl,hL,hG,hR,hO,h100,hdr,q⟩ := h
 have nd := sc_tri.nd
 have l6 := hG.len
 refine ⟨_,(aE (ps_asg (aQ iN.ok hr rfl iN.at_ iN.kp iN.bn .nil bE (aB (pv 0) (aB (pv 1) aF))) (iE rfl (bW (aP (i := 3) nd rfl (Or.inl rfl)) (bW (aP (i := 4) nd rfl (Or.inl rfl)) fJ)))) (aE (aS (i := 5) nd rfl (Or.inl rfl) (aQ aY.ok hr rfl aY.at_ aY.kp aY.bn .nil bE (aB (pv 0) aF))) (aE (aS (i := 6) nd rfl (Or.inl rfl) pe_dnewT) (aE (dC PassesOwn.never rfl (dG (pv 5)) (aP (i := 7) nd rfl (Or.inl rfl)) (aE (aS (i := 8) nd rfl (Or.inl rfl) (aQ bY.ok hr rfl bY.at_ bY.kp bY.bn .nil bE (aB (pv 0) (aB (pv 1) (aB (pv 3) (aB (jK (iB hr) (pv 4) (pv 2) (λ _ _ => rfl)) (aB (pv 7) aF))))))) (aK (dC PassesOwn.never rfl (dG (pv 5)) (aP (i := 9) nd rfl (Or.inl rfl)) (aE (aS (i := 10) nd rfl (Or.inl rfl) (aQ bY.ok hr rfl bY.at_ bY.kp bY.bn .nil bE (aB (pv 0) (aB (pv 1) (aB (pv 3) (aB (pv 8) (aB (pv 9) aF))))))) (aK (dC PassesOwn.never rfl (dG (pv 5)) (aP (i := 11) nd rfl (Or.inl rfl)) (aK (mS (iB hr) (pv 6) (fP (aB (pv 7) (aB (pv 9) (aB (pv 11) aF)))) (aQ bY.ok hr rfl bY.at_ bY.kp bY.bn .nil bE (aB (pv 0) (aB (pv 1) (aB (pv 3) (aB (pv 10) (aB (pv 11) aF)))))) rfl))))))))) (aK (bN (pv 6))))))),?_⟩
 try dsimp only [cH,Cx.nox,Cx.wish]
 refine lats5 ?_
 intro D0 σ0 U5 U4 U3 U2
 refine ⟨_,rfl,_,rfl,L,R,rs,row,rfl,hL,hG,hR,hO,h100,λ T U la us H1 x1 kT kU lenU ndU nlU newU okU hla => ⟨T,_,rfl,dM.of kT,rfl,_,_,rfl,_,_,rfl,rfl,?_⟩⟩
 obtain ⟨pO,la1,hv⟩ := hla
 refine ⟨_,rfl,L,rs,rfl,hL.same x1,by omega,λ r hr => ⟨by have := hG.row r hr; omega,(hG.row r hr).2.2⟩,λ r1 ds H3 s3 n3 z3 d3 hr3 x3 hz3 => ?_⟩
 have y3 := x1.trans x3
 have U3 : qF rs row H3 U us := ⟨x3 _ _ kU,lenU,λ k p e => let ⟨kv,a,b⟩ := okU k p e; ⟨kv,.inl (x3 _ _ a),b⟩⟩
 have la3 := x3 _ _ la1
 have n0 : bF rs row row.length d <= row.length := hZ rs row d row.length
 refine λ nw hnw => ?_
 have nwU : nw ∉ us := λ hm => by
  obtain ⟨k,hk⟩ := List.getElem?_of_mem hm;obtain ⟨kv,a,_⟩ := okU k nw hk;rw [x3 _ _ a] at hnw; cases hnw
 have k5 : aL H3 nw (.dT []) nw = some (.dT (kP (fH rs row (bF rs row row.length d)) ds (ds.take 0))) := by rw [aC,List.take_zero]; rfl
 have x5 : Same H3 (aL H3 nw (.dT [])) := aN hnw
 generalize aL H3 nw (.dT []) = H5 at k5 x5 ⊢
 have U5 : qF rs row H5 U us := ⟨x5 _ _ U3.u,U3.len,λ k p e => let ⟨kv,a,b⟩ := U3.ok k p e; ⟨kv,a.imp (λ h => x5 _ _ h) λ ⟨o,h⟩ => ⟨o,x5 _ _ h⟩,b⟩⟩
 -- what every oU keeps
 have r1U : r1 ∉ us := U3.nin hz3 (λ _ => nofun) λ _ _ => nofun
 have RU : R ∉ us := U3.nin (y3 _ _ hR) (λ _ => nofun) λ _ _ => nofun
 obtain ⟨ts,hLt,hT⟩ := id hL
 have LU : L ∉ us := U3.nin (y3 _ _ hLt) (λ _ => nofun) λ _ _ => nofun
 have rows : ∀ {H' : Hp},ButL us H3 H' -> cI H' L rs := λ {H'} b => by
  refine ⟨ts,b _ _ LU (y3 _ _ hLt),?_⟩;exact eU.keep (λ p xs e => b _ _ (U3.nin (y3 _ _ e) (λ _ => nofun) λ _ _ => nofun) (y3 _ _ e)) hT
 have call : ∀ {H' : Hp} (b : ButL us H3 H') (u : qF rs row H' U us) (e : Str) (n : Nat) (Qc : VK),n <= row.length -> (∀ H2,ButL us H' H2 -> qF rs row H2 U us -> Qc (.int ((lat rs row n e : Nat) : Int)) H2) -> spLLat [.ref L,.ref R,.ref U,.int n,.str e] H' Qc E0 :=
  λ {H'} b u e n Qc hn hq => ⟨L,R,U,rs,row,us,n,e,rfl,rows b,hG,b _ _ RU (y3 _ _ hR),hO,h100,u,hn,λ m H2 hm b2 u2 => by rw [<- hm.eq]; exact hq H2 b2 u2⟩
 have b5 : ButL us H3 H5 := λ c o _ h => x5 _ _ h
 refine ⟨_,rfl,r1,rfl,⟨_,bC.of (x5 _ _ hz3)⟩,fF (xs := ds.map V.str) (λ i σ H' => ∃ v7 v8 v9 pE kM : Option V,σ = [some (.ref L),some (.ref R),some (.str d),some (.ref U),some (.ref la),some (.ref r1),some (.ref nw),v7,v8,v9,pE,kM] /\ H' nw = some (.dT (kP (fH rs row (bF rs row row.length d)) ds (ds.take i))) /\ ButL us H3 H' /\ qF rs row H' U us) ?_ ?_ ?_ ?_⟩
 . exact ⟨_,_,_,_,_,rfl,k5,b5,U5⟩
 . rintro i σ H6 _ ⟨_,_,_,_,_,_,_,b6,_⟩;exact bC.of (b6 _ _ r1U hz3)
 . rintro i y σ H6 hy ⟨v7,v8,v9,pE,kM,rfl,k6,b6,u6⟩;rw [List.getElem?_map] at hy;obtain ⟨xx,hxx,rfl⟩ := Option.map_eq_some_iff.mp hy;have gla : jC H6 la (.str d) (some (.int ((bF rs row row.length d : Nat) : Int))) := by rw [<- hv d hdr]; exact jC.k (k := .inr d) (b6 _ _ nlU la3)
   refine ⟨_,rfl,_,rfl,_,rfl,_,rfl,_,rfl,la,_,rfl,gla,_,rfl,?_⟩;simp only [fD,List.cons_append,List.nil_append];refine call b6 u6 xx _ _ n0 λ H7 b7 u7 => ?_;have c7 : ButL us H3 H7 := λ b o n h => b7 _ _ n (b6 _ _ n h);have n1 := lat_le hG hO n0 xx;refine ⟨_,rfl,r1,rfl,⟨_,bC.of (c7 _ _ r1U hz3)⟩,fF (xs := ds.map V.str) (λ j σ H' => ∃ v9 pE kM : Option V,σ = [some (.ref L),some (.ref R),some (.str d),some (.ref U),some (.ref la),some (.ref r1),some (.ref nw),some (.str xx),some (.int ((lat rs row (bF rs row row.length d) xx : Nat) : Int)),v9,pE,kM] /\ H' nw = some (.dT (kP (fH rs row (bF rs row row.length d)) ds (ds.take i) ++ lX (fH rs row (bF rs row row.length d)) ds xx (ds.take j))) /\ ButL us H3 H' /\ qF rs row H' U us) ?_ ?_ ?_ ?_⟩
   . exact ⟨_,_,_,rfl,by rw [List.take_zero]; show H7 nw = some (.dT (_ ++ [])); rw [List.append_nil]; exact b7 _ _ nwU k6,c7,u7⟩
   . rintro j σ H8 _ ⟨_,_,_,_,_,b8,_⟩;exact bC.of (b8 _ _ r1U hz3)
   . rintro j y σ H8 hy ⟨v9,pE,kM,rfl,k8,b8,u8⟩;rw [List.getElem?_map] at hy;obtain ⟨yy,hyy,rfl⟩ := Option.map_eq_some_iff.mp hy;refine ⟨_,rfl,_,rfl,_,rfl,_,rfl,_,rfl,?_⟩;simp only [fD,List.cons_append,List.nil_append];refine call b8 u8 yy _ _ n1 λ H9 b9 u9 => ?_;have c9 : ButL us H3 H9 := λ b o n h => b9 _ _ n (b8 _ _ n h);have n2 := lat_le hG hO n1 yy;refine ⟨_,rfl,r1,rfl,⟨_,bC.of (c9 _ _ r1U hz3)⟩,fF (xs := ds.map V.str) (λ k σ H' => ∃ kM : Option V,σ = [some (.ref L),some (.ref R),some (.str d),some (.ref U),some (.ref la),some (.ref r1),some (.ref nw),some (.str xx),some (.int ((lat rs row (bF rs row row.length d) xx : Nat) : Int)),some (.str yy),some (.int ((lat rs row (lat rs row (bF rs row row.length d) xx) yy : Nat) : Int)),kM] /\ H' nw = some (.dT (kP (fH rs row (bF rs row row.length d)) ds (ds.take i) ++ lX (fH rs row (bF rs row row.length d)) ds xx (ds.take j) ++ mX (fH rs row (bF rs row row.length d)) xx yy (ds.take k))) /\ ButL us H3 H' /\ qF rs row H' U us) ?_ ?_ ?_ ?_⟩
     . exact ⟨_,rfl,by rw [List.take_zero]; show H9 nw = some (.dT (_ ++ [])); rw [List.append_nil]; exact b9 _ _ nwU k8,c9,u9⟩
     . rintro k σ Ha _ ⟨_,_,_,ba,_⟩;exact bC.of (ba _ _ r1U hz3)
     . rintro k y σ Ha hy ⟨kM,rfl,ka,ba,ua⟩;rw [List.getElem?_map] at hy;obtain ⟨zz,hzz,rfl⟩ := Option.map_eq_some_iff.mp hy;refine ⟨_,rfl,_,rfl,_,rfl,_,rfl,_,rfl,?_⟩;simp only [fD,List.cons_append,List.nil_append];refine call ba ua zz _ _ n2 λ Hb bb ub => ?_;have kb := bb _ _ nwU ka;refine ⟨_,rfl,_,rfl,_,rfl,_,rfl,gH (show 3 <= 1000 by decide),λ tt htt => ⟨nw,_,rfl,rA.t (k := [.inr xx,.inr yy,.inr zz]) (by rw [aH (aD kb htt)]; exact kb) aC (trip_few (by omega)),?_⟩⟩;have ek : ∀ b u,b ≠ nw -> Hb b = some u -> aL (aL Hb tt (.tup [.str xx,.str yy,.str zz])) nw (.dT (dY (kP (fH rs row (bF rs row row.length d)) ds (ds.take i) ++ lX (fH rs row (bF rs row row.length d)) ds xx (ds.take j) ++ mX (fH rs row (bF rs row row.length d)) xx yy (ds.take k)) [.inr xx,.inr yy,.inr zz] (.int ((lat rs row (lat rs row (lat rs row (bF rs row row.length d) xx) yy) zz : Nat) : Int)))) b = some u := λ b u n h => by
        rw [aH n,aH (aD h htt)]; exact h
       refine ⟨_,rfl,?_,λ b u n h => ek b u (aD h hnw) (bb _ _ n (ba _ _ n h)),?_⟩
       . rw [aC,trip_new n3 hxx hyy hzz,rowZ_snoc hzz,List.append_assoc]; rfl
       . refine ⟨ek _ _ (aD U3.u hnw) ub.u,ub.len,λ k2 p2 e2 => ?_⟩;have hp2 : p2 ≠ nw := λ z => nwU (z ▸ List.mem_of_getElem? e2);obtain ⟨kv,a,b⟩ := ub.ok k2 p2 e2;exact ⟨kv,a.imp (λ h => ek _ _ hp2 h) λ ⟨o,h⟩ => ⟨o,ek _ _ hp2 h⟩,b⟩
     . rintro σ Ha ⟨kM,rfl,ka,ba,ua⟩;rw [List.length_map,List.take_length] at ka;exact ⟨_,_,_,rfl,by rw [rowY_snoc hyy,<- List.append_assoc]; exact ka,ba,ua⟩
   . rintro σ H8 ⟨v9,pE,kM,rfl,k8,b8,u8⟩;rw [List.length_map,List.take_length] at k8;exact ⟨_,_,_,_,_,rfl,by rw [rowX_snoc hxx]; exact k8,b8,u8⟩
 . rintro σ H6 ⟨v7,v8,v9,pE,kM,rfl,k6,b6,u6⟩;rw [List.length_map,List.take_length] at k6;exact ⟨_,rfl,q nw ds H6 (y3.free hnw) (λ b o h => b6 _ _ (λ hm => by rw [newU b hm] at h; cases h) (y3 _ _ h)) n3 s3 d3 k6⟩
abbrev lC : Stmt := top 30
theorem rF : bI ["_law_sharing","_law_row_here","_law_desk","_law_found","_law_e"] ["_law_sharing","_law_row_here","_law_desk"] (aG lC) := (.of rfl rfl rfl rfl (by decide +kernel))
def spToldL (K : W.Frag) (C pt : Addr) : Sp := λ vs H Q _ => ∃ (x L : Addr) (rs : List cY) (row : List Str) (e : Str) (l : Str),vs = [.ref x,.ref L,.str e] /\ iO C H x rs /\ gG rs /\ bC K H L (row.map V.str) /\ row.length <= 60 /\ cS H pt /\
 pX (rs.map (·.1)) row = some l /\ ∀ t H',H t = none -> Same H H' -> H' t = some (Said l) -> Q (.ref t) H'
def spToldD (K : W.Frag) (C pt : Addr) : Sp := λ vs H Q _ => ∃ (x L : Addr) (rs : List cY) (row : List Str) (e : Str) (d : Str),vs = [.ref x,.ref L,.str e] /\ iO C H x rs /\ gG rs /\ bC K H L (row.map V.str) /\ row.length <= 60 /\ cS H pt /\
 Of rs row /\ pX (rs.flatMap (·.2)) [e] = some d /\ ∀ t H',H t = none -> Same H H' -> H' t = some (SaidD d) -> Q (.ref t) H'
def spTold (K : W.Frag) (C pt : Addr) : Sp := λ vs H Q E => spToldL K C pt vs H Q E \/ spToldD K C pt vs H Q E
theorem ok_toldL (F : jY K "_law_told" "_law_told" lC f fd) (xt : XMk P w K mg base j CN M ft ftd) (xb : XB K M) (xo : XOt K mg CN M c) (G_news_at : FnX P w K mg base k "news_at" ["sharing","row","desk"] (spNews K C CN CD pt) g gd) (cJ : FnH P w K mg base k "_law_refusal" ["_law_e"] (nQ CN CD) g2 gd2) :
 FnOk P w K mg base gO (k + 1) f fd ["_law_sharing","_law_row_here","_law_desk"] (spToldL K C pt) := by
 refine F.ok rF (λ vs H Q E h => ?_) (λ cdv A outer s H vs Q E hr h => ?_)
 . obtain ⟨x,L,rs,row,e,l,rfl,_⟩ := h;rfl
 obtain ⟨x,L,rs,row,e,l,rfl,hSh,hG,h1,l1,hT,hl,q⟩ := h
 have nd := rF.nd
 have hRX : ∀ a fs H1 H2,(H a = none /\ Same H H1 /\ fs = Lt l) -> (∀ b o,b ≠ a -> H1 b = some o -> H2 b = some o) -> dR H2 a CN fs -> (H a = none /\ Same H H2 /\ fs = Lt l) := λ a fs H1 H2 ⟨na,sm,g⟩ k _ => ⟨na,λ b o e => k b o (aD e na) (sm b o e),g⟩
 have no : Of rs row -> False := λ o1 => by
  rw [eV.mpr o1] at hl;cases hl
 refine ⟨_,(aE (aS (i := 3) nd rfl (Or.inl rfl) pe_non) (aE (ps_tryB (i := 4) xt.xc xb rfl rfl nd rfl rfl rfl hRX (λ E pn hpass => (aK (aS (i := 3) nd rfl (Or.inl rfl) (aQ G_news_at.ok hr rfl G_news_at.at_ G_news_at.kp G_news_at.bn .nil hpass (aB (pv 0) (aB (pv 1) (aB (pv 2) aF))))))) (λ a => gX (v := .ref M) rfl xo.mM rfl) (λ a => (aK (aS (i := 3) nd rfl (Or.inl rfl) (pe_callH cJ.ok (hr.hand _) rfl cJ.at_ cJ.kp cJ.bn (aB (pv 4) aF)))))) (aK (bN (pv 3))))),?_⟩
 try dsimp only [cH,Cx.nox,Cx.wish]
 refine qU ?_
 intro D0 σ0 U3 U2
 refine ⟨?_,?_⟩
 . refine ⟨_,rfl,_,rfl,_,rfl,x,L,rs,row,e,rfl,hSh,hG,h1,l1,hT,λ o1 => (no o1).elim,λ n' hn' a H' na sm fl => ⟨a,_,rfl,fl,na,sm,?_⟩,λ o1 => (no o1).elim⟩;rw [hl] at hn';rw [Option.some.inj hn']
 . rintro a fs H1 σ1 hl' fl ⟨na,sm,rfl⟩;obtain ⟨s0,s1,s2,s3,s4,rfl⟩ := len5 hl';refine ⟨_,rfl,.inl ⟨a,l,rfl,fl,λ t H2 nt x2 ht => ?_⟩⟩;exact ⟨_,rfl,q t H2 (sm.free nt) (sm.trans x2) ht⟩
theorem ok_toldD (F : jY K "_law_told" "_law_told" lC f fd) (xt : XMkD P w K mg base j CD M ft ftd) (xb : XB K M) (xo : XOtD K mg CD M c) (G_news_at : FnX P w K mg base k "news_at" ["sharing","row","desk"] (spNews K C CN CD pt) g gd) (cJ : FnH P w K mg base k "_law_refusal" ["_law_e"] (nQ CN CD) g2 gd2) :
 FnOk P w K mg base gO (k + 1) f fd ["_law_sharing","_law_row_here","_law_desk"] (spToldD K C pt) := by
 refine F.ok rF (λ vs H Q E h => ?_) (λ cdv A outer s H vs Q E hr h => ?_)
 . obtain ⟨x,L,rs,row,e,l,rfl,_⟩ := h;rfl
 obtain ⟨x,L,rs,row,e,l,rfl,hSh,hG,h1,l1,hT,hO,hl,q⟩ := h
 have nd := rF.nd
 have hRX : ∀ a fs H1 H2,(H a = none /\ Same H H1 /\ fs = Dk l) -> (∀ b o,b ≠ a -> H1 b = some o -> H2 b = some o) -> dR H2 a CD fs -> (H a = none /\ Same H H2 /\ fs = Dk l) := λ a fs H1 H2 ⟨na,sm,g⟩ k _ => ⟨na,λ b o e => k b o (aD e na) (sm b o e),g⟩
 refine ⟨_,(aE (aS (i := 3) nd rfl (Or.inl rfl) pe_non) (aE (ps_tryB (i := 4) xt.xc xb rfl rfl nd rfl rfl rfl hRX (λ E pn hpass => (aK (aS (i := 3) nd rfl (Or.inl rfl) (aQ G_news_at.ok hr rfl G_news_at.at_ G_news_at.kp G_news_at.bn .nil hpass (aB (pv 0) (aB (pv 1) (aB (pv 2) aF))))))) (λ a => gX (v := .ref M) rfl xo.mM rfl) (λ a => (aK (aS (i := 3) nd rfl (Or.inl rfl) (pe_callH cJ.ok (hr.hand _) rfl cJ.at_ cJ.kp cJ.bn (aB (pv 4) aF)))))) (aK (bN (pv 3))))),?_⟩
 try dsimp only [cH,Cx.nox,Cx.wish]
 refine qU ?_
 intro D0 σ0 U3 U2
 refine ⟨?_,?_⟩
 . refine ⟨_,rfl,_,rfl,_,rfl,x,L,rs,row,e,rfl,hSh,hG,h1,l1,hT,λ _ o2 => ?_,λ n' hn' => ?_,λ _ n' hn' a H' na sm fl => ⟨a,_,rfl,fl,na,sm,?_⟩⟩
   . rw [eV.mpr (λ d' hd' => by rw [List.mem_singleton.mp hd']; exact o2)] at hl;cases hl
   . rw [eV.mpr hO] at hn';cases hn'
   . rw [hl] at hn';rw [Option.some.inj hn']
 . rintro a fs H1 σ1 hl' fl ⟨na,sm,rfl⟩;obtain ⟨s0,s1,s2,s3,s4,rfl⟩ := len5 hl';refine ⟨_,rfl,.inr ⟨a,l,rfl,fl,λ t H2 nt x2 ht => ?_⟩⟩;exact ⟨_,rfl,q t H2 (sm.free nt) (sm.trans x2) ht⟩
abbrev jN : Stmt := top 31
theorem kit_dd (K : W.Frag) : W.kitOne K (.type "dict") (.type "dict") = some true := by kernel_rfl
theorem kit_ii (K : W.Frag) : W.kitOne K (.type "int") (.type "int") = some true := by kernel_rfl
theorem kit_ib (K : W.Frag) : W.kitOne K (.type "int") (.type "bool") = some false := by kernel_rfl
theorem no_bad {ys row : List Str} {A : Prop} (h : ∀ l ∈ row,l ∈ ys) {l : Str} (e : pX ys row = some l) : A := by
 rw [eV.mpr h] at e
 cases e
theorem few_len {rs : List cY} {ds : List Str} (hG : gG rs) (dn : ds.Nodup) (dm : ∀ d,d ∈ ds ↔ ∃ r ∈ rs,d ∈ r.2) : ds.length <= 4 := by
 obtain ⟨fs,h4,hin⟩ := hG.few
 rcases Nat.lt_or_ge fs.length ds.length with h | h
 . obtain ⟨c,h1,h2⟩ := pig fs ds dn h;obtain ⟨r,a,b⟩ := (dm c).mp h1;exact absurd (hin r a c b) h2
 . omega
theorem But.nt {p : Addr} {H H' : Hp} (x : But p H H') (t : cS H p) : ∀ b u,(∀ ps,u ≠ HO.tbl ps) -> H b = some u -> H' b = some u := λ b u hu h => x b u (λ z => by
 subst z
 rcases t with t | ⟨_,t,_⟩ <;> (rw [t] at h; exact hu _ (Option.some.inj h).symm)) h
theorem But.free {p a : Addr} {H H' : Hp} (x : But p H H') (t : cS H' p) (h : H' a = none) : H a = none := by
 cases e : H a with
 | none => rfl
 | some u =>
  by_cases z : a = p
  . subst z
    rcases t with t | ⟨_,t,_⟩ <;> (rw [t] at h; cases h)
  . rw [x _ _ z e] at h; cases h
theorem cS.same {p : Addr} {H H' : Hp} (h : cS H p) (x : Same H H') : cS H' p := by
 rcases h with h | ⟨c,h,hc⟩
 . exact .inl (x _ _ h)
 . exact .inr ⟨c,x _ _ h,x _ _ hc⟩
theorem cS.put {p D : Addr} {H : Hp} {aO : List (List bP × V)} {o : HO} (h : cS H p) (d : H D = some (.dT aO)) : cS (aL H D o) p := by
 have n1 : ∀ {ps},H p = some (.tbl ps) -> p ≠ D := λ {ps} e z => by rw [z,d] at e; cases e
 rcases h with h | ⟨c,h,hc⟩
 . exact .inl (by rw [aH (n1 h)]; exact h)
 . exact .inr ⟨c,by rw [aH (n1 h)]; exact h,by rw [aH λ z => by rw [z,d] at hc; cases hc]; exact hc⟩
theorem nO {rs : List cY} {row ds : List Str} {n : Nat} : ∀ p ∈ iU (fH rs row n) ds,∃ m,p.2 = .int m := by
 intro p hp
 obtain ⟨x,_,h⟩ := List.mem_flatMap.mp hp
 obtain ⟨y,_,h⟩ := List.mem_flatMap.mp h
 obtain ⟨z,_,rfl⟩ := List.mem_map.mp h
 exact ⟨_,rfl⟩
theorem ints_of {α : Type} : ∀ {aO : List (α × V)},(∀ p ∈ aO,∃ m,p.2 = .int m) -> ∃ ns : List Int,aO.map (·.2) = ns.map V.int := by
 intro aO
 induction aO with
 | nil => exact λ _ => ⟨[],rfl⟩
 | cons p r ih =>
  intro h;obtain ⟨m,e⟩ := h p List.mem_cons_self;obtain ⟨ns,es⟩ := ih λ q hq => h q (List.mem_cons_of_mem _ hq);exact ⟨m :: ns,by rw [List.map_cons,List.map_cons,e,es]⟩
theorem desk_same {rs : List cY} {ds es : List Str} (n1 : ds.Nodup) (n2 : es.Nodup) (s1 : sortedS ds = true) (s2 : sortedS es = true) (m1 : ∀ e,e ∈ ds ↔ ∃ r ∈ rs,e ∈ r.2) (m2 : ∀ e,e ∈ es ↔ ∃ r ∈ rs,e ∈ r.2) : ds = es :=
 qQ ((List.perm_ext_iff_of_nodup n1 n2).mpr λ e => (m1 e).trans (m2 e).symm) s1 s2
theorem cutS_le (xs : List Str) (lo hi : Option Int) : (lW xs lo hi).length <= xs.length := by
 unfold lW
 rw [List.length_take,List.length_drop]; omega
theorem cI.nt {L : Addr} {H H' : Hp} {rs : List cY} (h : cI H L rs) (e : ∀ b u,(∀ ps,u ≠ HO.tbl ps) -> H b = some u -> H' b = some u) : cI H' L rs := let ⟨ts,h1,h2⟩ := h; ⟨ts,e L (.lst (ts.map V.ref)) (λ _ => nofun) h1,h2.keep λ b xs q => e b (.tup xs) (λ _ => nofun) q⟩
theorem wholes {D L : Addr} {Q : VK} {H1 : Hp} {ns : List Int} (hL : H1 L = some (.lst (ns.map V.int))) (hn : ns.length <= 1000) (hD : H1 D = none)
 (oG : ∀ H',Same H1 H' -> H' D = some (.lst ((List.replicate ns.length true).map V.bl)) -> Q (.ref D) H') :
 cG (Itl K L) D (bO 0) fV (tAndV (tCB (λ xs H Q => ∃ x c cv t b,xs = [x,c] /\ mE K H x t /\ bD c cv /\ (∀ u,bD c u -> u = cv) /\ W.kitOne K t cv = some b /\ Q (.bl b) H) (cC (aU 0) (cC (tC (.ty "int")) fD))) (tNotV (tCB (λ xs H Q => ∃ x c cv t b,xs = [x,c] /\ mE K H x t /\ bD c cv /\ (∀ u,bD c u -> u = cv) /\ W.kitOne K t cv = some b /\ Q (.bl b) H) (cC (aU 0) (cC (tC (.ty "bool")) fD))))) Q [none] H1 := by
 refine mO (xs := ns.map V.int) (λ i ys σ H => ∃ v : Option V,ys = (List.replicate i true).map V.bl /\ σ = [v] /\ Same H1 H) ?_ (by rw [List.length_map]; omega) ?_ ?_ ?_ ?_
 . exact ⟨none,rfl,rfl,aN hD⟩
 . rintro i ys σ H ⟨v,rfl,_⟩;rw [List.length_map,List.length_replicate]; exact Nat.le_refl _
 . rintro i ys σ H ⟨v,_,_,x⟩;exact bC.of (x _ _ hL)
 . rintro i y ys σ H hy gK ⟨v,rfl,rfl,x⟩;rw [List.getElem?_map] at hy;obtain ⟨z,hz,rfl⟩ := Option.map_eq_some_iff.mp hy;refine ⟨_,rfl,_,_,.type "int",_,true,rfl,.int z,rfl,λ _ z => z,kit_ii K,true,rfl,iteT ?_⟩;refine ⟨_,rfl,_,_,.type "bool",_,false,rfl,.int z,rfl,λ _ z => z,kit_ib K,false,rfl,gK,_,?_,rfl,x.at hD⟩;rw [List.replicate_succ',List.map_append]; rfl
 . rintro ys σ H gK ⟨v,rfl,_,x⟩;rw [List.length_map] at gK;exact oG H x gK
def rC (K : W.Frag) (C pt : Addr) : Sp := λ vs H Q _ => ∃ (x L R : Addr) (rs : List cY) (row : List Str) (d : Str),vs = [.ref x,.ref L,.ref R,.str d] /\ iO C H x rs /\ cI H L rs /\ gG rs /\ H R = some (.lst (row.map V.str)) /\ Of rs row /\ (∃ r ∈ rs,d ∈ r.2) /\ row.length <= 60 /\ cS H pt /\
 ∀ H',But pt H H' -> cS H' pt -> Q (.bl true) H'
theorem sc_right : bI ["_law_sharing","_law_rows","_law_row_here","_law_desk","_law_due","_law_turn","_law_handed","_law_found","_law_told_here","_law_ahead"] ["_law_sharing","_law_rows","_law_row_here","_law_desk"] (aG jN) := (.of rfl rfl rfl rfl (by decide +kernel))
theorem ok_right (F : jY K "_law_right" "_law_right" jN f fd) (B : Bt mg) (G_news_at : FnX P w K mg base k "news_at" ["sharing","row","desk"] (spNews K C CN CD pt) g gd) (cV : Fn P w K mg base k "_law_triples" ["_law_rows","_law_row_here","_law_desk"] spTri g2 gd2) :
 FnOk P w K mg base gO (k + 1) f fd ["_law_sharing","_law_rows","_law_row_here","_law_desk"] (rC K C pt) := by
 refine F.ok sc_right (λ vs H Q E h => ?_) (λ cdv A outer s H vs Q E hr h => ?_)
 . obtain ⟨x,L,R,rs,row,d,rfl,_⟩ := h;rfl
 obtain ⟨x,L,R,rs,row,d,rfl,hSh,hRw,hG,hR,hO,hd,h60,hT,q⟩ := h
 have nd := sc_right.nd
 have hdm : d ∈ rs.flatMap (·.2) := List.mem_flatMap.mpr hd
 refine ⟨_,(aE (aS (i := 4) nd rfl (Or.inl rfl) (aQ cV.ok hr rfl cV.at_ cV.kp cV.bn .nil bE (aB (pv 1) (aB (pv 2) (aB (pv 3) aF))))) (aE (dC PassesOwn.never rfl (eE rfl B.range_ (aB aJ aF)) (aP (i := 5) nd rfl (Or.inl rfl)) (aE (aS (i := 6) nd rfl (Or.inl rfl) (cX eB rfl B.list_ (by decide +kernel) (aB (pv 2) aF))) (aE (aS (i := 7) nd rfl (Or.inl rfl) (aQ G_news_at.ok hr rfl G_news_at.at_ G_news_at.kp G_news_at.bn .nil passX0 (aB (pv 0) (aB (pv 6) (aB (pv 3) aF))))) (aE (dH (PW.pt (pw_or (jQ (fM (aZ qC rfl B.isinstance_ boot_isinstance (aB (pv 7) (aB (pe_bltn (v := .ty "dict") (u := .type "dict") rfl B.dict_ (by decide +kernel) rfl) aF))) (λ _ => rfl))) (pw_or (bX (op_neDT (iB hr)) (pv 7) (pv 4) (eD _)) (pw_or1 (bX (op_neLS (qD hr)) (pv 6) (pv 2) (eD _)))))) (aK (bN kK)) bU) (aE (aS (i := 8) nd rfl (Or.inl rfl) (cX (call_listVw rfl) rfl B.list_ (by decide +kernel) (aB (pe_bm0 PySem.F.plainAttrs_dict PySem.F.slot_dict_values PySem.F.type_dict_values mt_values (pv 7)) aF))) (aE (dH (jQ (fM (aZ (call_allB rfl) rfl B.all_ (by decide +kernel) (aB (dX (g := (bO 0)) (tc := fV) (te := (tAndV (tCB (λ xs H Q => ∃ x c cv t b,xs = [x,c] /\ mE K H x t /\ bD c cv /\ (∀ u,bD c u -> u = cv) /\ W.kitOne K t cv = some b /\ Q (.bl b) H) (cC (aU 0) (cC (tC (.ty "int")) fD))) (tNotV (tCB (λ xs H Q => ∃ x c cv t b,xs = [x,c] /\ mE K H x t /\ bD c cv /\ (∀ u,bD c u -> u = cv) /\ W.kitOne K t cv = some b /\ Q (.bl b) H) (cC (aU 0) (cC (tC (.ty "bool")) fD)))))) (own := ["_law_k"]) (fr := ([] : List Str)) (idx := []) rfl (by show aV _ _ _ (aG jN); exact (.of rfl (by decide +kernel))) (dG (pv 8)) (λ _ _ _ _ _ => (aP (i := 0) (by show List.Nodup (["_law_k"] : List Str); decide +kernel) rfl (Or.inl rfl) (Or.inr rfl))) (λ _ _ _ _ _ => dI) (λ _ _ _ _ _ => (pe_and (aZ qC rfl B.isinstance_ boot_isinstance (aB (pv 0) (aB (pe_bltn (v := .ty "int") (u := .type "int") rfl B.int_ (by decide +kernel) rfl) aF))) (pe_one (pe_not (aZ qC rfl B.isinstance_ boot_isinstance (aB (pv 0) (aB (pe_bltn (v := .ty "bool") (u := .type "bool") rfl B.bool_ (by decide +kernel) rfl) aF))))))) rfl (dO rfl)) aF)) (λ _ => rfl))) (aK (bN kK)) bU) (aE (mS (iB hr) (pv 7) (fP (aB (pv 3) (aB (pv 3) (aB (pv 3) aF)))) (aW op_sub aJ aJ) rfl) (aE (aS (i := 9) nd rfl (Or.inl rfl) (dS kZ (pv 2) eZ (fB pe_neg1))) (aK (dH (bX (op_neDT (iB hr)) (aQ G_news_at.ok hr rfl G_news_at.at_ G_news_at.kp G_news_at.bn .nil passX0 (aB (pv 0) (aB (pv 9) (aB (pv 3) aF)))) (aQ cV.ok hr rfl cV.at_ cV.kp cV.bn .nil bE (aB (pv 1) (aB (pv 9) (aB (pv 3) aF)))) (eD _)) (aK (bN kK)) bU)))))))))) (aK (bN kK)))),?_⟩
 try dsimp only [cH,Cx.nox,Cx.wish]
 refine qU ?_
 intro D0 σ0 U3 U2
 refine ⟨_,rfl,_,rfl,_,rfl,L,R,rs,row,d,rfl,hRw,hG,hR,hO,by omega,hd,λ D1 ds H1 n1 x1 nd1 s1 m1 k1 => ?_⟩
 have d4 := few_len hG nd1 m1
 have cE : (iU (fH rs row (bF rs row row.length d)) ds).length <= 64 := by
  rw [rowX_len];have : ds.length * ds.length <= 4 * 4 := Nat.mul_le_mul d4 d4;exact Nat.mul_le_mul d4 this
 have hs := dA
 have T1 := hT.same x1
 refine ⟨2,rfl,by decide,by decide,mR (n := (2 : Int).toNat) (λ i σ H' => ∃ v5 v6 v7 v8 v9 : Option V,σ = [some (.ref x),some (.ref L),some (.ref R),some (.str d),some (.ref D1),v5,v6,v7,v8,v9] /\ But pt H H' /\ cS H' pt /\ H' D1 = some (.dT (iU (fH rs row (bF rs row row.length d)) ds))) ?_ ?_ ?_⟩
 . exact ⟨_,_,_,_,_,rfl,Same.but x1,T1,k1⟩
 . rintro i σ H2 hi ⟨v5,v6,v7,v8,v9,rfl,b2,T2,k2⟩;have t2 := b2.nt hT;refine ⟨_,rfl,R,_,rfl,.inl (bC.of (t2 R (.lst (row.map V.str)) (λ _ => nofun) hR)),λ p3 hp3 => ?_⟩;have z3 : Same H2 (aL H2 p3 (.lst (row.map V.str))) := aN hp3;have c3 : aL H2 p3 (.lst (row.map V.str)) p3 = some (.lst (row.map V.str)) := aC;generalize aL H2 p3 (.lst (row.map V.str)) = H3 at z3 c3 ⊢;have b3 : But pt H H3 := b2.trans (Same.but z3);have T3 := T2.same z3;have t3 := b3.nt hT;refine ⟨_,rfl,_,rfl,_,rfl,x,p3,rs,row,d,rfl,hSh.nt t3,hG,bC.of c3,h60,T3,λ _ _ D4 ds' H4 n4 b34 T4 nd4 s4 m4 k4 => ?_,λ l hl => no_bad hO hl,λ _ l hl => no_bad (row := [d]) (by rw [List.forall_mem_singleton]; exact hdm) hl⟩;obtain rfl := desk_same nd4 nd1 s4 s1 m4 m1;have b4 := b3.trans b34;have t4 := b4.nt hT;have u4 := b34.nt T3;have k14' := z3 _ _ k2;have k14 := u4 _ (.dT (iU (fH rs row (bF rs row row.length d)) ds')) (λ _ => nofun) (z3 _ _ k2);refine ⟨_,rfl,_,_,.type "dict",_,true,rfl,.dT k4,rfl,λ _ z => z,kit_dd K,_,rfl,kL ?_⟩;refine ⟨_,rfl,_,rfl,D4,D1,_,rfl,rfl,k4,k14,nO,_,rfl,kL ?_⟩;refine ⟨_,rfl,_,rfl,p3,R,row,row,rfl,rfl,bC.of (u4 _ (.lst (row.map V.str)) (λ _ => nofun) c3),bC.of (t4 R (.lst (row.map V.str)) (λ _ => nofun) hR),false,by rw [decide_eq_true rfl]; rfl,kL ?_⟩;refine ⟨_,rfl,.inr (.inr (.inl ⟨rfl,.inr ⟨_,k4⟩⟩)),D4,_,rfl,rfl,k4,λ vw hvw => ⟨vw,D4,_,rfl,aC,by rw [aH (aD k4 hvw)]; exact k4,λ l hl => ?_⟩⟩;have z6 : Same H4 (aL (aL H4 vw (Vw vw D4)) l (.lst ((iU (fH rs row (bF rs row row.length d)) ds').map (·.2)))) := (aN hvw).trans (aN hl);obtain ⟨ns,hns⟩ := ints_of (nO (rs := rs) (row := row) (ds := ds') (n := bF rs row row.length d));have c6 : aL (aL H4 vw (Vw vw D4)) l (.lst ((iU (fH rs row (bF rs row row.length d)) ds').map (·.2))) l = some (.lst (ns.map V.int)) := by rw [aC,hns]
   generalize aL (aL H4 vw (Vw vw D4)) l (.lst ((iU (fH rs row (bF rs row row.length d)) ds').map (·.2))) = H6 at z6 c6 ⊢;have nl : ns.length <= 64 := by
    have := congrArg List.length hns;rw [List.length_map,List.length_map] at this;omega
   refine ⟨_,rfl,l,rfl,⟨_,bC.of c6⟩,λ D8 hD8 => wholes (K := K) c6 (by omega) hD8 λ H8 x8 k8 => ⟨D8,_,rfl,bC.of k8,true,congrArg V.bl (all_rep _),kL ?_⟩⟩;have z8 := z6.trans x8;have k48 := z8 _ _ k4;have T8 := T4.same z8;refine ⟨_,_,rfl,rfl,_,rfl,_,rfl,_,rfl,_,rfl,gH (show 3 <= 1000 by decide),λ tt htt => ⟨D4,_,rfl,rA.t (k := [.inr d,.inr d,.inr d]) (by rw [aH (aD k48 htt)]; exact k48) aC (by rw [sizeLine_eq]; omega),?_⟩⟩;have h4 : H D4 = none := b3.free T3 n4;have n14 : D1 ≠ D4 := λ z => by rw [z,n4] at k14'; cases k14'
   have zt : Same H8 (aL H8 tt (.tup [.str d,.str d,.str d])) := aN htt;have T9 : cS (aL (aL H8 tt (.tup [.str d,.str d,.str d])) D4 (.dT (dY (iU (fH rs row (bF rs row row.length d)) ds') [.inr d,.inr d,.inr d] (.int (0 - 1))))) pt := (T8.same zt).put (zt _ _ k48);have b9 : But pt H (aL (aL H8 tt (.tup [.str d,.str d,.str d])) D4 (.dT (dY (iU (fH rs row (bF rs row row.length d)) ds') [.inr d,.inr d,.inr d] (.int (0 - 1))))) := λ b u nb e => by
    rw [aH (aD e h4)];exact zt _ _ (z8 _ _ (b4 b u nb e))
   have k19 : aL (aL H8 tt (.tup [.str d,.str d,.str d])) D4 (.dT (dY (iU (fH rs row (bF rs row row.length d)) ds') [.inr d,.inr d,.inr d] (.int (0 - 1)))) D1 = some (.dT (iU (fH rs row (bF rs row row.length d)) ds')) := by
    rw [aH n14];exact zt _ _ (z8 _ _ k14)
   generalize aL (aL H8 tt (.tup [.str d,.str d,.str d])) D4 (.dT (dY (iU (fH rs row (bF rs row row.length d)) ds') [.inr d,.inr d,.inr d] (.int (0 - 1)))) = H9 at T9 b9 k19 ⊢;clear k48 T8 z8 x8 k8 c6 z6 k4 T4 u4 t4 b34;have t9 := b9.nt hT;refine ⟨_,rfl,_,rfl,R,_,rfl,bC.of (t9 R (.lst (row.map V.str)) (λ _ => nofun) hR),λ pa hpa => ?_⟩;rw [kE];have za : Same H9 (aL H9 pa (.lst ((lW row none (some (-1))).map V.str))) := aN hpa;have ca : aL H9 pa (.lst ((lW row none (some (-1))).map V.str)) pa = some (.lst ((lW row none (some (-1))).map V.str)) := aC;generalize aL H9 pa (.lst ((lW row none (some (-1))).map V.str)) = Ha at za ca ⊢;have ba : But pt H Ha := b9.trans (Same.but za);have Ta := T9.same za;have ta := ba.nt hT;have la : (lW row none (some (-1))).length <= 60 := Nat.le_trans (cutS_le ..) h60;have oa : Of rs (lW row none (some (-1))) := λ l hl => hO l (cutS_mem hl);generalize lW row none (some (-1)) = rowa at ca la oa ⊢;refine ⟨_,rfl,_,rfl,_,rfl,x,pa,rs,rowa,d,rfl,hSh.nt ta,hG,bC.of ca,la,Ta,λ _ _ Db dsb Hb nb bb Tb ndb sb mb kb => ?_,λ l hl => no_bad oa hl,λ _ l hl => no_bad (row := [d]) (by rw [List.forall_mem_singleton]; exact hdm) hl⟩;have bB := ba.trans bb;have tB := bB.nt hT;have ub := bb.nt Ta;have rowsB : cI Hb L rs := hRw.nt tB;refine ⟨_,rfl,_,rfl,_,rfl,L,pa,rs,rowa,d,rfl,rowsB,hG,ub _ (.lst (rowa.map V.str)) (λ _ => nofun) ca,oa,by omega,hd,λ Dc dsc Hc nc xc ndc sc mc kc => ?_⟩;obtain rfl := desk_same ndc ndb sc sb mc mb;refine ⟨Db,Dc,_,rfl,rfl,xc _ _ kb,kc,nO,_,rfl,kL ?_⟩;exact ⟨_,_,_,_,_,rfl,bB.trans (Same.but xc),Tb.same xc,xc _ _ (ub _ (.dT (iU (fH rs row (bF rs row row.length d)) ds')) (λ _ => nofun) (za _ _ k19))⟩
 . rintro σ H2 ⟨v5,v6,v7,v8,v9,rfl,b2,T2,k2⟩;exact q H2 b2 T2
abbrev gI : Stmt := top 34
theorem nextD_desks {rs : List cY} {d : Str} (h : d ∈ rs.flatMap (·.2)) : d ∈ (iI rs).flatMap (·.2) := by
 obtain ⟨r,a,b⟩ := List.mem_flatMap.mp h
 obtain ⟨j,hj,rfl⟩ := List.mem_iff_getElem.mp a
 refine List.mem_flatMap.mpr ⟨nxt rs ((j + rs.length - 1) % rs.length),?_,?_⟩
 . exact List.mem_map.mpr ⟨_,List.mem_range.mpr (Nat.mod_lt _ (by omega)),rfl⟩
 . have e : ((j + rs.length - 1) % rs.length + 1) % rs.length = j := by
    rw [Nat.mod_add_mod,show j + rs.length - 1 + 1 = j + rs.length by omega,Nat.add_mod_right,Nat.mod_eq_of_lt hj]
   show d ∈ (rs.getD (((j + rs.length - 1) % rs.length + 1) % rs.length) ("",[])).2
   rw [e,List.getD_eq_getElem?_getD,List.getElem?_eq_getElem hj];exact b
def lU (s : Stmt) : List Stmt := match (cL s).getD 0 (.Pass ⟨0,0,0,0⟩) with
 | .For _ _ b _ _ => b
 | _ => []
theorem iO.ext {C x a : Addr} {H H' : Hp} {rs : List cY} (h : iO C H x rs) (e : iT a H H') (f : bM H a) : iO C H' x rs := by
 obtain ⟨p,q,r,ea,_⟩ := f
 obtain ⟨dx,tl,td,dd,aO,ds,h1,h2,h3,h4,h5,h6,h7,h8,h9⟩ := h
 exact ⟨dx,tl,td,dd,aO,ds,e _ _ (cO h1 ea (λ z => nomatch z)) h1,e _ _ (cO h2 ea (λ z => nomatch z)) h2,e _ _ (cO h3 ea (λ z => nomatch z)) h3,h4,h5,h6,h7,e _ _ (cO h8 ea (λ z => nomatch z)) h8,λ r hr => let ⟨t,zs,a1,b1,c1⟩ := h9 r hr; ⟨t,zs,a1,e _ _ (cO b1 ea (λ z => nomatch z)) b1,c1⟩⟩
theorem bad_app {ls A B : List Str} {n : Str} (hA : ∀ l ∈ A,l ∈ ls) (hn : n ∉ ls) : pX ls (A ++ (n :: B)) = some n := by
 have h0 := (eV (ys := ls) (row := A)).mpr hA
 unfold pX at h0 ⊢
 rw [List.find?_append,h0]
 simp [hn]
theorem bad_cut {ls A B : List Str} {n1 : Str} {m : Nat} (hA : ∀ l ∈ A,l ∈ ls) (hn : n1 ∉ ls) (hm : n1 ∈ (A ++ (n1 :: B)).take m) : pX ls ((A ++ (n1 :: B)).take m) = some n1 := by
 rcases Nat.lt_or_ge A.length m with h | h
 . obtain ⟨d,hd⟩ : ∃ d,m - A.length = d + 1 := ⟨m - A.length - 1,by omega⟩;rw [List.take_append,List.take_of_length_le (by omega),hd,List.take_succ_cons];exact bad_app hA hn
 . rw [List.take_append_of_le_length h] at hm;exact absurd (hA _ (List.mem_of_mem_take hm)) hn
theorem two_str {s t : Str} : ∀ z ∈ [V.str s,V.str t],∃ u,z = .str u := λ z hz => by
 rcases List.mem_cons.mp hz with h | h
 . exact ⟨s,h⟩
 . exact ⟨t,List.mem_singleton.mp h⟩
def Mk (σ : L2.St) (H0 : Hp) (t : TE) (zs : List Str) : Prop := ∀ (H : Hp) (Q : VK),Same H0 H -> (∀ (p : Addr) (H' : Hp),H p = none -> Same H H' -> H' p = some (.lst (zs.map V.str)) -> Q (.ref p) H') -> t σ H Q
section
variable {σ : L2.St} {H0 : Hp} {t u tn tm : TE} {xs ys zs : List Str} {n m i : Nat} {R : Addr}
theorem mk_cat (h1 : Mk σ H0 t xs) (h2 : Mk σ H0 u ys) (hl : xs.length + ys.length <= 200) : Mk σ H0 (iC rCat t u) (xs ++ ys) := by
 intro H Q x q
 refine h1 H _ x λ p1 H1 hp1 x1 k1 => h2 H1 _ (x.trans x1) λ p2 H2 hp2 x2 k2 => ⟨p1,p2,_,_,rfl,rfl,x2 _ _ k1,k2,by rw [List.length_map,List.length_map]; exact gH (by omega),λ p hp => ?_⟩
 rw [<- List.map_append]
 exact q p _ (x1.free (x2.free hp)) ((x1.trans x2).trans (aN hp)) aC
theorem mk_hd (hi : σ[i]? = some (some (.ref R))) (hR : H0 R = some (.lst (xs.map V.str))) (hn : ∀ (H : Hp) (Q : VK),Q (V.int (n : Int)) H -> tn σ H Q) : Mk σ H0 (tSl (rSlL K) (aU i) mH (tPart tn)) (xs.take n) := by
 intro H Q x q
 refine ⟨_,hi,hn _ _ ⟨_,rfl,R,_,rfl,bC.of (x _ _ hR),λ p hp => ?_⟩⟩
 rw [kE,cutS_hd]
 exact q p _ hp (aN hp) aC
theorem mk_tl (hi : σ[i]? = some (some (.ref R))) (hR : H0 R = some (.lst (xs.map V.str))) (hn : ∀ (H : Hp) (Q : VK),Q (V.int (n : Int)) H -> tn σ H Q) : Mk σ H0 (tSl (rSlL K) (aU i) (tPart tn) mH) (xs.drop n) := by
 intro H Q x q
 refine ⟨_,hi,hn _ _ ⟨_,rfl,R,_,rfl,bC.of (x _ _ hR),λ p hp => ?_⟩⟩
 rw [kE,cutS_tl]
 exact q p _ hp (aN hp) aC
theorem mk_cut (h : Mk σ H0 t xs) (hn : ∀ (H : Hp) (Q : VK),Q (V.int (n : Int)) H -> tn σ H Q) : Mk σ H0 (tSl (rSlL K) t mH (tPart tn)) (xs.take n) := by
 intro H Q x q
 refine h H _ x λ p1 H1 hp1 x1 k1 => hn _ _ ⟨_,rfl,p1,_,rfl,bC.of k1,λ p hp => ?_⟩
 rw [kE,cutS_hd]
 exact q p _ (x1.free hp) (x1.trans (aN hp)) aC
theorem mk_lst {ta : TA} (h : ∀ (H : Hp) (Q : List V -> Hp -> Prop),Q (ys.map V.str) H -> ta σ H Q) (hl : ys.length <= 200) : Mk σ H0 (tLst ta) ys := by
 intro H Q x q
 exact h H _ ⟨by rw [List.length_map]; exact gH (by omega),λ p hp => q p _ hp (aN hp) aC⟩
end
def Mv (a : Addr) (H H' : Hp) : Prop := ∀ b u,b ≠ a -> (∀ ps,u ≠ HO.tbl ps) -> H b = some u -> H' b = some u
theorem Mv.trans {a : Addr} {H H1 H2 : Hp} (x : Mv a H H1) (y : Mv a H1 H2) : Mv a H H2 := λ b u n t h => y b u n t (x b u n t h)
theorem Mv.of_same {a : Addr} {H H' : Hp} (x : Same H H') : Mv a H H' := λ b u _ _ h => x b u h
theorem Mv.of_ext {a : Addr} {H H' : Hp} (x : iT a H H') : Mv a H H' := λ b u n _ h => x b u n h
theorem Mv.of_but {a p : Addr} {H H' : Hp} (x : But p H H') (t : cS H p) : Mv a H H' := λ b u _ n h => x.nt t b u n h
theorem cS.ext {p a : Addr} {H H' : Hp} (h : cS H p) (x : iT a H H') (f : bM H a) : cS H' p := by
 obtain ⟨_,_,_,ea,_⟩ := f
 rcases h with h | ⟨c,h,hc⟩
 . exact .inl (x _ _ (cO h ea (λ z => nomatch z)) h)
 . exact .inr ⟨c,x _ _ (cO h ea (λ z => nomatch z)) h,x _ _ (cO hc ea (λ z => nomatch z)) hc⟩
theorem cS.flow {p a : Addr} {H H' : Hp} (h : cS H p) (x : But p H H') (f : bM H a) : bM H' a := by
 obtain ⟨u,v,w,ea,r⟩ := f
 exact ⟨u,v,w,x.nt h _ _ (λ _ => nofun) ea,r⟩
structure LaZ (C pt : Addr) (rs : List cY) (row ds : List Str) (a L x D E R : Addr) (H : Hp) : Prop where
 g : gG rs
 sh : iO C H x rs
 r : cI H L rs
 rd : H D = some (.lst ((rs.map (·.1)).map V.str))
 re : H E = some (.lst (ds.map V.str))
 ra : H R = some (.lst (row.map V.str))
 f : bM H a
 t : cS H pt
 nL : L ≠ a
 nD : D ≠ a
 nE : E ≠ a
 nR : R ≠ a
 oa : Of rs row
 la : row.length <= 60
 dn : ds.Nodup
 dm : ∀ d,d ∈ ds ↔ ∃ r ∈ rs,d ∈ r.2
section
variable {rs : List cY} {row ds : List Str} {a L x D E R : Addr} {H H' : Hp}
theorem LaZ.mv (h : LaZ C pt rs row ds a L x D E R H) (m : Mv a H H') (f : bM H' a) (t : cS H' pt) : LaZ C pt rs row ds a L x D E R H' := by
 obtain ⟨_,_,_,ea,_⟩ := h.f
 have keep : ∀ b u,(∀ ps,u ≠ HO.tbl ps) -> (∀ xs,u ≠ HO.lst xs) -> H b = some u -> H' b = some u := λ b u n1 n2 e => m b u (λ z => by rw [z,ea] at e; exact n2 _ (Option.some.inj e).symm) n1 e
 obtain ⟨dx,tl,td,dd,aO,ds',h1,h2,h3,h4,h5,h6,h7,h8,h9⟩ := h.sh
 obtain ⟨ts,r1,r2⟩ := h.r
 exact ⟨h.g,⟨dx,tl,td,dd,aO,ds',keep _ _ (λ _ => nofun) (λ _ => nofun) h1,keep _ _ (λ _ => nofun) (λ _ => nofun) h2,keep _ _ (λ _ => nofun) (λ _ => nofun) h3,h4,h5,h6,h7,keep _ _ (λ _ => nofun) (λ _ => nofun) h8,λ r hr => let ⟨t,zs,a1,b1,c1⟩ := h9 r hr; ⟨t,zs,a1,keep _ _ (λ _ => nofun) (λ _ => nofun) b1,c1⟩⟩,
  ⟨ts,m L (.lst (ts.map V.ref)) h.nL (λ _ => nofun) r1,r2.keep λ b xs q => keep b (.tup xs) (λ _ => nofun) (λ _ => nofun) q⟩,m _ (.lst ((rs.map (·.1)).map V.str)) h.nD (λ _ => nofun) h.rd,m _ (.lst (ds.map V.str)) h.nE (λ _ => nofun) h.re,m _ (.lst (row.map V.str)) h.nR (λ _ => nofun) h.ra,f,t,h.nL,h.nD,h.nE,h.nR,h.oa,h.la,h.dn,h.dm⟩
theorem LaZ.same (h : LaZ C pt rs row ds a L x D E R H) (y : Same H H') : LaZ C pt rs row ds a L x D E R H' := h.mv (.of_same y) (Same.flow y h.f) (h.t.same y)
theorem LaZ.ext (h : LaZ C pt rs row ds a L x D E R H) (y : iT a H H') (f : bM H' a) : LaZ C pt rs row ds a L x D E R H' := h.mv (.of_ext y) f (h.t.ext y h.f)
theorem LaZ.but (h : LaZ C pt rs row ds a L x D E R H) (y : But pt H H') (t : cS H' pt) : LaZ C pt rs row ds a L x D E R H' := h.mv (.of_but y h.t) (h.t.flow y h.f) t
theorem LaZ.ne (h : LaZ C pt rs row ds a L x D E R H) : ds ≠ [] := by
 obtain ⟨r,hW⟩ := List.exists_mem_of_ne_nil _ h.g.ne
 obtain ⟨d,hd⟩ := List.exists_mem_of_ne_nil _ (h.g.row r hW).1
 exact List.ne_nil_of_mem ((h.dm d).mpr ⟨r,hW,hd⟩)
end
theorem pick44 {r : Int} (h0 : 0 <= r) (h1 : r < 4) : ∃ m : Int,oB [V.int 4,V.int 3,V.int 2,V.int 3] r = some (.int m) /\ 1 <= m /\ m <= 4 := by
 obtain ⟨n,rfl⟩ := Int.eq_ofNat_of_zero_le h0
 rcases n with _ | _ | _ | _ | n
 . exact ⟨4,bT (j := 0) rfl,by decide,by decide⟩
 . exact ⟨3,bT (j := 1) rfl,by decide,by decide⟩
 . exact ⟨2,bT (j := 2) rfl,by decide,by decide⟩
 . exact ⟨3,bT (j := 3) rfl,by decide,by decide⟩
 . omega
theorem last_str {ds : List Str} (h : ds ≠ []) : ∃ d ∈ ds,oB (ds.map V.str) (-1) = some (.str d) := by
 refine ⟨ds.getLast h,List.getLast_mem h,?_⟩
 have e : ds.map V.str = ds.dropLast.map V.str ++ [V.str (ds.getLast h)] := by
  have := congrArg (List.map V.str) (List.dropLast_concat_getLast h);rw [List.map_append] at this;exact this.symm
 rw [e]
 exact atI_last _ _
def T3 (C pt : Addr) (tr : TS) : Prop := ∀ (Dn : eL) (s0 s1 s8 s9 s10 s11 s12 s13 s14 s15 : Option V) (a L x D E R : Addr) (rs : List cY) (row ds : List Str) (H1 : Hp),LaZ C pt rs row ds a L x D E R H1 -> (∀ v1 v2 v3 v4 v5 v6 v7 v8 v9 pE kM v12 v13 v14 v15 H',Mv a H1 H' -> cS H' pt -> Dn.nx [s0,v1,v2,v3,v4,v5,v6,v7,v8,v9,pE,kM,v12,v13,v14,v15] H') -> tr Dn [s0,s1,some (.ref a),some (.ref L),some (.ref x),some (.ref D),some (.ref E),some (.ref R),s8,s9,s10,s11,s12,s13,s14,s15] H1
def T2 (C pt : Addr) (tr : TS) : Prop := ∀ (Dn : eL) (s0 s1 s8 s9 s10 s11 s12 s13 s14 s15 : Option V) (a L x D E R : Addr) (rs : List cY) (row ds : List Str) (H1 : Hp),LaZ C pt rs row ds a L x D E R H1 -> (∀ v1 v2 v3 v4 v5 v6 v7 v8 v9 pE kM v12 v13 v14 v15 H',Mv a H1 H' -> cS H' pt -> Dn.nx [s0,v1,v2,v3,v4,v5,v6,v7,v8,v9,pE,kM,v12,v13,v14,v15] H') -> tr Dn [s0,s1,some (.ref a),some (.ref L),some (.ref x),some (.ref D),some (.ref E),some (.ref R),s8,s9,s10,s11,s12,s13,s14,s15] H1
def T1 (C pt : Addr) (tr : TS) : Prop := ∀ (Dn : eL) (s0 s1 s8 s9 s10 s11 s12 s13 s14 s15 : Option V) (a L x D E R : Addr) (rs : List cY) (row ds : List Str) (H1 : Hp),LaZ C pt rs row ds a L x D E R H1 -> (∀ v1 v2 v3 v4 v5 v6 v7 v8 v9 pE kM v12 v13 v14 v15 H',Mv a H1 H' -> cS H' pt -> Dn.nx [s0,v1,v2,v3,v4,v5,v6,v7,v8,v9,pE,kM,v12,v13,v14,v15] H') -> tr Dn [s0,s1,some (.ref a),some (.ref L),some (.ref x),some (.ref D),some (.ref E),some (.ref R),s8,s9,s10,s11,s12,s13,s14,s15] H1
section
variable {g5 g6 g7 g8 g9 gA gB gC gD : Addr} {gd5 gd6 gd7 gd8 gd9 gdA gdB gdC gdD : FuncData}
theorem shifts {Dn R D : Addr} {Q : VK} {H1 : Hp} {ls row : List Str} (hD1 : H1 D = some (.lst (ls.map V.str))) (hR : H1 R = some (.lst (row.map V.str))) (hO : ∀ l ∈ row,l ∈ ls) (l60 : ls.length <= 60) (h100 : row.length <= 100) (hD : H1 Dn = none)
 (oG : ∀ H' (sh : List Str),Same H1 H' -> sh.length = row.length -> (∀ l ∈ sh,l ∈ ls) -> H' Dn = some (.lst (sh.map V.str)) -> Q (.ref Dn) H') :
 cG (Itl K R) Dn (bO 0) fV (iC (nG K) (aU 1) (iC (rI (λ _ j => 0 < j) λ i j => .int (i % j)) (iC (rI0 λ i j => .int (i + j)) (tBM K "list" rIdxS (aU 1) (cC (aU 0) fD)) (tC (.int 1))) (tCB (λ xs H Q => ∃ p ys,xs = [.ref p] /\ (bC K H p ys \/ dM K H p ys) /\ Q (.int ys.length) H) (cC (aU 1) fD)))) Q [none,some (.ref D)] H1 := by
 refine mO (xs := row.map V.str) (λ i ys σ H => ∃ (sh : List Str) (v : Option V),ys = sh.map V.str /\ sh.length = i /\ (∀ l ∈ sh,l ∈ ls) /\ σ = [v,some (.ref D)] /\ Same H1 H) ?_ (by rw [List.length_map]; omega) ?_ ?_ ?_ ?_
 . exact ⟨[],none,rfl,rfl,(λ _ z => nomatch z),rfl,aN hD⟩
 . rintro i ys σ H ⟨sh,v,rfl,rfl,_⟩;rw [List.length_map]; exact Nat.le_refl _
 . rintro i ys σ H ⟨sh,v,_,_,_,_,x1⟩;exact bC.of (x1 _ _ hR)
 . rintro i y ys σ H hy gK ⟨sh,v,rfl,rfl,hm,rfl,x1⟩;rw [List.getElem?_map] at hy;obtain ⟨l,hl,rfl⟩ := Option.map_eq_some_iff.mp hy;have hin := hO l (List.mem_of_getElem? hl);have hpos := List.length_pos_of_mem hin;have kd := x1 _ _ hD1;have hk : (ls.idxOf l + 1) % ls.length < ls.length := Nat.mod_lt _ hpos;have oA : oB (ls.map V.str) (((ls.idxOf l : Nat) : Int) + 1 - 0 + 0) = oB (ls.map V.str) (((ls.idxOf l : Nat) : Int) + 1) := by simp
   clear oA;have oA : oB (ls.map V.str) ((((ls.idxOf l : Nat) : Int) + 1) % (((ls.map V.str).length : Nat) : Int)) = some (.str ls[(ls.idxOf l + 1) % ls.length]) := by
    rw [List.length_map,show ((((ls.idxOf l : Nat) : Int) + 1) % ((ls.length : Nat) : Int)) = (((ls.idxOf l + 1) % ls.length : Nat) : Int) by simp];exact at_str (List.getElem?_eq_getElem hk)
   refine ⟨_,rfl,_,rfl,.inl ⟨rfl,_,bC.of kd⟩,_,rfl,D,l,ls,rfl,rfl,kd,hin,by omega,_,_,rfl,rfl,_,rfl,D,_,rfl,.inl (bC.of kd),_,_,rfl,rfl,by rw [List.length_map]; omega,D,_,_,_,rfl,rfl,bC.of kd,oA,gK,sh ++ [ls[(ls.idxOf l + 1) % ls.length]],_,by rw [List.map_append]; rfl,by rw [List.length_append]; rfl,λ l' hl' => ?_,rfl,x1.at hD⟩
   rcases List.mem_append.mp hl' with z | z
   . exact hm l' z
   . rw [List.mem_singleton.mp z]; exact List.getElem_mem hk
 . rintro ys σ H gK ⟨sh,v,rfl,e,hm,_,x1⟩;rw [List.length_map] at e;exact oG H sh x1 e hm gK
def spLaw (K : W.Frag) (pt : Addr) : Sp := λ vs H Q _ => ∃ (a : Addr) (ns : List Int),vs = [.ref a] /\ bC K H a (ns.map V.int) /\ ns.length <= 63 /\ cS H pt /\ ∀ H',Q (.bl true) H'
theorem sc_law : bI ["_law_script","_law_k","_law_flow_here","_law_rows","_law_sharing","_law_letters","_law_desks_here","_law_row_here","_law_desk","_law_other","_law_shifted","_law_one","_law_strange_here","_law_at","_law_again","_law_bad"] ["_law_script"] (aG gI) := (.of rfl rfl rfl rfl (by decide +kernel))
theorem law_t3 {cdv : Value} {A : Around} {outer : List Env} {s : Shared} {H : Hp} {E : XK} (hr : dW (k + 1) (A.deeper (envOfC "law" (aG gI) s.heap.objs.size f cdv))) (B : Bt mg) (bK : Fn P w K mg base (k + 1) "_law_strange" ["_law_flow_here","_law_some"] pF g6 gd6) (aI : Fn P w K mg base (k + 1) "_law_draw" ["_law_flow_here","_law_many"] jB g2 gd2) (dD : Fn P w K mg base (k + 1) "_law_told" ["_law_sharing","_law_row_here","_law_desk"] (spTold K C pt) g7 gd7) (fA : Fn P w K mg base (k + 1) "_law_stays" ["_law_sharing","_law_rows"] (spStays C) gD gdD) :
 ∃ tr,PSs (cH gO P w K mg base ["_law_script","_law_k","_law_flow_here","_law_rows","_law_sharing","_law_letters","_law_desks_here","_law_row_here","_law_desk","_law_other","_law_shifted","_law_one","_law_strange_here","_law_at","_law_again","_law_bad"] "law" (aG gI) f cdv A outer s H E).nox (List.drop 11 (lU gI)) tr /\ T3 C pt tr := by
 have nd := sc_law.nd
 have hs := dA
 refine ⟨_,(aE (aS (i := 12) nd rfl (Or.inl rfl) (iG (aB (aQ bK.ok hr rfl bK.at_ bK.kp bK.bn .nil bE (aB (pv 2) (aB (pv 5) aF))) (aB (aQ bK.ok hr rfl bK.at_ bK.kp bK.bn .nil bE (aB (pv 2) (aB (pv 6) aF))) aF)))) (aE (aS (i := 13) nd rfl (Or.inl rfl) (aQ aI.ok hr rfl aI.at_ aI.kp aI.bn .nil bE (aB (pv 2) (aB (aW dF (aZ cQ rfl B.len_ PySem.boot_len (aB (pv 7) aF)) aJ) aF)))) (aE (aS (i := 14) nd rfl (Or.inl rfl) (aQ bK.ok hr rfl bK.at_ bK.kp bK.bn .nil bE (aB (pv 2) (aB (pv 5) aF)))) (aE (aS (i := 15) nd rfl (Or.inl rfl) (dS kZ (aW op_cat (aW op_cat (aW op_cat (dS kZ (pv 7) eZ (fB (pv 13))) (dS kZ (pv 12) eZ (fB aJ))) (dS kZ (pv 7) (fB (pv 13)) eZ)) (iG (aB (pv 14) aF))) eZ (fB aJ))) (aE (dH (bX mI (cN bS (pv 12) aJ (λ _ _ => rfl)) (pv 15) rfl) (aK (dH (bX (op_neTV (qD hr)) (aQ dD.ok hr rfl dD.at_ dD.kp dD.bn .nil bE (aB (pv 4) (aB (pv 15) (aB (cN bS (pv 12) aJ (λ _ _ => rfl)) aF)))) (fP (aB gM (aB (cN bS (pv 12) aJ (λ _ _ => rfl)) aF))) (eD _)) (aK (bN kK)) bU)) bU) (aK (dH (PW.pt (pw_or (bX (op_neTV (qD hr)) (aQ dD.ok hr rfl dD.at_ dD.kp dD.bn .nil bE (aB (pv 4) (aB (pv 7) (aB (cN bS (pv 12) aJ (λ _ _ => rfl)) aF)))) (fP (aB gM (aB (cN bS (pv 12) aJ (λ _ _ => rfl)) aF))) (eD _)) (pw_or1 (jQ (fM (aQ fA.ok hr rfl fA.at_ fA.kp fA.bn .nil bE (aB (pv 4) (aB (pv 3) aF))) (λ _ => rfl)))))) (aK (bN kK)) bU))))))),?_⟩
 rintro Dn s0 s1 s8 s9 s10 s11 s12 s13 s14 s15 a L x D E R rs row ds H1 hF q
 try dsimp only [cH,Cx.nox,Cx.wish]
 refine lats6 ?_
 intro D0 σ0 U6 U5 U4 U3 U2
 have hG := hF.g
 have l6 := hG.len
 have d4 := few_len hF.g hF.dn hF.dm
 have lsn : rs.map (·.1) ≠ [] := λ e => hG.ne (List.map_eq_nil_iff.mp e)
 have lsl : (rs.map (·.1)).length <= 6 := by rw [List.length_map]; exact l6
 have dbd : Bd ds := λ d hd => by
  obtain ⟨r,a1,b1⟩ := (hF.dm d).mp hd;exact hG.dn r a1 d b1
 have dfm : ∀ d,d ∉ ds -> d ∉ rs.flatMap (·.2) := λ d hd z => by
  obtain ⟨r,a1,b1⟩ := List.mem_flatMap.mp z;exact hd ((hF.dm d).mpr ⟨r,a1,b1⟩)
 refine ⟨_,rfl,_,rfl,a,D,rs.map (·.1),rfl,hF.f,hF.rd,hF.nD,lsn,by omega,hG.nm,λ n1 H2 hn1 f2 x2 => ?_⟩
 have hF2 := hF.ext x2 f2
 refine ⟨_,rfl,_,rfl,a,E,ds,rfl,f2,hF2.re,hF.nE,hF.ne,by omega,dbd,λ n2 H3 hn2 f3 x3 => ⟨gH (show 2 <= 1000 by decide),λ S hS => ?_⟩⟩
 have hF3 := hF2.ext x3 f3
 have x4 : Same H3 (aL H3 S (.lst [.str n1,.str n2])) := aN hS
 have k4 : aL H3 S (.lst [.str n1,.str n2]) S = some (.lst ([n1,n2].map V.str)) := aC
 have nS : S ≠ a := dN hS f3
 generalize aL H3 S (.lst [.str n1,.str n2]) = H4 at x4 k4 ⊢
 have hF4 := hF3.same x4
 have m4 : Mv a H1 H4 := Mv.trans (.of_ext (x2.trans x3)) (.of_same x4)
 clear hF2 hF3 x2 x3 x4 hS f2 f3
 refine ⟨_,rfl,_,rfl,R,_,rfl,.inl (bC.of hF4.ra),_,_,rfl,rfl,a,_,rfl,hF4.f,by rw [List.length_map]; omega,by rw [List.length_map]; have := hF.la; omega,λ r6 H6 r60 r61 f6 x6 => ?_⟩
 rw [List.length_map] at r61
 obtain ⟨n,rfl⟩ := Int.eq_ofNat_of_zero_le r60
 have hF6 := hF4.ext x6 f6
 have k6 := x6 _ _ nS k4
 refine ⟨_,rfl,_,rfl,a,D,rs.map (·.1),rfl,f6,hF6.rd,hF.nD,lsn,by omega,hG.nm,λ n3 H7 hn3 f7 x7 => ?_⟩
 have hF7 := hF6.ext x7 f7
 have k7 := x7 _ _ nS k6
 have m7 : Mv a H1 H7 := m4.trans (.of_ext (x6.trans x7))
 clear hF4 hF6 k4 k6 m4 x6 x7 f6
 have hla := hF.la
 refine mk_cut (K := K) (n := 60) (mk_cat (mk_cat (mk_cat (mk_hd (n := n) rfl hF7.ra λ _ _ q => ⟨_,rfl,q⟩) (mk_hd (n := 1) rfl k7 λ _ _ q => q) (by simp only [List.length_take,List.length_cons,List.length_nil]; omega)) (mk_tl (n := n) rfl hF7.ra λ _ _ q => ⟨_,rfl,q⟩) (by simp only [List.length_append,List.length_take,List.length_drop,List.length_cons,List.length_nil]; omega)) (mk_lst (ys := [n3]) (λ _ _ q => ⟨_,rfl,q⟩) (show 1 <= 200 by decide)) (by simp only [List.length_append,List.length_take,List.length_drop,List.length_cons,List.length_nil]; omega)) (λ _ _ q => q) H7 _ (Same.refl _) λ bA H8 hbA y8 k8 => ?_
 rw [show (row.take n ++ List.take 1 [n1,n2] ++ row.drop n ++ [n3]).take 60 = (row.take n ++ (n1 :: (row.drop n ++ [n3]))).take 60 by simp] at k8
 have hbad := bad_cut (ls := rs.map (·.1)) (A := row.take n) (B := row.drop n ++ [n3]) (m := 60) (λ l hl => hF.oa l (List.mem_of_mem_take hl)) hn1
 have lbad : ((row.take n ++ (n1 :: (row.drop n ++ [n3]))).take 60).length <= 60 := by rw [List.length_take]; omega
 generalize (row.take n ++ (n1 :: (row.drop n ++ [n3]))).take 60 = bd at hbad lbad k8
 have hF8 := hF7.same y8
 have kS8 := y8 _ _ k7
 have m8 : Mv a H1 H8 := m7.trans (.of_same y8)
 clear hF7 k7 m7 y8 hbA
 have b2 : pX (rs.flatMap (·.2)) [n2] = some n2 := bad_app (A := []) (B := []) (λ _ z => nomatch z) (dfm n2 hn2)
 have at0 : oB (([n1,n2] : List Str).map V.str) 0 = some (.str n1) := bT (j := 0) rfl
 have at1 : oB (([n1,n2] : List Str).map V.str) 1 = some (.str n2) := bT (j := 1) rfl
 have rest : ∀ H',Same H8 H' -> U6 D0 [s0,s1,some (.ref a),some (.ref L),some (.ref x),some (.ref D),some (.ref E),some (.ref R),s8,s9,s10,s11,some (.ref S),some (.int (n : Int)),some (.str n3),some (.ref bA)] H' := λ H' y => by
  have qI := hF8.same y;refine ⟨_,rfl,_,rfl,_,rfl,S,_,_,_,rfl,rfl,bC.of (y _ _ kS8),at1,.inr ⟨x,R,rs,row,n2,n2,rfl,qI.sh,hG,bC.of qI.ra,hF.la,qI.t,hF.oa,b2,λ t1 H29 _ y29 ht1 => ?_⟩⟩;refine ⟨_,rfl,S,_,_,_,rfl,rfl,bC.of (y29 _ _ (y _ _ kS8)),at1,gH (show 2 <= 1000 by decide),λ u1 hu1 => ⟨t1,u1,[.str "no desk",.str n2],rfl,rfl,aN hu1 _ _ ht1,aC,two_str,_,rfl,kL ?_⟩⟩;have y30 : Same H' (aL H29 u1 (.tup [.str "no desk",.str n2])) := y29.trans (aN hu1);generalize aL H29 u1 (.tup [.str "no desk",.str n2]) = H30 at y30 ⊢;have hF30 := qI.same y30;refine ⟨_,rfl,_,rfl,x,L,rs,rfl,hF30.sh,hF30.r,hG,λ H44 y44 => ⟨_,rfl,kL ?_⟩⟩;exact q _ _ _ _ _ _ _ _ _ _ _ _ _ _ _ H44 (m8.trans (.of_same (y.trans (y30.trans y44)))) (hF30.t.same y44)
 refine ⟨_,rfl,S,_,_,_,rfl,rfl,bC.of kS8,at0,_,rfl,bA,_,rfl,.inl (bC.of k8),rfl,eF bd,_,rfl,?_⟩
 refine kW (λ c1 => ?_) (λ c1 => rest _ (Same.refl _))
 have hin : n1 ∈ bd := inV_mem.mp (by simpa using c1)
 refine ⟨_,rfl,_,rfl,_,rfl,S,_,_,_,rfl,rfl,bC.of kS8,at1,.inl ⟨x,bA,rs,bd,n2,n1,rfl,hF8.sh,hG,bC.of k8,lbad,hF8.t,hbad hin,λ t1 H29 _ y29 ht1 => ?_⟩⟩
 refine ⟨_,rfl,S,_,_,_,rfl,rfl,bC.of (y29 _ _ kS8),at0,gH (show 2 <= 1000 by decide),λ u1 hu1 => ⟨t1,u1,[.str "no letter",.str n1],rfl,rfl,aN hu1 _ _ ht1,aC,two_str,_,rfl,kL ?_⟩⟩
 exact rest _ (y29.trans (aN hu1))
theorem law_t2 {cdv : Value} {A : Around} {outer : List Env} {s : Shared} {H : Hp} {E : XK} (hr : dW (k + 1) (A.deeper (envOfC "law" (aG gI) s.heap.objs.size f cdv))) (B : Bt mg) {tr1 : TS} (hR1 : PSs (cH gO P w K mg base ["_law_script","_law_k","_law_flow_here","_law_rows","_law_sharing","_law_letters","_law_desks_here","_law_row_here","_law_desk","_law_other","_law_shifted","_law_one","_law_strange_here","_law_at","_law_again","_law_bad"] "law" (aG gI) f cdv A outer s H E).nox (List.drop 11 (lU gI)) tr1) (hT1 : T3 C pt tr1) (cF : pS P w K mg base k C g4 gd4) (cW : Fn P w K mg base (k + 1) "_law_next_desks" ["_law_rows"] spNext gB gdB) (bQ : Fn P w K mg base (k + 1) "_law_right" ["_law_sharing","_law_rows","_law_row_here","_law_desk"] (rC K C pt) gC gdC) :
 ∃ tr,PSs (cH gO P w K mg base ["_law_script","_law_k","_law_flow_here","_law_rows","_law_sharing","_law_letters","_law_desks_here","_law_row_here","_law_desk","_law_other","_law_shifted","_law_one","_law_strange_here","_law_at","_law_again","_law_bad"] "law" (aG gI) f cdv A outer s H E).nox (List.drop 7 (lU gI)) tr /\ T2 C pt tr := by
 have nd := sc_law.nd
 have hs := dA
 refine ⟨_,(aE (aS (i := 9) nd rfl (Or.inl rfl) (aQ cW.ok hr rfl cW.at_ cW.kp cW.bn .nil bE (aB (pv 3) aF))) (aE (dH (jQ (fM (aQ bQ.ok hr rfl bQ.at_ bQ.kp bQ.bn .nil bE (aB (pe_make cF.mak cF.ok hr rfl cF.at_ cF.bn .nil bE (aB (cX eB rfl B.list_ (by decide +kernel) (aB (pv 9) aF)) aF)) (aB (pv 9) (aB (pv 7) (aB (cN bS (pv 6) pe_neg1 (λ _ _ => rfl)) aF))))) (λ _ => rfl))) (aK (bN kK)) bU) (aE (ps_setC (i := 10) nd rfl (Or.inl rfl) (g := (bO 0)) (tc := fV) (te := (iC (nG K) (aU 1) (iC (rI (λ _ j => 0 < j) λ i j => .int (i % j)) (iC (rI0 λ i j => .int (i + j)) (tBM K "list" rIdxS (aU 1) (cC (aU 0) fD)) (tC (.int 1))) (tCB (λ xs H Q => ∃ p ys,xs = [.ref p] /\ (bC K H p ys \/ dM K H p ys) /\ Q (.int ys.length) H) (cC (aU 1) fD))))) (own := ["_law_letter"]) (fr := ["_law_letters"]) (idx := [5]) rfl (by show aV _ _ _ (aG gI); exact (.of rfl (by decide +kernel))) (dG (pv 7)) (λ _ _ _ _ _ => (aP (i := 0) (by show List.Nodup (["_law_letter","_law_letters"] : List Str); decide +kernel) rfl (Or.inl rfl) (Or.inr rfl))) (λ _ _ _ _ _ => dI) (λ _ _ _ _ _ => (cN bS (pv 1) (aW gN (aW dF (pA PySem.F.plainAttrs_list PySem.F.slot_list_index PySem.F.type_list_index mt_indexS (pv 1) (aB (pv 0) aF)) aJ) (aZ cQ rfl B.len_ PySem.boot_len (aB (pv 1) aF))) (λ _ _ => rfl))) rfl (dO rfl)) (aE (dC PassesOwn.never rfl (fZ (fP (aB (pe_rev (pv 7) (by exact pe_neg1)) (aB (pv 10) (aB (pv 7) aF))))) (aP (i := 11) nd rfl (Or.inl rfl)) (aK (dH (jQ (fM (aQ bQ.ok hr rfl bQ.at_ bQ.kp bQ.bn .nil bE (aB (pv 4) (aB (pv 3) (aB (pv 11) (aB (cN bS (pv 6) pe_neg1 (λ _ _ => rfl)) aF))))) (λ _ => rfl))) (aK (bN kK)) bU)))
  hR1)))),?_⟩
 rintro Dn s0 s1 s8 s9 s10 s11 s12 s13 s14 s15 a L x D E R rs row ds H1 hF q
 try dsimp only [cH,Cx.nox,Cx.wish]
 refine lats5 ?_
 intro D0 σ0 U5 U4 U3 U2
 have hG := hF.g
 have l6 := hG.len
 obtain ⟨dl,hdl,oA⟩ := last_str hF.ne
 have hdr := (hF.dm dl).mp hdl
 refine ⟨_,rfl,L,rs,rfl,hF.r,hG,λ Hs H31 _ y31 hR31 => ?_⟩
 have hG2 := nextD_good hG
 obtain ⟨tz1,hLz1,hTz1⟩ := id (hR31)
 refine ⟨_,rfl,_,_,rfl,.inl (bC.of hLz1),λ lc hlc y dx hx hdx ndx => ?_⟩
 have y6 : Same H31 (aL (aL (aL H31 lc (.lst (tz1.map V.ref))) dx (.own y)) y (.ins C dx [])) := ((aN hlc).trans (aN hdx)).trans (aN (by rw [aH (Ne.symm ndx)]; exact hx))
 have h6 : aL (aL (aL H31 lc (.lst (tz1.map V.ref))) dx (.own y)) y (.ins C dx []) y = some (.ins C dx []) := aC
 have h6c : aL (aL (aL H31 lc (.lst (tz1.map V.ref))) dx (.own y)) y (.ins C dx []) lc = some (.lst (tz1.map V.ref)) := by
  rw [aH (aD (H := aL H31 lc (.lst (tz1.map V.ref))) aC hx),aH (aD (H := aL H31 lc (.lst (tz1.map V.ref))) aC hdx)];exact aC
 have hx5 : H31 y = none := (aN hlc).free hx
 generalize aL (aL (aL H31 lc (.lst (tz1.map V.ref))) dx (.own y)) y (.ins C dx []) = H6 at y6 h6 h6c ⊢
 refine ⟨y,lc,dx,(iI rs),rfl,h6,⟨tz1,h6c,eU.keep (Same.tk y6) hTz1⟩,hG2,λ H32 hTw x7 => ⟨rfl,?_⟩⟩
 have y32 : Same H31 H32 := λ b o e => x7 b o (aD e hx5) (y6 _ _ e)
 clear x7 hx5 h6c h6 y6 hx hdx ndx hlc
 have y12 := y31.trans y32
 have hF2 := hF.same y12
 have of2 : Of (iI rs) row := λ l hl => by rw [pJ]; exact hF.oa l hl
 have od2 : ∃ r ∈ iI rs,dl ∈ r.2 := List.mem_flatMap.mp (nextD_desks (List.mem_flatMap.mpr hdr))
 refine ⟨_,rfl,_,rfl,_,rfl,E,_,_,_,rfl,rfl,bC.of hF2.re,oA,y,Hs,R,iI rs,row,dl,rfl,hTw,hR31.same y32,hG2,hF2.ra,of2,od2,hF.la,hF2.t,λ H33 b33 t33 => ⟨_,rfl,kL ?_⟩⟩
 have hF33 := hF2.but b33 t33
 have m33 : Mv a H1 H33 := Mv.trans (.of_same y12) (.of_but b33 hF2.t)
 clear hTw hR31 y31 y32 y12 of2 od2 hG2 hF2 b33
 refine ⟨_,rfl,R,rfl,⟨_,bC.of hF33.ra⟩,λ Sd hSd => shifts (K := K) hF33.rd hF33.ra hF.oa (by rw [List.length_map]; omega) (by have := hF.la; omega) hSd λ H34 sh y34 lsh msh k34 => ?_⟩
 have nSd : Sd ≠ a := dN hSd hF33.f
 have hF34 := hF33.same y34
 have m34 : Mv a H1 H34 := m33.trans (.of_same y34)
 clear hF33 m33 y34
 refine ⟨_,rfl,R,_,rfl,bC.of hF34.ra,λ q1 hq1 => ?_⟩
 rw [<- List.map_reverse]
 have y35 : Same H34 (aL H34 q1 (.lst (row.reverse.map V.str))) := aN hq1
 have k35 : aL H34 q1 (.lst (row.reverse.map V.str)) q1 = some (.lst (row.reverse.map V.str)) := aC
 have nq : q1 ≠ a := dN hq1 hF34.f
 generalize aL H34 q1 (.lst (row.reverse.map V.str)) = H35 at y35 k35 ⊢
 have hF35 := hF34.same y35
 have k345 := y35 _ _ k34
 have m35 : Mv a H1 H35 := m34.trans (.of_same y35)
 clear hF34 m34 y35 k34
 refine ⟨_,rfl,_,rfl,gH (show 3 <= 1000 by decide),λ T hT => ?_⟩
 have y36 : Same H35 (aL H35 T (.tup [.ref q1,.ref Sd,.ref R])) := aN hT
 have k36 : aL H35 T (.tup [.ref q1,.ref Sd,.ref R]) T = some (.tup [.ref q1,.ref Sd,.ref R]) := aC
 have nT : T ≠ a := dN hT hF35.f
 generalize aL H35 T (.tup [.ref q1,.ref Sd,.ref R]) = H36 at y36 k36 ⊢
 have hF36 := hF35.same y36
 have m36 : Mv a H1 H36 := m35.trans (.of_same y36)
 have all3 : ∀ y ∈ [V.ref q1,.ref Sd,.ref R],∃ (b : Addr) (zs : List Str),y = .ref b /\ b ≠ a /\ H36 b = some (.lst (zs.map V.str)) /\ Of rs zs /\ zs.length <= 60 := by
  intro y hy
  rcases List.mem_cons.mp hy with rfl | hy
  . exact ⟨q1,_,rfl,nq,y36 _ _ k35,λ l hl => hF.oa l (List.mem_reverse.mp hl),by rw [List.length_reverse]; exact hF.la⟩
  rcases List.mem_cons.mp hy with rfl | hy
  . exact ⟨Sd,_,rfl,nSd,y36 _ _ k345,msh,by have := hF.la; omega⟩
  . rw [List.mem_singleton.mp hy]; exact ⟨R,row,rfl,hF.nR,hF36.ra,hF.oa,hF.la⟩
 clear hF35 m35 y36 k345 k35
 refine ⟨T,rfl,⟨_,dM.of k36⟩,jG (xs := [V.ref q1,.ref Sd,.ref R]) (λ i σ H' => ∃ kM : Option V,σ = [s0,s1,some (.ref a),some (.ref L),some (.ref x),some (.ref D),some (.ref E),some (.ref R),s8,some (.ref Hs),some (.ref Sd),kM,s12,s13,s14,s15] /\ LaZ C pt rs row ds a L x D E R H' /\ Mv a H36 H') ?_ ?_ ?_ ?_⟩
 . exact ⟨_,rfl,hF36,λ _ _ _ _ h => h⟩
 . rintro i σ H' _ ⟨v8,_,_,m⟩;exact dM.of (m T (.tup [.ref q1,.ref Sd,.ref R]) nT (λ _ => nofun) k36)
 . rintro i y σ H' hy ⟨kM,rfl,qI,m⟩;obtain ⟨b,zs,rfl,nb,kb,oz,lz⟩ := all3 y (List.mem_of_getElem? hy);refine ⟨_,rfl,_,rfl,_,rfl,_,rfl,E,_,_,_,rfl,rfl,bC.of qI.re,oA,x,L,b,rs,zs,dl,rfl,qI.sh,qI.r,qI.g,m b (.lst (zs.map V.str)) nb (λ _ => nofun) kb,oz,hdr,lz,qI.t,λ H5 b5 t5 => ⟨_,rfl,kL ?_⟩⟩;exact ⟨_,rfl,qI.but b5 t5,m.trans (.of_but b5 qI.t)⟩
 . rintro σ H' ⟨kM,rfl,qI,m⟩;exact hT1 Dn s0 s1 _ _ _ _ _ _ _ _ a L x D E R rs row ds H' qI λ v1 v2 v3 v4 v5 v6 v7 v8 v9 pE kM v12 v13 v14 v15 H5 m5 t5 => q _ _ _ _ _ _ _ _ _ _ _ _ _ _ _ H5 ((m36.trans m).trans m5) t5
theorem law_t1 {cdv : Value} {A : Around} {outer : List Env} {s : Shared} {H : Hp} {E : XK} (hr : dW (k + 1) (A.deeper (envOfC "law" (aG gI) s.heap.objs.size f cdv))) (B : Bt mg) {tr1 : TS} (hR1 : PSs (cH gO P w K mg base ["_law_script","_law_k","_law_flow_here","_law_rows","_law_sharing","_law_letters","_law_desks_here","_law_row_here","_law_desk","_law_other","_law_shifted","_law_one","_law_strange_here","_law_at","_law_again","_law_bad"] "law" (aG gI) f cdv A outer s H E).nox (List.drop 7 (lU gI)) tr1) (hT1 : T2 C pt tr1) (bQ : Fn P w K mg base (k + 1) "_law_right" ["_law_sharing","_law_rows","_law_row_here","_law_desk"] (rC K C pt) gC gdC) :
 ∃ tr,PSs (cH gO P w K mg base ["_law_script","_law_k","_law_flow_here","_law_rows","_law_sharing","_law_letters","_law_desks_here","_law_row_here","_law_desk","_law_other","_law_shifted","_law_one","_law_strange_here","_law_at","_law_again","_law_bad"] "law" (aG gI) f cdv A outer s H E).nox (List.drop 6 (lU gI)) tr /\ T1 C pt tr := by
 have nd := sc_law.nd
 have hs := dA
 refine ⟨_,(aE (dC PassesOwn.never rfl (dG (aW op_cat (pv 6) (dS kZ (pv 6) eZ (fB aJ)))) (aP (i := 8) nd rfl (Or.inl rfl)) (aK (dH (jQ (fM (aQ bQ.ok hr rfl bQ.at_ bQ.kp bQ.bn .nil bE (aB (pv 4) (aB (pv 3) (aB (pv 7) (aB (pv 8) aF))))) (λ _ => rfl))) (aK (bN kK)) bU)))
  hR1),?_⟩
 rintro Dn s0 s1 s8 s9 s10 s11 s12 s13 s14 s15 a L x D E R rs row ds H1 hF q
 try dsimp only [cH,Cx.nox,Cx.wish]
 have d4 := few_len hF.g hF.dn hF.dm
 refine ⟨_,rfl,_,rfl,1,rfl,E,_,rfl,bC.of hF.re,λ p hp => ?_⟩
 rw [kE,show lW ds none (some 1) = ds.take 1 from cutS_hd ds 1]
 have x2 : Same H1 (aL H1 p (.lst ((ds.take 1).map V.str))) := aN hp
 have k2 : aL H1 p (.lst ((ds.take 1).map V.str)) p = some (.lst ((ds.take 1).map V.str)) := aC
 generalize aL H1 p (.lst ((ds.take 1).map V.str)) = H2 at x2 k2 ⊢
 refine ⟨E,p,_,_,rfl,rfl,x2 _ _ hF.re,k2,by simp only [List.length_map,List.length_take]; exact gH (by omega),λ T hT => ?_⟩
 rw [<- List.map_append]
 have x3 : Same H2 (aL H2 T (.lst ((ds ++ ds.take 1).map V.str))) := aN hT
 have k3 : aL H2 T (.lst ((ds ++ ds.take 1).map V.str)) T = some (.lst ((ds ++ ds.take 1).map V.str)) := aC
 have nT : T ≠ a := dN hT (Same.flow x2 hF.f)
 generalize aL H2 T (.lst ((ds ++ ds.take 1).map V.str)) = H3 at x3 k3 ⊢
 have hF3 := (hF.same x2).same x3
 have m3 : Mv a H1 H3 := .of_same (x2.trans x3)
 have hin : ∀ d ∈ ds ++ ds.take 1,∃ r ∈ rs,d ∈ r.2 := λ d hd => by
  rcases List.mem_append.mp hd with z | z
  . exact (hF.dm d).mp z
  . exact (hF.dm d).mp (List.mem_of_mem_take z)
 generalize ds ++ ds.take 1 = es at k3 hin ⊢
 refine ⟨T,rfl,⟨_,bC.of k3⟩,fF (xs := es.map V.str) (λ i σ H' => ∃ v8 : Option V,σ = [s0,s1,some (.ref a),some (.ref L),some (.ref x),some (.ref D),some (.ref E),some (.ref R),v8,s9,s10,s11,s12,s13,s14,s15] /\ LaZ C pt rs row ds a L x D E R H' /\ Mv a H3 H') ?_ ?_ ?_ ?_⟩
 . exact ⟨_,rfl,hF3,λ _ _ _ _ h => h⟩
 . rintro i σ H' _ ⟨v8,_,_,m⟩;exact bC.of (m T (.lst (es.map V.str)) nT (λ _ => nofun) k3)
 . rintro i y σ H' hy ⟨v8,rfl,qI,m⟩;rw [List.getElem?_map] at hy;obtain ⟨d,hd,rfl⟩ := Option.map_eq_some_iff.mp hy;refine ⟨_,rfl,_,rfl,_,rfl,_,rfl,x,L,R,rs,row,d,rfl,qI.sh,qI.r,qI.g,qI.ra,qI.oa,hin d (List.mem_of_getElem? hd),qI.la,qI.t,λ H5 b5 t5 => ⟨_,rfl,kL ?_⟩⟩;exact ⟨_,rfl,qI.but b5 t5,m.trans (.of_but b5 qI.t)⟩
 . rintro σ H' ⟨v8,rfl,qI,m⟩;exact hT1 Dn s0 s1 _ _ _ _ _ _ _ _ a L x D E R rs row ds H' qI λ v1 v2 v3 v4 v5 v6 v7 v8 v9 pE kM v12 v13 v14 v15 H5 m5 t5 => q _ _ _ _ _ _ _ _ _ _ _ _ _ _ _ H5 ((m3.trans m).trans m5) t5
set_option maxHeartbeats 40000000 in
theorem ok_law (F : jY K "law" "law" gI f fd) (B : Bt mg) (cF : pS P w K mg base k C g4 gd4) (jF : Fn P w K mg base (k + 1) "_law_flow" ["_law_script","_law_k"] (spFlow K) g gd) (aI : Fn P w K mg base (k + 1) "_law_draw" ["_law_flow_here","_law_many"] jB g2 gd2) (gU : Fn P w K mg base (k + 1) "_law_houses" ["_law_flow_here","_law_count"] spRows g3 gd3) (lG : Fn P w K mg base (k + 1) "_law_row" ["_law_flow_here","_law_letters","_law_most"] (spRow K) g5 gd5) (aY : Fn P w K mg base (k + 1) "_law_desks" ["_law_rows"] jZ g9 gd9) (cW : Fn P w K mg base (k + 1) "_law_next_desks" ["_law_rows"] spNext gB gdB) (bQ : Fn P w K mg base (k + 1) "_law_right" ["_law_sharing","_law_rows","_law_row_here","_law_desk"] (rC K C pt) gC gdC) (bK : Fn P w K mg base (k + 1) "_law_strange" ["_law_flow_here","_law_some"] pF g6 gd6) (dD : Fn P w K mg base (k + 1) "_law_told" ["_law_sharing","_law_row_here","_law_desk"] (spTold K C pt) g7 gd7) (fA : Fn P w K mg base (k + 1) "_law_stays" ["_law_sharing","_law_rows"] (spStays C) gD gdD) : FnOk P w K mg base gO (k + 2) f fd ["_law_script"] (spLaw K pt) := by
 refine F.ok sc_law (λ vs H Q E h => ?_) (λ cdv A outer s H vs Q E hr h => ?_)
 . obtain ⟨a,ns,rfl,_⟩ := h;rfl
 obtain ⟨z,ns,rfl,hS,h63,hT,q⟩ := h
 have nd := sc_law.nd
 have hs := dA
 obtain ⟨tr1,hR1,hT1⟩ := law_t3 (pt := pt) (cdv := cdv) (A := A) (outer := outer) (s := s) (H := H) (E := E) hr B bK aI dD fA
 obtain ⟨tr2,hR2,hT2⟩ := law_t2 hr B hR1 hT1 cF cW bQ
 obtain ⟨tr3,hR3,hT3⟩ := law_t1 hr B hR2 hT2 bQ
 refine ⟨_,(aE (dC PassesOwn.never rfl (eE rfl B.range_ (aB (aZ (call_max2 rfl) rfl B.max_ (by decide +kernel) (aB aJ (aB (aZ cQ rfl B.len_ PySem.boot_len (aB (dS kZ (pv 0) eZ (fB aJ)) aF)) aF))) aF)) (aP (i := 1) nd rfl (Or.inl rfl)) (aE (aS (i := 2) nd rfl (Or.inl rfl) (aQ jF.ok hr rfl jF.at_ jF.kp jF.bn .nil bE (aB (pv 0) (aB (pv 1) aF)))) (aE (aS (i := 3) nd rfl (Or.inl rfl) (aQ gU.ok hr rfl gU.at_ gU.kp gU.bn .nil bE (aB (pv 2) (aB (aW dF aJ (aQ aI.ok hr rfl aI.at_ aI.kp aI.bn .nil bE (aB (pv 2) (aB (cN bS (iG (aB aJ (aB aJ (aB aJ (aB aJ aF))))) (aQ aI.ok hr rfl aI.at_ aI.kp aI.bn .nil bE (aB (pv 2) (aB aJ aF))) (λ _ _ => rfl)) aF)))) aF)))) (aE (aS (i := 4) nd rfl (Or.inl rfl) (pe_make cF.mak cF.ok hr rfl cF.at_ cF.bn .nil bE (aB (cX eB rfl B.list_ (by decide +kernel) (aB (pv 3) aF)) aF))) (aE (aS (i := 5) nd rfl (Or.inr rfl) (dX (g := (gTup K 2 (fE (bO 0) (fE (bO 1) gNil)))) (tc := fV) (te := (aU 0)) (own := ["_law_letter","_law_some"]) (fr := ([] : List Str)) (idx := []) rfl (by show aV _ _ _ (aG gI); exact (.of rfl (by decide +kernel))) (dG (pv 3)) (λ _ _ _ _ _ => (iE rfl (bW (aP (i := 0) (by show List.Nodup (["_law_letter","_law_some"] : List Str); decide +kernel) rfl (Or.inl rfl) (Or.inr rfl)) (bW (aP (i := 1) (by show List.Nodup (["_law_letter","_law_some"] : List Str); decide +kernel) rfl (Or.inl rfl) (Or.inr rfl)) fJ)))) (λ _ _ _ _ _ => dI) (λ _ _ _ _ _ => (pv 0)) rfl (dO rfl))) (aE (aS (i := 6) nd rfl (Or.inl rfl) (aQ aY.ok hr rfl aY.at_ aY.kp aY.bn .nil bE (aB (pv 3) aF))) (aE (aS (i := 7) nd rfl (Or.inl rfl) (aQ lG.ok hr rfl lG.at_ lG.kp lG.bn .nil bE (aB (pv 2) (aB (pv 5) (aB aJ aF)))))
  hR3))))))) (aK (bN kK))),?_⟩
 refine ⟨_,rfl,3,rfl,z,_,rfl,hS,λ p hp => ⟨p,_,rfl,.inl (bC.of aC),?_⟩⟩
 have hl := qT (ns.map V.int) none (some 3)
 rw [List.length_map] at hl
 generalize cutV (ns.map V.int) none (some 3) = LL at hl ⊢
 refine ⟨1,(LL.length : Int),rfl,_,rfl,by split <;> omega,by split <;> omega,mR (n := (if (LL.length : Int) > 1 then (LL.length : Int) else 1).toNat) (λ i σ H' => ∃ v1 v2 v3 v4 v5 v6 v7 v8 v9 pE kM v12 v13 v14 v15 : Option V,σ = [some (.ref z),v1,v2,v3,v4,v5,v6,v7,v8,v9,pE,kM,v12,v13,v14,v15] /\ bC K H' z (ns.map V.int) /\ cS H' pt) ?_ ?_ ?_⟩
 . exact ⟨_,_,_,_,_,_,_,_,_,_,_,_,_,_,_,rfl,(aN hp).seq hS,hT.same (aN hp)⟩
 . rintro i σ H0 hi ⟨v1,v2,v3,v4,v5,v6,v7,v8,v9,pE,kM,v12,v13,v14,v15,rfl,hS0,T0⟩;refine latg7 ?_;intro D1 σ1 W7 W6 W5 W4 W3 W2;have hi' : i <= 64 := by
    have h1 : (if (LL.length : Int) > 1 then (LL.length : Int) else 1) <= 64 := by split <;> omega
    omega
   refine ⟨_,rfl,_,rfl,z,ns,_,rfl,hS0,h63,by omega,by omega,λ a o2 ha hF => ?_⟩;have scr : ∀ H',Mv a (aL H0 a o2) H' -> bC K H' z (ns.map V.int) := λ H' x => by
    rcases hS0 with (h | ⟨o,h⟩) | h
    . exact .inl (.inl (x _ _ (aD h ha) (λ _ => nofun) (by rw [aH (aD h ha)]; exact h)))
    . exact .inl (.inr ⟨o,x _ _ (aD h ha) (λ _ => nofun) (by rw [aH (aD h ha)]; exact h)⟩)
    . exact .inr h
   have T1 : cS (aL H0 a o2) pt := T0.same (aN ha);generalize aL H0 a o2 = H1 at hF scr T1 ⊢;refine ⟨_,rfl,_,rfl,gH (show 4 <= 1000 by decide),λ pk hpk => ?_⟩;have xk : Same H1 (aL H1 pk (.lst [.int 4,.int 3,.int 2,.int 3])) := aN hpk;have kk : aL H1 pk (.lst [.int 4,.int 3,.int 2,.int 3]) pk = some (.lst [.int 4,.int 3,.int 2,.int 3]) := aC;have npk : pk ≠ a := dN hpk hF;generalize aL H1 pk (.lst [.int 4,.int 3,.int 2,.int 3]) = Hk at xk kk ⊢;refine ⟨_,rfl,a,4,rfl,Same.flow xk hF,by decide,by decide,λ r1 Hj r10 r11 fj xj => ?_⟩;obtain ⟨m0,hm0,m01,m04⟩ := pick44 r10 r11;refine ⟨pk,_,_,_,rfl,rfl,bC.of (xj _ _ npk kk),hm0,a,m0,rfl,fj,by omega,by omega,λ r2 H2 r20 r21 f2 x2 => ⟨_,_,rfl,rfl,a,_,rfl,f2,by omega,by omega,λ L rs H3 hG nL _ f3 x3 hR3 => ?_⟩⟩;have x13 : iT a H1 H3 := (Same.ext xk).trans (xj.trans (x2.trans x3));have T3 := T1.ext x13 hF;have l6 := hG.len;have rpos := List.length_pos_iff.mpr hG.ne;obtain ⟨tz0,hLz0,hTz0⟩ := id (hR3);refine ⟨_,rfl,_,_,rfl,.inl (bC.of hLz0),λ lc hlc x dx hx hdx ndx => ?_⟩;have y6 : Same H3 (aL (aL (aL H3 lc (.lst (tz0.map V.ref))) dx (.own x)) x (.ins C dx [])) := ((aN hlc).trans (aN hdx)).trans (aN (by rw [aH (Ne.symm ndx)]; exact hx));have h6 : aL (aL (aL H3 lc (.lst (tz0.map V.ref))) dx (.own x)) x (.ins C dx []) x = some (.ins C dx []) := aC;have h6c : aL (aL (aL H3 lc (.lst (tz0.map V.ref))) dx (.own x)) x (.ins C dx []) lc = some (.lst (tz0.map V.ref)) := by
    rw [aH (aD (H := aL H3 lc (.lst (tz0.map V.ref))) aC hx),aH (aD (H := aL H3 lc (.lst (tz0.map V.ref))) aC hdx)];exact aC
   have hx5 : H3 x = none := (aN hlc).free hx;generalize aL (aL (aL H3 lc (.lst (tz0.map V.ref))) dx (.own x)) x (.ins C dx []) = H6 at y6 h6 h6c ⊢;refine ⟨x,lc,dx,rs,rfl,h6,⟨tz0,h6c,eU.keep (Same.tk y6) hTz0⟩,hG,λ H4 hSh4 x7 => ⟨rfl,?_⟩⟩;have y4 : Same H3 H4 := λ b o e => x7 b o (aD e hx5) (y6 _ _ e);clear x7 hx5 h6c h6 y6 hx hdx ndx hlc;have hR4 := hR3.same y4;obtain ⟨ts4,hL4,_⟩ := id hR4;refine ⟨_,rfl,L,rfl,⟨_,bC.of hL4⟩,λ D hD => firsts (K := K) (by omega) hD hR4 λ H5 x5 hD5 => ?_⟩;have f5 := Same.flow (y4.trans x5) f3;have nDa : D ≠ a := dN hD (Same.flow y4 f3);have hR5 := hR4.same x5;have hSh5 := hSh4.same x5;have T5 := T3.same (y4.trans x5);have x15 : iT a H1 H5 := x13.trans (Same.ext (y4.trans x5));have lsn : rs.map (·.1) ≠ [] := λ e => hG.ne (List.map_eq_nil_iff.mp e);have lsl : (rs.map (·.1)).length <= 6 := by rw [List.length_map]; exact l6
   clear x13 hD hR4 hL4 hR3 hSh4 y4 x5 x2 x3 xj xk fj f2 f3 hF T1 T3;refine ⟨_,rfl,L,rs,rfl,hR5,by omega,λ r hW => ⟨by have := (hG.row r hW).2.1; omega,(hG.row r hW).2.2⟩,λ e ds H9 _ dn _ dm he x9 ke => ?_⟩;have f9 := Same.flow x9 f5;have nE : e ≠ a := dN he f5;refine ⟨_,rfl,_,rfl,a,D,rs.map (·.1),12,rfl,f9,x9 _ _ hD5,nDa,lsn,by omega,by decide,by decide,λ R row H8 l8 m8 nR _ f8 x8 hR8 => ?_⟩;have hF8 : LaZ C pt rs row ds a L x D e R H8 := ⟨hG,iO.ext (hSh5.same x9) x8 f9,(hR5.same x9).ext x8 f9 nL,x8 _ _ nDa (x9 _ _ hD5),x8 _ _ nE ke,hR8,f8,(T5.same x9).ext x8 f9,nL,nDa,nE,nR,m8,l8,dn,dm⟩;exact hT3 _ _ _ _ _ _ _ _ _ _ _ a L x D e R rs row ds H8 hF8 λ v1 v2 v3 v4 v5 v6 v7 v8 v9 pE kM v12 v13 v14 v15 H' m' t' => ⟨_,_,_,_,_,_,_,_,_,_,_,_,_,_,_,rfl,scr _ ((Mv.of_ext (x15.trans ((Same.ext x9).trans x8))).trans m'),t'⟩
 . rintro σ H0 ⟨v1,v2,v3,v4,v5,v6,v7,v8,v9,pE,kM,v12,v13,v14,v15,rfl,_⟩;exact q H0
end
end KK
namespace KK
open PySem L2 PyProof.Rows
abbrev eJ : Stmt := inClass (top 3) 0
abbrev fK : Stmt := inClass (top 4) 0
theorem us1 {α : Type} {C : List α -> Prop} (h : ∀ a,C [a]) (us : List α) (hl : us.length = 1) : C us := by
 cases us with
 | nil => cases hl
 | cons a t =>
  obtain rfl := List.length_eq_zero_iff.mp (Nat.succ.inj hl);exact h a
theorem us2 {α : Type} {C : List α -> Prop} (h : ∀ a b,C [a,b]) (us : List α) (hl : us.length = 2) : C us := by
 cases us with
 | nil => cases hl
 | cons a t => exact us1 (C := λ t => C (a :: t)) (h a) t (Nat.succ.inj hl)
theorem us3 {α : Type} {C : List α -> Prop} (h : ∀ a b c,C [a,b,c]) (us : List α) (hl : us.length = 3) : C us := by
 cases us with
 | nil => cases hl
 | cons a t => exact us2 (C := λ t => C (a :: t)) (h a) t (Nat.succ.inj hl)
theorem us4 {α : Type} {C : List α -> Prop} (h : ∀ a b c d,C [a,b,c,d]) (us : List α) (hl : us.length = 4) : C us := by
 cases us with
 | nil => cases hl
 | cons a t => exact us3 (C := λ t => C (a :: t)) (h a) t (Nat.succ.inj hl)
theorem us5 {α : Type} {C : List α -> Prop} (h : ∀ a b c d e,C [a,b,c,d,e]) (us : List α) (hl : us.length = 5) : C us := by
 cases us with
 | nil => cases hl
 | cons a t => exact us4 (C := λ t => C (a :: t)) (h a) t (Nat.succ.inj hl)
def Df (K : W.Frag) (x : Str) (st : Stmt) : Prop := ∃ (f : Addr) (oc : Value) (od an : Option Addr) (sl : Array (Option Value)) (kV dc pm cd ct : Value),PySem.W.nsIn K mainGlobals x = some (some (.ref f)) /\ K.lookup f = some ⟨oc,od,.func (PySem.W.fnOf x x (dZ st) (cL st) (aG st) .none kV dc pm an cd ct),sl⟩ /\ PySem.W.codeIn K cd x = true /\ W.keepIn K (.ref f) = true
theorem Df.mk' {K : W.Frag} {x : Str} {st : Stmt} {f : Addr} {oc : Value} {od an : Option Addr} {sl : Array (Option Value)} {kV dc pm cd ct : Value} (a : PySem.W.nsIn K mainGlobals x = some (some (.ref f))) (l : K.lookup f = some ⟨oc,od,.func (PySem.W.fnOf x x (dZ st) (cL st) (aG st) .none kV dc pm an cd ct),sl⟩) (c : PySem.W.codeIn K cd x = true) (k : W.keepIn K (.ref f) = true) : Df K x st := ⟨f,oc,od,an,sl,kV,dc,pm,cd,ct,a,l,c,k⟩
theorem Df.get {K : W.Frag} {x : Str} {st : Stmt} {h : Heap} {mg : Str -> Option Value} (p : Df K x st) (X : K.In h) (G : h.Ns mainGlobals mg) : ∃ (f : Addr) (fd : FuncData),jY K x x st f fd /\ W.keepIn K (.ref f) = true /\ mg x = some (.ref f) := by
 obtain ⟨f,oc,od,an,sl,kV,dc,pm,cd,ct,a,l,c,k⟩ := p
 exact ⟨f,_,pT l c k,k,PySem.W.mg_of X G a⟩
theorem df_binds {K : W.Frag} {x y : Str} {st : Stmt} {f : Addr} {fd : FuncData} (F : jY K x x st f fd) (hb : ∀ (kV dc pm : Value) (an : Option Addr) (cd ct : Value) (v : Value),bindArgs (PySem.W.fnOf x x (dZ st) (cL st) (aG st) .none kV dc pm an cd ct) ⟨[v],[]⟩ = pure [(y,v)]) (s : Shared) (v : Value) : BindsTo s fd ⟨[v],[]⟩ [(y,v)] := by
 obtain ⟨oc,od,kV,dc,pm,an,cd,ct,sl,rfl,lk,qR⟩ := F.ex
 exact .of_eq (hb kV dc pm an cd ct v)
def cs2 (c4 c5 : Addr) (i : Nat) : Addr := if i = 4 then c4 else c5
theorem kit_self (K : W.Frag) (t : Value) : W.kitOne K t t = some true := by
 unfold W.kitOne
 rw [if_pos (by simp)]
set_option maxHeartbeats 40000000 in
theorem all_mk {l : W.OpenLaw} {w : World} {K : W.Frag} {h : Heap} {mg : Str -> Option Value} {fa : Addr} (X : K.In h) (G : h.Ns mainGlobals mg) (hfa : mg "law" = some (.ref fa)) {cc pt : Addr}
 {f_new : Addr} {od_new an_new : Option Addr} {sl_new : Array (Option Value)} {oc_new kV_new dc_new pm_new cd_new ct_new : Value}
 {C_Sharing : Addr}
 {f_ini : Addr} {od_ini an_ini : Option Addr} {sl_ini : Array (Option Value)} {oc_ini kV_ini dc_ini pm_ini cd_ini ct_ini : Value}
 {f_mee : Addr} {od_mee an_mee : Option Addr} {sl_mee : Array (Option Value)} {oc_mee kV_mee dc_mee pm_mee cd_mee ct_mee : Value}
 {cM : Addr} {nmM quM : Str} {NM : Addr} {bsM subM : List Value} {snM : List Str} {abM : Bool} {colM : Option Bool} {ddM : Option Addr} {uM vM wM xM yM : Option Value}
 {cT : Addr} {nmT quT : Str} {NT : Addr} {bsT subT : List Value} {snT : List Str} {abT : Bool} {colT : Option Bool} {ddT : Option Addr} {uT vT wT xT yT : Option Value} {gT : Addr} {ocdT : ClassData}
 {od_gT an_gT : Option Addr} {sl_gT : Array (Option Value)} {oc_gT kV_gT dc_gT pm_gT cd_gT ct_gT : Value}
 {cD : Addr} {nmD quD : Str} {ND : Addr} {bsD subD : List Value} {snD : List Str} {abD : Bool} {colD : Option Bool} {ddD : Option Addr} {uD vD wD xD yD : Option Value} {gD : Addr} {ocdD : ClassData}
 {od_gD an_gD : Option Addr} {sl_gD : Array (Option Value)} {oc_gD kV_gD dc_gD pm_gD cd_gD ct_gD : Value}
 (p_cell : Df K "_law_cell" sCell)
 (p_flow : Df K "_law_flow" sFlow)
 (p_draw : Df K "_law_draw" sDraw)
 (p_nam : Df K "_law_names" nN)
 (p_hou : Df K "_law_houses" iK)
 (p_str : Df K "_law_strange" jR)
 (p_row : Df K "_law_row" mU)
 (p_lat : Df K "_law_latest" iP)
 (p_tri : Df K "_law_triples" jW)
 (p_des : Df K "_law_desks" jO)
 (p_und : Df K "_law_under" lY)
 (p_rfs : Df K "_law_refusal" gW)
 (p_tol : Df K "_law_told" lC)
 (p_rig : Df K "_law_right" jN)
 (p_sta : Df K "_law_stays" hJ)
 (p_nex : Df K "_law_next_desks" eY)
 (p_law : Df K "law" gI)
 (p_ris : Df K "rising" s_rising)
 (p_twi : Df K "refuse_twice" iY)
 (p_ref : Df K "refuse_rows" jX)
 (p_rfl : Df K "refuse_letters" gL)
 (p_rdk : Df K "refuse_desks" iW)
 (p_his : Df K "history_of" fX)
 (p_was : Df K "was_at" s_was_at)
 (a_new : W.nsIn K mainGlobals "news_at" = some (some (.ref f_new)))
 (l_new : K.lookup f_new = some ⟨oc_new,od_new,.func (W.fnOf "news_at" "news_at" (dZ cK) (cL cK) (aG cK) .none kV_new dc_new pm_new an_new cd_new ct_new),sl_new⟩)
 (c_new : W.codeIn K cd_new "news_at" = true)
 (k_new : W.keepIn K (.ref f_new) = true)
 (ca_Sharing : W.nsIn K mainGlobals "Sharing" = some (some (.ref C_Sharing)))
 (cm_Sharing : W.makesIn K C_Sharing = true)
 (ck_Sharing : W.keepIn K (.ref C_Sharing) = true)
 (cg_Sharing : W.plainGet K C_Sharing Str.empty = true)
 (ch_Sharing : W.hasDictIn K C_Sharing = true)
 (co_Sharing : W.plainOver K C_Sharing = true)
 (cs_Sharing : W.findIn K (.ref C_Sharing) "__setattr__" = some (some (.builtin "object.__setattr__")))
 (nX : W.findIn K (.ref C_Sharing) "letters" = some none)
 (pP : W.findIn K (.ref C_Sharing) "desks" = some none)
 (mV : W.findIn K (.ref C_Sharing) "desks_at" = some none)
 (ma_ini : W.findIn K (.ref C_Sharing) "__init__" = some (some (.ref f_ini)))
 (mb_ini : W.isFn K (.ref f_ini) = true)
 (l_ini : K.lookup f_ini = some ⟨oc_ini,od_ini,.func (W.fnOf "__init__" "Sharing.__init__" (dZ cA) (cL cA) (aG cA) .none kV_ini dc_ini pm_ini an_ini cd_ini ct_ini),sl_ini⟩)
 (c_ini : W.codeIn K cd_ini "Sharing.__init__" = true)
 (k_ini : W.keepIn K (.ref f_ini) = true)
 (ma_mee : W.findIn K (.ref C_Sharing) "meet" = some (some (.ref f_mee)))
 (mb_mee : W.isFn K (.ref f_mee) = true)
 (l_mee : K.lookup f_mee = some ⟨oc_mee,od_mee,.func (W.fnOf "meet" "Sharing.meet" (dZ dU) (cL dU) (aG dU) .none kV_mee dc_mee pm_mee an_mee cd_mee ct_mee),sl_mee⟩)
 (c_mee : W.codeIn K cd_mee "Sharing.meet" = true)
 (k_mee : W.keepIn K (.ref f_mee) = true)
 (aM : W.nsIn K mainGlobals "MeetError" = some (some (.ref cM)))
 (cbM : K.lookup cM = some (excClassObj nmM quM cM NM bsM eM true snM subM abM colM ddM uM vM wM xM yM "ValueError.__new__"))
 (kg : W.specialIn K (.builtin "object.__class__") "__get__" = some (some (.builtin "getset_descriptor.__get__")))
 (kt : W.takesIn K (.builtin "object.__class__") = some true)
 (caT : W.nsIn K mainGlobals "NoLetter" = some (some (.ref cT)))
 (cbT : K.lookup cT = some (excClassObj nmT quT cT NT bsT (.ref cM :: eM) true snT subT abT colT ddT uT vT wT xT yT "ValueError.__new__"))
 (ccT : W.findIn K (.ref cT) "__getattribute__" = some (some (.builtin "BaseException.__getattribute__")))
 (cxT : W.findIn K (.ref cT) "__getattr__" = some none)
 (cdT : W.hasDictIn K cT = true)
 (ceT : W.findIn K (.ref cT) "__setattr__" = some (some (.builtin "object.__setattr__")))
 (cfT : W.findIn K (.ref cT) "__class__" = some (some (.builtin "object.__class__")))
 (cgT : W.mroIn K cT (.type "object") = some true)
 (chT : W.keepIn K (.ref cT) = true)
 (gaT : W.findIn K (.ref cT) "__init__" = some (some (.ref gT)))
 (gbT : W.isFn K (.ref gT) = true)
 (l_gT : K.lookup gT = some ⟨oc_gT,od_gT,.func (W.fnOf "__init__" "NoLetter.__init__" (dZ eJ) (cL eJ) (aG eJ) .none kV_gT dc_gT pm_gT an_gT cd_gT ct_gT),sl_gT⟩)
 (c_gT : W.codeIn K cd_gT "NoLetter.__init__" = true)
 (k_gT : W.keepIn K (.ref gT) = true)
 (hnT : W.findIn K (.ref cT) "letter" = some none)
 (otT : W.typeIn K (.ref cT) = some (.type "type"))
 (olT : W.clsIn K cT = some ocdT)
 (caD : W.nsIn K mainGlobals "NoDesk" = some (some (.ref cD)))
 (cbD : K.lookup cD = some (excClassObj nmD quD cD ND bsD (.ref cM :: eM) true snD subD abD colD ddD uD vD wD xD yD "ValueError.__new__"))
 (ccD : W.findIn K (.ref cD) "__getattribute__" = some (some (.builtin "BaseException.__getattribute__")))
 (cxD : W.findIn K (.ref cD) "__getattr__" = some none)
 (cdD : W.hasDictIn K cD = true)
 (ceD : W.findIn K (.ref cD) "__setattr__" = some (some (.builtin "object.__setattr__")))
 (cfD : W.findIn K (.ref cD) "__class__" = some (some (.builtin "object.__class__")))
 (cgD : W.mroIn K cD (.type "object") = some true)
 (chD : W.keepIn K (.ref cD) = true)
 (gaD : W.findIn K (.ref cD) "__init__" = some (some (.ref gD)))
 (gbD : W.isFn K (.ref gD) = true)
 (l_gD : K.lookup gD = some ⟨oc_gD,od_gD,.func (W.fnOf "__init__" "NoDesk.__init__" (dZ fK) (cL fK) (aG fK) .none kV_gD dc_gD pm_gD an_gD cd_gD ct_gD),sl_gD⟩)
 (c_gD : W.codeIn K cd_gD "NoDesk.__init__" = true)
 (k_gD : W.keepIn K (.ref gD) = true)
 (hnD : W.findIn K (.ref cD) "desk" = some none)
 (otD : W.typeIn K (.ref cD) = some (.type "type"))
 (olD : W.clsIn K cD = some ocdD)
 (t_new : W.tabIn K "news_at" = some (cc,pt))
 (u_new : W.codeHdIn K cc pt = true)
 (z_len : W.nsIn K mainGlobals "len" = some none)
 (z_range : W.nsIn K mainGlobals "range" = some none)
 (z_max : W.nsIn K mainGlobals "max" = some none)
 (z_sorted : W.nsIn K mainGlobals "sorted" = some none)
 (z_tuple : W.nsIn K mainGlobals "tuple" = some none)
 (z_list : W.nsIn K mainGlobals "list" = some none)
 (z_set : W.nsIn K mainGlobals "set" = some none)
 (z_int : W.nsIn K mainGlobals "int" = some none)
 (z_isinstance : W.nsIn K mainGlobals "isinstance" = some none)
 (z_all : W.nsIn K mainGlobals "all" = some none)
 (z_str : W.nsIn K mainGlobals "str" = some none)
 (z_bool : W.nsIn K mainGlobals "bool" = some none)
 (z_min : W.nsIn K mainGlobals "min" = some none)
 (z_dict : W.nsIn K mainGlobals "dict" = some none)
 (z_any : W.nsIn K mainGlobals "any" = some none)
 (z_enumerate : W.nsIn K mainGlobals "enumerate" = some none)
 (z_zip : W.nsIn K mainGlobals "zip" = some none)
 (nd : (cM :: cT :: [cD]).Nodup) :
 ∃ fd : FuncData,(∀ (s : Shared) (v : Value),BindsTo s fd ⟨[v],[]⟩ [("_law_script",v)]) /\ ∀ base : Heap,K.In base -> base.Ns mainGlobals mg -> nC mg base -> FnOk l.prog w K mg base gO 12 fa fd ["_law_script"] (spLaw K pt) := by
 obtain ⟨f_cell,d_cell,F_cell,k_cell,m_cell⟩ := p_cell.get X G
 obtain ⟨f_flow,d_flow,F_flow,k_flow,m_flow⟩ := p_flow.get X G
 obtain ⟨f_draw,d_draw,F_draw,k_draw,m_draw⟩ := p_draw.get X G
 obtain ⟨f_nam,d_nam,F_nam,k_nam,m_nam⟩ := p_nam.get X G
 obtain ⟨f_hou,d_hou,F_hou,k_hou,m_hou⟩ := p_hou.get X G
 obtain ⟨f_str,d_str,F_str,k_str,m_str⟩ := p_str.get X G
 obtain ⟨f_row,d_row,F_row,k_row,m_row⟩ := p_row.get X G
 obtain ⟨f_lat,d_lat,F_lat,k_lat,m_lat⟩ := p_lat.get X G
 obtain ⟨f_tri,d_tri,F_tri,k_tri,m_tri⟩ := p_tri.get X G
 obtain ⟨f_des,d_des,F_des,k_des,m_des⟩ := p_des.get X G
 obtain ⟨f_und,d_und,F_und,k_und,m_und⟩ := p_und.get X G
 obtain ⟨f_rfs,d_rfs,F_rfs,k_rfs,m_rfs⟩ := p_rfs.get X G
 obtain ⟨f_tol,d_tol,F_tol,k_tol,m_tol⟩ := p_tol.get X G
 obtain ⟨f_rig,d_rig,F_rig,k_rig,m_rig⟩ := p_rig.get X G
 obtain ⟨f_sta,d_sta,F_sta,k_sta,m_sta⟩ := p_sta.get X G
 obtain ⟨f_nex,d_nex,F_nex,k_nex,m_nex⟩ := p_nex.get X G
 obtain ⟨f_law,d_law,F_law,k_law,m_law⟩ := p_law.get X G
 obtain ⟨f_ris,d_ris,F_ris,k_ris,m_ris⟩ := p_ris.get X G
 obtain ⟨f_twi,d_twi,F_twi,k_twi,m_twi⟩ := p_twi.get X G
 obtain ⟨f_ref,d_ref,F_ref,k_ref,m_ref⟩ := p_ref.get X G
 obtain ⟨f_rfl,d_rfl,F_rfl,k_rfl,m_rfl⟩ := p_rfl.get X G
 obtain ⟨f_rdk,d_rdk,F_rdk,k_rdk,m_rdk⟩ := p_rdk.get X G
 obtain ⟨f_his,d_his,F_his,k_his,m_his⟩ := p_his.get X G
 obtain ⟨f_was,d_was,F_was,k_was,m_was⟩ := p_was.get X G
 have F_new := pT (st := cK) l_new c_new k_new
 have m_new := W.mg_of X G a_new
 have e := hfa.symm.trans m_law
 cases e
 have F_ini := pT (st := cA) l_ini c_ini k_ini
 have F_mee := pT (st := dU) l_mee c_mee k_mee
 have b_cell := F_cell.binds (ps := ["_law_script","_law_k"]) λ _ _ _ _ _ _ => us2 λ _ _ => rfl
 have b_flow := F_flow.binds (ps := ["_law_script","_law_k"]) λ _ _ _ _ _ _ => us2 λ _ _ => rfl
 have b_draw := F_draw.binds (ps := ["_law_flow_here","_law_many"]) λ _ _ _ _ _ _ => us2 λ _ _ => rfl
 have b_nam := F_nam.binds (ps := ["_law_flow_here","_law_many"]) λ _ _ _ _ _ _ => us2 λ _ _ => rfl
 have b_hou := F_hou.binds (ps := ["_law_flow_here","_law_count"]) λ _ _ _ _ _ _ => us2 λ _ _ => rfl
 have b_str := F_str.binds (ps := ["_law_flow_here","_law_some"]) λ _ _ _ _ _ _ => us2 λ _ _ => rfl
 have b_row := F_row.binds (ps := ["_law_flow_here","_law_letters","_law_most"]) λ _ _ _ _ _ _ => us3 λ _ _ _ => rfl
 have b_lat := F_lat.binds (ps := ["_law_rows","_law_row_here","_law_under_here","_law_meeting","_law_desk"]) λ _ _ _ _ _ _ => us5 λ _ _ _ _ _ => rfl
 have b_tri := F_tri.binds (ps := ["_law_rows","_law_row_here","_law_desk"]) λ _ _ _ _ _ _ => us3 λ _ _ _ => rfl
 have b_des := F_des.binds (ps := ["_law_rows"]) λ _ _ _ _ _ _ => us1 λ _ => rfl
 have b_und := F_und.binds (ps := ["_law_rows","_law_row_here"]) λ _ _ _ _ _ _ => us2 λ _ _ => rfl
 have b_rfs := F_rfs.binds (ps := ["_law_e"]) λ _ _ _ _ _ _ => us1 λ _ => rfl
 have b_tol := F_tol.binds (ps := ["_law_sharing","_law_row_here","_law_desk"]) λ _ _ _ _ _ _ => us3 λ _ _ _ => rfl
 have b_rig := F_rig.binds (ps := ["_law_sharing","_law_rows","_law_row_here","_law_desk"]) λ _ _ _ _ _ _ => us4 λ _ _ _ _ => rfl
 have b_sta := F_sta.binds (ps := ["_law_sharing","_law_rows"]) λ _ _ _ _ _ _ => us2 λ _ _ => rfl
 have b_nex := F_nex.binds (ps := ["_law_rows"]) λ _ _ _ _ _ _ => us1 λ _ => rfl
 have b_ris := F_ris.binds (ps := ["things"]) λ _ _ _ _ _ _ => us1 λ _ => rfl
 have b_twi := F_twi.binds (ps := ["names"]) λ _ _ _ _ _ _ => us1 λ _ => rfl
 have b_ref := F_ref.binds (ps := ["rows"]) λ _ _ _ _ _ _ => us1 λ _ => rfl
 have b_rfl := F_rfl.binds (ps := ["letters","row"]) λ _ _ _ _ _ _ => us2 λ _ _ => rfl
 have b_rdk := F_rdk.binds (ps := ["desks","group"]) λ _ _ _ _ _ _ => us2 λ _ _ => rfl
 have b_his := F_his.binds (ps := ["sharing","row"]) λ _ _ _ _ _ _ => us2 λ _ _ => rfl
 have b_was := F_was.binds (ps := ["sharing","row","desk","number"]) λ _ _ _ _ _ _ => us4 λ _ _ _ _ => rfl
 have b_new := F_new.binds (ps := ["sharing","row","desk"]) λ _ _ _ _ _ _ => us3 λ _ _ _ => rfl
 have b_ini := F_ini.binds (ps := ["self","rows"]) λ _ _ _ _ _ _ => us2 λ _ _ => rfl
 have b_mee := F_mee.binds (ps := ["self","letter"]) λ _ _ _ _ _ _ => us2 λ _ _ => rfl
 have B : Bt mg := ⟨W.mg_none_of X G z_len,W.mg_none_of X G z_range,W.mg_none_of X G z_max,W.mg_none_of X G z_sorted,W.mg_none_of X G z_tuple,W.mg_none_of X G z_list,W.mg_none_of X G z_set,W.mg_none_of X G z_int,W.mg_none_of X G z_isinstance,W.mg_none_of X G z_all,W.mg_none_of X G z_str,W.mg_none_of X G z_bool,W.mg_none_of X G z_min,W.mg_none_of X G z_dict,W.mg_none_of X G z_any,W.mg_none_of X G z_enumerate,W.mg_none_of X G z_zip⟩
 refine ⟨d_law,λ s v => df_binds F_law (λ _ _ _ _ _ _ _ => rfl) s v,λ base _ _ hB => ?_⟩
 have xb : XB K cM := ⟨_,_,_,_,_,_,_,_,_,_,_,_,_,_,cbM⟩
 have xcT : XC K cT cM := ⟨⟨_,_,_,_,_,_,_,_,_,_,_,_,_,_,cbT⟩,ccT,cxT,cdT,ceT,cfT,kg,kt,cgT,chT⟩
 have F_gT := pT (st := eJ) l_gT c_gT k_gT
 have b_gT := F_gT.binds (ps := ["self","letter"]) λ _ _ _ _ _ _ => us2 λ _ _ => rfl
 have T0T := ok_init1 (P := l.prog) (w := w) (mg := mg) (base := base) (k := 0) (C := cT) (M := cM) (f1 := "letter") F_gT xcT hnT (.of rfl rfl rfl rfl (by decide +kernel)) rfl (by decide +kernel) (by decide +kernel) (by decide) (by decide)
 have xtT : XMk l.prog w K mg base 1 cT cM gT _ := ⟨xcT,gaT,gbT,T0T,b_gT,W.mg_of X G caT,hnT⟩
 have xcD : XC K cD cM := ⟨⟨_,_,_,_,_,_,_,_,_,_,_,_,_,_,cbD⟩,ccD,cxD,cdD,ceD,cfD,kg,kt,cgD,chD⟩
 have F_gD := pT (st := fK) l_gD c_gD k_gD
 have b_gD := F_gD.binds (ps := ["self","desk"]) λ _ _ _ _ _ _ => us2 λ _ _ => rfl
 have T0D := ok_init1 (P := l.prog) (w := w) (mg := mg) (base := base) (k := 0) (C := cD) (M := cM) (f1 := "desk") F_gD xcD hnD (.of rfl rfl rfl rfl (by decide +kernel)) rfl (by decide +kernel) (by decide +kernel) (by decide) (by decide)
 have xtD : XMkD l.prog w K mg base 1 cD cM gD _ := ⟨xcD,gaD,gbD,T0D,b_gD,W.mg_of X G caD,hnD⟩
 have nMD : cD ≠ cM := λ z => by simp [z] at nd
 have nMT : cT ≠ cM := λ z => by simp [z] at nd
 have nTD : cT ≠ cD := λ z => by simp [z] at nd
 have xo : XOt K mg cT cM (cs2 cT cD) := ⟨W.mg_of X G caT,W.mg_of X G caD,W.mg_of X G aM,kit_self _ _,kit_other xcT otD olD nTD nMD⟩
 have xoD : XOtD K mg cD cM (cs2 cT cD) := ⟨W.mg_of X G caT,W.mg_of X G caD,W.mg_of X G aM,kit_other xcD otT olT (Ne.symm nTD) nMT,kit_self _ _⟩
 have D1 := ok_draw (P := l.prog) (w := w) (mg := mg) (base := base) (k := 0) F_draw
 have C1 := ok_cell (P := l.prog) (w := w) (mg := mg) (base := base) (k := 0) F_cell B.len_
 have W1 := ok_flow F_flow C1 b_cell k_cell m_cell
 have Y1 := ok_names F_nam D1 b_draw k_draw m_draw B.range_ B.len_
 have G_draw : Fn l.prog w K mg base 2 _ _ _ _ _ := ⟨D1.mono (by decide),b_draw,k_draw,m_draw⟩
 have G_nam : Fn l.prog w K mg base 2 _ _ _ _ _ := ⟨Y1,b_nam,k_nam,m_nam⟩
 have O1 := ok_desks_of (P := l.prog) (w := w) (mg := mg) (base := base) (k := 2) F_des B
 have H1 := ok_houses F_hou B G_draw G_nam
 have G_des : Fn l.prog w K mg base 3 _ _ _ _ _ := ⟨O1,b_des,k_des,m_des⟩
 have R1 := ok_rising (P := l.prog) (w := w) (mg := mg) (base := base) (k := 1) F_ris B
 have R1S : FnOk l.prog w K mg base gO 2 _ _ _ (lO K) := R1.imp λ _ _ _ _ z => .inl z
 have T1 := ok_twice (P := l.prog) (w := w) (mg := mg) (base := base) (k := 0) F_twi B
 have G_twi : Fn l.prog w K mg base 1 _ _ _ _ _ := ⟨T1,b_twi,k_twi,m_twi⟩
 have E1 := ok_refrows F_ref B G_twi
 have G_ref : Fn l.prog w K mg base 2 _ _ _ _ _ := ⟨E1,b_ref,k_ref,m_ref⟩
 have G_ris : Fn l.prog w K mg base 2 _ _ _ _ _ := ⟨R1S,b_ris,k_ris,m_ris⟩
 have S : ShC K C_Sharing := ⟨⟨cg_Sharing,ch_Sharing,co_Sharing,cs_Sharing⟩,nX,pP,mV⟩
 have I1 := ok_init F_ini B S G_ref G_ris
 have M1 : pS l.prog w K mg base 10 C_Sharing f_ini _ := ⟨⟨cm_Sharing,ma_ini,mb_ini,ck_Sharing⟩,S.cls,S,I1.mono (by decide),b_ini,W.mg_of X G ca_Sharing⟩
 have N0 := ok_meet (P := l.prog) (w := w) (mg := mg) (base := base) (k := 2) F_mee S
 have N3 : MeetOk l.prog w K mg base 3 C_Sharing f_mee _ := ⟨⟨ma_mee,mb_mee,k_mee⟩,N0,b_mee⟩
 have RO := ok_row F_row B G_draw
 have RL := ok_refl F_rfl xtT
 have RD := ok_refd F_rdk xtD
 have G_rfl : FnX l.prog w K mg base 5 _ _ _ _ _ := ⟨RL.mono (by decide),b_rfl,k_rfl,m_rfl⟩
 have G_rdk : FnX l.prog w K mg base 5 _ _ _ _ _ := ⟨RD.mono (by decide),b_rdk,k_rdk,m_rdk⟩
 have G_ris3 : Fn l.prog w K mg base 3 _ _ _ _ _ := ⟨R1.mono (by decide),b_ris,k_ris,m_ris⟩
 have G_ris4 : Fn l.prog w K mg base 4 _ _ _ _ _ := ⟨R1.mono (by decide),b_ris,k_ris,m_ris⟩
 have HI := ok_his F_his B S M1 N3 G_ris3
 have G_his : Fn l.prog w K mg base 5 _ _ _ _ _ := ⟨HI.mono (by decide),b_his,k_his,m_his⟩
 have WA := ok_was F_was B M1 N3
 have G_was : Fn l.prog w K mg base 4 _ _ _ _ _ := ⟨WA,b_was,k_was,m_was⟩
 have hfc : cd_new = .ref cc := W.law_code X G t_new m_new (X _ _ l_new) rfl
 subst hfc
 have NW := ok_news (pt := pt) (cc := cc) F_new B S hB rfl (λ h X => W.codeHd_of_K X u_new) G_rfl G_rdk G_his G_was
 have G_new : FnX l.prog w K mg base 6 _ _ _ _ _ := ⟨NW,b_new,k_new,m_new⟩
 have UN := ok_under F_und B G_des
 have G_und : Fn l.prog w K mg base 6 _ _ _ _ _ := ⟨UN.mono (by decide),b_und,k_und,m_und⟩
 have LT := ok_llat (P := l.prog) (w := w) (mg := mg) (base := base) (k := 5) F_lat B
 have G_lat : Fn l.prog w K mg base 6 _ _ _ _ _ := ⟨LT,b_lat,k_lat,m_lat⟩
 have G_des6 : Fn l.prog w K mg base 6 _ _ _ _ _ := ⟨O1.mono (by decide),b_des,k_des,m_des⟩
 have TR := ok_tri F_tri B G_und G_des6 G_lat
 have SY := ok_stays F_sta B M1 N3 G_des
 have ST := ok_strange F_str B G_draw
 have NX := ok_next (P := l.prog) (w := w) (mg := mg) (base := base) (k := 2) F_nex B
 have RFB : FnOkH l.prog w K mg base 6 _ _ _ (nQ cT cD) := (ok_refusal (k := 5) F_rfs B xtT xo).or (ok_refusalD (k := 5) F_rfs B xtD xoD)
 have G_rfs : FnH l.prog w K mg base 6 _ _ _ _ _ := ⟨RFB,b_rfs,k_rfs,m_rfs⟩
 have TO : FnOk l.prog w K mg base gO 7 _ _ _ (spTold K C_Sharing pt) := (ok_toldL F_tol xtT xb xo G_new G_rfs).or (ok_toldD F_tol xtD xb xoD G_new G_rfs)
 have G_new7 : FnX l.prog w K mg base 7 _ _ _ _ _ := ⟨NW.mono (by decide),b_new,k_new,m_new⟩
 have G_tri : Fn l.prog w K mg base 7 _ _ _ _ _ := ⟨TR,b_tri,k_tri,m_tri⟩
 have Z1 := ok_right F_rig B G_new7 G_tri
 have A1 : Fn l.prog w K mg base 11 _ _ _ _ _ := ⟨W1.mono (by decide),b_flow,k_flow,m_flow⟩
 have A2 : Fn l.prog w K mg base 11 _ _ _ _ _ := ⟨D1.mono (by decide),b_draw,k_draw,m_draw⟩
 have A3 : Fn l.prog w K mg base 11 _ _ _ _ _ := ⟨H1.mono (by decide),b_hou,k_hou,m_hou⟩
 have A4 : Fn l.prog w K mg base 11 _ _ _ _ _ := ⟨RO.mono (by decide),b_row,k_row,m_row⟩
 have A5 : Fn l.prog w K mg base 11 _ _ _ _ _ := ⟨O1.mono (by decide),b_des,k_des,m_des⟩
 have A6 : Fn l.prog w K mg base 11 _ _ _ _ _ := ⟨ST.mono (by decide),b_str,k_str,m_str⟩
 have A7 : Fn l.prog w K mg base 11 _ _ _ _ _ := ⟨NX.mono (by decide),b_nex,k_nex,m_nex⟩
 have A8 : Fn l.prog w K mg base 11 _ _ _ _ _ := ⟨Z1.mono (by decide),b_rig,k_rig,m_rig⟩
 have A9 : Fn l.prog w K mg base 11 _ _ _ _ _ := ⟨TO.mono (by decide),b_tol,k_tol,m_tol⟩
 have AA : Fn l.prog w K mg base 11 _ _ _ _ _ := ⟨SY.mono (by decide),b_sta,k_sta,m_sta⟩
 exact ok_law F_law B M1 A1 A2 A3 A4 A5 A7 A8 A6 A9 AA
theorem walk {l : PySem.W.OpenLaw} {q : Program} {loose : List Str} {XP : (Str -> Option Value) -> Heap -> Prop} {YP : World -> Heap -> Prop} {d : DefRec} {K : Params -> W.Frag} {cc pt : Addr} (hn : l.most = some 63) (hdf : d.params.defaults = [])
 (hY : ∀ (w : World) (h : Heap),YP w h -> (K w.params).In h) (hnK : ∀ w : World,PySem.W.noTabs (K w.params) = true)
 (ht : ∀ (w : World) (h : Heap),YP w h -> h.get? pt = some (PySem.W.tabObj #[])) (hc : ∀ w : World,PySem.W.codeHdIn (K w.params) cc pt = true)
 (F : ∀ (w : World) (mg : Str -> Option Value) (fa : Addr) (h : Heap),(K w.params).In h -> h.Ns mainGlobals mg -> mg d.name = some (.ref fa) ->
  ∃ fd : FuncData,(∀ (s : Shared) (u : Value),BindsTo s fd ⟨[u],[]⟩ [("_law_script",u)]) /\ ∀ base : Heap,(K w.params).In base -> base.Ns mainGlobals mg -> nC mg base -> FnOk l.prog w (K w.params) mg base gO 12 fa fd ["_law_script"] (spLaw (K w.params) pt)) :
 PySem.W.WalkO q loose XP YP l.row.toRowW d [] (λ f vs => PySem.call f vs) :=
 L2.walk_ofT (n := 63) (k := 12) (x := "_law_script") (CX := λ _ => gO) (sp := λ w => spLaw (K w.params) pt) (tabs := λ _ => [(cc,pt)]) hn (by decide) hdf ⟨rfl,by decide,by decide⟩ hY hnK (λ w h Y q hq => by rw [List.mem_singleton.mp hq]; exact ⟨PySem.W.codeHd_of_K (hY w h Y) (hc w),ht w h Y⟩) F (λ _ H a ns hl hT _ hS => ⟨a,ns,rfl,hS,hl,.inl (hT _ List.mem_cons_self),λ _ => rfl⟩) λ _ _ _ _ _ z => z
end KK
open PySem PySem.W PyProof.Rows
def PySem.W.Fast.tw15211188845775350069 : Nat := 0
def PySem.W.Fast.tw17697662825361683282 : Nat := 0
def PySem.W.Fast.tw8727807603720268133 : Nat := 0
def PySem.W.Fast.tw15141773769771658775 : Nat := 0
def PySem.W.Fast.tw12614509831579489139 : Nat := 0
def PySem.W.Fast.tw16495037571665623831 : Nat := 0
def PySem.W.Fast.tw78224659715635633 : Nat := 0
def PySem.W.Fast.tw18115244316313527328 : Nat := 0
def PySem.W.Fast.tw16241854753155891211 : Nat := 0
def PySem.W.Fast.tw9723465639104905720 : Nat := 0
def PySem.W.Fast.tw7327040273500854059 : Nat := 0
def PySem.W.Fast.tw7923480831304200562 : Nat := 0
def PySem.W.Fast.tw5562891886586129479 : Nat := 0
set_option maxRecDepth 100000 in
set_option maxHeartbeats 0 in
theorem PySem.Challenge.cw_meetdesks_k15_news_told_holds : PySem.Challenge.rw_meetdesks_k15_news_told.Holds := by
 w_on; o_law; k_head; (case hw => w_witness2)
 k_fill
 refine KK.walk (l := PySem.Challenge.rw_meetdesks_k15_news_told) (cc := 130) (pt := 126) rfl rfl (λ w h Y => PySem.W.km_in_of Y) (λ w => by kernel_rfl) (λ w h Y => PySem.W.km_tabs_of Y 126 (.head _)) (λ w => by kernel_rfl) ?F
 case F =>
  intro w mg fa h KX G hmg;refine' KK.all_mk (cc := 130) (pt := 126) KX G hmg (.mk' ?_ ?_ ?_ ?_) (.mk' ?_ ?_ ?_ ?_) (.mk' ?_ ?_ ?_ ?_) (.mk' ?_ ?_ ?_ ?_) (.mk' ?_ ?_ ?_ ?_) (.mk' ?_ ?_ ?_ ?_) (.mk' ?_ ?_ ?_ ?_) (.mk' ?_ ?_ ?_ ?_) (.mk' ?_ ?_ ?_ ?_) (.mk' ?_ ?_ ?_ ?_) (.mk' ?_ ?_ ?_ ?_) (.mk' ?_ ?_ ?_ ?_) (.mk' ?_ ?_ ?_ ?_) (.mk' ?_ ?_ ?_ ?_) (.mk' ?_ ?_ ?_ ?_) (.mk' ?_ ?_ ?_ ?_) (.mk' ?_ ?_ ?_ ?_) (.mk' ?_ ?_ ?_ ?_) (.mk' ?_ ?_ ?_ ?_) (.mk' ?_ ?_ ?_ ?_) (.mk' ?_ ?_ ?_ ?_) (.mk' ?_ ?_ ?_ ?_) (.mk' ?_ ?_ ?_ ?_) (.mk' ?_ ?_ ?_ ?_) ?_ ?_ ?_ ?_ ?_ ?_ ?_ ?_ ?_ ?_ ?_ ?_ ?_ ?_ ?_ ?_ ?_ ?_ ?_ ?_ ?_ ?_ ?_ ?_ ?_ ?_ ?_ ?_ ?_ ?_ ?_ ?_ ?_ ?_ ?_ ?_ ?_ ?_ ?_ ?_ ?_ ?_ ?_ ?_ ?_ ?_ ?_ ?_ ?_ ?_ ?_ ?_ ?_ ?_ ?_ ?_ ?_ ?_ ?_ ?_ ?_ ?_ ?_ ?_ ?_ ?_ ?_ ?_ ?_ ?_ ?_ ?_ ?_ ?_ ?_ ?_ ?_ ?_ ?_ ?_ ?_ ?_
  all_goals try first | k_is | decide | kernel_rfl
