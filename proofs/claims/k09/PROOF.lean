import PyProof.Rows.All
import Wide.All
import OpenK.AllK
import Wide.FinOn
import Lean
import PyProof.EqAt
import PyProof.EqKinds
import PyProof.TupleCall
import PyProof.NeKinds
import KE.KNest
import KE.KRevSl
import PyProof.CallFns
import PyProof.Cells
import PyProof.CollectIter
import PyProof.DictFindH
import PyProof.FactsAll.bool_1
import PyProof.FactsAll.int_2
import PyProof.FactsAll.set_1
import PyProof.FactsAll.tuple
import PyProof.FactsAll.tuple_2
import PyProof.FitsInt
import PyProof.ListRange
import PyProof.RangeFor
import PyProof.ReprLen
import PyProof.ReprRoads
import PyProof.Rows.CountFlat
import PyProof.Rows.Range3
import PyProof.SetRoads
import PyProof.TupleIter
import PyProof.TupleKey
import PyProof.TupleOfSeq
import PyProof.WalksMore
import PyProof.ZipIter
import PySem.Challenge.RW_meetdesks_k09_whole_the_first_row_that_p
set_option Elab.async false
set_option linter.all false
set_option maxRecDepth 100000
theorem bH{α β:Type}{as:List α}(f:α → β):(as.map f).length=as.length:=List.length_map f
namespace L2
open PySem PySem.Spec PyProof.Rows
variable {H H':Hp}{h h':Heap}{X:Cx}{aA:List (Addr×Obj)}{s:Shared}{ta tb te:TE}{pos p:Pos}{A:Around}{dx C:Addr}{es:List Expr}
abbrev cB:=Sum Int Str
def sQ:cB->Value->Bool
 | .inl k,v=>Value.isInt k v
 | .inr x,v=>Value.isStrOf x v
def zug(w:World):cB->Int
 | .inl k=>hashInt k
 | .inr x=>hashStr w x
theorem dC: ∀{k:cB} {v:Value},sQ k v=true->(∃i t,k=Sum.inl i/\v=Value.int i t)\/(∃x t,k=Sum.inr x/\v=Value.str x t)
 | .inl i,v,h=>by
  obtain⟨t,e⟩:=Value.isInt_shape (k:=i) (v:=v) h;exact .inl ⟨i,t,rfl,e⟩
 | .inr x,v,h=>by
  obtain⟨t,e⟩:=Value.isStrOf_shape (x:=x) (v:=v) h;exact .inr ⟨x,t,rfl,e⟩
theorem zch(i:Int)(t:Tok):sQ (.inl i) (.int i t)=true:=by simp[sQ,Value.isInt]
theorem zcN(x:Str)(t:Tok):sQ (.inr x) (.str x t)=true:=by simp[sQ,Value.isStrOf]
theorem zjW(a b:Int):decide ((Sum.inl a:cB)=Sum.inl b)=(a==b):=by
 by_cases e:a=b
 . subst e;simp
 . have h: ¬(Sum.inl a:cB)=Sum.inl b:= λq=>e (Sum.inl.inj q);rw[decide_eq_false h];exact(beq_eq_false_iff_ne.mpr e).symm
theorem zlg(a b:Str):decide ((Sum.inr a:cB)=Sum.inr b)=decide (a=b):=by
 by_cases e:a=b
 . subst e;simp
 . have h: ¬(Sum.inr a:cB)=Sum.inr b:= λq=>e (Sum.inr.inj q);rw[decide_eq_false h,decide_eq_false e]
theorem zkV(a:Int)(b:Str):decide ((Sum.inl a:cB)=Sum.inr b)=false:=decide_eq_false (λq=>nomatch q)
theorem zjG(a:Str)(b:Int):decide ((Sum.inr a:cB)=Sum.inl b)=false:=decide_eq_false (λq=>nomatch q)
def aV(prog:Program)(w:World):PySem.KeyKind prog w cB where
 is:=sQ
 hash:=zug w
 inj:= λv a b ha hb=>by
  rcases dC ha with⟨i,t,rfl,rfl⟩|⟨x,t,rfl,rfl⟩
  . rcases dC hb with⟨j,u,rfl,e⟩|⟨y,u,rfl,e⟩
    . injection e with e1 _;rw[e1]
    . exact nomatch e
  . rcases dC hb with⟨j,u,rfl,e⟩|⟨y,u,rfl,e⟩
    . exact nomatch e
    . injection e with e1 _;rw[e1]
 byValue:= λk v h=>by
  rcases dC h with⟨i,t,rfl,rfl⟩|⟨x,t,rfl,rfl⟩<;>rfl
 pyHash:= λhv h=>by
  rcases dC hv with⟨i,t,rfl,rfl⟩|⟨x,t,rfl,rfl⟩
  . exact wpAny_pyHash_int h
  . exact wpAny_pyHash_str h
 eqBool:= λhu hv h=>by
  rcases dC hu with⟨i,t,rfl,rfl⟩|⟨x,t,rfl,rfl⟩
  . rcases dC hv with⟨j,u,rfl,rfl⟩|⟨y,u,rfl,rfl⟩
    . rw[zjW]at h;exact wpAny_eqBool_int h
    . rw[zkV]at h;exact SeqAt.EqAt.int_str i t y u _ _ _ _ h
  . rcases dC hv with⟨j,u,rfl,rfl⟩|⟨y,u,rfl,rfl⟩
    . rw[zjG]at h;exact SeqAt.EqAt.str_int x t j u _ _ _ _ h
    . rw[zlg]at h;exact wpAny_eqBool_str h
 «strs»:= λk x t v h=>by
  rcases dC h with⟨i,u,rfl,e⟩|⟨y,u,rfl,e⟩
  . exact nomatch e
  . injection e with e1 _
    subst e1;cases v<;>rfl
theorem oJ(prog:Program)(w:World)(i:Int)(t:Tok):(aV prog w).is (.inl i) (.int i t)=true:=zch i t
theorem oO(prog:Program)(w:World)(x:Str)(t:Tok):(aV prog w).is (.inr x) (.str x t)=true:=zcN x t
inductive V where
 |non|bl (b:Bool)|int (i:Int)|str (x:Str)|byt (b:Array UInt8)|flt (b:UInt64)|ref (a:Addr)|ty (n:String)
 deriving DecidableEq
def bA:V->Value->Prop
 | .non,u=>u=Value.none
 | .bl b,u=>u=Value.bool b
 | .int i,u=> ∃t,u=Value.int i t
 | .str x,u=> ∃t,u=Value.str x t
 | .byt b,u=> ∃t,u=Value.bytes b t
 | .flt b,u=> ∃t,u=Value.float b t
 | .ref a,u=>u=Value.ref a
 | .ty n,u=>u=Value.type n
abbrev bK:List V->List Value->Prop:=Paired bA
theorem bK.length{xs:List V}{us:List Value}(r:bK xs us):xs.length=us.length:=Paired.length r
theorem bK.get: ∀{xs:List V} {us:List Value} {i:Nat} {x:V},bK xs us->xs[i]?=some x-> ∃u,us[i]?=some u/\bA x u
 |_,_,_,_,.nil,e=>by simp at e
 |_,_,0,_,.cons r _,e=>by simp at e;subst e;exact⟨_,rfl,r⟩
 |_,_,i+1,x,.cons _ t,e=>by
  obtain⟨u,h1,h2⟩:=bK.get (i:=i) (x:=x) t (by simpa using e);exact⟨u,by simpa using h1,h2⟩
theorem bK.set{x:V}{u:Value}(r:bA x u): ∀{xs:List V} {us:List Value} (i:Nat),bK xs us->bK (xs.set i x) (us.set i u)
 |_,_,_,.nil=> .nil
 |_,_,0,.cons _ t=> .cons r t
 |_,_,i+1,.cons q t=> .cons q (bK.set r i t)
theorem bK.append{xs ys:List V}{us ws:List Value}(h:bK xs us)(s:bK ys ws):bK (xs++ys) (us++ws):=by
 induction h with
 |nil=>exact s
 |cons r t ih=>exact .cons r ih
def jX:Option V->Option Value->Prop
 |some v,some u=>bA v u
 |none,none=>True
 |_,_=>False
def KV{κ:Type}:List (κ×V)->List (κ×Value)->Prop:=Paired λ(p:κ×V) (q:κ×Value)=>p.1=q.1/\bA p.2 q.2
def kV:cB->V
 | .inl i=> .int i
 | .inr x=> .str x
inductive HO where
 /-- a list -/
 |lst (xs:List V)
 /-- a tuple (never changes) -/
 |tup (xs:List V)
 /-- a dict whose keys are ints and texts;one whose keys are zdA of ints and texts (the empty one is both) -/
 |dK (kvs:List (cB×V))|dT (kvs:List (List cB×V))
 /-- a set of ints:bC members,bC size -/
 |set (S:Int->Bool) (n:Nat)
 /-- an instance of the class at C,bC dict at dx,bC attributes -/
 |ins (C dx:Addr) (fs:List (Str×V))
 /-- the dict of the instance at x -/
 |own (x:Addr)
 /-- the dict of an exception -/
 |xd (fs:List (Str×V))
 /-- a bound method,f of x -/
 |met (f x:Addr)
 /-- a range object lo,lo+1,.. below hi -/
 |rng (lo hi:Int)
 /-- a thing that is tP to the object (the script;a dict while a jR walks it):read,never written while it is so -/
 |frz (o:Obj) (u:HO)
 /-- a code object's table -/
 |tbl (ps:Array Value)
 /-- any other thing,by what is true of bC one object (a def of one's own:ztG a S n:=HO.ext λh=> ..) -/
 |ext (φ:Heap->Prop)
abbrev Hp:=Addr->Option HO
def aN(H:Hp)(a:Addr)(o:HO):Hp:= λb=>if b=a then some o else H b
theorem aG{H:Hp}{a:Addr}{o:HO}:aN H a o a=some o:=by unfold aN;rw[if_pos rfl]
theorem aD{H:Hp}{a b:Addr}{o:HO}(h:b≠a):aN H a o b=H b:=by unfold aN;rw[if_neg h]
theorem zhh{H:Hp}{a:Addr}{o u:HO}:aN (aN H a o) a u=aN H a u:=by
 funext b;unfold aN;split<;>rfl
theorem cK{H:Hp}{a b:Addr}{o u:HO}(h:H a=some o)(h':H b=some u)(d:o≠u):a≠b:=by
 intro e;subst e;rw[h]at h';exact d (Option.some.inj h')
theorem aF{H:Hp}{a b:Addr}{o:HO}(h:H a=some o)(h':H b=none):a≠b:=by
 intro e;subst e;rw[h]at h';cases h'
section
variable (P:Program)(w:World)
def cP(H:Hp)(h:Heap)(a:Addr):HO->Prop
 | .lst xs=>xs.length<=sizeLine/\ ∃(bC:List Value) (n:Nat),bK xs bC/\h.get? a=some {cls:= .type "list",data:= .seq bC.toArray n}
 | .tup xs=>xs.length<=sizeLine/\ ∃bC:List Value,bK xs bC/\IsTup h a bC.toArray
 | .dK kvs=>kvs.length<=sizeLine/\(a==sysModules)=false/\ ∃vs,KV kvs vs/\h.DictOf (aV P w) a vs
 | .dT kvs=>kvs.length<=sizeLine/\(a==sysModules)=false/\ ∃xs:List (List cB×Addr×Value),
  Paired (λ(p:List cB×V) (q:List cB×Addr×Value)=>p.1=q.1/\H q.2.1=some (.tup (p.1.map kV))/\bA p.2 q.2.2) kvs xs/\
  ∃o es ep,h.get? a=some o/\o.ExactDict/\o.data= .dict es ep/\es.toList=xs.map (entryOfKey (tupleKind (aV P w)))/\(xs.map (·.1)).Nodup
 | .set S n=>h.SetOf (intKind P w) a S n
 | .ins C dx fs=>H dx=some (.own a)/\fs.length<=1000/\dx≠a/\h.get? a=some (W.instObj C dx)/\
  ∃mA,h.Ns1 dx mA/\(∀f,jX (fs.lookup f) (mA f))/\PySem.Within mA (fs.map (·.1))
 | .own _=> ∃o,h.get? a=some o
 | .xd fs=> ∃mA,h.Ns1 a mA/\ ∀f,jX (fs.lookup f) (mA f)
 | .rng lo hi=> ∃t u v,h.get? a=some {cls:= .type "range",data:= .fields #[.int lo t,.int hi u,.int 1 v]}
 | .frz o u=>h.get? a=some o/\cP H h a u
 | .tbl ps=>h.get? a=some {cls:= .none,data:= .fields ps}
 | .met f x=>h.get? a=some (PySem.W.methodObj (.ref f) (.ref x))
 | .ext φ=>φ h/\(∃o,h.get? a=some o)/\ ∀h1 h2:Heap,φ h1->(∀o,h1.get? a=some o->h2.get? a=some o)->φ h2
def jG(H:Hp)(h:Heap):Prop:= ∀a o,H a=some o->cP P w H h a o
end
section
variable {P:Program}{w:World}{a:Addr}{o:HO}
theorem cP.lt(x:cP P w H h a o):a<h.objs.size:=by
 cases o with
 |lst xs=>obtain⟨_,_,_,_,e⟩:=x;exact Heap.lt_size e
 |tup xs=>obtain⟨_,_,_,p⟩:=x;exact p.lt
 |dK kvs=>obtain⟨_,_,_,_,o,_,_,e,_⟩:=x;exact Heap.lt_size e
 |dT kvs=>obtain⟨_,_,_,_,o,_,_,e,_⟩:=x;exact Heap.lt_size e
 |set S n=>obtain⟨o,_,_,_,e,_⟩:=x;exact Heap.lt_size e
 |ins C dx fs=>obtain⟨_,_,_,e,_⟩:=x;exact Heap.lt_size e
 |own y=>obtain⟨_,e⟩:=x;exact Heap.lt_size e
 |xd fs=>obtain⟨_,⟨_,_,_,e,_⟩,_⟩:=x;exact Heap.lt_size e
 |rng lo hi=>obtain⟨_,_,_,e⟩:=x;exact Heap.lt_size e
 |frz ob u=>obtain⟨e,_⟩:=x;exact Heap.lt_size e
 |tbl ps=>exact Heap.lt_size (show h.get? a=some _ from x)
 |met f y=>exact Heap.lt_size (show h.get? a=some _ from x)
 |ext φ=>obtain⟨_,⟨_,e⟩,_⟩:=x;exact Heap.lt_size e
theorem Paired.mapP{α β:Type}{F G:α->β->Prop}{l₁:List α}{l₂:List β}(h:Paired F l₁ l₂)(f: ∀a b,F a b->G a b):Paired G l₁ l₂:=by
 induction h with
 |nil=>exact .nil
 |cons r t ih=>exact .cons (f _ _ r) ih
theorem cP.stay(x:cP P w H h a o)(k: ∀b u,(b=a\/H b=some (.own a))->h.get? b=some u->h'.get? b=some u)
 (ho: ∀b,H b=some (.own a)->H' b=some (.own a)) (ht: ∀b xs,H b=some (.tup xs)->H' b=some (.tup xs)):cP P w H' h' a o:=by
 induction o with
 |lst xs=>obtain⟨z,bC,n,r,e⟩:=x;exact⟨z,bC,n,r,k _ _ (.inl rfl) e⟩
 |tup xs=>obtain⟨z,bC,r,ob,e,c⟩:=x;exact⟨z,bC,r,ob,k _ _ (.inl rfl) e,c⟩
 |dK kvs=>obtain⟨z,y,vs,r,ob,es,ep,e,c⟩:=x;exact⟨z,y,vs,r,ob,es,ep,k _ _ (.inl rfl) e,c⟩
 |dT kvs=>
  obtain⟨z,y,xs,r,ob,es,ep,e,c⟩:=x;exact⟨z,y,xs,Paired.mapP r λp q z=>⟨z.1,ht _ _ z.2.1,z.2.2⟩,ob,es,ep,k _ _ (.inl rfl) e,c⟩
 |set S n=>obtain⟨ob,es,ep,t,e,c⟩:=x;exact⟨ob,es,ep,t,k _ _ (.inl rfl) e,c⟩
 |ins C dx fs=>
  obtain⟨d,z,ne,e,mA,⟨od,es,ep,e2,c⟩,r⟩:=x;exact⟨ho _ d,z,ne,k _ _ (.inl rfl) e,mA,⟨od,es,ep,k _ _ (.inr d) e2,c⟩,r⟩
 |own y=>obtain⟨ob,e⟩:=x;exact⟨ob,k _ _ (.inl rfl) e⟩
 |xd fs=>obtain⟨mA,⟨od,es,ep,e,c⟩,r⟩:=x;exact⟨mA,⟨od,es,ep,k _ _ (.inl rfl) e,c⟩,r⟩
 |rng lo hi=>obtain⟨t,u,v,e⟩:=x;exact⟨t,u,v,k _ _ (.inl rfl) e⟩
 |frz ob u ih=>obtain⟨e,q⟩:=x;exact⟨k _ _ (.inl rfl) e,ih q⟩
 |tbl ps=>
  have e:h.get? a=some {cls:= .none,data:= .fields ps}:=x;show h'.get? a=some {cls:= .none,data:= .fields ps};exact k a _ (.inl rfl) e
 |met f y=>
  have e:h.get? a=some (PySem.W.methodObj (.ref f) (.ref y)):=x;show h'.get? a=some (PySem.W.methodObj (.ref f) (.ref y));exact k a _ (.inl rfl) e
 |ext φ=>obtain⟨p,⟨o,e⟩,st⟩:=x;exact⟨st _ _ p λo q=>k _ _ (.inl rfl) q,⟨o,k _ _ (.inl rfl) e⟩,st⟩
theorem jG.lt(x:jG P w H h)(e:H a=some o):a<h.objs.size:=(x a o e).lt
theorem jG.fresh(x:jG P w H h)(e:h.objs.size<=a):H a=none:=by
 cases q:H a with
 |none=>rfl
 |some u=>exact absurd (Nat.lt_of_lt_of_le (x.lt q) e) (Nat.lt_irrefl _)
theorem jG.kept(x:jG P w H h)(k: ∀b u,h.get? b=some u->h'.get? b=some u):jG P w H h':= λa o e=>
 (x a o e).stay (λb u _ q=>k b u q) (λ_ q=>q) λ_ _ q=>q
theorem jG.laid(x:jG P w H h)(k: ∀b u,h.get? b=some u->h'.get? b=some u)(hp:h.objs.size<=a)(new:cP P w (aN H a o) h' a o):jG P w (aN H a o) h':= λb u e=>by
 have hn:=x.fresh hp
 by_cases hb:b=a
 . subst hb;rw[aG]at e;cases e;exact new
 . rw[aD hb]at e;exact(x b u e).stay (λc v _ q=>k c v q) (λc q=>by rw[aD (aF q hn)];exact q) λc xs q=>by rw[aD (aF q hn)];exact q
end
def Rd(H:Hp)(a:Addr)(u:HO):Prop:=H a=some u\/ ∃o,H a=some (.frz o u)
theorem Rd.ok{P:Program}{w:World}{H:Hp}{h:Heap}{a:Addr}{u:HO}(r:Rd H a u)(x:jG P w H h):cP P w H h a u:=by
 rcases r with r|⟨o,r⟩
 . exact x a u r
 . obtain⟨_,q⟩:=x a _ r;exact q
def Mut:Option HO->Prop
 |some (.lst _)=>True
 |some (.dK _)=>True
 |some (.dT _)=>True
 |some (.set _ _)=>True
 |some (.ins _ _ _)=>True
 |some (.ext _)=>True
 |_=>False
section
variable {P:Program}{w:World}{x e:Addr}{o':HO}
theorem jG.write(ok:jG P w H h)(mu:Mut (H x))(he:e=x\/H e=some (.own x))(k: ∀b u,b≠e->h.get? b=some u->h'.get? b=some u)(heo: ∃u,h'.get? e=some u)
 (new:cP P w (aN H x o') h' x o'):jG P w (aN H x o') h':= λb u q=>by
 have zpW: ∀c y,H c=some (.own y)->c≠x:= λc y r z=>by subst z;rw[r]at mu;exact mu
 have zsi: ∀c xs,H c=some (.tup xs)->c≠x:= λc xs r z=>by subst z;rw[r]at mu;exact mu
 by_cases hb:b=x
 . subst hb;rw[aG]at q;cases q;exact new
 . rw[aD hb]at q
   by_cases hbe:b=e
   . have q':H b=some (.own x):=by
      rcases he with z|z
      . exact absurd (hbe.trans z) hb
      . rw[hbe];exact z
     rw[q]at q';cases q';obtain⟨v,hv⟩:=heo;exact⟨v,by rw[hbe];exact hv⟩
   . refine(ok b u q).stay (λc v hc r=>k c v ?_ r) (λc r=>by rw[aD (zpW c b r)];exact r) λc xs r=>by rw[aD (zsi c xs r)];exact r
     rcases hc with rfl|hc
     . exact hbe
     . rintro rfl
       rcases he with z|z
       . exact zpW c b hc z
       . rw[hc]at z;cases z;exact hb rfl
end
structure Un(fs ex:List Addr)(H H':Hp)(h h':Heap):Prop where
 keep: ∀b o,h.get? b=some o->H b=none->b∉fs->b∉ex->h'.get? b=some o
 slot: ∀b o,h.get? b=some o->H b=none->b∈fs->b∉ex-> ∃sl,h'.get? b=some {o with slots:=sl}
 free: ∀b o,h.get? b=some o->H b=none->b∉ex->H' b=none
 there: ∀b o,h.get? b=some o->b∉ex-> ∃o',h'.get? b=some o'
 tups: ∀b xs,H b=some (.tup xs)->H' b=some (.tup xs)
 frzs: ∀b o u,H b=some (.frz o u)->H' b=some (.frz o u)
 tbls: ∀b ps,H b=some (.tbl ps)-> ∃more,H' b=some (.tbl (ps++more))
section
variable {fs fs' ex ex':List Addr}{H1 H2:Hp}{h1 h2:Heap}{a x e:Addr}{o:HO}
theorem Un.any(u:Un fs ex H H1 h h1){b:Addr}{ob:Obj}(q:h.get? b=some ob)(n:H b=none)(hx:b∉ex): ∃sl,h1.get? b=some {ob with slots:=sl}:=by
 by_cases hb:b∈fs
 . exact u.slot b ob q n hb hx
 . exact⟨ob.slots,u.keep b ob q n hb hx⟩
theorem Un.kept(k: ∀b u,h.get? b=some u->h'.get? b=some u):Un fs ex H H h h':=
 ⟨λb ob q _ _ _=>k b ob q,λb ob q _ _ _=>⟨ob.slots,k b ob q⟩,λ_ _ _ n _=>n,λb ob q _=>⟨ob,k b ob q⟩,λ_ _ q=>q,λ_ _ _ q=>q,λ_ ps q=>⟨#[],by rw[q];simp⟩⟩
theorem Un.refl:Un fs ex H H h h:=Un.kept λ_ _ q=>q
theorem Un.laid(k: ∀b u,h.get? b=some u->h'.get? b=some u)(hp:h.objs.size<=a)(hn:H a=none):Un fs ex H (aN H a o) h h' where
 keep:= λb u q _ _ _=>k b u q
 slot:= λb u q _ _ _=>⟨u.slots,k b u q⟩
 free:= λb u q n _=>by rw[aD (Nat.ne_of_lt (Nat.lt_of_lt_of_le (Heap.lt_size q) hp))];exact n
 there:= λb u q _=>⟨u,k b u q⟩
 tups:= λb xs q=>by rw[aD (aF q hn)];exact q
 frzs:= λb u xs q=>by rw[aD (aF q hn)];exact q
 tbls:= λb ps q=>⟨#[],by rw[aD (aF q hn),q];simp⟩
theorem Un.write(mu:Mut (H x))(he:e=x\/H e=some (.own x))(k: ∀b u,b≠e->h.get? b=some u->h'.get? b=some u)(heo: ∃u,h'.get? e=some u):Un fs ex H (aN H x o) h h':=by
 have hx: ∀b,H b=none->b≠x:= λb n z=>by subst z;rw[n]at mu;exact mu
 have hb: ∀b,H b=none->b≠e:= λb n z=>by
  subst z
  rcases he with r|r
  . exact hx b n r
  . rw[n]at r;cases r
 have hm: ∀b u,H b=some u-> ¬Mut (some u)->b≠x:= λb u q nm z=>by subst z;rw[q]at mu;exact nm mu
 refine⟨λb u q n _ _=>k b u (hb b n) q,λb u q n _ _=>⟨u.slots,k b u (hb b n) q⟩,λb u q n _=>by rw[aD (hx b n)];exact n,λb u q _=> ?_,
  λb xs q=>by rw[aD (hm b _ q λz=>z)];exact q,λb u xs q=>by rw[aD (hm b _ q λz=>z)];exact q,λb ps q=>⟨#[],by rw[aD (hm b _ q λz=>z),q];simp⟩⟩
 by_cases hbe:b=e
 . subst hbe;exact heo
 . exact⟨u,k b u hbe q⟩
end
def trk(h:Heap)(H:Hp):List Addr:=(List.range h.objs.size).filter λa=>(H a).isSome
def sH(h:Heap)(H:Hp):Heap:=PySem.W.hideAll h (trk h H)
theorem zcC(h:Heap)(H:Hp):(sH h H).objs.size=h.objs.size:=PySem.W.hideAll_size _ _
theorem zfs{h:Heap}{H:Hp}{b:Addr}{o:Obj}(e:h.get? b=some o)(n:H b=none):(sH h H).get? b=some o:=
 PySem.W.hideAll_get _ e λhm=>by
  have q:(H b).isSome=true:=(List.mem_filter.mp hm).2;rw[n]at q;simp at q
theorem zgs{h:Heap}{H:Hp}{b:Addr}{o:Obj}(e:(sH h H).get? b=some o):h.get? b=some o/\H b=none:=by
 have e':h.get? b=some o:=PySem.W.of_hideAll (trk h H) e
 refine⟨e',?_⟩
 cases q:H b with
 |none=>rfl
 |some x=>
  have hm:b∈trk h H:=List.mem_filter.mpr ⟨List.mem_range.mpr (Heap.lt_size e'),by simp[q]⟩;have z:(sH h H).get? b=none:=PySem.W.hideAll_none (trk h H) hm;rw[z]at e;cases e
def zgD(g h:Heap)(L:Addr):List (Addr×Obj):=(List.range h.objs.size).filterMap λa=>if a=L\/(g.get? a).isSome=true then none else(h.get? a).map λo=>(a,o)
def rest(g h:Heap)(L d:Addr):List (Addr×Obj):=(zgD g h L).filter λp=>decide (p.1≠d)
structure Mod(K:W.Frag)(mg:Str->Option Value)(base:Heap):Prop where
 kin:K.In base
 glob:base.Ns mainGlobals mg
 blt: ∃mb,base.Ns builtinsNs mb/\ ∀x:Str,x≠ "__name__" ->mb x=bootBuiltins x
 nolimit:base.NoLimit
structure Cx where
 prog:Program
 w:World
 K:W.Frag
 mg:Str->Option Value
 base:Heap
 A:Around
 N:List Str
 s₀:Shared
 H₀:Hp
 env:Env
 outer:List Env
 stack:List Env
 ex:List Addr
 fn:Str->Bool
 calm:Bool
 pn:List (Addr×Obj)
 xe:Value->Shared->Prop
def frs(l:List Env):List Addr:=l.filterMap (·.frame)
abbrev Cx.fs(X:Cx):List Addr:=frs X.outer
def Vis(sc:Scope)(x:Str):Prop:=sc.names.lookup x=some .local\/sc.names.lookup x=some .cell\/sc.names.lookup x=some .free
def Loc(sc:Scope)(x:Str):Prop:=sc.names.lookup x=some .local\/sc.names.lookup x=some .cell
def zuf(env:Env)(h:Heap)(m:Str->Option Value)(x:Str)(u:Value):Prop:=
 (env.kindOf x=some .local/\m x=some u)\/((env.kindOf x=some .cell\/env.kindOf x=some .free)/\ ∃c,env.cells.lookup x=some c/\h.IsCell c (some u))
structure Cx.Ok(X:Cx):Prop where
 mod:Mod X.K X.mg X.base
 kind:X.env.scope.kind= .function
 glob:X.env.globals=mainGlobals
 blt:X.env.builtins=builtinsNs
 above:X.s₀.heap.objs.size<=X.env.locals
 inj: ∀x y c,X.env.cells.lookup x=some c->X.env.cells.lookup y=some c->x=y
 has: ∀x,(X.env.kindOf x=some .cell\/X.env.kindOf x=some .free)-> ∃c,X.env.cells.lookup x=some c
 cab: ∀x c,X.fn x=true->X.env.cells.lookup x=some c->X.s₀.heap.objs.size<=c
 hd:X.calm=true->X.A.handled=none
 frames:X.A.frames=some X.stack
 stk:X.stack=X.outer\/(X.stack=X.env::X.outer/\X.env.frame=some X.env.locals)
 exf: ∀b∈X.ex,b≠X.env.locals/\ ∀x c,X.env.cells.lookup x=some c->c≠b
 bs: ∀b o,X.base.get? b=some o->X.s₀.heap.get? b=some o/\X.H₀ b=none
 bsz:X.base.objs.size<=X.s₀.heap.objs.size
 noex: ∀b o,X.base.get? b=some o->b∉X.ex
 exfs: ∀b∈X.ex,b∉X.fs
 funs:X.s₀.heap.FunFrames X.base X.outer
 frf: ∀b∈X.fs,X.H₀ b=none
structure aM(X:Cx)(aA:List (Addr×Obj))(σ:List (Option V))(H:Hp)(s:Shared):Prop where
 ok:X.Ok
 os:s.os=X.s₀.os
 bare:AllBare s.gens
 base:Un X.fs X.ex X.H₀ H X.s₀.heap s.heap
 loc: ∃m,s.heap.Ns X.env.locals m/\ ∀(i:Nat) (x:Str) (v:V),X.N[i]?=some x->σ[i]?=some (some v)->Vis X.env.scope x-> ∃u,bA v u/\zuf X.env s.heap m x u
 cell: ∀x c,X.env.cells.lookup x=some c-> ∃v,s.heap.IsCell c v
 free:H X.env.locals=none
 freeC: ∀x c,X.env.cells.lookup x=some c->H c=none
 pin: ∀p∈X.pn++aA,s.heap.get? p.1=some p.2/\H p.1=none/\p.1≠X.env.locals/\p.1∉X.fs/\ ∀v,p.2.data≠ .cell v
 hok:jG X.prog X.w H s.heap
 len:σ.length=X.N.length
section
variable {σ:List (Option V)}
theorem Cx.Ok.nofr(ok:X.Ok){b:Addr}{o:Obj}(e:X.base.get? b=some o):b∉X.fs:= λhb=>by
 have:=(ok.funs.mem hb).1
 rw[e]at this;cases this
theorem aM.bs(I:aM X aA σ H s): ∀b o,X.base.get? b=some o->s.heap.get? b=some o/\H b=none:= λb o e=>
 ⟨I.base.keep b o (I.ok.bs b o e).1 (I.ok.bs b o e).2 (I.ok.nofr e) (I.ok.noex b o e),I.base.free b o (I.ok.bs b o e).1 (I.ok.bs b o e).2 (I.ok.noex b o e)⟩
theorem aM.bk(I:aM X aA σ H s): ∀b o,X.base.get? b=some o->s.heap.get? b=some o:= λb o e=>(I.bs b o e).1
theorem aM.mod(I:aM X aA σ H s):Mod X.K X.mg X.base:=I.ok.mod
theorem aM.kIn(I:aM X aA σ H s):X.K.In s.heap:=I.ok.mod.kin.keeps I.bk
theorem aM.lt(I:aM X aA σ H s):X.env.locals<s.heap.objs.size:=let⟨_,hn,_⟩:=I.loc;hn.lt
theorem aM.sz(I:aM X aA σ H s):X.s₀.heap.objs.size<=s.heap.objs.size:=Nat.le_trans I.ok.above (Nat.le_of_lt I.lt)
theorem aM.nofs(I:aM X aA σ H s){a:Addr}(h:s.heap.objs.size<=a):a∉X.fs:= λhb=>by
 obtain⟨_,o,ho,_⟩:=I.ok.funs.mem hb
 exact absurd (Nat.lt_of_lt_of_le (Heap.lt_size ho) (Nat.le_trans I.sz h)) (Nat.lt_irrefl _)
theorem aM.cne(I:aM X aA σ H s): ∀x c,X.env.cells.lookup x=some c->c≠X.env.locals:= λx c e z=>by
 obtain⟨v,o,ho,hd⟩:=I.cell x c e
 obtain⟨m,⟨o',es,ep,ho',vR,_⟩,_⟩:=I.loc
 rw[z,ho']at ho;cases ho;rw[vR]at hd;cases hd
theorem aM.funs(I:aM X aA σ H s):s.heap.FunFrames X.base X.outer:=by
 have all: ∀(l:List Env),(∀b∈frs l,b∈X.fs)->X.s₀.heap.FunFrames X.base l->s.heap.FunFrames X.base l:=by
  intro l
  induction l with
  |nil=>intro _ _;trivial
  |cons env r ih=>
   intro hs hl;obtain⟨hk,⟨L,o,hf,hn,ho,hd⟩,hr⟩:=hl;have hL:L∈X.fs:=hs L (by unfold frs;rw[List.filterMap_cons,hf];exact List.mem_cons_self);obtain⟨sl,e⟩:=I.base.slot L o ho (I.ok.frf L hL) hL λz=>I.ok.exfs L z hL;exact⟨hk,⟨L,_,hf,hn,e,hd⟩,ih (λb hb=>hs b (by unfold frs;rw[List.filterMap_cons,hf];exact List.mem_cons_of_mem _ hb)) hr⟩
 exact all X.outer (λ_ hb=>hb) I.ok.funs
theorem aM.stack(I:aM X aA σ H s):s.heap.FunFrames X.base X.stack:=by
 rcases I.ok.stk with e|⟨e,hf⟩
 . rw[e];exact I.funs
 . rw[e];obtain⟨m,hn,_⟩:=I.loc;refine .cons (by rw[I.ok.kind];decide) hf hn ?_ I.funs;exact Heap.get?_none_of_le (Nat.le_trans I.ok.bsz I.ok.above)
theorem aM.stkSub(I:aM X aA σ H s): ∀b∈frs X.stack,b∈X.env.locals::X.fs:= λb hb=>by
 rcases I.ok.stk with e|⟨e,hf⟩
 . rw[e]at hb;exact List.mem_cons_of_mem _ hb
 . rw[e]at hb;unfold frs at hb;rw[List.filterMap_cons,hf]at hb;exact hb
theorem aM.stkFree(I:aM X aA σ H s): ∀b∈frs X.stack,H b=none:= λb hb=>by
 rcases List.mem_cons.mp (I.stkSub b hb)with e|hb
 . rw[e];exact I.free
 . obtain⟨_,o,ho,_⟩:=I.ok.funs.mem hb;exact I.base.free b o ho (I.ok.frf b hb) λz=>I.ok.exfs b z hb
theorem aM.step{g':Array GenState}{t':Nat}{d':Drawn}{ch:List Addr}(I:aM X aA σ H s)
 (vX: ∀b∈ch,(b∈X.ex\/X.s₀.heap.objs.size<=b)/\b≠X.env.locals/\(∀x c,X.env.cells.lookup x=some c->c≠b)/\ ∀p∈X.pn++aA,p.1≠b)
 (keep: ∀b o,b≠X.env.locals->b∉X.fs->b∉ch->s.heap.get? b=some o->H b=none->h'.get? b=some o)
 (slot: ∀b o,b≠X.env.locals->b∈X.fs->b∉ch->s.heap.get? b=some o->H b=none-> ∃sl,h'.get? b=some {o with slots:=sl}) (free: ∀b o,b∉ch->s.heap.get? b=some o->H b=none->H' b=none)
 (there: ∀b o,b∉ch->s.heap.get? b=some o-> ∃o',h'.get? b=some o')
 (tups: ∀b xs,H b=some (.tup xs)->H' b=some (.tup xs)) (frzs: ∀b o u,H b=some (.frz o u)->H' b=some (.frz o u)) (tbls: ∀b ps,H b=some (.tbl ps)-> ∃more,H' b=some (.tbl (ps++more)))
 (ns: ∀m,s.heap.Ns X.env.locals m->h'.Ns X.env.locals m) (hok:jG X.prog X.w H' h') (hg:AllBare g'):
 aM X aA σ H' {s with heap:=h',gens:=g',drawn:=d',toks:=t'}:=by
 have neL: ∀b o,X.s₀.heap.get? b=some o->b≠X.env.locals:= λb o e=>Nat.ne_of_lt (Nat.lt_of_lt_of_le (Heap.lt_size e) I.ok.above)
 have neC: ∀b o,X.s₀.heap.get? b=some o->b∉X.ex->b∉ch:= λb o e hx hb=>by
  rcases(vX b hb).1 with z|z
  . exact hx z
  . exact absurd (Nat.lt_of_lt_of_le (Heap.lt_size e) z) (Nat.lt_irrefl _)
 have zit: ∀x c,X.env.cells.lookup x=some c-> ∀v,s.heap.IsCell c v->h'.IsCell c v:= λx c e v ⟨o,ho,hd⟩=>by
  have nch:c∉ch:= λz=>(vX c z).2.2.1 x c e rfl
  by_cases hc:c∈X.fs
  . obtain⟨sl,q⟩:=slot c o (I.cne x c e) hc nch ho (I.freeC x c e);exact⟨_,q,hd⟩
  . exact⟨o,keep c o (I.cne x c e) hc nch ho (I.freeC x c e),hd⟩
 refine⟨I.ok,I.os,hg,⟨λb o e n hb hx=> ?_,λb o e n hb hx=> ?_,λb o e n hx=> ?_,λb o e hx=> ?_,λb xs e=>tups b xs (I.base.tups b xs e),λb o xs e=>frzs b o xs (I.base.frzs b o xs e),λb ps e=> ?_⟩,?_,λx c e=> ?_,?_,λx c e=> ?_,λp hp=> ?_,hok,I.len⟩
 . exact keep b o (neL b o e) hb (neC b o e hx) (I.base.keep b o e n hb hx) (I.base.free b o e n hx)
 . obtain⟨sl,e1⟩:=I.base.slot b o e n hb hx;obtain⟨sl',e2⟩:=slot b _ (neL b o e) hb (neC b o e hx) e1 (I.base.free b o e n hx);exact⟨sl',e2⟩
 . obtain⟨o',e1⟩:=I.base.there b o e hx;exact free b o' (neC b o e hx) e1 (I.base.free b o e n hx)
 . obtain⟨o',e1⟩:=I.base.there b o e hx;exact there b o' (neC b o e hx) e1
 . obtain⟨m1,e1⟩:=I.base.tbls b ps e;obtain⟨m2,e2⟩:=tbls b _ e1;exact⟨m1++m2,by rw[e2,Array.append_assoc]⟩
 . obtain⟨m,hn,hl⟩:=I.loc;refine⟨m,ns m hn,λi x v e1 e2 e3=> ?_⟩;obtain⟨u,r,l⟩:=hl i x v e1 e2 e3;refine⟨u,r,?_⟩
   rcases l with l|⟨k,c,e,z⟩
   . exact .inl l
   . exact .inr ⟨k,c,e,zit x c e _ z⟩
 . obtain⟨v,z⟩:=I.cell x c e;exact⟨v,zit x c e v z⟩
 . obtain⟨m,⟨o,_,_,ho,_⟩,_⟩:=I.loc;exact free _ o (λz=>(vX _ z).2.1 rfl) ho I.free
 . obtain⟨v,o,ho,hd⟩:=I.cell x c e;exact free c o (λz=>(vX c z).2.2.1 x c e rfl) ho (I.freeC x c e)
 . obtain⟨e,n,ne,nf,d⟩:=I.pin p hp;have nch:p.1∉ch:= λz=>(vX p.1 z).2.2.2 p hp rfl;exact⟨keep p.1 p.2 ne nf nch e n,free p.1 p.2 nch e n,ne,nf,d⟩
theorem aM.un{t':Nat}(I:aM X aA σ H s)(u:Un X.fs [] H H' s.heap h')(hok:jG X.prog X.w H' h'):aM X aA σ H' {s with heap:=h',toks:=t'}:=by
 obtain⟨m,⟨o,es,ep,ho,r⟩,_⟩:=id I.loc
 obtain⟨sl,hL⟩:=u.any ho I.free (by simp)
 exact I.step (g':=s.gens) (d':=s.drawn) (ch:=[]) (λ_ z=>nomatch z) (λb o _ hb _ e n=>u.keep b o e n hb (by simp)) (λb o _ hb _ e n=>u.slot b o e n hb (by simp)) (λb o _ e n=>u.free b o e n (by simp)) (λb o _ e=>u.there b o e (by simp)) u.tups u.frzs u.tbls (λm' hm=>by
  obtain⟨o',es',ep',ho',r'⟩:=hm;rw[ho]at ho';cases ho';exact⟨_,es',ep',hL,r'⟩) hok I.bare
theorem aM.call{g':Array GenState}{t':Nat}{d':Drawn}{ch:List Addr}(I:aM X aA σ H s)(u:Un (frs X.stack) ch H H' s.heap h')(hok:jG X.prog X.w H' h')(hg:AllBare g')
 (vX: ∀b∈ch,(b∈X.ex\/X.s₀.heap.objs.size<=b)/\b≠X.env.locals/\(∀x c,X.env.cells.lookup x=some c->c≠b)/\ ∀p∈X.pn++aA,p.1≠b):
 aM X aA σ H' {s with heap:=h',gens:=g',drawn:=d',toks:=t'}:=by
 obtain⟨m,⟨o,es,ep,ho,r⟩,_⟩:=id I.loc
 obtain⟨sl,hL⟩:=u.any ho I.free λz=>(vX _ z).2.1 rfl
 exact I.step (ch:=ch) vX (λb o hL hb hc e n=>u.keep b o e n (λz=>(List.mem_cons.mp (I.stkSub b z)).elim hL hb) hc) (λb o _ _ hc e n=>u.any e n hc) (λb o hc e n=>u.free b o e n hc) (λb o hc e=>u.there b o e hc) u.tups u.frzs u.tbls (λm' hm=>by
  obtain⟨o',es',ep',ho',r'⟩:=hm;rw[ho]at ho';cases ho';exact⟨_,es',ep',hL,r'⟩) hok hg
theorem aM.turned{t':Nat}{it:Addr}(I:aM X aA σ H s)(k: ∀b o,b≠it->s.heap.get? b=some o->h'.get? b=some o)(hn:H it=none)(hL:it≠X.env.locals)
 (h1:it∈X.ex\/X.s₀.heap.objs.size<=it) (h2: ∀x c,X.env.cells.lookup x=some c->c≠it) (h3: ∀p∈X.pn++aA,p.1≠it):aM X aA σ H {s with heap:=h',toks:=t'}:=by
 have nit: ∀b u,H b=some u->b≠it:= λb u e z=>by rw[z,hn]at e;cases e
 refine I.step (g':=s.gens) (d':=s.drawn) (ch:=[it]) (λb hb=> ?_) (λb o _ _ hc e _=>k b o (λz=>hc (by simp[z])) e) (λb o _ _ hc e _=>⟨o.slots,k b o (λz=>hc (by simp[z])) e⟩) (λ_ _ _ _ n=>n)
  (λb o hc e=>⟨o,k b o (λz=>hc (by simp[z])) e⟩) (λ_ _ e=>e) (λ_ _ _ e=>e) (λb ps e=>⟨#[],by rw[e];simp⟩) (λm hm=> ?_) (λb u e=> ?_) I.bare
 . have e:b=it:=by simpa using hb
   subst e;exact⟨h1,hL,h2,h3⟩
 . obtain⟨o,es,ep,ho,r⟩:=hm;exact⟨o,es,ep,k _ o (Ne.symm hL) ho,r⟩
 . refine(I.hok b u e).stay (λc v hc q=>k c v ?_ q) (λ_ q=>q) λ_ _ q=>q
   rcases hc with z|z
   . rw[z];exact nit b u e
   . exact nit c _ z
theorem aM.tok(I:aM X aA σ H s)(t:Nat):aM X aA σ H {s with toks:=t}:=I.un (h':=s.heap) (t':=t) Un.refl I.hok
theorem aM.kept{t':Nat}(I:aM X aA σ H s)(k: ∀b u,s.heap.get? b=some u->h'.get? b=some u):aM X aA σ H {s with heap:=h',toks:=t'}:=I.un (Un.kept k) (I.hok.kept k)
theorem aM.laid{a:Addr}{o:HO}{t':Nat}(I:aM X aA σ H s)(k: ∀b u,s.heap.get? b=some u->h'.get? b=some u)(hp:s.heap.objs.size<=a)(new:cP X.prog X.w (aN H a o) h' a o):
 aM X aA σ (aN H a o) {s with heap:=h',toks:=t'}:=I.un (Un.laid k hp (I.hok.fresh hp)) (I.hok.laid k hp new)
theorem aM.write{x e:Addr}{o:HO}{t':Nat}(I:aM X aA σ H s)(mu:Mut (H x))(he:e=x\/H e=some (.own x))(k: ∀b u,b≠e->s.heap.get? b=some u->h'.get? b=some u)(heo: ∃u,h'.get? e=some u)
 (new:cP X.prog X.w (aN H x o) h' x o):aM X aA σ (aN H x o) {s with heap:=h',toks:=t'}:=I.un (Un.write mu he k heo) (I.hok.write mu he k heo new)
theorem aM.pins_of{zjh:List (Addr×Obj)}(I:aM X aA σ H s)(h: ∀p∈zjh,s.heap.get? p.1=some p.2/\H p.1=none/\p.1≠X.env.locals/\p.1∉X.fs/\ ∀v,p.2.data≠ .cell v):aM X zjh σ H s:=
 ⟨I.ok,I.os,I.bare,I.base,I.loc,I.cell,I.free,I.freeC,λp hp=>(List.mem_append.mp hp).elim (λz=>I.pin p (List.mem_append_left _ z)) (h p),I.hok,I.len⟩
theorem xZ{N:List Str}(hN:N.Nodup){i j:Nat}{x:Str}(a:N[i]?=some x)(b:N[j]?=some x):i=j:=by
 obtain⟨h1,e1⟩:=List.getElem?_eq_some_iff.mp a
 obtain⟨h2,e2⟩:=List.getElem?_eq_some_iff.mp b
 exact(List.getElem_inj hN).mp (e1.trans e2.symm)
theorem zcJ{M:Model}{A:Around}{E:Value->Shared->Prop}{i:Nat}{x:Str}{v:V}{u:Value}{Q:Unit->Shared->Prop}(I:aM X aA σ H s)(hN:X.N.Nodup)(hi:X.N[i]?=some x)(hx:Loc X.env.scope x)(r:bA v u)
 (h: ∀s',aM X aA (σ.set i (some v)) H s'->(∃a,Heap.SameBut a s.heap s'.heap/\(a=X.env.locals\/X.env.cells.lookup x=some a))->Q () s') (hf:X.fn x=true\/X.env.scope.names.lookup x=some .local:=by first|exact .inl rfl|exact .inr rfl|assumption):wpAny M A (storeName X.env x u) Q E s:=by
 obtain⟨m,hn,hl⟩:=id I.loc
 have zuZ:(X.env.scope.kind== .class||(X.env.scope.kind== .module&&X.env.locals != X.env.globals))=false:=by rw[I.ok.kind];rfl
 have zvF:i<σ.length:=by rw[I.len];exact(List.getElem?_eq_some_iff.mp hi).1
 have cne:=I.cne
 have zaK: ∀{a:Addr} {h':Heap},(∃o,s.heap.get? a=some o/\H a=none)->Heap.SameBut a s.heap h'->jG X.prog X.w H h':= λ{a h'} ha hs b ob e=>by
  obtain⟨_,_,eI⟩:=ha;refine(I.hok b ob e).stay (λc w' hc q=>(hs.2 c ?_).trans q) (λ_ q=>q) λ_ _ q=>q;rintro rfl
  rcases hc with rfl|hc
  . rw[eI]at e;cases e
  . rw[eI]at hc;cases hc
 rcases hx with hk|hk
 . refine wpAny_storeName_local hk hn (λh' hn' hs=> ?_) zuZ;obtain⟨oL,_,_,hoL,_⟩:=id hn;refine h _ ⟨I.ok,I.os,I.bare,⟨λb o e n hb hx=> ?_,λb o e n hb hx=> ?_,I.base.free,λb o e hx=> ?_,I.base.tups,I.base.frzs,I.base.tbls⟩,⟨_,hn',λj y v' e1 e2 e3=> ?_⟩,λy c e=> ?_,I.free,I.freeC,λp hp=> ?_,zaK ⟨oL,hoL,I.free⟩ hs,by simpa using I.len⟩ ⟨_,hs,.inl rfl⟩
   . exact(hs.2 b (Nat.ne_of_lt (Nat.lt_of_lt_of_le (Heap.lt_size e) I.ok.above))).trans (I.base.keep b o e n hb hx)
   . obtain⟨sl,e1⟩:=I.base.slot b o e n hb hx;exact⟨sl,(hs.2 b (Nat.ne_of_lt (Nat.lt_of_lt_of_le (Heap.lt_size e) I.ok.above))).trans e1⟩
   . obtain⟨o',e1⟩:=I.base.there b o e hx;exact⟨o',(hs.2 b (Nat.ne_of_lt (Nat.lt_of_lt_of_le (Heap.lt_size e) I.ok.above))).trans e1⟩
   . by_cases hj:j=i
     . subst hj;rw[hi]at e1;cases e1;rw[List.getElem?_set_self zvF]at e2;cases e2;exact⟨u,r,.inl ⟨hk,by simp⟩⟩
     . rw[List.getElem?_set_ne (Ne.symm hj)]at e2;obtain⟨u',r',q⟩:=hl j y v' e1 e2 e3;refine⟨u',r',?_⟩
       rcases q with⟨k,e⟩|⟨k,c,e,z⟩
       . refine .inl ⟨k,?_⟩;have:y≠x:= λe=>hj (xZ hN e1 (e▸hi));simp[this,e]
       . exact .inr ⟨k,c,e,z.sameBut hs (cne y c e)⟩
   . obtain⟨w',z⟩:=I.cell y c e;exact⟨w',z.sameBut hs (cne y c e)⟩
   . obtain⟨e,n,ne,nf,d⟩:=I.pin p hp;exact⟨(hs.2 p.1 ne).trans e,n,ne,nf,d⟩
 . have hfn:X.fn x=true:=by
    rcases hf with z|z
    . exact z
    . rw[z]at hk;cases hk
   obtain⟨c,hc⟩:=I.ok.has x (.inl hk);obtain⟨w',z⟩:=I.cell x c hc;refine wpAny_storeName_cell I.ok.kind hk hc z (λh' hc' hs=> ?_);obtain⟨oc,hoc,zth⟩:=id z;refine h {s with heap:=h'} ⟨I.ok,I.os,I.bare,⟨λb o e n hb hx=> ?_,λb o e n hb hx=> ?_,I.base.free,λb o e hx=> ?_,I.base.tups,I.base.frzs,I.base.tbls⟩,⟨m,hn.sameBut hs (Ne.symm (cne x c hc)),λj y v' e1 e2 e3=> ?_⟩,λy c' e=> ?_,I.free,I.freeC,λp hp=> ?_,zaK ⟨oc,hoc,I.freeC x c hc⟩ hs,by simpa using I.len⟩ ⟨c,hs,.inr hc⟩
   . exact(hs.2 b (Nat.ne_of_lt (Nat.lt_of_lt_of_le (Heap.lt_size e) (I.ok.cab x c hfn hc)))).trans (I.base.keep b o e n hb hx)
   . obtain⟨sl,e1⟩:=I.base.slot b o e n hb hx;exact⟨sl,(hs.2 b (Nat.ne_of_lt (Nat.lt_of_lt_of_le (Heap.lt_size e) (I.ok.cab x c hfn hc)))).trans e1⟩
   . obtain⟨o',e1⟩:=I.base.there b o e hx;exact⟨o',(hs.2 b (Nat.ne_of_lt (Nat.lt_of_lt_of_le (Heap.lt_size e) (I.ok.cab x c hfn hc)))).trans e1⟩
   . by_cases hj:j=i
     . subst hj;rw[hi]at e1;cases e1;rw[List.getElem?_set_self zvF]at e2;cases e2;exact⟨u,r,.inr ⟨.inl hk,c,hc,hc'⟩⟩
     . rw[List.getElem?_set_ne (Ne.symm hj)]at e2;obtain⟨u',r',q⟩:=hl j y v' e1 e2 e3;refine⟨u',r',?_⟩
       rcases q with q|⟨k,c',e,z'⟩
       . exact .inl q
       . refine .inr ⟨k,c',e,z'.sameBut hs ?_⟩;rintro rfl;exact hj (xZ hN e1 (I.ok.inj _ _ _ e hc▸hi))
   . by_cases hcc:c'=c
     . subst hcc;exact⟨_,hc'⟩
     . obtain⟨w2,z2⟩:=I.cell y c' e;exact⟨w2,z2.sameBut hs hcc⟩
   . obtain⟨e,n,ne,nf,d⟩:=I.pin p hp;refine⟨(hs.2 p.1 ?_).trans e,n,ne,nf,d⟩;intro q;rw[q,hoc]at e;have q':oc=p.2:=Option.some.inj e;exact d w' (by rw[<-q'];exact zth)
theorem iC{M:Model}{A:Around}{E:Value->Shared->Prop}{i:Nat}{x:Str}{v:V}{u:Value}{Q:Unit->Shared->Prop}(I:aM X aA σ H s)(hN:X.N.Nodup)(hi:X.N[i]?=some x)(hx:Loc X.env.scope x)(r:bA v u)
 (h: ∀s',aM X aA (σ.set i (some v)) H s'->Q () s') (hf:X.fn x=true\/X.env.scope.names.lookup x=some .local:=by first|exact .inl rfl|exact .inr rfl|assumption):wpAny M A (storeName X.env x u) Q E s:=
 zcJ I hN hi hx r (λs' I' _=>h s' I') hf
theorem aM.call'{s':Shared}{ch:List Addr}(I:aM X aA σ H s)(ho:s'.os=s.os)(u:Un (frs X.stack) ch H H' s.heap s'.heap)(hok:jG X.prog X.w H' s'.heap)(hg:AllBare s'.gens)
 (vX: ∀b∈ch,(b∈X.ex\/X.s₀.heap.objs.size<=b)/\b≠X.env.locals/\(∀x c,X.env.cells.lookup x=some c->c≠b)/\ ∀p∈X.pn++aA,p.1≠b):aM X aA σ H' s':=by
 obtain⟨h',g',d',t',o'⟩:=s'
 have e:o'=s.os:=ho
 subst e
 exact I.call (g':=g') (t':=t') (d':=d') u hok hg vX
end
abbrev XK:=Value->Option Addr->Hp->Prop
abbrev St:=List (Option V)
abbrev VK:=V->Hp->Prop
abbrev TE:=St->Hp->VK->Prop
abbrev TT:=St->Hp->(Bool->Hp->Prop)->Prop
abbrev TA:=St->Hp->(List V->Hp->Prop)->Prop
structure gK where
 nx:St->Hp->Prop
 rt:VK
 bk:St->Hp->Prop:= λ_ _=>False
 ct:St->Hp->Prop:= λ_ _=>False
abbrev TS:=gK->St->Hp->Prop
def EP(X:Cx)(aA:List (Addr×Obj))(σ:St)(Q:VK)(u:Value)(s':Shared):Prop:= ∃v H',aM X aA σ H' s'/\bA v u/\Q v H'
def TP(X:Cx)(aA:List (Addr×Obj))(σ:St)(Q:Bool->Hp->Prop)(b:Bool)(s':Shared):Prop:= ∃H',aM X aA σ H' s'/\Q b H'
def AP(X:Cx)(aA:List (Addr×Obj))(σ:St)(Q:List V->Hp->Prop)(us:List Value)(s':Shared):Prop:= ∃vs H',aM X aA σ H' s'/\bK vs us/\Q vs H'
def SP(X:Cx)(aA:List (Addr×Obj))(D:gK)(f:Flow)(s':Shared):Prop:=
 match f with
 | .next=> ∃σ' H',aM X aA σ' H' s'/\D.nx σ' H'
 | .brk=> ∃σ' H',aM X aA σ' H' s'/\D.bk σ' H'
 | .cont=> ∃σ' H',aM X aA σ' H' s'/\D.ct σ' H'
 | .ret u=> ∃v σ' H',aM X aA σ' H' s'/\bA v u/\D.rt v H'
def PE(X:Cx)(e:Expr)(t:TE):Prop:=
 ∀(aA:List (Addr×Obj)) (s:Shared) (σ:St) (H:Hp) (Q:VK),aM X aA σ H s->t σ H Q->wpAny (model X.prog X.w) X.A (eval e X.env) (EP X aA σ Q) X.xe s
def PT(X:Cx)(e:Expr)(t:TT):Prop:=
 ∀(aA:List (Addr×Obj)) (s:Shared) (σ:St) (H:Hp) (Q:Bool->Hp->Prop),aM X aA σ H s->t σ H Q->wpAny (model X.prog X.w) X.A (isTrue e X.env (eval e X.env)) (TP X aA σ Q) X.xe s
def PW(X:Cx)(e:Expr)(t:TT):Prop:=
 ∀(rG:Sem Value) (aA:List (Addr×Obj)) (s:Shared) (σ:St) (H:Hp) (Q:Bool->Hp->Prop),aM X aA σ H s->t σ H Q->wpAny (model X.prog X.w) X.A (isTrue e X.env rG) (TP X aA σ Q) X.xe s
theorem PW.pt{X:Cx}{e:Expr}{t:TT}(h:PW X e t):PT X e t:=h _
def PA(X:Cx)(es:List Expr)(t:TA):Prop:=
 ∀(pos:Pos) (aA:List (Addr×Obj)) (s:Shared) (σ:St) (H:Hp) (Q:List V->Hp->Prop),aM X aA σ H s->t σ H Q->wpAny (model X.prog X.w) X.A (spliced (backTo pos (starEach es X.env))) (AP X aA σ Q) X.xe s
def PS(X:Cx)(st:Stmt)(t:TS):Prop:=
 ∀(aA:List (Addr×Obj)) (s:Shared) (σ:St) (H:Hp) (D:gK),aM X aA σ H s->t D σ H->wpAny (model X.prog X.w) X.A (exec st X.env) (SP X aA D) X.xe s
def xQ(X:Cx)(st:List Stmt)(t:TS):Prop:=
 ∀(aA:List (Addr×Obj)) (s:Shared) (σ:St) (H:Hp) (D:gK),aM X aA σ H s->t D σ H->wpAny (model X.prog X.w) X.A (execs st X.env) (SP X aA D) X.xe s
theorem cH{α:Type}{t:Sem α}{Q Q':α->Shared->Prop}{M:Model}{A:Around}{E:Value->Shared->Prop}{s:Shared}(h:wpAny M A t Q E s)(hQ: ∀a s,Q a s->Q' a s):wpAny M A t Q' E s:=wpAny_mono h hQ λ_ _ x=>x
section
def aL(i:Nat):TE:= λσ H Q=> ∃v,σ[i]?=some (some v)/\Q v H
def tC(v:V):TE:= λ_ H Q=>Q v H
theorem zki{i:Nat}{x:Str}{pos:Pos}(hN:X.N[i]?=some x)(hv:Vis X.env.scope x)(hd:(x==("__debug__" :Str))=false:=by decide)(pF:(x==("__classdict__" :Str))=false:=by decide):PE X (.Name x pos) (aL i):=by
 intro aA s σ H Q I h
 obtain⟨v,e,h⟩:=h
 obtain⟨m,hn,hl⟩:=I.loc
 obtain⟨u,r,l⟩:=hl i x v hN e hv
 have fN:EP X aA σ Q u s:=⟨v,H,I,r,h⟩
 rcases l with⟨hk,hm⟩|⟨hk,c,hc,nA⟩
 . exact wpAny_Name (wpAny_loadName_local I.ok.kind hk hn hm fN) hd
 . rcases hk with hk|hk
   . exact wpAny_Name (wpAny_loadName_cell I.ok.kind hk hc nA fN) hd
   . exact wpAny_Name (wpAny_loadName_free I.ok.kind hk hc nA fN pF) hd
theorem aI{i j pos}:PE X (.Constant (.int i) j pos) (tC (.int i)):= λ_ _ _ H _ I h=>wpAny_Constant_int ⟨.int i,H,I.tok _,⟨_,rfl⟩,h⟩
theorem tD{b j pos}:PE X (.Constant (.bool b) j pos) (tC (.bl b)):= λ_ _ _ H _ I h=>Constant_bool ⟨.bl b,H,I,rfl,h⟩
theorem nY{j pos}:PE X (.Constant .none j pos) (tC .non):= λ_ _ _ H _ I h=>Constant_none ⟨.non,H,I,rfl,h⟩
theorem pL{x j pos}:PE X (.Constant (.str x) j pos) (tC (.str x)):= λ_ _ _ H _ I h=>Calls.Constant_str ⟨.str x,H,I.tok _,⟨_,rfl⟩,h⟩
def Gl(X:Cx)(x:Str):Prop:=X.env.kindOf x=some .globalImplicit
theorem vL{E:Value->Shared->Prop}{aA:List (Addr×Obj)}{s:Shared}{σ:St}{H:Hp}{x:Str}{u:Value}{pos:Pos}{Q:Value->Shared->Prop}(I:aM X aA σ H s)(hg:Gl X x)(hm:X.mg x=some u)(h:Q u s)
 (hd:(x==("__debug__" :Str))=false:=by decide):wpAny (model X.prog X.w) X.A (eval (.Name x pos) X.env) Q E s:=
 Calls.Name_function_global I.ok.kind hg (Calls.loadGlobal_global (by rw[I.ok.glob];exact I.mod.glob.keeps I.bk) hm h) hd
theorem iV{E:Value->Shared->Prop}{aA:List (Addr×Obj)}{s:Shared}{σ:St}{H:Hp}{x:Str}{u:Value}{pos:Pos}{Q:Value->Shared->Prop}(I:aM X aA σ H s)(hg:Gl X x)(hm:X.mg x=none)(hv:bootBuiltins x=some u)(h:Q u s)
 (hn:x≠ "__name__" :=by decide) (hd:(x==("__debug__" :Str))=false:=by decide):wpAny (model X.prog X.w) X.A (eval (.Name x pos) X.env) Q E s:=by
 obtain⟨mb,h1,h2⟩:=I.mod.blt
 exact Calls.Name_function_global I.ok.kind hg (Calls.loadGlobal_builtin (by rw[I.ok.glob];exact I.mod.glob.keeps I.bk) hm (by rw[I.ok.blt];exact h1.keeps I.bk) ((h2 x hn).trans hv) h) hd
variable {a b:Expr}
def PC(X:Cx)(op:CmpOp)(a b:Expr)(t:TE):Prop:=
 ∀(aA:List (Addr×Obj)) (s:Shared) (σ:St) (H:Hp) (Q:VK),aM X aA σ H s->t σ H Q->
  wpAny (model X.prog X.w) X.A (eval a X.env) (λv s₁=>wpAny (model X.prog X.w) X.A (eval b X.env) (λu s₂=>wpAny (model X.prog X.w) X.A (compareOp op v u) (EP X aA σ Q) X.xe s₂) X.xe s₁) X.xe s
def tB(t:TE):TT:= λσ H Q=>t σ H λx H1=> ∃c,x= .bl c/\Q c H1
theorem vN{op:CmpOp}{t:TE}(h:PC X op a b t)(h1:behindInMarks op b=false:=by first|exact nobehind _ (by decide) (by decide)|rfl):PT X (.Compare a [op] [b] pos) (tB t):=by
 intro aA s σ H Q I hw
 refine wpAny_isTrue_Compare1 (cH (h aA s σ H _ I hw) λv s1 h1=>cH h1 λu s2 h2=>cH h2 λc s3 ⟨x,H1,I1,r1,q1⟩=> ?_) h1
 obtain⟨d,rfl,q⟩:=q1
 cases r1
 exact wpAny_truthy_bool ⟨H1,I1,q⟩
theorem zfT{e:Expr}{t:TE}(h:PE X e t)(he: ∀rG,isTrue e X.env rG=(do let v<-rG;standAt e.pos;holding [v] (truthy v)):=by intro _;rfl):PT X e (tB t):=by
 intro aA s σ H Q I hw
 refine isTrue_plain (cH (h aA s σ H _ I hw) λv s1 ⟨x,H1,I1,r1,q1⟩=> ?_) (he _)
 obtain⟨d,rfl,q⟩:=q1
 cases r1
 exact wpAny_truthy_bool ⟨H1,I1,q⟩
variable {tA tB':TT}{rest:List Expr}
def zuD(t u:TT):TT:= λσ H Q=>t σ H λc H1=>if c=true then u σ H1 Q else Q false H1
def tOr(t u:TT):TT:= λσ H Q=>t σ H λc H1=>if c=true then Q true H1 else u σ H1 Q
def zuB(t:TT):TT:= λσ H Q=>t σ H λc H1=>Q (!c) H1
theorem zaI(ha:PT X a tA):PW X (.BoolOp .And [a] pos) tA:=by
 intro wh aA s σ H Q I h
 refine isTrue_and (cH (ha aA s σ H Q I h) λc s1 e=> ?_)
 cases c with
 |true=>exact isTrue_and_nil e
 |false=>exact e
theorem zlq(ha:PT X a tA):PW X (.BoolOp .Or [a] pos) tA:=by
 intro wh aA s σ H Q I h
 refine isTrue_or (cH (ha aA s σ H Q I h) λc s1 e=> ?_)
 cases c with
 |false=>exact isTrue_or_nil e
 |true=>exact e
theorem zeR(ha:PT X a tA)(hb:PW X (.BoolOp .And (b::rest) pos) tB'):PW X (.BoolOp .And (a::b::rest) pos) (zuD tA tB'):=by
 intro wh aA s σ H Q I h
 refine isTrue_and (cH (ha aA s σ H _ I h) λc s1 ⟨H1,I1,q1⟩=> ?_)
 cases c with
 |true=>exact hb wh aA s1 σ H1 Q I1 q1
 |false=>exact⟨H1,I1,q1⟩
theorem zoy(ha:PT X a tA)(hb:PW X (.BoolOp .Or (b::rest) pos) tB'):PW X (.BoolOp .Or (a::b::rest) pos) (tOr tA tB'):=by
 intro wh aA s σ H Q I h
 refine isTrue_or (cH (ha aA s σ H _ I h) λc s1 ⟨H1,I1,q1⟩=> ?_)
 cases c with
 |true=>exact⟨H1,I1,q1⟩
 |false=>exact hb wh aA s1 σ H1 Q I1 q1
theorem zdp(ha:PT X a tA):PT X (.UnaryOp .Not a pos) (zuB tA):=by
 intro aA s σ H Q I h
 exact isTrue_not (ha aA s σ H (λc H1=>Q (!c) H1) I h)
end
def aY(K:W.Frag)(H:Hp)(a:Addr)(xs:List V):Prop:=
 Rd H a (.lst xs)\/
  ∃(o:Obj) (bC:Array Value) (n:Nat),K.lookup a=some o/\o.cls= .type "list" /\o.dict=none/\o.data= .seq bC n/\bC.size<=sizeLine/\bK xs bC.toList
def fR(K:W.Frag)(H:Hp)(a:Addr)(xs:List V):Prop:=
 Rd H a (.tup xs)\/
  ∃(o:Obj) (bC:Array Value) (n:Nat),K.lookup a=some o/\o.cls= .type "tuple" /\o.data= .seq bC n/\bC.size<=sizeLine/\bK xs bC.toList
def ztw:Value->Option V
 | .none=>some .non
 | .bool b=>some (.bl b)
 | .int i _=>some (.int i)
 | .str x _=>some (.str x)
 | .bytes b _=>some (.byt b)
 | .float b _=>some (.flt b)
 | .ref a=>some (.ref a)
 | .type n=>some (.ty n)
 |_=>none
theorem bA.abs{x:V}{u:Value}(r:bA x u):ztw u=some x:=by
 cases x with
 |non=>cases r;rfl
 |bl _=>cases r;rfl
 |int _=>obtain⟨t,rfl⟩:=r;rfl
 |str _=>obtain⟨t,rfl⟩:=r;rfl
 |byt _=>obtain⟨t,rfl⟩:=r;rfl
 |flt _=>obtain⟨t,rfl⟩:=r;rfl
 |ref _=>cases r;rfl
 |ty _=>cases r;rfl
theorem bA.inj{x y:V}{u:Value}(r:bA x u)(q:bA y u):x=y:=Option.some.inj (r.abs.symm.trans q.abs)
theorem bK.inj{xs ys:List V}{us:List Value}(h:bK xs us):bK ys us->xs=ys:=by
 induction h generalizing ys with
 |nil=>intro q;cases q;rfl
 |cons r t ih=>intro q;cases q with|cons r' t'=>rw[r.inj r',ih t']
section
variable {σ:St}{a:Addr}{xs ys:List V}
theorem aY.of{K:W.Frag}(h:H a=some (.lst xs)):aY K H a xs:= .inl (.inl h)
theorem fR.of{K:W.Frag}(h:H a=some (.tup xs)):fR K H a xs:= .inl (.inl h)
theorem aM.list(I:aM X aA σ H s)(h:aY X.K H a xs): ∃bC:List Value,bK xs bC/\PlainL s.heap a bC.toArray/\xs.length<=sizeLine:=by
 rcases h with h|⟨o,bC,n,hk,hc,hd,hs,hz,r⟩
 . obtain⟨z,bC,n,r,e⟩:=h.ok I.hok;exact⟨bC,r,⟨_,n,e,rfl,rfl,rfl⟩,z⟩
 . refine⟨bC.toList,r,⟨o,n,I.kIn a o hk,hc,hd,by simpa using hs⟩,?_⟩;have e:=r.length;simp only[Array.length_toList]at e;omega
theorem aM.tuple(I:aM X aA σ H s)(h:fR X.K H a xs): ∃bC:List Value,bK xs bC/\IsTup s.heap a bC.toArray/\xs.length<=sizeLine:=by
 rcases h with h|⟨o,bC,n,hk,hc,hs,hz,r⟩
 . obtain⟨z,bC,r,p⟩:=h.ok I.hok;exact⟨bC,r,p,z⟩
 . refine⟨bC.toList,r,⟨o,I.kIn a o hk,hc,n,by simpa using hs⟩,?_⟩;have e:=r.length;simp only[Array.length_toList]at e;omega
theorem aM.list_inj(I:aM X aA σ H s)(h:aY X.K H a xs)(h':aY X.K H a ys):xs=ys:=by
 obtain⟨bC,r,⟨o,n,e,_,_,d⟩,_⟩:=I.list h
 obtain⟨its',r',⟨o',n',e',_,_,d'⟩,_⟩:=I.list h'
 rw[e]at e';cases e'
 rw[d]at d'
 injection d' with d1 _
 have:bC=its':=by simpa using congrArg Array.toList d1
 subst this
 exact r.inj r'
theorem aM.tuple_inj(I:aM X aA σ H s)(h:fR X.K H a xs)(h':fR X.K H a ys):xs=ys:=by
 obtain⟨bC,r,⟨o,e,_,n,d⟩,_⟩:=I.tuple h
 obtain⟨its',r',⟨o',e',_,n',d'⟩,_⟩:=I.tuple h'
 rw[e]at e';cases e'
 rw[d]at d'
 injection d' with d1 _
 have:bC=its':=by simpa using congrArg Array.toList d1
 subst this
 exact r.inj r'
end
abbrev Cx.wish(X:Cx)(E:Value->Shared->Prop):Cx:={X with xe:=E}
abbrev Cx.nox(X:Cx):Cx:=X.wish λ_ _=>False
theorem Cx.Ok.wish{X:Cx}(ok:X.Ok)(E:Value->Shared->Prop):(X.wish E).Ok:=
 ⟨ok.mod,ok.kind,ok.glob,ok.blt,ok.above,ok.inj,ok.has,ok.cab,ok.hd,ok.frames,ok.stk,ok.exf,ok.bs,ok.bsz,ok.noex,ok.exfs,ok.funs,ok.frf⟩
theorem Cx.Ok.unwish{X:Cx}{E:Value->Shared->Prop}(ok:(X.wish E).Ok):X.Ok:=
 ⟨ok.mod,ok.kind,ok.glob,ok.blt,ok.above,ok.inj,ok.has,ok.cab,ok.hd,ok.frames,ok.stk,ok.exf,ok.bs,ok.bsz,ok.noex,ok.exfs,ok.funs,ok.frf⟩
section
variable {σ:St}{E:Value->Shared->Prop}
theorem aM.wish(I:aM X aA σ H s)(E:Value->Shared->Prop):aM (X.wish E) aA σ H s:=⟨I.ok.wish E,I.os,I.bare,I.base,I.loc,I.cell,I.free,I.freeC,I.pin,I.hok,I.len⟩
theorem aM.unwish(I:aM (X.wish E) aA σ H s):aM X aA σ H s:=⟨I.ok.unwish,I.os,I.bare,I.base,I.loc,I.cell,I.free,I.freeC,I.pin,I.hok,I.len⟩
theorem SP.unwish{D:gK}{f:Flow}{s':Shared}(h:SP (X.wish E) aA D f s'):SP X aA D f s':=by
 cases f with
 |next=>obtain⟨σ',H',I,q⟩:=h;exact⟨σ',H',I.unwish,q⟩
 |brk=>obtain⟨σ',H',I,q⟩:=h;exact⟨σ',H',I.unwish,q⟩
 |cont=>obtain⟨σ',H',I,q⟩:=h;exact⟨σ',H',I.unwish,q⟩
 |ret u=>obtain⟨v,σ',H',I,r,q⟩:=h;exact⟨v,σ',H',I.unwish,r,q⟩
theorem xQ.nox{st:List Stmt}{t:TS}(h:xQ X.nox st t):xQ X st t:= λaA s σ H D I hw=>
 wpAny_mono (h aA s σ H D (I.wish _) hw) (λ_ _ q=>q.unwish) λ_ _ z=>False.elim z
end
section
variable {st:Stmt}{rest:List Stmt}{t u:TS}{e:Expr}
def zoH:TS:= λD σ H=>D.nx σ H
def cC(t u:TS):TS:= λD σ H=>t {D with nx:=u D} σ H
theorem bW:xQ X [] zoH:= λ_ _ σ H _ I h=>wpAny_execs_nil ⟨σ,H,I,h⟩
theorem aE(h1:PS X st t)(h2:xQ X rest u):xQ X (st::rest) (cC t u):=by
 intro aA s σ H D I h
 refine wpAny_execs_cons (cH (h1 aA s σ H {D with nx:=u D} I h) λf s1 q=> ?_)
 cases f with
 |next=>
  obtain⟨σ',H',I',q⟩:=q;exact h2 aA s1 σ' H' D I' q
 |ret v=>exact q
 |brk=>exact q
 |cont=>exact q
theorem aK(h1:PS X st t):xQ X [st] t:=by
 intro aA s σ H D I h
 refine wpAny_execs_cons (cH (h1 aA s σ H D I h) λf s1 q=> ?_)
 cases f with
 |next=>exact wpAny_execs_nil q
 |ret v=>exact q
 |brk=>exact q
 |cont=>exact q
def zkb:TS:= λD σ H=>D.bk σ H
theorem zdV:PS X (.Break pos) zkb:= λ_ _ σ H _ I h=>wpAny_Break ⟨σ,H,I,h⟩
theorem aM.quiet{aA:List (Addr×Obj)}{σ:St}{H:Hp}{s:Shared}(I:aM X aA σ H s):interactive X.env=false:=by simp[interactive,I.ok.kind]
def zok(te:TE):TS:= λD σ H=>te σ H λ_ H1=>D.nx σ H1
theorem dB(he:PE X e te)(hs:swapsWith e none pos.line X.env=pure false:=by rfl):PS X (.Expr e pos) (zok te):=by
 intro aA s σ H D I h
 exact wpAny_Expr_any (cH (he aA s σ H _ I h) λv s1 ⟨x,H1,I1,r1,q1⟩=>⟨σ,H1,I1,q1⟩) I.quiet hs
def zsU(te:TE):TS:= λD σ H=>te σ H D.rt
theorem cE(he:PE X e te):PS X (.Return (some e) pos) (zsU te):=by
 intro aA s σ H D I h
 exact wpAny_Return_some (cH (he aA s σ H _ I h) λv s1 ⟨x,H1,I1,r1,q1⟩=>⟨x,σ,H1,I1,r1,q1⟩)
def zsp(c:TT)(t u:TS):TS:= λD σ H=>c σ H λb H1=>if b=true then t D σ H1 else u D σ H1
theorem dX{c:Expr}{a b:List Stmt}{tc:TT}(hc:PT X c tc)(ha:xQ X a t)(hb:xQ X b u):PS X (.If c a b pos) (zsp tc t u):=by
 intro aA s σ H D I h
 refine wpAny_If (cH (hc aA s σ H _ I h) λd s1 ⟨H1,I1,q1⟩=> ?_)
 cases d with
 |true=>exact ha aA s1 σ H1 D I1 q1
 |false=>exact hb aA s1 σ H1 D I1 q1
def zlz:TS:= λ_ _ _=>False
theorem qN:PS X st zlz:= λ_ _ _ _ _ _ h=>h.elim
end
abbrev TG:=V->St->Hp->(St->Hp->Prop)->Prop
abbrev TGs:=List V->St->Hp->(St->Hp->Prop)->Prop
def PG(X:Cx)(nJ:Expr)(t:TG):Prop:=
 ∀(aA:List (Addr×Obj)) (s:Shared) (σ:St) (H:Hp) (v:V) (u:Value) (Q:St->Hp->Prop),aM X aA σ H s->bA v u->t v σ H Q->
  wpAny (model X.prog X.w) X.A (assign nJ X.env u) (λ_ s'=> ∃σ' H',aM X aA σ' H' s'/\Q σ' H') X.xe s
def PGs(X:Cx)(ts:List Expr)(t:TGs):Prop:=
 ∀(aA:List (Addr×Obj)) (s:Shared) (σ:St) (H:Hp) (vs:List V) (us:List Value) (Q:St->Hp->Prop),aM X aA σ H s->bK vs us->t vs σ H Q->
  wpAny (model X.prog X.w) X.A (assignInOrder ((assignEach ts X.env).map (·.2)) us) (λ_ s'=> ∃σ' H',aM X aA σ' H' s'/\Q σ' H') X.xe s
abbrev zkR:=V->V->V->Hp->(Hp->Prop)->Prop
def znF(X:Cx)(t:zkR):Prop:=
 ∀(aA:List (Addr×Obj)) (s:Shared) (σ:St) (H:Hp) (o i v:V) (ov iv u:Value) (Q:Hp->Prop),aM X aA σ H s->bA o ov->bA i iv->bA v u->t o i v H Q->
  wpAny (model X.prog X.w) X.A (setItem ov iv u) (λ_ s'=> ∃H',aM X aA σ H' s'/\Q H') X.xe s
abbrev TIp:=V->V->Hp->VK->Prop
def PIp(X:Cx)(op:Operator)(t:TIp):Prop:=
 ∀(aA:List (Addr×Obj)) (s:Shared) (σ:St) (H:Hp) (x y:V) (v u:Value) (Q:VK),aM X aA σ H s->bA x v->bA y u->t x y H Q->
  wpAny (model X.prog X.w) X.A (inplaceOp op v u) (EP X aA σ Q) X.xe s
def bD(i:Nat):TG:= λv σ H Q=>Q (σ.set i (some v)) H
theorem aJ{i:Nat}{x:Str}(hN:X.N.Nodup)(hi:X.N[i]?=some x)(hx:Loc X.env.scope x)(hf:X.fn x=true\/X.env.scope.names.lookup x=some .local:=by first|exact .inl rfl|exact .inr rfl|assumption):PG X (.Name x pos) (bD i):=by
 intro aA s σ H v u Q I r h
 exact wpAny_assign_Name (iC I hN hi hx r (λs' I'=>⟨_,H,I',h⟩) hf)
def zjy:TGs:= λvs σ H Q=>vs=[]/\Q σ H
def qD(t:TG)(u:TGs):TGs:= λvs σ H Q=> ∃v r,vs=v::r/\t v σ H λσ' H'=>u r σ' H' Q
theorem eF:PGs X [] zjy:=by
 intro aA s σ H vs us Q I r h
 obtain⟨e,h⟩:=h
 subst e
 cases r
 exact assignInOrder_nil ⟨σ,H,I,h⟩
theorem aZ{e:Expr}{es:List Expr}{t:TG}{u:TGs}(h1:PG X e t)(h2:PGs X es u)
 (hs:(assignEach (e::es) X.env).map (·.2)=assign e X.env::(assignEach es X.env).map (·.2):=by rfl):PGs X (e::es) (qD t u):=by
 intro aA s σ H vs us Q I r h
 obtain⟨v,vr,e1,h⟩:=h
 subst e1
 cases r with
 |cons r rr=>
  rw[hs];refine assignInOrder_cons (cH (h1 aA s σ H _ _ _ I r h) λ_ s1 ⟨σ1,H1,I1,q1⟩=> ?_);exact h2 aA s1 σ1 H1 _ _ Q I1 rr q1
def zjO(K:W.Frag)(n:Nat)(t:TGs):TG:= λv σ H Q=> ∃a xs,v= .ref a/\fR K H a xs/\xs.length=n/\t xs σ H Q
theorem fG{es:List Expr}{k:Nat}{t:TGs}{n:Nat}(hc:X.calm=true)(h:PGs X es t)
 (hn:(assignEach es X.env).length=n:=by rfl) (hst:(assignEach es X.env).findIdx? (·.1)=none:=by rfl):PG X (.Tuple es k pos) (zjO X.K n t):=by
 intro aA s σ H v u Q I r hw
 obtain⟨a,xs,e1,hq,hl,hw⟩:=hw
 subst e1
 cases r
 obtain⟨bC,rv,ht,hz⟩:=I.tuple hq
 refine assign_Tuple_tuple (I.ok.hd hc) ht (by simp[hn,<-hl,rv.length]) hst λh' hx=> ?_
 have I1:aM X aA σ H {s with heap:=h'}:=I.kept (t':=s.toks) λb o e=>hx b o (Nat.ne_of_lt (Heap.lt_size e)) e
 exact h aA _ σ H xs _ Q I1 (by simpa using rv) hw
def ztQ(to ti:TE)(t:zkR):TG:= λv σ H Q=>to σ H λo H1=>ti σ H1 λi H2=>t o i v H2 λH3=>Q σ H3
theorem j4{o i:Expr}{to ti:TE}{t:zkR}(ho:PE X o to)(hi:PE X i ti)(hs:znF X t)
 (ha: ∀v,assign (.Subscript o i pos) X.env v=(do
  let ov<-holding [v] (eval o X.env)
  let iv<-holding [v,ov] (eval i X.env)
  standAt pos
  holding [v,ov,iv] (setItem ov iv v)
  release [v,ov,iv] []):=by intro _;rfl):PG X (.Subscript o i pos) (ztQ to ti t):=by
 intro aA s σ H v u Q I r h
 rw[ha]
 refine wpAny_bind (wpAny_holding (cH (ho aA s σ H _ I h) λov s1 ⟨x,H1,I1,r1,q1⟩=> ?_))
 refine wpAny_bind (wpAny_holding (cH (hi aA s1 σ H1 _ I1 q1) λiv s2 ⟨y,H2,I2,r2,q2⟩=> ?_))
 refine wpAny_bind (wpAny_standAt (wpAny_bind (wpAny_holding (cH (hs aA s2 σ H2 x y v ov iv u _ I2 r1 r2 r q2) λ_ s3 ⟨H3,I3,q3⟩=> ?_))))
 exact wpAny_release ⟨σ,H3,I3,q3⟩
def zhD(te:TE)(g:TG):TS:= λD σ H=>te σ H λx H1=>g x σ H1 D.nx
theorem iX{tg e:Expr}{te:TE}{g:TG}(he:PE X e te)(hg:PG X tg g)(hs:swapsWithSole [tg] e pos.line X.env=pure false:=by rfl)(hw:swappedStores [tg] e X.env=pure none:=by rfl)
 (h1:(assignEach [tg] X.env).map (·.2)=[assign tg X.env]:=by rfl):PS X (.Assign [tg] e pos) (zhD te g):=by
 intro aA s σ H D I h
 refine wpAny_Assign_stores (cH (he aA s σ H _ I h) λv s1 ⟨x,H1,I1,r1,q1⟩=> ?_) hs hw
 rw[h1]
 exact cH (hg aA s1 σ H1 x v _ I1 r1 q1) λ_ s2 q=>q
theorem bF{i:Nat}{x:Str}{e:Expr}{te:TE}{pQ:Pos}(hN:X.N.Nodup)(hi:X.N[i]?=some x)(hx:Loc X.env.scope x)(he:PE X e te)(hs:swapsWith e (some (.Name x pQ)) pos.line X.env=pure false:=by rfl)(hf:X.fn x=true\/X.env.scope.names.lookup x=some .local:=by first|exact .inl rfl|exact .inr rfl|assumption):
 PS X (.Assign [.Name x pQ] e pos) (zhD te (bD i)):=by
 intro aA s σ H D I h
 refine wpAny_Assign_Name (cH (he aA s σ H _ I h) λv s1 ⟨y,H1,I1,r1,q1⟩=> ?_) hs
 exact iC I1 hN hi hx r1 (λs2 I2=>⟨_,H1,I2,q1⟩) hf
def zuh(i j:Nat)(ta:TA):TS:= λD σ H=>ta σ H λvs H1=> ∃v w,vs=[v,w]/\D.nx ((σ.set i (some v)).set j (some w)) H1
theorem o8{i j:Nat}{x y:Str}{a b:Expr}{ta:TA}{px py pt:Pos}{kt k2 pt2}(hc:X.calm=true)(hN:X.N.Nodup)(hi:X.N[i]?=some x)(hj:X.N[j]?=some y)(hij:i≠j)
 (hx:X.env.scope.names.lookup x=some .local) (hy:X.env.scope.names.lookup y=some .local) (ha:PA X [a,b] ta)
 (hw:swappedStores [.Tuple [.Name x px,.Name y py] kt pt] (.Tuple [a,b] k2 pt2) X.env=pure (some [x,y]))
 (hs:swapsWithSole [.Tuple [.Name x px,.Name y py] kt pt] (.Tuple [a,b] k2 pt2) pos.line X.env=pure false:=by rfl):
 PS X (.Assign [.Tuple [.Name x px,.Name y py] kt pt] (.Tuple [a,b] k2 pt2) pos) (zuh i j ta):=by
 intro aA s σ H D I h
 rw[exec_Assign_arm]
 refine wpAny_bind (wpAny_standAt ?_)
 rw[hs]
 refine wpAny_bind (wpAny_pure ?_)
 rw[if_neg (by decide)]
 refine wpAny_bind (Tuple_ (cH (ha _ aA s σ H _ I h) λus s1 ⟨vs,H1,I1,r1,q1⟩=> ?_))
 obtain⟨v,w,e1,q1⟩:=q1
 subst e1
 obtain⟨u1,u2,rfl,rv,xD⟩: ∃u1 u2,us=[u1,u2]/\bA v u1/\bA w u2:=by
  cases r1 with
  |cons p q=>
   cases q with
   |cons p' q'=>
    cases q';exact⟨_,_,rfl,p,p'⟩
 refine wpAny_newObj_type ?_ (by show 2<=sizeLine;decide)
 have I2:aM X aA σ H1 {s1 with heap:=s1.heap.push {cls:= .type "tuple",data:= .seq [u1,u2].toArray}}:=I1.kept (t':=s1.toks) λb o e=>Heap.get?_push_of_some _ e
 rw[hw]
 refine wpAny_bind (wpAny_pure ?_)
 show wpAny (model X.prog X.w) X.A (do rule "assign.swapped-stores";let items<-unpackItems (.ref s1.heap.objs.size) 2 none;assignInOrder [λv=>bindName X.env y v,λv=>bindName X.env x v] items.reverse;pure Flow.next) _ _ _
 refine wpAny_bind (wpAny_rule (wpAny_bind (unpackItems_tuple (items:= #[u1,u2]) (I.ok.hd hc) (IsTup.new s1.heap _) λh' sA=> ?_)))
 have I3:=I2.kept (h':=h') (t':=s1.toks) λb o e=>sA b o (Nat.ne_of_lt (Heap.lt_size e)) e
 show wpAny _ _ (assignInOrder [λv=>bindName X.env y v,λv=>bindName X.env x v] [u2,u1]>>= λ_=>pure Flow.next) _ _ _
 refine wpAny_bind (assignInOrder_cons (wpAny_bindName (iC I3 hN hj (.inl hy) xD (λs2 I4=> ?_) (.inr hy))))
 refine assignInOrder_cons (wpAny_bindName (iC I4 hN hi (.inl hx) rv (λs3 I5=>assignInOrder_nil (wpAny_pure ?_)) (.inr hx)))
 rw[List.set_comm _ _ (Ne.symm hij)]at I5
 exact⟨_,H1,I5,q1⟩
def zus(i:Nat)(te:TE)(ti:TIp):TS:= λD σ H=> ∃x,σ[i]?=some (some x)/\te σ H λy H1=>ti x y H1 λz H2=>D.nx (σ.set i (some z)) H2
theorem zlb{i:Nat}{x:Str}{e:Expr}{te:TE}{op:Operator}{ti:TIp}{pQ:Pos}(hN:X.N.Nodup)(hi:X.N[i]?=some x)(hx:Loc X.env.scope x)(he:PE X e te)(ho:PIp X op ti)(hf:X.fn x=true\/X.env.scope.names.lookup x=some .local:=by first|exact .inl rfl|exact .inr rfl|assumption):
 PS X (.AugAssign (.Name x pQ) op e pos) (zus i te ti):=by
 intro aA s σ H D I h
 obtain⟨v,e1,h⟩:=h
 obtain⟨m,hn,hl⟩:=I.loc
 have vis:Vis X.env.scope x:=by rcases hx with k|k;exact .inl k;exact .inr (.inl k)
 obtain⟨u,r,l⟩:=hl i x v hi e1 vis
 refine wpAny_AugAssign_Name ?_
 have go:wpAny (model X.prog X.w) X.A (eval e X.env) (λw s₂=>wpAny (model X.prog X.w) X.A (inplaceOp op u w) (λr s₃=>wpAny (model X.prog X.w) X.A (storeName X.env x r) (λ_=>SP X aA D .next) X.xe s₃) X.xe s₂) X.xe s:=by
  refine cH (he aA s σ H _ I h) λw s1 ⟨y,H1,I1,r1,q1⟩=> ?_;refine cH (ho aA s1 σ H1 v y u w _ I1 r r1 q1) λz s2 ⟨zv,H2,I2,r2,q2⟩=> ?_;exact iC I2 hN hi hx r2 (λs3 I3=>⟨_,H2,I3,q2⟩) hf
 rcases l with⟨hk,hm⟩|⟨hk,c,hc,nA⟩
 . exact wpAny_loadName_local I.ok.kind hk hn hm go
 . rcases hk with hk|hk
   . exact wpAny_loadName_cell I.ok.kind hk hc nA go
   . rcases hx with k|k
     . have:X.env.scope.names.lookup x=some .free:=hk;rw[k]at this;cases this
     . have:X.env.scope.names.lookup x=some .free:=hk;rw[k]at this;cases this
def ipI(f:Int->Int->Int):TIp:= λx y H Q=> ∃i j,x= .int i/\y= .int j/\Q (.int (f i j)) H
theorem zly:PIp X .Add (ipI λi j=>i+j):=by
 intro aA s σ H x y v u Q I r1 r2 h
 obtain⟨i,j,e1,e2,q⟩:=h
 subst e1;subst e2
 obtain⟨t,rfl⟩:=r1
 obtain⟨t',rfl⟩:=r2
 exact iadd_int ⟨.int _,H,I.tok _,⟨_,rfl⟩,q⟩
def zkw(c:TT)(tb:TS):TS:= λD σ H=> ∃W:Nat->St->Hp->Prop,(∃m,W m σ H)/\ ∀m σ H,W m σ H->
 c σ H λb H1=>if b=true then ∃N:St->Hp->Prop,(∀σ' H',N σ' H'-> ∃m',m'<m/\W m' σ' H')/\tb {D with nx:=N,ct:=N,bk:=D.nx} σ H1 else D.nx σ H1
theorem xK{c:Expr}{body:List Stmt}{tc:TT}{tb:TS}(hp:PassesOwn (model X.prog X.w) X.A X.env X.xe)(hc:PT X c tc)(hb:xQ X body tb):PS X (.While c body [] pos) (zkw tc tb):=by
 intro aA s σ H D I h
 obtain⟨W,⟨m0,w0⟩,jN⟩:=h
 refine wpAny_While (codeAny_whileLoop (λn s'=> ∃σ' H',aM X aA σ' H' s'/\W n σ' H') ?_ m0 ⟨σ,H,I,w0⟩)
 rintro n s1 ⟨σ1,H1,I1,w1⟩
 refine wpAny_passesOwn hp (cH (hc aA s1 σ1 H1 _ I1 (jN n σ1 H1 w1)) λb s2 ⟨H2,I2,q2⟩=> ?_)
 cases b with
 |true=>
  obtain⟨N,hN,q2⟩:=q2;rw[if_pos rfl];refine wpAny_passesOwn hp (cH (hb aA s2 σ1 H2 _ I2 q2) λf s3 q3=> ?_);cases f with
  |next=>
   obtain⟨σ3,H3,I3,n3⟩:=q3;obtain⟨m',hm,w3⟩:=hN σ3 H3 n3;exact⟨m',hm,σ3,H3,I3,w3⟩
  |cont=>
   obtain⟨σ3,H3,I3,n3⟩:=q3;obtain⟨m',hm,w3⟩:=hN σ3 H3 n3;exact⟨m',hm,σ3,H3,I3,w3⟩
  |brk=>exact q3
  |ret v=>exact q3
 |false=>
  rw[if_neg Bool.false_ne_true];exact wpAny_execs_nil ⟨σ1,H2,I2,q2⟩
structure It where
 go:Nat->Hp->Prop
 yld:Nat->Hp->V->Hp->Prop
 stop:Nat->Hp->Prop
def fB(X:Cx)(aA:List (Addr×Obj))(H:Hp)(b:Addr):Prop:=
 H b=none/\b≠X.env.locals/\b∉X.fs/\(b∈X.ex\/X.s₀.heap.objs.size<=b)/\(∀x c,X.env.cells.lookup x=some c->c≠b)/\ ∀p∈X.pn++aA,p.1≠b
theorem aM.fpOk{X:Cx}{aA:List (Addr×Obj)}{σ:St}{H H':Hp}{s:Shared}{b:Addr}(I:aM X aA σ H s)(hb:s.heap.objs.size<=b)(hn:H' b=none):fB X aA H' b:=by
 refine⟨hn,Nat.ne_of_gt (Nat.lt_of_lt_of_le I.lt hb),I.nofs hb,.inr (Nat.le_trans I.sz hb),λx c e z=> ?_,λp hp z=> ?_⟩
 . obtain⟨v,q⟩:=I.cell x c e;exact absurd (Nat.lt_of_lt_of_le q.lt (by rw[z];exact hb)) (Nat.lt_irrefl _)
 . exact absurd (Nat.lt_of_lt_of_le (Heap.lt_size (I.pin p hp).1) (by rw[z];exact hb)) (Nat.lt_irrefl _)
structure oW(P:Program)(w:World)(K:W.Frag)(tg:Expr)(J:It)(fp:List Addr)(it:Addr)(tn:Nat->Heap->Prop):Prop where
 mem:it∈fp
 obj: ∀i h,tn i h-> ∀b∈fp,∃o,h.get? b=some o/\ ∀v,o.data≠ .cell v
 keep: ∀i h h',tn i h->(∀b∈fp,∀o,h.get? b=some o->h'.get? b=some o)->tn i h'
 item: ∀(X:Cx),X.prog=P->X.w=w->X.K=K->X.calm=true-> ∀(i:Nat) (aA:List (Addr×Obj)) (s:Shared) (σ:St) (H:Hp) (E:Value->Shared->Prop),aM X aA σ H s->(∀b∈fp,fB X aA H b)->tn i s.heap->J.go i H->
  wpAny (model P w) X.A (pyNext (.ref it)) (λr s1=> ∃u,r=some u/\
   wpAny (model P w) X.A (letOwnedTupleGo tg (.ref it) u) (λ_ s2=> ∃x H',aM X aA σ H' s2/\bA x u/\J.yld i H x H'/\tn (i+1) s2.heap/\ ∀b∈fp,H' b=none) E s1) E s
 done: ∀(X:Cx),X.prog=P->X.w=w->X.K=K->X.calm=true-> ∀(i:Nat) (aA:List (Addr×Obj)) (s:Shared) (σ:St) (H:Hp) (E:Value->Shared->Prop),aM X aA σ H s->(∀b∈fp,fB X aA H b)->tn i s.heap->J.stop i H->
  wpAny (model P w) X.A (pyNext (.ref it)) (λr s1=>r=none/\aM X aA σ H s1) E s
 self: ∀(A:Around) (i:Nat) (s:Shared) (Q:Value->Shared->Prop) (E:Value->Shared->Prop),tn i s.heap->Q (.ref it) s->wpAny (model P w) A (pyIter (.ref it)) Q E s
abbrev TI:=St->Hp->(It->Hp->Prop)->Prop
def PIE(X:Cx)(aA:List (Addr×Obj))(σ:St)(tg:Expr)(R:It->Hp->Prop)(itv:Value)(s2:Shared):Prop:=
 ∃(it:Addr) (fp:List Addr) (tn:Nat->Heap->Prop) (J:It) (H':Hp),itv= .ref it/\aM X aA σ H' s2/\oW X.prog X.w X.K tg J fp it tn/\tn 0 s2.heap/\(∀b∈fp,fB X aA H' b)/\R J H'
def PI(X:Cx)(tg cV:Expr)(wi:TI):Prop:=
 ∀(aA:List (Addr×Obj)) (s:Shared) (σ:St) (H:Hp) (R:It->Hp->Prop),aM X aA σ H s->wi σ H R->
  wpAny (model X.prog X.w) X.A (eval cV X.env) (λv s1=>wpAny (model X.prog X.w) X.A (pyIter v) (PIE X aA σ tg R) X.xe s1) X.xe s
theorem zfa{M:Model}{A:Around}{E:Value->Shared->Prop}{s:Shared}{tg:Expr}{it:Addr}{u:Value}{o:Obj}{n:String}{vs:Array Value}{Q:Unit->Shared->Prop}(ho:s.heap.get? it=some o)(hc:o.cls= .type n)(hd:o.data= .fields vs)
 (hn: ["enumerate","zip","dict_itemiterator","dict_reverseitemiterator","odict_iterator","itertools.zip_longest","itertools.pairwise"].contains n=false) (hQ:Q () s):wpAny M A (letOwnedTupleGo tg (.ref it) u) Q E s:=by
 unfold letOwnedTupleGo
 cases tg<;>first
  |exact wpAny_pure hQ
  |(cases u<;>first
   |exact wpAny_pure hQ
   |(refine wpAny_bind (wpAny_load ho ?_);rw[hc,hd];show wpAny M A (if(["enumerate","zip","dict_itemiterator","dict_reverseitemiterator","odict_iterator","itertools.zip_longest","itertools.pairwise"].contains n&&vs[0]?==some (rawInt _))=true then _ else _) Q E s;rw[if_neg (by intro h;rw[hn,Bool.false_and]at h;cases h)];exact wpAny_pure hQ))
def zZ(K:W.Frag)(a:Addr):It:=
 ⟨λi H=> ∃xs x,aY K H a xs/\xs[i]?=some x,λi H x H'=>H'=H/\ ∀xs,aY K H a xs->xs[i]?=some x,λi H=> ∃xs,aY K H a xs/\xs.length<=i⟩
def tJ(lo:Int)(n:Nat):It:=⟨λi _=>i<n,λi H x H'=>H'=H/\x= .int (lo+i),λi _=>n<=i⟩
theorem zcb{P:Program}{w:World}{K:W.Frag}{tg:Expr}(a it:Addr):oW P w K tg (zZ K a) [it] it (λi h=>h.IsListIter it a i) where
 mem:=by simp
 obj:= λi h st b hb=>by
  have e:b=it:=by simpa using hb
  subst e;obtain⟨o,e,c,d⟩:=st;exact⟨o,e,λv z=>by rw[d]at z;cases z⟩
 keep:= λi h h' st k=>st.at λo e=>k it (by simp) o e
 item:=by
  intro X hP hw hK hc i aA s σ H E I hf st hg;subst hP hw hK;obtain⟨xs,x,hq,hx⟩:=hg;obtain⟨bC,rv,p,hz⟩:=I.list hq;obtain⟨u,hu,ru⟩:=rv.get hx;obtain⟨f0,f1,f2,f3,f4,f5⟩:=hf it (by simp);refine wpAny_pyNext_list_item st p.isList (x:=u) (by simpa using hu) λh' sM sb=> ?_;have I1:aM X aA σ H {s with heap:=h'}:=I.turned (t':=s.toks) (λb o hb e=>(sb.2 b hb).trans e) f0 f1 f3 f4 f5;obtain⟨o,e,c,d⟩:=id sM;exact⟨u,rfl,zfa (s:={s with heap:=h'}) e c d (by decide) ⟨x,H,I1,ru,⟨rfl,λys hy=>by rw[I.list_inj hy hq];exact hx⟩,sM,λb hb=>(hf b hb).1⟩⟩
 done:=by
  intro X hP hw hK hc i aA s σ H E I hf st hg;subst hP hw hK;obtain⟨xs,hq,hx⟩:=hg;obtain⟨bC,rv,p,hz⟩:=I.list hq;obtain⟨f0,f1,f2,f3,f4,f5⟩:=hf it (by simp);have hl:=rv.length;exact wpAny_pyNext_list_end (I.ok.hd hc) st p.isList (by simp;omega) λh' eb=>⟨rfl,I.turned (t':=s.toks) (λb o hb e=>eb b o hb e) f0 f1 f3 f4 f5⟩
 self:= λ_ _ _ _ _ st h=>wpAny_pyIter_listiter st h
theorem zR{P:Program}{w:World}{K:W.Frag}{tg:Expr}(it:Addr)(lo:Int)(n:Nat):oW P w K tg (tJ lo n) [it] it (λi h=>IsRangeIter h it (lo+(i:Nat) * 1) ((n:Int) - (i:Nat)) 1) where
 mem:=by simp
 obj:= λi h st b hb=>by
  have e:b=it:=by simpa using hb
  subst e;exact⟨_,st,λv z=>by
   have z':Data.fields _=Data.cell v:=z;cases z'⟩
 keep:= λi h h' st k=>k it (by simp) _ st
 item:=by
  intro X hP hw hK hc i aA s σ H E I hf st hg;subst hP hw hK;obtain⟨f0,f1,f2,f3,f4,f5⟩:=hf it (by simp);have W:=Walks.range (prog:=X.prog) (w:=X.w) (I.ok.hd hc) it lo 1 n;refine W.item i s _ _ hg st λv h' tk hv sM kk=> ?_;obtain⟨t,rfl⟩:=hv;have I1:aM X aA σ H {s with heap:=h',toks:=tk}:=I.turned (λb o hb e=>kk b o (by simpa using hb) e) f0 f1 f3 f4 f5;refine⟨_,rfl,zfa (s:={s with heap:=h',toks:=tk}) (n:= "range_iterator") sM rfl rfl (by decide) ⟨.int (lo+i),H,I1,⟨t,?_⟩,⟨rfl,rfl⟩,sM,λb hb=>(hf b hb).1⟩⟩;rw[Int.mul_one]
 done:=by
  intro X hP hw hK hc i aA s σ H E I hf st hg;subst hP hw hK;obtain⟨f0,f1,f2,f3,f4,f5⟩:=hf it (by simp);exact wpAny_pyNext_range_end (I.ok.hd hc) st (by have:n<=i:=hg;omega) λh' eb=>⟨rfl,I.turned (t':=s.toks) (λb o hb e=>eb b o hb e) f0 f1 f3 f4 f5⟩
 self:= λ_ _ _ _ _ st h=>wpAny_pyIter_rangeiter st h
section
variable {tg:Expr}
def xO(K:W.Frag)(tl:TE):TI:= λσ H R=>tl σ H λx H1=> ∃a,x= .ref a/\(∃xs,aY K H1 a xs)/\R (zZ K a) H1
theorem dH{l:Expr}{tl:TE}(hl:PE X l tl):PI X tg l (xO X.K tl):=by
 intro aA s σ H R I h
 refine cH (hl aA s σ H _ I h) λv s1 ⟨x,H1,I1,r1,q1⟩=> ?_
 obtain⟨a,e,⟨xs,hq⟩,q⟩:=q1
 subst e
 cases r1
 obtain⟨bC,rv,p,hz⟩:=I1.list hq
 refine wpAny_pyIter_list p.isList ?_
 refine⟨s1.heap.objs.size,[s1.heap.objs.size],_,_,H1,rfl,I1.kept (t':=s1.toks) λb o e=>Heap.get?_push_of_some _ e,zcb a _,⟨_,Heap.get?_push_size _ rfl,rfl,rfl⟩,λb hb=> ?_,q⟩
 have e:b=s1.heap.objs.size:=by simpa using hb
 subst e
 exact I1.fpOk (Nat.le_refl _) (I1.hok.fresh (Nat.le_refl _))
theorem wL{aA:List (Addr×Obj)}{σ:St}{H:Hp}{s:Shared}{R:It->Hp->Prop}{E:Value->Shared->Prop}{lo hi:Int}{t u v:Tok}{tk:Nat}(I:aM X aA σ H s)(h1: -(2^62)<=lo)(h2:lo<2^62)(h3: -(2^62)<=hi)(h4:hi<2^62)
 (q:R (tJ lo (hi - lo).toNat) H):wpAny (model X.prog X.w) X.A (pyIter (.ref s.heap.objs.size)) (PIE X aA σ tg R) E {s with heap:=s.heap.push {cls:= .type "range",data:= .fields #[.int lo t,.int hi u,.int 1 v]},toks:=tk}:=by
 refine wpAny_pyIter_range (IsRange.new ..) (small_one h1 h2 h3 h4) ?_
 have I1:aM X aA σ H {s with heap:=s.heap.push {cls:= .type "range",data:= .fields #[.int lo t,.int hi u,.int 1 v]},toks:=tk}:=I.kept λb o e=>Heap.get?_push_of_some _ e
 refine⟨(s.heap.push {cls:= .type "range",data:= .fields #[.int lo t,.int hi u,.int 1 v]}).objs.size,[(s.heap.push {cls:= .type "range",data:= .fields #[.int lo t,.int hi u,.int 1 v]}).objs.size],_,_,H,rfl,
  I1.kept (t':=tk) λb o e=>Heap.get?_push_of_some _ e,zR _ lo (hi - lo).toNat,?_,λb hb=> ?_,q⟩
 . have e1:lo+((0:Nat):Int) * 1=lo:=by simp
   have e2:(((hi - lo).toNat:Nat):Int) - ((0:Nat):Int)=Builtin.Range.rangeSize lo hi 1:=by rw[rangeSize_one];split<;>omega
   show IsRangeIter _ _ (lo+((0:Nat):Int) * 1) ((((hi - lo).toNat:Nat):Int) - ((0:Nat):Int)) 1
   rw[e1,e2];exact Heap.get?_push_size _ rfl
 . have e:b=(s.heap.push {cls:= .type "range",data:= .fields #[.int lo t,.int hi u,.int 1 v]}).objs.size:=by simpa using hb
   subst e;exact I1.fpOk (Nat.le_refl _) (I1.hok.fresh (Nat.le_refl _))
def xB(ta:TA):TI:= λσ H R=>ta σ H λvs H1=> ∃j:Int,vs=[.int j]/\ -(2^62)<=j/\j<2^62/\R (tJ 0 j.toNat) H1
def znv(ta:TA):TI:= λσ H R=>ta σ H λvs H1=> ∃i j:Int,vs=[.int i,.int j]/\(-(2^62)<=i/\i<2^62/\ -(2^62)<=j/\j<2^62)/\R (tJ i (j - i).toNat) H1
theorem bP{a:Expr}{ta:TA}{p pos:Pos}(hg:Gl X "range")(hm:X.mg "range" =none)(ha:PA X [a] ta)(hs:starEach [a] X.env=[(false,eval a X.env)]:=by rfl):PI X tg (.Call (.Name "range" p) [a] [] pos) (xB ta):=by
 intro aA s σ H R I h
 refine Call_ (iV I hg hm boot_range (PyProof.Rows.callWith_type1 (cH (ha pos aA s σ H _ I h) λus s1 ⟨vs,H1,I1,r1,q1⟩=> ?_) hs rfl))
 obtain⟨j,e,q1,q2,q⟩:=q1
 subst e
 cases r1 with
 |cons r rr=>
  cases rr;obtain⟨t,rfl⟩:=r;exact call_range_1 (wL I1 (by omega) (by omega) q1 q2 (by simpa using q))
theorem zbB{a b:Expr}{ta:TA}{p pos:Pos}(hg:Gl X "range")(hm:X.mg "range" =none)(ha:PA X [a,b] ta)(hs:starEach [a,b] X.env=[(false,eval a X.env),(false,eval b X.env)]:=by rfl)(yG:starEach [b] X.env=[(false,eval b X.env)]:=by rfl):
 PI X tg (.Call (.Name "range" p) [a,b] [] pos) (znv ta):=by
 intro aA s σ H R I h
 refine Call_ (iV I hg hm boot_range (PyProof.Rows.callWith_type1 (cH (ha pos aA s σ H _ I h) λus s1 ⟨vs,H1,I1,r1,q1⟩=> ?_) (by rw[hs,yG]) (by rw[yG];rfl)))
 obtain⟨i,j,e,⟨q1,q2,q3,q4⟩,q⟩:=q1
 subst e
 cases r1 with
 |cons r rr=>
  cases rr with
  |cons r' rr=>
   cases rr;obtain⟨t,rfl⟩:=r;obtain⟨t',rfl⟩:=r';exact call_range_2 (wL I1 q1 q2 q3 q4 q)
def zsx(wi:TI)(g:TG)(tb:TS):TS:= λD σ H=>wi σ H λJ H1=> ∃W:Nat->Nat->St->Hp->Prop,(∃m,W 0 m σ H1)/\ ∀i m σ H,W i m σ H->
 (J.stop i H/\D.nx σ H)\/(J.go i H/\ ∃N:St->Hp->Prop,(∀σ' H',N σ' H'-> ∃m',m'<m/\W (i+1) m' σ' H')/\ ∀x H',J.yld i H x H'->g x σ H' λσ2 H2=>tb {D with nx:=N,ct:=N,bk:=D.nx} σ2 H2)
def oF(fp:List Addr)(h:Heap):List (Addr×Obj):=fp.filterMap λb=>(h.get? b).map λo=>(b,o)
theorem gW{fp:List Addr}{h:Heap}{b:Addr}{o:Obj}(hb:b∈fp)(e:h.get? b=some o):(b,o)∈oF fp h:=List.mem_filterMap.mpr ⟨b,hb,by rw[e];rfl⟩
theorem zcd{fp:List Addr}{h:Heap}{p:Addr×Obj}(hp:p∈oF fp h):p.1∈fp/\h.get? p.1=some p.2:=by
 obtain⟨b,hb,e⟩:=List.mem_filterMap.mp hp
 cases q:h.get? b with
 |none=>rw[q]at e;cases e
 |some o=>
  rw[q]at e;have e':(b,o)=p:=Option.some.inj e;subst e';exact⟨hb,q⟩
theorem aM.pinned{aA:List (Addr×Obj)}{σ:St}{H:Hp}{s:Shared}{fp:List Addr}(I:aM X aA σ H s)(hf: ∀b∈fp,fB X aA H b)(ho: ∀b∈fp,∃o,s.heap.get? b=some o/\ ∀v,o.data≠ .cell v):aM X (aA++oF fp s.heap) σ H s:=
 I.pins_of λp hp=>(List.mem_append.mp hp).elim (λz=>I.pin p (List.mem_append_right _ z)) λz=>by
  obtain⟨hb,e⟩:=zcd z;obtain⟨f0,f1,f2,_⟩:=hf p.1 hb;obtain⟨o,e',d⟩:=ho p.1 hb;rw[e]at e';cases e';exact⟨e,f0,f1,f2,d⟩
theorem aM.unpinned{aA pl:List (Addr×Obj)}{σ:St}{H:Hp}{s:Shared}(I:aM X (aA++pl) σ H s):aM X aA σ H s:=I.pins_of λp hp=>I.pin p (List.mem_append_right _ (List.mem_append_left _ hp))
theorem dL{cV:Expr}{body:List Stmt}{wi:TI}{g:TG}{tb:TS}{pos:Pos}(hp:PassesOwn (model X.prog X.w) X.A X.env X.xe)(hc:X.calm=true)(hi:PI X tg cV wi)(hg:PG X tg g)(hb:xQ X body tb)
 (hs: ∀x,foldedSetIterable cV X.env x=pure x:=by intro _;rfl):PS X (.For tg cV body [] pos) (zsx wi g tb):=by
 intro aA s σ H D I h
 refine wpAny_For (cH (hi aA s σ H _ I h) λv s1 h1=>cH h1 λitv s2 h2=> ?_) hs
 obtain⟨it,fp,tn,J,H2,e,I2,T,sC,f2,W,⟨m0,w0⟩,jN⟩:=h2
 subst e
 -- what stays true of the iterator's objects through the jR
 have j7: ∀{H':Hp},(∀b∈fp,H' b=none)-> ∀b∈fp,fB X aA H' b:= λhn b hb=>⟨hn b hb,(f2 b hb).2⟩
 refine codeAny_forLoop_any (λn s'=> ∃i σ' H',aM X aA σ' H' s'/\tn i s'.heap/\(∀b∈fp,H' b=none)/\W i n σ' H') ?_ m0 ⟨0,σ,H2,I2,sC,λb hb=>(f2 b hb).1,w0⟩
 rintro n s3 ⟨i,σ3,H3,I3,uR,fr3,w3⟩
 rcases jN i n σ3 H3 w3 with⟨stop,qn⟩|⟨go,N,hN,step⟩
 . refine wpAny_passesOwn hp (cH (T.done X rfl rfl rfl hc i aA s3 σ3 H3 X.xe I3 (j7 fr3) uR stop) λr s4 ⟨hr,I4⟩=> ?_);subst hr;exact wpAny_execs_nil ⟨σ3,H3,I4,qn⟩
 . refine wpAny_passesOwn hp (cH (T.item X rfl rfl rfl hc i aA s3 σ3 H3 X.xe I3 (j7 fr3) uR go) λr s4 ⟨u,hr,h4⟩=> ?_);subst hr;refine wpAny_passesOwn hp (cH h4 λ_ s5 ⟨x,H5,I5,r5,y5,st5,fr5⟩=> ?_);have I5':=I5.pinned (j7 fr5) (T.obj _ _ st5);refine wpAny_passesOwn hp (cH (hg _ s5 σ3 H5 x u _ I5' r5 (step x H5 y5)) λ_ s6 ⟨σ6,H6,I6,q6⟩=> ?_);refine wpAny_passesOwn hp (cH (hb _ s6 σ6 H6 _ I6 q6) λf s7 q7=> ?_);have again: ∀{σ7:St} {H7:Hp},aM X (aA++oF fp s5.heap) σ7 H7 s7->N σ7 H7-> ∃m,m<n/\ ∃i σ' H',aM X aA σ' H' s7/\tn i s7.heap/\(∀b∈fp,H' b=none)/\W i m σ' H':= λ{σ7 H7} I7 n7=>by
    obtain⟨m',hm,w7⟩:=hN σ7 H7 n7;refine⟨m',hm,i+1,σ7,H7,I7.unpinned,T.keep _ _ _ st5 λb hb o e=>(I7.pin (b,o) (List.mem_append_right _ (List.mem_append_right _ (gW hb e)))).1,λb hb=> ?_,w7⟩;obtain⟨o,e,d⟩:=T.obj _ _ st5 b hb;exact(I7.pin (b,o) (List.mem_append_right _ (List.mem_append_right _ (gW hb e)))).2.1
   cases f with
   |next=>obtain⟨σ7,H7,I7,n7⟩:=q7;exact again I7 n7
   |cont=>obtain⟨σ7,H7,I7,n7⟩:=q7;exact again I7 n7
   |brk=>obtain⟨σ7,H7,I7,q7⟩:=q7;exact⟨σ7,H7,I7.unpinned,q7⟩
   |ret v=>obtain⟨x7,σ7,H7,I7,r7,q7⟩:=q7;exact⟨x7,σ7,H7,I7.unpinned,r7,q7⟩
end
theorem hU{K:W.Frag}{a:Addr}{xs:List V}{g:TG}{tb:TS}{D:gK}{σ:St}{H:Hp}(Pv:Nat->St->Hp->Prop)(h0:Pv 0 σ H)(hl: ∀i σ H,i<=xs.length->Pv i σ H->aY K H a xs)
 (hs: ∀i x σ H,xs[i]?=some x->Pv i σ H->g x σ H λσ2 H2=>tb {D with nx:=Pv (i+1),ct:=Pv (i+1),bk:=D.nx} σ2 H2) (hd: ∀σ H,Pv xs.length σ H->D.nx σ H):
 ∃W:Nat->Nat->St->Hp->Prop,(∃m,W 0 m σ H)/\ ∀i m σ H,W i m σ H->
  ((zZ K a).stop i H/\D.nx σ H)\/((zZ K a).go i H/\ ∃N:St->Hp->Prop,(∀σ' H',N σ' H'-> ∃m',m'<m/\W (i+1) m' σ' H')/\ ∀x H',(zZ K a).yld i H x H'->g x σ H' λσ2 H2=>tb {D with nx:=N,ct:=N,bk:=D.nx} σ2 H2):=by
 refine⟨λi m σ H=>m=xs.length - i/\i<=xs.length/\Pv i σ H,⟨xs.length,by simp,Nat.zero_le _,h0⟩,?_⟩
 rintro i m σ H ⟨rfl,hi,p⟩
 have q:=hl i σ H hi p
 by_cases eO:i<xs.length
 . refine .inr ⟨⟨xs,xs[i],q,by simp[eO]⟩,Pv (i+1),λσ' H' p'=>⟨xs.length - (i+1),by omega,rfl,eO,p'⟩,λx H' y=> ?_⟩;obtain⟨e,y⟩:=y;subst e;exact hs i x σ _ (y xs q) p
 . have e:i=xs.length:=by omega
   subst e;exact .inl ⟨⟨xs,q,Nat.le_refl _⟩,hd σ H p⟩
theorem eY{lo:Int}{n:Nat}{g:TG}{tb:TS}{D:gK}{σ:St}{H:Hp}(Pv:Nat->St->Hp->Prop)(h0:Pv 0 σ H)
 (hs: ∀i σ H,i<n->Pv i σ H->g (.int (lo+i)) σ H λσ2 H2=>tb {D with nx:=Pv (i+1),ct:=Pv (i+1),bk:=D.nx} σ2 H2) (hd: ∀σ H,Pv n σ H->D.nx σ H):
 ∃W:Nat->Nat->St->Hp->Prop,(∃m,W 0 m σ H)/\ ∀i m σ H,W i m σ H->
  ((tJ lo n).stop i H/\D.nx σ H)\/((tJ lo n).go i H/\ ∃N:St->Hp->Prop,(∀σ' H',N σ' H'-> ∃m',m'<m/\W (i+1) m' σ' H')/\ ∀x H',(tJ lo n).yld i H x H'->g x σ H' λσ2 H2=>tb {D with nx:=N,ct:=N,bk:=D.nx} σ2 H2):=by
 refine⟨λi m σ H=>m=n - i/\i<=n/\Pv i σ H,⟨n,by simp,Nat.zero_le _,h0⟩,?_⟩
 rintro i m σ H ⟨rfl,hi,p⟩
 by_cases eO:i<n
 . refine .inr ⟨eO,Pv (i+1),λσ' H' p'=>⟨n - (i+1),by omega,rfl,eO,p'⟩,λx H' y=> ?_⟩;obtain⟨e,y⟩:=y;subst e y;exact hs i σ _ eO p
 . have e:i=n:=by omega
   subst e;exact .inl ⟨Nat.le_refl _,hd σ H p⟩
abbrev R2:=V->V->Hp->VK->Prop
def mZ(X:Cx)(f:Value->Value->Sem Value)(r:R2):Prop:=
 ∀(aA:List (Addr×Obj)) (s:Shared) (σ:St) (H:Hp) (x y:V) (v u:Value) (Q:VK),aM X aA σ H s->bA x v->bA y u->r x y H Q->
  wpAny (model X.prog X.w) X.A (f v u) (EP X aA σ Q) X.xe s
def UnR(X:Cx)(f:Value->Sem Value)(r:V->Hp->VK->Prop):Prop:=
 ∀(aA:List (Addr×Obj)) (s:Shared) (σ:St) (H:Hp) (x:V) (v:Value) (Q:VK),aM X aA σ H s->bA x v->r x H Q->
  wpAny (model X.prog X.w) X.A (f v) (EP X aA σ Q) X.xe s
def fK(X:Cx)(f:Value)(r:List V->Hp->VK->Prop):Prop:=
 ∀(aA:List (Addr×Obj)) (s:Shared) (σ:St) (H:Hp) (xs:List V) (us:List Value) (Q:VK),aM X aA σ H s->bK xs us->r xs H Q->
  wpAny (model X.prog X.w) X.A (call f us) (EP X aA σ Q) X.xe s
def zsA(X:Cx)(r:V->Hp->(Bool->Hp->Prop)->Prop):Prop:=
 ∀(aA:List (Addr×Obj)) (s:Shared) (σ:St) (H:Hp) (x:V) (v:Value) (Q:Bool->Hp->Prop),aM X aA σ H s->bA x v->r x H Q->
  wpAny (model X.prog X.w) X.A (truthy v) (TP X aA σ Q) X.xe s
def eR(r:R2)(ta tb:TE):TE:= λσ H Q=>ta σ H λx H1=>tb σ H1 λy H2=>r x y H2 Q
def tUn(r:V->Hp->VK->Prop)(ta:TE):TE:= λσ H Q=>ta σ H λx H1=>r x H1 Q
def rI(C:Int->Int->Prop)(g:Int->Int->V):R2:= λx y H Q=> ∃i j,x= .int i/\y= .int j/\C i j/\Q (g i j) H
def o4(g:Int->Int->V):R2:= λx y H Q=> ∃i j,x= .int i/\y= .int j/\Q (g i j) H
def rU(g:Int->V):V->Hp->VK->Prop:= λx H Q=> ∃i,x= .int i/\Q (g i) H
section
variable {a b c:Expr}{tc:TE}
theorem zjK(ha:PE X a ta)(hb:PE X b tb){aA:List (Addr×Obj)}{s:Shared}{σ:St}{H:Hp}{R:V->V->Hp->Prop}(I:aM X aA σ H s)
 (h:ta σ H λx H1=>tb σ H1 λy H2=>R x y H2) {Q:Value->Shared->Prop} {f:Value->Value->Sem Value}
 (hf: ∀v u s2 x y H2,aM X aA σ H2 s2->bA x v->bA y u->R x y H2->wpAny (model X.prog X.w) X.A (f v u) Q X.xe s2):
 wpAny (model X.prog X.w) X.A (eval a X.env) (λv s₁=>wpAny (model X.prog X.w) X.A (eval b X.env) (λu s₂=>wpAny (model X.prog X.w) X.A (f v u) Q X.xe s₂) X.xe s₁) X.xe s:=by
 refine cH (ha aA s σ H _ I h) λv s1 ⟨x,H1,I1,r1,q1⟩=> ?_
 refine cH (hb aA s1 σ H1 _ I1 q1) λu s2 ⟨y,H2,I2,r2,q2⟩=> ?_
 exact hf v u s2 x y H2 I2 r1 r2 q2
theorem bM{op:Operator}{r:R2}(ho:mZ X (binaryOp op) r)(ha:PE X a ta)(hb:PE X b tb):PE X (.BinOp a op b pos) (eR r ta tb):=by
 intro aA s σ H Q I h
 exact wpAny_BinOp (zjK ha hb I h λv u s2 x y H2 I2 rx ry q=>ho aA s2 σ H2 x y v u Q I2 rx ry q)
theorem zoM{op:UnaryOp}{r:V->Hp->VK->Prop}(ho:UnR X (unaryOp op) r)(ha:PE X a ta):PE X (.UnaryOp op a pos) (tUn r ta):=by
 intro aA s σ H Q I h
 exact UnaryOp_ (cH (ha aA s σ H _ I h) λv s1 ⟨x,H1,I1,r1,q1⟩=>ho aA s1 σ H1 x v Q I1 r1 q1)
theorem opI{f:Value->Value->Sem Value}{C:Int->Int->Prop}{g:Int->Int->Int}
 (rule: ∀(i j:Int) (t u:Tok) (s:Shared) (Q:Value->Shared->Prop) (E:Value->Shared->Prop),C i j->Q (.int (g i j) s.toks) {s with toks:=s.toks+1}->wpAny (model X.prog X.w) X.A (f (.int i t) (.int j u)) Q E s):
 mZ X f (rI C λi j=> .int (g i j)):=by
 intro aA s σ H x y v u Q I rx ry h
 obtain⟨i,j,rfl,rfl,hc,q⟩:=h
 obtain⟨t,rfl⟩:=rx
 obtain⟨t',rfl⟩:=ry
 exact rule i j t t' s _ _ hc ⟨.int (g i j),H,I.tok _,⟨_,rfl⟩,q⟩
theorem zqn{f:Value->Value->Sem Value}{g:Int->Int->Int}
 (rule: ∀(i j:Int) (t u:Tok) (s:Shared) (Q:Value->Shared->Prop) (E:Value->Shared->Prop),Q (.int (g i j) s.toks) {s with toks:=s.toks+1}->wpAny (model X.prog X.w) X.A (f (.int i t) (.int j u)) Q E s):
 mZ X f (o4 λi j=> .int (g i j)):=by
 intro aA s σ H x y v u Q I rx ry h
 obtain⟨i,j,rfl,rfl,q⟩:=h
 obtain⟨t,rfl⟩:=rx
 obtain⟨t',rfl⟩:=ry
 exact rule i j t t' s _ _ ⟨.int (g i j),H,I.tok _,⟨_,rfl⟩,q⟩
theorem zgJ{f:Value->Value->Sem Value}{g:Int->Int->Bool}
 (rule: ∀(i j:Int) (t u:Tok) (s:Shared) (Q:Value->Shared->Prop) (E:Value->Shared->Prop),Q (.bool (g i j)) s->wpAny (model X.prog X.w) X.A (f (.int i t) (.int j u)) Q E s):
 mZ X f (o4 λi j=> .bl (g i j)):=by
 intro aA s σ H x y v u Q I rx ry h
 obtain⟨i,j,rfl,rfl,q⟩:=h
 obtain⟨t,rfl⟩:=rx
 obtain⟨t',rfl⟩:=ry
 exact rule i j t t' s _ _ ⟨.bl (g i j),H,I,rfl,q⟩
def zut(i j:Int):Prop:=0<=j/\j<=1000000/\i.natAbs<2^64
def zfz(i j:Int):Prop:=(-(2^64)<i/\i<2^64)\/(-(2^64)<j/\j<2^64)
theorem zfz.ok{i j:Int}(h:zfz i j):IntMulOk i j:=by
 rcases h with⟨h1,h2⟩|⟨h1,h2⟩
 . exact .of_left (intBits_le_64 h1 h2)
 . exact .of_right (intBits_le_64 h1 h2)
theorem dU:mZ X (binaryOp .Add) (o4 λi j=> .int (i+j)):=zqn λ_ _ _ _ _ _ _ q=>add_int q
theorem zeW:mZ X (binaryOp .Sub) (o4 λi j=> .int (i - j)):=zqn λ_ _ _ _ _ _ _ q=>sub_int q
theorem gI:mZ X (binaryOp .Mult) (rI zfz λi j=> .int (i * j)):=opI λ_ _ _ _ _ _ _ hc q=>mul_int q hc.ok
theorem gZ:mZ X (binaryOp .Mod) (rI (λ_ j=>0<j) λi j=> .int (i % j)):=opI λi j _ _ _ _ _ hc q=>by
 have h1:(0:Int)<j:=hc
 exact mod_int' (by omega) (by rw[Int.fmod_eq_emod_of_nonneg i (by omega)];exact q)
theorem zkv:mZ X (binaryOp .Pow) (rI zut λi j=> .int (i^j.toNat)):=opI λ_ _ _ _ _ _ _ hc q=>pow_int_small hc.1 hc.2.1 hc.2.2 q
theorem unI{f:Value->Sem Value}{g:Int->Int}
 (rule: ∀(i:Int) (t:Tok) (s:Shared) (Q:Value->Shared->Prop) (E:Value->Shared->Prop),Q (.int (g i) s.toks) {s with toks:=s.toks+1}->wpAny (model X.prog X.w) X.A (f (.int i t)) Q E s):
 UnR X f (rU λi=> .int (g i)):=by
 intro aA s σ H x v Q I rx h
 obtain⟨i,rfl,q⟩:=h
 obtain⟨t,rfl⟩:=rx
 exact rule i t s _ _ ⟨.int (g i),H,I.tok _,⟨_,rfl⟩,q⟩
theorem zkZ:UnR X (unaryOp .USub) (rU λi=> .int (-i)):=unI λ_ _ _ _ _ q=>neg_int q
end
def zmX:V->V->Bool
 | .non,.non=>true| .non,.int _=>true| .int _,.non=>true| .non,.bl _=>true| .bl _,.non=>true| .non,.str _=>true| .str _,.non=>true
 | .int _,.int _=>true| .bl _,.bl _=>true| .str _,.str _=>true| .byt _,.byt _=>true
 | .int _,.str _=>true| .str _,.int _=>true| .bl _,.str _=>true| .str _,.bl _=>true
 |_,_=>false
def rEq:R2:= λx y H Q=>zmX x y=true/\Q (.bl (decide (x=y))) H
def rNe:R2:= λx y H Q=>zmX x y=true/\Q (.bl (!decide (x=y))) H
theorem zaW{i j:Int}:decide (V.int i=V.int j)=(i==j):=by
 rw[Bool.eq_iff_iff]
 simp
theorem zdX{i j:Bool}:decide (V.bl i=V.bl j)=(i==j):=by
 rw[Bool.eq_iff_iff]
 simp
theorem zak{i j:Str}:decide (V.str i=V.str j)=(i==j):=by
 rw[Bool.eq_iff_iff]
 simp
theorem zbe{i j:Array UInt8}:decide (V.byt i=V.byt j)=(i.toList==j.toList):=by
 rw[Bool.eq_iff_iff]
 cases i
 cases j
 simp
section
variable {a b c:Expr}{tc:TE}
theorem bY{aA:List (Addr×Obj)}{σ:St}{H:Hp}{s:Shared}{Q:VK}{k k':Bool}(I:aM X aA σ H s)(q:Q (.bl k) H)(e:k=k'):EP X aA σ Q (.bool k') s:=by
 subst e
 exact⟨.bl k,H,I,rfl,q⟩
theorem lO:mZ X (compareOp .Eq) rEq:=by
 intro aA s σ H x y v u Q I rx ry h
 obtain⟨hs,q⟩:=h
 cases x with
 |non=>
  cases rx;cases y with
  |non=>cases ry;exact PySem.EqNone.eq_none_none (bY I q (by simp))
  |bl j=>cases ry;exact PySem.EqNone.eq_none_bool (bY I q (by simp))
  |int j=>obtain⟨t',rfl⟩:=ry;exact PySem.EqNone.eq_none_int (bY I q (by simp))
  |str j=>obtain⟨t',rfl⟩:=ry;exact PySem.EqNone.eq_none_str (bY I q (by simp))
  |_=>exact absurd (show false=true from hs) Bool.false_ne_true
 |bl i=>
  cases rx;cases y with
  |non=>cases ry;exact PySem.EqNone.eq_bool_none (bY I q (by simp))
  |bl j=>cases ry;exact eq_bool (bY I q zdX)
  |str j=>obtain⟨t',rfl⟩:=ry;exact PySem.EqMixed.eq_bool_str (bY I q (by simp))
  |_=>exact absurd (show false=true from hs) Bool.false_ne_true
 |int i=>
  obtain⟨t,rfl⟩:=rx;cases y with
  |non=>cases ry;exact PySem.EqNone.eq_int_none (bY I q (by simp))
  |int j=>obtain⟨t',rfl⟩:=ry;exact eq_int (bY I q zaW)
  |str j=>obtain⟨t',rfl⟩:=ry;exact PySem.EqMixed.eq_int_str (bY I q (by simp))
  |_=>exact absurd (show false=true from hs) Bool.false_ne_true
 |str i=>
  obtain⟨t,rfl⟩:=rx;cases y with
  |non=>cases ry;exact PySem.EqNone.eq_str_none (bY I q (by simp))
  |bl j=>cases ry;exact PySem.EqMixed.eq_str_bool (bY I q (by simp))
  |int j=>obtain⟨t',rfl⟩:=ry;exact PySem.EqMixed.eq_str_int (bY I q (by simp))
  |str j=>obtain⟨t',rfl⟩:=ry;exact eq_str (bY I q zak)
  |_=>exact absurd (show false=true from hs) Bool.false_ne_true
 |byt i=>
  obtain⟨t,rfl⟩:=rx;cases y with
  |byt j=>obtain⟨t',rfl⟩:=ry;exact PySem.W.eq_bytes (bY I q zbe)
  |_=>exact absurd (show false=true from hs) Bool.false_ne_true
 |_=>cases y<;>exact absurd (show false=true from hs) Bool.false_ne_true
theorem uA:mZ X (compareOp .NotEq) rNe:=by
 intro aA s σ H x y v u Q I rx ry h
 obtain⟨hs,q⟩:=h
 cases x with
 |non=>
  cases rx;cases y with
  |non=>cases ry;exact PySem.EqNone.ne_none_none (bY I q (by simp))
  |bl j=>cases ry;exact PySem.EqNone.ne_none_bool (bY I q (by simp))
  |int j=>obtain⟨t',rfl⟩:=ry;exact PySem.EqNone.ne_none_int (bY I q (by simp))
  |str j=>obtain⟨t',rfl⟩:=ry;exact PySem.EqNone.ne_none_str (bY I q (by simp))
  |_=>exact absurd (show false=true from hs) Bool.false_ne_true
 |bl i=>
  cases rx;cases y with
  |non=>cases ry;exact PySem.EqNone.ne_bool_none (bY I q (by simp))
  |bl j=>cases ry;exact ne_bool (bY I q (congrArg not zdX))
  |str j=>obtain⟨t',rfl⟩:=ry;exact PySem.EqMixed.ne_bool_str (bY I q (by simp))
  |_=>exact absurd (show false=true from hs) Bool.false_ne_true
 |int i=>
  obtain⟨t,rfl⟩:=rx;cases y with
  |non=>cases ry;exact PySem.EqNone.ne_int_none (bY I q (by simp))
  |int j=>obtain⟨t',rfl⟩:=ry;exact ne_int (bY I q (congrArg not zaW))
  |str j=>obtain⟨t',rfl⟩:=ry;exact PySem.EqMixed.ne_int_str (bY I q (by simp))
  |_=>exact absurd (show false=true from hs) Bool.false_ne_true
 |str i=>
  obtain⟨t,rfl⟩:=rx;cases y with
  |non=>cases ry;exact PySem.EqNone.ne_str_none (bY I q (by simp))
  |bl j=>cases ry;exact PySem.EqMixed.ne_str_bool (bY I q (by simp))
  |int j=>obtain⟨t',rfl⟩:=ry;exact PySem.EqMixed.ne_str_int (bY I q (by simp))
  |str j=>obtain⟨t',rfl⟩:=ry;exact ne_str (bY I q (congrArg not zak))
  |_=>exact absurd (show false=true from hs) Bool.false_ne_true
 |byt i=>
  obtain⟨t,rfl⟩:=rx;cases y with
  |byt j=>obtain⟨t',rfl⟩:=ry;exact PySem.W.ne_bytes (bY I q (congrArg not zbe))
  |_=>exact absurd (show false=true from hs) Bool.false_ne_true
 |_=>cases y<;>exact absurd (show false=true from hs) Bool.false_ne_true
theorem xL:mZ X (compareOp .Lt) (o4 λi j=> .bl (decide (i<j))):=zgJ λ_ _ _ _ _ _ _ q=>lt_int q
theorem zjj:mZ X (compareOp .LtE) (o4 λi j=> .bl (decide (i<=j))):=zgJ λ_ _ _ _ _ _ _ q=>le_int q
theorem ziP:mZ X (compareOp .Gt) (o4 λi j=> .bl (decide (j<i))):=zgJ λ_ _ _ _ _ _ _ q=>gt_int q
theorem zjg:mZ X (compareOp .GtE) (o4 λi j=> .bl (decide (j<=i))):=zgJ λ_ _ _ _ _ _ _ q=>ge_int q
theorem zbd:mZ X (compareOp .IsNot) (λx y H Q=>y= .non/\Q (.bl (!decide (x= .non))) H):=by
 intro aA s σ H x y v u Q I rx ry h
 obtain⟨rfl,q⟩:=h
 cases ry
 refine isnot_none_gen (bY I q ?_)
 cases x<;>first
  |(cases rx;rfl)
  |(obtain⟨t,rfl⟩:=rx;rfl)
theorem cL(b:Expr){op:CmpOp}(h:op≠ .In:=by decide)(h2:op≠ .NotIn:=by decide):behindInMarks op b=false:=by
 have e1:(op==CmpOp.In)=false:=by cases op<;>first|rfl|exact absurd rfl h
 have e2:(op==CmpOp.NotIn)=false:=by cases op<;>first|rfl|exact absurd rfl h2
 cases b<;>simp[behindInMarks,e1,e2]
theorem gC{op:CmpOp}{r:R2}(ho:mZ X (compareOp op) r)(ha:PE X a ta)(hb:PE X b tb)(hm:behindInMarks op b=false):PE X (.Compare a [op] [b] pos) (eR r ta tb):=by
 intro aA s σ H Q I h
 exact wpAny_Compare1 (zjK ha hb I h λv u s2 x y H2 I2 rx ry q=>ho aA s2 σ H2 x y v u Q I2 rx ry q) hm
def iQ(t:TE):TT:= λσ H Q=>t σ H λx H'=> ∃k,x= .bl k/\Q k H'
theorem bQ{op:CmpOp}{r:R2}(ho:mZ X (compareOp op) r)(ha:PE X a ta)(hb:PE X b tb)(hm:behindInMarks op b=false):PT X (.Compare a [op] [b] pos) (iQ (eR r ta tb)):=by
 intro aA s σ H Q I h
 refine wpAny_isTrue_Compare1 (cH (ha aA s σ H _ I h) λv s1 ⟨x,H1,I1,r1,q1⟩=>cH (hb aA s1 σ H1 _ I1 q1) λu s2 ⟨y,H2,I2,r2,q2⟩=>
  cH (ho aA s2 σ H2 x y v u _ I2 r1 r2 q2) λc s3 ⟨z,H3,I3,r3,k,e,q3⟩=> ?_) hm
 subst e
 cases r3
 exact wpAny_truthy_bool ⟨H3,I3,q3⟩
def zju(r r':R2)(ta tb tc:TE):TE:= λσ H Q=>ta σ H λx H1=>tb σ H1 λy H2=>r x y H2 λz H3=> ∃k,z= .bl k/\
 (if k=true then tc σ H3 λw' H4=>r' y w' H4 Q else Q (.bl false) H3)
theorem wK{op op':CmpOp}{r r':R2}(ho:mZ X (compareOp op) r)(ho':mZ X (compareOp op') r')(ha:PE X a ta)(hb:PE X b tb)(hc:PE X c tc)
 (hm:lastMarks [op,op'] [b,c]=false:=by with_unfolding_all rfl):PT X (.Compare a [op,op'] [b,c] pos) (iQ (zju r r' ta tb tc)):=by
 intro aA s σ H Q I h
 refine isTrue_chain (cH (ha aA s σ H _ I h) λv s1 ⟨x,H1,I1,r1,q1⟩=>test_link (cH (hb aA s1 σ H1 _ I1 q1) λu s2 ⟨y,H2,I2,r2,q2⟩=>
  cH (ho aA s2 σ H2 x y v u _ I2 r1 r2 q2) λd s3 ⟨z,H3,I3,r3,k,e,q3⟩=> ?_)) hm
 subst e
 cases r3
 refine wpAny_truthy_bool ?_
 cases k with
 |false=>
  obtain⟨k',e',q'⟩:=q3;cases e';exact ite_ff ⟨H3,I3,q'⟩
 |true=>
  refine ite_tt (test_last (cH (hc aA s3 σ H3 _ I3 q3) λw' s4 ⟨z',H4,I4,r4,q4⟩=>cH (ho' aA s4 σ H4 y z' u w' _ I4 r2 r4 q4) λd' s5 ⟨z2,H5,I5,r5,k2,e2,q5⟩=> ?_));subst e2;cases r5;exact wpAny_truthy_bool ⟨H5,I5,q5⟩
def znr(K:W.Frag)(x:V)(H:Hp)(k:Bool):Prop:=
 match x with
 | .non=>k=false
 | .bl b=>k=b
 | .int i=>k=(i != 0)
 | .str y=>y.length<=sizeLine/\k=((y.length:Int) != 0)
 | .byt y=>y.size<=sizeLine/\k=((y.size:Int) != 0)
 | .ref p=>(∃xs,aY K H p xs/\k= !xs.isEmpty)\/(∃xs,fR K H p xs/\k= !xs.isEmpty)\/ ∃kvs,H p=some (.dK kvs)/\k= !kvs.isEmpty
 |_=>False
theorem j6{κ:Type}{kvs:List (κ×V)}{vs:List (κ×Value)}(r:KV kvs vs):(!vs.isEmpty)= !kvs.isEmpty:=by
 cases r<;>rfl
theorem pO{xs:List V}{bC:List Value}(r:bK xs bC):(!bC.toArray.isEmpty)= !xs.isEmpty:=by
 cases r<;>simp
theorem kQ:(sizeLine:Nat)<2^63:=by rw[sizeLine_eq];decide
theorem zjr:zsA X (λx H Q=> ∃k,znr X.K x H k/\Q k H):=by
 intro aA s σ H x v Q I rx h
 obtain⟨k,e,q⟩:=h
 have hl:=kQ
 have hs:sizeLine=16777216:=sizeLine_eq
 cases x with
 |non=>
  cases rx;have e':k=false:=e;subst e';exact truthy_none ⟨H,I,q⟩
 |bl b=>
  cases rx;have e':k=b:=e;subst e';exact wpAny_truthy_bool ⟨H,I,q⟩
 |int i=>
  obtain⟨t,rfl⟩:=rx;have e':k=(i != 0):=e;subst e';exact PySem.P.truthy_int ⟨H,I,q⟩
 |str y=>
  obtain⟨t,rfl⟩:=rx;obtain⟨hy,e'⟩:y.length<=sizeLine/\k=((y.length:Int) != 0):=e;subst e';exact PySem.P.truthy_str (by omega) ⟨H,I.tok _,q⟩
 |byt y=>
  obtain⟨t,rfl⟩:=rx;obtain⟨hy,e'⟩:y.size<=sizeLine/\k=((y.size:Int) != 0):=e;subst e';exact PySem.W.truthy_bytes (by omega) ⟨H,I.tok _,q⟩
 |ref p=>
  cases rx;have e':(∃xs,aY X.K H p xs/\k= !xs.isEmpty)\/(∃xs,fR X.K H p xs/\k= !xs.isEmpty)\/ ∃kvs,H p=some (.dK kvs)/\k= !kvs.isEmpty:=e
  rcases e' with⟨xs,hx,e'⟩|⟨xs,hx,e'⟩|⟨kvs,hx,e'⟩
  . subst e';obtain⟨bC,r,pl,hz⟩:=I.list hx;have cQ:=r.length;exact wpAny_truthy_list pl.isList (by simp only[List.size_toArray];omega) ⟨H,I.tok _,by rw[pO r];exact q⟩
  . subst e';obtain⟨bC,r,pl,hz⟩:=I.tuple hx;have cQ:=r.length;exact truthy_tuple pl (by simp only[List.size_toArray];omega) ⟨H,I.tok _,by rw[pO r];exact q⟩
  . subst e';obtain⟨hz,hS,vs,r,m⟩:kvs.length<=sizeLine/\(p==sysModules)=false/\ ∃vs,KV kvs vs/\s.heap.DictOf (aV X.prog X.w) p vs:=I.hok p _ hx;have cQ:kvs.length=vs.length:=Paired.length r;exact wpAny_truthy_dict hS m (by omega) ⟨H,I.tok _,by rw[j6 r];exact q⟩
 |_=>exact(show False from e).elim
theorem zfO(ha:PE X a ta)(he: ∀rG,isTrue a X.env rG=(do let v<-rG;standAt a.pos;holding [v] (truthy v))):
 PT X a (λσ H Q=>ta σ H λx H'=> ∃k,znr X.K x H' k/\Q k H'):=by
 intro aA s σ H Q I h
 exact isTrue_plain (cH (ha aA s σ H _ I h) λv s1 ⟨x,H1,I1,r1,q1⟩=>zjr aA s1 σ H1 x v Q I1 r1 q1) (he _)
theorem lT:mZ X (binaryOp .Add) (λx y H Q=> ∃i j,x= .str i/\y= .str j/\i.length+j.length<=sizeLine/\Q (.str (i++j)) H):=by
 intro aA s σ H x y v u Q I rx ry h
 obtain⟨i,j,rfl,rfl,hz,q⟩:=h
 obtain⟨t,rfl⟩:=rx
 obtain⟨t',rfl⟩:=ry
 exact add_str (λt' tk=>⟨.str (i++j),H,I.tok _,⟨_,rfl⟩,q⟩) hz
theorem lI{x:V}{us:List Value}(r:bK [x] us): ∃u,us=[u]/\bA x u:=by
 cases r with
 |cons r1 r2=>cases r2;exact⟨_,rfl,r1⟩
theorem zjo{x y:V}{us:List Value}(r:bK [x,y] us): ∃u w',us=[u,w']/\bA x u/\bA y w':=by
 cases r with
 |cons r1 r2=>
  cases r2 with
  |cons r3 r4=>cases r4;exact⟨_,_,rfl,r1,r3⟩
theorem zbF(hc:X.calm=true):fK X (.builtin "max") (λxs H Q=> ∃i j,xs=[.int i,.int j]/\Q (.int (if j>i then j else i)) H):=by
 intro aA s σ H xs us Q I r h
 obtain⟨i,j,rfl,q⟩:=h
 obtain⟨u,w',rfl,⟨t,rfl⟩,⟨t',rfl⟩⟩:=zjo r
 refine max_two_ints (I.ok.hd hc) λh' tk k=>⟨_,H,I.kept k,?_,q⟩
 by_cases hj:j>i
 . rw[if_pos hj,if_pos hj];exact⟨_,rfl⟩
 . rw[if_neg hj,if_neg hj];exact⟨_,rfl⟩
theorem zcr(hc:X.calm=true):fK X (.builtin "min") (λxs H Q=> ∃i j,xs=[.int i,.int j]/\Q (.int (if j<i then j else i)) H):=by
 intro aA s σ H xs us Q I r h
 obtain⟨i,j,rfl,q⟩:=h
 obtain⟨u,w',rfl,⟨t,rfl⟩,⟨t',rfl⟩⟩:=zjo r
 refine min_two_ints (I.ok.hd hc) λh' tk k=>⟨_,H,I.kept k,?_,q⟩
 by_cases hj:j<i
 . rw[if_pos hj,if_pos hj];exact⟨_,rfl⟩
 . rw[if_neg hj,if_neg hj];exact⟨_,rfl⟩
theorem sY:fK X (.type "int") (λxs H Q=>(∃i,xs=[.int i]/\Q (.int i) H)\/ ∃k,xs=[.bl k]/\Q (.int (if k then 1 else 0)) H):=by
 intro aA s σ H xs us Q I r h
 rcases h with⟨i,rfl,q⟩|⟨k,rfl,q⟩
 . obtain⟨u,rfl,t,rfl⟩:=lI r;exact call_int_int ⟨.int i,H,I,⟨_,rfl⟩,q⟩
 . obtain⟨u,rfl,r1⟩:=lI r;cases r1;exact call_int_bool ⟨.int (if k then 1 else 0),H,I.tok _,⟨_,rfl⟩,q⟩
end
structure zcV(h:Heap)(x dx C:Addr)(mA:Str->Option Value):Prop where
 obj:h.get? x=some (W.instObj C dx)
 ns:h.Ns1 dx mA
 ne:dx≠x
theorem zcp{h:Heap}{dx:Addr}{mA:Str->Option Value}(n:h.Ns1 dx mA): ∃od,h.get? dx=some od/\ ∀name,PySem.W.lookIn name od=some (mA name):=by
 obtain⟨o,es,ep,ho,hd,hk,_,hm⟩:=n
 refine⟨o,ho,λname=> ?_⟩
 have e:=hm name
 unfold nsFind findBy at e
 rw[<-Array.find?_toList]at e
 unfold PySem.W.lookIn
 rw[hd]
 dsimp only
 split
 . rename_i y q
   rw[q]at e;exact congrArg some e
 . rename_i q
   rw[q]at e;have a:es.toList.any (·.refKey)=false:=by
    rw[List.any_eq_false];intro y hy;obtain⟨z,t,zfp⟩:=hk y (Array.mem_toList_iff.mp hy);simp[DictEntry.refKey,zfp]
   have a': ¬es.toList.any (·.refKey)=true:=by rw[a];exact Bool.false_ne_true
   rw[if_neg a'];exact congrArg some e
theorem zcV.look{h:Heap}{x dx C:Addr}{mA:Str->Option Value}(I:zcV h x dx C mA): ∃od,PySem.W.InstAt h x (W.instObj C dx) C (some od)/\ ∀name,PySem.W.lookIn name od=some (mA name):=
 let⟨od,ho,hl⟩:=zcp I.ns
 ⟨od,⟨I.obj,rfl,rfl,ho⟩,hl⟩
section
variable {prog:Program}{w:World}{E:Value->Shared->Prop}{K:W.Frag}{x f:Addr}{mA:Str->Option Value}{name:Str}{v:Value}
theorem zgW{zsZ:Bool}{Q:Value->Shared->Prop}(X:K.In s.heap)(I:zcV s.heap x dx C mA)(hg:W.plainGet K C name=true)(hh:PySem.W.hasDictIn K C=true)
 (ha:W.findIn K (.ref C) name=some none) (hv:mA name=some v) (sO:PySem.W.handedIn v=true) (h:Q v {s with toks:=s.toks+1}):
 wpAny (model prog w) A (getAttr (.ref x) name zsZ) Q E s:=by
 obtain⟨od,J,hl⟩:=I.look
 exact PySem.W.get_value X J (PySem.W.plainGet_of hg).1 (PySem.W.findObj_own hh ha rfl (by rw[hl,hv])) sO h
theorem zgL{ns:List Str}{Q:Unit->Shared->Prop}(X:K.In s.heap)(I:zcV s.heap x dx C mA)
 (hs:W.findIn K (.ref C) "__setattr__" =some (some (.builtin "object.__setattr__"))) (hp:PySem.W.plainOver K C=true) (ht:PySem.W.takerIn K C name=some none) (hh:PySem.W.hasDictIn K C=true)
 (hw:PySem.Within mA ns) (hsz:ns.length<=sizeLine)
 (h: ∀h',zcV h' x dx C (λy=>if y=name then some v else mA y)->Heap.SameBut dx s.heap h'->Q () {s with heap:=h',toks:=s.toks+2}):
 wpAny (model prog w) A (setAttr (.ref x) name v) Q E s:=by
 obtain⟨od,J,hl⟩:=I.look
 refine PySem.W.set_plain X J hs (PySem.W.osa_open (s:={s with toks:=s.toks+1}) (r:=none) X J hp ht λb=> ?_)
 obtain⟨cd,hc,vR⟩:=PySem.W.any_some hh
 have hx:s.heap.get? x=some ⟨.ref C,some dx,.plain,#[]⟩:=I.obj
 refine wpAny_bind (wpAny_pure (wpAny_bind (wpAny_bind (wpAny_loadPart hx (wpAny_bind (PySem.W.Looks.here (s:={s with toks:=s.toks+1}) (PySem.W.looks_clsIn X hc) ?_))))))
 rw[vR]
 refine wpAny_pure (a:=some dx) (wpAny_bind (wpAny_pure (wpAny_bind ?_)))
 refine wpAny_nsSet1 (s:={s with toks:=s.toks+1}) I.ns λh' hn2 yG=> ?_
 obtain⟨oD,esD,epD,hoD,hdD,hcD⟩:=hn2.count (PySem.Within.cons name v hw)
 refine wpAny_bind (wpAny_lookBehind hoD (by rw[hdD];exact pastItsLine_dict (Nat.le_trans hcD (by rw[List.length_cons];omega))) ?_)
 exact wpAny_pure (h _ ⟨(yG.2 _ (Ne.symm I.ne)).trans I.obj,hn2,I.ne⟩ yG)
theorem zfW{R:Result->Shared->Prop}{vs:List Value}{kw:List (Str×Value)}(X:K.In s.heap)(hm:PySem.W.makesIn K C=true)
 (hi:W.findIn K (.ref C) "__init__" =some (some (.ref f))) (hf:PySem.W.typeIn K (.ref f)=some (.type "function"))
 (h:codeAny (model prog w) (A.under (.builtin "type.__call__" ⟨.ref C::vs,kw⟩)) (.call (.ref f) ⟨.ref (s.heap.objs.size+1)::vs,kw⟩) (PySem.W.InitBack (s.heap.objs.size+1) R)
  {s with heap:=(s.heap.push W.emptyDict).push (W.instObj C s.heap.objs.size)}):
 codeAny (model prog w) A (.call (.ref C) ⟨vs,kw⟩) R s:=by
 obtain⟨hh,g,d,t,os⟩:=s
 exact PySem.W.make_core (PySem.W.makes_of X hm) (PySem.W.looks_findIn X hi) (λself=>PySem.W.bind_fn X self hf) (.inl rfl) h
end
def fO(f:Str)(v:V):List (Str×V)->List (Str×V)
 | []=>[(f,v)]
 |(g,x)::r=>if g=f then(g,v)::r else(g,x)::fO f v r
theorem oP(f g:Str)(v:V): ∀fs:List (Str×V),(fO f v fs).lookup g=if g=f then some v else fs.lookup g
 | []=>by
  show List.lookup g [(f,v)]=_
  by_cases h:g=f
  . have hb:(g==f)=true:=beq_iff_eq.mpr h;simp only[List.lookup,hb,if_pos h]
  . have hb:(g==f)=false:=beq_eq_false_iff_ne.mpr h;simp only[List.lookup,hb,if_neg h]
 |(k,x)::r=>by
  have ih:=oP f g v r;rw[show fO f v ((k,x)::r)=(if k=f then(k,v)::r else(k,x)::fO f v r)from rfl]
  by_cases hk:k=f
  . rw[if_pos hk]
    by_cases h:g=k
    . have hb:(g==k)=true:=beq_iff_eq.mpr h;simp only[List.lookup,hb,if_pos (h.trans hk)]
    . have hb:(g==k)=false:=beq_eq_false_iff_ne.mpr h;simp only[List.lookup,hb,if_neg (λe:g=f=>h (e.trans hk.symm))]
  . rw[if_neg hk]
    by_cases h:g=k
    . have hb:(g==k)=true:=beq_iff_eq.mpr h;simp only[List.lookup,hb,if_neg (λe:g=f=>hk (h.symm.trans e))]
    . have hb:(g==k)=false:=beq_eq_false_iff_ne.mpr h;simp only[List.lookup,hb];exact ih
theorem nQ(f:Str)(v:V): ∀fs:List (Str×V),f∈(fO f v fs).map (·.1)/\ ∀g,g∈fs.map (·.1)->g∈(fO f v fs).map (·.1)
 | []=>⟨by simp[fO],λg h=>by simp at h⟩
 |(k,x)::r=>by
  obtain⟨i1,i2⟩:=nQ f v r;rw[show fO f v ((k,x)::r)=(if k=f then(k,v)::r else(k,x)::fO f v r)from rfl]
  by_cases hk:k=f
  . rw[if_pos hk];subst hk;exact⟨by simp,λg h=>by simpa using h⟩
  . rw[if_neg hk];refine⟨?_,λg h=> ?_⟩
    . rw[List.map_cons];exact List.mem_cons_of_mem _ i1
    . rw[List.map_cons]at h ⊢
      rcases List.mem_cons.mp h with e|e
      . exact List.mem_cons.mpr (.inl e)
      . exact List.mem_cons_of_mem _ (i2 g e)
theorem oG(f:Str)(v:V): ∀fs:List (Str×V),(fO f v fs).length<=fs.length+1
 | []=>by simp[fO]
 |(k,x)::r=>by
  have ih:=oG f v r;rw[show fO f v ((k,x)::r)=(if k=f then(k,v)::r else(k,x)::fO f v r)from rfl]
  by_cases hk:k=f
  . rw[if_pos hk,List.length_cons,List.length_cons];omega
  . rw[if_neg hk,List.length_cons,List.length_cons];omega
theorem jX.some_of{v:V}{o:Option Value}(r:jX (some v) o): ∃u,o=some u/\bA v u:=by
 cases o with
 |none=>exact(show False from r).elim
 |some u=>exact⟨u,rfl,r⟩
theorem zcz{v:V}{u:Value}(r:bA v u):PySem.W.handedIn u=true:=by
 cases v with
 |non=>cases(show u=Value.none from r);rfl
 |bl b=>cases(show u=Value.bool b from r);rfl
 |int i=>obtain⟨t,e⟩:=(show ∃t,u=Value.int i t from r);cases e;rfl
 |str x=>obtain⟨t,e⟩:=(show ∃t,u=Value.str x t from r);cases e;rfl
 |byt b=>obtain⟨t,e⟩:=(show ∃t,u=Value.bytes b t from r);cases e;rfl
 |flt b=>obtain⟨t,e⟩:=(show ∃t,u=Value.float b t from r);cases e;rfl
 |ref a=>cases(show u=Value.ref a from r);rfl
 |ty n=>cases(show u=Value.type n from r);rfl
section
variable {P:Program}{w:World}{a:Addr}{fs fs':List (Str×V)}
theorem zat(hok:jG P w H h)(e:H a=some (.ins C dx fs)): ∃mA,zcV h a dx C mA/\(∀f,jX (fs.lookup f) (mA f))/\PySem.Within mA (fs.map (·.1))/\fs.length<=1000/\H dx=some (.own a):=by
 obtain⟨d,z,ne,ob,mA,n,r,q⟩:=(show cP P w H h a (.ins C dx fs)from hok a _ e)
 exact⟨mA,⟨ob,n,ne⟩,r,q,z,d⟩
end
structure Cls(K:W.Frag)(C:Addr):Prop where
 pg:W.plainGet K C Str.empty=true
 hd:PySem.W.hasDictIn K C=true
 po:PySem.W.plainOver K C=true
 sa:W.findIn K (.ref C) "__setattr__" =some (some (.builtin "object.__setattr__"))
theorem Cls.get{K:W.Frag}{C:Addr}(c:Cls K C)(f:Str):W.plainGet K C f=true:=c.pg
def jK(K:W.Frag)(C:Addr)(f:Str):Prop:=W.findIn K (.ref C) f=some none
theorem jK.taker{K:W.Frag}{C:Addr}{f:Str}(n:jK K C f):PySem.W.takerIn K C f=some none:=by
 unfold PySem.W.takerIn
 rw[show W.findIn K (.ref C) f=some none from n]
 rfl
section
variable {σ:St}{a:Addr}{fs:List (Str×V)}{f:Str}{v:V}{E:Value->Shared->Prop}
theorem d8{b:Bool}{Q:Value->Shared->Prop}(I:aM X aA σ H s)(e:H a=some (.ins C dx fs))(c:Cls X.K C)(n:jK X.K C f)(l:fs.lookup f=some v)
 (h: ∀u s',aM X aA σ H s'->bA v u->Q u s'):wpAny (model X.prog X.w) A (getAttr (.ref a) f b) Q E s:=by
 obtain⟨mA,O,r,_,_,_⟩:=zat I.hok e
 obtain⟨u,hu,ru⟩:=jX.some_of (v:=v) (o:=mA f) (by rw[<-l];exact r f)
 exact zgW I.kIn O (c.get f) c.hd n hu (zcz ru) (h u _ (I.tok _) ru)
theorem n6{y:V}{u:Value}{Q:Unit->Shared->Prop}(I:aM X aA σ H s)(e:H a=some (.ins C dx fs))(c:Cls X.K C)(n:jK X.K C f)(hl:fs.length<1000)(ry:bA y u)
 (h: ∀s',aM X aA σ (aN H a (.ins C dx (fO f y fs))) s'->Q () s'):wpAny (model X.prog X.w) A (setAttr (.ref a) f u) Q E s:=by
 obtain⟨mA,O,r,wi,_,ho⟩:=zat I.hok e
 have hz:(fs.map (·.1)).length<=sizeLine:=by rw[bH,sizeLine_eq];omega
 refine zgL I.kIn O c.sa c.po n.taker c.hd wi hz λh' O' sb=>h _ ?_
 have hd: ∃o,h'.get? dx=some o:=let⟨o,_,_,e',_⟩:=O'.ns;⟨o,e'⟩
 refine I.write (x:=a) (e:=dx) (by rw[e];exact True.intro) (.inr ho) (λb q hb z=>(sb.2 b hb).trans z) hd ?_
 refine⟨by rw[aD O.ne];exact ho,?_,O.ne,O'.obj,_,O'.ns,λg=> ?_,λg hg=> ?_⟩
 . have:=oG f y fs;omega
 . show jX ((fO f y fs).lookup g) (if g=f then some u else mA g)
   rw[oP]
   by_cases q:g=f
   . rw[if_pos q,if_pos q];exact ry
   . rw[if_neg q,if_neg q];exact r g
 . by_cases q:g=f
   . rw[q];exact(nQ f y fs).1
   . refine(nQ f y fs).2 g (wi g λz=>hg ?_);show(if g=f then some u else mA g)=none;rw[if_neg q];exact z
theorem aM.made(I:aM X aA σ H s):aM X aA σ (aN (aN H s.heap.objs.size (.own (s.heap.objs.size+1))) (s.heap.objs.size+1) (.ins C s.heap.objs.size []))
 {s with heap:=(s.heap.push W.emptyDict).push (W.instObj C s.heap.objs.size)}:=by
 have e1:(s.heap.push W.emptyDict).get? s.heap.objs.size=some W.emptyDict:=Heap.get?_push_size s.heap rfl
 have e2:((s.heap.push W.emptyDict).push (W.instObj C s.heap.objs.size)).get? (s.heap.objs.size+1)=some (W.instObj C s.heap.objs.size):=by
  have:=Heap.get?_push_size (s.heap.push W.emptyDict) (o:=W.instObj C s.heap.objs.size) rfl
  rwa [Heap.size_push]at this
 have e3:(s.heap.push W.emptyDict).Ns s.heap.objs.size (λ_=>none):=⟨W.emptyDict,#[],_,e1,rfl,(λe he=>absurd he (by simp)),λ_=>rfl⟩
 have I1:=I.laid (a:=s.heap.objs.size) (o:= .own (s.heap.objs.size+1)) (h':=s.heap.push W.emptyDict) (t':=s.toks) (λb u q=>Heap.get?_push_of_some _ q) (Nat.le_refl _) ⟨_,e1⟩
 refine I1.laid (a:=s.heap.objs.size+1) (o:= .ins C s.heap.objs.size []) (t':=s.toks) (λb u q=>Heap.get?_push_of_some _ q) (Nat.le_of_eq (Heap.size_push _ _)) ?_
 have ne:s.heap.objs.size≠s.heap.objs.size+1:=Nat.ne_of_lt (Nat.lt_succ_self _)
 refine⟨by rw[aD ne,aG],Nat.zero_le _,ne,e2,λ_=>none,(Heap.Ns1.of_empty e3).at λo q=>Heap.get?_push_of_some _ q,λ_=>True.intro,λy hy=>absurd rfl hy⟩
theorem zho{prog:Program}{w:World}{env:Env}{e:Expr}{f:Str}{pos:Pos}{s:Shared}{Q:Value->Shared->Prop}(hb:attributeBase e f env (eval e env)=eval e env)
 (h:wpAny (model prog w) A (eval e env) (λo s₁=>wpAny (model prog w) A (getAttr o f true) Q E s₁) E s):wpAny (model prog w) A (eval (.Attribute e f pos) env) Q E s:=
 Attribute_any_ h (by rw[arm_eval_Attribute,hb])
end
def ztO(K:W.Frag)(ta:TE)(f:Str):TE:= λσ H Q=>ta σ H λx H1=> ∃a C dx fs v,x= .ref a/\H1 a=some (.ins C dx fs)/\Cls K C/\jK K C f/\fs.lookup f=some v/\Q v H1
def zsv(K:W.Frag)(ta tv:TE)(f:Str):TS:= λD σ H=>tv σ H λy H1=>ta σ H1 λx H2=> ∃a C dx fs,x= .ref a/\H2 a=some (.ins C dx fs)/\Cls K C/\jK K C f/\fs.length<1000/\
 D.nx σ (aN H2 a (.ins C dx (fO f y fs)))
section
variable {o e value:Expr}{f:Str}{pQ oT:Pos}{tv:TE}
theorem iD(he:PE X e ta)(hb:attributeBase e f X.env (eval e X.env)=eval e X.env):PE X (.Attribute e f pos) (ztO X.K ta f):=by
 intro aA s σ H Q I h
 refine zho hb (cH (he aA s σ H _ I h) λu s1 ⟨x,H1,I1,rx,a,C,dx,fs,v,ex,ea,c,n,l,q⟩=> ?_)
 subst ex
 obtain rfl:u=Value.ref a:=rx
 exact d8 I1 ea c n l λu' s2 I2 ru=>⟨v,H1,I2,ru,q⟩
theorem yU(ha:PE X o ta)(hv:PE X value tv)(hs:swapsWith value (some (.Attribute o f pQ)) pos.line X.env=pure false):PS X (.Assign [.Attribute o f pQ] value pos) (zsv X.K ta tv f):=by
 intro aA s σ H D I h
 refine plainObj_wpAny_Assign_Attribute (cH (hv aA s σ H _ I h) λu s1 ⟨y,H1,I1,ry,q⟩=>cH (ha aA s1 σ H1 _ I1 q) λov s2 ⟨x,H2,I2,rx,a,C,dx,fs,ex,ea,c,n,l,q2⟩=> ?_) hs
 subst ex
 obtain rfl:ov=Value.ref a:=rx
 exact n6 I2 ea c n l ry λs3 I3=>⟨σ,_,I3,q2⟩
end
section
variable {σ:St}{E:Value->Shared->Prop}{Q:Value->Shared->Prop}{c:Value}{b:Bool}
end
structure eK(k:Nat)(A:Around):Prop where
 hd:A.handled=none
 dp:A.depth+3 * k+5<recursionLimit
 un:A.units+16 * k+200<cLine
 gd:A.guards=some []
theorem eK.mono{j k:Nat}{A:Around}(r:eK k A)(h:j<=k):eK j A:=⟨r.hd,Nat.lt_of_le_of_lt (Nat.add_le_add_right (Nat.add_le_add_left (Nat.mul_le_mul_left 3 h) _) 5) r.dp,Nat.lt_of_le_of_lt (Nat.add_le_add_right (Nat.add_le_add_left (Nat.mul_le_mul_left 16 h) _) 200) r.un,r.gd⟩
theorem lt3{a k b c d m n:Nat}(z:c+d<=m)(h:a+m * (k+1)+b<n):a+c+m * k+b<n:=by
 refine Nat.lt_of_le_of_lt (Nat.add_le_add_right ?_ b) h
 rw[Nat.mul_succ,Nat.add_assoc a,Nat.add_comm c]
 exact Nat.add_le_add_left (Nat.add_le_add_left (Nat.le_trans (Nat.le_add_right _ _) z) _) a
theorem eK.deeper{k:Nat}{A:Around}(r:eK (k+1) A)(env:Env):eK k (A.deeper env):=
 ⟨r.hd,lt3 (d:=0) (by decide) r.dp,lt3 (d:=0) (by decide) r.un,r.gd⟩
theorem zG{A:Around}{C:Addr}{us:List Value}{kw:List (Str×Value)}:(A.under (.builtin "type.__call__" ⟨.ref C::us,kw⟩)).depth=A.depth+1:=by
 first|rfl|simp[Around.under,Code.weight,Code.isCreation,Code.isGuard,Code.isCaller,Code.frames,Code.isFrame,guardIds]
theorem zK{A:Around}{C:Addr}{us:List Value}{kw:List (Str×Value)}:(A.under (.builtin "type.__call__" ⟨.ref C::us,kw⟩)).units=A.units+1:=by
 first|rfl|simp[Around.under,Code.cUnits,Code.frames,Code.isFrame]
theorem xH{A:Around}{C:Addr}{us:List Value}{kw:List (Str×Value)}:(A.under (.builtin "type.__call__" ⟨.ref C::us,kw⟩)).guards=A.guards:=by
 first|rfl|simp[Around.under,Code.guards,Code.isGuard,pushGuards,guardIds]
theorem eK.make{k:Nat}{A:Around}(r:eK (k+1) A)(C:Addr)(us:List Value)(kw:List (Str×Value)):eK k (A.under (.builtin "type.__call__" ⟨.ref C::us,kw⟩)):=
 ⟨r.hd,by have:=r.dp;rw[zG];omega,by have:=r.un;rw[zK];omega,by rw[xH];exact r.gd⟩
theorem eK.depth{k:Nat}{A:Around}(r:eK k A):A.depth<recursionLimit:=by have:=r.dp;omega
theorem eK.units{k:Nat}{A:Around}(r:eK k A):A.units+64<cLine:=by have:=r.un;omega
def cG:TA:= λ_ H Q=>Q [] H
def aP(ta:TE)(tr:TA):TA:= λσ H Q=>ta σ H λx H1=>tr σ H1 λxs H2=>Q (x::xs) H2
section
variable {e:Expr}{t:TA}
theorem aC:PA X [] cG:= λ_ _ _ _ H Q I h=>Calls.spliced_nil ⟨[],H,I,.nil,h⟩
theorem aB(ha:PE X e te)(hr:PA X es t)(hs:starEach (e::es) X.env=(false,eval e X.env)::starEach es X.env:=by rfl):PA X (e::es) (aP te t):=by
 intro pos aA s σ H Q I h
 rw[hs]
 show wpAny _ _ (spliced ((false,eval e X.env)::backTo pos (starEach es X.env))) _ _ s
 refine Calls.spliced_cons (cH (ha aA s σ H _ I h) λu s1 ⟨x,H1,I1,r1,q1⟩=> ?_)
 exact cH (hr pos aA s1 σ H1 _ I1 q1) λus s2 ⟨xs,H2,I2,r2,q2⟩=>⟨x::xs,H2,I2,.cons r1 r2,q2⟩
def vG(t:TA):TE:= λσ H Q=>t σ H λxs H1=>xs.length<=sizeLine/\ ∀p,H1 p=none->Q (.ref p) (aN H1 p (.tup xs))
def uN(t:TA):TE:= λσ H Q=>t σ H λxs H1=>xs.length<=sizeLine/\ ∀p,H1 p=none->Q (.ref p) (aN H1 p (.lst xs))
theorem eE{x1}(h:PA X es t):PE X (.Tuple es x1 pos) (vG t):=by
 intro aA s σ H Q I hq
 refine wpAny_Tuple_spliced (cH (h pos aA s σ H _ I hq) λus s1 ⟨xs,H1,I1,r,z,q⟩=>⟨by rw[<-r.length];exact z,?_⟩)
 have hf:H1 s1.heap.objs.size=none:=I1.hok.fresh (Nat.le_refl _)
 refine⟨.ref s1.heap.objs.size,aN H1 s1.heap.objs.size (.tup xs),I1.laid (t':=s1.toks) (λb u e=>Heap.get?_push_of_some _ e) (Nat.le_refl _) ?_,rfl,q _ hf⟩
 exact⟨z,us,r,⟨_,Heap.get?_push_size _ rfl,rfl,_,rfl⟩⟩
theorem cU(h:PA X es t):PE X (.List es pos) (uN t):=by
 intro aA s σ H Q I hq
 refine wpAny_List_spliced (cH (h pos aA s σ H _ I hq) λus s1 ⟨xs,H1,I1,r,z,q⟩=>⟨by rw[<-r.length];exact z,?_⟩)
 have hf:H1 s1.heap.objs.size=none:=I1.hok.fresh (Nat.le_refl _)
 refine⟨.ref s1.heap.objs.size,aN H1 s1.heap.objs.size (.lst xs),I1.laid (t':=s1.toks) (λb u e=>Heap.get?_push_of_some _ e) (Nat.le_refl _) ?_,rfl,q _ hf⟩
 exact⟨z,us,0,r,Heap.get?_push_size _ rfl⟩
end
abbrev Sp:=List V->Hp->VK->XK->Prop
abbrev yE:=List Env->Hp->Shared->XK->Value->Shared->Prop
structure lH(P:Program)(w:World)(K:W.Frag)(mg:Str->Option Value)(base:Heap)(A:Around)(outer:List Env)(s:Shared)(H:Hp):Prop where
 frames:A.frames=some outer
 mod:Mod K mg base
 bs: ∀b o,base.get? b=some o->s.heap.get? b=some o/\H b=none
 bsz:base.objs.size<=s.heap.objs.size
 funs:s.heap.FunFrames base outer
 frf: ∀b∈frs outer,H b=none
 hok:jG P w H s.heap
 bare:AllBare s.gens
def CE(outer:List Env)(P:Program)(w:World)(H:Hp)(s:Shared)(Q:VK)(u:Value)(s':Shared):Prop:=
 ∃v H',s'.os=s.os/\AllBare s'.gens/\Un (frs outer) [] H H' s.heap s'.heap/\jG P w H' s'.heap/\bA v u/\Q v H'
def CR(CX:yE)(outer:List Env)(P:Program)(w:World)(H:Hp)(s:Shared)(Q:VK)(E:XK)(r:Result)(s':Shared):Prop:=
 match r with
 | .ok (.ret u)=>CE outer P w H s Q u s'
 | .ok _=>False
 | .error e=>CX outer H s E e s'
structure dN(P:Program)(w:World)(K:W.Frag)(mg:Str->Option Value)(base:Heap)(CX:yE)(k:Nat)(f:Addr)(fd:FuncData)(ps:List Str)(sp:Sp):Prop where
 len: ∀vs H Q E,sp vs H Q E->vs.length=ps.length
 run: ∀(A:Around) (outer:List Env) (s:Shared) (H:Hp) (args:Args) (us:List Value) (vs:List V) (Q:VK) (E:XK),eK k A->lH P w K mg base A outer s H->BindsTo s fd args (ps.zip us)->bK vs us->sp vs H Q E->
  codeAny (model P w) A (.call (.ref f) args) (CR CX outer P w H s Q E) s
theorem dN.mono{P:Program}{w:World}{K:W.Frag}{mg:Str->Option Value}{base:Heap}{CX:yE}{j k:Nat}{f:Addr}{fd:FuncData}{ps:List Str}{sp:Sp}(F:dN P w K mg base CX j f fd ps sp)(h:j<=k):
 dN P w K mg base CX k f fd ps sp:=⟨F.len,λA outer s H args us vs Q E hr=>F.run A outer s H args us vs Q E (hr.mono h)⟩
theorem lH.make{P:Program}{w:World}{K:W.Frag}{mg:Str->Option Value}{base:Heap}{A:Around}{outer:List Env}{s:Shared}{H:Hp}(e:lH P w K mg base A outer s H)(C:Addr)(us:List Value)(kw:List (Str×Value)):
 lH P w K mg base (A.under (.builtin "type.__call__" ⟨.ref C::us,kw⟩)) outer s H:=⟨by first|exact e.frames|(simpa [Around.under,Code.envs,Code.isFrame,pushEnvs]using e.frames),e.mod,e.bs,e.bsz,e.funs,e.frf,e.hok,e.bare⟩
section
variable {σ:St}{s':Shared}
theorem aM.env0(I:aM X aA σ H s):lH X.prog X.w X.K X.mg X.base X.A X.stack s H:=
 ⟨I.ok.frames,I.ok.mod,I.bs,Nat.le_trans I.ok.bsz I.sz,I.stack,I.stkFree,I.hok,I.bare⟩
theorem aM.after{Q:VK}{u:Value}(I:aM X aA σ H s)(h:CE X.stack X.prog X.w H s Q u s'):EP X aA σ Q u s':=by
 obtain⟨v,H',os,bare,un,hok,r,q⟩:=h
 obtain⟨hh,g,d,t,os'⟩:=s'
 obtain rfl:os'=s.os:=os
 exact⟨v,H',I.call (h':=hh) (g':=g) (d':=d) (t':=t) (ch:=[]) un hok bare (λb z=>absurd z (by simp)),r,q⟩
end
def iG(sp:Sp)(i6:List V)(E:XK)(t:TA):TE:= λσ H Q=>t σ H λvs H1=>sp (vs++i6) H1 Q E
def zpD(C:Addr)(sp:Sp)(i6:List V)(E:XK)(t:TA):TE:= λσ H Q=>t σ H λvs H1=> ∀x dx,H1 x=none->H1 dx=none->dx≠x->
 sp (.ref x::(vs++i6)) (aN (aN H1 dx (.own x)) x (.ins C dx [])) (λv H2=>v= .non/\Q (.ref x) H2) E
def jW(K:W.Frag)(fd:FuncData)(ps:List Str)(ds:List Value):Prop:=
 ∀(s:Shared) (us:List Value),K.In s.heap->(us++ds).length=ps.length->BindsTo s fd ⟨us,[]⟩ (ps.zip (us++ds))
theorem jW.all{K:W.Frag}{fd:FuncData}{ps:List Str}(h: ∀us:List Value,us.length=ps.length->bindArgs fd ⟨us,[]⟩=pure (ps.zip us)):jW K fd ps []:= λs us _ hl=>by
 rw[List.append_nil]at hl ⊢
 exact .of_eq (h us hl)
def qX(CX:yE)(X:Cx)(E:XK):Prop:= ∀(aA:List (Addr×Obj)) (σ:St) (H:Hp) (s:Shared) (e:Value) (s':Shared),aM X aA σ H s->CX X.stack H s E e s'->X.xe e s'
section
variable {CX:yE}{k:Nat}{f:Addr}{fd:FuncData}{ps:List Str}{sp:Sp}{i6:List V}{ds:List Value}{E:XK}{x m:Str}{rA:Pos}{e o:Expr}{t:TA}
theorem zkA{aA:List (Addr×Obj)}{σ:St}{H:Hp}{s:Shared}{Q:VK}{us:List Value}{vs:List V}(F:dN X.prog X.w X.K X.mg X.base CX k f fd ps sp)(hr:eK k X.A)(hb:jW X.K fd ps ds)(hd:bK i6 ds)(hx:qX CX X E)
 (I:aM X aA σ H s) (r:bK vs us) (h:sp (vs++i6) H Q E):wpAny (model X.prog X.w) X.A (call (.ref f) us) (EP X aA σ Q) X.xe s:=by
 have r2:bK (vs++i6) (us++ds):=r.append hd
 have hl:(us++ds).length=ps.length:=by rw[<-r2.length];exact F.len _ _ _ _ h
 refine wpAny_call (codeAny_mono (F.run X.A X.stack s H ⟨us,[]⟩ (us++ds) (vs++i6) Q E hr I.env0 (hb s us I.kIn hl) r2 h) λr s' hq=> ?_)
 cases r with
 |error e=>exact hx aA σ H s e s' I hq
 |ok fl=>
  cases fl with
  |ret u=>exact I.after hq
  |next=>exact False.elim hq
  |brk=>exact False.elim hq
  |cont=>exact False.elim hq
theorem gA(F:dN X.prog X.w X.K X.mg X.base CX k f fd ps sp)(hr:eK k X.A)(hg:Gl X x)(hm:X.mg x=some (.ref f))(hk:W.keepIn X.K (.ref f)=true)(hb:jW X.K fd ps ds)(hd:bK i6 ds)(hx:qX CX X E)
 (ha:PA X (e::es) t) (hdb:(x==("__debug__" :Str))=false:=by decide) (he:starEach (e::es) X.env=(false,eval e X.env)::starEach es X.env:=by rfl) (mF:(backTo pos (starEach es X.env)).any (·.1)=false:=by rfl):
 PE X (.Call (.Name x p) (e::es) [] pos) (iG sp i6 E t):=by
 intro aA s σ H Q I h
 refine wpAny_Call_Name_kw (vL I hg hm ?_ hdb)
 refine PySem.W.callWith_K (h₀:=X.base) I.ok.mod.kin hk (cH (ha pos aA s σ H _ I h) λus s1 ⟨vs,H1,I1,r,q⟩=>⟨I1.kIn,?_⟩) he mF
 exact zkA F hr hb hd hx I1 r q
structure Mk(K:W.Frag)(C f:Addr):Prop where
 makes:PySem.W.makesIn K C=true
 init:W.findIn K (.ref C) "__init__" =some (some (.ref f))
 fn:W.isFn K (.ref f)=true
 kp:W.keepIn K (.ref C)=true
theorem zfL{aA:List (Addr×Obj)}{σ:St}{H:Hp}{s:Shared}{Q:VK}{us:List Value}{vs:List V}(M:Mk X.K C f)(F:dN X.prog X.w X.K X.mg X.base CX k f fd ps sp)(hr:eK (k+1) X.A)(hb:jW X.K fd ps ds)(hd:bK i6 ds)
 (hx:qX CX X E) (I:aM X aA σ H s) (r:bK vs us)
 (h: ∀x dx,H x=none->H dx=none->dx≠x->sp (.ref x::(vs++i6)) (aN (aN H dx (.own x)) x (.ins C dx [])) (λv H2=>v= .non/\Q (.ref x) H2) E):
 wpAny (model X.prog X.w) X.A (call (.ref C) us) (EP X aA σ Q) X.xe s:=by
 have hq:=h (s.heap.objs.size+1) s.heap.objs.size (I.hok.fresh (Nat.le_succ _)) (I.hok.fresh (Nat.le_refl _)) (Nat.ne_of_lt (Nat.lt_succ_self _))
 have I2:=aM.made (C:=C) I
 have r2:bK (V.ref (s.heap.objs.size+1)::(vs++i6)) (Value.ref (s.heap.objs.size+1)::(us++ds)):= .cons rfl (r.append hd)
 have hl:(Value.ref (s.heap.objs.size+1)::us++ds).length=ps.length:=by
  have e:=r2.length;rw[F.len _ _ _ _ hq]at e;exact e.symm
 refine wpAny_call (zfW (f:=f) I.kIn M.makes M.init (beq_iff_eq.mp M.fn) (codeAny_mono (F.run _ X.stack _ _ ⟨Value.ref (s.heap.objs.size+1)::us,[]⟩ (Value.ref (s.heap.objs.size+1)::(us++ds)) _ _ E (hr.make C us [])
  (I2.env0.make C us []) (hb _ (Value.ref (s.heap.objs.size+1)::us) I2.kIn hl) r2 hq) λr s' hq'=> ?_))
 cases r with
 |error e=>exact hx aA σ _ _ e s' I2 hq'
 |ok fl=>
  cases fl with
  |ret u=>
   obtain⟨v,H',I3,rv,ev,q3⟩:=I2.after hq';subst ev;exact⟨rv,⟨V.ref (s.heap.objs.size+1),H',I3,rfl,q3⟩⟩
  |next=>exact False.elim hq'
  |brk=>exact False.elim hq'
  |cont=>exact False.elim hq'
theorem zhA(M:Mk X.K C f)(F:dN X.prog X.w X.K X.mg X.base CX k f fd ps sp)(hr:eK (k+1) X.A)(hg:Gl X x)(hm:X.mg x=some (.ref C))(hb:jW X.K fd ps ds)(hd:bK i6 ds)(hx:qX CX X E)
 (ha:PA X (e::es) t) (hdb:(x==("__debug__" :Str))=false:=by decide) (he:starEach (e::es) X.env=(false,eval e X.env)::starEach es X.env:=by rfl) (mF:(backTo pos (starEach es X.env)).any (·.1)=false:=by rfl):
 PE X (.Call (.Name x p) (e::es) [] pos) (zpD C sp i6 E t):=by
 intro aA s σ H Q I h
 refine wpAny_Call_Name_kw (vL I hg hm ?_ hdb)
 refine PySem.W.callWith_K (h₀:=X.base) I.ok.mod.kin M.kp (cH (ha pos aA s σ H _ I h) λus s1 ⟨vs,H1,I1,r,q⟩=>⟨I1.kIn,?_⟩) he mF
 exact zfL M F hr hb hd hx I1 r q
end
section
variable {CX:yE}{k:Nat}{f:Addr}{fd:FuncData}{ps ks:List Str}{sp:Sp}{E:XK}{x m:Str}{rA zxE:Pos}{e o:Expr}{kws:List Keyword}{t tk:TA}{nm:Option Str}
variable {g:List Value->List Value->List Value}{gV:List V->List V->List V}
end
structure bS(N P:List Str)(sc:Scope):Prop where
 kind:sc.kind= .function
 co:sc.isCoroutine=false
 gen:sc.isGenerator=false
 nd:N.Nodup
 pre:N.take P.length=P
 par: ∀x∈P,sc.names.lookup x=some .local\/sc.names.lookup x=some .cell
 nofree: ∀y∈sc.names,y.2≠ .free
theorem bS.of{N P:List Str}{sc:Scope}(a:sc.kind= .function)(b:sc.isCoroutine=false)(c:sc.isGenerator=false)(d:N.take P.length=P)(h:N.Nodup ∧ (∀x∈P,sc.names.lookup x=some .local ∨ sc.names.lookup x=some .cell) ∧ ∀y∈sc.names,y.2≠ .free):bS N P sc:=⟨a,b,c,h.1,d,h.2.1,h.2.2⟩
theorem tQ{kindOf:Str->Option NameKind}{x:Str}: ∀{binds:List (Str×Value)} {m:Str->Option Value},(∀v,(x,v)∉binds)->bindL kindOf binds m x=m x
 | [],_,_=>rfl
 |(n,v)::r,m,h=>by
  unfold bindL;rw[tQ λw hw=>h w (List.mem_cons_of_mem _ hw)]
  split
  . have:x≠n:=by rintro rfl;exact h v List.mem_cons_self
    simp[this]
  . rfl
theorem nS{kindOf:Str->Option NameKind}{x:Str}: ∀{binds:List (Str×Value)} {m:Str->Option Value},(∀v,(x,v)∉binds)->bindC kindOf binds m x=m x
 | [],_,_=>rfl
 |(n,v)::r,m,h=>by
  unfold bindC;rw[nS λw hw=>h w (List.mem_cons_of_mem _ hw)]
  split
  . rfl
  . have:x≠n:=by rintro rfl;exact h v List.mem_cons_self
    simp[this]
theorem nX{kindOf:Str->Option NameKind}{x:Str}{v:Value}: ∀{P:List Str} {vs:List Value} {i:Nat} {m:Str->Option Value},P.Nodup->P[i]?=some x->vs[i]?=some v->kindOf x=some .local->
 bindL kindOf (P.zip vs) m x=some v
 | [],_,_,_,_,h,_,_=>by simp at h
 |_::_,[],_,_,_,_,h,_=>by simp at h
 |p::P,w::vs,0,m,nd,h1,h2,hk=>by
  simp at h1 h2;subst h1;subst h2;show bindL kindOf ((p,w)::P.zip vs) m p=_;unfold bindL;rw[tQ λv hv=>(List.nodup_cons.mp nd).1 (List.of_mem_zip hv).1,if_pos hk];simp
 |p::P,w::vs,i+1,m,nd,h1,h2,hk=>by
  show bindL kindOf ((p,w)::P.zip vs) m x=_
  unfold bindL;exact nX (i:=i) (List.nodup_cons.mp nd).2 (by simpa using h1) (by simpa using h2) hk
theorem nW{kindOf:Str->Option NameKind}{x:Str}{v:Value}: ∀{P:List Str} {vs:List Value} {i:Nat} {m:Str->Option Value},P.Nodup->P[i]?=some x->vs[i]?=some v->kindOf x≠some .local->
 bindC kindOf (P.zip vs) m x=some v
 | [],_,_,_,_,h,_,_=>by simp at h
 |_::_,[],_,_,_,_,h,_=>by simp at h
 |p::P,w::vs,0,m,nd,h1,h2,hk=>by
  simp at h1 h2;subst h1;subst h2;show bindC kindOf ((p,w)::P.zip vs) m p=_;unfold bindC;rw[nS λv hv=>(List.nodup_cons.mp nd).1 (List.of_mem_zip hv).1,if_neg hk];simp
 |p::P,w::vs,i+1,m,nd,h1,h2,hk=>by
  show bindC kindOf ((p,w)::P.zip vs) m x=_
  unfold bindC;exact nW (i:=i) (List.nodup_cons.mp nd).2 (by simpa using h1) (by simpa using h2) hk
def start(N:List Str)(vs:List V):St:=vs.map some++List.replicate (N.length - vs.length) none
def eV(CX:yE)(P:Program)(w:World)(K:W.Frag)(mg:Str->Option Value)(base:Heap)(N:List Str)(qual:Str)(scope:Scope)(f:Addr)(cd:Value)(A:Around)(outer:List Env)(s:Shared)(H:Hp)(E:XK):Cx where
 prog:=P
 w:=w
 K:=K
 mg:=mg
 base:=base
 A:=A.deeper (envOfC qual scope s.heap.objs.size f cd)
 N:=N
 s₀:=s
 H₀:=H
 env:=envOfC qual scope s.heap.objs.size f cd
 outer:=outer
 stack:=envOfC qual scope s.heap.objs.size f cd::outer
 ex:=[]
 calm:=true
 fn:= λ_=>true
 pn:=[]
 xe:= λe s'=>wpAny (model P w) (A.deeper (envOfC qual scope s.heap.objs.size f cd)) (leaving (envOfC qual scope s.heap.objs.size f cd) e) (λ_ s''=>CX outer H s E e s'') (λe' s''=>CX outer H s E e' s'') s'
theorem xJ{sc:Scope}{n:Nat}{x:Str}(h:sc.names.lookup x=some .cell): ∃c,(cellsFrom n sc.names []).lookup x=some c:=by
 have q:=PySem.W.cellsFrom_some sc.names n [] (.inl h)
 exact Option.isSome_iff_exists.mp q
theorem zbL{CX:yE}{P:Program}{w:World}{K:W.Frag}{mg:Str->Option Value}{base:Heap}{N ps:List Str}{qual:Str}{scope:Scope}{f:Addr}{cd:Value}{A:Around}{outer:List Env}{s s1:Shared}{H:Hp}{E:XK}{us:List Value}{vs:List V}
 (S:bS N ps scope) (hd:A.handled=none) (e0:lH P w K mg base A outer s H) (hl:vs.length=ps.length) (r:bK vs us)
 (x:InCallC s s.heap.objs.size (bindL (envOfC qual scope s.heap.objs.size f cd).kindOf (ps.zip us) λ_=>none) (cellsFrom (s.heap.objs.size+1) scope.names []) (bindC (envOfC qual scope s.heap.objs.size f cd).kindOf (ps.zip us) λ_=>none) s1):
 aM (eV CX P w K mg base N qual scope f cd A outer s H E) [] (start N vs) H s1:=by
 have mF:ps.length<=N.length:=by have:=congrArg List.length S.pre;rw[List.length_take]at this;omega
 obtain⟨h1,tk,rfl,hk⟩:=x.done
 have noA: ∀b:Addr,b∉(eV CX P w K mg base N qual scope f cd A outer s H E).ex:= λb z=>absurd (show b∈([]:List Addr)from z) (by simp)
 refine⟨⟨e0.mod,S.kind,rfl,rfl,Nat.le_refl _,λy z c h1 h2=> ?_,λy hy=> ?_,λy c _ h=> ?_,λ_=>hd,Around.frames_deeper e0.frames,.inr ⟨rfl,rfl⟩,λb z=>absurd z (noA b),e0.bs,e0.bsz,λb _ _=>noA b,λb z=>absurd z (noA b),e0.funs,e0.frf⟩,
  rfl,e0.bare,Un.kept hk,⟨_,x.toInCall.ns,λi y v h1 h2 h3=> ?_⟩,λy c h=>⟨_,x.cell y c h⟩,e0.hok.fresh (Nat.le_refl _),λy c h=> ?_,λp hp=>absurd (show p∈([]:List (Addr×Obj))from hp) (by simp),e0.hok.kept hk,?_⟩
 . exact name_of_addr x.apart (PySem.mem_of_lookup h1) (PySem.mem_of_lookup h2)
 . have hy:scope.names.lookup y=some .cell\/scope.names.lookup y=some .free:=hy
   rcases hy with hy|hy
   . exact xJ hy
   . exact absurd rfl (S.nofree _ (PySem.mem_of_lookup hy))
 . exact Nat.le_of_lt (x.above y c (PySem.mem_of_lookup h))
 . have hi:i<vs.length:=by
    unfold start at h2
    by_cases hi:i<vs.length
    . exact hi
    . rw[List.getElem?_append_right (by simpa using hi)]at h2;rw[List.getElem?_replicate]at h2
      split at h2<;>cases h2
   have ha:vs[i]?=some v:=by
    unfold start at h2;rw[List.getElem?_append_left (by simpa using hi),List.getElem?_map]at h2;cases e:vs[i]? with
    |none=>rw[e]at h2;cases h2
    |some a=>rw[e]at h2;cases h2;rfl
   obtain⟨u,hu,rv⟩:=r.get ha;have hp:ps[i]?=some y:=by
    rw[<-S.pre,List.getElem?_take_of_lt (by omega)];exact h1
   have ndP:ps.Nodup:=by rw[<-S.pre];exact S.nd.sublist (List.take_sublist _ _)
   refine⟨u,rv,?_⟩
   rcases S.par y (List.mem_of_getElem? hp)with k|k
   . exact .inl ⟨k,nX ndP hp hu k⟩
   . obtain⟨c,e⟩:=xJ (n:=s.heap.objs.size+1) k;refine .inr ⟨.inl k,c,e,?_⟩;have q:=x.cell y c e;rw[nW ndP hp hu (by show scope.names.lookup y≠_;rw[k];decide)]at q;exact q
 . exact e0.hok.fresh (Nat.le_of_lt (x.above y c (PySem.mem_of_lookup h)))
 . unfold start;show _=N.length;rw[List.length_append,bH,List.length_replicate];omega
theorem zje{CX:yE}{P:Program}{w:World}{K:W.Frag}{mg:Str->Option Value}{base:Heap}{k:Nat}{f:Addr}{name qual:Str}{params:Arguments}{body:List Stmt}{scope:Scope}{dV kV lA pm eQ ct oc:Value}{an od:Option Addr}
 {osl:Array (Option Value)} {N ps:List Str} {sp:Sp} (lk:K.lookup f=some ⟨oc,od,.func (PySem.W.fnOf name qual params body scope dV kV lA pm an eQ ct),osl⟩) (pF:PySem.W.codeIn K eQ qual=true) (S:bS N ps scope)
 (len: ∀vs H Q E,sp vs H Q E->vs.length=ps.length)
 (mY: ∀(A:Around) (outer:List Env) (s:Shared) (H:Hp) (vs:List V) (Q:VK) (E:XK),eK k (A.deeper (envOfC qual scope s.heap.objs.size f eQ))->sp vs H Q E->
  ∃t,xQ (eV CX P w K mg base N qual scope f eQ A outer s H E) body t/\t {nx:= λ_ H'=>Q .non H',rt:=Q} (start N vs) H):
 dN P w K mg base CX (k+1) f (PySem.W.fnOf name qual params body scope dV kV lA pm an eQ ct) ps sp:=by
 refine⟨len,λA outer s H args us vs Q E hr e0 hb r wW=> ?_⟩
 have hl:=len _ _ _ _ wW
 have KX:K.In s.heap:=e0.mod.kin.keeps λb o e=>(e0.bs b o e).1
 have lim:s.heap.NoLimit:=e0.mod.nolimit.keeps λb o e=>(e0.bs b o e).1
 have mW: ∀y∈ps.zip us,scope.names.lookup y.1=some .local\/(scope.names.lookup y.1=some .cell/\((cellsFrom (s.heap.objs.size+1) scope.names []).lookup y.1).isSome=true):= λ⟨n,v⟩ hy=>by
  rcases S.par n (List.of_mem_zip hy).1 with q|q
  . exact .inl q
  . exact .inr ⟨q,PySem.W.cellsFrom_some _ _ _ (.inl q)⟩
 refine codeAny_call_function hr.depth (KX _ _ lk) rfl S.co S.gen rfl (PySem.W.codeRec_of KX pF) (hb _ _ _ _ ?_)
 refine wpAny_newFunctionEnv_cells S.kind mW λenv he s1 x=> ?_
 subst he
 refine⟨lim.keeps x.toInCall.keep,codeAny_func ?_⟩
 obtain⟨t,ht,hq⟩:=mY A outer s H vs Q E (hr.deeper _) wW
 have I:aM (eV CX P w K mg base N qual scope f eQ A outer s H E) [] (start N vs) H s1:=zbL S hr.hd e0 hl r x
 refine wpAny_mono (ht [] s1 (start N vs) H _ I hq) (λfl s' hs=> ?_) λe s' hs=>hs
 have fN: ∀{σ':St} {H':Hp} {v:V} {u:Value},aM (eV CX P w K mg base N qual scope f eQ A outer s H E) [] σ' H' s'->bA v u->Q v H'->CE outer P w H s Q u s':=
  λ{σ' H' v u} J rv q=>⟨v,H',J.os,J.bare,J.base,J.hok,rv,q⟩
 cases fl with
 |ret u=>
  obtain⟨v,σ',H',J,rv,q⟩:=hs;exact fN J rv q
 |next=>
  obtain⟨σ',H',J,q⟩:=hs;exact fN (v:=V.non) (u:=Value.none) J rfl q
 |brk=>
  obtain⟨_,_,_,q⟩:=hs;exact False.elim q
 |cont=>
  obtain⟨_,_,_,q⟩:=hs;exact False.elim q
section
variable {x:Str}{e:Expr}{t:TA}{id T:String}{r:List V->Hp->VK->Prop}
def uY(r:List V->Hp->VK->Prop)(t:TA):TE:= λσ H Q=>t σ H λvs H1=>r vs H1 Q
theorem aW(hc:fK X (.builtin id) r)(hg:Gl X x)(hm:X.mg x=none)(hv:bootBuiltins x=some (.builtin id))(ha:PA X (e::es) t)(hn:x≠ "__name__" :=by decide)(hdb:(x==("__debug__" :Str))=false:=by decide)
 (he:starEach (e::es) X.env=(false,eval e X.env)::starEach es X.env:=by rfl) (mF:(backTo pos (starEach es X.env)).any (·.1)=false:=by rfl):PE X (.Call (.Name x p) (e::es) [] pos) (uY r t):=by
 intro aA s σ H Q I h
 refine wpAny_Call_Name_kw (iV I hg hm hv ?_ hn hdb)
 exact PyProof.Rows.callWith_builtin1 (cH (ha pos aA s σ H _ I h) λus s1 ⟨vs,H1,I1,r1,q1⟩=>hc aA s1 σ H1 vs us Q I1 r1 q1) he mF
theorem dY(hc:fK X (.type T) r)(hg:Gl X x)(hm:X.mg x=none)(hv:bootBuiltins x=some (.type T))(ha:PA X (e::es) t)(hn:x≠ "__name__" :=by decide)(hdb:(x==("__debug__" :Str))=false:=by decide)
 (he:starEach (e::es) X.env=(false,eval e X.env)::starEach es X.env:=by rfl) (mF:(backTo pos (starEach es X.env)).any (·.1)=false:=by rfl):PE X (.Call (.Name x p) (e::es) [] pos) (uY r t):=by
 intro aA s σ H Q I h
 refine wpAny_Call_Name_kw (iV I hg hm hv ?_ hn hdb)
 exact PyProof.Rows.callWith_type1 (cH (ha pos aA s σ H _ I h) λus s1 ⟨vs,H1,I1,r1,q1⟩=>hc aA s1 σ H1 vs us Q I1 r1 q1) he mF
theorem j5(hc:fK X (.type T) r)(hg:Gl X x)(hm:X.mg x=none)(hv:bootBuiltins x=some (.type T))(hn:x≠ "__name__" :=by decide)(hdb:(x==("__debug__" :Str))=false:=by decide):
 PE X (.Call (.Name x p) [] [] pos) (uY r cG):=by
 intro aA s σ H Q I h
 refine wpAny_Call_Name_kw (iV I hg hm hv ?_ hn hdb)
 exact PyProof.Rows.callWith_type0 (hc aA s σ H [] [] Q I .nil h)
end
end L2
namespace HT
open PySem PyProof.Rows
section
open PySem.SeqAt
open PySem.AutoSeq1 (wpAny_loadPart')
open PySem.MeetsSeq PySem.MeetsSeq2 PySem.MeetsSeq3
end
section
variable {prog:Program}{w:World}{A:Around}{E:Value->Shared->Prop}{s:Shared}
end
end HT
namespace L2
open PySem PySem.Spec PyProof.Rows
variable {X:Cx}
abbrev TO:=St->Hp->(Option Int->Hp->Prop)->Prop
def PO(X:Cx)(e:Option Expr)(t:TO):Prop:=
 ∀(aA:List (Addr×Obj)) (s:Shared) (σ:St) (H:Hp) (Q:Option Int->Hp->Prop),aM X aA σ H s->t σ H Q->
  wpAny (model X.prog X.w) X.A (evalPart e X.env) (λu s'=> ∃o H',aM X aA σ H' s'/\IsPart u o/\Q o H') X.xe s
def uK:TO:= λ_ H Q=>Q none H
def zfH(t:TE):TO:= λσ H Q=>t σ H λx H1=> ∃i,x= .int i/\Q (some i) H1
theorem zM{ns:List Int}: ∀{us:List Value},bK (ns.map V.int) us->IntsAre us ns:=by
 induction ns with
 |nil=>intro us r;rw[List.map_nil]at r;cases r;exact .nil
 |cons n ns ih=>
  intro us r;rw[List.map_cons]at r;cases r with
  |cons r1 r2=>
   obtain⟨t,e⟩:=r1;subst e;exact .cons n t (ih r2)
section
variable {e:Expr}{te:TE}{lo hi:Option Expr}{tl th:TO}{pos p2:Pos}
theorem uQ:PO X none uK:=by
 intro aA s σ H Q I h
 rw[evalPart_none]
 exact wpAny_pure ⟨none,H,I,.none,h⟩
theorem uH(h:PE X e te):PO X (some e) (zfH te):=by
 intro aA s σ H Q I hw
 rw[evalPart_some]
 refine cH (h aA s σ H _ I hw) λu s1 ⟨x,H1,I1,r1,q1⟩=> ?_
 obtain⟨i,rfl,q⟩:=q1
 obtain⟨t,rfl⟩:=r1
 exact⟨some i,H1,I1,.int i t,q⟩
def SlR(X:Cx)(r:V->Option Int->Option Int->Hp->VK->Prop):Prop:=
 ∀(aA:List (Addr×Obj)) (s:Shared) (σ:St) (H:Hp) (x:V) (v vl vu:Value) (lo hi:Option Int) (sl:Addr) (Q:VK),aM X aA σ H s->bA x v->s.heap.IsSliceOf sl vl vu .none->IsPart vl lo->IsPart vu hi->r x lo hi H Q->
  ∃T id,typeLookup (.type T) "__getitem__" =pure (some (.builtin id))/\s.TypeIs v T/\wpAny (model X.prog X.w) X.A (getItem v (.ref sl)) (EP X aA σ Q) X.xe s
def tSl(r:V->Option Int->Option Int->Hp->VK->Prop)(te:TE)(tl th:TO):TE:= λσ H Q=>te σ H λx H1=>tl σ H1 λl H2=>th σ H2 λu H3=>r x l u H3 Q
theorem qZ{r:V->Option Int->Option Int->Hp->VK->Prop}(hr:SlR X r)(he:PE X e te)(hl:PO X lo tl)(hu:PO X hi th):PE X (.Subscript e (.Slice lo hi none p2) pos) (tSl r te tl th):=by
 intro aA s σ H Q I h
 refine Subscript_ (cH (he aA s σ H _ I h) λv s1 ⟨x,H1,I1,r1,q1⟩=> ?_)
 refine wpAny_Slice (cH (hl aA s1 σ H1 _ I1 q1) λvl s2 ⟨l,H2,I2,pl,q2⟩=>cH (hu aA s2 σ H2 _ I2 q2) λvu s3 ⟨u,H3,I3,pu,q3⟩=> ?_)
 rw[evalPart_none]
 refine wpAny_pure ?_
 have I4:aM X aA σ H3 {s3 with heap:=s3.heap.push {cls:= .type "slice",data:= .fields #[vl,vu,.none]}}:=I3.kept (t':=s3.toks) λb ob q=>Heap.get?_push_of_some _ q
 obtain⟨T,id,hT,ht,hg⟩:=hr aA {s3 with heap:=s3.heap.push {cls:= .type "slice",data:= .fields #[vl,vu,.none]}} σ H3 x v vl vu l u s3.heap.objs.size Q I4 r1 (Heap.IsSliceOf.new ..) pl pu q3
 show wpAny (model X.prog X.w) X.A (subscriptTail e (.Slice lo hi none p2) v (.ref s3.heap.objs.size)) (EP X aA σ Q) X.xe {s3 with heap:=s3.heap.push {cls:= .type "slice",data:= .fields #[vl,vu,.none]}}
 exact tail_any (ops:=[.ref s3.heap.objs.size,v]) ht hT hg (by with_unfolding_all rfl)
end
def ixN(n:Nat)(i:Int):Option Nat:=if 0<=i then(if i<n then some i.toNat else none)else if -(n:Int)<=i then some (i+n).toNat else none
def uX{α:Type}(xs:List α)(i:Int):Option α:=(ixN xs.length i).bind λj=>xs[j]?
theorem zbm{n:Nat}{i:Int}{j:Nat}(h:ixN n i=some j):seqIndex? i n=some j/\j<n/\ -(n:Int)<=i/\i<n:=by
 unfold ixN at h
 by_cases h0:0<=i
 . rw[if_pos h0]at h
   by_cases h1:i<n
   . rw[if_pos h1]at h;have e:i.toNat=j:=Option.some.inj h;exact⟨by rw[seqIndex_of h0 h1,e],by omega,by omega,h1⟩
   . rw[if_neg h1]at h;cases h
 . rw[if_neg h0]at h
   by_cases h1: -(n:Int)<=i
   . rw[if_pos h1]at h;have e:(i+n).toNat=j:=Option.some.inj h;exact⟨by rw[seqIndex_neg (by omega) h1,e],by omega,h1,by omega⟩
   . rw[if_neg h1]at h;cases h
theorem pI{α:Type}{xs:List α}{i:Int}{v:α}(h:uX xs i=some v): ∃j,seqIndex? i xs.length=some j/\xs[j]?=some v/\j<xs.length/\ -(xs.length:Int)<=i/\i<xs.length:=by
 unfold uX at h
 cases e:ixN xs.length i with
 |none=>rw[e]at h;cases h
 |some j=>
  rw[e]at h;obtain⟨h1,h2,h3,h4⟩:=zbm e;exact⟨j,h1,h,h2,h3,h4⟩
theorem cN{α:Type}{xs:List α}{j:Nat}{v:α}(h:xs[j]?=some v):uX xs (j:Int)=some v:=by
 have hj:j<xs.length:=(List.getElem?_eq_some_iff.mp h).1
 have e:ixN xs.length (j:Int)=some j:=by
  unfold ixN;rw[if_pos (by omega),if_pos (by omega)];simp
 unfold uX;rw[e];exact h
def zhC(b:Expr):Prop:= ∀o i,subscripted b false o i=operate [o,i] (getItem o i)
def IxR(X:Cx)(r:R2):Prop:=
 ∀(value slice:Expr) (aA:List (Addr×Obj)) (s:Shared) (σ:St) (H:Hp) (x y:V) (v u:Value) (Q:VK),aM X aA σ H s->bA x v->bA y u->r x y H Q->
  subscripted slice false v u=operate [v,u] (getItem v u)->wpAny (model X.prog X.w) X.A (subscriptTail value slice v u) (EP X aA σ Q) X.xe s
def MtR(X:Cx)(id:String)(r:V->List V->Hp->VK->Prop):Prop:=
 ∀(aA:List (Addr×Obj)) (s:Shared) (σ:St) (H:Hp) (x:V) (xs:List V) (v:Value) (us:List Value) (Q:VK),aM X aA σ H s->bA x v->bK xs us->r x xs H Q->
  wpAny (model X.prog X.w) X.A (call (.builtin id) (v::us)) (EP X aA σ Q) X.xe s
section
variable {a b:Expr}{ta tb:TE}{pos:Pos}
theorem bV{r:R2}(hr:IxR X r)(ha:PE X a ta)(hb:PE X b tb)(hs:zhC b):PE X (.Subscript a b pos) (eR r ta tb):=by
 intro aA s σ H Q I h
 exact Subscript_ (zjK ha hb I h λv u s2 x y H2 I2 rx ry q=>hr a b aA s2 σ H2 x y v u Q I2 rx ry q (hs _ _))
def jM(K:W.Frag):R2:= λx y H Q=> ∃p xs i v,x= .ref p/\y= .int i/\aY K H p xs/\uX xs i=some v/\Q v H
def zeP(K:W.Frag):R2:= λx y H Q=> ∃p xs i v,x= .ref p/\y= .int i/\fR K H p xs/\uX xs i=some v/\Q v H
def zkm:R2:= λx y H Q=> ∃z i c,x= .str z/\y= .int i/\z.length<=sizeLine/\uX z.cps.toList i=some c/\Q (.str ⟨#[c]⟩) H
theorem bO:IxR X (jM X.K):=by
 intro value slice aA s σ H x y v u Q I rx ry h hs
 obtain⟨p,xs,i,z,rfl,rfl,hq,he,q⟩:=h
 cases rx
 obtain⟨t,rfl⟩:=ry
 obtain⟨bC,r,pl,hz⟩:=I.list hq
 obtain⟨j,h1,h2,h3,h4,h5⟩:=pI he
 obtain⟨w,ew,xD⟩:=r.get h2
 have hl:=r.length
 have hn:=kQ
 have fN:EP X aA σ Q w s:=⟨z,H,I,xD,q⟩
 by_cases h0:0<=i
 . have hj:i.toNat=j:=by
    rw[seqIndex_of h0 h5]at h1;exact Option.some.inj h1
   exact item_listR pl.isList h0 (by omega) (by rw[hj];simpa using ew) fN hs
 . have hj:(i+(bC.toArray.size:Int)).toNat=j:=by
    rw[seqIndex_neg (by omega) h4]at h1;rw[List.size_toArray,<-hl];exact Option.some.inj h1
   exact subscriptTail_builtinR (x:=w) pl.isList.typeIs slot_list_getitem.lookup
    (wpAny_getItem_list_neg (Q:= λr s'=>r=w/\EP X aA σ Q r s') pl.isList (by omega) (by rw[List.size_toArray]<;>omega) (by omega) (by rw[hj];simpa using ew) ⟨rfl,fN⟩) hs
theorem gL:IxR X (zeP X.K):=by
 intro value slice aA s σ H x y v u Q I rx ry h hs
 obtain⟨p,xs,i,z,rfl,rfl,hq,he,q⟩:=h
 cases rx
 obtain⟨t,rfl⟩:=ry
 obtain⟨bC,r,pl,hz⟩:=I.tuple hq
 obtain⟨j,h1,h2,h3,h4,h5⟩:=pI he
 obtain⟨w,ew,xD⟩:=r.get h2
 have hl:=r.length
 have hn:=kQ
 have fN:EP X aA σ Q w s:=⟨z,H,I,xD,q⟩
 exact subscriptTail_builtinR (x:=w) pl.typeIs slot_tuple_getitem.lookup
  (getItem_tuple (j:=j) (Q:= λr s'=>r=w/\EP X aA σ Q r s') pl (by omega) (by omega) (by rw[List.size_toArray,<-hl];exact h1) (by simpa using ew) ⟨rfl,fN⟩) hs
theorem zah:IxR X zkm:=by
 intro value slice aA s σ H x y v u Q I rx ry h hs
 obtain⟨z,i,c,rfl,rfl,hz,he,q⟩:=h
 obtain⟨t,rfl⟩:=rx
 obtain⟨t',rfl⟩:=ry
 obtain⟨j,h1,h2,h3,h4,h5⟩:=pI he
 have hl:z.cps.toList.length=z.length:=by simp[Str.length]
 rw[hl]at h1 h4 h5
 have hn:=kQ
 exact tail_any (typeIs_str s z t) slot_str_getitem.lookup (getItem_str (c:=c) (by
  have e1:decide (i< -(2^63:Int))=false:=decide_eq_false (by omega);have e2:decide (i ≥ 2^63)=false:=decide_eq_false (by omega);rw[e1,e2,Bool.or_false]) (by rw[h1];simpa using h2) ⟨.str ⟨#[c]⟩,H,I.tok _,⟨_,rfl⟩,q⟩) hs
theorem j9(bC:List Value)(n j:Nat)(u:Value):Obj.mapSeq (·.setIfInBounds j u) {cls:= .type "list",data:= .seq bC.toArray n}={cls:= .type "list",data:= .seq (bC.set j u).toArray n}:=by
 simp[Obj.mapSeq]
theorem aM.lst{aA:List (Addr×Obj)}{σ:St}{H:Hp}{s:Shared}{p:Addr}{xs:List V}(I:aM X aA σ H s)(h:H p=some (.lst xs)):
 ∃(bC:List Value) (n:Nat),bK xs bC/\s.heap.get? p=some {cls:= .type "list",data:= .seq bC.toArray n}/\xs.length<=sizeLine:=by
 obtain⟨z,bC,n,r,e⟩:=I.hok p _ h
 exact⟨bC,n,r,e,z⟩
theorem aM.lstUpd{aA:List (Addr×Obj)}{σ:St}{H:Hp}{s:Shared}{p:Addr}{xs ys:List V}{bC its':List Value}{n n':Nat}{f:Obj->Obj}(I:aM X aA σ H s)(h:H p=some (.lst xs))
 (ho:s.heap.get? p=some {cls:= .type "list",data:= .seq bC.toArray n}) (hf:f {cls:= .type "list",data:= .seq bC.toArray n}={cls:= .type "list",data:= .seq its'.toArray n'}) (r:bK ys its') (hz:ys.length<=sizeLine) (t:Nat):
 aM X aA σ (aN H p (.lst ys)) {s with heap:=s.heap.update p f,toks:=t}:=by
 have e:(s.heap.update p f).get? p=some {cls:= .type "list",data:= .seq its'.toArray n'}:=by
  rw[Heap.get?_update_self f ho (by rw[hf]<;>rfl),hf]
 refine I.write (x:=p) (e:=p) (by rw[h];trivial) (.inl rfl) (λb u hb q=>(Heap.get?_update_other _ _ (Ne.symm hb)).trans q) ⟨_,e⟩ ?_
 exact⟨hz,its',n',r,e⟩
def zpB:V->V->V->Hp->(Hp->Prop)->Prop:= λo i v H Q=> ∃p xs k j,o= .ref p/\i= .int k/\H p=some (.lst xs)/\ixN xs.length k=some j/\Q (aN H p (.lst (xs.set j v)))
theorem pV:znF X zpB:=by
 intro aA s σ H o i v ov iv u Q I ro ri rv h
 obtain⟨p,xs,k,j,rfl,rfl,hp,hj,q⟩:=h
 cases ro
 obtain⟨t,rfl⟩:=ri
 obtain⟨bC,n,r,ho,hz⟩:=I.lst hp
 obtain⟨h1,h2,h3,h4⟩:=zbm hj
 have hl:=r.length
 have hn:=kQ
 have I':aM X aA σ (aN H p (.lst (xs.set j v))) {s with heap:=s.heap.update p (Obj.mapSeq (·.setIfInBounds j u))}:=
  I.lstUpd hp ho (j9 bC n j u) (r.set rv j) (by rw[List.length_set];exact hz) s.toks
 by_cases h0:0<=k
 . have hk:k.toNat=j:=by
    rw[seqIndex_of h0 h4]at h1;exact Option.some.inj h1
   exact PySem.W.ki_setAt ho h0 (by omega) (by rw[List.size_toArray,<-hl];exact h4) (by rw[hk];exact⟨_,I',q⟩)
 . have hk:(k+(bC.toArray.size:Int)).toNat=j:=by
    rw[seqIndex_neg (by omega) h3]at h1;rw[List.size_toArray,<-hl];exact Option.some.inj h1
   exact PySem.W.ki_setBack ho (by omega) (by rw[List.size_toArray,<-hl];exact h3) (by omega) (by rw[hk];exact⟨_,I',q⟩)
def lL:V->Bool
 | .non=>true
 | .bl _=>true
 | .int _=>true
 | .str _=>true
 |_=>false
def eqV:V->V->Bool
 | .non,.non=>true
 | .bl a,.bl b=>a==b
 | .bl a,.int b=>(if a then 1 else 0)==b
 | .int a,.bl b=>a==(if b then 1 else 0)
 | .int a,.int b=>a==b
 | .str a,.str b=>a==b
 |_,_=>false
theorem zdK{A:Around}{s:Shared}{y x:V}{u v:Value}(ry:bA y u)(rx:bA x v)(fy:lL y=true)(fx:lL x=true):SeqAt.EqAt A s u v (eqV y x):=by
 cases y with
 |non=>
  cases ry;cases x with
  |non=>cases rx;exact SeqAt.EqAt.same _
  |bl b=>cases rx;exact SeqAt.EqAt.none_bool b
  |int b=>obtain⟨t,rfl⟩:=rx;exact SeqAt.EqAt.none_int b t
  |str b=>obtain⟨t,rfl⟩:=rx;exact SeqAt.EqAt.none_str b t
  |_=>exact absurd (show false=true from fx) Bool.false_ne_true
 |bl a=>
  cases ry;cases x with
  |non=>cases rx;exact SeqAt.EqAt.bool_none a
  |bl b=>cases rx;exact SeqAt.EqAt.bool_bool a b
  |int b=>obtain⟨t,rfl⟩:=rx;exact SeqAt.EqAt.bool_int a b t
  |str b=>obtain⟨t,rfl⟩:=rx;exact SeqAt.EqAt.bool_str a b t
  |_=>exact absurd (show false=true from fx) Bool.false_ne_true
 |int a=>
  obtain⟨t',rfl⟩:=ry;cases x with
  |non=>cases rx;exact SeqAt.EqAt.int_none a t'
  |bl b=>cases rx;exact SeqAt.EqAt.int_bool a t' b
  |int b=>obtain⟨t,rfl⟩:=rx;exact SeqAt.EqAt.int_int a t' b t
  |str b=>obtain⟨t,rfl⟩:=rx;exact SeqAt.EqAt.int_str a t' b t
  |_=>exact absurd (show false=true from fx) Bool.false_ne_true
 |str a=>
  obtain⟨t',rfl⟩:=ry;cases x with
  |non=>cases rx;exact SeqAt.EqAt.str_none a t'
  |bl b=>cases rx;exact SeqAt.EqAt.str_bool a t' b
  |int b=>obtain⟨t,rfl⟩:=rx;exact SeqAt.EqAt.str_int a t' b t
  |str b=>obtain⟨t,rfl⟩:=rx;exact SeqAt.EqAt.str_str a t' b t
  |_=>exact absurd (show false=true from fx) Bool.false_ne_true
 |_=>exact absurd (show false=true from fy) Bool.false_ne_true
def o5(x:V)(u:Value):Bool:=match u with
 | .none=>eqV .non x
 | .bool b=>eqV (.bl b) x
 | .int i _=>eqV (.int i) x
 | .str z _=>eqV (.str z) x
 |_=>false
theorem zdi{x y:V}{u:Value}(r:bA y u)(f:lL y=true):o5 x u=eqV y x:=by
 cases y with
 |non=>cases r;rfl
 |bl b=>cases r;rfl
 |int i=>obtain⟨t,rfl⟩:=r;rfl
 |str z=>obtain⟨t,rfl⟩:=r;rfl
 |_=>exact absurd (show false=true from f) Bool.false_ne_true
theorem mO{x:V}: ∀{xs:List V} {us:List Value},bK xs us->xs.all lL=true->us.any (o5 x)=xs.any λy=>eqV y x
 |_,_,.nil,_=>rfl
 |y::xs,u::us,.cons r t,f=>by
  rw[List.all_cons,Bool.and_eq_true]at f;rw[List.any_cons,List.any_cons,zdi r f.1,mO t f.2]
theorem kP{A:Around}{s:Shared}{x:V}{v:Value}(rx:bA x v)(fx:lL x=true): ∀{xs:List V} {us:List Value},bK xs us->xs.all lL=true-> ∀u∈us,SeqAt.EqAt A s u v (o5 x u)
 |_,_,.nil,_=> λu hu=>by cases hu
 |y::xs,u::us,.cons r t,f=> λu' hu=>by
  rw[List.all_cons,Bool.and_eq_true]at f
  rcases List.mem_cons.mp hu with rfl|hu
  . rw[zdi r f.1];exact zdK r rx f.1 fx
  . exact kP rx fx t f.2 u' hu
def tM(x:V)(xs:List V):Bool:=xs.any λy=>eqV y x
def rIn(K:W.Frag)(neg:Bool):R2:= λx y H Q=> ∃p xs,y= .ref p/\(aY K H p xs\/fR K H p xs)/\lL x=true/\xs.all lL=true/\Q (.bl (if neg then !tM x xs else tM x xs)) H
theorem fA:mZ X (compareOp .In) (rIn X.K false):=by
 intro aA s σ H x y v u Q I rx ry h
 obtain⟨p,xs,rfl,hq,fx,fs,q⟩:=h
 cases ry
 rcases hq with hq|hq
 . obtain⟨bC,r,pl,hz⟩:=I.list hq;refine SeqAt.in_listAt (o5 x) pl.isList (λw hw=>kP rx fx r fs w (by simpa using hw)) ⟨.bl _,H,I,rfl,?_⟩;rw[show bC.toArray.any (o5 x)=bC.any (o5 x) by simp,mO r fs];exact q
 . obtain⟨bC,r,pl,hz⟩:=I.tuple hq;refine SeqAt.in_tupleAt (o5 x) pl (λw hw=>kP rx fx r fs w (by simpa using hw)) ⟨.bl _,H,I,rfl,?_⟩;rw[show bC.toArray.any (o5 x)=bC.any (o5 x) by simp,mO r fs];exact q
theorem mJ:mZ X (compareOp .NotIn) (rIn X.K true):=by
 intro aA s σ H x y v u Q I rx ry h
 obtain⟨p,xs,rfl,hq,fx,fs,q⟩:=h
 cases ry
 rcases hq with hq|hq
 . obtain⟨bC,r,pl,hz⟩:=I.list hq;refine SeqAt.notIn_listAt (o5 x) pl.isList (λw hw=>kP rx fx r fs w (by simpa using hw)) ⟨.bl _,H,I,rfl,?_⟩;rw[show bC.toArray.any (o5 x)=bC.any (o5 x) by simp,mO r fs];exact q
 . obtain⟨bC,r,pl,hz⟩:=I.tuple hq;refine SeqAt.notIn_tupleAt (o5 x) pl (λw hw=>kP rx fx r fs w (by simpa using hw)) ⟨.bl _,H,I,rfl,?_⟩;rw[show bC.toArray.any (o5 x)=bC.any (o5 x) by simp,mO r fs];exact q
theorem aO:fK X (.builtin "len") (λxs H Q=> ∃p ys,xs=[.ref p]/\(aY X.K H p ys\/fR X.K H p ys)/\Q (.int ys.length) H):=by
 intro aA s σ H xs us Q I r h
 obtain⟨p,ys,rfl,hq,q⟩:=h
 obtain⟨u,rfl,rx⟩:=lI r
 cases rx
 have hn:=kQ
 rcases hq with hq|hq
 . obtain⟨bC,r',pl,hz⟩:=I.list hq;have cQ:=r'.length;exact Calls.call_len_list pl.isList (by simp only[List.size_toArray]<;>omega) ⟨.int ys.length,H,I.tok _,⟨s.toks+1,by rw[List.size_toArray,cQ]⟩,q⟩
 . obtain⟨bC,r',pl,hz⟩:=I.tuple hq;have cQ:=r'.length;exact len_tuple pl (by simp only[List.size_toArray]<;>omega) ⟨.int ys.length,H,I.tok _,⟨s.toks+1,by rw[List.size_toArray,cQ]⟩,q⟩
theorem mV:fK X (.builtin "len") (λxs H Q=> ∃z,xs=[.str z]/\z.length<=sizeLine/\Q (.int z.length) H):=by
 intro aA s σ H xs us Q I r h
 obtain⟨z,rfl,hz,q⟩:=h
 obtain⟨u,rfl,t,rfl⟩:=lI r
 have hn:=kQ
 exact len_str (by omega) ⟨.int z.length,H,I.tok _,⟨_,rfl⟩,q⟩
theorem iT:fK X (.type "tuple") (λxs H Q=> ∃p ys,xs=[.ref p]/\((aY X.K H p ys/\ ∀l,H l=none->Q (.ref l) (aN H l (.tup ys)))\/(fR X.K H p ys/\Q (.ref p) H))):=by
 intro aA s σ H xs us Q I r h
 obtain⟨p,ys,rfl,h⟩:=h
 obtain⟨u,rfl,rx⟩:=lI r
 cases rx
 rcases h with⟨hq,q⟩|⟨hq,q⟩
 . obtain⟨bC,r',pl,hz⟩:=I.list hq;have cQ:=r'.length;refine call_tuple_list pl.isList (λh' kp=> ?_) (by simp only[List.size_toArray]<;>omega);have I1:aM X aA σ H {s with heap:=h'}:=I.kept (t':=s.toks) kp;have I2:aM X aA σ (aN H h'.objs.size (.tup ys)) {s with heap:=h'.push {cls:= .type "tuple",data:= .seq bC.toArray}}:=
    I1.laid (t':=s.toks) (λb o e=>Heap.get?_push_of_some _ e) (Nat.le_refl _) (show cP X.prog X.w _ _ _ (.tup ys)from⟨hz,bC,r',IsTup.new _ _⟩)
   exact⟨.ref h'.objs.size,_,I2,rfl,q _ (I1.hok.fresh (Nat.le_refl _))⟩
 . obtain⟨bC,r',pl,hz⟩:=I.tuple hq;exact call_tuple_same pl ⟨.ref p,H,I,rfl,q⟩
def tyV(K:W.Frag)(T:String)(x:V)(H:Hp):Prop:=match x with
 | .str _=>T= "str"
 | .int _=>T= "int"
 | .ref p=>(T= "list" /\ ∃xs,aY K H p xs)\/(T= "tuple" /\ ∃o,K.lookup p=some o/\o.cls= .type "tuple" /\o.dict=none)\/
  (T= "dict" /\((∃kvs,H p=some (.dK kvs))\/ ∃kvs,H p=some (.dT kvs)))\/(T= "set" /\ ∃S n,H p=some (.set S n))
 |_=>False
theorem zku{aA:List (Addr×Obj)}{σ:St}{H:Hp}{s:Shared}{T:String}{x:V}{v:Value}(I:aM X aA σ H s)(r:bA x v)(ty:tyV X.K T x H):
 s.TypeIs v T/\ ∀a,v= .ref a-> ∃ob,s.heap.get? a=some ob/\ob.dict=none:=by
 cases x with
 |str z=>
  obtain⟨t,rfl⟩:=r;cases(show T= "str" from ty);exact⟨typeIs_str s z t,λ_ e=>nomatch e⟩
 |int i=>
  obtain⟨t,rfl⟩:=r;cases(show T= "int" from ty);exact⟨typeIs_int s i t,λ_ e=>nomatch e⟩
 |ref p=>
  cases r
  rcases ty with⟨rfl,xs,hq⟩|⟨rfl,o,hk,hc,hd⟩|⟨rfl,hk⟩|⟨rfl,S,n,hk⟩
  . obtain⟨bC,_,pl,_⟩:=I.list hq;refine⟨pl.isList.typeIs,λa e=> ?_⟩;cases e;obtain⟨o,n,e,c,hd,_⟩:=pl;exact⟨o,e,hd⟩
  . refine⟨⟨o,I.kIn p o hk,hc⟩,λa e=> ?_⟩;cases e;exact⟨o,I.kIn _ o hk,hd⟩
  . have z: ∃o,s.heap.get? p=some o/\o.ExactDict:=by
     rcases hk with⟨kvs,hk⟩|⟨kvs,hk⟩
     . obtain⟨_,_,_,_,o,_,_,e,ex,_⟩:=I.hok p _ hk;exact⟨o,e,ex⟩
     . obtain⟨_,_,_,_,o,_,_,e,ex,_⟩:=I.hok p _ hk;exact⟨o,e,ex⟩
    obtain⟨o,e,ex⟩:=z;refine⟨⟨o,e,ex.1⟩,λa e2=> ?_⟩;cases e2;exact⟨o,e,ex.2.1⟩
  . obtain⟨o,_,_,_,e,ex,_⟩:=I.hok p _ hk;refine⟨⟨o,e,ex.1⟩,λa e2=> ?_⟩;cases e2;exact⟨o,e,ex.2.1⟩
 |_=>exact False.elim ty
def tBM(K:W.Frag)(T:String)(r:V->List V->Hp->VK->Prop)(to:TE)(t:TA):TE:= λσ H Q=>to σ H λx H1=>tyV K T x H1/\t σ H1 λxs H2=>r x xs H2 Q
variable {o e:Expr}{es:List Expr}{to:TE}{t:TA}{name:Str}{rA iE:Pos}{T id:String}{r:V->List V->Hp->VK->Prop}
theorem hJ(pa:PlainAttrs T)(slot:Slot T name id)(hty:typeOf (.builtin id)=pure (.type "method_descriptor"))(hm:MtR X id r)(ho:PE X o to)(ha:PA X (e::es) t)
 (zdH:attributeBase o name X.env (eval o X.env)=eval o X.env:=by rfl)
 (zli:((backTo iE (starEach (e::es) X.env)).all (λx=> !x.1)&&(backToKw iE (keywordEach [] X.env)).all (λx=>x.1.isSome)
  &&decide ((e::es).length+([]:List Keyword).length+(if([]:List Keyword).isEmpty then 0 else 1)<30))=true:=by rfl)
 (zew:(rA.endLine==iE.line)=true:=by rfl) (hs:starEach (e::es) X.env=(false,eval e X.env)::starEach es X.env:=by rfl) (zH:(backTo iE (starEach es X.env)).any (·.1)=false:=by rfl):
 PE X (.Call (.Attribute o name rA) (e::es) [] iE) (tBM X.K T r to t):=by
 intro aA s σ H Q I h
 refine wpAny_Call_method_late zdH zli zew rfl (cH (ho aA s σ H _ I h) λv s1 ⟨x,H1,I1,r1,ty,q1⟩=> ?_)
 obtain⟨h1,h2⟩:=zku I1 r1 ty
 refine⟨T,id,pa,slot,hty,h1,h2,?_⟩
 have hA:=ha iE aA s1 σ H1 _ I1 q1
 rw[hs]at hA ⊢
 refine Calls.callWith_builtin (by show(false||(backTo iE (starEach es X.env)).any (·.1))=false;rw[zH]<;>rfl) (Calls.evalArgs_plain ?_)
 exact cH hA λus s2 ⟨vs,H2,I2,r2,q2⟩=>hm aA s2 σ H2 x vs v us Q I2 r1 r2 q2
/- xs.append(e),list.index on a module's tuple .. are MtR facts of 06m -/
end
def MtM(X:Cx)(id:String)(r:V->List V->Hp->VK->Prop):Prop:=
 ∀(aA:List (Addr×Obj)) (s:Shared) (σ:St) (H:Hp) (x:V) (xs:List V) (v:Value) (us:List Value) (Q:VK),aM X aA σ H s->bA x v->bK xs us->r x xs H Q->
  wpAny (model X.prog X.w) X.A (call (.builtin id) (v::us)) (EP X aA σ Q) X.xe s
theorem bK.one{x:V}{us:List Value}(h:bK [x] us): ∃u,us=[u]/\bA x u:=by
 cases h with|cons r t=>cases t;exact⟨_,rfl,r⟩
theorem bK.two{x y:V}{us:List Value}(h:bK [x,y] us): ∃u v,us=[u,v]/\bA x u/\bA y v:=by
 cases h with|cons r t=>obtain⟨v,e,q⟩:=bK.one t;exact⟨_,v,by rw[e],r,q⟩
theorem bK.reverse{xs:List V}{us:List Value}(h:bK xs us):bK xs.reverse us.reverse:=by
 induction h with
 |nil=>exact .nil
 |cons r t ih=>rw[List.reverse_cons,List.reverse_cons];exact bK.append ih (.cons r .nil)
section
variable {aA:List (Addr×Obj)}{σ:St}{H:Hp}{s:Shared}{l b:Addr}{xs ys zs:List V}
theorem aM.lset{bC its':List Value}{n:Nat}{f:Array Value->Array Value}{t':Nat}(I:aM X aA σ H s)(hH:H l=some (.lst xs))
 (e:s.heap.get? l=some {cls:= .type "list",data:= .seq bC.toArray n}) (hf:f bC.toArray=its'.toArray) (hv:bK ys its') (hz:ys.length<=sizeLine):
 aM X aA σ (aN H l (.lst ys)) {s with heap:=s.heap.update l (Obj.mapSeq f),toks:=t'}:=by
 have q:=PySem.IsL.update e f
 rw[hf]at q
 refine I.write (x:=l) (e:=l) (by rw[hH];exact trivial) (.inl rfl) (λb' u hb hu=>(Heap.get?_update_other s.heap (Obj.mapSeq f) (Ne.symm hb)).trans hu) ⟨_,q⟩ ?_
 exact⟨hz,its',_,hv,q⟩
theorem aM.lnew{bC:List Value}{t':Nat}(I:aM X aA σ H s)(hv:bK ys bC)(hz:ys.length<=sizeLine):
 aM X aA σ (aN H s.heap.objs.size (.lst ys)) {s with heap:=s.heap.push {cls:= .type "list",data:= .seq bC.toArray},toks:=t'}:=
 I.laid (λ_ _ q=>Heap.get?_push_of_some _ q) (Nat.le_refl _) ⟨hz,bC,0,hv,Heap.get?_push_size _ rfl⟩
theorem aM.fresh(I:aM X aA σ H s):H s.heap.objs.size=none:=I.hok.fresh (Nat.le_refl _)
theorem aM.lstM(I:aM X aA σ H s)(hH:H l=some (.lst xs)):xs.length<=sizeLine/\ ∃(bC:List Value) (n:Nat),bK xs bC/\xs.length=bC.length/\s.heap.get? l=some {cls:= .type "list",data:= .seq bC.toArray n}:=by
 obtain⟨z,bC,n,r,e⟩:=I.hok l _ hH
 exact⟨z,bC,n,r,r.length,e⟩
theorem zeI{n:Nat}(h:n<=sizeLine):Builtin.List.listTooLong n=false:=by
 unfold Builtin.List.listTooLong
 exact decide_eq_false (by omega)
end
def zbk:V->List V->Hp->VK->Prop:= λx vs H Q=> ∃l xs y,x= .ref l/\vs=[y]/\H l=some (.lst xs)/\xs.length<sizeLine/\Q .non (aN H l (.lst (xs++[y])))
theorem cZ:MtM X "list.append" zbk:=by
 intro aA s σ H x vs v us Q I rx rv h
 obtain⟨l,xs,y,rfl,rfl,hH,hz,q⟩:=h
 cases rx
 obtain⟨u,rfl,ru⟩:=rv.one
 obtain⟨z,bC,n,r,hl,e⟩:=I.lstM hH
 refine call_meets F.slot_list_append ⟨_,e,rfl⟩ F.entry_list_append (F.args_list_append_2 _ _) (PySem.list_append l bC.toArray n u (by rw[List.size_toArray];omega)) ⟨e,?_⟩
 refine⟨.non,_,I.lset (its':=bC++[u]) hH e (by simp) (r.append (.cons ru .nil)) ?_,rfl,q⟩
 rw[List.length_append,List.length_singleton]
 omega
def zgO:V->List V->Hp->VK->Prop:= λx vs H Q=> ∃l b xs zs,x= .ref l/\vs=[.ref b]/\H l=some (.lst xs)/\H b=some (.lst zs)/\xs.length+zs.length<=sizeLine/\Q .non (aN H l (.lst (xs++zs)))
theorem uB:MtM X "list.extend" zgO:=by
 intro aA s σ H x vs v us Q I rx rv h
 obtain⟨l,b,xs,zs,rfl,rfl,hH,hB,hz,q⟩:=h
 cases rx
 obtain⟨u,rfl,ru⟩:=rv.one
 cases ru
 obtain⟨z,bC,n,r,hl,e⟩:=I.lstM hH
 obtain⟨z2,jZ,n2,r2,bZ,e2⟩:=I.lstM hB
 have hsz:bC.toArray.size+jZ.toArray.size<=sizeLine:=by rw[List.size_toArray,List.size_toArray];omega
 have zpg: ¬(!bC.toArray.isEmpty&&Builtin.List.listTooLong (bC.toArray.size+jZ.toArray.size))=true:=by
  rw[zeI hsz,Bool.and_false];exact Bool.false_ne_true
 refine call_meets F.slot_list_extend ⟨_,e,rfl⟩ F.entry_list_extend (F.args_list_extend_2 _ _)
  (AutoSeq1.list_extend_list_list_0 l bC.toArray n b jZ.toArray n2 zpg (by rw[List.size_toArray];omega) (by omega)) ⟨e,e2,?_⟩
 refine⟨.non,_,I.lset (its':=bC++jZ) hH e (by simp) (r.append r2) ?_,rfl,q⟩
 rw[List.length_append]
 omega
def zkP:R2:= λx y H Q=> ∃l b xs zs,x= .ref l/\y= .ref b/\H l=some (.lst xs)/\H b=some (.lst zs)/\xs.length+zs.length<=sizeLine/\ ∀p,H p=none->Q (.ref p) (aN H p (.lst (xs++zs)))
theorem yT:mZ X (binaryOp .Add) zkP:=by
 intro aA s σ H x y v u Q I rx ry h
 obtain⟨l,b,xs,zs,rfl,rfl,hH,hB,hz,q⟩:=h
 cases rx
 cases ry
 obtain⟨z,bC,n,r,hl,e⟩:=I.lstM hH
 obtain⟨z2,jZ,n2,r2,bZ,e2⟩:=I.lstM hB
 refine PySem.P.add_list e e2 ?_ (by rw[List.size_toArray,List.size_toArray];omega)
 have ea:bC.toArray++jZ.toArray=(bC++jZ).toArray:=by simp
 rw[ea]
 exact⟨.ref _,_,I.lnew (t':=s.toks) (r.append r2) (by rw[List.length_append];omega),rfl,q _ I.fresh⟩
section
variable {prog:Program}{w:World}{A:Around}{E:Value->Shared->Prop}{s:Shared}
end
end L2
namespace Att
open PySem PySem.W PySem.Calls PyProof.Rows
theorem oS{P:Params}{h:Heap}: ∀(ns:List Int) (vs:List Value),WellAll P h vs (ns.map WData.int)->IntsAre vs ns:=by
 intro ns
 induction ns with
 |nil=>
  intro vs w;rw[List.map_nil]at w;cases w;exact .nil
 |cons n ns ih=>
  intro vs w;rw[List.map_cons]at w;cases w with
  |cons a b=>
   cases a;exact .cons _ _ (ih _ b)
theorem zcU{l:OpenLaw}{n:Nat}(hn:l.most=some n){P:Params}{h:Heap}{args:List WData}{zlc:List Value}
 (rB:l.row.toRowW.claim.pre args=true) (hwl:WellAll P h zlc args):
 ∃a vs ns,zlc=[Value.ref a]/\args=[WData.list (ns.map WData.int)]/\h.get? a=some {cls:= .type "list",data:= .seq vs.toArray}/\IntsAre vs ns/\ns.length<=n:=by
 have hsh:WShape.hasAll [] args [.list .int]=true:=(pre_splitW rB).1
 have hc:l.pre.holds [] {args:=args}=true:=(pre_splitW rB).2
 obtain⟨d,r,rfl,h1,h2⟩:=hasAllW_cons hsh
 obtain rfl:=hasAllW_nil h2
 obtain⟨xs,rfl,h3⟩:=hasW_list h1
 obtain⟨ns,rfl⟩:=items_int h3
 have cQ:ns.length<=n:=by
  unfold OpenLaw.pre at hc;have h4:(WTm.not (.lt (.lit (.int (n:Int))) (.len (.arg 0)))).holds [] {args:=[.list (ns.map .int)]}=true:=by
   have h4:=(holds_andW hc).1;rw[hn]at h4;exact h4
  have h5:=condW_of h4 (w_not (w_lt w_lit (w_len_list (w_arg rfl))));rw[bH]at h5;refine Nat.le_of_not_lt λq=> ?_;have q':(n:Int)<((ns.length:Nat):Int):=by omega
  first
   |(rw[decide_eq_true q']at h5;exact absurd h5 (by decide))
   |(simp at h5;omega)
 cases hwl with
 |cons w1 w2=>
  cases w2;cases w1 with
  |list ho lX=>exact⟨_,_,ns,rfl,rfl,ho,oS ns _ lX,cQ⟩
theorem zby(l:OpenLaw)(args:List WData):l.row.toRowW.claim.post args (.bool true) args=true:=
 postW_of (r:=l.row.toRowW) (X:=(true==true))
  (show WShape.has [] (.bool true) .bool=true by first|rfl|decide|simp[WShape.has,WShape.arms,WShape.armsAll])
  (show(WTm.eq .res (.lit (.bool true))).value [] {args:=args,res:=some (.bool true),after:=args}=some (.bool (true==true))from w_eq_bool (w_res rfl) w_lit) rfl
theorem attach_call{l:OpenLaw}{n:Nat}{q:Program}{tI:List Str}{XP:(Str->Option Value)->Heap->Prop}{YP:World->Heap->Prop}{d:DefRec}
 (hn:l.most=some n) (hdf:d.params.defaults=[])
 (call: ∀(w:World) (s₀ s₁:Shared) (mg mb:Str->Option Value) (fa:Addr) (o:Obj) (pm cd lA:Value) (a:Addr) (vs:List Value) (ns:List Int),
  Ground q tI [] XP w s₀ mg mb s₁.heap->YP w s₁.heap->
  s₁.heap.get? fa=some o->o.data= .func (docDef d.name d.params d.body d.scope pm cd lA)->s₁.heap.CodeRec cd d.name->mg d.name=some (.ref fa)->
  s₁.heap.get? a=some {cls:= .type "list",data:= .seq vs.toArray}->IntsAre vs ns->ns.length<=n->s₁.gens= #[]->
  codeAny (model l.prog w) callerA (.call (.ref fa) ⟨[.ref a],[]⟩) (λr s'=>r= .ok (.ret (.bool true))/\OldK s₁.heap s'.heap/\s'.os=s₁.os/\AllBare s'.gens) s₁):
 WalkO q tI XP YP l.row.toRowW d [] (λf vs=>PySem.call f vs):=by
 intro w s₀ s₁ mg mb G Y fa o pm cd lA dV kV ho hd pF hD hmg hg args zlc as rB zxv hrd hwl hlo
 obtain rfl:dV= .none:=Dflts.none hD hdf
 obtain rfl:kV= .none:=Dflts.noKw hD
 obtain⟨a,vs,ns,rfl,rfl,zjR,zfV,cQ⟩:=zcU hn rB hwl
 refine enter_call (codeAny_mono (call w s₀ s₁ mg mb fa o pm cd lA a vs ns G Y ho (fd_plain hd) pF hmg zjR zfV cQ hg) λr s' hq=> ?_)
 obtain⟨rfl,h2,h3,h4⟩:=hq
 exact⟨.inl ⟨.bool true,.bool true,[],rfl,λ_=>rfl,.bool true,zby l _,λ_=>⟨List.Pairwise.nil,λ_ hm=>(nomatch hm)⟩⟩,h2,h3,h4⟩
section
variable {prog:Program}{w:World}{A:Around}{E:Value->Shared->Prop}{s:Shared}{K:Frag}
def zsy(h:Heap)(L d:Addr):List (Addr×Obj):=(List.range h.objs.size).filterMap λa=>if a=L\/a=d then none else(h.get? a).map λo=>(a,o)
end
end Att
namespace L2
open PySem PySem.Spec PyProof.Rows
theorem nZ: ∀{vs:List Value} {ns:List Int},IntsAre vs ns->bK (ns.map V.int) vs
 |_,_,.nil=> .nil
 |_,_,.cons n t h=> .cons ⟨t,rfl⟩ (nZ h)
def zhE(s:Stmt)(j:Nat):Stmt:=match s with
 | .ClassDef _ _ _ body _ _ _ _ _ _ _=>body.getD j (.Pass ⟨0,0,0,0⟩)
 |_=> .Pass ⟨0,0,0,0⟩
def dP(s:Stmt):Arguments:=match s with
 | .FunctionDef _ a _ _ _ _ _ _ _ _=>a
 |_=>{posonlyargs:=[],args:=[],vararg:=none,kwonlyargs:=[],kw_defaults:=[],kwarg:=none,defaults:=[]}
def cM(s:Stmt):List Stmt:=match s with
 | .FunctionDef _ _ b _ _ _ _ _ _ _=>b
 |_=>[]
def aH(s:Stmt):Scope:=match s with
 | .FunctionDef _ _ _ _ _ _ sc _ _ _=>sc
 |_=>{kind:= .function,names:=[],isGenerator:=false,isCoroutine:=false}
abbrev gU:yE:= λ_ _ _ _ _ _=>False
abbrev E0:XK:= λ_ _ _=>False
theorem kB{X:Cx}:qX gU X E0:= λ_ _ _ _ _ _ _ h=>h.elim
structure mR(K:W.Frag)(x qual:Str)(st:Stmt)(f:Addr)(fd:FuncData):Prop where
 ex: ∃(oc:Value) (od:Option Addr) (kV lA pm:Value) (an:Option Addr) (eQ ct:Value) (osl:Array (Option Value)),
  fd=PySem.W.fnOf x qual (dP st) (cM st) (aH st) .none kV lA pm an eQ ct/\K.lookup f=some ⟨oc,od,.func fd,osl⟩/\PySem.W.codeIn K eQ qual=true
 kp:W.keepIn K (.ref f)=true
section
variable {P:Program}{w:World}{K:W.Frag}{mg:Str->Option Value}{base:Heap}
theorem mR.ok{x qual:Str}{st:Stmt}{f:Addr}{fd:FuncData}{N ps:List Str}{k:Nat}{sp:Sp}(F:mR K x qual st f fd)(S:bS N ps (aH st))(len: ∀vs H Q E,sp vs H Q E->vs.length=ps.length)
 (mY: ∀(eQ:Value) (A:Around) (outer:List Env) (s:Shared) (H:Hp) (vs:List V) (Q:VK) (E:XK),eK k (A.deeper (envOfC qual (aH st) s.heap.objs.size f eQ))->sp vs H Q E->
  ∃t,xQ (eV gU P w K mg base N qual (aH st) f eQ A outer s H E).nox (cM st) t/\t {nx:= λ_ H'=>Q .non H',rt:=Q} (start N vs) H):dN P w K mg base gU (k+1) f fd ps sp:=by
 obtain⟨oc,od,kV,lA,pm,an,eQ,ct,osl,rfl,lk,pF⟩:=F.ex
 refine zje lk pF S len λA outer s H vs Q E hr wW=> ?_
 obtain⟨t,h,q⟩:=mY eQ A outer s H vs Q E hr wW
 exact⟨t,h.nox,q⟩
theorem mR.binds{x qual:Str}{st:Stmt}{f:Addr}{fd:FuncData}{ps:List Str}(F:mR K x qual st f fd)
 (h: ∀(kV lA pm:Value) (an:Option Addr) (eQ ct:Value) (us:List Value),us.length=ps.length->bindArgs (PySem.W.fnOf x qual (dP st) (cM st) (aH st) .none kV lA pm an eQ ct) ⟨us,[]⟩=pure (ps.zip us)):jW K fd ps []:=by
 obtain⟨oc,od,kV,lA,pm,an,eQ,ct,osl,rfl,lk,pF⟩:=F.ex
 exact .all (h kV lA pm an eQ ct)
theorem zU{x qual:Str}{st:Stmt}{f:Addr}{oc:Value}{od an:Option Addr}{osl:Array (Option Value)}{kV lA pm eQ ct:Value}(l:K.lookup f=some ⟨oc,od,.func (PySem.W.fnOf x qual (dP st) (cM st) (aH st) .none kV lA pm an eQ ct),osl⟩)
 (c:PySem.W.codeIn K eQ qual=true) (k:W.keepIn K (.ref f)=true):mR K x qual st f (PySem.W.fnOf x qual (dP st) (cM st) (aH st) .none kV lA pm an eQ ct):=⟨⟨oc,od,kV,lA,pm,an,eQ,ct,osl,rfl,l,c⟩,k⟩
end
theorem zmS{A:Around}{k:Nat}(hr:eK k A):A.units+1<cLine:=Nat.lt_of_le_of_lt (Nat.add_le_add_left (by decide:1<=64) _) hr.units
theorem cY{n:Nat}(h:n<=1000):n<sizeLine:=Nat.lt_of_le_of_lt h (by decide)
section
variable {X:Cx}
theorem pv(i:Nat){x:Str}{pos:Pos}(hN:X.N[i]?=some x:=by rfl)(hv:Vis X.env.scope x:=by first|exact Or.inl rfl|exact Or.inr (Or.inl rfl)|exact Or.inr (Or.inr rfl))(hd:(x==("__debug__" :Str))=false:=by decide)
 (pF:(x==("__classdict__" :Str))=false:=by decide):PE X (.Name x pos) (aL i):=zki hN hv hd pF
end
theorem iY{A B:Prop}(h:B):if false=true then A else B:=by
 rw[if_neg Bool.false_ne_true]
 exact h
theorem oZ{A B:Prop}(h:A):if true=true then A else B:=by
 rw[if_pos rfl]
 exact h
theorem jA{c A B:Prop} [Decidable c](h1:c->A)(h2: ¬c->B):if c then A else B:=by
 by_cases h:c
 . rw[if_pos h];exact h1 h
 . rw[if_neg h];exact h2 h
def Same(H H':Hp):Prop:= ∀b o,H b=some o->H' b=some o
theorem Same.refl(H:Hp):Same H H:= λ_ _ h=>h
theorem Same.trans{H H1 H2:Hp}(a:Same H H1)(b:Same H1 H2):Same H H2:= λc o h=>b c o (a c o h)
theorem Same.free{H H':Hp}(e:Same H H'){l:Addr}(h:H' l=Option.none):H l=Option.none:=by
 cases q:H l with
 |none=>rfl
 |some o=>
  rw[e l o q]at h;cases h
end L2
set_option maxHeartbeats 4000000
namespace L2
open PySem PySem.Spec PyProof.Rows
def PTs(X:Cx)(cs:List Expr)(t:TT):Prop:=
 ∀(aA:List (Addr×Obj)) (s:Shared) (σ:St) (H:Hp) (Q:Bool->Hp->Prop),aM X aA σ H s->t σ H Q->
  wpAny (model X.prog X.w) X.A (forIn cs true λc r=>if r=true then do let ok<-isTrue c X.env (eval c X.env);pure (ForInStep.yield ok)else pure (ForInStep.yield r)) (TP X aA σ Q) X.xe s
def dJ:TT:= λ_ H Q=>Q true H
theorem cT{X:Cx}:PTs X [] dJ:= λ_ _ _ H _ I h=>wpAny_tests_nil ⟨H,I,h⟩
theorem kU{X:Cx}{c:Expr}{t:TT}(h:PT X c t):PTs X [c] t:= λaA s σ H Q I q=>wpAny_tests_one (h aA s σ H Q I q)
theorem kL{prog:Program}{w:World}{A:Around}{R:Result->Shared->Prop}{s:Shared}{iU nJ cV:Expr}{iJ:List Expr}{scope:Scope}{pos:Pos}{it acc:Value}{env:Env}(I:Nat->Shared->Prop)
 (jN: ∀n s,I n s->wpAny (model prog w) A (pyNext it) (λr s₁=>match r with
  |none=>R (.ok .next) s₁
  |some v=>wpAny (model prog w) A (letOwnedTupleGo nJ it v) (λ_ zqb=>wpAny (model prog w) A (assign nJ env v) (λ_ s₂=>
   wpAny (model prog w) A (forIn iJ true λc r=>if r=true then do let ok<-isTrue c env (eval c env);pure (ForInStep.yield ok)else pure (ForInStep.yield r)) (λok s₃=>
    if ok=true then wpAny (model prog w) A (eval iU env) (λx s₄=>
     wpAny (model prog w) A (call (.builtin "list.append") [acc,x]) (λ_ s₅=> ∃m,m<n/\I m s₅) (λ_ _=>False) s₄) (λ_ _=>False) s₃
    else ∃m,m<n/\I m s₃) (λ_ _=>False) s₂) (λ_ _=>False) zqb) (λ_ _=>False) s₁) (λ_ _=>False) s)
 (n:Nat) (h:I n s):
 codeAny (model prog w) A (.compLoop (.ListComp iU [⟨nJ,cV,iJ,0⟩] scope pos) 0 it acc env) R s:=by
 refine codeAny_loop rfl I (λn s hI=> ?_) n h
 show wpAny _ A ((compTurn (.ListComp iU [⟨nJ,cV,iJ,0⟩] scope pos) 0 it acc env).onRaise (λx=>do noteFrame x env;theTreesLotGoes x)) _ _ s
 refine wpAny_noted ?_
 rw[compTurn_list]
 refine wpAny_bind (wpAny_standAt (wpAny_bind (wpAny_mono (jN n s hI) (λr s₁ h₁=> ?_) λ_ _ h'=>h'.elim)))
 cases r with
 |none=>exact wpAny_pure h₁
 |some v=>
  refine wpAny_bind (wpAny_mono h₁ (λ_ zqb zsD=> ?_) λ_ _ h'=>h'.elim);refine wpAny_bind (wpAny_mono zsD (λ_ s₂ h₂=>wpAny_bind (wpAny_mono h₂ (λok s₃ h₃=> ?_) λ_ _ h'=>h'.elim)) λ_ _ h'=>h'.elim);cases ok with
  |false=>exact wpAny_pure ⟨rfl,h₃⟩
  |true=>
   exact wpAny_bind (wpAny_bind (wpAny_mono h₃ (λx s₄ h₄=>wpAny_bind (wpAny_mono h₄ (λ_ s₅ h₅=>wpAny_pure (wpAny_pure ⟨rfl,h₅⟩)) λ_ _ h'=>h'.elim)) λ_ _ h'=>h'.elim))
def cA(env:Env):List (Str×NameKind)->List (Str×Addr)->List (Str×Addr)
 | [],cs=>cs
 |(n,k)::r,cs=>cA env r (if k== .free then(match env.cells.lookup n with|some a=>(n,a)::cs|none=>cs)else cs)
theorem zbt{env:Env}: ∀(ns:List (Str×NameKind)) (cs:List (Str×Addr)),(∀x∈ns,x.2= .free-> ∃c,env.cells.lookup x.1=some c)->
 (forIn ns cs λx (r:List (Str×Addr))=>(match x with|(name,kind)=>if(kind== .free)=true then do let a<-cellOf env name;pure (ForInStep.yield ((name,a)::r))else pure (ForInStep.yield r):Sem (ForInStep (List (Str×Addr)))))=(pure (cA env ns cs):Sem (List (Str×Addr)))
 | [],cs,_=>rfl
 |(n,k)::r,cs,h=>by
  have ih:= λcs=>zbt (env:=env) r cs λx hx=>h x (List.mem_cons_of_mem _ hx);rw[List.forIn_cons];unfold cA
  by_cases hk:k= .free
  . subst hk;obtain⟨c,e⟩:=h (n,.free) List.mem_cons_self rfl;have ec:cellOf env n=pure c:=by unfold cellOf;rw[e]
    simp only[beq_self_eq_true,if_true,ec,e,pure_bind];exact ih _
  . have hb:(k==NameKind.free)=false:=by simpa using hk
    simp only[hb,Bool.false_eq_true,if_false,pure_bind];exact ih _
theorem mM{scope:Scope}{env:Env}(h: ∀x∈scope.names,x.2= .free-> ∃c,env.cells.lookup x.1=some c):closureFor scope env=pure (cA env scope.names []):=by
 have q:=zbt (env:=env) scope.names [] h
 unfold closureFor
 simp only[bind_pure_comp,map_pure,bind_pure]at q ⊢
 first
  |exact q
  |(simpa using q)
theorem dZ{env:Env}: ∀(ns:List (Str×NameKind)) (cs:List (Str×Addr)) (x:Str) (c:Addr),(cA env ns cs).lookup x=some c->env.cells.lookup x=some c\/cs.lookup x=some c
 | [],cs,x,c,h=> .inr h
 |(n,k)::r,cs,x,c,h=>by
  unfold cA at h
  rcases dZ r _ x c h with q|q
  . exact .inl q
  . by_cases hk:k= .free
    . subst hk;simp only[beq_self_eq_true,if_true]at q;cases e:env.cells.lookup n with
      |none=>rw[e]at q;exact .inr q
      |some a=>
       rw[e]at q;simp only[List.lookup_cons]at q;cases hx:x==n with
       |true=>
        rw[hx]at q;have ex:x=n:=by simpa using hx
        subst ex;have ea:a=c:=Option.some.inj q;subst ea;exact .inl e
       |false=>rw[hx]at q;exact .inr q
    . have hb:(k==NameKind.free)=false:=by simpa using hk
      simp only[hb,Bool.false_eq_true,if_false]at q;exact .inr q
theorem pZ{env:Env}: ∀(ns:List (Str×NameKind)) (cs:List (Str×Addr)) (x:Str),(∃c,cs.lookup x=some c)-> ∃c,(cA env ns cs).lookup x=some c
 | [],_,_,h=>h
 |(n,k)::r,cs,x,⟨c,h⟩=>by
  unfold cA;refine pZ r _ x ?_
  by_cases hk:(k==NameKind.free)=true
  . rw[if_pos hk];cases e:env.cells.lookup n with
    |none=>exact⟨c,h⟩
    |some a=>
     simp only[List.lookup_cons];cases hx:x==n with
     |true=>exact⟨a,rfl⟩
     |false=>exact⟨c,h⟩
  . rw[if_neg hk];exact⟨c,h⟩
theorem jB{env:Env}: ∀(ns:List (Str×NameKind)) (cs:List (Str×Addr)) (x:Str),(x,NameKind.free)∈ns->(∃c,env.cells.lookup x=some c)-> ∃c,(cA env ns cs).lookup x=some c
 | [],_,_,h,_=>nomatch h
 |(n,k)::r,cs,x,h,⟨c,e⟩=>by
  unfold cA
  rcases List.mem_cons.mp h with z|z
  . have z1:x=n:=congrArg Prod.fst z;have z2:NameKind.free=k:=congrArg Prod.snd z;subst z1 z2;refine pZ r _ x ?_;simp only[beq_self_eq_true,if_true,e,List.lookup_cons];exact⟨c,rfl⟩
  . exact jB r _ x z ⟨c,e⟩
theorem cI{ns:List (Str×NameKind)}{x:Str}{k:NameKind}(h:ns.lookup x=some k):(x,k)∈ns:=PySem.mem_of_lookup h
theorem eP{env:Env}: ∀(names:List (Str×NameKind)) (x:Str),
 (names.map λ(n,k)=>if(k==NameKind.free&&env.scope.kind== .function&&env.kindOf n==some .cell)then(n,NameKind.cell)else(n,k)).lookup x=
  (names.lookup x).map λk=>if(k==NameKind.free&&env.scope.kind== .function&&env.kindOf x==some .cell)then NameKind.cell else k
 | [],x=>rfl
 |(n,k)::r,x=>by
  have ih:=eP (env:=env) r x;rw[List.map_cons];show List.lookup x ((if(k==NameKind.free&&env.scope.kind== .function&&env.kindOf n==some .cell)=true then(n,NameKind.cell)else(n,k))::_)=_;cases hx:x==n with
  |true=>
   have ex:x=n:=by simpa using hx
   subst ex
   by_cases hc:(k==NameKind.free&&env.scope.kind== .function&&env.kindOf x==some .cell)=true
   . rw[if_pos hc];simp only[List.lookup_cons,beq_self_eq_true,Option.map_some];rw[if_pos hc]
   . rw[if_neg hc];simp only[List.lookup_cons,beq_self_eq_true,Option.map_some];rw[if_neg hc]
  |false=>
   by_cases hc:(k==NameKind.free&&env.scope.kind== .function&&env.kindOf n==some .cell)=true
   . rw[if_pos hc];simp only[List.lookup_cons,hx];exact ih
   . rw[if_neg hc];simp only[List.lookup_cons,hx];exact ih
structure aR(own fr:List Str)(scope:Scope)(outer:Scope):Prop where
 kind:scope.kind= .function
 nocell: ∀y∈scope.names,y.2≠ .cell
 names: ∀y∈scope.names,y.2= .local->scope.names.lookup y.1=some .local
 nd:(own++fr).Nodup
 outs: ∀y∈scope.names,y.2= .free->outer.names.lookup y.1=some .cell\/outer.names.lookup y.1=some .free
 frs: ∀x∈fr,scope.names.lookup x=some .free
 owns: ∀x∈own,scope.names.lookup x=some .local
theorem aR.of{own fr:List Str}{sc out:Scope}(k:sc.kind= .function)(h:(∀y∈sc.names,y.2≠ .cell) ∧ (∀y∈sc.names,y.2= .local → sc.names.lookup y.1=some .local) ∧ (own++fr).Nodup ∧ (∀y∈sc.names,y.2= .free → out.names.lookup y.1=some .cell ∨ out.names.lookup y.1=some .free) ∧ (∀x∈fr,sc.names.lookup x=some .free) ∧ ∀x∈own,sc.names.lookup x=some .local):aR own fr sc out:=⟨k,h.1,h.2.1,h.2.2.1,h.2.2.2.1,h.2.2.2.2.1,h.2.2.2.2.2⟩
def cJ(X:Cx)(scope:Scope)(C:Addr)(N:List Str)(s:Shared)(H:Hp)(aA:List (Addr×Obj))(fp:List Addr):Cx:=
 {X with N:=N,s₀:=s,H₀:=H,env:=compEnvC scope (cA X.env scope.names []) C X.env,outer:=X.stack,stack:=X.stack,ex:=fp,fn:= λ_=>false,pn:=X.pn++aA,xe:= λ_ _=>False}
def iB(n:Nat)(idx:List Nat)(σ:St):St:=List.replicate n none++idx.map λj=>(σ[j]?).join
def bJ(J:It)(D:Addr)(g:TG)(tc:TT)(te:TE)(Q:VK)(σ0:St)(H1:Hp):Prop:= ∃W:Nat->Nat->List V->St->Hp->Prop,(∃m,W 0 m [] σ0 (aN H1 D (.lst [])))/\
 ∀i m ys σ H,H D=some (.lst ys)->W i m ys σ H->(J.stop i H/\Q (.ref D) H)\/(J.go i H/\ys.length<sizeLine/\ ∃N:List V->St->Hp->Prop,(∀sL σ' H',N sL σ' H'-> ∃m',m'<m/\W (i+1) m' sL σ' H')/\
  ∀x H',J.yld i H x H'->g x σ H' λσ2 H2=>tc σ2 H2 λb H3=>
   if b=true then te σ2 H3 λv H4=>H4 D=some (.lst ys)/\N (ys++[v]) σ2 (aN H4 D (.lst (ys++[v])))
   else H3 D=some (.lst ys)/\N ys σ2 H3)
def lK(wi:TI)(n:Nat)(idx:List Nat)(g:TG)(tc:TT)(te:TE):TE:= λσ H Q=>wi σ H λJ H1=> ∀D,H1 D=none->bJ J D g tc te Q (iB n idx σ) H1
section
variable {X:Cx}
theorem zcF{scope:Scope}{own fr:List Str}{C:Addr}{aA:List (Addr×Obj)}{σ:St}{H:Hp}{s:Shared}{fp:List Addr}(S:aR own fr scope X.env.scope)(I:aM X aA σ H s)(hf: ∀b∈fp,fB X aA H b)
 (hC:s.heap.objs.size<=C) (hfC: ∀b∈fp,b≠C):(cJ X scope C (own++fr) s H aA fp).Ok:=by
 have sub: ∀x c,(cA X.env scope.names []).lookup x=some c->X.env.cells.lookup x=some c:= λx c e=>(dZ _ _ x c e).elim id λz=>nomatch z
 have m8: ∀x,(compEnvC scope (cA X.env scope.names []) C X.env).kindOf x=(scope.names.lookup x).map λk=>if(k==NameKind.free&&X.env.scope.kind== .function&&X.env.kindOf x==some .cell)then NameKind.cell else k:= λx=>eP _ x
 refine⟨I.ok.mod,S.kind,I.ok.glob,I.ok.blt,hC,λx y c e1 e2=>I.ok.inj x y c (sub x c e1) (sub y c e2),λx hx=> ?_,λx c z=>absurd z Bool.false_ne_true,I.ok.hd,I.ok.frames,.inl rfl,λb hb=>⟨hfC b hb,λx c e=>(hf b hb).2.2.2.2.1 x c (sub x c e)⟩,
  I.bs,Nat.le_trans I.ok.bsz I.sz,λb o e hb=> ?_,λb hb z=> ?_,I.stack,I.stkFree⟩
 . have sA:(compEnvC scope (cA X.env scope.names []) C X.env).kindOf x=some .cell\/(compEnvC scope (cA X.env scope.names []) C X.env).kindOf x=some .free:=hx;rw[m8]at sA;cases e:scope.names.lookup x with
   |none=>rw[e]at sA;rcases sA with z|z<;>cases z
   |some k=>
    have hk:k= .free:=by
     rw[e]at sA;have nc:=S.nocell (x,k) (cI e);cases k with
     |free=>rfl
     |cell=>exact absurd rfl nc
     |«local»=>rcases sA with z|z<;>simp at z
     |globalImplicit=>rcases sA with z|z<;>simp at z
     |globalExplicit=>rcases sA with z|z<;>simp at z
    subst hk;have m:=cI e;refine jB _ _ x m ?_;exact I.ok.has x (S.outs _ m rfl)
 . rcases(hf b hb).2.2.2.1 with z|z
   . exact I.ok.noex b o e z
   . exact absurd (Nat.lt_of_lt_of_le (Heap.lt_size e) (Nat.le_trans I.ok.bsz z)) (Nat.lt_irrefl _)
 . have z':b∈frs X.stack:=z
   rcases List.mem_cons.mp (I.stkSub b z')with q|q
   . exact(hf b hb).2.1 q
   . exact(hf b hb).2.2.1 q
theorem rV{own fr:List Str}{idx:List Nat}{σ:St}(wA:idx.length=fr.length){i:Nat}{x:Str}{v:V}(h1:(own++fr)[i]?=some x)(h2:(iB own.length idx σ)[i]?=some (some v)):
 ∃(k j:Nat),fr[k]?=some x/\idx[k]?=some j/\σ[j]?=some (some v):=by
 unfold iB at h2
 by_cases hi:i<own.length
 . rw[List.getElem?_append_left (by simpa using hi),List.getElem?_replicate]at h2
   split at h2<;>cases h2
 . rw[List.getElem?_append_right (by simpa using hi)]at h2;rw[List.getElem?_append_right (by omega)]at h1;rw[List.length_replicate,List.getElem?_map]at h2;cases e:idx[i - own.length]? with
   |none=>rw[e]at h2;cases h2
   |some j=>
    rw[e]at h2;have h3:(σ[j]?).join=some v:=Option.some.inj h2;refine⟨i - own.length,j,h1,e,?_⟩;cases q:σ[j]? with
    |none=>rw[q]at h3;cases h3
    |some w=>rw[q]at h3;have h4:w=some v:=h3;rw[h4]
theorem lQ{scope:Scope}{own fr:List Str}{idx:List Nat}{aA:List (Addr×Obj)}{σ:St}{H:Hp}{s:Shared}{fp:List Addr}{h4:Heap}{tk:Nat}{m:Str->Option Value}(S:aR own fr scope X.env.scope)
 (wA:idx.length=fr.length) (m7: ∀(k:Nat) (x:Str) (j:Nat),fr[k]?=some x->idx[k]?=some j->X.N[j]?=some x)
 (I:aM X aA σ H s) (hf: ∀b∈fp,fB X aA H b) (hfs: ∀b∈fp,b<s.heap.objs.size) (hn:h4.Ns s.heap.objs.size m) (hk: ∀b o,s.heap.get? b=some o->h4.get? b=some o):
 aM (cJ X scope s.heap.objs.size (own++fr) s H aA fp) [] (iB own.length idx σ) H {s with heap:=h4,toks:=tk}:=by
 have sub: ∀x c,(cA X.env scope.names []).lookup x=some c->X.env.cells.lookup x=some c:= λx c e=>(dZ _ _ x c e).elim id λz=>nomatch z
 have hfC: ∀b∈fp,b≠s.heap.objs.size:= λb hb=>Nat.ne_of_lt (hfs b hb)
 have ok:=zcF (fp:=fp) S I hf (Nat.le_refl _) hfC
 refine⟨ok,rfl,I.bare,Un.kept hk,⟨m,hn,λi x v e1 e2 e3=> ?_⟩,λx c e=> ?_,I.hok.fresh (Nat.le_refl _),λx c e=>I.freeC x c (sub x c e),λp hp=> ?_,I.hok.kept hk,?_⟩
 . obtain⟨k,j,q1,q2,q3⟩:=rV wA e1 e2;have hN:=m7 k x j q1 q2;have hx:=List.mem_of_getElem? q1;have eI:=S.frs x hx;have zer:=S.outs _ (cI eI) rfl;obtain⟨m0,_,hl⟩:=I.loc;obtain⟨u,ru,lk⟩:=hl j x v hN q3 (zer.elim (λz=> .inr (.inl z)) λz=> .inr (.inr z));refine⟨u,ru,?_⟩;have mW:(compEnvC scope (cA X.env scope.names []) s.heap.objs.size X.env).kindOf x=some .cell\/(compEnvC scope (cA X.env scope.names []) s.heap.objs.size X.env).kindOf x=some .free:=by
    have q:=eP (env:=X.env) scope.names x;rw[eI]at q
    by_cases hc:(NameKind.free==NameKind.free&&X.env.scope.kind== .function&&X.env.kindOf x==some .cell)=true
    . refine .inl (q.trans ?_);simp only[Option.map_some];rw[if_pos hc]
    . refine .inr (q.trans ?_);simp only[Option.map_some];rw[if_neg hc]
   rcases lk with⟨kl,_⟩|⟨_,c,ec,cc⟩
   . have kl':X.env.scope.names.lookup x=some .local:=kl
     rcases zer with z|z<;>(rw[kl']at z;cases z)
   . obtain⟨c',ec'⟩:=jB scope.names [] x (cI eI) ⟨c,ec⟩;have e':=sub x c' ec';rw[ec]at e';cases e';obtain⟨o,ho,hd⟩:=cc;exact .inr ⟨mW,c,ec',o,hk c o ho,hd⟩
 . obtain⟨v,o,ho,hd⟩:=I.cell x c (sub x c e);exact⟨v,o,hk c o ho,hd⟩
 . have hp':p∈X.pn++aA:=by
    rcases List.mem_append.mp hp with z|z
    . exact z
    . exact nomatch z
   obtain⟨a1,a2,a3,a4,a5⟩:=I.pin p hp';refine⟨hk _ _ a1,a2,Nat.ne_of_lt (Heap.lt_size a1),λz=> ?_,a5⟩
   rcases List.mem_cons.mp (I.stkSub p.1 z)with q|q
   . exact a3 q
   . exact a4 q
 . show(iB own.length idx σ).length=(own++fr).length
   unfold iB;rw[List.length_append,List.length_append,List.length_replicate,bH,wA]
theorem nU{scope:Scope}{N:List Str}{aA:List (Addr×Obj)}{σ σ':St}{H H':Hp}{s s':Shared}{fp:List Addr}{h':Heap}
 (I:aM X aA σ H s) (hf: ∀b∈fp,fB X aA H b) (J:aM (cJ X scope s.heap.objs.size N s H aA fp) [] σ' H' s') (hs:Heap.SameBut s.heap.objs.size s'.heap h'):
 aM X aA σ H' {s' with heap:=h'}:=by
 have ne: ∀b o,s.heap.get? b=some o->b≠s.heap.objs.size:= λb o e=>Nat.ne_of_lt (Heap.lt_size e)
 have hCn:H' s.heap.objs.size=none:=J.free
 have u:=J.base
 refine I.call' (s':={s' with heap:=h'}) (ch:=fp) J.os ⟨λb o e n hb hx=> ?_,λb o e n hb hx=> ?_,u.free,λb o e hx=> ?_,u.tups,u.frzs,u.tbls⟩ (λb ob e=> ?_) J.bare λb hb=> ?_
 . exact(hs.2 b (ne b o e)).trans (u.keep b o e n hb hx)
 . obtain⟨sl,q⟩:=u.slot b o e n hb hx;exact⟨sl,(hs.2 b (ne b o e)).trans q⟩
 . obtain⟨o',q⟩:=u.there b o e hx;exact⟨o',(hs.2 b (ne b o e)).trans q⟩
 . refine(J.hok b ob e).stay (λc v hc q=>(hs.2 c ?_).trans q) (λ_ q=>q) λ_ _ q=>q;rintro rfl
   rcases hc with z|z
   . rw[<-z,hCn]at e;cases e
   . rw[hCn]at z;cases z
 . obtain⟨f0,f1,f2,f3,f4,f5⟩:=hf b hb;exact⟨f3,f1,f4,f5⟩
theorem kW{Y:Cx}{iU tg cV:Expr}{iJ:List Expr}{scope:Scope}{pos:Pos}{it D:Addr}{fp:List Addr}{tn:Nat->Heap->Prop}{J:It}{g:TG}{tc:TT}{te:TE}{Q:Hp->Prop}{W:Nat->Nat->List V->St->Hp->Prop}{R:Result->Shared->Prop}{s0:Shared}{m0:Nat}
 (hc:Y.calm=true) (hg:PG Y tg g) (ht:PTs Y iJ tc) (he:PE Y iU te) (hF: ∀v s,Y.xe v s->False) (T:oW Y.prog Y.w Y.K tg J fp it tn) (fpC: ∀{H':Hp},(∀b∈fp,H' b=none)-> ∀b∈fp,fB Y [] H' b)
 (jN: ∀i m ys σ H,H D=some (.lst ys)->W i m ys σ H->(J.stop i H/\Q H)\/(J.go i H/\ys.length<sizeLine/\ ∃N:List V->St->Hp->Prop,(∀sL σ' H',N sL σ' H'-> ∃m',m'<m/\W (i+1) m' sL σ' H')/\
  ∀x H',J.yld i H x H'->g x σ H' λσ2 H2=>tc σ2 H2 λb H3=>
   if b=true then te σ2 H3 λv H4=>H4 D=some (.lst ys)/\N (ys++[v]) σ2 (aN H4 D (.lst (ys++[v])))
   else H3 D=some (.lst ys)/\N ys σ2 H3))
 (done: ∀s6 σ H,aM Y [] σ H s6->Q H->R (.ok .next) s6)
 (h0: ∃i ys σ' H',aM Y [] σ' H' s0/\tn i s0.heap/\(∀b∈fp,H' b=none)/\H' D=some (.lst ys)/\W i m0 ys σ' H'):
 codeAny (model Y.prog Y.w) Y.A (.compLoop (.ListComp iU [⟨tg,cV,iJ,0⟩] scope pos) 0 (.ref it) (.ref D) Y.env) R s0:=by
 have zhH: ∀{α:Type} {m:Sem α} {Q Q':α->Shared->Prop} {s:Shared},wpAny (model Y.prog Y.w) Y.A m Q Y.xe s->(∀v s',Q v s'->Q' v s')->wpAny (model Y.prog Y.w) Y.A m Q' (λ_ _=>False) s:= λh k=>wpAny_mono h k hF
 refine kL (λn s'=> ∃i ys σ' H',aM Y [] σ' H' s'/\tn i s'.heap/\(∀b∈fp,H' b=none)/\H' D=some (.lst ys)/\W i n ys σ' H') ?_ m0 h0
 rintro n s5 ⟨i,ys,σ5,H5,I5,st5,fr5,hD5,w5⟩
 rcases jN i n ys σ5 H5 hD5 w5 with⟨stop,q⟩|⟨go,cQ,N,hN,step⟩
 . refine cH (T.done Y rfl rfl rfl hc i [] s5 σ5 H5 _ I5 (fpC fr5) st5 stop) λr s6 zz=> ?_;obtain⟨hr,I6⟩:=zz;subst hr;exact done s6 σ5 H5 I6 q
 . refine cH (T.item Y rfl rfl rfl hc i [] s5 σ5 H5 _ I5 (fpC fr5) st5 go) λr s6 zz=> ?_;obtain⟨u,hr,h6⟩:=zz;subst hr;refine cH h6 λ_ s7 zz=> ?_;obtain⟨x,H7,I7,r7,y7,st7,fr7⟩:=zz;have I7':=I7.pinned (fpC fr7) (T.obj _ _ st7);refine zhH (hg _ s7 σ5 H7 x u _ I7' r7 (step x H7 y7)) λ_ s8 zz=> ?_;obtain⟨σ8,H8,I8,q8⟩:=zz;refine zhH (ht _ s8 σ8 H8 _ I8 q8) λok s9 zz=> ?_;obtain⟨H9,I9,q9⟩:=zz;have again: ∀{σ':St} {H':Hp} {s':Shared} {sL:List V},aM Y ([]++oF fp s7.heap) σ' H' s'->H' D=some (.lst sL)->N sL σ' H'->
    ∃m,m<n/\ ∃i ys σ' H',aM Y [] σ' H' s'/\tn i s'.heap/\(∀b∈fp,H' b=none)/\H' D=some (.lst ys)/\W i m ys σ' H':= λ{σ' H' s' sL} I' hD' n'=>by
    obtain⟨m',hm,w'⟩:=hN sL σ' H' n';have pin: ∀b∈fp,∀o,s7.heap.get? b=some o->s'.heap.get? b=some o/\H' b=none:= λb hb o e=>by
     have q:=I'.pin (b,o) (List.mem_append_right _ (List.mem_append_right _ (gW hb e)));exact⟨q.1,q.2.1⟩
    refine⟨m',hm,i+1,sL,σ',H',I'.unpinned,T.keep _ _ _ st7 λb hb o e=>(pin b hb o e).1,λb hb=> ?_,hD',w'⟩;obtain⟨o,e,_⟩:=T.obj _ _ st7 b hb;exact(pin b hb o e).2
   cases ok with
   |false=>
    have q9':H9 D=some (.lst ys)/\N ys σ8 H9:=by simpa using q9
    simp only[Bool.false_eq_true,if_false];exact again I9 q9'.1 q9'.2
   |true=>
    simp only[if_true]at q9 ⊢;refine zhH (he _ s9 σ8 H9 _ I9 q9) λxv s10 zz=> ?_;obtain⟨v,H10,I10,r10,zuS,w10⟩:=zz;refine zhH (cZ _ s10 σ8 H10 (.ref D) [v] _ [xv] (λ_ H'=>H'=aN H10 D (.lst (ys++[v]))) I10 rfl (.cons r10 .nil) ⟨_,ys,v,rfl,rfl,zuS,cQ,rfl⟩) λ_ s11 zz=> ?_;obtain⟨_,H11,I11,_,e11⟩:=zz;subst e11;exact again I11 aG w10
theorem cS{iU tg cV:Expr}{iJ:List Expr}{scope:Scope}{own fr:List Str}{idx:List Nat}{wi:TI}{g:TG}{tc:TT}{te:TE}{pos:Pos}(hc:X.calm=true)(S:aR own fr scope X.env.scope)
 (hi:PI X tg cV wi) (hg: ∀C s H aA fp,PG (cJ X scope C (own++fr) s H aA fp) tg g) (ht: ∀C s H aA fp,PTs (cJ X scope C (own++fr) s H aA fp) iJ tc) (he: ∀C s H aA fp,PE (cJ X scope C (own++fr) s H aA fp) iU te)
 (wA:idx.length=fr.length:=by rfl) (m7: ∀(k:Nat) (x:Str) (j:Nat),fr[k]?=some x->idx[k]?=some j->X.N[j]?=some x)
 (hs: ∀x,foldedSetIterable cV X.env x=pure x:=by intro _;rfl):PE X (.ListComp iU [⟨tg,cV,iJ,0⟩] scope pos) (lK wi own.length idx g tc te):=by
 intro aA s σ H Q I h
 rw[eval_ListComp]
 have mS:closureFor scope X.env=pure (cA X.env scope.names []):=mM λx hx eI=>I.ok.has x.1 (S.outs x hx eI)
 refine wpAny_comprehension_free (use:=none) rfl hs mS S.kind S.names (cH (hi aA s σ H _ I h) λv s1 h1=>cH h1 λitv s2 h2=> ?_)
 obtain⟨it,fp,tn,J,H2,e,I2,T,sC,f2,h2⟩:=h2
 subst e
 refine wpAny_newObj_type ?_
 obtain⟨W,⟨m0,w0⟩,jN⟩:=h2 s2.heap.objs.size I2.fresh
 have I3:aM X aA σ (aN H2 s2.heap.objs.size (.lst [])) {s2 with heap:=s2.heap.push {cls:= .type "list",data:= .seq ([]:List Value).toArray},toks:=s2.toks}:=I2.lnew .nil (Nat.zero_le _)
 have sJ: ∀b∈fp,b<s2.heap.objs.size:= λb hb=>by
  obtain⟨o,e,_⟩:=T.obj _ _ sC b hb;exact Heap.lt_size e
 have f3: ∀b∈fp,fB X aA (aN H2 s2.heap.objs.size (.lst [])) b:= λb hb=>⟨by rw[aD (Nat.ne_of_lt (sJ b hb))];exact(f2 b hb).1,(f2 b hb).2⟩
 generalize yI:({s2 with heap:=s2.heap.push {cls:= .type "list",data:= .seq ([]:List Value).toArray},toks:=s2.toks}:Shared)=s3 at I3
 have hsz:s3.heap.objs.size=s2.heap.objs.size+1:=by rw[<-yI];exact Heap.size_push _ _
 have uR:tn 0 s3.heap:=T.keep _ _ _ sC λb hb o e=>by rw[<-yI];exact Heap.get?_push_of_some _ e
 refine wpAny_newFunctionEnv S.nocell (by intro y hy;simp at hy) (λh4 hn4 zft=> ?_) S.kind
 have tV: ∀b o,s3.heap.get? b=some o->h4.get? b=some o:= λb o e=>zft.extBut b o (Nat.ne_of_lt (Heap.lt_size e)) (Heap.get?_push_of_some _ e)
 have I4:=lQ (idx:=idx) (tk:=s3.toks+([]:List (Str×Value)).length) S wA m7 I3 f3 (λb hb=>by rw[hsz];exact Nat.lt_succ_of_lt (sJ b hb)) hn4 tV
 have fpC: ∀{H':Hp} (pl:List (Addr×Obj)),(∀p∈pl,∀b∈fp,p.1≠b)->(∀b∈fp,H' b=none)-> ∀b∈fp,fB (cJ X scope s3.heap.objs.size (own++fr) s3 (aN H2 s2.heap.objs.size (.lst [])) aA fp) pl H' b:= λ{H'} pl mF hn b hb=>by
  obtain⟨g0,g1,g2,g3,g4,g5⟩:=f3 b hb;refine⟨hn b hb,?_,λz=> ?_,.inl hb,λx c e=>g4 x c ((dZ _ _ x c e).elim id λz=>nomatch z),λp hp=> ?_⟩
  . show b≠s3.heap.objs.size
    exact Nat.ne_of_lt (by rw[hsz];exact Nat.lt_succ_of_lt (sJ b hb))
  . rcases List.mem_cons.mp (I3.stkSub b z)with q|q
    . exact g1 q
    . exact g2 q
  . rcases List.mem_append.mp hp with q|q
    . exact g5 p q
    . exact mF p q b hb
 have jR:codeAny (model X.prog X.w) X.A (.compLoop (.ListComp iU [⟨tg,cV,iJ,0⟩] scope pos) 0 (.ref it) (.ref s2.heap.objs.size) (compEnvC scope (cA X.env scope.names []) s3.heap.objs.size X.env))
  (compPost (model X.prog X.w) X.A X.xe none (EP X aA σ Q) (.ref s2.heap.objs.size) s3.heap.objs.size) {s3 with heap:=h4,toks:=s3.toks+([]:List (Str×Value)).length}:=by
  refine kW (Y:=cJ X scope s3.heap.objs.size (own++fr) s3 (aN H2 s2.heap.objs.size (.lst [])) aA fp) (W:=W) (m0:=m0) hc (hg _ _ _ _ _) (ht _ _ _ _ _) (he _ _ _ _ _) (λ_ _ z=>z) T (λhn=>fpC [] (λ_ z=>nomatch z) hn) jN (λs6 σ5 H5 I6 q=> ?_) ⟨0,[],_,_,I4,T.keep _ _ _ uR λb _ o e=>tV b o e,λb hb=>(f3 b hb).1,aG,w0⟩;obtain⟨m6,hn6,_⟩:=id I6.loc;refine⟨m6,hn6,λh' hsb=> ?_⟩;exact⟨.ref s2.heap.objs.size,H5,nU I3 f3 I6 hsb,rfl,q⟩
 exact codeAny_compStart_list jR (T.self _ 0 _ _ _ (T.keep _ _ _ uR λb _ o e=>tV b o e) jR)
end
theorem rD{J:It}{n:Nat}{item:Nat->V}{g:TG}{tc:TT}{te:TE}{σ0:St}{H1:Hp}{D:Addr}{Q:VK}(Pv:Nat->List V->St->Hp->Prop)(h0:Pv 0 [] σ0 (aN H1 D (.lst [])))(hn:n<=100000)
 (hgo: ∀i ys σ H,i<n->Pv i ys σ H->J.go i H/\ ∀x H',J.yld i H x H'->H'=H/\x=item i) (hst: ∀ys σ H,Pv n ys σ H->J.stop n H) (hl: ∀i ys σ H,Pv i ys σ H->ys.length<=i)
 (hs: ∀i ys σ H,i<n->H D=some (.lst ys)->Pv i ys σ H->g (item i) σ H λσ2 H2=>tc σ2 H2 λb H3=>
  if b=true then te σ2 H3 λv H4=>H4 D=some (.lst ys)/\Pv (i+1) (ys++[v]) σ2 (aN H4 D (.lst (ys++[v])))else H3 D=some (.lst ys)/\Pv (i+1) ys σ2 H3)
 (hd: ∀ys σ H,H D=some (.lst ys)->Pv n ys σ H->Q (.ref D) H):bJ J D g tc te Q σ0 H1:=by
 refine⟨λi m ys σ H=>m=n - i/\i<=n/\Pv i ys σ H,⟨n,by simp,Nat.zero_le _,h0⟩,?_⟩
 rintro i m ys σ H hD ⟨rfl,hi,p⟩
 by_cases eO:i<n
 . have hz:ys.length<sizeLine:=by
    have h1:=hl i ys σ H p;have h2:(100000:Nat)<sizeLine:=by rw[sizeLine_eq];decide
    omega
   obtain⟨go,yl⟩:=hgo i ys σ H eO p;refine .inr ⟨go,hz,Pv (i+1),λsL σ' H' p'=>⟨n - (i+1),by omega,rfl,eO,p'⟩,λx H' y=> ?_⟩;obtain⟨e1,e2⟩:=yl x H' y;subst e1 e2;exact hs i ys σ _ eO hD p
 . have e:i=n:=by omega
   subst e;exact .inl ⟨hst ys σ H p,hd ys σ H hD p⟩
theorem cO{lo:Int}{n:Nat}{g:TG}{tc:TT}{te:TE}{σ0:St}{H1:Hp}{D:Addr}{Q:VK}(Pv:Nat->List V->St->Hp->Prop)(h0:Pv 0 [] σ0 (aN H1 D (.lst [])))(hn:n<=100000)(hl: ∀i ys σ H,Pv i ys σ H->ys.length<=i)
 (hs: ∀i ys σ H,i<n->H D=some (.lst ys)->Pv i ys σ H->g (.int (lo+i)) σ H λσ2 H2=>tc σ2 H2 λb H3=>
  if b=true then te σ2 H3 λv H4=>H4 D=some (.lst ys)/\Pv (i+1) (ys++[v]) σ2 (aN H4 D (.lst (ys++[v])))else H3 D=some (.lst ys)/\Pv (i+1) ys σ2 H3)
 (hd: ∀ys σ H,H D=some (.lst ys)->Pv n ys σ H->Q (.ref D) H):bJ (tJ lo n) D g tc te Q σ0 H1:=
 rD (item:= λi=> .int (lo+i)) Pv h0 hn (λi ys σ H hi _=>⟨hi,λx H' y=>y⟩) (λ_ _ _ _=>Nat.le_refl _) hl hs hd
theorem fP{K:W.Frag}{a:Addr}{xs:List V}{g:TG}{tc:TT}{te:TE}{σ0:St}{H1:Hp}{D:Addr}{Q:VK}(Pv:Nat->List V->St->Hp->Prop)(h0:Pv 0 [] σ0 (aN H1 D (.lst [])))(hn:xs.length<=100000)(hl: ∀i ys σ H,Pv i ys σ H->ys.length<=i)
 (ha: ∀i ys σ H,Pv i ys σ H->aY K H a xs)
 (hs: ∀i x ys σ H,xs[i]?=some x->H D=some (.lst ys)->Pv i ys σ H->g x σ H λσ2 H2=>tc σ2 H2 λb H3=>
  if b=true then te σ2 H3 λv H4=>H4 D=some (.lst ys)/\Pv (i+1) (ys++[v]) σ2 (aN H4 D (.lst (ys++[v])))else H3 D=some (.lst ys)/\Pv (i+1) ys σ2 H3)
 (hd: ∀ys σ H,H D=some (.lst ys)->Pv xs.length ys σ H->Q (.ref D) H):bJ (zZ K a) D g tc te Q σ0 H1:=by
 refine rD (n:=xs.length) (item:= λi=>xs.getD i .non) Pv h0 hn (λi ys σ H hi p=> ?_) (λys σ H p=>⟨xs,ha _ _ _ _ p,Nat.le_refl _⟩) hl (λi ys σ H hi hD p=> ?_) hd
 . have e:xs[i]?=some xs[i]:=List.getElem?_eq_getElem hi;refine⟨⟨xs,xs[i],ha _ _ _ _ p,e⟩,λx H' y=>⟨y.1,?_⟩⟩;have q:=y.2 xs (ha _ _ _ _ p);rw[List.getD_eq_getElem?_getD,q];rfl
 . have e:xs[i]?=some (xs.getD i .non):=by rw[List.getD_eq_getElem?_getD,List.getElem?_eq_getElem hi];rfl
   exact hs i _ ys σ H e hD p
section
variable {X:Cx}
def zpN(_i j:Int):Prop:=0<j/\j<=2^100
theorem zL{n:Nat}(h:n<=2^100):n.log2<9000:=by
 by_cases h0:n=0
 . subst h0;decide
 . exact(Nat.log2_lt h0).mpr (Nat.lt_of_le_of_lt h (Nat.pow_lt_pow_right (by decide) (by decide)))
theorem xY:mZ X (binaryOp .FloorDiv) (rI zpN λi j=> .int (i / j)):=opI λi j _ _ _ _ _ hc q=>by
 have h1:(0:Int)<j:=hc.1
 have h2:j<=2^100:=hc.2
 have e:j.natAbs<=2^100:=by
  have:((j.natAbs:Nat):Int)<=((2^100:Nat):Int):=by rw[Int.natAbs_of_nonneg (by omega)];exact h2
  exact Int.ofNat_le.mp this
 exact floordiv_int (by omega) (by rw[Int.fdiv_eq_ediv_of_nonneg i (by omega)];exact q) (.inl (PyProof.noPylong_of_log2 (zL e)))
theorem yS{ys:List Str}: ∀{us:List Value},bK (ys.map V.str) us->StrsAre us ys:=by
 induction ys with
 |nil=>intro us h;cases h;exact .nil
 |cons y r ih=>
  intro us h;cases h with
  |cons a b=>
   obtain⟨t,rfl⟩:=a;exact .cons _ _ (ih b)
def zpd(K:W.Frag):V->List V->Hp->VK->Prop:= λx xs H Q=> ∃sep p ys,x= .str sep/\xs=[.ref p]/\aY K H p (ys.map V.str)/\(ys.map (·.length)).sum+ys.length * sep.length<=16777216/\Q (.str (Txt.join sep ys)) H
theorem zar:MtR X "str.join" (zpd X.K):=by
 intro aA s σ H x xs v us Q I rx rs h
 obtain⟨sep,p,ys,rfl,rfl,hq,hz,q⟩:=h
 obtain⟨t,rfl⟩:=rx
 obtain⟨u,rfl,ru⟩:=rs.one
 cases ru
 obtain⟨bC,r,pl,_⟩:=I.list hq
 exact join_list pl.isList (yS r) hz λt' k=>⟨.str (Txt.join sep ys),H,I.tok k,⟨_,rfl⟩,q⟩
def zlr:V->Option Int->Option Int->Hp->VK->Prop:= λx lo hi H Q=> ∃z,x= .str z/\z.length<=sizeLine/\Q (.str (Txt.slice z lo hi)) H
theorem zae:SlR X zlr:=by
 intro aA s σ H x v vl vu lo hi sl Q I rx hs pl pu h
 obtain⟨z,rfl,hz,q⟩:=h
 obtain⟨t,rfl⟩:=rx
 refine⟨"str",_,F.slot_str_getitem.lookup,typeIs_str _ _ _,?_⟩
 have fN: ∀t' k,EP X aA σ Q (.str (Txt.slice z lo hi) t') {s with toks:=k}:= λt' k=>⟨.str (Txt.slice z lo hi),H,I.tok k,⟨_,rfl⟩,q⟩
 cases pl with
 |none=>
  cases pu with
  |none=>exact wpAny_getItem_str_slice (l:=none) (u:=none) (st:=none) hs rfl (post_val_or_str ⟨Nat.le_trans (Txt.slice_le z _ _) hz,λt' k=>fN t' k⟩)
  |int j uj=>exact wpAny_getItem_str_slice (l:=none) (u:=some (j,uj)) (st:=none) hs rfl (post_val_or_str ⟨Nat.le_trans (Txt.slice_le z _ _) hz,λt' k=>fN t' k⟩)
 |int i ui=>
  cases pu with
  |none=>exact wpAny_getItem_str_slice (l:=some (i,ui)) (u:=none) (st:=none) hs rfl (post_val_or_str ⟨Nat.le_trans (Txt.slice_le z _ _) hz,λt' k=>fN t' k⟩)
  |int j uj=>exact wpAny_getItem_str_slice (l:=some (i,ui)) (u:=some (j,uj)) (st:=none) hs rfl (post_val_or_str ⟨Nat.le_trans (Txt.slice_le z _ _) hz,λt' k=>fN t' k⟩)
theorem aM.turnLaid{aA:List (Addr×Obj)}{σ:St}{H:Hp}{s:Shared}{h':Heap}{ch:List Addr}{T:Addr}{o:HO}{t':Nat}(I:aM X aA σ H s)(vX: ∀b∈ch,fB X aA H b)(keep: ∀b ob,b∉ch->s.heap.get? b=some ob->h'.get? b=some ob)
 (hT:s.heap.objs.size<=T) (new:cP X.prog X.w (aN H T o) h' T o):aM X aA σ (aN H T o) {s with heap:=h',toks:=t'}:=by
 have nT: ∀b ob,s.heap.get? b=some ob->b≠T:= λb ob e=>Nat.ne_of_lt (Nat.lt_of_lt_of_le (Heap.lt_size e) hT)
 have fT:H T=none:=I.hok.fresh hT
 have nch: ∀b u,H b=some u->b∉ch:= λb u e z=>by rw[(vX b z).1]at e;cases e
 refine I.step (g':=s.gens) (d':=s.drawn) (ch:=ch) (λb hb=> ?_) (λb ob _ _ hc e _=>keep b ob hc e) (λb ob _ _ hc e _=>⟨ob.slots,keep b ob hc e⟩) (λb ob _ e n=>by rw[aD (nT b ob e)];exact n)
  (λb ob hc e=>⟨ob,keep b ob hc e⟩) (λb xs e=>by rw[aD (aF e fT)];exact e) (λb ob u e=>by rw[aD (aF e fT)];exact e) (λb ps e=>⟨#[],by rw[aD (aF e fT),e];simp⟩) (λm hm=> ?_) (λb u e=> ?_) I.bare
 . obtain⟨_,f1,_,f3,f4,f5⟩:=vX b hb;exact⟨f3,f1,f4,f5⟩
 . obtain⟨ob,es,ep,ho,r⟩:=hm;exact⟨ob,es,ep,keep _ ob (λz=>(vX _ z).2.1 rfl) ho,r⟩
 . by_cases hb:b=T
   . subst hb;rw[aG]at e;cases e;exact new
   . rw[aD hb]at e;refine(I.hok b u e).stay (λc v hc q=>keep c v ?_ q) (λc q=>by rw[aD (aF q fT)];exact q) λc xs q=>by rw[aD (aF q fT)];exact q
     rcases hc with z|z
     . rw[z];exact nch b u e
     . exact nch c _ z
theorem aM.turnedL{aA:List (Addr×Obj)}{σ:St}{H:Hp}{s:Shared}{h':Heap}{ch:List Addr}{t':Nat}(I:aM X aA σ H s)(vX: ∀b∈ch,fB X aA H b)(keep: ∀b ob,b∉ch->s.heap.get? b=some ob->h'.get? b=some ob):
 aM X aA σ H {s with heap:=h',toks:=t'}:=by
 have nch: ∀b u,H b=some u->b∉ch:= λb u e z=>by rw[(vX b z).1]at e;cases e
 refine I.step (g':=s.gens) (d':=s.drawn) (ch:=ch) (λb hb=> ?_) (λb ob _ _ hc e _=>keep b ob hc e) (λb ob _ _ hc e _=>⟨ob.slots,keep b ob hc e⟩) (λb ob _ e n=>n)
  (λb ob hc e=>⟨ob,keep b ob hc e⟩) (λb xs e=>e) (λb ob u e=>e) (λb ps e=>⟨#[],by rw[e];simp⟩) (λm hm=> ?_) (λb u e=> ?_) I.bare
 . obtain⟨_,f1,_,f3,f4,f5⟩:=vX b hb;exact⟨f3,f1,f4,f5⟩
 . obtain⟨ob,es,ep,ho,r⟩:=hm;exact⟨ob,es,ep,keep _ ob (λz=>(vX _ z).2.1 rfl) ho,r⟩
 . refine(I.hok b u e).stay (λc v hc q=>keep c v ?_ q) (λc q=>q) λc xs q=>q
   rcases hc with z|z
   . rw[z];exact nch b u e
   . exact nch c _ z
end
def Its(x:Str):It:=⟨λi _=>i<x.cps.size,λi H v H'=>H'=H/\ ∃c,x.cps[i]?=some c/\v= .str ⟨#[c]⟩,λi _=>x.cps.size<=i⟩
theorem zag{ty:String}{x:Str}{t:Tok}{i:Nat}{h:Heap}{it:Addr}(st:h.IsStrIter it ty x t i): ∀b∈ [it],∃o,h.get? b=some o/\ ∀v,o.data≠ .cell v:= λb hb=>by
 have e:b=it:=by simpa using hb
 subst e
 obtain⟨o,e,c,d⟩:=st
 exact⟨o,e,λv z=>by rw[d]at z;cases z⟩
theorem zeQ{P:Program}{w:World}{K:W.Frag}{y:Str}{p:Pos}(it:Addr)(x:Str)(t:Tok):oW P w K (.Name y p) (Its x) [it] it (λi h=>h.IsStrIter it (strIterType x) x t i) where
 mem:=by simp
 obj:= λi h st=>zag st
 keep:= λi h h' st k=>by
  obtain⟨o,e,r⟩:=st;exact⟨o,k it (by simp) o e,r⟩
 item:=by
  intro X hP hw hK hc i aA s σ H E I hf st hg;subst hP hw hK;obtain⟨f0,f1,f2,f3,f4,f5⟩:=hf it (by simp);have eO:i<x.cps.size:=hg;have hi:x.cps[i]?=some x.cps[i]:=Array.getElem?_eq_getElem eO;have fN: ∀h',h'.IsStrIter it (strIterType x) x t (i+1)->Heap.SameBut it s.heap h'-> ∃u,some (Value.str ⟨#[x.cps[i]]⟩ s.toks)=some u/\
   wpAny (model X.prog X.w) X.A (letOwnedTupleGo (.Name y p) (.ref it) u) (λ_ s2=> ∃v H',aM X aA σ H' s2/\bA v u/\(Its x).yld i H v H'/\s2.heap.IsStrIter it (strIterType x) x t (i+1)/\ ∀b∈ [it],H' b=none) E {s with heap:=h',toks:=s.toks+1}:= λh' sM sb=>by
   have I1:aM X aA σ H {s with heap:=h',toks:=s.toks+1}:=I.turned (λb o hb e=>(sb.2 b hb).trans e) f0 f1 f3 f4 f5;exact⟨_,rfl,wpAny_pure ⟨.str ⟨#[x.cps[i]]⟩,H,I1,⟨_,rfl⟩,⟨rfl,_,hi,rfl⟩,sM,λb hb=>(hf b hb).1⟩⟩
  unfold strIterType at st fN ⊢;cases ha:x.cps.all (·<128)
  . rw[ha]at st fN;exact wpAny_pyNext_wide_item st hi λh' sM sb=>fN h' sM sb
  . rw[ha]at st fN;exact wpAny_pyNext_ascii_item st hi λh' sM sb=>fN h' sM sb
 done:=by
  intro X hP hw hK hc i aA s σ H E I hf st hg;subst hP hw hK;obtain⟨f0,f1,f2,f3,f4,f5⟩:=hf it (by simp);have hi:x.cps[i]?=none:=Array.getElem?_eq_none hg;have fN: ∀h',Heap.ExtBut it s.heap h'->(none:Option Value)=none/\aM X aA σ H {s with heap:=h'}:= λh' eb=>⟨rfl,I.turned (t':=s.toks) (λb o hb e=>eb b o hb e) f0 f1 f3 f4 f5⟩;unfold strIterType at st;cases ha:x.cps.all (·<128)
  . rw[ha]at st;exact wpAny_pyNext_wide_end (I.ok.hd hc) st hi λh' eb=>fN h' eb
  . rw[ha]at st;exact wpAny_pyNext_ascii_end (I.ok.hd hc) st hi λh' eb=>fN h' eb
 self:= λA i s Q E st h=>by
  unfold strIterType at st;cases ha:x.cps.all (·<128)
  . rw[ha]at st;exact wpAny_pyIter_striter_wide st h
  . rw[ha]at st;exact wpAny_pyIter_striter_ascii st h
def zuQ(tl:TE):TI:= λσ H R=>tl σ H λx H1=> ∃z,x= .str z/\R (Its z) H1
theorem zkp{X:Cx}{y:Str}{p:Pos}{l:Expr}{tl:TE}(hl:PE X l tl):PI X (.Name y p) l (zuQ tl):=by
 intro aA s σ H R I h
 refine cH (hl aA s σ H _ I h) λv s1 ⟨x,H1,I1,r1,q1⟩=> ?_
 obtain⟨z,e,q⟩:=q1
 subst e
 obtain⟨t,rfl⟩:=r1
 refine wpAny_pyIter_strU ?_
 refine⟨s1.heap.objs.size,[s1.heap.objs.size],_,_,H1,rfl,I1.kept (t':=s1.toks) λb o e=>Heap.get?_push_of_some _ e,zeQ _ z t,⟨_,Heap.get?_push_size _ rfl,rfl,rfl⟩,λb hb=> ?_,q⟩
 have e:b=s1.heap.objs.size:=by simpa using hb
 subst e
 exact I1.fpOk (Nat.le_refl _) (I1.hok.fresh (Nat.le_refl _))
theorem zek{z:Str}{g:TG}{tc:TT}{te:TE}{σ0:St}{H1:Hp}{D:Addr}{Q:VK}(Pv:Nat->List V->St->Hp->Prop)(h0:Pv 0 [] σ0 (aN H1 D (.lst [])))(hn:z.cps.size<=100000)(hl: ∀i ys σ H,Pv i ys σ H->ys.length<=i)
 (hs: ∀i c ys σ H,z.cps[i]?=some c->H D=some (.lst ys)->Pv i ys σ H->g (.str ⟨#[c]⟩) σ H λσ2 H2=>tc σ2 H2 λb H3=>
  if b=true then te σ2 H3 λv H4=>H4 D=some (.lst ys)/\Pv (i+1) (ys++[v]) σ2 (aN H4 D (.lst (ys++[v])))else H3 D=some (.lst ys)/\Pv (i+1) ys σ2 H3)
 (hd: ∀ys σ H,H D=some (.lst ys)->Pv z.cps.size ys σ H->Q (.ref D) H):bJ (Its z) D g tc te Q σ0 H1:=by
 refine rD (n:=z.cps.size) (item:= λi=> .str ⟨#[z.cps.getD i 0]⟩) Pv h0 hn (λi ys σ H hi p=>⟨hi,λx H' y=> ?_⟩) (λys σ H p=>Nat.le_refl _) hl (λi ys σ H hi hD p=> ?_) hd
 . obtain⟨e,c,e1,e2⟩:=y;refine⟨e,?_⟩;rw[e2,Array.getD_eq_getD_getElem?,e1];rfl
 . have e:z.cps[i]?=some (z.cps.getD i 0):=by rw[Array.getD_eq_getD_getElem?];simp[hi]
   exact hs i _ ys σ H e hD p
def Ite(K:W.Frag)(a:Addr):It:=
 ⟨λi H=> ∃xs x,aY K H a xs/\xs[i]?=some x,λi H v H'=> ∃T,H T=none/\v= .ref T/\ ∀xs,aY K H a xs-> ∃x,xs[i]?=some x/\H'=aN H T (.tup [.int i,x]),λi H=> ∃xs,aY K H a xs/\xs.length<=i⟩
theorem zcK{P:Program}{w:World}{K:W.Frag}{elts:List Expr}{k:Nat}{pos:Pos}(a e it:Addr)(mX:e≠it):oW P w K (.Tuple elts k pos) (Ite K a) [e,it] e (λi h=>(∃old,IsEnum h e it i old)/\h.IsListIter it a i) where
 mem:=by simp
 obj:= λi h st b hb=>by
  obtain⟨⟨old,he⟩,o,ho,c,d⟩:=st
  rcases List.mem_cons.mp hb with z|z
  . subst z;exact⟨_,he,λv q=>by
     have q':Data.fields _=Data.cell v:=q;cases q'⟩
  . have z':b=it:=by simpa using z
    subst z';exact⟨o,ho,λv q=>by rw[d]at q;cases q⟩
 keep:= λi h h' st kk=>by
  obtain⟨⟨old,he⟩,hl⟩:=st;exact⟨⟨old,kk e (by simp) _ he⟩,hl.at λo q=>kk it (by simp) o q⟩
 item:=by
  intro X hP hw hK hc i aA s σ H E I hf st hg;subst hP hw hK;obtain⟨xs,x,hq,hx⟩:=hg;obtain⟨⟨old,he⟩,hl⟩:=st;obtain⟨bC,rv,pl,hz⟩:=I.list hq;obtain⟨u,hu,ru⟩:=rv.get hx;refine wpAny_pyNext_enum_item he hl pl.isList (x:=u) (by simpa using hu) mX λh' eo li tp hsz kk=> ?_;refine⟨_,rfl,wpAny_letOwnedTupleGo_enum (s:={s with heap:=h',toks:=s.toks+1}) eo λh2 en sb=> ?_⟩;have hTe:s.heap.objs.size≠e:=Nat.ne_of_gt (Heap.lt_size he);have yV:h2.get? s.heap.objs.size=some {cls:= .type "tuple",data:= .seq #[.int i s.toks,u]}:=(sb.2 _ hTe).trans tp;have kp: ∀b ob,b∉ [e,it]->s.heap.get? b=some ob->h2.get? b=some ob:= λb ob hb q=>by
   have h1:b≠e:= λz=>hb (by simp[z]);have h2':b≠it:= λz=>hb (by simp[z]);exact(sb.2 b h1).trans (kk b ob h1 h2' q)
  have I2:aM X aA σ (aN H s.heap.objs.size (.tup [.int i,x])) {s with heap:=h2,toks:=s.toks+1}:=I.turnLaid (o:= .tup [.int i,x]) (t':=s.toks+1) hf kp (Nat.le_refl _)
   ⟨by show 2<=sizeLine;rw[sizeLine_eq];decide,[.int i s.toks,u],.cons ⟨_,rfl⟩ (.cons ru .nil),⟨_,yV,rfl,_,rfl⟩⟩
  refine⟨.ref s.heap.objs.size,_,I2,rfl,⟨_,I.fresh,rfl,λys hy=>⟨x,by rw[I.list_inj hy hq];exact hx,rfl⟩⟩,⟨⟨_,en⟩,li.extBut sb.extBut (Ne.symm mX)⟩,λb hb=> ?_⟩;have eO:b≠s.heap.objs.size:=by
   obtain⟨o,ho,_⟩: ∃o,s.heap.get? b=some o/\True:=by
    rcases List.mem_cons.mp hb with z|z
    . subst z;exact⟨_,he,trivial⟩
    . have z':b=it:=by simpa using z
      subst z';obtain⟨o,ho,_⟩:=hl;exact⟨o,ho,trivial⟩
   exact Nat.ne_of_lt (Heap.lt_size ho)
  rw[aD eO];exact(hf b hb).1
 done:=by
  intro X hP hw hK hc i aA s σ H E I hf st hg;subst hP hw hK;obtain⟨xs,hq,hx⟩:=hg;obtain⟨⟨old,he⟩,hl⟩:=st;obtain⟨bC,rv,pl,hz⟩:=I.list hq;have cQ:=rv.length;exact wpAny_pyNext_enum_end (I.ok.hd hc) he hl pl.isList (by simp;omega) λh' eb=>⟨rfl,I.turnedL (t':=s.toks) hf λb ob hb q=>eb b ob (λz=>hb (by simp[z])) q⟩
 self:= λA i s Q E st h=>by
  obtain⟨⟨old,he⟩,_⟩:=st;exact wpAny_pyIter_enum he h
def zng(K:W.Frag)(ta:TA):TI:= λσ H R=>ta σ H λvs H1=> ∃a,vs=[.ref a]/\(∃xs,aY K H1 a xs)/\R (Ite K a) H1
theorem zaF{X:Cx}{elts:List Expr}{k:Nat}{oT:Pos}{l:Expr}{ta:TA}{p pos:Pos}(hg:Gl X "enumerate")(hm:X.mg "enumerate" =none)(ha:PA X [l] ta)(hs:starEach [l] X.env=[(false,eval l X.env)]:=by rfl):
 PI X (.Tuple elts k oT) (.Call (.Name "enumerate" p) [l] [] pos) (zng X.K ta):=by
 intro aA s σ H R I h
 refine Call_ (iV I hg hm (show bootBuiltins "enumerate" =some (.type "enumerate") by decide+kernel) (PyProof.Rows.callWith_type1 (cH (ha pos aA s σ H _ I h) λus s1 ⟨vs,H1,I1,r1,q1⟩=> ?_) hs rfl))
 obtain⟨a,e,⟨xs,hq⟩,q⟩:=q1
 subst e
 obtain⟨u,rfl,ru⟩:=r1.one
 cases ru
 obtain⟨bC,rv,pl,hz⟩:=I1.list hq
 refine call_enumerate_list pl.isList λh' en li hsz kk=> ?_
 have hT:(Shared.mk h' s1.gens s1.drawn s1.toks s1.os).TypeIs (.ref (s1.heap.objs.size+1)) "enumerate" :=⟨_,en,rfl⟩
 have I2:aM X aA σ H1 {s1 with heap:=h'}:=I1.kept (t':=s1.toks) kk
 have T:=zcK (P:=X.prog) (w:=X.w) (K:=X.K) (elts:=elts) (k:=k) (pos:=oT) a (s1.heap.objs.size+1) s1.heap.objs.size (Nat.ne_of_gt (Nat.lt_succ_self _))
 refine T.self X.A 0 {s1 with heap:=h'} _ _ ⟨⟨_,en⟩,li⟩ ⟨_,_,_,_,H1,rfl,I2,T,⟨⟨_,en⟩,li⟩,λb hb=> ?_,q⟩
 have mE:s1.heap.objs.size<=b:=by
  rcases List.mem_cons.mp hb with z|z
  . subst z;exact Nat.le_succ _
  . have z':b=s1.heap.objs.size:=by simpa using z
    subst z';exact Nat.le_refl _
 exact I1.fpOk mE (I1.hok.fresh mE)
theorem zeL{t1 t2:TS}{D:gK}{σ:St}{H:Hp}(h:let D0:gK:=D;let σ0:St:=σ;let U2:TS:=t2;cC t1 U2 D0 σ0 H):(cC t1 t2) D σ H:=h
theorem wH{t1 t2 t3:TS}{D:gK}{σ:St}{H:Hp}(h:let D0:gK:=D;let σ0:St:=σ;let U3:TS:=t3;let U2:TS:=cC t2 U3;cC t1 U2 D0 σ0 H):(cC t1 (cC t2 t3)) D σ H:=h
theorem zhU{t1 t2 t3 t4:TS}{D:gK}{σ:St}{H:Hp}(h:let D0:gK:=D;let σ0:St:=σ;let U4:TS:=t4;let U3:TS:=cC t3 U4;let U2:TS:=cC t2 U3;cC t1 U2 D0 σ0 H):(cC t1 (cC t2 (cC t3 t4))) D σ H:=h
theorem zjb{t1 t2 t3 t4 t5:TS}{D:gK}{σ:St}{H:Hp}(h:let D0:gK:=D;let σ0:St:=σ;let U5:TS:=t5;let U4:TS:=cC t4 U5;let U3:TS:=cC t3 U4;let U2:TS:=cC t2 U3;cC t1 U2 D0 σ0 H):(cC t1 (cC t2 (cC t3 (cC t4 t5)))) D σ H:=h
theorem zjn{t1 t2 t3 t4 t5 t6:TS}{D:gK}{σ:St}{H:Hp}(h:let D0:gK:=D;let σ0:St:=σ;let U6:TS:=t6;let U5:TS:=cC t5 U6;let U4:TS:=cC t4 U5;let U3:TS:=cC t3 U4;let U2:TS:=cC t2 U3;cC t1 U2 D0 σ0 H):(cC t1 (cC t2 (cC t3 (cC t4 (cC t5 t6))))) D σ H:=h
theorem zof{t1 t2 t3 t4:TS}{D:gK}{σ:St}{H:Hp}{i:Nat}{v:V}(h:let D0:gK:=D;let σ0:St:=σ.set i (some v);let U4:TS:=t4;let U3:TS:=cC t3 U4;let U2:TS:=cC t2 U3;cC t1 U2 D0 σ0 H):bD i v σ H λσ2 H2=>(cC t1 (cC t2 (cC t3 t4))) D σ2 H2:=h
end L2
namespace L2
open PySem PySem.Spec PyProof.Rows PySem.W
open Builtin Builtin.ObjectAttr
section
variable {prog:Program}{w:World}{A:Around}{h:Heap}{g:Array GenState}{d:Drawn}{tk:Nat}{os:OsState}
variable {nm q:Str}{C N:Addr}{bs bm:List Value}{ztS:Bool}{sn:List Str}{sub:List Value}{ab:Bool}{col:Option Bool}{dd:Option Addr}{k0 k1 k2 k3 k5:Option Value}
end
end L2
namespace L2
open PySem PySem.Spec PyProof.Rows PySem.W
open Builtin Builtin.ObjectAttr
section
variable {prog:Program}{w:World}{A:Around}{E:Value->Shared->Prop}{s:Shared}{K:Frag}{x C M t:Addr}{ox:Obj}{od:Option Obj}{name:Str}{v:Value}
end
end L2
namespace L2
open PySem PySem.Spec PyProof.Rows
variable {s:Shared}{P:Program}{w:World}{A:Around}{E:Value->Shared->Prop}
section
variable {X:Cx}{aA:List (Addr×Obj)}{σ:St}{H:Hp}
end
section
variable {X:Cx}{C M:Addr}
end
def zuT(P:Program)(w:World)(led:Bool)(h:Heap)(a:Addr)(zs:List Str):Prop:=
 ∃o es ep t,h.get? a=some o/\o.ExactSet/\o.data= .set es ep t/\ElemsOf (aV P w) es.toList/\(∃us:List Value,(es.toList.map (·.2)).Perm us/\StrsAre us zs)/\zs.Nodup
  /\es.size<scanBound/\t.fits es.size=true/\t.led=led/\(1<=es.size->t.plain=false)
abbrev lE(w:World):Bool:= !(w.params.followText "set-order")
abbrev nE(w:World):Obj:={cls:= .type "set",dict:=none,data:= .set #[] 0 (.fresh 0 0 (lE w))}
section
theorem oM{rest:List Value}{Q₁:Value->Shared->Prop}(hc:checkBuiltinCall "set.__new__" ⟨.type "set" ::rest,[]⟩=pure ())
 (h:Q₁ (.ref s.heap.objs.size) {s with heap:=s.heap.push (nE w)}):codeAny (model P w) A (.call (.builtin "set.__new__") ⟨.type "set" ::rest,[]⟩) (wants Q₁ E) s:=by
 refine codeAny_of_tree (show wpAny _ A.in1 (do checkBuiltinCall "set.__new__" ⟨.type "set" ::rest,[]⟩;again (.builtin "set.__new__" ⟨.type "set" ::rest,[]⟩)) _ _ s from ?_)
 refine wpAny_bind (wpAny_of_eq hc (wpAny_pure ⟨plainId_quiet PySem.F.plain_set_new _,codeAny_builtin PySem.F.entry_set_new ?_⟩))
 rw[PySem.Around.under_plainId PySem.F.plain_set_new _]
 have zlB:=PySem.sub_set_self
 obtain⟨hp,g,d,tk,os⟩:=s
 unfold Builtin.«set.__new__»
 unfold Builtin.Frozenset.newClass
 dsimp only
 wp_walk
 refine wpAny_askSetting (wpAny_pure ?_)
 simp only[newObj]
 exact wpAny_bind (wpAny_alloc (wpAny_pure (wpAny_pure h)))
def zsC(l:List Str):List Str:=l.foldl (λσ v=>if v∈σ then σ else σ++[v]) []
variable {R:Result->Shared->Prop}{I:Addr}{fp wr:List Addr}{G:Array GenState->Array GenState->Prop}{n:Nat}{Pv:Nat->Value->Prop}{St:Nat->Shared->Prop}
end
section
variable {M:Model}
theorem uF{src:Source}{n:Nat}{Q:Nat->Shared->Prop}(hn:n≠0)(h: ∀i,i<n-> ∀d,Q i {s with drawn:=d}):wpAny M A (choose src n) Q E s:=by
 intro Γ p hc
 exact⟨hn,h _ (Nat.mod_lt _ (Nat.pos_of_ne_zero hn)) _⟩
theorem jT{α:Type}: ∀(l:List α) (i:Nat) (h:i<l.length),(l[i]::l.eraseIdx i).Perm l
 |_::_,0,_=> .refl _
 |x::xs,i+1,h=>by
  simp only[List.getElem_cons_succ,List.eraseIdx_cons_succ];exact(List.Perm.swap x _ _).trans (.cons x (jT xs i (by simpa using h)))
theorem jV{α:Type}: ∀(n:Nat) (xs:List α) {Q:List α->Shared->Prop} {s:Shared},n=xs.length->(∀ys d,ys.Perm xs->Q ys {s with drawn:=d})->wpAny M A (drawOrder n xs) Q E s
 |0,xs,Q,s,e,h=>by
  have:xs=[]:=List.length_eq_zero_iff.mp e.symm;subst this;exact wpAny_pure (h [] s.drawn .nil)
 |n+1,[],Q,s,e,h=>by cases e
 |n+1,x::xs,Q,s,e,h=>by
  refine wpAny_bind (uF (by simp) λi hi d=> ?_);have hg:(x::xs)[i]?=some ((x::xs)[i]):=List.getElem?_eq_getElem hi;rw[hg];refine wpAny_bind (jV n _ (by rw[List.length_eraseIdx_of_lt hi];simp at e ⊢;omega) λys d' hp=>wpAny_pure (h _ _ ?_));exact(List.Perm.cons _ hp).trans (jT _ _ hi)
end
namespace F
theorem entry_set_iter:entryFor table "set.__iter__" =some Builtin.«frozenset.__iter__»:=entryFor_alias (id':= "frozenset.__iter__") (by kernel_rfl) (by first|rfl|decide+kernel) (by decide+kernel) (by kernel_rfl)
theorem slot_setit_next:Slot "set_iterator" "__next__" "set_iterator.__next__" :=
 .of (owner:= "set_iterator") (n:= "__next__") (by rw[typeLookup_type,builtinLookup_eq_fast];kernel_rfl) (by decide+kernel) (by decide+kernel) (by decide+kernel)
  (by first|exact .inl (by decide+kernel)|exact .inr (by decide+kernel)) (by rw[isSubtype_type];kernel_rfl)
theorem entry_setit_next:entryFor table "set_iterator.__next__" =some Builtin.«set_iterator.__next__»:=entryFor_of_tree (by kernel_rfl)
theorem args_setit_next(a:Value):argsOk "set_iterator.__next__" ⟨[a],[]⟩:=by unfold argsOk;kernel_rfl
end F
abbrev gM(f:Value)(i:Nat)(S:Addr)(n ep:Nat):Obj:={cls:= .type "set_iterator",data:= .fields #[f,rawInt i,.ref S,rawInt n,rawInt ep]}
theorem zdQ{S:Addr}{o:Obj}{es:Array (Int×Value)}{ep:Nat}{t:SetTable}{Q:Bool->Shared->Prop}(ho:s.heap.get? S=some o)(hd:o.data= .set es ep t)(hf:t.fits es.size=true)
 (h:Q (!(w.params.followText "set-order")&&(!t.plain&&decide (es.size>1))) s):wpAny (model P w) A (setDrawn S) Q E s:=by
 unfold setDrawn
 refine wpAny_bind (wpAny_setState_of ho hd hf ?_)
 refine wpAny_bind (wpAny_bind (wpAny_askSetting (wpAny_pure ?_)))
 exact wpAny_pure h
theorem zdZ{S:Addr}{o:Obj}{es:Array (Int×Value)}{ep:Nat}{t:SetTable}{Q:Value->Shared->Prop}(ho:s.heap.get? S=some o)(hex:o.ExactSet)(hd:o.data= .set es ep t)(hf:t.fits es.size=true)(hb:es.size<scanBound)
 (h1:(!(w.params.followText "set-order")&&(!t.plain&&decide (es.size>1)))=false->Q (.ref s.heap.objs.size) {s with heap:=s.heap.push (gM (rawInt 0) 0 S es.size ep)})
 (h2:(!(w.params.followText "set-order")&&(!t.plain&&decide (es.size>1)))=true-> ∀(ps:List Nat) (d:Drawn),ps.Perm (List.range es.size)->
  Q (.ref (s.heap.objs.size+1)) {s with drawn:=d,heap:=(s.heap.push {cls:= .type "tuple",data:= .seq (ps.map λi:Nat=>rawInt i).toArray}).push (gM (.ref s.heap.objs.size) 0 S es.size ep)}):
 wpAny (model P w) A (pyIter (.ref S)) Q E s:=by
 have hT:s.TypeIs (.ref S) "set" :=⟨o,ho,hex.1⟩
 refine wpAny_pyIter_slot hT PySem.F.slot_set_iter (wpAny_call_entry PySem.F.slot_set_iter hT F.entry_set_iter ?_ (PySem.F.args_set_iter_1 _))
 unfold Builtin.«frozenset.__iter__»
 refine wpAny_bind (show wpAny _ _ (pure S) _ _ _ from wpAny_pure ?_)
 refine wpAny_bind (show wpAny _ _ (setEntries S>>= λe=>pure e.size) _ _ _ from wpAny_bind (show wpAny _ _ (setState S>>= λe=>pure e.1) _ _ _ from wpAny_bind (wpAny_setState_of ho hd hf (wpAny_pure (wpAny_pure ?_)))))
 refine wpAny_bind (zdQ ho hd hf ?_)
 cases hq:(!(w.params.followText "set-order")&&(!t.plain&&decide (es.size>1)))
 . rw[if_neg (λz=>nomatch z)];refine wpAny_bind (wpAny_pure (wpAny_bind (wpAny_setEpoch_of ho hd hf ?_)));exact wpAny_bind (wpAny_newObj_type (wpAny_pure ⟨_,rfl,"set_iterator",_,⟨_,Heap.get?_push_size _ rfl,rfl⟩,F.slot_setit_next.lookup,h1 hq⟩))
 . rw[if_pos rfl];refine wpAny_bind (jV _ _ (by rw[List.length_range]) λps d hp=> ?_);have hz:(ps.map λi:Nat=>rawInt i).length<=sizeLine:=by
    rw[bH,hp.length_eq,List.length_range];exact fits_of_scanBound hb
   refine wpAny_bind (wpAny_newTuple (wpAny_bind (wpAny_setEpoch_of (Heap.get?_push_of_some _ ho) hd hf ?_)) hz);refine wpAny_bind (wpAny_newObj_type (wpAny_pure ⟨_,rfl,"set_iterator",_,⟨_,Heap.get?_push_size _ rfl,rfl⟩,F.slot_setit_next.lookup,?_⟩));have e:(s.heap.push {cls:= .type "tuple",data:= .seq (ps.map λi:Nat=>rawInt i).toArray}).objs.size=s.heap.objs.size+1:=Heap.size_push _ _;rw[e];exact h2 hq ps d hp
end L2
namespace L2
open PySem PySem.Spec PyProof.Rows
variable {P:Program}{w:World}{A:Around}{s:Shared}{I S T a C:Addr}{ep:Nat}{X:Cx}{e:Expr}{to:TE}{name:Str}{rA iE pos:Pos}{H:Hp}{aA:List (Addr×Obj)}{σ:St}{y:V}{u:Value}{base:Heap}{env:Env}{outer:List Env}{Q:Unit->Shared->Prop}
section
variable {E:Value->Shared->Prop}{i:Nat}{es:Array (Int×Value)}{t:SetTable}{o:Obj}
theorem fZ{Q:Array (Int×Value)->Shared->Prop}(ho:s.heap.get? S=some o)(hd:o.data= .set es ep t)(hf:t.fits es.size=true)(h:Q es s):wpAny (model P w) A (setEntries S) Q E s:=by
 unfold setEntries
 exact wpAny_bind (wpAny_setState_of ho hd hf (wpAny_pure h))
theorem u4{eC:Array Value}{p:Nat}{pk:Tok}{hx:Int}{x:Value}{n:Nat}{Q:Option Value->Shared->Prop}(jH:s.heap.get? I=some (gM (.ref T) i S es.size ep))(ho:s.heap.get? S=some o)(hd:o.data= .set es ep t)(hf:t.fits es.size=true)
 (hT:s.heap.get? T=some {cls:= .type "tuple",data:= .seq eC n}) (hp:eC[i]?=some (.int p pk)) (he:es[p]?=some (hx,x))
 (h: ∀h',h'.get? I=some (gM (.ref T) (i+1) S es.size ep)->Heap.SameBut I s.heap h'->Q (some x) {s with heap:=h'}):wpAny (model P w) A (pyNext (.ref I)) Q E s:=by
 have b7:s.TypeIs (.ref I) "set_iterator" :=⟨_,jH,rfl⟩
 unfold pyNext
 refine wpAny_bind (wpAny_attempt (wpAny_callSpecial?_slot (name:=Str.ofString "__next__") b7 F.slot_setit_next (wpAny_call_entry F.slot_setit_next b7 F.entry_setit_next ?_ (F.args_setit_next _))))
 unfold Builtin.«set_iterator.__next__»
 refine wpAny_bind (wpAny_pure (wpAny_bind (show wpAny _ _ (fieldsOf (.ref I)) _ _ _ from wpAny_fieldsOf jH rfl ?_)))
 refine(show wpAny _ _ (setEntries S>>=_) _ _ _ from wpAny_bind (fZ ho hd hf ?_))
 rw[if_neg (by simp)]
 refine(show wpAny _ _ (seqItems? (.ref T)>>=_) _ _ _ from wpAny_bind (wpAny_seqItems hT rfl ?_))
 simp only[Int.toNat_natCast,hp]
 refine wpAny_bind (show wpAny _ _ (setState S>>=_) _ _ _ from wpAny_bind (wpAny_setState_of ho hd hf ?_))
 dsimp only
 rw[if_neg (by simp),he]
 exact wpAny_pure (wpAny_bind (wpAny_setField jH rfl (by simp) (wpAny_pure ⟨x,rfl,wpAny_pure (h _ (Heap.get?_update_self _ jH rfl) (Heap.SameBut.update ..))⟩)))
theorem rT{eC:Array Value}{n:Nat}{Q:Option Value->Shared->Prop}(hh:A.handled=none)(jH:s.heap.get? I=some (gM (.ref T) i S es.size ep))(ho:s.heap.get? S=some o)(hd:o.data= .set es ep t)(hf:t.fits es.size=true)
 (hT:s.heap.get? T=some {cls:= .type "tuple",data:= .seq eC n}) (hp:eC[i]?=none)
 (h: ∀h',Heap.ExtBut I s.heap h'->Q none {s with heap:=h'}):wpAny (model P w) A (pyNext (.ref I)) Q E s:=by
 have b7:s.TypeIs (.ref I) "set_iterator" :=⟨_,jH,rfl⟩
 unfold pyNext
 refine wpAny_bind (wpAny_attempt (wpAny_callSpecial?_slot (name:=Str.ofString "__next__") b7 F.slot_setit_next (wpAny_call_entry F.slot_setit_next b7 F.entry_setit_next ?_ (F.args_setit_next _))))
 unfold Builtin.«set_iterator.__next__»
 refine wpAny_bind (wpAny_pure (wpAny_bind (show wpAny _ _ (fieldsOf (.ref I)) _ _ _ from wpAny_fieldsOf jH rfl ?_)))
 refine(show wpAny _ _ (setEntries S>>=_) _ _ _ from wpAny_bind (fZ ho hd hf ?_))
 rw[if_neg (by simp)]
 refine(show wpAny _ _ (seqItems? (.ref T)>>=_) _ _ _ from wpAny_bind (wpAny_seqItems hT rfl ?_))
 simp only[Int.toNat_natCast,hp]
 refine wpAny_bind (wpAny_setField jH rfl (by simp) (wpAny_bind (wpAny_setField (Heap.get?_update_self _ jH rfl) rfl (by simp) ?_)))
 refine(show wpAny _ _ (newExc (.type "StopIteration") []>>=_) _ _ _ from wpAny_bind ?_)
 simp only[newExc,newTuple]
 refine wpAny_bind (wpAny_newObj_type (wpAny_bind (m:=firstArgMember _ _) (wpAny_of_eq (a:=Value.none) (by first|rfl|(simp only[firstArgMember];rfl)) (wpAny_newObj_type ?_ (by size_fits)))) (by size_fits))
 simp only[raiseNew]
 refine wpAny_bind (wpAny_handled ?_)
 rw[show A.in1.handled=none from hh]
 refine wpAny_bind (wpAny_pure (wpAny_throw ?_))
 refine wpAny_bind (wpAny_isInstance (T:= "StopIteration") (b:=true) ⟨_,Heap.get?_push_size _ rfl,rfl⟩ isSubtype_stop ?_)
 refine wpAny_pure (h _ ?_)
 exact((((Heap.SameBut.update ..).trans (Heap.SameBut.update ..)).extBut.push _).push _)
def Nxt(P:Program)(w:World)(o:Obj)(S:Addr)(sl i ep:Nat)(r:Option (Value×Nat)):Prop:=
 ∀(A:Around) (E:Value->Shared->Prop) (s:Shared) (Q:Option (Value×Nat)->Shared->Prop),s.heap.get? S=some o->Q r s->wpAny (model P w) A (setNext S sl i ep) Q E s
theorem zdD{sl sl':Nat}{x:Value}{Q:Option Value->Shared->Prop}(jH:s.heap.get? I=some (gM (rawInt sl) i S es.size ep))(ho:s.heap.get? S=some o)(hd:o.data= .set es ep t)(hf:t.fits es.size=true)
 (hx:Nxt P w o S sl i ep (some (x,sl')))
 (h: ∀h',h'.get? I=some (gM (rawInt sl') (i+1) S es.size ep)->Heap.SameBut I s.heap h'->Q (some x) {s with heap:=h'}):wpAny (model P w) A (pyNext (.ref I)) Q E s:=by
 have b7:s.TypeIs (.ref I) "set_iterator" :=⟨_,jH,rfl⟩
 unfold pyNext
 refine wpAny_bind (wpAny_attempt (wpAny_callSpecial?_slot (name:=Str.ofString "__next__") b7 F.slot_setit_next (wpAny_call_entry F.slot_setit_next b7 F.entry_setit_next ?_ (F.args_setit_next _))))
 unfold Builtin.«set_iterator.__next__»
 refine wpAny_bind (wpAny_pure (wpAny_bind (show wpAny _ _ (fieldsOf (.ref I)) _ _ _ from wpAny_fieldsOf jH rfl ?_)))
 refine(show wpAny _ _ (setEntries S>>=_) _ _ _ from wpAny_bind (fZ ho hd hf ?_))
 rw[if_neg (by simp)]
 refine(show wpAny _ _ (setNext S (Int.toNat sl) (Int.toNat i) (Int.toNat ep)>>=_) _ _ _ from wpAny_bind ?_)
 rw[Int.toNat_natCast,Int.toNat_natCast,Int.toNat_natCast]
 refine hx _ _ _ _ ho ?_
 refine wpAny_bind (wpAny_setField jH rfl (by simp) (wpAny_bind (wpAny_setField (Heap.get?_update_self _ jH rfl) rfl (by simp) (wpAny_pure ⟨x,rfl,wpAny_pure (h _ (Heap.get?_update_self _ (Heap.get?_update_self _ jH rfl) rfl) ((Heap.SameBut.update ..).trans (Heap.SameBut.update ..)))⟩))))
theorem vI{sl:Nat}{Q:Option Value->Shared->Prop}(hh:A.handled=none)(jH:s.heap.get? I=some (gM (rawInt sl) i S es.size ep))(ho:s.heap.get? S=some o)(hd:o.data= .set es ep t)(hf:t.fits es.size=true)
 (hx:Nxt P w o S sl i ep none) (h: ∀h',Heap.ExtBut I s.heap h'->Q none {s with heap:=h'}):wpAny (model P w) A (pyNext (.ref I)) Q E s:=by
 have b7:s.TypeIs (.ref I) "set_iterator" :=⟨_,jH,rfl⟩
 unfold pyNext
 refine wpAny_bind (wpAny_attempt (wpAny_callSpecial?_slot (name:=Str.ofString "__next__") b7 F.slot_setit_next (wpAny_call_entry F.slot_setit_next b7 F.entry_setit_next ?_ (F.args_setit_next _))))
 unfold Builtin.«set_iterator.__next__»
 refine wpAny_bind (wpAny_pure (wpAny_bind (show wpAny _ _ (fieldsOf (.ref I)) _ _ _ from wpAny_fieldsOf jH rfl ?_)))
 refine(show wpAny _ _ (setEntries S>>=_) _ _ _ from wpAny_bind (fZ ho hd hf ?_))
 rw[if_neg (by simp)]
 refine(show wpAny _ _ (setNext S (Int.toNat sl) (Int.toNat i) (Int.toNat ep)>>=_) _ _ _ from wpAny_bind ?_)
 rw[Int.toNat_natCast,Int.toNat_natCast,Int.toNat_natCast]
 refine hx _ _ _ _ ho ?_
 refine wpAny_bind (wpAny_setField jH rfl (by simp) ?_)
 refine(show wpAny _ _ (newExc (.type "StopIteration") []>>=_) _ _ _ from wpAny_bind ?_)
 simp only[newExc,newTuple]
 refine wpAny_bind (wpAny_newObj_type (wpAny_bind (m:=firstArgMember _ _) (wpAny_of_eq (a:=Value.none) (by first|rfl|(simp only[firstArgMember];rfl)) (wpAny_newObj_type ?_ (by size_fits)))) (by size_fits))
 simp only[raiseNew]
 refine wpAny_bind (wpAny_handled ?_)
 rw[show A.in1.handled=none from hh]
 refine wpAny_bind (wpAny_pure (wpAny_throw ?_))
 refine wpAny_bind (wpAny_isInstance (T:= "StopIteration") (b:=true) ⟨_,Heap.get?_push_size _ rfl,rfl⟩ isSubtype_stop ?_)
 refine wpAny_pure (h _ ?_)
 exact(((Heap.SameBut.update ..).extBut.push _).push _)
end
theorem zaZ{α:Type}(f:Nat->Nat): ∀(lR k:Nat) (left:List α) (out:Array α),left.length=lR->(pickOrder.go f lR k left out).toList.Perm (out.toList++left)
 |0,_,left,out,e=>by
  obtain rfl:left=[]:=List.length_eq_zero_iff.mp e;rw[List.append_nil];exact .refl _
 |lR+1,k,left,out,e=>by
  have hi:f k % left.length<left.length:=Nat.mod_lt _ (by omega);unfold pickOrder.go;rw[List.getElem?_eq_getElem hi];refine(zaZ f lR (k+1) _ _ (by rw[List.length_eraseIdx_of_lt hi];omega)).trans ?_;rw[Array.toList_push,List.append_assoc];exact List.Perm.append_left _ (jT left _ hi)
theorem zcf{α:Type}(f:Nat->Nat)(xs:Array α):(pickOrder f xs).toList.Perm xs.toList:=by
 have q:=zaZ f xs.size 0 xs.toList #[] (by rw[Array.length_toList])
 exact q
section
variable {E:Value->Shared->Prop}{i:Nat}{es:Array (Int×Value)}{t:SetTable}{o:Obj}
theorem wP{sl i:Nat}(hw:w.params.followText "set-order" =true)(hd:o.data= .set es ep t)(hf:t.fits es.size=true):
 Nxt P w o S sl i ep (((pickOrder (w.params.setOrder S ep) es)[i]?).map λe=>(e.2,sl)):=by
 intro A E s Q ho q
 unfold setNext
 refine wpAny_bind (wpAny_setState_of ho hd hf ?_)
 refine wpAny_bind (show wpAny _ _ (ask>>= λa=>pure (a.params.followText "set-order")) _ _ _ from wpAny_bind (wpAny_askSetting (wpAny_pure ?_)))
 dsimp only
 rw[if_pos (show(model P w).w.params.followText "set-order" =true from hw),if_neg (by simp)]
 refine wpAny_bind ?_
 unfold setWalk
 refine wpAny_bind (wpAny_setState_of ho hd hf ?_)
 refine wpAny_bind (show wpAny _ _ (ask>>= λa=>pure (a.params.followText "set-order")) _ _ _ from wpAny_bind (wpAny_askSetting (wpAny_pure ?_)))
 rw[if_pos (show(model P w).w.params.followText "set-order" =true from hw)]
 refine wpAny_bind (wpAny_askSetting (wpAny_pure ?_))
 exact wpAny_pure q
structure Led(P:Program)(w:World)(o:Obj)(S:Addr)(ep:Nat)(us:List Value)(sl:Nat->Nat):Prop where
 item: ∀i x,us[i]?=some x->Nxt P w o S (sl i) i ep (some (x,sl (i+1)))
 stop:Nxt P w o S (sl us.length) us.length ep none
 zero:sl 0=0
theorem zeh(hw:w.params.followText "set-order" =true)(hd:o.data= .set es ep t)(hf:t.fits es.size=true):Led P w o S ep ((pickOrder (w.params.setOrder S ep) es).toList.map (·.2)) (λ_=>0) where
 item:= λi x e=>by
  have q:=wP (P:=P) (S:=S) (sl:=0) (i:=i) hw hd hf;rw[List.getElem?_map,Array.getElem?_toList]at e;obtain⟨y,e1,rfl⟩:=Option.map_eq_some_iff.mp e;rw[e1]at q;exact q
 stop:=by
  have q:=wP (P:=P) (S:=S) (sl:=0) (i:=((pickOrder (w.params.setOrder S ep) es).toList.map (·.2)).length) hw hd hf;rw[Array.getElem?_eq_none (by rw[bH,Array.length_toList];exact Nat.le_refl _)]at q;exact q
 zero:=rfl
theorem jU:Slot "set_iterator" "__iter__" "set_iterator.__iter__" :=
 .of (owner:= "set_iterator") (n:= "__iter__") (by rw[typeLookup_type,builtinLookup_eq_fast];kernel_rfl) (by decide+kernel) (by decide+kernel) (by decide+kernel) (by first|exact .inl (by decide+kernel)|exact .inr (by decide+kernel)) (by rw[isSubtype_type];kernel_rfl)
theorem oA:entryFor table "set_iterator.__iter__" =some Builtin.«dict_keyiterator.__iter__»:=entryFor_alias (id':= "dict_keyiterator.__iter__") (by kernel_rfl) (by first|rfl|decide+kernel) (by decide+kernel) (by kernel_rfl)
theorem oU(a:Value):argsOk "set_iterator.__iter__" ⟨[a],[]⟩:=by unfold argsOk;kernel_rfl
theorem rX{f:Value}{n:Nat}{Q:Value->Shared->Prop}(jH:s.heap.get? I=some (gM f i S n ep))(h:Q (.ref I) s):wpAny (model P w) A (pyIter (.ref I)) Q E s:=by
 have b7:s.TypeIs (.ref I) "set_iterator" :=⟨_,jH,rfl⟩
 refine wpAny_pyIter_slot b7 jU (wpAny_call_entry jU b7 oA ?_ (oU _))
 exact(show wpAny _ _ (ret (.ref I)) _ _ s from wpAny_pure ⟨_,rfl,"set_iterator",_,b7,F.slot_setit_next.lookup,h⟩)
theorem zdy{us:List Value}{sl:Nat->Nat}(L:Led P w o S ep us sl)(hh:A.handled=none)(hd:o.data= .set es ep t)(hf:t.fits es.size=true)(mX:S≠I):
 WalksS P w A I [I,S] [I] (λa b=>b=a) us.length (λi v=>us[i]?=some v) (λi s=>s.heap.get? I=some (gM (rawInt (sl i)) i S es.size ep)/\s.heap.get? S=some o) where
 sub:= λb hb=>by simp at hb;simp[hb]
 grefl:= λ_=>rfl
 gtrans:= λ_ _ _ h1 h2=>h2.trans h1
 frame:= λi s h' tk st _ k=>⟨k I (by simp) _ st.1,k S (by simp) _ st.2⟩
 item:= λi s Q E hi st hQ=>by
  have e:us[i]?=some us[i]:=List.getElem?_eq_getElem hi;refine zdD st.1 st.2 hd hf (L.item i _ e) λh' a b=>hQ _ _ e ⟨a,(b.2 S mX).trans st.2⟩ ⟨λc o' hc e'=> ?_,rfl,rfl,rfl,Nat.le_refl _⟩;exact(b.2 c λz=>hc (by simp[z])).trans e'
 done:= λs Q E st hQ=>vI hh st.1 st.2 hd hf L.stop λh' a=>hQ _ ⟨λc o' hc e'=>a c o' (λz=>hc (by simp[z])) e',rfl,rfl,rfl,Nat.le_refl _⟩
 self:= λi s Q E st hQ=>rX st.1 hQ
theorem o9{eC:List Nat}{n:Nat}(hh:A.handled=none)(hd:o.data= .set es ep t)(hf:t.fits es.size=true)(hp:eC.Perm (List.range es.size))(mX:S≠I)(hTn:T≠I):
 WalksS P w A I [I,S,T] [I] (λa b=>b=a) eC.length (λi v=>(eC.map λp=>(es.toList.map (·.2)).getD p .none)[i]?=some v)
  (λi s=>s.heap.get? I=some (gM (.ref T) i S es.size ep)/\s.heap.get? S=some o/\s.heap.get? T=some {cls:= .type "tuple",data:= .seq (eC.map λi:Nat=>rawInt i).toArray n}) where
 sub:= λb hb=>by simp at hb;simp[hb]
 grefl:= λ_=>rfl
 gtrans:= λ_ _ _ h1 h2=>h2.trans h1
 frame:= λi s h' tk st _ k=>⟨k I (by simp) _ st.1,k S (by simp) _ st.2.1,k T (by simp) _ st.2.2⟩
 item:= λi s Q E hi st hQ=>by
  have e:eC[i]?=some eC[i]:=List.getElem?_eq_getElem hi;have eO:eC[i]<es.size:=List.mem_range.mp (hp.mem_iff.mp (List.getElem_mem hi));have e2:es[eC[i]]?=some (es[eC[i]].1,es[eC[i]].2):=Array.getElem?_eq_getElem eO;refine u4 (p:=eC[i]) (pk:=0) (x:=es[eC[i]].2) st.1 st.2.1 hd hf st.2.2 (by rw[List.getElem?_toArray,List.getElem?_map,e];rfl) e2 λh' a b=>hQ _ _ ?_ ⟨a,(b.2 S mX).trans st.2.1,(b.2 T hTn).trans st.2.2⟩ ⟨λc o' hc e'=> ?_,rfl,rfl,rfl,Nat.le_refl _⟩
  . rw[List.getElem?_map,e];simp[eO]
  . exact(b.2 c λz=>hc (by simp[z])).trans e'
 done:= λs Q E st hQ=>rT hh st.1 st.2.1 hd hf st.2.2 (by simp) λh' a=>hQ _ ⟨λc o' hc e'=>a c o' (λz=>hc (by simp[z])) e',rfl,rfl,rfl,Nat.le_refl _⟩
 self:= λi s Q E st hQ=>rX st.1 hQ
end
def gY(xs:Array Nat):Prop:= ∀i j:Nat,i<j->j<xs.size->xs.getD i 0<xs.getD j 0
theorem rZ{xs:Array Nat}{j c:Nat}(h1: ∀k:Nat,k<c->xs.getD k j<j)(h2: ∀k:Nat,c<=k->k<xs.size-> ¬xs.getD k j<j):
 ∀(lR lo hi:Nat),lo<=c->c<=hi->hi<=xs.size->hi - lo<=lR->SetTable.below.go xs j lR lo hi=c
 |0,lo,hi,a,b,_,d=>by
  show lo=c
  omega
 |lR+1,lo,hi,a,b,e,d=>by
  unfold SetTable.below.go
  by_cases hl:lo<hi
  . rw[if_pos hl];dsimp only
    by_cases hm:xs.getD ((lo+hi) / 2) j<j
    . rw[if_pos hm];have hc:(lo+hi) / 2<c:=Nat.lt_of_not_le λz=>h2 _ z (by omega) hm;exact rZ h1 h2 lR _ hi (by omega) b e (by omega)
    . rw[if_neg hm];have hc:c<=(lo+hi) / 2:=Nat.le_of_not_lt λz=>hm (h1 _ z);exact rZ h1 h2 lR lo _ a hc (by omega) (by omega)
  . rw[if_neg hl];omega
theorem rE{xs:Array Nat}{j c:Nat}(hc:c<=xs.size)(h1: ∀k:Nat,k<c->xs.getD k 0<j)(h2: ∀k:Nat,c<=k->k<xs.size->j<=xs.getD k 0):SetTable.below xs j=c:=by
 unfold SetTable.below
 refine rZ (λk hk=> ?_) (λk hk hs=> ?_) _ 0 _ (Nat.zero_le _) hc (Nat.le_refl _) (by omega)
 . have q:=h1 k hk;rw[Array.getD_eq_getD_getElem?,Array.getElem?_eq_getElem (by omega:k<xs.size)]at q ⊢;exact q
 . have q:=h2 k hk hs;rw[Array.getD_eq_getD_getElem?,Array.getElem?_eq_getElem hs]at q ⊢;exact Nat.not_lt.mpr q
theorem gY.first{xs:Array Nat}(h:gY xs):SetTable.below xs 0=0:=rE (Nat.zero_le _) (λ_ z=>absurd z (Nat.not_lt_zero _)) λ_ _ _=>Nat.zero_le _
theorem gY.next{xs:Array Nat}(h:gY xs){i:Nat}(hi:i<xs.size):SetTable.below xs (xs.getD i 0+1)=i+1:=by
 refine rE hi (λk hk=> ?_) (λk hk hs=>h i k hk hs)
 rcases Nat.lt_or_ge k i with z|z
 . exact Nat.lt_succ_of_lt (h k i z hi)
 . have:k=i:=by omega
   rw[this];exact Nat.lt_succ_self _
theorem gY.place{xs:Array Nat}(h:gY xs)(j:Nat): ∃c,c<=xs.size/\(∀k:Nat,k<c->xs.getD k 0<j)/\(∀k:Nat,c<=k->k<xs.size->j<=xs.getD k 0)/\SetTable.below xs j=c:=by
 have yH: ∀n:Nat,n<=xs.size-> ∃c,c<=n/\(∀k:Nat,k<c->xs.getD k 0<j)/\ ∀k:Nat,c<=k->k<n->j<=xs.getD k 0:=by
  intro n
  induction n with
  |zero=>exact λ_=>⟨0,Nat.le_refl _,λ_ z=>absurd z (Nat.not_lt_zero _),λ_ _ z=>absurd z (Nat.not_lt_zero _)⟩
  |succ n ih=>
   intro hn;obtain⟨c,a,b,d⟩:=ih (by omega)
   by_cases hc:xs.getD n 0<j
   . refine⟨n+1,Nat.le_refl _,λk hk=> ?_,λk a b=>by omega⟩
     rcases Nat.lt_or_ge k n with z|z
     . exact Nat.lt_trans (h k n z (by omega)) hc
     . have:k=n:=by omega
       rw[this];exact hc
   . refine⟨c,by omega,b,λk hk hk2=> ?_⟩
     rcases Nat.lt_or_ge k n with z|z
     . exact d k hk z
     . have:k=n:=by omega
       rw[this];exact Nat.le_of_not_lt hc
 obtain⟨c,a,b,d⟩:=yH xs.size (Nat.le_refl _)
 exact⟨c,a,b,d,rE a b d⟩
theorem zaO{xs:Array Nat}{i:Nat}(h:i<xs.size):xs[i]?=some (xs.getD i 0):=by
 rw[Array.getD_eq_getD_getElem?,Array.getElem?_eq_getElem h];rfl
theorem jS(n:Nat):gY (Array.range n):= λi j h hj=>by
 rw[Array.size_range]at hj
 rw[Array.getD_eq_getD_getElem?,Array.getD_eq_getD_getElem?,Array.getElem?_eq_getElem (by rw[Array.size_range];omega),Array.getElem?_eq_getElem (by rw[Array.size_range];omega)]
 simpa using h
theorem zcn{l:List Nat}(h:l.Pairwise (·<·)):gY l.toArray:= λi j hij hj=>by
 rw[List.size_toArray]at hj
 rw[Array.getD_eq_getD_getElem?,Array.getD_eq_getD_getElem?,List.getElem?_toArray,List.getElem?_toArray,List.getElem?_eq_getElem (by omega:i<l.length),List.getElem?_eq_getElem hj]
 exact List.pairwise_iff_getElem.mp h i j (by omega) hj hij
theorem zaD{xs:Array Nat}{c j:Nat}(hc:c<=xs.size)(i:Nat):(SetTable.insertAt xs c j).getD i 0=if i<c then xs.getD i 0 else if i=c then j else xs.getD (i - 1) 0:=by
 unfold SetTable.insertAt
 have hy:(xs.extract 0 c).size=c:=by rw[Array.size_extract,Nat.min_eq_left hc,Nat.sub_zero]
 have hz:((xs.extract 0 c).push j).size=c+1:=by rw[Array.size_push,hy]
 rw[Array.getD_eq_getD_getElem?]
 by_cases h1:i<c
 . have h5:=Nat.lt_of_lt_of_le h1 hc;rw[if_pos h1,Array.getElem?_append_left (by rw[hz];exact Nat.lt_succ_of_lt h1),Array.getElem?_push_lt (by rw[hy];exact h1),Array.getElem_extract,Array.getD_eq_getD_getElem?,Array.getElem?_eq_getElem h5];simp only[Nat.zero_add]
 . rw[if_neg h1]
   by_cases h2:i=c
   . subst h2;rw[if_pos rfl,Array.getElem?_append_left (by rw[hz];exact Nat.lt_succ_self _)];have q:=Array.getElem?_push_size (xs:=xs.extract 0 i) (x:=j);rw[hy]at q;rw[q];rfl
   . have h6:c+1<=i:=Nat.lt_of_le_of_ne (Nat.not_lt.mp h1) (Ne.symm h2);obtain⟨d,rfl⟩:=Nat.exists_eq_add_of_le h6;have e:c+d=c+1+d - 1:=by rw[Nat.add_right_comm];rfl
     rw[if_neg h2,Array.getElem?_append_right (by rw[hz];exact h6),hz,Array.getD_eq_getD_getElem?,Nat.add_sub_cancel_left,<-e,Array.getElem?_extract]
     by_cases h3:c+d<xs.size
     . rw[if_pos (by rw[Nat.min_self];exact Nat.lt_sub_of_add_lt (by rw[Nat.add_comm];exact h3))]
     . rw[if_neg (by rw[Nat.min_self];exact λz=>h3 (by have:=Nat.add_lt_of_lt_sub z;rw[Nat.add_comm];exact this)),Array.getElem?_eq_none (Nat.not_lt.mp h3)]
theorem zfM{xs:Array Nat}{c j:Nat}(hc:c<=xs.size):(SetTable.insertAt xs c j).size=xs.size+1:=by
 unfold SetTable.insertAt
 rw[Array.size_append,Array.size_push,Array.size_extract,Array.size_extract,Nat.min_self,Nat.min_eq_left hc,Nat.sub_zero,Nat.add_right_comm,Nat.add_sub_cancel' hc]
theorem gY.ins{xs:Array Nat}(h:gY xs){j:Nat}(hj: ¬xs[SetTable.below xs j]?=some j):gY (SetTable.insertAt xs (SetTable.below xs j) j):=by
 obtain⟨c,c1,c2,c3,c4⟩:=h.place j
 rw[c4]at hj ⊢
 intro a b sB hb
 rw[zfM c1]at hb
 have hcj: ∀k:Nat,c<=k->k<xs.size->j<xs.getD k 0:= λk k1 k2=>by
  rcases Nat.lt_or_ge c k with z|z
  . exact Nat.lt_of_le_of_lt (c3 c (Nat.le_refl _) (by omega)) (h c k z k2)
  . have:k=c:=by omega
    subst this;refine Nat.lt_of_le_of_ne (c3 k k1 k2) λe=>hj ?_;rw[zaO k2,<-e]
 rw[zaD c1,zaD c1]
 by_cases a1:a<c
 . rw[if_pos a1]
   by_cases b1:b<c
   . rw[if_pos b1];exact h a b sB (by omega)
   . rw[if_neg b1]
     by_cases b2:b=c
     . rw[if_pos b2];exact c2 a a1
     . rw[if_neg b2];exact Nat.lt_trans (c2 a a1) (hcj _ (by omega) (by omega))
 . rw[if_neg a1]
   by_cases a2:a=c
   . rw[if_pos a2,if_neg (by omega),if_neg (by omega)];exact hcj _ (by omega) (by omega)
   . rw[if_neg a2,if_neg (by omega),if_neg (by omega)];exact h _ _ (by omega) (by omega)
def zfZ(t:SetTable)(j:Nat):Prop:= ¬t.place[SetTable.below t.place j]?=some j
theorem zbb{t:SetTable}{j:Nat}(h: ∀i,t.slot j≠ .live i):zfZ t j:= λe=>by
 refine h (SetTable.below t.place j) ?_
 unfold SetTable.slot
 dsimp only
 rw[if_pos (by rw[e];exact beq_self_eq_true _)]
theorem lV{t:SetTable}{h h':Int}(hh:(h'==h)=false): ∀(lR:Nat) (p:SetTable.Probe) (j:Nat) (dm:Option Nat),(∀d,p.dummy=some d->zfZ t d)->SetTable.probe.go t (λ_=>h') h lR p=some (.empty j dm)->zfZ t (dm.getD j)
 |0,p,j,dm,_,e=>by
  unfold SetTable.probe.go at e;cases e
 |lR+1,p,j,dm,hd,e=>by
  unfold SetTable.probe.go at e;cases hs:t.slot p.j with
  |empty=>
   rw[hs]at e;injection e with e
   injection e with e1 e2
   subst e1 e2;cases hp:p.dummy with
   |none=>exact zbb λi z=>by rw[show(none:Option Nat).getD p.j=p.j from rfl,hs]at z;cases z
   |some d=>exact hd d hp
  |dummy=>
   rw[hs]at e;refine lV hh lR _ j dm (λd vR=> ?_) e;have q:(t.advance {p with dummy:=some p.j}).dummy=some p.j:=by
    unfold SetTable.advance
    split<;>rfl
   rw[q]at vR;cases vR;exact zbb λi z=>by rw[hs]at z;cases z
  |live i=>
   rw[hs]at e;dsimp only at e;rw[hh,if_neg (λz=>nomatch z)]at e;refine lV hh lR _ j dm (λd vR=> ?_) e;have q:(t.advance p).dummy=p.dummy:=by
    unfold SetTable.advance
    split<;>rfl
   rw[q]at vR;exact hd d vR
theorem zeu{t:SetTable}(h:gY t.place)(es:Array (Int×Value))(hs:Int)(x:Value):gY (layNew t es hs x).2.1.place:=by
 unfold layNew
 have or_: ∀(t':SetTable) (n:Nat),gY t'.place->gY (t'.orStandIn n).place:= λt' n q=>by
  unfold SetTable.orStandIn
  split
  . exact q
  . exact jS n
 cases hf:t.freeSlot hs with
 |none=>exact jS _
 |some p=>
  obtain⟨slot,wd⟩:=p;refine or_ _ _ ?_;show gY (SetTable.insertAt t.place (SetTable.below t.place slot) slot);refine h.ins ?_;unfold SetTable.freeSlot at hf;cases hp:t.probe (λ_=>hs+1) hs (t.probeStart hs)with
  |none=>rw[hp]at hf;cases hf
  |some m=>
   rw[hp]at hf;cases m with
   |candidate _ _ _=>cases hf
   |empty j dm=>
    injection hf with hf
    injection hf with e1 _
    rw[<-e1];unfold SetTable.probe at hp;exact lV (beq_eq_false_iff_ne.mpr (by omega)) _ _ j dm (λd z=>by cases(show(none:Option Nat)=some d from z)) hp
theorem zD{t:SetTable}(h:gY t.place)(es:Array (Int×Value))(n:Nat):gY (relayAll t es n).2.1.place:=by
 unfold relayAll
 split
 . rename_i t' order e
   have hr:gY t'.place:=by
    unfold SetTable.relaid SetTable.laid at e;obtain⟨ow,_,e⟩:=Option.bind_eq_some_iff.mp e;cases e;refine zcn ?_;rw[List.pairwise_map];refine List.Pairwise.filterMap (R:= λa b:Nat=>a<b) _ (λa a' eO b hb b' mE=> ?_) List.pairwise_lt_range;obtain⟨y,_,rfl⟩:=Option.map_eq_some_iff.mp hb;obtain⟨y',_,rfl⟩:=Option.map_eq_some_iff.mp mE;exact eO
   dsimp only
   split
   . exact hr
   . exact jS _
 . exact jS _
theorem yN:typeLookup (.type "set") "__len__" =pure (some (.builtin "set.__len__")):=by rw[typeLookup_type,builtinLookup_eq_fast];kernel_rfl
section
variable {E:Value->Shared->Prop}{i:Nat}{es:Array (Int×Value)}{t:SetTable}{o:Obj}
theorem zex{Q:Bool->Shared->Prop}(hT:s.TypeIs (.ref S) "set")(h:Q false s):wpAny (model P w) A (Builtin.List.listLengthHint (.ref S)) Q E s:=by
 unfold Builtin.List.listLengthHint
 refine wpAny_bind (wpAny_specialOf (T:= "set") hT yN ?_)
 wp_delta
 refine wpAny_bind (wpAny_isInstance (T:= "set") (b:=true) hT (by rw[isSubtype_type];kernel_rfl) ?_)
 exact(show wpAny _ A (typeOf (Value.ref S)>>=_) _ _ _ from wpAny_bind (wpAny_typeOf (T:= "set") hT (wpAny_pure h)))
theorem tZ{L:Addr}{c0:Nat}{fp:List Addr}{us:List Value}{St:Nat->Shared->Prop}{s1:Shared}{R:Result->Shared->Prop}(W:WalksS P w A.in1 I fp [I] (λa b=>b=a) us.length (λi v=>us[i]?=some v) St)(hz:us.length<=sizeLine)(st:St 0 s1)(hL:L∉fp)
 (hl:s1.heap.get? L=some {cls:= .type "list",data:= .seq #[] c0})
 (h: ∀s' c,(∀b o,b≠L->b≠I->s1.heap.get? b=some o->s'.heap.get? b=some o)->s'.gens=s1.gens->s'.os=s1.os->s'.heap.get? L=some {cls:= .type "list",dict:=none,data:= .seq us.toArray c,slots:= #[]}->R (.ok (.ret (.ref L))) s'):
 codeAny (model P w) A (.builtin "list.extend.loop" ⟨[.ref L,.ref I,.ref L],[]⟩) R s1:=by
 refine codeAny_extend_loopS W hz L hL _ us.length 0 s1 _ _ rfl (Nat.zero_le _) st hl (ItemsOf.nil _) λs' zgZ c' hm hS' zdI=> ?_
 have e:zgZ=us.toArray:=by
  apply Array.toList_inj.mp;apply List.ext_getElem?;intro j
  by_cases hj:j<us.length
  . have h0:j<zgZ.size:=by rw[zdI.1];exact hj
    have h1:zgZ[j]?=some zgZ[j]:=Array.getElem?_eq_getElem h0;rw[Array.getElem?_toList,h1];exact(zdI.2 j _ h1).symm
  . rw[Array.getElem?_toList,Array.getElem?_eq_none (by rw[zdI.1];omega)];simp at hj ⊢;exact hj
 rw[e]at hS'
 exact h s' c' (λb o' h1 h2 q=>hm.heap b o' (by simp[h1,h2]) q) hm.gens hm.os hS'
theorem wX{Q:List Value->Shared->Prop}(hT:s.TypeIs (.ref S) "set")
 (h:wpAny (model P w) A.in1 (pyIter (.ref S)) (λv s1=> ∃I,v= .ref I/\s1.TypeIs (.ref S) "set" /\s1.heap.get? s.heap.objs.size=some {cls:= .type "list",data:= .seq ([]:List Value).toArray}/\
  ∀h' c,(∀b o,b≠s.heap.objs.size->s1.heap.get? b=some o->h'.get? b=some o)->h'.get? s.heap.objs.size=some {cls:= .type "list",data:= .seq #[] c}->
   codeAny (model P w) A (.builtin "list.extend.loop" ⟨[.ref s.heap.objs.size,.ref I,.ref s.heap.objs.size],[]⟩) (λr s'=> ∃us c,r= .ok (.ret (.ref s.heap.objs.size))/\s'.heap.get? s.heap.objs.size=some {cls:= .type "list",dict:=none,data:= .seq us c,slots:= #[]}/\Q us.toList s') {s1 with heap:=h'}) (λ_ _=>False)
  {s with heap:=s.heap.push {cls:= .type "list",data:= .seq ([]:List Value).toArray}}):
 wpAny (model P w) A (collect (.ref S)) Q E s:=by
 unfold collect
 refine wpAny_bind (wpAny_runValue (codeAny_builtin PySem.F.entry_proto_collect ?_))
 rw[PySem.Around.under_plainId PySem.F.plain_proto_collect _]
 refine(show wpAny _ A.in1 (newList []>>= λl=>again (.builtin "list.__iadd__" ⟨[l,.ref S],[]⟩)) _ _ s from wpAny_bind (wpAny_newObj_type (wpAny_pure ⟨plainId_quiet PySem.F.plain_list_iadd _,codeAny_builtin PySem.F.entry_list_iadd ?_⟩)))
 rw[PySem.Around.under_plainId PySem.F.plain_list_iadd _]
 refine(show wpAny _ A.in1 (Builtin.List.listExtendWith (.ref s.heap.objs.size) (.ref S) (.ref s.heap.objs.size)) _ _ _ from ?_)
 unfold Builtin.List.listExtendWith
 have hT1:Shared.TypeIs {s with heap:=s.heap.push {cls:= .type "list",data:= .seq ([]:List Value).toArray}} (.ref S) "set" :=by
  obtain⟨o,ho,hc⟩:=hT;exact⟨o,Heap.get?_push_of_some _ ho,hc⟩
 have mX:(Builtin.List.listSameRef (.ref s.heap.objs.size) (.ref S)||Value.type "set" ==Value.type "list" ||Value.type "set" ==Value.type "tuple")=false:=by
  obtain⟨o,ho,hc⟩:=hT;have q:(s.heap.objs.size==S)=false:=by
   rw[beq_eq_false_iff_ne];exact Nat.ne_of_gt (Heap.lt_size ho)
  have q2:Builtin.List.listSameRef (.ref s.heap.objs.size) (.ref S)=(s.heap.objs.size==S):=rfl;rw[q2,q]
  decide
 refine wpAny_bind (wpAny_typeOf (T:= "set") hT1 ?_)
 rw[if_neg (by rw[mX];exact λz=>nomatch z)]
 refine wpAny_bind (wpAny_mono h (λv s1 ⟨I,e,h1,h5,h2⟩=> ?_) λ_ _ z=>z.elim)
 subst e
 refine wpAny_bind (wpAny_holding (zex h1 ?_))
 rw[if_pos (by decide)]
 refine wpAny_bind (wpAny_rule (wpAny_bind (show wpAny _ A.in1 (updateSeq s.heap.objs.size (·.push .none)>>= λ_=>updateSeq s.heap.objs.size (·.pop)) _ _ _ from wpAny_bind (wpAny_updateSeq h5 rfl ?_))))
 have g2:=Heap.get?_update_self (Obj.mapSeq (·.push Value.none)) h5 rfl
 refine wpAny_updateSeq (hz:=by seq_fits) g2 rfl ?_
 have g3:=Heap.get?_update_self (Obj.mapSeq (·.pop)) g2 rfl
 refine wpAny_pure ⟨plainId_quiet PySem.F.plain_extend_loop _,codeAny_mono (h2 _ _ (λb o' hb q=>(Heap.get?_update_other _ _ (Ne.symm hb)).trans ((Heap.get?_update_other _ _ (Ne.symm hb)).trans q)) g3) λr s' ⟨us,c,e,h3,h4⟩=> ?_⟩
 subst e
 exact(show wpAny _ A (load s.heap.objs.size>>=_) _ _ s' from wpAny_bind (wpAny_load h3 (wpAny_pure h4)))
end
theorem b8{α:Type}(d:α): ∀l:List α,(List.range l.length).map (λp=>l.getD p d)=l:= λl=>by
 apply List.ext_getElem?
 intro j
 rw[List.getElem?_map]
 by_cases hj:j<l.length
 . rw[List.getElem?_range hj];simp[hj]
 . rw[List.getElem?_eq_none (by simp;omega),List.getElem?_eq_none (by omega)];rfl
section
variable {E:Value->Shared->Prop}
end
section
variable {E:Value->Shared->Prop}
end
def ztG(P:Program)(w:World)(a:Addr)(zs:List Str):HO:= .ext λh=>zuT P w (lE w) h a zs
section
variable {E:Value->Shared->Prop}
end
section
variable {E:Value->Shared->Prop}
theorem zca{Q:Value->Shared->Prop}(h:Q (.ref s.heap.objs.size) {s with heap:=s.heap.push (nE w)}):wpAny (model P w) A (call (.type "set") []) Q E s:=by
 obtain⟨c,tl,ztK⟩:=PySem.F.called_set.mro
 have c1:=PySem.F.called_set.made
 have c2:=PySem.F.called_set.sub
 have c3:=PySem.F.called_set.notType
 have c4:=PySem.F.called_set.canCreate
 have c5:=PySem.F.typeCall_set_0
 refine wpAny_call (codeAny_of_tree (show wpAny _ _ (callAny (.type "set") _) _ _ _ from wpAny_pure ⟨Code.quiet_builtin _ (by decide+kernel),codeAny_builtin PySem.F.entry_type_call ?_⟩))
 rw[PySem.Around.under_plain (weight_type_call_type "set" [] []) rfl]
 repeat (any_goals (first|assumption|wp_step))
 refine codeAny_mono (oM (P:=P) (E:=E) (rest:=[]) (Q₁:= λobj s₁=>obj= .ref s.heap.objs.size/\s₁={s with heap:=s.heap.push (nE w)}) PySem.F.newCall_set_0 ⟨rfl,rfl⟩) λr s₁ hr=> ?_
 cases r with
 |error e=>exact hr
 |ok fl=>
  cases fl with
  |ret obj=>
   obtain⟨rfl,rfl⟩:=hr;have hS:(s.heap.push (nE w)).get? s.heap.objs.size=some (nE w):=Heap.get?_push_size _ rfl;have hT:Shared.TypeIs {s with heap:=s.heap.push (nE w)} (.ref s.heap.objs.size) "set" :=⟨_,hS,rfl⟩;have c6:=PySem.F.called_set.init.lookup;have c7:=PySem.F.called_set.init.bind (.ref s.heap.objs.size)
   repeat (any_goals (first|assumption|wp_step))
   refine codeAny_call_builtin PySem.F.called_set.init.plain PySem.F.entry_set_init (PySem.check_set_init hT ?_);unfold Builtin.«set.__init__» noKeywords
   wp_walk
   exact h
  |_=>exact hr.elim
end
section
variable {o:Expr}{es:List Expr}{t:TA}{id:String}{r:V->List V->Hp->VK->Prop}
example:Slot "set" "add" "set.add" :=PySem.F.slot_set_add
example:typeOf (.builtin "set.add")=pure (.type "method_descriptor"):=PySem.F.type_set_add
end
section
variable {κ:Type} [DecidableEq κ]
def dI(kvs:List (κ×V))(k:κ):Option V:=(kvs.find? λkv=>decide (kv.1=k)).map (·.2)
def gP(kvs:List (κ×V))(k:κ)(v:V):List (κ×V):=
 if(kvs.any λkv=>decide (kv.1=k))=true then kvs.map (λkv=>if kv.1=k then(kv.1,v)else kv)else kvs++[(k,v)]
theorem gE{p:κ×V}{r:List (κ×V)}{k:κ}(e:p.1=k):dI (p::r) k=some p.2:=by simp[dI,List.find?_cons,e]
theorem fI{p:κ×V}{r:List (κ×V)}{k:κ}(e: ¬p.1=k):dI (p::r) k=dI r k:=by simp[dI,List.find?_cons,e]
theorem jD(k:κ): ∀kvs:List (κ×V),(kvs.any λkv=>decide (kv.1=k))=(dI kvs k).isSome
 | []=>rfl
 |p::r=>by
  rw[List.any_cons]
  by_cases e:p.1=k
  . simp only[gE e,decide_eq_true e,Bool.true_or,Option.isSome_some]
  . rw[fI e,decide_eq_false e,Bool.false_or];exact jD k r
theorem iO(kvs:List (κ×V))(k:κ)(v:V):(gP kvs k v).length<=kvs.length+1:=by
 unfold gP
 split
 . rw[bH];omega
 . rw[List.length_append,List.length_cons,List.length_nil];omega
theorem zfU{kvs:List (κ×V)}{k:κ}(v:V)(h:dI kvs k=none):gP kvs k v=kvs++[(k,v)]:=by
 unfold gP
 rw[jD,h]
 exact if_neg (by decide)
theorem jX.isSome_eq{o:Option V}{u:Option Value}(r:jX o u):o.isSome=u.isSome:=by
 cases o with
 |none=>cases u with
  |none=>rfl
  |some _=>exact(show False from r).elim
 |some _=>cases u with
  |none=>exact(show False from r).elim
  |some _=>rfl
theorem jX.getD{o:Option V}{u:Option Value}{d:V}{d':Value}(r:jX o u)(rd:bA d d'):bA (o.getD d) (u.getD d'):=by
 cases o with
 |none=>cases u with
  |none=>exact rd
  |some _=>exact(show False from r).elim
 |some _=>cases u with
  |none=>exact(show False from r).elim
  |some _=>exact r
theorem KV.val{kvs:List (κ×V)}{vs:List (κ×Value)}(r:KV kvs vs)(k:κ):jX (dI kvs k) (valueAt vs k):=by
 unfold KV at r
 induction r with
 |nil=>exact True.intro
 | @cons p q ps qs h t ih=>
  obtain⟨h1,h2⟩:=h
  by_cases e:p.1=k
  . have e':q.1=k:=h1.symm.trans e;have b:valueAt (q::qs) k=some q.2:=by simp[valueAt,List.find?_cons,e']
    rw[gE e,b];exact h2
  . have e': ¬q.1=k:= λz=>e (h1.trans z);have b:valueAt (q::qs) k=valueAt qs k:=by simp[valueAt,List.find?_cons,e']
    rw[fI e,b];exact ih
theorem KV.any{kvs:List (κ×V)}{vs:List (κ×Value)}(r:KV kvs vs)(k:κ):(kvs.any λkv=>decide (kv.1=k))=vs.any λkv=>decide (kv.1=k):=by
 unfold KV at r
 induction r with
 |nil=>rfl
 |cons h t ih=>rw[List.any_cons,List.any_cons,ih,h.1]
theorem KV.repl{kvs:List (κ×V)}{vs:List (κ×Value)}(r:KV kvs vs)(k:κ){y:V}{u:Value}(ry:bA y u):
 KV (kvs.map λkv=>if kv.1=k then(kv.1,y)else kv) (vs.map λkv=>if kv.1=k then(kv.1,u)else kv):=by
 unfold KV at r ⊢
 induction r with
 |nil=>exact .nil
 | @cons p q ps qs h t ih=>
  rw[List.map_cons,List.map_cons];refine .cons ?_ ih;obtain⟨h1,h2⟩:=h
  by_cases e:p.1=k
  . rw[if_pos e,if_pos (h1.symm.trans e)];exact⟨h1,ry⟩
  . rw[if_neg e,if_neg (λz=>e (h1.trans z))];exact⟨h1,h2⟩
theorem KV.put{kvs:List (κ×V)}{vs:List (κ×Value)}(r:KV kvs vs)(k:κ){y:V}{u:Value}(ry:bA y u):KV (gP kvs k y) (stored vs k u):=by
 unfold gP stored
 rw[r.any k]
 by_cases e:(vs.any λkv=>decide (kv.1=k))=true
 . rw[if_pos e,if_pos e];exact r.repl k ry
 . rw[if_neg e,if_neg e];exact Paired.snoc r ⟨rfl,ry⟩
theorem KV.length{kvs:List (κ×V)}{vs:List (κ×Value)}(r:KV kvs vs):kvs.length=vs.length:=Paired.length r
end
theorem lN{P:Program}{w:World}{k:cB}{u:Value}(r:bA (kV k) u):(aV P w).is k u=true:=by
 cases k with
 |inl i=>obtain⟨t,e⟩:=(show ∃t,u=Value.int i t from r);subst e;exact oJ P w i t
 |inr x=>obtain⟨t,e⟩:=(show ∃t,u=Value.str x t from r);subst e;exact oO P w x t
theorem sR{P:Program}{w:World}: ∀{ks:List cB} {us:List Value},bK (ks.map kV) us->ItemsAre (aV P w) ks us
 | [],_,r=>by rw[List.map_nil]at r;cases r;exact .nil
 |k::ks,_,r=>by
  rw[List.map_cons]at r;cases r with
  |cons h t=>exact .cons (lN h) (sR t)
abbrev KT(H:Hp):List (List cB×V)->List (List cB×Addr×Value)->Prop:=Paired λp q=>p.1=q.1/\H q.2.1=some (.tup (p.1.map kV))/\bA p.2 q.2.2
theorem KT.val{H:Hp}{kvs:List (List cB×V)}{xs:List (List cB×Addr×Value)}(r:KT H kvs xs)(k:List cB):jX (dI kvs k) ((atKey xs k).map (·.2)):=by
 induction r with
 |nil=>exact True.intro
 | @cons p q ps qs h t ih=>
  obtain⟨h1,_,h2⟩:=h
  by_cases e:p.1=k
  . have e':q.1=k:=h1.symm.trans e;have b:atKey (q::qs) k=some q.2:=by simp[atKey,List.find?_cons,e']
    rw[gE e,b];exact h2
  . have e': ¬q.1=k:= λz=>e (h1.trans z);have b:atKey (q::qs) k=atKey qs k:=by simp[atKey,List.find?_cons,e']
    rw[fI e,b];exact ih
theorem KT.repl{H:Hp}{kvs:List (List cB×V)}{xs:List (List cB×Addr×Value)}(r:KT H kvs xs)(k:List cB){y:V}{u:Value}(ry:bA y u):
 KT H (kvs.map λkv=>if kv.1=k then(kv.1,y)else kv) (xs.map (putAt k u)):=by
 induction r with
 |nil=>exact .nil
 | @cons p q ps qs h t ih=>
  rw[List.map_cons,List.map_cons];refine .cons ?_ ih;obtain⟨h1,h2,h3⟩:=h;unfold putAt
  by_cases e:p.1=k
  . rw[if_pos e,if_pos (h1.symm.trans e)];exact⟨h1,h2,ry⟩
  . rw[if_neg e,if_neg (λz=>e (h1.trans z))];exact⟨h1,h2,h3⟩
theorem KT.put{H:Hp}{kvs:List (List cB×V)}{xs:List (List cB×Addr×Value)}(r:KT H kvs xs)(k:List cB){b:Addr}{y:V}{u:Value}(hb:H b=some (.tup (k.map kV)))(ry:bA y u):
 KT H (gP kvs k y) (storedH xs k b u):=by
 have e:(kvs.any λkv=>decide (kv.1=k))=(atKey xs k).isSome:=by
  rw[jD,(r.val k).isSome_eq,Option.isSome_map]
 unfold gP storedH
 rw[e]
 by_cases q:(atKey xs k).isSome=true
 . rw[if_pos q,if_pos q];exact r.repl k ry
 . rw[if_neg q,if_neg q];exact Paired.snoc r ⟨rfl,hb,ry⟩
theorem KT.keeps{H H':Hp}{kvs:List (List cB×V)}{xs:List (List cB×Addr×Value)}(r:KT H kvs xs)(ht: ∀b ys,H b=some (.tup ys)->H' b=some (.tup ys)):KT H' kvs xs:=
 Paired.mapP r λ_ _ z=>⟨z.1,ht _ _ z.2.1,z.2.2⟩
section
variable {h:Heap}
theorem zji{u:HO}(ok:jG P w H h)(e:Rd H a u):cP P w H h a u:=e.ok ok
theorem rR{kvs:List (cB×V)}(ok:jG P w H h)(e:Rd H a (.dK kvs)):kvs.length<=sizeLine/\(a==sysModules)=false/\ ∃vs,KV kvs vs/\h.DictOf (aV P w) a vs:=
 show cP P w H h a (.dK kvs)from zji ok e
theorem zio{kvs:List (cB×V)}(ok:jG P w H h)(e:H a=some (.dK kvs)):kvs.length<=sizeLine/\(a==sysModules)=false/\ ∃vs,KV kvs vs/\h.DictOf (aV P w) a vs:=rR ok (.inl e)
theorem jJ{ks:List cB}(ok:jG P w H h)(e:H a=some (.tup (ks.map kV))):(tupleKind (aV P w)).is h ks a:=by
 obtain⟨_,bC,r,o,h1,h2,n,h3⟩:=(show cP P w H h a (.tup (ks.map kV))from ok a _ e)
 exact⟨o,bC.toArray,n,h1,h2,h3,by simpa using sR r⟩
theorem qY{kvs:List (List cB×V)}(ok:jG P w H h)(e:Rd H a (.dT kvs)):kvs.length<=sizeLine/\(a==sysModules)=false/\
 ∃xs,KT H kvs xs/\h.DictOfH (tupleKind (aV P w)) a xs:=by
 obtain⟨z,y,xs,r,o,es,ep,h1,h2,h3,h4,h5⟩:=(show cP P w H h a (.dT kvs)from zji ok e)
 refine⟨z,y,xs,r,o,es,ep,h1,h2,h3,h4,λx hx=> ?_,h5⟩
 have all: ∀{l:List (List cB×V)} {m:List (List cB×Addr×Value)},KT H l m-> ∀x∈m,(tupleKind (aV P w)).is h x.1 x.2.1:=by
  intro l m q
  induction q with
  |nil=>intro x hx;exact nomatch hx
  | @cons p q ps qs hq t ih=>
   intro x hx
   rcases List.mem_cons.mp hx with e|hx
   . subst e;exact jJ ok (by rw[<-hq.1];exact hq.2.1)
   . exact ih x hx
 exact all r x hx
theorem zfD{kvs:List (List cB×V)}(ok:jG P w H h)(e:H a=some (.dT kvs)):kvs.length<=sizeLine/\(a==sysModules)=false/\
 ∃xs,KT H kvs xs/\h.DictOfH (tupleKind (aV P w)) a xs:=qY ok (.inl e)
end
def mB(H:Hp)(a:Addr)(y:V)(r:Option V):Prop:=
 (∃kvs k,Rd H a (.dK kvs)/\y=kV k/\r=dI kvs k)\/ ∃kvs k b,Rd H a (.dT kvs)/\y= .ref b/\H b=some (.tup (k.map kV))/\r=dI kvs k
def zB(H:Hp)(a:Addr)(y v:V)(H':Hp):Prop:=
 (∃kvs k,H a=some (.dK kvs)/\y=kV k/\kvs.length<sizeLine/\H'=aN H a (.dK (gP kvs k v)))\/
 ∃kvs k b,H a=some (.dT kvs)/\y= .ref b/\H b=some (.tup (k.map kV))/\kvs.length<sizeLine/\H'=aN H a (.dT (gP kvs k v))
theorem mB.k{H:Hp}{a:Addr}{kvs:List (cB×V)}{k:cB}(e:H a=some (.dK kvs)):mB H a (kV k) (dI kvs k):= .inl ⟨kvs,k,.inl e,rfl,rfl⟩
theorem mB.t{H:Hp}{a b:Addr}{kvs:List (List cB×V)}{k:List cB}(e:H a=some (.dT kvs))(eb:H b=some (.tup (k.map kV))):mB H a (.ref b) (dI kvs k):= .inr ⟨kvs,k,b,.inl e,rfl,eb,rfl⟩
theorem zB.k{H:Hp}{a:Addr}{kvs:List (cB×V)}{k:cB}{v:V}(e:H a=some (.dK kvs))(hl:kvs.length<sizeLine):zB H a (kV k) v (aN H a (.dK (gP kvs k v))):= .inl ⟨kvs,k,e,rfl,hl,rfl⟩
theorem zB.t{H:Hp}{a b:Addr}{kvs:List (List cB×V)}{k:List cB}{v:V}(e:H a=some (.dT kvs))(eb:H b=some (.tup (k.map kV)))(hl:kvs.length<sizeLine):
 zB H a (.ref b) v (aN H a (.dT (gP kvs k v))):= .inr ⟨kvs,k,b,e,rfl,eb,hl,rfl⟩
section
variable {v:V}{r:Value}{o:Option V}{E:Value->Shared->Prop}
theorem aM.big(I:aM X aA σ H s):sysModules<s.heap.objs.size:=by
 have h:mainGlobals<s.heap.objs.size:=(I.mod.glob.keeps I.bk).lt
 exact Nat.lt_trans (by decide) h
theorem sZ{Q:Value->Shared->Prop}(hu:A.units+1<cLine)(I:aM X aA σ H s)(g:mB H a y (some v))(ry:bA y u)(h: ∀w' s',aM X aA σ H s'->bA v w'->Q w' s'):
 wpAny (model X.prog X.w) A (getItem (.ref a) u) Q E s:=by
 rcases g with⟨kvs,k,e,ey,l⟩|⟨kvs,k,b,e,ey,eb,l⟩
 . subst ey;obtain⟨z,hd,vs,jI,dd⟩:=rR I.hok e;obtain⟨w',hw,xD⟩:=jX.some_of (v:=v) (o:=valueAt vs k) (by rw[l];exact jI.val k);exact wpAny_getItem_of (lN ry) dd.mapOf hw (h w' _ (I.tok _) xD)
 . subst ey;cases(show u=Value.ref b from ry);obtain⟨z,hd,xs,jI,dd⟩:=qY I.hok e;obtain⟨w',hw,xD⟩:=jX.some_of (v:=v) (o:=(atKey xs k).map (·.2)) (by rw[l];exact jI.val k);obtain⟨p,hp,hp2⟩:=Option.map_eq_some_iff.mp hw;refine wpAny_getItem_heap (tupleKind_room_in1 hu) (jJ I.hok eb) dd hp ?_;rw[hp2];exact h w' _ (I.tok _) xD
theorem zmU{Q:Value->Shared->Prop}(hu:A.units+1<cLine)(I:aM X aA σ H s)(g:mB H a y o)(ry:bA y u)(h: ∀s',aM X aA σ H s'->Q (.bool o.isSome) s'):
 wpAny (model X.prog X.w) A (compareOp .In u (.ref a)) Q E s:=by
 rcases g with⟨kvs,k,e,ey,l⟩|⟨kvs,k,b,e,ey,eb,l⟩
 . subst ey;obtain⟨z,hd,vs,jI,dd⟩:=rR I.hok e;refine wpAny_in_of (lN ry) hd dd.mapOf ?_;rw[<-(jI.val k).isSome_eq,<-l];exact h _ (I.tok _)
 . subst ey;cases(show u=Value.ref b from ry);obtain⟨z,hd,xs,jI,dd⟩:=qY I.hok e;refine wpAny_in_heap (tupleKind_room_in1 hu) (jJ I.hok eb) hd dd ?_;have q:=(jI.val k).isSome_eq;rw[Option.isSome_map]at q;rw[<-q,<-l];exact h _ (I.tok _)
theorem zbs{Q:Value->Shared->Prop}(hu:A.units+1<cLine)(I:aM X aA σ H s)(g:mB H a y o)(ry:bA y u)(h: ∀s',aM X aA σ H s'->Q (.bool (!o.isSome)) s'):
 wpAny (model X.prog X.w) A (compareOp .NotIn u (.ref a)) Q E s:=by
 rcases g with⟨kvs,k,e,ey,l⟩|⟨kvs,k,b,e,ey,eb,l⟩
 . subst ey;obtain⟨z,hd,vs,jI,dd⟩:=rR I.hok e;refine wpAny_notIn_of (lN ry) hd dd.mapOf ?_;rw[<-(jI.val k).isSome_eq,<-l];exact h _ (I.tok _)
 . subst ey;cases(show u=Value.ref b from ry);obtain⟨z,hd,xs,jI,dd⟩:=qY I.hok e;refine wpAny_notIn_heap (tupleKind_room_in1 hu) (jJ I.hok eb) hd dd ?_;have q:=(jI.val k).isSome_eq;rw[Option.isSome_map]at q;rw[<-q,<-l];exact h _ (I.tok _)
theorem kZ{h':Heap}{t':Nat}{ob:HO}(I:aM X aA σ H s)(mu:Mut (H a))(hs:Heap.SameBut a s.heap h')(he: ∃q,h'.get? a=some q)(new:cP X.prog X.w (aN H a ob) h' a ob):
 aM X aA σ (aN H a ob) {s with heap:=h',toks:=t'}:=
 I.write (x:=a) (e:=a) mu (.inl rfl) (λb q hb z=>(hs.2 b hb).trans z) he new
theorem zet{P:Program}{w:World}{H':Hp}{h':Heap}{kvs:List (cB×V)}{vs:List (cB×Value)}(z:kvs.length<=sizeLine)(hd:(a==sysModules)=false)(jI:KV kvs vs)(dd:h'.DictOf (aV P w) a vs):
 cP P w H' h' a (.dK kvs):=⟨z,hd,vs,jI,dd⟩
theorem sN{H':Hp}{Q:Unit->Shared->Prop}(hu:A.units+1<cLine)(I:aM X aA σ H s)(g:zB H a y v H')(ry:bA y u)(rv:bA v r)(h: ∀s',aM X aA σ H' s'->Q () s'):
 wpAny (model X.prog X.w) A (setItem (.ref a) u r) Q E s:=by
 rcases g with⟨kvs,k,e,ey,l,eH⟩|⟨kvs,k,b,e,ey,eb,l,eH⟩
 . subst ey eH;obtain⟨z,hd,vs,jI,dd⟩:=zio I.hok e;have hz:vs.length<=sizeLine:=by rw[<-jI.length];exact z
   have hl:(gP kvs k v).length<=sizeLine:=by have:=iO kvs k v;omega
   refine wpAny_setItem_pairs (hsz:=hz) (lN ry) dd λh' dd' hs=>h _ ?_;have he: ∃q,h'.get? a=some q:=let⟨q,_,_,hq,_⟩:=dd';⟨q,hq⟩
   exact kZ I (by rw[e];exact True.intro) hs he (zet hl hd (jI.put k rv) dd')
 . subst ey eH;cases(show u=Value.ref b from ry);obtain⟨z,hd,xs,jI,dd⟩:=zfD I.hok e;have hz:xs.length<=sizeLine:=by rw[<-Paired.length jI];exact z
   have hl:(gP kvs k v).length<=sizeLine:=by have:=iO kvs k v;omega
   refine wpAny_setItem_heap (hsz:=hz) (tupleKind_room_in1 hu) (jJ I.hok eb) dd λh' dd' hs=>h _ ?_;obtain⟨q,es,ep,hq,h2,h3,h4,_,h5⟩:=dd';refine kZ I (by rw[e];exact True.intro) hs ⟨q,hq⟩ ⟨hl,hd,_,(jI.put k eb rv).keeps λc ys ec=> ?_,q,es,ep,hq,h2,h3,h4,h5⟩;rw[aD (cK ec e (λz=>nomatch z))];exact ec
end
section
variable {kvs:List (cB×V)}{k:cB}{E:Value->Shared->Prop}
end
def zqz(i:Expr):Prop:= ∀ov iv,subscripted i false ov iv=operate [ov,iv] (getItem ov iv)
theorem zgu{prog:Program}{w:World}{A:Around}{E:Value->Shared->Prop}{s:Shared}{env:Env}{value slice:Expr}{pos:Pos}{T id:String}{Q:Value->Shared->Prop}
 (hl:typeLookup (.type T) "__getitem__" =pure (some (.builtin id))) (hs:zqz slice)
 (h:wpAny (model prog w) A (eval value env) (λo s₁=>wpAny (model prog w) A (eval slice env) (λi s₂=>s₂.TypeIs o T/\wpAny (model prog w) A (getItem o i) Q E s₂) E s₁) E s):
 wpAny (model prog w) A (eval (.Subscript value slice pos) env) Q E s:=by
 refine Subscript_ (wpAny_mono h (λo s₁ h₁=>wpAny_mono h₁ (λi s₂ h₂=> ?_) λ_ _ x=>x) λ_ _ x=>x)
 obtain⟨hT,h₂⟩:=h₂
 unfold subscriptTail
 refine wpAny_bind ?_
 rw[getitemInPython_of_ne hT.not_modules]
 refine wpAny_bind (wpAny_specialOf hT hl ?_)
 have fN:wpAny (model prog w) A (subscripted slice false o i) (λr s₃=>wpAny (model prog w) A (letTemporaryGo value o r>>= λ_=>pure r) Q E s₃) E s₂:=by
  rw[hs o i];exact wpAny_operating (wpAny_mono h₂ (λr s₃ h₃=>wpAny_bind (wpAny_letTemporaryGo (wpAny_pure h₃))) λ_ _ x=>x)
 first
  |exact wpAny_pure (wpAny_bind fN)
  |exact wpAny_bind (wpAny_pure (wpAny_bind fN))
  |exact wpAny_bind fN
theorem oN{X:Cx}{aA:List (Addr×Obj)}{σ:St}{H:Hp}{s:Shared}{a:Addr}{y:V}{o:Option V}(I:aM X aA σ H s)(g:mB H a y o):s.TypeIs (.ref a) "dict" :=by
 rcases g with⟨kvs,k,e,_,_⟩|⟨kvs,k,b,e,_,_,_⟩
 . obtain⟨_,_,vs,_,dd⟩:=rR I.hok e;exact dd.typeIs
 . obtain⟨_,_,xs,_,dd⟩:=qY I.hok e;exact dd.typeIs
section
variable {o i value:Expr}{pQ oT:Pos}{td ty tv:TE}
end
theorem zfN{P:Program}{w:World}{H:Hp}(h:Heap)(hb:sysModules<h.objs.size):cP P w H (h.push {cls:= .type "dict",data:= .dict #[]}) h.objs.size (.dK []):=
 ⟨Nat.zero_le _,beq_eq_false_iff_ne.mpr (Ne.symm (Nat.ne_of_lt hb)),[],.nil,Heap.DictOf.new h⟩
theorem zdt{P:Program}{w:World}{H:Hp}(h:Heap)(hb:sysModules<h.objs.size):cP P w H (h.push {cls:= .type "dict",data:= .dict #[]}) h.objs.size (.dT []):=
 ⟨Nat.zero_le _,beq_eq_false_iff_ne.mpr (Ne.symm (Nat.ne_of_lt hb)),[],.nil,_,#[],0,Heap.get?_push_size _ rfl,⟨rfl,rfl,rfl⟩,rfl,rfl,List.nodup_nil⟩
structure M2(X:Cx)(o:Expr)(m:Str)(rA:Pos)(e f:Expr)(iE:Pos):Prop where
 base:attributeBase o m X.env (eval o X.env)=eval o X.env
 few:((backTo iE (starEach [e,f] X.env)).all (λx=> !x.1)&&(backToKw iE (keywordEach [] X.env)).all (λx=>x.1.isSome)
  &&decide (([e,f]:List Expr).length+([]:List Keyword).length+(if([]:List Keyword).isEmpty then 0 else 1)<30))=true
 line:(rA.endLine==iE.line)=true
 trees:backTo iE (starEach [e,f] X.env)=[(false,eval e X.env),(false,eval f X.env)]
def IsD(H:Hp)(a:Addr):Prop:=(∃kvs,Rd H a (.dK kvs))\/ ∃kvs,Rd H a (.dT kvs)
theorem zkT{X:Cx}{aA:List (Addr×Obj)}{σ:St}{H:Hp}{s:Shared}{a:Addr}(I:aM X aA σ H s)(d:IsD H a):
 s.TypeIs (.ref a) "dict" /\(∀b,Value.ref a= .ref b-> ∃ob,s.heap.get? b=some ob/\ob.dict=none)/\(a==sysModules)=false:=by
 rcases d with⟨kvs,e⟩|⟨kvs,e⟩
 . obtain⟨_,hd,vs,_,dd⟩:=rR I.hok e;refine⟨dd.typeIs,λb q=> ?_,hd⟩;cases q;obtain⟨ob,_,_,h1,h2,_⟩:=dd;exact⟨ob,h1,h2.2.1⟩
 . obtain⟨_,hd,xs,_,dd⟩:=qY I.hok e;refine⟨dd.typeIs,λb q=> ?_,hd⟩;cases q;obtain⟨ob,_,_,h1,h2,_⟩:=dd;exact⟨ob,h1,h2.2.1⟩
section
variable {d:V}{r:Value}{o:Option V}{E:Value->Shared->Prop}
theorem zkl{Q:Value->Shared->Prop}(hu:A.units+1<cLine)(I:aM X aA σ H s)(g:mB H a y o)(ry:bA y u)(rd:bA d r)(h: ∀w' s',aM X aA σ H s'->bA (o.getD d) w'->Q w' s'):
 wpAny (model X.prog X.w) A (call (.builtin "dict.get") [.ref a,u,r]) Q E s:=by
 rcases g with⟨kvs,k,e,ey,l⟩|⟨kvs,k,b,e,ey,eb,l⟩
 . subst ey;obtain⟨z,hd,vs,jI,dd⟩:=rR I.hok e;refine call_meetsIn PySem.F.slot_dict_get dd.typeIs PySem.F.entry_dict_get (PySem.F.args_dict_get_3 _ _ _) (meets_dict_get_default (aV X.prog X.w) a (lN ry) hd r) ⟨_,dd.mapOf,h _ _ (I.tok _) ?_⟩;rw[l];exact(jI.val k).getD rd
 . subst ey;cases(show u=Value.ref b from ry);obtain⟨z,hd,xs,jI,dd⟩:=qY I.hok e;refine call_meetsIn PySem.F.slot_dict_get dd.typeIs PySem.F.entry_dict_get (PySem.F.args_dict_get_3 _ _ _) (meetsH_dict_get_default (tupleKind (aV X.prog X.w)) a b hd r) ⟨tupleKind_room_in1 hu,k,xs,jJ I.hok eb,dd,h _ _ (I.tok _) ?_⟩;rw[l];exact(jI.val k).getD rd
end
def zkY(td ty tx:TE):TE:= λσ H Q=>td σ H λx H1=> ∃a,x= .ref a/\IsD H1 a/\ty σ H1 λy H2=>tx σ H2 λz H3=> ∃o,mB H3 a y o/\Q (o.getD z) H3
section
variable {o f:Expr}{td ty tx:TE}
theorem zdk(hu:X.A.units+1<cLine)(ho:PE X o td)(he:PE X e ty)(hf:PE X f tx)(m:M2 X o "get" rA e f iE):PE X (.Call (.Attribute o "get" rA) [e,f] [] iE) (zkY td ty tx):=by
 intro aA s σ H Q I h
 refine wpAny_Call_method m.base m.few m.line PySem.F.plainAttrs_dict PySem.F.slot_dict_get PySem.F.type_dict_get (cH (ho aA s σ H _ I h) λu s1 ⟨x,H1,I1,rx,a,ex,d,q1⟩=> ?_)
 subst ex
 obtain rfl:u=Value.ref a:=rx
 obtain⟨t1,t2,_⟩:=zkT I1 d
 refine⟨t1,t2,?_⟩
 rw[m.trees]
 refine Calls.callWith_builtin rfl (Calls.evalArgs_plain (Calls.spliced_cons (cH (he aA s1 σ H1 _ I1 q1) λiv s2 ⟨y,H2,I2,ry,q2⟩=>
  Calls.spliced_cons (cH (hf aA s2 σ H2 _ I2 q2) λfv s3 ⟨z,H3,I3,rz,ov,g,q3⟩=>Calls.spliced_nil ?_))))
 exact zkl hu I3 g ry rz λw' s4 I4 xD=>⟨_,H3,I4,xD,q3⟩
end
section
variable {kvs:List (cB×V)}{E:Value->Shared->Prop}
end
section
variable {E:Value->Shared->Prop}
end
instance keyMem(x:cB)(zs:List cB):Decidable (x∈zs):=decidable_of_iff ((zs.any λy=>decide (y=x))=true) (by simp)
theorem zhK(t:SetTable)(es:Array (Int×Value))(h:Int)(x:Value):(layNew t es h x).2.1.led=t.led:=by
 unfold layNew
 cases t.freeSlot h with
 |some p=>
  show((t.put p.1).1.orStandIn _).led=t.led
  unfold SetTable.orStandIn
  split<;>rfl
 |none=>rfl
theorem zbI(t:SetTable)(es:Array (Int×Value))(n:Nat):(relayAll t es n).2.1.led=t.led:=by
 unfold relayAll
 split
 . rename_i t' order e
   have hf:t'.led=t.led:=by
    unfold SetTable.relaid SetTable.laid at e;obtain⟨_,_,e⟩:=Option.bind_eq_some_iff.mp e;cases e;rfl
   dsimp only
   split
   . exact hf
   . rfl
 . rfl
theorem zfA{k:cB}{u:Value}(r:bA (kV k) u):u.scannable=true:=by
 cases k with
 |inl i=>obtain⟨t,rfl⟩:=r;rfl
 |inr x=>obtain⟨t,rfl⟩:=r;rfl
theorem zcl{zs:List V}{us:List Value}{x:V}{u:Value}(h:bK zs us)(r:bA x u):bK (zs++[x]) (us++[u]):=h.append (.cons r .nil)
section
variable {E:Value->Shared->Prop}
def eX(P:Program)(w:World)(led:Bool)(h:Heap)(a:Addr)(zs:List cB):Prop:=
 ∃o es ep t,h.get? a=some o/\o.ExactSet/\o.data= .set es ep t/\ElemsOf (aV P w) es.toList/\(∃us:List Value,(es.toList.map (·.2)).Perm us/\bK (zs.map kV) us)/\zs.Nodup
  /\es.size<scanBound/\t.fits es.size=true/\t.led=led/\gY t.place
theorem eX.mem{zs:List cB}{es:Array (Int×Value)}{us:List Value}(hp:(es.toList.map (·.2)).Perm us)(hs:bK (zs.map kV) us)(x:cB):
 (∃e∈es.toList,(aV P w).is x e.2=true)↔x∈zs:=by
 constructor
 . rintro⟨e,he,hk⟩;obtain⟨n,hn⟩:=List.getElem?_of_mem (hp.mem_iff.mp (List.mem_map_of_mem he));have hl:=hs.length;rw[bH]at hl;have hz:n<zs.length:=by rw[hl];exact(List.getElem?_eq_some_iff.mp hn).1
   obtain⟨u,h1,h2⟩:=hs.get (i:=n) (x:=kV zs[n]) (by rw[List.getElem?_map,List.getElem?_eq_getElem hz];rfl);rw[hn]at h1;cases Option.some.inj h1;rw[(aV P w).inj _ _ _ hk (lN h2)];exact List.getElem_mem hz
 . intro hx;obtain⟨n,hn⟩:=List.getElem?_of_mem hx;obtain⟨u,h1,h2⟩:=hs.get (i:=n) (x:=kV x) (by rw[List.getElem?_map,hn];rfl);obtain⟨e,he,h3⟩:=List.mem_map.mp (hp.mem_iff.mpr (List.mem_of_getElem? h1));exact⟨e,he,by rw[h3];exact lN h2⟩
theorem wT{led:Bool}{a:Addr}{zs:List cB}{x:cB}{u:Value}{Q:Bool->Shared->Prop}(ru:bA (kV x) u)(hS:eX P w led s.heap a zs)(zmQ:zs.length+1<scanBound)
 (h: ∀h',Heap.SameBut a s.heap h'->eX P w led h' a (if x∈zs then zs else zs++[x])->Q (!decide (x∈zs)) {s with heap:=h',toks:=s.toks+1}):
 wpAny (model P w) A (setAdd a u) Q E s:=by
 obtain⟨o,es,ep,t,ho,hex,hd,hel,⟨us,hp,hs⟩,vK,hb,hf,uM,mF⟩:=hS
 have zfp:(aV P w).is x u=true:=lN ru
 have hsc:=zfA ru
 have hsz:es.size=zs.length:=by
  have e1:=hp.length_eq;rw[bH,Array.length_toList]at e1;rw[e1];have e2:=hs.length;rw[bH]at e2;exact e2.symm
 have hm:=eX.mem (P:=P) (w:=w) hp hs x
 unfold setAdd
 refine wpAny_holding (wpAny_bind ((aV P w).pyHash zfp ?_))
 unfold setAddHashed setAddHashedIn
 refine wpAny_holding (wpAny_bind (wpAny_setState_of (s:={s with toks:=s.toks+1}) ho hd hf ?_))
 dsimp only
 rw[byScan_of (knd:=aV P w) hsc hb hel,if_pos rfl]
 unfold setAddByScan
 refine wpAny_bind (wpAny_bind (wpAny_rule (wpAny_bind (wpAny_setScan_of (s:={s with toks:=s.toks+1}) zfp ho hd hf hel ?_))))
 cases hr:List.findIdx? (λe=>(aV P w).is x e.2) es.toList with
 |some j=>
  obtain⟨hj,hpj,_⟩:=List.findIdx?_eq_some_iff_getElem.mp hr;have hx:x∈zs:=hm.mp ⟨es.toList[j],List.getElem_mem hj,hpj⟩;have q:=h s.heap (Heap.SameBut.refl a s.heap) (by rw[if_pos hx];exact⟨o,es,ep,t,ho,hex,hd,hel,⟨us,hp,hs⟩,vK,hb,hf,uM,mF⟩);rw[decide_eq_true hx]at q;exact wpAny_pure (wpAny_pure q)
 |none=>
  have hx:x∉zs:= λz=>by
   obtain⟨e,he,hk⟩:=hm.mpr z;have y:=List.findIdx?_eq_none_iff.mp hr e he;rw[hk]at y;cases y
  have hgw: ∀(b:Bool) (s₁:Shared) (Q':Unit->Shared->Prop),Q' () s₁->wpAny (model P w) A (match b with|true=>rule "set.scan.the-table-gave-way" |false=>pure ()) Q' E s₁:= λb s₁ Q' hq=>by
   cases b
   . exact wpAny_pure hq
   . exact wpAny_rule hq
  have l1:=layNew_perm t es ((aV P w).hash x) u;have l2:=layNew_fits t es ((aV P w).hash x) u;have l3:=zhK t es ((aV P w).hash x) u;have l4:=zeu mF es ((aV P w).hash x) u;generalize layNew t es ((aV P w).hash x) u=L at l1 l2 l3 l4 ⊢;obtain⟨kY,t1,zey,ztg⟩:=L;dsimp only at l1 l2 l3 l4 ⊢;rw[Array.toList_push]at l1;have zuu:kY.size=zs.length+1:=by
   rw[<-Array.length_toList,l1.length_eq,List.length_append,Array.length_toList,hsz];rfl
  have hb1:kY.size<scanBound:=by rw[zuu];exact zmQ
  have zuH:ElemsOf (aV P w) kY.toList:=(hel.push zfp hsc).perm l1;have fN: ∀(es2:Array (Int×Value)) (t2:SetTable) (o2:Obj) (ep2:Nat) (h2:Heap),es2.toList.Perm kY.toList->t2.fits es2.size=true->t2.led=t.led->gY t2.place->o2.ExactSet->o2.data= .set es2 ep2 t2->h2.get? a=some o2->
   eX P w led h2 a (if x∈zs then zs else zs++[x]):= λes2 t2 o2 ep2 h2 p2 f2 e1 e2 x2 d2 g2=>by
   rw[if_neg hx];have hz2:es2.size=kY.size:=by rw[<-Array.length_toList,p2.length_eq,Array.length_toList]
   refine⟨o2,es2,ep2,t2,g2,x2,d2,zuH.perm p2,⟨us++[u],?_,?_⟩,?_,by omega,f2,e1.trans uM,e2⟩
   . refine((p2.trans l1).map _).trans ?_;rw[List.map_append];exact hp.append_right _
   . rw[List.map_append];exact zcl hs ru
   . exact List.nodup_append.mpr ⟨vK,by simp,λa ha b hb e=>hx (by rw[List.mem_singleton]at hb;rw[<-hb,<-e];exact ha)⟩
  refine wpAny_bind (hgw ztg _ _ ?_);have tail: ∀(g:Bool->Sem Unit) (t2:SetTable) (R:Option Bool->Shared->Prop),(∀(b:Bool) (s₁:Shared) (Q':Unit->Shared->Prop),Q' () s₁->wpAny (model P w) A (g b) Q' E s₁)->gY t2.place->t2.led=t.led->t2.fits kY.size=true->
   (∀h',Heap.SameBut a s.heap h'->eX P w led h' a (if x∈zs then zs else zs++[x])->R (some true) {s with heap:=h',toks:=s.toks+1})->
   wpAny (model P w) A (do
    storeSet a kY t2
    if(!zey&&t2.tooFull)=true then do
     g (relayAll t2 kY (SetTable.grown kY.size)).2.2
     storeSet a (relayAll t2 kY (SetTable.grown kY.size)).1 (relayAll t2 kY (SetTable.grown kY.size)).2.1
     pure (some true)
     else pure (some true)) R E {s with toks:=s.toks+1}:= λg t2 R hg e2 e1 f2 hR=>by
   have ga: ∀(h0:Heap) (o0:Obj) (es0:Array (Int×Value)) (ep0:Nat) (t0:SetTable) (es':Array (Int×Value)) (t':SetTable),h0.get? a=some o0->o0.data= .set es0 ep0 t0->(h0.update a (Obj.putSet es' t')).get? a=some {o0 with data:= .set es' (ep0+1) t'}:= λh0 o0 es0 ep0 t0 es' t' q1 q2=>by
    have z:=Heap.get?_update_self (Obj.putSet es' t') q1 (by rw[putSet_of es' t' q2];rfl);rw[putSet_of es' t' q2]at z;exact z
   have g1:=ga s.heap o es ep t kY t2 ho hd;refine wpAny_bind (wpAny_storeSet_of (s:={s with toks:=s.toks+1}) ho hd ?_ (fits_of_scanBound hb1))
   split
   . have r1:=relayAll_perm t2 kY (SetTable.grown kY.size);have r2:=relayAll_fits t2 kY (SetTable.grown kY.size);have r3:=zbI t2 kY (SetTable.grown kY.size);have hz2:(relayAll t2 kY (SetTable.grown kY.size)).1.size=kY.size:=by rw[<-Array.length_toList,r1.length_eq,Array.length_toList]
     refine wpAny_bind (hg _ _ _ (wpAny_bind (wpAny_storeSet_of (s:={s with heap:=s.heap.update a (Obj.putSet kY t2),toks:=s.toks+1}) g1 rfl ?_ (fits_of_scanBound (by rw[hz2];exact hb1)))));have np:=zD e2 kY (SetTable.grown kY.size);exact wpAny_pure (hR _ ((Heap.SameBut.update s.heap a _).trans (Heap.SameBut.update _ a _)) (fN _ _ {o with data:= .set (relayAll t2 kY (SetTable.grown kY.size)).1 (ep+1+1) (relayAll t2 kY (SetTable.grown kY.size)).2.1} (ep+1+1) _ r1 r2 (r3.trans e1) np hex rfl (ga _ {o with data:= .set kY (ep+1) t2} kY (ep+1) t2 _ _ g1 rfl)))
   . exact wpAny_pure (hR _ (Heap.SameBut.update s.heap a _) (fN kY t2 {o with data:= .set kY (ep+1) t2} (ep+1) _ (.refl _) f2 e1 e2 hex rfl g1))
  have q: ∀h',Heap.SameBut a s.heap h'->eX P w led h' a (if x∈zs then zs else zs++[x])->wpAny (model P w) A (pure true) Q E {s with heap:=h',toks:=s.toks+1}:= λh' c1 c2=>by
   have q:=h h' c1 c2;rw[decide_eq_false hx]at q;exact wpAny_pure q
  cases hp1:t1.plain
  . rw[if_neg (λz=>nomatch z)];refine wpAny_bind (wpAny_pure ?_);exact tail _ t1 _ hgw l4 l3 l2 q
  . simp only[if_true];rw[hashByValue_scannable 8 hsc];refine wpAny_bind (wpAny_pure ?_);cases plainKind u
    . exact tail _ {t1 with plain:=false} _ hgw l4 l3 (SetTable.fits_plain_off l2) q
    . exact tail _ t1 _ hgw l4 l3 l2 q
end
section
variable {E:Value->Shared->Prop}
theorem wF{h:Heap}{a:Addr}(e:h.get? a=some (nE w)):eX P w (lE w) h a []:=by
 refine⟨_,#[],0,_,e,⟨rfl,rfl,rfl⟩,rfl,?_,⟨[],List.Perm.refl _,.nil⟩,List.Pairwise.nil,by decide,rfl,rfl,?_⟩
 . intro _ z;simp at z
 . intro i j h hj;exact absurd hj (Nat.not_lt_zero _)
def fH(l:List cB):List cB:=l.foldl (λσ v=>if v∈σ then σ else σ++[v]) []
theorem wV(l:List cB)(v:cB):fH (l++[v])=if v∈fH l then fH l else fH l++[v]:=by
 unfold fH
 rw[List.foldl_append]
 rfl
theorem tX: ∀(l σ:List cB),(l.foldl (λσ v=>if v∈σ then σ else σ++[v]) σ).length<=σ.length+l.length
 | [],_=>Nat.le_refl _
 |v::l,σ=>by
  rw[List.foldl_cons,List.length_cons];refine Nat.le_trans (tX l _) ?_
  split
  . omega
  . rw[List.length_append,List.length_singleton];omega
theorem zbS(l:List cB):(fH l).length<=l.length:=by
 have q:=tX l []
 rw[List.length_nil,Nat.zero_add]at q
 exact q
theorem n8(l:List cB): ∀(σ:List cB) (x:cB),x∈l.foldl (λσ v=>if v∈σ then σ else σ++[v]) σ↔x∈σ\/x∈l:=by
 induction l with
 |nil=>intro σ x;simp
 |cons v l ih=>
  intro σ x;rw[List.foldl_cons,ih]
  by_cases c:v∈σ
  . rw[if_pos c,List.mem_cons];exact⟨λz=>z.imp id .inr,λz=>z.elim .inl λz=>z.elim (λe=> .inl (e▸c)) .inr⟩
  . rw[if_neg c,List.mem_append,List.mem_singleton,List.mem_cons];exact⟨λz=>z.elim (λz=>z.imp id .inl) λz=> .inr (.inr z),λz=>z.elim (λz=> .inl (.inl z)) λz=>z.elim (λz=> .inl (.inr z)) .inr⟩
theorem uJ(l:List cB): ∀(σ:List cB),σ.Nodup->(l.foldl (λσ v=>if v∈σ then σ else σ++[v]) σ).Nodup:=by
 induction l with
 |nil=>intro σ h;exact h
 |cons v l ih=>
  intro σ h;rw[List.foldl_cons];refine ih _ ?_
  by_cases c:v∈σ
  . rw[if_pos c];exact h
  . rw[if_neg c];exact List.nodup_append.mpr ⟨h,List.nodup_cons.mpr ⟨List.not_mem_nil,List.nodup_nil⟩,λa ha b hb e=>c (by rw[<-List.mem_singleton.mp hb,<-e];exact ha)⟩
theorem zfm: ∀{us:List Value} {ys:List cB},bK (ys.map kV) us-> ∀(i:Nat) (v:Value),us[i]?=some v-> ∃y,ys[i]?=some y/\bA (kV y) v:= λ{us ys} r i v e=>by
 have hl:=r.length
 rw[bH]at hl
 have hi:i<ys.length:=by rw[hl];exact(List.getElem?_eq_some_iff.mp e).1
 obtain⟨u,h1,h2⟩:=r.get (i:=i) (x:=kV ys[i]) (by rw[List.getElem?_map,List.getElem?_eq_getElem hi];rfl)
 rw[e]at h1
 cases Option.some.inj h1
 exact⟨_,List.getElem?_eq_getElem hi,h2⟩
theorem eX.keep{led:Bool}{h h':Heap}{a:Addr}{zs:List cB}(x:eX P w led h a zs)(k: ∀o,h.get? a=some o->h'.get? a=some o):eX P w led h' a zs:=by
 obtain⟨o,es,ep,t,e,r⟩:=x
 exact⟨o,es,ep,t,k o e,r⟩
variable {R:Result->Shared->Prop}{fp wr:List Addr}{G:Array GenState->Array GenState->Prop}{n:Nat}{Pv:Nat->Value->Prop}{St:Nat->Shared->Prop}
theorem zbZ{led:Bool}(W:WalksS P w A.in1 I fp wr G n Pv St)(S:Addr)(hSf:S∉fp)(ys:List cB)(hn:ys.length=n)(zuE: ∀i v,Pv i v-> ∃y,ys[i]?=some y/\bA (kV y) v)(hb:n+1<scanBound):
 ∀(k i:Nat) (s:Shared),n - i=k->i<=n->St i s->eX P w led s.heap S (fH (ys.take i))->
  (∀s',Moved (S::wr) G s s'->eX P w led s'.heap S (fH ys)->R (.ok (.ret .none)) s')->
  codeAny (model P w) A (.builtin "set.update.loop" ⟨[.ref S,.ref I],[]⟩) R s:=by
 have hSw:S∉wr:= λz=>hSf (W.sub _ z)
 have up: ∀b∈wr,b∈S::wr:= λb z=> .tail _ z
 intro k
 induction k with
 |zero=>
  intro i s hk hi hst hS hR;obtain rfl:i=n:=by omega
  refine codeAny_builtin F.entry_set_update_loop (by
   rw[PySem.Around.under_plainId F.plain_set_update_loop _];refine(show wpAny _ A.in1 (pyNext (.ref I)>>=_) _ _ s from wpAny_bind (W.done s _ _ hst λs' hm=> ?_));refine(show wpAny _ A.in1 (ret Value.none) _ _ s' from wpAny_pure (hR s' (hm.mono up) ?_));rw[List.take_of_length_le (by omega)]at hS;exact hS.keep λo e=>hm.heap S o hSw e)
 |succ k ih=>
  intro i s hk hi hst hS hR;have eO:i<n:=by omega
  refine codeAny_builtin F.entry_set_update_loop (by
   rw[PySem.Around.under_plainId F.plain_set_update_loop _];refine(show wpAny _ A.in1 (pyNext (.ref I)>>=_) _ _ s from wpAny_bind (W.item i s _ _ eO hst λv s' hP zte hm=> ?_));obtain⟨y,hy,ry⟩:=zuE i v hP;have hS':eX P w led s'.heap S (fH (ys.take i)):=hS.keep λo e=>hm.heap S o hSw e;refine(show wpAny _ A.in1 (holding [v] (setAdd S v)>>=_) _ _ s' from wpAny_bind (wpAny_holding (wT ry hS' ?_ λh' hsb hS2=> ?_)))
   . have q:=zbS (ys.take i);rw[List.length_take]at q;omega
   have e1:ys.take (i+1)=ys.take i++[y]:=by rw[List.take_succ,hy];rfl
   rw[<-wV,<-e1]at hS2;refine wpAny_pure ⟨plainId_quiet F.plain_set_update_loop _,ih (i+1) _ (by omega) eO (W.frame _ s' _ _ zte (Nat.le_succ _) λb z o e=> ?_) hS2 λs'' ztL zui=> ?_⟩
   . exact(hsb.2 b λq:b=S=>hSf (q▸z)).trans e
   . refine hR s'' (Moved.trans W.gtrans ((hm.mono up).then_heap (Nat.le_succ _) λb o z e=> ?_) ztL) zui;exact(hsb.2 b λq:b=S=>z (by rw[q];exact .head _)).trans e)
set_option maxHeartbeats 8000000 in
theorem zbP{S l:Addr}{items:Array Value}{ys:List cB}{R:Result->Shared->Prop}(hh:A.handled=none)(hS:s.heap.get? S=some (nE w))(hl:s.heap.IsList l items)(hs:bK (ys.map kV) items.toList)(hb:items.size+1<scanBound)
 (h: ∀(h':Heap) (tk:Nat),eX P w (lE w) h' S (fH ys)->(∀b o,b≠S->s.heap.get? b=some o->h'.get? b=some o)->R (.ok (.ret .none)) {s with heap:=h',toks:=tk}):
 codeAny (model P w) A (.call (.builtin "set.__init__") ⟨[.ref S,.ref l],[]⟩) R s:=by
 have hT:s.TypeIs (.ref S) "set" :=⟨_,hS,rfl⟩
 refine codeAny_call_builtin PySem.F.called_set.init.plain PySem.F.entry_set_init (check_set_init_1 hT ?_)
 obtain⟨ol,hol,hcl,nl,hdl⟩:=id hl
 have mX:l≠S:= λz=>by
  rw[z,hS]at hol;cases hol;have y:Value.type "set" =Value.type "list" :=hcl;simp at y
 obtain⟨zud,zvr,zno,zsP⟩:=ol
 obtain rfl:zud=_:=hcl
 obtain rfl:zno=_:=hdl
 have c1:=PySem.F.sub_list_set
 have c2:=PySem.F.sub_list_frozenset
 have c3:(Value.type "list" ==Value.type "dict")=false:=by decide
 unfold Builtin.«set.__init__» noKeywords
 unfold Builtin.Frozenset.updateFrom
 generalize hPI:pyIter=PI
 wp_walk
 subst hPI
 refine wpAny_pyIter_list hl (wpAny_bind (wpAny_runValue ?_))
 have hh3:A.in1.in1.handled=none:=by simp[hh]
 have eO:l<s.heap.objs.size:=Heap.lt_size hol
 have hsl:S<s.heap.objs.size:=Heap.lt_size hS
 refine zbZ (led:=lE w) ((Walks.list hh3 s.heap.objs.size l (Nat.ne_of_lt eO) items).toS) S ?hf ys ?hn (λi v e=>zfm hs i v (by rw[Array.getElem?_toList];exact e)) hb (items.size - 0) 0 _ rfl (Nat.zero_le _) ⟨⟨_,Heap.get?_push_size _ rfl,rfl,rfl⟩,hl.push _⟩ ?hS0 ?hR
 case hf=>
  simp only[List.mem_cons,List.not_mem_nil,or_false,not_or];exact⟨Nat.ne_of_lt hsl,λz=>mX z.symm⟩
 case hn=>
  have q:=hs.length;rw[bH,Array.length_toList]at q;exact q
 case hS0=>exact wF (Heap.get?_push_of_some _ hS)
 case hR=>
  intro s' hm hS';obtain⟨h',g',d',tk',os'⟩:=s';obtain rfl:g'=s.gens:=hm.gens;obtain rfl:d'=s.drawn:=hm.drawn;obtain rfl:os'=s.os:=hm.os;refine wpAny_pure (show wpAny _ _ (ret Value.none) _ _ _ from wpAny_pure (h h' tk' hS' λb o hbS e=> ?_));refine hm.heap b o (λz=> ?_) (Heap.get?_push_of_some _ e);simp only[List.mem_cons,List.not_mem_nil,or_false]at z
  rcases z with z|z
  . exact hbS z
  . exact absurd (Heap.lt_size e) (by rw[z];exact Nat.lt_irrefl _)
set_option maxHeartbeats 8000000 in
theorem zcc{l:Addr}{items:Array Value}{ys:List cB}{Q:Value->Shared->Prop}(hh:A.handled=none)(hl:s.heap.IsList l items)(hs:bK (ys.map kV) items.toList)(hb:items.size+1<scanBound)
 (h: ∀(h':Heap) (tk:Nat),eX P w (lE w) h' s.heap.objs.size (fH ys)->(∀b o,s.heap.get? b=some o->h'.get? b=some o)->Q (.ref s.heap.objs.size) {s with heap:=h',toks:=tk}):
 wpAny (model P w) A (call (.type "set") [.ref l]) Q E s:=by
 obtain⟨c,tl,ztK⟩:=PySem.F.called_set.mro
 have c1:=PySem.F.called_set.made
 have c2:=PySem.F.called_set.sub
 have c3:=PySem.F.called_set.notType
 have c4:=PySem.F.called_set.canCreate
 have c5:=PySem.F.typeCall_set_1 (.ref l)
 refine wpAny_call (codeAny_of_tree (show wpAny _ _ (callAny (.type "set") _) _ _ _ from wpAny_pure ⟨Code.quiet_builtin _ (by decide+kernel),codeAny_builtin PySem.F.entry_type_call ?_⟩))
 rw[PySem.Around.under_plain (weight_type_call_type "set" [.ref l] []) rfl]
 repeat (any_goals (first|assumption|wp_step))
 refine codeAny_mono (oM (P:=P) (E:=E) (rest:=[.ref l]) (Q₁:= λobj s₁=>obj= .ref s.heap.objs.size/\s₁={s with heap:=s.heap.push (nE w)}) (PySem.F.newCall_set_1 _) ⟨rfl,rfl⟩) λr s₁ hr=> ?_
 cases r with
 |error e=>exact hr
 |ok fl=>
  cases fl with
  |ret obj=>
   obtain⟨rfl,rfl⟩:=hr;have hS:(s.heap.push (nE w)).get? s.heap.objs.size=some (nE w):=Heap.get?_push_size _ rfl;have hT:Shared.TypeIs {s with heap:=s.heap.push (nE w)} (.ref s.heap.objs.size) "set" :=⟨_,hS,rfl⟩;have c6:=PySem.F.called_set.init.lookup;have c7:=PySem.F.called_set.init.bind (.ref s.heap.objs.size)
   repeat (any_goals (first|assumption|wp_step))
   refine zbP (s:={s with heap:=s.heap.push (nE w)}) (by simp[hh]) hS (hl.push _) hs hb λh' tk x k=> ?_;refine wpAny_pure (wpAny_pure (h h' tk x λb o e=>k b o (Nat.ne_of_lt (Heap.lt_size e)) (Heap.get?_push_of_some _ e)))
  |_=>exact hr.elim
end
section
variable {E:Value->Shared->Prop}{i:Nat}{es:Array (Int×Value)}{t:SetTable}{o:Obj}
theorem wJ{sl i:Nat}(hw:w.params.followText "set-order" =false)(hd:o.data= .set es ep t)(hf:t.fits es.size=true)(uM:t.led=true)(hn:(!t.plain&&decide (es.size>1))=false):
 Nxt P w o S sl i ep (match es[SetTable.below t.place sl]?,t.place[SetTable.below t.place sl]? with|some (_,x),some j=>some (x,j+1)|_,_=>none):=by
 intro A E s Q ho q
 unfold setNext
 refine wpAny_bind (wpAny_setState_of ho hd hf ?_)
 refine wpAny_bind (show wpAny _ _ (ask>>= λa=>pure (a.params.followText "set-order")) _ _ _ from wpAny_bind (wpAny_askSetting (wpAny_pure ?_)))
 dsimp only
 rw[if_neg (by rw[show(model P w).w.params.followText "set-order" =false from hw];simp)]
 refine(show wpAny _ _ (if(!t.plain&&decide (es.size>1))=true then _ else _) _ _ _ from ?_)
 rw[if_neg (by rw[hn];exact λz=>nomatch z)]
 refine(show wpAny _ _ ((if(!t.led&& !es.isEmpty)=true then unsupported "set:maker-not-led" else pure ())>>=_) _ _ _ from ?_)
 rw[uM,if_neg (by simp)]
 exact wpAny_bind (wpAny_pure (wpAny_pure q))
theorem zfY(hw:w.params.followText "set-order" =false)(hd:o.data= .set es ep t)(hf:t.fits es.size=true)(uM:t.led=true)(hn:(!t.plain&&decide (es.size>1))=false)(hr:gY t.place):
 Led P w o S ep (es.toList.map (·.2)) (λi=>if i=0 then 0 else t.place.getD (i - 1) 0+1):=by
 have hp:t.place.size=es.size:=by
  simp only[SetTable.fits,Bool.and_eq_true,beq_iff_eq,decide_eq_true_eq]at hf;exact hf.1
 have hb: ∀i:Nat,i<=es.size->SetTable.below t.place (if i=0 then 0 else t.place.getD (i - 1) 0+1)=i:= λi hi=>by
  cases i with
  |zero=>exact hr.first
  |succ k=>exact hr.next (i:=k) (by omega)
 refine⟨λi x e=> ?_,?_,rfl⟩
 . rw[List.getElem?_map,Array.getElem?_toList]at e;obtain⟨y,e1,rfl⟩:=Option.map_eq_some_iff.mp e;have hi:i<es.size:=(Array.getElem?_eq_some_iff.mp e1).1;have q:=wJ (P:=P) (S:=S) (sl:=if i=0 then 0 else t.place.getD (i - 1) 0+1) (i:=i) hw hd hf uM hn;rw[hb i (by omega),e1,zaO (by omega:i<t.place.size)]at q;exact q
 . have q:=wJ (P:=P) (S:=S) (sl:=if(es.toList.map (·.2)).length=0 then 0 else t.place.getD ((es.toList.map (·.2)).length - 1) 0+1) (i:=(es.toList.map (·.2)).length) hw hd hf uM hn;rw[hb _ (by rw[bH,Array.length_toList];exact Nat.le_refl _),Array.getElem?_eq_none (by rw[bH,Array.length_toList];exact Nat.le_refl _)]at q;exact q
theorem zcv{us us0:List Value}(hp:us.Perm us0): ∀{zs:List Int},IntsAre us0 zs-> ∃vW,IntsAre us vW/\vW.Perm zs:=by
 induction hp with
 |nil=>intro zs h;exact⟨zs,h,.refl _⟩
 |cons x _ ih=>
  intro zs h;cases h with
  |cons n t r=>
   obtain⟨vW,h1,h2⟩:=ih r;exact⟨_,.cons n t h1,h2.cons n⟩
 |swap x y l=>
  intro zs h;cases h with
  |cons n t r=>
   cases r with
   |cons n' t' r'=>exact⟨_,.cons _ _ (.cons _ _ r'),List.Perm.swap ..⟩
 |trans _ _ ih1 ih2=>
  intro zs h;obtain⟨z1,h1,p1⟩:=ih2 h;obtain⟨z2,h2,p2⟩:=ih1 h1;exact⟨z2,h2,p2.trans p1⟩
theorem vA{zs:List cB}{Q:List Value->Shared->Prop}(hh:A.handled=none)(hS:eX P w (lE w) s.heap S zs)
 (h: ∀s' us,(∀b o,s.heap.get? b=some o->s'.heap.get? b=some o)->s'.gens=s.gens->s'.os=s.os->s.heap.objs.size<s'.heap.objs.size->(∃us0,us.Perm us0/\bK (zs.map kV) us0)->Q us s'):wpAny (model P w) A (collect (.ref S)) Q E s:=by
 obtain⟨o,es,ep,t,ho,hex,hd,hel,⟨us0,hp,hs⟩,vK,hb,hf,uM,mF⟩:=hS
 have ho0:(s.heap.push {cls:= .type "list",data:= .seq ([]:List Value).toArray}).get? S=some o:=Heap.get?_push_of_some _ ho
 have hl0:(s.heap.push {cls:= .type "list",data:= .seq ([]:List Value).toArray}).get? s.heap.objs.size=some {cls:= .type "list",data:= .seq ([]:List Value).toArray}:=Heap.get?_push_size _ rfl
 have hsz:(s.heap.push {cls:= .type "list",data:= .seq ([]:List Value).toArray}).objs.size=s.heap.objs.size+1:=Heap.size_push _ _
 have hSl:S<s.heap.objs.size:=Heap.lt_size ho
 have cQ:es.size<=sizeLine:=fits_of_scanBound hb
 refine wX ⟨o,ho,hex.1⟩ (zdZ ho0 hex hd hf hb (λhq=> ?_) λhq ps d hps=> ?_)
 . have znq: ∃us sl,Led P w o S ep us sl/\us.Perm (es.toList.map (·.2)):=by
    cases hw:w.params.followText "set-order"
    . have iP:t.led=true:=by rw[uM];simp[hw]
      rw[hw]at hq;exact⟨_,_,zfY hw hd hf iP (by simpa using hq) mF,.refl _⟩
    . exact⟨_,_,zeh hw hd hf,(zcf _ _).map _⟩
   obtain⟨us,sl,L,hpu⟩:=znq;have hul:us.length<=sizeLine:=by rw[hpu.length_eq,bH,Array.length_toList];exact cQ
   refine⟨_,rfl,⟨o,Heap.get?_push_of_some _ ho0,hex.1⟩,Heap.get?_push_of_some _ hl0,λh' c k g=> ?_⟩;refine tZ (zdy (I:=(s.heap.push {cls:= .type "list",data:= .seq ([]:List Value).toArray}).objs.size) L (by simp[hh]) hd hf (by rw[hsz];exact Nat.ne_of_lt (Nat.lt_succ_of_lt hSl))) hul ⟨?_,?_⟩ ?_ g λs' c' kk g1 g2 g3=>⟨_,_,rfl,g3,h s' us (λb o' e=> ?_) g1 g2 (Heap.lt_size g3) ⟨us0,hpu.trans hp,hs⟩⟩
   . rw[L.zero];exact k _ _ (by rw[hsz];exact Nat.succ_ne_self _) (Heap.get?_push_size _ rfl)
   . exact k _ _ (Nat.ne_of_lt hSl) (Heap.get?_push_of_some _ ho0)
   . rw[hsz];intro z
     rcases List.mem_cons.mp z with z|z
     . exact absurd z (Nat.ne_of_lt (Nat.lt_succ_self _))
     . exact absurd (List.mem_singleton.mp z) (Nat.ne_of_gt hSl)
   . have hbl:=Heap.lt_size e;exact kk b o' (Nat.ne_of_lt hbl) (by rw[hsz];exact Nat.ne_of_lt (Nat.lt_succ_of_lt hbl)) (k b o' (Nat.ne_of_lt hbl) (Heap.get?_push_of_some _ (Heap.get?_push_of_some _ e)))
 . have zrZ:((s.heap.push {cls:= .type "list",data:= .seq ([]:List Value).toArray}).push {cls:= .type "tuple",data:= .seq (ps.map λi:Nat=>rawInt i).toArray}).objs.size=s.heap.objs.size+1+1:=by rw[Heap.size_push,hsz]
   have hpu:(ps.map λp=>(es.toList.map (·.2)).getD p .none).Perm (es.toList.map (·.2)):=by
    have q:=hps.map λp=>(es.toList.map (·.2)).getD p Value.none;rw[show es.size=(es.toList.map (·.2)).length by rw[bH,Array.length_toList],b8]at q;exact q
   have znS:(ps.map λp=>(es.toList.map (·.2)).getD p .none).length=ps.length:=bH _;have hul:ps.length<=sizeLine:=by rw[hps.length_eq,List.length_range];exact cQ
   refine⟨_,rfl,⟨o,Heap.get?_push_of_some _ (Heap.get?_push_of_some _ ho0),hex.1⟩,Heap.get?_push_of_some _ (Heap.get?_push_of_some _ hl0),λh' c k g=> ?_⟩;have W:=o9 (P:=P) (w:=w) (A:=A.in1) (I:=s.heap.objs.size+1+1) (T:=s.heap.objs.size+1) (n:=0) (by simp[hh]) hd hf hps (Nat.ne_of_lt (Nat.lt_succ_of_lt (Nat.lt_succ_of_lt hSl))) (Nat.ne_of_lt (Nat.lt_succ_self _));rw[<-znS]at W;rw[hsz]at k ⊢;refine tZ W (by rw[znS];exact hul) ⟨?_,?_,?_⟩ ?_ g λs' c' kk g1 g2 g3=>⟨_,_,rfl,g3,h s' _ (λb o' e=> ?_) g1 g2 (Heap.lt_size g3) ⟨us0,hpu.trans hp,hs⟩⟩
   . exact k _ _ (Nat.ne_of_gt (Nat.lt_succ_of_lt (Nat.lt_succ_self _))) (by have q:=Heap.get?_push_size ((s.heap.push {cls:= .type "list",data:= .seq ([]:List Value).toArray}).push {cls:= .type "tuple",data:= .seq (ps.map λi:Nat=>rawInt i).toArray}) (o:=gM (.ref (s.heap.objs.size+1)) 0 S es.size ep) rfl;rw[zrZ]at q;exact q)
   . exact k _ _ (Nat.ne_of_lt hSl) (Heap.get?_push_of_some _ (Heap.get?_push_of_some _ ho0))
   . exact k _ _ (Nat.succ_ne_self _) (Heap.get?_push_of_some _ (by have q:=Heap.get?_push_size (s.heap.push {cls:= .type "list",data:= .seq ([]:List Value).toArray}) (o:={cls:= .type "tuple",data:= .seq (ps.map λi:Nat=>rawInt i).toArray}) rfl;rw[hsz]at q;exact q))
   . intro z
     rcases List.mem_cons.mp z with z|z
     . exact absurd z (Nat.ne_of_lt (Nat.lt_succ_of_lt (Nat.lt_succ_self _)))
     . rcases List.mem_cons.mp z with z|z
       . exact absurd z (Nat.ne_of_gt hSl)
       . exact absurd (List.mem_singleton.mp z) (Nat.ne_of_lt (Nat.lt_succ_self _))
   . have hbl:=Heap.lt_size e;exact kk b o' (Nat.ne_of_lt hbl) (Nat.ne_of_lt (Nat.lt_succ_of_lt (Nat.lt_succ_of_lt hbl))) (k b o' (Nat.ne_of_lt hbl) (Heap.get?_push_of_some _ (Heap.get?_push_of_some _ (Heap.get?_push_of_some _ e))))
theorem vU{zs:List Int}{Q:Value->Shared->Prop}(hh:A.handled=none)(hS:eX P w (lE w) s.heap S (zs.map Sum.inl))(h64:zs.length<64)
 (h: ∀s' l vs vW,(∀b o,s.heap.get? b=some o->s'.heap.get? b=some o)->s'.gens=s.gens->s'.os=s.os->s.heap.objs.size<=l->(∃e,s'.heap.get? l=some (seqObj "list" vs e))->IntsAre vs.toList vW->vW.Perm zs->vW.Pairwise (·<=·)->Q (.ref l) s'):
 wpAny (model P w) A (call (.builtin "sorted") [.ref S]) Q E s:=by
 refine Calls.call_function_entry kind_sorted plain_sorted entry_sorted (args_sorted1 _) ?_
 unfold Builtin.«sorted»
 refine wpAny_bind (m:=checkCount "sorted" 1 1 _) (wpAny_pure ?_)
 refine wpAny_bind (vA (by simp[hh]) hS λs1 us k1 g1 o1 z1 ⟨us0,hpu,hv⟩=> ?_)
 rw[List.map_map]at hv
 have hl0:=hv.length
 rw[bH]at hl0
 have hz:us.length=zs.length:=by rw[hpu.length_eq];exact hl0.symm
 obtain⟨zs1,hs1,hp1⟩:=zcv hpu (zM hv)
 refine wpAny_bind (wpAny_newList ?_ (by rw[hz];have:=kQ;have:(64:Nat)<=sizeLine:=(by rw[sizeLine_eq];decide);omega))
 have hoL:(s1.heap.push (seqObj "list" us.toArray 0)).get? s1.heap.objs.size=some (seqObj "list" us.toArray 0):=Heap.get?_push_size _ rfl
 refine wpAny_bind (wpAny_holding (wpAny_call_entry slot_list_sort ⟨_,hoL,rfl⟩ entry_list_sort (list_sort_tree hoL hs1 (by rw[hz];exact h64) λout ns' b1 b2 b3=>⟨_,rfl,?_⟩) (args_list_sort _)))
 refine wpAny_pure ⟨_,rfl,h _ _ _ ns' (λb o e=> ?_) g1 o1 ?_ (sortedHeap_at hoL) b1 (b2.trans hp1) b3⟩
 . have e1:=k1 b o e;have hb:=Heap.lt_size e1;rw[sortedHeap_old (Nat.ne_of_lt hb) (by rw[Heap.size_push];exact Nat.lt_succ_of_lt hb)];exact Heap.get?_push_of_some _ e1
 . exact Nat.le_of_lt z1
end
abbrev TM:=St->Hp->(St->Hp->Prop)->Prop
def PM(X:Cx)(zhl:Sem Unit)(t:TM):Prop:=
 ∀(aA:List (Addr×Obj)) (s:Shared) (σ:St) (H:Hp) (Q:St->Hp->Prop),aM X aA σ H s->t σ H Q->
  wpAny (model X.prog X.w) X.A zhl (λ_ s'=> ∃σ' H',aM X aA σ' H' s'/\Q σ' H') (λ_ _=>False) s
def PB(X:Cx)(body:Sem Fin)(c:Code)(t:TM):Prop:=
 ∀(aA:List (Addr×Obj)) (s:Shared) (σ:St) (H:Hp) (Q:St->Hp->Prop),aM X aA σ H s->t σ H Q->
  wpAny (model X.prog X.w) X.A body (λf s'=>f= .again c/\ ∃σ' H',aM X aA σ' H' s'/\Q σ' H') (λ_ _=>False) s
theorem PM.pb{X:Cx}{zhl:Sem Unit}{c:Code}{t:TM}(h:PM X zhl t):PB X (zhl>>= λ_=>again c) c t:= λaA s σ H Q I q=>
 wpAny_bind (wpAny_mono (h aA s σ H Q I q) (λ_ s' h'=>wpAny_pure ⟨rfl,h'⟩) λ_ _ z=>z)
def uC(J:It)(g:TG)(tc:TT)(tm:TM)(Q:St->Hp->Prop)(σ0:St)(H1:Hp):Prop:= ∃W:Nat->Nat->St->Hp->Prop,(∃m,W 0 m σ0 H1)/\
 ∀i m σ H,W i m σ H->(J.stop i H/\Q σ H)\/(J.go i H/\ ∃N:St->Hp->Prop,(∀σ' H',N σ' H'-> ∃m',m'<m/\W (i+1) m' σ' H')/\
  ∀x H',J.yld i H x H'->g x σ H' λσ2 H2=>tc σ2 H2 λb H3=>if b=true then tm σ2 H3 N else N σ2 H3)
def zaV(D:Addr)(te:TE):TM:= λσ H Q=>te σ H λv H4=> ∃ys,H4 D=some (.lst ys)/\ys.length<sizeLine/\Q σ (aN H4 D (.lst (ys++[v])))
def zdJ(wi:TI)(g:TG)(tc:TT)(tm:TM):TM:= λσ H Q=>wi σ H λJ H1=>uC J g tc tm Q σ H1
abbrev znD(iJ:List Expr)(env:Env):Sem Bool:=forIn iJ true λc r=>if r=true then do let ok<-isTrue c env (eval c env);pure (ForInStep.yield ok)else pure (ForInStep.yield r)
def zbi(e:Expr)(depth:Nat)(tg:Expr)(iJ:List Expr)(p:Pos)(body:Sem Fin)(it acc:Value)(env:Env):Sem Fin:=do
 standAt p
 match<-pyNext it with
 |none=>pure (.done .next)
 |some v=>
  letOwnedTupleGo tg it v
  assign tg env v
  let mut ok:=true
  for c in iJ do
   if ok then ok<-isTrue c env (eval c env)
  if ok then body else again (.compLoop e depth it acc env)
section
variable {prog:Program}{R:Result->Shared->Prop}
theorem zdG{e tg:Expr}{depth:Nat}{iJ:List Expr}{p:Pos}{body:Sem Fin}{it acc:Value}{env:Env}{n:Nat}{I:Nat->Shared->Prop}{R':Value->Shared->Prop}
 (jN:wpAny (model prog w) A (pyNext it) (λr s₁=>match r with
  |none=>R (.ok .next) s₁
  |some v=>wpAny (model prog w) A (letOwnedTupleGo tg it v) (λ_ zqb=>wpAny (model prog w) A (assign tg env v) (λ_ s₂=>
   wpAny (model prog w) A (znD iJ env) (λok s₃=>
    if ok=true then wpAny (model prog w) A body (λf s₄=>f= .again (.compLoop e depth it acc env)/\ ∃m,m<n/\I m s₄) (λ_ _=>False) s₃
    else ∃m,m<n/\I m s₃) (λ_ _=>False) s₂) (λ_ _=>False) zqb) (λ_ _=>False) s₁) (λ_ _=>False) s):
 wpAny (model prog w) A (zbi e depth tg iJ p body it acc env) (λf s'=>match f with
  | .done fl=>R (.ok fl) s'
  | .again c=>c= .compLoop e depth it acc env/\ ∃m,m<n/\I m s') R' s:=by
 unfold zbi
 refine wpAny_bind (wpAny_standAt (wpAny_bind (wpAny_mono jN (λr s₁ h₁=> ?_) λ_ _ h'=>h'.elim)))
 cases r with
 |none=>exact wpAny_pure h₁
 |some v=>
  refine wpAny_bind (wpAny_mono h₁ (λ_ zqb zsD=> ?_) λ_ _ h'=>h'.elim);refine wpAny_bind (wpAny_mono zsD (λ_ s₂ h₂=>wpAny_bind (wpAny_mono h₂ (λok s₃ h₃=> ?_) λ_ _ h'=>h'.elim)) λ_ _ h'=>h'.elim);cases ok with
  |false=>exact wpAny_pure ⟨rfl,h₃⟩
  |true=>exact wpAny_mono h₃ (λf s₄ h₄=>by obtain⟨e1,h₄⟩:=h₄;subst e1;exact⟨rfl,h₄⟩) λ_ _ h'=>h'.elim
end
theorem qL{aA:List (Addr×Obj)}{e tg:Expr}{depth:Nat}{iJ:List Expr}{p:Pos}{body:Sem Fin}{acc:Value}{J:It}{fp:List Addr}{it:Addr}{tn:Nat->Heap->Prop}{g:TG}{tc:TT}{tm:TM}{Q:St->Hp->Prop}{σ0:St}{H1:Hp}{s:Shared}{R:Result->Shared->Prop}
 (hxe:X.xe= λ_ _=>False) (hc:X.calm=true) (hq:(Code.compLoop e depth (.ref it) acc X.env).quiet=true)
 (zlH:(model X.prog X.w).den (.compLoop e depth (.ref it) acc X.env)=(zbi e depth tg iJ p body (.ref it) acc X.env).onRaise (λx=>do noteFrame x X.env;theTreesLotGoes x)) (hun:X.A.under (.compLoop e depth (.ref it) acc X.env)=X.A)
 (hg:PG X tg g) (hts:PTs X iJ tc) (hm:PB X body (.compLoop e depth (.ref it) acc X.env) tm) (T:oW X.prog X.w X.K tg J fp it tn) (I:aM X aA σ0 H1 s) (st:tn 0 s.heap) (f: ∀b∈fp,fB X aA H1 b)
 (h:uC J g tc tm Q σ0 H1) (hR: ∀s' σ' H',aM X aA σ' H' s'->Q σ' H'->R (.ok .next) s'):codeAny (model X.prog X.w) X.A (.compLoop e depth (.ref it) acc X.env) R s:=by
 obtain⟨W,⟨m0,w0⟩,jN⟩:=h
 have j7: ∀{H':Hp},(∀b∈fp,H' b=none)-> ∀b∈fp,fB X aA H' b:= λhn b hb=>⟨hn b hb,(f b hb).2⟩
 have no: ∀(x:Value) (s':Shared),X.xe x s'->False:= λx s' z=>by rw[hxe]at z;exact z
 refine codeAny_loop hq (λn s'=> ∃i σ' H',aM X aA σ' H' s'/\tn i s'.heap/\(∀b∈fp,H' b=none)/\W i n σ' H') (λn s3 hI=> ?_) m0 ⟨0,σ0,H1,I,st,λb hb=>(f b hb).1,w0⟩
 obtain⟨i,σ3,H3,I3,uR,fr3,w3⟩:=hI
 rw[zlH,hun]
 refine wpAny_noted (zdG (I:= λn s'=> ∃i σ' H',aM X aA σ' H' s'/\tn i s'.heap/\(∀b∈fp,H' b=none)/\W i n σ' H') ?_)
 rcases jN i n σ3 H3 w3 with⟨stop,qn⟩|⟨go,N,hN,step⟩
 . refine cH (T.done X rfl rfl rfl hc i aA s3 σ3 H3 _ I3 (j7 fr3) uR stop) λr s4 ⟨hr,I4⟩=> ?_;subst hr;exact hR _ _ _ I4 qn
 . refine cH (T.item X rfl rfl rfl hc i aA s3 σ3 H3 _ I3 (j7 fr3) uR go) λr s4 ⟨u,hr,h4⟩=> ?_;subst hr;refine cH h4 λ_ s5 ⟨x,H5,I5,r5,y5,st5,fr5⟩=> ?_;have I5':=I5.pinned (j7 fr5) (T.obj _ _ st5);have again: ∀{σ7:St} {H7:Hp} {s7:Shared},aM X (aA++oF fp s5.heap) σ7 H7 s7->N σ7 H7-> ∃m,m<n/\ ∃i σ' H',aM X aA σ' H' s7/\tn i s7.heap/\(∀b∈fp,H' b=none)/\W i m σ' H':= λ{σ7 H7 s7} I7 n7=>by
    obtain⟨m',hm,w7⟩:=hN σ7 H7 n7;refine⟨m',hm,i+1,σ7,H7,I7.unpinned,T.keep _ _ _ st5 λb hb o e=>(I7.pin (b,o) (List.mem_append_right _ (List.mem_append_right _ (gW hb e)))).1,λb hb=> ?_,w7⟩;obtain⟨o,e,d⟩:=T.obj _ _ st5 b hb;exact(I7.pin (b,o) (List.mem_append_right _ (List.mem_append_right _ (gW hb e)))).2.1
   refine wpAny_mono (hg _ s5 σ3 H5 x u _ I5' r5 (step x H5 y5)) (λ_ s6 ⟨σ6,H6,I6,q6⟩=> ?_) no;refine wpAny_mono (hts _ s6 σ6 H6 _ I6 q6) (λok s7 ⟨H7,I7,q7⟩=> ?_) no;cases ok with
   |false=>
    simp only[Bool.false_eq_true,if_false]at q7 ⊢;exact again I7 q7
   |true=>
    simp only[if_true]at q7 ⊢;exact cH (hm _ s7 σ6 H7 _ I7 q7) λ_ s8 ⟨e8,σ8,H8,I8,q8⟩=>⟨e8,again I8 q8⟩
abbrev ziD(D:Addr)(iU:Expr)(env:Env):Sem Unit:=do let _<-call (.builtin "list.append") [.ref D,<-eval iU env]
abbrev zib(e:Expr)(depth:Nat)(cV:Expr)(acc:Value)(env:Env)(c:Code):Sem Fin:=do
 let x<-eval cV env
 standAt cV.pos
 let x<-foldedSetIterable cV env x
 let _<-runOwn (.compStart e depth (<-holding [x] (pyIter x)) acc env) env
 again c
theorem zgy{D:Addr}{iU:Expr}{te:TE}(hxe:X.xe= λ_ _=>False)(he:PE X iU te):PM X (ziD D iU X.env) (zaV D te):=by
 intro aA s σ H Q I h
 have no: ∀(x:Value) (s':Shared),X.xe x s'->False:= λx s' z=>by rw[hxe]at z;exact z
 refine wpAny_bind (wpAny_mono (he aA s σ H _ I h) (λxv s1 ⟨v,H1,I1,r1,ys,hD,hl,q⟩=> ?_) no)
 refine wpAny_bind (wpAny_mono (cZ aA s1 σ H1 (.ref D) [v] _ [xv] (λ_ H'=>H'=aN H1 D (.lst (ys++[v]))) I1 rfl (.cons r1 .nil) ⟨D,ys,v,rfl,rfl,hD,hl,rfl⟩) (λ_ s2 ⟨_,H2,I2,_,e2⟩=> ?_) no)
 exact wpAny_pure ⟨σ,H2,I2,by rw[e2];exact q⟩
theorem zgH{iU tg1 it1 tg2 yJ:Expr}{if1 if2:List Expr}{scope:Scope}{pos:Pos}{D:Addr}{wi:TI}{g:TG}{tc:TT}{te:TE}{c:Code}(hxe:X.xe= λ_ _=>False)(hc:X.calm=true)
 (hi:PI X tg2 yJ wi) (hg:PG X tg2 g) (hts:PTs X if2 tc) (he:PE X iU te) (hs: ∀x,foldedSetIterable yJ X.env x=pure x):
 PB X (zib (.ListComp iU [⟨tg1,it1,if1,0⟩,⟨tg2,yJ,if2,0⟩] scope pos) 1 yJ (.ref D) X.env c) c (zdJ wi g tc (zaV D te)):=by
 intro aA s σ H Q I h
 have no: ∀(x:Value) (s':Shared),X.xe x s'->False:= λx s' z=>by rw[hxe]at z;exact z
 refine wpAny_bind (wpAny_mono (hi aA s σ H _ I h) (λv s1 h1=> ?_) no)
 refine wpAny_bind (wpAny_standAt (wpAny_bind ?_))
 rw[hs v]
 refine wpAny_pure (wpAny_bind (wpAny_holding (wpAny_mono h1 (λitv s2 h2=> ?_) no)))
 obtain⟨it,fp,tn,J,H2,e,I2,T,sC,f2,q⟩:=h2
 subst e
 have jR:codeAny (model X.prog X.w) X.A (.compLoop (.ListComp iU [⟨tg1,it1,if1,0⟩,⟨tg2,yJ,if2,0⟩] scope pos) 1 (.ref it) (.ref D) X.env)
  (λr s'=>match r with| .ok f=>(∃σ' H',aM X aA σ' H' s'/\Q σ' H')| .error e=>cameBackBy (model X.prog X.w) X.A X.env (λ_ _=>False) e s') s2:=by
  refine qL (p:=yJ.pos) (body:=ziD D iU X.env>>= λ_=>again _) hxe hc rfl rfl rfl hg hts (zgy hxe he).pb T I2 sC f2 q λs' σ' H' I' q'=> ?_;exact⟨σ',H',I',q'⟩
 refine wpAny_bind (wpAny_runOwn (codeAny_mono (R:= λr s'=>match r with| .ok f=>(∃σ' H',aM X aA σ' H' s'/\Q σ' H')| .error e=>cameBackBy (model X.prog X.w) X.A X.env (λ_ _=>False) e s') ?_ λr s' hr=> ?_))
 . refine codeAny_of_tree ?_;show wpAny _ X.A ((compStart (.ListComp iU [⟨tg1,it1,if1,0⟩,⟨tg2,yJ,if2,0⟩] scope pos) 1 (.ref it) (.ref D) X.env).onRaise (λx=>do noteFrame x X.env;standAt theWindowsPlace)) _ _ s2;refine wpAny_notedAt ?_;unfold compStart;show wpAny _ _ (ask>>=_) _ _ s2;refine wpAny_bind (wpAny_askSetting (wpAny_ite ?_))
   split
   . first
      |exact wpAny_bind (wpAny_pure (wpAny_pure (And.intro rfl jR)))
      |exact wpAny_pure (And.intro rfl jR)
   . have h':=T.self X.A 0 s2 (λit' s'=>codeAny (model X.prog X.w) X.A (.compLoop (.ListComp iU [⟨tg1,it1,if1,0⟩,⟨tg2,yJ,if2,0⟩] scope pos) 1 it' (.ref D) X.env) (λr s'=>match r with| .ok f=>(∃σ' H',aM X aA σ' H' s'/\Q σ' H')| .error e=>cameBackBy (model X.prog X.w) X.A X.env (λ_ _=>False) e s') s') (λ_ _=>False) sC jR
     first
      |exact wpAny_bind (wpAny_rule (wpAny_bind (wpAny_standAt (wpAny_bind (wpAny_mono h' (λit' s' h'=>wpAny_pure (And.intro rfl h')) λ_ _ x=>x.elim)))))
      |(refine wpAny_bind (wpAny_rule ?_);show wpAny _ _ (standAt yJ.pos>>=_) _ _ s2;exact wpAny_bind (wpAny_standAt (wpAny_bind (wpAny_mono h' (λit' s' h'=>wpAny_pure (And.intro rfl h')) λ_ _ x=>x.elim))))
 . cases r with
   |error e=>exact hr
   |ok fl=>exact wpAny_pure ⟨rfl,hr⟩
def zjC(wi:TI)(n:Nat)(idx:List Nat)(g:TG)(tc:TT)(wi2:TI)(g2:TG)(tc2:TT)(te:TE):TE:= λσ H Q=>wi σ H λJ H1=> ∀D,H1 D=none->uC J g tc (zdJ wi2 g2 tc2 (zaV D te)) (λ_ H'=>Q (.ref D) H') (iB n idx σ) (aN H1 D (.lst []))
theorem u5{e:Expr}{tg:Expr}{scope:Scope}{own fr:List Str}{idx:List Nat}{aA:List (Addr×Obj)}{σ:St}{H2:Hp}{s2 s3:Shared}{o0:HO}{fp:List Addr}{it:Addr}{tn:Nat->Heap->Prop}{J:It}{g:TG}{tc:TT}{tm:TM}{Q:VK}{body:Env->Sem Fin}{iJ:List Expr}{p:Pos}
 (hc:X.calm=true) (S:aR own fr scope X.env.scope) (wA:idx.length=fr.length) (m7: ∀(k:Nat) (x:Str) (j:Nat),fr[k]?=some x->idx[k]?=some j->X.N[j]?=some x)
 (T:oW X.prog X.w X.K tg J fp it tn) (sC:tn 0 s2.heap) (f2: ∀b∈fp,fB X aA H2 b)
 (yI: ∃o,s3={s2 with heap:=s2.heap.push o,toks:=s2.toks}) (I3:aM X aA σ (aN H2 s2.heap.objs.size o0) s3)
 (hg: ∀C s H aA fp,PG (cJ X scope C (own++fr) s H aA fp) tg g) (ht: ∀C s H aA fp,PTs (cJ X scope C (own++fr) s H aA fp) iJ tc)
 (hm: ∀C s H aA fp,PB (cJ X scope C (own++fr) s H aA fp) (body (cJ X scope C (own++fr) s H aA fp).env) (.compLoop e 0 (.ref it) (.ref s2.heap.objs.size) (cJ X scope C (own++fr) s H aA fp).env) tm)
 (hq: ∀env,(Code.compLoop e 0 (.ref it) (.ref s2.heap.objs.size) env).quiet=true)
 (zlH: ∀env,(model X.prog X.w).den (.compLoop e 0 (.ref it) (.ref s2.heap.objs.size) env)=(zbi e 0 tg iJ p (body env) (.ref it) (.ref s2.heap.objs.size) env).onRaise (λx=>do noteFrame x env;theTreesLotGoes x))
 (hun: ∀env,X.A.under (.compLoop e 0 (.ref it) (.ref s2.heap.objs.size) env)=X.A)
 (hst: ∀env R s,codeAny (model X.prog X.w) X.A (.compLoop e 0 (.ref it) (.ref s2.heap.objs.size) env) R s->tn 0 s.heap->codeAny (model X.prog X.w) X.A (.compStart e 0 (.ref it) (.ref s2.heap.objs.size) env) R s)
 (h:uC J g tc tm (λ_ H'=>Q (.ref s2.heap.objs.size) H') (iB own.length idx σ) (aN H2 s2.heap.objs.size o0)) {E:Value->Shared->Prop}:
 wpAny (model X.prog X.w) X.A (newFunctionEnv scope X.env.globals (cA X.env scope.names []) [] X.env.qual none .none (some X.env)) (λzpS s₄=>
  codeAny (model X.prog X.w) X.A (.compStart e 0 (.ref it) (.ref s2.heap.objs.size) {zpS with scope:=relabel scope X.env}) (compPost (model X.prog X.w) X.A X.xe none (EP X aA σ Q) (.ref s2.heap.objs.size) zpS.locals) s₄) E s3:=by
 have sJ: ∀b∈fp,b<s2.heap.objs.size:= λb hb=>by
  obtain⟨o,e,_⟩:=T.obj _ _ sC b hb;exact Heap.lt_size e
 have f3: ∀b∈fp,fB X aA (aN H2 s2.heap.objs.size o0) b:= λb hb=>⟨by rw[aD (Nat.ne_of_lt (sJ b hb))];exact(f2 b hb).1,(f2 b hb).2⟩
 obtain⟨oo,yI⟩:=yI
 have hsz:s3.heap.objs.size=s2.heap.objs.size+1:=by rw[yI];exact Heap.size_push _ _
 have uR:tn 0 s3.heap:=T.keep _ _ _ sC λb hb o e=>by rw[yI];exact Heap.get?_push_of_some _ e
 refine wpAny_newFunctionEnv S.nocell (by intro y hy;simp at hy) (λh4 hn4 zft=> ?_) S.kind
 have tV: ∀b o,s3.heap.get? b=some o->h4.get? b=some o:= λb o e=>zft.extBut b o (Nat.ne_of_lt (Heap.lt_size e)) (Heap.get?_push_of_some _ e)
 have I4:=lQ (idx:=idx) (tk:=s3.toks+([]:List (Str×Value)).length) S wA m7 I3 f3 (λb hb=>by rw[hsz];exact Nat.lt_succ_of_lt (sJ b hb)) hn4 tV
 have fpC: ∀b∈fp,fB (cJ X scope s3.heap.objs.size (own++fr) s3 (aN H2 s2.heap.objs.size o0) aA fp) [] (aN H2 s2.heap.objs.size o0) b:= λb hb=>by
  obtain⟨g0,g1,g2,g3,g4,g5⟩:=f3 b hb;refine⟨g0,?_,λz=> ?_,.inl hb,λx c e=>g4 x c ((dZ _ _ x c e).elim id λz=>nomatch z),λp hp=> ?_⟩
  . show b≠s3.heap.objs.size
    exact Nat.ne_of_lt (by rw[hsz];exact Nat.lt_succ_of_lt (sJ b hb))
  . rcases List.mem_cons.mp (I3.stkSub b z)with q|q
    . exact g1 q
    . exact g2 q
  . rcases List.mem_append.mp hp with q|q
    . exact g5 p q
    . exact nomatch q
 have st4:tn 0 h4:=T.keep _ _ _ uR λb _ o e=>tV b o e
 have jR:=qL (X:=cJ X scope s3.heap.objs.size (own++fr) s3 (aN H2 s2.heap.objs.size o0) aA fp) (e:=e) (depth:=0) (p:=p) (acc:= .ref s2.heap.objs.size) (R:=compPost (model X.prog X.w) X.A X.xe none (EP X aA σ Q) (.ref s2.heap.objs.size) s3.heap.objs.size)
  rfl hc (hq _) (zlH _) (hun _) (hg _ _ _ _ _) (ht _ _ _ _ _) (hm _ _ _ _ _) T I4 st4 fpC h λs' σ' H' I' q'=>by
   obtain⟨m6,hn6,_⟩:=id I'.loc;exact⟨m6,hn6,λh' hsb=>⟨.ref s2.heap.objs.size,H',nU I3 f3 I' hsb,rfl,q'⟩⟩
 exact hst _ _ _ jR st4
theorem zef{iU tg cV tg2 yJ:Expr}{iJ if2:List Expr}{scope:Scope}{own fr:List Str}{idx:List Nat}{wi:TI}{g:TG}{tc:TT}{wi2:TI}{g2:TG}{tc2:TT}{te:TE}{pos:Pos}(hc:X.calm=true)(S:aR own fr scope X.env.scope)
 (hi:PI X tg cV wi) (hg: ∀C s H aA fp,PG (cJ X scope C (own++fr) s H aA fp) tg g) (ht: ∀C s H aA fp,PTs (cJ X scope C (own++fr) s H aA fp) iJ tc)
 (hi2: ∀C s H aA fp,PI (cJ X scope C (own++fr) s H aA fp) tg2 yJ wi2) (hg2: ∀C s H aA fp,PG (cJ X scope C (own++fr) s H aA fp) tg2 g2) (ht2: ∀C s H aA fp,PTs (cJ X scope C (own++fr) s H aA fp) if2 tc2)
 (he: ∀C s H aA fp,PE (cJ X scope C (own++fr) s H aA fp) iU te)
 (wA:idx.length=fr.length:=by rfl) (m7: ∀(k:Nat) (x:Str) (j:Nat),fr[k]?=some x->idx[k]?=some j->X.N[j]?=some x)
 (hs: ∀x,foldedSetIterable cV X.env x=pure x:=by intro _;rfl) (yG: ∀env x,foldedSetIterable yJ env x=pure x:=by intro _ _;rfl):
 PE X (.ListComp iU [⟨tg,cV,iJ,0⟩,⟨tg2,yJ,if2,0⟩] scope pos) (zjC wi own.length idx g tc wi2 g2 tc2 te):=by
 intro aA s σ H Q I h
 rw[eval_ListComp]
 have mS:closureFor scope X.env=pure (cA X.env scope.names []):=mM λx hx eI=>I.ok.has x.1 (S.outs x hx eI)
 refine wpAny_comprehension_free (use:=none) rfl hs mS S.kind S.names (cH (hi aA s σ H _ I h) λv s1 h1=>cH h1 λitv s2 h2=> ?_)
 obtain⟨it,fp,tn,J,H2,e,I2,T,sC,f2,h2⟩:=h2
 subst e
 refine wpAny_newObj_type ?_
 exact u5 (o0:= .lst []) (p:=cV.pos) (body:= λenv=>zib (.ListComp iU [⟨tg,cV,iJ,0⟩,⟨tg2,yJ,if2,0⟩] scope pos) 1 yJ (.ref s2.heap.objs.size) env (.compLoop (.ListComp iU [⟨tg,cV,iJ,0⟩,⟨tg2,yJ,if2,0⟩] scope pos) 0 (.ref it) (.ref s2.heap.objs.size) env)) hc S wA m7 T sC f2 ⟨_,rfl⟩ (I2.lnew (t':=s2.toks) .nil (Nat.zero_le _)) hg ht
  (λC s H aA fp=>zgH rfl hc (hi2 C s H aA fp) (hg2 C s H aA fp) (ht2 C s H aA fp) (he C s H aA fp) (yG _)) (λ_=>rfl) (λ_=>rfl) (λ_=>rfl)
  (λenv R s lo st=>codeAny_compStart_list lo (T.self _ 0 _ _ _ st lo)) (h2 s2.heap.objs.size I2.fresh)
theorem sU{K:W.Frag}{a:Addr}{xs:List V}{g:TG}{tc:TT}{tm:TM}{Q:St->Hp->Prop}{σ0:St}{H1:Hp}(Pv:Nat->St->Hp->Prop)(h0:Pv 0 σ0 H1)(hl: ∀i σ H,i<=xs.length->Pv i σ H->aY K H a xs)
 (hs: ∀i x σ H,xs[i]?=some x->Pv i σ H->g x σ H λσ2 H2=>tc σ2 H2 λb H3=>if b=true then tm σ2 H3 (Pv (i+1))else Pv (i+1) σ2 H3) (hd: ∀σ H,Pv xs.length σ H->Q σ H):uC (zZ K a) g tc tm Q σ0 H1:=by
 refine⟨λi m σ H=>m=xs.length - i/\i<=xs.length/\Pv i σ H,⟨xs.length,by simp,Nat.zero_le _,h0⟩,?_⟩
 rintro i m σ H ⟨rfl,hi,p⟩
 have q:=hl i σ H hi p
 by_cases eO:i<xs.length
 . refine .inr ⟨⟨xs,xs[i],q,by simp[eO]⟩,Pv (i+1),λσ' H' p'=>⟨xs.length - (i+1),by omega,rfl,eO,p'⟩,λx H' y=> ?_⟩;obtain⟨e,y⟩:=y;subst e;exact hs i x σ _ (y xs q) p
 . have e:i=xs.length:=by omega
   subst e;exact .inl ⟨⟨xs,q,Nat.le_refl _⟩,hd σ H p⟩
section
variable {prog:Program}{E:Value->Shared->Prop}
end
theorem zdO{A:Around}{k:Nat}(hr:eK k A):A.units<cLine:=Nat.lt_of_le_of_lt (Nat.le_add_right _ _) hr.units
theorem vO{z:Str}{zs:List Str}:(Sum.inr z:cB)∈zs.map Sum.inr↔z∈zs:=by simp
theorem zgN{z:Str}{zs:List Str}:(if(Sum.inr z:cB)∈zs.map Sum.inr then zs.map Sum.inr else zs.map Sum.inr++[Sum.inr z])=(if z∈zs then zs else zs++[z]).map (Sum.inr:Str->cB):=by
 by_cases c:z∈zs
 . rw[if_pos (vO.mpr c),if_pos c]
 . rw[if_neg (λq=>c (vO.mp q)),if_neg c,List.map_append];rfl
theorem zbR(ys:List Int): ∃zs:List Int,fH (ys.map Sum.inl)=zs.map Sum.inl/\zs.Nodup/\ ∀x,x∈zs↔x∈ys:=by
 have hm:=n8 (ys.map (Sum.inl:Int->cB)) []
 have hn:=uJ (ys.map (Sum.inl:Int->cB)) [] List.nodup_nil
 have all: ∀l:List cB,(∀k∈l,∃i,k=Sum.inl i)-> ∃zs:List Int,l=zs.map Sum.inl:=by
  intro l
  induction l with
  |nil=>exact λ_=>⟨[],rfl⟩
  |cons k l ih=>
   intro h;obtain⟨i,rfl⟩:=h k List.mem_cons_self;obtain⟨zs,rfl⟩:=ih λk hk=>h k (List.mem_cons_of_mem _ hk);exact⟨i::zs,rfl⟩
 obtain⟨zs,e⟩:=all (fH (ys.map Sum.inl)) λk hk=>by
  rcases(hm k).mp hk with z|z
  . cases z
  . obtain⟨i,_,rfl⟩:=List.mem_map.mp z;exact⟨i,rfl⟩
 refine⟨zs,e,?_,λx=> ?_⟩
 . have q:(zs.map (Sum.inl:Int->cB)).Nodup:=by rw[<-e];exact hn
   exact(List.pairwise_map.mp q).imp λh z=>h (by rw[z])
 . have q:=hm (Sum.inl x);rw[show(ys.map (Sum.inl:Int->cB)).foldl (λσ v=>if v∈σ then σ else σ++[v]) []=fH (ys.map Sum.inl)from rfl,e]at q;simpa using q
def zac(P:Program)(w:World)(a:Addr)(zs:List Str):HO:= .ext λh=>eX P w (lE w) h a (zs.map Sum.inr)
def zll(P:Program)(w:World)(a:Addr)(zs:List Int):HO:= .ext λh=>eX P w (lE w) h a (zs.map Sum.inl)
theorem eX.at_{P:Program}{w:World}{b:Bool}{h:Heap}{a:Addr}{zs:List cB}(x:eX P w b h a zs): ∃o,h.get? a=some o:=let⟨o,_,_,_,e,_⟩:=x;⟨o,e⟩
theorem zaP{P:Program}{w:World}{H:Hp}{h:Heap}{a:Addr}{zs:List Str}(x:eX P w (lE w) h a (zs.map Sum.inr)):cP P w H h a (zac P w a zs):=⟨x,x.at_,λ_ _ y k=>y.keep λo e=>k o e⟩
theorem zhO{P:Program}{w:World}{H:Hp}{h:Heap}{a:Addr}{zs:List Int}(x:eX P w (lE w) h a (zs.map Sum.inl)):cP P w H h a (zll P w a zs):=⟨x,x.at_,λ_ _ y k=>y.keep λo e=>k o e⟩
theorem zdh{ys:List Int}{us:List Value}(h:bK (ys.map V.int) us):bK ((ys.map (Sum.inl:Int->cB)).map kV) us:=by rw[List.map_map];exact h
theorem o3(hc:X.calm=true):fK X (.type "set") (λxs H Q=> ∃(p:Addr) (ys:List Int),xs=[.ref p]/\aY X.K H p (ys.map V.int)/\ys.length<1000/\ ∀(l:Addr) (zs:List Int),H l=none->zs.Nodup->(∀x,x∈zs↔x∈ys)->Q (.ref l) (aN H l (zll X.prog X.w l zs))):=by
 intro aA s σ H xs us Q I r h
 obtain⟨p,ys,rfl,hq,hz,q⟩:=h
 obtain⟨u,rfl,rx⟩:=lI r
 cases rx
 obtain⟨bC,r',pl,hz'⟩:=I.list hq
 have cQ:=r'.length
 rw[bH]at cQ
 refine zcc (P:=X.prog) (w:=X.w) ?hh pl.isList (zdh r') (by rw[List.size_toArray,<-cQ];unfold scanBound;omega) λh' tk x k=> ?_
 case hh=>exact I.ok.hd hc
 obtain⟨zs,e1,e2,e3⟩:=zbR ys
 exact⟨.ref s.heap.objs.size,_,I.laid (t':=tk) k (Nat.le_refl _) (zhO (by rw[<-e1];exact x)),rfl,q _ zs I.fresh e2 e3⟩
theorem uI(hc:X.calm=true):fK X (.builtin "sorted") (λxs H Q=> ∃(p:Addr) (zs:List Int),xs=[.ref p]/\H p=some (zll X.prog X.w p zs)/\zs.length<64/\ ∀(l:Addr) (vW:List Int),H l=none->vW.Perm zs->vW.Pairwise (·<=·)->Q (.ref l) (aN H l (.lst (vW.map V.int)))):=by
 intro aA s σ H xs us Q I r h
 obtain⟨p,zs,rfl,hq,hz,q⟩:=h
 obtain⟨u,rfl,rx⟩:=lI r
 cases rx
 have hS:eX X.prog X.w (lE X.w) s.heap p (zs.map Sum.inl):=(I.hok p _ hq).1
 refine vU ?hh hS hz λs' l vs vW k g o hl ⟨e,he⟩ a1 a2 a3=> ?_
 case hh=>exact I.ok.hd hc
 have hz2:(vW.map V.int).length<=sizeLine:=by
  have q:(64:Nat)<=sizeLine:=by rw[sizeLine_eq];decide
  rw[bH,a2.length_eq];omega
 have J:aM X aA σ (aN H l (.lst (vW.map V.int))) s':=
  I.call' (ch:=[]) o (Un.laid k hl (I.hok.fresh hl)) (I.hok.laid k hl (show cP X.prog X.w _ _ _ (.lst (vW.map V.int))from⟨hz2,vs.toList,e,nZ a1,he⟩)) (by rw[g];exact I.bare) (λ_ z=>nomatch z)
 exact⟨.ref l,_,J,rfl,q _ _ (I.hok.fresh hl) a2 a3⟩
theorem zaf:fK X (.type "set") (λxs H Q=>xs=[]/\ ∀l,H l=none->Q (.ref l) (aN H l (zac X.prog X.w l []))):=by
 intro aA s σ H xs us Q I r h
 obtain⟨rfl,q⟩:=h
 cases r
 refine zca ?_
 exact⟨.ref s.heap.objs.size,_,I.laid (t':=s.toks) (λb o e=>Heap.get?_push_of_some _ e) (Nat.le_refl _) (zaP (wF (Heap.get?_push_size _ rfl))),rfl,q _ I.fresh⟩
theorem eX.setOf{P:Program}{w:World}{b:Bool}{h:Heap}{a:Addr}{zs:List cB}(x:eX P w b h a zs):h.SetOf (aV P w) a (λk=>decide (k∈zs)) zs.length:=by
 obtain⟨o,es,ep,t,ho,hex,hd,hel,⟨us,hp,hs⟩,vK,hb,hf,_,_⟩:=x
 have hsz:es.size=zs.length:=by
  have e1:=hp.length_eq;rw[bH,Array.length_toList]at e1;have e2:=hs.length;rw[bH]at e2;omega
 refine⟨o,es,ep,t,ho,hex,hd,hel,λk=> ?_,hb,hf,hsz⟩
 rw[eX.mem (P:=P) (w:=w) hp hs k]
 exact decide_eq_true_iff
theorem j8:mZ X (compareOp .In) (λx y H Q=> ∃z p zs,x= .str z/\y= .ref p/\H p=some (zac X.prog X.w p zs)/\Q (.bl (decide (z∈zs))) H):=by
 intro aA s σ H x y v u Q I rx ry h
 obtain⟨z,p,zs,rfl,rfl,hH,q⟩:=h
 obtain⟨t,rfl⟩:=rx
 cases ry
 have hS:eX X.prog X.w (lE X.w) s.heap p (zs.map Sum.inr):=(I.hok p _ hH).1
 exact wpAny_inSet_of (oO X.prog X.w z t) rfl hS.setOf ⟨.bl _,H,I.tok _,rfl,by rw[decide_eq_decide.mpr (vO (z:=z) (zs:=zs))];exact q⟩
theorem zgE:MtM X "set.add" (λx vs H Q=> ∃p z zs,x= .ref p/\vs=[.str z]/\H p=some (zac X.prog X.w p zs)/\zs.length<1000/\Q .non (aN H p (zac X.prog X.w p (if z∈zs then zs else zs++[z])))):=by
 intro aA s σ H x vs v us Q I rx rv h
 obtain⟨p,z,zs,rfl,rfl,hH,hz,q⟩:=h
 cases rx
 obtain⟨u,rfl,t,rfl⟩:=rv.one
 have hS:eX X.prog X.w (lE X.w) s.heap p (zs.map Sum.inr):=(I.hok p _ hH).1
 refine wpAny_call_entry PySem.F.slot_set_add hS.setOf.typeIs PySem.F.entry_set_add ?_ (PySem.F.args_set_add_2 _ _)
 refine(show wpAny _ _ (setAdd p (.str z t)>>= λ_=>ret .none) _ _ _ from wpAny_bind (wT (x:=Sum.inr z) (u:= .str z t) ⟨t,rfl⟩ hS (by rw[bH];unfold scanBound;omega) λh' hb x=>wpAny_pure ⟨_,rfl,?_⟩))
 refine⟨.non,_,I.write (t':=s.toks+1) (by rw[hH];exact trivial) (.inl rfl) (λb o' mE e=>(hb.2 b mE).trans e) x.at_ (zaP (by rw[<-zgN];exact x)),rfl,q⟩
section
variable {o:Expr}{es:List Expr}{t:TA}{id:String}{r:V->List V->Hp->VK->Prop}
def zuw(P:Program)(w:World)(r:V->List V->Hp->VK->Prop)(to:TE)(t:TA):TE:= λσ H Q=>to σ H λx H1=>(∃p zs,x= .ref p/\H1 p=some (zac P w p zs))/\t σ H1 λxs H2=>r x xs H2 Q
theorem zlI(slot:Slot "set" name id)(hty:typeOf (.builtin id)=pure (.type "method_descriptor"))(hm:MtM X id r)(ho:PE X o to)(ha:PA X (e::es) t)
 (zdH:attributeBase o name X.env (eval o X.env)=eval o X.env:=by rfl)
 (zli:((backTo iE (starEach (e::es) X.env)).all (λx=> !x.1)&&(backToKw iE (keywordEach [] X.env)).all (λx=>x.1.isSome)&&decide ((e::es).length+([]:List Keyword).length+(if([]:List Keyword).isEmpty then 0 else 1)<30))=true:=by rfl)
 (zew:(rA.endLine==iE.line)=true:=by rfl) (hs:starEach (e::es) X.env=(false,eval e X.env)::starEach es X.env:=by rfl) (zH:(backTo iE (starEach es X.env)).any (·.1)=false:=by rfl):
 PE X (.Call (.Attribute o name rA) (e::es) [] iE) (zuw X.prog X.w r to t):=by
 intro aA s σ H Q I h
 refine wpAny_Call_method_late zdH zli zew rfl (cH (ho aA s σ H _ I h) λv s1 ⟨x,H1,I1,r1,⟨p,zs,ep,hH⟩,q1⟩=> ?_)
 subst ep
 cases r1
 have hS:eX X.prog X.w (lE X.w) s1.heap p (zs.map Sum.inr):=(I1.hok p _ hH).1
 refine⟨"set",id,PySem.F.plainAttrs_set,slot,hty,hS.setOf.typeIs,hS.setOf.noDict,?_⟩
 have hA:=ha iE aA s1 σ H1 _ I1 q1
 rw[hs]at hA ⊢
 refine Calls.callWith_builtin (by show(false||(backTo iE (starEach es X.env)).any (·.1))=false;rw[zH]<;>rfl) (Calls.evalArgs_plain (cH hA λus s2 ⟨vs,H2,I2,r2,q2⟩=>hm aA s2 σ H2 (.ref p) vs _ us Q I2 rfl r2 q2))
end
section
variable {M:Model}{E:Value->Shared->Prop}{L:Addr}{oe:Obj}{vs:Array Value}
end
section
variable {K:W.Frag}{mg:Str->Option Value}{N:List Str}{qual:Str}{scope:Scope}{f:Addr}{cd:Value}{s0:Shared}{H0:Hp}{E:XK}
end
section
variable {M:Model}{E:Value->Shared->Prop}
variable {nm q:Str}{N:Addr}{bs bm:List Value}{ztS:Bool}{sn:List Str}{sub:List Value}{ab:Bool}{col:Option Bool}{dd:Option Addr}{k0 k1 k2 k3 k5:Option Value}{zvY:String}
end
section
variable {M:Addr}
end
section
variable {K:W.Frag}{mg:Str->Option Value}
end
section
variable {M:Model}{E:Value->Shared->Prop}{L:Addr}{oe:Obj}{vs:Array Value}
end
section
variable {fs:List (Str×V)}{A':Around}{E':Value->Shared->Prop}
end
section
variable {M:Addr}{RX:Addr->List (Str×V)->Hp->Prop}
end
section
variable {M:Addr}
end
def rK(H:Hp)(a:Addr)(xs:List V):Prop:= ∃o:Obj,H a=some (.frz o (.tup xs))/\o.dict=none/\o.cls= .type "tuple"
theorem rK.same{H H':Hp}{a:Addr}{xs:List V}(h:rK H a xs)(k: ∀b o,H b=some o->H' b=some o):rK H' a xs:=let⟨o,e,r⟩:=h;⟨o,k _ _ e,r⟩
theorem rK.sq{K:W.Frag}{H:Hp}{a:Addr}{xs:List V}(h:rK H a xs):fR K H a xs:=let⟨o,e,_⟩:=h;.inl (.inr ⟨o,e⟩)
section
theorem wG:fK X (.type "tuple") (λxs H Q=> ∃p ys,xs=[.ref p]/\aY X.K H p ys/\ ∀(l:Addr) (o:Obj),H l=none->o.dict=none->o.cls= .type "tuple" ->Q (.ref l) (aN H l (.frz o (.tup ys)))):=by
 intro aA s σ H xs us Q I r h
 obtain⟨p,ys,rfl,hq,q⟩:=h
 obtain⟨u,rfl,rx⟩:=lI r
 cases rx
 obtain⟨bC,r',pl,hz⟩:=I.list hq
 have cQ:=r'.length
 refine call_tuple_list pl.isList (λh' kp=> ?_) (by simp only[List.size_toArray]<;>omega)
 have I1:aM X aA σ H {s with heap:=h'}:=I.kept (t':=s.toks) kp
 have I2:aM X aA σ (aN H h'.objs.size (.frz {cls:= .type "tuple",data:= .seq bC.toArray} (.tup ys))) {s with heap:=h'.push {cls:= .type "tuple",data:= .seq bC.toArray}}:=
  I1.laid (t':=s.toks) (λb o e=>Heap.get?_push_of_some _ e) (Nat.le_refl _) (show cP X.prog X.w _ _ _ (.frz _ (.tup ys))from⟨Heap.get?_push_size _ rfl,hz,bC,r',IsTup.new _ _⟩)
 exact⟨.ref h'.objs.size,_,I2,rfl,q _ _ (I1.hok.fresh (Nat.le_refl _)) rfl rfl⟩
variable {o:Expr}{es:List Expr}{t:TA}{id:String}{r:V->List V->Hp->VK->Prop}
end
theorem sT{h:Heap}{a:Addr}{m:Str->Option Value}{o:Obj}(n:h.Ns a m)(e:h.get? a=some o)(v:Option Value)(ev:o.data= .cell v):False:=by
 obtain⟨o',es,ep,ho,r⟩:=n
 rw[e]at ho
 cases ho
 have hd:=r.1
 rw[ev]at hd
 cases hd
theorem zba{i:Nat}{y:Str}{py zdw:Pos}{iU tg cV:Expr}{iJ:List Expr}{scope:Scope}{own fr:List Str}{idx:List Nat}{wi:TI}{g:TG}{tc:TT}{te:TE}{pos:Pos}(hN:X.N.Nodup)(hiy:X.N[i]?=some y)(hly:Loc X.env.scope y)(hc:X.calm=true)(S:aR own fr scope X.env.scope)
 (hi:PI X tg cV wi) (hg: ∀C s H aA fp,PG (cJ X scope C (own++fr) s H aA fp) tg g) (ht: ∀C s H aA fp,PTs (cJ X scope C (own++fr) s H aA fp) iJ tc) (he: ∀C s H aA fp,PE (cJ X scope C (own++fr) s H aA fp) iU te)
 (wA:idx.length=fr.length:=by rfl) (m7: ∀(k:Nat) (x:Str) (j:Nat),fr[k]?=some x->idx[k]?=some j->X.N[j]?=some x)
 (hs: ∀x,foldedSetIterable cV X.env x=pure x:=by intro _;rfl) (hf:X.fn y=true\/X.env.scope.names.lookup y=some .local:=by first|exact .inl rfl|exact .inr rfl)
 (hsw:swapsWith (.ListComp iU [⟨tg,cV,iJ,0⟩] scope pos) (some (.Name y py)) zdw.line X.env=pure true:=by rfl):PS X (.Assign [.Name y py] (.ListComp iU [⟨tg,cV,iJ,0⟩] scope pos) zdw) (zhD (lK wi own.length idx g tc te) (bD i)):=by
 intro aA s σ H Dn I h
 rw[exec_Assign_Name_used _ _ _ _ hsw]
 refine wpAny_bind (wpAny_standAt (wpAny_bind ?_))
 show wpAny _ X.A (do let _<-comprehension (.ListComp iU [⟨tg,cV,iJ,0⟩] scope pos) scope X.env _ (newList []) false (eval cV X.env) (some (assign (.Name y py) X.env))) _ _ s
 have mS:closureFor scope X.env=pure (cA X.env scope.names []):=mM λx hx eI=>I.ok.has x.1 (S.outs x hx eI)
 refine wpAny_bind (wpAny_mono (wpAny_comprehension_free (use:=some (assign (.Name y py) X.env)) (Q:= λ_ s'=>SP X aA Dn .next s') rfl hs mS S.kind S.names (cH (hi aA s σ H _ I h) λv s1 h1=>cH h1 λitv s2 h2=> ?_)) (λ_ s' hq=>wpAny_pure (wpAny_pure hq)) λ_ _ e=>e)
 obtain⟨it,fp,tn,J,H2,e,I2,T,sC,f2,h2⟩:=h2
 subst e
 refine wpAny_newObj_type ?_
 obtain⟨W,⟨m0,w0⟩,jN⟩:=h2 s2.heap.objs.size I2.fresh
 have I3:aM X aA σ (aN H2 s2.heap.objs.size (.lst [])) {s2 with heap:=s2.heap.push {cls:= .type "list",data:= .seq ([]:List Value).toArray},toks:=s2.toks}:=I2.lnew .nil (Nat.zero_le _)
 have sJ: ∀b∈fp,b<s2.heap.objs.size:= λb hb=>by
  obtain⟨o,e,_⟩:=T.obj _ _ sC b hb;exact Heap.lt_size e
 have f3: ∀b∈fp,fB X aA (aN H2 s2.heap.objs.size (.lst [])) b:= λb hb=>⟨by rw[aD (Nat.ne_of_lt (sJ b hb))];exact(f2 b hb).1,(f2 b hb).2⟩
 generalize yI:({s2 with heap:=s2.heap.push {cls:= .type "list",data:= .seq ([]:List Value).toArray},toks:=s2.toks}:Shared)=s3 at I3
 have hsz:s3.heap.objs.size=s2.heap.objs.size+1:=by rw[<-yI];exact Heap.size_push _ _
 have uR:tn 0 s3.heap:=T.keep _ _ _ sC λb hb o e=>by rw[<-yI];exact Heap.get?_push_of_some _ e
 refine wpAny_newFunctionEnv S.nocell (by intro y hy;simp at hy) (λh4 hn4 zft=> ?_) S.kind
 have tV: ∀b o,s3.heap.get? b=some o->h4.get? b=some o:= λb o e=>zft.extBut b o (Nat.ne_of_lt (Heap.lt_size e)) (Heap.get?_push_of_some _ e)
 have I4:=lQ (idx:=idx) (tk:=s3.toks+([]:List (Str×Value)).length) S wA m7 I3 f3 (λb hb=>by rw[hsz];exact Nat.lt_succ_of_lt (sJ b hb)) hn4 tV
 have fpC: ∀{H':Hp} (pl:List (Addr×Obj)),(∀p∈pl,∀b∈fp,p.1≠b)->(∀b∈fp,H' b=none)-> ∀b∈fp,fB (cJ X scope s3.heap.objs.size (own++fr) s3 (aN H2 s2.heap.objs.size (.lst [])) aA fp) pl H' b:= λ{H'} pl mF hn b hb=>by
  obtain⟨g0,g1,g2,g3,g4,g5⟩:=f3 b hb;refine⟨hn b hb,?_,λz=> ?_,.inl hb,λx c e=>g4 x c ((dZ _ _ x c e).elim id λz=>nomatch z),λp hp=> ?_⟩
  . show b≠s3.heap.objs.size
    exact Nat.ne_of_lt (by rw[hsz];exact Nat.lt_succ_of_lt (sJ b hb))
  . rcases List.mem_cons.mp (I3.stkSub b z)with q|q
    . exact g1 q
    . exact g2 q
  . rcases List.mem_append.mp hp with q|q
    . exact g5 p q
    . exact mF p q b hb
 have jR:codeAny (model X.prog X.w) X.A (.compLoop (.ListComp iU [⟨tg,cV,iJ,0⟩] scope pos) 0 (.ref it) (.ref s2.heap.objs.size) (compEnvC scope (cA X.env scope.names []) s3.heap.objs.size X.env))
  (compPost (model X.prog X.w) X.A X.xe (some (assign (.Name y py) X.env)) (λ_ s'=>SP X aA Dn .next s') (.ref s2.heap.objs.size) s3.heap.objs.size) {s3 with heap:=h4,toks:=s3.toks+([]:List (Str×Value)).length}:=by
  refine kW (Y:=cJ X scope s3.heap.objs.size (own++fr) s3 (aN H2 s2.heap.objs.size (.lst [])) aA fp) (W:=W) (m0:=m0) hc (hg _ _ _ _ _) (ht _ _ _ _ _) (he _ _ _ _ _) (λ_ _ z=>z) T (λhn=>fpC [] (λ_ z=>nomatch z) hn) jN (λs6 σ5 H5 I6 q=> ?_) ⟨0,[],_,_,I4,T.keep _ _ _ uR λb _ o e=>tV b o e,λb hb=>(f3 b hb).1,aG,w0⟩;obtain⟨m6,hn6,_⟩:=id I6.loc;have zS:s6.heap.Ns s3.heap.objs.size m6:=hn6;obtain⟨oC,es,ep,hoC,znm⟩:=id zS;have I7:aM X aA σ H5 s6:=nU (h':=s6.heap) I3 f3 I6 (Heap.SameBut.refl ..);have eI:H5 s3.heap.objs.size=none:=I6.free;have I8:aM X (aA++[(s3.heap.objs.size,oC)]) σ H5 s6:=I7.pins_of λp hp=>(List.mem_append.mp hp).elim (λz=>I7.pin p (List.mem_append_right _ z)) λz=>by
   have e:p=(s3.heap.objs.size,oC):=List.mem_singleton.mp z;subst e;exact⟨hoC,eI,Nat.ne_of_gt I3.lt,I3.nofs (Nat.le_refl _),λv ev=>sT zS hoC v ev⟩
  refine cH (aJ (pos:=py) hN hiy hly hf _ s6 σ H5 (.ref s2.heap.objs.size) (.ref s2.heap.objs.size) _ I8 rfl q) λ_ s9 ⟨σ9,H9,I9,q9⟩=> ?_;have hp9:=I9.pin (s3.heap.objs.size,oC) (List.mem_append_right _ (List.mem_append_right _ (List.mem_singleton.mpr rfl)));refine⟨m6,zS.at' λo e=> ?_,λh' hsb=> ?_⟩
  . rw[hoC]at e;cases e;exact hp9.1
  . refine⟨σ9,H9,I9.unpinned.turnedL (ch:=[s3.heap.objs.size]) (t':=s9.toks) (λb hb=> ?_) λb ob hb e=> ?_,q9⟩
    . rw[List.mem_singleton.mp hb];exact I3.fpOk (Nat.le_refl _) hp9.2.1
    . exact hsb.extBut b ob (λz=>hb (List.mem_singleton.mpr z)) e
 exact codeAny_compStart_list jR (T.self _ 0 _ _ _ (T.keep _ _ _ uR λb _ o e=>tV b o e) jR)
theorem jE(names:List (Str×NameKind)): ∀(k:Nat) (acc:List (Str×Addr)),cellsFrom k names acc=cellsFrom k names []++acc:=by
 induction names with
 |nil=>intro k acc;rfl
 |cons p r ih=>
  intro k acc;obtain⟨x,kd⟩:=p;simp only[cellsFrom];cases(kd==NameKind.cell)with
  |true=>rw[if_pos rfl,if_pos rfl,ih (k+1) ((x,k)::acc),ih (k+1) [(x,k)],List.append_assoc];rfl
  |false=>rw[if_neg Bool.false_ne_true,if_neg Bool.false_ne_true];exact ih k acc
theorem iL(names:List (Str×NameKind)): ∀(k:Nat) (n:Str) (c:Addr),(n,c)∈cellsFrom k names []->k<=c/\(n,NameKind.cell)∈names:=by
 induction names with
 |nil=>intro k n c h;cases h
 |cons p r ih=>
  intro k n c h;obtain⟨x,kd⟩:=p;simp only[cellsFrom]at h
  by_cases hk:(kd==NameKind.cell)=true
  . rw[if_pos hk,jE]at h
    rcases List.mem_append.mp h with z|z
    . obtain⟨h1,h2⟩:=ih (k+1) n c z;exact⟨by omega,.tail _ h2⟩
    . cases List.mem_singleton.mp z;rw[eq_of_beq hk];exact⟨Nat.le_refl _,.head _⟩
  . rw[if_neg hk]at h;obtain⟨h1,h2⟩:=ih k n c h;exact⟨h1,.tail _ h2⟩
theorem mI{α:Type}(n:Str)(ys:List (Str×α)): ∀xs:List (Str×α),(xs++ys).lookup n=(xs.lookup n).or (ys.lookup n)
 | []=>rfl
 |p::xs=>by
  obtain⟨k,v⟩:=p;rw[List.cons_append,List.lookup_cons,List.lookup_cons];cases n==k with
  |true=>rfl
  |false=>exact mI n ys xs
theorem mC(names:List (Str×NameKind))(k:Nat)(acc:List (Str×Addr)){n:Str}{c:Addr}(h:(cellsFrom k names acc).lookup n=some c):(k<=c/\(n,NameKind.cell)∈names)\/acc.lookup n=some c:=by
 rw[jE,mI]at h
 cases e:(cellsFrom k names []).lookup n with
 |none=>rw[e]at h;exact .inr h
 |some d=>rw[e]at h;cases h;exact .inl (iL names k n c (PySem.mem_of_lookup e))
theorem nC(names:List (Str×NameKind))(k:Nat)(acc:List (Str×Addr)){n:Str}(h:(n,NameKind.cell)∉names):(cellsFrom k names acc).lookup n=acc.lookup n:=by
 rw[jE,mI]
 cases e:(cellsFrom k names []).lookup n with
 |none=>rfl
 |some d=>exact absurd (iL names k n d (PySem.mem_of_lookup e)).2 h
structure iR(s₀:Shared)(L:Addr)(m:Str->Option Value)(kd:Str->Option NameKind)(cs:List (Str×Addr))(cm:Str->Option Value)(s:Shared):Prop where
 toInCall:InCall s₀ L m s
 cell: ∀n c,List.lookup n cs=some c->Heap.IsCell s.heap c (cm n)
 apart:List.Pairwise (λx y:Str×Addr=>x.2≠y.2) cs
 off: ∀n c,List.lookup n cs=some c->c≠L
 new: ∀n c,kd n=some .cell->List.lookup n cs=some c->L<c
theorem qR(kd:Str->Option NameKind)(p:Str×Value): ∀(bs:List (Str×Value)) (m:Str->Option Value),bindL kd (bs++[p]) m=bindL kd [p] (bindL kd bs m)
 | [],_=>rfl
 |_::bs,_=>qR kd p bs _
theorem qC(kd:Str->Option NameKind)(p:Str×Value): ∀(bs:List (Str×Value)) (m:Str->Option Value),bindC kd (bs++[p]) m=bindC kd [p] (bindC kd bs m)
 | [],_=>rfl
 |_::bs,_=>qC kd p bs _
section
variable {M:Model}
theorem iR.bind{E:Value->Shared->Prop}{Q:Unit->Shared->Prop}{s₀ s:Shared}{env:Env}{m cm:Str->Option Value}{n:Str}{v:Value}(x:iR s₀ env.locals m env.kindOf env.cells cm s)(hk:env.scope.kind= .function)
 (hn:env.kindOf n=some .local\/(env.kindOf n=some .cell/\ ∃c,env.cells.lookup n=some c))
 (h: ∀s',iR s₀ env.locals (bindL env.kindOf [(n,v)] m) env.kindOf env.cells (bindC env.kindOf [(n,v)] cm) s'->Q () s'):wpAny M A (storeName env n v) Q E s:=by
 have old: ∀{b:Addr} {o:Obj},s₀.heap.get? b=some o->b<env.locals:= λe=>Nat.lt_of_lt_of_le (Heap.lt_size e) x.toInCall.fresh
 obtain⟨g,tk,es⟩:=x.toInCall.same
 rcases hn with hl|⟨hl,c,hc⟩
 . have e1:bindL env.kindOf [(n,v)] m= λy=>if y=n then some v else m y:=if_pos hl
   have e2:bindC env.kindOf [(n,v)] cm=cm:=if_pos hl;rw[e1,e2]at h;refine wpAny_storeName_local hl x.toInCall.ns (λg' ns sb=>h _ ?_) (by rw[hk];rfl);refine⟨⟨⟨g',_,by rw[es]⟩,ns,λb o e=> ?_,x.toInCall.fresh⟩,λy d hd=> ?_,x.apart,x.off,x.new⟩
   . exact(sb.2 b (Nat.ne_of_lt (old e))).trans (x.toInCall.keep b o e)
   . exact Heap.IsCell.sameBut (x.cell y d hd) sb (x.off y d hd)
 . have nl: ¬env.kindOf n=some .local:= λz=>by rw[hl]at z;cases z
   have e1:bindL env.kindOf [(n,v)] m=m:=if_neg nl;have e2:bindC env.kindOf [(n,v)] cm= λy=>if y=n then some v else cm y:=if_neg nl
   rw[e1,e2]at h;have lt:=x.new n c hl hc;refine wpAny_storeName_cell hk hl hc (x.cell n c hc) λg' ce sb=>h _ ?_;refine⟨⟨⟨g',_,by rw[es]⟩,Heap.Ns.sameBut x.toInCall.ns sb (Nat.ne_of_lt lt),λb o e=> ?_,x.toInCall.fresh⟩,λy d hd=> ?_,x.apart,x.off,x.new⟩
   . exact(sb.2 b (Nat.ne_of_lt (Nat.lt_trans (old e) lt))).trans (x.toInCall.keep b o e)
   . show Heap.IsCell g' d (if y=n then some v else cm y)
     split
     . rename_i z
       subst z;rw[hc]at hd;cases hd;exact ce
     . rename_i z
       exact Heap.IsCell.sameBut (x.cell y d hd) sb λe=>z (name_of_addr x.apart (PySem.mem_of_lookup hd) (by rw[e];exact PySem.mem_of_lookup hc))
theorem zhF{E:Value->Shared->Prop}{s:Shared}{scope:Scope}{globals:Addr}{clos:List (Str×Addr)}{binds:List (Str×Value)}{qual:Str}{func:Option Addr}{code:Value}{builtins:Addr}{cv:Str->Option Value}{Q:Env->Shared->Prop}
 (hk:scope.kind= .function) (hc: ∀n c,(n,c)∈clos->s.heap.IsCell c (cv n)) (hp:clos.Pairwise λx y=>x.2≠y.2) (hn: ∀n c,(n,c)∈clos->(n,NameKind.cell)∉scope.names)
 (mW: ∀x∈binds,scope.names.lookup x.1=some .local\/(scope.names.lookup x.1=some .cell/\((cellsFrom (s.heap.objs.size+1) scope.names clos).lookup x.1).isSome=true))
 (hQ: ∀env,env=newEnv scope s.heap.objs.size globals (cellsFrom (s.heap.objs.size+1) scope.names clos) qual func code none builtins->
  ∀s',iR s env.locals (bindL env.kindOf binds λ_=>none) env.kindOf env.cells (bindC env.kindOf binds λn=>if(n,NameKind.cell)∈scope.names then none else cv n) s'->Q env s'):
 wpAny M A (newFunctionEnv scope globals clos binds qual func code none builtins) Q E s:=by
 have own:CellsOk (pushCells (s.heap.push {cls:= .type "frame",data:= .dict #[]}) scope.names) (s.heap.objs.size+1) (cellsFrom (s.heap.objs.size+1) scope.names []):=by
  have q:=cellsFrom_ok scope.names (s.heap.push {cls:= .type "frame",data:= .dict #[]}) (s.heap.objs.size+1) [] ⟨(λ_ _ z=>by cases z),.nil⟩ (Nat.le_of_eq (Heap.size_push ..).symm)
  rwa [Heap.size_push]at q
 have stay: ∀b o,s.heap.get? b=some o->(pushCells (s.heap.push {cls:= .type "frame",data:= .dict #[]}) scope.names).get? b=some o:= λb o e=>pushCells_keeps scope.names _ b o (Heap.get?_push_of_some _ e)
 have zot: ∀p∈clos,p.2<s.heap.objs.size:= λp hm=>Heap.IsCell.lt (hc p.1 p.2 hm)
 have start:iR s s.heap.objs.size (λ_=>none) (newEnv scope s.heap.objs.size globals (cellsFrom (s.heap.objs.size+1) scope.names clos) qual func code none builtins).kindOf (cellsFrom (s.heap.objs.size+1) scope.names clos) (λn=>if(n,NameKind.cell)∈scope.names then none else cv n)
  {s with heap:=pushCells (s.heap.push {cls:= .type "frame",data:= .dict #[]}) scope.names}:=by
  refine⟨⟨⟨_,s.toks,rfl⟩,Heap.Ns.keeps (Heap.Ns.new s.heap (.type "frame")) (pushCells_keeps scope.names _),stay,Nat.le_refl _⟩,λn c hl=> ?_,?_,λn c hl=> ?_,λn c hkd hl=> ?_⟩
  . rw[jE,mI]at hl;cases e:(cellsFrom (s.heap.objs.size+1) scope.names []).lookup n with
    |some d=>
     rw[e]at hl;cases hl;rw[if_pos (iL _ _ _ _ (PySem.mem_of_lookup e)).2];exact(own.empty n c (PySem.mem_of_lookup e)).1
    |none=>
     rw[e]at hl;have hm:=PySem.mem_of_lookup (show clos.lookup n=some c from hl);rw[if_neg (hn n c hm)];exact Heap.IsCell.keeps (hc n c hm) stay
  . rw[jE];exact List.pairwise_append.mpr ⟨own.apart,hp,λa ha b hb z=>by
     have h1:=(iL _ _ a.1 a.2 ha).1;have h2:=zot b hb;rw[<-z]at h2;exact absurd (Nat.lt_of_lt_of_le (Nat.lt_succ_self _) h1) (Nat.lt_asymm h2)⟩
  . rcases mC _ _ _ hl with⟨z,_⟩|z
    . exact Nat.ne_of_gt (Nat.lt_of_lt_of_le (Nat.lt_succ_self _) z)
    . exact Nat.ne_of_lt (zot (n,c) (PySem.mem_of_lookup z))
  . rcases mC _ _ _ hl with⟨z,_⟩|z
    . exact Nat.lt_of_lt_of_le (Nat.lt_succ_self _) z
    . exact absurd (PySem.mem_of_lookup (show scope.names.lookup n=some .cell from hkd)) (hn n c (PySem.mem_of_lookup z))
 simp only[newFunctionEnv,Option.isSome_none,Bool.false_eq_true,if_false]
 refine wpAny_bind (wpAny_alloc (wpAny_bind (wpAny_layCells _ (λy kd cs=>by by_cases z:(kd==NameKind.cell)=true<;>simp[z]) scope.names clos _ _ ?_)))
 have sz:({s with heap:=s.heap.push {cls:= .type "frame",data:= .dict #[]}}:Shared).heap.objs.size=s.heap.objs.size+1:=Heap.size_push ..
 rw[sz]
 refine wpAny_bind (wpAny_forIn_list _ (λrest (_:PUnit) s'=> ∃done,binds=done++rest/\iR s s.heap.objs.size (bindL (newEnv scope s.heap.objs.size globals (cellsFrom (s.heap.objs.size+1) scope.names clos) qual func code none builtins).kindOf done λ_=>none) (newEnv scope s.heap.objs.size globals (cellsFrom (s.heap.objs.size+1) scope.names clos) qual func code none builtins).kindOf (cellsFrom (s.heap.objs.size+1) scope.names clos)
  (bindC (newEnv scope s.heap.objs.size globals (cellsFrom (s.heap.objs.size+1) scope.names clos) qual func code none builtins).kindOf done λn=>if(n,NameKind.cell)∈scope.names then none else cv n) s') _ ?_ ?_ binds _ ⟨[],rfl,start⟩)
 . rintro⟨n,v⟩ rest _ s' ⟨done,hd,x⟩;refine wpAny_bind (iR.bind (env:=newEnv scope s.heap.objs.size globals (cellsFrom (s.heap.objs.size+1) scope.names clos) qual func code none builtins) x hk ?_ λs'' x'=>wpAny_pure ⟨done++[(n,v)],by rw[hd,List.append_assoc];rfl,?_⟩)
   . rcases mW (n,v) (by rw[hd];exact List.mem_append.mpr (.inr (.head _)))with z|⟨z,y⟩
     . exact .inl z
     . exact .inr ⟨z,Option.isSome_iff_exists.mp y⟩
   . rw[qR,qC];exact x'
 . rintro _ s' ⟨done,hd,x⟩;rw[List.append_nil]at hd;subst hd;exact wpAny_pure (hQ _ rfl s' x)
end
structure mT(N P:List Str)(sc:Scope):Prop where
 kind:sc.kind= .function
 co:sc.isCoroutine=false
 gen:sc.isGenerator=false
 nd:N.Nodup
 pre:N.take P.length=P
 par: ∀x∈P,sc.names.lookup x=some .local\/sc.names.lookup x=some .cell
 cel: ∀x,(x,NameKind.cell)∈sc.names->sc.names.lookup x=some .cell
def zbD(CX:yE)(P:Program)(w:World)(K:W.Frag)(mg:Str->Option Value)(base:Heap)(N:List Str)(qual:Str)(scope:Scope)(clos:List (Str×Addr))(f:Addr)(cd:Value)(A:Around)(outer:List Env)(s:Shared)(H:Hp)(E:XK):Cx where
 prog:=P
 w:=w
 K:=K
 mg:=mg
 base:=base
 A:=A.deeper (PySem.W.envX qual scope s.heap.objs.size f cd (cellsFrom (s.heap.objs.size+1) scope.names clos))
 N:=N
 s₀:=s
 H₀:=H
 env:=PySem.W.envX qual scope s.heap.objs.size f cd (cellsFrom (s.heap.objs.size+1) scope.names clos)
 outer:=outer
 stack:=PySem.W.envX qual scope s.heap.objs.size f cd (cellsFrom (s.heap.objs.size+1) scope.names clos)::outer
 ex:=[]
 calm:=true
 fn:= λx=>scope.names.lookup x==some .cell
 pn:=[]
 xe:= λe s'=>wpAny (model P w) (A.deeper (PySem.W.envX qual scope s.heap.objs.size f cd (cellsFrom (s.heap.objs.size+1) scope.names clos))) (leaving (PySem.W.envX qual scope s.heap.objs.size f cd (cellsFrom (s.heap.objs.size+1) scope.names clos)) e) (λ_ s''=>CX outer H s E e s'') (λe' s''=>CX outer H s E e' s'') s'
theorem yR{CX:yE}{P:Program}{w:World}{K:W.Frag}{mg:Str->Option Value}{base:Heap}{N ps:List Str}{qual:Str}{scope:Scope}{clos:List (Str×Addr)}{f:Addr}{cd:Value}{A:Around}{outer:List Env}{s s1:Shared}{H:Hp}{E:XK}{us:List Value}{vs:List V}{fs:List (Option V)}{cv:Str->Option Value}
 (S:mT N ps scope) (hd:A.handled=none) (e0:lH P w K mg base A outer s H) (hl:vs.length=ps.length) (r:bK vs us) (hfl:ps.length+fs.length=N.length)
 (hc: ∀n c,(n,c)∈clos->H c=none/\s.heap.IsCell c (cv n)) (hn: ∀n c,(n,c)∈clos->(n,NameKind.cell)∉scope.names) (oQ: ∀n,scope.names.lookup n=some .free-> ∃c,clos.lookup n=some c)
 (hfs: ∀(j:Nat) (y:Str) (v:V),(N.drop ps.length)[j]?=some y->fs[j]?=some (some v)->scope.names.lookup y=some .free/\ ∃u,bA v u/\cv y=some u)
 (x:iR s s.heap.objs.size (bindL (PySem.W.envX qual scope s.heap.objs.size f cd (cellsFrom (s.heap.objs.size+1) scope.names clos)).kindOf (ps.zip us) λ_=>none) (PySem.W.envX qual scope s.heap.objs.size f cd (cellsFrom (s.heap.objs.size+1) scope.names clos)).kindOf (cellsFrom (s.heap.objs.size+1) scope.names clos)
  (bindC (PySem.W.envX qual scope s.heap.objs.size f cd (cellsFrom (s.heap.objs.size+1) scope.names clos)).kindOf (ps.zip us) λn=>if(n,NameKind.cell)∈scope.names then none else cv n) s1):
 aM (zbD CX P w K mg base N qual scope clos f cd A outer s H E) [] (vs.map some++fs) H s1:=by
 have mF:ps.length<=N.length:=by have:=congrArg List.length S.pre;rw[List.length_take]at this;omega
 obtain⟨h1,tk,rfl,hk⟩:=x.toInCall.done
 have noA: ∀b:Addr,b∉(zbD CX P w K mg base N qual scope clos f cd A outer s H E).ex:= λb z=>absurd (show b∈([]:List Addr)from z) (by simp)
 have zbV: ∀{y:Str},scope.names.lookup y=some .free->(y,NameKind.cell)∉scope.names:= λh z=>by rw[S.cel _ z]at h;cases h
 have zhN: ∀{y:Str} {v:Value},scope.names.lookup y=some .free->(y,v)∉ps.zip us:= λh z=>by
  rcases S.par _ (List.of_mem_zip z).1 with k|k<;>(rw[k]at h;cases h)
 refine⟨⟨e0.mod,S.kind,rfl,rfl,Nat.le_refl _,λy z c h1 h2=> ?_,λy hy=> ?_,λy c hy h=> ?_,λ_=>hd,Around.frames_deeper e0.frames,.inr ⟨rfl,rfl⟩,λb z=>absurd z (noA b),e0.bs,e0.bsz,λb _ _=>noA b,λb z=>absurd z (noA b),e0.funs,e0.frf⟩,
  rfl,e0.bare,Un.kept hk,⟨_,x.toInCall.ns,λi y v h1 h2 h3=> ?_⟩,λy c h=>⟨_,x.cell y c h⟩,e0.hok.fresh (Nat.le_refl _),λy c h=> ?_,λp hp=>absurd (show p∈([]:List (Addr×Obj))from hp) (by simp),e0.hok.kept hk,?_⟩
 . exact name_of_addr x.apart (PySem.mem_of_lookup h1) (PySem.mem_of_lookup h2)
 . have hy:scope.names.lookup y=some .cell\/scope.names.lookup y=some .free:=hy
   rcases hy with hy|hy
   . exact Option.isSome_iff_exists.mp (PySem.W.cellsFrom_some scope.names (s.heap.objs.size+1) clos (.inl hy))
   . obtain⟨c,e⟩:=oQ y hy;exact⟨c,(nC _ _ _ (zbV hy)).trans e⟩
 . exact Nat.le_of_lt (x.new y c (eq_of_beq (show(scope.names.lookup y==some NameKind.cell)=true from hy)) h)
 . by_cases hi:i<vs.length
   . have ha:vs[i]?=some v:=by
      rw[List.getElem?_append_left (by simpa using hi),List.getElem?_map]at h2;cases e:vs[i]? with
      |none=>rw[e]at h2;cases h2
      |some a=>rw[e]at h2;cases h2;rfl
     obtain⟨u,hu,rv⟩:=r.get ha;have hp:ps[i]?=some y:=by
      rw[<-S.pre,List.getElem?_take_of_lt (by omega)];exact h1
     have ndP:ps.Nodup:=by rw[<-S.pre];exact S.nd.sublist (List.take_sublist _ _)
     refine⟨u,rv,?_⟩
     rcases S.par y (List.mem_of_getElem? hp)with k|k
     . exact .inl ⟨k,nX ndP hp hu k⟩
     . obtain⟨c,e⟩:=Option.isSome_iff_exists.mp (PySem.W.cellsFrom_some scope.names (s.heap.objs.size+1) clos (.inl k));refine .inr ⟨.inl k,c,e,?_⟩;have q:=x.cell y c e;rw[nW ndP hp hu (by show scope.names.lookup y≠_;rw[k];decide)]at q;exact q
   . rw[List.getElem?_append_right (by simpa using hi),bH]at h2;have h1':(N.drop ps.length)[i - vs.length]?=some y:=by rw[List.getElem?_drop,<-hl,show vs.length+(i - vs.length)=i by omega];exact h1
     obtain⟨hy,u,rv,eu⟩:=hfs _ y v h1' h2;obtain⟨c,e⟩:=oQ y hy;refine⟨u,rv,.inr ⟨.inr hy,c,(nC _ _ _ (zbV hy)).trans e,?_⟩⟩;have q:=x.cell y c ((nC _ _ _ (zbV hy)).trans e);rw[nS λv z=>zhN hy z,if_neg (zbV hy),eu]at q;exact q
 . rcases mC _ _ _ (show(cellsFrom (s.heap.objs.size+1) scope.names clos).lookup y=some c from h)with⟨hge,_⟩|hm
   . exact e0.hok.fresh (Nat.le_trans (Nat.le_succ _) hge)
   . exact(hc y c (PySem.mem_of_lookup hm)).1
 . show(vs.map some++fs).length=N.length
   rw[List.length_append,bH];omega
theorem zbU{CX:yE}{P:Program}{w:World}{K:W.Frag}{mg:Str->Option Value}{base:Heap}{k:Nat}{f:Addr}{o:Obj}{name qual:Str}{params:Arguments}{body:List Stmt}{scope:Scope}{clos:List (Str×Addr)}{dV kV lA pm eQ ct:Value}{an:Option Addr}{N ps:List Str}{A:Around}{outer:List Env}{s:Shared}{H:Hp}{args:Args}{us:List Value}{vs:List V}{fs:List (Option V)}{cv:Str->Option Value}{Q:VK}{E:XK}
 (hr:eK (k+1) A) (e0:lH P w K mg base A outer s H) (ho:s.heap.get? f=some o) (hod:o.data= .func (PySem.W.fnX name qual params body scope clos dV kV lA pm an eQ ct)) (pF:s.heap.CodeRec eQ qual) (S:mT N ps scope)
 (hl:vs.length=ps.length) (r:bK vs us) (hfl:ps.length+fs.length=N.length)
 (hc: ∀n c,(n,c)∈clos->H c=none/\s.heap.IsCell c (cv n)) (hp:clos.Pairwise λx y=>x.2≠y.2) (hn: ∀n c,(n,c)∈clos->(n,NameKind.cell)∉scope.names) (oQ: ∀n,scope.names.lookup n=some .free-> ∃c,clos.lookup n=some c)
 (hfs: ∀(j:Nat) (y:Str) (v:V),(N.drop ps.length)[j]?=some y->fs[j]?=some (some v)->scope.names.lookup y=some .free/\ ∃u,bA v u/\cv y=some u)
 (hb:BindsTo s (PySem.W.fnX name qual params body scope clos dV kV lA pm an eQ ct) args (ps.zip us))
 (mY:eK k (A.deeper (PySem.W.envX qual scope s.heap.objs.size f eQ (cellsFrom (s.heap.objs.size+1) scope.names clos)))->
  ∃t,xQ (zbD CX P w K mg base N qual scope clos f eQ A outer s H E) body t/\t {nx:= λ_ H'=>Q .non H',rt:=Q} (vs.map some++fs) H):
 codeAny (model P w) A (.call (.ref f) args) (CR CX outer P w H s Q E) s:=by
 have lim:s.heap.NoLimit:=e0.mod.nolimit.keeps λb o e=>(e0.bs b o e).1
 have mW: ∀y∈ps.zip us,scope.names.lookup y.1=some .local\/(scope.names.lookup y.1=some .cell/\((cellsFrom (s.heap.objs.size+1) scope.names clos).lookup y.1).isSome=true):= λ⟨n,v⟩ hy=>by
  rcases S.par n (List.of_mem_zip hy).1 with q|q
  . exact .inl q
  . exact .inr ⟨q,PySem.W.cellsFrom_some _ _ _ (.inl q)⟩
 refine codeAny_call_function hr.depth ho hod S.co S.gen rfl pF (hb _ _ _ _ ?_)
 refine zhF (cv:=cv) S.kind (λn c h=>(hc n c h).2) hp hn mW λenv he s1 x=> ?_
 subst he
 refine⟨lim.keeps x.toInCall.keep,codeAny_func ?_⟩
 obtain⟨t,ht,hq⟩:=mY (hr.deeper _)
 have I:aM (zbD CX P w K mg base N qual scope clos f eQ A outer s H E) [] (vs.map some++fs) H s1:=yR S hr.hd e0 hl r hfl hc hn oQ hfs x
 refine wpAny_mono (ht [] s1 (vs.map some++fs) H _ I hq) (λfl s' hs=> ?_) λe s' hs=>hs
 have fN: ∀{σ':St} {H':Hp} {v:V} {u:Value},aM (zbD CX P w K mg base N qual scope clos f eQ A outer s H E) [] σ' H' s'->bA v u->Q v H'->CE outer P w H s Q u s':=
  λ{σ' H' v u} J rv q=>⟨v,H',J.os,J.bare,J.base,J.hok,rv,q⟩
 cases fl with
 |ret u=>
  obtain⟨v,σ',H',J,rv,q⟩:=hs;exact fN J rv q
 |next=>
  obtain⟨σ',H',J,q⟩:=hs;exact fN (v:=V.non) (u:=Value.none) J rfl q
 |brk=>
  obtain⟨_,_,_,q⟩:=hs;exact False.elim q
 |cont=>
  obtain⟨_,_,_,q⟩:=hs;exact False.elim q
end L2
namespace L2
open PySem PySem.Spec PyProof.Rows PySem.W
def oY(f:Addr)(o:Obj):HO:= .ext λh=>h.get? f=some o
def fF(c:Addr)(qual:Str):HO:= .ext λh=>h.CodeRec (.ref c) qual
section
variable {P:Program}{w:World}{H:Hp}{h:Heap}
theorem zeU{f:Addr}{o:Obj}(e:h.get? f=some o):cP P w H h f (oY f o):=⟨e,⟨o,e⟩,λ_ _ p k=>k _ p⟩
theorem zfe{c:Addr}{q:Str}(e:h.CodeRec (.ref c) q):cP P w H h c (fF c q):=by
 refine⟨e,?_,λh1 h2 p k=> ?_⟩
 . obtain⟨c',o,vs,t,z,g,_⟩:=e;cases z;exact⟨o,g⟩
 . obtain⟨c',o,vs,t,z,g,r⟩:=p;cases z;exact⟨c,o,vs,t,rfl,k _ g,r⟩
end
section
variable {X:Cx}{aA:List (Addr×Obj)}{σ:St}{H:Hp}{s:Shared}
theorem aM.fnAt(I:aM X aA σ H s){f:Addr}{o:Obj}(e:H f=some (oY f o)):s.heap.get? f=some o:=(I.hok f _ e).1
theorem aM.codeAt(I:aM X aA σ H s){c:Addr}{q:Str}(e:H c=some (fF c q)):s.heap.CodeRec (.ref c) q:=(I.hok c _ e).1
theorem aM.tblAt(I:aM X aA σ H s){p:Addr}{ps:Array Value}(e:H p=some (.tbl ps)):s.heap.get? p=some (tabObj ps):=I.hok p _ e
theorem aM.grown(I:aM X aA σ H s){p c:Addr}{ps more:Array Value}{q:Str}{o:Obj}{h':Heap}{tk:Nat}(e:H p=some (.tbl ps))(hx:Heap.ExtBut p s.heap h')(hge:s.heap.objs.size<=c)(eO:c<h'.objs.size)(zkX:h'.CodeRec (.ref c) q)(hp:h'.get? p=some (tabObj (ps++more)))(hfo:o.isFreed=false):
 aM X aA σ (aN (aN (aN H p (.tbl (ps++more))) c (fF c q)) h'.objs.size (oY h'.objs.size o)) {s with heap:=h'.push o,toks:=tk}:=by
 have lp:p<s.heap.objs.size:=I.hok.lt e
 have old: ∀b,b<s.heap.objs.size->b≠c/\b≠h'.objs.size:= λb hb=>⟨Nat.ne_of_lt (Nat.lt_of_lt_of_le hb hge),Nat.ne_of_lt (Nat.lt_trans (Nat.lt_of_lt_of_le hb hge) eO)⟩
 have at_: ∀b,b<s.heap.objs.size->b≠p->aN (aN (aN H p (.tbl (ps++more))) c (fF c q)) h'.objs.size (oY h'.objs.size o) b=H b:= λb hb hp=>by
  rw[aD (old b hb).2,aD (old b hb).1,aD hp]
 have keep: ∀b u,b≠p->s.heap.get? b=some u->(h'.push o).get? b=some u:= λb u hb e=>Heap.get?_push_of_some _ (hx b u hb e)
 have np: ∀b,H b=none->b≠p:= λb n z=>by rw[z,e]at n;cases n
 have zam: ∀b u,H b=some u->u≠ .tbl ps->aN (aN (aN H p (.tbl (ps++more))) c (fF c q)) h'.objs.size (oY h'.objs.size o) b=some u:= λb u hb hu=>by
  rw[at_ b (I.hok.lt hb) λz=>hu (by rw[z,e]at hb;cases hb;rfl)];exact hb
 refine I.un ⟨λb u q n _ _=>keep b u (np b n) q,λb u q n _ _=>⟨u.slots,keep b u (np b n) q⟩,λb u q n _=> ?_,λb u q _=> ?_,λb xs q=>zam b _ q (by simp),λb u xs q=>zam b _ q (by simp),λb qs q=> ?_⟩ λb u q=> ?_
 . rw[at_ b (Heap.lt_size q) (np b n)];exact n
 . by_cases hb:b=p
   . exact⟨_,by rw[hb];exact Heap.get?_push_of_some _ hp⟩
   . exact⟨u,keep b u hb q⟩
 . by_cases hb:b=p
   . subst hb;rw[e]at q;cases q;exact⟨more,by rw[aD (old b lp).2,aD (old b lp).1,aG]⟩
   . exact⟨#[],by rw[at_ b (I.hok.lt q) hb,q];simp⟩
 . by_cases h1:b=h'.objs.size
   . rw[h1,aG]at q;cases q;rw[h1];exact zeU (Heap.get?_push_size _ hfo)
   rw[aD h1]at q
   by_cases h2:b=c
   . rw[h2,aG]at q;cases q;rw[h2];exact zfe (zkX.push o)
   rw[aD h2]at q
   by_cases h3:b=p
   . rw[h3,aG]at q;cases q;rw[h3];show(h'.push o).get? p=_;exact Heap.get?_push_of_some _ hp
   rw[aD h3]at q;refine(I.hok b u q).stay (λd v hd r=>keep d v ?_ r) (λd r=>zam d _ r (by simp)) λd xs r=>zam d _ r (by simp)
   rcases hd with rfl|hd
   . exact h3
   . intro z;rw[z,e]at hd;cases hd
theorem aM.fnew(I:aM X aA σ H s){o:Obj}{h':Heap}{tk:Nat}(hk: ∀b u,s.heap.get? b=some u->h'.get? b=some u)(hsz:s.heap.objs.size<=h'.objs.size)(hfo:o.isFreed=false):
 aM X aA σ (aN H h'.objs.size (oY h'.objs.size o)) {s with heap:=h'.push o,toks:=tk}:=
 I.laid (λb u e=>Heap.get?_push_of_some _ (hk b u e)) hsz (zeU (Heap.get?_push_size _ hfo))
def zbx(name qual:Str)(params:Arguments)(body:List Stmt)(scope:Scope)(clos:List (Str×Addr))(c:Addr)(o:Obj):Prop:= ∃lA pm ct,o=fnMade name qual params body scope clos lA pm c ct
def lM(mg:Str->Option Value)(base:Heap):Prop:= ∃bm ob,mg "__builtins__" =some (.ref bm)/\bm≠builtinsNs/\base.get? bm=some ob/\ob.cls= .type "module" /\ob.dict=some builtinsNs/\ob.data= .plain
theorem aM.bltAt(I:aM X aA σ H s)(B:lM X.mg X.base){p:Addr}{ps:Array Value}(hp:s.heap.get? p=some (tabObj ps)):s.heap.BuiltinsAt X.mg p:=by
 obtain⟨bm,ob,b1,b2,b3,b4,b5,b6⟩:=B
 refine⟨bm,ob,b1,b2,λz=> ?_,λz=> ?_,I.bk _ _ b3,b4,b5,b6⟩
 . obtain⟨o,es,ep,e,d,_⟩:=I.mod.glob;rw[z,e]at b3;cases b3;rw[d]at b6;cases b6
 . have:=I.bk _ _ b3;rw[z,hp]at this;cases this;cases b6
def zsd(name qual:Str)(params:Arguments)(body:List Stmt)(scope:Scope)(clos:List (Str×Addr))(i:Nat)(p:Addr)(pos:Pos):TS:= λD σ H=> ∃ps,H p=some (.tbl ps)/\TriplesOk ps.toList/\
 ((codeAmong pos ps.toList=none/\ ∀(c f:Addr) (o:Obj),H c=none->H f=none->c≠f->zbx name qual params body scope clos c o->
  D.nx (σ.set i (some (.ref f))) (aN (aN (aN H p (.tbl (ps++ #[rawInt pos.line,rawInt pos.col,.ref c]))) c (fF c qual)) f (oY f o)))\/
  ∃c,codeAmong pos ps.toList=some (.ref c)/\H c=some (fF c qual)/\ ∀(f:Addr) (o:Obj),H f=none->zbx name qual params body scope clos c o->D.nx (σ.set i (some (.ref f))) (aN H f (oY f o)))
theorem zds{name qual:Str}{params:Arguments}{body:List Stmt}{scope:Scope}{clos:List (Str×Addr)}{i:Nat}{c p:Addr}{pos:Pos}(B:lM X.mg X.base)(xI:X.env.code= .ref c)(hC: ∀h,X.K.In h->CodeHd h c p)(hN:X.N.Nodup)(hi:X.N[i]?=some name)(hx:Loc X.env.scope name)
 (hcl:closureFor scope X.env=pure clos) (hq:qualnameIn X.env name name=qual) (hd0:params.defaults=[]:=by rfl) (hk0:params.kw_defaults=[]:=by rfl) (ha:annTrees params none X.env=[]:=by rfl)
 (hf:X.fn name=true\/X.env.scope.names.lookup name=some .local:=by first|exact .inl rfl|exact .inr rfl|assumption):
 PS X (.FunctionDef name params body [] none [] scope none name pos) (zsd name qual params body scope clos i p pos):=by
 intro aA s σ H D I h
 obtain⟨ps,e,ht,h⟩:=h
 refine nestDef_K hd0 hk0 ha ?_
 rw[hq]
 have hP:=I.tblAt e
 have hg:s.heap.Ns mainGlobals X.mg:=I.mod.glob.keeps I.bk
 have hgP:mainGlobals≠p:= λz=>by
  obtain⟨o,es,ep,g,d,_⟩:=hg;rw[z,hP]at g;cases g;cases d
 rcases h with⟨hnf,h⟩|⟨c',hf',hc',h⟩
 . refine makeFunction_K (mg:=X.mg) hcl I.ok.glob hg xI (hC _ I.kIn) hP ht hnf hgP (I.bltAt B hP) λc' ctv lA h' tk sA hge eO zkX htb=> ?_;refine iC (I.grown (o:=fnMade name qual params body scope clos lA ((X.mg "__name__").getD .none) c' ctv) (tk:=tk) e sA hge eO zkX htb rfl) hN hi hx (show bA (.ref h'.objs.size) (.ref h'.objs.size)from rfl) (λs2 I2=>⟨_,_,I2,?_⟩) hf;exact h c' h'.objs.size _ (I.hok.fresh hge) (I.hok.fresh (Nat.le_trans hge (Nat.le_of_lt eO))) (Nat.ne_of_lt eO) ⟨_,_,_,rfl⟩
 . refine makeFunction_hit (mg:=X.mg) hcl I.ok.glob hg xI (hC _ I.kIn) hP ht hf' (I.bltAt B hP) λctv lA h' tk hk hsz=> ?_;refine iC (I.fnew (o:=fnMade name qual params body scope clos lA ((X.mg "__name__").getD .none) c' ctv) (tk:=tk) hk hsz rfl) hN hi hx (show bA (.ref h'.objs.size) (.ref h'.objs.size)from rfl) (λs2 I2=>⟨_,_,I2,?_⟩) hf;exact h h'.objs.size _ (I.hok.fresh hsz) ⟨_,_,_,rfl⟩
end
end L2
namespace L2
open PySem PySem.Spec PyProof.Rows PySem.W
def d7(P:Program)(w:World)(K:W.Frag)(mg:Str->Option Value)(base:Heap)(CX:yE)(k:Nat)(name qual:Str)(params:Arguments)(body:List Stmt)(scope:Scope)(ps fr:List Str)(sp:List V->Sp):Prop:=
 ∀(A:Around) (outer:List Env) (s:Shared) (H:Hp) (f c:Addr) (o:Obj) (clos:List (Str×Addr)) (us:List Value) (vs kE:List V) (cv:Str->Option Value) (Q:VK) (E:XK),
  eK k A->lH P w K mg base A outer s H->s.heap.get? f=some o->zbx name qual params body scope clos c o->s.heap.CodeRec (.ref c) qual->
  (∀n d,(n,d)∈clos->n∈fr/\H d=none/\s.heap.IsCell d (cv n))->(clos.Pairwise λx y=>x.2≠y.2)->(∀n∈fr,∃d,clos.lookup n=some d)->Paired (λn v=> ∃u,bA v u/\cv n=some u) fr kE->
  bK vs us->sp kE vs H Q E->codeAny (model P w) A (.call (.ref f) ⟨us,[]⟩) (CR CX outer P w H s Q E) s
theorem zaQ{α β:Type}{R:α->β->Prop}: ∀{xs:List α} {ys:List β} {j:Nat} {x:α} {y:β},Paired R xs ys->xs[j]?=some x->ys[j]?=some y->R x y
 |_,_,_,_,_,.nil,h,_=>by simp at h
 |_,_,0,_,_,.cons a _,h,h2=>by simp at h h2;subst h;subst h2;exact a
 |_,_,j+1,_,_,.cons _ b,h,h2=>zaQ (j:=j) b (by simpa using h) (by simpa using h2)
theorem ziY{P:Program}{w:World}{K:W.Frag}{mg:Str->Option Value}{base:Heap}{k:Nat}{name qual:Str}{params:Arguments}{body:List Stmt}{scope:Scope}{N ps mid fr:List Str}{sp:List V->Sp}
 (S:mT N ps scope) (hN:N=ps++(mid++fr)) (oQ: ∀n∈fr,scope.names.lookup n=some .free) (lX: ∀y∈scope.names,y.2= .free->y.1∈fr)
 (hb: ∀(clos:List (Str×Addr)) (lA pm ct:Value) (c:Addr) (us:List Value),us.length=ps.length->bindArgs (fnX name qual params body scope clos .none .none lA pm none (.ref c) ct) ⟨us,[]⟩=pure (ps.zip us))
 (len: ∀kE vs H Q E,sp kE vs H Q E->vs.length=ps.length)
 (mY: ∀(clos:List (Str×Addr)) (eQ:Value) (f:Addr) (A:Around) (outer:List Env) (s:Shared) (H:Hp) (kE vs:List V) (Q:VK) (E:XK),eK k (A.deeper (envX qual scope s.heap.objs.size f eQ (cellsFrom (s.heap.objs.size+1) scope.names clos)))->sp kE vs H Q E->
  ∃t,xQ (zbD gU P w K mg base N qual scope clos f eQ A outer s H E).nox body t/\t {nx:= λ_ H'=>Q .non H',rt:=Q} (vs.map some++(List.replicate mid.length none++kE.map some)) H):
 d7 P w K mg base gU (k+1) name qual params body scope ps fr sp:=by
 intro A outer s H f c o clos us vs kE cv Q E hr e0 ho hO pF hc hp hfc hfv r wW
 obtain⟨lA,pm,ct,rfl⟩:=hO
 have hl:=len _ _ _ _ _ wW
 have zbV: ∀{y:Str},scope.names.lookup y=some .free->(y,NameKind.cell)∉scope.names:= λh z=>by rw[S.cel _ z]at h;cases h
 have zum:=Paired.length hfv
 refine zbU (CX:=gU) (cv:=cv) (fs:=List.replicate mid.length none++kE.map some) hr e0 ho rfl pF S hl r ?_ (λn d h=>(hc n d h).2) hp (λn d h=>zbV (oQ n (hc n d h).1)) (λn h=>hfc n (lX _ (mem_of_lookup h) rfl)) ?_ ?_ λhr'=> ?_
 . rw[List.length_append,List.length_replicate,bH,<-zum,hN,List.length_append,List.length_append]
 . intro j y v h1 h2;rw[hN,List.drop_left]at h1
   by_cases hj:j<mid.length
   . rw[List.getElem?_append_left (by rw[List.length_replicate];exact hj),List.getElem?_replicate,if_pos hj]at h2;cases h2
   . rw[List.getElem?_append_right (by omega)]at h1;rw[List.getElem?_append_right (by rw[List.length_replicate];omega),List.length_replicate,List.getElem?_map]at h2;obtain⟨v',sO,e⟩:=Option.map_eq_some_iff.mp h2;cases e;exact⟨oQ y (List.mem_of_getElem? h1),zaQ hfv h1 sO⟩
 . exact .of_eq (hb clos lA pm ct c us (by rw[<-r.length];exact hl))
 . obtain⟨t,h,q⟩:=mY clos _ f A outer s H kE vs Q E hr' wW;exact⟨t,h.nox,q⟩
def kS(h:Heap)(c:Addr):Option Value:=match h.get? c with
 |some o=>(match o.data with| .cell v=>v|_=>none)
 |none=>none
theorem qP{h:Heap}{c:Addr}{v:Option Value}(x:h.IsCell c v):kS h c=v:=by
 obtain⟨o,e,d⟩:=x
 unfold kS
 rw[e]
 simp only[d]
section
variable {X:Cx}{CX:yE}{k:Nat}{name qual x:Str}{params:Arguments}{body:List Stmt}{scope:Scope}{ps fr:List Str}{sp:List V->Sp}{E:XK}{e:Expr}{es:List Expr}{t:TA}{p pos:Pos}{clos:List (Str×Addr)}
theorem zga{i:Nat}{aA:List (Addr×Obj)}{s:Shared}{σ:St}{H:Hp}{v:V}{Q:Value->Shared->Prop}{E:Value->Shared->Prop}(hN:X.N[i]?=some x)(hv:Vis X.env.scope x)(hd:(x==("__debug__" :Str))=false)(pF:(x==("__classdict__" :Str))=false)
 (I:aM X aA σ H s) (e:σ[i]?=some (some v)) (h: ∀u,bA v u->Q u s):wpAny (model X.prog X.w) X.A (eval (.Name x p) X.env) Q E s:=by
 obtain⟨m,hn,hl⟩:=I.loc
 obtain⟨u,r,l⟩:=hl i x v hN e hv
 have fN:=h u r
 rcases l with⟨hk,hm⟩|⟨hk,c,hc,nA⟩
 . exact wpAny_Name (wpAny_loadName_local I.ok.kind hk hn hm fN) hd
 . rcases hk with hk|hk
   . exact wpAny_Name (wpAny_loadName_cell I.ok.kind hk hc nA fN) hd
   . exact wpAny_Name (wpAny_loadName_free I.ok.kind hk hc nA fN pF) hd
end
end L2
namespace L2
open PySem PySem.Spec PyProof.Rows PySem.W
def iK(d:Addr)(o:Obj):HO:= .ext λh=>h.get? d=some o
theorem zeF{P:Program}{w:World}{H:Hp}{h:Heap}{d:Addr}{o:Obj}(e:h.get? d=some o):cP P w H h d (iK d o):=⟨e,⟨o,e⟩,λ_ _ p k=>k _ p⟩
def lend(H:Hp)(ds:List (Addr×Obj)):Hp:= λb=>match ds.lookup b with
 |some o=>some (iK b o)
 |none=>H b
def unlend(H:Hp)(ds:List (Addr×Obj)):Hp:= λb=>match ds.lookup b with
 |some _=>none
 |none=>H b
section
variable {H H':Hp}{ds:List (Addr×Obj)}{b:Addr}{o:Obj}
theorem jO(h:ds.lookup b=some o):lend H ds b=some (iK b o):=by unfold lend;rw[h]
theorem bT(h:ds.lookup b=none):lend H ds b=H b:=by unfold lend;rw[h]
theorem eA(h:ds.lookup b=some o):unlend H ds b=none:=by unfold unlend;rw[h]
theorem bL(h:ds.lookup b=none):unlend H ds b=H b:=by unfold unlend;rw[h]
theorem xF{u:HO}(h:unlend H ds b=some u):ds.lookup b=none/\H b=some u:=by
 cases e:ds.lookup b with
 |none=>exact⟨rfl,by rw[bL e]at h;exact h⟩
 |some o=>rw[eA e]at h;cases h
variable {P:Program}{w:World}{K:W.Frag}{mg:Str->Option Value}{base:Heap}{A:Around}{outer:List Env}{s:Shared}{h h':Heap}{fs:List Addr}
theorem jG.unlend(x:jG P w H h)(hc: ∀d o,ds.lookup d=some o->H d=some (iK d o)):jG P w (unlend H ds) h:= λb u e=>by
 obtain⟨_,e⟩:=xF e
 refine(x b u e).stay (λ_ _ _ r=>r) (λc r=> ?_) λc xs r=> ?_
 . cases q:ds.lookup c with
   |none=>rw[bL q];exact r
   |some o=>rw[hc c o q]at r;cases r
 . cases q:ds.lookup c with
   |none=>rw[bL q];exact r
   |some o=>rw[hc c o q]at r;cases r
theorem jG.lend(x:jG P w H h)(hn: ∀d o,ds.lookup d=some o->H d=none/\h.get? d=some o):jG P w (lend H ds) h:= λb u e=>by
 cases q:ds.lookup b with
 |some o=>
  rw[jO q]at e;cases e;exact zeF (hn b o q).2
 |none=>
  rw[bT q]at e;refine(x b u e).stay (λ_ _ _ r=>r) (λc r=> ?_) λc xs r=> ?_
  . cases q:ds.lookup c with
    |none=>rw[bT q];exact r
    |some o=>rw[(hn c o q).1]at r;cases r
  . cases q:ds.lookup c with
    |none=>rw[bT q];exact r
    |some o=>rw[(hn c o q).1]at r;cases r
theorem Un.lent(u:Un fs [] (lend H ds) H' h h')(hn: ∀d o,ds.lookup d=some o->H d=none/\h.get? d=some o)(hk:jG P w H' h')(he: ∀d o,ds.lookup d=some o->H' d=some (iK d o)):Un fs [] H (unlend H' ds) h h' where
 keep:= λb o e n hb hx=>by
  cases q:ds.lookup b with
  |none=>exact u.keep b o e (by rw[bT q];exact n) hb hx
  |some o'=>
   have h1:=(hn b o' q).2;rw[e]at h1;cases h1;exact(hk b _ (he b o q)).1
 slot:= λb o e n hb hx=>by
  cases q:ds.lookup b with
  |none=>exact u.slot b o e (by rw[bT q];exact n) hb hx
  |some o'=>
   have h1:=(hn b o' q).2;rw[e]at h1;cases h1;exact⟨o.slots,(hk b _ (he b o q)).1⟩
 free:= λb o e n hx=>by
  cases q:ds.lookup b with
  |none=>rw[bL q];exact u.free b o e (by rw[bT q];exact n) hx
  |some o'=>exact eA q
 there:=u.there
 tups:= λb xs e=>by
  cases q:ds.lookup b with
  |none=>rw[bL q];exact u.tups b xs (by rw[bT q];exact e)
  |some o=>rw[(hn b o q).1]at e;cases e
 frzs:= λb o v e=>by
  cases q:ds.lookup b with
  |none=>rw[bL q];exact u.frzs b o v (by rw[bT q];exact e)
  |some o=>rw[(hn b o q).1]at e;cases e
 tbls:= λb ps e=>by
  cases q:ds.lookup b with
  |none=>rw[bL q];exact u.tbls b ps (by rw[bT q];exact e)
  |some o=>rw[(hn b o q).1]at e;cases e
theorem Un.back(u:Un fs [] (unlend H ds) H' h h')(hc: ∀d o,ds.lookup d=some o->H d=some (iK d o))(hh: ∀d o,ds.lookup d=some o->h.get? d=some o)(hf: ∀d o,ds.lookup d=some o->d∉fs):Un fs [] H (lend H' ds) h h' where
 keep:= λb o e n hb hx=>by
  cases q:ds.lookup b with
  |none=>exact u.keep b o e (by rw[bL q];exact n) hb hx
  |some o'=>rw[hc b o' q]at n;cases n
 slot:= λb o e n hb hx=>by
  cases q:ds.lookup b with
  |none=>exact u.slot b o e (by rw[bL q];exact n) hb hx
  |some o'=>rw[hc b o' q]at n;cases n
 free:= λb o e n hx=>by
  cases q:ds.lookup b with
  |none=>rw[bT q];exact u.free b o e (by rw[bL q];exact n) hx
  |some o'=>rw[hc b o' q]at n;cases n
 there:=u.there
 tups:= λb xs e=>by
  cases q:ds.lookup b with
  |none=>rw[bT q];exact u.tups b xs (by rw[bL q];exact e)
  |some o=>rw[hc b o q]at e;cases e
 frzs:= λb o v e=>by
  cases q:ds.lookup b with
  |none=>rw[bT q];exact u.frzs b o v (by rw[bL q];exact e)
  |some o=>rw[hc b o q]at e;cases e
 tbls:= λb ps e=>by
  cases q:ds.lookup b with
  |none=>rw[bT q];exact u.tbls b ps (by rw[bL q];exact e)
  |some o=>rw[hc b o q]at e;cases e
theorem lH.unlend(e:lH P w K mg base A outer s H)(hc: ∀d o,ds.lookup d=some o->H d=some (iK d o)):lH P w K mg base A outer s (unlend H ds):=
 ⟨e.frames,e.mod,λb o q=>⟨(e.bs b o q).1,by
  cases z:ds.lookup b with
  |none=>rw[bL z];exact(e.bs b o q).2
  |some o=>exact eA z⟩,e.bsz,e.funs,λb hb=>by
  cases z:ds.lookup b with
  |none=>rw[bL z];exact e.frf b hb
  |some o=>exact eA z,e.hok.unlend hc,e.bare⟩
theorem lH.lend(e:lH P w K mg base A outer s H)(hn: ∀d o,ds.lookup d=some o->H d=none/\s.heap.get? d=some o)(hb: ∀d o,ds.lookup d=some o->base.get? d=none)(hf: ∀d o,ds.lookup d=some o->d∉frs outer):lH P w K mg base A outer s (lend H ds):=
 ⟨e.frames,e.mod,λb o q=>⟨(e.bs b o q).1,by
  cases z:ds.lookup b with
  |none=>rw[bT z];exact(e.bs b o q).2
  |some o'=>rw[hb b o' z]at q;cases q⟩,e.bsz,e.funs,λb hm=>by
  cases z:ds.lookup b with
  |none=>rw[bT z];exact e.frf b hm
  |some o'=>exact absurd hm (hf b o' z),e.hok.lend hn,e.bare⟩
end
section
variable {X:Cx}{k:Nat}{name qual x:Str}{params:Arguments}{body:List Stmt}{scope:Scope}{ps fr:List Str}{sp:List V->Sp}{E:XK}{e:Expr}{es:List Expr}{t:TA}{p pos:Pos}
def FnL(name qual:Str)(params:Arguments)(body:List Stmt)(scope:Scope)(fr:List Str)(H:Hp)(f:Addr)(ds:List (Addr×Obj))(kE:List V):Prop:=
 ∃(c:Addr) (o:Obj) (clos:List (Str×Addr)) (cv:Str->Option Value),H f=some (oY f o)/\zbx name qual params body scope clos c o/\H c=some (fF c qual)/\(∀n d,(n,d)∈clos->n∈fr/\ ∃od,ds.lookup d=some od/\od.data= .cell (cv n))/\(clos.Pairwise λx y=>x.2≠y.2)/\(∀n∈fr,∃d,clos.lookup n=some d)/\
  Paired (λn v=> ∃u,bA v u/\cv n=some u) fr kE/\(∀d o,ds.lookup d=some o->H d=some (iK d o))/\ds.lookup f=none/\ds.lookup c=none
def ziL(ds:List (Addr×Obj))(Q:VK):VK:= λv H'=>Q v (lend H' ds)
def zgX(ds:List (Addr×Obj))(Q:VK):VK:= λv H'=>(∀d o,ds.lookup d=some o->H' d=some (iK d o))/\Q v (unlend H' ds)
def i8(i:Nat)(name qual:Str)(params:Arguments)(body:List Stmt)(scope:Scope)(fr:List Str)(sp:List V->Sp)(E:XK)(t:TA):TE:= λσ H Q=>
 ∃f o0,σ[i]?=some (some (.ref f))/\H f=some (oY f o0)/\(∃fd,o0.data= .func fd)/\t σ H λvs H1=> ∃ds kE,FnL name qual params body scope fr H1 f ds kE/\sp kE vs (unlend H1 ds) (ziL ds Q) E
theorem zfb{i:Nat}(F:d7 X.prog X.w X.K X.mg X.base gU k name qual params body scope ps fr sp)(hr:eK k X.A)(hN:X.N[i]?=some x)(hv:Vis X.env.scope x)
 (ha:PA X (e::es) t) (hd:(x==("__debug__" :Str))=false:=by decide) (pF:(x==("__classdict__" :Str))=false:=by decide)
 (he:starEach (e::es) X.env=(false,eval e X.env)::starEach es X.env:=by rfl) (mF:(backTo pos (starEach es X.env)).any (·.1)=false:=by rfl):
 PE X (.Call (.Name x p) (e::es) [] pos) (i8 i name qual params body scope fr sp E0 t):=by
 intro aA s σ H Q I h
 obtain⟨f,o0,ef,hf0,⟨fd0,hd0⟩,h⟩:=h
 refine wpAny_Call_Name_kw (zga hN hv hd pF I ef λu r=> ?_)
 cases r
 have at0: ∀{s1:Shared} {H1:Hp} {o:Obj},aM X aA σ H1 s1->H1 f=some (oY f o)->(∃fd,o.data= .func fd)->FnAt f s1.heap:= λ{s1 H1 o} J z ⟨fd,d⟩=>by
  have:=J.fnAt z;cases o;cases d;exact⟨_,_,_,_,this⟩
 refine callWith_F (at0 I hf0 ⟨fd0,hd0⟩) (cH (ha pos aA s σ H _ I h) λus s1 ⟨vs,H1,I1,r,q⟩=> ?_) he mF
 obtain⟨ds,kE,⟨c,o,clos,cv,h1,h2,h3,h4,h5,h6,h7,h8,h9,h10⟩,wW⟩:=q
 have ofd: ∃fd,o.data= .func fd:=by
  obtain⟨_,_,_,rfl⟩:=h2;exact⟨_,rfl⟩
 refine⟨at0 I1 h1 ofd,?_⟩
 have inH: ∀d o,ds.lookup d=some o->s1.heap.get? d=some o:= λd o q=>(I1.hok d _ (h8 d o q)).1
 have run:=F X.A X.stack s1 (unlend H1 ds) f c o clos us vs kE cv (λv H'=>Q v (lend H' ds)) E0 hr (I1.env0.unlend h8) (I1.fnAt h1) h2 (I1.codeAt h3) (λn d hm=>by
  obtain⟨hin,od,hl,hd⟩:=h4 n d hm;exact⟨hin,eA hl,od,inH d od hl,hd⟩) h5 h6 h7 r wW
 refine wpAny_call (codeAny_mono run λr s' hq=> ?_)
 cases r with
 |error e=>exact False.elim hq
 |ok fl=>
  cases fl with
  |ret u=>
   obtain⟨v,H',os,bare,un,hok,rv,q⟩:=hq;have off: ∀d o,ds.lookup d=some o->H' d=none:= λd o z=>un.free d o (inH d o z) (eA z) (by simp);have nof: ∀d o,ds.lookup d=some o->d∉frs X.stack:= λd o z hm=>by
    have:=I1.env0.frf d hm;rw[h8 d o z]at this;cases this
   exact I1.after ⟨v,lend H' ds,os,bare,un.back h8 inH nof,hok.lend (λd o z=>⟨off d o z,un.keep d o (inH d o z) (eA z) (nof d o z) (by simp)⟩),rv,q⟩
  |next=>exact False.elim hq
  |brk=>exact False.elim hq
  |cont=>exact False.elim hq
theorem xW{α:Type}: ∀{l:List (Addr×α)} {n:Addr} {c:α},l.lookup n=some c->(n,c)∈l
 |(k,v)::r,n,c,h=>by
  rw[List.lookup_cons]at h;cases hb:n==k with
  |true=>rw[hb]at h;cases h;rw[beq_iff_eq.mp hb];exact List.mem_cons_self
  |false=>rw[hb]at h;exact List.mem_cons_of_mem _ (xW h)
theorem tS{α:Type}: ∀{l:List (Addr×α)} {n:Addr} {c:α},(n,c)∈l-> ∃c',l.lookup n=some c'
 |(k,v)::r,n,c,h=>by
  rw[List.lookup_cons];cases hb:n==k with
  |true=>exact⟨v,rfl⟩
  |false=>
   rcases List.mem_cons.mp h with e|h
   . cases e;rw[beq_self_eq_true]at hb;cases hb
   . exact tS h
def zcy(h:Heap)(cells:List (Str×Addr))(ns:List Str):List (Addr×Obj):=ns.filterMap λn=>(cells.lookup n).bind λd=>(h.get? d).map λo=>(d,o)
theorem zfo{h:Heap}{cells:List (Str×Addr)}{ns:List Str}{d:Addr}{o:Obj}(hm:(d,o)∈zcy h cells ns):h.get? d=some o/\ ∃n∈ns,cells.lookup n=some d:=by
 obtain⟨n,hn,e⟩:=List.mem_filterMap.mp hm
 obtain⟨d',h1,e⟩:=Option.bind_eq_some_iff.mp e
 obtain⟨o',h2,e⟩:=Option.map_eq_some_iff.mp e
 cases e
 exact⟨h2,n,hn,h1⟩
def zjJ(env:Env)(ns:List Str)(js:List Nat)(sp:Sp)(t:TA):TE:= λσ H Q=>t σ H λvs H1=> ∀(ds:List (Addr×Obj)) (cv:Str->Option Value),
 (∀n∈ns,∃d od,env.cells.lookup n=some d/\ds.lookup d=some od/\od.data= .cell (cv n))->(∀d o,ds.lookup d=some o->H1 d=none)->
 (∀(i j:Nat) (n:Str) (v:V),js[i]?=some j->ns[i]?=some n->σ[j]?=some (some v)-> ∃u,bA v u/\cv n=some u)->
 sp vs (lend H1 ds) (zgX ds Q) E0
theorem zdR{f:Addr}{fd:FuncData}{sp:Sp}{ns:List Str}{js:List Nat}(F:dN X.prog X.w X.K X.mg X.base gU k f fd ps sp)(hr:eK k X.A)(hg:Gl X x)(hm:X.mg x=some (.ref f))(hk:W.keepIn X.K (.ref f)=true)(hb:jW X.K fd ps [])
 (hns: ∀n∈ns,X.env.scope.names.lookup n=some .cell/\X.fn n=true) (hjs: ∀(i j:Nat) (n:Str),js[i]?=some j->ns[i]?=some n->X.N[j]?=some n)
 (ha:PA X (e::es) t) (hdb:(x==("__debug__" :Str))=false:=by decide) (he:starEach (e::es) X.env=(false,eval e X.env)::starEach es X.env:=by rfl) (mF:(backTo pos (starEach es X.env)).any (·.1)=false:=by rfl):
 PE X (.Call (.Name x p) (e::es) [] pos) (zjJ X.env ns js sp t):=by
 intro aA s σ H Q I h
 refine wpAny_Call_Name_kw (vL I hg hm ?_ hdb)
 refine PySem.W.callWith_K (h₀:=X.base) I.ok.mod.kin hk (cH (ha pos aA s σ H _ I h) λus s1 ⟨vs,H1,I1,r,q⟩=>⟨I1.kIn,?_⟩) he mF
 have inD: ∀d o,(zcy s1.heap X.env.cells ns).lookup d=some o->s1.heap.get? d=some o/\ ∃n∈ns,X.env.cells.lookup n=some d:= λd o z=>zfo (xW z)
 have hn: ∀d o,(zcy s1.heap X.env.cells ns).lookup d=some o->H1 d=none/\s1.heap.get? d=some o:= λd o z=>by
  obtain⟨h1,n,hn,hl⟩:=inD d o z;exact⟨I1.freeC n d hl,h1⟩
 have ab: ∀d o,(zcy s1.heap X.env.cells ns).lookup d=some o->X.s₀.heap.objs.size<=d:= λd o z=>by
  obtain⟨_,n,hn,hl⟩:=inD d o z;exact I1.ok.cab n d (hns n hn).2 hl
 have sp':=q (zcy s1.heap X.env.cells ns) (λn=>(X.env.cells.lookup n).bind (kS s1.heap)) (λn hn=> ?_) (λd o z=>(hn d o z).1) (λi j n v h1 h2 h3=> ?_)
 . have e0:=I1.env0.lend hn (λd o z=>Heap.get?_none_of_le (Nat.le_trans I1.ok.bsz (ab d o z))) (λd o z hm=>by
    obtain⟨_,n,_,hl⟩:=inD d o z
    rcases List.mem_cons.mp (I1.stkSub d hm)with e|hb
    . exact I1.cne n d hl e
    . obtain⟨_,o',ho,_⟩:=I1.ok.funs.mem hb;exact absurd (Nat.lt_of_lt_of_le (Heap.lt_size ho) (ab d o z)) (Nat.lt_irrefl _))
   have hl:us.length=ps.length:=by rw[<-r.length];exact F.len _ _ _ _ sp'
   refine wpAny_call (codeAny_mono (F.run X.A X.stack s1 _ ⟨us,[]⟩ us vs _ E0 hr e0 (by have:=hb s1 us I1.kIn (by simpa using hl);rwa [List.append_nil]at this) r sp') λr s' hq=> ?_);cases r with
   |error e=>exact False.elim hq
   |ok fl=>
    cases fl with
    |ret u=>
     obtain⟨v,H',os,bare,un,hok,rv,he,q⟩:=hq;exact I1.after ⟨v,unlend H' _,os,bare,un.lent hn hok he,hok.unlend he,rv,q⟩
    |next=>exact False.elim hq
    |brk=>exact False.elim hq
    |cont=>exact False.elim hq
 . obtain⟨d,hl⟩:=I1.ok.has n (.inl (hns n hn).1);obtain⟨v,o,ho,hd⟩:=I1.cell n d hl;have hm:(d,o)∈zcy s1.heap X.env.cells ns:=List.mem_filterMap.mpr ⟨n,hn,by rw[hl];show(s1.heap.get? d).map _=_;rw[ho];rfl⟩;obtain⟨o',hlk⟩:=tS hm;have h1:=(inD d o' hlk).1;rw[ho]at h1;cases h1;refine⟨d,o,hl,hlk,?_⟩;show o.data= .cell ((X.env.cells.lookup n).bind (kS s1.heap));rw[hl];show o.data= .cell (kS s1.heap d);rw[qP ⟨o,ho,hd⟩];exact hd
 . obtain⟨m,_,hlc⟩:=I1.loc;have hn':=List.mem_of_getElem? h2;obtain⟨u,rv,lk⟩:=hlc j n v (hjs i j n h1 h2) h3 (.inr (.inl (hns n hn').1));refine⟨u,rv,?_⟩
   rcases lk with⟨kk,_⟩|⟨_,d,hl,nA⟩
   . have kk:X.env.scope.names.lookup n=some .local:=kk;rw[(hns n hn').1]at kk;cases kk
   . show(X.env.cells.lookup n).bind (kS s1.heap)=some u
     rw[hl];exact qP nA
end
end L2
namespace L2
open PySem PySem.Spec PyProof.Rows PySem.W
def zdB(ds:List (Addr×Obj))(Q:VK):VK:= λv H'=>(∀d o,ds.lookup d=some o->H' d=none)->Q v (lend H' ds)
section
variable {X:Cx}{k:Nat}{name qual x:Str}{params:Arguments}{body:List Stmt}{scope:Scope}{ps fr:List Str}{sp:List V->Sp}{E:XK}{e:Expr}{es:List Expr}{t:TA}{p pos:Pos}
def r9(i:Nat)(name qual:Str)(params:Arguments)(body:List Stmt)(scope:Scope)(fr:List Str)(sp:List V->Sp)(E:XK)(t:TA):TE:= λσ H Q=>
 ∃f o0,σ[i]?=some (some (.ref f))/\H f=some (oY f o0)/\(∃fd,o0.data= .func fd)/\t σ H λvs H1=> ∃ds kE,FnL name qual params body scope fr H1 f ds kE/\sp kE vs (unlend H1 ds) (zdB ds Q) E
theorem zeg{i:Nat}(F:d7 X.prog X.w X.K X.mg X.base gU k name qual params body scope ps fr sp)(hr:eK k X.A)(hN:X.N[i]?=some x)(hv:Vis X.env.scope x)
 (ha:PA X (e::es) t) (hd:(x==("__debug__" :Str))=false:=by decide) (pF:(x==("__classdict__" :Str))=false:=by decide)
 (he:starEach (e::es) X.env=(false,eval e X.env)::starEach es X.env:=by rfl) (mF:(backTo pos (starEach es X.env)).any (·.1)=false:=by rfl):
 PE X (.Call (.Name x p) (e::es) [] pos) (r9 i name qual params body scope fr sp E0 t):=by
 intro aA s σ H Q I h
 obtain⟨f,o0,ef,hf0,⟨fd0,hd0⟩,h⟩:=h
 refine wpAny_Call_Name_kw (zga hN hv hd pF I ef λu r=> ?_)
 cases r
 have at0: ∀{s1:Shared} {H1:Hp} {o:Obj},aM X aA σ H1 s1->H1 f=some (oY f o)->(∃fd,o.data= .func fd)->FnAt f s1.heap:= λ{s1 H1 o} J z ⟨fd,d⟩=>by
  have:=J.fnAt z;cases o;cases d;exact⟨_,_,_,_,this⟩
 refine callWith_F (at0 I hf0 ⟨fd0,hd0⟩) (cH (ha pos aA s σ H _ I h) λus s1 ⟨vs,H1,I1,r,q⟩=> ?_) he mF
 obtain⟨ds,kE,⟨c,o,clos,cv,h1,h2,h3,h4,h5,h6,h7,h8,h9,h10⟩,wW⟩:=q
 have ofd: ∃fd,o.data= .func fd:=by
  obtain⟨_,_,_,rfl⟩:=h2;exact⟨_,rfl⟩
 refine⟨at0 I1 h1 ofd,?_⟩
 have inH: ∀d o,ds.lookup d=some o->s1.heap.get? d=some o:= λd o q=>(I1.hok d _ (h8 d o q)).1
 have run:=F X.A X.stack s1 (unlend H1 ds) f c o clos us vs kE cv (zdB ds Q) E0 hr (I1.env0.unlend h8) (I1.fnAt h1) h2 (I1.codeAt h3) (λn d hm=>by
  obtain⟨hin,od,hl,hd⟩:=h4 n d hm;exact⟨hin,eA hl,od,inH d od hl,hd⟩) h5 h6 h7 r wW
 refine wpAny_call (codeAny_mono run λr s' hq=> ?_)
 cases r with
 |error e=>exact False.elim hq
 |ok fl=>
  cases fl with
  |ret u=>
   obtain⟨v,H',os,bare,un,hok,rv,q⟩:=hq;have off: ∀d o,ds.lookup d=some o->H' d=none:= λd o z=>un.free d o (inH d o z) (eA z) (by simp);have nof: ∀d o,ds.lookup d=some o->d∉frs X.stack:= λd o z hm=>by
    have:=I1.env0.frf d hm;rw[h8 d o z]at this;cases this
   exact I1.after ⟨v,lend H' ds,os,bare,un.back h8 inH nof,hok.lend (λd o z=>⟨off d o z,un.keep d o (inH d o z) (eA z) (nof d o z) (by simp)⟩),rv,q off⟩
  |next=>exact False.elim hq
  |brk=>exact False.elim hq
  |cont=>exact False.elim hq
end
end L2
namespace L2
open PySem PySem.Spec PyProof.Rows PySem.W
def zeH(tabs:List (Addr×Addr))(H:Hp):Prop:= ∀b,H b=none\/(∃o xs,H b=some (.frz o (.lst xs)))\/(b∈tabs.map (·.2)/\H b=some (.tbl #[]))
theorem zcM{P:Program}{w:World}{K:W.Frag}{mg mb:Str->Option Value}{CX:yE}{k:Nat}{fa a:Addr}{fd:FuncData}{x:Str}{sp:Sp}{s₁:Shared}{vs:List Value}{ns:List Int}{tabs:List (Addr×Addr)}
 (KX:K.In s₁.heap) (hns:s₁.heap.Ns mainGlobals mg) (hb:s₁.heap.Ns builtinsNs mb) (hbb: ∀x:Str,x≠ "__name__" ->mb x=bootBuiltins x) (ztd:s₁.heap.NoLimit) (hg:s₁.gens= #[])
 (hT:TabsAt tabs s₁.heap) (hnK:noTabs K=true) (hB:lM mg s₁.heap)
 (ha:s₁.heap.get? a=some {cls:= .type "list",data:= .seq vs.toArray}) (hi:IntsAre vs ns) (hl:ns.length<=sizeLine) (hr:eK k callerA)
 (F: ∀base:Heap,K.In base->base.Ns mainGlobals mg->lM mg base->dN P w K mg base CX k fa fd [x] sp) (zoF: ∀(s:Shared) (u:Value),BindsTo s fd ⟨[u],[]⟩ [(x,u)])
 (wW: ∀H:Hp,(∀q∈tabs,H q.2=some (.tbl #[]))->zeH tabs H->aY K H a (ns.map V.int)->sp [.ref a] H (λv _=>v= .bl true) λ_ _ _=>False)
 (hCX: ∀H e s',CX [] H s₁ (λ_ _ _=>False) e s'->False):
 codeAny (model P w) callerA (.call (.ref fa) ⟨[.ref a],[]⟩) (λr s'=>r= .ok (.ret (.bool true))/\OldK s₁.heap s'.heap/\s'.os=s₁.os/\AllBare s'.gens) s₁:=by
 have rv:=nZ hi
 have zsK:=hi.length
 have tL: ∀{b:Addr},b∈tabs.map (·.2)->isCodeTable s₁.heap b/\s₁.heap.get? b=some (tabObj #[]):= λ{b} hm=>by
  obtain⟨q,hq,rfl⟩:=List.mem_map.mp hm;exact⟨((hT q hq).1.tab (hT q hq).2).isCodeTable,(hT q hq).2⟩
 have aT:a∉tabs.map (·.2):= λhm=>by
  have:=(tL hm).2;rw[ha]at this;cases this
 have zqe: ∀H:Hp,(∀q∈tabs,H q.2=some (.tbl #[]))->zeH tabs H->aY K H a (ns.map V.int)->jG P w H s₁.heap->(∀b,H b≠none->b=a\/b∈tabs.map (·.2))->(H a≠none->K.lookup a=none)->
  codeAny (model P w) callerA (.call (.ref fa) ⟨[.ref a],[]⟩) (λr s'=>r= .ok (.ret (.bool true))/\OldK s₁.heap s'.heap/\s'.os=s₁.os/\AllBare s'.gens) s₁:=by
  intro H hTH hO hS hok hA hK;have uU: ∀{b:Addr} {o:Obj},s₁.heap.get? b=some o->H b=none->(sH s₁.heap H).get? b=some o:= λe n=>zfs e n;have noA: ∀{b:Addr} {o:Obj},s₁.heap.get? b=some o->(∀xs n,o.data≠ .seq xs n)->o≠tabObj #[]->H b=none:= λ{b o} e d dt=>by
   cases q:H b with
   |none=>rfl
   |some u=>
    rcases hA b (by rw[q];simp)with z|z
    . subst z;rw[ha]at e;cases e;exact absurd rfl (d _ _)
    . have:=(tL z).2;rw[e]at this;exact absurd (Option.some.inj this) dt
  have nsK: ∀{b:Addr} {m:Str->Option Value},s₁.heap.Ns b m->(sH s₁.heap H).Ns b m:= λ{b m} ⟨o,es,ep,e,d,r⟩=>⟨o,es,ep,uU e (noA e (λ_ _ z=>by rw[d]at z;cases z) λz=>by rw[z]at d;cases d),d,r⟩;have hKb:K.In (sH s₁.heap H):= λb o e=>uU (KX b o e) (by
   cases q:H b with
   |none=>rfl
   |some u=>
    rcases hA b (by rw[q];simp)with z|z
    . subst z;rw[hK (by rw[q];simp)]at e;cases e
    . have h1:=(tL z).2;rw[KX b o e]at h1;have h2:=List.all_eq_true.mp hnK (b,o) (mem_of_lookupK e);rw[Option.some.inj h1]at h2;exact absurd (show false=true from h2) Bool.false_ne_true)
  have hM:Mod K mg (sH s₁.heap H):=⟨hKb,nsK hns,⟨mb,nsK hb,hbb⟩,let⟨mc,h1,h2⟩:=ztd;⟨mc,nsK h1,h2⟩⟩;have hBb:lM mg (sH s₁.heap H):=let⟨bm,ob,b1,b2,b3,b4,b5,b6⟩:=hB;⟨bm,ob,b1,b2,uU b3 (noA b3 (λ_ _ z=>by rw[b6]at z;cases z) λz=>by rw[z]at b6;cases b6),b4,b5,b6⟩
  have e0:lH P w K mg (sH s₁.heap H) callerA [] s₁ H:=⟨rfl,hM,λb o e=>zgs e,Nat.le_of_eq (zcC _ _),trivial,λb hb=>absurd (show b∈([]:List Addr)from hb) (by simp),hok,.of_eq hg⟩;refine codeAny_mono ((F _ hKb (nsK hns) hBb).run callerA [] s₁ H ⟨[.ref a],[]⟩ [.ref a] [.ref a] _ _ hr e0 (zoF s₁ (.ref a)) (.cons rfl .nil) (wW H hTH hO hS)) λr s' h=> ?_;cases r with
  |error e=>exact(hCX H e s' h).elim
  |ok fl=>
   cases fl with
   |next=>exact False.elim h
   |brk=>exact False.elim h
   |cont=>exact False.elim h
   |ret u=>
    obtain⟨v,H',os,bare,un,zpi,r',q⟩:=h;have q':v= .bl true:=q;subst q';obtain rfl:u=Value.bool true:=r';have grown: ∀b,b∈tabs.map (·.2)-> ∃ps,s'.heap.get? b=some (tabObj ps):= λb hm=>by
     obtain⟨q,hq,rfl⟩:=List.mem_map.mp hm;obtain⟨more,e⟩:=un.tbls _ _ (hTH q hq);exact⟨_,zpi _ _ e⟩
    have keep: ∀b o,b∉tabs.map (·.2)->s₁.heap.get? b=some o->s'.heap.get? b=some o:= λb o hm e=>by
     cases q:H b with
     |none=>exact un.keep b o e q (by intro z;exact absurd (show b∈([]:List Addr)from z) (by simp)) (by simp)
     |some u=>
      rcases hO b with z|⟨ob,xs,z⟩|⟨z,_⟩
      . rw[q]at z;cases z
      . have z2:=un.frzs b ob _ z;obtain⟨e1,_⟩:=hok b _ z;obtain⟨e2,_⟩:=zpi b _ z2;rw[e]at e1;cases e1;exact e2
      . exact absurd z hm
    refine⟨rfl,⟨λb o e=> ?_,λb o e=> ?_⟩,os,bare⟩
    . by_cases hm:b∈tabs.map (·.2)
      . obtain⟨ht,e2⟩:=tL hm;rw[e]at e2;have e2:=Option.some.inj e2;subst e2;obtain⟨ps,hP⟩:=grown b hm;exact .inr (.inl ⟨ht,rfl,#[],ps,rfl,by rw[Array.empty_append];exact hP⟩)
      . exact .inl (keep b o hm e)
    . by_cases hm:b∈tabs.map (·.2)
      . obtain⟨ps,hP⟩:=grown b hm;exact⟨_,hP⟩
      . exact⟨o,keep b o hm e⟩
 cases hk:K.lookup a with
 |some o=>
  have e:=KX a o hk;rw[ha]at e;cases e;refine zqe (λb=>if b∈tabs.map (·.2)then some (.tbl #[])else none) (λq hq=>if_pos (List.mem_map_of_mem hq)) (λb=> ?_) (.inr ⟨_,vs.toArray,_,hk,rfl,rfl,rfl,by rw[List.size_toArray,zsK];exact hl,by simpa using rv⟩) (λb u z=> ?_) (λb z=> ?_) λz=>absurd (if_neg aT) z
  . by_cases hm:b∈tabs.map (·.2)
    . exact .inr (.inr ⟨hm,if_pos hm⟩)
    . exact .inl (if_neg hm)
  . by_cases hm:b∈tabs.map (·.2)
    . have z':=(if_pos hm).symm.trans z;cases z';exact(tL hm).2
    . have z':=(if_neg hm).symm.trans z;cases z'
  . by_cases hm:b∈tabs.map (·.2)
    . exact .inr hm
    . exact absurd (if_neg hm) z
 |none=>
  refine zqe (λb=>if b∈tabs.map (·.2)then some (.tbl #[])else if b=a then some (.frz {cls:= .type "list",data:= .seq vs.toArray} (.lst (ns.map V.int)))else none) (λq hq=>if_pos (List.mem_map_of_mem hq)) (λb=> ?_) (.inl (.inr ⟨{cls:= .type "list",data:= .seq vs.toArray},(if_neg aT).trans (if_pos rfl)⟩)) (λb u z=> ?_) (λb z=> ?_) λ_=>hk
  . by_cases hm:b∈tabs.map (·.2)
    . exact .inr (.inr ⟨hm,if_pos hm⟩)
    . by_cases hb:b=a
      . exact .inr (.inl ⟨_,_,(if_neg hm).trans (if_pos hb)⟩)
      . exact .inl ((if_neg hm).trans (if_neg hb))
  . by_cases hm:b∈tabs.map (·.2)
    . have z':=(if_pos hm).symm.trans z;cases z';exact(tL hm).2
    . by_cases hb:b=a
      . have z':=((if_neg hm).trans (if_pos hb)).symm.trans z;cases z';subst hb;exact⟨ha,by rw[bH];exact hl,vs,_,rv,ha⟩
      . have z':=((if_neg hm).trans (if_neg hb)).symm.trans z;cases z'
  . by_cases hm:b∈tabs.map (·.2)
    . exact .inr hm
    . by_cases hb:b=a
      . exact .inl hb
      . exact absurd ((if_neg hm).trans (if_neg hb)) z
theorem walk_ofT{l:PySem.W.OpenLaw}{n k:Nat}{q:Program}{tI:List Str}{XP:(Str->Option Value)->Heap->Prop}{YP:World->Heap->Prop}{d:DefRec}{K:Params->W.Frag}{CX:World->yE}{sp:World->Sp}{x:Str}{tabs:World->List (Addr×Addr)}
 (hn:l.most=some n) (hn2:n<=sizeLine) (hdf:d.params.defaults=[]) (hr:eK k callerA)
 (hY: ∀(w:World) (h:Heap),YP w h->(K w.params).In h) (hnK: ∀w:World,noTabs (K w.params)=true)
 (T: ∀(w:World) (h:Heap),YP w h->TabsAt (tabs w) h)
 (F: ∀(w:World) (mg:Str->Option Value) (fa:Addr) (h:Heap),(K w.params).In h->h.Ns mainGlobals mg->mg d.name=some (.ref fa)->
  ∃fd:FuncData,(∀(s:Shared) (u:Value),BindsTo s fd ⟨[u],[]⟩ [(x,u)])/\
   ∀base:Heap,(K w.params).In base->base.Ns mainGlobals mg->lM mg base->dN l.prog w (K w.params) mg base (CX w) k fa fd [x] (sp w))
 (wW: ∀(w:World) (H:Hp) (a:Addr) (ns:List Int),ns.length<=n->(∀q∈tabs w,H q.2=some (.tbl #[]))->zeH (tabs w) H->aY (K w.params) H a (ns.map V.int)->sp w [.ref a] H (λv _=>v= .bl true) λ_ _ _=>False)
 (hCX: ∀(w:World) (H:Hp) (s:Shared) (e:Value) (s':Shared),CX w [] H s (λ_ _ _=>False) e s'->False):
 PySem.W.WalkO q tI XP YP l.row.toRowW d [] (λf vs=>PySem.call f vs):=by
 refine Att.attach_call hn hdf λw s₀ s₁ mg mb fa o pm cd lA a vs ns G Y ho hd pF hmg zjR zfV cQ hg=> ?_
 have KX:=hY w _ Y
 obtain⟨fd,hb,hF⟩:=F w mg fa _ KX G.T.g hmg
 have hB:lM mg s₁.heap:=let⟨bm,ob,b1,b2,b3,b4,b5,b6⟩:=G.T.bmain;⟨bm,ob,b1,b2,b3,b4,b5,b6⟩
 exact zcM (tabs:=tabs w) KX G.T.g G.T.b G.T.builtins G.T.nolimit hg (T w _ Y) (hnK w) hB zjR zfV (Nat.le_trans cQ hn2) hr hF hb (λH h1 h2 h3=>wW w H a ns cQ h1 h2 h3) λH e s'=>hCX w H s₁ e s'
end L2
namespace L2
open PySem PySem.Spec PyProof.Rows
def zfl(k:Bool)(v:Value):Bool:=match v with
 | .bool b=>decide (b=k)
 |_=>false
theorem dO{k:Bool}{v:Value}(h:zfl k v=true):v= .bool k:=by
 cases v with
 |bool b=>rw[of_decide_eq_true (show decide (b=k)=true from h)]
 |_=>exact absurd (show false=true from h) Bool.false_ne_true
def zdS(k:Bool):Int:=if k=true then 1 else 0
theorem zbG{P:Program}{w:World}{A:Around}{E:Value->Shared->Prop}{s:Shared}{k:Bool}{Q:Int->Shared->Prop}(q:Q (zdS k) {s with toks:=s.toks+1}):wpAny (model P w) A (pyHash (.bool k)) Q E s:=by
 have ty:s.TypeIs (.bool k) "bool" :=rfl
 have nh: [Value.bool k].any Value.onHeap=false:=rfl
 show wpAny _ _ (pyHashByItsType (.bool k)) Q E s
 unfold pyHashByItsType
 refine wpAny_bind ?_
 rw[cRoomFor,nh,if_neg Bool.false_ne_true]
 refine wpAny_pure (wpAny_bind (wpAny_specialOf ty PySem.F.slot_bool_hash.lookup ?_))
 rw[if_neg (by rw[beq_builtin_none];exact Bool.false_ne_true)]
 refine wpAny_bind (wpAny_specialOf ty PySem.F.slot_bool_hash.lookup ?_)
 show wpAny _ _ (callSpecialIfBoundUnlessNone? (.bool k) "__hash__" _>>=_) Q E s
 refine wpAny_bind (wpAny_callSpecialIfBoundUnlessNone?_slot ty PySem.F.slot_bool_hash (wpAny_call_entry PySem.F.slot_bool_hash ty PySem.F.entry_int_hash ?_ (PySem.F.args_int_hash_1 _)))
 have e:Builtin.«int.__hash__» ⟨[.bool k],[]⟩=(do ret (<-mkInt (zdS k))):=by cases k<;>rfl
 rw[e]
 refine wpAny_ret_mkInt ?_
 cases k<;>exact wpAny_pure q
def jF(P:Program)(w:World):PySem.KeyKind P w Bool where
 is:=zfl
 hash:=zdS
 inj:= λv a b ha hb=>by have:=(dO ha).symm.trans (dO hb);injection this
 byValue:= λk v h=>by rw[dO h];rfl
 pyHash:= λhv h=>by rw[dO hv];exact zbG h
 eqBool:= λ{A E s a b u v Q} hu hv h=>by
  rw[dO hu,dO hv];refine SeqAt.EqAt.bool_bool a b _ _ _ _ ?_;rw[show(a==b)=decide (a=b)from rfl];exact h
 «strs»:= λk x t v h=>by have:=dO h;cases this
section
variable {P:Program}{w:World}{κ:Type} [DecidableEq κ]{knd:PySem.KeyKind P w κ}{A:Around}{E:Value->Shared->Prop}{s:Shared}
def eW(knd:PySem.KeyKind P w κ)(h:Heap)(k:κ×List κ)(a:Addr):Prop:= ∃(o:Obj) (v:Value) (c:Addr) (n:Nat),h.get? a=some o/\o.cls= .type "tuple" /\o.data= .seq #[v,.ref c] n/\knd.is k.1 v=true/\IsTupleKey knd h k.2 c
theorem eW.ty{k:κ×List κ}{a:Addr}(x:eW knd s.heap k a):s.TypeIs (.ref a) "tuple" :=let⟨o,_,_,_,e,c,_⟩:=x;⟨o,e,c⟩
theorem eW.one{h:Heap}{a:Addr}{x y:κ×List κ}(hx:eW knd h x a)(hy:eW knd h y a):x=y:=by
 obtain⟨o,v,c,n,e,_,d,i1,i2⟩:=hx
 obtain⟨o',v',c',n',e',_,d',j1,j2⟩:=hy
 rw[e]at e';cases e'
 rw[d]at d';cases d'
 exact Prod.ext (knd.inj _ _ _ i1 j1) (i2.inj j2)
theorem eW.stay{h h':Heap}{k:κ×List κ}{a d:Addr}{o:Obj}{es:Array DictEntry}{ep:Nat}(x:eW knd h k a)(ho:h.get? d=some o)(hd:o.data= .dict es ep)(hs:Heap.SameBut d h h'):eW knd h' k a:=by
 obtain⟨o',v,c,n,e,cl,dt,i1,i2⟩:=x
 have na:a≠d:= λz=>by rw[z,ho]at e;cases e;rw[hd]at dt;cases dt
 exact⟨o',v,c,n,(hs.2 a na).trans e,cl,dt,i1,i2.keeps ho hd hs⟩
def qO(knd:PySem.KeyKind P w κ)(k:κ×List κ):Int:=reduceHash (Builtin.Tuple.tupleHashOf [knd.hash k.1,tupleKeyHash knd k.2])
theorem zbK{k:κ×List κ}{a:Addr}{Q:Int->Shared->Prop}(hu:A.units+1<cLine)(hk:eW knd s.heap k a)(q:Q (qO knd k) {s with toks:=s.toks+(k.2.length+3)}):wpAny (model P w) A (pyHash (.ref a)) Q E s:=by
 have ty:=hk.ty
 obtain⟨o,v,c,n,e,_,d,i1,i2⟩:=hk
 show wpAny _ _ (pyHashByItsType (.ref a)) Q E s
 unfold pyHashByItsType
 refine wpAny_bind (wpAny_cRoomFor_or (.inr (by omega)) ?_)
 refine wpAny_bind (wpAny_specialOf ty PySem.F.slot_tuple_hash.lookup ?_)
 rw[if_neg (by rw[beq_builtin_none];exact Bool.false_ne_true)]
 refine wpAny_bind (wpAny_specialOf ty PySem.F.slot_tuple_hash.lookup ?_)
 show wpAny _ _ (callSpecialIfBoundUnlessNone? (.ref a) "__hash__" _>>=_) Q E s
 refine wpAny_bind (wpAny_callSpecialIfBoundUnlessNone?_slot ty PySem.F.slot_tuple_hash (wpAny_call_entry PySem.F.slot_tuple_hash ty PySem.F.entry_tuple_hash ?_ (PySem.F.args_tuple_hash_1 _)))
 show wpAny _ _ (Builtin.Tuple.tupleItemsOf (.ref a)>>=_) _ _ s
 refine wpAny_bind (wpAny_tupleItemsOf e d (wpAny_bind ?_))
 rw[<-Array.forIn_toList]
 show wpAny _ _ (forIn [v,.ref c] _ _) _ _ s
 rw[List.forIn_cons]
 refine wpAny_bind (wpAny_bind (knd.pyHash i1 ?_))
 refine wpAny_pure ?_
 show wpAny _ _ (forIn [Value.ref c] _ _) _ _ _
 rw[List.forIn_cons]
 refine wpAny_bind (wpAny_bind (wpAny_pyHash_tuple (tupleKind_room_in1 (knd:=knd) hu) i2 (wpAny_pure ?_)))
 show wpAny _ _ (forIn ([]:List Value) _ _) _ _ _
 rw[List.forIn_nil]
 refine wpAny_pure ?_
 show wpAny _ _ (retInt (Builtin.Tuple.tupleHashOf [knd.hash k.1,tupleKeyHash knd k.2])) _ _ _
 refine wpAny_ret_mkInt ?_
 unfold qO reduceHash at q
 show wpAny _ _ (if(decide (-(2:Int)^63<=Builtin.Tuple.tupleHashOf [knd.hash k.1,tupleKeyHash knd k.2])&&decide (Builtin.Tuple.tupleHashOf [knd.hash k.1,tupleKeyHash knd k.2]<2^63))=true then _ else _) Q E _
 generalize Builtin.Tuple.tupleHashOf [knd.hash k.1,tupleKeyHash knd k.2]=z at q ⊢
 have et:s.toks+1+(k.2.length+1)+1=s.toks+(k.2.length+3):=by omega
 split
 . rename_i h
   rw[if_pos h]at q;exact wpAny_pure (by simpa [et]using q)
 . rename_i h
   rw[if_neg h]at q;exact wpAny_bind (wpAny_rule (wpAny_pure (by simpa [et]using q)))
theorem uV{x y:κ×List κ}{a b:Addr}{R:Fin->Shared->Prop}(hu:A.units<cLine)(hx:eW knd s.heap x a)(hy:eW knd s.heap y b)(q:R (.done (.ret (.bool (decide (x=y))))) s):
 wpAny (model P w) A (Builtin.«tuple.__eq__» ⟨[.ref a,.ref b],[]⟩) R E s:=by
 have ty:=hy.ty
 obtain⟨o,v,c,n,e,_,d,i1,i2⟩:=hx
 obtain⟨o',v',c',n',e',_,d',j1,j2⟩:=hy
 show wpAny _ _ (isInstance (.ref b) (.type "tuple")>>=_) _ _ s
 refine wpAny_bind (wpAny_isInstance ty isSubtype_tuple_tuple ?_)
 simp only[Bool.not_true,Bool.false_eq_true,if_false]
 refine wpAny_bind (wpAny_tupleItemsOf e d (wpAny_bind (wpAny_tupleItemsOf e' d' (wpAny_bind ?_))))
 show wpAny _ _ (forIn [(v,v'),(Value.ref c,Value.ref c')] _ _) _ _ s
 rw[List.forIn_cons]
 refine wpAny_bind (wpAny_bind (knd.eqBool i1 j1 ?_))
 by_cases h1:x.1=y.1
 . rw[decide_eq_true h1];refine wpAny_pure ?_;show wpAny _ _ (forIn [(Value.ref c,Value.ref c')] _ _) _ _ _;rw[List.forIn_cons];refine wpAny_bind (wpAny_bind (wpAny_eqBool_tuple hu i2 j2 ?_))
   by_cases h2:x.2=y.2
   . rw[decide_eq_true h2];refine wpAny_pure ?_;show wpAny _ _ (forIn ([]:List (Value×Value)) _ _) _ _ _;rw[List.forIn_nil];refine wpAny_pure (wpAny_pure ?_);rw[decide_eq_true (Prod.ext h1 h2)]at q;exact q
   . rw[decide_eq_false h2];rw[decide_eq_false (λz=>h2 (congrArg Prod.snd z))]at q;exact wpAny_bind (wpAny_pure (wpAny_pure (wpAny_pure (wpAny_pure q))))
 . rw[decide_eq_false h1];rw[decide_eq_false (λz=>h1 (congrArg Prod.fst z))]at q;exact wpAny_bind (wpAny_pure (wpAny_pure (wpAny_pure (wpAny_pure q))))
theorem zgt{x y:κ×List κ}{a b:Addr}{Q:Bool->Shared->Prop}(hu:A.units+1<cLine)(hx:eW knd s.heap x a)(hy:eW knd s.heap y b)(q:Q (decide (x=y)) s):wpAny (model P w) A (eqBool (.ref a) (.ref b)) Q E s:=by
 unfold eqBool
 try with_reducible refine wpAny_holding ?_
 refine wpAny_ite_split (λsB=> ?_) (λ_=> ?_)
 . have e:a=b:=by have:=eq_of_beq sB;injection this
   subst e;rw[hx.one hy,decide_eq_true rfl]at q;exact wpAny_bind (wpAny_rule (wpAny_pure q))
 . exact wpAny_bind (wpAny_richCompare_same_room (op:= .Eq) hx.ty hy.ty PySem.F.slot_tuple_eq
    (wpAny_call_entry PySem.F.slot_tuple_eq hx.ty PySem.F.entry_tuple_eq (uV (tupleKind_room_in1 (knd:=knd) hu) hx hy ⟨_,rfl,(λz=>nomatch z),wpAny_truthy_bool q⟩) (PySem.F.args_tuple_eq_2 _ _)) (by omega))
theorem zV{n:Nat}{ks:List κ}{a:Addr}{Q:Bool->Shared->Prop}(hk:IsTupleKey knd s.heap ks a)(q:Q true s):wpAny (model P w) A (eqIsQuiet (n+1) (.ref a)) Q E s:=by
 have ty:=hk.typeIs
 obtain⟨o,bC,m,e,_,d,i⟩:=hk
 unfold eqIsQuiet
 refine wpAny_bind (wpAny_specialOf ty PySem.F.slot_tuple_eq.lookup ?_)
 show wpAny _ _ (isInstance (.ref a) (.type "tuple")>>=_) _ _ s
 refine wpAny_bind (wpAny_isInstance ty isSubtype_tuple_tuple ?_)
 simp only[Bool.not_true,Bool.false_eq_true,if_false]
 refine wpAny_bind (wpAny_seqItems e d (wpAny_bind ?_))
 show wpAny _ _ (forIn bC _ _) _ _ s
 rw[<-Array.forIn_toList]
 refine wpAny_forIn_list _ (λl r s'=>(r.1=none/\s'=s)/\ ∀v∈l,carriedByValue v=true) _ ?_ ?_ _ _ ⟨⟨rfl,rfl⟩,i.byValue⟩
 . rintro v l r s' ⟨⟨h1,rfl⟩,h3⟩;rw[eqIsQuiet_byValue _ (h3 v List.mem_cons_self)];exact wpAny_bind (wpAny_pure (wpAny_pure ⟨⟨rfl,rfl⟩,λu hu=>h3 u (List.mem_cons_of_mem _ hu)⟩))
 . rintro⟨r1,r2⟩ s' ⟨⟨h1,rfl⟩,_⟩;cases(show r1=none from h1);exact wpAny_pure q
theorem zI{k:κ×List κ}{a:Addr}{Q:Bool->Shared->Prop}(hk:eW knd s.heap k a)(q:Q true s):wpAny (model P w) A (eqIsQuiet 8 (.ref a)) Q E s:=by
 have ty:=hk.ty
 obtain⟨o,v,c,n,e,_,d,i1,i2⟩:=hk
 unfold eqIsQuiet
 refine wpAny_bind (wpAny_specialOf ty PySem.F.slot_tuple_eq.lookup ?_)
 show wpAny _ _ (isInstance (.ref a) (.type "tuple")>>=_) _ _ s
 refine wpAny_bind (wpAny_isInstance ty isSubtype_tuple_tuple ?_)
 simp only[Bool.not_true,Bool.false_eq_true,if_false]
 refine wpAny_bind (wpAny_seqItems e d (wpAny_bind ?_))
 show wpAny _ _ (forIn #[v,.ref c] _ _) _ _ s
 rw[<-Array.forIn_toList]
 show wpAny _ _ (forIn [v,.ref c] _ _) _ _ s
 rw[List.forIn_cons,eqIsQuiet_byValue _ (knd.byValue _ _ i1)]
 refine wpAny_bind (wpAny_bind (wpAny_pure (wpAny_pure ?_)))
 show wpAny _ _ (forIn [Value.ref c] _ _) _ _ s
 rw[List.forIn_cons]
 refine wpAny_bind (wpAny_bind (zV i2 (wpAny_pure ?_)))
 show wpAny _ _ (forIn ([]:List Value) _ _) _ _ s
 rw[List.forIn_nil]
 exact wpAny_pure (wpAny_pure q)
end
def gD{P:Program}{w:World}{κ:Type} [DecidableEq κ](knd:PySem.KeyKind P w κ):PySem.HeapKind P w (κ×List κ) where
 is:=eW knd
 hash:=qO knd
 draws:= λk=>k.2.length+3
 room:= λA=>A.units+1<cLine
 inj:= λhx hy=>hx.one hy
 keeps:= λx ho hd hs=>x.stay ho hd hs
 pyHash:= λhu hk h=>zbK hu hk h
 eqBool:= λhu hx hy h=>zgt hu hx hy h
 quiet:= λhk h=>zI hk h
inductive NK where
 |b (x:Bool)|i (x:Int)|p (xs:List Int)|n (x:Int) (ys:List Int)
 deriving DecidableEq
inductive NM where
 |b|i|p|n
def NK.md:NK->NM
 | .b _=> .b
 | .i _=> .i
 | .p _=> .p
 | .n _ _=> .n
def dQ(H:Hp)(v:V):NK->Prop
 | .b x=>v= .bl x
 | .i x=>v= .int x
 | .p xs=> ∃a,v= .ref a/\H a=some (.tup (xs.map V.int))
 | .n x ys=> ∃a c,v= .ref a/\H a=some (.tup [.int x,.ref c])/\H c=some (.tup (ys.map V.int))
abbrev e9(H H':Hp):Prop:= ∀b xs,H b=some (.tup xs)->H' b=some (.tup xs)
theorem dQ.keep{H H':Hp}{v:V}{k:NK}(h:dQ H v k)(t:e9 H H'):dQ H' v k:=by
 cases k with
 |b x=>exact h
 |i x=>exact h
 |p xs=>obtain⟨a,e,z⟩:=h;exact⟨a,e,t _ _ z⟩
 |n x ys=>obtain⟨a,c,e,z,y⟩:=h;exact⟨a,c,e,t _ _ z,t _ _ y⟩
def nkk(x:Int)(ys:List Int):cB×List cB:=(.inl x,ys.map .inl)
theorem kN: ∀{xs ys:List Int},xs.map (Sum.inl:Int->cB)=ys.map Sum.inl->xs=ys
 | [],[],_=>rfl
 | [],_::_,h=>by cases h
 |_::_,[],h=>by cases h
 |x::xs,y::ys,h=>by
  injection h with h1 h2
  injection h1 with h1
  rw[h1,kN h2]
theorem zaU{x x':Int}{ys sL:List Int}(h:nkk x ys=nkk x' sL):x=x'/\ys=sL:=by
 obtain⟨h1,h2⟩:=Prod.mk.inj h
 injection h1 with h1
 exact⟨h1,kN h2⟩
theorem mH(ys:List Int):(ys.map (Sum.inl:Int->cB)).map kV=ys.map V.int:=by rw[List.map_map];rfl
section
variable {α β:Type} [DecidableEq α] [DecidableEq β]
theorem fL{f:α->β}(hf: ∀x y,f x=f y->x=y)(k:α): ∀ks:List (α×V),dI (ks.map λq=>(f q.1,q.2)) (f k)=dI ks k
 | []=>rfl
 |q::ks=>by
  rw[List.map_cons]
  by_cases e:q.1=k
  . rw[gE e,gE (show f q.1=f k by rw[e])]
  . rw[fI e,fI (show ¬f q.1=f k from λz=>e (hf _ _ z))];exact fL hf k ks
theorem mU{f:α->β}(hf: ∀x y,f x=f y->x=y)(k:α)(v:V)(ks:List (α×V)):gP (ks.map λq=>(f q.1,q.2)) (f k) v=(gP ks k v).map λq=>(f q.1,q.2):=by
 unfold gP
 rw[jD,jD,fL hf]
 split
 . rw[List.map_map,List.map_map];refine List.map_congr_left λq _=> ?_;show(if f q.1=f k then(f q.1,v)else(f q.1,q.2))=(λq=>(f q.1,q.2)) (if q.1=k then(q.1,v)else q)
   by_cases e:q.1=k
   . rw[if_pos e,if_pos (by rw[e])]
   . rw[if_neg e,if_neg (λz=>e (hf _ _ z))]
 . rw[List.map_append];rfl
end
variable {P:Program}{w:World}
def DB(P:Program)(w:World)(a:Addr)(kvs:List (Bool×V)):HO:= .ext λh=>(kvs.length<=sizeLine/\(a==sysModules)=false)/\ ∃vs,KV kvs vs/\h.DictOf (jF P w) a vs
def DNs(P:Program)(w:World)(a:Addr)(xs:List ((cB×List cB)×Addr×Value)):HO:= .ext λh=>(xs.length<=sizeLine/\(a==sysModules)=false)/\ ∃o es ep,h.get? a=some o/\o.ExactDict/\o.data= .dict es ep/\es.toList=xs.map (entryOfKey (gD (aV P w)))/\(xs.map (·.1)).Nodup
theorem ziu{H:Hp}{h:Heap}{a:Addr}{kvs:List (Bool×V)}(h1:kvs.length<=sizeLine/\(a==sysModules)=false)(h2: ∃vs,KV kvs vs/\h.DictOf (jF P w) a vs):cP P w H h a (DB P w a kvs):=by
 refine⟨⟨h1,h2⟩,?_,λg g' ⟨q,vs,r,o,es,ep,e,c⟩ k=>⟨q,vs,r,o,es,ep,k o e,c⟩⟩
 obtain⟨vs,_,o,_,_,e,_⟩:=h2
 exact⟨o,e⟩
theorem zfc{H:Hp}{h:Heap}{a:Addr}{xs:List ((cB×List cB)×Addr×Value)}(h1:xs.length<=sizeLine/\(a==sysModules)=false)
 (h2: ∃o es ep,h.get? a=some o/\o.ExactDict/\o.data= .dict es ep/\es.toList=xs.map (entryOfKey (gD (aV P w)))/\(xs.map (·.1)).Nodup):cP P w H h a (DNs P w a xs):=by
 refine⟨⟨h1,h2⟩,?_,λg g' ⟨q,o,es,ep,e,c⟩ k=>⟨q,o,es,ep,k o e,c⟩⟩
 obtain⟨o,_,_,e,_⟩:=h2
 exact⟨o,e⟩
abbrev KN(H:Hp):List (NK×V)->List ((cB×List cB)×Addr×Value)->Prop:=Paired λp q=> ∃x ys,p.1= .n x ys/\q.1=nkk x ys/\dQ H (.ref q.2.1) p.1/\bA p.2 q.2.2
theorem KN.val{H:Hp}{kvs:List (NK×V)}{xs:List ((cB×List cB)×Addr×Value)}(r:KN H kvs xs)(x:Int)(ys:List Int):jX (dI kvs (.n x ys)) ((atKey xs (nkk x ys)).map (·.2)):=by
 induction r with
 |nil=>exact True.intro
 | @cons p q ps qs h t ih=>
  obtain⟨x',sL,h1,h2,_,h3⟩:=h
  by_cases e:p.1= .n x ys
  . rw[h1]at e;injection e with e1 e2
    have e':q.1=nkk x ys:=by rw[h2,e1,e2]
    rw[gE (show p.1= .n x ys by rw[h1,e1,e2]),show atKey (q::qs) (nkk x ys)=some q.2 by simp[atKey,List.find?_cons,e']];exact h3
  . have e': ¬q.1=nkk x ys:= λz=>e (by rw[h2]at z;obtain⟨z1,z2⟩:=zaU z;rw[h1,z1,z2]);rw[fI e,show atKey (q::qs) (nkk x ys)=atKey qs (nkk x ys) by simp[atKey,List.find?_cons,e']];exact ih
theorem KN.put{H:Hp}{kvs:List (NK×V)}{xs:List ((cB×List cB)×Addr×Value)}(r:KN H kvs xs){x:Int}{ys:List Int}{b:Addr}{y:V}{u:Value}(hb:dQ H (.ref b) (.n x ys))(ry:bA y u):KN H (gP kvs (.n x ys) y) (storedH xs (nkk x ys) b u):=by
 have e:(kvs.any λkv=>decide (kv.1=NK.n x ys))=(atKey xs (nkk x ys)).isSome:=by
  rw[jD,(r.val x ys).isSome_eq,Option.isSome_map]
 unfold gP storedH
 rw[e]
 split
 . rename_i e'
   clear e e'
   induction r with
   |nil=>exact .nil
   | @cons p q ps qs h t ih=>
    obtain⟨x',sL,h1,h2,h3,h4⟩:=h;refine .cons ?_ ih;unfold putAt;dsimp only
    by_cases e:p.1= .n x ys
    . have e1:=e;rw[h1]at e1;injection e1 with z1 z2
      rw[if_pos e,if_pos (by rw[h2,z1,z2])];exact⟨x',sL,h1,h2,h3,ry⟩
    . rw[if_neg e,if_neg (λz=>e (by rw[h2]at z;obtain⟨z1,z2⟩:=zaU z;rw[h1,z1,z2]))];exact⟨x',sL,h1,h2,h3,h4⟩
 . exact Paired.snoc r ⟨x,ys,rfl,rfl,hb,ry⟩
def ND(P:Program)(w:World)(m:NM)(H:Hp)(a:Addr)(kvs:List (NK×V)):Prop:=match m with
 | .b=> ∃ks:List (Bool×V),kvs=ks.map (λq=>(.b q.1,q.2))/\H a=some (DB P w a ks)
 | .i=> ∃ks:List (Int×V),kvs=ks.map (λq=>(.i q.1,q.2))/\H a=some (.dK (ks.map λq=>(.inl q.1,q.2)))
 | .p=> ∃ks:List (List Int×V),kvs=ks.map (λq=>(.p q.1,q.2))/\H a=some (.dT (ks.map λq=>(q.1.map .inl,q.2)))
 | .n=> ∃xs,KN H kvs xs/\H a=some (DNs P w a xs)
def ndO(P:Program)(w:World)(a:Addr):NM->HO
 | .b=>DB P w a []
 | .i=> .dK []
 | .p=> .dT []
 | .n=>DNs P w a []
section
variable {m:NM}{H H':Hp}{a:Addr}{kvs:List (NK×V)}
theorem ND.some(h:ND P w m H a kvs): ∃o,H a=some o/\(∀ys,o≠ .lst ys)/\(∀ys,o≠ .tup ys)/\Mut (Option.some o):=by
 cases m with
 |b=>obtain⟨ks,_,e⟩:=h;exact⟨_,e,(λ_ z=>nomatch z),(λ_ z=>nomatch z),trivial⟩
 |i=>obtain⟨ks,_,e⟩:=h;exact⟨_,e,(λ_ z=>nomatch z),(λ_ z=>nomatch z),trivial⟩
 |p=>obtain⟨ks,_,e⟩:=h;exact⟨_,e,(λ_ z=>nomatch z),(λ_ z=>nomatch z),trivial⟩
 |n=>obtain⟨ks,_,e⟩:=h;exact⟨_,e,(λ_ z=>nomatch z),(λ_ z=>nomatch z),trivial⟩
theorem ND.keep(h:ND P w m H a kvs)(t:e9 H H')(ha: ∀o,H a=Option.some o->H' a=Option.some o):ND P w m H' a kvs:=by
 cases m with
 |b=>obtain⟨ks,q,e⟩:=h;exact⟨ks,q,ha _ e⟩
 |i=>obtain⟨ks,q,e⟩:=h;exact⟨ks,q,ha _ e⟩
 |p=>obtain⟨ks,q,e⟩:=h;exact⟨ks,q,ha _ e⟩
 |n=>obtain⟨xs,r,e⟩:=h;exact⟨xs,Paired.mapP r λp q ⟨x,ys,h1,h2,h3,h4⟩=>⟨x,ys,h1,h2,h3.keep t,h4⟩,ha _ e⟩
theorem ND.same(h:ND P w m H a kvs)(t:Same H H'):ND P w m H' a kvs:=h.keep (λb xs e=>t b _ e) λo e=>t a o e
end
section
variable {X:Cx}{aA:List (Addr×Obj)}{σ:St}{H:Hp}{s:Shared}{a:Addr}{y v:V}{u r:Value}{o:Option V}{A:Around}{E:Value->Shared->Prop}{m:NM}{kvs:List (NK×V)}{k:NK}
theorem dQ.nest{x:Int}{ys:List Int}{b:Addr}(I:aM X aA σ H s)(h:dQ H (.ref b) (.n x ys)):(gD (aV X.prog X.w)).is s.heap (nkk x ys) b:=by
 obtain⟨a,c,e,h1,h2⟩:=h
 cases e
 obtain⟨_,bC,r,o,e1,e2,n,e3⟩:=I.hok _ _ h1
 obtain⟨u1,u2,eu,r1,r2⟩:=bK.two r
 obtain⟨t,r1⟩:=r1
 cases r2
 rw[eu]at e3
 refine⟨o,u1,c,n,e1,e2,e3,?_,jJ I.hok (show H c=some (.tup ((ys.map (Sum.inl:Int->cB)).map kV)) by rw[mH];exact h2)⟩
 rw[r1]
 exact oJ _ _ x t
theorem zav{xs:List ((cB×List cB)×Addr×Value)}(I:aM X aA σ H s)(r:KN H kvs xs)(e:H a=some (DNs X.prog X.w a xs)):(xs.length<=sizeLine/\(a==sysModules)=false)/\s.heap.DictOfH (gD (aV X.prog X.w)) a xs:=by
 obtain⟨⟨q,o,es,ep,h1,h2,h3,h4,h5⟩,z0⟩:=I.hok _ _ e
 refine⟨q,o,es,ep,h1,h2,h3,h4,?_,h5⟩
 clear h4 h5 q e z0
 induction r with
 |nil=>intro z hz;cases hz
 | @cons p q ps qs h t ih=>
  obtain⟨x,ys,z1,z2,z3,_⟩:=h;intro z hz
  rcases List.mem_cons.mp hz with e|hz
  . rw[e,z2];rw[z1]at z3;exact z3.nest I
  . exact ih z hz
theorem ND.get(h:ND X.prog X.w m H a kvs)(hk:dQ H y k)(hm:k.md=m)(hi:m= .i\/m= .p):mB H a y (dI kvs k):=by
 subst hm
 cases k with
 |b x=>rcases hi with z|z<;>cases z
 |n x ys=>rcases hi with z|z<;>cases z
 |i x=>
  obtain⟨ks,rfl,e⟩:=h;cases hk;have:=mB.k (k:= .inl x) e;rw[fL (f:=(Sum.inl:Int->cB)) (λ_ _ z=>by injection z)]at this;rw[fL (f:=NK.i) (λ_ _ z=>by injection z)];exact this
 |p xs=>
  obtain⟨ks,rfl,e⟩:=h;obtain⟨b,rfl,eb⟩:=hk;have:=mB.t (k:=xs.map .inl) e (by rw[mH];exact eb);rw[fL (f:= λl:List Int=>l.map (Sum.inl:Int->cB)) (λ_ _ z=>kN z)]at this;rw[fL (f:=NK.p) (λ_ _ z=>by injection z)];exact this
theorem znZ{Q:Value->Shared->Prop}(hu:A.units+2<cLine)(I:aM X aA σ H s)(g:ND X.prog X.w m H a kvs)(hk:dQ H y k)(hm:k.md=m)(ry:bA y u)(h: ∀s',aM X aA σ H s'->Q (.bool (dI kvs k).isSome) s'):wpAny (model X.prog X.w) A (compareOp .In u (.ref a)) Q E s:=by
 subst hm
 cases k with
 |i x=>exact zmU (by omega) I (ND.get g hk rfl (.inl rfl)) ry h
 |p x=>exact zmU (by omega) I (ND.get g hk rfl (.inr rfl)) ry h
 |b x=>
  obtain⟨ks,rfl,e⟩:=g;cases hk;cases ry;obtain⟨⟨⟨z,hd⟩,vs,jI,dd⟩,_⟩:=I.hok _ _ e;refine wpAny_in_of (knd:=jF X.prog X.w) (k:=x) (decide_eq_true rfl) hd dd.mapOf ?_;rw[<-(jI.val x).isSome_eq,<-fL (f:=NK.b) (λ_ _ z=>by injection z)];exact h _ (I.tok _)
 |n x ys=>
  obtain⟨xs,r,e⟩:=g;obtain⟨b,c,rfl,h1,h2⟩:=id hk;cases ry;obtain⟨⟨z,hd⟩,dd⟩:=zav I r e;refine wpAny_in_heap (knd:=gD (aV X.prog X.w)) (show A.units+1+1<cLine by omega) (dQ.nest I hk) hd dd ?_;have q:=(r.val x ys).isSome_eq;rw[Option.isSome_map]at q;rw[<-q];exact h _ (I.tok _)
theorem zfQ{Q:Value->Shared->Prop}(hu:A.units+2<cLine)(I:aM X aA σ H s)(g:ND X.prog X.w m H a kvs)(hk:dQ H y k)(hm:k.md=m)(ry:bA y u)(h: ∀s',aM X aA σ H s'->Q (.bool (!(dI kvs k).isSome)) s'):wpAny (model X.prog X.w) A (compareOp .NotIn u (.ref a)) Q E s:=by
 subst hm
 cases k with
 |i x=>exact zbs (by omega) I (ND.get g hk rfl (.inl rfl)) ry h
 |p x=>exact zbs (by omega) I (ND.get g hk rfl (.inr rfl)) ry h
 |b x=>
  obtain⟨ks,rfl,e⟩:=g;cases hk;cases ry;obtain⟨⟨⟨z,hd⟩,vs,jI,dd⟩,_⟩:=I.hok _ _ e;refine wpAny_notIn_of (knd:=jF X.prog X.w) (k:=x) (decide_eq_true rfl) hd dd.mapOf ?_;rw[<-(jI.val x).isSome_eq,<-fL (f:=NK.b) (λ_ _ z=>by injection z)];exact h _ (I.tok _)
 |n x ys=>
  obtain⟨xs,r,e⟩:=g;obtain⟨b,c,rfl,h1,h2⟩:=id hk;cases ry;obtain⟨⟨z,hd⟩,dd⟩:=zav I r e;refine wpAny_notIn_heap (knd:=gD (aV X.prog X.w)) (show A.units+1+1<cLine by omega) (dQ.nest I hk) hd dd ?_;have q:=(r.val x ys).isSome_eq;rw[Option.isSome_map]at q;rw[<-q];exact h _ (I.tok _)
theorem w8{Q:Value->Shared->Prop}(hu:A.units+2<cLine)(I:aM X aA σ H s)(g:ND X.prog X.w m H a kvs)(hk:dQ H y k)(hm:k.md=m)(hv:dI kvs k=some v)(ry:bA y u)(h: ∀w' s',aM X aA σ H s'->bA v w'->Q w' s'):s.TypeIs (.ref a) "dict" /\wpAny (model X.prog X.w) A (getItem (.ref a) u) Q E s:=by
 subst hm
 cases k with
 |i x=>
  have d:=ND.get g hk rfl (.inl rfl);rw[hv]at d;exact⟨oN I d,sZ (by omega) I d ry h⟩
 |p x=>
  have d:=ND.get g hk rfl (.inr rfl);rw[hv]at d;exact⟨oN I d,sZ (by omega) I d ry h⟩
 |b x=>
  obtain⟨ks,rfl,e⟩:=g;cases hk;cases ry;obtain⟨⟨⟨z,hd⟩,vs,jI,dd⟩,_⟩:=I.hok _ _ e;rw[fL (f:=NK.b) (λ_ _ z=>by injection z)]at hv;obtain⟨w',hw,xD⟩:=jX.some_of (v:=v) (o:=valueAt vs x) (by rw[<-hv];exact jI.val x);exact⟨dd.typeIs,wpAny_getItem_of (knd:=jF X.prog X.w) (k:=x) (decide_eq_true rfl) dd.mapOf hw (h w' _ (I.tok _) xD)⟩
 |n x ys=>
  obtain⟨xs,r,e⟩:=g;obtain⟨b,c,rfl,h1,h2⟩:=id hk;cases ry;obtain⟨⟨z,hd⟩,dd⟩:=zav I r e;obtain⟨w',hw,xD⟩:=jX.some_of (v:=v) (o:=(atKey xs (nkk x ys)).map (·.2)) (by rw[<-hv];exact r.val x ys);obtain⟨p,hp,hp2⟩:=Option.map_eq_some_iff.mp hw;refine⟨dd.typeIs,wpAny_getItem_heap (knd:=gD (aV X.prog X.w)) (show A.units+1+1<cLine by omega) (dQ.nest I hk) dd hp ?_⟩;rw[hp2];exact h w' _ (I.tok _) xD
theorem yM{Q:Unit->Shared->Prop}(hu:A.units+2<cLine)(I:aM X aA σ H s)(g:ND X.prog X.w m H a kvs)(hk:dQ H y k)(hm:k.md=m)(hl:kvs.length<sizeLine)(ry:bA y u)(rv:bA v r)
 (h: ∀ob s',ND X.prog X.w m (aN H a ob) a (gP kvs k v)->aM X aA σ (aN H a ob) s'->Q () s'):wpAny (model X.prog X.w) A (setItem (.ref a) u r) Q E s:=by
 subst hm
 have tk: ∀ob,e9 H (aN H a ob):= λob b xs e=>by
  obtain⟨o,ho,_,nt,_⟩:=g.some;rw[aD (cK e ho (λz=>nt xs z.symm))];exact e
 cases k with
 |i x=>
  obtain⟨ks,rfl,e⟩:=g;cases hk;rw[bH]at hl;refine sN (by omega) I (zB.k (k:= .inl x) e (by rw[bH];exact hl)) ry rv λs' I'=>h _ s' ?_ I';rw[mU (f:=(Sum.inl:Int->cB)) (λ_ _ z=>by injection z),mU (f:=NK.i) (λ_ _ z=>by injection z)];exact⟨_,rfl,aG⟩
 |p x=>
  obtain⟨ks,rfl,e⟩:=g;obtain⟨b,rfl,eb⟩:=hk;rw[bH]at hl;refine sN (by omega) I (zB.t (k:=x.map .inl) e (by rw[mH];exact eb) (by rw[bH];exact hl)) ry rv λs' I'=>h _ s' ?_ I';rw[mU (f:= λl:List Int=>l.map (Sum.inl:Int->cB)) (λ_ _ z=>kN z),mU (f:=NK.p) (λ_ _ z=>by injection z)];exact⟨_,rfl,aG⟩
 |b x=>
  obtain⟨ks,rfl,e⟩:=g;cases hk;cases ry;rw[bH]at hl;obtain⟨⟨⟨z,hd⟩,vs,jI,dd⟩,_⟩:=I.hok _ _ e;have hz:(gP ks x v).length<=sizeLine:=by have:=iO ks x v;omega
  refine wpAny_setItem_pairs (knd:=jF X.prog X.w) (k:=x) (hsz:=by rw[<-jI.length];exact z) (decide_eq_true rfl) dd λh' dd' hs=>h (DB X.prog X.w a (gP ks x v)) _ ?_ (kZ I (by rw[e];exact True.intro) hs (let⟨q,_,_,hq,_⟩:=dd';⟨q,hq⟩) (ziu ⟨hz,hd⟩ ⟨_,jI.put x rv,dd'⟩));rw[mU (f:=NK.b) (λ_ _ z=>by injection z)];exact⟨_,rfl,aG⟩
 |n x ys=>
  obtain⟨xs,r,e⟩:=g;obtain⟨b,c,rfl,h1,h2⟩:=id hk;cases ry;obtain⟨⟨z,hd⟩,dd⟩:=zav I r e;have rl:=Paired.length r;refine wpAny_setItem_heap (hsz:=z) (knd:=gD (aV X.prog X.w)) (show A.units+1+1<cLine by omega) (dQ.nest I hk) dd λh' dd' hs=> ?_;have rp:=r.put hk rv;have lp:=iO kvs (NK.n x ys) v;have l2:=Paired.length rp;obtain⟨q,es,ep,hq,c2,c3,c4,_,c5⟩:=dd';refine h (DNs X.prog X.w a (storedH xs (nkk x ys) b _)) _ ⟨_,Paired.mapP rp λp q ⟨x,ys,z1,z2,z3,z4⟩=>⟨x,ys,z1,z2,z3.keep (tk _),z4⟩,aG⟩ (kZ I (by rw[e];exact True.intro) hs ⟨q,hq⟩ (zfc ⟨by omega,hd⟩ ⟨q,es,ep,hq,c2,c3,c4,c5⟩))
end
end L2
namespace L2
open PySem PySem.Spec PyProof.Rows
variable {X:Cx}{prog:Program}{A:Around}{E:Value->Shared->Prop}{s:Shared}
theorem kC{A:Around}{k:Nat}(hr:eK k A):A.units+2<cLine:=Nat.lt_of_le_of_lt (Nat.add_le_add_left (by decide:2<=64) _) hr.units
section
variable (P:Program)(w:World)
def zjv(ty td:TE):TE:= λσ H Q=>ty σ H λy H1=>td σ H1 λx H2=> ∃a m kvs k,x= .ref a/\ND P w m H2 a kvs/\dQ H2 y k/\k.md=m/\Q (.bl (dI kvs k).isSome) H2
def znE(ty td:TE):TE:= λσ H Q=>ty σ H λy H1=>td σ H1 λx H2=> ∃a m kvs k,x= .ref a/\ND P w m H2 a kvs/\dQ H2 y k/\k.md=m/\Q (.bl (!(dI kvs k).isSome)) H2
def zom(td ty:TE):TE:= λσ H Q=>td σ H λx H1=>ty σ H1 λy H2=> ∃a m kvs k v,x= .ref a/\ND P w m H2 a kvs/\dQ H2 y k/\k.md=m/\dI kvs k=some v/\Q v H2
def zmY(td ty tv:TE):TS:= λD σ H=>tv σ H λv H1=>td σ H1 λx H2=>ty σ H2 λy H3=> ∃a m kvs k,x= .ref a/\ND P w m H3 a kvs/\dQ H3 y k/\k.md=m/\kvs.length<sizeLine/\ ∀ob,ND P w m (aN H3 a ob) a (gP kvs k v)->D.nx σ (aN H3 a ob)
def zsO(m:NM)(tk tv:TE):TE:= λσ H Q=> ∀p,H p=none->tk σ (aN H p (ndO P w p m)) λx H1=>tv σ H1 λy H2=> ∃k,dQ H2 x k/\k.md=m/\(m= .i\/m= .p)/\H2 p=some (ndO P w p m)/\ ∀ob,ND P w m (aN H2 p ob) p [(k,y)]->Q (.ref p) (aN H2 p ob)
end
section
variable {o i e value:Expr}{pos pQ oT:Pos}{td ty tv tk:TE}{m:NM}
theorem zjY(hu:X.A.units+2<cLine)(hi:PE X i ty)(ho:PE X o td):PC X .In i o (zjv X.prog X.w ty td):=by
 intro aA s σ H Q I h
 refine cH (hi aA s σ H _ I h) λiv s1 ⟨y,H1,I1,ry,q1⟩=>cH (ho aA s1 σ H1 _ I1 q1) λu s2 ⟨x,H2,I2,rx,a,m,kvs,k,ex,g,hk,hm,q2⟩=> ?_
 subst ex
 cases rx
 exact znZ hu I2 g hk hm ry λs3 I3=>⟨.bl (dI kvs k).isSome,H2,I3,rfl,q2⟩
theorem vT(hu:X.A.units+2<cLine)(hi:PE X i ty)(ho:PE X o td):PC X .NotIn i o (znE X.prog X.w ty td):=by
 intro aA s σ H Q I h
 refine cH (hi aA s σ H _ I h) λiv s1 ⟨y,H1,I1,ry,q1⟩=>cH (ho aA s1 σ H1 _ I1 q1) λu s2 ⟨x,H2,I2,rx,a,m,kvs,k,ex,g,hk,hm,q2⟩=> ?_
 subst ex
 cases rx
 exact zfQ hu I2 g hk hm ry λs3 I3=>⟨.bl (!(dI kvs k).isSome),H2,I3,rfl,q2⟩
theorem zgQ(hu:X.A.units+2<cLine)(ho:PE X o td)(hi:PE X i ty)(hs:zqz i):PE X (.Subscript o i pos) (zom X.prog X.w td ty):=by
 intro aA s σ H Q I h
 refine zgu PySem.F.slot_dict_getitem.lookup hs (cH (ho aA s σ H _ I h) λu s1 ⟨x,H1,I1,rx,q1⟩=>cH (hi aA s1 σ H1 _ I1 q1) λiv s2 ⟨y,H2,I2,ry,a,m,kvs,k,v,ex,g,hk,hm,hv,q2⟩=> ?_)
 subst ex
 cases rx
 exact w8 hu I2 g hk hm hv ry λw' s3 I3 xD=>⟨v,H2,I3,xD,q2⟩
theorem zhr(hu:X.A.units+2<cLine)(ho:PE X o td)(hi:PE X i ty)(hv:PE X value tv)(hs:swapsWith value (some (.Subscript o i pQ)) pos.line X.env=pure false):
 PS X (.Assign [.Subscript o i pQ] value pos) (zmY X.prog X.w td ty tv):=by
 intro aA s σ H D I h
 refine wpAny_Assign_Subscript (cH (hv aA s σ H _ I h) λr s1 ⟨v,H1,I1,rv,q1⟩=>cH (ho aA s1 σ H1 _ I1 q1) λu s2 ⟨x,H2,I2,rx,q2⟩=>cH (hi aA s2 σ H2 _ I2 q2) λiv s3 ⟨y,H3,I3,ry,a,m,kvs,k,ex,g,hk,hm,hl,q3⟩=> ?_) hs
 subst ex
 cases rx
 exact yM hu I3 g hk hm hl ry rv λob s4 n4 I4=>⟨σ,_,I4,q3 ob n4⟩
theorem zjs(P:Program)(w:World){H:Hp}(h:Heap)(hb:sysModules<h.objs.size):cP P w H (h.push {cls:= .type "dict",data:= .dict #[]}) h.objs.size (ndO P w h.objs.size m):=by
 have z:(h.objs.size==sysModules)=false:=beq_eq_false_iff_ne.mpr (Ne.symm (Nat.ne_of_lt hb))
 cases m with
 |b=>exact ziu ⟨Nat.zero_le _,z⟩ ⟨[],.nil,Heap.DictOf.new h⟩
 |i=>exact zfN h hb
 |p=>exact zdt h hb
 |n=>exact zfc ⟨Nat.zero_le _,z⟩ ⟨_,#[],0,Heap.get?_push_size _ rfl,⟨rfl,rfl,rfl⟩,rfl,rfl,List.nodup_nil⟩
theorem zln(m:NM)(hu:X.A.units+2<cLine)(hk:PE X i tk)(hv:PE X value tv):PE X (.Dict [some i] [value] pos) (zsO X.prog X.w m tk tv):=by
 intro aA s σ H Q I q
 have hn:=I.hok.fresh (Nat.le_refl s.heap.objs.size)
 have I1:=I.laid (a:=s.heap.objs.size) (o:=ndO X.prog X.w s.heap.objs.size m) (h':=s.heap.push {cls:= .type "dict",data:= .dict #[]}) (t':=s.toks) (λ_ _ q=>Heap.get?_push_of_some _ q) (Nat.le_refl _) (zjs _ _ s.heap I.big)
 refine wpAny_Dict_any rfl rfl (λz=>nomatch z) (by show(1:Nat)<=15;decide) (pairTrees_cons_walk (cH (hk aA _ σ _ _ I1 (q _ hn)) λu s1 ⟨x,H1,J1,rx,q1⟩=>cH (hv aA s1 σ H1 _ J1 q1) λr s2 ⟨y,H2,J2,ry,q2⟩=>pairTrees_nil_walk ?_))
 obtain⟨k,kk,km,mm,hp,q2⟩:=q2
 unfold storeAll
 rw[List.forIn_cons]
 refine wpAny_bind (wpAny_bind ?_)
 have fN: ∀(ob:HO) (s':Shared),ND X.prog X.w m (aN H2 s.heap.objs.size ob) s.heap.objs.size [(k,y)]->aM X aA σ (aN H2 s.heap.objs.size ob) s'->wpAny (model X.prog X.w) X.A (pure (ForInStep.yield PUnit.unit)) (λa s'=>wpAny (model X.prog X.w) X.A (match a with
  |ForInStep.done b=>pure b
  |ForInStep.yield b=>forIn ([]:List (Value×Value)) b λx _=>do dictSet s.heap.objs.size x.1 x.2;pure (ForInStep.yield PUnit.unit)) (λ_ s₂=>EP X aA σ Q (.ref s.heap.objs.size) s₂) X.xe s') X.xe s':= λob s' n J=>by
  refine wpAny_pure ?_;dsimp only;rw[List.forIn_nil];exact wpAny_pure ⟨.ref s.heap.objs.size,_,J,rfl,q2 ob n⟩
 subst km
 cases k with
 |b z=>rcases mm with z|z<;>cases z
 |n z ys=>rcases mm with z|z<;>cases z
 |i z=>
  cases kk;obtain⟨zz,hd,vs,jI,dd⟩:=zio J2.hok (show H2 s.heap.objs.size=some (.dK [])from hp);cases jI;refine wpAny_dictSet_pairs (knd:=aV X.prog X.w) (k:= .inl z) (hsz:=Nat.zero_le _) (lN (k:= .inl z) rx) dd λh' dd' hs=>fN (.dK [(.inl z,y)]) _ ⟨[(z,y)],rfl,aG⟩ ?_;refine kZ J2 (by rw[hp];exact True.intro) hs (let⟨q,_,_,hq,_⟩:=dd';⟨q,hq⟩) (zet (by show 1<=sizeLine;rw[sizeLine_eq];decide) hd (.cons ⟨rfl,ry⟩ .nil) dd')
 |p z=>
  obtain⟨b,rfl,eb⟩:=kk;cases rx;obtain⟨zz,hd,xs,jI,dd⟩:=zfD J2.hok (show H2 s.heap.objs.size=some (.dT [])from hp);cases jI;have eb':H2 b=some (.tup ((z.map (Sum.inl:Int->cB)).map kV)):=by rw[mH];exact eb
  refine wpAny_dictSet_heap (hsz:=Nat.zero_le _) (knd:=tupleKind (aV X.prog X.w)) (show X.A.units<cLine by omega) (jJ J2.hok eb') dd λh' dd' hs=>fN (.dT [(z.map .inl,y)]) _ ⟨[(z,y)],rfl,aG⟩ ?_;obtain⟨q,es,ep,hq,c2,c3,c4,_,c5⟩:=dd';refine kZ J2 (by rw[hp];exact True.intro) hs ⟨q,hq⟩ ⟨by show 1<=sizeLine;rw[sizeLine_eq];decide,hd,_,.cons ⟨rfl,?_,ry⟩ .nil,q,es,ep,hq,c2,c3,c4,c5⟩;show aN H2 s.heap.objs.size _ b=_;rw[aD (cK eb' (show H2 s.heap.objs.size=some (.dT [])from hp) (λz=>nomatch z))];exact eb'
end
def ztt(K:W.Frag)(te:TE):TE:= λσ H Q=>te σ H λx H1=> ∃a xs,x= .ref a/\aY K H1 a xs/\ ∀p,H1 p=none->Q (.ref p) (aN H1 p (.lst xs.reverse))
theorem zjN{e:Expr}{te:TE}{st:Expr}{p2 pos:Pos}(he:PE X e te)(hst:PE X st (λ_ H Q=>Q (.int (-1)) H))
 (zlB: ∀o i,subscripted (.Slice none none (some st) p2) false o i=operate [o,i] (getItem o i):=by intro _ _;with_unfolding_all rfl):PE X (.Subscript e (.Slice none none (some st) p2) pos) (ztt X.K te):=by
 intro aA s σ H Q I h
 refine Subscript_ (cH (he aA s σ H _ I h) λv s1 ⟨x,H1,I1,r1,q1⟩=> ?_)
 obtain⟨a,xs,rfl,hq,q⟩:=q1
 cases r1
 refine wpAny_Slice ?_
 rw[evalPart_none]
 refine wpAny_pure (wpAny_pure ?_)
 refine wpAny_evalPart_some (cH (hst aA s1 σ H1 (λv H'=>v= .int (-1)/\H'=H1) I1 ⟨rfl,rfl⟩) λu s2 ⟨y,H2,I2,r2,ey,eh⟩=> ?_)
 subst ey eh
 obtain⟨t,rfl⟩:=r2
 have I3:aM X aA σ H2 {s2 with heap:=s2.heap.push {cls:= .type "slice",data:= .fields #[.none,.none,.int (-1) t]}}:=I2.kept (t':=s2.toks) λb ob z=>Heap.get?_push_of_some _ z
 obtain⟨bC,r,pl,hz⟩:=I3.list hq
 have cQ:=r.length
 refine tail_any (ops:=[.ref a,.ref s2.heap.objs.size]) pl.isList.typeIs slot_list_getitem.lookup (wpAny_getItem_list_slice pl.isList (Heap.IsSliceOf.new ..) .none .none (.int (-1) t) (by decide) ?_ (by rw[List.size_toArray]<;>omega)) (zlB _ _)
 rw[PySem.W.krv_pick]
 refine⟨.ref _,_,I3.laid (t':=s2.toks) (o:= .lst xs.reverse) (λb ob z=>Heap.get?_push_of_some _ z) (Nat.le_refl _) ?_,rfl,q _ I3.fresh⟩
 exact⟨by rw[List.length_reverse];exact hz,_,0,r.reverse,Heap.get?_push_size _ rfl⟩
theorem xX: ∀bs:List Bool,(List.range bs.length).any (λi=>bs.getD i false)=bs.any id
 | []=>rfl
 |b::bs=>by
  rw[List.length_cons,List.range_succ_eq_map,List.any_cons,List.any_cons,List.any_map];have e:((λi=>(b::bs).getD i false) ∘ Nat.succ)= λi=>bs.getD i false:=by
   funext i
   simp
  rw[e,xX bs];rfl
theorem zcQ(hc:X.calm=true):fK X (.builtin "any") (λxs H Q=> ∃(p:Addr) (bs:List Bool),xs=[.ref p]/\aY X.K H p (bs.map V.bl)/\Q (.bl (bs.any id)) H):=by
 intro aA s σ H xs us Q I r h
 obtain⟨p,bs,rfl,hq,q⟩:=h
 obtain⟨u,rfl,ru⟩:=r.one
 cases ru
 obtain⟨bC,rv,pl,hz⟩:=I.list hq
 have hp:p<s.heap.objs.size:=by
  obtain⟨o,ho,_⟩:=pl.isList;exact Heap.lt_size ho
 have cQ:bC.toArray.size=bs.length:=by rw[List.size_toArray,<-rv.length,bH]
 refine call_any_walk (wpAny_pyIter_list pl.isList ⟨s.heap.objs.size,_,_,bC.toArray.size,_,_,λi=>bs.getD i false,rfl,Walks.list (show X.A.in1.handled=none from I.ok.hd hc) _ p (Nat.ne_of_lt hp) bC.toArray,⟨⟨_,Heap.get?_push_size _ rfl,rfl,rfl⟩,pl.isList.push _⟩,?_,?_⟩)
 . intro i v s' Q' E' hP hQ';have hv:bC[i]?=some v:=by simpa using hP
   have hi:i<bC.length:=(List.getElem?_eq_some_iff.mp hv).1;have hi2:i<bs.length:=by rw[<-cQ];simpa using hi
   obtain⟨u,hu,ru⟩:=rv.get (i:=i) (x:=V.bl bs[i]) (by rw[List.getElem?_map,List.getElem?_eq_getElem hi2];rfl);rw[hv]at hu;cases hu;have e:v=Value.bool bs[i]:=ru;subst e;refine wpAny_truthy_bool ?_;have e2:bs.getD i false=bs[i]:=by rw[List.getD_eq_getElem?_getD,List.getElem?_eq_getElem hi2];rfl
   have hQ2:Q' (bs.getD i false) s':=hQ';rw[e2]at hQ2;exact hQ2
 . intro h' tk hk;have I1:aM X aA σ H {s with heap:=h',toks:=tk}:=I.kept λb o e=>hk b o (λz=>by
    have z':b=s.heap.objs.size:=by simpa using z
    exact absurd (Heap.lt_size e) (by rw[z'];exact Nat.lt_irrefl _)) (Heap.get?_push_of_some _ e)
   have e:(List.range bC.toArray.size).any (λi=>bs.getD i false)=bs.any id:=by
    rw[cQ];exact xX bs
   exact⟨.bl (bs.any id),H,I1,by rw[e];rfl,q⟩
section
variable {w:World}
theorem zeZ{c t:Addr}{i:Nat}{bC:Array Value}{x:Value}{Q:Value->Shared->Prop}(hc:s.heap.IsTupleIter c t i)(ht:s.heap.IsTuple t bC)(hx:bC[i]?=some x)(hQ: ∀h',h'.IsTupleIter c t (i+1)->Heap.SameBut c s.heap h'->Q x {s with heap:=h'}):
 wpAny (model prog w) A (Builtin.SmallTypes.nextOf (.ref c)) Q E s:=by
 obtain⟨o,e,k,d⟩:=id hc
 obtain⟨ot,et,_,n,dt⟩:=ht
 delta Builtin.SmallTypes.nextOf
 refine wpAny_bind (wpAny_callSpecial?_slot (name:=Str.ofString "__next__") hc.typeIs PySem.F.slot_tuple_iterator_next (wpAny_call_entry PySem.F.slot_tuple_iterator_next hc.typeIs PySem.F.entry_tuple_iterator_next ?_ (PySem.F.args_tuple_iterator_next_1 _)))
 show wpAny _ _ (field (.ref c) 0>>=_) _ _ s
 refine wpAny_bind (wpAny_field e d (x:= .ref t) rfl ?_)
 rw[if_neg (show ¬((Value.ref t==Value.none)=true)from Bool.false_ne_true)]
 show wpAny _ _ (field (.ref c) 1>>=_) _ _ s
 refine wpAny_bind (wpAny_field e d (x:= .int i 0) rfl ?_)
 show wpAny _ _ (seqItems? (.ref t)>>=_) _ _ s
 refine wpAny_bind (wpAny_seqItems et dt ?_)
 simp only[Int.toNat_natCast,hx]
 refine wpAny_bind (wpAny_setField e d (by simp) (wpAny_pure ⟨x,rfl,wpAny_pure (hQ _ ⟨_,Heap.get?_update_self _ e (Obj.isFreed_of_fields (Obj.data_mapFields d _)),(Obj.cls_mapFields ..).trans k,by rw[Obj.data_mapFields d];simp[rawInt]⟩ (Heap.SameBut.update ..))⟩))
theorem mQ{c t:Addr}{i:Nat}{bC:Array Value}{Q:Value->Shared->Prop}(hh:A.handled=none)(hc:s.heap.IsTupleIter c t i)(ht:s.heap.IsTuple t bC)(hx:bC[i]?=none)
 (hE: ∀h' x,Heap.ExtBut c s.heap h'->(∃o,h'.get? x=some o/\o.cls= .type "StopIteration")->E (.ref x) {s with heap:=h'}):wpAny (model prog w) A (Builtin.SmallTypes.nextOf (.ref c)) Q E s:=by
 obtain⟨o,e,k,d⟩:=id hc
 obtain⟨ot,et,_,n,dt⟩:=ht
 delta Builtin.SmallTypes.nextOf
 refine wpAny_bind (wpAny_callSpecial?_slot (name:=Str.ofString "__next__") hc.typeIs PySem.F.slot_tuple_iterator_next (wpAny_call_entry PySem.F.slot_tuple_iterator_next hc.typeIs PySem.F.entry_tuple_iterator_next ?_ (PySem.F.args_tuple_iterator_next_1 _)))
 show wpAny _ _ (field (.ref c) 0>>=_) _ _ s
 refine wpAny_bind (wpAny_field e d (x:= .ref t) rfl ?_)
 rw[if_neg (show ¬((Value.ref t==Value.none)=true)from Bool.false_ne_true)]
 show wpAny _ _ (field (.ref c) 1>>=_) _ _ s
 refine wpAny_bind (wpAny_field e d (x:= .int i 0) rfl ?_)
 show wpAny _ _ (seqItems? (.ref t)>>=_) _ _ s
 refine wpAny_bind (wpAny_seqItems et dt ?_)
 simp only[Int.toNat_natCast,hx]
 refine wpAny_bind (wpAny_rule (wpAny_bind (wpAny_setField e d (by simp) ?_)))
 show wpAny _ _ (newExc (.type "StopIteration") []>>=_) _ _ _
 refine wpAny_bind ?_
 simp only[newExc,newTuple]
 refine wpAny_bind (wpAny_newObj_type (wpAny_bind (m:=firstArgMember _ _) (wpAny_of_eq (a:=Value.none) (by first|rfl|(simp only[firstArgMember];rfl)) (wpAny_newObj_type ?_ (by size_fits)))) (by size_fits))
 simp only[raiseNew]
 refine wpAny_bind (wpAny_handled ?_)
 first|rw[show A.in1.handled=none from hh]|rw[hh]
 exact wpAny_bind (wpAny_pure (wpAny_throw (hE _ _ (((Heap.SameBut.update ..).extBut.push _).push _) ⟨_,Heap.get?_push_size _ rfl,rfl⟩)))
theorem zcS(hh:A.handled=none)(c t:Addr)(mX:t≠c)(bC:Array Value):Draws prog w A c [c,t] bC.size (λi v=>bC[i]?=some v) (λi h=>h.IsTupleIter c t i/\h.IsTuple t bC) where
 live:= λ_ _ st=>let⟨o,ho,_⟩:=st.1;⟨o,ho⟩
 frame:= λ_ _ _ st hk=>⟨let⟨o,ho,r⟩:=st.1;⟨o,hk c (by simp) o ho,r⟩,let⟨o,ho,r⟩:=st.2;⟨o,hk t (by simp) o ho,r⟩⟩
 item:= λi s Q E hi st hQ=>zeZ st.1 st.2 (x:=bC[i]) (by simp[hi]) λh' a b=>hQ _ h' s.toks (by simp[hi]) ⟨a,st.2.extBut b.extBut mX⟩ b
 done:= λs Q E st hE=>mQ hh st.1 st.2 (by simp) hE
end
open AutoSeq1 (wpAny_loadPart')
theorem zbX(t:Addr)(bC:Array Value)(n:Nat)(dd:Option Addr)(ss:Array (Option Value)):Meets (Builtin.«enumerate.__new__» ⟨[.type "enumerate",.ref t],[]⟩) (λ_ R s=>s.heap.get? t=some {cls:= .type "tuple",dict:=dd,data:= .seq bC n,slots:=ss}/\
 R (.ok (.ret (.ref (s.heap.push {cls:= .type "tuple_iterator",data:= .fields #[.ref t,.int 0 0]}).objs.size))) {s with heap:=(s.heap.push {cls:= .type "tuple_iterator",data:= .fields #[.ref t,.int 0 0]}).push {cls:= .type "enumerate",data:= .fields #[.none,.bool false,.ref s.heap.objs.size,rawInt 0,.none,.none]}}):=
 .of_wp λprog w A R s h=>by
  obtain⟨hp,g,d,tk,os⟩:=s;obtain⟨hl,h⟩:=h;have zlB:=sub_enumerate;have hT:Heap.IsTuple (Shared.heap ⟨hp,g,d,tk,os⟩) t bC:=⟨_,hl,rfl,n,rfl⟩
  wp_walk using wpAny_loadPart' hl
  refine wpAny_stack_any λst=>wpAny_pure ?_
  split
  . rename_i c _ _ _ _ _
    cases(c==Value.type "enumerate")<;>(wp_walk using wpAny_loadPart' hl,wpAny_pyIter_tuple hT;exact⟨_,rfl,h⟩)
  . wp_walk using wpAny_loadPart' hl,wpAny_pyIter_tuple hT;exact⟨_,rfl,h⟩
section
variable {w:World}
theorem zaa{t:Addr}{bC:Array Value}{Q:Value->Shared->Prop}(hT:IsTup s.heap t bC)
 (h: ∀h',IsEnum h' (s.heap.objs.size+1) s.heap.objs.size 0 .none->h'.IsTupleIter s.heap.objs.size t 0->(∀b o,s.heap.get? b=some o->h'.get? b=some o)->Q (.ref (s.heap.objs.size+1)) {s with heap:=h'}):wpAny (model prog w) A (call (.type "enumerate") [.ref t]) Q E s:=by
 obtain⟨⟨c,dd,dt,ss⟩,hl,hc,n,hd⟩:=hT
 cases hc;cases hd
 refine callType_new PySem.F.called_enumerate (by decide) (PySem.F.typeCall_enumerate_1 _) (PySem.F.newCall_enumerate_1 _) (λobj=>PySem.F.args_object_init_2 obj _) PySem.F.entry_enumerate_new (zbX t bC n dd ss) ⟨hl,?_⟩
 have hz:(s.heap.push {cls:= .type "tuple_iterator",data:= .fields #[.ref t,.int 0 0]}).objs.size=s.heap.objs.size+1:=Heap.size_push ..
 show _/\_
 rw[hz]
 have he:IsEnum ((s.heap.push {cls:= .type "tuple_iterator",data:= .fields #[.ref t,.int 0 0]}).push {cls:= .type "enumerate",data:= .fields #[.none,.bool false,.ref s.heap.objs.size,rawInt 0,.none,.none]}) (s.heap.objs.size+1) s.heap.objs.size 0 .none:=by
  have q:=Heap.get?_push_size (s.heap.push {cls:= .type "tuple_iterator",data:= .fields #[.ref t,.int 0 0]}) (o:={cls:= .type "enumerate",data:= .fields #[.none,.bool false,.ref s.heap.objs.size,rawInt 0,.none,.none]}) rfl;rw[hz]at q;exact q
 exact⟨⟨_,he,rfl⟩,h _ he ⟨_,Heap.get?_push_of_some _ (Heap.get?_push_size _ rfl),rfl,rfl⟩ λb o x=>Heap.get?_push_of_some _ (Heap.get?_push_of_some _ x)⟩
end
section
variable {w:World}
theorem zbT{e c t:Addr}{i:Nat}{bC:Array Value}{old:Value}{Q:Option Value->Shared->Prop}(hh:A.handled=none)(he:IsEnum s.heap e c i old)(hc:s.heap.IsTupleIter c t i)(ht:s.heap.IsTuple t bC)(hn: ¬i<bC.size)
 (hQ: ∀h',Heap.ExtBut c s.heap h'->Q none {s with heap:=h'}):wpAny (model prog w) A (pyNext (.ref e)) Q E s:=by
 have kind:s.TypeIs (.ref e) "enumerate" :=⟨_,he,rfl⟩
 unfold pyNext
 refine wpAny_bind (wpAny_attempt (wpAny_callSpecial?_slot (name:=Str.ofString "__next__") kind PySem.F.slot_enumerate_next (wpAny_call_entry PySem.F.slot_enumerate_next kind PySem.F.entry_enumerate_next ?_ (PySem.F.args_enumerate_next_1 _))))
 show wpAny _ _ (field (.ref e) 2>>=_) _ _ s
 refine wpAny_bind (wpAny_field he rfl (x:= .ref c) rfl (wpAny_bind (mQ hh hc ht (by simp at hn ⊢;exact hn) λh' x eb sx=> ?_)))
 obtain⟨o,ho,k⟩:=sx
 exact wpAny_bind (wpAny_isInstance (T:= "StopIteration") (b:=true) ⟨o,ho,k⟩ isSubtype_stop (wpAny_pure (hQ _ eb)))
end
def zff(K:W.Frag)(a:Addr):It:=
 ⟨λi H=> ∃xs x,fR K H a xs/\xs[i]?=some x,λi H v H'=> ∃T,H T=none/\v= .ref T/\ ∀xs,fR K H a xs-> ∃x,xs[i]?=some x/\H'=aN H T (.tup [.int i,x]),λi H=> ∃xs,fR K H a xs/\xs.length<=i⟩
theorem yK{P:Program}{w:World}{K:W.Frag}{elts:List Expr}{k:Nat}{pos:Pos}(a e it:Addr)(mX:e≠it):oW P w K (.Tuple elts k pos) (zff K a) [e,it] e (λi h=>(∃old,IsEnum h e it i old)/\h.IsTupleIter it a i) where
 mem:=by simp
 obj:= λi h st b hb=>by
  obtain⟨⟨old,he⟩,o,ho,c,d⟩:=st
  rcases List.mem_cons.mp hb with z|z
  . subst z;exact⟨_,he,λv q=>by
     have q':Data.fields _=Data.cell v:=q;cases q'⟩
  . have z':b=it:=by simpa using z
    subst z';exact⟨o,ho,λv q=>by rw[d]at q;cases q⟩
 keep:= λi h h' st kk=>by
  obtain⟨⟨old,he⟩,o,ho,r⟩:=st;exact⟨⟨old,kk e (by simp) _ he⟩,⟨o,kk it (by simp) o ho,r⟩⟩
 item:=by
  intro X hP hw hK hc i aA s σ H E I hf st hg;subst hP hw hK;obtain⟨xs,x,hq,hx⟩:=hg;obtain⟨⟨old,he⟩,hl⟩:=st;obtain⟨bC,rv,pl,hz⟩:=I.tuple hq;obtain⟨u,hu,ru⟩:=rv.get hx;have pt:s.heap.IsTuple a bC.toArray:=pl;obtain⟨oi,hoi,ci,di⟩:=id hl;have nai:a≠it:= λz=>by
   obtain⟨o,ho,c,_⟩:=pl;rw[z,hoi]at ho;cases ho;rw[ci]at c;injection c with c
   exact absurd c (by decide)
  have nae:a≠e:= λz=>by
   obtain⟨o,ho,c,_⟩:=pl;have he':s.heap.get? e=_:=he;rw[z,he']at ho;cases ho;have c':Value.type "enumerate" =Value.type "tuple" :=c;injection c' with c'
   exact absurd c' (by decide)
  have hi:i<bC.toArray.size:=by
   have:=(List.getElem?_eq_some_iff.mp hu).1;simpa using this
  refine wpAny_pyNext_enum_itemD (zcS (A:=X.A.in1) (I.ok.hd hc) it a nai bC.toArray) he ⟨hl,pt⟩ hi mX (by simp;exact⟨mX,Ne.symm nae⟩) λy h' tk hy eo li tp hsz kk=> ?_;have ey:y=u:=by
   have h2:bC.toArray[i]?=some u:=by simpa using hu
   rw[h2]at hy;exact(Option.some.inj hy).symm
  subst ey;refine⟨_,rfl,wpAny_letOwnedTupleGo_enum (s:={s with heap:=h',toks:=tk+1}) eo λh2 en sb=> ?_⟩;have hTe:s.heap.objs.size≠e:=Nat.ne_of_gt (Heap.lt_size he);have yV:h2.get? s.heap.objs.size=some {cls:= .type "tuple",data:= .seq #[.int i tk,y]}:=(sb.2 _ hTe).trans tp;have kp: ∀b ob,b∉ [e,it]->s.heap.get? b=some ob->h2.get? b=some ob:= λb ob hb q=>by
   have h1:b≠e:= λz=>hb (by simp[z]);have h2':b≠it:= λz=>hb (by simp[z]);exact(sb.2 b h1).trans (kk b ob h1 h2' q)
  have I2:aM X aA σ (aN H s.heap.objs.size (.tup [.int i,x])) {s with heap:=h2,toks:=tk+1}:=I.turnLaid (o:= .tup [.int i,x]) (t':=tk+1) hf kp (Nat.le_refl _)
   ⟨by show 2<=sizeLine;rw[sizeLine_eq];decide,[.int i tk,y],.cons ⟨_,rfl⟩ (.cons ru .nil),⟨_,yV,rfl,_,rfl⟩⟩
  refine⟨.ref s.heap.objs.size,_,I2,rfl,⟨_,I.fresh,rfl,λys hy=>⟨x,by rw[I.tuple_inj hy hq];exact hx,rfl⟩⟩,⟨⟨_,en⟩,li.1.extBut sb.extBut (Ne.symm mX)⟩,λb hb=> ?_⟩;have eO:b≠s.heap.objs.size:=by
   obtain⟨o,ho,_⟩: ∃o,s.heap.get? b=some o/\True:=by
    rcases List.mem_cons.mp hb with z|z
    . subst z;exact⟨_,he,trivial⟩
    . have z':b=it:=by simpa using z
      subst z';exact⟨oi,hoi,trivial⟩
   exact Nat.ne_of_lt (Heap.lt_size ho)
  rw[aD eO];exact(hf b hb).1
 done:=by
  intro X hP hw hK hc i aA s σ H E I hf st hg;subst hP hw hK;obtain⟨xs,hq,hx⟩:=hg;obtain⟨⟨old,he⟩,hl⟩:=st;obtain⟨bC,rv,pl,hz⟩:=I.tuple hq;have cQ:=rv.length;obtain⟨oi,hoi,ci,di⟩:=id hl;have hn: ¬i<bC.toArray.size:=by simp;omega
  exact zbT (I.ok.hd hc) he hl (show s.heap.IsTuple a bC.toArray from pl) hn λh' eb=>⟨rfl,I.turnedL (t':=s.toks) hf λb ob hb q=>eb b ob (λz=>hb (by simp[z])) q⟩
 self:= λA i s Q E st h=>by
  obtain⟨⟨old,he⟩,_⟩:=st;exact wpAny_pyIter_enum he h
def zlY(K:W.Frag)(ta:TA):TI:= λσ H R=>ta σ H λvs H1=> ∃a,vs=[.ref a]/\(∃xs,fR K H1 a xs)/\R (zff K a) H1
theorem zdv{X:Cx}{elts:List Expr}{k:Nat}{oT:Pos}{l:Expr}{ta:TA}{p pos:Pos}(hg:Gl X "enumerate")(hm:X.mg "enumerate" =none)(ha:PA X [l] ta)(hs:starEach [l] X.env=[(false,eval l X.env)]:=by rfl):
 PI X (.Tuple elts k oT) (.Call (.Name "enumerate" p) [l] [] pos) (zlY X.K ta):=by
 intro aA s σ H R I h
 refine Call_ (iV I hg hm (show bootBuiltins "enumerate" =some (.type "enumerate") by decide+kernel) (PyProof.Rows.callWith_type1 (cH (ha pos aA s σ H _ I h) λus s1 ⟨vs,H1,I1,r1,q1⟩=> ?_) hs rfl))
 obtain⟨a,e,⟨xs,hq⟩,q⟩:=q1
 subst e
 obtain⟨u,rfl,ru⟩:=r1.one
 cases ru
 obtain⟨bC,rv,pl,hz⟩:=I1.tuple hq
 refine zaa pl λh' en li kk=> ?_
 have I2:aM X aA σ H1 {s1 with heap:=h'}:=I1.kept (t':=s1.toks) kk
 have T:=yK (P:=X.prog) (w:=X.w) (K:=X.K) (elts:=elts) (k:=k) (pos:=oT) a (s1.heap.objs.size+1) s1.heap.objs.size (Nat.ne_of_gt (Nat.lt_succ_self _))
 refine T.self X.A 0 {s1 with heap:=h'} _ _ ⟨⟨_,en⟩,li⟩ ⟨_,_,_,_,H1,rfl,I2,T,⟨⟨_,en⟩,li⟩,λb hb=> ?_,q⟩
 have mE:s1.heap.objs.size<=b:=by
  rcases List.mem_cons.mp hb with z|z
  . subst z;exact Nat.le_succ _
  . have z':b=s1.heap.objs.size:=by simpa using z
    subst z';exact Nat.le_refl _
 exact I1.fpOk mE (I1.hok.fresh mE)
theorem zcO{K:W.Frag}{a:Addr}{xs:List V}{g:TG}{tb:TS}{D:gK}{σ:St}{H:Hp}(Pv:Nat->St->Hp->Prop)(h0:Pv 0 σ H)(hl: ∀i σ H,i<=xs.length->Pv i σ H->fR K H a xs)
 (hs: ∀i x σ H T,xs[i]?=some x->H T=none->Pv i σ H->g (.ref T) σ (aN H T (.tup [.int i,x])) λσ2 H2=>tb {D with nx:=Pv (i+1),ct:=Pv (i+1),bk:=D.nx} σ2 H2) (hd: ∀σ H,Pv xs.length σ H->D.nx σ H):
 ∃W:Nat->Nat->St->Hp->Prop,(∃m,W 0 m σ H)/\ ∀i m σ H,W i m σ H->
  ((zff K a).stop i H/\D.nx σ H)\/((zff K a).go i H/\ ∃N:St->Hp->Prop,(∀σ' H',N σ' H'-> ∃m',m'<m/\W (i+1) m' σ' H')/\ ∀x H',(zff K a).yld i H x H'->g x σ H' λσ2 H2=>tb {D with nx:=N,ct:=N,bk:=D.nx} σ2 H2):=by
 refine⟨λi m σ H=>m=xs.length - i/\i<=xs.length/\Pv i σ H,⟨xs.length,by simp,Nat.zero_le _,h0⟩,?_⟩
 rintro i m σ H ⟨rfl,hi,p⟩
 have q:=hl i σ H hi p
 by_cases eO:i<xs.length
 . refine .inr ⟨⟨xs,xs[i],q,by simp[eO]⟩,Pv (i+1),λσ' H' p'=>⟨xs.length - (i+1),by omega,rfl,eO,p'⟩,λx H' y=> ?_⟩;obtain⟨T,hT,rfl,y⟩:=y;obtain⟨x',hx,rfl⟩:=y xs q;exact hs i x' σ H T hx hT p
 . have e:i=xs.length:=by omega
   subst e;exact .inl ⟨⟨xs,q,Nat.le_refl _⟩,hd σ H p⟩
end L2
namespace TX
open PySem PySem.Calls
theorem vF:typeLookup (.type "list") "keys" =pure none:=by rw[typeLookup_type,builtinLookup_eq_fast];kernel_rfl
section
variable {prog:Program}{w:World}{A:Around}{E:Value->Shared->Prop}{s:Shared}{a:Addr}{bC:Array Value}{n:Nat}
theorem zcg{sl:Array (Option Value)}{Q:Option Value->Shared->Prop}(hh:A.handled=none)(hx:s.heap.get? a=some {cls:= .type "list",dict:=none,data:= .seq bC n,slots:=sl})
 (h: ∀h' tk,(∀b o,s.heap.get? b=some o->h'.get? b=some o)->Q none {s with heap:=h',toks:=tk}):wpAny (model prog w) A (getAttr? (.ref a) "keys") Q E s:=by
 obtain⟨hp1,g1,d1,tk1,os1⟩:=s
 have hT1: ∀tk',(⟨hp1,g1,d1,tk',os1⟩:Shared).TypeIs (.ref a) "list" := λ_=>⟨_,hx,rfl⟩
 have f1:=sub_AttributeError
 have f3:=F.slot_list_getattribute.lookup
 have f4:=F.slot_list_getattribute.bind (.ref a)
 have f5:=am_list_getattr_none
 have hsz:Str.length "keys" +100<=sizeLine:=by rw[sizeLine_eq];decide
 unfold getAttr? getAttrBy? getAttrBy
 repeat any_goals first|assumption|exact hT1 _|((with_reducible show wpAny _ _ (call (Value.builtin "list.__getattribute__") _ _) _ _ _);refine call_meets F.slot_list_getattribute (hT1 _) am_entry_list_getattribute (F.args_list_getattribute_2 _ _) (meets_getattribute_miss_list a bC n sl "keys" _ vF (by decide+kernel) hsz) ⟨hx,hh,λh' tk' e sA=> ?_⟩)|wp_step
 obtain⟨t',u',he⟩:=sA.there
 show wpAny (model prog w) A (getattributeRaised _ _ _ _ _ _ _) _ _ _
 unfold getattributeRaised
 repeat any_goals first|assumption|wp_step
 exact h _ _ sA.keeps
end
end TX
namespace TX
open PySem PySem.Calls
theorem oH:entryFor table "dict.update.loop" =some Builtin.«dict.update.loop»:=entryFor_of_tree (by kernel_rfl)
theorem iH:plainId "dict.update.loop" =true:=by decide+kernel
section
variable {prog:Program}{w:World}{A:Around}{E:Value->Shared->Prop}{K:Type} [DecidableEq K]{knd:KeyKind prog w K}
def zfn(h:Heap)(T:Addr)(yH v:Value):Prop:= ∃o m,h.get? T=some o/\o.cls= .type "tuple" /\o.data= .seq #[yH,v] m
theorem w6{s:Shared}{T:Addr}{yH v:Value}{Q:List Value->Shared->Prop}(h:zfn s.heap T yH v)(q:Q [yH,v] s):wpAny (model prog w) A (Builtin.Dict.pairItems (.ref T)) Q E s:=by
 obtain⟨o,m,e,c,d⟩:=h
 have hT:s.TypeIs (.ref T) "tuple" :=⟨o,e,c⟩
 unfold Builtin.Dict.pairItems
 refine wpAny_bind (wpAny_typeOf hT ?_)
 rw[if_pos (by decide)]
 exact wpAny_bind (wpAny_seqItems e d (wpAny_pure q))
end
end TX
namespace TX
open PySem PySem.Calls
section
variable {prog:Program}{w:World}{A:Around}{E:Value->Shared->Prop}{s:Shared}{K:Type} [DecidableEq K]{knd:KeyKind prog w K}
end
end TX
namespace TX
open PySem PySem.Calls
section
variable {prog:Program}{w:World}{A:Around}{E:Value->Shared->Prop}{s:Shared}
end
end TX
namespace TX
open PySem PySem.Calls
section
variable {prog:Program}{w:World}{A:Around}{E:Value->Shared->Prop}{K:Type} [DecidableEq K]{knd:KeyKind prog w K}
theorem zid{h h':Heap}{ks:List K}{a:Addr}(x:IsTupleKey knd h ks a)(e: ∀o,h.get? a=some o->h'.get? a=some o):IsTupleKey knd h' ks a:=by
 obtain⟨o,bC,n,h1,h2,h3,h4⟩:=x
 exact⟨o,bC,n,e o h1,h2,h3,h4⟩
theorem uT{h h':Heap}{D:Addr}{xs:List (List K×Addr×Value)}(x:h.DictOfH (tupleKind knd) D xs)(eD: ∀o,h.get? D=some o->h'.get? D=some o)(ek: ∀p∈xs,∀o,h.get? p.2.1=some o->h'.get? p.2.1=some o):h'.DictOfH (tupleKind knd) D xs:=by
 obtain⟨o,es,ep,h1,h2,h3,h4,h5,h6⟩:=x
 exact⟨o,es,ep,eD o h1,h2,h3,h4,λp hp=>zid (h5 p hp) (ek p hp),h6⟩
def PutAt(knd:KeyKind prog w K)(h:Heap)(T:Addr)(p:List K×Addr×Value):Prop:=zfn h T (.ref p.2.1) p.2.2/\IsTupleKey knd h p.1 p.2.1
theorem PutAt.on{h h':Heap}{T:Addr}{p:List K×Addr×Value}(x:PutAt knd h T p)(e1: ∀o,h.get? T=some o->h'.get? T=some o)(e2: ∀o,h.get? p.2.1=some o->h'.get? p.2.1=some o):PutAt knd h' T p:=by
 obtain⟨⟨o,m,a1,a2,a3⟩,b⟩:=x
 exact⟨⟨o,m,e1 o a1,a2,a3⟩,zid b e2⟩
theorem zpE{R:Result->Shared->Prop}{D I l:Addr}{items:Array Value}{xs more:List (List K×Addr×Value)}{rv:Value}(hh:A.in1.handled=none)(hu:A.in1.units<cLine)(hDI:D≠I)(hlI:l≠I)(hlD:l≠D)(cQ:more.length=items.size)(hz:xs.length+more.length<=sizeLine)(nod:((xs++more).map (·.1)).Nodup):
 ∀(k i:Nat) (s:Shared),items.size - i=k->i<=items.size->s.heap.IsListIter I l i->s.heap.IsList l items->s.heap.DictOfH (tupleKind knd) D (xs++more.take i)->(∀p∈xs,p.2.1≠I)->
  (∀(i:Nat) (v:Value),items[i]?=some v-> ∃(T:Addr) (p:List K×Addr×Value),v= .ref T/\more[i]?=some p/\T≠D/\T≠I/\p.2.1≠D/\p.2.1≠I/\PutAt knd s.heap T p)->
  (∀h' tk,h'.DictOfH (tupleKind knd) D (xs++more)->(∀b o,b≠D->b≠I->s.heap.get? b=some o->h'.get? b=some o)->R (.ok (.ret rv)) {s with heap:=h',toks:=tk})->
  codeAny (model prog w) A (.builtin "dict.update.loop" ⟨[.ref D,.ref I,rawInt i,rv],[]⟩) R s:=by
 intro k
 have W:=Walks.list (prog:=prog) (w:=w) (A:=A.in1) hh I l hlI items
 induction k with
 |zero=>
  intro i s hk hi jH hl hd hxI hp hR;obtain rfl:i=items.size:=by omega
  refine codeAny_builtin oH (by
   rw[PySem.Around.under_plainId iH _];refine(show wpAny _ A.in1 (pyNext (.ref I)>>=_) _ _ s from wpAny_bind (W.done s _ _ ⟨jH,hl⟩ λh' tk hm=> ?_));refine wpAny_bind (show wpAny _ A.in1 (pure ()) _ _ _ from wpAny_pure ?_);refine wpAny_pure (hR h' tk ?_ λb o n1 n2 e=>hm b o (by simp[n2]) e);rw[<-cQ,List.take_length]at hd;refine uT hd (λo e=>hm D o (by simp[hDI]) e) λp hp' o e=> ?_
   rcases List.mem_append.mp hp' with z|z
   . exact hm _ o (by simp[hxI p z]) e
   . obtain⟨j,hj⟩:=List.getElem?_of_mem z;have hj':j<items.size:=by have:=(List.getElem?_eq_some_iff.mp hj).1;omega
     obtain⟨T,p',r1,r2,_,_,_,r6,_⟩:=hp j _ (Array.getElem?_eq_getElem hj');rw[hj]at r2;rw[Option.some.inj r2]at e ⊢;exact hm _ o (by simp[r6]) e)
 |succ k ih=>
  intro i s hk hi jH hl hd hxI hp hR;have eO:i<items.size:=by omega
  refine codeAny_builtin oH (by
   rw[PySem.Around.under_plainId iH _];refine(show wpAny _ A.in1 (pyNext (.ref I)>>=_) _ _ s from wpAny_bind (W.item i s _ _ eO ⟨jH,hl⟩ λv h' tk hv st hm=> ?_));obtain⟨T,p,rfl,hpi,nTD,nTI,naD,naI,zsk⟩:=hp i v hv;have kI: ∀b o,b≠I->s.heap.get? b=some o->h'.get? b=some o:= λb o n e=>hm b o (by simp[n]) e;have zil:PutAt knd h' T p:=zsk.on (λo e=>kI T o nTI e) (λo e=>kI _ o naI e);have hd1:h'.DictOfH (tupleKind knd) D (xs++more.take i):=by
    refine uT hd (λo e=>kI D o hDI e) λp' hp' o e=>kI _ o ?_ e
    rcases List.mem_append.mp hp' with z|z
    . exact hxI p' z
    . obtain⟨j,hj⟩:=List.getElem?_of_mem z;have hjl:=(List.getElem?_eq_some_iff.mp hj).1;rw[List.length_take]at hjl;have hji:j<items.size:=by omega
      rw[List.getElem?_take_of_lt (by omega)]at hj;obtain⟨T',q,_,r2,_,_,_,r6,_⟩:=hp j _ (Array.getElem?_eq_getElem hji);rw[hj]at r2;rw[Option.some.inj r2];exact r6
   have iP:(xs++more.take i).length<=sizeLine:=by rw[List.length_append,List.length_take];omega
   have zeO:atKey (xs++more.take i) p.1=none:=by
    have hpm:more.drop i=p::more.drop (i+1):=by
     have hil:=(List.getElem?_eq_some_iff.mp hpi).1;rw[List.drop_eq_getElem_cons hil]
     congr 1
     rw[List.getElem?_eq_getElem hil]at hpi;exact Option.some.inj hpi
    have e:xs++more=(xs++more.take i)++(p::more.drop (i+1)):=by rw[List.append_assoc,<-hpm,List.take_append_drop]
    rw[e,List.map_append]at nod;have dis:=(List.nodup_append.mp nod).2.2;refine atKey_none_of_get λj p' hj=>dis p.1 (List.mem_map.mpr ⟨(p.1,p'),List.mem_of_getElem? hj,rfl⟩) p.1 ?_ rfl;rw[List.map_cons];exact List.mem_cons_self
   refine wpAny_bind (wpAny_holding (wpAny_bind (wpAny_tryCatch (w6 zil.1 ?_))));refine wpAny_holding (wpAny_dictSet_heap (knd:=tupleKind knd) (d:=D) (a:=p.2.1) (k:=p.1) hu zil.2 hd1 (λh2 hd2 sb=> ?_) iP);have hd3:h2.DictOfH (tupleKind knd) D (xs++more.take (i+1)):=by
    rw[storedH_new zeO,List.append_assoc]at hd2;have e:more.take (i+1)=more.take i++[p]:=by rw[List.take_add_one,hpi];rfl
    rw[e];exact hd2
   have e2: ∀b ob,b≠D->h'.get? b=some ob->h2.get? b=some ob:= λb ob n e=>(sb.2 b n).trans e;have ni:((i:Int)+1)=((i+1:Nat):Int):=by omega
   refine wpAny_pure ⟨plainId_quiet iH _,?_⟩;rw[ni];refine ih (i+1) _ (by omega) eO (st.1.at λob q=>e2 I ob (Ne.symm hDI) q) (st.2.at λob q=>e2 l ob hlD q) hd3 hxI (λj v hj=> ?_) λh3 tk3 hd4 kp=>hR h3 tk3 hd4 λb ob n1 n2 q=>kp b ob n1 n2 (e2 b _ n1 (kI b _ n2 q));obtain⟨T2,q2,r1,r2,r3,r4,r5,r6,r7⟩:=hp j v hj;exact⟨T2,q2,r1,r2,r3,r4,r5,r6,r7.on (λo e=>e2 T2 o r3 (kI T2 o r4 e)) (λo e=>e2 _ o r5 (kI _ o r6 e))⟩)
end
end TX
namespace TX
open PySem PySem.Calls
section
variable {prog:Program}{w:World}{A B:Around}{s:Shared}{K:Type} [DecidableEq K]{knd:KeyKind prog w K}
theorem ziH{id:String}{l D:Addr}{items:Array Value}{nl:Nat}{sl:Array (Option Value)}{xs more:List (List K×Addr×Value)}{rv:Value}{R:Result->Shared->Prop}(hhB:B.handled=none)(hh:A.in1.handled=none)(hu:A.in1.units<cLine)
 (hx:s.heap.get? l=some {cls:= .type "list",dict:=none,data:= .seq items nl,slots:=sl}) (hlD:l≠D) (hd:s.heap.DictOfH (tupleKind knd) D xs) (cQ:more.length=items.size) (hz:xs.length+more.length<=sizeLine) (nod:((xs++more).map (·.1)).Nodup)
 (hp: ∀(i:Nat) (v:Value),items[i]?=some v-> ∃(T:Addr) (p:List K×Addr×Value),v= .ref T/\more[i]?=some p/\T≠D/\p.2.1≠D/\PutAt knd s.heap T p)
 (h: ∀h' tk,h'.DictOfH (tupleKind knd) D (xs++more)->(∀b o,b≠D->s.heap.get? b=some o->h'.get? b=some o)->R (.ok (.ret rv)) {s with heap:=h',toks:=tk}):
 wpAny (model prog w) B (Builtin.Dict.updateFrom id D (.ref l) [] rv) (λfN s'=>match fN with| .done f=>R (.ok f) s'| .again c'=>c'.quiet=true/\codeAny (model prog w) A c' R s') (λe s'=>R (.error e) s') s:=by
 unfold Builtin.Dict.updateFrom
 refine wpAny_bind (wpAny_typeOf (T:= "list") ⟨_,hx,rfl⟩ ?_)
 rw[if_pos (by decide)]
 refine wpAny_bind (zcg hhB hx λh2 tk2 k2=> ?_)
 rw[if_pos (show(Option.isNone (none:Option Value))=true from rfl)]
 have hx2:=k2 _ _ hx
 have hd2:h2.DictOfH (tupleKind knd) D xs:=uT hd (λo e=>k2 _ _ e) λp _ o e=>k2 _ _ e
 have lP:D<h2.objs.size:=by
  obtain⟨o,_,_,e,_⟩:=hd2;exact Heap.lt_size e
 have bZ:l<h2.objs.size:=Heap.lt_size hx2
 refine wpAny_bind (wpAny_rule (wpAny_bind (wpAny_pyIter_list ⟨_,hx2,rfl,nl,rfl⟩ ?_)))
 have up: ∀b o,h2.get? b=some o->(h2.push {cls:= .type "list_iterator",data:= .fields #[.ref l,.int 0 0]}).get? b=some o:= λb o e=>Heap.get?_push_of_some _ e
 have keyLt: ∀{ks:List K} {a:Addr},IsTupleKey knd h2 ks a->a≠h2.objs.size:= λ⟨o,_,_,e,_⟩=>Nat.ne_of_lt (Heap.lt_size e)
 refine wpAny_pure ⟨plainId_quiet iH _,?_⟩
 refine zpE (knd:=knd) (xs:=xs) (more:=more) (D:=D) (I:=h2.objs.size) (l:=l) (items:=items) hh hu (Nat.ne_of_lt lP) (Nat.ne_of_lt bZ) hlD cQ hz nod items.size 0 _ rfl (Nat.zero_le _) ⟨_,Heap.get?_push_size _ rfl,rfl,rfl⟩ ⟨_,up _ _ hx2,rfl,nl,rfl⟩ ?_ (λp hp'=> ?_) (λi v e=> ?_) λh' tk vR kp=>h h' tk vR λb o n e=> ?_
 . rw[List.take_zero,List.append_nil];exact uT hd2 (λo e=>up _ _ e) λp _ o e=>up _ _ e
 . obtain⟨_,_,_,_,_,_,_,h5,_⟩:=hd2;exact keyLt (h5 p hp')
 . obtain⟨T,p,r1,r2,r3,r4,r5⟩:=hp i v e;have r6:PutAt knd h2 T p:=r5.on (λo e=>k2 _ _ e) (λo e=>k2 _ _ e);have hT:T≠h2.objs.size:=by
    obtain⟨⟨o,m,e,_⟩,_⟩:=r6;exact Nat.ne_of_lt (Heap.lt_size e)
   exact⟨T,p,r1,r2,r3,hT,r4,keyLt r6.2,r6.on (λo e=>up _ _ e) (λo e=>up _ _ e)⟩
 . have e2:=k2 _ _ e;exact kp b o n (Nat.ne_of_lt (Heap.lt_size e2)) (up _ _ e2)
end
section
variable {prog:Program}{w:World}{A:Around}{E:Value->Shared->Prop}{s:Shared}{K:Type} [DecidableEq K]{knd:KeyKind prog w K}
theorem call_dictH{l:Addr}{items:Array Value}{nl:Nat}{sl:Array (Option Value)}{more:List (List K×Addr×Value)}{Q:Value->Shared->Prop}(hh:A.handled=none)(hu:A.units+2<cLine)
 (hx:s.heap.get? l=some {cls:= .type "list",dict:=none,data:= .seq items nl,slots:=sl}) (cQ:more.length=items.size) (hz:more.length<=sizeLine) (nod:(more.map (·.1)).Nodup)
 (hp: ∀(i:Nat) (v:Value),items[i]?=some v-> ∃(T:Addr) (p:List K×Addr×Value),v= .ref T/\more[i]?=some p/\PutAt knd s.heap T p)
 (h: ∀h' tk,h'.DictOfH (tupleKind knd) s.heap.objs.size more->(∀b o,s.heap.get? b=some o->h'.get? b=some o)->Q (.ref s.heap.objs.size) {s with heap:=h',toks:=tk}):
 wpAny (model prog w) A (call (.type "dict") [.ref l]) Q E s:=by
 refine callType_codes (Q₁:= λobj s₁=>obj= .ref s.heap.objs.size/\s₁={s with heap:=s.heap.push {cls:= .type "dict",data:= .dict #[]}}) F.kt_called_dict (F.kt_typeCall_dict_1 _) F.entry_dict_init (kt_code_dict_new _ ⟨rfl,rfl⟩) ?_
 rintro obj s₁ ⟨rfl,rfl⟩
 have zeO:(s.heap.push {cls:= .type "dict",data:= .dict #[]}).DictOfH (tupleKind knd) s.heap.objs.size []:=Heap.DictOfH.new s.heap
 have up1: ∀b o,s.heap.get? b=some o->(s.heap.push {cls:= .type "dict",data:= .dict #[]}).get? b=some o:= λb o e=>Heap.get?_push_of_some _ e
 have eO:l<s.heap.objs.size:=Heap.lt_size hx
 generalize s.heap.push {cls:= .type "dict",data:= .dict #[]}=h1 at zeO up1 ⊢
 have ty:Shared.TypeIs {s with heap:=h1} (.ref s.heap.objs.size) "dict" :=Heap.DictOfH.typeIs (s:={s with heap:=h1}) zeO
 refine⟨ty,F.args_dict_init_2 _ _,?_⟩
 unfold Builtin.«dict.__init__»
 refine wpAny_bind ?_
 unfold Builtin.Dict.selfAndRest
 refine wpAny_bind (wpAny_notOrdered_dict ty ?_)
 refine(show wpAny _ _ (pure (s.heap.objs.size,[Value.ref l])) _ _ _ from wpAny_pure ?_)
 show wpAny _ _ (Builtin.Dict.updateFrom "dict.__init__" s.heap.objs.size (.ref l) [] .none) _ _ _
 refine ziH (s:={s with heap:=h1}) (xs:=[]) (more:=more) (by simpa using hh) (by simpa using hh) ?_ (up1 _ _ hx) (Nat.ne_of_lt eO) zeO cQ (by simpa using hz) (by simpa using nod) (λi v e=> ?_) λh' tk vR kp=>⟨rfl,h h' tk (by simpa using vR) λb o e=>kp b o (Nat.ne_of_lt (Heap.lt_size e)) (up1 _ _ e)⟩
 . show A.units+1+1<cLine
   omega
 . obtain⟨T,p,r1,r2,r3⟩:=hp i v e;obtain⟨⟨o,m,g1,g2,g3⟩,o',bC,n',q1,q2⟩:=id r3;exact⟨T,p,r1,r2,Nat.ne_of_lt (Heap.lt_size g1),Nat.ne_of_lt (Heap.lt_size q1),r3.on (λo e=>up1 _ _ e) (λo e=>up1 _ _ e)⟩
theorem call_updH{l D:Addr}{items:Array Value}{nl:Nat}{sl:Array (Option Value)}{xs more:List (List K×Addr×Value)}{Q:Value->Shared->Prop}(hh:A.handled=none)(hu:A.units+1<cLine)
 (hx:s.heap.get? l=some {cls:= .type "list",dict:=none,data:= .seq items nl,slots:=sl}) (hlD:l≠D) (hd:s.heap.DictOfH (tupleKind knd) D xs) (cQ:more.length=items.size) (hz:xs.length+more.length<=sizeLine) (nod:((xs++more).map (·.1)).Nodup)
 (hp: ∀(i:Nat) (v:Value),items[i]?=some v-> ∃(T:Addr) (p:List K×Addr×Value),v= .ref T/\more[i]?=some p/\T≠D/\p.2.1≠D/\PutAt knd s.heap T p)
 (h: ∀h' tk,h'.DictOfH (tupleKind knd) D (xs++more)->(∀b o,b≠D->s.heap.get? b=some o->h'.get? b=some o)->Q .none {s with heap:=h',toks:=tk}):
 wpAny (model prog w) A (call (.builtin "dict.update") [.ref D,.ref l]) Q E s:=by
 refine call_meetsIn (S:= λA' R s'=>A'=A/\R=wants Q E/\s'=s) F.slot_dict_update hd.typeIs F.entry_dict_update (F.args_dict_update_2 _ _) (λA' R s' ⟨e1,e2,e3⟩=> ?_) ⟨rfl,rfl,rfl⟩
 subst e1 e2 e3
 unfold Builtin.«dict.update»
 refine wpAny_bind ?_
 unfold Builtin.Dict.selfAndRest
 refine wpAny_bind (wpAny_notOrdered_dict hd.typeIs ?_)
 refine(show wpAny _ _ (pure (D,[Value.ref l])) _ _ _ from wpAny_pure ?_)
 show wpAny _ _ (Builtin.Dict.updateFrom "dict.update" D (.ref l) [] .none) _ _ _
 exact ziH (by simpa using hh) (by simpa using hh) (show A'.units+1<cLine from hu) hx hlD hd cQ hz nod hp h
end
end TX
namespace L2
open PySem PySem.Spec PyProof.Rows
variable {X:Cx}
theorem kJ: ∀{ts:List Addr} {us:List Value},bK (ts.map V.ref) us->us=ts.map Value.ref
 | [],_,.nil=>rfl
 |t::r,_,.cons e q=>by
  have e':_=Value.ref t:=e;rw[List.map_cons,<-kJ q,e']
theorem zeJ{A:Around}{aA:List (Addr×Obj)}{s:Shared}{σ:St}{H:Hp}(I:aM X aA σ H s)(hu:A.units<cLine){a b:Addr}{xs ys:List Str}(h1:aY X.K H a (xs.map V.str))(h2:aY X.K H b (ys.map V.str)):
 SeqAt.RcAt A s (.ref a) (.ref b) (decide (xs=ys))/\SeqAt.RcNeAt A s (.ref a) (.ref b) (!decide (xs=ys)):=by
 obtain⟨nO,zC,sD,hz1⟩:=I.list h1
 obtain⟨jZ,rv2,wZ,hz2⟩:=I.list h2
 have l1:=zC.length
 have l2:=rv2.length
 rw[bH]at l1 l2
 by_cases hl:xs.length=ys.length
 . have hs:nO.toArray.size=jZ.toArray.size:=by simp;omega
   have he: ∀j (j1:j<nO.toArray.size) (j2:j<jZ.toArray.size),SeqAt.EqAt A.in1 s nO.toArray[j] jZ.toArray[j] (decide (xs[j]?=ys[j]?)):= λj j1 j2=>by
    have k1:j<xs.length:=by rw[l1];simpa using j1
    have k2:j<ys.length:=by rw[l2];simpa using j2
    obtain⟨u1,e1,r1⟩:=zC.get (i:=j) (x:=V.str xs[j]) (by rw[List.getElem?_map,List.getElem?_eq_getElem k1];rfl);obtain⟨u2,e2,r2⟩:=rv2.get (i:=j) (x:=V.str ys[j]) (by rw[List.getElem?_map,List.getElem?_eq_getElem k2];rfl);have g1:nO.toArray[j]=u1:=by
     have:=List.getElem?_eq_some_iff.mp e1;simpa using this.2
    have g2:jZ.toArray[j]=u2:=by
     have:=List.getElem?_eq_some_iff.mp e2;simpa using this.2
    rw[g1,g2];have q:=zdK (A:=A.in1) (s:=s) r1 r2 rfl rfl;have ev:eqV (V.str xs[j]) (V.str ys[j])=decide (xs[j]?=ys[j]?):=by
     rw[List.getElem?_eq_getElem k1,List.getElem?_eq_getElem k2]
     by_cases z:xs[j]=ys[j]<;>simp[eqV,z]
    rw[ev]at q;exact q
   have ea:((List.range nO.toArray.size).all λj=>decide (xs[j]?=ys[j]?))=decide (xs=ys):=by
    rw[Bool.eq_iff_iff,List.all_eq_true,decide_eq_true_iff]
    constructor
    . intro z;apply List.ext_getElem?;intro j
      by_cases hj:j<xs.length
      . exact of_decide_eq_true (z j (List.mem_range.mpr (by rw[l1]at hj;simpa using hj)))
      . rw[List.getElem?_eq_none (by omega),List.getElem?_eq_none (by omega)]
    . intro z j _;rw[z];simp
   have rc:=SeqAt.RcAt.lists (A:=A) (s:=s) sD.isList wZ.isList hs hu he;have rn:=SeqAt.RcNeAt.lists (A:=A) (s:=s) sD.isList wZ.isList hs hu he;rw[ea]at rc rn;exact⟨rc,rn⟩
 . have mX:(nO.toArray.size != jZ.toArray.size)=true:=by simp;omega
   have ed:decide (xs=ys)=false:=decide_eq_false λz=>hl (by rw[z]);rw[ed];exact⟨SeqAt.RcAt.lists_lengths sD.isList wZ.isList mX hu,SeqAt.RcNeAt.lists_lengths sD.isList wZ.isList mX hu⟩
def ziq(K:W.Frag)(f:Bool->Bool):R2:= λx y H Q=> ∃(a b:Addr) (xs ys:List Str),x= .ref a/\y= .ref b/\aY K H a (xs.map V.str)/\aY K H b (ys.map V.str)/\Q (.bl (f (decide (xs=ys)))) H
theorem zgA(hu:X.A.units<cLine):mZ X (compareOp .NotEq) (ziq X.K not):=by
 intro aA s σ H x y v u Q I rx ry h
 obtain⟨a,b,xs,ys,rfl,rfl,h1,h2,q⟩:=h
 cases rx
 cases ry
 exact(zeJ I hu h1 h2).2 _ _ _ _ ⟨.bl _,H,I,rfl,q⟩
def i3(H:Hp)(t:Addr)(p:List Int×V):Prop:= ∃a,H t=some (.tup [.ref a,p.2])/\H a=some (.tup (p.1.map V.int))
def iF(kvs:List (List Int×V)):List (List cB×V):=kvs.map λq=>(q.1.map .inl,q.2)
theorem zeM(a b:List (List Int×V)):iF (a++b)=iF a++iF b:=List.map_append ..
theorem pW(a:List (List Int×V)):(iF a).length=a.length:=bH ..
theorem zfC(xs:List Int):(xs.map (Sum.inl:Int->cB)).map kV=xs.map V.int:=by rw[List.map_map];rfl
theorem zbg{P:Program}{w:World}{H:Hp}{h:Heap}(ok:jG P w H h){ts:List Addr}{kvs:List (List Int×V)}(hp:Paired (i3 H) ts kvs): ∃more:List (List cB×Addr×Value),KT H (iF kvs) more/\more.map (·.1)=kvs.map (λp=>p.1.map Sum.inl)/\more.length=ts.length/\
 ∀(i:Nat) (t:Addr),ts[i]?=some t-> ∃p,more[i]?=some p/\(∃xs,H p.2.1=some (.tup xs))/\(∃xs,H t=some (.tup xs))/\TX.PutAt (aV P w) h t p:=by
 induction hp with
 |nil=>exact⟨[],.nil,rfl,rfl,λi t e=>nomatch e⟩
 |cons e r ih=>
  obtain⟨more,h1,h2,h0,h3⟩:=ih;obtain⟨a,ea,ek⟩:=e;obtain⟨_,bC,rv,o,e1,e2,m,e3⟩:=ok _ _ ea;obtain⟨u1,u2,rfl,r1,r2⟩:=rv.two;cases r1;have ek':=ek;rw[<-zfC]at ek';refine⟨(_,a,u2)::more,.cons ⟨rfl,ek',r2⟩ h1,by rw[List.map_cons,h2];rfl,by rw[List.length_cons,h0];rfl,λi t' hi=> ?_⟩;cases i with
  |zero=>
   cases hi;exact⟨_,rfl,⟨_,ek⟩,⟨_,ea⟩,⟨o,m,e1,e2,e3⟩,jJ ok ek'⟩
  |succ i=>exact h3 i t' hi
theorem zE{α β:Type}{F:α->β->Prop}{l l':List α}{m m':List β}(h:Paired F l m)(h':Paired F l' m'):Paired F (l++l') (m++m'):=by
 induction h with
 |nil=>exact h'
 |cons r _ ih=>exact .cons r ih
theorem tW{ks:List (List Int)}(h:ks.Nodup):(ks.map λk=>k.map (Sum.inl:Int->cB)).Nodup:=
 List.Pairwise.map _ (λa b sB e=>sB ((List.map_inj_right (λ_ _ z=>Sum.inl.inj z)).mp e)) h
def zke:List V->Hp->VK->Prop:= λxs H Q=> ∃(L:Addr) (ts:List Addr) (kvs:List (List Int×V)),xs=[.ref L]/\H L=some (.lst (ts.map V.ref))/\Paired (i3 H) ts kvs/\(kvs.map (·.1)).Nodup/\ ∀D,H D=none->Q (.ref D) (aN H D (.dT (iF kvs)))
theorem zY(hc:X.calm=true)(hu:X.A.units+2<cLine):fK X (.type "dict") zke:=by
 intro aA s σ H xs us Q I r h
 obtain⟨L,ts,kvs,rfl,hL,hP,hn,q⟩:=h
 obtain⟨u,rfl,rx⟩:=lI r
 cases rx
 obtain⟨hz,bC,n,rv,e⟩:=I.hok _ _ hL
 have ei:=kJ rv
 subst ei
 obtain⟨more,h1,h2,h0,h3⟩:=zbg I.hok hP
 have cQ:ts.length=kvs.length:=Paired.length hP
 rw[bH]at hz
 have nod:(more.map (·.1)).Nodup:=by
  rw[h2,show(kvs.map λp=>p.1.map (Sum.inl:Int->cB))=(kvs.map (·.1)).map λk=>k.map Sum.inl by rw[List.map_map];rfl];exact tW hn
 refine TX.call_dictH (knd:=aV X.prog X.w) (more:=more) (I.ok.hd hc) hu e (by simp[h0]) (by omega) nod (λi v hv=> ?_) λh' tk hd kp=> ?_
 . have sO:(ts.map Value.ref)[i]?=some v:=by simpa using hv
   rw[List.getElem?_map]at sO;obtain⟨t,ht,rfl⟩:=Option.map_eq_some_iff.mp sO;obtain⟨p,g1,_,_,g2⟩:=h3 i t ht;exact⟨t,p,rfl,g1,g2⟩
 . have hb:(s.heap.objs.size==sysModules)=false:=beq_eq_false_iff_ne.mpr (Ne.symm (Nat.ne_of_lt I.big));obtain⟨o,es,ep,g1,g2,g3,g4,_,g6⟩:=hd;have hf:H s.heap.objs.size=none:=I.hok.fresh (Nat.le_refl _);refine⟨.ref s.heap.objs.size,_,I.laid (a:=s.heap.objs.size) (o:= .dT (iF kvs)) (t':=tk) kp (Nat.le_refl _) ⟨by rw[pW];omega,hb,more,h1.keeps λb ys eb=>by rw[aD (aF eb hf)];exact eb,o,es,ep,g1,g2,g3,g4,g6⟩,rfl,q _ hf⟩
def zoq:V->List V->Hp->VK->Prop:= λx vs H Q=> ∃(D L:Addr) (ts:List Addr) (kvs more:List (List Int×V)),x= .ref D/\vs=[.ref L]/\H D=some (.dT (iF kvs))/\H L=some (.lst (ts.map V.ref))/\Paired (i3 H) ts more/\((kvs++more).map (·.1)).Nodup/\kvs.length+more.length<=sizeLine/\Q .non (aN H D (.dT (iF (kvs++more))))
theorem a7(hc:X.calm=true)(hu:X.A.units+1<cLine):MtR X "dict.update" zoq:=by
 intro aA s σ H x vs v us Q I rx rv h
 obtain⟨D,L,ts,kvs,mr,rfl,rfl,hD,hL,hP,hn,hsz,q⟩:=h
 cases rx
 obtain⟨u,rfl,ru⟩:=lI rv
 cases ru
 obtain⟨hz,bC,n,rv,e⟩:=I.hok _ _ hL
 have ei:=kJ rv
 subst ei
 obtain⟨z,hs,xs0,jI,dd⟩:=zfD I.hok hD
 obtain⟨more,h1,h2,h0,h3⟩:=zbg I.hok hP
 have cQ:ts.length=mr.length:=Paired.length hP
 have l0:xs0.length=kvs.length:=by rw[<-Paired.length jI,pW]
 have k0:xs0.map (·.1)=kvs.map (λp=>p.1.map (Sum.inl:Int->cB)):=by
  have: ∀{l:List (List cB×V)} {m:List (List cB×Addr×Value)},KT H l m->m.map (·.1)=l.map (·.1):=by
   intro l m t
   induction t with
   |nil=>rfl
   |cons a _ ih=>rw[List.map_cons,List.map_cons,ih,a.1]
  rw[this jI];unfold iF;rw[List.map_map];rfl
 have nod:((xs0++more).map (·.1)).Nodup:=by
  rw[List.map_append,k0,h2,<-List.map_append,show((kvs++mr).map λp=>p.1.map (Sum.inl:Int->cB))=((kvs++mr).map (·.1)).map λk=>k.map Sum.inl by rw[List.map_map];rfl];exact tW hn
 have nLD:L≠D:=cK hL hD (λz=>nomatch z)
 refine TX.call_updH (knd:=aV X.prog X.w) (xs:=xs0) (more:=more) (I.ok.hd hc) hu e nLD dd (by simp[h0]) (by omega) nod (λi v hv=> ?_) λh' tk hd kp=> ?_
 . have sO:(ts.map Value.ref)[i]?=some v:=by simpa using hv
   rw[List.getElem?_map]at sO;obtain⟨t,ht,rfl⟩:=Option.map_eq_some_iff.mp sO;obtain⟨p,g1,⟨_,g3⟩,⟨_,g4⟩,g2⟩:=h3 i t ht;exact⟨t,p,rfl,g1,cK g4 hD (λz=>nomatch z),cK g3 hD (λz=>nomatch z),g2⟩
 . obtain⟨o,es,ep,g1,g2,g3,g4,_,g6⟩:=hd;have tk': ∀ob b ys,H b=some (.tup ys)->aN H D ob b=some (.tup ys):= λob b ys eb=>by rw[aD (cK eb hD (λz=>nomatch z))];exact eb
   refine⟨.non,_,I.write (x:=D) (e:=D) (t':=tk) (by rw[hD];trivial) (.inl rfl) (λb q hb z=>kp b q hb z) ⟨o,g1⟩ (o:= .dT (iF (kvs++mr))) ⟨by rw[pW,List.length_append];omega,hs,xs0++more,?_,o,es,ep,g1,g2,g3,g4,g6⟩,rfl,q⟩;rw[zeM];exact zE (jI.keeps (tk' _)) (h1.keeps (tk' _))
end L2
namespace L2
open PySem PyProof.Rows
section
variable {X:Cx}
theorem zeC{A:Around}{k:Nat}(hr:eK k A):A.in1.units<cLine:=Nat.lt_of_le_of_lt (Nat.add_le_add_left (by omega) _) (zmS hr)
theorem zgB(hu:X.A.units<cLine):mZ X (compareOp .NotEq) (λx y H Q=> ∃(a b:Addr) (zs:List V),x= .ref a/\y= .ref b/\aY X.K H a zs/\aY X.K H b []/\Q (.bl (!zs.isEmpty)) H):=by
 intro aA s σ H x y v u Q I rx ry h
 obtain⟨a,b,zs,rfl,rfl,h1,h2,q⟩:=h
 cases rx
 cases ry
 obtain⟨nO,zC,sD,hz1⟩:=I.list h1
 obtain⟨jZ,rv2,wZ,hz2⟩:=I.list h2
 cases rv2
 cases zs with
 |nil=>
  cases zC;have rc:=SeqAt.RcNeAt.lists (A:=X.A) (s:=s) (e:= λ_=>true) sD.isList wZ.isList rfl hu λj j1 j2=>absurd j1 (by simp);exact rc _ _ _ _ ⟨.bl false,H,I,rfl,q⟩
 |cons z r=>
  cases zC with
  |cons h1 h2=>
   have rc:=SeqAt.RcNeAt.lists_lengths (A:=X.A) (s:=s) sD.isList wZ.isList (by simp) hu;exact rc _ _ _ _ ⟨.bl true,H,I,rfl,q⟩
end
end L2
namespace L2
open PySem PySem.Spec PyProof.Rows
variable {P:Program}{w:World}{A:Around}{E:Value->Shared->Prop}{s:Shared}{X:Cx}{t3:Bool}
theorem zcI{a:Addr}{Q:Option Obj->Shared->Prop}(q:Q (s.heap.get? a) s):wpAny (model P w) A (loadIfAlive a) Q E s:= λ_ _ _=>q
def fE(t:Bool)(h:Heap)(i l:Addr)(k:Nat):Prop:=match t with
 |false=>h.IsListIter i l k
 |true=>h.IsTupleIter i l k
def cW(t:Bool)(h:Heap)(l:Addr)(xs:Array Value):Prop:=match t with
 |false=>h.IsList l xs
 |true=>h.IsTuple l xs
theorem fE.at{t:Bool}{h h':Heap}{i l:Addr}{k:Nat}(x:fE t h i l k)(e: ∀o,h.get? i=some o->h'.get? i=some o):fE t h' i l k:=by
 cases t with
 |false=>exact Heap.IsListIter.at x e
 |true=>exact Heap.IsTupleIter.at x e
theorem cW.at{t:Bool}{h h':Heap}{l:Addr}{xs:Array Value}(x:cW t h l xs)(e: ∀o,h.get? l=some o->h'.get? l=some o):cW t h' l xs:=by
 cases t with
 |false=>obtain⟨o,ho,r⟩:=x;exact⟨o,e o ho,r⟩
 |true=>obtain⟨o,ho,r⟩:=x;exact⟨o,e o ho,r⟩
theorem fE.obj{t:Bool}{h:Heap}{i l:Addr}{k:Nat}(x:fE t h i l k): ∃o,h.get? i=some o/\ ∀v,o.data≠ .cell v:=by
 cases t with
 |false=>obtain⟨o,ho,_,d⟩:=x;exact⟨o,ho,λv z=>by rw[d]at z;cases z⟩
 |true=>obtain⟨o,ho,_,d⟩:=x;exact⟨o,ho,λv z=>by rw[d]at z;cases z⟩
theorem i4{it t:Addr}{i:Nat}{bC:Array Value}{x:Value}{Q:Value->Shared->Prop}(jH:s.heap.IsTupleIter it t i)(ht:s.heap.IsTuple t bC)(hx:bC[i]?=some x)
 (q: ∀h',h'.IsTupleIter it t (i+1)->Heap.SameBut it s.heap h'->Q x {s with heap:=h'}):wpAny (model P w) A (Builtin.SmallTypes.nextOf (.ref it)) Q E s:=by
 have ty:=jH.typeIs
 obtain⟨o,ho,hc,hd⟩:=jH
 obtain⟨ol,hol,_,nl,hdl⟩:=ht
 unfold Builtin.SmallTypes.nextOf
 refine wpAny_bind (wpAny_callSpecial?_slot (name:=Str.ofString "__next__") ty PySem.F.slot_tuple_iterator_next (wpAny_call_entry PySem.F.slot_tuple_iterator_next ty PySem.F.entry_tuple_iterator_next ?_ (PySem.F.args_tuple_iterator_next_1 _)))
 show wpAny _ _ (field (.ref it) 0>>=_) _ _ s
 refine wpAny_bind (wpAny_field ho hd (x:= .ref t) rfl ?_)
 show wpAny _ _ (if(Value.ref t==Value.none)=true then _ else _) _ _ s
 rw[if_neg (λz:(Value.ref t==Value.none)=true=>Bool.false_ne_true z)]
 show wpAny _ _ (field (.ref it) 1>>=_) _ _ s
 refine wpAny_bind (wpAny_field ho hd (x:= .int i 0) rfl (wpAny_bind (wpAny_seqItems hol hdl ?_)))
 simp only[Int.toNat_natCast,hx]
 refine wpAny_bind (wpAny_setField ho hd (by simp) (wpAny_pure ⟨x,rfl,wpAny_pure (q _ ⟨_,Heap.get?_update_self _ ho (Obj.isFreed_of_fields (Obj.data_mapFields hd _)),(Obj.cls_mapFields ..).trans hc,?_⟩ (Heap.SameBut.update ..))⟩))
 rw[Obj.data_mapFields hd];simp[rawInt]
theorem zck{it t:Addr}{i:Nat}{bC:Array Value}{Q:Value->Shared->Prop}(hh:A.handled=none)(jH:s.heap.IsTupleIter it t i)(ht:s.heap.IsTuple t bC)(hx:bC[i]?=none)
 (q: ∀h' e,Heap.ExtBut it s.heap h'->(∃o,h'.get? e=some o/\o.cls= .type "StopIteration")->E (.ref e) {s with heap:=h'}):wpAny (model P w) A (Builtin.SmallTypes.nextOf (.ref it)) Q E s:=by
 have ty:=jH.typeIs
 obtain⟨o,ho,hc,hd⟩:=jH
 obtain⟨ol,hol,_,nl,hdl⟩:=ht
 unfold Builtin.SmallTypes.nextOf
 refine wpAny_bind (wpAny_callSpecial?_slot (name:=Str.ofString "__next__") ty PySem.F.slot_tuple_iterator_next (wpAny_call_entry PySem.F.slot_tuple_iterator_next ty PySem.F.entry_tuple_iterator_next ?_ (PySem.F.args_tuple_iterator_next_1 _)))
 show wpAny _ _ (field (.ref it) 0>>=_) _ _ s
 refine wpAny_bind (wpAny_field ho hd (x:= .ref t) rfl ?_)
 show wpAny _ _ (if(Value.ref t==Value.none)=true then _ else _) _ _ s
 rw[if_neg (λz:(Value.ref t==Value.none)=true=>Bool.false_ne_true z)]
 show wpAny _ _ (field (.ref it) 1>>=_) _ _ s
 refine wpAny_bind (wpAny_field ho hd (x:= .int i 0) rfl (wpAny_bind (wpAny_seqItems hol hdl ?_)))
 simp only[Int.toNat_natCast,hx]
 refine wpAny_bind (wpAny_rule (wpAny_bind (wpAny_setField ho hd (by simp) ?_)))
 show wpAny _ _ (newExc (.type "StopIteration") []>>=_) _ _ _
 refine wpAny_bind ?_
 simp only[newExc,newTuple]
 refine wpAny_bind (wpAny_newObj_type (wpAny_bind (m:=firstArgMember _ _) (wpAny_of_eq (a:=Value.none) (by simp only[firstArgMember];rfl) (wpAny_newObj_type ?_ (by size_fits)))) (by size_fits))
 simp only[raiseNew]
 refine wpAny_bind (wpAny_handled ?_)
 rw[show A.in1.handled=none from hh]
 exact wpAny_bind (wpAny_pure (wpAny_throw (q _ _ (((Heap.SameBut.update ..).extBut.push _).push _) ⟨_,Heap.get?_push_size _ rfl,rfl⟩)))
theorem dE{t:Bool}{it l:Addr}{i:Nat}{bC:Array Value}{x:Value}{Q:Value->Shared->Prop}(jH:fE t s.heap it l i)(hl:cW t s.heap l bC)(hx:bC[i]?=some x)
 (q: ∀h',fE t h' it l (i+1)->Heap.SameBut it s.heap h'->Q x {s with heap:=h'}):wpAny (model P w) A (Builtin.SmallTypes.nextOf (.ref it)) Q E s:=by
 cases t with
 |false=>exact wpAny_nextOf_list_item jH hl hx q
 |true=>exact i4 jH hl hx q
theorem lB{t:Bool}{it l:Addr}{i:Nat}{bC:Array Value}{Q:Value->Shared->Prop}(hh:A.handled=none)(jH:fE t s.heap it l i)(hl:cW t s.heap l bC)(hx:bC[i]?=none)
 (q: ∀h' e,Heap.ExtBut it s.heap h'->(∃o,h'.get? e=some o/\o.cls= .type "StopIteration")->E (.ref e) {s with heap:=h'}):wpAny (model P w) A (Builtin.SmallTypes.nextOf (.ref it)) Q E s:=by
 cases t with
 |false=>exact wpAny_nextOf_list_end hh jH hl hx q
 |true=>exact zck hh jH hl hx q
def jY(h:Heap)(z TI TO:Addr)(f0 f1:Value):Prop:=h.get? z=some {cls:= .type "zip",dict:=none,data:= .fields #[f0,f1,.bool false,.ref TI,.ref TO],slots:= #[]}
theorem kX{z TI TO:Addr}{f0 f1:Value}{Q:Bool->Shared->Prop}(hz:jY s.heap z TI TO f0 f1)(hf:f0= .none\/ ∃T:Addr,f0=rawInt T)
 (q: ∀b h' vS,jY h' z TI TO f0 vS->Heap.SameBut z s.heap h'->Q b {s with heap:=h'}):wpAny (model P w) A (Builtin.SmallTypes.ownedTupleIsFree (.ref z)) Q E s:=by
 unfold Builtin.SmallTypes.ownedTupleIsFree
 refine wpAny_bind (wpAny_field hz rfl (x:=f0) rfl ?_)
 rcases hf with rfl|⟨T,rfl⟩
 . exact wpAny_pure (q true s.heap f1 hz ⟨rfl,λ_ _=>rfl⟩)
 . show wpAny _ _ (loadIfAlive _>>=_) Q E s
   refine wpAny_bind (zcI ?_);refine wpAny_ite_split (λ_=>wpAny_pure (q true s.heap f1 hz ⟨rfl,λ_ _=>rfl⟩)) (λ_=> ?_);refine wpAny_bind (wpAny_field hz rfl (x:=f1) rfl ?_);refine wpAny_ite_split (λ_=> ?_) (λ_=>wpAny_pure (q false s.heap f1 hz ⟨rfl,λ_ _=>rfl⟩));exact wpAny_bind (wpAny_setField_rec hz (by simp) λh' hz' hs=>wpAny_pure (q false h' (.bool true) hz' hs))
structure kM(t1 t2:Bool)(z TI TO i1 i2 l1 l2:Addr)(k:Nat)(h:Heap):Prop where
 zo: ∃f0 f1,jY h z TI TO f0 f1/\(f0= .none\/ ∃T:Addr,f0=rawInt T)
 ti:IsPair h TI (.ref i1) (.ref i2)
 to: ∃p q,IsPair h TO p q
 a1:fE t1 h i1 l1 k
 a2:fE t2 h i2 l2 k
theorem zhj{t1 t2:Bool}{z TI TO i1 i2 l1 l2:Addr}{k:Nat}{xs ys:Array Value}{x y:Value}{Q:Value->Shared->Prop}(D:ZipApart z TI TO i1 i2 l1 l2)(st:kM t1 t2 z TI TO i1 i2 l1 l2 k s.heap)
 (iP:cW t1 s.heap l1 xs) (bZ:cW t2 s.heap l2 ys) (hx:xs[k]?=some x) (hy:ys[k]?=some y)
 (q: ∀h',kM t1 t2 z TI TO i1 i2 l1 l2 (k+1) h'->IsPair h' s.heap.objs.size x y->(∀c o,c≠z->c≠TO->c≠i1->c≠i2->s.heap.get? c=some o->h'.get? c=some o)->Q (.ref s.heap.objs.size) {s with heap:=h'}):
 wpAny (model P w) A (Builtin.«zip.__next__» ⟨[.ref z],[]⟩) (λfN s'=> ∃v,fN= .done (.ret v)/\Q v s') E s:=by
 obtain⟨⟨f0,f1,hz,hf⟩,xM,⟨p,r,hTO⟩,h1,h2⟩:=st
 show wpAny _ _ (field (.ref z) 2>>=_) _ _ _
 refine wpAny_bind (wpAny_field hz rfl (x:= .bool false) rfl ?_)
 show wpAny _ _ (field (.ref z) 3>>=_) _ _ _
 refine wpAny_bind (wpAny_field hz rfl (x:= .ref TI) rfl (wpAny_bind (wpAny_seqItems xM rfl ?_)))
 show wpAny _ _ (Builtin.SmallTypes.ownedTupleIsFree (.ref z)>>=_) _ _ _
 refine wpAny_bind (kX hz hf λb h0 vS vY s0=> ?_)
 have e0: ∀{c:Addr},c≠z-> ∀o,s.heap.get? c=some o->h0.get? c=some o:= λn o e=>(s0.2 _ n).trans e
 replace xM:=e0 D.TIz _ xM
 replace hTO:=e0 D.TOz _ hTO
 replace h1:=h1.at (e0 D.i1z)
 replace h2:=h2.at (e0 D.i2z)
 replace iP:=iP.at (e0 D.l1z)
 replace bZ:=bZ.at (e0 D.l2z)
 have z0:h0.objs.size=s.heap.objs.size:=s0.1
 cases b with
 |true=>
  simp only[if_true];refine wpAny_bind (wpAny_rule (wpAny_bind (wpAny_field vY rfl (x:= .ref TO) rfl ?_)));refine wpAny_bind (wpAny_setField_rec vY (by simp) λg1 z1 s1=> ?_);replace z1:jY g1 z TI TO .ellipsis vS:=z1;refine wpAny_bind ?_;simp only[List.zipIdx_cons,List.zipIdx_nil,List.forIn_cons,List.forIn_nil];refine wpAny_bind (wpAny_bind (wpAny_onRaise ?_));show wpAny _ _ (Builtin.SmallTypes.nextOf (.ref i1)>>=_) _ _ _;refine wpAny_bind (dE (h1.at λo e=>(s1.2 _ D.i1z).trans e) (iP.at λo e=>(s1.2 _ D.l1z).trans e) hx λg2 b1 s2=>wpAny_pure ?_);have to2:IsPair g2 TO p r:=(s2.2 _ D.TOi1).trans ((s1.2 _ D.TOz).trans hTO);refine wpAny_bind (wpAny_seqItems to2 rfl (wpAny_bind (wpAny_updateSeq_pair to2 λg3 to3 s3=> ?_)));replace to3:IsPair g3 TO x r:=to3;refine wpAny_bind (wpAny_letGo (wpAny_pure (wpAny_bind (wpAny_bind (wpAny_onRaise ?_)))));show wpAny _ _ (Builtin.SmallTypes.nextOf (.ref i2)>>=_) _ _ _;refine wpAny_bind (dE (h2.at λo e=>(s3.2 _ D.TOi2.symm).trans ((s2.2 _ D.i12.symm).trans ((s1.2 _ D.i2z).trans e))) (bZ.at λo e=>(s3.2 _ D.l2TO).trans ((s2.2 _ D.l2i1).trans ((s1.2 _ D.l2z).trans e))) hy λg4 b2 s4=>wpAny_pure ?_);have to4:IsPair g4 TO x r:=(s4.2 _ D.TOi2).trans to3;refine wpAny_bind (wpAny_seqItems to4 rfl (wpAny_bind (wpAny_updateSeq_pair to4 λg5 to5 s5=> ?_)));replace to5:IsPair g5 TO x y:=to5;refine wpAny_bind (wpAny_letGo (wpAny_pure (wpAny_pure (wpAny_bind (wpAny_seqItems to5 rfl (wpAny_bind (wpAny_newTuple ?_)))))));have sz:g5.objs.size=s.heap.objs.size:=by rw[s5.1,s4.1,s3.1,s2.1,s1.1,z0]
  have z5:jY g5 z TI TO .ellipsis vS:=(s5.2 _ D.TOz.symm).trans ((s4.2 _ D.i2z.symm).trans ((s3.2 _ D.TOz.symm).trans ((s2.2 _ D.i1z.symm).trans z1)));have k5: ∀c o,c≠z->c≠TO->c≠i1->c≠i2->s.heap.get? c=some o->g5.get? c=some o:= λc o c1 c2 c3 c4 e=>(s5.2 _ c2).trans ((s4.2 _ c4).trans ((s3.2 _ c2).trans ((s2.2 _ c3).trans ((s1.2 _ c1).trans (e0 c1 o e)))));have a5:fE t1 g5 i1 l1 (k+1):=b1.at λo e=>(s5.2 _ D.TOi1.symm).trans ((s4.2 _ D.i12).trans ((s3.2 _ D.TOi1.symm).trans e));have c5:fE t2 g5 i2 l2 (k+1):=b2.at λo e=>(s5.2 _ D.TOi2.symm).trans e;have i5:IsPair g5 TI (.ref i1) (.ref i2):=(s5.2 _ D.TITO).trans ((s4.2 _ D.TIi2).trans ((s3.2 _ D.TITO).trans ((s2.2 _ D.TIi1).trans ((s1.2 _ D.TIz).trans xM))));show wpAny _ _ (Builtin.SmallTypes.ownedTupleHandOut (.ref z) (.ref g5.objs.size)>>=_) _ _ _;refine wpAny_bind ?_;unfold Builtin.SmallTypes.ownedTupleHandOut;have z6:jY (g5.push {cls:= .type "tuple",data:= .seq #[x,y]}) z TI TO .ellipsis vS:=Heap.get?_push_of_some _ z5;refine wpAny_bind (wpAny_setField_rec z6 (by simp) λg7 z7 s7=> ?_);replace z7:jY g7 z TI TO (rawInt g5.objs.size) vS:=z7;refine wpAny_setField_rec z7 (by simp) λg8 z8 s8=> ?_;replace z8:jY g8 z TI TO (rawInt g5.objs.size) (.bool false):=z8;have up: ∀c o,c≠z->g5.get? c=some o->g8.get? c=some o:= λc o c1 e=>(s8.2 _ c1).trans ((s7.2 _ c1).trans (Heap.get?_push_of_some _ e));have nz:g5.objs.size≠z:=Nat.ne_of_gt (Heap.lt_size z5);have new:IsPair g8 g5.objs.size x y:=(s8.2 _ nz).trans ((s7.2 _ nz).trans (Heap.get?_push_size _ rfl));refine wpAny_pure ⟨_,rfl,?_⟩;show Q (.ref g5.objs.size) _;rw[sz]at new ⊢;exact q g8 ⟨⟨_,_,z8,.inr ⟨_,rfl⟩⟩,up _ _ D.TIz i5,⟨_,_,up _ _ D.TOz to5⟩,a5.at λo e=>up _ o D.i1z e,c5.at λo e=>up _ o D.i2z e⟩ new λc o c1 c2 c3 c4 e=>up c o c1 (k5 c o c1 c2 c3 c4 e)
 |false=>
  simp only[Bool.false_eq_true,if_false];refine wpAny_bind ?_;show wpAny _ _ (forIn #[Value.ref i1,.ref i2] _ _) _ _ _;rw[<-Array.forIn_toList];show wpAny _ _ (forIn [Value.ref i1,.ref i2] _ _) _ _ _;simp only[List.forIn_cons,List.forIn_nil];refine wpAny_bind (wpAny_bind (wpAny_holding ?_));show wpAny _ _ (Builtin.SmallTypes.nextOf (.ref i1)>>=_) _ _ _;refine wpAny_bind (dE h1 iP hx λg2 b1 s2=>wpAny_pure (wpAny_pure (wpAny_bind (wpAny_bind (wpAny_holding ?_)))));show wpAny _ _ (Builtin.SmallTypes.nextOf (.ref i2)>>=_) _ _ _;refine wpAny_bind (dE (h2.at λo e=>(s2.2 _ D.i12.symm).trans e) (bZ.at λo e=>(s2.2 _ D.l2i1).trans e) hy λg4 b2 s4=>wpAny_pure (wpAny_pure (wpAny_pure ?_)));show wpAny _ _ (newTuple [x,y]>>=_) _ _ _;refine wpAny_bind (wpAny_newTuple (wpAny_pure ⟨_,rfl,?_⟩));have sz:g4.objs.size=s.heap.objs.size:=by rw[s4.1,s2.1,z0]
  have k4: ∀c o,c≠i1->c≠i2->h0.get? c=some o->g4.get? c=some o:= λc o c3 c4 e=>(s4.2 _ c4).trans ((s2.2 _ c3).trans e);have up: ∀c o,g4.get? c=some o->(g4.push {cls:= .type "tuple",data:= .seq #[x,y]}).get? c=some o:= λc o e=>Heap.get?_push_of_some _ e;have new:IsPair (g4.push {cls:= .type "tuple",data:= .seq #[x,y]}) g4.objs.size x y:=Heap.get?_push_size _ rfl;show Q (.ref g4.objs.size) _;rw[sz]at new ⊢;exact q _ ⟨⟨_,_,up _ _ (k4 _ _ D.i1z.symm D.i2z.symm vY),hf⟩,up _ _ (k4 _ _ D.TIi1 D.TIi2 xM),⟨_,_,up _ _ (k4 _ _ D.TOi1 D.TOi2 hTO)⟩,b1.at λo e=>up _ o ((s4.2 _ D.i12).trans e),b2.at λo e=>up _ o e⟩ new λc o c1 c2 c3 c4 e=>up c o (k4 c o c3 c4 (e0 c1 o e))
theorem zkB{t1 t2:Bool}{z TI TO i1 i2 l1 l2:Addr}{k:Nat}{xs:Array Value}{Q:PySem.Fin->Shared->Prop}(hh:A.handled=none)(D:ZipApart z TI TO i1 i2 l1 l2)(st:kM t1 t2 z TI TO i1 i2 l1 l2 k s.heap)
 (iP:cW t1 s.heap l1 xs) (hx:xs[k]?=none)
 (q: ∀h' e,(∀c o,c≠z->c≠TO->c≠i1->c≠i2->s.heap.get? c=some o->h'.get? c=some o)->(∃o,h'.get? e=some o/\o.cls= .type "StopIteration")->E (.ref e) {s with heap:=h'}):
 wpAny (model P w) A (Builtin.«zip.__next__» ⟨[.ref z],[]⟩) Q E s:=by
 obtain⟨⟨f0,f1,hz,hf⟩,xM,⟨p,r,hTO⟩,h1,h2⟩:=st
 show wpAny _ _ (field (.ref z) 2>>=_) _ _ _
 refine wpAny_bind (wpAny_field hz rfl (x:= .bool false) rfl ?_)
 show wpAny _ _ (field (.ref z) 3>>=_) _ _ _
 refine wpAny_bind (wpAny_field hz rfl (x:= .ref TI) rfl (wpAny_bind (wpAny_seqItems xM rfl ?_)))
 show wpAny _ _ (Builtin.SmallTypes.ownedTupleIsFree (.ref z)>>=_) _ _ _
 refine wpAny_bind (kX hz hf λb h0 vS vY s0=> ?_)
 have e0: ∀{c:Addr},c≠z-> ∀o,s.heap.get? c=some o->h0.get? c=some o:= λn o e=>(s0.2 _ n).trans e
 replace h1:=h1.at (e0 D.i1z)
 replace iP:=iP.at (e0 D.l1z)
 cases b with
 |true=>
  simp only[if_true];refine wpAny_bind (wpAny_rule (wpAny_bind (wpAny_field vY rfl (x:= .ref TO) rfl ?_)));refine wpAny_bind (wpAny_setField_rec vY (by simp) λg1 z1 s1=> ?_);replace z1:jY g1 z TI TO .ellipsis vS:=z1;refine wpAny_bind ?_;simp only[List.zipIdx_cons,List.zipIdx_nil,List.forIn_cons,List.forIn_nil];refine wpAny_bind (wpAny_bind (wpAny_onRaise ?_));show wpAny _ _ (Builtin.SmallTypes.nextOf (.ref i1)>>=_) _ _ _;refine wpAny_bind (lB hh (h1.at λo e=>(s1.2 _ D.i1z).trans e) (iP.at λo e=>(s1.2 _ D.l1z).trans e) hx λg2 e s2 he=> ?_);obtain⟨oe,hoe,hce⟩:=he;have z2:jY g2 z TI TO .ellipsis vS:=s2 _ _ D.i1z.symm z1;have ez:e≠z:= λx=>by rw[x,z2]at hoe;cases hoe;simp at hce
  exact wpAny_setField_rec z2 (by simp) λg3 _ s3=>q g3 e (λc o c1 _ c3 _ x=>(s3.2 _ c1).trans (s2 _ _ c3 ((s1.2 _ c1).trans (e0 c1 o x)))) ⟨oe,(s3.2 _ ez).trans hoe,hce⟩
 |false=>
  simp only[Bool.false_eq_true,if_false];refine wpAny_bind ?_;show wpAny _ _ (forIn #[Value.ref i1,.ref i2] _ _) _ _ _;rw[<-Array.forIn_toList];show wpAny _ _ (forIn [Value.ref i1,.ref i2] _ _) _ _ _;simp only[List.forIn_cons,List.forIn_nil];refine wpAny_bind (wpAny_bind (wpAny_holding ?_));show wpAny _ _ (Builtin.SmallTypes.nextOf (.ref i1)>>=_) _ _ _;exact wpAny_bind (lB hh h1 iP hx λg2 e s2 he=>q g2 e (λc o c1 _ c3 _ x=>s2 _ _ c3 (e0 c1 o x)) he)
theorem zhb{t1 t2:Bool}{z TI TO i1 i2 l1 l2:Addr}{k:Nat}{xs ys:Array Value}{x y:Value}{Q:Option Value->Shared->Prop}(D:ZipApart z TI TO i1 i2 l1 l2)(st:kM t1 t2 z TI TO i1 i2 l1 l2 k s.heap)
 (iP:cW t1 s.heap l1 xs) (bZ:cW t2 s.heap l2 ys) (hx:xs[k]?=some x) (hy:ys[k]?=some y)
 (q: ∀h',kM t1 t2 z TI TO i1 i2 l1 l2 (k+1) h'->IsPair h' s.heap.objs.size x y->(∀c o,c≠z->c≠TO->c≠i1->c≠i2->s.heap.get? c=some o->h'.get? c=some o)->Q (some (.ref s.heap.objs.size)) {s with heap:=h'}):
 wpAny (model P w) A (pyNext (.ref z)) Q E s:=by
 have ty:s.TypeIs (.ref z) "zip" :=let⟨_,_,hz,_⟩:=st.zo;⟨_,hz,rfl⟩
 unfold pyNext
 exact wpAny_bind (wpAny_attempt (wpAny_callSpecial?_slot (name:=Str.ofString "__next__") ty PySem.F.slot_zip_next (wpAny_call_entry PySem.F.slot_zip_next ty PySem.F.entry_zip_next (zhj D st iP bZ hx hy λh' a1 a2 a3=>wpAny_pure (q h' a1 a2 a3)) (PySem.F.args_zip_next_1 _))))
theorem zjZ{t1 t2:Bool}{z TI TO i1 i2 l1 l2:Addr}{k:Nat}{xs:Array Value}{Q:Option Value->Shared->Prop}(hh:A.handled=none)(D:ZipApart z TI TO i1 i2 l1 l2)(st:kM t1 t2 z TI TO i1 i2 l1 l2 k s.heap)
 (iP:cW t1 s.heap l1 xs) (hx:xs[k]?=none) (q: ∀h',(∀c o,c≠z->c≠TO->c≠i1->c≠i2->s.heap.get? c=some o->h'.get? c=some o)->Q none {s with heap:=h'}):wpAny (model P w) A (pyNext (.ref z)) Q E s:=by
 have ty:s.TypeIs (.ref z) "zip" :=let⟨_,_,hz,_⟩:=st.zo;⟨_,hz,rfl⟩
 unfold pyNext
 refine wpAny_bind (wpAny_attempt (wpAny_callSpecial?_slot (name:=Str.ofString "__next__") ty PySem.F.slot_zip_next (wpAny_call_entry PySem.F.slot_zip_next ty PySem.F.entry_zip_next (zkB hh D st iP hx λh' e kk ⟨oe,hoe,hce⟩=> ?_) (PySem.F.args_zip_next_1 _))))
 exact wpAny_bind (wpAny_isInstance (T:= "StopIteration") (b:=true) ⟨_,hoe,hce⟩ isSubtype_stop (wpAny_pure (q h' kk)))
def itO(t:Bool)(l:Addr):Obj:={cls:= .type (if t=true then "tuple_iterator" else "list_iterator"),data:= .fields #[.ref l,.int 0 0]}
abbrev zq2(t1 t2:Bool)(h:Heap)(l1 l2:Addr):Heap:=(h.push (itO t1 l1)).push (itO t2 l2)
abbrev zq3(t1 t2:Bool)(h:Heap)(l1 l2:Addr):Heap:=(zq2 t1 t2 h l1 l2).push {cls:= .type "tuple",data:= .seq #[.ref h.objs.size,.ref (h.push (itO t1 l1)).objs.size]}
abbrev zq4(t1 t2:Bool)(h:Heap)(l1 l2:Addr):Heap:=(zq3 t1 t2 h l1 l2).push {cls:= .type "tuple",data:= .seq #[.none,.none]}
abbrev zq5(t1 t2:Bool)(h:Heap)(l1 l2:Addr):Heap:=(zq4 t1 t2 h l1 l2).push {cls:= .type "zip",data:= .fields #[.none,.bool false,.bool false,.ref (zq2 t1 t2 h l1 l2).objs.size,.ref (zq3 t1 t2 h l1 l2).objs.size]}
theorem zfu(t1 t2:Bool)(l1 l2:Addr)(xs ys:Array Value):Meets (Builtin.«zip.__new__» ⟨[.type "zip",.ref l1,.ref l2],[]⟩) (λ_ R s=>(cW t1 s.heap l1 xs/\cW t2 s.heap l2 ys)/\R (.ok (.ret (.ref (zq4 t1 t2 s.heap l1 l2).objs.size))) {s with heap:=zq5 t1 t2 s.heap l1 l2}):=
 .of_wp λprog w A R s ⟨⟨k1,k2⟩,h⟩=>by
  obtain⟨hp,g,d,tk,os⟩:=s;have sub:=sub_zip;have k2':=cW.at k2 (h':=hp.push (itO t1 l1)) λo e=>Heap.get?_push_of_some _ e;cases t1<;>cases t2
  . have c1:Heap.IsList (Shared.heap ⟨hp,g,d,tk,os⟩) l1 xs:=k1;have c2:Heap.IsList (Shared.heap ⟨hp.push {cls:= .type "list_iterator",data:= .fields #[.ref l1,.int 0 0]},g,d,tk,os⟩) l2 ys:=k2'
    wp_walk using wpAny_pyIter_list c1,wpAny_pyIter_list c2
    exact⟨_,rfl,h⟩
  . have c1:Heap.IsList (Shared.heap ⟨hp,g,d,tk,os⟩) l1 xs:=k1;have c2:Heap.IsTuple (Shared.heap ⟨hp.push {cls:= .type "list_iterator",data:= .fields #[.ref l1,.int 0 0]},g,d,tk,os⟩) l2 ys:=k2'
    wp_walk using wpAny_pyIter_list c1,wpAny_pyIter_tuple c2
    exact⟨_,rfl,h⟩
  . have c1:Heap.IsTuple (Shared.heap ⟨hp,g,d,tk,os⟩) l1 xs:=k1;have c2:Heap.IsList (Shared.heap ⟨hp.push {cls:= .type "tuple_iterator",data:= .fields #[.ref l1,.int 0 0]},g,d,tk,os⟩) l2 ys:=k2'
    wp_walk using wpAny_pyIter_tuple c1,wpAny_pyIter_list c2
    exact⟨_,rfl,h⟩
  . have c1:Heap.IsTuple (Shared.heap ⟨hp,g,d,tk,os⟩) l1 xs:=k1;have c2:Heap.IsTuple (Shared.heap ⟨hp.push {cls:= .type "tuple_iterator",data:= .fields #[.ref l1,.int 0 0]},g,d,tk,os⟩) l2 ys:=k2'
    wp_walk using wpAny_pyIter_tuple c1,wpAny_pyIter_tuple c2
    exact⟨_,rfl,h⟩
theorem pS{t:Bool}{h:Heap}{i l:Addr}(e:h.get? i=some (itO t l)):fE t h i l 0:=by
 cases t with
 |false=>exact⟨_,e,rfl,rfl⟩
 |true=>exact⟨_,e,rfl,rfl⟩
theorem zkk{t1 t2:Bool}{l1 l2:Addr}{xs ys:Array Value}{Q:Value->Shared->Prop}(iP:cW t1 s.heap l1 xs)(bZ:cW t2 s.heap l2 ys)
 (q: ∀h',kM t1 t2 (s.heap.objs.size+4) (s.heap.objs.size+2) (s.heap.objs.size+3) s.heap.objs.size (s.heap.objs.size+1) l1 l2 0 h'->(∀c o,s.heap.get? c=some o->h'.get? c=some o)->Q (.ref (s.heap.objs.size+4)) {s with heap:=h'}):
 wpAny (model P w) A (call (.type "zip") [.ref l1,.ref l2]) Q E s:=by
 refine callType_new PySem.F.called_zip (by decide) (PySem.F.typeCall_zip_2 _ _) (PySem.F.newCall_zip_2 _ _) (λobj=>PySem.F.args_object_init_3 obj _ _) PySem.F.entry_zip_new (zfu t1 t2 l1 l2 xs ys) ⟨⟨iP,bZ⟩,?_⟩
 have y1:(s.heap.push (itO t1 l1)).objs.size=s.heap.objs.size+1:=Heap.size_push ..
 have y2:(zq2 t1 t2 s.heap l1 l2).objs.size=s.heap.objs.size+2:=by rw[Heap.size_push,y1]
 have y3:(zq3 t1 t2 s.heap l1 l2).objs.size=s.heap.objs.size+3:=by rw[Heap.size_push,y2]
 have y4:(zq4 t1 t2 s.heap l1 l2).objs.size=s.heap.objs.size+4:=by rw[Heap.size_push,y3]
 have nf: ∀t l,(itO t l).isFreed=false:= λt l=>rfl
 have g5:(zq5 t1 t2 s.heap l1 l2).get? (zq4 t1 t2 s.heap l1 l2).objs.size=some _:=Heap.get?_push_size _ rfl
 have g4:(zq5 t1 t2 s.heap l1 l2).get? (zq3 t1 t2 s.heap l1 l2).objs.size=some _:=Heap.get?_push_of_some _ (Heap.get?_push_size _ rfl)
 have g3:(zq5 t1 t2 s.heap l1 l2).get? (zq2 t1 t2 s.heap l1 l2).objs.size=some _:=Heap.get?_push_of_some _ (Heap.get?_push_of_some _ (Heap.get?_push_size _ rfl))
 have g2:(zq5 t1 t2 s.heap l1 l2).get? (s.heap.push (itO t1 l1)).objs.size=some _:=Heap.get?_push_of_some _ (Heap.get?_push_of_some _ (Heap.get?_push_of_some _ (Heap.get?_push_size _ (nf t2 l2))))
 have g1:(zq5 t1 t2 s.heap l1 l2).get? s.heap.objs.size=some _:=Heap.get?_push_of_some _ (Heap.get?_push_of_some _ (Heap.get?_push_of_some _ (Heap.get?_push_of_some _ (Heap.get?_push_size _ (nf t1 l1)))))
 show _/\_
 rw[y2,y3,y4]at g5
 rw[y1,y2]at g3
 rw[y3]at g4
 rw[y1]at g2
 rw[y4]
 exact⟨⟨_,g5,rfl⟩,q _ ⟨⟨_,_,g5,.inl rfl⟩,g3,⟨_,_,g4⟩,pS g1,pS g2⟩ λc o x=>Heap.get?_push_of_some _ (Heap.get?_push_of_some _ (Heap.get?_push_of_some _ (Heap.get?_push_of_some _ (Heap.get?_push_of_some _ x))))⟩
def vZ(t:Bool)(K:W.Frag)(H:Hp)(a:Addr)(xs:List V):Prop:=match t with
 |false=>aY K H a xs
 |true=>fR K H a xs
section
variable {aA:List (Addr×Obj)}{σ:St}{H:Hp}{t:Bool}{a:Addr}{xs ys:List V}
theorem aM.seqX(I:aM X aA σ H s)(h:vZ t X.K H a xs): ∃bC:List Value,bK xs bC/\cW t s.heap a bC.toArray/\xs.length<=sizeLine:=by
 cases t with
 |false=>obtain⟨bC,r,p,z⟩:=I.list h;exact⟨bC,r,p.isList,z⟩
 |true=>
  obtain⟨bC,r,p,z⟩:=I.tuple h;obtain⟨o,e,c,n,d⟩:=p;exact⟨bC,r,⟨o,e,c,n,d⟩,z⟩
theorem aM.injX(I:aM X aA σ H s)(h:vZ t X.K H a xs)(h':vZ t X.K H a ys):xs=ys:=by
 cases t with
 |false=>exact I.list_inj h h'
 |true=>exact I.tuple_inj h h'
end
def Itk(t1 t2:Bool)(K:W.Frag)(a b:Addr):It:=
 ⟨λi H=> ∃xs ys x y,vZ t1 K H a xs/\vZ t2 K H b ys/\xs[i]?=some x/\ys[i]?=some y,
  λi H v H'=> ∃T,H T=none/\v= .ref T/\ ∀xs ys,vZ t1 K H a xs->vZ t2 K H b ys-> ∃x y,xs[i]?=some x/\ys[i]?=some y/\H'=aN H T (.tup [x,y]),
  λi H=> ∃xs,vZ t1 K H a xs/\xs.length<=i⟩
theorem kM.obj{t1 t2:Bool}{z TI TO i1 i2 a b:Addr}{i:Nat}{h:Heap}(st:kM t1 t2 z TI TO i1 i2 a b i h): ∀c∈ [z,TI,TO,i1,i2],∃o,h.get? c=some o/\ ∀v,o.data≠ .cell v:= λc hc=>by
 obtain⟨⟨f0,f1,h1,_⟩,h2,⟨p,q,h3⟩,h4,h5⟩:=st
 simp only[List.mem_cons,List.not_mem_nil,or_false]at hc
 rcases hc with rfl|rfl|rfl|rfl|rfl
 . exact⟨_,h1,λv z=>nomatch (show Data.fields _=Data.cell v from z)⟩
 . exact⟨_,h2,λv z=>nomatch (show Data.seq _ _=Data.cell v from z)⟩
 . exact⟨_,h3,λv z=>nomatch (show Data.seq _ _=Data.cell v from z)⟩
 . exact h4.obj
 . exact h5.obj
theorem kM.keep{t1 t2:Bool}{z TI TO i1 i2 a b:Addr}{i:Nat}{h h':Heap}(st:kM t1 t2 z TI TO i1 i2 a b i h)(kk: ∀c∈ [z,TI,TO,i1,i2],∀o,h.get? c=some o->h'.get? c=some o):kM t1 t2 z TI TO i1 i2 a b i h':=by
 obtain⟨⟨f0,f1,h1,hf⟩,h2,⟨p,q,h3⟩,h4,h5⟩:=st
 exact⟨⟨f0,f1,kk z (by simp) _ h1,hf⟩,kk TI (by simp) _ h2,⟨p,q,kk TO (by simp) _ h3⟩,h4.at λo e=>kk i1 (by simp) o e,h5.at λo e=>kk i2 (by simp) o e⟩
theorem zaT{P:Program}{w:World}{A:Around}{E:Value->Shared->Prop}{s:Shared}{t1 t2:Bool}{z TI TO i1 i2 a b:Addr}{i:Nat}{Q:Value->Shared->Prop}(st:kM t1 t2 z TI TO i1 i2 a b i s.heap)(q:Q (.ref z) s):wpAny (model P w) A (pyIter (.ref z)) Q E s:=by
 have ty:s.TypeIs (.ref z) "zip" :=let⟨_,_,hz,_⟩:=st.zo;⟨_,hz,rfl⟩
 refine wpAny_pyIter_slot ty PySem.F.slot_zip_iter (wpAny_call_entry PySem.F.slot_zip_iter ty PySem.F.entry_zip_iter ?_ (PySem.F.args_zip_iter_1 _))
 show wpAny _ _ (ret (.ref z)) _ _ s
 exact wpAny_pure ⟨_,rfl,"zip",_,ty,PySem.F.slot_zip_next.lookup,q⟩
theorem zhi{X:Cx}{aA:List (Addr×Obj)}{σ:St}{H:Hp}{s:Shared}{A:Around}{E:Value->Shared->Prop}{t1 t2:Bool}{z TI TO i1 i2 a b:Addr}{i:Nat}{xs ys:List V}{x y:V}{Q:Option Value->Shared->Prop}(D:ZipApart z TI TO i1 i2 a b)(I:aM X aA σ H s)(hf: ∀c∈ [z,TI,TO,i1,i2],fB X aA H c)(st:kM t1 t2 z TI TO i1 i2 a b i s.heap)
 (h1:vZ t1 X.K H a xs) (h2:vZ t2 X.K H b ys) (hx:xs[i]?=some x) (hy:ys[i]?=some y)
 (q: ∀T s',H T=none->aM X aA σ (aN H T (.tup [x,y])) s'->kM t1 t2 z TI TO i1 i2 a b (i+1) s'.heap->(∀c∈ [z,TI,TO,i1,i2],aN H T (.tup [x,y]) c=none)->s.heap.objs.size<=T->Q (some (.ref T)) s'):wpAny (model X.prog X.w) A (pyNext (.ref z)) Q E s:=by
 obtain⟨nO,zC,sD,hz1⟩:=I.seqX h1
 obtain⟨jZ,rv2,wZ,hz2⟩:=I.seqX h2
 obtain⟨u1,hu1,ru1⟩:=zC.get hx
 obtain⟨u2,hu2,ru2⟩:=rv2.get hy
 have ob:=st.obj
 refine zhb D st sD wZ (x:=u1) (y:=u2) (by simpa using hu1) (by simpa using hu2) λh' sM pr kk=> ?_
 have kp: ∀c o,c∉ [z,TI,TO,i1,i2]->s.heap.get? c=some o->h'.get? c=some o:= λc o hc e=>by
  simp only[List.mem_cons,List.not_mem_nil,or_false,not_or]at hc;exact kk c o hc.1 hc.2.2.1 hc.2.2.2.1 hc.2.2.2.2 e
 refine q s.heap.objs.size _ I.fresh (I.turnLaid (o:= .tup [x,y]) (t':=s.toks) hf kp (Nat.le_refl _) ⟨by show 2<=sizeLine;rw[sizeLine_eq];decide,[u1,u2],.cons ru1 (.cons ru2 .nil),⟨_,pr,rfl,_,rfl⟩⟩) sM (λc hc=> ?_) (Nat.le_refl _)
 obtain⟨o,ho,_⟩:=ob c hc
 rw[aD (Nat.ne_of_lt (Heap.lt_size ho))]
 exact(hf c hc).1
theorem zgI{X:Cx}{aA:List (Addr×Obj)}{σ:St}{H:Hp}{s:Shared}{A:Around}{E:Value->Shared->Prop}{t1 t2:Bool}{z TI TO i1 i2 a b:Addr}{i:Nat}{xs:List V}{Q:Option Value->Shared->Prop}(hh:A.handled=none)(D:ZipApart z TI TO i1 i2 a b)(I:aM X aA σ H s)(hf: ∀c∈ [z,TI,TO,i1,i2],fB X aA H c)(st:kM t1 t2 z TI TO i1 i2 a b i s.heap)
 (h1:vZ t1 X.K H a xs) (hx:xs.length<=i) (q: ∀s',aM X aA σ H s'->(∀c o,c∉ [z,TI,TO,i1,i2]->s.heap.get? c=some o->s'.heap.get? c=some o)->Q none s'):wpAny (model X.prog X.w) A (pyNext (.ref z)) Q E s:=by
 obtain⟨nO,zC,sD,hz1⟩:=I.seqX h1
 have l1:=zC.length
 refine zjZ hh D st sD (by simp;omega) λh' kk=> ?_
 have kp: ∀c o,c∉ [z,TI,TO,i1,i2]->s.heap.get? c=some o->h'.get? c=some o:= λc o hc e=>by
  simp only[List.mem_cons,List.not_mem_nil,or_false,not_or]at hc;exact kk c o hc.1 hc.2.2.1 hc.2.2.2.1 hc.2.2.2.2 e
 exact q _ (I.turnedL (t':=s.toks) hf kp) kp
theorem zgS{P:Program}{w:World}{K:W.Frag}{t1 t2:Bool}{n:Str}{pos:Pos}{z TI TO i1 i2 a b:Addr}(D:ZipApart z TI TO i1 i2 a b):oW P w K (.Name n pos) (Itk t1 t2 K a b) [z,TI,TO,i1,i2] z (kM t1 t2 z TI TO i1 i2 a b) where
 mem:=by simp
 obj:= λi h st=>st.obj
 keep:= λi h h' st kk=>st.keep kk
 item:=by
  intro X hP hw hK hc i aA s σ H E I hf st ⟨xs,ys,x,y,h1,h2,hx,hy⟩;subst hP hw hK;refine zhi D I hf st h1 h2 hx hy λT s' hT I' sM hn _=>⟨_,rfl,?_⟩;exact wpAny_pure ⟨.ref T,_,I',rfl,⟨T,hT,rfl,λxs' sL g1 g2=>⟨x,y,by rw[I.injX g1 h1];exact hx,by rw[I.injX g2 h2];exact hy,rfl⟩⟩,sM,hn⟩
 done:=by
  intro X hP hw hK hc i aA s σ H E I hf st ⟨xs,h1,hl⟩;subst hP hw hK;exact zgI (I.ok.hd hc) D I hf st h1 hl λs' I' _=>⟨rfl,I'⟩
 self:= λA i s Q E st h=>zaT st h
def zoU(t1 t2:Bool)(K:W.Frag)(ta:TA):TI:= λσ H R=>ta σ H λvs H1=> ∃a b,vs=[.ref a,.ref b]/\(∃xs,vZ t1 K H1 a xs)/\(∃ys,vZ t2 K H1 b ys)/\R (Itk t1 t2 K a b) H1
theorem cW.lt{t:Bool}{h:Heap}{l:Addr}{xs:Array Value}(x:cW t h l xs):l<h.objs.size:=by
 cases t with
 |false=>obtain⟨o,ho,_⟩:=x;exact Heap.lt_size ho
 |true=>obtain⟨o,ho,_⟩:=x;exact Heap.lt_size ho
theorem zhM{X:Cx}(t1 t2:Bool){n:Str}{oT:Pos}{l l2:Expr}{ta:TA}{p pos:Pos}(hg:Gl X "zip")(hm:X.mg "zip" =none)(ha:PA X [l,l2] ta)(hs:starEach [l,l2] X.env=[(false,eval l X.env),(false,eval l2 X.env)]:=by rfl)(yG:starEach [l2] X.env=[(false,eval l2 X.env)]:=by rfl):
 PI X (.Name n oT) (.Call (.Name "zip" p) [l,l2] [] pos) (zoU t1 t2 X.K ta):=by
 intro aA s σ H R I h
 refine Call_ (iV I hg hm (show bootBuiltins "zip" =some (.type "zip") by decide+kernel) (PyProof.Rows.callWith_type1 (cH (ha pos aA s σ H _ I h) λus s1 ⟨vs,H1,I1,r1,q1⟩=> ?_) (by rw[hs,yG]) (by rw[yG];rfl)))
 obtain⟨a,b,e,⟨xs,hq1⟩,⟨ys,hq2⟩,q⟩:=q1
 subst e
 obtain⟨u1,u2,rfl,r1,r2⟩:=r1.two
 cases r1
 cases r2
 obtain⟨nO,zC,sD,hz1⟩:=I1.seqX hq1
 obtain⟨jZ,rv2,wZ,hz2⟩:=I1.seqX hq2
 have la:=sD.lt
 have lb:=wZ.lt
 refine zkk sD wZ λh' st kk=> ?_
 have I2:aM X aA σ H1 {s1 with heap:=h'}:=I1.kept (t':=s1.toks) kk
 refine zaT (s:={s1 with heap:=h'}) st ⟨_,_,_,_,H1,rfl,I2,zgS (zipApart_new la lb),st,λc hc=> ?_,q⟩
 have mE:s1.heap.objs.size<=c:=by
  simp only[List.mem_cons,List.not_mem_nil,or_false]at hc
  rcases hc with rfl|rfl|rfl|rfl|rfl<;>omega
 exact I1.fpOk mE (I1.hok.fresh mE)
section
variable {tg:Expr}
end
theorem aR.relab{own fr:List Str}{scope outer:Scope}{env:Env}(S:aR own fr scope outer):aR own fr scope (relabel outer env):=by
 refine⟨S.kind,S.nocell,S.names,S.nd,λy hy hf=> ?_,S.frs,S.owns⟩
 have q:=eP (env:=env) outer.names y.1
 rcases S.outs y hy hf with e|e
 . rw[e]at q;exact .inl q
 . rw[e]at q
   by_cases hc:(NameKind.free==NameKind.free&&env.scope.kind== .function&&env.kindOf y.1==some .cell)=true
   . refine .inl (q.trans ?_);simp only[Option.map_some];rw[if_pos hc]
   . refine .inr (q.trans ?_);simp only[Option.map_some];rw[if_neg hc]
structure fS(z:Str)(fr:List Str)(scope:Scope)(outer:Scope):Prop where
 kind:scope.kind= .function
 cell: ∀y∈scope.names,y.2= .cell->y.1=z
 names: ∀y∈scope.names,y.2= .local->scope.names.lookup y.1=some .local
 nd:(z::fr).Nodup
 outs: ∀y∈scope.names,y.2= .free->outer.names.lookup y.1=some .cell\/outer.names.lookup y.1=some .free
 frs: ∀x∈fr,scope.names.lookup x=some .free
 own:scope.names.lookup z=some .cell
 c1: ∀n acc,cellsFrom n scope.names acc=(z,n)::acc
 p1: ∀h:Heap,pushCells h scope.names=h.push {cls:= .type "cell",data:= .cell none}
def eG(X:Cx)(scope:Scope)(z:Str)(C:Addr)(fr:List Str)(s:Shared)(H:Hp)(aA:List (Addr×Obj))(fp:List Addr):Cx:=
 {X with N:=z::fr,s₀:=s,H₀:=H,env:=compEnvC scope ((z,C+1)::cA X.env scope.names []) C X.env,outer:=X.stack,stack:=X.stack,ex:=fp,fn:= λx=>decide (x=z),pn:=X.pn++aA,xe:= λ_ _=>False}
theorem fn1{X:Cx}{scope:Scope}{z:Str}{C:Addr}{fr:List Str}{s:Shared}{H:Hp}{aA:List (Addr×Obj)}{fp:List Addr}:(eG X scope z C fr s H aA fp).fn z=true:=decide_eq_true rfl
theorem zbu{M:Model}{A:Around}{E:Value->Shared->Prop}{s:Shared}{scope:Scope}{z:Str}{globals:Addr}{cl:List (Str×Addr)}{qual:Str}{outer:Env}{Q:Env->Shared->Prop}(c1: ∀n acc,cellsFrom n scope.names acc=(z,n)::acc)(p1: ∀h:Heap,pushCells h scope.names=h.push {cls:= .type "cell",data:= .cell none})
 (hQ:Q (newEnv scope s.heap.objs.size globals ((z,s.heap.objs.size+1)::cl) qual none .none (some outer) builtinsNs) {s with heap:=(s.heap.push {cls:= .type "dict",data:= .dict #[]}).push {cls:= .type "cell",data:= .cell none}}):
 wpAny M A (newFunctionEnv scope globals cl [] qual none .none (some outer)) Q E s:=by
 simp only[newFunctionEnv,Option.isSome_some,if_true]
 refine wpAny_bind (wpAny_alloc ?_)
 refine wpAny_bind (wpAny_layCells _ (λname kind cells=>by cases hkc:kind==NameKind.cell<;>simp[hkc]) _ _ _ _ ?_)
 rw[c1,p1]
 have e:(s.heap.push {cls:= .type "dict",data:= .dict #[]}).objs.size=s.heap.objs.size+1:=Heap.size_push _ _
 dsimp only
 rw[e]
 exact wpAny_bind (wpAny_pure (wpAny_pure hQ))
theorem mL{z x:Str}{n c:Addr}{l:List (Str×Addr)}(h:((z,n)::l).lookup x=some c):(x=z/\c=n)\/(x≠z/\l.lookup x=some c):=by
 rw[List.lookup_cons]at h
 cases hb:x==z with
 |true=>rw[hb]at h;cases h;exact .inl ⟨beq_iff_eq.mp hb,rfl⟩
 |false=>rw[hb]at h;exact .inr ⟨beq_eq_false_iff_ne.mp hb,h⟩
theorem l9{scope:Scope}{z:Str}{fr:List Str}{C:Addr}{aA:List (Addr×Obj)}{σ:St}{H:Hp}{s:Shared}{fp:List Addr}(S:fS z fr scope X.env.scope)(I:aM X aA σ H s)(hf: ∀b∈fp,fB X aA H b)
 (hC:s.heap.objs.size<=C) (hfC: ∀b∈fp,b<C):(eG X scope z C fr s H aA fp).Ok:=by
 have sub: ∀x c,(cA X.env scope.names []).lookup x=some c->X.env.cells.lookup x=some c:= λx c e=>(dZ _ _ x c e).elim id λz=>nomatch z
 have m8: ∀x,(compEnvC scope ((z,C+1)::cA X.env scope.names []) C X.env).kindOf x=(scope.names.lookup x).map λk=>if(k==NameKind.free&&X.env.scope.kind== .function&&X.env.kindOf x==some .cell)then NameKind.cell else k:= λx=>eP _ x
 have old: ∀x c,(cA X.env scope.names []).lookup x=some c->c<C+1:= λx c e=>by
  obtain⟨v,q⟩:=I.cell x c (sub x c e);exact Nat.lt_succ_of_lt (Nat.lt_of_lt_of_le q.lt hC)
 refine⟨I.ok.mod,S.kind,I.ok.glob,I.ok.blt,hC,λx y c e1 e2=> ?_,λx hx=> ?_,λx c hz e=> ?_,I.ok.hd,I.ok.frames,.inl rfl,λb hb=>⟨Nat.ne_of_lt (hfC b hb),λx c e=> ?_⟩,
  I.bs,Nat.le_trans I.ok.bsz I.sz,λb o e hb=> ?_,λb hb z=> ?_,I.stack,I.stkFree⟩
 . rcases mL e1 with⟨a1,a2⟩|⟨a1,a2⟩
   . rcases mL e2 with⟨b1,b2⟩|⟨b1,b2⟩
     . rw[a1,b1]
     . exact absurd (a2▸old y c b2) (Nat.lt_irrefl _)
   . rcases mL e2 with⟨b1,b2⟩|⟨b1,b2⟩
     . exact absurd (b2▸old x c a2) (Nat.lt_irrefl _)
     . exact I.ok.inj x y c (sub x c a2) (sub y c b2)
 . have sA:(compEnvC scope ((z,C+1)::cA X.env scope.names []) C X.env).kindOf x=some .cell\/(compEnvC scope ((z,C+1)::cA X.env scope.names []) C X.env).kindOf x=some .free:=hx;rw[m8]at sA
   by_cases hxz:x=z
   . exact⟨C+1,by rw[hxz];show((z,C+1)::_).lookup z=_;rw[List.lookup_cons,beq_self_eq_true]⟩
   cases e:scope.names.lookup x with
   |none=>rw[e]at sA;rcases sA with z|z<;>cases z
   |some k=>
    have hk:k= .free:=by
     rw[e]at sA;cases k with
     |free=>rfl
     |cell=>exact absurd (S.cell (x,.cell) (cI e) rfl) hxz
     |«local»=>rcases sA with z|z<;>simp at z
     |globalImplicit=>rcases sA with z|z<;>simp at z
     |globalExplicit=>rcases sA with z|z<;>simp at z
    subst hk;have m:=cI e;obtain⟨c,hc⟩:=jB scope.names [] x m (I.ok.has x (S.outs _ m rfl));refine⟨c,?_⟩;show((z,C+1)::cA X.env scope.names []).lookup x=some c;rw[List.lookup_cons,beq_eq_false_iff_ne.mpr hxz];exact hc
 . have hz':x=z:=of_decide_eq_true hz
   rcases mL e with⟨a1,a2⟩|⟨a1,a2⟩
   . rw[a2];show s.heap.objs.size<=C+1;omega
   . exact absurd hz' a1
 . rcases mL e with⟨a1,a2⟩|⟨a1,a2⟩
   . rw[a2];exact Nat.ne_of_gt (Nat.lt_succ_of_lt (hfC b hb))
   . exact(hf b hb).2.2.2.2.1 x c (sub x c a2)
 . rcases(hf b hb).2.2.2.1 with z|z
   . exact I.ok.noex b o e z
   . exact absurd (Nat.lt_of_lt_of_le (Heap.lt_size e) (Nat.le_trans I.ok.bsz z)) (Nat.lt_irrefl _)
 . have z':b∈frs X.stack:=z
   rcases List.mem_cons.mp (I.stkSub b z')with q|q
   . exact(hf b hb).2.1 q
   . exact(hf b hb).2.2.1 q
theorem oR{scope:Scope}{z:Str}{fr:List Str}{idx:List Nat}{aA:List (Addr×Obj)}{σ:St}{H:Hp}{s:Shared}{fp:List Addr}{h4:Heap}{tk:Nat}{m:Str->Option Value}(S:fS z fr scope X.env.scope)
 (wA:idx.length=fr.length) (m7: ∀(k:Nat) (x:Str) (j:Nat),fr[k]?=some x->idx[k]?=some j->X.N[j]?=some x)
 (I:aM X aA σ H s) (hf: ∀b∈fp,fB X aA H b) (hfs: ∀b∈fp,b<s.heap.objs.size) (hn:h4.Ns s.heap.objs.size m) (hcl:h4.IsCell (s.heap.objs.size+1) none) (hk: ∀b o,s.heap.get? b=some o->h4.get? b=some o):
 aM (eG X scope z s.heap.objs.size fr s H aA fp) [] (iB 1 idx σ) H {s with heap:=h4,toks:=tk}:=by
 have sub: ∀x c,(cA X.env scope.names []).lookup x=some c->X.env.cells.lookup x=some c:= λx c e=>(dZ _ _ x c e).elim id λz=>nomatch z
 have ok:=l9 (fp:=fp) S I hf (Nat.le_refl _) hfs
 refine⟨ok,rfl,I.bare,Un.kept hk,⟨m,hn,λi x v e1 e2 e3=> ?_⟩,λx c e=> ?_,I.hok.fresh (Nat.le_refl _),λx c e=> ?_,λp hp=> ?_,I.hok.kept hk,?_⟩
 . obtain⟨k,j,q1,q2,q3⟩:=rV (own:=[z]) wA e1 e2;have hN:=m7 k x j q1 q2;have hx:=List.mem_of_getElem? q1;have eI:=S.frs x hx;have zer:=S.outs _ (cI eI) rfl;obtain⟨m0,_,hl⟩:=I.loc;obtain⟨u,ru,lk⟩:=hl j x v hN q3 (zer.elim (λz=> .inr (.inl z)) λz=> .inr (.inr z));refine⟨u,ru,?_⟩;have mW:(compEnvC scope ((z,s.heap.objs.size+1)::cA X.env scope.names []) s.heap.objs.size X.env).kindOf x=some .cell\/(compEnvC scope ((z,s.heap.objs.size+1)::cA X.env scope.names []) s.heap.objs.size X.env).kindOf x=some .free:=by
    have q:=eP (env:=X.env) scope.names x;rw[eI]at q
    by_cases hc:(NameKind.free==NameKind.free&&X.env.scope.kind== .function&&X.env.kindOf x==some .cell)=true
    . refine .inl (q.trans ?_);simp only[Option.map_some];rw[if_pos hc]
    . refine .inr (q.trans ?_);simp only[Option.map_some];rw[if_neg hc]
   rcases lk with⟨kl,_⟩|⟨_,c,ec,cc⟩
   . have kl':X.env.scope.names.lookup x=some .local:=kl
     rcases zer with z|z<;>(rw[kl']at z;cases z)
   . obtain⟨c',ec'⟩:=jB scope.names [] x (cI eI) ⟨c,ec⟩;have e':=sub x c' ec';rw[ec]at e';cases e';obtain⟨o,ho,hd⟩:=cc;have hxz:x≠z:= λq=>(List.nodup_cons.mp S.nd).1 (q▸hx);refine .inr ⟨mW,c,?_,o,hk c o ho,hd⟩;show((z,s.heap.objs.size+1)::cA X.env scope.names []).lookup x=some c;rw[List.lookup_cons,beq_eq_false_iff_ne.mpr hxz];exact ec'
 . rcases mL e with⟨_,a2⟩|⟨_,a2⟩
   . rw[a2];exact⟨none,hcl⟩
   . obtain⟨v,o,ho,hd⟩:=I.cell x c (sub x c a2);exact⟨v,o,hk c o ho,hd⟩
 . rcases mL e with⟨_,a2⟩|⟨_,a2⟩
   . rw[a2];exact I.hok.fresh (Nat.le_succ _)
   . exact I.freeC x c (sub x c a2)
 . have hp':p∈X.pn++aA:=by
    rcases List.mem_append.mp hp with z|z
    . exact z
    . exact nomatch z
   obtain⟨a1,a2,a3,a4,a5⟩:=I.pin p hp';refine⟨hk _ _ a1,a2,Nat.ne_of_lt (Heap.lt_size a1),λz=> ?_,a5⟩
   rcases List.mem_cons.mp (I.stkSub p.1 z)with q|q
   . exact a3 q
   . exact a4 q
 . show(iB 1 idx σ).length=(z::fr).length
   unfold iB;rw[List.length_append,List.length_replicate,bH,wA,List.length_cons];omega
theorem qE{scope:Scope}{zn:Str}{N:List Str}{aA:List (Addr×Obj)}{σ σ':St}{H H':Hp}{s s':Shared}{fp:List Addr}{h':Heap}
 (I:aM X aA σ H s) (hf: ∀b∈fp,fB X aA H b) (J:aM (eG X scope zn s.heap.objs.size N s H aA fp) [] σ' H' s') (hs:Heap.SameBut s.heap.objs.size s'.heap h'):
 aM X aA σ H' {s' with heap:=h'}:=by
 have ne: ∀b o,s.heap.get? b=some o->b≠s.heap.objs.size:= λb o e=>Nat.ne_of_lt (Heap.lt_size e)
 have hCn:H' s.heap.objs.size=none:=J.free
 have u:=J.base
 refine I.call' (s':={s' with heap:=h'}) (ch:=fp) J.os ⟨λb o e n hb hx=> ?_,λb o e n hb hx=> ?_,u.free,λb o e hx=> ?_,u.tups,u.frzs,u.tbls⟩ (λb ob e=> ?_) J.bare λb hb=> ?_
 . exact(hs.2 b (ne b o e)).trans (u.keep b o e n hb hx)
 . obtain⟨sl,q⟩:=u.slot b o e n hb hx;exact⟨sl,(hs.2 b (ne b o e)).trans q⟩
 . obtain⟨o',q⟩:=u.there b o e hx;exact⟨o',(hs.2 b (ne b o e)).trans q⟩
 . refine(J.hok b ob e).stay (λc v hc q=>(hs.2 c ?_).trans q) (λ_ q=>q) λ_ _ q=>q;rintro rfl
   rcases hc with z|z
   . rw[<-z,hCn]at e;cases e
   . rw[hCn]at z;cases z
 . obtain⟨f0,f1,f2,f3,f4,f5⟩:=hf b hb;exact⟨f3,f1,f4,f5⟩
theorem zei{z:Str}{i:Nat}{y:Str}{py zdw:Pos}{iU tg cV:Expr}{iJ:List Expr}{scope:Scope}{fr:List Str}{idx:List Nat}{wi:TI}{g:TG}{tc:TT}{te:TE}{pos:Pos}(hN:X.N.Nodup)(hiy:X.N[i]?=some y)(hly:Loc X.env.scope y)(hc:X.calm=true)(S:fS z fr scope X.env.scope)
 (hi:PI X tg cV wi) (hg: ∀C s H aA fp,PG (eG X scope z C fr s H aA fp) tg g) (ht: ∀C s H aA fp,PTs (eG X scope z C fr s H aA fp) iJ tc) (he: ∀C s H aA fp,PE (eG X scope z C fr s H aA fp) iU te)
 (wA:idx.length=fr.length:=by rfl) (m7: ∀(k:Nat) (x:Str) (j:Nat),fr[k]?=some x->idx[k]?=some j->X.N[j]?=some x)
 (hs: ∀x,foldedSetIterable cV X.env x=pure x:=by intro _;rfl) (hf:X.fn y=true\/X.env.scope.names.lookup y=some .local:=by first|exact .inl rfl|exact .inr rfl)
 (hsw:swapsWith (.ListComp iU [⟨tg,cV,iJ,0⟩] scope pos) (some (.Name y py)) zdw.line X.env=pure true:=by rfl):PS X (.Assign [.Name y py] (.ListComp iU [⟨tg,cV,iJ,0⟩] scope pos) zdw) (zhD (lK wi 1 idx g tc te) (bD i)):=by
 intro aA s σ H Dn I h
 rw[exec_Assign_Name_used _ _ _ _ hsw]
 refine wpAny_bind (wpAny_standAt (wpAny_bind ?_))
 show wpAny _ X.A (do let _<-comprehension (.ListComp iU [⟨tg,cV,iJ,0⟩] scope pos) scope X.env _ (newList []) false (eval cV X.env) (some (assign (.Name y py) X.env))) _ _ s
 have mS:closureFor scope X.env=pure (cA X.env scope.names []):=mM λx hx eI=>I.ok.has x.1 (S.outs x hx eI)
 refine wpAny_bind (wpAny_mono (wpAny_comprehension_free (use:=some (assign (.Name y py) X.env)) (Q:= λ_ s'=>SP X aA Dn .next s') rfl hs mS S.kind S.names (cH (hi aA s σ H _ I h) λv s1 h1=>cH h1 λitv s2 h2=> ?_)) (λ_ s' hq=>wpAny_pure (wpAny_pure hq)) λ_ _ e=>e)
 obtain⟨it,fp,tn,J,H2,e,I2,T,sC,f2,h2⟩:=h2
 subst e
 refine wpAny_newObj_type ?_
 obtain⟨W,⟨m0,w0⟩,jN⟩:=h2 s2.heap.objs.size I2.fresh
 have I3:aM X aA σ (aN H2 s2.heap.objs.size (.lst [])) {s2 with heap:=s2.heap.push {cls:= .type "list",data:= .seq ([]:List Value).toArray},toks:=s2.toks}:=I2.lnew .nil (Nat.zero_le _)
 have sJ: ∀b∈fp,b<s2.heap.objs.size:= λb hb=>by
  obtain⟨o,e,_⟩:=T.obj _ _ sC b hb;exact Heap.lt_size e
 have f3: ∀b∈fp,fB X aA (aN H2 s2.heap.objs.size (.lst [])) b:= λb hb=>⟨by rw[aD (Nat.ne_of_lt (sJ b hb))];exact(f2 b hb).1,(f2 b hb).2⟩
 generalize yI:({s2 with heap:=s2.heap.push {cls:= .type "list",data:= .seq ([]:List Value).toArray},toks:=s2.toks}:Shared)=s3 at I3
 have hsz:s3.heap.objs.size=s2.heap.objs.size+1:=by rw[<-yI];exact Heap.size_push _ _
 have uR:tn 0 s3.heap:=T.keep _ _ _ sC λb hb o e=>by rw[<-yI];exact Heap.get?_push_of_some _ e
 refine zbu S.c1 S.p1 ?_
 have zlX:(s3.heap.push {cls:= .type "dict",data:= .dict #[]}).objs.size=s3.heap.objs.size+1:=Heap.size_push _ _
 have hn4:((s3.heap.push {cls:= .type "dict",data:= .dict #[]}).push {cls:= .type "cell",data:= .cell none}).Ns s3.heap.objs.size (λ_=>none):=(Heap.Ns.new s3.heap (.type "dict")).keeps λb o e=>Heap.get?_push_of_some _ e
 have hc4:((s3.heap.push {cls:= .type "dict",data:= .dict #[]}).push {cls:= .type "cell",data:= .cell none}).IsCell (s3.heap.objs.size+1) none:=⟨_,by rw[<-zlX];exact Heap.get?_push_size _ rfl,rfl⟩
 have tV: ∀b o,s3.heap.get? b=some o->((s3.heap.push {cls:= .type "dict",data:= .dict #[]}).push {cls:= .type "cell",data:= .cell none}).get? b=some o:= λb o e=>Heap.get?_push_of_some _ (Heap.get?_push_of_some _ e)
 generalize (s3.heap.push {cls:= .type "dict",data:= .dict #[]}).push {cls:= .type "cell",data:= .cell none}=h4 at hn4 hc4 tV ⊢
 have I4:=oR (idx:=idx) (tk:=s3.toks) S wA m7 I3 f3 (λb hb=>by rw[hsz];exact Nat.lt_succ_of_lt (sJ b hb)) hn4 hc4 tV
 have fpC: ∀{H':Hp} (pl:List (Addr×Obj)),(∀p∈pl,∀b∈fp,p.1≠b)->(∀b∈fp,H' b=none)-> ∀b∈fp,fB (eG X scope z s3.heap.objs.size fr s3 (aN H2 s2.heap.objs.size (.lst [])) aA fp) pl H' b:= λ{H'} pl mF hn b hb=>by
  obtain⟨g0,g1,g2,g3,g4,g5⟩:=f3 b hb;refine⟨hn b hb,?_,λz=> ?_,.inl hb,λx c e=> ?_,λp hp=> ?_⟩
  . show b≠s3.heap.objs.size
    exact Nat.ne_of_lt (by rw[hsz];exact Nat.lt_succ_of_lt (sJ b hb))
  . rcases List.mem_cons.mp (I3.stkSub b z)with q|q
    . exact g1 q
    . exact g2 q
  . rcases mL e with⟨_,a2⟩|⟨_,a2⟩
    . rw[a2];exact Nat.ne_of_gt (Nat.lt_succ_of_lt (hsz.symm▸Nat.lt_succ_of_lt (sJ b hb)))
    . exact g4 x c ((dZ _ _ x c a2).elim id λz=>nomatch z)
  . rcases List.mem_append.mp hp with q|q
    . exact g5 p q
    . exact mF p q b hb
 have jR:codeAny (model X.prog X.w) X.A (.compLoop (.ListComp iU [⟨tg,cV,iJ,0⟩] scope pos) 0 (.ref it) (.ref s2.heap.objs.size) (compEnvC scope ((z,s3.heap.objs.size+1)::cA X.env scope.names []) s3.heap.objs.size X.env))
  (compPost (model X.prog X.w) X.A X.xe (some (assign (.Name y py) X.env)) (λ_ s'=>SP X aA Dn .next s') (.ref s2.heap.objs.size) s3.heap.objs.size) {s3 with heap:=h4}:=by
  refine kW (Y:=eG X scope z s3.heap.objs.size fr s3 (aN H2 s2.heap.objs.size (.lst [])) aA fp) (W:=W) (m0:=m0) hc (hg _ _ _ _ _) (ht _ _ _ _ _) (he _ _ _ _ _) (λ_ _ z=>z) T (λhn=>fpC [] (λ_ z=>nomatch z) hn) jN (λs6 σ5 H5 I6 q=> ?_) ⟨0,[],_,_,I4,T.keep _ _ _ uR λb _ o e=>tV b o e,λb hb=>(f3 b hb).1,aG,w0⟩;obtain⟨m6,hn6,_⟩:=id I6.loc;have zS:s6.heap.Ns s3.heap.objs.size m6:=hn6;obtain⟨oC,es,ep,hoC,znm⟩:=id zS;have I7:aM X aA σ H5 s6:=qE (h':=s6.heap) I3 f3 I6 (Heap.SameBut.refl ..);have eI:H5 s3.heap.objs.size=none:=I6.free;have I8:aM X (aA++[(s3.heap.objs.size,oC)]) σ H5 s6:=I7.pins_of λp hp=>(List.mem_append.mp hp).elim (λz=>I7.pin p (List.mem_append_right _ z)) λz=>by
   have e:p=(s3.heap.objs.size,oC):=List.mem_singleton.mp z;subst e;exact⟨hoC,eI,Nat.ne_of_gt I3.lt,I3.nofs (Nat.le_refl _),λv ev=>sT zS hoC v ev⟩
  refine cH (aJ (pos:=py) hN hiy hly hf _ s6 σ H5 (.ref s2.heap.objs.size) (.ref s2.heap.objs.size) _ I8 rfl q) λ_ s9 ⟨σ9,H9,I9,q9⟩=> ?_;have hp9:=I9.pin (s3.heap.objs.size,oC) (List.mem_append_right _ (List.mem_append_right _ (List.mem_singleton.mpr rfl)));refine⟨m6,zS.at' λo e=> ?_,λh' hsb=> ?_⟩
  . rw[hoC]at e;cases e;exact hp9.1
  . refine⟨σ9,H9,I9.unpinned.turnedL (ch:=[s3.heap.objs.size]) (t':=s9.toks) (λb hb=> ?_) λb ob hb e=> ?_,q9⟩
    . rw[List.mem_singleton.mp hb];exact I3.fpOk (Nat.le_refl _) hp9.2.1
    . exact hsb.extBut b ob (λz=>hb (List.mem_singleton.mpr z)) e
 exact codeAny_compStart_list jR (T.self _ 0 _ _ _ (T.keep _ _ _ uR λb _ o e=>tV b o e) jR)
theorem zfr{z:Str}{iU tg cV:Expr}{iJ:List Expr}{scope:Scope}{fr:List Str}{idx:List Nat}{wi:TI}{g:TG}{tc:TT}{te:TE}{pos:Pos}(hc:X.calm=true)(S:fS z fr scope X.env.scope)
 (hi:PI X tg cV wi) (hg: ∀C s H aA fp,PG (eG X scope z C fr s H aA fp) tg g) (ht: ∀C s H aA fp,PTs (eG X scope z C fr s H aA fp) iJ tc) (he: ∀C s H aA fp,PE (eG X scope z C fr s H aA fp) iU te)
 (wA:idx.length=fr.length:=by rfl) (m7: ∀(k:Nat) (x:Str) (j:Nat),fr[k]?=some x->idx[k]?=some j->X.N[j]?=some x)
 (hs: ∀x,foldedSetIterable cV X.env x=pure x:=by intro _;rfl):PE X (.ListComp iU [⟨tg,cV,iJ,0⟩] scope pos) (lK wi 1 idx g tc te):=by
 intro aA s σ H Q I h
 rw[eval_ListComp]
 have mS:closureFor scope X.env=pure (cA X.env scope.names []):=mM λx hx eI=>I.ok.has x.1 (S.outs x hx eI)
 refine wpAny_comprehension_free (use:=none) rfl hs mS S.kind S.names (cH (hi aA s σ H _ I h) λv s1 h1=>cH h1 λitv s2 h2=> ?_)
 obtain⟨it,fp,tn,J,H2,e,I2,T,sC,f2,h2⟩:=h2
 subst e
 refine wpAny_newObj_type ?_
 obtain⟨W,⟨m0,w0⟩,jN⟩:=h2 s2.heap.objs.size I2.fresh
 have I3:aM X aA σ (aN H2 s2.heap.objs.size (.lst [])) {s2 with heap:=s2.heap.push {cls:= .type "list",data:= .seq ([]:List Value).toArray},toks:=s2.toks}:=I2.lnew .nil (Nat.zero_le _)
 have sJ: ∀b∈fp,b<s2.heap.objs.size:= λb hb=>by
  obtain⟨o,e,_⟩:=T.obj _ _ sC b hb;exact Heap.lt_size e
 have f3: ∀b∈fp,fB X aA (aN H2 s2.heap.objs.size (.lst [])) b:= λb hb=>⟨by rw[aD (Nat.ne_of_lt (sJ b hb))];exact(f2 b hb).1,(f2 b hb).2⟩
 generalize yI:({s2 with heap:=s2.heap.push {cls:= .type "list",data:= .seq ([]:List Value).toArray},toks:=s2.toks}:Shared)=s3 at I3
 have hsz:s3.heap.objs.size=s2.heap.objs.size+1:=by rw[<-yI];exact Heap.size_push _ _
 have uR:tn 0 s3.heap:=T.keep _ _ _ sC λb hb o e=>by rw[<-yI];exact Heap.get?_push_of_some _ e
 refine zbu S.c1 S.p1 ?_
 have zlX:(s3.heap.push {cls:= .type "dict",data:= .dict #[]}).objs.size=s3.heap.objs.size+1:=Heap.size_push _ _
 have hn4:((s3.heap.push {cls:= .type "dict",data:= .dict #[]}).push {cls:= .type "cell",data:= .cell none}).Ns s3.heap.objs.size (λ_=>none):=(Heap.Ns.new s3.heap (.type "dict")).keeps λb o e=>Heap.get?_push_of_some _ e
 have hc4:((s3.heap.push {cls:= .type "dict",data:= .dict #[]}).push {cls:= .type "cell",data:= .cell none}).IsCell (s3.heap.objs.size+1) none:=⟨_,by rw[<-zlX];exact Heap.get?_push_size _ rfl,rfl⟩
 have tV: ∀b o,s3.heap.get? b=some o->((s3.heap.push {cls:= .type "dict",data:= .dict #[]}).push {cls:= .type "cell",data:= .cell none}).get? b=some o:= λb o e=>Heap.get?_push_of_some _ (Heap.get?_push_of_some _ e)
 generalize (s3.heap.push {cls:= .type "dict",data:= .dict #[]}).push {cls:= .type "cell",data:= .cell none}=h4 at hn4 hc4 tV ⊢
 have I4:=oR (idx:=idx) (tk:=s3.toks) S wA m7 I3 f3 (λb hb=>by rw[hsz];exact Nat.lt_succ_of_lt (sJ b hb)) hn4 hc4 tV
 have fpC: ∀{H':Hp} (pl:List (Addr×Obj)),(∀p∈pl,∀b∈fp,p.1≠b)->(∀b∈fp,H' b=none)-> ∀b∈fp,fB (eG X scope z s3.heap.objs.size fr s3 (aN H2 s2.heap.objs.size (.lst [])) aA fp) pl H' b:= λ{H'} pl mF hn b hb=>by
  obtain⟨g0,g1,g2,g3,g4,g5⟩:=f3 b hb;refine⟨hn b hb,?_,λz=> ?_,.inl hb,λx c e=> ?_,λp hp=> ?_⟩
  . show b≠s3.heap.objs.size
    exact Nat.ne_of_lt (by rw[hsz];exact Nat.lt_succ_of_lt (sJ b hb))
  . rcases List.mem_cons.mp (I3.stkSub b z)with q|q
    . exact g1 q
    . exact g2 q
  . rcases mL e with⟨_,a2⟩|⟨_,a2⟩
    . rw[a2];exact Nat.ne_of_gt (Nat.lt_succ_of_lt (hsz.symm▸Nat.lt_succ_of_lt (sJ b hb)))
    . exact g4 x c ((dZ _ _ x c a2).elim id λz=>nomatch z)
  . rcases List.mem_append.mp hp with q|q
    . exact g5 p q
    . exact mF p q b hb
 have jR:codeAny (model X.prog X.w) X.A (.compLoop (.ListComp iU [⟨tg,cV,iJ,0⟩] scope pos) 0 (.ref it) (.ref s2.heap.objs.size) (compEnvC scope ((z,s3.heap.objs.size+1)::cA X.env scope.names []) s3.heap.objs.size X.env))
  (compPost (model X.prog X.w) X.A X.xe none (EP X aA σ Q) (.ref s2.heap.objs.size) s3.heap.objs.size) {s3 with heap:=h4}:=by
  refine kW (Y:=eG X scope z s3.heap.objs.size fr s3 (aN H2 s2.heap.objs.size (.lst [])) aA fp) (W:=W) (m0:=m0) hc (hg _ _ _ _ _) (ht _ _ _ _ _) (he _ _ _ _ _) (λ_ _ z=>z) T (λhn=>fpC [] (λ_ z=>nomatch z) hn) jN (λs6 σ5 H5 I6 q=> ?_) ⟨0,[],_,_,I4,T.keep _ _ _ uR λb _ o e=>tV b o e,λb hb=>(f3 b hb).1,aG,w0⟩;obtain⟨m6,hn6,_⟩:=id I6.loc;refine⟨m6,hn6,λh' hsb=> ?_⟩;exact⟨.ref s2.heap.objs.size,H5,qE I3 f3 I6 hsb,rfl,q⟩
 exact codeAny_compStart_list jR (T.self _ 0 _ _ _ (T.keep _ _ _ uR λb _ o e=>tV b o e) jR)
section
variable {prog:Program}
end
def pR(lo hi:Int):List V:=(List.range (hi - lo).toNat).map λk:Nat=>V.int (lo+k)
theorem zem{lo hi:Int}{acc:Array Value}(h:ItemsOf (λi v=> ∃t,v=Value.int (lo+i * 1) t) acc (hi - lo).toNat):bK (pR lo hi) acc.toList:=by
 have yH: ∀(n:Nat) (l:List Value) (k:Nat),l.length=n->(∀j v,l[j]?=some v-> ∃t,v=Value.int (lo+((k+j:Nat):Int)) t)->bK ((List.range' k n).map λi:Nat=>V.int (lo+i)) l:=by
  intro n
  induction n with
  |zero=>
   intro l k hl _;rw[List.length_eq_zero_iff.mp hl];exact .nil
  |succ n ih=>
   intro l k hl hv;cases l with
   |nil=>cases hl
   |cons x r=>
    rw[List.range'_succ,List.map_cons];obtain⟨t,ht⟩:=hv 0 x rfl;refine .cons ⟨t,ht⟩ (ih r (k+1) (Nat.succ.inj hl) λj v e=> ?_);obtain⟨t',ht'⟩:=hv (j+1) v e;exact⟨t',by rw[ht',show k+(j+1)=k+1+j by omega]⟩
 rw[pR,List.range_eq_range']
 refine yH _ _ 0 (by rw[Array.length_toList];exact h.1) λj v e=> ?_
 obtain⟨t,ht⟩:=h.2 j v (by rw[<-Array.getElem?_toList];exact e)
 exact⟨t,by rw[ht,Nat.zero_add,Int.mul_one]⟩
theorem vB:fK X (.type "range") (λxs H Q=> ∃n:Int,xs=[.int n]/\ ∀p,H p=none->Q (.ref p) (aN H p (.rng 0 n))):=by
 intro aA s σ H xs us Q I r h
 obtain⟨n,rfl,q⟩:=h
 obtain⟨u,rfl,ru⟩:=bK.one r
 obtain⟨t,rfl⟩:=ru
 refine call_range_1 ?_
 exact⟨.ref s.heap.objs.size,_,I.laid (o:= .rng 0 n) (λ_ _ e=>Heap.get?_push_of_some _ e) (Nat.le_refl _) ⟨_,_,_,Heap.get?_push_size _ rfl⟩,rfl,q _ I.fresh⟩
def zmK(mk:List V->HO):List V->Hp->VK->Prop:= λxs H Q=> ∃(r:Addr) (lo hi:Int),xs=[.ref r]/\H r=some (.rng lo hi)/\0<=lo/\lo<=1000/\0<=hi/\hi<=1000/\ ∀l,H l=none->Q (.ref l) (aN H l (mk (pR lo hi)))
theorem zen{lo hi:Int}:Builtin.Range.rangeSize lo hi 1=((hi - lo).toNat:Nat):=by rw[rangeSize_one];split<;>omega
theorem yA(lo hi:Int):(pR lo hi).length=(hi - lo).toNat:=by rw[pR,bH,List.length_range]
theorem j3(hc:X.calm=true):fK X (.type "list") (zmK .lst):=by
 intro aA s σ H xs us Q I rv h
 obtain⟨r,lo,hi,rfl,hr,l0,l1,h0,h1,q⟩:=h
 obtain⟨w,rfl,ru⟩:=bK.one rv
 cases ru
 obtain⟨t,u,v,e⟩:=I.hok r _ hr
 refine call_list_range (I.ok.hd hc) e (small_one (by omega) (by omega) (by omega) (by omega)) zen (by omega) λh' tk acc c hk hS zdI=> ?_
 refine⟨.ref s.heap.objs.size,_,I.laid (t':=tk) (o:= .lst (pR lo hi)) hk (Nat.le_refl _) ⟨by rw[yA,sizeLine_eq];omega,acc.toList,c,zem zdI,by simpa using hS⟩,rfl,q _ I.fresh⟩
def Itn(lo:Int)(n:Nat):It:=⟨λi _=>i<n,λi H x H'=>H'=H/\x= .int (lo - i),λi _=>n<=i⟩
theorem tT(a b:Int):Builtin.Range.rangeSize a b (-1)=if a>b then a - b else 0:=by
 unfold Builtin.Range.rangeSize
 rw[if_neg (by decide)]
 split
 . rw[show -(-1:Int)=1 from rfl,Int.ediv_one];omega
 . rfl
theorem zX{a b:Int}(ha: -(2^62)<=a)(ha':a<2^62)(hb: -(2^62)<=b)(mE:b<2^62):Builtin.Range.small a b (-1)=true:=by
 unfold Builtin.Range.small
 rw[tT]
 simp only[Builtin.Range.rangeFitsLong,Bool.and_eq_true,Bool.or_eq_true,decide_eq_true_eq,beq_iff_eq,show ¬((-1:Int)>0) by decide,if_false]
 split<;>omega
theorem zct{P:Program}{w:World}{K:W.Frag}{tg:Expr}(it:Addr)(lo:Int)(n:Nat):oW P w K tg (Itn lo n) [it] it (λi h=>IsRangeIter h it (lo+(i:Nat) * (-1)) ((n:Int) - (i:Nat)) (-1)) where
 mem:=by simp
 obj:= λi h st b hb=>by
  have e:b=it:=by simpa using hb
  subst e;exact⟨_,st,λv z=>by
   have z':Data.fields _=Data.cell v:=z;cases z'⟩
 keep:= λi h h' st k=>k it (by simp) _ st
 item:=by
  intro X hP hw hK hc i aA s σ H E I hf st hg;subst hP hw hK;obtain⟨f0,f1,f2,f3,f4,f5⟩:=hf it (by simp);have W:=Walks.range (prog:=X.prog) (w:=X.w) (I.ok.hd hc) it lo (-1) n;refine W.item i s _ _ hg st λv h' tk hv sM kk=> ?_;obtain⟨t,rfl⟩:=hv;have I1:aM X aA σ H {s with heap:=h',toks:=tk}:=I.turned (λb o hb e=>kk b o (by simpa using hb) e) f0 f1 f3 f4 f5;refine⟨_,rfl,zfa (s:={s with heap:=h',toks:=tk}) (n:= "range_iterator") sM rfl rfl (by decide) ⟨.int (lo - i),H,I1,⟨t,?_⟩,⟨rfl,rfl⟩,sM,λb hb=>(hf b hb).1⟩⟩;rw[Int.mul_neg,Int.mul_one];rfl
 done:=by
  intro X hP hw hK hc i aA s σ H E I hf st hg;subst hP hw hK;obtain⟨f0,f1,f2,f3,f4,f5⟩:=hf it (by simp);exact wpAny_pyNext_range_end (I.ok.hd hc) st (by have:n<=i:=hg;omega) λh' eb=>⟨rfl,I.turned (t':=s.toks) (λb o hb e=>eb b o hb e) f0 f1 f3 f4 f5⟩
 self:= λ_ _ _ _ _ st h=>wpAny_pyIter_rangeiter st h
section
variable {tg:Expr}
theorem zgT{aA:List (Addr×Obj)}{σ:St}{H:Hp}{s:Shared}{R:It->Hp->Prop}{E:Value->Shared->Prop}{lo hi:Int}{t u v:Tok}{tk:Nat}(I:aM X aA σ H s)(h1: -(2^62)<=lo)(h2:lo<2^62)(h3: -(2^62)<=hi)(h4:hi<2^62)
 (q:R (Itn lo (lo - hi).toNat) H):wpAny (model X.prog X.w) X.A (pyIter (.ref s.heap.objs.size)) (PIE X aA σ tg R) E {s with heap:=s.heap.push {cls:= .type "range",data:= .fields #[.int lo t,.int hi u,.int (-1) v]},toks:=tk}:=by
 refine wpAny_pyIter_range (IsRange.new ..) (zX h1 h2 h3 h4) ?_
 have I1:aM X aA σ H {s with heap:=s.heap.push {cls:= .type "range",data:= .fields #[.int lo t,.int hi u,.int (-1) v]},toks:=tk}:=I.kept λb o e=>Heap.get?_push_of_some _ e
 refine⟨(s.heap.push {cls:= .type "range",data:= .fields #[.int lo t,.int hi u,.int (-1) v]}).objs.size,[(s.heap.push {cls:= .type "range",data:= .fields #[.int lo t,.int hi u,.int (-1) v]}).objs.size],_,_,H,rfl,
  I1.kept (t':=tk) λb o e=>Heap.get?_push_of_some _ e,zct _ lo (lo - hi).toNat,?_,λb hb=> ?_,q⟩
 . have e1:lo+((0:Nat):Int) * (-1)=lo:=by simp
   have e2:(((lo - hi).toNat:Nat):Int) - ((0:Nat):Int)=Builtin.Range.rangeSize lo hi (-1):=by rw[tT];split<;>omega
   show IsRangeIter _ _ (lo+((0:Nat):Int) * (-1)) ((((lo - hi).toNat:Nat):Int) - ((0:Nat):Int)) (-1)
   rw[e1,e2];exact Heap.get?_push_size _ rfl
 . have e:b=(s.heap.push {cls:= .type "range",data:= .fields #[.int lo t,.int hi u,.int (-1) v]}).objs.size:=by simpa using hb
   subst e;exact I1.fpOk (Nat.le_refl _) (I1.hok.fresh (Nat.le_refl _))
def zpz(ta:TA):TI:= λσ H R=>ta σ H λvs H1=> ∃i j:Int,vs=[.int i,.int j,.int (-1)]/\(-(2^62)<=i/\i<2^62/\ -(2^62)<=j/\j<2^62)/\R (Itn i (i - j).toNat) H1
theorem zcP{a b c:Expr}{ta:TA}{p pos:Pos}(hg:Gl X "range")(hm:X.mg "range" =none)(ha:PA X [a,b,c] ta)(hs:starEach [a,b,c] X.env=[(false,eval a X.env),(false,eval b X.env),(false,eval c X.env)]:=by rfl)(yG:starEach [b,c] X.env=[(false,eval b X.env),(false,eval c X.env)]:=by rfl):
 PI X tg (.Call (.Name "range" p) [a,b,c] [] pos) (zpz ta):=by
 intro aA s σ H R I h
 refine Call_ (iV I hg hm boot_range (PyProof.Rows.callWith_type1 (cH (ha pos aA s σ H _ I h) λus s1 ⟨vs,H1,I1,r1,q1⟩=> ?_) (by rw[hs,yG]) (by rw[yG];rfl)))
 obtain⟨i,j,e,⟨q1,q2,q3,q4⟩,q⟩:=q1
 subst e
 cases r1 with
 |cons r rr=>
  cases rr with
  |cons r' rr=>
   cases rr with
   |cons r'' rr=>
    cases rr;obtain⟨t,rfl⟩:=r;obtain⟨t',rfl⟩:=r';obtain⟨t'',rfl⟩:=r'';exact call_range_3 (by decide) (zgT I1 q1 q2 q3 q4 q) (.inl (PyProof.noPylong_small (by decide)))
end
abbrev yP(h:Heap)(T:Addr)(a b c:Value):Prop:=h.get? T=some {cls:= .type "tuple",data:= .seq #[a,b,c]}
section
variable {n l1 l2 l3:Nat}{k:Nat}
structure wC(t3:Bool)(n l1 l2 l3:Nat)(k:Nat)(h:Heap):Prop where
 zo: ∃f0 f1,jY h (n+5) (n+3) (n+4) f0 f1/\(f0= .none\/ ∃T:Addr,f0=rawInt T)
 ti:yP h (n+3) (.ref n) (.ref (n+1)) (.ref (n+2))
 to: ∃p q r,yP h (n+4) p q r
 a1:fE false h n l1 k
 a2:fE false h (n+1) l2 k
 a3:fE t3 h (n+2) l3 k
theorem zjM{T:Addr}{a b c x:Value}{i:Nat}{Q:Unit->Shared->Prop}(hT:yP s.heap T a b c)(q: ∀h',h'.get? T=some {cls:= .type "tuple",data:= .seq ((#[a,b,c]:Array Value).setIfInBounds i x)}->Heap.SameBut T s.heap h'->Q () {s with heap:=h'}):
 wpAny (model P w) A (updateSeq T (·.setIfInBounds i x)) Q E s:=by
 refine wpAny_updateSeq hT rfl (q _ ?_ (Heap.SameBut.update ..))
 rw[Heap.get?_update_self _ hT rfl]
 simp[Obj.mapSeq]
theorem zht{xs ys zs:Array Value}{x y u:Value}{Q:Value->Shared->Prop}(m1:l1<n)(m2:l2<n)(m3:l3<n)(st:wC t3 n l1 l2 l3 k s.heap)
 (iP:cW false s.heap l1 xs) (bZ:cW false s.heap l2 ys) (hl3:cW t3 s.heap l3 zs) (hx:xs[k]?=some x) (hy:ys[k]?=some y) (hu:zs[k]?=some u)
 (q: ∀h',wC t3 n l1 l2 l3 (k+1) h'->yP h' s.heap.objs.size x y u->(∀(c:Nat) o,c<n\/n+6<=c->s.heap.get? c=some o->h'.get? c=some o)->Q (.ref s.heap.objs.size) {s with heap:=h'}):
 wpAny (model P w) A (Builtin.«zip.__next__» ⟨[.ref (n+5)],[]⟩) (λfN s'=> ∃v,fN= .done (.ret v)/\Q v s') E s:=by
 obtain⟨⟨f0,f1,hz,hf⟩,xM,⟨p,r,r',hTO⟩,h1,h2,h3⟩:=st
 have n1:l1≠n:=Nat.ne_of_lt m1
 show wpAny _ _ (field (.ref (n+5)) 2>>=_) _ _ _
 refine wpAny_bind (wpAny_field hz rfl (x:= .bool false) rfl ?_)
 show wpAny _ _ (field (.ref (n+5)) 3>>=_) _ _ _
 refine wpAny_bind (wpAny_field hz rfl (x:= .ref (n+3)) rfl (wpAny_bind (wpAny_seqItems xM rfl ?_)))
 show wpAny _ _ (Builtin.SmallTypes.ownedTupleIsFree (.ref (n+5))>>=_) _ _ _
 refine wpAny_bind (kX hz hf λb h0 vS vY s0=> ?_)
 have e0: ∀{c:Nat},c≠n+5-> ∀o,s.heap.get? c=some o->h0.get? c=some o:= λnc o e=>(s0.2 _ nc).trans e
 have d0:n≠n+5:=by omega
 have d1:n+1≠n+5:=by omega
 have d2:n+2≠n+5:=by omega
 have d3:n+3≠n+5:=by omega
 have d4:n+4≠n+5:=by omega
 have f01:n≠n+1:=by omega
 have f02:n≠n+2:=by omega
 have f12:n+1≠n+2:=by omega
 have g0:n≠n+4:=by omega
 have g1':n+1≠n+4:=by omega
 have g2':n+2≠n+4:=by omega
 have g3':n+3≠n+4:=by omega
 have j0:n+3≠n:=by omega
 have j1:n+3≠n+1:=by omega
 have j2:n+3≠n+2:=by omega
 have lo: ∀{c:Nat},c<n->c≠n/\c≠n+1/\c≠n+2/\c≠n+4/\c≠n+5:= λhc=>by omega
 have ou: ∀{c:Nat},c<n\/n+6<=c->c≠n/\c≠n+1/\c≠n+2/\c≠n+4/\c≠n+5:= λhc=>by omega
 replace xM:=e0 d3 _ xM
 replace hTO:=e0 d4 _ hTO
 replace h1:=h1.at (e0 d0)
 replace h2:=h2.at (e0 d1)
 replace h3:=h3.at (e0 d2)
 replace iP:=iP.at (e0 (lo m1).2.2.2.2)
 replace bZ:=bZ.at (e0 (lo m2).2.2.2.2)
 replace hl3:=hl3.at (e0 (lo m3).2.2.2.2)
 have z0:h0.objs.size=s.heap.objs.size:=s0.1
 have kk0: ∀(c:Nat) o,c<n\/n+6<=c->s.heap.get? c=some o->h0.get? c=some o:= λc o hc e=>e0 (ou hc).2.2.2.2 o e
 cases b with
 |true=>
  simp only[if_true];refine wpAny_bind (wpAny_rule (wpAny_bind (wpAny_field vY rfl (x:= .ref (n+4)) rfl ?_)));refine wpAny_bind (wpAny_setField_rec vY (by simp) λg1 z1 s1=> ?_);replace z1:jY g1 (n+5) (n+3) (n+4) .ellipsis vS:=z1;refine wpAny_bind ?_;simp only[List.zipIdx_cons,List.zipIdx_nil,List.forIn_cons,List.forIn_nil];refine wpAny_bind (wpAny_bind (wpAny_onRaise ?_));show wpAny _ _ (Builtin.SmallTypes.nextOf (.ref n)>>=_) _ _ _;refine wpAny_bind (dE (h1.at λo e=>(s1.2 _ d0).trans e) (iP.at λo e=>(s1.2 _ (lo m1).2.2.2.2).trans e) hx λg2 b1 s2=>wpAny_pure ?_);have to2:yP g2 (n+4) p r r':=(s2.2 _ g0.symm).trans ((s1.2 _ d4).trans hTO);refine wpAny_bind (wpAny_seqItems to2 rfl (wpAny_bind (zjM to2 λg3 to3 s3=> ?_)));replace to3:yP g3 (n+4) x r r':=to3;refine wpAny_bind (wpAny_letGo (wpAny_pure (wpAny_bind (wpAny_bind (wpAny_onRaise ?_)))));show wpAny _ _ (Builtin.SmallTypes.nextOf (.ref (n+1))>>=_) _ _ _;refine wpAny_bind (dE (h2.at λo e=>(s3.2 _ g1').trans ((s2.2 _ f01.symm).trans ((s1.2 _ d1).trans e))) (bZ.at λo e=>(s3.2 _ (lo m2).2.2.2.1).trans ((s2.2 _ (lo m2).1).trans ((s1.2 _ (lo m2).2.2.2.2).trans e))) hy λg4 b2 s4=>wpAny_pure ?_);have to4:yP g4 (n+4) x r r':=(s4.2 _ g1'.symm).trans to3;refine wpAny_bind (wpAny_seqItems to4 rfl (wpAny_bind (zjM to4 λg5 to5 s5=> ?_)));replace to5:yP g5 (n+4) x y r':=to5;refine wpAny_bind (wpAny_letGo (wpAny_pure (wpAny_bind (wpAny_bind (wpAny_onRaise ?_)))));show wpAny _ _ (Builtin.SmallTypes.nextOf (.ref (n+2))>>=_) _ _ _;refine wpAny_bind (dE (h3.at λo e=>(s5.2 _ g2').trans ((s4.2 _ f12.symm).trans ((s3.2 _ g2').trans ((s2.2 _ f02.symm).trans ((s1.2 _ d2).trans e))))) (hl3.at λo e=>(s5.2 _ (lo m3).2.2.2.1).trans ((s4.2 _ (lo m3).2.1).trans ((s3.2 _ (lo m3).2.2.2.1).trans ((s2.2 _ (lo m3).1).trans ((s1.2 _ (lo m3).2.2.2.2).trans e))))) hu λg6 b3 s6=>wpAny_pure ?_);have to6:yP g6 (n+4) x y r':=(s6.2 _ g2'.symm).trans to5;refine wpAny_bind (wpAny_seqItems to6 rfl (wpAny_bind (zjM to6 λg7 to7 s7=> ?_)));replace to7:yP g7 (n+4) x y u:=to7;refine wpAny_bind (wpAny_letGo (wpAny_pure (wpAny_pure (wpAny_bind (wpAny_seqItems to7 rfl (wpAny_bind (wpAny_newTuple ?_)))))));have sz:g7.objs.size=s.heap.objs.size:=by rw[s7.1,s6.1,s5.1,s4.1,s3.1,s2.1,s1.1,z0]
  have z7:jY g7 (n+5) (n+3) (n+4) .ellipsis vS:=(s7.2 _ d4.symm).trans ((s6.2 _ d2.symm).trans ((s5.2 _ d4.symm).trans ((s4.2 _ d1.symm).trans ((s3.2 _ d4.symm).trans ((s2.2 _ d0.symm).trans z1)))));have k7: ∀(c:Nat) o,c<n\/n+6<=c->s.heap.get? c=some o->g7.get? c=some o:= λc o hc e=>(s7.2 _ (ou hc).2.2.2.1).trans ((s6.2 _ (ou hc).2.2.1).trans ((s5.2 _ (ou hc).2.2.2.1).trans ((s4.2 _ (ou hc).2.1).trans ((s3.2 _ (ou hc).2.2.2.1).trans ((s2.2 _ (ou hc).1).trans ((s1.2 _ (ou hc).2.2.2.2).trans (kk0 c o hc e)))))));have b1':fE false g7 n l1 (k+1):=b1.at λo e=>(s7.2 _ g0).trans ((s6.2 _ f02).trans ((s5.2 _ g0).trans ((s4.2 _ f01).trans ((s3.2 _ g0).trans e))));have b2':fE false g7 (n+1) l2 (k+1):=b2.at λo e=>(s7.2 _ g1').trans ((s6.2 _ f12).trans ((s5.2 _ g1').trans e));have b3':fE t3 g7 (n+2) l3 (k+1):=b3.at λo e=>(s7.2 _ g2').trans e;have i7:yP g7 (n+3) (.ref n) (.ref (n+1)) (.ref (n+2)):=(s7.2 _ g3').trans ((s6.2 _ j2).trans ((s5.2 _ g3').trans ((s4.2 _ j1).trans ((s3.2 _ g3').trans ((s2.2 _ j0).trans ((s1.2 _ d3).trans xM))))));show wpAny _ _ (Builtin.SmallTypes.ownedTupleHandOut (.ref (n+5)) (.ref g7.objs.size)>>=_) _ _ _;refine wpAny_bind ?_;unfold Builtin.SmallTypes.ownedTupleHandOut;have z8:jY (g7.push {cls:= .type "tuple",data:= .seq #[x,y,u]}) (n+5) (n+3) (n+4) .ellipsis vS:=Heap.get?_push_of_some _ z7;refine wpAny_bind (wpAny_setField_rec z8 (by simp) λg9 z9 s9=> ?_);replace z9:jY g9 (n+5) (n+3) (n+4) (rawInt g7.objs.size) vS:=z9;refine wpAny_setField_rec z9 (by simp) λga za sa=> ?_;replace za:jY ga (n+5) (n+3) (n+4) (rawInt g7.objs.size) (.bool false):=za;have up: ∀(c:Nat) o,c≠n+5->g7.get? c=some o->ga.get? c=some o:= λc o c1 e=>(sa.2 _ c1).trans ((s9.2 _ c1).trans (Heap.get?_push_of_some _ e));have nz:g7.objs.size≠n+5:=Nat.ne_of_gt (Heap.lt_size z7);have new:yP ga g7.objs.size x y u:=(sa.2 _ nz).trans ((s9.2 _ nz).trans (Heap.get?_push_size _ rfl));refine wpAny_pure ⟨_,rfl,?_⟩;show Q (.ref g7.objs.size) _;rw[sz]at new ⊢;exact q ga ⟨⟨_,_,za,.inr ⟨_,rfl⟩⟩,up _ _ d3 i7,⟨_,_,_,up _ _ d4 to7⟩,b1'.at λo e=>up _ o d0 e,b2'.at λo e=>up _ o d1 e,b3'.at λo e=>up _ o d2 e⟩ new λc o hc e=>up c o (ou hc).2.2.2.2 (k7 c o hc e)
 |false=>
  simp only[Bool.false_eq_true,if_false];refine wpAny_bind ?_;show wpAny _ _ (forIn #[Value.ref n,.ref (n+1),.ref (n+2)] _ _) _ _ _;rw[<-Array.forIn_toList];show wpAny _ _ (forIn [Value.ref n,.ref (n+1),.ref (n+2)] _ _) _ _ _;simp only[List.forIn_cons,List.forIn_nil];refine wpAny_bind (wpAny_bind (wpAny_holding ?_));show wpAny _ _ (Builtin.SmallTypes.nextOf (.ref n)>>=_) _ _ _;refine wpAny_bind (dE h1 iP hx λg2 b1 s2=>wpAny_pure (wpAny_pure (wpAny_bind (wpAny_bind (wpAny_holding ?_)))));show wpAny _ _ (Builtin.SmallTypes.nextOf (.ref (n+1))>>=_) _ _ _;refine wpAny_bind (dE (h2.at λo e=>(s2.2 _ f01.symm).trans e) (bZ.at λo e=>(s2.2 _ (lo m2).1).trans e) hy λg4 b2 s4=>wpAny_pure (wpAny_pure (wpAny_bind (wpAny_bind (wpAny_holding ?_)))));show wpAny _ _ (Builtin.SmallTypes.nextOf (.ref (n+2))>>=_) _ _ _;refine wpAny_bind (dE (h3.at λo e=>(s4.2 _ f12.symm).trans ((s2.2 _ f02.symm).trans e)) (hl3.at λo e=>(s4.2 _ (lo m3).2.1).trans ((s2.2 _ (lo m3).1).trans e)) hu λg6 b3 s6=>wpAny_pure (wpAny_pure (wpAny_pure ?_)));show wpAny _ _ (newTuple [x,y,u]>>=_) _ _ _;refine wpAny_bind (wpAny_newTuple (wpAny_pure ⟨_,rfl,?_⟩));have sz:g6.objs.size=s.heap.objs.size:=by rw[s6.1,s4.1,s2.1,z0]
  have k6: ∀(c:Nat) o,c≠n->c≠n+1->c≠n+2->h0.get? c=some o->g6.get? c=some o:= λc o c1 c2 c3 e=>(s6.2 _ c3).trans ((s4.2 _ c2).trans ((s2.2 _ c1).trans e));have up: ∀c o,g6.get? c=some o->(g6.push {cls:= .type "tuple",data:= .seq #[x,y,u]}).get? c=some o:= λc o e=>Heap.get?_push_of_some _ e;have new:yP (g6.push {cls:= .type "tuple",data:= .seq #[x,y,u]}) g6.objs.size x y u:=Heap.get?_push_size _ rfl;show Q (.ref g6.objs.size) _;rw[sz]at new ⊢;exact q _ ⟨⟨_,_,up _ _ (k6 _ _ d0.symm d1.symm d2.symm vY),hf⟩,up _ _ (k6 _ _ j0 j1 j2 xM),⟨_,_,_,up _ _ (k6 _ _ g0.symm g1'.symm g2'.symm hTO)⟩,b1.at λo e=>up _ o ((s6.2 _ f02).trans ((s4.2 _ f01).trans e)),b2.at λo e=>up _ o ((s6.2 _ f12).trans e),b3.at λo e=>up _ o e⟩ new λc o hc e=>up c o (k6 c o (ou hc).1 (ou hc).2.1 (ou hc).2.2.1 (kk0 c o hc e))
end
section
variable {n l1 l2 l3:Nat}{k:Nat}
theorem zls{xs:Array Value}{Q:PySem.Fin->Shared->Prop}(hh:A.handled=none)(m1:l1<n)(st:wC t3 n l1 l2 l3 k s.heap)(iP:cW false s.heap l1 xs)(hx:xs[k]?=none)
 (q: ∀h' e,(∀(c:Nat) o,c<n\/n+6<=c->s.heap.get? c=some o->h'.get? c=some o)->(∃o,h'.get? e=some o/\o.cls= .type "StopIteration")->E (.ref e) {s with heap:=h'}):
 wpAny (model P w) A (Builtin.«zip.__next__» ⟨[.ref (n+5)],[]⟩) Q E s:=by
 obtain⟨⟨f0,f1,hz,hf⟩,xM,_,h1,_,_⟩:=st
 show wpAny _ _ (field (.ref (n+5)) 2>>=_) _ _ _
 refine wpAny_bind (wpAny_field hz rfl (x:= .bool false) rfl ?_)
 show wpAny _ _ (field (.ref (n+5)) 3>>=_) _ _ _
 refine wpAny_bind (wpAny_field hz rfl (x:= .ref (n+3)) rfl (wpAny_bind (wpAny_seqItems xM rfl ?_)))
 show wpAny _ _ (Builtin.SmallTypes.ownedTupleIsFree (.ref (n+5))>>=_) _ _ _
 refine wpAny_bind (kX hz hf λb h0 vS vY s0=> ?_)
 have d0:n≠n+5:=by omega
 have lz:l1≠n+5:=by omega
 have ou: ∀{c:Nat},c<n\/n+6<=c->c≠n/\c≠n+5:= λhc=>by omega
 have e0: ∀{c:Nat},c≠n+5-> ∀o,s.heap.get? c=some o->h0.get? c=some o:= λnc o e=>(s0.2 _ nc).trans e
 replace h1:=h1.at (e0 d0)
 replace iP:=iP.at (e0 lz)
 cases b with
 |true=>
  simp only[if_true];refine wpAny_bind (wpAny_rule (wpAny_bind (wpAny_field vY rfl (x:= .ref (n+4)) rfl ?_)));refine wpAny_bind (wpAny_setField_rec vY (by simp) λg1 z1 s1=> ?_);replace z1:jY g1 (n+5) (n+3) (n+4) .ellipsis vS:=z1;refine wpAny_bind ?_;simp only[List.zipIdx_cons,List.zipIdx_nil,List.forIn_cons,List.forIn_nil];refine wpAny_bind (wpAny_bind (wpAny_onRaise ?_));show wpAny _ _ (Builtin.SmallTypes.nextOf (.ref n)>>=_) _ _ _;refine wpAny_bind (lB hh (h1.at λo e=>(s1.2 _ d0).trans e) (iP.at λo e=>(s1.2 _ lz).trans e) hx λg2 e s2 he=> ?_);obtain⟨oe,hoe,hce⟩:=he;have z2:jY g2 (n+5) (n+3) (n+4) .ellipsis vS:=s2 _ _ d0.symm z1;have ez:e≠n+5:= λx=>by rw[x,z2]at hoe;cases hoe;simp at hce
  exact wpAny_setField_rec z2 (by simp) λg3 _ s3=>q g3 e (λc o hc x=>(s3.2 _ (ou hc).2).trans (s2 _ _ (ou hc).1 ((s1.2 _ (ou hc).2).trans (e0 (ou hc).2 o x)))) ⟨oe,(s3.2 _ ez).trans hoe,hce⟩
 |false=>
  simp only[Bool.false_eq_true,if_false];refine wpAny_bind ?_;show wpAny _ _ (forIn #[Value.ref n,.ref (n+1),.ref (n+2)] _ _) _ _ _;rw[<-Array.forIn_toList];show wpAny _ _ (forIn [Value.ref n,.ref (n+1),.ref (n+2)] _ _) _ _ _;simp only[List.forIn_cons,List.forIn_nil];refine wpAny_bind (wpAny_bind (wpAny_holding ?_));show wpAny _ _ (Builtin.SmallTypes.nextOf (.ref n)>>=_) _ _ _;exact wpAny_bind (lB hh h1 iP hx λg2 e s2 he=>q g2 e (λc o hc x=>s2 _ _ (ou hc).1 (e0 (ou hc).2 o x)) he)
theorem wC.ty(st:wC t3 n l1 l2 l3 k s.heap):s.TypeIs (.ref (n+5)) "zip" :=let⟨_,_,hz,_⟩:=st.zo;⟨_,hz,rfl⟩
theorem zhd{xs ys zs:Array Value}{x y u:Value}{Q:Option Value->Shared->Prop}(m1:l1<n)(m2:l2<n)(m3:l3<n)(st:wC t3 n l1 l2 l3 k s.heap)
 (iP:cW false s.heap l1 xs) (bZ:cW false s.heap l2 ys) (hl3:cW t3 s.heap l3 zs) (hx:xs[k]?=some x) (hy:ys[k]?=some y) (hu:zs[k]?=some u)
 (q: ∀h',wC t3 n l1 l2 l3 (k+1) h'->yP h' s.heap.objs.size x y u->(∀(c:Nat) o,c<n\/n+6<=c->s.heap.get? c=some o->h'.get? c=some o)->Q (some (.ref s.heap.objs.size)) {s with heap:=h'}):
 wpAny (model P w) A (pyNext (.ref (n+5))) Q E s:=by
 unfold pyNext
 exact wpAny_bind (wpAny_attempt (wpAny_callSpecial?_slot (name:=Str.ofString "__next__") st.ty PySem.F.slot_zip_next (wpAny_call_entry PySem.F.slot_zip_next st.ty PySem.F.entry_zip_next (zht m1 m2 m3 st iP bZ hl3 hx hy hu λh' a1 a2 a3=>wpAny_pure (q h' a1 a2 a3)) (PySem.F.args_zip_next_1 _))))
theorem zjx{xs:Array Value}{Q:Option Value->Shared->Prop}(hh:A.handled=none)(m1:l1<n)(st:wC t3 n l1 l2 l3 k s.heap)(iP:cW false s.heap l1 xs)(hx:xs[k]?=none)
 (q: ∀h',(∀(c:Nat) o,c<n\/n+6<=c->s.heap.get? c=some o->h'.get? c=some o)->Q none {s with heap:=h'}):wpAny (model P w) A (pyNext (.ref (n+5))) Q E s:=by
 unfold pyNext
 refine wpAny_bind (wpAny_attempt (wpAny_callSpecial?_slot (name:=Str.ofString "__next__") st.ty PySem.F.slot_zip_next (wpAny_call_entry PySem.F.slot_zip_next st.ty PySem.F.entry_zip_next (zls hh m1 st iP hx λh' e kk ⟨oe,hoe,hce⟩=> ?_) (PySem.F.args_zip_next_1 _))))
 exact wpAny_bind (wpAny_isInstance (T:= "StopIteration") (b:=true) ⟨_,hoe,hce⟩ isSubtype_stop (wpAny_pure (q h' kk)))
abbrev zr1(h:Heap)(l1:Addr):Heap:=h.push (itO false l1)
abbrev zr2(h:Heap)(l1 l2:Addr):Heap:=(zr1 h l1).push (itO false l2)
abbrev zr3(t3:Bool)(h:Heap)(l1 l2 l3:Addr):Heap:=(zr2 h l1 l2).push (itO t3 l3)
abbrev zr4(t3:Bool)(h:Heap)(l1 l2 l3:Addr):Heap:=(zr3 t3 h l1 l2 l3).push {cls:= .type "tuple",data:= .seq #[.ref h.objs.size,.ref (zr1 h l1).objs.size,.ref (zr2 h l1 l2).objs.size]}
abbrev zr5(t3:Bool)(h:Heap)(l1 l2 l3:Addr):Heap:=(zr4 t3 h l1 l2 l3).push {cls:= .type "tuple",data:= .seq #[.none,.none,.none]}
abbrev zr6(t3:Bool)(h:Heap)(l1 l2 l3:Addr):Heap:=(zr5 t3 h l1 l2 l3).push {cls:= .type "zip",data:= .fields #[.none,.bool false,.bool false,.ref (zr3 t3 h l1 l2 l3).objs.size,.ref (zr4 t3 h l1 l2 l3).objs.size]}
theorem zfJ(t3:Bool)(l1 l2 l3:Addr)(xs ys zs:Array Value):Meets (Builtin.«zip.__new__» ⟨[.type "zip",.ref l1,.ref l2,.ref l3],[]⟩) (λ_ R s=>(s.heap.IsList l1 xs/\s.heap.IsList l2 ys/\cW t3 s.heap l3 zs)/\R (.ok (.ret (.ref (zr5 t3 s.heap l1 l2 l3).objs.size))) {s with heap:=zr6 t3 s.heap l1 l2 l3}):=
 .of_wp λprog w A R s ⟨⟨k1,k2,k3⟩,h⟩=>by
  obtain⟨hp,g,d,tk,os⟩:=s;have sub:=sub_zip;have c1:Heap.IsList (Shared.heap ⟨hp,g,d,tk,os⟩) l1 xs:=k1;have c2:Heap.IsList (Shared.heap ⟨hp.push {cls:= .type "list_iterator",data:= .fields #[.ref l1,.int 0 0]},g,d,tk,os⟩) l2 ys:=k2.push _;have k3':=cW.at k3 (h':=zr2 hp l1 l2) λo e=>Heap.get?_push_of_some _ (Heap.get?_push_of_some _ e);cases t3
  . have c3:Heap.IsList (Shared.heap ⟨(hp.push {cls:= .type "list_iterator",data:= .fields #[.ref l1,.int 0 0]}).push {cls:= .type "list_iterator",data:= .fields #[.ref l2,.int 0 0]},g,d,tk,os⟩) l3 zs:=k3'
    wp_walk using wpAny_pyIter_list c1,wpAny_pyIter_list c2,wpAny_pyIter_list c3
    exact⟨_,rfl,h⟩
  . have c3:Heap.IsTuple (Shared.heap ⟨(hp.push {cls:= .type "list_iterator",data:= .fields #[.ref l1,.int 0 0]}).push {cls:= .type "list_iterator",data:= .fields #[.ref l2,.int 0 0]},g,d,tk,os⟩) l3 zs:=k3'
    wp_walk using wpAny_pyIter_list c1,wpAny_pyIter_list c2,wpAny_pyIter_tuple c3
    exact⟨_,rfl,h⟩
theorem rN(a b c:Value):checkTypeCall "zip" ⟨[a,b,c],[]⟩=pure ():=by kernel_rfl
theorem sE(a b c:Value):checkBuiltinCall "zip.__new__" ⟨[.type "zip",a,b,c],[]⟩=pure ():=by kernel_rfl
theorem xA(a b c d:Value):argsOk "object.__init__" ⟨[a,b,c,d],[]⟩:=by
 have h:=PySem.F.args_object_init_3 a b c
 unfold argsOk at h ⊢
 exact h
end
theorem zmN{n c:Nat}(h: ¬c=n+5/\ ¬c=n+3/\ ¬c=n+4/\ ¬c=n/\ ¬c=n+1/\ ¬c=n+2):c<n\/n+6<=c:=by omega
theorem zlU{l1 l2 l3:Addr}{xs ys zs:Array Value}{Q:Value->Shared->Prop}(iP:s.heap.IsList l1 xs)(bZ:s.heap.IsList l2 ys)(hl3:cW t3 s.heap l3 zs)
 (q: ∀h',wC t3 s.heap.objs.size l1 l2 l3 0 h'->(∀c o,s.heap.get? c=some o->h'.get? c=some o)->Q (.ref (s.heap.objs.size+5)) {s with heap:=h'}):
 wpAny (model P w) A (call (.type "zip") [.ref l1,.ref l2,.ref l3]) Q E s:=by
 refine callType_new PySem.F.called_zip (by decide) (rN _ _ _) (sE _ _ _) (λobj=>xA obj _ _ _) PySem.F.entry_zip_new (zfJ t3 l1 l2 l3 xs ys zs) ⟨⟨iP,bZ,hl3⟩,?_⟩
 have y1:(zr1 s.heap l1).objs.size=s.heap.objs.size+1:=Heap.size_push ..
 have y2:(zr2 s.heap l1 l2).objs.size=s.heap.objs.size+2:=by rw[Heap.size_push,y1]
 have y3:(zr3 t3 s.heap l1 l2 l3).objs.size=s.heap.objs.size+3:=by rw[Heap.size_push,y2]
 have y4:(zr4 t3 s.heap l1 l2 l3).objs.size=s.heap.objs.size+4:=by rw[Heap.size_push,y3]
 have y5:(zr5 t3 s.heap l1 l2 l3).objs.size=s.heap.objs.size+5:=by rw[Heap.size_push,y4]
 have nf: ∀t l,(itO t l).isFreed=false:= λt l=>rfl
 have u: ∀{h:Heap} {o o':Obj} {c:Addr},h.get? c=some o->(h.push o').get? c=some o:= λe=>Heap.get?_push_of_some _ e
 have g6:(zr6 t3 s.heap l1 l2 l3).get? (zr5 t3 s.heap l1 l2 l3).objs.size=some _:=Heap.get?_push_size _ rfl
 have g5:(zr6 t3 s.heap l1 l2 l3).get? (zr4 t3 s.heap l1 l2 l3).objs.size=some _:=u (Heap.get?_push_size _ rfl)
 have g4:(zr6 t3 s.heap l1 l2 l3).get? (zr3 t3 s.heap l1 l2 l3).objs.size=some _:=u (u (Heap.get?_push_size _ rfl))
 have g3:(zr6 t3 s.heap l1 l2 l3).get? (zr2 s.heap l1 l2).objs.size=some _:=u (u (u (Heap.get?_push_size _ (nf t3 l3))))
 have g2:(zr6 t3 s.heap l1 l2 l3).get? (zr1 s.heap l1).objs.size=some _:=u (u (u (u (Heap.get?_push_size _ (nf false l2)))))
 have g1:(zr6 t3 s.heap l1 l2 l3).get? s.heap.objs.size=some _:=u (u (u (u (u (Heap.get?_push_size _ (nf false l1))))))
 show _/\_
 rw[y3,y4,y5]at g6
 rw[y4]at g5
 rw[y1,y2,y3]at g4
 rw[y2]at g3
 rw[y1]at g2
 rw[y5]
 exact⟨⟨_,g6,rfl⟩,q _ ⟨⟨_,_,g6,.inl rfl⟩,g4,⟨_,_,_,g5⟩,pS g1,pS g2,pS g3⟩ λc o x=>u (u (u (u (u (u x)))))⟩
theorem wC.obj{n l1 l2 l3 k:Nat}{h:Heap}(st:wC t3 n l1 l2 l3 k h): ∀c∈([n+5,n+3,n+4,n,n+1,n+2]:List Addr),∃o,h.get? c=some o/\ ∀v,o.data≠ .cell v:= λc hc=>by
 obtain⟨⟨f0,f1,h1,_⟩,h2,⟨p,q,r,h3⟩,h4,h5,h6⟩:=st
 simp only[List.mem_cons,List.not_mem_nil,or_false]at hc
 rcases hc with rfl|rfl|rfl|rfl|rfl|rfl
 . exact⟨_,h1,λv z=>nomatch (show Data.fields _=Data.cell v from z)⟩
 . exact⟨_,h2,λv z=>nomatch (show Data.seq _ _=Data.cell v from z)⟩
 . exact⟨_,h3,λv z=>nomatch (show Data.seq _ _=Data.cell v from z)⟩
 . exact h4.obj
 . exact h5.obj
 . exact h6.obj
theorem wC.keep{n l1 l2 l3 k:Nat}{h h':Heap}(st:wC t3 n l1 l2 l3 k h)(kk: ∀c∈([n+5,n+3,n+4,n,n+1,n+2]:List Addr),∀o,h.get? c=some o->h'.get? c=some o):wC t3 n l1 l2 l3 k h':=by
 obtain⟨⟨f0,f1,h1,hf⟩,h2,⟨p,q,r,h3⟩,h4,h5,h6⟩:=st
 exact⟨⟨f0,f1,kk _ (by simp) _ h1,hf⟩,kk _ (by simp) _ h2,⟨p,q,r,kk _ (by simp) _ h3⟩,h4.at λo e=>kk _ (by simp) o e,h5.at λo e=>kk _ (by simp) o e,h6.at λo e=>kk _ (by simp) o e⟩
theorem zaG{n l1 l2 l3 k:Nat}{Q:Value->Shared->Prop}(st:wC t3 n l1 l2 l3 k s.heap)(q:Q (.ref (n+5)) s):wpAny (model P w) A (pyIter (.ref (n+5))) Q E s:=by
 refine wpAny_pyIter_slot st.ty PySem.F.slot_zip_iter (wpAny_call_entry PySem.F.slot_zip_iter st.ty PySem.F.entry_zip_iter ?_ (PySem.F.args_zip_iter_1 _))
 show wpAny _ _ (ret (.ref (n+5))) _ _ s
 exact wpAny_pure ⟨_,rfl,"zip",_,st.ty,PySem.F.slot_zip_next.lookup,q⟩
theorem zmM{n l1 l2 l3 k:Nat}{T:Addr}{elts:List Expr}{j:Nat}{pos:Pos}{Q:Unit->Shared->Prop}(st:wC t3 n l1 l2 l3 k s.heap)
 (q: ∀h',wC t3 n l1 l2 l3 k h'->Heap.SameBut (n+5) s.heap h'->Q () {s with heap:=h'}):wpAny (model P w) A (letOwnedTupleGo (.Tuple elts j pos) (.ref (n+5)) (.ref T)) Q E s:=by
 have st0:=st
 obtain⟨⟨f0,f1,hz,hf⟩,xM,⟨p,r,r',hTO⟩,h1,h2,h3⟩:=st
 unfold letOwnedTupleGo
 refine wpAny_bind (wpAny_load hz ?_)
 refine wpAny_ite_split (λ_=> ?_) (λ_=>wpAny_pure (q s.heap st0 ⟨rfl,λ_ _=>rfl⟩))
 refine wpAny_bind (wpAny_rule ?_)
 show wpAny _ _ (setField (.ref (n+5)) 0 .none) Q E s
 refine wpAny_setField_rec hz (by simp) λh' hz' yV=>q h' ?_ yV
 have kp: ∀{c:Nat},c≠n+5-> ∀o,s.heap.get? c=some o->h'.get? c=some o:= λnc o e=>(yV.2 _ nc).trans e
 exact⟨⟨_,_,hz',.inl rfl⟩,kp (by omega) _ xM,⟨_,_,_,kp (by omega) _ hTO⟩,h1.at (kp (by omega)),h2.at (kp (by omega)),h3.at (kp (by omega))⟩
def It3(t3:Bool)(K:W.Frag)(a b c:Addr):It:=
 ⟨λi H=> ∃xs ys zs x y z,aY K H a xs/\aY K H b ys/\vZ t3 K H c zs/\xs[i]?=some x/\ys[i]?=some y/\zs[i]?=some z,
  λi H v H'=> ∃T,H T=none/\v= .ref T/\ ∀xs ys zs,aY K H a xs->aY K H b ys->vZ t3 K H c zs-> ∃x y z,xs[i]?=some x/\ys[i]?=some y/\zs[i]?=some z/\H'=aN H T (.tup [x,y,z]),
  λi H=> ∃xs,aY K H a xs/\xs.length<=i⟩
theorem zhx{P:Program}{w:World}{K:W.Frag}{t3:Bool}{elts:List Expr}{j:Nat}{pos:Pos}{n a b c:Nat}(ma:a<n)(mb:b<n)(mc:c<n):oW P w K (.Tuple elts j pos) (It3 t3 K a b c) [n+5,n+3,n+4,n,n+1,n+2] (n+5) (wC t3 n a b c) where
 mem:=by simp
 obj:= λi h st=>st.obj
 keep:= λi h h' st kk=>st.keep kk
 item:=by
  intro X hP hw hK hc i aA s σ H E I hf st ⟨xs,ys,zs,x,y,z,h1,h2,h3,hx,hy,hz⟩;subst hP hw hK;obtain⟨nO,zC,sD,_⟩:=I.list h1;obtain⟨jZ,rv2,wZ,_⟩:=I.list h2;obtain⟨ztV,rv3,pl3,_⟩:=I.seqX h3;obtain⟨u1,hu1,ru1⟩:=zC.get hx;obtain⟨u2,hu2,ru2⟩:=rv2.get hy;obtain⟨u3,hu3,ru3⟩:=rv3.get hz;have ob:=st.obj;refine zhd ma mb mc st sD.isList wZ.isList pl3 (x:=u1) (y:=u2) (u:=u3) (by simpa using hu1) (by simpa using hu2) (by simpa using hu3) λh' sM pr kk=>⟨_,rfl,zmM (s:={s with heap:=h'}) sM λh9 st9 sb=> ?_⟩;obtain⟨f0,f1,hzo,_⟩:=st.zo;have hlz:n+5<s.heap.objs.size:=Heap.lt_size hzo;have hTz:s.heap.objs.size≠n+5:=Nat.ne_of_gt hlz;have kp: ∀c o,c∉([n+5,n+3,n+4,n,n+1,n+2]:List Addr)->s.heap.get? c=some o->h9.get? c=some o:= λc o hc e=>by
   simp only[List.mem_cons,List.not_mem_nil,or_false,not_or]at hc;have hc':c<n\/n+6<=c:=zmN hc;exact(sb.2 c hc.1).trans (kk c o hc' e)
  have pr9:yP h9 s.heap.objs.size u1 u2 u3:=(sb.2 _ hTz).trans pr;refine⟨.ref s.heap.objs.size,_,I.turnLaid (o:= .tup [x,y,z]) (t':=s.toks) hf kp (Nat.le_refl _) ⟨by show 3<=sizeLine;rw[sizeLine_eq];decide,[u1,u2,u3],.cons ru1 (.cons ru2 (.cons ru3 .nil)),⟨_,pr9,rfl,_,rfl⟩⟩,rfl,⟨_,I.fresh,rfl,λxs' sL vW g1 g2 g3=>⟨x,y,z,by rw[I.list_inj g1 h1];exact hx,by rw[I.list_inj g2 h2];exact hy,by rw[I.injX g3 h3];exact hz,rfl⟩⟩,st9,λc hc=> ?_⟩;obtain⟨o,ho,_⟩:=ob c hc;rw[aD (Nat.ne_of_lt (Heap.lt_size ho))];exact(hf c hc).1
 done:=by
  intro X hP hw hK hc i aA s σ H E I hf st ⟨xs,h1,hl⟩;subst hP hw hK;obtain⟨nO,zC,sD,_⟩:=I.list h1;have l1:=zC.length;refine zjx (I.ok.hd hc) ma st sD.isList (by simp;omega) λh' kk=>⟨rfl,I.turnedL (t':=s.toks) hf λc o hc e=> ?_⟩;simp only[List.mem_cons,List.not_mem_nil,or_false,not_or]at hc;have hc':c<n\/n+6<=c:=zmN hc;exact kk c o hc' e
 self:= λA i s Q E st h=>zaG st h
def zoi(t3:Bool)(K:W.Frag)(ta:TA):TI:= λσ H R=>ta σ H λvs H1=> ∃a b c,vs=[.ref a,.ref b,.ref c]/\(∃xs,aY K H1 a xs)/\(∃ys,aY K H1 b ys)/\(∃zs,vZ t3 K H1 c zs)/\R (It3 t3 K a b c) H1
theorem zaw{X:Cx}(t3:Bool){elts:List Expr}{j:Nat}{oT:Pos}{e1 e2 e3:Expr}{ta:TA}{p pos:Pos}(hg:Gl X "zip")(hm:X.mg "zip" =none)(ha:PA X [e1,e2,e3] ta)(hs:starEach [e1,e2,e3] X.env=[(false,eval e1 X.env),(false,eval e2 X.env),(false,eval e3 X.env)]:=by rfl)(yG:starEach [e2,e3] X.env=[(false,eval e2 X.env),(false,eval e3 X.env)]:=by rfl):
 PI X (.Tuple elts j oT) (.Call (.Name "zip" p) [e1,e2,e3] [] pos) (zoi t3 X.K ta):=by
 intro aA s σ H R I h
 refine Call_ (iV I hg hm (show bootBuiltins "zip" =some (.type "zip") by decide+kernel) (PyProof.Rows.callWith_type1 (cH (ha pos aA s σ H _ I h) λus s1 ⟨vs,H1,I1,r1,q1⟩=> ?_) (by rw[hs,yG]) (by rw[yG];rfl)))
 obtain⟨a,b,c,e,⟨xs,hq1⟩,⟨ys,hq2⟩,⟨zs,hq3⟩,q⟩:=q1
 subst e
 obtain⟨u1,u2,u3,rfl,r1,r2,r3⟩: ∃u1 u2 u3,us=[u1,u2,u3]/\bA (.ref a) u1/\bA (.ref b) u2/\bA (.ref c) u3:=by
  cases r1 with
  |cons p' q'=>
   obtain⟨u2,u3,rfl,p2,p3⟩:=bK.two q';exact⟨_,u2,u3,rfl,p',p2,p3⟩
 cases r1
 cases r2
 cases r3
 obtain⟨nO,zC,sD,_⟩:=I1.list hq1
 obtain⟨jZ,rv2,wZ,_⟩:=I1.list hq2
 obtain⟨ztV,rv3,pl3,_⟩:=I1.seqX hq3
 have la:a<s1.heap.objs.size:=by obtain⟨o,ho,_⟩:=sD.isList;exact Heap.lt_size ho
 have lb:b<s1.heap.objs.size:=by obtain⟨o,ho,_⟩:=wZ.isList;exact Heap.lt_size ho
 have lc:=pl3.lt
 refine zlU sD.isList wZ.isList pl3 λh' st kk=> ?_
 have I2:aM X aA σ H1 {s1 with heap:=h'}:=I1.kept (t':=s1.toks) kk
 refine zaG (s:={s1 with heap:=h'}) st ⟨_,_,_,_,H1,rfl,I2,zhx la lb lc,st,λd hd=> ?_,q⟩
 have mE:s1.heap.objs.size<=d:=by
  simp only[List.mem_cons,List.not_mem_nil,or_false]at hd
  rcases hd with rfl|rfl|rfl|rfl|rfl|rfl<;>omega
 exact I1.fpOk mE (I1.hok.fresh mE)
theorem zdj{K:W.Frag}{t3:Bool}{a b c:Addr}{xs ys zs:List V}{g:TG}{tb:TS}{D:gK}{σ:St}{H:Hp}(Pv:Nat->St->Hp->Prop)(cQ:xs.length=ys.length)(zfR:xs.length=zs.length)(h0:Pv 0 σ H)(hl: ∀i σ H,i<=xs.length->Pv i σ H->aY K H a xs/\aY K H b ys/\vZ t3 K H c zs)
 (hs: ∀i x y z σ H T,xs[i]?=some x->ys[i]?=some y->zs[i]?=some z->H T=none->Pv i σ H->g (.ref T) σ (aN H T (.tup [x,y,z])) λσ2 H2=>tb {D with nx:=Pv (i+1),ct:=Pv (i+1),bk:=D.nx} σ2 H2) (hd: ∀σ H,Pv xs.length σ H->D.nx σ H):
 ∃W:Nat->Nat->St->Hp->Prop,(∃m,W 0 m σ H)/\ ∀i m σ H,W i m σ H->
  ((It3 t3 K a b c).stop i H/\D.nx σ H)\/((It3 t3 K a b c).go i H/\ ∃N:St->Hp->Prop,(∀σ' H',N σ' H'-> ∃m',m'<m/\W (i+1) m' σ' H')/\ ∀x H',(It3 t3 K a b c).yld i H x H'->g x σ H' λσ2 H2=>tb {D with nx:=N,ct:=N,bk:=D.nx} σ2 H2):=by
 refine⟨λi m σ H=>m=xs.length - i/\i<=xs.length/\Pv i σ H,⟨xs.length,by simp,Nat.zero_le _,h0⟩,?_⟩
 rintro i m σ H ⟨rfl,hi,p⟩
 have q:=hl i σ H hi p
 by_cases eO:i<xs.length
 . refine .inr ⟨⟨xs,ys,zs,xs[i],ys[i],zs[i],q.1,q.2.1,q.2.2,by simp[eO],by simp[cQ▸eO],by simp[zfR▸eO]⟩,Pv (i+1),λσ' H' p'=>⟨xs.length - (i+1),by omega,rfl,eO,p'⟩,λx H' y=> ?_⟩;obtain⟨T,hT,rfl,y⟩:=y;obtain⟨x1,y1,z1,hx,hy,hz,rfl⟩:=y xs ys zs q.1 q.2.1 q.2.2;exact hs i x1 y1 z1 σ H T hx hy hz hT p
 . have e:i=xs.length:=by omega
   subst e;exact .inl ⟨⟨xs,q.1,Nat.le_refl _⟩,hd σ H p⟩
theorem zbA{K:W.Frag}{t3:Bool}{a b c D:Addr}{xs ys zs:List V}{g:TG}{te:TE}{Q:VK}{σ0:St}{H1:Hp}(Pv:Nat->List V->St->Hp->Prop)(cQ:xs.length=ys.length)(zfR:xs.length=zs.length)(vM:xs.length<=60)(h0:Pv 0 [] σ0 (aN H1 D (.lst [])))
 (hy: ∀i vs σ H,Pv i vs σ H->vs.length<=i) (hl: ∀i vs σ H,Pv i vs σ H->aY K H a xs/\aY K H b ys/\vZ t3 K H c zs)
 (hs: ∀i x y z vs σ H T,xs[i]?=some x->ys[i]?=some y->zs[i]?=some z->H T=none->H D=some (.lst vs)->Pv i vs σ H->g (.ref T) σ (aN H T (.tup [x,y,z])) λσ2 H2=>te σ2 H2 λv H4=>H4 D=some (.lst vs)/\Pv (i+1) (vs++[v]) σ2 (aN H4 D (.lst (vs++[v])))) (hd: ∀vs σ H,H D=some (.lst vs)->Pv xs.length vs σ H->Q (.ref D) H):
 bJ (It3 t3 K a b c) D g dJ te Q σ0 H1:=by
 refine⟨λi m vs σ H=>m=xs.length - i/\i<=xs.length/\Pv i vs σ H,⟨xs.length,by simp,Nat.zero_le _,h0⟩,?_⟩
 rintro i m vs σ H hD ⟨rfl,hi,p⟩
 have q:=hl i vs σ H p
 have lv:=hy i vs σ H p
 by_cases eO:i<xs.length
 . refine .inr ⟨⟨xs,ys,zs,xs[i],ys[i],zs[i],q.1,q.2.1,q.2.2,by simp[eO],by simp[cQ▸eO],by simp[zfR▸eO]⟩,cY (by omega),λvs'=>Pv (i+1) vs',λvs' σ' H' p'=>⟨xs.length - (i+1),by omega,rfl,eO,p'⟩,λx H' y=> ?_⟩;obtain⟨T,hT,rfl,y⟩:=y;obtain⟨x1,y1,z1,hx,hy',hz,rfl⟩:=y xs ys zs q.1 q.2.1 q.2.2;exact hs i x1 y1 z1 vs σ H T hx hy' hz hT hD p
 . have e:i=xs.length:=by omega
   subst e;exact .inl ⟨⟨xs,q.1,Nat.le_refl _⟩,hd vs σ H hD p⟩
def cX(P:Program)(w:World)(H:Hp)(x:V)(d:PyData):Prop:= ∀h u,jG P w H h->bA x u-> ∃as,Reads h u d as
section
variable {H:Hp}
theorem cX.int(i:Int):cX P w H (.int i) (.int i):= λh u _ r=>by
 obtain⟨t,rfl⟩:=r
 exact⟨_,.int i t⟩
theorem cX.str(x:Str):cX P w H (.str x) (.str x):= λh u _ r=>by
 obtain⟨t,rfl⟩:=r
 exact⟨_,.str x t⟩
theorem cX.bool(b:Bool):cX P w H (.bl b) (.bool b):= λh u _ r=>by
 cases r
 exact⟨_,.bool b⟩
theorem cX.all{xs:List V}{ds:List PyData}(q:Paired (cX P w H) xs ds){h:Heap}(ok:jG P w H h): ∀{us:List Value},bK xs us-> ∃as,ReadsAll h us ds as:=by
 induction q with
 |nil=>intro us r;cases r;exact⟨_,.nil⟩
 |cons e _ ih=>
  intro us r;cases r with
  |cons r1 r2=>
   obtain⟨as,z1⟩:=e h _ ok r1;obtain⟨bs,z2⟩:=ih r2;exact⟨_,.cons z1 z2⟩
theorem cX.lst{a:Addr}{xs:List V}{ds:List PyData}(e:H a=some (.lst xs))(q:Paired (cX P w H) xs ds):cX P w H (.ref a) (.list ds):= λh u ok r=>by
 cases r
 obtain⟨_,bC,n,rv,z⟩:=ok _ _ e
 obtain⟨as,zs⟩:=cX.all q ok rv
 exact⟨_,.list z rfl rfl zs⟩
theorem cX.tup{a:Addr}{xs:List V}{ds:List PyData}(e:Rd H a (.tup xs))(q:Paired (cX P w H) xs ds):cX P w H (.ref a) (.tuple ds):= λh u ok r=>by
 cases r
 obtain⟨_,bC,rv,o,z,e1,n,e2⟩:=e.ok ok
 obtain⟨as,zs⟩:=cX.all q ok rv
 exact⟨_,.tuple z e1 e2 zs⟩
def bX(H:Hp):Nat->V->PyData->Prop
 |0,x,d=>(∃i,x= .int i/\d= .int i)\/(∃s,x= .str s/\d= .str s)\/ ∃b,x= .bl b/\d= .bool b
 |n+1,x,d=>bX H n x d\/ ∃a xs ds,x= .ref a/\((H a=some (.lst xs)/\d= .list ds)\/(Rd H a (.tup xs)/\d= .tuple ds))/\Paired (bX H n) xs ds
theorem bX.at: ∀{n:Nat} {x:V} {d:PyData},bX H n x d->cX P w H x d:=by
 intro n
 induction n with
 |zero=>
  intro x d h
  rcases h with⟨i,rfl,rfl⟩|⟨s,rfl,rfl⟩|⟨b,rfl,rfl⟩
  . exact cX.int i
  . exact cX.str s
  . exact cX.bool b
 |succ n ih=>
  intro x d h
  rcases h with h|⟨a,xs,ds,rfl,h,q⟩
  . exact ih h
  . have q':=Paired.mapP q λ_ _ z=>ih z
    rcases h with⟨h,rfl⟩|⟨h,rfl⟩
    . exact cX.lst h q'
    . exact cX.tup h q'
theorem bX.up{n:Nat}{x:V}{d:PyData}(h:bX H n x d):bX H (n+1) x d:= .inl h
theorem bX.int(n:Nat)(i:Int):bX H n (.int i) (.int i):=by
 induction n with
 |zero=>exact .inl ⟨i,rfl,rfl⟩
 |succ n ih=>exact .inl ih
theorem bX.str(n:Nat)(x:Str):bX H n (.str x) (.str x):=by
 induction n with
 |zero=>exact .inr (.inl ⟨x,rfl,rfl⟩)
 |succ n ih=>exact .inl ih
theorem bX.lst{n:Nat}{a:Addr}{xs:List V}{ds:List PyData}(h:H a=some (.lst xs))(q:Paired (bX H n) xs ds):bX H (n+1) (.ref a) (.list ds):= .inr ⟨a,xs,ds,rfl,.inl ⟨h,rfl⟩,q⟩
theorem bX.tup{n:Nat}{a:Addr}{xs:List V}{ds:List PyData}(h:H a=some (.tup xs))(q:Paired (bX H n) xs ds):bX H (n+1) (.ref a) (.tuple ds):= .inr ⟨a,xs,ds,rfl,.inr ⟨.inl h,rfl⟩,q⟩
theorem bX.tupR{n:Nat}{a:Addr}{xs:List V}{ds:List PyData}(h:Rd H a (.tup xs))(q:Paired (bX H n) xs ds):bX H (n+1) (.ref a) (.tuple ds):= .inr ⟨a,xs,ds,rfl,.inr ⟨h,rfl⟩,q⟩
theorem bX.ints(n:Nat)(is:List Int):Paired (bX H n) (is.map V.int) (is.map .int):=by
 induction is with
 |nil=>exact .nil
 |cons i r ih=>exact .cons (bX.int n i) ih
theorem bX.strs(n:Nat)(xs:List Str):Paired (bX H n) (xs.map V.str) (xs.map .str):=by
 induction xs with
 |nil=>exact .nil
 |cons x r ih=>exact .cons (bX.str n x) ih
structure Sm(n w:Nat)(d:PyData):Prop where
 sh:d.showable=true
 nd:d.hasDict=false
 lv:d.leavesShort 13=true
 dp:d.depth<=n
 wt:d.weight<=w
theorem Sm.mono{n w n' w':Nat}{d:PyData}(h:Sm n w d)(a:n<=n')(b:w<=w'):Sm n' w' d:=⟨h.sh,h.nd,h.lv,Nat.le_trans h.dp a,Nat.le_trans h.wt b⟩
theorem Sm.all{n w:Nat}: ∀{ds:List PyData},(∀d∈ds,Sm n w d)->PyData.showableAll ds=true/\PyData.hasDictAll ds=false/\PyData.leavesShortAll 13 ds=true/\PyData.depthAll ds<=n/\PyData.weightAll ds<=ds.length * (w+1):=by
 intro ds
 induction ds with
 |nil=>intro _;exact⟨rfl,rfl,rfl,Nat.zero_le _,Nat.zero_le _⟩
 |cons d ds ih=>
  intro h;have h1:=h d (List.mem_cons_self ..);obtain⟨a,b,c,e,f⟩:=ih λx hx=>h x (List.mem_cons_of_mem _ hx);refine⟨?_,?_,?_,?_,?_⟩
  . rw[PyData.showableAll,h1.sh,a];rfl
  . rw[PyData.hasDictAll,h1.nd,b];rfl
  . rw[PyData.leavesShortAll,h1.lv,c];rfl
  . rw[PyData.depthAll];exact Nat.max_le.mpr ⟨h1.dp,e⟩
  . rw[PyData.weightAll,List.length_cons,Nat.succ_mul,Nat.add_comm (ds.length * (w+1))];exact Nat.add_le_add (Nat.add_le_add_right h1.wt 1) f
theorem Sm.list{n w m:Nat}{ds:List PyData}(h: ∀d∈ds,Sm n w d)(hm:ds.length * (w+1)<=m):Sm (n+1) m (.list ds):=by
 obtain⟨a,b,c,e,f⟩:=Sm.all h
 exact⟨by rw[PyData.showable];exact a,by rw[PyData.hasDict];exact b,by rw[PyData.leavesShort];exact c,by rw[PyData.depth];exact Nat.succ_le_succ e,by rw[PyData.weight];exact Nat.le_trans f hm⟩
theorem Sm.tuple{n w m:Nat}{ds:List PyData}(h: ∀d∈ds,Sm n w d)(hm:ds.length * (w+1)<=m):Sm (n+1) m (.tuple ds):=by
 obtain⟨a,b,c,e,f⟩:=Sm.all h
 exact⟨by rw[PyData.showable];exact a,by rw[PyData.hasDict];exact b,by rw[PyData.leavesShort];exact c,by rw[PyData.depth];exact Nat.succ_le_succ e,by rw[PyData.weight];exact Nat.le_trans f hm⟩
theorem Sm.int{w:Nat}{i:Int}(h1: -(100000000000:Int)<=i)(h2:i<=100000000000)(hw:40<=w):Sm 0 w (.int i):=by
 have ha:i.natAbs<10^12:=by
  have e:(10:Nat)^12=1000000000000:=by decide
  rw[e];omega
 have hb:i.natAbs.log2<40:=by
  rcases Nat.eq_zero_or_pos i.natAbs with z|z
  . rw[z];decide
  . refine(Nat.log2_lt (Nat.pos_iff_ne_zero.mp z)).mpr (Nat.lt_trans ha ?_)
    decide
 refine⟨by rw[PyData.showable];exact decide_eq_true (Nat.lt_trans hb (by decide)),rfl,?_,Nat.le_refl _,?_⟩
 . rw[PyData.leavesShort];exact decide_eq_true (PyData.shown_int_le ha)
 . rw[PyData.weight]
   split
   . exact Nat.zero_le _
   . exact Nat.le_trans hb hw
theorem Sm.str{w:Nat}{x:Str}(h: ∀c∈x.cps.toList,c<4294967296)(hw:x.length<=w):Sm 0 w (.str x):=
 ⟨rfl,rfl,by
  rw[PyData.leavesShort,List.all_eq_true];exact λc hc=>decide_eq_true (h c hc),Nat.le_refl _,by rw[PyData.weight];exact hw⟩
end
def zig:List V->Hp->VK->Prop:= λxs H Q=> ∃(a:Addr) (n:Nat) (d:PyData),xs=[.ref a]/\bX H n (.ref a) d/\Sm 8 1048576 d/\Q (.str d.shown) H
theorem nL(hg:X.A.guards=some [])(hu:X.A.units+64<cLine):fK X (.builtin "repr") zig:=by
 intro aA s σ H xs us Q I r h
 obtain⟨a,n,d,rfl,hd,sm,q⟩:=h
 obtain⟨u,rfl,rx⟩:=bK.one r
 cases rx
 obtain⟨as,rd⟩:=hd.at _ _ I.hok rfl
 have h8:=sm.dp
 exact repr_of_reads' rd sm.sh (λz=>absurd (sm.nd.symm.trans z) Bool.false_ne_true) hg (by omega) (λ_ _ e=>e) (λh' u tk k=>⟨.str d.shown,_,I.kept k,⟨u,rfl⟩,q⟩)
  (PyData.shown_fits (B:=13) (by decide) (by decide) sm.lv sm.wt)
def ztn(K:W.Frag):R2:= λx y H Q=>rNe x y H Q\/ziq K not x y H Q
theorem zjS(hu:X.A.units<cLine):mZ X (compareOp .NotEq) (ztn X.K):=by
 intro aA s σ H x y v u Q I rx ry h
 rcases h with h|h
 . exact uA aA s σ H x y v u Q I rx ry h
 . exact zgA hu aA s σ H x y v u Q I rx ry h
def zjF:List V->Hp->VK->Prop:= λxs H Q=>zig xs H Q\/xs=[.non]/\Q (.str "None") H
theorem rF(hg:X.A.guards=some [])(hu:X.A.units+64<cLine):fK X (.builtin "repr") zjF:=by
 intro aA s σ H xs us Q I r h
 rcases h with h|⟨rfl,q⟩
 . exact nL hg hu aA s σ H xs us Q I r h
 . obtain⟨u,rfl,rx⟩:=bK.one r;cases rx;exact PySem.P.repr_of_none ⟨.str "None",H,I.tok _,⟨_,rfl⟩,q⟩
end L2
namespace KK
open PySem L2
def top(i:Nat):Stmt:=PySem.Challenge.pw_meetdesks_k09_whole_the_first_row_that_p.main.body.getD i (.Pass ⟨0,0,0,0⟩)
abbrev zdY:Stmt:=top 18
abbrev zfP:Stmt:=top 19
abbrev zeS:Stmt:=top 20
abbrev lZ:Stmt:=top 21
def aS(H:Hp)(a:Addr):Prop:= ∃x y z:Int,H a=some (.lst [.int x,.int y,.int z])/\0<=z/\z<1099511627776
def gH(a:Addr)(H H':Hp):Prop:= ∀b o,b≠a->H b=some o->H' b=some o
theorem gH.trans{a:Addr}{H H1 H2:Hp}(x:gH a H H1)(y:gH a H1 H2):gH a H H2:= λb o n h=>y b o n (x b o n h)
theorem gH.own{a:Addr}{H:Hp}{o:HO}:gH a H (aN H a o):= λb u n h=>by rw[aD n];exact h
theorem gH.new{a p:Addr}{H:Hp}{o:HO}(h:H p=none):gH a H (aN H p o):= λb u _ q=>by rw[aD (aF q h)];exact q
theorem aS.some{H:Hp}{a:Addr}(f:aS H a): ∃o,H a=Option.some o:=let⟨_,_,_,h,_⟩:=f;⟨_,h⟩
theorem aS.new{a p:Addr}{H:Hp}{o:HO}(f:aS H a)(h:H p=none):aS (aN H p o) a:=by
 obtain⟨x,y,z,e,r⟩:=f
 exact⟨x,y,z,by rw[aD (aF e h)];exact e,r⟩
theorem aS.set{a p:Addr}{H:Hp}{o:HO}(f:aS H a)(h:a≠p):aS (aN H p o) a:=by
 obtain⟨x,y,z,e,r⟩:=f
 exact⟨x,y,z,by rw[aD h];exact e,r⟩
def dS:Sp:= λvs H Q _=> ∃(a:Addr) (m:Int),vs=[.ref a,.int m]/\aS H a/\0<m/\m<=100000000000000000000/\ ∀(r:Int) (H':Hp),0<=r->r<m->aS H' a->gH a H H'->Q (.int r) H'
def zeN(K:W.Frag):Sp:= λvs H Q _=> ∃(a:Addr) (ns:List Int) (k:Int),vs=[.ref a,.int k]/\aY K H a (ns.map V.int)/\ns.length<=63/\0<=k/\k<=100/\ ∀r:Int,Q (.int r) H
def u9(K:W.Frag):Sp:= λvs H Q _=> ∃(a:Addr) (ns:List Int) (k:Int),vs=[.ref a,.int k]/\aY K H a (ns.map V.int)/\ns.length<=63/\0<=k/\k<=100/\ ∀(p:Addr) (o:HO),H p=none->aS (aN H p o) p->Q (.ref p) (aN H p o)
section
variable {P:Program}{w:World}{K:W.Frag}{mg:Str->Option Value}{base:Heap}{f g:Addr}{fd gd:FuncData}{k:Nat}
theorem zdL:bS ["_law_flow_here","_law_many","_law_digit","_law_number"] ["_law_flow_here","_law_many"] (aH zeS):=(.of rfl rfl rfl rfl (by decide+kernel))
theorem zdC{n:Nat}(h:n<=1000):n<=sizeLine:=Nat.le_of_lt (cY h)
theorem dF(n:Nat)(h:n<=1000:=by decide):n<=sizeLine:=zdC h
theorem zgr(F:mR K "_law_draw" "_law_draw" zeS f fd):dN P w K mg base gU (k+1) f fd ["_law_flow_here","_law_many"] dS:=by
 refine F.ok zdL (λvs H Q E h=> ?_) (λeQ A outer s H vs Q E hr h=> ?_)
 . obtain⟨a,m,rfl,_⟩:=h;rfl
 obtain⟨a,m,rfl,⟨x,y,z,e,vY,hz1⟩,m0,m1,q⟩:=h
 have nd:=zdL.nd
 refine⟨_,aE (dX (bQ ziP (bV bO (pv 0) aI (λ_ _=>rfl)) aI (cL _))
  (aE (bF (i:=2) nd rfl (Or.inl rfl) (bM gZ (bV bO (pv 0) aI (λ_ _=>rfl)) (pv 1)))
  (aE (iX (bM xY (bV bO (pv 0) aI (λ_ _=>rfl)) (pv 1)) (j4 (pv 0) aI pV)) (aK (cE (pv 2))))) bW) (aE (iX (bM dU (bV bO (pv 0) aI (λ_ _=>rfl)) aI) (j4 (pv 0) aI pV)) (aE (bF (i:=3) nd rfl (Or.inl rfl) (bM gZ (bM dU (bM dU (bM gI (bV bO (pv 0) aI (λ_ _=>rfl)) (bM dU aI (bM gI aI (bV bO (pv 0) aI (λ_ _=>rfl))))) (bM gI aI (bV bO (pv 0) aI (λ_ _=>rfl)))) aI) aI)) (aE (bF (i:=3) nd rfl (Or.inl rfl) (bM gZ (bM gI (pv 3) (pv 3)) aI)) (aK (cE (bM gZ (bM xY (bM gZ (bM gI (bM dU (pv 3) aI) (bM dU (pv 3) aI)) aI) aI) (pv 1))))))),?_⟩
 refine⟨_,rfl,a,_,_,_,rfl,rfl,aY.of e,rfl,_,_,rfl,rfl,_,rfl,?_⟩
 refine jA (λc=> ?_) (λc=> ?_)
 . refine⟨_,rfl,a,_,_,_,rfl,rfl,aY.of e,rfl,_,rfl,_,_,rfl,rfl,m0,?_⟩;refine⟨_,rfl,a,_,_,_,rfl,rfl,aY.of e,rfl,_,rfl,_,_,rfl,rfl,⟨m0,Int.le_trans m1 (by decide)⟩,_,rfl,a,_,_,_,rfl,rfl,e,rfl,?_⟩;refine⟨_,rfl,q _ _ (Int.emod_nonneg _ (by omega)) (Int.emod_lt_of_pos _ m0) ⟨_,_,_,aG,vY,hz1⟩ gH.own⟩
 . refine⟨_,rfl,a,_,_,_,rfl,rfl,aY.of e,rfl,_,_,rfl,rfl,_,rfl,a,_,_,_,rfl,rfl,e,rfl,?_⟩;have e2:aN H a (.lst [.int x,.int (y+1),.int z]) a=some (.lst [.int x,.int (y+1),.int z]):=aG;refine⟨_,rfl,a,_,_,_,rfl,rfl,aY.of e2,rfl,_,rfl,a,_,_,_,rfl,rfl,aY.of e2,rfl,_,_,rfl,rfl,.inl ⟨by decide,by decide⟩,_,_,rfl,rfl,_,_,rfl,rfl,.inl ⟨by omega,by omega⟩,_,rfl,a,_,_,_,rfl,rfl,aY.of e2,rfl,_,_,rfl,rfl,.inl ⟨by decide,by decide⟩,_,_,rfl,rfl,_,_,rfl,rfl,_,_,rfl,rfl,(show(0:Int)<2147483629 by decide),?_⟩;have b1:=Int.emod_nonneg (z * (48271+2 * (y+1))+7919 * (y+1)+1) (show(2147483629:Int)≠0 by decide);have b2:=Int.emod_lt_of_pos (z * (48271+2 * (y+1))+7919 * (y+1)+1) (show(0:Int)<2147483629 by decide);generalize (z * (48271+2 * (y+1))+7919 * (y+1)+1) % 2147483629=n1 at b1 b2 ⊢;refine⟨_,rfl,_,rfl,_,_,rfl,rfl,.inl ⟨by omega,by omega⟩,_,_,rfl,rfl,(show(0:Int)<2147483587 by decide),?_⟩;have b3:=Int.emod_nonneg (n1 * n1) (show(2147483587:Int)≠0 by decide);have b4:=Int.emod_lt_of_pos (n1 * n1) (show(0:Int)<2147483587 by decide);generalize n1 * n1 % 2147483587=n2 at b3 b4 ⊢;refine⟨_,rfl,_,_,rfl,rfl,_,rfl,_,_,rfl,rfl,_,_,rfl,rfl,.inl ⟨by omega,by omega⟩,_,_,rfl,rfl,(show(0:Int)<2147483579 by decide),_,_,rfl,rfl,⟨by decide,by decide⟩,_,rfl,_,_,rfl,rfl,m0,?_⟩;exact q _ _ (Int.emod_nonneg _ (by omega)) (Int.emod_lt_of_pos _ m0) ⟨_,_,_,e2,vY,hz1⟩ gH.own
theorem zdM:bS ["_law_script","_law_k","_law_number"] ["_law_script","_law_k"] (aH zdY):=(.of rfl rfl rfl rfl (by decide+kernel))
theorem ziZ{ns:List Int}{k:Int}(h0:0<=k)(h1:k<(ns.length:Int)): ∃v:Int,uX (ns.map V.int) k=some (.int v):=by
 have hk:k.toNat<ns.length:=by omega
 have ek:k=((k.toNat:Nat):Int):=by omega
 refine⟨ns[k.toNat],?_⟩
 have q:uX (ns.map V.int) ((k.toNat:Nat):Int)=some (.int ns[k.toNat]):=cN (by rw[List.getElem?_map,List.getElem?_eq_getElem hk];rfl)
 rw[<-ek]at q
 exact q
theorem zgR(F:mR K "_law_cell" "_law_cell" zdY f fd)(ml:mg "len" =none):dN P w K mg base gU (k+1) f fd ["_law_script","_law_k"] (zeN K):=by
 refine F.ok zdM (λvs H Q E h=> ?_) (λeQ A outer s H vs Q E hr h=> ?_)
 . obtain⟨a,ns,i,rfl,_⟩:=h;rfl
 obtain⟨a,ns,i,rfl,hS,h63,i0,i1,q⟩:=h
 have nd:=zdM.nd
 have hl:(ns.map V.int).length=ns.length:=bH _
 refine⟨_,aE (dX (bQ xL (pv 1) (aW aO rfl ml PySem.boot_len (aB (pv 0) aC)) (cL _)) (aK (cE (bV bO (pv 0) (pv 1) (λ_ _=>rfl)))) bW) (aE (bF (i:=2) nd rfl (Or.inl rfl) (bM dU (bM gI (pv 1) aI) aI)) (aE (dX (bQ ziP (aW aO rfl ml PySem.boot_len (aB (pv 0) aC)) aI (cL _))
  (aK (bF (i:=2) nd rfl (Or.inl rfl) (bM dU (bM gI (bM gZ (bV bO (pv 0) (bM gZ (bM gI (pv 1) aI) (aW aO rfl ml PySem.boot_len (aB (pv 0) aC))) (λ_ _=>rfl)) aI) aI) (bM gI (pv 1) aI)))) bW) (aK (cE (bM gI (bM gZ (pv 2) aI) aI))))),?_⟩
 have fN: ∀n:Int,(λ(v:V) H1=>Q v H1) (.int (n % 2147483647 * 31)) H:= λn=>q _
 have zhS: ∀n:Int,zfz (n % 2147483647) 31:= λn=>by
  have b1:=Int.emod_nonneg n (show(2147483647:Int)≠0 by decide);have b2:=Int.emod_lt_of_pos n (show(0:Int)<2147483647 by decide);exact .inl ⟨by omega,by omega⟩
 refine⟨_,rfl,_,rfl,a,_,rfl,.inl hS,_,_,rfl,rfl,_,rfl,?_⟩
 rw[hl]
 refine jA (λc=> ?_) (λc=> ?_)
 . have c':i<(ns.length:Int):=of_decide_eq_true c;obtain⟨v,hv⟩:=ziZ (ns:=ns) i0 c';exact⟨_,rfl,_,rfl,a,_,_,_,rfl,rfl,hS,hv,q v⟩
 . refine⟨_,rfl,_,_,rfl,rfl,.inl ⟨by omega,by omega⟩,_,_,rfl,rfl,?_⟩;refine⟨_,rfl,a,_,rfl,.inl hS,_,_,rfl,rfl,_,rfl,?_⟩;rw[hl];refine jA (λc2=> ?_) (λc2=> ?_)
   . have c':0<(ns.length:Int):=of_decide_eq_true c2;have b1:=Int.emod_nonneg (i * 7) (show(ns.length:Int)≠0 by omega);have b2:=Int.emod_lt_of_pos (i * 7) c';obtain⟨v,hv⟩:=ziZ (ns:=ns) b1 b2;have b3:=Int.emod_nonneg v (show(2147483629:Int)≠0 by decide);have b4:=Int.emod_lt_of_pos v (show(0:Int)<2147483629 by decide);refine⟨_,rfl,_,rfl,_,_,rfl,rfl,.inl ⟨by omega,by omega⟩,_,rfl,a,_,rfl,.inl hS,_,_,rfl,rfl,by rw[hl];exact c',a,_,_,_,rfl,rfl,hS,by rw[hl];exact hv,_,_,rfl,rfl,(show(0:Int)<2147483629 by decide),_,_,rfl,rfl,.inl ⟨by omega,by omega⟩,_,rfl,_,_,rfl,rfl,.inl ⟨by omega,by omega⟩,_,_,rfl,rfl,?_⟩;exact⟨_,rfl,_,_,rfl,rfl,(show(0:Int)<2147483647 by decide),_,_,rfl,rfl,zhS _,q _⟩
   . exact⟨_,rfl,_,_,rfl,rfl,(show(0:Int)<2147483647 by decide),_,_,rfl,rfl,zhS _,q _⟩
theorem zfx:bS ["_law_script","_law_k","_law_cell_here","_law_own"] ["_law_script","_law_k"] (aH zfP):=(.of rfl rfl rfl rfl (by decide+kernel))
theorem zhu(F:mR K "_law_flow" "_law_flow" zfP f fd)(G:dN P w K mg base gU k g gd ["_law_script","_law_k"] (zeN K))(bG:jW K gd ["_law_script","_law_k"] [])(kG:W.keepIn K (.ref g)=true)(mG:mg "_law_cell" =some (.ref g)):
 dN P w K mg base gU (k+1) f fd ["_law_script","_law_k"] (u9 K):=by
 refine F.ok zfx (λvs H Q E h=> ?_) (λeQ A outer s H vs Q E hr h=> ?_)
 . obtain⟨a,ns,i,rfl,_⟩:=h;rfl
 obtain⟨a,ns,i,rfl,hS,h63,i0,i1,q⟩:=h
 have nd:=zfx.nd
 refine⟨_,aE (bF (i:=2) nd rfl (Or.inl rfl) (gA G hr rfl mG kG bG .nil kB (aB (pv 0) (aB (pv 1) aC)))) (aE (bF (i:=3) nd rfl (Or.inl rfl) aI) (aE (dX (bQ zjg (pv 2) (bM zkv aI aI) (cL _)) (aK (bF (i:=3) nd rfl (Or.inl rfl) (pv 2))) bW) (aK (cE (cU (aB (pv 3) (aB aI (aB (bM dU (bM gZ (pv 2) aI) (bM gI aI (pv 1))) aC)))))))),?_⟩
 refine⟨_,rfl,_,rfl,a,ns,i,rfl,hS,h63,i0,i1,λr=> ?_⟩
 have b3:=Int.emod_nonneg r (show(2147483629:Int)≠0 by decide)
 have b4:=Int.emod_lt_of_pos r (show(0:Int)<2147483629 by decide)
 refine⟨_,rfl,_,_,rfl,rfl,⟨by decide,by decide,by decide⟩,_,_,rfl,rfl,_,rfl,?_⟩
 have fN: ∀(own:Int) (p:Addr),H p=none->Q (.ref p) (aN H p (.lst [.int own,.int 0,.int (r % 2147483629+40692 * i)])):= λown p hp=>q p _ hp ⟨_,_,_,aG,by omega,by omega⟩
 refine jA (λc=> ?_) (λc=> ?_)
 . refine⟨_,rfl,_,rfl,_,rfl,_,_,rfl,rfl,(show(0:Int)<2147483629 by decide),_,rfl,_,_,rfl,rfl,.inl ⟨by decide,by decide⟩,_,_,rfl,rfl,dF 3,λp hp=>fN _ p hp⟩
 . refine⟨_,rfl,_,rfl,_,_,rfl,rfl,(show(0:Int)<2147483629 by decide),_,rfl,_,_,rfl,rfl,.inl ⟨by decide,by decide⟩,_,_,rfl,rfl,dF 3,λp hp=>fN _ p hp⟩
end
end KK
namespace L2
theorem cR{N fr:List PySem.Str}{idx:List Nat}(h:idx.map (λj=>N[j]?)=fr.map some): ∀(k:Nat) (x:PySem.Str) (j:Nat),fr[k]?=some x->idx[k]?=some j->N[j]?=some x:= λk x j h1 h2=>by
 have e:(idx.map λj=>N[j]?)[k]?=(fr.map some)[k]?:=by rw[h]
 rw[List.getElem?_map,List.getElem?_map,h1,h2]at e
 exact Option.some.inj e
theorem pig{α:Type} [DecidableEq α]: ∀(xs cs:List α),cs.Nodup->xs.length<cs.length-> ∃c,c∈cs/\c∉xs
 | [],[],_,h=>by simp at h
 | [],c::r,_,_=>⟨c,List.mem_cons_self,by simp⟩
 |x::r,cs,hn,h=>by
  have hl:r.length<(cs.erase x).length:=by
   rw[List.length_erase];rw[List.length_cons]at h
   split<;>omega
  obtain⟨c,h1,h2⟩:=pig r (cs.erase x) (hn.erase x) hl;have h3:=hn.mem_erase_iff.mp h1;exact⟨c,h3.2,λz=>(List.mem_cons.mp z).elim h3.1 h2⟩
end L2
namespace KK
open PySem L2 PyProof.Rows
def kA:Str:= "abcdefghijklmnopqrstuvwxyz"
theorem zkj{r:Int}(h0:0<=r)(h1:r<26): ∃c,uX kA.cps.toList r=some c:=by
 have hl:kA.cps.toList.length=26:=by decide+kernel
 have hk:r.toNat<kA.cps.toList.length:=by omega
 have ek:r=((r.toNat:Nat):Int):=by omega
 have q:uX kA.cps.toList ((r.toNat:Nat):Int)=some (kA.cps.toList[r.toNat]):=cN (List.getElem?_eq_getElem hk)
 rw[<-ek]at q
 exact⟨_,q⟩
theorem zal:kA.length<=sizeLine:=by rw[sizeLine_eq];decide+kernel
def AZ(y:Str):Prop:= ∀c∈y.cps.toList,c∈kA.cps.toList
theorem zA{c:Nat}(h:c∈kA.cps.toList):AZ ⟨#[c]⟩:= λd hd=>by
 have e:d=c:=by simpa using hd
 rw[e];exact h
theorem zF{x y:Str}(hx:AZ x)(hy:AZ y):AZ (x++y):= λc hc=>by
 have hc':c∈(x.cps++y.cps).toList:=hc
 rw[Array.toList_append]at hc'
 exact(List.mem_append.mp hc').elim (hx c) (hy c)
theorem qV{x:Str}{j:Int}(h0:0<=j)(h1:j<=x.length):(Txt.slice x none (some j)).cps.toList=x.cps.toList.take j.toNat:=by
 have h:=PyProof.Rows.slice_closes_to (x:=x) (j:=j) ⟨h0,h1⟩
 rw[beq_iff_eq.mp h]
 show(x.cps.toList.drop 0).take (j - 0).toNat=_
 rw[List.drop_zero,Int.sub_zero]
theorem qM{x:Str}{i:Int}(h0:0<=i)(h1:i<=x.length):(Txt.slice x (some i) none).cps.toList=x.cps.toList.drop i.toNat:=by
 rw[PyProof.Rows.slice_from_eq (b:=x.length) h0 h1 rfl]
 show(x.cps.toList.drop i.toNat).take _=_
 apply List.take_of_length_le
 rw[List.length_drop]
 show x.length - _<=_
 omega
theorem gF(x:Str):x.length=x.cps.toList.length:=rfl
theorem zpO{x:Str}{j:Int}(hx:AZ x)(h0:0<=j)(h1:j<=x.length):AZ (Txt.slice x none (some j)):= λc hc=>by
 rw[qV h0 h1]at hc
 exact hx c (List.mem_of_mem_take hc)
theorem zaY{x:Str}{j:Int}(hx:AZ x)(h0:0<=j)(h1:j<=x.length):AZ (Txt.slice x (some j) none):= λc hc=>by
 rw[qM h0 h1]at hc
 exact hx c (List.mem_of_mem_drop hc)
theorem sS{x:Str}{j:Int}(h0:0<=j)(h1:j<=x.length):(Txt.slice x none (some j)).length+(Txt.slice x (some j) none).length=x.length:=by
 rw[gF (Txt.slice x none (some j)),gF (Txt.slice x (some j) none),qV h0 h1,qM h0 h1,List.length_take,List.length_drop,<-gF]
 omega
theorem tU(y:Str)(r:List Str):(Txt.join "" (y::r)).cps.toList=y.cps.toList++(Txt.join "" r).cps.toList:=by
 have e: ∀l,Txt.join "" l=Str.join "" l:= λl=>PySem.StrLaws.glued_eq_join _ _
 rw[e,e]
 cases r with
 |nil=>
  show y.cps.toList=y.cps.toList++(Str.join "" []).cps.toList
  have h0:(Str.join "" []).cps.toList=[]:=rfl;rw[h0,List.append_nil]
 |cons z r=>
  show((y.cps++Str.cps "")++(Str.join "" (z::r)).cps).toList=_
  have h0:Str.cps "" = #[]:=rfl;rw[h0];simp
theorem jC: ∀{ys:List Str},(∀y∈ys,y.length=1/\AZ y)->(Txt.join "" ys).length=ys.length/\AZ (Txt.join "" ys)
 | [],_=>⟨rfl,λc hc=>by
  have h0:(Txt.join "" []).cps.toList=[]:=rfl;rw[h0]at hc;cases hc⟩
 |y::r,h=>by
  obtain⟨h1,h2⟩:=jC (ys:=r) λz hz=>h z (List.mem_cons_of_mem _ hz);obtain⟨h3,h4⟩:=h y List.mem_cons_self
  constructor
  . rw[gF,tU,List.length_append,<-gF,<-gF,h1,h3,List.length_cons];omega
  . intro c hc;rw[tU]at hc;exact(List.mem_append.mp hc).elim (h4 c) (h2 c)
def Nm(y:Str):Prop:=0<y.length/\y.length<=8/\AZ y
theorem zfF{r:Int}{c:Nat}(h:uX kA.cps.toList r=some c):c∈kA.cps.toList:=let⟨_,_,e,_⟩:=pI h;List.mem_of_getElem? e
def lJ(ys:List Str):Prop:= ∀y∈ys,y.length=1/\AZ y
theorem lJ.snoc{ys:List Str}(h:lJ ys){y:Str}(e:y.length=1/\AZ y):lJ (ys++[y]):= λz hz=>(List.mem_append.mp hz).elim (h z) λq=>by rw[List.mem_singleton.mp q];exact e
theorem tK: ∀{ys:List Str},lJ ys->(ys.map (·.length)).sum=ys.length
 | [],_=>rfl
 |y::r,h=>by
  have e1:=(h y List.mem_cons_self).1;have e2:=tK (ys:=r) λz hz=>h z (List.mem_cons_of_mem _ hz);rw[List.map_cons,List.sum_cons,e2,e1,List.length_cons];omega
def Bd(ys:List Str):Prop:= ∀y∈ys,Nm y
abbrev zjD:TE:=eR zkm (aL 2) (iG dS [] E0 (aP (aL 1) (aP (tC (.int 26)) cG)))
theorem bN{H:Hp}{a D:Addr}(hD:H D=none)(hF:aS H a):D≠a:= λz=>by
 obtain⟨o,ho⟩:=hF.some
 rw[z,ho]at hD;cases hD
theorem zdE{H H1 H4:Hp}{a D:Addr}{o:HO}(hD:H D=none)(x:gH a H H4):gH a H (aN H4 D o):= λb u nb hb=>by
 rw[aD (aF hb hD)];exact x b u nb hb
theorem zaX{n:Nat}{D a:Addr}{Q:VK}{H1:Hp}(hn:n<=8)(hD:H1 D=none)(hF:aS H1 a)
 (hd: ∀(ys:List Str) (H':Hp),ys.length=n->lJ ys->aS H' a->gH a H1 H'->H' D=some (.lst (ys.map V.str))->Q (.ref D) H'):
 bJ (tJ 0 n) D (bD 0) dJ zjD Q [none,some (.ref a),some (.str kA)] H1:=by
 have nD:=bN hD hF
 refine cO (λi ys σ H=> ∃(xs:List Str) (v:Option V),ys=xs.map V.str/\xs.length=i/\lJ xs/\σ=[v,some (.ref a),some (.str kA)]/\aS H a/\gH a H1 H) ?_ (by omega) ?_ ?_ ?_
 . exact⟨[],none,rfl,rfl,(by intro _ z;cases z),rfl,hF.new hD,gH.new hD⟩
 . rintro i ys σ H ⟨xs,v,rfl,rfl,_⟩;rw[bH];exact Nat.le_refl _
 . rintro i ys σ H hi hl ⟨xs,v,rfl,rfl,hs,rfl,f,x⟩;refine⟨_,rfl,_,rfl,a,26,rfl,f,by decide,by decide,λr H4 r0 r1 f4 x4=> ?_⟩;obtain⟨c,hc⟩:=zkj r0 r1;have hl4:H4 D=some (.lst (xs.map V.str)):=x4 D _ nD hl;refine⟨kA,r,c,rfl,rfl,zal,hc,hl4,xs++[⟨#[c]⟩],_,by rw[List.map_append];rfl,by rw[List.length_append];rfl,hs.snoc ⟨rfl,zA (zfF hc)⟩,rfl,f4.set (Ne.symm nD),zdE (H1:=H1) hD (x.trans x4)⟩
 . rintro ys σ H hl ⟨xs,v,rfl,e,hs,_,f,x⟩;exact hd xs H e hs f x hl
def zdq(ys:List Str):Str:=Txt.join "" ys
theorem yF{ys:List Str}(h:lJ ys)(hl:ys.length<=8):(zdq ys).length<=68/\(ys.map (·.length)).sum+ys.length * (Str.length "")<=16777216:=by
 have e:=tK h
 refine⟨?_,?_⟩
 . have q:=(jC h).1;show(Txt.join "" ys).length<=68;omega
 . have e0:Str.length "" =0:=by decide
   rw[e,e0];omega
theorem zaJ(g:Str): ∀(l:List Str) (acc:Array Nat),acc.size<=(l.foldl (λacc p=>acc++g.cps++p.cps) acc).size
 | [],acc=>Nat.le_refl _
 |p::r,acc=>by rw[List.foldl_cons];exact Nat.le_trans (by rw[Array.size_append,Array.size_append];omega) (zaJ g r _)
theorem zfd{ys:List Str}(h:lJ ys)(mX:ys≠ []):0<(zdq ys).length:=by
 cases ys with
 |nil=>exact absurd rfl mX
 |cons y r=>
  have e:y.cps.size=1:=(h y List.mem_cons_self).1;have q:=zaJ "" r y.cps;rw[e]at q;exact q
theorem gH.free{a p:Addr}{H H1:Hp}(x:gH a H H1)(f:aS H1 a)(h:H1 p=none):H p=none:=by
 cases e:H p with
 |none=>rfl
 |some o=>rw[x _ _ (bN h f) e]at h;cases h
def vC:Sp:= λvs H Q _=> ∃(a:Addr) (m:Int),vs=[.ref a,.int m]/\aS H a/\1<=m/\m<=6/\ ∀(r:Addr) (ys:List Str) (H':Hp),(ys.length:Int)=m->Bd ys->ys.Nodup->r≠a->H r=none->aS H' a->gH a H H'->H' r=some (.lst (ys.map V.str))->Q (.ref r) H'
abbrev NN:List Str:=["_law_flow_here","_law_many","_law_some","_law_found","_law_k","_law_name","_law_word","_law_at","_law_first","_law_long"]
theorem zaz:bS NN ["_law_flow_here","_law_many"] (aH lZ):=(.of rfl rfl rfl rfl (by decide+kernel))
theorem nR(ys:List Str):(ys.map V.str).all lL=true:=by
 rw[List.all_map];exact List.all_eq_true.mpr λ_ _=>rfl
theorem zhk{y:Str}{ys:List Str}(h:V.str y∉ys.map V.str):tM (.str y) (ys.map V.str)=false:=by
 unfold tM
 rw[List.any_eq_false]
 intro z hz
 obtain⟨u,hu,rfl⟩:=List.mem_map.mp hz
 intro q
 have q':(u==y)=true:=q
 have e:u=y:=by simpa using q'
 exact h (List.mem_map.mpr ⟨u,hu,by rw[e]⟩)
theorem Bd.snoc{ys:List Str}(h:Bd ys){y:Str}(e:Nm y):Bd (ys++[y]):= λz hz=>(List.mem_append.mp hz).elim (h z) λq=>by rw[List.mem_singleton.mp q];exact e
theorem Bd.set{ys:List Str}(h:Bd ys){y:Str}(e:Nm y)(i:Nat):Bd (ys.set i y):= λz hz=>(List.mem_or_eq_of_mem_set hz).elim (h z) λq=>by rw[q];exact e
theorem mP(x y:Str):(x++y).length=x.length+y.length:=by
 show(x.cps++y.cps).size=x.cps.size+y.cps.size
 simp
theorem kH:(1000:Nat)<=sizeLine:=by rw[sizeLine_eq];decide
theorem zcB{ys:List Str}(h:ys.length<26): ∃(j:Nat) (c:Nat),j<26/\kA.cps[j]?=some c/\tM (.str ⟨#[c]⟩) (ys.map V.str)=false:=by
 obtain⟨v,h1,h2⟩:=pig (ys.map V.str) (kA.cps.toList.map λc=>V.str ⟨#[c]⟩) (by decide+kernel) (by rw[bH,bH];exact Nat.lt_of_lt_of_le h (by decide+kernel))
 obtain⟨c,hc,rfl⟩:=List.mem_map.mp h1
 obtain⟨j,hj⟩:=List.getElem?_of_mem hc
 refine⟨j,c,?_,by simpa using hj,zhk h2⟩
 have:=(List.getElem?_eq_some_iff.mp hj).1
 exact Nat.lt_of_lt_of_le this (by decide+kernel)
theorem zgP{y:Str}{ys:List Str}:tM (.str y) (ys.map V.str)=true↔y∈ys:=by
 unfold tM
 rw[List.any_map,List.any_eq_true]
 constructor
 . rintro⟨x,hx,q⟩;have q':(x==y)=true:=q;have e:x=y:=by simpa using q'
   rw[<-e];exact hx
 . intro h;exact⟨y,h,show(y==y)=true by simp⟩
theorem qQ{y:Str}{ys:List Str}:tM (.str y) (ys.map V.str)=false↔y∉ys:=by
 rw[<-zgP];simp
theorem lY{α:Type}{ys:List α}{y:α}(h:ys.Nodup)(n:y∉ys):(ys++[y]).Nodup:=by
 rw[List.nodup_append]
 refine⟨h,(by simp),λa ha b hb e=> ?_⟩
 rw[List.mem_singleton.mp hb]at e
 rw[e]at ha
 exact n ha
theorem e6{us:List Str}{x:Str}(h:us.Nodup)(n:x∉us):(us.set 0 x).Nodup:=by
 cases us with
 |nil=>exact h
 |cons u r=>
  rw[List.set_cons_zero];rw[List.nodup_cons]at h ⊢;exact⟨λz=>n (List.mem_cons_of_mem _ z),h.2⟩
theorem pA{f:Nat->Str}{n:Nat}(h: ∀i j,i<j->j<n->f i≠f j):((List.range n).map f).Nodup:=by
 unfold List.Nodup
 rw[List.pairwise_map]
 refine List.Pairwise.imp_of_mem (R:= λa b=>a<b) (λ{a b} _ hb sB=> ?_) List.pairwise_lt_range
 exact h a b sB (List.mem_range.mp hb)
def kO(r:Int):Nat:=kA.cps.toList.getD r.toNat 0
theorem zas{r:Int}(h0:0<=r)(h1:r<26):uX kA.cps.toList r=some (kO r):=by
 have hl:kA.cps.toList.length=26:=by decide+kernel
 have hk:r.toNat<kA.cps.toList.length:=by omega
 have ek:r=((r.toNat:Nat):Int):=by omega
 have q:uX kA.cps.toList ((r.toNat:Nat):Int)=some (kO r):=cN (by unfold kO;rw[List.getD_eq_getElem?_getD,List.getElem?_eq_getElem hk];rfl)
 rw[<-ek]at q
 exact q
theorem zfy{r s:Int}(r0:0<=r)(r1:r<26)(s0:0<=s)(s1:s<26)(e:kO r=kO s):r=s:=by
 have hl:kA.cps.toList.length=26:=by decide+kernel
 have nd:kA.cps.toList.Nodup:=by decide+kernel
 have hr:r.toNat<kA.cps.toList.length:=by omega
 have hs:s.toNat<kA.cps.toList.length:=by omega
 unfold kO at e
 rw[List.getD_eq_getElem?_getD,List.getD_eq_getElem?_getD,List.getElem?_eq_getElem hr,List.getElem?_eq_getElem hs]at e
 have:=(List.getElem_inj nd).mp e
 omega
theorem zfq{r:Int}(h0:0<=r)(h1:r<26):kO r∈kA.cps.toList:=zfF (zas h0 h1)
def vH(word:Str)(at' first:Int)(k:Nat):Str:=Txt.slice word none (some at')++⟨#[kO ((first+7 * (0+(k:Int))) % 26)]⟩++Txt.slice word (some at') none
theorem zkG{word:Str}{at' first:Int}{i j:Nat}(h:i<j)(hj:j<6):vH word at' first i≠vH word at' first j:= λe=>by
 have e1:(vH word at' first i).cps.toList=(vH word at' first j).cps.toList:=by rw[e]
 have q: ∀k:Nat,(vH word at' first k).cps.toList=(Txt.slice word none (some at')).cps.toList++([kO ((first+7 * (0+(k:Int))) % 26)]++(Txt.slice word (some at') none).cps.toList):= λk=>by
  show((Txt.slice word none (some at')).cps++ #[kO ((first+7 * (0+(k:Int))) % 26)]++(Txt.slice word (some at') none).cps).toList=_
  simp
 rw[q i,q j]at e1
 have e2:=List.append_cancel_right (List.append_cancel_left e1)
 have e3:kO ((first+7 * (0+(i:Int))) % 26)=kO ((first+7 * (0+(j:Int))) % 26):=(List.cons.inj e2).1
 have e4:=zfy (by omega) (by omega) (by omega) (by omega) e3
 omega
theorem zjq{word:Str}{at' first:Int}{k:Nat}(hw:AZ word)(hl:word.length<=7)(h0:0<=at')(h1:at'<=word.length):Nm (vH word at' first k):=by
 have l1:=mP (Txt.slice word none (some at')) ⟨#[kO ((first+7 * (0+(k:Int))) % 26)]⟩
 have l2:=mP (Txt.slice word none (some at')++⟨#[kO ((first+7 * (0+(k:Int))) % 26)]⟩) (Txt.slice word (some at') none)
 have l3:Str.length ⟨#[kO ((first+7 * (0+(k:Int))) % 26)]⟩=1:=rfl
 have l4:=sS (x:=word) h0 h1
 have l5:(vH word at' first k).length=(Txt.slice word none (some at')++⟨#[kO ((first+7 * (0+(k:Int))) % 26)]⟩++Txt.slice word (some at') none).length:=rfl
 refine⟨by omega,by omega,zF (zF (zpO hw h0 h1) (zA (zfq (Int.emod_nonneg _ (by decide)) (Int.emod_lt_of_pos _ (by decide))))) (zaY hw h0 h1)⟩
theorem zcG{word:Str}{at' first:Int}{n:Nat}(hn:n<=6):((List.range n).map (vH word at' first)).Nodup:=pA λi j h hj=>zkG h (by omega)
end KK
namespace KKM
theorem gS{α:Type}{l:List α}{i:Nat}{x:α}(h:l[i]?=some x):l.take (i+1)=l.take i++[x]:=by
 rw[List.take_add_one,h];rfl
end KKM
namespace KK
open PySem L2 PyProof.Rows KKM
structure Fn(P:Program)(w:World)(K:W.Frag)(mg:Str->Option Value)(base:Heap)(k:Nat)(x:Str)(ps:List Str)(sp:Sp)(g:Addr)(gd:FuncData):Prop where
 ok:dN P w K mg base gU k g gd ps sp
 bn:jW K gd ps []
 kp:W.keepIn K (.ref g)=true
 at_:mg x=some (.ref g)
theorem lD{X:Cx}{k:Nat}{x:Str}{ps:List Str}{sp:Sp}{f:Addr}{fd:FuncData}{e:Expr}{es:List Expr}{t:TA}{p pos:Pos}(G:Fn X.prog X.w X.K X.mg X.base k x ps sp f fd)(hr:eK k X.A)(hg:Gl X x)(ha:PA X (e::es) t)(hdb:(x==("__debug__" :Str))=false:=by decide)(he:starEach (e::es) X.env=(false,eval e X.env)::starEach es X.env:=by rfl)(mF:(backTo pos (starEach es X.env)).any (·.1)=false:=by rfl):PE X (.Call (.Name x p) (e::es) [] pos) (iG sp [] E0 t):=
 gA G.ok hr hg G.at_ G.kp G.bn .nil kB ha hdb he mF
structure Bt(mg:Str->Option Value):Prop where
 any_:mg "any" =none
 dict_:mg "dict" =none
 len_:mg "len" =none
 range_:mg "range" =none
 max_:mg "max" =none
 sorted_:mg "sorted" =none
 tuple_:mg "tuple" =none
 set_:mg "set" =none
 min_:mg "min" =none
 enumerate_:mg "enumerate" =none
 zip_:mg "zip" =none
 repr_:mg "repr" =none
 list_:mg "list" =none
 isinstance_:mg "isinstance" =none
 int_:mg "int" =none
 bool_:mg "bool" =none
theorem _root_.L2.Same.ext{a:Addr}{H H':Hp}(x:Same H H'):gH a H H':= λb o _ q=>x b o q
theorem _root_.L2.Same.flow{a:Addr}{H H':Hp}(x:Same H H')(f:aS H a):aS H' a:=by
 obtain⟨i,j,k,e,r⟩:=f
 exact⟨i,j,k,x _ _ e,r⟩
theorem aX{H:Hp}{p:Addr}{o:HO}(h:H p=none):Same H (aN H p o):= λb u q=>by rw[aD (aF q h)];exact q
theorem eJ{H:Hp}{p:Addr}(h:H p=none)(o:HO): ∃H',aN H p o=H' ∧ Same H H' ∧ H' p=some o:=⟨_,rfl,aX h,aG⟩
theorem _root_.L2.Same.at{H H':Hp}{p:Addr}{o:HO}(x:Same H H')(h:H p=none):Same H (aN H' p o):= λb u q=>by rw[aD (aF q h)];exact x b u q
theorem gH.at{a:Addr}{H H':Hp}{p:Addr}{o:HO}(x:gH a H H')(h:H p=none):gH a H (aN H' p o):= λb u n q=>by rw[aD (aF q h)];exact x b u n q
theorem small{n:Nat}(h:n<=1000):n<sizeLine:=cY h
end KK
namespace L2
open PySem PySem.Spec PyProof.Rows
theorem xC{K:W.Frag}{a:Addr}{xs:List V}{g:TG}{tb:TS}{D:gK}{σ:St}{H:Hp}(Pv:Nat->St->Hp->Prop)(h0:Pv 0 σ H)(hl: ∀i σ H,i<=xs.length->Pv i σ H->aY K H a xs)
 (hs: ∀i x σ H T,xs[i]?=some x->H T=none->Pv i σ H->g (.ref T) σ (aN H T (.tup [.int i,x])) λσ2 H2=>tb {D with nx:=Pv (i+1),ct:=Pv (i+1),bk:=D.nx} σ2 H2) (hd: ∀σ H,Pv xs.length σ H->D.nx σ H):
 ∃W:Nat->Nat->St->Hp->Prop,(∃m,W 0 m σ H)/\ ∀i m σ H,W i m σ H->
  ((Ite K a).stop i H/\D.nx σ H)\/((Ite K a).go i H/\ ∃N:St->Hp->Prop,(∀σ' H',N σ' H'-> ∃m',m'<m/\W (i+1) m' σ' H')/\ ∀x H',(Ite K a).yld i H x H'->g x σ H' λσ2 H2=>tb {D with nx:=N,ct:=N,bk:=D.nx} σ2 H2):=by
 refine⟨λi m σ H=>m=xs.length - i/\i<=xs.length/\Pv i σ H,⟨xs.length,by simp,Nat.zero_le _,h0⟩,?_⟩
 rintro i m σ H ⟨rfl,hi,p⟩
 have q:=hl i σ H hi p
 by_cases eO:i<xs.length
 . refine .inr ⟨⟨xs,xs[i],q,by simp[eO]⟩,Pv (i+1),λσ' H' p'=>⟨xs.length - (i+1),by omega,rfl,eO,p'⟩,λx H' y=> ?_⟩;obtain⟨T,hT,rfl,y⟩:=y;obtain⟨x',hx,rfl⟩:=y xs q;exact hs i x' σ H T hx hT p
 . have e:i=xs.length:=by omega
   subst e;exact .inl ⟨⟨xs,q,Nat.le_refl _⟩,hd σ H p⟩
end L2
namespace KK
open PySem L2 PyProof.Rows
section
variable {P:Program}{w:World}{K:W.Frag}{mg:Str->Option Value}{base:Heap}{f C M:Addr}{fd:FuncData}{k:Nat}{st:Stmt}{qual f1 f2:Str}{p1 p2 p3 p4 p5 p6 p7 p8:Pos}
variable {D:Addr}{cd:ClassData}
theorem pK{X:Cx}{j:Nat}{p pos:Pos}:PE X (.UnaryOp .USub (.Constant (.int 1) j p) pos) (λ_ H Q=>Q (.int (-1)) H):= λaA s σ H Q I h=>zoM zkZ aI aA s σ H Q I ⟨1,rfl,h⟩
end
end KK
namespace KK
open PySem L2 PyProof.Rows KKM
variable {P:Program}{w:World}{K:W.Frag}{mg:Str->Option Value}{base:Heap}{f g g2 g3:Addr}{fd gd gd2 gd3:FuncData}{k:Nat}
abbrev pY:Stmt:=top 6
abbrev gX:Stmt:=top 7
abbrev hZ:Stmt:=top 10
abbrev iW:Stmt:=top 11
abbrev cF:Stmt:=zhE (top 9) 0
def tO(K:W.Frag):Sp:= λvs H Q _=> ∃(p:Addr) (ys:List Int),vs=[.ref p]/\aY K H p (ys.map V.int)/\ys.length<1000/\(∀zs:List Int,zs.Nodup->(∀x,x∈zs↔x∈ys)->zs.length<64)/\
 ∀(t:Addr) (zs:List Int) (H':Hp),zs.Pairwise (·<=·)->zs.Nodup->(∀x,x∈zs↔x∈ys)->H t=none->Same H H'->H' t=some (.tup (zs.map V.int))->Q (.ref t) H'
theorem tE:bS ["things"] ["things"] (aH pY):=(.of rfl rfl rfl rfl (by decide+kernel))
theorem zbQ(F:mR K "rising" "rising" pY f fd)(B:Bt mg):dN P w K mg base gU (k+1) f fd ["things"] (tO K):=by
 refine F.ok tE (λvs H Q E h=> ?_) (λeQ A outer s H vs Q E hr h=> ?_)
 . obtain⟨p,ys,rfl,_⟩:=h;rfl
 have nd:=tE.nd
 refine⟨_,(aK (cE (dY iT rfl B.tuple_ (by decide+kernel) (aB (aW (uI rfl) rfl B.sorted_ (by decide+kernel) (aB (dY (o3 rfl) rfl B.set_ (by decide+kernel) (aB (pv 0) aC)) aC)) aC)))),?_⟩
 try dsimp only[eV,Cx.nox,Cx.wish]
 obtain⟨p,ys,rfl,hS,hl,h64,q⟩:=h
 exact⟨_,rfl,p,ys,rfl,hS,hl,λl zs hl hn hm=>⟨l,zs,rfl,aG,h64 zs hn hm,λl2 vW bZ hp hs=>⟨l2,_,rfl,.inl ⟨aY.of aG,λt ht=>q t vW _ hs (hp.nodup_iff.mpr hn) (λx=>(hp.mem_iff).trans (hm x)) ((aX hl).free ((aX bZ).free ht)) (((aX hl).trans (aX bZ)).trans (aX ht)) aG⟩⟩⟩⟩
def zaR:Sp:= λvs H Q _=> ∃(p:Addr) (zs:List Str),vs=[.ref p]/\H p=some (.lst (zs.map V.str))/\zs.length<=60/\zs.Nodup/\ ∀H',Same H H'->Q .non H'
theorem xS:bS ["names","seen","name"] ["names"] (aH gX):=(.of rfl rfl rfl rfl (by decide+kernel))
theorem zJ{zs:List Str}(nd:zs.Nodup){i:Nat}{z:Str}(hz:zs[i]?=some z):z∉zs.take i:= λhm=>by
 obtain⟨hi,e⟩:=List.getElem?_eq_some_iff.mp hz
 have h:=List.take_append_drop i zs
 rw[List.drop_eq_getElem_cons hi,e]at h
 rw[<-h]at nd
 exact(List.nodup_append.mp nd).2.2 z hm z List.mem_cons_self rfl
theorem zed(F:mR K "refuse_twice" "refuse_twice" gX f fd)(B:Bt mg):dN P w K mg base gU (k+1) f fd ["names"] zaR:=by
 refine F.ok xS (λvs H Q E h=> ?_) (λeQ A outer s H vs Q E hr h=> ?_)
 . obtain⟨p,zs,rfl,_⟩:=h;rfl
 obtain⟨p,zs,rfl,hS,vM,znd,q⟩:=h
 have nd:=xS.nd
 refine⟨_,(aE (bF (i:=1) nd rfl (Or.inl rfl) (j5 zaf rfl B.set_ (by decide+kernel))) (aK (dL PassesOwn.never rfl (dH (pv 0)) (aJ (i:=2) nd rfl (Or.inl rfl)) (aE (dX (bQ j8 (pv 2) (pv 1) rfl) (aK qN) bW) (aK (dB (zlI PySem.F.slot_set_add PySem.F.type_set_add zgE (pv 1) (aB (pv 2) aC)))))))),?_⟩
 try dsimp only[eV,Cx.nox,Cx.wish]
 refine zeL ?_
 intro D0 σ0 U2
 refine⟨rfl,λl hl=> ?_⟩
 refine⟨_,rfl,p,rfl,⟨_,aY.of ((aX hl) _ _ hS)⟩,hU (xs:=zs.map V.str) (λi σ H'=> ∃v:Option V,σ=[some (.ref p),some (.ref l),v]/\H' l=some (zac P w l (zs.take i))/\Same H H') ?_ ?_ ?_ ?_⟩
 . exact⟨none,rfl,aG,aX hl⟩
 . rintro i σ H1 _ ⟨v,_,_,x⟩;exact aY.of (x _ _ hS)
 . rintro i y σ H1 hy ⟨v,rfl,h1,x1⟩;rw[List.getElem?_map]at hy;obtain⟨z,hz,rfl⟩:=Option.map_eq_some_iff.mp hy;have hi:i<zs.length:=(List.getElem?_eq_some_iff.mp hz).1;have hn:=zJ znd hz;refine⟨_,rfl,_,rfl,z,l,_,rfl,rfl,h1,_,rfl,?_⟩;rw[decide_eq_false hn];refine iY ?_;refine⟨_,rfl,⟨l,_,rfl,h1⟩,_,rfl,l,z,_,rfl,rfl,h1,by rw[List.length_take];omega,_,rfl,?_,x1.at hl⟩;rw[aG,if_neg hn,gS hz]
   try rfl
 . rintro σ H1 ⟨v,rfl,_,x1⟩;exact q H1 x1
abbrev sK(H:Hp)(r:Addr)(row:List Int):Prop:=H r=some (.lst (row.map V.int))
structure Tb(H:Hp)(t:Addr)(rs:List Addr)(tb:List (List Int))(m:Nat):Prop where
 at_:H t=some (.lst (rs.map V.ref))
 rows:Paired (sK H) rs tb
 len: ∀r∈tb,r.length=m
 few:tb.length<=60
theorem Tb.same{H H':Hp}{t:Addr}{rs:List Addr}{tb:List (List Int)}{m:Nat}(h:Tb H t rs tb m)(x:Same H H'):Tb H' t rs tb m:=⟨x _ _ h.at_,Paired.mapP h.rows λ_ _ z=>x _ _ z,h.len,h.few⟩
theorem dR{α β:Type}{F:α->β->Prop}{l:List α}{m:List β}(h:Paired F l m): ∀{i:Nat} {a:α},l[i]?=some a-> ∃b,m[i]?=some b/\F a b:=by
 induction h with
 |nil=>intro i a e;cases e
 |cons r _ ih=>
  intro i a e;cases i with
  |zero=>cases e;exact⟨_,rfl,r⟩
  |succ i=>exact ih e
theorem Tb.width{H:Hp}{t:Addr}{rs:List Addr}{tb:List (List Int)}{m:Nat}(h:Tb H t rs tb m):(rs.map V.ref).length=tb.length:=by rw[bH];exact Paired.length h.rows
def zeq:Sp:= λvs H Q _=> ∃(t p:Addr) (rs:List Addr) (tb:List (List Int)) (m:Nat) (xs:List Int),vs=[.ref t,.ref p]/\Tb H t rs tb m/\H p=some (.lst (xs.map V.int))/\(∀x∈xs,0<=x/\x<tb.length)/\ ∀H',Same H H'->Q .non H'
theorem zaB:bS ["table","good","state"] ["table","good"] (aH iW):=(.of rfl rfl rfl rfl (by decide+kernel))
theorem zgV(F:mR K "refuse_good" "refuse_good" iW f fd)(B:Bt mg):dN P w K mg base gU (k+1) f fd ["table","good"] zeq:=by
 refine F.ok zaB (λvs H Q E h=> ?_) (λeQ A outer s H vs Q E hr h=> ?_)
 . obtain⟨t,p,rs,tb,m,xs,rfl,_⟩:=h;rfl
 obtain⟨t,p,rs,tb,m,xs,rfl,hT,hS,hx,q⟩:=h
 have nd:=zaB.nd
 refine⟨_,(aK (dL PassesOwn.never rfl (dH (pv 1)) (aJ (i:=2) nd rfl (Or.inl rfl)) (aK (dX (zdp (wK zjj xL aI (pv 2) (aW aO rfl B.len_ PySem.boot_len (aB (pv 0) aC)))) (aK qN) bW)))),?_⟩
 try dsimp only[eV,Cx.nox,Cx.wish]
 refine⟨_,rfl,p,rfl,⟨_,aY.of hS⟩,hU (xs:=xs.map V.int) (λi σ H'=> ∃v:Option V,σ=[some (.ref t),some (.ref p),v]/\Same H H') ?_ ?_ ?_ ?_⟩
 . exact⟨none,rfl,Same.refl _⟩
 . rintro i σ H1 _ ⟨v,_,x⟩;exact aY.of (x _ _ hS)
 . rintro i y σ H1 hy ⟨v,rfl,x1⟩;rw[List.getElem?_map]at hy;obtain⟨z,hz,rfl⟩:=Option.map_eq_some_iff.mp hy;obtain⟨h0,h1⟩:=hx z (List.mem_of_getElem? hz);refine⟨_,rfl,_,_,rfl,rfl,true,congrArg V.bl (decide_eq_true h0),oZ ?_⟩;refine⟨_,rfl,t,_,rfl,.inl (aY.of (hT.same x1).at_),_,_,rfl,rfl,true,congrArg V.bl (decide_eq_true (by rw[hT.width];exact h1)),iY ?_⟩;exact⟨_,rfl,x1⟩
 . rintro σ H1 ⟨v,rfl,x1⟩;exact q H1 x1
def zaL:Sp:= λvs H Q _=> ∃(p t:Addr) (ls:List Str) (rs:List Addr) (tb:List (List Int)),vs=[.ref p,.ref t]/\H p=some (.lst (ls.map V.str))/\Tb H t rs tb ls.length/\ls.length<=60/\(∀r∈tb,∀x∈r,0<=x/\x<tb.length)/\ ∀H',Same H H'->Q .non H'
theorem wM:bS ["letters","table","state","row","at","letter"] ["letters","table"] (aH hZ):=(.of rfl rfl rfl rfl (by decide+kernel))
theorem zsH{xs:List Int}{j:Nat}{x:Int}(h:xs[j]?=some x):uX (xs.map V.int) (j:Int)=some (.int x):=cN (by rw[List.getElem?_map,h];rfl)
theorem zfS(F:mR K "refuse_steps" "refuse_steps" hZ f fd)(B:Bt mg):dN P w K mg base gU (k+1) f fd ["letters","table"] zaL:=by
 refine F.ok wM (λvs H Q E h=> ?_) (λeQ A outer s H vs Q E hr h=> ?_)
 . obtain⟨p,t,ls,rs,tb,rfl,_⟩:=h;rfl
 obtain⟨p,t,ls,rs,tb,rfl,hS,hT,vM,hx,q⟩:=h
 have nd:=wM.nd
 refine⟨_,(aK (dL PassesOwn.never rfl (zaF rfl B.enumerate_ (aB (pv 1) aC)) (fG rfl (aZ (aJ (i:=2) nd rfl (Or.inl rfl)) (aZ (aJ (i:=3) nd rfl (Or.inl rfl)) eF))) (aK (dL PassesOwn.never rfl (zaF rfl B.enumerate_ (aB (pv 0) aC)) (fG rfl (aZ (aJ (i:=4) nd rfl (Or.inl rfl)) (aZ (aJ (i:=5) nd rfl (Or.inl rfl)) eF))) (aK (dX (PW.pt (zoy (bQ zjg (pv 4) (aW aO rfl B.len_ PySem.boot_len (aB (pv 3) aC)) (cL _)) (zlq (zdp (wK zjj xL aI (bV bO (pv 3) (pv 4) (λ_ _=>rfl)) (aW aO rfl B.len_ PySem.boot_len (aB (pv 1) aC))))))) (aK qN) bW)))))),?_⟩
 try dsimp only[eV,Cx.nox,Cx.wish]
 refine⟨_,rfl,t,rfl,⟨_,aY.of hT.at_⟩,xC (xs:=rs.map V.ref) (λi σ H'=> ∃v1 v2 v3 v4:Option V,σ=[some (.ref p),some (.ref t),v1,v2,v3,v4]/\Same H H') ?_ ?_ ?_ ?_⟩
 . exact⟨none,none,none,none,rfl,Same.refl _⟩
 . rintro i σ H1 _ ⟨v1,v2,v3,v4,_,x⟩;exact aY.of (x _ _ hT.at_)
 . rintro i y σ H0 T hy hT0 ⟨v1,v2,v3,v4,rfl,x0⟩;rw[List.getElem?_map]at hy;obtain⟨r,hr',rfl⟩:=Option.map_eq_some_iff.mp hy;obtain⟨row,zcw,hri⟩:=dR hT.rows hr';have mr:=List.mem_of_getElem? zcw;have cQ:=hT.len row mr;have x1:Same H (aN H0 T (.tup [.int i,.ref r])):=x0.trans (aX hT0);have hTt:aN H0 T (.tup [.int i,.ref r]) T=some (.tup [.int i,.ref r]):=aG;generalize aN H0 T (.tup [.int i,.ref r])=H1 at x1 hTt ⊢;refine⟨T,_,rfl,fR.of hTt,rfl,_,_,rfl,_,_,rfl,rfl,?_⟩;refine⟨_,rfl,p,rfl,⟨_,aY.of (x1 _ _ hS)⟩,xC (xs:=ls.map V.str) (λj σ H'=> ∃v3 v4:Option V,σ=[some (.ref p),some (.ref t),some (.int i),some (.ref r),v3,v4]/\Same H H') ?_ ?_ ?_ ?_⟩
   . exact⟨_,_,rfl,x1⟩
   . rintro j σ H2 _ ⟨v3,v4,_,x⟩;exact aY.of (x _ _ hS)
   . rintro j y2 σ H2 T2 hy2 hT2 ⟨v3,v4,rfl,x2⟩;rw[List.getElem?_map]at hy2;obtain⟨l,hl,rfl⟩:=Option.map_eq_some_iff.mp hy2;have hj:j<row.length:=by rw[cQ];exact(List.getElem?_eq_some_iff.mp hl).1
     obtain⟨h0,h1⟩:=hx row mr _ (List.getElem_mem hj);have x3:Same H (aN H2 T2 (.tup [.int j,.str l])):=x2.trans (aX hT2);have zqA:aN H2 T2 (.tup [.int j,.str l]) T2=some (.tup [.int j,.str l]):=aG;generalize aN H2 T2 (.tup [.int j,.str l])=H3 at x3 zqA ⊢;refine⟨T2,_,rfl,fR.of zqA,rfl,_,_,rfl,_,_,rfl,rfl,?_⟩;refine⟨_,rfl,_,rfl,r,_,rfl,.inl (aY.of (x3 _ _ hri)),_,_,rfl,rfl,false,congrArg V.bl (decide_eq_false (by rw[bH];omega)),iY ?_⟩;refine⟨_,rfl,_,rfl,r,_,_,_,rfl,rfl,aY.of (x3 _ _ hri),zsH (List.getElem?_eq_getElem hj),_,_,rfl,rfl,true,congrArg V.bl (decide_eq_true h0),oZ ?_⟩;refine⟨_,rfl,t,_,rfl,.inl (aY.of (x3 _ _ hT.at_)),_,_,rfl,rfl,true,congrArg V.bl (decide_eq_true (by rw[hT.width];exact h1)),iY ?_⟩;exact⟨_,_,rfl,x3⟩
   . rintro σ H2 ⟨v3,v4,rfl,x2⟩;exact⟨_,_,_,_,rfl,x2⟩
 . rintro σ H1 ⟨v1,v2,v3,v4,rfl,x1⟩;exact q H1 x1
section
variable {g4:Addr}{gd4:FuncData}{C CT CB CG M ft:Addr}{ftd:FuncData}
abbrev sG(H:Hp)(u:Addr)(row:List Int):Prop:=H u=some (.tup (row.map V.int))
def uZ(C:Addr)(H:Hp)(x:Addr)(ls:List Str)(tb:List (List Int))(zs:List Int):Prop:= ∃(dx tl tt tg:Addr) (us:List Addr),H x=some (.ins C dx [("letters",.ref tl),("table",.ref tt),("good",.ref tg)])/\rK H tl (ls.map V.str)/\
 H tt=some (.tup (us.map V.ref))/\Paired (sG H) us tb/\H tg=some (.tup (zs.map V.int))
theorem uZ.same{H H':Hp}{x:Addr}{ls:List Str}{tb:List (List Int)}{zs:List Int}(h:uZ C H x ls tb zs)(y:Same H H'):uZ C H' x ls tb zs:=by
 obtain⟨dx,tl,tt,tg,us,h1,h2,h3,h4,h5⟩:=h
 exact⟨dx,tl,tt,tg,us,y _ _ h1,h2.same y,y _ _ h3,Paired.mapP h4 λ_ _ z=>y _ _ z,y _ _ h5⟩
structure MoC(K:W.Frag)(C:Addr):Prop where
 cls:Cls K C
 n1:jK K C "letters"
 n2:jK K C "table"
 n3:jK K C "good"
structure Ris(gd zs:List Int):Prop where
 up:zs.Pairwise (·<=·)
 nd:zs.Nodup
 mem: ∀x,x∈zs↔x∈gd
def yZ(C:Addr):Sp:= λvs H Q _=> ∃(x p t g dx:Addr) (ls:List Str) (rs:List Addr) (tb:List (List Int)) (gd:List Int),vs=[.ref x,.ref p,.ref t,.ref g]/\H x=some (.ins C dx [])/\H p=some (.lst (ls.map V.str))/\Tb H t rs tb ls.length/\ls.length<=60/\H g=some (.lst (gd.map V.int))/\gd.length<60/\
 ls.Nodup/\(∀r∈tb,∀x∈r,0<=x/\x<tb.length)/\(∀x∈gd,0<=x/\x<tb.length)/\ ∀H' zs,uZ C H' x ls tb zs->Ris gd zs->(∀b o,b≠x->H b=some o->H' b=some o)->Q .non H'
theorem zbh:bS ["self","letters","table","good"] ["self","letters","table","good"] (aH cF):=(.of rfl rfl rfl rfl (by decide+kernel))
theorem bU{α β:Type}{F:α->β->Prop}{l l':List α}{m m':List β}(h:Paired F l m)(h':Paired F l' m'):Paired F (l++l') (m++m'):=by
 induction h with
 |nil=>exact h'
 |cons r _ ih=>exact .cons r ih
theorem zdA{D t:Addr}{Q:VK}{H1:Hp}{rs:List Addr}{tb:List (List Int)}{m:Nat}(hD:H1 D=none)(hT:Tb H1 t rs tb m)(gT: ∀H' us,Same H1 H'->H' D=some (.lst (us.map V.ref))->Paired (sG H') us tb->Q (.ref D) H'):
 bJ (zZ K t) D (bD 0) dJ (uY (λxs H Q=> ∃p ys,xs=[.ref p]/\((aY K H p ys/\ ∀l,H l=none->Q (.ref l) (aN H l (.tup ys)))\/(fR K H p ys/\Q (.ref p) H))) (aP (aL 0) cG)) Q [none] H1:=by
 have cQ:=Paired.length hT.rows
 have hf:=hT.few
 refine fP (xs:=rs.map V.ref) (λi ys σ H=> ∃(v:Option V) (us:List Addr),ys=us.map V.ref/\σ=[v]/\Same H1 H/\Paired (sG H) us (tb.take i)) ?_ (by rw[bH];omega) ?_ ?_ ?_ ?_
 . exact⟨none,[],rfl,rfl,aX hD,.nil⟩
 . rintro i ys σ H ⟨v,us,rfl,_,_,h⟩;have:=Paired.length h;rw[bH,this,List.length_take];omega
 . rintro i ys σ H ⟨v,us,_,_,x,_⟩;exact aY.of (x _ _ hT.at_)
 . rintro i y ys σ H hy bZ ⟨v,us,rfl,rfl,x,h⟩;rw[List.getElem?_map]at hy;obtain⟨r,hr',rfl⟩:=Option.map_eq_some_iff.mp hy;obtain⟨row,zcw,hri⟩:=dR hT.rows hr';refine⟨_,rfl,r,_,rfl,.inl ⟨aY.of (x _ _ hri),λu hu=> ?_⟩⟩;have nu:D≠u:=aF bZ hu;refine⟨by rw[aD nu];exact bZ,_,us++[u],by rw[List.map_append];rfl,rfl,(x.trans (aX hu)).at hD,?_⟩;rw[gS zcw];have k1: ∀b w,sG H b w->sG (aN (aN H u (.tup (row.map V.int))) D (.lst (us.map V.ref++[.ref u]))) b w:= λb w z=>by
    show aN _ D _ b=_
    rw[aD (cK z bZ (λq=>nomatch q)),aD (aF z hu)];exact z
   refine bU (Paired.mapP h k1) (.cons ?_ .nil);show aN _ D _ u=_;rw[aD (Ne.symm nu)];exact aG
 . rintro ys σ H bZ ⟨v,us,rfl,_,x,h⟩;rw[bH,cQ,List.take_length]at h;exact gT H us x bZ h
end
section
variable {g4:Addr}{gd4:FuncData}{C CT CB CG M ft:Addr}{ftd:FuncData}
theorem Tb.but{H H':Hp}{t x:Addr}{rs:List Addr}{tb:List (List Int)}{m:Nat}{o:HO}(h:Tb H t rs tb m)(hx:H x=some o)(ho: ∀ys,o≠ .lst ys)(k: ∀b o,b≠x->H b=some o->H' b=some o):Tb H' t rs tb m:=
 ⟨k _ _ (cK h.at_ hx (λz=>ho _ z.symm)) h.at_,Paired.mapP h.rows λ_ _ z=>k _ _ (cK z hx (λq=>ho _ q.symm)) z,h.len,h.few⟩
theorem zlD{zs ys:List Int}(hn:zs.Nodup)(hm: ∀x,x∈zs↔x∈ys)(hl:ys.length<60):zs.length<64:=by
 rcases Nat.lt_or_ge zs.length 64 with h|h
 . exact h
 . obtain⟨c,h1,h2⟩:=pig ys zs hn (by omega);exact absurd ((hm c).mp h1) h2
theorem zhg(F:mR K "__init__" "Machine.__init__" cF f fd)(B:Bt mg)(S:MoC K C)(qF:Fn P w K mg base k "refuse_twice" ["names"] zaR g gd)(rY:Fn P w K mg base k "refuse_steps" ["letters","table"] zaL g2 gd2)
 (sI:Fn P w K mg base k "refuse_good" ["table","good"] zeq g3 gd3) (G_rising:Fn P w K mg base k "rising" ["things"] (tO K) g4 gd4):dN P w K mg base gU (k+1) f fd ["self","letters","table","good"] (yZ C):=by
 refine F.ok zbh (λvs H Q E h=> ?_) (λeQ A outer s H vs Q E hr h=> ?_)
 . obtain⟨x,p,t,g,dx,ls,rs,tb,gd,rfl,_⟩:=h;rfl
 obtain⟨x,p,t,g,dx,ls,rs,tb,gdl,rfl,hx,hp,hT,vM,hg,zuR,d1,d2,d3,q⟩:=h
 have nd:=zbh.nd
 refine⟨_,(aE (dB (lD qF hr rfl (aB (pv 1) aC))) (aE (dB (lD rY hr rfl (aB (pv 1) (aB (pv 2) aC)))) (aE (dB (lD sI hr rfl (aB (pv 2) (aB (pv 3) aC)))) (aE (yU (pv 0) (dY wG rfl B.tuple_ (by decide+kernel) (aB (pv 1) aC)) rfl) (aE (yU (pv 0) (dY iT rfl B.tuple_ (by decide+kernel) (aB (cS (g:=(bD 0)) (tc:=dJ) (te:=(uY (λxs H Q=> ∃p ys,xs=[.ref p]/\((aY K H p ys/\ ∀l,H l=none->Q (.ref l) (aN H l (.tup ys)))\/(fR K H p ys/\Q (.ref p) H))) (aP (aL 0) cG))) (own:=["row"]) (fr:=([]:List Str)) (idx:=[]) rfl (by show aR _ _ _ (aH cF);exact(.of rfl (by decide+kernel))) (dH (pv 2)) (λ_ _ _ _ _=>(aJ (i:=0) (by show List.Nodup (["row"]:List Str);decide+kernel) rfl (Or.inl rfl) (Or.inr rfl))) (λ_ _ _ _ _=>cT) (λ_ _ _ _ _=>(dY iT rfl B.tuple_ (by decide+kernel) (aB (pv 0) aC))) rfl (cR rfl)) aC)) rfl) (aK (yU (pv 0) (lD G_rising hr rfl (aB (pv 3) aC)) rfl))))))),?_⟩
 try dsimp only[eV,Cx.nox,Cx.wish]
 refine zjn ?_
 intro D0 σ0 U6 U5 U4 U3 U2
 refine⟨_,rfl,p,ls,rfl,hp,vM,d1,λH1 x1=> ?_⟩
 have hT1:=hT.same x1
 refine⟨_,rfl,_,rfl,p,t,ls,rs,tb,rfl,x1 _ _ hp,hT1,vM,d2,λH2 x2=> ?_⟩
 have x12:=x1.trans x2
 refine⟨_,rfl,_,rfl,t,g,rs,tb,ls.length,gdl,rfl,hT.same x12,x12 _ _ hg,d3,λH3 x3=> ?_⟩
 have x13:=x12.trans x3
 refine⟨_,rfl,p,_,rfl,aY.of (x13 _ _ hp),λtl ob htl hob hoc=> ?_⟩
 have xx4:=x13.trans (aX (o:= .frz ob (.tup (ls.map V.str))) htl)
 have ktl:aN H3 tl (.frz ob (.tup (ls.map V.str))) tl=some (.frz ob (.tup (ls.map V.str))):=aG
 generalize aN H3 tl (.frz ob (.tup (ls.map V.str)))=H4 at xx4 ktl ⊢
 refine⟨_,rfl,x,C,dx,[],rfl,xx4 _ _ hx,S.cls,S.n1,by decide,?_⟩
 have y5: ∀b o,b≠x->H b=some o->aN H4 x (.ins C dx (fO "letters" (.ref tl) [])) b=some o:= λb o n e=>by rw[aD n];exact xx4 _ _ e
 have ntl:tl≠x:=cK ktl (xx4 _ _ hx) (λz=>nomatch z)
 have k5:aN H4 x (.ins C dx (fO "letters" (.ref tl) [])) tl=some (.frz ob (.tup (ls.map V.str))):=by rw[aD ntl];exact ktl
 have k5x:aN H4 x (.ins C dx (fO "letters" (.ref tl) [])) x=some (.ins C dx [("letters",.ref tl)]):=aG
 generalize aN H4 x (.ins C dx (fO "letters" (.ref tl) []))=H5 at y5 k5 k5x ⊢
 have hT5:Tb H5 t rs tb ls.length:=hT.but hx (λ_ z=>nomatch z) y5
 refine⟨_,rfl,t,rfl,⟨_,aY.of hT5.at_⟩,λD hD=>zdA (K:=K) hD hT5 λH6 us x6 hD6 hU6=>⟨D,_,rfl,.inl ⟨aY.of hD6,λtt htt=> ?_⟩⟩⟩
 have xx7:=x6.trans (aX (o:= .tup (us.map V.ref)) htt)
 have ktt:aN H6 tt (.tup (us.map V.ref)) tt=some (.tup (us.map V.ref)):=aG
 have hU7:Paired (sG (aN H6 tt (.tup (us.map V.ref)))) us tb:=Paired.mapP hU6 λ_ _ z=>(aX htt) _ _ z
 generalize aN H6 tt (.tup (us.map V.ref))=H7 at xx7 ktt hU7 ⊢
 refine⟨_,rfl,x,C,dx,_,rfl,xx7 _ _ k5x,S.cls,S.n2,(by show 1<1000;decide),?_⟩
 have nt: ∀{b:Addr} {ys:List V},H7 b=some (.tup ys)->b≠x:= λe=>cK e (xx7 _ _ k5x) (λz=>nomatch z)
 have y8: ∀b o,b≠x->H7 b=some o->aN H7 x (.ins C dx (fO "table" (.ref tt) [("letters",.ref tl)])) b=some o:= λb o n e=>by rw[aD n];exact e
 have k8x:aN H7 x (.ins C dx (fO "table" (.ref tt) [("letters",.ref tl)])) x=some (.ins C dx [("letters",.ref tl),("table",.ref tt)]):=aG
 have k8:aN H7 x (.ins C dx (fO "table" (.ref tt) [("letters",.ref tl)])) tl=some (.frz ob (.tup (ls.map V.str))):=y8 _ _ ntl (xx7 _ _ k5)
 have k8t:aN H7 x (.ins C dx (fO "table" (.ref tt) [("letters",.ref tl)])) tt=some (.tup (us.map V.ref)):=y8 _ _ (nt ktt) ktt
 have hU8:Paired (sG (aN H7 x (.ins C dx (fO "table" (.ref tt) [("letters",.ref tl)])))) us tb:=Paired.mapP hU7 λ_ _ z=>y8 _ _ (nt z) z
 have z8: ∀b o,b≠x->H b=some o->aN H7 x (.ins C dx (fO "table" (.ref tt) [("letters",.ref tl)])) b=some o:= λb o n e=>y8 _ _ n (xx7 _ _ (y5 _ _ n e))
 clear y8
 generalize aN H7 x (.ins C dx (fO "table" (.ref tt) [("letters",.ref tl)]))=H8 at k8x k8 k8t hU8 z8 ⊢
 refine⟨_,rfl,g,gdl,rfl,aY.of (z8 _ _ (cK hg hx (λz=>nomatch z)) hg),by omega,λzs hn hm=>zlD hn hm zuR,λtg zs H9 up ndz mem htg x9 h9=> ?_⟩
 refine⟨_,rfl,x,C,dx,_,rfl,x9 _ _ k8x,S.cls,S.n3,(by show 2<1000;decide),?_⟩
 have nt9: ∀{b:Addr} {ys:List V},H9 b=some (.tup ys)->b≠x:= λe=>cK e (x9 _ _ k8x) (λz=>nomatch z)
 have y10: ∀b o,b≠x->H9 b=some o->aN H9 x (.ins C dx (fO "good" (.ref tg) [("letters",.ref tl),("table",.ref tt)])) b=some o:= λb o n e=>by rw[aD n];exact e
 refine q _ zs ⟨dx,tl,tt,tg,us,aG,⟨ob,y10 _ _ ntl (x9 _ _ k8),hob,hoc⟩,y10 _ _ (nt9 (x9 _ _ k8t)) (x9 _ _ k8t),Paired.mapP hU8 λ_ _ z=>y10 _ _ (nt9 (x9 _ _ z)) (x9 _ _ z),y10 _ _ (nt9 h9) h9⟩ ⟨up,ndz,mem⟩ λb o n e=>y10 _ _ n (x9 _ _ (z8 _ _ n e))
end
end KK
namespace KKL
structure Mc where
 n:Nat
 m:Nat
 go:Nat->Nat->Nat
 gd:Nat->Bool
structure Mc.Ok(M:Mc):Prop where
 one:0<M.n
 lt: ∀s a,s<M.n->a<M.m->M.go s a<M.n
def Al(M:Mc):Nat->Nat->Nat->Prop
 |0,s,t=>M.gd s=M.gd t
 |k+1,s,t=>Al M k s t/\ ∀a,a<M.m->Al M k (M.go s a) (M.go t a)
theorem Al.refl(M:Mc): ∀k s,Al M k s s
 |0,_=>rfl
 |k+1,s=>⟨Al.refl M k s,λa _=>Al.refl M k _⟩
theorem Al.down{M:Mc}{k s t:Nat}: ∀{j:Nat},Al M (k+j) s t->Al M k s t
 |0,h=>h
 |_+1,h=>Al.down h.1
theorem Al.stay{M:Mc}(ok:M.Ok){k:Nat}(h: ∀s t,s<M.n->t<M.n->Al M k s t->Al M (k+1) s t): ∀(j s t:Nat),s<M.n->t<M.n->Al M k s t->Al M (k+j) s t
 |0,_,_,_,_,a=>a
 |j+1,s,t,hs,ht,a=>⟨Al.stay ok h j s t hs ht a,λc hc=>Al.stay ok h j _ _ (ok.lt s c hs hc) (ok.lt t c ht hc) ((h s t hs ht a).2 c hc)⟩
theorem zcE: ∀(k:Nat) (cs:List Nat),cs.Nodup->(∀c∈cs,c<k)->cs.length<=k
 |0,[],_,_=>Nat.le_refl _
 |0,c::_,_,h=>absurd (h c List.mem_cons_self) (Nat.not_lt_zero _)
 |k+1,cs,nd,h=>by
  have e:cs.length<=(cs.filter λc=>decide (c≠k)).length+1:=by
   clear h
   induction cs with
   |nil=>exact Nat.zero_le _
   |cons c cs ih=>
    rw[List.nodup_cons]at nd
    by_cases z:c=k
    . have f:cs.filter (λc=>decide (c≠k))=cs:=by
       rw[List.filter_eq_self];intro b hb;exact decide_eq_true λq=>nd.1 (by rw[z,<-q];exact hb)
      rw[List.filter_cons,if_neg (by simp[z]),f];exact Nat.le_refl _
    . rw[List.filter_cons,if_pos (by simp[z])];exact Nat.succ_le_succ (ih nd.2)
  have r:=zcE k (cs.filter λc=>decide (c≠k)) (nd.sublist List.filter_sublist) λc hc=>by
   obtain⟨a,b⟩:=List.mem_filter.mp hc;have:=h c a;have:c≠k:=of_decide_eq_true b;omega
  omega
structure Nb(n q:Nat)(c:Nat->Nat):Prop where
 lt: ∀s,s<n->c s<q
 on: ∀v,v<q-> ∃s,s<n/\c s=v
theorem uS{n q:Nat}{c f:Nat->Nat}(hc:Nb n q c)(hf:Nb n q f)(fN: ∀s t,s<n->t<n->f s=f t->c s=c t): ∀s t,s<n->t<n->c s=c t->f s=f t:=by
 intro s t hs ht e
 refine Classical.byContradiction λne=> ?_
 have rep: ∀v,∃r,v<q->r<n/\c r=v:= λv=>by
  by_cases h:v<q
  . obtain⟨r,a,b⟩:=hc.on v h;exact⟨r,λ_=>⟨a,b⟩⟩
  . exact⟨0,λz=>absurd z h⟩
 have⟨r,hr⟩:=Classical.axiomOfChoice rep
 have nd:((List.range q).map λv=>f (r v)).Nodup:=by
  rw[List.Nodup,List.pairwise_map];refine(List.nodup_range (n:=q)).imp_of_mem λ{a b} ha hb sB z=> ?_;obtain⟨a1,a2⟩:=hr a (List.mem_range.mp ha);obtain⟨b1,b2⟩:=hr b (List.mem_range.mp hb);exact sB (a2.symm.trans ((fN _ _ a1 b1 z).trans b2))
 have out: ∃x,(x=s\/x=t)/\f x∉(List.range q).map λv=>f (r v):=by
  by_cases h:f s=f (r (c s))
  . refine⟨t,.inr rfl,λhm=> ?_⟩;obtain⟨v,hv,ev⟩:=List.mem_map.mp hm;obtain⟨v1,v2⟩:=hr v (List.mem_range.mp hv);have:v=c t:=v2.symm.trans (fN _ _ v1 ht ev);rw[this,<-e]at ev;exact ne (h.trans ev)
  . refine⟨s,.inl rfl,λhm=> ?_⟩;obtain⟨v,hv,ev⟩:=List.mem_map.mp hm;obtain⟨v1,v2⟩:=hr v (List.mem_range.mp hv);have:v=c s:=v2.symm.trans (fN _ _ v1 hs ev);rw[this]at ev;exact h ev.symm
 obtain⟨x,hx,hn⟩:=out
 have hxn:x<n:=by rcases hx with z|z<;>rw[z]<;>assumption
 have:=zcE q (f x::(List.range q).map λv=>f (r v)) (List.nodup_cons.mpr ⟨hn,nd⟩) λv hv=>by
  rcases List.mem_cons.mp hv with z|z
  . rw[z];exact hf.lt x hxn
  . obtain⟨u,hu,rfl⟩:=List.mem_map.mp z;exact hf.lt _ (hr u (List.mem_range.mp hu)).1
 rw[List.length_cons,bH,List.length_range]at this
 omega
theorem zfK{n q p:Nat}{c f:Nat->Nat}(hc:Nb n q c)(hf:Nb n p f)(fN: ∀s t,s<n->t<n->f s=f t->c s=c t):q<=p:=by
 have rep: ∀v,∃r,v<q->r<n/\c r=v:= λv=>by
  by_cases h:v<q
  . obtain⟨r,a,b⟩:=hc.on v h;exact⟨r,λ_=>⟨a,b⟩⟩
  . exact⟨0,λz=>absurd z h⟩
 have⟨r,hr⟩:=Classical.axiomOfChoice rep
 have nd:((List.range q).map λv=>f (r v)).Nodup:=by
  rw[List.Nodup,List.pairwise_map];refine(List.nodup_range (n:=q)).imp_of_mem λ{a b} ha hb sB z=> ?_;obtain⟨a1,a2⟩:=hr a (List.mem_range.mp ha);obtain⟨b1,b2⟩:=hr b (List.mem_range.mp hb);exact sB (a2.symm.trans ((fN _ _ a1 b1 z).trans b2))
 have:=zcE p _ nd λv hv=>by
  obtain⟨u,hu,rfl⟩:=List.mem_map.mp hv;exact hf.lt _ (hr u (List.mem_range.mp hu)).1
 rw[bH,List.length_range]at this
 exact this
def vV{α:Type} [DecidableEq α](acc:List α)(x:α):List α:=if x∈acc then acc else acc++[x]
def vP{α:Type} [DecidableEq α](xs:List α):List α:=xs.foldl vV []
theorem zeo{α:Type} [DecidableEq α]{acc:List α}{x y:α}:y∈vV acc x↔y∈acc\/y=x:=by
 unfold vV
 by_cases h:x∈acc
 . rw[if_pos h];exact⟨.inl,λz=>z.elim id λq=>by rw[q];exact h⟩
 . rw[if_neg h,List.mem_append,List.mem_singleton]
theorem zaj{α:Type} [DecidableEq α]{acc:List α}{x:α}(nd:acc.Nodup):(vV acc x).Nodup:=by
 unfold vV
 by_cases h:x∈acc
 . rw[if_pos h];exact nd
 . rw[if_neg h,List.nodup_append];exact⟨nd,List.nodup_cons.mpr ⟨(by intro z;cases z),List.nodup_nil⟩,λa ha b hb e=>h (by rw[<-List.mem_singleton.mp hb,<-e];exact ha)⟩
theorem rQ{α:Type} [DecidableEq α]: ∀(xs acc:List α),acc.Nodup->(xs.foldl vV acc).Nodup/\ ∀y,y∈xs.foldl vV acc↔y∈acc\/y∈xs
 | [],acc,nd=>⟨nd,λy=>⟨.inl,λz=>z.elim id λq=>by cases q⟩⟩
 |x::xs,acc,nd=>by
  obtain⟨a,b⟩:=rQ xs (vV acc x) (zaj nd);refine⟨a,λy=>(b y).trans ?_⟩;rw[zeo,List.mem_cons,or_assoc]
theorem zci{α:Type} [DecidableEq α](xs:List α):(vP xs).Nodup:=(rQ xs [] List.nodup_nil).1
theorem pC{α:Type} [DecidableEq α]{xs:List α}{y:α}:y∈vP xs↔y∈xs:=((rQ xs [] List.nodup_nil).2 y).trans ⟨λz=>z.elim (λq=>by cases q) id,.inr⟩
def vQ{α:Type} [DecidableEq α](xs:List α):List Nat:=xs.map λx=>(vP xs).idxOf x
theorem uL{α:Type} [DecidableEq α]{xs:List α}{s:Nat}(h:s<xs.length):(vQ xs).getD s 0=(vP xs).idxOf xs[s]:=by
 unfold vQ
 rw[List.getD_eq_getElem?_getD,List.getElem?_map,List.getElem?_eq_getElem h];rfl
theorem zeY{α:Type} [DecidableEq α](xs:List α):Nb xs.length (vP xs).length λs=>(vQ xs).getD s 0:=by
 refine⟨λs hs=> ?_,λv hv=> ?_⟩
 . show(vQ xs).getD s 0<_
   rw[uL hs];exact List.idxOf_lt_length_iff.mpr (pC.mpr (List.getElem_mem hs))
 . obtain⟨s,hs,e⟩:=List.mem_iff_getElem.mp (pC.mp (List.getElem_mem hv));refine⟨s,hs,?_⟩;show(vQ xs).getD s 0=v;rw[uL hs,e];exact(zci xs).idxOf_getElem v hv
theorem zdW{α:Type} [DecidableEq α]{xs:List α}{s t:Nat}(hs:s<xs.length)(ht:t<xs.length):(vQ xs).getD s 0=(vQ xs).getD t 0↔xs[s]=xs[t]:=by
 rw[uL hs,uL ht]
 refine⟨λh=> ?_,λh=>by rw[h]⟩
 have a:=List.idxOf_lt_length_iff.mpr (pC.mpr (List.getElem_mem hs))
 have b:=List.idxOf_lt_length_iff.mpr (pC.mpr (List.getElem_mem ht))
 have e1:=List.getElem_idxOf a
 have e2:=List.getElem_idxOf b
 rw[<-e1,<-e2]
 simp only[h]
structure Rp(M:Mc)(k q:Nat)(c:Nat->Nat):Prop where
 nb:Nb M.n q c
 al: ∀s t,s<M.n->t<M.n->(c s=c t↔Al M k s t)
theorem Rp.few{M:Mc}{k q:Nat}{c:Nat->Nat}(h:Rp M k q c):q<=M.n:=by
 have rep: ∀v,∃r,v<q->r<M.n/\c r=v:= λv=>by
  by_cases hv:v<q
  . obtain⟨r,a,b⟩:=h.nb.on v hv;exact⟨r,λ_=>⟨a,b⟩⟩
  . exact⟨0,λz=>absurd z hv⟩
 have⟨r,hr⟩:=Classical.axiomOfChoice rep
 have:=zcE M.n ((List.range q).map r) (by
  rw[List.Nodup,List.pairwise_map];refine(List.nodup_range (n:=q)).imp_of_mem λ{a b} ha hb sB z=> ?_;exact sB ((hr a (List.mem_range.mp ha)).2.symm.trans (by rw[z];exact(hr b (List.mem_range.mp hb)).2))) λv hv=>by
  obtain⟨u,hu,rfl⟩:=List.mem_map.mp hv;exact(hr u (List.mem_range.mp hu)).1
 rw[bH,List.length_range]at this
 exact this
theorem Rp.done{M:Mc}(ok:M.Ok){k q:Nat}{c f:Nat->Nat}(hc:Rp M k q c)(hf:Rp M (k+1) q f): ∀(j s t:Nat),s<M.n->t<M.n->Al M k s t->Al M (k+j) s t:=
 Al.stay ok λs t hs ht h=>(hf.al s t hs ht).mp (uS hc.nb hf.nb (λa b ha hb e=>(hc.al a b ha hb).mpr ((hf.al a b ha hb).mp e).1) s t hs ht ((hc.al s t hs ht).mpr h))
theorem Rp.more{M:Mc}{k q p:Nat}{c f:Nat->Nat}(hc:Rp M k q c)(hf:Rp M (k+1) p f):q<=p:=zfK hc.nb hf.nb λa b ha hb e=>(hc.al a b ha hb).mpr ((hf.al a b ha hb).mp e).1
def iS(M:Mc)(c:Nat->Nat):List (Nat×List Nat):=(List.range M.n).map λs=>(c s,(List.range M.m).map λa=>c (M.go s a))
theorem zaH{M:Mc}{c:Nat->Nat}{s:Nat}(h:s<(iS M c).length):(iS M c)[s]=(c s,(List.range M.m).map λa=>c (M.go s a)):=by
 have e:(iS M c)[s]?=some (c s,(List.range M.m).map λa=>c (M.go s a)):=by
  have hs:s<M.n:=by unfold iS at h;rw[bH,List.length_range]at h;exact h
  unfold iS;rw[List.getElem?_map,List.getElem?_range hs];rfl
 exact Option.some.inj ((List.getElem?_eq_getElem h).symm.trans e)
theorem Rp.next{M:Mc}(ok:M.Ok){k q:Nat}{c:Nat->Nat}(hc:Rp M k q c):Rp M (k+1) (vP (iS M c)).length λs=>(vQ (iS M c)).getD s 0:=by
 have sl:(iS M c).length=M.n:=by unfold iS;rw[bH,List.length_range]
 refine⟨by have:=zeY (iS M c);rw[sl]at this;exact this,λs t hs ht=> ?_⟩
 have yV:s<(iS M c).length:=by rw[sl];exact hs
 have ht':t<(iS M c).length:=by rw[sl];exact ht
 refine(zdW yV ht').trans ?_
 rw[zaH yV,zaH ht']
 constructor
 . intro h;obtain⟨h1,h2⟩:=Prod.mk.inj h;refine⟨(hc.al s t hs ht).mp h1,λa ha=>(hc.al _ _ (ok.lt s a hs ha) (ok.lt t a ht ha)).mp ?_⟩;have:=congrArg (λl=>l[a]?) h2;simp only[List.getElem?_map,List.getElem?_range ha,Option.map_some]at this;exact Option.some.inj this
 . intro h;refine Prod.ext ((hc.al s t hs ht).mpr h.1) (List.map_congr_left λa ha=> ?_);have ha:=List.mem_range.mp ha;exact(hc.al _ _ (ok.lt s a hs ha) (ok.lt t a ht ha)).mpr (h.2 a ha)
theorem Rp.first(M:Mc):Rp M 0 (vP ((List.range M.n).map M.gd)).length λs=>(vQ ((List.range M.n).map M.gd)).getD s 0:=by
 have sl:((List.range M.n).map M.gd).length=M.n:=by rw[bH,List.length_range]
 refine⟨by have:=zeY ((List.range M.n).map M.gd);rw[sl]at this;exact this,λs t hs ht=> ?_⟩
 refine(zdW (by rw[sl];exact hs) (by rw[sl];exact ht)).trans ?_
 rw[List.getElem_map,List.getElem_map,List.getElem_range,List.getElem_range]
 exact Iff.rfl
theorem Rp.ex{M:Mc}(ok:M.Ok): ∀k,∃q c,Rp M k q c
 |0=>⟨_,_,Rp.first M⟩
 |k+1=>let⟨_,_,h⟩:=Rp.ex ok k;⟨_,_,h.next ok⟩
theorem Rp.one{M:Mc}{k q p:Nat}{c f:Nat->Nat}(hc:Rp M k q c)(hf:Rp M k p f):q=p:=
 Nat.le_antisymm (zfK hc.nb hf.nb λa b ha hb e=>(hc.al a b ha hb).mpr ((hf.al a b ha hb).mp e)) (zfK hf.nb hc.nb λa b ha hb e=>(hf.al a b ha hb).mpr ((hc.al a b ha hb).mp e))
theorem zeE{M:Mc}(ok:M.Ok): ∀k,(∀(j s t:Nat),s<M.n->t<M.n->Al M k s t->Al M (k+j) s t)\/ ∀q c,Rp M k q c->k+1<=q
 |0=> .inr λq c h=>by have:=h.nb.lt 0 ok.one;omega
 |k+1=>by
  have up:(∀(j s t:Nat),s<M.n->t<M.n->Al M k s t->Al M (k+j) s t)-> ∀(j s t:Nat),s<M.n->t<M.n->Al M (k+1) s t->Al M (k+1+j) s t:= λg j s t hs ht a=>by
   have:=g (1+j) s t hs ht a.1;rw[<-Nat.add_assoc]at this;exact this
  rcases zeE ok k with g|g
  . exact .inl (up g)
  . obtain⟨q,c,hc⟩:=Rp.ex ok k;have hf:=hc.next ok;have h1:=g q c hc;have h2:=hc.more hf
    rcases Nat.lt_or_ge q (vP (iS M c)).length with z|z
    . refine .inr λp f h=> ?_;have:=hf.one h;omega
    . have e:(vP (iS M c)).length=q:=Nat.le_antisymm z h2;rw[e]at hf;exact .inl (up (hc.done ok hf))
end KKL
namespace KKL
abbrev fX:=List (Bool×List Nat)
def aQ(m:Nat)(cs:fX):Mc:=⟨cs.length,m,λs a=>(cs.getD s (false,[])).2.getD a 0,λs=>(cs.getD s (false,[])).1⟩
structure Wc(m:Nat)(cs:fX):Prop where
 one:0<cs.length
 row: ∀r∈cs,r.2.length=m/\ ∀x∈r.2,x<cs.length
theorem getD_at{α:Type}{l:List α}{i:Nat}{x d:α}(h:l[i]?=some x):l.getD i d=x:=by rw[List.getD_eq_getElem?_getD,h];rfl
theorem Wc.ok{m:Nat}{cs:fX}(h:Wc m cs):(aQ m cs).Ok:=by
 refine⟨h.one,λs a hs ha=> ?_⟩
 have yV:s<cs.length:=hs
 have e:=List.getElem?_eq_getElem yV
 obtain⟨r1,r2⟩:=h.row _ (List.getElem_mem yV)
 have ha':a<cs[s].2.length:=by rw[r1];exact ha
 show(cs.getD s (false,[])).2.getD a 0<cs.length
 rw[getD_at e,getD_at (List.getElem?_eq_getElem ha')]
 exact r2 _ (List.getElem_mem ha')
section
variable {α:Type} [DecidableEq α]
def zqd(go:α->Nat->α)(m:Nat)(ts:List α)(t:α):List α:=((List.range m).map (go t)).foldl vV ts
def tsN(go:α->Nat->α)(m:Nat)(st:α):Nat->List α
 |0=>[st]
 |k+1=>match (tsN go m st k)[k]? with
  |some t=>zqd go m (tsN go m st k) t
  |none=>tsN go m st k
variable {go:α->Nat->α}{m:Nat}{st:α}
def Fin(go:α->Nat->α)(m:Nat)(st:α)(ts:List α):Prop:= ∃k,ts=tsN go m st k/\ts.length=k
end
section
variable {α β:Type}{ρ:α->β->Prop}
variable [DecidableEq α] [DecidableEq β]
end
end KKL
namespace KKL
theorem Al.up{M:Mc}{k j s t:Nat}(h:Al M k s t)(e:j<=k):Al M j s t:=by
 obtain⟨d,rfl⟩:=Nat.exists_eq_add_of_le e
 exact h.down
structure zql(m:Nat)(cs ds:fX)(ow:Nat->Nat):Prop where
 zero:ow 0=0
 gd: ∀t,t<ds.length->(aQ m ds).gd t=(aQ m cs).gd (ow t)
 go: ∀t a,t<ds.length->a<m->ow ((aQ m ds).go t a)=(aQ m cs).go (ow t) a
end KKL
namespace KK
open PySem L2 PyProof.Rows KKM KKL
variable {P:Program}{w:World}{K:W.Frag}{mg:Str->Option Value}{base:Heap}{f g g2 g3 g4 C CT CB CG M ft:Addr}{fd gd gd2 gd3 gd4 ftd:FuncData}{k:Nat}
abbrev gG:Stmt:=top 13
abbrev lW:Stmt:=top 14
abbrev pU:Stmt:=top 15
abbrev bE:Stmt:=top 16
abbrev iA:Stmt:=top 25
abbrev fY:Stmt:=top 26
abbrev fV:Stmt:=top 27
abbrev jQ:Stmt:=top 28
abbrev eS:Stmt:=top 22
abbrev eM:Stmt:=top 23
abbrev fW:Stmt:=top 24
abbrev tY:Stmt:=top 29
structure zee(P:Program)(w:World)(K:W.Frag)(mg:Str->Option Value)(base:Heap)(k:Nat)(C:Addr)(g:Addr)(gd:FuncData):Prop where
 mak:Mk K C g
 mo:MoC K C
 ok:dN P w K mg base gU k g gd ["self","letters","table","good"] (yZ C)
 bn:jW K gd ["self","letters","table","good"] []
 at_:mg "Machine" =some (.ref C)
theorem pT{α β:Type}{F G:α->β->Prop}{l:List α}{m:List β}(h:Paired F l m):(∀a b,a∈l->F a b->G a b)->Paired G l m:=by
 induction h with
 |nil=>exact λ_=> .nil
 |cons r _ ih=>exact λk=> .cons (k _ _ (List.mem_cons_self ..) r) (ih λa b ha z=>k a b (List.mem_cons_of_mem _ ha) z)
def dG(ns:List Nat):List Int:=ns.map λn:Nat=>(n:Int)
theorem bB(ns:List Nat):(dG ns).length=ns.length:=bH ..
theorem zdx{ns:List Nat}{i n:Nat}(h:ns[i]?=some n):(dG ns)[i]?=some (n:Int):=by unfold dG;rw[List.getElem?_map,h];rfl
def wE(cs:fX):List (List Int):=cs.map λc=>dG c.2
def nK(cs:fX)(i:Nat):List Int:=((List.range i).filter λj=>(cs.getD j (false,[])).1).map λj:Nat=>(j:Int)
theorem iM(cs:fX):(wE cs).length=cs.length:=bH ..
theorem jL{cs:fX}{i:Nat}{c:Bool×List Nat}(h:cs[i]?=some c):(wE cs)[i]?=some (dG c.2):=by unfold wE;rw[List.getElem?_map,h];rfl
theorem qH{cs:fX}{n:Nat}{x:Int}:x∈nK cs n↔ ∃j:Nat,j<n/\x=(j:Int)/\(cs.getD j (false,[])).1=true:=by
 unfold nK
 rw[List.mem_map]
 constructor
 . rintro⟨j,hj,rfl⟩;obtain⟨h1,h2⟩:=List.mem_filter.mp hj;exact⟨j,List.mem_range.mp h1,rfl,h2⟩
 . rintro⟨j,h1,rfl,h2⟩;exact⟨j,List.mem_filter.mpr ⟨List.mem_range.mpr h1,h2⟩,rfl⟩
theorem ziN{cs:fX}{i:Nat}: ∀x∈nK cs i,0<=x/\x<i:= λx hx=>by
 obtain⟨j,h1,rfl,_⟩:=qH.mp hx
 omega
theorem zis(cs:fX)(i:Nat):(nK cs i).Pairwise (·<·):=by
 unfold nK
 exact List.pairwise_map.mpr (List.Pairwise.imp (λ{a b} h=>Int.ofNat_lt.mpr h) (List.Pairwise.filter _ List.pairwise_lt_range))
theorem zfG(cs:fX)(i:Nat):(nK cs i).length<=i:=by
 unfold nK
 rw[bH]
 exact Nat.le_trans (List.length_filter_le ..) (by rw[List.length_range];exact Nat.le_refl _)
theorem zaC{y:Int}{ys:List Int}:tM (.int y) (ys.map V.int)=decide (y∈ys):=by
 rw[Bool.eq_iff_iff,decide_eq_true_eq]
 unfold tM
 rw[List.any_map,List.any_eq_true]
 constructor
 . rintro⟨x,hx,q⟩;have e:x=y:=by simpa using(show(x==y)=true from q)
   rw[<-e];exact hx
 . intro h;exact⟨y,h,show(y==y)=true by simp⟩
theorem fQ(ys:List Int):(ys.map V.int).all lL=true:=by
 rw[List.all_map,List.all_eq_true];intro _ _;rfl
theorem w4{cs:fX}{i n:Nat}(hi:i<n):tM (.int (i:Int)) ((nK cs n).map V.int)=(cs.getD i (false,[])).1:=by
 rw[zaC,Bool.eq_iff_iff,decide_eq_true_iff,qH]
 constructor
 . rintro⟨j,_,e,h⟩;rw[Int.ofNat_inj.mp e];exact h
 . intro h;exact⟨i,hi,rfl,h⟩
theorem zel: ∀{xs ys:List Int},xs.Pairwise (·<·)->ys.Pairwise (·<·)->(∀z,z∈xs↔z∈ys)->xs=ys
 | [],[],_,_,_=>rfl
 | [],y::ys,_,_,h=>absurd ((h y).mpr List.mem_cons_self) (by intro z;cases z)
 |x::xs,[],_,_,h=>absurd ((h x).mp List.mem_cons_self) (by intro z;cases z)
 |x::xs,y::ys,hx,hy,h=>by
  obtain⟨a1,a2⟩:=List.pairwise_cons.mp hx;obtain⟨b1,b2⟩:=List.pairwise_cons.mp hy;have e:x=y:=by
   rcases List.mem_cons.mp ((h x).mp List.mem_cons_self)with z|z
   . exact z
   . rcases List.mem_cons.mp ((h y).mpr List.mem_cons_self)with u|u
     . exact u.symm
     . have:=b1 x z;have:=a1 y u;omega
  subst e;rw[zel a2 b2 λz=> ?_]
  constructor
  . intro hz
    rcases List.mem_cons.mp ((h z).mp (List.mem_cons_of_mem _ hz))with u|u
    . have:=a1 z hz;omega
    . exact u
  . intro hz
    rcases List.mem_cons.mp ((h z).mpr (List.mem_cons_of_mem _ hz))with u|u
    . have:=b1 z hz;omega
    . exact u
theorem zkr{gd zs:List Int}(h:Ris gd zs):zs.Pairwise (·<·):=by
 have h1:=h.up
 have h2:=h.nd
 exact List.Pairwise.imp₂ (λa b c d=>by omega) h1 h2
theorem zkO{gd zs:List Int}{cs:fX}{n:Nat}(h:Ris gd zs)(e: ∀x,x∈gd↔x∈nK cs n):zs=nK cs n:=zel (zkr h) (zis cs n) λz=>(h.mem z).trans (e z)
theorem zes{m:Nat}{cs:fX}(T:Wc m cs): ∀r∈wE cs,∀x∈r,0<=x/\x<(wE cs).length:= λr hr x hx=>by
 obtain⟨c,hc,rfl⟩:=List.mem_map.mp hr
 obtain⟨n,hn,rfl⟩:=List.mem_map.mp hx
 have:=(T.row c hc).2 n hn
 rw[iM]
 omega
theorem zjI{m:Nat}{cs:fX}(T:Wc m cs): ∀r∈wE cs,r.length=m:= λr hr=>by
 obtain⟨c,hc,rfl⟩:=List.mem_map.mp hr
 rw[bB,(T.row c hc).1]
abbrev MoS(C:Addr)(H:Hp)(x:Addr)(ls:List Str)(cs:fX):Prop:=uZ C H x ls (wE cs) (nK cs cs.length)
theorem made{Q:Addr->Hp->Prop}{H:Hp}{E:XK}{l D p:Addr}{us:List Addr}{ls:List Str}{cs:fX}{gs:List Int}(hl:H l=some (.lst (ls.map V.str)))(hT:Tb H D us (wE cs) ls.length)(hp:H p=some (.lst (gs.map V.int)))(gl:gs.length<60)(ge: ∀x,x∈gs↔x∈nK cs cs.length)(nd:ls.Nodup)(W:Wc ls.length cs)(l60:ls.length<=60)
 (gT: ∀(x:Addr) (H':Hp),H x=none->MoS C H' x ls cs->Same H H'->Q x H') (x dx:Addr) (hx:H x=none) (hdx:H dx=none) (ndx:dx≠x):yZ C [.ref x,.ref l,.ref D,.ref p] (aN (aN H dx (.own x)) x (.ins C dx [])) (λv H2=>v= .non/\Q x H2) E:=by
 have y8:Same H (aN (aN H dx (.own x)) x (.ins C dx [])):=(aX hdx).trans (aX (by rw[aD (Ne.symm ndx)];exact hx))
 have h8:aN (aN H dx (.own x)) x (.ins C dx []) x=some (.ins C dx []):=aG
 generalize aN (aN H dx (.own x)) x (.ins C dx [])=H8 at y8 h8 ⊢
 refine⟨x,l,D,p,dx,ls,us,wE cs,gs,rfl,h8,y8 _ _ hl,hT.same y8,l60,y8 _ _ hp,gl,nd,zes W,λx hx=>by rw[iM];exact ziN x ((ge x).mp hx),λH9 zs hM hR x9=>⟨rfl,?_⟩⟩
 rw[zkO hR ge]at hM
 exact gT x H9 hx hM λb o e=>x9 b o (aF e hx) (y8 _ _ e)
theorem dA{α β:Type}{F:α->β->Prop}{l:List α}{m:List β}(h:Paired F l m): ∀{i:Nat} {b:β},m[i]?=some b-> ∃a,l[i]?=some a/\F a b:=by
 induction h with
 |nil=>intro i a e;cases e
 |cons r _ ih=>
  intro i a e;cases i with
  |zero=>cases e;exact⟨_,rfl,r⟩
  |succ i=>exact ih e
theorem _root_.L2.FnL.same{name qual:Str}{params:Arguments}{body:List Stmt}{scope:Scope}{fr:List Str}{H H':Hp}{f:Addr}{ds:List (Addr×Obj)}{kE:List V}(h:FnL name qual params body scope fr H f ds kE)(x:Same H H'):FnL name qual params body scope fr H' f ds kE:=by
 obtain⟨c,o,clos,cv,h1,h2,h3,h4,h5,h6,h7,h8,h9,h10⟩:=h
 exact⟨c,o,clos,cv,x _ _ h1,h2,x _ _ h3,h4,h5,h6,h7,λd o e=>x _ _ (h8 d o e),h9,h10⟩
theorem _root_.L2.FnL.fn{name qual:Str}{params:Arguments}{body:List Stmt}{scope:Scope}{fr:List Str}{H:Hp}{f:Addr}{ds:List (Addr×Obj)}{kE:List V}(h:FnL name qual params body scope fr H f ds kE): ∃o,H f=some (oY f o)/\ ∃fd,o.data= .func fd:=by
 obtain⟨c,o,clos,cv,h1,h2,_⟩:=h
 obtain⟨_,_,_,rfl⟩:=h2
 exact⟨_,h1,_,rfl⟩
theorem zgY{H:Hp}{ds:List (Addr×Obj)}(h: ∀d o,ds.lookup d=some o->H d=some (iK d o)):lend (unlend H ds) ds=H:=by
 funext b
 cases e:ds.lookup b with
 |none=>rw[bT e,bL e]
 |some o=>rw[jO e,h b o e]
theorem zbW{H:Hp}{ds:List (Addr×Obj)}(h: ∀d o,ds.lookup d=some o->H d=none):Same H (lend H ds):= λb o e=>by
 cases z:ds.lookup b with
 |none=>rw[bT z];exact e
 |some o'=>rw[h b o' z]at e;cases e
theorem pJ{H H':Hp}{ds:List (Addr×Obj)}(h: ∀d o,ds.lookup d=some o->H d=none)(x:Same (lend H ds) H'):Same H (unlend H' ds):= λb o e=>by
 cases z:ds.lookup b with
 |none=>rw[bL z];exact x b o (by rw[bT z];exact e)
 |some o'=>rw[h b o' z]at e;cases e
theorem mK{H H':Hp}{ds:List (Addr×Obj)}(x:Same (lend H ds) H'): ∀d o,ds.lookup d=some o->H' d=some (iK d o):= λd o e=>x _ _ (jO e)
theorem zbr{H':Hp}{ds:List (Addr×Obj)}(h: ∀d o,ds.lookup d=some o->H' d=some (iK d o)){b:Addr}{u:HO}(e:H' b=some u)(n: ∀φ,u≠ .ext φ):unlend H' ds b=some u:=by
 cases z:ds.lookup b with
 |none=>rw[bL z];exact e
 |some o=>rw[h b o z]at e;cases e;exact absurd rfl (n _)
theorem pM{c:List Nat}{n:Nat}(h:n<c.length):uX ((dG c).map V.int) (n:Int)=some (.int ((c.getD n 0:Nat):Int)):=by
 refine cN ?_
 rw[List.getElem?_map,zdx (List.getElem?_eq_getElem h),getD_at (List.getElem?_eq_getElem h)];rfl
theorem zhy{xs ys:List Nat}(h:dG xs=dG ys):xs=ys:=by
 unfold dG at h
 exact List.map_inj_right (λa b e=>Int.ofNat_inj.mp e) |>.mp h
theorem kK{m:Nat}{cs:fX}{s a:Nat}{r:Bool×List Nat}(h:cs[s]?=some r):(aQ m cs).go s a=r.2.getD a 0:=by
 show(cs.getD s (false,[])).2.getD a 0=_
 rw[KKL.getD_at h]
theorem zbp{H:Hp}{tt:Addr}{us:List Addr}{cs:fX}{m:Nat}(W:Wc m cs)(h3:H tt=some (.tup (us.map V.ref)))(h4:Paired (sG H) us (wE cs)){s a:Nat}(hs:s<cs.length)(ha:a<m): ∃u row,uX (us.map V.ref) (s:Int)=some (.ref u)/\H u=some (.tup ((dG row).map V.int))/\uX ((dG row).map V.int) (a:Int)=some (.int (((aQ m cs).go s a:Nat):Int)):=by
 have e:=List.getElem?_eq_getElem hs
 obtain⟨u,hu,hr⟩:=dA h4 (jL e)
 refine⟨u,cs[s].2,cN (by rw[List.getElem?_map,hu];rfl),hr,?_⟩
 have ha':a<cs[s].2.length:=by rw[(W.row _ (List.getElem_mem hs)).1];exact ha
 rw[kK e,<-pM ha']
section
variable {md:NM}
def iZ(ts:List NK):List (NK×V):=ts.map λt=>(t,V.bl true)
theorem xV(ts:List NK)(t:NK):(dI (iZ ts) t).isSome=decide (t∈ts):=by
 induction ts with
 |nil=>rfl
 |cons a ts ih=>
  unfold iZ at ih ⊢;rw[List.map_cons]
  by_cases e:a=t
  . rw[gE (p:=(a,V.bl true)) e,e,decide_eq_true List.mem_cons_self];rfl
  . rw[fI (p:=(a,V.bl true)) e,ih]
    congr 1
    rw[List.mem_cons,eq_iff_iff];exact⟨.inr,λz=>z.elim (λq=>absurd q.symm e) id⟩
theorem zfi{ts:List NK}{t:NK}(h:t∉ts):gP (iZ ts) t (V.bl true)=iZ (ts++[t]):=by
 have e:dI (iZ ts) t=none:=by
  have:=xV ts t;rw[decide_eq_false h]at this;cases z:dI (iZ ts) t with
  |none=>rfl
  |some _=>rw[z]at this;cases this
 rw[zfU _ e]
 unfold iZ
 rw[List.map_append];rfl
def pG(p:Addr)(H H':Hp):Prop:= ∀b o,b≠p->H b=some o->H' b=some o
theorem pG.trans{p:Addr}{H H1 H2:Hp}(a:pG p H H1)(b:pG p H1 H2):pG p H H2:= λc o n h=>b c o n (a c o n h)
theorem _root_.L2.Same.but{p:Addr}{H H':Hp}(a:Same H H'):pG p H H':= λc o _ h=>a c o h
def zaq(P:Program)(w:World)(md:NM):Sp:= λvs H Q _=> ∃(l d:Addr) (v:V) (t:NK) (ts:List NK),vs=[.ref l,.ref d]/\H l=some (.lst [v])/\dQ H v t/\t.md=md/\ND P w md H d (iZ ts)/\ts.length<=2000/\
 (t∈ts-> ∀D H',Same H H'->H D=none->H' D=some (.lst [])->Q (.ref D) H')/\
 (t∉ts-> ∀D H',pG d H H'->H D=none->H' D=some (.lst [v])->ND P w md H' d (iZ (ts++[t]))->Q (.ref D) H')
theorem wN:bS ["things","seen","fresh","thing"] ["things","seen"] (aH lW):=(.of rfl rfl rfl rfl (by decide+kernel))
theorem zez(F:mR K "fresh_of" "fresh_of" lW f fd):dN P w K mg base gU (k+1) f fd ["things","seen"] (zaq P w md):=by
 refine F.ok wN (λvs H Q E h=> ?_) (λeQ A outer s H vs Q E hr h=> ?_)
 . obtain⟨l,d,v,t,ts,rfl,_⟩:=h;rfl
 obtain⟨l,d,v,t,ts,rfl,hl,hN,hm,hd,ziw,q1,q2⟩:=h
 have nd:=wN.nd
 refine⟨_,(aE (bF (i:=2) nd rfl (Or.inl rfl) (cU aC)) (aE (dL PassesOwn.never rfl (dH (pv 0)) (aJ (i:=3) nd rfl (Or.inl rfl)) (aK (dX (vN (vT (kC hr) (pv 3) (pv 1))) (aE (zhr (kC hr) (pv 1) (pv 3) tD rfl) (aK (dB (hJ PySem.F.plainAttrs_list PySem.F.slot_list_append PySem.F.type_list_append cZ (pv 2) (aB (pv 3) aC))))) bW))) (aK (cE (pv 2))))),?_⟩
 try dsimp only[eV,Cx.nox,Cx.wish]
 refine wH ?_
 intro D0 σ0 U3 U2
 refine⟨dF 0,λD hD=> ?_⟩
 obtain⟨H1,e0,x1,k1⟩:=eJ hD (.lst [])
 rw[e0]
 have hN1:dQ H1 v t:=hN.keep λb xs e=>x1 b _ e
 have hd1:=hd.same x1
 have iP:=x1 _ _ hl
 have lS: ∀ts:List NK,(iZ ts).length=ts.length:= λts=>bH ..
 refine⟨_,rfl,l,rfl,⟨_,aY.of iP⟩,hU (xs:=[v]) (λi σ H'=> ∃v3:Option V,σ=[some (.ref l),some (.ref d),some (.ref D),v3]/\H' l=some (.lst [v])/\((i=0/\H'=H1)\/(i=1/\((t∈ts/\H'=H1)\/(t∉ts/\pG d H H'/\H' D=some (.lst [v])/\ND P w md H' d (iZ (ts++[t]))))))) ?_ ?_ ?_ ?_⟩
 . exact⟨none,rfl,iP,.inl ⟨rfl,rfl⟩⟩
 . rintro i σ H' _ ⟨v3,_,z,_⟩;exact aY.of z
 . rintro i y σ H' hy ⟨v3,rfl,hl',hc⟩;have hi:i=0:=by
    have:=(List.getElem?_eq_some_iff.mp hy).1;rw[List.length_singleton]at this;omega
   subst hi;obtain rfl:v=y:=Option.some.inj hy;have e1:H'=H1:=by
    rcases hc with⟨_,e⟩|⟨z,_⟩
    . exact e
    . omega
   subst e1;refine⟨_,rfl,_,rfl,d,md,_,t,rfl,hd1,hN1,hm,?_⟩;rw[xV]
   by_cases e:t∈ts
   . rw[decide_eq_true e];exact⟨false,rfl,iY ⟨_,rfl,iP,.inr ⟨rfl,.inl ⟨e,rfl⟩⟩⟩⟩
   . rw[decide_eq_false e];refine⟨true,rfl,oZ ?_⟩;refine⟨_,rfl,_,rfl,d,md,_,t,rfl,hd1,hN1,hm,by rw[lS];exact Nat.lt_of_le_of_lt ziw (by decide),λob n2=> ?_⟩;rw[zfi e]at n2;obtain⟨o,ho,nl,nt,_⟩:=hd1.some;have nDd:D≠d:= λz=>by rw[z,ho]at k1;exact nl _ (Option.some.inj k1)
     have nld:l≠d:= λz=>by rw[z,ho]at iP;exact nl _ (Option.some.inj iP)
     have kD:aN H' d ob D=some (.lst []):=by rw[aD nDd];exact k1
     have nlD:l≠D:= λz=>by
      rw[z,k1]at iP;cases iP
     refine⟨_,rfl,.inl ⟨rfl,_,aY.of kD⟩,_,rfl,D,_,_,rfl,rfl,kD,cY (show 0<=1000 by decide),?_⟩;have tk:e9 (aN H' d ob) (aN (aN H' d ob) D (.lst [v])):= λb xs e=>by rw[aD (cK e kD (λz=>nomatch z))];exact e
     refine⟨_,rfl,by rw[aD nlD,aD nld];exact iP,.inr ⟨rfl,.inr ⟨e,λb o nb eb=> ?_,aG,n2.keep tk λo eo=> ?_⟩⟩⟩
     . rw[aD (aF eb hD),aD nb];exact x1 _ _ eb
     . rw[aD (Ne.symm nDd)];exact eo
 . rintro σ H' ⟨v3,rfl,_,hc⟩
   rcases hc with⟨z,_⟩|⟨_,hc⟩
   . cases z
   rcases hc with⟨e,rfl⟩|⟨e,b,kD,n⟩
   . exact⟨_,rfl,q1 e D _ x1 hD k1⟩
   . exact⟨_,rfl,q2 e D _ b hD kD n⟩
def qT(H:Hp)(ls:List Str)(v:V)(c:Option (Nat×Nat)):Prop:=match c with
 |none=>v= .non
 |some (j,a)=> ∃t l,v= .ref t/\H t=some (.tup [.int (j:Int),.str l])/\ls[a]?=some l
theorem qT.keep{H H':Hp}{ls:List Str}{v:V}{c:Option (Nat×Nat)}(h:qT H ls v c)(t:e9 H H'):qT H' ls v c:=by
 cases c with
 |none=>exact h
 |some p=>obtain⟨a,l,e,z,r⟩:=h;exact⟨a,l,e,t _ _ z,r⟩
structure rH(cs:List (Option (Nat×Nat)))(ws:List (List Nat)):Prop where
 len:cs.length=ws.length
 zero: ∀i:Nat,cs[i]?=some none->ws[i]?=some []
 next: ∀i j a:Nat,cs[i]?=some (some (j,a))->j<i/\ ∃u,ws[j]?=some u/\ws[i]?=some (u++[a])
def zbj:Sp:= λvs H Q _=> ∃(c:Addr) (ls:List Str) (us:List V) (cs:List (Option (Nat×Nat))) (ws:List (List Nat)) (i:Nat) (u:List Nat),vs=[.ref c,.int (i:Int)]/\H c=some (.lst us)/\Paired (qT H ls) us cs/\rH cs ws/\ws[i]?=some u/\ws.length<=2000/\
 ∀D H',Same H H'->H D=none->H' D=some (.lst ((u.map λa=>ls.getD a "").map V.str))->Q (.ref D) H'
theorem wO:bS ["came","group","row","letter"] ["came","group"] (aH pU):=(.of rfl rfl rfl rfl (by decide+kernel))
theorem zfX(F:mR K "row_to" "row_to" pU f fd):dN P w K mg base gU (k+1) f fd ["came","group"] zbj:=by
 refine F.ok wO (λvs H Q E h=> ?_) (λeQ A outer s H vs Q E hr h=> ?_)
 . obtain⟨c,ls,us,cs,ws,i,u,rfl,_⟩:=h;rfl
 obtain⟨c,ls,us,cs,ws,i0,u0,rfl,hc,hP,hW,hu,ziw,q⟩:=h
 have nd:=wO.nd
 have lp:=Paired.length hP
 have lw:=hW.len
 refine⟨_,(aE (bF (i:=2) nd rfl (Or.inl rfl) (cU aC)) (aE (xK PassesOwn.never (bQ zbd (bV bO (pv 0) (pv 1) (λ_ _=>rfl)) nY (cL _)) (aE (iX (bV bO (pv 0) (pv 1) (λ_ _=>rfl)) (fG rfl (aZ (aJ (i:=1) nd rfl (Or.inl rfl)) (aZ (aJ (i:=3) nd rfl (Or.inl rfl)) eF)))) (aK (dB (hJ PySem.F.plainAttrs_list PySem.F.slot_list_append PySem.F.type_list_append cZ (pv 2) (aB (pv 3) aC)))))) (aK (cE (zjN (pv 2) (by exact pK)))))),?_⟩
 try dsimp only[eV,Cx.nox,Cx.wish]
 refine wH ?_
 intro D0 σ0 U3 U2
 refine⟨dF 0,λD hD=> ?_⟩
 obtain⟨H1,e0,x1,k1⟩:=eJ hD (.lst [])
 rw[e0]
 refine⟨λmm σ H'=> ∃(i:Nat) (u r:List Nat) (v3:Option V),mm=i/\σ=[some (.ref c),some (.int (i:Int)),some (.ref D),v3]/\Same H H'/\ws[i]?=some u/\u++r.reverse=u0/\r.length+i<=2000/\H' D=some (.lst ((r.map λa=>ls.getD a "").map V.str)),⟨i0,i0,u0,[],none,rfl,rfl,x1,hu,by simp,by have:=(List.getElem?_eq_some_iff.mp hu).1;simp;omega,k1⟩,?_⟩
 rintro i σ H2 ⟨_,u,r,v3,rfl,rfl,y2,hi,hur,hrl,lP⟩
 have eO:i<cs.length:=by have:=(List.getElem?_eq_some_iff.mp hi).1;omega
 have ec:=List.getElem?_eq_getElem eO
 obtain⟨v,hv,hV⟩:=dA hP ec
 have hV2:qT H2 ls v cs[i]:=hV.keep λb xs e=>y2 _ _ e
 generalize cs[i]=ci at ec hV hV2
 refine⟨_,rfl,_,rfl,c,_,_,_,rfl,rfl,aY.of (y2 _ _ hc),cN hv,rfl,?_⟩
 cases ci with
 |none=>
  obtain rfl:v= .non:=hV;refine⟨false,congrArg V.bl (by rw[decide_eq_true rfl];rfl),iY ?_⟩;have eu:u=[]:=Option.some.inj (hi.symm.trans (hW.zero i ec));subst eu;rw[List.nil_append]at hur;refine⟨_,rfl,D,_,rfl,aY.of lP,λp hp=> ?_⟩;refine q p _ (y2.trans (aX hp)) (y2.free hp) ?_;rw[aG,<-List.map_reverse,<-List.map_reverse,hur]
 |some p=>
  obtain⟨j,a⟩:=p;obtain⟨t,l,rfl,ht,hl⟩:=hV2;refine⟨true,rfl,oZ ?_⟩;obtain⟨hj,u',qA,eu⟩:=hW.next i j a ec;obtain rfl:u=u'++[a]:=Option.some.inj (hi.symm.trans eu);refine⟨λσ' H'=> ∃v3:Option V,σ'=[some (.ref c),some (.int (j:Int)),some (.ref D),v3]/\Same H H'/\H' D=some (.lst (((r++[a]).map λa=>ls.getD a "").map V.str)),?_,?_⟩
  . rintro σ' H' ⟨v3',rfl,z1,z2⟩;exact⟨j,hj,j,u',r++[a],v3',rfl,rfl,z1,qA,by rw[List.reverse_append,<-hur,List.append_assoc];rfl,by rw[List.length_append,List.length_singleton];omega,z2⟩
  refine⟨_,rfl,_,rfl,c,_,_,_,rfl,rfl,aY.of (y2 _ _ hc),cN hv,t,_,rfl,fR.of ht,rfl,_,_,rfl,_,_,rfl,rfl,?_⟩;refine⟨_,rfl,.inl ⟨rfl,_,aY.of lP⟩,_,rfl,D,_,_,rfl,rfl,lP,by rw[bH,bH];exact Nat.lt_of_le_of_lt (show r.length<=2000 by omega) (by decide),?_⟩;refine⟨_,rfl,y2.at hD,?_⟩;rw[aG,List.map_append,List.map_append]
  congr 3
  show [V.str l]=[V.str (ls.getD a "")]
  rw[KKL.getD_at hl]
end
section
variable {nG qG nI qI:Str}{paG paI:Arguments}{bG bI:List Stmt}{scG scI:Scope}{psG frG psI frI:List Str}{spG spI:List V->Sp}{md:NM}
structure kR(spG spI:List V->Sp)(md:NM)(H:Hp)(ds:List (Addr×Obj))(yY yL:List V)(m:Nat)(st:NK)(go:NK->Nat->NK)(fn:NK->Bool)(S:NK->Prop):Prop where
 st:S st
 cl: ∀t a,S t->a<m->S (go t a)
 md: ∀t,S t->t.md=md
 few: ∀ts:List NK,ts.Nodup->(∀t∈ts,S t)->ts.length<=600
 goes: ∀(H':Hp) (v:V) (t:NK) (a:Nat) (Q:VK),Same H H'->dQ H' v t->S t->a<m->(∀l v' H'',Same H' H''->H' l=none->H'' l=some (.lst [v'])->dQ H'' v' (go t a)->Q (.ref l) H'')->spG yY [v,.int (a:Int)] (unlend H' ds) (zdB ds Q) E0
 fnd: ∀(H':Hp) (v:V) (t:NK) (Q:VK),Same H H'->dQ H' v t->S t->(∀H'',Same H' H''->Q (.bl (fn t)) H'')->spI yL [v] (unlend H' ds) (ziL ds Q) E0
theorem kR.same{H H':Hp}{ds:List (Addr×Obj)}{yY yL:List V}{m:Nat}{st:NK}{go:NK->Nat->NK}{fn:NK->Bool}{S:NK->Prop}(T:kR spG spI md H ds yY yL m st go fn S)(x:Same H H'):kR spG spI md H' ds yY yL m st go fn S:=
 ⟨T.st,T.cl,T.md,T.few,λH2 v t a Q y=>T.goes H2 v t a Q (x.trans y),λH2 v t Q y=>T.fnd H2 v t Q (x.trans y)⟩
theorem zlS{D p fi:Addr}{Q:VK}{H1:Hp}{v0:V}{t:NK}{ds:List (Addr×Obj)}{yY yL:List V}{m:Nat}{st:NK}{go:NK->Nat->NK}{fn:NK->Bool}{S:NK->Prop}(hD:H1 D=none)(hp:H1 p=some (.lst [v0]))(hN:dQ H1 v0 t)(hS:S t)(T:kR spG spI md H1 ds yY yL m st go fn S)(hf:FnL nI qI paI bI scI frI H1 fi ds yL)
 (gT: ∀H',Same H1 H'->H' D=some (.lst [.bl (fn t)])->Q (.ref D) H'):
 bJ (zZ K p) D (bD 0) dJ (i8 1 nI qI paI bI scI frI spI E0 (aP (aL 0) cG)) Q [none,some (.ref fi)] H1:=by
 refine fP (xs:=[v0]) (λi ys σ H=> ∃v:Option V,ys=([V.bl (fn t)].take i)/\σ=[v,some (.ref fi)]/\Same H1 H) ?_ (by show 1<=100000;decide) ?_ ?_ ?_ ?_
 . exact⟨none,rfl,rfl,aX hD⟩
 . rintro i ys σ H ⟨v,rfl,_⟩;rw[List.length_take];exact Nat.min_le_left _ _
 . rintro i ys σ H ⟨v,_,_,x⟩;exact aY.of (x _ _ hp)
 . rintro i y ys σ H hy bZ ⟨v,rfl,rfl,x⟩;have hi:i=0:=by
    have:=(List.getElem?_eq_some_iff.mp hy).1;rw[List.length_singleton]at this;omega
   subst hi;obtain rfl:v0=y:=Option.some.inj hy;obtain⟨o,ho,hfd⟩:=(hf.same x).fn;have hN':dQ H v0 t:=hN.keep λb xs e=>x b _ e;refine⟨fi,o,rfl,ho,hfd,_,rfl,ds,yL,hf.same x,?_⟩;refine T.fnd H v0 t _ x hN' hS ?_;intro H2 x2;exact⟨x2 _ _ bZ,_,rfl,rfl,(x.trans x2).at hD⟩
 . rintro ys σ H bZ ⟨v,rfl,_,x⟩;exact gT H x bZ
theorem zpn{D p fg:Addr}{Q:Hp->Prop}{H1:Hp}{v0:V}{t:NK}{a:Nat}{ds:List (Addr×Obj)}{yY yL:List V}{m:Nat}{st:NK}{go:NK->Nat->NK}{fn:NK->Bool}{S:NK->Prop}(hD:H1 D=none)(hp:H1 p=some (.lst [v0]))(hN:dQ H1 v0 t)(hS:S t)(ha:a<m)(T:kR spG spI md H1 ds yY yL m st go fn S)(hf:FnL nG qG paG bG scG frG H1 fg ds yY)
 (gT: ∀H' v',Same H1 H'->H' D=some (.lst [v'])->dQ H' v' (go t a)->Q H'):
 uC (zZ K p) (bD 0) dJ (zdJ (xO K (r9 2 nG qG paG bG scG frG spG E0 (aP (aL 0) (aP (aL 3) cG)))) (bD 1) dJ (zaV D (aL 1))) (λ_ H'=>Q H') [none,none,some (.ref fg),some (.int (a:Int))] (aN H1 D (.lst [])):=by
 refine sU (xs:=[v0]) (λi σ H=> ∃v v1:Option V,σ=[v,v1,some (.ref fg),some (.int (a:Int))]/\Same H1 H/\((i=0/\H D=some (.lst []))\/(i=1/\ ∃v',H D=some (.lst [v'])/\dQ H v' (go t a)))) ?_ ?_ ?_ ?_
 . exact⟨none,none,rfl,aX hD,.inl ⟨rfl,aG⟩⟩
 . rintro i σ H _ ⟨v,v1,_,x,_⟩;exact aY.of (x _ _ hp)
 . rintro i y σ H hy ⟨v,v1,rfl,x,hc⟩;have hi:i=0:=by
    have:=(List.getElem?_eq_some_iff.mp hy).1;rw[List.length_singleton]at this;omega
   subst hi;obtain rfl:v0=y:=Option.some.inj hy;have hD0:H D=some (.lst []):=by
    rcases hc with⟨_,e⟩|⟨z,_⟩
    . exact e
    . omega
   obtain⟨o,ho,hfd⟩:=(hf.same x).fn;have hN':dQ H v0 t:=hN.keep λb xs e=>x b _ e;refine⟨fg,o,rfl,ho,hfd,_,rfl,_,rfl,ds,yY,hf.same x,?_⟩;refine T.goes H v0 t a _ x hN' hS ha ?_;intro l v' H2 x2 l0 hl hk;have nDl:D≠l:=aF hD0 l0;refine⟨l,rfl,⟨_,aY.of hl⟩,?_⟩;have x02:=x.trans x2;refine sU (xs:=[v']) (λi σ H'=> ∃v1:Option V,σ=[some v0,v1,some (.ref fg),some (.int (a:Int))]/\H' l=some (.lst [v'])/\((i=0/\H'=H2)\/(i=1/\H'=aN H2 D (.lst [v'])))) ?_ ?_ ?_ ?_
   . exact⟨v1,rfl,hl,.inl ⟨rfl,rfl⟩⟩
   . rintro i σ H' _ ⟨_,_,z,_⟩;exact aY.of z
   . rintro i y σ H' hy ⟨v1,rfl,hl',hc⟩;have hi:i=0:=by
      have:=(List.getElem?_eq_some_iff.mp hy).1;rw[List.length_singleton]at this;omega
     subst hi;obtain rfl:v'=y:=Option.some.inj hy;have e1:H'=H2:=by
      rcases hc with⟨_,e⟩|⟨z,_⟩
      . exact e
      . omega
     subst e1;exact⟨_,rfl,_,x2 _ _ hD0,cY (show 0<=1000 by decide),_,rfl,by rw[aD (Ne.symm nDl)];exact hl,.inr ⟨rfl,rfl⟩⟩
   . rintro σ H' ⟨v1,rfl,_,hc⟩;have e1:H'=aN H2 D (.lst [v']):=by
      rcases hc with⟨z,_⟩|⟨_,e⟩
      . cases z
      . exact e
     subst e1;refine⟨_,_,rfl,x02.at hD,.inr ⟨rfl,v',aG,hk.keep λb xs e=> ?_⟩⟩;rw[aD (cK e (x2 _ _ hD0) (λz=>nomatch z))];exact e
 . rintro σ H ⟨v,v1,rfl,x,hc⟩
   rcases hc with⟨z,_⟩|⟨_,v',h1,h2⟩
   . cases z
   . exact gT H v' x h1 h2
end
end KK
namespace KKL
def cdR(m:Nat):List Nat->Nat
 | []=>0
 |a::r=>cdR m r * m+a+1
def hX(m:Nat)(w:List Nat):Nat:=cdR m w.reverse
def Vw(m:Nat)(w:List Nat):Prop:= ∀a∈w,a<m
theorem Vw.nil(m:Nat):Vw m []:= λ_ z=>by cases z
theorem Vw.snoc{m a:Nat}{w:List Nat}(h:Vw m w)(ha:a<m):Vw m (w++[a]):= λb hb=>(List.mem_append.mp hb).elim (h b) λz=>by rw[List.mem_singleton.mp z];exact ha
theorem Vw.ini{m a:Nat}{w:List Nat}(h:Vw m (w++[a])):Vw m w/\a<m:=⟨λb hb=>h b (List.mem_append_left _ hb),h a (List.mem_append_right _ List.mem_cons_self)⟩
theorem Vw.cons{m a:Nat}{w:List Nat}(ha:a<m)(h:Vw m w):Vw m (a::w):= λb hb=>(List.mem_cons.mp hb).elim (λz=>z▸ha) (h b)
theorem Vw.tail{m a:Nat}{w:List Nat}(h:Vw m (a::w)):a<m/\Vw m w:=⟨h a List.mem_cons_self,λb hb=>h b (List.mem_cons_of_mem _ hb)⟩
theorem eT(m a:Nat)(w:List Nat):hX m (w++[a])=hX m w * m+a+1:=by
 unfold hX
 rw[List.reverse_append];rfl
theorem zaE{m:Nat}: ∀{u v:List Nat},Vw m u->Vw m v->cdR m u=cdR m v->u=v
 | [],[],_,_,_=>rfl
 | [],b::v,_,_,h=>by unfold cdR at h;omega
 |a::u,[],_,_,h=>by unfold cdR at h;omega
 |a::u,b::v,hu,hv,h=>by
  obtain⟨ha,qA⟩:=hu.tail;obtain⟨hb,sO⟩:=hv.tail;have h:cdR m u * m+a=cdR m v * m+b:=Nat.succ.inj h;have e1:a=b:=by
   have:=congrArg (· % m) h;simpa [Nat.mul_add_mod,Nat.mul_comm,Nat.mod_eq_of_lt ha,Nat.mod_eq_of_lt hb]using this
  subst e1;have e2:cdR m u=cdR m v:=Nat.eq_of_mul_eq_mul_right (Nat.lt_of_le_of_lt (Nat.zero_le a) ha) (Nat.add_right_cancel h);rw[zaE qA sO e2]
theorem zlt{m:Nat}{u v:List Nat}(hu:Vw m u)(hv:Vw m v)(h:hX m u=hX m v):u=v:=by
 have:=zaE (u:=u.reverse) (v:=v.reverse) (λa ha=>hu a (List.mem_reverse.mp ha)) (λa ha=>hv a (List.mem_reverse.mp ha)) h
 exact List.reverse_inj.mp this
theorem pP{p:List Nat->Prop}(h0:p [])(hs: ∀w a,p w->p (w++[a])): ∀w,p w:=by
 intro w
 suffices q: ∀r:List Nat,p r.reverse by
  have:=q w.reverse
  rwa [List.reverse_reverse]at this
 intro r
 induction r with
 |nil=>exact h0
 |cons a r ih=>
  rw[List.reverse_cons];exact hs _ a ih
def Sn(m:Nat):Nat->Nat
 |0=>0
 |k+1=>Sn m k * m+1
theorem uG(m:Nat): ∀k,Sn m k * m+1=m^k+Sn m k
 |0=>by simp[Sn]
 |k+1=>by
  show(Sn m k * m+1) * m+1=m^(k+1)+(Sn m k * m+1)
  rw[uG m k,Nat.add_mul,Nat.pow_succ,Nat.add_assoc]
  congr 1
  have:=uG m k;omega
theorem uW{m:Nat}: ∀w,Vw m w->Sn m w.length<=hX m w/\hX m w<=Sn m w.length * m:=by
 refine pP (λ_=>⟨Nat.le_refl _,Nat.zero_le _⟩) λw a ih hv=> ?_
 obtain⟨hw,ha⟩:=hv.ini
 obtain⟨h1,h2⟩:=ih hw
 rw[List.length_append,eT]
 show Sn m w.length * m+1<=_/\_<=(Sn m w.length * m+1) * m
 have h3:Sn m w.length * m<=hX m w * m:=Nat.mul_le_mul_right m h1
 have h4:hX m w * m<=Sn m w.length * m * m:=Nat.mul_le_mul_right m h2
 rw[Nat.add_mul]
 omega
theorem qK{m:Nat}{u v:List Nat}(hu:Vw m u)(hv:Vw m v)(h:u.length<v.length):hX m u<hX m v:=by
 obtain⟨_,h2⟩:=uW u hu
 obtain⟨h3,_⟩:=uW v hv
 have: ∀k,Sn m (u.length+1)<=Sn m (u.length+1+k):=by
  intro k
  induction k with
  |zero=>exact Nat.le_refl _
  |succ k ih=>
   refine Nat.le_trans ih ?_;show _<=Sn m (u.length+1+k) * m+1;have:=uG m (u.length+1+k);omega
 have h4:=this (v.length - (u.length+1))
 rw[show u.length+1+(v.length - (u.length+1))=v.length by omega]at h4
 have h5:Sn m (u.length+1)=Sn m u.length * m+1:=rfl
 omega
theorem pE(m a:Nat): ∀w,hX m (a::w)=(a+1) * m^w.length+hX m w:=by
 refine pP ?_ λw b ih=> ?_
 . show 0 * m+a+1=(a+1) * m^0+0
   simp
 . rw[<-List.cons_append,eT,eT,ih,List.length_append];show((a+1) * m^w.length+hX m w) * m+b+1=(a+1) * m^(w.length+1)+(hX m w * m+b+1);rw[Nat.add_mul,Nat.pow_succ,Nat.mul_assoc];omega
theorem zgU{m a b:Nat}{u v:List Nat}(hu:Vw m u)(hv:Vw m v)(e:u.length=v.length)(h:a<b):hX m (a::u)<hX m (b::v):=by
 rw[pE,pE,e]
 obtain⟨_,h2⟩:=uW u hu
 obtain⟨h3,_⟩:=uW v hv
 rw[e]at h2
 have h4:=uG m v.length
 have h5:(a+1+1) * m^v.length<=(b+1) * m^v.length:=Nat.mul_le_mul_right _ (by omega)
 rw[Nat.add_mul (a+1) 1,Nat.one_mul]at h5
 omega
theorem zhe{m a:Nat}{u v:List Nat}(e:u.length=v.length):hX m (a::u)<=hX m (a::v)↔hX m u<=hX m v:=by
 rw[pE,pE,e]
 omega
structure SL(m:Nat)(p:List Nat->Prop)(w:List Nat):Prop where
 vw:Vw m w
 is:p w
 le: ∀v,Vw m v->p v->hX m w<=hX m v
theorem SL.one{m:Nat}{p:List Nat->Prop}{u v:List Nat}(h:SL m p u)(g:SL m p v):u=v:=zlt h.vw g.vw (Nat.le_antisymm (h.le v g.vw g.is) (g.le u h.vw h.is))
section
variable {α:Type}(go:α->Nat->α)(fd:α->Bool)(m:Nat)
def dD(s:α)(w:List Nat):α:=w.foldl go s
def Fr:Nat->α->Prop
 |0,s=>fd s=false
 |k+1,s=>fd s=false/\ ∀a,a<m->Fr k (go s a)
def fD(k:Nat)(s:α):Prop:=(∀j,j<k->Fr go fd m j s)/\ ¬Fr go fd m k s
end
section
variable {α:Type}{go:α->Nat->α}{fd:α->Bool}{m:Nat}
theorem Fr.base{k:Nat}{s:α}(h:Fr go fd m k s):fd s=false:=by
 cases k with
 |zero=>exact h
 |succ k=>exact h.1
theorem Fr.word: ∀{k:Nat} {s:α},Fr go fd m k s↔ ∀w,Vw m w->w.length<=k->fd (dD go s w)=false
 |0,s=>by
  constructor
  . intro h w _ hl;rw[List.eq_nil_of_length_eq_zero (Nat.le_zero.mp hl)];exact h
  . intro h;exact h [] (Vw.nil m) (Nat.le_refl _)
 |k+1,s=>by
  constructor
  . rintro⟨h1,h2⟩ w hw hl;cases w with
    |nil=>exact h1
    |cons a w=>
     obtain⟨ha,hw⟩:=hw.tail;exact Fr.word.mp (h2 a ha) w hw (Nat.le_of_succ_le_succ hl)
  . intro h;refine⟨h [] (Vw.nil m) (Nat.zero_le _),λa ha=>Fr.word.mpr λw hw hl=>h (a::w) (Vw.cons ha hw) (Nat.succ_le_succ hl)⟩
theorem Fr.down{k j:Nat}{s:α}(h:Fr go fd m k s)(e:j<=k):Fr go fd m j s:=Fr.word.mpr λw hw hl=>Fr.word.mp h w hw (Nat.le_trans hl e)
theorem fD.one{k j:Nat}{s:α}(h:fD go fd m k s)(g:fD go fd m j s):k=j:=by
 rcases Nat.lt_trichotomy k j with z|z|z
 . exact absurd (g.1 k z) h.2
 . exact z
 . exact absurd (h.1 j z) g.2
theorem zbn{k:Nat}{s:α}(h: ¬Fr go fd m k s): ∃j,j<=k/\fD go fd m j s:=by
 induction k with
 |zero=>exact⟨0,Nat.le_refl _,λj hj=>by omega,h⟩
 |succ k ih=>
  by_cases e:Fr go fd m k s
  . exact⟨k+1,Nat.le_refl _,λj hj=>e.down (by omega),h⟩
  . obtain⟨j,h1,h2⟩:=ih e;exact⟨j,by omega,h2⟩
theorem nB{s:α}:fD go fd m 0 s↔fd s=true:=by
 constructor
 . rintro⟨_,h⟩;cases e:fd s with
   |true=>rfl
   |false=>exact absurd e h
 . intro h;exact⟨λj hj=>by omega,λz=>by rw[show fd s=false from z]at h;cases h⟩
theorem fD.step{k:Nat}{s:α}(h:fD go fd m (k+1) s):(∃a,a<m/\fD go fd m k (go s a))/\ ∀a j,a<m->fD go fd m j (go s a)->k<=j:=by
 have far: ∀a j,a<m->j<k->Fr go fd m j (go s a):= λa j ha hj=>(h.1 (j+1) (by omega)).2 a ha
 constructor
 . by_cases q: ∃a,a<m/\fD go fd m k (go s a)
   . exact q
   . exfalso
     refine h.2 ⟨(h.1 0 (by omega)).base,λa ha=> ?_⟩
     by_cases e:Fr go fd m k (go s a)
     . exact e
     . exact absurd ⟨a,ha,λj hj=>far a j ha hj,e⟩ q
 . intro a j ha hd
   rcases Nat.lt_or_ge j k with z|z
   . exact absurd (far a j ha z) hd.2
   . exact z
theorem fD.up{k:Nat}{s:α}(h0: ∀j,j<k+1->Fr go fd m j s){a:Nat}(ha:a<m)(h:fD go fd m k (go s a)):fD go fd m (k+1) s:=⟨h0,λz=>h.2 (z.2 a ha)⟩
def Fd(go:α->Nat->α)(fd:α->Bool)(s:α)(w:List Nat):Prop:=fd (dD go s w)=true
theorem SL.len{s:α}{w:List Nat}{k:Nat}(h:SL m (Fd go fd s) w)(d:fD go fd m k s):w.length=k:=by
 obtain⟨v,hv,hl,hf⟩: ∃v,Vw m v/\v.length<=k/\Fd go fd s v:=by
  by_cases q: ∃v,Vw m v/\v.length<=k/\Fd go fd s v
  . exact q
  . refine absurd (Fr.word.mpr λv hv hl=> ?_) d.2;cases e:fd (dD go s v)with
    |false=>rfl
    |true=>exact absurd ⟨v,hv,hl,e⟩ q
 have h1:w.length<=k:=by
  rcases Nat.lt_or_ge v.length w.length with z|z
  . have:=qK hv h.vw z;have:=h.le v hv hf;omega
  . omega
 rcases Nat.lt_or_ge w.length k with z|z
 . have:=Fr.word.mp (d.1 w.length z) w h.vw (Nat.le_refl _);rw[show fd (dD go s w)=true from h.is]at this;cases this
 . omega
theorem xN{s:α}(h:fD go fd m 0 s):SL m (Fd go fd s) []:=⟨Vw.nil m,nB.mp h,λ_ _ _=>Nat.zero_le _⟩
theorem yB{s:α}{k a:Nat}{w:List Nat}(h:fD go fd m (k+1) s)(ha:a<m)(hk:fD go fd m k (go s a))(hf: ∀b,b<a-> ¬fD go fd m k (go s b))(hw:SL m (Fd go fd (go s a)) w):SL m (Fd go fd s) (a::w):=by
 have lw:=hw.len hk
 refine⟨Vw.cons ha hw.vw,hw.is,λv hv pv=> ?_⟩
 cases v with
 |nil=>
  have:=(h.1 0 (by omega)).base;rw[show fd s=true from pv]at this;cases this
 |cons b v=>
  obtain⟨hb,sO⟩:=hv.tail;clear hv;have pv:Fd go fd (go s b) v:=pv
  rcases Nat.lt_trichotomy v.length w.length with z|z|z
  . have:=Fr.word.mp ((h.1 (v.length+1) (by omega)).2 b hb) v sO (Nat.le_refl _);rw[show fd (dD go (go s b) v)=true from pv]at this;cases this
  . rcases Nat.lt_trichotomy a b with y|y|y
    . exact Nat.le_of_lt (zgU hw.vw sO z.symm y)
    . subst y;exact(zhe z.symm).mpr (hw.le v sO pv)
    . refine absurd ⟨λj hj=>(h.1 (j+1) (by omega)).2 b hb,λz'=> ?_⟩ (hf b y);have:=Fr.word.mp z' v sO (by omega);rw[show fd (dD go (go s b) v)=true from pv]at this;cases this
  . exact Nat.le_of_lt (qK (Vw.cons ha hw.vw) (Vw.cons hb sO) (by simpa using z))
theorem nV(s:α)(a:Nat)(w:List Nat):dD go s (w++[a])=go (dD go s w) a:=by
 unfold dD
 rw[List.foldl_append];rfl
structure Bf(go:α->Nat->α)(m:Nat)(st:α)(ts:List α)(ws:List (List Nat))(dM at':Nat):Prop where
 len:ws.length=ts.length
 row: ∀(j:Nat) (w:List Nat) (t:α),ws[j]?=some w->ts[j]?=some t->Vw m w/\dD go st w=t
 zero:ws[0]?=some []
 up: ∀(i j:Nat) (u v:List Nat),i<j->ws[i]?=some u->ws[j]?=some v->hX m u<hX m v
 last: ∀w∈ws,∀u:List Nat,ws[dM]?=some u->hX m w<hX m u * m+at'+1
 done: ∀(i a:Nat) (t:α) (u:List Nat),(i<dM\/i=dM/\a<at')->a<m->ts[i]?=some t->ws[i]?=some u-> ∃(j:Nat) (v:List Nat),ts[j]?=some (go t a)/\ws[j]?=some v/\hX m v<=hX m u * m+a+1
theorem Bf.start(st:α):Bf go m st [st] [[]] 0 0:=by
 refine⟨rfl,λj w t h1 h2=> ?_,rfl,λi j u v hij h1 h2=> ?_,λw hw u hu=> ?_,λi a t u h=>by omega⟩
 . cases j with
   |zero=>cases h1;cases h2;exact⟨Vw.nil m,rfl⟩
   |succ j=>cases h1
 . cases j with
   |zero=>omega
   |succ j=>cases h2
 . rw[List.mem_singleton.mp hw];show 0<_;omega
theorem Bf.old{st:α}{ts:List α}{ws:List (List Nat)}{dM a:Nat}{t:α}(h:Bf go m st ts ws dM a)(ht:ts[dM]?=some t)(hin:go t a∈ts):Bf go m st ts ws dM (a+1):=by
 refine⟨h.len,h.row,h.zero,h.up,λw hw u hu=>Nat.lt_succ_of_lt (h.last w hw u hu),λi b t' u hi hb e1 e2=> ?_⟩
 by_cases q:i<dM\/i=dM/\b<a
 . exact h.done i b t' u q hb e1 e2
 . obtain⟨rfl,rfl⟩:i=dM/\b=a:=by omega
   rw[ht]at e1;cases e1;obtain⟨j,hj⟩:=List.getElem?_of_mem hin;have hl:=(List.getElem?_eq_some_iff.mp hj).1;have ev:=List.getElem?_eq_getElem (l:=ws) (i:=j) (by rw[h.len];exact hl);exact⟨j,_,hj,ev,Nat.le_of_lt (h.last _ (List.getElem_mem _) u e2)⟩
theorem Bf.new{st:α}{ts:List α}{ws:List (List Nat)}{dM a:Nat}{t:α}{u:List Nat}(h:Bf go m st ts ws dM a)(ha:a<m)(ht:ts[dM]?=some t)(hu:ws[dM]?=some u):Bf go m st (ts++[go t a]) (ws++[u++[a]]) dM (a+1):=by
 have hl:=(List.getElem?_eq_some_iff.mp ht).1
 have lw:=h.len
 have pre: ∀{j:Nat} {w:List Nat},ws[j]?=some w->(ws++[u++[a]])[j]?=some w:= λe=>by rw[List.getElem?_append_left (List.getElem?_eq_some_iff.mp e).1];exact e
 have ztu: ∀{j:Nat} {x:α},ts[j]?=some x->(ts++[go t a])[j]?=some x:= λe=>by rw[List.getElem?_append_left (List.getElem?_eq_some_iff.mp e).1];exact e
 have at': ∀{j:Nat} {w:List Nat},(ws++[u++[a]])[j]?=some w->ws[j]?=some w\/j=ws.length/\w=u++[a]:= λ{j w} e=>by
  rcases Nat.lt_or_ge j ws.length with z|z
  . rw[List.getElem?_append_left z]at e;exact .inl e
  . rw[List.getElem?_append_right z]at e;cases q:j - ws.length with
    |zero=>rw[q]at e;cases e;exact .inr ⟨by omega,rfl⟩
    |succ n=>rw[q]at e;cases e
 have at2: ∀{j:Nat} {x:α},j<ts.length->(ts++[go t a])[j]?=some x->ts[j]?=some x:= λz e=>by rwa [List.getElem?_append_left z]at e
 obtain⟨vu,ru⟩:=h.row dM u t hu ht
 refine⟨by rw[List.length_append,List.length_append,lw];rfl,λj w x e1 e2=> ?_,pre h.zero,λi j v w hij e1 e2=> ?_,λw hw v hv=> ?_,λi b t' v hi hb e1 e2=> ?_⟩
 . rcases at' e1 with z|⟨rfl,rfl⟩
   . exact h.row j w x z (at2 (by have:=(List.getElem?_eq_some_iff.mp z).1;omega) e2)
   . rw[lw,List.getElem?_append_right (Nat.le_refl _),Nat.sub_self]at e2;cases e2;exact⟨vu.snoc ha,by rw[nV,ru]⟩
 . rcases at' e2 with z|⟨rfl,rfl⟩
   . rcases at' e1 with y|⟨rfl,_⟩
     . exact h.up i j v w hij y z
     . have:=(List.getElem?_eq_some_iff.mp z).1;omega
   . rcases at' e1 with y|⟨rfl,_⟩
     . rw[eT];exact h.last v (List.mem_of_getElem? y) u hu
     . omega
 . have ev:ws[dM]?=some v:=(at' hv).elim id λz=>by have:=z.1;omega
   rw[hu]at ev;cases ev
   rcases List.mem_append.mp hw with z|z
   . exact Nat.lt_succ_of_lt (h.last w z u hu)
   . rw[List.mem_singleton.mp z,eT];omega
 . have eO:i<ts.length:=by omega
   have e1':=at2 eO e1;have e2':ws[i]?=some v:=(at' e2).elim id λz=>by have:=z.1;omega
   by_cases q:i<dM\/i=dM/\b<a
   . obtain⟨j,w,f1,f2,f3⟩:=h.done i b t' v q hb e1' e2';exact⟨j,w,ztu f1,pre f2,f3⟩
   . obtain⟨rfl,rfl⟩:i=dM/\b=a:=by omega
     rw[ht]at e1';rw[hu]at e2';cases e1';cases e2';refine⟨ts.length,u++[b],?_,?_,Nat.le_of_eq (eT ..)⟩
     . rw[List.getElem?_append_right (Nat.le_refl _),Nat.sub_self];rfl
     . rw[<-lw,List.getElem?_append_right (Nat.le_refl _),Nat.sub_self];rfl
theorem Bf.next{st:α}{ts:List α}{ws:List (List Nat)}{dM:Nat}(h:Bf go m st ts ws dM m)(hn:dM<ws.length):Bf go m st ts ws (dM+1) 0:=by
 have eu:=List.getElem?_eq_getElem hn
 refine⟨h.len,h.row,h.zero,h.up,λw hw u hu=> ?_,λi a t u hi ha e1 e2=>h.done i a t u (by omega) ha e1 e2⟩
 have h1:=h.last w hw _ eu
 have h2:=h.up dM (dM+1) _ _ (Nat.lt_succ_self _) eu hu
 have h3:(hX m ws[dM]+1) * m<=hX m u * m:=Nat.mul_le_mul_right m h2
 rw[Nat.add_mul,Nat.one_mul]at h3
 omega
theorem Bf.before{st:α}{ts:List α}{ws:List (List Nat)}{dM:Nat}(h:Bf go m st ts ws dM 0)(B:Nat)(hB: ∀(j:Nat) (v:List Nat),ws[j]?=some v->hX m v<B->j<dM): ∀w,Vw m w->hX m w<B-> ∃(j:Nat) (t:α) (u:List Nat),j<dM/\ts[j]?=some t/\ws[j]?=some u/\dD go st w=t/\hX m u<=hX m w:=by
 refine pP (λ_ h0=> ?_) λw a ih hv eO=> ?_
 . have hz:(0:Nat)<ts.length:=by have:=(List.getElem?_eq_some_iff.mp h.zero).1;rw[h.len]at this;exact this
   have et:=List.getElem?_eq_getElem hz;exact⟨0,_,_,hB 0 [] h.zero h0,et,h.zero,(h.row 0 [] _ h.zero et).2,Nat.le_refl _⟩
 . obtain⟨hw,ha⟩:=hv.ini;rw[eT]at eO;have hm:1<=m:=by omega
   have h1:hX m w * 1<=hX m w * m:=Nat.mul_le_mul_left _ hm;obtain⟨j,t,u,hj,et,eu,er,hc⟩:=ih hw (by omega);obtain⟨j',v,e1,e2,e3⟩:=h.done j a t u (.inl hj) ha et eu;have h2:hX m u * m<=hX m w * m:=Nat.mul_le_mul_right m hc;refine⟨j',_,v,hB j' v e2 (by omega),e1,e2,by rw[nV,er],by rw[eT];omega⟩
theorem Bf.found{st:α}{ts:List α}{ws:List (List Nat)}{dM:Nat}{t:α}{u:List Nat}(h:Bf go m st ts ws dM 0)(ht:ts[dM]?=some t)(hu:ws[dM]?=some u)(hf:fd t=true)(hn: ∀(j:Nat) (s:α),j<dM->ts[j]?=some s->fd s=false):SL m (Fd go fd st) u:=by
 obtain⟨vu,ru⟩:=h.row dM u t hu ht
 refine⟨vu,by show fd (dD go st u)=true;rw[ru];exact hf,λv hv pv=> ?_⟩
 rcases Nat.lt_or_ge (hX m v) (hX m u)with z|z
 . obtain⟨j,s,_,hj,e1,_,e3,_⟩:=h.before (hX m u) (λj v' e lt=>by
    rcases Nat.lt_or_ge j dM with y|y
    . exact y
    . rcases Nat.lt_or_ge dM j with x|x
      . have:=h.up dM j u v' x hu e;omega
      . rw[show j=dM by omega,hu]at e;cases e;omega) v hv z
   have:=hn j s hj e1;rw[<-e3,show fd (dD go st v)=true from pv]at this;cases this
 . exact z
theorem Bf.none{st:α}{ts:List α}{ws:List (List Nat)}{dM:Nat}(h:Bf go m st ts ws dM 0)(hl:ts.length<=dM)(hn: ∀s∈ts,fd s=false)(w:List Nat)(hw:Vw m w):fd (dD go st w)=false:=by
 obtain⟨j,s,_,_,e1,_,e3,_⟩:=h.before (hX m w+1) (λj v e _=>by have:=(List.getElem?_eq_some_iff.mp e).1;rw[h.len]at this;omega) w hw (Nat.lt_succ_self _)
 rw[e3]
 exact hn s (List.mem_of_getElem? e1)
end
end KKL
namespace KKL
def Lv(m:Nat):Nat->List (List Nat)
 |0=>[[]]
 |k+1=>(Lv m k).flatMap λw=>(List.range m).map λa=>w++[a]
theorem mD{m:Nat}: ∀{k:Nat} {w:List Nat},w∈Lv m k↔Vw m w/\w.length=k
 |0,w=>by
  constructor
  . intro h;rw[List.mem_singleton.mp h];exact⟨Vw.nil m,rfl⟩
  . rintro⟨_,h⟩;rw[List.eq_nil_of_length_eq_zero h];exact List.mem_cons_self
 |k+1,w=>by
  show w∈(Lv m k).flatMap _↔_
  rw[List.mem_flatMap]
  constructor
  . rintro⟨u,hu,hw⟩;obtain⟨a,ha,rfl⟩:=List.mem_map.mp hw;obtain⟨h1,h2⟩:=mD.mp hu;exact⟨h1.snoc (List.mem_range.mp ha),by rw[List.length_append,h2];rfl⟩
  . rintro⟨h1,h2⟩
    rcases List.eq_nil_or_concat w with rfl|⟨u,a,rfl⟩
    . cases h2
    . rw[List.concat_eq_append]at h1 h2 ⊢;obtain⟨hu,ha⟩:=h1.ini;rw[List.length_append]at h2;exact⟨u,mD.mpr ⟨hu,Nat.succ.inj h2⟩,List.mem_map.mpr ⟨a,List.mem_range.mpr ha,rfl⟩⟩
theorem zih{m:Nat}: ∀k,(Lv m k).Pairwise λu v=>hX m u<hX m v
 |0=>List.pairwise_singleton ..
 |k+1=>by
  show((Lv m k).flatMap _).Pairwise _
  rw[List.pairwise_flatMap];refine⟨λw _=>List.pairwise_map.mpr (List.Pairwise.imp (λ{a b} h=> ?_) List.pairwise_lt_range),List.Pairwise.imp (λ{u v} h x hx y hy=> ?_) (zih k)⟩
  . rw[eT,eT];omega
  . obtain⟨a,ha,rfl⟩:=List.mem_map.mp hx;obtain⟨b,hb,rfl⟩:=List.mem_map.mp hy;have ha:=List.mem_range.mp ha;rw[eT,eT];have:(hX m u+1) * m<=hX m v * m:=Nat.mul_le_mul_right m h;rw[Nat.add_mul,Nat.one_mul]at this;omega
theorem zfB{m k i:Nat}{p:List Nat->Prop}{w:List Nat}(h0: ∀v,Vw m v->v.length<k-> ¬p v)(hi:(Lv m k)[i]?=some w)(hw:p w)(hn: ∀(j:Nat) (v:List Nat),j<i->(Lv m k)[j]?=some v-> ¬p v):SL m p w:=by
 obtain⟨h1,h2⟩:=mD.mp (List.mem_of_getElem? hi)
 refine⟨h1,hw,λv hv pv=> ?_⟩
 rcases Nat.lt_trichotomy v.length k with z|z|z
 . exact absurd pv (h0 v hv z)
 . obtain⟨j,hj⟩:=List.getElem?_of_mem (mD.mpr ⟨hv,z⟩)
   rcases Nat.lt_trichotomy j i with y|y|y
   . exact absurd pv (hn j v y hj)
   . rw[y,hi]at hj;cases hj;exact Nat.le_refl _
   . obtain⟨hi',ei⟩:=List.getElem?_eq_some_iff.mp hi;obtain⟨hj',ej⟩:=List.getElem?_eq_some_iff.mp hj;have:=List.pairwise_iff_getElem.mp (zih (m:=m) k) i j hi' hj' y;rw[ei,ej]at this;exact Nat.le_of_lt this
 . exact Nat.le_of_lt (qK h1 hv (by omega))
def fC(M:Mc)(p:Nat×Nat)(a:Nat):Nat×Nat:=(M.go p.1 a,M.go p.2 a)
def gO(M:Mc)(p:Nat×Nat):Bool:=M.gd p.1 != M.gd p.2
theorem uD{M:Mc}: ∀{k:Nat} {s t:Nat},Fr (fC M) (gO M) M.m k (s,t)↔Al M k s t
 |0,s,t=>by
  show(M.gd s != M.gd t)=false↔M.gd s=M.gd t
  cases M.gd s<;>cases M.gd t<;>decide
 |k+1,s,t=>by
  constructor
  . rintro⟨h1,h2⟩;refine⟨?_,λa ha=>uD.mp (h2 a ha)⟩;refine(uD (k:=k)).mp ?_;exact Fr.down (k:=k+1) ⟨h1,h2⟩ (Nat.le_succ k)
  . intro h;exact⟨(uD.mpr h.1).base,λa ha=>uD.mpr (h.2 a ha)⟩
theorem zjL{n:Nat}{c:Nat->Nat}(h: ∀v,v<n-> ∃s,s<n/\c s=v){s t:Nat}(hs:s<n)(ht:t<n)(e:c s=c t)(hc: ∀s,s<n->c s<n):s=t:=by
 by_cases q:s=t
 . exact q
 . exfalso
   -- for each value one state,and one of the two is none of these
   have ex: ∀v,∃s,v<n->s<n/\c s=v:= λv=>by
    by_cases hv:v<n
    . obtain⟨s,h1,h2⟩:=h v hv;exact⟨s,λ_=>⟨h1,h2⟩⟩
    . exact⟨0,λz=>absurd z hv⟩
   have yH: ∀x,x<n->x≠(ex (c x)).choose->False:= λx hx ne=>by
    have hl:=zcE n (x::(List.range n).map λv=>(ex v).choose) ?_ ?_
    . rw[List.length_cons,bH,List.length_range]at hl;omega
    . refine List.nodup_cons.mpr ⟨λhm=> ?_,List.pairwise_map.mpr (List.Pairwise.imp_of_mem (λ{a b} ha hb sB e'=> ?_) List.pairwise_lt_range)⟩
      . obtain⟨v,hv,e'⟩:=List.mem_map.mp hm;have hv:=List.mem_range.mp hv;have:=((ex v).choose_spec hv).2;rw[e']at this;rw[this]at ne;exact ne e'.symm
      . have h1:=((ex a).choose_spec (List.mem_range.mp ha)).2;have h2:=((ex b).choose_spec (List.mem_range.mp hb)).2;rw[e',h2]at h1;omega
    . intro y hy
      rcases List.mem_cons.mp hy with rfl|hy
      . exact hx
      . obtain⟨v,hv,rfl⟩:=List.mem_map.mp hy;exact((ex v).choose_spec (List.mem_range.mp hv)).1
   by_cases q1:s=(ex (c s)).choose
   . refine yH t ht λq2=>q ?_;rw[q1,e];exact q2.symm
   . exact yH s hs q1
theorem zhp{M:Mc}(ok:M.Ok){s t:Nat}(hs:s<M.n)(ht:t<M.n)(h:Al M (M.n - 1) s t)(j:Nat):Al M j s t:=by
 have hn:1<=M.n:=by omega
 rcases zeE ok (M.n - 1)with z|z
 . rcases Nat.lt_or_ge j (M.n - 1)with y|y
   . exact h.up (Nat.le_of_lt y)
   . have:=z (j - (M.n - 1)) s t hs ht h
     rwa [show M.n - 1+(j - (M.n - 1))=j by omega]at this
 . obtain⟨q,c,R⟩:=Rp.ex ok (M.n - 1);have h1:=z q c R;have h2:=R.few;obtain rfl:q=M.n:=by omega
   have e:=(R.al s t hs ht).mpr h;have:=zjL (n:=M.n) (c:=c) (λv hv=>R.nb.on v hv) hs ht e (λs hs=>R.nb.lt s hs);rw[this];exact Al.refl M j t
def oX(M:Mc)(T:Nat)(p:Nat×Nat)(d:Nat):Prop:=d<=T/\fD (fC M) (gO M) M.m d p
theorem zfh{M:Mc}{T:Nat}{p:Nat×Nat}:fD (fC M) (gO M) M.m (T+1) p↔(¬ ∃d,oX M T p d)/\ ∃a d,a<M.m/\oX M T (fC M p a) d:=by
 constructor
 . intro h;refine⟨λ⟨d,h1,h2⟩=>by have:=h2.one h;omega,?_⟩;obtain⟨⟨a,ha,hd⟩,_⟩:=h.step;exact⟨a,T,ha,Nat.le_refl _,hd⟩
 . rintro⟨h1,a,d,ha,h2,h3⟩;have fr:Fr (fC M) (gO M) M.m T p:=by
    by_cases e:Fr (fC M) (gO M) M.m T p
    . exact e
    . obtain⟨j,j1,j2⟩:=zbn e;exact absurd ⟨j,j1,j2⟩ h1
   have dT:d=T:=by
    rcases Nat.lt_or_ge d T with z|z
    . exact absurd ((fr.down (show d+1<=T from z)).2 a ha) h3.2
    . omega
   subst dT;exact fD.up (λj hj=>fr.down (by omega)) ha h3
theorem xG{M:Mc}{p:Nat×Nat}{d:Nat}:oX M 0 p d↔d=0/\gO M p=true:=by
 constructor
 . rintro⟨h1,h2⟩;obtain rfl:=Nat.le_zero.mp h1;exact⟨rfl,nB.mp h2⟩
 . rintro⟨rfl,h⟩;exact⟨Nat.le_refl _,nB.mpr h⟩
theorem qU{M:Mc}{T:Nat}{p:Nat×Nat}{d:Nat}:oX M (T+1) p d↔oX M T p d\/d=T+1/\fD (fC M) (gO M) M.m (T+1) p:=by
 constructor
 . rintro⟨h1,h2⟩
   rcases Nat.lt_or_ge d (T+1)with z|z
   . exact .inl ⟨by omega,h2⟩
   . obtain rfl:d=T+1:=by omega
     exact .inr ⟨rfl,h2⟩
 . rintro(⟨h1,h2⟩|⟨rfl,h⟩)
   . exact⟨by omega,h2⟩
   . exact⟨Nat.le_refl _,h⟩
theorem uP{M:Mc}(ok:M.Ok){s t:Nat}(hs:s<M.n)(ht:t<M.n)(h: ¬ ∃d,oX M (M.n - 1) (s,t) d)(w:List Nat)(hw:Vw M.m w):gO M (dD (fC M) (s,t) w)=false:=by
 have fr:Fr (fC M) (gO M) M.m (M.n - 1) (s,t):=by
  by_cases e:Fr (fC M) (gO M) M.m (M.n - 1) (s,t)
  . exact e
  . obtain⟨j,j1,j2⟩:=zbn e;exact absurd ⟨j,j1,j2⟩ h
 exact Fr.word.mp (uD.mpr (zhp ok hs ht (uD.mp fr) w.length)) w hw (Nat.le_refl _)
end KKL
namespace KK
open PySem L2 PyProof.Rows KKM KKL
variable {P:Program}{w:World}{K:W.Frag}{mg:Str->Option Value}{base:Heap}{f g g2 g3 g4 C CT CB CG M ft:Addr}{fd gd gd2 gd3 gd4 ftd:FuncData}{k:Nat}
section
variable {nG qG nI qI:Str}{paG paI:Arguments}{bG bI:List Stmt}{scG scI:Scope}{psG frG psI frI:List Str}{spG spI:List V->Sp}{md:NM}
def xE(H:Hp)(a:Addr)(t:NK):Prop:= ∃v,H a=some (.lst [v])/\dQ H v t
theorem xE.same{H H':Hp}{a:Addr}{t:NK}(h:xE H a t)(x:Same H H'):xE H' a t:=let⟨v,e,z⟩:=h;⟨v,x _ _ e,z.keep λb _ e=>x b _ e⟩
structure pB(P:Program)(w:World)(md:NM)(ls:List Str)(H0 H:Hp)(D Gs Cm:Addr)(ts:List NK)(ws:List (List Nat)):Prop where
 y:Same H0 H
 hd:ND P w md H D (iZ ts)
 hs: ∃(gs:List Addr),H Gs=some (.lst (gs.map V.ref))/\Paired (xE H) gs ts/\Gs∉gs/\Cm∉gs
 hc: ∃(us:List V) (cs:List (Option (Nat×Nat))),H Cm=some (.lst us)/\Paired (qT H ls) us cs/\rH cs ws
 D0:H0 D=none
 G0:H0 Gs=none
 C0:H0 Cm=none
 GC:Gs≠Cm
theorem pB.same{ls:List Str}{H0 H H':Hp}{D Gs Cm:Addr}{ts:List NK}{ws:List (List Nat)}(h:pB P w md ls H0 H D Gs Cm ts ws)(x:Same H H'):pB P w md ls H0 H' D Gs Cm ts ws:=by
 obtain⟨gs,a1,a2,a3,a4⟩:=h.hs
 obtain⟨us,cs,b1,b2,b3⟩:=h.hc
 exact⟨h.y.trans x,h.hd.same x,⟨gs,x _ _ a1,Paired.mapP a2 λ_ _ z=>z.same x,a3,a4⟩,⟨us,cs,x _ _ b1,Paired.mapP b2 λ_ _ z=>z.keep λb xs e=>x _ _ e,b3⟩,h.D0,h.G0,h.C0,h.GC⟩
theorem pB.GD{ls:List Str}{H0 H:Hp}{D Gs Cm:Addr}{ts:List NK}{ws:List (List Nat)}(h:pB P w md ls H0 H D Gs Cm ts ws):Gs≠D/\Cm≠D:=by
 obtain⟨gs,a1,_⟩:=h.hs
 obtain⟨us,cs,b1,_⟩:=h.hc
 obtain⟨o,ho,nl,_⟩:=h.hd.some
 exact⟨λe=>by rw[e,ho]at a1;exact nl _ (Option.some.inj a1),λe=>by rw[e,ho]at b1;exact nl _ (Option.some.inj b1)⟩
theorem rH.put{cs:List (Option (Nat×Nat))}{ws:List (List Nat)}{dM a:Nat}{u:List Nat}(h:rH cs ws)(hu:ws[dM]?=some u):rH (cs++[some (dM,a)]) (ws++[u++[a]]):=by
 have hn:=(List.getElem?_eq_some_iff.mp hu).1
 have pre: ∀{j:Nat} {v:List Nat},ws[j]?=some v->(ws++[u++[a]])[j]?=some v:= λe=>by rw[List.getElem?_append_left (List.getElem?_eq_some_iff.mp e).1];exact e
 have at': ∀{i:Nat} {c:Option (Nat×Nat)},(cs++[some (dM,a)])[i]?=some c->cs[i]?=some c\/i=cs.length/\c=some (dM,a):= λ{i c} e=>by
  rcases Nat.lt_or_ge i cs.length with z|z
  . rw[List.getElem?_append_left z]at e;exact .inl e
  . rw[List.getElem?_append_right z]at e;have:i - cs.length=0:=by have:=(List.getElem?_eq_some_iff.mp e).1;rw[List.length_singleton]at this;omega
    rw[this]at e;exact .inr ⟨by omega,(Option.some.inj e).symm⟩
 refine⟨by rw[List.length_append,List.length_append,h.len];rfl,λi e=> ?_,λi j b e=> ?_⟩
 . rcases at' e with z|⟨_,z⟩
   . exact pre (h.zero i z)
   . cases z
 . rcases at' e with z|⟨rfl,z⟩
   . obtain⟨q1,v,q2,q3⟩:=h.next i j b z;exact⟨q1,v,pre q2,pre q3⟩
   . cases z;refine⟨by rw[h.len];exact hn,u,pre hu,?_⟩;rw[h.len,List.getElem?_append_right (Nat.le_refl _),Nat.sub_self];rfl
theorem pB.put{ls:List Str}{H0 H H2:Hp}{D Gs Cm l t:Addr}{ts:List NK}{ws:List (List Nat)}{x:NK}{v:V}{dM a:Nat}{u:List Nat}{lt:Str}{gs:List Addr}{us:List V}{cs:List (Option (Nat×Nat))}(h:pB P w md ls H0 H D Gs Cm ts ws)(hG:H Gs=some (.lst (gs.map V.ref)))(a2:Paired (xE H) gs ts)(a3:Gs∉gs)(a4:Cm∉gs)(hC:H Cm=some (.lst us))(b2:Paired (qT H ls) us cs)(b3:rH cs ws)
 (b:pG D H H2) (l0:H l=none) (hl:H2 l=some (.lst [v])) (hk:dQ H2 v x) (hd:ND P w md H2 D (iZ (ts++[x]))) (ht:aN H2 Gs (.lst (gs.map V.ref++[.ref l])) t=none) (hla:ls[a]?=some lt) (hu:ws[dM]?=some u):
 pB P w md ls H0 (aN (aN (aN H2 Gs (.lst (gs.map V.ref++[.ref l]))) t (.tup [.int (dM:Int),.str lt])) Cm (.lst (us++[.ref t]))) D Gs Cm (ts++[x]) (ws++[u++[a]]):=by
 obtain⟨GD,CD⟩:=h.GD
 have GC:=h.GC
 obtain⟨o,ho,nl,nt,_⟩:=h.hd.some
 have G2:H2 Gs=some (.lst (gs.map V.ref)):=b _ _ GD hG
 have C2:H2 Cm=some (.lst us):=b _ _ CD hC
 have tG:t≠Gs:= λe=>by rw[e,aG]at ht;cases ht
 have t2:H2 t=none:=by rw[aD tG]at ht;exact ht
 have tC:t≠Cm:= λe=>by rw[e,C2]at t2;cases t2
 have lG:l≠Gs:= λe=>by rw[e,hG]at l0;cases l0
 have lC:l≠Cm:= λe=>by rw[e,hC]at l0;cases l0
 have kp: ∀{c:Addr} {o:HO},H2 c=some o->c≠Gs->c≠Cm->aN (aN (aN H2 Gs (.lst (gs.map V.ref++[.ref l]))) t (.tup [.int (dM:Int),.str lt])) Cm (.lst (us++[.ref t])) c=some o:= λ{c o} e n1 n2=>by
  rw[aD n2,aD (aF e t2),aD n1];exact e
 have tk2:e9 H2 (aN (aN (aN H2 Gs (.lst (gs.map V.ref++[.ref l]))) t (.tup [.int (dM:Int),.str lt])) Cm (.lst (us++[.ref t]))):= λc xs e=>kp e (cK e G2 (λz=>nomatch z)) (cK e C2 (λz=>nomatch z))
 have tk1:e9 H H2:= λc xs e=>b _ _ (λz=>by rw[z,ho]at e;exact nt _ (Option.some.inj e)) e
 have tk:e9 H (aN (aN (aN H2 Gs (.lst (gs.map V.ref++[.ref l]))) t (.tup [.int (dM:Int),.str lt])) Cm (.lst (us++[.ref t]))):= λc xs e=>tk2 _ _ (tk1 _ _ e)
 refine⟨λc o' e=> ?_,hd.keep tk2 λo' e=>kp e (Ne.symm GD) (Ne.symm CD),⟨gs++[l],?_,?_,?_,?_⟩,⟨us++[.ref t],cs++[some (dM,a)],aG,?_,b3.put hu⟩,h.D0,h.G0,h.C0,GC⟩
 . exact kp (b _ _ (aF e h.D0) (h.y _ _ e)) (aF e h.G0) (aF e h.C0)
 . rw[aD GC,aD (Ne.symm tG),aG,List.map_append];rfl
 . refine bU (pT a2 λc y hc ⟨v',e,z⟩=>⟨v',?_,z.keep tk⟩) (.cons ⟨v,kp hl lG lC,hk.keep tk2⟩ .nil);have cD:c≠D:= λq=>by rw[q,ho]at e;exact nl _ (Option.some.inj e)
   exact kp (b _ _ cD e) (λq=>a3 (q▸hc)) (λq=>a4 (q▸hc))
 . intro hm
   rcases List.mem_append.mp hm with z|z
   . exact a3 z
   . exact lG (List.mem_singleton.mp z).symm
 . intro hm
   rcases List.mem_append.mp hm with z|z
   . exact a4 z
   . exact lC (List.mem_singleton.mp z).symm
 . refine bU (Paired.mapP b2 λ_ _ z=>z.keep tk) (.cons ⟨t,lt,rfl,?_,hla⟩ .nil);rw[aD tC,aG]
def zax(P:Program)(w:World)(nG qG nI qI:Str)(paG paI:Arguments)(bG bI:List Stmt)(scG scI:Scope)(frG frI:List Str)(spG spI:List V->Sp)(md:NM):Sp:= λvs H Q _=> ∃(tl fg fi:Addr) (v0:V) (ls:List Str) (ds:List (Addr×Obj)) (yY yL:List V) (st:NK) (go:NK->Nat->NK) (fn:NK->Bool) (S:NK->Prop),
 vs=[.ref tl,v0,.ref fg,.ref fi]/\rK H tl (ls.map V.str)/\FnL nG qG paG bG scG frG H fg ds yY/\FnL nI qI paI bI scI frI H fi ds yL/\dQ H v0 st/\kR spG spI md H ds yY yL ls.length st go fn S/\ls.length<=60/\(md= .i\/md= .p)/\
 (∀D u H',SL ls.length (Fd go fn st) u->Same H H'->H D=none->H' D=some (.lst ((u.map λa=>ls.getD a "").map V.str))->Q (.ref D) H')/\
 (∀H',(∀u,Vw ls.length u->fn (dD go st u)=false)->Same H H'->Q .non H')
theorem wU:bS ["letters","start","goes","found","seen","groups","came","now","at","letter","fresh"] ["letters","start","goes","found"] (aH gG):=(.of rfl rfl rfl rfl (by decide+kernel))
theorem zeA(F:mR K "first_row" "first_row" gG f fd)(B:Bt mg)(G_row_to:Fn P w K mg base k "row_to" ["came","group"] zbj g gd)(G_fresh_of:Fn P w K mg base k "fresh_of" ["things","seen"] (zaq P w md) g2 gd2)(I_goes:d7 P w K mg base gU k nG qG paG bG scG psG frG spG)(I_found:d7 P w K mg base gU k nI qI paI bI scI psI frI spI):
 dN P w K mg base gU (k+1) f fd ["letters","start","goes","found"] (zax P w nG qG nI qI paG paI bG bI scG scI frG frI spG spI md):=by
 refine F.ok wU (λvs H Q E h=> ?_) (λeQ A outer s H vs Q E hr h=> ?_)
 . obtain⟨tl,fg,fi,v0,ls,ds,yY,yL,st,go,fn,S,rfl,_⟩:=h;rfl
 obtain⟨tl,fg,fi,v0,ls,ds,yY,yL,st,go,fn,S,rfl,hl,hG,hI,hN,T0,l60,hmd,q1,q2⟩:=h
 have nd:=wU.nd
 refine⟨_,(aE (bF (i:=4) nd rfl (Or.inl rfl) (zln md (kC hr) (pv 1) tD)) (aE (bF (i:=5) nd rfl (Or.inl rfl) (cU (aB (cU (aB (pv 1) aC)) aC))) (aE (bF (i:=6) nd rfl (Or.inl rfl) (cU (aB nY aC))) (aE (bF (i:=7) nd rfl (Or.inl rfl) aI) (aE (xK PassesOwn.never (bQ xL (pv 7) (aW aO rfl B.len_ PySem.boot_len (aB (pv 5) aC)) (cL _)) (aE (dX (zfT (aW (zcQ rfl) rfl B.any_ boot_any (aB (cS (g:=(bD 0)) (tc:=dJ) (te:=(i8 1 nI qI paI bI scI frI spI E0 (aP (aL 0) cG))) (own:=["thing"]) (fr:=["found"]) (idx:=[3]) rfl (by show aR _ _ _ (aH gG);exact(.of rfl (by decide+kernel))) (dH (bV bO (pv 5) (pv 7) (λ_ _=>rfl))) (λ_ _ _ _ _=>(aJ (i:=0) (by show List.Nodup (["thing","found"]:List Str);decide+kernel) rfl (Or.inl rfl) (Or.inr rfl))) (λ_ _ _ _ _=>cT) (λ_ _ _ _ _=>(zfb (i:=1) I_found hr rfl (Or.inr (Or.inl rfl)) (aB (pv 0) aC))) rfl (cR rfl)) aC)) (λ_=>rfl)) (aK (cE (lD G_row_to hr rfl (aB (pv 6) (aB (pv 7) aC))))) bW) (aE (dL PassesOwn.never rfl (zdv rfl B.enumerate_ (aB (pv 0) aC)) (fG rfl (aZ (aJ (i:=8) nd rfl (Or.inr rfl)) (aZ (aJ (i:=9) nd rfl (Or.inl rfl)) eF))) (aE (bF (i:=10) nd rfl (Or.inl rfl) (lD G_fresh_of hr rfl (aB (zef (g:=(bD 0)) (tc:=dJ) (te:=(aL 1)) (wi2:=(xO K (r9 2 nG qG paG bG scG frG spG E0 (aP (aL 0) (aP (aL 3) cG))))) (g2:=(bD 1)) (tc2:=dJ) (own:=["thing","after"]) (fr:=["goes","at"]) (idx:=[2,8]) rfl (by show aR _ _ _ (aH gG);exact(.of rfl (by decide+kernel))) (dH (bV bO (pv 5) (pv 7) (λ_ _=>rfl))) (λ_ _ _ _ _=>(aJ (i:=0) (by show List.Nodup (["thing","after","goes","at"]:List Str);decide+kernel) rfl (Or.inl rfl) (Or.inr rfl))) (λ_ _ _ _ _=>cT) (λ_ _ _ _ _=>(dH (zeg (i:=2) I_goes hr rfl (Or.inr (Or.inl rfl)) (aB (pv 0) (aB (pv 3) aC))))) (λ_ _ _ _ _=>(aJ (i:=1) (by show List.Nodup (["thing","after","goes","at"]:List Str);decide+kernel) rfl (Or.inl rfl) (Or.inr rfl))) (λ_ _ _ _ _=>cT) (λ_ _ _ _ _=>(pv 1)) rfl (cR rfl)) (aB (pv 4) aC)))) (aK (dX (zfO (pv 10) (λ_=>rfl)) (aE (dB (hJ PySem.F.plainAttrs_list PySem.F.slot_list_append PySem.F.type_list_append cZ (pv 5) (aB (pv 10) aC))) (aK (dB (hJ PySem.F.plainAttrs_list PySem.F.slot_list_append PySem.F.type_list_append cZ (pv 6) (aB (eE (aB (pv 7) (aB (pv 9) aC))) aC))))) bW)))) (aK (zlb (i:=7) nd rfl (Or.inl rfl) aI zly))))) (aK (cE nY))))))),?_⟩
 try dsimp only[eV,Cx.nox,Cx.wish]
 refine zjn ?_
 intro D0 σ0 U6 U5 U4 U3 U2
 intro D hD
 refine⟨_,rfl,st,hN.keep (λb xs e=>by rw[aD (aF e hD)];exact e),T0.md st T0.st,hmd,aG,λob nD=> ?_⟩
 rw[zhh]at nD ⊢
 obtain⟨H1,e0,x1,-⟩:=eJ hD ob
 rw[e0]at nD ⊢
 refine⟨_,rfl,dF 1,λa0 ha0=> ?_⟩
 obtain⟨H2,e0,x2,k2⟩:=eJ ha0 (.lst [v0])
 rw[e0]
 refine⟨dF 1,λGs hGs=> ?_⟩
 obtain⟨H3,e0,x3,k3⟩:=eJ hGs (.lst [.ref a0])
 rw[e0]
 have k3:H3 Gs=some (.lst (([a0]:List Addr).map V.ref)):=k3
 refine⟨dF 1,λCm hCm=> ?_⟩
 obtain⟨H4,e0,x4,k4⟩:=eJ hCm (.lst [.non])
 rw[e0]
 have y4:=((x1.trans x2).trans x3).trans x4
 have W0:rH [none] [[]]:=by
  refine⟨rfl,λi e=> ?_,λi j a e=> ?_⟩
  . cases i with
    |zero=>rfl
    |succ i=>cases e
  . cases i with
    |zero=>cases e
    |succ i=>cases e
 have first:pB P w md ls H H4 D Gs Cm [st] [[]]:=
  ⟨y4,nD.same ((x2.trans x3).trans x4),⟨[a0],x4 _ _ k3,.cons ⟨v0,x4 _ _ (x3 _ _ k2),hN.keep λb xs e=>y4 b _ e⟩ .nil,(by
   intro z;rw[<-List.mem_singleton.mp z,hGs]at k2;cases k2),(by
   intro z;have k2':=x3 _ _ k2;rw[<-List.mem_singleton.mp z,hCm]at k2';cases k2')⟩,⟨[.non],[none],k4,.cons rfl .nil,W0⟩,hD,x1.free (x2.free hGs),x1.free (x2.free (x3.free hCm)),aF k3 hCm⟩
 clear x1 x2 x3 x4 k2 k3 k4 y4 nD hGs hCm ha0
 refine⟨λmm σ H'=> ∃(dM:Nat) (ts:List NK) (ws:List (List Nat)) (v8 v9 qB:Option V),mm=601 - dM/\σ=[some (.ref tl),some v0,some (.ref fg),some (.ref fi),some (.ref D),some (.ref Gs),some (.ref Cm),some (.int (dM:Int)),v8,v9,qB]/\dM<=ts.length/\ts.Nodup/\(∀t∈ts,S t)/\Bf go ls.length st ts ws dM 0/\(∀(j:Nat) (s:NK),j<dM->ts[j]?=some s->fn s=false)/\pB P w md ls H H' D Gs Cm ts ws,⟨_,0,[st],[[]],none,none,none,rfl,rfl,Nat.zero_le _,by simp,λt ht=>by rw[List.mem_singleton.mp ht];exact T0.st,Bf.start st,λj s hj=>by omega,first⟩,?_⟩
 rintro mm σ H4 ⟨dM,ts,ws,v8,v9,qB,rfl,rfl,hnl,tnd,hS,hB,sF,A4⟩
 have few:=T0.few ts tnd hS
 obtain⟨gs,a1,a2,a3,a4⟩:=A4.hs
 obtain⟨us,cs,b1,b2,b3⟩:=A4.hc
 have lg:=Paired.length a2
 refine⟨_,rfl,_,rfl,Gs,_,rfl,.inl (aY.of a1),_,_,rfl,rfl,_,rfl,?_⟩
 rw[bH,lg]
 refine jA (λe=> ?_) (λe=> ?_)
 . have hk:dM<ts.length:=by have:=of_decide_eq_true e;omega
   have ht:=List.getElem?_eq_getElem hk;have St:=hS _ (List.getElem_mem hk);generalize ts[dM]=t at ht St;obtain⟨ga,hga,v,hv,hkv⟩:=dA a2 ht;have hkw:dM<ws.length:=by rw[hB.len];exact hk
   have hu:=List.getElem?_eq_getElem hkw;generalize ws[dM]=u at hu;refine⟨λσ' H'=> ∃(ts:List NK) (ws:List (List Nat)) (v8 v9 qB:Option V),σ'=[some (.ref tl),some v0,some (.ref fg),some (.ref fi),some (.ref D),some (.ref Gs),some (.ref Cm),some (.int ((dM:Int)+1)),v8,v9,qB]/\dM+1<=ts.length/\ts.Nodup/\(∀t∈ts,S t)/\Bf go ls.length st ts ws (dM+1) 0/\(∀(j:Nat) (s:NK),j<dM+1->ts[j]?=some s->fn s=false)/\pB P w md ls H H' D Gs Cm ts ws,?_,?_⟩
   . rintro σ' H' ⟨sP,ws',a8,a9,a10,rfl,z1,z2,z3,z4,z5,z6⟩;exact⟨601 - (dM+1),by omega,dM+1,sP,ws',a8,a9,a10,rfl,rfl,z1,z2,z3,z4,z5,z6⟩
   refine⟨_,rfl,_,rfl,Gs,_,_,_,rfl,rfl,aY.of a1,cN (by rw[List.getElem?_map,hga];rfl),ga,rfl,⟨_,aY.of hv⟩,λD5 hD5=>zlS (K:=K) hD5 hv hkv St (T0.same A4.y) (hI.same A4.y) λH5 x5 h5=> ?_⟩;refine⟨D5,[fn t],rfl,aY.of h5,_,rfl,?_⟩;have A5:=A4.same x5;cases hft:fn t with
   |true=>
    refine oZ ?_;refine⟨_,rfl,_,rfl,Cm,ls,us,cs,ws,dM,u,rfl,x5 _ _ b1,Paired.mapP b2 λ_ _ z=>z.keep λb xs e=>x5 _ _ e,b3,hu,by rw[hB.len];omega,λD6 H6 x6 vM h6=> ?_⟩;exact q1 D6 u H6 (hB.found ht hu hft sF) (A5.y.trans x6) (A5.y.free vM) h6
   |false=>
    refine iY ?_;have zsa: ∀(sP:List NK),ts<+:sP-> ∀(j:Nat) (s:NK),j<dM+1->sP[j]?=some s->fn s=false:= λsP hp j s hj es=>by
     obtain⟨r,rfl⟩:=hp;rw[List.getElem?_append_left (by omega)]at es
     rcases Nat.lt_or_ge j dM with z|z
     . exact sF j s z es
     . obtain rfl:j=dM:=by omega
       rw[ht]at es;rw[<-Option.some.inj es];exact hft
    refine⟨_,rfl,tl,rfl,⟨_,(hl.same A5.y).sq⟩,zcO (xs:=ls.map V.str) (λa σ' H'=> ∃(sP:List NK) (ws':List (List Nat)) (v8 v9 qB:Option V),σ'=[some (.ref tl),some v0,some (.ref fg),some (.ref fi),some (.ref D),some (.ref Gs),some (.ref Cm),some (.int (dM:Int)),v8,v9,qB]/\ts<+:sP/\sP.Nodup/\(∀t∈sP,S t)/\ws'[dM]?=some u/\Bf go ls.length st sP ws' dM a/\pB P w md ls H H' D Gs Cm sP ws') ?_ ?_ ?_ ?_⟩
    . exact⟨ts,ws,v8,v9,qB,rfl,List.prefix_rfl,tnd,hS,hu,hB,A5⟩
    . rintro a σ' H' _ ⟨_,_,_,_,_,_,_,_,_,_,_,A6⟩;exact(hl.same A6.y).sq
    . rintro a yy σ' H6 T hy hT ⟨sP,ws',v8,v9,qB,rfl,rB,zdm,hS',qA,hB',A6⟩;rw[List.getElem?_map]at hy;obtain⟨la,hla,rfl⟩:=Option.map_eq_some_iff.mp hy;have ha:=(List.getElem?_eq_some_iff.mp hla).1;have zzD:=T0.few sP zdm hS';have ht':sP[dM]?=some t:=by
       obtain⟨r,rfl⟩:=rB;rw[List.getElem?_append_left hk];exact ht
      obtain⟨H7,e0,x7,k7⟩:=eJ hT (.tup [.int (a:Int),.str la]);rw[e0];have A7:=A6.same x7;clear A6 x7 hT;refine⟨T,_,rfl,fR.of k7,rfl,_,_,rfl,_,_,rfl,rfl,?_⟩;obtain⟨gs',c1,c2,c3,c4⟩:=A7.hs;obtain⟨ga',zsb,v',sO,ztW⟩:=dA c2 ht';refine⟨_,rfl,_,rfl,Gs,_,_,_,rfl,rfl,aY.of c1,cN (by rw[List.getElem?_map,zsb];rfl),ga',rfl,⟨_,aY.of sO⟩,λD8 hD8=>zpn (K:=K) hD8 sO ztW St ha (T0.same A7.y) (hG.same A7.y) λH8 v'' x8 h8 hk8=> ?_⟩;have A8:=A7.same x8;have Sx:=T0.cl t a St ha;refine⟨_,rfl,D8,D,v'',go t a,sP,rfl,h8,hk8,T0.md _ Sx,A8.hd,by omega,λhin D9 H9 x9 h90 h9=> ?_,λzul D9 H9 b9 h90 h9 n9=> ?_⟩
      . refine⟨_,rfl,false,.inl ⟨[],aY.of h9,rfl⟩,iY ?_⟩;exact⟨sP,ws',_,_,_,rfl,rB,zdm,hS',qA,hB'.old ht' hin,A8.same x9⟩
      . refine⟨_,rfl,true,.inl ⟨[v''],aY.of h9,rfl⟩,oZ ?_⟩;obtain⟨gs8,d1,d2,d3,d4⟩:=A8.hs;obtain⟨us8,cs8,e1,e2,e3⟩:=A8.hc;obtain⟨GD,CD⟩:=A8.GD;have lg8:=Paired.length d2;have lu8:=Paired.length e2;have lw8:=e3.len;have lb8:=hB'.len;have f9:=b9 _ _ GD d1;have g9:=b9 _ _ CD e1;refine⟨_,rfl,.inl ⟨rfl,_,aY.of f9⟩,_,rfl,Gs,_,_,rfl,rfl,f9,by rw[bH];exact cY (by omega),?_⟩;have g10:aN H9 Gs (.lst (gs8.map V.ref++[.ref D9])) Cm=some (.lst us8):=by rw[aD (Ne.symm A8.GC)];exact g9
        refine⟨_,rfl,.inl ⟨rfl,_,aY.of g10⟩,_,rfl,_,rfl,dF 2,λt10 zpQ=> ?_⟩;refine⟨Cm,_,_,rfl,rfl,(aX zpQ) _ _ g10,cY (by omega),?_⟩;obtain⟨o,ho,nl,nt,_⟩:=A8.hd.some;have hk9:dQ H9 v'' (go t a):=hk8.keep λb xs e=>b9 _ _ (λz=>by rw[z,ho]at e;exact nt _ (Option.some.inj e)) e;refine⟨sP++[go t a],ws'++[u++[a]],_,_,_,rfl,rB.trans (List.prefix_append _ _),lY zdm zul,λy hy=> ?_,?_,hB'.new ha ht' qA,A8.put d1 d2 d3 d4 e1 e2 e3 b9 h90 h9 hk9 n9 zpQ hla qA⟩
        . rcases List.mem_append.mp hy with z|z
          . exact hS' y z
          . rw[List.mem_singleton.mp z];exact Sx
        . rw[List.getElem?_append_left (List.getElem?_eq_some_iff.mp qA).1];exact qA
    . rintro σ' H6 ⟨sP,ws',v8,v9,qB,rfl,rB,zdm,hS',qA,hB',A6⟩;rw[bH]at hB';refine⟨_,rfl,_,_,rfl,rfl,?_⟩;exact⟨sP,ws',_,_,_,rfl,by have:=rB.length_le;omega,zdm,hS',hB'.next (List.getElem?_eq_some_iff.mp qA).1,zsa sP rB,A6⟩
 . have hk:ts.length<=dM:=by simpa using e
   refine q2 H4 (λu hu=>hB.none hk (λs hs=> ?_) u hu) A4.y;obtain⟨j,hj⟩:=List.getElem?_of_mem hs;exact sF j s (by have:=(List.getElem?_eq_some_iff.mp hj).1;omega) hj
end
abbrev gJ:Stmt:=(cM bE).getD 0 (.Pass ⟨0,0,0,0⟩)
abbrev eU:Stmt:=(cM bE).getD 1 (.Pass ⟨0,0,0,0⟩)
abbrev qGo:Str:= "parted_from.<locals>.goes"
abbrev qGd:Str:= "parted_from.<locals>.parts"
def zou(C:Addr):List V->Sp:= λkE vs H Q _=> ∃(x p:Addr) (ls:List Str) (cs:fX) (s t a:Nat),kE=[.ref x]/\vs=[.ref p,.int a]/\H p=some (.tup [.int s,.int t])/\MoS C H x ls cs/\Wc ls.length cs/\s<cs.length/\t<cs.length/\a<ls.length/\
 ∀l r H',Same H H'->H l=none->H' l=some (.lst [.ref r])->H r=none->H' r=some (.tup [.int (((aQ ls.length cs).go s a:Nat):Int),.int (((aQ ls.length cs).go t a:Nat):Int)])->Q (.ref l) H'
def zoO(C:Addr):List V->Sp:= λkE vs H Q _=> ∃(x p:Addr) (ls:List Str) (cs:fX) (s t:Nat),kE=[.ref x]/\vs=[.ref p]/\H p=some (.tup [.int s,.int t])/\MoS C H x ls cs/\s<cs.length/\t<cs.length/\Q (.bl ((aQ ls.length cs).gd s != (aQ ls.length cs).gd t)) H
theorem zbo:mT ["pair","at","machine"] ["pair","at"] (aH gJ):=⟨rfl,rfl,rfl,by decide+kernel,rfl,by decide+kernel,λx h=>(by decide+kernel: ∀y∈(aH gJ).names,y.2= .cell->(aH gJ).names.lookup y.1=some .cell) (x,.cell) h rfl⟩
theorem zhq(S:MoC K C):d7 P w K mg base gU (k+1) "goes" "parted_from.<locals>.goes" (dP gJ) (cM gJ) (aH gJ) ["pair","at"] ["machine"] (zou C):=by
 refine ziY (mid:=[]) zbo rfl (by decide+kernel) (by decide+kernel) (λclos lA pm ct c us hl=>match us,hl with| [_,_],_=>rfl) (λkE vs H Q E h=> ?_) (λclos eQ f A outer s H kE vs Q E hr h=> ?_)
 . obtain⟨x,p,ls,cs,s,t,a,rfl,rfl,_⟩:=h;rfl
 obtain⟨x,p,ls,cs,i,j,a,rfl,rfl,hp,⟨dx,tl,tt,tg,us,m1,m2,m3,m4,m5⟩,W,hi,hj,ha,q⟩:=h
 have nd:=zbo.nd
 refine⟨_,(aK (cE (cU (aB (eE (aB (bV gL (bV gL (iD (pv 2) rfl) (bV gL (pv 0) aI (λ_ _=>rfl)) (λ_ _=>rfl)) (pv 1) (λ_ _=>rfl)) (aB (bV gL (bV gL (iD (pv 2) rfl) (bV gL (pv 0) aI (λ_ _=>rfl)) (λ_ _=>rfl)) (pv 1) (λ_ _=>rfl)) aC))) aC)))),?_⟩
 try dsimp only[eV,Cx.nox,Cx.wish]
 obtain⟨u,row,e1,e2,e3⟩:=zbp W m3 m4 hi ha
 obtain⟨u',zzd,e1',e2',e3'⟩:=zbp W m3 m4 hj ha
 refine⟨_,rfl,x,C,dx,_,_,rfl,m1,S.cls,S.n2,rfl,_,rfl,p,_,_,_,rfl,rfl,fR.of hp,rfl,tt,_,_,_,rfl,rfl,fR.of m3,e1,_,rfl,u,_,_,_,rfl,rfl,fR.of e2,e3,_,rfl,x,C,dx,_,_,rfl,m1,S.cls,S.n2,rfl,_,rfl,p,_,_,_,rfl,rfl,fR.of hp,rfl,tt,_,_,_,rfl,rfl,fR.of m3,e1',_,rfl,u',_,_,_,rfl,rfl,fR.of e2',e3',dF 2,λr hr=>⟨dF 1,λl hl=> ?_⟩⟩
 have x1:Same H (aN H r (.tup [.int (((aQ ls.length cs).go i a:Nat):Int),.int (((aQ ls.length cs).go j a:Nat):Int)])):=aX hr
 exact q l r _ (x1.trans (aX hl)) (x1.free hl) aG hr (aX hl _ _ aG)
theorem wQ:mT ["pair","machine"] ["pair"] (aH eU):=⟨rfl,rfl,rfl,by decide+kernel,rfl,by decide+kernel,λx h=>(by decide+kernel: ∀y∈(aH eU).names,y.2= .cell->(aH eU).names.lookup y.1=some .cell) (x,.cell) h rfl⟩
theorem zfk(S:MoC K C):d7 P w K mg base gU (k+1) "parts" "parted_from.<locals>.parts" (dP eU) (cM eU) (aH eU) ["pair"] ["machine"] (zoO C):=by
 refine ziY (mid:=[]) wQ rfl (by decide+kernel) (by decide+kernel) (λclos lA pm ct c us hl=>match us,hl with| [_],_=>rfl) (λkE vs H Q E h=> ?_) (λclos eQ f A outer s H kE vs Q E hr h=> ?_)
 . obtain⟨x,p,ls,cs,s,t,rfl,rfl,_⟩:=h;rfl
 obtain⟨x,p,ls,cs,i,j,rfl,rfl,hp,⟨dx,tl,tt,tg,us,m1,m2,m3,m4,m5⟩,hi,hj,q⟩:=h
 have nd:=wQ.nd
 refine⟨_,(aK (cE (gC uA (gC fA (bV gL (pv 0) aI (λ_ _=>rfl)) (iD (pv 1) rfl) rfl) (gC fA (bV gL (pv 0) aI (λ_ _=>rfl)) (iD (pv 1) rfl) rfl) (cL _)))),?_⟩
 try dsimp only[eV,Cx.nox,Cx.wish]
 have g1: ∀{i:Nat},i<cs.length->(if false=true then !tM (.int (i:Int)) ((nK cs cs.length).map V.int)else tM (.int (i:Int)) ((nK cs cs.length).map V.int))=(aQ ls.length cs).gd i:= λhi=>w4 hi
 refine⟨_,rfl,p,_,_,_,rfl,rfl,fR.of hp,rfl,_,rfl,x,C,dx,_,_,rfl,m1,S.cls,S.n3,rfl,tg,_,rfl,.inr (fR.of m5),rfl,fQ _,?_⟩
 rw[g1 hi]
 refine⟨_,rfl,p,_,_,_,rfl,rfl,fR.of hp,rfl,_,rfl,x,C,dx,_,_,rfl,m1,S.cls,S.n3,rfl,tg,_,rfl,.inr (fR.of m5),rfl,fQ _,?_⟩
 rw[g1 hj]
 refine⟨rfl,?_⟩
 have e:(!decide (V.bl ((aQ ls.length cs).gd i)=V.bl ((aQ ls.length cs).gd j)))=((aQ ls.length cs).gd i != (aQ ls.length cs).gd j):=by
  cases(aQ ls.length cs).gd i<;>cases(aQ ls.length cs).gd j<;>rfl
 rw[e]
 exact q
def pk(p:Nat×Nat):NK:= .p [(p.1:Int),(p.2:Int)]
def goK(M:Mc):NK->Nat->NK:= λt a=>match t with
 | .p [x,y]=>pk (fC M (x.toNat,y.toNat) a)
 |t=>t
def fnK(M:Mc):NK->Bool:= λt=>match t with
 | .p [x,y]=>gO M (x.toNat,y.toNat)
 |_=>false
theorem zT(M:Mc)(p:Nat×Nat)(a:Nat):goK M (pk p) a=pk (fC M p a):=by
 show pk (fC M (((p.1:Nat):Int).toNat,((p.2:Nat):Int).toNat) a)=_
 rw[Int.toNat_natCast,Int.toNat_natCast]
theorem zab(M:Mc)(p:Nat×Nat):fnK M (pk p)=gO M p:=by
 show gO M (((p.1:Nat):Int).toNat,((p.2:Nat):Int).toNat)=_
 rw[Int.toNat_natCast,Int.toNat_natCast]
theorem zeT(M:Mc): ∀(u:List Nat) (p:Nat×Nat),dD (goK M) (pk p) u=pk (dD (fC M) p u):=by
 intro u
 induction u with
 |nil=>intro p;rfl
 |cons a u ih=>
  intro p;show dD (goK M) (goK M (pk p) a) u=pk (dD (fC M) (fC M p a) u);rw[zT,ih]
theorem zpV(M:Mc)(p:Nat×Nat):Fd (goK M) (fnK M) (pk p)=Fd (fC M) (gO M) p:=by
 funext u
 show(fnK M (dD (goK M) (pk p) u)=true)=(gO M (dD (fC M) p u)=true)
 rw[zeT,zab]
theorem zdF{n:Nat}(h:n<=24){ts:List NK}(vK:ts.Nodup)(lX: ∀t∈ts,∃p:Nat×Nat,t=pk p/\p.1<n/\p.2<n):ts.length<=600:=by
 have p:=zcE (n * n) (ts.map λt=>match t with| .p [x,y]=>x.toNat * n+y.toNat|_=>0) ?_ ?_
 . rw[bH]at p;have:n * n<=24 * 24:=Nat.mul_le_mul h h;omega
 . rw[List.Nodup,List.pairwise_map];refine vK.imp_of_mem λ{a b} ha hb sB z=> ?_;obtain⟨⟨s,t⟩,rfl,h1,h2⟩:=lX a ha;obtain⟨⟨s',t'⟩,rfl,h3,h4⟩:=lX b hb;have z':s * n+t=s' * n+t':=z;have h2:t<n:=h2;have h4:t'<n:=h4;have e1:t=t':=by
    have:=congrArg (· % n) z';simpa [Nat.mul_add_mod,Nat.mul_comm,Nat.mod_eq_of_lt h2,Nat.mod_eq_of_lt h4]using this
   subst e1;have e2:s=s':=Nat.eq_of_mul_eq_mul_right (show 0<n by omega) (Nat.add_right_cancel z');exact sB (by rw[e2])
 . intro c hc;obtain⟨t,ht,rfl⟩:=List.mem_map.mp hc;obtain⟨⟨s,t'⟩,rfl,h1,h2⟩:=lX t ht;have h1:s<n:=h1;have h2:t'<n:=h2;show s * n+t'<n * n;have:(s+1) * n<=n * n:=Nat.mul_le_mul_right n h1;rw[Nat.add_mul,Nat.one_mul]at this;omega
theorem zlE:(Str.ofString "parted_from" ++Str.ofString ".<locals>.")++Str.ofString "goes" =qGo:=by decide+kernel
theorem zgz:(Str.ofString "parted_from" ++Str.ofString ".<locals>.")++Str.ofString "parts" =qGd:=by decide+kernel
theorem zcA{S:Nat}{cd:Value}{f:Addr}:qualnameIn (envOfC "parted_from" (aH bE) S f cd) "goes" "goes" =qGo:=by
 unfold qualnameIn
 rw[if_neg]
 . exact zlE
 . show ¬((aH bE).names.lookup (Str.ofString "goes")==some NameKind.globalExplicit)=true
   decide+kernel
theorem zQ{S:Nat}{cd:Value}{f:Addr}:qualnameIn (envOfC "parted_from" (aH bE) S f cd) "parts" "parts" =qGd:=by
 unfold qualnameIn
 rw[if_neg]
 . exact zgz
 . show ¬((aH bE).names.lookup (Str.ofString "parts")==some NameKind.globalExplicit)=true
   decide+kernel
abbrev rC(S:Nat):List (Str×Addr):=[("machine",S+1)]
abbrev oB(S:Nat):List (Str×Addr):=[("machine",S+1)]
abbrev tb1(c1:Addr):Array Value:= #[]++ #[rawInt 76,rawInt 4,.ref c1]
abbrev tb2(c1 c2:Addr):Array Value:=tb1 c1++ #[rawInt 79,rawInt 4,.ref c2]
def gN(H:Hp)(p:Addr):Prop:=H p=some (.tbl #[])\/ ∃c1 c2,H p=some (.tbl (tb2 c1 c2))/\H c1=some (fF c1 qGo)/\H c2=some (fF c2 qGd)
theorem gN.same{p:Addr}{H H':Hp}(h:gN H p)(x:Same H H'):gN H' p:=by
 rcases h with h|⟨c1,c2,h,h1,h2⟩
 . exact .inl (x _ _ h)
 . exact .inr ⟨c1,c2,x _ _ h,x _ _ h1,x _ _ h2⟩
theorem gN.some{p:Addr}{H:Hp}(h:gN H p): ∃ps,H p=some (.tbl ps):=by
 rcases h with h|⟨c1,c2,h,_⟩
 . exact⟨_,h⟩
 . exact⟨_,h⟩
theorem pG.mo{p:Addr}{H H':Hp}{C x:Addr}{ls:List Str}{tb:List (List Int)}{zs:List Int}{ps:Array Value}(b:pG p H H')(hp:H p=some (.tbl ps))(m:uZ C H x ls tb zs):uZ C H' x ls tb zs:=by
 have k: ∀{b:Addr} {u:HO},H b=some u->(∀ps,u≠ .tbl ps)->H' b=some u:= λ{c u} e n=>b c u (λz=>by rw[z,hp]at e;exact n _ (Option.some.inj e).symm) e
 obtain⟨dx,tl,tt,tg,us,h1,⟨o,h2,r⟩,h3,h4,h5⟩:=m
 exact⟨dx,tl,tt,tg,us,k h1 (λ_=>nofun),⟨o,k h2 (λ_=>nofun),r⟩,k h3 (λ_=>nofun),Paired.mapP h4 λ_ _ z=>k z (λ_=>nofun),k h5 (λ_=>nofun)⟩
theorem pG.lst{p:Addr}{H H':Hp}{a:Addr}{xs:List V}{ps:Array Value}(b:pG p H H')(hp:H p=some (.tbl ps))(h:H a=some (.lst xs)):H' a=some (.lst xs):=b a _ (λz=>by rw[z,hp]at h;cases h) h
section
variable {pt cc:Addr}
theorem okC{x qual:Str}{st:Stmt}{N ps:List Str}{sp:Sp}(F:mR K x qual st f fd)(S:bS N ps (aH st))(len: ∀vs H Q E,sp vs H Q E->vs.length=ps.length)
 (mY: ∀(eQ:Value),fd.code=eQ-> ∀(A:Around) (outer:List Env) (s:Shared) (H:Hp) (vs:List V) (Q:VK) (E:XK),eK k (A.deeper (envOfC qual (aH st) s.heap.objs.size f eQ))->sp vs H Q E->
  ∃t,xQ (eV gU P w K mg base N qual (aH st) f eQ A outer s H E).nox (cM st) t/\t {nx:= λ_ H'=>Q .non H',rt:=Q} (start N vs) H):dN P w K mg base gU (k+1) f fd ps sp:=by
 obtain⟨oc,od,kV,lA,pm,an,eQ,ct,osl,rfl,lk,pF⟩:=F.ex
 refine zje lk pF S len λA outer s H vs Q E hr wW=> ?_
 obtain⟨t,h,q⟩:=mY eQ rfl A outer s H vs Q E hr wW
 exact⟨t,h.nox,q⟩
abbrev zdn(P:Program)(w:World)(C:Addr):Sp:=zax P w "goes" qGo "parts" qGd (dP gJ) (dP eU) (cM gJ) (cM eU) (aH gJ) (aH eU) ["machine"] ["machine"] (zou C) (zoO C) .p
def rM(C pt:Addr):Sp:= λvs H Q _=> ∃(x:Addr) (ls:List Str) (cs:fX) (a b:Nat),vs=[.ref x,.int a,.int b]/\MoS C H x ls cs/\Wc ls.length cs/\ls.length<=60/\cs.length<=24/\a<cs.length/\b<cs.length/\gN H pt/\
 (∀D u H',SL ls.length (Fd (fC (aQ ls.length cs)) (gO (aQ ls.length cs)) (a,b)) u->pG pt H H'->gN H' pt->H D=none->H' D=some (.lst ((u.map λa=>ls.getD a "").map V.str))->Q (.ref D) H')/\
 (∀H',(∀u,Vw ls.length u->gO (aQ ls.length cs) (dD (fC (aQ ls.length cs)) (a,b) u)=false)->pG pt H H'->gN H' pt->Q .non H')
theorem tH:bS ["machine","one","other","goes","parts"] ["machine","one","other"] (aH bE):=(.of rfl rfl rfl rfl (by decide+kernel))
theorem zlk{H':Hp}{ds:List (Addr×Obj)}(h: ∀d o,ds.lookup d=some o->H' d=some (iK d o)){b:Addr}{xs:List V}(e:H' b=some (.lst xs)):unlend H' ds b=some (.lst xs):=zbr h e (λ_=>nofun)
theorem zfg{H':Hp}{ds:List (Addr×Obj)}(h: ∀d o,ds.lookup d=some o->H' d=some (iK d o)){b:Addr}{xs:List V}(e:H' b=some (.tup xs)):unlend H' ds b=some (.tup xs):=zbr h e (λ_=>nofun)
theorem zbE(F:mR K "parted_from" "parted_from" bE f fd)(B:Bt mg)(S:MoC K C)(hB:lM mg base)(hfc:fd.code= .ref cc)(hC: ∀h,K.In h->PySem.W.CodeHd h cc pt)(G_first_row:Fn P w K mg base k "first_row" ["letters","start","goes","found"] (zdn P w C) g gd):dN P w K mg base gU (k+1) f fd ["machine","one","other"] (rM C pt):=by
 refine okC F tH (λvs H Q E h=> ?_) (λeQ znB A outer s H vs Q E hr h=> ?_)
 . obtain⟨x,ls,cs,a,b,rfl,_⟩:=h;rfl
 obtain⟨x,ls,cs,a,b,rfl,hM,W,l60,sX,ha,hb,hT,q1,q2⟩:=h
 rw[hfc]at znB
 subst znB
 have nd:=tH.nd
 have xI:(eV gU P w K mg base ["machine","one","other","goes","parts"] "parted_from" (aH bE) f (.ref cc) A outer s H E).nox.env.code= .ref cc:=rfl
 have hns: ∀n∈(["machine"]:List Str),(eV gU P w K mg base ["machine","one","other","goes","parts"] "parted_from" (aH bE) f (.ref cc) A outer s H E).nox.env.scope.names.lookup n=some .cell/\(eV gU P w K mg base ["machine","one","other","goes","parts"] "parted_from" (aH bE) f (.ref cc) A outer s H E).nox.fn n=true:=by
  intro n h;rw[List.mem_singleton.mp h];exact⟨rfl,rfl⟩
 have hjs: ∀(i j:Nat) (n:Str),([0]:List Nat)[i]?=some j->(["machine"]:List Str)[i]?=some n->(eV gU P w K mg base ["machine","one","other","goes","parts"] "parted_from" (aH bE) f (.ref cc) A outer s H E).nox.N[j]?=some n:=by
  intro i j n h1 h2
  match i,h1,h2 with
  |0,h1,h2=>cases h1;cases h2;rfl
 refine⟨_,(aE (zds (i:=3) (clos:=rC s.heap.objs.size) hB xI hC nd rfl (Or.inl rfl) rfl zcA) (aE (zds (i:=4) (clos:=oB s.heap.objs.size) hB xI hC nd rfl (Or.inl rfl) rfl zQ) (aK (cE (zdR (ns:=["machine"]) (js:=[0]) G_first_row.ok hr rfl G_first_row.at_ G_first_row.kp G_first_row.bn hns hjs (aB (iD (pv 0) rfl) (aB (eE (aB (pv 1) (aB (pv 2) aC))) (aB (pv 3) (aB (pv 4) aC))))))))),?_⟩
 try dsimp only[eV,Cx.nox,Cx.wish]
 refine wH ?_
 intro D0 σ0 U3 U2
 have tail: ∀(c1 c2 rO fl2:Addr) (o1 o2:Obj) (H3:Hp),pG pt H H3->gN H3 pt->H3 rO=some (oY rO o1)->H3 fl2=some (oY fl2 o2)->H3 c1=some (fF c1 qGo)->H3 c2=some (fF c2 qGd)->zbx "goes" qGo (dP gJ) (cM gJ) (aH gJ) (rC s.heap.objs.size) c1 o1->zbx "parts" qGd (dP eU) (cM eU) (aH eU) (oB s.heap.objs.size) c2 o2->
  U3 D0 [some (.ref x),some (.int (a:Int)),some (.int (b:Int)),some (.ref rO),some (.ref fl2)] H3:=by
  intro c1 c2 rO fl2 o1 o2 H3 b3 hT3 f1 f2 hc1 hc2 i1 i2;obtain⟨ps,hps⟩:=hT.some;have hM3:=b3.mo hps hM;obtain⟨dx,tl,tt,tg,us,m1,m2,m3,m4,m5⟩:=id hM3;refine⟨_,rfl,x,C,dx,_,_,rfl,m1,S.cls,S.n1,rfl,_,rfl,_,rfl,dF 2,λp hp=> ?_⟩;obtain⟨H4,e0,xp,kp⟩:=eJ hp (.tup [.int (a:Int),.int (b:Int)]);rw[e0];refine⟨_,rfl,_,rfl,?_⟩;intro ds cv hds gT hcv;obtain⟨d1,od1,e1,l1,k1⟩:=hds "machine" List.mem_cons_self;have e1:some (s.heap.objs.size+1)=some d1:=e1;cases e1;have v1:=hcv 0 0 "machine" (.ref x) rfl rfl rfl;have xl:=zbW gT;have off: ∀{b:Addr} {u:HO},H4 b=some u->ds.lookup b=none:= λ{b u} e=>by
   cases z:ds.lookup b with
   |none=>rfl
   |some o=>rw[gT b o z]at e;cases e
  have hM4:=hM3.same xp;have yH: ∀{H':Hp} {v:V} {q:Nat×Nat},dQ H' v (pk q)-> ∃r,v= .ref r/\H' r=some (.tup [.int (q.1:Int),.int (q.2:Int)]):= λh=>h;refine⟨tl,rO,fl2,.ref p,ls,ds,[.ref x],[.ref x],pk (a,b),goK (aQ ls.length cs),fnK (aQ ls.length cs),λt=> ∃q:Nat×Nat,t=pk q/\q.1<cs.length/\q.2<cs.length,rfl,(m2.same xp).same xl,⟨c1,o1,rC s.heap.objs.size,cv,xl _ _ (xp _ _ f1),i1,xl _ _ (xp _ _ hc1),?_,?_,?_,.cons v1 .nil,λd o e=>jO e,off (xp _ _ f1),off (xp _ _ hc1)⟩,⟨c2,o2,oB s.heap.objs.size,cv,xl _ _ (xp _ _ f2),i2,xl _ _ (xp _ _ hc2),?_,?_,?_,.cons v1 .nil,λd o e=>jO e,off (xp _ _ f2),off (xp _ _ hc2)⟩,⟨p,rfl,xl _ _ kp⟩,⟨⟨_,rfl,ha,hb⟩,?_,?_,?_,?_,?_⟩,l60,.inr rfl,?_,?_⟩
  . intro n d hm;cases List.mem_singleton.mp hm;exact⟨by decide+kernel,od1,l1,k1⟩
  . exact List.pairwise_singleton _ _
  . intro n hn;rw[List.mem_singleton.mp hn];exact⟨_,rfl⟩
  . intro n d hm;cases List.mem_singleton.mp hm;exact⟨by decide+kernel,od1,l1,k1⟩
  . exact List.pairwise_singleton _ _
  . intro n hn;rw[List.mem_singleton.mp hn];exact⟨_,rfl⟩
  . rintro t c ⟨q,rfl,h1,h2⟩ hc;rw[zT];exact⟨_,rfl,W.ok.lt _ c h1 hc,W.ok.lt _ c h2 hc⟩
  . rintro t ⟨q,rfl,_⟩;rfl
  . exact λts vK lX=>zdF sX vK lX
  . rintro H' v t c Q' x' hN ⟨q,rfl,h1,h2⟩ hc q';obtain⟨r,rfl,hr⟩:=yH hN;have cell:=mK x';have xu:=pJ gT x';refine⟨x,r,ls,cs,q.1,q.2,c,rfl,rfl,zfg cell hr,hM4.same xu,W,h1,h2,hc,λl r' H'' x'' l0 hl r0 hr' vK=> ?_⟩;have zkx: ∀{b:Addr} {u:HO},H'' b=some u->ds.lookup b=none:= λ{b u} e=>by
     cases z:ds.lookup b with
     |none=>rfl
     |some o=>rw[vK b o z]at e;cases e
    have xx:Same H' (lend H'' ds):= λb o e=>by
     cases z:ds.lookup b with
     |none=>
      rw[bT z];exact x'' b o (by rw[bL z];exact e)
     |some o'=>
      rw[jO z,<-e];exact(cell b o' z).symm
    refine q' l (.ref r') _ xx ?_ ?_ ?_
    . have z:=zkx hl;rw[bL z]at l0;exact l0
    . rw[bT (zkx hl)];exact hl
    . rw[zT];exact⟨r',rfl,by rw[bT (zkx hr')];exact hr'⟩
  . rintro H' v t Q' x' hN ⟨q,rfl,h1,h2⟩ q';obtain⟨r,rfl,hr⟩:=yH hN;have cell:=mK x';have xu:=pJ gT x';refine⟨x,r,ls,cs,q.1,q.2,rfl,rfl,zfg cell hr,hM4.same xu,h1,h2,?_⟩;show Q' _ (lend (unlend H' ds) ds);rw[zgY cell];have:=q' H' (Same.refl _);rw[zab]at this;exact this
  . intro D u H' hu x' D0' hD;have cell:=mK x';have xu:=pJ gT x';rw[zpV]at hu;refine⟨cell,q1 D u _ hu ?_ ((hT3.same xp).same xu) ?_ (zlk cell hD)⟩
    . exact(b3.trans (Same.but xp)).trans (Same.but xu)
    . have z:ds.lookup D=none:=by
       cases z:ds.lookup D with
       |none=>rfl
       |some o=>rw[jO z]at D0';cases D0'
      rw[bT z]at D0';have D3:=xp.free D0';cases e:H D with
      |none=>rfl
      |some o=>
       rcases Nat.decEq D pt with n|n
       . rw[b3 D o n e]at D3;cases D3
       . subst n;obtain⟨_,e3⟩:=hT3.some;rw[e3]at D3;cases D3
  . intro H' hu x';have cell:=mK x';have xu:=pJ gT x';refine⟨cell,q2 _ (λu hv=> ?_) ((b3.trans (Same.but xp)).trans (Same.but xu)) ((hT3.same xp).same xu)⟩;have:=hu u hv;rw[zeT,zab]at this;exact this
 rcases hT with hT|⟨c1,c2,hT,hc1,hc2⟩
 . refine⟨#[],hT,trivial,.inl ⟨rfl,λc1 rO o1 nc1 nf1 zso i1=> ?_⟩⟩;have npt: ∀{b:Addr},H b=none->b≠pt:= λh z=>by rw[z,hT]at h;cases h
   have p3:aN (aN (aN H pt (.tbl (tb1 c1))) c1 (fF c1 qGo)) rO (oY rO o1) pt=some (.tbl (tb1 c1)):=by rw[aD (npt nf1).symm,aD (npt nc1).symm];exact aG
   have b3:pG pt H (aN (aN (aN H pt (.tbl (tb1 c1))) c1 (fF c1 qGo)) rO (oY rO o1)):= λb u nb h=>by rw[aD (aF h nf1),aD (aF h nc1),aD nb];exact h
   have f3:aN (aN (aN H pt (.tbl (tb1 c1))) c1 (fF c1 qGo)) rO (oY rO o1) rO=some (oY rO o1):=aG;have d3:aN (aN (aN H pt (.tbl (tb1 c1))) c1 (fF c1 qGo)) rO (oY rO o1) c1=some (fF c1 qGo):=by rw[aD zso];exact aG
   generalize aN (aN (aN H pt (.tbl (tb1 c1))) c1 (fF c1 qGo)) rO (oY rO o1)=H3 at p3 b3 f3 d3 ⊢;refine⟨tb1 c1,p3,trivial,.inl ⟨rfl,λc2 fl2 o2 nc2 nf2 zmC i2=> ?_⟩⟩;have znU: ∀{b:Addr},H3 b=none->b≠pt:= λh z=>by rw[z,p3]at h;cases h
   have b4:pG pt H3 (aN (aN (aN H3 pt (.tbl (tb2 c1 c2))) c2 (fF c2 qGd)) fl2 (oY fl2 o2)):= λb u nb h=>by rw[aD (aF h nf2),aD (aF h nc2),aD nb];exact h
   have nf:rO≠pt:= λz=>by rw[z,p3]at f3;cases f3
   have nd':c1≠pt:= λz=>by rw[z,p3]at d3;cases d3
   refine tail c1 c2 rO fl2 o1 o2 _ (b3.trans b4) (.inr ⟨c1,c2,?_,b4 _ _ nd' d3,?_⟩) (b4 _ _ nf f3) aG (b4 _ _ nd' d3) ?_ i1 i2
   . rw[aD (znU nf2).symm,aD (znU nc2).symm];exact aG
   . rw[aD zmC];exact aG
   . rw[aD zmC];exact aG
 . refine⟨tb2 c1 c2,hT,trivial,.inr ⟨c1,rfl,hc1,λrO o1 nf1 i1=> ?_⟩⟩;obtain⟨H3,e0,x3,f3⟩:=eJ nf1 (oY rO o1);rw[e0];refine⟨tb2 c1 c2,x3 _ _ hT,trivial,.inr ⟨c2,rfl,x3 _ _ hc2,λfl2 o2 nf2 i2=> ?_⟩⟩;have x4:Same H3 (aN H3 fl2 (oY fl2 o2)):=aX nf2;have x34:=x3.trans x4;exact tail c1 c2 rO fl2 o1 o2 _ x34.but (.inr ⟨c1,c2,x34 _ _ hT,x34 _ _ hc1,x34 _ _ hc2⟩) (x4 _ _ f3) aG (x34 _ _ hc1) (x34 _ _ hc2) i1 i2
end
abbrev Fs:=List ((Nat×Nat)×Nat)
def nP(fs:Fs):List (List Int×V):=fs.map λp=>([(p.1.1:Int),(p.1.2:Int)],V.int (p.2:Int))
def vJ(fs:Fs):List (NK×V):=fs.map λp=>(pk p.1,V.int (p.2:Int))
theorem zbf{H:Hp}{d:Addr}{fs:Fs}(h:H d=some (.dT (iF (nP fs)))):ND P w .p H d (vJ fs):=by
 refine⟨nP fs,?_,h⟩
 unfold vJ nP
 rw[List.map_map];rfl
theorem pH(a b:Fs):nP (a++b)=nP a++nP b:=List.map_append ..
theorem zap(a:Fs):(nP a).length=a.length:=bH ..
theorem u6{p q:Nat×Nat}(h:pk p=pk q):p=q:=by
 obtain⟨a,b⟩:=p
 obtain⟨c,d⟩:=q
 unfold pk at h
 injection h with h
 injection h with h1 h2
 injection h2 with h2 _
 exact Prod.ext (Int.ofNat_inj.mp h1) (Int.ofNat_inj.mp h2)
theorem zhw(fs:Fs):(nP fs).map (·.1)=(fs.map (·.1)).map λp:Nat×Nat=>[(p.1:Int),(p.2:Int)]:=by
 unfold nP
 rw[List.map_map,List.map_map];rfl
theorem wI{fs:Fs}(h:(fs.map (·.1)).Nodup):((nP fs).map (·.1)).Nodup:=by
 rw[zhw]
 refine List.Pairwise.map _ (λa b sB e=>sB ?_) h
 injection e with h1 h2
 injection h2 with h2 _
 obtain⟨a1,a2⟩:=a
 obtain⟨b1,b2⟩:=b
 exact Prod.ext (Int.ofNat_inj.mp h1) (Int.ofNat_inj.mp h2)
theorem zad: ∀{fs:Fs} {p:Nat×Nat},(∀k,(p,k)∉fs)->dI (vJ fs) (pk p)=none
 | [],_,_=>rfl
 |q::fs,p,h=>by
  have ne: ¬pk q.1=pk p:= λe=>h q.2 (by rw[<-u6 e];exact List.mem_cons_self);unfold vJ;rw[List.map_cons,fI (p:=(pk q.1,V.int (q.2:Int))) ne];exact zad λk hk=>h k (List.mem_cons_of_mem _ hk)
theorem zaA: ∀{fs:Fs} {p:Nat×Nat} {k:Nat},(fs.map (·.1)).Nodup->(p,k)∈fs->dI (vJ fs) (pk p)=some (.int (k:Int))
 | [],_,_,_,h=>nomatch h
 |q::fs,p,k,hn,h=>by
  rw[List.map_cons]at hn;obtain⟨h1,h2⟩:=List.nodup_cons.mp hn;unfold vJ;rw[List.map_cons]
  rcases List.mem_cons.mp h with e|h
  . subst e;exact gE (p:=(pk p,V.int (k:Int))) rfl
  . have ne: ¬pk q.1=pk p:= λe=>h1 (List.mem_map.mpr ⟨_,h,(u6 e).symm⟩);rw[fI (p:=(pk q.1,V.int (q.2:Int))) ne];exact zaA h2 h
structure kF(M:Mc)(T:Nat)(fs:Fs):Prop where
 nd:(fs.map (·.1)).Nodup
 is: ∀p k,(p,k)∈fs->oX M T p k/\p.1<M.n/\p.2<M.n
 all: ∀p k,p.1<M.n->p.2<M.n->oX M T p k->(p,k)∈fs
theorem kF.has{M:Mc}{T:Nat}{fs:Fs}(h:kF M T fs){p:Nat×Nat}(h1:p.1<M.n)(h2:p.2<M.n):(dI (vJ fs) (pk p)).isSome=true↔ ∃d,oX M T p d:=by
 constructor
 . intro hs
   by_cases e: ∃k,(p,k)∈fs
   . obtain⟨k,hk⟩:=e;exact⟨k,(h.is p k hk).1⟩
   . rw[zad λk hk=>e ⟨k,hk⟩]at hs;cases hs
 . rintro⟨d,hd⟩;rw[zaA h.nd (h.all p d h1 h2 hd)];rfl
theorem kF.few{M:Mc}{T:Nat}{fs:Fs}(h:kF M T fs)(n24:M.n<=24):fs.length<=600:=by
 have:=zdF (n:=M.n) n24 (ts:=fs.map λp=>pk p.1) ?_ λt ht=> ?_
 . rw[bH]at this;exact this
 . rw[show(fs.map λp=>pk p.1)=(fs.map (·.1)).map pk by rw[List.map_map];rfl];exact List.Pairwise.map _ (λa b sB e=>sB (u6 e)) h.nd
 . obtain⟨⟨p,k⟩,hp,rfl⟩:=List.mem_map.mp ht;exact⟨p,rfl,(h.is p k hp).2⟩
def wD(n i:Nat):List (Nat×Nat):=(List.range i).flatMap λa=>(List.range n).map λb=>(a,b)
theorem pN{n i:Nat}{p:Nat×Nat}:p∈wD n i↔p.1<i/\p.2<n:=by
 unfold wD
 rw[List.mem_flatMap]
 constructor
 . rintro⟨a,ha,hp⟩;obtain⟨b,hb,rfl⟩:=List.mem_map.mp hp;exact⟨List.mem_range.mp ha,List.mem_range.mp hb⟩
 . rintro⟨h1,h2⟩;exact⟨p.1,List.mem_range.mpr h1,List.mem_map.mpr ⟨p.2,List.mem_range.mpr h2,rfl⟩⟩
theorem vD(n i:Nat):wD n (i+1)=wD n i++(List.range n).map λb=>(i,b):=by
 unfold wD
 rw[List.range_succ,List.flatMap_append,List.flatMap_cons,List.flatMap_nil,List.append_nil]
theorem rP(n:Nat): ∀i,(wD n i).length=i * n
 |0=>by rw[Nat.zero_mul];rfl
 |i+1=>by rw[vD,List.length_append,rP n i,bH,List.length_range,Nat.succ_mul]
theorem rJ(n:Nat): ∀i,(wD n i).Nodup
 |0=>List.nodup_nil
 |i+1=>by
  rw[vD];refine List.nodup_append.mpr ⟨rJ n i,List.Pairwise.map _ (λa b sB e=>sB (congrArg Prod.snd e)) List.nodup_range,λa ha b hb e=> ?_⟩;obtain⟨c,_,rfl⟩:=List.mem_map.mp hb;rw[e]at ha;have:=(pN.mp ha).1;exact Nat.lt_irrefl _ this
theorem zcu{M:Mc}:kF M 0 (((wD M.n M.n).filter λp=>gO M p).map λp=>(p,0)):=by
 refine⟨?_,λp k hp=> ?_,λp k h1 h2 hf=> ?_⟩
 . rw[List.map_map];show(List.map id _).Nodup;rw[List.map_id];exact(rJ M.n M.n).filter _
 . obtain⟨q,hq,e⟩:=List.mem_map.mp hp;cases e;obtain⟨q1,q2⟩:=List.mem_filter.mp hq;exact⟨xG.mpr ⟨rfl,q2⟩,pN.mp q1⟩
 . obtain⟨rfl,h⟩:=xG.mp hf;exact List.mem_map.mpr ⟨p,List.mem_filter.mpr ⟨pN.mpr ⟨h1,h2⟩,h⟩,rfl⟩
open Classical in
theorem zev{M:Mc}{T:Nat}{fs:Fs}(h:kF M T fs){ps:List (Nat×Nat)}(hn:ps.Nodup)(hp: ∀p,p∈ps↔(p.1<M.n/\p.2<M.n)/\fD (fC M) (gO M) M.m (T+1) p):kF M (T+1) (fs++ps.map λp=>(p,T+1)):=by
 have pm:(ps.map λp=>(p,T+1)).map (·.1)=ps:=by rw[List.map_map];show List.map id ps=ps;exact List.map_id _
 refine⟨?_,λp k hm=> ?_,λp k h1 h2 hf=> ?_⟩
 . rw[List.map_append,pm];refine List.nodup_append.mpr ⟨h.nd,hn,λa ha b hb e=> ?_⟩;subst e;obtain⟨⟨q,k⟩,hq,rfl⟩:=List.mem_map.mp ha;have d1:=(h.is q k hq).1;have d2:=((hp q).mp hb).2;have:=d1.2.one d2;have:=d1.1;omega
 . rcases List.mem_append.mp hm with z|z
   . obtain⟨a,b⟩:=h.is p k z;exact⟨qU.mpr (.inl a),b⟩
   . obtain⟨q,hq,e⟩:=List.mem_map.mp z;cases e;obtain⟨b,d⟩:=(hp p).mp hq;exact⟨qU.mpr (.inr ⟨rfl,d⟩),b⟩
 . rcases qU.mp hf with z|⟨rfl,d⟩
   . exact List.mem_append_left _ (h.all p k h1 h2 z)
   . exact List.mem_append_right _ (List.mem_map.mpr ⟨p,(hp p).mpr ⟨⟨h1,h2⟩,d⟩,rfl⟩)
def qS(H:Hp)(v:V)(p:Nat×Nat):Prop:= ∃t,v= .ref t/\H t=some (.tup [.int (p.1:Int),.int (p.2:Int)])
theorem qS.keep{H H':Hp}{v:V}{p:Nat×Nat}(h:qS H v p)(t:e9 H H'):qS H' v p:=by
 obtain⟨a,e,z⟩:=h
 exact⟨a,e,t _ _ z⟩
theorem zua{D:Addr}{Q:VK}{H1:Hp}{n a:Nat}(hn:n<=60)(hD:H1 D=none)
 (gT: ∀H' vs,Same H1 H'->H' D=some (.lst vs)->Paired (qS H') vs ((List.range n).map λb=>(a,b))->Q (.ref D) H'):
 bJ (tJ 0 n) D (bD 0) dJ (vG (aP (aL 1) (aP (aL 0) cG))) Q [none,some (.int (a:Int))] H1:=by
 refine cO (λi zs σ H=> ∃v:Option V,zs.length=i/\σ=[v,some (.int (a:Int))]/\Same H1 H/\Paired (qS H) zs ((List.range i).map λb=>(a,b))) ?_ (by omega) ?_ ?_ ?_
 . exact⟨none,rfl,rfl,aX hD,.nil⟩
 . rintro i zs σ H ⟨v,e,_⟩;exact Nat.le_of_eq e
 . rintro i zs σ H hi bZ ⟨v,e,rfl,x,hP⟩;rw[Int.zero_add];refine⟨_,rfl,_,rfl,dF 2,λp hp=> ?_⟩;have nD:D≠p:=aF bZ hp;have tk:e9 H (aN (aN H p (.tup [.int (a:Int),.int (i:Int)])) D (.lst (zs++[.ref p]))):= λb xs eb=>by
    rw[aD (cK eb bZ (λz=>nomatch z)),aD (aF eb hp)];exact eb
   refine⟨by rw[aD nD];exact bZ,_,by rw[List.length_append,e];rfl,rfl,(x.trans (aX hp)).at hD,?_⟩;rw[List.range_succ,List.map_append];refine bU (Paired.mapP hP λ_ _ z=>z.keep tk) (.cons ⟨p,rfl,?_⟩ .nil);rw[aD (Ne.symm nD)];exact aG
 . rintro zs σ H bZ ⟨v,e,_,x,hP⟩;exact gT H zs x bZ hP
theorem oK{α:Type}{q:α->Bool}{l:List α}{i:Nat}{x:α}(h:l[i]?=some x):(l.take (i+1)).filter q=(l.take i).filter q++if q x=true then [x]else []:=by
 rw[gS h,List.filter_append,List.filter_cons,List.filter_nil]
theorem zqj{D e G:Addr}{Q:VK}{H1:Hp}{vs:List V}{ps:List (Nat×Nat)}{cs:fX}{m:Nat}(h:vs.length<=600)(hb: ∀p∈ps,p.1<cs.length/\p.2<cs.length)(hD:H1 D=none)(he:H1 e=some (.lst vs))(hP:Paired (qS H1) vs ps)(hG:H1 G=some (.lst ((nK cs cs.length).map V.int)))
 (gT: ∀H' ts,Same H1 H'->H' D=some (.lst (ts.map V.ref))->Paired (i3 H') ts (nP ((ps.filter λp=>gO (aQ m cs) p).map λp=>(p,0)))->Q (.ref D) H'):
 bJ (zZ K e) D (bD 0) (iQ (eR rNe (eR (rIn K false) (eR (zeP K) (aL 0) (tC (.int 0))) (aL 1)) (eR (rIn K false) (eR (zeP K) (aL 0) (tC (.int 1))) (aL 1)))) (vG (aP (aL 0) (aP (tC (.int 0)) cG))) Q [none,some (.ref G)] H1:=by
 have hl:=Paired.length hP
 refine fP (xs:=vs) (λi zs σ H=> ∃(v:Option V) (ts:List Addr),zs=ts.map V.ref/\zs.length<=i/\σ=[v,some (.ref G)]/\Same H1 H/\Paired (i3 H) ts (nP (((ps.take i).filter λp=>gO (aQ m cs) p).map λp=>(p,0)))) ?_ (by omega) ?_ ?_ ?_ ?_
 . exact⟨none,[],rfl,Nat.le_refl _,rfl,aX hD,.nil⟩
 . rintro i zs σ H ⟨v,ts,_,e,_⟩;exact e
 . rintro i zs σ H ⟨v,ts,_,_,_,x,_⟩;exact aY.of (x _ _ he)
 . rintro i y zs σ H hy bZ ⟨v,ts,rfl,hlz,rfl,x,hT⟩;obtain⟨p,hp,t,rfl,ht⟩:=dR hP hy;obtain⟨b1,b2⟩:=hb p (List.mem_of_getElem? hp);have g1: ∀{i:Nat},i<cs.length->(if false=true then !tM (.int (i:Int)) ((nK cs cs.length).map V.int)else tM (.int (i:Int)) ((nK cs cs.length).map V.int))=(aQ m cs).gd i:= λhi=>w4 hi;have ht':=x _ _ ht;refine⟨_,rfl,t,_,_,_,rfl,rfl,fR.of ht',rfl,_,rfl,G,_,rfl,.inl (aY.of (x _ _ hG)),rfl,fQ _,?_⟩;rw[g1 b1];refine⟨_,rfl,t,_,_,_,rfl,rfl,fR.of ht',rfl,_,rfl,G,_,rfl,.inl (aY.of (x _ _ hG)),rfl,fQ _,?_⟩;rw[g1 b2];have ex:(!decide (V.bl ((aQ m cs).gd p.1)=V.bl ((aQ m cs).gd p.2)))=gO (aQ m cs) p:=by
    unfold gO;cases(aQ m cs).gd p.1<;>cases(aQ m cs).gd p.2<;>rfl
   refine⟨rfl,_,rfl,?_⟩;rw[ex];have fs:=oK (q:= λp=>gO (aQ m cs) p) hp;refine jA (λhq=> ?_) (λhq=> ?_)
   . rw[if_pos hq]at fs;refine⟨_,rfl,dF 2,λr hr=> ?_⟩;have nD:D≠r:=aF bZ hr;have tk:e9 H (aN (aN H r (.tup [.ref t,.int 0])) D (.lst (ts.map V.ref++[.ref r]))):= λb xs eb=>by
      rw[aD (cK eb bZ (λz=>nomatch z)),aD (aF eb hr)];exact eb
     refine⟨by rw[aD nD];exact bZ,_,ts++[r],by rw[List.map_append];rfl,by rw[List.length_append];exact Nat.succ_le_succ hlz,rfl,(x.trans (aX hr)).at hD,?_⟩;rw[fs,List.map_append,pH];refine bU (Paired.mapP hT λ_ _ ⟨a,e1,e2⟩=>⟨a,tk _ _ e1,tk _ _ e2⟩) (.cons ⟨t,?_,tk _ _ ht'⟩ .nil);rw[aD (Ne.symm nD)];exact aG
   . rw[if_neg hq,List.append_nil]at fs;refine⟨bZ,_,ts,rfl,Nat.le_succ_of_le hlz,rfl,x,?_⟩;rw[fs];exact hT
 . rintro zs σ H bZ ⟨v,ts,rfl,_,_,x,hT⟩;rw[hl,List.take_length]at hT;exact gT H ts x bZ hT
theorem zoj{D e:Addr}{Q:VK}{H1:Hp}{vs:List V}{ps:List (Nat×Nat)}{c:Nat}(h:vs.length<=600)(hD:H1 D=none)(he:H1 e=some (.lst vs))(hP:Paired (qS H1) vs ps)
 (gT: ∀H' ts,Same H1 H'->H' D=some (.lst (ts.map V.ref))->Paired (i3 H') ts (nP (ps.map λp=>(p,c)))->Q (.ref D) H'):
 bJ (zZ K e) D (bD 0) dJ (vG (aP (aL 0) (aP (aL 1) cG))) Q [none,some (.int (c:Int))] H1:=by
 have hl:=Paired.length hP
 refine fP (xs:=vs) (λi zs σ H=> ∃(v:Option V) (ts:List Addr),zs=ts.map V.ref/\zs.length<=i/\σ=[v,some (.int (c:Int))]/\Same H1 H/\Paired (i3 H) ts (nP ((ps.take i).map λp=>(p,c)))) ?_ (by omega) ?_ ?_ ?_ ?_
 . exact⟨none,[],rfl,Nat.le_refl _,rfl,aX hD,.nil⟩
 . rintro i zs σ H ⟨v,ts,_,e,_⟩;exact e
 . rintro i zs σ H ⟨v,ts,_,_,_,x,_⟩;exact aY.of (x _ _ he)
 . rintro i y zs σ H hy bZ ⟨v,ts,rfl,hlz,rfl,x,hT⟩;obtain⟨p,hp,t,rfl,ht⟩:=dR hP hy;have ht':=x _ _ ht;refine⟨_,rfl,_,rfl,dF 2,λr hr=> ?_⟩;have nD:D≠r:=aF bZ hr;have tk:e9 H (aN (aN H r (.tup [.ref t,.int (c:Int)])) D (.lst (ts.map V.ref++[.ref r]))):= λb xs eb=>by
    rw[aD (cK eb bZ (λz=>nomatch z)),aD (aF eb hr)];exact eb
   refine⟨by rw[aD nD];exact bZ,_,ts++[r],by rw[List.map_append];rfl,by rw[List.length_append];exact Nat.succ_le_succ hlz,rfl,(x.trans (aX hr)).at hD,?_⟩;rw[gS hp,List.map_append,pH];refine bU (Paired.mapP hT λ_ _ ⟨a,e1,e2⟩=>⟨a,tk _ _ e1,tk _ _ e2⟩) (.cons ⟨t,?_,tk _ _ ht'⟩ .nil);rw[aD (Ne.symm nD)];exact aG
 . rintro zs σ H bZ ⟨v,ts,rfl,_,_,x,hT⟩;rw[hl,List.take_length]at hT;exact gT H ts x bZ hT
def Bi(x:Int):Prop:= -10<=x/\x<=1000000000
theorem eB{α β:Type}{F G:α->β->Prop}{l:List α}{m:List β}(h:Paired F l m):(∀a b,a∈l->F a b->G a b)->Paired G l m:=pT h
theorem drawn{D a l:Addr}{Q:VK}{H1:Hp}{m:Int}{ls:List Str}(h0:0<m)(h8:m<=24)(hD:H1 D=none)(hF:aS H1 a)(hl:H1 l=some (.lst (ls.map V.str)))(nl:l≠a)(h6:ls.length<=6)
 (gT: ∀(row:List Int) (H':Hp),row.length=ls.length->(∀x∈row,0<=x/\x<m)->aS H' a->gH a H1 H'->H' D=some (.lst (row.map V.int))->Q (.ref D) H'):
 bJ (zZ K l) D (bD 0) dJ (iG dS [] E0 (aP (aL 1) (aP (aL 2) cG))) Q [none,some (.ref a),some (.int m)] H1:=by
 have nD:=bN hD hF
 have nDl:D≠l:= λe=>by rw[e,hl]at hD;cases hD
 refine fP (xs:=ls.map V.str) (λi ys σ H=> ∃(row:List Int) (v:Option V),ys=row.map V.int/\row.length=i/\(∀x∈row,0<=x/\x<m)/\σ=[v,some (.ref a),some (.int m)]/\aS H a/\gH a H1 H) ?_ (by rw[bH];omega) ?_ ?_ ?_ ?_
 . exact⟨[],none,rfl,rfl,(by intro _ z;cases z),rfl,hF.new hD,gH.new hD⟩
 . rintro i ys σ H ⟨row,v,rfl,e,_⟩;rw[bH,e];exact Nat.le_refl _
 . rintro i ys σ H ⟨row,v,_,_,_,_,_,x⟩;exact aY.of (x _ _ nl hl)
 . rintro i y ys σ H hy bZ ⟨row,v,rfl,e,hb,rfl,fl,x⟩;refine⟨_,rfl,_,rfl,a,m,rfl,fl,h0,by omega,λr H4 r0 r1 f4 x4=>⟨x4 _ _ nD bZ,row++[r],_,by rw[List.map_append];rfl,by rw[List.length_append,e];rfl,λz hz=> ?_,rfl,f4.set (Ne.symm nD),?_⟩⟩
   . rcases List.mem_append.mp hz with h|h
     . exact hb z h
     . rw[List.mem_singleton.mp h];exact⟨r0,r1⟩
   . exact(x.trans x4).at hD
 . rintro ys σ H bZ ⟨row,v,rfl,e,hb,_,fl,x⟩;rw[bH]at e;exact gT row H e hb fl x bZ
theorem zfI{D a l:Addr}{Q:VK}{H1:Hp}{m:Int}{n:Nat}{ls:List Str}(h0:0<m)(h8:m<=24)(hn:n<=24)(hD:H1 D=none)(hF:aS H1 a)(hl:H1 l=some (.lst (ls.map V.str)))(nl:l≠a)(h6:ls.length<=6)
 (gT: ∀(rs:List Addr) (tb:List (List Int)) (H':Hp),rs.length=n->Paired (sK H') rs tb->(∀r∈tb,r.length=ls.length/\ ∀x∈r,0<=x/\x<m)->rs.Nodup->(∀u∈rs,H1 u=none)->D∉rs->aS H' a->gH a H1 H'->H' D=some (.lst (rs.map V.ref))->Q (.ref D) H'):
 bJ (tJ 0 n) D (bD 0) dJ (lK (xO K (aL 3)) 1 [1,2] (bD 0) dJ (iG dS [] E0 (aP (aL 1) (aP (aL 2) cG)))) Q [none,some (.ref a),some (.int m),some (.ref l)] H1:=by
 have nD:=bN hD hF
 refine cO (λi ys σ H=> ∃(rs:List Addr) (tb:List (List Int)) (v:Option V),ys=rs.map V.ref/\rs.length=i/\Paired (sK H) rs tb/\(∀r∈tb,r.length=ls.length/\ ∀x∈r,0<=x/\x<m)/\rs.Nodup/\(∀u∈rs,H1 u=none)/\D∉rs/\σ=[v,some (.ref a),some (.int m),some (.ref l)]/\aS H a/\gH a H1 H) ?_ (by omega) ?_ ?_ ?_
 . exact⟨[],[],none,rfl,rfl,.nil,(by intro _ z;cases z),List.nodup_nil,(by intro _ z;cases z),(by intro z;cases z),rfl,hF.new hD,gH.new hD⟩
 . rintro i ys σ H ⟨rs,tb,v,rfl,e,_⟩;rw[bH,e];exact Nat.le_refl _
 . rintro i ys σ H hi bZ ⟨rs,tb,v,rfl,e,hP,hb,vK,oQ,hDn,rfl,fl,x⟩;have hll:H l=some (.lst (ls.map V.str)):=x _ _ nl hl;refine⟨_,rfl,l,rfl,⟨_,aY.of hll⟩,λD2 lP=>drawn (K:=K) h0 h8 lP fl hll nl h6 λrow H4 e4 b4 f4 x4 h4=> ?_⟩;have nDD:D≠D2:=aF bZ lP;have nua: ∀u∈rs,u≠a:= λu hu=>bN (oQ u hu) hF;have hD1:H1 D2=none:=x.free fl lP;have nin:D2∉rs:= λhu=>by
    obtain⟨j,hj⟩:=List.getElem?_of_mem hu;obtain⟨_,_,z⟩:=dR hP hj;have z':H D2=_:=z;rw[lP]at z';cases z'
   refine⟨x4 _ _ nD bZ,rs++[D2],tb++[row],_,by rw[List.map_append];rfl,by rw[List.length_append,e];rfl,bU (eB hP λu w hu z=> ?_) (.cons ?_ .nil),λr hr=> ?_,lY vK nin,λu hu=> ?_,λhu=> ?_,rfl,f4.set (Ne.symm nD),(x.trans x4).at hD⟩
   . show aN H4 D _ u=_
     rw[aD (show u≠D from λq=>hDn (q▸hu))];exact x4 _ _ (nua u hu) z
   . show aN H4 D _ D2=_
     rw[aD (Ne.symm nDD)];exact h4
   . rcases List.mem_append.mp hr with h|h
     . exact hb r h
     . rw[List.mem_singleton.mp h];exact⟨e4,b4⟩
   . rcases List.mem_append.mp hu with h|h
     . exact oQ u h
     . rw[List.mem_singleton.mp h];exact hD1
   . rcases List.mem_append.mp hu with h|h
     . exact hDn h
     . exact nDD (List.mem_singleton.mp h)
 . rintro ys σ H bZ ⟨rs,tb,v,rfl,e,hP,hb,vK,oQ,hDn,_,fl,x⟩;exact gT rs tb H e hP hb vK oQ hDn fl x bZ
theorem zpo{D a:Addr}{Q:VK}{H1:Hp}{n:Nat}(hn:n<=24)(hD:H1 D=none)(hF:aS H1 a)
 (gT: ∀(gd:List Int) (H':Hp),gd.length<=24->gd.Pairwise (·<·)->(∀x∈gd,0<=x/\x<n)->(∀x∈gd,Bi x)->aS H' a->gH a H1 H'->H' D=some (.lst (gd.map V.int))->Q (.ref D) H'):
 bJ (tJ 0 n) D (bD 0) (iQ (eR rEq (iG dS [] E0 (aP (aL 1) (aP (tC (.int 2)) cG))) (tC (.int 0)))) (aL 0) Q [none,some (.ref a)] H1:=by
 have nD:=bN hD hF
 refine cO (λi ys σ H=> ∃(gd:List Int) (v:Option V),ys=gd.map V.int/\gd.length<=i/\(gd.Pairwise (·<·)/\ ∀x∈gd,0<=x/\x<i)/\σ=[v,some (.ref a)]/\aS H a/\gH a H1 H) ?_ (by omega) ?_ ?_ ?_
 . exact⟨[],none,rfl,Nat.le_refl _,⟨List.Pairwise.nil,(by intro _ z;cases z)⟩,rfl,hF.new hD,gH.new hD⟩
 . rintro i ys σ H ⟨gd,v,rfl,e,_⟩;rw[bH];exact e
 . rintro i ys σ H hi bZ ⟨gd,v,rfl,e,hb,rfl,fl,x⟩;refine⟨_,rfl,a,2,rfl,fl,by decide,by decide,λr H4 r0 r1 f4 x4=>⟨rfl,_,rfl,?_⟩⟩;refine jA (λ_=> ?_) (λ_=> ?_)
   . refine⟨_,rfl,x4 _ _ nD bZ,gd++[0+(i:Int)],_,by rw[List.map_append];rfl,by rw[List.length_append];simp only[List.length_cons,List.length_nil];omega,⟨?_,λz hz=> ?_⟩,rfl,f4.set (Ne.symm nD),(x.trans x4).at hD⟩
     . refine List.pairwise_append.mpr ⟨hb.1,List.pairwise_singleton _ _,λu hu v hv=> ?_⟩;rw[List.mem_singleton.mp hv];have:=hb.2 u hu;omega
     . rcases List.mem_append.mp hz with h|h
       . have:=hb.2 z h;omega
       . rw[List.mem_singleton.mp h];omega
   . exact⟨x4 _ _ nD bZ,gd,_,rfl,by omega,⟨hb.1,λz hz=>by have:=hb.2 z hz;omega⟩,rfl,f4,x.trans x4⟩
 . rintro ys σ H bZ ⟨gd,v,rfl,e,hb,_,fl,x⟩;exact gT gd H (by omega) hb.1 hb.2 (λz hz=>by have:=hb.2 z hz;rw[Bi];omega) fl x bZ
structure lF(H:Hp)(T G:Addr)(us:List Addr)(cs:fX)(m:Nat):Prop where
 hT:Tb H T us (wE cs) m
 hG:H G=some (.lst ((nK cs cs.length).map V.int))
 wc:Wc m cs
theorem lF.same{H H':Hp}{T G:Addr}{us:List Addr}{cs:fX}{m:Nat}(h:lF H T G us cs m)(x:Same H H'):lF H' T G us cs m:=⟨h.hT.same x,x _ _ h.hG,h.wc⟩
theorem lF.ext{H H':Hp}{a T G:Addr}{us:List Addr}{cs:fX}{m:Nat}(h:lF H T G us cs m)(x:gH a H H')(n:a∉T::G::us):lF H' T G us cs m:=by
 simp only[List.mem_cons,not_or]at n
 exact⟨⟨x _ _ (Ne.symm n.1) h.hT.at_,eB h.hT.rows λu r hu z=>x _ _ (λe=>n.2.2 (e▸hu)) z,h.hT.len,h.hT.few⟩,x _ _ (Ne.symm n.2.1) h.hG,h.wc⟩
def zhL(a:Addr)(H:Hp)(Q:VK)(m:Nat)(φ:fX->Prop):Prop:= ∀(p T G:Addr) (us:List Addr) (cs:fX) (H':Hp),φ cs->lF H' T G us cs m->(∀b∈T::G::us,H b=none)->aS H' a->gH a H H'->H' p=some (.tup [.ref T,.ref G])->Q (.ref p) H'
theorem zbv{tb:List (List Int)}{gd:List Int}(h1: ∀r∈tb,∀x∈r,0<=x)(h2:gd.Pairwise (·<·))(h3: ∀x∈gd,0<=x/\x<tb.length): ∃cs:fX,cs.length=tb.length/\wE cs=tb/\nK cs cs.length=gd:=by
 have hl:((List.range tb.length).map λj:Nat=>(decide ((j:Int)∈gd),(tb.getD j []).map Int.toNat)).length=tb.length:=by rw[bH,List.length_range]
 have at_: ∀j,j<tb.length->((List.range tb.length).map λj:Nat=>(decide ((j:Int)∈gd),(tb.getD j []).map Int.toNat))[j]?=some (decide ((j:Int)∈gd),(tb.getD j []).map Int.toNat):= λj hj=>by
  rw[List.getElem?_map,List.getElem?_range hj];rfl
 refine⟨(List.range tb.length).map λj:Nat=>(decide ((j:Int)∈gd),(tb.getD j []).map Int.toNat),hl,?_,?_⟩
 . unfold wE;refine List.ext_getElem? λj=> ?_;rw[List.getElem?_map]
   rcases Nat.lt_or_ge j tb.length with z|z
   . rw[at_ j z,List.getElem?_eq_getElem z];show some (dG ((tb.getD j []).map Int.toNat))=_;rw[KKL.getD_at (List.getElem?_eq_getElem z)];unfold dG;rw[List.map_map]
     congr 1
     refine(List.map_congr_left λx hx=> ?_).trans (List.map_id _);exact Int.toNat_of_nonneg (h1 _ (List.getElem_mem z) x hx)
   . rw[List.getElem?_eq_none_iff.mpr (by rw[hl];exact z),List.getElem?_eq_none_iff.mpr z];rfl
 . refine zel (zis _ _) h2 λx=> ?_;rw[qH]
   constructor
   . rintro⟨j,hj,rfl,e⟩;rw[hl]at hj;rw[KKL.getD_at (at_ j hj)]at e;exact of_decide_eq_true e
   . intro hx;obtain⟨a,b⟩:=h3 x hx;obtain⟨j,rfl⟩:=Int.eq_ofNat_of_zero_le a;have hj:j<tb.length:=by omega
     exact⟨j,by rw[hl];exact hj,rfl,by rw[KKL.getD_at (at_ j hj)];exact decide_eq_true hx⟩
theorem zau{cs:fX}{m:Nat}(h0:0<cs.length)(h1: ∀r∈wE cs,r.length=m)(h2: ∀r∈wE cs,∀x∈r,x<(cs.length:Int)):Wc m cs:=by
 refine⟨h0,λr hr=> ?_⟩
 have hm:dG r.2∈wE cs:=List.mem_map.mpr ⟨r,hr,rfl⟩
 refine⟨by rw[<-bB];exact h1 _ hm,λx hx=> ?_⟩
 have:=h2 _ hm (x:Int) (List.mem_map.mpr ⟨x,hx,rfl⟩)
 omega
def i9:Sp:= λvs H Q _=> ∃(a l:Addr) (m:Int) (ls:List Str),vs=[.ref a,.int m,.ref l]/\aS H a/\H l=some (.lst (ls.map V.str))/\l≠a/\1<=m/\m<=24/\ls.length<=6/\zhL a H Q ls.length λcs=>(cs.length:Int)=m
theorem qJ:bS ["_law_flow_here","_law_many","_law_letters","_law_table"] ["_law_flow_here","_law_many","_law_letters"] (aH eS):=(.of rfl rfl rfl rfl (by decide+kernel))
theorem zN(F:mR K "_law_machine" "_law_machine" eS f fd)(B:Bt mg)(aU:Fn P w K mg base k "_law_draw" ["_law_flow_here","_law_many"] dS g gd):dN P w K mg base gU (k+1) f fd ["_law_flow_here","_law_many","_law_letters"] i9:=by
 refine F.ok qJ (λvs H Q E h=> ?_) (λeQ A outer s H vs Q E hr h=> ?_)
 . obtain⟨a,l,m,ls,rfl,_⟩:=h;rfl
 obtain⟨a,l,m,ls,rfl,hF,hl,nl,h1,h8,l6,q⟩:=h
 have nd:=qJ.nd
 refine⟨_,(aE (zba (i:=3) nd rfl (Or.inl rfl) (g:=(bD 0)) (tc:=dJ) (te:=(lK (xO K (aL 3)) 1 [1,2] (bD 0) dJ (iG dS [] E0 (aP (aL 1) (aP (aL 2) cG))))) (own:=["_law_state"]) (fr:=["_law_flow_here","_law_many","_law_letters"]) (idx:=[0,1,2]) rfl (by show aR _ _ _ (aH eS);exact(.of rfl (by decide+kernel))) (bP rfl B.range_ (aB (pv 1) aC)) (λ_ _ _ _ _=>(aJ (i:=0) (by show List.Nodup (["_law_state","_law_flow_here","_law_many","_law_letters"]:List Str);decide+kernel) rfl (Or.inl rfl) (Or.inr rfl))) (λ_ _ _ _ _=>cT) (λ_ _ _ _ _=>(cS (g:=(bD 0)) (tc:=dJ) (te:=(iG dS [] E0 (aP (aL 1) (aP (aL 2) cG)))) (own:=["_law_letter"]) (fr:=["_law_flow_here","_law_many"]) (idx:=[1,2]) rfl (aR.relab (.of rfl (by decide+kernel))) (dH (pv 3)) (λ_ _ _ _ _=>(aJ (i:=0) (by show List.Nodup (["_law_letter","_law_flow_here","_law_many"]:List Str);decide+kernel) rfl (Or.inl rfl) (Or.inr rfl))) (λ_ _ _ _ _=>cT) (λ_ _ _ _ _=>(lD aU hr rfl (aB (pv 1) (aB (pv 2) aC)))) rfl (cR rfl))) rfl (cR rfl)) (aK (cE (eE (aB (pv 3) (aB (cS (g:=(bD 0)) (tc:=(iQ (eR rEq (iG dS [] E0 (aP (aL 1) (aP (tC (.int 2)) cG))) (tC (.int 0))))) (te:=(aL 0)) (own:=["_law_state"]) (fr:=["_law_flow_here"]) (idx:=[0]) rfl (by show aR _ _ _ (aH eS);exact(.of rfl (by decide+kernel))) (bP rfl B.range_ (aB (pv 1) aC)) (λ_ _ _ _ _=>(aJ (i:=0) (by show List.Nodup (["_law_state","_law_flow_here"]:List Str);decide+kernel) rfl (Or.inl rfl) (Or.inr rfl))) (λ_ _ _ _ _=>kU (bQ lO (lD aU hr rfl (aB (pv 1) (aB aI aC))) aI (cL _))) (λ_ _ _ _ _=>(pv 0)) rfl (cR rfl)) aC)))))),?_⟩
 try dsimp only[eV,Cx.nox,Cx.wish]
 refine zeL ?_
 intro D0 σ0 U2
 refine⟨_,rfl,m,rfl,by omega,by omega,λD hD=>zfI (K:=K) (by omega) h8 (by omega) hD hF hl nl l6 λrs tb H2 e2 hP hb vK oQ hDn f2 x2 lP=> ?_⟩
 have nD:=bN hD hF
 refine⟨_,rfl,_,rfl,m,rfl,by omega,by omega,λD3 hD3=>zpo (by omega) hD3 f2 λgdl H3 g8 gp gb gi f3 x3 h3=>⟨dF 2,λp hp=> ?_⟩⟩
 have nua: ∀u∈rs,u≠a:= λu hu=>bN (oQ u hu) hF
 have x3p:Same H3 (aN H3 p (.tup [.ref D,.ref D3])):=aX hp
 have lrs:=Paired.length hP
 obtain⟨cs,c1,c2,c3⟩:=zbv (tb:=tb) (gd:=gdl) (λr hr x hx=>((hb r hr).2 x hx).1) gp (λx hx=>by have:=gb x hx;omega)
 have W:Wc ls.length cs:=zau (by omega) (by rw[c2];exact λr hr=>(hb r hr).1) (by rw[c2];exact λr hr x hx=>by have:=(hb r hr).2 x hx;omega)
 refine q p D D3 rs cs _ (by omega) ⟨by rw[c2];exact⟨x3p _ _ (x3 _ _ nD lP),eB hP λu w hu z=>x3p _ _ (x3 _ _ (nua u hu) z),λr hr=>(hb r hr).1,by omega⟩,by rw[c3];exact x3p _ _ h3,W⟩ (λb mE=> ?_) (Same.flow x3p f3) (x2.trans (x3.trans (Same.ext x3p))) aG
 rcases List.mem_cons.mp mE with rfl|mE
 . exact hD
 rcases List.mem_cons.mp mE with rfl|mE
 . exact x2.free f2 hD3
 . exact oQ b mE
def fU(n st m s:Nat):List Nat:=(List.range m).map λj=>if j=st then(s+1) % n else s
theorem zuO{D:Addr}{Q:VK}{H1:Hp}{n st m s:Nat}(hm:m<=60)(hn:0<n)(hD:H1 D=none)(gT: ∀H',Same H1 H'->H' D=some (.lst ((dG (fU n st m s)).map V.int))->Q (.ref D) H'):
 bJ (tJ 0 m) D (bD 0) dJ (eR (jM K) (uN (aP (aL 1) (aP (eR (rI (λ_ j=>0<j) λi j=> .int (i % j)) (eR (o4 λi j=> .int (i+j)) (aL 1) (tC (.int 1))) (aL 2)) cG))) (uY (λxs H Q=>(∃i,xs=[.int i]/\Q (.int i) H)\/ ∃k,xs=[.bl k]/\Q (.int (if k then 1 else 0)) H) (aP (eR rEq (aL 0) (aL 3)) cG))) Q [none,some (.int (s:Int)),some (.int (n:Int)),some (.int (st:Int))] H1:=by
 refine cO (λi zs σ H=> ∃v:Option V,zs=(dG (fU n st i s)).map V.int/\σ=[v,some (.int (s:Int)),some (.int (n:Int)),some (.int (st:Int))]/\Same H1 H) ?_ (by omega) ?_ ?_ ?_
 . exact⟨none,rfl,rfl,aX hD⟩
 . rintro i zs σ H ⟨v,rfl,_⟩;unfold fU;rw[bH,bB,bH,List.length_range];exact Nat.le_refl _
 . rintro i zs σ H hi bZ ⟨v,rfl,rfl,x⟩;rw[Int.zero_add];have hn':(0:Int)<(n:Int):=by omega
   refine⟨_,rfl,_,rfl,_,_,rfl,rfl,_,rfl,_,_,rfl,rfl,hn',dF 2,λp hp=> ?_⟩;have nD:D≠p:=aF bZ hp;have sn:fU n st (i+1) s=fU n st i s++[if i=st then(s+1) % n else s]:=by unfold fU;rw[List.range_succ,List.map_append];rfl
   refine⟨_,rfl,_,rfl,rfl,.inr ⟨_,rfl,p,_,_,(if i=st then .int (((s+1) % n:Nat):Int)else .int (s:Int)),rfl,rfl,aY.of aG,?_,by rw[aD nD];exact bZ,_,?_,rfl,(x.trans (aX hp)).at hD⟩⟩
   . by_cases e:i=st
     . subst e;rw[decide_eq_true rfl,if_pos rfl,if_pos rfl];rfl
     . rw[decide_eq_false (λz=>e (Int.ofNat_inj.mp (V.int.inj z))),if_neg Bool.false_ne_true,if_neg e];rfl
   . rw[sn];unfold dG;rw[List.map_append,List.map_append]
     congr 1
     show [_]=[V.int _]
     split<;>rfl
 . rintro zs σ H bZ ⟨v,rfl,_,x⟩;exact gT H x bZ
theorem ztA{D l:Addr}{Q:VK}{H1:Hp}{n st:Nat}{ls:List Str}(hm:ls.length<=60)(hn:0<n)(hn2:n<=60)(hD:H1 D=none)(hl:H1 l=some (.lst (ls.map V.str)))
 (gT: ∀H' us,Same H1 H'->H' D=some (.lst (us.map V.ref))->Paired (sK H') us ((List.range n).map λs=>dG (fU n st ls.length s))->(∀u∈us,H1 u=none)->Q (.ref D) H'):
 bJ (tJ 0 n) D (bD 0) dJ (lK (xB (aP (uY (λxs H Q=> ∃p ys,xs=[.ref p]/\(aY K H p ys\/fR K H p ys)/\Q (.int ys.length) H) (aP (aL 3) cG)) cG)) 1 [0,1,2] (bD 0) dJ (eR (jM K) (uN (aP (aL 1) (aP (eR (rI (λ_ j=>0<j) λi j=> .int (i % j)) (eR (o4 λi j=> .int (i+j)) (aL 1) (tC (.int 1))) (aL 2)) cG))) (uY (λxs H Q=>(∃i,xs=[.int i]/\Q (.int i) H)\/ ∃k,xs=[.bl k]/\Q (.int (if k then 1 else 0)) H) (aP (eR rEq (aL 0) (aL 3)) cG)))) Q [none,some (.int (n:Int)),some (.int (st:Int)),some (.ref l)] H1:=by
 refine cO (λi zs σ H=> ∃(v:Option V) (us:List Addr),zs=us.map V.ref/\us.length=i/\σ=[v,some (.int (n:Int)),some (.int (st:Int)),some (.ref l)]/\Same H1 H/\Paired (sK H) us ((List.range i).map λs=>dG (fU n st ls.length s))/\(∀u∈us,H1 u=none)/\D∉us) ?_ (by omega) ?_ ?_ ?_
 . exact⟨none,[],rfl,rfl,rfl,aX hD,.nil,(by intro _ z;cases z),(by intro z;cases z)⟩
 . rintro i zs σ H ⟨v,us,rfl,e,_⟩;rw[bH,e];exact Nat.le_refl _
 . rintro i zs σ H hi bZ ⟨v,us,rfl,e,rfl,x,hP,oQ,hDn⟩;rw[Int.zero_add];refine⟨_,rfl,l,_,rfl,.inl (aY.of (x _ _ hl)),_,rfl,by rw[bH];omega,by rw[bH];omega,λD2 lP=> ?_⟩;rw[show(((ls.map V.str).length:Nat):Int).toNat=ls.length by rw[bH];omega];refine zuO (K:=K) (s:=i) hm hn lP λH3 x3 h3=> ?_;have nDD:D≠D2:=aF bZ lP;refine⟨x3 _ _ bZ,_,us++[D2],by rw[List.map_append];rfl,by rw[List.length_append,e];rfl,rfl,(x.trans x3).at hD,?_,λu hu=> ?_,λhu=> ?_⟩
   . rw[List.range_succ,List.map_append];refine bU (eB hP λu r hu z=> ?_) (.cons ?_ .nil)
     . show aN H3 D _ u=_
       have ne:u≠D:= λq=>hDn (q▸hu);rw[aD ne];exact x3 _ _ z
     . show aN H3 D _ D2=_
       rw[aD (Ne.symm nDD)];exact h3
   . rcases List.mem_append.mp hu with z|z
     . exact oQ u z
     . rw[List.mem_singleton.mp z];exact x.free lP
   . rcases List.mem_append.mp hu with z|z
     . exact hDn z
     . exact nDD (List.mem_singleton.mp z)
 . rintro zs σ H bZ ⟨v,us,rfl,e,_,x,hP,oQ,hDn⟩;exact gT H us x bZ hP oQ
def oE:Sp:= λvs H Q _=> ∃(a l:Addr) (ls:List Str),vs=[.ref a,.ref l]/\aS H a/\H l=some (.lst (ls.map V.str))/\l≠a/\1<=ls.length/\ls.length<=6/\zhL a H Q ls.length λcs=>cs.length<=24/\9<=cs.length
theorem pX:bS ["_law_flow_here","_law_letters","_law_many","_law_step","_law_table"] ["_law_flow_here","_law_letters"] (aH fW):=(.of rfl rfl rfl rfl (by decide+kernel))
theorem zP(F:mR K "_law_counter" "_law_counter" fW f fd)(B:Bt mg)(aU:Fn P w K mg base k "_law_draw" ["_law_flow_here","_law_many"] dS g gd):dN P w K mg base gU (k+1) f fd ["_law_flow_here","_law_letters"] oE:=by
 refine F.ok pX (λvs H Q E h=> ?_) (λeQ A outer s H vs Q E hr h=> ?_)
 . obtain⟨a,l,ls,rfl,_⟩:=h;rfl
 obtain⟨a,l,ls,rfl,hF,hl,nl,l1,l6,q⟩:=h
 have nd:=pX.nd
 refine⟨_,(aE (iX (eE (aB (bM dU aI (lD aU hr rfl (aB (pv 0) (aB aI aC)))) (aB (lD aU hr rfl (aB (pv 0) (aB (aW aO rfl B.len_ PySem.boot_len (aB (pv 1) aC)) aC))) aC))) (fG rfl (aZ (aJ (i:=2) nd rfl (Or.inr rfl)) (aZ (aJ (i:=3) nd rfl (Or.inr rfl)) eF)))) (aE (zei (i:=4) nd rfl (Or.inl rfl) (g:=(bD 0)) (tc:=dJ) (te:=(lK (xB (aP (uY (λxs H Q=> ∃p ys,xs=[.ref p]/\(aY K H p ys\/fR K H p ys)/\Q (.int ys.length) H) (aP (aL 3) cG)) cG)) 1 [0,1,2] (bD 0) dJ (eR (jM K) (uN (aP (aL 1) (aP (eR (rI (λ_ j=>0<j) λi j=> .int (i % j)) (eR (o4 λi j=> .int (i+j)) (aL 1) (tC (.int 1))) (aL 2)) cG))) (uY (λxs H Q=>(∃i,xs=[.int i]/\Q (.int i) H)\/ ∃k,xs=[.bl k]/\Q (.int (if k then 1 else 0)) H) (aP (eR rEq (aL 0) (aL 3)) cG))))) (z:= "_law_state") (fr:=["_law_many","_law_step","_law_letters"]) (idx:=[2,3,1]) rfl (by show fS _ _ _ (aH fW);exact⟨rfl,by decide+kernel,by decide+kernel,by decide+kernel,by decide+kernel,by decide+kernel,rfl,λ_ _=>rfl,λ_=>rfl⟩) (bP rfl B.range_ (aB (pv 2) aC)) (λ_ _ _ _ _=>(aJ (i:=0) (by show List.Nodup (["_law_state","_law_many","_law_step","_law_letters"]:List Str);decide+kernel) rfl (Or.inr rfl) (Or.inl fn1))) (λ_ _ _ _ _=>cT) (λ_ _ _ _ _=>(cS (g:=(bD 0)) (tc:=dJ) (te:=(eR (jM K) (uN (aP (aL 1) (aP (eR (rI (λ_ j=>0<j) λi j=> .int (i % j)) (eR (o4 λi j=> .int (i+j)) (aL 1) (tC (.int 1))) (aL 2)) cG))) (uY (λxs H Q=>(∃i,xs=[.int i]/\Q (.int i) H)\/ ∃k,xs=[.bl k]/\Q (.int (if k then 1 else 0)) H) (aP (eR rEq (aL 0) (aL 3)) cG)))) (own:=["_law_k"]) (fr:=["_law_state","_law_many","_law_step"]) (idx:=[0,1,2]) rfl (aR.relab (.of rfl (by decide+kernel))) (bP rfl B.range_ (aB (aW aO rfl B.len_ PySem.boot_len (aB (pv 3) aC)) aC)) (λ_ _ _ _ _=>(aJ (i:=0) (by show List.Nodup (["_law_k","_law_state","_law_many","_law_step"]:List Str);decide+kernel) rfl (Or.inl rfl) (Or.inr rfl))) (λ_ _ _ _ _=>cT) (λ_ _ _ _ _=>(bV bO (cU (aB (pv 1) (aB (bM gZ (bM dU (pv 1) aI) (pv 2)) aC))) (dY sY rfl B.int_ (by decide+kernel) (aB (gC lO (pv 0) (pv 3) (cL _)) aC)) (λ_ _=>rfl))) rfl (cR rfl))) rfl (cR rfl)) (aK (cE (eE (aB (pv 4) (aB (cU (aB (lD aU hr rfl (aB (pv 0) (aB (pv 2) aC))) aC)) aC))))))),?_⟩
 try dsimp only[eV,Cx.nox,Cx.wish]
 refine wH ?_
 intro D0 σ0 U3 U2
 refine⟨_,rfl,a,13,rfl,hF,by decide,by decide,λr1 H1 r10 r11 f1 x1=>⟨_,_,rfl,rfl,?_⟩⟩
 refine⟨_,rfl,_,rfl,l,_,rfl,.inl (aY.of (x1 _ _ nl hl)),a,_,rfl,f1,by rw[bH];omega,by rw[bH];omega,λr2 H2 r20 r21 f2 x2=>⟨dF 2,λp hp=>⟨p,_,rfl,fR.of aG,rfl,_,_,rfl,_,_,rfl,rfl,?_⟩⟩⟩
 obtain⟨n1,rfl⟩:=Int.eq_ofNat_of_zero_le r10
 obtain⟨st,rfl⟩:=Int.eq_ofNat_of_zero_le r20
 have e12:(12:Int)+(n1:Int)=((12+n1:Nat):Int):=by omega
 show U2 D0 ((List.set σ0 2 (some (V.int (12+(n1:Int))))).set 3 (some (V.int (st:Int)))) (aN H2 p (.tup [.int (12+(n1:Int)),.int (st:Int)]))
 rw[e12]
 have hn:12+n1<=24:=by omega
 have hn9:9<=12+n1:=by omega
 generalize 12+n1=n at hn hn9
 have x3:gH a H (aN H2 p (.tup [.int (n:Int),.int (st:Int)])):=(x1.trans x2).trans (Same.ext (aX hp))
 have f3:aS (aN H2 p (.tup [.int (n:Int),.int (st:Int)])) a:=f2.new hp
 generalize aN H2 p (.tup [.int (n:Int),.int (st:Int)])=H3 at x3 f3 ⊢
 refine⟨_,rfl,(n:Int),rfl,by omega,by omega,λD hD=> ?_⟩
 rw[show((n:Nat):Int).toNat=n from rfl]
 refine ztA (K:=K) (by omega) (by omega) (by omega) hD (x3 _ _ nl hl) λH4 us x4 hD4 hP oQ=> ?_
 have f4:=Same.flow x4 f3
 have nD:=bN hD f3
 have nua: ∀u∈us,u≠a:= λu hu=>bN (oQ u hu) f3
 refine⟨_,rfl,_,rfl,_,rfl,a,_,rfl,f4,by omega,by omega,λr5 H5 r50 r51 f5 x5=>⟨dF 1,λG hG=>⟨dF 2,λt ht=> ?_⟩⟩⟩
 obtain⟨gd,rfl⟩:=Int.eq_ofNat_of_zero_le r50
 obtain⟨H6,e0,x6,k6⟩:=eJ hG (.lst [.int (gd:Int)])
 rw[e0]at ht ⊢
 have k6:H6 G=some (.lst ([(gd:Int)].map V.int)):=k6
 have x7:Same H6 (aN H6 t (.tup [.ref D,.ref G])):=aX ht
 have x67:=x6.trans x7
 have tl:((List.range n).map λs=>dG (fU n st ls.length s)).length=n:=by rw[bH,List.length_range]
 have nH: ∀r∈(List.range n).map λs=>dG (fU n st ls.length s),r.length=ls.length/\ ∀x∈r,0<=x/\x<(n:Int):= λr hr=>by
  obtain⟨s',yV,rfl⟩:=List.mem_map.mp hr;have yV:=List.mem_range.mp yV;refine⟨by rw[bB];unfold fU;rw[bH,List.length_range],λx hx=> ?_⟩;obtain⟨y,hy,rfl⟩:=List.mem_map.mp hx;unfold fU at hy;obtain⟨j,_,rfl⟩:=List.mem_map.mp hy;have:(s'+1) % n<n:=Nat.mod_lt _ (by omega)
  split<;>omega
 obtain⟨cs,c1,c2,c3⟩:=zbv (tb:=(List.range n).map λs=>dG (fU n st ls.length s)) (gd:=[(gd:Int)]) (λr hr x hx=>((nH r hr).2 x hx).1) (List.pairwise_singleton _ _) (λx hx=>by rw[List.mem_singleton.mp hx,tl];omega)
 rw[tl]at c1
 have W:Wc ls.length cs:=zau (by omega) (by rw[c2];exact λr hr=>(nH r hr).1) (by rw[c2,c1];exact λr hr x hx=>((nH r hr).2 x hx).2)
 refine q t D G us cs _ ⟨by omega,by omega⟩ ⟨by rw[c2];exact⟨x67 _ _ (x5 _ _ nD hD4),eB hP λu r hu z=>x67 _ _ (x5 _ _ (nua u hu) z),λr hr=>(nH r hr).1,by rw[tl];omega⟩,by rw[c3];exact x7 _ _ k6,W⟩ (λb hb=> ?_) (Same.flow x67 f5) (((x3.trans (Same.ext x4)).trans x5).trans (Same.ext x67)) aG
 have fr3: ∀{c:Addr},H3 c=none->H c=none:= λ{c} hc=>x3.free f3 hc
 rcases List.mem_cons.mp hb with rfl|hb
 . exact fr3 hD
 rcases List.mem_cons.mp hb with rfl|hb
 . exact fr3 (x4.free (x5.free f5 hG))
 . exact fr3 (oQ b hb)
abbrev zeb(K:W.Frag):List V->Hp->VK->Prop:= λxs H Q=> ∃p ys,xs=[.ref p]/\(aY K H p ys\/fR K H p ys)/\Q (.int ys.length) H
theorem zgM(n:Nat):pR 0 (n:Int)=(dG (List.range n)).map V.int:=by
 unfold pR dG
 rw[List.map_map,show((n:Int) - 0).toNat=n by omega]
 exact List.map_congr_left λi _=>by show V.int (0+(i:Int))=V.int (i:Int);rw[Int.zero_add]
theorem zuj{D a T:Addr}{Q:VK}{H1:Hp}{n more:Nat}{us:List Addr}(hn:us.length=n)(h0:0<n)(vM:n<=60)(hm:more<=60)(hD:H1 D=none)(hF:aS H1 a)(hT:H1 T=some (.lst (us.map V.ref)))(nT:T≠a)
 (gT: ∀(ns:List Nat) (H':Hp),ns.length=more->(∀x∈ns,x<n)->aS H' a->gH a H1 H'->H' D=some (.lst ((dG ns).map V.int))->Q (.ref D) H'):
 bJ (tJ 0 more) D (bD 0) dJ (iG dS [] E0 (aP (aL 1) (aP (uY (zeb K) (aP (aL 2) cG)) cG))) Q [none,some (.ref a),some (.ref T)] H1:=by
 have nD:=bN hD hF
 refine cO (λi ys σ H=> ∃(ns:List Nat) (v:Option V),ys=(dG ns).map V.int/\ns.length=i/\(∀x∈ns,x<n)/\σ=[v,some (.ref a),some (.ref T)]/\aS H a/\gH a H1 H) ?_ (by omega) ?_ ?_ ?_
 . exact⟨[],none,rfl,rfl,(by intro _ z;cases z),rfl,hF.new hD,gH.new hD⟩
 . rintro i ys σ H ⟨ns,v,rfl,e,_⟩;rw[bH,bB,e];exact Nat.le_refl _
 . rintro i ys σ H hi bZ ⟨ns,v,rfl,e,hb,rfl,fl,x⟩;refine⟨_,rfl,_,rfl,T,_,rfl,.inl (aY.of (x _ _ nT hT)),a,_,rfl,fl,by rw[bH];omega,by rw[bH];omega,λr H4 r0 r1 f4 x4=> ?_⟩;rw[bH]at r1;obtain⟨rn,rfl⟩:=Int.eq_ofNat_of_zero_le r0;refine⟨x4 _ _ nD bZ,ns++[rn],_,?_,by rw[List.length_append,e];rfl,λz hz=> ?_,rfl,f4.set (Ne.symm nD),(x.trans x4).at hD⟩
   . unfold dG;rw[List.map_append,List.map_append];rfl
   . rcases List.mem_append.mp hz with h|h
     . exact hb z h
     . rw[List.mem_singleton.mp h];omega
 . rintro ys σ H bZ ⟨ns,v,rfl,e,hb,_,fl,x⟩;exact gT ns H e hb fl x bZ
def wB(ow:List Nat)(s i:Nat):List Nat:=(List.range i).filter λj=>decide (ow.getD j 0=s)
theorem alI{D o:Addr}{Q:VK}{H1:Hp}{ow:List Nat}{s:Nat}(vM:ow.length<=60)(hD:H1 D=none)(ho:H1 o=some (.lst ((dG ow).map V.int)))(gT: ∀H',Same H1 H'->H' D=some (.lst ((dG (wB ow s ow.length)).map V.int))->Q (.ref D) H'):
 bJ (tJ 0 ow.length) D (bD 0) (iQ (eR rEq (eR (jM K) (aL 1) (aL 0)) (aL 2))) (aL 0) Q [none,some (.ref o),some (.int (s:Int))] H1:=by
 refine cO (λi zs σ H=> ∃v:Option V,zs=(dG (wB ow s i)).map V.int/\σ=[v,some (.ref o),some (.int (s:Int))]/\Same H1 H) ?_ (by omega) ?_ ?_ ?_
 . exact⟨none,rfl,rfl,aX hD⟩
 . rintro i zs σ H ⟨v,rfl,_⟩;unfold wB;rw[bH,bB];exact Nat.le_trans (List.length_filter_le ..) (by rw[List.length_range];exact Nat.le_refl _)
 . rintro i zs σ H hi bZ ⟨v,rfl,rfl,x⟩;rw[Int.zero_add];refine⟨_,rfl,_,rfl,o,_,_,_,rfl,rfl,aY.of (x _ _ ho),pM hi,_,rfl,rfl,_,rfl,?_⟩;have es:wB ow s (i+1)=wB ow s i++if ow.getD i 0=s then [i]else []:=by
    unfold wB;rw[List.range_succ,List.filter_append,List.filter_cons,List.filter_nil]
    by_cases e:ow.getD i 0=s
    . rw[decide_eq_true e,if_pos rfl,if_pos e]
    . rw[decide_eq_false e,if_neg Bool.false_ne_true,if_neg e]
   by_cases e:ow.getD i 0=s
   . rw[e,decide_eq_true rfl];rw[if_pos e]at es;refine oZ ⟨_,rfl,bZ,_,?_,rfl,x.at hD⟩;rw[es];unfold dG;rw[List.map_append,List.map_append];rfl
   . rw[decide_eq_false (λz=>e (Int.ofNat_inj.mp (V.int.inj z)))];rw[if_neg e,List.append_nil]at es;exact iY ⟨bZ,_,by rw[es],rfl,x⟩
 . rintro zs σ H bZ ⟨v,rfl,_,x⟩;exact gT H x bZ
theorem alO{D o:Addr}{Q:VK}{H1:Hp}{ow:List Nat}{n:Nat}(vM:ow.length<=60)(hn:n<=60)(hD:H1 D=none)(ho:H1 o=some (.lst ((dG ow).map V.int)))
 (gT: ∀H' us,Same H1 H'->H' D=some (.lst (us.map V.ref))->Paired (sK H') us ((List.range n).map λs=>dG (wB ow s ow.length))->(∀u∈us,H1 u=none)->Q (.ref D) H'):
 bJ (tJ 0 n) D (bD 0) dJ (lK (xB (aP (uY (zeb K) (aP (aL 1) cG)) cG)) 1 [1,0] (bD 0) (iQ (eR rEq (eR (jM K) (aL 1) (aL 0)) (aL 2))) (aL 0)) Q [none,some (.ref o)] H1:=by
 refine cO (λi zs σ H=> ∃(v:Option V) (us:List Addr),zs=us.map V.ref/\us.length=i/\σ=[v,some (.ref o)]/\Same H1 H/\Paired (sK H) us ((List.range i).map λs=>dG (wB ow s ow.length))/\(∀u∈us,H1 u=none)/\D∉us) ?_ (by omega) ?_ ?_ ?_
 . exact⟨none,[],rfl,rfl,rfl,aX hD,.nil,(by intro _ z;cases z),(by intro z;cases z)⟩
 . rintro i zs σ H ⟨v,us,rfl,e,_⟩;rw[bH,e];exact Nat.le_refl _
 . rintro i zs σ H hi bZ ⟨v,us,rfl,e,rfl,x,hP,oQ,hDn⟩;rw[Int.zero_add];refine⟨_,rfl,o,_,rfl,.inl (aY.of (x _ _ ho)),_,rfl,by rw[bH,bB];omega,by rw[bH,bB];omega,λD2 lP=> ?_⟩;rw[show((((dG ow).map V.int).length:Nat):Int).toNat=ow.length by rw[bH,bB];omega];refine alI (K:=K) (s:=i) vM lP (x _ _ ho) λH3 x3 h3=> ?_;have nDD:D≠D2:=aF bZ lP;refine⟨x3 _ _ bZ,_,us++[D2],by rw[List.map_append];rfl,by rw[List.length_append,e];rfl,rfl,(x.trans x3).at hD,?_,λu hu=> ?_,λhu=> ?_⟩
   . rw[List.range_succ,List.map_append];refine bU (eB hP λu r hu z=> ?_) (.cons ?_ .nil)
     . show aN H3 D _ u=_
       have ne:u≠D:= λq=>hDn (q▸hu);rw[aD ne];exact x3 _ _ z
     . show aN H3 D _ D2=_
       rw[aD (Ne.symm nDD)];exact h3
   . rcases List.mem_append.mp hu with z|z
     . exact oQ u z
     . rw[List.mem_singleton.mp z];exact x.free lP
   . rcases List.mem_append.mp hu with z|z
     . exact hDn z
     . exact nDD (List.mem_singleton.mp z)
 . rintro zs σ H bZ ⟨v,us,rfl,e,_,x,hP,oQ,hDn⟩;exact gT H us x bZ hP oQ
structure zjA(ow:List Nat)(row ys:List Nat):Prop where
 len:ys.length=row.length
 at_: ∀(j y:Nat),ys[j]?=some y->y<ow.length/\row[j]?=some (ow.getD y 0)
theorem ztl{D a r al:Addr}{Q:VK}{H1:Hp}{as:List Addr}{ow row:List Nat}{n:Nat}(vM:ow.length<=60)(zzz:row.length<=60)(zcw: ∀x∈row,x<n)(mX: ∀s,s<n->wB ow s ow.length≠ [])(hD:H1 D=none)(hF:aS H1 a)(hr:H1 r=some (.lst ((dG row).map V.int)))(nr:r≠a)(ha:H1 al=some (.lst (as.map V.ref)))(na:al≠a)(hP:Paired (sK H1) as ((List.range n).map λs=>dG (wB ow s ow.length)))(nas:a∉as)
 (gT: ∀(ys:List Nat) (H':Hp),zjA ow row ys->aS H' a->gH a H1 H'->H' D=some (.lst ((dG ys).map V.int))->Q (.ref D) H'):
 bJ (zZ K r) D (bD 0) dJ (eR (jM K) (eR (jM K) (aL 1) (aL 0)) (iG dS [] E0 (aP (aL 2) (aP (uY (zeb K) (aP (eR (jM K) (aL 1) (aL 0)) cG)) cG)))) Q [none,some (.ref al),some (.ref a)] H1:=by
 have nD:=bN hD hF
 refine fP (xs:=(dG row).map V.int) (λi zs σ H=> ∃(ys:List Nat) (v:Option V),zs=(dG ys).map V.int/\zjA ow (row.take i) ys/\σ=[v,some (.ref al),some (.ref a)]/\aS H a/\gH a H1 H) ?_ (by rw[bH,bB];omega) ?_ ?_ ?_ ?_
 . exact⟨[],none,rfl,⟨rfl,by intro j y h;cases h⟩,rfl,hF.new hD,gH.new hD⟩
 . rintro i zs σ H ⟨ys,v,rfl,b,_⟩;rw[bH,bB,b.len,List.length_take];omega
 . rintro i zs σ H ⟨ys,v,_,_,_,_,x⟩;exact aY.of (x _ _ nr hr)
 . rintro i y zs σ H hy bZ ⟨ys,v,rfl,b,rfl,fl,x⟩;rw[List.getElem?_map]at hy;obtain⟨z,hz,rfl⟩:=Option.map_eq_some_iff.mp hy;unfold dG at hz;rw[List.getElem?_map]at hz;obtain⟨gl,hg,rfl⟩:=Option.map_eq_some_iff.mp hz;have gn:=zcw gl (List.mem_of_getElem? hg);obtain⟨u,hu,hRu⟩:=dA hP (i:=gl) (b:=dG (wB ow gl ow.length)) (by rw[List.getElem?_map,List.getElem?_range gn];rfl);have nua:u≠a:= λe=>nas (e▸List.mem_of_getElem? hu);have eat:uX (as.map V.ref) (gl:Int)=some (.ref u):=cN (by rw[List.getElem?_map,hu];rfl);have l0:0<(wB ow gl ow.length).length:=List.length_pos_iff.mpr (mX gl gn);have ll:(wB ow gl ow.length).length<=60:=Nat.le_trans (by unfold wB;exact Nat.le_trans (List.length_filter_le ..) (by rw[List.length_range];exact Nat.le_refl _)) vM;refine⟨_,rfl,_,rfl,al,_,_,_,rfl,rfl,aY.of (x _ _ na ha),eat,_,rfl,_,rfl,_,rfl,al,_,_,_,rfl,rfl,aY.of (x _ _ na ha),eat,u,_,rfl,.inl (aY.of (x _ _ nua hRu)),a,_,rfl,fl,by rw[bH,bB];omega,by rw[bH,bB];omega,λrr H4 r0 r1 f4 x4=> ?_⟩;rw[bH,bB]at r1;obtain⟨rn,rfl⟩:=Int.eq_ofNat_of_zero_le r0;have hrn:rn<(wB ow gl ow.length).length:=by omega
   have er:=List.getElem?_eq_getElem hrn;generalize (wB ow gl ow.length)[rn]=yv at er;obtain⟨m1,m2⟩:=List.mem_filter.mp (List.mem_of_getElem? er);refine⟨u,_,_,_,rfl,rfl,aY.of (x4 _ _ nua (x _ _ nua hRu)),cN (by rw[List.getElem?_map,zdx er];rfl),x4 _ _ nD bZ,ys++[yv],_,?_,?_,rfl,f4.set (Ne.symm nD),(x.trans x4).at hD⟩
   . unfold dG;rw[List.map_append,List.map_append];rfl
   . rw[gS hg];refine⟨by rw[List.length_append,List.length_append,b.len];rfl,λj y hj=> ?_⟩
     rcases Nat.lt_or_ge j ys.length with q|q
     . rw[List.getElem?_append_left q]at hj;obtain⟨a1,a2⟩:=b.at_ j y hj;exact⟨a1,by rw[List.getElem?_append_left (by rw[<-b.len];exact q)];exact a2⟩
     . rw[List.getElem?_append_right q]at hj;have e0:j - ys.length=0:=by
        rcases Nat.eq_zero_or_pos (j - ys.length)with z|z
        . exact z
        . rw[List.getElem?_eq_none_iff.mpr (by simp only[List.length_cons,List.length_nil];omega)]at hj;cases hj
       rw[e0]at hj;cases hj;refine⟨List.mem_range.mp m1,?_⟩;rw[List.getElem?_append_right (by rw[<-b.len];exact q),<-b.len,e0,of_decide_eq_true m2];rfl
 . rintro zs σ H bZ ⟨ys,v,rfl,b,_,fl,x⟩;rw[bH,bB,List.take_length]at b;exact gT ys H b fl x bZ
theorem zpt{D o G:Addr}{Q:VK}{H1:Hp}{ow:List Nat}{gs:List Int}(vM:ow.length<=60)(hD:H1 D=none)(ho:H1 o=some (.lst ((dG ow).map V.int)))(hG:H1 G=some (.lst (gs.map V.int)))
 (gT: ∀H',Same H1 H'->H' D=some (.lst ((dG ((List.range ow.length).filter λj=>decide (((ow.getD j 0:Nat):Int)∈gs))).map V.int))->Q (.ref D) H'):
 bJ (tJ 0 ow.length) D (bD 0) (iQ (eR (rIn K false) (eR (jM K) (aL 1) (aL 0)) (aL 2))) (aL 0) Q [none,some (.ref o),some (.ref G)] H1:=by
 refine cO (λi zs σ H=> ∃v:Option V,zs=(dG ((List.range i).filter λj=>decide (((ow.getD j 0:Nat):Int)∈gs))).map V.int/\σ=[v,some (.ref o),some (.ref G)]/\Same H1 H) ?_ (by omega) ?_ ?_ ?_
 . exact⟨none,rfl,rfl,aX hD⟩
 . rintro i zs σ H ⟨v,rfl,_⟩;rw[bH,bB];exact Nat.le_trans (List.length_filter_le ..) (by rw[List.length_range];exact Nat.le_refl _)
 . rintro i zs σ H hi bZ ⟨v,rfl,rfl,x⟩;rw[Int.zero_add];refine⟨_,rfl,_,rfl,o,_,_,_,rfl,rfl,aY.of (x _ _ ho),pM hi,_,rfl,G,_,rfl,.inl (aY.of (x _ _ hG)),rfl,fQ _,_,rfl,?_⟩;rw[if_neg Bool.false_ne_true,zaC];have es:((List.range (i+1)).filter λj=>decide (((ow.getD j 0:Nat):Int)∈gs))=((List.range i).filter λj=>decide (((ow.getD j 0:Nat):Int)∈gs))++if decide (((ow.getD i 0:Nat):Int)∈gs)=true then [i]else []:=by
    rw[List.range_succ,List.filter_append,List.filter_cons,List.filter_nil]
   refine jA (λe=> ?_) (λe=> ?_)
   . rw[if_pos e]at es;refine⟨_,rfl,bZ,_,?_,rfl,x.at hD⟩;rw[es];unfold dG;rw[List.map_append,List.map_append];rfl
   . rw[if_neg e,List.append_nil]at es;exact⟨bZ,_,by rw[es],rfl,x⟩
 . rintro zs σ H bZ ⟨v,rfl,_,x⟩;exact gT H x bZ
def uE:Sp:= λvs H Q _=> ∃(a T G:Addr) (us:List Addr) (cs:fX) (m more:Nat),vs=[.ref a,.ref T,.ref G,.int (more:Int)]/\aS H a/\lF H T G us cs m/\a∉T::G::us/\more<=6/\cs.length<=24/\m<=60/\zhL a H Q m λds=>ds.length=cs.length+more/\ ∃ow,zql m cs ds ow
theorem xP:bS ["_law_flow_here","_law_table","_law_good","_law_more","_law_owner","_law_alike","_law_found","_law_state"] ["_law_flow_here","_law_table","_law_good","_law_more"] (aH eM):=(.of rfl rfl rfl rfl (by decide+kernel))
theorem zfj(F:mR K "_law_blown" "_law_blown" eM f fd)(B:Bt mg)(aU:Fn P w K mg base k "_law_draw" ["_law_flow_here","_law_many"] dS g gd):dN P w K mg base gU (k+1) f fd ["_law_flow_here","_law_table","_law_good","_law_more"] uE:=by
 refine F.ok xP (λvs H Q E h=> ?_) (λeQ A outer s H vs Q E hr h=> ?_)
 . obtain⟨a,T,G,us,cs,m,more,rfl,_⟩:=h;rfl
 obtain⟨a,T,G,us,cs,m,more,rfl,hF,hM,na,hmo,sX,m60,q⟩:=h
 have nd:=xP.nd
 have W:=hM.wc
 have c1:=W.one
 simp only[List.mem_cons,not_or]at na
 obtain⟨naT,naG,nau⟩:=na
 have lus:=Paired.length hM.hT.rows
 rw[iM]at lus
 refine⟨_,(aE (bF (i:=4) nd rfl (Or.inr rfl) (bM yT (dY (j3 rfl) rfl B.list_ (by decide+kernel) (aB (dY vB rfl B.range_ (by decide+kernel) (aB (aW aO rfl B.len_ PySem.boot_len (aB (pv 1) aC)) aC)) aC)) (cS (g:=(bD 0)) (tc:=dJ) (te:=(iG dS [] E0 (aP (aL 1) (aP (uY (λxs H Q=> ∃p ys,xs=[.ref p]/\(aY K H p ys\/fR K H p ys)/\Q (.int ys.length) H) (aP (aL 2) cG)) cG)))) (own:=["_law_k"]) (fr:=["_law_flow_here","_law_table"]) (idx:=[0,1]) rfl (by show aR _ _ _ (aH eM);exact(.of rfl (by decide+kernel))) (bP rfl B.range_ (aB (pv 3) aC)) (λ_ _ _ _ _=>(aJ (i:=0) (by show List.Nodup (["_law_k","_law_flow_here","_law_table"]:List Str);decide+kernel) rfl (Or.inl rfl) (Or.inr rfl))) (λ_ _ _ _ _=>cT) (λ_ _ _ _ _=>(lD aU hr rfl (aB (pv 1) (aB (aW aO rfl B.len_ PySem.boot_len (aB (pv 2) aC)) aC)))) rfl (cR rfl)))) (aE (bF (i:=5) nd rfl (Or.inr rfl) (zfr (g:=(bD 0)) (tc:=dJ) (te:=(lK (xB (aP (uY (λxs H Q=> ∃p ys,xs=[.ref p]/\(aY K H p ys\/fR K H p ys)/\Q (.int ys.length) H) (aP (aL 1) cG)) cG)) 1 [1,0] (bD 0) (iQ (eR rEq (eR (jM K) (aL 1) (aL 0)) (aL 2))) (aL 0))) (z:= "_law_state") (fr:=["_law_owner"]) (idx:=[4]) rfl (by show fS _ _ _ (aH eM);exact⟨rfl,by decide+kernel,by decide+kernel,by decide+kernel,by decide+kernel,by decide+kernel,rfl,λ_ _=>rfl,λ_=>rfl⟩) (bP rfl B.range_ (aB (aW aO rfl B.len_ PySem.boot_len (aB (pv 1) aC)) aC)) (λ_ _ _ _ _=>(aJ (i:=0) (by show List.Nodup (["_law_state","_law_owner"]:List Str);decide+kernel) rfl (Or.inr rfl) (Or.inl fn1))) (λ_ _ _ _ _=>cT) (λ_ _ _ _ _=>(cS (g:=(bD 0)) (tc:=(iQ (eR rEq (eR (jM K) (aL 1) (aL 0)) (aL 2)))) (te:=(aL 0)) (own:=["_law_k"]) (fr:=["_law_owner","_law_state"]) (idx:=[1,0]) rfl (aR.relab (.of rfl (by decide+kernel))) (bP rfl B.range_ (aB (aW aO rfl B.len_ PySem.boot_len (aB (pv 1) aC)) aC)) (λ_ _ _ _ _=>(aJ (i:=0) (by show List.Nodup (["_law_k","_law_owner","_law_state"]:List Str);decide+kernel) rfl (Or.inl rfl) (Or.inr rfl))) (λ_ _ _ _ _=>kU (bQ lO (bV bO (pv 1) (pv 0) (λ_ _=>rfl)) (pv 2) (cL _))) (λ_ _ _ _ _=>(pv 0)) rfl (cR rfl))) rfl (cR rfl))) (aE (bF (i:=6) nd rfl (Or.inl rfl) (cU aC)) (aE (dL PassesOwn.never rfl (dH (pv 4)) (aJ (i:=7) nd rfl (Or.inl rfl)) (aK (dB (hJ PySem.F.plainAttrs_list PySem.F.slot_list_append PySem.F.type_list_append cZ (pv 6) (aB (cS (g:=(bD 0)) (tc:=dJ) (te:=(eR (jM K) (eR (jM K) (aL 1) (aL 0)) (iG dS [] E0 (aP (aL 2) (aP (uY (λxs H Q=> ∃p ys,xs=[.ref p]/\(aY K H p ys\/fR K H p ys)/\Q (.int ys.length) H) (aP (eR (jM K) (aL 1) (aL 0)) cG)) cG))))) (own:=["_law_goal"]) (fr:=["_law_alike","_law_flow_here"]) (idx:=[5,0]) rfl (by show aR _ _ _ (aH eM);exact(.of rfl (by decide+kernel))) (dH (bV bO (pv 1) (pv 7) (λ_ _=>rfl))) (λ_ _ _ _ _=>(aJ (i:=0) (by show List.Nodup (["_law_goal","_law_alike","_law_flow_here"]:List Str);decide+kernel) rfl (Or.inl rfl) (Or.inr rfl))) (λ_ _ _ _ _=>cT) (λ_ _ _ _ _=>(bV bO (bV bO (pv 1) (pv 0) (λ_ _=>rfl)) (lD aU hr rfl (aB (pv 2) (aB (aW aO rfl B.len_ PySem.boot_len (aB (bV bO (pv 1) (pv 0) (λ_ _=>rfl)) aC)) aC))) (λ_ _=>rfl))) rfl (cR rfl)) aC))))) (aK (cE (eE (aB (pv 6) (aB (cS (g:=(bD 0)) (tc:=(iQ (eR (rIn K false) (eR (jM K) (aL 1) (aL 0)) (aL 2)))) (te:=(aL 0)) (own:=["_law_k"]) (fr:=["_law_owner","_law_good"]) (idx:=[4,2]) rfl (by show aR _ _ _ (aH eM);exact(.of rfl (by decide+kernel))) (bP rfl B.range_ (aB (aW aO rfl B.len_ PySem.boot_len (aB (pv 4) aC)) aC)) (λ_ _ _ _ _=>(aJ (i:=0) (by show List.Nodup (["_law_k","_law_owner","_law_good"]:List Str);decide+kernel) rfl (Or.inl rfl) (Or.inr rfl))) (λ_ _ _ _ _=>kU (bQ fA (bV bO (pv 1) (pv 0) (λ_ _=>rfl)) (pv 2) rfl)) (λ_ _ _ _ _=>(pv 0)) rfl (cR rfl)) aC))))))))),?_⟩
 try dsimp only[eV,Cx.nox,Cx.wish]
 refine zjb ?_
 intro D0 σ0 U5 U4 U3 U2
 refine⟨_,rfl,T,_,rfl,.inl (aY.of hM.hT.at_),(us.map V.ref).length,rfl,λp hp=> ?_⟩
 rw[bH,lus]
 refine⟨p,0,_,rfl,aG,by omega,by omega,by omega,by omega,λl hl=> ?_⟩
 have x1:Same H (aN (aN H p (.rng 0 (cs.length:Int))) l (.lst (pR 0 (cs.length:Int)))):=(aX hp).trans (aX hl)
 have k1:aN (aN H p (.rng 0 (cs.length:Int))) l (.lst (pR 0 (cs.length:Int))) l=some (.lst ((dG (List.range cs.length)).map V.int)):=by rw[aG,zgM]
 generalize aN (aN H p (.rng 0 (cs.length:Int))) l (.lst (pR 0 (cs.length:Int)))=H1 at x1 k1 ⊢
 have f1:=Same.flow x1 hF
 refine⟨_,rfl,(more:Int),rfl,by omega,by omega,λD hD=> ?_⟩
 rw[show((more:Nat):Int).toNat=more from rfl]
 refine zuj (K:=K) lus c1 (by omega) (by omega) hD f1 (x1 _ _ hM.hT.at_) (Ne.symm naT) λns H2 nl nb f2 x2 h2=> ?_
 have nla:l≠a:= λe=>by
  obtain⟨o,ho⟩:=hF.some;have:=(aX (o:= .rng 0 (cs.length:Int)) hp) _ _ ho;rw[<-e,hl]at this;cases this
 refine⟨l,D,_,_,rfl,rfl,x2 _ _ nla k1,h2,by rw[bH,bB,List.length_range,bH,bB];exact zdC (by omega),λo ho=> ?_⟩
 have eo:(dG (List.range cs.length)).map V.int++(dG ns).map V.int=(dG (List.range cs.length++ns)).map V.int:=by unfold dG;rw[List.map_append,List.map_append]
 rw[eo]
 obtain⟨H3,e0,x3,k3⟩:=eJ ho (.lst ((dG (List.range cs.length++ns)).map V.int))
 rw[e0]
 have noa:=bN ho f2
 have e3:gH a H H3:=(Same.ext x1).trans (x2.trans (Same.ext x3))
 have f3:=Same.flow x3 f2
 -- the owners
 have owl:(List.range cs.length++ns).length=cs.length+more:=by rw[List.length_append,List.length_range,nl]
 have ow0: ∀j,j<cs.length->(List.range cs.length++ns).getD j 0=j:= λj hj=>KKL.getD_at (by rw[List.getElem?_append_left (by rw[List.length_range];exact hj),List.getElem?_range hj])
 have owb: ∀j,j<cs.length+more->(List.range cs.length++ns).getD j 0<cs.length:= λj hj=>by
  rcases Nat.lt_or_ge j cs.length with z|z
  . rw[ow0 j z];exact z
  . have e:=List.getElem?_eq_getElem (l:=List.range cs.length++ns) (i:=j) (by omega);rw[KKL.getD_at e];rw[List.getElem?_append_right (by rw[List.length_range];exact z)]at e;exact nb _ (List.mem_of_getElem? e)
 generalize List.range cs.length++ns=ow at owl ow0 owb k3 ⊢
 clear eo h2 k1 hD hl hp ho x1 x2 x3 f1 f2 nb nl nla
 have hM3:lF H3 T G us cs m:=hM.ext e3 (by simp only[List.mem_cons,not_or];exact⟨naT,naG,nau⟩)
 refine⟨_,rfl,T,_,rfl,.inl (aY.of hM3.hT.at_),_,rfl,by rw[bH];omega,by rw[bH];omega,λD2 lP=> ?_⟩
 rw[show(((us.map V.ref).length:Nat):Int).toNat=cs.length by rw[bH];omega]
 refine alO (K:=K) (by omega) (by omega) lP k3 λH4 as x4 h4 hPa hfa=> ?_
 have hM4:=hM3.same x4
 have f4:=Same.flow x4 f3
 have k4:=x4 _ _ k3
 have e4:=e3.trans (Same.ext (a:=a) x4)
 have nD2:=bN lP f3
 have nas:a∉as:= λhm=>bN (hfa a hm) f3 rfl
 have mX: ∀s,s<cs.length->wB ow s ow.length≠ []:= λs hs z=>by
  have:s∈wB ow s ow.length:=List.mem_filter.mpr ⟨List.mem_range.mpr (by omega),decide_eq_true (ow0 s hs)⟩;rw[z]at this;cases this
 clear hM3 f3 k3 e3 lP x4 hfa
 refine⟨dF 0,λFo hFo=> ?_⟩
 have nFo:=bN hFo f4
 have Fo0:=e4.free f4 hFo
 obtain⟨H5,e0,x5,k5⟩:=eJ hFo (.lst [])
 rw[e0]
 have k5:H5 Fo=some (.lst (([]:List Addr).map V.ref)):=k5
 have f5:=Same.flow x5 f4
 have e5:=e4.trans (Same.ext (a:=a) x5)
 refine⟨_,rfl,o,rfl,⟨_,aY.of (x5 _ _ k4)⟩,hU (xs:=(dG ow).map V.int) (λi σ H'=> ∃(v7:Option V) (rs:List Addr) (rows:List (List Nat)),σ=[some (.ref a),some (.ref T),some (.ref G),some (.int (more:Int)),some (.ref o),some (.ref D2),some (.ref Fo),v7]/\rs.length=i/\H' Fo=some (.lst (rs.map V.ref))/\Paired (sK H') rs (rows.map dG)/\(∀j r,rows[j]?=some r-> ∃c,cs[ow.getD j 0]?=some c/\zjA ow c.2 r)/\(∀u∈rs,H u=none)/\Fo∉rs/\aS H' a/\(∀b u,b≠a->b≠Fo->H5 b=some u->H' b=some u)) ?_ ?_ ?_ ?_⟩
 . exact⟨none,[],[],rfl,rfl,k5,.nil,(by intro j r h;cases h),(by intro _ z;cases z),(by intro z;cases z),f5,λ_ _ _ _ h=>h⟩
 . rintro i σ H6 _ ⟨_,_,_,_,_,_,_,_,_,_,_,y6⟩;exact aY.of (y6 _ _ noa (aF k4 hFo) (x5 _ _ k4))
 . rintro i y σ H6 hy ⟨v7,rs,rows,rfl,hrs,zbN,hP6,hR6,hf6,nF6,f6,y6⟩;rw[List.getElem?_map]at hy;obtain⟨z,hz,rfl⟩:=Option.map_eq_some_iff.mp hy;unfold dG at hz;rw[List.getElem?_map]at hz;obtain⟨st,hst,rfl⟩:=Option.map_eq_some_iff.mp hz;have hi:i<ow.length:=(List.getElem?_eq_some_iff.mp hst).1;have est:ow.getD i 0=st:=KKL.getD_at hst;have zob:st<cs.length:=by rw[<-est];exact owb i (by omega)
   have ec:=List.getElem?_eq_getElem zob;obtain⟨u,hu,hRu⟩:=dA hM4.hT.rows (jL ec);have nuF:u≠Fo:=aF hRu hFo;have nua:u≠a:= λe=>nau (e▸List.mem_of_getElem? hu);have T6:=y6 _ _ (Ne.symm naT) (aF hM4.hT.at_ hFo) (x5 _ _ hM4.hT.at_);have R6:=y6 _ _ nua nuF (x5 _ _ hRu);obtain⟨w1,w2⟩:=W.row _ (List.getElem_mem zob);have al6:=y6 _ _ nD2 (aF h4 hFo) (x5 _ _ h4);refine⟨_,rfl,.inl ⟨rfl,_,aY.of zbN⟩,_,rfl,_,rfl,T,_,_,_,rfl,rfl,aY.of T6,cN (by rw[List.getElem?_map,hu];rfl),u,rfl,⟨_,aY.of R6⟩,λD7 hD7=> ?_⟩;refine ztl (K:=K) (n:=cs.length) (by omega) (by omega) w2 mX hD7 f6 R6 nua al6 nD2 (eB hPa λb r hb z=>y6 _ _ (λe=>nas (e▸hb)) (aF z hFo) (x5 _ _ z)) nas λys H7 bR f7 x7 h7=> ?_;have nD7:=bN hD7 f6;have nDF:D7≠Fo:=Ne.symm (aF zbN hD7);have ztI:=x7 _ _ nFo zbN;have nra: ∀b∈rs,b≠a:= λb hb=>bN (hf6 b hb) hF;have nDr:D7∉rs:= λhm=>by
    obtain⟨j,hj⟩:=List.getElem?_of_mem hm;obtain⟨_,_,z⟩:=dR hP6 hj;have z':H6 D7=_:=z;rw[hD7]at z';cases z'
   refine⟨Fo,_,_,rfl,rfl,ztI,by rw[bH];exact small (by omega),?_⟩;refine⟨_,rs++[D7],rows++[ys],rfl,by rw[List.length_append,hrs];rfl,by rw[List.map_append];exact aG,?_,λj r hj=> ?_,λb hb=> ?_,λhm=> ?_,f7.set (Ne.symm nFo),λb o' nb nF h=>by rw[aD nF];exact x7 _ _ nb (y6 _ _ nb nF h)⟩
   . rw[List.map_append];refine bU (eB hP6 λb r hb z=> ?_) (.cons ?_ .nil)
     . show aN H7 Fo _ b=_
       have ne:b≠Fo:= λe=>nF6 (e▸hb);rw[aD ne];exact x7 _ _ (nra b hb) z
     . show aN H7 Fo _ D7=_
       rw[aD nDF];exact h7
   . have zhI:rows.length=i:=by have:=Paired.length hP6;rw[bH]at this;omega
     rcases Nat.lt_or_ge j rows.length with z|z
     . rw[List.getElem?_append_left z]at hj;exact hR6 j r hj
     . rw[List.getElem?_append_right z]at hj;have ej:j=i:=by
        rcases Nat.lt_or_ge i j with z'|z'
        . rw[List.getElem?_eq_none_iff.mpr (by simp only[List.length_cons,List.length_nil];omega)]at hj;cases hj
        . omega
       subst ej;rw[zhI,Nat.sub_self]at hj;cases hj;exact⟨_,by rw[est];exact ec,bR⟩
   . rcases List.mem_append.mp hb with z|z
     . exact hf6 b z
     . rw[List.mem_singleton.mp z];cases eq:H D7 with
       |none=>rfl
       |some o'=>
        have h5:=e5 _ _ nD7 eq;rw[y6 _ _ nD7 nDF h5]at hD7;cases hD7
   . rcases List.mem_append.mp hm with z|z
     . exact nF6 z
     . exact nDF (List.mem_singleton.mp z).symm
 . rintro σ H6 ⟨v7,rs,rows,rfl,hrs,zbN,hP6,hR6,hf6,nF6,f6,y6⟩;rw[bH,bB]at hrs;have zhI:rows.length=ow.length:=by have:=Paired.length hP6;rw[bH]at this;omega
   have o6:=y6 _ _ noa (aF k4 hFo) (x5 _ _ k4);have G6:=y6 _ _ (Ne.symm naG) (aF hM4.hG hFo) (x5 _ _ hM4.hG);refine⟨_,rfl,_,rfl,o,_,rfl,.inl (aY.of o6),_,rfl,by rw[bH,bB];omega,by rw[bH,bB];omega,λD8 hD8=> ?_⟩;rw[show((((dG ow).map V.int).length:Nat):Int).toNat=ow.length by rw[bH,bB];omega];refine zpt (K:=K) (by omega) hD8 o6 G6 λH8 x8 h8=>⟨dF 2,λt ht=> ?_⟩;have x9:Same H8 (aN H8 t (.tup [.ref Fo,.ref D8])):=aX ht;have x89:=x8.trans x9
   -- the machine
   have nH: ∀r∈rows.map dG,r.length=m/\ ∀x∈r,0<=x/\x<(ow.length:Int):= λr hr=>by
    obtain⟨rr,hrr,rfl⟩:=List.mem_map.mp hr;obtain⟨j,hj⟩:=List.getElem?_of_mem hrr;obtain⟨c,hc,b⟩:=hR6 j rr hj;refine⟨by rw[bB,b.len];exact(W.row c (List.mem_of_getElem? hc)).1,λx hx=> ?_⟩;obtain⟨y,hy,rfl⟩:=List.mem_map.mp hx;obtain⟨j',hj'⟩:=List.getElem?_of_mem hy;have:=(b.at_ j' y hj').1;omega
   have up:(dG ((List.range ow.length).filter λj=>decide (((ow.getD j 0:Nat):Int)∈nK cs cs.length))).Pairwise (·<·):=by
    unfold dG;exact List.pairwise_map.mpr (List.Pairwise.imp (λ{a b} h=>Int.ofNat_lt.mpr h) (List.Pairwise.filter _ List.pairwise_lt_range))
   obtain⟨ds,d1,d2,d3⟩:=zbv (tb:=rows.map dG) (gd:=dG ((List.range ow.length).filter λj=>decide (((ow.getD j 0:Nat):Int)∈nK cs cs.length))) (λr hr x hx=>((nH r hr).2 x hx).1) up (λx hx=>by
    obtain⟨y,hy,rfl⟩:=List.mem_map.mp hx;have:=List.mem_range.mp (List.mem_filter.mp hy).1;rw[bH,zhI];omega)
   rw[bH,zhI]at d1;have Wd:Wc m ds:=zau (by omega) (by rw[d2];exact λr hr=>(nH r hr).1) (by rw[d2,d1];exact λr hr x hx=>((nH r hr).2 x hx).2);refine q t Fo D8 rs ds _ ⟨by omega,λj=>ow.getD j 0,ow0 0 c1,λj hj=> ?_,λj a' hj ha'=> ?_⟩ ⟨by rw[d2];exact⟨x89 _ _ zbN,Paired.mapP hP6 λ_ _ z=>x89 _ _ z,λr hr=>(nH r hr).1,by rw[bH];omega⟩,by rw[d3];exact x9 _ _ h8,Wd⟩ (λb hb=> ?_) (Same.flow x89 f6) ?_ aG
   . -- good
     have hj':j<ow.length:=by omega
     have ej:=List.getElem?_eq_getElem hj;have e1:(ds.getD j (false,[])).1=decide (((ow.getD j 0:Nat):Int)∈nK cs cs.length):=by
      rw[Bool.eq_iff_iff,decide_eq_true_iff];have gm:=qH (cs:=ds) (n:=ds.length) (x:=(j:Int));rw[d3]at gm
      constructor
      . intro h;have:=gm.mpr ⟨j,hj,rfl,h⟩;obtain⟨y,hy,ey⟩:=List.mem_map.mp this;have ey':y=j:=Int.ofNat_inj.mp ey;subst ey';exact of_decide_eq_true (List.mem_filter.mp hy).2
      . intro h;obtain⟨j2,_,e2,h2⟩:=gm.mp (List.mem_map.mpr ⟨j,List.mem_filter.mpr ⟨List.mem_range.mpr hj',decide_eq_true h⟩,rfl⟩);rw[Int.ofNat_inj.mp e2];exact h2
     show(ds.getD j (false,[])).1=(cs.getD (ow.getD j 0) (false,[])).1
     rw[e1,Bool.eq_iff_iff,decide_eq_true_iff,qH]
     constructor
     . rintro⟨j2,_,e2,h2⟩;rw[Int.ofNat_inj.mp e2];exact h2
     . intro h;exact⟨_,owb j (by omega),rfl,h⟩
   . have hj':j<rows.length:=by omega
     have er:=List.getElem?_eq_getElem hj';obtain⟨c,hc,b⟩:=hR6 j _ er;have ed:=List.getElem?_eq_getElem hj;have etb:=jL ed;rw[d2,List.getElem?_map,er]at etb;have ers:rows[j]=ds[j].2:=zhy (Option.some.inj etb);rw[kK ed,kK hc,<-ers];have hal:a'<(rows[j]).length:=by rw[b.len,(W.row c (List.mem_of_getElem? hc)).1];exact ha'
     have ea:=List.getElem?_eq_getElem hal;rw[KKL.getD_at ea];exact(KKL.getD_at (b.at_ a' _ ea).2).symm
   . rcases List.mem_cons.mp hb with rfl|hb
     . exact Fo0
     rcases List.mem_cons.mp hb with rfl|hb
     . cases eq:H b with
       |none=>rfl
       |some o'=>
        have nb:=bN hD8 f6;have h5:=e5 _ _ nb eq;rw[y6 _ _ nb (Ne.symm (aF zbN hD8)) h5]at hD8;cases hD8
     . exact hf6 b hb
   . intro b o' nb h;have nF:b≠Fo:=aF h Fo0;exact x89 _ _ (y6 _ _ nb nF (e5 _ _ nb h))
theorem zcH{a b D:Addr}{xs ys:List V}{g:TG}{tc:TT}{te:TE}{Q:VK}{σ0:L2.St}{H1:Hp}(Pv:Nat->List V->L2.St->Hp->Prop)(cQ:xs.length=ys.length)(vM:xs.length<=60)(h0:Pv 0 [] σ0 (aN H1 D (.lst [])))
 (hy: ∀i vs σ H,Pv i vs σ H->vs.length<=i) (hl: ∀i vs σ H,Pv i vs σ H->aY K H a xs/\aY K H b ys)
 (hs: ∀i x y vs σ H T,xs[i]?=some x->ys[i]?=some y->H T=none->H D=some (.lst vs)->Pv i vs σ H->g (.ref T) σ (aN H T (.tup [x,y])) λσ2 H2=>tc σ2 H2 λb H3=>if b=true then te σ2 H3 λv H4=>H4 D=some (.lst vs)/\Pv (i+1) (vs++[v]) σ2 (aN H4 D (.lst (vs++[v])))else H3 D=some (.lst vs)/\Pv (i+1) vs σ2 H3) (hd: ∀vs σ H,H D=some (.lst vs)->Pv xs.length vs σ H->Q (.ref D) H):
 bJ (Itk false false K a b) D g tc te Q σ0 H1:=by
 refine⟨λi m vs σ H=>m=xs.length - i/\i<=xs.length/\Pv i vs σ H,⟨xs.length,by simp,Nat.zero_le _,h0⟩,?_⟩
 rintro i m vs σ H hD ⟨rfl,hi,p⟩
 have q:=hl i vs σ H p
 have lv:=hy i vs σ H p
 by_cases eO:i<xs.length
 . refine .inr ⟨⟨xs,ys,xs[i],ys[i],q.1,q.2,by simp[eO],by simp[cQ▸eO]⟩,cY (by omega),λvs'=>Pv (i+1) vs',λvs' σ' H' p'=>⟨xs.length - (i+1),by omega,rfl,eO,p'⟩,λx H' y=> ?_⟩;obtain⟨T,hT,rfl,y⟩:=y;obtain⟨x1,y1,hx,hy',rfl⟩:=y xs ys q.1 q.2;exact hs i x1 y1 vs σ H T hx hy' hT hD p
 . have e:i=xs.length:=by omega
   subst e;exact .inl ⟨⟨xs,q.1,Nat.le_refl _⟩,hd vs σ H hD p⟩
theorem znT{D u1 u2 d:Addr}{Q:VK}{H1:Hp}{r1 r2:List Nat}{fs:Fs}(hl:r1.length=r2.length)(vM:r1.length<=60)(hD:H1 D=none)(e1:H1 u1=some (.lst ((dG r1).map V.int)))(e2:H1 u2=some (.lst ((dG r2).map V.int)))(hd:H1 d=some (.dT (iF (nP fs))))
 (gT: ∀H' zs,Same H1 H'->H' D=some (.lst zs)->((!zs.isEmpty)=true↔ ∃a,a<r1.length/\(dI (vJ fs) (pk (r1.getD a 0,r2.getD a 0))).isSome=true)->Q (.ref D) H'):
 bJ (Itk false false K u1 u2) D (bD 0) (tB (zjv P w (aL 0) (aL 1))) (aL 0) Q [none,some (.ref d)] H1:=by
 have ll:((dG r1).map V.int).length=((dG r2).map V.int).length:=by rw[bH,bH,bB,bB];exact hl
 refine zcH (λi zs σ H=> ∃v:Option V,zs.length<=i/\σ=[v,some (.ref d)]/\Same H1 H/\((!zs.isEmpty)=true↔ ∃a,a<i/\(dI (vJ fs) (pk (r1.getD a 0,r2.getD a 0))).isSome=true)) ll (by rw[bH,bB];exact vM) ?_ ?_ ?_ ?_ ?_
 . exact⟨none,Nat.le_refl _,rfl,aX hD,⟨(λz=>nomatch z),λ⟨_,z,_⟩=>absurd z (Nat.not_lt_zero _)⟩⟩
 . rintro i zs σ H ⟨v,e,_⟩;exact e
 . rintro i zs σ H ⟨v,_,_,x,_⟩;exact⟨aY.of (x _ _ e1),aY.of (x _ _ e2)⟩
 . rintro i x y zs σ H T hx hy hT bZ ⟨v,hlz,rfl,xs,zbw⟩;rw[List.getElem?_map]at hx hy;obtain⟨a1,ha1,rfl⟩:=Option.map_eq_some_iff.mp hx;obtain⟨b1,hb1,rfl⟩:=Option.map_eq_some_iff.mp hy;unfold dG at ha1 hb1;rw[List.getElem?_map]at ha1 hb1;obtain⟨a2,ha2,rfl⟩:=Option.map_eq_some_iff.mp ha1;obtain⟨b2,hb2,rfl⟩:=Option.map_eq_some_iff.mp hb1;have g1:=KKL.getD_at (d:=0) ha2;have g2:=KKL.getD_at (d:=0) hb2;obtain⟨H2,e0,xT,kT⟩:=eJ hT (.tup [.int (a2:Int),.int (b2:Int)]);rw[e0];have yH:dQ H2 (.ref T) (pk (a2,b2)):=⟨T,rfl,kT⟩;have xx:=xs.trans xT;refine⟨_,rfl,_,rfl,d,.p,_,pk (a2,b2),rfl,zbf (xx _ _ hd),yH,rfl,_,rfl,?_⟩;have step:(∃a,a<i+1/\(dI (vJ fs) (pk (r1.getD a 0,r2.getD a 0))).isSome=true)↔(∃a,a<i/\(dI (vJ fs) (pk (r1.getD a 0,r2.getD a 0))).isSome=true)\/(dI (vJ fs) (pk (a2,b2))).isSome=true:=by
    constructor
    . rintro⟨a,ha,hv⟩
      rcases Nat.lt_or_ge a i with z|z
      . exact .inl ⟨a,z,hv⟩
      . obtain rfl:a=i:=by omega
        rw[g1,g2]at hv;exact .inr hv
    . rintro(⟨a,ha,hv⟩|hv)
      . exact⟨a,Nat.lt_succ_of_lt ha,hv⟩
      . exact⟨i,Nat.lt_succ_self _,by rw[g1,g2];exact hv⟩
   refine jA (λhq=> ?_) (λhq=> ?_)
   . refine⟨_,rfl,xT _ _ bZ,_,by rw[List.length_append];exact Nat.succ_le_succ hlz,rfl,xx.at hD,?_⟩;rw[step];exact⟨λ_=> .inr hq,λ_=>by cases zs<;>rfl⟩
   . refine⟨xT _ _ bZ,_,Nat.le_succ_of_le hlz,rfl,xx,?_⟩;rw[step,zbw];exact⟨.inl,λz=>z.elim id λq=>absurd q hq⟩
 . rintro zs σ H bZ ⟨v,_,_,x,zbw⟩;rw[bH,bB]at zbw;exact gT H zs x bZ zbw
theorem zja{n:Nat}(h:n<=2000):n<=sizeLine:=Nat.le_trans h (by decide)
open Classical in
noncomputable def atD (M:Mc) (T:Nat) (p:Nat×Nat):Bool:=decide (fD (fC M) (gO M) M.m (T+1) p)
theorem zay{M:Mc}{T:Nat}{p:Nat×Nat}:atD M T p=true↔fD (fC M) (gO M) M.m (T+1) p:=by
 unfold atD
 exact @decide_eq_true_iff _ (Classical.propDecidable _)
def zan:Sp:= λvs H Q _=> ∃(T G:Addr) (us:List Addr) (cs:fX) (m:Nat),vs=[.ref T,.ref G]/\lF H T G us cs m/\m<=60/\cs.length<=24/\
 ∀d H' fs,Same H H'->H d=none->H' d=some (.dT (iF (nP fs)))->kF (aQ m cs) (cs.length - 1) fs->Q (.ref d) H'
theorem zdz:bS ["_law_table","_law_good","_law_every","_law_one","_law_far_here","_law_turn","_law_fresh","_law_pair","_law_near"] ["_law_table","_law_good"] (aH fV):=(.of rfl rfl rfl rfl (by decide+kernel))
set_option maxHeartbeats 40000000 in
theorem zlf(F:mR K "_law_far" "_law_far" fV f fd)(B:Bt mg):dN P w K mg base gU (k+1) f fd ["_law_table","_law_good"] zan:=by
 refine F.ok zdz (λvs H Q E h=> ?_) (λeQ A outer s H vs Q E hr h=> ?_)
 . obtain⟨T,G,us,cs,m,rfl,_⟩:=h;rfl
 obtain⟨T,G,us,cs,m,rfl,hM,m60,sX,q⟩:=h
 have nd:=zdz.nd
 have W:=hM.wc
 have lu:=Paired.length hM.hT.rows
 rw[iM]at lu
 have n2:cs.length * cs.length<=24 * 24:=Nat.mul_le_mul sX sX
 refine⟨_,(aE (bF (i:=2) nd rfl (Or.inl rfl) (cU aC)) (aE (dL PassesOwn.never rfl (bP rfl B.range_ (aB (aW aO rfl B.len_ PySem.boot_len (aB (pv 0) aC)) aC)) (aJ (i:=3) nd rfl (Or.inr rfl)) (aK (dB (hJ PySem.F.plainAttrs_list PySem.F.slot_list_extend PySem.F.type_list_extend uB (pv 2) (aB (cS (g:=(bD 0)) (tc:=dJ) (te:=(vG (aP (aL 1) (aP (aL 0) cG)))) (own:=["_law_other"]) (fr:=["_law_one"]) (idx:=[3]) rfl (by show aR _ _ _ (aH fV);exact(.of rfl (by decide+kernel))) (bP rfl B.range_ (aB (aW aO rfl B.len_ PySem.boot_len (aB (pv 0) aC)) aC)) (λ_ _ _ _ _=>(aJ (i:=0) (by show List.Nodup (["_law_other","_law_one"]:List Str);decide+kernel) rfl (Or.inl rfl) (Or.inr rfl))) (λ_ _ _ _ _=>cT) (λ_ _ _ _ _=>(eE (aB (pv 1) (aB (pv 0) aC)))) rfl (cR rfl)) aC))))) (aE (bF (i:=4) nd rfl (Or.inr rfl) (dY (zY rfl (kC hr)) rfl B.dict_ (by decide+kernel) (aB (cS (g:=(bD 0)) (tc:=(iQ (eR rNe (eR (rIn K false) (eR (zeP K) (aL 0) (tC (.int 0))) (aL 1)) (eR (rIn K false) (eR (zeP K) (aL 0) (tC (.int 1))) (aL 1))))) (te:=(vG (aP (aL 0) (aP (tC (.int 0)) cG)))) (own:=["_law_pair"]) (fr:=["_law_good"]) (idx:=[1]) rfl (by show aR _ _ _ (aH fV);exact(.of rfl (by decide+kernel))) (dH (pv 2)) (λ_ _ _ _ _=>(aJ (i:=0) (by show List.Nodup (["_law_pair","_law_good"]:List Str);decide+kernel) rfl (Or.inl rfl) (Or.inr rfl))) (λ_ _ _ _ _=>kU (bQ uA (gC fA (bV gL (pv 0) aI (λ_ _=>rfl)) (pv 1) rfl) (gC fA (bV gL (pv 0) aI (λ_ _=>rfl)) (pv 1) rfl) (cL _))) (λ_ _ _ _ _=>(eE (aB (pv 0) (aB aI aC)))) rfl (cR rfl)) aC))) (aE (dL PassesOwn.never rfl (zbB rfl B.range_ (aB aI (aB (aW aO rfl B.len_ PySem.boot_len (aB (pv 0) aC)) aC))) (aJ (i:=5) nd rfl (Or.inr rfl)) (aE (bF (i:=6) nd rfl (Or.inl rfl) (cU aC)) (aE (dL PassesOwn.never rfl (dH (pv 2)) (aJ (i:=7) nd rfl (Or.inl rfl)) (aE (zba (i:=8) nd rfl (Or.inl rfl) (g:=(bD 0)) (tc:=(tB (zjv P w (aL 0) (aL 1)))) (te:=(aL 0)) (own:=["_law_goals"]) (fr:=["_law_far_here"]) (idx:=[4]) rfl (by show aR _ _ _ (aH fV);exact(.of rfl (by decide+kernel))) (zhM false false rfl B.zip_ (aB (bV bO (pv 0) (bV gL (pv 7) aI (λ_ _=>rfl)) (λ_ _=>rfl)) (aB (bV bO (pv 0) (bV gL (pv 7) aI (λ_ _=>rfl)) (λ_ _=>rfl)) aC))) (λ_ _ _ _ _=>(aJ (i:=0) (by show List.Nodup (["_law_goals","_law_far_here"]:List Str);decide+kernel) rfl (Or.inl rfl) (Or.inr rfl))) (λ_ _ _ _ _=>kU (vN (zjY (kC hr) (pv 0) (pv 1)))) (λ_ _ _ _ _=>(pv 0)) rfl (cR rfl)) (aK (dX (PW.pt (zeR (vN (vT (kC hr) (pv 7) (pv 4))) (zaI (bQ (zgB (zdO hr)) (pv 8) (cU aC) (cL _))))) (aK (dB (hJ PySem.F.plainAttrs_list PySem.F.slot_list_append PySem.F.type_list_append cZ (pv 6) (aB (pv 7) aC)))) bW)))) (aK (dB (hJ PySem.F.plainAttrs_dict PySem.F.slot_dict_update PySem.F.type_dict_update (a7 rfl (zeC hr)) (pv 4) (aB (cS (g:=(bD 0)) (tc:=dJ) (te:=(vG (aP (aL 0) (aP (aL 1) cG)))) (own:=["_law_pair"]) (fr:=["_law_turn"]) (idx:=[5]) rfl (by show aR _ _ _ (aH fV);exact(.of rfl (by decide+kernel))) (dH (pv 6)) (λ_ _ _ _ _=>(aJ (i:=0) (by show List.Nodup (["_law_pair","_law_turn"]:List Str);decide+kernel) rfl (Or.inl rfl) (Or.inr rfl))) (λ_ _ _ _ _=>cT) (λ_ _ _ _ _=>(eE (aB (pv 0) (aB (pv 1) aC)))) rfl (cR rfl)) aC))))))) (aK (cE (pv 4))))))),?_⟩
 try dsimp only[eV,Cx.nox,Cx.wish]
 refine zjb ?_
 intro D0 σ0 U5 U4 U3 U2
 refine⟨dF 0,λev hev=> ?_⟩
 obtain⟨H1,e0,x1,k1⟩:=eJ hev (.lst [])
 rw[e0]
 refine⟨_,rfl,T,_,rfl,.inl (aY.of (x1 _ _ hM.hT.at_)),_,rfl,by rw[bH];omega,by rw[bH];omega,?_⟩
 rw[show(((us.map V.ref).length:Nat):Int).toNat=cs.length by rw[bH];omega]
 refine eY (λi σ H'=> ∃(vs:List V) (v3:Option V),σ=[some (.ref T),some (.ref G),some (.ref ev),v3,none,none,none,none,none]/\Same H H'/\H' ev=some (.lst vs)/\Paired (qS H') vs (wD cs.length i)) ?_ ?_ ?_
 . exact⟨[],none,rfl,x1,k1,.nil⟩
 . rintro i σ H2 hi ⟨vs,v3,rfl,y2,h2,P2⟩;have l2:=Paired.length P2;rw[rP]at l2;have l3:i * cs.length<=24 * 24:=Nat.mul_le_mul (by omega) sX;rw[Int.zero_add];refine⟨_,rfl,.inl ⟨rfl,_,aY.of h2⟩,_,rfl,T,_,rfl,.inl (aY.of (y2 _ _ hM.hT.at_)),_,rfl,by rw[bH];omega,by rw[bH];omega,λD hD=> ?_⟩;rw[show(((us.map V.ref).length:Nat):Int).toNat=cs.length by rw[bH];omega];refine zua (a:=i) (by omega) hD λH3 ws x3 h3 P3=> ?_;have lw:=Paired.length P3;rw[bH,List.length_range]at lw;have h2':=x3 _ _ h2;refine⟨ev,D,vs,ws,rfl,rfl,h2',h3,zdC (by omega),?_⟩;have tk:e9 H3 (aN H3 ev (.lst (vs++ws))):= λb xs e=>by rw[aD (cK e h2' (λz=>nomatch z))];exact e
   refine⟨vs++ws,_,rfl,(y2.trans x3).at hev,aG,?_⟩;rw[vD];exact bU (Paired.mapP P2 λ_ _ z=>(z.keep λb xs e=>x3 _ _ e).keep tk) (Paired.mapP P3 λ_ _ z=>z.keep tk)
 rintro σ H2 ⟨vs,v3,rfl,y2,h2,P2⟩
 have l2:=Paired.length P2
 rw[rP]at l2
 have vb: ∀p∈wD cs.length cs.length,p.1<cs.length/\p.2<cs.length:= λp hp=>pN.mp hp
 refine⟨_,rfl,ev,rfl,⟨_,aY.of h2⟩,λD hD=>zqj (K:=K) (m:=m) (by omega) vb hD h2 P2 (y2 _ _ hM.hG) λH3 ts x3 h3 P3=> ?_⟩
 have fo:=zcu (M:=aQ m cs)
 refine⟨D,ts,_,rfl,h3,P3,wI fo.nd,λd hd=> ?_⟩
 have y3:=y2.trans x3
 obtain⟨H4,e0,x4,k4⟩:=eJ hd (.dT (iF (nP (((wD cs.length cs.length).filter λp=>gO (aQ m cs) p).map λp=>(p,0)))))
 rw[e0]
 have d0:=y3.free hd
 have y4:=y3.trans x4
 have nde:ev≠d:=aF (x3 _ _ h2) hd
 refine⟨_,rfl,T,_,rfl,.inl (aY.of (y4 _ _ hM.hT.at_)),_,_,rfl,⟨by decide,by decide,by rw[bH];omega,by rw[bH];omega⟩,?_⟩
 rw[show((((us.map V.ref).length:Nat):Int) - 1).toNat=cs.length - 1 by rw[bH];omega]
 refine eY (λi σ H'=> ∃(fs:Fs) (v5 v6 v7 v8:Option V),σ=[some (.ref T),some (.ref G),some (.ref ev),v3,some (.ref d),v5,v6,v7,v8]/\Same H H'/\H' ev=some (.lst vs)/\Paired (qS H') vs (wD cs.length cs.length)/\H' d=some (.dT (iF (nP fs)))/\kF (aQ m cs) i fs) ?_ ?_ ?_
 . exact⟨_,none,none,none,none,rfl,y4,x4 _ _ (x3 _ _ h2),Paired.mapP P2 λ_ _ z=>(z.keep λb xs e=>x3 _ _ e).keep λb xs e=>x4 _ _ e,k4,fo⟩
 . rintro i σ H5 hi ⟨fs,v5,v6,v7,v8,rfl,y5,h5,P5,k5,fo5⟩;rw[show(1:Int)+(i:Int)=((i+1:Nat):Int) by omega];have few:=fo5.few (show(aQ m cs).n<=24 from sX);refine⟨dF 0,λFr hFr=> ?_⟩;obtain⟨H6,e0,x6,k6⟩:=eJ hFr (.lst []);rw[e0];refine⟨_,rfl,ev,rfl,⟨_,aY.of (x6 _ _ h5)⟩,hU (xs:=vs) (λj σ H'=> ∃(ws:List V) (v7 v8:Option V),σ=[some (.ref T),some (.ref G),some (.ref ev),v3,some (.ref d),some (.int ((i+1:Nat):Int)),some (.ref Fr),v7,v8]/\Same H5 H'/\H' Fr=some (.lst ws)/\Paired (qS H') ws (((wD cs.length cs.length).take j).filter (atD (aQ m cs) i))) ?_ ?_ ?_ ?_⟩
   . exact⟨[],v7,v8,rfl,x6,k6,.nil⟩
   . rintro j σ H7 _ ⟨_,_,_,_,x7,_⟩;exact aY.of (x7 _ _ h5)
   . rintro j y σ H7 hy ⟨ws,v7,v8,rfl,x7,h7,P7⟩;obtain⟨p,hp,t,rfl,ht⟩:=dR P5 hy;obtain⟨b1,b2⟩:=vb p (List.mem_of_getElem? hp);have ht7:=x7 _ _ ht;have y7:=y5.trans x7;have c1:=List.getElem?_eq_getElem b1;have c2:=List.getElem?_eq_getElem b2;obtain⟨u1,hu1,hr1⟩:=dA hM.hT.rows (jL c1);obtain⟨u2,hu2,hr2⟩:=dA hM.hT.rows (jL c2);have w1:=(W.row _ (List.getElem_mem b1)).1;have w2:=(W.row _ (List.getElem_mem b2)).1;refine⟨_,rfl,_,rfl,t,_,_,_,rfl,rfl,fR.of ht7,rfl,T,_,_,_,rfl,rfl,aY.of (y7 _ _ hM.hT.at_),cN (by rw[List.getElem?_map,hu1];rfl),_,rfl,_,rfl,t,_,_,_,rfl,rfl,fR.of ht7,rfl,T,_,_,_,rfl,rfl,aY.of (y7 _ _ hM.hT.at_),cN (by rw[List.getElem?_map,hu2];rfl),u1,u2,rfl,⟨_,aY.of (y7 _ _ hr1)⟩,⟨_,aY.of (y7 _ _ hr2)⟩,λD hD=>znT (K:=K) (r1:=cs[p.1].2) (r2:=cs[p.2].2) (fs:=fs) (w1.trans w2.symm) (by rw[w1];exact m60) hD (y7 _ _ hr1) (y7 _ _ hr2) (x7 _ _ k5) λH8 zs x8 h8 zbw=> ?_⟩;have goE: ∀a,(cs[p.1].2.getD a 0,cs[p.2].2.getD a 0)=fC (aQ m cs) p a:= λa=>by
      show _=((aQ m cs).go p.1 a,(aQ m cs).go p.2 a)
      rw[kK c1,kK c2]
     have jH:((!zs.isEmpty)=true)↔ ∃a d',a<m/\oX (aQ m cs) i (fC (aQ m cs) p a) d':=by
      rw[zbw,w1]
      constructor
      . rintro⟨a,ha,hv⟩;rw[goE]at hv;obtain⟨d',vR⟩:=(fo5.has (show(fC (aQ m cs) p a).1<(aQ m cs).n from W.ok.lt _ a b1 ha) (W.ok.lt _ a b2 ha)).mp hv;exact⟨a,d',ha,vR⟩
      . rintro⟨a,d',ha,vR⟩;refine⟨a,ha,?_⟩;rw[goE];exact(fo5.has (show(fC (aQ m cs) p a).1<(aQ m cs).n from W.ok.lt _ a b1 ha) (W.ok.lt _ a b2 ha)).mpr ⟨d',vR⟩
     have tP:=fo5.has (p:=p) (show p.1<(aQ m cs).n from b1) b2;have stepI:atD (aQ m cs) i p=true↔(dI (vJ fs) (pk p)).isSome=false/\(!zs.isEmpty)=true:=by
      rw[zay,zfh];exact⟨λz=>⟨Bool.eq_false_iff.mpr λe=>z.1 (tP.mp e),jH.mpr z.2⟩,λz=>⟨λe=>(Bool.eq_false_iff.mp z.1) (tP.mpr e),jH.mp z.2⟩⟩
     have y8:=x7.trans x8;have kt:dQ H8 (.ref t) (pk p):=⟨t,rfl,x8 _ _ ht7⟩;have snoc:=oK (q:=atD (aQ m cs) i) hp;refine⟨_,rfl,_,rfl,d,.p,_,pk p,rfl,zbf (y8 _ _ k5),kt,rfl,_,rfl,?_⟩;have P8:Paired (qS H8) ws (((wD cs.length cs.length).take j).filter (atD (aQ m cs) i)):=Paired.mapP P7 λ_ _ z=>z.keep λb xs e=>x8 _ _ e;cases hk:(dI (vJ fs) (pk p)).isSome with
     |true=>
      refine iY (iY ⟨ws,_,_,rfl,y8,x8 _ _ h7,?_⟩);rw[snoc,if_neg (λz=>by have:=(stepI.mp z).1;rw[hk]at this;cases this),List.append_nil];exact P8
     |false=>
      refine oZ ?_;refine⟨_,rfl,dF 0,λeZ heZ=> ?_⟩;obtain⟨H9,e0,x9,k9⟩:=eJ heZ (.lst []);rw[e0];have y9:=y8.trans x9;refine⟨D,eZ,zs,rfl,rfl,aY.of (x9 _ _ h8),aY.of k9,_,rfl,?_⟩;cases hz:(!zs.isEmpty)with
      |false=>
       refine iY ⟨ws,_,_,rfl,y9,x9 _ _ (x8 _ _ h7),?_⟩;rw[snoc,if_neg (λz=>by have:=(stepI.mp z).2;rw[hz]at this;cases this),List.append_nil];exact Paired.mapP P8 λ_ _ z=>z.keep λb xs e=>x9 _ _ e
      |true=>
       refine oZ ?_;have h9:=x9 _ _ (x8 _ _ h7);have lw:=Paired.length P8;have lf:(((wD cs.length cs.length).take j).filter (atD (aQ m cs) i)).length<=600:=Nat.le_trans (List.length_filter_le ..) (by rw[List.length_take,rP];omega);refine⟨_,rfl,.inl ⟨rfl,_,aY.of h9⟩,_,rfl,Fr,_,_,rfl,rfl,h9,cY (by omega),?_⟩;have tk:e9 H9 (aN H9 Fr (.lst (ws++[.ref t]))):= λb xs e=>by rw[aD (cK e h9 (λz=>nomatch z))];exact e
       refine⟨ws++[.ref t],_,_,rfl,y9.at hFr,aG,?_⟩;rw[snoc,if_pos (stepI.mpr ⟨hk,hz⟩)];exact bU (Paired.mapP P8 λ_ _ z=>(z.keep λb xs e=>x9 _ _ e).keep tk) (.cons ⟨t,rfl,tk _ _ (x9 _ _ (x8 _ _ ht7))⟩ .nil)
   . rintro σ H7 ⟨ws,v7,v8,rfl,x7,h7,P7⟩;have l5:=Paired.length P5;rw[l5,List.take_length]at P7;have lw:=Paired.length P7;have pn:((wD cs.length cs.length).filter (atD (aQ m cs) i)).Nodup:=(rJ _ _).filter _;have lf:((wD cs.length cs.length).filter (atD (aQ m cs) i)).length<=600:=Nat.le_trans (List.length_filter_le ..) (by rw[rP];omega);have fo6:=zev fo5 pn λp=>by
      rw[List.mem_filter,pN,zay];exact Iff.rfl
     refine⟨_,rfl,.inr (.inr (.inl ⟨rfl,.inr ⟨_,x7 _ _ k5⟩⟩)),_,rfl,Fr,rfl,⟨_,aY.of h7⟩,λD hD=>zoj (K:=K) (by omega) hD h7 P7 λH8 ts x8 h8 P8=> ?_⟩;have k8:=x8 _ _ (x7 _ _ k5);refine⟨d,D,ts,nP fs,_,rfl,rfl,k8,h8,P8,?_,zja ?_,?_⟩
     . rw[<-pH];exact wI fo6.nd
     . rw[zap,zap,bH];omega
     . have tk:e9 H8 (aN H8 d (.dT (iF (nP fs++nP (((wD cs.length cs.length).filter (atD (aQ m cs) i)).map λp=>(p,i+1)))))):= λb xs e=>by rw[aD (cK e k8 (λz=>nomatch z))];exact e
       have x78:=x7.trans x8;refine⟨_,_,_,_,_,rfl,((y5.trans x78).at d0),?_,Paired.mapP P5 λ_ _ z=>(z.keep λb xs e=>x78 _ _ e).keep tk,?_,fo6⟩
       . rw[aD nde];exact x78 _ _ h5
       . rw[aG,<-pH]
 . rintro σ H5 ⟨fs,v5,v6,v7,v8,rfl,y5,h5,P5,k5,fo5⟩;exact⟨_,rfl,q d H5 fs y5 d0 k5 fo5⟩
theorem zkN{lo:Int}{n:Nat}{g:TG}{tb:TS}{D:gK}{σ:L2.St}{H:Hp}(Pv:Nat->L2.St->Hp->Prop)(h0:Pv 0 σ H)
 (hs: ∀i σ H,i<n->Pv i σ H->g (.int (lo - i)) σ H λσ2 H2=>tb {D with nx:=Pv (i+1),ct:=Pv (i+1),bk:=D.nx} σ2 H2) (hd: ∀σ H,Pv n σ H->D.nx σ H):
 ∃W:Nat->Nat->L2.St->Hp->Prop,(∃m,W 0 m σ H)/\ ∀i m σ H,W i m σ H->
  ((Itn lo n).stop i H/\D.nx σ H)\/((Itn lo n).go i H/\ ∃N:L2.St->Hp->Prop,(∀σ' H',N σ' H'-> ∃m',m'<m/\W (i+1) m' σ' H')/\ ∀x H',(Itn lo n).yld i H x H'->g x σ H' λσ2 H2=>tb {D with nx:=N,ct:=N,bk:=D.nx} σ2 H2):=by
 refine⟨λi m σ H=>m=n - i/\i<=n/\Pv i σ H,⟨n,by simp,Nat.zero_le _,h0⟩,λi m σ H ⟨em,hi,p⟩=> ?_⟩
 subst em
 by_cases eO:i<n
 . exact .inr ⟨eO,Pv (i+1),λσ' H' p'=>⟨n - (i+1),by omega,rfl,eO,p'⟩,λx H' ⟨e1,e2⟩=>by rw[e1,e2];exact hs i σ H eO p⟩
 . have e:i=n:=by omega
   subst e;exact .inl ⟨Nat.le_refl _,hd σ H p⟩
theorem zjz{H:Hp}{d t:Addr}{fs:Fs}{p:Nat×Nat}(h:H d=some (.dT (iF (nP fs))))(ht:H t=some (.tup [.int (p.1:Int),.int (p.2:Int)])):mB H d (.ref t) (dI (vJ fs) (pk p)):=by
 have e:vJ fs=(nP fs).map λq=>(NK.p q.1,q.2):=by unfold vJ nP;rw[List.map_map];rfl
 have:=mB.t (kvs:=iF (nP fs)) (k:=([(p.1:Int),(p.2:Int)]:List Int).map .inl) h (by rw[mH];exact ht)
 unfold iF at this
 rw[fL (f:= λl:List Int=>l.map (Sum.inl:Int->cB)) (λ_ _ z=>kN z)]at this
 rw[e]
 unfold pk
 rw[fL (f:=NK.p) (λ_ _ z=>by injection z)]
 exact this
theorem zgG{M:Mc}{T:Nat}{fs:Fs}(h:kF M T fs){q:Nat×Nat}(h1:q.1<M.n)(h2:q.2<M.n){l:Nat}(hl:l<=T): ∃z:Int,(dI (vJ fs) (pk q)).getD (.int (-1))= .int z/\(z=(l:Int)↔fD (fC M) (gO M) M.m l q):=by
 by_cases e: ∃d,oX M T q d
 . obtain⟨d,hd⟩:=e;rw[zaA h.nd (h.all q d h1 h2 hd)];refine⟨d,rfl,λz=> ?_,λz=> ?_⟩
   . rw[<-Int.ofNat_inj.mp z];exact hd.2
   . rw[hd.2.one z]
 . rw[zad λk hk=>e ⟨k,(h.is q k hk).1⟩];exact⟨-1,rfl,λz=>by omega,λz=>absurd ⟨l,hl,z⟩ e⟩
def Due(Q:VK)(H:Hp)(m:Nat)(cs:fX)(ls:List Str)(a b:Nat):Prop:=
 (∀D u H',SL m (Fd (fC (aQ m cs)) (gO (aQ m cs)) (a,b)) u->Same H H'->H D=none->H' D=some (.lst ((u.map λa=>ls.getD a "").map V.str))->Q (.ref D) H')/\
 (∀H',(∀u,Vw m u->gO (aQ m cs) (dD (fC (aQ m cs)) (a,b) u)=false)->Same H H'->Q .non H')
def uO:Sp:= λvs H Q _=> ∃(L T G d:Addr) (us:List Addr) (cs:fX) (m:Nat) (ls:List Str) (fs:Fs) (a b:Nat),vs=[.ref L,.ref T,.ref d,.int a,.int b]/\H L=some (.lst (ls.map V.str))/\lF H T G us cs m/\ls.length=m/\m<=60/\cs.length<=24/\a<cs.length/\b<cs.length/\
 H d=some (.dT (iF (nP fs)))/\kF (aQ m cs) (cs.length - 1) fs/\Due Q H m cs ls a b
theorem tN:bS ["_law_letters","_law_table","_law_far_here","_law_one","_law_other","_law_row","_law_left","_law_letter","_law_first","_law_second"] ["_law_letters","_law_table","_law_far_here","_law_one","_law_other"] (aH jQ):=(.of rfl rfl rfl rfl (by decide+kernel))
set_option maxHeartbeats 40000000 in
theorem zbC(F:mR K "_law_by_far" "_law_by_far" jQ f fd)(B:Bt mg):dN P w K mg base gU (k+1) f fd ["_law_letters","_law_table","_law_far_here","_law_one","_law_other"] uO:=by
 refine F.ok tN (λvs H Q E h=> ?_) (λeQ A outer s H vs Q E hr h=> ?_)
 . obtain⟨L,T,G,d,us,cs,m,ls,fs,a,b,rfl,_⟩:=h;rfl
 obtain⟨L,T,G,d,us,cs,m,ls,fs,a,b,rfl,hL,hM,lm,m60,sX,ha,hb,hd,fo,q1,q2⟩:=h
 have nd:=tN.nd
 have W:=hM.wc
 refine⟨_,(aE (dX (vN (vT (kC hr) (eE (aB (pv 3) (aB (pv 4) aC))) (pv 2))) (aK (cE nY)) bW) (aE (bF (i:=5) nd rfl (Or.inl rfl) (cU aC)) (aE (dL PassesOwn.never rfl (zcP rfl B.range_ (aB (bM zeW (zgQ (kC hr) (pv 2) (eE (aB (pv 3) (aB (pv 4) aC))) (λ_ _=>rfl)) aI) (aB pK (aB pK aC)))) (aJ (i:=6) nd rfl (Or.inl rfl)) (aE (dL PassesOwn.never rfl (zaw false rfl B.zip_ (aB (pv 0) (aB (bV bO (pv 1) (pv 3) (λ_ _=>rfl)) (aB (bV bO (pv 1) (pv 4) (λ_ _=>rfl)) aC)))) (fG rfl (aZ (aJ (i:=7) nd rfl (Or.inl rfl)) (aZ (aJ (i:=8) nd rfl (Or.inl rfl)) (aZ (aJ (i:=9) nd rfl (Or.inl rfl)) eF)))) (aK (dX (bQ lO (zdk (zeC hr) (pv 2) (eE (aB (pv 8) (aB (pv 9) aC))) pK ⟨rfl,rfl,rfl,rfl⟩) (pv 6) (cL _)) (aK zdV) bW))) (aE (dB (hJ PySem.F.plainAttrs_list PySem.F.slot_list_append PySem.F.type_list_append cZ (pv 5) (aB (pv 7) aC))) (aK (o8 (i:=3) (j:=4) rfl nd rfl rfl (by decide) rfl rfl (aB (pv 8) (aB (pv 9) aC)) rfl))))) (aK (cE (pv 5)))))),?_⟩
 try dsimp only[eV,Cx.nox,Cx.wish]
 refine zhU ?_
 intro D0 σ0 U4 U3 U2
 refine⟨_,rfl,_,rfl,dF 2,λt ht=> ?_⟩
 obtain⟨H1,e0,x1,k1⟩:=eJ ht (.tup [.int (a:Int),.int (b:Int)])
 rw[e0]
 refine⟨_,rfl,d,.p,_,pk (a,b),rfl,zbf (x1 _ _ hd),⟨t,rfl,k1⟩,rfl,_,rfl,?_⟩
 have tP:=fo.has (p:=(a,b)) (show a<(aQ m cs).n from ha) hb
 cases hk:(dI (vJ fs) (pk (a,b))).isSome with
 |false=>
  refine oZ ?_;refine q2 H1 (λu hu=> ?_) x1;exact uP W.ok ha hb (λz=>by rw[tP.mpr z]at hk;cases hk) u hu
 |true=>
  refine iY ?_;obtain⟨n,hn⟩:=tP.mp hk;have hv:=zaA fo.nd (fo.all (a,b) n ha hb hn);have nT:n<=cs.length - 1:=hn.1;refine⟨dF 0,λD hD=> ?_⟩;have hD0:H D=none:=x1.free hD;obtain⟨H2,e0,x2,k2⟩:=eJ hD (.lst []);rw[e0];refine⟨_,rfl,_,rfl,_,rfl,dF 2,λt2 ht2=> ?_⟩;obtain⟨H3,e0,x3,k3⟩:=eJ ht2 (.tup [.int (a:Int),.int (b:Int)]);rw[e0];have y3:=(x1.trans x2).trans x3;refine⟨d,.p,_,pk (a,b),_,rfl,zbf (y3 _ _ hd),⟨t2,rfl,k3⟩,rfl,hv,_,_,rfl,rfl,_,_,rfl,by omega,?_⟩;rw[show(((n:Int) - 1) - (-1)).toNat=n by omega];refine zkN (λi σ H'=> ∃(x y:Nat) (pre:List Nat) (v6 v7 v8 v9:Option V),σ=[some (.ref L),some (.ref T),some (.ref d),some (.int (x:Int)),some (.int (y:Int)),some (.ref D),v6,v7,v8,v9]/\Same H H'/\H' D=some (.lst ((pre.map λa=>ls.getD a "").map V.str))/\x<cs.length/\y<cs.length/\pre.length=i/\
   fD (fC (aQ m cs)) (gO (aQ m cs)) m (n - i) (x,y)/\ ∀w,SL m (Fd (fC (aQ m cs)) (gO (aQ m cs)) (x,y)) w->SL m (Fd (fC (aQ m cs)) (gO (aQ m cs)) (a,b)) (pre++w)) ?_ ?_ ?_
  . exact⟨a,b,[],none,none,none,none,rfl,y3,x3 _ _ k2,ha,hb,rfl,hn.2,λw h=>h⟩
  . rintro i σ H4 hi ⟨x,y,pre,v6,v7,v8,v9,rfl,y4,h4,hx,hy,lp,tF,hw⟩;have c1:=List.getElem?_eq_getElem hx;have c2:=List.getElem?_eq_getElem hy;obtain⟨u1,hu1,hr1⟩:=dA hM.hT.rows (jL c1);obtain⟨u2,hu2,hr2⟩:=dA hM.hT.rows (jL c2);have w1:=(W.row _ (List.getElem_mem hx)).1;have w2:=(W.row _ (List.getElem_mem hy)).1;obtain⟨e,he⟩: ∃e,n - i=e+1:=⟨n - i - 1,by omega⟩;rw[he]at tF;have goE: ∀j,fC (aQ m cs) (x,y) j=(cs[x].2.getD j 0,cs[y].2.getD j 0):= λj=>by
     show((aQ m cs).go x j,(aQ m cs).go y j)=_
     rw[kK c1,kK c2]
    refine⟨_,rfl,_,rfl,_,rfl,T,_,_,_,rfl,rfl,aY.of (y4 _ _ hM.hT.at_),cN (by rw[List.getElem?_map,hu1];rfl),_,rfl,_,rfl,T,_,_,_,rfl,rfl,aY.of (y4 _ _ hM.hT.at_),cN (by rw[List.getElem?_map,hu2];rfl),L,u1,u2,rfl,⟨_,aY.of (y4 _ _ hL)⟩,⟨_,aY.of (y4 _ _ hr1)⟩,⟨_,aY.of (y4 _ _ hr2)⟩,?_⟩;refine zdj (xs:=ls.map V.str) (ys:=(dG cs[x].2).map V.int) (zs:=(dG cs[y].2).map V.int) (λj σ H'=> ∃v7 v8 v9:Option V,σ=[some (.ref L),some (.ref T),some (.ref d),some (.int (x:Int)),some (.int (y:Int)),some (.ref D),some (.int ((n:Int) - 1 - (i:Int))),v7,v8,v9]/\Same H4 H'/\ ∀c,c<j-> ¬fD (fC (aQ m cs)) (gO (aQ m cs)) m e (fC (aQ m cs) (x,y) c)) ?_ ?_ ?_ ?_ ?_ ?_
    . rw[bH,bH,bB,w1];exact lm
    . rw[bH,bH,bB,w2];exact lm
    . exact⟨v7,v8,v9,rfl,Same.refl _,λc z=>absurd z (Nat.not_lt_zero _)⟩
    . rintro j σ H5 _ ⟨_,_,_,_,x5,_⟩;exact⟨aY.of (x5 _ _ (y4 _ _ hL)),aY.of (x5 _ _ (y4 _ _ hr1)),aY.of (x5 _ _ (y4 _ _ hr2))⟩
    . rintro j z1 z2 z3 σ H5 Tp g1 g2 g3 hTp ⟨v7,v8,v9,rfl,x5,sF⟩;rw[List.getElem?_map]at g1 g2 g3;obtain⟨l1,gl,rfl⟩:=Option.map_eq_some_iff.mp g1;obtain⟨i1,gi,rfl⟩:=Option.map_eq_some_iff.mp g2;obtain⟨i2,gj,rfl⟩:=Option.map_eq_some_iff.mp g3;unfold dG at gi gj;rw[List.getElem?_map]at gi gj;obtain⟨a2,ha2,rfl⟩:=Option.map_eq_some_iff.mp gi;obtain⟨b2,hb2,rfl⟩:=Option.map_eq_some_iff.mp gj;have gd1:=KKL.getD_at (d:=0) ha2;have gd2:=KKL.getD_at (d:=0) hb2;have gl':=KKL.getD_at (d:=("" :Str)) gl;have jm:j<m:=by rw[<-lm];exact(List.getElem?_eq_some_iff.mp gl).1
      have gj:=goE j;rw[gd1,gd2]at gj;have la:a2<cs.length:=by have:=W.ok.lt x j hx jm;rw[kK c1,gd1]at this;exact this
      have lb:b2<cs.length:=by have:=W.ok.lt y j hy jm;rw[kK c2,gd2]at this;exact this
      obtain⟨H6,e0,xT,kT⟩:=eJ hTp (.tup [.str l1,.int (a2:Int),.int (b2:Int)]);rw[e0];have y6:=(y4.trans x5).trans xT;refine⟨Tp,[_,_,_],rfl,fR.of kT,rfl,_,_,rfl,_,_,rfl,_,_,rfl,rfl,?_⟩;refine⟨_,rfl,d,rfl,.inr ⟨_,.inl (y6 _ _ hd)⟩,_,rfl,_,rfl,dF 2,λt7 ht7=> ?_⟩;obtain⟨H7,e0,x7,k7⟩:=eJ ht7 (.tup [.int (a2:Int),.int (b2:Int)]);rw[e0];have y7:=y6.trans x7;have z7:=(x5.trans xT).trans x7;obtain⟨z,ez,hz⟩:=zgG fo (q:=(a2,b2)) la lb (l:=e) (by omega);refine⟨_,zjz (p:=(a2,b2)) (y7 _ _ hd) k7,?_⟩;rw[ez];refine⟨_,rfl,rfl,_,rfl,jA (λhq=> ?_) (λhq=> ?_)⟩
      . have hq:z=(e:Int):=by
         have:=of_decide_eq_true hq;injection this with this
         omega
        have de:fD (fC (aQ m cs)) (gO (aQ m cs)) m e (fC (aQ m cs) (x,y) j):=by rw[gj];exact hz.mp hq
        have h7:=z7 _ _ h4;refine⟨_,rfl,.inl ⟨rfl,_,aY.of h7⟩,_,rfl,D,_,_,rfl,rfl,h7,cY (by rw[bH,bH];omega),?_⟩;refine⟨_,rfl,_,rfl,_,_,rfl,a2,b2,pre++[j],_,_,_,_,rfl,y7.at hD0,?_,la,lb,by rw[List.length_append,lp];rfl,?_,λw hs=> ?_⟩
        . rw[aG,List.map_append,List.map_append];show _=some (HO.lst (_++[V.str (ls.getD j "")]));rw[gl']
        . rw[show n - (i+1)=e by omega,<-gj];exact de
        . rw[<-gj]at hs;rw[List.append_assoc];exact hw _ (yB tF jm de sF hs)
      . refine⟨_,_,_,rfl,z7,λc hc=> ?_⟩
        rcases Nat.lt_or_ge c j with y|y
        . exact sF c y
        . obtain rfl:c=j:=by omega
          rw[gj];intro z';refine hq (decide_eq_true ?_);rw[hz.mpr z',show((n:Int) - 1 - (i:Int))=(e:Int) by omega]
    . rintro σ H5 ⟨v7,v8,v9,rfl,x5,sF⟩;obtain⟨⟨c,hc,vR⟩,_⟩:=tF.step;exact absurd vR (sF c (by rw[bH,lm];exact hc))
  . rintro σ H4 ⟨x,y,pre,v6,v7,v8,v9,rfl,y4,h4,hx,hy,lp,tF,hw⟩;rw[Nat.sub_self]at tF;have:=hw [] (xN tF);rw[List.append_nil]at this;exact⟨_,rfl,q1 D pre H4 this y4 hD0 h4⟩
theorem zaN(m:Nat)(l:List (List Nat)):(l.flatMap λw=>(List.range m).map λa=>w++[a]).length=l.length * m:=by
 induction l with
 |nil=>rw[List.flatMap_nil,List.length_nil,Nat.zero_mul]
 |cons x l ih=>rw[List.flatMap_cons,List.length_append,ih,bH,List.length_range,List.length_cons,Nat.succ_mul,Nat.add_comm]
theorem yD{α β γ:Type}{F:α->β->Prop}{G:α->γ->Prop}{f:β->γ}{l:List α}{m:List β}(h:Paired F l m)(hf: ∀a b,F a b->G a (f b)):Paired G l (m.map f):=by
 induction h with
 |nil=>exact .nil
 |cons x _ ih=>exact .cons (hf _ _ x) ih
theorem zeK{m:Nat}(h:m<=6): ∀k,(Lv m k).length<=6^k
 |0=>Nat.le_refl _
 |k+1=>by
  show((Lv m k).flatMap _).length<=_
  rw[zaN,Nat.pow_succ];exact Nat.mul_le_mul (zeK h k) h
def zej(N:Addr->Prop)(M:Mc)(ls:List Str)(s:Nat×Nat)(H:Hp)(v:V)(w:List Nat):Prop:= ∃T r,v= .ref T/\H T=some (.tup [.int ((dD (fC M) s w).1:Int),.int ((dD (fC M) s w).2:Int),.ref r])/\H r=some (.lst ((w.map λa=>ls.getD a "").map V.str))/\N r
theorem zej.same{N N':Addr->Prop}{M:Mc}{ls:List Str}{s:Nat×Nat}{H H':Hp}{v:V}{w:List Nat}(h:zej N M ls s H v w)(x:Same H H')(n: ∀r u,H r=some u->N r->N' r):zej N' M ls s H' v w:=by
 obtain⟨T,r,e,h1,h2,h3⟩:=h
 exact⟨T,r,e,x _ _ h1,x _ _ h2,n r _ h2 h3⟩
def zov(N:Addr->Prop)(r1 r2:List Nat)(row:List V)(ls:List Str)(H:Hp)(v:V)(a:Nat):Prop:= ∃T q,v= .ref T/\H T=some (.tup [.int (r1.getD a 0:Nat),.int (r2.getD a 0:Nat),.ref q])/\H q=some (.lst (row++[.str (ls.getD a "")]))/\N q
theorem zoB{D u1 u2 L r:Addr}{Q:VK}{H1:Hp}{r1 r2:List Nat}{ls:List Str}{row:List V}(h1:r1.length=ls.length)(h2:r2.length=ls.length)(vM:ls.length<=60)(zcw:row.length<=900)(hD:H1 D=none)
 (e1:H1 u1=some (.lst ((dG r1).map V.int))) (e2:H1 u2=some (.lst ((dG r2).map V.int))) (eL:H1 L=some (.lst (ls.map V.str))) (er:H1 r=some (.lst row))
 (gT: ∀H' zs,Same H1 H'->H' D=some (.lst zs)->Paired (zov (λq=>H1 q=none/\q≠D) r1 r2 row ls H') zs (List.range ls.length)->Q (.ref D) H'):
 bJ (It3 false K u1 u2 L) D (zjO K 3 (qD (bD 0) (qD (bD 1) (qD (bD 2) zjy)))) dJ (vG (aP (aL 0) (aP (aL 1) (aP (eR zkP (aL 3) (uN (aP (aL 2) cG))) cG)))) Q [none,none,none,some (.ref r)] H1:=by
 refine zbA (xs:=(dG r1).map V.int) (ys:=(dG r2).map V.int) (zs:=ls.map V.str) (λi zs σ H=> ∃v0 v1 v2:Option V,zs.length=i/\σ=[v0,v1,v2,some (.ref r)]/\Same H1 H/\Paired (zov (λq=>H1 q=none/\q≠D) r1 r2 row ls H) zs (List.range i)) ?_ ?_ ?_ ?_ ?_ ?_ ?_ ?_
 . rw[bH,bH,bB,bB,h1,h2]
 . rw[bH,bH,bB,h1]
 . rw[bH,bB,h1];exact vM
 . exact⟨none,none,none,rfl,rfl,aX hD,.nil⟩
 . rintro i zs σ H ⟨_,_,_,e,_⟩;exact Nat.le_of_eq e
 . rintro i zs σ H ⟨_,_,_,_,_,x,_⟩;exact⟨aY.of (x _ _ e1),aY.of (x _ _ e2),aY.of (x _ _ eL)⟩
 . rintro i x y z zs σ H Tp hx hy hz hTp bZ ⟨v0,v1,v2,e,rfl,xs,hP⟩;rw[List.getElem?_map]at hx hy hz;obtain⟨i1,gi,rfl⟩:=Option.map_eq_some_iff.mp hx;obtain⟨i2,gj,rfl⟩:=Option.map_eq_some_iff.mp hy;obtain⟨l1,gl,rfl⟩:=Option.map_eq_some_iff.mp hz;unfold dG at gi gj;rw[List.getElem?_map]at gi gj;obtain⟨a2,ha2,rfl⟩:=Option.map_eq_some_iff.mp gi;obtain⟨b2,hb2,rfl⟩:=Option.map_eq_some_iff.mp gj;have gd1:=KKL.getD_at (d:=0) ha2;have gd2:=KKL.getD_at (d:=0) hb2;have gl':=KKL.getD_at (d:=("" :Str)) gl;obtain⟨H2,e0,xT,kT⟩:=eJ hTp (.tup [.int (a2:Int),.int (b2:Int),.str l1]);rw[e0];refine⟨Tp,[_,_,_],rfl,fR.of kT,rfl,_,_,rfl,_,_,rfl,_,_,rfl,rfl,?_⟩;refine⟨_,rfl,_,rfl,_,rfl,_,rfl,dF 1,λb hb=> ?_⟩;obtain⟨H3,e0,x3,k3⟩:=eJ hb (.lst [.str l1]);rw[e0];have y3:=xT.trans x3;refine⟨r,b,_,_,rfl,rfl,y3 _ _ (xs _ _ er),k3,zdC (show row.length+1<=1000 by omega),λp hp=> ?_⟩;have pD:p≠D:= λz=>by rw[z]at hp;rw[y3 _ _ bZ]at hp;cases hp
   have p1:H1 p=none:=xs.free (y3.free hp);obtain⟨H4,e0,x4,k4⟩:=eJ hp (.lst (row++[.str l1]));rw[e0];refine⟨dF 3,λt ht=> ?_⟩;obtain⟨H5,e0,x5,k5⟩:=eJ ht (.tup [.int (a2:Int),.int (b2:Int),.ref p]);rw[e0];have y5:=(y3.trans x4).trans x5;have hl5:=y5 _ _ bZ;have nt: ∀{b:Addr} {us:List V},H5 b=some (.tup us)->b≠D:= λ{b us} eb z=>by rw[z,hl5]at eb;cases eb
   refine⟨hl5,_,_,_,by rw[List.length_append,e];rfl,rfl,(xs.trans y5).at hD,?_⟩;rw[List.range_succ];refine bU (Paired.mapP hP λv a=> ?_) (.cons ⟨t,p,rfl,?_,?_,p1,pD⟩ .nil)
   . rintro⟨T,q,rfl,m1,m2,m3,m4⟩;have m1':=y5 _ _ m1;exact⟨T,q,rfl,by rw[aD (nt m1')];exact m1',by rw[aD m4];exact y5 _ _ m2,m3,m4⟩
   . rw[aD (nt k5),gd1,gd2];exact k5
   . rw[aD pD,gl'];exact x5 _ _ k4
 . rintro zs σ H bZ ⟨_,_,_,_,_,x,hP⟩;rw[bH,bB,h1]at hP;exact gT H zs x bZ hP
def rW:Sp:= λvs H Q _=> ∃(L T G:Addr) (us:List Addr) (cs:fX) (m:Nat) (ls:List Str) (a b:Nat),vs=[.ref L,.ref T,.ref G,.int a,.int b]/\H L=some (.lst (ls.map V.str))/\lF H T G us cs m/\ls.length=m/\m<=6/\cs.length<=4/\a<cs.length/\b<cs.length/\Due Q H m cs ls a b
theorem rS:bS ["_law_letters","_law_table","_law_good","_law_one","_law_other","_law_level","_law_turn","_law_first","_law_second","_law_row","_law_more"] ["_law_letters","_law_table","_law_good","_law_one","_law_other"] (aH fY):=(.of rfl rfl rfl rfl (by decide+kernel))
theorem zdo{m:Nat}{cs:fX}(W:Wc m cs){s:Nat×Nat}(h1:s.1<cs.length)(h2:s.2<cs.length): ∀w,Vw m w->(dD (fC (aQ m cs)) s w).1<cs.length/\(dD (fC (aQ m cs)) s w).2<cs.length:=by
 intro w
 induction w generalizing s with
 |nil=>intro _;exact⟨h1,h2⟩
 |cons a w ih=>
  intro hw;obtain⟨ha,hw⟩:=hw.tail;exact ih (s:=fC (aQ m cs) s a) (W.ok.lt _ a h1 ha) (W.ok.lt _ a h2 ha) hw
set_option maxHeartbeats 40000000 in
theorem c8(F:mR K "_law_by_rows" "_law_by_rows" fY f fd)(B:Bt mg):dN P w K mg base gU (k+1) f fd ["_law_letters","_law_table","_law_good","_law_one","_law_other"] rW:=by
 refine F.ok rS (λvs H Q E h=> ?_) (λeQ A outer s H vs Q E hr h=> ?_)
 . obtain⟨L,T,G,us,cs,m,ls,a,b,rfl,_⟩:=h;rfl
 obtain⟨L,T,G,us,cs,m,ls,a,b,rfl,hL,hM,lm,m6,c4,ha,hb,q1,q2⟩:=h
 have nd:=rS.nd
 have W:=hM.wc
 have lu:=Paired.length hM.hT.rows
 rw[iM]at lu
 refine⟨_,(aE (bF (i:=5) nd rfl (Or.inl rfl) (cU (aB (eE (aB (pv 3) (aB (pv 4) (aB (cU aC) aC)))) aC))) (aE (dL PassesOwn.never rfl (bP rfl B.range_ (aB (aW aO rfl B.len_ PySem.boot_len (aB (pv 1) aC)) aC)) (aJ (i:=6) nd rfl (Or.inl rfl)) (aE (dL PassesOwn.never rfl (dH (pv 5)) (fG rfl (aZ (aJ (i:=7) nd rfl (Or.inl rfl)) (aZ (aJ (i:=8) nd rfl (Or.inl rfl)) (aZ (aJ (i:=9) nd rfl (Or.inr rfl)) eF)))) (aK (dX (bQ uA (gC fA (pv 7) (pv 2) rfl) (gC fA (pv 8) (pv 2) rfl) (cL _)) (aK (cE (pv 9))) bW))) (aE (bF (i:=10) nd rfl (Or.inl rfl) (cU aC)) (aE (dL PassesOwn.never rfl (dH (pv 5)) (fG rfl (aZ (aJ (i:=7) nd rfl (Or.inl rfl)) (aZ (aJ (i:=8) nd rfl (Or.inl rfl)) (aZ (aJ (i:=9) nd rfl (Or.inr rfl)) eF)))) (aK (dB (hJ PySem.F.plainAttrs_list PySem.F.slot_list_extend PySem.F.type_list_extend uB (pv 10) (aB (cS (g:=(zjO K 3 (qD (bD 0) (qD (bD 1) (qD (bD 2) zjy))))) (tc:=dJ) (te:=(vG (aP (aL 0) (aP (aL 1) (aP (eR zkP (aL 3) (uN (aP (aL 2) cG))) cG))))) (own:=["_law_x","_law_y","_law_z"]) (fr:=["_law_row"]) (idx:=[9]) rfl (by show aR _ _ _ (aH fY);exact(.of rfl (by decide+kernel))) (zaw false rfl B.zip_ (aB (bV bO (pv 1) (pv 7) (λ_ _=>rfl)) (aB (bV bO (pv 1) (pv 8) (λ_ _=>rfl)) (aB (pv 0) aC)))) (λ_ _ _ _ _=>(fG rfl (aZ (aJ (i:=0) (by show List.Nodup (["_law_x","_law_y","_law_z","_law_row"]:List Str);decide+kernel) rfl (Or.inl rfl) (Or.inr rfl)) (aZ (aJ (i:=1) (by show List.Nodup (["_law_x","_law_y","_law_z","_law_row"]:List Str);decide+kernel) rfl (Or.inl rfl) (Or.inr rfl)) (aZ (aJ (i:=2) (by show List.Nodup (["_law_x","_law_y","_law_z","_law_row"]:List Str);decide+kernel) rfl (Or.inl rfl) (Or.inr rfl)) eF))))) (λ_ _ _ _ _=>cT) (λ_ _ _ _ _=>(eE (aB (pv 0) (aB (pv 1) (aB (bM yT (pv 3) (cU (aB (pv 2) aC))) aC))))) rfl (cR rfl)) aC))))) (aK (bF (i:=5) nd rfl (Or.inl rfl) (pv 10))))))) (aK (cE nY)))),?_⟩
 try dsimp only[eV,Cx.nox,Cx.wish]
 refine wH ?_
 intro D0 σ0 U3 U2
 refine⟨_,rfl,_,rfl,dF 0,λr0 hr0=> ?_⟩
 obtain⟨H1,e0,x1,k1⟩:=eJ hr0 (.lst [])
 rw[e0]
 refine⟨dF 3,λt0 ht0=> ?_⟩
 obtain⟨H2,e0,x2,k2⟩:=eJ ht0 (.tup [.int (a:Int),.int (b:Int),.ref r0])
 rw[e0]
 refine⟨dF 1,λl0 hl0=> ?_⟩
 obtain⟨H3,e0,x3,k3⟩:=eJ hl0 (.lst [.ref t0])
 rw[e0]
 have y3:=(x1.trans x2).trans x3
 refine⟨_,rfl,T,_,rfl,.inl (aY.of (y3 _ _ hM.hT.at_)),_,rfl,by rw[bH];omega,by rw[bH];omega,?_⟩
 rw[show(((us.map V.ref).length:Nat):Int).toNat=cs.length by rw[bH];omega]
 refine eY (λi σ H'=> ∃(lv:Addr) (vs:List V) (v6 v7 v8 v9 qB:Option V),σ=[some (.ref L),some (.ref T),some (.ref G),some (.int (a:Int)),some (.int (b:Int)),some (.ref lv),v6,v7,v8,v9,qB]/\Same H H'/\H' lv=some (.lst vs)/\Paired (zej (λr=>H r=none) (aQ m cs) ls (a,b) H') vs (Lv m i)/\
  ∀w,Vw m w->w.length<i->gO (aQ m cs) (dD (fC (aQ m cs)) (a,b) w)=false) ?_ ?_ ?_
 . exact⟨l0,_,none,none,none,none,none,rfl,y3,k3,.cons ⟨t0,r0,rfl,x3 _ _ k2,x3 _ _ (x2 _ _ k1),hr0⟩ .nil,λw _ z=>absurd z (Nat.not_lt_zero _)⟩
 . rintro i σ H4 hi ⟨lv,vs,v6,v7,v8,v9,qB,rfl,y4,h4,P4,sF⟩;have l4:=Paired.length P4;have lf:=zeK m6 i;have lf3:(6:Nat)^i<=6^3:=Nat.pow_le_pow_right (by decide) (by omega);have g1: ∀{i:Nat},i<cs.length->(if false=true then !tM (.int (i:Int)) ((nK cs cs.length).map V.int)else tM (.int (i:Int)) ((nK cs cs.length).map V.int))=(aQ m cs).gd i:= λhi=>w4 hi;refine⟨_,rfl,lv,rfl,⟨_,aY.of h4⟩,hU (xs:=vs) (λj σ H'=> ∃v7 v8 v9:Option V,σ=[some (.ref L),some (.ref T),some (.ref G),some (.int (a:Int)),some (.int (b:Int)),some (.ref lv),some (.int (0+(i:Int))),v7,v8,v9,qB]/\H'=H4/\ ∀(c:Nat) (w:List Nat),c<j->(Lv m i)[c]?=some w->gO (aQ m cs) (dD (fC (aQ m cs)) (a,b) w)=false) ?_ ?_ ?_ ?_⟩
   . exact⟨v7,v8,v9,rfl,rfl,λc w z=>absurd z (Nat.not_lt_zero _)⟩
   . rintro j σ H5 _ ⟨_,_,_,_,rfl,_⟩;exact aY.of h4
   . rintro j y σ H5 hy ⟨v7,v8,v9,rfl,rfl,hn⟩;obtain⟨w,hw,t,r,rfl,ht,hrw,zpM⟩:=dR P4 hy;obtain⟨vw,lw⟩:=mD.mp (List.mem_of_getElem? hw);obtain⟨b1,b2⟩:=zdo W (s:=(a,b)) ha hb w vw;refine⟨t,[_,_,_],rfl,fR.of ht,rfl,_,_,rfl,_,_,rfl,_,_,rfl,rfl,?_⟩;refine⟨_,rfl,_,rfl,G,_,rfl,.inl (aY.of (y4 _ _ hM.hG)),rfl,fQ _,?_⟩;rw[g1 b1];refine⟨_,rfl,_,rfl,G,_,rfl,.inl (aY.of (y4 _ _ hM.hG)),rfl,fQ _,?_⟩;rw[g1 b2];have ex:(!decide (V.bl ((aQ m cs).gd (dD (fC (aQ m cs)) (a,b) w).1)=V.bl ((aQ m cs).gd (dD (fC (aQ m cs)) (a,b) w).2)))=gO (aQ m cs) (dD (fC (aQ m cs)) (a,b) w):=by
      unfold gO;cases(aQ m cs).gd (dD (fC (aQ m cs)) (a,b) w).1<;>cases(aQ m cs).gd (dD (fC (aQ m cs)) (a,b) w).2<;>rfl
     refine⟨rfl,_,rfl,?_⟩;rw[ex];refine jA (λhq=> ?_) (λhq=> ?_)
     . refine⟨_,rfl,q1 r w H5 (zfB (k:=i) (i:=j) (p:=Fd (fC (aQ m cs)) (gO (aQ m cs)) (a,b)) (λv hv hl z=> ?_) hw hq λc v hc hv z=> ?_) y4 zpM hrw⟩
       . have z:gO (aQ m cs) (dD (fC (aQ m cs)) (a,b) v)=true:=z;rw[sF v hv hl]at z;cases z
       . have z:gO (aQ m cs) (dD (fC (aQ m cs)) (a,b) v)=true:=z;rw[hn c v hc hv]at z;cases z
     . refine⟨_,_,_,rfl,rfl,λc v hc hv=> ?_⟩
       rcases Nat.lt_or_ge c j with z|z
       . exact hn c v z hv
       . obtain rfl:c=j:=by omega
         rw[hw]at hv;cases hv;exact Bool.eq_false_iff.mpr hq
   rintro σ H5 ⟨v7,v8,v9,rfl,rfl,hn⟩;refine⟨dF 0,λMo hMo=> ?_⟩;obtain⟨H6,e0,x6,k6⟩:=eJ hMo (.lst []);rw[e0];refine⟨_,rfl,lv,rfl,⟨_,aY.of (x6 _ _ h4)⟩,hU (xs:=vs) (λj σ H'=> ∃(ws:List V) (v7 v8 v9:Option V),σ=[some (.ref L),some (.ref T),some (.ref G),some (.int (a:Int)),some (.int (b:Int)),some (.ref lv),some (.int (0+(i:Int))),v7,v8,v9,some (.ref Mo)]/\Same H5 H'/\H' Mo=some (.lst ws)/\
    Paired (zej (λr=>H r=none/\r≠Mo) (aQ m cs) ls (a,b) H') ws (((Lv m i).take j).flatMap λw=>(List.range m).map λa=>w++[a])) ?_ ?_ ?_ ?_⟩
   . exact⟨[],v7,v8,v9,rfl,x6,k6,.nil⟩
   . rintro j σ H7 _ ⟨_,_,_,_,_,x7,_⟩;exact aY.of (x7 _ _ h4)
   . rintro j y σ H7 hy ⟨ws,v7,v8,v9,rfl,x7,h7,P7⟩;obtain⟨w,hw,t,r,rfl,ht,hrw,zpM⟩:=dR P4 hy;obtain⟨vw,lw⟩:=mD.mp (List.mem_of_getElem? hw);obtain⟨b1,b2⟩:=zdo W (s:=(a,b)) ha hb w vw;have y7:=y4.trans x7;have c1:=List.getElem?_eq_getElem b1;have c2:=List.getElem?_eq_getElem b2;obtain⟨u1,hu1,hr1⟩:=dA hM.hT.rows (jL c1);obtain⟨u2,hu2,hr2⟩:=dA hM.hT.rows (jL c2);have w1:=(W.row _ (List.getElem_mem b1)).1;have w2:=(W.row _ (List.getElem_mem b2)).1;refine⟨t,[_,_,_],rfl,fR.of (x7 _ _ ht),rfl,_,_,rfl,_,_,rfl,_,_,rfl,rfl,?_⟩;refine⟨_,rfl,.inl ⟨rfl,_,aY.of h7⟩,_,rfl,_,rfl,T,_,_,_,rfl,rfl,aY.of (y7 _ _ hM.hT.at_),cN (by rw[List.getElem?_map,hu1];rfl),_,rfl,_,rfl,T,_,_,_,rfl,rfl,aY.of (y7 _ _ hM.hT.at_),cN (by rw[List.getElem?_map,hu2];rfl),_,rfl,u1,u2,L,rfl,⟨_,aY.of (y7 _ _ hr1)⟩,⟨_,aY.of (y7 _ _ hr2)⟩,⟨_,aY.of (y7 _ _ hL)⟩,λD hD=> ?_⟩;refine zoB (K:=K) (w1.trans lm.symm) (w2.trans lm.symm) (by omega) (by rw[bH,bH];omega) hD (y7 _ _ hr1) (y7 _ _ hr2) (y7 _ _ hL) (x7 _ _ hrw) λH8 zs x8 h8 P8=> ?_;have h8':=x8 _ _ h7;have l7:=Paired.length P7;have lz:=Paired.length P8;rw[List.length_range]at lz;rw[lm]at P8;rw[zaN]at l7;have l7':((Lv m i).take j).length * m<=6^3 * 6:=Nat.mul_le_mul (Nat.le_trans (List.length_take_le' ..) (Nat.le_trans lf lf3)) m6;refine⟨Mo,D,ws,zs,rfl,rfl,h8',h8,zja (by omega),?_⟩;have x78:=x7.trans x8;have nM: ∀{b:Addr} {us:List V},H8 b=some (.tup us)->b≠Mo:= λ{b us} eb z=>by rw[z,h8']at eb;cases eb
     refine⟨ws++zs,_,_,_,rfl,x78.at hMo,aG,?_⟩;rw[gS hw,List.flatMap_append,List.flatMap_cons,List.flatMap_nil,List.append_nil];refine bU (Paired.mapP P7 λv w'=> ?_) (yD P8 λv c=> ?_)
     . rintro⟨T',r',rfl,m1,m2,m3,m4⟩;have m1':=x8 _ _ m1;exact⟨T',r',rfl,by rw[aD (nM m1')];exact m1',by rw[aD m4];exact x8 _ _ m2,m3,m4⟩
     . rintro⟨T',r',rfl,m1,m2,m3,m4⟩;have n7:r'≠Mo:= λz=>by rw[z,h7]at m3;cases m3
       refine⟨T',r',rfl,?_,?_,y7.free m3,n7⟩
       . rw[aD (nM m1),nV];show _=some (HO.tup [.int ((aQ m cs).go _ c:Nat),.int ((aQ m cs).go _ c:Nat),_]);rw[kK c1,kK c2];exact m1
       . rw[aD n7,List.map_append,List.map_append];exact m2
   . rintro σ H7 ⟨ws,v7,v8,v9,rfl,x7,h7,P7⟩;rw[l4,List.take_length]at P7;refine⟨_,rfl,Mo,ws,_,_,_,_,_,rfl,y4.trans x7,h7,Paired.mapP P7 λv w z=>z.same (Same.refl _) λr u _ z=>z.1,λw hw hl=> ?_⟩
     rcases Nat.lt_or_ge w.length i with z|z
     . exact sF w hw z
     . obtain⟨c,hc⟩:=List.getElem?_of_mem (mD.mpr ⟨hw,show w.length=i by omega⟩);have:=(List.getElem?_eq_some_iff.mp hc).1;exact hn c w (by omega) hc
 . rintro σ H4 ⟨lv,vs,v6,v7,v8,v9,qB,rfl,y4,h4,P4,sF⟩;refine q2 H4 (λu hu=>uP W.ok ha hb (λ⟨d,hd1,hd2⟩=> ?_) u hu) y4;have one:0<cs.length:=W.one;have hd1:d<=cs.length - 1:=hd1;exact hd2.2 (Fr.word.mpr λw hw hl=>sF w hw (by omega))
def mN(n st m s:Nat):List Nat:=(List.range m).map λj=>if j=st then s+1 else n
theorem zpC{D:Addr}{Q:VK}{H1:Hp}{n st m s:Nat}(hm:m<=60)(hD:H1 D=none)(gT: ∀H',Same H1 H'->H' D=some (.lst ((dG (mN n st m s)).map V.int))->Q (.ref D) H'):
 bJ (tJ 0 m) D (bD 0) dJ (eR (jM K) (uN (aP (aL 1) (aP (eR (o4 λi j=> .int (i+j)) (aL 2) (tC (.int 1))) cG))) (uY (λxs H Q=>(∃i,xs=[.int i]/\Q (.int i) H)\/ ∃k,xs=[.bl k]/\Q (.int (if k then 1 else 0)) H) (aP (eR rEq (aL 0) (aL 3)) cG))) Q [none,some (.int (n:Int)),some (.int (s:Int)),some (.int (st:Int))] H1:=by
 refine cO (λi zs σ H=> ∃v:Option V,zs=(dG (mN n st i s)).map V.int/\σ=[v,some (.int (n:Int)),some (.int (s:Int)),some (.int (st:Int))]/\Same H1 H) ?_ (by omega) ?_ ?_ ?_
 . exact⟨none,rfl,rfl,aX hD⟩
 . rintro i zs σ H ⟨v,rfl,_⟩;unfold mN;rw[bH,bB,bH,List.length_range];exact Nat.le_refl _
 . rintro i zs σ H hi bZ ⟨v,rfl,rfl,x⟩;rw[Int.zero_add];refine⟨_,rfl,_,rfl,_,_,rfl,rfl,dF 2,λp hp=> ?_⟩;have nD:D≠p:=aF bZ hp;have sn:mN n st (i+1) s=mN n st i s++[if i=st then s+1 else n]:=by unfold mN;rw[List.range_succ,List.map_append];rfl
   refine⟨_,rfl,_,rfl,rfl,.inr ⟨_,rfl,p,_,_,(if i=st then .int ((s+1:Nat):Int)else .int (n:Int)),rfl,rfl,aY.of aG,?_,by rw[aD nD];exact bZ,_,?_,rfl,(x.trans (aX hp)).at hD⟩⟩
   . by_cases e:i=st
     . subst e;rw[decide_eq_true rfl,if_pos rfl,if_pos rfl];rfl
     . rw[decide_eq_false (λz=>e (Int.ofNat_inj.mp (V.int.inj z))),if_neg Bool.false_ne_true,if_neg e];rfl
   . rw[sn];unfold dG;rw[List.map_append,List.map_append]
     congr 1
     show [_]=[V.int _]
     split<;>rfl
 . rintro zs σ H bZ ⟨v,rfl,_,x⟩;exact gT H x bZ
theorem znC{D l:Addr}{Q:VK}{H1:Hp}{n:Nat}{ls:List Str}(hm:ls.length<=60)(hD:H1 D=none)(hl:H1 l=some (.lst (ls.map V.str)))(gT: ∀H',Same H1 H'->H' D=some (.lst ((dG (List.replicate ls.length n)).map V.int))->Q (.ref D) H'):
 bJ (zZ K l) D (bD 0) dJ (aL 1) Q [none,some (.int (n:Int))] H1:=by
 refine fP (xs:=ls.map V.str) (λi zs σ H=> ∃v:Option V,zs=(dG (List.replicate i n)).map V.int/\σ=[v,some (.int (n:Int))]/\Same H1 H) ?_ (by rw[bH];omega) ?_ ?_ ?_ ?_
 . exact⟨none,rfl,rfl,aX hD⟩
 . rintro i zs σ H ⟨v,rfl,_⟩;rw[bH,bB,List.length_replicate];exact Nat.le_refl _
 . rintro i zs σ H ⟨v,_,_,x⟩;exact aY.of (x _ _ hl)
 . rintro i y zs σ H hy bZ ⟨v,rfl,rfl,x⟩;unfold bD dJ;refine oZ ⟨_,rfl,bZ,_,?_,rfl,x.at hD⟩;rw[List.replicate_succ'];unfold dG;rw[List.map_append,List.map_append];rfl
 . rintro zs σ H bZ ⟨v,rfl,_,x⟩;rw[bH]at bZ;exact gT H x bZ
def yX:Sp:= λvs H Q _=> ∃(a l:Addr) (ls:List Str),vs=[.ref a,.ref l]/\aS H a/\H l=some (.lst (ls.map V.str))/\l≠a/\1<=ls.length/\ls.length<=6/\zhL a H Q ls.length λcs=>cs.length<=24/\9<=cs.length
theorem zbq:bS ["_law_flow_here","_law_letters","_law_many","_law_table","_law_state","_law_step"] ["_law_flow_here","_law_letters"] (aH iA):=(.of rfl rfl rfl rfl (by decide+kernel))
theorem zgF(F:mR K "_law_road" "_law_road" iA f fd)(B:Bt mg)(aU:Fn P w K mg base k "_law_draw" ["_law_flow_here","_law_many"] dS g gd):dN P w K mg base gU (k+1) f fd ["_law_flow_here","_law_letters"] yX:=by
 refine F.ok zbq (λvs H Q E h=> ?_) (λeQ A outer s H vs Q E hr h=> ?_)
 . obtain⟨a,l,ls,rfl,_⟩:=h;rfl
 obtain⟨a,l,ls,rfl,hF,hl,nl,l1,l6,q⟩:=h
 have nd:=zbq.nd
 refine⟨_,(aE (bF (i:=2) nd rfl (Or.inr rfl) (bM dU aI (lD aU hr rfl (aB (pv 0) (aB aI aC))))) (aE (bF (i:=3) nd rfl (Or.inl rfl) (cU aC)) (aE (dL PassesOwn.never rfl (bP rfl B.range_ (aB (pv 2) aC)) (aJ (i:=4) nd rfl (Or.inr rfl)) (aE (bF (i:=5) nd rfl (Or.inr rfl) (lD aU hr rfl (aB (pv 0) (aB (aW aO rfl B.len_ PySem.boot_len (aB (pv 1) aC)) aC)))) (aK (dB (hJ PySem.F.plainAttrs_list PySem.F.slot_list_append PySem.F.type_list_append cZ (pv 3) (aB (cS (g:=(bD 0)) (tc:=dJ) (te:=(eR (jM K) (uN (aP (aL 1) (aP (eR (o4 λi j=> .int (i+j)) (aL 2) (tC (.int 1))) cG))) (uY (λxs H Q=>(∃i,xs=[.int i]/\Q (.int i) H)\/ ∃k,xs=[.bl k]/\Q (.int (if k then 1 else 0)) H) (aP (eR rEq (aL 0) (aL 3)) cG)))) (own:=["_law_k"]) (fr:=["_law_many","_law_state","_law_step"]) (idx:=[2,4,5]) rfl (by show aR _ _ _ (aH iA);exact(.of rfl (by decide+kernel))) (bP rfl B.range_ (aB (aW aO rfl B.len_ PySem.boot_len (aB (pv 1) aC)) aC)) (λ_ _ _ _ _=>(aJ (i:=0) (by show List.Nodup (["_law_k","_law_many","_law_state","_law_step"]:List Str);decide+kernel) rfl (Or.inl rfl) (Or.inr rfl))) (λ_ _ _ _ _=>cT) (λ_ _ _ _ _=>(bV bO (cU (aB (pv 1) (aB (bM dU (pv 2) aI) aC))) (dY sY rfl B.int_ (by decide+kernel) (aB (gC lO (pv 0) (pv 3) (cL _)) aC)) (λ_ _=>rfl))) rfl (cR rfl)) aC)))))) (aK (cE (eE (aB (bM yT (pv 3) (cU (aB (cS (g:=(bD 0)) (tc:=dJ) (te:=(aL 1)) (own:=["_law_letter"]) (fr:=["_law_many"]) (idx:=[2]) rfl (by show aR _ _ _ (aH iA);exact(.of rfl (by decide+kernel))) (dH (pv 1)) (λ_ _ _ _ _=>(aJ (i:=0) (by show List.Nodup (["_law_letter","_law_many"]:List Str);decide+kernel) rfl (Or.inl rfl) (Or.inr rfl))) (λ_ _ _ _ _=>cT) (λ_ _ _ _ _=>(pv 1)) rfl (cR rfl)) aC))) (aB (cU (aB (bM zeW (pv 2) aI) aC)) aC)))))))),?_⟩
 try dsimp only[eV,Cx.nox,Cx.wish]
 refine zhU ?_
 intro D0 σ0 U4 U3 U2
 refine⟨_,rfl,a,16,rfl,hF,by decide,by decide,λr1 H1 r10 r11 f1 x1=>⟨_,_,rfl,rfl,?_⟩⟩
 obtain⟨n1,rfl⟩:=Int.eq_ofNat_of_zero_le r10
 have e8:(8:Int)+(n1:Int)=((8+n1:Nat):Int):=by omega
 show U2 D0 (List.set σ0 2 (some (V.int (8+(n1:Int))))) H1
 rw[e8]
 have hn:8+n1<=23:=by omega
 have hn8:8<=8+n1:=by omega
 generalize 8+n1=n at hn hn8
 refine⟨dF 0,λT hT=> ?_⟩
 have T0:H T=none:=x1.free f1 hT
 have nTa:=bN hT f1
 obtain⟨H2,e0,x2,k2⟩:=eJ hT (.lst [])
 rw[e0]
 have k2:H2 T=some (.lst (([]:List Addr).map V.ref)):=k2
 refine⟨_,rfl,(n:Int),rfl,by omega,by omega,?_⟩
 rw[show((n:Nat):Int).toNat=n from rfl]
 refine eY (λi σ H'=> ∃(us:List Addr) (tb:List (List Int)) (v4 v5:Option V),σ=[some (.ref a),some (.ref l),some (.int (n:Int)),some (.ref T),v4,v5]/\aS H' a/\gH a H H'/\H' T=some (.lst (us.map V.ref))/\Paired (sK H') us tb/\tb.length=i/\(∀r∈tb,r.length=ls.length/\ ∀x∈r,0<=x/\x<((n+1:Nat):Int))/\ ∀u∈us,H u=none/\u≠T/\u≠a) ?_ ?_ ?_
 . exact⟨[],[],none,none,rfl,Same.flow x2 f1,x1.trans (Same.ext x2),k2,.nil,rfl,(λ_ z=>by cases z),(λ_ z=>by cases z)⟩
 . rintro i σ H3 hi ⟨us,tb,v4,v5,rfl,f3,x3,h3,P3,lt,nH,fr⟩;rw[Int.zero_add];refine⟨_,rfl,_,rfl,l,_,rfl,.inl (aY.of (x3 _ _ nl hl)),a,_,rfl,f3,by rw[bH];omega,by rw[bH];omega,λr4 H4 r40 r41 f4 x4=> ?_⟩;obtain⟨st,rfl⟩:=Int.eq_ofNat_of_zero_le r40;have x34:=x3.trans x4;have h4:=x4 _ _ nTa h3;have lus:=Paired.length P3;refine⟨_,rfl,.inl ⟨rfl,_,aY.of h4⟩,_,rfl,l,_,rfl,.inl (aY.of (x34 _ _ nl hl)),_,rfl,by rw[bH];omega,by rw[bH];omega,λD hD=> ?_⟩;rw[show(((ls.map V.str).length:Nat):Int).toNat=ls.length by rw[bH];omega];refine zpC (K:=K) (s:=i) (by omega) hD λH5 x5 h5=> ?_;have hT5:=x5 _ _ h4;refine⟨T,_,_,rfl,rfl,hT5,cY (by rw[bH];omega),?_⟩;have nDT:D≠T:= λz=>by rw[z,h4]at hD;cases hD
   have nDa:=bN hD f4;have D0':H D=none:=x34.free f4 hD;have f5: ∀ob,aS (aN H5 T ob) a:= λob=>by
    obtain⟨z1,z2,z3,e,e1,e2⟩:=Same.flow x5 f4;exact⟨z1,z2,z3,by rw[aD (Ne.symm nTa)];exact e,e1,e2⟩
   have ex:gH a H (aN H5 T (.lst (us.map V.ref++[.ref D]))):= λb u nb e=>by
    have nbT:b≠T:= λz=>by rw[z,T0]at e;cases e
    rw[aD nbT];exact x5 _ _ (x34 _ _ nb e)
   refine⟨us++[D],tb++[dG (mN n st ls.length i)],_,_,rfl,f5 _,ex,by rw[aG,List.map_append];rfl,?_,by rw[List.length_append,lt];rfl,λr hr=> ?_,λu hu=> ?_⟩
   . refine bU (eB P3 λu r hu z=> ?_) (.cons ?_ .nil)
     . show aN H5 T _ u=_
       rw[aD (fr u hu).2.1];exact x5 _ _ (x4 _ _ (fr u hu).2.2 z)
     . show aN H5 T _ D=_
       rw[aD nDT];exact h5
   . rcases List.mem_append.mp hr with z|z
     . exact nH r z
     . rw[List.mem_singleton.mp z];refine⟨by rw[bB];unfold mN;rw[bH,List.length_range],λx hx=> ?_⟩;obtain⟨y,hy,rfl⟩:=List.mem_map.mp hx;unfold mN at hy;obtain⟨j,_,rfl⟩:=List.mem_map.mp hy
       split<;>omega
   . rcases List.mem_append.mp hu with z|z
     . exact fr u z
     . rw[List.mem_singleton.mp z];exact⟨D0',nDT,nDa⟩
 . rintro σ H3 ⟨us,tb,v4,v5,rfl,f3,x3,h3,P3,lt,nH,fr⟩;have lus:=Paired.length P3;refine⟨_,rfl,_,rfl,l,rfl,⟨_,aY.of (x3 _ _ nl hl)⟩,λD hD=> ?_⟩;refine znC (K:=K) (by omega) hD (x3 _ _ nl hl) λH4 x4 h4=> ?_;have nDa:=bN hD f3;have f4:=Same.flow x4 f3;refine⟨dF 1,λb hb=> ?_⟩;obtain⟨H5,e0,x5,k5⟩:=eJ hb (.lst [.ref D]);rw[e0];have x35:=x4.trans x5;refine⟨T,b,_,_,rfl,rfl,x35 _ _ h3,k5,zdC (show(us.map V.ref).length+1<=1000 by rw[bH];omega),λp hp=> ?_⟩;have x6:Same H5 (aN H5 p (.lst (us.map V.ref++[.ref D]))):=aX hp;have k6:aN H5 p (.lst (us.map V.ref++[.ref D])) p=some (.lst ((us++[D]).map V.ref)):=by rw[aG,List.map_append];rfl
   generalize aN H5 p (.lst (us.map V.ref++[.ref D]))=H6 at x6 k6 ⊢;have x36:=x35.trans x6;refine⟨_,rfl,_,_,rfl,rfl,dF 1,λG hG=> ?_⟩;obtain⟨H7,e0,x7,k7⟩:=eJ hG (.lst [.int ((n:Int) - 1)]);rw[e0];have k7:H7 G=some (.lst ([(n:Int) - 1].map V.int)):=k7;refine⟨dF 2,λt ht=> ?_⟩;have x8:Same H7 (aN H7 t (.tup [.ref p,.ref G])):=aX ht;have x38:=(x36.trans x7).trans x8;have tl:(tb++[dG (List.replicate ls.length n)]).length=n+1:=by rw[List.length_append,lt];rfl
   have zgw: ∀r∈tb++[dG (List.replicate ls.length n)],r.length=ls.length/\ ∀x∈r,0<=x/\x<((n+1:Nat):Int):= λr hr=>by
    rcases List.mem_append.mp hr with z|z
    . exact nH r z
    . rw[List.mem_singleton.mp z];refine⟨by rw[bB,List.length_replicate],λx hx=> ?_⟩;obtain⟨y,hy,rfl⟩:=List.mem_map.mp hx;rw[(List.mem_replicate.mp hy).2];omega
   obtain⟨cs,c1,c2,c3⟩:=zbv (tb:=tb++[dG (List.replicate ls.length n)]) (gd:=[(n:Int) - 1]) (λr hr x hx=>((zgw r hr).2 x hx).1) (List.pairwise_singleton _ _) (λx hx=>by rw[List.mem_singleton.mp hx,tl];omega);rw[tl]at c1;have W:Wc ls.length cs:=zau (by omega) (by rw[c2];exact λr hr=>(zgw r hr).1) (by rw[c2,c1];exact λr hr x hx=>((zgw r hr).2 x hx).2);refine q t p G (us++[D]) cs _ ⟨by omega,by omega⟩ ⟨by rw[c2];exact⟨x8 _ _ (x7 _ _ k6),bU (Paired.mapP P3 λu r z=>x38 _ _ z) (.cons (((x5.trans x6).trans x7).trans x8 _ _ h4) .nil),λr hr=>(zgw r hr).1,by rw[tl];omega⟩,by rw[c3];exact x8 _ _ k7,W⟩ (λb' mE=> ?_) (Same.flow x38 f3) (x3.trans (Same.ext x38)) aG;have fr3: ∀{c:Addr},H3 c=none->H c=none:= λ{c} hc=>x3.free f3 hc
   rcases List.mem_cons.mp mE with rfl|mE
   . exact fr3 (x35.free hp)
   rcases List.mem_cons.mp mE with rfl|mE
   . exact fr3 (x36.free hG)
   rcases List.mem_append.mp mE with z|z
   . exact(fr b' z).1
   . rw[List.mem_singleton.mp z];exact fr3 hD
section
variable {g5 g6 g7 g8 g9 ga:Addr}{gd5 gd6 gd7 gd8 gd9 gda gdb:FuncData}{pt:Addr}
theorem zcx{c:Nat}(h:c∈kA.cps.toList):c<4294967296:=by
 revert c
 decide+kernel
theorem wS{z:Str}(h:Nm z):Sm 0 200 (.str z):=Sm.str (λc hc=>zcx (h.2.2 c hc)) (Nat.le_trans h.2.1 (by decide))
def tbD(cs:fX):PyData:= .tuple ((wE cs).map λr=> .tuple (r.map .int))
def gdD(cs:fX):PyData:= .tuple ((nK cs cs.length).map .int)
def oI(ls:List Str)(cs:fX):PyData:= .tuple [.tuple (ls.map .str),tbD cs,gdD cs]
theorem zbJ{H:Hp}{us:List Addr}{tb:List (List Int)}(h:Paired (sG H) us tb)(n:Nat):Paired (bX H (n+1)) (us.map V.ref) (tb.map λr=> .tuple (r.map .int)):=by
 induction h with
 |nil=>exact .nil
 |cons r _ ih=>exact .cons (bX.tup r (bX.ints n _)) ih
theorem rK.rd{H:Hp}{a:Addr}{xs:List V}(h:rK H a xs):Rd H a (.tup xs):=let⟨o,e,_⟩:=h;.inr ⟨o,e⟩
theorem sW{H:Hp}{tl tt tg tm:Addr}{us:List Addr}{ls:List Str}{cs:fX}(m2:rK H tl (ls.map V.str))(m3:H tt=some (.tup (us.map V.ref)))(m4':Paired (sG H) us (wE cs))(m5:H tg=some (.tup ((nK cs cs.length).map V.int)))(hm:H tm=some (.tup [.ref tl,.ref tt,.ref tg])):bX H 3 (.ref tm) (oI ls cs):=
 bX.tup hm (.cons (bX.up (bX.tupR (rK.rd m2) (bX.strs 0 _))) (.cons (bX.tup m3 (zbJ m4' 0)) (.cons (bX.up (bX.tup m5 (bX.ints 0 _))) .nil)))
theorem zuz{p:PyData->Prop}{a b:PyData}(ha:p a)(hb:p b): ∀x∈ [a,b],p x:= λx hx=>by
 simp only[List.mem_cons,List.not_mem_nil,or_false]at hx
 rcases hx with rfl|rfl
 . exact ha
 . exact hb
theorem zuW{p:PyData->Prop}{a b c:PyData}(ha:p a)(hb:p b)(hc:p c): ∀x∈ [a,b,c],p x:= λx hx=>by
 rcases List.mem_cons.mp hx with rfl|hx
 . exact ha
 . exact zuz hb hc x hx
theorem wR{p:PyData->Prop}{is:List Int}(h: ∀i∈is,p (.int i)): ∀x∈is.map PyData.int,p x:= λx hx=>by
 obtain⟨i,hi,rfl⟩:=List.mem_map.mp hx
 exact h i hi
theorem zeV{m:Nat}{cs:fX}(W:Wc m cs)(m6:m<=6)(c60:cs.length<60):Sm 2 80000 (tbD cs):=by
 refine Sm.tuple (n:=1) (w:=1206) (λd hd=> ?_) (by rw[bH,iM];omega)
 obtain⟨r,hr,rfl⟩:=List.mem_map.mp hd
 refine Sm.tuple (n:=0) (w:=200) (wR λi hi=> ?_) (by rw[bH,zjI W r hr];omega)
 have:=zes W r hr i hi
 rw[iM]at this
 exact Sm.int (by omega) (by omega) (by decide)
theorem zeG{cs:fX}(c60:cs.length<60):Sm 2 80000 (gdD cs):=by
 have:=zfG cs cs.length
 refine(Sm.tuple (n:=0) (w:=200) (m:=12060) (wR λi hi=> ?_) (by rw[bH];omega)).mono (by decide) (by decide)
 have:=ziN i hi
 exact Sm.int (by omega) (by omega) (by decide)
theorem zdr{ls:List Str}(h:Bd ls)(l6:ls.length<=6):Sm 2 80000 (.tuple (ls.map .str)):=by
 refine(Sm.tuple (n:=0) (w:=200) (m:=1206) (λd hd=> ?_) (by rw[bH];omega)).mono (by decide) (by decide)
 obtain⟨z,hz,rfl⟩:=List.mem_map.mp hd
 exact wS (h z hz)
theorem qW{ls:List Str}{cs:fX}(h:Bd ls)(l6:ls.length<=6)(W:Wc ls.length cs)(c60:cs.length<60):Sm 8 1048576 (oI ls cs):=
 (Sm.tuple (m:=240003) (zuW (zdr h l6) (zeV W l6 c60) (zeG c60)) (show 3 * (80000+1)<=240003 by decide)).mono (by decide) (by decide)
theorem dW{a:Addr}{H0 H H':Hp}(x:Same H0 H)(na:H0 a=none)(y:gH a H H'):Same H0 H':= λb o e=>y b o (aF e na) (x b o e)
theorem zdN{p a:Addr}{H H':Hp}{ps:Array Value}(h:aS H a)(b:pG p H H')(hp:H p=some (.tbl ps)):aS H' a:=by
 obtain⟨x,y,z,h1,h2⟩:=h
 exact⟨x,y,z,b.lst hp h1,h2⟩
theorem zgq{H:Hp}{l:Addr}{xs ys:List V}(h:gN H pt)(hl:H l=some (.lst xs)):gN (aN H l (.lst ys)) pt:=by
 rcases h with h|⟨c1,c2,h,h1,h2⟩
 . exact .inl (by rw[aD (cK h hl (λz=>nomatch z))];exact h)
 . exact .inr ⟨c1,c2,by rw[aD (cK h hl (λz=>nomatch z))];exact h,by rw[aD (cK h1 hl (λz=>nomatch z))];exact h1,by rw[aD (cK h2 hl (λz=>nomatch z))];exact h2⟩
theorem pG.put{p l:Addr}{H H1 H2:Hp}{o:HO}(a:pG p H H1)(hl:H1 l=none)(b:pG p H1 H2):pG p H (aN H2 l o):= λc u n e=>by
 have e1:=a c u n e
 rw[aD (aF e1 hl)]
 exact b c u n e1
def wdN(ls:List Str)(u:List Nat):List Str:=u.map λa=>ls.getD a ""
def zmG(ls:List Str)(u:List Nat):PyData:= .list ((wdN ls u).map .str)
theorem wY{H:Hp}{D:Addr}{ls:List Str}{u:List Nat}(h:H D=some (.lst ((wdN ls u).map V.str))):bX H 1 (.ref D) (zmG ls u):=bX.lst h (bX.strs 0 _)
theorem zbz{ls:List Str}{u:List Nat}(h:Bd ls)(hu:Vw ls.length u)(hl:u.length<=100):Sm 8 1048576 (zmG ls u):=by
 refine(Sm.list (n:=0) (w:=200) (m:=80000) (λd hd=> ?_) (by unfold wdN;rw[bH,bH];omega)).mono (by decide) (by decide)
 obtain⟨z,hz,rfl⟩:=List.mem_map.mp hd
 obtain⟨a,ha,rfl⟩:=List.mem_map.mp hz
 have e:=List.getElem?_eq_getElem (hu a ha)
 show Sm 0 200 (.str (ls.getD a ""))
 rw[KKL.getD_at e]
 exact wS (h _ (List.getElem_mem _))
theorem zkf{m:Nat}{cs:fX}(W:Wc m cs){a b:Nat}(ha:a<cs.length)(hb:b<cs.length){u:List Nat}(h:SL m (Fd (fC (aQ m cs)) (gO (aQ m cs)) (a,b)) u):u.length<=cs.length:=by
 by_cases e: ∃d,oX (aQ m cs) ((aQ m cs).n - 1) (a,b) d
 . obtain⟨d,h1,h2⟩:=e;have:=SL.len h h2;have h1:d<=cs.length - 1:=h1;omega
 . have:=uP W.ok ha hb e u h.vw;have z:gO (aQ m cs) (dD (fC (aQ m cs)) (a,b) u)=true:=h.is;rw[this]at z;cases z
def zeX(H:Hp)(ls:List Str)(cs:fX)(a b:Nat)(v:V):Prop:=
 (∃D u,v= .ref D/\SL ls.length (Fd (fC (aQ ls.length cs)) (gO (aQ ls.length cs)) (a,b)) u/\H D=some (.lst ((wdN ls u).map V.str)))\/
 (v= .non/\ ∀u,Vw ls.length u->gO (aQ ls.length cs) (dD (fC (aQ ls.length cs)) (a,b) u)=false)
structure xR(K:W.Frag)(C pt a z l T G d x:Addr)(us:List Addr)(ls:List Str)(cs:fX)(fs:Fs)(ns:List Int)(H:Hp):Prop where
 fl:aS H a
 tab:gN H pt
 mo:MoS C H x ls cs
 mac:lF H T G us cs ls.length
 hl:H l=some (.lst (ls.map V.str))
 hd:H d=some (.dT (iF (nP fs)))
 na:a∉T::G::us
 nl:l≠a
 sq: ∀H',(∀b u,b≠a->b≠pt->H b=some u->H' b=some u)->aY K H' z (ns.map V.int)
theorem xR.step{a z l T G d x:Addr}{us:List Addr}{ls:List Str}{cs:fX}{fs:Fs}{ns:List Int}{H H':Hp}(c:xR K C pt a z l T G d x us ls cs fs ns H)(k: ∀b u,b≠a->b≠pt->H b=some u->H' b=some u)(f:aS H' a)(p:gN H' pt):xR K C pt a z l T G d x us ls cs fs ns H':=by
 obtain⟨_,_,_,ea,_⟩:=c.fl
 obtain⟨ps,ep⟩:=c.tab.some
 have kl: ∀{b:Addr} {xs:List V},b≠a->H b=some (.lst xs)->H' b=some (.lst xs):= λnb e=>k _ _ nb (cK e ep (λz=>nomatch z)) e
 have ko: ∀{b:Addr} {u:HO},H b=some u->(∀ps,u≠ .tbl ps)->(∀xs,u≠ .lst xs)->H' b=some u:= λ{b u} e n1 n2=>k _ _ (λz=>by rw[z,ea]at e;exact n2 _ (Option.some.inj e).symm) (λz=>by rw[z,ep]at e;exact n1 _ (Option.some.inj e).symm) e
 have na:=c.na
 simp only[List.mem_cons,not_or]at na
 obtain⟨dx,tl,tt,tg,us1,h1,⟨o,h2,r⟩,h3,h4,h5⟩:=c.mo
 exact⟨f,p,⟨dx,tl,tt,tg,us1,ko h1 (λ_=>nofun) (λ_=>nofun),⟨o,ko h2 (λ_=>nofun) (λ_=>nofun),r⟩,ko h3 (λ_=>nofun) (λ_=>nofun),Paired.mapP h4 λ_ _ z=>ko z (λ_=>nofun) (λ_=>nofun),ko h5 (λ_=>nofun) (λ_=>nofun)⟩,
  ⟨⟨kl (Ne.symm na.1) c.mac.hT.at_,eB c.mac.hT.rows λu r hu z=>kl (λe=>na.2.2 (e▸hu)) z,c.mac.hT.len,c.mac.hT.few⟩,kl (Ne.symm na.2.1) c.mac.hG,c.mac.wc⟩,kl c.nl c.hl,ko c.hd (λ_=>nofun) (λ_=>nofun),c.na,c.nl,λH2 k2=>c.sq H2 λb u n1 n2 e=>k2 b u n1 n2 (k b u n1 n2 e)⟩
theorem xR.but{a z l T G d x:Addr}{us:List Addr}{ls:List Str}{cs:fX}{fs:Fs}{ns:List Int}{H H':Hp}(c:xR K C pt a z l T G d x us ls cs fs ns H)(b:pG pt H H')(p:gN H' pt):xR K C pt a z l T G d x us ls cs fs ns H':=by
 obtain⟨ps,ep⟩:=c.tab.some
 exact c.step (λe u _ n h=>b e u n h) (zdN c.fl b ep) p
theorem xR.same{a z l T G d x:Addr}{us:List Addr}{ls:List Str}{cs:fX}{fs:Fs}{ns:List Int}{H H':Hp}(c:xR K C pt a z l T G d x us ls cs fs ns H)(y:Same H H'):xR K C pt a z l T G d x us ls cs fs ns H':=c.step (λe u _ _ h=>y e u h) (Same.flow y c.fl) (c.tab.same y)
theorem xR.ext{a z l T G d x:Addr}{us:List Addr}{ls:List Str}{cs:fX}{fs:Fs}{ns:List Int}{H H':Hp}(c:xR K C pt a z l T G d x us ls cs fs ns H)(y:gH a H H')(f:aS H' a):xR K C pt a z l T G d x us ls cs fs ns H':=by
 refine c.step (λe u n _ h=>y e u n h) f ?_
 obtain⟨_,_,_,ea,_⟩:=c.fl
 rcases c.tab with h|⟨c1,c2,h,h1,h2⟩
 . exact .inl (y _ _ (cK h ea (λz=>nomatch z)) h)
 . exact .inr ⟨c1,c2,y _ _ (cK h ea (λz=>nomatch z)) h,y _ _ (cK h1 ea (λz=>nomatch z)) h1,y _ _ (cK h2 ea (λz=>nomatch z)) h2⟩
end
end KK
namespace L2
open PySem PySem.Spec PyProof.Rows
theorem zkD{t1 t2 t3 t4 t5 t6 t7 t8 t9 t10 t11 t12:TS}{D:gK}{σ:St}{H:Hp}{i:Nat}{v:V}(h:let D0:gK:=D;let σ0:St:=σ.set i (some v);let U12:TS:=t12;let U11:TS:=cC t11 U12;let U10:TS:=cC t10 U11;let U9:TS:=cC t9 U10;let U8:TS:=cC t8 U9;let U7:TS:=cC t7 U8;let U6:TS:=cC t6 U7;let U5:TS:=cC t5 U6;let U4:TS:=cC t4 U5;let U3:TS:=cC t3 U4;let U2:TS:=cC t2 U3;cC t1 U2 D0 σ0 H):bD i v σ H λσ2 H2=>(cC t1 (cC t2 (cC t3 (cC t4 (cC t5 (cC t6 (cC t7 (cC t8 (cC t9 (cC t10 (cC t11 t12))))))))))) D σ2 H2:=h
end L2
namespace KK
open PySem L2 PyProof.Rows KKM KKL
section
variable {P:Program}{w:World}{K:W.Frag}{mg:Str->Option Value}{base:Heap}{f g g2 g3 g4 g5 g6 g7 g8 g9 ga gb:Addr}{fd gd gd2 gd3 gd4 gd5 gd6 gd7 gd8 gd9 gda gdb gdc:FuncData}{k:Nat}{C CT CB CG M ft pt:Addr}{ftd:FuncData}
theorem zdT:bS ["_law_script","_law_k","_law_flow_here","_law_large","_law_letters","_law_table","_law_good","_law_form","_law_machine_here","_law_far_here","_law_as_made","_law_turn","_law_one","_law_other","_law_due","_law_again","_law_found"] ["_law_script"] (aH tY):=(.of rfl rfl rfl rfl (by decide+kernel))
set_option maxHeartbeats 40000000 in
noncomputable def zkQ (B:Bt mg) (iN:Fn P w K mg base (k+1) "_law_flow" ["_law_script","_law_k"] (u9 K) g gd) (aU:Fn P w K mg base (k+1) "_law_draw" ["_law_flow_here","_law_many"] dS g2 gd2) (gQ:Fn P w K mg base (k+1) "_law_names" ["_law_flow_here","_law_many"] vC g3 gd3) (eN:Fn P w K mg base (k+1) "_law_machine" ["_law_flow_here","_law_many","_law_letters"] i9 g4 gd4) (gR:Fn P w K mg base (k+1) "_law_blown" ["_law_flow_here","_law_table","_law_good","_law_more"] uE g5 gd5) (fM:Fn P w K mg base (k+1) "_law_counter" ["_law_flow_here","_law_letters"] oE g6 gd6) (iI:Fn P w K mg base (k+1) "_law_road" ["_law_flow_here","_law_letters"] yX g7 gd7) (jP:Fn P w K mg base (k+1) "_law_far" ["_law_table","_law_good"] zan g8 gd8) (gB:Fn P w K mg base (k+1) "_law_by_far" ["_law_letters","_law_table","_law_far_here","_law_one","_law_other"] uO g9 gd9) (fJ:Fn P w K mg base (k+1) "_law_by_rows" ["_law_letters","_law_table","_law_good","_law_one","_law_other"] rW ga gda) (G_parted_from:Fn P w K mg base (k+1) "parted_from" ["machine","one","other"] (rM C pt) gb gdb) (M_Machine:zee P w K mg base k C CT gdc) {eQ:Value} {A:Around} {outer:List Env} {s:Shared} {H:Hp} {E:XK} (nd:List.Nodup (["_law_script","_law_k","_law_flow_here","_law_large","_law_letters","_law_table","_law_good","_law_form","_law_machine_here","_law_far_here","_law_as_made","_law_turn","_law_one","_law_other","_law_due","_law_again","_law_found"]:List Str)) (hr:eK (k+1) (A.deeper (envOfC "law" (aH tY) s.heap.objs.size f eQ))):
 {t:TS // xQ (eV gU P w K mg base ["_law_script","_law_k","_law_flow_here","_law_large","_law_letters","_law_table","_law_good","_law_form","_law_machine_here","_law_far_here","_law_as_made","_law_turn","_law_one","_law_other","_law_due","_law_again","_law_found"] "law" (aH tY) f eQ A outer s H E).nox (cM tY) t}:=
 ⟨_,(aE (dL PassesOwn.never rfl (bP rfl B.range_ (aB (aW (zbF rfl) rfl B.max_ (by decide+kernel) (aB aI (aB (aW (zcr rfl) rfl B.min_ (by decide+kernel) (aB aI (aB (aW aO rfl B.len_ PySem.boot_len (aB (pv 0) aC)) aC))) aC))) aC)) (aJ (i:=1) nd rfl (Or.inl rfl)) (aE (bF (i:=2) nd rfl (Or.inl rfl) (lD iN hr rfl (aB (pv 0) (aB (pv 1) aC)))) (aE (bF (i:=3) nd rfl (Or.inl rfl) (gC lO (lD aU hr rfl (aB (pv 2) (aB aI aC))) aI (cL _))) (aE (bF (i:=4) nd rfl (Or.inl rfl) (lD gQ hr rfl (aB (pv 2) (aB (bM dU aI (lD aU hr rfl (aB (pv 2) (aB aI aC)))) aC)))) (aE (iX (lD eN hr rfl (aB (pv 2) (aB (bM dU aI (lD aU hr rfl (aB (pv 2) (aB aI aC)))) (aB (pv 4) aC)))) (fG rfl (aZ (aJ (i:=5) nd rfl (Or.inl rfl)) (aZ (aJ (i:=6) nd rfl (Or.inl rfl)) eF)))) (aE (dX (zfT (pv 3) (λ_=>rfl)) (aE (iX (lD eN hr rfl (aB (pv 2) (aB (bM dU aI (lD aU hr rfl (aB (pv 2) (aB aI aC)))) (aB (pv 4) aC)))) (fG rfl (aZ (aJ (i:=5) nd rfl (Or.inl rfl)) (aZ (aJ (i:=6) nd rfl (Or.inl rfl)) eF)))) (aK (iX (lD gR hr rfl (aB (pv 2) (aB (pv 5) (aB (pv 6) (aB (lD aU hr rfl (aB (pv 2) (aB aI aC))) aC))))) (fG rfl (aZ (aJ (i:=5) nd rfl (Or.inl rfl)) (aZ (aJ (i:=6) nd rfl (Or.inl rfl)) eF)))))) bW) (aE (bF (i:=7) nd rfl (Or.inl rfl) (lD aU hr rfl (aB (pv 2) (aB aI aC)))) (aE (dX (bQ lO (pv 7) aI (cL _)) (aK (iX (lD fM hr rfl (aB (pv 2) (aB (pv 4) aC))) (fG rfl (aZ (aJ (i:=5) nd rfl (Or.inl rfl)) (aZ (aJ (i:=6) nd rfl (Or.inl rfl)) eF))))) bW) (aE (dX (bQ lO (pv 7) aI (cL _)) (aK (iX (lD iI hr rfl (aB (pv 2) (aB (pv 4) aC))) (fG rfl (aZ (aJ (i:=5) nd rfl (Or.inl rfl)) (aZ (aJ (i:=6) nd rfl (Or.inl rfl)) eF))))) bW) (aE (o8 (i:=8) (j:=9) rfl nd rfl rfl (by decide) rfl rfl (aB (zhA M_Machine.mak M_Machine.ok hr rfl M_Machine.at_ M_Machine.bn .nil kB (aB (pv 4) (aB (pv 5) (aB (pv 6) aC)))) (aB (lD jP hr rfl (aB (pv 5) (aB (pv 6) aC))) aC)) rfl) (aE (bF (i:=10) nd rfl (Or.inl rfl) (aW (nL hr.gd hr.units) rfl B.repr_ (by decide+kernel) (aB (eE (aB (iD (pv 8) rfl) (aB (iD (pv 8) rfl) (aB (iD (pv 8) rfl) aC)))) aC))) (aE (dL PassesOwn.never rfl (bP rfl B.range_ (aB aI aC)) (aJ (i:=11) nd rfl (Or.inl rfl)) (aE (o8 (i:=12) (j:=13) rfl nd rfl rfl (by decide) rfl rfl (aB (lD aU hr rfl (aB (pv 2) (aB (aW aO rfl B.len_ PySem.boot_len (aB (pv 5) aC)) aC))) (aB (lD aU hr rfl (aB (pv 2) (aB (aW aO rfl B.len_ PySem.boot_len (aB (pv 5) aC)) aC))) aC)) rfl) (aE (bF (i:=14) nd rfl (Or.inl rfl) (lD gB hr rfl (aB (pv 4) (aB (pv 5) (aB (pv 9) (aB (pv 12) (aB (pv 13) aC))))))) (aE (dX (PW.pt (zeR (bQ xL (aW aO rfl B.len_ PySem.boot_len (aB (pv 5) aC)) aI (cL _)) (zaI (bQ (zjS (zdO hr)) (pv 14) (lD fJ hr rfl (aB (pv 4) (aB (pv 5) (aB (pv 6) (aB (pv 12) (aB (pv 13) aC)))))) (cL _))))) (aK (cE tD)) bW) (aK (dL PassesOwn.never rfl (bP rfl B.range_ (aB aI aC)) (aJ (i:=15) nd rfl (Or.inl rfl)) (aE (bF (i:=16) nd rfl (Or.inl rfl) (lD G_parted_from hr rfl (aB (pv 8) (aB (pv 12) (aB (pv 13) aC))))) (aE (dX (bQ uA (aW (rF hr.gd hr.units) rfl B.repr_ (by decide+kernel) (aB (pv 16) aC)) (aW (rF hr.gd hr.units) rfl B.repr_ (by decide+kernel) (aB (pv 14) aC)) (cL _)) (aK (cE tD)) bW) (aK (dX (bQ zbd (pv 16) nY (cL _)) (aK (dB (hJ PySem.F.plainAttrs_list PySem.F.slot_list_append PySem.F.type_list_append cZ (pv 16) (aB pL aC)))) bW)))))))))) (aK (dX (bQ uA (aW (nL hr.gd hr.units) rfl B.repr_ (by decide+kernel) (aB (eE (aB (iD (pv 8) rfl) (aB (iD (pv 8) rfl) (aB (iD (pv 8) rfl) aC)))) aC)) (pv 10) (cL _)) (aK (cE tD)) bW)))))))))))))) (aK (cE tD)))⟩
end
section
variable {P:Program}{w:World}{K:W.Frag}{mg:Str->Option Value}{base:Heap}{f g g2 g3 g4 g5 g6 g7 g8 g9 ga gb:Addr}{fd gd gd2 gd3 gd4 gd5 gd6 gd7 gd8 gd9 gda gdb gdc:FuncData}{k:Nat}{C CT CB CG M ft pt:Addr}{ftd:FuncData}
def zbc(K:W.Frag)(pt:Addr):Sp:= λvs H Q _=> ∃(a:Addr) (ns:List Int),vs=[.ref a]/\aY K H a (ns.map V.int)/\ns.length<=63/\gN H pt/\ ∀H',Q (.bl true) H'
set_option maxHeartbeats 40000000 in
theorem zlw(F:mR K "law" "law" tY f fd)(B:Bt mg)(iN:Fn P w K mg base (k+1) "_law_flow" ["_law_script","_law_k"] (u9 K) g gd)(aU:Fn P w K mg base (k+1) "_law_draw" ["_law_flow_here","_law_many"] dS g2 gd2)(gQ:Fn P w K mg base (k+1) "_law_names" ["_law_flow_here","_law_many"] vC g3 gd3)(eN:Fn P w K mg base (k+1) "_law_machine" ["_law_flow_here","_law_many","_law_letters"] i9 g4 gd4)(gR:Fn P w K mg base (k+1) "_law_blown" ["_law_flow_here","_law_table","_law_good","_law_more"] uE g5 gd5)(fM:Fn P w K mg base (k+1) "_law_counter" ["_law_flow_here","_law_letters"] oE g6 gd6)(iI:Fn P w K mg base (k+1) "_law_road" ["_law_flow_here","_law_letters"] yX g7 gd7)(jP:Fn P w K mg base (k+1) "_law_far" ["_law_table","_law_good"] zan g8 gd8)(gB:Fn P w K mg base (k+1) "_law_by_far" ["_law_letters","_law_table","_law_far_here","_law_one","_law_other"] uO g9 gd9)(fJ:Fn P w K mg base (k+1) "_law_by_rows" ["_law_letters","_law_table","_law_good","_law_one","_law_other"] rW ga gda)(G_parted_from:Fn P w K mg base (k+1) "parted_from" ["machine","one","other"] (rM C pt) gb gdb)(M_Machine:zee P w K mg base k C CT gdc):dN P w K mg base gU (k+2) f fd ["_law_script"] (zbc K pt):=by
 refine F.ok zdT (λvs H Q E h=> ?_) (λeQ A outer s H vs Q E hr h=> ?_)
 . obtain⟨a,ns,rfl,_⟩:=h;rfl
 obtain⟨z,ns,rfl,hS,h63,hpt,q⟩:=h
 have nd:=zdT.nd
 have S:=M_Machine.mo
 refine⟨(zkQ (P:=P) (w:=w) (base:=base) B iN aU gQ eN gR fM iI jP gB fJ G_parted_from M_Machine nd hr).1,(zkQ (P:=P) (w:=w) (base:=base) B iN aU gQ eN gR fM iI jP gB fJ G_parted_from M_Machine nd hr).2,?_⟩
 unfold zkQ
 try dsimp only[eV,Cx.nox,Cx.wish]
 refine zeL ?_
 intro D0 σ0 U2
 refine⟨_,rfl,z,_,rfl,.inl hS,2,_,rfl,1,_,rfl,_,rfl,by split<;>omega,?_⟩
 refine⟨by split<;>split<;>omega,eY (λi σ H'=> ∃v1 v2 v3 v4 v5 v6 v7 v8 v9 qB v11 v12 v13 v14 sV tR:Option V,σ=[some (.ref z),v1,v2,v3,v4,v5,v6,v7,v8,v9,qB,v11,v12,v13,v14,sV,tR]/\aY K H' z (ns.map V.int)/\gN H' pt) ?_ ?_ ?_⟩
 . exact⟨_,_,_,_,_,_,_,_,_,_,_,_,_,_,_,_,rfl,hS,hpt⟩
 . rintro i σ H0 hi ⟨v1,v2,v3,v4,v5,v6,v7,v8,v9,qB,v11,v12,v13,v14,sV,tR,rfl,hS0,hp0⟩;have hi':i<=2:=by
    have h1:(if(if((ns.map V.int).length:Int)<2 then((ns.map V.int).length:Int)else 2)>1 then(if((ns.map V.int).length:Int)<2 then((ns.map V.int).length:Int)else 2)else 1)<=2:=by split<;>split<;>omega
    omega
   refine zkD ?_;intro D1 σ1 W12 W11 W10 W9 W8 W7 W6 W5 W4 W3 W2;refine⟨_,rfl,_,rfl,z,ns,_,rfl,hS0,h63,by omega,by omega,λa o2 ha hF=> ?_⟩;obtain⟨H1,e0,x1,-⟩:=eJ ha o2;rw[e0]at hF ⊢;refine⟨_,rfl,a,3,rfl,hF,by decide,by decide,λrL H1' rL0 rL1 vS x1'=>⟨rfl,?_⟩⟩;have y1':=dW x1 ha x1';refine⟨_,rfl,_,rfl,a,6,rfl,vS,by decide,by decide,λr2 H2 r20 r21 f2 x2=>⟨_,_,rfl,rfl,a,_,rfl,f2,by omega,by omega,λl ls H3 e3 b3 n3 nl frl f3 x3 h3=> ?_⟩⟩;have y2:=dW y1' ha x2;have y3:=dW y2 ha x3;have l1:1<=ls.length:=by omega
   have l6:ls.length<=6:=by omega
   have tail: ∀(v3 v7:Option V) (T G:Addr) (us:List Addr) (cs:fX) (H6:Hp),lF H6 T G us cs ls.length->a∉T::G::us->cs.length<=24->aS H6 a->Same H0 H6->H6 l=some (.lst (ls.map V.str))->W9 D1 [some (.ref z),some (.int (0+(i:Int))),some (.ref a),v3,some (.ref l),some (.ref T),some (.ref G),v7,v8,v9,qB,v11,v12,v13,v14,sV,tR] H6:= λv3 v7 T G us cs H6 M6 na sX f6 y6 hl6=>by
    have W:=M6.wc;have lu:=Paired.length M6.hT.rows;rw[iM]at lu;refine⟨_,rfl,_,rfl,_,rfl,λx dx hx hdx ndx=>made (C:=C) (cs:=cs) (us:=us) (E:=E0) (Q:= λx H1=>aP (iG zan [] E0 (aP (aL 5) (aP (aL 6) cG))) cG [some (V.ref z),some (V.int (0+(i:Int))),some (V.ref a),v3,some (V.ref l),some (V.ref T),some (V.ref G),v7,v8,v9,qB,v11,v12,v13,v14,sV,tR] H1 λxs H2=> ∃v w,V.ref x::xs=[v,w]/\W10 D1 (([some (V.ref z),some (V.int (0+(i:Int))),some (V.ref a),v3,some (V.ref l),some (V.ref T),some (V.ref G),v7,v8,v9,qB,v11,v12,v13,v14,sV,tR].set 8 (some v)).set 9 (some w)) H2) (gs:=nK cs cs.length) hl6 M6.hT M6.hG (Nat.lt_of_le_of_lt (zfG _ _) (by omega)) (λ_=>Iff.rfl) n3 W (by omega) (λx H7 hx0 hMo x7=> ?_) x dx hx hdx ndx⟩;refine⟨_,rfl,_,rfl,T,G,us,cs,ls.length,rfl,M6.same x7,by omega,sX,λd H8 fs x8 d0 hd8 fo=> ?_⟩;refine⟨_,_,rfl,?_⟩;obtain⟨dx',tl,tt,tg,us1,m1,m2,m3,m4,m5⟩:=uZ.same hMo x8;refine⟨_,rfl,x,C,dx',_,_,rfl,m1,S.cls,S.n1,rfl,_,rfl,x,C,dx',_,_,rfl,m1,S.cls,S.n2,rfl,_,rfl,x,C,dx',_,_,rfl,m1,S.cls,S.n3,rfl,dF 3,λtm htm=> ?_⟩;obtain⟨H9,e0,x9,k9⟩:=eJ htm (.tup [.ref tl,.ref tt,.ref tg]);rw[e0];have y9:=(x7.trans x8).trans x9;have w9:=y6.trans y9;have MM:MoS C H9 x ls cs:=uZ.same ⟨dx',tl,tt,tg,us1,m1,m2,m3,m4,m5⟩ x9;refine⟨tm,3,oI ls cs,rfl,sW (m2.same x9) (x9 _ _ m3) (Paired.mapP m4 λ_ _ z=>x9 _ _ z) (x9 _ _ m5) k9,qW b3 l6 W (by omega),?_⟩;have p9:=hp0.same w9;obtain⟨tb0,ep0⟩:=hp0.some;have c9:xR K C pt a z l T G d x us ls cs fs ns H9:=⟨Same.flow y9 f6,p9,MM,M6.same y9,y9 _ _ hl6,x9 _ _ hd8,na,nl,λH' k=>by
     rcases hS0 with(h|⟨o,h⟩)|h
     . exact .inl (.inl (k _ _ (aF h ha) (cK h ep0 (λz=>nomatch z)) (w9 _ _ h)))
     . exact .inl (.inr ⟨o,k _ _ (aF h ha) (cK h ep0 (λz=>nomatch z)) (w9 _ _ h)⟩)
     . exact .inr h⟩
    clear x1 x1' y1' x2 x3 y2 y3 x7 x8 x9 hMo m1 m2 m3 m4 m5 MM;refine⟨4,rfl,by decide,by decide,?_⟩;refine eY (λj σ H'=> ∃v11 v12 v13 v14 sV tR:Option V,σ=[some (.ref z),some (.int (0+(i:Int))),some (.ref a),v3,some (.ref l),some (.ref T),some (.ref G),v7,some (.ref x),some (.ref d),some (.str (oI ls cs).shown),v11,v12,v13,v14,sV,tR]/\xR K C pt a z l T G d x us ls cs fs ns H') ?_ ?_ ?_
    . exact⟨v11,v12,v13,v14,sV,tR,rfl,c9⟩
    . rintro j σ H10 hj ⟨v11,v12,v13,v14,sV,tR,rfl,c10⟩;refine zof ?_;intro D2 σ2 X4 X3 X2;refine⟨_,rfl,_,rfl,T,_,rfl,.inl (aY.of c10.mac.hT.at_),a,_,rfl,c10.fl,by rw[bH];have:=W.one;omega,by rw[bH];omega,λr11 H11 ztM zuL f11 x11=> ?_⟩;have c11:=c10.ext x11 f11;refine⟨_,rfl,_,rfl,T,_,rfl,.inl (aY.of c11.mac.hT.at_),a,_,rfl,c11.fl,by rw[bH];have:=W.one;omega,by rw[bH];omega,λr12 H12 zur zsW f12 x12=> ?_⟩;have c12:=c11.ext x12 f12;obtain⟨n1,rfl⟩:=Int.eq_ofNat_of_zero_le ztM;obtain⟨n2,rfl⟩:=Int.eq_ofNat_of_zero_le zur;rw[bH]at zuL zsW;have h1:n1<cs.length:=by omega
      have h2:n2<cs.length:=by omega
      refine⟨_,_,rfl,?_⟩;have last: ∀(v:V) (H13:Hp),xR K C pt a z l T G d x us ls cs fs ns H13->zeX H13 ls cs n1 n2 v->X4 D2 [some (.ref z),some (.int (0+(i:Int))),some (.ref a),v3,some (.ref l),some (.ref T),some (.ref G),v7,some (.ref x),some (.ref d),some (.str (oI ls cs).shown),some (.int (0+(j:Int))),some (.int (n1:Int)),some (.int (n2:Int)),some v,sV,tR] H13:= λv H13 c13 d13=>by
       refine⟨2,rfl,by decide,by decide,?_⟩;refine eY (λe σ H'=> ∃sV tR:Option V,σ=[some (.ref z),some (.int (0+(i:Int))),some (.ref a),v3,some (.ref l),some (.ref T),some (.ref G),v7,some (.ref x),some (.ref d),some (.str (oI ls cs).shown),some (.int (0+(j:Int))),some (.int (n1:Int)),some (.int (n2:Int)),some v,sV,tR]/\xR K C pt a z l T G d x us ls cs fs ns H'/\zeX H' ls cs n1 n2 v) ?_ ?_ ?_
       . exact⟨sV,tR,rfl,c13,d13⟩
       . rintro e σ H14 he ⟨sV,tR,rfl,c14,d14⟩;obtain⟨zyQ,zsh⟩:=c14.tab.some;refine⟨_,rfl,_,rfl,_,rfl,x,ls,cs,n1,n2,rfl,c14.mo,W,by omega,sX,h1,h2,c14.tab,λD u H15 hu b15 p15 D0' zcs=> ?_,λH15 lX b15 p15=> ?_⟩
         . have c15:=c14.but b15 p15;have zcs:H15 D=some (.lst ((wdN ls u).map V.str)):=zcs;have lu':=zkf W h1 h2 hu;have sm:=zbz b3 hu.vw (by omega)
           rcases d14 with⟨D',u',rfl,qA,hD'⟩|⟨rfl,sF⟩
           . obtain rfl:=SL.one hu qA;have znK:=b15.lst zsh hD';refine⟨_,rfl,.inl ⟨D,1,_,rfl,wY zcs,sm,_,rfl,.inl ⟨D',1,_,rfl,wY znK,sm,rfl,false,congrArg V.bl (by rw[decide_eq_true rfl];rfl),iY ?_⟩⟩⟩;refine⟨_,rfl,rfl,true,congrArg V.bl (by rw[decide_eq_false (λz=>nomatch z)];rfl),oZ ?_⟩;refine⟨_,rfl,.inl ⟨rfl,_,aY.of zcs⟩,D,_,_,rfl,rfl,zcs,cY (by unfold wdN;rw[bH,bH];omega),?_⟩;refine⟨_,_,rfl,c14.but (pG.put (λ_ _ _ e=>e) D0' b15) (zgq p15 zcs),.inl ⟨D',u,rfl,qA,?_⟩⟩;rw[aD (aF hD' D0')];exact znK
           . have z':gO (aQ ls.length cs) (dD (fC (aQ ls.length cs)) (n1,n2) u)=true:=hu.is;rw[sF u hu.vw]at z';cases z'
         . have c15:=c14.but b15 p15
           rcases d14 with⟨D',u',rfl,qA,hD'⟩|⟨rfl,sF⟩
           . have z':gO (aQ ls.length cs) (dD (fC (aQ ls.length cs)) (n1,n2) u')=true:=qA.is;rw[lX u' qA.vw]at z';cases z'
           . refine⟨_,rfl,.inr ⟨rfl,_,rfl,.inr ⟨rfl,rfl,false,congrArg V.bl (by rw[decide_eq_true rfl];rfl),iY ?_⟩⟩⟩;refine⟨_,rfl,rfl,false,congrArg V.bl (by rw[decide_eq_true rfl];rfl),iY ?_⟩;exact⟨_,_,rfl,c15,.inr ⟨rfl,sF⟩⟩
       . rintro σ H14 ⟨sV,tR,rfl,c14,_⟩;exact⟨_,_,_,_,_,_,rfl,c14⟩
      have rest: ∀(v:V) (H13:Hp),xR K C pt a z l T G d x us ls cs fs ns H13->zeX H13 ls cs n1 n2 v->X3 D2 [some (.ref z),some (.int (0+(i:Int))),some (.ref a),v3,some (.ref l),some (.ref T),some (.ref G),v7,some (.ref x),some (.ref d),some (.str (oI ls cs).shown),some (.int (0+(j:Int))),some (.int (n1:Int)),some (.int (n2:Int)),some v,sV,tR] H13:= λv H13 c13 d13=>by
       refine⟨_,rfl,T,_,rfl,.inl (aY.of c13.mac.hT.at_),_,_,rfl,rfl,_,rfl,jA (λhq=> ?_) (λhq=>iY (last v H13 c13 d13))⟩;have c4:cs.length<=4:=by
        have:=of_decide_eq_true hq;rw[bH]at this;omega
       refine⟨_,rfl,_,rfl,_,rfl,_,rfl,_,rfl,_,rfl,l,T,G,us,cs,ls.length,ls,n1,n2,rfl,c13.hl,c13.mac,rfl,l6,c4,h1,h2,λD u H14 hu x14 D0' zsX=> ?_,λH14 lX x14=> ?_⟩
       . rcases d13 with⟨D',u',rfl,qA,hD'⟩|⟨rfl,sF⟩
         . obtain rfl:=SL.one hu qA;refine .inr ⟨D',D,wdN ls u,wdN ls u,rfl,rfl,aY.of (x14 _ _ hD'),aY.of zsX,false,congrArg V.bl (by rw[decide_eq_true rfl];rfl),iY ?_⟩;exact last _ H14 (c13.same x14) (.inl ⟨D',u,rfl,qA,x14 _ _ hD'⟩)
         . have z':gO (aQ ls.length cs) (dD (fC (aQ ls.length cs)) (n1,n2) u)=true:=hu.is;rw[sF u hu.vw]at z';cases z'
       . rcases d13 with⟨D',u',rfl,qA,hD'⟩|⟨rfl,sF⟩
         . have z':gO (aQ ls.length cs) (dD (fC (aQ ls.length cs)) (n1,n2) u')=true:=qA.is;rw[lX u' qA.vw]at z';cases z'
         . refine .inl ⟨rfl,false,congrArg V.bl (by rw[decide_eq_true rfl];rfl),iY ?_⟩;exact last _ H14 (c13.same x14) (.inr ⟨rfl,sF⟩)
      refine⟨_,rfl,_,rfl,_,rfl,_,rfl,_,rfl,l,T,G,d,us,cs,ls.length,ls,fs,n1,n2,rfl,c12.hl,c12.mac,rfl,by omega,sX,h1,h2,c12.hd,fo,λD u H13 hu x13 D0' ztb=> ?_,λH13 lX x13=> ?_⟩
      . exact rest _ H13 (c12.same x13) (.inl ⟨D,u,rfl,hu,ztb⟩)
      . exact rest _ H13 (c12.same x13) (.inr ⟨rfl,lX⟩)
    rintro σ H11 ⟨v11,v12,v13,v14,sV,tR,rfl,c11⟩;obtain⟨ex,al,at',ag,yQ,n1,n2,n3',n4,n5⟩:=c11.mo;refine⟨_,rfl,x,C,ex,_,_,rfl,n1,S.cls,S.n1,rfl,_,rfl,x,C,ex,_,_,rfl,n1,S.cls,S.n2,rfl,_,rfl,x,C,ex,_,_,rfl,n1,S.cls,S.n3,rfl,dF 3,λtn htn=> ?_⟩;obtain⟨H12,e0,x12,k12⟩:=eJ htn (.tup [.ref al,.ref at',.ref ag]);rw[e0];refine⟨tn,3,oI ls cs,rfl,sW (n2.same x12) (x12 _ _ n3') (Paired.mapP n4 λ_ _ z=>x12 _ _ z) (x12 _ _ n5) k12,qW b3 l6 W (by omega),?_⟩;refine⟨_,rfl,rfl,false,congrArg V.bl (by rw[decide_eq_true rfl];rfl),iY ?_⟩;exact⟨_,_,_,_,_,_,_,_,_,_,_,_,_,_,_,_,rfl,c11.sq _ λb u _ _ e=>x12 _ _ e,c11.tab.same x12⟩
   have zqf: ∀(v3:Option V) (r7:Int) (T G:Addr) (us:List Addr) (cs:fX) (H6:Hp),lF H6 T G us cs ls.length->a∉T::G::us->cs.length<=24->aS H6 a->Same H0 H6->H6 l=some (.lst (ls.map V.str))->W8 D1 [some (.ref z),some (.int (0+(i:Int))),some (.ref a),v3,some (.ref l),some (.ref T),some (.ref G),some (.int r7),v8,v9,qB,v11,v12,v13,v14,sV,tR] H6:= λv3 r7 T G us cs H6 M6 na sX f6 y6 hl6=>by
    refine⟨_,rfl,rfl,_,rfl,jA (λ_=> ?_) (λ_=>tail v3 _ T G us cs H6 M6 na sX f6 y6 hl6)⟩;refine⟨_,rfl,_,rfl,a,l,ls,rfl,f6,hl6,nl,l1,l6,λp T G us cs H7 ⟨sX,_⟩ M7 fr7 f7 x7 h7=> ?_⟩;refine⟨p,_,rfl,fR.of h7,rfl,_,_,rfl,_,_,rfl,rfl,?_⟩;exact tail v3 _ T G us cs H7 M7 (λhm=>bN (fr7 a hm) f6 rfl) sX f7 (dW y6 ha x7) (x7 _ _ nl hl6)
   have znO: ∀(v3:Option V) (T G:Addr) (us:List Addr) (cs:fX) (H6:Hp),lF H6 T G us cs ls.length->a∉T::G::us->cs.length<=24->aS H6 a->Same H0 H6->H6 l=some (.lst (ls.map V.str))->W6 D1 [some (.ref z),some (.int (0+(i:Int))),some (.ref a),v3,some (.ref l),some (.ref T),some (.ref G),v7,v8,v9,qB,v11,v12,v13,v14,sV,tR] H6:= λv3 T G us cs H6 M6 na sX f6 y6 hl6=>by
    refine⟨_,rfl,a,12,rfl,f6,by decide,by decide,λr7 H7 r70 r71 f7 x7=> ?_⟩;have y7:=dW y6 ha x7;have M7:=M6.ext x7 na;have hl7:=x7 _ _ nl hl6;refine⟨_,rfl,rfl,_,rfl,jA (λ_=> ?_) (λ_=>zqf v3 r7 T G us cs H7 M7 na sX f7 y7 hl7)⟩;refine⟨_,rfl,_,rfl,a,l,ls,rfl,f7,hl7,nl,l1,l6,λp T G us cs H8 ⟨sX,_⟩ M8 fr8 f8 x8 h8=> ?_⟩;refine⟨p,_,rfl,fR.of h8,rfl,_,_,rfl,_,_,rfl,rfl,?_⟩;exact zqf v3 r7 T G us cs H8 M8 (λhm=>bN (fr8 a hm) f7 rfl) sX f8 (dW y7 ha x8) (x8 _ _ nl hl7)
   refine⟨_,rfl,_,rfl,a,4,rfl,f3,by decide,by decide,λr4 H4 r40 r41 f4 x4=>⟨_,_,rfl,rfl,_,rfl,a,l,_,ls,rfl,f4,x4 _ _ nl h3,nl,by omega,by omega,l6,λp T G us cs H5 hcs M5 fr5 f5 x5 h5=> ?_⟩⟩;have y4:=dW y3 ha x4;have y5:=dW y4 ha x5;have na5:a∉T::G::us:= λhm=>bN (fr5 a hm) f4 rfl;have l5:=x5 _ _ nl (x4 _ _ nl h3);refine⟨p,_,rfl,fR.of h5,rfl,_,_,rfl,_,_,rfl,rfl,?_⟩;refine⟨_,rfl,_,rfl,jA (λ_=> ?_) (λ_=>znO _ T G us cs H5 M5 na5 (by omega) f5 y5 l5)⟩;refine⟨_,rfl,_,rfl,a,3,rfl,f5,by decide,by decide,λr6 H6 r60 r61 f6 x6=>⟨_,_,rfl,rfl,_,rfl,a,l,_,ls,rfl,f6,x6 _ _ nl l5,nl,by omega,by omega,l6,λp T G us cs H7 zyh M7 fr7 f7 x7 h7=> ?_⟩⟩;have y6:=dW y5 ha x6;have y7:=dW y6 ha x7;have na7:a∉T::G::us:= λhm=>bN (fr7 a hm) f6 rfl;have l7:=x7 _ _ nl (x6 _ _ nl l5);refine⟨p,_,rfl,fR.of h7,rfl,_,_,rfl,_,_,rfl,rfl,?_⟩;refine⟨_,rfl,_,rfl,_,rfl,_,rfl,a,4,rfl,f7,by decide,by decide,λr8 H8 r80 r81 f8 x8=> ?_⟩;obtain⟨more,rfl⟩:=Int.eq_ofNat_of_zero_le r80;have y8:=dW y7 ha x8;have M8:=M7.ext x8 na7;refine⟨a,T,G,us,cs,ls.length,more,rfl,f8,M8,na7,by omega,by omega,by omega,λp9 T' G' us' ds H9 ⟨hds,ow,hbl⟩ M9 fr9 f9 x9 h9=> ?_⟩;refine⟨p9,_,rfl,fR.of h9,rfl,_,_,rfl,_,_,rfl,rfl,?_⟩;exact znO _ T' G' us' ds H9 M9 (λhm=>bN (fr9 a hm) f8 rfl) (by omega) f9 (dW y8 ha x9) (x9 _ _ nl (x8 _ _ nl l7))
 . rintro σ H' ⟨v1,v2,v3,v4,v5,v6,v7,v8,v9,qB,v11,v12,v13,v14,sV,tR,rfl,_⟩;exact q _
end
end KK
namespace KK
open PySem L2 PyProof.Rows
section
variable {P:Program}{w:World}{K:W.Frag}{mg:Str->Option Value}{base:Heap}{f g:Addr}{fd gd:FuncData}{k:Nat}
theorem zlL{D q:Addr}{Q:VK}{H1:Hp}{ys:List Str}(hy:ys.length<26)(hD:H1 D=none)(hq:H1 q=some (.lst (ys.map V.str)))
 (hd: ∀(zs:List Str),zs≠ []->lJ zs->(∀z∈zs,z∉ys)-> ∀H',(∀b o,H1 b=some o->H' b=some o)->H' D=some (.lst (zs.map V.str))->Q (.ref D) H'):
 bJ (Its kA) D (bD 0) (iQ (eR (rIn K true) (aL 0) (aL 1))) (aL 0) Q [none,some (.ref q)] H1:=by
 obtain⟨j0,c0,hj,hc0,hin⟩:=zcB hy
 have nqD:q≠D:=aF hq hD
 refine zek (λi zs σ H=> ∃(xs:List Str) (v:Option V),zs=xs.map V.str/\xs.length<=i/\lJ xs/\σ=[v,some (.ref q)]/\(∀z∈xs,z∉ys)/\(j0<i->xs≠ [])/\(∀b o,H1 b=some o->H b=some o)) ?_ (by decide+kernel) ?_ ?_ ?_
 . exact⟨[],none,rfl,Nat.le_refl _,(by intro _ z;cases z),rfl,(by intro _ z;cases z),(by intro z;omega),λb o h=>by rw[aD (aF h hD)];exact h⟩
 . rintro i zs σ H ⟨xs,v,rfl,h,_⟩;rw[bH];exact h
 . rintro i c zs σ H hc hl ⟨xs,v,rfl,hle,hs,rfl,hnm,mX,hk⟩;refine⟨_,rfl,_,rfl,q,_,rfl,.inl (aY.of (hk _ _ hq)),rfl,nR ys,_,rfl,?_⟩;refine jA (λb=> ?_) (λb=> ?_)
   . refine⟨_,rfl,hl,xs++[⟨#[c]⟩],_,by rw[List.map_append];rfl,by rw[List.length_append,List.length_singleton];omega,hs.snoc ⟨rfl,zA (List.mem_of_getElem? (by rw[Array.getElem?_toList];exact hc))⟩,rfl,λz hz=> ?_,λ_ z=> ?_,λb o h=> ?_⟩
     . rcases List.mem_append.mp hz with hz|hz
       . exact hnm z hz
       . rw[List.mem_singleton.mp hz];have b2:(!tM (.str ⟨#[c]⟩) (ys.map V.str))=true:=by simpa using b
         exact qQ.mp (by simpa using b2)
     . have e:=congrArg List.length z;rw[List.length_append,List.length_singleton]at e;simp at e
     . rw[aD (aF h hD)];exact hk b o h
   . refine⟨hl,xs,_,rfl,by omega,hs,rfl,hnm,λh=> ?_,hk⟩
     by_cases hi:j0<i
     . exact mX hi
     . have e:i=j0:=by omega
       subst e;have e2:c=c0:=Option.some.inj (hc.symm.trans hc0);rw[<-e2]at hin;exact absurd (show(if true=true then !tM (.str ⟨#[c]⟩) (ys.map V.str)else tM (.str ⟨#[c]⟩) (ys.map V.str))=true by rw[if_pos rfl,hin];rfl) b
 . rintro zs σ H hl ⟨xs,v,rfl,_,hs,_,hnm,mX,hk⟩;exact hd xs (mX (Nat.lt_of_lt_of_le hj (by decide+kernel))) hs hnm H hk hl
theorem u8(x:Str)(lo hi:Option Int):(Txt.slice x lo hi).length<=x.length:=Txt.slice_le x lo hi
theorem zjw{D:Addr}{Q:VK}{H1:Hp}{word:Str}{at' first:Int}{n:Nat}(hw:word.length<=7)(vY:AZ word)(ha0:0<=at')(ha1:at'<=word.length)(h0:0<=first)(hn:n<=6)(hD:H1 D=none)
 (hd: ∀(zs:List Str) H',zs.length=n->Bd zs->zs.Nodup->(∀b o,H1 b=some o->H' b=some o)->H' D=some (.lst (zs.map V.str))->Q (.ref D) H'):
 bJ (tJ 0 n) D (bD 0) dJ (eR (λx y H Q=> ∃i j,x= .str i/\y= .str j/\i.length+j.length<=sizeLine/\Q (.str (i++j)) H)
  (eR (λx y H Q=> ∃i j,x= .str i/\y= .str j/\i.length+j.length<=sizeLine/\Q (.str (i++j)) H) (tSl zlr (aL 1) uK (zfH (aL 2)))
   (eR zkm (aL 3) (eR (rI (λ_ j=>0<j) λi j=> .int (i % j)) (eR (o4 λi j=> .int (i+j)) (aL 4) (eR (rI zfz λi j=> .int (i * j)) (tC (.int 7)) (aL 0))) (tC (.int 26)))))
  (tSl zlr (aL 1) (zfH (aL 2)) uK)) Q [none,some (.str word),some (.int at'),some (.str kA),some (.int first)] H1:=by
 have hz:word.length<=sizeLine:=Nat.le_trans (by omega) kH
 refine cO (λi zs σ H=> ∃(xs:List Str) (v:Option V),zs=xs.map V.str/\xs=(List.range i).map (vH word at' first)/\xs.length=i/\Bd xs/\σ=[v,some (.str word),some (.int at'),some (.str kA),some (.int first)]/\(∀b o,H1 b=some o->H b=some o)) ?_ (by omega) ?_ ?_ ?_
 . exact⟨[],none,rfl,rfl,rfl,(by intro _ z;cases z),rfl,λb o h=>by rw[aD (aF h hD)];exact h⟩
 . rintro i zs σ H ⟨xs,v,rfl,_,rfl,_⟩;rw[bH];exact Nat.le_refl _
 . rintro i zs σ H hi hl ⟨xs,v,rfl,zlJ,rfl,hb,rfl,hk⟩;have hc:=zas (Int.emod_nonneg (first+7 * (0+(xs.length:Int))) (show(26:Int)≠0 by decide)) (Int.emod_lt_of_pos _ (by decide));generalize hcc:kO ((first+7 * (0+(xs.length:Int))) % 26)=c at hc;have l1:=u8 word none (some at');have l2:=u8 word (some at') none;have l3:Str.length ⟨#[c]⟩=1:=rfl;have l4:=mP (Txt.slice word none (some at')) ⟨#[c]⟩;have l5:=mP (Txt.slice word none (some at')++⟨#[c]⟩) (Txt.slice word (some at') none);have hs:=kH;refine⟨_,rfl,_,rfl,_,rfl,word,rfl,hz,_,rfl,_,rfl,_,rfl,_,_,rfl,rfl,.inl ⟨by decide,by decide⟩,_,_,rfl,rfl,_,_,rfl,rfl,(show(0:Int)<26 by decide),kA,_,c,rfl,rfl,zal,hc,_,_,rfl,rfl,by omega,?_⟩;refine⟨_,rfl,_,rfl,_,rfl,word,rfl,hz,_,_,rfl,rfl,by omega,hl,xs++[_],_,by rw[List.map_append];rfl,?fam,by rw[List.length_append];rfl,hb.snoc ?nm,rfl,λb o h=> ?_⟩
   case nm=>
    rw[<-hcc];exact zjq (word:=word) (at':=at') (first:=first) (k:=xs.length) vY hw ha0 ha1
   case fam=>
    rw[List.range_succ,List.map_append,<-zlJ,<-hcc];rfl
   rw[aD (aF h hD)];exact hk b o h
 . rintro zs σ H hl ⟨xs,v,rfl,zlJ,e,hb,_,hk⟩;exact hd xs H e hb (by rw[zlJ];exact zcG hn) hk hl
theorem zdP(F:mR K "_law_names" "_law_names" lZ f fd)(G:dN P w K mg base gU k g gd ["_law_flow_here","_law_many"] dS)(bG:jW K gd ["_law_flow_here","_law_many"] [])(kG:W.keepIn K (.ref g)=true)(mG:mg "_law_draw" =some (.ref g))
 (mr:mg "range" =none) (ml:mg "len" =none):dN P w K mg base gU (k+1) f fd ["_law_flow_here","_law_many"] vC:=by
 refine F.ok zaz (λvs H Q E h=> ?_) (λeQ A outer s H vs Q E hr h=> ?_)
 . obtain⟨a,m,rfl,_⟩:=h;rfl
 obtain⟨a,m,rfl,hF,m1,m6,q⟩:=h
 have nd:=zaz.nd
 refine⟨_,aE (bF (i:=2) nd rfl (Or.inr rfl) pL) (aE (dX (bQ lO (gA G hr rfl mG kG bG .nil kB (aB (pv 0) (aB aI aC))) aI (cL _))
  (aE (bF (i:=3) nd rfl (Or.inr rfl) (cU aC))
  (aE (dL PassesOwn.never rfl (bP rfl mr (aB (pv 1) aC)) (aJ (i:=4) nd rfl (Or.inl rfl))
   (aE (bF (i:=5) nd rfl (Or.inl rfl) (hJ PySem.F.plainAttrs_str PySem.F.slot_str_join PySem.F.type_str_join zar pL (aB
    (cS (own:=["_law_j"]) (fr:=["_law_flow_here","_law_some"]) (idx:=[0,2]) rfl (by show aR _ _ _ (aH lZ);exact(.of rfl (by decide+kernel)))
     (bP rfl mr (aB (bM dU aI (gA G hr rfl mG kG bG .nil kB (aB (pv 0) (aB aI aC)))) aC))
     (λ_ _ _ _ _=>aJ (i:=0) (by show List.Nodup (["_law_j","_law_flow_here","_law_some"]:List Str);decide+kernel) rfl (Or.inl rfl) (Or.inr rfl)) (λ_ _ _ _ _=>cT)
     (λ_ _ _ _ _=>bV zah (pv 2) (gA G hr rfl mG kG bG .nil kB (aB (pv 1) (aB aI aC))) (λ_ _=>rfl)) rfl (cR rfl)) aC)))
   (aE (dX (bQ fA (pv 5) (pv 3) rfl)
    (aK (bF (i:=5) nd rfl (Or.inl rfl) (bV bO
     (cS (own:=["_law_one"]) (fr:=["_law_found"]) (idx:=[3]) (tc:=iQ (eR (rIn K true) (aL 0) (aL 1))) rfl (by show aR _ _ _ (aH lZ);exact(.of rfl (by decide+kernel)))
      (zkp (pv 2)) (λ_ _ _ _ _=>aJ (i:=0) (by show List.Nodup (["_law_one","_law_found"]:List Str);decide+kernel) rfl (Or.inl rfl) (Or.inr rfl)) (λ_ _ _ _ _=>kU (bQ mJ (pv 0) (pv 1) rfl)) (λ_ _ _ _ _=>pv 0) rfl (cR rfl))
     aI (λ_ _=>rfl)))) bW)
   (aK (dB (hJ PySem.F.plainAttrs_list PySem.F.slot_list_append PySem.F.type_list_append cZ (pv 3) (aB (pv 5) aC)))))))
  (aK (cE (pv 3))))) bW) (aE (bF (i:=6) nd rfl (Or.inr rfl) (hJ PySem.F.plainAttrs_str PySem.F.slot_str_join PySem.F.type_str_join zar pL (aB
   (cS (own:=["_law_j"]) (fr:=["_law_flow_here","_law_some"]) (idx:=[0,2]) rfl (by show aR _ _ _ (aH lZ);exact(.of rfl (by decide+kernel)))
    (bP rfl mr (aB (gA G hr rfl mG kG bG .nil kB (aB (pv 0) (aB aI aC))) aC))
    (λ_ _ _ _ _=>aJ (i:=0) (by show List.Nodup (["_law_j","_law_flow_here","_law_some"]:List Str);decide+kernel) rfl (Or.inl rfl) (Or.inr rfl)) (λ_ _ _ _ _=>cT)
    (λ_ _ _ _ _=>bV zah (pv 2) (gA G hr rfl mG kG bG .nil kB (aB (pv 1) (aB aI aC))) (λ_ _=>rfl)) rfl (cR rfl)) aC))) (aE (bF (i:=7) nd rfl (Or.inr rfl) (gA G hr rfl mG kG bG .nil kB (aB (pv 0) (aB (bM dU (aW mV rfl ml PySem.boot_len (aB (pv 6) aC)) aI) aC)))) (aE (bF (i:=8) nd rfl (Or.inr rfl) (gA G hr rfl mG kG bG .nil kB (aB (pv 0) (aB aI aC)))) (aE (bF (i:=3) nd rfl (Or.inr rfl)
   (cS (own:=["_law_k"]) (fr:=["_law_word","_law_at","_law_some","_law_first"]) (idx:=[6,7,2,8]) rfl (by show aR _ _ _ (aH lZ);exact(.of rfl (by decide+kernel)))
    (bP rfl mr (aB (pv 1) aC))
    (λ_ _ _ _ _=>aJ (i:=0) (by show List.Nodup (["_law_k","_law_word","_law_at","_law_some","_law_first"]:List Str);decide+kernel) rfl (Or.inl rfl) (Or.inr rfl)) (λ_ _ _ _ _=>cT)
    (λ_ _ _ _ _=>bM lT (bM lT (qZ zae (pv 1) uQ (uH (pv 2))) (bV zah (pv 3) (bM gZ (bM dU (pv 4) (bM gI aI (pv 0))) aI) (λ_ _=>rfl))) (qZ zae (pv 1) (uH (pv 2)) uQ)) rfl (cR rfl))) (aE (dX (bQ lO (gA G hr rfl mG kG bG .nil kB (aB (pv 0) (aB aI aC))) aI (cL _))
  (aE (bF (i:=9) nd rfl (Or.inl rfl) (bM lT (pv 6) (qZ zae pL (uH (aW mV rfl ml PySem.boot_len (aB (pv 6) aC))) uQ)))
  (aK (dX (bQ mJ (pv 9) (pv 3) rfl) (aK (iX (pv 9) (j4 (pv 3) aI pV))) bW))) bW) (aK (cE (pv 3))))))))),?_⟩
 have hmN:m.toNat<=6:=by omega
 refine⟨_,rfl,a,3,rfl,hF,by decide,by decide,λr0 H0 _ _ f0 x0=>⟨rfl,_,rfl,?_⟩⟩
 refine jA (λc=> ?_) (λc=> ?_)
 . refine⟨dF 0,λq0 hq0=> ?_⟩;have nq:=bN hq0 f0;refine⟨_,rfl,m,rfl,by omega,by omega,eY (n:=m.toNat) (λi σ H=> ∃(ys:List Str) (v4 v5 v6 v7 v8 v9:Option V),σ=[some (.ref a),some (.int m),some (.str kA),some (.ref q0),v4,v5,v6,v7,v8,v9]/\ys.length=i/\Bd ys/\ys.Nodup/\aS H a/\gH a H0 H/\H q0=some (.lst (ys.map V.str))) ?_ ?_ ?_⟩
   . exact⟨[],_,_,_,_,_,_,rfl,rfl,(by intro _ z;cases z),List.nodup_nil,f0.new hq0,gH.new hq0,aG⟩
   . rintro i σ H ii ⟨ys,v4,v5,v6,v7,v8,v9,rfl,rfl,hb,vK,fl,xl,hl⟩;refine⟨rfl,_,rfl,a,8,rfl,fl,by decide,by decide,λr1 H1 r10 r11 f1 x1=>⟨_,_,rfl,rfl,_,rfl,by omega,by omega,λD hD=>zaX (by omega) hD f1 λzs H2 e2 s2 f2 x2 d2=> ?_⟩⟩;obtain⟨wl,ws⟩:=yF s2 (by omega);have l2:H2 q0=some (.lst (ys.map V.str)):=x2 _ _ nq (x1 _ _ nq hl);refine⟨_,D,zs,rfl,rfl,aY.of d2,ws,?_⟩;have step: ∀(nm:Str) (H3:Hp),Nm nm->nm∉ys->aS H3 a->gH a H0 H3->H3 q0=some (.lst (ys.map V.str))-> ∃v,[some (V.ref a),some (.int m),some (.str kA),some (.ref q0),some (.int (0+(ys.length:Int))),some (.str nm),v6,v7,v8,v9][3]?=some (some v)/\(tyV K "list" v H3/\ ∃v',[some (V.ref a),some (.int m),some (.str kA),some (.ref q0),some (.int (0+(ys.length:Int))),some (.str nm),v6,v7,v8,v9][5]?=some (some v')/\zbk v [v'] H3 λ_ H4=>
      ∃(zs:List Str) (v4 v5 v6' v7' v8' v9':Option V),[some (V.ref a),some (.int m),some (.str kA),some (.ref q0),some (.int (0+(ys.length:Int))),some (.str nm),v6,v7,v8,v9]=[some (.ref a),some (.int m),some (.str kA),some (.ref q0),v4,v5,v6',v7',v8',v9']/\zs.length=ys.length+1/\Bd zs/\zs.Nodup/\aS H4 a/\gH a H0 H4/\H4 q0=some (.lst (zs.map V.str))):= λnm H3 hn hni f3 x3 l3=>
      ⟨_,rfl,.inl ⟨rfl,_,aY.of l3⟩,_,rfl,q0,_,_,rfl,rfl,l3,Nat.lt_of_lt_of_le (by rw[bH];omega) kH,ys++[nm],_,_,_,_,_,_,rfl,by rw[List.length_append];rfl,hb.snoc hn,lY vK hni,f3.set (Ne.symm nq),zdE (H1:=H0) hq0 x3,by rw[aG,List.map_append];rfl⟩
     refine⟨_,rfl,_,rfl,q0,_,rfl,.inl (aY.of l2),rfl,nR ys,_,rfl,?_⟩;refine jA (λ_=> ?_) (λcc=> ?_)
     . refine⟨_,rfl,kA,rfl,λD2 lP=>zlL (by omega) lP l2 λus une yQ unm H4 k4 d4=> ?_⟩;obtain⟨u,ur,eu⟩:=List.exists_cons_of_ne_nil une;subst eu;refine⟨D2,_,_,_,rfl,rfl,aY.of d4,cN (j:=0) (v:=V.str u) rfl,?_⟩;obtain⟨x,y,z,ef,hz⟩:=f2;exact step u H4 (by have us3:=yQ u List.mem_cons_self;exact⟨by rw[us3.1];decide,by rw[us3.1];decide,us3.2⟩) (unm u List.mem_cons_self) ⟨x,y,z,k4 _ _ ef,hz⟩ (λb o nb mE=>k4 _ _ ((xl.trans (x1.trans x2)) b o nb mE)) (k4 _ _ l2)
     . exact step _ H2 ⟨zfd s2 (λz=>by rw[z]at e2;have e3:0=_:=e2;omega),by have w1:(Txt.join "" zs).length=zs.length:=(jC s2).1;show(Txt.join "" zs).length<=8;omega,(jC s2).2⟩ (qQ.mp (by simpa using cc)) f2 (xl.trans (x1.trans x2)) l2
   . rintro σ H ⟨ys,v4,v5,v6,v7,v8,v9,rfl,e,hb,vK,fl,xl,hl⟩;exact⟨_,rfl,q q0 ys H (by omega) hb vK nq (x0.free f0 hq0) fl (x0.trans xl) hl⟩
 . refine⟨rfl,_,rfl,a,8,rfl,f0,by decide,by decide,λr1 H1 r10 r11 f1 x1=>⟨_,rfl,by omega,by omega,λD hD=>zaX (by omega) hD f1 λzs H2 e2 s2 f2 x2 d2=> ?_⟩⟩;obtain⟨wl,ws⟩:=yF s2 (by omega);refine⟨_,D,zs,rfl,rfl,aY.of d2,ws,?_⟩;have wa:=(jC s2).2;have w7:(Txt.join "" zs).length<=7:=by have w1:=(jC s2).1;omega
   change (Txt.join "" zs).length<=68 at wl
   generalize Txt.join "" zs=word at wl wa w7 ⊢;have wz:word.length<=sizeLine:=Nat.le_trans (by omega) kH;refine⟨_,rfl,_,rfl,_,rfl,wz,_,_,rfl,rfl,a,_,rfl,f2,by omega,by omega,λr3 H3 r30 r31 f3 x3=> ?_⟩;refine⟨_,rfl,a,26,rfl,f3,by decide,by decide,λr4 H4 r40 _ f4 x4=> ?_⟩;refine⟨_,rfl,m,rfl,by omega,by omega,λD2 lP=>zjw w7 wa r30 (by omega) r40 hmN lP λus H5 e5 b5 n5 k5 d5=> ?_⟩;have f5:aS H5 a:=by
    obtain⟨x,y,z,ef,hz⟩:=f4;exact⟨x,y,z,k5 _ _ ef,hz⟩
   have n2:=bN lP f4;have fr:H D2=none:=(x0.trans (x1.trans (x2.trans (x3.trans x4)))).free f4 lP;have x5:gH a H H5:= λb o nb hb=>k5 _ _ ((x0.trans (x1.trans (x2.trans (x3.trans x4)))) b o nb hb);refine⟨_,rfl,a,4,rfl,f5,by decide,by decide,λr6 H6 _ _ f6 x6=>⟨rfl,_,rfl,?_⟩⟩;have d6:=x6 _ _ n2 d5;refine jA (λ_=> ?_) (λ_=> ?_)
   . have ll:=u8 "zzzzzzzz" (some (word.length:Int)) none;have l8:Str.length "zzzzzzzz" =8:=by decide
     have la:=mP word (Txt.slice "zzzzzzzz" (some (word.length:Int)) none);have hs:=kH;have zAZ:AZ "zzzzzzzz" :=by intro c hc;revert c;decide+kernel
     have lq:=sS (x:= "zzzzzzzz") (j:=(word.length:Int)) (by omega) (by omega);have lr:=congrArg List.length (qV (x:= "zzzzzzzz") (j:=(word.length:Int)) (by omega) (by omega));rw[<-gF,List.length_take,<-gF]at lr;have lp:0<word.length+(Txt.slice "zzzzzzzz" (some (word.length:Int)) none).length:=by
      rcases Nat.eq_zero_or_pos word.length with h|h
      . rw[h];decide
      . omega
     refine⟨_,rfl,_,rfl,_,rfl,wz,_,rfl,_,rfl,by omega,_,_,rfl,rfl,by omega,?_⟩;refine⟨_,rfl,_,rfl,D2,_,rfl,.inl (aY.of d6),rfl,nR us,_,rfl,?_⟩;refine jA (λcc=> ?_) (λ_=> ?_)
     . refine⟨_,rfl,_,rfl,D2,_,0,0,rfl,rfl,d6,?_,?_⟩
       . unfold ixN;rw[bH,e5,if_pos (by decide),if_pos (by omega)];rfl
       . refine⟨_,rfl,q D2 (us.set 0 (word++Txt.slice "zzzzzzzz" (some (word.length:Int)) none)) _ (by rw[List.length_set];omega) (b5.set ⟨by omega,by omega,zF wa (zaY zAZ (by omega) (by omega))⟩ 0) (e6 n5 (qQ.mp (by simpa using cc))) n2 fr (f6.set (Ne.symm n2)) (λb o nb hb=> ?_) ?_⟩
         . have:=x6 _ _ nb (x5 b o nb hb)
           by_cases hbd:b=D2
           . exfalso
             rw[hbd]at hb;have:=(x0.trans (x1.trans (x2.trans (x3.trans x4)))) _ _ n2 hb;rw[lP]at this;cases this
           . rw[aD hbd];exact this
         . rw[aG,List.map_set]
     . exact⟨_,rfl,q D2 us H6 (by omega) b5 n5 n2 fr f6 (x5.trans x6) d6⟩
   . exact⟨_,rfl,q D2 us H6 (by omega) b5 n5 n2 fr f6 (x5.trans x6) d6⟩
end
theorem us1{α:Type}{C:List α->Prop}(h: ∀a,C [a])(us:List α)(hl:us.length=1):C us:=by
 cases us with
 |nil=>cases hl
 |cons a t=>
  obtain rfl:=List.length_eq_zero_iff.mp (Nat.succ.inj hl);exact h a
theorem yQ{α:Type}{C:List α->Prop}(h: ∀a b,C [a,b])(us:List α)(hl:us.length=2):C us:=by
 cases us with
 |nil=>cases hl
 |cons a t=>exact us1 (C:= λt=>C (a::t)) (h a) t (Nat.succ.inj hl)
theorem us3{α:Type}{C:List α->Prop}(h: ∀a b c,C [a,b,c])(us:List α)(hl:us.length=3):C us:=by
 cases us with
 |nil=>cases hl
 |cons a t=>exact yQ (C:= λt=>C (a::t)) (h a) t (Nat.succ.inj hl)
theorem us4{α:Type}{C:List α->Prop}(h: ∀a b c d,C [a,b,c,d])(us:List α)(hl:us.length=4):C us:=by
 cases us with
 |nil=>cases hl
 |cons a t=>exact us3 (C:= λt=>C (a::t)) (h a) t (Nat.succ.inj hl)
theorem us5{α:Type}{C:List α->Prop}(h: ∀a b c d e,C [a,b,c,d,e])(us:List α)(hl:us.length=5):C us:=by
 cases us with
 |nil=>cases hl
 |cons a t=>exact us4 (C:= λt=>C (a::t)) (h a) t (Nat.succ.inj hl)
def Df(K:W.Frag)(x:Str)(st:Stmt):Prop:= ∃(f:Addr) (oc:Value) (od an:Option Addr) (sl:Array (Option Value)) (kV dc pm cd ct:Value),PySem.W.nsIn K mainGlobals x=some (some (.ref f))/\K.lookup f=some ⟨oc,od,.func (PySem.W.fnOf x x (dP st) (cM st) (aH st) .none kV dc pm an cd ct),sl⟩/\PySem.W.codeIn K cd x=true/\W.keepIn K (.ref f)=true
theorem Df.mk'{K:W.Frag}{x:Str}{st:Stmt}{f:Addr}{oc:Value}{od an:Option Addr}{sl:Array (Option Value)}{kV dc pm cd ct:Value}(a:PySem.W.nsIn K mainGlobals x=some (some (.ref f)))(l:K.lookup f=some ⟨oc,od,.func (PySem.W.fnOf x x (dP st) (cM st) (aH st) .none kV dc pm an cd ct),sl⟩)(c:PySem.W.codeIn K cd x=true)(k:W.keepIn K (.ref f)=true):Df K x st:=⟨f,oc,od,an,sl,kV,dc,pm,cd,ct,a,l,c,k⟩
theorem Df.get{K:W.Frag}{x:Str}{st:Stmt}{h:Heap}{mg:Str->Option Value}(p:Df K x st)(X:K.In h)(G:h.Ns mainGlobals mg): ∃(f:Addr) (fd:FuncData),mR K x x st f fd/\W.keepIn K (.ref f)=true/\mg x=some (.ref f):=by
 obtain⟨f,oc,od,an,sl,kV,dc,pm,cd,ct,a,l,c,k⟩:=p
 exact⟨f,_,zU l c k,k,PySem.W.mg_of X G a⟩
theorem zfv{K:W.Frag}{x y:Str}{st:Stmt}{f:Addr}{fd:FuncData}(F:mR K x x st f fd)(hb: ∀(kV dc pm:Value) (an:Option Addr) (cd ct:Value) (v:Value),bindArgs (PySem.W.fnOf x x (dP st) (cM st) (aH st) .none kV dc pm an cd ct) ⟨[v],[]⟩=pure [(y,v)])(s:Shared)(v:Value):BindsTo s fd ⟨[v],[]⟩ [(y,v)]:=by
 obtain⟨oc,od,kV,dc,pm,an,cd,ct,sl,rfl,lk,pF⟩:=F.ex
 exact .of_eq (hb kV dc pm an cd ct v)
set_option maxHeartbeats 40000000 in
theorem all_mk{l:W.OpenLaw}{w:World}{K:W.Frag}{h:Heap}{mg:Str->Option Value}{fa:Addr}(X:K.In h)(G:h.Ns mainGlobals mg)(hfa:mg "law" =some (.ref fa)){cc pt:Addr}
 {zea:Addr} {zlC zkC:Option Addr} {zjH:Array (Option Value)} {zlF zjB zlp zlO yW zjU:Value}
 {C_Machine:Addr}
 {xU:Addr} {zjX zlA:Option Addr} {zkq:Array (Option Value)} {zlK zjV zlj zld zec zlM:Value}
 (zla:Df K "_law_cell" zdY)
 (zlN:Df K "_law_flow" zfP)
 (zkn:Df K "_law_draw" zeS)
 (zpL:Df K "_law_names" lZ)
 (zoN:Df K "_law_machine" eS)
 (zqg:Df K "_law_blown" eM)
 (zpy:Df K "_law_counter" fW)
 (zoX:Df K "_law_road" iA)
 (zpI:Df K "_law_by_rows" fY)
 (zoV:Df K "_law_far" fV)
 (zpZ:Df K "_law_by_far" jQ)
 (zoT:Df K "law" tY)
 (zpe:Df K "rising" pY)
 (znL:Df K "refuse_twice" gX)
 (zpv:Df K "refuse_steps" hZ)
 (zqs:Df K "refuse_good" iW)
 (zpT:Df K "first_row" gG)
 (znc:Df K "fresh_of" lW)
 (zoW:Df K "row_to" pU)
 (zne:W.nsIn K mainGlobals "parted_from" =some (some (.ref zea)))
 (zhY:K.lookup zea=some ⟨zlF,zlC,.func (W.fnOf "parted_from" "parted_from" (dP bE) (cM bE) (aH bE) .none zjB zlp zlO zkC yW zjU),zjH⟩)
 (zpR:W.codeIn K yW "parted_from" =true)
 (zjm:W.keepIn K (.ref zea)=true)
 (yO:W.nsIn K mainGlobals "Machine" =some (some (.ref C_Machine)))
 (d9:W.makesIn K C_Machine=true)
 (u7:W.keepIn K (.ref C_Machine)=true)
 (zai:W.plainGet K C_Machine Str.empty=true)
 (a6:W.hasDictIn K C_Machine=true)
 (o7:W.plainOver K C_Machine=true)
 (zW:W.findIn K (.ref C_Machine) "__setattr__" =some (some (.builtin "object.__setattr__")))
 (lU:W.findIn K (.ref C_Machine) "letters" =some none)
 (nN:W.findIn K (.ref C_Machine) "table" =some none)
 (oV:W.findIn K (.ref C_Machine) "good" =some none)
 (zkc:W.findIn K (.ref C_Machine) "__init__" =some (some (.ref xU)))
 (zkU:W.isFn K (.ref xU)=true)
 (zmB:K.lookup xU=some ⟨zlK,zjX,.func (W.fnOf "__init__" "Machine.__init__" (dP cF) (cM cF) (aH cF) .none zjV zlj zld zlA zec zlM),zkq⟩)
 (znV:W.codeIn K zec "Machine.__init__" =true)
 (zoe:W.keepIn K (.ref xU)=true)
 (zoo:W.tabIn K "parted_from" =some (cc,pt))
 (zoY:W.codeHdIn K cc pt=true)
 (zmW:W.nsIn K mainGlobals "any" =some none)
 (zjT:W.nsIn K mainGlobals "dict" =some none)
 (zmO:W.nsIn K mainGlobals "len" =some none)
 (zgv:W.nsIn K mainGlobals "range" =some none)
 (zmE:W.nsIn K mainGlobals "max" =some none)
 (zfw:W.nsIn K mainGlobals "sorted" =some none)
 (zhf:W.nsIn K mainGlobals "tuple" =some none)
 (zoR:W.nsIn K mainGlobals "set" =some none)
 (zqh:W.nsIn K mainGlobals "min" =some none)
 (yC:W.nsIn K mainGlobals "enumerate" =some none)
 (zoI:W.nsIn K mainGlobals "zip" =some none)
 (zka:W.nsIn K mainGlobals "repr" =some none)
 (zkM:W.nsIn K mainGlobals "list" =some none)
 (vE:W.nsIn K mainGlobals "isinstance" =some none)
 (znG:W.nsIn K mainGlobals "int" =some none)
 (zjQ:W.nsIn K mainGlobals "bool" =some none):
 ∃fd:FuncData,(∀(s:Shared) (v:Value),BindsTo s fd ⟨[v],[]⟩ [("_law_script",v)])/\ ∀base:Heap,K.In base->base.Ns mainGlobals mg->lM mg base->dN l.prog w K mg base gU 12 fa fd ["_law_script"] (zbc K pt):=by
 obtain⟨zsR,zsE,zdU,zjt,zlh⟩:=zla.get X G
 obtain⟨zuq,ztR,zdu,zkt,zlG⟩:=zlN.get X G
 obtain⟨zsM,zsQ,zfE,m9,zO⟩:=zkn.get X G
 obtain⟨zvI,zxa,zhQ,zpb,zqm⟩:=zpL.get X G
 obtain⟨zwd,zwM,zin,znW,zph⟩:=zoN.get X G
 obtain⟨zwE,zwL,zjl,zoE,znR⟩:=zqg.get X G
 obtain⟨zvS,zvs,ziz,zpF,znJ⟩:=zpy.get X G
 obtain⟨zwb,zwG,zhT,zoC,zqi⟩:=zoX.get X G
 obtain⟨zwU,zwc,ziI,zqx,zpk⟩:=zpI.get X G
 obtain⟨zvz,zxq,zjk,zmR,zoQ⟩:=zoV.get X G
 obtain⟨zvO,zvT,ziT,zmF,zqa⟩:=zpZ.get X G
 obtain⟨zvH,zpA,zim,zvd,zqt⟩:=zoT.get X G
 obtain⟨zwq,zwp,zif,znI,zoG⟩:=zpe.get X G
 obtain⟨zwP,zvU,zjc,zpf,zmT⟩:=znL.get X G
 obtain⟨zwn,zvg,zix,zpw,zor⟩:=zpv.get X G
 obtain⟨zvn,zvp,ziy,znf,znN⟩:=zqs.get X G
 obtain⟨zwj,zwR,zjd,zmH,znk⟩:=zpT.get X G
 obtain⟨zwa,zvx,ziV,zqq,zpJ⟩:=znc.get X G
 obtain⟨zwH,zwI,zhR,zoJ,zoS⟩:=zoW.get X G
 have zjf:=zU (st:=bE) zhY zpR zjm
 have zhP:=W.mg_of X G zne
 have e:=hfa.symm.trans zqt
 cases e
 have ziS:=zU (st:=cF) zmB znV zoe
 have zlv:=zdU.binds (ps:=["_law_script","_law_k"]) λ_ _ _ _ _ _=>yQ λ_ _=>rfl
 have zlx:=zdu.binds (ps:=["_law_script","_law_k"]) λ_ _ _ _ _ _=>yQ λ_ _=>rfl
 have e7:=zfE.binds (ps:=["_law_flow_here","_law_many"]) λ_ _ _ _ _ _=>yQ λ_ _=>rfl
 have znX:=zhQ.binds (ps:=["_law_flow_here","_law_many"]) λ_ _ _ _ _ _=>yQ λ_ _=>rfl
 have zpK:=zin.binds (ps:=["_law_flow_here","_law_many","_law_letters"]) λ_ _ _ _ _ _=>us3 λ_ _ _=>rfl
 have znH:=zjl.binds (ps:=["_law_flow_here","_law_table","_law_good","_law_more"]) λ_ _ _ _ _ _=>us4 λ_ _ _ _=>rfl
 have znt:=ziz.binds (ps:=["_law_flow_here","_law_letters"]) λ_ _ _ _ _ _=>yQ λ_ _=>rfl
 have zny:=zhT.binds (ps:=["_law_flow_here","_law_letters"]) λ_ _ _ _ _ _=>yQ λ_ _=>rfl
 have zol:=ziI.binds (ps:=["_law_letters","_law_table","_law_good","_law_one","_law_other"]) λ_ _ _ _ _ _=>us5 λ_ _ _ _ _=>rfl
 have zni:=zjk.binds (ps:=["_law_table","_law_good"]) λ_ _ _ _ _ _=>yQ λ_ _=>rfl
 have znj:=ziT.binds (ps:=["_law_letters","_law_table","_law_far_here","_law_one","_law_other"]) λ_ _ _ _ _ _=>us5 λ_ _ _ _ _=>rfl
 have zoL:=zif.binds (ps:=["things"]) λ_ _ _ _ _ _=>us1 λ_=>rfl
 have zmL:=zjc.binds (ps:=["names"]) λ_ _ _ _ _ _=>us1 λ_=>rfl
 have zos:=zix.binds (ps:=["letters","table"]) λ_ _ _ _ _ _=>yQ λ_ _=>rfl
 have znx:=ziy.binds (ps:=["table","good"]) λ_ _ _ _ _ _=>yQ λ_ _=>rfl
 have zpl:=zjd.binds (ps:=["letters","start","goes","found"]) λ_ _ _ _ _ _=>us4 λ_ _ _ _=>rfl
 have zmZ:=ziV.binds (ps:=["things","seen"]) λ_ _ _ _ _ _=>yQ λ_ _=>rfl
 have zpH:=zhR.binds (ps:=["came","group"]) λ_ _ _ _ _ _=>yQ λ_ _=>rfl
 have zqy:=zjf.binds (ps:=["machine","one","other"]) λ_ _ _ _ _ _=>us3 λ_ _ _=>rfl
 have znl:=ziS.binds (ps:=["self","letters","table","good"]) λ_ _ _ _ _ _=>us4 λ_ _ _ _=>rfl
 have B:Bt mg:=⟨W.mg_none_of X G zmW,W.mg_none_of X G zjT,W.mg_none_of X G zmO,W.mg_none_of X G zgv,W.mg_none_of X G zmE,W.mg_none_of X G zfw,W.mg_none_of X G zhf,W.mg_none_of X G zoR,W.mg_none_of X G zqh,W.mg_none_of X G yC,W.mg_none_of X G zoI,W.mg_none_of X G zka,W.mg_none_of X G zkM,W.mg_none_of X G vE,W.mg_none_of X G znG,W.mg_none_of X G zjQ⟩
 refine⟨zpA,λs v=>zfv zim (λ_ _ _ _ _ _ _=>rfl) s v,λbase _ _ hB=> ?_⟩
 have D1:=zgr (P:=l.prog) (w:=w) (mg:=mg) (base:=base) (k:=0) zfE
 have C1:=zgR (P:=l.prog) (w:=w) (mg:=mg) (base:=base) (k:=0) zdU B.len_
 have W1:=zhu zdu C1 zlv zjt zlh
 have Y1:=zdP zhQ D1 e7 m9 zO B.range_ B.len_
 have dr2:Fn l.prog w K mg base 2 _ _ _ _ _:=⟨D1.mono (by decide),e7,m9,zO⟩
 have MA:=zN zin B dr2
 have BL:=zfj zjl B dr2
 have CO:=zP ziz B dr2
 have RO:=zgF zhT B dr2
 have BR:=c8 (P:=l.prog) (w:=w) (mg:=mg) (base:=base) (k:=2) ziI B
 have FA:=zlf (P:=l.prog) (w:=w) (mg:=mg) (base:=base) (k:=2) zjk B
 have BF:=zbC (P:=l.prog) (w:=w) (mg:=mg) (base:=base) (k:=2) ziT B
 have R1:=zbQ (P:=l.prog) (w:=w) (mg:=mg) (base:=base) (k:=2) zif B
 have T1:=zed (P:=l.prog) (w:=w) (mg:=mg) (base:=base) (k:=2) zjc B
 have S1:=zfS (P:=l.prog) (w:=w) (mg:=mg) (base:=base) (k:=2) zix B
 have O1:=zgV (P:=l.prog) (w:=w) (mg:=mg) (base:=base) (k:=2) ziy B
 have zpj:Fn l.prog w K mg base 3 _ _ _ _ _:=⟨T1,zmL,zpf,zmT⟩
 have zqo:Fn l.prog w K mg base 3 _ _ _ _ _:=⟨S1,zos,zpw,zor⟩
 have zoZ:Fn l.prog w K mg base 3 _ _ _ _ _:=⟨O1,znx,znf,znN⟩
 have zox:Fn l.prog w K mg base 3 _ _ _ _ _:=⟨R1,zoL,znI,zoG⟩
 have S:MoC K C_Machine:=⟨⟨zai,a6,o7,zW⟩,lU,nN,oV⟩
 have I1:=zhg ziS B S zpj zqo zoZ zox
 have FE:=zez (P:=l.prog) (w:=w) (mg:=mg) (base:=base) (k:=1) (md:= .p) ziV
 have zuI:Fn l.prog w K mg base 2 _ _ _ _ _:=⟨FE,zmZ,zqq,zpJ⟩
 have RT:=zfX (P:=l.prog) (w:=w) (mg:=mg) (base:=base) (k:=1) zhR
 have zuo:Fn l.prog w K mg base 2 _ _ _ _ _:=⟨RT,zpH,zoJ,zoS⟩
 have IG:=zhq (P:=l.prog) (w:=w) (mg:=mg) (base:=base) (k:=1) S
 have IP:=zfk (P:=l.prog) (w:=w) (mg:=mg) (base:=base) (k:=1) S
 have FI:=zeA (md:= .p) zjd B zuo zuI IG IP
 have zsw:Fn l.prog w K mg base 6 _ _ _ _ _:=⟨FI.mono (by decide),zpl,zmH,znk⟩
 have hfc:yW= .ref cc:=W.law_code X G zoo zhP (X _ _ zhY) rfl
 subst hfc
 have PA:=zbE (pt:=pt) (cc:=cc) zjf B S hB rfl (λh X=>W.codeHd_of_K X zoY) zsw
 have M10:zee l.prog w K mg base 10 C_Machine xU _:=⟨⟨d9,zkc,zkU,u7⟩,S,I1.mono (by decide),znl,W.mg_of X G yO⟩
 have Z1:Fn l.prog w K mg base 11 _ _ _ _ _:=⟨W1.mono (by decide),zlx,zkt,zlG⟩
 have Z2:Fn l.prog w K mg base 11 _ _ _ _ _:=⟨D1.mono (by decide),e7,m9,zO⟩
 have Z3:Fn l.prog w K mg base 11 _ _ _ _ _:=⟨Y1.mono (by decide),znX,zpb,zqm⟩
 have Z4:Fn l.prog w K mg base 11 _ _ _ _ _:=⟨MA.mono (by decide),zpK,znW,zph⟩
 have Z5:Fn l.prog w K mg base 11 _ _ _ _ _:=⟨BL.mono (by decide),znH,zoE,znR⟩
 have Z6:Fn l.prog w K mg base 11 _ _ _ _ _:=⟨CO.mono (by decide),znt,zpF,znJ⟩
 have Z7:Fn l.prog w K mg base 11 _ _ _ _ _:=⟨RO.mono (by decide),zny,zoC,zqi⟩
 have Z8:Fn l.prog w K mg base 11 _ _ _ _ _:=⟨FA.mono (by decide),zni,zmR,zoQ⟩
 have Z9:Fn l.prog w K mg base 11 _ _ _ _ _:=⟨BF.mono (by decide),znj,zmF,zqa⟩
 have ZA:Fn l.prog w K mg base 11 _ _ _ _ _:=⟨BR.mono (by decide),zol,zqx,zpk⟩
 have ZB:Fn l.prog w K mg base 11 _ _ _ _ _:=⟨PA.mono (by decide),zqy,zjm,zhP⟩
 exact zlw zim B Z1 Z2 Z3 Z4 Z5 Z6 Z7 Z8 Z9 ZA ZB M10
theorem walk{l:PySem.W.OpenLaw}{q:Program}{tI:List Str}{XP:(Str->Option Value)->Heap->Prop}{YP:World->Heap->Prop}{d:DefRec}{K:Params->W.Frag}{cc pt:Addr}(hn:l.most=some 63)(hdf:d.params.defaults=[])
 (hY: ∀(w:World) (h:Heap),YP w h->(K w.params).In h) (hnK: ∀w:World,PySem.W.noTabs (K w.params)=true)
 (ht: ∀(w:World) (h:Heap),YP w h->h.get? pt=some (PySem.W.tabObj #[])) (hc: ∀w:World,PySem.W.codeHdIn (K w.params) cc pt=true)
 (F: ∀(w:World) (mg:Str->Option Value) (fa:Addr) (h:Heap),(K w.params).In h->h.Ns mainGlobals mg->mg d.name=some (.ref fa)->
  ∃fd:FuncData,(∀(s:Shared) (u:Value),BindsTo s fd ⟨[u],[]⟩ [("_law_script",u)])/\ ∀base:Heap,(K w.params).In base->base.Ns mainGlobals mg->lM mg base->dN l.prog w (K w.params) mg base gU 12 fa fd ["_law_script"] (zbc (K w.params) pt)):
 PySem.W.WalkO q tI XP YP l.row.toRowW d [] (λf vs=>PySem.call f vs):=
 L2.walk_ofT (n:=63) (k:=12) (x:= "_law_script") (CX:= λ_=>gU) (sp:= λw=>zbc (K w.params) pt) (tabs:= λ_=>[(cc,pt)]) hn (by decide) hdf ⟨rfl,by decide,by decide,rfl⟩ hY hnK (λw h Y q hq=>by rw[List.mem_singleton.mp hq];exact⟨PySem.W.codeHd_of_K (hY w h Y) (hc w),ht w h Y⟩) F (λ_ H a ns hl hT _ hS=>⟨a,ns,rfl,hS,hl,.inl (hT _ List.mem_cons_self),λ_=>rfl⟩) λ_ _ _ _ _ z=>z
end KK
open PySem PySem.W PyProof.Rows
def PySem.W.Fast.tw6162987393779140436 : Nat := 0
def PySem.W.Fast.tw13695058998194336598 : Nat := 0
def PySem.W.Fast.tw16884308702424193182 : Nat := 0
def PySem.W.Fast.tw13839200299286202618 : Nat := 0
def PySem.W.Fast.tw5790742053184640891 : Nat := 0
def PySem.W.Fast.tw13819742563215623067 : Nat := 0
def PySem.W.Fast.tw4212804622635499420 : Nat := 0
def PySem.W.Fast.tw6713722006313430753 : Nat := 0
def PySem.W.Fast.tw14050111195760857286 : Nat := 0
def PySem.W.Fast.tw72351212675667500 : Nat := 0
def PySem.W.Fast.tw4821791958058621709 : Nat := 0
def PySem.W.Fast.tw11962806655123125708 : Nat := 0
set_option maxRecDepth 100000 in
set_option maxHeartbeats 0 in
theorem PySem.Challenge.cw_meetdesks_k09_whole_the_first_row_that_p_holds : PySem.Challenge.rw_meetdesks_k09_whole_the_first_row_that_p.Holds := by
 w_on;o_law;k_head;(case hw=>w_witness2)
 k_fill
 refine KK.walk (l:=PySem.Challenge.rw_meetdesks_k09_whole_the_first_row_that_p) (cc:=156) (pt:=152) rfl rfl (λw h Y=>PySem.W.km_in_of Y) (λw=>by kernel_rfl) (λw h Y=>PySem.W.km_tabs_of Y 152 (.head _)) (λw=>by kernel_rfl) ?F
 case F=>
  intro w mg fa h KX G hmg;refine' KK.all_mk (cc:=156) (pt:=152) KX G hmg (.mk' ?_ ?_ ?_ ?_) (.mk' ?_ ?_ ?_ ?_) (.mk' ?_ ?_ ?_ ?_) (.mk' ?_ ?_ ?_ ?_) (.mk' ?_ ?_ ?_ ?_) (.mk' ?_ ?_ ?_ ?_) (.mk' ?_ ?_ ?_ ?_) (.mk' ?_ ?_ ?_ ?_) (.mk' ?_ ?_ ?_ ?_) (.mk' ?_ ?_ ?_ ?_) (.mk' ?_ ?_ ?_ ?_) (.mk' ?_ ?_ ?_ ?_) (.mk' ?_ ?_ ?_ ?_) (.mk' ?_ ?_ ?_ ?_) (.mk' ?_ ?_ ?_ ?_) (.mk' ?_ ?_ ?_ ?_) (.mk' ?_ ?_ ?_ ?_) (.mk' ?_ ?_ ?_ ?_) (.mk' ?_ ?_ ?_ ?_) ?_ ?_ ?_ ?_ ?_ ?_ ?_ ?_ ?_ ?_ ?_ ?_ ?_ ?_ ?_ ?_ ?_ ?_ ?_ ?_ ?_ ?_ ?_ ?_ ?_ ?_ ?_ ?_ ?_ ?_ ?_ ?_ ?_ ?_ ?_ ?_ ?_
  all_goals try first|k_is|decide|kernel_rfl
