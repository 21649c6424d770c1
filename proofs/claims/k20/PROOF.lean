import PyProof.Rows.All
import Wide.All
import OpenK.AllK
import Wide.FinOn
import Lean
import PyProof.EqAt
import PyProof.EqKinds
import PyProof.TupleCall
import PyProof.NeKinds
import KE.KDictOf
import KE.KDictSum
import KE.KNest
import KE.KRevSl
import PyProof.Cells
import PyProof.CollectIter
import PyProof.CollectWalk
import PyProof.FactsAll.bool_1
import PyProof.FactsAll.dict_4
import PyProof.FactsAll.int_2
import PyProof.FactsAll.set_1
import PyProof.FactsAll.tuple
import PyProof.FactsAll.tuple_2
import PyProof.FitsInt
import PyProof.ListNew
import PyProof.ListRange
import PyProof.RangeFor
import PyProof.ReprLen
import PyProof.ReprRoads
import PyProof.Rows.CountFlat
import PyProof.Rows.Range3
import PyProof.Seq
import PyProof.SetRoads
import PyProof.TupleIter
import PyProof.TupleOfSeq
import PyProof.WalksMore
import PyProof.ZipIter
import PySem.Challenge.RW_meetdesks_k20_free_pairs
set_option Elab.async false
set_option linter.all false
set_option maxRecDepth 100000
theorem aW{α β:Type}{as:List α}(f:α → β):(as.map f).length=as.length:=List.length_map f
namespace L2
open PySem PySem.Spec PyProof.Rows
variable {H H':Hp}{h h':Heap}{X:Cx}{aB:List (Addr×Obj)}{s:Shared}{ta tb te:TE}{pos p:Pos}{A:Around}{dx C:Addr}{es:List Expr}
abbrev dB:=Sum Int Str
def xB:dB->Value->Bool
 | .inl k,v=>Value.isInt k v
 | .inr x,v=>Value.isStrOf x v
def zwe(w:World):dB->Int
 | .inl k=>hashInt k
 | .inr x=>hashStr w x
theorem dX: ∀{k:dB} {v:Value},xB k v=true->(∃i t,k=Sum.inl i/\v=Value.int i t)\/(∃x t,k=Sum.inr x/\v=Value.str x t)
 | .inl i,v,h=>by
  obtain⟨t,e⟩:=Value.isInt_shape (k:=i) (v:=v) h;exact .inl ⟨i,t,rfl,e⟩
 | .inr x,v,h=>by
  obtain⟨t,e⟩:=Value.isStrOf_shape (x:=x) (v:=v) h;exact .inr ⟨x,t,rfl,e⟩
theorem zdS(i:Int)(t:Tok):xB (.inl i) (.int i t)=true:=by simp[xB,Value.isInt]
theorem zeK(x:Str)(t:Tok):xB (.inr x) (.str x t)=true:=by simp[xB,Value.isStrOf]
theorem zmp(a b:Int):decide ((Sum.inl a:dB)=Sum.inl b)=(a==b):=by
 by_cases e:a=b
 . subst e;simp
 . have h: ¬(Sum.inl a:dB)=Sum.inl b:= λq=>e (Sum.inl.inj q);rw[decide_eq_false h];exact(beq_eq_false_iff_ne.mpr e).symm
theorem zmg(a b:Str):decide ((Sum.inr a:dB)=Sum.inr b)=decide (a=b):=by
 by_cases e:a=b
 . subst e;simp
 . have h: ¬(Sum.inr a:dB)=Sum.inr b:= λq=>e (Sum.inr.inj q);rw[decide_eq_false h,decide_eq_false e]
theorem zmr(a:Int)(b:Str):decide ((Sum.inl a:dB)=Sum.inr b)=false:=decide_eq_false (λq=>nomatch q)
theorem znt(a:Str)(b:Int):decide ((Sum.inr a:dB)=Sum.inl b)=false:=decide_eq_false (λq=>nomatch q)
def bN(prog:Program)(w:World):PySem.KeyKind prog w dB where
 is:=xB
 hash:=zwe w
 inj:= λv a b ha hb=>by
  rcases dX ha with⟨i,t,rfl,rfl⟩|⟨x,t,rfl,rfl⟩
  . rcases dX hb with⟨j,u,rfl,e⟩|⟨y,u,rfl,e⟩
    . injection e with e1 _;rw[e1]
    . exact nomatch e
  . rcases dX hb with⟨j,u,rfl,e⟩|⟨y,u,rfl,e⟩
    . exact nomatch e
    . injection e with e1 _;rw[e1]
 byValue:= λk v h=>by
  rcases dX h with⟨i,t,rfl,rfl⟩|⟨x,t,rfl,rfl⟩<;>rfl
 pyHash:= λhv h=>by
  rcases dX hv with⟨i,t,rfl,rfl⟩|⟨x,t,rfl,rfl⟩
  . exact wpAny_pyHash_int h
  . exact wpAny_pyHash_str h
 eqBool:= λhu hv h=>by
  rcases dX hu with⟨i,t,rfl,rfl⟩|⟨x,t,rfl,rfl⟩
  . rcases dX hv with⟨j,u,rfl,rfl⟩|⟨y,u,rfl,rfl⟩
    . rw[zmp]at h;exact wpAny_eqBool_int h
    . rw[zmr]at h;exact SeqAt.EqAt.int_str i t y u _ _ _ _ h
  . rcases dX hv with⟨j,u,rfl,rfl⟩|⟨y,u,rfl,rfl⟩
    . rw[znt]at h;exact SeqAt.EqAt.str_int x t j u _ _ _ _ h
    . rw[zmg]at h;exact wpAny_eqBool_str h
 «strs»:= λk x t v h=>by
  rcases dX h with⟨i,u,rfl,e⟩|⟨y,u,rfl,e⟩
  . exact nomatch e
  . injection e with e1 _
    subst e1;cases v<;>rfl
theorem rM(prog:Program)(w:World)(i:Int)(t:Tok):(bN prog w).is (.inl i) (.int i t)=true:=zdS i t
theorem rF(prog:Program)(w:World)(x:Str)(t:Tok):(bN prog w).is (.inr x) (.str x t)=true:=zeK x t
inductive V where
 |non|bl (b:Bool)|int (i:Int)|str (x:Str)|byt (b:Array UInt8)|flt (b:UInt64)|ref (a:Addr)|ty (n:String)
 deriving DecidableEq
def bT:V->Value->Prop
 | .non,u=>u=Value.none
 | .bl b,u=>u=Value.bool b
 | .int i,u=> ∃t,u=Value.int i t
 | .str x,u=> ∃t,u=Value.str x t
 | .byt b,u=> ∃t,u=Value.bytes b t
 | .flt b,u=> ∃t,u=Value.float b t
 | .ref a,u=>u=Value.ref a
 | .ty n,u=>u=Value.type n
abbrev bP:List V->List Value->Prop:=Paired bT
theorem bP.length{xs:List V}{us:List Value}(r:bP xs us):xs.length=us.length:=Paired.length r
theorem bP.get: ∀{xs:List V} {us:List Value} {i:Nat} {x:V},bP xs us->xs[i]?=some x-> ∃u,us[i]?=some u/\bT x u
 |_,_,_,_,.nil,e=>by simp at e
 |_,_,0,_,.cons r _,e=>by simp at e;subst e;exact⟨_,rfl,r⟩
 |_,_,i+1,x,.cons _ t,e=>by
  obtain⟨u,h1,h2⟩:=bP.get (i:=i) (x:=x) t (by simpa using e);exact⟨u,by simpa using h1,h2⟩
theorem bP.set{x:V}{u:Value}(r:bT x u): ∀{xs:List V} {us:List Value} (i:Nat),bP xs us->bP (xs.set i x) (us.set i u)
 |_,_,_,.nil=> .nil
 |_,_,0,.cons _ t=> .cons r t
 |_,_,i+1,.cons q t=> .cons q (bP.set r i t)
theorem bP.append{xs ys:List V}{us ws:List Value}(h:bP xs us)(s:bP ys ws):bP (xs++ys) (us++ws):=by
 induction h with
 |nil=>exact s
 |cons r t ih=>exact .cons r ih
def nA:Option V->Option Value->Prop
 |some v,some u=>bT v u
 |none,none=>True
 |_,_=>False
def KV{κ:Type}:List (κ×V)->List (κ×Value)->Prop:=Paired λ(p:κ×V) (q:κ×Value)=>p.1=q.1/\bT p.2 q.2
def kV:dB->V
 | .inl i=> .int i
 | .inr x=> .str x
inductive HO where
 /-- a list -/
 |lst (xs:List V)
 /-- a tuple (never changes) -/
 |tup (xs:List V)
 /-- a dict whose keys are ints and texts;one whose keys are zhN of ints and texts (the empty one is both) -/
 |dK (bQ:List (dB×V))|dT (bQ:List (List dB×V))
 /-- a set of ints:bC members,bC size -/
 |set (S:Int->Bool) (n:Nat)
 /-- an instance of the class at C,bC dict at dx,bC attributes -/
 |ins (C dx:Addr) (fs:List (Str×V))
 /-- the dict of the instance at x -/
 |own (x:Addr)
 /-- the dict of an exception -/
 |xd (fs:List (Str×V))
 /-- a bound method,f of x -/
 |met (f x:Addr)
 /-- a range object lo,lo+1,.. below hi -/
 |rng (lo hi:Int)
 /-- a thing that is known to the object (the script;a dict while a tZ walks it):read,never written while it is so -/
 |frz (o:Obj) (u:HO)
 /-- a code object's table -/
 |tbl (ps:Array Value)
 /-- any other thing,by what is true of bC one object (a def of one's own:zxH a S n:=HO.ext λh=> ..) -/
 |ext (φ:Heap->Prop)
abbrev Hp:=Addr->Option HO
def aO(H:Hp)(a:Addr)(o:HO):Hp:= λb=>if b=a then some o else H b
theorem aF{H:Hp}{a:Addr}{o:HO}:aO H a o a=some o:=by unfold aO;rw[if_pos rfl]
theorem aG{H:Hp}{a b:Addr}{o:HO}(h:b≠a):aO H a o b=H b:=by unfold aO;rw[if_neg h]
theorem zjO{H:Hp}{a:Addr}{o u:HO}:aO (aO H a o) a u=aO H a u:=by
 funext b;unfold aO;split<;>rfl
theorem dO{H:Hp}{a b:Addr}{o u:HO}(h:H a=some o)(h':H b=some u)(d:o≠u):a≠b:=by
 intro e;subst e;rw[h]at h';exact d (Option.some.inj h')
theorem aI{H:Hp}{a b:Addr}{o:HO}(h:H a=some o)(h':H b=none):a≠b:=by
 intro e;subst e;rw[h]at h';cases h'
section
variable (P:Program)(w:World)
def dE(H:Hp)(h:Heap)(a:Addr):HO->Prop
 | .lst xs=>xs.length<=sizeLine/\ ∃(bC:List Value) (n:Nat),bP xs bC/\h.get? a=some {cls:= .type "list",data:= .seq bC.toArray n}
 | .tup xs=>xs.length<=sizeLine/\ ∃bC:List Value,bP xs bC/\IsTup h a bC.toArray
 | .dK bQ=>bQ.length<=sizeLine/\(a==sysModules)=false/\ ∃vs,KV bQ vs/\h.DictOf (bN P w) a vs
 | .dT bQ=>bQ.length<=sizeLine/\(a==sysModules)=false/\ ∃xs:List (List dB×Addr×Value),
  Paired (λ(p:List dB×V) (q:List dB×Addr×Value)=>p.1=q.1/\H q.2.1=some (.tup (p.1.map kV))/\bT p.2 q.2.2) bQ xs/\
  ∃o es ep,h.get? a=some o/\o.ExactDict/\o.data= .dict es ep/\es.toList=xs.map (entryOfKey (tupleKind (bN P w)))/\(xs.map (·.1)).Nodup
 | .set S n=>h.SetOf (intKind P w) a S n
 | .ins C dx fs=>H dx=some (.own a)/\fs.length<=1000/\dx≠a/\h.get? a=some (W.instObj C dx)/\
  ∃mA,h.Ns1 dx mA/\(∀f,nA (fs.lookup f) (mA f))/\PySem.Within mA (fs.map (·.1))
 | .own _=> ∃o,h.get? a=some o
 | .xd fs=> ∃mA,h.Ns1 a mA/\ ∀f,nA (fs.lookup f) (mA f)
 | .rng lo hi=> ∃t u v,h.get? a=some {cls:= .type "range",data:= .fields #[.int lo t,.int hi u,.int 1 v]}
 | .frz o u=>h.get? a=some o/\dE H h a u
 | .tbl ps=>h.get? a=some {cls:= .none,data:= .fields ps}
 | .met f x=>h.get? a=some (PySem.W.methodObj (.ref f) (.ref x))
 | .ext φ=>φ h/\(∃o,h.get? a=some o)/\ ∀h1 h2:Heap,φ h1->(∀o,h1.get? a=some o->h2.get? a=some o)->φ h2
def kU(H:Hp)(h:Heap):Prop:= ∀a o,H a=some o->dE P w H h a o
end
section
variable {P:Program}{w:World}{a:Addr}{o:HO}
theorem dE.lt(x:dE P w H h a o):a<h.objs.size:=by
 cases o with
 |lst xs=>obtain⟨_,_,_,_,e⟩:=x;exact Heap.lt_size e
 |tup xs=>obtain⟨_,_,_,p⟩:=x;exact p.lt
 |dK bQ=>obtain⟨_,_,_,_,o,_,_,e,_⟩:=x;exact Heap.lt_size e
 |dT bQ=>obtain⟨_,_,_,_,o,_,_,e,_⟩:=x;exact Heap.lt_size e
 |set S n=>obtain⟨o,_,_,_,e,_⟩:=x;exact Heap.lt_size e
 |ins C dx fs=>obtain⟨_,_,_,e,_⟩:=x;exact Heap.lt_size e
 |own y=>obtain⟨_,e⟩:=x;exact Heap.lt_size e
 |xd fs=>obtain⟨_,⟨_,_,_,e,_⟩,_⟩:=x;exact Heap.lt_size e
 |rng lo hi=>obtain⟨_,_,_,e⟩:=x;exact Heap.lt_size e
 |frz ob u=>obtain⟨e,_⟩:=x;exact Heap.lt_size e
 |tbl ps=>exact Heap.lt_size (show h.get? a=some _ from x)
 |met f y=>exact Heap.lt_size (show h.get? a=some _ from x)
 |ext φ=>obtain⟨_,⟨_,e⟩,_⟩:=x;exact Heap.lt_size e
theorem Paired.mapP{α β:Type}{F G:α->β->Prop}{l₁:List α}{l₂:List β}(h:Paired F l₁ l₂)(f: ∀a b,F a b->G a b):Paired G l₁ l₂:=by
 induction h with
 |nil=>exact .nil
 |cons r t ih=>exact .cons (f _ _ r) ih
theorem dE.stay(x:dE P w H h a o)(k: ∀b u,(b=a\/H b=some (.own a))->h.get? b=some u->h'.get? b=some u)
 (ho: ∀b,H b=some (.own a)->H' b=some (.own a)) (ht: ∀b xs,H b=some (.tup xs)->H' b=some (.tup xs)):dE P w H' h' a o:=by
 induction o with
 |lst xs=>obtain⟨z,bC,n,r,e⟩:=x;exact⟨z,bC,n,r,k _ _ (.inl rfl) e⟩
 |tup xs=>obtain⟨z,bC,r,ob,e,c⟩:=x;exact⟨z,bC,r,ob,k _ _ (.inl rfl) e,c⟩
 |dK bQ=>obtain⟨z,y,vs,r,ob,es,ep,e,c⟩:=x;exact⟨z,y,vs,r,ob,es,ep,k _ _ (.inl rfl) e,c⟩
 |dT bQ=>
  obtain⟨z,y,xs,r,ob,es,ep,e,c⟩:=x;exact⟨z,y,xs,Paired.mapP r λp q z=>⟨z.1,ht _ _ z.2.1,z.2.2⟩,ob,es,ep,k _ _ (.inl rfl) e,c⟩
 |set S n=>obtain⟨ob,es,ep,t,e,c⟩:=x;exact⟨ob,es,ep,t,k _ _ (.inl rfl) e,c⟩
 |ins C dx fs=>
  obtain⟨d,z,ne,e,mA,⟨od,es,ep,e2,c⟩,r⟩:=x;exact⟨ho _ d,z,ne,k _ _ (.inl rfl) e,mA,⟨od,es,ep,k _ _ (.inr d) e2,c⟩,r⟩
 |own y=>obtain⟨ob,e⟩:=x;exact⟨ob,k _ _ (.inl rfl) e⟩
 |xd fs=>obtain⟨mA,⟨od,es,ep,e,c⟩,r⟩:=x;exact⟨mA,⟨od,es,ep,k _ _ (.inl rfl) e,c⟩,r⟩
 |rng lo hi=>obtain⟨t,u,v,e⟩:=x;exact⟨t,u,v,k _ _ (.inl rfl) e⟩
 |frz ob u ih=>obtain⟨e,q⟩:=x;exact⟨k _ _ (.inl rfl) e,ih q⟩
 |tbl ps=>
  have e:h.get? a=some {cls:= .none,data:= .fields ps}:=x;show h'.get? a=some {cls:= .none,data:= .fields ps};exact k a _ (.inl rfl) e
 |met f y=>
  have e:h.get? a=some (PySem.W.methodObj (.ref f) (.ref y)):=x;show h'.get? a=some (PySem.W.methodObj (.ref f) (.ref y));exact k a _ (.inl rfl) e
 |ext φ=>obtain⟨p,⟨o,e⟩,st⟩:=x;exact⟨st _ _ p λo q=>k _ _ (.inl rfl) q,⟨o,k _ _ (.inl rfl) e⟩,st⟩
theorem kU.lt(x:kU P w H h)(e:H a=some o):a<h.objs.size:=(x a o e).lt
theorem kU.fresh(x:kU P w H h)(e:h.objs.size<=a):H a=none:=by
 cases q:H a with
 |none=>rfl
 |some u=>exact absurd (Nat.lt_of_lt_of_le (x.lt q) e) (Nat.lt_irrefl _)
theorem kU.kept(x:kU P w H h)(k: ∀b u,h.get? b=some u->h'.get? b=some u):kU P w H h':= λa o e=>
 (x a o e).stay (λb u _ q=>k b u q) (λ_ q=>q) λ_ _ q=>q
theorem kU.laid(x:kU P w H h)(k: ∀b u,h.get? b=some u->h'.get? b=some u)(hp:h.objs.size<=a)(new:dE P w (aO H a o) h' a o):kU P w (aO H a o) h':= λb u e=>by
 have hn:=x.fresh hp
 by_cases hb:b=a
 . subst hb;rw[aF]at e;cases e;exact new
 . rw[aG hb]at e;exact(x b u e).stay (λc v _ q=>k c v q) (λc q=>by rw[aG (aI q hn)];exact q) λc xs q=>by rw[aG (aI q hn)];exact q
end
def Rd(H:Hp)(a:Addr)(u:HO):Prop:=H a=some u\/ ∃o,H a=some (.frz o u)
theorem Rd.ok{P:Program}{w:World}{H:Hp}{h:Heap}{a:Addr}{u:HO}(r:Rd H a u)(x:kU P w H h):dE P w H h a u:=by
 rcases r with r|⟨o,r⟩
 . exact x a u r
 . obtain⟨_,q⟩:=x a _ r;exact q
def Mut:Option HO->Prop
 |some (.lst _)=>True
 |some (.dK _)=>True
 |some (.dT _)=>True
 |some (.set _ _)=>True
 |some (.ins _ _ _)=>True
 |some (.ext _)=>True
 |_=>False
section
variable {P:Program}{w:World}{x e:Addr}{o':HO}
theorem kU.write(ok:kU P w H h)(mu:Mut (H x))(he:e=x\/H e=some (.own x))(k: ∀b u,b≠e->h.get? b=some u->h'.get? b=some u)(heo: ∃u,h'.get? e=some u)
 (new:dE P w (aO H x o') h' x o'):kU P w (aO H x o') h':= λb u q=>by
 have zpX: ∀c y,H c=some (.own y)->c≠x:= λc y r z=>by subst z;rw[r]at mu;exact mu
 have zxV: ∀c xs,H c=some (.tup xs)->c≠x:= λc xs r z=>by subst z;rw[r]at mu;exact mu
 by_cases hb:b=x
 . subst hb;rw[aF]at q;cases q;exact new
 . rw[aG hb]at q
   by_cases hbe:b=e
   . have q':H b=some (.own x):=by
      rcases he with z|z
      . exact absurd (hbe.trans z) hb
      . rw[hbe];exact z
     rw[q]at q';cases q';obtain⟨v,hv⟩:=heo;exact⟨v,by rw[hbe];exact hv⟩
   . refine(ok b u q).stay (λc v hc r=>k c v ?_ r) (λc r=>by rw[aG (zpX c b r)];exact r) λc xs r=>by rw[aG (zxV c xs r)];exact r
     rcases hc with rfl|hc
     . exact hbe
     . rintro rfl
       rcases he with z|z
       . exact zpX c b hc z
       . rw[hc]at z;cases z;exact hb rfl
end
structure Un(fs ex:List Addr)(H H':Hp)(h h':Heap):Prop where
 keep: ∀b o,h.get? b=some o->H b=none->b∉fs->b∉ex->h'.get? b=some o
 slot: ∀b o,h.get? b=some o->H b=none->b∈fs->b∉ex-> ∃sl,h'.get? b=some {o with slots:=sl}
 free: ∀b o,h.get? b=some o->H b=none->b∉ex->H' b=none
 there: ∀b o,h.get? b=some o->b∉ex-> ∃o',h'.get? b=some o'
 tups: ∀b xs,H b=some (.tup xs)->H' b=some (.tup xs)
 frzs: ∀b o u,H b=some (.frz o u)->H' b=some (.frz o u)
 tbls: ∀b ps,H b=some (.tbl ps)-> ∃more,H' b=some (.tbl (ps++more))
section
variable {fs fs' ex ex':List Addr}{H1 H2:Hp}{h1 h2:Heap}{a x e:Addr}{o:HO}
theorem Un.any(u:Un fs ex H H1 h h1){b:Addr}{ob:Obj}(q:h.get? b=some ob)(n:H b=none)(hx:b∉ex): ∃sl,h1.get? b=some {ob with slots:=sl}:=by
 by_cases hb:b∈fs
 . exact u.slot b ob q n hb hx
 . exact⟨ob.slots,u.keep b ob q n hb hx⟩
theorem Un.kept(k: ∀b u,h.get? b=some u->h'.get? b=some u):Un fs ex H H h h':=
 ⟨λb ob q _ _ _=>k b ob q,λb ob q _ _ _=>⟨ob.slots,k b ob q⟩,λ_ _ _ n _=>n,λb ob q _=>⟨ob,k b ob q⟩,λ_ _ q=>q,λ_ _ _ q=>q,λ_ ps q=>⟨#[],by rw[q];simp⟩⟩
theorem Un.refl:Un fs ex H H h h:=Un.kept λ_ _ q=>q
theorem Un.laid(k: ∀b u,h.get? b=some u->h'.get? b=some u)(hp:h.objs.size<=a)(hn:H a=none):Un fs ex H (aO H a o) h h' where
 keep:= λb u q _ _ _=>k b u q
 slot:= λb u q _ _ _=>⟨u.slots,k b u q⟩
 free:= λb u q n _=>by rw[aG (Nat.ne_of_lt (Nat.lt_of_lt_of_le (Heap.lt_size q) hp))];exact n
 there:= λb u q _=>⟨u,k b u q⟩
 tups:= λb xs q=>by rw[aG (aI q hn)];exact q
 frzs:= λb u xs q=>by rw[aG (aI q hn)];exact q
 tbls:= λb ps q=>⟨#[],by rw[aG (aI q hn),q];simp⟩
theorem Un.write(mu:Mut (H x))(he:e=x\/H e=some (.own x))(k: ∀b u,b≠e->h.get? b=some u->h'.get? b=some u)(heo: ∃u,h'.get? e=some u):Un fs ex H (aO H x o) h h':=by
 have hx: ∀b,H b=none->b≠x:= λb n z=>by subst z;rw[n]at mu;exact mu
 have hb: ∀b,H b=none->b≠e:= λb n z=>by
  subst z
  rcases he with r|r
  . exact hx b n r
  . rw[n]at r;cases r
 have hm: ∀b u,H b=some u-> ¬Mut (some u)->b≠x:= λb u q nm z=>by subst z;rw[q]at mu;exact nm mu
 refine⟨λb u q n _ _=>k b u (hb b n) q,λb u q n _ _=>⟨u.slots,k b u (hb b n) q⟩,λb u q n _=>by rw[aG (hx b n)];exact n,λb u q _=> ?_,
  λb xs q=>by rw[aG (hm b _ q λz=>z)];exact q,λb u xs q=>by rw[aG (hm b _ q λz=>z)];exact q,λb ps q=>⟨#[],by rw[aG (hm b _ q λz=>z),q];simp⟩⟩
 by_cases hbe:b=e
 . subst hbe;exact heo
 . exact⟨u,k b u hbe q⟩
end
def trk(h:Heap)(H:Hp):List Addr:=(List.range h.objs.size).filter λa=>(H a).isSome
def vI(h:Heap)(H:Hp):Heap:=PySem.W.hideAll h (trk h H)
theorem zes(h:Heap)(H:Hp):(vI h H).objs.size=h.objs.size:=PySem.W.hideAll_size _ _
theorem zgU{h:Heap}{H:Hp}{b:Addr}{o:Obj}(e:h.get? b=some o)(n:H b=none):(vI h H).get? b=some o:=
 PySem.W.hideAll_get _ e λhm=>by
  have q:(H b).isSome=true:=(List.mem_filter.mp hm).2;rw[n]at q;simp at q
theorem zjU{h:Heap}{H:Hp}{b:Addr}{o:Obj}(e:(vI h H).get? b=some o):h.get? b=some o/\H b=none:=by
 have e':h.get? b=some o:=PySem.W.of_hideAll (trk h H) e
 refine⟨e',?_⟩
 cases q:H b with
 |none=>rfl
 |some x=>
  have hm:b∈trk h H:=List.mem_filter.mpr ⟨List.mem_range.mpr (Heap.lt_size e'),by simp[q]⟩;have z:(vI h H).get? b=none:=PySem.W.hideAll_none (trk h H) hm;rw[z]at e;cases e
def ziV(g h:Heap)(L:Addr):List (Addr×Obj):=(List.range h.objs.size).filterMap λa=>if a=L\/(g.get? a).isSome=true then none else(h.get? a).map λo=>(a,o)
def rest(g h:Heap)(L d:Addr):List (Addr×Obj):=(ziV g h L).filter λp=>decide (p.1≠d)
structure Mod(K:W.Frag)(mg:Str->Option Value)(base:Heap):Prop where
 kin:K.In base
 glob:base.Ns mainGlobals mg
 blt: ∃mb,base.Ns builtinsNs mb/\ ∀x:Str,x≠ "__name__" ->mb x=bootBuiltins x
 nolimit:base.NoLimit
structure Cx where
 prog:Program
 w:World
 K:W.Frag
 mg:Str->Option Value
 base:Heap
 A:Around
 N:List Str
 s₀:Shared
 H₀:Hp
 env:Env
 outer:List Env
 stack:List Env
 ex:List Addr
 fn:Str->Bool
 calm:Bool
 pn:List (Addr×Obj)
 xe:Value->Shared->Prop
def frs(l:List Env):List Addr:=l.filterMap (·.frame)
abbrev Cx.fs(X:Cx):List Addr:=frs X.outer
def Vis(sc:Scope)(x:Str):Prop:=sc.names.lookup x=some .local\/sc.names.lookup x=some .cell\/sc.names.lookup x=some .free
def Loc(sc:Scope)(x:Str):Prop:=sc.names.lookup x=some .local\/sc.names.lookup x=some .cell
def zwz(env:Env)(h:Heap)(m:Str->Option Value)(x:Str)(u:Value):Prop:=
 (env.kindOf x=some .local/\m x=some u)\/((env.kindOf x=some .cell\/env.kindOf x=some .free)/\ ∃c,env.cells.lookup x=some c/\h.IsCell c (some u))
structure Cx.Ok(X:Cx):Prop where
 mod:Mod X.K X.mg X.base
 kind:X.env.scope.kind= .function
 glob:X.env.globals=mainGlobals
 blt:X.env.builtins=builtinsNs
 above:X.s₀.heap.objs.size<=X.env.locals
 inj: ∀x y c,X.env.cells.lookup x=some c->X.env.cells.lookup y=some c->x=y
 has: ∀x,(X.env.kindOf x=some .cell\/X.env.kindOf x=some .free)-> ∃c,X.env.cells.lookup x=some c
 cab: ∀x c,X.fn x=true->X.env.cells.lookup x=some c->X.s₀.heap.objs.size<=c
 hd:X.calm=true->X.A.handled=none
 frames:X.A.frames=some X.stack
 stk:X.stack=X.outer\/(X.stack=X.env::X.outer/\X.env.frame=some X.env.locals)
 exf: ∀b∈X.ex,b≠X.env.locals/\ ∀x c,X.env.cells.lookup x=some c->c≠b
 bs: ∀b o,X.base.get? b=some o->X.s₀.heap.get? b=some o/\X.H₀ b=none
 bsz:X.base.objs.size<=X.s₀.heap.objs.size
 noex: ∀b o,X.base.get? b=some o->b∉X.ex
 exfs: ∀b∈X.ex,b∉X.fs
 funs:X.s₀.heap.FunFrames X.base X.outer
 frf: ∀b∈X.fs,X.H₀ b=none
structure aX(X:Cx)(aB:List (Addr×Obj))(σ:List (Option V))(H:Hp)(s:Shared):Prop where
 ok:X.Ok
 os:s.os=X.s₀.os
 bare:AllBare s.gens
 base:Un X.fs X.ex X.H₀ H X.s₀.heap s.heap
 loc: ∃m,s.heap.Ns X.env.locals m/\ ∀(i:Nat) (x:Str) (v:V),X.N[i]?=some x->σ[i]?=some (some v)->Vis X.env.scope x-> ∃u,bT v u/\zwz X.env s.heap m x u
 cell: ∀x c,X.env.cells.lookup x=some c-> ∃v,s.heap.IsCell c v
 free:H X.env.locals=none
 freeC: ∀x c,X.env.cells.lookup x=some c->H c=none
 pin: ∀p∈X.pn++aB,s.heap.get? p.1=some p.2/\H p.1=none/\p.1≠X.env.locals/\p.1∉X.fs/\ ∀v,p.2.data≠ .cell v
 hok:kU X.prog X.w H s.heap
 len:σ.length=X.N.length
section
variable {σ:List (Option V)}
theorem Cx.Ok.nofr(ok:X.Ok){b:Addr}{o:Obj}(e:X.base.get? b=some o):b∉X.fs:= λhb=>by
 have:=(ok.funs.mem hb).1
 rw[e]at this;cases this
theorem aX.bs(I:aX X aB σ H s): ∀b o,X.base.get? b=some o->s.heap.get? b=some o/\H b=none:= λb o e=>
 ⟨I.base.keep b o (I.ok.bs b o e).1 (I.ok.bs b o e).2 (I.ok.nofr e) (I.ok.noex b o e),I.base.free b o (I.ok.bs b o e).1 (I.ok.bs b o e).2 (I.ok.noex b o e)⟩
theorem aX.bk(I:aX X aB σ H s): ∀b o,X.base.get? b=some o->s.heap.get? b=some o:= λb o e=>(I.bs b o e).1
theorem aX.mod(I:aX X aB σ H s):Mod X.K X.mg X.base:=I.ok.mod
theorem aX.kIn(I:aX X aB σ H s):X.K.In s.heap:=I.ok.mod.kin.keeps I.bk
theorem aX.lt(I:aX X aB σ H s):X.env.locals<s.heap.objs.size:=let⟨_,hn,_⟩:=I.loc;hn.lt
theorem aX.sz(I:aX X aB σ H s):X.s₀.heap.objs.size<=s.heap.objs.size:=Nat.le_trans I.ok.above (Nat.le_of_lt I.lt)
theorem aX.nofs(I:aX X aB σ H s){a:Addr}(h:s.heap.objs.size<=a):a∉X.fs:= λhb=>by
 obtain⟨_,o,ho,_⟩:=I.ok.funs.mem hb
 exact absurd (Nat.lt_of_lt_of_le (Heap.lt_size ho) (Nat.le_trans I.sz h)) (Nat.lt_irrefl _)
theorem aX.cne(I:aX X aB σ H s): ∀x c,X.env.cells.lookup x=some c->c≠X.env.locals:= λx c e z=>by
 obtain⟨v,o,ho,hd⟩:=I.cell x c e
 obtain⟨m,⟨o',es,ep,ho',hd',_⟩,_⟩:=I.loc
 rw[z,ho']at ho;cases ho;rw[hd']at hd;cases hd
theorem aX.funs(I:aX X aB σ H s):s.heap.FunFrames X.base X.outer:=by
 have all: ∀(l:List Env),(∀b∈frs l,b∈X.fs)->X.s₀.heap.FunFrames X.base l->s.heap.FunFrames X.base l:=by
  intro l
  induction l with
  |nil=>intro _ _;trivial
  |cons env r ih=>
   intro hs hl;obtain⟨hk,⟨L,o,hf,hn,ho,hd⟩,hr⟩:=hl;have hL:L∈X.fs:=hs L (by unfold frs;rw[List.filterMap_cons,hf];exact List.mem_cons_self);obtain⟨sl,e⟩:=I.base.slot L o ho (I.ok.frf L hL) hL λz=>I.ok.exfs L z hL;exact⟨hk,⟨L,_,hf,hn,e,hd⟩,ih (λb hb=>hs b (by unfold frs;rw[List.filterMap_cons,hf];exact List.mem_cons_of_mem _ hb)) hr⟩
 exact all X.outer (λ_ hb=>hb) I.ok.funs
theorem aX.stack(I:aX X aB σ H s):s.heap.FunFrames X.base X.stack:=by
 rcases I.ok.stk with e|⟨e,hf⟩
 . rw[e];exact I.funs
 . rw[e];obtain⟨m,hn,_⟩:=I.loc;refine .cons (by rw[I.ok.kind];decide) hf hn ?_ I.funs;exact Heap.get?_none_of_le (Nat.le_trans I.ok.bsz I.ok.above)
theorem aX.stkSub(I:aX X aB σ H s): ∀b∈frs X.stack,b∈X.env.locals::X.fs:= λb hb=>by
 rcases I.ok.stk with e|⟨e,hf⟩
 . rw[e]at hb;exact List.mem_cons_of_mem _ hb
 . rw[e]at hb;unfold frs at hb;rw[List.filterMap_cons,hf]at hb;exact hb
theorem aX.stkFree(I:aX X aB σ H s): ∀b∈frs X.stack,H b=none:= λb hb=>by
 rcases List.mem_cons.mp (I.stkSub b hb)with e|hb
 . rw[e];exact I.free
 . obtain⟨_,o,ho,_⟩:=I.ok.funs.mem hb;exact I.base.free b o ho (I.ok.frf b hb) λz=>I.ok.exfs b z hb
theorem aX.step{g':Array GenState}{t':Nat}{d':Drawn}{ch:List Addr}(I:aX X aB σ H s)
 (zN: ∀b∈ch,(b∈X.ex\/X.s₀.heap.objs.size<=b)/\b≠X.env.locals/\(∀x c,X.env.cells.lookup x=some c->c≠b)/\ ∀p∈X.pn++aB,p.1≠b)
 (keep: ∀b o,b≠X.env.locals->b∉X.fs->b∉ch->s.heap.get? b=some o->H b=none->h'.get? b=some o)
 (slot: ∀b o,b≠X.env.locals->b∈X.fs->b∉ch->s.heap.get? b=some o->H b=none-> ∃sl,h'.get? b=some {o with slots:=sl}) (free: ∀b o,b∉ch->s.heap.get? b=some o->H b=none->H' b=none)
 (there: ∀b o,b∉ch->s.heap.get? b=some o-> ∃o',h'.get? b=some o')
 (tups: ∀b xs,H b=some (.tup xs)->H' b=some (.tup xs)) (frzs: ∀b o u,H b=some (.frz o u)->H' b=some (.frz o u)) (tbls: ∀b ps,H b=some (.tbl ps)-> ∃more,H' b=some (.tbl (ps++more)))
 (ns: ∀m,s.heap.Ns X.env.locals m->h'.Ns X.env.locals m) (hok:kU X.prog X.w H' h') (hg:AllBare g'):
 aX X aB σ H' {s with heap:=h',gens:=g',drawn:=d',toks:=t'}:=by
 have neL: ∀b o,X.s₀.heap.get? b=some o->b≠X.env.locals:= λb o e=>Nat.ne_of_lt (Nat.lt_of_lt_of_le (Heap.lt_size e) I.ok.above)
 have neC: ∀b o,X.s₀.heap.get? b=some o->b∉X.ex->b∉ch:= λb o e hx hb=>by
  rcases(zN b hb).1 with z|z
  . exact hx z
  . exact absurd (Nat.lt_of_lt_of_le (Heap.lt_size e) z) (Nat.lt_irrefl _)
 have zkr: ∀x c,X.env.cells.lookup x=some c-> ∀v,s.heap.IsCell c v->h'.IsCell c v:= λx c e v ⟨o,ho,hd⟩=>by
  have nch:c∉ch:= λz=>(zN c z).2.2.1 x c e rfl
  by_cases hc:c∈X.fs
  . obtain⟨sl,q⟩:=slot c o (I.cne x c e) hc nch ho (I.freeC x c e);exact⟨_,q,hd⟩
  . exact⟨o,keep c o (I.cne x c e) hc nch ho (I.freeC x c e),hd⟩
 refine⟨I.ok,I.os,hg,⟨λb o e n hb hx=> ?_,λb o e n hb hx=> ?_,λb o e n hx=> ?_,λb o e hx=> ?_,λb xs e=>tups b xs (I.base.tups b xs e),λb o xs e=>frzs b o xs (I.base.frzs b o xs e),λb ps e=> ?_⟩,?_,λx c e=> ?_,?_,λx c e=> ?_,λp hp=> ?_,hok,I.len⟩
 . exact keep b o (neL b o e) hb (neC b o e hx) (I.base.keep b o e n hb hx) (I.base.free b o e n hx)
 . obtain⟨sl,e1⟩:=I.base.slot b o e n hb hx;obtain⟨sl',e2⟩:=slot b _ (neL b o e) hb (neC b o e hx) e1 (I.base.free b o e n hx);exact⟨sl',e2⟩
 . obtain⟨o',e1⟩:=I.base.there b o e hx;exact free b o' (neC b o e hx) e1 (I.base.free b o e n hx)
 . obtain⟨o',e1⟩:=I.base.there b o e hx;exact there b o' (neC b o e hx) e1
 . obtain⟨m1,e1⟩:=I.base.tbls b ps e;obtain⟨m2,e2⟩:=tbls b _ e1;exact⟨m1++m2,by rw[e2,Array.append_assoc]⟩
 . obtain⟨m,hn,hl⟩:=I.loc;refine⟨m,ns m hn,λi x v e1 e2 e3=> ?_⟩;obtain⟨u,r,l⟩:=hl i x v e1 e2 e3;refine⟨u,r,?_⟩
   rcases l with l|⟨k,c,e,z⟩
   . exact .inl l
   . exact .inr ⟨k,c,e,zkr x c e _ z⟩
 . obtain⟨v,z⟩:=I.cell x c e;exact⟨v,zkr x c e v z⟩
 . obtain⟨m,⟨o,_,_,ho,_⟩,_⟩:=I.loc;exact free _ o (λz=>(zN _ z).2.1 rfl) ho I.free
 . obtain⟨v,o,ho,hd⟩:=I.cell x c e;exact free c o (λz=>(zN c z).2.2.1 x c e rfl) ho (I.freeC x c e)
 . obtain⟨e,n,ne,nf,d⟩:=I.pin p hp;have nch:p.1∉ch:= λz=>(zN p.1 z).2.2.2 p hp rfl;exact⟨keep p.1 p.2 ne nf nch e n,free p.1 p.2 nch e n,ne,nf,d⟩
theorem aX.un{t':Nat}(I:aX X aB σ H s)(u:Un X.fs [] H H' s.heap h')(hok:kU X.prog X.w H' h'):aX X aB σ H' {s with heap:=h',toks:=t'}:=by
 obtain⟨m,⟨o,es,ep,ho,r⟩,_⟩:=id I.loc
 obtain⟨sl,hL⟩:=u.any ho I.free (by simp)
 exact I.step (g':=s.gens) (d':=s.drawn) (ch:=[]) (λ_ z=>nomatch z) (λb o _ hb _ e n=>u.keep b o e n hb (by simp)) (λb o _ hb _ e n=>u.slot b o e n hb (by simp)) (λb o _ e n=>u.free b o e n (by simp)) (λb o _ e=>u.there b o e (by simp)) u.tups u.frzs u.tbls (λm' hm=>by
  obtain⟨o',es',ep',ho',r'⟩:=hm;rw[ho]at ho';cases ho';exact⟨_,es',ep',hL,r'⟩) hok I.bare
theorem aX.call{g':Array GenState}{t':Nat}{d':Drawn}{ch:List Addr}(I:aX X aB σ H s)(u:Un (frs X.stack) ch H H' s.heap h')(hok:kU X.prog X.w H' h')(hg:AllBare g')
 (zN: ∀b∈ch,(b∈X.ex\/X.s₀.heap.objs.size<=b)/\b≠X.env.locals/\(∀x c,X.env.cells.lookup x=some c->c≠b)/\ ∀p∈X.pn++aB,p.1≠b):
 aX X aB σ H' {s with heap:=h',gens:=g',drawn:=d',toks:=t'}:=by
 obtain⟨m,⟨o,es,ep,ho,r⟩,_⟩:=id I.loc
 obtain⟨sl,hL⟩:=u.any ho I.free λz=>(zN _ z).2.1 rfl
 exact I.step (ch:=ch) zN (λb o hL hb hc e n=>u.keep b o e n (λz=>(List.mem_cons.mp (I.stkSub b z)).elim hL hb) hc) (λb o _ _ hc e n=>u.any e n hc) (λb o hc e n=>u.free b o e n hc) (λb o hc e=>u.there b o e hc) u.tups u.frzs u.tbls (λm' hm=>by
  obtain⟨o',es',ep',ho',r'⟩:=hm;rw[ho]at ho';cases ho';exact⟨_,es',ep',hL,r'⟩) hok hg
theorem aX.turned{t':Nat}{it:Addr}(I:aX X aB σ H s)(k: ∀b o,b≠it->s.heap.get? b=some o->h'.get? b=some o)(hn:H it=none)(hL:it≠X.env.locals)
 (h1:it∈X.ex\/X.s₀.heap.objs.size<=it) (h2: ∀x c,X.env.cells.lookup x=some c->c≠it) (h3: ∀p∈X.pn++aB,p.1≠it):aX X aB σ H {s with heap:=h',toks:=t'}:=by
 have nit: ∀b u,H b=some u->b≠it:= λb u e z=>by rw[z,hn]at e;cases e
 refine I.step (g':=s.gens) (d':=s.drawn) (ch:=[it]) (λb hb=> ?_) (λb o _ _ hc e _=>k b o (λz=>hc (by simp[z])) e) (λb o _ _ hc e _=>⟨o.slots,k b o (λz=>hc (by simp[z])) e⟩) (λ_ _ _ _ n=>n)
  (λb o hc e=>⟨o,k b o (λz=>hc (by simp[z])) e⟩) (λ_ _ e=>e) (λ_ _ _ e=>e) (λb ps e=>⟨#[],by rw[e];simp⟩) (λm hm=> ?_) (λb u e=> ?_) I.bare
 . have e:b=it:=by simpa using hb
   subst e;exact⟨h1,hL,h2,h3⟩
 . obtain⟨o,es,ep,ho,r⟩:=hm;exact⟨o,es,ep,k _ o (Ne.symm hL) ho,r⟩
 . refine(I.hok b u e).stay (λc v hc q=>k c v ?_ q) (λ_ q=>q) λ_ _ q=>q
   rcases hc with z|z
   . rw[z];exact nit b u e
   . exact nit c _ z
theorem aX.tok(I:aX X aB σ H s)(t:Nat):aX X aB σ H {s with toks:=t}:=I.un (h':=s.heap) (t':=t) Un.refl I.hok
theorem aX.kept{t':Nat}(I:aX X aB σ H s)(k: ∀b u,s.heap.get? b=some u->h'.get? b=some u):aX X aB σ H {s with heap:=h',toks:=t'}:=I.un (Un.kept k) (I.hok.kept k)
theorem aX.laid{a:Addr}{o:HO}{t':Nat}(I:aX X aB σ H s)(k: ∀b u,s.heap.get? b=some u->h'.get? b=some u)(hp:s.heap.objs.size<=a)(new:dE X.prog X.w (aO H a o) h' a o):
 aX X aB σ (aO H a o) {s with heap:=h',toks:=t'}:=I.un (Un.laid k hp (I.hok.fresh hp)) (I.hok.laid k hp new)
theorem aX.write{x e:Addr}{o:HO}{t':Nat}(I:aX X aB σ H s)(mu:Mut (H x))(he:e=x\/H e=some (.own x))(k: ∀b u,b≠e->s.heap.get? b=some u->h'.get? b=some u)(heo: ∃u,h'.get? e=some u)
 (new:dE X.prog X.w (aO H x o) h' x o):aX X aB σ (aO H x o) {s with heap:=h',toks:=t'}:=I.un (Un.write mu he k heo) (I.hok.write mu he k heo new)
theorem aX.pins_of{zlG:List (Addr×Obj)}(I:aX X aB σ H s)(h: ∀p∈zlG,s.heap.get? p.1=some p.2/\H p.1=none/\p.1≠X.env.locals/\p.1∉X.fs/\ ∀v,p.2.data≠ .cell v):aX X zlG σ H s:=
 ⟨I.ok,I.os,I.bare,I.base,I.loc,I.cell,I.free,I.freeC,λp hp=>(List.mem_append.mp hp).elim (λz=>I.pin p (List.mem_append_left _ z)) (h p),I.hok,I.len⟩
theorem j5{N:List Str}(hN:N.Nodup){i j:Nat}{x:Str}(a:N[i]?=some x)(b:N[j]?=some x):i=j:=by
 obtain⟨h1,e1⟩:=List.getElem?_eq_some_iff.mp a
 obtain⟨h2,e2⟩:=List.getElem?_eq_some_iff.mp b
 exact(List.getElem_inj hN).mp (e1.trans e2.symm)
theorem zec{M:Model}{A:Around}{E:Value->Shared->Prop}{i:Nat}{x:Str}{v:V}{u:Value}{Q:Unit->Shared->Prop}(I:aX X aB σ H s)(hN:X.N.Nodup)(hi:X.N[i]?=some x)(hx:Loc X.env.scope x)(r:bT v u)
 (h: ∀s',aX X aB (σ.set i (some v)) H s'->(∃a,Heap.SameBut a s.heap s'.heap/\(a=X.env.locals\/X.env.cells.lookup x=some a))->Q () s') (hf:X.fn x=true\/X.env.scope.names.lookup x=some .local:=by first|exact .inl rfl|exact .inr rfl|assumption):wpAny M A (storeName X.env x u) Q E s:=by
 obtain⟨m,hn,hl⟩:=id I.loc
 have zxM:(X.env.scope.kind== .class||(X.env.scope.kind== .module&&X.env.locals != X.env.globals))=false:=by rw[I.ok.kind];rfl
 have zzR:i<σ.length:=by rw[I.len];exact(List.getElem?_eq_some_iff.mp hi).1
 have cne:=I.cne
 have zcd: ∀{a:Addr} {h':Heap},(∃o,s.heap.get? a=some o/\H a=none)->Heap.SameBut a s.heap h'->kU X.prog X.w H h':= λ{a h'} ha hs b ob e=>by
  obtain⟨_,_,gF⟩:=ha;refine(I.hok b ob e).stay (λc w' hc q=>(hs.2 c ?_).trans q) (λ_ q=>q) λ_ _ q=>q;rintro rfl
  rcases hc with rfl|hc
  . rw[gF]at e;cases e
  . rw[gF]at hc;cases hc
 rcases hx with hk|hk
 . refine wpAny_storeName_local hk hn (λh' hn' hs=> ?_) zxM;obtain⟨oL,_,_,hoL,_⟩:=id hn;refine h _ ⟨I.ok,I.os,I.bare,⟨λb o e n hb hx=> ?_,λb o e n hb hx=> ?_,I.base.free,λb o e hx=> ?_,I.base.tups,I.base.frzs,I.base.tbls⟩,⟨_,hn',λj y v' e1 e2 e3=> ?_⟩,λy c e=> ?_,I.free,I.freeC,λp hp=> ?_,zcd ⟨oL,hoL,I.free⟩ hs,by simpa using I.len⟩ ⟨_,hs,.inl rfl⟩
   . exact(hs.2 b (Nat.ne_of_lt (Nat.lt_of_lt_of_le (Heap.lt_size e) I.ok.above))).trans (I.base.keep b o e n hb hx)
   . obtain⟨sl,e1⟩:=I.base.slot b o e n hb hx;exact⟨sl,(hs.2 b (Nat.ne_of_lt (Nat.lt_of_lt_of_le (Heap.lt_size e) I.ok.above))).trans e1⟩
   . obtain⟨o',e1⟩:=I.base.there b o e hx;exact⟨o',(hs.2 b (Nat.ne_of_lt (Nat.lt_of_lt_of_le (Heap.lt_size e) I.ok.above))).trans e1⟩
   . by_cases hj:j=i
     . subst hj;rw[hi]at e1;cases e1;rw[List.getElem?_set_self zzR]at e2;cases e2;exact⟨u,r,.inl ⟨hk,by simp⟩⟩
     . rw[List.getElem?_set_ne (Ne.symm hj)]at e2;obtain⟨u',r',q⟩:=hl j y v' e1 e2 e3;refine⟨u',r',?_⟩
       rcases q with⟨k,e⟩|⟨k,c,e,z⟩
       . refine .inl ⟨k,?_⟩;have:y≠x:= λe=>hj (j5 hN e1 (e▸hi));simp[this,e]
       . exact .inr ⟨k,c,e,z.sameBut hs (cne y c e)⟩
   . obtain⟨w',z⟩:=I.cell y c e;exact⟨w',z.sameBut hs (cne y c e)⟩
   . obtain⟨e,n,ne,nf,d⟩:=I.pin p hp;exact⟨(hs.2 p.1 ne).trans e,n,ne,nf,d⟩
 . have hfn:X.fn x=true:=by
    rcases hf with z|z
    . exact z
    . rw[z]at hk;cases hk
   obtain⟨c,hc⟩:=I.ok.has x (.inl hk);obtain⟨w',z⟩:=I.cell x c hc;refine wpAny_storeName_cell I.ok.kind hk hc z (λh' hc' hs=> ?_);obtain⟨oc,hoc,zwT⟩:=id z;refine h {s with heap:=h'} ⟨I.ok,I.os,I.bare,⟨λb o e n hb hx=> ?_,λb o e n hb hx=> ?_,I.base.free,λb o e hx=> ?_,I.base.tups,I.base.frzs,I.base.tbls⟩,⟨m,hn.sameBut hs (Ne.symm (cne x c hc)),λj y v' e1 e2 e3=> ?_⟩,λy c' e=> ?_,I.free,I.freeC,λp hp=> ?_,zcd ⟨oc,hoc,I.freeC x c hc⟩ hs,by simpa using I.len⟩ ⟨c,hs,.inr hc⟩
   . exact(hs.2 b (Nat.ne_of_lt (Nat.lt_of_lt_of_le (Heap.lt_size e) (I.ok.cab x c hfn hc)))).trans (I.base.keep b o e n hb hx)
   . obtain⟨sl,e1⟩:=I.base.slot b o e n hb hx;exact⟨sl,(hs.2 b (Nat.ne_of_lt (Nat.lt_of_lt_of_le (Heap.lt_size e) (I.ok.cab x c hfn hc)))).trans e1⟩
   . obtain⟨o',e1⟩:=I.base.there b o e hx;exact⟨o',(hs.2 b (Nat.ne_of_lt (Nat.lt_of_lt_of_le (Heap.lt_size e) (I.ok.cab x c hfn hc)))).trans e1⟩
   . by_cases hj:j=i
     . subst hj;rw[hi]at e1;cases e1;rw[List.getElem?_set_self zzR]at e2;cases e2;exact⟨u,r,.inr ⟨.inl hk,c,hc,hc'⟩⟩
     . rw[List.getElem?_set_ne (Ne.symm hj)]at e2;obtain⟨u',r',q⟩:=hl j y v' e1 e2 e3;refine⟨u',r',?_⟩
       rcases q with q|⟨k,c',e,z'⟩
       . exact .inl q
       . refine .inr ⟨k,c',e,z'.sameBut hs ?_⟩;rintro rfl;exact hj (j5 hN e1 (I.ok.inj _ _ _ e hc▸hi))
   . by_cases hcc:c'=c
     . subst hcc;exact⟨_,hc'⟩
     . obtain⟨w2,z2⟩:=I.cell y c' e;exact⟨w2,z2.sameBut hs hcc⟩
   . obtain⟨e,n,ne,nf,d⟩:=I.pin p hp;refine⟨(hs.2 p.1 ?_).trans e,n,ne,nf,d⟩;intro q;rw[q,hoc]at e;have q':oc=p.2:=Option.some.inj e;exact d w' (by rw[<-q'];exact zwT)
theorem gC{M:Model}{A:Around}{E:Value->Shared->Prop}{i:Nat}{x:Str}{v:V}{u:Value}{Q:Unit->Shared->Prop}(I:aX X aB σ H s)(hN:X.N.Nodup)(hi:X.N[i]?=some x)(hx:Loc X.env.scope x)(r:bT v u)
 (h: ∀s',aX X aB (σ.set i (some v)) H s'->Q () s') (hf:X.fn x=true\/X.env.scope.names.lookup x=some .local:=by first|exact .inl rfl|exact .inr rfl|assumption):wpAny M A (storeName X.env x u) Q E s:=
 zec I hN hi hx r (λs' I' _=>h s' I') hf
theorem aX.call'{s':Shared}{ch:List Addr}(I:aX X aB σ H s)(ho:s'.os=s.os)(u:Un (frs X.stack) ch H H' s.heap s'.heap)(hok:kU X.prog X.w H' s'.heap)(hg:AllBare s'.gens)
 (zN: ∀b∈ch,(b∈X.ex\/X.s₀.heap.objs.size<=b)/\b≠X.env.locals/\(∀x c,X.env.cells.lookup x=some c->c≠b)/\ ∀p∈X.pn++aB,p.1≠b):aX X aB σ H' s':=by
 obtain⟨h',g',d',t',o'⟩:=s'
 have e:o'=s.os:=ho
 subst e
 exact I.call (g':=g') (t':=t') (d':=d') u hok hg zN
end
abbrev XK:=Value->Option Addr->Hp->Prop
abbrev St:=List (Option V)
abbrev VK:=V->Hp->Prop
abbrev TE:=St->Hp->VK->Prop
abbrev TT:=St->Hp->(Bool->Hp->Prop)->Prop
abbrev TA:=St->Hp->(List V->Hp->Prop)->Prop
structure fH where
 nx:St->Hp->Prop
 rt:VK
 bk:St->Hp->Prop:= λ_ _=>False
 ct:St->Hp->Prop:= λ_ _=>False
abbrev TS:=fH->St->Hp->Prop
def EP(X:Cx)(aB:List (Addr×Obj))(σ:St)(Q:VK)(u:Value)(s':Shared):Prop:= ∃v H',aX X aB σ H' s'/\bT v u/\Q v H'
def TP(X:Cx)(aB:List (Addr×Obj))(σ:St)(Q:Bool->Hp->Prop)(b:Bool)(s':Shared):Prop:= ∃H',aX X aB σ H' s'/\Q b H'
def AP(X:Cx)(aB:List (Addr×Obj))(σ:St)(Q:List V->Hp->Prop)(us:List Value)(s':Shared):Prop:= ∃vs H',aX X aB σ H' s'/\bP vs us/\Q vs H'
def SP(X:Cx)(aB:List (Addr×Obj))(D:fH)(f:Flow)(s':Shared):Prop:=
 match f with
 | .next=> ∃σ' H',aX X aB σ' H' s'/\D.nx σ' H'
 | .brk=> ∃σ' H',aX X aB σ' H' s'/\D.bk σ' H'
 | .cont=> ∃σ' H',aX X aB σ' H' s'/\D.ct σ' H'
 | .ret u=> ∃v σ' H',aX X aB σ' H' s'/\bT v u/\D.rt v H'
def PE(X:Cx)(e:Expr)(t:TE):Prop:=
 ∀(aB:List (Addr×Obj)) (s:Shared) (σ:St) (H:Hp) (Q:VK),aX X aB σ H s->t σ H Q->wpAny (model X.prog X.w) X.A (eval e X.env) (EP X aB σ Q) X.xe s
def PT(X:Cx)(e:Expr)(t:TT):Prop:=
 ∀(aB:List (Addr×Obj)) (s:Shared) (σ:St) (H:Hp) (Q:Bool->Hp->Prop),aX X aB σ H s->t σ H Q->wpAny (model X.prog X.w) X.A (isTrue e X.env (eval e X.env)) (TP X aB σ Q) X.xe s
def PW(X:Cx)(e:Expr)(t:TT):Prop:=
 ∀(zcM:Sem Value) (aB:List (Addr×Obj)) (s:Shared) (σ:St) (H:Hp) (Q:Bool->Hp->Prop),aX X aB σ H s->t σ H Q->wpAny (model X.prog X.w) X.A (isTrue e X.env zcM) (TP X aB σ Q) X.xe s
theorem PW.pt{X:Cx}{e:Expr}{t:TT}(h:PW X e t):PT X e t:=h _
def PA(X:Cx)(es:List Expr)(t:TA):Prop:=
 ∀(pos:Pos) (aB:List (Addr×Obj)) (s:Shared) (σ:St) (H:Hp) (Q:List V->Hp->Prop),aX X aB σ H s->t σ H Q->wpAny (model X.prog X.w) X.A (spliced (backTo pos (starEach es X.env))) (AP X aB σ Q) X.xe s
def PS(X:Cx)(st:Stmt)(t:TS):Prop:=
 ∀(aB:List (Addr×Obj)) (s:Shared) (σ:St) (H:Hp) (D:fH),aX X aB σ H s->t D σ H->wpAny (model X.prog X.w) X.A (exec st X.env) (SP X aB D) X.xe s
def vS(X:Cx)(st:List Stmt)(t:TS):Prop:=
 ∀(aB:List (Addr×Obj)) (s:Shared) (σ:St) (H:Hp) (D:fH),aX X aB σ H s->t D σ H->wpAny (model X.prog X.w) X.A (execs st X.env) (SP X aB D) X.xe s
theorem dP{α:Type}{t:Sem α}{Q Q':α->Shared->Prop}{M:Model}{A:Around}{E:Value->Shared->Prop}{s:Shared}(h:wpAny M A t Q E s)(hQ: ∀a s,Q a s->Q' a s):wpAny M A t Q' E s:=wpAny_mono h hQ λ_ _ x=>x
section
def aL(i:Nat):TE:= λσ H Q=> ∃v,σ[i]?=some (some v)/\Q v H
def tC(v:V):TE:= λ_ H Q=>Q v H
theorem znh{i:Nat}{x:Str}{pos:Pos}(hN:X.N[i]?=some x)(hv:Vis X.env.scope x)(hd:(x==("__debug__" :Str))=false:=by decide)(vC:(x==("__classdict__" :Str))=false:=by decide):PE X (.Name x pos) (aL i):=by
 intro aB s σ H Q I h
 obtain⟨v,e,h⟩:=h
 obtain⟨m,hn,hl⟩:=I.loc
 obtain⟨u,r,l⟩:=hl i x v hN e hv
 have fF:EP X aB σ Q u s:=⟨v,H,I,r,h⟩
 rcases l with⟨hk,hm⟩|⟨hk,c,hc,tF⟩
 . exact wpAny_Name (wpAny_loadName_local I.ok.kind hk hn hm fF) hd
 . rcases hk with hk|hk
   . exact wpAny_Name (wpAny_loadName_cell I.ok.kind hk hc tF fF) hd
   . exact wpAny_Name (wpAny_loadName_free I.ok.kind hk hc tF fF vC) hd
theorem aH{i j pos}:PE X (.Constant (.int i) j pos) (tC (.int i)):= λ_ _ _ H _ I h=>wpAny_Constant_int ⟨.int i,H,I.tok _,⟨_,rfl⟩,h⟩
theorem zae{b j pos}:PE X (.Constant (.bool b) j pos) (tC (.bl b)):= λ_ _ _ H _ I h=>Constant_bool ⟨.bl b,H,I,rfl,h⟩
theorem qO{x j pos}:PE X (.Constant (.str x) j pos) (tC (.str x)):= λ_ _ _ H _ I h=>Calls.Constant_str ⟨.str x,H,I.tok _,⟨_,rfl⟩,h⟩
def Gl(X:Cx)(x:Str):Prop:=X.env.kindOf x=some .globalImplicit
theorem yB{E:Value->Shared->Prop}{aB:List (Addr×Obj)}{s:Shared}{σ:St}{H:Hp}{x:Str}{u:Value}{pos:Pos}{Q:Value->Shared->Prop}(I:aX X aB σ H s)(hg:Gl X x)(hm:X.mg x=some u)(h:Q u s)
 (hd:(x==("__debug__" :Str))=false:=by decide):wpAny (model X.prog X.w) X.A (eval (.Name x pos) X.env) Q E s:=
 Calls.Name_function_global I.ok.kind hg (Calls.loadGlobal_global (by rw[I.ok.glob];exact I.mod.glob.keeps I.bk) hm h) hd
theorem hJ{E:Value->Shared->Prop}{aB:List (Addr×Obj)}{s:Shared}{σ:St}{H:Hp}{x:Str}{u:Value}{pos:Pos}{Q:Value->Shared->Prop}(I:aX X aB σ H s)(hg:Gl X x)(hm:X.mg x=none)(hv:bootBuiltins x=some u)(h:Q u s)
 (hn:x≠ "__name__" :=by decide) (hd:(x==("__debug__" :Str))=false:=by decide):wpAny (model X.prog X.w) X.A (eval (.Name x pos) X.env) Q E s:=by
 obtain⟨mb,h1,h2⟩:=I.mod.blt
 exact Calls.Name_function_global I.ok.kind hg (Calls.loadGlobal_builtin (by rw[I.ok.glob];exact I.mod.glob.keeps I.bk) hm (by rw[I.ok.blt];exact h1.keeps I.bk) ((h2 x hn).trans hv) h) hd
variable {a b:Expr}
def PC(X:Cx)(op:CmpOp)(a b:Expr)(t:TE):Prop:=
 ∀(aB:List (Addr×Obj)) (s:Shared) (σ:St) (H:Hp) (Q:VK),aX X aB σ H s->t σ H Q->
  wpAny (model X.prog X.w) X.A (eval a X.env) (λv s₁=>wpAny (model X.prog X.w) X.A (eval b X.env) (λu s₂=>wpAny (model X.prog X.w) X.A (compareOp op v u) (EP X aB σ Q) X.xe s₂) X.xe s₁) X.xe s
def tB(t:TE):TT:= λσ H Q=>t σ H λx H1=> ∃c,x= .bl c/\Q c H1
theorem zau{op:CmpOp}{t:TE}(h:PC X op a b t)(h1:behindInMarks op b=false:=by first|exact nobehind _ (by decide) (by decide)|rfl):PT X (.Compare a [op] [b] pos) (tB t):=by
 intro aB s σ H Q I hw
 refine wpAny_isTrue_Compare1 (dP (h aB s σ H _ I hw) λv s1 h1=>dP h1 λu s2 h2=>dP h2 λc s3 ⟨x,H1,I1,r1,q1⟩=> ?_) h1
 obtain⟨d,rfl,q⟩:=q1
 cases r1
 exact wpAny_truthy_bool ⟨H1,I1,q⟩
theorem zbQ{e:Expr}{t:TE}(h:PE X e t)(he: ∀zcM,isTrue e X.env zcM=(do let v<-zcM;standAt e.pos;holding [v] (truthy v)):=by intro _;rfl):PT X e (tB t):=by
 intro aB s σ H Q I hw
 refine isTrue_plain (dP (h aB s σ H _ I hw) λv s1 ⟨x,H1,I1,r1,q1⟩=> ?_) (he _)
 obtain⟨d,rfl,q⟩:=q1
 cases r1
 exact wpAny_truthy_bool ⟨H1,I1,q⟩
variable {tA tB':TT}{rest:List Expr}
def tOr(t u:TT):TT:= λσ H Q=>t σ H λc H1=>if c=true then Q true H1 else u σ H1 Q
def zvZ(t:TT):TT:= λσ H Q=>t σ H λc H1=>Q (!c) H1
theorem zmf(ha:PT X a tA):PW X (.BoolOp .Or [a] pos) tA:=by
 intro wh aB s σ H Q I h
 refine isTrue_or (dP (ha aB s σ H Q I h) λc s1 e=> ?_)
 cases c with
 |false=>exact isTrue_or_nil e
 |true=>exact e
theorem zrs(ha:PT X a tA)(hb:PW X (.BoolOp .Or (b::rest) pos) tB'):PW X (.BoolOp .Or (a::b::rest) pos) (tOr tA tB'):=by
 intro wh aB s σ H Q I h
 refine isTrue_or (dP (ha aB s σ H _ I h) λc s1 ⟨H1,I1,q1⟩=> ?_)
 cases c with
 |true=>exact⟨H1,I1,q1⟩
 |false=>exact hb wh aB s1 σ H1 Q I1 q1
theorem zfu(ha:PT X a tA):PT X (.UnaryOp .Not a pos) (zvZ tA):=by
 intro aB s σ H Q I h
 exact isTrue_not (ha aB s σ H (λc H1=>Q (!c) H1) I h)
end
def bB(K:W.Frag)(H:Hp)(a:Addr)(xs:List V):Prop:=
 Rd H a (.lst xs)\/
  ∃(o:Obj) (bC:Array Value) (n:Nat),K.lookup a=some o/\o.cls= .type "list" /\o.dict=none/\o.data= .seq bC n/\bC.size<=sizeLine/\bP xs bC.toList
def eS(K:W.Frag)(H:Hp)(a:Addr)(xs:List V):Prop:=
 Rd H a (.tup xs)\/
  ∃(o:Obj) (bC:Array Value) (n:Nat),K.lookup a=some o/\o.cls= .type "tuple" /\o.data= .seq bC n/\bC.size<=sizeLine/\bP xs bC.toList
def zwZ:Value->Option V
 | .none=>some .non
 | .bool b=>some (.bl b)
 | .int i _=>some (.int i)
 | .str x _=>some (.str x)
 | .bytes b _=>some (.byt b)
 | .float b _=>some (.flt b)
 | .ref a=>some (.ref a)
 | .type n=>some (.ty n)
 |_=>none
theorem bT.abs{x:V}{u:Value}(r:bT x u):zwZ u=some x:=by
 cases x with
 |non=>cases r;rfl
 |bl _=>cases r;rfl
 |int _=>obtain⟨t,rfl⟩:=r;rfl
 |str _=>obtain⟨t,rfl⟩:=r;rfl
 |byt _=>obtain⟨t,rfl⟩:=r;rfl
 |flt _=>obtain⟨t,rfl⟩:=r;rfl
 |ref _=>cases r;rfl
 |ty _=>cases r;rfl
theorem bT.inj{x y:V}{u:Value}(r:bT x u)(q:bT y u):x=y:=Option.some.inj (r.abs.symm.trans q.abs)
theorem bP.inj{xs ys:List V}{us:List Value}(h:bP xs us):bP ys us->xs=ys:=by
 induction h generalizing ys with
 |nil=>intro q;cases q;rfl
 |cons r t ih=>intro q;cases q with|cons r' t'=>rw[r.inj r',ih t']
section
variable {σ:St}{a:Addr}{xs ys:List V}
theorem bB.of{K:W.Frag}(h:H a=some (.lst xs)):bB K H a xs:= .inl (.inl h)
theorem eS.of{K:W.Frag}(h:H a=some (.tup xs)):eS K H a xs:= .inl (.inl h)
theorem aX.list(I:aX X aB σ H s)(h:bB X.K H a xs): ∃bC:List Value,bP xs bC/\PlainL s.heap a bC.toArray/\xs.length<=sizeLine:=by
 rcases h with h|⟨o,bC,n,hk,hc,hd,hs,hz,r⟩
 . obtain⟨z,bC,n,r,e⟩:=h.ok I.hok;exact⟨bC,r,⟨_,n,e,rfl,rfl,rfl⟩,z⟩
 . refine⟨bC.toList,r,⟨o,n,I.kIn a o hk,hc,hd,by simpa using hs⟩,?_⟩;have e:=r.length;simp only[Array.length_toList]at e;omega
theorem aX.tuple(I:aX X aB σ H s)(h:eS X.K H a xs): ∃bC:List Value,bP xs bC/\IsTup s.heap a bC.toArray/\xs.length<=sizeLine:=by
 rcases h with h|⟨o,bC,n,hk,hc,hs,hz,r⟩
 . obtain⟨z,bC,r,p⟩:=h.ok I.hok;exact⟨bC,r,p,z⟩
 . refine⟨bC.toList,r,⟨o,I.kIn a o hk,hc,n,by simpa using hs⟩,?_⟩;have e:=r.length;simp only[Array.length_toList]at e;omega
theorem aX.list_inj(I:aX X aB σ H s)(h:bB X.K H a xs)(h':bB X.K H a ys):xs=ys:=by
 obtain⟨bC,r,⟨o,n,e,_,_,d⟩,_⟩:=I.list h
 obtain⟨its',r',⟨o',n',e',_,_,d'⟩,_⟩:=I.list h'
 rw[e]at e';cases e'
 rw[d]at d'
 injection d' with d1 _
 have:bC=its':=by simpa using congrArg Array.toList d1
 subst this
 exact r.inj r'
theorem aX.tuple_inj(I:aX X aB σ H s)(h:eS X.K H a xs)(h':eS X.K H a ys):xs=ys:=by
 obtain⟨bC,r,⟨o,e,_,n,d⟩,_⟩:=I.tuple h
 obtain⟨its',r',⟨o',e',_,n',d'⟩,_⟩:=I.tuple h'
 rw[e]at e';cases e'
 rw[d]at d'
 injection d' with d1 _
 have:bC=its':=by simpa using congrArg Array.toList d1
 subst this
 exact r.inj r'
end
abbrev Cx.wish(X:Cx)(E:Value->Shared->Prop):Cx:={X with xe:=E}
abbrev Cx.nox(X:Cx):Cx:=X.wish λ_ _=>False
theorem Cx.Ok.wish{X:Cx}(ok:X.Ok)(E:Value->Shared->Prop):(X.wish E).Ok:=
 ⟨ok.mod,ok.kind,ok.glob,ok.blt,ok.above,ok.inj,ok.has,ok.cab,ok.hd,ok.frames,ok.stk,ok.exf,ok.bs,ok.bsz,ok.noex,ok.exfs,ok.funs,ok.frf⟩
theorem Cx.Ok.unwish{X:Cx}{E:Value->Shared->Prop}(ok:(X.wish E).Ok):X.Ok:=
 ⟨ok.mod,ok.kind,ok.glob,ok.blt,ok.above,ok.inj,ok.has,ok.cab,ok.hd,ok.frames,ok.stk,ok.exf,ok.bs,ok.bsz,ok.noex,ok.exfs,ok.funs,ok.frf⟩
section
variable {σ:St}{E:Value->Shared->Prop}
theorem aX.wish(I:aX X aB σ H s)(E:Value->Shared->Prop):aX (X.wish E) aB σ H s:=⟨I.ok.wish E,I.os,I.bare,I.base,I.loc,I.cell,I.free,I.freeC,I.pin,I.hok,I.len⟩
theorem aX.unwish(I:aX (X.wish E) aB σ H s):aX X aB σ H s:=⟨I.ok.unwish,I.os,I.bare,I.base,I.loc,I.cell,I.free,I.freeC,I.pin,I.hok,I.len⟩
theorem SP.unwish{D:fH}{f:Flow}{s':Shared}(h:SP (X.wish E) aB D f s'):SP X aB D f s':=by
 cases f with
 |next=>obtain⟨σ',H',I,q⟩:=h;exact⟨σ',H',I.unwish,q⟩
 |brk=>obtain⟨σ',H',I,q⟩:=h;exact⟨σ',H',I.unwish,q⟩
 |cont=>obtain⟨σ',H',I,q⟩:=h;exact⟨σ',H',I.unwish,q⟩
 |ret u=>obtain⟨v,σ',H',I,r,q⟩:=h;exact⟨v,σ',H',I.unwish,r,q⟩
theorem vS.nox{st:List Stmt}{t:TS}(h:vS X.nox st t):vS X st t:= λaB s σ H D I hw=>
 wpAny_mono (h aB s σ H D (I.wish _) hw) (λ_ _ q=>q.unwish) λ_ _ z=>False.elim z
end
section
variable {st:Stmt}{rest:List Stmt}{t u:TS}{e:Expr}
def zrP:TS:= λD σ H=>D.nx σ H
def bM(t u:TS):TS:= λD σ H=>t {D with nx:=u D} σ H
theorem cQ:vS X [] zrP:= λ_ _ σ H _ I h=>wpAny_execs_nil ⟨σ,H,I,h⟩
theorem aD(h1:PS X st t)(h2:vS X rest u):vS X (st::rest) (bM t u):=by
 intro aB s σ H D I h
 refine wpAny_execs_cons (dP (h1 aB s σ H {D with nx:=u D} I h) λf s1 q=> ?_)
 cases f with
 |next=>
  obtain⟨σ',H',I',q⟩:=q;exact h2 aB s1 σ' H' D I' q
 |ret v=>exact q
 |brk=>exact q
 |cont=>exact q
theorem aJ(h1:PS X st t):vS X [st] t:=by
 intro aB s σ H D I h
 refine wpAny_execs_cons (dP (h1 aB s σ H D I h) λf s1 q=> ?_)
 cases f with
 |next=>exact wpAny_execs_nil q
 |ret v=>exact q
 |brk=>exact q
 |cont=>exact q
theorem aX.quiet{aB:List (Addr×Obj)}{σ:St}{H:Hp}{s:Shared}(I:aX X aB σ H s):interactive X.env=false:=by simp[interactive,I.ok.kind]
def zti(te:TE):TS:= λD σ H=>te σ H λ_ H1=>D.nx σ H1
theorem cV(he:PE X e te)(hs:swapsWith e none pos.line X.env=pure false:=by rfl):PS X (.Expr e pos) (zti te):=by
 intro aB s σ H D I h
 exact wpAny_Expr_any (dP (he aB s σ H _ I h) λv s1 ⟨x,H1,I1,r1,q1⟩=>⟨σ,H1,I1,q1⟩) I.quiet hs
def zvA(te:TE):TS:= λD σ H=>te σ H D.rt
theorem cH(he:PE X e te):PS X (.Return (some e) pos) (zvA te):=by
 intro aB s σ H D I h
 exact wpAny_Return_some (dP (he aB s σ H _ I h) λv s1 ⟨x,H1,I1,r1,q1⟩=>⟨x,σ,H1,I1,r1,q1⟩)
def zwc(c:TT)(t u:TS):TS:= λD σ H=>c σ H λb H1=>if b=true then t D σ H1 else u D σ H1
theorem eL{c:Expr}{a b:List Stmt}{tc:TT}(hc:PT X c tc)(ha:vS X a t)(hb:vS X b u):PS X (.If c a b pos) (zwc tc t u):=by
 intro aB s σ H D I h
 refine wpAny_If (dP (hc aB s σ H _ I h) λd s1 ⟨H1,I1,q1⟩=> ?_)
 cases d with
 |true=>exact ha aB s1 σ H1 D I1 q1
 |false=>exact hb aB s1 σ H1 D I1 q1
def zmM:TS:= λ_ _ _=>False
theorem sU:PS X st zmM:= λ_ _ _ _ _ _ h=>h.elim
end
abbrev TG:=V->St->Hp->(St->Hp->Prop)->Prop
abbrev TGs:=List V->St->Hp->(St->Hp->Prop)->Prop
def PG(X:Cx)(qK:Expr)(t:TG):Prop:=
 ∀(aB:List (Addr×Obj)) (s:Shared) (σ:St) (H:Hp) (v:V) (u:Value) (Q:St->Hp->Prop),aX X aB σ H s->bT v u->t v σ H Q->
  wpAny (model X.prog X.w) X.A (assign qK X.env u) (λ_ s'=> ∃σ' H',aX X aB σ' H' s'/\Q σ' H') X.xe s
def PGs(X:Cx)(ts:List Expr)(t:TGs):Prop:=
 ∀(aB:List (Addr×Obj)) (s:Shared) (σ:St) (H:Hp) (vs:List V) (us:List Value) (Q:St->Hp->Prop),aX X aB σ H s->bP vs us->t vs σ H Q->
  wpAny (model X.prog X.w) X.A (assignInOrder ((assignEach ts X.env).map (·.2)) us) (λ_ s'=> ∃σ' H',aX X aB σ' H' s'/\Q σ' H') X.xe s
abbrev znR:=V->V->V->Hp->(Hp->Prop)->Prop
def zso(X:Cx)(t:znR):Prop:=
 ∀(aB:List (Addr×Obj)) (s:Shared) (σ:St) (H:Hp) (o i v:V) (ov iv u:Value) (Q:Hp->Prop),aX X aB σ H s->bT o ov->bT i iv->bT v u->t o i v H Q->
  wpAny (model X.prog X.w) X.A (setItem ov iv u) (λ_ s'=> ∃H',aX X aB σ H' s'/\Q H') X.xe s
def bA(i:Nat):TG:= λv σ H Q=>Q (σ.set i (some v)) H
theorem aK{i:Nat}{x:Str}(hN:X.N.Nodup)(hi:X.N[i]?=some x)(hx:Loc X.env.scope x)(hf:X.fn x=true\/X.env.scope.names.lookup x=some .local:=by first|exact .inl rfl|exact .inr rfl|assumption):PG X (.Name x pos) (bA i):=by
 intro aB s σ H v u Q I r h
 exact wpAny_assign_Name (gC I hN hi hx r (λs' I'=>⟨_,H,I',h⟩) hf)
def zjM:TGs:= λvs σ H Q=>vs=[]/\Q σ H
def sZ(t:TG)(u:TGs):TGs:= λvs σ H Q=> ∃v r,vs=v::r/\t v σ H λσ' H'=>u r σ' H' Q
theorem fO:PGs X [] zjM:=by
 intro aB s σ H vs us Q I r h
 obtain⟨e,h⟩:=h
 subst e
 cases r
 exact assignInOrder_nil ⟨σ,H,I,h⟩
theorem bX{e:Expr}{es:List Expr}{t:TG}{u:TGs}(h1:PG X e t)(h2:PGs X es u)
 (hs:(assignEach (e::es) X.env).map (·.2)=assign e X.env::(assignEach es X.env).map (·.2):=by rfl):PGs X (e::es) (sZ t u):=by
 intro aB s σ H vs us Q I r h
 obtain⟨v,vr,e1,h⟩:=h
 subst e1
 cases r with
 |cons r rr=>
  rw[hs];refine assignInOrder_cons (dP (h1 aB s σ H _ _ _ I r h) λ_ s1 ⟨σ1,H1,I1,q1⟩=> ?_);exact h2 aB s1 σ1 H1 _ _ Q I1 rr q1
def zkd(K:W.Frag)(n:Nat)(t:TGs):TG:= λv σ H Q=> ∃a xs,v= .ref a/\eS K H a xs/\xs.length=n/\t xs σ H Q
theorem iO{es:List Expr}{k:Nat}{t:TGs}{n:Nat}(hc:X.calm=true)(h:PGs X es t)
 (hn:(assignEach es X.env).length=n:=by rfl) (hst:(assignEach es X.env).findIdx? (·.1)=none:=by rfl):PG X (.Tuple es k pos) (zkd X.K n t):=by
 intro aB s σ H v u Q I r hw
 obtain⟨a,xs,e1,hq,hl,hw⟩:=hw
 subst e1
 cases r
 obtain⟨bC,rv,ht,hz⟩:=I.tuple hq
 refine assign_Tuple_tuple (I.ok.hd hc) ht (by simp[hn,<-hl,rv.length]) hst λh' hx=> ?_
 have I1:aX X aB σ H {s with heap:=h'}:=I.kept (t':=s.toks) λb o e=>hx b o (Nat.ne_of_lt (Heap.lt_size e)) e
 exact h aB _ σ H xs _ Q I1 (by simpa using rv) hw
def zuZ(to ti:TE)(t:znR):TG:= λv σ H Q=>to σ H λo H1=>ti σ H1 λi H2=>t o i v H2 λH3=>Q σ H3
theorem uU{o i:Expr}{to ti:TE}{t:znR}(ho:PE X o to)(hi:PE X i ti)(hs:zso X t)
 (ha: ∀v,assign (.Subscript o i pos) X.env v=(do
  let ov<-holding [v] (eval o X.env)
  let iv<-holding [v,ov] (eval i X.env)
  standAt pos
  holding [v,ov,iv] (setItem ov iv v)
  release [v,ov,iv] []):=by intro _;rfl):PG X (.Subscript o i pos) (zuZ to ti t):=by
 intro aB s σ H v u Q I r h
 rw[ha]
 refine wpAny_bind (wpAny_holding (dP (ho aB s σ H _ I h) λov s1 ⟨x,H1,I1,r1,q1⟩=> ?_))
 refine wpAny_bind (wpAny_holding (dP (hi aB s1 σ H1 _ I1 q1) λiv s2 ⟨y,H2,I2,r2,q2⟩=> ?_))
 refine wpAny_bind (wpAny_standAt (wpAny_bind (wpAny_holding (dP (hs aB s2 σ H2 x y v ov iv u _ I2 r1 r2 r q2) λ_ s3 ⟨H3,I3,q3⟩=> ?_))))
 exact wpAny_release ⟨σ,H3,I3,q3⟩
def zjb(te:TE)(g:TG):TS:= λD σ H=>te σ H λx H1=>g x σ H1 D.nx
theorem lC{tg e:Expr}{te:TE}{g:TG}(he:PE X e te)(hg:PG X tg g)(hs:swapsWithSole [tg] e pos.line X.env=pure false:=by rfl)(hw:swappedStores [tg] e X.env=pure none:=by rfl)
 (h1:(assignEach [tg] X.env).map (·.2)=[assign tg X.env]:=by rfl):PS X (.Assign [tg] e pos) (zjb te g):=by
 intro aB s σ H D I h
 refine wpAny_Assign_stores (dP (he aB s σ H _ I h) λv s1 ⟨x,H1,I1,r1,q1⟩=> ?_) hs hw
 rw[h1]
 exact dP (hg aB s1 σ H1 x v _ I1 r1 q1) λ_ s2 q=>q
theorem aM{i:Nat}{x:Str}{e:Expr}{te:TE}{sW:Pos}(hN:X.N.Nodup)(hi:X.N[i]?=some x)(hx:Loc X.env.scope x)(he:PE X e te)(hs:swapsWith e (some (.Name x sW)) pos.line X.env=pure false:=by rfl)(hf:X.fn x=true\/X.env.scope.names.lookup x=some .local:=by first|exact .inl rfl|exact .inr rfl|assumption):
 PS X (.Assign [.Name x sW] e pos) (zjb te (bA i)):=by
 intro aB s σ H D I h
 refine wpAny_Assign_Name (dP (he aB s σ H _ I h) λv s1 ⟨y,H1,I1,r1,q1⟩=> ?_) hs
 exact gC I1 hN hi hx r1 (λs2 I2=>⟨_,H1,I2,q1⟩) hf
def zvF(i j:Nat)(ta:TA):TS:= λD σ H=>ta σ H λvs H1=> ∃v w,vs=[v,w]/\D.nx ((σ.set i (some v)).set j (some w)) H1
theorem zms{i j:Nat}{x y:Str}{a b:Expr}{ta:TA}{px py pt:Pos}{kt k2 pt2}(hc:X.calm=true)(hN:X.N.Nodup)(hi:X.N[i]?=some x)(hj:X.N[j]?=some y)(hij:i≠j)
 (hx:X.env.scope.names.lookup x=some .local) (hy:X.env.scope.names.lookup y=some .local) (ha:PA X [a,b] ta)
 (hw:swappedStores [.Tuple [.Name x px,.Name y py] kt pt] (.Tuple [a,b] k2 pt2) X.env=pure (some [x,y]))
 (hs:swapsWithSole [.Tuple [.Name x px,.Name y py] kt pt] (.Tuple [a,b] k2 pt2) pos.line X.env=pure false:=by rfl):
 PS X (.Assign [.Tuple [.Name x px,.Name y py] kt pt] (.Tuple [a,b] k2 pt2) pos) (zvF i j ta):=by
 intro aB s σ H D I h
 rw[exec_Assign_arm]
 refine wpAny_bind (wpAny_standAt ?_)
 rw[hs]
 refine wpAny_bind (wpAny_pure ?_)
 rw[if_neg (by decide)]
 refine wpAny_bind (Tuple_ (dP (ha _ aB s σ H _ I h) λus s1 ⟨vs,H1,I1,r1,q1⟩=> ?_))
 obtain⟨v,w,e1,q1⟩:=q1
 subst e1
 obtain⟨u1,u2,rfl,rv,sI⟩: ∃u1 u2,us=[u1,u2]/\bT v u1/\bT w u2:=by
  cases r1 with
  |cons p q=>
   cases q with
   |cons p' q'=>
    cases q';exact⟨_,_,rfl,p,p'⟩
 refine wpAny_newObj_type ?_ (by show 2<=sizeLine;decide)
 have I2:aX X aB σ H1 {s1 with heap:=s1.heap.push {cls:= .type "tuple",data:= .seq [u1,u2].toArray}}:=I1.kept (t':=s1.toks) λb o e=>Heap.get?_push_of_some _ e
 rw[hw]
 refine wpAny_bind (wpAny_pure ?_)
 show wpAny (model X.prog X.w) X.A (do rule "assign.swapped-stores";let items<-unpackItems (.ref s1.heap.objs.size) 2 none;assignInOrder [λv=>bindName X.env y v,λv=>bindName X.env x v] items.reverse;pure Flow.next) _ _ _
 refine wpAny_bind (wpAny_rule (wpAny_bind (unpackItems_tuple (items:= #[u1,u2]) (I.ok.hd hc) (IsTup.new s1.heap _) λh' vD=> ?_)))
 have I3:=I2.kept (h':=h') (t':=s1.toks) λb o e=>vD b o (Nat.ne_of_lt (Heap.lt_size e)) e
 show wpAny _ _ (assignInOrder [λv=>bindName X.env y v,λv=>bindName X.env x v] [u2,u1]>>= λ_=>pure Flow.next) _ _ _
 refine wpAny_bind (assignInOrder_cons (wpAny_bindName (gC I3 hN hj (.inl hy) sI (λs2 I4=> ?_) (.inr hy))))
 refine assignInOrder_cons (wpAny_bindName (gC I4 hN hi (.inl hx) rv (λs3 I5=>assignInOrder_nil (wpAny_pure ?_)) (.inr hx)))
 rw[List.set_comm _ _ (Ne.symm hij)]at I5
 exact⟨_,H1,I5,q1⟩
def znH(c:TT)(tb:TS):TS:= λD σ H=> ∃W:Nat->St->Hp->Prop,(∃m,W m σ H)/\ ∀m σ H,W m σ H->
 c σ H λb H1=>if b=true then ∃N:St->Hp->Prop,(∀σ' H',N σ' H'-> ∃m',m'<m/\W m' σ' H')/\tb {D with nx:=N,ct:=N,bk:=D.nx} σ H1 else D.nx σ H1
theorem tJ{c:Expr}{body:List Stmt}{tc:TT}{tb:TS}(hp:PassesOwn (model X.prog X.w) X.A X.env X.xe)(hc:PT X c tc)(hb:vS X body tb):PS X (.While c body [] pos) (znH tc tb):=by
 intro aB s σ H D I h
 obtain⟨W,⟨m0,w0⟩,qE⟩:=h
 refine wpAny_While (codeAny_whileLoop (λn s'=> ∃σ' H',aX X aB σ' H' s'/\W n σ' H') ?_ m0 ⟨σ,H,I,w0⟩)
 rintro n s1 ⟨σ1,H1,I1,w1⟩
 refine wpAny_passesOwn hp (dP (hc aB s1 σ1 H1 _ I1 (qE n σ1 H1 w1)) λb s2 ⟨H2,I2,q2⟩=> ?_)
 cases b with
 |true=>
  obtain⟨N,hN,q2⟩:=q2;rw[if_pos rfl];refine wpAny_passesOwn hp (dP (hb aB s2 σ1 H2 _ I2 q2) λf s3 q3=> ?_);cases f with
  |next=>
   obtain⟨σ3,H3,I3,n3⟩:=q3;obtain⟨m',hm,w3⟩:=hN σ3 H3 n3;exact⟨m',hm,σ3,H3,I3,w3⟩
  |cont=>
   obtain⟨σ3,H3,I3,n3⟩:=q3;obtain⟨m',hm,w3⟩:=hN σ3 H3 n3;exact⟨m',hm,σ3,H3,I3,w3⟩
  |brk=>exact q3
  |ret v=>exact q3
 |false=>
  rw[if_neg Bool.false_ne_true];exact wpAny_execs_nil ⟨σ1,H2,I2,q2⟩
structure It where
 go:Nat->Hp->Prop
 yld:Nat->Hp->V->Hp->Prop
 stop:Nat->Hp->Prop
def iF(X:Cx)(aB:List (Addr×Obj))(H:Hp)(b:Addr):Prop:=
 H b=none/\b≠X.env.locals/\b∉X.fs/\(b∈X.ex\/X.s₀.heap.objs.size<=b)/\(∀x c,X.env.cells.lookup x=some c->c≠b)/\ ∀p∈X.pn++aB,p.1≠b
theorem aX.fpOk{X:Cx}{aB:List (Addr×Obj)}{σ:St}{H H':Hp}{s:Shared}{b:Addr}(I:aX X aB σ H s)(hb:s.heap.objs.size<=b)(hn:H' b=none):iF X aB H' b:=by
 refine⟨hn,Nat.ne_of_gt (Nat.lt_of_lt_of_le I.lt hb),I.nofs hb,.inr (Nat.le_trans I.sz hb),λx c e z=> ?_,λp hp z=> ?_⟩
 . obtain⟨v,q⟩:=I.cell x c e;exact absurd (Nat.lt_of_lt_of_le q.lt (by rw[z];exact hb)) (Nat.lt_irrefl _)
 . exact absurd (Nat.lt_of_lt_of_le (Heap.lt_size (I.pin p hp).1) (by rw[z];exact hb)) (Nat.lt_irrefl _)
structure sO(P:Program)(w:World)(K:W.Frag)(tg:Expr)(J:It)(fp:List Addr)(it:Addr)(tn:Nat->Heap->Prop):Prop where
 mem:it∈fp
 obj: ∀i h,tn i h-> ∀b∈fp,∃o,h.get? b=some o/\ ∀v,o.data≠ .cell v
 keep: ∀i h h',tn i h->(∀b∈fp,∀o,h.get? b=some o->h'.get? b=some o)->tn i h'
 item: ∀(X:Cx),X.prog=P->X.w=w->X.K=K->X.calm=true-> ∀(i:Nat) (aB:List (Addr×Obj)) (s:Shared) (σ:St) (H:Hp) (E:Value->Shared->Prop),aX X aB σ H s->(∀b∈fp,iF X aB H b)->tn i s.heap->J.go i H->
  wpAny (model P w) X.A (pyNext (.ref it)) (λr s1=> ∃u,r=some u/\
   wpAny (model P w) X.A (letOwnedTupleGo tg (.ref it) u) (λ_ s2=> ∃x H',aX X aB σ H' s2/\bT x u/\J.yld i H x H'/\tn (i+1) s2.heap/\ ∀b∈fp,H' b=none) E s1) E s
 done: ∀(X:Cx),X.prog=P->X.w=w->X.K=K->X.calm=true-> ∀(i:Nat) (aB:List (Addr×Obj)) (s:Shared) (σ:St) (H:Hp) (E:Value->Shared->Prop),aX X aB σ H s->(∀b∈fp,iF X aB H b)->tn i s.heap->J.stop i H->
  wpAny (model P w) X.A (pyNext (.ref it)) (λr s1=>r=none/\aX X aB σ H s1) E s
 self: ∀(A:Around) (i:Nat) (s:Shared) (Q:Value->Shared->Prop) (E:Value->Shared->Prop),tn i s.heap->Q (.ref it) s->wpAny (model P w) A (pyIter (.ref it)) Q E s
abbrev TI:=St->Hp->(It->Hp->Prop)->Prop
def PIE(X:Cx)(aB:List (Addr×Obj))(σ:St)(tg:Expr)(R:It->Hp->Prop)(itv:Value)(s2:Shared):Prop:=
 ∃(it:Addr) (fp:List Addr) (tn:Nat->Heap->Prop) (J:It) (H':Hp),itv= .ref it/\aX X aB σ H' s2/\sO X.prog X.w X.K tg J fp it tn/\tn 0 s2.heap/\(∀b∈fp,iF X aB H' b)/\R J H'
def PI(X:Cx)(tg gD:Expr)(wi:TI):Prop:=
 ∀(aB:List (Addr×Obj)) (s:Shared) (σ:St) (H:Hp) (R:It->Hp->Prop),aX X aB σ H s->wi σ H R->
  wpAny (model X.prog X.w) X.A (eval gD X.env) (λv s1=>wpAny (model X.prog X.w) X.A (pyIter v) (PIE X aB σ tg R) X.xe s1) X.xe s
theorem j9{M:Model}{A:Around}{E:Value->Shared->Prop}{s:Shared}{tg:Expr}{it:Addr}{u:Value}{o:Obj}{n:String}{vs:Array Value}{Q:Unit->Shared->Prop}(ho:s.heap.get? it=some o)(hc:o.cls= .type n)(hd:o.data= .fields vs)
 (hn: ["enumerate","zip","dict_itemiterator","dict_reverseitemiterator","odict_iterator","itertools.zip_longest","itertools.pairwise"].contains n=false) (hQ:Q () s):wpAny M A (letOwnedTupleGo tg (.ref it) u) Q E s:=by
 unfold letOwnedTupleGo
 cases tg<;>first
  |exact wpAny_pure hQ
  |(cases u<;>first
   |exact wpAny_pure hQ
   |(refine wpAny_bind (wpAny_load ho ?_);rw[hc,hd];show wpAny M A (if(["enumerate","zip","dict_itemiterator","dict_reverseitemiterator","odict_iterator","itertools.zip_longest","itertools.pairwise"].contains n&&vs[0]?==some (rawInt _))=true then _ else _) Q E s;rw[if_neg (by intro h;rw[hn,Bool.false_and]at h;cases h)];exact wpAny_pure hQ))
def zM(K:W.Frag)(a:Addr):It:=
 ⟨λi H=> ∃xs x,bB K H a xs/\xs[i]?=some x,λi H x H'=>H'=H/\ ∀xs,bB K H a xs->xs[i]?=some x,λi H=> ∃xs,bB K H a xs/\xs.length<=i⟩
def Itt(K:W.Frag)(a:Addr):It:=
 ⟨λi H=> ∃xs x,eS K H a xs/\xs[i]?=some x,λi H x H'=>H'=H/\ ∀xs,eS K H a xs->xs[i]?=some x,λi H=> ∃xs,eS K H a xs/\xs.length<=i⟩
def vB(lo:Int)(n:Nat):It:=⟨λi _=>i<n,λi H x H'=>H'=H/\x= .int (lo+i),λi _=>n<=i⟩
theorem zdn{P:Program}{w:World}{K:W.Frag}{tg:Expr}(a it:Addr):sO P w K tg (zM K a) [it] it (λi h=>h.IsListIter it a i) where
 mem:=by simp
 obj:= λi h st b hb=>by
  have e:b=it:=by simpa using hb
  subst e;obtain⟨o,e,c,d⟩:=st;exact⟨o,e,λv z=>by rw[d]at z;cases z⟩
 keep:= λi h h' st k=>st.at λo e=>k it (by simp) o e
 item:=by
  intro X hP hw hK hc i aB s σ H E I hf st hg;subst hP hw hK;obtain⟨xs,x,hq,hx⟩:=hg;obtain⟨bC,rv,p,hz⟩:=I.list hq;obtain⟨u,hu,ru⟩:=rv.get hx;obtain⟨f0,f1,f2,f3,f4,f5⟩:=hf it (by simp);refine wpAny_pyNext_list_item st p.isList (x:=u) (by simpa using hu) λh' st' sb=> ?_;have I1:aX X aB σ H {s with heap:=h'}:=I.turned (t':=s.toks) (λb o hb e=>(sb.2 b hb).trans e) f0 f1 f3 f4 f5;obtain⟨o,e,c,d⟩:=id st';exact⟨u,rfl,j9 (s:={s with heap:=h'}) e c d (by decide) ⟨x,H,I1,ru,⟨rfl,λys hy=>by rw[I.list_inj hy hq];exact hx⟩,st',λb hb=>(hf b hb).1⟩⟩
 done:=by
  intro X hP hw hK hc i aB s σ H E I hf st hg;subst hP hw hK;obtain⟨xs,hq,hx⟩:=hg;obtain⟨bC,rv,p,hz⟩:=I.list hq;obtain⟨f0,f1,f2,f3,f4,f5⟩:=hf it (by simp);have hl:=rv.length;exact wpAny_pyNext_list_end (I.ok.hd hc) st p.isList (by simp;omega) λh' eb=>⟨rfl,I.turned (t':=s.toks) (λb o hb e=>eb b o hb e) f0 f1 f3 f4 f5⟩
 self:= λ_ _ _ _ _ st h=>wpAny_pyIter_listiter st h
theorem zbO{P:Program}{w:World}{K:W.Frag}{tg:Expr}(a it:Addr):sO P w K tg (Itt K a) [it] it (λi h=>h.IsTupleIter it a i) where
 mem:=by simp
 obj:= λi h st b hb=>by
  have e:b=it:=by simpa using hb
  subst e;obtain⟨o,e,c,d⟩:=st;exact⟨o,e,λv z=>by rw[d]at z;cases z⟩
 keep:= λi h h' st k=>st.at λo e=>k it (by simp) o e
 item:=by
  intro X hP hw hK hc i aB s σ H E I hf st hg;subst hP hw hK;obtain⟨xs,x,hq,hx⟩:=hg;obtain⟨bC,rv,p,hz⟩:=I.tuple hq;obtain⟨u,hu,ru⟩:=rv.get hx;obtain⟨f0,f1,f2,f3,f4,f5⟩:=hf it (by simp);refine wpAny_pyNext_tuple_item st (show s.heap.IsTuple a bC.toArray from p) (x:=u) (by simpa using hu) λh' st' sb=> ?_;have I1:aX X aB σ H {s with heap:=h'}:=I.turned (t':=s.toks) (λb o hb e=>(sb.2 b hb).trans e) f0 f1 f3 f4 f5;obtain⟨o,e,c,d⟩:=id st';exact⟨u,rfl,j9 (s:={s with heap:=h'}) e c d (by decide) ⟨x,H,I1,ru,⟨rfl,λys hy=>by rw[I.tuple_inj hy hq];exact hx⟩,st',λb hb=>(hf b hb).1⟩⟩
 done:=by
  intro X hP hw hK hc i aB s σ H E I hf st hg;subst hP hw hK;obtain⟨xs,hq,hx⟩:=hg;obtain⟨bC,rv,p,hz⟩:=I.tuple hq;obtain⟨f0,f1,f2,f3,f4,f5⟩:=hf it (by simp);have hl:=rv.length;exact wpAny_pyNext_tuple_end (I.ok.hd hc) st (show s.heap.IsTuple a bC.toArray from p) (by simp;omega) λh' eb=>⟨rfl,I.turned (t':=s.toks) (λb o hb e=>eb b o hb e) f0 f1 f3 f4 f5⟩
 self:= λ_ _ _ _ _ st h=>wpAny_pyIter_tupleiter st h
theorem zaR{P:Program}{w:World}{K:W.Frag}{tg:Expr}(it:Addr)(lo:Int)(n:Nat):sO P w K tg (vB lo n) [it] it (λi h=>IsRangeIter h it (lo+(i:Nat) * 1) ((n:Int) - (i:Nat)) 1) where
 mem:=by simp
 obj:= λi h st b hb=>by
  have e:b=it:=by simpa using hb
  subst e;exact⟨_,st,λv z=>by
   have z':Data.fields _=Data.cell v:=z;cases z'⟩
 keep:= λi h h' st k=>k it (by simp) _ st
 item:=by
  intro X hP hw hK hc i aB s σ H E I hf st hg;subst hP hw hK;obtain⟨f0,f1,f2,f3,f4,f5⟩:=hf it (by simp);have W:=Walks.range (prog:=X.prog) (w:=X.w) (I.ok.hd hc) it lo 1 n;refine W.item i s _ _ hg st λv h' tk hv st' kk=> ?_;obtain⟨t,rfl⟩:=hv;have I1:aX X aB σ H {s with heap:=h',toks:=tk}:=I.turned (λb o hb e=>kk b o (by simpa using hb) e) f0 f1 f3 f4 f5;refine⟨_,rfl,j9 (s:={s with heap:=h',toks:=tk}) (n:= "range_iterator") st' rfl rfl (by decide) ⟨.int (lo+i),H,I1,⟨t,?_⟩,⟨rfl,rfl⟩,st',λb hb=>(hf b hb).1⟩⟩;rw[Int.mul_one]
 done:=by
  intro X hP hw hK hc i aB s σ H E I hf st hg;subst hP hw hK;obtain⟨f0,f1,f2,f3,f4,f5⟩:=hf it (by simp);exact wpAny_pyNext_range_end (I.ok.hd hc) st (by have:n<=i:=hg;omega) λh' eb=>⟨rfl,I.turned (t':=s.toks) (λb o hb e=>eb b o hb e) f0 f1 f3 f4 f5⟩
 self:= λ_ _ _ _ _ st h=>wpAny_pyIter_rangeiter st h
section
variable {tg:Expr}
def pF(K:W.Frag)(tl:TE):TI:= λσ H R=>tl σ H λx H1=> ∃a,x= .ref a/\(∃xs,bB K H1 a xs)/\R (zM K a) H1
def zmF(K:W.Frag)(tl:TE):TI:= λσ H R=>tl σ H λx H1=> ∃a,x= .ref a/\(∃xs,eS K H1 a xs)/\R (Itt K a) H1
theorem cE{l:Expr}{tl:TE}(hl:PE X l tl):PI X tg l (pF X.K tl):=by
 intro aB s σ H R I h
 refine dP (hl aB s σ H _ I h) λv s1 ⟨x,H1,I1,r1,q1⟩=> ?_
 obtain⟨a,e,⟨xs,hq⟩,q⟩:=q1
 subst e
 cases r1
 obtain⟨bC,rv,p,hz⟩:=I1.list hq
 refine wpAny_pyIter_list p.isList ?_
 refine⟨s1.heap.objs.size,[s1.heap.objs.size],_,_,H1,rfl,I1.kept (t':=s1.toks) λb o e=>Heap.get?_push_of_some _ e,zdn a _,⟨_,Heap.get?_push_size _ rfl,rfl,rfl⟩,λb hb=> ?_,q⟩
 have e:b=s1.heap.objs.size:=by simpa using hb
 subst e
 exact I1.fpOk (Nat.le_refl _) (I1.hok.fresh (Nat.le_refl _))
theorem uL{l:Expr}{tl:TE}(hl:PE X l tl):PI X tg l (zmF X.K tl):=by
 intro aB s σ H R I h
 refine dP (hl aB s σ H _ I h) λv s1 ⟨x,H1,I1,r1,q1⟩=> ?_
 obtain⟨a,e,⟨xs,hq⟩,q⟩:=q1
 subst e
 cases r1
 obtain⟨bC,rv,p,hz⟩:=I1.tuple hq
 refine wpAny_pyIter_tuple (show s1.heap.IsTuple a bC.toArray from p) ?_
 refine⟨s1.heap.objs.size,[s1.heap.objs.size],_,_,H1,rfl,I1.kept (t':=s1.toks) λb o e=>Heap.get?_push_of_some _ e,zbO a _,⟨_,Heap.get?_push_size _ rfl,rfl,rfl⟩,λb hb=> ?_,q⟩
 have e:b=s1.heap.objs.size:=by simpa using hb
 subst e
 exact I1.fpOk (Nat.le_refl _) (I1.hok.fresh (Nat.le_refl _))
theorem o9{aB:List (Addr×Obj)}{σ:St}{H:Hp}{s:Shared}{R:It->Hp->Prop}{E:Value->Shared->Prop}{lo hi:Int}{t u v:Tok}{tk:Nat}(I:aX X aB σ H s)(h1: -(2^62)<=lo)(h2:lo<2^62)(h3: -(2^62)<=hi)(h4:hi<2^62)
 (q:R (vB lo (hi - lo).toNat) H):wpAny (model X.prog X.w) X.A (pyIter (.ref s.heap.objs.size)) (PIE X aB σ tg R) E {s with heap:=s.heap.push {cls:= .type "range",data:= .fields #[.int lo t,.int hi u,.int 1 v]},toks:=tk}:=by
 refine wpAny_pyIter_range (IsRange.new ..) (small_one h1 h2 h3 h4) ?_
 have I1:aX X aB σ H {s with heap:=s.heap.push {cls:= .type "range",data:= .fields #[.int lo t,.int hi u,.int 1 v]},toks:=tk}:=I.kept λb o e=>Heap.get?_push_of_some _ e
 refine⟨(s.heap.push {cls:= .type "range",data:= .fields #[.int lo t,.int hi u,.int 1 v]}).objs.size,[(s.heap.push {cls:= .type "range",data:= .fields #[.int lo t,.int hi u,.int 1 v]}).objs.size],_,_,H,rfl,
  I1.kept (t':=tk) λb o e=>Heap.get?_push_of_some _ e,zaR _ lo (hi - lo).toNat,?_,λb hb=> ?_,q⟩
 . have e1:lo+((0:Nat):Int) * 1=lo:=by simp
   have e2:(((hi - lo).toNat:Nat):Int) - ((0:Nat):Int)=Builtin.Range.rangeSize lo hi 1:=by rw[rangeSize_one];split<;>omega
   show IsRangeIter _ _ (lo+((0:Nat):Int) * 1) ((((hi - lo).toNat:Nat):Int) - ((0:Nat):Int)) 1
   rw[e1,e2];exact Heap.get?_push_size _ rfl
 . have e:b=(s.heap.push {cls:= .type "range",data:= .fields #[.int lo t,.int hi u,.int 1 v]}).objs.size:=by simpa using hb
   subst e;exact I1.fpOk (Nat.le_refl _) (I1.hok.fresh (Nat.le_refl _))
def zfR(ta:TA):TI:= λσ H R=>ta σ H λvs H1=> ∃j:Int,vs=[.int j]/\ -(2^62)<=j/\j<2^62/\R (vB 0 j.toNat) H1
def zpb(ta:TA):TI:= λσ H R=>ta σ H λvs H1=> ∃i j:Int,vs=[.int i,.int j]/\(-(2^62)<=i/\i<2^62/\ -(2^62)<=j/\j<2^62)/\R (vB i (j - i).toNat) H1
theorem bU{a:Expr}{ta:TA}{p pos:Pos}(hg:Gl X "range")(hm:X.mg "range" =none)(ha:PA X [a] ta)(hs:starEach [a] X.env=[(false,eval a X.env)]:=by rfl):PI X tg (.Call (.Name "range" p) [a] [] pos) (zfR ta):=by
 intro aB s σ H R I h
 refine Call_ (hJ I hg hm boot_range (PyProof.Rows.callWith_type1 (dP (ha pos aB s σ H _ I h) λus s1 ⟨vs,H1,I1,r1,q1⟩=> ?_) hs rfl))
 obtain⟨j,e,q1,q2,q⟩:=q1
 subst e
 cases r1 with
 |cons r rr=>
  cases rr;obtain⟨t,rfl⟩:=r;exact call_range_1 (o9 I1 (by omega) (by omega) q1 q2 (by simpa using q))
theorem wX{a b:Expr}{ta:TA}{p pos:Pos}(hg:Gl X "range")(hm:X.mg "range" =none)(ha:PA X [a,b] ta)(hs:starEach [a,b] X.env=[(false,eval a X.env),(false,eval b X.env)]:=by rfl)(hs2:starEach [b] X.env=[(false,eval b X.env)]:=by rfl):
 PI X tg (.Call (.Name "range" p) [a,b] [] pos) (zpb ta):=by
 intro aB s σ H R I h
 refine Call_ (hJ I hg hm boot_range (PyProof.Rows.callWith_type1 (dP (ha pos aB s σ H _ I h) λus s1 ⟨vs,H1,I1,r1,q1⟩=> ?_) (by rw[hs,hs2]) (by rw[hs2];rfl)))
 obtain⟨i,j,e,⟨q1,q2,q3,q4⟩,q⟩:=q1
 subst e
 cases r1 with
 |cons r rr=>
  cases rr with
  |cons r' rr=>
   cases rr;obtain⟨t,rfl⟩:=r;obtain⟨t',rfl⟩:=r';exact call_range_2 (o9 I1 q1 q2 q3 q4 q)
def zwF(wi:TI)(g:TG)(tb:TS):TS:= λD σ H=>wi σ H λJ H1=> ∃W:Nat->Nat->St->Hp->Prop,(∃m,W 0 m σ H1)/\ ∀i m σ H,W i m σ H->
 (J.stop i H/\D.nx σ H)\/(J.go i H/\ ∃N:St->Hp->Prop,(∀σ' H',N σ' H'-> ∃m',m'<m/\W (i+1) m' σ' H')/\ ∀x H',J.yld i H x H'->g x σ H' λσ2 H2=>tb {D with nx:=N,ct:=N,bk:=D.nx} σ2 H2)
def vA(fp:List Addr)(h:Heap):List (Addr×Obj):=fp.filterMap λb=>(h.get? b).map λo=>(b,o)
theorem oI{fp:List Addr}{h:Heap}{b:Addr}{o:Obj}(hb:b∈fp)(e:h.get? b=some o):(b,o)∈vA fp h:=List.mem_filterMap.mpr ⟨b,hb,by rw[e];rfl⟩
theorem zdG{fp:List Addr}{h:Heap}{p:Addr×Obj}(hp:p∈vA fp h):p.1∈fp/\h.get? p.1=some p.2:=by
 obtain⟨b,hb,e⟩:=List.mem_filterMap.mp hp
 cases q:h.get? b with
 |none=>rw[q]at e;cases e
 |some o=>
  rw[q]at e;have e':(b,o)=p:=Option.some.inj e;subst e';exact⟨hb,q⟩
theorem aX.pinned{aB:List (Addr×Obj)}{σ:St}{H:Hp}{s:Shared}{fp:List Addr}(I:aX X aB σ H s)(hf: ∀b∈fp,iF X aB H b)(ho: ∀b∈fp,∃o,s.heap.get? b=some o/\ ∀v,o.data≠ .cell v):aX X (aB++vA fp s.heap) σ H s:=
 I.pins_of λp hp=>(List.mem_append.mp hp).elim (λz=>I.pin p (List.mem_append_right _ z)) λz=>by
  obtain⟨hb,e⟩:=zdG z;obtain⟨f0,f1,f2,_⟩:=hf p.1 hb;obtain⟨o,e',d⟩:=ho p.1 hb;rw[e]at e';cases e';exact⟨e,f0,f1,f2,d⟩
theorem aX.unpinned{aB pl:List (Addr×Obj)}{σ:St}{H:Hp}{s:Shared}(I:aX X (aB++pl) σ H s):aX X aB σ H s:=I.pins_of λp hp=>I.pin p (List.mem_append_right _ (List.mem_append_left _ hp))
theorem cM{gD:Expr}{body:List Stmt}{wi:TI}{g:TG}{tb:TS}{pos:Pos}(hp:PassesOwn (model X.prog X.w) X.A X.env X.xe)(hc:X.calm=true)(hi:PI X tg gD wi)(hg:PG X tg g)(hb:vS X body tb)
 (hs: ∀x,foldedSetIterable gD X.env x=pure x:=by intro _;rfl):PS X (.For tg gD body [] pos) (zwF wi g tb):=by
 intro aB s σ H D I h
 refine wpAny_For (dP (hi aB s σ H _ I h) λv s1 h1=>dP h1 λitv s2 h2=> ?_) hs
 obtain⟨it,fp,tn,J,H2,e,I2,T,st2,f2,W,⟨m0,w0⟩,qE⟩:=h2
 subst e
 -- what stays true of the iterator's objects through the tZ
 have znZ: ∀{H':Hp},(∀b∈fp,H' b=none)-> ∀b∈fp,iF X aB H' b:= λhn b hb=>⟨hn b hb,(f2 b hb).2⟩
 refine codeAny_forLoop_any (λn s'=> ∃i σ' H',aX X aB σ' H' s'/\tn i s'.heap/\(∀b∈fp,H' b=none)/\W i n σ' H') ?_ m0 ⟨0,σ,H2,I2,st2,λb hb=>(f2 b hb).1,w0⟩
 rintro n s3 ⟨i,σ3,H3,I3,st3,fr3,w3⟩
 rcases qE i n σ3 H3 w3 with⟨stop,qn⟩|⟨go,N,hN,step⟩
 . refine wpAny_passesOwn hp (dP (T.done X rfl rfl rfl hc i aB s3 σ3 H3 X.xe I3 (znZ fr3) st3 stop) λr s4 ⟨hr,I4⟩=> ?_);subst hr;exact wpAny_execs_nil ⟨σ3,H3,I4,qn⟩
 . refine wpAny_passesOwn hp (dP (T.item X rfl rfl rfl hc i aB s3 σ3 H3 X.xe I3 (znZ fr3) st3 go) λr s4 ⟨u,hr,h4⟩=> ?_);subst hr;refine wpAny_passesOwn hp (dP h4 λ_ s5 ⟨x,H5,I5,r5,y5,st5,fr5⟩=> ?_);have I5':=I5.pinned (znZ fr5) (T.obj _ _ st5);refine wpAny_passesOwn hp (dP (hg _ s5 σ3 H5 x u _ I5' r5 (step x H5 y5)) λ_ s6 ⟨σ6,H6,I6,q6⟩=> ?_);refine wpAny_passesOwn hp (dP (hb _ s6 σ6 H6 _ I6 q6) λf s7 q7=> ?_);have again: ∀{σ7:St} {H7:Hp},aX X (aB++vA fp s5.heap) σ7 H7 s7->N σ7 H7-> ∃m,m<n/\ ∃i σ' H',aX X aB σ' H' s7/\tn i s7.heap/\(∀b∈fp,H' b=none)/\W i m σ' H':= λ{σ7 H7} I7 n7=>by
    obtain⟨m',hm,w7⟩:=hN σ7 H7 n7;refine⟨m',hm,i+1,σ7,H7,I7.unpinned,T.keep _ _ _ st5 λb hb o e=>(I7.pin (b,o) (List.mem_append_right _ (List.mem_append_right _ (oI hb e)))).1,λb hb=> ?_,w7⟩;obtain⟨o,e,d⟩:=T.obj _ _ st5 b hb;exact(I7.pin (b,o) (List.mem_append_right _ (List.mem_append_right _ (oI hb e)))).2.1
   cases f with
   |next=>obtain⟨σ7,H7,I7,n7⟩:=q7;exact again I7 n7
   |cont=>obtain⟨σ7,H7,I7,n7⟩:=q7;exact again I7 n7
   |brk=>obtain⟨σ7,H7,I7,q7⟩:=q7;exact⟨σ7,H7,I7.unpinned,q7⟩
   |ret v=>obtain⟨x7,σ7,H7,I7,r7,q7⟩:=q7;exact⟨x7,σ7,H7,I7.unpinned,r7,q7⟩
end
theorem eA{K:W.Frag}{a:Addr}{xs:List V}{g:TG}{tb:TS}{D:fH}{σ:St}{H:Hp}(Pv:Nat->St->Hp->Prop)(h0:Pv 0 σ H)(hl: ∀i σ H,i<=xs.length->Pv i σ H->bB K H a xs)
 (hs: ∀i x σ H,xs[i]?=some x->Pv i σ H->g x σ H λσ2 H2=>tb {D with nx:=Pv (i+1),ct:=Pv (i+1),bk:=D.nx} σ2 H2) (hd: ∀σ H,Pv xs.length σ H->D.nx σ H):
 ∃W:Nat->Nat->St->Hp->Prop,(∃m,W 0 m σ H)/\ ∀i m σ H,W i m σ H->
  ((zM K a).stop i H/\D.nx σ H)\/((zM K a).go i H/\ ∃N:St->Hp->Prop,(∀σ' H',N σ' H'-> ∃m',m'<m/\W (i+1) m' σ' H')/\ ∀x H',(zM K a).yld i H x H'->g x σ H' λσ2 H2=>tb {D with nx:=N,ct:=N,bk:=D.nx} σ2 H2):=by
 refine⟨λi m σ H=>m=xs.length - i/\i<=xs.length/\Pv i σ H,⟨xs.length,by simp,Nat.zero_le _,h0⟩,?_⟩
 rintro i m σ H ⟨rfl,hi,p⟩
 have q:=hl i σ H hi p
 by_cases eY:i<xs.length
 . refine .inr ⟨⟨xs,xs[i],q,by simp[eY]⟩,Pv (i+1),λσ' H' p'=>⟨xs.length - (i+1),by omega,rfl,eY,p'⟩,λx H' y=> ?_⟩;obtain⟨e,y⟩:=y;subst e;exact hs i x σ _ (y xs q) p
 . have e:i=xs.length:=by omega
   subst e;exact .inl ⟨⟨xs,q,Nat.le_refl _⟩,hd σ H p⟩
theorem eO{lo:Int}{n:Nat}{g:TG}{tb:TS}{D:fH}{σ:St}{H:Hp}(Pv:Nat->St->Hp->Prop)(h0:Pv 0 σ H)
 (hs: ∀i σ H,i<n->Pv i σ H->g (.int (lo+i)) σ H λσ2 H2=>tb {D with nx:=Pv (i+1),ct:=Pv (i+1),bk:=D.nx} σ2 H2) (hd: ∀σ H,Pv n σ H->D.nx σ H):
 ∃W:Nat->Nat->St->Hp->Prop,(∃m,W 0 m σ H)/\ ∀i m σ H,W i m σ H->
  ((vB lo n).stop i H/\D.nx σ H)\/((vB lo n).go i H/\ ∃N:St->Hp->Prop,(∀σ' H',N σ' H'-> ∃m',m'<m/\W (i+1) m' σ' H')/\ ∀x H',(vB lo n).yld i H x H'->g x σ H' λσ2 H2=>tb {D with nx:=N,ct:=N,bk:=D.nx} σ2 H2):=by
 refine⟨λi m σ H=>m=n - i/\i<=n/\Pv i σ H,⟨n,by simp,Nat.zero_le _,h0⟩,?_⟩
 rintro i m σ H ⟨rfl,hi,p⟩
 by_cases eY:i<n
 . refine .inr ⟨eY,Pv (i+1),λσ' H' p'=>⟨n - (i+1),by omega,rfl,eY,p'⟩,λx H' y=> ?_⟩;obtain⟨e,y⟩:=y;subst e y;exact hs i σ _ eY p
 . have e:i=n:=by omega
   subst e;exact .inl ⟨Nat.le_refl _,hd σ H p⟩
abbrev R2:=V->V->Hp->VK->Prop
def oS(X:Cx)(f:Value->Value->Sem Value)(r:R2):Prop:=
 ∀(aB:List (Addr×Obj)) (s:Shared) (σ:St) (H:Hp) (x y:V) (v u:Value) (Q:VK),aX X aB σ H s->bT x v->bT y u->r x y H Q->
  wpAny (model X.prog X.w) X.A (f v u) (EP X aB σ Q) X.xe s
def UnR(X:Cx)(f:Value->Sem Value)(r:V->Hp->VK->Prop):Prop:=
 ∀(aB:List (Addr×Obj)) (s:Shared) (σ:St) (H:Hp) (x:V) (v:Value) (Q:VK),aX X aB σ H s->bT x v->r x H Q->
  wpAny (model X.prog X.w) X.A (f v) (EP X aB σ Q) X.xe s
def fJ(X:Cx)(f:Value)(r:List V->Hp->VK->Prop):Prop:=
 ∀(aB:List (Addr×Obj)) (s:Shared) (σ:St) (H:Hp) (xs:List V) (us:List Value) (Q:VK),aX X aB σ H s->bP xs us->r xs H Q->
  wpAny (model X.prog X.w) X.A (call f us) (EP X aB σ Q) X.xe s
def dW(r:R2)(ta tb:TE):TE:= λσ H Q=>ta σ H λx H1=>tb σ H1 λy H2=>r x y H2 Q
def tUn(r:V->Hp->VK->Prop)(ta:TE):TE:= λσ H Q=>ta σ H λx H1=>r x H1 Q
def rI(C:Int->Int->Prop)(g:Int->Int->V):R2:= λx y H Q=> ∃i j,x= .int i/\y= .int j/\C i j/\Q (g i j) H
def rI0(g:Int->Int->V):R2:= λx y H Q=> ∃i j,x= .int i/\y= .int j/\Q (g i j) H
def rU(g:Int->V):V->Hp->VK->Prop:= λx H Q=> ∃i,x= .int i/\Q (g i) H
section
variable {a b c:Expr}{tc:TE}
theorem znE(ha:PE X a ta)(hb:PE X b tb){aB:List (Addr×Obj)}{s:Shared}{σ:St}{H:Hp}{R:V->V->Hp->Prop}(I:aX X aB σ H s)
 (h:ta σ H λx H1=>tb σ H1 λy H2=>R x y H2) {Q:Value->Shared->Prop} {f:Value->Value->Sem Value}
 (hf: ∀v u s2 x y H2,aX X aB σ H2 s2->bT x v->bT y u->R x y H2->wpAny (model X.prog X.w) X.A (f v u) Q X.xe s2):
 wpAny (model X.prog X.w) X.A (eval a X.env) (λv s₁=>wpAny (model X.prog X.w) X.A (eval b X.env) (λu s₂=>wpAny (model X.prog X.w) X.A (f v u) Q X.xe s₂) X.xe s₁) X.xe s:=by
 refine dP (ha aB s σ H _ I h) λv s1 ⟨x,H1,I1,r1,q1⟩=> ?_
 refine dP (hb aB s1 σ H1 _ I1 q1) λu s2 ⟨y,H2,I2,r2,q2⟩=> ?_
 exact hf v u s2 x y H2 I2 r1 r2 q2
theorem aU{op:Operator}{r:R2}(ho:oS X (binaryOp op) r)(ha:PE X a ta)(hb:PE X b tb):PE X (.BinOp a op b pos) (dW r ta tb):=by
 intro aB s σ H Q I h
 exact wpAny_BinOp (znE ha hb I h λv u s2 x y H2 I2 rx ry q=>ho aB s2 σ H2 x y v u Q I2 rx ry q)
theorem zsw{op:UnaryOp}{r:V->Hp->VK->Prop}(ho:UnR X (unaryOp op) r)(ha:PE X a ta):PE X (.UnaryOp op a pos) (tUn r ta):=by
 intro aB s σ H Q I h
 exact UnaryOp_ (dP (ha aB s σ H _ I h) λv s1 ⟨x,H1,I1,r1,q1⟩=>ho aB s1 σ H1 x v Q I1 r1 q1)
theorem opI{f:Value->Value->Sem Value}{C:Int->Int->Prop}{g:Int->Int->Int}
 (rule: ∀(i j:Int) (t u:Tok) (s:Shared) (Q:Value->Shared->Prop) (E:Value->Shared->Prop),C i j->Q (.int (g i j) s.toks) {s with toks:=s.toks+1}->wpAny (model X.prog X.w) X.A (f (.int i t) (.int j u)) Q E s):
 oS X f (rI C λi j=> .int (g i j)):=by
 intro aB s σ H x y v u Q I rx ry h
 obtain⟨i,j,rfl,rfl,hc,q⟩:=h
 obtain⟨t,rfl⟩:=rx
 obtain⟨t',rfl⟩:=ry
 exact rule i j t t' s _ _ hc ⟨.int (g i j),H,I.tok _,⟨_,rfl⟩,q⟩
theorem zmq{f:Value->Value->Sem Value}{g:Int->Int->Int}
 (rule: ∀(i j:Int) (t u:Tok) (s:Shared) (Q:Value->Shared->Prop) (E:Value->Shared->Prop),Q (.int (g i j) s.toks) {s with toks:=s.toks+1}->wpAny (model X.prog X.w) X.A (f (.int i t) (.int j u)) Q E s):
 oS X f (rI0 λi j=> .int (g i j)):=by
 intro aB s σ H x y v u Q I rx ry h
 obtain⟨i,j,rfl,rfl,q⟩:=h
 obtain⟨t,rfl⟩:=rx
 obtain⟨t',rfl⟩:=ry
 exact rule i j t t' s _ _ ⟨.int (g i j),H,I.tok _,⟨_,rfl⟩,q⟩
theorem zjQ{f:Value->Value->Sem Value}{g:Int->Int->Bool}
 (rule: ∀(i j:Int) (t u:Tok) (s:Shared) (Q:Value->Shared->Prop) (E:Value->Shared->Prop),Q (.bool (g i j)) s->wpAny (model X.prog X.w) X.A (f (.int i t) (.int j u)) Q E s):
 oS X f (rI0 λi j=> .bl (g i j)):=by
 intro aB s σ H x y v u Q I rx ry h
 obtain⟨i,j,rfl,rfl,q⟩:=h
 obtain⟨t,rfl⟩:=rx
 obtain⟨t',rfl⟩:=ry
 exact rule i j t t' s _ _ ⟨.bl (g i j),H,I,rfl,q⟩
def zqh(i j:Int):Prop:=0<=j/\j<=1000000/\i.natAbs<2^64
def zgm(i j:Int):Prop:=(-(2^64)<i/\i<2^64)\/(-(2^64)<j/\j<2^64)
theorem zgm.ok{i j:Int}(h:zgm i j):IntMulOk i j:=by
 rcases h with⟨h1,h2⟩|⟨h1,h2⟩
 . exact .of_left (intBits_le_64 h1 h2)
 . exact .of_right (intBits_le_64 h1 h2)
theorem zbI(k:Nat):(0:Int)<=2^k:=by
 rw[two_pow_cast]
 exact Int.natCast_nonneg _
theorem bY:oS X (binaryOp .Add) (rI0 λi j=> .int (i+j)):=zmq λ_ _ _ _ _ _ _ q=>add_int q
theorem zbz:oS X (binaryOp .Sub) (rI0 λi j=> .int (i - j)):=zmq λ_ _ _ _ _ _ _ q=>sub_int q
theorem eK:oS X (binaryOp .Mult) (rI zgm λi j=> .int (i * j)):=opI λ_ _ _ _ _ _ _ hc q=>mul_int q hc.ok
theorem gZ:oS X (binaryOp .Mod) (rI (λ_ j=>0<j) λi j=> .int (i % j)):=opI λi j _ _ _ _ _ hc q=>by
 have h1:(0:Int)<j:=hc
 exact mod_int' (by omega) (by rw[Int.fmod_eq_emod_of_nonneg i (by omega)];exact q)
theorem zme:oS X (binaryOp .Pow) (rI zqh λi j=> .int (i^j.toNat)):=opI λ_ _ _ _ _ _ _ hc q=>pow_int_small hc.1 hc.2.1 hc.2.2 q
theorem zgo:oS X (binaryOp .LShift) (rI zqh λi j=> .int (i * 2^j.toNat)):=opI λ_ _ _ _ _ _ _ hc q=>lshift_int_small hc.1 hc.2.1 hc.2.2 q
theorem zmH:oS X (binaryOp .RShift) (rI (λ_ j=>0<=j) λi j=> .int (i / 2^j.toNat)):=opI λi j _ _ _ _ _ hc q=>
 rshift_int hc (by rw[Int.fdiv_eq_ediv_of_nonneg i (zbI _)];exact q)
theorem zlN:oS X (binaryOp .BitAnd) (rI0 λi j=> .int (Builtin.bitAnd i j)):=zmq λ_ _ _ _ _ _ _ q=>and_int q
theorem unI{f:Value->Sem Value}{g:Int->Int}
 (rule: ∀(i:Int) (t:Tok) (s:Shared) (Q:Value->Shared->Prop) (E:Value->Shared->Prop),Q (.int (g i) s.toks) {s with toks:=s.toks+1}->wpAny (model X.prog X.w) X.A (f (.int i t)) Q E s):
 UnR X f (rU λi=> .int (g i)):=by
 intro aB s σ H x v Q I rx h
 obtain⟨i,rfl,q⟩:=h
 obtain⟨t,rfl⟩:=rx
 exact rule i t s _ _ ⟨.int (g i),H,I.tok _,⟨_,rfl⟩,q⟩
theorem zoe:UnR X (unaryOp .USub) (rU λi=> .int (-i)):=unI λ_ _ _ _ _ q=>neg_int q
end
def zsP:V->V->Bool
 | .non,.non=>true| .non,.int _=>true| .int _,.non=>true| .non,.bl _=>true| .bl _,.non=>true| .non,.str _=>true| .str _,.non=>true
 | .int _,.int _=>true| .bl _,.bl _=>true| .str _,.str _=>true| .byt _,.byt _=>true
 | .int _,.str _=>true| .str _,.int _=>true| .bl _,.str _=>true| .str _,.bl _=>true
 |_,_=>false
def rEq:R2:= λx y H Q=>zsP x y=true/\Q (.bl (decide (x=y))) H
def rNe:R2:= λx y H Q=>zsP x y=true/\Q (.bl (!decide (x=y))) H
theorem zcC{i j:Int}:decide (V.int i=V.int j)=(i==j):=by
 rw[Bool.eq_iff_iff]
 simp
theorem zgD{i j:Bool}:decide (V.bl i=V.bl j)=(i==j):=by
 rw[Bool.eq_iff_iff]
 simp
theorem zcR{i j:Str}:decide (V.str i=V.str j)=(i==j):=by
 rw[Bool.eq_iff_iff]
 simp
theorem zcn{i j:Array UInt8}:decide (V.byt i=V.byt j)=(i.toList==j.toList):=by
 rw[Bool.eq_iff_iff]
 cases i
 cases j
 simp
section
variable {a b c:Expr}{tc:TE}
theorem cN{aB:List (Addr×Obj)}{σ:St}{H:Hp}{s:Shared}{Q:VK}{k k':Bool}(I:aX X aB σ H s)(q:Q (.bl k) H)(e:k=k'):EP X aB σ Q (.bool k') s:=by
 subst e
 exact⟨.bl k,H,I,rfl,q⟩
theorem lY:oS X (compareOp .Eq) rEq:=by
 intro aB s σ H x y v u Q I rx ry h
 obtain⟨hs,q⟩:=h
 cases x with
 |non=>
  cases rx;cases y with
  |non=>cases ry;exact PySem.EqNone.eq_none_none (cN I q (by simp))
  |bl j=>cases ry;exact PySem.EqNone.eq_none_bool (cN I q (by simp))
  |int j=>obtain⟨t',rfl⟩:=ry;exact PySem.EqNone.eq_none_int (cN I q (by simp))
  |str j=>obtain⟨t',rfl⟩:=ry;exact PySem.EqNone.eq_none_str (cN I q (by simp))
  |_=>exact absurd (show false=true from hs) Bool.false_ne_true
 |bl i=>
  cases rx;cases y with
  |non=>cases ry;exact PySem.EqNone.eq_bool_none (cN I q (by simp))
  |bl j=>cases ry;exact eq_bool (cN I q zgD)
  |str j=>obtain⟨t',rfl⟩:=ry;exact PySem.EqMixed.eq_bool_str (cN I q (by simp))
  |_=>exact absurd (show false=true from hs) Bool.false_ne_true
 |int i=>
  obtain⟨t,rfl⟩:=rx;cases y with
  |non=>cases ry;exact PySem.EqNone.eq_int_none (cN I q (by simp))
  |int j=>obtain⟨t',rfl⟩:=ry;exact eq_int (cN I q zcC)
  |str j=>obtain⟨t',rfl⟩:=ry;exact PySem.EqMixed.eq_int_str (cN I q (by simp))
  |_=>exact absurd (show false=true from hs) Bool.false_ne_true
 |str i=>
  obtain⟨t,rfl⟩:=rx;cases y with
  |non=>cases ry;exact PySem.EqNone.eq_str_none (cN I q (by simp))
  |bl j=>cases ry;exact PySem.EqMixed.eq_str_bool (cN I q (by simp))
  |int j=>obtain⟨t',rfl⟩:=ry;exact PySem.EqMixed.eq_str_int (cN I q (by simp))
  |str j=>obtain⟨t',rfl⟩:=ry;exact eq_str (cN I q zcR)
  |_=>exact absurd (show false=true from hs) Bool.false_ne_true
 |byt i=>
  obtain⟨t,rfl⟩:=rx;cases y with
  |byt j=>obtain⟨t',rfl⟩:=ry;exact PySem.W.eq_bytes (cN I q zcn)
  |_=>exact absurd (show false=true from hs) Bool.false_ne_true
 |_=>cases y<;>exact absurd (show false=true from hs) Bool.false_ne_true
theorem zhR:oS X (compareOp .NotEq) rNe:=by
 intro aB s σ H x y v u Q I rx ry h
 obtain⟨hs,q⟩:=h
 cases x with
 |non=>
  cases rx;cases y with
  |non=>cases ry;exact PySem.EqNone.ne_none_none (cN I q (by simp))
  |bl j=>cases ry;exact PySem.EqNone.ne_none_bool (cN I q (by simp))
  |int j=>obtain⟨t',rfl⟩:=ry;exact PySem.EqNone.ne_none_int (cN I q (by simp))
  |str j=>obtain⟨t',rfl⟩:=ry;exact PySem.EqNone.ne_none_str (cN I q (by simp))
  |_=>exact absurd (show false=true from hs) Bool.false_ne_true
 |bl i=>
  cases rx;cases y with
  |non=>cases ry;exact PySem.EqNone.ne_bool_none (cN I q (by simp))
  |bl j=>cases ry;exact ne_bool (cN I q (congrArg not zgD))
  |str j=>obtain⟨t',rfl⟩:=ry;exact PySem.EqMixed.ne_bool_str (cN I q (by simp))
  |_=>exact absurd (show false=true from hs) Bool.false_ne_true
 |int i=>
  obtain⟨t,rfl⟩:=rx;cases y with
  |non=>cases ry;exact PySem.EqNone.ne_int_none (cN I q (by simp))
  |int j=>obtain⟨t',rfl⟩:=ry;exact ne_int (cN I q (congrArg not zcC))
  |str j=>obtain⟨t',rfl⟩:=ry;exact PySem.EqMixed.ne_int_str (cN I q (by simp))
  |_=>exact absurd (show false=true from hs) Bool.false_ne_true
 |str i=>
  obtain⟨t,rfl⟩:=rx;cases y with
  |non=>cases ry;exact PySem.EqNone.ne_str_none (cN I q (by simp))
  |bl j=>cases ry;exact PySem.EqMixed.ne_str_bool (cN I q (by simp))
  |int j=>obtain⟨t',rfl⟩:=ry;exact PySem.EqMixed.ne_str_int (cN I q (by simp))
  |str j=>obtain⟨t',rfl⟩:=ry;exact ne_str (cN I q (congrArg not zcR))
  |_=>exact absurd (show false=true from hs) Bool.false_ne_true
 |byt i=>
  obtain⟨t,rfl⟩:=rx;cases y with
  |byt j=>obtain⟨t',rfl⟩:=ry;exact PySem.W.ne_bytes (cN I q (congrArg not zcn))
  |_=>exact absurd (show false=true from hs) Bool.false_ne_true
 |_=>cases y<;>exact absurd (show false=true from hs) Bool.false_ne_true
theorem o7:oS X (compareOp .Lt) (rI0 λi j=> .bl (decide (i<j))):=zjQ λ_ _ _ _ _ _ _ q=>lt_int q
theorem zls:oS X (compareOp .LtE) (rI0 λi j=> .bl (decide (i<=j))):=zjQ λ_ _ _ _ _ _ _ q=>le_int q
theorem j4:oS X (compareOp .Gt) (rI0 λi j=> .bl (decide (j<i))):=zjQ λ_ _ _ _ _ _ _ q=>gt_int q
theorem zlc:oS X (compareOp .GtE) (rI0 λi j=> .bl (decide (j<=i))):=zjQ λ_ _ _ _ _ _ _ q=>ge_int q
theorem dI(b:Expr){op:CmpOp}(h:op≠ .In:=by decide)(h2:op≠ .NotIn:=by decide):behindInMarks op b=false:=by
 have e1:(op==CmpOp.In)=false:=by cases op<;>first|rfl|exact absurd rfl h
 have e2:(op==CmpOp.NotIn)=false:=by cases op<;>first|rfl|exact absurd rfl h2
 cases b<;>simp[behindInMarks,e1,e2]
theorem pM{op:CmpOp}{r:R2}(ho:oS X (compareOp op) r)(ha:PE X a ta)(hb:PE X b tb)(hm:behindInMarks op b=false):PE X (.Compare a [op] [b] pos) (dW r ta tb):=by
 intro aB s σ H Q I h
 exact wpAny_Compare1 (znE ha hb I h λv u s2 x y H2 I2 rx ry q=>ho aB s2 σ H2 x y v u Q I2 rx ry q) hm
def gU(t:TE):TT:= λσ H Q=>t σ H λx H'=> ∃k,x= .bl k/\Q k H'
theorem cF{op:CmpOp}{r:R2}(ho:oS X (compareOp op) r)(ha:PE X a ta)(hb:PE X b tb)(hm:behindInMarks op b=false):PT X (.Compare a [op] [b] pos) (gU (dW r ta tb)):=by
 intro aB s σ H Q I h
 refine wpAny_isTrue_Compare1 (dP (ha aB s σ H _ I h) λv s1 ⟨x,H1,I1,r1,q1⟩=>dP (hb aB s1 σ H1 _ I1 q1) λu s2 ⟨y,H2,I2,r2,q2⟩=>
  dP (ho aB s2 σ H2 x y v u _ I2 r1 r2 q2) λc s3 ⟨z,H3,I3,r3,k,e,q3⟩=> ?_) hm
 subst e
 cases r3
 exact wpAny_truthy_bool ⟨H3,I3,q3⟩
def zlM(r r':R2)(ta tb tc:TE):TE:= λσ H Q=>ta σ H λx H1=>tb σ H1 λy H2=>r x y H2 λz H3=> ∃k,z= .bl k/\
 (if k=true then tc σ H3 λw' H4=>r' y w' H4 Q else Q (.bl false) H3)
theorem w9{op op':CmpOp}{r r':R2}(ho:oS X (compareOp op) r)(ho':oS X (compareOp op') r')(ha:PE X a ta)(hb:PE X b tb)(hc:PE X c tc)
 (hm:lastMarks [op,op'] [b,c]=false:=by with_unfolding_all rfl):PT X (.Compare a [op,op'] [b,c] pos) (gU (zlM r r' ta tb tc)):=by
 intro aB s σ H Q I h
 refine isTrue_chain (dP (ha aB s σ H _ I h) λv s1 ⟨x,H1,I1,r1,q1⟩=>test_link (dP (hb aB s1 σ H1 _ I1 q1) λu s2 ⟨y,H2,I2,r2,q2⟩=>
  dP (ho aB s2 σ H2 x y v u _ I2 r1 r2 q2) λd s3 ⟨z,H3,I3,r3,k,e,q3⟩=> ?_)) hm
 subst e
 cases r3
 refine wpAny_truthy_bool ?_
 cases k with
 |false=>
  obtain⟨k',e',q'⟩:=q3;cases e';exact ite_ff ⟨H3,I3,q'⟩
 |true=>
  refine ite_tt (test_last (dP (hc aB s3 σ H3 _ I3 q3) λw' s4 ⟨z',H4,I4,r4,q4⟩=>dP (ho' aB s4 σ H4 y z' u w' _ I4 r2 r4 q4) λd' s5 ⟨z2,H5,I5,r5,k2,e2,q5⟩=> ?_));subst e2;cases r5;exact wpAny_truthy_bool ⟨H5,I5,q5⟩
theorem oO:(sizeLine:Nat)<2^63:=by rw[sizeLine_eq];decide
theorem oG:oS X (binaryOp .Add) (λx y H Q=> ∃i j,x= .str i/\y= .str j/\i.length+j.length<=sizeLine/\Q (.str (i++j)) H):=by
 intro aB s σ H x y v u Q I rx ry h
 obtain⟨i,j,rfl,rfl,hz,q⟩:=h
 obtain⟨t,rfl⟩:=rx
 obtain⟨t',rfl⟩:=ry
 exact add_str (λt' tk=>⟨.str (i++j),H,I.tok _,⟨_,rfl⟩,q⟩) hz
theorem mC{x:V}{us:List Value}(r:bP [x] us): ∃u,us=[u]/\bT x u:=by
 cases r with
 |cons r1 r2=>cases r2;exact⟨_,rfl,r1⟩
theorem zkY{x y:V}{us:List Value}(r:bP [x,y] us): ∃u w',us=[u,w']/\bT x u/\bT y w':=by
 cases r with
 |cons r1 r2=>
  cases r2 with
  |cons r3 r4=>cases r4;exact⟨_,_,rfl,r1,r3⟩
theorem zdM(hc:X.calm=true):fJ X (.builtin "max") (λxs H Q=> ∃i j,xs=[.int i,.int j]/\Q (.int (if j>i then j else i)) H):=by
 intro aB s σ H xs us Q I r h
 obtain⟨i,j,rfl,q⟩:=h
 obtain⟨u,w',rfl,⟨t,rfl⟩,⟨t',rfl⟩⟩:=zkY r
 refine max_two_ints (I.ok.hd hc) λh' tk k=>⟨_,H,I.kept k,?_,q⟩
 by_cases hj:j>i
 . rw[if_pos hj,if_pos hj];exact⟨_,rfl⟩
 . rw[if_neg hj,if_neg hj];exact⟨_,rfl⟩
theorem zdx(hc:X.calm=true):fJ X (.builtin "min") (λxs H Q=> ∃i j,xs=[.int i,.int j]/\Q (.int (if j<i then j else i)) H):=by
 intro aB s σ H xs us Q I r h
 obtain⟨i,j,rfl,q⟩:=h
 obtain⟨u,w',rfl,⟨t,rfl⟩,⟨t',rfl⟩⟩:=zkY r
 refine min_two_ints (I.ok.hd hc) λh' tk k=>⟨_,H,I.kept k,?_,q⟩
 by_cases hj:j<i
 . rw[if_pos hj,if_pos hj];exact⟨_,rfl⟩
 . rw[if_neg hj,if_neg hj];exact⟨_,rfl⟩
theorem wD:fJ X (.type "int") (λxs H Q=>(∃i,xs=[.int i]/\Q (.int i) H)\/ ∃k,xs=[.bl k]/\Q (.int (if k then 1 else 0)) H):=by
 intro aB s σ H xs us Q I r h
 rcases h with⟨i,rfl,q⟩|⟨k,rfl,q⟩
 . obtain⟨u,rfl,t,rfl⟩:=mC r;exact call_int_int ⟨.int i,H,I,⟨_,rfl⟩,q⟩
 . obtain⟨u,rfl,r1⟩:=mC r;cases r1;exact call_int_bool ⟨.int (if k then 1 else 0),H,I.tok _,⟨_,rfl⟩,q⟩
end
structure zdD(h:Heap)(x dx C:Addr)(mA:Str->Option Value):Prop where
 obj:h.get? x=some (W.instObj C dx)
 ns:h.Ns1 dx mA
 ne:dx≠x
theorem zdz{h:Heap}{dx:Addr}{mA:Str->Option Value}(n:h.Ns1 dx mA): ∃od,h.get? dx=some od/\ ∀name,PySem.W.lookIn name od=some (mA name):=by
 obtain⟨o,es,ep,ho,hd,hk,_,hm⟩:=n
 refine⟨o,ho,λname=> ?_⟩
 have e:=hm name
 unfold nsFind findBy at e
 rw[<-Array.find?_toList]at e
 unfold PySem.W.lookIn
 rw[hd]
 dsimp only
 split
 . rename_i y q
   rw[q]at e;exact congrArg some e
 . rename_i q
   rw[q]at e;have a:es.toList.any (·.refKey)=false:=by
    rw[List.any_eq_false];intro y hy;obtain⟨z,t,zfX⟩:=hk y (Array.mem_toList_iff.mp hy);simp[DictEntry.refKey,zfX]
   have a': ¬es.toList.any (·.refKey)=true:=by rw[a];exact Bool.false_ne_true
   rw[if_neg a'];exact congrArg some e
theorem zdD.look{h:Heap}{x dx C:Addr}{mA:Str->Option Value}(I:zdD h x dx C mA): ∃od,PySem.W.InstAt h x (W.instObj C dx) C (some od)/\ ∀name,PySem.W.lookIn name od=some (mA name):=
 let⟨od,ho,hl⟩:=zdz I.ns
 ⟨od,⟨I.obj,rfl,rfl,ho⟩,hl⟩
section
variable {prog:Program}{w:World}{E:Value->Shared->Prop}{K:W.Frag}{x f:Addr}{mA:Str->Option Value}{name:Str}{v:Value}
theorem ziY{zwt:Bool}{Q:Value->Shared->Prop}(X:K.In s.heap)(I:zdD s.heap x dx C mA)(hg:W.plainGet K C name=true)(hh:PySem.W.hasDictIn K C=true)
 (ha:W.findIn K (.ref C) name=some none) (hv:mA name=some v) (hv':PySem.W.handedIn v=true) (h:Q v {s with toks:=s.toks+1}):
 wpAny (model prog w) A (getAttr (.ref x) name zwt) Q E s:=by
 obtain⟨od,J,hl⟩:=I.look
 exact PySem.W.get_value X J (PySem.W.plainGet_of hg).1 (PySem.W.findObj_own hh ha rfl (by rw[hl,hv])) hv' h
theorem zjA{ns:List Str}{Q:Unit->Shared->Prop}(X:K.In s.heap)(I:zdD s.heap x dx C mA)
 (hs:W.findIn K (.ref C) "__setattr__" =some (some (.builtin "object.__setattr__"))) (hp:PySem.W.plainOver K C=true) (ht:PySem.W.takerIn K C name=some none) (hh:PySem.W.hasDictIn K C=true)
 (hw:PySem.Within mA ns) (hsz:ns.length<=sizeLine)
 (h: ∀h',zdD h' x dx C (λy=>if y=name then some v else mA y)->Heap.SameBut dx s.heap h'->Q () {s with heap:=h',toks:=s.toks+2}):
 wpAny (model prog w) A (setAttr (.ref x) name v) Q E s:=by
 obtain⟨od,J,hl⟩:=I.look
 refine PySem.W.set_plain X J hs (PySem.W.osa_open (s:={s with toks:=s.toks+1}) (r:=none) X J hp ht λb=> ?_)
 obtain⟨cd,hc,hd'⟩:=PySem.W.any_some hh
 have hx:s.heap.get? x=some ⟨.ref C,some dx,.plain,#[]⟩:=I.obj
 refine wpAny_bind (wpAny_pure (wpAny_bind (wpAny_bind (wpAny_loadPart hx (wpAny_bind (PySem.W.Looks.here (s:={s with toks:=s.toks+1}) (PySem.W.looks_clsIn X hc) ?_))))))
 rw[hd']
 refine wpAny_pure (a:=some dx) (wpAny_bind (wpAny_pure (wpAny_bind ?_)))
 refine wpAny_nsSet1 (s:={s with toks:=s.toks+1}) I.ns λh' hn2 hs2=> ?_
 obtain⟨oD,esD,epD,hoD,hdD,hcD⟩:=hn2.count (PySem.Within.cons name v hw)
 refine wpAny_bind (wpAny_lookBehind hoD (by rw[hdD];exact pastItsLine_dict (Nat.le_trans hcD (by rw[List.length_cons];omega))) ?_)
 exact wpAny_pure (h _ ⟨(hs2.2 _ (Ne.symm I.ne)).trans I.obj,hn2,I.ne⟩ hs2)
theorem zfC{R:Result->Shared->Prop}{vs:List Value}{kw:List (Str×Value)}(X:K.In s.heap)(hm:PySem.W.makesIn K C=true)
 (hi:W.findIn K (.ref C) "__init__" =some (some (.ref f))) (hf:PySem.W.typeIn K (.ref f)=some (.type "function"))
 (h:codeAny (model prog w) (A.under (.builtin "type.__call__" ⟨.ref C::vs,kw⟩)) (.call (.ref f) ⟨.ref (s.heap.objs.size+1)::vs,kw⟩) (PySem.W.InitBack (s.heap.objs.size+1) R)
  {s with heap:=(s.heap.push W.emptyDict).push (W.instObj C s.heap.objs.size)}):
 codeAny (model prog w) A (.call (.ref C) ⟨vs,kw⟩) R s:=by
 obtain⟨hh,g,d,t,os⟩:=s
 exact PySem.W.make_core (PySem.W.makes_of X hm) (PySem.W.looks_findIn X hi) (λself=>PySem.W.bind_fn X self hf) (.inl rfl) h
end
def gE(f:Str)(v:V):List (Str×V)->List (Str×V)
 | []=>[(f,v)]
 |(g,x)::r=>if g=f then(g,v)::r else(g,x)::gE f v r
theorem rC(f g:Str)(v:V): ∀fs:List (Str×V),(gE f v fs).lookup g=if g=f then some v else fs.lookup g
 | []=>by
  show List.lookup g [(f,v)]=_
  by_cases h:g=f
  . have hb:(g==f)=true:=beq_iff_eq.mpr h;simp only[List.lookup,hb,if_pos h]
  . have hb:(g==f)=false:=beq_eq_false_iff_ne.mpr h;simp only[List.lookup,hb,if_neg h]
 |(k,x)::r=>by
  have ih:=rC f g v r;rw[show gE f v ((k,x)::r)=(if k=f then(k,v)::r else(k,x)::gE f v r)from rfl]
  by_cases hk:k=f
  . rw[if_pos hk]
    by_cases h:g=k
    . have hb:(g==k)=true:=beq_iff_eq.mpr h;simp only[List.lookup,hb,if_pos (h.trans hk)]
    . have hb:(g==k)=false:=beq_eq_false_iff_ne.mpr h;simp only[List.lookup,hb,if_neg (λe:g=f=>h (e.trans hk.symm))]
  . rw[if_neg hk]
    by_cases h:g=k
    . have hb:(g==k)=true:=beq_iff_eq.mpr h;simp only[List.lookup,hb,if_neg (λe:g=f=>hk (h.symm.trans e))]
    . have hb:(g==k)=false:=beq_eq_false_iff_ne.mpr h;simp only[List.lookup,hb];exact ih
theorem qS(f:Str)(v:V): ∀fs:List (Str×V),f∈(gE f v fs).map (·.1)/\ ∀g,g∈fs.map (·.1)->g∈(gE f v fs).map (·.1)
 | []=>⟨by simp[gE],λg h=>by simp at h⟩
 |(k,x)::r=>by
  obtain⟨i1,i2⟩:=qS f v r;rw[show gE f v ((k,x)::r)=(if k=f then(k,v)::r else(k,x)::gE f v r)from rfl]
  by_cases hk:k=f
  . rw[if_pos hk];subst hk;exact⟨by simp,λg h=>by simpa using h⟩
  . rw[if_neg hk];refine⟨?_,λg h=> ?_⟩
    . rw[List.map_cons];exact List.mem_cons_of_mem _ i1
    . rw[List.map_cons]at h ⊢
      rcases List.mem_cons.mp h with e|e
      . exact List.mem_cons.mpr (.inl e)
      . exact List.mem_cons_of_mem _ (i2 g e)
theorem rP(f:Str)(v:V): ∀fs:List (Str×V),(gE f v fs).length<=fs.length+1
 | []=>by simp[gE]
 |(k,x)::r=>by
  have ih:=rP f v r;rw[show gE f v ((k,x)::r)=(if k=f then(k,v)::r else(k,x)::gE f v r)from rfl]
  by_cases hk:k=f
  . rw[if_pos hk,List.length_cons,List.length_cons];omega
  . rw[if_neg hk,List.length_cons,List.length_cons];omega
theorem nA.some_of{v:V}{o:Option Value}(r:nA (some v) o): ∃u,o=some u/\bT v u:=by
 cases o with
 |none=>exact(show False from r).elim
 |some u=>exact⟨u,rfl,r⟩
theorem zdU{v:V}{u:Value}(r:bT v u):PySem.W.handedIn u=true:=by
 cases v with
 |non=>cases(show u=Value.none from r);rfl
 |bl b=>cases(show u=Value.bool b from r);rfl
 |int i=>obtain⟨t,e⟩:=(show ∃t,u=Value.int i t from r);cases e;rfl
 |str x=>obtain⟨t,e⟩:=(show ∃t,u=Value.str x t from r);cases e;rfl
 |byt b=>obtain⟨t,e⟩:=(show ∃t,u=Value.bytes b t from r);cases e;rfl
 |flt b=>obtain⟨t,e⟩:=(show ∃t,u=Value.float b t from r);cases e;rfl
 |ref a=>cases(show u=Value.ref a from r);rfl
 |ty n=>cases(show u=Value.type n from r);rfl
section
variable {P:Program}{w:World}{a:Addr}{fs fs':List (Str×V)}
theorem zco(hok:kU P w H h)(e:H a=some (.ins C dx fs)): ∃mA,zdD h a dx C mA/\(∀f,nA (fs.lookup f) (mA f))/\PySem.Within mA (fs.map (·.1))/\fs.length<=1000/\H dx=some (.own a):=by
 obtain⟨d,z,ne,ob,mA,n,r,q⟩:=(show dE P w H h a (.ins C dx fs)from hok a _ e)
 exact⟨mA,⟨ob,n,ne⟩,r,q,z,d⟩
end
structure Cls(K:W.Frag)(C:Addr):Prop where
 pg:W.plainGet K C Str.empty=true
 hd:PySem.W.hasDictIn K C=true
 po:PySem.W.plainOver K C=true
 sa:W.findIn K (.ref C) "__setattr__" =some (some (.builtin "object.__setattr__"))
theorem Cls.get{K:W.Frag}{C:Addr}(c:Cls K C)(f:Str):W.plainGet K C f=true:=c.pg
def lD(K:W.Frag)(C:Addr)(f:Str):Prop:=W.findIn K (.ref C) f=some none
theorem lD.taker{K:W.Frag}{C:Addr}{f:Str}(n:lD K C f):PySem.W.takerIn K C f=some none:=by
 unfold PySem.W.takerIn
 rw[show W.findIn K (.ref C) f=some none from n]
 rfl
section
variable {σ:St}{a:Addr}{fs:List (Str×V)}{f:Str}{v:V}{E:Value->Shared->Prop}
theorem zaZ{b:Bool}{Q:Value->Shared->Prop}(I:aX X aB σ H s)(e:H a=some (.ins C dx fs))(c:Cls X.K C)(n:lD X.K C f)(l:fs.lookup f=some v)
 (h: ∀u s',aX X aB σ H s'->bT v u->Q u s'):wpAny (model X.prog X.w) A (getAttr (.ref a) f b) Q E s:=by
 obtain⟨mA,O,r,_,_,_⟩:=zco I.hok e
 obtain⟨u,hu,ru⟩:=nA.some_of (v:=v) (o:=mA f) (by rw[<-l];exact r f)
 exact ziY I.kIn O (c.get f) c.hd n hu (zdU ru) (h u _ (I.tok _) ru)
theorem zaL{y:V}{u:Value}{Q:Unit->Shared->Prop}(I:aX X aB σ H s)(e:H a=some (.ins C dx fs))(c:Cls X.K C)(n:lD X.K C f)(hl:fs.length<1000)(ry:bT y u)
 (h: ∀s',aX X aB σ (aO H a (.ins C dx (gE f y fs))) s'->Q () s'):wpAny (model X.prog X.w) A (setAttr (.ref a) f u) Q E s:=by
 obtain⟨mA,O,r,wi,_,ho⟩:=zco I.hok e
 have hz:(fs.map (·.1)).length<=sizeLine:=by rw[aW,sizeLine_eq];omega
 refine zjA I.kIn O c.sa c.po n.taker c.hd wi hz λh' O' sb=>h _ ?_
 have hd: ∃o,h'.get? dx=some o:=let⟨o,_,_,e',_⟩:=O'.ns;⟨o,e'⟩
 refine I.write (x:=a) (e:=dx) (by rw[e];exact True.intro) (.inr ho) (λb q hb z=>(sb.2 b hb).trans z) hd ?_
 refine⟨by rw[aG O.ne];exact ho,?_,O.ne,O'.obj,_,O'.ns,λg=> ?_,λg hg=> ?_⟩
 . have:=rP f y fs;omega
 . show nA ((gE f y fs).lookup g) (if g=f then some u else mA g)
   rw[rC]
   by_cases q:g=f
   . rw[if_pos q,if_pos q];exact ry
   . rw[if_neg q,if_neg q];exact r g
 . by_cases q:g=f
   . rw[q];exact(qS f y fs).1
   . refine(qS f y fs).2 g (wi g λz=>hg ?_);show(if g=f then some u else mA g)=none;rw[if_neg q];exact z
theorem aX.made(I:aX X aB σ H s):aX X aB σ (aO (aO H s.heap.objs.size (.own (s.heap.objs.size+1))) (s.heap.objs.size+1) (.ins C s.heap.objs.size []))
 {s with heap:=(s.heap.push W.emptyDict).push (W.instObj C s.heap.objs.size)}:=by
 have e1:(s.heap.push W.emptyDict).get? s.heap.objs.size=some W.emptyDict:=Heap.get?_push_size s.heap rfl
 have e2:((s.heap.push W.emptyDict).push (W.instObj C s.heap.objs.size)).get? (s.heap.objs.size+1)=some (W.instObj C s.heap.objs.size):=by
  have:=Heap.get?_push_size (s.heap.push W.emptyDict) (o:=W.instObj C s.heap.objs.size) rfl
  rwa [Heap.size_push]at this
 have e3:(s.heap.push W.emptyDict).Ns s.heap.objs.size (λ_=>none):=⟨W.emptyDict,#[],_,e1,rfl,(λe he=>absurd he (by simp)),λ_=>rfl⟩
 have I1:=I.laid (a:=s.heap.objs.size) (o:= .own (s.heap.objs.size+1)) (h':=s.heap.push W.emptyDict) (t':=s.toks) (λb u q=>Heap.get?_push_of_some _ q) (Nat.le_refl _) ⟨_,e1⟩
 refine I1.laid (a:=s.heap.objs.size+1) (o:= .ins C s.heap.objs.size []) (t':=s.toks) (λb u q=>Heap.get?_push_of_some _ q) (Nat.le_of_eq (Heap.size_push _ _)) ?_
 have ne:s.heap.objs.size≠s.heap.objs.size+1:=Nat.ne_of_lt (Nat.lt_succ_self _)
 refine⟨by rw[aG ne,aF],Nat.zero_le _,ne,e2,λ_=>none,(Heap.Ns1.of_empty e3).at λo q=>Heap.get?_push_of_some _ q,λ_=>True.intro,λy hy=>absurd rfl hy⟩
theorem zjk{prog:Program}{w:World}{env:Env}{e:Expr}{f:Str}{pos:Pos}{s:Shared}{Q:Value->Shared->Prop}(hb:attributeBase e f env (eval e env)=eval e env)
 (h:wpAny (model prog w) A (eval e env) (λo s₁=>wpAny (model prog w) A (getAttr o f true) Q E s₁) E s):wpAny (model prog w) A (eval (.Attribute e f pos) env) Q E s:=
 Attribute_any_ h (by rw[arm_eval_Attribute,hb])
end
def zmA(K:W.Frag)(ta:TE)(f:Str):TE:= λσ H Q=>ta σ H λx H1=> ∃a C dx fs v,x= .ref a/\H1 a=some (.ins C dx fs)/\Cls K C/\lD K C f/\fs.lookup f=some v/\Q v H1
def zwA(K:W.Frag)(ta tv:TE)(f:Str):TS:= λD σ H=>tv σ H λy H1=>ta σ H1 λx H2=> ∃a C dx fs,x= .ref a/\H2 a=some (.ins C dx fs)/\Cls K C/\lD K C f/\fs.length<1000/\
 D.nx σ (aO H2 a (.ins C dx (gE f y fs)))
section
variable {o e value:Expr}{f:Str}{sW uI:Pos}{tv:TE}
theorem fG(he:PE X e ta)(hb:attributeBase e f X.env (eval e X.env)=eval e X.env):PE X (.Attribute e f pos) (zmA X.K ta f):=by
 intro aB s σ H Q I h
 refine zjk hb (dP (he aB s σ H _ I h) λu s1 ⟨x,H1,I1,rx,a,C,dx,fs,v,ex,ea,c,n,l,q⟩=> ?_)
 subst ex
 obtain rfl:u=Value.ref a:=rx
 exact zaZ I1 ea c n l λu' s2 I2 ru=>⟨v,H1,I2,ru,q⟩
theorem zbA(ha:PE X o ta)(hv:PE X value tv)(hs:swapsWith value (some (.Attribute o f sW)) pos.line X.env=pure false):PS X (.Assign [.Attribute o f sW] value pos) (zwA X.K ta tv f):=by
 intro aB s σ H D I h
 refine plainObj_wpAny_Assign_Attribute (dP (hv aB s σ H _ I h) λu s1 ⟨y,H1,I1,ry,q⟩=>dP (ha aB s1 σ H1 _ I1 q) λov s2 ⟨x,H2,I2,rx,a,C,dx,fs,ex,ea,c,n,l,q2⟩=> ?_) hs
 subst ex
 obtain rfl:ov=Value.ref a:=rx
 exact zaL I2 ea c n l ry λs3 I3=>⟨σ,_,I3,q2⟩
end
section
variable {σ:St}{E:Value->Shared->Prop}{Q:Value->Shared->Prop}{c:Value}{b:Bool}
end
structure eV(k:Nat)(A:Around):Prop where
 hd:A.handled=none
 dp:A.depth+3 * k+5<recursionLimit
 un:A.units+16 * k+200<cLine
 gd:A.guards=some []
theorem eV.mono{j k:Nat}{A:Around}(r:eV k A)(h:j<=k):eV j A:=⟨r.hd,Nat.lt_of_le_of_lt (Nat.add_le_add_right (Nat.add_le_add_left (Nat.mul_le_mul_left 3 h) _) 5) r.dp,Nat.lt_of_le_of_lt (Nat.add_le_add_right (Nat.add_le_add_left (Nat.mul_le_mul_left 16 h) _) 200) r.un,r.gd⟩
theorem lt3{a k b c d m n:Nat}(z:c+d<=m)(h:a+m * (k+1)+b<n):a+c+m * k+b<n:=by
 refine Nat.lt_of_le_of_lt (Nat.add_le_add_right ?_ b) h
 rw[Nat.mul_succ,Nat.add_assoc a,Nat.add_comm c]
 exact Nat.add_le_add_left (Nat.add_le_add_left (Nat.le_trans (Nat.le_add_right _ _) z) _) a
theorem eV.deeper{k:Nat}{A:Around}(r:eV (k+1) A)(env:Env):eV k (A.deeper env):=
 ⟨r.hd,lt3 (d:=0) (by decide) r.dp,lt3 (d:=0) (by decide) r.un,r.gd⟩
theorem zbl{A:Around}{C:Addr}{us:List Value}{kw:List (Str×Value)}:(A.under (.builtin "type.__call__" ⟨.ref C::us,kw⟩)).depth=A.depth+1:=by
 first|rfl|simp[Around.under,Code.weight,Code.isCreation,Code.isGuard,Code.isCaller,Code.frames,Code.isFrame,guardIds]
theorem zbr{A:Around}{C:Addr}{us:List Value}{kw:List (Str×Value)}:(A.under (.builtin "type.__call__" ⟨.ref C::us,kw⟩)).units=A.units+1:=by
 first|rfl|simp[Around.under,Code.cUnits,Code.frames,Code.isFrame]
theorem m9{A:Around}{C:Addr}{us:List Value}{kw:List (Str×Value)}:(A.under (.builtin "type.__call__" ⟨.ref C::us,kw⟩)).guards=A.guards:=by
 first|rfl|simp[Around.under,Code.guards,Code.isGuard,pushGuards,guardIds]
theorem eV.make{k:Nat}{A:Around}(r:eV (k+1) A)(C:Addr)(us:List Value)(kw:List (Str×Value)):eV k (A.under (.builtin "type.__call__" ⟨.ref C::us,kw⟩)):=
 ⟨r.hd,by have:=r.dp;rw[zbl];omega,by have:=r.un;rw[zbr];omega,by rw[m9];exact r.gd⟩
theorem eV.depth{k:Nat}{A:Around}(r:eV k A):A.depth<recursionLimit:=by have:=r.dp;omega
theorem eV.units{k:Nat}{A:Around}(r:eV k A):A.units+64<cLine:=by have:=r.un;omega
def dN:TA:= λ_ H Q=>Q [] H
def bL(ta:TE)(tr:TA):TA:= λσ H Q=>ta σ H λx H1=>tr σ H1 λxs H2=>Q (x::xs) H2
section
variable {e:Expr}{t:TA}
theorem aC:PA X [] dN:= λ_ _ _ _ H Q I h=>Calls.spliced_nil ⟨[],H,I,.nil,h⟩
theorem aA(ha:PE X e te)(hr:PA X es t)(hs:starEach (e::es) X.env=(false,eval e X.env)::starEach es X.env:=by rfl):PA X (e::es) (bL te t):=by
 intro pos aB s σ H Q I h
 rw[hs]
 show wpAny _ _ (spliced ((false,eval e X.env)::backTo pos (starEach es X.env))) _ _ s
 refine Calls.spliced_cons (dP (ha aB s σ H _ I h) λu s1 ⟨x,H1,I1,r1,q1⟩=> ?_)
 exact dP (hr pos aB s1 σ H1 _ I1 q1) λus s2 ⟨xs,H2,I2,r2,q2⟩=>⟨x::xs,H2,I2,.cons r1 r2,q2⟩
def zmn(t:TA):TE:= λσ H Q=>t σ H λxs H1=>xs.length<=sizeLine/\ ∀p,H1 p=none->Q (.ref p) (aO H1 p (.tup xs))
def qB(t:TA):TE:= λσ H Q=>t σ H λxs H1=>xs.length<=sizeLine/\ ∀p,H1 p=none->Q (.ref p) (aO H1 p (.lst xs))
theorem eP{x1}(h:PA X es t):PE X (.Tuple es x1 pos) (zmn t):=by
 intro aB s σ H Q I hq
 refine wpAny_Tuple_spliced (dP (h pos aB s σ H _ I hq) λus s1 ⟨xs,H1,I1,r,z,q⟩=>⟨by rw[<-r.length];exact z,?_⟩)
 have hf:H1 s1.heap.objs.size=none:=I1.hok.fresh (Nat.le_refl _)
 refine⟨.ref s1.heap.objs.size,aO H1 s1.heap.objs.size (.tup xs),I1.laid (t':=s1.toks) (λb u e=>Heap.get?_push_of_some _ e) (Nat.le_refl _) ?_,rfl,q _ hf⟩
 exact⟨z,us,r,⟨_,Heap.get?_push_size _ rfl,rfl,_,rfl⟩⟩
theorem bV(h:PA X es t):PE X (.List es pos) (qB t):=by
 intro aB s σ H Q I hq
 refine wpAny_List_spliced (dP (h pos aB s σ H _ I hq) λus s1 ⟨xs,H1,I1,r,z,q⟩=>⟨by rw[<-r.length];exact z,?_⟩)
 have hf:H1 s1.heap.objs.size=none:=I1.hok.fresh (Nat.le_refl _)
 refine⟨.ref s1.heap.objs.size,aO H1 s1.heap.objs.size (.lst xs),I1.laid (t':=s1.toks) (λb u e=>Heap.get?_push_of_some _ e) (Nat.le_refl _) ?_,rfl,q _ hf⟩
 exact⟨z,us,0,r,Heap.get?_push_size _ rfl⟩
end
abbrev Sp:=List V->Hp->VK->XK->Prop
abbrev w6:=List Env->Hp->Shared->XK->Value->Shared->Prop
structure nK(P:Program)(w:World)(K:W.Frag)(mg:Str->Option Value)(base:Heap)(A:Around)(outer:List Env)(s:Shared)(H:Hp):Prop where
 frames:A.frames=some outer
 mod:Mod K mg base
 bs: ∀b o,base.get? b=some o->s.heap.get? b=some o/\H b=none
 bsz:base.objs.size<=s.heap.objs.size
 funs:s.heap.FunFrames base outer
 frf: ∀b∈frs outer,H b=none
 hok:kU P w H s.heap
 bare:AllBare s.gens
def CE(outer:List Env)(P:Program)(w:World)(H:Hp)(s:Shared)(Q:VK)(u:Value)(s':Shared):Prop:=
 ∃v H',s'.os=s.os/\AllBare s'.gens/\Un (frs outer) [] H H' s.heap s'.heap/\kU P w H' s'.heap/\bT v u/\Q v H'
def CR(CX:w6)(outer:List Env)(P:Program)(w:World)(H:Hp)(s:Shared)(Q:VK)(E:XK)(r:Result)(s':Shared):Prop:=
 match r with
 | .ok (.ret u)=>CE outer P w H s Q u s'
 | .ok _=>False
 | .error e=>CX outer H s E e s'
structure dG(P:Program)(w:World)(K:W.Frag)(mg:Str->Option Value)(base:Heap)(CX:w6)(k:Nat)(f:Addr)(fd:FuncData)(ps:List Str)(sp:Sp):Prop where
 len: ∀vs H Q E,sp vs H Q E->vs.length=ps.length
 run: ∀(A:Around) (outer:List Env) (s:Shared) (H:Hp) (args:Args) (us:List Value) (vs:List V) (Q:VK) (E:XK),eV k A->nK P w K mg base A outer s H->BindsTo s fd args (ps.zip us)->bP vs us->sp vs H Q E->
  codeAny (model P w) A (.call (.ref f) args) (CR CX outer P w H s Q E) s
theorem dG.mono{P:Program}{w:World}{K:W.Frag}{mg:Str->Option Value}{base:Heap}{CX:w6}{j k:Nat}{f:Addr}{fd:FuncData}{ps:List Str}{sp:Sp}(F:dG P w K mg base CX j f fd ps sp)(h:j<=k):
 dG P w K mg base CX k f fd ps sp:=⟨F.len,λA outer s H args us vs Q E hr=>F.run A outer s H args us vs Q E (hr.mono h)⟩
theorem nK.make{P:Program}{w:World}{K:W.Frag}{mg:Str->Option Value}{base:Heap}{A:Around}{outer:List Env}{s:Shared}{H:Hp}(e:nK P w K mg base A outer s H)(C:Addr)(us:List Value)(kw:List (Str×Value)):
 nK P w K mg base (A.under (.builtin "type.__call__" ⟨.ref C::us,kw⟩)) outer s H:=⟨by first|exact e.frames|(simpa [Around.under,Code.envs,Code.isFrame,pushEnvs]using e.frames),e.mod,e.bs,e.bsz,e.funs,e.frf,e.hok,e.bare⟩
section
variable {σ:St}{s':Shared}
theorem aX.env0(I:aX X aB σ H s):nK X.prog X.w X.K X.mg X.base X.A X.stack s H:=
 ⟨I.ok.frames,I.ok.mod,I.bs,Nat.le_trans I.ok.bsz I.sz,I.stack,I.stkFree,I.hok,I.bare⟩
theorem aX.after{Q:VK}{u:Value}(I:aX X aB σ H s)(h:CE X.stack X.prog X.w H s Q u s'):EP X aB σ Q u s':=by
 obtain⟨v,H',os,bare,un,hok,r,q⟩:=h
 obtain⟨hh,g,d,t,os'⟩:=s'
 obtain rfl:os'=s.os:=os
 exact⟨v,H',I.call (h':=hh) (g':=g) (d':=d) (t':=t) (ch:=[]) un hok bare (λb z=>absurd z (by simp)),r,q⟩
end
def gH(sp:Sp)(dvs:List V)(E:XK)(t:TA):TE:= λσ H Q=>t σ H λvs H1=>sp (vs++dvs) H1 Q E
def zpR(C:Addr)(sp:Sp)(dvs:List V)(E:XK)(t:TA):TE:= λσ H Q=>t σ H λvs H1=> ∀x dx,H1 x=none->H1 dx=none->dx≠x->
 sp (.ref x::(vs++dvs)) (aO (aO H1 dx (.own x)) x (.ins C dx [])) (λv H2=>v= .non/\Q (.ref x) H2) E
def lJ(K:W.Frag)(fd:FuncData)(ps:List Str)(ds:List Value):Prop:=
 ∀(s:Shared) (us:List Value),K.In s.heap->(us++ds).length=ps.length->BindsTo s fd ⟨us,[]⟩ (ps.zip (us++ds))
theorem lJ.all{K:W.Frag}{fd:FuncData}{ps:List Str}(h: ∀us:List Value,us.length=ps.length->bindArgs fd ⟨us,[]⟩=pure (ps.zip us)):lJ K fd ps []:= λs us _ hl=>by
 rw[List.append_nil]at hl ⊢
 exact .of_eq (h us hl)
def sQ(CX:w6)(X:Cx)(E:XK):Prop:= ∀(aB:List (Addr×Obj)) (σ:St) (H:Hp) (s:Shared) (e:Value) (s':Shared),aX X aB σ H s->CX X.stack H s E e s'->X.xe e s'
section
variable {CX:w6}{k:Nat}{f:Addr}{fd:FuncData}{ps:List Str}{sp:Sp}{dvs:List V}{ds:List Value}{E:XK}{x m:Str}{xT:Pos}{e o:Expr}{t:TA}
theorem znD{aB:List (Addr×Obj)}{σ:St}{H:Hp}{s:Shared}{Q:VK}{us:List Value}{vs:List V}(F:dG X.prog X.w X.K X.mg X.base CX k f fd ps sp)(hr:eV k X.A)(hb:lJ X.K fd ps ds)(hd:bP dvs ds)(hx:sQ CX X E)
 (I:aX X aB σ H s) (r:bP vs us) (h:sp (vs++dvs) H Q E):wpAny (model X.prog X.w) X.A (call (.ref f) us) (EP X aB σ Q) X.xe s:=by
 have r2:bP (vs++dvs) (us++ds):=r.append hd
 have hl:(us++ds).length=ps.length:=by rw[<-r2.length];exact F.len _ _ _ _ h
 refine wpAny_call (codeAny_mono (F.run X.A X.stack s H ⟨us,[]⟩ (us++ds) (vs++dvs) Q E hr I.env0 (hb s us I.kIn hl) r2 h) λr s' hq=> ?_)
 cases r with
 |error e=>exact hx aB σ H s e s' I hq
 |ok fl=>
  cases fl with
  |ret u=>exact I.after hq
  |next=>exact False.elim hq
  |brk=>exact False.elim hq
  |cont=>exact False.elim hq
theorem gP(F:dG X.prog X.w X.K X.mg X.base CX k f fd ps sp)(hr:eV k X.A)(hg:Gl X x)(hm:X.mg x=some (.ref f))(hk:W.keepIn X.K (.ref f)=true)(hb:lJ X.K fd ps ds)(hd:bP dvs ds)(hx:sQ CX X E)
 (ha:PA X (e::es) t) (hdb:(x==("__debug__" :Str))=false:=by decide) (he:starEach (e::es) X.env=(false,eval e X.env)::starEach es X.env:=by rfl) (jK:(backTo pos (starEach es X.env)).any (·.1)=false:=by rfl):
 PE X (.Call (.Name x p) (e::es) [] pos) (gH sp dvs E t):=by
 intro aB s σ H Q I h
 refine wpAny_Call_Name_kw (yB I hg hm ?_ hdb)
 refine PySem.W.callWith_K (h₀:=X.base) I.ok.mod.kin hk (dP (ha pos aB s σ H _ I h) λus s1 ⟨vs,H1,I1,r,q⟩=>⟨I1.kIn,?_⟩) he jK
 exact znD F hr hb hd hx I1 r q
structure Mk(K:W.Frag)(C f:Addr):Prop where
 makes:PySem.W.makesIn K C=true
 init:W.findIn K (.ref C) "__init__" =some (some (.ref f))
 fn:W.isFn K (.ref f)=true
 kp:W.keepIn K (.ref C)=true
theorem zgb{aB:List (Addr×Obj)}{σ:St}{H:Hp}{s:Shared}{Q:VK}{us:List Value}{vs:List V}(M:Mk X.K C f)(F:dG X.prog X.w X.K X.mg X.base CX k f fd ps sp)(hr:eV (k+1) X.A)(hb:lJ X.K fd ps ds)(hd:bP dvs ds)
 (hx:sQ CX X E) (I:aX X aB σ H s) (r:bP vs us)
 (h: ∀x dx,H x=none->H dx=none->dx≠x->sp (.ref x::(vs++dvs)) (aO (aO H dx (.own x)) x (.ins C dx [])) (λv H2=>v= .non/\Q (.ref x) H2) E):
 wpAny (model X.prog X.w) X.A (call (.ref C) us) (EP X aB σ Q) X.xe s:=by
 have hq:=h (s.heap.objs.size+1) s.heap.objs.size (I.hok.fresh (Nat.le_succ _)) (I.hok.fresh (Nat.le_refl _)) (Nat.ne_of_lt (Nat.lt_succ_self _))
 have I2:=aX.made (C:=C) I
 have r2:bP (V.ref (s.heap.objs.size+1)::(vs++dvs)) (Value.ref (s.heap.objs.size+1)::(us++ds)):= .cons rfl (r.append hd)
 have hl:(Value.ref (s.heap.objs.size+1)::us++ds).length=ps.length:=by
  have e:=r2.length;rw[F.len _ _ _ _ hq]at e;exact e.symm
 refine wpAny_call (zfC (f:=f) I.kIn M.makes M.init (beq_iff_eq.mp M.fn) (codeAny_mono (F.run _ X.stack _ _ ⟨Value.ref (s.heap.objs.size+1)::us,[]⟩ (Value.ref (s.heap.objs.size+1)::(us++ds)) _ _ E (hr.make C us [])
  (I2.env0.make C us []) (hb _ (Value.ref (s.heap.objs.size+1)::us) I2.kIn hl) r2 hq) λr s' hq'=> ?_))
 cases r with
 |error e=>exact hx aB σ _ _ e s' I2 hq'
 |ok fl=>
  cases fl with
  |ret u=>
   obtain⟨v,H',I3,rv,ev,q3⟩:=I2.after hq';subst ev;exact⟨rv,⟨V.ref (s.heap.objs.size+1),H',I3,rfl,q3⟩⟩
  |next=>exact False.elim hq'
  |brk=>exact False.elim hq'
  |cont=>exact False.elim hq'
theorem zda(M:Mk X.K C f)(F:dG X.prog X.w X.K X.mg X.base CX k f fd ps sp)(hr:eV (k+1) X.A)(hg:Gl X x)(hm:X.mg x=some (.ref C))(hb:lJ X.K fd ps ds)(hd:bP dvs ds)(hx:sQ CX X E)
 (ha:PA X (e::es) t) (hdb:(x==("__debug__" :Str))=false:=by decide) (he:starEach (e::es) X.env=(false,eval e X.env)::starEach es X.env:=by rfl) (jK:(backTo pos (starEach es X.env)).any (·.1)=false:=by rfl):
 PE X (.Call (.Name x p) (e::es) [] pos) (zpR C sp dvs E t):=by
 intro aB s σ H Q I h
 refine wpAny_Call_Name_kw (yB I hg hm ?_ hdb)
 refine PySem.W.callWith_K (h₀:=X.base) I.ok.mod.kin M.kp (dP (ha pos aB s σ H _ I h) λus s1 ⟨vs,H1,I1,r,q⟩=>⟨I1.kIn,?_⟩) he jK
 exact zgb M F hr hb hd hx I1 r q
end
section
variable {CX:w6}{k:Nat}{f:Addr}{fd:FuncData}{ps ks:List Str}{sp:Sp}{E:XK}{x m:Str}{xT zEk:Pos}{e o:Expr}{kws:List Keyword}{t tk:TA}{nm:Option Str}
variable {g:List Value->List Value->List Value}{gV:List V->List V->List V}
end
structure bS(N P:List Str)(sc:Scope):Prop where
 kind:sc.kind= .function
 co:sc.isCoroutine=false
 gen:sc.isGenerator=false
 nd:N.Nodup
 pre:N.take P.length=P
 par: ∀x∈P,sc.names.lookup x=some .local\/sc.names.lookup x=some .cell
 nofree: ∀y∈sc.names,y.2≠ .free
theorem bS.of{N P:List Str}{sc:Scope}(a:sc.kind= .function)(b:sc.isCoroutine=false)(c:sc.isGenerator=false)(d:N.take P.length=P)(h:N.Nodup ∧ (∀x∈P,sc.names.lookup x=some .local ∨ sc.names.lookup x=some .cell) ∧ ∀y∈sc.names,y.2≠ .free):bS N P sc:=⟨a,b,c,h.1,d,h.2.1,h.2.2⟩
theorem wF{kindOf:Str->Option NameKind}{x:Str}: ∀{binds:List (Str×Value)} {m:Str->Option Value},(∀v,(x,v)∉binds)->bindL kindOf binds m x=m x
 | [],_,_=>rfl
 |(n,v)::r,m,h=>by
  unfold bindL;rw[wF λw hw=>h w (List.mem_cons_of_mem _ hw)]
  split
  . have:x≠n:=by rintro rfl;exact h v List.mem_cons_self
    simp[this]
  . rfl
theorem qR{kindOf:Str->Option NameKind}{x:Str}: ∀{binds:List (Str×Value)} {m:Str->Option Value},(∀v,(x,v)∉binds)->bindC kindOf binds m x=m x
 | [],_,_=>rfl
 |(n,v)::r,m,h=>by
  unfold bindC;rw[qR λw hw=>h w (List.mem_cons_of_mem _ hw)]
  split
  . rfl
  . have:x≠n:=by rintro rfl;exact h v List.mem_cons_self
    simp[this]
theorem qM{kindOf:Str->Option NameKind}{x:Str}{v:Value}: ∀{P:List Str} {vs:List Value} {i:Nat} {m:Str->Option Value},P.Nodup->P[i]?=some x->vs[i]?=some v->kindOf x=some .local->
 bindL kindOf (P.zip vs) m x=some v
 | [],_,_,_,_,h,_,_=>by simp at h
 |_::_,[],_,_,_,_,h,_=>by simp at h
 |p::P,w::vs,0,m,nd,h1,h2,hk=>by
  simp at h1 h2;subst h1;subst h2;show bindL kindOf ((p,w)::P.zip vs) m p=_;unfold bindL;rw[wF λv hv=>(List.nodup_cons.mp nd).1 (List.of_mem_zip hv).1,if_pos hk];simp
 |p::P,w::vs,i+1,m,nd,h1,h2,hk=>by
  show bindL kindOf ((p,w)::P.zip vs) m x=_
  unfold bindL;exact qM (i:=i) (List.nodup_cons.mp nd).2 (by simpa using h1) (by simpa using h2) hk
theorem pZ{kindOf:Str->Option NameKind}{x:Str}{v:Value}: ∀{P:List Str} {vs:List Value} {i:Nat} {m:Str->Option Value},P.Nodup->P[i]?=some x->vs[i]?=some v->kindOf x≠some .local->
 bindC kindOf (P.zip vs) m x=some v
 | [],_,_,_,_,h,_,_=>by simp at h
 |_::_,[],_,_,_,_,h,_=>by simp at h
 |p::P,w::vs,0,m,nd,h1,h2,hk=>by
  simp at h1 h2;subst h1;subst h2;show bindC kindOf ((p,w)::P.zip vs) m p=_;unfold bindC;rw[qR λv hv=>(List.nodup_cons.mp nd).1 (List.of_mem_zip hv).1,if_neg hk];simp
 |p::P,w::vs,i+1,m,nd,h1,h2,hk=>by
  show bindC kindOf ((p,w)::P.zip vs) m x=_
  unfold bindC;exact pZ (i:=i) (List.nodup_cons.mp nd).2 (by simpa using h1) (by simpa using h2) hk
def mD(N:List Str)(vs:List V):St:=vs.map some++List.replicate (N.length - vs.length) none
def dM(CX:w6)(P:Program)(w:World)(K:W.Frag)(mg:Str->Option Value)(base:Heap)(N:List Str)(bK:Str)(scope:Scope)(f:Addr)(cd:Value)(A:Around)(outer:List Env)(s:Shared)(H:Hp)(E:XK):Cx where
 prog:=P
 w:=w
 K:=K
 mg:=mg
 base:=base
 A:=A.deeper (envOfC bK scope s.heap.objs.size f cd)
 N:=N
 s₀:=s
 H₀:=H
 env:=envOfC bK scope s.heap.objs.size f cd
 outer:=outer
 stack:=envOfC bK scope s.heap.objs.size f cd::outer
 ex:=[]
 calm:=true
 fn:= λ_=>true
 pn:=[]
 xe:= λe s'=>wpAny (model P w) (A.deeper (envOfC bK scope s.heap.objs.size f cd)) (leaving (envOfC bK scope s.heap.objs.size f cd) e) (λ_ s''=>CX outer H s E e s'') (λe' s''=>CX outer H s E e' s'') s'
theorem r9{sc:Scope}{n:Nat}{x:Str}(h:sc.names.lookup x=some .cell): ∃c,(cellsFrom n sc.names []).lookup x=some c:=by
 have q:=PySem.W.cellsFrom_some sc.names n [] (.inl h)
 exact Option.isSome_iff_exists.mp q
theorem zef{CX:w6}{P:Program}{w:World}{K:W.Frag}{mg:Str->Option Value}{base:Heap}{N ps:List Str}{bK:Str}{scope:Scope}{f:Addr}{cd:Value}{A:Around}{outer:List Env}{s s1:Shared}{H:Hp}{E:XK}{us:List Value}{vs:List V}
 (S:bS N ps scope) (hd:A.handled=none) (e0:nK P w K mg base A outer s H) (hl:vs.length=ps.length) (r:bP vs us)
 (x:InCallC s s.heap.objs.size (bindL (envOfC bK scope s.heap.objs.size f cd).kindOf (ps.zip us) λ_=>none) (cellsFrom (s.heap.objs.size+1) scope.names []) (bindC (envOfC bK scope s.heap.objs.size f cd).kindOf (ps.zip us) λ_=>none) s1):
 aX (dM CX P w K mg base N bK scope f cd A outer s H E) [] (mD N vs) H s1:=by
 have jK:ps.length<=N.length:=by have:=congrArg List.length S.pre;rw[List.length_take]at this;omega
 obtain⟨h1,tk,rfl,hk⟩:=x.done
 have noA: ∀b:Addr,b∉(dM CX P w K mg base N bK scope f cd A outer s H E).ex:= λb z=>absurd (show b∈([]:List Addr)from z) (by simp)
 refine⟨⟨e0.mod,S.kind,rfl,rfl,Nat.le_refl _,λy z c h1 h2=> ?_,λy hy=> ?_,λy c _ h=> ?_,λ_=>hd,Around.frames_deeper e0.frames,.inr ⟨rfl,rfl⟩,λb z=>absurd z (noA b),e0.bs,e0.bsz,λb _ _=>noA b,λb z=>absurd z (noA b),e0.funs,e0.frf⟩,
  rfl,e0.bare,Un.kept hk,⟨_,x.toInCall.ns,λi y v h1 h2 h3=> ?_⟩,λy c h=>⟨_,x.cell y c h⟩,e0.hok.fresh (Nat.le_refl _),λy c h=> ?_,λp hp=>absurd (show p∈([]:List (Addr×Obj))from hp) (by simp),e0.hok.kept hk,?_⟩
 . exact name_of_addr x.apart (PySem.mem_of_lookup h1) (PySem.mem_of_lookup h2)
 . have hy:scope.names.lookup y=some .cell\/scope.names.lookup y=some .free:=hy
   rcases hy with hy|hy
   . exact r9 hy
   . exact absurd rfl (S.nofree _ (PySem.mem_of_lookup hy))
 . exact Nat.le_of_lt (x.above y c (PySem.mem_of_lookup h))
 . have hi:i<vs.length:=by
    unfold mD at h2
    by_cases hi:i<vs.length
    . exact hi
    . rw[List.getElem?_append_right (by simpa using hi)]at h2;rw[List.getElem?_replicate]at h2
      split at h2<;>cases h2
   have ha:vs[i]?=some v:=by
    unfold mD at h2;rw[List.getElem?_append_left (by simpa using hi),List.getElem?_map]at h2;cases e:vs[i]? with
    |none=>rw[e]at h2;cases h2
    |some a=>rw[e]at h2;cases h2;rfl
   obtain⟨u,hu,rv⟩:=r.get ha;have hp:ps[i]?=some y:=by
    rw[<-S.pre,List.getElem?_take_of_lt (by omega)];exact h1
   have ndP:ps.Nodup:=by rw[<-S.pre];exact S.nd.sublist (List.take_sublist _ _)
   refine⟨u,rv,?_⟩
   rcases S.par y (List.mem_of_getElem? hp)with k|k
   . exact .inl ⟨k,qM ndP hp hu k⟩
   . obtain⟨c,e⟩:=r9 (n:=s.heap.objs.size+1) k;refine .inr ⟨.inl k,c,e,?_⟩;have q:=x.cell y c e;rw[pZ ndP hp hu (by show scope.names.lookup y≠_;rw[k];decide)]at q;exact q
 . exact e0.hok.fresh (Nat.le_of_lt (x.above y c (PySem.mem_of_lookup h)))
 . unfold mD;show _=N.length;rw[List.length_append,aW,List.length_replicate];omega
theorem zkR{CX:w6}{P:Program}{w:World}{K:W.Frag}{mg:Str->Option Value}{base:Heap}{k:Nat}{f:Addr}{name bK:Str}{params:Arguments}{body:List Stmt}{scope:Scope}{dV kV mO pm cdv ct oc:Value}{an od:Option Addr}
 {osl:Array (Option Value)} {N ps:List Str} {sp:Sp} (lk:K.lookup f=some ⟨oc,od,.func (PySem.W.fnOf name bK params body scope dV kV mO pm an cdv ct),osl⟩) (vC:PySem.W.codeIn K cdv bK=true) (S:bS N ps scope)
 (len: ∀vs H Q E,sp vs H Q E->vs.length=ps.length)
 (oX: ∀(A:Around) (outer:List Env) (s:Shared) (H:Hp) (vs:List V) (Q:VK) (E:XK),eV k (A.deeper (envOfC bK scope s.heap.objs.size f cdv))->sp vs H Q E->
  ∃t,vS (dM CX P w K mg base N bK scope f cdv A outer s H E) body t/\t {nx:= λ_ H'=>Q .non H',rt:=Q} (mD N vs) H):
 dG P w K mg base CX (k+1) f (PySem.W.fnOf name bK params body scope dV kV mO pm an cdv ct) ps sp:=by
 refine⟨len,λA outer s H args us vs Q E hr e0 hb r hsp=> ?_⟩
 have hl:=len _ _ _ _ hsp
 have KX:K.In s.heap:=e0.mod.kin.keeps λb o e=>(e0.bs b o e).1
 have lim:s.heap.NoLimit:=e0.mod.nolimit.keeps λb o e=>(e0.bs b o e).1
 have pI: ∀y∈ps.zip us,scope.names.lookup y.1=some .local\/(scope.names.lookup y.1=some .cell/\((cellsFrom (s.heap.objs.size+1) scope.names []).lookup y.1).isSome=true):= λ⟨n,v⟩ hy=>by
  rcases S.par n (List.of_mem_zip hy).1 with q|q
  . exact .inl q
  . exact .inr ⟨q,PySem.W.cellsFrom_some _ _ _ (.inl q)⟩
 refine codeAny_call_function hr.depth (KX _ _ lk) rfl S.co S.gen rfl (PySem.W.codeRec_of KX vC) (hb _ _ _ _ ?_)
 refine wpAny_newFunctionEnv_cells S.kind pI λenv he s1 x=> ?_
 subst he
 refine⟨lim.keeps x.toInCall.keep,codeAny_func ?_⟩
 obtain⟨t,ht,hq⟩:=oX A outer s H vs Q E (hr.deeper _) hsp
 have I:aX (dM CX P w K mg base N bK scope f cdv A outer s H E) [] (mD N vs) H s1:=zef S hr.hd e0 hl r x
 refine wpAny_mono (ht [] s1 (mD N vs) H _ I hq) (λfl s' hs=> ?_) λe s' hs=>hs
 have fF: ∀{σ':St} {H':Hp} {v:V} {u:Value},aX (dM CX P w K mg base N bK scope f cdv A outer s H E) [] σ' H' s'->bT v u->Q v H'->CE outer P w H s Q u s':=
  λ{σ' H' v u} J rv q=>⟨v,H',J.os,J.bare,J.base,J.hok,rv,q⟩
 cases fl with
 |ret u=>
  obtain⟨v,σ',H',J,rv,q⟩:=hs;exact fF J rv q
 |next=>
  obtain⟨σ',H',J,q⟩:=hs;exact fF (v:=V.non) (u:=Value.none) J rfl q
 |brk=>
  obtain⟨_,_,_,q⟩:=hs;exact False.elim q
 |cont=>
  obtain⟨_,_,_,q⟩:=hs;exact False.elim q
section
variable {x:Str}{e:Expr}{t:TA}{id T:String}{r:List V->Hp->VK->Prop}
def j8(r:List V->Hp->VK->Prop)(t:TA):TE:= λσ H Q=>t σ H λvs H1=>r vs H1 Q
theorem aY(hc:fJ X (.builtin id) r)(hg:Gl X x)(hm:X.mg x=none)(hv:bootBuiltins x=some (.builtin id))(ha:PA X (e::es) t)(hn:x≠ "__name__" :=by decide)(hdb:(x==("__debug__" :Str))=false:=by decide)
 (he:starEach (e::es) X.env=(false,eval e X.env)::starEach es X.env:=by rfl) (jK:(backTo pos (starEach es X.env)).any (·.1)=false:=by rfl):PE X (.Call (.Name x p) (e::es) [] pos) (j8 r t):=by
 intro aB s σ H Q I h
 refine wpAny_Call_Name_kw (hJ I hg hm hv ?_ hn hdb)
 exact PyProof.Rows.callWith_builtin1 (dP (ha pos aB s σ H _ I h) λus s1 ⟨vs,H1,I1,r1,q1⟩=>hc aB s1 σ H1 vs us Q I1 r1 q1) he jK
theorem dA(hc:fJ X (.type T) r)(hg:Gl X x)(hm:X.mg x=none)(hv:bootBuiltins x=some (.type T))(ha:PA X (e::es) t)(hn:x≠ "__name__" :=by decide)(hdb:(x==("__debug__" :Str))=false:=by decide)
 (he:starEach (e::es) X.env=(false,eval e X.env)::starEach es X.env:=by rfl) (jK:(backTo pos (starEach es X.env)).any (·.1)=false:=by rfl):PE X (.Call (.Name x p) (e::es) [] pos) (j8 r t):=by
 intro aB s σ H Q I h
 refine wpAny_Call_Name_kw (hJ I hg hm hv ?_ hn hdb)
 exact PyProof.Rows.callWith_type1 (dP (ha pos aB s σ H _ I h) λus s1 ⟨vs,H1,I1,r1,q1⟩=>hc aB s1 σ H1 vs us Q I1 r1 q1) he jK
theorem zbe(hc:fJ X (.type T) r)(hg:Gl X x)(hm:X.mg x=none)(hv:bootBuiltins x=some (.type T))(hn:x≠ "__name__" :=by decide)(hdb:(x==("__debug__" :Str))=false:=by decide):
 PE X (.Call (.Name x p) [] [] pos) (j8 r dN):=by
 intro aB s σ H Q I h
 refine wpAny_Call_Name_kw (hJ I hg hm hv ?_ hn hdb)
 exact PyProof.Rows.callWith_type0 (hc aB s σ H [] [] Q I .nil h)
end
end L2
namespace HT
open PySem PyProof.Rows
section
open PySem.SeqAt
open PySem.AutoSeq1 (wpAny_loadPart')
open PySem.MeetsSeq PySem.MeetsSeq2 PySem.MeetsSeq3
end
section
variable {prog:Program}{w:World}{A:Around}{E:Value->Shared->Prop}{s:Shared}
theorem cat_tup{t b:Addr}{vs ws:List Value}{Q:Value->Shared->Prop}(ht:IsTup s.heap t vs.toArray)(hb:IsTup s.heap b ws.toArray)(hv:vs≠ [])
 (h1:ws=[]->Q (.ref t) s) (h2:ws≠ []->Q (.ref s.heap.objs.size) {s with heap:=s.heap.push {cls:= .type "tuple",data:= .seq (vs++ws).toArray}})
 (hsz:vs.length+ws.length<=sizeLine):wpAny (model prog w) A (binaryOp .Add (.ref t) (.ref b)) Q E s:=by
 obtain⟨⟨cls,dd,data,sl⟩,ho,hc,n,hd⟩:=id ht
 obtain⟨⟨zDi,dd2,data2,sl2⟩,ho2,hc2,n2,hd2⟩:=id hb
 simp only at hc hd hc2 hd2
 subst hc hd hc2 hd2
 have e:vs.toArray++ws.toArray=(vs++ws).toArray:=by simp
 by_cases hw:ws=[]
 . exact concat_meets ⟨_,ho,rfl⟩ ⟨_,ho2,rfl⟩ noFill_tuple_add seq_tuple_add PySem.F.slot_tuple_add PySem.F.entry_tuple_add (PySem.F.args_tuple_add_2 _ _)
    (tuple_addW1 t b vs.toArray ws.toArray n n2 dd dd2 sl sl2 (by simpa using hv) (by simp[hw])) ⟨ho,ho2,h1 hw⟩
 . refine concat_meets ⟨_,ho,rfl⟩ ⟨_,ho2,rfl⟩ noFill_tuple_add seq_tuple_add PySem.F.slot_tuple_add PySem.F.entry_tuple_add (PySem.F.args_tuple_add_2 _ _)
    (tuple_addW2 t b vs.toArray ws.toArray n n2 dd dd2 sl sl2 (by simpa using hv) (by simpa using hw) (by rw[List.size_toArray,List.size_toArray];exact hsz)) ⟨ho,ho2,?_⟩
   rw[e];exact h2 hw
end
end HT
namespace L2
open PySem PySem.Spec PyProof.Rows
variable {X:Cx}
abbrev TO:=St->Hp->(Option Int->Hp->Prop)->Prop
def PO(X:Cx)(e:Option Expr)(t:TO):Prop:=
 ∀(aB:List (Addr×Obj)) (s:Shared) (σ:St) (H:Hp) (Q:Option Int->Hp->Prop),aX X aB σ H s->t σ H Q->
  wpAny (model X.prog X.w) X.A (evalPart e X.env) (λu s'=> ∃o H',aX X aB σ H' s'/\IsPart u o/\Q o H') X.xe s
def yZ:TO:= λ_ H Q=>Q none H
def zhZ(t:TE):TO:= λσ H Q=>t σ H λx H1=> ∃i,x= .int i/\Q (some i) H1
theorem tD{ns:List Int}: ∀{us:List Value},bP (ns.map V.int) us->IntsAre us ns:=by
 induction ns with
 |nil=>intro us r;rw[List.map_nil]at r;cases r;exact .nil
 |cons n ns ih=>
  intro us r;rw[List.map_cons]at r;cases r with
  |cons r1 r2=>
   obtain⟨t,e⟩:=r1;subst e;exact .cons n t (ih r2)
section
variable {e:Expr}{te:TE}{lo hi:Option Expr}{tl th:TO}{pos p2:Pos}
theorem yQ:PO X none yZ:=by
 intro aB s σ H Q I h
 rw[evalPart_none]
 exact wpAny_pure ⟨none,H,I,.none,h⟩
theorem yU(h:PE X e te):PO X (some e) (zhZ te):=by
 intro aB s σ H Q I hw
 rw[evalPart_some]
 refine dP (h aB s σ H _ I hw) λu s1 ⟨x,H1,I1,r1,q1⟩=> ?_
 obtain⟨i,rfl,q⟩:=q1
 obtain⟨t,rfl⟩:=r1
 exact⟨some i,H1,I1,.int i t,q⟩
def SlR(X:Cx)(r:V->Option Int->Option Int->Hp->VK->Prop):Prop:=
 ∀(aB:List (Addr×Obj)) (s:Shared) (σ:St) (H:Hp) (x:V) (v vl vu:Value) (lo hi:Option Int) (sl:Addr) (Q:VK),aX X aB σ H s->bT x v->s.heap.IsSliceOf sl vl vu .none->IsPart vl lo->IsPart vu hi->r x lo hi H Q->
  ∃T id,typeLookup (.type T) "__getitem__" =pure (some (.builtin id))/\s.TypeIs v T/\wpAny (model X.prog X.w) X.A (getItem v (.ref sl)) (EP X aB σ Q) X.xe s
def tSl(r:V->Option Int->Option Int->Hp->VK->Prop)(te:TE)(tl th:TO):TE:= λσ H Q=>te σ H λx H1=>tl σ H1 λl H2=>th σ H2 λu H3=>r x l u H3 Q
theorem tP{r:V->Option Int->Option Int->Hp->VK->Prop}(hr:SlR X r)(he:PE X e te)(hl:PO X lo tl)(hu:PO X hi th):PE X (.Subscript e (.Slice lo hi none p2) pos) (tSl r te tl th):=by
 intro aB s σ H Q I h
 refine Subscript_ (dP (he aB s σ H _ I h) λv s1 ⟨x,H1,I1,r1,q1⟩=> ?_)
 refine wpAny_Slice (dP (hl aB s1 σ H1 _ I1 q1) λvl s2 ⟨l,H2,I2,pl,q2⟩=>dP (hu aB s2 σ H2 _ I2 q2) λvu s3 ⟨u,H3,I3,pu,q3⟩=> ?_)
 rw[evalPart_none]
 refine wpAny_pure ?_
 have I4:aX X aB σ H3 {s3 with heap:=s3.heap.push {cls:= .type "slice",data:= .fields #[vl,vu,.none]}}:=I3.kept (t':=s3.toks) λb ob q=>Heap.get?_push_of_some _ q
 obtain⟨T,id,hT,ht,hg⟩:=hr aB {s3 with heap:=s3.heap.push {cls:= .type "slice",data:= .fields #[vl,vu,.none]}} σ H3 x v vl vu l u s3.heap.objs.size Q I4 r1 (Heap.IsSliceOf.new ..) pl pu q3
 show wpAny (model X.prog X.w) X.A (subscriptTail e (.Slice lo hi none p2) v (.ref s3.heap.objs.size)) (EP X aB σ Q) X.xe {s3 with heap:=s3.heap.push {cls:= .type "slice",data:= .fields #[vl,vu,.none]}}
 exact tail_any (ops:=[.ref s3.heap.objs.size,v]) ht hT hg (by with_unfolding_all rfl)
def zhc(K:W.Frag):R2:= λx y H Q=> ∃a b xs ys,x= .ref a/\y= .ref b/\eS K H a xs/\eS K H b ys/\xs≠ []/\xs.length+ys.length<=sizeLine/\
 (ys=[]->Q (.ref a) H)/\(ys≠ []-> ∀p,H p=none->Q (.ref p) (aO H p (.tup (xs++ys))))
theorem bP.nil_iff{xs:List V}{us:List Value}(r:bP xs us):us=[]↔xs=[]:=by
 cases r with
 |nil=>simp
 |cons _ _=>simp
theorem zjV:oS X (binaryOp .Add) (zhc X.K):=by
 intro aB s σ H x y v u Q I rx ry h
 obtain⟨a,b,xs,ys,rfl,rfl,ha,hb,hx,hz,q1,q2⟩:=h
 cases rx
 cases ry
 obtain⟨bC,r1,p1,_⟩:=I.tuple ha
 obtain⟨qL,r2,p2,_⟩:=I.tuple hb
 refine HT.cat_tup p1 p2 (λz=>hx (r1.nil_iff.mp z)) (λz=>⟨.ref a,H,I,rfl,q1 (r2.nil_iff.mp z)⟩) (λz=> ?_) (by rw[<-r1.length,<-r2.length];exact hz)
 refine⟨.ref s.heap.objs.size,_,I.laid (t':=s.toks) (o:= .tup (xs++ys)) (λb ob q=>Heap.get?_push_of_some _ q) (Nat.le_refl _) ?_,rfl,q2 (λw=>z (r2.nil_iff.mpr w)) _ (I.hok.fresh (Nat.le_refl _))⟩
 exact⟨by rw[List.length_append];exact hz,_,r1.append r2,IsTup.new _ _⟩
end
def ixN(n:Nat)(i:Int):Option Nat:=if 0<=i then(if i<n then some i.toNat else none)else if -(n:Int)<=i then some (i+n).toNat else none
def mL{α:Type}(xs:List α)(i:Int):Option α:=(ixN xs.length i).bind λj=>xs[j]?
theorem zcY{n:Nat}{i:Int}{j:Nat}(h:ixN n i=some j):seqIndex? i n=some j/\j<n/\ -(n:Int)<=i/\i<n:=by
 unfold ixN at h
 by_cases h0:0<=i
 . rw[if_pos h0]at h
   by_cases h1:i<n
   . rw[if_pos h1]at h;have e:i.toNat=j:=Option.some.inj h;exact⟨by rw[seqIndex_of h0 h1,e],by omega,by omega,h1⟩
   . rw[if_neg h1]at h;cases h
 . rw[if_neg h0]at h
   by_cases h1: -(n:Int)<=i
   . rw[if_pos h1]at h;have e:(i+n).toNat=j:=Option.some.inj h;exact⟨by rw[seqIndex_neg (by omega) h1,e],by omega,h1,by omega⟩
   . rw[if_neg h1]at h;cases h
theorem sA{α:Type}{xs:List α}{i:Int}{v:α}(h:mL xs i=some v): ∃j,seqIndex? i xs.length=some j/\xs[j]?=some v/\j<xs.length/\ -(xs.length:Int)<=i/\i<xs.length:=by
 unfold mL at h
 cases e:ixN xs.length i with
 |none=>rw[e]at h;cases h
 |some j=>
  rw[e]at h;obtain⟨h1,h2,h3,h4⟩:=zcY e;exact⟨j,h1,h,h2,h3,h4⟩
theorem bD{α:Type}{xs:List α}{j:Nat}{v:α}(h:xs[j]?=some v):mL xs (j:Int)=some v:=by
 have hj:j<xs.length:=(List.getElem?_eq_some_iff.mp h).1
 have e:ixN xs.length (j:Int)=some j:=by
  unfold ixN;rw[if_pos (by omega),if_pos (by omega)];simp
 unfold mL;rw[e];exact h
def xY(b:Expr):Prop:= ∀o i,subscripted b false o i=operate [o,i] (getItem o i)
def IxR(X:Cx)(r:R2):Prop:=
 ∀(value slice:Expr) (aB:List (Addr×Obj)) (s:Shared) (σ:St) (H:Hp) (x y:V) (v u:Value) (Q:VK),aX X aB σ H s->bT x v->bT y u->r x y H Q->
  subscripted slice false v u=operate [v,u] (getItem v u)->wpAny (model X.prog X.w) X.A (subscriptTail value slice v u) (EP X aB σ Q) X.xe s
def MtR(X:Cx)(id:String)(r:V->List V->Hp->VK->Prop):Prop:=
 ∀(aB:List (Addr×Obj)) (s:Shared) (σ:St) (H:Hp) (x:V) (xs:List V) (v:Value) (us:List Value) (Q:VK),aX X aB σ H s->bT x v->bP xs us->r x xs H Q->
  wpAny (model X.prog X.w) X.A (call (.builtin id) (v::us)) (EP X aB σ Q) X.xe s
section
variable {a b:Expr}{ta tb:TE}{pos:Pos}
theorem bF{r:R2}(hr:IxR X r)(ha:PE X a ta)(hb:PE X b tb)(hs:xY b):PE X (.Subscript a b pos) (dW r ta tb):=by
 intro aB s σ H Q I h
 exact Subscript_ (znE ha hb I h λv u s2 x y H2 I2 rx ry q=>hr a b aB s2 σ H2 x y v u Q I2 rx ry q (hs _ _))
def eC(K:W.Frag):R2:= λx y H Q=> ∃p xs i v,x= .ref p/\y= .int i/\bB K H p xs/\mL xs i=some v/\Q v H
def qH(K:W.Frag):R2:= λx y H Q=> ∃p xs i v,x= .ref p/\y= .int i/\eS K H p xs/\mL xs i=some v/\Q v H
def zof:R2:= λx y H Q=> ∃z i c,x= .str z/\y= .int i/\z.length<=sizeLine/\mL z.cps.toList i=some c/\Q (.str ⟨#[c]⟩) H
theorem aR:IxR X (eC X.K):=by
 intro value slice aB s σ H x y v u Q I rx ry h hs
 obtain⟨p,xs,i,z,rfl,rfl,hq,he,q⟩:=h
 cases rx
 obtain⟨t,rfl⟩:=ry
 obtain⟨bC,r,pl,hz⟩:=I.list hq
 obtain⟨j,h1,h2,h3,h4,h5⟩:=sA he
 obtain⟨w,ew,sI⟩:=r.get h2
 have hl:=r.length
 have hn:=oO
 have fF:EP X aB σ Q w s:=⟨z,H,I,sI,q⟩
 by_cases h0:0<=i
 . have hj:i.toNat=j:=by
    rw[seqIndex_of h0 h5]at h1;exact Option.some.inj h1
   exact item_listR pl.isList h0 (by omega) (by rw[hj];simpa using ew) fF hs
 . have hj:(i+(bC.toArray.size:Int)).toNat=j:=by
    rw[seqIndex_neg (by omega) h4]at h1;rw[List.size_toArray,<-hl];exact Option.some.inj h1
   exact subscriptTail_builtinR (x:=w) pl.isList.typeIs slot_list_getitem.lookup
    (wpAny_getItem_list_neg (Q:= λr s'=>r=w/\EP X aB σ Q r s') pl.isList (by omega) (by rw[List.size_toArray]<;>omega) (by omega) (by rw[hj];simpa using ew) ⟨rfl,fF⟩) hs
theorem fX:IxR X (qH X.K):=by
 intro value slice aB s σ H x y v u Q I rx ry h hs
 obtain⟨p,xs,i,z,rfl,rfl,hq,he,q⟩:=h
 cases rx
 obtain⟨t,rfl⟩:=ry
 obtain⟨bC,r,pl,hz⟩:=I.tuple hq
 obtain⟨j,h1,h2,h3,h4,h5⟩:=sA he
 obtain⟨w,ew,sI⟩:=r.get h2
 have hl:=r.length
 have hn:=oO
 have fF:EP X aB σ Q w s:=⟨z,H,I,sI,q⟩
 exact subscriptTail_builtinR (x:=w) pl.typeIs slot_tuple_getitem.lookup
  (getItem_tuple (j:=j) (Q:= λr s'=>r=w/\EP X aB σ Q r s') pl (by omega) (by omega) (by rw[List.size_toArray,<-hl];exact h1) (by simpa using ew) ⟨rfl,fF⟩) hs
theorem zbS:IxR X zof:=by
 intro value slice aB s σ H x y v u Q I rx ry h hs
 obtain⟨z,i,c,rfl,rfl,hz,he,q⟩:=h
 obtain⟨t,rfl⟩:=rx
 obtain⟨t',rfl⟩:=ry
 obtain⟨j,h1,h2,h3,h4,h5⟩:=sA he
 have hl:z.cps.toList.length=z.length:=by simp[Str.length]
 rw[hl]at h1 h4 h5
 have hn:=oO
 exact tail_any (typeIs_str s z t) slot_str_getitem.lookup (getItem_str (c:=c) (by
  have e1:decide (i< -(2^63:Int))=false:=decide_eq_false (by omega);have e2:decide (i ≥ 2^63)=false:=decide_eq_false (by omega);rw[e1,e2,Bool.or_false]) (by rw[h1];simpa using h2) ⟨.str ⟨#[c]⟩,H,I.tok _,⟨_,rfl⟩,q⟩) hs
theorem zaP(bC:List Value)(n j:Nat)(u:Value):Obj.mapSeq (·.setIfInBounds j u) {cls:= .type "list",data:= .seq bC.toArray n}={cls:= .type "list",data:= .seq (bC.set j u).toArray n}:=by
 simp[Obj.mapSeq]
theorem aX.lst{aB:List (Addr×Obj)}{σ:St}{H:Hp}{s:Shared}{p:Addr}{xs:List V}(I:aX X aB σ H s)(h:H p=some (.lst xs)):
 ∃(bC:List Value) (n:Nat),bP xs bC/\s.heap.get? p=some {cls:= .type "list",data:= .seq bC.toArray n}/\xs.length<=sizeLine:=by
 obtain⟨z,bC,n,r,e⟩:=I.hok p _ h
 exact⟨bC,n,r,e,z⟩
theorem aX.lstUpd{aB:List (Addr×Obj)}{σ:St}{H:Hp}{s:Shared}{p:Addr}{xs ys:List V}{bC its':List Value}{n n':Nat}{f:Obj->Obj}(I:aX X aB σ H s)(h:H p=some (.lst xs))
 (ho:s.heap.get? p=some {cls:= .type "list",data:= .seq bC.toArray n}) (hf:f {cls:= .type "list",data:= .seq bC.toArray n}={cls:= .type "list",data:= .seq its'.toArray n'}) (r:bP ys its') (hz:ys.length<=sizeLine) (t:Nat):
 aX X aB σ (aO H p (.lst ys)) {s with heap:=s.heap.update p f,toks:=t}:=by
 have e:(s.heap.update p f).get? p=some {cls:= .type "list",data:= .seq its'.toArray n'}:=by
  rw[Heap.get?_update_self f ho (by rw[hf]<;>rfl),hf]
 refine I.write (x:=p) (e:=p) (by rw[h];trivial) (.inl rfl) (λb u hb q=>(Heap.get?_update_other _ _ (Ne.symm hb)).trans q) ⟨_,e⟩ ?_
 exact⟨hz,its',n',r,e⟩
def zsl:V->V->V->Hp->(Hp->Prop)->Prop:= λo i v H Q=> ∃p xs k j,o= .ref p/\i= .int k/\H p=some (.lst xs)/\ixN xs.length k=some j/\Q (aO H p (.lst (xs.set j v)))
theorem lX:zso X zsl:=by
 intro aB s σ H o i v ov iv u Q I ro ri rv h
 obtain⟨p,xs,k,j,rfl,rfl,hp,hj,q⟩:=h
 cases ro
 obtain⟨t,rfl⟩:=ri
 obtain⟨bC,n,r,ho,hz⟩:=I.lst hp
 obtain⟨h1,h2,h3,h4⟩:=zcY hj
 have hl:=r.length
 have hn:=oO
 have I':aX X aB σ (aO H p (.lst (xs.set j v))) {s with heap:=s.heap.update p (Obj.mapSeq (·.setIfInBounds j u))}:=
  I.lstUpd hp ho (zaP bC n j u) (r.set rv j) (by rw[List.length_set];exact hz) s.toks
 by_cases h0:0<=k
 . have hk:k.toNat=j:=by
    rw[seqIndex_of h0 h4]at h1;exact Option.some.inj h1
   exact PySem.W.ki_setAt ho h0 (by omega) (by rw[List.size_toArray,<-hl];exact h4) (by rw[hk];exact⟨_,I',q⟩)
 . have hk:(k+(bC.toArray.size:Int)).toNat=j:=by
    rw[seqIndex_neg (by omega) h3]at h1;rw[List.size_toArray,<-hl];exact Option.some.inj h1
   exact PySem.W.ki_setBack ho (by omega) (by rw[List.size_toArray,<-hl];exact h3) (by omega) (by rw[hk];exact⟨_,I',q⟩)
def nW:V->Bool
 | .non=>true
 | .bl _=>true
 | .int _=>true
 | .str _=>true
 |_=>false
def eqV:V->V->Bool
 | .non,.non=>true
 | .bl a,.bl b=>a==b
 | .bl a,.int b=>(if a then 1 else 0)==b
 | .int a,.bl b=>a==(if b then 1 else 0)
 | .int a,.int b=>a==b
 | .str a,.str b=>a==b
 |_,_=>false
theorem zmv{A:Around}{s:Shared}{y x:V}{u v:Value}(ry:bT y u)(rx:bT x v)(fy:nW y=true)(fx:nW x=true):SeqAt.EqAt A s u v (eqV y x):=by
 cases y with
 |non=>
  cases ry;cases x with
  |non=>cases rx;exact SeqAt.EqAt.same _
  |bl b=>cases rx;exact SeqAt.EqAt.none_bool b
  |int b=>obtain⟨t,rfl⟩:=rx;exact SeqAt.EqAt.none_int b t
  |str b=>obtain⟨t,rfl⟩:=rx;exact SeqAt.EqAt.none_str b t
  |_=>exact absurd (show false=true from fx) Bool.false_ne_true
 |bl a=>
  cases ry;cases x with
  |non=>cases rx;exact SeqAt.EqAt.bool_none a
  |bl b=>cases rx;exact SeqAt.EqAt.bool_bool a b
  |int b=>obtain⟨t,rfl⟩:=rx;exact SeqAt.EqAt.bool_int a b t
  |str b=>obtain⟨t,rfl⟩:=rx;exact SeqAt.EqAt.bool_str a b t
  |_=>exact absurd (show false=true from fx) Bool.false_ne_true
 |int a=>
  obtain⟨t',rfl⟩:=ry;cases x with
  |non=>cases rx;exact SeqAt.EqAt.int_none a t'
  |bl b=>cases rx;exact SeqAt.EqAt.int_bool a t' b
  |int b=>obtain⟨t,rfl⟩:=rx;exact SeqAt.EqAt.int_int a t' b t
  |str b=>obtain⟨t,rfl⟩:=rx;exact SeqAt.EqAt.int_str a t' b t
  |_=>exact absurd (show false=true from fx) Bool.false_ne_true
 |str a=>
  obtain⟨t',rfl⟩:=ry;cases x with
  |non=>cases rx;exact SeqAt.EqAt.str_none a t'
  |bl b=>cases rx;exact SeqAt.EqAt.str_bool a t' b
  |int b=>obtain⟨t,rfl⟩:=rx;exact SeqAt.EqAt.str_int a t' b t
  |str b=>obtain⟨t,rfl⟩:=rx;exact SeqAt.EqAt.str_str a t' b t
  |_=>exact absurd (show false=true from fx) Bool.false_ne_true
 |_=>exact absurd (show false=true from fy) Bool.false_ne_true
def eqU(x:V)(u:Value):Bool:=match u with
 | .none=>eqV .non x
 | .bool b=>eqV (.bl b) x
 | .int i _=>eqV (.int i) x
 | .str z _=>eqV (.str z) x
 |_=>false
theorem zhq{x y:V}{u:Value}(r:bT y u)(f:nW y=true):eqU x u=eqV y x:=by
 cases y with
 |non=>cases r;rfl
 |bl b=>cases r;rfl
 |int i=>obtain⟨t,rfl⟩:=r;rfl
 |str z=>obtain⟨t,rfl⟩:=r;rfl
 |_=>exact absurd (show false=true from f) Bool.false_ne_true
theorem pU{x:V}: ∀{xs:List V} {us:List Value},bP xs us->xs.all nW=true->us.any (eqU x)=xs.any λy=>eqV y x
 |_,_,.nil,_=>rfl
 |y::xs,u::us,.cons r t,f=>by
  rw[List.all_cons,Bool.and_eq_true]at f;rw[List.any_cons,List.any_cons,zhq r f.1,pU t f.2]
theorem lW{A:Around}{s:Shared}{x:V}{v:Value}(rx:bT x v)(fx:nW x=true): ∀{xs:List V} {us:List Value},bP xs us->xs.all nW=true-> ∀u∈us,SeqAt.EqAt A s u v (eqU x u)
 |_,_,.nil,_=> λu hu=>by cases hu
 |y::xs,u::us,.cons r t,f=> λu' hu=>by
  rw[List.all_cons,Bool.and_eq_true]at f
  rcases List.mem_cons.mp hu with rfl|hu
  . rw[zhq r f.1];exact zmv r rx f.1 fx
  . exact lW rx fx t f.2 u' hu
def xJ(x:V)(xs:List V):Bool:=xs.any λy=>eqV y x
def rIn(K:W.Frag)(neg:Bool):R2:= λx y H Q=> ∃p xs,y= .ref p/\(bB K H p xs\/eS K H p xs)/\nW x=true/\xs.all nW=true/\Q (.bl (if neg then !xJ x xs else xJ x xs)) H
theorem jX:oS X (compareOp .In) (rIn X.K false):=by
 intro aB s σ H x y v u Q I rx ry h
 obtain⟨p,xs,rfl,hq,fx,fs,q⟩:=h
 cases ry
 rcases hq with hq|hq
 . obtain⟨bC,r,pl,hz⟩:=I.list hq;refine SeqAt.in_listAt (eqU x) pl.isList (λw hw=>lW rx fx r fs w (by simpa using hw)) ⟨.bl _,H,I,rfl,?_⟩;rw[show bC.toArray.any (eqU x)=bC.any (eqU x) by simp,pU r fs];exact q
 . obtain⟨bC,r,pl,hz⟩:=I.tuple hq;refine SeqAt.in_tupleAt (eqU x) pl (λw hw=>lW rx fx r fs w (by simpa using hw)) ⟨.bl _,H,I,rfl,?_⟩;rw[show bC.toArray.any (eqU x)=bC.any (eqU x) by simp,pU r fs];exact q
theorem iG:oS X (compareOp .NotIn) (rIn X.K true):=by
 intro aB s σ H x y v u Q I rx ry h
 obtain⟨p,xs,rfl,hq,fx,fs,q⟩:=h
 cases ry
 rcases hq with hq|hq
 . obtain⟨bC,r,pl,hz⟩:=I.list hq;refine SeqAt.notIn_listAt (eqU x) pl.isList (λw hw=>lW rx fx r fs w (by simpa using hw)) ⟨.bl _,H,I,rfl,?_⟩;rw[show bC.toArray.any (eqU x)=bC.any (eqU x) by simp,pU r fs];exact q
 . obtain⟨bC,r,pl,hz⟩:=I.tuple hq;refine SeqAt.notIn_tupleAt (eqU x) pl (λw hw=>lW rx fx r fs w (by simpa using hw)) ⟨.bl _,H,I,rfl,?_⟩;rw[show bC.toArray.any (eqU x)=bC.any (eqU x) by simp,pU r fs];exact q
theorem aV:fJ X (.builtin "len") (λxs H Q=> ∃p ys,xs=[.ref p]/\(bB X.K H p ys\/eS X.K H p ys)/\Q (.int ys.length) H):=by
 intro aB s σ H xs us Q I r h
 obtain⟨p,ys,rfl,hq,q⟩:=h
 obtain⟨u,rfl,rx⟩:=mC r
 cases rx
 have hn:=oO
 rcases hq with hq|hq
 . obtain⟨bC,r',pl,hz⟩:=I.list hq;have dL:=r'.length;exact Calls.call_len_list pl.isList (by simp only[List.size_toArray]<;>omega) ⟨.int ys.length,H,I.tok _,⟨s.toks+1,by rw[List.size_toArray,dL]⟩,q⟩
 . obtain⟨bC,r',pl,hz⟩:=I.tuple hq;have dL:=r'.length;exact len_tuple pl (by simp only[List.size_toArray]<;>omega) ⟨.int ys.length,H,I.tok _,⟨s.toks+1,by rw[List.size_toArray,dL]⟩,q⟩
theorem pC:fJ X (.builtin "len") (λxs H Q=> ∃z,xs=[.str z]/\z.length<=sizeLine/\Q (.int z.length) H):=by
 intro aB s σ H xs us Q I r h
 obtain⟨z,rfl,hz,q⟩:=h
 obtain⟨u,rfl,t,rfl⟩:=mC r
 have hn:=oO
 exact len_str (by omega) ⟨.int z.length,H,I.tok _,⟨_,rfl⟩,q⟩
theorem xS:fJ X (.type "list") (λxs H Q=> ∃p ys,xs=[.ref p]/\(bB X.K H p ys\/eS X.K H p ys)/\ ∀l,H l=none->Q (.ref l) (aO H l (.lst ys))):=by
 intro aB s σ H xs us Q I r h
 obtain⟨p,ys,rfl,hq,q⟩:=h
 obtain⟨u,rfl,rx⟩:=mC r
 cases rx
 have fF: ∀(bC:List Value),bP ys bC->ys.length<=sizeLine-> ∀(h':Heap) (c':Nat),(∀b o',s.heap.get? b=some o'->h'.get? b=some o')->
  h'.get? s.heap.objs.size=some {cls:= .type "list",dict:=none,data:= .seq bC.toArray c',slots:= #[]}->EP X aB σ Q (.ref s.heap.objs.size) {s with heap:=h'}:= λbC r' hz h' c' kp e=>
  ⟨.ref s.heap.objs.size,_,I.laid (t':=s.toks) kp (Nat.le_refl _) (show dE X.prog X.w _ h' _ (.lst ys)from⟨hz,bC,c',r',e⟩),rfl,q _ (I.hok.fresh (Nat.le_refl _))⟩
 rcases hq with hq|hq
 . obtain⟨bC,r',pl,hz⟩:=I.list hq;have dL:=r'.length;obtain⟨o,ho,hc,n,hd⟩:=pl.isList;exact call_list_seq p (.inl rfl) ho hc hd (λh' c' kp e=>fF bC r' hz h' c' kp e) (by simp only[List.size_toArray]<;>omega)
 . obtain⟨bC,r',pl,hz⟩:=I.tuple hq;have dL:=r'.length;obtain⟨o,ho,hc,n,hd⟩:=pl;exact call_list_seq p (.inr rfl) ho hc hd (λh' c' kp e=>fF bC r' hz h' c' kp e) (by simp only[List.size_toArray]<;>omega)
theorem dJ:fJ X (.type "tuple") (λxs H Q=> ∃p ys,xs=[.ref p]/\((bB X.K H p ys/\ ∀l,H l=none->Q (.ref l) (aO H l (.tup ys)))\/(eS X.K H p ys/\Q (.ref p) H))):=by
 intro aB s σ H xs us Q I r h
 obtain⟨p,ys,rfl,h⟩:=h
 obtain⟨u,rfl,rx⟩:=mC r
 cases rx
 rcases h with⟨hq,q⟩|⟨hq,q⟩
 . obtain⟨bC,r',pl,hz⟩:=I.list hq;have dL:=r'.length;refine call_tuple_list pl.isList (λh' kp=> ?_) (by simp only[List.size_toArray]<;>omega);have I1:aX X aB σ H {s with heap:=h'}:=I.kept (t':=s.toks) kp;have I2:aX X aB σ (aO H h'.objs.size (.tup ys)) {s with heap:=h'.push {cls:= .type "tuple",data:= .seq bC.toArray}}:=
    I1.laid (t':=s.toks) (λb o e=>Heap.get?_push_of_some _ e) (Nat.le_refl _) (show dE X.prog X.w _ _ _ (.tup ys)from⟨hz,bC,r',IsTup.new _ _⟩)
   exact⟨.ref h'.objs.size,_,I2,rfl,q _ (I1.hok.fresh (Nat.le_refl _))⟩
 . obtain⟨bC,r',pl,hz⟩:=I.tuple hq;exact call_tuple_same pl ⟨.ref p,H,I,rfl,q⟩
def tyV(K:W.Frag)(T:String)(x:V)(H:Hp):Prop:=match x with
 | .str _=>T= "str"
 | .int _=>T= "int"
 | .ref p=>(T= "list" /\ ∃xs,bB K H p xs)\/(T= "tuple" /\ ∃o,K.lookup p=some o/\o.cls= .type "tuple" /\o.dict=none)\/
  (T= "dict" /\((∃bQ,H p=some (.dK bQ))\/ ∃bQ,H p=some (.dT bQ)))\/(T= "set" /\ ∃S n,H p=some (.set S n))
 |_=>False
theorem zlP{aB:List (Addr×Obj)}{σ:St}{H:Hp}{s:Shared}{T:String}{x:V}{v:Value}(I:aX X aB σ H s)(r:bT x v)(ty:tyV X.K T x H):
 s.TypeIs v T/\ ∀a,v= .ref a-> ∃ob,s.heap.get? a=some ob/\ob.dict=none:=by
 cases x with
 |str z=>
  obtain⟨t,rfl⟩:=r;cases(show T= "str" from ty);exact⟨typeIs_str s z t,λ_ e=>nomatch e⟩
 |int i=>
  obtain⟨t,rfl⟩:=r;cases(show T= "int" from ty);exact⟨typeIs_int s i t,λ_ e=>nomatch e⟩
 |ref p=>
  cases r
  rcases ty with⟨rfl,xs,hq⟩|⟨rfl,o,hk,hc,hd⟩|⟨rfl,hk⟩|⟨rfl,S,n,hk⟩
  . obtain⟨bC,_,pl,_⟩:=I.list hq;refine⟨pl.isList.typeIs,λa e=> ?_⟩;cases e;obtain⟨o,n,e,c,hd,_⟩:=pl;exact⟨o,e,hd⟩
  . refine⟨⟨o,I.kIn p o hk,hc⟩,λa e=> ?_⟩;cases e;exact⟨o,I.kIn _ o hk,hd⟩
  . have z: ∃o,s.heap.get? p=some o/\o.ExactDict:=by
     rcases hk with⟨bQ,hk⟩|⟨bQ,hk⟩
     . obtain⟨_,_,_,_,o,_,_,e,ex,_⟩:=I.hok p _ hk;exact⟨o,e,ex⟩
     . obtain⟨_,_,_,_,o,_,_,e,ex,_⟩:=I.hok p _ hk;exact⟨o,e,ex⟩
    obtain⟨o,e,ex⟩:=z;refine⟨⟨o,e,ex.1⟩,λa e2=> ?_⟩;cases e2;exact⟨o,e,ex.2.1⟩
  . obtain⟨o,_,_,_,e,ex,_⟩:=I.hok p _ hk;refine⟨⟨o,e,ex.1⟩,λa e2=> ?_⟩;cases e2;exact⟨o,e,ex.2.1⟩
 |_=>exact False.elim ty
def tBM(K:W.Frag)(T:String)(r:V->List V->Hp->VK->Prop)(to:TE)(t:TA):TE:= λσ H Q=>to σ H λx H1=>tyV K T x H1/\t σ H1 λxs H2=>r x xs H2 Q
variable {o e:Expr}{es:List Expr}{to:TE}{t:TA}{name:Str}{xT kC:Pos}{T id:String}{r:V->List V->Hp->VK->Prop}
theorem fE(pa:PlainAttrs T)(slot:Slot T name id)(hty:typeOf (.builtin id)=pure (.type "method_descriptor"))(hm:MtR X id r)(ho:PE X o to)(ha:PA X (e::es) t)
 (zgF:attributeBase o name X.env (eval o X.env)=eval o X.env:=by rfl)
 (znO:((backTo kC (starEach (e::es) X.env)).all (λx=> !x.1)&&(backToKw kC (keywordEach [] X.env)).all (λx=>x.1.isSome)
  &&decide ((e::es).length+([]:List Keyword).length+(if([]:List Keyword).isEmpty then 0 else 1)<30))=true:=by rfl)
 (zfW:(xT.endLine==kC.line)=true:=by rfl) (hs:starEach (e::es) X.env=(false,eval e X.env)::starEach es X.env:=by rfl) (zbb:(backTo kC (starEach es X.env)).any (·.1)=false:=by rfl):
 PE X (.Call (.Attribute o name xT) (e::es) [] kC) (tBM X.K T r to t):=by
 intro aB s σ H Q I h
 refine wpAny_Call_method_late zgF znO zfW rfl (dP (ho aB s σ H _ I h) λv s1 ⟨x,H1,I1,r1,ty,q1⟩=> ?_)
 obtain⟨h1,h2⟩:=zlP I1 r1 ty
 refine⟨T,id,pa,slot,hty,h1,h2,?_⟩
 have hA:=ha kC aB s1 σ H1 _ I1 q1
 rw[hs]at hA ⊢
 refine Calls.callWith_builtin (by show(false||(backTo kC (starEach es X.env)).any (·.1))=false;rw[zbb]<;>rfl) (Calls.evalArgs_plain ?_)
 exact dP hA λus s2 ⟨vs,H2,I2,r2,q2⟩=>hm aB s2 σ H2 x vs v us Q I2 r1 r2 q2
/- xs.append(e),list.index on a module's tuple .. are MtR facts of 06m -/
end
def MtM(X:Cx)(id:String)(r:V->List V->Hp->VK->Prop):Prop:=
 ∀(aB:List (Addr×Obj)) (s:Shared) (σ:St) (H:Hp) (x:V) (xs:List V) (v:Value) (us:List Value) (Q:VK),aX X aB σ H s->bT x v->bP xs us->r x xs H Q->
  wpAny (model X.prog X.w) X.A (call (.builtin id) (v::us)) (EP X aB σ Q) X.xe s
theorem bP.one{x:V}{us:List Value}(h:bP [x] us): ∃u,us=[u]/\bT x u:=by
 cases h with|cons r t=>cases t;exact⟨_,rfl,r⟩
theorem bP.two{x y:V}{us:List Value}(h:bP [x,y] us): ∃u v,us=[u,v]/\bT x u/\bT y v:=by
 cases h with|cons r t=>obtain⟨v,e,q⟩:=bP.one t;exact⟨_,v,by rw[e],r,q⟩
theorem bP.rep{xs:List V}{us:List Value}(h:bP xs us): ∀k:Nat,bP (List.replicate k xs).flatten (List.replicate k us).flatten
 |0=> .nil
 |k+1=>by
  rw[List.replicate_succ,List.replicate_succ,List.flatten_cons,List.flatten_cons];exact bP.append h (bP.rep h k)
theorem xH(bC:List Value): ∀(k:Nat) (eT:List Value),
 List.foldl (λx1 x2=>x1++x2) eT.toArray (List.replicate k bC.toArray)=(eT++(List.replicate k bC).flatten).toArray
 |0,eT=>by simp
 |k+1,eT=>by
  have e:eT.toArray++bC.toArray=(eT++bC).toArray:=by simp
  have e2:(eT++bC)++(List.replicate k bC).flatten=eT++(List.replicate (k+1) bC).flatten:=by
   rw[List.replicate_succ,List.flatten_cons,List.append_assoc]
  rw[<-e2,<-xH bC k (eT++bC),<-e,List.replicate_succ,List.foldl_cons]
section
variable {aB:List (Addr×Obj)}{σ:St}{H:Hp}{s:Shared}{l b:Addr}{xs ys zs:List V}
theorem aX.lset{bC its':List Value}{n:Nat}{f:Array Value->Array Value}{t':Nat}(I:aX X aB σ H s)(hH:H l=some (.lst xs))
 (e:s.heap.get? l=some {cls:= .type "list",data:= .seq bC.toArray n}) (hf:f bC.toArray=its'.toArray) (hv:bP ys its') (hz:ys.length<=sizeLine):
 aX X aB σ (aO H l (.lst ys)) {s with heap:=s.heap.update l (Obj.mapSeq f),toks:=t'}:=by
 have q:=PySem.IsL.update e f
 rw[hf]at q
 refine I.write (x:=l) (e:=l) (by rw[hH];exact trivial) (.inl rfl) (λb' u hb hu=>(Heap.get?_update_other s.heap (Obj.mapSeq f) (Ne.symm hb)).trans hu) ⟨_,q⟩ ?_
 exact⟨hz,its',_,hv,q⟩
theorem aX.lnew{bC:List Value}{t':Nat}(I:aX X aB σ H s)(hv:bP ys bC)(hz:ys.length<=sizeLine):
 aX X aB σ (aO H s.heap.objs.size (.lst ys)) {s with heap:=s.heap.push {cls:= .type "list",data:= .seq bC.toArray},toks:=t'}:=
 I.laid (λ_ _ q=>Heap.get?_push_of_some _ q) (Nat.le_refl _) ⟨hz,bC,0,hv,Heap.get?_push_size _ rfl⟩
theorem aX.fresh(I:aX X aB σ H s):H s.heap.objs.size=none:=I.hok.fresh (Nat.le_refl _)
theorem aX.lstM(I:aX X aB σ H s)(hH:H l=some (.lst xs)):xs.length<=sizeLine/\ ∃(bC:List Value) (n:Nat),bP xs bC/\xs.length=bC.length/\s.heap.get? l=some {cls:= .type "list",data:= .seq bC.toArray n}:=by
 obtain⟨z,bC,n,r,e⟩:=I.hok l _ hH
 exact⟨z,bC,n,r,r.length,e⟩
theorem i6{n:Nat}(h:n<=sizeLine):Builtin.List.listTooLong n=false:=by
 unfold Builtin.List.listTooLong
 exact decide_eq_false (by omega)
end
def zdk:V->List V->Hp->VK->Prop:= λx vs H Q=> ∃l xs y,x= .ref l/\vs=[y]/\H l=some (.lst xs)/\xs.length<sizeLine/\Q .non (aO H l (.lst (xs++[y])))
theorem cS:MtM X "list.append" zdk:=by
 intro aB s σ H x vs v us Q I rx rv h
 obtain⟨l,xs,y,rfl,rfl,hH,hz,q⟩:=h
 cases rx
 obtain⟨u,rfl,ru⟩:=rv.one
 obtain⟨z,bC,n,r,hl,e⟩:=I.lstM hH
 refine call_meets F.slot_list_append ⟨_,e,rfl⟩ F.entry_list_append (F.args_list_append_2 _ _) (PySem.list_append l bC.toArray n u (by rw[List.size_toArray];omega)) ⟨e,?_⟩
 refine⟨.non,_,I.lset (its':=bC++[u]) hH e (by simp) (r.append (.cons ru .nil)) ?_,rfl,q⟩
 rw[List.length_append,List.length_singleton]
 omega
def zjG:V->List V->Hp->VK->Prop:= λx vs H Q=> ∃l b xs zs,x= .ref l/\vs=[.ref b]/\H l=some (.lst xs)/\H b=some (.lst zs)/\xs.length+zs.length<=sizeLine/\Q .non (aO H l (.lst (xs++zs)))
theorem qU:MtM X "list.extend" zjG:=by
 intro aB s σ H x vs v us Q I rx rv h
 obtain⟨l,b,xs,zs,rfl,rfl,hH,hB,hz,q⟩:=h
 cases rx
 obtain⟨u,rfl,ru⟩:=rv.one
 cases ru
 obtain⟨z,bC,n,r,hl,e⟩:=I.lstM hH
 obtain⟨z2,qL,n2,r2,bZ,e2⟩:=I.lstM hB
 have hsz:bC.toArray.size+qL.toArray.size<=sizeLine:=by rw[List.size_toArray,List.size_toArray];omega
 have zgt: ¬(!bC.toArray.isEmpty&&Builtin.List.listTooLong (bC.toArray.size+qL.toArray.size))=true:=by
  rw[i6 hsz,Bool.and_false];exact Bool.false_ne_true
 refine call_meets F.slot_list_extend ⟨_,e,rfl⟩ F.entry_list_extend (F.args_list_extend_2 _ _)
  (AutoSeq1.list_extend_list_list_0 l bC.toArray n b qL.toArray n2 zgt (by rw[List.size_toArray];omega) (by omega)) ⟨e,e2,?_⟩
 refine⟨.non,_,I.lset (its':=bC++qL) hH e (by simp) (r.append r2) ?_,rfl,q⟩
 rw[List.length_append]
 omega
def zuV:R2:= λx y H Q=> ∃l b xs zs,x= .ref l/\y= .ref b/\H l=some (.lst xs)/\H b=some (.lst zs)/\xs.length+zs.length<=sizeLine/\ ∀p,H p=none->Q (.ref p) (aO H p (.lst (xs++zs)))
theorem xW:oS X (binaryOp .Add) zuV:=by
 intro aB s σ H x y v u Q I rx ry h
 obtain⟨l,b,xs,zs,rfl,rfl,hH,hB,hz,q⟩:=h
 cases rx
 cases ry
 obtain⟨z,bC,n,r,hl,e⟩:=I.lstM hH
 obtain⟨z2,qL,n2,r2,bZ,e2⟩:=I.lstM hB
 refine PySem.P.add_list e e2 ?_ (by rw[List.size_toArray,List.size_toArray];omega)
 have ea:bC.toArray++qL.toArray=(bC++qL).toArray:=by simp
 rw[ea]
 exact⟨.ref _,_,I.lnew (t':=s.toks) (r.append r2) (by rw[List.length_append];omega),rfl,q _ I.fresh⟩
def zvC:R2:= λx y H Q=> ∃l k xs,x= .ref l/\y= .int k/\H l=some (.lst xs)/\ -(2^63)<=k/\k<2^63/\xs.length * k.toNat<=sizeLine/\
 ∀p,H p=none->Q (.ref p) (aO H p (.lst (List.replicate k.toNat xs).flatten))
theorem zcf{α:Type}(xs:List α)(k:Nat):(List.replicate k xs).flatten.length=k * xs.length:=by
 induction k with
 |zero=>simp
 |succ k ih=>rw[List.replicate_succ,List.flatten_cons,List.length_append,ih,Nat.succ_mul,Nat.add_comm]
theorem zbp:oS X (binaryOp .Mult) zvC:=by
 intro aB s σ H x y v u Q I rx ry h
 obtain⟨l,k,xs,rfl,rfl,hH,h1,h2,hz,q⟩:=h
 cases rx
 obtain⟨t,rfl⟩:=ry
 obtain⟨z,bC,n,r,hl,e⟩:=I.lstM hH
 have dL:bC.toArray.size * k.toNat<=sizeLine:=by rw[List.size_toArray,<-hl];exact hz
 have zxb: ¬bC.toArray.size * k.toNat>(2^63 - 1) / 8:=by
  have:(sizeLine:Nat)<=(2^63 - 1) / 8:=by decide
  omega
 have zqy: ¬(!Builtin.List.listFitsIndex k)=true:=by
  rw[fitsIndex_both h1 h2];exact Bool.false_ne_true
 have zgt: ¬Builtin.List.listTooLong (bC.toArray.size * k.toNat)=true:=by
  rw[i6 dL];exact Bool.false_ne_true
 have zxy:List.foldl (λx1 x2=>x1++x2) #[] (List.replicate (if bC.toArray.isEmpty=true then 0 else k.toNat) bC.toArray)=(List.replicate k.toNat bC).flatten.toArray:=by
  have f0: ∀m:Nat,List.foldl (λx1 x2=>x1++x2) #[] (List.replicate m bC.toArray)=(List.replicate m bC).flatten.toArray:= λm=>by
   have:=xH bC m [];rw[List.nil_append]at this;exact this
  rw[f0];cases bC with
  |nil=>simp
  |cons a r'=>rw[if_neg (by simp)]
 refine wpAny_binaryOp_repeat_ref (T:= "list") (U:= "int") (by decide) ⟨_,e,rfl⟩ (λs'=>typeIs_int s' k t) noFill_list_mul F.fills_int_mul F.slot_int_rmul repeat_list F.slot_int_index.lookup
  (call_meets F.slot_int_rmul (typeIs_int s k t) F.entry_int_rmul (F.args_int_rmul_2 _ _) (int___rmul___int_list k t l bC.toArray n)
   ⟨e,rfl,⟨_,e,rfl⟩,call_meets F.slot_list_mul ⟨_,e,rfl⟩ F.entry_list_mul (F.args_list_mul_2 _ _) (AutoListH.list___mul___list_int_3 l bC.toArray n k t zqy zxb zgt) ⟨e,?_⟩⟩)
 rw[zxy]
 exact⟨.ref _,_,I.lnew (t':=s.toks) (r.rep k.toNat) (by rw[zcf,Nat.mul_comm];exact hz),rfl,q _ I.fresh⟩
section
variable {prog:Program}{w:World}{A:Around}{E:Value->Shared->Prop}{s:Shared}
end
end L2
namespace Att
open PySem PySem.W PySem.Calls PyProof.Rows
theorem rY{P:Params}{h:Heap}: ∀(ns:List Int) (vs:List Value),WellAll P h vs (ns.map WData.int)->IntsAre vs ns:=by
 intro ns
 induction ns with
 |nil=>
  intro vs w;rw[List.map_nil]at w;cases w;exact .nil
 |cons n ns ih=>
  intro vs w;rw[List.map_cons]at w;cases w with
  |cons a b=>
   cases a;exact .cons _ _ (ih _ b)
theorem zdt{l:OpenLaw}{n:Nat}(hn:l.most=some n){P:Params}{h:Heap}{args:List WData}{znA:List Value}
 (ziS:l.row.toRowW.claim.pre args=true) (hwl:WellAll P h znA args):
 ∃a vs ns,znA=[Value.ref a]/\args=[WData.list (ns.map WData.int)]/\h.get? a=some {cls:= .type "list",data:= .seq vs.toArray}/\IntsAre vs ns/\ns.length<=n:=by
 have hsh:WShape.hasAll [] args [.list .int]=true:=(pre_splitW ziS).1
 have hc:l.pre.holds [] {args:=args}=true:=(pre_splitW ziS).2
 obtain⟨d,r,rfl,h1,h2⟩:=hasAllW_cons hsh
 obtain rfl:=hasAllW_nil h2
 obtain⟨xs,rfl,h3⟩:=hasW_list h1
 obtain⟨ns,rfl⟩:=items_int h3
 have dL:ns.length<=n:=by
  unfold OpenLaw.pre at hc;have h4:(WTm.not (.lt (.lit (.int (n:Int))) (.len (.arg 0)))).holds [] {args:=[.list (ns.map .int)]}=true:=by
   have h4:=(holds_andW hc).1;rw[hn]at h4;exact h4
  have h5:=condW_of h4 (w_not (w_lt w_lit (w_len_list (w_arg rfl))));rw[aW]at h5;refine Nat.le_of_not_lt λq=> ?_;have q':(n:Int)<((ns.length:Nat):Int):=by omega
  first
   |(rw[decide_eq_true q']at h5;exact absurd h5 (by decide))
   |(simp at h5;omega)
 cases hwl with
 |cons w1 w2=>
  cases w2;cases w1 with
  |list ho uA=>exact⟨_,_,ns,rfl,rfl,ho,rY ns _ uA,dL⟩
theorem zdY(l:OpenLaw)(args:List WData):l.row.toRowW.claim.post args (.bool true) args=true:=
 postW_of (r:=l.row.toRowW) (X:=(true==true))
  (show WShape.has [] (.bool true) .bool=true by first|rfl|decide|simp[WShape.has,WShape.arms,WShape.armsAll])
  (show(WTm.eq .res (.lit (.bool true))).value [] {args:=args,res:=some (.bool true),after:=args}=some (.bool (true==true))from w_eq_bool (w_res rfl) w_lit) rfl
theorem attach_call{l:OpenLaw}{n:Nat}{q:Program}{wQ:List Str}{XP:(Str->Option Value)->Heap->Prop}{YP:World->Heap->Prop}{d:DefRec}
 (hn:l.most=some n) (hdf:d.params.defaults=[])
 (call: ∀(w:World) (s₀ s₁:Shared) (mg mb:Str->Option Value) (fa:Addr) (o:Obj) (pm cd mO:Value) (a:Addr) (vs:List Value) (ns:List Int),
  Ground q wQ [] XP w s₀ mg mb s₁.heap->YP w s₁.heap->
  s₁.heap.get? fa=some o->o.data= .func (docDef d.name d.params d.body d.scope pm cd mO)->s₁.heap.CodeRec cd d.name->mg d.name=some (.ref fa)->
  s₁.heap.get? a=some {cls:= .type "list",data:= .seq vs.toArray}->IntsAre vs ns->ns.length<=n->s₁.gens= #[]->
  codeAny (model l.prog w) callerA (.call (.ref fa) ⟨[.ref a],[]⟩) (λr s'=>r= .ok (.ret (.bool true))/\OldK s₁.heap s'.heap/\s'.os=s₁.os/\AllBare s'.gens) s₁):
 WalkO q wQ XP YP l.row.toRowW d [] (λf vs=>PySem.call f vs):=by
 intro w s₀ s₁ mg mb G Y fa o pm cd mO dV kV ho hd vC hD hmg hg args znA as ziS zEF hrd hwl hlo
 obtain rfl:dV= .none:=Dflts.none hD hdf
 obtain rfl:kV= .none:=Dflts.noKw hD
 obtain⟨a,vs,ns,rfl,rfl,zmC,zfz,dL⟩:=zdt hn ziS hwl
 refine enter_call (codeAny_mono (call w s₀ s₁ mg mb fa o pm cd mO a vs ns G Y ho (fd_plain hd) vC hmg zmC zfz dL hg) λr s' hq=> ?_)
 obtain⟨rfl,h2,h3,h4⟩:=hq
 exact⟨.inl ⟨.bool true,.bool true,[],rfl,λ_=>rfl,.bool true,zdY l _,λ_=>⟨List.Pairwise.nil,λ_ hm=>(nomatch hm)⟩⟩,h2,h3,h4⟩
section
variable {prog:Program}{w:World}{A:Around}{E:Value->Shared->Prop}{s:Shared}{K:Frag}
def zve(h:Heap)(L d:Addr):List (Addr×Obj):=(List.range h.objs.size).filterMap λa=>if a=L\/a=d then none else(h.get? a).map λo=>(a,o)
end
end Att
namespace L2
open PySem PySem.Spec PyProof.Rows
theorem pY: ∀{vs:List Value} {ns:List Int},IntsAre vs ns->bP (ns.map V.int) vs
 |_,_,.nil=> .nil
 |_,_,.cons n t h=> .cons ⟨t,rfl⟩ (pY h)
def zka(s:Stmt)(j:Nat):Stmt:=match s with
 | .ClassDef _ _ _ body _ _ _ _ _ _ _=>body.getD j (.Pass ⟨0,0,0,0⟩)
 |_=> .Pass ⟨0,0,0,0⟩
def eI(s:Stmt):Arguments:=match s with
 | .FunctionDef _ a _ _ _ _ _ _ _ _=>a
 |_=>{posonlyargs:=[],args:=[],vararg:=none,kwonlyargs:=[],kw_defaults:=[],kwarg:=none,defaults:=[]}
def cU(s:Stmt):List Stmt:=match s with
 | .FunctionDef _ _ b _ _ _ _ _ _ _=>b
 |_=>[]
def aE(s:Stmt):Scope:=match s with
 | .FunctionDef _ _ _ _ _ _ sc _ _ _=>sc
 |_=>{kind:= .function,names:=[],isGenerator:=false,isCoroutine:=false}
abbrev fV:w6:= λ_ _ _ _ _ _=>False
abbrev E0:XK:= λ_ _ _=>False
theorem lK{X:Cx}:sQ fV X E0:= λ_ _ _ _ _ _ _ h=>h.elim
structure lH(K:W.Frag)(x bK:Str)(st:Stmt)(f:Addr)(fd:FuncData):Prop where
 ex: ∃(oc:Value) (od:Option Addr) (kV mO pm:Value) (an:Option Addr) (cdv ct:Value) (osl:Array (Option Value)),
  fd=PySem.W.fnOf x bK (eI st) (cU st) (aE st) .none kV mO pm an cdv ct/\K.lookup f=some ⟨oc,od,.func fd,osl⟩/\PySem.W.codeIn K cdv bK=true
 kp:W.keepIn K (.ref f)=true
section
variable {P:Program}{w:World}{K:W.Frag}{mg:Str->Option Value}{base:Heap}
theorem lH.ok{x bK:Str}{st:Stmt}{f:Addr}{fd:FuncData}{N ps:List Str}{k:Nat}{sp:Sp}(F:lH K x bK st f fd)(S:bS N ps (aE st))(len: ∀vs H Q E,sp vs H Q E->vs.length=ps.length)
 (oX: ∀(cdv:Value) (A:Around) (outer:List Env) (s:Shared) (H:Hp) (vs:List V) (Q:VK) (E:XK),eV k (A.deeper (envOfC bK (aE st) s.heap.objs.size f cdv))->sp vs H Q E->
  ∃t,vS (dM fV P w K mg base N bK (aE st) f cdv A outer s H E).nox (cU st) t/\t {nx:= λ_ H'=>Q .non H',rt:=Q} (mD N vs) H):dG P w K mg base fV (k+1) f fd ps sp:=by
 obtain⟨oc,od,kV,mO,pm,an,cdv,ct,osl,rfl,lk,vC⟩:=F.ex
 refine zkR lk vC S len λA outer s H vs Q E hr hsp=> ?_
 obtain⟨t,h,q⟩:=oX cdv A outer s H vs Q E hr hsp
 exact⟨t,h.nox,q⟩
theorem lH.binds{x bK:Str}{st:Stmt}{f:Addr}{fd:FuncData}{ps:List Str}(F:lH K x bK st f fd)
 (h: ∀(kV mO pm:Value) (an:Option Addr) (cdv ct:Value) (us:List Value),us.length=ps.length->bindArgs (PySem.W.fnOf x bK (eI st) (cU st) (aE st) .none kV mO pm an cdv ct) ⟨us,[]⟩=pure (ps.zip us)):lJ K fd ps []:=by
 obtain⟨oc,od,kV,mO,pm,an,cdv,ct,osl,rfl,lk,vC⟩:=F.ex
 exact .all (h kV mO pm an cdv ct)
theorem zbR{x bK:Str}{st:Stmt}{f:Addr}{oc:Value}{od an:Option Addr}{osl:Array (Option Value)}{kV mO pm cdv ct:Value}(l:K.lookup f=some ⟨oc,od,.func (PySem.W.fnOf x bK (eI st) (cU st) (aE st) .none kV mO pm an cdv ct),osl⟩)
 (c:PySem.W.codeIn K cdv bK=true) (k:W.keepIn K (.ref f)=true):lH K x bK st f (PySem.W.fnOf x bK (eI st) (cU st) (aE st) .none kV mO pm an cdv ct):=⟨⟨oc,od,kV,mO,pm,an,cdv,ct,osl,rfl,l,c⟩,k⟩
end
theorem gI{n:Nat}(h:n<=1000):n<sizeLine:=Nat.lt_of_le_of_lt h (by decide)
section
variable {X:Cx}
theorem pv(i:Nat){x:Str}{pos:Pos}(hN:X.N[i]?=some x:=by rfl)(hv:Vis X.env.scope x:=by first|exact Or.inl rfl|exact Or.inr (Or.inl rfl)|exact Or.inr (Or.inr rfl))(hd:(x==("__debug__" :Str))=false:=by decide)
 (vC:(x==("__classdict__" :Str))=false:=by decide):PE X (.Name x pos) (aL i):=znh hN hv hd vC
end
theorem pD{A B:Prop}(h:B):if false=true then A else B:=by
 rw[if_neg Bool.false_ne_true]
 exact h
theorem vN{A B:Prop}(h:A):if true=true then A else B:=by
 rw[if_pos rfl]
 exact h
theorem iX{c A B:Prop} [Decidable c](h1:c->A)(h2: ¬c->B):if c then A else B:=by
 by_cases h:c
 . rw[if_pos h];exact h1 h
 . rw[if_neg h];exact h2 h
def Same(H H':Hp):Prop:= ∀b o,H b=some o->H' b=some o
theorem Same.refl(H:Hp):Same H H:= λ_ _ h=>h
theorem Same.trans{H H1 H2:Hp}(a:Same H H1)(b:Same H1 H2):Same H H2:= λc o h=>b c o (a c o h)
theorem Same.free{H H':Hp}(e:Same H H'){l:Addr}(h:H' l=Option.none):H l=Option.none:=by
 cases q:H l with
 |none=>rfl
 |some o=>
  rw[e l o q]at h;cases h
theorem Same.seq{K:W.Frag}{H H':Hp}{a:Addr}{xs:List V}(e:Same H H')(h:bB K H a xs):bB K H' a xs:=by
 rcases h with(h|⟨o,h⟩)|h
 . exact .inl (.inl (e _ _ h))
 . exact .inl (.inr ⟨o,e _ _ h⟩)
 . exact .inr h
end L2
set_option maxHeartbeats 4000000
namespace L2
open PySem PySem.Spec PyProof.Rows
def PTs(X:Cx)(cs:List Expr)(t:TT):Prop:=
 ∀(aB:List (Addr×Obj)) (s:Shared) (σ:St) (H:Hp) (Q:Bool->Hp->Prop),aX X aB σ H s->t σ H Q->
  wpAny (model X.prog X.w) X.A (forIn cs true λc r=>if r=true then do let ok<-isTrue c X.env (eval c X.env);pure (ForInStep.yield ok)else pure (ForInStep.yield r)) (TP X aB σ Q) X.xe s
def cK:TT:= λ_ H Q=>Q true H
theorem cB{X:Cx}:PTs X [] cK:= λ_ _ _ H _ I h=>wpAny_tests_nil ⟨H,I,h⟩
theorem jD{X:Cx}{c:Expr}{t:TT}(h:PT X c t):PTs X [c] t:= λaB s σ H Q I q=>wpAny_tests_one (h aB s σ H Q I q)
theorem mM{prog:Program}{w:World}{A:Around}{R:Result->Shared->Prop}{s:Shared}{wG qK gD:Expr}{vF:List Expr}{scope:Scope}{pos:Pos}{it eT:Value}{env:Env}(I:Nat->Shared->Prop)
 (qE: ∀n s,I n s->wpAny (model prog w) A (pyNext it) (λr s₁=>match r with
  |none=>R (.ok .next) s₁
  |some v=>wpAny (model prog w) A (letOwnedTupleGo qK it v) (λ_ zAO=>wpAny (model prog w) A (assign qK env v) (λ_ s₂=>
   wpAny (model prog w) A (forIn vF true λc r=>if r=true then do let ok<-isTrue c env (eval c env);pure (ForInStep.yield ok)else pure (ForInStep.yield r)) (λok s₃=>
    if ok=true then wpAny (model prog w) A (eval wG env) (λx s₄=>
     wpAny (model prog w) A (call (.builtin "list.append") [eT,x]) (λ_ s₅=> ∃m,m<n/\I m s₅) (λ_ _=>False) s₄) (λ_ _=>False) s₃
    else ∃m,m<n/\I m s₃) (λ_ _=>False) s₂) (λ_ _=>False) zAO) (λ_ _=>False) s₁) (λ_ _=>False) s)
 (n:Nat) (h:I n s):
 codeAny (model prog w) A (.compLoop (.ListComp wG [⟨qK,gD,vF,0⟩] scope pos) 0 it eT env) R s:=by
 refine codeAny_loop rfl I (λn s hI=> ?_) n h
 show wpAny _ A ((compTurn (.ListComp wG [⟨qK,gD,vF,0⟩] scope pos) 0 it eT env).onRaise (λx=>do noteFrame x env;theTreesLotGoes x)) _ _ s
 refine wpAny_noted ?_
 rw[compTurn_list]
 refine wpAny_bind (wpAny_standAt (wpAny_bind (wpAny_mono (qE n s hI) (λr s₁ h₁=> ?_) λ_ _ h'=>h'.elim)))
 cases r with
 |none=>exact wpAny_pure h₁
 |some v=>
  refine wpAny_bind (wpAny_mono h₁ (λ_ zAO zCq=> ?_) λ_ _ h'=>h'.elim);refine wpAny_bind (wpAny_mono zCq (λ_ s₂ h₂=>wpAny_bind (wpAny_mono h₂ (λok s₃ h₃=> ?_) λ_ _ h'=>h'.elim)) λ_ _ h'=>h'.elim);cases ok with
  |false=>exact wpAny_pure ⟨rfl,h₃⟩
  |true=>
   exact wpAny_bind (wpAny_bind (wpAny_mono h₃ (λx s₄ h₄=>wpAny_bind (wpAny_mono h₄ (λ_ s₅ h₅=>wpAny_pure (wpAny_pure ⟨rfl,h₅⟩)) λ_ _ h'=>h'.elim)) λ_ _ h'=>h'.elim))
def dC(env:Env):List (Str×NameKind)->List (Str×Addr)->List (Str×Addr)
 | [],cs=>cs
 |(n,k)::r,cs=>dC env r (if k== .free then(match env.cells.lookup n with|some a=>(n,a)::cs|none=>cs)else cs)
theorem zcp{env:Env}: ∀(ns:List (Str×NameKind)) (cs:List (Str×Addr)),(∀x∈ns,x.2= .free-> ∃c,env.cells.lookup x.1=some c)->
 (forIn ns cs λx (r:List (Str×Addr))=>(match x with|(name,kind)=>if(kind== .free)=true then do let a<-cellOf env name;pure (ForInStep.yield ((name,a)::r))else pure (ForInStep.yield r):Sem (ForInStep (List (Str×Addr)))))=(pure (dC env ns cs):Sem (List (Str×Addr)))
 | [],cs,_=>rfl
 |(n,k)::r,cs,h=>by
  have ih:= λcs=>zcp (env:=env) r cs λx hx=>h x (List.mem_cons_of_mem _ hx);rw[List.forIn_cons];unfold dC
  by_cases hk:k= .free
  . subst hk;obtain⟨c,e⟩:=h (n,.free) List.mem_cons_self rfl;have ec:cellOf env n=pure c:=by unfold cellOf;rw[e]
    simp only[beq_self_eq_true,if_true,ec,e,pure_bind];exact ih _
  . have hb:(k==NameKind.free)=false:=by simpa using hk
    simp only[hb,Bool.false_eq_true,if_false,pure_bind];exact ih _
theorem xU{scope:Scope}{env:Env}(h: ∀x∈scope.names,x.2= .free-> ∃c,env.cells.lookup x.1=some c):closureFor scope env=pure (dC env scope.names []):=by
 have q:=zcp (env:=env) scope.names [] h
 unfold closureFor
 simp only[bind_pure_comp,map_pure,bind_pure]at q ⊢
 first
  |exact q
  |(simpa using q)
theorem fU{env:Env}: ∀(ns:List (Str×NameKind)) (cs:List (Str×Addr)) (x:Str) (c:Addr),(dC env ns cs).lookup x=some c->env.cells.lookup x=some c\/cs.lookup x=some c
 | [],cs,x,c,h=> .inr h
 |(n,k)::r,cs,x,c,h=>by
  unfold dC at h
  rcases fU r _ x c h with q|q
  . exact .inl q
  . by_cases hk:k= .free
    . subst hk;simp only[beq_self_eq_true,if_true]at q;cases e:env.cells.lookup n with
      |none=>rw[e]at q;exact .inr q
      |some a=>
       rw[e]at q;simp only[List.lookup_cons]at q;cases hx:x==n with
       |true=>
        rw[hx]at q;have ex:x=n:=by simpa using hx
        subst ex;have ea:a=c:=Option.some.inj q;subst ea;exact .inl e
       |false=>rw[hx]at q;exact .inr q
    . have hb:(k==NameKind.free)=false:=by simpa using hk
      simp only[hb,Bool.false_eq_true,if_false]at q;exact .inr q
theorem uZ{env:Env}: ∀(ns:List (Str×NameKind)) (cs:List (Str×Addr)) (x:Str),(∃c,cs.lookup x=some c)-> ∃c,(dC env ns cs).lookup x=some c
 | [],_,_,h=>h
 |(n,k)::r,cs,x,⟨c,h⟩=>by
  unfold dC;refine uZ r _ x ?_
  by_cases hk:(k==NameKind.free)=true
  . rw[if_pos hk];cases e:env.cells.lookup n with
    |none=>exact⟨c,h⟩
    |some a=>
     simp only[List.lookup_cons];cases hx:x==n with
     |true=>exact⟨a,rfl⟩
     |false=>exact⟨c,h⟩
  . rw[if_neg hk];exact⟨c,h⟩
theorem jN{env:Env}: ∀(ns:List (Str×NameKind)) (cs:List (Str×Addr)) (x:Str),(x,NameKind.free)∈ns->(∃c,env.cells.lookup x=some c)-> ∃c,(dC env ns cs).lookup x=some c
 | [],_,_,h,_=>nomatch h
 |(n,k)::r,cs,x,h,⟨c,e⟩=>by
  unfold dC
  rcases List.mem_cons.mp h with z|z
  . have z1:x=n:=congrArg Prod.fst z;have z2:NameKind.free=k:=congrArg Prod.snd z;subst z1 z2;refine uZ r _ x ?_;simp only[beq_self_eq_true,if_true,e,List.lookup_cons];exact⟨c,rfl⟩
  . exact jN r _ x z ⟨c,e⟩
theorem dD{ns:List (Str×NameKind)}{x:Str}{k:NameKind}(h:ns.lookup x=some k):(x,k)∈ns:=PySem.mem_of_lookup h
theorem fD{env:Env}: ∀(names:List (Str×NameKind)) (x:Str),
 (names.map λ(n,k)=>if(k==NameKind.free&&env.scope.kind== .function&&env.kindOf n==some .cell)then(n,NameKind.cell)else(n,k)).lookup x=
  (names.lookup x).map λk=>if(k==NameKind.free&&env.scope.kind== .function&&env.kindOf x==some .cell)then NameKind.cell else k
 | [],x=>rfl
 |(n,k)::r,x=>by
  have ih:=fD (env:=env) r x;rw[List.map_cons];show List.lookup x ((if(k==NameKind.free&&env.scope.kind== .function&&env.kindOf n==some .cell)=true then(n,NameKind.cell)else(n,k))::_)=_;cases hx:x==n with
  |true=>
   have ex:x=n:=by simpa using hx
   subst ex
   by_cases hc:(k==NameKind.free&&env.scope.kind== .function&&env.kindOf x==some .cell)=true
   . rw[if_pos hc];simp only[List.lookup_cons,beq_self_eq_true,Option.map_some];rw[if_pos hc]
   . rw[if_neg hc];simp only[List.lookup_cons,beq_self_eq_true,Option.map_some];rw[if_neg hc]
  |false=>
   by_cases hc:(k==NameKind.free&&env.scope.kind== .function&&env.kindOf n==some .cell)=true
   . rw[if_pos hc];simp only[List.lookup_cons,hx];exact ih
   . rw[if_neg hc];simp only[List.lookup_cons,hx];exact ih
structure aP(own fr:List Str)(scope:Scope)(outer:Scope):Prop where
 kind:scope.kind= .function
 nocell: ∀y∈scope.names,y.2≠ .cell
 names: ∀y∈scope.names,y.2= .local->scope.names.lookup y.1=some .local
 nd:(own++fr).Nodup
 outs: ∀y∈scope.names,y.2= .free->outer.names.lookup y.1=some .cell\/outer.names.lookup y.1=some .free
 frs: ∀x∈fr,scope.names.lookup x=some .free
 owns: ∀x∈own,scope.names.lookup x=some .local
theorem aP.of{own fr:List Str}{sc out:Scope}(k:sc.kind= .function)(h:(∀y∈sc.names,y.2≠ .cell) ∧ (∀y∈sc.names,y.2= .local → sc.names.lookup y.1=some .local) ∧ (own++fr).Nodup ∧ (∀y∈sc.names,y.2= .free → out.names.lookup y.1=some .cell ∨ out.names.lookup y.1=some .free) ∧ (∀x∈fr,sc.names.lookup x=some .free) ∧ ∀x∈own,sc.names.lookup x=some .local):aP own fr sc out:=⟨k,h.1,h.2.1,h.2.2.1,h.2.2.2.1,h.2.2.2.2.1,h.2.2.2.2.2⟩
def gN(X:Cx)(scope:Scope)(C:Addr)(N:List Str)(s:Shared)(H:Hp)(aB:List (Addr×Obj))(fp:List Addr):Cx:=
 {X with N:=N,s₀:=s,H₀:=H,env:=compEnvC scope (dC X.env scope.names []) C X.env,outer:=X.stack,stack:=X.stack,ex:=fp,fn:= λ_=>false,pn:=X.pn++aB,xe:= λ_ _=>False}
def kL(n:Nat)(idx:List Nat)(σ:St):St:=List.replicate n none++idx.map λj=>(σ[j]?).join
def bH(J:It)(D:Addr)(g:TG)(tc:TT)(te:TE)(Q:VK)(σ0:St)(H1:Hp):Prop:= ∃W:Nat->Nat->List V->St->Hp->Prop,(∃m,W 0 m [] σ0 (aO H1 D (.lst [])))/\
 ∀i m ys σ H,H D=some (.lst ys)->W i m ys σ H->(J.stop i H/\Q (.ref D) H)\/(J.go i H/\ys.length<sizeLine/\ ∃N:List V->St->Hp->Prop,(∀wL σ' H',N wL σ' H'-> ∃m',m'<m/\W (i+1) m' wL σ' H')/\
  ∀x H',J.yld i H x H'->g x σ H' λσ2 H2=>tc σ2 H2 λb H3=>
   if b=true then te σ2 H3 λv H4=>H4 D=some (.lst ys)/\N (ys++[v]) σ2 (aO H4 D (.lst (ys++[v])))
   else H3 D=some (.lst ys)/\N ys σ2 H3)
def iR(wi:TI)(n:Nat)(idx:List Nat)(g:TG)(tc:TT)(te:TE):TE:= λσ H Q=>wi σ H λJ H1=> ∀D,H1 D=none->bH J D g tc te Q (kL n idx σ) H1
section
variable {X:Cx}
theorem zeJ{scope:Scope}{own fr:List Str}{C:Addr}{aB:List (Addr×Obj)}{σ:St}{H:Hp}{s:Shared}{fp:List Addr}(S:aP own fr scope X.env.scope)(I:aX X aB σ H s)(hf: ∀b∈fp,iF X aB H b)
 (hC:s.heap.objs.size<=C) (hfC: ∀b∈fp,b≠C):(gN X scope C (own++fr) s H aB fp).Ok:=by
 have sub: ∀x c,(dC X.env scope.names []).lookup x=some c->X.env.cells.lookup x=some c:= λx c e=>(fU _ _ x c e).elim id λz=>nomatch z
 have zbG: ∀x,(compEnvC scope (dC X.env scope.names []) C X.env).kindOf x=(scope.names.lookup x).map λk=>if(k==NameKind.free&&X.env.scope.kind== .function&&X.env.kindOf x==some .cell)then NameKind.cell else k:= λx=>fD _ x
 refine⟨I.ok.mod,S.kind,I.ok.glob,I.ok.blt,hC,λx y c e1 e2=>I.ok.inj x y c (sub x c e1) (sub y c e2),λx hx=> ?_,λx c z=>absurd z Bool.false_ne_true,I.ok.hd,I.ok.frames,.inl rfl,λb hb=>⟨hfC b hb,λx c e=>(hf b hb).2.2.2.2.1 x c (sub x c e)⟩,
  I.bs,Nat.le_trans I.ok.bsz I.sz,λb o e hb=> ?_,λb hb z=> ?_,I.stack,I.stkFree⟩
 . have vD:(compEnvC scope (dC X.env scope.names []) C X.env).kindOf x=some .cell\/(compEnvC scope (dC X.env scope.names []) C X.env).kindOf x=some .free:=hx;rw[zbG]at vD;cases e:scope.names.lookup x with
   |none=>rw[e]at vD;rcases vD with z|z<;>cases z
   |some k=>
    have hk:k= .free:=by
     rw[e]at vD;have nc:=S.nocell (x,k) (dD e);cases k with
     |free=>rfl
     |cell=>exact absurd rfl nc
     |«local»=>rcases vD with z|z<;>simp at z
     |globalImplicit=>rcases vD with z|z<;>simp at z
     |globalExplicit=>rcases vD with z|z<;>simp at z
    subst hk;have m:=dD e;refine jN _ _ x m ?_;exact I.ok.has x (S.outs _ m rfl)
 . rcases(hf b hb).2.2.2.1 with z|z
   . exact I.ok.noex b o e z
   . exact absurd (Nat.lt_of_lt_of_le (Heap.lt_size e) (Nat.le_trans I.ok.bsz z)) (Nat.lt_irrefl _)
 . have z':b∈frs X.stack:=z
   rcases List.mem_cons.mp (I.stkSub b z')with q|q
   . exact(hf b hb).2.1 q
   . exact(hf b hb).2.2.1 q
theorem uC{own fr:List Str}{idx:List Nat}{σ:St}(hix:idx.length=fr.length){i:Nat}{x:Str}{v:V}(h1:(own++fr)[i]?=some x)(h2:(kL own.length idx σ)[i]?=some (some v)):
 ∃(k j:Nat),fr[k]?=some x/\idx[k]?=some j/\σ[j]?=some (some v):=by
 unfold kL at h2
 by_cases hi:i<own.length
 . rw[List.getElem?_append_left (by simpa using hi),List.getElem?_replicate]at h2
   split at h2<;>cases h2
 . rw[List.getElem?_append_right (by simpa using hi)]at h2;rw[List.getElem?_append_right (by omega)]at h1;rw[List.length_replicate,List.getElem?_map]at h2;cases e:idx[i - own.length]? with
   |none=>rw[e]at h2;cases h2
   |some j=>
    rw[e]at h2;have h3:(σ[j]?).join=some v:=Option.some.inj h2;refine⟨i - own.length,j,h1,e,?_⟩;cases q:σ[j]? with
    |none=>rw[q]at h3;cases h3
    |some w=>rw[q]at h3;have h4:w=some v:=h3;rw[h4]
theorem uM{scope:Scope}{own fr:List Str}{idx:List Nat}{aB:List (Addr×Obj)}{σ:St}{H:Hp}{s:Shared}{fp:List Addr}{h4:Heap}{tk:Nat}{m:Str->Option Value}(S:aP own fr scope X.env.scope)
 (hix:idx.length=fr.length) (hat: ∀(k:Nat) (x:Str) (j:Nat),fr[k]?=some x->idx[k]?=some j->X.N[j]?=some x)
 (I:aX X aB σ H s) (hf: ∀b∈fp,iF X aB H b) (hfs: ∀b∈fp,b<s.heap.objs.size) (hn:h4.Ns s.heap.objs.size m) (hk: ∀b o,s.heap.get? b=some o->h4.get? b=some o):
 aX (gN X scope s.heap.objs.size (own++fr) s H aB fp) [] (kL own.length idx σ) H {s with heap:=h4,toks:=tk}:=by
 have sub: ∀x c,(dC X.env scope.names []).lookup x=some c->X.env.cells.lookup x=some c:= λx c e=>(fU _ _ x c e).elim id λz=>nomatch z
 have hfC: ∀b∈fp,b≠s.heap.objs.size:= λb hb=>Nat.ne_of_lt (hfs b hb)
 have ok:=zeJ (fp:=fp) S I hf (Nat.le_refl _) hfC
 refine⟨ok,rfl,I.bare,Un.kept hk,⟨m,hn,λi x v e1 e2 e3=> ?_⟩,λx c e=> ?_,I.hok.fresh (Nat.le_refl _),λx c e=>I.freeC x c (sub x c e),λp hp=> ?_,I.hok.kept hk,?_⟩
 . obtain⟨k,j,q1,q2,q3⟩:=uC hix e1 e2;have hN:=hat k x j q1 q2;have hx:=List.mem_of_getElem? q1;have gF:=S.frs x hx;have zgx:=S.outs _ (dD gF) rfl;obtain⟨m0,_,hl⟩:=I.loc;obtain⟨u,ru,lk⟩:=hl j x v hN q3 (zgx.elim (λz=> .inr (.inl z)) λz=> .inr (.inr z));refine⟨u,ru,?_⟩;have pI:(compEnvC scope (dC X.env scope.names []) s.heap.objs.size X.env).kindOf x=some .cell\/(compEnvC scope (dC X.env scope.names []) s.heap.objs.size X.env).kindOf x=some .free:=by
    have q:=fD (env:=X.env) scope.names x;rw[gF]at q
    by_cases hc:(NameKind.free==NameKind.free&&X.env.scope.kind== .function&&X.env.kindOf x==some .cell)=true
    . refine .inl (q.trans ?_);simp only[Option.map_some];rw[if_pos hc]
    . refine .inr (q.trans ?_);simp only[Option.map_some];rw[if_neg hc]
   rcases lk with⟨kl,_⟩|⟨_,c,ec,cc⟩
   . have kl':X.env.scope.names.lookup x=some .local:=kl
     rcases zgx with z|z<;>(rw[kl']at z;cases z)
   . obtain⟨c',ec'⟩:=jN scope.names [] x (dD gF) ⟨c,ec⟩;have e':=sub x c' ec';rw[ec]at e';cases e';obtain⟨o,ho,hd⟩:=cc;exact .inr ⟨pI,c,ec',o,hk c o ho,hd⟩
 . obtain⟨v,o,ho,hd⟩:=I.cell x c (sub x c e);exact⟨v,o,hk c o ho,hd⟩
 . have hp':p∈X.pn++aB:=by
    rcases List.mem_append.mp hp with z|z
    . exact z
    . exact nomatch z
   obtain⟨a1,a2,a3,a4,a5⟩:=I.pin p hp';refine⟨hk _ _ a1,a2,Nat.ne_of_lt (Heap.lt_size a1),λz=> ?_,a5⟩
   rcases List.mem_cons.mp (I.stkSub p.1 z)with q|q
   . exact a3 q
   . exact a4 q
 . show(kL own.length idx σ).length=(own++fr).length
   unfold kL;rw[List.length_append,List.length_append,List.length_replicate,aW,hix]
theorem wZ{scope:Scope}{N:List Str}{aB:List (Addr×Obj)}{σ σ':St}{H H':Hp}{s s':Shared}{fp:List Addr}{h':Heap}
 (I:aX X aB σ H s) (hf: ∀b∈fp,iF X aB H b) (J:aX (gN X scope s.heap.objs.size N s H aB fp) [] σ' H' s') (hs:Heap.SameBut s.heap.objs.size s'.heap h'):
 aX X aB σ H' {s' with heap:=h'}:=by
 have ne: ∀b o,s.heap.get? b=some o->b≠s.heap.objs.size:= λb o e=>Nat.ne_of_lt (Heap.lt_size e)
 have hCn:H' s.heap.objs.size=none:=J.free
 have u:=J.base
 refine I.call' (s':={s' with heap:=h'}) (ch:=fp) J.os ⟨λb o e n hb hx=> ?_,λb o e n hb hx=> ?_,u.free,λb o e hx=> ?_,u.tups,u.frzs,u.tbls⟩ (λb ob e=> ?_) J.bare λb hb=> ?_
 . exact(hs.2 b (ne b o e)).trans (u.keep b o e n hb hx)
 . obtain⟨sl,q⟩:=u.slot b o e n hb hx;exact⟨sl,(hs.2 b (ne b o e)).trans q⟩
 . obtain⟨o',q⟩:=u.there b o e hx;exact⟨o',(hs.2 b (ne b o e)).trans q⟩
 . refine(J.hok b ob e).stay (λc v hc q=>(hs.2 c ?_).trans q) (λ_ q=>q) λ_ _ q=>q;rintro rfl
   rcases hc with z|z
   . rw[<-z,hCn]at e;cases e
   . rw[hCn]at z;cases z
 . obtain⟨f0,f1,f2,f3,f4,f5⟩:=hf b hb;exact⟨f3,f1,f4,f5⟩
theorem qT{Y:Cx}{wG tg gD:Expr}{vF:List Expr}{scope:Scope}{pos:Pos}{it D:Addr}{fp:List Addr}{tn:Nat->Heap->Prop}{J:It}{g:TG}{tc:TT}{te:TE}{Q:Hp->Prop}{W:Nat->Nat->List V->St->Hp->Prop}{R:Result->Shared->Prop}{s0:Shared}{m0:Nat}
 (hc:Y.calm=true) (hg:PG Y tg g) (ht:PTs Y vF tc) (he:PE Y wG te) (hF: ∀v s,Y.xe v s->False) (T:sO Y.prog Y.w Y.K tg J fp it tn) (fpC: ∀{H':Hp},(∀b∈fp,H' b=none)-> ∀b∈fp,iF Y [] H' b)
 (qE: ∀i m ys σ H,H D=some (.lst ys)->W i m ys σ H->(J.stop i H/\Q H)\/(J.go i H/\ys.length<sizeLine/\ ∃N:List V->St->Hp->Prop,(∀wL σ' H',N wL σ' H'-> ∃m',m'<m/\W (i+1) m' wL σ' H')/\
  ∀x H',J.yld i H x H'->g x σ H' λσ2 H2=>tc σ2 H2 λb H3=>
   if b=true then te σ2 H3 λv H4=>H4 D=some (.lst ys)/\N (ys++[v]) σ2 (aO H4 D (.lst (ys++[v])))
   else H3 D=some (.lst ys)/\N ys σ2 H3))
 (done: ∀s6 σ H,aX Y [] σ H s6->Q H->R (.ok .next) s6)
 (h0: ∃i ys σ' H',aX Y [] σ' H' s0/\tn i s0.heap/\(∀b∈fp,H' b=none)/\H' D=some (.lst ys)/\W i m0 ys σ' H'):
 codeAny (model Y.prog Y.w) Y.A (.compLoop (.ListComp wG [⟨tg,gD,vF,0⟩] scope pos) 0 (.ref it) (.ref D) Y.env) R s0:=by
 have ziW: ∀{α:Type} {m:Sem α} {Q Q':α->Shared->Prop} {s:Shared},wpAny (model Y.prog Y.w) Y.A m Q Y.xe s->(∀v s',Q v s'->Q' v s')->wpAny (model Y.prog Y.w) Y.A m Q' (λ_ _=>False) s:= λh k=>wpAny_mono h k hF
 refine mM (λn s'=> ∃i ys σ' H',aX Y [] σ' H' s'/\tn i s'.heap/\(∀b∈fp,H' b=none)/\H' D=some (.lst ys)/\W i n ys σ' H') ?_ m0 h0
 rintro n s5 ⟨i,ys,σ5,H5,I5,st5,fr5,hD5,w5⟩
 rcases qE i n ys σ5 H5 hD5 w5 with⟨stop,q⟩|⟨go,dL,N,hN,step⟩
 . refine dP (T.done Y rfl rfl rfl hc i [] s5 σ5 H5 _ I5 (fpC fr5) st5 stop) λr s6 zz=> ?_;obtain⟨hr,I6⟩:=zz;subst hr;exact done s6 σ5 H5 I6 q
 . refine dP (T.item Y rfl rfl rfl hc i [] s5 σ5 H5 _ I5 (fpC fr5) st5 go) λr s6 zz=> ?_;obtain⟨u,hr,h6⟩:=zz;subst hr;refine dP h6 λ_ s7 zz=> ?_;obtain⟨x,H7,I7,r7,y7,st7,fr7⟩:=zz;have I7':=I7.pinned (fpC fr7) (T.obj _ _ st7);refine ziW (hg _ s7 σ5 H7 x u _ I7' r7 (step x H7 y7)) λ_ s8 zz=> ?_;obtain⟨σ8,H8,I8,q8⟩:=zz;refine ziW (ht _ s8 σ8 H8 _ I8 q8) λok s9 zz=> ?_;obtain⟨H9,I9,q9⟩:=zz;have again: ∀{σ':St} {H':Hp} {s':Shared} {wL:List V},aX Y ([]++vA fp s7.heap) σ' H' s'->H' D=some (.lst wL)->N wL σ' H'->
    ∃m,m<n/\ ∃i ys σ' H',aX Y [] σ' H' s'/\tn i s'.heap/\(∀b∈fp,H' b=none)/\H' D=some (.lst ys)/\W i m ys σ' H':= λ{σ' H' s' wL} I' hD' n'=>by
    obtain⟨m',hm,w'⟩:=hN wL σ' H' n';have pin: ∀b∈fp,∀o,s7.heap.get? b=some o->s'.heap.get? b=some o/\H' b=none:= λb hb o e=>by
     have q:=I'.pin (b,o) (List.mem_append_right _ (List.mem_append_right _ (oI hb e)));exact⟨q.1,q.2.1⟩
    refine⟨m',hm,i+1,wL,σ',H',I'.unpinned,T.keep _ _ _ st7 λb hb o e=>(pin b hb o e).1,λb hb=> ?_,hD',w'⟩;obtain⟨o,e,_⟩:=T.obj _ _ st7 b hb;exact(pin b hb o e).2
   cases ok with
   |false=>
    have q9':H9 D=some (.lst ys)/\N ys σ8 H9:=by simpa using q9
    simp only[Bool.false_eq_true,if_false];exact again I9 q9'.1 q9'.2
   |true=>
    simp only[if_true]at q9 ⊢;refine ziW (he _ s9 σ8 H9 _ I9 q9) λxv s10 zz=> ?_;obtain⟨v,H10,I10,r10,zxk,w10⟩:=zz;refine ziW (cS _ s10 σ8 H10 (.ref D) [v] _ [xv] (λ_ H'=>H'=aO H10 D (.lst (ys++[v]))) I10 rfl (.cons r10 .nil) ⟨_,ys,v,rfl,rfl,zxk,dL,rfl⟩) λ_ s11 zz=> ?_;obtain⟨_,H11,I11,_,e11⟩:=zz;subst e11;exact again I11 aF w10
theorem cD{wG tg gD:Expr}{vF:List Expr}{scope:Scope}{own fr:List Str}{idx:List Nat}{wi:TI}{g:TG}{tc:TT}{te:TE}{pos:Pos}(hc:X.calm=true)(S:aP own fr scope X.env.scope)
 (hi:PI X tg gD wi) (hg: ∀C s H aB fp,PG (gN X scope C (own++fr) s H aB fp) tg g) (ht: ∀C s H aB fp,PTs (gN X scope C (own++fr) s H aB fp) vF tc) (he: ∀C s H aB fp,PE (gN X scope C (own++fr) s H aB fp) wG te)
 (hix:idx.length=fr.length:=by rfl) (hat: ∀(k:Nat) (x:Str) (j:Nat),fr[k]?=some x->idx[k]?=some j->X.N[j]?=some x)
 (hs: ∀x,foldedSetIterable gD X.env x=pure x:=by intro _;rfl):PE X (.ListComp wG [⟨tg,gD,vF,0⟩] scope pos) (iR wi own.length idx g tc te):=by
 intro aB s σ H Q I h
 rw[eval_ListComp]
 have zW:closureFor scope X.env=pure (dC X.env scope.names []):=xU λx hx gF=>I.ok.has x.1 (S.outs x hx gF)
 refine wpAny_comprehension_free (use:=none) rfl hs zW S.kind S.names (dP (hi aB s σ H _ I h) λv s1 h1=>dP h1 λitv s2 h2=> ?_)
 obtain⟨it,fp,tn,J,H2,e,I2,T,st2,f2,h2⟩:=h2
 subst e
 refine wpAny_newObj_type ?_
 obtain⟨W,⟨m0,w0⟩,qE⟩:=h2 s2.heap.objs.size I2.fresh
 have I3:aX X aB σ (aO H2 s2.heap.objs.size (.lst [])) {s2 with heap:=s2.heap.push {cls:= .type "list",data:= .seq ([]:List Value).toArray},toks:=s2.toks}:=I2.lnew .nil (Nat.zero_le _)
 have fpl: ∀b∈fp,b<s2.heap.objs.size:= λb hb=>by
  obtain⟨o,e,_⟩:=T.obj _ _ st2 b hb;exact Heap.lt_size e
 have f3: ∀b∈fp,iF X aB (aO H2 s2.heap.objs.size (.lst [])) b:= λb hb=>⟨by rw[aG (Nat.ne_of_lt (fpl b hb))];exact(f2 b hb).1,(f2 b hb).2⟩
 generalize hs3:({s2 with heap:=s2.heap.push {cls:= .type "list",data:= .seq ([]:List Value).toArray},toks:=s2.toks}:Shared)=s3 at I3
 have hsz:s3.heap.objs.size=s2.heap.objs.size+1:=by rw[<-hs3];exact Heap.size_push _ _
 have st3:tn 0 s3.heap:=T.keep _ _ _ st2 λb hb o e=>by rw[<-hs3];exact Heap.get?_push_of_some _ e
 refine wpAny_newFunctionEnv S.nocell (by intro y hy;simp at hy) (λh4 hn4 zmG=> ?_) S.kind
 have hk4: ∀b o,s3.heap.get? b=some o->h4.get? b=some o:= λb o e=>zmG.extBut b o (Nat.ne_of_lt (Heap.lt_size e)) (Heap.get?_push_of_some _ e)
 have I4:=uM (idx:=idx) (tk:=s3.toks+([]:List (Str×Value)).length) S hix hat I3 f3 (λb hb=>by rw[hsz];exact Nat.lt_succ_of_lt (fpl b hb)) hn4 hk4
 have fpC: ∀{H':Hp} (pl:List (Addr×Obj)),(∀p∈pl,∀b∈fp,p.1≠b)->(∀b∈fp,H' b=none)-> ∀b∈fp,iF (gN X scope s3.heap.objs.size (own++fr) s3 (aO H2 s2.heap.objs.size (.lst [])) aB fp) pl H' b:= λ{H'} pl jK hn b hb=>by
  obtain⟨g0,g1,g2,g3,g4,g5⟩:=f3 b hb;refine⟨hn b hb,?_,λz=> ?_,.inl hb,λx c e=>g4 x c ((fU _ _ x c e).elim id λz=>nomatch z),λp hp=> ?_⟩
  . show b≠s3.heap.objs.size
    exact Nat.ne_of_lt (by rw[hsz];exact Nat.lt_succ_of_lt (fpl b hb))
  . rcases List.mem_cons.mp (I3.stkSub b z)with q|q
    . exact g1 q
    . exact g2 q
  . rcases List.mem_append.mp hp with q|q
    . exact g5 p q
    . exact jK p q b hb
 have tZ:codeAny (model X.prog X.w) X.A (.compLoop (.ListComp wG [⟨tg,gD,vF,0⟩] scope pos) 0 (.ref it) (.ref s2.heap.objs.size) (compEnvC scope (dC X.env scope.names []) s3.heap.objs.size X.env))
  (compPost (model X.prog X.w) X.A X.xe none (EP X aB σ Q) (.ref s2.heap.objs.size) s3.heap.objs.size) {s3 with heap:=h4,toks:=s3.toks+([]:List (Str×Value)).length}:=by
  refine qT (Y:=gN X scope s3.heap.objs.size (own++fr) s3 (aO H2 s2.heap.objs.size (.lst [])) aB fp) (W:=W) (m0:=m0) hc (hg _ _ _ _ _) (ht _ _ _ _ _) (he _ _ _ _ _) (λ_ _ z=>z) T (λhn=>fpC [] (λ_ z=>nomatch z) hn) qE (λs6 σ5 H5 I6 q=> ?_) ⟨0,[],_,_,I4,T.keep _ _ _ st3 λb _ o e=>hk4 b o e,λb hb=>(f3 b hb).1,aF,w0⟩;obtain⟨m6,hn6,_⟩:=id I6.loc;refine⟨m6,hn6,λh' hsb=> ?_⟩;exact⟨.ref s2.heap.objs.size,H5,wZ I3 f3 I6 hsb,rfl,q⟩
 exact codeAny_compStart_list tZ (T.self _ 0 _ _ _ (T.keep _ _ _ st3 λb _ o e=>hk4 b o e) tZ)
end
theorem pR{J:It}{n:Nat}{item:Nat->V}{g:TG}{tc:TT}{te:TE}{σ0:St}{H1:Hp}{D:Addr}{Q:VK}(Pv:Nat->List V->St->Hp->Prop)(h0:Pv 0 [] σ0 (aO H1 D (.lst [])))(hn:n<=100000)
 (hgo: ∀i ys σ H,i<n->Pv i ys σ H->J.go i H/\ ∀x H',J.yld i H x H'->H'=H/\x=item i) (hst: ∀ys σ H,Pv n ys σ H->J.stop n H) (hl: ∀i ys σ H,Pv i ys σ H->ys.length<=i)
 (hs: ∀i ys σ H,i<n->H D=some (.lst ys)->Pv i ys σ H->g (item i) σ H λσ2 H2=>tc σ2 H2 λb H3=>
  if b=true then te σ2 H3 λv H4=>H4 D=some (.lst ys)/\Pv (i+1) (ys++[v]) σ2 (aO H4 D (.lst (ys++[v])))else H3 D=some (.lst ys)/\Pv (i+1) ys σ2 H3)
 (hd: ∀ys σ H,H D=some (.lst ys)->Pv n ys σ H->Q (.ref D) H):bH J D g tc te Q σ0 H1:=by
 refine⟨λi m ys σ H=>m=n - i/\i<=n/\Pv i ys σ H,⟨n,by simp,Nat.zero_le _,h0⟩,?_⟩
 rintro i m ys σ H hD ⟨rfl,hi,p⟩
 by_cases eY:i<n
 . have hz:ys.length<sizeLine:=by
    have h1:=hl i ys σ H p;have h2:(100000:Nat)<sizeLine:=by rw[sizeLine_eq];decide
    omega
   obtain⟨go,yl⟩:=hgo i ys σ H eY p;refine .inr ⟨go,hz,Pv (i+1),λwL σ' H' p'=>⟨n - (i+1),by omega,rfl,eY,p'⟩,λx H' y=> ?_⟩;obtain⟨e1,e2⟩:=yl x H' y;subst e1 e2;exact hs i ys σ _ eY hD p
 . have e:i=n:=by omega
   subst e;exact .inl ⟨hst ys σ H p,hd ys σ H hD p⟩
theorem cR{lo:Int}{n:Nat}{g:TG}{tc:TT}{te:TE}{σ0:St}{H1:Hp}{D:Addr}{Q:VK}(Pv:Nat->List V->St->Hp->Prop)(h0:Pv 0 [] σ0 (aO H1 D (.lst [])))(hn:n<=100000)(hl: ∀i ys σ H,Pv i ys σ H->ys.length<=i)
 (hs: ∀i ys σ H,i<n->H D=some (.lst ys)->Pv i ys σ H->g (.int (lo+i)) σ H λσ2 H2=>tc σ2 H2 λb H3=>
  if b=true then te σ2 H3 λv H4=>H4 D=some (.lst ys)/\Pv (i+1) (ys++[v]) σ2 (aO H4 D (.lst (ys++[v])))else H3 D=some (.lst ys)/\Pv (i+1) ys σ2 H3)
 (hd: ∀ys σ H,H D=some (.lst ys)->Pv n ys σ H->Q (.ref D) H):bH (vB lo n) D g tc te Q σ0 H1:=
 pR (item:= λi=> .int (lo+i)) Pv h0 hn (λi ys σ H hi _=>⟨hi,λx H' y=>y⟩) (λ_ _ _ _=>Nat.le_refl _) hl hs hd
theorem dU{K:W.Frag}{a:Addr}{xs:List V}{g:TG}{tc:TT}{te:TE}{σ0:St}{H1:Hp}{D:Addr}{Q:VK}(Pv:Nat->List V->St->Hp->Prop)(h0:Pv 0 [] σ0 (aO H1 D (.lst [])))(hn:xs.length<=100000)(hl: ∀i ys σ H,Pv i ys σ H->ys.length<=i)
 (ha: ∀i ys σ H,Pv i ys σ H->bB K H a xs)
 (hs: ∀i x ys σ H,xs[i]?=some x->H D=some (.lst ys)->Pv i ys σ H->g x σ H λσ2 H2=>tc σ2 H2 λb H3=>
  if b=true then te σ2 H3 λv H4=>H4 D=some (.lst ys)/\Pv (i+1) (ys++[v]) σ2 (aO H4 D (.lst (ys++[v])))else H3 D=some (.lst ys)/\Pv (i+1) ys σ2 H3)
 (hd: ∀ys σ H,H D=some (.lst ys)->Pv xs.length ys σ H->Q (.ref D) H):bH (zM K a) D g tc te Q σ0 H1:=by
 refine pR (n:=xs.length) (item:= λi=>xs.getD i .non) Pv h0 hn (λi ys σ H hi p=> ?_) (λys σ H p=>⟨xs,ha _ _ _ _ p,Nat.le_refl _⟩) hl (λi ys σ H hi hD p=> ?_) hd
 . have e:xs[i]?=some xs[i]:=List.getElem?_eq_getElem hi;refine⟨⟨xs,xs[i],ha _ _ _ _ p,e⟩,λx H' y=>⟨y.1,?_⟩⟩;have q:=y.2 xs (ha _ _ _ _ p);rw[List.getD_eq_getElem?_getD,q];rfl
 . have e:xs[i]?=some (xs.getD i .non):=by rw[List.getD_eq_getElem?_getD,List.getElem?_eq_getElem hi];rfl
   exact hs i _ ys σ H e hD p
theorem mK{K:W.Frag}{a:Addr}{xs:List V}{g:TG}{tc:TT}{te:TE}{σ0:St}{H1:Hp}{D:Addr}{Q:VK}(Pv:Nat->List V->St->Hp->Prop)(h0:Pv 0 [] σ0 (aO H1 D (.lst [])))(hn:xs.length<=100000)(hl: ∀i ys σ H,Pv i ys σ H->ys.length<=i)
 (ha: ∀i ys σ H,Pv i ys σ H->eS K H a xs)
 (hs: ∀i x ys σ H,xs[i]?=some x->H D=some (.lst ys)->Pv i ys σ H->g x σ H λσ2 H2=>tc σ2 H2 λb H3=>
  if b=true then te σ2 H3 λv H4=>H4 D=some (.lst ys)/\Pv (i+1) (ys++[v]) σ2 (aO H4 D (.lst (ys++[v])))else H3 D=some (.lst ys)/\Pv (i+1) ys σ2 H3)
 (hd: ∀ys σ H,H D=some (.lst ys)->Pv xs.length ys σ H->Q (.ref D) H):bH (Itt K a) D g tc te Q σ0 H1:=by
 refine pR (n:=xs.length) (item:= λi=>xs.getD i .non) Pv h0 hn (λi ys σ H hi p=> ?_) (λys σ H p=>⟨xs,ha _ _ _ _ p,Nat.le_refl _⟩) hl (λi ys σ H hi hD p=> ?_) hd
 . have e:xs[i]?=some xs[i]:=List.getElem?_eq_getElem hi;refine⟨⟨xs,xs[i],ha _ _ _ _ p,e⟩,λx H' y=>⟨y.1,?_⟩⟩;have q:=y.2 xs (ha _ _ _ _ p);rw[List.getD_eq_getElem?_getD,q];rfl
 . have e:xs[i]?=some (xs.getD i .non):=by rw[List.getD_eq_getElem?_getD,List.getElem?_eq_getElem hi];rfl
   exact hs i _ ys σ H e hD p
section
variable {X:Cx}
def zql(_i j:Int):Prop:=0<j/\j<=2^100
theorem zbd{n:Nat}(h:n<=2^100):n.log2<9000:=by
 by_cases h0:n=0
 . subst h0;decide
 . exact(Nat.log2_lt h0).mpr (Nat.lt_of_le_of_lt h (Nat.pow_lt_pow_right (by decide) (by decide)))
theorem pK:oS X (binaryOp .FloorDiv) (rI zql λi j=> .int (i / j)):=opI λi j _ _ _ _ _ hc q=>by
 have h1:(0:Int)<j:=hc.1
 have h2:j<=2^100:=hc.2
 have e:j.natAbs<=2^100:=by
  have:((j.natAbs:Nat):Int)<=((2^100:Nat):Int):=by rw[Int.natAbs_of_nonneg (by omega)];exact h2
  exact Int.ofNat_le.mp this
 exact floordiv_int (by omega) (by rw[Int.fdiv_eq_ediv_of_nonneg i (by omega)];exact q) (.inl (PyProof.noPylong_of_log2 (zbd e)))
theorem zav{ys:List Str}: ∀{us:List Value},bP (ys.map V.str) us->StrsAre us ys:=by
 induction ys with
 |nil=>intro us h;cases h;exact .nil
 |cons y r ih=>
  intro us h;cases h with
  |cons a b=>
   obtain⟨t,rfl⟩:=a;exact .cons _ _ (ih b)
def zsp(K:W.Frag):V->List V->Hp->VK->Prop:= λx xs H Q=> ∃sep p ys,x= .str sep/\xs=[.ref p]/\bB K H p (ys.map V.str)/\(ys.map (·.length)).sum+ys.length * sep.length<=16777216/\Q (.str (Txt.join sep ys)) H
theorem zcS:MtR X "str.join" (zsp X.K):=by
 intro aB s σ H x xs v us Q I rx rs h
 obtain⟨sep,p,ys,rfl,rfl,hq,hz,q⟩:=h
 obtain⟨t,rfl⟩:=rx
 obtain⟨u,rfl,ru⟩:=rs.one
 cases ru
 obtain⟨bC,r,pl,_⟩:=I.list hq
 exact join_list pl.isList (zav r) hz λt' k=>⟨.str (Txt.join sep ys),H,I.tok k,⟨_,rfl⟩,q⟩
def zmX:V->Option Int->Option Int->Hp->VK->Prop:= λx lo hi H Q=> ∃z,x= .str z/\z.length<=sizeLine/\Q (.str (Txt.slice z lo hi)) H
theorem zaS:SlR X zmX:=by
 intro aB s σ H x v vl vu lo hi sl Q I rx hs pl pu h
 obtain⟨z,rfl,hz,q⟩:=h
 obtain⟨t,rfl⟩:=rx
 refine⟨"str",_,F.slot_str_getitem.lookup,typeIs_str _ _ _,?_⟩
 have fF: ∀t' k,EP X aB σ Q (.str (Txt.slice z lo hi) t') {s with toks:=k}:= λt' k=>⟨.str (Txt.slice z lo hi),H,I.tok k,⟨_,rfl⟩,q⟩
 cases pl with
 |none=>
  cases pu with
  |none=>exact wpAny_getItem_str_slice (l:=none) (u:=none) (st:=none) hs rfl (post_val_or_str ⟨Nat.le_trans (Txt.slice_le z _ _) hz,λt' k=>fF t' k⟩)
  |int j uj=>exact wpAny_getItem_str_slice (l:=none) (u:=some (j,uj)) (st:=none) hs rfl (post_val_or_str ⟨Nat.le_trans (Txt.slice_le z _ _) hz,λt' k=>fF t' k⟩)
 |int i ui=>
  cases pu with
  |none=>exact wpAny_getItem_str_slice (l:=some (i,ui)) (u:=none) (st:=none) hs rfl (post_val_or_str ⟨Nat.le_trans (Txt.slice_le z _ _) hz,λt' k=>fF t' k⟩)
  |int j uj=>exact wpAny_getItem_str_slice (l:=some (i,ui)) (u:=some (j,uj)) (st:=none) hs rfl (post_val_or_str ⟨Nat.le_trans (Txt.slice_le z _ _) hz,λt' k=>fF t' k⟩)
theorem aX.turnLaid{aB:List (Addr×Obj)}{σ:St}{H:Hp}{s:Shared}{h':Heap}{ch:List Addr}{T:Addr}{o:HO}{t':Nat}(I:aX X aB σ H s)(zN: ∀b∈ch,iF X aB H b)(keep: ∀b ob,b∉ch->s.heap.get? b=some ob->h'.get? b=some ob)
 (hT:s.heap.objs.size<=T) (new:dE X.prog X.w (aO H T o) h' T o):aX X aB σ (aO H T o) {s with heap:=h',toks:=t'}:=by
 have nT: ∀b ob,s.heap.get? b=some ob->b≠T:= λb ob e=>Nat.ne_of_lt (Nat.lt_of_lt_of_le (Heap.lt_size e) hT)
 have fT:H T=none:=I.hok.fresh hT
 have nch: ∀b u,H b=some u->b∉ch:= λb u e z=>by rw[(zN b z).1]at e;cases e
 refine I.step (g':=s.gens) (d':=s.drawn) (ch:=ch) (λb hb=> ?_) (λb ob _ _ hc e _=>keep b ob hc e) (λb ob _ _ hc e _=>⟨ob.slots,keep b ob hc e⟩) (λb ob _ e n=>by rw[aG (nT b ob e)];exact n)
  (λb ob hc e=>⟨ob,keep b ob hc e⟩) (λb xs e=>by rw[aG (aI e fT)];exact e) (λb ob u e=>by rw[aG (aI e fT)];exact e) (λb ps e=>⟨#[],by rw[aG (aI e fT),e];simp⟩) (λm hm=> ?_) (λb u e=> ?_) I.bare
 . obtain⟨_,f1,_,f3,f4,f5⟩:=zN b hb;exact⟨f3,f1,f4,f5⟩
 . obtain⟨ob,es,ep,ho,r⟩:=hm;exact⟨ob,es,ep,keep _ ob (λz=>(zN _ z).2.1 rfl) ho,r⟩
 . by_cases hb:b=T
   . subst hb;rw[aF]at e;cases e;exact new
   . rw[aG hb]at e;refine(I.hok b u e).stay (λc v hc q=>keep c v ?_ q) (λc q=>by rw[aG (aI q fT)];exact q) λc xs q=>by rw[aG (aI q fT)];exact q
     rcases hc with z|z
     . rw[z];exact nch b u e
     . exact nch c _ z
theorem aX.turnedL{aB:List (Addr×Obj)}{σ:St}{H:Hp}{s:Shared}{h':Heap}{ch:List Addr}{t':Nat}(I:aX X aB σ H s)(zN: ∀b∈ch,iF X aB H b)(keep: ∀b ob,b∉ch->s.heap.get? b=some ob->h'.get? b=some ob):
 aX X aB σ H {s with heap:=h',toks:=t'}:=by
 have nch: ∀b u,H b=some u->b∉ch:= λb u e z=>by rw[(zN b z).1]at e;cases e
 refine I.step (g':=s.gens) (d':=s.drawn) (ch:=ch) (λb hb=> ?_) (λb ob _ _ hc e _=>keep b ob hc e) (λb ob _ _ hc e _=>⟨ob.slots,keep b ob hc e⟩) (λb ob _ e n=>n)
  (λb ob hc e=>⟨ob,keep b ob hc e⟩) (λb xs e=>e) (λb ob u e=>e) (λb ps e=>⟨#[],by rw[e];simp⟩) (λm hm=> ?_) (λb u e=> ?_) I.bare
 . obtain⟨_,f1,_,f3,f4,f5⟩:=zN b hb;exact⟨f3,f1,f4,f5⟩
 . obtain⟨ob,es,ep,ho,r⟩:=hm;exact⟨ob,es,ep,keep _ ob (λz=>(zN _ z).2.1 rfl) ho,r⟩
 . refine(I.hok b u e).stay (λc v hc q=>keep c v ?_ q) (λc q=>q) λc xs q=>q
   rcases hc with z|z
   . rw[z];exact nch b u e
   . exact nch c _ z
end
def Its(x:Str):It:=⟨λi _=>i<x.cps.size,λi H v H'=>H'=H/\ ∃c,x.cps[i]?=some c/\v= .str ⟨#[c]⟩,λi _=>x.cps.size<=i⟩
theorem zbh{ty:String}{x:Str}{t:Tok}{i:Nat}{h:Heap}{it:Addr}(st:h.IsStrIter it ty x t i): ∀b∈ [it],∃o,h.get? b=some o/\ ∀v,o.data≠ .cell v:= λb hb=>by
 have e:b=it:=by simpa using hb
 subst e
 obtain⟨o,e,c,d⟩:=st
 exact⟨o,e,λv z=>by rw[d]at z;cases z⟩
theorem zfT{P:Program}{w:World}{K:W.Frag}{y:Str}{p:Pos}(it:Addr)(x:Str)(t:Tok):sO P w K (.Name y p) (Its x) [it] it (λi h=>h.IsStrIter it (strIterType x) x t i) where
 mem:=by simp
 obj:= λi h st=>zbh st
 keep:= λi h h' st k=>by
  obtain⟨o,e,r⟩:=st;exact⟨o,k it (by simp) o e,r⟩
 item:=by
  intro X hP hw hK hc i aB s σ H E I hf st hg;subst hP hw hK;obtain⟨f0,f1,f2,f3,f4,f5⟩:=hf it (by simp);have eY:i<x.cps.size:=hg;have hi:x.cps[i]?=some x.cps[i]:=Array.getElem?_eq_getElem eY;have fF: ∀h',h'.IsStrIter it (strIterType x) x t (i+1)->Heap.SameBut it s.heap h'-> ∃u,some (Value.str ⟨#[x.cps[i]]⟩ s.toks)=some u/\
   wpAny (model X.prog X.w) X.A (letOwnedTupleGo (.Name y p) (.ref it) u) (λ_ s2=> ∃v H',aX X aB σ H' s2/\bT v u/\(Its x).yld i H v H'/\s2.heap.IsStrIter it (strIterType x) x t (i+1)/\ ∀b∈ [it],H' b=none) E {s with heap:=h',toks:=s.toks+1}:= λh' st' sb=>by
   have I1:aX X aB σ H {s with heap:=h',toks:=s.toks+1}:=I.turned (λb o hb e=>(sb.2 b hb).trans e) f0 f1 f3 f4 f5;exact⟨_,rfl,wpAny_pure ⟨.str ⟨#[x.cps[i]]⟩,H,I1,⟨_,rfl⟩,⟨rfl,_,hi,rfl⟩,st',λb hb=>(hf b hb).1⟩⟩
  unfold strIterType at st fF ⊢;cases ha:x.cps.all (·<128)
  . rw[ha]at st fF;exact wpAny_pyNext_wide_item st hi λh' st' sb=>fF h' st' sb
  . rw[ha]at st fF;exact wpAny_pyNext_ascii_item st hi λh' st' sb=>fF h' st' sb
 done:=by
  intro X hP hw hK hc i aB s σ H E I hf st hg;subst hP hw hK;obtain⟨f0,f1,f2,f3,f4,f5⟩:=hf it (by simp);have hi:x.cps[i]?=none:=Array.getElem?_eq_none hg;have fF: ∀h',Heap.ExtBut it s.heap h'->(none:Option Value)=none/\aX X aB σ H {s with heap:=h'}:= λh' eb=>⟨rfl,I.turned (t':=s.toks) (λb o hb e=>eb b o hb e) f0 f1 f3 f4 f5⟩;unfold strIterType at st;cases ha:x.cps.all (·<128)
  . rw[ha]at st;exact wpAny_pyNext_wide_end (I.ok.hd hc) st hi λh' eb=>fF h' eb
  . rw[ha]at st;exact wpAny_pyNext_ascii_end (I.ok.hd hc) st hi λh' eb=>fF h' eb
 self:= λA i s Q E st h=>by
  unfold strIterType at st;cases ha:x.cps.all (·<128)
  . rw[ha]at st;exact wpAny_pyIter_striter_wide st h
  . rw[ha]at st;exact wpAny_pyIter_striter_ascii st h
def zwD(tl:TE):TI:= λσ H R=>tl σ H λx H1=> ∃z,x= .str z/\R (Its z) H1
theorem zmK{X:Cx}{y:Str}{p:Pos}{l:Expr}{tl:TE}(hl:PE X l tl):PI X (.Name y p) l (zwD tl):=by
 intro aB s σ H R I h
 refine dP (hl aB s σ H _ I h) λv s1 ⟨x,H1,I1,r1,q1⟩=> ?_
 obtain⟨z,e,q⟩:=q1
 subst e
 obtain⟨t,rfl⟩:=r1
 refine wpAny_pyIter_strU ?_
 refine⟨s1.heap.objs.size,[s1.heap.objs.size],_,_,H1,rfl,I1.kept (t':=s1.toks) λb o e=>Heap.get?_push_of_some _ e,zfT _ z t,⟨_,Heap.get?_push_size _ rfl,rfl,rfl⟩,λb hb=> ?_,q⟩
 have e:b=s1.heap.objs.size:=by simpa using hb
 subst e
 exact I1.fpOk (Nat.le_refl _) (I1.hok.fresh (Nat.le_refl _))
theorem zfV{z:Str}{g:TG}{tc:TT}{te:TE}{σ0:St}{H1:Hp}{D:Addr}{Q:VK}(Pv:Nat->List V->St->Hp->Prop)(h0:Pv 0 [] σ0 (aO H1 D (.lst [])))(hn:z.cps.size<=100000)(hl: ∀i ys σ H,Pv i ys σ H->ys.length<=i)
 (hs: ∀i c ys σ H,z.cps[i]?=some c->H D=some (.lst ys)->Pv i ys σ H->g (.str ⟨#[c]⟩) σ H λσ2 H2=>tc σ2 H2 λb H3=>
  if b=true then te σ2 H3 λv H4=>H4 D=some (.lst ys)/\Pv (i+1) (ys++[v]) σ2 (aO H4 D (.lst (ys++[v])))else H3 D=some (.lst ys)/\Pv (i+1) ys σ2 H3)
 (hd: ∀ys σ H,H D=some (.lst ys)->Pv z.cps.size ys σ H->Q (.ref D) H):bH (Its z) D g tc te Q σ0 H1:=by
 refine pR (n:=z.cps.size) (item:= λi=> .str ⟨#[z.cps.getD i 0]⟩) Pv h0 hn (λi ys σ H hi p=>⟨hi,λx H' y=> ?_⟩) (λys σ H p=>Nat.le_refl _) hl (λi ys σ H hi hD p=> ?_) hd
 . obtain⟨e,c,e1,e2⟩:=y;refine⟨e,?_⟩;rw[e2,Array.getD_eq_getD_getElem?,e1];rfl
 . have e:z.cps[i]?=some (z.cps.getD i 0):=by rw[Array.getD_eq_getD_getElem?];simp[hi]
   exact hs i _ ys σ H e hD p
def Ite(K:W.Frag)(a:Addr):It:=
 ⟨λi H=> ∃xs x,bB K H a xs/\xs[i]?=some x,λi H v H'=> ∃T,H T=none/\v= .ref T/\ ∀xs,bB K H a xs-> ∃x,xs[i]?=some x/\H'=aO H T (.tup [.int i,x]),λi H=> ∃xs,bB K H a xs/\xs.length<=i⟩
theorem zeu{P:Program}{w:World}{K:W.Frag}{elts:List Expr}{k:Nat}{pos:Pos}(a e it:Addr)(nR:e≠it):sO P w K (.Tuple elts k pos) (Ite K a) [e,it] e (λi h=>(∃oP,IsEnum h e it i oP)/\h.IsListIter it a i) where
 mem:=by simp
 obj:= λi h st b hb=>by
  obtain⟨⟨oP,he⟩,o,ho,c,d⟩:=st
  rcases List.mem_cons.mp hb with z|z
  . subst z;exact⟨_,he,λv q=>by
     have q':Data.fields _=Data.cell v:=q;cases q'⟩
  . have z':b=it:=by simpa using z
    subst z';exact⟨o,ho,λv q=>by rw[d]at q;cases q⟩
 keep:= λi h h' st kk=>by
  obtain⟨⟨oP,he⟩,hl⟩:=st;exact⟨⟨oP,kk e (by simp) _ he⟩,hl.at λo q=>kk it (by simp) o q⟩
 item:=by
  intro X hP hw hK hc i aB s σ H E I hf st hg;subst hP hw hK;obtain⟨xs,x,hq,hx⟩:=hg;obtain⟨⟨oP,he⟩,hl⟩:=st;obtain⟨bC,rv,pl,hz⟩:=I.list hq;obtain⟨u,hu,ru⟩:=rv.get hx;refine wpAny_pyNext_enum_item he hl pl.isList (x:=u) (by simpa using hu) nR λh' eo li tp hsz kk=> ?_;refine⟨_,rfl,wpAny_letOwnedTupleGo_enum (s:={s with heap:=h',toks:=s.toks+1}) eo λh2 en sb=> ?_⟩;have hTe:s.heap.objs.size≠e:=Nat.ne_of_gt (Heap.lt_size he);have pX:h2.get? s.heap.objs.size=some {cls:= .type "tuple",data:= .seq #[.int i s.toks,u]}:=(sb.2 _ hTe).trans tp;have kp: ∀b ob,b∉ [e,it]->s.heap.get? b=some ob->h2.get? b=some ob:= λb ob hb q=>by
   have h1:b≠e:= λz=>hb (by simp[z]);have h2':b≠it:= λz=>hb (by simp[z]);exact(sb.2 b h1).trans (kk b ob h1 h2' q)
  have I2:aX X aB σ (aO H s.heap.objs.size (.tup [.int i,x])) {s with heap:=h2,toks:=s.toks+1}:=I.turnLaid (o:= .tup [.int i,x]) (t':=s.toks+1) hf kp (Nat.le_refl _)
   ⟨by show 2<=sizeLine;rw[sizeLine_eq];decide,[.int i s.toks,u],.cons ⟨_,rfl⟩ (.cons ru .nil),⟨_,pX,rfl,_,rfl⟩⟩
  refine⟨.ref s.heap.objs.size,_,I2,rfl,⟨_,I.fresh,rfl,λys hy=>⟨x,by rw[I.list_inj hy hq];exact hx,rfl⟩⟩,⟨⟨_,en⟩,li.extBut sb.extBut (Ne.symm nR)⟩,λb hb=> ?_⟩;have eY:b≠s.heap.objs.size:=by
   obtain⟨o,ho,_⟩: ∃o,s.heap.get? b=some o/\True:=by
    rcases List.mem_cons.mp hb with z|z
    . subst z;exact⟨_,he,trivial⟩
    . have z':b=it:=by simpa using z
      subst z';obtain⟨o,ho,_⟩:=hl;exact⟨o,ho,trivial⟩
   exact Nat.ne_of_lt (Heap.lt_size ho)
  rw[aG eY];exact(hf b hb).1
 done:=by
  intro X hP hw hK hc i aB s σ H E I hf st hg;subst hP hw hK;obtain⟨xs,hq,hx⟩:=hg;obtain⟨⟨oP,he⟩,hl⟩:=st;obtain⟨bC,rv,pl,hz⟩:=I.list hq;have dL:=rv.length;exact wpAny_pyNext_enum_end (I.ok.hd hc) he hl pl.isList (by simp;omega) λh' eb=>⟨rfl,I.turnedL (t':=s.toks) hf λb ob hb q=>eb b ob (λz=>hb (by simp[z])) q⟩
 self:= λA i s Q E st h=>by
  obtain⟨⟨oP,he⟩,_⟩:=st;exact wpAny_pyIter_enum he h
def zoT(K:W.Frag)(ta:TA):TI:= λσ H R=>ta σ H λvs H1=> ∃a,vs=[.ref a]/\(∃xs,bB K H1 a xs)/\R (Ite K a) H1
theorem zC{X:Cx}{elts:List Expr}{k:Nat}{uI:Pos}{l:Expr}{ta:TA}{p pos:Pos}(hg:Gl X "enumerate")(hm:X.mg "enumerate" =none)(ha:PA X [l] ta)(hs:starEach [l] X.env=[(false,eval l X.env)]:=by rfl):
 PI X (.Tuple elts k uI) (.Call (.Name "enumerate" p) [l] [] pos) (zoT X.K ta):=by
 intro aB s σ H R I h
 refine Call_ (hJ I hg hm (show bootBuiltins "enumerate" =some (.type "enumerate") by decide+kernel) (PyProof.Rows.callWith_type1 (dP (ha pos aB s σ H _ I h) λus s1 ⟨vs,H1,I1,r1,q1⟩=> ?_) hs rfl))
 obtain⟨a,e,⟨xs,hq⟩,q⟩:=q1
 subst e
 obtain⟨u,rfl,ru⟩:=r1.one
 cases ru
 obtain⟨bC,rv,pl,hz⟩:=I1.list hq
 refine call_enumerate_list pl.isList λh' en li hsz kk=> ?_
 have hT:(Shared.mk h' s1.gens s1.drawn s1.toks s1.os).TypeIs (.ref (s1.heap.objs.size+1)) "enumerate" :=⟨_,en,rfl⟩
 have I2:aX X aB σ H1 {s1 with heap:=h'}:=I1.kept (t':=s1.toks) kk
 have T:=zeu (P:=X.prog) (w:=X.w) (K:=X.K) (elts:=elts) (k:=k) (pos:=uI) a (s1.heap.objs.size+1) s1.heap.objs.size (Nat.ne_of_gt (Nat.lt_succ_self _))
 refine T.self X.A 0 {s1 with heap:=h'} _ _ ⟨⟨_,en⟩,li⟩ ⟨_,_,_,_,H1,rfl,I2,T,⟨⟨_,en⟩,li⟩,λb hb=> ?_,q⟩
 have vQ:s1.heap.objs.size<=b:=by
  rcases List.mem_cons.mp hb with z|z
  . subst z;exact Nat.le_succ _
  . have z':b=s1.heap.objs.size:=by simpa using z
    subst z';exact Nat.le_refl _
 exact I1.fpOk vQ (I1.hok.fresh vQ)
theorem m8{t1 t2:TS}{D:fH}{σ:St}{H:Hp}(h:let D0:fH:=D;let σ0:St:=σ;let U2:TS:=t2;bM t1 U2 D0 σ0 H):(bM t1 t2) D σ H:=h
theorem sM{t1 t2 t3:TS}{D:fH}{σ:St}{H:Hp}(h:let D0:fH:=D;let σ0:St:=σ;let U3:TS:=t3;let U2:TS:=bM t2 U3;bM t1 U2 D0 σ0 H):(bM t1 (bM t2 t3)) D σ H:=h
theorem zfo{t1 t2 t3 t4:TS}{D:fH}{σ:St}{H:Hp}(h:let D0:fH:=D;let σ0:St:=σ;let U4:TS:=t4;let U3:TS:=bM t3 U4;let U2:TS:=bM t2 U3;bM t1 U2 D0 σ0 H):(bM t1 (bM t2 (bM t3 t4))) D σ H:=h
theorem j3{t1 t2 t3 t4 t5:TS}{D:fH}{σ:St}{H:Hp}(h:let D0:fH:=D;let σ0:St:=σ;let U5:TS:=t5;let U4:TS:=bM t4 U5;let U3:TS:=bM t3 U4;let U2:TS:=bM t2 U3;bM t1 U2 D0 σ0 H):(bM t1 (bM t2 (bM t3 (bM t4 t5)))) D σ H:=h
theorem zgf{t1 t2 t3 t4 t5 t6:TS}{D:fH}{σ:St}{H:Hp}(h:let D0:fH:=D;let σ0:St:=σ;let U6:TS:=t6;let U5:TS:=bM t5 U6;let U4:TS:=bM t4 U5;let U3:TS:=bM t3 U4;let U2:TS:=bM t2 U3;bM t1 U2 D0 σ0 H):(bM t1 (bM t2 (bM t3 (bM t4 (bM t5 t6))))) D σ H:=h
theorem zqN{t1 t2 t3 t4 t5 t6 t7 t8:TS}{D:fH}{σ:St}{H:Hp}(h:let D0:fH:=D;let σ0:St:=σ;let U8:TS:=t8;let U7:TS:=bM t7 U8;let U6:TS:=bM t6 U7;let U5:TS:=bM t5 U6;let U4:TS:=bM t4 U5;let U3:TS:=bM t3 U4;let U2:TS:=bM t2 U3;bM t1 U2 D0 σ0 H):(bM t1 (bM t2 (bM t3 (bM t4 (bM t5 (bM t6 (bM t7 t8))))))) D σ H:=h
theorem zrt{t1 t2 t3:TS}{D:fH}{σ:St}{H:Hp}{i:Nat}{v:V}(h:let D0:fH:=D;let σ0:St:=σ.set i (some v);let U3:TS:=t3;let U2:TS:=bM t2 U3;bM t1 U2 D0 σ0 H):bA i v σ H λσ2 H2=>(bM t1 (bM t2 t3)) D σ2 H2:=h
end L2
namespace L2
open PySem PySem.Spec PyProof.Rows PySem.W
open Builtin Builtin.ObjectAttr
section
variable {prog:Program}{w:World}{A:Around}{h:Heap}{g:Array GenState}{d:Drawn}{tk:Nat}{os:OsState}
variable {nm q:Str}{C N:Addr}{bs bm:List Value}{zwI:Bool}{sn:List Str}{sub:List Value}{ab:Bool}{col:Option Bool}{dd:Option Addr}{k0 k1 k2 k3 k5:Option Value}
end
end L2
namespace L2
open PySem PySem.Spec PyProof.Rows PySem.W
open Builtin Builtin.ObjectAttr
section
variable {prog:Program}{w:World}{A:Around}{E:Value->Shared->Prop}{s:Shared}{K:Frag}{x C M t:Addr}{ox:Obj}{od:Option Obj}{name:Str}{v:Value}
end
end L2
namespace L2
open PySem PySem.Spec PyProof.Rows
variable {s:Shared}{P:Program}{w:World}{A:Around}{E:Value->Shared->Prop}
section
variable {X:Cx}{aB:List (Addr×Obj)}{σ:St}{H:Hp}
end
section
variable {X:Cx}{C M:Addr}
end
def zxz(P:Program)(w:World)(led:Bool)(h:Heap)(a:Addr)(zs:List Str):Prop:=
 ∃o es ep t,h.get? a=some o/\o.ExactSet/\o.data= .set es ep t/\ElemsOf (bN P w) es.toList/\(∃us:List Value,(es.toList.map (·.2)).Perm us/\StrsAre us zs)/\zs.Nodup
  /\es.size<scanBound/\t.fits es.size=true/\t.led=led/\(1<=es.size->t.plain=false)
abbrev nJ(w:World):Bool:= !(w.params.followText "set-order")
abbrev qN(w:World):Obj:={cls:= .type "set",dict:=none,data:= .set #[] 0 (.fresh 0 0 (nJ w))}
section
theorem rJ{rest:List Value}{Q₁:Value->Shared->Prop}(hc:checkBuiltinCall "set.__new__" ⟨.type "set" ::rest,[]⟩=pure ())
 (h:Q₁ (.ref s.heap.objs.size) {s with heap:=s.heap.push (qN w)}):codeAny (model P w) A (.call (.builtin "set.__new__") ⟨.type "set" ::rest,[]⟩) (wants Q₁ E) s:=by
 refine codeAny_of_tree (show wpAny _ A.in1 (do checkBuiltinCall "set.__new__" ⟨.type "set" ::rest,[]⟩;again (.builtin "set.__new__" ⟨.type "set" ::rest,[]⟩)) _ _ s from ?_)
 refine wpAny_bind (wpAny_of_eq hc (wpAny_pure ⟨plainId_quiet PySem.F.plain_set_new _,codeAny_builtin PySem.F.entry_set_new ?_⟩))
 rw[PySem.Around.under_plainId PySem.F.plain_set_new _]
 have zym:=PySem.sub_set_self
 obtain⟨hp,g,d,tk,os⟩:=s
 unfold Builtin.«set.__new__»
 unfold Builtin.Frozenset.newClass
 dsimp only
 wp_walk
 refine wpAny_askSetting (wpAny_pure ?_)
 simp only[newObj]
 exact wpAny_bind (wpAny_alloc (wpAny_pure (wpAny_pure h)))
def zxE(l:List Str):List Str:=l.foldl (λσ v=>if v∈σ then σ else σ++[v]) []
variable {R:Result->Shared->Prop}{I:Addr}{fp wr:List Addr}{G:Array GenState->Array GenState->Prop}{n:Nat}{Pv:Nat->Value->Prop}{St:Nat->Shared->Prop}
end
section
variable {M:Model}
theorem yG{src:Source}{n:Nat}{Q:Nat->Shared->Prop}(hn:n≠0)(h: ∀i,i<n-> ∀d,Q i {s with drawn:=d}):wpAny M A (choose src n) Q E s:=by
 intro Γ p hc
 exact⟨hn,h _ (Nat.mod_lt _ (Nat.pos_of_ne_zero hn)) _⟩
theorem kE{α:Type}: ∀(l:List α) (i:Nat) (h:i<l.length),(l[i]::l.eraseIdx i).Perm l
 |_::_,0,_=> .refl _
 |x::xs,i+1,h=>by
  simp only[List.getElem_cons_succ,List.eraseIdx_cons_succ];exact(List.Perm.swap x _ _).trans (.cons x (kE xs i (by simpa using h)))
theorem lL{α:Type}: ∀(n:Nat) (xs:List α) {Q:List α->Shared->Prop} {s:Shared},n=xs.length->(∀ys d,ys.Perm xs->Q ys {s with drawn:=d})->wpAny M A (drawOrder n xs) Q E s
 |0,xs,Q,s,e,h=>by
  have:xs=[]:=List.length_eq_zero_iff.mp e.symm;subst this;exact wpAny_pure (h [] s.drawn .nil)
 |n+1,[],Q,s,e,h=>by cases e
 |n+1,x::xs,Q,s,e,h=>by
  refine wpAny_bind (yG (by simp) λi hi d=> ?_);have hg:(x::xs)[i]?=some ((x::xs)[i]):=List.getElem?_eq_getElem hi;rw[hg];refine wpAny_bind (lL n _ (by rw[List.length_eraseIdx_of_lt hi];simp at e ⊢;omega) λys d' hp=>wpAny_pure (h _ _ ?_));exact(List.Perm.cons _ hp).trans (kE _ _ hi)
end
namespace F
theorem entry_set_iter:entryFor table "set.__iter__" =some Builtin.«frozenset.__iter__»:=entryFor_alias (id':= "frozenset.__iter__") (by kernel_rfl) (by first|rfl|decide+kernel) (by decide+kernel) (by kernel_rfl)
theorem slot_setit_next:Slot "set_iterator" "__next__" "set_iterator.__next__" :=
 .of (owner:= "set_iterator") (n:= "__next__") (by rw[typeLookup_type,builtinLookup_eq_fast];kernel_rfl) (by decide+kernel) (by decide+kernel) (by decide+kernel)
  (by first|exact .inl (by decide+kernel)|exact .inr (by decide+kernel)) (by rw[isSubtype_type];kernel_rfl)
theorem entry_setit_next:entryFor table "set_iterator.__next__" =some Builtin.«set_iterator.__next__»:=entryFor_of_tree (by kernel_rfl)
theorem args_setit_next(a:Value):argsOk "set_iterator.__next__" ⟨[a],[]⟩:=by unfold argsOk;kernel_rfl
end F
abbrev hU(f:Value)(i:Nat)(S:Addr)(n ep:Nat):Obj:={cls:= .type "set_iterator",data:= .fields #[f,rawInt i,.ref S,rawInt n,rawInt ep]}
theorem zgX{S:Addr}{o:Obj}{es:Array (Int×Value)}{ep:Nat}{t:SetTable}{Q:Bool->Shared->Prop}(ho:s.heap.get? S=some o)(hd:o.data= .set es ep t)(hf:t.fits es.size=true)
 (h:Q (!(w.params.followText "set-order")&&(!t.plain&&decide (es.size>1))) s):wpAny (model P w) A (setDrawn S) Q E s:=by
 unfold setDrawn
 refine wpAny_bind (wpAny_setState_of ho hd hf ?_)
 refine wpAny_bind (wpAny_bind (wpAny_askSetting (wpAny_pure ?_)))
 exact wpAny_pure h
theorem zhW{S:Addr}{o:Obj}{es:Array (Int×Value)}{ep:Nat}{t:SetTable}{Q:Value->Shared->Prop}(ho:s.heap.get? S=some o)(vR:o.ExactSet)(hd:o.data= .set es ep t)(hf:t.fits es.size=true)(hb:es.size<scanBound)
 (h1:(!(w.params.followText "set-order")&&(!t.plain&&decide (es.size>1)))=false->Q (.ref s.heap.objs.size) {s with heap:=s.heap.push (hU (rawInt 0) 0 S es.size ep)})
 (h2:(!(w.params.followText "set-order")&&(!t.plain&&decide (es.size>1)))=true-> ∀(ps:List Nat) (d:Drawn),ps.Perm (List.range es.size)->
  Q (.ref (s.heap.objs.size+1)) {s with drawn:=d,heap:=(s.heap.push {cls:= .type "tuple",data:= .seq (ps.map λi:Nat=>rawInt i).toArray}).push (hU (.ref s.heap.objs.size) 0 S es.size ep)}):
 wpAny (model P w) A (pyIter (.ref S)) Q E s:=by
 have hT:s.TypeIs (.ref S) "set" :=⟨o,ho,vR.1⟩
 refine wpAny_pyIter_slot hT PySem.F.slot_set_iter (wpAny_call_entry PySem.F.slot_set_iter hT F.entry_set_iter ?_ (PySem.F.args_set_iter_1 _))
 unfold Builtin.«frozenset.__iter__»
 refine wpAny_bind (show wpAny _ _ (pure S) _ _ _ from wpAny_pure ?_)
 refine wpAny_bind (show wpAny _ _ (setEntries S>>= λe=>pure e.size) _ _ _ from wpAny_bind (show wpAny _ _ (setState S>>= λe=>pure e.1) _ _ _ from wpAny_bind (wpAny_setState_of ho hd hf (wpAny_pure (wpAny_pure ?_)))))
 refine wpAny_bind (zgX ho hd hf ?_)
 cases hq:(!(w.params.followText "set-order")&&(!t.plain&&decide (es.size>1)))
 . rw[if_neg (λz=>nomatch z)];refine wpAny_bind (wpAny_pure (wpAny_bind (wpAny_setEpoch_of ho hd hf ?_)));exact wpAny_bind (wpAny_newObj_type (wpAny_pure ⟨_,rfl,"set_iterator",_,⟨_,Heap.get?_push_size _ rfl,rfl⟩,F.slot_setit_next.lookup,h1 hq⟩))
 . rw[if_pos rfl];refine wpAny_bind (lL _ _ (by rw[List.length_range]) λps d hp=> ?_);have hz:(ps.map λi:Nat=>rawInt i).length<=sizeLine:=by
    rw[aW,hp.length_eq,List.length_range];exact fits_of_scanBound hb
   refine wpAny_bind (wpAny_newTuple (wpAny_bind (wpAny_setEpoch_of (Heap.get?_push_of_some _ ho) hd hf ?_)) hz);refine wpAny_bind (wpAny_newObj_type (wpAny_pure ⟨_,rfl,"set_iterator",_,⟨_,Heap.get?_push_size _ rfl,rfl⟩,F.slot_setit_next.lookup,?_⟩));have e:(s.heap.push {cls:= .type "tuple",data:= .seq (ps.map λi:Nat=>rawInt i).toArray}).objs.size=s.heap.objs.size+1:=Heap.size_push _ _;rw[e];exact h2 hq ps d hp
end L2
namespace L2
open PySem PySem.Spec PyProof.Rows
variable {P:Program}{w:World}{A:Around}{s:Shared}{I S T a C:Addr}{ep:Nat}{X:Cx}{e:Expr}{to:TE}{name:Str}{xT kC pos:Pos}{H:Hp}{aB:List (Addr×Obj)}{σ:St}{y:V}{u:Value}{base:Heap}{env:Env}{outer:List Env}{Q:Unit->Shared->Prop}
section
variable {E:Value->Shared->Prop}{i:Nat}{es:Array (Int×Value)}{t:SetTable}{o:Obj}
theorem gO{Q:Array (Int×Value)->Shared->Prop}(ho:s.heap.get? S=some o)(hd:o.data= .set es ep t)(hf:t.fits es.size=true)(h:Q es s):wpAny (model P w) A (setEntries S) Q E s:=by
 unfold setEntries
 exact wpAny_bind (wpAny_setState_of ho hd hf (wpAny_pure h))
theorem zbx{eD:Array Value}{p:Nat}{pk:Tok}{hx:Int}{x:Value}{n:Nat}{Q:Option Value->Shared->Prop}(lO:s.heap.get? I=some (hU (.ref T) i S es.size ep))(ho:s.heap.get? S=some o)(hd:o.data= .set es ep t)(hf:t.fits es.size=true)
 (hT:s.heap.get? T=some {cls:= .type "tuple",data:= .seq eD n}) (hp:eD[i]?=some (.int p pk)) (he:es[p]?=some (hx,x))
 (h: ∀h',h'.get? I=some (hU (.ref T) (i+1) S es.size ep)->Heap.SameBut I s.heap h'->Q (some x) {s with heap:=h'}):wpAny (model P w) A (pyNext (.ref I)) Q E s:=by
 have hTy:s.TypeIs (.ref I) "set_iterator" :=⟨_,lO,rfl⟩
 unfold pyNext
 refine wpAny_bind (wpAny_attempt (wpAny_callSpecial?_slot (name:=Str.ofString "__next__") hTy F.slot_setit_next (wpAny_call_entry F.slot_setit_next hTy F.entry_setit_next ?_ (F.args_setit_next _))))
 unfold Builtin.«set_iterator.__next__»
 refine wpAny_bind (wpAny_pure (wpAny_bind (show wpAny _ _ (fieldsOf (.ref I)) _ _ _ from wpAny_fieldsOf lO rfl ?_)))
 refine(show wpAny _ _ (setEntries S>>=_) _ _ _ from wpAny_bind (gO ho hd hf ?_))
 rw[if_neg (by simp)]
 refine(show wpAny _ _ (seqItems? (.ref T)>>=_) _ _ _ from wpAny_bind (wpAny_seqItems hT rfl ?_))
 simp only[Int.toNat_natCast,hp]
 refine wpAny_bind (show wpAny _ _ (setState S>>=_) _ _ _ from wpAny_bind (wpAny_setState_of ho hd hf ?_))
 dsimp only
 rw[if_neg (by simp),he]
 exact wpAny_pure (wpAny_bind (wpAny_setField lO rfl (by simp) (wpAny_pure ⟨x,rfl,wpAny_pure (h _ (Heap.get?_update_self _ lO rfl) (Heap.SameBut.update ..))⟩)))
theorem tN{eD:Array Value}{n:Nat}{Q:Option Value->Shared->Prop}(hh:A.handled=none)(lO:s.heap.get? I=some (hU (.ref T) i S es.size ep))(ho:s.heap.get? S=some o)(hd:o.data= .set es ep t)(hf:t.fits es.size=true)
 (hT:s.heap.get? T=some {cls:= .type "tuple",data:= .seq eD n}) (hp:eD[i]?=none)
 (h: ∀h',Heap.ExtBut I s.heap h'->Q none {s with heap:=h'}):wpAny (model P w) A (pyNext (.ref I)) Q E s:=by
 have hTy:s.TypeIs (.ref I) "set_iterator" :=⟨_,lO,rfl⟩
 unfold pyNext
 refine wpAny_bind (wpAny_attempt (wpAny_callSpecial?_slot (name:=Str.ofString "__next__") hTy F.slot_setit_next (wpAny_call_entry F.slot_setit_next hTy F.entry_setit_next ?_ (F.args_setit_next _))))
 unfold Builtin.«set_iterator.__next__»
 refine wpAny_bind (wpAny_pure (wpAny_bind (show wpAny _ _ (fieldsOf (.ref I)) _ _ _ from wpAny_fieldsOf lO rfl ?_)))
 refine(show wpAny _ _ (setEntries S>>=_) _ _ _ from wpAny_bind (gO ho hd hf ?_))
 rw[if_neg (by simp)]
 refine(show wpAny _ _ (seqItems? (.ref T)>>=_) _ _ _ from wpAny_bind (wpAny_seqItems hT rfl ?_))
 simp only[Int.toNat_natCast,hp]
 refine wpAny_bind (wpAny_setField lO rfl (by simp) (wpAny_bind (wpAny_setField (Heap.get?_update_self _ lO rfl) rfl (by simp) ?_)))
 refine(show wpAny _ _ (newExc (.type "StopIteration") []>>=_) _ _ _ from wpAny_bind ?_)
 simp only[newExc,newTuple]
 refine wpAny_bind (wpAny_newObj_type (wpAny_bind (m:=firstArgMember _ _) (wpAny_of_eq (a:=Value.none) (by first|rfl|(simp only[firstArgMember];rfl)) (wpAny_newObj_type ?_ (by size_fits)))) (by size_fits))
 simp only[raiseNew]
 refine wpAny_bind (wpAny_handled ?_)
 rw[show A.in1.handled=none from hh]
 refine wpAny_bind (wpAny_pure (wpAny_throw ?_))
 refine wpAny_bind (wpAny_isInstance (T:= "StopIteration") (b:=true) ⟨_,Heap.get?_push_size _ rfl,rfl⟩ isSubtype_stop ?_)
 refine wpAny_pure (h _ ?_)
 exact((((Heap.SameBut.update ..).trans (Heap.SameBut.update ..)).extBut.push _).push _)
def Nxt(P:Program)(w:World)(o:Obj)(S:Addr)(sl i ep:Nat)(r:Option (Value×Nat)):Prop:=
 ∀(A:Around) (E:Value->Shared->Prop) (s:Shared) (Q:Option (Value×Nat)->Shared->Prop),s.heap.get? S=some o->Q r s->wpAny (model P w) A (setNext S sl i ep) Q E s
theorem zgc{sl sl':Nat}{x:Value}{Q:Option Value->Shared->Prop}(lO:s.heap.get? I=some (hU (rawInt sl) i S es.size ep))(ho:s.heap.get? S=some o)(hd:o.data= .set es ep t)(hf:t.fits es.size=true)
 (hx:Nxt P w o S sl i ep (some (x,sl')))
 (h: ∀h',h'.get? I=some (hU (rawInt sl') (i+1) S es.size ep)->Heap.SameBut I s.heap h'->Q (some x) {s with heap:=h'}):wpAny (model P w) A (pyNext (.ref I)) Q E s:=by
 have hTy:s.TypeIs (.ref I) "set_iterator" :=⟨_,lO,rfl⟩
 unfold pyNext
 refine wpAny_bind (wpAny_attempt (wpAny_callSpecial?_slot (name:=Str.ofString "__next__") hTy F.slot_setit_next (wpAny_call_entry F.slot_setit_next hTy F.entry_setit_next ?_ (F.args_setit_next _))))
 unfold Builtin.«set_iterator.__next__»
 refine wpAny_bind (wpAny_pure (wpAny_bind (show wpAny _ _ (fieldsOf (.ref I)) _ _ _ from wpAny_fieldsOf lO rfl ?_)))
 refine(show wpAny _ _ (setEntries S>>=_) _ _ _ from wpAny_bind (gO ho hd hf ?_))
 rw[if_neg (by simp)]
 refine(show wpAny _ _ (setNext S (Int.toNat sl) (Int.toNat i) (Int.toNat ep)>>=_) _ _ _ from wpAny_bind ?_)
 rw[Int.toNat_natCast,Int.toNat_natCast,Int.toNat_natCast]
 refine hx _ _ _ _ ho ?_
 refine wpAny_bind (wpAny_setField lO rfl (by simp) (wpAny_bind (wpAny_setField (Heap.get?_update_self _ lO rfl) rfl (by simp) (wpAny_pure ⟨x,rfl,wpAny_pure (h _ (Heap.get?_update_self _ (Heap.get?_update_self _ lO rfl) rfl) ((Heap.SameBut.update ..).trans (Heap.SameBut.update ..)))⟩))))
theorem zH{sl:Nat}{Q:Option Value->Shared->Prop}(hh:A.handled=none)(lO:s.heap.get? I=some (hU (rawInt sl) i S es.size ep))(ho:s.heap.get? S=some o)(hd:o.data= .set es ep t)(hf:t.fits es.size=true)
 (hx:Nxt P w o S sl i ep none) (h: ∀h',Heap.ExtBut I s.heap h'->Q none {s with heap:=h'}):wpAny (model P w) A (pyNext (.ref I)) Q E s:=by
 have hTy:s.TypeIs (.ref I) "set_iterator" :=⟨_,lO,rfl⟩
 unfold pyNext
 refine wpAny_bind (wpAny_attempt (wpAny_callSpecial?_slot (name:=Str.ofString "__next__") hTy F.slot_setit_next (wpAny_call_entry F.slot_setit_next hTy F.entry_setit_next ?_ (F.args_setit_next _))))
 unfold Builtin.«set_iterator.__next__»
 refine wpAny_bind (wpAny_pure (wpAny_bind (show wpAny _ _ (fieldsOf (.ref I)) _ _ _ from wpAny_fieldsOf lO rfl ?_)))
 refine(show wpAny _ _ (setEntries S>>=_) _ _ _ from wpAny_bind (gO ho hd hf ?_))
 rw[if_neg (by simp)]
 refine(show wpAny _ _ (setNext S (Int.toNat sl) (Int.toNat i) (Int.toNat ep)>>=_) _ _ _ from wpAny_bind ?_)
 rw[Int.toNat_natCast,Int.toNat_natCast,Int.toNat_natCast]
 refine hx _ _ _ _ ho ?_
 refine wpAny_bind (wpAny_setField lO rfl (by simp) ?_)
 refine(show wpAny _ _ (newExc (.type "StopIteration") []>>=_) _ _ _ from wpAny_bind ?_)
 simp only[newExc,newTuple]
 refine wpAny_bind (wpAny_newObj_type (wpAny_bind (m:=firstArgMember _ _) (wpAny_of_eq (a:=Value.none) (by first|rfl|(simp only[firstArgMember];rfl)) (wpAny_newObj_type ?_ (by size_fits)))) (by size_fits))
 simp only[raiseNew]
 refine wpAny_bind (wpAny_handled ?_)
 rw[show A.in1.handled=none from hh]
 refine wpAny_bind (wpAny_pure (wpAny_throw ?_))
 refine wpAny_bind (wpAny_isInstance (T:= "StopIteration") (b:=true) ⟨_,Heap.get?_push_size _ rfl,rfl⟩ isSubtype_stop ?_)
 refine wpAny_pure (h _ ?_)
 exact(((Heap.SameBut.update ..).extBut.push _).push _)
end
theorem zcw{α:Type}(f:Nat->Nat): ∀(nZ k:Nat) (left:List α) (out:Array α),left.length=nZ->(pickOrder.go f nZ k left out).toList.Perm (out.toList++left)
 |0,_,left,out,e=>by
  obtain rfl:left=[]:=List.length_eq_zero_iff.mp e;rw[List.append_nil];exact .refl _
 |nZ+1,k,left,out,e=>by
  have hi:f k % left.length<left.length:=Nat.mod_lt _ (by omega);unfold pickOrder.go;rw[List.getElem?_eq_getElem hi];refine(zcw f nZ (k+1) _ _ (by rw[List.length_eraseIdx_of_lt hi];omega)).trans ?_;rw[Array.toList_push,List.append_assoc];exact List.Perm.append_left _ (kE left _ hi)
theorem zdR{α:Type}(f:Nat->Nat)(xs:Array α):(pickOrder f xs).toList.Perm xs.toList:=by
 have q:=zcw f xs.size 0 xs.toList #[] (by rw[Array.length_toList])
 exact q
section
variable {E:Value->Shared->Prop}{i:Nat}{es:Array (Int×Value)}{t:SetTable}{o:Obj}
theorem l7{sl i:Nat}(hw:w.params.followText "set-order" =true)(hd:o.data= .set es ep t)(hf:t.fits es.size=true):
 Nxt P w o S sl i ep (((pickOrder (w.params.setOrder S ep) es)[i]?).map λe=>(e.2,sl)):=by
 intro A E s Q ho q
 unfold setNext
 refine wpAny_bind (wpAny_setState_of ho hd hf ?_)
 refine wpAny_bind (show wpAny _ _ (ask>>= λa=>pure (a.params.followText "set-order")) _ _ _ from wpAny_bind (wpAny_askSetting (wpAny_pure ?_)))
 dsimp only
 rw[if_pos (show(model P w).w.params.followText "set-order" =true from hw),if_neg (by simp)]
 refine wpAny_bind ?_
 unfold setWalk
 refine wpAny_bind (wpAny_setState_of ho hd hf ?_)
 refine wpAny_bind (show wpAny _ _ (ask>>= λa=>pure (a.params.followText "set-order")) _ _ _ from wpAny_bind (wpAny_askSetting (wpAny_pure ?_)))
 rw[if_pos (show(model P w).w.params.followText "set-order" =true from hw)]
 refine wpAny_bind (wpAny_askSetting (wpAny_pure ?_))
 exact wpAny_pure q
structure Led(P:Program)(w:World)(o:Obj)(S:Addr)(ep:Nat)(us:List Value)(sl:Nat->Nat):Prop where
 item: ∀i x,us[i]?=some x->Nxt P w o S (sl i) i ep (some (x,sl (i+1)))
 stop:Nxt P w o S (sl us.length) us.length ep none
 zero:sl 0=0
theorem zgY(hw:w.params.followText "set-order" =true)(hd:o.data= .set es ep t)(hf:t.fits es.size=true):Led P w o S ep ((pickOrder (w.params.setOrder S ep) es).toList.map (·.2)) (λ_=>0) where
 item:= λi x e=>by
  have q:=l7 (P:=P) (S:=S) (sl:=0) (i:=i) hw hd hf;rw[List.getElem?_map,Array.getElem?_toList]at e;obtain⟨y,e1,rfl⟩:=Option.map_eq_some_iff.mp e;rw[e1]at q;exact q
 stop:=by
  have q:=l7 (P:=P) (S:=S) (sl:=0) (i:=((pickOrder (w.params.setOrder S ep) es).toList.map (·.2)).length) hw hd hf;rw[Array.getElem?_eq_none (by rw[aW,Array.length_toList];exact Nat.le_refl _)]at q;exact q
 zero:=rfl
theorem lM:Slot "set_iterator" "__iter__" "set_iterator.__iter__" :=
 .of (owner:= "set_iterator") (n:= "__iter__") (by rw[typeLookup_type,builtinLookup_eq_fast];kernel_rfl) (by decide+kernel) (by decide+kernel) (by decide+kernel) (by first|exact .inl (by decide+kernel)|exact .inr (by decide+kernel)) (by rw[isSubtype_type];kernel_rfl)
theorem qX:entryFor table "set_iterator.__iter__" =some Builtin.«dict_keyiterator.__iter__»:=entryFor_alias (id':= "dict_keyiterator.__iter__") (by kernel_rfl) (by first|rfl|decide+kernel) (by decide+kernel) (by kernel_rfl)
theorem rW(a:Value):argsOk "set_iterator.__iter__" ⟨[a],[]⟩:=by unfold argsOk;kernel_rfl
theorem uS{f:Value}{n:Nat}{Q:Value->Shared->Prop}(lO:s.heap.get? I=some (hU f i S n ep))(h:Q (.ref I) s):wpAny (model P w) A (pyIter (.ref I)) Q E s:=by
 have hTy:s.TypeIs (.ref I) "set_iterator" :=⟨_,lO,rfl⟩
 refine wpAny_pyIter_slot hTy lM (wpAny_call_entry lM hTy qX ?_ (rW _))
 exact(show wpAny _ _ (ret (.ref I)) _ _ s from wpAny_pure ⟨_,rfl,"set_iterator",_,hTy,F.slot_setit_next.lookup,h⟩)
theorem zhL{us:List Value}{sl:Nat->Nat}(L:Led P w o S ep us sl)(hh:A.handled=none)(hd:o.data= .set es ep t)(hf:t.fits es.size=true)(nR:S≠I):
 WalksS P w A I [I,S] [I] (λa b=>b=a) us.length (λi v=>us[i]?=some v) (λi s=>s.heap.get? I=some (hU (rawInt (sl i)) i S es.size ep)/\s.heap.get? S=some o) where
 sub:= λb hb=>by simp at hb;simp[hb]
 grefl:= λ_=>rfl
 gtrans:= λ_ _ _ h1 h2=>h2.trans h1
 frame:= λi s h' tk st _ k=>⟨k I (by simp) _ st.1,k S (by simp) _ st.2⟩
 item:= λi s Q E hi st hQ=>by
  have e:us[i]?=some us[i]:=List.getElem?_eq_getElem hi;refine zgc st.1 st.2 hd hf (L.item i _ e) λh' a b=>hQ _ _ e ⟨a,(b.2 S nR).trans st.2⟩ ⟨λc o' hc e'=> ?_,rfl,rfl,rfl,Nat.le_refl _⟩;exact(b.2 c λz=>hc (by simp[z])).trans e'
 done:= λs Q E st hQ=>zH hh st.1 st.2 hd hf L.stop λh' a=>hQ _ ⟨λc o' hc e'=>a c o' (λz=>hc (by simp[z])) e',rfl,rfl,rfl,Nat.le_refl _⟩
 self:= λi s Q E st hQ=>uS st.1 hQ
theorem zaC{eD:List Nat}{n:Nat}(hh:A.handled=none)(hd:o.data= .set es ep t)(hf:t.fits es.size=true)(hp:eD.Perm (List.range es.size))(nR:S≠I)(hTn:T≠I):
 WalksS P w A I [I,S,T] [I] (λa b=>b=a) eD.length (λi v=>(eD.map λp=>(es.toList.map (·.2)).getD p .none)[i]?=some v)
  (λi s=>s.heap.get? I=some (hU (.ref T) i S es.size ep)/\s.heap.get? S=some o/\s.heap.get? T=some {cls:= .type "tuple",data:= .seq (eD.map λi:Nat=>rawInt i).toArray n}) where
 sub:= λb hb=>by simp at hb;simp[hb]
 grefl:= λ_=>rfl
 gtrans:= λ_ _ _ h1 h2=>h2.trans h1
 frame:= λi s h' tk st _ k=>⟨k I (by simp) _ st.1,k S (by simp) _ st.2.1,k T (by simp) _ st.2.2⟩
 item:= λi s Q E hi st hQ=>by
  have e:eD[i]?=some eD[i]:=List.getElem?_eq_getElem hi;have eY:eD[i]<es.size:=List.mem_range.mp (hp.mem_iff.mp (List.getElem_mem hi));have e2:es[eD[i]]?=some (es[eD[i]].1,es[eD[i]].2):=Array.getElem?_eq_getElem eY;refine zbx (p:=eD[i]) (pk:=0) (x:=es[eD[i]].2) st.1 st.2.1 hd hf st.2.2 (by rw[List.getElem?_toArray,List.getElem?_map,e];rfl) e2 λh' a b=>hQ _ _ ?_ ⟨a,(b.2 S nR).trans st.2.1,(b.2 T hTn).trans st.2.2⟩ ⟨λc o' hc e'=> ?_,rfl,rfl,rfl,Nat.le_refl _⟩
  . rw[List.getElem?_map,e];simp[eY]
  . exact(b.2 c λz=>hc (by simp[z])).trans e'
 done:= λs Q E st hQ=>tN hh st.1 st.2.1 hd hf st.2.2 (by simp) λh' a=>hQ _ ⟨λc o' hc e'=>a c o' (λz=>hc (by simp[z])) e',rfl,rfl,rfl,Nat.le_refl _⟩
 self:= λi s Q E st hQ=>uS st.1 hQ
end
def iV(xs:Array Nat):Prop:= ∀i j:Nat,i<j->j<xs.size->xs.getD i 0<xs.getD j 0
theorem tG{xs:Array Nat}{j c:Nat}(h1: ∀k:Nat,k<c->xs.getD k j<j)(h2: ∀k:Nat,c<=k->k<xs.size-> ¬xs.getD k j<j):
 ∀(nZ lo hi:Nat),lo<=c->c<=hi->hi<=xs.size->hi - lo<=nZ->SetTable.below.go xs j nZ lo hi=c
 |0,lo,hi,a,b,_,d=>by
  show lo=c
  omega
 |nZ+1,lo,hi,a,b,e,d=>by
  unfold SetTable.below.go
  by_cases hl:lo<hi
  . rw[if_pos hl];dsimp only
    by_cases hm:xs.getD ((lo+hi) / 2) j<j
    . rw[if_pos hm];have hc:(lo+hi) / 2<c:=Nat.lt_of_not_le λz=>h2 _ z (by omega) hm;exact tG h1 h2 nZ _ hi (by omega) b e (by omega)
    . rw[if_neg hm];have hc:c<=(lo+hi) / 2:=Nat.le_of_not_lt λz=>hm (h1 _ z);exact tG h1 h2 nZ lo _ a hc (by omega) (by omega)
  . rw[if_neg hl];omega
theorem uK{xs:Array Nat}{j c:Nat}(hc:c<=xs.size)(h1: ∀k:Nat,k<c->xs.getD k 0<j)(h2: ∀k:Nat,c<=k->k<xs.size->j<=xs.getD k 0):SetTable.below xs j=c:=by
 unfold SetTable.below
 refine tG (λk hk=> ?_) (λk hk hs=> ?_) _ 0 _ (Nat.zero_le _) hc (Nat.le_refl _) (by omega)
 . have q:=h1 k hk;rw[Array.getD_eq_getD_getElem?,Array.getElem?_eq_getElem (by omega:k<xs.size)]at q ⊢;exact q
 . have q:=h2 k hk hs;rw[Array.getD_eq_getD_getElem?,Array.getElem?_eq_getElem hs]at q ⊢;exact Nat.not_lt.mpr q
theorem iV.first{xs:Array Nat}(h:iV xs):SetTable.below xs 0=0:=uK (Nat.zero_le _) (λ_ z=>absurd z (Nat.not_lt_zero _)) λ_ _ _=>Nat.zero_le _
theorem iV.next{xs:Array Nat}(h:iV xs){i:Nat}(hi:i<xs.size):SetTable.below xs (xs.getD i 0+1)=i+1:=by
 refine uK hi (λk hk=> ?_) (λk hk hs=>h i k hk hs)
 rcases Nat.lt_or_ge k i with z|z
 . exact Nat.lt_succ_of_lt (h k i z hi)
 . have:k=i:=by omega
   rw[this];exact Nat.lt_succ_self _
theorem iV.place{xs:Array Nat}(h:iV xs)(j:Nat): ∃c,c<=xs.size/\(∀k:Nat,k<c->xs.getD k 0<j)/\(∀k:Nat,c<=k->k<xs.size->j<=xs.getD k 0)/\SetTable.below xs j=c:=by
 have iU: ∀n:Nat,n<=xs.size-> ∃c,c<=n/\(∀k:Nat,k<c->xs.getD k 0<j)/\ ∀k:Nat,c<=k->k<n->j<=xs.getD k 0:=by
  intro n
  induction n with
  |zero=>exact λ_=>⟨0,Nat.le_refl _,λ_ z=>absurd z (Nat.not_lt_zero _),λ_ _ z=>absurd z (Nat.not_lt_zero _)⟩
  |succ n ih=>
   intro hn;obtain⟨c,a,b,d⟩:=ih (by omega)
   by_cases hc:xs.getD n 0<j
   . refine⟨n+1,Nat.le_refl _,λk hk=> ?_,λk a b=>by omega⟩
     rcases Nat.lt_or_ge k n with z|z
     . exact Nat.lt_trans (h k n z (by omega)) hc
     . have:k=n:=by omega
       rw[this];exact hc
   . refine⟨c,by omega,b,λk hk hk2=> ?_⟩
     rcases Nat.lt_or_ge k n with z|z
     . exact d k hk z
     . have:k=n:=by omega
       rw[this];exact Nat.le_of_not_lt hc
 obtain⟨c,a,b,d⟩:=iU xs.size (Nat.le_refl _)
 exact⟨c,a,b,d,uK a b d⟩
theorem zbZ{xs:Array Nat}{i:Nat}(h:i<xs.size):xs[i]?=some (xs.getD i 0):=by
 rw[Array.getD_eq_getD_getElem?,Array.getElem?_eq_getElem h];rfl
theorem kX(n:Nat):iV (Array.range n):= λi j h hj=>by
 rw[Array.size_range]at hj
 rw[Array.getD_eq_getD_getElem?,Array.getD_eq_getD_getElem?,Array.getElem?_eq_getElem (by rw[Array.size_range];omega),Array.getElem?_eq_getElem (by rw[Array.size_range];omega)]
 simpa using h
theorem zdV{l:List Nat}(h:l.Pairwise (·<·)):iV l.toArray:= λi j hij hj=>by
 rw[List.size_toArray]at hj
 rw[Array.getD_eq_getD_getElem?,Array.getD_eq_getD_getElem?,List.getElem?_toArray,List.getElem?_toArray,List.getElem?_eq_getElem (by omega:i<l.length),List.getElem?_eq_getElem hj]
 exact List.pairwise_iff_getElem.mp h i j (by omega) hj hij
theorem zbW{xs:Array Nat}{c j:Nat}(hc:c<=xs.size)(i:Nat):(SetTable.insertAt xs c j).getD i 0=if i<c then xs.getD i 0 else if i=c then j else xs.getD (i - 1) 0:=by
 unfold SetTable.insertAt
 have hy:(xs.extract 0 c).size=c:=by rw[Array.size_extract,Nat.min_eq_left hc,Nat.sub_zero]
 have hz:((xs.extract 0 c).push j).size=c+1:=by rw[Array.size_push,hy]
 rw[Array.getD_eq_getD_getElem?]
 by_cases h1:i<c
 . have h5:=Nat.lt_of_lt_of_le h1 hc;rw[if_pos h1,Array.getElem?_append_left (by rw[hz];exact Nat.lt_succ_of_lt h1),Array.getElem?_push_lt (by rw[hy];exact h1),Array.getElem_extract,Array.getD_eq_getD_getElem?,Array.getElem?_eq_getElem h5];simp only[Nat.zero_add]
 . rw[if_neg h1]
   by_cases h2:i=c
   . subst h2;rw[if_pos rfl,Array.getElem?_append_left (by rw[hz];exact Nat.lt_succ_self _)];have q:=Array.getElem?_push_size (xs:=xs.extract 0 i) (x:=j);rw[hy]at q;rw[q];rfl
   . have h6:c+1<=i:=Nat.lt_of_le_of_ne (Nat.not_lt.mp h1) (Ne.symm h2);obtain⟨d,rfl⟩:=Nat.exists_eq_add_of_le h6;have e:c+d=c+1+d - 1:=by rw[Nat.add_right_comm];rfl
     rw[if_neg h2,Array.getElem?_append_right (by rw[hz];exact h6),hz,Array.getD_eq_getD_getElem?,Nat.add_sub_cancel_left,<-e,Array.getElem?_extract]
     by_cases h3:c+d<xs.size
     . rw[if_pos (by rw[Nat.min_self];exact Nat.lt_sub_of_add_lt (by rw[Nat.add_comm];exact h3))]
     . rw[if_neg (by rw[Nat.min_self];exact λz=>h3 (by have:=Nat.add_lt_of_lt_sub z;rw[Nat.add_comm];exact this)),Array.getElem?_eq_none (Nat.not_lt.mp h3)]
theorem zhx{xs:Array Nat}{c j:Nat}(hc:c<=xs.size):(SetTable.insertAt xs c j).size=xs.size+1:=by
 unfold SetTable.insertAt
 rw[Array.size_append,Array.size_push,Array.size_extract,Array.size_extract,Nat.min_self,Nat.min_eq_left hc,Nat.sub_zero,Nat.add_right_comm,Nat.add_sub_cancel' hc]
theorem iV.ins{xs:Array Nat}(h:iV xs){j:Nat}(hj: ¬xs[SetTable.below xs j]?=some j):iV (SetTable.insertAt xs (SetTable.below xs j) j):=by
 obtain⟨c,c1,c2,c3,c4⟩:=h.place j
 rw[c4]at hj ⊢
 intro a b i8 hb
 rw[zhx c1]at hb
 have hcj: ∀k:Nat,c<=k->k<xs.size->j<xs.getD k 0:= λk k1 k2=>by
  rcases Nat.lt_or_ge c k with z|z
  . exact Nat.lt_of_le_of_lt (c3 c (Nat.le_refl _) (by omega)) (h c k z k2)
  . have:k=c:=by omega
    subst this;refine Nat.lt_of_le_of_ne (c3 k k1 k2) λe=>hj ?_;rw[zbZ k2,<-e]
 rw[zbW c1,zbW c1]
 by_cases a1:a<c
 . rw[if_pos a1]
   by_cases b1:b<c
   . rw[if_pos b1];exact h a b i8 (by omega)
   . rw[if_neg b1]
     by_cases b2:b=c
     . rw[if_pos b2];exact c2 a a1
     . rw[if_neg b2];exact Nat.lt_trans (c2 a a1) (hcj _ (by omega) (by omega))
 . rw[if_neg a1]
   by_cases a2:a=c
   . rw[if_pos a2,if_neg (by omega),if_neg (by omega)];exact hcj _ (by omega) (by omega)
   . rw[if_neg a2,if_neg (by omega),if_neg (by omega)];exact h _ _ (by omega) (by omega)
def zhi(t:SetTable)(j:Nat):Prop:= ¬t.place[SetTable.below t.place j]?=some j
theorem zcV{t:SetTable}{j:Nat}(h: ∀i,t.slot j≠ .live i):zhi t j:= λe=>by
 refine h (SetTable.below t.place j) ?_
 unfold SetTable.slot
 dsimp only
 rw[if_pos (by rw[e];exact beq_self_eq_true _)]
theorem oA{t:SetTable}{h h':Int}(hh:(h'==h)=false): ∀(nZ:Nat) (p:SetTable.Probe) (j:Nat) (dm:Option Nat),(∀d,p.dummy=some d->zhi t d)->SetTable.probe.go t (λ_=>h') h nZ p=some (.empty j dm)->zhi t (dm.getD j)
 |0,p,j,dm,_,e=>by
  unfold SetTable.probe.go at e;cases e
 |nZ+1,p,j,dm,hd,e=>by
  unfold SetTable.probe.go at e;cases hs:t.slot p.j with
  |empty=>
   rw[hs]at e;injection e with e
   injection e with e1 e2
   subst e1 e2;cases hp:p.dummy with
   |none=>exact zcV λi z=>by rw[show(none:Option Nat).getD p.j=p.j from rfl,hs]at z;cases z
   |some d=>exact hd d hp
  |dummy=>
   rw[hs]at e;refine oA hh nZ _ j dm (λd hd'=> ?_) e;have q:(t.advance {p with dummy:=some p.j}).dummy=some p.j:=by
    unfold SetTable.advance
    split<;>rfl
   rw[q]at hd';cases hd';exact zcV λi z=>by rw[hs]at z;cases z
  |live i=>
   rw[hs]at e;dsimp only at e;rw[hh,if_neg (λz=>nomatch z)]at e;refine oA hh nZ _ j dm (λd hd'=> ?_) e;have q:(t.advance p).dummy=p.dummy:=by
    unfold SetTable.advance
    split<;>rfl
   rw[q]at hd';exact hd d hd'
theorem zfE{t:SetTable}(h:iV t.place)(es:Array (Int×Value))(hs:Int)(x:Value):iV (layNew t es hs x).2.1.place:=by
 unfold layNew
 have or_: ∀(t':SetTable) (n:Nat),iV t'.place->iV (t'.orStandIn n).place:= λt' n q=>by
  unfold SetTable.orStandIn
  split
  . exact q
  . exact kX n
 cases hf:t.freeSlot hs with
 |none=>exact kX _
 |some p=>
  obtain⟨slot,wd⟩:=p;refine or_ _ _ ?_;show iV (SetTable.insertAt t.place (SetTable.below t.place slot) slot);refine h.ins ?_;unfold SetTable.freeSlot at hf;cases hp:t.probe (λ_=>hs+1) hs (t.probeStart hs)with
  |none=>rw[hp]at hf;cases hf
  |some m=>
   rw[hp]at hf;cases m with
   |candidate _ _ _=>cases hf
   |empty j dm=>
    injection hf with hf
    injection hf with e1 _
    rw[<-e1];unfold SetTable.probe at hp;exact oA (beq_eq_false_iff_ne.mpr (by omega)) _ _ j dm (λd z=>by cases(show(none:Option Nat)=some d from z)) hp
theorem zaX{t:SetTable}(h:iV t.place)(es:Array (Int×Value))(n:Nat):iV (relayAll t es n).2.1.place:=by
 unfold relayAll
 split
 . rename_i t' order e
   have hr:iV t'.place:=by
    unfold SetTable.relaid SetTable.laid at e;obtain⟨ow,_,e⟩:=Option.bind_eq_some_iff.mp e;cases e;refine zdV ?_;rw[List.pairwise_map];refine List.Pairwise.filterMap (R:= λa b:Nat=>a<b) _ (λa a' eY b hb b' vQ=> ?_) List.pairwise_lt_range;obtain⟨y,_,rfl⟩:=Option.map_eq_some_iff.mp hb;obtain⟨y',_,rfl⟩:=Option.map_eq_some_iff.mp vQ;exact eY
   dsimp only
   split
   . exact hr
   . exact kX _
 . exact kX _
theorem zbB:typeLookup (.type "set") "__len__" =pure (some (.builtin "set.__len__")):=by rw[typeLookup_type,builtinLookup_eq_fast];kernel_rfl
section
variable {E:Value->Shared->Prop}{i:Nat}{es:Array (Int×Value)}{t:SetTable}{o:Obj}
theorem zhm{Q:Bool->Shared->Prop}(hT:s.TypeIs (.ref S) "set")(h:Q false s):wpAny (model P w) A (Builtin.List.listLengthHint (.ref S)) Q E s:=by
 unfold Builtin.List.listLengthHint
 refine wpAny_bind (wpAny_specialOf (T:= "set") hT zbB ?_)
 wp_delta
 refine wpAny_bind (wpAny_isInstance (T:= "set") (b:=true) hT (by rw[isSubtype_type];kernel_rfl) ?_)
 exact(show wpAny _ A (typeOf (Value.ref S)>>=_) _ _ _ from wpAny_bind (wpAny_typeOf (T:= "set") hT (wpAny_pure h)))
theorem wM{L:Addr}{c0:Nat}{fp:List Addr}{us:List Value}{St:Nat->Shared->Prop}{s1:Shared}{R:Result->Shared->Prop}(W:WalksS P w A.in1 I fp [I] (λa b=>b=a) us.length (λi v=>us[i]?=some v) St)(hz:us.length<=sizeLine)(st:St 0 s1)(hL:L∉fp)
 (hl:s1.heap.get? L=some {cls:= .type "list",data:= .seq #[] c0})
 (h: ∀s' c,(∀b o,b≠L->b≠I->s1.heap.get? b=some o->s'.heap.get? b=some o)->s'.gens=s1.gens->s'.os=s1.os->s'.heap.get? L=some {cls:= .type "list",dict:=none,data:= .seq us.toArray c,slots:= #[]}->R (.ok (.ret (.ref L))) s'):
 codeAny (model P w) A (.builtin "list.extend.loop" ⟨[.ref L,.ref I,.ref L],[]⟩) R s1:=by
 refine codeAny_extend_loopS W hz L hL _ us.length 0 s1 _ _ rfl (Nat.zero_le _) st hl (ItemsOf.nil _) λs' zkc c' hm hS' zfQ=> ?_
 have e:zkc=us.toArray:=by
  apply Array.toList_inj.mp;apply List.ext_getElem?;intro j
  by_cases hj:j<us.length
  . have h0:j<zkc.size:=by rw[zfQ.1];exact hj
    have h1:zkc[j]?=some zkc[j]:=Array.getElem?_eq_getElem h0;rw[Array.getElem?_toList,h1];exact(zfQ.2 j _ h1).symm
  . rw[Array.getElem?_toList,Array.getElem?_eq_none (by rw[zfQ.1];omega)];simp at hj ⊢;exact hj
 rw[e]at hS'
 exact h s' c' (λb o' h1 h2 q=>hm.heap b o' (by simp[h1,h2]) q) hm.gens hm.os hS'
theorem d8{Q:List Value->Shared->Prop}(hT:s.TypeIs (.ref S) "set")
 (h:wpAny (model P w) A.in1 (pyIter (.ref S)) (λv s1=> ∃I,v= .ref I/\s1.TypeIs (.ref S) "set" /\s1.heap.get? s.heap.objs.size=some {cls:= .type "list",data:= .seq ([]:List Value).toArray}/\
  ∀h' c,(∀b o,b≠s.heap.objs.size->s1.heap.get? b=some o->h'.get? b=some o)->h'.get? s.heap.objs.size=some {cls:= .type "list",data:= .seq #[] c}->
   codeAny (model P w) A (.builtin "list.extend.loop" ⟨[.ref s.heap.objs.size,.ref I,.ref s.heap.objs.size],[]⟩) (λr s'=> ∃us c,r= .ok (.ret (.ref s.heap.objs.size))/\s'.heap.get? s.heap.objs.size=some {cls:= .type "list",dict:=none,data:= .seq us c,slots:= #[]}/\Q us.toList s') {s1 with heap:=h'}) (λ_ _=>False)
  {s with heap:=s.heap.push {cls:= .type "list",data:= .seq ([]:List Value).toArray}}):
 wpAny (model P w) A (collect (.ref S)) Q E s:=by
 unfold collect
 refine wpAny_bind (wpAny_runValue (codeAny_builtin PySem.F.entry_proto_collect ?_))
 rw[PySem.Around.under_plainId PySem.F.plain_proto_collect _]
 refine(show wpAny _ A.in1 (newList []>>= λl=>again (.builtin "list.__iadd__" ⟨[l,.ref S],[]⟩)) _ _ s from wpAny_bind (wpAny_newObj_type (wpAny_pure ⟨plainId_quiet PySem.F.plain_list_iadd _,codeAny_builtin PySem.F.entry_list_iadd ?_⟩)))
 rw[PySem.Around.under_plainId PySem.F.plain_list_iadd _]
 refine(show wpAny _ A.in1 (Builtin.List.listExtendWith (.ref s.heap.objs.size) (.ref S) (.ref s.heap.objs.size)) _ _ _ from ?_)
 unfold Builtin.List.listExtendWith
 have hT1:Shared.TypeIs {s with heap:=s.heap.push {cls:= .type "list",data:= .seq ([]:List Value).toArray}} (.ref S) "set" :=by
  obtain⟨o,ho,hc⟩:=hT;exact⟨o,Heap.get?_push_of_some _ ho,hc⟩
 have nR:(Builtin.List.listSameRef (.ref s.heap.objs.size) (.ref S)||Value.type "set" ==Value.type "list" ||Value.type "set" ==Value.type "tuple")=false:=by
  obtain⟨o,ho,hc⟩:=hT;have q:(s.heap.objs.size==S)=false:=by
   rw[beq_eq_false_iff_ne];exact Nat.ne_of_gt (Heap.lt_size ho)
  have q2:Builtin.List.listSameRef (.ref s.heap.objs.size) (.ref S)=(s.heap.objs.size==S):=rfl;rw[q2,q]
  decide
 refine wpAny_bind (wpAny_typeOf (T:= "set") hT1 ?_)
 rw[if_neg (by rw[nR];exact λz=>nomatch z)]
 refine wpAny_bind (wpAny_mono h (λv s1 ⟨I,e,h1,h5,h2⟩=> ?_) λ_ _ z=>z.elim)
 subst e
 refine wpAny_bind (wpAny_holding (zhm h1 ?_))
 rw[if_pos (by decide)]
 refine wpAny_bind (wpAny_rule (wpAny_bind (show wpAny _ A.in1 (updateSeq s.heap.objs.size (·.push .none)>>= λ_=>updateSeq s.heap.objs.size (·.pop)) _ _ _ from wpAny_bind (wpAny_updateSeq h5 rfl ?_))))
 have g2:=Heap.get?_update_self (Obj.mapSeq (·.push Value.none)) h5 rfl
 refine wpAny_updateSeq (hz:=by seq_fits) g2 rfl ?_
 have g3:=Heap.get?_update_self (Obj.mapSeq (·.pop)) g2 rfl
 refine wpAny_pure ⟨plainId_quiet PySem.F.plain_extend_loop _,codeAny_mono (h2 _ _ (λb o' hb q=>(Heap.get?_update_other _ _ (Ne.symm hb)).trans ((Heap.get?_update_other _ _ (Ne.symm hb)).trans q)) g3) λr s' ⟨us,c,e,h3,h4⟩=> ?_⟩
 subst e
 exact(show wpAny _ A (load s.heap.objs.size>>=_) _ _ s' from wpAny_bind (wpAny_load h3 (wpAny_pure h4)))
end
theorem zbo{α:Type}(d:α): ∀l:List α,(List.range l.length).map (λp=>l.getD p d)=l:= λl=>by
 apply List.ext_getElem?
 intro j
 rw[List.getElem?_map]
 by_cases hj:j<l.length
 . rw[List.getElem?_range hj];simp[hj]
 . rw[List.getElem?_eq_none (by simp;omega),List.getElem?_eq_none (by omega)];rfl
section
variable {E:Value->Shared->Prop}
end
theorem wO: ∀{zs:List Str} {us:List Value},bP (zs.map V.str) us->StrsAre us zs
 | [],_,.nil=> .nil
 |_::_,_,.cons ⟨t,e⟩ r=>by
  subst e;exact .cons _ t (wO r)
theorem zdK{us:List Value}{zs:List Str}(h:StrsAre us zs):bP (zs.map V.str) us:=by
 induction h with
 |nil=>exact .nil
 |cons _ t r ih=>exact .cons ⟨t,rfl⟩ ih
theorem kQ:fJ X (.builtin "sorted") (λxs H Q=> ∃p zs,xs=[.ref p]/\bB X.K H p (zs.map V.str)/\zs.length<64/\ ∀l vP,H l=none->vP.Perm zs->sortedS vP=true->Q (.ref l) (aO H l (.lst (vP.map V.str)))):=by
 intro aB s σ H xs us Q I r h
 obtain⟨p,zs,rfl,hq,hz,q⟩:=h
 obtain⟨u,rfl,rx⟩:=mC r
 cases rx
 obtain⟨bC,r',pl,j6⟩:=I.list hq
 have dL:=r'.length
 rw[aW]at dL
 refine sorted_strs pl.isList (wO r') (by omega) λout ss' a1 a2 a3=> ?_
 obtain⟨e,he⟩:=sortedAll_at s.heap bC out
 refine⟨.ref (s.heap.objs.size+1),_,I.laid (t':=s.toks) (λ_ _=>sortedAll_old) (Nat.le_succ _) (show dE X.prog X.w _ _ _ (.lst (ss'.map V.str))from⟨?_,out.toList,e,zdK a1,he⟩),rfl,q _ _ (I.hok.fresh (Nat.le_succ _)) a2 a3⟩
 rw[aW,a2.length_eq]
 rw[aW]at j6
 exact j6
section
variable {E:Value->Shared->Prop}
end
def zxH(P:Program)(w:World)(a:Addr)(zs:List Str):HO:= .ext λh=>zxz P w (nJ w) h a zs
section
variable {E:Value->Shared->Prop}
end
section
variable {E:Value->Shared->Prop}
theorem zeC{Q:Value->Shared->Prop}(h:Q (.ref s.heap.objs.size) {s with heap:=s.heap.push (qN w)}):wpAny (model P w) A (call (.type "set") []) Q E s:=by
 obtain⟨c,tl,zyh⟩:=PySem.F.called_set.mro
 have c1:=PySem.F.called_set.made
 have c2:=PySem.F.called_set.sub
 have c3:=PySem.F.called_set.notType
 have c4:=PySem.F.called_set.canCreate
 have c5:=PySem.F.typeCall_set_0
 refine wpAny_call (codeAny_of_tree (show wpAny _ _ (callAny (.type "set") _) _ _ _ from wpAny_pure ⟨Code.quiet_builtin _ (by decide+kernel),codeAny_builtin PySem.F.entry_type_call ?_⟩))
 rw[PySem.Around.under_plain (weight_type_call_type "set" [] []) rfl]
 repeat (any_goals (first|assumption|wp_step))
 refine codeAny_mono (rJ (P:=P) (E:=E) (rest:=[]) (Q₁:= λobj s₁=>obj= .ref s.heap.objs.size/\s₁={s with heap:=s.heap.push (qN w)}) PySem.F.newCall_set_0 ⟨rfl,rfl⟩) λr s₁ hr=> ?_
 cases r with
 |error e=>exact hr
 |ok fl=>
  cases fl with
  |ret obj=>
   obtain⟨rfl,rfl⟩:=hr;have hS:(s.heap.push (qN w)).get? s.heap.objs.size=some (qN w):=Heap.get?_push_size _ rfl;have hT:Shared.TypeIs {s with heap:=s.heap.push (qN w)} (.ref s.heap.objs.size) "set" :=⟨_,hS,rfl⟩;have c6:=PySem.F.called_set.init.lookup;have c7:=PySem.F.called_set.init.bind (.ref s.heap.objs.size)
   repeat (any_goals (first|assumption|wp_step))
   refine codeAny_call_builtin PySem.F.called_set.init.plain PySem.F.entry_set_init (PySem.check_set_init hT ?_);unfold Builtin.«set.__init__» noKeywords
   wp_walk
   exact h
  |_=>exact hr.elim
end
section
variable {o:Expr}{es:List Expr}{t:TA}{id:String}{r:V->List V->Hp->VK->Prop}
example:Slot "set" "add" "set.add" :=PySem.F.slot_set_add
example:typeOf (.builtin "set.add")=pure (.type "method_descriptor"):=PySem.F.type_set_add
end
theorem zid{a b:Str}(h:(!ltCps b.cps.toList a.cps.toList)=true):a.cps.toList<=b.cps.toList:=by
 rw[ltCps_eq]at h
 simp at h
 exact h
theorem sS: ∀(l:List Str) (p:Str),risingS p l=true-> ∀x∈l,p.cps.toList<=x.cps.toList
 | [],_,_,x,hx=>nomatch hx
 |y::l,p,h,x,hx=>by
  obtain⟨h1,h2⟩:=Bool.and_eq_true_iff.mp h;have q:=zid h1
  rcases List.mem_cons.mp hx with rfl|hx
  . exact q
  . exact List.le_trans q (sS l y h2 x hx)
theorem rO: ∀(l:List Str) (p:Str),risingS p l=true->(p::l).Pairwise λa b=>a.cps.toList<=b.cps.toList
 | [],_,_=> .cons (λ_ z=>nomatch z) .nil
 |y::l,p,h=> .cons (sS _ p h) (rO l y (Bool.and_eq_true_iff.mp h).2)
theorem sorted_pair: ∀(l:List Str),sortedS l=true->l.Pairwise λa b=>a.cps.toList<=b.cps.toList
 | [],_=> .nil
 |p::l,h=>rO l p h
section
variable {κ:Type} [DecidableEq κ]
def gK(bQ:List (κ×V))(k:κ):Option V:=(bQ.find? λkv=>decide (kv.1=k)).map (·.2)
def hX(bQ:List (κ×V))(k:κ)(v:V):List (κ×V):=
 if(bQ.any λkv=>decide (kv.1=k))=true then bQ.map (λkv=>if kv.1=k then(kv.1,v)else kv)else bQ++[(k,v)]
theorem iN{p:κ×V}{r:List (κ×V)}{k:κ}(e:p.1=k):gK (p::r) k=some p.2:=by simp[gK,List.find?_cons,e]
theorem iQ{p:κ×V}{r:List (κ×V)}{k:κ}(e: ¬p.1=k):gK (p::r) k=gK r k:=by simp[gK,List.find?_cons,e]
theorem jP(k:κ): ∀bQ:List (κ×V),(bQ.any λkv=>decide (kv.1=k))=(gK bQ k).isSome
 | []=>rfl
 |p::r=>by
  rw[List.any_cons]
  by_cases e:p.1=k
  . simp only[iN e,decide_eq_true e,Bool.true_or,Option.isSome_some]
  . rw[iQ e,decide_eq_false e,Bool.false_or];exact jP k r
theorem jH(bQ:List (κ×V))(k:κ)(v:V):(hX bQ k v).length<=bQ.length+1:=by
 unfold hX
 split
 . rw[aW];omega
 . rw[List.length_append,List.length_cons,List.length_nil];omega
theorem zgq{bQ:List (κ×V)}{k:κ}(v:V)(h:gK bQ k=none):hX bQ k v=bQ++[(k,v)]:=by
 unfold hX
 rw[jP,h]
 exact if_neg (by decide)
theorem nA.isSome_eq{o:Option V}{u:Option Value}(r:nA o u):o.isSome=u.isSome:=by
 cases o with
 |none=>cases u with
  |none=>rfl
  |some _=>exact(show False from r).elim
 |some _=>cases u with
  |none=>exact(show False from r).elim
  |some _=>rfl
theorem KV.val{bQ:List (κ×V)}{vs:List (κ×Value)}(r:KV bQ vs)(k:κ):nA (gK bQ k) (valueAt vs k):=by
 unfold KV at r
 induction r with
 |nil=>exact True.intro
 | @cons p q ps qs h t ih=>
  obtain⟨h1,h2⟩:=h
  by_cases e:p.1=k
  . have e':q.1=k:=h1.symm.trans e;have b:valueAt (q::qs) k=some q.2:=by simp[valueAt,List.find?_cons,e']
    rw[iN e,b];exact h2
  . have e': ¬q.1=k:= λz=>e (h1.trans z);have b:valueAt (q::qs) k=valueAt qs k:=by simp[valueAt,List.find?_cons,e']
    rw[iQ e,b];exact ih
theorem KV.any{bQ:List (κ×V)}{vs:List (κ×Value)}(r:KV bQ vs)(k:κ):(bQ.any λkv=>decide (kv.1=k))=vs.any λkv=>decide (kv.1=k):=by
 unfold KV at r
 induction r with
 |nil=>rfl
 |cons h t ih=>rw[List.any_cons,List.any_cons,ih,h.1]
theorem KV.repl{bQ:List (κ×V)}{vs:List (κ×Value)}(r:KV bQ vs)(k:κ){y:V}{u:Value}(ry:bT y u):
 KV (bQ.map λkv=>if kv.1=k then(kv.1,y)else kv) (vs.map λkv=>if kv.1=k then(kv.1,u)else kv):=by
 unfold KV at r ⊢
 induction r with
 |nil=>exact .nil
 | @cons p q ps qs h t ih=>
  rw[List.map_cons,List.map_cons];refine .cons ?_ ih;obtain⟨h1,h2⟩:=h
  by_cases e:p.1=k
  . rw[if_pos e,if_pos (h1.symm.trans e)];exact⟨h1,ry⟩
  . rw[if_neg e,if_neg (λz=>e (h1.trans z))];exact⟨h1,h2⟩
theorem KV.put{bQ:List (κ×V)}{vs:List (κ×Value)}(r:KV bQ vs)(k:κ){y:V}{u:Value}(ry:bT y u):KV (hX bQ k y) (stored vs k u):=by
 unfold hX stored
 rw[r.any k]
 by_cases e:(vs.any λkv=>decide (kv.1=k))=true
 . rw[if_pos e,if_pos e];exact r.repl k ry
 . rw[if_neg e,if_neg e];exact Paired.snoc r ⟨rfl,ry⟩
theorem KV.length{bQ:List (κ×V)}{vs:List (κ×Value)}(r:KV bQ vs):bQ.length=vs.length:=Paired.length r
end
theorem rK{P:Program}{w:World}{k:dB}{u:Value}(r:bT (kV k) u):(bN P w).is k u=true:=by
 cases k with
 |inl i=>obtain⟨t,e⟩:=(show ∃t,u=Value.int i t from r);subst e;exact rM P w i t
 |inr x=>obtain⟨t,e⟩:=(show ∃t,u=Value.str x t from r);subst e;exact rF P w x t
theorem wB{P:Program}{w:World}: ∀{ks:List dB} {us:List Value},bP (ks.map kV) us->ItemsAre (bN P w) ks us
 | [],_,r=>by rw[List.map_nil]at r;cases r;exact .nil
 |k::ks,_,r=>by
  rw[List.map_cons]at r;cases r with
  |cons h t=>exact .cons (rK h) (wB t)
abbrev KT(H:Hp):List (List dB×V)->List (List dB×Addr×Value)->Prop:=Paired λp q=>p.1=q.1/\H q.2.1=some (.tup (p.1.map kV))/\bT p.2 q.2.2
theorem KT.val{H:Hp}{bQ:List (List dB×V)}{xs:List (List dB×Addr×Value)}(r:KT H bQ xs)(k:List dB):nA (gK bQ k) ((atKey xs k).map (·.2)):=by
 induction r with
 |nil=>exact True.intro
 | @cons p q ps qs h t ih=>
  obtain⟨h1,_,h2⟩:=h
  by_cases e:p.1=k
  . have e':q.1=k:=h1.symm.trans e;have b:atKey (q::qs) k=some q.2:=by simp[atKey,List.find?_cons,e']
    rw[iN e,b];exact h2
  . have e': ¬q.1=k:= λz=>e (h1.trans z);have b:atKey (q::qs) k=atKey qs k:=by simp[atKey,List.find?_cons,e']
    rw[iQ e,b];exact ih
theorem KT.repl{H:Hp}{bQ:List (List dB×V)}{xs:List (List dB×Addr×Value)}(r:KT H bQ xs)(k:List dB){y:V}{u:Value}(ry:bT y u):
 KT H (bQ.map λkv=>if kv.1=k then(kv.1,y)else kv) (xs.map (putAt k u)):=by
 induction r with
 |nil=>exact .nil
 | @cons p q ps qs h t ih=>
  rw[List.map_cons,List.map_cons];refine .cons ?_ ih;obtain⟨h1,h2,h3⟩:=h;unfold putAt
  by_cases e:p.1=k
  . rw[if_pos e,if_pos (h1.symm.trans e)];exact⟨h1,h2,ry⟩
  . rw[if_neg e,if_neg (λz=>e (h1.trans z))];exact⟨h1,h2,h3⟩
theorem KT.put{H:Hp}{bQ:List (List dB×V)}{xs:List (List dB×Addr×Value)}(r:KT H bQ xs)(k:List dB){b:Addr}{y:V}{u:Value}(hb:H b=some (.tup (k.map kV)))(ry:bT y u):
 KT H (hX bQ k y) (storedH xs k b u):=by
 have e:(bQ.any λkv=>decide (kv.1=k))=(atKey xs k).isSome:=by
  rw[jP,(r.val k).isSome_eq,Option.isSome_map]
 unfold hX storedH
 rw[e]
 by_cases q:(atKey xs k).isSome=true
 . rw[if_pos q,if_pos q];exact r.repl k ry
 . rw[if_neg q,if_neg q];exact Paired.snoc r ⟨rfl,hb,ry⟩
theorem KT.keeps{H H':Hp}{bQ:List (List dB×V)}{xs:List (List dB×Addr×Value)}(r:KT H bQ xs)(ht: ∀b ys,H b=some (.tup ys)->H' b=some (.tup ys)):KT H' bQ xs:=
 Paired.mapP r λ_ _ z=>⟨z.1,ht _ _ z.2.1,z.2.2⟩
section
variable {h:Heap}
theorem zlg{u:HO}(ok:kU P w H h)(e:Rd H a u):dE P w H h a u:=e.ok ok
theorem zbY{bQ:List (dB×V)}(ok:kU P w H h)(e:Rd H a (.dK bQ)):bQ.length<=sizeLine/\(a==sysModules)=false/\ ∃vs,KV bQ vs/\h.DictOf (bN P w) a vs:=
 show dE P w H h a (.dK bQ)from zlg ok e
theorem zgp{bQ:List (dB×V)}(ok:kU P w H h)(e:H a=some (.dK bQ)):bQ.length<=sizeLine/\(a==sysModules)=false/\ ∃vs,KV bQ vs/\h.DictOf (bN P w) a vs:=zbY ok (.inl e)
theorem qF{ks:List dB}(ok:kU P w H h)(e:H a=some (.tup (ks.map kV))):(tupleKind (bN P w)).is h ks a:=by
 obtain⟨_,bC,r,o,h1,h2,n,h3⟩:=(show dE P w H h a (.tup (ks.map kV))from ok a _ e)
 exact⟨o,bC.toArray,n,h1,h2,h3,by simpa using wB r⟩
theorem zcL{bQ:List (List dB×V)}(ok:kU P w H h)(e:Rd H a (.dT bQ)):bQ.length<=sizeLine/\(a==sysModules)=false/\
 ∃xs,KT H bQ xs/\h.DictOfH (tupleKind (bN P w)) a xs:=by
 obtain⟨z,y,xs,r,o,es,ep,h1,h2,h3,h4,h5⟩:=(show dE P w H h a (.dT bQ)from zlg ok e)
 refine⟨z,y,xs,r,o,es,ep,h1,h2,h3,h4,λx hx=> ?_,h5⟩
 have all: ∀{l:List (List dB×V)} {m:List (List dB×Addr×Value)},KT H l m-> ∀x∈m,(tupleKind (bN P w)).is h x.1 x.2.1:=by
  intro l m q
  induction q with
  |nil=>intro x hx;exact nomatch hx
  | @cons p q ps qs hq t ih=>
   intro x hx
   rcases List.mem_cons.mp hx with e|hx
   . subst e;exact qF ok (by rw[<-hq.1];exact hq.2.1)
   . exact ih x hx
 exact all r x hx
theorem zit{bQ:List (List dB×V)}(ok:kU P w H h)(e:H a=some (.dT bQ)):bQ.length<=sizeLine/\(a==sysModules)=false/\
 ∃xs,KT H bQ xs/\h.DictOfH (tupleKind (bN P w)) a xs:=zcL ok (.inl e)
end
def vG(H:Hp)(a:Addr)(y:V)(r:Option V):Prop:=
 (∃bQ k,Rd H a (.dK bQ)/\y=kV k/\r=gK bQ k)\/ ∃bQ k b,Rd H a (.dT bQ)/\y= .ref b/\H b=some (.tup (k.map kV))/\r=gK bQ k
def zaU(H:Hp)(a:Addr)(y v:V)(H':Hp):Prop:=
 (∃bQ k,H a=some (.dK bQ)/\y=kV k/\bQ.length<sizeLine/\H'=aO H a (.dK (hX bQ k v)))\/
 ∃bQ k b,H a=some (.dT bQ)/\y= .ref b/\H b=some (.tup (k.map kV))/\bQ.length<sizeLine/\H'=aO H a (.dT (hX bQ k v))
theorem vG.k{H:Hp}{a:Addr}{bQ:List (dB×V)}{k:dB}(e:H a=some (.dK bQ)):vG H a (kV k) (gK bQ k):= .inl ⟨bQ,k,.inl e,rfl,rfl⟩
theorem vG.t{H:Hp}{a b:Addr}{bQ:List (List dB×V)}{k:List dB}(e:H a=some (.dT bQ))(eb:H b=some (.tup (k.map kV))):vG H a (.ref b) (gK bQ k):= .inr ⟨bQ,k,b,.inl e,rfl,eb,rfl⟩
theorem zaU.k{H:Hp}{a:Addr}{bQ:List (dB×V)}{k:dB}{v:V}(e:H a=some (.dK bQ))(hl:bQ.length<sizeLine):zaU H a (kV k) v (aO H a (.dK (hX bQ k v))):= .inl ⟨bQ,k,e,rfl,hl,rfl⟩
theorem zaU.t{H:Hp}{a b:Addr}{bQ:List (List dB×V)}{k:List dB}{v:V}(e:H a=some (.dT bQ))(eb:H b=some (.tup (k.map kV)))(hl:bQ.length<sizeLine):
 zaU H a (.ref b) v (aO H a (.dT (hX bQ k v))):= .inr ⟨bQ,k,b,e,rfl,eb,hl,rfl⟩
section
variable {v:V}{r:Value}{o:Option V}{E:Value->Shared->Prop}
theorem aX.big(I:aX X aB σ H s):sysModules<s.heap.objs.size:=by
 have h:mainGlobals<s.heap.objs.size:=(I.mod.glob.keeps I.bk).lt
 exact Nat.lt_trans (by decide) h
theorem wW{Q:Value->Shared->Prop}(hu:A.units+1<cLine)(I:aX X aB σ H s)(g:vG H a y (some v))(ry:bT y u)(h: ∀w' s',aX X aB σ H s'->bT v w'->Q w' s'):
 wpAny (model X.prog X.w) A (getItem (.ref a) u) Q E s:=by
 rcases g with⟨bQ,k,e,ey,l⟩|⟨bQ,k,b,e,ey,eb,l⟩
 . subst ey;obtain⟨z,hd,vs,nO,dd⟩:=zbY I.hok e;obtain⟨w',hw,sI⟩:=nA.some_of (v:=v) (o:=valueAt vs k) (by rw[l];exact nO.val k);exact wpAny_getItem_of (rK ry) dd.mapOf hw (h w' _ (I.tok _) sI)
 . subst ey;cases(show u=Value.ref b from ry);obtain⟨z,hd,xs,nO,dd⟩:=zcL I.hok e;obtain⟨w',hw,sI⟩:=nA.some_of (v:=v) (o:=(atKey xs k).map (·.2)) (by rw[l];exact nO.val k);obtain⟨p,hp,hp2⟩:=Option.map_eq_some_iff.mp hw;refine wpAny_getItem_heap (tupleKind_room_in1 hu) (qF I.hok eb) dd hp ?_;rw[hp2];exact h w' _ (I.tok _) sI
theorem zch{Q:Value->Shared->Prop}(hu:A.units+1<cLine)(I:aX X aB σ H s)(g:vG H a y o)(ry:bT y u)(h: ∀s',aX X aB σ H s'->Q (.bool (!o.isSome)) s'):
 wpAny (model X.prog X.w) A (compareOp .NotIn u (.ref a)) Q E s:=by
 rcases g with⟨bQ,k,e,ey,l⟩|⟨bQ,k,b,e,ey,eb,l⟩
 . subst ey;obtain⟨z,hd,vs,nO,dd⟩:=zbY I.hok e;refine wpAny_notIn_of (rK ry) hd dd.mapOf ?_;rw[<-(nO.val k).isSome_eq,<-l];exact h _ (I.tok _)
 . subst ey;cases(show u=Value.ref b from ry);obtain⟨z,hd,xs,nO,dd⟩:=zcL I.hok e;refine wpAny_notIn_heap (tupleKind_room_in1 hu) (qF I.hok eb) hd dd ?_;have q:=(nO.val k).isSome_eq;rw[Option.isSome_map]at q;rw[<-q,<-l];exact h _ (I.tok _)
theorem mQ{h':Heap}{t':Nat}{ob:HO}(I:aX X aB σ H s)(mu:Mut (H a))(hs:Heap.SameBut a s.heap h')(he: ∃q,h'.get? a=some q)(new:dE X.prog X.w (aO H a ob) h' a ob):
 aX X aB σ (aO H a ob) {s with heap:=h',toks:=t'}:=
 I.write (x:=a) (e:=a) mu (.inl rfl) (λb q hb z=>(hs.2 b hb).trans z) he new
theorem zhB{P:Program}{w:World}{H':Hp}{h':Heap}{bQ:List (dB×V)}{vs:List (dB×Value)}(z:bQ.length<=sizeLine)(hd:(a==sysModules)=false)(nO:KV bQ vs)(dd:h'.DictOf (bN P w) a vs):
 dE P w H' h' a (.dK bQ):=⟨z,hd,vs,nO,dd⟩
theorem xI{H':Hp}{Q:Unit->Shared->Prop}(hu:A.units+1<cLine)(I:aX X aB σ H s)(g:zaU H a y v H')(ry:bT y u)(rv:bT v r)(h: ∀s',aX X aB σ H' s'->Q () s'):
 wpAny (model X.prog X.w) A (setItem (.ref a) u r) Q E s:=by
 rcases g with⟨bQ,k,e,ey,l,eH⟩|⟨bQ,k,b,e,ey,eb,l,eH⟩
 . subst ey eH;obtain⟨z,hd,vs,nO,dd⟩:=zgp I.hok e;have hz:vs.length<=sizeLine:=by rw[<-nO.length];exact z
   have hl:(hX bQ k v).length<=sizeLine:=by have:=jH bQ k v;omega
   refine wpAny_setItem_pairs (hsz:=hz) (rK ry) dd λh' dd' hs=>h _ ?_;have he: ∃q,h'.get? a=some q:=let⟨q,_,_,hq,_⟩:=dd';⟨q,hq⟩
   exact mQ I (by rw[e];exact True.intro) hs he (zhB hl hd (nO.put k rv) dd')
 . subst ey eH;cases(show u=Value.ref b from ry);obtain⟨z,hd,xs,nO,dd⟩:=zit I.hok e;have hz:xs.length<=sizeLine:=by rw[<-Paired.length nO];exact z
   have hl:(hX bQ k v).length<=sizeLine:=by have:=jH bQ k v;omega
   refine wpAny_setItem_heap (hsz:=hz) (tupleKind_room_in1 hu) (qF I.hok eb) dd λh' dd' hs=>h _ ?_;obtain⟨q,es,ep,hq,h2,h3,h4,_,h5⟩:=dd';refine mQ I (by rw[e];exact True.intro) hs ⟨q,hq⟩ ⟨hl,hd,_,(nO.put k eb rv).keeps λc ys ec=> ?_,q,es,ep,hq,h2,h3,h4,h5⟩;rw[aG (dO ec e (λz=>nomatch z))];exact ec
end
section
variable {bQ:List (dB×V)}{k:dB}{E:Value->Shared->Prop}
end
def ztp(i:Expr):Prop:= ∀ov iv,subscripted i false ov iv=operate [ov,iv] (getItem ov iv)
theorem zja{prog:Program}{w:World}{A:Around}{E:Value->Shared->Prop}{s:Shared}{env:Env}{value slice:Expr}{pos:Pos}{T id:String}{Q:Value->Shared->Prop}
 (hl:typeLookup (.type T) "__getitem__" =pure (some (.builtin id))) (hs:ztp slice)
 (h:wpAny (model prog w) A (eval value env) (λo s₁=>wpAny (model prog w) A (eval slice env) (λi s₂=>s₂.TypeIs o T/\wpAny (model prog w) A (getItem o i) Q E s₂) E s₁) E s):
 wpAny (model prog w) A (eval (.Subscript value slice pos) env) Q E s:=by
 refine Subscript_ (wpAny_mono h (λo s₁ h₁=>wpAny_mono h₁ (λi s₂ h₂=> ?_) λ_ _ x=>x) λ_ _ x=>x)
 obtain⟨hT,h₂⟩:=h₂
 unfold subscriptTail
 refine wpAny_bind ?_
 rw[getitemInPython_of_ne hT.not_modules]
 refine wpAny_bind (wpAny_specialOf hT hl ?_)
 have fF:wpAny (model prog w) A (subscripted slice false o i) (λr s₃=>wpAny (model prog w) A (letTemporaryGo value o r>>= λ_=>pure r) Q E s₃) E s₂:=by
  rw[hs o i];exact wpAny_operating (wpAny_mono h₂ (λr s₃ h₃=>wpAny_bind (wpAny_letTemporaryGo (wpAny_pure h₃))) λ_ _ x=>x)
 first
  |exact wpAny_pure (wpAny_bind fF)
  |exact wpAny_bind (wpAny_pure (wpAny_bind fF))
  |exact wpAny_bind fF
theorem rL{X:Cx}{aB:List (Addr×Obj)}{σ:St}{H:Hp}{s:Shared}{a:Addr}{y:V}{o:Option V}(I:aX X aB σ H s)(g:vG H a y o):s.TypeIs (.ref a) "dict" :=by
 rcases g with⟨bQ,k,e,_,_⟩|⟨bQ,k,b,e,_,_,_⟩
 . obtain⟨_,_,vs,_,dd⟩:=zbY I.hok e;exact dd.typeIs
 . obtain⟨_,_,xs,_,dd⟩:=zcL I.hok e;exact dd.typeIs
section
variable {o i value:Expr}{sW uI:Pos}{td ty tv:TE}
end
theorem zgS{P:Program}{w:World}{H:Hp}(h:Heap)(hb:sysModules<h.objs.size):dE P w H (h.push {cls:= .type "dict",data:= .dict #[]}) h.objs.size (.dK []):=
 ⟨Nat.zero_le _,beq_eq_false_iff_ne.mpr (Ne.symm (Nat.ne_of_lt hb)),[],.nil,Heap.DictOf.new h⟩
theorem zhH{P:Program}{w:World}{H:Hp}(h:Heap)(hb:sysModules<h.objs.size):dE P w H (h.push {cls:= .type "dict",data:= .dict #[]}) h.objs.size (.dT []):=
 ⟨Nat.zero_le _,beq_eq_false_iff_ne.mpr (Ne.symm (Nat.ne_of_lt hb)),[],.nil,_,#[],0,Heap.get?_push_size _ rfl,⟨rfl,rfl,rfl⟩,rfl,rfl,List.nodup_nil⟩
structure M1(X:Cx)(o:Expr)(m:Str)(xT:Pos)(e:Expr)(kC:Pos):Prop where
 base:attributeBase o m X.env (eval o X.env)=eval o X.env
 few:((backTo kC (starEach [e] X.env)).all (λx=> !x.1)&&(backToKw kC (keywordEach [] X.env)).all (λx=>x.1.isSome)
  &&decide (([e]:List Expr).length+([]:List Keyword).length+(if([]:List Keyword).isEmpty then 0 else 1)<30))=true
 line:(xT.endLine==kC.line)=true
 trees:backTo kC (starEach [e] X.env)=[(false,eval e X.env)]
section
variable {d:V}{r:Value}{o:Option V}{E:Value->Shared->Prop}
end
section
variable {o f:Expr}{td ty tx:TE}
end
section
variable {bQ:List (dB×V)}{E:Value->Shared->Prop}
end
section
variable {E:Value->Shared->Prop}
end
instance keyMem(x:dB)(zs:List dB):Decidable (x∈zs):=decidable_of_iff ((zs.any λy=>decide (y=x))=true) (by simp)
theorem zkf(t:SetTable)(es:Array (Int×Value))(h:Int)(x:Value):(layNew t es h x).2.1.led=t.led:=by
 unfold layNew
 cases t.freeSlot h with
 |some p=>
  show((t.put p.1).1.orStandIn _).led=t.led
  unfold SetTable.orStandIn
  split<;>rfl
 |none=>rfl
theorem zdX(t:SetTable)(es:Array (Int×Value))(n:Nat):(relayAll t es n).2.1.led=t.led:=by
 unfold relayAll
 split
 . rename_i t' order e
   have hf:t'.led=t.led:=by
    unfold SetTable.relaid SetTable.laid at e;obtain⟨_,_,e⟩:=Option.bind_eq_some_iff.mp e;cases e;rfl
   dsimp only
   split
   . exact hf
   . rfl
 . rfl
theorem zhf{k:dB}{u:Value}(r:bT (kV k) u):u.scannable=true:=by
 cases k with
 |inl i=>obtain⟨t,rfl⟩:=r;rfl
 |inr x=>obtain⟨t,rfl⟩:=r;rfl
theorem zdW{zs:List V}{us:List Value}{x:V}{u:Value}(h:bP zs us)(r:bT x u):bP (zs++[x]) (us++[u]):=h.append (.cons r .nil)
section
variable {E:Value->Shared->Prop}
def fQ(P:Program)(w:World)(led:Bool)(h:Heap)(a:Addr)(zs:List dB):Prop:=
 ∃o es ep t,h.get? a=some o/\o.ExactSet/\o.data= .set es ep t/\ElemsOf (bN P w) es.toList/\(∃us:List Value,(es.toList.map (·.2)).Perm us/\bP (zs.map kV) us)/\zs.Nodup
  /\es.size<scanBound/\t.fits es.size=true/\t.led=led/\iV t.place
theorem fQ.mem{zs:List dB}{es:Array (Int×Value)}{us:List Value}(hp:(es.toList.map (·.2)).Perm us)(hs:bP (zs.map kV) us)(x:dB):
 (∃e∈es.toList,(bN P w).is x e.2=true)↔x∈zs:=by
 constructor
 . rintro⟨e,he,hk⟩;obtain⟨n,hn⟩:=List.getElem?_of_mem (hp.mem_iff.mp (List.mem_map_of_mem he));have hl:=hs.length;rw[aW]at hl;have hz:n<zs.length:=by rw[hl];exact(List.getElem?_eq_some_iff.mp hn).1
   obtain⟨u,h1,h2⟩:=hs.get (i:=n) (x:=kV zs[n]) (by rw[List.getElem?_map,List.getElem?_eq_getElem hz];rfl);rw[hn]at h1;cases Option.some.inj h1;rw[(bN P w).inj _ _ _ hk (rK h2)];exact List.getElem_mem hz
 . intro hx;obtain⟨n,hn⟩:=List.getElem?_of_mem hx;obtain⟨u,h1,h2⟩:=hs.get (i:=n) (x:=kV x) (by rw[List.getElem?_map,hn];rfl);obtain⟨e,he,h3⟩:=List.mem_map.mp (hp.mem_iff.mpr (List.mem_of_getElem? h1));exact⟨e,he,by rw[h3];exact rK h2⟩
theorem j7{led:Bool}{a:Addr}{zs:List dB}{x:dB}{u:Value}{Q:Bool->Shared->Prop}(ru:bT (kV x) u)(hS:fQ P w led s.heap a zs)(zoU:zs.length+1<scanBound)
 (h: ∀h',Heap.SameBut a s.heap h'->fQ P w led h' a (if x∈zs then zs else zs++[x])->Q (!decide (x∈zs)) {s with heap:=h',toks:=s.toks+1}):
 wpAny (model P w) A (setAdd a u) Q E s:=by
 obtain⟨o,es,ep,t,ho,vR,hd,hel,⟨us,hp,hs⟩,sE,hb,hf,yK,jK⟩:=hS
 have zfX:(bN P w).is x u=true:=rK ru
 have hsc:=zhf ru
 have hsz:es.size=zs.length:=by
  have e1:=hp.length_eq;rw[aW,Array.length_toList]at e1;rw[e1];have e2:=hs.length;rw[aW]at e2;exact e2.symm
 have hm:=fQ.mem (P:=P) (w:=w) hp hs x
 unfold setAdd
 refine wpAny_holding (wpAny_bind ((bN P w).pyHash zfX ?_))
 unfold setAddHashed setAddHashedIn
 refine wpAny_holding (wpAny_bind (wpAny_setState_of (s:={s with toks:=s.toks+1}) ho hd hf ?_))
 dsimp only
 rw[byScan_of (knd:=bN P w) hsc hb hel,if_pos rfl]
 unfold setAddByScan
 refine wpAny_bind (wpAny_bind (wpAny_rule (wpAny_bind (wpAny_setScan_of (s:={s with toks:=s.toks+1}) zfX ho hd hf hel ?_))))
 cases hr:List.findIdx? (λe=>(bN P w).is x e.2) es.toList with
 |some j=>
  obtain⟨hj,hpj,_⟩:=List.findIdx?_eq_some_iff_getElem.mp hr;have hx:x∈zs:=hm.mp ⟨es.toList[j],List.getElem_mem hj,hpj⟩;have q:=h s.heap (Heap.SameBut.refl a s.heap) (by rw[if_pos hx];exact⟨o,es,ep,t,ho,vR,hd,hel,⟨us,hp,hs⟩,sE,hb,hf,yK,jK⟩);rw[decide_eq_true hx]at q;exact wpAny_pure (wpAny_pure q)
 |none=>
  have hx:x∉zs:= λz=>by
   obtain⟨e,he,hk⟩:=hm.mpr z;have y:=List.findIdx?_eq_none_iff.mp hr e he;rw[hk]at y;cases y
  have hgw: ∀(b:Bool) (s₁:Shared) (Q':Unit->Shared->Prop),Q' () s₁->wpAny (model P w) A (match b with|true=>rule "set.scan.the-table-gave-way" |false=>pure ()) Q' E s₁:= λb s₁ Q' hq=>by
   cases b
   . exact wpAny_pure hq
   . exact wpAny_rule hq
  have l1:=layNew_perm t es ((bN P w).hash x) u;have l2:=layNew_fits t es ((bN P w).hash x) u;have l3:=zkf t es ((bN P w).hash x) u;have l4:=zfE jK es ((bN P w).hash x) u;generalize layNew t es ((bN P w).hash x) u=L at l1 l2 l3 l4 ⊢;obtain⟨mX,t1,zib,zwS⟩:=L;dsimp only at l1 l2 l3 l4 ⊢;rw[Array.toList_push]at l1;have zvX:mX.size=zs.length+1:=by
   rw[<-Array.length_toList,l1.length_eq,List.length_append,Array.length_toList,hsz];rfl
  have hb1:mX.size<scanBound:=by rw[zvX];exact zoU
  have zyc:ElemsOf (bN P w) mX.toList:=(hel.push zfX hsc).perm l1;have fF: ∀(es2:Array (Int×Value)) (t2:SetTable) (o2:Obj) (ep2:Nat) (h2:Heap),es2.toList.Perm mX.toList->t2.fits es2.size=true->t2.led=t.led->iV t2.place->o2.ExactSet->o2.data= .set es2 ep2 t2->h2.get? a=some o2->
   fQ P w led h2 a (if x∈zs then zs else zs++[x]):= λes2 t2 o2 ep2 h2 p2 f2 e1 e2 x2 d2 g2=>by
   rw[if_neg hx];have d7:es2.size=mX.size:=by rw[<-Array.length_toList,p2.length_eq,Array.length_toList]
   refine⟨o2,es2,ep2,t2,g2,x2,d2,zyc.perm p2,⟨us++[u],?_,?_⟩,?_,by omega,f2,e1.trans yK,e2⟩
   . refine((p2.trans l1).map _).trans ?_;rw[List.map_append];exact hp.append_right _
   . rw[List.map_append];exact zdW hs ru
   . exact List.nodup_append.mpr ⟨sE,by simp,λa ha b hb e=>hx (by rw[List.mem_singleton]at hb;rw[<-hb,<-e];exact ha)⟩
  refine wpAny_bind (hgw zwS _ _ ?_);have tail: ∀(g:Bool->Sem Unit) (t2:SetTable) (R:Option Bool->Shared->Prop),(∀(b:Bool) (s₁:Shared) (Q':Unit->Shared->Prop),Q' () s₁->wpAny (model P w) A (g b) Q' E s₁)->iV t2.place->t2.led=t.led->t2.fits mX.size=true->
   (∀h',Heap.SameBut a s.heap h'->fQ P w led h' a (if x∈zs then zs else zs++[x])->R (some true) {s with heap:=h',toks:=s.toks+1})->
   wpAny (model P w) A (do
    storeSet a mX t2
    if(!zib&&t2.tooFull)=true then do
     g (relayAll t2 mX (SetTable.grown mX.size)).2.2
     storeSet a (relayAll t2 mX (SetTable.grown mX.size)).1 (relayAll t2 mX (SetTable.grown mX.size)).2.1
     pure (some true)
     else pure (some true)) R E {s with toks:=s.toks+1}:= λg t2 R hg e2 e1 f2 hR=>by
   have ga: ∀(h0:Heap) (o0:Obj) (es0:Array (Int×Value)) (ep0:Nat) (t0:SetTable) (es':Array (Int×Value)) (t':SetTable),h0.get? a=some o0->o0.data= .set es0 ep0 t0->(h0.update a (Obj.putSet es' t')).get? a=some {o0 with data:= .set es' (ep0+1) t'}:= λh0 o0 es0 ep0 t0 es' t' q1 q2=>by
    have z:=Heap.get?_update_self (Obj.putSet es' t') q1 (by rw[putSet_of es' t' q2];rfl);rw[putSet_of es' t' q2]at z;exact z
   have g1:=ga s.heap o es ep t mX t2 ho hd;refine wpAny_bind (wpAny_storeSet_of (s:={s with toks:=s.toks+1}) ho hd ?_ (fits_of_scanBound hb1))
   split
   . have r1:=relayAll_perm t2 mX (SetTable.grown mX.size);have r2:=relayAll_fits t2 mX (SetTable.grown mX.size);have r3:=zdX t2 mX (SetTable.grown mX.size);have d7:(relayAll t2 mX (SetTable.grown mX.size)).1.size=mX.size:=by rw[<-Array.length_toList,r1.length_eq,Array.length_toList]
     refine wpAny_bind (hg _ _ _ (wpAny_bind (wpAny_storeSet_of (s:={s with heap:=s.heap.update a (Obj.putSet mX t2),toks:=s.toks+1}) g1 rfl ?_ (fits_of_scanBound (by rw[d7];exact hb1)))));have np:=zaX e2 mX (SetTable.grown mX.size);exact wpAny_pure (hR _ ((Heap.SameBut.update s.heap a _).trans (Heap.SameBut.update _ a _)) (fF _ _ {o with data:= .set (relayAll t2 mX (SetTable.grown mX.size)).1 (ep+1+1) (relayAll t2 mX (SetTable.grown mX.size)).2.1} (ep+1+1) _ r1 r2 (r3.trans e1) np vR rfl (ga _ {o with data:= .set mX (ep+1) t2} mX (ep+1) t2 _ _ g1 rfl)))
   . exact wpAny_pure (hR _ (Heap.SameBut.update s.heap a _) (fF mX t2 {o with data:= .set mX (ep+1) t2} (ep+1) _ (.refl _) f2 e1 e2 vR rfl g1))
  have q: ∀h',Heap.SameBut a s.heap h'->fQ P w led h' a (if x∈zs then zs else zs++[x])->wpAny (model P w) A (pure true) Q E {s with heap:=h',toks:=s.toks+1}:= λh' c1 c2=>by
   have q:=h h' c1 c2;rw[decide_eq_false hx]at q;exact wpAny_pure q
  cases hp1:t1.plain
  . rw[if_neg (λz=>nomatch z)];refine wpAny_bind (wpAny_pure ?_);exact tail _ t1 _ hgw l4 l3 l2 q
  . simp only[if_true];rw[hashByValue_scannable 8 hsc];refine wpAny_bind (wpAny_pure ?_);cases plainKind u
    . exact tail _ {t1 with plain:=false} _ hgw l4 l3 (SetTable.fits_plain_off l2) q
    . exact tail _ t1 _ hgw l4 l3 l2 q
end
section
variable {E:Value->Shared->Prop}
theorem i7{h:Heap}{a:Addr}(e:h.get? a=some (qN w)):fQ P w (nJ w) h a []:=by
 refine⟨_,#[],0,_,e,⟨rfl,rfl,rfl⟩,rfl,?_,⟨[],List.Perm.refl _,.nil⟩,List.Pairwise.nil,by decide,rfl,rfl,?_⟩
 . intro _ z;simp at z
 . intro i j h hj;exact absurd hj (Nat.not_lt_zero _)
def gB(l:List dB):List dB:=l.foldl (λσ v=>if v∈σ then σ else σ++[v]) []
theorem i3(l:List dB)(v:dB):gB (l++[v])=if v∈gB l then gB l else gB l++[v]:=by
 unfold gB
 rw[List.foldl_append]
 rfl
theorem wY: ∀(l σ:List dB),(l.foldl (λσ v=>if v∈σ then σ else σ++[v]) σ).length<=σ.length+l.length
 | [],_=>Nat.le_refl _
 |v::l,σ=>by
  rw[List.foldl_cons,List.length_cons];refine Nat.le_trans (wY l _) ?_
  split
  . omega
  . rw[List.length_append,List.length_singleton];omega
theorem zee(l:List dB):(gB l).length<=l.length:=by
 have q:=wY l []
 rw[List.length_nil,Nat.zero_add]at q
 exact q
theorem zbL(l:List dB): ∀(σ:List dB) (x:dB),x∈l.foldl (λσ v=>if v∈σ then σ else σ++[v]) σ↔x∈σ\/x∈l:=by
 induction l with
 |nil=>intro σ x;simp
 |cons v l ih=>
  intro σ x;rw[List.foldl_cons,ih]
  by_cases c:v∈σ
  . rw[if_pos c,List.mem_cons];exact⟨λz=>z.imp id .inr,λz=>z.elim .inl λz=>z.elim (λe=> .inl (e▸c)) .inr⟩
  . rw[if_neg c,List.mem_append,List.mem_singleton,List.mem_cons];exact⟨λz=>z.elim (λz=>z.imp id .inl) λz=> .inr (.inr z),λz=>z.elim (λz=> .inl (.inl z)) λz=>z.elim (λz=> .inl (.inr z)) .inr⟩
theorem xV(l:List dB): ∀(σ:List dB),σ.Nodup->(l.foldl (λσ v=>if v∈σ then σ else σ++[v]) σ).Nodup:=by
 induction l with
 |nil=>intro σ h;exact h
 |cons v l ih=>
  intro σ h;rw[List.foldl_cons];refine ih _ ?_
  by_cases c:v∈σ
  . rw[if_pos c];exact h
  . rw[if_neg c];exact List.nodup_append.mpr ⟨h,List.nodup_cons.mpr ⟨List.not_mem_nil,List.nodup_nil⟩,λa ha b hb e=>c (by rw[<-List.mem_singleton.mp hb,<-e];exact ha)⟩
theorem zhv: ∀{us:List Value} {ys:List dB},bP (ys.map kV) us-> ∀(i:Nat) (v:Value),us[i]?=some v-> ∃y,ys[i]?=some y/\bT (kV y) v:= λ{us ys} r i v e=>by
 have hl:=r.length
 rw[aW]at hl
 have hi:i<ys.length:=by rw[hl];exact(List.getElem?_eq_some_iff.mp e).1
 obtain⟨u,h1,h2⟩:=r.get (i:=i) (x:=kV ys[i]) (by rw[List.getElem?_map,List.getElem?_eq_getElem hi];rfl)
 rw[e]at h1
 cases Option.some.inj h1
 exact⟨_,List.getElem?_eq_getElem hi,h2⟩
theorem fQ.keep{led:Bool}{h h':Heap}{a:Addr}{zs:List dB}(x:fQ P w led h a zs)(k: ∀o,h.get? a=some o->h'.get? a=some o):fQ P w led h' a zs:=by
 obtain⟨o,es,ep,t,e,r⟩:=x
 exact⟨o,es,ep,t,k o e,r⟩
variable {R:Result->Shared->Prop}{fp wr:List Addr}{G:Array GenState->Array GenState->Prop}{n:Nat}{Pv:Nat->Value->Prop}{St:Nat->Shared->Prop}
theorem zeA{led:Bool}(W:WalksS P w A.in1 I fp wr G n Pv St)(S:Addr)(hSf:S∉fp)(ys:List dB)(hn:ys.length=n)(xM: ∀i v,Pv i v-> ∃y,ys[i]?=some y/\bT (kV y) v)(hb:n+1<scanBound):
 ∀(k i:Nat) (s:Shared),n - i=k->i<=n->St i s->fQ P w led s.heap S (gB (ys.take i))->
  (∀s',Moved (S::wr) G s s'->fQ P w led s'.heap S (gB ys)->R (.ok (.ret .none)) s')->
  codeAny (model P w) A (.builtin "set.update.loop" ⟨[.ref S,.ref I],[]⟩) R s:=by
 have hSw:S∉wr:= λz=>hSf (W.sub _ z)
 have up: ∀b∈wr,b∈S::wr:= λb z=> .tail _ z
 intro k
 induction k with
 |zero=>
  intro i s hk hi hst hS hR;obtain rfl:i=n:=by omega
  refine codeAny_builtin F.entry_set_update_loop (by
   rw[PySem.Around.under_plainId F.plain_set_update_loop _];refine(show wpAny _ A.in1 (pyNext (.ref I)>>=_) _ _ s from wpAny_bind (W.done s _ _ hst λs' hm=> ?_));refine(show wpAny _ A.in1 (ret Value.none) _ _ s' from wpAny_pure (hR s' (hm.mono up) ?_));rw[List.take_of_length_le (by omega)]at hS;exact hS.keep λo e=>hm.heap S o hSw e)
 |succ k ih=>
  intro i s hk hi hst hS hR;have eY:i<n:=by omega
  refine codeAny_builtin F.entry_set_update_loop (by
   rw[PySem.Around.under_plainId F.plain_set_update_loop _];refine(show wpAny _ A.in1 (pyNext (.ref I)>>=_) _ _ s from wpAny_bind (W.item i s _ _ eY hst λv s' hP zxY hm=> ?_));obtain⟨y,hy,ry⟩:=xM i v hP;have hS':fQ P w led s'.heap S (gB (ys.take i)):=hS.keep λo e=>hm.heap S o hSw e;refine(show wpAny _ A.in1 (holding [v] (setAdd S v)>>=_) _ _ s' from wpAny_bind (wpAny_holding (j7 ry hS' ?_ λh' hsb hS2=> ?_)))
   . have q:=zee (ys.take i);rw[List.length_take]at q;omega
   have e1:ys.take (i+1)=ys.take i++[y]:=by rw[List.take_succ,hy];rfl
   rw[<-i3,<-e1]at hS2;refine wpAny_pure ⟨plainId_quiet F.plain_set_update_loop _,ih (i+1) _ (by omega) eY (W.frame _ s' _ _ zxY (Nat.le_succ _) λb z o e=> ?_) hS2 λs'' zyd zwM=> ?_⟩
   . exact(hsb.2 b λq:b=S=>hSf (q▸z)).trans e
   . refine hR s'' (Moved.trans W.gtrans ((hm.mono up).then_heap (Nat.le_succ _) λb o z e=> ?_) zyd) zwM;exact(hsb.2 b λq:b=S=>z (by rw[q];exact .head _)).trans e)
set_option maxHeartbeats 8000000 in
theorem zeN{S l:Addr}{items:Array Value}{ys:List dB}{R:Result->Shared->Prop}(hh:A.handled=none)(hS:s.heap.get? S=some (qN w))(hl:s.heap.IsList l items)(hs:bP (ys.map kV) items.toList)(hb:items.size+1<scanBound)
 (h: ∀(h':Heap) (tk:Nat),fQ P w (nJ w) h' S (gB ys)->(∀b o,b≠S->s.heap.get? b=some o->h'.get? b=some o)->R (.ok (.ret .none)) {s with heap:=h',toks:=tk}):
 codeAny (model P w) A (.call (.builtin "set.__init__") ⟨[.ref S,.ref l],[]⟩) R s:=by
 have hT:s.TypeIs (.ref S) "set" :=⟨_,hS,rfl⟩
 refine codeAny_call_builtin PySem.F.called_set.init.plain PySem.F.entry_set_init (check_set_init_1 hT ?_)
 obtain⟨ol,hol,hcl,nl,hdl⟩:=id hl
 have nR:l≠S:= λz=>by
  rw[z,hS]at hol;cases hol;have y:Value.type "set" =Value.type "list" :=hcl;simp at y
 obtain⟨zxx,zyS,zrU,zxj⟩:=ol
 obtain rfl:zxx=_:=hcl
 obtain rfl:zrU=_:=hdl
 have c1:=PySem.F.sub_list_set
 have c2:=PySem.F.sub_list_frozenset
 have c3:(Value.type "list" ==Value.type "dict")=false:=by decide
 unfold Builtin.«set.__init__» noKeywords
 unfold Builtin.Frozenset.updateFrom
 generalize hPI:pyIter=PI
 wp_walk
 subst hPI
 refine wpAny_pyIter_list hl (wpAny_bind (wpAny_runValue ?_))
 have hh3:A.in1.in1.handled=none:=by simp[hh]
 have eY:l<s.heap.objs.size:=Heap.lt_size hol
 have hsl:S<s.heap.objs.size:=Heap.lt_size hS
 refine zeA (led:=nJ w) ((Walks.list hh3 s.heap.objs.size l (Nat.ne_of_lt eY) items).toS) S ?hf ys ?hn (λi v e=>zhv hs i v (by rw[Array.getElem?_toList];exact e)) hb (items.size - 0) 0 _ rfl (Nat.zero_le _) ⟨⟨_,Heap.get?_push_size _ rfl,rfl,rfl⟩,hl.push _⟩ ?hS0 ?hR
 case hf=>
  simp only[List.mem_cons,List.not_mem_nil,or_false,not_or];exact⟨Nat.ne_of_lt hsl,λz=>nR z.symm⟩
 case hn=>
  have q:=hs.length;rw[aW,Array.length_toList]at q;exact q
 case hS0=>exact i7 (Heap.get?_push_of_some _ hS)
 case hR=>
  intro s' hm hS';obtain⟨h',g',d',tk',os'⟩:=s';obtain rfl:g'=s.gens:=hm.gens;obtain rfl:d'=s.drawn:=hm.drawn;obtain rfl:os'=s.os:=hm.os;refine wpAny_pure (show wpAny _ _ (ret Value.none) _ _ _ from wpAny_pure (h h' tk' hS' λb o hbS e=> ?_));refine hm.heap b o (λz=> ?_) (Heap.get?_push_of_some _ e);simp only[List.mem_cons,List.not_mem_nil,or_false]at z
  rcases z with z|z
  . exact hbS z
  . exact absurd (Heap.lt_size e) (by rw[z];exact Nat.lt_irrefl _)
set_option maxHeartbeats 8000000 in
theorem zdv{l:Addr}{items:Array Value}{ys:List dB}{Q:Value->Shared->Prop}(hh:A.handled=none)(hl:s.heap.IsList l items)(hs:bP (ys.map kV) items.toList)(hb:items.size+1<scanBound)
 (h: ∀(h':Heap) (tk:Nat),fQ P w (nJ w) h' s.heap.objs.size (gB ys)->(∀b o,s.heap.get? b=some o->h'.get? b=some o)->Q (.ref s.heap.objs.size) {s with heap:=h',toks:=tk}):
 wpAny (model P w) A (call (.type "set") [.ref l]) Q E s:=by
 obtain⟨c,tl,zyh⟩:=PySem.F.called_set.mro
 have c1:=PySem.F.called_set.made
 have c2:=PySem.F.called_set.sub
 have c3:=PySem.F.called_set.notType
 have c4:=PySem.F.called_set.canCreate
 have c5:=PySem.F.typeCall_set_1 (.ref l)
 refine wpAny_call (codeAny_of_tree (show wpAny _ _ (callAny (.type "set") _) _ _ _ from wpAny_pure ⟨Code.quiet_builtin _ (by decide+kernel),codeAny_builtin PySem.F.entry_type_call ?_⟩))
 rw[PySem.Around.under_plain (weight_type_call_type "set" [.ref l] []) rfl]
 repeat (any_goals (first|assumption|wp_step))
 refine codeAny_mono (rJ (P:=P) (E:=E) (rest:=[.ref l]) (Q₁:= λobj s₁=>obj= .ref s.heap.objs.size/\s₁={s with heap:=s.heap.push (qN w)}) (PySem.F.newCall_set_1 _) ⟨rfl,rfl⟩) λr s₁ hr=> ?_
 cases r with
 |error e=>exact hr
 |ok fl=>
  cases fl with
  |ret obj=>
   obtain⟨rfl,rfl⟩:=hr;have hS:(s.heap.push (qN w)).get? s.heap.objs.size=some (qN w):=Heap.get?_push_size _ rfl;have hT:Shared.TypeIs {s with heap:=s.heap.push (qN w)} (.ref s.heap.objs.size) "set" :=⟨_,hS,rfl⟩;have c6:=PySem.F.called_set.init.lookup;have c7:=PySem.F.called_set.init.bind (.ref s.heap.objs.size)
   repeat (any_goals (first|assumption|wp_step))
   refine zeN (s:={s with heap:=s.heap.push (qN w)}) (by simp[hh]) hS (hl.push _) hs hb λh' tk x k=> ?_;refine wpAny_pure (wpAny_pure (h h' tk x λb o e=>k b o (Nat.ne_of_lt (Heap.lt_size e)) (Heap.get?_push_of_some _ e)))
  |_=>exact hr.elim
end
section
variable {E:Value->Shared->Prop}{i:Nat}{es:Array (Int×Value)}{t:SetTable}{o:Obj}
theorem zal{sl i:Nat}(hw:w.params.followText "set-order" =false)(hd:o.data= .set es ep t)(hf:t.fits es.size=true)(yK:t.led=true)(hn:(!t.plain&&decide (es.size>1))=false):
 Nxt P w o S sl i ep (match es[SetTable.below t.place sl]?,t.place[SetTable.below t.place sl]? with|some (_,x),some j=>some (x,j+1)|_,_=>none):=by
 intro A E s Q ho q
 unfold setNext
 refine wpAny_bind (wpAny_setState_of ho hd hf ?_)
 refine wpAny_bind (show wpAny _ _ (ask>>= λa=>pure (a.params.followText "set-order")) _ _ _ from wpAny_bind (wpAny_askSetting (wpAny_pure ?_)))
 dsimp only
 rw[if_neg (by rw[show(model P w).w.params.followText "set-order" =false from hw];simp)]
 refine(show wpAny _ _ (if(!t.plain&&decide (es.size>1))=true then _ else _) _ _ _ from ?_)
 rw[if_neg (by rw[hn];exact λz=>nomatch z)]
 refine(show wpAny _ _ ((if(!t.led&& !es.isEmpty)=true then unsupported "set:maker-not-led" else pure ())>>=_) _ _ _ from ?_)
 rw[yK,if_neg (by simp)]
 exact wpAny_bind (wpAny_pure (wpAny_pure q))
theorem zfS(hw:w.params.followText "set-order" =false)(hd:o.data= .set es ep t)(hf:t.fits es.size=true)(yK:t.led=true)(hn:(!t.plain&&decide (es.size>1))=false)(hr:iV t.place):
 Led P w o S ep (es.toList.map (·.2)) (λi=>if i=0 then 0 else t.place.getD (i - 1) 0+1):=by
 have hp:t.place.size=es.size:=by
  simp only[SetTable.fits,Bool.and_eq_true,beq_iff_eq,decide_eq_true_eq]at hf;exact hf.1
 have hb: ∀i:Nat,i<=es.size->SetTable.below t.place (if i=0 then 0 else t.place.getD (i - 1) 0+1)=i:= λi hi=>by
  cases i with
  |zero=>exact hr.first
  |succ k=>exact hr.next (i:=k) (by omega)
 refine⟨λi x e=> ?_,?_,rfl⟩
 . rw[List.getElem?_map,Array.getElem?_toList]at e;obtain⟨y,e1,rfl⟩:=Option.map_eq_some_iff.mp e;have hi:i<es.size:=(Array.getElem?_eq_some_iff.mp e1).1;have q:=zal (P:=P) (S:=S) (sl:=if i=0 then 0 else t.place.getD (i - 1) 0+1) (i:=i) hw hd hf yK hn;rw[hb i (by omega),e1,zbZ (by omega:i<t.place.size)]at q;exact q
 . have q:=zal (P:=P) (S:=S) (sl:=if(es.toList.map (·.2)).length=0 then 0 else t.place.getD ((es.toList.map (·.2)).length - 1) 0+1) (i:=(es.toList.map (·.2)).length) hw hd hf yK hn;rw[hb _ (by rw[aW,Array.length_toList];exact Nat.le_refl _),Array.getElem?_eq_none (by rw[aW,Array.length_toList];exact Nat.le_refl _)]at q;exact q
theorem zeI{us us0:List Value}(hp:us.Perm us0): ∀{zs:List Int},IntsAre us0 zs-> ∃vP,IntsAre us vP/\vP.Perm zs:=by
 induction hp with
 |nil=>intro zs h;exact⟨zs,h,.refl _⟩
 |cons x _ ih=>
  intro zs h;cases h with
  |cons n t r=>
   obtain⟨vP,h1,h2⟩:=ih r;exact⟨_,.cons n t h1,h2.cons n⟩
 |swap x y l=>
  intro zs h;cases h with
  |cons n t r=>
   cases r with
   |cons n' t' r'=>exact⟨_,.cons _ _ (.cons _ _ r'),List.Perm.swap ..⟩
 |trans _ _ ih1 ih2=>
  intro zs h;obtain⟨z1,h1,p1⟩:=ih2 h;obtain⟨z2,h2,p2⟩:=ih1 h1;exact⟨z2,h2,p2.trans p1⟩
theorem xX{zs:List dB}{Q:List Value->Shared->Prop}(hh:A.handled=none)(hS:fQ P w (nJ w) s.heap S zs)
 (h: ∀s' us,(∀b o,s.heap.get? b=some o->s'.heap.get? b=some o)->s'.gens=s.gens->s'.os=s.os->s.heap.objs.size<s'.heap.objs.size->(∃us0,us.Perm us0/\bP (zs.map kV) us0)->Q us s'):wpAny (model P w) A (collect (.ref S)) Q E s:=by
 obtain⟨o,es,ep,t,ho,vR,hd,hel,⟨us0,hp,hs⟩,sE,hb,hf,yK,jK⟩:=hS
 have ho0:(s.heap.push {cls:= .type "list",data:= .seq ([]:List Value).toArray}).get? S=some o:=Heap.get?_push_of_some _ ho
 have hl0:(s.heap.push {cls:= .type "list",data:= .seq ([]:List Value).toArray}).get? s.heap.objs.size=some {cls:= .type "list",data:= .seq ([]:List Value).toArray}:=Heap.get?_push_size _ rfl
 have hsz:(s.heap.push {cls:= .type "list",data:= .seq ([]:List Value).toArray}).objs.size=s.heap.objs.size+1:=Heap.size_push _ _
 have hSl:S<s.heap.objs.size:=Heap.lt_size ho
 have dL:es.size<=sizeLine:=fits_of_scanBound hb
 refine d8 ⟨o,ho,vR.1⟩ (zhW ho0 vR hd hf hb (λhq=> ?_) λhq ps d hps=> ?_)
 . have zqb: ∃us sl,Led P w o S ep us sl/\us.Perm (es.toList.map (·.2)):=by
    cases hw:w.params.followText "set-order"
    . have zY:t.led=true:=by rw[yK];simp[hw]
      rw[hw]at hq;exact⟨_,_,zfS hw hd hf zY (by simpa using hq) jK,.refl _⟩
    . exact⟨_,_,zgY hw hd hf,(zdR _ _).map _⟩
   obtain⟨us,sl,L,hpu⟩:=zqb;have hul:us.length<=sizeLine:=by rw[hpu.length_eq,aW,Array.length_toList];exact dL
   refine⟨_,rfl,⟨o,Heap.get?_push_of_some _ ho0,vR.1⟩,Heap.get?_push_of_some _ hl0,λh' c k g=> ?_⟩;refine wM (zhL (I:=(s.heap.push {cls:= .type "list",data:= .seq ([]:List Value).toArray}).objs.size) L (by simp[hh]) hd hf (by rw[hsz];exact Nat.ne_of_lt (Nat.lt_succ_of_lt hSl))) hul ⟨?_,?_⟩ ?_ g λs' c' kk g1 g2 g3=>⟨_,_,rfl,g3,h s' us (λb o' e=> ?_) g1 g2 (Heap.lt_size g3) ⟨us0,hpu.trans hp,hs⟩⟩
   . rw[L.zero];exact k _ _ (by rw[hsz];exact Nat.succ_ne_self _) (Heap.get?_push_size _ rfl)
   . exact k _ _ (Nat.ne_of_lt hSl) (Heap.get?_push_of_some _ ho0)
   . rw[hsz];intro z
     rcases List.mem_cons.mp z with z|z
     . exact absurd z (Nat.ne_of_lt (Nat.lt_succ_self _))
     . exact absurd (List.mem_singleton.mp z) (Nat.ne_of_gt hSl)
   . have hbl:=Heap.lt_size e;exact kk b o' (Nat.ne_of_lt hbl) (by rw[hsz];exact Nat.ne_of_lt (Nat.lt_succ_of_lt hbl)) (k b o' (Nat.ne_of_lt hbl) (Heap.get?_push_of_some _ (Heap.get?_push_of_some _ e)))
 . have zvj:((s.heap.push {cls:= .type "list",data:= .seq ([]:List Value).toArray}).push {cls:= .type "tuple",data:= .seq (ps.map λi:Nat=>rawInt i).toArray}).objs.size=s.heap.objs.size+1+1:=by rw[Heap.size_push,hsz]
   have hpu:(ps.map λp=>(es.toList.map (·.2)).getD p .none).Perm (es.toList.map (·.2)):=by
    have q:=hps.map λp=>(es.toList.map (·.2)).getD p Value.none;rw[show es.size=(es.toList.map (·.2)).length by rw[aW,Array.length_toList],zbo]at q;exact q
   have zqD:(ps.map λp=>(es.toList.map (·.2)).getD p .none).length=ps.length:=aW _;have hul:ps.length<=sizeLine:=by rw[hps.length_eq,List.length_range];exact dL
   refine⟨_,rfl,⟨o,Heap.get?_push_of_some _ (Heap.get?_push_of_some _ ho0),vR.1⟩,Heap.get?_push_of_some _ (Heap.get?_push_of_some _ hl0),λh' c k g=> ?_⟩;have W:=zaC (P:=P) (w:=w) (A:=A.in1) (I:=s.heap.objs.size+1+1) (T:=s.heap.objs.size+1) (n:=0) (by simp[hh]) hd hf hps (Nat.ne_of_lt (Nat.lt_succ_of_lt (Nat.lt_succ_of_lt hSl))) (Nat.ne_of_lt (Nat.lt_succ_self _));rw[<-zqD]at W;rw[hsz]at k ⊢;refine wM W (by rw[zqD];exact hul) ⟨?_,?_,?_⟩ ?_ g λs' c' kk g1 g2 g3=>⟨_,_,rfl,g3,h s' _ (λb o' e=> ?_) g1 g2 (Heap.lt_size g3) ⟨us0,hpu.trans hp,hs⟩⟩
   . exact k _ _ (Nat.ne_of_gt (Nat.lt_succ_of_lt (Nat.lt_succ_self _))) (by have q:=Heap.get?_push_size ((s.heap.push {cls:= .type "list",data:= .seq ([]:List Value).toArray}).push {cls:= .type "tuple",data:= .seq (ps.map λi:Nat=>rawInt i).toArray}) (o:=hU (.ref (s.heap.objs.size+1)) 0 S es.size ep) rfl;rw[zvj]at q;exact q)
   . exact k _ _ (Nat.ne_of_lt hSl) (Heap.get?_push_of_some _ (Heap.get?_push_of_some _ ho0))
   . exact k _ _ (Nat.succ_ne_self _) (Heap.get?_push_of_some _ (by have q:=Heap.get?_push_size (s.heap.push {cls:= .type "list",data:= .seq ([]:List Value).toArray}) (o:={cls:= .type "tuple",data:= .seq (ps.map λi:Nat=>rawInt i).toArray}) rfl;rw[hsz]at q;exact q))
   . intro z
     rcases List.mem_cons.mp z with z|z
     . exact absurd z (Nat.ne_of_lt (Nat.lt_succ_of_lt (Nat.lt_succ_self _)))
     . rcases List.mem_cons.mp z with z|z
       . exact absurd z (Nat.ne_of_gt hSl)
       . exact absurd (List.mem_singleton.mp z) (Nat.ne_of_lt (Nat.lt_succ_self _))
   . have hbl:=Heap.lt_size e;exact kk b o' (Nat.ne_of_lt hbl) (Nat.ne_of_lt (Nat.lt_succ_of_lt (Nat.lt_succ_of_lt hbl))) (k b o' (Nat.ne_of_lt hbl) (Heap.get?_push_of_some _ (Heap.get?_push_of_some _ (Heap.get?_push_of_some _ e))))
theorem zF{zs:List Int}{Q:Value->Shared->Prop}(hh:A.handled=none)(hS:fQ P w (nJ w) s.heap S (zs.map Sum.inl))(h64:zs.length<64)
 (h: ∀s' l vs vP,(∀b o,s.heap.get? b=some o->s'.heap.get? b=some o)->s'.gens=s.gens->s'.os=s.os->s.heap.objs.size<=l->(∃e,s'.heap.get? l=some (seqObj "list" vs e))->IntsAre vs.toList vP->vP.Perm zs->vP.Pairwise (·<=·)->Q (.ref l) s'):
 wpAny (model P w) A (call (.builtin "sorted") [.ref S]) Q E s:=by
 refine Calls.call_function_entry kind_sorted plain_sorted entry_sorted (args_sorted1 _) ?_
 unfold Builtin.«sorted»
 refine wpAny_bind (m:=checkCount "sorted" 1 1 _) (wpAny_pure ?_)
 refine wpAny_bind (xX (by simp[hh]) hS λs1 us k1 g1 o1 z1 ⟨us0,hpu,hv⟩=> ?_)
 rw[List.map_map]at hv
 have hl0:=hv.length
 rw[aW]at hl0
 have hz:us.length=zs.length:=by rw[hpu.length_eq];exact hl0.symm
 obtain⟨zs1,hs1,hp1⟩:=zeI hpu (tD hv)
 refine wpAny_bind (wpAny_newList ?_ (by rw[hz];have:=oO;have:(64:Nat)<=sizeLine:=(by rw[sizeLine_eq];decide);omega))
 have hoL:(s1.heap.push (seqObj "list" us.toArray 0)).get? s1.heap.objs.size=some (seqObj "list" us.toArray 0):=Heap.get?_push_size _ rfl
 refine wpAny_bind (wpAny_holding (wpAny_call_entry slot_list_sort ⟨_,hoL,rfl⟩ entry_list_sort (list_sort_tree hoL hs1 (by rw[hz];exact h64) λout ns' b1 b2 b3=>⟨_,rfl,?_⟩) (args_list_sort _)))
 refine wpAny_pure ⟨_,rfl,h _ _ _ ns' (λb o e=> ?_) g1 o1 ?_ (sortedHeap_at hoL) b1 (b2.trans hp1) b3⟩
 . have e1:=k1 b o e;have hb:=Heap.lt_size e1;rw[sortedHeap_old (Nat.ne_of_lt hb) (by rw[Heap.size_push];exact Nat.lt_succ_of_lt hb)];exact Heap.get?_push_of_some _ e1
 . exact Nat.le_of_lt z1
end
abbrev zBK(vF:List Expr)(env:Env):Sem Bool:=forIn vF true λc r=>if r=true then do let ok<-isTrue c env (eval c env);pure (ForInStep.yield ok)else pure (ForInStep.yield r)
section
variable {prog:Program}{R:Result->Shared->Prop}
end
section
variable {prog:Program}{E:Value->Shared->Prop}
end
theorem zac: ∀bs:List Bool,(List.range bs.length).all (λi=>bs.getD i true)=bs.all id
 | []=>rfl
 |b::r=>by
  rw[List.length_cons,List.range_succ_eq_map,List.all_cons,List.all_map,List.all_cons];have ih:=zac r;have e:((λi=>(b::r).getD i true) ∘ Nat.succ)= λi=>r.getD i true:=by
   funext i
   simp
  rw[e,ih];rfl
theorem zed(hc:X.calm=true):fJ X (.builtin "all") (λxs H Q=> ∃(p:Addr) (bs:List Bool),xs=[.ref p]/\bB X.K H p (bs.map V.bl)/\Q (.bl (bs.all id)) H):=by
 intro aB s σ H xs us Q I r h
 obtain⟨p,bs,rfl,hq,q⟩:=h
 obtain⟨u,rfl,ru⟩:=r.one
 cases ru
 obtain⟨bC,rv,pl,hz⟩:=I.list hq
 have hp:p<s.heap.objs.size:=by
  obtain⟨o,ho,_⟩:=pl.isList;exact Heap.lt_size ho
 have dL:bC.toArray.size=bs.length:=by rw[List.size_toArray,<-rv.length,aW]
 refine call_all_walk (wpAny_pyIter_list pl.isList ⟨s.heap.objs.size,_,_,bC.toArray.size,_,_,λi=>bs.getD i true,rfl,Walks.list (show X.A.in1.handled=none from I.ok.hd hc) _ p (Nat.ne_of_lt hp) bC.toArray,⟨⟨_,Heap.get?_push_size _ rfl,rfl,rfl⟩,pl.isList.push _⟩,?_,?_⟩)
 . intro i v s' Q' E' hP hQ';have hv:bC[i]?=some v:=by simpa using hP
   have hi:i<bC.length:=(List.getElem?_eq_some_iff.mp hv).1;have hi2:i<bs.length:=by rw[<-dL];simpa using hi
   obtain⟨u,hu,ru⟩:=rv.get (i:=i) (x:=V.bl bs[i]) (by rw[List.getElem?_map,List.getElem?_eq_getElem hi2];rfl);rw[hv]at hu;cases hu;have e:v=Value.bool bs[i]:=ru;subst e;refine wpAny_truthy_bool ?_;have e2:bs.getD i true=bs[i]:=by rw[List.getD_eq_getElem?_getD,List.getElem?_eq_getElem hi2];rfl
   have hQ2:Q' (bs.getD i true) s':=hQ';rw[e2]at hQ2;exact hQ2
 . intro h' tk hk;have I1:aX X aB σ H {s with heap:=h',toks:=tk}:=I.kept λb o e=>hk b o (λz=>by
    have z':b=s.heap.objs.size:=by simpa using z
    exact absurd (Heap.lt_size e) (by rw[z'];exact Nat.lt_irrefl _)) (Heap.get?_push_of_some _ e)
   have e:(List.range bC.toArray.size).all (λi=>bs.getD i true)=bs.all id:=by
    rw[dL];exact zac bs
   exact⟨.bl (bs.all id),H,I1,by rw[e];rfl,q⟩
theorem xR{z:Str}{zs:List Str}:(Sum.inr z:dB)∈zs.map Sum.inr↔z∈zs:=by simp
theorem zkm{z:Str}{zs:List Str}:(if(Sum.inr z:dB)∈zs.map Sum.inr then zs.map Sum.inr else zs.map Sum.inr++[Sum.inr z])=(if z∈zs then zs else zs++[z]).map (Sum.inr:Str->dB):=by
 by_cases c:z∈zs
 . rw[if_pos (xR.mpr c),if_pos c]
 . rw[if_neg (λq=>c (xR.mp q)),if_neg c,List.map_append];rfl
theorem zeO(ys:List Int): ∃zs:List Int,gB (ys.map Sum.inl)=zs.map Sum.inl/\zs.Nodup/\ ∀x,x∈zs↔x∈ys:=by
 have hm:=zbL (ys.map (Sum.inl:Int->dB)) []
 have hn:=xV (ys.map (Sum.inl:Int->dB)) [] List.nodup_nil
 have all: ∀l:List dB,(∀k∈l,∃i,k=Sum.inl i)-> ∃zs:List Int,l=zs.map Sum.inl:=by
  intro l
  induction l with
  |nil=>exact λ_=>⟨[],rfl⟩
  |cons k l ih=>
   intro h;obtain⟨i,rfl⟩:=h k List.mem_cons_self;obtain⟨zs,rfl⟩:=ih λk hk=>h k (List.mem_cons_of_mem _ hk);exact⟨i::zs,rfl⟩
 obtain⟨zs,e⟩:=all (gB (ys.map Sum.inl)) λk hk=>by
  rcases(hm k).mp hk with z|z
  . cases z
  . obtain⟨i,_,rfl⟩:=List.mem_map.mp z;exact⟨i,rfl⟩
 refine⟨zs,e,?_,λx=> ?_⟩
 . have q:(zs.map (Sum.inl:Int->dB)).Nodup:=by rw[<-e];exact hn
   exact(List.pairwise_map.mp q).imp λh z=>h (by rw[z])
 . have q:=hm (Sum.inl x);rw[show(ys.map (Sum.inl:Int->dB)).foldl (λσ v=>if v∈σ then σ else σ++[v]) []=gB (ys.map Sum.inl)from rfl,e]at q;simpa using q
def zaY(P:Program)(w:World)(a:Addr)(zs:List Str):HO:= .ext λh=>fQ P w (nJ w) h a (zs.map Sum.inr)
def znS(P:Program)(w:World)(a:Addr)(zs:List Int):HO:= .ext λh=>fQ P w (nJ w) h a (zs.map Sum.inl)
theorem fQ.at_{P:Program}{w:World}{b:Bool}{h:Heap}{a:Addr}{zs:List dB}(x:fQ P w b h a zs): ∃o,h.get? a=some o:=let⟨o,_,_,_,e,_⟩:=x;⟨o,e⟩
theorem zcU{P:Program}{w:World}{H:Hp}{h:Heap}{a:Addr}{zs:List Str}(x:fQ P w (nJ w) h a (zs.map Sum.inr)):dE P w H h a (zaY P w a zs):=⟨x,x.at_,λ_ _ y k=>y.keep λo e=>k o e⟩
theorem ziK{P:Program}{w:World}{H:Hp}{h:Heap}{a:Addr}{zs:List Int}(x:fQ P w (nJ w) h a (zs.map Sum.inl)):dE P w H h a (znS P w a zs):=⟨x,x.at_,λ_ _ y k=>y.keep λo e=>k o e⟩
theorem zhT{ys:List Int}{us:List Value}(h:bP (ys.map V.int) us):bP ((ys.map (Sum.inl:Int->dB)).map kV) us:=by rw[List.map_map];exact h
theorem zaF(hc:X.calm=true):fJ X (.type "set") (λxs H Q=> ∃(p:Addr) (ys:List Int),xs=[.ref p]/\bB X.K H p (ys.map V.int)/\ys.length<1000/\ ∀(l:Addr) (zs:List Int),H l=none->zs.Nodup->(∀x,x∈zs↔x∈ys)->Q (.ref l) (aO H l (znS X.prog X.w l zs))):=by
 intro aB s σ H xs us Q I r h
 obtain⟨p,ys,rfl,hq,hz,q⟩:=h
 obtain⟨u,rfl,rx⟩:=mC r
 cases rx
 obtain⟨bC,r',pl,j6⟩:=I.list hq
 have dL:=r'.length
 rw[aW]at dL
 refine zdv (P:=X.prog) (w:=X.w) ?hh pl.isList (zhT r') (by rw[List.size_toArray,<-dL];unfold scanBound;omega) λh' tk x k=> ?_
 case hh=>exact I.ok.hd hc
 obtain⟨zs,e1,e2,e3⟩:=zeO ys
 exact⟨.ref s.heap.objs.size,_,I.laid (t':=tk) k (Nat.le_refl _) (ziK (by rw[<-e1];exact x)),rfl,q _ zs I.fresh e2 e3⟩
theorem yR(hc:X.calm=true):fJ X (.builtin "sorted") (λxs H Q=> ∃(p:Addr) (zs:List Int),xs=[.ref p]/\H p=some (znS X.prog X.w p zs)/\zs.length<64/\ ∀(l:Addr) (vP:List Int),H l=none->vP.Perm zs->vP.Pairwise (·<=·)->Q (.ref l) (aO H l (.lst (vP.map V.int)))):=by
 intro aB s σ H xs us Q I r h
 obtain⟨p,zs,rfl,hq,hz,q⟩:=h
 obtain⟨u,rfl,rx⟩:=mC r
 cases rx
 have hS:fQ X.prog X.w (nJ X.w) s.heap p (zs.map Sum.inl):=(I.hok p _ hq).1
 refine zF ?hh hS hz λs' l vs vP k g o hl ⟨e,he⟩ a1 a2 a3=> ?_
 case hh=>exact I.ok.hd hc
 have d7:(vP.map V.int).length<=sizeLine:=by
  have q:(64:Nat)<=sizeLine:=by rw[sizeLine_eq];decide
  rw[aW,a2.length_eq];omega
 have J:aX X aB σ (aO H l (.lst (vP.map V.int))) s':=
  I.call' (ch:=[]) o (Un.laid k hl (I.hok.fresh hl)) (I.hok.laid k hl (show dE X.prog X.w _ _ _ (.lst (vP.map V.int))from⟨d7,vs.toList,e,pY a1,he⟩)) (by rw[g];exact I.bare) (λ_ z=>nomatch z)
 exact⟨.ref l,_,J,rfl,q _ _ (I.hok.fresh hl) a2 a3⟩
theorem zbk:fJ X (.type "set") (λxs H Q=>xs=[]/\ ∀l,H l=none->Q (.ref l) (aO H l (zaY X.prog X.w l []))):=by
 intro aB s σ H xs us Q I r h
 obtain⟨rfl,q⟩:=h
 cases r
 refine zeC ?_
 exact⟨.ref s.heap.objs.size,_,I.laid (t':=s.toks) (λb o e=>Heap.get?_push_of_some _ e) (Nat.le_refl _) (zcU (i7 (Heap.get?_push_size _ rfl))),rfl,q _ I.fresh⟩
theorem fQ.setOf{P:Program}{w:World}{b:Bool}{h:Heap}{a:Addr}{zs:List dB}(x:fQ P w b h a zs):h.SetOf (bN P w) a (λk=>decide (k∈zs)) zs.length:=by
 obtain⟨o,es,ep,t,ho,vR,hd,hel,⟨us,hp,hs⟩,sE,hb,hf,_,_⟩:=x
 have hsz:es.size=zs.length:=by
  have e1:=hp.length_eq;rw[aW,Array.length_toList]at e1;have e2:=hs.length;rw[aW]at e2;omega
 refine⟨o,es,ep,t,ho,vR,hd,hel,λk=> ?_,hb,hf,hsz⟩
 rw[fQ.mem (P:=P) (w:=w) hp hs k]
 exact decide_eq_true_iff
theorem zax:oS X (compareOp .In) (λx y H Q=> ∃z p zs,x= .str z/\y= .ref p/\H p=some (zaY X.prog X.w p zs)/\Q (.bl (decide (z∈zs))) H):=by
 intro aB s σ H x y v u Q I rx ry h
 obtain⟨z,p,zs,rfl,rfl,hH,q⟩:=h
 obtain⟨t,rfl⟩:=rx
 cases ry
 have hS:fQ X.prog X.w (nJ X.w) s.heap p (zs.map Sum.inr):=(I.hok p _ hH).1
 exact wpAny_inSet_of (rF X.prog X.w z t) rfl hS.setOf ⟨.bl _,H,I.tok _,rfl,by rw[decide_eq_decide.mpr (xR (z:=z) (zs:=zs))];exact q⟩
theorem zjH:MtM X "set.add" (λx vs H Q=> ∃p z zs,x= .ref p/\vs=[.str z]/\H p=some (zaY X.prog X.w p zs)/\zs.length<1000/\Q .non (aO H p (zaY X.prog X.w p (if z∈zs then zs else zs++[z])))):=by
 intro aB s σ H x vs v us Q I rx rv h
 obtain⟨p,z,zs,rfl,rfl,hH,hz,q⟩:=h
 cases rx
 obtain⟨u,rfl,t,rfl⟩:=rv.one
 have hS:fQ X.prog X.w (nJ X.w) s.heap p (zs.map Sum.inr):=(I.hok p _ hH).1
 refine wpAny_call_entry PySem.F.slot_set_add hS.setOf.typeIs PySem.F.entry_set_add ?_ (PySem.F.args_set_add_2 _ _)
 refine(show wpAny _ _ (setAdd p (.str z t)>>= λ_=>ret .none) _ _ _ from wpAny_bind (j7 (x:=Sum.inr z) (u:= .str z t) ⟨t,rfl⟩ hS (by rw[aW];unfold scanBound;omega) λh' hb x=>wpAny_pure ⟨_,rfl,?_⟩))
 refine⟨.non,_,I.write (t':=s.toks+1) (by rw[hH];exact trivial) (.inl rfl) (λb o' vQ e=>(hb.2 b vQ).trans e) x.at_ (zcU (by rw[<-zkm];exact x)),rfl,q⟩
section
variable {o:Expr}{es:List Expr}{t:TA}{id:String}{r:V->List V->Hp->VK->Prop}
def zvN(P:Program)(w:World)(r:V->List V->Hp->VK->Prop)(to:TE)(t:TA):TE:= λσ H Q=>to σ H λx H1=>(∃p zs,x= .ref p/\H1 p=some (zaY P w p zs))/\t σ H1 λxs H2=>r x xs H2 Q
theorem zoa(slot:Slot "set" name id)(hty:typeOf (.builtin id)=pure (.type "method_descriptor"))(hm:MtM X id r)(ho:PE X o to)(ha:PA X (e::es) t)
 (zgF:attributeBase o name X.env (eval o X.env)=eval o X.env:=by rfl)
 (znO:((backTo kC (starEach (e::es) X.env)).all (λx=> !x.1)&&(backToKw kC (keywordEach [] X.env)).all (λx=>x.1.isSome)&&decide ((e::es).length+([]:List Keyword).length+(if([]:List Keyword).isEmpty then 0 else 1)<30))=true:=by rfl)
 (zfW:(xT.endLine==kC.line)=true:=by rfl) (hs:starEach (e::es) X.env=(false,eval e X.env)::starEach es X.env:=by rfl) (zbb:(backTo kC (starEach es X.env)).any (·.1)=false:=by rfl):
 PE X (.Call (.Attribute o name xT) (e::es) [] kC) (zvN X.prog X.w r to t):=by
 intro aB s σ H Q I h
 refine wpAny_Call_method_late zgF znO zfW rfl (dP (ho aB s σ H _ I h) λv s1 ⟨x,H1,I1,r1,⟨p,zs,ep,hH⟩,q1⟩=> ?_)
 subst ep
 cases r1
 have hS:fQ X.prog X.w (nJ X.w) s1.heap p (zs.map Sum.inr):=(I1.hok p _ hH).1
 refine⟨"set",id,PySem.F.plainAttrs_set,slot,hty,hS.setOf.typeIs,hS.setOf.noDict,?_⟩
 have hA:=ha kC aB s1 σ H1 _ I1 q1
 rw[hs]at hA ⊢
 refine Calls.callWith_builtin (by show(false||(backTo kC (starEach es X.env)).any (·.1))=false;rw[zbb]<;>rfl) (Calls.evalArgs_plain (dP hA λus s2 ⟨vs,H2,I2,r2,q2⟩=>hm aB s2 σ H2 (.ref p) vs _ us Q I2 rfl r2 q2))
end
section
variable {M:Model}{E:Value->Shared->Prop}{L:Addr}{oe:Obj}{vs:Array Value}
end
section
variable {K:W.Frag}{mg:Str->Option Value}{N:List Str}{bK:Str}{scope:Scope}{f:Addr}{cd:Value}{s0:Shared}{H0:Hp}{E:XK}
end
section
variable {M:Model}{E:Value->Shared->Prop}
variable {nm q:Str}{N:Addr}{bs bm:List Value}{zwI:Bool}{sn:List Str}{sub:List Value}{ab:Bool}{col:Option Bool}{dd:Option Addr}{k0 k1 k2 k3 k5:Option Value}{zyy:String}
end
section
variable {M:Addr}
end
section
variable {K:W.Frag}{mg:Str->Option Value}
end
section
variable {M:Model}{E:Value->Shared->Prop}{L:Addr}{oe:Obj}{vs:Array Value}
end
section
variable {fs:List (Str×V)}{A':Around}{E':Value->Shared->Prop}
end
section
variable {M:Addr}{RX:Addr->List (Str×V)->Hp->Prop}
end
section
variable {M:Addr}
end
def tO(H:Hp)(a:Addr)(xs:List V):Prop:= ∃o:Obj,H a=some (.frz o (.tup xs))/\o.dict=none/\o.cls= .type "tuple"
theorem tO.same{H H':Hp}{a:Addr}{xs:List V}(h:tO H a xs)(k: ∀b o,H b=some o->H' b=some o):tO H' a xs:=let⟨o,e,r⟩:=h;⟨o,k _ _ e,r⟩
theorem tO.sq{K:W.Frag}{H:Hp}{a:Addr}{xs:List V}(h:tO H a xs):eS K H a xs:=let⟨o,e,_⟩:=h;.inl (.inr ⟨o,e⟩)
section
theorem u9:fJ X (.type "tuple") (λxs H Q=> ∃p ys,xs=[.ref p]/\bB X.K H p ys/\ ∀(l:Addr) (o:Obj),H l=none->o.dict=none->o.cls= .type "tuple" ->Q (.ref l) (aO H l (.frz o (.tup ys)))):=by
 intro aB s σ H xs us Q I r h
 obtain⟨p,ys,rfl,hq,q⟩:=h
 obtain⟨u,rfl,rx⟩:=mC r
 cases rx
 obtain⟨bC,r',pl,hz⟩:=I.list hq
 have dL:=r'.length
 refine call_tuple_list pl.isList (λh' kp=> ?_) (by simp only[List.size_toArray]<;>omega)
 have I1:aX X aB σ H {s with heap:=h'}:=I.kept (t':=s.toks) kp
 have I2:aX X aB σ (aO H h'.objs.size (.frz {cls:= .type "tuple",data:= .seq bC.toArray} (.tup ys))) {s with heap:=h'.push {cls:= .type "tuple",data:= .seq bC.toArray}}:=
  I1.laid (t':=s.toks) (λb o e=>Heap.get?_push_of_some _ e) (Nat.le_refl _) (show dE X.prog X.w _ _ _ (.frz _ (.tup ys))from⟨Heap.get?_push_size _ rfl,hz,bC,r',IsTup.new _ _⟩)
 exact⟨.ref h'.objs.size,_,I2,rfl,q _ _ (I1.hok.fresh (Nat.le_refl _)) rfl rfl⟩
variable {o:Expr}{es:List Expr}{t:TA}{id:String}{r:V->List V->Hp->VK->Prop}
end
theorem zeq{h:Heap}{a:Addr}{m:Str->Option Value}{o:Obj}(n:h.Ns a m)(e:h.get? a=some o)(v:Option Value)(ev:o.data= .cell v):False:=by
 obtain⟨o',es,ep,ho,r⟩:=n
 rw[e]at ho
 cases ho
 have hd:=r.1
 rw[ev]at hd
 cases hd
theorem kN{i:Nat}{y:Str}{py zrX:Pos}{wG tg gD:Expr}{vF:List Expr}{scope:Scope}{own fr:List Str}{idx:List Nat}{wi:TI}{g:TG}{tc:TT}{te:TE}{pos:Pos}(hN:X.N.Nodup)(hiy:X.N[i]?=some y)(hly:Loc X.env.scope y)(hc:X.calm=true)(S:aP own fr scope X.env.scope)
 (hi:PI X tg gD wi) (hg: ∀C s H aB fp,PG (gN X scope C (own++fr) s H aB fp) tg g) (ht: ∀C s H aB fp,PTs (gN X scope C (own++fr) s H aB fp) vF tc) (he: ∀C s H aB fp,PE (gN X scope C (own++fr) s H aB fp) wG te)
 (hix:idx.length=fr.length:=by rfl) (hat: ∀(k:Nat) (x:Str) (j:Nat),fr[k]?=some x->idx[k]?=some j->X.N[j]?=some x)
 (hs: ∀x,foldedSetIterable gD X.env x=pure x:=by intro _;rfl) (hf:X.fn y=true\/X.env.scope.names.lookup y=some .local:=by first|exact .inl rfl|exact .inr rfl)
 (hsw:swapsWith (.ListComp wG [⟨tg,gD,vF,0⟩] scope pos) (some (.Name y py)) zrX.line X.env=pure true:=by rfl):PS X (.Assign [.Name y py] (.ListComp wG [⟨tg,gD,vF,0⟩] scope pos) zrX) (zjb (iR wi own.length idx g tc te) (bA i)):=by
 intro aB s σ H Dn I h
 rw[exec_Assign_Name_used _ _ _ _ hsw]
 refine wpAny_bind (wpAny_standAt (wpAny_bind ?_))
 show wpAny _ X.A (do let _<-comprehension (.ListComp wG [⟨tg,gD,vF,0⟩] scope pos) scope X.env _ (newList []) false (eval gD X.env) (some (assign (.Name y py) X.env))) _ _ s
 have zW:closureFor scope X.env=pure (dC X.env scope.names []):=xU λx hx gF=>I.ok.has x.1 (S.outs x hx gF)
 refine wpAny_bind (wpAny_mono (wpAny_comprehension_free (use:=some (assign (.Name y py) X.env)) (Q:= λ_ s'=>SP X aB Dn .next s') rfl hs zW S.kind S.names (dP (hi aB s σ H _ I h) λv s1 h1=>dP h1 λitv s2 h2=> ?_)) (λ_ s' hq=>wpAny_pure (wpAny_pure hq)) λ_ _ e=>e)
 obtain⟨it,fp,tn,J,H2,e,I2,T,st2,f2,h2⟩:=h2
 subst e
 refine wpAny_newObj_type ?_
 obtain⟨W,⟨m0,w0⟩,qE⟩:=h2 s2.heap.objs.size I2.fresh
 have I3:aX X aB σ (aO H2 s2.heap.objs.size (.lst [])) {s2 with heap:=s2.heap.push {cls:= .type "list",data:= .seq ([]:List Value).toArray},toks:=s2.toks}:=I2.lnew .nil (Nat.zero_le _)
 have fpl: ∀b∈fp,b<s2.heap.objs.size:= λb hb=>by
  obtain⟨o,e,_⟩:=T.obj _ _ st2 b hb;exact Heap.lt_size e
 have f3: ∀b∈fp,iF X aB (aO H2 s2.heap.objs.size (.lst [])) b:= λb hb=>⟨by rw[aG (Nat.ne_of_lt (fpl b hb))];exact(f2 b hb).1,(f2 b hb).2⟩
 generalize hs3:({s2 with heap:=s2.heap.push {cls:= .type "list",data:= .seq ([]:List Value).toArray},toks:=s2.toks}:Shared)=s3 at I3
 have hsz:s3.heap.objs.size=s2.heap.objs.size+1:=by rw[<-hs3];exact Heap.size_push _ _
 have st3:tn 0 s3.heap:=T.keep _ _ _ st2 λb hb o e=>by rw[<-hs3];exact Heap.get?_push_of_some _ e
 refine wpAny_newFunctionEnv S.nocell (by intro y hy;simp at hy) (λh4 hn4 zmG=> ?_) S.kind
 have hk4: ∀b o,s3.heap.get? b=some o->h4.get? b=some o:= λb o e=>zmG.extBut b o (Nat.ne_of_lt (Heap.lt_size e)) (Heap.get?_push_of_some _ e)
 have I4:=uM (idx:=idx) (tk:=s3.toks+([]:List (Str×Value)).length) S hix hat I3 f3 (λb hb=>by rw[hsz];exact Nat.lt_succ_of_lt (fpl b hb)) hn4 hk4
 have fpC: ∀{H':Hp} (pl:List (Addr×Obj)),(∀p∈pl,∀b∈fp,p.1≠b)->(∀b∈fp,H' b=none)-> ∀b∈fp,iF (gN X scope s3.heap.objs.size (own++fr) s3 (aO H2 s2.heap.objs.size (.lst [])) aB fp) pl H' b:= λ{H'} pl jK hn b hb=>by
  obtain⟨g0,g1,g2,g3,g4,g5⟩:=f3 b hb;refine⟨hn b hb,?_,λz=> ?_,.inl hb,λx c e=>g4 x c ((fU _ _ x c e).elim id λz=>nomatch z),λp hp=> ?_⟩
  . show b≠s3.heap.objs.size
    exact Nat.ne_of_lt (by rw[hsz];exact Nat.lt_succ_of_lt (fpl b hb))
  . rcases List.mem_cons.mp (I3.stkSub b z)with q|q
    . exact g1 q
    . exact g2 q
  . rcases List.mem_append.mp hp with q|q
    . exact g5 p q
    . exact jK p q b hb
 have tZ:codeAny (model X.prog X.w) X.A (.compLoop (.ListComp wG [⟨tg,gD,vF,0⟩] scope pos) 0 (.ref it) (.ref s2.heap.objs.size) (compEnvC scope (dC X.env scope.names []) s3.heap.objs.size X.env))
  (compPost (model X.prog X.w) X.A X.xe (some (assign (.Name y py) X.env)) (λ_ s'=>SP X aB Dn .next s') (.ref s2.heap.objs.size) s3.heap.objs.size) {s3 with heap:=h4,toks:=s3.toks+([]:List (Str×Value)).length}:=by
  refine qT (Y:=gN X scope s3.heap.objs.size (own++fr) s3 (aO H2 s2.heap.objs.size (.lst [])) aB fp) (W:=W) (m0:=m0) hc (hg _ _ _ _ _) (ht _ _ _ _ _) (he _ _ _ _ _) (λ_ _ z=>z) T (λhn=>fpC [] (λ_ z=>nomatch z) hn) qE (λs6 σ5 H5 I6 q=> ?_) ⟨0,[],_,_,I4,T.keep _ _ _ st3 λb _ o e=>hk4 b o e,λb hb=>(f3 b hb).1,aF,w0⟩;obtain⟨m6,hn6,_⟩:=id I6.loc;have zmh:s6.heap.Ns s3.heap.objs.size m6:=hn6;obtain⟨oC,es,ep,hoC,zyG⟩:=id zmh;have I7:aX X aB σ H5 s6:=wZ (h':=s6.heap) I3 f3 I6 (Heap.SameBut.refl ..);have gF:H5 s3.heap.objs.size=none:=I6.free;have I8:aX X (aB++[(s3.heap.objs.size,oC)]) σ H5 s6:=I7.pins_of λp hp=>(List.mem_append.mp hp).elim (λz=>I7.pin p (List.mem_append_right _ z)) λz=>by
   have e:p=(s3.heap.objs.size,oC):=List.mem_singleton.mp z;subst e;exact⟨hoC,gF,Nat.ne_of_gt I3.lt,I3.nofs (Nat.le_refl _),λv ev=>zeq zmh hoC v ev⟩
  refine dP (aK (pos:=py) hN hiy hly hf _ s6 σ H5 (.ref s2.heap.objs.size) (.ref s2.heap.objs.size) _ I8 rfl q) λ_ s9 ⟨σ9,H9,I9,q9⟩=> ?_;have hp9:=I9.pin (s3.heap.objs.size,oC) (List.mem_append_right _ (List.mem_append_right _ (List.mem_singleton.mpr rfl)));refine⟨m6,zmh.at' λo e=> ?_,λh' hsb=> ?_⟩
  . rw[hoC]at e;cases e;exact hp9.1
  . refine⟨σ9,H9,I9.unpinned.turnedL (ch:=[s3.heap.objs.size]) (t':=s9.toks) (λb hb=> ?_) λb ob hb e=> ?_,q9⟩
    . rw[List.mem_singleton.mp hb];exact I3.fpOk (Nat.le_refl _) hp9.2.1
    . exact hsb.extBut b ob (λz=>hb (List.mem_singleton.mpr z)) e
 exact codeAny_compStart_list tZ (T.self _ 0 _ _ _ (T.keep _ _ _ st3 λb _ o e=>hk4 b o e) tZ)
def zgi(k:Bool)(v:Value):Bool:=match v with
 | .bool b=>decide (b=k)
 |_=>false
theorem eJ{k:Bool}{v:Value}(h:zgi k v=true):v= .bool k:=by
 cases v with
 |bool b=>rw[of_decide_eq_true (show decide (b=k)=true from h)]
 |_=>exact absurd (show false=true from h) Bool.false_ne_true
def zis(k:Bool):Int:=if k=true then 1 else 0
theorem zdF{P:Program}{w:World}{A:Around}{E:Value->Shared->Prop}{s:Shared}{k:Bool}{Q:Int->Shared->Prop}(q:Q (zis k) {s with toks:=s.toks+1}):wpAny (model P w) A (pyHash (.bool k)) Q E s:=by
 have ty:s.TypeIs (.bool k) "bool" :=rfl
 have nh: [Value.bool k].any Value.onHeap=false:=rfl
 show wpAny _ _ (pyHashByItsType (.bool k)) Q E s
 unfold pyHashByItsType
 refine wpAny_bind ?_
 rw[cRoomFor,nh,if_neg Bool.false_ne_true]
 refine wpAny_pure (wpAny_bind (wpAny_specialOf ty PySem.F.slot_bool_hash.lookup ?_))
 rw[if_neg (by rw[beq_builtin_none];exact Bool.false_ne_true)]
 refine wpAny_bind (wpAny_specialOf ty PySem.F.slot_bool_hash.lookup ?_)
 show wpAny _ _ (callSpecialIfBoundUnlessNone? (.bool k) "__hash__" _>>=_) Q E s
 refine wpAny_bind (wpAny_callSpecialIfBoundUnlessNone?_slot ty PySem.F.slot_bool_hash (wpAny_call_entry PySem.F.slot_bool_hash ty PySem.F.entry_int_hash ?_ (PySem.F.args_int_hash_1 _)))
 have e:Builtin.«int.__hash__» ⟨[.bool k],[]⟩=(do ret (<-mkInt (zis k))):=by cases k<;>rfl
 rw[e]
 refine wpAny_ret_mkInt ?_
 cases k<;>exact wpAny_pure q
def lU(P:Program)(w:World):PySem.KeyKind P w Bool where
 is:=zgi
 hash:=zis
 inj:= λv a b ha hb=>by have:=(eJ ha).symm.trans (eJ hb);injection this
 byValue:= λk v h=>by rw[eJ h];rfl
 pyHash:= λhv h=>by rw[eJ hv];exact zdF h
 eqBool:= λ{A E s a b u v Q} hu hv h=>by
  rw[eJ hu,eJ hv];refine SeqAt.EqAt.bool_bool a b _ _ _ _ ?_;rw[show(a==b)=decide (a=b)from rfl];exact h
 «strs»:= λk x t v h=>by have:=eJ h;cases this
section
variable {κ:Type} [DecidableEq κ]{knd:PySem.KeyKind P w κ}{E:Value->Shared->Prop}
def fP(knd:PySem.KeyKind P w κ)(h:Heap)(k:κ×List κ)(a:Addr):Prop:= ∃(o:Obj) (v:Value) (c:Addr) (n:Nat),h.get? a=some o/\o.cls= .type "tuple" /\o.data= .seq #[v,.ref c] n/\knd.is k.1 v=true/\IsTupleKey knd h k.2 c
theorem fP.ty{k:κ×List κ}{a:Addr}(x:fP knd s.heap k a):s.TypeIs (.ref a) "tuple" :=let⟨o,_,_,_,e,c,_⟩:=x;⟨o,e,c⟩
theorem fP.one{h:Heap}{a:Addr}{x y:κ×List κ}(hx:fP knd h x a)(hy:fP knd h y a):x=y:=by
 obtain⟨o,v,c,n,e,_,d,i1,i2⟩:=hx
 obtain⟨o',v',c',n',e',_,d',j1,j2⟩:=hy
 rw[e]at e';cases e'
 rw[d]at d';cases d'
 exact Prod.ext (knd.inj _ _ _ i1 j1) (i2.inj j2)
theorem fP.stay{h h':Heap}{k:κ×List κ}{a d:Addr}{o:Obj}{es:Array DictEntry}{ep:Nat}(x:fP knd h k a)(ho:h.get? d=some o)(hd:o.data= .dict es ep)(hs:Heap.SameBut d h h'):fP knd h' k a:=by
 obtain⟨o',v,c,n,e,cl,dt,i1,i2⟩:=x
 have na:a≠d:= λz=>by rw[z,ho]at e;cases e;rw[hd]at dt;cases dt
 exact⟨o',v,c,n,(hs.2 a na).trans e,cl,dt,i1,i2.keeps ho hd hs⟩
def uY(knd:PySem.KeyKind P w κ)(k:κ×List κ):Int:=reduceHash (Builtin.Tuple.tupleHashOf [knd.hash k.1,tupleKeyHash knd k.2])
theorem zeG{k:κ×List κ}{a:Addr}{Q:Int->Shared->Prop}(hu:A.units+1<cLine)(hk:fP knd s.heap k a)(q:Q (uY knd k) {s with toks:=s.toks+(k.2.length+3)}):wpAny (model P w) A (pyHash (.ref a)) Q E s:=by
 have ty:=hk.ty
 obtain⟨o,v,c,n,e,_,d,i1,i2⟩:=hk
 show wpAny _ _ (pyHashByItsType (.ref a)) Q E s
 unfold pyHashByItsType
 refine wpAny_bind (wpAny_cRoomFor_or (.inr (by omega)) ?_)
 refine wpAny_bind (wpAny_specialOf ty PySem.F.slot_tuple_hash.lookup ?_)
 rw[if_neg (by rw[beq_builtin_none];exact Bool.false_ne_true)]
 refine wpAny_bind (wpAny_specialOf ty PySem.F.slot_tuple_hash.lookup ?_)
 show wpAny _ _ (callSpecialIfBoundUnlessNone? (.ref a) "__hash__" _>>=_) Q E s
 refine wpAny_bind (wpAny_callSpecialIfBoundUnlessNone?_slot ty PySem.F.slot_tuple_hash (wpAny_call_entry PySem.F.slot_tuple_hash ty PySem.F.entry_tuple_hash ?_ (PySem.F.args_tuple_hash_1 _)))
 show wpAny _ _ (Builtin.Tuple.tupleItemsOf (.ref a)>>=_) _ _ s
 refine wpAny_bind (wpAny_tupleItemsOf e d (wpAny_bind ?_))
 rw[<-Array.forIn_toList]
 show wpAny _ _ (forIn [v,.ref c] _ _) _ _ s
 rw[List.forIn_cons]
 refine wpAny_bind (wpAny_bind (knd.pyHash i1 ?_))
 refine wpAny_pure ?_
 show wpAny _ _ (forIn [Value.ref c] _ _) _ _ _
 rw[List.forIn_cons]
 refine wpAny_bind (wpAny_bind (wpAny_pyHash_tuple (tupleKind_room_in1 (knd:=knd) hu) i2 (wpAny_pure ?_)))
 show wpAny _ _ (forIn ([]:List Value) _ _) _ _ _
 rw[List.forIn_nil]
 refine wpAny_pure ?_
 show wpAny _ _ (retInt (Builtin.Tuple.tupleHashOf [knd.hash k.1,tupleKeyHash knd k.2])) _ _ _
 refine wpAny_ret_mkInt ?_
 unfold uY reduceHash at q
 show wpAny _ _ (if(decide (-(2:Int)^63<=Builtin.Tuple.tupleHashOf [knd.hash k.1,tupleKeyHash knd k.2])&&decide (Builtin.Tuple.tupleHashOf [knd.hash k.1,tupleKeyHash knd k.2]<2^63))=true then _ else _) Q E _
 generalize Builtin.Tuple.tupleHashOf [knd.hash k.1,tupleKeyHash knd k.2]=z at q ⊢
 have et:s.toks+1+(k.2.length+1)+1=s.toks+(k.2.length+3):=by omega
 split
 . rename_i h
   rw[if_pos h]at q;exact wpAny_pure (by simpa [et]using q)
 . rename_i h
   rw[if_neg h]at q;exact wpAny_bind (wpAny_rule (wpAny_pure (by simpa [et]using q)))
theorem yW{x y:κ×List κ}{a b:Addr}{R:Fin->Shared->Prop}(hu:A.units<cLine)(hx:fP knd s.heap x a)(hy:fP knd s.heap y b)(q:R (.done (.ret (.bool (decide (x=y))))) s):
 wpAny (model P w) A (Builtin.«tuple.__eq__» ⟨[.ref a,.ref b],[]⟩) R E s:=by
 have ty:=hy.ty
 obtain⟨o,v,c,n,e,_,d,i1,i2⟩:=hx
 obtain⟨o',v',c',n',e',_,d',j1,j2⟩:=hy
 show wpAny _ _ (isInstance (.ref b) (.type "tuple")>>=_) _ _ s
 refine wpAny_bind (wpAny_isInstance ty isSubtype_tuple_tuple ?_)
 simp only[Bool.not_true,Bool.false_eq_true,if_false]
 refine wpAny_bind (wpAny_tupleItemsOf e d (wpAny_bind (wpAny_tupleItemsOf e' d' (wpAny_bind ?_))))
 show wpAny _ _ (forIn [(v,v'),(Value.ref c,Value.ref c')] _ _) _ _ s
 rw[List.forIn_cons]
 refine wpAny_bind (wpAny_bind (knd.eqBool i1 j1 ?_))
 by_cases h1:x.1=y.1
 . rw[decide_eq_true h1];refine wpAny_pure ?_;show wpAny _ _ (forIn [(Value.ref c,Value.ref c')] _ _) _ _ _;rw[List.forIn_cons];refine wpAny_bind (wpAny_bind (wpAny_eqBool_tuple hu i2 j2 ?_))
   by_cases h2:x.2=y.2
   . rw[decide_eq_true h2];refine wpAny_pure ?_;show wpAny _ _ (forIn ([]:List (Value×Value)) _ _) _ _ _;rw[List.forIn_nil];refine wpAny_pure (wpAny_pure ?_);rw[decide_eq_true (Prod.ext h1 h2)]at q;exact q
   . rw[decide_eq_false h2];rw[decide_eq_false (λz=>h2 (congrArg Prod.snd z))]at q;exact wpAny_bind (wpAny_pure (wpAny_pure (wpAny_pure (wpAny_pure q))))
 . rw[decide_eq_false h1];rw[decide_eq_false (λz=>h1 (congrArg Prod.fst z))]at q;exact wpAny_bind (wpAny_pure (wpAny_pure (wpAny_pure (wpAny_pure q))))
theorem zjY{x y:κ×List κ}{a b:Addr}{Q:Bool->Shared->Prop}(hu:A.units+1<cLine)(hx:fP knd s.heap x a)(hy:fP knd s.heap y b)(q:Q (decide (x=y)) s):wpAny (model P w) A (eqBool (.ref a) (.ref b)) Q E s:=by
 unfold eqBool
 try with_reducible refine wpAny_holding ?_
 refine wpAny_ite_split (λi8=> ?_) (λ_=> ?_)
 . have e:a=b:=by have:=eq_of_beq i8;injection this
   subst e;rw[hx.one hy,decide_eq_true rfl]at q;exact wpAny_bind (wpAny_rule (wpAny_pure q))
 . exact wpAny_bind (wpAny_richCompare_same_room (op:= .Eq) hx.ty hy.ty PySem.F.slot_tuple_eq
    (wpAny_call_entry PySem.F.slot_tuple_eq hx.ty PySem.F.entry_tuple_eq (yW (tupleKind_room_in1 (knd:=knd) hu) hx hy ⟨_,rfl,(λz=>nomatch z),wpAny_truthy_bool q⟩) (PySem.F.args_tuple_eq_2 _ _)) (by omega))
theorem zbw{n:Nat}{ks:List κ}{a:Addr}{Q:Bool->Shared->Prop}(hk:IsTupleKey knd s.heap ks a)(q:Q true s):wpAny (model P w) A (eqIsQuiet (n+1) (.ref a)) Q E s:=by
 have ty:=hk.typeIs
 obtain⟨o,bC,m,e,_,d,i⟩:=hk
 unfold eqIsQuiet
 refine wpAny_bind (wpAny_specialOf ty PySem.F.slot_tuple_eq.lookup ?_)
 show wpAny _ _ (isInstance (.ref a) (.type "tuple")>>=_) _ _ s
 refine wpAny_bind (wpAny_isInstance ty isSubtype_tuple_tuple ?_)
 simp only[Bool.not_true,Bool.false_eq_true,if_false]
 refine wpAny_bind (wpAny_seqItems e d (wpAny_bind ?_))
 show wpAny _ _ (forIn bC _ _) _ _ s
 rw[<-Array.forIn_toList]
 refine wpAny_forIn_list _ (λl r s'=>(r.1=none/\s'=s)/\ ∀v∈l,carriedByValue v=true) _ ?_ ?_ _ _ ⟨⟨rfl,rfl⟩,i.byValue⟩
 . rintro v l r s' ⟨⟨h1,rfl⟩,h3⟩;rw[eqIsQuiet_byValue _ (h3 v List.mem_cons_self)];exact wpAny_bind (wpAny_pure (wpAny_pure ⟨⟨rfl,rfl⟩,λu hu=>h3 u (List.mem_cons_of_mem _ hu)⟩))
 . rintro⟨r1,r2⟩ s' ⟨⟨h1,rfl⟩,_⟩;cases(show r1=none from h1);exact wpAny_pure q
theorem zbm{k:κ×List κ}{a:Addr}{Q:Bool->Shared->Prop}(hk:fP knd s.heap k a)(q:Q true s):wpAny (model P w) A (eqIsQuiet 8 (.ref a)) Q E s:=by
 have ty:=hk.ty
 obtain⟨o,v,c,n,e,_,d,i1,i2⟩:=hk
 unfold eqIsQuiet
 refine wpAny_bind (wpAny_specialOf ty PySem.F.slot_tuple_eq.lookup ?_)
 show wpAny _ _ (isInstance (.ref a) (.type "tuple")>>=_) _ _ s
 refine wpAny_bind (wpAny_isInstance ty isSubtype_tuple_tuple ?_)
 simp only[Bool.not_true,Bool.false_eq_true,if_false]
 refine wpAny_bind (wpAny_seqItems e d (wpAny_bind ?_))
 show wpAny _ _ (forIn #[v,.ref c] _ _) _ _ s
 rw[<-Array.forIn_toList]
 show wpAny _ _ (forIn [v,.ref c] _ _) _ _ s
 rw[List.forIn_cons,eqIsQuiet_byValue _ (knd.byValue _ _ i1)]
 refine wpAny_bind (wpAny_bind (wpAny_pure (wpAny_pure ?_)))
 show wpAny _ _ (forIn [Value.ref c] _ _) _ _ s
 rw[List.forIn_cons]
 refine wpAny_bind (wpAny_bind (zbw i2 (wpAny_pure ?_)))
 show wpAny _ _ (forIn ([]:List Value) _ _) _ _ s
 rw[List.forIn_nil]
 exact wpAny_pure (wpAny_pure q)
end
def iT{P:Program}{w:World}{κ:Type} [DecidableEq κ](knd:PySem.KeyKind P w κ):PySem.HeapKind P w (κ×List κ) where
 is:=fP knd
 hash:=uY knd
 draws:= λk=>k.2.length+3
 room:= λA=>A.units+1<cLine
 inj:= λhx hy=>hx.one hy
 keeps:= λx ho hd hs=>x.stay ho hd hs
 pyHash:= λhu hk h=>zeG hu hk h
 eqBool:= λhu hx hy h=>zjY hu hx hy h
 quiet:= λhk h=>zbm hk h
inductive NK where
 |b (x:Bool)|i (x:Int)|p (xs:List Int)|n (x:Int) (ys:List Int)
 deriving DecidableEq
inductive NM where
 |b|i|p|n
def NK.md:NK->NM
 | .b _=> .b
 | .i _=> .i
 | .p _=> .p
 | .n _ _=> .n
def eZ(H:Hp)(v:V):NK->Prop
 | .b x=>v= .bl x
 | .i x=>v= .int x
 | .p xs=> ∃a,v= .ref a/\H a=some (.tup (xs.map V.int))
 | .n x ys=> ∃a c,v= .ref a/\H a=some (.tup [.int x,.ref c])/\H c=some (.tup (ys.map V.int))
abbrev TKp(H H':Hp):Prop:= ∀b xs,H b=some (.tup xs)->H' b=some (.tup xs)
theorem eZ.keep{H H':Hp}{v:V}{k:NK}(h:eZ H v k)(t:TKp H H'):eZ H' v k:=by
 cases k with
 |b x=>exact h
 |i x=>exact h
 |p xs=>obtain⟨a,e,z⟩:=h;exact⟨a,e,t _ _ z⟩
 |n x ys=>obtain⟨a,c,e,z,y⟩:=h;exact⟨a,c,e,t _ _ z,t _ _ y⟩
def nkk(x:Int)(ys:List Int):dB×List dB:=(.inl x,ys.map .inl)
theorem pL: ∀{xs ys:List Int},xs.map (Sum.inl:Int->dB)=ys.map Sum.inl->xs=ys
 | [],[],_=>rfl
 | [],_::_,h=>by cases h
 |_::_,[],h=>by cases h
 |x::xs,y::ys,h=>by
  injection h with h1 h2
  injection h1 with h1
  rw[h1,pL h2]
theorem zct{x x':Int}{ys wL:List Int}(h:nkk x ys=nkk x' wL):x=x'/\ys=wL:=by
 obtain⟨h1,h2⟩:=Prod.mk.inj h
 injection h1 with h1
 exact⟨h1,pL h2⟩
theorem sD(ys:List Int):(ys.map (Sum.inl:Int->dB)).map kV=ys.map V.int:=by rw[List.map_map];rfl
section
variable {α β:Type} [DecidableEq α] [DecidableEq β]
theorem jA{f:α->β}(hf: ∀x y,f x=f y->x=y)(k:α): ∀ks:List (α×V),gK (ks.map λq=>(f q.1,q.2)) (f k)=gK ks k
 | []=>rfl
 |q::ks=>by
  rw[List.map_cons]
  by_cases e:q.1=k
  . rw[iN e,iN (show f q.1=f k by rw[e])]
  . rw[iQ e,iQ (show ¬f q.1=f k from λz=>e (hf _ _ z))];exact jA hf k ks
theorem pQ{f:α->β}(hf: ∀x y,f x=f y->x=y)(k:α)(v:V)(ks:List (α×V)):hX (ks.map λq=>(f q.1,q.2)) (f k) v=(hX ks k v).map λq=>(f q.1,q.2):=by
 unfold hX
 rw[jP,jP,jA hf]
 split
 . rw[List.map_map,List.map_map];refine List.map_congr_left λq _=> ?_;show(if f q.1=f k then(f q.1,v)else(f q.1,q.2))=(λq=>(f q.1,q.2)) (if q.1=k then(q.1,v)else q)
   by_cases e:q.1=k
   . rw[if_pos e,if_pos (by rw[e])]
   . rw[if_neg e,if_neg (λz=>e (hf _ _ z))]
 . rw[List.map_append];rfl
end
def DB(P:Program)(w:World)(a:Addr)(bQ:List (Bool×V)):HO:= .ext λh=>(bQ.length<=sizeLine/\(a==sysModules)=false)/\ ∃vs,KV bQ vs/\h.DictOf (lU P w) a vs
def DNs(P:Program)(w:World)(a:Addr)(xs:List ((dB×List dB)×Addr×Value)):HO:= .ext λh=>(xs.length<=sizeLine/\(a==sysModules)=false)/\ ∃o es ep,h.get? a=some o/\o.ExactDict/\o.data= .dict es ep/\es.toList=xs.map (entryOfKey (iT (bN P w)))/\(xs.map (·.1)).Nodup
theorem zlo{H:Hp}{h:Heap}{a:Addr}{bQ:List (Bool×V)}(h1:bQ.length<=sizeLine/\(a==sysModules)=false)(h2: ∃vs,KV bQ vs/\h.DictOf (lU P w) a vs):dE P w H h a (DB P w a bQ):=by
 refine⟨⟨h1,h2⟩,?_,λg g' ⟨q,vs,r,o,es,ep,e,c⟩ k=>⟨q,vs,r,o,es,ep,k o e,c⟩⟩
 obtain⟨vs,_,o,_,_,e,_⟩:=h2
 exact⟨o,e⟩
theorem zgg{H:Hp}{h:Heap}{a:Addr}{xs:List ((dB×List dB)×Addr×Value)}(h1:xs.length<=sizeLine/\(a==sysModules)=false)
 (h2: ∃o es ep,h.get? a=some o/\o.ExactDict/\o.data= .dict es ep/\es.toList=xs.map (entryOfKey (iT (bN P w)))/\(xs.map (·.1)).Nodup):dE P w H h a (DNs P w a xs):=by
 refine⟨⟨h1,h2⟩,?_,λg g' ⟨q,o,es,ep,e,c⟩ k=>⟨q,o,es,ep,k o e,c⟩⟩
 obtain⟨o,_,_,e,_⟩:=h2
 exact⟨o,e⟩
abbrev KN(H:Hp):List (NK×V)->List ((dB×List dB)×Addr×Value)->Prop:=Paired λp q=> ∃x ys,p.1= .n x ys/\q.1=nkk x ys/\eZ H (.ref q.2.1) p.1/\bT p.2 q.2.2
theorem KN.val{H:Hp}{bQ:List (NK×V)}{xs:List ((dB×List dB)×Addr×Value)}(r:KN H bQ xs)(x:Int)(ys:List Int):nA (gK bQ (.n x ys)) ((atKey xs (nkk x ys)).map (·.2)):=by
 induction r with
 |nil=>exact True.intro
 | @cons p q ps qs h t ih=>
  obtain⟨x',wL,h1,h2,_,h3⟩:=h
  by_cases e:p.1= .n x ys
  . rw[h1]at e;injection e with e1 e2
    have e':q.1=nkk x ys:=by rw[h2,e1,e2]
    rw[iN (show p.1= .n x ys by rw[h1,e1,e2]),show atKey (q::qs) (nkk x ys)=some q.2 by simp[atKey,List.find?_cons,e']];exact h3
  . have e': ¬q.1=nkk x ys:= λz=>e (by rw[h2]at z;obtain⟨z1,z2⟩:=zct z;rw[h1,z1,z2]);rw[iQ e,show atKey (q::qs) (nkk x ys)=atKey qs (nkk x ys) by simp[atKey,List.find?_cons,e']];exact ih
theorem KN.put{H:Hp}{bQ:List (NK×V)}{xs:List ((dB×List dB)×Addr×Value)}(r:KN H bQ xs){x:Int}{ys:List Int}{b:Addr}{y:V}{u:Value}(hb:eZ H (.ref b) (.n x ys))(ry:bT y u):KN H (hX bQ (.n x ys) y) (storedH xs (nkk x ys) b u):=by
 have e:(bQ.any λkv=>decide (kv.1=NK.n x ys))=(atKey xs (nkk x ys)).isSome:=by
  rw[jP,(r.val x ys).isSome_eq,Option.isSome_map]
 unfold hX storedH
 rw[e]
 split
 . rename_i e'
   clear e e'
   induction r with
   |nil=>exact .nil
   | @cons p q ps qs h t ih=>
    obtain⟨x',wL,h1,h2,h3,h4⟩:=h;refine .cons ?_ ih;unfold putAt;dsimp only
    by_cases e:p.1= .n x ys
    . have e1:=e;rw[h1]at e1;injection e1 with z1 z2
      rw[if_pos e,if_pos (by rw[h2,z1,z2])];exact⟨x',wL,h1,h2,h3,ry⟩
    . rw[if_neg e,if_neg (λz=>e (by rw[h2]at z;obtain⟨z1,z2⟩:=zct z;rw[h1,z1,z2]))];exact⟨x',wL,h1,h2,h3,h4⟩
 . exact Paired.snoc r ⟨x,ys,rfl,rfl,hb,ry⟩
def ND(P:Program)(w:World)(m:NM)(H:Hp)(a:Addr)(bQ:List (NK×V)):Prop:=match m with
 | .b=> ∃ks:List (Bool×V),bQ=ks.map (λq=>(.b q.1,q.2))/\H a=some (DB P w a ks)
 | .i=> ∃ks:List (Int×V),bQ=ks.map (λq=>(.i q.1,q.2))/\H a=some (.dK (ks.map λq=>(.inl q.1,q.2)))
 | .p=> ∃ks:List (List Int×V),bQ=ks.map (λq=>(.p q.1,q.2))/\H a=some (.dT (ks.map λq=>(q.1.map .inl,q.2)))
 | .n=> ∃xs,KN H bQ xs/\H a=some (DNs P w a xs)
def ndO(P:Program)(w:World)(a:Addr):NM->HO
 | .b=>DB P w a []
 | .i=> .dK []
 | .p=> .dT []
 | .n=>DNs P w a []
section
variable {m:NM}{H':Hp}{bQ:List (NK×V)}
theorem ND.new:ND P w m (aO H a (ndO P w a m)) a []:=by
 cases m with
 |b=>exact⟨[],rfl,aF⟩
 |i=>exact⟨[],rfl,aF⟩
 |p=>exact⟨[],rfl,aF⟩
 |n=>exact⟨[],.nil,aF⟩
theorem ND.some(h:ND P w m H a bQ): ∃o,H a=some o/\(∀ys,o≠ .lst ys)/\(∀ys,o≠ .tup ys)/\Mut (Option.some o):=by
 cases m with
 |b=>obtain⟨ks,_,e⟩:=h;exact⟨_,e,(λ_ z=>nomatch z),(λ_ z=>nomatch z),trivial⟩
 |i=>obtain⟨ks,_,e⟩:=h;exact⟨_,e,(λ_ z=>nomatch z),(λ_ z=>nomatch z),trivial⟩
 |p=>obtain⟨ks,_,e⟩:=h;exact⟨_,e,(λ_ z=>nomatch z),(λ_ z=>nomatch z),trivial⟩
 |n=>obtain⟨ks,_,e⟩:=h;exact⟨_,e,(λ_ z=>nomatch z),(λ_ z=>nomatch z),trivial⟩
theorem ND.keep(h:ND P w m H a bQ)(t:TKp H H')(ha: ∀o,H a=Option.some o->H' a=Option.some o):ND P w m H' a bQ:=by
 cases m with
 |b=>obtain⟨ks,q,e⟩:=h;exact⟨ks,q,ha _ e⟩
 |i=>obtain⟨ks,q,e⟩:=h;exact⟨ks,q,ha _ e⟩
 |p=>obtain⟨ks,q,e⟩:=h;exact⟨ks,q,ha _ e⟩
 |n=>obtain⟨xs,r,e⟩:=h;exact⟨xs,Paired.mapP r λp q ⟨x,ys,h1,h2,h3,h4⟩=>⟨x,ys,h1,h2,h3.keep t,h4⟩,ha _ e⟩
theorem ND.same(h:ND P w m H a bQ)(t:Same H H'):ND P w m H' a bQ:=h.keep (λb xs e=>t b _ e) λo e=>t a o e
end
section
variable {v:V}{r:Value}{o:Option V}{E:Value->Shared->Prop}{m:NM}{bQ:List (NK×V)}{k:NK}
theorem eZ.nest{x:Int}{ys:List Int}{b:Addr}(I:aX X aB σ H s)(h:eZ H (.ref b) (.n x ys)):(iT (bN X.prog X.w)).is s.heap (nkk x ys) b:=by
 obtain⟨a,c,e,h1,h2⟩:=h
 cases e
 obtain⟨_,bC,r,o,e1,e2,n,e3⟩:=I.hok _ _ h1
 obtain⟨u1,u2,eu,r1,r2⟩:=bP.two r
 obtain⟨t,r1⟩:=r1
 cases r2
 rw[eu]at e3
 refine⟨o,u1,c,n,e1,e2,e3,?_,qF I.hok (show H c=some (.tup ((ys.map (Sum.inl:Int->dB)).map kV)) by rw[sD];exact h2)⟩
 rw[r1]
 exact rM _ _ x t
theorem zcF{xs:List ((dB×List dB)×Addr×Value)}(I:aX X aB σ H s)(r:KN H bQ xs)(e:H a=some (DNs X.prog X.w a xs)):(xs.length<=sizeLine/\(a==sysModules)=false)/\s.heap.DictOfH (iT (bN X.prog X.w)) a xs:=by
 obtain⟨⟨q,o,es,ep,h1,h2,h3,h4,h5⟩,z0⟩:=I.hok _ _ e
 refine⟨q,o,es,ep,h1,h2,h3,h4,?_,h5⟩
 clear h4 h5 q e z0
 induction r with
 |nil=>intro z hz;cases hz
 | @cons p q ps qs h t ih=>
  obtain⟨x,ys,z1,z2,z3,_⟩:=h;intro z hz
  rcases List.mem_cons.mp hz with e|hz
  . rw[e,z2];rw[z1]at z3;exact z3.nest I
  . exact ih z hz
theorem ND.get(h:ND X.prog X.w m H a bQ)(hk:eZ H y k)(hm:k.md=m)(hi:m= .i\/m= .p):vG H a y (gK bQ k):=by
 subst hm
 cases k with
 |b x=>rcases hi with z|z<;>cases z
 |n x ys=>rcases hi with z|z<;>cases z
 |i x=>
  obtain⟨ks,rfl,e⟩:=h;cases hk;have:=vG.k (k:= .inl x) e;rw[jA (f:=(Sum.inl:Int->dB)) (λ_ _ z=>by injection z)]at this;rw[jA (f:=NK.i) (λ_ _ z=>by injection z)];exact this
 |p xs=>
  obtain⟨ks,rfl,e⟩:=h;obtain⟨b,rfl,eb⟩:=hk;have:=vG.t (k:=xs.map .inl) e (by rw[sD];exact eb);rw[jA (f:= λl:List Int=>l.map (Sum.inl:Int->dB)) (λ_ _ z=>pL z)]at this;rw[jA (f:=NK.p) (λ_ _ z=>by injection z)];exact this
theorem zgV{Q:Value->Shared->Prop}(hu:A.units+2<cLine)(I:aX X aB σ H s)(g:ND X.prog X.w m H a bQ)(hk:eZ H y k)(hm:k.md=m)(ry:bT y u)(h: ∀s',aX X aB σ H s'->Q (.bool (!(gK bQ k).isSome)) s'):wpAny (model X.prog X.w) A (compareOp .NotIn u (.ref a)) Q E s:=by
 subst hm
 cases k with
 |i x=>exact zch (by omega) I (ND.get g hk rfl (.inl rfl)) ry h
 |p x=>exact zch (by omega) I (ND.get g hk rfl (.inr rfl)) ry h
 |b x=>
  obtain⟨ks,rfl,e⟩:=g;cases hk;cases ry;obtain⟨⟨⟨z,hd⟩,vs,nO,dd⟩,_⟩:=I.hok _ _ e;refine wpAny_notIn_of (knd:=lU X.prog X.w) (k:=x) (decide_eq_true rfl) hd dd.mapOf ?_;rw[<-(nO.val x).isSome_eq,<-jA (f:=NK.b) (λ_ _ z=>by injection z)];exact h _ (I.tok _)
 |n x ys=>
  obtain⟨xs,r,e⟩:=g;obtain⟨b,c,rfl,h1,h2⟩:=id hk;cases ry;obtain⟨⟨z,hd⟩,dd⟩:=zcF I r e;refine wpAny_notIn_heap (knd:=iT (bN X.prog X.w)) (show A.units+1+1<cLine by omega) (eZ.nest I hk) hd dd ?_;have q:=(r.val x ys).isSome_eq;rw[Option.isSome_map]at q;rw[<-q];exact h _ (I.tok _)
theorem zaW{Q:Value->Shared->Prop}(hu:A.units+2<cLine)(I:aX X aB σ H s)(g:ND X.prog X.w m H a bQ)(hk:eZ H y k)(hm:k.md=m)(hv:gK bQ k=some v)(ry:bT y u)(h: ∀w' s',aX X aB σ H s'->bT v w'->Q w' s'):s.TypeIs (.ref a) "dict" /\wpAny (model X.prog X.w) A (getItem (.ref a) u) Q E s:=by
 subst hm
 cases k with
 |i x=>
  have d:=ND.get g hk rfl (.inl rfl);rw[hv]at d;exact⟨rL I d,wW (by omega) I d ry h⟩
 |p x=>
  have d:=ND.get g hk rfl (.inr rfl);rw[hv]at d;exact⟨rL I d,wW (by omega) I d ry h⟩
 |b x=>
  obtain⟨ks,rfl,e⟩:=g;cases hk;cases ry;obtain⟨⟨⟨z,hd⟩,vs,nO,dd⟩,_⟩:=I.hok _ _ e;rw[jA (f:=NK.b) (λ_ _ z=>by injection z)]at hv;obtain⟨w',hw,sI⟩:=nA.some_of (v:=v) (o:=valueAt vs x) (by rw[<-hv];exact nO.val x);exact⟨dd.typeIs,wpAny_getItem_of (knd:=lU X.prog X.w) (k:=x) (decide_eq_true rfl) dd.mapOf hw (h w' _ (I.tok _) sI)⟩
 |n x ys=>
  obtain⟨xs,r,e⟩:=g;obtain⟨b,c,rfl,h1,h2⟩:=id hk;cases ry;obtain⟨⟨z,hd⟩,dd⟩:=zcF I r e;obtain⟨w',hw,sI⟩:=nA.some_of (v:=v) (o:=(atKey xs (nkk x ys)).map (·.2)) (by rw[<-hv];exact r.val x ys);obtain⟨p,hp,hp2⟩:=Option.map_eq_some_iff.mp hw;refine⟨dd.typeIs,wpAny_getItem_heap (knd:=iT (bN X.prog X.w)) (show A.units+1+1<cLine by omega) (eZ.nest I hk) dd hp ?_⟩;rw[hp2];exact h w' _ (I.tok _) sI
theorem zay{Q:Unit->Shared->Prop}(hu:A.units+2<cLine)(I:aX X aB σ H s)(g:ND X.prog X.w m H a bQ)(hk:eZ H y k)(hm:k.md=m)(hl:bQ.length<sizeLine)(ry:bT y u)(rv:bT v r)
 (h: ∀ob s',ND X.prog X.w m (aO H a ob) a (hX bQ k v)->aX X aB σ (aO H a ob) s'->Q () s'):wpAny (model X.prog X.w) A (setItem (.ref a) u r) Q E s:=by
 subst hm
 have tk: ∀ob,TKp H (aO H a ob):= λob b xs e=>by
  obtain⟨o,ho,_,nt,_⟩:=g.some;rw[aG (dO e ho (λz=>nt xs z.symm))];exact e
 cases k with
 |i x=>
  obtain⟨ks,rfl,e⟩:=g;cases hk;rw[aW]at hl;refine xI (by omega) I (zaU.k (k:= .inl x) e (by rw[aW];exact hl)) ry rv λs' I'=>h _ s' ?_ I';rw[pQ (f:=(Sum.inl:Int->dB)) (λ_ _ z=>by injection z),pQ (f:=NK.i) (λ_ _ z=>by injection z)];exact⟨_,rfl,aF⟩
 |p x=>
  obtain⟨ks,rfl,e⟩:=g;obtain⟨b,rfl,eb⟩:=hk;rw[aW]at hl;refine xI (by omega) I (zaU.t (k:=x.map .inl) e (by rw[sD];exact eb) (by rw[aW];exact hl)) ry rv λs' I'=>h _ s' ?_ I';rw[pQ (f:= λl:List Int=>l.map (Sum.inl:Int->dB)) (λ_ _ z=>pL z),pQ (f:=NK.p) (λ_ _ z=>by injection z)];exact⟨_,rfl,aF⟩
 |b x=>
  obtain⟨ks,rfl,e⟩:=g;cases hk;cases ry;rw[aW]at hl;obtain⟨⟨⟨z,hd⟩,vs,nO,dd⟩,_⟩:=I.hok _ _ e;have hz:(hX ks x v).length<=sizeLine:=by have:=jH ks x v;omega
  refine wpAny_setItem_pairs (knd:=lU X.prog X.w) (k:=x) (hsz:=by rw[<-nO.length];exact z) (decide_eq_true rfl) dd λh' dd' hs=>h (DB X.prog X.w a (hX ks x v)) _ ?_ (mQ I (by rw[e];exact True.intro) hs (let⟨q,_,_,hq,_⟩:=dd';⟨q,hq⟩) (zlo ⟨hz,hd⟩ ⟨_,nO.put x rv,dd'⟩));rw[pQ (f:=NK.b) (λ_ _ z=>by injection z)];exact⟨_,rfl,aF⟩
 |n x ys=>
  obtain⟨xs,r,e⟩:=g;obtain⟨b,c,rfl,h1,h2⟩:=id hk;cases ry;obtain⟨⟨z,hd⟩,dd⟩:=zcF I r e;have rl:=Paired.length r;refine wpAny_setItem_heap (hsz:=z) (knd:=iT (bN X.prog X.w)) (show A.units+1+1<cLine by omega) (eZ.nest I hk) dd λh' dd' hs=> ?_;have rp:=r.put hk rv;have lp:=jH bQ (NK.n x ys) v;have l2:=Paired.length rp;obtain⟨q,es,ep,hq,c2,c3,c4,_,c5⟩:=dd';refine h (DNs X.prog X.w a (storedH xs (nkk x ys) b _)) _ ⟨_,Paired.mapP rp λp q ⟨x,ys,z1,z2,z3,z4⟩=>⟨x,ys,z1,z2,z3.keep (tk _),z4⟩,aF⟩ (mQ I (by rw[e];exact True.intro) hs ⟨q,hq⟩ (zgg ⟨by omega,hd⟩ ⟨q,es,ep,hq,c2,c3,c4,c5⟩))
end
end L2
namespace L2
open PySem PySem.Spec PyProof.Rows
variable {X:Cx}{A:Around}{E:Value->Shared->Prop}{s:Shared}
theorem iJ{A:Around}{k:Nat}(hr:eV k A):A.units+2<cLine:=Nat.lt_of_le_of_lt (Nat.add_le_add_left (by decide:2<=64) _) hr.units
section
variable (P:Program)(w:World)
def ztl(ty td:TE):TE:= λσ H Q=>ty σ H λy H1=>td σ H1 λx H2=> ∃a m bQ k,x= .ref a/\ND P w m H2 a bQ/\eZ H2 y k/\k.md=m/\Q (.bl (!(gK bQ k).isSome)) H2
def xF(td ty:TE):TE:= λσ H Q=>td σ H λx H1=>ty σ H1 λy H2=> ∃a m bQ k v,x= .ref a/\ND P w m H2 a bQ/\eZ H2 y k/\k.md=m/\gK bQ k=some v/\Q v H2
def zqR(td ty tv:TE):TS:= λD σ H=>tv σ H λv H1=>td σ H1 λx H2=>ty σ H2 λy H3=> ∃a m bQ k,x= .ref a/\ND P w m H3 a bQ/\eZ H3 y k/\k.md=m/\bQ.length<sizeLine/\ ∀ob,ND P w m (aO H3 a ob) a (hX bQ k v)->D.nx σ (aO H3 a ob)
def zsZ(m:NM):TE:= λ_ H Q=> ∀p,H p=none->Q (.ref p) (aO H p (ndO P w p m))
def zwj(m:NM)(tk tv:TE):TE:= λσ H Q=> ∀p,H p=none->tk σ (aO H p (ndO P w p m)) λx H1=>tv σ H1 λy H2=> ∃k,eZ H2 x k/\k.md=m/\(m= .i\/m= .p)/\H2 p=some (ndO P w p m)/\ ∀ob,ND P w m (aO H2 p ob) p [(k,y)]->Q (.ref p) (aO H2 p ob)
def zsi:List V->Hp->VK->Prop:= λxs H Q=> ∃a m bQ,xs=[.ref a]/\ND P w m H a bQ/\Q (.int bQ.length) H
end
section
variable {o i e value:Expr}{pos sW uI:Pos}{td ty tv tk:TE}{m:NM}
theorem yH(hu:X.A.units+2<cLine)(hi:PE X i ty)(ho:PE X o td):PC X .NotIn i o (ztl X.prog X.w ty td):=by
 intro aB s σ H Q I h
 refine dP (hi aB s σ H _ I h) λiv s1 ⟨y,H1,I1,ry,q1⟩=>dP (ho aB s1 σ H1 _ I1 q1) λu s2 ⟨x,H2,I2,rx,a,m,bQ,k,ex,g,hk,hm,q2⟩=> ?_
 subst ex
 cases rx
 exact zgV hu I2 g hk hm ry λs3 I3=>⟨.bl (!(gK bQ k).isSome),H2,I3,rfl,q2⟩
theorem sF(hu:X.A.units+2<cLine)(ho:PE X o td)(hi:PE X i ty)(hs:ztp i):PE X (.Subscript o i pos) (xF X.prog X.w td ty):=by
 intro aB s σ H Q I h
 refine zja PySem.F.slot_dict_getitem.lookup hs (dP (ho aB s σ H _ I h) λu s1 ⟨x,H1,I1,rx,q1⟩=>dP (hi aB s1 σ H1 _ I1 q1) λiv s2 ⟨y,H2,I2,ry,a,m,bQ,k,v,ex,g,hk,hm,hv,q2⟩=> ?_)
 subst ex
 cases rx
 exact zaW hu I2 g hk hm hv ry λw' s3 I3 sI=>⟨v,H2,I3,sI,q2⟩
theorem yO(hu:X.A.units+2<cLine)(ho:PE X o td)(hi:PE X i ty)(hv:PE X value tv)(hs:swapsWith value (some (.Subscript o i sW)) pos.line X.env=pure false):
 PS X (.Assign [.Subscript o i sW] value pos) (zqR X.prog X.w td ty tv):=by
 intro aB s σ H D I h
 refine wpAny_Assign_Subscript (dP (hv aB s σ H _ I h) λr s1 ⟨v,H1,I1,rv,q1⟩=>dP (ho aB s1 σ H1 _ I1 q1) λu s2 ⟨x,H2,I2,rx,q2⟩=>dP (hi aB s2 σ H2 _ I2 q2) λiv s3 ⟨y,H3,I3,ry,a,m,bQ,k,ex,g,hk,hm,hl,q3⟩=> ?_) hs
 subst ex
 cases rx
 exact zay hu I3 g hk hm hl ry rv λob s4 n4 I4=>⟨σ,_,I4,q3 ob n4⟩
theorem zgA(P:Program)(w:World){H:Hp}(h:Heap)(hb:sysModules<h.objs.size):dE P w H (h.push {cls:= .type "dict",data:= .dict #[]}) h.objs.size (ndO P w h.objs.size m):=by
 have z:(h.objs.size==sysModules)=false:=beq_eq_false_iff_ne.mpr (Ne.symm (Nat.ne_of_lt hb))
 cases m with
 |b=>exact zlo ⟨Nat.zero_le _,z⟩ ⟨[],.nil,Heap.DictOf.new h⟩
 |i=>exact zgS h hb
 |p=>exact zhH h hb
 |n=>exact zgg ⟨Nat.zero_le _,z⟩ ⟨_,#[],0,Heap.get?_push_size _ rfl,⟨rfl,rfl,rfl⟩,rfl,rfl,List.nodup_nil⟩
theorem zcG(m:NM):PE X (.Dict [] [] pos) (zsZ X.prog X.w m):= λaB s σ H Q I h=>
 wpAny_Dict_empty ⟨.ref s.heap.objs.size,_,I.laid (a:=s.heap.objs.size) (o:=ndO X.prog X.w s.heap.objs.size m) (t':=s.toks) (λ_ _ q=>Heap.get?_push_of_some _ q) (Nat.le_refl _) (zgA _ _ s.heap I.big),rfl,h _ (I.hok.fresh (Nat.le_refl _))⟩
theorem znz(m:NM)(hu:X.A.units+2<cLine)(hk:PE X i tk)(hv:PE X value tv):PE X (.Dict [some i] [value] pos) (zwj X.prog X.w m tk tv):=by
 intro aB s σ H Q I q
 have hn:=I.hok.fresh (Nat.le_refl s.heap.objs.size)
 have I1:=I.laid (a:=s.heap.objs.size) (o:=ndO X.prog X.w s.heap.objs.size m) (h':=s.heap.push {cls:= .type "dict",data:= .dict #[]}) (t':=s.toks) (λ_ _ q=>Heap.get?_push_of_some _ q) (Nat.le_refl _) (zgA _ _ s.heap I.big)
 refine wpAny_Dict_any rfl rfl (λz=>nomatch z) (by show(1:Nat)<=15;decide) (pairTrees_cons_walk (dP (hk aB _ σ _ _ I1 (q _ hn)) λu s1 ⟨x,H1,J1,rx,q1⟩=>dP (hv aB s1 σ H1 _ J1 q1) λr s2 ⟨y,H2,J2,ry,q2⟩=>pairTrees_nil_walk ?_))
 obtain⟨k,kk,km,mm,hp,q2⟩:=q2
 unfold storeAll
 rw[List.forIn_cons]
 refine wpAny_bind (wpAny_bind ?_)
 have fF: ∀(ob:HO) (s':Shared),ND X.prog X.w m (aO H2 s.heap.objs.size ob) s.heap.objs.size [(k,y)]->aX X aB σ (aO H2 s.heap.objs.size ob) s'->wpAny (model X.prog X.w) X.A (pure (ForInStep.yield PUnit.unit)) (λa s'=>wpAny (model X.prog X.w) X.A (match a with
  |ForInStep.done b=>pure b
  |ForInStep.yield b=>forIn ([]:List (Value×Value)) b λx _=>do dictSet s.heap.objs.size x.1 x.2;pure (ForInStep.yield PUnit.unit)) (λ_ s₂=>EP X aB σ Q (.ref s.heap.objs.size) s₂) X.xe s') X.xe s':= λob s' n J=>by
  refine wpAny_pure ?_;dsimp only;rw[List.forIn_nil];exact wpAny_pure ⟨.ref s.heap.objs.size,_,J,rfl,q2 ob n⟩
 subst km
 cases k with
 |b z=>rcases mm with z|z<;>cases z
 |n z ys=>rcases mm with z|z<;>cases z
 |i z=>
  cases kk;obtain⟨zz,hd,vs,nO,dd⟩:=zgp J2.hok (show H2 s.heap.objs.size=some (.dK [])from hp);cases nO;refine wpAny_dictSet_pairs (knd:=bN X.prog X.w) (k:= .inl z) (hsz:=Nat.zero_le _) (rK (k:= .inl z) rx) dd λh' dd' hs=>fF (.dK [(.inl z,y)]) _ ⟨[(z,y)],rfl,aF⟩ ?_;refine mQ J2 (by rw[hp];exact True.intro) hs (let⟨q,_,_,hq,_⟩:=dd';⟨q,hq⟩) (zhB (by show 1<=sizeLine;rw[sizeLine_eq];decide) hd (.cons ⟨rfl,ry⟩ .nil) dd')
 |p z=>
  obtain⟨b,rfl,eb⟩:=kk;cases rx;obtain⟨zz,hd,xs,nO,dd⟩:=zit J2.hok (show H2 s.heap.objs.size=some (.dT [])from hp);cases nO;have eb':H2 b=some (.tup ((z.map (Sum.inl:Int->dB)).map kV)):=by rw[sD];exact eb
  refine wpAny_dictSet_heap (hsz:=Nat.zero_le _) (knd:=tupleKind (bN X.prog X.w)) (show X.A.units<cLine by omega) (qF J2.hok eb') dd λh' dd' hs=>fF (.dT [(z.map .inl,y)]) _ ⟨[(z,y)],rfl,aF⟩ ?_;obtain⟨q,es,ep,hq,c2,c3,c4,_,c5⟩:=dd';refine mQ J2 (by rw[hp];exact True.intro) hs ⟨q,hq⟩ ⟨by show 1<=sizeLine;rw[sizeLine_eq];decide,hd,_,.cons ⟨rfl,?_,ry⟩ .nil,q,es,ep,hq,c2,c3,c4,c5⟩;show aO H2 s.heap.objs.size _ b=_;rw[aG (dO eb' (show H2 s.heap.objs.size=some (.dT [])from hp) (λz=>nomatch z))];exact eb'
theorem ziZ{P:Program}{w:World}{A:Around}{E:Value->Shared->Prop}{s:Shared}{d:Addr}{o:Obj}{es:Array DictEntry}{ep:Nat}{Q:Value->Shared->Prop}(hd:(d==sysModules)=false)(ho:s.heap.get? d=some o)(hc:o.ExactDict)(yL:o.data= .dict es ep)(zqy:(es.size:Int)<2^63)
 (q: ∀t s',s'.heap=s.heap->s'={s with toks:=s'.toks}->Q (.int es.size t) s'):wpAny (model P w) A (call (.builtin "len") [.ref d]) Q E s:=by
 have ty:s.TypeIs (.ref d) "dict" :=⟨o,ho,hc.1⟩
 refine Calls.call_function_entry kind_len plain_len entry_len (args_len1 _) ?_
 unfold Builtin.«len»
 refine wpAny_bind (m:=oneArg "len" _) (wpAny_pure ?_)
 refine wpAny_bind (m:=callSpecial? (.ref d) (Str.ofString "__len__")) (wpAny_callSpecial?_slot (name:=Str.ofString "__len__") ty PySem.F.slot_dict_len (wpAny_call_entry PySem.F.slot_dict_len ty PySem.F.entry_dict_len ?_ (PySem.F.args_dict_len_1 _)))
 show wpAny _ _ (dictSize d>>=_) _ _ s
 unfold dictSize
 refine wpAny_bind (wpAny_bind (wpAny_dictEntries ho yL (wpAny_pure ?_)))
 show wpAny _ _ (Builtin.Dict.pendingCount d>>=_) _ _ s
 refine wpAny_bind (wpAny_pendingCount_other hd (wpAny_ret_mkInt ?_))
 refine wpAny_bind (wpAny_holding (wpAny_pure (wpAny_bind (wpAny_letGo ?_))))
 have e0:((es.size:Nat):Int)+((0:Nat):Int)=(es.size:Int):=by omega
 rw[e0]
 rw[if_neg (by omega),if_neg (by omega)]
 exact wpAny_bind (wpAny_mkInt (wpAny_pure ⟨_,rfl,q _ _ rfl rfl⟩))
theorem vU:fJ X (.builtin "len") (zsi X.prog X.w):=by
 rintro aB s σ H xs us Q I rv ⟨a,m,bQ,rfl,g,q⟩
 obtain⟨u,rfl,r⟩:=bP.one rv
 cases r
 have iU: ∀{o:Obj} {es:Array DictEntry} {ep:Nat},(a==sysModules)=false->s.heap.get? a=some o->o.ExactDict->o.data= .dict es ep->es.size=bQ.length->bQ.length<=sizeLine->wpAny (model X.prog X.w) X.A (call (.builtin "len") [.ref a]) (EP X aB σ Q) X.xe s:= λ{o es ep} z ho hc hd he hl=>by
  refine ziZ z ho hc hd (by rw[he];rw[sizeLine_eq]at hl;omega) λt s' _ es'=> ?_;rw[es',he];exact⟨.int bQ.length,H,I.tok _,⟨t,rfl⟩,q⟩
 cases m with
 |b=>
  obtain⟨ks,rfl,e⟩:=g;obtain⟨⟨⟨z,hd⟩,vs,nO,o,es,ep,ho,hc,yL,_,hp,_⟩,_⟩:=I.hok _ _ e;exact iU hd ho hc yL (by rw[aW,nO.length,<-hp.length];simp) (by rw[aW];exact z)
 |i=>
  obtain⟨ks,rfl,e⟩:=g;obtain⟨z,hd,vs,nO,o,es,ep,ho,hc,yL,_,hp,_⟩:=zgp I.hok e;have:=nO.length;rw[aW]at this z;exact iU hd ho hc yL (by rw[aW,this,<-hp.length];simp) (by rw[aW];exact z)
 |p=>
  obtain⟨ks,rfl,e⟩:=g;obtain⟨z,hd,vs,nO,o,es,ep,ho,hc,yL,hp,_⟩:=zit I.hok e;have:=Paired.length nO;rw[aW]at this z;exact iU hd ho hc yL (by rw[aW,this,<-Array.length_toList,hp,aW]) (by rw[aW];exact z)
 |n=>
  obtain⟨xs,r,e⟩:=g;obtain⟨⟨z,hd⟩,o,es,ep,ho,hc,yL,hp,_⟩:=zcF I r e;have:=Paired.length r;exact iU hd ho hc yL (by rw[this,<-Array.length_toList,hp,aW]) (by omega)
end
def Itz(K:W.Frag)(a b:Addr):It:=
 ⟨λi H=> ∃xs ys x y,bB K H a xs/\bB K H b ys/\xs[i]?=some x/\ys[i]?=some y,
  λi H v H'=> ∃T,H T=none/\v= .ref T/\ ∀xs ys,bB K H a xs->bB K H b ys-> ∃x y,xs[i]?=some x/\ys[i]?=some y/\H'=aO H T (.tup [x,y]),
  λi H=> ∃xs ys,bB K H a xs/\bB K H b ys/\(xs.length<=i\/ys.length<=i)⟩
def zkP(z TI TO i1 i2 a b:Addr)(i:Nat)(h:Heap):Prop:=IsZip h z TI TO .none/\IsPair h TI (.ref i1) (.ref i2)/\(∃p q,IsPair h TO p q)/\h.IsListIter i1 a i/\h.IsListIter i2 b i
theorem wV{z TI TO i1 i2 a b:Addr}{i:Nat}{h:Heap}(st:zkP z TI TO i1 i2 a b i h): ∀c∈ [z,TI,TO,i1,i2],∃o,h.get? c=some o/\ ∀v,o.data≠ .cell v:= λc hc=>by
 obtain⟨h1,h2,⟨p,q,h3⟩,⟨o4,h4,_,d4⟩,⟨o5,h5,_,d5⟩⟩:=st
 simp only[List.mem_cons,List.not_mem_nil,or_false]at hc
 rcases hc with rfl|rfl|rfl|rfl|rfl
 . exact⟨_,h1,λv z=>nomatch (show Data.fields _=Data.cell v from z)⟩
 . exact⟨_,h2,λv z=>nomatch (show Data.seq _ _=Data.cell v from z)⟩
 . exact⟨_,h3,λv z=>nomatch (show Data.seq _ _=Data.cell v from z)⟩
 . exact⟨o4,h4,λv z=>by rw[d4]at z;cases z⟩
 . exact⟨o5,h5,λv z=>by rw[d5]at z;cases z⟩
theorem zgP{P:Program}{w:World}{K:W.Frag}{elts:List Expr}{k:Nat}{pos:Pos}{z TI TO i1 i2 a b:Addr}(D:ZipApart z TI TO i1 i2 a b):sO P w K (.Tuple elts k pos) (Itz K a b) [z,TI,TO,i1,i2] z (zkP z TI TO i1 i2 a b) where
 mem:=by simp
 obj:= λi h st=>wV st
 keep:= λi h h' st kk=>by
  obtain⟨h1,h2,⟨p,q,h3⟩,h4,h5⟩:=st;exact⟨kk z (by simp) _ h1,kk TI (by simp) _ h2,⟨p,q,kk TO (by simp) _ h3⟩,h4.at λo e=>kk i1 (by simp) o e,h5.at λo e=>kk i2 (by simp) o e⟩
 item:=by
  intro X hP hw hK hc i aB s σ H E I hf st hg;subst hP hw hK;have ob:=wV st;obtain⟨xs,ys,x,y,hq1,hq2,hx,hy⟩:=hg;obtain⟨h1,h2,⟨p,q,h3⟩,h4,h5⟩:=st;obtain⟨zhK,rv1,pl1,hz1⟩:=I.list hq1;obtain⟨qL,rv2,pl2,d7⟩:=I.list hq2;obtain⟨u1,hu1,ru1⟩:=rv1.get hx;obtain⟨u2,hu2,ru2⟩:=rv2.get hy;refine wpAny_pyNext_zip_item D h1 h2 h3 h4 h5 pl1.isList pl2.isList (x:=u1) (y:=u2) (by simpa using hu1) (by simpa using hu2) λh' a1 a2 a3 a4 a5 a6 kk=> ?_;have hTz:s.heap.objs.size≠z:=Nat.ne_of_gt (Heap.lt_size h1);refine⟨_,rfl,wpAny_letOwnedTupleGo_zip (s:={s with heap:=h'}) a1 λh9 zn sb=> ?_⟩;have kp: ∀c ob,c∉ [z,TI,TO,i1,i2]->s.heap.get? c=some ob->h9.get? c=some ob:= λc ob hc e=>by
   simp only[List.mem_cons,List.not_mem_nil,or_false,not_or]at hc;exact(sb.2 c hc.1).trans (kk c ob hc.1 hc.2.2.1 hc.2.2.2.1 hc.2.2.2.2 e)
  have zrJ:h9.get? s.heap.objs.size=some {cls:= .type "tuple",data:= .seq #[u1,u2]}:=(sb.2 _ hTz).trans a5;have I2:aX X aB σ (aO H s.heap.objs.size (.tup [x,y])) {s with heap:=h9,toks:=s.toks}:=I.turnLaid (o:= .tup [x,y]) (t':=s.toks) hf kp (Nat.le_refl _)
   ⟨by show 2<=sizeLine;rw[sizeLine_eq];decide,[u1,u2],.cons ru1 (.cons ru2 .nil),⟨_,zrJ,rfl,_,rfl⟩⟩
  refine⟨.ref s.heap.objs.size,_,I2,rfl,⟨_,I.fresh,rfl,λxs' wL g1 g2=>⟨x,y,by rw[I.list_inj g1 hq1];exact hx,by rw[I.list_inj g2 hq2];exact hy,rfl⟩⟩,⟨zn,?_,⟨_,_,(sb.2 _ D.TOz).trans a2⟩,a3.extBut sb.extBut D.i1z,a4.extBut sb.extBut D.i2z⟩,λc hc=> ?_⟩
  . exact(sb.2 _ D.TIz).trans (kk _ _ D.TIz D.TITO D.TIi1 D.TIi2 h2)
  . obtain⟨o,ho,_⟩:=ob c hc;rw[aG (Nat.ne_of_lt (Heap.lt_size ho))];exact(hf c hc).1
 done:=by
  intro X hP hw hK hc i aB s σ H E I hf st hg;subst hP hw hK;obtain⟨xs,ys,hq1,hq2,zwY⟩:=hg;obtain⟨h1,h2,⟨p,q,h3⟩,h4,h5⟩:=st;obtain⟨zhK,rv1,pl1,hz1⟩:=I.list hq1;obtain⟨qL,rv2,pl2,d7⟩:=I.list hq2;have l1:=rv1.length;have l2:=rv2.length;refine wpAny_pyNext_zip_end (I.ok.hd hc) D h1 h2 h3 h4 h5 pl1.isList pl2.isList ?_ λh' kk=>⟨rfl,I.turnedL (t':=s.toks) hf λc ob hc e=> ?_⟩
  . rcases zwY with g|g
    . exact .inl (by simp;omega)
    . exact .inr (by simp;omega)
  . simp only[List.mem_cons,List.not_mem_nil,or_false,not_or]at hc;exact kk c ob hc.1 hc.2.2.1 hc.2.2.2.1 hc.2.2.2.2 e
 self:= λA i s Q E st h=>wpAny_pyIter_zip st.1 h
def zvq(K:W.Frag)(ta:TA):TI:= λσ H R=>ta σ H λvs H1=> ∃a b,vs=[.ref a,.ref b]/\(∃xs,bB K H1 a xs)/\(∃ys,bB K H1 b ys)/\R (Itz K a b) H1
theorem zlZ{X:Cx}{elts:List Expr}{k:Nat}{uI:Pos}{l l2:Expr}{ta:TA}{p pos:Pos}(hg:Gl X "zip")(hm:X.mg "zip" =none)(ha:PA X [l,l2] ta)(hs:starEach [l,l2] X.env=[(false,eval l X.env),(false,eval l2 X.env)]:=by rfl)(hs2:starEach [l2] X.env=[(false,eval l2 X.env)]:=by rfl):
 PI X (.Tuple elts k uI) (.Call (.Name "zip" p) [l,l2] [] pos) (zvq X.K ta):=by
 intro aB s σ H R I h
 refine Call_ (hJ I hg hm (show bootBuiltins "zip" =some (.type "zip") by decide+kernel) (PyProof.Rows.callWith_type1 (dP (ha pos aB s σ H _ I h) λus s1 ⟨vs,H1,I1,r1,q1⟩=> ?_) (by rw[hs,hs2]) (by rw[hs2];rfl)))
 obtain⟨a,b,e,⟨xs,hq1⟩,⟨ys,hq2⟩,q⟩:=q1
 subst e
 obtain⟨u1,u2,rfl,r1,r2⟩:=r1.two
 cases r1
 cases r2
 obtain⟨zhK,rv1,pl1,hz1⟩:=I1.list hq1
 obtain⟨qL,rv2,pl2,d7⟩:=I1.list hq2
 have la:a<s1.heap.objs.size:=by obtain⟨o,ho,_⟩:=pl1.isList;exact Heap.lt_size ho
 have lb:b<s1.heap.objs.size:=by obtain⟨o,ho,_⟩:=pl2.isList;exact Heap.lt_size ho
 refine call_zip_2 pl1.isList pl2.isList λh' z1 z2 z3 z4 z5 hsz kk=> ?_
 have I2:aX X aB σ H1 {s1 with heap:=h'}:=I1.kept (t':=s1.toks) kk
 have T:=zgP (P:=X.prog) (w:=X.w) (K:=X.K) (elts:=elts) (k:=k) (pos:=uI) (zipApart_new la lb)
 refine T.self X.A 0 {s1 with heap:=h'} _ _ ⟨z1,z2,⟨_,_,z3⟩,z4,z5⟩ ⟨_,_,_,_,H1,rfl,I2,T,⟨z1,z2,⟨_,_,z3⟩,z4,z5⟩,λc hc=> ?_,q⟩
 have vQ:s1.heap.objs.size<=c:=by
  simp only[List.mem_cons,List.not_mem_nil,or_false]at hc
  rcases hc with rfl|rfl|rfl|rfl|rfl<;>omega
 exact I1.fpOk vQ (I1.hok.fresh vQ)
section
variable {P:Program}{w:World}
theorem zem{a:Addr}{Q:Option Obj->Shared->Prop}(q:Q (s.heap.get? a) s):wpAny (model P w) A (loadIfAlive a) Q E s:= λ_ _ _=>q
def jM(t:Bool)(h:Heap)(i l:Addr)(k:Nat):Prop:=match t with
 |false=>h.IsListIter i l k
 |true=>h.IsTupleIter i l k
def gA(t:Bool)(h:Heap)(l:Addr)(xs:Array Value):Prop:=match t with
 |false=>h.IsList l xs
 |true=>h.IsTuple l xs
theorem jM.at{t:Bool}{h h':Heap}{i l:Addr}{k:Nat}(x:jM t h i l k)(e: ∀o,h.get? i=some o->h'.get? i=some o):jM t h' i l k:=by
 cases t with
 |false=>exact Heap.IsListIter.at x e
 |true=>exact Heap.IsTupleIter.at x e
theorem gA.at{t:Bool}{h h':Heap}{l:Addr}{xs:Array Value}(x:gA t h l xs)(e: ∀o,h.get? l=some o->h'.get? l=some o):gA t h' l xs:=by
 cases t with
 |false=>obtain⟨o,ho,r⟩:=x;exact⟨o,e o ho,r⟩
 |true=>obtain⟨o,ho,r⟩:=x;exact⟨o,e o ho,r⟩
theorem jM.obj{t:Bool}{h:Heap}{i l:Addr}{k:Nat}(x:jM t h i l k): ∃o,h.get? i=some o/\ ∀v,o.data≠ .cell v:=by
 cases t with
 |false=>obtain⟨o,ho,_,d⟩:=x;exact⟨o,ho,λv z=>by rw[d]at z;cases z⟩
 |true=>obtain⟨o,ho,_,d⟩:=x;exact⟨o,ho,λv z=>by rw[d]at z;cases z⟩
theorem zat{it t:Addr}{i:Nat}{bC:Array Value}{x:Value}{Q:Value->Shared->Prop}(lO:s.heap.IsTupleIter it t i)(ht:s.heap.IsTuple t bC)(hx:bC[i]?=some x)
 (q: ∀h',h'.IsTupleIter it t (i+1)->Heap.SameBut it s.heap h'->Q x {s with heap:=h'}):wpAny (model P w) A (Builtin.SmallTypes.nextOf (.ref it)) Q E s:=by
 have ty:=lO.typeIs
 obtain⟨o,ho,hc,hd⟩:=lO
 obtain⟨ol,hol,_,nl,hdl⟩:=ht
 unfold Builtin.SmallTypes.nextOf
 refine wpAny_bind (wpAny_callSpecial?_slot (name:=Str.ofString "__next__") ty PySem.F.slot_tuple_iterator_next (wpAny_call_entry PySem.F.slot_tuple_iterator_next ty PySem.F.entry_tuple_iterator_next ?_ (PySem.F.args_tuple_iterator_next_1 _)))
 show wpAny _ _ (field (.ref it) 0>>=_) _ _ s
 refine wpAny_bind (wpAny_field ho hd (x:= .ref t) rfl ?_)
 show wpAny _ _ (if(Value.ref t==Value.none)=true then _ else _) _ _ s
 rw[if_neg (λz:(Value.ref t==Value.none)=true=>Bool.false_ne_true z)]
 show wpAny _ _ (field (.ref it) 1>>=_) _ _ s
 refine wpAny_bind (wpAny_field ho hd (x:= .int i 0) rfl (wpAny_bind (wpAny_seqItems hol hdl ?_)))
 simp only[Int.toNat_natCast,hx]
 refine wpAny_bind (wpAny_setField ho hd (by simp) (wpAny_pure ⟨x,rfl,wpAny_pure (q _ ⟨_,Heap.get?_update_self _ ho (Obj.isFreed_of_fields (Obj.data_mapFields hd _)),(Obj.cls_mapFields ..).trans hc,?_⟩ (Heap.SameBut.update ..))⟩))
 rw[Obj.data_mapFields hd];simp[rawInt]
theorem zdZ{it t:Addr}{i:Nat}{bC:Array Value}{Q:Value->Shared->Prop}(hh:A.handled=none)(lO:s.heap.IsTupleIter it t i)(ht:s.heap.IsTuple t bC)(hx:bC[i]?=none)
 (q: ∀h' e,Heap.ExtBut it s.heap h'->(∃o,h'.get? e=some o/\o.cls= .type "StopIteration")->E (.ref e) {s with heap:=h'}):wpAny (model P w) A (Builtin.SmallTypes.nextOf (.ref it)) Q E s:=by
 have ty:=lO.typeIs
 obtain⟨o,ho,hc,hd⟩:=lO
 obtain⟨ol,hol,_,nl,hdl⟩:=ht
 unfold Builtin.SmallTypes.nextOf
 refine wpAny_bind (wpAny_callSpecial?_slot (name:=Str.ofString "__next__") ty PySem.F.slot_tuple_iterator_next (wpAny_call_entry PySem.F.slot_tuple_iterator_next ty PySem.F.entry_tuple_iterator_next ?_ (PySem.F.args_tuple_iterator_next_1 _)))
 show wpAny _ _ (field (.ref it) 0>>=_) _ _ s
 refine wpAny_bind (wpAny_field ho hd (x:= .ref t) rfl ?_)
 show wpAny _ _ (if(Value.ref t==Value.none)=true then _ else _) _ _ s
 rw[if_neg (λz:(Value.ref t==Value.none)=true=>Bool.false_ne_true z)]
 show wpAny _ _ (field (.ref it) 1>>=_) _ _ s
 refine wpAny_bind (wpAny_field ho hd (x:= .int i 0) rfl (wpAny_bind (wpAny_seqItems hol hdl ?_)))
 simp only[Int.toNat_natCast,hx]
 refine wpAny_bind (wpAny_rule (wpAny_bind (wpAny_setField ho hd (by simp) ?_)))
 show wpAny _ _ (newExc (.type "StopIteration") []>>=_) _ _ _
 refine wpAny_bind ?_
 simp only[newExc,newTuple]
 refine wpAny_bind (wpAny_newObj_type (wpAny_bind (m:=firstArgMember _ _) (wpAny_of_eq (a:=Value.none) (by simp only[firstArgMember];rfl) (wpAny_newObj_type ?_ (by size_fits)))) (by size_fits))
 simp only[raiseNew]
 refine wpAny_bind (wpAny_handled ?_)
 rw[show A.in1.handled=none from hh]
 exact wpAny_bind (wpAny_pure (wpAny_throw (q _ _ (((Heap.SameBut.update ..).extBut.push _).push _) ⟨_,Heap.get?_push_size _ rfl,rfl⟩)))
theorem kZ{t:Bool}{it l:Addr}{i:Nat}{bC:Array Value}{x:Value}{Q:Value->Shared->Prop}(lO:jM t s.heap it l i)(hl:gA t s.heap l bC)(hx:bC[i]?=some x)
 (q: ∀h',jM t h' it l (i+1)->Heap.SameBut it s.heap h'->Q x {s with heap:=h'}):wpAny (model P w) A (Builtin.SmallTypes.nextOf (.ref it)) Q E s:=by
 cases t with
 |false=>exact wpAny_nextOf_list_item lO hl hx q
 |true=>exact zat lO hl hx q
theorem wJ{t:Bool}{it l:Addr}{i:Nat}{bC:Array Value}{Q:Value->Shared->Prop}(hh:A.handled=none)(lO:jM t s.heap it l i)(hl:gA t s.heap l bC)(hx:bC[i]?=none)
 (q: ∀h' e,Heap.ExtBut it s.heap h'->(∃o,h'.get? e=some o/\o.cls= .type "StopIteration")->E (.ref e) {s with heap:=h'}):wpAny (model P w) A (Builtin.SmallTypes.nextOf (.ref it)) Q E s:=by
 cases t with
 |false=>exact wpAny_nextOf_list_end hh lO hl hx q
 |true=>exact zdZ hh lO hl hx q
def vT(h:Heap)(z TI TO:Addr)(f0 f1:Value):Prop:=h.get? z=some {cls:= .type "zip",dict:=none,data:= .fields #[f0,f1,.bool false,.ref TI,.ref TO],slots:= #[]}
theorem wT{z TI TO:Addr}{f0 f1:Value}{Q:Bool->Shared->Prop}(hz:vT s.heap z TI TO f0 f1)(hf:f0= .none\/ ∃T:Addr,f0=rawInt T)
 (q: ∀b h' f1',vT h' z TI TO f0 f1'->Heap.SameBut z s.heap h'->Q b {s with heap:=h'}):wpAny (model P w) A (Builtin.SmallTypes.ownedTupleIsFree (.ref z)) Q E s:=by
 unfold Builtin.SmallTypes.ownedTupleIsFree
 refine wpAny_bind (wpAny_field hz rfl (x:=f0) rfl ?_)
 rcases hf with rfl|⟨T,rfl⟩
 . exact wpAny_pure (q true s.heap f1 hz ⟨rfl,λ_ _=>rfl⟩)
 . show wpAny _ _ (loadIfAlive _>>=_) Q E s
   refine wpAny_bind (zem ?_);refine wpAny_ite_split (λ_=>wpAny_pure (q true s.heap f1 hz ⟨rfl,λ_ _=>rfl⟩)) (λ_=> ?_);refine wpAny_bind (wpAny_field hz rfl (x:=f1) rfl ?_);refine wpAny_ite_split (λ_=> ?_) (λ_=>wpAny_pure (q false s.heap f1 hz ⟨rfl,λ_ _=>rfl⟩));exact wpAny_bind (wpAny_setField_rec hz (by simp) λh' j6 hs=>wpAny_pure (q false h' (.bool true) j6 hs))
end
section
variable {P:Program}{w:World}
structure lP(t1 t2:Bool)(z TI TO i1 i2 l1 l2:Addr)(k:Nat)(h:Heap):Prop where
 zo: ∃f0 f1,vT h z TI TO f0 f1/\(f0= .none\/ ∃T:Addr,f0=rawInt T)
 ti:IsPair h TI (.ref i1) (.ref i2)
 to: ∃p q,IsPair h TO p q
 a1:jM t1 h i1 l1 k
 a2:jM t2 h i2 l2 k
theorem zkg{t1 t2:Bool}{z TI TO i1 i2 l1 l2:Addr}{k:Nat}{xs ys:Array Value}{x y:Value}{Q:Value->Shared->Prop}(D:ZipApart z TI TO i1 i2 l1 l2)(st:lP t1 t2 z TI TO i1 i2 l1 l2 k s.heap)
 (zY:gA t1 s.heap l1 xs) (bZ:gA t2 s.heap l2 ys) (hx:xs[k]?=some x) (hy:ys[k]?=some y)
 (q: ∀h',lP t1 t2 z TI TO i1 i2 l1 l2 (k+1) h'->IsPair h' s.heap.objs.size x y->(∀c o,c≠z->c≠TO->c≠i1->c≠i2->s.heap.get? c=some o->h'.get? c=some o)->Q (.ref s.heap.objs.size) {s with heap:=h'}):
 wpAny (model P w) A (Builtin.«zip.__next__» ⟨[.ref z],[]⟩) (λfF s'=> ∃v,fF= .done (.ret v)/\Q v s') E s:=by
 obtain⟨⟨f0,f1,hz,hf⟩,hTI,⟨p,r,hTO⟩,h1,h2⟩:=st
 show wpAny _ _ (field (.ref z) 2>>=_) _ _ _
 refine wpAny_bind (wpAny_field hz rfl (x:= .bool false) rfl ?_)
 show wpAny _ _ (field (.ref z) 3>>=_) _ _ _
 refine wpAny_bind (wpAny_field hz rfl (x:= .ref TI) rfl (wpAny_bind (wpAny_seqItems hTI rfl ?_)))
 show wpAny _ _ (Builtin.SmallTypes.ownedTupleIsFree (.ref z)>>=_) _ _ _
 refine wpAny_bind (wT hz hf λb h0 f1' hz0 s0=> ?_)
 have e0: ∀{c:Addr},c≠z-> ∀o,s.heap.get? c=some o->h0.get? c=some o:= λn o e=>(s0.2 _ n).trans e
 replace hTI:=e0 D.TIz _ hTI
 replace hTO:=e0 D.TOz _ hTO
 replace h1:=h1.at (e0 D.i1z)
 replace h2:=h2.at (e0 D.i2z)
 replace zY:=zY.at (e0 D.l1z)
 replace bZ:=bZ.at (e0 D.l2z)
 have z0:h0.objs.size=s.heap.objs.size:=s0.1
 cases b with
 |true=>
  simp only[if_true];refine wpAny_bind (wpAny_rule (wpAny_bind (wpAny_field hz0 rfl (x:= .ref TO) rfl ?_)));refine wpAny_bind (wpAny_setField_rec hz0 (by simp) λg1 z1 s1=> ?_);replace z1:vT g1 z TI TO .ellipsis f1':=z1;refine wpAny_bind ?_;simp only[List.zipIdx_cons,List.zipIdx_nil,List.forIn_cons,List.forIn_nil];refine wpAny_bind (wpAny_bind (wpAny_onRaise ?_));show wpAny _ _ (Builtin.SmallTypes.nextOf (.ref i1)>>=_) _ _ _;refine wpAny_bind (kZ (h1.at λo e=>(s1.2 _ D.i1z).trans e) (zY.at λo e=>(s1.2 _ D.l1z).trans e) hx λg2 b1 s2=>wpAny_pure ?_);have to2:IsPair g2 TO p r:=(s2.2 _ D.TOi1).trans ((s1.2 _ D.TOz).trans hTO);refine wpAny_bind (wpAny_seqItems to2 rfl (wpAny_bind (wpAny_updateSeq_pair to2 λg3 to3 s3=> ?_)));replace to3:IsPair g3 TO x r:=to3;refine wpAny_bind (wpAny_letGo (wpAny_pure (wpAny_bind (wpAny_bind (wpAny_onRaise ?_)))));show wpAny _ _ (Builtin.SmallTypes.nextOf (.ref i2)>>=_) _ _ _;refine wpAny_bind (kZ (h2.at λo e=>(s3.2 _ D.TOi2.symm).trans ((s2.2 _ D.i12.symm).trans ((s1.2 _ D.i2z).trans e))) (bZ.at λo e=>(s3.2 _ D.l2TO).trans ((s2.2 _ D.l2i1).trans ((s1.2 _ D.l2z).trans e))) hy λg4 b2 s4=>wpAny_pure ?_);have to4:IsPair g4 TO x r:=(s4.2 _ D.TOi2).trans to3;refine wpAny_bind (wpAny_seqItems to4 rfl (wpAny_bind (wpAny_updateSeq_pair to4 λg5 to5 s5=> ?_)));replace to5:IsPair g5 TO x y:=to5;refine wpAny_bind (wpAny_letGo (wpAny_pure (wpAny_pure (wpAny_bind (wpAny_seqItems to5 rfl (wpAny_bind (wpAny_newTuple ?_)))))));have sz:g5.objs.size=s.heap.objs.size:=by rw[s5.1,s4.1,s3.1,s2.1,s1.1,z0]
  have z5:vT g5 z TI TO .ellipsis f1':=(s5.2 _ D.TOz.symm).trans ((s4.2 _ D.i2z.symm).trans ((s3.2 _ D.TOz.symm).trans ((s2.2 _ D.i1z.symm).trans z1)));have k5: ∀c o,c≠z->c≠TO->c≠i1->c≠i2->s.heap.get? c=some o->g5.get? c=some o:= λc o c1 c2 c3 c4 e=>(s5.2 _ c2).trans ((s4.2 _ c4).trans ((s3.2 _ c2).trans ((s2.2 _ c3).trans ((s1.2 _ c1).trans (e0 c1 o e)))));have a5:jM t1 g5 i1 l1 (k+1):=b1.at λo e=>(s5.2 _ D.TOi1.symm).trans ((s4.2 _ D.i12).trans ((s3.2 _ D.TOi1.symm).trans e));have c5:jM t2 g5 i2 l2 (k+1):=b2.at λo e=>(s5.2 _ D.TOi2.symm).trans e;have i5:IsPair g5 TI (.ref i1) (.ref i2):=(s5.2 _ D.TITO).trans ((s4.2 _ D.TIi2).trans ((s3.2 _ D.TITO).trans ((s2.2 _ D.TIi1).trans ((s1.2 _ D.TIz).trans hTI))));show wpAny _ _ (Builtin.SmallTypes.ownedTupleHandOut (.ref z) (.ref g5.objs.size)>>=_) _ _ _;refine wpAny_bind ?_;unfold Builtin.SmallTypes.ownedTupleHandOut;have z6:vT (g5.push {cls:= .type "tuple",data:= .seq #[x,y]}) z TI TO .ellipsis f1':=Heap.get?_push_of_some _ z5;refine wpAny_bind (wpAny_setField_rec z6 (by simp) λg7 z7 s7=> ?_);replace z7:vT g7 z TI TO (rawInt g5.objs.size) f1':=z7;refine wpAny_setField_rec z7 (by simp) λg8 z8 s8=> ?_;replace z8:vT g8 z TI TO (rawInt g5.objs.size) (.bool false):=z8;have up: ∀c o,c≠z->g5.get? c=some o->g8.get? c=some o:= λc o c1 e=>(s8.2 _ c1).trans ((s7.2 _ c1).trans (Heap.get?_push_of_some _ e));have nz:g5.objs.size≠z:=Nat.ne_of_gt (Heap.lt_size z5);have new:IsPair g8 g5.objs.size x y:=(s8.2 _ nz).trans ((s7.2 _ nz).trans (Heap.get?_push_size _ rfl));refine wpAny_pure ⟨_,rfl,?_⟩;show Q (.ref g5.objs.size) _;rw[sz]at new ⊢;exact q g8 ⟨⟨_,_,z8,.inr ⟨_,rfl⟩⟩,up _ _ D.TIz i5,⟨_,_,up _ _ D.TOz to5⟩,a5.at λo e=>up _ o D.i1z e,c5.at λo e=>up _ o D.i2z e⟩ new λc o c1 c2 c3 c4 e=>up c o c1 (k5 c o c1 c2 c3 c4 e)
 |false=>
  simp only[Bool.false_eq_true,if_false];refine wpAny_bind ?_;show wpAny _ _ (forIn #[Value.ref i1,.ref i2] _ _) _ _ _;rw[<-Array.forIn_toList];show wpAny _ _ (forIn [Value.ref i1,.ref i2] _ _) _ _ _;simp only[List.forIn_cons,List.forIn_nil];refine wpAny_bind (wpAny_bind (wpAny_holding ?_));show wpAny _ _ (Builtin.SmallTypes.nextOf (.ref i1)>>=_) _ _ _;refine wpAny_bind (kZ h1 zY hx λg2 b1 s2=>wpAny_pure (wpAny_pure (wpAny_bind (wpAny_bind (wpAny_holding ?_)))));show wpAny _ _ (Builtin.SmallTypes.nextOf (.ref i2)>>=_) _ _ _;refine wpAny_bind (kZ (h2.at λo e=>(s2.2 _ D.i12.symm).trans e) (bZ.at λo e=>(s2.2 _ D.l2i1).trans e) hy λg4 b2 s4=>wpAny_pure (wpAny_pure (wpAny_pure ?_)));show wpAny _ _ (newTuple [x,y]>>=_) _ _ _;refine wpAny_bind (wpAny_newTuple (wpAny_pure ⟨_,rfl,?_⟩));have sz:g4.objs.size=s.heap.objs.size:=by rw[s4.1,s2.1,z0]
  have k4: ∀c o,c≠i1->c≠i2->h0.get? c=some o->g4.get? c=some o:= λc o c3 c4 e=>(s4.2 _ c4).trans ((s2.2 _ c3).trans e);have up: ∀c o,g4.get? c=some o->(g4.push {cls:= .type "tuple",data:= .seq #[x,y]}).get? c=some o:= λc o e=>Heap.get?_push_of_some _ e;have new:IsPair (g4.push {cls:= .type "tuple",data:= .seq #[x,y]}) g4.objs.size x y:=Heap.get?_push_size _ rfl;show Q (.ref g4.objs.size) _;rw[sz]at new ⊢;exact q _ ⟨⟨_,_,up _ _ (k4 _ _ D.i1z.symm D.i2z.symm hz0),hf⟩,up _ _ (k4 _ _ D.TIi1 D.TIi2 hTI),⟨_,_,up _ _ (k4 _ _ D.TOi1 D.TOi2 hTO)⟩,b1.at λo e=>up _ o ((s4.2 _ D.i12).trans e),b2.at λo e=>up _ o e⟩ new λc o c1 c2 c3 c4 e=>up c o (k4 c o c3 c4 (e0 c1 o e))
end
section
variable {P:Program}{w:World}
theorem znP{t1 t2:Bool}{z TI TO i1 i2 l1 l2:Addr}{k:Nat}{xs:Array Value}{Q:PySem.Fin->Shared->Prop}(hh:A.handled=none)(D:ZipApart z TI TO i1 i2 l1 l2)(st:lP t1 t2 z TI TO i1 i2 l1 l2 k s.heap)
 (zY:gA t1 s.heap l1 xs) (hx:xs[k]?=none)
 (q: ∀h' e,(∀c o,c≠z->c≠TO->c≠i1->c≠i2->s.heap.get? c=some o->h'.get? c=some o)->(∃o,h'.get? e=some o/\o.cls= .type "StopIteration")->E (.ref e) {s with heap:=h'}):
 wpAny (model P w) A (Builtin.«zip.__next__» ⟨[.ref z],[]⟩) Q E s:=by
 obtain⟨⟨f0,f1,hz,hf⟩,hTI,⟨p,r,hTO⟩,h1,h2⟩:=st
 show wpAny _ _ (field (.ref z) 2>>=_) _ _ _
 refine wpAny_bind (wpAny_field hz rfl (x:= .bool false) rfl ?_)
 show wpAny _ _ (field (.ref z) 3>>=_) _ _ _
 refine wpAny_bind (wpAny_field hz rfl (x:= .ref TI) rfl (wpAny_bind (wpAny_seqItems hTI rfl ?_)))
 show wpAny _ _ (Builtin.SmallTypes.ownedTupleIsFree (.ref z)>>=_) _ _ _
 refine wpAny_bind (wT hz hf λb h0 f1' hz0 s0=> ?_)
 have e0: ∀{c:Addr},c≠z-> ∀o,s.heap.get? c=some o->h0.get? c=some o:= λn o e=>(s0.2 _ n).trans e
 replace h1:=h1.at (e0 D.i1z)
 replace zY:=zY.at (e0 D.l1z)
 cases b with
 |true=>
  simp only[if_true];refine wpAny_bind (wpAny_rule (wpAny_bind (wpAny_field hz0 rfl (x:= .ref TO) rfl ?_)));refine wpAny_bind (wpAny_setField_rec hz0 (by simp) λg1 z1 s1=> ?_);replace z1:vT g1 z TI TO .ellipsis f1':=z1;refine wpAny_bind ?_;simp only[List.zipIdx_cons,List.zipIdx_nil,List.forIn_cons,List.forIn_nil];refine wpAny_bind (wpAny_bind (wpAny_onRaise ?_));show wpAny _ _ (Builtin.SmallTypes.nextOf (.ref i1)>>=_) _ _ _;refine wpAny_bind (wJ hh (h1.at λo e=>(s1.2 _ D.i1z).trans e) (zY.at λo e=>(s1.2 _ D.l1z).trans e) hx λg2 e s2 he=> ?_);obtain⟨oe,hoe,hce⟩:=he;have z2:vT g2 z TI TO .ellipsis f1':=s2 _ _ D.i1z.symm z1;have ez:e≠z:= λx=>by rw[x,z2]at hoe;cases hoe;simp at hce
  exact wpAny_setField_rec z2 (by simp) λg3 _ s3=>q g3 e (λc o c1 _ c3 _ x=>(s3.2 _ c1).trans (s2 _ _ c3 ((s1.2 _ c1).trans (e0 c1 o x)))) ⟨oe,(s3.2 _ ez).trans hoe,hce⟩
 |false=>
  simp only[Bool.false_eq_true,if_false];refine wpAny_bind ?_;show wpAny _ _ (forIn #[Value.ref i1,.ref i2] _ _) _ _ _;rw[<-Array.forIn_toList];show wpAny _ _ (forIn [Value.ref i1,.ref i2] _ _) _ _ _;simp only[List.forIn_cons,List.forIn_nil];refine wpAny_bind (wpAny_bind (wpAny_holding ?_));show wpAny _ _ (Builtin.SmallTypes.nextOf (.ref i1)>>=_) _ _ _;exact wpAny_bind (wJ hh h1 zY hx λg2 e s2 he=>q g2 e (λc o c1 _ c3 _ x=>s2 _ _ c3 (e0 c1 o x)) he)
theorem ziQ{t1 t2:Bool}{z TI TO i1 i2 l1 l2:Addr}{k:Nat}{xs ys:Array Value}{x y:Value}{Q:Option Value->Shared->Prop}(D:ZipApart z TI TO i1 i2 l1 l2)(st:lP t1 t2 z TI TO i1 i2 l1 l2 k s.heap)
 (zY:gA t1 s.heap l1 xs) (bZ:gA t2 s.heap l2 ys) (hx:xs[k]?=some x) (hy:ys[k]?=some y)
 (q: ∀h',lP t1 t2 z TI TO i1 i2 l1 l2 (k+1) h'->IsPair h' s.heap.objs.size x y->(∀c o,c≠z->c≠TO->c≠i1->c≠i2->s.heap.get? c=some o->h'.get? c=some o)->Q (some (.ref s.heap.objs.size)) {s with heap:=h'}):
 wpAny (model P w) A (pyNext (.ref z)) Q E s:=by
 have ty:s.TypeIs (.ref z) "zip" :=let⟨_,_,hz,_⟩:=st.zo;⟨_,hz,rfl⟩
 unfold pyNext
 exact wpAny_bind (wpAny_attempt (wpAny_callSpecial?_slot (name:=Str.ofString "__next__") ty PySem.F.slot_zip_next (wpAny_call_entry PySem.F.slot_zip_next ty PySem.F.entry_zip_next (zkg D st zY bZ hx hy λh' a1 a2 a3=>wpAny_pure (q h' a1 a2 a3)) (PySem.F.args_zip_next_1 _))))
theorem zng{t1 t2:Bool}{z TI TO i1 i2 l1 l2:Addr}{k:Nat}{xs:Array Value}{Q:Option Value->Shared->Prop}(hh:A.handled=none)(D:ZipApart z TI TO i1 i2 l1 l2)(st:lP t1 t2 z TI TO i1 i2 l1 l2 k s.heap)
 (zY:gA t1 s.heap l1 xs) (hx:xs[k]?=none) (q: ∀h',(∀c o,c≠z->c≠TO->c≠i1->c≠i2->s.heap.get? c=some o->h'.get? c=some o)->Q none {s with heap:=h'}):wpAny (model P w) A (pyNext (.ref z)) Q E s:=by
 have ty:s.TypeIs (.ref z) "zip" :=let⟨_,_,hz,_⟩:=st.zo;⟨_,hz,rfl⟩
 unfold pyNext
 refine wpAny_bind (wpAny_attempt (wpAny_callSpecial?_slot (name:=Str.ofString "__next__") ty PySem.F.slot_zip_next (wpAny_call_entry PySem.F.slot_zip_next ty PySem.F.entry_zip_next (znP hh D st zY hx λh' e kk ⟨oe,hoe,hce⟩=> ?_) (PySem.F.args_zip_next_1 _))))
 exact wpAny_bind (wpAny_isInstance (T:= "StopIteration") (b:=true) ⟨_,hoe,hce⟩ isSubtype_stop (wpAny_pure (q h' kk)))
def itO(t:Bool)(l:Addr):Obj:={cls:= .type (if t=true then "tuple_iterator" else "list_iterator"),data:= .fields #[.ref l,.int 0 0]}
abbrev zq2(t1 t2:Bool)(h:Heap)(l1 l2:Addr):Heap:=(h.push (itO t1 l1)).push (itO t2 l2)
abbrev zq3(t1 t2:Bool)(h:Heap)(l1 l2:Addr):Heap:=(zq2 t1 t2 h l1 l2).push {cls:= .type "tuple",data:= .seq #[.ref h.objs.size,.ref (h.push (itO t1 l1)).objs.size]}
abbrev zq4(t1 t2:Bool)(h:Heap)(l1 l2:Addr):Heap:=(zq3 t1 t2 h l1 l2).push {cls:= .type "tuple",data:= .seq #[.none,.none]}
abbrev zq5(t1 t2:Bool)(h:Heap)(l1 l2:Addr):Heap:=(zq4 t1 t2 h l1 l2).push {cls:= .type "zip",data:= .fields #[.none,.bool false,.bool false,.ref (zq2 t1 t2 h l1 l2).objs.size,.ref (zq3 t1 t2 h l1 l2).objs.size]}
theorem zhg(t1 t2:Bool)(l1 l2:Addr)(xs ys:Array Value):Meets (Builtin.«zip.__new__» ⟨[.type "zip",.ref l1,.ref l2],[]⟩) (λ_ R s=>(gA t1 s.heap l1 xs/\gA t2 s.heap l2 ys)/\R (.ok (.ret (.ref (zq4 t1 t2 s.heap l1 l2).objs.size))) {s with heap:=zq5 t1 t2 s.heap l1 l2}):=
 .of_wp λprog w A R s ⟨⟨k1,k2⟩,h⟩=>by
  obtain⟨hp,g,d,tk,os⟩:=s;have sub:=sub_zip;have k2':=gA.at k2 (h':=hp.push (itO t1 l1)) λo e=>Heap.get?_push_of_some _ e;cases t1<;>cases t2
  . have c1:Heap.IsList (Shared.heap ⟨hp,g,d,tk,os⟩) l1 xs:=k1;have c2:Heap.IsList (Shared.heap ⟨hp.push {cls:= .type "list_iterator",data:= .fields #[.ref l1,.int 0 0]},g,d,tk,os⟩) l2 ys:=k2'
    wp_walk using wpAny_pyIter_list c1,wpAny_pyIter_list c2
    exact⟨_,rfl,h⟩
  . have c1:Heap.IsList (Shared.heap ⟨hp,g,d,tk,os⟩) l1 xs:=k1;have c2:Heap.IsTuple (Shared.heap ⟨hp.push {cls:= .type "list_iterator",data:= .fields #[.ref l1,.int 0 0]},g,d,tk,os⟩) l2 ys:=k2'
    wp_walk using wpAny_pyIter_list c1,wpAny_pyIter_tuple c2
    exact⟨_,rfl,h⟩
  . have c1:Heap.IsTuple (Shared.heap ⟨hp,g,d,tk,os⟩) l1 xs:=k1;have c2:Heap.IsList (Shared.heap ⟨hp.push {cls:= .type "tuple_iterator",data:= .fields #[.ref l1,.int 0 0]},g,d,tk,os⟩) l2 ys:=k2'
    wp_walk using wpAny_pyIter_tuple c1,wpAny_pyIter_list c2
    exact⟨_,rfl,h⟩
  . have c1:Heap.IsTuple (Shared.heap ⟨hp,g,d,tk,os⟩) l1 xs:=k1;have c2:Heap.IsTuple (Shared.heap ⟨hp.push {cls:= .type "tuple_iterator",data:= .fields #[.ref l1,.int 0 0]},g,d,tk,os⟩) l2 ys:=k2'
    wp_walk using wpAny_pyIter_tuple c1,wpAny_pyIter_tuple c2
    exact⟨_,rfl,h⟩
theorem zih{t:Bool}{h:Heap}{i l:Addr}(e:h.get? i=some (itO t l)):jM t h i l 0:=by
 cases t with
 |false=>exact⟨_,e,rfl,rfl⟩
 |true=>exact⟨_,e,rfl,rfl⟩
theorem zoi{t1 t2:Bool}{l1 l2:Addr}{xs ys:Array Value}{Q:Value->Shared->Prop}(zY:gA t1 s.heap l1 xs)(bZ:gA t2 s.heap l2 ys)
 (q: ∀h',lP t1 t2 (s.heap.objs.size+4) (s.heap.objs.size+2) (s.heap.objs.size+3) s.heap.objs.size (s.heap.objs.size+1) l1 l2 0 h'->(∀c o,s.heap.get? c=some o->h'.get? c=some o)->Q (.ref (s.heap.objs.size+4)) {s with heap:=h'}):
 wpAny (model P w) A (call (.type "zip") [.ref l1,.ref l2]) Q E s:=by
 refine callType_new PySem.F.called_zip (by decide) (PySem.F.typeCall_zip_2 _ _) (PySem.F.newCall_zip_2 _ _) (λobj=>PySem.F.args_object_init_3 obj _ _) PySem.F.entry_zip_new (zhg t1 t2 l1 l2 xs ys) ⟨⟨zY,bZ⟩,?_⟩
 have y1:(s.heap.push (itO t1 l1)).objs.size=s.heap.objs.size+1:=Heap.size_push ..
 have y2:(zq2 t1 t2 s.heap l1 l2).objs.size=s.heap.objs.size+2:=by rw[Heap.size_push,y1]
 have y3:(zq3 t1 t2 s.heap l1 l2).objs.size=s.heap.objs.size+3:=by rw[Heap.size_push,y2]
 have y4:(zq4 t1 t2 s.heap l1 l2).objs.size=s.heap.objs.size+4:=by rw[Heap.size_push,y3]
 have nf: ∀t l,(itO t l).isFreed=false:= λt l=>rfl
 have g5:(zq5 t1 t2 s.heap l1 l2).get? (zq4 t1 t2 s.heap l1 l2).objs.size=some _:=Heap.get?_push_size _ rfl
 have g4:(zq5 t1 t2 s.heap l1 l2).get? (zq3 t1 t2 s.heap l1 l2).objs.size=some _:=Heap.get?_push_of_some _ (Heap.get?_push_size _ rfl)
 have g3:(zq5 t1 t2 s.heap l1 l2).get? (zq2 t1 t2 s.heap l1 l2).objs.size=some _:=Heap.get?_push_of_some _ (Heap.get?_push_of_some _ (Heap.get?_push_size _ rfl))
 have g2:(zq5 t1 t2 s.heap l1 l2).get? (s.heap.push (itO t1 l1)).objs.size=some _:=Heap.get?_push_of_some _ (Heap.get?_push_of_some _ (Heap.get?_push_of_some _ (Heap.get?_push_size _ (nf t2 l2))))
 have g1:(zq5 t1 t2 s.heap l1 l2).get? s.heap.objs.size=some _:=Heap.get?_push_of_some _ (Heap.get?_push_of_some _ (Heap.get?_push_of_some _ (Heap.get?_push_of_some _ (Heap.get?_push_size _ (nf t1 l1)))))
 show _/\_
 rw[y2,y3,y4]at g5
 rw[y1,y2]at g3
 rw[y3]at g4
 rw[y1]at g2
 rw[y4]
 exact⟨⟨_,g5,rfl⟩,q _ ⟨⟨_,_,g5,.inl rfl⟩,g3,⟨_,_,g4⟩,zih g1,zih g2⟩ λc o x=>Heap.get?_push_of_some _ (Heap.get?_push_of_some _ (Heap.get?_push_of_some _ (Heap.get?_push_of_some _ (Heap.get?_push_of_some _ x))))⟩
end
def SqX(t:Bool)(K:W.Frag)(H:Hp)(a:Addr)(xs:List V):Prop:=match t with
 |false=>bB K H a xs
 |true=>eS K H a xs
section
variable {aB:List (Addr×Obj)}{σ:St}{H:Hp}{t:Bool}{a:Addr}{xs ys:List V}
theorem aX.seqX(I:aX X aB σ H s)(h:SqX t X.K H a xs): ∃bC:List Value,bP xs bC/\gA t s.heap a bC.toArray/\xs.length<=sizeLine:=by
 cases t with
 |false=>obtain⟨bC,r,p,z⟩:=I.list h;exact⟨bC,r,p.isList,z⟩
 |true=>
  obtain⟨bC,r,p,z⟩:=I.tuple h;obtain⟨o,e,c,n,d⟩:=p;exact⟨bC,r,⟨o,e,c,n,d⟩,z⟩
end
theorem lP.obj{t1 t2:Bool}{z TI TO i1 i2 a b:Addr}{i:Nat}{h:Heap}(st:lP t1 t2 z TI TO i1 i2 a b i h): ∀c∈ [z,TI,TO,i1,i2],∃o,h.get? c=some o/\ ∀v,o.data≠ .cell v:= λc hc=>by
 obtain⟨⟨f0,f1,h1,_⟩,h2,⟨p,q,h3⟩,h4,h5⟩:=st
 simp only[List.mem_cons,List.not_mem_nil,or_false]at hc
 rcases hc with rfl|rfl|rfl|rfl|rfl
 . exact⟨_,h1,λv z=>nomatch (show Data.fields _=Data.cell v from z)⟩
 . exact⟨_,h2,λv z=>nomatch (show Data.seq _ _=Data.cell v from z)⟩
 . exact⟨_,h3,λv z=>nomatch (show Data.seq _ _=Data.cell v from z)⟩
 . exact h4.obj
 . exact h5.obj
theorem lP.keep{t1 t2:Bool}{z TI TO i1 i2 a b:Addr}{i:Nat}{h h':Heap}(st:lP t1 t2 z TI TO i1 i2 a b i h)(kk: ∀c∈ [z,TI,TO,i1,i2],∀o,h.get? c=some o->h'.get? c=some o):lP t1 t2 z TI TO i1 i2 a b i h':=by
 obtain⟨⟨f0,f1,h1,hf⟩,h2,⟨p,q,h3⟩,h4,h5⟩:=st
 exact⟨⟨f0,f1,kk z (by simp) _ h1,hf⟩,kk TI (by simp) _ h2,⟨p,q,kk TO (by simp) _ h3⟩,h4.at λo e=>kk i1 (by simp) o e,h5.at λo e=>kk i2 (by simp) o e⟩
theorem ziO{P:Program}{w:World}{A:Around}{E:Value->Shared->Prop}{s:Shared}{t1 t2:Bool}{z TI TO i1 i2 a b:Addr}{i:Nat}{Q:Value->Shared->Prop}(st:lP t1 t2 z TI TO i1 i2 a b i s.heap)(q:Q (.ref z) s):wpAny (model P w) A (pyIter (.ref z)) Q E s:=by
 have ty:s.TypeIs (.ref z) "zip" :=let⟨_,_,hz,_⟩:=st.zo;⟨_,hz,rfl⟩
 refine wpAny_pyIter_slot ty PySem.F.slot_zip_iter (wpAny_call_entry PySem.F.slot_zip_iter ty PySem.F.entry_zip_iter ?_ (PySem.F.args_zip_iter_1 _))
 show wpAny _ _ (ret (.ref z)) _ _ s
 exact wpAny_pure ⟨_,rfl,"zip",_,ty,PySem.F.slot_zip_next.lookup,q⟩
theorem zjD{X:Cx}{aB:List (Addr×Obj)}{σ:St}{H:Hp}{s:Shared}{A:Around}{E:Value->Shared->Prop}{t1 t2:Bool}{z TI TO i1 i2 a b:Addr}{i:Nat}{xs ys:List V}{x y:V}{Q:Option Value->Shared->Prop}(D:ZipApart z TI TO i1 i2 a b)(I:aX X aB σ H s)(hf: ∀c∈ [z,TI,TO,i1,i2],iF X aB H c)(st:lP t1 t2 z TI TO i1 i2 a b i s.heap)
 (h1:SqX t1 X.K H a xs) (h2:SqX t2 X.K H b ys) (hx:xs[i]?=some x) (hy:ys[i]?=some y)
 (q: ∀T s',H T=none->aX X aB σ (aO H T (.tup [x,y])) s'->lP t1 t2 z TI TO i1 i2 a b (i+1) s'.heap->(∀c∈ [z,TI,TO,i1,i2],aO H T (.tup [x,y]) c=none)->s.heap.objs.size<=T->Q (some (.ref T)) s'):wpAny (model X.prog X.w) A (pyNext (.ref z)) Q E s:=by
 obtain⟨zhK,rv1,pl1,hz1⟩:=I.seqX h1
 obtain⟨qL,rv2,pl2,d7⟩:=I.seqX h2
 obtain⟨u1,hu1,ru1⟩:=rv1.get hx
 obtain⟨u2,hu2,ru2⟩:=rv2.get hy
 have ob:=st.obj
 refine ziQ D st pl1 pl2 (x:=u1) (y:=u2) (by simpa using hu1) (by simpa using hu2) λh' st' pr kk=> ?_
 have kp: ∀c o,c∉ [z,TI,TO,i1,i2]->s.heap.get? c=some o->h'.get? c=some o:= λc o hc e=>by
  simp only[List.mem_cons,List.not_mem_nil,or_false,not_or]at hc;exact kk c o hc.1 hc.2.2.1 hc.2.2.2.1 hc.2.2.2.2 e
 refine q s.heap.objs.size _ I.fresh (I.turnLaid (o:= .tup [x,y]) (t':=s.toks) hf kp (Nat.le_refl _) ⟨by show 2<=sizeLine;rw[sizeLine_eq];decide,[u1,u2],.cons ru1 (.cons ru2 .nil),⟨_,pr,rfl,_,rfl⟩⟩) st' (λc hc=> ?_) (Nat.le_refl _)
 obtain⟨o,ho,_⟩:=ob c hc
 rw[aG (Nat.ne_of_lt (Heap.lt_size ho))]
 exact(hf c hc).1
theorem zjt{X:Cx}{aB:List (Addr×Obj)}{σ:St}{H:Hp}{s:Shared}{A:Around}{E:Value->Shared->Prop}{t1 t2:Bool}{z TI TO i1 i2 a b:Addr}{i:Nat}{xs:List V}{Q:Option Value->Shared->Prop}(hh:A.handled=none)(D:ZipApart z TI TO i1 i2 a b)(I:aX X aB σ H s)(hf: ∀c∈ [z,TI,TO,i1,i2],iF X aB H c)(st:lP t1 t2 z TI TO i1 i2 a b i s.heap)
 (h1:SqX t1 X.K H a xs) (hx:xs.length<=i) (q: ∀s',aX X aB σ H s'->(∀c o,c∉ [z,TI,TO,i1,i2]->s.heap.get? c=some o->s'.heap.get? c=some o)->Q none s'):wpAny (model X.prog X.w) A (pyNext (.ref z)) Q E s:=by
 obtain⟨zhK,rv1,pl1,hz1⟩:=I.seqX h1
 have l1:=rv1.length
 refine zng hh D st pl1 (by simp;omega) λh' kk=> ?_
 have kp: ∀c o,c∉ [z,TI,TO,i1,i2]->s.heap.get? c=some o->h'.get? c=some o:= λc o hc e=>by
  simp only[List.mem_cons,List.not_mem_nil,or_false,not_or]at hc;exact kk c o hc.1 hc.2.2.1 hc.2.2.2.1 hc.2.2.2.2 e
 exact q _ (I.turnedL (t':=s.toks) hf kp) kp
theorem gA.lt{t:Bool}{h:Heap}{l:Addr}{xs:Array Value}(x:gA t h l xs):l<h.objs.size:=by
 cases t with
 |false=>obtain⟨o,ho,_⟩:=x;exact Heap.lt_size ho
 |true=>obtain⟨o,ho,_⟩:=x;exact Heap.lt_size ho
theorem zeP:typeLookup (.type "zip") "__len__" =pure none:=by rw[typeLookup_type,builtinLookup_eq_fast];kernel_rfl
theorem zbc:typeLookup (.type "zip") "__length_hint__" =pure none:=by rw[typeLookup_type,builtinLookup_eq_fast];kernel_rfl
theorem zhD{P:Program}{w:World}{A:Around}{E:Value->Shared->Prop}{s:Shared}{z:Addr}{Q:Bool->Shared->Prop}(ty:s.TypeIs (.ref z) "zip")(q:Q true s):wpAny (model P w) A (Builtin.List.listLengthHint (.ref z)) Q E s:=by
 unfold Builtin.List.listLengthHint
 refine wpAny_bind (wpAny_specialOf ty zeP ?_)
 show wpAny _ _ (specialOf (.ref z) "__length_hint__" >>=_) Q E s
 exact wpAny_bind (wpAny_specialOf ty zbc (wpAny_pure q))
abbrev oE(H:Hp):List Addr->List (V×V)->Prop:=Paired λT p=>H T=some (.tup [p.1,p.2])
section
variable {aB:List (Addr×Obj)}{σ:St}
theorem ziN{A:Around}{R:Result->Shared->Prop}{z TI TO i1 i2 a b S:Addr}{xs ys:List V}{res:Value}{H0:Hp}(hh:A.handled=none)(D:ZipApart z TI TO i1 i2 a b)(dL:xs.length=ys.length)(hl:xs.length<=100000)
 (ha:bB X.K H0 a xs) (hb:bB X.K H0 b ys) (hS0:H0 S=none) (hSf:S∉ [z,TI,TO,i1,i2]): ∀(k i:Nat) (s:Shared) (H:Hp) (Ts:List Addr),xs.length - i=k->i<=xs.length->aX X aB σ H s->(∀c∈ [z,TI,TO,i1,i2],iF X aB H c)->lP false false z TI TO i1 i2 a b i s.heap->
  Same H0 H->H S=some (.lst (Ts.map V.ref))->oE H Ts ((xs.zip ys).take i)->
  (∀s' H' Ts',aX X aB σ H' s'->Same H0 H'->H' S=some (.lst (Ts'.map V.ref))->oE H' Ts' (xs.zip ys)->R (.ok (.ret res)) s')->codeAny (model X.prog X.w) A (.builtin "list.extend.loop" ⟨[.ref S,.ref z,res],[]⟩) R s:=by
 have hzl:(xs.zip ys).length=xs.length:=by rw[List.length_zip];omega
 intro k
 induction k with
 |zero=>
  intro i s H Ts hk hi I hf st x hS hP q;refine codeAny_builtin PySem.F.entry_extend_loop ?_;rw[Around.under_plainId PySem.F.plain_extend_loop _];show wpAny _ A.in1 (pyNext (.ref z)>>=_) _ _ s;refine wpAny_bind (zjt (show A.in1.handled=none from hh) D I hf st (show SqX false X.K H a xs from x.seq ha) (by omega) λs' I' _=>wpAny_pure (q s' H Ts I' x hS ?_));rw[List.take_of_length_le (by omega)]at hP;exact hP
 |succ k ih=>
  intro i s H Ts hk hi I hf st x hS hP q;have eY:i<xs.length:=by omega
  refine codeAny_builtin PySem.F.entry_extend_loop ?_;rw[Around.under_plainId PySem.F.plain_extend_loop _];show wpAny _ A.in1 (pyNext (.ref z)>>=_) _ _ s;have hx:xs[i]?=some xs[i]:=List.getElem?_eq_getElem eY;have hy:ys[i]?=some (ys[i]'(dL▸eY)):=List.getElem?_eq_getElem (dL▸eY);refine wpAny_bind (zjD D I hf st (show SqX false X.K H a xs from x.seq ha) (show SqX false X.K H b ys from x.seq hb) hx hy λT s' hT I' st' hn hTs=> ?_);have hS':aO H T (.tup [xs[i],ys[i]'(dL▸eY)]) S=some (.lst (Ts.map V.ref)):=by rw[aG (aI hS hT)];exact hS
  obtain⟨zl,bC,n,rv,e⟩:=I'.hok S _ hS';show wpAny _ A.in1 (updateSeq S (·.push (.ref T))>>=_) _ _ _;have lT:Ts.length=i:=by rw[Paired.length hP,List.length_take,hzl];omega
  have zDU:bC.length=i:=by rw[<-rv.length,aW,lT]
  have big:(100000:Nat)<sizeLine:=by rw[sizeLine_eq];decide
  have ex:s'.heap.get? S=some {cls:= .type "list",dict:=none,data:= .seq bC.toArray n,slots:= #[]}:=e;refine wpAny_bind (wpAny_updateSeq ex rfl (wpAny_pure ⟨plainId_quiet PySem.F.plain_extend_loop _,?_⟩) (by simp;omega) (by simp;omega));have eu:=Heap.get?_update_self (Obj.mapSeq (·.push (Value.ref T))) ex rfl;have kw: ∀c o,c≠S->s'.heap.get? c=some o->(s'.heap.update S (Obj.mapSeq (·.push (Value.ref T)))).get? c=some o:= λc o hc e=>(Heap.get?_update_other _ _ (Ne.symm hc)).trans e;have nTS:T≠S:=Ne.symm (aI hS hT);have I2:aX X aB σ (aO (aO H T (.tup [xs[i],ys[i]'(dL▸eY)])) S (.lst ((Ts++[T]).map V.ref))) {s' with heap:=s'.heap.update S (Obj.mapSeq (·.push (Value.ref T))),toks:=s'.toks}:=by
   refine I'.lset (its':=bC++[.ref T]) hS' e (by simp) (by rw[List.map_append];exact bP.append rv (.cons rfl .nil)) ?_;rw[aW,List.length_append,lT];simp only[List.length_cons,List.length_nil];omega
  have hT0:H0 T=none:=x.free hT;refine ih (i+1) _ _ (Ts++[T]) (by omega) eY I2 (λc hc=> ?_) (st'.keep λc hc o e=>kw c o (λz=>hSf (z▸hc)) e) ?_ aF ?_ q
  . obtain⟨f0,f1⟩:=hf c hc;have nc:c≠S:= λz=>hSf (z▸hc);exact⟨by rw[aG nc];exact hn c hc,f1⟩
  . intro c o e;rw[aG (aI e hS0),aG (aI (x c o e) hT)];exact x c o e
  . rw[show(xs.zip ys).take (i+1)=(xs.zip ys).take i++[(xs[i],ys[i]'(dL▸eY))] by
     rw[List.take_succ,List.getElem?_eq_getElem (by rw[hzl];exact eY),List.getElem_zip];rfl]
    refine Paired.snoc (Paired.mapP hP λU p e=> ?_) ?_
    . rw[aG (dO (show H U=_ from e) hS (λz=>nomatch z)),aG (aI e hT)];exact e
    . show aO (aO H T _) S _ T=_
      rw[aG nTS];exact aF
def zni(K:W.Frag)(ta:TA):TE:= λσ H Q=>ta σ H λvs H1=> ∃a b xs ys,vs=[.ref a,.ref b]/\bB K H1 a xs/\bB K H1 b ys/\xs.length=ys.length/\xs.length<=100000/\
 ∀l Ts H2,H1 l=none->Same H1 H2->H2 l=some (.lst (Ts.map V.ref))->oE H2 Ts (xs.zip ys)->Q (.ref l) H2
theorem zgC{l l2:Expr}{ta:TA}{p p2 pos zaw:Pos}(hcm:X.calm=true)(hg:Gl X "zip")(hm:X.mg "zip" =none)(hg':Gl X "list")(hm':X.mg "list" =none)(ha:PA X [l,l2] ta)(hs:starEach [l,l2] X.env=[(false,eval l X.env),(false,eval l2 X.env)]:=by rfl)(hs2:starEach [l2] X.env=[(false,eval l2 X.env)]:=by rfl)
 (he:starEach [.Call (.Name "zip" p2) [l,l2] [] zaw] X.env=[(false,eval (.Call (.Name "zip" p2) [l,l2] [] zaw) X.env)]:=by rfl):
 PE X (.Call (.Name "list" p) [.Call (.Name "zip" p2) [l,l2] [] zaw] [] pos) (zni X.K ta):=by
 intro aB s σ H Q I h
 refine wpAny_Call_Name_kw (hJ I hg' hm' (show bootBuiltins "list" =some (.type "list") by decide+kernel) ?_)
 refine PyProof.Rows.callWith_type1 ?_ (by rw[he];rfl) rfl
 show wpAny _ _ (spliced (backTo pos (starEach [.Call (.Name "zip" p2) [l,l2] [] zaw] X.env))) _ _ s
 rw[he]
 refine Calls.spliced_cons (Call_ (hJ I hg hm (show bootBuiltins "zip" =some (.type "zip") by decide+kernel) (PyProof.Rows.callWith_type1 (dP (ha zaw aB s σ H _ I h) λus s1 ⟨vs,H1,I1,r1,q1⟩=> ?_) (by rw[hs,hs2]) (by rw[hs2];rfl))))
 obtain⟨a,b,xs,ys,e,h1,h2,dL,hl,q⟩:=q1
 subst e
 obtain⟨u1,u2,rfl,r1,r2⟩:=r1.two
 cases r1
 cases r2
 obtain⟨zhK,rv1,pl1,hz1⟩:=I1.seqX (t:=false) h1
 obtain⟨qL,rv2,pl2,d7⟩:=I1.seqX (t:=false) h2
 have la:=pl1.lt
 have lb:=pl2.lt
 refine zoi pl1 pl2 λh' st kk=>Calls.spliced_nil ?_
 have I2:aX X aB σ H1 {s1 with heap:=h'}:=I1.kept (t':=s1.toks) kk
 have ty:({s1 with heap:=h'}:Shared).TypeIs (.ref (s1.heap.objs.size+4)) "zip" :=let⟨_,_,hz,_⟩:=st.zo;⟨_,hz,rfl⟩
 have hF: ∀c∈ [s1.heap.objs.size+4,s1.heap.objs.size+2,s1.heap.objs.size+3,s1.heap.objs.size,s1.heap.objs.size+1],s1.heap.objs.size<=c/\c<h'.objs.size:= λc hc=>by
  obtain⟨o,ho,_⟩:=st.obj c hc;refine⟨?_,Heap.lt_size ho⟩;simp only[List.mem_cons,List.not_mem_nil,or_false]at hc
  rcases hc with rfl|rfl|rfl|rfl|rfl<;>omega
 have hSf:h'.objs.size∉ [s1.heap.objs.size+4,s1.heap.objs.size+2,s1.heap.objs.size+3,s1.heap.objs.size,s1.heap.objs.size+1]:= λhm=>Nat.lt_irrefl _ (hF _ hm).2
 have big:(100000:Nat)<sizeLine:=by rw[sizeLine_eq];decide
 have hh:X.A.handled=none:=I1.ok.hd hcm
 refine callType_codes (Q₁:= λobj s₁=>obj= .ref h'.objs.size/\s₁={s1 with heap:=h'.push {cls:= .type "list",data:= .seq #[]}}) PySem.F.called_list (PySem.F.typeCall_list_1 _) PySem.F.entry_list_init (code_list_new _ ⟨rfl,rfl⟩) λobj s₁ hq=> ?_
 obtain⟨rfl,rfl⟩:=hq
 have hS:(h'.push {cls:= .type "list",data:= .seq #[]}).get? h'.objs.size=some {cls:= .type "list",data:= .seq #[]}:=Heap.get?_push_size _ rfl
 refine⟨⟨_,hS,rfl⟩,PySem.F.args_list_init_2 _ _,?_⟩
 have hn:H1 h'.objs.size=none:=I2.hok.fresh (Nat.le_refl _)
 have st1:lP false false (s1.heap.objs.size+4) (s1.heap.objs.size+2) (s1.heap.objs.size+3) s1.heap.objs.size (s1.heap.objs.size+1) a b 0 (h'.push {cls:= .type "list",data:= .seq #[]}):=st.keep λc _ o e=>Heap.get?_push_of_some _ e
 have ty1: ∀g:Heap,(∀c o,c≠h'.objs.size->(h'.push {cls:= .type "list",data:= .seq #[]}).get? c=some o->g.get? c=some o)->({s1 with heap:=g}:Shared).TypeIs (.ref (s1.heap.objs.size+4)) "zip" := λg kg=>let⟨_,_,hz,_⟩:=st1.zo;⟨_,kg _ _ (λz=>hSf (by rw[<-z];simp)) hz,rfl⟩
 -- the tZ from any heap whose list is empty
 have iU: ∀(g:Heap) (n:Nat),(∀c o,c≠h'.objs.size->(h'.push {cls:= .type "list",data:= .seq #[]}).get? c=some o->g.get? c=some o)->g.get? h'.objs.size=some {cls:= .type "list",data:= .seq #[] n}->
  codeAny (model X.prog X.w) X.A.in1 (.builtin "list.extend.loop" ⟨[.ref h'.objs.size,.ref (s1.heap.objs.size+4),.none],[]⟩) (wants (λr s₂=>r= .none/\EP X aB σ Q (.ref h'.objs.size) s₂) X.xe) {s1 with heap:=g}:= λg n kg hg=>by
  have I3:aX X aB σ (aO H1 h'.objs.size (.lst (([]:List Addr).map V.ref))) {s1 with heap:=g,toks:=s1.toks}:=I2.laid (a:=h'.objs.size) (o:= .lst []) (t':=s1.toks) (λc o e=>kg c o (Nat.ne_of_lt (Heap.lt_size e)) (Heap.get?_push_of_some _ e)) (Nat.le_refl _) ⟨Nat.zero_le _,[],n,.nil,hg⟩;refine ziN (H0:=H1) (show X.A.in1.handled=none from hh) (zipApart_new la lb) dL hl h1 h2 hn hSf xs.length 0 _ _ [] rfl (Nat.zero_le _) I3 (λc hc=> ?_) (st1.keep λc hc o e=>kg c o (λz=>hSf (z▸hc)) e) (λc o e=>by rw[aG (aI e hn)];exact e) aF .nil λs' H' Ts' I' x' hS' hP'=>⟨rfl,⟨.ref h'.objs.size,H',I',rfl,q _ Ts' H' hn x' hS' hP'⟩⟩;refine I1.fpOk (hF c hc).1 ?_;have nc:c≠h'.objs.size:= λz=>hSf (z▸hc);rw[aG nc];exact I1.hok.fresh (hF c hc).1
 show wpAny _ _ (do let oP<-Builtin.List.listItems (.ref h'.objs.size);Builtin.List.listUpdate (.ref h'.objs.size) (λ_=> #[]);letGo oP.toList.reverse;Builtin.List.listExtendWith (.ref h'.objs.size) (.ref (s1.heap.objs.size+4)) .none) _ _ _
 refine wpAny_bind ?_
 unfold Builtin.List.listItems
 refine wpAny_bind (wpAny_seqItems hS rfl (wpAny_pure ?_))
 show wpAny _ _ (updateSeq h'.objs.size (λ_=> #[])>>= λ_=>letGo (#[]:Array Value).toList.reverse>>= λ_=>Builtin.List.listExtendWith (.ref h'.objs.size) (.ref (s1.heap.objs.size+4)) .none) _ _ _
 refine wpAny_bind (wpAny_updateSeq hS rfl (wpAny_bind (wpAny_letGo ?_)))
 have hS2:=Heap.get?_update_self (Obj.mapSeq (λ_=>(#[]:Array Value))) hS rfl
 have k2: ∀c o,c≠h'.objs.size->(h'.push {cls:= .type "list",data:= .seq #[]}).get? c=some o->((h'.push {cls:= .type "list",data:= .seq #[]}).update h'.objs.size (Obj.mapSeq (λ_=>(#[]:Array Value)))).get? c=some o:= λc o hc e=>(Heap.get?_update_other _ _ (Ne.symm hc)).trans e
 unfold Builtin.List.listExtendWith
 refine wpAny_bind (wpAny_typeOf (T:= "zip") (ty1 _ k2) ?_)
 have nz:Builtin.List.listSameRef (.ref h'.objs.size) (.ref (s1.heap.objs.size+4))=false:=by
  simp only[Builtin.List.listSameRef];exact beq_eq_false_iff_ne.mpr λz=>hSf (by rw[z];simp)
 simp only[nz,show(Value.type "zip" ==Value.type "list")=false by decide,show(Value.type "zip" ==Value.type "tuple")=false by decide,Bool.or_false,Bool.false_eq_true,if_false]
 refine wpAny_bind (ziO (s:={s1 with heap:=_}) (st1.keep λc hc o e=>k2 c o (λz=>hSf (z▸hc)) e) ?_)
 refine wpAny_bind (wpAny_holding (zhD (ty1 _ k2) ?_))
 refine wpAny_ite_split (λ_=> ?_) (λz=>absurd rfl z)
 refine wpAny_bind (wpAny_rule (wpAny_bind ?_))
 show wpAny _ _ (updateSeq h'.objs.size (·.push .none)>>= λ_=>updateSeq h'.objs.size (·.pop)) _ _ _
 refine wpAny_bind (wpAny_updateSeq hS2 rfl ?_)
 have hS3:=Heap.get?_update_self (Obj.mapSeq (·.push Value.none)) hS2 rfl
 refine wpAny_updateSeq (hz:=by seq_fits) hS3 rfl (wpAny_pure ⟨plainId_quiet PySem.F.plain_extend_loop _,?_⟩)
 have hS4:=Heap.get?_update_self (Obj.mapSeq (·.pop)) hS3 rfl
 refine iU _ _ (λc o hc e=>(Heap.get?_update_other _ _ (Ne.symm hc)).trans ((Heap.get?_update_other _ _ (Ne.symm hc)).trans (k2 c o hc e))) hS4
end
section
variable {tg:Expr}
end
theorem aP.relab{own fr:List Str}{scope outer:Scope}{env:Env}(S:aP own fr scope outer):aP own fr scope (relabel outer env):=by
 refine⟨S.kind,S.nocell,S.names,S.nd,λy hy hf=> ?_,S.frs,S.owns⟩
 have q:=fD (env:=env) outer.names y.1
 rcases S.outs y hy hf with e|e
 . rw[e]at q;exact .inl q
 . rw[e]at q
   by_cases hc:(NameKind.free==NameKind.free&&env.scope.kind== .function&&env.kindOf y.1==some .cell)=true
   . refine .inl (q.trans ?_);simp only[Option.map_some];rw[if_pos hc]
   . refine .inr (q.trans ?_);simp only[Option.map_some];rw[if_neg hc]
section
variable {tg:Expr}
def zpO(K:W.Frag):List V->Hp->VK->Prop:= λxs H Q=> ∃(p:Addr) (ns:List Int),xs=[.ref p]/\bB K H p (ns.map V.int)/\ns≠ []/\ ∀m,m∈ns->(∀n∈ns,n<=m)->Q (.int m) H
theorem vY(hc:X.calm=true):fJ X (.builtin "max") (zpO X.K):=by
 intro aB s σ H xs us Q I r h
 obtain⟨p,ns,rfl,hq,nR,q⟩:=h
 obtain⟨u,rfl,rx⟩:=mC r
 cases rx
 obtain⟨bC,r',pl,hz⟩:=I.list hq
 have hi:IntsAre bC ns:=tD r'
 obtain⟨zs,e⟩:=hi.allInts.items
 have e2:ns=zs.toList.map (·.1):=by rw[<-hi.numsOf,<-nums_intItems,<-e]
 have e3:ns.length=zs.size:=by rw[e2,aW,Array.length_toList]
 have e4:0<ns.length:=List.length_pos_iff.mpr nR
 have hl:=pl.isList
 rw[e]at hl
 refine max_intList (I.ok.hd hc) hl (by omega) λv h' tk hv hk=> ?_
 obtain⟨t,rfl⟩:=intItems_at hv
 obtain⟨_,b2⟩:=argBest_gt (numAt zs) (zs.size - 1)
 refine⟨.int _,H,I.kept hk,⟨t,rfl⟩,q _ ?_ λa ha=> ?_⟩
 . rw[e2,numAt_eq];exact getD_mem (by rw[<-e2];omega)
 . rw[e2]at ha;obtain⟨j,hj,rfl⟩:=mem_getD ha;rw[<-e2]at hj;rw[<-numAt_eq];exact b2 j (by omega)
end
theorem jL(names:List (Str×NameKind)): ∀(k:Nat) (eT:List (Str×Addr)),cellsFrom k names eT=cellsFrom k names []++eT:=by
 induction names with
 |nil=>intro k eT;rfl
 |cons p r ih=>
  intro k eT;obtain⟨x,kd⟩:=p;simp only[cellsFrom];cases(kd==NameKind.cell)with
  |true=>rw[if_pos rfl,if_pos rfl,ih (k+1) ((x,k)::eT),ih (k+1) [(x,k)],List.append_assoc];rfl
  |false=>rw[if_neg Bool.false_ne_true,if_neg Bool.false_ne_true];exact ih k eT
theorem jC(names:List (Str×NameKind)): ∀(k:Nat) (n:Str) (c:Addr),(n,c)∈cellsFrom k names []->k<=c/\(n,NameKind.cell)∈names:=by
 induction names with
 |nil=>intro k n c h;cases h
 |cons p r ih=>
  intro k n c h;obtain⟨x,kd⟩:=p;simp only[cellsFrom]at h
  by_cases hk:(kd==NameKind.cell)=true
  . rw[if_pos hk,jL]at h
    rcases List.mem_append.mp h with z|z
    . obtain⟨h1,h2⟩:=ih (k+1) n c z;exact⟨by omega,.tail _ h2⟩
    . cases List.mem_singleton.mp z;rw[eq_of_beq hk];exact⟨Nat.le_refl _,.head _⟩
  . rw[if_neg hk]at h;obtain⟨h1,h2⟩:=ih k n c h;exact⟨h1,.tail _ h2⟩
theorem pG{α:Type}(n:Str)(ys:List (Str×α)): ∀xs:List (Str×α),(xs++ys).lookup n=(xs.lookup n).or (ys.lookup n)
 | []=>rfl
 |p::xs=>by
  obtain⟨k,v⟩:=p;rw[List.cons_append,List.lookup_cons,List.lookup_cons];cases n==k with
  |true=>rfl
  |false=>exact pG n ys xs
theorem oM(names:List (Str×NameKind))(k:Nat)(eT:List (Str×Addr)){n:Str}{c:Addr}(h:(cellsFrom k names eT).lookup n=some c):(k<=c/\(n,NameKind.cell)∈names)\/eT.lookup n=some c:=by
 rw[jL,pG]at h
 cases e:(cellsFrom k names []).lookup n with
 |none=>rw[e]at h;exact .inr h
 |some d=>rw[e]at h;cases h;exact .inl (jC names k n c (PySem.mem_of_lookup e))
theorem qJ(names:List (Str×NameKind))(k:Nat)(eT:List (Str×Addr)){n:Str}(h:(n,NameKind.cell)∉names):(cellsFrom k names eT).lookup n=eT.lookup n:=by
 rw[jL,pG]
 cases e:(cellsFrom k names []).lookup n with
 |none=>rfl
 |some d=>exact absurd (jC names k n d (PySem.mem_of_lookup e)).2 h
structure iZ(s₀:Shared)(L:Addr)(m:Str->Option Value)(kd:Str->Option NameKind)(cs:List (Str×Addr))(cm:Str->Option Value)(s:Shared):Prop where
 toInCall:InCall s₀ L m s
 cell: ∀n c,List.lookup n cs=some c->Heap.IsCell s.heap c (cm n)
 apart:List.Pairwise (λx y:Str×Addr=>x.2≠y.2) cs
 off: ∀n c,List.lookup n cs=some c->c≠L
 new: ∀n c,kd n=some .cell->List.lookup n cs=some c->L<c
theorem sX(kd:Str->Option NameKind)(p:Str×Value): ∀(bs:List (Str×Value)) (m:Str->Option Value),bindL kd (bs++[p]) m=bindL kd [p] (bindL kd bs m)
 | [],_=>rfl
 |_::bs,_=>sX kd p bs _
theorem uG(kd:Str->Option NameKind)(p:Str×Value): ∀(bs:List (Str×Value)) (m:Str->Option Value),bindC kd (bs++[p]) m=bindC kd [p] (bindC kd bs m)
 | [],_=>rfl
 |_::bs,_=>uG kd p bs _
section
variable {M:Model}
theorem iZ.bind{E:Value->Shared->Prop}{Q:Unit->Shared->Prop}{s₀ s:Shared}{env:Env}{m cm:Str->Option Value}{n:Str}{v:Value}(x:iZ s₀ env.locals m env.kindOf env.cells cm s)(hk:env.scope.kind= .function)
 (hn:env.kindOf n=some .local\/(env.kindOf n=some .cell/\ ∃c,env.cells.lookup n=some c))
 (h: ∀s',iZ s₀ env.locals (bindL env.kindOf [(n,v)] m) env.kindOf env.cells (bindC env.kindOf [(n,v)] cm) s'->Q () s'):wpAny M A (storeName env n v) Q E s:=by
 have oP: ∀{b:Addr} {o:Obj},s₀.heap.get? b=some o->b<env.locals:= λe=>Nat.lt_of_lt_of_le (Heap.lt_size e) x.toInCall.fresh
 obtain⟨g,tk,es⟩:=x.toInCall.same
 rcases hn with hl|⟨hl,c,hc⟩
 . have e1:bindL env.kindOf [(n,v)] m= λy=>if y=n then some v else m y:=if_pos hl
   have e2:bindC env.kindOf [(n,v)] cm=cm:=if_pos hl;rw[e1,e2]at h;refine wpAny_storeName_local hl x.toInCall.ns (λg' ns sb=>h _ ?_) (by rw[hk];rfl);refine⟨⟨⟨g',_,by rw[es]⟩,ns,λb o e=> ?_,x.toInCall.fresh⟩,λy d hd=> ?_,x.apart,x.off,x.new⟩
   . exact(sb.2 b (Nat.ne_of_lt (oP e))).trans (x.toInCall.keep b o e)
   . exact Heap.IsCell.sameBut (x.cell y d hd) sb (x.off y d hd)
 . have nl: ¬env.kindOf n=some .local:= λz=>by rw[hl]at z;cases z
   have e1:bindL env.kindOf [(n,v)] m=m:=if_neg nl;have e2:bindC env.kindOf [(n,v)] cm= λy=>if y=n then some v else cm y:=if_neg nl
   rw[e1,e2]at h;have lt:=x.new n c hl hc;refine wpAny_storeName_cell hk hl hc (x.cell n c hc) λg' ce sb=>h _ ?_;refine⟨⟨⟨g',_,by rw[es]⟩,Heap.Ns.sameBut x.toInCall.ns sb (Nat.ne_of_lt lt),λb o e=> ?_,x.toInCall.fresh⟩,λy d hd=> ?_,x.apart,x.off,x.new⟩
   . exact(sb.2 b (Nat.ne_of_lt (Nat.lt_trans (oP e) lt))).trans (x.toInCall.keep b o e)
   . show Heap.IsCell g' d (if y=n then some v else cm y)
     split
     . rename_i z
       subst z;rw[hc]at hd;cases hd;exact ce
     . rename_i z
       exact Heap.IsCell.sameBut (x.cell y d hd) sb λe=>z (name_of_addr x.apart (PySem.mem_of_lookup hd) (by rw[e];exact PySem.mem_of_lookup hc))
theorem zke{E:Value->Shared->Prop}{s:Shared}{scope:Scope}{globals:Addr}{clos:List (Str×Addr)}{binds:List (Str×Value)}{bK:Str}{func:Option Addr}{code:Value}{builtins:Addr}{cv:Str->Option Value}{Q:Env->Shared->Prop}
 (hk:scope.kind= .function) (hc: ∀n c,(n,c)∈clos->s.heap.IsCell c (cv n)) (hp:clos.Pairwise λx y=>x.2≠y.2) (hn: ∀n c,(n,c)∈clos->(n,NameKind.cell)∉scope.names)
 (pI: ∀x∈binds,scope.names.lookup x.1=some .local\/(scope.names.lookup x.1=some .cell/\((cellsFrom (s.heap.objs.size+1) scope.names clos).lookup x.1).isSome=true))
 (hQ: ∀env,env=newEnv scope s.heap.objs.size globals (cellsFrom (s.heap.objs.size+1) scope.names clos) bK func code none builtins->
  ∀s',iZ s env.locals (bindL env.kindOf binds λ_=>none) env.kindOf env.cells (bindC env.kindOf binds λn=>if(n,NameKind.cell)∈scope.names then none else cv n) s'->Q env s'):
 wpAny M A (newFunctionEnv scope globals clos binds bK func code none builtins) Q E s:=by
 have own:CellsOk (pushCells (s.heap.push {cls:= .type "frame",data:= .dict #[]}) scope.names) (s.heap.objs.size+1) (cellsFrom (s.heap.objs.size+1) scope.names []):=by
  have q:=cellsFrom_ok scope.names (s.heap.push {cls:= .type "frame",data:= .dict #[]}) (s.heap.objs.size+1) [] ⟨(λ_ _ z=>by cases z),.nil⟩ (Nat.le_of_eq (Heap.size_push ..).symm)
  rwa [Heap.size_push]at q
 have stay: ∀b o,s.heap.get? b=some o->(pushCells (s.heap.push {cls:= .type "frame",data:= .dict #[]}) scope.names).get? b=some o:= λb o e=>pushCells_keeps scope.names _ b o (Heap.get?_push_of_some _ e)
 have zqW: ∀p∈clos,p.2<s.heap.objs.size:= λp hm=>Heap.IsCell.lt (hc p.1 p.2 hm)
 have mD:iZ s s.heap.objs.size (λ_=>none) (newEnv scope s.heap.objs.size globals (cellsFrom (s.heap.objs.size+1) scope.names clos) bK func code none builtins).kindOf (cellsFrom (s.heap.objs.size+1) scope.names clos) (λn=>if(n,NameKind.cell)∈scope.names then none else cv n)
  {s with heap:=pushCells (s.heap.push {cls:= .type "frame",data:= .dict #[]}) scope.names}:=by
  refine⟨⟨⟨_,s.toks,rfl⟩,Heap.Ns.keeps (Heap.Ns.new s.heap (.type "frame")) (pushCells_keeps scope.names _),stay,Nat.le_refl _⟩,λn c hl=> ?_,?_,λn c hl=> ?_,λn c hkd hl=> ?_⟩
  . rw[jL,pG]at hl;cases e:(cellsFrom (s.heap.objs.size+1) scope.names []).lookup n with
    |some d=>
     rw[e]at hl;cases hl;rw[if_pos (jC _ _ _ _ (PySem.mem_of_lookup e)).2];exact(own.empty n c (PySem.mem_of_lookup e)).1
    |none=>
     rw[e]at hl;have hm:=PySem.mem_of_lookup (show clos.lookup n=some c from hl);rw[if_neg (hn n c hm)];exact Heap.IsCell.keeps (hc n c hm) stay
  . rw[jL];exact List.pairwise_append.mpr ⟨own.apart,hp,λa ha b hb z=>by
     have h1:=(jC _ _ a.1 a.2 ha).1;have h2:=zqW b hb;rw[<-z]at h2;exact absurd (Nat.lt_of_lt_of_le (Nat.lt_succ_self _) h1) (Nat.lt_asymm h2)⟩
  . rcases oM _ _ _ hl with⟨z,_⟩|z
    . exact Nat.ne_of_gt (Nat.lt_of_lt_of_le (Nat.lt_succ_self _) z)
    . exact Nat.ne_of_lt (zqW (n,c) (PySem.mem_of_lookup z))
  . rcases oM _ _ _ hl with⟨z,_⟩|z
    . exact Nat.lt_of_lt_of_le (Nat.lt_succ_self _) z
    . exact absurd (PySem.mem_of_lookup (show scope.names.lookup n=some .cell from hkd)) (hn n c (PySem.mem_of_lookup z))
 simp only[newFunctionEnv,Option.isSome_none,Bool.false_eq_true,if_false]
 refine wpAny_bind (wpAny_alloc (wpAny_bind (wpAny_layCells _ (λy kd cs=>by by_cases z:(kd==NameKind.cell)=true<;>simp[z]) scope.names clos _ _ ?_)))
 have sz:({s with heap:=s.heap.push {cls:= .type "frame",data:= .dict #[]}}:Shared).heap.objs.size=s.heap.objs.size+1:=Heap.size_push ..
 rw[sz]
 refine wpAny_bind (wpAny_forIn_list _ (λrest (_:PUnit) s'=> ∃done,binds=done++rest/\iZ s s.heap.objs.size (bindL (newEnv scope s.heap.objs.size globals (cellsFrom (s.heap.objs.size+1) scope.names clos) bK func code none builtins).kindOf done λ_=>none) (newEnv scope s.heap.objs.size globals (cellsFrom (s.heap.objs.size+1) scope.names clos) bK func code none builtins).kindOf (cellsFrom (s.heap.objs.size+1) scope.names clos)
  (bindC (newEnv scope s.heap.objs.size globals (cellsFrom (s.heap.objs.size+1) scope.names clos) bK func code none builtins).kindOf done λn=>if(n,NameKind.cell)∈scope.names then none else cv n) s') _ ?_ ?_ binds _ ⟨[],rfl,mD⟩)
 . rintro⟨n,v⟩ rest _ s' ⟨done,hd,x⟩;refine wpAny_bind (iZ.bind (env:=newEnv scope s.heap.objs.size globals (cellsFrom (s.heap.objs.size+1) scope.names clos) bK func code none builtins) x hk ?_ λs'' x'=>wpAny_pure ⟨done++[(n,v)],by rw[hd,List.append_assoc];rfl,?_⟩)
   . rcases pI (n,v) (by rw[hd];exact List.mem_append.mpr (.inr (.head _)))with z|⟨z,y⟩
     . exact .inl z
     . exact .inr ⟨z,Option.isSome_iff_exists.mp y⟩
   . rw[sX,uG];exact x'
 . rintro _ s' ⟨done,hd,x⟩;rw[List.append_nil]at hd;subst hd;exact wpAny_pure (hQ _ rfl s' x)
end
structure pS(N P:List Str)(sc:Scope):Prop where
 kind:sc.kind= .function
 co:sc.isCoroutine=false
 gen:sc.isGenerator=false
 nd:N.Nodup
 pre:N.take P.length=P
 par: ∀x∈P,sc.names.lookup x=some .local\/sc.names.lookup x=some .cell
 cel: ∀x,(x,NameKind.cell)∈sc.names->sc.names.lookup x=some .cell
def zdN(CX:w6)(P:Program)(w:World)(K:W.Frag)(mg:Str->Option Value)(base:Heap)(N:List Str)(bK:Str)(scope:Scope)(clos:List (Str×Addr))(f:Addr)(cd:Value)(A:Around)(outer:List Env)(s:Shared)(H:Hp)(E:XK):Cx where
 prog:=P
 w:=w
 K:=K
 mg:=mg
 base:=base
 A:=A.deeper (PySem.W.envX bK scope s.heap.objs.size f cd (cellsFrom (s.heap.objs.size+1) scope.names clos))
 N:=N
 s₀:=s
 H₀:=H
 env:=PySem.W.envX bK scope s.heap.objs.size f cd (cellsFrom (s.heap.objs.size+1) scope.names clos)
 outer:=outer
 stack:=PySem.W.envX bK scope s.heap.objs.size f cd (cellsFrom (s.heap.objs.size+1) scope.names clos)::outer
 ex:=[]
 calm:=true
 fn:= λx=>scope.names.lookup x==some .cell
 pn:=[]
 xe:= λe s'=>wpAny (model P w) (A.deeper (PySem.W.envX bK scope s.heap.objs.size f cd (cellsFrom (s.heap.objs.size+1) scope.names clos))) (leaving (PySem.W.envX bK scope s.heap.objs.size f cd (cellsFrom (s.heap.objs.size+1) scope.names clos)) e) (λ_ s''=>CX outer H s E e s'') (λe' s''=>CX outer H s E e' s'') s'
theorem zaB{CX:w6}{P:Program}{w:World}{K:W.Frag}{mg:Str->Option Value}{base:Heap}{N ps:List Str}{bK:Str}{scope:Scope}{clos:List (Str×Addr)}{f:Addr}{cd:Value}{A:Around}{outer:List Env}{s s1:Shared}{H:Hp}{E:XK}{us:List Value}{vs:List V}{fs:List (Option V)}{cv:Str->Option Value}
 (S:pS N ps scope) (hd:A.handled=none) (e0:nK P w K mg base A outer s H) (hl:vs.length=ps.length) (r:bP vs us) (hfl:ps.length+fs.length=N.length)
 (hc: ∀n c,(n,c)∈clos->H c=none/\s.heap.IsCell c (cv n)) (hn: ∀n c,(n,c)∈clos->(n,NameKind.cell)∉scope.names) (oQ: ∀n,scope.names.lookup n=some .free-> ∃c,clos.lookup n=some c)
 (hfs: ∀(j:Nat) (y:Str) (v:V),(N.drop ps.length)[j]?=some y->fs[j]?=some (some v)->scope.names.lookup y=some .free/\ ∃u,bT v u/\cv y=some u)
 (x:iZ s s.heap.objs.size (bindL (PySem.W.envX bK scope s.heap.objs.size f cd (cellsFrom (s.heap.objs.size+1) scope.names clos)).kindOf (ps.zip us) λ_=>none) (PySem.W.envX bK scope s.heap.objs.size f cd (cellsFrom (s.heap.objs.size+1) scope.names clos)).kindOf (cellsFrom (s.heap.objs.size+1) scope.names clos)
  (bindC (PySem.W.envX bK scope s.heap.objs.size f cd (cellsFrom (s.heap.objs.size+1) scope.names clos)).kindOf (ps.zip us) λn=>if(n,NameKind.cell)∈scope.names then none else cv n) s1):
 aX (zdN CX P w K mg base N bK scope clos f cd A outer s H E) [] (vs.map some++fs) H s1:=by
 have jK:ps.length<=N.length:=by have:=congrArg List.length S.pre;rw[List.length_take]at this;omega
 obtain⟨h1,tk,rfl,hk⟩:=x.toInCall.done
 have noA: ∀b:Addr,b∉(zdN CX P w K mg base N bK scope clos f cd A outer s H E).ex:= λb z=>absurd (show b∈([]:List Addr)from z) (by simp)
 have zeH: ∀{y:Str},scope.names.lookup y=some .free->(y,NameKind.cell)∉scope.names:= λh z=>by rw[S.cel _ z]at h;cases h
 have zjN: ∀{y:Str} {v:Value},scope.names.lookup y=some .free->(y,v)∉ps.zip us:= λh z=>by
  rcases S.par _ (List.of_mem_zip z).1 with k|k<;>(rw[k]at h;cases h)
 refine⟨⟨e0.mod,S.kind,rfl,rfl,Nat.le_refl _,λy z c h1 h2=> ?_,λy hy=> ?_,λy c hy h=> ?_,λ_=>hd,Around.frames_deeper e0.frames,.inr ⟨rfl,rfl⟩,λb z=>absurd z (noA b),e0.bs,e0.bsz,λb _ _=>noA b,λb z=>absurd z (noA b),e0.funs,e0.frf⟩,
  rfl,e0.bare,Un.kept hk,⟨_,x.toInCall.ns,λi y v h1 h2 h3=> ?_⟩,λy c h=>⟨_,x.cell y c h⟩,e0.hok.fresh (Nat.le_refl _),λy c h=> ?_,λp hp=>absurd (show p∈([]:List (Addr×Obj))from hp) (by simp),e0.hok.kept hk,?_⟩
 . exact name_of_addr x.apart (PySem.mem_of_lookup h1) (PySem.mem_of_lookup h2)
 . have hy:scope.names.lookup y=some .cell\/scope.names.lookup y=some .free:=hy
   rcases hy with hy|hy
   . exact Option.isSome_iff_exists.mp (PySem.W.cellsFrom_some scope.names (s.heap.objs.size+1) clos (.inl hy))
   . obtain⟨c,e⟩:=oQ y hy;exact⟨c,(qJ _ _ _ (zeH hy)).trans e⟩
 . exact Nat.le_of_lt (x.new y c (eq_of_beq (show(scope.names.lookup y==some NameKind.cell)=true from hy)) h)
 . by_cases hi:i<vs.length
   . have ha:vs[i]?=some v:=by
      rw[List.getElem?_append_left (by simpa using hi),List.getElem?_map]at h2;cases e:vs[i]? with
      |none=>rw[e]at h2;cases h2
      |some a=>rw[e]at h2;cases h2;rfl
     obtain⟨u,hu,rv⟩:=r.get ha;have hp:ps[i]?=some y:=by
      rw[<-S.pre,List.getElem?_take_of_lt (by omega)];exact h1
     have ndP:ps.Nodup:=by rw[<-S.pre];exact S.nd.sublist (List.take_sublist _ _)
     refine⟨u,rv,?_⟩
     rcases S.par y (List.mem_of_getElem? hp)with k|k
     . exact .inl ⟨k,qM ndP hp hu k⟩
     . obtain⟨c,e⟩:=Option.isSome_iff_exists.mp (PySem.W.cellsFrom_some scope.names (s.heap.objs.size+1) clos (.inl k));refine .inr ⟨.inl k,c,e,?_⟩;have q:=x.cell y c e;rw[pZ ndP hp hu (by show scope.names.lookup y≠_;rw[k];decide)]at q;exact q
   . rw[List.getElem?_append_right (by simpa using hi),aW]at h2;have h1':(N.drop ps.length)[i - vs.length]?=some y:=by rw[List.getElem?_drop,<-hl,show vs.length+(i - vs.length)=i by omega];exact h1
     obtain⟨hy,u,rv,eu⟩:=hfs _ y v h1' h2;obtain⟨c,e⟩:=oQ y hy;refine⟨u,rv,.inr ⟨.inr hy,c,(qJ _ _ _ (zeH hy)).trans e,?_⟩⟩;have q:=x.cell y c ((qJ _ _ _ (zeH hy)).trans e);rw[qR λv z=>zjN hy z,if_neg (zeH hy),eu]at q;exact q
 . rcases oM _ _ _ (show(cellsFrom (s.heap.objs.size+1) scope.names clos).lookup y=some c from h)with⟨hge,_⟩|hm
   . exact e0.hok.fresh (Nat.le_trans (Nat.le_succ _) hge)
   . exact(hc y c (PySem.mem_of_lookup hm)).1
 . show(vs.map some++fs).length=N.length
   rw[List.length_append,aW];omega
theorem zea{CX:w6}{P:Program}{w:World}{K:W.Frag}{mg:Str->Option Value}{base:Heap}{k:Nat}{f:Addr}{o:Obj}{name bK:Str}{params:Arguments}{body:List Stmt}{scope:Scope}{clos:List (Str×Addr)}{dV kV mO pm cdv ct:Value}{an:Option Addr}{N ps:List Str}{A:Around}{outer:List Env}{s:Shared}{H:Hp}{args:Args}{us:List Value}{vs:List V}{fs:List (Option V)}{cv:Str->Option Value}{Q:VK}{E:XK}
 (hr:eV (k+1) A) (e0:nK P w K mg base A outer s H) (ho:s.heap.get? f=some o) (hod:o.data= .func (PySem.W.fnX name bK params body scope clos dV kV mO pm an cdv ct)) (vC:s.heap.CodeRec cdv bK) (S:pS N ps scope)
 (hl:vs.length=ps.length) (r:bP vs us) (hfl:ps.length+fs.length=N.length)
 (hc: ∀n c,(n,c)∈clos->H c=none/\s.heap.IsCell c (cv n)) (hp:clos.Pairwise λx y=>x.2≠y.2) (hn: ∀n c,(n,c)∈clos->(n,NameKind.cell)∉scope.names) (oQ: ∀n,scope.names.lookup n=some .free-> ∃c,clos.lookup n=some c)
 (hfs: ∀(j:Nat) (y:Str) (v:V),(N.drop ps.length)[j]?=some y->fs[j]?=some (some v)->scope.names.lookup y=some .free/\ ∃u,bT v u/\cv y=some u)
 (hb:BindsTo s (PySem.W.fnX name bK params body scope clos dV kV mO pm an cdv ct) args (ps.zip us))
 (oX:eV k (A.deeper (PySem.W.envX bK scope s.heap.objs.size f cdv (cellsFrom (s.heap.objs.size+1) scope.names clos)))->
  ∃t,vS (zdN CX P w K mg base N bK scope clos f cdv A outer s H E) body t/\t {nx:= λ_ H'=>Q .non H',rt:=Q} (vs.map some++fs) H):
 codeAny (model P w) A (.call (.ref f) args) (CR CX outer P w H s Q E) s:=by
 have lim:s.heap.NoLimit:=e0.mod.nolimit.keeps λb o e=>(e0.bs b o e).1
 have pI: ∀y∈ps.zip us,scope.names.lookup y.1=some .local\/(scope.names.lookup y.1=some .cell/\((cellsFrom (s.heap.objs.size+1) scope.names clos).lookup y.1).isSome=true):= λ⟨n,v⟩ hy=>by
  rcases S.par n (List.of_mem_zip hy).1 with q|q
  . exact .inl q
  . exact .inr ⟨q,PySem.W.cellsFrom_some _ _ _ (.inl q)⟩
 refine codeAny_call_function hr.depth ho hod S.co S.gen rfl vC (hb _ _ _ _ ?_)
 refine zke (cv:=cv) S.kind (λn c h=>(hc n c h).2) hp hn pI λenv he s1 x=> ?_
 subst he
 refine⟨lim.keeps x.toInCall.keep,codeAny_func ?_⟩
 obtain⟨t,ht,hq⟩:=oX (hr.deeper _)
 have I:aX (zdN CX P w K mg base N bK scope clos f cdv A outer s H E) [] (vs.map some++fs) H s1:=zaB S hr.hd e0 hl r hfl hc hn oQ hfs x
 refine wpAny_mono (ht [] s1 (vs.map some++fs) H _ I hq) (λfl s' hs=> ?_) λe s' hs=>hs
 have fF: ∀{σ':St} {H':Hp} {v:V} {u:Value},aX (zdN CX P w K mg base N bK scope clos f cdv A outer s H E) [] σ' H' s'->bT v u->Q v H'->CE outer P w H s Q u s':=
  λ{σ' H' v u} J rv q=>⟨v,H',J.os,J.bare,J.base,J.hok,rv,q⟩
 cases fl with
 |ret u=>
  obtain⟨v,σ',H',J,rv,q⟩:=hs;exact fF J rv q
 |next=>
  obtain⟨σ',H',J,q⟩:=hs;exact fF (v:=V.non) (u:=Value.none) J rfl q
 |brk=>
  obtain⟨_,_,_,q⟩:=hs;exact False.elim q
 |cont=>
  obtain⟨_,_,_,q⟩:=hs;exact False.elim q
end L2
namespace L2
open PySem PySem.Spec PyProof.Rows PySem.W
def sP(f:Addr)(o:Obj):HO:= .ext λh=>h.get? f=some o
def fZ(c:Addr)(bK:Str):HO:= .ext λh=>h.CodeRec (.ref c) bK
section
variable {P:Program}{w:World}{H:Hp}{h:Heap}
theorem zfl{f:Addr}{o:Obj}(e:h.get? f=some o):dE P w H h f (sP f o):=⟨e,⟨o,e⟩,λ_ _ p k=>k _ p⟩
theorem zfD{c:Addr}{q:Str}(e:h.CodeRec (.ref c) q):dE P w H h c (fZ c q):=by
 refine⟨e,?_,λh1 h2 p k=> ?_⟩
 . obtain⟨c',o,vs,t,z,g,_⟩:=e;cases z;exact⟨o,g⟩
 . obtain⟨c',o,vs,t,z,g,r⟩:=p;cases z;exact⟨c,o,vs,t,rfl,k _ g,r⟩
end
section
variable {X:Cx}{aB:List (Addr×Obj)}{σ:St}{H:Hp}{s:Shared}
theorem aX.fnAt(I:aX X aB σ H s){f:Addr}{o:Obj}(e:H f=some (sP f o)):s.heap.get? f=some o:=(I.hok f _ e).1
theorem aX.codeAt(I:aX X aB σ H s){c:Addr}{q:Str}(e:H c=some (fZ c q)):s.heap.CodeRec (.ref c) q:=(I.hok c _ e).1
theorem aX.tblAt(I:aX X aB σ H s){p:Addr}{ps:Array Value}(e:H p=some (.tbl ps)):s.heap.get? p=some (tabObj ps):=I.hok p _ e
theorem aX.grown(I:aX X aB σ H s){p c:Addr}{ps more:Array Value}{q:Str}{o:Obj}{h':Heap}{tk:Nat}(e:H p=some (.tbl ps))(hx:Heap.ExtBut p s.heap h')(hge:s.heap.objs.size<=c)(eY:c<h'.objs.size)(znB:h'.CodeRec (.ref c) q)(hp:h'.get? p=some (tabObj (ps++more)))(hfo:o.isFreed=false):
 aX X aB σ (aO (aO (aO H p (.tbl (ps++more))) c (fZ c q)) h'.objs.size (sP h'.objs.size o)) {s with heap:=h'.push o,toks:=tk}:=by
 have lp:p<s.heap.objs.size:=I.hok.lt e
 have oP: ∀b,b<s.heap.objs.size->b≠c/\b≠h'.objs.size:= λb hb=>⟨Nat.ne_of_lt (Nat.lt_of_lt_of_le hb hge),Nat.ne_of_lt (Nat.lt_trans (Nat.lt_of_lt_of_le hb hge) eY)⟩
 have at_: ∀b,b<s.heap.objs.size->b≠p->aO (aO (aO H p (.tbl (ps++more))) c (fZ c q)) h'.objs.size (sP h'.objs.size o) b=H b:= λb hb hp=>by
  rw[aG (oP b hb).2,aG (oP b hb).1,aG hp]
 have keep: ∀b u,b≠p->s.heap.get? b=some u->(h'.push o).get? b=some u:= λb u hb e=>Heap.get?_push_of_some _ (hx b u hb e)
 have np: ∀b,H b=none->b≠p:= λb n z=>by rw[z,e]at n;cases n
 have zdj: ∀b u,H b=some u->u≠ .tbl ps->aO (aO (aO H p (.tbl (ps++more))) c (fZ c q)) h'.objs.size (sP h'.objs.size o) b=some u:= λb u hb hu=>by
  rw[at_ b (I.hok.lt hb) λz=>hu (by rw[z,e]at hb;cases hb;rfl)];exact hb
 refine I.un ⟨λb u q n _ _=>keep b u (np b n) q,λb u q n _ _=>⟨u.slots,keep b u (np b n) q⟩,λb u q n _=> ?_,λb u q _=> ?_,λb xs q=>zdj b _ q (by simp),λb u xs q=>zdj b _ q (by simp),λb qs q=> ?_⟩ λb u q=> ?_
 . rw[at_ b (Heap.lt_size q) (np b n)];exact n
 . by_cases hb:b=p
   . exact⟨_,by rw[hb];exact Heap.get?_push_of_some _ hp⟩
   . exact⟨u,keep b u hb q⟩
 . by_cases hb:b=p
   . subst hb;rw[e]at q;cases q;exact⟨more,by rw[aG (oP b lp).2,aG (oP b lp).1,aF]⟩
   . exact⟨#[],by rw[at_ b (I.hok.lt q) hb,q];simp⟩
 . by_cases h1:b=h'.objs.size
   . rw[h1,aF]at q;cases q;rw[h1];exact zfl (Heap.get?_push_size _ hfo)
   rw[aG h1]at q
   by_cases h2:b=c
   . rw[h2,aF]at q;cases q;rw[h2];exact zfD (znB.push o)
   rw[aG h2]at q
   by_cases h3:b=p
   . rw[h3,aF]at q;cases q;rw[h3];show(h'.push o).get? p=_;exact Heap.get?_push_of_some _ hp
   rw[aG h3]at q;refine(I.hok b u q).stay (λd v hd r=>keep d v ?_ r) (λd r=>zdj d _ r (by simp)) λd xs r=>zdj d _ r (by simp)
   rcases hd with rfl|hd
   . exact h3
   . intro z;rw[z,e]at hd;cases hd
theorem aX.fnew(I:aX X aB σ H s){o:Obj}{h':Heap}{tk:Nat}(hk: ∀b u,s.heap.get? b=some u->h'.get? b=some u)(hsz:s.heap.objs.size<=h'.objs.size)(hfo:o.isFreed=false):
 aX X aB σ (aO H h'.objs.size (sP h'.objs.size o)) {s with heap:=h'.push o,toks:=tk}:=
 I.laid (λb u e=>Heap.get?_push_of_some _ (hk b u e)) hsz (zfl (Heap.get?_push_size _ hfo))
def zdu(name bK:Str)(params:Arguments)(body:List Stmt)(scope:Scope)(clos:List (Str×Addr))(c:Addr)(o:Obj):Prop:= ∃mO pm ct,o=fnMade name bK params body scope clos mO pm c ct
def nQ(mg:Str->Option Value)(base:Heap):Prop:= ∃bm ob,mg "__builtins__" =some (.ref bm)/\bm≠builtinsNs/\base.get? bm=some ob/\ob.cls= .type "module" /\ob.dict=some builtinsNs/\ob.data= .plain
theorem aX.bltAt(I:aX X aB σ H s)(B:nQ X.mg X.base){p:Addr}{ps:Array Value}(hp:s.heap.get? p=some (tabObj ps)):s.heap.BuiltinsAt X.mg p:=by
 obtain⟨bm,ob,b1,b2,b3,b4,b5,b6⟩:=B
 refine⟨bm,ob,b1,b2,λz=> ?_,λz=> ?_,I.bk _ _ b3,b4,b5,b6⟩
 . obtain⟨o,es,ep,e,d,_⟩:=I.mod.glob;rw[z,e]at b3;cases b3;rw[d]at b6;cases b6
 . have:=I.bk _ _ b3;rw[z,hp]at this;cases this;cases b6
def zxo(name bK:Str)(params:Arguments)(body:List Stmt)(scope:Scope)(clos:List (Str×Addr))(i:Nat)(p:Addr)(pos:Pos):TS:= λD σ H=> ∃ps,H p=some (.tbl ps)/\TriplesOk ps.toList/\
 ((codeAmong pos ps.toList=none/\ ∀(c f:Addr) (o:Obj),H c=none->H f=none->c≠f->zdu name bK params body scope clos c o->
  D.nx (σ.set i (some (.ref f))) (aO (aO (aO H p (.tbl (ps++ #[rawInt pos.line,rawInt pos.col,.ref c]))) c (fZ c bK)) f (sP f o)))\/
  ∃c,codeAmong pos ps.toList=some (.ref c)/\H c=some (fZ c bK)/\ ∀(f:Addr) (o:Obj),H f=none->zdu name bK params body scope clos c o->D.nx (σ.set i (some (.ref f))) (aO H f (sP f o)))
theorem zgs{name bK:Str}{params:Arguments}{body:List Stmt}{scope:Scope}{clos:List (Str×Addr)}{i:Nat}{c p:Addr}{pos:Pos}(B:nQ X.mg X.base)(zad:X.env.code= .ref c)(hC: ∀h,X.K.In h->CodeHd h c p)(hN:X.N.Nodup)(hi:X.N[i]?=some name)(hx:Loc X.env.scope name)
 (hcl:closureFor scope X.env=pure clos) (hq:qualnameIn X.env name name=bK) (hd0:params.defaults=[]:=by rfl) (hk0:params.kw_defaults=[]:=by rfl) (ha:annTrees params none X.env=[]:=by rfl)
 (hf:X.fn name=true\/X.env.scope.names.lookup name=some .local:=by first|exact .inl rfl|exact .inr rfl|assumption):
 PS X (.FunctionDef name params body [] none [] scope none name pos) (zxo name bK params body scope clos i p pos):=by
 intro aB s σ H D I h
 obtain⟨ps,e,ht,h⟩:=h
 refine nestDef_K hd0 hk0 ha ?_
 rw[hq]
 have hP:=I.tblAt e
 have hg:s.heap.Ns mainGlobals X.mg:=I.mod.glob.keeps I.bk
 have hgP:mainGlobals≠p:= λz=>by
  obtain⟨o,es,ep,g,d,_⟩:=hg;rw[z,hP]at g;cases g;cases d
 rcases h with⟨hnf,h⟩|⟨c',hf',hc',h⟩
 . refine makeFunction_K (mg:=X.mg) hcl I.ok.glob hg zad (hC _ I.kIn) hP ht hnf hgP (I.bltAt B hP) λc' ctv mO h' tk vD hge eY znB htb=> ?_;refine gC (I.grown (o:=fnMade name bK params body scope clos mO ((X.mg "__name__").getD .none) c' ctv) (tk:=tk) e vD hge eY znB htb rfl) hN hi hx (show bT (.ref h'.objs.size) (.ref h'.objs.size)from rfl) (λs2 I2=>⟨_,_,I2,?_⟩) hf;exact h c' h'.objs.size _ (I.hok.fresh hge) (I.hok.fresh (Nat.le_trans hge (Nat.le_of_lt eY))) (Nat.ne_of_lt eY) ⟨_,_,_,rfl⟩
 . refine makeFunction_hit (mg:=X.mg) hcl I.ok.glob hg zad (hC _ I.kIn) hP ht hf' (I.bltAt B hP) λctv mO h' tk hk hsz=> ?_;refine gC (I.fnew (o:=fnMade name bK params body scope clos mO ((X.mg "__name__").getD .none) c' ctv) (tk:=tk) hk hsz rfl) hN hi hx (show bT (.ref h'.objs.size) (.ref h'.objs.size)from rfl) (λs2 I2=>⟨_,_,I2,?_⟩) hf;exact h h'.objs.size _ (I.hok.fresh hsz) ⟨_,_,_,rfl⟩
end
end L2
namespace L2
open PySem PySem.Spec PyProof.Rows PySem.W
def zeF(P:Program)(w:World)(K:W.Frag)(mg:Str->Option Value)(base:Heap)(CX:w6)(k:Nat)(name bK:Str)(params:Arguments)(body:List Stmt)(scope:Scope)(ps fr:List Str)(sp:List V->Sp):Prop:=
 ∀(A:Around) (outer:List Env) (s:Shared) (H:Hp) (f c:Addr) (o:Obj) (clos:List (Str×Addr)) (us:List Value) (vs oR:List V) (cv:Str->Option Value) (Q:VK) (E:XK),
  eV k A->nK P w K mg base A outer s H->s.heap.get? f=some o->zdu name bK params body scope clos c o->s.heap.CodeRec (.ref c) bK->
  (∀n d,(n,d)∈clos->n∈fr/\H d=none/\s.heap.IsCell d (cv n))->(clos.Pairwise λx y=>x.2≠y.2)->(∀n∈fr,∃d,clos.lookup n=some d)->Paired (λn v=> ∃u,bT v u/\cv n=some u) fr oR->
  bP vs us->sp oR vs H Q E->codeAny (model P w) A (.call (.ref f) ⟨us,[]⟩) (CR CX outer P w H s Q E) s
theorem zcs{α β:Type}{R:α->β->Prop}: ∀{xs:List α} {ys:List β} {j:Nat} {x:α} {y:β},Paired R xs ys->xs[j]?=some x->ys[j]?=some y->R x y
 |_,_,_,_,_,.nil,h,_=>by simp at h
 |_,_,0,_,_,.cons a _,h,h2=>by simp at h h2;subst h;subst h2;exact a
 |_,_,j+1,_,_,.cons _ b,h,h2=>zcs (j:=j) b (by simpa using h) (by simpa using h2)
theorem zkD{P:Program}{w:World}{K:W.Frag}{mg:Str->Option Value}{base:Heap}{k:Nat}{name bK:Str}{params:Arguments}{body:List Stmt}{scope:Scope}{N ps mid fr:List Str}{sp:List V->Sp}
 (S:pS N ps scope) (hN:N=ps++(mid++fr)) (oQ: ∀n∈fr,scope.names.lookup n=some .free) (uA: ∀y∈scope.names,y.2= .free->y.1∈fr)
 (hb: ∀(clos:List (Str×Addr)) (mO pm ct:Value) (c:Addr) (us:List Value),us.length=ps.length->bindArgs (fnX name bK params body scope clos .none .none mO pm none (.ref c) ct) ⟨us,[]⟩=pure (ps.zip us))
 (len: ∀oR vs H Q E,sp oR vs H Q E->vs.length=ps.length)
 (oX: ∀(clos:List (Str×Addr)) (cdv:Value) (f:Addr) (A:Around) (outer:List Env) (s:Shared) (H:Hp) (oR vs:List V) (Q:VK) (E:XK),eV k (A.deeper (envX bK scope s.heap.objs.size f cdv (cellsFrom (s.heap.objs.size+1) scope.names clos)))->sp oR vs H Q E->
  ∃t,vS (zdN fV P w K mg base N bK scope clos f cdv A outer s H E).nox body t/\t {nx:= λ_ H'=>Q .non H',rt:=Q} (vs.map some++(List.replicate mid.length none++oR.map some)) H):
 zeF P w K mg base fV (k+1) name bK params body scope ps fr sp:=by
 intro A outer s H f c o clos us vs oR cv Q E hr e0 ho hO vC hc hp hfc hfv r hsp
 obtain⟨mO,pm,ct,rfl⟩:=hO
 have hl:=len _ _ _ _ _ hsp
 have zeH: ∀{y:Str},scope.names.lookup y=some .free->(y,NameKind.cell)∉scope.names:= λh z=>by rw[S.cel _ z]at h;cases h
 have zxv:=Paired.length hfv
 refine zea (CX:=fV) (cv:=cv) (fs:=List.replicate mid.length none++oR.map some) hr e0 ho rfl vC S hl r ?_ (λn d h=>(hc n d h).2) hp (λn d h=>zeH (oQ n (hc n d h).1)) (λn h=>hfc n (uA _ (mem_of_lookup h) rfl)) ?_ ?_ λkD=> ?_
 . rw[List.length_append,List.length_replicate,aW,<-zxv,hN,List.length_append,List.length_append]
 . intro j y v h1 h2;rw[hN,List.drop_left]at h1
   by_cases hj:j<mid.length
   . rw[List.getElem?_append_left (by rw[List.length_replicate];exact hj),List.getElem?_replicate,if_pos hj]at h2;cases h2
   . rw[List.getElem?_append_right (by omega)]at h1;rw[List.getElem?_append_right (by rw[List.length_replicate];omega),List.length_replicate,List.getElem?_map]at h2;obtain⟨v',hv',e⟩:=Option.map_eq_some_iff.mp h2;cases e;exact⟨oQ y (List.mem_of_getElem? h1),zcs hfv h1 hv'⟩
 . exact .of_eq (hb clos mO pm ct c us (by rw[<-r.length];exact hl))
 . obtain⟨t,h,q⟩:=oX clos _ f A outer s H oR vs Q E kD hsp;exact⟨t,h.nox,q⟩
def mP(h:Heap)(c:Addr):Option Value:=match h.get? c with
 |some o=>(match o.data with| .cell v=>v|_=>none)
 |none=>none
theorem tQ{h:Heap}{c:Addr}{v:Option Value}(x:h.IsCell c v):mP h c=v:=by
 obtain⟨o,e,d⟩:=x
 unfold mP
 rw[e]
 simp only[d]
section
variable {X:Cx}{CX:w6}{k:Nat}{name bK x:Str}{params:Arguments}{body:List Stmt}{scope:Scope}{ps fr:List Str}{sp:List V->Sp}{E:XK}{e:Expr}{es:List Expr}{t:TA}{p pos:Pos}{clos:List (Str×Addr)}
theorem zmJ{i:Nat}{aB:List (Addr×Obj)}{s:Shared}{σ:St}{H:Hp}{v:V}{Q:Value->Shared->Prop}{E:Value->Shared->Prop}(hN:X.N[i]?=some x)(hv:Vis X.env.scope x)(hd:(x==("__debug__" :Str))=false)(vC:(x==("__classdict__" :Str))=false)
 (I:aX X aB σ H s) (e:σ[i]?=some (some v)) (h: ∀u,bT v u->Q u s):wpAny (model X.prog X.w) X.A (eval (.Name x p) X.env) Q E s:=by
 obtain⟨m,hn,hl⟩:=I.loc
 obtain⟨u,r,l⟩:=hl i x v hN e hv
 have fF:=h u r
 rcases l with⟨hk,hm⟩|⟨hk,c,hc,tF⟩
 . exact wpAny_Name (wpAny_loadName_local I.ok.kind hk hn hm fF) hd
 . rcases hk with hk|hk
   . exact wpAny_Name (wpAny_loadName_cell I.ok.kind hk hc tF fF) hd
   . exact wpAny_Name (wpAny_loadName_free I.ok.kind hk hc tF fF vC) hd
end
end L2
namespace L2
open PySem PySem.Spec PyProof.Rows PySem.W
def jV(d:Addr)(o:Obj):HO:= .ext λh=>h.get? d=some o
theorem zgQ{P:Program}{w:World}{H:Hp}{h:Heap}{d:Addr}{o:Obj}(e:h.get? d=some o):dE P w H h d (jV d o):=⟨e,⟨o,e⟩,λ_ _ p k=>k _ p⟩
def lend(H:Hp)(ds:List (Addr×Obj)):Hp:= λb=>match ds.lookup b with
 |some o=>some (jV b o)
 |none=>H b
def unlend(H:Hp)(ds:List (Addr×Obj)):Hp:= λb=>match ds.lookup b with
 |some _=>none
 |none=>H b
section
variable {H H':Hp}{ds:List (Addr×Obj)}{b:Addr}{o:Obj}
theorem pN(h:ds.lookup b=some o):lend H ds b=some (jV b o):=by unfold lend;rw[h]
theorem cW(h:ds.lookup b=none):lend H ds b=H b:=by unfold lend;rw[h]
theorem gJ(h:ds.lookup b=some o):unlend H ds b=none:=by unfold unlend;rw[h]
theorem cC(h:ds.lookup b=none):unlend H ds b=H b:=by unfold unlend;rw[h]
theorem w8{u:HO}(h:unlend H ds b=some u):ds.lookup b=none/\H b=some u:=by
 cases e:ds.lookup b with
 |none=>exact⟨rfl,by rw[cC e]at h;exact h⟩
 |some o=>rw[gJ e]at h;cases h
variable {P:Program}{w:World}{K:W.Frag}{mg:Str->Option Value}{base:Heap}{A:Around}{outer:List Env}{s:Shared}{h h':Heap}{fs:List Addr}
theorem kU.unlend(x:kU P w H h)(hc: ∀d o,ds.lookup d=some o->H d=some (jV d o)):kU P w (unlend H ds) h:= λb u e=>by
 obtain⟨_,e⟩:=w8 e
 refine(x b u e).stay (λ_ _ _ r=>r) (λc r=> ?_) λc xs r=> ?_
 . cases q:ds.lookup c with
   |none=>rw[cC q];exact r
   |some o=>rw[hc c o q]at r;cases r
 . cases q:ds.lookup c with
   |none=>rw[cC q];exact r
   |some o=>rw[hc c o q]at r;cases r
theorem kU.lend(x:kU P w H h)(hn: ∀d o,ds.lookup d=some o->H d=none/\h.get? d=some o):kU P w (lend H ds) h:= λb u e=>by
 cases q:ds.lookup b with
 |some o=>
  rw[pN q]at e;cases e;exact zgQ (hn b o q).2
 |none=>
  rw[cW q]at e;refine(x b u e).stay (λ_ _ _ r=>r) (λc r=> ?_) λc xs r=> ?_
  . cases q:ds.lookup c with
    |none=>rw[cW q];exact r
    |some o=>rw[(hn c o q).1]at r;cases r
  . cases q:ds.lookup c with
    |none=>rw[cW q];exact r
    |some o=>rw[(hn c o q).1]at r;cases r
theorem Un.lent(u:Un fs [] (lend H ds) H' h h')(hn: ∀d o,ds.lookup d=some o->H d=none/\h.get? d=some o)(hk:kU P w H' h')(he: ∀d o,ds.lookup d=some o->H' d=some (jV d o)):Un fs [] H (unlend H' ds) h h' where
 keep:= λb o e n hb hx=>by
  cases q:ds.lookup b with
  |none=>exact u.keep b o e (by rw[cW q];exact n) hb hx
  |some o'=>
   have h1:=(hn b o' q).2;rw[e]at h1;cases h1;exact(hk b _ (he b o q)).1
 slot:= λb o e n hb hx=>by
  cases q:ds.lookup b with
  |none=>exact u.slot b o e (by rw[cW q];exact n) hb hx
  |some o'=>
   have h1:=(hn b o' q).2;rw[e]at h1;cases h1;exact⟨o.slots,(hk b _ (he b o q)).1⟩
 free:= λb o e n hx=>by
  cases q:ds.lookup b with
  |none=>rw[cC q];exact u.free b o e (by rw[cW q];exact n) hx
  |some o'=>exact gJ q
 there:=u.there
 tups:= λb xs e=>by
  cases q:ds.lookup b with
  |none=>rw[cC q];exact u.tups b xs (by rw[cW q];exact e)
  |some o=>rw[(hn b o q).1]at e;cases e
 frzs:= λb o v e=>by
  cases q:ds.lookup b with
  |none=>rw[cC q];exact u.frzs b o v (by rw[cW q];exact e)
  |some o=>rw[(hn b o q).1]at e;cases e
 tbls:= λb ps e=>by
  cases q:ds.lookup b with
  |none=>rw[cC q];exact u.tbls b ps (by rw[cW q];exact e)
  |some o=>rw[(hn b o q).1]at e;cases e
theorem Un.back(u:Un fs [] (unlend H ds) H' h h')(hc: ∀d o,ds.lookup d=some o->H d=some (jV d o))(hh: ∀d o,ds.lookup d=some o->h.get? d=some o)(hf: ∀d o,ds.lookup d=some o->d∉fs):Un fs [] H (lend H' ds) h h' where
 keep:= λb o e n hb hx=>by
  cases q:ds.lookup b with
  |none=>exact u.keep b o e (by rw[cC q];exact n) hb hx
  |some o'=>rw[hc b o' q]at n;cases n
 slot:= λb o e n hb hx=>by
  cases q:ds.lookup b with
  |none=>exact u.slot b o e (by rw[cC q];exact n) hb hx
  |some o'=>rw[hc b o' q]at n;cases n
 free:= λb o e n hx=>by
  cases q:ds.lookup b with
  |none=>rw[cW q];exact u.free b o e (by rw[cC q];exact n) hx
  |some o'=>rw[hc b o' q]at n;cases n
 there:=u.there
 tups:= λb xs e=>by
  cases q:ds.lookup b with
  |none=>rw[cW q];exact u.tups b xs (by rw[cC q];exact e)
  |some o=>rw[hc b o q]at e;cases e
 frzs:= λb o v e=>by
  cases q:ds.lookup b with
  |none=>rw[cW q];exact u.frzs b o v (by rw[cC q];exact e)
  |some o=>rw[hc b o q]at e;cases e
 tbls:= λb ps e=>by
  cases q:ds.lookup b with
  |none=>rw[cW q];exact u.tbls b ps (by rw[cC q];exact e)
  |some o=>rw[hc b o q]at e;cases e
theorem nK.unlend(e:nK P w K mg base A outer s H)(hc: ∀d o,ds.lookup d=some o->H d=some (jV d o)):nK P w K mg base A outer s (unlend H ds):=
 ⟨e.frames,e.mod,λb o q=>⟨(e.bs b o q).1,by
  cases z:ds.lookup b with
  |none=>rw[cC z];exact(e.bs b o q).2
  |some o=>exact gJ z⟩,e.bsz,e.funs,λb hb=>by
  cases z:ds.lookup b with
  |none=>rw[cC z];exact e.frf b hb
  |some o=>exact gJ z,e.hok.unlend hc,e.bare⟩
theorem nK.lend(e:nK P w K mg base A outer s H)(hn: ∀d o,ds.lookup d=some o->H d=none/\s.heap.get? d=some o)(hb: ∀d o,ds.lookup d=some o->base.get? d=none)(hf: ∀d o,ds.lookup d=some o->d∉frs outer):nK P w K mg base A outer s (lend H ds):=
 ⟨e.frames,e.mod,λb o q=>⟨(e.bs b o q).1,by
  cases z:ds.lookup b with
  |none=>rw[cW z];exact(e.bs b o q).2
  |some o'=>rw[hb b o' z]at q;cases q⟩,e.bsz,e.funs,λb hm=>by
  cases z:ds.lookup b with
  |none=>rw[cW z];exact e.frf b hm
  |some o'=>exact absurd hm (hf b o' z),e.hok.lend hn,e.bare⟩
end
section
variable {X:Cx}{k:Nat}{name bK x:Str}{params:Arguments}{body:List Stmt}{scope:Scope}{ps fr:List Str}{sp:List V->Sp}{E:XK}{e:Expr}{es:List Expr}{t:TA}{p pos:Pos}
def FnL(name bK:Str)(params:Arguments)(body:List Stmt)(scope:Scope)(fr:List Str)(H:Hp)(f:Addr)(ds:List (Addr×Obj))(oR:List V):Prop:=
 ∃(c:Addr) (o:Obj) (clos:List (Str×Addr)) (cv:Str->Option Value),H f=some (sP f o)/\zdu name bK params body scope clos c o/\H c=some (fZ c bK)/\(∀n d,(n,d)∈clos->n∈fr/\ ∃od,ds.lookup d=some od/\od.data= .cell (cv n))/\(clos.Pairwise λx y=>x.2≠y.2)/\(∀n∈fr,∃d,clos.lookup n=some d)/\
  Paired (λn v=> ∃u,bT v u/\cv n=some u) fr oR/\(∀d o,ds.lookup d=some o->H d=some (jV d o))/\ds.lookup f=none/\ds.lookup c=none
def zgh(ds:List (Addr×Obj))(Q:VK):VK:= λv H'=>Q v (lend H' ds)
def zje(ds:List (Addr×Obj))(Q:VK):VK:= λv H'=>(∀d o,ds.lookup d=some o->H' d=some (jV d o))/\Q v (unlend H' ds)
def zbj(i:Nat)(name bK:Str)(params:Arguments)(body:List Stmt)(scope:Scope)(fr:List Str)(sp:List V->Sp)(E:XK)(t:TA):TE:= λσ H Q=>
 ∃f o0,σ[i]?=some (some (.ref f))/\H f=some (sP f o0)/\(∃fd,o0.data= .func fd)/\t σ H λvs H1=> ∃ds oR,FnL name bK params body scope fr H1 f ds oR/\sp oR vs (unlend H1 ds) (zgh ds Q) E
theorem zak{i:Nat}(F:zeF X.prog X.w X.K X.mg X.base fV k name bK params body scope ps fr sp)(hr:eV k X.A)(hN:X.N[i]?=some x)(hv:Vis X.env.scope x)
 (ha:PA X (e::es) t) (hd:(x==("__debug__" :Str))=false:=by decide) (vC:(x==("__classdict__" :Str))=false:=by decide)
 (he:starEach (e::es) X.env=(false,eval e X.env)::starEach es X.env:=by rfl) (jK:(backTo pos (starEach es X.env)).any (·.1)=false:=by rfl):
 PE X (.Call (.Name x p) (e::es) [] pos) (zbj i name bK params body scope fr sp E0 t):=by
 intro aB s σ H Q I h
 obtain⟨f,o0,ef,hf0,⟨fd0,hd0⟩,h⟩:=h
 refine wpAny_Call_Name_kw (zmJ hN hv hd vC I ef λu r=> ?_)
 cases r
 have at0: ∀{s1:Shared} {H1:Hp} {o:Obj},aX X aB σ H1 s1->H1 f=some (sP f o)->(∃fd,o.data= .func fd)->FnAt f s1.heap:= λ{s1 H1 o} J z ⟨fd,d⟩=>by
  have:=J.fnAt z;cases o;cases d;exact⟨_,_,_,_,this⟩
 refine callWith_F (at0 I hf0 ⟨fd0,hd0⟩) (dP (ha pos aB s σ H _ I h) λus s1 ⟨vs,H1,I1,r,q⟩=> ?_) he jK
 obtain⟨ds,oR,⟨c,o,clos,cv,h1,h2,h3,h4,h5,h6,h7,h8,h9,h10⟩,hsp⟩:=q
 have ofd: ∃fd,o.data= .func fd:=by
  obtain⟨_,_,_,rfl⟩:=h2;exact⟨_,rfl⟩
 refine⟨at0 I1 h1 ofd,?_⟩
 have inH: ∀d o,ds.lookup d=some o->s1.heap.get? d=some o:= λd o q=>(I1.hok d _ (h8 d o q)).1
 have run:=F X.A X.stack s1 (unlend H1 ds) f c o clos us vs oR cv (λv H'=>Q v (lend H' ds)) E0 hr (I1.env0.unlend h8) (I1.fnAt h1) h2 (I1.codeAt h3) (λn d hm=>by
  obtain⟨jW,od,hl,hd⟩:=h4 n d hm;exact⟨jW,gJ hl,od,inH d od hl,hd⟩) h5 h6 h7 r hsp
 refine wpAny_call (codeAny_mono run λr s' hq=> ?_)
 cases r with
 |error e=>exact False.elim hq
 |ok fl=>
  cases fl with
  |ret u=>
   obtain⟨v,H',os,bare,un,hok,rv,q⟩:=hq;have off: ∀d o,ds.lookup d=some o->H' d=none:= λd o z=>un.free d o (inH d o z) (gJ z) (by simp);have nof: ∀d o,ds.lookup d=some o->d∉frs X.stack:= λd o z hm=>by
    have:=I1.env0.frf d hm;rw[h8 d o z]at this;cases this
   exact I1.after ⟨v,lend H' ds,os,bare,un.back h8 inH nof,hok.lend (λd o z=>⟨off d o z,un.keep d o (inH d o z) (gJ z) (nof d o z) (by simp)⟩),rv,q⟩
  |next=>exact False.elim hq
  |brk=>exact False.elim hq
  |cont=>exact False.elim hq
theorem lV{α:Type}: ∀{l:List (Addr×α)} {n:Addr} {c:α},l.lookup n=some c->(n,c)∈l
 |(k,v)::r,n,c,h=>by
  rw[List.lookup_cons]at h;cases hb:n==k with
  |true=>rw[hb]at h;cases h;rw[beq_iff_eq.mp hb];exact List.mem_cons_self
  |false=>rw[hb]at h;exact List.mem_cons_of_mem _ (lV h)
theorem vZ{α:Type}: ∀{l:List (Addr×α)} {n:Addr} {c:α},(n,c)∈l-> ∃c',l.lookup n=some c'
 |(k,v)::r,n,c,h=>by
  rw[List.lookup_cons];cases hb:n==k with
  |true=>exact⟨v,rfl⟩
  |false=>
   rcases List.mem_cons.mp h with e|h
   . cases e;rw[beq_self_eq_true]at hb;cases hb
   . exact vZ h
def zdA(h:Heap)(cells:List (Str×Addr))(ns:List Str):List (Addr×Obj):=ns.filterMap λn=>(cells.lookup n).bind λd=>(h.get? d).map λo=>(d,o)
theorem zfj{h:Heap}{cells:List (Str×Addr)}{ns:List Str}{d:Addr}{o:Obj}(hm:(d,o)∈zdA h cells ns):h.get? d=some o/\ ∃n∈ns,cells.lookup n=some d:=by
 obtain⟨n,hn,e⟩:=List.mem_filterMap.mp hm
 obtain⟨d',h1,e⟩:=Option.bind_eq_some_iff.mp e
 obtain⟨o',h2,e⟩:=Option.map_eq_some_iff.mp e
 cases e
 exact⟨h2,n,hn,h1⟩
def znr(env:Env)(ns:List Str)(js:List Nat)(sp:Sp)(t:TA):TE:= λσ H Q=>t σ H λvs H1=> ∀(ds:List (Addr×Obj)) (cv:Str->Option Value),
 (∀n∈ns,∃d od,env.cells.lookup n=some d/\ds.lookup d=some od/\od.data= .cell (cv n))->(∀d o,ds.lookup d=some o->H1 d=none)->
 (∀(i j:Nat) (n:Str) (v:V),js[i]?=some j->ns[i]?=some n->σ[j]?=some (some v)-> ∃u,bT v u/\cv n=some u)->
 sp vs (lend H1 ds) (zje ds Q) E0
theorem zhO{f:Addr}{fd:FuncData}{sp:Sp}{ns:List Str}{js:List Nat}(F:dG X.prog X.w X.K X.mg X.base fV k f fd ps sp)(hr:eV k X.A)(hg:Gl X x)(hm:X.mg x=some (.ref f))(hk:W.keepIn X.K (.ref f)=true)(hb:lJ X.K fd ps [])
 (hns: ∀n∈ns,X.env.scope.names.lookup n=some .cell/\X.fn n=true) (hjs: ∀(i j:Nat) (n:Str),js[i]?=some j->ns[i]?=some n->X.N[j]?=some n)
 (ha:PA X (e::es) t) (hdb:(x==("__debug__" :Str))=false:=by decide) (he:starEach (e::es) X.env=(false,eval e X.env)::starEach es X.env:=by rfl) (jK:(backTo pos (starEach es X.env)).any (·.1)=false:=by rfl):
 PE X (.Call (.Name x p) (e::es) [] pos) (znr X.env ns js sp t):=by
 intro aB s σ H Q I h
 refine wpAny_Call_Name_kw (yB I hg hm ?_ hdb)
 refine PySem.W.callWith_K (h₀:=X.base) I.ok.mod.kin hk (dP (ha pos aB s σ H _ I h) λus s1 ⟨vs,H1,I1,r,q⟩=>⟨I1.kIn,?_⟩) he jK
 have inD: ∀d o,(zdA s1.heap X.env.cells ns).lookup d=some o->s1.heap.get? d=some o/\ ∃n∈ns,X.env.cells.lookup n=some d:= λd o z=>zfj (lV z)
 have hn: ∀d o,(zdA s1.heap X.env.cells ns).lookup d=some o->H1 d=none/\s1.heap.get? d=some o:= λd o z=>by
  obtain⟨h1,n,hn,hl⟩:=inD d o z;exact⟨I1.freeC n d hl,h1⟩
 have ab: ∀d o,(zdA s1.heap X.env.cells ns).lookup d=some o->X.s₀.heap.objs.size<=d:= λd o z=>by
  obtain⟨_,n,hn,hl⟩:=inD d o z;exact I1.ok.cab n d (hns n hn).2 hl
 have sp':=q (zdA s1.heap X.env.cells ns) (λn=>(X.env.cells.lookup n).bind (mP s1.heap)) (λn hn=> ?_) (λd o z=>(hn d o z).1) (λi j n v h1 h2 h3=> ?_)
 . have e0:=I1.env0.lend hn (λd o z=>Heap.get?_none_of_le (Nat.le_trans I1.ok.bsz (ab d o z))) (λd o z hm=>by
    obtain⟨_,n,_,hl⟩:=inD d o z
    rcases List.mem_cons.mp (I1.stkSub d hm)with e|hb
    . exact I1.cne n d hl e
    . obtain⟨_,o',ho,_⟩:=I1.ok.funs.mem hb;exact absurd (Nat.lt_of_lt_of_le (Heap.lt_size ho) (ab d o z)) (Nat.lt_irrefl _))
   have hl:us.length=ps.length:=by rw[<-r.length];exact F.len _ _ _ _ sp'
   refine wpAny_call (codeAny_mono (F.run X.A X.stack s1 _ ⟨us,[]⟩ us vs _ E0 hr e0 (by have:=hb s1 us I1.kIn (by simpa using hl);rwa [List.append_nil]at this) r sp') λr s' hq=> ?_);cases r with
   |error e=>exact False.elim hq
   |ok fl=>
    cases fl with
    |ret u=>
     obtain⟨v,H',os,bare,un,hok,rv,he,q⟩:=hq;exact I1.after ⟨v,unlend H' _,os,bare,un.lent hn hok he,hok.unlend he,rv,q⟩
    |next=>exact False.elim hq
    |brk=>exact False.elim hq
    |cont=>exact False.elim hq
 . obtain⟨d,hl⟩:=I1.ok.has n (.inl (hns n hn).1);obtain⟨v,o,ho,hd⟩:=I1.cell n d hl;have hm:(d,o)∈zdA s1.heap X.env.cells ns:=List.mem_filterMap.mpr ⟨n,hn,by rw[hl];show(s1.heap.get? d).map _=_;rw[ho];rfl⟩;obtain⟨o',hlk⟩:=vZ hm;have h1:=(inD d o' hlk).1;rw[ho]at h1;cases h1;refine⟨d,o,hl,hlk,?_⟩;show o.data= .cell ((X.env.cells.lookup n).bind (mP s1.heap));rw[hl];show o.data= .cell (mP s1.heap d);rw[tQ ⟨o,ho,hd⟩];exact hd
 . obtain⟨m,_,hlc⟩:=I1.loc;have hn':=List.mem_of_getElem? h2;obtain⟨u,rv,lk⟩:=hlc j n v (hjs i j n h1 h2) h3 (.inr (.inl (hns n hn').1));refine⟨u,rv,?_⟩
   rcases lk with⟨kk,_⟩|⟨_,d,hl,tF⟩
   . have kk:X.env.scope.names.lookup n=some .local:=kk;rw[(hns n hn').1]at kk;cases kk
   . show(X.env.cells.lookup n).bind (mP s1.heap)=some u
     rw[hl];exact tQ tF
end
end L2
namespace L2
open PySem PySem.Spec PyProof.Rows
variable {X:Cx}
def dQ(P:Program)(w:World)(H:Hp)(x:V)(d:PyData):Prop:= ∀h u,kU P w H h->bT x u-> ∃as,Reads h u d as
section
variable {P:Program}{w:World}{H:Hp}
theorem dQ.int(i:Int):dQ P w H (.int i) (.int i):= λh u _ r=>by
 obtain⟨t,rfl⟩:=r
 exact⟨_,.int i t⟩
theorem dQ.str(x:Str):dQ P w H (.str x) (.str x):= λh u _ r=>by
 obtain⟨t,rfl⟩:=r
 exact⟨_,.str x t⟩
theorem dQ.bool(b:Bool):dQ P w H (.bl b) (.bool b):= λh u _ r=>by
 cases r
 exact⟨_,.bool b⟩
theorem dQ.all{xs:List V}{ds:List PyData}(q:Paired (dQ P w H) xs ds){h:Heap}(ok:kU P w H h): ∀{us:List Value},bP xs us-> ∃as,ReadsAll h us ds as:=by
 induction q with
 |nil=>intro us r;cases r;exact⟨_,.nil⟩
 |cons e _ ih=>
  intro us r;cases r with
  |cons r1 r2=>
   obtain⟨as,z1⟩:=e h _ ok r1;obtain⟨bs,z2⟩:=ih r2;exact⟨_,.cons z1 z2⟩
theorem dQ.lst{a:Addr}{xs:List V}{ds:List PyData}(e:H a=some (.lst xs))(q:Paired (dQ P w H) xs ds):dQ P w H (.ref a) (.list ds):= λh u ok r=>by
 cases r
 obtain⟨_,bC,n,rv,z⟩:=ok _ _ e
 obtain⟨as,zs⟩:=dQ.all q ok rv
 exact⟨_,.list z rfl rfl zs⟩
theorem dQ.tup{a:Addr}{xs:List V}{ds:List PyData}(e:Rd H a (.tup xs))(q:Paired (dQ P w H) xs ds):dQ P w H (.ref a) (.tuple ds):= λh u ok r=>by
 cases r
 obtain⟨_,bC,rv,o,z,e1,n,e2⟩:=e.ok ok
 obtain⟨as,zs⟩:=dQ.all q ok rv
 exact⟨_,.tuple z e1 e2 zs⟩
def cJ(H:Hp):Nat->V->PyData->Prop
 |0,x,d=>(∃i,x= .int i/\d= .int i)\/(∃s,x= .str s/\d= .str s)\/ ∃b,x= .bl b/\d= .bool b
 |n+1,x,d=>cJ H n x d\/ ∃a xs ds,x= .ref a/\((H a=some (.lst xs)/\d= .list ds)\/(Rd H a (.tup xs)/\d= .tuple ds))/\Paired (cJ H n) xs ds
theorem cJ.at: ∀{n:Nat} {x:V} {d:PyData},cJ H n x d->dQ P w H x d:=by
 intro n
 induction n with
 |zero=>
  intro x d h
  rcases h with⟨i,rfl,rfl⟩|⟨s,rfl,rfl⟩|⟨b,rfl,rfl⟩
  . exact dQ.int i
  . exact dQ.str s
  . exact dQ.bool b
 |succ n ih=>
  intro x d h
  rcases h with h|⟨a,xs,ds,rfl,h,q⟩
  . exact ih h
  . have q':=Paired.mapP q λ_ _ z=>ih z
    rcases h with⟨h,rfl⟩|⟨h,rfl⟩
    . exact dQ.lst h q'
    . exact dQ.tup h q'
theorem cJ.up{n:Nat}{x:V}{d:PyData}(h:cJ H n x d):cJ H (n+1) x d:= .inl h
theorem cJ.int(n:Nat)(i:Int):cJ H n (.int i) (.int i):=by
 induction n with
 |zero=>exact .inl ⟨i,rfl,rfl⟩
 |succ n ih=>exact .inl ih
theorem cJ.str(n:Nat)(x:Str):cJ H n (.str x) (.str x):=by
 induction n with
 |zero=>exact .inr (.inl ⟨x,rfl,rfl⟩)
 |succ n ih=>exact .inl ih
theorem cJ.lst{n:Nat}{a:Addr}{xs:List V}{ds:List PyData}(h:H a=some (.lst xs))(q:Paired (cJ H n) xs ds):cJ H (n+1) (.ref a) (.list ds):= .inr ⟨a,xs,ds,rfl,.inl ⟨h,rfl⟩,q⟩
theorem cJ.tup{n:Nat}{a:Addr}{xs:List V}{ds:List PyData}(h:H a=some (.tup xs))(q:Paired (cJ H n) xs ds):cJ H (n+1) (.ref a) (.tuple ds):= .inr ⟨a,xs,ds,rfl,.inr ⟨.inl h,rfl⟩,q⟩
theorem cJ.tupR{n:Nat}{a:Addr}{xs:List V}{ds:List PyData}(h:Rd H a (.tup xs))(q:Paired (cJ H n) xs ds):cJ H (n+1) (.ref a) (.tuple ds):= .inr ⟨a,xs,ds,rfl,.inr ⟨h,rfl⟩,q⟩
theorem cJ.ints(n:Nat)(is:List Int):Paired (cJ H n) (is.map V.int) (is.map .int):=by
 induction is with
 |nil=>exact .nil
 |cons i r ih=>exact .cons (cJ.int n i) ih
theorem cJ.strs(n:Nat)(xs:List Str):Paired (cJ H n) (xs.map V.str) (xs.map .str):=by
 induction xs with
 |nil=>exact .nil
 |cons x r ih=>exact .cons (cJ.str n x) ih
structure Sm(n w:Nat)(d:PyData):Prop where
 sh:d.showable=true
 nd:d.hasDict=false
 lv:d.leavesShort 13=true
 dp:d.depth<=n
 wt:d.weight<=w
theorem Sm.mono{n w n' w':Nat}{d:PyData}(h:Sm n w d)(a:n<=n')(b:w<=w'):Sm n' w' d:=⟨h.sh,h.nd,h.lv,Nat.le_trans h.dp a,Nat.le_trans h.wt b⟩
theorem Sm.all{n w:Nat}: ∀{ds:List PyData},(∀d∈ds,Sm n w d)->PyData.showableAll ds=true/\PyData.hasDictAll ds=false/\PyData.leavesShortAll 13 ds=true/\PyData.depthAll ds<=n/\PyData.weightAll ds<=ds.length * (w+1):=by
 intro ds
 induction ds with
 |nil=>intro _;exact⟨rfl,rfl,rfl,Nat.zero_le _,Nat.zero_le _⟩
 |cons d ds ih=>
  intro h;have h1:=h d (List.mem_cons_self ..);obtain⟨a,b,c,e,f⟩:=ih λx hx=>h x (List.mem_cons_of_mem _ hx);refine⟨?_,?_,?_,?_,?_⟩
  . rw[PyData.showableAll,h1.sh,a];rfl
  . rw[PyData.hasDictAll,h1.nd,b];rfl
  . rw[PyData.leavesShortAll,h1.lv,c];rfl
  . rw[PyData.depthAll];exact Nat.max_le.mpr ⟨h1.dp,e⟩
  . rw[PyData.weightAll,List.length_cons,Nat.succ_mul,Nat.add_comm (ds.length * (w+1))];exact Nat.add_le_add (Nat.add_le_add_right h1.wt 1) f
theorem Sm.list{n w m:Nat}{ds:List PyData}(h: ∀d∈ds,Sm n w d)(hm:ds.length * (w+1)<=m):Sm (n+1) m (.list ds):=by
 obtain⟨a,b,c,e,f⟩:=Sm.all h
 exact⟨by rw[PyData.showable];exact a,by rw[PyData.hasDict];exact b,by rw[PyData.leavesShort];exact c,by rw[PyData.depth];exact Nat.succ_le_succ e,by rw[PyData.weight];exact Nat.le_trans f hm⟩
theorem Sm.tuple{n w m:Nat}{ds:List PyData}(h: ∀d∈ds,Sm n w d)(hm:ds.length * (w+1)<=m):Sm (n+1) m (.tuple ds):=by
 obtain⟨a,b,c,e,f⟩:=Sm.all h
 exact⟨by rw[PyData.showable];exact a,by rw[PyData.hasDict];exact b,by rw[PyData.leavesShort];exact c,by rw[PyData.depth];exact Nat.succ_le_succ e,by rw[PyData.weight];exact Nat.le_trans f hm⟩
theorem Sm.int{w:Nat}{i:Int}(h1: -(100000000000:Int)<=i)(h2:i<=100000000000)(hw:40<=w):Sm 0 w (.int i):=by
 have ha:i.natAbs<10^12:=by
  have e:(10:Nat)^12=1000000000000:=by decide
  rw[e];omega
 have hb:i.natAbs.log2<40:=by
  rcases Nat.eq_zero_or_pos i.natAbs with z|z
  . rw[z];decide
  . refine(Nat.log2_lt (Nat.pos_iff_ne_zero.mp z)).mpr (Nat.lt_trans ha ?_)
    decide
 refine⟨by rw[PyData.showable];exact decide_eq_true (Nat.lt_trans hb (by decide)),rfl,?_,Nat.le_refl _,?_⟩
 . rw[PyData.leavesShort];exact decide_eq_true (PyData.shown_int_le ha)
 . rw[PyData.weight]
   split
   . exact Nat.zero_le _
   . exact Nat.le_trans hb hw
theorem Sm.str{w:Nat}{x:Str}(h: ∀c∈x.cps.toList,c<4294967296)(hw:x.length<=w):Sm 0 w (.str x):=
 ⟨rfl,rfl,by
  rw[PyData.leavesShort,List.all_eq_true];exact λc hc=>decide_eq_true (h c hc),Nat.le_refl _,by rw[PyData.weight];exact hw⟩
end
def zrb:List V->Hp->VK->Prop:= λxs H Q=> ∃(a:Addr) (n:Nat) (d:PyData),xs=[.ref a]/\cJ H n (.ref a) d/\Sm 8 1048576 d/\Q (.str d.shown) H
theorem mY(hg:X.A.guards=some [])(hu:X.A.units+64<cLine):fJ X (.builtin "repr") zrb:=by
 intro aB s σ H xs us Q I r h
 obtain⟨a,n,d,rfl,hd,sm,q⟩:=h
 obtain⟨u,rfl,rx⟩:=bP.one r
 cases rx
 obtain⟨as,rd⟩:=hd.at _ _ I.hok rfl
 have h8:=sm.dp
 exact repr_of_reads' rd sm.sh (λz=>absurd (sm.nd.symm.trans z) Bool.false_ne_true) hg (by omega) (λ_ _ e=>e) (λh' u tk k=>⟨.str d.shown,_,I.kept k,⟨u,rfl⟩,q⟩)
  (PyData.shown_fits (B:=13) (by decide) (by decide) sm.lv sm.wt)
def wK(z:Str):Value->Bool
 | .str a _=>a==z
 |_=>false
theorem qC{zs:List Str}{bC:List Value}(r:bP (zs.map V.str) bC){j:Nat}{u:Value}(h:bC[j]?=some u): ∃a t,zs[j]?=some a/\u= .str a t:=by
 have hj:j<zs.length:=by
  have:=(List.getElem?_eq_some_iff.mp h).1;have e:=r.length;rw[aW]at e;omega
 obtain⟨u',h',ru⟩:=r.get (i:=j) (x:= .str zs[j]) (by rw[List.getElem?_map,List.getElem?_eq_getElem hj];rfl)
 rw[h]at h'
 obtain⟨t,rfl⟩:=ru
 exact⟨zs[j],t,List.getElem?_eq_getElem hj,Option.some.inj h'⟩
theorem zey{zs:List Str}{bC:List Value}{z:Str}{t:Tok}(r:bP (zs.map V.str) bC): ∀y∈bC.toArray,MeetsSeq.EqGives y (.str z t) (wK z y):= λy hy=>by
 obtain⟨j,hj⟩:=List.getElem?_of_mem (show y∈bC by simpa using hy)
 obtain⟨a,t',_,rfl⟩:=qC r hj
 exact λprog w A E s Q h=>SeqAt.EqAt.str_str a t' z t prog w E Q h
theorem zgK{zs:List Str}{bC:List Value}{z:Str}(r:bP (zs.map V.str) bC)(hz:z∈zs): ∃hj:zs.idxOf z<bC.toArray.size,wK z bC.toArray[zs.idxOf z]=true/\ ∀(m:Nat) (hm:m<bC.toArray.size),m<zs.idxOf z->wK z bC.toArray[m]=false:=by
 have hj:zs.idxOf z<zs.length:=List.idxOf_lt_length_of_mem hz
 have e:=r.length
 rw[aW]at e
 refine⟨by rw[List.size_toArray];omega,?_,λm hm hl=> ?_⟩
 . obtain⟨a,t,h1,h2⟩:=qC r (List.getElem?_eq_getElem (by omega:zs.idxOf z<bC.length));show wK z bC[zs.idxOf z]=true;rw[h2];rw[List.getElem?_eq_getElem hj]at h1;have:a=z:=by rw[<-Option.some.inj h1];exact List.getElem_idxOf hj
   subst this;exact beq_self_eq_true a
 . rw[List.size_toArray]at hm;obtain⟨a,t,h1,h2⟩:=qC r (List.getElem?_eq_getElem hm);show wK z bC[m]=false;rw[h2];obtain⟨hm',h1⟩:=List.getElem?_eq_some_iff.mp h1;show(a==z)=false;rw[beq_eq_false_iff_ne];rintro rfl;have hc:=List.not_of_lt_findIdx hl;rw[h1,beq_self_eq_true]at hc;cases hc
def zfM:V->List V->Hp->VK->Prop:= λx vs H Q=> ∃(l:Addr) (z:Str) (zs:List Str),x= .ref l/\vs=[.str z]/\H l=some (.lst (zs.map V.str))/\z∈zs/\zs.length<=1000/\Q (.int (zs.idxOf z:Nat)) H
theorem zeg:MtM X "list.index" zfM:=by
 intro aB s σ H x vs v us Q I rx rv h
 obtain⟨l,z,zs,rfl,rfl,hH,hz,zdh,q⟩:=h
 cases rx
 obtain⟨u,rfl,ru⟩:=rv.one
 obtain⟨t,rfl⟩:=ru
 obtain⟨sz,bC,n,r,hl,e⟩:=I.lstM hH
 obtain⟨hj,h1,h2⟩:=zgK r hz
 have hj':zs.idxOf z<zs.length:=List.idxOf_lt_length_of_mem hz
 refine call_meets F.slot_list_index ⟨_,e,rfl⟩ F.entry_list_index (F.args_list_index_2 _ _)
  (MeetsSeq.list_index l bC.toArray n (.str z t) (wK z) (zey r) _ hj (by omega) h1 h2) ⟨e,?_⟩
 exact⟨.int _,H,I.tok _,⟨_,rfl⟩,q⟩
def zgM(z:Int):Value->Bool
 | .int a _=>a==z
 |_=>false
theorem qV{zs:List Int}{bC:List Value}(r:bP (zs.map V.int) bC){j:Nat}{u:Value}(h:bC[j]?=some u): ∃a t,zs[j]?=some a/\u= .int a t:=by
 have hj:j<zs.length:=by
  have e:=r.length;rw[aW]at e;have:=(List.getElem?_eq_some_iff.mp h).1;omega
 obtain⟨u',h',ru⟩:=r.get (i:=j) (x:= .int zs[j]) (by rw[List.getElem?_map,List.getElem?_eq_getElem hj];rfl)
 rw[h]at h'
 obtain⟨t,rfl⟩:=ru
 exact⟨zs[j],t,List.getElem?_eq_getElem hj,Option.some.inj h'⟩
def zfI:V->List V->Hp->VK->Prop:= λx vs H Q=> ∃(l:Addr) (z:Int) (zs:List Int),x= .ref l/\vs=[.int z]/\H l=some (.lst (zs.map V.int))/\z∈zs/\zs.length<=1000/\Q (.int (zs.idxOf z:Nat)) H
theorem zeL:MtM X "list.index" zfI:=by
 intro aB s σ H x vs v us Q I rx rv h
 obtain⟨l,z,zs,rfl,rfl,hH,hz,zdh,q⟩:=h
 cases rx
 obtain⟨u,rfl,ru⟩:=rv.one
 obtain⟨t,rfl⟩:=ru
 obtain⟨sz,bC,n,r,hl,e⟩:=I.lstM hH
 have hj:zs.idxOf z<zs.length:=List.idxOf_lt_length_of_mem hz
 have el:=r.length
 rw[aW]at el
 refine call_meets PySem.F.slot_list_index ⟨_,e,rfl⟩ PySem.F.entry_list_index (PySem.F.args_list_index_2 _ _) (MeetsSeq.list_index l bC.toArray n (.int z t) (zgM z) (λy hy=> ?_) (zs.idxOf z) (by rw[List.size_toArray];omega) (by omega) ?_ ?_) ⟨e,⟨.int _,H,I.tok _,⟨_,rfl⟩,q⟩⟩
 . obtain⟨j,hj⟩:=List.getElem?_of_mem (show y∈bC by simpa using hy);obtain⟨a,t',_,rfl⟩:=qV r hj;exact λprog w A E s Q h=>SeqAt.EqAt.int_int a t' z t prog w E Q h
 . obtain⟨a,t',h1,h2⟩:=qV r (List.getElem?_eq_getElem (by omega:zs.idxOf z<bC.length));show zgM z bC[zs.idxOf z]=true;rw[h2];rw[List.getElem?_eq_getElem hj]at h1;have:a=z:=by rw[<-Option.some.inj h1];exact List.getElem_idxOf hj
   rw[this];exact beq_self_eq_true z
 . intro m hm eY;rw[List.size_toArray]at hm;obtain⟨a,t',h1,h2⟩:=qV r (List.getElem?_eq_getElem hm);show zgM z bC[m]=false;rw[h2];obtain⟨hm',h1⟩:=List.getElem?_eq_some_iff.mp h1;show(a==z)=false;rw[beq_eq_false_iff_ne];rintro rfl;have hc:=List.not_of_lt_findIdx eY;rw[h1,beq_self_eq_true]at hc;cases hc
end L2
namespace L2
open PySem PySem.Spec PyProof.Rows PySem.W
def zhF(tabs:List (Addr×Addr))(H:Hp):Prop:= ∀b,H b=none\/(∃o xs,H b=some (.frz o (.lst xs)))\/(b∈tabs.map (·.2)/\H b=some (.tbl #[]))
theorem zeR{P:Program}{w:World}{K:W.Frag}{mg mb:Str->Option Value}{CX:w6}{k:Nat}{fa a:Addr}{fd:FuncData}{x:Str}{sp:Sp}{s₁:Shared}{vs:List Value}{ns:List Int}{tabs:List (Addr×Addr)}
 (KX:K.In s₁.heap) (hns:s₁.heap.Ns mainGlobals mg) (hb:s₁.heap.Ns builtinsNs mb) (hbb: ∀x:Str,x≠ "__name__" ->mb x=bootBuiltins x) (zwJ:s₁.heap.NoLimit) (hg:s₁.gens= #[])
 (hT:TabsAt tabs s₁.heap) (hnK:noTabs K=true) (hB:nQ mg s₁.heap)
 (ha:s₁.heap.get? a=some {cls:= .type "list",data:= .seq vs.toArray}) (hi:IntsAre vs ns) (hl:ns.length<=sizeLine) (hr:eV k callerA)
 (F: ∀base:Heap,K.In base->base.Ns mainGlobals mg->nQ mg base->dG P w K mg base CX k fa fd [x] sp) (zsa: ∀(s:Shared) (u:Value),BindsTo s fd ⟨[u],[]⟩ [(x,u)])
 (hsp: ∀H:Hp,(∀q∈tabs,H q.2=some (.tbl #[]))->zhF tabs H->bB K H a (ns.map V.int)->sp [.ref a] H (λv _=>v= .bl true) λ_ _ _=>False)
 (hCX: ∀H e s',CX [] H s₁ (λ_ _ _=>False) e s'->False):
 codeAny (model P w) callerA (.call (.ref fa) ⟨[.ref a],[]⟩) (λr s'=>r= .ok (.ret (.bool true))/\OldK s₁.heap s'.heap/\s'.os=s₁.os/\AllBare s'.gens) s₁:=by
 have rv:=pY hi
 have zxr:=hi.length
 have wA: ∀{b:Addr},b∈tabs.map (·.2)->isCodeTable s₁.heap b/\s₁.heap.get? b=some (tabObj #[]):= λ{b} hm=>by
  obtain⟨q,hq,rfl⟩:=List.mem_map.mp hm;exact⟨((hT q hq).1.tab (hT q hq).2).isCodeTable,(hT q hq).2⟩
 have aT:a∉tabs.map (·.2):= λhm=>by
  have:=(wA hm).2;rw[ha]at this;cases this
 have zsT: ∀H:Hp,(∀q∈tabs,H q.2=some (.tbl #[]))->zhF tabs H->bB K H a (ns.map V.int)->kU P w H s₁.heap->(∀b,H b≠none->b=a\/b∈tabs.map (·.2))->(H a≠none->K.lookup a=none)->
  codeAny (model P w) callerA (.call (.ref fa) ⟨[.ref a],[]⟩) (λr s'=>r= .ok (.ret (.bool true))/\OldK s₁.heap s'.heap/\s'.os=s₁.os/\AllBare s'.gens) s₁:=by
  intro H hTH hO hS hok hA hK;have xN: ∀{b:Addr} {o:Obj},s₁.heap.get? b=some o->H b=none->(vI s₁.heap H).get? b=some o:= λe n=>zgU e n;have noA: ∀{b:Addr} {o:Obj},s₁.heap.get? b=some o->(∀xs n,o.data≠ .seq xs n)->o≠tabObj #[]->H b=none:= λ{b o} e d dt=>by
   cases q:H b with
   |none=>rfl
   |some u=>
    rcases hA b (by rw[q];simp)with z|z
    . subst z;rw[ha]at e;cases e;exact absurd rfl (d _ _)
    . have:=(wA z).2;rw[e]at this;exact absurd (Option.some.inj this) dt
  have nsK: ∀{b:Addr} {m:Str->Option Value},s₁.heap.Ns b m->(vI s₁.heap H).Ns b m:= λ{b m} ⟨o,es,ep,e,d,r⟩=>⟨o,es,ep,xN e (noA e (λ_ _ z=>by rw[d]at z;cases z) λz=>by rw[z]at d;cases d),d,r⟩;have hKb:K.In (vI s₁.heap H):= λb o e=>xN (KX b o e) (by
   cases q:H b with
   |none=>rfl
   |some u=>
    rcases hA b (by rw[q];simp)with z|z
    . subst z;rw[hK (by rw[q];simp)]at e;cases e
    . have h1:=(wA z).2;rw[KX b o e]at h1;have h2:=List.all_eq_true.mp hnK (b,o) (mem_of_lookupK e);rw[Option.some.inj h1]at h2;exact absurd (show false=true from h2) Bool.false_ne_true)
  have hM:Mod K mg (vI s₁.heap H):=⟨hKb,nsK hns,⟨mb,nsK hb,hbb⟩,let⟨mc,h1,h2⟩:=zwJ;⟨mc,nsK h1,h2⟩⟩;have hBb:nQ mg (vI s₁.heap H):=let⟨bm,ob,b1,b2,b3,b4,b5,b6⟩:=hB;⟨bm,ob,b1,b2,xN b3 (noA b3 (λ_ _ z=>by rw[b6]at z;cases z) λz=>by rw[z]at b6;cases b6),b4,b5,b6⟩
  have e0:nK P w K mg (vI s₁.heap H) callerA [] s₁ H:=⟨rfl,hM,λb o e=>zjU e,Nat.le_of_eq (zes _ _),trivial,λb hb=>absurd (show b∈([]:List Addr)from hb) (by simp),hok,.of_eq hg⟩;refine codeAny_mono ((F _ hKb (nsK hns) hBb).run callerA [] s₁ H ⟨[.ref a],[]⟩ [.ref a] [.ref a] _ _ hr e0 (zsa s₁ (.ref a)) (.cons rfl .nil) (hsp H hTH hO hS)) λr s' h=> ?_;cases r with
  |error e=>exact(hCX H e s' h).elim
  |ok fl=>
   cases fl with
   |next=>exact False.elim h
   |brk=>exact False.elim h
   |cont=>exact False.elim h
   |ret u=>
    obtain⟨v,H',os,bare,un,zsW,r',q⟩:=h;have q':v= .bl true:=q;subst q';obtain rfl:u=Value.bool true:=r';have grown: ∀b,b∈tabs.map (·.2)-> ∃ps,s'.heap.get? b=some (tabObj ps):= λb hm=>by
     obtain⟨q,hq,rfl⟩:=List.mem_map.mp hm;obtain⟨more,e⟩:=un.tbls _ _ (hTH q hq);exact⟨_,zsW _ _ e⟩
    have keep: ∀b o,b∉tabs.map (·.2)->s₁.heap.get? b=some o->s'.heap.get? b=some o:= λb o hm e=>by
     cases q:H b with
     |none=>exact un.keep b o e q (by intro z;exact absurd (show b∈([]:List Addr)from z) (by simp)) (by simp)
     |some u=>
      rcases hO b with z|⟨ob,xs,z⟩|⟨z,_⟩
      . rw[q]at z;cases z
      . have z2:=un.frzs b ob _ z;obtain⟨e1,_⟩:=hok b _ z;obtain⟨e2,_⟩:=zsW b _ z2;rw[e]at e1;cases e1;exact e2
      . exact absurd z hm
    refine⟨rfl,⟨λb o e=> ?_,λb o e=> ?_⟩,os,bare⟩
    . by_cases hm:b∈tabs.map (·.2)
      . obtain⟨ht,e2⟩:=wA hm;rw[e]at e2;have e2:=Option.some.inj e2;subst e2;obtain⟨ps,hP⟩:=grown b hm;exact .inr (.inl ⟨ht,rfl,#[],ps,rfl,by rw[Array.empty_append];exact hP⟩)
      . exact .inl (keep b o hm e)
    . by_cases hm:b∈tabs.map (·.2)
      . obtain⟨ps,hP⟩:=grown b hm;exact⟨_,hP⟩
      . exact⟨o,keep b o hm e⟩
 cases hk:K.lookup a with
 |some o=>
  have e:=KX a o hk;rw[ha]at e;cases e;refine zsT (λb=>if b∈tabs.map (·.2)then some (.tbl #[])else none) (λq hq=>if_pos (List.mem_map_of_mem hq)) (λb=> ?_) (.inr ⟨_,vs.toArray,_,hk,rfl,rfl,rfl,by rw[List.size_toArray,zxr];exact hl,by simpa using rv⟩) (λb u z=> ?_) (λb z=> ?_) λz=>absurd (if_neg aT) z
  . by_cases hm:b∈tabs.map (·.2)
    . exact .inr (.inr ⟨hm,if_pos hm⟩)
    . exact .inl (if_neg hm)
  . by_cases hm:b∈tabs.map (·.2)
    . have z':=(if_pos hm).symm.trans z;cases z';exact(wA hm).2
    . have z':=(if_neg hm).symm.trans z;cases z'
  . by_cases hm:b∈tabs.map (·.2)
    . exact .inr hm
    . exact absurd (if_neg hm) z
 |none=>
  refine zsT (λb=>if b∈tabs.map (·.2)then some (.tbl #[])else if b=a then some (.frz {cls:= .type "list",data:= .seq vs.toArray} (.lst (ns.map V.int)))else none) (λq hq=>if_pos (List.mem_map_of_mem hq)) (λb=> ?_) (.inl (.inr ⟨{cls:= .type "list",data:= .seq vs.toArray},(if_neg aT).trans (if_pos rfl)⟩)) (λb u z=> ?_) (λb z=> ?_) λ_=>hk
  . by_cases hm:b∈tabs.map (·.2)
    . exact .inr (.inr ⟨hm,if_pos hm⟩)
    . by_cases hb:b=a
      . exact .inr (.inl ⟨_,_,(if_neg hm).trans (if_pos hb)⟩)
      . exact .inl ((if_neg hm).trans (if_neg hb))
  . by_cases hm:b∈tabs.map (·.2)
    . have z':=(if_pos hm).symm.trans z;cases z';exact(wA hm).2
    . by_cases hb:b=a
      . have z':=((if_neg hm).trans (if_pos hb)).symm.trans z;cases z';subst hb;exact⟨ha,by rw[aW];exact hl,vs,_,rv,ha⟩
      . have z':=((if_neg hm).trans (if_neg hb)).symm.trans z;cases z'
  . by_cases hm:b∈tabs.map (·.2)
    . exact .inr hm
    . by_cases hb:b=a
      . exact .inl hb
      . exact absurd ((if_neg hm).trans (if_neg hb)) z
theorem walk_ofT{l:PySem.W.OpenLaw}{n k:Nat}{q:Program}{wQ:List Str}{XP:(Str->Option Value)->Heap->Prop}{YP:World->Heap->Prop}{d:DefRec}{K:Params->W.Frag}{CX:World->w6}{sp:World->Sp}{x:Str}{tabs:World->List (Addr×Addr)}
 (hn:l.most=some n) (hn2:n<=sizeLine) (hdf:d.params.defaults=[]) (hr:eV k callerA)
 (hY: ∀(w:World) (h:Heap),YP w h->(K w.params).In h) (hnK: ∀w:World,noTabs (K w.params)=true)
 (T: ∀(w:World) (h:Heap),YP w h->TabsAt (tabs w) h)
 (F: ∀(w:World) (mg:Str->Option Value) (fa:Addr) (h:Heap),(K w.params).In h->h.Ns mainGlobals mg->mg d.name=some (.ref fa)->
  ∃fd:FuncData,(∀(s:Shared) (u:Value),BindsTo s fd ⟨[u],[]⟩ [(x,u)])/\
   ∀base:Heap,(K w.params).In base->base.Ns mainGlobals mg->nQ mg base->dG l.prog w (K w.params) mg base (CX w) k fa fd [x] (sp w))
 (hsp: ∀(w:World) (H:Hp) (a:Addr) (ns:List Int),ns.length<=n->(∀q∈tabs w,H q.2=some (.tbl #[]))->zhF (tabs w) H->bB (K w.params) H a (ns.map V.int)->sp w [.ref a] H (λv _=>v= .bl true) λ_ _ _=>False)
 (hCX: ∀(w:World) (H:Hp) (s:Shared) (e:Value) (s':Shared),CX w [] H s (λ_ _ _=>False) e s'->False):
 PySem.W.WalkO q wQ XP YP l.row.toRowW d [] (λf vs=>PySem.call f vs):=by
 refine Att.attach_call hn hdf λw s₀ s₁ mg mb fa o pm cd mO a vs ns G Y ho hd vC hmg zmC zfz dL hg=> ?_
 have KX:=hY w _ Y
 obtain⟨fd,hb,hF⟩:=F w mg fa _ KX G.T.g hmg
 have hB:nQ mg s₁.heap:=let⟨bm,ob,b1,b2,b3,b4,b5,b6⟩:=G.T.bmain;⟨bm,ob,b1,b2,b3,b4,b5,b6⟩
 exact zeR (tabs:=tabs w) KX G.T.g G.T.b G.T.builtins G.T.nolimit hg (T w _ Y) (hnK w) hB zmC zfz (Nat.le_trans dL hn2) hr hF hb (λH h1 h2 h3=>hsp w H a ns dL h1 h2 h3) λH e s'=>hCX w H s₁ e s'
end L2
namespace TX
open PySem PySem.Calls
section
variable {prog:Program}{w:World}{A:Around}{E:Value->Shared->Prop}{s:Shared}{a:Addr}{bC:Array Value}{n:Nat}
end
end TX
namespace TX
open PySem PySem.Calls
section
variable {prog:Program}{w:World}{A:Around}{E:Value->Shared->Prop}{K:Type} [DecidableEq K]{knd:KeyKind prog w K}
end
end TX
namespace TX
open PySem PySem.Calls
section
variable {prog:Program}{w:World}{A:Around}{E:Value->Shared->Prop}{s:Shared}{K:Type} [DecidableEq K]{knd:KeyKind prog w K}
end
end TX
namespace TX
open PySem PySem.Calls
section
variable {prog:Program}{w:World}{A:Around}{E:Value->Shared->Prop}{s:Shared}
end
end TX
namespace L2
open PySem PySem.Spec PyProof.Rows
variable {X:Cx}{prog:Program}{w:World}{A:Around}{E:Value->Shared->Prop}{s:Shared}
structure iW(z:Str)(fr:List Str)(scope:Scope)(outer:Scope):Prop where
 kind:scope.kind= .function
 cell: ∀y∈scope.names,y.2= .cell->y.1=z
 names: ∀y∈scope.names,y.2= .local->scope.names.lookup y.1=some .local
 nd:(z::fr).Nodup
 outs: ∀y∈scope.names,y.2= .free->outer.names.lookup y.1=some .cell\/outer.names.lookup y.1=some .free
 frs: ∀x∈fr,scope.names.lookup x=some .free
 own:scope.names.lookup z=some .cell
 c1: ∀n eT,cellsFrom n scope.names eT=(z,n)::eT
 p1: ∀h:Heap,pushCells h scope.names=h.push {cls:= .type "cell",data:= .cell none}
def iH(X:Cx)(scope:Scope)(z:Str)(C:Addr)(fr:List Str)(s:Shared)(H:Hp)(aB:List (Addr×Obj))(fp:List Addr):Cx:=
 {X with N:=z::fr,s₀:=s,H₀:=H,env:=compEnvC scope ((z,C+1)::dC X.env scope.names []) C X.env,outer:=X.stack,stack:=X.stack,ex:=fp,fn:= λx=>decide (x=z),pn:=X.pn++aB,xe:= λ_ _=>False}
theorem fn1{X:Cx}{scope:Scope}{z:Str}{C:Addr}{fr:List Str}{s:Shared}{H:Hp}{aB:List (Addr×Obj)}{fp:List Addr}:(iH X scope z C fr s H aB fp).fn z=true:=decide_eq_true rfl
theorem ziX{M:Model}{A:Around}{E:Value->Shared->Prop}{s:Shared}{scope:Scope}{z:Str}{globals:Addr}{cl:List (Str×Addr)}{bK:Str}{outer:Env}{Q:Env->Shared->Prop}(c1: ∀n eT,cellsFrom n scope.names eT=(z,n)::eT)(p1: ∀h:Heap,pushCells h scope.names=h.push {cls:= .type "cell",data:= .cell none})
 (hQ:Q (newEnv scope s.heap.objs.size globals ((z,s.heap.objs.size+1)::cl) bK none .none (some outer) builtinsNs) {s with heap:=(s.heap.push {cls:= .type "dict",data:= .dict #[]}).push {cls:= .type "cell",data:= .cell none}}):
 wpAny M A (newFunctionEnv scope globals cl [] bK none .none (some outer)) Q E s:=by
 simp only[newFunctionEnv,Option.isSome_some,if_true]
 refine wpAny_bind (wpAny_alloc ?_)
 refine wpAny_bind (wpAny_layCells _ (λname kind cells=>by cases hkc:kind==NameKind.cell<;>simp[hkc]) _ _ _ _ ?_)
 rw[c1,p1]
 have e:(s.heap.push {cls:= .type "dict",data:= .dict #[]}).objs.size=s.heap.objs.size+1:=Heap.size_push _ _
 dsimp only
 rw[e]
 exact wpAny_bind (wpAny_pure (wpAny_pure hQ))
theorem rE{z x:Str}{n c:Addr}{l:List (Str×Addr)}(h:((z,n)::l).lookup x=some c):(x=z/\c=n)\/(x≠z/\l.lookup x=some c):=by
 rw[List.lookup_cons]at h
 cases hb:x==z with
 |true=>rw[hb]at h;cases h;exact .inl ⟨beq_iff_eq.mp hb,rfl⟩
 |false=>rw[hb]at h;exact .inr ⟨beq_eq_false_iff_ne.mp hb,h⟩
theorem zaG{scope:Scope}{z:Str}{fr:List Str}{C:Addr}{aB:List (Addr×Obj)}{σ:St}{H:Hp}{s:Shared}{fp:List Addr}(S:iW z fr scope X.env.scope)(I:aX X aB σ H s)(hf: ∀b∈fp,iF X aB H b)
 (hC:s.heap.objs.size<=C) (hfC: ∀b∈fp,b<C):(iH X scope z C fr s H aB fp).Ok:=by
 have sub: ∀x c,(dC X.env scope.names []).lookup x=some c->X.env.cells.lookup x=some c:= λx c e=>(fU _ _ x c e).elim id λz=>nomatch z
 have zbG: ∀x,(compEnvC scope ((z,C+1)::dC X.env scope.names []) C X.env).kindOf x=(scope.names.lookup x).map λk=>if(k==NameKind.free&&X.env.scope.kind== .function&&X.env.kindOf x==some .cell)then NameKind.cell else k:= λx=>fD _ x
 have oP: ∀x c,(dC X.env scope.names []).lookup x=some c->c<C+1:= λx c e=>by
  obtain⟨v,q⟩:=I.cell x c (sub x c e);exact Nat.lt_succ_of_lt (Nat.lt_of_lt_of_le q.lt hC)
 refine⟨I.ok.mod,S.kind,I.ok.glob,I.ok.blt,hC,λx y c e1 e2=> ?_,λx hx=> ?_,λx c hz e=> ?_,I.ok.hd,I.ok.frames,.inl rfl,λb hb=>⟨Nat.ne_of_lt (hfC b hb),λx c e=> ?_⟩,
  I.bs,Nat.le_trans I.ok.bsz I.sz,λb o e hb=> ?_,λb hb z=> ?_,I.stack,I.stkFree⟩
 . rcases rE e1 with⟨a1,a2⟩|⟨a1,a2⟩
   . rcases rE e2 with⟨b1,b2⟩|⟨b1,b2⟩
     . rw[a1,b1]
     . exact absurd (a2▸oP y c b2) (Nat.lt_irrefl _)
   . rcases rE e2 with⟨b1,b2⟩|⟨b1,b2⟩
     . exact absurd (b2▸oP x c a2) (Nat.lt_irrefl _)
     . exact I.ok.inj x y c (sub x c a2) (sub y c b2)
 . have vD:(compEnvC scope ((z,C+1)::dC X.env scope.names []) C X.env).kindOf x=some .cell\/(compEnvC scope ((z,C+1)::dC X.env scope.names []) C X.env).kindOf x=some .free:=hx;rw[zbG]at vD
   by_cases hxz:x=z
   . exact⟨C+1,by rw[hxz];show((z,C+1)::_).lookup z=_;rw[List.lookup_cons,beq_self_eq_true]⟩
   cases e:scope.names.lookup x with
   |none=>rw[e]at vD;rcases vD with z|z<;>cases z
   |some k=>
    have hk:k= .free:=by
     rw[e]at vD;cases k with
     |free=>rfl
     |cell=>exact absurd (S.cell (x,.cell) (dD e) rfl) hxz
     |«local»=>rcases vD with z|z<;>simp at z
     |globalImplicit=>rcases vD with z|z<;>simp at z
     |globalExplicit=>rcases vD with z|z<;>simp at z
    subst hk;have m:=dD e;obtain⟨c,hc⟩:=jN scope.names [] x m (I.ok.has x (S.outs _ m rfl));refine⟨c,?_⟩;show((z,C+1)::dC X.env scope.names []).lookup x=some c;rw[List.lookup_cons,beq_eq_false_iff_ne.mpr hxz];exact hc
 . have j6:x=z:=of_decide_eq_true hz
   rcases rE e with⟨a1,a2⟩|⟨a1,a2⟩
   . rw[a2];show s.heap.objs.size<=C+1;omega
   . exact absurd j6 a1
 . rcases rE e with⟨a1,a2⟩|⟨a1,a2⟩
   . rw[a2];exact Nat.ne_of_gt (Nat.lt_succ_of_lt (hfC b hb))
   . exact(hf b hb).2.2.2.2.1 x c (sub x c a2)
 . rcases(hf b hb).2.2.2.1 with z|z
   . exact I.ok.noex b o e z
   . exact absurd (Nat.lt_of_lt_of_le (Heap.lt_size e) (Nat.le_trans I.ok.bsz z)) (Nat.lt_irrefl _)
 . have z':b∈frs X.stack:=z
   rcases List.mem_cons.mp (I.stkSub b z')with q|q
   . exact(hf b hb).2.1 q
   . exact(hf b hb).2.2.1 q
theorem u7{scope:Scope}{z:Str}{fr:List Str}{idx:List Nat}{aB:List (Addr×Obj)}{σ:St}{H:Hp}{s:Shared}{fp:List Addr}{h4:Heap}{tk:Nat}{m:Str->Option Value}(S:iW z fr scope X.env.scope)
 (hix:idx.length=fr.length) (hat: ∀(k:Nat) (x:Str) (j:Nat),fr[k]?=some x->idx[k]?=some j->X.N[j]?=some x)
 (I:aX X aB σ H s) (hf: ∀b∈fp,iF X aB H b) (hfs: ∀b∈fp,b<s.heap.objs.size) (hn:h4.Ns s.heap.objs.size m) (hcl:h4.IsCell (s.heap.objs.size+1) none) (hk: ∀b o,s.heap.get? b=some o->h4.get? b=some o):
 aX (iH X scope z s.heap.objs.size fr s H aB fp) [] (kL 1 idx σ) H {s with heap:=h4,toks:=tk}:=by
 have sub: ∀x c,(dC X.env scope.names []).lookup x=some c->X.env.cells.lookup x=some c:= λx c e=>(fU _ _ x c e).elim id λz=>nomatch z
 have ok:=zaG (fp:=fp) S I hf (Nat.le_refl _) hfs
 refine⟨ok,rfl,I.bare,Un.kept hk,⟨m,hn,λi x v e1 e2 e3=> ?_⟩,λx c e=> ?_,I.hok.fresh (Nat.le_refl _),λx c e=> ?_,λp hp=> ?_,I.hok.kept hk,?_⟩
 . obtain⟨k,j,q1,q2,q3⟩:=uC (own:=[z]) hix e1 e2;have hN:=hat k x j q1 q2;have hx:=List.mem_of_getElem? q1;have gF:=S.frs x hx;have zgx:=S.outs _ (dD gF) rfl;obtain⟨m0,_,hl⟩:=I.loc;obtain⟨u,ru,lk⟩:=hl j x v hN q3 (zgx.elim (λz=> .inr (.inl z)) λz=> .inr (.inr z));refine⟨u,ru,?_⟩;have pI:(compEnvC scope ((z,s.heap.objs.size+1)::dC X.env scope.names []) s.heap.objs.size X.env).kindOf x=some .cell\/(compEnvC scope ((z,s.heap.objs.size+1)::dC X.env scope.names []) s.heap.objs.size X.env).kindOf x=some .free:=by
    have q:=fD (env:=X.env) scope.names x;rw[gF]at q
    by_cases hc:(NameKind.free==NameKind.free&&X.env.scope.kind== .function&&X.env.kindOf x==some .cell)=true
    . refine .inl (q.trans ?_);simp only[Option.map_some];rw[if_pos hc]
    . refine .inr (q.trans ?_);simp only[Option.map_some];rw[if_neg hc]
   rcases lk with⟨kl,_⟩|⟨_,c,ec,cc⟩
   . have kl':X.env.scope.names.lookup x=some .local:=kl
     rcases zgx with z|z<;>(rw[kl']at z;cases z)
   . obtain⟨c',ec'⟩:=jN scope.names [] x (dD gF) ⟨c,ec⟩;have e':=sub x c' ec';rw[ec]at e';cases e';obtain⟨o,ho,hd⟩:=cc;have hxz:x≠z:= λq=>(List.nodup_cons.mp S.nd).1 (q▸hx);refine .inr ⟨pI,c,?_,o,hk c o ho,hd⟩;show((z,s.heap.objs.size+1)::dC X.env scope.names []).lookup x=some c;rw[List.lookup_cons,beq_eq_false_iff_ne.mpr hxz];exact ec'
 . rcases rE e with⟨_,a2⟩|⟨_,a2⟩
   . rw[a2];exact⟨none,hcl⟩
   . obtain⟨v,o,ho,hd⟩:=I.cell x c (sub x c a2);exact⟨v,o,hk c o ho,hd⟩
 . rcases rE e with⟨_,a2⟩|⟨_,a2⟩
   . rw[a2];exact I.hok.fresh (Nat.le_succ _)
   . exact I.freeC x c (sub x c a2)
 . have hp':p∈X.pn++aB:=by
    rcases List.mem_append.mp hp with z|z
    . exact z
    . exact nomatch z
   obtain⟨a1,a2,a3,a4,a5⟩:=I.pin p hp';refine⟨hk _ _ a1,a2,Nat.ne_of_lt (Heap.lt_size a1),λz=> ?_,a5⟩
   rcases List.mem_cons.mp (I.stkSub p.1 z)with q|q
   . exact a3 q
   . exact a4 q
 . show(kL 1 idx σ).length=(z::fr).length
   unfold kL;rw[List.length_append,List.length_replicate,aW,hix,List.length_cons];omega
theorem zbC{scope:Scope}{zn:Str}{N:List Str}{aB:List (Addr×Obj)}{σ σ':St}{H H':Hp}{s s':Shared}{fp:List Addr}{h':Heap}
 (I:aX X aB σ H s) (hf: ∀b∈fp,iF X aB H b) (J:aX (iH X scope zn s.heap.objs.size N s H aB fp) [] σ' H' s') (hs:Heap.SameBut s.heap.objs.size s'.heap h'):
 aX X aB σ H' {s' with heap:=h'}:=by
 have ne: ∀b o,s.heap.get? b=some o->b≠s.heap.objs.size:= λb o e=>Nat.ne_of_lt (Heap.lt_size e)
 have hCn:H' s.heap.objs.size=none:=J.free
 have u:=J.base
 refine I.call' (s':={s' with heap:=h'}) (ch:=fp) J.os ⟨λb o e n hb hx=> ?_,λb o e n hb hx=> ?_,u.free,λb o e hx=> ?_,u.tups,u.frzs,u.tbls⟩ (λb ob e=> ?_) J.bare λb hb=> ?_
 . exact(hs.2 b (ne b o e)).trans (u.keep b o e n hb hx)
 . obtain⟨sl,q⟩:=u.slot b o e n hb hx;exact⟨sl,(hs.2 b (ne b o e)).trans q⟩
 . obtain⟨o',q⟩:=u.there b o e hx;exact⟨o',(hs.2 b (ne b o e)).trans q⟩
 . refine(J.hok b ob e).stay (λc v hc q=>(hs.2 c ?_).trans q) (λ_ q=>q) λ_ _ q=>q;rintro rfl
   rcases hc with z|z
   . rw[<-z,hCn]at e;cases e
   . rw[hCn]at z;cases z
 . obtain⟨f0,f1,f2,f3,f4,f5⟩:=hf b hb;exact⟨f3,f1,f4,f5⟩
theorem zaf{z:Str}{wG tg gD:Expr}{vF:List Expr}{scope:Scope}{fr:List Str}{idx:List Nat}{wi:TI}{g:TG}{tc:TT}{te:TE}{pos:Pos}(hc:X.calm=true)(S:iW z fr scope X.env.scope)
 (hi:PI X tg gD wi) (hg: ∀C s H aB fp,PG (iH X scope z C fr s H aB fp) tg g) (ht: ∀C s H aB fp,PTs (iH X scope z C fr s H aB fp) vF tc) (he: ∀C s H aB fp,PE (iH X scope z C fr s H aB fp) wG te)
 (hix:idx.length=fr.length:=by rfl) (hat: ∀(k:Nat) (x:Str) (j:Nat),fr[k]?=some x->idx[k]?=some j->X.N[j]?=some x)
 (hs: ∀x,foldedSetIterable gD X.env x=pure x:=by intro _;rfl):PE X (.ListComp wG [⟨tg,gD,vF,0⟩] scope pos) (iR wi 1 idx g tc te):=by
 intro aB s σ H Q I h
 rw[eval_ListComp]
 have zW:closureFor scope X.env=pure (dC X.env scope.names []):=xU λx hx gF=>I.ok.has x.1 (S.outs x hx gF)
 refine wpAny_comprehension_free (use:=none) rfl hs zW S.kind S.names (dP (hi aB s σ H _ I h) λv s1 h1=>dP h1 λitv s2 h2=> ?_)
 obtain⟨it,fp,tn,J,H2,e,I2,T,st2,f2,h2⟩:=h2
 subst e
 refine wpAny_newObj_type ?_
 obtain⟨W,⟨m0,w0⟩,qE⟩:=h2 s2.heap.objs.size I2.fresh
 have I3:aX X aB σ (aO H2 s2.heap.objs.size (.lst [])) {s2 with heap:=s2.heap.push {cls:= .type "list",data:= .seq ([]:List Value).toArray},toks:=s2.toks}:=I2.lnew .nil (Nat.zero_le _)
 have fpl: ∀b∈fp,b<s2.heap.objs.size:= λb hb=>by
  obtain⟨o,e,_⟩:=T.obj _ _ st2 b hb;exact Heap.lt_size e
 have f3: ∀b∈fp,iF X aB (aO H2 s2.heap.objs.size (.lst [])) b:= λb hb=>⟨by rw[aG (Nat.ne_of_lt (fpl b hb))];exact(f2 b hb).1,(f2 b hb).2⟩
 generalize hs3:({s2 with heap:=s2.heap.push {cls:= .type "list",data:= .seq ([]:List Value).toArray},toks:=s2.toks}:Shared)=s3 at I3
 have hsz:s3.heap.objs.size=s2.heap.objs.size+1:=by rw[<-hs3];exact Heap.size_push _ _
 have st3:tn 0 s3.heap:=T.keep _ _ _ st2 λb hb o e=>by rw[<-hs3];exact Heap.get?_push_of_some _ e
 refine ziX S.c1 S.p1 ?_
 have zvr:(s3.heap.push {cls:= .type "dict",data:= .dict #[]}).objs.size=s3.heap.objs.size+1:=Heap.size_push _ _
 have hn4:((s3.heap.push {cls:= .type "dict",data:= .dict #[]}).push {cls:= .type "cell",data:= .cell none}).Ns s3.heap.objs.size (λ_=>none):=(Heap.Ns.new s3.heap (.type "dict")).keeps λb o e=>Heap.get?_push_of_some _ e
 have hc4:((s3.heap.push {cls:= .type "dict",data:= .dict #[]}).push {cls:= .type "cell",data:= .cell none}).IsCell (s3.heap.objs.size+1) none:=⟨_,by rw[<-zvr];exact Heap.get?_push_size _ rfl,rfl⟩
 have hk4: ∀b o,s3.heap.get? b=some o->((s3.heap.push {cls:= .type "dict",data:= .dict #[]}).push {cls:= .type "cell",data:= .cell none}).get? b=some o:= λb o e=>Heap.get?_push_of_some _ (Heap.get?_push_of_some _ e)
 generalize (s3.heap.push {cls:= .type "dict",data:= .dict #[]}).push {cls:= .type "cell",data:= .cell none}=h4 at hn4 hc4 hk4 ⊢
 have I4:=u7 (idx:=idx) (tk:=s3.toks) S hix hat I3 f3 (λb hb=>by rw[hsz];exact Nat.lt_succ_of_lt (fpl b hb)) hn4 hc4 hk4
 have fpC: ∀{H':Hp} (pl:List (Addr×Obj)),(∀p∈pl,∀b∈fp,p.1≠b)->(∀b∈fp,H' b=none)-> ∀b∈fp,iF (iH X scope z s3.heap.objs.size fr s3 (aO H2 s2.heap.objs.size (.lst [])) aB fp) pl H' b:= λ{H'} pl jK hn b hb=>by
  obtain⟨g0,g1,g2,g3,g4,g5⟩:=f3 b hb;refine⟨hn b hb,?_,λz=> ?_,.inl hb,λx c e=> ?_,λp hp=> ?_⟩
  . show b≠s3.heap.objs.size
    exact Nat.ne_of_lt (by rw[hsz];exact Nat.lt_succ_of_lt (fpl b hb))
  . rcases List.mem_cons.mp (I3.stkSub b z)with q|q
    . exact g1 q
    . exact g2 q
  . rcases rE e with⟨_,a2⟩|⟨_,a2⟩
    . rw[a2];exact Nat.ne_of_gt (Nat.lt_succ_of_lt (hsz.symm▸Nat.lt_succ_of_lt (fpl b hb)))
    . exact g4 x c ((fU _ _ x c a2).elim id λz=>nomatch z)
  . rcases List.mem_append.mp hp with q|q
    . exact g5 p q
    . exact jK p q b hb
 have tZ:codeAny (model X.prog X.w) X.A (.compLoop (.ListComp wG [⟨tg,gD,vF,0⟩] scope pos) 0 (.ref it) (.ref s2.heap.objs.size) (compEnvC scope ((z,s3.heap.objs.size+1)::dC X.env scope.names []) s3.heap.objs.size X.env))
  (compPost (model X.prog X.w) X.A X.xe none (EP X aB σ Q) (.ref s2.heap.objs.size) s3.heap.objs.size) {s3 with heap:=h4}:=by
  refine qT (Y:=iH X scope z s3.heap.objs.size fr s3 (aO H2 s2.heap.objs.size (.lst [])) aB fp) (W:=W) (m0:=m0) hc (hg _ _ _ _ _) (ht _ _ _ _ _) (he _ _ _ _ _) (λ_ _ z=>z) T (λhn=>fpC [] (λ_ z=>nomatch z) hn) qE (λs6 σ5 H5 I6 q=> ?_) ⟨0,[],_,_,I4,T.keep _ _ _ st3 λb _ o e=>hk4 b o e,λb hb=>(f3 b hb).1,aF,w0⟩;obtain⟨m6,hn6,_⟩:=id I6.loc;refine⟨m6,hn6,λh' hsb=> ?_⟩;exact⟨.ref s2.heap.objs.size,H5,zbC I3 f3 I6 hsb,rfl,q⟩
 exact codeAny_compStart_list tZ (T.self _ 0 _ _ _ (T.keep _ _ _ st3 λb _ o e=>hk4 b o e) tZ)
def tU(lo hi:Int):List V:=(List.range (hi - lo).toNat).map λk:Nat=>V.int (lo+k)
theorem zfZ{lo hi:Int}{eT:Array Value}(h:ItemsOf (λi v=> ∃t,v=Value.int (lo+i * 1) t) eT (hi - lo).toNat):bP (tU lo hi) eT.toList:=by
 have iU: ∀(n:Nat) (l:List Value) (k:Nat),l.length=n->(∀j v,l[j]?=some v-> ∃t,v=Value.int (lo+((k+j:Nat):Int)) t)->bP ((List.range' k n).map λi:Nat=>V.int (lo+i)) l:=by
  intro n
  induction n with
  |zero=>
   intro l k hl _;rw[List.length_eq_zero_iff.mp hl];exact .nil
  |succ n ih=>
   intro l k hl hv;cases l with
   |nil=>cases hl
   |cons x r=>
    rw[List.range'_succ,List.map_cons];obtain⟨t,ht⟩:=hv 0 x rfl;refine .cons ⟨t,ht⟩ (ih r (k+1) (Nat.succ.inj hl) λj v e=> ?_);obtain⟨t',ht'⟩:=hv (j+1) v e;exact⟨t',by rw[ht',show k+(j+1)=k+1+j by omega]⟩
 rw[tU,List.range_eq_range']
 refine iU _ _ 0 (by rw[Array.length_toList];exact h.1) λj v e=> ?_
 obtain⟨t,ht⟩:=h.2 j v (by rw[<-Array.getElem?_toList];exact e)
 exact⟨t,by rw[ht,Nat.zero_add,Int.mul_one]⟩
theorem zK:fJ X (.type "range") (λxs H Q=> ∃n:Int,xs=[.int n]/\ ∀p,H p=none->Q (.ref p) (aO H p (.rng 0 n))):=by
 intro aB s σ H xs us Q I r h
 obtain⟨n,rfl,q⟩:=h
 obtain⟨u,rfl,ru⟩:=bP.one r
 obtain⟨t,rfl⟩:=ru
 refine call_range_1 ?_
 exact⟨.ref s.heap.objs.size,_,I.laid (o:= .rng 0 n) (λ_ _ e=>Heap.get?_push_of_some _ e) (Nat.le_refl _) ⟨_,_,_,Heap.get?_push_size _ rfl⟩,rfl,q _ I.fresh⟩
def zqr(mk:List V->HO):List V->Hp->VK->Prop:= λxs H Q=> ∃(r:Addr) (lo hi:Int),xs=[.ref r]/\H r=some (.rng lo hi)/\0<=lo/\lo<=1000/\0<=hi/\hi<=1000/\ ∀l,H l=none->Q (.ref l) (aO H l (mk (tU lo hi)))
theorem zhE{lo hi:Int}:Builtin.Range.rangeSize lo hi 1=((hi - lo).toNat:Nat):=by rw[rangeSize_one];split<;>omega
theorem c9(lo hi:Int):(tU lo hi).length=(hi - lo).toNat:=by rw[tU,aW,List.length_range]
theorem zbN(hc:X.calm=true):fJ X (.type "list") (zqr .lst):=by
 intro aB s σ H xs us Q I rv h
 obtain⟨r,lo,hi,rfl,hr,l0,l1,h0,h1,q⟩:=h
 obtain⟨w,rfl,ru⟩:=bP.one rv
 cases ru
 obtain⟨t,u,v,e⟩:=I.hok r _ hr
 refine call_list_range (I.ok.hd hc) e (small_one (by omega) (by omega) (by omega) (by omega)) zhE (by omega) λh' tk eT c hk hS zfQ=> ?_
 refine⟨.ref s.heap.objs.size,_,I.laid (t':=tk) (o:= .lst (tU lo hi)) hk (Nat.le_refl _) ⟨by rw[c9,sizeLine_eq];omega,eT.toList,c,zfZ zfQ,by simpa using hS⟩,rfl,q _ I.fresh⟩
def Itn(lo:Int)(n:Nat):It:=⟨λi _=>i<n,λi H x H'=>H'=H/\x= .int (lo - i),λi _=>n<=i⟩
theorem wR(a b:Int):Builtin.Range.rangeSize a b (-1)=if a>b then a - b else 0:=by
 unfold Builtin.Range.rangeSize
 rw[if_neg (by decide)]
 split
 . rw[show -(-1:Int)=1 from rfl,Int.ediv_one];omega
 . rfl
theorem zbF{a b:Int}(ha: -(2^62)<=a)(ha':a<2^62)(hb: -(2^62)<=b)(vQ:b<2^62):Builtin.Range.small a b (-1)=true:=by
 unfold Builtin.Range.small
 rw[wR]
 simp only[Builtin.Range.rangeFitsLong,Bool.and_eq_true,Bool.or_eq_true,decide_eq_true_eq,beq_iff_eq,show ¬((-1:Int)>0) by decide,if_false]
 split<;>omega
theorem zek{P:Program}{w:World}{K:W.Frag}{tg:Expr}(it:Addr)(lo:Int)(n:Nat):sO P w K tg (Itn lo n) [it] it (λi h=>IsRangeIter h it (lo+(i:Nat) * (-1)) ((n:Int) - (i:Nat)) (-1)) where
 mem:=by simp
 obj:= λi h st b hb=>by
  have e:b=it:=by simpa using hb
  subst e;exact⟨_,st,λv z=>by
   have z':Data.fields _=Data.cell v:=z;cases z'⟩
 keep:= λi h h' st k=>k it (by simp) _ st
 item:=by
  intro X hP hw hK hc i aB s σ H E I hf st hg;subst hP hw hK;obtain⟨f0,f1,f2,f3,f4,f5⟩:=hf it (by simp);have W:=Walks.range (prog:=X.prog) (w:=X.w) (I.ok.hd hc) it lo (-1) n;refine W.item i s _ _ hg st λv h' tk hv st' kk=> ?_;obtain⟨t,rfl⟩:=hv;have I1:aX X aB σ H {s with heap:=h',toks:=tk}:=I.turned (λb o hb e=>kk b o (by simpa using hb) e) f0 f1 f3 f4 f5;refine⟨_,rfl,j9 (s:={s with heap:=h',toks:=tk}) (n:= "range_iterator") st' rfl rfl (by decide) ⟨.int (lo - i),H,I1,⟨t,?_⟩,⟨rfl,rfl⟩,st',λb hb=>(hf b hb).1⟩⟩;rw[Int.mul_neg,Int.mul_one];rfl
 done:=by
  intro X hP hw hK hc i aB s σ H E I hf st hg;subst hP hw hK;obtain⟨f0,f1,f2,f3,f4,f5⟩:=hf it (by simp);exact wpAny_pyNext_range_end (I.ok.hd hc) st (by have:n<=i:=hg;omega) λh' eb=>⟨rfl,I.turned (t':=s.toks) (λb o hb e=>eb b o hb e) f0 f1 f3 f4 f5⟩
 self:= λ_ _ _ _ _ st h=>wpAny_pyIter_rangeiter st h
section
variable {tg:Expr}
theorem zjL{aB:List (Addr×Obj)}{σ:St}{H:Hp}{s:Shared}{R:It->Hp->Prop}{E:Value->Shared->Prop}{lo hi:Int}{t u v:Tok}{tk:Nat}(I:aX X aB σ H s)(h1: -(2^62)<=lo)(h2:lo<2^62)(h3: -(2^62)<=hi)(h4:hi<2^62)
 (q:R (Itn lo (lo - hi).toNat) H):wpAny (model X.prog X.w) X.A (pyIter (.ref s.heap.objs.size)) (PIE X aB σ tg R) E {s with heap:=s.heap.push {cls:= .type "range",data:= .fields #[.int lo t,.int hi u,.int (-1) v]},toks:=tk}:=by
 refine wpAny_pyIter_range (IsRange.new ..) (zbF h1 h2 h3 h4) ?_
 have I1:aX X aB σ H {s with heap:=s.heap.push {cls:= .type "range",data:= .fields #[.int lo t,.int hi u,.int (-1) v]},toks:=tk}:=I.kept λb o e=>Heap.get?_push_of_some _ e
 refine⟨(s.heap.push {cls:= .type "range",data:= .fields #[.int lo t,.int hi u,.int (-1) v]}).objs.size,[(s.heap.push {cls:= .type "range",data:= .fields #[.int lo t,.int hi u,.int (-1) v]}).objs.size],_,_,H,rfl,
  I1.kept (t':=tk) λb o e=>Heap.get?_push_of_some _ e,zek _ lo (lo - hi).toNat,?_,λb hb=> ?_,q⟩
 . have e1:lo+((0:Nat):Int) * (-1)=lo:=by simp
   have e2:(((lo - hi).toNat:Nat):Int) - ((0:Nat):Int)=Builtin.Range.rangeSize lo hi (-1):=by rw[wR];split<;>omega
   show IsRangeIter _ _ (lo+((0:Nat):Int) * (-1)) ((((lo - hi).toNat:Nat):Int) - ((0:Nat):Int)) (-1)
   rw[e1,e2];exact Heap.get?_push_size _ rfl
 . have e:b=(s.heap.push {cls:= .type "range",data:= .fields #[.int lo t,.int hi u,.int (-1) v]}).objs.size:=by simpa using hb
   subst e;exact I1.fpOk (Nat.le_refl _) (I1.hok.fresh (Nat.le_refl _))
def ztw(ta:TA):TI:= λσ H R=>ta σ H λvs H1=> ∃i j:Int,vs=[.int i,.int j,.int (-1)]/\(-(2^62)<=i/\i<2^62/\ -(2^62)<=j/\j<2^62)/\R (Itn i (i - j).toNat) H1
theorem zeE{a b c:Expr}{ta:TA}{p pos:Pos}(hg:Gl X "range")(hm:X.mg "range" =none)(ha:PA X [a,b,c] ta)(hs:starEach [a,b,c] X.env=[(false,eval a X.env),(false,eval b X.env),(false,eval c X.env)]:=by rfl)(hs2:starEach [b,c] X.env=[(false,eval b X.env),(false,eval c X.env)]:=by rfl):
 PI X tg (.Call (.Name "range" p) [a,b,c] [] pos) (ztw ta):=by
 intro aB s σ H R I h
 refine Call_ (hJ I hg hm boot_range (PyProof.Rows.callWith_type1 (dP (ha pos aB s σ H _ I h) λus s1 ⟨vs,H1,I1,r1,q1⟩=> ?_) (by rw[hs,hs2]) (by rw[hs2];rfl)))
 obtain⟨i,j,e,⟨q1,q2,q3,q4⟩,q⟩:=q1
 subst e
 cases r1 with
 |cons r rr=>
  cases rr with
  |cons r' rr=>
   cases rr with
   |cons r'' rr=>
    cases rr;obtain⟨t,rfl⟩:=r;obtain⟨t',rfl⟩:=r';obtain⟨t'',rfl⟩:=r'';exact call_range_3 (by decide) (zjL I1 q1 q2 q3 q4 q) (.inl (PyProof.noPylong_small (by decide)))
end
theorem zgj{c t:Addr}{i:Nat}{bC:Array Value}{x:Value}{Q:Value->Shared->Prop}(hc:s.heap.IsTupleIter c t i)(ht:s.heap.IsTuple t bC)(hx:bC[i]?=some x)(hQ: ∀h',h'.IsTupleIter c t (i+1)->Heap.SameBut c s.heap h'->Q x {s with heap:=h'}):
 wpAny (model prog w) A (Builtin.SmallTypes.nextOf (.ref c)) Q E s:=by
 obtain⟨o,e,k,d⟩:=id hc
 obtain⟨ot,et,_,n,dt⟩:=ht
 delta Builtin.SmallTypes.nextOf
 refine wpAny_bind (wpAny_callSpecial?_slot (name:=Str.ofString "__next__") hc.typeIs PySem.F.slot_tuple_iterator_next (wpAny_call_entry PySem.F.slot_tuple_iterator_next hc.typeIs PySem.F.entry_tuple_iterator_next ?_ (PySem.F.args_tuple_iterator_next_1 _)))
 show wpAny _ _ (field (.ref c) 0>>=_) _ _ s
 refine wpAny_bind (wpAny_field e d (x:= .ref t) rfl ?_)
 rw[if_neg (show ¬((Value.ref t==Value.none)=true)from Bool.false_ne_true)]
 show wpAny _ _ (field (.ref c) 1>>=_) _ _ s
 refine wpAny_bind (wpAny_field e d (x:= .int i 0) rfl ?_)
 show wpAny _ _ (seqItems? (.ref t)>>=_) _ _ s
 refine wpAny_bind (wpAny_seqItems et dt ?_)
 simp only[Int.toNat_natCast,hx]
 refine wpAny_bind (wpAny_setField e d (by simp) (wpAny_pure ⟨x,rfl,wpAny_pure (hQ _ ⟨_,Heap.get?_update_self _ e (Obj.isFreed_of_fields (Obj.data_mapFields d _)),(Obj.cls_mapFields ..).trans k,by rw[Obj.data_mapFields d];simp[rawInt]⟩ (Heap.SameBut.update ..))⟩))
theorem pE{c t:Addr}{i:Nat}{bC:Array Value}{Q:Value->Shared->Prop}(hh:A.handled=none)(hc:s.heap.IsTupleIter c t i)(ht:s.heap.IsTuple t bC)(hx:bC[i]?=none)
 (hE: ∀h' x,Heap.ExtBut c s.heap h'->(∃o,h'.get? x=some o/\o.cls= .type "StopIteration")->E (.ref x) {s with heap:=h'}):wpAny (model prog w) A (Builtin.SmallTypes.nextOf (.ref c)) Q E s:=by
 obtain⟨o,e,k,d⟩:=id hc
 obtain⟨ot,et,_,n,dt⟩:=ht
 delta Builtin.SmallTypes.nextOf
 refine wpAny_bind (wpAny_callSpecial?_slot (name:=Str.ofString "__next__") hc.typeIs PySem.F.slot_tuple_iterator_next (wpAny_call_entry PySem.F.slot_tuple_iterator_next hc.typeIs PySem.F.entry_tuple_iterator_next ?_ (PySem.F.args_tuple_iterator_next_1 _)))
 show wpAny _ _ (field (.ref c) 0>>=_) _ _ s
 refine wpAny_bind (wpAny_field e d (x:= .ref t) rfl ?_)
 rw[if_neg (show ¬((Value.ref t==Value.none)=true)from Bool.false_ne_true)]
 show wpAny _ _ (field (.ref c) 1>>=_) _ _ s
 refine wpAny_bind (wpAny_field e d (x:= .int i 0) rfl ?_)
 show wpAny _ _ (seqItems? (.ref t)>>=_) _ _ s
 refine wpAny_bind (wpAny_seqItems et dt ?_)
 simp only[Int.toNat_natCast,hx]
 refine wpAny_bind (wpAny_rule (wpAny_bind (wpAny_setField e d (by simp) ?_)))
 show wpAny _ _ (newExc (.type "StopIteration") []>>=_) _ _ _
 refine wpAny_bind ?_
 simp only[newExc,newTuple]
 refine wpAny_bind (wpAny_newObj_type (wpAny_bind (m:=firstArgMember _ _) (wpAny_of_eq (a:=Value.none) (by first|rfl|(simp only[firstArgMember];rfl)) (wpAny_newObj_type ?_ (by size_fits)))) (by size_fits))
 simp only[raiseNew]
 refine wpAny_bind (wpAny_handled ?_)
 first|rw[show A.in1.handled=none from hh]|rw[hh]
 exact wpAny_bind (wpAny_pure (wpAny_throw (hE _ _ (((Heap.SameBut.update ..).extBut.push _).push _) ⟨_,Heap.get?_push_size _ rfl,rfl⟩)))
theorem zeB(hh:A.handled=none)(c t:Addr)(nR:t≠c)(bC:Array Value):Draws prog w A c [c,t] bC.size (λi v=>bC[i]?=some v) (λi h=>h.IsTupleIter c t i/\h.IsTuple t bC) where
 live:= λ_ _ st=>let⟨o,ho,_⟩:=st.1;⟨o,ho⟩
 frame:= λ_ _ _ st hk=>⟨let⟨o,ho,r⟩:=st.1;⟨o,hk c (by simp) o ho,r⟩,let⟨o,ho,r⟩:=st.2;⟨o,hk t (by simp) o ho,r⟩⟩
 item:= λi s Q E hi st hQ=>zgj st.1 st.2 (x:=bC[i]) (by simp[hi]) λh' a b=>hQ _ h' s.toks (by simp[hi]) ⟨a,st.2.extBut b.extBut nR⟩ b
 done:= λs Q E st hE=>pE hh st.1 st.2 (by simp) hE
open AutoSeq1 (wpAny_loadPart')
theorem zds(t:Addr)(bC:Array Value)(n:Nat)(dd:Option Addr)(ss:Array (Option Value)):Meets (Builtin.«enumerate.__new__» ⟨[.type "enumerate",.ref t],[]⟩) (λ_ R s=>s.heap.get? t=some {cls:= .type "tuple",dict:=dd,data:= .seq bC n,slots:=ss}/\
 R (.ok (.ret (.ref (s.heap.push {cls:= .type "tuple_iterator",data:= .fields #[.ref t,.int 0 0]}).objs.size))) {s with heap:=(s.heap.push {cls:= .type "tuple_iterator",data:= .fields #[.ref t,.int 0 0]}).push {cls:= .type "enumerate",data:= .fields #[.none,.bool false,.ref s.heap.objs.size,rawInt 0,.none,.none]}}):=
 .of_wp λprog w A R s h=>by
  obtain⟨hp,g,d,tk,os⟩:=s;obtain⟨hl,h⟩:=h;have zym:=sub_enumerate;have hT:Heap.IsTuple (Shared.heap ⟨hp,g,d,tk,os⟩) t bC:=⟨_,hl,rfl,n,rfl⟩
  wp_walk using wpAny_loadPart' hl
  refine wpAny_stack_any λst=>wpAny_pure ?_
  split
  . rename_i c _ _ _ _ _
    cases(c==Value.type "enumerate")<;>(wp_walk using wpAny_loadPart' hl,wpAny_pyIter_tuple hT;exact⟨_,rfl,h⟩)
  . wp_walk using wpAny_loadPart' hl,wpAny_pyIter_tuple hT;exact⟨_,rfl,h⟩
theorem zbE{t:Addr}{bC:Array Value}{Q:Value->Shared->Prop}(hT:IsTup s.heap t bC)
 (h: ∀h',IsEnum h' (s.heap.objs.size+1) s.heap.objs.size 0 .none->h'.IsTupleIter s.heap.objs.size t 0->(∀b o,s.heap.get? b=some o->h'.get? b=some o)->Q (.ref (s.heap.objs.size+1)) {s with heap:=h'}):wpAny (model prog w) A (call (.type "enumerate") [.ref t]) Q E s:=by
 obtain⟨⟨c,dd,dt,ss⟩,hl,hc,n,hd⟩:=hT
 cases hc;cases hd
 refine callType_new PySem.F.called_enumerate (by decide) (PySem.F.typeCall_enumerate_1 _) (PySem.F.newCall_enumerate_1 _) (λobj=>PySem.F.args_object_init_2 obj _) PySem.F.entry_enumerate_new (zds t bC n dd ss) ⟨hl,?_⟩
 have hz:(s.heap.push {cls:= .type "tuple_iterator",data:= .fields #[.ref t,.int 0 0]}).objs.size=s.heap.objs.size+1:=Heap.size_push ..
 show _/\_
 rw[hz]
 have he:IsEnum ((s.heap.push {cls:= .type "tuple_iterator",data:= .fields #[.ref t,.int 0 0]}).push {cls:= .type "enumerate",data:= .fields #[.none,.bool false,.ref s.heap.objs.size,rawInt 0,.none,.none]}) (s.heap.objs.size+1) s.heap.objs.size 0 .none:=by
  have q:=Heap.get?_push_size (s.heap.push {cls:= .type "tuple_iterator",data:= .fields #[.ref t,.int 0 0]}) (o:={cls:= .type "enumerate",data:= .fields #[.none,.bool false,.ref s.heap.objs.size,rawInt 0,.none,.none]}) rfl;rw[hz]at q;exact q
 exact⟨⟨_,he,rfl⟩,h _ he ⟨_,Heap.get?_push_of_some _ (Heap.get?_push_size _ rfl),rfl,rfl⟩ λb o x=>Heap.get?_push_of_some _ (Heap.get?_push_of_some _ x)⟩
theorem zel{e c t:Addr}{i:Nat}{bC:Array Value}{oP:Value}{Q:Option Value->Shared->Prop}(hh:A.handled=none)(he:IsEnum s.heap e c i oP)(hc:s.heap.IsTupleIter c t i)(ht:s.heap.IsTuple t bC)(hn: ¬i<bC.size)
 (hQ: ∀h',Heap.ExtBut c s.heap h'->Q none {s with heap:=h'}):wpAny (model prog w) A (pyNext (.ref e)) Q E s:=by
 have kind:s.TypeIs (.ref e) "enumerate" :=⟨_,he,rfl⟩
 unfold pyNext
 refine wpAny_bind (wpAny_attempt (wpAny_callSpecial?_slot (name:=Str.ofString "__next__") kind PySem.F.slot_enumerate_next (wpAny_call_entry PySem.F.slot_enumerate_next kind PySem.F.entry_enumerate_next ?_ (PySem.F.args_enumerate_next_1 _))))
 show wpAny _ _ (field (.ref e) 2>>=_) _ _ s
 refine wpAny_bind (wpAny_field he rfl (x:= .ref c) rfl (wpAny_bind (pE hh hc ht (by simp at hn ⊢;exact hn) λh' x eb sx=> ?_)))
 obtain⟨o,ho,k⟩:=sx
 exact wpAny_bind (wpAny_isInstance (T:= "StopIteration") (b:=true) ⟨o,ho,k⟩ isSubtype_stop (wpAny_pure (hQ _ eb)))
def zik(K:W.Frag)(a:Addr):It:=
 ⟨λi H=> ∃xs x,eS K H a xs/\xs[i]?=some x,λi H v H'=> ∃T,H T=none/\v= .ref T/\ ∀xs,eS K H a xs-> ∃x,xs[i]?=some x/\H'=aO H T (.tup [.int i,x]),λi H=> ∃xs,eS K H a xs/\xs.length<=i⟩
theorem zbg{P:Program}{w:World}{K:W.Frag}{elts:List Expr}{k:Nat}{pos:Pos}(a e it:Addr)(nR:e≠it):sO P w K (.Tuple elts k pos) (zik K a) [e,it] e (λi h=>(∃oP,IsEnum h e it i oP)/\h.IsTupleIter it a i) where
 mem:=by simp
 obj:= λi h st b hb=>by
  obtain⟨⟨oP,he⟩,o,ho,c,d⟩:=st
  rcases List.mem_cons.mp hb with z|z
  . subst z;exact⟨_,he,λv q=>by
     have q':Data.fields _=Data.cell v:=q;cases q'⟩
  . have z':b=it:=by simpa using z
    subst z';exact⟨o,ho,λv q=>by rw[d]at q;cases q⟩
 keep:= λi h h' st kk=>by
  obtain⟨⟨oP,he⟩,o,ho,r⟩:=st;exact⟨⟨oP,kk e (by simp) _ he⟩,⟨o,kk it (by simp) o ho,r⟩⟩
 item:=by
  intro X hP hw hK hc i aB s σ H E I hf st hg;subst hP hw hK;obtain⟨xs,x,hq,hx⟩:=hg;obtain⟨⟨oP,he⟩,hl⟩:=st;obtain⟨bC,rv,pl,hz⟩:=I.tuple hq;obtain⟨u,hu,ru⟩:=rv.get hx;have pt:s.heap.IsTuple a bC.toArray:=pl;obtain⟨oi,hoi,ci,di⟩:=id hl;have nai:a≠it:= λz=>by
   obtain⟨o,ho,c,_⟩:=pl;rw[z,hoi]at ho;cases ho;rw[ci]at c;injection c with c
   exact absurd c (by decide)
  have nae:a≠e:= λz=>by
   obtain⟨o,ho,c,_⟩:=pl;have he':s.heap.get? e=_:=he;rw[z,he']at ho;cases ho;have c':Value.type "enumerate" =Value.type "tuple" :=c;injection c' with c'
   exact absurd c' (by decide)
  have hi:i<bC.toArray.size:=by
   have:=(List.getElem?_eq_some_iff.mp hu).1;simpa using this
  refine wpAny_pyNext_enum_itemD (zeB (A:=X.A.in1) (I.ok.hd hc) it a nai bC.toArray) he ⟨hl,pt⟩ hi nR (by simp;exact⟨nR,Ne.symm nae⟩) λy h' tk hy eo li tp hsz kk=> ?_;have ey:y=u:=by
   have h2:bC.toArray[i]?=some u:=by simpa using hu
   rw[h2]at hy;exact(Option.some.inj hy).symm
  subst ey;refine⟨_,rfl,wpAny_letOwnedTupleGo_enum (s:={s with heap:=h',toks:=tk+1}) eo λh2 en sb=> ?_⟩;have hTe:s.heap.objs.size≠e:=Nat.ne_of_gt (Heap.lt_size he);have pX:h2.get? s.heap.objs.size=some {cls:= .type "tuple",data:= .seq #[.int i tk,y]}:=(sb.2 _ hTe).trans tp;have kp: ∀b ob,b∉ [e,it]->s.heap.get? b=some ob->h2.get? b=some ob:= λb ob hb q=>by
   have h1:b≠e:= λz=>hb (by simp[z]);have h2':b≠it:= λz=>hb (by simp[z]);exact(sb.2 b h1).trans (kk b ob h1 h2' q)
  have I2:aX X aB σ (aO H s.heap.objs.size (.tup [.int i,x])) {s with heap:=h2,toks:=tk+1}:=I.turnLaid (o:= .tup [.int i,x]) (t':=tk+1) hf kp (Nat.le_refl _)
   ⟨by show 2<=sizeLine;rw[sizeLine_eq];decide,[.int i tk,y],.cons ⟨_,rfl⟩ (.cons ru .nil),⟨_,pX,rfl,_,rfl⟩⟩
  refine⟨.ref s.heap.objs.size,_,I2,rfl,⟨_,I.fresh,rfl,λys hy=>⟨x,by rw[I.tuple_inj hy hq];exact hx,rfl⟩⟩,⟨⟨_,en⟩,li.1.extBut sb.extBut (Ne.symm nR)⟩,λb hb=> ?_⟩;have eY:b≠s.heap.objs.size:=by
   obtain⟨o,ho,_⟩: ∃o,s.heap.get? b=some o/\True:=by
    rcases List.mem_cons.mp hb with z|z
    . subst z;exact⟨_,he,trivial⟩
    . have z':b=it:=by simpa using z
      subst z';exact⟨oi,hoi,trivial⟩
   exact Nat.ne_of_lt (Heap.lt_size ho)
  rw[aG eY];exact(hf b hb).1
 done:=by
  intro X hP hw hK hc i aB s σ H E I hf st hg;subst hP hw hK;obtain⟨xs,hq,hx⟩:=hg;obtain⟨⟨oP,he⟩,hl⟩:=st;obtain⟨bC,rv,pl,hz⟩:=I.tuple hq;have dL:=rv.length;obtain⟨oi,hoi,ci,di⟩:=id hl;have hn: ¬i<bC.toArray.size:=by simp;omega
  exact zel (I.ok.hd hc) he hl (show s.heap.IsTuple a bC.toArray from pl) hn λh' eb=>⟨rfl,I.turnedL (t':=s.toks) hf λb ob hb q=>eb b ob (λz=>hb (by simp[z])) q⟩
 self:= λA i s Q E st h=>by
  obtain⟨⟨oP,he⟩,_⟩:=st;exact wpAny_pyIter_enum he h
def zob(K:W.Frag)(ta:TA):TI:= λσ H R=>ta σ H λvs H1=> ∃a,vs=[.ref a]/\(∃xs,eS K H1 a xs)/\R (zik K a) H1
theorem zgL{X:Cx}{elts:List Expr}{k:Nat}{uI:Pos}{l:Expr}{ta:TA}{p pos:Pos}(hg:Gl X "enumerate")(hm:X.mg "enumerate" =none)(ha:PA X [l] ta)(hs:starEach [l] X.env=[(false,eval l X.env)]:=by rfl):
 PI X (.Tuple elts k uI) (.Call (.Name "enumerate" p) [l] [] pos) (zob X.K ta):=by
 intro aB s σ H R I h
 refine Call_ (hJ I hg hm (show bootBuiltins "enumerate" =some (.type "enumerate") by decide+kernel) (PyProof.Rows.callWith_type1 (dP (ha pos aB s σ H _ I h) λus s1 ⟨vs,H1,I1,r1,q1⟩=> ?_) hs rfl))
 obtain⟨a,e,⟨xs,hq⟩,q⟩:=q1
 subst e
 obtain⟨u,rfl,ru⟩:=r1.one
 cases ru
 obtain⟨bC,rv,pl,hz⟩:=I1.tuple hq
 refine zbE pl λh' en li kk=> ?_
 have I2:aX X aB σ H1 {s1 with heap:=h'}:=I1.kept (t':=s1.toks) kk
 have T:=zbg (P:=X.prog) (w:=X.w) (K:=X.K) (elts:=elts) (k:=k) (pos:=uI) a (s1.heap.objs.size+1) s1.heap.objs.size (Nat.ne_of_gt (Nat.lt_succ_self _))
 refine T.self X.A 0 {s1 with heap:=h'} _ _ ⟨⟨_,en⟩,li⟩ ⟨_,_,_,_,H1,rfl,I2,T,⟨⟨_,en⟩,li⟩,λb hb=> ?_,q⟩
 have vQ:s1.heap.objs.size<=b:=by
  rcases List.mem_cons.mp hb with z|z
  . subst z;exact Nat.le_succ _
  . have z':b=s1.heap.objs.size:=by simpa using z
    subst z';exact Nat.le_refl _
 exact I1.fpOk vQ (I1.hok.fresh vQ)
theorem zer{K:W.Frag}{a:Addr}{xs:List V}{g:TG}{tb:TS}{D:fH}{σ:St}{H:Hp}(Pv:Nat->St->Hp->Prop)(h0:Pv 0 σ H)(hl: ∀i σ H,i<=xs.length->Pv i σ H->eS K H a xs)
 (hs: ∀i x σ H T,xs[i]?=some x->H T=none->Pv i σ H->g (.ref T) σ (aO H T (.tup [.int i,x])) λσ2 H2=>tb {D with nx:=Pv (i+1),ct:=Pv (i+1),bk:=D.nx} σ2 H2) (hd: ∀σ H,Pv xs.length σ H->D.nx σ H):
 ∃W:Nat->Nat->St->Hp->Prop,(∃m,W 0 m σ H)/\ ∀i m σ H,W i m σ H->
  ((zik K a).stop i H/\D.nx σ H)\/((zik K a).go i H/\ ∃N:St->Hp->Prop,(∀σ' H',N σ' H'-> ∃m',m'<m/\W (i+1) m' σ' H')/\ ∀x H',(zik K a).yld i H x H'->g x σ H' λσ2 H2=>tb {D with nx:=N,ct:=N,bk:=D.nx} σ2 H2):=by
 refine⟨λi m σ H=>m=xs.length - i/\i<=xs.length/\Pv i σ H,⟨xs.length,by simp,Nat.zero_le _,h0⟩,?_⟩
 rintro i m σ H ⟨rfl,hi,p⟩
 have q:=hl i σ H hi p
 by_cases eY:i<xs.length
 . refine .inr ⟨⟨xs,xs[i],q,by simp[eY]⟩,Pv (i+1),λσ' H' p'=>⟨xs.length - (i+1),by omega,rfl,eY,p'⟩,λx H' y=> ?_⟩;obtain⟨T,hT,rfl,y⟩:=y;obtain⟨x',hx,rfl⟩:=y xs q;exact hs i x' σ H T hx hT p
 . have e:i=xs.length:=by omega
   subst e;exact .inl ⟨⟨xs,q,Nat.le_refl _⟩,hd σ H p⟩
theorem zdH{it t:Addr}{items:Array Value}(nR:t≠it): ∀(n i:Nat) (s:Shared) (Q:List Value->Shared->Prop),s.heap.IsListIter it t i->s.heap.IsList t items->i+n<=items.size->
 (∀h',h'.IsListIter it t (i+n)->h'.IsList t items->Heap.SameBut it s.heap h'->Q ((items.toList.drop i).take n) {s with heap:=h'})->wpAny (model prog w) A (draw (.ref it) n) Q E s:=by
 intro n
 induction n with
 |zero=>
  intro i s Q lO ht _ hQ;show wpAny _ _ (pure []) Q E s;exact wpAny_pure (by simpa using hQ s.heap lO ht (Heap.SameBut.refl ..))
 |succ n ih=>
  intro i s Q lO ht hle hQ;have eY:i<items.size:=by omega
  show wpAny _ _ (pyNext (.ref it)>>=_) Q E s
  refine wpAny_bind (wpAny_pyNext_list_item lO ht (x:=items[i]) (by simp[eY]) λh₁ znT zum=> ?_);have zvx:h₁.IsList t items:=by
   obtain⟨o,ho,r⟩:=ht;exact⟨o,zum.extBut _ _ nR ho,r⟩
  refine wpAny_bind (wpAny_holding (ih (i+1) _ _ znT zvx (by omega) λh₂ zwU zCR zFc=>wpAny_pure ?_));have hd:items.toList.drop i=items[i]::items.toList.drop (i+1):=by simp[List.drop_eq_getElem_cons,eY]
  have:=hQ h₂ (by rw[show i+(n+1)=i+1+n by omega];exact zwU) zCR (zum.trans zFc);rw[hd,List.take_succ_cons]at this;exact this
theorem qQ{t:Addr}{items:Array Value}{Q:List Value->Shared->Prop}(hh:A.handled=none)(ht:s.heap.IsList t items)
 (hQ: ∀h',Heap.ExtBut s.heap.objs.size s.heap h'->Q items.toList {s with heap:=h'}):wpAny (model prog w) A (unpackItems (.ref t) items.size none) Q E s:=by
 have eY:t≠s.heap.objs.size:=by obtain⟨o,ho,_⟩:=ht;exact Nat.ne_of_lt (Heap.lt_size ho)
 unfold unpackItems
 refine wpAny_bind ?_
 . unfold notIterableAtAll;refine wpAny_bind (wpAny_specialOf ht.typeIs slot_list_iter.lookup ?_);refine wpAny_pure ?_;simp only[Bool.false_eq_true,if_false];refine wpAny_bind (wpAny_holding (wpAny_pyIter_list ht ?_));have htp:(s.heap.push {cls:= .type "list_iterator",data:= .fields #[.ref t,.int 0 0]}).IsList t items:=by
    obtain⟨o,ho,r⟩:=ht;exact⟨o,Heap.get?_push_of_some _ ho,r⟩
   refine wpAny_bind (wpAny_holding (zdH eY items.size 0 _ _ ⟨_,Heap.get?_push_size _ rfl,rfl,rfl⟩ htp (by omega) λh₁ znT zvx zum=> ?_));have uA:List.take items.size (List.drop 0 items.toList)=items.toList:=by
    rw[List.drop_zero];exact List.take_of_length_le (by simp)
   rw[uA];rw[if_neg (by simp)];refine wpAny_bind (wpAny_holding (wpAny_pyNext_list_end hh znT zvx (by simp) λh₂ zBX=> ?_));simp only[Option.isSome_none,Bool.false_eq_true,if_false];refine wpAny_pure (hQ h₂ λb o hb e=>zBX b o hb (zum.extBut b o hb (Heap.get?_push_of_some _ e)))
theorem oY{env:Env}{elts:List Expr}{x1}{pos:Pos}{t:Addr}{items:Array Value}{Q:Unit->Shared->Prop}(hh:A.handled=none)(ht:s.heap.IsList t items)
 (hn:(assignEach elts env).length=items.size) (ztb:(assignEach elts env).findIdx? (·.1)=none)
 (h: ∀h',Heap.ExtBut s.heap.objs.size s.heap h'->wpAny (model prog w) A (assignInOrder ((assignEach elts env).map (·.2)) items.toList) Q E {s with heap:=h'}):
 wpAny (model prog w) A (assign (.Tuple elts x1 pos) env (.ref t)) Q E s:=by
 rw[assign_Tuple]
 refine wpAny_bind (wpAny_standAt ?_)
 unfold unpack
 rw[hn,ztb]
 exact wpAny_bind (wpAny_holding (qQ hh ht h))
section
variable {pos:Pos}
def zrq(K:W.Frag)(n:Nat)(t:TGs):TG:= λv σ H Q=> ∃a xs,v= .ref a/\bB K H a xs/\xs.length=n/\t xs σ H Q
theorem ziJ{es:List Expr}{k:Nat}{t:TGs}{n:Nat}(hc:X.calm=true)(h:PGs X es t)
 (hn:(assignEach es X.env).length=n:=by rfl) (hst:(assignEach es X.env).findIdx? (·.1)=none:=by rfl):PG X (.Tuple es k pos) (zrq X.K n t):=by
 intro aB s σ H v u Q I r hw
 obtain⟨a,xs,e1,hq,hl,hw⟩:=hw
 subst e1
 cases r
 obtain⟨bC,rv,ht,hz⟩:=I.list hq
 refine oY (I.ok.hd hc) ht.isList (by simp[hn,<-hl,rv.length]) hst λh' hx=> ?_
 have I1:aX X aB σ H {s with heap:=h'}:=I.kept (t':=s.toks) λb o e=>hx b o (Nat.ne_of_lt (Heap.lt_size e)) e
 exact h aB _ σ H xs _ Q I1 (by simpa using rv) hw
end
def iK:List Expr->Option (List Int)
 | []=>some []
 | .Constant (.int n) _ _::es=>(iK es).map (n::·)
 |_=>none
theorem sB{X:Cx}: ∀{es:List Expr} {ns:List Int},iK es=some ns->PA X es (λ_ H Q=>Q (ns.map V.int) H):=by
 intro es
 induction es with
 |nil=>intro ns h;cases h;exact aC
 |cons e es ih=>
  intro ns h;cases e with
  |Constant c j p=>
   cases c with
   |int n=>
    have h:(iK es).map (n::·)=some ns:=h;obtain⟨ms,hm,rfl⟩:=Option.map_eq_some_iff.mp h;exact aA aH (ih hm)
   |_=>cases h
  |_=>cases h
theorem oU{X:Cx}{xs es:List Expr}{p:Pos}{te:TE}{t:TA}(ha:PE X (.List xs p) te)(hr:PA X es t):PA X (.List xs p::es) (bL te t):=aA ha hr
theorem zfr{X:Cx}{e1 e2 e3 e4:List Expr}{n1 n2 n3 n4:List Int}{p p1 p2 p3 p4 pos:Pos}{j:Expr}{tj:TE}(h1:iK e1=some n1)(h2:iK e2=some n2)(h3:iK e3=some n3)(h4:iK e4=some n4)(hj:PE X j tj)(hs:xY j):
 PE X (.Subscript (.List [.List e1 p1,.List e2 p2,.List e3 p3,.List e4 p4] p) j pos) (dW (eC X.K) (qB (bL (qB (λ_ H Q=>Q (n1.map V.int) H)) (bL (qB (λ_ H Q=>Q (n2.map V.int) H)) (bL (qB (λ_ H Q=>Q (n3.map V.int) H)) (bL (qB (λ_ H Q=>Q (n4.map V.int) H)) dN))))) tj):=
 bF aR (bV (oU (bV (sB h1)) (oU (bV (sB h2)) (oU (bV (sB h3)) (oU (bV (sB h4)) aC))))) hj hs
theorem zhh{X:Cx}{st:Stmt}{i:Nat}{x:Str}{e1 e2 e3 e4:List Expr}{n1 n2 n3 n4:List Int}{p p1 p2 p3 p4 pos sW zaw:Pos}{j:Expr}{tj:TE}(hst:st= .Assign [.Name x sW] (.Subscript (.List [.List e1 p1,.List e2 p2,.List e3 p3,.List e4 p4] p) j zaw) pos)(h1:iK e1=some n1)(h2:iK e2=some n2)(h3:iK e3=some n3)(h4:iK e4=some n4)
 (hN:X.N.Nodup) (hi:X.N[i]?=some x) (hx:Loc X.env.scope x) (hj:PE X j tj) (hs:xY j) (hf:X.fn x=true\/X.env.scope.names.lookup x=some .local:=by first|exact .inl rfl|exact .inr rfl|assumption):
 PS X st (zjb (dW (eC X.K) (qB (bL (qB (λ_ H Q=>Q (n1.map V.int) H)) (bL (qB (λ_ H Q=>Q (n2.map V.int) H)) (bL (qB (λ_ H Q=>Q (n3.map V.int) H)) (bL (qB (λ_ H Q=>Q (n4.map V.int) H)) dN))))) tj) (bA i)):=by
 subst hst
 exact aM hN hi hx (zfr h1 h2 h3 h4 hj hs) rfl hf
section
variable {pos:Pos}
def zsR(i j l:Nat)(ta:TA):TS:= λD σ H=>ta σ H λvs H1=> ∃v w u,vs=[v,w,u]/\D.nx (((σ.set i (some v)).set j (some w)).set l (some u)) H1
theorem zjT{i j l:Nat}{x y z:Str}{a b c:Expr}{ta:TA}{px py pz pt:Pos}{kt k2 pt2}(hc:X.calm=true)(hN:X.N.Nodup)(hi:X.N[i]?=some x)(hj:X.N[j]?=some y)(hl:X.N[l]?=some z)(hij:i≠j)(hil:i≠l)(hjl:j≠l)
 (hx:X.env.scope.names.lookup x=some .local) (hy:X.env.scope.names.lookup y=some .local) (hz:X.env.scope.names.lookup z=some .local) (ha:PA X [a,b,c] ta)
 (hw:swappedStores [.Tuple [.Name x px,.Name y py,.Name z pz] kt pt] (.Tuple [a,b,c] k2 pt2) X.env=pure (some [x,y,z]))
 (hs:swapsWithSole [.Tuple [.Name x px,.Name y py,.Name z pz] kt pt] (.Tuple [a,b,c] k2 pt2) pos.line X.env=pure false:=by rfl):
 PS X (.Assign [.Tuple [.Name x px,.Name y py,.Name z pz] kt pt] (.Tuple [a,b,c] k2 pt2) pos) (zsR i j l ta):=by
 intro aB s σ H D I h
 rw[exec_Assign_arm]
 refine wpAny_bind (wpAny_standAt ?_)
 rw[hs]
 refine wpAny_bind (wpAny_pure ?_)
 rw[if_neg (by decide)]
 refine wpAny_bind (Tuple_ (dP (ha _ aB s σ H _ I h) λus s1 ⟨vs,H1,I1,r1,q1⟩=> ?_))
 obtain⟨v1,v2,v3,e1,q1⟩:=q1
 subst e1
 obtain⟨u1,u2,u3,rfl,r1,r2,r3⟩: ∃u1 u2 u3,us=[u1,u2,u3]/\bT v1 u1/\bT v2 u2/\bT v3 u3:=by
  cases r1 with
  |cons p q=>
   obtain⟨u2,u3,rfl,p2,p3⟩:=bP.two q;exact⟨_,u2,u3,rfl,p,p2,p3⟩
 refine wpAny_newObj_type ?_ (by show 3<=sizeLine;decide)
 have I2:aX X aB σ H1 {s1 with heap:=s1.heap.push {cls:= .type "tuple",data:= .seq [u1,u2,u3].toArray}}:=I1.kept (t':=s1.toks) λb o e=>Heap.get?_push_of_some _ e
 rw[hw]
 refine wpAny_bind (wpAny_pure ?_)
 show wpAny (model X.prog X.w) X.A (do rule "assign.swapped-stores";let bC<-unpackItems (.ref s1.heap.objs.size) 3 none;assignInOrder [λv=>bindName X.env z v,λv=>bindName X.env y v,λv=>bindName X.env x v] bC.reverse;pure Flow.next) _ _ _
 refine wpAny_bind (wpAny_rule (wpAny_bind (unpackItems_tuple (items:= #[u1,u2,u3]) (I.ok.hd hc) (IsTup.new s1.heap _) λh' k'=> ?_)))
 have I3:=I2.kept (h':=h') (t':=s1.toks) λb o e=>k' b o (Nat.ne_of_lt (Heap.lt_size e)) e
 show wpAny _ _ (assignInOrder [λv=>bindName X.env z v,λv=>bindName X.env y v,λv=>bindName X.env x v] [u3,u2,u1]>>= λ_=>pure Flow.next) _ _ _
 refine wpAny_bind (assignInOrder_cons (wpAny_bindName (gC I3 hN hl (.inl hz) r3 (λs2 I4=> ?_) (.inr hz))))
 refine assignInOrder_cons (wpAny_bindName (gC I4 hN hj (.inl hy) r2 (λs3 I5=> ?_) (.inr hy)))
 refine assignInOrder_cons (wpAny_bindName (gC I5 hN hi (.inl hx) r1 (λs4 I6=>assignInOrder_nil (wpAny_pure ?_)) (.inr hx)))
 rw[List.set_comm _ _ (Ne.symm hjl),List.set_comm _ _ (Ne.symm hil),List.set_comm _ _ (Ne.symm hij)]at I6
 exact⟨_,H1,I6,q1⟩
end
def It8(lo:Int)(n:Nat):It:=⟨λi _=>i<n,λi H x H'=>H'=H/\x= .int (lo+(i:Nat) * 8),λi _=>n<=i⟩
theorem zfk(a:Int)(n:Nat):Builtin.Range.rangeSize a (a+n * 8) 8=n:=by
 unfold Builtin.Range.rangeSize
 rw[if_pos (by decide)]
 split<;>omega
theorem zjy{a:Int}{n:Nat}(ha:0<=a)(ha':a<2^40)(hn:n<2^40):Builtin.Range.small a (a+n * 8) 8=true:=by
 unfold Builtin.Range.small
 rw[zfk]
 simp only[Builtin.Range.rangeFitsLong,Bool.and_eq_true,Bool.or_eq_true,decide_eq_true_eq,beq_iff_eq,show((8:Int)>0) by decide,if_true]
 omega
theorem zlR{P:Program}{w:World}{K:W.Frag}{tg:Expr}(it:Addr)(lo:Int)(n:Nat):sO P w K tg (It8 lo n) [it] it (λi h=>IsRangeIter h it (lo+(i:Nat) * 8) ((n:Int) - (i:Nat)) 8) where
 mem:=by simp
 obj:= λi h st b hb=>by
  have e:b=it:=by simpa using hb
  subst e;exact⟨_,st,λv z=>by
   have z':Data.fields _=Data.cell v:=z;cases z'⟩
 keep:= λi h h' st k=>k it (by simp) _ st
 item:=by
  intro X hP hw hK hc i aB s σ H E I hf st hg;subst hP hw hK;obtain⟨f0,f1,f2,f3,f4,f5⟩:=hf it (by simp);have W:=Walks.range (prog:=X.prog) (w:=X.w) (I.ok.hd hc) it lo 8 n;refine W.item i s _ _ hg st λv h' tk hv st' kk=> ?_;obtain⟨t,rfl⟩:=hv;have I1:aX X aB σ H {s with heap:=h',toks:=tk}:=I.turned (λb o hb e=>kk b o (by simpa using hb) e) f0 f1 f3 f4 f5;refine⟨_,rfl,j9 (s:={s with heap:=h',toks:=tk}) (n:= "range_iterator") st' rfl rfl (by decide) ⟨.int (lo+(i:Nat) * 8),H,I1,⟨t,rfl⟩,⟨rfl,rfl⟩,st',λb hb=>(hf b hb).1⟩⟩
 done:=by
  intro X hP hw hK hc i aB s σ H E I hf st hg;subst hP hw hK;obtain⟨f0,f1,f2,f3,f4,f5⟩:=hf it (by simp);exact wpAny_pyNext_range_end (I.ok.hd hc) st (by have:n<=i:=hg;omega) λh' eb=>⟨rfl,I.turned (t':=s.toks) (λb o hb e=>eb b o hb e) f0 f1 f3 f4 f5⟩
 self:= λ_ _ _ _ _ st h=>wpAny_pyIter_rangeiter st h
section
variable {tg:Expr}
theorem zyp{aB:List (Addr×Obj)}{σ:St}{H:Hp}{s:Shared}{R:It->Hp->Prop}{E:Value->Shared->Prop}{lo:Int}{n:Nat}{t u v:Tok}{tk:Nat}(I:aX X aB σ H s)(h1:0<=lo)(h2:lo<2^40)(h3:n<2^40)
 (q:R (It8 lo n) H):wpAny (model X.prog X.w) X.A (pyIter (.ref s.heap.objs.size)) (PIE X aB σ tg R) E {s with heap:=s.heap.push {cls:= .type "range",data:= .fields #[.int lo t,.int (lo+n * 8) u,.int 8 v]},toks:=tk}:=by
 refine wpAny_pyIter_range (IsRange.new ..) (zjy h1 h2 h3) ?_
 have I1:aX X aB σ H {s with heap:=s.heap.push {cls:= .type "range",data:= .fields #[.int lo t,.int (lo+n * 8) u,.int 8 v]},toks:=tk}:=I.kept λb o e=>Heap.get?_push_of_some _ e
 refine⟨(s.heap.push {cls:= .type "range",data:= .fields #[.int lo t,.int (lo+n * 8) u,.int 8 v]}).objs.size,[(s.heap.push {cls:= .type "range",data:= .fields #[.int lo t,.int (lo+n * 8) u,.int 8 v]}).objs.size],_,_,H,rfl,
  I1.kept (t':=tk) λb o e=>Heap.get?_push_of_some _ e,zlR _ lo n,?_,λb hb=> ?_,q⟩
 . have e1:lo+((0:Nat):Int) * 8=lo:=by simp
   have e2:((n:Nat):Int) - ((0:Nat):Int)=Builtin.Range.rangeSize lo (lo+n * 8) 8:=by rw[zfk];omega
   show IsRangeIter _ _ (lo+((0:Nat):Int) * 8) (((n:Nat):Int) - ((0:Nat):Int)) 8
   rw[e1,e2];exact Heap.get?_push_size _ rfl
 . have e:b=(s.heap.push {cls:= .type "range",data:= .fields #[.int lo t,.int (lo+n * 8) u,.int 8 v]}).objs.size:=by simpa using hb
   subst e;exact I1.fpOk (Nat.le_refl _) (I1.hok.fresh (Nat.le_refl _))
def zsf(ta:TA):TI:= λσ H R=>ta σ H λvs H1=> ∃(i:Int) (n:Nat),vs=[.int i,.int (i+n * 8),.int 8]/\(0<=i/\i<2^40/\n<2^40)/\R (It8 i n) H1
theorem zdO{a b c:Expr}{ta:TA}{p pos:Pos}(hg:Gl X "range")(hm:X.mg "range" =none)(ha:PA X [a,b,c] ta)(hs:starEach [a,b,c] X.env=[(false,eval a X.env),(false,eval b X.env),(false,eval c X.env)]:=by rfl)(hs2:starEach [b,c] X.env=[(false,eval b X.env),(false,eval c X.env)]:=by rfl):
 PI X tg (.Call (.Name "range" p) [a,b,c] [] pos) (zsf ta):=by
 intro aB s σ H R I h
 refine Call_ (hJ I hg hm boot_range (PyProof.Rows.callWith_type1 (dP (ha pos aB s σ H _ I h) λus s1 ⟨vs,H1,I1,r1,q1⟩=> ?_) (by rw[hs,hs2]) (by rw[hs2];rfl)))
 obtain⟨i,n,e,⟨q1,q2,q3⟩,q⟩:=q1
 subst e
 cases r1 with
 |cons r rr=>
  cases rr with
  |cons r' rr=>
   cases rr with
   |cons r'' rr=>
    cases rr;obtain⟨t,rfl⟩:=r;obtain⟨t',rfl⟩:=r';obtain⟨t'',rfl⟩:=r'';exact call_range_3 (by decide) (zyp I1 q1 q2 q3 q) (.inl (PyProof.noPylong_small (by decide)))
theorem zqn{lo:Int}{n:Nat}{g:TG}{tb:TS}{D:fH}{σ:St}{H:Hp}(Pv:Nat->St->Hp->Prop)(h0:Pv 0 σ H)
 (hs: ∀i σ H,i<n->Pv i σ H->g (.int (lo+(i:Nat) * 8)) σ H λσ2 H2=>tb {D with nx:=Pv (i+1),ct:=Pv (i+1),bk:=D.nx} σ2 H2) (hd: ∀σ H,Pv n σ H->D.nx σ H):
 ∃W:Nat->Nat->St->Hp->Prop,(∃m,W 0 m σ H)/\ ∀i m σ H,W i m σ H->
  ((It8 lo n).stop i H/\D.nx σ H)\/((It8 lo n).go i H/\ ∃N:St->Hp->Prop,(∀σ' H',N σ' H'-> ∃m',m'<m/\W (i+1) m' σ' H')/\ ∀x H',(It8 lo n).yld i H x H'->g x σ H' λσ2 H2=>tb {D with nx:=N,ct:=N,bk:=D.nx} σ2 H2):=by
 refine⟨λi m σ H=>m=n - i/\i<=n/\Pv i σ H,⟨n,by simp,Nat.zero_le _,h0⟩,?_⟩
 rintro i m σ H ⟨rfl,hi,p⟩
 by_cases eY:i<n
 . refine .inr ⟨eY,Pv (i+1),λσ' H' p'=>⟨n - (i+1),by omega,rfl,eY,p'⟩,λx H' y=> ?_⟩;obtain⟨rfl,rfl⟩:=y;exact hs i σ H' eY p
 . obtain rfl:i=n:=by omega
   exact .inl ⟨Nat.le_refl _,hd σ H p⟩
end
end L2
namespace KK
open PySem L2
def top(i:Nat):Stmt:=PySem.Challenge.pw_meetdesks_k20_free_pairs.main.body.getD i (.Pass ⟨0,0,0,0⟩)
abbrev zhU:Stmt:=top 22
abbrev zhw:Stmt:=top 23
abbrev zgE:Stmt:=top 24
abbrev oF:Stmt:=top 25
def aZ(H:Hp)(a:Addr):Prop:= ∃x y z:Int,H a=some (.lst [.int x,.int y,.int z])/\0<=z/\z<1099511627776
def eR(a:Addr)(H H':Hp):Prop:= ∀b o,b≠a->H b=some o->H' b=some o
theorem eR.trans{a:Addr}{H H1 H2:Hp}(x:eR a H H1)(y:eR a H1 H2):eR a H H2:= λb o n h=>y b o n (x b o n h)
theorem eR.own{a:Addr}{H:Hp}{o:HO}:eR a H (aO H a o):= λb u n h=>by rw[aG n];exact h
theorem eR.new{a p:Addr}{H:Hp}{o:HO}(h:H p=none):eR a H (aO H p o):= λb u _ q=>by rw[aG (aI q h)];exact q
theorem aZ.some{H:Hp}{a:Addr}(f:aZ H a): ∃o,H a=Option.some o:=let⟨_,_,_,h,_⟩:=f;⟨_,h⟩
theorem aZ.new{a p:Addr}{H:Hp}{o:HO}(f:aZ H a)(h:H p=none):aZ (aO H p o) a:=by
 obtain⟨x,y,z,e,r⟩:=f
 exact⟨x,y,z,by rw[aG (aI e h)];exact e,r⟩
theorem aZ.set{a p:Addr}{H:Hp}{o:HO}(f:aZ H a)(h:a≠p):aZ (aO H p o) a:=by
 obtain⟨x,y,z,e,r⟩:=f
 exact⟨x,y,z,by rw[aG h];exact e,r⟩
def cO:Sp:= λvs H Q _=> ∃(a:Addr) (m:Int),vs=[.ref a,.int m]/\aZ H a/\0<m/\m<=100000000000000000000/\ ∀(r:Int) (H':Hp),0<=r->r<m->aZ H' a->eR a H H'->Q (.int r) H'
def zgn(K:W.Frag):Sp:= λvs H Q _=> ∃(a:Addr) (ns:List Int) (k:Int),vs=[.ref a,.int k]/\bB K H a (ns.map V.int)/\ns.length<=63/\0<=k/\k<=100/\ ∀r:Int,Q (.int r) H
def tR(K:W.Frag):Sp:= λvs H Q _=> ∃(a:Addr) (ns:List Int) (k:Int),vs=[.ref a,.int k]/\bB K H a (ns.map V.int)/\ns.length<=63/\0<=k/\k<=100/\ ∀(p:Addr) (o:HO),H p=none->aZ (aO H p o) p->Q (.ref p) (aO H p o)
section
variable {P:Program}{w:World}{K:W.Frag}{mg:Str->Option Value}{base:Heap}{f g:Addr}{fd gd:FuncData}{k:Nat}
theorem zgT:bS ["_law_flow_here","_law_many","_law_digit","_law_number"] ["_law_flow_here","_law_many"] (aE zgE):=(.of rfl rfl rfl rfl (by decide+kernel))
theorem sT{n:Nat}(h:n<=1000):n<=sizeLine:=Nat.le_of_lt (gI h)
theorem cL(n:Nat)(h:n<=1000:=by decide):n<=sizeLine:=sT h
theorem zjF(F:lH K "_law_draw" "_law_draw" zgE f fd):dG P w K mg base fV (k+1) f fd ["_law_flow_here","_law_many"] cO:=by
 refine F.ok zgT (λvs H Q E h=> ?_) (λcdv A outer s H vs Q E hr h=> ?_)
 . obtain⟨a,m,rfl,_⟩:=h;rfl
 obtain⟨a,m,rfl,⟨x,y,z,e,hz0,hz1⟩,m0,m1,q⟩:=h
 have nd:=zgT.nd
 refine⟨_,aD (eL (cF j4 (bF aR (pv 0) aH (λ_ _=>rfl)) aH (dI _))
  (aD (aM (i:=2) nd rfl (Or.inl rfl) (aU gZ (bF aR (pv 0) aH (λ_ _=>rfl)) (pv 1)))
  (aD (lC (aU pK (bF aR (pv 0) aH (λ_ _=>rfl)) (pv 1)) (uU (pv 0) aH lX)) (aJ (cH (pv 2))))) cQ) (aD (lC (aU bY (bF aR (pv 0) aH (λ_ _=>rfl)) aH) (uU (pv 0) aH lX)) (aD (aM (i:=3) nd rfl (Or.inl rfl) (aU gZ (aU bY (aU bY (aU eK (bF aR (pv 0) aH (λ_ _=>rfl)) (aU bY aH (aU eK aH (bF aR (pv 0) aH (λ_ _=>rfl))))) (aU eK aH (bF aR (pv 0) aH (λ_ _=>rfl)))) aH) aH)) (aD (aM (i:=3) nd rfl (Or.inl rfl) (aU gZ (aU eK (pv 3) (pv 3)) aH)) (aJ (cH (aU gZ (aU pK (aU gZ (aU eK (aU bY (pv 3) aH) (aU bY (pv 3) aH)) aH) aH) (pv 1))))))),?_⟩
 refine⟨_,rfl,a,_,_,_,rfl,rfl,bB.of e,rfl,_,_,rfl,rfl,_,rfl,?_⟩
 refine iX (λc=> ?_) (λc=> ?_)
 . refine⟨_,rfl,a,_,_,_,rfl,rfl,bB.of e,rfl,_,rfl,_,_,rfl,rfl,m0,?_⟩;refine⟨_,rfl,a,_,_,_,rfl,rfl,bB.of e,rfl,_,rfl,_,_,rfl,rfl,⟨m0,Int.le_trans m1 (by decide)⟩,_,rfl,a,_,_,_,rfl,rfl,e,rfl,?_⟩;refine⟨_,rfl,q _ _ (Int.emod_nonneg _ (by omega)) (Int.emod_lt_of_pos _ m0) ⟨_,_,_,aF,hz0,hz1⟩ eR.own⟩
 . refine⟨_,rfl,a,_,_,_,rfl,rfl,bB.of e,rfl,_,_,rfl,rfl,_,rfl,a,_,_,_,rfl,rfl,e,rfl,?_⟩;have e2:aO H a (.lst [.int x,.int (y+1),.int z]) a=some (.lst [.int x,.int (y+1),.int z]):=aF;refine⟨_,rfl,a,_,_,_,rfl,rfl,bB.of e2,rfl,_,rfl,a,_,_,_,rfl,rfl,bB.of e2,rfl,_,_,rfl,rfl,.inl ⟨by decide,by decide⟩,_,_,rfl,rfl,_,_,rfl,rfl,.inl ⟨by omega,by omega⟩,_,rfl,a,_,_,_,rfl,rfl,bB.of e2,rfl,_,_,rfl,rfl,.inl ⟨by decide,by decide⟩,_,_,rfl,rfl,_,_,rfl,rfl,_,_,rfl,rfl,(show(0:Int)<2147483629 by decide),?_⟩;have b1:=Int.emod_nonneg (z * (48271+2 * (y+1))+7919 * (y+1)+1) (show(2147483629:Int)≠0 by decide);have b2:=Int.emod_lt_of_pos (z * (48271+2 * (y+1))+7919 * (y+1)+1) (show(0:Int)<2147483629 by decide);generalize (z * (48271+2 * (y+1))+7919 * (y+1)+1) % 2147483629=n1 at b1 b2 ⊢;refine⟨_,rfl,_,rfl,_,_,rfl,rfl,.inl ⟨by omega,by omega⟩,_,_,rfl,rfl,(show(0:Int)<2147483587 by decide),?_⟩;have b3:=Int.emod_nonneg (n1 * n1) (show(2147483587:Int)≠0 by decide);have b4:=Int.emod_lt_of_pos (n1 * n1) (show(0:Int)<2147483587 by decide);generalize n1 * n1 % 2147483587=n2 at b3 b4 ⊢;refine⟨_,rfl,_,_,rfl,rfl,_,rfl,_,_,rfl,rfl,_,_,rfl,rfl,.inl ⟨by omega,by omega⟩,_,_,rfl,rfl,(show(0:Int)<2147483579 by decide),_,_,rfl,rfl,⟨by decide,by decide⟩,_,rfl,_,_,rfl,rfl,m0,?_⟩;exact q _ _ (Int.emod_nonneg _ (by omega)) (Int.emod_lt_of_pos _ m0) ⟨_,_,_,e2,hz0,hz1⟩ eR.own
theorem zfL:bS ["_law_script","_law_k","_law_number"] ["_law_script","_law_k"] (aE zhU):=(.of rfl rfl rfl rfl (by decide+kernel))
theorem zkC{ns:List Int}{k:Int}(h0:0<=k)(h1:k<(ns.length:Int)): ∃v:Int,mL (ns.map V.int) k=some (.int v):=by
 have hk:k.toNat<ns.length:=by omega
 have ek:k=((k.toNat:Nat):Int):=by omega
 refine⟨ns[k.toNat],?_⟩
 have q:mL (ns.map V.int) ((k.toNat:Nat):Int)=some (.int ns[k.toNat]):=bD (by rw[List.getElem?_map,List.getElem?_eq_getElem hk];rfl)
 rw[<-ek]at q
 exact q
theorem ziR(F:lH K "_law_cell" "_law_cell" zhU f fd)(ml:mg "len" =none):dG P w K mg base fV (k+1) f fd ["_law_script","_law_k"] (zgn K):=by
 refine F.ok zfL (λvs H Q E h=> ?_) (λcdv A outer s H vs Q E hr h=> ?_)
 . obtain⟨a,ns,i,rfl,_⟩:=h;rfl
 obtain⟨a,ns,i,rfl,hS,h63,i0,i1,q⟩:=h
 have nd:=zfL.nd
 have hl:(ns.map V.int).length=ns.length:=aW _
 refine⟨_,aD (eL (cF o7 (pv 1) (aY aV rfl ml PySem.boot_len (aA (pv 0) aC)) (dI _)) (aJ (cH (bF aR (pv 0) (pv 1) (λ_ _=>rfl)))) cQ) (aD (aM (i:=2) nd rfl (Or.inl rfl) (aU bY (aU eK (pv 1) aH) aH)) (aD (eL (cF j4 (aY aV rfl ml PySem.boot_len (aA (pv 0) aC)) aH (dI _))
  (aJ (aM (i:=2) nd rfl (Or.inl rfl) (aU bY (aU eK (aU gZ (bF aR (pv 0) (aU gZ (aU eK (pv 1) aH) (aY aV rfl ml PySem.boot_len (aA (pv 0) aC))) (λ_ _=>rfl)) aH) aH) (aU eK (pv 1) aH)))) cQ) (aJ (cH (aU eK (aU gZ (pv 2) aH) aH))))),?_⟩
 have fF: ∀n:Int,(λ(v:V) H1=>Q v H1) (.int (n % 2147483647 * 31)) H:= λn=>q _
 have zky: ∀n:Int,zgm (n % 2147483647) 31:= λn=>by
  have b1:=Int.emod_nonneg n (show(2147483647:Int)≠0 by decide);have b2:=Int.emod_lt_of_pos n (show(0:Int)<2147483647 by decide);exact .inl ⟨by omega,by omega⟩
 refine⟨_,rfl,_,rfl,a,_,rfl,.inl hS,_,_,rfl,rfl,_,rfl,?_⟩
 rw[hl]
 refine iX (λc=> ?_) (λc=> ?_)
 . have c':i<(ns.length:Int):=of_decide_eq_true c;obtain⟨v,hv⟩:=zkC (ns:=ns) i0 c';exact⟨_,rfl,_,rfl,a,_,_,_,rfl,rfl,hS,hv,q v⟩
 . refine⟨_,rfl,_,_,rfl,rfl,.inl ⟨by omega,by omega⟩,_,_,rfl,rfl,?_⟩;refine⟨_,rfl,a,_,rfl,.inl hS,_,_,rfl,rfl,_,rfl,?_⟩;rw[hl];refine iX (λc2=> ?_) (λc2=> ?_)
   . have c':0<(ns.length:Int):=of_decide_eq_true c2;have b1:=Int.emod_nonneg (i * 7) (show(ns.length:Int)≠0 by omega);have b2:=Int.emod_lt_of_pos (i * 7) c';obtain⟨v,hv⟩:=zkC (ns:=ns) b1 b2;have b3:=Int.emod_nonneg v (show(2147483629:Int)≠0 by decide);have b4:=Int.emod_lt_of_pos v (show(0:Int)<2147483629 by decide);refine⟨_,rfl,_,rfl,_,_,rfl,rfl,.inl ⟨by omega,by omega⟩,_,rfl,a,_,rfl,.inl hS,_,_,rfl,rfl,by rw[hl];exact c',a,_,_,_,rfl,rfl,hS,by rw[hl];exact hv,_,_,rfl,rfl,(show(0:Int)<2147483629 by decide),_,_,rfl,rfl,.inl ⟨by omega,by omega⟩,_,rfl,_,_,rfl,rfl,.inl ⟨by omega,by omega⟩,_,_,rfl,rfl,?_⟩;exact⟨_,rfl,_,_,rfl,rfl,(show(0:Int)<2147483647 by decide),_,_,rfl,rfl,zky _,q _⟩
   . exact⟨_,rfl,_,_,rfl,rfl,(show(0:Int)<2147483647 by decide),_,_,rfl,rfl,zky _,q _⟩
theorem zhu:bS ["_law_script","_law_k","_law_cell_here","_law_own"] ["_law_script","_law_k"] (aE zhw):=(.of rfl rfl rfl rfl (by decide+kernel))
theorem ziL(F:lH K "_law_flow" "_law_flow" zhw f fd)(G:dG P w K mg base fV k g gd ["_law_script","_law_k"] (zgn K))(bG:lJ K gd ["_law_script","_law_k"] [])(kG:W.keepIn K (.ref g)=true)(mG:mg "_law_cell" =some (.ref g)):
 dG P w K mg base fV (k+1) f fd ["_law_script","_law_k"] (tR K):=by
 refine F.ok zhu (λvs H Q E h=> ?_) (λcdv A outer s H vs Q E hr h=> ?_)
 . obtain⟨a,ns,i,rfl,_⟩:=h;rfl
 obtain⟨a,ns,i,rfl,hS,h63,i0,i1,q⟩:=h
 have nd:=zhu.nd
 refine⟨_,aD (aM (i:=2) nd rfl (Or.inl rfl) (gP G hr rfl mG kG bG .nil lK (aA (pv 0) (aA (pv 1) aC)))) (aD (aM (i:=3) nd rfl (Or.inl rfl) aH) (aD (eL (cF zlc (pv 2) (aU zme aH aH) (dI _)) (aJ (aM (i:=3) nd rfl (Or.inl rfl) (pv 2))) cQ) (aJ (cH (bV (aA (pv 3) (aA aH (aA (aU bY (aU gZ (pv 2) aH) (aU eK aH (pv 1))) aC)))))))),?_⟩
 refine⟨_,rfl,_,rfl,a,ns,i,rfl,hS,h63,i0,i1,λr=> ?_⟩
 have b3:=Int.emod_nonneg r (show(2147483629:Int)≠0 by decide)
 have b4:=Int.emod_lt_of_pos r (show(0:Int)<2147483629 by decide)
 refine⟨_,rfl,_,_,rfl,rfl,⟨by decide,by decide,by decide⟩,_,_,rfl,rfl,_,rfl,?_⟩
 have fF: ∀(own:Int) (p:Addr),H p=none->Q (.ref p) (aO H p (.lst [.int own,.int 0,.int (r % 2147483629+40692 * i)])):= λown p hp=>q p _ hp ⟨_,_,_,aF,by omega,by omega⟩
 refine iX (λc=> ?_) (λc=> ?_)
 . refine⟨_,rfl,_,rfl,_,rfl,_,_,rfl,rfl,(show(0:Int)<2147483629 by decide),_,rfl,_,_,rfl,rfl,.inl ⟨by decide,by decide⟩,_,_,rfl,rfl,cL 3,λp hp=>fF _ p hp⟩
 . refine⟨_,rfl,_,rfl,_,_,rfl,rfl,(show(0:Int)<2147483629 by decide),_,rfl,_,_,rfl,rfl,.inl ⟨by decide,by decide⟩,_,_,rfl,rfl,cL 3,λp hp=>fF _ p hp⟩
end
end KK
namespace L2
theorem cA{N fr:List PySem.Str}{idx:List Nat}(h:idx.map (λj=>N[j]?)=fr.map some): ∀(k:Nat) (x:PySem.Str) (j:Nat),fr[k]?=some x->idx[k]?=some j->N[j]?=some x:= λk x j h1 h2=>by
 have e:(idx.map λj=>N[j]?)[k]?=(fr.map some)[k]?:=by rw[h]
 rw[List.getElem?_map,List.getElem?_map,h1,h2]at e
 exact Option.some.inj e
theorem pig{α:Type} [DecidableEq α]: ∀(xs cs:List α),cs.Nodup->xs.length<cs.length-> ∃c,c∈cs/\c∉xs
 | [],[],_,h=>by simp at h
 | [],c::r,_,_=>⟨c,List.mem_cons_self,by simp⟩
 |x::r,cs,hn,h=>by
  have hl:r.length<(cs.erase x).length:=by
   rw[List.length_erase];rw[List.length_cons]at h
   split<;>omega
  obtain⟨c,h1,h2⟩:=pig r (cs.erase x) (hn.erase x) hl;have h3:=hn.mem_erase_iff.mp h1;exact⟨c,h3.2,λz=>(List.mem_cons.mp z).elim h3.1 h2⟩
end L2
namespace KK
open PySem L2 PyProof.Rows
def lQ:Str:= "abcdefghijklmnopqrstuvwxyz"
theorem znI{r:Int}(h0:0<=r)(h1:r<26): ∃c,mL lQ.cps.toList r=some c:=by
 have hl:lQ.cps.toList.length=26:=by decide+kernel
 have hk:r.toNat<lQ.cps.toList.length:=by omega
 have ek:r=((r.toNat:Nat):Int):=by omega
 have q:mL lQ.cps.toList ((r.toNat:Nat):Int)=some (lQ.cps.toList[r.toNat]):=bD (List.getElem?_eq_getElem hk)
 rw[<-ek]at q
 exact⟨_,q⟩
theorem zca:lQ.length<=sizeLine:=by rw[sizeLine_eq];decide+kernel
def AZ(y:Str):Prop:= ∀c∈y.cps.toList,c∈lQ.cps.toList
theorem zaQ{c:Nat}(h:c∈lQ.cps.toList):AZ ⟨#[c]⟩:= λd hd=>by
 have e:d=c:=by simpa using hd
 rw[e];exact h
theorem zbf{x y:Str}(hx:AZ x)(hy:AZ y):AZ (x++y):= λc hc=>by
 have hc':c∈(x.cps++y.cps).toList:=hc
 rw[Array.toList_append]at hc'
 exact(List.mem_append.mp hc').elim (hx c) (hy c)
theorem tK{x:Str}{j:Int}(h0:0<=j)(h1:j<=x.length):(Txt.slice x none (some j)).cps.toList=x.cps.toList.take j.toNat:=by
 have h:=PyProof.Rows.slice_closes_to (x:=x) (j:=j) ⟨h0,h1⟩
 rw[beq_iff_eq.mp h]
 show(x.cps.toList.drop 0).take (j - 0).toNat=_
 rw[List.drop_zero,Int.sub_zero]
theorem uN{x:Str}{i:Int}(h0:0<=i)(h1:i<=x.length):(Txt.slice x (some i) none).cps.toList=x.cps.toList.drop i.toNat:=by
 rw[PyProof.Rows.slice_from_eq (b:=x.length) h0 h1 rfl]
 show(x.cps.toList.drop i.toNat).take _=_
 apply List.take_of_length_le
 rw[List.length_drop]
 show x.length - _<=_
 omega
theorem gX(x:Str):x.length=x.cps.toList.length:=rfl
theorem zpm{x:Str}{j:Int}(hx:AZ x)(h0:0<=j)(h1:j<=x.length):AZ (Txt.slice x none (some j)):= λc hc=>by
 rw[tK h0 h1]at hc
 exact hx c (List.mem_of_mem_take hc)
theorem zcI{x:Str}{j:Int}(hx:AZ x)(h0:0<=j)(h1:j<=x.length):AZ (Txt.slice x (some j) none):= λc hc=>by
 rw[uN h0 h1]at hc
 exact hx c (List.mem_of_mem_drop hc)
theorem wI{x:Str}{j:Int}(h0:0<=j)(h1:j<=x.length):(Txt.slice x none (some j)).length+(Txt.slice x (some j) none).length=x.length:=by
 rw[gX (Txt.slice x none (some j)),gX (Txt.slice x (some j) none),tK h0 h1,uN h0 h1,List.length_take,List.length_drop,<-gX]
 omega
theorem wE(y:Str)(r:List Str):(Txt.join "" (y::r)).cps.toList=y.cps.toList++(Txt.join "" r).cps.toList:=by
 have e: ∀l,Txt.join "" l=Str.join "" l:= λl=>PySem.StrLaws.glued_eq_join _ _
 rw[e,e]
 cases r with
 |nil=>
  show y.cps.toList=y.cps.toList++(Str.join "" []).cps.toList
  have h0:(Str.join "" []).cps.toList=[]:=rfl;rw[h0,List.append_nil]
 |cons z r=>
  show((y.cps++Str.cps "")++(Str.join "" (z::r)).cps).toList=_
  have h0:Str.cps "" = #[]:=rfl;rw[h0];simp
theorem jR: ∀{ys:List Str},(∀y∈ys,y.length=1/\AZ y)->(Txt.join "" ys).length=ys.length/\AZ (Txt.join "" ys)
 | [],_=>⟨rfl,λc hc=>by
  have h0:(Txt.join "" []).cps.toList=[]:=rfl;rw[h0]at hc;cases hc⟩
 |y::r,h=>by
  obtain⟨h1,h2⟩:=jR (ys:=r) λz hz=>h z (List.mem_cons_of_mem _ hz);obtain⟨h3,h4⟩:=h y List.mem_cons_self
  constructor
  . rw[gX,wE,List.length_append,<-gX,<-gX,h1,h3,List.length_cons];omega
  . intro c hc;rw[wE]at hc;exact(List.mem_append.mp hc).elim (h4 c) (h2 c)
def Nm(y:Str):Prop:=0<y.length/\y.length<=8/\AZ y
theorem zhY{r:Int}{c:Nat}(h:mL lQ.cps.toList r=some c):c∈lQ.cps.toList:=let⟨_,_,e,_⟩:=sA h;List.mem_of_getElem? e
def nN(ys:List Str):Prop:= ∀y∈ys,y.length=1/\AZ y
theorem nN.snoc{ys:List Str}(h:nN ys){y:Str}(e:y.length=1/\AZ y):nN (ys++[y]):= λz hz=>(List.mem_append.mp hz).elim (h z) λq=>by rw[List.mem_singleton.mp q];exact e
theorem xC: ∀{ys:List Str},nN ys->(ys.map (·.length)).sum=ys.length
 | [],_=>rfl
 |y::r,h=>by
  have e1:=(h y List.mem_cons_self).1;have e2:=xC (ys:=r) λz hz=>h z (List.mem_cons_of_mem _ hz);rw[List.map_cons,List.sum_cons,e2,e1,List.length_cons];omega
def Bd(ys:List Str):Prop:= ∀y∈ys,Nm y
abbrev znk:TE:=dW zof (aL 2) (gH cO [] E0 (bL (aL 1) (bL (tC (.int 26)) dN)))
theorem bJ{H:Hp}{a D:Addr}(hD:H D=none)(hF:aZ H a):D≠a:= λz=>by
 obtain⟨o,ho⟩:=hF.some
 rw[z,ho]at hD;cases hD
theorem zij{H H1 H4:Hp}{a D:Addr}{o:HO}(hD:H D=none)(x:eR a H H4):eR a H (aO H4 D o):= λb u nb hb=>by
 rw[aG (aI hb hD)];exact x b u nb hb
theorem zcE{n:Nat}{D a:Addr}{Q:VK}{H1:Hp}(hn:n<=8)(hD:H1 D=none)(hF:aZ H1 a)
 (hd: ∀(ys:List Str) (H':Hp),ys.length=n->nN ys->aZ H' a->eR a H1 H'->H' D=some (.lst (ys.map V.str))->Q (.ref D) H'):
 bH (vB 0 n) D (bA 0) cK znk Q [none,some (.ref a),some (.str lQ)] H1:=by
 have nD:=bJ hD hF
 refine cR (λi ys σ H=> ∃(xs:List Str) (v:Option V),ys=xs.map V.str/\xs.length=i/\nN xs/\σ=[v,some (.ref a),some (.str lQ)]/\aZ H a/\eR a H1 H) ?_ (by omega) ?_ ?_ ?_
 . exact⟨[],none,rfl,rfl,(by intro _ z;cases z),rfl,hF.new hD,eR.new hD⟩
 . rintro i ys σ H ⟨xs,v,rfl,rfl,_⟩;rw[aW];exact Nat.le_refl _
 . rintro i ys σ H hi hl ⟨xs,v,rfl,rfl,hs,rfl,f,x⟩;refine⟨_,rfl,_,rfl,a,26,rfl,f,by decide,by decide,λr H4 r0 r1 f4 x4=> ?_⟩;obtain⟨c,hc⟩:=znI r0 r1;have hl4:H4 D=some (.lst (xs.map V.str)):=x4 D _ nD hl;refine⟨lQ,r,c,rfl,rfl,zca,hc,hl4,xs++[⟨#[c]⟩],_,by rw[List.map_append];rfl,by rw[List.length_append];rfl,hs.snoc ⟨rfl,zaQ (zhY hc)⟩,rfl,f4.set (Ne.symm nD),zij (H1:=H1) hD (x.trans x4)⟩
 . rintro ys σ H hl ⟨xs,v,rfl,e,hs,_,f,x⟩;exact hd xs H e hs f x hl
def zgO(ys:List Str):Str:=Txt.join "" ys
theorem e8{ys:List Str}(h:nN ys)(hl:ys.length<=8):(zgO ys).length<=68/\(ys.map (·.length)).sum+ys.length * (Str.length "")<=16777216:=by
 have e:=xC h
 refine⟨?_,?_⟩
 . have q:=(jR h).1;show(Txt.join "" ys).length<=68;omega
 . have e0:Str.length "" =0:=by decide
   rw[e,e0];omega
theorem zcW(g:Str): ∀(l:List Str) (eT:Array Nat),eT.size<=(l.foldl (λeT p=>eT++g.cps++p.cps) eT).size
 | [],eT=>Nat.le_refl _
 |p::r,eT=>by rw[List.foldl_cons];exact Nat.le_trans (by rw[Array.size_append,Array.size_append];omega) (zcW g r _)
theorem zii{ys:List Str}(h:nN ys)(nR:ys≠ []):0<(zgO ys).length:=by
 cases ys with
 |nil=>exact absurd rfl nR
 |cons y r=>
  have e:y.cps.size=1:=(h y List.mem_cons_self).1;have q:=zcW "" r y.cps;rw[e]at q;exact q
theorem eR.free{a p:Addr}{H H1:Hp}(x:eR a H H1)(f:aZ H1 a)(h:H1 p=none):H p=none:=by
 cases e:H p with
 |none=>rfl
 |some o=>rw[x _ _ (bJ h f) e]at h;cases h
def mS:Sp:= λvs H Q _=> ∃(a:Addr) (m:Int),vs=[.ref a,.int m]/\aZ H a/\1<=m/\m<=6/\ ∀(r:Addr) (ys:List Str) (H':Hp),(ys.length:Int)=m->Bd ys->ys.Nodup->r≠a->H r=none->aZ H' a->eR a H H'->H' r=some (.lst (ys.map V.str))->Q (.ref r) H'
abbrev NN:List Str:=["_law_flow_here","_law_many","_law_some","_law_found","_law_k","_law_name","_law_word","_law_at","_law_first","_law_long"]
theorem zcj:bS NN ["_law_flow_here","_law_many"] (aE oF):=(.of rfl rfl rfl rfl (by decide+kernel))
theorem mT(ys:List Str):(ys.map V.str).all nW=true:=by
 rw[List.all_map];exact List.all_eq_true.mpr λ_ _=>rfl
theorem zjW{y:Str}{ys:List Str}(h:V.str y∉ys.map V.str):xJ (.str y) (ys.map V.str)=false:=by
 unfold xJ
 rw[List.any_eq_false]
 intro z hz
 obtain⟨u,hu,rfl⟩:=List.mem_map.mp hz
 intro q
 have q':(u==y)=true:=q
 have e:u=y:=by simpa using q'
 exact h (List.mem_map.mpr ⟨u,hu,by rw[e]⟩)
theorem Bd.snoc{ys:List Str}(h:Bd ys){y:Str}(e:Nm y):Bd (ys++[y]):= λz hz=>(List.mem_append.mp hz).elim (h z) λq=>by rw[List.mem_singleton.mp q];exact e
theorem Bd.set{ys:List Str}(h:Bd ys){y:Str}(e:Nm y)(i:Nat):Bd (ys.set i y):= λz hz=>(List.mem_or_eq_of_mem_set hz).elim (h z) λq=>by rw[q];exact e
theorem oW(x y:Str):(x++y).length=x.length+y.length:=by
 show(x.cps++y.cps).size=x.cps.size+y.cps.size
 simp
theorem lR:(1000:Nat)<=sizeLine:=by rw[sizeLine_eq];decide
theorem zej{ys:List Str}(h:ys.length<26): ∃(j:Nat) (c:Nat),j<26/\lQ.cps[j]?=some c/\xJ (.str ⟨#[c]⟩) (ys.map V.str)=false:=by
 obtain⟨v,h1,h2⟩:=pig (ys.map V.str) (lQ.cps.toList.map λc=>V.str ⟨#[c]⟩) (by decide+kernel) (by rw[aW,aW];exact Nat.lt_of_lt_of_le h (by decide+kernel))
 obtain⟨c,hc,rfl⟩:=List.mem_map.mp h1
 obtain⟨j,hj⟩:=List.getElem?_of_mem hc
 refine⟨j,c,?_,by simpa using hj,zjW h2⟩
 have:=(List.getElem?_eq_some_iff.mp hj).1
 exact Nat.lt_of_lt_of_le this (by decide+kernel)
theorem zju{y:Str}{ys:List Str}:xJ (.str y) (ys.map V.str)=true↔y∈ys:=by
 unfold xJ
 rw[List.any_map,List.any_eq_true]
 constructor
 . rintro⟨x,hx,q⟩;have q':(x==y)=true:=q;have e:x=y:=by simpa using q'
   rw[<-e];exact hx
 . intro h;exact⟨y,h,show(y==y)=true by simp⟩
theorem mF{y:Str}{ys:List Str}:xJ (.str y) (ys.map V.str)=false↔y∉ys:=by
 rw[<-zju];simp
theorem nodup_snoc{α:Type}{ys:List α}{y:α}(h:ys.Nodup)(n:y∉ys):(ys++[y]).Nodup:=by
 rw[List.nodup_append]
 refine⟨h,(by simp),λa ha b hb e=> ?_⟩
 rw[List.mem_singleton.mp hb]at e
 rw[e]at ha
 exact n ha
theorem zaN{us:List Str}{x:Str}(h:us.Nodup)(n:x∉us):(us.set 0 x).Nodup:=by
 cases us with
 |nil=>exact h
 |cons u r=>
  rw[List.set_cons_zero];rw[List.nodup_cons]at h ⊢;exact⟨λz=>n (List.mem_cons_of_mem _ z),h.2⟩
theorem rT{f:Nat->Str}{n:Nat}(h: ∀i j,i<j->j<n->f i≠f j):((List.range n).map f).Nodup:=by
 unfold List.Nodup
 rw[List.pairwise_map]
 refine List.Pairwise.imp_of_mem (R:= λa b=>a<b) (λ{a b} _ hb i8=> ?_) List.pairwise_lt_range
 exact h a b i8 (List.mem_range.mp hb)
def mI(r:Int):Nat:=lQ.cps.toList.getD r.toNat 0
theorem zcZ{r:Int}(h0:0<=r)(h1:r<26):mL lQ.cps.toList r=some (mI r):=by
 have hl:lQ.cps.toList.length=26:=by decide+kernel
 have hk:r.toNat<lQ.cps.toList.length:=by omega
 have ek:r=((r.toNat:Nat):Int):=by omega
 have q:mL lQ.cps.toList ((r.toNat:Nat):Int)=some (mI r):=bD (by unfold mI;rw[List.getD_eq_getElem?_getD,List.getElem?_eq_getElem hk];rfl)
 rw[<-ek]at q
 exact q
theorem zfx{r s:Int}(r0:0<=r)(r1:r<26)(s0:0<=s)(s1:s<26)(e:mI r=mI s):r=s:=by
 have hl:lQ.cps.toList.length=26:=by decide+kernel
 have nd:lQ.cps.toList.Nodup:=by decide+kernel
 have hr:r.toNat<lQ.cps.toList.length:=by omega
 have hs:s.toNat<lQ.cps.toList.length:=by omega
 unfold mI at e
 rw[List.getD_eq_getElem?_getD,List.getD_eq_getElem?_getD,List.getElem?_eq_getElem hr,List.getElem?_eq_getElem hs]at e
 have:=(List.getElem_inj nd).mp e
 omega
theorem zhA{r:Int}(h0:0<=r)(h1:r<26):mI r∈lQ.cps.toList:=zhY (zcZ h0 h1)
def yC(word:Str)(at' first:Int)(k:Nat):Str:=Txt.slice word none (some at')++⟨#[mI ((first+7 * (0+(k:Int))) % 26)]⟩++Txt.slice word (some at') none
theorem znb{word:Str}{at' first:Int}{i j:Nat}(h:i<j)(hj:j<6):yC word at' first i≠yC word at' first j:= λe=>by
 have e1:(yC word at' first i).cps.toList=(yC word at' first j).cps.toList:=by rw[e]
 have q: ∀k:Nat,(yC word at' first k).cps.toList=(Txt.slice word none (some at')).cps.toList++([mI ((first+7 * (0+(k:Int))) % 26)]++(Txt.slice word (some at') none).cps.toList):= λk=>by
  show((Txt.slice word none (some at')).cps++ #[mI ((first+7 * (0+(k:Int))) % 26)]++(Txt.slice word (some at') none).cps).toList=_
  simp
 rw[q i,q j]at e1
 have e2:=List.append_cancel_right (List.append_cancel_left e1)
 have e3:mI ((first+7 * (0+(i:Int))) % 26)=mI ((first+7 * (0+(j:Int))) % 26):=(List.cons.inj e2).1
 have e4:=zfx (by omega) (by omega) (by omega) (by omega) e3
 omega
theorem zmj{word:Str}{at' first:Int}{k:Nat}(hw:AZ word)(hl:word.length<=7)(h0:0<=at')(h1:at'<=word.length):Nm (yC word at' first k):=by
 have l1:=oW (Txt.slice word none (some at')) ⟨#[mI ((first+7 * (0+(k:Int))) % 26)]⟩
 have l2:=oW (Txt.slice word none (some at')++⟨#[mI ((first+7 * (0+(k:Int))) % 26)]⟩) (Txt.slice word (some at') none)
 have l3:Str.length ⟨#[mI ((first+7 * (0+(k:Int))) % 26)]⟩=1:=rfl
 have l4:=wI (x:=word) h0 h1
 have l5:(yC word at' first k).length=(Txt.slice word none (some at')++⟨#[mI ((first+7 * (0+(k:Int))) % 26)]⟩++Txt.slice word (some at') none).length:=rfl
 refine⟨by omega,by omega,zbf (zbf (zpm hw h0 h1) (zaQ (zhA (Int.emod_nonneg _ (by decide)) (Int.emod_lt_of_pos _ (by decide))))) (zcI hw h0 h1)⟩
theorem zdy{word:Str}{at' first:Int}{n:Nat}(hn:n<=6):((List.range n).map (yC word at' first)).Nodup:=rT λi j h hj=>znb h (by omega)
end KK
namespace KKM
theorem nodup_map_on{α β:Type}{f:α->β}{l:List α}(hf: ∀a∈l,∀b∈l,f a=f b->a=b)(h:l.Nodup):(l.map f).Nodup:=by
 unfold List.Nodup at h ⊢
 rw[List.pairwise_map]
 exact List.Pairwise.imp_of_mem (λ{a b} ha hb i8 e=>i8 (hf a ha b hb e)) h
theorem nodup_snoc{α:Type}{ys:List α}{y:α}(h:ys.Nodup)(n:y∉ys):(ys++[y]).Nodup:=by
 rw[List.nodup_append]
 refine⟨h,by simp,λa ha b hb e=> ?_⟩
 rw[List.mem_singleton.mp hb]at e
 rw[e]at ha
 exact n ha
theorem oZ{α:Type}{p:α->Bool}{l:List α}(h:l.Nodup):(l.filter p).Nodup:=h.sublist List.filter_sublist
theorem bO{α:Type}{l:List α}{i:Nat}{x:α}(h:l[i]?=some x):l.take (i+1)=l.take i++[x]:=by
 rw[List.take_add_one,h];rfl
theorem mH{α:Type}{p:α->Bool}{l:List α}{x:α}:(l++[x]).filter p=if p x=true then l.filter p++[x]else l.filter p:=by
 rw[List.filter_append]
 by_cases h:p x=true<;>simp[h]
end KKM
namespace KK
open PySem L2 PyProof.Rows KKM
structure Fn(P:Program)(w:World)(K:W.Frag)(mg:Str->Option Value)(base:Heap)(k:Nat)(x:Str)(ps:List Str)(sp:Sp)(g:Addr)(gd:FuncData):Prop where
 ok:dG P w K mg base fV k g gd ps sp
 bn:lJ K gd ps []
 kp:W.keepIn K (.ref g)=true
 at_:mg x=some (.ref g)
theorem gG{X:Cx}{k:Nat}{x:Str}{ps:List Str}{sp:Sp}{f:Addr}{fd:FuncData}{e:Expr}{es:List Expr}{t:TA}{p pos:Pos}(G:Fn X.prog X.w X.K X.mg X.base k x ps sp f fd)(hr:eV k X.A)(hg:Gl X x)(ha:PA X (e::es) t)(hdb:(x==("__debug__" :Str))=false:=by decide)(he:starEach (e::es) X.env=(false,eval e X.env)::starEach es X.env:=by rfl)(jK:(backTo pos (starEach es X.env)).any (·.1)=false:=by rfl):PE X (.Call (.Name x p) (e::es) [] pos) (gH sp [] E0 t):=
 gP G.ok hr hg G.at_ G.kp G.bn .nil lK ha hdb he jK
structure Bt(mg:Str->Option Value):Prop where
 len_:mg "len" =none
 range_:mg "range" =none
 max_:mg "max" =none
 sorted_:mg "sorted" =none
 tuple_:mg "tuple" =none
 set_:mg "set" =none
 min_:mg "min" =none
 enumerate_:mg "enumerate" =none
 zip_:mg "zip" =none
 repr_:mg "repr" =none
 list_:mg "list" =none
 isinstance_:mg "isinstance" =none
 int_:mg "int" =none
 bool_:mg "bool" =none
 all_:mg "all" =none
def TK(H H':Hp):Prop:= ∀b xs,H b=some (.tup xs)->H' b=some (.tup xs)
theorem TK.trans{H H1 H2:Hp}(x:TK H H1)(y:TK H1 H2):TK H H2:= λb o h=>y b o (x b o h)
theorem TK.lst{H:Hp}{p:Addr}{ys:List V}{o:HO}(h:H p=some (.lst ys)):TK H (aO H p o):= λb xs q=>by rw[aG (dO q h (λz=>nomatch z))];exact q
theorem eR.tk{a:Addr}{H H':Hp}(x:eR a H H')(f:aZ H a):TK H H':= λb xs q=>by
 obtain⟨_,_,_,e,_⟩:=f
 exact x b _ (dO q e (λz=>nomatch z)) q
theorem _root_.L2.Same.tk{H H':Hp}(x:Same H H'):TK H H':= λb xs q=>x b _ q
theorem _root_.L2.Same.ext{a:Addr}{H H':Hp}(x:Same H H'):eR a H H':= λb o _ q=>x b o q
theorem _root_.L2.Same.flow{a:Addr}{H H':Hp}(x:Same H H')(f:aZ H a):aZ H' a:=by
 obtain⟨i,j,k,e,r⟩:=f
 exact⟨i,j,k,x _ _ e,r⟩
theorem aQ{H:Hp}{p:Addr}{o:HO}(h:H p=none):Same H (aO H p o):= λb u q=>by rw[aG (aI q h)];exact q
theorem cT{H:Hp}{p:Addr}(h:H p=none)(o:HO): ∃H',aO H p o=H' ∧ Same H H' ∧ H' p=some o:=⟨_,rfl,aQ h,aF⟩
theorem _root_.L2.Same.at{H H':Hp}{p:Addr}{o:HO}(x:Same H H')(h:H p=none):Same H (aO H' p o):= λb u q=>by rw[aG (aI q h)];exact x b u q
theorem eR.at{a:Addr}{H H':Hp}{p:Addr}{o:HO}(x:eR a H H')(h:H p=none):eR a H (aO H' p o):= λb u n q=>by rw[aG (aI q h)];exact x b u n q
theorem small{n:Nat}(h:n<=1000):n<sizeLine:=gI h
end KK
namespace L2
open PySem PySem.Spec PyProof.Rows
theorem sR{K:W.Frag}{a:Addr}{xs:List V}{g:TG}{tb:TS}{D:fH}{σ:St}{H:Hp}(Pv:Nat->St->Hp->Prop)(h0:Pv 0 σ H)(hl: ∀i σ H,i<=xs.length->Pv i σ H->bB K H a xs)
 (hs: ∀i x σ H T,xs[i]?=some x->H T=none->Pv i σ H->g (.ref T) σ (aO H T (.tup [.int i,x])) λσ2 H2=>tb {D with nx:=Pv (i+1),ct:=Pv (i+1),bk:=D.nx} σ2 H2) (hd: ∀σ H,Pv xs.length σ H->D.nx σ H):
 ∃W:Nat->Nat->St->Hp->Prop,(∃m,W 0 m σ H)/\ ∀i m σ H,W i m σ H->
  ((Ite K a).stop i H/\D.nx σ H)\/((Ite K a).go i H/\ ∃N:St->Hp->Prop,(∀σ' H',N σ' H'-> ∃m',m'<m/\W (i+1) m' σ' H')/\ ∀x H',(Ite K a).yld i H x H'->g x σ H' λσ2 H2=>tb {D with nx:=N,ct:=N,bk:=D.nx} σ2 H2):=by
 refine⟨λi m σ H=>m=xs.length - i/\i<=xs.length/\Pv i σ H,⟨xs.length,by simp,Nat.zero_le _,h0⟩,?_⟩
 rintro i m σ H ⟨rfl,hi,p⟩
 have q:=hl i σ H hi p
 by_cases eY:i<xs.length
 . refine .inr ⟨⟨xs,xs[i],q,by simp[eY]⟩,Pv (i+1),λσ' H' p'=>⟨xs.length - (i+1),by omega,rfl,eY,p'⟩,λx H' y=> ?_⟩;obtain⟨T,hT,rfl,y⟩:=y;obtain⟨x',hx,rfl⟩:=y xs q;exact hs i x' σ H T hx hT p
 . have e:i=xs.length:=by omega
   subst e;exact .inl ⟨⟨xs,q,Nat.le_refl _⟩,hd σ H p⟩
end L2
namespace KK
open PySem L2 PyProof.Rows
section
variable {P:Program}{w:World}{K:W.Frag}{mg:Str->Option Value}{base:Heap}{f C M:Addr}{fd:FuncData}{k:Nat}{st:Stmt}{bK f1 f2:Str}{p1 p2 p3 p4 p5 p6 p7 p8:Pos}
variable {D:Addr}{cd:ClassData}
theorem mU{X:Cx}{j:Nat}{p pos:Pos}:PE X (.UnaryOp .USub (.Constant (.int 1) j p) pos) (λ_ H Q=>Q (.int (-1)) H):= λaB s σ H Q I h=>zsw zoe aH aB s σ H Q I ⟨1,rfl,h⟩
end
end KK
namespace KK
open PySem L2 PyProof.Rows KKM
variable {P:Program}{w:World}{K:W.Frag}{mg:Str->Option Value}{base:Heap}{f g g2 g3:Addr}{fd gd vO gd3:FuncData}{k:Nat}
abbrev uP:Stmt:=top 6
abbrev iM:Stmt:=top 7
abbrev iP:Stmt:=top 10
abbrev jJ:Stmt:=top 11
abbrev cX:Stmt:=zka (top 9) 0
def xD(K:W.Frag):Sp:= λvs H Q _=> ∃(p:Addr) (ys:List Int),vs=[.ref p]/\bB K H p (ys.map V.int)/\ys.length<1000/\(∀zs:List Int,zs.Nodup->(∀x,x∈zs↔x∈ys)->zs.length<64)/\
 ∀(t:Addr) (zs:List Int) (H':Hp),zs.Pairwise (·<=·)->zs.Nodup->(∀x,x∈zs↔x∈ys)->H t=none->Same H H'->H' t=some (.tup (zs.map V.int))->Q (.ref t) H'
theorem wS:bS ["things"] ["things"] (aE uP):=(.of rfl rfl rfl rfl (by decide+kernel))
theorem zdC(F:lH K "rising" "rising" uP f fd)(B:Bt mg):dG P w K mg base fV (k+1) f fd ["things"] (xD K):=by
 refine F.ok wS (λvs H Q E h=> ?_) (λcdv A outer s H vs Q E hr h=> ?_)
 . obtain⟨p,ys,rfl,_⟩:=h;rfl
 have nd:=wS.nd
 refine⟨_,(aJ (cH (dA dJ rfl B.tuple_ (by decide+kernel) (aA (aY (yR rfl) rfl B.sorted_ (by decide+kernel) (aA (dA (zaF rfl) rfl B.set_ (by decide+kernel) (aA (pv 0) aC)) aC)) aC)))),?_⟩
 try dsimp only[dM,Cx.nox,Cx.wish]
 obtain⟨p,ys,rfl,hS,hl,h64,q⟩:=h
 exact⟨_,rfl,p,ys,rfl,hS,hl,λl zs hl hn hm=>⟨l,zs,rfl,aF,h64 zs hn hm,λl2 vP bZ hp hs=>⟨l2,_,rfl,.inl ⟨bB.of aF,λt ht=>q t vP _ hs (hp.nodup_iff.mpr hn) (λx=>(hp.mem_iff).trans (hm x)) ((aQ hl).free ((aQ bZ).free ht)) (((aQ hl).trans (aQ bZ)).trans (aQ ht)) aF⟩⟩⟩⟩
def zbX:Sp:= λvs H Q _=> ∃(p:Addr) (zs:List Str),vs=[.ref p]/\H p=some (.lst (zs.map V.str))/\zs.length<=60/\zs.Nodup/\ ∀H',Same H H'->Q .non H'
theorem k9:bS ["names","seen","name"] ["names"] (aE iM):=(.of rfl rfl rfl rfl (by decide+kernel))
theorem zbT{zs:List Str}(nd:zs.Nodup){i:Nat}{z:Str}(hz:zs[i]?=some z):z∉zs.take i:= λhm=>by
 obtain⟨hi,e⟩:=List.getElem?_eq_some_iff.mp hz
 have h:=List.take_append_drop i zs
 rw[List.drop_eq_getElem_cons hi,e]at h
 rw[<-h]at nd
 exact(List.nodup_append.mp nd).2.2 z hm z List.mem_cons_self rfl
theorem zim(F:lH K "refuse_twice" "refuse_twice" iM f fd)(B:Bt mg):dG P w K mg base fV (k+1) f fd ["names"] zbX:=by
 refine F.ok k9 (λvs H Q E h=> ?_) (λcdv A outer s H vs Q E hr h=> ?_)
 . obtain⟨p,zs,rfl,_⟩:=h;rfl
 obtain⟨p,zs,rfl,hS,vE,znd,q⟩:=h
 have nd:=k9.nd
 refine⟨_,(aD (aM (i:=1) nd rfl (Or.inl rfl) (zbe zbk rfl B.set_ (by decide+kernel))) (aJ (cM PassesOwn.never rfl (cE (pv 0)) (aK (i:=2) nd rfl (Or.inl rfl)) (aD (eL (cF zax (pv 2) (pv 1) rfl) (aJ sU) cQ) (aJ (cV (zoa PySem.F.slot_set_add PySem.F.type_set_add zjH (pv 1) (aA (pv 2) aC)))))))),?_⟩
 try dsimp only[dM,Cx.nox,Cx.wish]
 refine m8 ?_
 intro D0 σ0 U2
 refine⟨rfl,λl hl=> ?_⟩
 refine⟨_,rfl,p,rfl,⟨_,bB.of ((aQ hl) _ _ hS)⟩,eA (xs:=zs.map V.str) (λi σ H'=> ∃v:Option V,σ=[some (.ref p),some (.ref l),v]/\H' l=some (zaY P w l (zs.take i))/\Same H H') ?_ ?_ ?_ ?_⟩
 . exact⟨none,rfl,aF,aQ hl⟩
 . rintro i σ H1 _ ⟨v,_,_,x⟩;exact bB.of (x _ _ hS)
 . rintro i y σ H1 hy ⟨v,rfl,h1,x1⟩;rw[List.getElem?_map]at hy;obtain⟨z,hz,rfl⟩:=Option.map_eq_some_iff.mp hy;have hi:i<zs.length:=(List.getElem?_eq_some_iff.mp hz).1;have hn:=zbT znd hz;refine⟨_,rfl,_,rfl,z,l,_,rfl,rfl,h1,_,rfl,?_⟩;rw[decide_eq_false hn];refine pD ?_;refine⟨_,rfl,⟨l,_,rfl,h1⟩,_,rfl,l,z,_,rfl,rfl,h1,by rw[List.length_take];omega,_,rfl,?_,x1.at hl⟩;rw[aF,if_neg hn,bO hz]
   try rfl
 . rintro σ H1 ⟨v,rfl,_,x1⟩;exact q H1 x1
abbrev kA(H:Hp)(r:Addr)(row:List Int):Prop:=H r=some (.lst (row.map V.int))
structure Tb(H:Hp)(t:Addr)(rs:List Addr)(tb:List (List Int))(m:Nat):Prop where
 at_:H t=some (.lst (rs.map V.ref))
 rows:Paired (kA H) rs tb
 len: ∀r∈tb,r.length=m
 few:tb.length<=60
theorem Tb.same{H H':Hp}{t:Addr}{rs:List Addr}{tb:List (List Int)}{m:Nat}(h:Tb H t rs tb m)(x:Same H H'):Tb H' t rs tb m:=⟨x _ _ h.at_,Paired.mapP h.rows λ_ _ z=>x _ _ z,h.len,h.few⟩
theorem cY{α β:Type}{F:α->β->Prop}{l:List α}{m:List β}(h:Paired F l m): ∀{i:Nat} {a:α},l[i]?=some a-> ∃b,m[i]?=some b/\F a b:=by
 induction h with
 |nil=>intro i a e;cases e
 |cons r _ ih=>
  intro i a e;cases i with
  |zero=>cases e;exact⟨_,rfl,r⟩
  |succ i=>exact ih e
theorem Tb.width{H:Hp}{t:Addr}{rs:List Addr}{tb:List (List Int)}{m:Nat}(h:Tb H t rs tb m):(rs.map V.ref).length=tb.length:=by rw[aW];exact Paired.length h.rows
def zir:Sp:= λvs H Q _=> ∃(t p:Addr) (rs:List Addr) (tb:List (List Int)) (m:Nat) (xs:List Int),vs=[.ref t,.ref p]/\Tb H t rs tb m/\H p=some (.lst (xs.map V.int))/\(∀x∈xs,0<=x/\x<tb.length)/\ ∀H',Same H H'->Q .non H'
theorem zcq:bS ["table","good","state"] ["table","good"] (aE jJ):=(.of rfl rfl rfl rfl (by decide+kernel))
theorem zjh(F:lH K "refuse_good" "refuse_good" jJ f fd)(B:Bt mg):dG P w K mg base fV (k+1) f fd ["table","good"] zir:=by
 refine F.ok zcq (λvs H Q E h=> ?_) (λcdv A outer s H vs Q E hr h=> ?_)
 . obtain⟨t,p,rs,tb,m,xs,rfl,_⟩:=h;rfl
 obtain⟨t,p,rs,tb,m,xs,rfl,hT,hS,hx,q⟩:=h
 have nd:=zcq.nd
 refine⟨_,(aJ (cM PassesOwn.never rfl (cE (pv 1)) (aK (i:=2) nd rfl (Or.inl rfl)) (aJ (eL (zfu (w9 zls o7 aH (pv 2) (aY aV rfl B.len_ PySem.boot_len (aA (pv 0) aC)))) (aJ sU) cQ)))),?_⟩
 try dsimp only[dM,Cx.nox,Cx.wish]
 refine⟨_,rfl,p,rfl,⟨_,bB.of hS⟩,eA (xs:=xs.map V.int) (λi σ H'=> ∃v:Option V,σ=[some (.ref t),some (.ref p),v]/\Same H H') ?_ ?_ ?_ ?_⟩
 . exact⟨none,rfl,Same.refl _⟩
 . rintro i σ H1 _ ⟨v,_,x⟩;exact bB.of (x _ _ hS)
 . rintro i y σ H1 hy ⟨v,rfl,x1⟩;rw[List.getElem?_map]at hy;obtain⟨z,hz,rfl⟩:=Option.map_eq_some_iff.mp hy;obtain⟨h0,h1⟩:=hx z (List.mem_of_getElem? hz);refine⟨_,rfl,_,_,rfl,rfl,true,congrArg V.bl (decide_eq_true h0),vN ?_⟩;refine⟨_,rfl,t,_,rfl,.inl (bB.of (hT.same x1).at_),_,_,rfl,rfl,true,congrArg V.bl (decide_eq_true (by rw[hT.width];exact h1)),pD ?_⟩;exact⟨_,rfl,x1⟩
 . rintro σ H1 ⟨v,rfl,x1⟩;exact q H1 x1
def zdg:Sp:= λvs H Q _=> ∃(p t:Addr) (ls:List Str) (rs:List Addr) (tb:List (List Int)),vs=[.ref p,.ref t]/\H p=some (.lst (ls.map V.str))/\Tb H t rs tb ls.length/\ls.length<=60/\(∀r∈tb,∀x∈r,0<=x/\x<tb.length)/\ ∀H',Same H H'->Q .non H'
theorem zZ:bS ["letters","table","state","row","at","letter"] ["letters","table"] (aE iP):=(.of rfl rfl rfl rfl (by decide+kernel))
theorem zlX{xs:List Int}{j:Nat}{x:Int}(h:xs[j]?=some x):mL (xs.map V.int) (j:Int)=some (.int x):=bD (by rw[List.getElem?_map,h];rfl)
theorem zia(F:lH K "refuse_steps" "refuse_steps" iP f fd)(B:Bt mg):dG P w K mg base fV (k+1) f fd ["letters","table"] zdg:=by
 refine F.ok zZ (λvs H Q E h=> ?_) (λcdv A outer s H vs Q E hr h=> ?_)
 . obtain⟨p,t,ls,rs,tb,rfl,_⟩:=h;rfl
 obtain⟨p,t,ls,rs,tb,rfl,hS,hT,vE,hx,q⟩:=h
 have nd:=zZ.nd
 refine⟨_,(aJ (cM PassesOwn.never rfl (zC rfl B.enumerate_ (aA (pv 1) aC)) (iO rfl (bX (aK (i:=2) nd rfl (Or.inl rfl)) (bX (aK (i:=3) nd rfl (Or.inl rfl)) fO))) (aJ (cM PassesOwn.never rfl (zC rfl B.enumerate_ (aA (pv 0) aC)) (iO rfl (bX (aK (i:=4) nd rfl (Or.inl rfl)) (bX (aK (i:=5) nd rfl (Or.inl rfl)) fO))) (aJ (eL (PW.pt (zrs (cF zlc (pv 4) (aY aV rfl B.len_ PySem.boot_len (aA (pv 3) aC)) (dI _)) (zmf (zfu (w9 zls o7 aH (bF aR (pv 3) (pv 4) (λ_ _=>rfl)) (aY aV rfl B.len_ PySem.boot_len (aA (pv 1) aC))))))) (aJ sU) cQ)))))),?_⟩
 try dsimp only[dM,Cx.nox,Cx.wish]
 refine⟨_,rfl,t,rfl,⟨_,bB.of hT.at_⟩,sR (xs:=rs.map V.ref) (λi σ H'=> ∃v1 v2 v3 v4:Option V,σ=[some (.ref p),some (.ref t),v1,v2,v3,v4]/\Same H H') ?_ ?_ ?_ ?_⟩
 . exact⟨none,none,none,none,rfl,Same.refl _⟩
 . rintro i σ H1 _ ⟨v1,v2,v3,v4,_,x⟩;exact bB.of (x _ _ hT.at_)
 . rintro i y σ H0 T hy hT0 ⟨v1,v2,v3,v4,rfl,x0⟩;rw[List.getElem?_map]at hy;obtain⟨r,kD,rfl⟩:=Option.map_eq_some_iff.mp hy;obtain⟨row,mB,hri⟩:=cY hT.rows kD;have mr:=List.mem_of_getElem? mB;have dL:=hT.len row mr;have x1:Same H (aO H0 T (.tup [.int i,.ref r])):=x0.trans (aQ hT0);have hTt:aO H0 T (.tup [.int i,.ref r]) T=some (.tup [.int i,.ref r]):=aF;generalize aO H0 T (.tup [.int i,.ref r])=H1 at x1 hTt ⊢;refine⟨T,_,rfl,eS.of hTt,rfl,_,_,rfl,_,_,rfl,rfl,?_⟩;refine⟨_,rfl,p,rfl,⟨_,bB.of (x1 _ _ hS)⟩,sR (xs:=ls.map V.str) (λj σ H'=> ∃v3 v4:Option V,σ=[some (.ref p),some (.ref t),some (.int i),some (.ref r),v3,v4]/\Same H H') ?_ ?_ ?_ ?_⟩
   . exact⟨_,_,rfl,x1⟩
   . rintro j σ H2 _ ⟨v3,v4,_,x⟩;exact bB.of (x _ _ hS)
   . rintro j y2 σ H2 T2 hy2 hT2 ⟨v3,v4,rfl,x2⟩;rw[List.getElem?_map]at hy2;obtain⟨l,hl,rfl⟩:=Option.map_eq_some_iff.mp hy2;have hj:j<row.length:=by rw[dL];exact(List.getElem?_eq_some_iff.mp hl).1
     obtain⟨h0,h1⟩:=hx row mr _ (List.getElem_mem hj);have x3:Same H (aO H2 T2 (.tup [.int j,.str l])):=x2.trans (aQ hT2);have zqK:aO H2 T2 (.tup [.int j,.str l]) T2=some (.tup [.int j,.str l]):=aF;generalize aO H2 T2 (.tup [.int j,.str l])=H3 at x3 zqK ⊢;refine⟨T2,_,rfl,eS.of zqK,rfl,_,_,rfl,_,_,rfl,rfl,?_⟩;refine⟨_,rfl,_,rfl,r,_,rfl,.inl (bB.of (x3 _ _ hri)),_,_,rfl,rfl,false,congrArg V.bl (decide_eq_false (by rw[aW];omega)),pD ?_⟩;refine⟨_,rfl,_,rfl,r,_,_,_,rfl,rfl,bB.of (x3 _ _ hri),zlX (List.getElem?_eq_getElem hj),_,_,rfl,rfl,true,congrArg V.bl (decide_eq_true h0),vN ?_⟩;refine⟨_,rfl,t,_,rfl,.inl (bB.of (x3 _ _ hT.at_)),_,_,rfl,rfl,true,congrArg V.bl (decide_eq_true (by rw[hT.width];exact h1)),pD ?_⟩;exact⟨_,_,rfl,x3⟩
   . rintro σ H2 ⟨v3,v4,rfl,x2⟩;exact⟨_,_,_,_,rfl,x2⟩
 . rintro σ H1 ⟨v1,v2,v3,v4,rfl,x1⟩;exact q H1 x1
section
variable {g4:Addr}{xL:FuncData}{C CT CB CG M ft:Addr}{ftd:FuncData}
abbrev nH(H:Hp)(u:Addr)(row:List Int):Prop:=H u=some (.tup (row.map V.int))
def rX(C:Addr)(H:Hp)(x:Addr)(ls:List Str)(tb:List (List Int))(zs:List Int):Prop:= ∃(dx tl tt tg:Addr) (us:List Addr),H x=some (.ins C dx [("letters",.ref tl),("table",.ref tt),("good",.ref tg)])/\tO H tl (ls.map V.str)/\
 H tt=some (.tup (us.map V.ref))/\Paired (nH H) us tb/\H tg=some (.tup (zs.map V.int))
theorem rX.same{H H':Hp}{x:Addr}{ls:List Str}{tb:List (List Int)}{zs:List Int}(h:rX C H x ls tb zs)(y:Same H H'):rX C H' x ls tb zs:=by
 obtain⟨dx,tl,tt,tg,us,h1,h2,h3,h4,h5⟩:=h
 exact⟨dx,tl,tt,tg,us,y _ _ h1,h2.same y,y _ _ h3,Paired.mapP h4 λ_ _ z=>y _ _ z,y _ _ h5⟩
structure MoC(K:W.Frag)(C:Addr):Prop where
 cls:Cls K C
 n1:lD K C "letters"
 n2:lD K C "table"
 n3:lD K C "good"
structure Ris(gd zs:List Int):Prop where
 up:zs.Pairwise (·<=·)
 nd:zs.Nodup
 mem: ∀x,x∈zs↔x∈gd
def zbJ(C:Addr):Sp:= λvs H Q _=> ∃(x p t g dx:Addr) (ls:List Str) (rs:List Addr) (tb:List (List Int)) (gd:List Int),vs=[.ref x,.ref p,.ref t,.ref g]/\H x=some (.ins C dx [])/\H p=some (.lst (ls.map V.str))/\Tb H t rs tb ls.length/\ls.length<=60/\H g=some (.lst (gd.map V.int))/\gd.length<60/\
 ls.Nodup/\(∀r∈tb,∀x∈r,0<=x/\x<tb.length)/\(∀x∈gd,0<=x/\x<tb.length)/\ ∀H' zs,rX C H' x ls tb zs->Ris gd zs->(∀b o,b≠x->H b=some o->H' b=some o)->Q .non H'
theorem zdm:bS ["self","letters","table","good"] ["self","letters","table","good"] (aE cX):=(.of rfl rfl rfl rfl (by decide+kernel))
theorem cZ{α β:Type}{F:α->β->Prop}{l l':List α}{m m':List β}(h:Paired F l m)(h':Paired F l' m'):Paired F (l++l') (m++m'):=by
 induction h with
 |nil=>exact h'
 |cons r _ ih=>exact .cons r ih
theorem zhN{D t:Addr}{Q:VK}{H1:Hp}{rs:List Addr}{tb:List (List Int)}{m:Nat}(hD:H1 D=none)(hT:Tb H1 t rs tb m)(fM: ∀H' us,Same H1 H'->H' D=some (.lst (us.map V.ref))->Paired (nH H') us tb->Q (.ref D) H'):
 bH (zM K t) D (bA 0) cK (j8 (λxs H Q=> ∃p ys,xs=[.ref p]/\((bB K H p ys/\ ∀l,H l=none->Q (.ref l) (aO H l (.tup ys)))\/(eS K H p ys/\Q (.ref p) H))) (bL (aL 0) dN)) Q [none] H1:=by
 have dL:=Paired.length hT.rows
 have hf:=hT.few
 refine dU (xs:=rs.map V.ref) (λi ys σ H=> ∃(v:Option V) (us:List Addr),ys=us.map V.ref/\σ=[v]/\Same H1 H/\Paired (nH H) us (tb.take i)) ?_ (by rw[aW];omega) ?_ ?_ ?_ ?_
 . exact⟨none,[],rfl,rfl,aQ hD,.nil⟩
 . rintro i ys σ H ⟨v,us,rfl,_,_,h⟩;have:=Paired.length h;rw[aW,this,List.length_take];omega
 . rintro i ys σ H ⟨v,us,_,_,x,_⟩;exact bB.of (x _ _ hT.at_)
 . rintro i y ys σ H hy bZ ⟨v,us,rfl,rfl,x,h⟩;rw[List.getElem?_map]at hy;obtain⟨r,kD,rfl⟩:=Option.map_eq_some_iff.mp hy;obtain⟨row,mB,hri⟩:=cY hT.rows kD;refine⟨_,rfl,r,_,rfl,.inl ⟨bB.of (x _ _ hri),λu hu=> ?_⟩⟩;have nu:D≠u:=aI bZ hu;refine⟨by rw[aG nu];exact bZ,_,us++[u],by rw[List.map_append];rfl,rfl,(x.trans (aQ hu)).at hD,?_⟩;rw[bO mB];have k1: ∀b w,nH H b w->nH (aO (aO H u (.tup (row.map V.int))) D (.lst (us.map V.ref++[.ref u]))) b w:= λb w z=>by
    show aO _ D _ b=_
    rw[aG (dO z bZ (λq=>nomatch q)),aG (aI z hu)];exact z
   refine cZ (Paired.mapP h k1) (.cons ?_ .nil);show aO _ D _ u=_;rw[aG (Ne.symm nu)];exact aF
 . rintro ys σ H bZ ⟨v,us,rfl,_,x,h⟩;rw[aW,dL,List.take_length]at h;exact fM H us x bZ h
end
section
variable {g4:Addr}{xL:FuncData}{C CT CB CG M ft:Addr}{ftd:FuncData}
theorem Tb.but{H H':Hp}{t x:Addr}{rs:List Addr}{tb:List (List Int)}{m:Nat}{o:HO}(h:Tb H t rs tb m)(hx:H x=some o)(ho: ∀ys,o≠ .lst ys)(k: ∀b o,b≠x->H b=some o->H' b=some o):Tb H' t rs tb m:=
 ⟨k _ _ (dO h.at_ hx (λz=>ho _ z.symm)) h.at_,Paired.mapP h.rows λ_ _ z=>k _ _ (dO z hx (λq=>ho _ q.symm)) z,h.len,h.few⟩
theorem zmZ{zs ys:List Int}(hn:zs.Nodup)(hm: ∀x,x∈zs↔x∈ys)(hl:ys.length<60):zs.length<64:=by
 rcases Nat.lt_or_ge zs.length 64 with h|h
 . exact h
 . obtain⟨c,h1,h2⟩:=pig ys zs hn (by omega);exact absurd ((hm c).mp h1) h2
theorem zjR(F:lH K "__init__" "Machine.__init__" cX f fd)(B:Bt mg)(S:MoC K C)(uE:Fn P w K mg base k "refuse_twice" ["names"] zbX g gd)(sK:Fn P w K mg base k "refuse_steps" ["letters","table"] zdg g2 vO)
 (vH:Fn P w K mg base k "refuse_good" ["table","good"] zir g3 gd3) (G_rising:Fn P w K mg base k "rising" ["things"] (xD K) g4 xL):dG P w K mg base fV (k+1) f fd ["self","letters","table","good"] (zbJ C):=by
 refine F.ok zdm (λvs H Q E h=> ?_) (λcdv A outer s H vs Q E hr h=> ?_)
 . obtain⟨x,p,t,g,dx,ls,rs,tb,gd,rfl,_⟩:=h;rfl
 obtain⟨x,p,t,g,dx,ls,rs,tb,gdl,rfl,hx,hp,hT,vE,hg,zvp,d1,d2,d3,q⟩:=h
 have nd:=zdm.nd
 refine⟨_,(aD (cV (gG uE hr rfl (aA (pv 1) aC))) (aD (cV (gG sK hr rfl (aA (pv 1) (aA (pv 2) aC)))) (aD (cV (gG vH hr rfl (aA (pv 2) (aA (pv 3) aC)))) (aD (zbA (pv 0) (dA u9 rfl B.tuple_ (by decide+kernel) (aA (pv 1) aC)) rfl) (aD (zbA (pv 0) (dA dJ rfl B.tuple_ (by decide+kernel) (aA (cD (g:=(bA 0)) (tc:=cK) (te:=(j8 (λxs H Q=> ∃p ys,xs=[.ref p]/\((bB K H p ys/\ ∀l,H l=none->Q (.ref l) (aO H l (.tup ys)))\/(eS K H p ys/\Q (.ref p) H))) (bL (aL 0) dN))) (own:=["row"]) (fr:=([]:List Str)) (idx:=[]) rfl (by show aP _ _ _ (aE cX);exact(.of rfl (by decide+kernel))) (cE (pv 2)) (λ_ _ _ _ _=>(aK (i:=0) (by show List.Nodup (["row"]:List Str);decide+kernel) rfl (Or.inl rfl) (Or.inr rfl))) (λ_ _ _ _ _=>cB) (λ_ _ _ _ _=>(dA dJ rfl B.tuple_ (by decide+kernel) (aA (pv 0) aC))) rfl (cA rfl)) aC)) rfl) (aJ (zbA (pv 0) (gG G_rising hr rfl (aA (pv 3) aC)) rfl))))))),?_⟩
 try dsimp only[dM,Cx.nox,Cx.wish]
 refine zgf ?_
 intro D0 σ0 U6 U5 U4 U3 U2
 refine⟨_,rfl,p,ls,rfl,hp,vE,d1,λH1 x1=> ?_⟩
 have hT1:=hT.same x1
 refine⟨_,rfl,_,rfl,p,t,ls,rs,tb,rfl,x1 _ _ hp,hT1,vE,d2,λH2 x2=> ?_⟩
 have x12:=x1.trans x2
 refine⟨_,rfl,_,rfl,t,g,rs,tb,ls.length,gdl,rfl,hT.same x12,x12 _ _ hg,d3,λH3 x3=> ?_⟩
 have x13:=x12.trans x3
 refine⟨_,rfl,p,_,rfl,bB.of (x13 _ _ hp),λtl ob htl hob hoc=> ?_⟩
 have xx4:=x13.trans (aQ (o:= .frz ob (.tup (ls.map V.str))) htl)
 have ktl:aO H3 tl (.frz ob (.tup (ls.map V.str))) tl=some (.frz ob (.tup (ls.map V.str))):=aF
 generalize aO H3 tl (.frz ob (.tup (ls.map V.str)))=H4 at xx4 ktl ⊢
 refine⟨_,rfl,x,C,dx,[],rfl,xx4 _ _ hx,S.cls,S.n1,by decide,?_⟩
 have y5: ∀b o,b≠x->H b=some o->aO H4 x (.ins C dx (gE "letters" (.ref tl) [])) b=some o:= λb o n e=>by rw[aG n];exact xx4 _ _ e
 have ntl:tl≠x:=dO ktl (xx4 _ _ hx) (λz=>nomatch z)
 have k5:aO H4 x (.ins C dx (gE "letters" (.ref tl) [])) tl=some (.frz ob (.tup (ls.map V.str))):=by rw[aG ntl];exact ktl
 have k5x:aO H4 x (.ins C dx (gE "letters" (.ref tl) [])) x=some (.ins C dx [("letters",.ref tl)]):=aF
 generalize aO H4 x (.ins C dx (gE "letters" (.ref tl) []))=H5 at y5 k5 k5x ⊢
 have hT5:Tb H5 t rs tb ls.length:=hT.but hx (λ_ z=>nomatch z) y5
 refine⟨_,rfl,t,rfl,⟨_,bB.of hT5.at_⟩,λD hD=>zhN (K:=K) hD hT5 λH6 us x6 hD6 hU6=>⟨D,_,rfl,.inl ⟨bB.of hD6,λtt htt=> ?_⟩⟩⟩
 have xx7:=x6.trans (aQ (o:= .tup (us.map V.ref)) htt)
 have ktt:aO H6 tt (.tup (us.map V.ref)) tt=some (.tup (us.map V.ref)):=aF
 have hU7:Paired (nH (aO H6 tt (.tup (us.map V.ref)))) us tb:=Paired.mapP hU6 λ_ _ z=>(aQ htt) _ _ z
 generalize aO H6 tt (.tup (us.map V.ref))=H7 at xx7 ktt hU7 ⊢
 refine⟨_,rfl,x,C,dx,_,rfl,xx7 _ _ k5x,S.cls,S.n2,(by show 1<1000;decide),?_⟩
 have nt: ∀{b:Addr} {ys:List V},H7 b=some (.tup ys)->b≠x:= λe=>dO e (xx7 _ _ k5x) (λz=>nomatch z)
 have y8: ∀b o,b≠x->H7 b=some o->aO H7 x (.ins C dx (gE "table" (.ref tt) [("letters",.ref tl)])) b=some o:= λb o n e=>by rw[aG n];exact e
 have k8x:aO H7 x (.ins C dx (gE "table" (.ref tt) [("letters",.ref tl)])) x=some (.ins C dx [("letters",.ref tl),("table",.ref tt)]):=aF
 have k8:aO H7 x (.ins C dx (gE "table" (.ref tt) [("letters",.ref tl)])) tl=some (.frz ob (.tup (ls.map V.str))):=y8 _ _ ntl (xx7 _ _ k5)
 have k8t:aO H7 x (.ins C dx (gE "table" (.ref tt) [("letters",.ref tl)])) tt=some (.tup (us.map V.ref)):=y8 _ _ (nt ktt) ktt
 have hU8:Paired (nH (aO H7 x (.ins C dx (gE "table" (.ref tt) [("letters",.ref tl)])))) us tb:=Paired.mapP hU7 λ_ _ z=>y8 _ _ (nt z) z
 have z8: ∀b o,b≠x->H b=some o->aO H7 x (.ins C dx (gE "table" (.ref tt) [("letters",.ref tl)])) b=some o:= λb o n e=>y8 _ _ n (xx7 _ _ (y5 _ _ n e))
 clear y8
 generalize aO H7 x (.ins C dx (gE "table" (.ref tt) [("letters",.ref tl)]))=H8 at k8x k8 k8t hU8 z8 ⊢
 refine⟨_,rfl,g,gdl,rfl,bB.of (z8 _ _ (dO hg hx (λz=>nomatch z)) hg),by omega,λzs hn hm=>zmZ hn hm zvp,λtg zs H9 up ndz mem htg x9 h9=> ?_⟩
 refine⟨_,rfl,x,C,dx,_,rfl,x9 _ _ k8x,S.cls,S.n3,(by show 2<1000;decide),?_⟩
 have nt9: ∀{b:Addr} {ys:List V},H9 b=some (.tup ys)->b≠x:= λe=>dO e (x9 _ _ k8x) (λz=>nomatch z)
 have y10: ∀b o,b≠x->H9 b=some o->aO H9 x (.ins C dx (gE "good" (.ref tg) [("letters",.ref tl),("table",.ref tt)])) b=some o:= λb o n e=>by rw[aG n];exact e
 refine q _ zs ⟨dx,tl,tt,tg,us,aF,⟨ob,y10 _ _ ntl (x9 _ _ k8),hob,hoc⟩,y10 _ _ (nt9 (x9 _ _ k8t)) (x9 _ _ k8t),Paired.mapP hU8 λ_ _ z=>y10 _ _ (nt9 (x9 _ _ z)) (x9 _ _ z),y10 _ _ (nt9 h9) h9⟩ ⟨up,ndz,mem⟩ λb o n e=>y10 _ _ n (x9 _ _ (z8 _ _ n e))
end
end KK
namespace KKL
structure Mc where
 n:Nat
 m:Nat
 go:Nat->Nat->Nat
 gd:Nat->Bool
structure Mc.Ok(M:Mc):Prop where
 one:0<M.n
 lt: ∀s a,s<M.n->a<M.m->M.go s a<M.n
def Al(M:Mc):Nat->Nat->Nat->Prop
 |0,s,t=>M.gd s=M.gd t
 |k+1,s,t=>Al M k s t/\ ∀a,a<M.m->Al M k (M.go s a) (M.go t a)
theorem Al.down{M:Mc}{k s t:Nat}: ∀{j:Nat},Al M (k+j) s t->Al M k s t
 |0,h=>h
 |_+1,h=>Al.down h.1
theorem Al.stay{M:Mc}(ok:M.Ok){k:Nat}(h: ∀s t,s<M.n->t<M.n->Al M k s t->Al M (k+1) s t): ∀(j s t:Nat),s<M.n->t<M.n->Al M k s t->Al M (k+j) s t
 |0,_,_,_,_,a=>a
 |j+1,s,t,hs,ht,a=>⟨Al.stay ok h j s t hs ht a,λc hc=>Al.stay ok h j _ _ (ok.lt s c hs hc) (ok.lt t c ht hc) ((h s t hs ht a).2 c hc)⟩
def vJ(M:Mc)(s:Nat)(w:List Nat):Nat:=w.foldl M.go s
theorem zbD: ∀(k:Nat) (cs:List Nat),cs.Nodup->(∀c∈cs,c<k)->cs.length<=k
 |0,[],_,_=>Nat.le_refl _
 |0,c::_,_,h=>absurd (h c List.mem_cons_self) (Nat.not_lt_zero _)
 |k+1,cs,nd,h=>by
  have e:cs.length<=(cs.filter λc=>decide (c≠k)).length+1:=by
   clear h
   induction cs with
   |nil=>exact Nat.zero_le _
   |cons c cs ih=>
    rw[List.nodup_cons]at nd
    by_cases z:c=k
    . have f:cs.filter (λc=>decide (c≠k))=cs:=by
       rw[List.filter_eq_self];intro b hb;exact decide_eq_true λq=>nd.1 (by rw[z,<-q];exact hb)
      rw[List.filter_cons,if_neg (by simp[z]),f];exact Nat.le_refl _
    . rw[List.filter_cons,if_pos (by simp[z])];exact Nat.succ_le_succ (ih nd.2)
  have r:=zbD k (cs.filter λc=>decide (c≠k)) (nd.sublist List.filter_sublist) λc hc=>by
   obtain⟨a,b⟩:=List.mem_filter.mp hc;have:=h c a;have:c≠k:=of_decide_eq_true b;omega
  omega
structure Nb(n q:Nat)(c:Nat->Nat):Prop where
 lt: ∀s,s<n->c s<q
 on: ∀v,v<q-> ∃s,s<n/\c s=v
theorem zI{n q:Nat}{c f:Nat->Nat}(hc:Nb n q c)(hf:Nb n q f)(fF: ∀s t,s<n->t<n->f s=f t->c s=c t): ∀s t,s<n->t<n->c s=c t->f s=f t:=by
 intro s t hs ht e
 refine Classical.byContradiction λne=> ?_
 have rep: ∀v,∃r,v<q->r<n/\c r=v:= λv=>by
  by_cases h:v<q
  . obtain⟨r,a,b⟩:=hc.on v h;exact⟨r,λ_=>⟨a,b⟩⟩
  . exact⟨0,λz=>absurd z h⟩
 have⟨r,hr⟩:=Classical.axiomOfChoice rep
 have nd:((List.range q).map λv=>f (r v)).Nodup:=by
  rw[List.Nodup,List.pairwise_map];refine(List.nodup_range (n:=q)).imp_of_mem λ{a b} ha hb i8 z=> ?_;obtain⟨a1,a2⟩:=hr a (List.mem_range.mp ha);obtain⟨b1,b2⟩:=hr b (List.mem_range.mp hb);exact i8 (a2.symm.trans ((fF _ _ a1 b1 z).trans b2))
 have out: ∃x,(x=s\/x=t)/\f x∉(List.range q).map λv=>f (r v):=by
  by_cases h:f s=f (r (c s))
  . refine⟨t,.inr rfl,λhm=> ?_⟩;obtain⟨v,hv,ev⟩:=List.mem_map.mp hm;obtain⟨v1,v2⟩:=hr v (List.mem_range.mp hv);have:v=c t:=v2.symm.trans (fF _ _ v1 ht ev);rw[this,<-e]at ev;exact ne (h.trans ev)
  . refine⟨s,.inl rfl,λhm=> ?_⟩;obtain⟨v,hv,ev⟩:=List.mem_map.mp hm;obtain⟨v1,v2⟩:=hr v (List.mem_range.mp hv);have:v=c s:=v2.symm.trans (fF _ _ v1 hs ev);rw[this]at ev;exact h ev.symm
 obtain⟨x,hx,hn⟩:=out
 have hxn:x<n:=by rcases hx with z|z<;>rw[z]<;>assumption
 have:=zbD q (f x::(List.range q).map λv=>f (r v)) (List.nodup_cons.mpr ⟨hn,nd⟩) λv hv=>by
  rcases List.mem_cons.mp hv with z|z
  . rw[z];exact hf.lt x hxn
  . obtain⟨u,hu,rfl⟩:=List.mem_map.mp z;exact hf.lt _ (hr u (List.mem_range.mp hu)).1
 rw[List.length_cons,aW,List.length_range]at this
 omega
theorem zgH{n q p:Nat}{c f:Nat->Nat}(hc:Nb n q c)(hf:Nb n p f)(fF: ∀s t,s<n->t<n->f s=f t->c s=c t):q<=p:=by
 have rep: ∀v,∃r,v<q->r<n/\c r=v:= λv=>by
  by_cases h:v<q
  . obtain⟨r,a,b⟩:=hc.on v h;exact⟨r,λ_=>⟨a,b⟩⟩
  . exact⟨0,λz=>absurd z h⟩
 have⟨r,hr⟩:=Classical.axiomOfChoice rep
 have nd:((List.range q).map λv=>f (r v)).Nodup:=by
  rw[List.Nodup,List.pairwise_map];refine(List.nodup_range (n:=q)).imp_of_mem λ{a b} ha hb i8 z=> ?_;obtain⟨a1,a2⟩:=hr a (List.mem_range.mp ha);obtain⟨b1,b2⟩:=hr b (List.mem_range.mp hb);exact i8 (a2.symm.trans ((fF _ _ a1 b1 z).trans b2))
 have:=zbD p _ nd λv hv=>by
  obtain⟨u,hu,rfl⟩:=List.mem_map.mp hv;exact hf.lt _ (hr u (List.mem_range.mp hu)).1
 rw[aW,List.length_range]at this
 exact this
def eF{α:Type} [DecidableEq α](eT:List α)(x:α):List α:=if x∈eT then eT else eT++[x]
def fA{α:Type} [DecidableEq α](xs:List α):List α:=xs.foldl eF []
theorem zfs{α:Type} [DecidableEq α](xs:List α)(x:α):fA (xs++[x])=eF (fA xs) x:=by
 unfold fA
 rw[List.foldl_append];rfl
theorem zgr{α:Type} [DecidableEq α]{eT:List α}{x y:α}:y∈eF eT x↔y∈eT\/y=x:=by
 unfold eF
 by_cases h:x∈eT
 . rw[if_pos h];exact⟨.inl,λz=>z.elim id λq=>by rw[q];exact h⟩
 . rw[if_neg h,List.mem_append,List.mem_singleton]
theorem zbs{α:Type} [DecidableEq α]{eT:List α}{x:α}(nd:eT.Nodup):(eF eT x).Nodup:=by
 unfold eF
 by_cases h:x∈eT
 . rw[if_pos h];exact nd
 . rw[if_neg h,List.nodup_append];exact⟨nd,List.nodup_cons.mpr ⟨(by intro z;cases z),List.nodup_nil⟩,λa ha b hb e=>h (by rw[<-List.mem_singleton.mp hb,<-e];exact ha)⟩
theorem iL{α:Type} [DecidableEq α]: ∀(xs eT:List α),eT.Nodup->(xs.foldl eF eT).Nodup/\ ∀y,y∈xs.foldl eF eT↔y∈eT\/y∈xs
 | [],eT,nd=>⟨nd,λy=>⟨.inl,λz=>z.elim id λq=>by cases q⟩⟩
 |x::xs,eT,nd=>by
  obtain⟨a,b⟩:=iL xs (eF eT x) (zbs nd);refine⟨a,λy=>(b y).trans ?_⟩;rw[zgr,List.mem_cons,or_assoc]
theorem zev{α:Type} [DecidableEq α](xs:List α):(fA xs).Nodup:=(iL xs [] List.nodup_nil).1
theorem pA{α:Type} [DecidableEq α]{xs:List α}{y:α}:y∈fA xs↔y∈xs:=((iL xs [] List.nodup_nil).2 y).trans ⟨λz=>z.elim (λq=>by cases q) id,.inr⟩
def gM{α:Type} [DecidableEq α](xs:List α):List Nat:=xs.map λx=>(fA xs).idxOf x
theorem oT{α:Type} [DecidableEq α](xs:List α):(gM xs).length=xs.length:=by unfold gM;rw[aW]
theorem yP{α:Type} [DecidableEq α]{xs:List α}{s:Nat}(h:s<xs.length):(gM xs).getD s 0=(fA xs).idxOf xs[s]:=by
 unfold gM
 rw[List.getD_eq_getElem?_getD,List.getElem?_map,List.getElem?_eq_getElem h];rfl
theorem zaH{α:Type} [DecidableEq α](xs:List α):Nb xs.length (fA xs).length λs=>(gM xs).getD s 0:=by
 refine⟨λs hs=> ?_,λv hv=> ?_⟩
 . show(gM xs).getD s 0<_
   rw[yP hs];exact List.idxOf_lt_length_iff.mpr (pA.mpr (List.getElem_mem hs))
 . obtain⟨s,hs,e⟩:=List.mem_iff_getElem.mp (pA.mp (List.getElem_mem hv));refine⟨s,hs,?_⟩;show(gM xs).getD s 0=v;rw[yP hs,e];exact(zev xs).idxOf_getElem v hv
theorem yD{α:Type} [DecidableEq α]{xs:List α}{s t:Nat}(hs:s<xs.length)(ht:t<xs.length):(gM xs).getD s 0=(gM xs).getD t 0↔xs[s]=xs[t]:=by
 rw[yP hs,yP ht]
 refine⟨λh=> ?_,λh=>by rw[h]⟩
 have a:=List.idxOf_lt_length_iff.mpr (pA.mpr (List.getElem_mem hs))
 have b:=List.idxOf_lt_length_iff.mpr (pA.mpr (List.getElem_mem ht))
 have e1:=List.getElem_idxOf a
 have e2:=List.getElem_idxOf b
 rw[<-e1,<-e2]
 simp only[h]
structure Rp(M:Mc)(k q:Nat)(c:Nat->Nat):Prop where
 nb:Nb M.n q c
 al: ∀s t,s<M.n->t<M.n->(c s=c t↔Al M k s t)
theorem Rp.few{M:Mc}{k q:Nat}{c:Nat->Nat}(h:Rp M k q c):q<=M.n:=by
 have rep: ∀v,∃r,v<q->r<M.n/\c r=v:= λv=>by
  by_cases hv:v<q
  . obtain⟨r,a,b⟩:=h.nb.on v hv;exact⟨r,λ_=>⟨a,b⟩⟩
  . exact⟨0,λz=>absurd z hv⟩
 have⟨r,hr⟩:=Classical.axiomOfChoice rep
 have:=zbD M.n ((List.range q).map r) (by
  rw[List.Nodup,List.pairwise_map];refine(List.nodup_range (n:=q)).imp_of_mem λ{a b} ha hb i8 z=> ?_;exact i8 ((hr a (List.mem_range.mp ha)).2.symm.trans (by rw[z];exact(hr b (List.mem_range.mp hb)).2))) λv hv=>by
  obtain⟨u,hu,rfl⟩:=List.mem_map.mp hv;exact(hr u (List.mem_range.mp hu)).1
 rw[aW,List.length_range]at this
 exact this
theorem Rp.done{M:Mc}(ok:M.Ok){k q:Nat}{c f:Nat->Nat}(hc:Rp M k q c)(hf:Rp M (k+1) q f): ∀(j s t:Nat),s<M.n->t<M.n->Al M k s t->Al M (k+j) s t:=
 Al.stay ok λs t hs ht h=>(hf.al s t hs ht).mp (zI hc.nb hf.nb (λa b ha hb e=>(hc.al a b ha hb).mpr ((hf.al a b ha hb).mp e).1) s t hs ht ((hc.al s t hs ht).mpr h))
theorem Rp.more{M:Mc}{k q p:Nat}{c f:Nat->Nat}(hc:Rp M k q c)(hf:Rp M (k+1) p f):q<=p:=zgH hc.nb hf.nb λa b ha hb e=>(hc.al a b ha hb).mpr ((hf.al a b ha hb).mp e).1
def jF(M:Mc)(c:Nat->Nat):List (Nat×List Nat):=(List.range M.n).map λs=>(c s,(List.range M.m).map λa=>c (M.go s a))
theorem zdi{M:Mc}{c:Nat->Nat}{s:Nat}(h:s<(jF M c).length):(jF M c)[s]=(c s,(List.range M.m).map λa=>c (M.go s a)):=by
 have e:(jF M c)[s]?=some (c s,(List.range M.m).map λa=>c (M.go s a)):=by
  have hs:s<M.n:=by unfold jF at h;rw[aW,List.length_range]at h;exact h
  unfold jF;rw[List.getElem?_map,List.getElem?_range hs];rfl
 exact Option.some.inj ((List.getElem?_eq_getElem h).symm.trans e)
theorem Rp.next{M:Mc}(ok:M.Ok){k q:Nat}{c:Nat->Nat}(hc:Rp M k q c):Rp M (k+1) (fA (jF M c)).length λs=>(gM (jF M c)).getD s 0:=by
 have sl:(jF M c).length=M.n:=by unfold jF;rw[aW,List.length_range]
 refine⟨by have:=zaH (jF M c);rw[sl]at this;exact this,λs t hs ht=> ?_⟩
 have pX:s<(jF M c).length:=by rw[sl];exact hs
 have ht':t<(jF M c).length:=by rw[sl];exact ht
 refine(yD pX ht').trans ?_
 rw[zdi pX,zdi ht']
 constructor
 . intro h;obtain⟨h1,h2⟩:=Prod.mk.inj h;refine⟨(hc.al s t hs ht).mp h1,λa ha=>(hc.al _ _ (ok.lt s a hs ha) (ok.lt t a ht ha)).mp ?_⟩;have:=congrArg (λl=>l[a]?) h2;simp only[List.getElem?_map,List.getElem?_range ha,Option.map_some]at this;exact Option.some.inj this
 . intro h;refine Prod.ext ((hc.al s t hs ht).mpr h.1) (List.map_congr_left λa ha=> ?_);have ha:=List.mem_range.mp ha;exact(hc.al _ _ (ok.lt s a hs ha) (ok.lt t a ht ha)).mpr (h.2 a ha)
theorem Rp.first(M:Mc):Rp M 0 (fA ((List.range M.n).map M.gd)).length λs=>(gM ((List.range M.n).map M.gd)).getD s 0:=by
 have sl:((List.range M.n).map M.gd).length=M.n:=by rw[aW,List.length_range]
 refine⟨by have:=zaH ((List.range M.n).map M.gd);rw[sl]at this;exact this,λs t hs ht=> ?_⟩
 refine(yD (by rw[sl];exact hs) (by rw[sl];exact ht)).trans ?_
 rw[List.getElem_map,List.getElem_map,List.getElem_range,List.getElem_range]
 exact Iff.rfl
theorem Rp.ex{M:Mc}(ok:M.Ok): ∀k,∃q c,Rp M k q c
 |0=>⟨_,_,Rp.first M⟩
 |k+1=>let⟨_,_,h⟩:=Rp.ex ok k;⟨_,_,h.next ok⟩
theorem Rp.one{M:Mc}{k q p:Nat}{c f:Nat->Nat}(hc:Rp M k q c)(hf:Rp M k p f):q=p:=
 Nat.le_antisymm (zgH hc.nb hf.nb λa b ha hb e=>(hc.al a b ha hb).mpr ((hf.al a b ha hb).mp e)) (zgH hf.nb hc.nb λa b ha hb e=>(hf.al a b ha hb).mpr ((hc.al a b ha hb).mp e))
theorem zfm{M:Mc}(ok:M.Ok): ∀k,(∀(j s t:Nat),s<M.n->t<M.n->Al M k s t->Al M (k+j) s t)\/ ∀q c,Rp M k q c->k+1<=q
 |0=> .inr λq c h=>by have:=h.nb.lt 0 ok.one;omega
 |k+1=>by
  have up:(∀(j s t:Nat),s<M.n->t<M.n->Al M k s t->Al M (k+j) s t)-> ∀(j s t:Nat),s<M.n->t<M.n->Al M (k+1) s t->Al M (k+1+j) s t:= λg j s t hs ht a=>by
   have:=g (1+j) s t hs ht a.1;rw[<-Nat.add_assoc]at this;exact this
  rcases zfm ok k with g|g
  . exact .inl (up g)
  . obtain⟨q,c,hc⟩:=Rp.ex ok k;have hf:=hc.next ok;have h1:=g q c hc;have h2:=hc.more hf
    rcases Nat.lt_or_ge q (fA (jF M c)).length with z|z
    . refine .inr λp f h=> ?_;have:=hf.one h;omega
    . have e:(fA (jF M c)).length=q:=Nat.le_antisymm z h2;rw[e]at hf;exact .inl (up (hc.done ok hf))
theorem zoc{M:Mc}(ok:M.Ok){s t:Nat}(hs:s<M.n)(ht:t<M.n)(h:Al M M.n s t)(j:Nat):Al M j s t:=by
 rcases zfm ok M.n with g|g
 . have:=g j s t hs ht h;rw[Nat.add_comm]at this;exact this.down
 . obtain⟨q,c,hc⟩:=Rp.ex ok M.n;have h1:=g q c hc;have h2:=hc.few;omega
end KKL
namespace KKL
def Ax(M N:Mc):Nat->Nat->Nat->Prop
 |0,s,t=>M.gd s=N.gd t
 |k+1,s,t=>Ax M N k s t/\ ∀a,a<M.m->Ax M N k (M.go s a) (N.go t a)
theorem Ax.of{M:Mc}: ∀{k s t:Nat},Al M k s t->Ax M M k s t
 |0,_,_,h=>h
 |_+1,_,_,h=>⟨Ax.of h.1,λa ha=>Ax.of (h.2 a ha)⟩
theorem Ax.al{M:Mc}: ∀{k s t:Nat},Ax M M k s t->Al M k s t
 |0,_,_,h=>h
 |_+1,_,_,h=>⟨Ax.al h.1,λa ha=>Ax.al (h.2 a ha)⟩
theorem Ax.comp{M N O:Mc}(e:M.m=N.m): ∀{k s t u:Nat},Ax M N k s t->Ax N O k t u->Ax M O k s u
 |0,_,_,_,h,g=>Eq.trans h g
 |_+1,_,_,_,h,g=>⟨Ax.comp e h.1 g.1,λa ha=>Ax.comp e (h.2 a ha) (g.2 a (e▸ha))⟩
theorem Ax.symm{M N:Mc}(e:M.m=N.m): ∀{k s t:Nat},Ax M N k s t->Ax N M k t s
 |0,_,_,h=>Eq.symm h
 |_+1,_,_,h=>⟨Ax.symm e h.1,λa ha=>Ax.symm e (h.2 a (e▸ha))⟩
def nX(M N:Mc)(s t:Nat):Prop:= ∀k,Ax M N k s t
theorem nX.comp{M N O:Mc}(e:M.m=N.m){s t u:Nat}(h:nX M N s t)(g:nX N O t u):nX M O s u:= λk=>(h k).comp e (g k)
theorem nX.symm{M N:Mc}(e:M.m=N.m){s t:Nat}(h:nX M N s t):nX N M t s:= λk=>(h k).symm e
theorem nX.go{M N:Mc}{s t a:Nat}(h:nX M N s t)(ha:a<M.m):nX M N (M.go s a) (N.go t a):= λk=>(h (k+1)).2 a ha
theorem zml{M:Mc}(ok:M.Ok){s t:Nat}(hs:s<M.n)(ht:t<M.n)(h:Al M M.n s t):nX M M s t:= λk=>Ax.of (zoc ok hs ht h k)
abbrev eG:=List (Bool×List Nat)
def aS(m:Nat)(cs:eG):Mc:=⟨cs.length,m,λs a=>(cs.getD s (false,[])).2.getD a 0,λs=>(cs.getD s (false,[])).1⟩
theorem ac{m:Nat}{cs ds es:eG}{s t u:Nat}(h:nX (aS m cs) (aS m ds) s t)(g:nX (aS m ds) (aS m es) t u):nX (aS m cs) (aS m es) s u:=nX.comp (show(aS m cs).m=(aS m ds).m from rfl) h g
theorem sy{m:Nat}{cs ds:eG}{s t:Nat}(h:nX (aS m cs) (aS m ds) s t):nX (aS m ds) (aS m cs) t s:=nX.symm (show(aS m cs).m=(aS m ds).m from rfl) h
structure Wc(m:Nat)(cs:eG):Prop where
 one:0<cs.length
 row: ∀r∈cs,r.2.length=m/\ ∀x∈r.2,x<cs.length
theorem getD_at{α:Type}{l:List α}{i:Nat}{x d:α}(h:l[i]?=some x):l.getD i d=x:=by rw[List.getD_eq_getElem?_getD,h];rfl
theorem Wc.ok{m:Nat}{cs:eG}(h:Wc m cs):(aS m cs).Ok:=by
 refine⟨h.one,λs a hs ha=> ?_⟩
 have pX:s<cs.length:=hs
 have e:=List.getElem?_eq_getElem pX
 obtain⟨r1,r2⟩:=h.row _ (List.getElem_mem pX)
 have ha':a<cs[s].2.length:=by rw[r1];exact ha
 show(cs.getD s (false,[])).2.getD a 0<cs.length
 rw[getD_at e,getD_at (List.getElem?_eq_getElem ha')]
 exact r2 _ (List.getElem_mem ha')
structure Fst(M:Mc)(F:Nat->Nat):Prop where
 lt: ∀s,s<M.n->F s<M.n
 al: ∀s,s<M.n->nX M M s (F s)
 eq: ∀s t,s<M.n->t<M.n->nX M M s t->F s=F t
theorem Fst.idem{M:Mc}{F:Nat->Nat}(f:Fst M F){s:Nat}(h:s<M.n):F (F s)=F s:=(f.eq s (F s) h (f.lt s h) (f.al s h)).symm
section
variable {α:Type} [DecidableEq α]
theorem zhe(ts:List α)(x:α):ts<+:eF ts x:=by
 unfold eF
 split
 . exact List.prefix_refl _
 . exact List.prefix_append _ _
theorem tI: ∀(xs ts:List α),ts<+:xs.foldl eF ts
 | [],_=>List.prefix_refl _
 |x::xs,ts=>(zhe ts x).trans (tI xs _)
theorem zcc{ts us:List α}(h:ts<+:us){y:α}(hy:y∈ts):us.idxOf y=ts.idxOf y:=by
 obtain⟨v,rfl⟩:=h
 rw[List.idxOf_append,if_pos hy]
theorem mV{ts us:List α}(h:ts<+:us){i:Nat}{t:α}(e:ts[i]?=some t):us[i]?=some t:=by
 obtain⟨v,rfl⟩:=h
 rw[List.getElem?_append_left (List.getElem?_eq_some_iff.mp e).1];exact e
def zlk(go:α->Nat->α)(m:Nat)(ts:List α)(t:α):List α:=((List.range m).map (go t)).foldl eF ts
def eQ(go:α->Nat->α)(m:Nat)(st:α):Nat->List α
 |0=>[st]
 |k+1=>match (eQ go m st k)[k]? with
  |some t=>zlk go m (eQ go m st k) t
  |none=>eQ go m st k
variable {go:α->Nat->α}{m:Nat}{st:α}
theorem iS{k:Nat}{t:α}(h:(eQ go m st k)[k]?=some t):eQ go m st (k+1)=zlk go m (eQ go m st k) t:=by show(match (eQ go m st k)[k]? with|some t=>_|none=>_)=_;rw[h]
theorem gS{k:Nat}(h:(eQ go m st k)[k]?=none):eQ go m st (k+1)=eQ go m st k:=by show(match (eQ go m st k)[k]? with|some t=>_|none=>_)=_;rw[h]
theorem uH(k:Nat):eQ go m st k<+:eQ go m st (k+1):=by
 cases h:(eQ go m st k)[k]? with
 |some t=>rw[iS h];exact tI _ _
 |none=>rw[gS h];exact List.prefix_refl _
theorem zcN(k:Nat): ∀j,eQ go m st k<+:eQ go m st (k+j)
 |0=>List.prefix_refl _
 |j+1=>(zcN k j).trans (uH _)
theorem fS: ∀k,(eQ go m st k).Nodup
 |0=>List.nodup_cons.mpr ⟨(by intro z;cases z),List.nodup_nil⟩
 |k+1=>by
  cases h:(eQ go m st k)[k]? with
  |some t=>rw[iS h];exact(iL _ _ (fS k)).1
  |none=>rw[gS h];exact fS k
theorem pB{S:α->Prop}(h0:S st)(hs: ∀t a,S t->a<m->S (go t a)): ∀k,∀t∈eQ go m st k,S t
 |0,t,h=>by rw[List.mem_singleton.mp h];exact h0
 |k+1,t,h=>by
  cases e:(eQ go m st k)[k]? with
  |some u=>
   rw[iS e]at h
   rcases((iL _ _ (fS k)).2 t).mp h with z|z
   . exact pB h0 hs k t z
   . obtain⟨a,ha,rfl⟩:=List.mem_map.mp z;exact hs u a (pB h0 hs k u (List.mem_of_getElem? e)) (List.mem_range.mp ha)
  |none=>rw[gS e]at h;exact pB h0 hs k t h
theorem zhk(k:Nat):(eQ go m st k)[0]?=some st:=by
 have:=zcN (go:=go) (m:=m) (st:=st) 0 k
 rw[Nat.zero_add]at this
 exact mV this rfl
theorem oB: ∀{k j:Nat} {t:α} {a:Nat},j<k->(eQ go m st k)[j]?=some t->a<m->go t a∈eQ go m st k
 |0,_,_,_,hj,_,_=>absurd hj (Nat.not_lt_zero _)
 |k+1,j,t,a,hj,e,ha=>by
  have pr:=uH (go:=go) (m:=m) (st:=st) k
  by_cases z:j<k
  . -- it stood there already or the list was shorter
    cases q:(eQ go m st k)[j]? with
    |some t'=>
     have:=mV pr q;rw[e]at this;cases this;exact pr.subset (oB z q ha)
    |none=>
     have q2:(eQ go m st k)[k]?=none:=List.getElem?_eq_none_iff.mpr (Nat.le_trans (List.getElem?_eq_none_iff.mp q) (Nat.le_of_lt z));rw[gS q2,q]at e;cases e
  . have hj':j=k:=by omega
    subst hj';cases q:(eQ go m st j)[j]? with
    |some t'=>
     have:=mV pr q;rw[e]at this;cases this;rw[iS q];exact((iL _ _ (fS j)).2 _).mpr (.inr (List.mem_map.mpr ⟨a,List.mem_range.mpr ha,rfl⟩))
    |none=>rw[gS q,q]at e;cases e
def Fin(go:α->Nat->α)(m:Nat)(st:α)(ts:List α):Prop:= ∃k,ts=eQ go m st k/\ts.length=k
theorem sG{k:Nat}(h:(eQ go m st k).length<=k): ∀j,eQ go m st (k+j)=eQ go m st k
 |0=>rfl
 |j+1=>by
  have e:=sG h j;have:(eQ go m st (k+j))[k+j]?=none:=List.getElem?_eq_none_iff.mpr (by rw[e];omega);exact(gS this).trans e
theorem Fin.uniq{ts us:List α}(h:Fin go m st ts)(g:Fin go m st us):ts=us:=by
 obtain⟨k,rfl,hk⟩:=h
 obtain⟨j,rfl,hj⟩:=g
 rcases Nat.le_total k j with z|z
 . obtain⟨d,rfl⟩:=Nat.exists_eq_add_of_le z;exact(sG (Nat.le_of_eq hk) d).symm
 . obtain⟨d,rfl⟩:=Nat.exists_eq_add_of_le z;exact sG (Nat.le_of_eq hj) d
theorem Fin.nodup{ts:List α}(h:Fin go m st ts):ts.Nodup:=by obtain⟨k,rfl,_⟩:=h;exact fS k
theorem Fin.zero{ts:List α}(h:Fin go m st ts):ts[0]?=some st:=by obtain⟨k,rfl,_⟩:=h;exact zhk k
theorem Fin.closed{ts:List α}(h:Fin go m st ts){t:α}{a:Nat}(ht:t∈ts)(ha:a<m):go t a∈ts:=by
 obtain⟨k,rfl,hk⟩:=h
 obtain⟨j,hj⟩:=List.getElem?_of_mem ht
 exact oB (by have:=(List.getElem?_eq_some_iff.mp hj).1;omega) hj ha
theorem Fin.all{ts:List α}(h:Fin go m st ts){S:α->Prop}(h0:S st)(hs: ∀t a,S t->a<m->S (go t a)): ∀t∈ts,S t:=by obtain⟨k,rfl,_⟩:=h;exact pB h0 hs k
def csT(go:α->Nat->α)(gd:α->Bool)(m:Nat)(ts:List α):eG:=ts.map λt=>(gd t,(List.range m).map λa=>ts.idxOf (go t a))
theorem mZ(gd:α->Bool)(ts:List α):(csT go gd m ts).length=ts.length:=aW _
theorem zbH{gd:α->Bool}{ts:List α}{j:Nat}{t:α}(h:ts[j]?=some t):(csT go gd m ts)[j]?=some (gd t,(List.range m).map λa=>ts.idxOf (go t a)):=by
 unfold csT;rw[List.getElem?_map,h];rfl
theorem Fin.wc{gd:α->Bool}{ts:List α}(h:Fin go m st ts):Wc m (csT go gd m ts):=by
 refine⟨by rw[mZ];exact(List.getElem?_eq_some_iff.mp h.zero).1,λr hr=> ?_⟩
 obtain⟨t,ht,rfl⟩:=List.mem_map.mp hr
 refine⟨by rw[aW,List.length_range],λx hx=> ?_⟩
 obtain⟨a,ha,rfl⟩:=List.mem_map.mp hx
 rw[mZ]
 exact List.idxOf_lt_length_iff.mpr (h.closed ht (List.mem_range.mp ha))
theorem zlI{gd:α->Bool}{ts:List α}{j:Nat}{t:α}(h:ts[j]?=some t):(aS m (csT go gd m ts)).gd j=gd t:=by
 show((csT go gd m ts).getD j (false,[])).1=_
 rw[getD_at (zbH h)]
theorem zgB{gd:α->Bool}{ts:List α}{j a:Nat}{t:α}(h:ts[j]?=some t)(ha:a<m):(aS m (csT go gd m ts)).go j a=ts.idxOf (go t a):=by
 show((csT go gd m ts).getD j (false,[])).2.getD a 0=_
 rw[getD_at (zbH h)]
 exact getD_at (by rw[List.getElem?_map,List.getElem?_range ha];rfl)
end
inductive Pr {α β:Type} (ρ:α->β->Prop):List α->List β->Prop
 |nil:Pr ρ [] []
 |cons {x:α} {y:β} {xs:List α} {ys:List β}:ρ x y->Pr ρ xs ys->Pr ρ (x::xs) (y::ys)
section
variable {α β:Type}{ρ:α->β->Prop}
theorem Pr.len{xs:List α}{ys:List β}(h:Pr ρ xs ys):xs.length=ys.length:=by
 induction h with
 |nil=>rfl
 |cons _ _ ih=>rw[List.length_cons,List.length_cons,ih]
theorem Pr.snoc{xs:List α}{ys:List β}{x:α}{y:β}(h:Pr ρ xs ys)(r:ρ x y):Pr ρ (xs++[x]) (ys++[y]):=by
 induction h with
 |nil=>exact .cons r .nil
 |cons a _ ih=>exact .cons a ih
theorem Pr.at{xs:List α}{ys:List β}(h:Pr ρ xs ys): ∀{i:Nat} {x:α},xs[i]?=some x-> ∃y,ys[i]?=some y/\ρ x y:=by
 induction h with
 |nil=>intro i x e;cases e
 |cons r _ ih=>
  intro i x e;cases i with
  |zero=>cases e;exact⟨_,rfl,r⟩
  |succ i=>exact ih e
variable [DecidableEq α] [DecidableEq β]
theorem Pr.mem(inj: ∀x y x' y',ρ x y->ρ x' y'->(x=x'↔y=y')){xs:List α}{ys:List β}(h:Pr ρ xs ys){x:α}{y:β}(r:ρ x y):x∈xs↔y∈ys:=by
 induction h with
 |nil=>exact⟨λz=>(by cases z),λz=>(by cases z)⟩
 |cons a _ ih=>rw[List.mem_cons,List.mem_cons,inj _ _ _ _ r a,ih]
theorem Pr.idx(inj: ∀x y x' y',ρ x y->ρ x' y'->(x=x'↔y=y')){xs:List α}{ys:List β}(h:Pr ρ xs ys){x:α}{y:β}(r:ρ x y):xs.idxOf x=ys.idxOf y:=by
 induction h with
 |nil=>rfl
 | @cons a b as bs q _ ih=>
  rw[List.idxOf_cons,List.idxOf_cons,ih]
  by_cases e:a=x
  . rw[e,(inj _ _ _ _ q r).mp e,beq_self_eq_true,beq_self_eq_true]
  . have e':b≠y:= λz=>e ((inj _ _ _ _ q r).mpr z);rw[beq_eq_false_iff_ne.mpr e,beq_eq_false_iff_ne.mpr e']
theorem Pr.ord(inj: ∀x y x' y',ρ x y->ρ x' y'->(x=x'↔y=y')){xs:List α}{ys:List β}(h:Pr ρ xs ys){x:α}{y:β}(r:ρ x y):Pr ρ (eF xs x) (eF ys y):=by
 unfold eF
 by_cases e:x∈xs
 . rw[if_pos e,if_pos ((h.mem inj r).mp e)];exact h
 . rw[if_neg e,if_neg (λz=>e ((h.mem inj r).mpr z))];exact h.snoc r
theorem Pr.fold(inj: ∀x y x' y',ρ x y->ρ x' y'->(x=x'↔y=y')){f:Nat->α}{g:Nat->β}: ∀(as:List Nat) {xs:List α} {ys:List β},Pr ρ xs ys->(∀a∈as,ρ (f a) (g a))->Pr ρ ((as.map f).foldl eF xs) ((as.map g).foldl eF ys)
 | [],_,_,h,_=>h
 |a::as,_,_,h,r=>Pr.fold inj as (h.ord inj (r a List.mem_cons_self)) λb hb=>r b (List.mem_cons_of_mem _ hb)
theorem Pr.ts{go:α->Nat->α}{go':β->Nat->β}{m:Nat}{st:α}{st':β}(inj: ∀x y x' y',ρ x y->ρ x' y'->(x=x'↔y=y'))(h0:ρ st st')(hs: ∀t u a,ρ t u->a<m->ρ (go t a) (go' u a)): ∀k,Pr ρ (eQ go m st k) (eQ go' m st' k)
 |0=> .cons h0 .nil
 |k+1=>by
  have h:=Pr.ts inj h0 hs k;cases e:(eQ go m st k)[k]? with
  |some t=>
   obtain⟨u,hu,r⟩:=h.at e;rw[iS e,iS hu];exact h.fold inj _ λa ha=>hs t u a r (List.mem_range.mp ha)
  |none=>
   have e':(eQ go' m st' k)[k]?=none:=List.getElem?_eq_none_iff.mpr (by rw[<-h.len];exact List.getElem?_eq_none_iff.mp e);rw[gS e,gS e'];exact h
theorem Pr.csT{go:α->Nat->α}{go':β->Nat->β}{gd:α->Bool}{gd':β->Bool}{m:Nat}{ts:List α}{us:List β}(inj: ∀x y x' y',ρ x y->ρ x' y'->(x=x'↔y=y'))(hg: ∀t u,ρ t u->gd t=gd' u)(hs: ∀t u a,ρ t u->a<m->ρ (go t a) (go' u a))(h:Pr ρ ts us):csT go gd m ts=csT go' gd' m us:=by
 have iU: ∀{xs:List α} {ys:List β},Pr ρ xs ys->xs.map (λt=>(gd t,(List.range m).map λa=>ts.idxOf (go t a)))=ys.map λu=>(gd' u,(List.range m).map λa=>us.idxOf (go' u a)):=by
  intro xs ys q
  induction q with
  |nil=>rfl
  |cons r _ ih=>
   rw[List.map_cons,List.map_cons,ih,hg _ _ r]
   congr 2
   exact List.map_congr_left λa ha=>h.idx inj (hs _ _ a r (List.mem_range.mp ha))
 exact iU h
theorem Fin.same{go:α->Nat->α}{go':β->Nat->β}{gd:α->Bool}{gd':β->Bool}{m:Nat}{st:α}{st':β}{ts:List α}{us:List β}(inj: ∀x y x' y',ρ x y->ρ x' y'->(x=x'↔y=y'))(h0:ρ st st')(hg: ∀t u,ρ t u->gd t=gd' u)(hs: ∀t u a,ρ t u->a<m->ρ (go t a) (go' u a))(h:Fin go m st ts)(g:Fin go' m st' us):csT go gd m ts=csT go' gd' m us:=by
 obtain⟨k,e,hk⟩:=h
 have p:=Pr.ts inj h0 hs k
 have f:Fin go' m st' (eQ go' m st' k):=⟨k,rfl,by rw[<-p.len,<-e];exact hk⟩
 rw[e,g.uniq f]
 exact p.csT inj hg hs
end
def fB(m:Nat)(cs ls:eG):Prop:= ∃(F:Nat->Nat) (ts:List Nat),Fst (aS m cs) F/\Fin (λs a=>F ((aS m cs).go s a)) m (F 0) ts/\ls=csT (λs a=>F ((aS m cs).go s a)) (aS m cs).gd m ts
theorem fB.wc{m:Nat}{cs ls:eG}(h:fB m cs ls):Wc m ls:=by obtain⟨F,ts,_,g,rfl⟩:=h;exact g.wc
theorem mN{m:Nat}{cs:eG}(w:Wc m cs){F:Nat->Nat}{ts:List Nat}(f:Fst (aS m cs) F)(g:Fin (λs a=>F ((aS m cs).go s a)) m (F 0) ts):(∀t∈ts,t<cs.length/\F t=t)/\ ∀j t,ts[j]?=some t->nX (aS m cs) (aS m (csT (λs a=>F ((aS m cs).go s a)) (aS m cs).gd m ts)) t j:=by
 have ok:=w.ok
 have all: ∀t∈ts,t<cs.length/\F t=t:=g.all (S:= λt=>t<cs.length/\F t=t) ⟨f.lt 0 w.one,f.idem w.one⟩ λt a ht ha=>⟨f.lt _ (ok.lt t a ht.1 ha),f.idem (ok.lt t a ht.1 ha)⟩
 refine⟨all,λj t hj k=> ?_⟩
 induction k generalizing j t with
 |zero=>exact(zlI hj).symm
 |succ k ih=>
  refine⟨ih j t hj,λa ha=> ?_⟩;have lt:=(all t (List.mem_of_getElem? hj)).1;have lt2:=ok.lt t a lt ha;have ha:a<m:=ha;rw[zgB hj ha];have mem:=g.closed (List.mem_of_getElem? hj) ha;have e:=List.getElem?_eq_getElem (List.idxOf_lt_length_iff.mpr mem);rw[List.getElem_idxOf]at e;exact Ax.comp (show(aS m cs).m=(aS m cs).m from rfl) (f.al _ lt2 k) (ih _ _ e)
theorem fB.alike{m:Nat}{cs ls:eG}(w:Wc m cs)(h:fB m cs ls):nX (aS m cs) (aS m ls) 0 0:=by
 obtain⟨F,ts,f,g,rfl⟩:=h
 exact ac (f.al 0 w.one) ((mN w f g).2 0 _ g.zero)
theorem fB.apart{m:Nat}{cs ls:eG}(w:Wc m cs)(h:fB m cs ls){i j:Nat}(hi:i<ls.length)(hj:j<ls.length)(e:nX (aS m ls) (aS m ls) i j):i=j:=by
 obtain⟨F,ts,f,g,rfl⟩:=h
 rw[mZ]at hi hj
 obtain⟨al,lk⟩:=mN w f g
 have ei:=List.getElem?_eq_getElem hi
 have ej:=List.getElem?_eq_getElem hj
 have q:=ac (ac (lk i _ ei) e) (sy (lk j _ ej))
 obtain⟨a1,a2⟩:=al _ (List.getElem_mem hi)
 obtain⟨b1,b2⟩:=al _ (List.getElem_mem hj)
 have:=f.eq _ _ a1 b1 q
 rw[a2,b2]at this
 exact(List.getElem?_inj hi g.nodup).mp (by rw[ei,ej,this])
end KKL
namespace KKL
theorem Al.up{M:Mc}{k j s t:Nat}(h:Al M k s t)(e:j<=k):Al M j s t:=by
 obtain⟨d,rfl⟩:=Nat.exists_eq_add_of_le e
 exact h.down
theorem zlu{α:Type} [DecidableEq α]{M:Mc}{k:Nat}{ks:List α}(hl:ks.length=M.n)(h: ∀(s t:Nat) (hs:s<ks.length) (ht:t<ks.length),ks[s]=ks[t]↔Al M k s t):Rp M k (fA ks).length λs=>(gM ks).getD s 0:=by
 refine⟨by have:=zaH ks;rw[hl]at this;exact this,λs t hs ht=> ?_⟩
 rw[<-hl]at hs ht
 exact(yD hs ht).trans (h s t hs ht)
theorem zjq{M:Mc}(ok:M.Ok){k q p:Nat}{c f:Nat->Nat}(hc:Rp M k q c)(hf:Rp M (k+1) p f)(le:p<=q){s t:Nat}(hs:s<M.n)(ht:t<M.n):c s=c t↔nX M M s t:=by
 have e:p=q:=Nat.le_antisymm le (hc.more hf)
 rw[e]at hf
 refine(hc.al s t hs ht).trans ⟨λh j=>Ax.of ?_,λh=>(h k).al⟩
 rcases Nat.le_total j k with z|z
 . exact h.up z
 . obtain⟨d,rfl⟩:=Nat.exists_eq_add_of_le z;exact hc.done ok hf d s t hs ht h
theorem zmN{M:Mc}{c:List Nat}(hl:c.length=M.n)(h: ∀s t,s<M.n->t<M.n->(c.getD s 0=c.getD t 0↔nX M M s t)):Fst M λs=>c.idxOf (c.getD s 0):=by
 have mem: ∀s,s<M.n->c.getD s 0∈c:= λs hs=>by
  rw[getD_at (List.getElem?_eq_getElem (by rw[hl];exact hs))];exact List.getElem_mem _
 have lt: ∀s,s<M.n->c.idxOf (c.getD s 0)<M.n:= λs hs=>by rw[<-hl];exact List.idxOf_lt_length_iff.mpr (mem s hs)
 refine⟨lt,λs hs=>(h s _ hs (lt s hs)).mp ?_,λs t hs ht e=> ?_⟩
 . have hx:=lt s hs;rw[<-hl]at hx;have e:=List.getElem?_eq_getElem hx;rw[List.getElem_idxOf]at e;rw[getD_at e]
 . rw[(h s t hs ht).mpr e]
theorem zas{n q:Nat}{c:List Nat}(hl:c.length=n)(h:Nb n q λs=>c.getD s 0)(hn:0<n):(∀x∈c,x<=q - 1)/\q - 1∈c/\0<q:=by
 have q0:0<q:=Nat.lt_of_le_of_lt (Nat.zero_le _) (h.lt 0 hn)
 refine⟨λx hx=> ?_,?_,q0⟩
 . obtain⟨i,hi⟩:=List.getElem?_of_mem hx;have:=h.lt i (by rw[<-hl];exact(List.getElem?_eq_some_iff.mp hi).1);have e:c.getD i 0=x:=getD_at hi;omega
 . obtain⟨s,hs,e⟩:=h.on (q - 1) (by omega);rw[<-e];show c.getD s 0∈c;rw[getD_at (List.getElem?_eq_getElem (by rw[hl];exact hs))];exact List.getElem_mem _
structure ztx(m:Nat)(cs ds:eG)(ow:Nat->Nat):Prop where
 zero:ow 0=0
 gd: ∀t,t<ds.length->(aS m ds).gd t=(aS m cs).gd (ow t)
 go: ∀t a,t<ds.length->a<m->ow ((aS m ds).go t a)=(aS m cs).go (ow t) a
end KKL
namespace KK
open PySem L2 PyProof.Rows KKM KKL
variable {P:Program}{w:World}{K:W.Frag}{mg:Str->Option Value}{base:Heap}{f g g2 g3 g4 C CT CB CG M ft:Addr}{fd gd vO gd3 xL ftd:FuncData}{k:Nat}{nG qG nI qI:Str}{paG paI:Arguments}{bG bI:List Stmt}{scG scI:Scope}{psG frG psI frI:List Str}{spG spI:List V->Sp}{md:NM}
abbrev iD:Stmt:=top 13
abbrev kF:Stmt:=top 14
abbrev iB:Stmt:=top 15
abbrev fN:Stmt:=top 16
abbrev dZ:Stmt:=top 17
abbrev fL:Stmt:=top 33
abbrev eW:Stmt:=top 34
abbrev eM:Stmt:=top 35
abbrev rB:Stmt:=top 39
structure zaj(P:Program)(w:World)(K:W.Frag)(mg:Str->Option Value)(base:Heap)(k:Nat)(C:Addr)(g:Addr)(gd:FuncData):Prop where
 mak:Mk K C g
 mo:MoC K C
 ok:dG P w K mg base fV k g gd ["self","letters","table","good"] (zbJ C)
 bn:lJ K gd ["self","letters","table","good"] []
 at_:mg "Machine" =some (.ref C)
def cG(ns:List Nat):List Int:=ns.map λn:Nat=>(n:Int)
theorem bE(ns:List Nat):(cG ns).length=ns.length:=aW ..
theorem tX{ns:List Nat}{i n:Nat}(h:ns[i]?=some n):(cG ns)[i]?=some (n:Int):=by unfold cG;rw[List.getElem?_map,h];rfl
def rQ(cs:eG):List (List Int):=cs.map λc=>cG c.2
def mR(cs:eG)(i:Nat):List Int:=((List.range i).filter λj=>(cs.getD j (false,[])).1).map λj:Nat=>(j:Int)
theorem gQ(cs:eG):(rQ cs).length=cs.length:=aW ..
theorem qD{cs:eG}{i:Nat}{c:Bool×List Nat}(h:cs[i]?=some c):(rQ cs)[i]?=some (cG c.2):=by unfold rQ;rw[List.getElem?_map,h];rfl
theorem zjv(cs:eG)(i:Nat):mR cs (i+1)=if(cs.getD i (false,[])).1=true then mR cs i++[(i:Int)]else mR cs i:=by
 unfold mR
 rw[List.range_succ,List.filter_append,List.map_append,List.filter_cons,List.filter_nil]
 split
 . rfl
 . rw[List.map_nil,List.append_nil]
theorem tH{cs:eG}{n:Nat}{x:Int}:x∈mR cs n↔ ∃j:Nat,j<n/\x=(j:Int)/\(cs.getD j (false,[])).1=true:=by
 unfold mR
 rw[List.mem_map]
 constructor
 . rintro⟨j,hj,rfl⟩;obtain⟨h1,h2⟩:=List.mem_filter.mp hj;exact⟨j,List.mem_range.mp h1,rfl,h2⟩
 . rintro⟨j,h1,rfl,h2⟩;exact⟨j,List.mem_filter.mpr ⟨List.mem_range.mpr h1,h2⟩,rfl⟩
theorem zlr{cs:eG}{i:Nat}: ∀x∈mR cs i,0<=x/\x<i:= λx hx=>by
 obtain⟨j,h1,rfl,_⟩:=tH.mp hx
 omega
theorem zkz(cs:eG)(i:Nat):(mR cs i).Pairwise (·<·):=by
 unfold mR
 exact List.pairwise_map.mpr (List.Pairwise.imp (λ{a b} h=>Int.ofNat_lt.mpr h) (List.Pairwise.filter _ List.pairwise_lt_range))
theorem zE(cs:eG)(i:Nat):(mR cs i).length<=i:=by
 unfold mR
 rw[aW]
 exact Nat.le_trans (List.length_filter_le ..) (by rw[List.length_range];exact Nat.le_refl _)
theorem zD{y:Int}{ys:List Int}:xJ (.int y) (ys.map V.int)=decide (y∈ys):=by
 rw[Bool.eq_iff_iff,decide_eq_true_eq]
 unfold xJ
 rw[List.any_map,List.any_eq_true]
 constructor
 . rintro⟨x,hx,q⟩;have e:x=y:=by simpa using(show(x==y)=true from q)
   rw[<-e];exact hx
 . intro h;exact⟨y,h,show(y==y)=true by simp⟩
theorem jT(ys:List Int):(ys.map V.int).all nW=true:=by
 rw[List.all_map,List.all_eq_true];intro _ _;rfl
theorem zaK{cs:eG}{i n:Nat}(hi:i<n):xJ (.int (i:Int)) ((mR cs n).map V.int)=(cs.getD i (false,[])).1:=by
 rw[zD,Bool.eq_iff_iff,decide_eq_true_iff,tH]
 constructor
 . rintro⟨j,_,e,h⟩;rw[Int.ofNat_inj.mp e];exact h
 . intro h;exact⟨i,hi,rfl,h⟩
theorem ziq: ∀{xs ys:List Int},xs.Pairwise (·<·)->ys.Pairwise (·<·)->(∀z,z∈xs↔z∈ys)->xs=ys
 | [],[],_,_,_=>rfl
 | [],y::ys,_,_,h=>absurd ((h y).mpr List.mem_cons_self) (by intro z;cases z)
 |x::xs,[],_,_,h=>absurd ((h x).mp List.mem_cons_self) (by intro z;cases z)
 |x::xs,y::ys,hx,hy,h=>by
  obtain⟨a1,a2⟩:=List.pairwise_cons.mp hx;obtain⟨b1,b2⟩:=List.pairwise_cons.mp hy;have e:x=y:=by
   rcases List.mem_cons.mp ((h x).mp List.mem_cons_self)with z|z
   . exact z
   . rcases List.mem_cons.mp ((h y).mpr List.mem_cons_self)with u|u
     . exact u.symm
     . have:=b1 x z;have:=a1 y u;omega
  subst e;rw[ziq a2 b2 λz=> ?_]
  constructor
  . intro hz
    rcases List.mem_cons.mp ((h z).mp (List.mem_cons_of_mem _ hz))with u|u
    . have:=a1 z hz;omega
    . exact u
  . intro hz
    rcases List.mem_cons.mp ((h z).mpr (List.mem_cons_of_mem _ hz))with u|u
    . have:=b1 z hz;omega
    . exact u
theorem zmz{gd zs:List Int}(h:Ris gd zs):zs.Pairwise (·<·):=by
 have h1:=h.up
 have h2:=h.nd
 exact List.Pairwise.imp₂ (λa b c d=>by omega) h1 h2
theorem znY{gd zs:List Int}{cs:eG}{n:Nat}(h:Ris gd zs)(e: ∀x,x∈gd↔x∈mR cs n):zs=mR cs n:=ziq (zmz h) (zkz cs n) λz=>(h.mem z).trans (e z)
theorem zhI{m:Nat}{cs:eG}(T:Wc m cs): ∀r∈rQ cs,∀x∈r,0<=x/\x<(rQ cs).length:= λr hr x hx=>by
 obtain⟨c,hc,rfl⟩:=List.mem_map.mp hr
 obtain⟨n,hn,rfl⟩:=List.mem_map.mp hx
 have:=(T.row c hc).2 n hn
 rw[gQ]
 omega
theorem zhn{m:Nat}{cs:eG}(T:Wc m cs): ∀r∈rQ cs,r.length=m:= λr hr=>by
 obtain⟨c,hc,rfl⟩:=List.mem_map.mp hr
 rw[bE,(T.row c hc).1]
abbrev MoS(C:Addr)(H:Hp)(x:Addr)(ls:List Str)(cs:eG):Prop:=rX C H x ls (rQ cs) (mR cs cs.length)
theorem made{Q:Addr->Hp->Prop}{H:Hp}{E:XK}{l D p:Addr}{us:List Addr}{ls:List Str}{cs:eG}{gs:List Int}(hl:H l=some (.lst (ls.map V.str)))(hT:Tb H D us (rQ cs) ls.length)(hp:H p=some (.lst (gs.map V.int)))(gl:gs.length<60)(ge: ∀x,x∈gs↔x∈mR cs cs.length)(nd:ls.Nodup)(W:Wc ls.length cs)(l60:ls.length<=60)
 (fM: ∀(x:Addr) (H':Hp),H x=none->MoS C H' x ls cs->Same H H'->Q x H') (x dx:Addr) (hx:H x=none) (hdx:H dx=none) (ndx:dx≠x):zbJ C [.ref x,.ref l,.ref D,.ref p] (aO (aO H dx (.own x)) x (.ins C dx [])) (λv H2=>v= .non/\Q x H2) E:=by
 have y8:Same H (aO (aO H dx (.own x)) x (.ins C dx [])):=(aQ hdx).trans (aQ (by rw[aG (Ne.symm ndx)];exact hx))
 have h8:aO (aO H dx (.own x)) x (.ins C dx []) x=some (.ins C dx []):=aF
 generalize aO (aO H dx (.own x)) x (.ins C dx [])=H8 at y8 h8 ⊢
 refine⟨x,l,D,p,dx,ls,us,rQ cs,gs,rfl,h8,y8 _ _ hl,hT.same y8,l60,y8 _ _ hp,gl,nd,zhI W,λx hx=>by rw[gQ];exact zlr x ((ge x).mp hx),λH9 zs hM hR x9=>⟨rfl,?_⟩⟩
 rw[znY hR ge]at hM
 exact fM x H9 hx hM λb o e=>x9 b o (aI e hx) (y8 _ _ e)
def fR{α:Type}:Nat->List α->List (α×V)
 |_,[]=>[]
 |i,t::ts=>(t,.int (i:Int))::fR (i+1) ts
theorem fW{α:Type} [DecidableEq α]: ∀(ts:List α) (i:Nat) (k:α),gK (fR i ts) k=if k∈ts then some (.int ((i+ts.idxOf k:Nat):Int))else none
 | [],i,k=>by rw[if_neg (by intro z;cases z)];rfl
 |t::ts,i,k=>by
  unfold fR
  by_cases e:t=k
  . rw[iN e,if_pos (by rw[e];exact List.mem_cons_self),List.idxOf_cons,e,beq_self_eq_true];rfl
  . rw[iQ e,fW ts (i+1) k,List.idxOf_cons,beq_eq_false_iff_ne.mpr e]
    by_cases h:k∈ts
    . rw[if_pos h,if_pos (List.mem_cons_of_mem _ h)]
      congr 2
      simp only[cond_false];omega
    . rw[if_neg h,if_neg (λz=>(List.mem_cons.mp z).elim (λq=>e q.symm) h)]
theorem wN{α:Type}: ∀(ts:List α) (i:Nat) (k:α),fR i (ts++[k])=fR i ts++[(k,.int ((i+ts.length:Nat):Int))]
 | [],i,k=>rfl
 |t::ts,i,k=>by
  rw[List.cons_append];unfold fR;rw[wN ts (i+1) k,List.length_cons,List.cons_append,show i+1+ts.length=i+(ts.length+1) by omega]
theorem jY{α:Type}: ∀(ts:List α) (i:Nat),(fR i ts).length=ts.length
 | [],_=>rfl
 |_::ts,i=>by unfold fR;rw[List.length_cons,List.length_cons,jY ts]
theorem tE{α:Type} [DecidableEq α]{ts:List α}{k:α}(h:k∉ts):hX (fR 0 ts) k (.int (ts.length:Int))=fR 0 (ts++[k]):=by
 rw[zgq _ (by rw[fW,if_neg h]),wN,Nat.zero_add]
theorem fC{α β:Type}{F:α->β->Prop}{l:List α}{m:List β}(h:Paired F l m): ∀{i:Nat} {b:β},m[i]?=some b-> ∃a,l[i]?=some a/\F a b:=by
 induction h with
 |nil=>intro i a e;cases e
 |cons r _ ih=>
  intro i a e;cases i with
  |zero=>cases e;exact⟨_,rfl,r⟩
  |succ i=>exact ih e
def zfq(P:Program)(w:World)(md:NM):Sp:= λvs H Q _=> ∃(p:Addr) (us:List V) (ks:List NK),vs=[.ref p]/\H p=some (.lst us)/\Paired (eZ H) us ks/\(∀x∈ks,x.md=md)/\ks.length<=1000/\ ∀l H',H l=none->Same H H'->H' l=some (.lst ((cG (gM ks)).map V.int))->Q (.ref l) H'
theorem zaT{α:Type} [DecidableEq α]: ∀(xs eT:List α),(xs.foldl eF eT).length<=eT.length+xs.length
 | [],eT=>Nat.le_refl _
 |x::xs,eT=>by
  have h:=zaT xs (eF eT x);have:(eF eT x).length<=eT.length+1:=by unfold eF;split<;>simp
  rw[List.foldl_cons,List.length_cons];omega
theorem oV{ks:List NK}{i:Nat}{x:NK}(h:ks[i]?=some x):fA (ks.take (i+1))=eF (fA (ks.take i)) x:=by rw[bO h,zfs]
theorem zhQ{D p:Addr}{Q:VK}{H1:Hp}{us:List V}{ks:List NK}{md:NM}(hD:H1 D=none)(hp:H1 p=some (.lst us))(hP:Paired (eZ H1) us ks)(hm: ∀x∈ks,x.md=md)(zdh:ks.length<=1000){d:Addr}(hd:ND P w md H1 d (fR 0 (fA ks)))
 (fM: ∀H',Same H1 H'->H' D=some (.lst ((cG (gM ks)).map V.int))->Q (.ref D) H'):bH (zM K p) D (bA 0) cK (xF P w (aL 1) (aL 0)) Q [none,some (.ref d)] H1:=by
 have hl:=Paired.length hP
 refine dU (xs:=us) (λi ys σ H=> ∃v:Option V,ys=((cG (gM ks)).take i).map V.int/\σ=[v,some (.ref d)]/\Same H1 H) ?_ (by omega) ?_ ?_ ?_ ?_
 . exact⟨none,rfl,rfl,aQ hD⟩
 . rintro i ys σ H ⟨v,rfl,_⟩;rw[aW,List.length_take];omega
 . rintro i ys σ H ⟨v,_,_,x⟩;exact bB.of (x _ _ hp)
 . rintro i y ys σ H hy bZ ⟨v,rfl,rfl,x⟩;obtain⟨iU,hk,hN⟩:=cY hP hy;have mem:iU∈ks:=List.mem_of_getElem? hk;have xM:gK (fR 0 (fA ks)) iU=some (.int (((fA ks).idxOf iU:Nat):Int)):=by rw[fW,if_pos (pA.mpr mem),Nat.zero_add]
   refine⟨_,rfl,_,rfl,d,md,_,iU,_,rfl,hd.same x,hN.keep (λb xs e=>x b _ e),hm iU mem,xM,bZ,some y,?_,rfl,x.at hD⟩;have e:(cG (gM ks))[i]?=some (((fA ks).idxOf iU:Nat):Int):=by
    refine tX ?_;unfold gM;rw[List.getElem?_map,hk];rfl
   rw[bO e,List.map_append];rfl
 . rintro ys σ H bZ ⟨v,rfl,_,x⟩;rw[List.take_of_length_le (by rw[bE,oT];omega)]at bZ;exact fM H x bZ
theorem rH:bS ["things","numbers","thing"] ["things"] (aE kF):=(.of rfl rfl rfl rfl (by decide+kernel))
theorem rG(md:NM)(F:lH K "numbered" "numbered" kF f fd)(B:Bt mg):dG P w K mg base fV (k+1) f fd ["things"] (zfq P w md):=by
 refine F.ok rH (λvs H Q E h=> ?_) (λcdv A outer s H vs Q E hr h=> ?_)
 . obtain⟨p,us,ks,rfl,_⟩:=h;rfl
 obtain⟨p,us,ks,rfl,hp,hP,hm,zdh,q⟩:=h
 have nd:=rH.nd
 have dL:=Paired.length hP
 refine⟨_,(aD (aM (i:=1) nd rfl (Or.inr rfl) (zcG md)) (aD (cM PassesOwn.never rfl (cE (pv 0)) (aK (i:=2) nd rfl (Or.inl rfl)) (aJ (eL (zau (yH (iJ hr) (pv 2) (pv 1))) (aJ (yO (iJ hr) (pv 1) (pv 2) (aY vU rfl B.len_ PySem.boot_len (aA (pv 1) aC)) rfl)) cQ))) (aJ (cH (cD (g:=(bA 0)) (tc:=cK) (te:=(xF P w (aL 1) (aL 0))) (own:=["thing"]) (fr:=["numbers"]) (idx:=[1]) rfl (by show aP _ _ _ (aE kF);exact(.of rfl (by decide+kernel))) (cE (pv 0)) (λ_ _ _ _ _=>(aK (i:=0) (by show List.Nodup (["thing","numbers"]:List Str);decide+kernel) rfl (Or.inl rfl) (Or.inr rfl))) (λ_ _ _ _ _=>cB) (λ_ _ _ _ _=>(sF (iJ hr) (pv 1) (pv 0) (λ_ _=>rfl))) rfl (cA rfl)))))),?_⟩
 try dsimp only[dM,Cx.nox,Cx.wish]
 refine sM ?_
 intro D0 σ0 U3 U2
 intro d hd
 have n0:ND P w md (aO H d (ndO P w d md)) d []:=ND.new
 obtain⟨H1,e0,x0,-⟩:=cT hd (ndO P w d md)
 rw[e0]at n0 ⊢
 refine⟨_,rfl,p,rfl,⟨_,bB.of (x0 _ _ hp)⟩,eA (xs:=us) (λi σ H'=> ∃v:Option V,σ=[some (.ref p),some (.ref d),v]/\ND P w md H' d (fR 0 (fA (ks.take i)))/\Same H H') ?_ ?_ ?_ ?_⟩
 . exact⟨none,rfl,n0,x0⟩
 . rintro i σ H2 _ ⟨v,_,_,x⟩;exact bB.of (x _ _ hp)
 . rintro i y σ H2 hy ⟨v,rfl,n2,x2⟩;obtain⟨iU,hk,hN⟩:=cY hP hy;have mem:iU∈ks:=List.mem_of_getElem? hk;have hN2:=hN.keep (H':=H2) (λb xs e=>x2 b _ e);have few:(fA (ks.take i)).length<=1000:=by
    have:=zaT (ks.take i) [];rw[List.length_take,List.length_nil]at this;unfold fA;omega
   refine⟨_,rfl,_,rfl,d,md,_,iU,rfl,n2,hN2,hm iU mem,?_⟩;rw[fW]
   by_cases jW:iU∈fA (ks.take i)
   . rw[if_pos jW];refine⟨_,rfl,pD ?_⟩;refine⟨_,rfl,?_,x2⟩;rw[oV hk,eF,if_pos jW];exact n2
   . rw[if_neg jW];refine⟨_,rfl,vN ?_⟩;refine⟨_,rfl,d,md,_,rfl,n2,_,rfl,_,rfl,d,md,_,iU,rfl,n2,hN2,hm iU mem,by rw[jY];exact small few,λob n3=>⟨_,rfl,?_,x2.at hd⟩⟩;rw[jY,tE jW]at n3;rw[oV hk,eF,if_neg jW];exact n3
 . rintro σ H2 ⟨v,rfl,n2,x2⟩;rw[List.take_of_length_le (by omega)]at n2;refine⟨_,rfl,p,rfl,⟨_,bB.of (x2 _ _ hp)⟩,λD hD=>zhQ (K:=K) hD (x2 _ _ hp) (Paired.mapP hP λ_ _ z=>z.keep λb xs e=>x2 b _ e) hm zdh n2 λH3 x3 h3=>q D H3 (x2.free hD) (x2.trans x3) h3⟩
theorem fI{c:List Nat}{n:Nat}(h:n<c.length):mL ((cG c).map V.int) (n:Int)=some (.int ((c.getD n 0:Nat):Int)):=by
 refine bD ?_
 rw[List.getElem?_map,tX (List.getElem?_eq_getElem h),getD_at (List.getElem?_eq_getElem h)];rfl
theorem zyi{D t c:Addr}{Q:VK}{H1:Hp}{ns cl:List Nat}(hn: ∀n∈ns,n<cl.length)(vE:ns.length<=60)(hD:H1 D=none)(ht:H1 t=some (.tup ((cG ns).map V.int)))(hc:H1 c=some (.lst ((cG cl).map V.int)))
 (fM: ∀H',Same H1 H'->H' D=some (.lst ((cG (ns.map λn=>cl.getD n 0)).map V.int))->Q (.ref D) H'):bH (Itt K t) D (bA 0) cK (dW (eC K) (aL 1) (aL 0)) Q [none,some (.ref c)] H1:=by
 refine mK (xs:=(cG ns).map V.int) (λi ys σ H=> ∃v:Option V,ys=(cG ((ns.take i).map λn=>cl.getD n 0)).map V.int/\σ=[v,some (.ref c)]/\Same H1 H) ?_ (by rw[aW,bE];omega) ?_ ?_ ?_ ?_
 . exact⟨none,rfl,rfl,aQ hD⟩
 . rintro i ys σ H ⟨v,rfl,_⟩;rw[aW,bE,aW,List.length_take];omega
 . rintro i ys σ H ⟨v,_,_,x⟩;exact eS.of (x _ _ ht)
 . rintro i y ys σ H hy bZ ⟨v,rfl,rfl,x⟩;rw[List.getElem?_map]at hy;obtain⟨z,hz,rfl⟩:=Option.map_eq_some_iff.mp hy;unfold cG at hz;rw[List.getElem?_map]at hz;obtain⟨n,hni,rfl⟩:=Option.map_eq_some_iff.mp hz;refine⟨_,rfl,_,rfl,c,_,_,_,rfl,rfl,bB.of (x _ _ hc),fI (hn n (List.mem_of_getElem? hni)),bZ,_,?_,rfl,x.at hD⟩;rw[bO hni];unfold cG;rw[List.map_append,List.map_append,List.map_append];rfl
 . rintro ys σ H bZ ⟨v,rfl,_,x⟩;rw[aW,bE,List.take_length]at bZ;exact fM H x bZ
def pH(cs:eG)(cl:List Nat):List (List Int):=cs.map λr=>cG (r.2.map λn=>cl.getD n 0)
theorem zmT{D tt c:Addr}{Q:VK}{H1:Hp}{us:List Addr}{cs:eG}{cl:List Nat}{m:Nat}(W:Wc m cs)(hl:cl.length=cs.length)(hm:m<=60)(vE:cs.length<=60)(hD:H1 D=none)(ht:H1 tt=some (.tup (us.map V.ref)))(hu:Paired (nH H1) us (rQ cs))(hc:H1 c=some (.lst ((cG cl).map V.int)))
 (fM: ∀H' vs,Same H1 H'->H' D=some (.lst (vs.map V.ref))->Paired (nH H') vs (pH cs cl)->Q (.ref D) H'):
 bH (Itt K tt) D (bA 0) cK (j8 (λxs H Q=> ∃p ys,xs=[.ref p]/\((bB K H p ys/\ ∀l,H l=none->Q (.ref l) (aO H l (.tup ys)))\/(eS K H p ys/\Q (.ref p) H))) (bL (iR (zmF K (aL 0)) 1 [1] (bA 0) cK (dW (eC K) (aL 1) (aL 0))) dN)) Q [none,some (.ref c)] H1:=by
 have lu:=Paired.length hu
 rw[gQ]at lu
 refine mK (xs:=us.map V.ref) (λi ys σ H=> ∃(v:Option V) (vs:List Addr),ys=vs.map V.ref/\σ=[v,some (.ref c)]/\Same H1 H/\Paired (nH H) vs ((pH cs cl).take i)) ?_ (by rw[aW];omega) ?_ ?_ ?_ ?_
 . exact⟨none,[],rfl,rfl,aQ hD,.nil⟩
 . rintro i ys σ H ⟨v,vs,rfl,_,_,h⟩;rw[aW,Paired.length h,List.length_take];omega
 . rintro i ys σ H ⟨v,vs,_,_,x,_⟩;exact eS.of (x _ _ ht)
 . rintro i y ys σ H hy bZ ⟨v,vs,rfl,rfl,x,h⟩;rw[List.getElem?_map]at hy;obtain⟨u,hui,rfl⟩:=Option.map_eq_some_iff.mp hy;obtain⟨row,mB,hr⟩:=cY hu hui;unfold rQ at mB;rw[List.getElem?_map]at mB;obtain⟨r,hri,rfl⟩:=Option.map_eq_some_iff.mp mB;obtain⟨r1,r2⟩:=W.row r (List.mem_of_getElem? hri);refine⟨_,rfl,u,rfl,⟨_,eS.of (x _ _ hr)⟩,λD2 lA=>zyi (K:=K) (λn hn=>by rw[hl];exact r2 n hn) (by omega) lA (x _ _ hr) (x _ _ hc) λH2 x2 h2=> ?_⟩;refine⟨D2,_,rfl,.inl ⟨bB.of h2,λt2 ht2=> ?_⟩⟩;have nD:D≠t2:=aI (x2 _ _ bZ) ht2;refine⟨by rw[aG nD];exact x2 _ _ bZ,_,vs++[t2],by rw[List.map_append];rfl,rfl,((x.trans x2).trans (aQ ht2)).at hD,?_⟩;have e:(pH cs cl)[i]?=some (cG (r.2.map λn=>cl.getD n 0)):=by unfold pH;rw[List.getElem?_map,hri];rfl
   rw[bO e];refine cZ (Paired.mapP h λb w z=> ?_) (.cons ?_ .nil)
   . show aO _ D _ b=_
     rw[aG (dO (x2 _ _ z) (x2 _ _ bZ) (λq=>nomatch q)),aG (aI (x2 _ _ z) ht2)];exact x2 _ _ z
   . show aO _ D _ t2=_
     rw[aG (Ne.symm nD)];exact aF
 . rintro ys σ H bZ ⟨v,vs,rfl,_,x,h⟩;rw[List.take_of_length_le (by unfold pH;rw[aW,aW];omega)]at h;exact fM H vs x bZ h
def fK(cs:eG)(cl:List Nat):List NK:=List.zipWith (λ(a:Nat) r=>NK.n (a:Int) r) cl (pH cs cl)
theorem zex{H:Hp}: ∀{cl:List Nat} {us:List Addr} {rows:List (List Int)} {Ts:List Addr},Paired (nH H) us rows->oE H Ts (((cG cl).map V.int).zip (us.map V.ref))->Paired (eZ H) (Ts.map V.ref) (List.zipWith (λ(a:Nat) r=>NK.n (a:Int) r) cl rows):=by
 intro cl
 induction cl with
 |nil=>
  intro us rows Ts _ h;have h':oE H Ts []:=h;cases h';rw[List.zipWith_nil_left];exact .nil
 |cons a cl ih=>
  intro us rows Ts hu h;cases hu with
  |nil=>
   have h':oE H Ts []:=by rw[List.map_nil,List.zip_nil_right]at h;exact h
   cases h';rw[List.zipWith_nil_right];exact .nil
  | @cons u r us rows hr hu=>
   have h':oE H Ts ((.int (a:Int),.ref u)::((cG cl).map V.int).zip (us.map V.ref)):=h;cases h' with
   | @cons T _ Ts _ q t=>exact .cons ⟨T,u,rfl,q,hr⟩ (ih hu t)
theorem jS{cs:eG}{cl:List Nat}(h:cl.length=cs.length):(fK cs cl).length=cs.length:=by
 unfold fK pH
 rw[List.length_zipWith,aW];omega
def zci(C:Addr):Sp:= λvs H Q _=> ∃(x c:Addr) (ls:List Str) (cs:eG) (cl:List Nat),vs=[.ref x,.ref c]/\MoS C H x ls cs/\Wc ls.length cs/\H c=some (.lst ((cG cl).map V.int))/\cl.length=cs.length/\ls.length<=60/\cs.length<=60/\ ∀l H',H l=none->Same H H'->H' l=some (.lst ((cG (gM (fK cs cl))).map V.int))->Q (.ref l) H'
theorem e9:bS ["machine","classes","steps"] ["machine","classes"] (aE fN):=(.of rfl rfl rfl rfl (by decide+kernel))
theorem zgR(F:lH K "finer_classes" "finer_classes" fN f fd)(B:Bt mg)(S:MoC K C)(G_numbered:Fn P w K mg base k "numbered" ["things"] (zfq P w .n) g gd):dG P w K mg base fV (k+1) f fd ["machine","classes"] (zci C):=by
 refine F.ok e9 (λvs H Q E h=> ?_) (λcdv A outer s H vs Q E hr h=> ?_)
 . obtain⟨x,c,ls,cs,cl,rfl,_⟩:=h;rfl
 obtain⟨x,c,ls,cs,cl,rfl,⟨dx,tl,tt,tg,us,m1,m2,m3,m4,m5⟩,W,hc,hl,l60,rS,q⟩:=h
 have nd:=e9.nd
 refine⟨_,(aD (kN (i:=2) nd rfl (Or.inl rfl) (g:=(bA 0)) (tc:=cK) (te:=(j8 (λxs H Q=> ∃p ys,xs=[.ref p]/\((bB K H p ys/\ ∀l,H l=none->Q (.ref l) (aO H l (.tup ys)))\/(eS K H p ys/\Q (.ref p) H))) (bL (iR (zmF K (aL 0)) 1 [1] (bA 0) cK (dW (eC K) (aL 1) (aL 0))) dN))) (own:=["row"]) (fr:=["classes"]) (idx:=[1]) rfl (by show aP _ _ _ (aE fN);exact(.of rfl (by decide+kernel))) (uL (fG (pv 0) rfl)) (λ_ _ _ _ _=>(aK (i:=0) (by show List.Nodup (["row","classes"]:List Str);decide+kernel) rfl (Or.inl rfl) (Or.inr rfl))) (λ_ _ _ _ _=>cB) (λ_ _ _ _ _=>(dA dJ rfl B.tuple_ (by decide+kernel) (aA (cD (g:=(bA 0)) (tc:=cK) (te:=(dW (eC K) (aL 1) (aL 0))) (own:=["after"]) (fr:=["classes"]) (idx:=[1]) rfl (aP.relab (.of rfl (by decide+kernel))) (uL (pv 0)) (λ_ _ _ _ _=>(aK (i:=0) (by show List.Nodup (["after","classes"]:List Str);decide+kernel) rfl (Or.inl rfl) (Or.inr rfl))) (λ_ _ _ _ _=>cB) (λ_ _ _ _ _=>(bF aR (pv 1) (pv 0) (λ_ _=>rfl))) rfl (cA rfl)) aC))) rfl (cA rfl)) (aJ (cH (gG G_numbered hr rfl (aA (zgC rfl rfl B.zip_ rfl B.list_ (aA (pv 1) (aA (pv 2) aC))) aC))))),?_⟩
 try dsimp only[dM,Cx.nox,Cx.wish]
 refine m8 ?_
 intro D0 σ0 U2
 refine⟨_,rfl,x,C,dx,_,_,rfl,m1,S.cls,S.n2,rfl,tt,rfl,⟨_,eS.of m3⟩,λD hD=>zmT (K:=K) W hl l60 rS hD m3 m4 hc λH2 vs x2 h2 hP=> ?_⟩
 have lv:=Paired.length hP
 unfold pH at lv
 rw[aW]at lv
 refine⟨_,rfl,_,rfl,c,D,_,_,rfl,bB.of (x2 _ _ hc),bB.of h2,by rw[aW,bE,aW];omega,by rw[aW,bE];omega,λl Ts H3 hl3 x3 h3 hT=> ?_⟩
 have hK:Paired (eZ H3) (Ts.map V.ref) (fK cs cl):=zex (Paired.mapP hP λ_ _ z=>x3 _ _ z) hT
 refine⟨l,Ts.map V.ref,fK cs cl,rfl,h3,hK,λy hy=> ?_,by rw[jS hl];omega,λr H4 hr4 x4 h4=>q r H4 (x2.free (x3.free hr4)) ((x2.trans x3).trans x4) h4⟩
 obtain⟨i,hi⟩:=List.getElem?_of_mem hy
 unfold fK at hi
 rw[List.getElem?_zipWith]at hi
 split at hi
 . cases hi;rfl
 . cases hi
theorem yE{xs ys:List Nat}(h:cG xs=cG ys):xs=ys:=by
 unfold cG at h
 exact List.map_inj_right (λa b e=>Int.ofNat_inj.mp e) |>.mp h
theorem wU{m:Nat}{cs:eG}{s a:Nat}{r:Bool×List Nat}(h:cs[s]?=some r):(aS m cs).go s a=r.2.getD a 0:=by
 show(cs.getD s (false,[])).2.getD a 0=_
 rw[KKL.getD_at h]
theorem zcr{m:Nat}{cs:eG}(W:Wc m cs){s:Nat}{r:Bool×List Nat}(h:cs[s]?=some r)(cl:List Nat):(r.2.map λn=>cl.getD n 0)=(List.range m).map λa=>cl.getD ((aS m cs).go s a) 0:=by
 have hl:=(W.row r (List.mem_of_getElem? h)).1
 refine List.ext_getElem? λa=> ?_
 rw[List.getElem?_map,List.getElem?_map]
 rcases Nat.lt_or_ge a m with z|z
 . rw[List.getElem?_range z,List.getElem?_eq_getElem (by omega)];show some _=some (cl.getD _ 0);have ea:r.2[a]?=some r.2[a]:=List.getElem?_eq_getElem (by omega);rw[wU h,KKL.getD_at ea]
 . rw[List.getElem?_eq_none_iff.mpr (by omega),List.getElem?_eq_none_iff.mpr (by rw[List.length_range];exact z)];rfl
theorem zil{m kk q:Nat}{cs:eG}{cl:List Nat}(W:Wc m cs)(hl:cl.length=cs.length)(hc:Rp (aS m cs) kk q λs=>cl.getD s 0):Rp (aS m cs) (kk+1) (fA (fK cs cl)).length λs=>(gM (fK cs cl)).getD s 0:=by
 refine zlu (jS hl) λs t hs ht=> ?_
 have pX:s<cs.length:=by rw[<-jS hl];exact hs
 have ht':t<cs.length:=by rw[<-jS hl];exact ht
 have ok:=W.ok
 have iU: ∀{s:Nat} (hs:s<(fK cs cl).length) (pX:s<cs.length),(fK cs cl)[s]=NK.n ((cl.getD s 0:Nat):Int) (cG ((List.range m).map λa=>cl.getD ((aS m cs).go s a) 0)):= λ{s} hs pX=>by
  have e:(fK cs cl)[s]?=some (NK.n ((cl.getD s 0:Nat):Int) (cG ((List.range m).map λa=>cl.getD ((aS m cs).go s a) 0))):=by
   have e1:cl[s]?=some (cl.getD s 0):=by
    have:=List.getElem?_eq_getElem (l:=cl) (i:=s) (by omega);rw[KKL.getD_at this];exact this
   have e2:=List.getElem?_eq_getElem pX;unfold fK pH;rw[List.getElem?_zipWith,List.getElem?_map,e1,e2,<-zcr W e2];rfl
  exact Option.some.inj ((List.getElem?_eq_getElem hs).symm.trans e)
 rw[iU hs pX,iU ht ht',NK.n.injEq]
 constructor
 . rintro⟨h1,h2⟩;refine⟨(hc.al s t pX ht').mp (Int.ofNat_inj.mp h1),λa ha=>(hc.al _ _ (ok.lt s a pX ha) (ok.lt t a ht' ha)).mp ?_⟩;have ha:a<m:=ha;have:=congrArg (λl=>l[a]?) (yE h2);simp only[List.getElem?_map,List.getElem?_range ha,Option.map_some]at this;exact Option.some.inj this
 . intro h;refine⟨Int.ofNat_inj.mpr ((hc.al s t pX ht').mpr h.1),congrArg cG (List.map_congr_left λa ha=> ?_)⟩;have ha:=List.mem_range.mp ha;exact(hc.al _ _ (ok.lt s a pX ha) (ok.lt t a ht' ha)).mpr (h.2 a ha)
def jO(cs:eG)(n:Nat):List NK:=(List.range n).map λs=>NK.b (cs.getD s (false,[])).1
theorem zie{m:Nat}(cs:eG):Rp (aS m cs) 0 (fA (jO cs cs.length)).length λs=>(gM (jO cs cs.length)).getD s 0:=by
 have hl:(jO cs cs.length).length=cs.length:=by unfold jO;rw[aW,List.length_range]
 refine zlu hl λs t hs ht=> ?_
 have iU: ∀{s:Nat} (hs:s<(jO cs cs.length).length),(jO cs cs.length)[s]=NK.b (cs.getD s (false,[])).1:= λ{s} hs=>by
  have e:(jO cs cs.length)[s]?=some (NK.b (cs.getD s (false,[])).1):=by
   unfold jO;rw[List.getElem?_map,List.getElem?_range (by rw[<-hl];exact hs)];rfl
  exact Option.some.inj ((List.getElem?_eq_getElem hs).symm.trans e)
 rw[iU hs,iU ht,NK.b.injEq]
 exact Iff.rfl
theorem zmP{D x dx tl tt tg:Addr}{Q:VK}{H1:Hp}{cs:eG}(S:MoC K C)(rS:cs.length<=60)(hD:H1 D=none)(m1:H1 x=some (.ins C dx [("letters",.ref tl),("table",.ref tt),("good",.ref tg)]))(m5:H1 tg=some (.tup ((mR cs cs.length).map V.int)))
 (fM: ∀H' us,Same H1 H'->H' D=some (.lst us)->Paired (eZ H') us (jO cs cs.length)->Q (.ref D) H'):bH (vB 0 cs.length) D (bA 0) cK (dW (rIn K false) (aL 0) (zmA K (aL 1) "good")) Q [none,some (.ref x)] H1:=by
 refine cR (λi zs σ H=> ∃v:Option V,zs=(List.range i).map (λs=>V.bl (cs.getD s (false,[])).1)/\σ=[v,some (.ref x)]/\Same H1 H) ?_ (by omega) ?_ ?_ ?_
 . exact⟨none,rfl,rfl,aQ hD⟩
 . rintro i zs σ H ⟨v,rfl,_⟩;rw[aW,List.length_range];exact Nat.le_refl _
 . rintro i zs σ H hi bZ ⟨v,rfl,rfl,x0⟩;rw[Int.zero_add];refine⟨_,rfl,_,rfl,x,C,dx,_,_,rfl,x0 _ _ m1,S.cls,S.n3,rfl,tg,_,rfl,.inr (eS.of (x0 _ _ m5)),rfl,jT _,bZ,_,?_,rfl,x0.at hD⟩;rw[List.range_succ,List.map_append];show _=_++[V.bl _];rw[show(if false=true then !xJ (.int (i:Int)) ((mR cs cs.length).map V.int)else xJ (.int (i:Int)) ((mR cs cs.length).map V.int))=(cs.getD i (false,[])).1 from zaK hi]
 . rintro zs σ H bZ ⟨v,rfl,_,x0⟩;refine fM H _ x0 bZ ?_;unfold jO;generalize List.range cs.length=l
   induction l with
   |nil=>exact .nil
   |cons a l ih=>exact .cons rfl ih
def vW(C:Addr):Sp:= λvs H Q _=> ∃(x:Addr) (ls:List Str) (cs:eG),vs=[.ref x]/\MoS C H x ls cs/\Wc ls.length cs/\ls.length<=60/\cs.length<=60/\
 ∀l H' (cl:List Nat),H l=none->Same H H'->H' l=some (.lst ((cG cl).map V.int))->cl.length=cs.length->(∀s t,s<cs.length->t<cs.length->(cl.getD s 0=cl.getD t 0↔nX (aS ls.length cs) (aS ls.length cs) s t))->Q (.ref l) H'
theorem zhl{n q:Nat}{c:List Nat}(hl:c.length=n)(h:Nb n q λs=>c.getD s 0)(hn:0<n){x:Int}(hx:x∈cG c)(hm: ∀y∈cG c,y<=x):x=((q - 1:Nat):Int):=by
 obtain⟨h1,h2,h3⟩:=zas hl h hn
 obtain⟨z,hz,rfl⟩:=List.mem_map.mp hx
 have a:=h1 z hz
 have b:=hm _ (List.mem_map.mpr ⟨_,h2,rfl⟩)
 omega
theorem uD:bS ["machine","classes","finer"] ["machine"] (aE iB):=(.of rfl rfl rfl rfl (by decide+kernel))
theorem zaO(F:lH K "classes_of" "classes_of" iB f fd)(B:Bt mg)(S:MoC K C)(G_numbered:Fn P w K mg base k "numbered" ["things"] (zfq P w .b) g gd)(G_finer_classes:Fn P w K mg base k "finer_classes" ["machine","classes"] (zci C) g2 vO):dG P w K mg base fV (k+1) f fd ["machine"] (vW C):=by
 refine F.ok uD (λvs H Q E h=> ?_) (λcdv A outer s H vs Q E hr h=> ?_)
 . obtain⟨x,ls,cs,rfl,_⟩:=h;rfl
 obtain⟨x,ls,cs,rfl,hM,W,l60,rS,q⟩:=h
 obtain⟨dx,tl,tt,tg,us,m1,m2,m3,m4,m5⟩:=id hM
 have nd:=uD.nd
 have ok:=W.ok
 have lu:=Paired.length m4
 rw[gQ]at lu
 refine⟨_,(aD (aM (i:=1) nd rfl (Or.inl rfl) (gG G_numbered hr rfl (aA (cD (g:=(bA 0)) (tc:=cK) (te:=(dW (rIn K false) (aL 0) (zmA K (aL 1) "good"))) (own:=["state"]) (fr:=["machine"]) (idx:=[0]) rfl (by show aP _ _ _ (aE iB);exact(.of rfl (by decide+kernel))) (bU rfl B.range_ (aA (aY aV rfl B.len_ PySem.boot_len (aA (fG (pv 0) rfl) aC)) aC)) (λ_ _ _ _ _=>(aK (i:=0) (by show List.Nodup (["state","machine"]:List Str);decide+kernel) rfl (Or.inl rfl) (Or.inr rfl))) (λ_ _ _ _ _=>cB) (λ_ _ _ _ _=>(pM jX (pv 0) (fG (pv 1) rfl) rfl)) rfl (cA rfl)) aC))) (aD (aM (i:=2) nd rfl (Or.inl rfl) (gG G_finer_classes hr rfl (aA (pv 0) (aA (pv 1) aC)))) (aD (tJ PassesOwn.never (cF j4 (aY (vY rfl) rfl B.max_ (by decide+kernel) (aA (pv 2) aC)) (aY (vY rfl) rfl B.max_ (by decide+kernel) (aA (pv 1) aC)) (dI _)) (aD (aM (i:=1) nd rfl (Or.inl rfl) (pv 2)) (aJ (aM (i:=2) nd rfl (Or.inl rfl) (gG G_finer_classes hr rfl (aA (pv 0) (aA (pv 1) aC))))))) (aJ (cH (pv 1)))))),?_⟩
 try dsimp only[dM,Cx.nox,Cx.wish]
 refine zfo ?_
 intro D0 σ0 U4 U3 U2
 refine⟨_,rfl,x,C,dx,_,_,rfl,m1,S.cls,S.n2,rfl,tt,_,rfl,.inr (eS.of m3),_,rfl,by rw[aW];omega,by rw[aW];omega,λD hD=> ?_⟩
 rw[show(((us.map V.ref).length:Nat):Int).toNat=cs.length by rw[aW];omega]
 refine zmP (K:=K) S rS hD m1 m5 λH1 vs x1 h1 hP=> ?_
 have lk:(jO cs cs.length).length=cs.length:=by unfold jO;rw[aW,List.length_range]
 refine⟨D,vs,_,rfl,h1,hP,λy hy=> ?_,by omega,λc0 H2 hc0 x2 h2=> ?_⟩
 . unfold jO at hy;obtain⟨_,_,rfl⟩:=List.mem_map.mp hy;rfl
 have y2:=x1.trans x2
 have zvm:=x1.free hc0
 refine⟨_,rfl,_,rfl,x,c0,ls,cs,_,rfl,hM.same y2,W,h2,by rw[oT];exact lk,l60,rS,λf0 H3 hf0 x3 h3=> ?_⟩
 have y3:=y2.trans x3
 refine⟨λmm σ H'=> ∃(kk qq:Nat) (c f:Addr) (cl:List Nat),mm=cs.length - qq/\σ=[some (.ref x),some (.ref c),some (.ref f)]/\Same H H'/\(H c=none/\H f=none)/\H' c=some (.lst ((cG cl).map V.int))/\cl.length=cs.length/\Rp (aS ls.length cs) kk qq (λs=>cl.getD s 0)/\H' f=some (.lst ((cG (gM (fK cs cl))).map V.int)),⟨_,0,_,c0,f0,_,rfl,rfl,y3,⟨zvm,y2.free hf0⟩,x3 _ _ h2,by rw[oT];exact lk,zie cs,h3⟩,?_⟩
 rintro mm σ H4 ⟨kk,qq,c,f,cl,rfl,rfl,y4,⟨hc,hf⟩,h4,ll,R4,h5⟩
 have R5:=zil W ll R4
 have l5:(gM (fK cs cl)).length=cs.length:=by rw[oT,jS ll]
 have ne5:cG (gM (fK cs cl))≠ []:= λz=>by have:=congrArg List.length z;rw[bE,l5,List.length_nil]at this;have:=W.one;omega
 have ne4:cG cl≠ []:= λz=>by have:=congrArg List.length z;rw[bE,ll,List.length_nil]at this;have:=W.one;omega
 refine⟨_,rfl,f,_,rfl,bB.of h5,ne5,λa ha1 ha2=>⟨_,rfl,c,_,rfl,bB.of h4,ne4,λb hb1 hb2=>⟨_,_,rfl,rfl,_,rfl,?_⟩⟩⟩
 rw[zhl l5 R5.nb W.one ha1 ha2,zhl ll R4.nb W.one hb1 hb2]
 have q4:=(zas ll R4.nb W.one).2.2
 have q5:=(zas l5 R5.nb W.one).2.2
 refine iX (λe=> ?_) (λe=> ?_)
 . have e':((qq - 1:Nat):Int)<(((fA (fK cs cl)).length - 1:Nat):Int):=of_decide_eq_true e;have fw:=R5.few;refine⟨λσ' H'=> ∃(c f:Addr) (cl':List Nat),σ'=[some (.ref x),some (.ref c),some (.ref f)]/\Same H H'/\(H c=none/\H f=none)/\H' c=some (.lst ((cG cl').map V.int))/\cl'.length=cs.length/\Rp (aS ls.length cs) (kk+1) (fA (fK cs cl)).length (λs=>cl'.getD s 0)/\H' f=some (.lst ((cG (gM (fK cs cl'))).map V.int)),?_,?_⟩
   . rintro σ' H' ⟨c',f',cl',rfl,z1,z2,z3,z4,z5,z6⟩;refine⟨cs.length - (fA (fK cs cl)).length,?_,_,_,c',f',cl',rfl,rfl,z1,z2,z3,z4,z5,z6⟩;have:(fA (fK cs cl)).length<=cs.length:=fw;omega
   . refine⟨_,rfl,_,rfl,_,rfl,x,f,ls,cs,_,rfl,hM.same y4,W,h5,l5,l60,rS,λr H6 hr6 x6 h6=> ?_⟩;exact⟨f,r,_,rfl,y4.trans x6,⟨hf,y4.free hr6⟩,x6 _ _ h5,l5,R5,h6⟩
 . have e': ¬((qq - 1:Nat):Int)<(((fA (fK cs cl)).length - 1:Nat):Int):= λz=>e (decide_eq_true z);exact⟨_,rfl,q c H4 cl hc y4 h4 ll λs t hs ht=>zjq ok R4 R5 (by omega) hs ht⟩
theorem _root_.L2.FnL.same{name bK:Str}{params:Arguments}{body:List Stmt}{scope:Scope}{fr:List Str}{H H':Hp}{f:Addr}{ds:List (Addr×Obj)}{oR:List V}(h:FnL name bK params body scope fr H f ds oR)(x:Same H H'):FnL name bK params body scope fr H' f ds oR:=by
 obtain⟨c,o,clos,cv,h1,h2,h3,h4,h5,h6,h7,h8,h9,h10⟩:=h
 exact⟨c,o,clos,cv,x _ _ h1,h2,x _ _ h3,h4,h5,h6,h7,λd o e=>x _ _ (h8 d o e),h9,h10⟩
theorem _root_.L2.FnL.fn{name bK:Str}{params:Arguments}{body:List Stmt}{scope:Scope}{fr:List Str}{H:Hp}{f:Addr}{ds:List (Addr×Obj)}{oR:List V}(h:FnL name bK params body scope fr H f ds oR): ∃o,H f=some (sP f o)/\ ∃fd,o.data= .func fd:=by
 obtain⟨c,o,clos,cv,h1,h2,_⟩:=h
 obtain⟨_,_,_,rfl⟩:=h2
 exact⟨_,h1,_,rfl⟩
structure tY(spG spI:List V->Sp)(md:NM)(H:Hp)(ds:List (Addr×Obj))(fvG fvI:List V)(m:Nat)(st:NK)(go:NK->Nat->NK)(gd:NK->Bool)(S:NK->Prop):Prop where
 st:S st
 cl: ∀t a,S t->a<m->S (go t a)
 md: ∀t,S t->t.md=md
 few: ∀ts:List NK,ts.Nodup->(∀t∈ts,S t)->ts.length<60
 goes: ∀(H':Hp) (v:V) (t:NK) (a:Nat) (Q:VK),Same H H'->eZ H' v t->S t->a<m->(∀v' H'',Same H' H''->eZ H'' v' (go t a)->Q v' H'')->spG fvG [v,.int (a:Int)] (unlend H' ds) (zgh ds Q) E0
 good: ∀(H':Hp) (v:V) (t:NK) (Q:VK),Same H H'->eZ H' v t->S t->(∀H'',Same H' H''->Q (.bl (gd t)) H'')->spI fvI [v] (unlend H' ds) (zgh ds Q) E0
theorem tY.same{H H':Hp}{ds:List (Addr×Obj)}{fvG fvI:List V}{m:Nat}{st:NK}{go:NK->Nat->NK}{gd:NK->Bool}{S:NK->Prop}(T:tY spG spI md H ds fvG fvI m st go gd S)(x:Same H H'):tY spG spI md H' ds fvG fvI m st go gd S:=
 ⟨T.st,T.cl,T.md,T.few,λH2 v t a Q y=>T.goes H2 v t a Q (x.trans y),λH2 v t Q y=>T.good H2 v t Q (x.trans y)⟩
def lI(go:NK->Nat->NK)(m:Nat)(ts:List NK)(kk:Nat):List (List Int):=(ts.take kk).map λt=>cG ((List.range m).map λa=>ts.idxOf (go t a))
theorem zfY{go:NK->Nat->NK}{m kk:Nat}{st:NK}{us:List NK}(h:eQ go m st kk<+:us):lI go m us kk=lI go m (eQ go m st kk) kk\/(eQ go m st kk).length<kk:=by
 rcases Nat.lt_or_ge (eQ go m st kk).length kk with z|z
 . exact .inr z
 . left
   unfold lI;have e:us.take kk=(eQ go m st kk).take kk:=by obtain⟨v,rfl⟩:=h;rw[List.take_append_of_le_length z]
   rw[e];refine List.map_congr_left λt ht=>congrArg cG (List.map_congr_left λa ha=> ?_);obtain⟨j,hj⟩:=List.getElem?_of_mem ht;have hjk:j<kk:=by have:=(List.getElem?_eq_some_iff.mp hj).1;rw[List.length_take]at this;omega
   rw[List.getElem?_take_of_lt hjk]at hj;exact zcc h (oB hjk hj (List.mem_range.mp ha))
theorem zmy{D p d fi:Addr}{Q:VK}{H1:Hp}{vs:List V}{ts:List NK}{ds:List (Addr×Obj)}{fvG fvI:List V}{m:Nat}{st:NK}{go:NK->Nat->NK}{gd:NK->Bool}{S:NK->Prop}(hD:H1 D=none)(hp:H1 p=some (.lst vs))(hP:Paired (eZ H1) vs ts)(hS: ∀t∈ts,S t)(sE:ts.Nodup)(T:tY spG spI md H1 ds fvG fvI m st go gd S)(hf:FnL nI qI paI bI scI frI H1 fi ds fvI)(hd:ND P w md H1 d (fR 0 ts))
 (fM: ∀H',Same H1 H'->H' D=some (.lst ((mR (csT go gd m ts) ts.length).map V.int))->Q (.ref D) H'):
 bH (zM K p) D (bA 0) (tB (zbj 2 nI qI paI bI scI frI spI E0 (bL (aL 0) dN))) (xF P w (aL 1) (aL 0)) Q [none,some (.ref d),some (.ref fi)] H1:=by
 have hl:=Paired.length hP
 have few:=T.few ts sE hS
 refine dU (xs:=vs) (λi ys σ H=> ∃v:Option V,ys=(mR (csT go gd m ts) i).map V.int/\σ=[v,some (.ref d),some (.ref fi)]/\Same H1 H) ?_ (by omega) ?_ ?_ ?_ ?_
 . exact⟨none,rfl,rfl,aQ hD⟩
 . rintro i ys σ H ⟨v,rfl,_⟩;rw[aW];exact zE _ _
 . rintro i ys σ H ⟨v,_,_,x⟩;exact bB.of (x _ _ hp)
 . rintro i y ys σ H hy bZ ⟨v,rfl,rfl,x⟩;obtain⟨t,ht,hN⟩:=cY hP hy;have mem:=List.mem_of_getElem? ht;obtain⟨o,ho,hfd⟩:=(hf.same x).fn;have hN':eZ H y t:=hN.keep λb xs e=>x b _ e;refine⟨fi,o,rfl,ho,hfd,_,rfl,ds,fvI,hf.same x,?_⟩;refine T.good H y t _ x hN' (hS t mem) ?_;intro H2 x2;refine⟨_,rfl,?_⟩;have y2:=x.trans x2;have gs:=zjv (csT go gd m ts) i;rw[KKL.getD_at (zbH ht)]at gs;refine iX (λe=> ?_) (λe=> ?_)
   . rw[if_pos e]at gs;have xM:gK (fR 0 ts) t=some (.int ((ts.idxOf t:Nat):Int)):=by rw[fW,if_pos mem,Nat.zero_add]
     obtain⟨hi,ei⟩:=List.getElem?_eq_some_iff.mp ht;have ix:ts.idxOf t=i:=by rw[<-ei];exact sE.idxOf_getElem i hi
     refine⟨_,rfl,_,rfl,d,md,_,t,_,rfl,hd.same y2,hN.keep (λb xs e=>y2 b _ e),T.md t (hS t mem),xM,x2 _ _ bZ,some y,?_,rfl,y2.at hD⟩;rw[gs,List.map_append,ix];rfl
   . rw[if_neg e]at gs;exact⟨x2 _ _ bZ,some y,by rw[gs],rfl,y2⟩
 . rintro ys σ H bZ ⟨v,rfl,_,x⟩;rw[show vs.length=ts.length from hl]at bZ;exact fM H x bZ
theorem kI{α β:Type}{F G:α->β->Prop}{l:List α}{m:List β}(h:Paired F l m):(∀a b,a∈l->F a b->G a b)->Paired G l m:=by
 induction h with
 |nil=>exact λ_=> .nil
 |cons r _ ih=>exact λk=> .cons (k _ _ (List.mem_cons_self ..) r) (ih λa b ha z=>k a b (List.mem_cons_of_mem _ ha) z)
def zlz(C:Addr)(nG qG nI qI:Str)(paG paI:Arguments)(bG bI:List Stmt)(scG scI:Scope)(frG frI:List Str)(spG spI:List V->Sp)(md:NM):Sp:= λvs H Q _=> ∃(tl fg fi:Addr) (v0:V) (ls:List Str) (ds:List (Addr×Obj)) (fvG fvI:List V) (st:NK) (go:NK->Nat->NK) (gd:NK->Bool) (S:NK->Prop),
 vs=[.ref tl,v0,.ref fg,.ref fi]/\tO H tl (ls.map V.str)/\FnL nG qG paG bG scG frG H fg ds fvG/\FnL nI qI paI bI scI frI H fi ds fvI/\eZ H v0 st/\tY spG spI md H ds fvG fvI ls.length st go gd S/\ls.Nodup/\ls.length<=60/\(md= .i\/md= .p)/\
 ∀x H' ts,Fin go ls.length st ts->MoS C H' x ls (csT go gd ls.length ts)->Same H H'->Q (.ref x) H'
theorem nU:bS ["letters","start","goes","is_good","numbers","things","table","steps","at","after"] ["letters","start","goes","is_good"] (aE iD):=(.of rfl rfl rfl rfl (by decide+kernel))
structure kK(P:Program)(w:World)(md:NM)(H0 H:Hp)(T D B:Addr)(vs:List V)(us:List NK)(rs:List Addr)(rows:List (List Int)):Prop where
 y:Same H0 H
 hT:H T=some (.lst vs)
 hv:Paired (eZ H) vs us
 hd:ND P w md H D (fR 0 us)
 hB:H B=some (.lst (rs.map V.ref))
 hr:Paired (kA H) rs rows
 T0:H0 T=none
 D0:H0 D=none
 B0:H0 B=none
 TB:T≠B
 nT:T∉rs
 nB:B∉rs
theorem kK.TD{md:NM}{H0 H:Hp}{T D B:Addr}{vs:List V}{us:List NK}{rs:List Addr}{rows:List (List Int)}(h:kK P w md H0 H T D B vs us rs rows):T≠D:= λe=>by
 obtain⟨o,ho,nl,_⟩:=h.hd.some
 have:=h.hT
 rw[e,ho]at this
 exact nl _ (Option.some.inj this)
theorem kK.BD{md:NM}{H0 H:Hp}{T D B:Addr}{vs:List V}{us:List NK}{rs:List Addr}{rows:List (List Int)}(h:kK P w md H0 H T D B vs us rs rows):B≠D:= λe=>by
 obtain⟨o,ho,nl,_⟩:=h.hd.some
 have:=h.hB
 rw[e,ho]at this
 exact nl _ (Option.some.inj this)
theorem kK.rD{md:NM}{H0 H:Hp}{T D B:Addr}{vs:List V}{us:List NK}{rs:List Addr}{rows:List (List Int)}(h:kK P w md H0 H T D B vs us rs rows): ∀r row,kA H r row->r≠D:= λr row hr e=>by
 obtain⟨o,ho,nl,_⟩:=h.hd.some
 have kD:H r=_:=hr
 rw[e,ho]at kD
 exact nl _ (Option.some.inj kD)
theorem kK.same{md:NM}{H0 H H':Hp}{T D B:Addr}{vs:List V}{us:List NK}{rs:List Addr}{rows:List (List Int)}(h:kK P w md H0 H T D B vs us rs rows)(x:Same H H'):kK P w md H0 H' T D B vs us rs rows:=
 ⟨h.y.trans x,x _ _ h.hT,Paired.mapP h.hv λ_ _ z=>z.keep λb xs e=>x b _ e,h.hd.same x,x _ _ h.hB,Paired.mapP h.hr λ_ _ z=>x _ _ z,h.T0,h.D0,h.B0,h.TB,h.nT,h.nB⟩
theorem kK.own{md:NM}{H0 H:Hp}{T D B S:Addr}{ys zs:List V}{vs:List V}{us:List NK}{rs:List Addr}{rows:List (List Int)}(h:kK P w md H0 H T D B vs us rs rows)(hS:H S=some (.lst ys))(S0:H0 S=none)(nT:S≠T)(nB:S≠B)(nr:S∉rs):kK P w md H0 (aO H S (.lst zs)) T D B vs us rs rows:=by
 have tk:TKp H (aO H S (.lst zs)):= λb xs e=>by rw[aG (dO e hS (λz=>nomatch z))];exact e
 refine⟨h.y.at S0,by rw[aG (Ne.symm nT)];exact h.hT,Paired.mapP h.hv λ_ _ z=>z.keep tk,h.hd.keep tk λo e=> ?_,by rw[aG (Ne.symm nB)];exact h.hB,kI h.hr λr row hr z=> ?_,h.T0,h.D0,h.B0,h.TB,h.nT,h.nB⟩
 . have:D≠S:= λz=>by
    obtain⟨o',ho,nl,_⟩:=h.hd.some;rw[z,hS]at ho;exact nl _ (Option.some.inj ho).symm
   rw[aG this];exact e
 . show aO H S _ r=_
   have ne:r≠S:= λq=>nr (q▸hr);rw[aG ne];exact z
theorem kK.push{md:NM}{H0 H:Hp}{T D B:Addr}{ob:HO}{vs:List V}{us:List NK}{rs:List Addr}{rows:List (List Int)}{v:V}{t:NK}(h:kK P w md H0 H T D B vs us rs rows)(hN:eZ H v t)(ht:t∉us)(hn:ND P w md (aO H D ob) D (hX (fR 0 us) t (.int (us.length:Int)))):kK P w md H0 (aO (aO H D ob) T (.lst (vs++[v]))) T D B (vs++[v]) (us++[t]) rs rows:=by
 have TD:=h.TD
 have tk1:TKp H (aO H D ob):= λb xs e=>by
  obtain⟨o,ho,_,nt,_⟩:=h.hd.some;rw[aG (dO e ho (λz=>nt xs z.symm))];exact e
 have hT1:aO H D ob T=some (.lst vs):=by rw[aG TD];exact h.hT
 have tk2:TKp (aO H D ob) (aO (aO H D ob) T (.lst (vs++[v]))):= λb xs e=>by rw[aG (dO e hT1 (λz=>nomatch z))];exact e
 have tk:TKp H (aO (aO H D ob) T (.lst (vs++[v]))):= λb xs e=>tk2 b xs (tk1 b xs e)
 rw[tE ht]at hn
 refine⟨(h.y.at h.D0).at h.T0,aF,cZ (Paired.mapP h.hv λ_ _ z=>z.keep tk) (.cons (hN.keep tk) .nil),hn.keep tk2 λo e=>by rw[aG (Ne.symm TD)];exact e,by rw[aG (Ne.symm h.TB),aG h.BD];exact h.hB,kI h.hr λr row hr z=> ?_,h.T0,h.D0,h.B0,h.TB,h.nT,h.nB⟩
 show aO (aO H D ob) T _ r=_
 have ne:r≠T:= λq=>h.nT (q▸hr)
 rw[aG ne,aG (h.rD r row z)];exact z
theorem zjz{go:NK->Nat->NK}{t:NK}{us:List NK}{a:Nat}(h: ∀a',a'<a->go t a'∈us){vs:List NK}(p:us<+:vs):((List.range a).map λa'=>vs.idxOf (go t a'))=(List.range a).map λa'=>us.idxOf (go t a'):=
 List.map_congr_left λa' ha=>zcc p (h a' (List.mem_range.mp ha))
theorem vM(F:lH K "machine_of" "machine_of" iD f fd)(B:Bt mg)(M_Machine:zaj P w K mg base k C g gd)(I_goes:zeF P w K mg base fV (k+1) nG qG paG bG scG psG frG spG)(I_is_good:zeF P w K mg base fV (k+1) nI qI paI bI scI psI frI spI):
 dG P w K mg base fV (k+2) f fd ["letters","start","goes","is_good"] (zlz C nG qG nI qI paG paI bG bI scG scI frG frI spG spI md):=by
 refine F.ok nU (λvs H Q E h=> ?_) (λcdv A outer s H vs Q E hr h=> ?_)
 . obtain⟨tl,fg,fi,v0,ls,ds,fvG,fvI,st,go,gd,S,rfl,_⟩:=h;rfl
 obtain⟨tl,fg,fi,v0,ls,ds,fvG,fvI,st,go,gd,S,rfl,hl,hG,hI,hN,T0,lnd,l60,hmd,q⟩:=h
 have nd:=nU.nd
 refine⟨_,(aD (aM (i:=4) nd rfl (Or.inr rfl) (znz md (iJ hr) (pv 1) aH)) (aD (aM (i:=5) nd rfl (Or.inl rfl) (bV (aA (pv 1) aC))) (aD (aM (i:=6) nd rfl (Or.inl rfl) (bV aC)) (aD (tJ PassesOwn.never (cF o7 (aY aV rfl B.len_ PySem.boot_len (aA (pv 6) aC)) (aY aV rfl B.len_ PySem.boot_len (aA (pv 5) aC)) (dI _)) (aD (aM (i:=7) nd rfl (Or.inl rfl) (bV aC)) (aD (cM PassesOwn.never rfl (bU rfl B.range_ (aA (aY aV rfl B.len_ PySem.boot_len (aA (pv 0) aC)) aC)) (aK (i:=8) nd rfl (Or.inl rfl)) (aD (aM (i:=9) nd rfl (Or.inl rfl) (zak (i:=2) I_goes hr rfl (Or.inl rfl) (aA (bF aR (pv 5) (aY aV rfl B.len_ PySem.boot_len (aA (pv 6) aC)) (λ_ _=>rfl)) (aA (pv 8) aC)))) (aD (eL (zau (yH (iJ hr) (pv 9) (pv 4))) (aD (yO (iJ hr) (pv 4) (pv 9) (aY aV rfl B.len_ PySem.boot_len (aA (pv 5) aC)) rfl) (aJ (cV (fE PySem.F.plainAttrs_list PySem.F.slot_list_append PySem.F.type_list_append cS (pv 5) (aA (pv 9) aC))))) cQ) (aJ (cV (fE PySem.F.plainAttrs_list PySem.F.slot_list_append PySem.F.type_list_append cS (pv 7) (aA (sF (iJ hr) (pv 4) (pv 9) (λ_ _=>rfl)) aC))))))) (aJ (cV (fE PySem.F.plainAttrs_list PySem.F.slot_list_append PySem.F.type_list_append cS (pv 6) (aA (pv 7) aC))))))) (aJ (cH (zda M_Machine.mak M_Machine.ok hr rfl M_Machine.at_ M_Machine.bn .nil lK (aA (dA xS rfl B.list_ (by decide+kernel) (aA (pv 0) aC)) (aA (pv 6) (aA (cD (g:=(bA 0)) (tc:=(tB (zbj 2 nI qI paI bI scI frI spI E0 (bL (aL 0) dN)))) (te:=(xF P w (aL 1) (aL 0))) (own:=["thing"]) (fr:=["numbers","is_good"]) (idx:=[4,3]) rfl (by show aP _ _ _ (aE iD);exact(.of rfl (by decide+kernel))) (cE (pv 5)) (λ_ _ _ _ _=>(aK (i:=0) (by show List.Nodup (["thing","numbers","is_good"]:List Str);decide+kernel) rfl (Or.inl rfl) (Or.inr rfl))) (λ_ _ _ _ _=>jD (zbQ (zak (i:=2) I_is_good hr rfl (Or.inr (Or.inl rfl)) (aA (pv 0) aC)) (λ_=>rfl))) (λ_ _ _ _ _=>(sF (iJ hr) (pv 1) (pv 0) (λ_ _=>rfl))) rfl (cA rfl)) aC)))))))))),?_⟩
 try dsimp only[dM,Cx.nox,Cx.wish]
 refine j3 ?_
 intro D0 σ0 U5 U4 U3 U2
 intro D hD
 refine⟨_,rfl,st,hN.keep (λb xs e=>by rw[aG (aI e hD)];exact e),T0.md st T0.st,hmd,aF,λob nD=> ?_⟩
 rw[zjO]at nD ⊢
 obtain⟨H1,e0,x1,-⟩:=cT hD ob
 rw[e0]at nD ⊢
 refine⟨_,rfl,cL 1,λT hT=> ?_⟩
 obtain⟨H2,e0,x2,kT⟩:=cT hT (.lst [v0])
 rw[e0]
 refine⟨cL 0,λBt' hB=> ?_⟩
 have x3:Same H2 (aO H2 Bt' (.lst [])):=aQ hB
 have kB:aO H2 Bt' (.lst []) Bt'=some (.lst []):=aF
 generalize aO H2 Bt' (.lst [])=H3 at x3 kB ⊢
 have y3:=(x1.trans x2).trans x3
 have first:kK P w md H H3 T D Bt' [v0] (eQ go ls.length st 0) [] (lI go ls.length (eQ go ls.length st 0) 0):=
  ⟨y3,x3 _ _ kT,.cons (hN.keep λb xs e=>y3 b _ e) .nil,nD.same (x2.trans x3),kB,.nil,x1.free hT,hD,x1.free (x2.free hB),aI kT hB,(by intro z;cases z),(by intro z;cases z)⟩
 have zsL: ∀us:List NK,us.Nodup->(∀t∈us,S t)->us.length<60:=T0.few
 have zgN: ∀kk,∀t∈eQ go ls.length st kk,S t:=pB T0.st T0.cl
 refine⟨λmm σ H'=> ∃(kk:Nat) (vs:List V) (rs:List Addr) (v7 v8 v9:Option V),mm=61 - kk/\σ=[some (.ref tl),some v0,some (.ref fg),some (.ref fi),some (.ref D),some (.ref T),some (.ref Bt'),v7,v8,v9]/\rs.length=kk/\kk<=(eQ go ls.length st kk).length/\kK P w md H H' T D Bt' vs (eQ go ls.length st kk) rs (lI go ls.length (eQ go ls.length st kk) kk),⟨_,0,[v0],[],none,none,none,rfl,rfl,rfl,Nat.zero_le _,first⟩,?_⟩
 rintro mm σ H4 ⟨kk,vs,rs,v7,v8,v9,rfl,rfl,hrs,hkl,A4⟩
 have lv:=Paired.length A4.hv
 have few:=zsL _ (fS kk) (zgN kk)
 refine⟨_,rfl,Bt',_,rfl,.inl (bB.of A4.hB),_,rfl,T,_,rfl,.inl (bB.of A4.hT),_,_,rfl,rfl,_,rfl,?_⟩
 rw[aW,hrs,lv]
 refine iX (λe=> ?_) (λe=> ?_)
 . have e':(kk:Int)<((eQ go ls.length st kk).length:Int):=of_decide_eq_true e;have hk:kk<(eQ go ls.length st kk).length:=by omega
   have ht:=List.getElem?_eq_getElem hk;generalize (eQ go ls.length st kk)[kk]=t at ht;refine⟨λσ' H'=> ∃(vs:List V) (rs:List Addr) (v7 v8 v9:Option V),σ'=[some (.ref tl),some v0,some (.ref fg),some (.ref fi),some (.ref D),some (.ref T),some (.ref Bt'),v7,v8,v9]/\rs.length=kk+1/\kk+1<=(eQ go ls.length st (kk+1)).length/\kK P w md H H' T D Bt' vs (eQ go ls.length st (kk+1)) rs (lI go ls.length (eQ go ls.length st (kk+1)) (kk+1)),?_,?_⟩
   . rintro σ' H' ⟨vs',rs',a7,a8,a9,rfl,z1,z2,z3⟩;exact⟨61 - (kk+1),by omega,kk+1,vs',rs',a7,a8,a9,rfl,rfl,z1,z2,z3⟩
   refine⟨cL 0,λSx hS=> ?_⟩;have x5:Same H4 (aO H4 Sx (.lst [])):=aQ hS;have kS:aO H4 Sx (.lst []) Sx=some (.lst ((cG []).map V.int)):=aF;have nST:Sx≠T:=Ne.symm (aI A4.hT hS);have nSB:Sx≠Bt':=Ne.symm (aI A4.hB hS);have nSr:Sx∉rs:= λhm=>by
    obtain⟨j,hj⟩:=List.getElem?_of_mem hm;obtain⟨_,_,z⟩:=cY A4.hr hj;have z':H4 Sx=_:=z;rw[hS]at z';cases z'
   have A5:=A4.same x5;have S0:=A4.y.free hS;generalize aO H4 Sx (.lst [])=H5 at x5 kS A5 ⊢;clear x5 hS A4;refine⟨_,rfl,tl,_,rfl,.inr (hl.same A5.y).sq,_,rfl,by rw[aW];omega,by rw[aW];omega,?_⟩;rw[show(((ls.map V.str).length:Nat):Int).toNat=ls.length by rw[aW];omega];refine eO (λa σ' H'=> ∃(vs:List V) (v8 v9:Option V),σ'=[some (.ref tl),some v0,some (.ref fg),some (.ref fi),some (.ref D),some (.ref T),some (.ref Bt'),some (.ref Sx),v8,v9]/\kK P w md H H' T D Bt' vs (((List.range a).map (go t)).foldl eF (eQ go ls.length st kk)) rs (lI go ls.length (eQ go ls.length st kk) kk)/\H' Sx=some (.lst ((cG ((List.range a).map λa'=>(((List.range a).map (go t)).foldl eF (eQ go ls.length st kk)).idxOf (go t a'))).map V.int))) ?_ ?_ ?_
   . exact⟨vs,v8,v9,rfl,A5,kS⟩
   . rintro a σ' H6 ha ⟨vs6,b8,b9,rfl,A6,hS6⟩;have zxT:eQ go ls.length st kk<+:((List.range a).map (go t)).foldl eF (eQ go ls.length st kk):=tI _ _;obtain⟨nd6,zqa⟩:=iL ((List.range a).map (go t)) _ (fS (go:=go) (m:=ls.length) (st:=st) kk);have S6: ∀u∈((List.range a).map (go t)).foldl eF (eQ go ls.length st kk),S u:= λu hu=>by
      rcases(zqa u).mp hu with z|z
      . exact zgN kk u z
      . obtain⟨a',ha',rfl⟩:=List.mem_map.mp z;exact T0.cl t a' (zgN kk t (List.mem_of_getElem? ht)) (Nat.lt_trans (List.mem_range.mp ha') ha)
     have in6: ∀a',a'<a->go t a'∈((List.range a).map (go t)).foldl eF (eQ go ls.length st kk):= λa' ha'=>(zqa _).mpr (.inr (List.mem_map.mpr ⟨a',List.mem_range.mpr ha',rfl⟩));have suc:((List.range (a+1)).map (go t)).foldl eF (eQ go ls.length st kk)=eF (((List.range a).map (go t)).foldl eF (eQ go ls.length st kk)) (go t a):=by
      rw[List.range_succ,List.map_append,List.foldl_append];rfl
     rw[suc];clear suc;generalize ((List.range a).map (go t)).foldl eF (eQ go ls.length st kk)=us at *;have zEN:=zsL us nd6 S6;have lv6:=Paired.length A6.hv;obtain⟨vt,hvt,nvt⟩:=fC A6.hv (mV zxT ht);have tS:=zgN kk t (List.mem_of_getElem? ht);obtain⟨o6,ho6,zwR⟩:=(hG.same A6.y).fn;rw[Int.zero_add];refine⟨fg,o6,rfl,ho6,zwR,_,rfl,_,rfl,Bt',_,rfl,.inl (bB.of A6.hB),T,_,_,_,rfl,rfl,bB.of A6.hT,by rw[aW,hrs];exact bD hvt,_,rfl,ds,fvG,hG.same A6.y,?_⟩;refine T0.goes H6 vt t a _ A6.y nvt tS ha ?_;intro v' H7 x7 n7;have A7:=A6.same x7;have hS7:=x7 _ _ hS6;have S7:=T0.cl t a tS ha;refine⟨_,rfl,_,rfl,D,md,_,go t a,rfl,A7.hd,n7,T0.md _ S7,?_⟩;rw[fW];have lS:((cG ((List.range a).map λa'=>us.idxOf (go t a'))).map V.int).length=a:=by rw[aW,bE,aW,List.length_range]
     by_cases jW:go t a∈us
     . rw[if_pos jW];refine⟨_,rfl,pD ?_⟩;have xM:gK (fR 0 us) (go t a)=some (.int ((us.idxOf (go t a):Nat):Int)):=by rw[fW,if_pos jW,Nat.zero_add]
       refine⟨_,rfl,.inl ⟨rfl,_,bB.of hS7⟩,_,rfl,_,rfl,D,md,_,go t a,_,rfl,A7.hd,n7,T0.md _ S7,xM,Sx,_,_,rfl,rfl,hS7,by rw[lS];exact small (by omega),?_⟩;have eo:eF us (go t a)=us:=by unfold eF;rw[if_pos jW]
       rw[eo];refine⟨vs6,_,_,rfl,A7.own hS7 S0 nST nSB nSr,?_⟩;rw[aF];unfold cG;rw[List.range_succ,List.map_append,List.map_append,List.map_append];rfl
     . rw[if_neg jW];refine⟨_,rfl,vN ?_⟩;refine⟨_,rfl,T,_,rfl,.inl (bB.of A7.hT),_,rfl,_,rfl,D,md,_,go t a,rfl,A7.hd,n7,T0.md _ S7,by rw[jY];exact small (by omega),λob8 n8=> ?_⟩;rw[lv6]at n8;have hT8:aO H7 D ob8 T=some (.lst vs6):=by rw[aG A7.TD];exact A7.hT
       refine⟨_,rfl,.inl ⟨rfl,_,bB.of hT8⟩,_,rfl,T,_,_,rfl,rfl,hT8,by rw[lv6];exact small (by omega),?_⟩;have A8:=A7.push n7 jW n8;have nSD:Sx≠D:= λz=>by
        obtain⟨o',ho,nl,_⟩:=A7.hd.some;rw[<-z,hS7]at ho;exact nl _ (Option.some.inj ho).symm
       have hS8:aO (aO H7 D ob8) T (.lst (vs6++[v'])) Sx=some (.lst ((cG ((List.range a).map λa'=>us.idxOf (go t a'))).map V.int)):=by rw[aG nST,aG nSD];exact hS7
       have n9:eZ (aO (aO H7 D ob8) T (.lst (vs6++[v']))) v' (go t a):=by
        obtain⟨i,hi⟩:=List.getElem?_of_mem (show go t a∈us++[go t a] by simp);refine n7.keep λb xs e=> ?_;obtain⟨od,hod,_,nt,_⟩:=A7.hd.some;rw[aG (dO e A7.hT (λz=>nomatch z)),aG (dO e hod (λz=>nt xs z.symm))];exact e
       generalize aO (aO H7 D ob8) T (.lst (vs6++[v']))=H8 at A8 hS8 n9 ⊢;have xM:gK (fR 0 (us++[go t a])) (go t a)=some (.int (((us++[go t a]).idxOf (go t a):Nat):Int)):=by rw[fW,if_pos (by simp),Nat.zero_add]
       refine⟨_,rfl,.inl ⟨rfl,_,bB.of hS8⟩,_,rfl,_,rfl,D,md,_,go t a,_,rfl,A8.hd,n9,T0.md _ S7,xM,Sx,_,_,rfl,rfl,hS8,by rw[lS];exact small (by omega),?_⟩;have eo:eF us (go t a)=us++[go t a]:=by unfold eF;rw[if_neg jW]
       rw[eo];refine⟨vs6++[v'],_,_,rfl,A8.own hS8 S0 nST nSB nSr,?_⟩;rw[aF,<-zjz in6 (List.prefix_append us [go t a])];unfold cG;rw[List.range_succ,List.map_append,List.map_append,List.map_append];rfl
   . rintro σ' H6 ⟨vs6,b8,b9,rfl,A6,hS6⟩;have e1:eQ go ls.length st (kk+1)=((List.range ls.length).map (go t)).foldl eF (eQ go ls.length st kk):=iS ht;rw[<-e1]at A6 hS6;have pre:=uH (go:=go) (m:=ls.length) (st:=st) kk;refine⟨_,rfl,.inl ⟨rfl,_,bB.of A6.hB⟩,_,rfl,Bt',_,_,rfl,rfl,A6.hB,by rw[aW];exact small (by omega),?_⟩;have rt:lI go ls.length (eQ go ls.length st (kk+1)) (kk+1)=lI go ls.length (eQ go ls.length st kk) kk++[cG ((List.range ls.length).map λa'=>(eQ go ls.length st (kk+1)).idxOf (go t a'))]:=by
      rcases zfY (kk:=kk) pre with z|z
      . rw[<-z];unfold lI;rw[bO (mV pre ht),List.map_append];rfl
      . omega
     refine⟨vs6,rs++[Sx],_,_,_,rfl,by rw[List.length_append,hrs];rfl,by have:=(mV pre ht);have:=(List.getElem?_eq_some_iff.mp this).1;omega,?_⟩;have tk:TKp H6 (aO H6 Bt' (.lst (rs.map V.ref++[.ref Sx]))):= λb xs e=>by rw[aG (dO e A6.hB (λz=>nomatch z))];exact e
     rw[rt];refine⟨A6.y.at A6.B0,by rw[aG A6.TB];exact A6.hT,Paired.mapP A6.hv λ_ _ z=>z.keep tk,A6.hd.keep tk λo e=>by rw[aG (Ne.symm A6.BD)];exact e,by rw[List.map_append];exact aF,cZ (kI A6.hr λr row hr z=> ?_) (.cons ?_ .nil),A6.T0,A6.D0,A6.B0,A6.TB,?_,?_⟩
     . have ne:r≠Bt':= λq=>A6.nB (q▸hr);show aO H6 Bt' _ r=_;rw[aG ne];exact z
     . show aO H6 Bt' _ Sx=_
       rw[aG nSB];exact hS6
     . intro hm
       rcases List.mem_append.mp hm with z|z
       . exact A6.nT z
       . exact nST (List.mem_singleton.mp z).symm
     . intro hm
       rcases List.mem_append.mp hm with z|z
       . exact A6.nB z
       . exact nSB (List.mem_singleton.mp z).symm
 . have hk:kk=(eQ go ls.length st kk).length:=by
    have: ¬(kk:Int)<((eQ go ls.length st kk).length:Int):= λz=>e (decide_eq_true z);omega
   have fF:Fin go ls.length st (eQ go ls.length st kk):=⟨kk,rfl,hk.symm⟩;have sE:=fS (go:=go) (m:=ls.length) (st:=st) kk;have uA:=zgN kk;have rows:lI go ls.length (eQ go ls.length st kk) kk=rQ (csT go gd ls.length (eQ go ls.length st kk)):=by
    unfold lI rQ csT;rw[List.take_of_length_le (by omega),List.map_map];rfl
   rw[rows]at A4;generalize eQ go ls.length st kk=ts at *;refine⟨_,rfl,tl,_,rfl,.inr (hl.same A4.y).sq,λl hl'=> ?_⟩;have x5:Same H4 (aO H4 l (.lst (ls.map V.str))):=aQ hl';have kl:aO H4 l (.lst (ls.map V.str)) l=some (.lst (ls.map V.str)):=aF;generalize aO H4 l (.lst (ls.map V.str))=H5 at x5 kl ⊢;have A5:=A4.same x5;refine⟨_,rfl,_,rfl,T,rfl,⟨_,bB.of A5.hT⟩,λE' hE=>zmy (K:=K) (spG:=spG) hE A5.hT A5.hv uA sE (T0.same A5.y) (hI.same A5.y) A5.hd λH6 x6 h6=> ?_⟩;have A6:=A5.same x6;intro x dx hx hdx ndx;have lc:(csT go gd ls.length ts).length=ts.length:=mZ _ _;refine made (C:=C) (cs:=csT go gd ls.length ts) (us:=rs) (E:=E0) (Q:= λx H2=>Q (.ref x) H2) (x6 _ _ kl) ⟨A6.hB,A6.hr,zhn fF.wc,by rw[gQ,lc];omega⟩ h6 (Nat.lt_of_le_of_lt (zE _ _) few) (λz=>by rw[lc]) lnd fF.wc l60 (λx H7 hx0 hM x7=>q x H7 ts fF hM (A6.y.trans x7)) x dx hx hdx ndx
abbrev hZ:Stmt:=(cU dZ).getD 2 (.Pass ⟨0,0,0,0⟩)
abbrev dS:Stmt:=(cU dZ).getD 3 (.Pass ⟨0,0,0,0⟩)
abbrev qGo:Str:= "least.<locals>.goes"
abbrev qGd:Str:= "least.<locals>.is_good"
theorem zcX{H:Hp}{ds:List (Addr×Obj)}(h: ∀d o,ds.lookup d=some o->H d=some (jV d o)):lend (unlend H ds) ds=H:=by
 funext b
 cases e:ds.lookup b with
 |none=>rw[cW e,cC e]
 |some o=>rw[pN e,h b o e]
theorem zdr{H:Hp}{ds:List (Addr×Obj)}(h: ∀d o,ds.lookup d=some o->H d=none):Same H (lend H ds):= λb o e=>by
 cases z:ds.lookup b with
 |none=>rw[cW z];exact e
 |some o'=>rw[h b o' z]at e;cases e
theorem yI{H H':Hp}{ds:List (Addr×Obj)}(h: ∀d o,ds.lookup d=some o->H d=none)(x:Same (lend H ds) H'):Same H (unlend H' ds):= λb o e=>by
 cases z:ds.lookup b with
 |none=>rw[cC z];exact x b o (by rw[cW z];exact e)
 |some o'=>rw[h b o' z]at e;cases e
theorem tW{H H':Hp}{ds:List (Addr×Obj)}(x:Same (lend H ds) H'): ∀d o,ds.lookup d=some o->H' d=some (jV d o):= λd o e=>x _ _ (pN e)
theorem pJ{H':Hp}{ds:List (Addr×Obj)}(h: ∀d o,ds.lookup d=some o->H' d=some (jV d o)){b:Addr}{u:HO}(e:H' b=some u)(n: ∀φ,u≠ .ext φ):unlend H' ds b=some u:=by
 cases z:ds.lookup b with
 |none=>rw[cC z];exact e
 |some o=>rw[h b o z]at e;cases e;exact absurd rfl (n _)
theorem rX.un{C:Addr}{H':Hp}{ds:List (Addr×Obj)}{x:Addr}{ls:List Str}{tb:List (List Int)}{zs:List Int}(h: ∀d o,ds.lookup d=some o->H' d=some (jV d o))(m:rX C H' x ls tb zs):rX C (unlend H' ds) x ls tb zs:=by
 obtain⟨dx,tl,tt,tg,us,h1,⟨o,h2,r⟩,h3,h4,h5⟩:=m
 exact⟨dx,tl,tt,tg,us,pJ h h1 (λ_=>nofun),⟨o,pJ h h2 (λ_=>nofun),r⟩,pJ h h3 (λ_=>nofun),Paired.mapP h4 λ_ _ z=>pJ h z (λ_=>nofun),pJ h h5 (λ_=>nofun)⟩
theorem pO{H:Hp}{tt:Addr}{us:List Addr}{cs:eG}{m:Nat}(W:Wc m cs)(h3:H tt=some (.tup (us.map V.ref)))(h4:Paired (nH H) us (rQ cs)){s a:Nat}(hs:s<cs.length)(ha:a<m): ∃u row,mL (us.map V.ref) (s:Int)=some (.ref u)/\H u=some (.tup ((cG row).map V.int))/\mL ((cG row).map V.int) (a:Int)=some (.int (((aS m cs).go s a:Nat):Int)):=by
 have e:=List.getElem?_eq_getElem hs
 obtain⟨u,hu,hr⟩:=fC h4 (qD e)
 refine⟨u,cs[s].2,bD (by rw[List.getElem?_map,hu];rfl),hr,?_⟩
 have ha':a<cs[s].2.length:=by rw[(W.row _ (List.getElem_mem hs)).1];exact ha
 rw[wU e,<-fI ha']
def zoV(C:Addr):List V->Sp:= λoR vs H Q _=> ∃(fr x:Addr) (ls:List Str) (cs:eG) (F:List Nat) (s a:Nat),oR=[.ref fr,.ref x]/\vs=[.int s,.int a]/\MoS C H x ls cs/\Wc ls.length cs/\H fr=some (.lst ((cG F).map V.int))/\F.length=cs.length/\s<cs.length/\a<ls.length/\Q (.int ((F.getD ((aS ls.length cs).go s a) 0:Nat):Int)) H
def zqF(C:Addr):List V->Sp:= λoR vs H Q _=> ∃(x:Addr) (ls:List Str) (cs:eG) (s:Nat),oR=[.ref x]/\vs=[.int s]/\MoS C H x ls cs/\s<cs.length/\Q (.bl ((aS ls.length cs).gd s)) H
theorem zcb:pS ["state","at","firsts","machine"] ["state","at"] (aE hZ):=⟨rfl,rfl,rfl,by decide+kernel,rfl,by decide+kernel,λx h=>(by decide+kernel: ∀y∈(aE hZ).names,y.2= .cell->(aE hZ).names.lookup y.1=some .cell) (x,.cell) h rfl⟩
theorem zjd(S:MoC K C):zeF P w K mg base fV (k+1) "goes" "least.<locals>.goes" (eI hZ) (cU hZ) (aE hZ) ["state","at"] ["firsts","machine"] (zoV C):=by
 refine zkD (mid:=[]) zcb rfl (by decide+kernel) (by decide+kernel) (λclos mO pm ct c us hl=>match us,hl with| [_,_],_=>rfl) (λoR vs H Q E h=> ?_) (λclos cdv f A outer s H oR vs Q E hr h=> ?_)
 . obtain⟨fr,x,ls,cs,F,s,a,rfl,rfl,_⟩:=h;rfl
 obtain⟨fr,x,ls,cs,F,i,a,rfl,rfl,⟨dx,tl,tt,tg,us,m1,m2,m3,m4,m5⟩,W,hf,hl,hi,ha,q⟩:=h
 have nd:=zcb.nd
 refine⟨_,(aJ (cH (bF aR (pv 2) (bF fX (bF fX (fG (pv 3) rfl) (pv 0) (λ_ _=>rfl)) (pv 1) (λ_ _=>rfl)) (λ_ _=>rfl)))),?_⟩
 try dsimp only[dM,Cx.nox,Cx.wish]
 obtain⟨u,row,e1,e2,e3⟩:=pO W m3 m4 hi ha
 refine⟨_,rfl,_,rfl,x,C,dx,_,_,rfl,m1,S.cls,S.n2,rfl,_,rfl,tt,_,_,_,rfl,rfl,eS.of m3,e1,_,rfl,u,_,_,_,rfl,rfl,eS.of e2,e3,fr,_,_,_,rfl,rfl,bB.of hf,fI (by rw[hl];exact W.ok.lt i a hi ha),q⟩
theorem uQ:pS ["state","machine"] ["state"] (aE dS):=⟨rfl,rfl,rfl,by decide+kernel,rfl,by decide+kernel,λx h=>(by decide+kernel: ∀y∈(aE dS).names,y.2= .cell->(aE dS).names.lookup y.1=some .cell) (x,.cell) h rfl⟩
theorem zbK(S:MoC K C):zeF P w K mg base fV (k+1) "is_good" "least.<locals>.is_good" (eI dS) (cU dS) (aE dS) ["state"] ["machine"] (zqF C):=by
 refine zkD (mid:=[]) uQ rfl (by decide+kernel) (by decide+kernel) (λclos mO pm ct c us hl=>match us,hl with| [_],_=>rfl) (λoR vs H Q E h=> ?_) (λclos cdv f A outer s H oR vs Q E hr h=> ?_)
 . obtain⟨x,ls,cs,s,rfl,rfl,_⟩:=h;rfl
 obtain⟨x,ls,cs,i,rfl,rfl,⟨dx,tl,tt,tg,us,m1,m2,m3,m4,m5⟩,hi,q⟩:=h
 have nd:=uQ.nd
 refine⟨_,(aJ (cH (pM jX (pv 0) (fG (pv 1) rfl) rfl))),?_⟩
 try dsimp only[dM,Cx.nox,Cx.wish]
 refine⟨_,rfl,_,rfl,x,C,dx,_,_,rfl,m1,S.cls,S.n3,rfl,tg,_,rfl,.inr (eS.of m5),rfl,jT _,?_⟩
 rw[show(if false=true then !xJ (.int (i:Int)) ((mR cs cs.length).map V.int)else xJ (.int (i:Int)) ((mR cs cs.length).map V.int))=(aS ls.length cs).gd i from zaK hi]
 exact q
theorem zeQ{M:Mc}{F G:Nat->Nat}(f:Fst M F)(e: ∀s,s<M.n->F s=G s):Fst M G:=
 ⟨λs h=>by rw[<-e s h];exact f.lt s h,λs h=>by rw[<-e s h];exact f.al s h,λs t hs ht a=>by rw[<-e s hs,<-e t ht];exact f.eq s t hs ht a⟩
def goK(go:Nat->Nat->Nat):NK->Nat->NK:= λt a=>match t with
 | .i s=> .i ((go s.toNat a:Nat):Int)
 |t=>t
def gdK(gd:Nat->Bool):NK->Bool:= λt=>match t with
 | .i s=>gd s.toNat
 |_=>false
theorem ziP{go:Nat->Nat->Nat}{gd:Nat->Bool}{m st:Nat}{ts:List NK}(h:Fin (goK go) m (.i (st:Int)) ts): ∃us,Fin go m st us/\csT (goK go) (gdK gd) m ts=csT go gd m us:=by
 have inj: ∀(x:Nat) (y:NK) (x':Nat) (y':NK),y= .i (x:Int)->y'= .i (x':Int)->(x=x'↔y=y'):= λx y x' y' e e'=>by
  rw[e,e',NK.i.injEq];exact Int.ofNat_inj.symm
 have hs: ∀(t:Nat) (u:NK) (a:Nat),u= .i (t:Int)->a<m->goK go u a= .i ((go t a:Nat):Int):= λt u a e _=>by rw[e];rfl
 obtain⟨k,e,hk⟩:=id h
 have p:=Pr.ts (ρ:= λ(x:Nat) (y:NK)=>y= .i (x:Int)) (go:=go) (go':=goK go) (m:=m) (st:=st) (st':= .i (st:Int)) inj rfl (λt u a e ha=>hs t u a e ha) k
 have f:Fin go m st (eQ go m st k):=⟨k,rfl,by rw[p.len,<-e];exact hk⟩
 exact⟨_,f,(Fin.same (ρ:= λ(x:Nat) (y:NK)=>y= .i (x:Int)) inj rfl (λt u e=>by rw[e];rfl) (λt u a e ha=>hs t u a e ha) f h).symm⟩
theorem fB.few{m:Nat}{cs ls:eG}(w:Wc m cs)(h:fB m cs ls):ls.length<=cs.length:=by
 obtain⟨F,ts,f,g,rfl⟩:=h
 rw[mZ]
 exact zbD cs.length ts g.nodup λc hc=>((mN w f g).1 c hc).1
theorem zmd:(Str.ofString "least" ++Str.ofString ".<locals>.")++Str.ofString "goes" =qGo:=by decide+kernel
theorem zeD:(Str.ofString "least" ++Str.ofString ".<locals>.")++Str.ofString "is_good" =qGd:=by decide+kernel
theorem zdo{S:Nat}{cd:Value}{f:Addr}:qualnameIn (envOfC "least" (aE dZ) S f cd) "goes" "goes" =qGo:=by
 unfold qualnameIn
 rw[if_neg]
 . exact zmd
 . show ¬((aE dZ).names.lookup (Str.ofString "goes")==some NameKind.globalExplicit)=true
   decide+kernel
theorem zG{S:Nat}{cd:Value}{f:Addr}:qualnameIn (envOfC "least" (aE dZ) S f cd) "is_good" "is_good" =qGd:=by
 unfold qualnameIn
 rw[if_neg]
 . exact zeD
 . show ¬((aE dZ).names.lookup (Str.ofString "is_good")==some NameKind.globalExplicit)=true
   decide+kernel
abbrev tT(S:Nat):List (Str×Addr):=[("machine",S+1),("firsts",S+1+1+1)]
abbrev mE(S:Nat):List (Str×Addr):=[("machine",S+1)]
abbrev tb1(c1:Addr):Array Value:= #[]++ #[rawInt 80,rawInt 4,.ref c1]
abbrev tb2(c1 c2:Addr):Array Value:=tb1 c1++ #[rawInt 83,rawInt 4,.ref c2]
def iI(H:Hp)(p:Addr):Prop:=H p=some (.tbl #[])\/ ∃c1 c2,H p=some (.tbl (tb2 c1 c2))/\H c1=some (fZ c1 qGo)/\H c2=some (fZ c2 qGd)
def rR(p:Addr)(H H':Hp):Prop:= ∀b o,b≠p->H b=some o->H' b=some o
theorem rR.trans{p:Addr}{H H1 H2:Hp}(a:rR p H H1)(b:rR p H1 H2):rR p H H2:= λc o n h=>b c o n (a c o n h)
theorem _root_.L2.Same.but{p:Addr}{H H':Hp}(a:Same H H'):rR p H H':= λc o _ h=>a c o h
theorem iI.same{p:Addr}{H H':Hp}(h:iI H p)(x:Same H H'):iI H' p:=by
 rcases h with h|⟨c1,c2,h,h1,h2⟩
 . exact .inl (x _ _ h)
 . exact .inr ⟨c1,c2,x _ _ h,x _ _ h1,x _ _ h2⟩
theorem iI.some{p:Addr}{H:Hp}(h:iI H p): ∃ps,H p=some (.tbl ps):=by
 rcases h with h|⟨c1,c2,h,_⟩
 . exact⟨_,h⟩
 . exact⟨_,h⟩
theorem rR.mo{p:Addr}{H H':Hp}{C x:Addr}{ls:List Str}{tb:List (List Int)}{zs:List Int}{ps:Array Value}(b:rR p H H')(hp:H p=some (.tbl ps))(m:rX C H x ls tb zs):rX C H' x ls tb zs:=by
 have k: ∀{b:Addr} {u:HO},H b=some u->(∀ps,u≠ .tbl ps)->H' b=some u:= λ{c u} e n=>b c u (λz=>by rw[z,hp]at e;exact n _ (Option.some.inj e).symm) e
 obtain⟨dx,tl,tt,tg,us,h1,⟨o,h2,r⟩,h3,h4,h5⟩:=m
 exact⟨dx,tl,tt,tg,us,k h1 (λ_=>nofun),⟨o,k h2 (λ_=>nofun),r⟩,k h3 (λ_=>nofun),Paired.mapP h4 λ_ _ z=>k z (λ_=>nofun),k h5 (λ_=>nofun)⟩
theorem rR.lst{p:Addr}{H H':Hp}{a:Addr}{xs:List V}{ps:Array Value}(b:rR p H H')(hp:H p=some (.tbl ps))(h:H a=some (.lst xs)):H' a=some (.lst xs):=b a _ (λz=>by rw[z,hp]at h;cases h) h
section
variable {pt cc:Addr}
theorem okC{x bK:Str}{st:Stmt}{N ps:List Str}{sp:Sp}(F:lH K x bK st f fd)(S:bS N ps (aE st))(len: ∀vs H Q E,sp vs H Q E->vs.length=ps.length)
 (oX: ∀(cdv:Value),fd.code=cdv-> ∀(A:Around) (outer:List Env) (s:Shared) (H:Hp) (vs:List V) (Q:VK) (E:XK),eV k (A.deeper (envOfC bK (aE st) s.heap.objs.size f cdv))->sp vs H Q E->
  ∃t,vS (dM fV P w K mg base N bK (aE st) f cdv A outer s H E).nox (cU st) t/\t {nx:= λ_ H'=>Q .non H',rt:=Q} (mD N vs) H):dG P w K mg base fV (k+1) f fd ps sp:=by
 obtain⟨oc,od,kV,mO,pm,an,cdv,ct,osl,rfl,lk,vC⟩:=F.ex
 refine zkR lk vC S len λA outer s H vs Q E hr hsp=> ?_
 obtain⟨t,h,q⟩:=oX cdv rfl A outer s H vs Q E hr hsp
 exact⟨t,h.nox,q⟩
abbrev zmD(C:Addr):Sp:=zlz C "goes" qGo "is_good" qGd (eI hZ) (eI dS) (cU hZ) (cU dS) (aE hZ) (aE dS) ["firsts","machine"] ["machine"] (zoV C) (zqF C) .i
def zdf(C pt:Addr):Sp:= λvs H Q _=> ∃(x:Addr) (ls:List Str) (cs:eG),vs=[.ref x]/\MoS C H x ls cs/\Wc ls.length cs/\ls.Nodup/\ls.length<=60/\cs.length<60/\iI H pt/\
 ∀y H' low,fB ls.length cs low->MoS C H' y ls low->rR pt H H'->iI H' pt->Q (.ref y) H'
theorem zjI{D c:Addr}{Q:VK}{H1:Hp}{cl:List Nat}(vE:cl.length<=60)(hD:H1 D=none)(hc:H1 c=some (.lst ((cG cl).map V.int)))(fM: ∀H',Same H1 H'->H' D=some (.lst ((cG (cl.map λn=>cl.idxOf n)).map V.int))->Q (.ref D) H'):
 bH (zM K c) D (bA 0) cK (tBM K "list" zfI (aL 1) (bL (aL 0) dN)) Q [none,some (.ref c)] H1:=by
 refine dU (xs:=(cG cl).map V.int) (λi ys σ H=> ∃v:Option V,ys=(cG ((cl.take i).map λn=>cl.idxOf n)).map V.int/\σ=[v,some (.ref c)]/\Same H1 H) ?_ (by rw[aW,bE];omega) ?_ ?_ ?_ ?_
 . exact⟨none,rfl,rfl,aQ hD⟩
 . rintro i ys σ H ⟨v,rfl,_⟩;rw[aW,bE,aW,List.length_take];omega
 . rintro i ys σ H ⟨v,_,_,x⟩;exact bB.of (x _ _ hc)
 . rintro i y ys σ H hy bZ ⟨v,rfl,rfl,x⟩;rw[List.getElem?_map]at hy;obtain⟨z,hz,rfl⟩:=Option.map_eq_some_iff.mp hy;unfold cG at hz;rw[List.getElem?_map]at hz;obtain⟨n,hn,rfl⟩:=Option.map_eq_some_iff.mp hz;have mem:=List.mem_of_getElem? hn;refine⟨_,rfl,.inl ⟨rfl,_,bB.of (x _ _ hc)⟩,_,rfl,c,_,cG cl,rfl,rfl,x _ _ hc,List.mem_map.mpr ⟨n,mem,rfl⟩,by rw[bE];omega,bZ,_,?_,rfl,x.at hD⟩;have ix:(cG cl).idxOf ((n:Nat):Int)=cl.idxOf n:=by
    unfold cG;clear hn mem hz bZ fM hc vE x hy
    induction cl with
    |nil=>rfl
    |cons a cl ih=>
     rw[List.map_cons,List.idxOf_cons,List.idxOf_cons,ih]
     by_cases e:a=n
     . rw[e,beq_self_eq_true,beq_self_eq_true]
     . rw[beq_eq_false_iff_ne.mpr e,beq_eq_false_iff_ne.mpr (λz=>e (Int.ofNat_inj.mp z))]
   rw[bO hn,ix];unfold cG;rw[List.map_append,List.map_append,List.map_append];rfl
 . rintro ys σ H bZ ⟨v,rfl,_,x⟩;rw[aW,bE,List.take_length]at bZ;exact fM H x bZ
theorem e7:bS ["machine","classes","firsts","goes","is_good"] ["machine"] (aE dZ):=(.of rfl rfl rfl rfl (by decide+kernel))
theorem zfy(F:lH K "least" "least" dZ f fd)(B:Bt mg)(S:MoC K C)(hB:nQ mg base)(hfc:fd.code= .ref cc)(hC: ∀h,K.In h->PySem.W.CodeHd h cc pt)(G_classes_of:Fn P w K mg base k "classes_of" ["machine"] (vW C) g gd)(G_machine_of:Fn P w K mg base k "machine_of" ["letters","start","goes","is_good"] (zmD C) g2 vO):dG P w K mg base fV (k+1) f fd ["machine"] (zdf C pt):=by
 refine okC F e7 (λvs H Q E h=> ?_) (λcdv zrI A outer s H vs Q E hr h=> ?_)
 . obtain⟨x,ls,cs,rfl,_⟩:=h;rfl
 obtain⟨x,ls,cs,rfl,hM,W,lnd,l60,rS,hT,q⟩:=h
 rw[hfc]at zrI
 subst zrI
 have nd:=e7.nd
 have zad:(dM fV P w K mg base ["machine","classes","firsts","goes","is_good"] "least" (aE dZ) f (.ref cc) A outer s H E).nox.env.code= .ref cc:=rfl
 have hns: ∀n∈(["machine","firsts"]:List Str),(dM fV P w K mg base ["machine","classes","firsts","goes","is_good"] "least" (aE dZ) f (.ref cc) A outer s H E).nox.env.scope.names.lookup n=some .cell/\(dM fV P w K mg base ["machine","classes","firsts","goes","is_good"] "least" (aE dZ) f (.ref cc) A outer s H E).nox.fn n=true:=by
  intro n h
  rcases List.mem_cons.mp h with rfl|h
  . exact⟨rfl,rfl⟩
  . rw[List.mem_singleton.mp h];exact⟨rfl,rfl⟩
 have hjs: ∀(i j:Nat) (n:Str),([0,2]:List Nat)[i]?=some j->(["machine","firsts"]:List Str)[i]?=some n->(dM fV P w K mg base ["machine","classes","firsts","goes","is_good"] "least" (aE dZ) f (.ref cc) A outer s H E).nox.N[j]?=some n:=by
  intro i j n h1 h2
  match i,h1,h2 with
  |0,h1,h2=>cases h1;cases h2;rfl
  |1,h1,h2=>cases h1;cases h2;rfl
 refine⟨_,(aD (aM (i:=1) nd rfl (Or.inr rfl) (gG G_classes_of hr rfl (aA (pv 0) aC))) (aD (aM (i:=2) nd rfl (Or.inr rfl) (cD (g:=(bA 0)) (tc:=cK) (te:=(tBM K "list" zfI (aL 1) (bL (aL 0) dN))) (own:=["number"]) (fr:=["classes"]) (idx:=[1]) rfl (by show aP _ _ _ (aE dZ);exact(.of rfl (by decide+kernel))) (cE (pv 1)) (λ_ _ _ _ _=>(aK (i:=0) (by show List.Nodup (["number","classes"]:List Str);decide+kernel) rfl (Or.inl rfl) (Or.inr rfl))) (λ_ _ _ _ _=>cB) (λ_ _ _ _ _=>(fE PySem.F.plainAttrs_list PySem.F.slot_list_index PySem.F.type_list_index zeL (pv 1) (aA (pv 0) aC))) rfl (cA rfl))) (aD (zgs (i:=3) (clos:=tT s.heap.objs.size) hB zad hC nd rfl (Or.inl rfl) rfl zdo) (aD (zgs (i:=4) (clos:=mE s.heap.objs.size) hB zad hC nd rfl (Or.inl rfl) rfl zG) (aJ (cH (zhO (ns:=["machine","firsts"]) (js:=[0,2]) G_machine_of.ok hr rfl G_machine_of.at_ G_machine_of.kp G_machine_of.bn hns hjs (aA (fG (pv 0) rfl) (aA (bF aR (pv 2) aH (λ_ _=>rfl)) (aA (pv 3) (aA (pv 4) aC))))))))))),?_⟩
 try dsimp only[dM,Cx.nox,Cx.wish]
 refine j3 ?_
 intro D0 σ0 U5 U4 U3 U2
 refine⟨_,rfl,x,ls,cs,rfl,hM,W,l60,Nat.le_of_lt rS,λc H1 cl hc x1 h1 cll hal=> ?_⟩
 refine⟨_,rfl,c,rfl,⟨_,bB.of h1⟩,λfr oQ=>zjI (K:=K) (by omega) oQ h1 λH2 x2 h2=> ?_⟩
 have y2:=x1.trans x2
 have hM2:=hM.same y2
 have hT2:=hT.same y2
 have fst:Fst (aS ls.length cs) λs=>(cl.map λn=>cl.idxOf n).getD s 0:=zeQ (zmN cll hal) λs hs=>by
  have pX:s<cl.length:=by rw[cll];exact hs
  have e:=List.getElem?_eq_getElem pX;rw[KKL.getD_at e,KKL.getD_at (l:=cl.map λn=>cl.idxOf n) (i:=s) (by rw[List.getElem?_map,e];rfl)]
 have Fl:(cl.map λn=>cl.idxOf n).length=cs.length:=by rw[aW,cll]
 generalize (cl.map λn=>cl.idxOf n)=F at h2 fst Fl
 clear hal h1 hc cll x1 x2
 have tail: ∀(c1 c2 tV fl2:Addr) (o1 o2:Obj) (H3:Hp),rR pt H2 H3->iI H3 pt->H3 tV=some (sP tV o1)->H3 fl2=some (sP fl2 o2)->H3 c1=some (fZ c1 qGo)->H3 c2=some (fZ c2 qGd)->zdu "goes" qGo (eI hZ) (cU hZ) (aE hZ) (tT s.heap.objs.size) c1 o1->zdu "is_good" qGd (eI dS) (cU dS) (aE dS) (mE s.heap.objs.size) c2 o2->
  U5 D0 [some (.ref x),some (.ref c),some (.ref fr),some (.ref tV),some (.ref fl2)] H3:=by
  intro c1 c2 tV fl2 o1 o2 H3 b3 hT3 f1 f2 hc1 hc2 i1 i2;obtain⟨ps,hps⟩:=hT2.some;have hM3:=b3.mo hps hM2;have hF3:=b3.lst hps h2;obtain⟨dx,tl,tt,tg,us,m1,m2,m3,m4,m5⟩:=id hM3;have f0:=fst.lt 0 W.one;have Fa: ∀s,s<cs.length->F.getD s 0<cs.length:= λs hs=>fst.lt s hs;have at0:mL ((cG F).map V.int) 0=some (.int ((F.getD 0 0:Nat):Int)):=fI (n:=0) (by rw[Fl];exact W.one);refine⟨_,rfl,x,C,dx,_,_,rfl,m1,S.cls,S.n1,rfl,_,rfl,fr,_,_,_,rfl,rfl,bB.of hF3,at0,_,rfl,_,rfl,?_⟩;intro ds cv hds fM hcv;obtain⟨d1,od1,e1,l1,k1⟩:=hds "machine" List.mem_cons_self;obtain⟨d2,od2,e2,l2,k2⟩:=hds "firsts" (List.mem_cons_of_mem _ List.mem_cons_self);have e1:some (s.heap.objs.size+1)=some d1:=e1;have e2:some (s.heap.objs.size+1+1+1)=some d2:=e2;cases e1;cases e2;have v1:=hcv 0 0 "machine" (.ref x) rfl rfl rfl;have v2:=hcv 1 2 "firsts" (.ref fr) rfl rfl rfl;have xl:=zdr fM;have off: ∀{b:Addr} {u:HO},H3 b=some u->ds.lookup b=none:= λ{b u} e=>by
   cases z:ds.lookup b with
   |none=>rfl
   |some o=>rw[fM b o z]at e;cases e
  have zvD:s.heap.objs.size+1≠s.heap.objs.size+1+1+1:=by omega
  refine⟨tl,tV,fl2,.int ((F.getD 0 0:Nat):Int),ls,ds,[.ref fr,.ref x],[.ref x],.i ((F.getD 0 0:Nat):Int),goK λs a=>F.getD ((aS ls.length cs).go s a) 0,gdK (aS ls.length cs).gd,λt=> ∃s:Nat,t= .i (s:Int)/\s<cs.length,rfl,m2.same xl,⟨c1,o1,tT s.heap.objs.size,cv,xl _ _ f1,i1,xl _ _ hc1,?_,?_,?_,.cons v2 (.cons v1 .nil),λd o e=>pN e,off f1,off hc1⟩,⟨c2,o2,mE s.heap.objs.size,cv,xl _ _ f2,i2,xl _ _ hc2,?_,?_,?_,.cons v1 .nil,λd o e=>pN e,off f2,off hc2⟩,rfl,⟨⟨_,rfl,f0⟩,?_,?_,?_,?_,?_⟩,lnd,l60,.inl rfl,?_⟩
  . intro n d hm
    rcases List.mem_cons.mp hm with hm|hm
    . cases hm;exact⟨by decide+kernel,od1,l1,k1⟩
    . cases List.mem_singleton.mp hm;exact⟨by decide+kernel,od2,l2,k2⟩
  . exact List.pairwise_cons.mpr ⟨λp hp=>by rw[List.mem_singleton.mp hp];exact zvD,List.pairwise_singleton _ _⟩
  . intro n hn
    rcases List.mem_cons.mp hn with rfl|hn
    . exact⟨_,rfl⟩
    . rw[List.mem_singleton.mp hn];exact⟨_,rfl⟩
  . intro n d hm;cases List.mem_singleton.mp hm;exact⟨by decide+kernel,od1,l1,k1⟩
  . exact List.pairwise_singleton _ _
  . intro n hn;rw[List.mem_singleton.mp hn];exact⟨_,rfl⟩
  . rintro t a ⟨s',rfl,pX⟩ ha;exact⟨_,rfl,Fa _ (W.ok.lt _ a (by rw[Int.toNat_natCast];exact pX) ha)⟩
  . rintro t ⟨s',rfl,_⟩;rfl
  . intro ts sE uA;have p:=zbD cs.length (ts.map λt=>match t with| .i s=>s.toNat|_=>0) ?_ ?_
    . rw[aW]at p;omega
    . rw[List.Nodup,List.pairwise_map];refine sE.imp_of_mem λ{a b} ha hb i8 z=> ?_;obtain⟨sa,rfl,_⟩:=uA a ha;obtain⟨sb,rfl,_⟩:=uA b hb;have z':sa=sb:=z;exact i8 (by rw[z'])
    . intro n hn;obtain⟨t,ht,rfl⟩:=List.mem_map.mp hn;obtain⟨s',rfl,pX⟩:=uA t ht;exact pX
  . rintro H' v t a Q' x' hN ⟨s',rfl,pX⟩ ha q';cases hN;have cell:=tW x';have xu:=yI fM x';refine⟨fr,x,ls,cs,F,s',a,rfl,rfl,hM3.same xu,W,xu _ _ hF3,Fl,pX,ha,?_⟩;show Q' _ (lend (unlend H' ds) ds);rw[zcX cell];exact q' _ H' (Same.refl _) (by show V.int _=V.int _;rw[Int.toNat_natCast])
  . rintro H' v t Q' x' hN ⟨s',rfl,pX⟩ q';cases hN;have cell:=tW x';have xu:=yI fM x';refine⟨x,ls,cs,s',rfl,rfl,hM3.same xu,pX,?_⟩;show Q' _ (lend (unlend H' ds) ds);rw[zcX cell];have:=q' H' (Same.refl _);rw[show gdK (aS ls.length cs).gd (.i (s':Int))=(aS ls.length cs).gd s' by show(aS ls.length cs).gd ((s':Int)).toNat=_;rw[Int.toNat_natCast]]at this;exact this
  . intro y H' ts zxw hMy x';have cell:=tW x';have xu:=yI fM x';obtain⟨us',hf',e'⟩:=ziP (gd:=(aS ls.length cs).gd) zxw;refine⟨cell,q y _ (csT (λs a=>F.getD ((aS ls.length cs).go s a) 0) (aS ls.length cs).gd ls.length us') ⟨_,us',fst,hf',rfl⟩ ?_ ?_ (hT3.same xu)⟩
    . rw[e']at hMy;exact rX.un cell hMy
    . exact(y2.but.trans b3).trans xu.but
 rcases hT2 with hT2|⟨c1,c2,hT2,hc1,hc2⟩
 . refine⟨#[],hT2,trivial,.inl ⟨rfl,λc1 tV o1 nc1 nf1 zxW i1=> ?_⟩⟩;have npt: ∀{b:Addr},H2 b=none->b≠pt:= λh z=>by rw[z,hT2]at h;cases h
   have p3:aO (aO (aO H2 pt (.tbl (tb1 c1))) c1 (fZ c1 qGo)) tV (sP tV o1) pt=some (.tbl (tb1 c1)):=by rw[aG (npt nf1).symm,aG (npt nc1).symm];exact aF
   have b3:rR pt H2 (aO (aO (aO H2 pt (.tbl (tb1 c1))) c1 (fZ c1 qGo)) tV (sP tV o1)):= λb u nb h=>by rw[aG (aI h nf1),aG (aI h nc1),aG nb];exact h
   have f3:aO (aO (aO H2 pt (.tbl (tb1 c1))) c1 (fZ c1 qGo)) tV (sP tV o1) tV=some (sP tV o1):=aF;have d3:aO (aO (aO H2 pt (.tbl (tb1 c1))) c1 (fZ c1 qGo)) tV (sP tV o1) c1=some (fZ c1 qGo):=by rw[aG zxW];exact aF
   generalize aO (aO (aO H2 pt (.tbl (tb1 c1))) c1 (fZ c1 qGo)) tV (sP tV o1)=H3 at p3 b3 f3 d3 ⊢;refine⟨tb1 c1,p3,trivial,.inl ⟨rfl,λc2 fl2 o2 nc2 nf2 zqA i2=> ?_⟩⟩;have zpG: ∀{b:Addr},H3 b=none->b≠pt:= λh z=>by rw[z,p3]at h;cases h
   have b4:rR pt H3 (aO (aO (aO H3 pt (.tbl (tb2 c1 c2))) c2 (fZ c2 qGd)) fl2 (sP fl2 o2)):= λb u nb h=>by rw[aG (aI h nf2),aG (aI h nc2),aG nb];exact h
   have nf:tV≠pt:= λz=>by rw[z,p3]at f3;cases f3
   have nd':c1≠pt:= λz=>by rw[z,p3]at d3;cases d3
   refine tail c1 c2 tV fl2 o1 o2 _ (b3.trans b4) (.inr ⟨c1,c2,?_,b4 _ _ nd' d3,?_⟩) (b4 _ _ nf f3) aF (b4 _ _ nd' d3) ?_ i1 i2
   . rw[aG (zpG nf2).symm,aG (zpG nc2).symm];exact aF
   . rw[aG zqA];exact aF
   . rw[aG zqA];exact aF
 . refine⟨tb2 c1 c2,hT2,trivial,.inr ⟨c1,rfl,hc1,λtV o1 nf1 i1=> ?_⟩⟩;obtain⟨H3,e0,x3,f3⟩:=cT nf1 (sP tV o1);rw[e0];refine⟨tb2 c1 c2,x3 _ _ hT2,trivial,.inr ⟨c2,rfl,x3 _ _ hc2,λfl2 o2 nf2 i2=> ?_⟩⟩;have x4:Same H3 (aO H3 fl2 (sP fl2 o2)):=aQ nf2;have x34:=x3.trans x4;exact tail c1 c2 tV fl2 o1 o2 _ x34.but (.inr ⟨c1,c2,x34 _ _ hT2,x34 _ _ hc1,x34 _ _ hc2⟩) (x4 _ _ f3) aF (x34 _ _ hc1) (x34 _ _ hc2) i1 i2
end
def Bi(x:Int):Prop:= -10<=x/\x<=1000000000
theorem eB{α β:Type}{F G:α->β->Prop}{l:List α}{m:List β}(h:Paired F l m):(∀a b,a∈l->F a b->G a b)->Paired G l m:=kI h
theorem drawn{D a l:Addr}{Q:VK}{H1:Hp}{m:Int}{ls:List Str}(h0:0<m)(h8:m<=24)(hD:H1 D=none)(hF:aZ H1 a)(hl:H1 l=some (.lst (ls.map V.str)))(nl:l≠a)(h6:ls.length<=6)
 (fM: ∀(row:List Int) (H':Hp),row.length=ls.length->(∀x∈row,0<=x/\x<m)->aZ H' a->eR a H1 H'->H' D=some (.lst (row.map V.int))->Q (.ref D) H'):
 bH (zM K l) D (bA 0) cK (gH cO [] E0 (bL (aL 1) (bL (aL 2) dN))) Q [none,some (.ref a),some (.int m)] H1:=by
 have nD:=bJ hD hF
 have nDl:D≠l:= λe=>by rw[e,hl]at hD;cases hD
 refine dU (xs:=ls.map V.str) (λi ys σ H=> ∃(row:List Int) (v:Option V),ys=row.map V.int/\row.length=i/\(∀x∈row,0<=x/\x<m)/\σ=[v,some (.ref a),some (.int m)]/\aZ H a/\eR a H1 H) ?_ (by rw[aW];omega) ?_ ?_ ?_ ?_
 . exact⟨[],none,rfl,rfl,(by intro _ z;cases z),rfl,hF.new hD,eR.new hD⟩
 . rintro i ys σ H ⟨row,v,rfl,e,_⟩;rw[aW,e];exact Nat.le_refl _
 . rintro i ys σ H ⟨row,v,_,_,_,_,_,x⟩;exact bB.of (x _ _ nl hl)
 . rintro i y ys σ H hy bZ ⟨row,v,rfl,e,hb,rfl,fl,x⟩;refine⟨_,rfl,_,rfl,a,m,rfl,fl,h0,by omega,λr H4 r0 r1 f4 x4=>⟨x4 _ _ nD bZ,row++[r],_,by rw[List.map_append];rfl,by rw[List.length_append,e];rfl,λz hz=> ?_,rfl,f4.set (Ne.symm nD),?_⟩⟩
   . rcases List.mem_append.mp hz with h|h
     . exact hb z h
     . rw[List.mem_singleton.mp h];exact⟨r0,r1⟩
   . exact(x.trans x4).at hD
 . rintro ys σ H bZ ⟨row,v,rfl,e,hb,_,fl,x⟩;rw[aW]at e;exact fM row H e hb fl x bZ
theorem zhr{D a l:Addr}{Q:VK}{H1:Hp}{m:Int}{n:Nat}{ls:List Str}(h0:0<m)(h8:m<=24)(hn:n<=24)(hD:H1 D=none)(hF:aZ H1 a)(hl:H1 l=some (.lst (ls.map V.str)))(nl:l≠a)(h6:ls.length<=6)
 (fM: ∀(rs:List Addr) (tb:List (List Int)) (H':Hp),rs.length=n->Paired (kA H') rs tb->(∀r∈tb,r.length=ls.length/\ ∀x∈r,0<=x/\x<m)->rs.Nodup->(∀u∈rs,H1 u=none)->D∉rs->aZ H' a->eR a H1 H'->H' D=some (.lst (rs.map V.ref))->Q (.ref D) H'):
 bH (vB 0 n) D (bA 0) cK (iR (pF K (aL 3)) 1 [1,2] (bA 0) cK (gH cO [] E0 (bL (aL 1) (bL (aL 2) dN)))) Q [none,some (.ref a),some (.int m),some (.ref l)] H1:=by
 have nD:=bJ hD hF
 refine cR (λi ys σ H=> ∃(rs:List Addr) (tb:List (List Int)) (v:Option V),ys=rs.map V.ref/\rs.length=i/\Paired (kA H) rs tb/\(∀r∈tb,r.length=ls.length/\ ∀x∈r,0<=x/\x<m)/\rs.Nodup/\(∀u∈rs,H1 u=none)/\D∉rs/\σ=[v,some (.ref a),some (.int m),some (.ref l)]/\aZ H a/\eR a H1 H) ?_ (by omega) ?_ ?_ ?_
 . exact⟨[],[],none,rfl,rfl,.nil,(by intro _ z;cases z),List.nodup_nil,(by intro _ z;cases z),(by intro z;cases z),rfl,hF.new hD,eR.new hD⟩
 . rintro i ys σ H ⟨rs,tb,v,rfl,e,_⟩;rw[aW,e];exact Nat.le_refl _
 . rintro i ys σ H hi bZ ⟨rs,tb,v,rfl,e,hP,hb,sE,oQ,zL,rfl,fl,x⟩;have hll:H l=some (.lst (ls.map V.str)):=x _ _ nl hl;refine⟨_,rfl,l,rfl,⟨_,bB.of hll⟩,λD2 lA=>drawn (K:=K) h0 h8 lA fl hll nl h6 λrow H4 e4 b4 f4 x4 h4=> ?_⟩;have nDD:D≠D2:=aI bZ lA;have nua: ∀u∈rs,u≠a:= λu hu=>bJ (oQ u hu) hF;have hD1:H1 D2=none:=x.free fl lA;have nin:D2∉rs:= λhu=>by
    obtain⟨j,hj⟩:=List.getElem?_of_mem hu;obtain⟨_,_,z⟩:=cY hP hj;have z':H D2=_:=z;rw[lA]at z';cases z'
   refine⟨x4 _ _ nD bZ,rs++[D2],tb++[row],_,by rw[List.map_append];rfl,by rw[List.length_append,e];rfl,cZ (eB hP λu w hu z=> ?_) (.cons ?_ .nil),λr hr=> ?_,nodup_snoc sE nin,λu hu=> ?_,λhu=> ?_,rfl,f4.set (Ne.symm nD),(x.trans x4).at hD⟩
   . show aO H4 D _ u=_
     rw[aG (show u≠D from λq=>zL (q▸hu))];exact x4 _ _ (nua u hu) z
   . show aO H4 D _ D2=_
     rw[aG (Ne.symm nDD)];exact h4
   . rcases List.mem_append.mp hr with h|h
     . exact hb r h
     . rw[List.mem_singleton.mp h];exact⟨e4,b4⟩
   . rcases List.mem_append.mp hu with h|h
     . exact oQ u h
     . rw[List.mem_singleton.mp h];exact hD1
   . rcases List.mem_append.mp hu with h|h
     . exact zL h
     . exact nDD (List.mem_singleton.mp h)
 . rintro ys σ H bZ ⟨rs,tb,v,rfl,e,hP,hb,sE,oQ,zL,_,fl,x⟩;exact fM rs tb H e hP hb sE oQ zL fl x bZ
theorem zkG{D a:Addr}{Q:VK}{H1:Hp}{n:Nat}(hn:n<=24)(hD:H1 D=none)(hF:aZ H1 a)
 (fM: ∀(gd:List Int) (H':Hp),gd.length<=24->gd.Pairwise (·<·)->(∀x∈gd,0<=x/\x<n)->(∀x∈gd,Bi x)->aZ H' a->eR a H1 H'->H' D=some (.lst (gd.map V.int))->Q (.ref D) H'):
 bH (vB 0 n) D (bA 0) (gU (dW rEq (gH cO [] E0 (bL (aL 1) (bL (tC (.int 2)) dN))) (tC (.int 0)))) (aL 0) Q [none,some (.ref a)] H1:=by
 have nD:=bJ hD hF
 refine cR (λi ys σ H=> ∃(gd:List Int) (v:Option V),ys=gd.map V.int/\gd.length<=i/\(gd.Pairwise (·<·)/\ ∀x∈gd,0<=x/\x<i)/\σ=[v,some (.ref a)]/\aZ H a/\eR a H1 H) ?_ (by omega) ?_ ?_ ?_
 . exact⟨[],none,rfl,Nat.le_refl _,⟨List.Pairwise.nil,(by intro _ z;cases z)⟩,rfl,hF.new hD,eR.new hD⟩
 . rintro i ys σ H ⟨gd,v,rfl,e,_⟩;rw[aW];exact e
 . rintro i ys σ H hi bZ ⟨gd,v,rfl,e,hb,rfl,fl,x⟩;refine⟨_,rfl,a,2,rfl,fl,by decide,by decide,λr H4 r0 r1 f4 x4=>⟨rfl,_,rfl,?_⟩⟩;refine iX (λ_=> ?_) (λ_=> ?_)
   . refine⟨_,rfl,x4 _ _ nD bZ,gd++[0+(i:Int)],_,by rw[List.map_append];rfl,by rw[List.length_append];simp only[List.length_cons,List.length_nil];omega,⟨?_,λz hz=> ?_⟩,rfl,f4.set (Ne.symm nD),(x.trans x4).at hD⟩
     . refine List.pairwise_append.mpr ⟨hb.1,List.pairwise_singleton _ _,λu hu v hv=> ?_⟩;rw[List.mem_singleton.mp hv];have:=hb.2 u hu;omega
     . rcases List.mem_append.mp hz with h|h
       . have:=hb.2 z h;omega
       . rw[List.mem_singleton.mp h];omega
   . exact⟨x4 _ _ nD bZ,gd,_,rfl,by omega,⟨hb.1,λz hz=>by have:=hb.2 z hz;omega⟩,rfl,f4,x.trans x4⟩
 . rintro ys σ H bZ ⟨gd,v,rfl,e,hb,_,fl,x⟩;exact fM gd H (by omega) hb.1 hb.2 (λz hz=>by have:=hb.2 z hz;rw[Bi];omega) fl x bZ
structure nC(H:Hp)(T G:Addr)(us:List Addr)(cs:eG)(m:Nat):Prop where
 hT:Tb H T us (rQ cs) m
 hG:H G=some (.lst ((mR cs cs.length).map V.int))
 wc:Wc m cs
theorem nC.same{H H':Hp}{T G:Addr}{us:List Addr}{cs:eG}{m:Nat}(h:nC H T G us cs m)(x:Same H H'):nC H' T G us cs m:=⟨h.hT.same x,x _ _ h.hG,h.wc⟩
theorem nC.ext{H H':Hp}{a T G:Addr}{us:List Addr}{cs:eG}{m:Nat}(h:nC H T G us cs m)(x:eR a H H')(n:a∉T::G::us):nC H' T G us cs m:=by
 simp only[List.mem_cons,not_or]at n
 exact⟨⟨x _ _ (Ne.symm n.1) h.hT.at_,eB h.hT.rows λu r hu z=>x _ _ (λe=>n.2.2 (e▸hu)) z,h.hT.len,h.hT.few⟩,x _ _ (Ne.symm n.2.1) h.hG,h.wc⟩
def zst(a:Addr)(H:Hp)(Q:VK)(m:Nat)(φ:eG->Prop):Prop:= ∀(p T G:Addr) (us:List Addr) (cs:eG) (H':Hp),φ cs->nC H' T G us cs m->(∀b∈T::G::us,H b=none)->aZ H' a->eR a H H'->H' p=some (.tup [.ref T,.ref G])->Q (.ref p) H'
theorem zcz{tb:List (List Int)}{gd:List Int}(h1: ∀r∈tb,∀x∈r,0<=x)(h2:gd.Pairwise (·<·))(h3: ∀x∈gd,0<=x/\x<tb.length): ∃cs:eG,cs.length=tb.length/\rQ cs=tb/\mR cs cs.length=gd:=by
 have hl:((List.range tb.length).map λj:Nat=>(decide ((j:Int)∈gd),(tb.getD j []).map Int.toNat)).length=tb.length:=by rw[aW,List.length_range]
 have at_: ∀j,j<tb.length->((List.range tb.length).map λj:Nat=>(decide ((j:Int)∈gd),(tb.getD j []).map Int.toNat))[j]?=some (decide ((j:Int)∈gd),(tb.getD j []).map Int.toNat):= λj hj=>by
  rw[List.getElem?_map,List.getElem?_range hj];rfl
 refine⟨(List.range tb.length).map λj:Nat=>(decide ((j:Int)∈gd),(tb.getD j []).map Int.toNat),hl,?_,?_⟩
 . unfold rQ;refine List.ext_getElem? λj=> ?_;rw[List.getElem?_map]
   rcases Nat.lt_or_ge j tb.length with z|z
   . rw[at_ j z,List.getElem?_eq_getElem z];show some (cG ((tb.getD j []).map Int.toNat))=_;rw[KKL.getD_at (List.getElem?_eq_getElem z)];unfold cG;rw[List.map_map]
     congr 1
     refine(List.map_congr_left λx hx=> ?_).trans (List.map_id _);exact Int.toNat_of_nonneg (h1 _ (List.getElem_mem z) x hx)
   . rw[List.getElem?_eq_none_iff.mpr (by rw[hl];exact z),List.getElem?_eq_none_iff.mpr z];rfl
 . refine ziq (zkz _ _) h2 λx=> ?_;rw[tH]
   constructor
   . rintro⟨j,hj,rfl,e⟩;rw[hl]at hj;rw[KKL.getD_at (at_ j hj)]at e;exact of_decide_eq_true e
   . intro hx;obtain⟨a,b⟩:=h3 x hx;obtain⟨j,rfl⟩:=Int.eq_ofNat_of_zero_le a;have hj:j<tb.length:=by omega
     exact⟨j,by rw[hl];exact hj,rfl,by rw[KKL.getD_at (at_ j hj)];exact decide_eq_true hx⟩
theorem zcP{cs:eG}{m:Nat}(h0:0<cs.length)(h1: ∀r∈rQ cs,r.length=m)(h2: ∀r∈rQ cs,∀x∈r,x<(cs.length:Int)):Wc m cs:=by
 refine⟨h0,λr hr=> ?_⟩
 have hm:cG r.2∈rQ cs:=List.mem_map.mpr ⟨r,hr,rfl⟩
 refine⟨by rw[<-bE];exact h1 _ hm,λx hx=> ?_⟩
 have:=h2 _ hm (x:Int) (List.mem_map.mpr ⟨x,hx,rfl⟩)
 omega
def zbP:Sp:= λvs H Q _=> ∃(a l:Addr) (m:Int) (ls:List Str),vs=[.ref a,.int m,.ref l]/\aZ H a/\H l=some (.lst (ls.map V.str))/\l≠a/\1<=m/\m<=24/\ls.length<=6/\zst a H Q ls.length λcs=>(cs.length:Int)=m
theorem uJ:bS ["_law_flow_here","_law_many","_law_letters","_law_table"] ["_law_flow_here","_law_many","_law_letters"] (aE fL):=(.of rfl rfl rfl rfl (by decide+kernel))
theorem zby(F:lH K "_law_machine" "_law_machine" fL f fd)(B:Bt mg)(aN:Fn P w K mg base k "_law_draw" ["_law_flow_here","_law_many"] cO g gd):dG P w K mg base fV (k+1) f fd ["_law_flow_here","_law_many","_law_letters"] zbP:=by
 refine F.ok uJ (λvs H Q E h=> ?_) (λcdv A outer s H vs Q E hr h=> ?_)
 . obtain⟨a,l,m,ls,rfl,_⟩:=h;rfl
 obtain⟨a,l,m,ls,rfl,hF,hl,nl,h1,h8,l6,q⟩:=h
 have nd:=uJ.nd
 refine⟨_,(aD (kN (i:=3) nd rfl (Or.inl rfl) (g:=(bA 0)) (tc:=cK) (te:=(iR (pF K (aL 3)) 1 [1,2] (bA 0) cK (gH cO [] E0 (bL (aL 1) (bL (aL 2) dN))))) (own:=["_law_state"]) (fr:=["_law_flow_here","_law_many","_law_letters"]) (idx:=[0,1,2]) rfl (by show aP _ _ _ (aE fL);exact(.of rfl (by decide+kernel))) (bU rfl B.range_ (aA (pv 1) aC)) (λ_ _ _ _ _=>(aK (i:=0) (by show List.Nodup (["_law_state","_law_flow_here","_law_many","_law_letters"]:List Str);decide+kernel) rfl (Or.inl rfl) (Or.inr rfl))) (λ_ _ _ _ _=>cB) (λ_ _ _ _ _=>(cD (g:=(bA 0)) (tc:=cK) (te:=(gH cO [] E0 (bL (aL 1) (bL (aL 2) dN)))) (own:=["_law_letter"]) (fr:=["_law_flow_here","_law_many"]) (idx:=[1,2]) rfl (aP.relab (.of rfl (by decide+kernel))) (cE (pv 3)) (λ_ _ _ _ _=>(aK (i:=0) (by show List.Nodup (["_law_letter","_law_flow_here","_law_many"]:List Str);decide+kernel) rfl (Or.inl rfl) (Or.inr rfl))) (λ_ _ _ _ _=>cB) (λ_ _ _ _ _=>(gG aN hr rfl (aA (pv 1) (aA (pv 2) aC)))) rfl (cA rfl))) rfl (cA rfl)) (aJ (cH (eP (aA (pv 3) (aA (cD (g:=(bA 0)) (tc:=(gU (dW rEq (gH cO [] E0 (bL (aL 1) (bL (tC (.int 2)) dN))) (tC (.int 0))))) (te:=(aL 0)) (own:=["_law_state"]) (fr:=["_law_flow_here"]) (idx:=[0]) rfl (by show aP _ _ _ (aE fL);exact(.of rfl (by decide+kernel))) (bU rfl B.range_ (aA (pv 1) aC)) (λ_ _ _ _ _=>(aK (i:=0) (by show List.Nodup (["_law_state","_law_flow_here"]:List Str);decide+kernel) rfl (Or.inl rfl) (Or.inr rfl))) (λ_ _ _ _ _=>jD (cF lY (gG aN hr rfl (aA (pv 1) (aA aH aC))) aH (dI _))) (λ_ _ _ _ _=>(pv 0)) rfl (cA rfl)) aC)))))),?_⟩
 try dsimp only[dM,Cx.nox,Cx.wish]
 refine m8 ?_
 intro D0 σ0 U2
 refine⟨_,rfl,m,rfl,by omega,by omega,λD hD=>zhr (K:=K) (by omega) h8 (by omega) hD hF hl nl l6 λrs tb H2 e2 hP hb sE oQ zL f2 x2 lA=> ?_⟩
 have nD:=bJ hD hF
 refine⟨_,rfl,_,rfl,m,rfl,by omega,by omega,λD3 hD3=>zkG (by omega) hD3 f2 λgdl H3 g8 gp gb gi f3 x3 h3=>⟨cL 2,λp hp=> ?_⟩⟩
 have nua: ∀u∈rs,u≠a:= λu hu=>bJ (oQ u hu) hF
 have x3p:Same H3 (aO H3 p (.tup [.ref D,.ref D3])):=aQ hp
 have lrs:=Paired.length hP
 obtain⟨cs,c1,c2,c3⟩:=zcz (tb:=tb) (gd:=gdl) (λr hr x hx=>((hb r hr).2 x hx).1) gp (λx hx=>by have:=gb x hx;omega)
 have W:Wc ls.length cs:=zcP (by omega) (by rw[c2];exact λr hr=>(hb r hr).1) (by rw[c2];exact λr hr x hx=>by have:=(hb r hr).2 x hx;omega)
 refine q p D D3 rs cs _ (by omega) ⟨by rw[c2];exact⟨x3p _ _ (x3 _ _ nD lA),eB hP λu w hu z=>x3p _ _ (x3 _ _ (nua u hu) z),λr hr=>(hb r hr).1,by omega⟩,by rw[c3];exact x3p _ _ h3,W⟩ (λb vQ=> ?_) (Same.flow x3p f3) (x2.trans (x3.trans (Same.ext x3p))) aF
 rcases List.mem_cons.mp vQ with rfl|vQ
 . exact hD
 rcases List.mem_cons.mp vQ with rfl|vQ
 . exact x2.free f2 hD3
 . exact oQ b vQ
abbrev zhS(K:W.Frag):List V->Hp->VK->Prop:= λxs H Q=> ∃p ys,xs=[.ref p]/\(bB K H p ys\/eS K H p ys)/\Q (.int ys.length) H
theorem zkb(n:Nat):tU 0 (n:Int)=(cG (List.range n)).map V.int:=by
 unfold tU cG
 rw[List.map_map,show((n:Int) - 0).toNat=n by omega]
 exact List.map_congr_left λi _=>by show V.int (0+(i:Int))=V.int (i:Int);rw[Int.zero_add]
theorem zxU{D a T:Addr}{Q:VK}{H1:Hp}{n more:Nat}{us:List Addr}(hn:us.length=n)(h0:0<n)(vE:n<=60)(hm:more<=60)(hD:H1 D=none)(hF:aZ H1 a)(hT:H1 T=some (.lst (us.map V.ref)))(nT:T≠a)
 (fM: ∀(ns:List Nat) (H':Hp),ns.length=more->(∀x∈ns,x<n)->aZ H' a->eR a H1 H'->H' D=some (.lst ((cG ns).map V.int))->Q (.ref D) H'):
 bH (vB 0 more) D (bA 0) cK (gH cO [] E0 (bL (aL 1) (bL (j8 (zhS K) (bL (aL 2) dN)) dN))) Q [none,some (.ref a),some (.ref T)] H1:=by
 have nD:=bJ hD hF
 refine cR (λi ys σ H=> ∃(ns:List Nat) (v:Option V),ys=(cG ns).map V.int/\ns.length=i/\(∀x∈ns,x<n)/\σ=[v,some (.ref a),some (.ref T)]/\aZ H a/\eR a H1 H) ?_ (by omega) ?_ ?_ ?_
 . exact⟨[],none,rfl,rfl,(by intro _ z;cases z),rfl,hF.new hD,eR.new hD⟩
 . rintro i ys σ H ⟨ns,v,rfl,e,_⟩;rw[aW,bE,e];exact Nat.le_refl _
 . rintro i ys σ H hi bZ ⟨ns,v,rfl,e,hb,rfl,fl,x⟩;refine⟨_,rfl,_,rfl,T,_,rfl,.inl (bB.of (x _ _ nT hT)),a,_,rfl,fl,by rw[aW];omega,by rw[aW];omega,λr H4 r0 r1 f4 x4=> ?_⟩;rw[aW]at r1;obtain⟨rn,rfl⟩:=Int.eq_ofNat_of_zero_le r0;refine⟨x4 _ _ nD bZ,ns++[rn],_,?_,by rw[List.length_append,e];rfl,λz hz=> ?_,rfl,f4.set (Ne.symm nD),(x.trans x4).at hD⟩
   . unfold cG;rw[List.map_append,List.map_append];rfl
   . rcases List.mem_append.mp hz with h|h
     . exact hb z h
     . rw[List.mem_singleton.mp h];omega
 . rintro ys σ H bZ ⟨ns,v,rfl,e,hb,_,fl,x⟩;exact fM ns H e hb fl x bZ
def zS(ow:List Nat)(s i:Nat):List Nat:=(List.range i).filter λj=>decide (ow.getD j 0=s)
theorem alI{D o:Addr}{Q:VK}{H1:Hp}{ow:List Nat}{s:Nat}(vE:ow.length<=60)(hD:H1 D=none)(ho:H1 o=some (.lst ((cG ow).map V.int)))(fM: ∀H',Same H1 H'->H' D=some (.lst ((cG (zS ow s ow.length)).map V.int))->Q (.ref D) H'):
 bH (vB 0 ow.length) D (bA 0) (gU (dW rEq (dW (eC K) (aL 1) (aL 0)) (aL 2))) (aL 0) Q [none,some (.ref o),some (.int (s:Int))] H1:=by
 refine cR (λi zs σ H=> ∃v:Option V,zs=(cG (zS ow s i)).map V.int/\σ=[v,some (.ref o),some (.int (s:Int))]/\Same H1 H) ?_ (by omega) ?_ ?_ ?_
 . exact⟨none,rfl,rfl,aQ hD⟩
 . rintro i zs σ H ⟨v,rfl,_⟩;unfold zS;rw[aW,bE];exact Nat.le_trans (List.length_filter_le ..) (by rw[List.length_range];exact Nat.le_refl _)
 . rintro i zs σ H hi bZ ⟨v,rfl,rfl,x⟩;rw[Int.zero_add];refine⟨_,rfl,_,rfl,o,_,_,_,rfl,rfl,bB.of (x _ _ ho),fI hi,_,rfl,rfl,_,rfl,?_⟩;have es:zS ow s (i+1)=zS ow s i++if ow.getD i 0=s then [i]else []:=by
    unfold zS;rw[List.range_succ,List.filter_append,List.filter_cons,List.filter_nil]
    by_cases e:ow.getD i 0=s
    . rw[decide_eq_true e,if_pos rfl,if_pos e]
    . rw[decide_eq_false e,if_neg Bool.false_ne_true,if_neg e]
   by_cases e:ow.getD i 0=s
   . rw[e,decide_eq_true rfl];rw[if_pos e]at es;refine vN ⟨_,rfl,bZ,_,?_,rfl,x.at hD⟩;rw[es];unfold cG;rw[List.map_append,List.map_append];rfl
   . rw[decide_eq_false (λz=>e (Int.ofNat_inj.mp (V.int.inj z)))];rw[if_neg e,List.append_nil]at es;exact pD ⟨bZ,_,by rw[es],rfl,x⟩
 . rintro zs σ H bZ ⟨v,rfl,_,x⟩;exact fM H x bZ
theorem alO{D o:Addr}{Q:VK}{H1:Hp}{ow:List Nat}{n:Nat}(vE:ow.length<=60)(hn:n<=60)(hD:H1 D=none)(ho:H1 o=some (.lst ((cG ow).map V.int)))
 (fM: ∀H' us,Same H1 H'->H' D=some (.lst (us.map V.ref))->Paired (kA H') us ((List.range n).map λs=>cG (zS ow s ow.length))->(∀u∈us,H1 u=none)->Q (.ref D) H'):
 bH (vB 0 n) D (bA 0) cK (iR (zfR (bL (j8 (zhS K) (bL (aL 1) dN)) dN)) 1 [1,0] (bA 0) (gU (dW rEq (dW (eC K) (aL 1) (aL 0)) (aL 2))) (aL 0)) Q [none,some (.ref o)] H1:=by
 refine cR (λi zs σ H=> ∃(v:Option V) (us:List Addr),zs=us.map V.ref/\us.length=i/\σ=[v,some (.ref o)]/\Same H1 H/\Paired (kA H) us ((List.range i).map λs=>cG (zS ow s ow.length))/\(∀u∈us,H1 u=none)/\D∉us) ?_ (by omega) ?_ ?_ ?_
 . exact⟨none,[],rfl,rfl,rfl,aQ hD,.nil,(by intro _ z;cases z),(by intro z;cases z)⟩
 . rintro i zs σ H ⟨v,us,rfl,e,_⟩;rw[aW,e];exact Nat.le_refl _
 . rintro i zs σ H hi bZ ⟨v,us,rfl,e,rfl,x,hP,oQ,zL⟩;rw[Int.zero_add];refine⟨_,rfl,o,_,rfl,.inl (bB.of (x _ _ ho)),_,rfl,by rw[aW,bE];omega,by rw[aW,bE];omega,λD2 lA=> ?_⟩;rw[show((((cG ow).map V.int).length:Nat):Int).toNat=ow.length by rw[aW,bE];omega];refine alI (K:=K) (s:=i) vE lA (x _ _ ho) λH3 x3 h3=> ?_;have nDD:D≠D2:=aI bZ lA;refine⟨x3 _ _ bZ,_,us++[D2],by rw[List.map_append];rfl,by rw[List.length_append,e];rfl,rfl,(x.trans x3).at hD,?_,λu hu=> ?_,λhu=> ?_⟩
   . rw[List.range_succ,List.map_append];refine cZ (eB hP λu r hu z=> ?_) (.cons ?_ .nil)
     . show aO H3 D _ u=_
       have ne:u≠D:= λq=>zL (q▸hu);rw[aG ne];exact x3 _ _ z
     . show aO H3 D _ D2=_
       rw[aG (Ne.symm nDD)];exact h3
   . rcases List.mem_append.mp hu with z|z
     . exact oQ u z
     . rw[List.mem_singleton.mp z];exact x.free lA
   . rcases List.mem_append.mp hu with z|z
     . exact zL z
     . exact nDD (List.mem_singleton.mp z)
 . rintro zs σ H bZ ⟨v,us,rfl,e,_,x,hP,oQ,zL⟩;exact fM H us x bZ hP oQ
structure znL(ow:List Nat)(row ys:List Nat):Prop where
 len:ys.length=row.length
 at_: ∀(j y:Nat),ys[j]?=some y->y<ow.length/\row[j]?=some (ow.getD y 0)
theorem zxJ{D a r al:Addr}{Q:VK}{H1:Hp}{as:List Addr}{ow row:List Nat}{n:Nat}(vE:ow.length<=60)(zEg:row.length<=60)(mB: ∀x∈row,x<n)(nR: ∀s,s<n->zS ow s ow.length≠ [])(hD:H1 D=none)(hF:aZ H1 a)(hr:H1 r=some (.lst ((cG row).map V.int)))(nr:r≠a)(ha:H1 al=some (.lst (as.map V.ref)))(na:al≠a)(hP:Paired (kA H1) as ((List.range n).map λs=>cG (zS ow s ow.length)))(nas:a∉as)
 (fM: ∀(ys:List Nat) (H':Hp),znL ow row ys->aZ H' a->eR a H1 H'->H' D=some (.lst ((cG ys).map V.int))->Q (.ref D) H'):
 bH (zM K r) D (bA 0) cK (dW (eC K) (dW (eC K) (aL 1) (aL 0)) (gH cO [] E0 (bL (aL 2) (bL (j8 (zhS K) (bL (dW (eC K) (aL 1) (aL 0)) dN)) dN)))) Q [none,some (.ref al),some (.ref a)] H1:=by
 have nD:=bJ hD hF
 refine dU (xs:=(cG row).map V.int) (λi zs σ H=> ∃(ys:List Nat) (v:Option V),zs=(cG ys).map V.int/\znL ow (row.take i) ys/\σ=[v,some (.ref al),some (.ref a)]/\aZ H a/\eR a H1 H) ?_ (by rw[aW,bE];omega) ?_ ?_ ?_ ?_
 . exact⟨[],none,rfl,⟨rfl,by intro j y h;cases h⟩,rfl,hF.new hD,eR.new hD⟩
 . rintro i zs σ H ⟨ys,v,rfl,b,_⟩;rw[aW,bE,b.len,List.length_take];omega
 . rintro i zs σ H ⟨ys,v,_,_,_,_,x⟩;exact bB.of (x _ _ nr hr)
 . rintro i y zs σ H hy bZ ⟨ys,v,rfl,b,rfl,fl,x⟩;rw[List.getElem?_map]at hy;obtain⟨z,hz,rfl⟩:=Option.map_eq_some_iff.mp hy;unfold cG at hz;rw[List.getElem?_map]at hz;obtain⟨gl,hg,rfl⟩:=Option.map_eq_some_iff.mp hz;have gn:=mB gl (List.mem_of_getElem? hg);obtain⟨u,hu,hRu⟩:=fC hP (i:=gl) (b:=cG (zS ow gl ow.length)) (by rw[List.getElem?_map,List.getElem?_range gn];rfl);have nua:u≠a:= λe=>nas (e▸List.mem_of_getElem? hu);have eat:mL (as.map V.ref) (gl:Int)=some (.ref u):=bD (by rw[List.getElem?_map,hu];rfl);have l0:0<(zS ow gl ow.length).length:=List.length_pos_iff.mpr (nR gl gn);have ll:(zS ow gl ow.length).length<=60:=Nat.le_trans (by unfold zS;exact Nat.le_trans (List.length_filter_le ..) (by rw[List.length_range];exact Nat.le_refl _)) vE;refine⟨_,rfl,_,rfl,al,_,_,_,rfl,rfl,bB.of (x _ _ na ha),eat,_,rfl,_,rfl,_,rfl,al,_,_,_,rfl,rfl,bB.of (x _ _ na ha),eat,u,_,rfl,.inl (bB.of (x _ _ nua hRu)),a,_,rfl,fl,by rw[aW,bE];omega,by rw[aW,bE];omega,λrr H4 r0 r1 f4 x4=> ?_⟩;rw[aW,bE]at r1;obtain⟨rn,rfl⟩:=Int.eq_ofNat_of_zero_le r0;have hrn:rn<(zS ow gl ow.length).length:=by omega
   have er:=List.getElem?_eq_getElem hrn;generalize (zS ow gl ow.length)[rn]=yv at er;obtain⟨m1,m2⟩:=List.mem_filter.mp (List.mem_of_getElem? er);refine⟨u,_,_,_,rfl,rfl,bB.of (x4 _ _ nua (x _ _ nua hRu)),bD (by rw[List.getElem?_map,tX er];rfl),x4 _ _ nD bZ,ys++[yv],_,?_,?_,rfl,f4.set (Ne.symm nD),(x.trans x4).at hD⟩
   . unfold cG;rw[List.map_append,List.map_append];rfl
   . rw[bO hg];refine⟨by rw[List.length_append,List.length_append,b.len];rfl,λj y hj=> ?_⟩
     rcases Nat.lt_or_ge j ys.length with q|q
     . rw[List.getElem?_append_left q]at hj;obtain⟨a1,a2⟩:=b.at_ j y hj;exact⟨a1,by rw[List.getElem?_append_left (by rw[<-b.len];exact q)];exact a2⟩
     . rw[List.getElem?_append_right q]at hj;have e0:j - ys.length=0:=by
        rcases Nat.eq_zero_or_pos (j - ys.length)with z|z
        . exact z
        . rw[List.getElem?_eq_none_iff.mpr (by simp only[List.length_cons,List.length_nil];omega)]at hj;cases hj
       rw[e0]at hj;cases hj;refine⟨List.mem_range.mp m1,?_⟩;rw[List.getElem?_append_right (by rw[<-b.len];exact q),<-b.len,e0,of_decide_eq_true m2];rfl
 . rintro zs σ H bZ ⟨ys,v,rfl,b,_,fl,x⟩;rw[aW,bE,List.take_length]at b;exact fM ys H b fl x bZ
theorem zoY{D o G:Addr}{Q:VK}{H1:Hp}{ow:List Nat}{gs:List Int}(vE:ow.length<=60)(hD:H1 D=none)(ho:H1 o=some (.lst ((cG ow).map V.int)))(hG:H1 G=some (.lst (gs.map V.int)))
 (fM: ∀H',Same H1 H'->H' D=some (.lst ((cG ((List.range ow.length).filter λj=>decide (((ow.getD j 0:Nat):Int)∈gs))).map V.int))->Q (.ref D) H'):
 bH (vB 0 ow.length) D (bA 0) (gU (dW (rIn K false) (dW (eC K) (aL 1) (aL 0)) (aL 2))) (aL 0) Q [none,some (.ref o),some (.ref G)] H1:=by
 refine cR (λi zs σ H=> ∃v:Option V,zs=(cG ((List.range i).filter λj=>decide (((ow.getD j 0:Nat):Int)∈gs))).map V.int/\σ=[v,some (.ref o),some (.ref G)]/\Same H1 H) ?_ (by omega) ?_ ?_ ?_
 . exact⟨none,rfl,rfl,aQ hD⟩
 . rintro i zs σ H ⟨v,rfl,_⟩;rw[aW,bE];exact Nat.le_trans (List.length_filter_le ..) (by rw[List.length_range];exact Nat.le_refl _)
 . rintro i zs σ H hi bZ ⟨v,rfl,rfl,x⟩;rw[Int.zero_add];refine⟨_,rfl,_,rfl,o,_,_,_,rfl,rfl,bB.of (x _ _ ho),fI hi,_,rfl,G,_,rfl,.inl (bB.of (x _ _ hG)),rfl,jT _,_,rfl,?_⟩;rw[if_neg Bool.false_ne_true,zD];have es:((List.range (i+1)).filter λj=>decide (((ow.getD j 0:Nat):Int)∈gs))=((List.range i).filter λj=>decide (((ow.getD j 0:Nat):Int)∈gs))++if decide (((ow.getD i 0:Nat):Int)∈gs)=true then [i]else []:=by
    rw[List.range_succ,List.filter_append,List.filter_cons,List.filter_nil]
   refine iX (λe=> ?_) (λe=> ?_)
   . rw[if_pos e]at es;refine⟨_,rfl,bZ,_,?_,rfl,x.at hD⟩;rw[es];unfold cG;rw[List.map_append,List.map_append];rfl
   . rw[if_neg e,List.append_nil]at es;exact⟨bZ,_,by rw[es],rfl,x⟩
 . rintro zs σ H bZ ⟨v,rfl,_,x⟩;exact fM H x bZ
def yT:Sp:= λvs H Q _=> ∃(a T G:Addr) (us:List Addr) (cs:eG) (m more:Nat),vs=[.ref a,.ref T,.ref G,.int (more:Int)]/\aZ H a/\nC H T G us cs m/\a∉T::G::us/\more<=6/\cs.length<=24/\m<=60/\zst a H Q m λds=>ds.length=cs.length+more/\ ∃ow,ztx m cs ds ow
theorem i9:bS ["_law_flow_here","_law_table","_law_good","_law_more","_law_owner","_law_alike","_law_found","_law_state"] ["_law_flow_here","_law_table","_law_good","_law_more"] (aE eW):=(.of rfl rfl rfl rfl (by decide+kernel))
theorem zgI(F:lH K "_law_blown" "_law_blown" eW f fd)(B:Bt mg)(aN:Fn P w K mg base k "_law_draw" ["_law_flow_here","_law_many"] cO g gd):dG P w K mg base fV (k+1) f fd ["_law_flow_here","_law_table","_law_good","_law_more"] yT:=by
 refine F.ok i9 (λvs H Q E h=> ?_) (λcdv A outer s H vs Q E hr h=> ?_)
 . obtain⟨a,T,G,us,cs,m,more,rfl,_⟩:=h;rfl
 obtain⟨a,T,G,us,cs,m,more,rfl,hF,hM,na,hmo,c24,m60,q⟩:=h
 have nd:=i9.nd
 have W:=hM.wc
 have c1:=W.one
 simp only[List.mem_cons,not_or]at na
 obtain⟨naT,naG,nau⟩:=na
 have lus:=Paired.length hM.hT.rows
 rw[gQ]at lus
 refine⟨_,(aD (aM (i:=4) nd rfl (Or.inr rfl) (aU xW (dA (zbN rfl) rfl B.list_ (by decide+kernel) (aA (dA zK rfl B.range_ (by decide+kernel) (aA (aY aV rfl B.len_ PySem.boot_len (aA (pv 1) aC)) aC)) aC)) (cD (g:=(bA 0)) (tc:=cK) (te:=(gH cO [] E0 (bL (aL 1) (bL (j8 (λxs H Q=> ∃p ys,xs=[.ref p]/\(bB K H p ys\/eS K H p ys)/\Q (.int ys.length) H) (bL (aL 2) dN)) dN)))) (own:=["_law_k"]) (fr:=["_law_flow_here","_law_table"]) (idx:=[0,1]) rfl (by show aP _ _ _ (aE eW);exact(.of rfl (by decide+kernel))) (bU rfl B.range_ (aA (pv 3) aC)) (λ_ _ _ _ _=>(aK (i:=0) (by show List.Nodup (["_law_k","_law_flow_here","_law_table"]:List Str);decide+kernel) rfl (Or.inl rfl) (Or.inr rfl))) (λ_ _ _ _ _=>cB) (λ_ _ _ _ _=>(gG aN hr rfl (aA (pv 1) (aA (aY aV rfl B.len_ PySem.boot_len (aA (pv 2) aC)) aC)))) rfl (cA rfl)))) (aD (aM (i:=5) nd rfl (Or.inr rfl) (zaf (g:=(bA 0)) (tc:=cK) (te:=(iR (zfR (bL (j8 (λxs H Q=> ∃p ys,xs=[.ref p]/\(bB K H p ys\/eS K H p ys)/\Q (.int ys.length) H) (bL (aL 1) dN)) dN)) 1 [1,0] (bA 0) (gU (dW rEq (dW (eC K) (aL 1) (aL 0)) (aL 2))) (aL 0))) (z:= "_law_state") (fr:=["_law_owner"]) (idx:=[4]) rfl (by show iW _ _ _ (aE eW);exact⟨rfl,by decide+kernel,by decide+kernel,by decide+kernel,by decide+kernel,by decide+kernel,rfl,λ_ _=>rfl,λ_=>rfl⟩) (bU rfl B.range_ (aA (aY aV rfl B.len_ PySem.boot_len (aA (pv 1) aC)) aC)) (λ_ _ _ _ _=>(aK (i:=0) (by show List.Nodup (["_law_state","_law_owner"]:List Str);decide+kernel) rfl (Or.inr rfl) (Or.inl fn1))) (λ_ _ _ _ _=>cB) (λ_ _ _ _ _=>(cD (g:=(bA 0)) (tc:=(gU (dW rEq (dW (eC K) (aL 1) (aL 0)) (aL 2)))) (te:=(aL 0)) (own:=["_law_k"]) (fr:=["_law_owner","_law_state"]) (idx:=[1,0]) rfl (aP.relab (.of rfl (by decide+kernel))) (bU rfl B.range_ (aA (aY aV rfl B.len_ PySem.boot_len (aA (pv 1) aC)) aC)) (λ_ _ _ _ _=>(aK (i:=0) (by show List.Nodup (["_law_k","_law_owner","_law_state"]:List Str);decide+kernel) rfl (Or.inl rfl) (Or.inr rfl))) (λ_ _ _ _ _=>jD (cF lY (bF aR (pv 1) (pv 0) (λ_ _=>rfl)) (pv 2) (dI _))) (λ_ _ _ _ _=>(pv 0)) rfl (cA rfl))) rfl (cA rfl))) (aD (aM (i:=6) nd rfl (Or.inl rfl) (bV aC)) (aD (cM PassesOwn.never rfl (cE (pv 4)) (aK (i:=7) nd rfl (Or.inl rfl)) (aJ (cV (fE PySem.F.plainAttrs_list PySem.F.slot_list_append PySem.F.type_list_append cS (pv 6) (aA (cD (g:=(bA 0)) (tc:=cK) (te:=(dW (eC K) (dW (eC K) (aL 1) (aL 0)) (gH cO [] E0 (bL (aL 2) (bL (j8 (λxs H Q=> ∃p ys,xs=[.ref p]/\(bB K H p ys\/eS K H p ys)/\Q (.int ys.length) H) (bL (dW (eC K) (aL 1) (aL 0)) dN)) dN))))) (own:=["_law_goal"]) (fr:=["_law_alike","_law_flow_here"]) (idx:=[5,0]) rfl (by show aP _ _ _ (aE eW);exact(.of rfl (by decide+kernel))) (cE (bF aR (pv 1) (pv 7) (λ_ _=>rfl))) (λ_ _ _ _ _=>(aK (i:=0) (by show List.Nodup (["_law_goal","_law_alike","_law_flow_here"]:List Str);decide+kernel) rfl (Or.inl rfl) (Or.inr rfl))) (λ_ _ _ _ _=>cB) (λ_ _ _ _ _=>(bF aR (bF aR (pv 1) (pv 0) (λ_ _=>rfl)) (gG aN hr rfl (aA (pv 2) (aA (aY aV rfl B.len_ PySem.boot_len (aA (bF aR (pv 1) (pv 0) (λ_ _=>rfl)) aC)) aC))) (λ_ _=>rfl))) rfl (cA rfl)) aC))))) (aJ (cH (eP (aA (pv 6) (aA (cD (g:=(bA 0)) (tc:=(gU (dW (rIn K false) (dW (eC K) (aL 1) (aL 0)) (aL 2)))) (te:=(aL 0)) (own:=["_law_k"]) (fr:=["_law_owner","_law_good"]) (idx:=[4,2]) rfl (by show aP _ _ _ (aE eW);exact(.of rfl (by decide+kernel))) (bU rfl B.range_ (aA (aY aV rfl B.len_ PySem.boot_len (aA (pv 4) aC)) aC)) (λ_ _ _ _ _=>(aK (i:=0) (by show List.Nodup (["_law_k","_law_owner","_law_good"]:List Str);decide+kernel) rfl (Or.inl rfl) (Or.inr rfl))) (λ_ _ _ _ _=>jD (cF jX (bF aR (pv 1) (pv 0) (λ_ _=>rfl)) (pv 2) rfl)) (λ_ _ _ _ _=>(pv 0)) rfl (cA rfl)) aC))))))))),?_⟩
 try dsimp only[dM,Cx.nox,Cx.wish]
 refine j3 ?_
 intro D0 σ0 U5 U4 U3 U2
 refine⟨_,rfl,T,_,rfl,.inl (bB.of hM.hT.at_),(us.map V.ref).length,rfl,λp hp=> ?_⟩
 rw[aW,lus]
 refine⟨p,0,_,rfl,aF,by omega,by omega,by omega,by omega,λl hl=> ?_⟩
 have x1:Same H (aO (aO H p (.rng 0 (cs.length:Int))) l (.lst (tU 0 (cs.length:Int)))):=(aQ hp).trans (aQ hl)
 have k1:aO (aO H p (.rng 0 (cs.length:Int))) l (.lst (tU 0 (cs.length:Int))) l=some (.lst ((cG (List.range cs.length)).map V.int)):=by rw[aF,zkb]
 generalize aO (aO H p (.rng 0 (cs.length:Int))) l (.lst (tU 0 (cs.length:Int)))=H1 at x1 k1 ⊢
 have f1:=Same.flow x1 hF
 refine⟨_,rfl,(more:Int),rfl,by omega,by omega,λD hD=> ?_⟩
 rw[show((more:Nat):Int).toNat=more from rfl]
 refine zxU (K:=K) lus c1 (by omega) (by omega) hD f1 (x1 _ _ hM.hT.at_) (Ne.symm naT) λns H2 nl nb f2 x2 h2=> ?_
 have nla:l≠a:= λe=>by
  obtain⟨o,ho⟩:=hF.some;have:=(aQ (o:= .rng 0 (cs.length:Int)) hp) _ _ ho;rw[<-e,hl]at this;cases this
 refine⟨l,D,_,_,rfl,rfl,x2 _ _ nla k1,h2,by rw[aW,bE,List.length_range,aW,bE];exact sT (by omega),λo ho=> ?_⟩
 have eo:(cG (List.range cs.length)).map V.int++(cG ns).map V.int=(cG (List.range cs.length++ns)).map V.int:=by unfold cG;rw[List.map_append,List.map_append]
 rw[eo]
 obtain⟨H3,e0,x3,k3⟩:=cT ho (.lst ((cG (List.range cs.length++ns)).map V.int))
 rw[e0]
 have noa:=bJ ho f2
 have e3:eR a H H3:=(Same.ext x1).trans (x2.trans (Same.ext x3))
 have f3:=Same.flow x3 f2
 -- the owners
 have owl:(List.range cs.length++ns).length=cs.length+more:=by rw[List.length_append,List.length_range,nl]
 have ow0: ∀j,j<cs.length->(List.range cs.length++ns).getD j 0=j:= λj hj=>KKL.getD_at (by rw[List.getElem?_append_left (by rw[List.length_range];exact hj),List.getElem?_range hj])
 have owb: ∀j,j<cs.length+more->(List.range cs.length++ns).getD j 0<cs.length:= λj hj=>by
  rcases Nat.lt_or_ge j cs.length with z|z
  . rw[ow0 j z];exact z
  . have e:=List.getElem?_eq_getElem (l:=List.range cs.length++ns) (i:=j) (by omega);rw[KKL.getD_at e];rw[List.getElem?_append_right (by rw[List.length_range];exact z)]at e;exact nb _ (List.mem_of_getElem? e)
 generalize List.range cs.length++ns=ow at owl ow0 owb k3 ⊢
 clear eo h2 k1 hD hl hp ho x1 x2 x3 f1 f2 nb nl nla
 have hM3:nC H3 T G us cs m:=hM.ext e3 (by simp only[List.mem_cons,not_or];exact⟨naT,naG,nau⟩)
 refine⟨_,rfl,T,_,rfl,.inl (bB.of hM3.hT.at_),_,rfl,by rw[aW];omega,by rw[aW];omega,λD2 lA=> ?_⟩
 rw[show(((us.map V.ref).length:Nat):Int).toNat=cs.length by rw[aW];omega]
 refine alO (K:=K) (by omega) (by omega) lA k3 λH4 as x4 h4 hPa hfa=> ?_
 have hM4:=hM3.same x4
 have f4:=Same.flow x4 f3
 have k4:=x4 _ _ k3
 have e4:=e3.trans (Same.ext (a:=a) x4)
 have nD2:=bJ lA f3
 have nas:a∉as:= λhm=>bJ (hfa a hm) f3 rfl
 have nR: ∀s,s<cs.length->zS ow s ow.length≠ []:= λs hs z=>by
  have:s∈zS ow s ow.length:=List.mem_filter.mpr ⟨List.mem_range.mpr (by omega),decide_eq_true (ow0 s hs)⟩;rw[z]at this;cases this
 clear hM3 f3 k3 e3 lA x4 hfa
 refine⟨cL 0,λFo hFo=> ?_⟩
 have nFo:=bJ hFo f4
 have Fo0:=e4.free f4 hFo
 obtain⟨H5,e0,x5,k5⟩:=cT hFo (.lst [])
 rw[e0]
 have k5:H5 Fo=some (.lst (([]:List Addr).map V.ref)):=k5
 have f5:=Same.flow x5 f4
 have e5:=e4.trans (Same.ext (a:=a) x5)
 refine⟨_,rfl,o,rfl,⟨_,bB.of (x5 _ _ k4)⟩,eA (xs:=(cG ow).map V.int) (λi σ H'=> ∃(v7:Option V) (rs:List Addr) (rows:List (List Nat)),σ=[some (.ref a),some (.ref T),some (.ref G),some (.int (more:Int)),some (.ref o),some (.ref D2),some (.ref Fo),v7]/\rs.length=i/\H' Fo=some (.lst (rs.map V.ref))/\Paired (kA H') rs (rows.map cG)/\(∀j r,rows[j]?=some r-> ∃c,cs[ow.getD j 0]?=some c/\znL ow c.2 r)/\(∀u∈rs,H u=none)/\Fo∉rs/\aZ H' a/\(∀b u,b≠a->b≠Fo->H5 b=some u->H' b=some u)) ?_ ?_ ?_ ?_⟩
 . exact⟨none,[],[],rfl,rfl,k5,.nil,(by intro j r h;cases h),(by intro _ z;cases z),(by intro z;cases z),f5,λ_ _ _ _ h=>h⟩
 . rintro i σ H6 _ ⟨_,_,_,_,_,_,_,_,_,_,_,y6⟩;exact bB.of (y6 _ _ noa (aI k4 hFo) (x5 _ _ k4))
 . rintro i y σ H6 hy ⟨v7,rs,rows,rfl,hrs,zep,hP6,hR6,hf6,nF6,f6,y6⟩;rw[List.getElem?_map]at hy;obtain⟨z,hz,rfl⟩:=Option.map_eq_some_iff.mp hy;unfold cG at hz;rw[List.getElem?_map]at hz;obtain⟨st,hst,rfl⟩:=Option.map_eq_some_iff.mp hz;have hi:i<ow.length:=(List.getElem?_eq_some_iff.mp hst).1;have est:ow.getD i 0=st:=KKL.getD_at hst;have zqt:st<cs.length:=by rw[<-est];exact owb i (by omega)
   have ec:=List.getElem?_eq_getElem zqt;obtain⟨u,hu,hRu⟩:=fC hM4.hT.rows (qD ec);have nuF:u≠Fo:=aI hRu hFo;have nua:u≠a:= λe=>nau (e▸List.mem_of_getElem? hu);have T6:=y6 _ _ (Ne.symm naT) (aI hM4.hT.at_ hFo) (x5 _ _ hM4.hT.at_);have R6:=y6 _ _ nua nuF (x5 _ _ hRu);obtain⟨w1,w2⟩:=W.row _ (List.getElem_mem zqt);have al6:=y6 _ _ nD2 (aI h4 hFo) (x5 _ _ h4);refine⟨_,rfl,.inl ⟨rfl,_,bB.of zep⟩,_,rfl,_,rfl,T,_,_,_,rfl,rfl,bB.of T6,bD (by rw[List.getElem?_map,hu];rfl),u,rfl,⟨_,bB.of R6⟩,λD7 hD7=> ?_⟩;refine zxJ (K:=K) (n:=cs.length) (by omega) (by omega) w2 nR hD7 f6 R6 nua al6 nD2 (eB hPa λb r hb z=>y6 _ _ (λe=>nas (e▸hb)) (aI z hFo) (x5 _ _ z)) nas λys H7 bR f7 x7 h7=> ?_;have nD7:=bJ hD7 f6;have nDF:D7≠Fo:=Ne.symm (aI zep hD7);have zxn:=x7 _ _ nFo zep;have nra: ∀b∈rs,b≠a:= λb hb=>bJ (hf6 b hb) hF;have nDr:D7∉rs:= λhm=>by
    obtain⟨j,hj⟩:=List.getElem?_of_mem hm;obtain⟨_,_,z⟩:=cY hP6 hj;have z':H6 D7=_:=z;rw[hD7]at z';cases z'
   refine⟨Fo,_,_,rfl,rfl,zxn,by rw[aW];exact small (by omega),?_⟩;refine⟨_,rs++[D7],rows++[ys],rfl,by rw[List.length_append,hrs];rfl,by rw[List.map_append];exact aF,?_,λj r hj=> ?_,λb hb=> ?_,λhm=> ?_,f7.set (Ne.symm nFo),λb o' nb nF h=>by rw[aG nF];exact x7 _ _ nb (y6 _ _ nb nF h)⟩
   . rw[List.map_append];refine cZ (eB hP6 λb r hb z=> ?_) (.cons ?_ .nil)
     . show aO H7 Fo _ b=_
       have ne:b≠Fo:= λe=>nF6 (e▸hb);rw[aG ne];exact x7 _ _ (nra b hb) z
     . show aO H7 Fo _ D7=_
       rw[aG nDF];exact h7
   . have zki:rows.length=i:=by have:=Paired.length hP6;rw[aW]at this;omega
     rcases Nat.lt_or_ge j rows.length with z|z
     . rw[List.getElem?_append_left z]at hj;exact hR6 j r hj
     . rw[List.getElem?_append_right z]at hj;have ej:j=i:=by
        rcases Nat.lt_or_ge i j with z'|z'
        . rw[List.getElem?_eq_none_iff.mpr (by simp only[List.length_cons,List.length_nil];omega)]at hj;cases hj
        . omega
       subst ej;rw[zki,Nat.sub_self]at hj;cases hj;exact⟨_,by rw[est];exact ec,bR⟩
   . rcases List.mem_append.mp hb with z|z
     . exact hf6 b z
     . rw[List.mem_singleton.mp z];cases eq:H D7 with
       |none=>rfl
       |some o'=>
        have h5:=e5 _ _ nD7 eq;rw[y6 _ _ nD7 nDF h5]at hD7;cases hD7
   . rcases List.mem_append.mp hm with z|z
     . exact nF6 z
     . exact nDF (List.mem_singleton.mp z).symm
 . rintro σ H6 ⟨v7,rs,rows,rfl,hrs,zep,hP6,hR6,hf6,nF6,f6,y6⟩;rw[aW,bE]at hrs;have zki:rows.length=ow.length:=by have:=Paired.length hP6;rw[aW]at this;omega
   have o6:=y6 _ _ noa (aI k4 hFo) (x5 _ _ k4);have G6:=y6 _ _ (Ne.symm naG) (aI hM4.hG hFo) (x5 _ _ hM4.hG);refine⟨_,rfl,_,rfl,o,_,rfl,.inl (bB.of o6),_,rfl,by rw[aW,bE];omega,by rw[aW,bE];omega,λD8 hD8=> ?_⟩;rw[show((((cG ow).map V.int).length:Nat):Int).toNat=ow.length by rw[aW,bE];omega];refine zoY (K:=K) (by omega) hD8 o6 G6 λH8 x8 h8=>⟨cL 2,λt ht=> ?_⟩;have x9:Same H8 (aO H8 t (.tup [.ref Fo,.ref D8])):=aQ ht;have x89:=x8.trans x9
   -- the machine
   have zjr: ∀r∈rows.map cG,r.length=m/\ ∀x∈r,0<=x/\x<(ow.length:Int):= λr hr=>by
    obtain⟨rr,hrr,rfl⟩:=List.mem_map.mp hr;obtain⟨j,hj⟩:=List.getElem?_of_mem hrr;obtain⟨c,hc,b⟩:=hR6 j rr hj;refine⟨by rw[bE,b.len];exact(W.row c (List.mem_of_getElem? hc)).1,λx hx=> ?_⟩;obtain⟨y,hy,rfl⟩:=List.mem_map.mp hx;obtain⟨j',hj'⟩:=List.getElem?_of_mem hy;have:=(b.at_ j' y hj').1;omega
   have up:(cG ((List.range ow.length).filter λj=>decide (((ow.getD j 0:Nat):Int)∈mR cs cs.length))).Pairwise (·<·):=by
    unfold cG;exact List.pairwise_map.mpr (List.Pairwise.imp (λ{a b} h=>Int.ofNat_lt.mpr h) (List.Pairwise.filter _ List.pairwise_lt_range))
   obtain⟨ds,d1,d2,d3⟩:=zcz (tb:=rows.map cG) (gd:=cG ((List.range ow.length).filter λj=>decide (((ow.getD j 0:Nat):Int)∈mR cs cs.length))) (λr hr x hx=>((zjr r hr).2 x hx).1) up (λx hx=>by
    obtain⟨y,hy,rfl⟩:=List.mem_map.mp hx;have:=List.mem_range.mp (List.mem_filter.mp hy).1;rw[aW,zki];omega)
   rw[aW,zki]at d1;have Wd:Wc m ds:=zcP (by omega) (by rw[d2];exact λr hr=>(zjr r hr).1) (by rw[d2,d1];exact λr hr x hx=>((zjr r hr).2 x hx).2);refine q t Fo D8 rs ds _ ⟨by omega,λj=>ow.getD j 0,ow0 0 c1,λj hj=> ?_,λj a' hj ha'=> ?_⟩ ⟨by rw[d2];exact⟨x89 _ _ zep,Paired.mapP hP6 λ_ _ z=>x89 _ _ z,λr hr=>(zjr r hr).1,by rw[aW];omega⟩,by rw[d3];exact x9 _ _ h8,Wd⟩ (λb hb=> ?_) (Same.flow x89 f6) ?_ aF
   . -- good
     have hj':j<ow.length:=by omega
     have ej:=List.getElem?_eq_getElem hj;have e1:(ds.getD j (false,[])).1=decide (((ow.getD j 0:Nat):Int)∈mR cs cs.length):=by
      rw[Bool.eq_iff_iff,decide_eq_true_iff];have gm:=tH (cs:=ds) (n:=ds.length) (x:=(j:Int));rw[d3]at gm
      constructor
      . intro h;have:=gm.mpr ⟨j,hj,rfl,h⟩;obtain⟨y,hy,ey⟩:=List.mem_map.mp this;have ey':y=j:=Int.ofNat_inj.mp ey;subst ey';exact of_decide_eq_true (List.mem_filter.mp hy).2
      . intro h;obtain⟨j2,_,e2,h2⟩:=gm.mp (List.mem_map.mpr ⟨j,List.mem_filter.mpr ⟨List.mem_range.mpr hj',decide_eq_true h⟩,rfl⟩);rw[Int.ofNat_inj.mp e2];exact h2
     show(ds.getD j (false,[])).1=(cs.getD (ow.getD j 0) (false,[])).1
     rw[e1,Bool.eq_iff_iff,decide_eq_true_iff,tH]
     constructor
     . rintro⟨j2,_,e2,h2⟩;rw[Int.ofNat_inj.mp e2];exact h2
     . intro h;exact⟨_,owb j (by omega),rfl,h⟩
   . have hj':j<rows.length:=by omega
     have er:=List.getElem?_eq_getElem hj';obtain⟨c,hc,b⟩:=hR6 j _ er;have ed:=List.getElem?_eq_getElem hj;have etb:=qD ed;rw[d2,List.getElem?_map,er]at etb;have ers:rows[j]=ds[j].2:=yE (Option.some.inj etb);rw[wU ed,wU hc,<-ers];have hal:a'<(rows[j]).length:=by rw[b.len,(W.row c (List.mem_of_getElem? hc)).1];exact ha'
     have ea:=List.getElem?_eq_getElem hal;rw[KKL.getD_at ea];exact(KKL.getD_at (b.at_ a' _ ea).2).symm
   . rcases List.mem_cons.mp hb with rfl|hb
     . exact Fo0
     rcases List.mem_cons.mp hb with rfl|hb
     . cases eq:H b with
       |none=>rfl
       |some o'=>
        have nb:=bJ hD8 f6;have h5:=e5 _ _ nb eq;rw[y6 _ _ nb (Ne.symm (aI zep hD8)) h5]at hD8;cases hD8
     . exact hf6 b hb
   . intro b o' nb h;have nF:b≠Fo:=aI h Fo0;exact x89 _ _ (y6 _ _ nb nF (e5 _ _ nb h))
end KK
namespace KK
open PySem L2 PyProof.Rows KKM
variable {P:Program}{w:World}{K:W.Frag}{mg:Str->Option Value}{base:Heap}{f g g2 g3 g4:Addr}{fd gd vO gd3 xL:FuncData}{k:Nat}
abbrev iC:Stmt:=top 26
abbrev jB:Stmt:=top 30
abbrev Row:=Str×List Str
def uW(H:Hp)(t:Addr)(r:Row):Prop:= ∃d,H t=some (.tup [.str r.1,.ref d])/\H d=some (.tup (r.2.map V.str))
theorem uW.keep{H H':Hp}{t:Addr}{r:Row}(k:TK H H')(h:uW H t r):uW H' t r:=let⟨d,h1,h2⟩:=h;⟨d,k _ _ h1,k _ _ h2⟩
abbrev jZ(H:Hp):List Addr->List Row->Prop:=Paired (uW H)
theorem jZ.keep{H H':Hp}(k:TK H H'): ∀{ts:List Addr} {rs:List Row},jZ H ts rs->jZ H' ts rs
 |_,_,.nil=> .nil
 |_,_,.cons h r=> .cons (h.keep k) (jZ.keep k r)
theorem jZ.get{H:Hp}: ∀{ts:List Addr} {rs:List Row} {i:Nat} {t:Addr},jZ H ts rs->ts[i]?=some t-> ∃r,rs[i]?=some r/\uW H t r
 |_,_,_,_,.nil,e=>by simp at e
 |_,_,0,_,.cons h _,e=>by
  have e':=Option.some.inj (show some _=some _ from e);subst e';exact⟨_,rfl,h⟩
 |_,_,i+1,_,.cons _ r,e=>jZ.get (i:=i) r (by simpa using e)
def oJ(H:Hp)(L:Addr)(rs:List Row):Prop:= ∃ts:List Addr,H L=some (.lst (ts.map V.ref))/\jZ H ts rs
theorem oJ.same{L:Addr}{H H':Hp}{rs:List Row}(h:oJ H L rs)(x:Same H H'):oJ H' L rs:=let⟨ts,h1,h2⟩:=h;⟨ts,x _ _ h1,h2.keep (Same.tk x)⟩
abbrev Srt(l:List Str):Prop:=l.Pairwise λa b=>a.cps.toList<=b.cps.toList
structure zrE(rs:List Row):Prop where
 ne:rs≠ []
 len:rs.length<=6
 nd:(rs.map (·.1)).Nodup
 row: ∀r∈rs,r.2≠ []/\r.2.length<=4/\r.2.Nodup
 nm:Bd (rs.map (·.1))
 dn: ∀r∈rs,Bd r.2
 few: ∃ds:List Str,ds.length<=4/\ ∀r∈rs,∀d∈r.2,d∈ds
 srt: ∀r∈rs,Srt r.2
def bW(ms:List Int):Int:=ms.foldr (· * ·) 1
def eE:Int->List Int->List Int
 |_,[]=>[]
 |s,m::ms=>s % m::eE (s / m) ms
def lB:List Int->List Int->Int
 |p::ps,m::ms=>lB ps ms * m+p
 |_,_=>0
structure Pt(ps ms:List Int):Prop where
 len:ps.length=ms.length
 lo: ∀(i:Nat) (p m:Int),ps[i]?=some p->ms[i]?=some m->0<=p/\p<m
theorem Pt.tail{p m:Int}{ps ms:List Int}(h:Pt (p::ps) (m::ms)):(0<=p/\p<m)/\Pt ps ms:=
 ⟨h.lo 0 p m rfl rfl,Nat.succ.inj h.len,λi p' m' a b=>h.lo (i+1) p' m' (by simpa using a) (by simpa using b)⟩
theorem Pt.cons{p m:Int}{ps ms:List Int}(h:0<=p/\p<m)(t:Pt ps ms):Pt (p::ps) (m::ms):=
 ⟨congrArg (·+1) t.len,λi p' m' a b=>by
  cases i with
  |zero=>cases Option.some.inj a;cases Option.some.inj b;exact h
  |succ i=>exact t.lo i p' m' (by simpa using a) (by simpa using b)⟩
theorem gY: ∀{ms:List Int},(∀m∈ms,0<m)->0<bW ms
 | [],_=>by decide
 |m::ms,h=>by
  show 0<m * bW ms
  exact Int.mul_pos (h m List.mem_cons_self) (gY λz hz=>h z (List.mem_cons_of_mem _ hz))
theorem wC: ∀(ms:List Int) (s:Int),(eE s ms).length=ms.length
 | [],_=>rfl
 |m::ms,s=>congrArg (·+1) (wC ms (s / m))
theorem sY: ∀{ms:List Int},(∀m∈ms,0<m)-> ∀s,Pt (eE s ms) ms
 | [],_,_=>⟨rfl,λi p m a _=>by simp[eE]at a⟩
 |m::ms,h,s=>by
  have hm:=h m List.mem_cons_self;exact .cons ⟨Int.emod_nonneg _ (by omega),Int.emod_lt_of_pos _ hm⟩ (sY (λz hz=>h z (List.mem_cons_of_mem _ hz)) (s / m))
theorem yA: ∀{ps ms:List Int},Pt ps ms->0<=lB ps ms/\lB ps ms<bW ms
 | [],[],_=>by decide
 | [],_::_,h=>by have:=h.len;simp at this
 |_::_,[],h=>by have:=h.len;simp at this
 |p::ps,m::ms,h=>by
  obtain⟨⟨a,b⟩,t⟩:=h.tail;obtain⟨c,d⟩:=yA t;show 0<=lB ps ms * m+p/\lB ps ms * m+p<m * bW ms;have hm:0<m:=by omega
  have e1:0<=lB ps ms * m:=Int.mul_nonneg c (by omega);have e2:(lB ps ms+1) * m<=bW ms * m:=Int.mul_le_mul_of_nonneg_right (by omega) (by omega);rw[Int.add_mul,Int.one_mul]at e2;rw[Int.mul_comm m];omega
def dR(ps:List Int)(zs:List (Nat×Int)):List Int:=zs.foldl (λq z=>q.set z.1 z.2) ps
theorem gL: ∀(zs:List (Nat×Int)) (ps:List Int),(dR ps zs).length=ps.length
 | [],_=>rfl
 |z::zs,ps=>by
  show(dR (ps.set z.1 z.2) zs).length=_
  rw[gL zs,List.length_set]
theorem uV: ∀{zs:List (Nat×Int)} {ps:List Int},(zs.map (·.1)).Nodup->(∀z∈zs,z.1<ps.length)-> ∀i:Nat,(dR ps zs)[i]?=(zs.lookup i).or ps[i]?
 | [],ps,_,_,i=>rfl
 |z::zs,ps,nd,hl,i=>by
  rw[List.map_cons,List.nodup_cons]at nd;show(dR (ps.set z.1 z.2) zs)[i]?=_;rw[uV (ps:=ps.set z.1 z.2) nd.2 (λy hy=>by rw[List.length_set];exact hl y (List.mem_cons_of_mem _ hy)) i];obtain⟨a,v⟩:=z
  by_cases e:i=a
  . subst e;have hn:zs.lookup i=none:=by
     rw[List.lookup_eq_none_iff];intro y hy;exact bne_iff_ne.mpr λhb=>nd.1 (List.mem_map.mpr ⟨y,hy,hb.symm⟩)
    have hi:=hl (i,v) List.mem_cons_self;rw[hn,List.lookup_cons];simp[hi]
  . have eb:(i==a)=false:=beq_eq_false_iff_ne.mpr e;rw[List.lookup_cons,eb,List.getElem?_set_ne (λz=>e z.symm)]
structure AD where
 pl:List Nat
 mv:List (List Int)
 st:Int
def dF(pl:List Nat)(ps:List Int):List Int:=pl.map λi=>ps.getD i 0
def jQ(ms:List Int)(a:AD)(ps:List Int):List Int:=a.mv.getD (lB (dF a.pl ps) (dF a.pl ms)).toNat []
def iA(ms:List Int):Nat:=ms.length - 1
def vK(ms:List Int)(a:AD)(ps:List Int):List Int:=
 (dR ps (a.pl.zip (jQ ms a ps))).set (iA ms) (((dR ps (a.pl.zip (jQ ms a ps))).getD (iA ms) 0+a.st) % ms.getD (iA ms) 0)
structure OkA(ms:List Int)(a:AD):Prop where
 nd:a.pl.Nodup
 lt: ∀i∈a.pl,i<iA ms
 len:(a.mv.length:Int)=bW (dF a.pl ms)
 row: ∀r∈a.mv,Pt r (dF a.pl ms)
theorem zfn{ms ps:List Int}{pl:List Nat}(h:Pt ps ms)(hl: ∀i∈pl,i<iA ms):Pt (dF pl ps) (dF pl ms):=by
 refine⟨by unfold dF;rw[aW,aW],λi p m a b=> ?_⟩
 unfold dF at a b
 rw[List.getElem?_map]at a b
 obtain⟨j,hj,rfl⟩:=Option.map_eq_some_iff.mp a
 rw[hj]at b
 cases Option.some.inj b
 have eY:=hl j (List.mem_of_getElem? hj)
 have h1:j<ms.length:=by unfold iA at eY;omega
 have h2:j<ps.length:=by rw[h.len];exact h1
 refine h.lo j _ _ ?_ ?_
 . rw[List.getD_eq_getElem?_getD,List.getElem?_eq_getElem h2];rfl
 . show ms[j]?=some (ms.getD j 0)
   rw[List.getD_eq_getElem?_getD,List.getElem?_eq_getElem h1];rfl
theorem yN{ms ps:List Int}{a:AD}(h:Pt ps ms)(o:OkA ms a):Pt (jQ ms a ps) (dF a.pl ms):=by
 obtain⟨c,d⟩:=yA (zfn h o.lt)
 rw[<-o.len]at d
 have hi:(lB (dF a.pl ps) (dF a.pl ms)).toNat<a.mv.length:=by omega
 unfold jQ
 rw[List.getD_eq_getElem?_getD,List.getElem?_eq_getElem hi]
 exact o.row _ (List.getElem_mem hi)
theorem yX: ∀{pl:List Nat} {vs:List Int},vs.length=pl.length->(pl.zip vs).map (·.1)=pl
 | [],_,_=>rfl
 |_::_,[],h=>by cases h
 |p::pl,v::vs,h=>by
  show p::(pl.zip vs).map (·.1)=_
  rw[yX (Nat.succ.inj h)]
theorem zaa{pl:List Nat}{vs:List Int}{i:Nat}(h:i∉pl):(pl.zip vs).lookup i=none:=by
 rw[List.lookup_eq_none_iff]
 intro y hy
 exact bne_iff_ne.mpr λe=>h (e▸(List.of_mem_zip (show(y.1,y.2)∈_ from hy)).1)
theorem lV: ∀{zs:List (Nat×Int)} {i:Nat} {v:Int},zs.lookup i=some v->(i,v)∈zs
 | [],_,_,h=>by cases h
 |(a,w)::zs,i,v,h=>by
  rw[List.lookup_cons]at h
  by_cases e:i=a
  . subst e;rw[beq_self_eq_true]at h;cases Option.some.inj h;exact List.mem_cons_self
  . rw[beq_eq_false_iff_ne.mpr e]at h;exact List.mem_cons_of_mem _ (lV h)
theorem zjg{ms ps:List Int}{a:AD}(h:Pt ps ms)(o:OkA ms a)(i:Nat):(vK ms a ps)[i]?=if i=iA ms/\i<ms.length then some ((ps.getD i 0+a.st) % ms.getD i 0)else((a.pl.zip (jQ ms a ps)).lookup i).or ps[i]?:=by
 have gl:(jQ ms a ps).length=a.pl.length:=by rw[(yN h o).len];unfold dF;rw[aW]
 have G:= λj=>uV (zs:=a.pl.zip (jQ ms a ps)) (ps:=ps) (by rw[yX gl];exact o.nd) (λz hz=>by
  have:=o.lt z.1 (by have:=List.mem_map_of_mem (f:=(·.1)) hz;rw[yX gl]at this;exact this);rw[h.len];unfold iA at this;omega) j
 unfold vK
 by_cases e:i=iA ms/\i<ms.length
 . rw[if_pos e];obtain⟨rfl,eY⟩:=e;rw[List.getElem?_set_self (by rw[gL,h.len];exact eY)];have hn:iA ms∉a.pl:= λz=>Nat.lt_irrefl _ (o.lt _ z);rw[List.getD_eq_getElem?_getD,G,zaa hn,Option.none_or,<-List.getD_eq_getElem?_getD]
 . rw[if_neg e]
   by_cases e1:i=iA ms
   . have:ms.length=0:=by unfold iA at e1;rcases Nat.eq_zero_or_pos ms.length with z|z;exact z;exact absurd ⟨e1,by omega⟩ e
     have hp:ps=[]:=List.length_eq_zero_iff.mp (h.len.trans this);have hn:i∉a.pl:= λz=>by have:=o.lt _ z;omega
     rw[zaa hn,Option.none_or,hp];have:(dR [] (a.pl.zip (jQ ms a []))).length=0:=by rw[gL];rfl
     rw[List.length_eq_zero_iff.mp this];rfl
   . rw[List.getElem?_set_ne (λz=>e1 z.symm),G]
theorem zde{ms ps:List Int}{a:AD}:(vK ms a ps).length=ps.length:=by
 unfold vK
 rw[List.length_set,gL]
theorem znJ{ms ps:List Int}{a:AD}(hm: ∀m∈ms,0<m)(h:Pt ps ms)(o:OkA ms a):Pt (vK ms a ps) ms:=by
 refine⟨zde.trans h.len,λi p m hp hq=> ?_⟩
 have gp:=yN h o
 rw[zjg h o]at hp
 by_cases e:i=iA ms/\i<ms.length
 . rw[if_pos e]at hp;cases Option.some.inj hp;have em:ms.getD i 0=m:=by rw[List.getD_eq_getElem?_getD,hq];rfl
   rw[em];have:=hm m (List.mem_of_getElem? hq);exact⟨Int.emod_nonneg _ (by show m≠0;omega),Int.emod_lt_of_pos _ this⟩
 . rw[if_neg e]at hp;cases el:(a.pl.zip (jQ ms a ps)).lookup i with
   |none=>
    rw[el,Option.none_or]at hp;exact h.lo i p m hp hq
   |some v=>
    rw[el,Option.some_or]at hp;cases Option.some.inj hp;have zxh:=lV el;obtain⟨j,hj⟩:=List.getElem?_of_mem zxh;rw[List.getElem?_zip_eq_some]at hj;refine gp.lo j _ m hj.2 ?_;unfold dF;rw[List.getElem?_map,hj.1];show some (ms.getD i 0)=some m;rw[List.getD_eq_getElem?_getD,hq];rfl
def qW(ms:List Int)(a:AD)(s:Int):Int:=lB (vK ms a (eE s ms)) ms
theorem znm{ms:List Int}{a:AD}(hm: ∀m∈ms,0<m)(o:OkA ms a)(s:Int):0<=qW ms a s/\qW ms a s<bW ms:=yA (znJ hm (sY hm s) o)
def wH:Sp:= λvs H Q _=> ∃(L:Addr) (rs:List Row),vs=[.ref L]/\oJ H L rs/\rs.length<=7/\(∀r∈rs,r.2.length<=8/\r.2.Nodup)/\
 ∀(r:Addr) (zs:List Str) (H':Hp),sortedS zs=true->zs.Nodup->zs.length<=56->(∀d,d∈zs↔ ∃x∈rs,d∈x.2)->H r=none->Same H H'->H' r=some (.lst (zs.map V.str))->Q (.ref r) H'
theorem rA:bS ["_law_rows","_law_found","_law_letter","_law_some"] ["_law_rows"] (aE jB):=(.of rfl rfl rfl rfl (by decide+kernel))
theorem zjl{D d q:Addr}{Q:VK}{H1:Hp}{ds fo:List Str}(hl:ds.length<=1000)(hD:H1 D=none)(hd:H1 d=some (.tup (ds.map V.str)))(hq:H1 q=some (.lst (fo.map V.str)))
 (fM: ∀H',Same H1 H'->H' D=some (.lst ((ds.filter λz=>decide (z∉fo)).map V.str))->Q (.ref D) H'):
 bH (Itt K d) D (bA 0) (gU (dW (rIn K true) (aL 0) (aL 1))) (aL 0) Q [none,some (.ref q)] H1:=by
 refine mK (xs:=ds.map V.str) (λi ys σ H=> ∃v:Option V,ys=((ds.take i).filter λz=>decide (z∉fo)).map V.str/\σ=[v,some (.ref q)]/\Same H1 H) ?_ (by rw[aW];omega) ?_ ?_ ?_ ?_
 . exact⟨none,rfl,rfl,aQ hD⟩
 . rintro i ys σ H ⟨v,rfl,_⟩;rw[aW];exact Nat.le_trans (List.length_filter_le _ _) (by rw[List.length_take];omega)
 . rintro i ys σ H ⟨v,_,_,x⟩;exact eS.of (x _ _ hd)
 . rintro i y ys σ H hy bZ ⟨v,rfl,rfl,x⟩;rw[List.getElem?_map]at hy;obtain⟨z,hz,rfl⟩:=Option.map_eq_some_iff.mp hy;refine⟨_,rfl,_,rfl,q,_,rfl,.inl (bB.of (x _ _ hq)),rfl,mT fo,_,rfl,?_⟩;refine iX (λb=> ?_) (λb=> ?_)
   . have hn:z∉fo:=mF.mp (by simpa using b);refine⟨_,rfl,bZ,_,?_,rfl,x.at hD⟩;rw[bO hz,mH,if_pos (by simpa using hn),List.map_append];rfl
   . have hn: ¬z∉fo:= λc=>b (by rw[if_pos rfl,mF.mpr c];rfl);refine⟨bZ,_,?_,rfl,x⟩;rw[bO hz,mH,if_neg (by simpa using hn)]
 . rintro ys σ H bZ ⟨v,rfl,_,x⟩;rw[aW,List.take_length]at bZ;exact fM H x bZ
theorem z9(F:lH K "_law_desks" "_law_desks" jB f fd)(B:Bt mg):dG P w K mg base fV (k+1) f fd ["_law_rows"] wH:=by
 refine F.ok rA (λvs H Q E h=> ?_) (λcdv A outer s H vs Q E hr h=> ?_)
 . obtain⟨L,rs,rfl,_⟩:=h;rfl
 obtain⟨L,rs,rfl,⟨ts,hL,hT⟩,h7,hR,q⟩:=h
 have nd:=rA.nd
 have dL:=Paired.length hT
 refine⟨_,(aD (aM (i:=1) nd rfl (Or.inr rfl) (bV aC)) (aD (cM PassesOwn.never rfl (cE (pv 0)) (iO rfl (bX (aK (i:=2) nd rfl (Or.inl rfl)) (bX (aK (i:=3) nd rfl (Or.inl rfl)) fO))) (aJ (cV (fE PySem.F.plainAttrs_list PySem.F.slot_list_extend PySem.F.type_list_extend qU (pv 1) (aA (cD (g:=(bA 0)) (tc:=(gU (dW (rIn K true) (aL 0) (aL 1)))) (te:=(aL 0)) (own:=["_law_desk"]) (fr:=["_law_found"]) (idx:=[1]) rfl (by show aP _ _ _ (aE jB);exact(.of rfl (by decide+kernel))) (uL (pv 3)) (λ_ _ _ _ _=>(aK (i:=0) (by show List.Nodup (["_law_desk","_law_found"]:List Str);decide+kernel) rfl (Or.inl rfl) (Or.inr rfl))) (λ_ _ _ _ _=>jD (cF iG (pv 0) (pv 1) rfl)) (λ_ _ _ _ _=>(pv 0)) rfl (cA rfl)) aC))))) (aJ (cH (aY kQ rfl B.sorted_ (by decide+kernel) (aA (pv 1) aC)))))),?_⟩
 try dsimp only[dM,Cx.nox,Cx.wish]
 refine sM ?_
 intro D0 σ0 U3 U2
 refine⟨cL 0,λq0 zO=> ?_⟩
 refine⟨_,rfl,L,rfl,⟨_,bB.of ((aQ zO) _ _ hL)⟩,eA (xs:=ts.map V.ref)
  (λi σ H'=> ∃(fo:List Str) (v2 v3:Option V),σ=[some (.ref L),some (.ref q0),v2,v3]/\H' q0=some (.lst (fo.map V.str))/\fo.Nodup/\fo.length<=8 * i/\(∀d,d∈fo↔ ∃x∈rs.take i,d∈x.2)/\Same H H') ?_ ?_ ?_ ?_⟩
 . exact⟨[],none,none,rfl,aF,List.nodup_nil,Nat.zero_le _,λd=>by simp,aQ zO⟩
 . rintro i σ H1 _ ⟨fo,v2,v3,_,_,_,_,_,x⟩;exact bB.of (x _ _ hL)
 . rintro i y σ H1 hy ⟨fo,v2,v3,rfl,h1,nd1,l1,m1,x1⟩;rw[List.getElem?_map]at hy;obtain⟨t,ht,rfl⟩:=Option.map_eq_some_iff.mp hy;obtain⟨r,kD,d,e1,e2⟩:=hT.get ht;have hm:=List.mem_of_getElem? kD;obtain⟨r8,rnd⟩:=hR r hm;have hi:i<rs.length:=(List.getElem?_eq_some_iff.mp kD).1;refine⟨t,_,rfl,eS.of (x1 _ _ e1),rfl,_,_,rfl,_,_,rfl,rfl,?_⟩;refine⟨_,rfl,.inl ⟨rfl,_,bB.of h1⟩,_,rfl,d,rfl,⟨_,eS.of (x1 _ _ e2)⟩,λD hD=>zjl (K:=K) (by omega) hD (x1 _ _ e2) h1 λH2 x2 lA=> ?_⟩;have hlf:(r.2.filter λz=>decide (z∉fo)).length<=r.2.length:=List.length_filter_le _ _;refine⟨q0,D,fo.map V.str,_,rfl,rfl,x2 _ _ h1,lA,Nat.le_of_lt (small (by rw[aW,aW];omega)),fo++(r.2.filter λz=>decide (z∉fo)),_,_,rfl,by rw[aF,List.map_append],?_,by rw[List.length_append];omega,?_,(x1.trans x2).at zO⟩
   . rw[List.nodup_append];refine⟨nd1,oZ rnd,λa ha b hb e=> ?_⟩;have hb2:=(List.mem_filter.mp hb).2;rw[e]at ha;exact absurd ha (by simpa using hb2)
   . intro d';rw[bO kD,List.mem_append,m1 d']
     constructor
     . rintro(⟨x,hx,hd⟩|hd)
       . exact⟨x,List.mem_append_left _ hx,hd⟩
       . exact⟨r,List.mem_append_right _ (List.mem_singleton.mpr rfl),(List.mem_filter.mp hd).1⟩
     . rintro⟨x,hx,hd⟩
       rcases List.mem_append.mp hx with hx|hx
       . exact .inl ⟨x,hx,hd⟩
       . rw[List.mem_singleton.mp hx]at hd
         by_cases hf:d'∈fo
         . exact .inl ((m1 d').mp hf)
         . exact .inr (List.mem_filter.mpr ⟨hd,by simpa using hf⟩)
 . rintro σ H1 ⟨fo,v2,v3,rfl,h1,nd1,l1,m1,x1⟩;rw[aW]at l1 m1;rw[dL,List.take_length]at m1;refine⟨_,rfl,q0,fo,rfl,bB.of h1,by omega,λl zs hl hp hs=> ?_⟩;exact q l zs _ hs (hp.nodup_iff.mpr nd1) (by rw[hp.length_eq];omega) (λd=>by rw[hp.mem_iff];exact m1 d) (x1.free hl) (x1.trans (aQ hl)) aF
theorem zts{r:Int}(h0:0<=r)(h1:r<8): ∃m:Int,mL [V.int 3,V.int 4,V.int 2,V.int 5,V.int 3,V.int 4,V.int 6,V.int 1] r=some (.int m)/\1<=m/\m<=6:=by
 obtain⟨n,rfl⟩:=Int.eq_ofNat_of_zero_le h0
 match n,h1 with
 |0,_=>exact⟨3,bD (j:=0) rfl,by decide,by decide⟩
 |1,_=>exact⟨4,bD (j:=1) rfl,by decide,by decide⟩
 |2,_=>exact⟨2,bD (j:=2) rfl,by decide,by decide⟩
 |3,_=>exact⟨5,bD (j:=3) rfl,by decide,by decide⟩
 |4,_=>exact⟨3,bD (j:=4) rfl,by decide,by decide⟩
 |5,_=>exact⟨4,bD (j:=5) rfl,by decide,by decide⟩
 |6,_=>exact⟨6,bD (j:=6) rfl,by decide,by decide⟩
 |7,_=>exact⟨1,bD (j:=7) rfl,by decide,by decide⟩
 |n+8,h=>exact absurd h (by omega)
def yV(m:Int)(j:Nat):Bool:=decide (V.int (Builtin.bitAnd (m / 2^((0+(j:Int))).toNat) 1)=V.int 1)
theorem zfG{m c:Nat}(hc:c<=4)(h0:1<=m)(h1:m<2^c): ∃j,j<c/\yV (m:Int) j=true:=by
 have hm:m<16:=Nat.lt_of_lt_of_le h1 (Nat.le_trans (Nat.pow_le_pow_right (by decide) hc) (by decide))
 have all: ∀(m:Fin 16) (c:Fin 5),1<=m.val->m.val<2^c.val-> ∃j:Fin 4,j.val<c.val/\yV (m.val:Int) j.val=true:=by decide+kernel
 obtain⟨j,h2,h3⟩:=all ⟨m,hm⟩ ⟨c,by omega⟩ h0 h1
 exact⟨j.val,h2,h3⟩
def dH(zs:List Str)(m:Int)(n:Nat):List Str:=((List.range n).filter (yV m)).map λj=>zs.getD j ""
theorem pT{zs:List Str}{m:Int}{n:Nat}(h:zs.Nodup)(hn:n<=zs.length):(dH zs m n).Nodup:=by
 refine KKM.nodup_map_on (λa ha b hb e=> ?_) (oZ List.nodup_range)
 have la:a<zs.length:=Nat.lt_of_lt_of_le (List.mem_range.mp (List.mem_filter.mp ha).1) hn
 have lb:b<zs.length:=Nat.lt_of_lt_of_le (List.mem_range.mp (List.mem_filter.mp hb).1) hn
 rw[List.getD_eq_getElem?_getD,List.getD_eq_getElem?_getD,List.getElem?_eq_getElem la,List.getElem?_eq_getElem lb]at e
 exact(List.getElem_inj h).mp e
theorem uR{zs:List Str}{m:Int}{n:Nat}(h:Srt zs)(hn:n<=zs.length):Srt (dH zs m n):=by
 unfold dH Srt
 rw[List.pairwise_map]
 refine List.Pairwise.imp_of_mem (R:= λa b=>a<b) (λ{a b} ha hb i8=> ?_) (List.Pairwise.filter _ List.pairwise_lt_range)
 have la:a<zs.length:=Nat.lt_of_lt_of_le (List.mem_range.mp (List.mem_filter.mp ha).1) hn
 have lb:b<zs.length:=Nat.lt_of_lt_of_le (List.mem_range.mp (List.mem_filter.mp hb).1) hn
 rw[List.getD_eq_getElem?_getD,List.getD_eq_getElem?_getD,List.getElem?_eq_getElem la,List.getElem?_eq_getElem lb]
 exact(List.pairwise_iff_getElem.mp h) a b la lb i8
theorem sN{zs:List Str}{m:Int}{n:Nat}(hn:n<=zs.length){d:Str}(hd:d∈dH zs m n):d∈zs:=by
 obtain⟨j,hj,rfl⟩:=List.mem_map.mp hd
 have lj:j<zs.length:=Nat.lt_of_lt_of_le (List.mem_range.mp (List.mem_filter.mp hj).1) hn
 rw[List.getD_eq_getElem?_getD,List.getElem?_eq_getElem lj]
 exact List.getElem_mem lj
theorem nY(zs:List Str)(m:Int)(n:Nat):(dH zs m n).length<=n:=by
 unfold dH
 rw[aW]
 exact Nat.le_trans (List.length_filter_le _ _) (by rw[List.length_range];exact Nat.le_refl _)
theorem vV{zs:List Str}{m:Int}{n:Nat}(hc:n<=4)(h0:1<=m)(h1:m<2^n):dH zs m n≠ []:= λe=>by
 have h2:((m.toNat:Nat):Int)<((2^n:Nat):Int):=by rw[Int.natCast_pow];exact Int.lt_of_le_of_lt (by omega) h1
 obtain⟨j,hj,hb⟩:=zfG (m:=m.toNat) (c:=n) hc (by omega) (by exact_mod_cast h2)
 have em:((m.toNat:Nat):Int)=m:=by omega
 rw[em]at hb
 have:j∈(List.range n).filter (yV m):=List.mem_filter.mpr ⟨List.mem_range.mpr hj,hb⟩
 have nR:(List.range n).filter (yV m)=[]:=by
  unfold dH at e;exact List.map_eq_nil_iff.mp e
 rw[nR]at this
 cases this
theorem zld{D l:Addr}{Q:VK}{H1:Hp}{zs:List Str}{m:Int}{n:Nat}(hn:n<=4)(hz:zs.length=n)(hD:H1 D=none)(hl:H1 l=some (.lst (zs.map V.str)))
 (hd: ∀H',Same H1 H'->H' D=some (.lst ((dH zs m n).map V.str))->Q (.ref D) H'):
 bH (vB 0 n) D (bA 0) (gU (dW rEq (dW (rI0 λi j=> .int (Builtin.bitAnd i j)) (dW (rI (λ_ j=>0<=j) λi j=> .int (i / 2^j.toNat)) (aL 2) (aL 0)) (tC (.int 1))) (tC (.int 1)))) (dW (eC K) (aL 1) (aL 0)) Q [none,some (.ref l),some (.int m)] H1:=by
 refine cR (λi ys σ H=> ∃v:Option V,ys=(dH zs m i).map V.str/\σ=[v,some (.ref l),some (.int m)]/\Same H1 H) ?_ (by omega) ?_ ?_ ?_
 . exact⟨none,rfl,rfl,aQ hD⟩
 . rintro i ys σ H ⟨v,rfl,_⟩;rw[aW];exact nY zs m i
 . rintro i ys σ H hi bZ ⟨v,rfl,rfl,x⟩;have hi2:i<zs.length:=by omega
   refine⟨_,rfl,_,rfl,_,_,rfl,rfl,by omega,_,_,rfl,rfl,rfl,_,rfl,?_⟩;have step:dH zs m (i+1)=if yV m i=true then dH zs m i++[zs[i]]else dH zs m i:=by
    unfold dH;rw[List.range_succ,mH]
    by_cases hb:yV m i=true
    . rw[if_pos hb,if_pos hb,List.map_append,List.map_cons,List.map_nil,List.getD_eq_getElem?_getD,List.getElem?_eq_getElem hi2];rfl
    . rw[if_neg hb,if_neg hb]
   refine iX (λb=> ?_) (λb=> ?_)
   . have hb:yV m i=true:=b;refine⟨_,rfl,_,rfl,l,_,_,.str zs[i],rfl,rfl,bB.of (x _ _ hl),?_,bZ,_,?_,rfl,x.at hD⟩
     . have e0:(0+(i:Int))=((i:Nat):Int):=by omega
       rw[e0];exact bD (by rw[List.getElem?_map,List.getElem?_eq_getElem hi2];rfl)
     . rw[step,if_pos hb,List.map_append];rfl
   . have hb: ¬yV m i=true:=b;refine⟨bZ,_,?_,rfl,x⟩;rw[step,if_neg hb]
 . rintro ys σ H bZ ⟨v,rfl,_,x⟩;exact hd H x bZ
def zaJ:Sp:= λvs H Q _=> ∃(a:Addr) (c:Int),vs=[.ref a,.int c]/\aZ H a/\1<=c/\c<=4/\
 ∀(L:Addr) (rs:List Row) (H':Hp),zrE rs->L≠a->H L=none->aZ H' a->eR a H H'->oJ H' L rs->Q (.ref L) H'
theorem wP:bS ["_law_flow_here","_law_count","_law_desks_here","_law_letters","_law_rows","_law_letter","_law_mask"] ["_law_flow_here","_law_count"] (aE iC):=(.of rfl rfl rfl rfl (by decide+kernel))
theorem zen(F:lH K "_law_houses" "_law_houses" iC f fd)(B:Bt mg)(aN:Fn P w K mg base k "_law_draw" ["_law_flow_here","_law_many"] cO g gd)(cI:Fn P w K mg base k "_law_names" ["_law_flow_here","_law_many"] mS g2 vO):
 dG P w K mg base fV (k+1) f fd ["_law_flow_here","_law_count"] zaJ:=by
 refine F.ok wP (λvs H Q E h=> ?_) (λcdv A outer s H vs Q E hr h=> ?_)
 . obtain⟨a,c,rfl,_⟩:=h;rfl
 obtain⟨a,c,rfl,hF,c1,c4,q⟩:=h
 have nd:=wP.nd
 refine⟨_,(aD (aM (i:=2) nd rfl (Or.inr rfl) (aY kQ rfl B.sorted_ (by decide+kernel) (aA (gG cI hr rfl (aA (pv 0) (aA (pv 1) aC))) aC))) (aD (aM (i:=3) nd rfl (Or.inl rfl) (gG cI hr rfl (aA (pv 0) (aA (bF aR (bV (aA aH (aA aH (aA aH (aA aH (aA aH (aA aH (aA aH (aA aH aC))))))))) (gG aN hr rfl (aA (pv 0) (aA aH aC))) (λ_ _=>rfl)) aC)))) (aD (aM (i:=4) nd rfl (Or.inl rfl) (bV aC)) (aD (cM PassesOwn.never rfl (cE (pv 3)) (aK (i:=5) nd rfl (Or.inl rfl)) (aD (aM (i:=6) nd rfl (Or.inr rfl) (aU bY aH (gG aN hr rfl (aA (pv 0) (aA (aU zbz (aU zgo aH (pv 1)) aH) aC))))) (aD (eL (cF lY (gG aN hr rfl (aA (pv 0) (aA aH aC))) aH (dI _)) (aJ (aM (i:=6) nd rfl (Or.inr rfl) (aU zgo aH (gG aN hr rfl (aA (pv 0) (aA (pv 1) aC)))))) cQ) (aJ (cV (fE PySem.F.plainAttrs_list PySem.F.slot_list_append PySem.F.type_list_append cS (pv 4) (aA (eP (aA (pv 5) (aA (dA dJ rfl B.tuple_ (by decide+kernel) (aA (cD (g:=(bA 0)) (tc:=(gU (dW rEq (dW (rI0 λi j=> .int (Builtin.bitAnd i j)) (dW (rI (λ_ j=>0<=j) λi j=> .int (i / 2^j.toNat)) (aL 2) (aL 0)) (tC (.int 1))) (tC (.int 1))))) (te:=(dW (eC K) (aL 1) (aL 0))) (own:=["_law_k"]) (fr:=["_law_desks_here","_law_mask"]) (idx:=[2,6]) rfl (by show aP _ _ _ (aE iC);exact(.of rfl (by decide+kernel))) (bU rfl B.range_ (aA (pv 1) aC)) (λ_ _ _ _ _=>(aK (i:=0) (by show List.Nodup (["_law_k","_law_desks_here","_law_mask"]:List Str);decide+kernel) rfl (Or.inl rfl) (Or.inr rfl))) (λ_ _ _ _ _=>jD (cF lY (aU zlN (aU zmH (pv 2) (pv 0)) aH) aH (dI _))) (λ_ _ _ _ _=>(bF aR (pv 1) (pv 0) (λ_ _=>rfl))) rfl (cA rfl)) aC)) aC))) aC))))))) (aJ (cH (pv 4))))))),?_⟩
 try dsimp only[dM,Cx.nox,Cx.wish]
 refine j3 ?_
 intro D0 σ0 U5 U4 U3 U2
 refine⟨_,rfl,_,rfl,a,c,rfl,hF,c1,by omega,λr1 ys1 H1 e1 b1 n1 nr1 _ f1 x1 h1=>⟨r1,ys1,rfl,bB.of h1,by omega,λl zs hl hp hs=> ?_⟩⟩
 have hz:zs.length=c.toNat:=by rw[hp.length_eq];omega
 have zn:zs.Nodup:=hp.nodup_iff.mpr n1
 have zpB:Srt zs:=L2.sorted_pair zs hs
 have zb:Bd zs:= λd hd=>b1 d (hp.mem_iff.mp hd)
 have f2:=f1.new (o:= .lst (zs.map V.str)) hl
 have x2:eR a H (aO H1 l (.lst (zs.map V.str))):=x1.trans (eR.new hl)
 have h2:aO H1 l (.lst (zs.map V.str)) l=some (.lst (zs.map V.str)):=aF
 have nl:l≠a:=bJ hl f1
 generalize aO H1 l (.lst (zs.map V.str))=H2 at f2 x2 h2 ⊢
 refine⟨_,rfl,cL 8,λp hp=>⟨_,rfl,a,8,rfl,f2.new hp,by decide,by decide,λr3 H3 r30 r31 f3 x3=> ?_⟩⟩
 obtain⟨m,hm,m1,m6⟩:=zts r30 r31
 have np:p≠a:=bJ hp f2
 have h3p:=x3 _ _ np aF
 have h3l:H3 l=some (.lst (zs.map V.str)):=x3 _ _ nl (by rw[aG (aI h2 hp)];exact h2)
 refine⟨p,_,_,_,rfl,rfl,bB.of h3p,hm,a,m,rfl,f3,m1,m6,λr4 ys4 H4 e4 b4 n4 nr4 _ f4 x4 h4=> ?_⟩
 have h4l:=x4 _ _ nl h3l
 have x4':eR a H H4:=(x2.trans ((eR.new hp).trans x3)).trans x4
 refine⟨cL 0,λq0 zO=> ?_⟩
 have nq:q0≠a:=bJ zO f4
 have nql:l≠q0:=aI h4l zO
 have hq1:H q0=none:=by
  cases e:H q0 with
  |none=>rfl
  |some o=>
   have:=x4' _ _ nq e;rw[zO]at this;cases this
 refine⟨_,rfl,r4,rfl,⟨_,bB.of ((aQ zO) _ _ h4)⟩,eA (xs:=ys4.map V.str)
  (λi σ H'=> ∃(rs:List Row) (v5 v6:Option V),σ=[some (.ref a),some (.int c),some (.ref l),some (.ref r4),some (.ref q0),v5,v6]/\rs.map (·.1)=ys4.take i/\(∀r∈rs,((r.2≠ []/\r.2.length<=4/\r.2.Nodup)/\ ∀d∈r.2,d∈zs)/\Srt r.2)/\aZ H' a/\eR a H4 H'/\oJ H' q0 rs) ?_ ?_ ?_ ?_⟩
 . exact⟨[],none,none,rfl,rfl,(by intro _ z;cases z),f4.new zO,eR.new zO,[],aF,.nil⟩
 . rintro i σ H5 _ ⟨rs,v5,v6,_,_,_,f5,x5,_⟩;exact bB.of (x5 _ _ nr4 h4)
 . rintro i y σ H5 hy ⟨rs,v5,v6,rfl,hm5,hg5,f5,x5,ts,h5,t5⟩;refine zrt ?_;intro D1 σ1 W3 W2;rw[List.getElem?_map]at hy;obtain⟨z,j6,rfl⟩:=Option.map_eq_some_iff.mp hy;have pw:(1:Int) * 2^c.toNat=2^c.toNat:=Int.one_mul _;have cc:c.toNat=1\/c.toNat=2\/c.toNat=3\/c.toNat=4:=by omega
   have pb:(2:Int)<=2^c.toNat/\(2:Int)^c.toNat<=16:=by rcases cc with e|e|e|e<;>rw[e]<;>decide
   refine⟨_,rfl,_,rfl,_,_,rfl,rfl,⟨by omega,by omega,by decide⟩,_,_,rfl,rfl,a,_,rfl,f5,by rw[pw];omega,by rw[pw];omega,λr6 H6 r60 r61 f6 x6=>⟨_,_,rfl,rfl,?_⟩⟩;rw[pw]at r61;refine⟨_,rfl,a,3,rfl,f6,by decide,by decide,λr7 H7 r70 r71 f7 x7=>⟨rfl,_,rfl,?_⟩⟩;refine iX (λ_=> ?_) (λ_=> ?_)
   . refine⟨_,rfl,_,rfl,a,c,rfl,f7,by omega,by omega,λr8 H8 r80 r81 f8 x8=>⟨_,_,rfl,rfl,⟨by omega,by omega,by decide⟩,?_⟩⟩;have mk1:(1:Int)<=1 * 2^r8.toNat:=by rw[Int.one_mul];have:=Nat.one_le_two_pow (n:=r8.toNat);exact_mod_cast this
     have mk2:(1:Int) * 2^r8.toNat<2^c.toNat:=by
      rw[Int.one_mul];have:=Nat.pow_lt_pow_right (a:=2) (by decide) (show r8.toNat<c.toNat by omega)
      exact_mod_cast this
     have xx:=(x6.trans x7).trans x8;have h8q:=xx _ _ nq h5;have h8l:=xx _ _ nl (x5 _ _ nl h4l);refine⟨_,rfl,.inl ⟨rfl,_,bB.of h8q⟩,_,rfl,_,rfl,c,rfl,by omega,by omega,λD hD=>zld (K:=K) (n:=c.toNat) (m:=(1 * 2^r8.toNat)) (by omega) hz hD h8l λH9 x9 hD9=> ?_⟩;refine⟨D,_,rfl,.inl ⟨bB.of hD9,λd hd=>⟨cL 2,λt ht=> ?_⟩⟩⟩;have y9:Same H8 (aO (aO H9 d (.tup ((dH zs (1 * 2^r8.toNat) c.toNat).map V.str))) t (.tup [.str z,.ref d])):=x9.trans ((aQ hd).trans (aQ ht));have f9:=Same.flow y9 f8;have ndt:d≠t:= λe=>by rw[<-e,aF]at ht;cases ht
     have mB:uW (aO (aO H9 d (.tup ((dH zs (1 * 2^r8.toNat) c.toNat).map V.str))) t (.tup [.str z,.ref d])) t (z,dH zs (1 * 2^r8.toNat) c.toNat):=⟨d,aF,by rw[aG ndt];exact aF⟩;generalize aO (aO H9 d (.tup ((dH zs (1 * 2^r8.toNat) c.toNat).map V.str))) t (.tup [.str z,.ref d])=H10 at y9 f9 mB ⊢;have h10:=y9 _ _ h8q;have tk:TK H5 H10:=(xx.tk f5).trans (Same.tk y9);have lts:ts.length=rs.length:=Paired.length t5;have lrs:rs.length<=i:=by
      have:=congrArg List.length hm5;rw[aW,List.length_take]at this;omega
     have li:i<ys4.length:=(List.getElem?_eq_some_iff.mp j6).1;refine⟨q0,_,_,rfl,rfl,h10,small (by rw[aW];omega),rs++[(z,dH zs (1 * 2^r8.toNat) c.toNat)],_,_,rfl,?_,?_,f9.set (Ne.symm nq),((x5.trans xx).trans (Same.ext y9)).at zO,ts++[t],?_,?_⟩
     . rw[List.map_append,hm5,bO j6];rfl
     . intro r kD
       rcases List.mem_append.mp kD with kD|kD
       . exact hg5 r kD
       . rw[List.mem_singleton.mp kD];exact⟨⟨⟨vV (by omega) mk1 mk2,Nat.le_trans (nY _ _ _) (by omega),pT zn (by omega)⟩,λd hd=>sN (by omega) hd⟩,uR zpB (by omega)⟩
     . rw[aF,List.map_append];rfl
     . exact jZ.keep (TK.lst h10) (Paired.snoc (jZ.keep tk t5) mB)
   . have mk1:(1:Int)<=1+r6:=by omega
     have mk2:1+r6<2^c.toNat:=by omega
     have xx:=x6.trans x7;have h8q:=xx _ _ nq h5;have h8l:=xx _ _ nl (x5 _ _ nl h4l);refine⟨_,rfl,.inl ⟨rfl,_,bB.of h8q⟩,_,rfl,_,rfl,c,rfl,by omega,by omega,λD hD=>zld (K:=K) (n:=c.toNat) (m:=(1+r6)) (by omega) hz hD h8l λH9 x9 hD9=> ?_⟩;refine⟨D,_,rfl,.inl ⟨bB.of hD9,λd hd=>⟨cL 2,λt ht=> ?_⟩⟩⟩;have y9:Same H7 (aO (aO H9 d (.tup ((dH zs (1+r6) c.toNat).map V.str))) t (.tup [.str z,.ref d])):=x9.trans ((aQ hd).trans (aQ ht));have f9:=Same.flow y9 f7;have ndt:d≠t:= λe=>by rw[<-e,aF]at ht;cases ht
     have mB:uW (aO (aO H9 d (.tup ((dH zs (1+r6) c.toNat).map V.str))) t (.tup [.str z,.ref d])) t (z,dH zs (1+r6) c.toNat):=⟨d,aF,by rw[aG ndt];exact aF⟩;generalize aO (aO H9 d (.tup ((dH zs (1+r6) c.toNat).map V.str))) t (.tup [.str z,.ref d])=H10 at y9 f9 mB ⊢;have h10:=y9 _ _ h8q;have tk:TK H5 H10:=(xx.tk f5).trans (Same.tk y9);have lts:ts.length=rs.length:=Paired.length t5;have lrs:rs.length<=i:=by
      have:=congrArg List.length hm5;rw[aW,List.length_take]at this;omega
     have li:i<ys4.length:=(List.getElem?_eq_some_iff.mp j6).1;refine⟨q0,_,_,rfl,rfl,h10,small (by rw[aW];omega),rs++[(z,dH zs (1+r6) c.toNat)],_,_,rfl,?_,?_,f9.set (Ne.symm nq),((x5.trans xx).trans (Same.ext y9)).at zO,ts++[t],?_,?_⟩
     . rw[List.map_append,hm5,bO j6];rfl
     . intro r kD
       rcases List.mem_append.mp kD with kD|kD
       . exact hg5 r kD
       . rw[List.mem_singleton.mp kD];exact⟨⟨⟨vV (by omega) mk1 mk2,Nat.le_trans (nY _ _ _) (by omega),pT zn (by omega)⟩,λd hd=>sN (by omega) hd⟩,uR zpB (by omega)⟩
     . rw[aF,List.map_append];rfl
     . exact jZ.keep (TK.lst h10) (Paired.snoc (jZ.keep tk t5) mB)
 . rintro σ H5 ⟨rs,v5,v6,rfl,hm5,hg5,f5,x5,h5⟩;rw[aW,List.take_length]at hm5;refine⟨_,rfl,q q0 rs H5 ⟨?_,?_,by rw[hm5];exact n4,λr hr=>(hg5 r hr).1.1,by rw[hm5];exact b4,λr hr d hd=>zb d ((hg5 r hr).1.2 d hd),⟨zs,by omega,λr hr=>(hg5 r hr).1.2⟩,λr hr=>(hg5 r hr).2⟩ nq hq1 f5 (x4'.trans x5) h5⟩
   . intro e;rw[e]at hm5;have:ys4.length=0:=by rw[<-hm5];rfl
     omega
   . have:rs.length=ys4.length:=by rw[<-hm5,aW]
     omega
abbrev lZ:Stmt:=top 27
abbrev mJ:Stmt:=top 28
abbrev qY:Stmt:=top 29
theorem sL{a p:Addr}{H H':Hp}(x:eR a H H')(n:p≠a)(h:H' p=none):H p=none:=by
 cases e:H p with
 |none=>rfl
 |some o=>rw[x _ _ n e]at h;cases h
theorem zrG{r:Int}(h0:0<=r)(h1:r<8): ∃m:Int,mL [V.int 2,V.int 2,V.int 1,V.int 3,V.int 2,V.int 2,V.int 1,V.int 4] r=some (.int m)/\1<=m/\m<=4:=by
 obtain⟨n,rfl⟩:=Int.eq_ofNat_of_zero_le h0
 rcases n with _|_|_|_|_|_|_|_|n
 . exact⟨2,bD (j:=0) rfl,by decide,by decide⟩
 . exact⟨2,bD (j:=1) rfl,by decide,by decide⟩
 . exact⟨1,bD (j:=2) rfl,by decide,by decide⟩
 . exact⟨3,bD (j:=3) rfl,by decide,by decide⟩
 . exact⟨2,bD (j:=4) rfl,by decide,by decide⟩
 . exact⟨2,bD (j:=5) rfl,by decide,by decide⟩
 . exact⟨1,bD (j:=6) rfl,by decide,by decide⟩
 . exact⟨4,bD (j:=7) rfl,by decide,by decide⟩
 . omega
theorem zps{r:Int}(h0:0<=r)(h1:r<4): ∃m:Int,mL [V.int 1,V.int 1,V.int 2,V.int 3] r=some (.int m)/\1<=m/\m<=4:=by
 obtain⟨n,rfl⟩:=Int.eq_ofNat_of_zero_le h0
 rcases n with _|_|_|_|n
 . exact⟨1,bD (j:=0) rfl,by decide,by decide⟩
 . exact⟨1,bD (j:=1) rfl,by decide,by decide⟩
 . exact⟨2,bD (j:=2) rfl,by decide,by decide⟩
 . exact⟨3,bD (j:=3) rfl,by decide,by decide⟩
 . omega
theorem jU(ms:List Int)(m:Int):bW (ms++[m])=bW ms * m:=by
 induction ms with
 |nil=>show m * 1=1 * m;omega
 |cons a r ih=>
  show a * bW (r++[m])=a * bW r * m
  rw[ih,Int.mul_assoc]
def zah(s:Int)(ms:List Int):Int:=ms.foldl (λt m=>t / m) s
theorem sV: ∀(ms:List Int) (s m:Int),eE s (ms++[m])=eE s ms++[zah s ms % m]
 | [],_,_=>rfl
 |a::r,s,m=>by
  show s % a::eE (s / a) (r++[m])=_
  rw[sV r (s / a) m];rfl
theorem zew(s:Int)(ms:List Int)(m:Int):zah s (ms++[m])=zah s ms / m:=by unfold zah;rw[List.foldl_append];rfl
theorem zgG: ∀(ps ms:List Int) (j:Nat) (p m:Int),ps[j]?=some p->ms[j]?=some m->lB (ps.drop j) (ms.drop j)=lB (ps.drop (j+1)) (ms.drop (j+1)) * m+p:=by
 intro ps ms j p m hp hm
 obtain⟨h1,e1⟩:=List.getElem?_eq_some_iff.mp hp
 obtain⟨h2,e2⟩:=List.getElem?_eq_some_iff.mp hm
 rw[List.drop_eq_getElem_cons h1,List.drop_eq_getElem_cons h2,e1,e2];rfl
def zdc:Sp:= λvs H Q _=> ∃(a E:Addr) (ds:List Str),vs=[.ref a,.ref E,.int 4]/\aZ H a/\H E=some (.lst (ds.map V.str))/\E≠a/\ds.length<=4/\
 ∀(r:Addr) (ms:List Int) (H':Hp),ms.length=ds.length+1->(∀m∈ms,1<=m/\m<=4)->bW ms<=4->r≠a->H r=none->aZ H' a->eR a H H'->H' r=some (.lst (ms.map V.int))->Q (.ref r) H'
theorem zU:bS ["_law_flow_here","_law_desks_here","_law_most","_law_sizes_here","_law_total","_law_desk","_law_size","_law_count"] ["_law_flow_here","_law_desks_here","_law_most"] (aE lZ):=(.of rfl rfl rfl rfl (by decide+kernel))
theorem zgw(F:lH K "_law_sizes" "_law_sizes" lZ f fd)(B:Bt mg)(aN:Fn P w K mg base k "_law_draw" ["_law_flow_here","_law_many"] cO g gd):dG P w K mg base fV (k+1) f fd ["_law_flow_here","_law_desks_here","_law_most"] zdc:=by
 refine F.ok zU (λvs H Q E h=> ?_) (λcdv A outer s H vs Q E hr h=> ?_)
 . obtain⟨a,E,ds,rfl,_⟩:=h;rfl
 obtain⟨a,E,ds,rfl,hF,hE,nE,h4,q⟩:=h
 have nd:=zU.nd
 refine⟨_,(aD (aM (i:=3) nd rfl (Or.inl rfl) (bV aC)) (aD (aM (i:=4) nd rfl (Or.inl rfl) aH) (aD (cM PassesOwn.never rfl (cE (pv 1)) (aK (i:=5) nd rfl (Or.inl rfl)) (aD (aM (i:=6) nd rfl (Or.inl rfl) (bF aR (bV (aA aH (aA aH (aA aH (aA aH (aA aH (aA aH (aA aH (aA aH aC))))))))) (gG aN hr rfl (aA (pv 0) (aA aH aC))) (λ_ _=>rfl))) (aD (eL (cF j4 (aU eK (pv 4) (pv 6)) (pv 2) (dI _)) (aJ (aM (i:=6) nd rfl (Or.inl rfl) aH)) cQ) (aD (aM (i:=4) nd rfl (Or.inl rfl) (aU eK (pv 4) (pv 6))) (aJ (cV (fE PySem.F.plainAttrs_list PySem.F.slot_list_append PySem.F.type_list_append cS (pv 3) (aA (pv 6) aC)))))))) (aD (aM (i:=7) nd rfl (Or.inl rfl) (bF aR (bV (aA aH (aA aH (aA aH (aA aH aC))))) (gG aN hr rfl (aA (pv 0) (aA aH aC))) (λ_ _=>rfl))) (aD (eL (cF j4 (aU eK (pv 4) (pv 7)) (pv 2) (dI _)) (aJ (aM (i:=7) nd rfl (Or.inl rfl) aH)) cQ) (aJ (cH (aU xW (pv 3) (bV (aA (pv 7) aC)))))))))),?_⟩
 try dsimp only[dM,Cx.nox,Cx.wish]
 refine zgf ?_
 intro D0 σ0 U6 U5 U4 U3 U2
 refine⟨cL 0,λz hz=> ?_⟩
 have nz:z≠a:=bJ hz hF
 have x0:eR a H (aO H z (.lst [])):=Same.ext (aQ hz)
 refine⟨_,rfl,E,rfl,⟨_,bB.of (aQ hz _ _ hE)⟩,eA (xs:=ds.map V.str) (λi σ H'=> ∃(ms:List Int) (v5 v6 v7:Option V),σ=[some (.ref a),some (.ref E),some (.int 4),some (.ref z),some (.int (bW ms)),v5,v6,v7]/\ms.length=i/\(∀m∈ms,1<=m/\m<=4)/\bW ms<=4/\H' z=some (.lst (ms.map V.int))/\eR a H H'/\aZ H' a) ?_ ?_ ?_ ?_⟩
 . exact⟨[],_,_,_,rfl,rfl,(λ_ z=>nomatch z),by decide,aF,x0,Same.flow (aQ hz) hF⟩
 . rintro i σ H1 _ ⟨ms,_,_,_,_,_,_,_,_,x,_⟩;exact bB.of (x _ _ nE hE)
 . rintro i y σ H1 hy ⟨ms,v5,v6,v7,rfl,el,hm,hp,hz1,x1,f1⟩;refine⟨cL 8,λpk hpk=> ?_⟩;have npk:pk≠a:=bJ hpk f1;obtain⟨Hk,e0,xk,kk⟩:=cT hpk (.lst [.int 2,.int 2,.int 1,.int 3,.int 2,.int 2,.int 1,.int 4]);rw[e0];refine⟨_,rfl,a,8,rfl,Same.flow xk f1,by decide,by decide,λr1 H2 r10 r11 f2 x2=> ?_⟩;obtain⟨m0,hm0,m01,m04⟩:=zrG r10 r11;have d7:=x2 _ _ nz (xk _ _ hz1);have e2:eR a H H2:=x1.trans ((Same.ext xk).trans x2);refine⟨pk,_,_,_,rfl,rfl,bB.of (x2 _ _ npk kk),hm0,?_⟩;have p0:0<bW ms:=gY λm h=>by have:=hm m h;omega
   have fF: ∀m:Int,1<=m->m<=4->bW ms * m<=4-> ∃(ms':List Int) (v5 v6 v7':Option V),[some (.ref a),some (.ref E),some (.int 4),some (.ref z),some (.int (bW ms * m)),some y,some (.int m),v7]=[some (.ref a),some (.ref E),some (.int 4),some (.ref z),some (.int (bW ms')),v5,v6,v7']/\ms'.length=i+1/\(∀m∈ms',1<=m/\m<=4)/\bW ms'<=4/\aO H2 z (.lst (ms.map V.int++[.int m])) z=some (.lst (ms'.map V.int))/\eR a H (aO H2 z (.lst (ms.map V.int++[.int m])))/\aZ (aO H2 z (.lst (ms.map V.int++[.int m]))) a:= λm a1 a2 a3=>by
    refine⟨ms++[m],_,_,_,by rw[jU],by rw[List.length_append,el];rfl,λm' h'=> ?_,by rw[jU];exact a3,by rw[aF,List.map_append];rfl,e2.at hz,f2.set (Ne.symm nz)⟩
    rcases List.mem_append.mp h' with c|c
    . exact hm m' c
    . rw[List.mem_singleton.mp c];exact⟨a1,a2⟩
   refine⟨_,rfl,_,rfl,_,_,rfl,rfl,.inr (by omega),_,rfl,_,_,rfl,rfl,_,rfl,?_⟩;have lz:(ms.map V.int).length<=100:=by
    have:i<ds.length:=by rw[List.getElem?_map]at hy;obtain⟨_,h1,_⟩:=Option.map_eq_some_iff.mp hy;exact(List.getElem?_eq_some_iff.mp h1).1
    rw[aW];omega
   refine iX (λc=> ?_) (λc=> ?_)
   . refine⟨_,rfl,_,rfl,_,_,rfl,rfl,.inr (by decide),?_⟩;refine⟨_,rfl,.inl ⟨rfl,_,bB.of d7⟩,_,rfl,z,_,_,rfl,rfl,d7,small (by omega),?_⟩;exact fF 1 (by decide) (by decide) (by omega)
   . have c: ¬(4<bW ms * m0):=by simpa using c
     refine⟨_,rfl,_,rfl,_,_,rfl,rfl,.inr (by omega),?_⟩;refine⟨_,rfl,.inl ⟨rfl,_,bB.of d7⟩,_,rfl,z,_,_,rfl,rfl,d7,small (by omega),?_⟩;exact fF m0 m01 m04 (by omega)
 . rintro σ H1 ⟨ms,v5,v6,v7,rfl,el,hm,hp,hz1,x1,f1⟩;rw[aW]at el;refine⟨cL 4,λpk hpk=> ?_⟩;have npk:pk≠a:=bJ hpk f1;obtain⟨Hk,e0,xk,kk⟩:=cT hpk (.lst [.int 1,.int 1,.int 2,.int 3]);rw[e0];refine⟨_,rfl,a,4,rfl,Same.flow xk f1,by decide,by decide,λr1 H2 r10 r11 f2 x2=> ?_⟩;obtain⟨m0,hm0,m01,m04⟩:=zps r10 r11;have d7:=x2 _ _ nz (xk _ _ hz1);have e2:eR a H H2:=x1.trans ((Same.ext xk).trans x2);refine⟨pk,_,_,_,rfl,rfl,bB.of (x2 _ _ npk kk),hm0,?_⟩;have p0:0<bW ms:=gY λm h=>by have:=hm m h;omega
   have lz:(ms.map V.int).length<=100:=by rw[aW];omega
   have fF: ∀(m:Int) (pl pr:Addr),1<=m->m<=4->bW ms * m<=4->H2 pl=none->aO H2 pl (.lst [.int m]) pr=none->Q (.ref pr) (aO (aO H2 pl (.lst [.int m])) pr (.lst (ms.map V.int++[.int m]))):= λm pl pr a1 a2 a3 h1 h2=>by
    have y1:=aQ (o:= .lst [.int m]) h1;have y2:=aQ (o:= .lst (ms.map V.int++[.int m])) h2;have npr:pr≠a:=bJ h2 (Same.flow y1 f2);refine q pr (ms++[m]) _ (by rw[List.length_append,el];rfl) (λm' h'=> ?_) (by rw[jU];exact a3) npr (sL e2 npr (y1.free h2)) (Same.flow (y1.trans y2) f2) (e2.trans (Same.ext (y1.trans y2))) (by rw[aF,List.map_append];rfl)
    rcases List.mem_append.mp h' with c|c
    . exact hm m' c
    . rw[List.mem_singleton.mp c];exact⟨a1,a2⟩
   refine⟨_,rfl,_,rfl,_,_,rfl,rfl,.inr (by omega),_,rfl,_,_,rfl,rfl,_,rfl,?_⟩;refine iX (λc=> ?_) (λc=> ?_)
   . refine⟨_,rfl,_,rfl,cL 1,λpl jK=>⟨z,pl,_,_,rfl,rfl,aQ jK _ _ d7,aF,sT (show _<=1000 by show(ms.map V.int).length+1<=1000;omega),λpr hpr=> ?_⟩⟩;exact fF 1 pl pr (by decide) (by decide) (by omega) jK hpr
   . have c: ¬(4<bW ms * m0):=by simpa using c
     refine⟨_,rfl,_,rfl,cL 1,λpl jK=>⟨z,pl,_,_,rfl,rfl,aQ jK _ _ d7,aF,sT (show _<=1000 by show(ms.map V.int).length+1<=1000;omega),λpr hpr=> ?_⟩⟩;exact fF m0 pl pr m01 m04 (by omega) jK hpr
theorem zoh{lo:Int}{n:Nat}{g:TG}{tb:TS}{D:fH}{σ:L2.St}{H:Hp}(Pv:Nat->L2.St->Hp->Prop)(h0:Pv 0 σ H)
 (hs: ∀i σ H,i<n->Pv i σ H->g (.int (lo - i)) σ H λσ2 H2=>tb {D with nx:=Pv (i+1),ct:=Pv (i+1),bk:=D.nx} σ2 H2) (hd: ∀σ H,Pv n σ H->D.nx σ H):
 ∃W:Nat->Nat->L2.St->Hp->Prop,(∃m,W 0 m σ H)/\ ∀i m σ H,W i m σ H->
  ((Itn lo n).stop i H/\D.nx σ H)\/((Itn lo n).go i H/\ ∃N:L2.St->Hp->Prop,(∀σ' H',N σ' H'-> ∃m',m'<m/\W (i+1) m' σ' H')/\ ∀x H',(Itn lo n).yld i H x H'->g x σ H' λσ2 H2=>tb {D with nx:=N,ct:=N,bk:=D.nx} σ2 H2):=by
 refine⟨λi m σ H=>m=n - i/\i<=n/\Pv i σ H,⟨n,by simp,Nat.zero_le _,h0⟩,λi m σ H ⟨em,hi,p⟩=> ?_⟩
 subst em
 by_cases eY:i<n
 . exact .inr ⟨eY,Pv (i+1),λσ' H' p'=>⟨n - (i+1),by omega,rfl,eY,p'⟩,λx H' ⟨e1,e2⟩=>by rw[e1,e2];exact hs i σ H eY p⟩
 . have e:i=n:=by omega
   subst e;exact .inl ⟨Nat.le_refl _,hd σ H p⟩
def xO:Sp:= λvs H Q _=> ∃(s:Int) (M:Addr) (ms:List Int),vs=[.int s,.ref M]/\H M=some (.lst (ms.map V.int))/\ms.length<=10/\(∀m∈ms,1<=m/\m<=4)/\
 ∀(r:Addr) (H':Hp),H r=none->Same H H'->H' r=some (.lst ((eE s ms).map V.int))->Q (.ref r) H'
theorem zan:bS ["_law_state","_law_sizes_here","_law_found","_law_size"] ["_law_state","_law_sizes_here"] (aE mJ):=(.of rfl rfl rfl rfl (by decide+kernel))
theorem zgZ(F:lH K "_law_split" "_law_split" mJ f fd):dG P w K mg base fV (k+1) f fd ["_law_state","_law_sizes_here"] xO:=by
 refine F.ok zan (λvs H Q E h=> ?_) (λcdv A outer s H vs Q E hr h=> ?_)
 . obtain⟨s,M,ms,rfl,_⟩:=h;rfl
 obtain⟨st,M,ms,rfl,hM,h10,hm,q⟩:=h
 have nd:=zan.nd
 refine⟨_,(aD (aM (i:=2) nd rfl (Or.inl rfl) (bV aC)) (aD (cM PassesOwn.never rfl (cE (pv 1)) (aK (i:=3) nd rfl (Or.inl rfl)) (aD (cV (fE PySem.F.plainAttrs_list PySem.F.slot_list_append PySem.F.type_list_append cS (pv 2) (aA (aU gZ (pv 0) (pv 3)) aC))) (aJ (aM (i:=0) nd rfl (Or.inl rfl) (aU pK (pv 0) (pv 3)))))) (aJ (cH (pv 2))))),?_⟩
 try dsimp only[dM,Cx.nox,Cx.wish]
 refine sM ?_
 intro D0 σ0 U3 U2
 refine⟨cL 0,λz hz=> ?_⟩
 refine⟨_,rfl,M,rfl,⟨_,bB.of (aQ hz _ _ hM)⟩,eA (xs:=ms.map V.int) (λi σ H'=> ∃v3:Option V,σ=[some (.int (zah st (ms.take i))),some (.ref M),some (.ref z),v3]/\H' z=some (.lst ((eE st (ms.take i)).map V.int))/\Same H H') ?_ ?_ ?_ ?_⟩
 . exact⟨_,rfl,by rw[List.take_zero];exact aF,aQ hz⟩
 . rintro i σ H1 _ ⟨_,_,_,x⟩;exact bB.of (x _ _ hM)
 . rintro i y σ H1 hy ⟨v3,rfl,h1,x1⟩;rw[List.getElem?_map]at hy;obtain⟨m,hm',rfl⟩:=Option.map_eq_some_iff.mp hy;have hmm:=hm m (List.mem_of_getElem? hm');have hi:=(List.getElem?_eq_some_iff.mp hm').1;have hl:((eE st (ms.take i)).map V.int).length<=10:=by rw[aW,wC,List.length_take];omega
   refine⟨_,rfl,.inl ⟨rfl,_,bB.of h1⟩,_,rfl,_,rfl,_,_,rfl,rfl,by show(0:Int)<m;omega,z,_,_,rfl,rfl,h1,small (by omega),?_⟩;refine⟨_,rfl,_,rfl,_,_,rfl,rfl,⟨by omega,Int.le_trans hmm.2 (by decide)⟩,?_⟩;refine⟨some (.int m),?_,?_,x1.at hz⟩
   . rw[bO hm',zew];rfl
   . rw[aF,bO hm',sV,List.map_append];rfl
 . rintro σ H1 ⟨v3,rfl,h1,x1⟩;rw[aW,List.take_length]at h1;exact⟨_,rfl,q z H1 hz x1 h1⟩
def zfw(K:W.Frag):Sp:= λvs H Q _=> ∃(A M:Addr) (ps ms:List Int),vs=[.ref A,.ref M]/\bB K H A (ps.map V.int)/\bB K H M (ms.map V.int)/\ps.length=ms.length/\ms.length<=10/\(∀m∈ms,1<=m/\m<=4)/\Q (.int (lB ps ms)) H
theorem zfA:bS ["_law_parts","_law_sizes_here","_law_number","_law_k"] ["_law_parts","_law_sizes_here"] (aE qY):=(.of rfl rfl rfl rfl (by decide+kernel))
theorem zmI(F:lH K "_law_put" "_law_put" qY f fd)(B:Bt mg):dG P w K mg base fV (k+1) f fd ["_law_parts","_law_sizes_here"] (zfw K):=by
 refine F.ok zfA (λvs H Q E h=> ?_) (λcdv A outer s H vs Q E hr h=> ?_)
 . obtain⟨A,M,ps,ms,rfl,_⟩:=h;rfl
 obtain⟨A',M,ps,ms,rfl,hA,hM,hl,h10,hm,q⟩:=h
 have nd:=zfA.nd
 refine⟨_,(aD (aM (i:=2) nd rfl (Or.inl rfl) aH) (aD (cM PassesOwn.never rfl (zeE rfl B.range_ (aA (aU zbz (aY aV rfl B.len_ PySem.boot_len (aA (pv 1) aC)) aH) (aA mU (aA mU aC)))) (aK (i:=3) nd rfl (Or.inl rfl)) (aJ (aM (i:=2) nd rfl (Or.inl rfl) (aU bY (aU eK (pv 2) (bF aR (pv 1) (pv 3) (λ_ _=>rfl))) (bF aR (pv 0) (pv 3) (λ_ _=>rfl)))))) (aJ (cH (pv 2))))),?_⟩
 try dsimp only[dM,Cx.nox,Cx.wish]
 refine sM ?_
 intro D0 σ0 U3 U2
 refine⟨_,rfl,M,_,rfl,.inl hM,_,_,rfl,rfl,?_⟩
 have hn:((((ms.map V.int).length:Nat):Int) - 1 - (-1)).toNat=ms.length:=by rw[aW];omega
 refine⟨_,_,rfl,⟨by rw[aW];omega,by rw[aW];omega,by decide,by decide⟩,?_⟩
 rw[hn]
 refine zoh (λi σ H'=> ∃v3:Option V,σ=[some (.ref A'),some (.ref M),some (.int (lB (ps.drop (ms.length - i)) (ms.drop (ms.length - i)))),v3]/\H'=H) ?_ ?_ ?_
 . refine⟨none,?_,rfl⟩;rw[Nat.sub_zero,List.drop_of_length_le (Nat.le_refl ms.length),List.drop_of_length_le (by rw[hl];exact Nat.le_refl _)];rfl
 . rintro i σ H1 hi ⟨v3,rfl,rfl⟩;have hj:ms.length - (i+1)<ms.length:=by omega
   have hj2:ms.length - (i+1)<ps.length:=by omega
   have e1:(((ms.map V.int).length:Nat):Int) - 1 - (i:Int)=((ms.length - (i+1):Nat):Int):=by rw[aW];omega
   have gm:ms[ms.length - (i+1)]?=some ms[ms.length - (i+1)]:=List.getElem?_eq_getElem hj;have gp:ps[ms.length - (i+1)]?=some ps[ms.length - (i+1)]:=List.getElem?_eq_getElem hj2;have hmm:=hm _ (List.getElem_mem hj);rw[e1];refine⟨_,rfl,_,rfl,_,rfl,M,_,_,_,rfl,rfl,hM,bD (by rw[List.getElem?_map,gm];rfl),_,_,rfl,rfl,.inr (by omega),_,rfl,_,rfl,A',_,_,_,rfl,rfl,hA,bD (by rw[List.getElem?_map,gp];rfl),_,_,rfl,rfl,some (.int ((ms.length - (i+1):Nat):Int)),?_,rfl⟩;have e2:=zgG ps ms (ms.length - (i+1)) _ _ gp gm;rw[show ms.length - (i+1)+1=ms.length - i by omega]at e2;rw[e2];rfl
 . rintro σ H1 ⟨v3,rfl,rfl⟩;refine⟨_,rfl,?_⟩;rw[Nat.sub_self,List.drop_zero,List.drop_zero];exact q
abbrev jE:Stmt:=top 31
abbrev sJ(pl:List Nat):List V:=pl.map λi:Nat=>V.int (i:Int)
theorem zcH: ∀{ms:List Int},(∀m∈ms,1<=m/\m<=4)->bW ms<=((4^ms.length:Nat):Int)
 | [],_=>by decide
 |m::ms,h=>by
  have ih:=zcH λz hz=>h z (List.mem_cons_of_mem _ hz);have hm:=h m List.mem_cons_self;have p0:0<bW ms:=gY λz hz=>by have:=h z (List.mem_cons_of_mem _ hz);omega
  show m * bW ms<=_
  have:m * bW ms<=4 * bW ms:=Int.mul_le_mul_of_nonneg_right hm.2 (by omega);rw[List.length_cons,Nat.pow_succ];omega
theorem zgJ{ms:List Int}{pl:List Nat}(hm: ∀m∈ms,1<=m/\m<=4)(hl: ∀i∈pl,i<ms.length): ∀m∈dF pl ms,1<=m/\m<=4:= λm h=>by
 obtain⟨i,hi,rfl⟩:=List.mem_map.mp h
 rw[List.getD_eq_getElem?_getD,List.getElem?_eq_getElem (hl i hi)]
 exact hm _ (List.getElem_mem (hl i hi))
theorem znQ{D a l M:Addr}{Q:VK}{H1:Hp}{pl:List Nat}{ms:List Int}(hm: ∀m∈ms,1<=m/\m<=4)(jK: ∀i∈pl,i<ms.length)(hD:H1 D=none)(hF:aZ H1 a)(hl:H1 l=some (.lst (sJ pl)))(nl:l≠a)(hM:H1 M=some (.lst (ms.map V.int)))(nM:M≠a)(h4:pl.length<=4)
 (fM: ∀(row:List Int) (H':Hp),Pt row (dF pl ms)->aZ H' a->eR a H1 H'->H' D=some (.lst (row.map V.int))->Q (.ref D) H'):
 bH (zM K l) D (bA 0) cK (gH cO [] E0 (bL (aL 1) (bL (dW (eC K) (aL 2) (aL 0)) dN))) Q [none,some (.ref a),some (.ref M)] H1:=by
 have nD:=bJ hD hF
 refine dU (xs:=sJ pl) (λi ys σ H=> ∃(row:List Int) (v:Option V),ys=row.map V.int/\Pt row (dF (pl.take i) ms)/\σ=[v,some (.ref a),some (.ref M)]/\aZ H a/\eR a H1 H) ?_ (by rw[aW];omega) ?_ ?_ ?_ ?_
 . exact⟨[],none,rfl,⟨rfl,λi p m h _=>by simp at h⟩,rfl,hF.new hD,eR.new hD⟩
 . rintro i ys σ H ⟨row,v,rfl,e,_⟩;rw[aW,e.len];unfold dF;rw[aW,List.length_take];exact Nat.min_le_left _ _
 . rintro i ys σ H ⟨row,v,_,_,_,fl,x⟩;exact bB.of (x _ _ nl hl)
 . rintro i y ys σ H hy bZ ⟨row,v,rfl,e,rfl,fl,x⟩;rw[List.getElem?_map]at hy;obtain⟨j,hj,rfl⟩:=Option.map_eq_some_iff.mp hy;have hjl:=jK j (List.mem_of_getElem? hj);have gm:ms[j]?=some ms[j]:=List.getElem?_eq_getElem hjl;have hmm:=hm _ (List.getElem_mem hjl);refine⟨_,rfl,_,rfl,_,rfl,M,_,_,_,rfl,rfl,bB.of (x _ _ nM hM),bD (by rw[List.getElem?_map,gm];rfl),a,ms[j],rfl,fl,by omega,by omega,λr H2 r0 r1 f2 x2=> ?_⟩;refine⟨x2 _ _ nD bZ,row++[r],_,by rw[List.map_append];rfl,?_,rfl,f2.set (Ne.symm nD),(x.trans x2).at hD⟩;have es:dF (pl.take (i+1)) ms=dF (pl.take i) ms++[ms[j]]:=by
    unfold dF;rw[bO hj,List.map_append];show _++[ms.getD j 0]=_;rw[List.getD_eq_getElem?_getD,gm];rfl
   rw[es];refine⟨by rw[List.length_append,List.length_append,e.len];rfl,λi' p m h1 h2=> ?_⟩
   rcases Nat.lt_or_ge i' row.length with z|z
   . rw[List.getElem?_append_left z]at h1;rw[List.getElem?_append_left (by rw[<-e.len];exact z)]at h2;exact e.lo i' p m h1 h2
   . rw[List.getElem?_append_right z]at h1;rw[List.getElem?_append_right (by rw[<-e.len];exact z),<-e.len]at h2;obtain⟨k1,e1⟩:=List.getElem?_eq_some_iff.mp h1;have k2:i' - row.length=0:=by rw[List.length_singleton]at k1;omega
     rw[k2]at h1 h2;cases Option.some.inj h1;cases Option.some.inj h2;exact⟨r0,r1⟩
 . rintro ys σ H bZ ⟨row,v,rfl,e,_,fl,x⟩;rw[aW,List.take_length]at e;exact fM row H e fl x bZ
theorem znX{D a l M:Addr}{Q:VK}{H1:Hp}{n:Nat}{pl:List Nat}{ms:List Int}(hn:n<=256)(hm: ∀m∈ms,1<=m/\m<=4)(jK: ∀i∈pl,i<ms.length)(hD:H1 D=none)(hF:aZ H1 a)(hl:H1 l=some (.lst (sJ pl)))(nl:l≠a)(hM:H1 M=some (.lst (ms.map V.int)))(nM:M≠a)(h4:pl.length<=4)
 (fM: ∀(rs:List Addr) (tb:List (List Int)) (H':Hp),(∀u∈rs,H1 u=none)->tb.length=n->Paired (kA H') rs tb->(∀r∈tb,Pt r (dF pl ms))->aZ H' a->eR a H1 H'->H' D=some (.lst (rs.map V.ref))->Q (.ref D) H'):
 bH (vB 0 n) D (bA 0) cK (iR (pF K (aL 3)) 1 [1,2] (bA 0) cK (gH cO [] E0 (bL (aL 1) (bL (dW (eC K) (aL 2) (aL 0)) dN)))) Q [none,some (.ref a),some (.ref M),some (.ref l)] H1:=by
 have nD:=bJ hD hF
 refine cR (λi ys σ H=> ∃(rs:List Addr) (tb:List (List Int)) (v:Option V),ys=rs.map V.ref/\tb.length=i/\Paired (kA H) rs tb/\(∀r∈tb,Pt r (dF pl ms))/\(∀u∈rs,H1 u=none)/\D∉rs/\σ=[v,some (.ref a),some (.ref M),some (.ref l)]/\aZ H a/\eR a H1 H) ?_ (by omega) ?_ ?_ ?_
 . exact⟨[],[],none,rfl,rfl,.nil,(by intro _ z;cases z),(by intro _ z;cases z),(by intro z;cases z),rfl,hF.new hD,eR.new hD⟩
 . rintro i ys σ H ⟨rs,tb,v,rfl,e,hP,_⟩;rw[aW,hP.length,e];exact Nat.le_refl _
 . rintro i ys σ H hi bZ ⟨rs,tb,v,rfl,e,hP,hb,oQ,zL,rfl,fl,x⟩;have hll:=x _ _ nl hl;refine⟨_,rfl,l,rfl,⟨_,bB.of hll⟩,λD2 lA=>znQ (K:=K) hm jK lA fl hll nl (x _ _ nM hM) nM h4 λrow H4 e4 f4 x4 h4=> ?_⟩;have nDD:D≠D2:=aI bZ lA;have nua: ∀u∈rs,u≠a:= λu hu=>bJ (oQ u hu) hF;have nD2:D2≠a:=bJ lA fl;have hD1:H1 D2=none:=sL x nD2 lA;refine⟨x4 _ _ nD bZ,rs++[D2],tb++[row],_,by rw[List.map_append];rfl,by rw[List.length_append,e];rfl,cZ (eB hP λu w hu z=> ?_) (.cons ?_ .nil),λr hr=> ?_,λu hu=> ?_,λhu=> ?_,rfl,f4.set (Ne.symm nD),(x.trans x4).at hD⟩
   . show aO H4 D _ u=_
     rw[aG (show u≠D from λq=>zL (q▸hu))];exact x4 _ _ (nua u hu) z
   . show aO H4 D _ D2=_
     rw[aG (Ne.symm nDD)];exact h4
   . rcases List.mem_append.mp hr with h|h
     . exact hb r h
     . rw[List.mem_singleton.mp h];exact e4
   . rcases List.mem_append.mp hu with h|h
     . exact oQ u h
     . rw[List.mem_singleton.mp h];exact hD1
   . rcases List.mem_append.mp hu with h|h
     . exact zL h
     . exact nDD (List.mem_singleton.mp h)
 . rintro ys σ H bZ ⟨rs,tb,v,rfl,e,hP,hb,oQ,zL,_,fl,x⟩;exact fM rs tb H oQ e hP hb fl x bZ
def xZ:Sp:= λvs H Q _=> ∃(a l M:Addr) (pl:List Nat) (ms:List Int),vs=[.ref a,.ref l,.ref M]/\aZ H a/\H l=some (.lst (sJ pl))/\l≠a/\H M=some (.lst (ms.map V.int))/\M≠a/\pl.length<=4/\(∀i∈pl,i<ms.length)/\(∀m∈ms,1<=m/\m<=4)/\
 ∀(D:Addr) (us:List Addr) (mv:List (List Int)) (H':Hp),H D=none->(∀u∈us,H u=none)->(mv.length:Int)=bW (dF pl ms)->Paired (kA H') us mv->(∀r∈mv,Pt r (dF pl ms))->aZ H' a->eR a H H'->H' D=some (.lst (us.map V.ref))->Q (.ref D) H'
theorem u6:bS ["_law_flow_here","_law_places","_law_sizes_here","_law_many","_law_place"] ["_law_flow_here","_law_places","_law_sizes_here"] (aE jE):=(.of rfl rfl rfl rfl (by decide+kernel))
theorem zfF(F:lH K "_law_moves" "_law_moves" jE f fd)(B:Bt mg)(aN:Fn P w K mg base k "_law_draw" ["_law_flow_here","_law_many"] cO g gd):dG P w K mg base fV (k+1) f fd ["_law_flow_here","_law_places","_law_sizes_here"] xZ:=by
 refine F.ok u6 (λvs H Q E h=> ?_) (λcdv A outer s H vs Q E hr h=> ?_)
 . obtain⟨a,l,M,pl,ms,rfl,_⟩:=h;rfl
 obtain⟨a,l,M,pl,ms,rfl,hF,hl,nl,hM,nM,h4,jK,hm,q⟩:=h
 have nd:=u6.nd
 refine⟨_,(aD (aM (i:=3) nd rfl (Or.inl rfl) aH) (aD (cM PassesOwn.never rfl (cE (pv 1)) (aK (i:=4) nd rfl (Or.inl rfl)) (aJ (aM (i:=3) nd rfl (Or.inl rfl) (aU eK (pv 3) (bF aR (pv 2) (pv 4) (λ_ _=>rfl)))))) (aJ (cH (cD (g:=(bA 0)) (tc:=cK) (te:=(iR (pF K (aL 3)) 1 [1,2] (bA 0) cK (gH cO [] E0 (bL (aL 1) (bL (dW (eC K) (aL 2) (aL 0)) dN))))) (own:=["_law_k"]) (fr:=["_law_flow_here","_law_sizes_here","_law_places"]) (idx:=[0,2,1]) rfl (by show aP _ _ _ (aE jE);exact(.of rfl (by decide+kernel))) (bU rfl B.range_ (aA (pv 3) aC)) (λ_ _ _ _ _=>(aK (i:=0) (by show List.Nodup (["_law_k","_law_flow_here","_law_sizes_here","_law_places"]:List Str);decide+kernel) rfl (Or.inl rfl) (Or.inr rfl))) (λ_ _ _ _ _=>cB) (λ_ _ _ _ _=>(cD (g:=(bA 0)) (tc:=cK) (te:=(gH cO [] E0 (bL (aL 1) (bL (dW (eC K) (aL 2) (aL 0)) dN)))) (own:=["_law_place"]) (fr:=["_law_flow_here","_law_sizes_here"]) (idx:=[1,2]) rfl (aP.relab (.of rfl (by decide+kernel))) (cE (pv 3)) (λ_ _ _ _ _=>(aK (i:=0) (by show List.Nodup (["_law_place","_law_flow_here","_law_sizes_here"]:List Str);decide+kernel) rfl (Or.inl rfl) (Or.inr rfl))) (λ_ _ _ _ _=>cB) (λ_ _ _ _ _=>(gG aN hr rfl (aA (pv 1) (aA (bF aR (pv 2) (pv 0) (λ_ _=>rfl)) aC)))) rfl (cA rfl))) rfl (cA rfl)))))),?_⟩
 try dsimp only[dM,Cx.nox,Cx.wish]
 refine sM ?_
 intro D0 σ0 U3 U2
 refine⟨_,rfl,l,rfl,⟨_,bB.of hl⟩,eA (xs:=sJ pl) (λi σ H'=> ∃v4:Option V,σ=[some (.ref a),some (.ref l),some (.ref M),some (.int (bW (dF (pl.take i) ms))),v4]/\H'=H) ?_ ?_ ?_ ?_⟩
 . exact⟨none,rfl,rfl⟩
 . rintro i σ H1 _ ⟨_,_,rfl⟩;exact bB.of hl
 . rintro i y σ H1 hy ⟨v4,rfl,rfl⟩;rw[List.getElem?_map]at hy;obtain⟨j,hj,rfl⟩:=Option.map_eq_some_iff.mp hy;have hjl:=jK j (List.mem_of_getElem? hj);have gm:ms[j]?=some ms[j]:=List.getElem?_eq_getElem hjl;have hmm:=hm _ (List.getElem_mem hjl);refine⟨_,rfl,_,rfl,_,rfl,M,_,_,_,rfl,rfl,bB.of hM,bD (by rw[List.getElem?_map,gm];rfl),_,_,rfl,rfl,.inr (by omega),some (.int (j:Int)),?_,rfl⟩;have es:bW (dF (pl.take (i+1)) ms)=bW (dF (pl.take i) ms) * ms[j]:=by
    rw[<-jU];unfold dF;rw[bO hj,List.map_append];show bW (_++[ms.getD j 0])=_;rw[List.getD_eq_getElem?_getD,gm];rfl
   rw[es];rfl
 . rintro σ H1 ⟨v4,rfl,rfl⟩;rw[aW,List.take_length];have si:=zgJ hm jK;have p0:0<bW (dF pl ms):=gY λz hz=>by have:=si z hz;omega
   have p1:=zcH si;have p2:(dF pl ms).length<=4:=by unfold dF;rw[aW];exact h4
   have p3:4^(dF pl ms).length<=4^4:=Nat.pow_le_pow_right (by decide) p2;refine⟨_,rfl,_,rfl,by omega,by omega,λD hD=> ?_⟩;exact znX (K:=K) (by omega) hm jK hD hF hl nl hM nM h4 λrs tb H' oQ e hP hb f' x' k'=>q D rs tb H' hD oQ (by omega) hP hb f' x' k'
abbrev cP:Stmt:=top 32
def zcB:Stmt->List Stmt
 | .For _ _ b _ _=>b
 |_=>[]
abbrev zdd:List Stmt:=zcB ((cU cP).getD 6 (.Pass ⟨0,0,0,0⟩))
abbrev zge:List Stmt:=zcB (zdd.getD 5 (.Pass ⟨0,0,0,0⟩))
def kY(us:List Addr)(H H':Hp):Prop:= ∀b o,b∉us->H b=some o->H' b=some o
theorem kY.refl(us:List Addr)(H:Hp):kY us H H:= λ_ _ _ h=>h
theorem kY.trans{us:List Addr}{H H1 H2:Hp}(x:kY us H H1)(y:kY us H1 H2):kY us H H2:= λb o n h=>y b o n (x b o n h)
theorem kY.of{us:List Addr}{H H':Hp}(x:Same H H'):kY us H H':= λb o _ h=>x b o h
theorem zjp{K:W.Frag}{a b:Addr}{xs zs:List V}{g:TG}{tb:TS}{D:fH}{σ:L2.St}{H:Hp}(Pv:Nat->L2.St->Hp->Prop)(h0:Pv 0 σ H)(hxz:xs.length=zs.length)(ha: ∀i σ H,Pv i σ H->bB K H a xs/\bB K H b zs)
 (hs: ∀i x z σ H T,xs[i]?=some x->zs[i]?=some z->H T=none->Pv i σ H->g (.ref T) σ (aO H T (.tup [x,z])) λσ2 H2=>tb {D with nx:=Pv (i+1),ct:=Pv (i+1),bk:=D.nx} σ2 H2) (hd: ∀σ H,Pv xs.length σ H->D.nx σ H):
 ∃W:Nat->Nat->L2.St->Hp->Prop,(∃m,W 0 m σ H)/\ ∀i m σ H,W i m σ H->
  ((Itz K a b).stop i H/\D.nx σ H)\/((Itz K a b).go i H/\ ∃N:L2.St->Hp->Prop,(∀σ' H',N σ' H'-> ∃m',m'<m/\W (i+1) m' σ' H')/\ ∀x H',(Itz K a b).yld i H x H'->g x σ H' λσ2 H2=>tb {D with nx:=N,ct:=N,bk:=D.nx} σ2 H2):=by
 refine⟨λi m σ H=>m=xs.length - i/\i<=xs.length/\Pv i σ H,⟨xs.length,by simp,Nat.zero_le _,h0⟩,λi m σ H ⟨em,hi,p⟩=> ?_⟩
 subst em
 obtain⟨qa,qb⟩:=ha i σ H p
 by_cases eY:i<xs.length
 . have hlz:i<zs.length:=by omega
   refine .inr ⟨⟨xs,zs,xs[i],zs[i],qa,qb,by simp[eY],by simp[hlz]⟩,Pv (i+1),λσ' H' p'=>⟨xs.length - (i+1),by omega,rfl,eY,p'⟩,λx H' y=> ?_⟩;obtain⟨T,hT,rfl,y⟩:=y;obtain⟨x',z',hx,j6,rfl⟩:=y xs zs qa qb;exact hs i x' z' σ H T hx j6 hT p
 . have e:i=xs.length:=by omega
   subst e;exact .inl ⟨⟨xs,zs,qa,qb,.inl (Nat.le_refl _)⟩,hd σ H p⟩
theorem yY{xs:List Int}(h:xs≠ []):mL (xs.map V.int) (-1)=some (.int (xs.getD (xs.length - 1) 0))/\ixN (xs.map V.int).length (-1)=some (xs.length - 1):=by
 have hp:=List.length_pos_iff.mpr h
 have e:ixN (xs.map V.int).length (-1)=some (xs.length - 1):=by
  unfold ixN;rw[aW,if_neg (by decide),if_pos (by omega)]
  congr 1
  omega
 refine⟨?_,e⟩
 unfold mL
 rw[e]
 show(xs.map V.int)[xs.length - 1]?=_
 rw[List.getElem?_map,List.getD_eq_getElem?_getD,List.getElem?_eq_getElem (by omega)];rfl
structure CIn(ms:List Int)(a:AD)(M T PL SO MV:Addr)(us ws:List Addr)(H:Hp):Prop where
 m:H M=some (.lst (ms.map V.int))
 pl:H PL=some (.lst (sJ a.pl))
 so:H SO=some (.lst ((dF a.pl ms).map V.int))
 mv:H MV=some (.lst (ws.map V.ref))
 rw_:Paired (kA H) ws a.mv
 t:H T=some (.lst (us.map V.ref))
 nM:M∉us
 nP:PL∉us
 nS:SO∉us
 nV:MV∉us
 nT:T∉us
 nw: ∀w∈ws,w∉us
theorem CIn.but{ms:List Int}{a:AD}{M T PL SO MV:Addr}{us ws:List Addr}{H H':Hp}(h:CIn ms a M T PL SO MV us ws H)(x:kY us H H'):CIn ms a M T PL SO MV us ws H':=
 ⟨x _ _ h.nM h.m,x _ _ h.nP h.pl,x _ _ h.nS h.so,x _ _ h.nV h.mv,eB h.rw_ λu w hu z=>x _ _ (h.nw u hu) z,x _ _ h.nT h.t,h.nM,h.nP,h.nS,h.nV,h.nT,h.nw⟩
structure zlV(ms:List Int):Prop where
 ne:ms≠ []
 len:ms.length<=5
 rng: ∀m∈ms,1<=m/\m<=4
 prod:bW ms<=12
def zcy(tr:TS):Prop:= ∀(Dn:fH) (s0 s1 s2 s3 s4 s5 s7 s8 s10 s11 s12 s18 s19 s20 s21:Option V) (ms:List Int) (a:AD) (M T PL SO MV u:Addr) (us ws:List Addr) (st:Nat) (xs:List Int) (H:Hp),zlV ms->OkA ms a->a.pl.length<=4->CIn ms a M T PL SO MV us ws H->us[st]?=some u->(∀b∈us,H b≠none)->H u=some (.lst (xs.map V.int))->xs.length<=10->
 (∀v18 v19 zR zP H',kY us H H'->H' u=some (.lst ((xs++[qW ms a (st:Int)]).map V.int))->(∀b∈us,b≠u->H' b=H b)->Dn.nx [s0,s1,s2,s3,s4,s5,some (.ref M),s7,s8,some (.ref T),s10,s11,s12,some (.int a.st),some (.ref PL),some (.ref SO),some (.ref MV),some (.int (st:Int)),v18,v19,zR,zP] H')->
 tr Dn [s0,s1,s2,s3,s4,s5,some (.ref M),s7,s8,some (.ref T),s10,s11,s12,some (.int a.st),some (.ref PL),some (.ref SO),some (.ref MV),some (.int (st:Int)),s18,s19,s20,s21] H
theorem zrp{D PL A':Addr}{Q:VK}{H1:Hp}{pl:List Nat}{ps:List Int}(hl: ∀i∈pl,i<ps.length)(h4:pl.length<=4)(hP:H1 PL=some (.lst (sJ pl)))(hA:H1 A'=some (.lst (ps.map V.int)))(hD:H1 D=none)(fM: ∀H',Same H1 H'->H' D=some (.lst ((dF pl ps).map V.int))->Q (.ref D) H'):
 bH (zM K PL) D (bA 0) cK (dW (eC K) (aL 1) (aL 0)) Q [none,some (.ref A')] H1:=by
 refine dU (xs:=sJ pl) (λi ys σ H=> ∃v:Option V,ys=(dF (pl.take i) ps).map V.int/\σ=[v,some (.ref A')]/\Same H1 H) ?_ (by rw[aW];omega) ?_ ?_ ?_ ?_
 . exact⟨none,rfl,rfl,aQ hD⟩
 . rintro i ys σ H ⟨v,rfl,_⟩;unfold dF;rw[aW,aW,List.length_take];exact Nat.min_le_left _ _
 . rintro i ys σ H ⟨v,_,_,x⟩;exact bB.of (x _ _ hP)
 . rintro i y ys σ H hy bZ ⟨v,rfl,rfl,x⟩;rw[List.getElem?_map]at hy;obtain⟨j,hj,rfl⟩:=Option.map_eq_some_iff.mp hy;have hjl:=hl j (List.mem_of_getElem? hj);have gp:ps[j]?=some ps[j]:=List.getElem?_eq_getElem hjl;refine⟨_,rfl,_,rfl,A',_,_,_,rfl,rfl,bB.of (x _ _ hA),bD (by rw[List.getElem?_map,gp];rfl),bZ,some (.int (j:Int)),?_,rfl,x.at hD⟩;unfold dF;rw[bO hj,List.map_append,List.map_append];show _=_++[V.int (ps.getD j 0)];rw[List.getD_eq_getElem?_getD,gp];rfl
 . rintro ys σ H bZ ⟨v,rfl,_,x⟩;rw[aW,List.take_length]at bZ;exact fM H x bZ
theorem sC:bS ["_law_script","_law_first","_law_rows","_law_most","_law_flow_here","_law_desks_here","_law_sizes_here","_law_total","_law_size","_law_table","_law_k","_law_pair","_law_one","_law_step","_law_places","_law_some","_law_moves_here","_law_state","_law_parts","_law_goal","_law_place","_law_value"] ["_law_script","_law_first","_law_rows","_law_most"] (aE cP):=(.of rfl rfl rfl rfl (by decide+kernel))
theorem zbq{cdv:Value}{A:Around}{outer:List Env}{s:Shared}{H:Hp}{E:XK}(hr:eV k (A.deeper (envOfC "_law_calm" (aE cP) s.heap.objs.size f cdv)))(B:Bt mg)(lG:Fn P w K mg base k "_law_split" ["_law_state","_law_sizes_here"] xO g gd)(kJ:Fn P w K mg base k "_law_put" ["_law_parts","_law_sizes_here"] (zfw K) g2 vO):
 ∃tr,vS (dM fV P w K mg base ["_law_script","_law_first","_law_rows","_law_most","_law_flow_here","_law_desks_here","_law_sizes_here","_law_total","_law_size","_law_table","_law_k","_law_pair","_law_one","_law_step","_law_places","_law_some","_law_moves_here","_law_state","_law_parts","_law_goal","_law_place","_law_value"] "_law_calm" (aE cP) f cdv A outer s H E).nox zge tr/\zcy tr:=by
 have nd:=sC.nd
 refine⟨_,(aD (aM (i:=18) nd rfl (Or.inr rfl) (gG lG hr rfl (aA (pv 17) (aA (pv 6) aC)))) (aD (aM (i:=19) nd rfl (Or.inl rfl) (bF aR (pv 16) (gG kJ hr rfl (aA (cD (g:=(bA 0)) (tc:=cK) (te:=(dW (eC K) (aL 1) (aL 0))) (own:=["_law_place"]) (fr:=["_law_parts"]) (idx:=[18]) rfl (by show aP _ _ _ (aE cP);exact(.of rfl (by decide+kernel))) (cE (pv 14)) (λ_ _ _ _ _=>(aK (i:=0) (by show List.Nodup (["_law_place","_law_parts"]:List Str);decide+kernel) rfl (Or.inl rfl) (Or.inr rfl))) (λ_ _ _ _ _=>cB) (λ_ _ _ _ _=>(bF aR (pv 1) (pv 0) (λ_ _=>rfl))) rfl (cA rfl)) (aA (pv 15) aC))) (λ_ _=>rfl))) (aD (cM PassesOwn.never rfl (zlZ rfl B.zip_ (aA (pv 14) (aA (pv 19) aC))) (iO rfl (bX (aK (i:=20) nd rfl (Or.inl rfl)) (bX (aK (i:=21) nd rfl (Or.inl rfl)) fO))) (aJ (lC (pv 21) (uU (pv 18) (pv 20) lX)))) (aD (lC (aU gZ (aU bY (bF aR (pv 18) mU (λ_ _=>rfl)) (pv 13)) (bF aR (pv 6) mU (λ_ _=>rfl))) (uU (pv 18) mU lX)) (aJ (cV (fE PySem.F.plainAttrs_list PySem.F.slot_list_append PySem.F.type_list_append cS (bF aR (pv 9) (pv 17) (λ_ _=>rfl)) (aA (gG kJ hr rfl (aA (pv 18) (aA (pv 6) aC))) aC)))))))),?_⟩
 rintro Dn s0 s1 s2 s3 s4 s5 s7 s8 s10 s11 s12 s18 s19 s20 s21 ms a M T PL SO MV u us ws st xs H1 hm oa h4 hC hu vR hx hxl q
 try dsimp only[dM,Cx.nox,Cx.wish]
 refine j3 ?_
 intro D0 σ0 U5 U4 U3 U2
 have h10:ms.length<=10:=by have:=hm.len;omega
 have mp: ∀m∈ms,0<m:= λm h=>by have:=hm.rng m h;omega
 have pt0:=sY mp (st:Int)
 have pll: ∀i∈a.pl,i<ms.length:= λi hi=>by have:=oa.lt i hi;unfold iA at this;omega
 refine⟨_,rfl,_,rfl,(st:Int),M,ms,rfl,hC.m,h10,hm.rng,λr H2 hr0 x2 k2=> ?_⟩
 have nr:r∉us:= λhm'=>vR r hm' hr0
 have hC2:=hC.but (.of x2)
 refine⟨_,rfl,_,rfl,PL,rfl,⟨_,bB.of hC2.pl⟩,λD hD=>zrp (K:=K) (λi hi=>by rw[pt0.len];exact pll i hi) h4 hC2.pl k2 hD λH3 x3 k3=> ?_⟩
 have hC3:=hC2.but (.of x3)
 have k23:=x3 _ _ k2
 have gp:=yN pt0 oa
 have sp:=zfn pt0 oa.lt
 have sl:(dF a.pl ms).length=a.pl.length:=by unfold dF;rw[aW]
 obtain⟨c0,c1⟩:=yA sp
 rw[<-oa.len]at c1
 have hi:(lB (dF a.pl (eE (st:Int) ms)) (dF a.pl ms)).toNat<a.mv.length:=by omega
 have gg:a.mv[(lB (dF a.pl (eE (st:Int) ms)) (dF a.pl ms)).toNat]?=some (jQ ms a (eE (st:Int) ms)):=by
  unfold jQ;rw[List.getD_eq_getElem?_getD,List.getElem?_eq_getElem hi];rfl
 obtain⟨ga,hga,hgr⟩:=fC hC3.rw_ gg
 have hgr:H3 ga=some (.lst ((jQ ms a (eE (st:Int) ms)).map V.int)):=hgr
 have hat:mL (ws.map V.ref) (lB (dF a.pl (eE (st:Int) ms)) (dF a.pl ms))=some (.ref ga):=by
  have e:lB (dF a.pl (eE (st:Int) ms)) (dF a.pl ms)=(((lB (dF a.pl (eE (st:Int) ms)) (dF a.pl ms)).toNat:Nat):Int):=by omega
  rw[e];exact bD (by rw[List.getElem?_map,hga];rfl)
 refine⟨_,rfl,D,SO,dF a.pl (eE (st:Int) ms),dF a.pl ms,rfl,bB.of k3,bB.of hC3.so,sp.len,by omega,zgJ hm.rng pll,MV,_,_,_,rfl,rfl,bB.of hC3.mv,hat,?_⟩
 have nga:ga∉us:=hC.nw ga (List.mem_of_getElem? hga)
 have y3:Same H1 H3:=x2.trans x3
 have nr3: ∀{b o},H1 b=some o->b≠r:= λ{b o} e z=>by rw[z,hr0]at e;cases e
 have zuW:ga≠r:=by
  obtain⟨_,_,zz⟩:=cY hC.rw_ hga;exact nr3 (show H1 ga=some _ from zz)
 generalize hps:eE (st:Int) ms=ps at *
 generalize hgo:jQ ms a ps=go at *
 have gl:go.length=a.pl.length:=by rw[gp.len,sl]
 refine⟨_,rfl,_,rfl,PL,ga,rfl,⟨_,bB.of hC3.pl⟩,⟨_,bB.of hgr⟩,zjp (xs:=sJ a.pl) (zs:=go.map V.int) (λi σ H'=> ∃zR zP:Option V,σ=[s0,s1,s2,s3,s4,s5,some (.ref M),s7,s8,some (.ref T),s10,s11,s12,some (.int a.st),some (.ref PL),some (.ref SO),some (.ref MV),some (.int (st:Int)),some (.ref r),some (.ref ga),zR,zP]/\H' r=some (.lst ((dR ps ((a.pl.zip go).take i)).map V.int))/\Same H1 H'/\H' ga=some (.lst (go.map V.int))) ?_ ?_ ?_ ?_ ?_⟩
 . exact⟨_,_,rfl,by rw[List.take_zero];exact k23,y3,hgr⟩
 . rw[aW,aW,gl]
 . rintro i σ H4 ⟨zR,zP,_,_,x4,hg4⟩;exact⟨bB.of (x4 _ _ hC.pl),bB.of hg4⟩
 . rintro i x z σ H4 tt vD j6 ht ⟨zR,zP,rfl,k4,x4,hg4⟩;rw[List.getElem?_map]at vD j6;obtain⟨j,hj,rfl⟩:=Option.map_eq_some_iff.mp vD;obtain⟨v,hv,rfl⟩:=Option.map_eq_some_iff.mp j6;obtain⟨H5,e0,y4,kt⟩:=cT ht (.tup [.int (j:Int),.int v]);rw[e0];have hjl:j<ps.length:=by rw[pt0.len];exact pll j (List.mem_of_getElem? hj)
   have hz:(a.pl.zip go)[i]?=some (j,v):=List.getElem?_zip_eq_some.mpr ⟨hj,hv⟩;have hix:ixN ((dR ps ((a.pl.zip go).take i)).map V.int).length (j:Int)=some j:=by
    rw[aW,gL];unfold ixN;rw[if_pos (by omega),if_pos (by omega)];simp
   refine⟨tt,_,rfl,eS.of kt,rfl,_,_,rfl,_,_,rfl,rfl,?_⟩;refine⟨_,rfl,_,rfl,_,rfl,r,_,_,j,rfl,rfl,y4 _ _ k4,hix,some (.int (j:Int)),some (.int v),rfl,?_,?_,?_⟩
   . rw[aF,bO hz];unfold dR;rw[List.foldl_append];exact congrArg (λl=>some (HO.lst l)) (List.map_set ..).symm
   . exact λb o e=>by rw[aG (nr3 e)];exact y4 _ _ (x4 _ _ e)
   . rw[aG zuW];exact y4 _ _ hg4
 . rintro σ H4 ⟨zR,zP,rfl,k4,x4,hg4⟩;rw[aW,List.take_of_length_le (by rw[List.length_zip];omega)]at k4;have hl4:(dR ps (a.pl.zip go)).length=ms.length:=by rw[gL,pt0.len]
   have ne4:dR ps (a.pl.zip go)≠ []:= λz=>hm.ne (List.length_eq_zero_iff.mp (by rw[<-hl4,z];rfl));obtain⟨l1,l2⟩:=yY ne4;obtain⟨l3,_⟩:=yY hm.ne;have hC4:=hC.but (.of x4);have zkJ:0<ms.getD (ms.length - 1) 0:=by
    have hp:=List.length_pos_iff.mpr hm.ne;rw[List.getD_eq_getElem?_getD,List.getElem?_eq_getElem (by omega)];exact mp _ (List.getElem_mem _)
   refine⟨_,rfl,r,_,_,_,rfl,rfl,bB.of k4,l1,_,rfl,_,_,rfl,rfl,_,rfl,M,_,_,_,rfl,rfl,bB.of hC4.m,l3,_,_,rfl,rfl,zkJ,_,rfl,r,_,_,_,rfl,rfl,k4,l2,?_⟩;have ea:vK ms a ps=(dR ps (a.pl.zip go)).set (ms.length - 1) (((dR ps (a.pl.zip go)).getD (ms.length - 1) 0+a.st) % ms.getD (ms.length - 1) 0):=by
    unfold vK iA;rw[hgo]
   rw[hl4];have k5:aO H4 r (.lst (((dR ps (a.pl.zip go)).map V.int).set (ms.length - 1) (.int (((dR ps (a.pl.zip go)).getD (ms.length - 1) 0+a.st) % ms.getD (ms.length - 1) 0)))) r=some (.lst ((vK ms a ps).map V.int)):=by
    rw[aF,ea,List.map_set]
   have x5:Same H1 (aO H4 r (.lst (((dR ps (a.pl.zip go)).map V.int).set (ms.length - 1) (.int (((dR ps (a.pl.zip go)).getD (ms.length - 1) 0+a.st) % ms.getD (ms.length - 1) 0))))):= λb o e=>by rw[aG (nr3 e)];exact x4 _ _ e
   have o5: ∀b∈us,aO H4 r (.lst (((dR ps (a.pl.zip go)).map V.int).set (ms.length - 1) (.int (((dR ps (a.pl.zip go)).getD (ms.length - 1) 0+a.st) % ms.getD (ms.length - 1) 0)))) b=H1 b:= λb hb=>by
    cases e:H1 b with
    |none=>exact absurd e (vR b hb)
    |some o=>exact x5 b o e
   generalize aO H4 r (.lst (((dR ps (a.pl.zip go)).map V.int).set (ms.length - 1) (.int (((dR ps (a.pl.zip go)).getD (ms.length - 1) 0+a.st) % ms.getD (ms.length - 1) 0))))=H5 at k5 x5 o5 ⊢;have hC5:=hC.but (.of x5);have hux:=x5 _ _ hx;refine⟨_,rfl,_,rfl,T,_,_,.ref u,rfl,rfl,bB.of hC5.t,bD (by rw[List.getElem?_map,hu];rfl),.inl ⟨rfl,_,bB.of hux⟩,_,rfl,_,rfl,r,M,vK ms a ps,ms,rfl,bB.of k5,bB.of hC5.m,by rw[zde,pt0.len],h10,hm.rng,u,_,_,rfl,rfl,hux,small (by rw[aW];omega),?_⟩;refine q _ _ _ _ _ (λb o n e=> ?_) ?_ λb hb n=> ?_
   . rw[aG (λz=>n (by rw[z];exact List.mem_of_getElem? hu))];exact x5 _ _ e
   . rw[aF,List.map_append];unfold qW;rw[hps];rfl
   . rw[aG n];exact o5 b hb
structure LIn(K:W.Frag)(ns:List Int)(ds:List Str)(ms:List Int)(us:List Addr)(fs:Nat->List Int)(z E M T:Addr)(H:Hp):Prop where
 scr: ∀H',kY us H H'->bB K H' z (ns.map V.int)
 n63:ns.length<=63
 e:H E=some (.lst (ds.map V.str))
 m:H M=some (.lst (ms.map V.int))
 t:H T=some (.lst (us.map V.ref))
 rows: ∀j u,us[j]?=some u->H u=some (.lst ((fs j).map V.int))
 nE:E∉us
 nM:M∉us
 nT:T∉us
 nd:us.Nodup
 len:(us.length:Int)=bW ms
 d4:ds.length<=4
 md:ms.length=ds.length+1
 dn:ds.Nodup
def zhP(K:W.Frag)(tr:TS):Prop:= ∀(Dn:fH) (s2 s3 s4 s8 s12 s13 s14 s15 s16 s17 s18 s19 s20 s21:Option V) (ns:List Int) (ds:List Str) (ms:List Int) (us:List Addr) (fs:Nat->List Int) (z E M T p d:Addr) (l:Str) (r:List Str) (fi:Int) (kk:Nat) (H:Hp),LIn K ns ds ms us fs z E M T H->zlV ms->(∀j,(fs j).length<=9)->0<=fi->fi+kk<=60->H p=some (.tup [.str l,.ref d])->H d=some (.tup (r.map V.str))->(∀e∈r,e∈ds)->r.Nodup->r.length<=4->
 (∀(a:AD) v12 xG xA v15 v16 v17 v18 v19 zR zP H',OkA ms a->a.pl=r.map ds.idxOf->kY us H H'->(∀j u,us[j]?=some u->H' u=some (.lst ((fs j++[qW ms a (j:Int)]).map V.int)))->Dn.nx [some (.ref z),some (.int fi),s2,s3,s4,some (.ref E),some (.ref M),some (.int (bW ms)),s8,some (.ref T),some (.int (kk:Int)),some (.ref p),v12,xG,xA,v15,v16,v17,v18,v19,zR,zP] H')->
 tr Dn [some (.ref z),some (.int fi),s2,s3,s4,some (.ref E),some (.ref M),some (.int (bW ms)),s8,some (.ref T),some (.int (kk:Int)),some (.ref p),s12,s13,s14,s15,s16,s17,s18,s19,s20,s21] H
theorem zet: ∀{r ds:List Str},r.Nodup->(∀e∈r,e∈ds)->(r.map ds.idxOf).Nodup:=by
 intro r ds nd jW
 induction r with
 |nil=>exact List.nodup_nil
 |cons x t ih=>
  rw[List.nodup_cons]at nd;rw[List.map_cons,List.nodup_cons];refine⟨λhm=> ?_,ih nd.2 λe he=>jW e (List.mem_cons_of_mem _ he)⟩;obtain⟨y,hy,e⟩:=List.mem_map.mp hm;have hx:=List.getElem_idxOf (List.idxOf_lt_length_of_mem (jW x List.mem_cons_self));have hy':=List.getElem_idxOf (List.idxOf_lt_length_of_mem (jW y (List.mem_cons_of_mem _ hy)));have:x=y:=by rw[<-hx,<-hy'];congr 1;exact e.symm
  exact nd.1 (this▸hy)
theorem eD{D d E:Addr}{Q:VK}{H1:Hp}{r ds:List Str}(jW: ∀e∈r,e∈ds)(h4:r.length<=4)(d4:ds.length<=4)(hd:H1 d=some (.tup (r.map V.str)))(hE:H1 E=some (.lst (ds.map V.str)))(hD:H1 D=none)(fM: ∀H',Same H1 H'->H' D=some (.lst (sJ (r.map ds.idxOf)))->Q (.ref D) H'):
 bH (Itt K d) D (bA 0) cK (tBM K "list" zfM (aL 1) (bL (aL 0) dN)) Q [none,some (.ref E)] H1:=by
 refine mK (xs:=r.map V.str) (λi ys σ H=> ∃v:Option V,ys=sJ ((r.take i).map ds.idxOf)/\σ=[v,some (.ref E)]/\Same H1 H) ?_ (by rw[aW];omega) ?_ ?_ ?_ ?_
 . exact⟨none,rfl,rfl,aQ hD⟩
 . rintro i ys σ H ⟨v,rfl,_⟩;rw[aW,aW,List.length_take];exact Nat.min_le_left _ _
 . rintro i ys σ H ⟨v,_,_,x⟩;exact eS.of (x _ _ hd)
 . rintro i y ys σ H hy bZ ⟨v,rfl,rfl,x⟩;rw[List.getElem?_map]at hy;obtain⟨e,he,rfl⟩:=Option.map_eq_some_iff.mp hy;have hm:=jW e (List.mem_of_getElem? he);refine⟨_,rfl,.inl ⟨rfl,_,bB.of (x _ _ hE)⟩,_,rfl,E,e,ds,rfl,rfl,x _ _ hE,hm,by omega,bZ,some (.str e),?_,rfl,x.at hD⟩;rw[bO he,List.map_append];show _=List.map _ (_++_);rw[List.map_append];rfl
 . rintro ys σ H bZ ⟨v,rfl,_,x⟩;rw[aW,List.take_length]at bZ;exact fM H x bZ
theorem zab{cdv:Value}{A:Around}{outer:List Env}{s:Shared}{H:Hp}{E:XK}(hr:eV k (A.deeper (envOfC "_law_calm" (aE cP) s.heap.objs.size f cdv)))(B:Bt mg){tr1:TS}(hR1:vS (dM fV P w K mg base ["_law_script","_law_first","_law_rows","_law_most","_law_flow_here","_law_desks_here","_law_sizes_here","_law_total","_law_size","_law_table","_law_k","_law_pair","_law_one","_law_step","_law_places","_law_some","_law_moves_here","_law_state","_law_parts","_law_goal","_law_place","_law_value"] "_law_calm" (aE cP) f cdv A outer s H E).nox zge tr1)(hT1:zcy tr1)(dY:Fn P w K mg base k "_law_flow" ["_law_script","_law_k"] (tR K) g gd)(aN:Fn P w K mg base k "_law_draw" ["_law_flow_here","_law_many"] cO g2 vO)(lF:Fn P w K mg base k "_law_moves" ["_law_flow_here","_law_places","_law_sizes_here"] xZ g3 gd3):
 ∃tr,vS (dM fV P w K mg base ["_law_script","_law_first","_law_rows","_law_most","_law_flow_here","_law_desks_here","_law_sizes_here","_law_total","_law_size","_law_table","_law_k","_law_pair","_law_one","_law_step","_law_places","_law_some","_law_moves_here","_law_state","_law_parts","_law_goal","_law_place","_law_value"] "_law_calm" (aE cP) f cdv A outer s H E).nox zdd tr/\zhP K tr:=by
 have nd:=sC.nd
 refine⟨_,(aD (aM (i:=12) nd rfl (Or.inl rfl) (gG dY hr rfl (aA (pv 0) (aA (aU bY (aU bY (pv 1) aH) (pv 10)) aC)))) (aD (aM (i:=13) nd rfl (Or.inl rfl) (gG aN hr rfl (aA (pv 12) (aA (bF aR (pv 6) mU (λ_ _=>rfl)) aC)))) (aD (kN (i:=14) nd rfl (Or.inl rfl) (g:=(bA 0)) (tc:=cK) (te:=(tBM K "list" zfM (aL 1) (bL (aL 0) dN))) (own:=["_law_desk"]) (fr:=["_law_desks_here"]) (idx:=[5]) rfl (by show aP _ _ _ (aE cP);exact(.of rfl (by decide+kernel))) (uL (bF fX (pv 11) aH (λ_ _=>rfl))) (λ_ _ _ _ _=>(aK (i:=0) (by show List.Nodup (["_law_desk","_law_desks_here"]:List Str);decide+kernel) rfl (Or.inl rfl) (Or.inr rfl))) (λ_ _ _ _ _=>cB) (λ_ _ _ _ _=>(fE PySem.F.plainAttrs_list PySem.F.slot_list_index PySem.F.type_list_index zeg (pv 1) (aA (pv 0) aC))) rfl (cA rfl)) (aD (kN (i:=15) nd rfl (Or.inl rfl) (g:=(bA 0)) (tc:=cK) (te:=(dW (eC K) (aL 1) (aL 0))) (own:=["_law_place"]) (fr:=["_law_sizes_here"]) (idx:=[6]) rfl (by show aP _ _ _ (aE cP);exact(.of rfl (by decide+kernel))) (cE (pv 14)) (λ_ _ _ _ _=>(aK (i:=0) (by show List.Nodup (["_law_place","_law_sizes_here"]:List Str);decide+kernel) rfl (Or.inl rfl) (Or.inr rfl))) (λ_ _ _ _ _=>cB) (λ_ _ _ _ _=>(bF aR (pv 1) (pv 0) (λ_ _=>rfl))) rfl (cA rfl)) (aD (aM (i:=16) nd rfl (Or.inl rfl) (gG lF hr rfl (aA (pv 12) (aA (pv 14) (aA (pv 6) aC))))) (aJ (cM PassesOwn.never rfl (bU rfl B.range_ (aA (pv 7) aC)) (aK (i:=17) nd rfl (Or.inl rfl)) hR1))))))),?_⟩
 rintro Dn s2 s3 s4 s8 s12 s13 s14 s15 s16 s17 s18 s19 s20 s21 ns ds ms us fs z E M T p d l r fi kk H1 hL hm hf9 fi0 fik hp hd jW rnd r4 q
 try dsimp only[dM,Cx.nox,Cx.wish]
 refine zgf ?_
 intro D0 σ0 U6 U5 U4 U3 U2
 have mp: ∀m∈ms,0<m:= λm h=>by have:=hm.rng m h;omega
 have vR: ∀b∈us,H1 b≠none:= λb hb e=>by
  obtain⟨j,hj⟩:=List.getElem?_of_mem hb;rw[hL.rows j b hj]at e;cases e
 have nus: ∀{b o},H1 b=some o->(∀xs:List Int,o≠ .lst (xs.map V.int))->b∉us:= λ{b o} e n hb=>by
  obtain⟨j,hj⟩:=List.getElem?_of_mem hb;rw[hL.rows j b hj]at e;exact n _ (Option.some.inj e).symm
 refine⟨_,rfl,_,rfl,_,_,rfl,rfl,_,rfl,_,_,rfl,rfl,z,ns,_,rfl,hL.scr H1 (kY.refl us H1),hL.n63,by omega,by omega,λb o2 hb fb=> ?_⟩
 have nb:b∉us:= λh=>vR b h hb
 obtain⟨H2,e0,x2,-⟩:=cT hb o2
 rw[e0]at fb ⊢
 obtain⟨l3,_⟩:=yY hm.ne
 have zkJ:1<=ms.getD (ms.length - 1) 0/\ms.getD (ms.length - 1) 0<=4:=by
  have hp:=List.length_pos_iff.mpr hm.ne;rw[List.getD_eq_getElem?_getD,List.getElem?_eq_getElem (by omega)];exact hm.rng _ (List.getElem_mem _)
 have nbs: ∀{c o},H1 c=some o->c≠b:= λe=>aI e hb
 refine⟨_,rfl,_,rfl,M,_,_,_,rfl,rfl,bB.of (x2 _ _ hL.m),l3,b,_,rfl,fb,by omega,by omega,λst H3 st0 st1 f3 x3=> ?_⟩
 have e3: ∀{c o},H1 c=some o->H3 c=some o:= λe=>x3 _ _ (nbs e) (x2 _ _ e)
 have hat:mL [V.str l,V.ref d] 1=some (.ref d):=bD (j:=1) rfl
 refine⟨_,rfl,p,_,_,_,rfl,rfl,eS.of (e3 hp),hat,d,rfl,⟨_,eS.of (e3 hd)⟩,λD hD=>eD (K:=K) jW r4 hL.d4 (e3 hd) (e3 hL.e) hD λH4 x4 k4=> ?_⟩
 have e4: ∀{c o},H1 c=some o->H4 c=some o:= λe=>x4 _ _ (e3 e)
 have fr: ∀{c},c≠b->H3 c=none->H1 c=none:= λ{c} n e=>x2.free (sL x3 n e)
 have nDb:D≠b:=bJ hD f3
 have nD:D∉us:= λh=>vR D h (fr nDb hD)
 have pll: ∀i∈r.map ds.idxOf,i<ds.length:= λi hi=>by
  obtain⟨e,he,rfl⟩:=List.mem_map.mp hi;exact List.idxOf_lt_length_of_mem (jW e he)
 have pl4:(r.map ds.idxOf).length<=4:=by rw[aW];exact r4
 have pnd:=zet rnd jW
 generalize jK:r.map ds.idxOf=pl at k4 pll pl4 pnd
 have f4:=Same.flow x4 f3
 refine⟨_,rfl,D,rfl,⟨_,bB.of k4⟩,λS hS=>zrp (K:=K) (λi hi=>by have:=pll i hi;rw[hL.md];omega) pl4 k4 (e4 hL.m) hS λH5 x5 k5=> ?_⟩
 have e5: ∀{c o},H1 c=some o->H5 c=some o:= λe=>x5 _ _ (e4 e)
 have k45:=x5 _ _ k4
 have nSb:S≠b:=bJ hS f4
 have nS:S∉us:= λh=>vR S h (fr nSb (x4.free hS))
 have f5:=Same.flow x5 f4
 refine⟨_,rfl,_,rfl,_,rfl,b,D,M,pl,ms,rfl,f5,k45,nDb,e5 hL.m,nbs hL.m,pl4,λi hi=>by have:=pll i hi;rw[hL.md];omega,hm.rng,λVa xQ mv H6 hV oQ ml hP mB f6 x6 k6=> ?_⟩
 have e6: ∀{c o},H1 c=some o->H6 c=some o:= λe=>x6 _ _ (nbs e) (e5 e)
 have nVb:Va≠b:=bJ hV f5
 have nV:Va∉us:= λh=>vR Va h (fr nVb (x4.free (x5.free hV)))
 have nw: ∀w∈xQ,w∉us:= λw hw h=>by
  have hw5:=oQ w hw;have nwb:w≠b:=bJ hw5 f5;exact vR w h (fr nwb (x4.free (x5.free hw5)))
 have oa:OkA ms ⟨pl,mv,st⟩:=⟨pnd,λi hi=>by have:=pll i hi;unfold iA;rw[hL.md];omega,ml,mB⟩
 have hC:CIn ms ⟨pl,mv,st⟩ M T D S Va us xQ H6:=⟨e6 hL.m,x6 _ _ nDb k45,x6 _ _ nSb k5,k6,hP,e6 hL.t,hL.nM,nD,nS,nV,hL.nT,nw⟩
 have B6:kY us H1 H6:= λc o _ e=>e6 e
 have ln:us.length=(bW ms).toNat:=by have:=hL.len;omega
 have pr:=hm.prod
 have p0:=gY mp
 refine⟨_,rfl,_,rfl,by omega,by omega,eO (n:=(bW ms).toNat) (λi σ H'=> ∃v17 v18 v19 zR zP:Option V,σ=[some (.ref z),some (.int fi),s2,s3,s4,some (.ref E),some (.ref M),some (.int (bW ms)),s8,some (.ref T),some (.int (kk:Int)),some (.ref p),some (.ref b),some (.int st),some (.ref D),some (.ref S),some (.ref Va),v17,v18,v19,zR,zP]/\kY us H6 H'/\(∀j u,us[j]?=some u->H' u=some (.lst ((fs j++(if j<i then [qW ms ⟨pl,mv,st⟩ (j:Int)]else [])).map V.int)))) ?_ ?_ ?_⟩
 . refine⟨_,_,_,_,_,rfl,kY.refl us H6,λj u hj=> ?_⟩;rw[if_neg (Nat.not_lt_zero j),List.append_nil];exact e6 (hL.rows j u hj)
 . rintro i σ H7 hi ⟨v17,v18,v19,zR,zP,rfl,b7,r7⟩;rw[Int.zero_add];have hiu:i<us.length:=by omega
   have hu:us[i]?=some us[i]:=List.getElem?_eq_getElem hiu;have hx:=r7 i _ hu;rw[if_neg (Nat.lt_irrefl i),List.append_nil]at hx;refine hT1 _ _ _ _ _ _ _ _ _ _ _ _ _ _ _ _ ms ⟨pl,mv,st⟩ M T D S Va us[i] us xQ i (fs i) H7 hm oa pl4 (hC.but b7) hu (λc hc e=> ?_) hx (by have:=hf9 i;omega) λv18 v19 zR zP H8 b8 k8 o8=>⟨_,_,_,_,_,rfl,b7.trans b8,λj u hj=> ?_⟩
   . obtain⟨j,hj⟩:=List.getElem?_of_mem hc;rw[r7 j c hj]at e;cases e
   . by_cases ej:j=i
     . subst ej;have:u=us[j]:=Option.some.inj (hj.symm.trans hu);rw[this,if_pos (Nat.lt_succ_self j)];exact k8
     . obtain⟨h1,e1⟩:=List.getElem?_eq_some_iff.mp hj;have nu:u≠us[i]:= λz=>ej ((List.getElem_inj hL.nd).mp (e1.trans z));rw[o8 u (List.mem_of_getElem? hj) nu,r7 j u hj];have:(j<i+1)↔(j<i):=by omega
       simp only[this]
 . rintro σ H7 ⟨v17,v18,v19,zR,zP,rfl,b7,r7⟩;refine q ⟨pl,mv,st⟩ _ _ _ _ _ _ _ _ _ _ H7 oa jK.symm (B6.trans b7) λj u hj=> ?_;have:=r7 j u hj;rw[if_pos (by have:=(List.getElem?_eq_some_iff.mp hj).1;omega)]at this;exact this
end KK
namespace KK
open PySem L2 PyProof.Rows KKM KKL
def vL(ms:List Int)(gT:List AD)(n:Nat):List (List Int):=(List.range n).map λst:Nat=>gT.map λa=>qW ms a (st:Int)
theorem zjs{rs:List Row}{ds:List Str}{ms:List Int}{gT:List AD}(hm: ∀m∈ms,0<m)(hl:gT.length=rs.length)(jW: ∀r∈rs,∀d∈r.2,d∈ds)(ha: ∀(j:Nat) a r,gT[j]?=some a->rs[j]?=some r->OkA ms a/\a.pl=r.2.map ds.idxOf):(∀r∈vL ms gT (bW ms).toNat,r.length=rs.length)/\(∀r∈vL ms gT (bW ms).toNat,∀x∈r,0<=x/\x<(vL ms gT (bW ms).toNat).length)/\0<(vL ms gT (bW ms).toNat).length:=by
 have p0:=gY hm
 have tl:(vL ms gT (bW ms).toNat).length=(bW ms).toNat:=by unfold vL;rw[aW,List.length_range]
 have ok: ∀a∈gT,OkA ms a:= λa h=>by
  obtain⟨j,hj⟩:=List.getElem?_of_mem h;have eY:j<rs.length:=by rw[<-hl];exact(List.getElem?_eq_some_iff.mp hj).1
  exact(ha j a _ hj (List.getElem?_eq_getElem eY)).1
 refine⟨λr hr=> ?_,λr hr x hx=> ?_,by omega⟩
 . obtain⟨st,_,rfl⟩:=List.mem_map.mp hr;rw[aW,hl]
 . obtain⟨st,_,rfl⟩:=List.mem_map.mp hr;obtain⟨a,haa,rfl⟩:=List.mem_map.mp hx;have:=znm hm (ok a haa) (st:Int);omega
theorem zdq{α β:Type}{F:α->β->Prop}: ∀{l:List α} {m:List β},l.length=m.length->(∀(j:Nat) a b,l[j]?=some a->m[j]?=some b->F a b)->Paired F l m:=by
 intro l
 induction l with
 |nil=>
  intro m h _;rw[List.length_eq_zero_iff.mp h.symm];exact .nil
 |cons x t ih=>
  intro m h f;cases m with
  |nil=>cases h
  |cons y r=>exact .cons (f 0 x y rfl rfl) (ih (Nat.succ.inj h) λj a b h1 h2=>f (j+1) a b h1 h2)
section
variable {P:Program}{w:World}{K:W.Frag}{mg:Str->Option Value}{base:Heap}{f g g2 g3 g4 g5 g6 g7:Addr}{fd gd vO gd3 xL gd5 gd6 gd7:FuncData}{k:Nat}
theorem zjX{D:Addr}{Q:VK}{H1:Hp}{n:Nat}(hn:n<=60)(hD:H1 D=none)(fM: ∀(us:List Addr) (H':Hp),us.length=n->us.Nodup->(∀u∈us,H1 u=none/\H' u=some (.lst []))->D∉us->Same H1 H'->H' D=some (.lst (us.map V.ref))->Q (.ref D) H'):
 bH (vB 0 n) D (bA 0) cK (qB dN) Q [none] H1:=by
 refine cR (λi ys σ H=> ∃(us:List Addr) (v:Option V),ys=us.map V.ref/\us.length=i/\us.Nodup/\(∀u∈us,H1 u=none/\H u=some (.lst []))/\D∉us/\σ=[v]/\Same H1 H) ?_ (by omega) ?_ ?_ ?_
 . exact⟨[],none,rfl,rfl,List.nodup_nil,(by intro _ z;cases z),(by intro z;cases z),rfl,aQ hD⟩
 . rintro i ys σ H ⟨us,v,rfl,e,_⟩;rw[aW,e];exact Nat.le_refl _
 . rintro i ys σ H hi bZ ⟨us,v,rfl,e,sE,hu,zL,rfl,x⟩;refine⟨Nat.zero_le _,λe1 he1=> ?_⟩;have nDe:D≠e1:=aI bZ he1;have nin:e1∉us:= λh=>by rw[(hu e1 h).2]at he1;cases he1
   have y:Same H (aO H e1 (.lst [])):=aQ he1;refine⟨y _ _ bZ,us++[e1],_,by rw[List.map_append];rfl,by rw[List.length_append,e];rfl,KKM.nodup_snoc sE nin,λu h=> ?_,λh=> ?_,rfl,(x.trans y).at hD⟩
   . have nuD:u≠D:= λz=>by
      rcases List.mem_append.mp h with h|h
      . exact zL (z▸h)
      . exact nDe ((z.symm.trans (List.mem_singleton.mp h)))
     rw[aG nuD]
     rcases List.mem_append.mp h with h|h
     . exact⟨(hu u h).1,y _ _ (hu u h).2⟩
     . rw[List.mem_singleton.mp h];exact⟨x.free he1,aF⟩
   . rcases List.mem_append.mp h with h|h
     . exact zL h
     . exact nDe (List.mem_singleton.mp h)
 . rintro ys σ H bZ ⟨us,v,rfl,e,sE,hu,zL,_,x⟩;exact fM us H e sE hu zL x bZ
def zaA(K:W.Frag):Sp:= λvs H Q _=> ∃(z L:Addr) (ns:List Int) (rs:List Row) (fst:Int),vs=[.ref z,.int fst,.ref L,.int 4]/\bB K H z (ns.map V.int)/\ns.length<=63/\0<=fst/\fst<=30/\oJ H L rs/\zrE rs/\
 ∀(t T G:Addr) (us:List Addr) (cs:eG) (H':Hp),Same H H'->H' t=some (.tup [.ref T,.ref G])->nC H' T G us cs rs.length->cs.length<=4->(∀u∈T::G::us,H u=none)->Q (.ref t) H'
theorem zjZ(F:lH K "_law_calm" "_law_calm" cP f fd)(B:Bt mg)(dY:Fn P w K mg base k "_law_flow" ["_law_script","_law_k"] (tR K) g gd)(aN:Fn P w K mg base k "_law_draw" ["_law_flow_here","_law_many"] cO g2 vO)(lF:Fn P w K mg base k "_law_moves" ["_law_flow_here","_law_places","_law_sizes_here"] xZ g3 gd3)(lG:Fn P w K mg base k "_law_split" ["_law_state","_law_sizes_here"] xO g4 xL)(kJ:Fn P w K mg base k "_law_put" ["_law_parts","_law_sizes_here"] (zfw K) g5 gd5)(xP:Fn P w K mg base k "_law_desks" ["_law_rows"] wH g6 gd6)(zA:Fn P w K mg base k "_law_sizes" ["_law_flow_here","_law_desks_here","_law_most"] zdc g7 gd7):dG P w K mg base fV (k+1) f fd ["_law_script","_law_first","_law_rows","_law_most"] (zaA K):=by
 refine F.ok sC (λvs H Q E h=> ?_) (λcdv A outer s H vs Q E hr h=> ?_)
 . obtain⟨z,L,ns,rs,fst,rfl,_⟩:=h;rfl
 obtain⟨z,L,ns,rs,fst,rfl,hS,h63,fs0,fs1,hL,hG,q⟩:=h
 have nd:=sC.nd
 obtain⟨tr1,hR1,hT1⟩:=zbq (cdv:=cdv) (A:=A) (outer:=outer) (s:=s) (H:=H) (E:=E) hr B lG kJ
 obtain⟨tr2,hR2,hT2⟩:=zab hr B hR1 hT1 dY aN lF
 refine⟨_,(aD (aM (i:=4) nd rfl (Or.inr rfl) (gG dY hr rfl (aA (pv 0) (aA (pv 1) aC)))) (aD (aM (i:=5) nd rfl (Or.inr rfl) (gG xP hr rfl (aA (pv 2) aC))) (aD (aM (i:=6) nd rfl (Or.inr rfl) (gG zA hr rfl (aA (pv 4) (aA (pv 5) (aA (pv 3) aC))))) (aD (aM (i:=7) nd rfl (Or.inl rfl) aH) (aD (cM PassesOwn.never rfl (cE (pv 6)) (aK (i:=8) nd rfl (Or.inl rfl)) (aJ (aM (i:=7) nd rfl (Or.inl rfl) (aU eK (pv 7) (pv 8))))) (aD (kN (i:=9) nd rfl (Or.inl rfl) (g:=(bA 0)) (tc:=cK) (te:=(qB dN)) (own:=["_law_state"]) (fr:=([]:List Str)) (idx:=[]) rfl (by show aP _ _ _ (aE cP);exact(.of rfl (by decide+kernel))) (bU rfl B.range_ (aA (pv 7) aC)) (λ_ _ _ _ _=>(aK (i:=0) (by show List.Nodup (["_law_state"]:List Str);decide+kernel) rfl (Or.inl rfl) (Or.inr rfl))) (λ_ _ _ _ _=>cB) (λ_ _ _ _ _=>(bV aC)) rfl (cA rfl)) (aD (cM PassesOwn.never rfl (zC rfl B.enumerate_ (aA (pv 2) aC)) (iO rfl (bX (aK (i:=10) nd rfl (Or.inl rfl)) (bX (aK (i:=11) nd rfl (Or.inl rfl)) fO))) hR2) (aJ (cH (eP (aA (pv 9) (aA (cD (g:=(bA 0)) (tc:=(gU (dW rEq (gH cO [] E0 (bL (aL 1) (bL (tC (.int 2)) dN))) (tC (.int 0))))) (te:=(aL 0)) (own:=["_law_state"]) (fr:=["_law_flow_here"]) (idx:=[4]) rfl (by show aP _ _ _ (aE cP);exact(.of rfl (by decide+kernel))) (bU rfl B.range_ (aA (pv 7) aC)) (λ_ _ _ _ _=>(aK (i:=0) (by show List.Nodup (["_law_state","_law_flow_here"]:List Str);decide+kernel) rfl (Or.inl rfl) (Or.inr rfl))) (λ_ _ _ _ _=>jD (cF lY (gG aN hr rfl (aA (pv 1) (aA aH aC))) aH (dI _))) (λ_ _ _ _ _=>(pv 0)) rfl (cA rfl)) aC)))))))))))),?_⟩
 try dsimp only[dM,Cx.nox,Cx.wish]
 refine zqN ?_
 intro D0 σ0 U8 U7 U6 U5 U4 U3 U2
 have l6:=hG.len
 refine⟨_,rfl,_,rfl,z,ns,fst,rfl,hS,h63,fs0,by omega,λa o2 ha hF=> ?_⟩
 obtain⟨H1,e0,x1,-⟩:=cT ha o2
 rw[e0]at hF ⊢
 refine⟨_,rfl,L,rs,rfl,hL.same x1,by omega,λr kD=>⟨by have:=(hG.row r kD).2.1;omega,(hG.row r kD).2.2⟩,λe ds H2 _ dn _ dm he x2 ke=> ?_⟩
 have f2:=Same.flow x2 hF
 have ne:e≠a:=bJ he hF
 have d4:ds.length<=4:=by
  obtain⟨fs,h4,jW⟩:=hG.few
  rcases Nat.lt_or_ge fs.length ds.length with h|h
  . obtain⟨c,h1,h2⟩:=pig fs ds dn h;obtain⟨r,a',b'⟩:=(dm c).mp h1;exact absurd (jW r a' c b') h2
  . omega
 refine⟨_,rfl,_,rfl,_,rfl,a,e,ds,rfl,f2,ke,ne,d4,λM ms H3 ml mr mp nM hM0 f3 x3 kM=> ?_⟩
 have hm:zlV ms:=⟨λz=>by rw[z]at ml;simp at ml,by omega,mr,by omega⟩
 have zqQ: ∀m∈ms,0<m:= λm h=>by have:=mr m h;omega
 have e3: ∀{b o},H b=some o->H3 b=some o:= λ{b o} h=>x3 _ _ (aI h ha) (x2 _ _ (x1 _ _ h))
 have ke3:=x3 _ _ ne ke
 have p0:=gY zqQ
 refine⟨_,rfl,M,rfl,⟨_,bB.of kM⟩,eA (xs:=ms.map V.int) (λi σ H'=> ∃v8:Option V,σ=[some (.ref z),some (.int fst),some (.ref L),some (.int 4),some (.ref a),some (.ref e),some (.ref M),some (.int (bW (ms.take i))),v8,none,none,none,none,none,none,none,none,none,none,none,none,none]/\H'=H3) ?_ ?_ ?_ ?_⟩
 . exact⟨none,rfl,rfl⟩
 . rintro i σ H4 _ ⟨_,_,rfl⟩;exact bB.of kM
 . rintro i y σ H4 hy ⟨v8,rfl,rfl⟩;rw[List.getElem?_map]at hy;obtain⟨m,hm',rfl⟩:=Option.map_eq_some_iff.mp hy;have hmm:=mr m (List.mem_of_getElem? hm');refine⟨_,rfl,_,rfl,_,_,rfl,rfl,.inr (by omega),some (.int m),?_,rfl⟩;rw[bO hm',jU];rfl
 rintro σ H4 ⟨v8,rfl,rfl⟩
 rw[aW,List.take_length]
 refine⟨_,rfl,_,rfl,by omega,by omega,λT hT=>zjX (n:=(bW ms).toNat) (by omega) hT λus H5 ul und hu nTu x5 kT=> ?_⟩
 obtain⟨ts,hLt,hTs⟩:=id hL
 have ma:M≠a:=nM
 have hM3:=x5 _ _ kM
 have he3:=x5 _ _ ke3
 have zsE:=x5 _ _ (e3 hLt)
 have fresh: ∀{b o},H4 b=some o->b∉us:= λ{b o} h hb=>by rw[(hu b hb).1]at h;cases h
 have ln:(us.length:Int)=bW ms:=by rw[ul];omega
 have fa5:=Same.flow x5 f3
 obtain⟨_,_,_,ea,_⟩:=id f3
 have na:a∉us:=fresh ea
 have zvc:=Paired.length hTs
 refine⟨_,rfl,L,rfl,⟨_,bB.of zsE⟩,sR (xs:=ts.map V.ref) (λi σ H'=> ∃(pW v11 v12 xG xA v15 v16 v17 v18 v19 zR zP:Option V) (gT:List AD),σ=[some (.ref z),some (.int fst),some (.ref L),some (.int 4),some (.ref a),some (.ref e),some (.ref M),some (.int (bW ms)),v8,some (.ref T),pW,v11,v12,xG,xA,v15,v16,v17,v18,v19,zR,zP]/\gT.length=i/\(∀(j:Nat) a r,gT[j]?=some a->rs[j]?=some r->OkA ms a/\a.pl=r.2.map ds.idxOf)/\(∀(j:Nat) (u:Addr),us[j]?=some u->H' u=some (.lst ((gT.map λa=>qW ms a (j:Int)).map V.int)))/\kY us H5 H') ?_ ?_ ?_ ?_⟩
 . exact⟨_,_,_,_,_,_,_,_,_,_,_,_,[],rfl,rfl,(λj a r h=>by simp at h),(λj u hj=>(hu u (List.mem_of_getElem? hj)).2),kY.refl us H5⟩
 . rintro i σ H6 _ ⟨_,_,_,_,_,_,_,_,_,_,_,_,gT,_,_,_,_,b6⟩;exact bB.of (b6 _ _ (fresh (e3 hLt)) zsE)
 . rintro i y σ H6 tt hy htt ⟨pW,v11,v12,xG,xA,v15,v16,v17,v18,v19,zR,zP,gT,rfl,al,ha6,hr6,b6⟩;rw[List.getElem?_map]at hy;obtain⟨p,hp,rfl⟩:=Option.map_eq_some_iff.mp hy;obtain⟨r,hri,d,hpd,hdd⟩:=hTs.get hp;obtain⟨H7,e0,y7,kt⟩:=cT htt (.tup [.int (i:Int),.ref p]);rw[e0];have b7:kY us H5 H7:=b6.trans (.of y7);have k7: ∀{b o},H4 b=some o->H7 b=some o:= λ{b o} h=>b7 _ _ (fresh h) (x5 _ _ h);have hm':=hG.row r (List.mem_of_getElem? hri);have hil:=(List.getElem?_eq_some_iff.mp hri).1;refine⟨tt,_,rfl,eS.of kt,rfl,_,_,rfl,_,_,rfl,rfl,?_⟩;have hLI:LIn K ns ds ms us (λj=>gT.map λa=>qW ms a (j:Int)) z e M T H7:=by
    refine⟨λH' b'=> ?_,h63,k7 ke3,k7 kM,b7 _ _ nTu kT,λj u hj=>y7 _ _ (hr6 j u hj),fresh ke3,fresh kM,nTu,und,ln,d4,ml,dn⟩
    rcases hS with(h|⟨o,h⟩)|h
    . exact .inl (.inl (b' _ _ (fresh (e3 h)) (k7 (e3 h))))
    . exact .inl (.inr ⟨o,b' _ _ (fresh (e3 h)) (k7 (e3 h))⟩)
    . exact .inr h
   refine hT2 _ _ _ _ _ _ _ _ _ _ _ _ _ _ _ ns ds ms us _ z e M T p d r.1 r.2 fst i H7 hLI hm (λj=>by rw[aW,al];omega) fs0 (by omega) (k7 (e3 hpd)) (k7 (e3 hdd)) (λd' h'=>(dm d').mpr ⟨r,List.mem_of_getElem? hri,h'⟩) hm'.2.2 hm'.2.1 λac v12 xG xA v15 v16 v17 v18 v19 zR zP H8 oac pac b8 k8=> ?_;refine⟨_,_,_,_,_,_,_,_,_,_,_,_,gT++[ac],rfl,by rw[List.length_append,al];rfl,λj a' r' h1 h2=> ?_,λj u hj=> ?_,b7.trans b8⟩
   . rcases Nat.lt_or_ge j gT.length with c|c
     . rw[List.getElem?_append_left c]at h1;exact ha6 j a' r' h1 h2
     . rw[List.getElem?_append_right c]at h1;have hj0:j - gT.length=0:=by
        have:=(List.getElem?_eq_some_iff.mp h1).1;rw[List.length_singleton]at this;omega
       rw[hj0]at h1;cases Option.some.inj h1;have:j=i:=by omega
       subst this;cases Option.some.inj (h2.symm.trans hri);exact⟨oac,pac⟩
   . have ea:(gT++[ac]).map (λa=>qW ms a (j:Int))=gT.map (λa=>qW ms a (j:Int))++[qW ms ac (j:Int)]:=by rw[List.map_append];rfl
     rw[ea];exact k8 j u hj
 . rintro σ H6 ⟨pW,v11,v12,xG,xA,v15,v16,v17,v18,v19,zR,zP,gT,rfl,al,ha6,hr6,b6⟩;rw[aW,zvc]at al;have k6: ∀{b o},H4 b=some o->H6 b=some o:= λ{b o} h=>b6 _ _ (fresh h) (x5 _ _ h);have f6:aZ H6 a:=by
    obtain⟨u1,u2,u3,e1,e2⟩:=f3;exact⟨u1,u2,u3,k6 e1,e2⟩
   refine⟨_,rfl,_,rfl,_,rfl,by omega,by omega,λG hGn=>zkG (n:=(bW ms).toNat) (by omega) hGn f6 λgd H7 _ gup hgd _ f7 x7 k7=> ?_⟩;have nGa:G≠a:=bJ hGn f6;refine⟨cL 2,λt ht=> ?_⟩;obtain⟨H8,e0,y8,kt⟩:=cT ht (.tup [.ref T,.ref G]);rw[e0];obtain⟨cl,ce,cp⟩:=zjs zqQ al (λr kD d' h'=>(dm d').mpr ⟨r,kD,h'⟩) ha6;have tl:(vL ms gT (bW ms).toNat).length=(bW ms).toNat:=by unfold vL;rw[aW,List.length_range]
   obtain⟨cs,c1,c2,c3⟩:=zcz (tb:=vL ms gT (bW ms).toNat) (gd:=gd) (λr kD x hx=>(ce r kD x hx).1) gup (λx hx=>by rw[tl];have:=hgd x hx;omega);refine q t T G us cs H8 (λb o h=>y8 _ _ (x7 _ _ (aI h ha) (k6 (e3 h)))) kt ?_ (by omega) (λu hu'=> ?_)
   rotate_left
   . cases e:H u with
     |none=>rfl
     |some o=>
      have e4:=e3 e
      rcases List.mem_cons.mp hu' with z|hu'
      . rw[z,hT]at e4;cases e4
      rcases List.mem_cons.mp hu' with z|hu'
      . rw[z]at e4;have:=k6 e4;rw[hGn]at this;cases this
      . rw[(hu u hu').1]at e4;cases e4
   have nTa:T≠a:= λz=>by rw[z,ea]at hT;cases hT
   refine⟨⟨y8 _ _ (x7 _ _ nTa (b6 _ _ nTu kT)),?_,λr kD=> ?_,by rw[c2];omega⟩,by rw[c3];exact y8 _ _ k7,zcP (by omega) (by rw[c2];exact cl) (by rw[c2,c1];exact λr kD x hx=>(ce r kD x hx).2)⟩
   . rw[c2];refine zdq (by rw[tl,ul]) λj u r hj kD=> ?_;have hr2:r=gT.map λa=>qW ms a (j:Int):=by
      unfold vL at kD;rw[List.getElem?_map]at kD;obtain⟨j',hj',rfl⟩:=Option.map_eq_some_iff.mp kD;have:=List.getElem?_eq_some_iff.mp hj';obtain⟨h1,h2⟩:=this;rw[List.getElem_range]at h2;rw[h2]
     rw[hr2];exact y8 _ _ (x7 _ _ (λz=>na (z▸List.mem_of_getElem? hj)) (hr6 j u hj))
   . rw[c2]at kD;exact cl r kD
end
section
variable {P:Program}{w:World}{K:W.Frag}{mg:Str->Option Value}{base:Heap}{f g g2 g3 g4:Addr}{fd gd vO gd3 xL:FuncData}{k:Nat}{C CT CB CG M ft:Addr}{ftd:FuncData}
abbrev zhy(K:W.Frag):List V->Hp->VK->Prop:= λxs H Q=> ∃p ys,xs=[.ref p]/\((bB K H p ys/\ ∀l,H l=none->Q (.ref l) (aO H l (.tup ys)))\/(eS K H p ys/\Q (.ref p) H))
theorem zqJ{D t c:Addr}{Q:VK}{H1:Hp}{ns cl:List Nat}(hn: ∀n∈ns,n<cl.length)(vE:ns.length<=60)(hD:H1 D=none)(ht:H1 t=some (.lst ((cG ns).map V.int)))(hc:H1 c=some (.lst ((cG cl).map V.int)))
 (fM: ∀H',Same H1 H'->H' D=some (.lst ((cG (ns.map λn=>cl.getD n 0)).map V.int))->Q (.ref D) H'):bH (zM K t) D (bA 0) cK (dW (eC K) (aL 1) (aL 0)) Q [none,some (.ref c)] H1:=by
 refine dU (xs:=(cG ns).map V.int) (λi ys σ H=> ∃v:Option V,ys=(cG ((ns.take i).map λn=>cl.getD n 0)).map V.int/\σ=[v,some (.ref c)]/\Same H1 H) ?_ (by rw[aW,bE];omega) ?_ ?_ ?_ ?_
 . exact⟨none,rfl,rfl,aQ hD⟩
 . rintro i ys σ H ⟨v,rfl,_⟩;rw[aW,bE,aW,List.length_take];omega
 . rintro i ys σ H ⟨v,_,_,x⟩;exact bB.of (x _ _ ht)
 . rintro i y ys σ H hy bZ ⟨v,rfl,rfl,x⟩;rw[List.getElem?_map]at hy;obtain⟨z,hz,rfl⟩:=Option.map_eq_some_iff.mp hy;unfold cG at hz;rw[List.getElem?_map]at hz;obtain⟨n,hni,rfl⟩:=Option.map_eq_some_iff.mp hz;refine⟨_,rfl,_,rfl,c,_,_,_,rfl,rfl,bB.of (x _ _ hc),fI (hn n (List.mem_of_getElem? hni)),bZ,_,?_,rfl,x.at hD⟩;rw[bO hni];unfold cG;rw[List.map_append,List.map_append,List.map_append];rfl
 . rintro ys σ H bZ ⟨v,rfl,_,x⟩;rw[aW,bE,List.take_length]at bZ;exact fM H x bZ
def zag(cs:eG)(m:Nat)(cl:List Nat)(s:Nat):List Nat:=cl.getD s 0::(List.range m).map λa=>cl.getD ((aS m cs).go s a) 0
def gW(cs:eG)(m:Nat)(cl:List Nat)(n:Nat):List NK:=(List.range n).map λs=>NK.p (cG (zag cs m cl s))
theorem zmk{D c tt:Addr}{Q:VK}{H1:Hp}{us:List Addr}{cs:eG}{cl:List Nat}{m:Nat}(W:Wc m cs)(hl:cl.length=cs.length)(hm1:1<=m)(hm:m<=60)(vE:cs.length<=60)(hD:H1 D=none)(ht:H1 tt=some (.lst (us.map V.ref)))(hu:Paired (kA H1) us (rQ cs))(hc:H1 c=some (.lst ((cG cl).map V.int)))
 (fM: ∀H' vs,Same H1 H'->H' D=some (.lst vs)->Paired (eZ H') vs (gW cs m cl cs.length)->Q (.ref D) H'):
 bH (vB 0 cs.length) D (bA 0) cK (dW (zhc K) (zmn (bL (dW (eC K) (aL 1) (aL 0)) dN)) (j8 (zhy K) (bL (iR (pF K (dW (eC K) (aL 2) (aL 0))) 1 [1] (bA 0) cK (dW (eC K) (aL 1) (aL 0))) dN))) Q [none,some (.ref c),some (.ref tt)] H1:=by
 refine cR (λi zs σ H=> ∃v:Option V,zs.length=i/\σ=[v,some (.ref c),some (.ref tt)]/\Same H1 H/\Paired (eZ H) zs (gW cs m cl i)) ?_ (by omega) ?_ ?_ ?_
 . exact⟨none,rfl,rfl,aQ hD,.nil⟩
 . rintro i zs σ H ⟨v,e,_⟩;omega
 . rintro i zs σ H hi bZ ⟨v,e,rfl,x,hP⟩;rw[Int.zero_add];have ec:=List.getElem?_eq_getElem hi;obtain⟨u,hui,hr⟩:=fC hu (qD ec);obtain⟨r1,r2⟩:=W.row _ (List.getElem_mem hi);refine⟨_,rfl,_,rfl,c,_,_,_,rfl,rfl,bB.of (x _ _ hc),fI (by omega),cL 1,λp1 hp1=> ?_⟩;obtain⟨H2,e0,x2,k2⟩:=cT hp1 (.tup [.int ((cl.getD i 0:Nat):Int)]);rw[e0];have y2:=x.trans x2;refine⟨_,rfl,_,rfl,tt,_,_,_,rfl,rfl,bB.of (y2 _ _ ht),bD (by rw[List.getElem?_map,hui];rfl),u,rfl,⟨_,bB.of (y2 _ _ hr)⟩,λD2 lA=>zqJ (K:=K) (λn hn=>by rw[hl];exact r2 n hn) (by omega) lA (y2 _ _ hr) (y2 _ _ hc) λH3 x3 h3=> ?_⟩;refine⟨D2,_,rfl,.inl ⟨bB.of h3,λt3 ht3=> ?_⟩⟩;obtain⟨H4,e0,x4,k4⟩:=cT ht3 (.tup ((cG (cs[i].2.map λn=>cl.getD n 0)).map V.int));rw[e0];refine⟨p1,t3,_,_,rfl,rfl,eS.of (x4 _ _ (x3 _ _ k2)),eS.of k4,(by intro z;cases z),by rw[aW,bE,aW,r1];exact sT (by show 1+m<=1000;omega),λz=> ?_,λ_ p5 hp5=> ?_⟩
   . have:=congrArg List.length z;rw[aW,bE,aW,r1,List.length_nil]at this;omega
   have y4:=(x2.trans x3).trans x4;have nD:D≠p5:=aI (y4 _ _ bZ) hp5;have x5:Same H4 (aO H4 p5 (.tup ([.int ((cl.getD i 0:Nat):Int)]++(cG (cs[i].2.map λn=>cl.getD n 0)).map V.int))):=aQ hp5;refine⟨x5 _ _ (y4 _ _ bZ),_,by rw[List.length_append,e];rfl,rfl,((x.trans y4).trans x5).at hD,?_⟩;unfold gW;rw[List.range_succ,List.map_append];have tk:TKp H (aO (aO H4 p5 (.tup ([.int ((cl.getD i 0:Nat):Int)]++(cG (cs[i].2.map λn=>cl.getD n 0)).map V.int))) D (.lst (zs++[.ref p5]))):= λb xs' eb=>by
    rw[aG (dO eb bZ (λz=>nomatch z))];exact x5 _ _ (y4 _ _ eb)
   refine cZ (Paired.mapP hP λ_ _ z=>z.keep tk) (.cons ⟨p5,rfl,?_⟩ .nil);rw[aG (Ne.symm nD),aF,zcr W ec];unfold zag;rfl
 . rintro zs σ H bZ ⟨v,e,_,x,hP⟩;exact fM H zs x bZ hP
theorem zga{m kk:Nat}{cs:eG}{cl:List Nat}(W:Wc m cs)(hc: ∀s t,s<cs.length->t<cs.length->(cl.getD s 0=cl.getD t 0↔Al (aS m cs) kk s t)): ∀s t,s<cs.length->t<cs.length->((gM (gW cs m cl cs.length)).getD s 0=(gM (gW cs m cl cs.length)).getD t 0↔Al (aS m cs) (kk+1) s t):=by
 intro s t hs ht
 have hl:(gW cs m cl cs.length).length=cs.length:=by unfold gW;rw[aW,List.length_range]
 have ok:=W.ok
 have iU: ∀{s:Nat} (hs:s<(gW cs m cl cs.length).length),(gW cs m cl cs.length)[s]=NK.p (cG (zag cs m cl s)):= λ{s} hs=>by
  have e:(gW cs m cl cs.length)[s]?=some (NK.p (cG (zag cs m cl s))):=by
   unfold gW;rw[List.getElem?_map,List.getElem?_range (by rw[<-hl];exact hs)];rfl
  exact Option.some.inj ((List.getElem?_eq_getElem hs).symm.trans e)
 refine(yD (xs:=gW cs m cl cs.length) (by rw[hl];exact hs) (by rw[hl];exact ht)).trans ?_
 rw[iU,iU,NK.p.injEq]
 constructor
 . intro h;obtain⟨h1,h2⟩:=List.cons.inj (yE h);refine⟨(hc s t hs ht).mp h1,λa ha=>(hc _ _ (ok.lt s a hs ha) (ok.lt t a ht ha)).mp ?_⟩;have ha:a<m:=ha;have:=congrArg (λl=>l[a]?) h2;simp only[List.getElem?_map,List.getElem?_range ha,Option.map_some]at this;exact Option.some.inj this
 . intro h;refine congrArg cG ?_;unfold zag;rw[(hc s t hs ht).mpr h.1]
   congr 1
   refine List.map_congr_left λa ha=> ?_;have ha:=List.mem_range.mp ha;exact(hc _ _ (ok.lt s a hs ha) (ok.lt t a ht ha)).mpr (h.2 a ha)
theorem zmV{D tg:Addr}{Q:VK}{H1:Hp}{cs:eG}(vE:cs.length<=60)(hD:H1 D=none)(m5:H1 tg=some (.lst ((mR cs cs.length).map V.int)))
 (fM: ∀H',Same H1 H'->H' D=some (.lst ((cG ((List.range cs.length).map λs=>if(cs.getD s (false,[])).1=true then 1 else 0)).map V.int))->Q (.ref D) H'):
 bH (vB 0 cs.length) D (bA 0) cK (j8 (λxs H Q=>(∃i,xs=[.int i]/\Q (.int i) H)\/ ∃k,xs=[.bl k]/\Q (.int (if k then 1 else 0)) H) (bL (dW (rIn K false) (aL 0) (aL 1)) dN)) Q [none,some (.ref tg)] H1:=by
 refine cR (λi zs σ H=> ∃v:Option V,zs=(cG ((List.range i).map λs=>if(cs.getD s (false,[])).1=true then 1 else 0)).map V.int/\σ=[v,some (.ref tg)]/\Same H1 H) ?_ (by omega) ?_ ?_ ?_
 . exact⟨none,rfl,rfl,aQ hD⟩
 . rintro i zs σ H ⟨v,rfl,_⟩;rw[aW,bE,aW,List.length_range];exact Nat.le_refl _
 . rintro i zs σ H hi bZ ⟨v,rfl,rfl,x⟩;rw[Int.zero_add];refine⟨_,rfl,_,rfl,tg,_,rfl,.inl (bB.of (x _ _ m5)),rfl,jT _,.inr ⟨_,rfl,bZ,_,?_,rfl,x.at hD⟩⟩;rw[show(if false=true then !xJ (.int (i:Int)) ((mR cs cs.length).map V.int)else xJ (.int (i:Int)) ((mR cs cs.length).map V.int))=(cs.getD i (false,[])).1 from zaK hi];unfold cG;rw[List.range_succ,List.map_append,List.map_append,List.map_append]
   congr 1
   show [V.int _]=[V.int (((if(cs.getD i (false,[])).1=true then 1 else 0:Nat)):Int)]
   cases(cs.getD i (false,[])).1<;>rfl
 . rintro zs σ H bZ ⟨v,rfl,_,x⟩;exact fM H x bZ
def zkA:Sp:= λvs H Q _=> ∃(T G:Addr) (us:List Addr) (cs:eG) (m:Nat),vs=[.ref T,.ref G]/\nC H T G us cs m/\1<=m/\m<=60/\cs.length<=60/\
 ∀l H' (cl:List Nat),H l=none->Same H H'->H' l=some (.lst ((cG cl).map V.int))->cl.length=cs.length->(∀s t,s<cs.length->t<cs.length->(cl.getD s 0=cl.getD t 0↔Al (aS m cs) cs.length s t))->Q (.ref l) H'
theorem rN:bS ["_law_table","_law_good","_law_found","_law_turn","_law_told_so","_law_signs","_law_sign"] ["_law_table","_law_good"] (aE eM):=(.of rfl rfl rfl rfl (by decide+kernel))
theorem i4(F:lH K "_law_classes" "_law_classes" eM f fd)(B:Bt mg):dG P w K mg base fV (k+1) f fd ["_law_table","_law_good"] zkA:=by
 refine F.ok rN (λvs H Q E h=> ?_) (λcdv A outer s H vs Q E hr h=> ?_)
 . obtain⟨tt,tg,us,cs,m,rfl,_⟩:=h;rfl
 obtain⟨tt,tg,us,cs,m,rfl,⟨⟨m3,m4,_,_⟩,m5,W⟩,m1,m60,rS,q⟩:=h
 have nd:=rN.nd
 have lu:=Paired.length m4
 rw[gQ]at lu
 refine⟨_,(aD (aM (i:=2) nd rfl (Or.inr rfl) (cD (g:=(bA 0)) (tc:=cK) (te:=(j8 (λxs H Q=>(∃i,xs=[.int i]/\Q (.int i) H)\/ ∃k,xs=[.bl k]/\Q (.int (if k then 1 else 0)) H) (bL (dW (rIn K false) (aL 0) (aL 1)) dN))) (own:=["_law_state"]) (fr:=["_law_good"]) (idx:=[1]) rfl (by show aP _ _ _ (aE eM);exact(.of rfl (by decide+kernel))) (bU rfl B.range_ (aA (aY aV rfl B.len_ PySem.boot_len (aA (pv 0) aC)) aC)) (λ_ _ _ _ _=>(aK (i:=0) (by show List.Nodup (["_law_state","_law_good"]:List Str);decide+kernel) rfl (Or.inl rfl) (Or.inr rfl))) (λ_ _ _ _ _=>cB) (λ_ _ _ _ _=>(dA wD rfl B.int_ (by decide+kernel) (aA (pM jX (pv 0) (pv 1) rfl) aC))) rfl (cA rfl))) (aD (cM PassesOwn.never rfl (bU rfl B.range_ (aA (aY aV rfl B.len_ PySem.boot_len (aA (pv 0) aC)) aC)) (aK (i:=3) nd rfl (Or.inl rfl)) (aD (aM (i:=4) nd rfl (Or.inr rfl) (zcG .p)) (aD (kN (i:=5) nd rfl (Or.inl rfl) (g:=(bA 0)) (tc:=cK) (te:=(dW (zhc K) (zmn (bL (dW (eC K) (aL 1) (aL 0)) dN)) (j8 (λxs H Q=> ∃p ys,xs=[.ref p]/\((bB K H p ys/\ ∀l,H l=none->Q (.ref l) (aO H l (.tup ys)))\/(eS K H p ys/\Q (.ref p) H))) (bL (iR (pF K (dW (eC K) (aL 2) (aL 0))) 1 [1] (bA 0) cK (dW (eC K) (aL 1) (aL 0))) dN)))) (own:=["_law_state"]) (fr:=["_law_found","_law_table"]) (idx:=[2,0]) rfl (by show aP _ _ _ (aE eM);exact(.of rfl (by decide+kernel))) (bU rfl B.range_ (aA (aY aV rfl B.len_ PySem.boot_len (aA (pv 0) aC)) aC)) (λ_ _ _ _ _=>(aK (i:=0) (by show List.Nodup (["_law_state","_law_found","_law_table"]:List Str);decide+kernel) rfl (Or.inl rfl) (Or.inr rfl))) (λ_ _ _ _ _=>cB) (λ_ _ _ _ _=>(aU zjV (eP (aA (bF aR (pv 1) (pv 0) (λ_ _=>rfl)) aC)) (dA dJ rfl B.tuple_ (by decide+kernel) (aA (cD (g:=(bA 0)) (tc:=cK) (te:=(dW (eC K) (aL 1) (aL 0))) (own:=["_law_goal"]) (fr:=["_law_found"]) (idx:=[1]) rfl (aP.relab (.of rfl (by decide+kernel))) (cE (bF aR (pv 2) (pv 0) (λ_ _=>rfl))) (λ_ _ _ _ _=>(aK (i:=0) (by show List.Nodup (["_law_goal","_law_found"]:List Str);decide+kernel) rfl (Or.inl rfl) (Or.inr rfl))) (λ_ _ _ _ _=>cB) (λ_ _ _ _ _=>(bF aR (pv 1) (pv 0) (λ_ _=>rfl))) rfl (cA rfl)) aC)))) rfl (cA rfl)) (aD (cM PassesOwn.never rfl (cE (pv 5)) (aK (i:=6) nd rfl (Or.inl rfl)) (aJ (eL (zau (yH (iJ hr) (pv 6) (pv 4))) (aJ (yO (iJ hr) (pv 4) (pv 6) (aY vU rfl B.len_ PySem.boot_len (aA (pv 4) aC)) rfl)) cQ))) (aJ (aM (i:=2) nd rfl (Or.inr rfl) (cD (g:=(bA 0)) (tc:=cK) (te:=(xF P w (aL 1) (aL 0))) (own:=["_law_sign"]) (fr:=["_law_told_so"]) (idx:=[4]) rfl (by show aP _ _ _ (aE eM);exact(.of rfl (by decide+kernel))) (cE (pv 5)) (λ_ _ _ _ _=>(aK (i:=0) (by show List.Nodup (["_law_sign","_law_told_so"]:List Str);decide+kernel) rfl (Or.inl rfl) (Or.inr rfl))) (λ_ _ _ _ _=>cB) (λ_ _ _ _ _=>(sF (iJ hr) (pv 1) (pv 0) (λ_ _=>rfl))) rfl (cA rfl)))))))) (aJ (cH (pv 2))))),?_⟩
 try dsimp only[dM,Cx.nox,Cx.wish]
 refine sM ?_
 intro D0 σ0 U3 U2
 refine⟨_,rfl,tt,_,rfl,.inl (bB.of m3),_,rfl,by rw[aW];omega,by rw[aW];omega,λD hD=> ?_⟩
 rw[show(((us.map V.ref).length:Nat):Int).toNat=cs.length by rw[aW];omega]
 refine zmV (K:=K) rS hD m5 λH1 x1 h1=> ?_
 refine⟨_,rfl,tt,_,rfl,.inl (bB.of (x1 _ _ m3)),_,rfl,by rw[aW];omega,by rw[aW];omega,?_⟩
 rw[show(((us.map V.ref).length:Nat):Int).toNat=cs.length by rw[aW];omega]
 refine eO (λi σ H'=> ∃(c:Addr) (cl:List Nat) (v3 v4 v5 v6:Option V),σ=[some (.ref tt),some (.ref tg),some (.ref c),v3,v4,v5,v6]/\Same H H'/\H c=none/\H' c=some (.lst ((cG cl).map V.int))/\cl.length=cs.length/\ ∀s t,s<cs.length->t<cs.length->(cl.getD s 0=cl.getD t 0↔Al (aS m cs) i s t)) ?_ ?_ ?_
 . refine⟨D,_,none,none,none,none,rfl,x1,hD,h1,by rw[aW,List.length_range],λs t hs ht=> ?_⟩;have e: ∀s,s<cs.length->((List.range cs.length).map λs=>if(cs.getD s (false,[])).1=true then 1 else 0).getD s 0=if(cs.getD s (false,[])).1=true then 1 else 0:= λs hs=>KKL.getD_at (by rw[List.getElem?_map,List.getElem?_range hs];rfl)
   rw[e s hs,e t ht];show _↔(cs.getD s (false,[])).1=(cs.getD t (false,[])).1;cases(cs.getD s (false,[])).1<;>cases(cs.getD t (false,[])).1<;>simp
 . rintro i σ H2 hi ⟨c,cl,v3,v4,v5,v6,rfl,y2,hc,h2,ll,hal⟩;intro d hd;have n3:ND P w .p (aO H2 d (ndO P w d .p)) d []:=ND.new;have d0:=y2.free hd;obtain⟨H3,e0,x3,-⟩:=cT hd (ndO P w d .p);rw[e0]at n3 ⊢;have y3:=y2.trans x3;refine⟨_,rfl,tt,_,rfl,.inl (bB.of (y3 _ _ m3)),_,rfl,by rw[aW];omega,by rw[aW];omega,λS hS=> ?_⟩;rw[show(((us.map V.ref).length:Nat):Int).toNat=cs.length by rw[aW];omega];refine zmk (K:=K) W ll m1 m60 rS hS (y3 _ _ m3) (Paired.mapP m4 λ_ _ z=>y3 _ _ z) (x3 _ _ h2) λH4 vs x4 h4 hP=> ?_;have y4:=y3.trans x4;have n4:=n3.same x4;have lk:(gW cs m cl cs.length).length=cs.length:=by unfold gW;rw[aW,List.length_range]
   have lv:=Paired.length hP;have hmd: ∀x∈gW cs m cl cs.length,x.md= .p:= λx hx=>by
    unfold gW at hx;obtain⟨_,_,rfl⟩:=List.mem_map.mp hx;rfl
   have zvE:=zga W hal;generalize gW cs m cl cs.length=ks at *;refine⟨_,rfl,S,rfl,⟨_,bB.of h4⟩,eA (xs:=vs) (λj σ H'=> ∃v6:Option V,σ=[some (.ref tt),some (.ref tg),some (.ref c),some (.int (0+(i:Int))),some (.ref d),some (.ref S),v6]/\ND P w .p H' d (fR 0 (fA (ks.take j)))/\Same H H'/\H' S=some (.lst vs)/\Paired (eZ H') vs ks) ?_ ?_ ?_ ?_⟩
   . exact⟨v6,rfl,n4,y4,h4,hP⟩
   . rintro j σ H5 _ ⟨v,_,_,_,h5,_⟩;exact bB.of h5
   . rintro j y σ H5 hy ⟨v,rfl,n5,y5,h5,hP5⟩;obtain⟨iU,hk,hN⟩:=cY hP5 hy;have mem:iU∈ks:=List.mem_of_getElem? hk;have few:(fA (ks.take j)).length<=1000:=by
      have:=zaT (ks.take j) [];rw[List.length_take,List.length_nil]at this;unfold fA;omega
     refine⟨_,rfl,_,rfl,d,.p,_,iU,rfl,n5,hN,hmd iU mem,?_⟩;rw[fW]
     by_cases jW:iU∈fA (ks.take j)
     . rw[if_pos jW];refine⟨_,rfl,pD ?_⟩;refine⟨_,rfl,?_,y5,h5,hP5⟩;rw[oV hk,eF,if_pos jW];exact n5
     . rw[if_neg jW];refine⟨_,rfl,vN ?_⟩;refine⟨_,rfl,d,.p,_,rfl,n5,_,rfl,_,rfl,d,.p,_,iU,rfl,n5,hN,hmd iU mem,by rw[jY];exact small few,λob n6=>⟨_,rfl,?_,y5.at d0,?_,?_⟩⟩
       . rw[jY,tE jW]at n6;rw[oV hk,eF,if_neg jW];exact n6
       . have:S≠d:= λz=>by
          obtain⟨o,ho,nl,_⟩:=n5.some;rw[<-z,h5]at ho;exact nl _ (Option.some.inj ho).symm
         rw[aG this];exact h5
       . refine Paired.mapP hP5 λ_ _ z=>z.keep λb xs e=> ?_;obtain⟨o,ho,_,nt,_⟩:=n5.some;rw[aG (dO e ho (λz=>nt xs z.symm))];exact e
   . rintro σ H5 ⟨v,rfl,n5,y5,h5,hP5⟩;rw[List.take_of_length_le (by omega)]at n5;refine⟨_,rfl,S,rfl,⟨_,bB.of h5⟩,λD6 hD6=>zhQ (K:=K) hD6 h5 hP5 hmd (by omega) n5 λH6 x6 h6=> ?_⟩;exact⟨D6,gM ks,_,_,_,_,rfl,y5.trans x6,y5.free hD6,h6,by rw[oT];exact lk,zvE⟩
 . rintro σ H2 ⟨c,cl,v3,v4,v5,v6,rfl,y2,hc,h2,ll,hal⟩;exact⟨_,rfl,q c H2 cl hc y2 h2 ll hal⟩
end
end KK
namespace KKL
def yS(M:Mc)(s:Nat):Prop:= ∃w:List Nat,(∀a∈w,a<M.m)/\s=vJ M 0 w
theorem yS.zero(M:Mc):yS M 0:=⟨[],(by intro _ z;cases z),rfl⟩
theorem zfv(M:Mc)(s a:Nat)(w:List Nat):vJ M s (w++[a])=M.go (vJ M s w) a:=by
 unfold vJ
 rw[List.foldl_append];rfl
theorem yS.go{M:Mc}{s a:Nat}(h:yS M s)(ha:a<M.m):yS M (M.go s a):=by
 obtain⟨w,h1,rfl⟩:=h
 refine⟨w++[a],λb hb=> ?_,(zfv M 0 a w).symm⟩
 rcases List.mem_append.mp hb with z|z
 . exact h1 b z
 . rw[List.mem_singleton.mp z];exact ha
theorem zbv{M:Mc}(ok:M.Ok)(h0:0<M.n): ∀{w:List Nat} {s:Nat},s<M.n->(∀a∈w,a<M.m)->vJ M s w<M.n:=by
 intro w
 induction w with
 |nil=>intro s hs _;exact hs
 |cons a w ih=>intro s hs h;exact ih (ok.lt s a hs (h a List.mem_cons_self)) λb hb=>h b (List.mem_cons_of_mem _ hb)
theorem yS.lt{M:Mc}(ok:M.Ok)(h0:0<M.n){s:Nat}(h:yS M s):s<M.n:=by
 obtain⟨w,h1,rfl⟩:=h
 exact zbv ok h0 h0 h1
theorem zcD{M N:Mc}(e:M.m=N.m): ∀{w:List Nat} {s t:Nat},nX M N s t->(∀a∈w,a<M.m)->nX M N (vJ M s w) (vJ N t w):=by
 intro w
 induction w with
 |nil=>intro s t h _;exact h
 |cons a w ih=>intro s t h hw;exact ih (nX.go h (hw a List.mem_cons_self)) λb hb=>hw b (List.mem_cons_of_mem _ hb)
theorem fB.come{m:Nat}{cs ls:eG}(h:fB m cs ls){j:Nat}(hj:j<ls.length):yS (aS m ls) j:=by
 obtain⟨F,ts,f,g,rfl⟩:=h
 rw[mZ]at hj
 have hz:ts.idxOf (F 0)=0:=by
  have h0:=g.zero;cases ts with
  |nil=>cases h0
  |cons a ts=>
   have:a=F 0:=Option.some.inj h0;rw[this,List.idxOf_cons,beq_self_eq_true];rfl
 have iU: ∀t∈ts,t∈ts/\yS (aS m (csT (λs a=>F ((aS m cs).go s a)) (aS m cs).gd m ts)) (ts.idxOf t):=by
  refine g.all ⟨List.mem_of_getElem? g.zero,?_⟩ λt a ht ha=>⟨g.closed ht.1 ha,?_⟩
  . rw[hz];exact yS.zero _
  . have hi:=List.idxOf_lt_length_of_mem ht.1;have et:ts[ts.idxOf t]?=some t:=by rw[List.getElem?_eq_getElem hi,List.getElem_idxOf]
    have:=yS.go ht.2 (show a<(aS m (csT (λs a=>F ((aS m cs).go s a)) (aS m cs).gd m ts)).m from ha)
    rwa [zgB et ha]at this
 have e:=iU ts[j] (List.getElem_mem hj)
 rw[g.nodup.idxOf_getElem]at e
 exact e.2
theorem zdQ{m:Nat}{cs ls:eG}(w:Wc m cs)(h:fB m cs ls){a b:Nat}(ha:a<m)(hb:b<m):
 (∀j,j<ls.length->(aS m ls).go ((aS m ls).go j a) b=(aS m ls).go ((aS m ls).go j b) a)↔ ∀s,yS (aS m cs) s->Al (aS m cs) cs.length ((aS m cs).go ((aS m cs).go s a) b) ((aS m cs).go ((aS m cs).go s b) a):=by
 have ok:=w.ok
 have lw:=h.wc
 have lok:=lw.ok
 have al:=h.alike w
 have step: ∀{s j:Nat},nX (aS m cs) (aS m ls) s j->nX (aS m cs) (aS m ls) ((aS m cs).go ((aS m cs).go s a) b) ((aS m ls).go ((aS m ls).go j a) b)/\nX (aS m cs) (aS m ls) ((aS m cs).go ((aS m cs).go s b) a) ((aS m ls).go ((aS m ls).go j b) a):= λe=>⟨(e.go ha).go hb,(e.go hb).go ha⟩
 constructor
 . rintro H s ⟨v,hv,rfl⟩;have e:=zcD (show(aS m cs).m=(aS m ls).m from rfl) al hv;have hj:vJ (aS m ls) 0 v<ls.length:=zbv lok lw.one lw.one hv;obtain⟨e1,e2⟩:=step e;rw[H _ hj]at e1;exact(Ax.al ((ac e1 (sy e2)) cs.length))
 . intro H j hj;obtain⟨v,hv,e⟩:=h.come hj;have es:=zcD (show(aS m cs).m=(aS m ls).m from rfl) al hv;rw[<-e]at es;obtain⟨e1,e2⟩:=step es;have hs:vJ (aS m cs) 0 v<cs.length:=zbv ok w.one w.one hv;have g:=zml ok (ok.lt _ b (ok.lt _ a hs ha) hb) (ok.lt _ a (ok.lt _ b hs hb) ha) (H _ ⟨v,hv,rfl⟩);exact h.apart w (lok.lt _ b (lok.lt _ a hj ha) hb) (lok.lt _ a (lok.lt _ b hj hb) ha) (ac (sy e1) (ac g e2))
end KKL
namespace KK
open PySem L2 PyProof.Rows KKM KKL
variable {P:Program}{w:World}{K:W.Frag}{mg:Str->Option Value}{base:Heap}{f g g2 g3 g4 C CT CB CG M ft:Addr}{fd gd vO gd3 xL ftd:FuncData}{k:Nat}
abbrev oK:Stmt:=top 36
abbrev oN:Stmt:=top 38
structure Cm(M:Mc)(fs:List Nat)(i:Nat):Prop where
 nd:fs.Nodup
 zero:0∈fs
 rch: ∀s∈fs,yS M s
 closed: ∀j s,j<i->fs[j]?=some s-> ∀a,a<M.m->M.go s a∈fs
theorem Cm.few{M:Mc}{fs:List Nat}{i:Nat}(h:Cm M fs i)(ok:M.Ok)(h0:0<M.n):fs.length<=M.n:=zbD M.n fs h.nd λc hc=>(h.rch c hc).lt ok h0
theorem Cm.all{M:Mc}{fs:List Nat}{i:Nat}(h:Cm M fs i)(hi:fs.length<=i): ∀s,s∈fs↔yS M s:=by
 intro s
 refine⟨h.rch s,?_⟩
 rintro⟨w,hw,rfl⟩
 suffices q: ∀(w:List Nat) (t:Nat),t∈fs->(∀a∈w,a<M.m)->vJ M t w∈fs from q w 0 h.zero hw
 intro w
 induction w with
 |nil=>intro t ht _;exact ht
 |cons a w ih=>
  intro t ht hw;obtain⟨j,hj⟩:=List.getElem?_of_mem ht;have:=(List.getElem?_eq_some_iff.mp hj).1;exact ih _ (h.closed j t (by omega) hj a (hw a List.mem_cons_self)) λb hb=>hw b (List.mem_cons_of_mem _ hb)
theorem Cm.put{M:Mc}{fs:List Nat}{i n:Nat}(h:Cm M fs i)(hi:i<=fs.length)(hn:yS M n)(nin:n∉fs):Cm M (fs++[n]) i:=by
 refine⟨nodup_snoc h.nd nin,List.mem_append_left _ h.zero,λs hs=> ?_,λj s hj e a ha=> ?_⟩
 . rcases List.mem_append.mp hs with z|z
   . exact h.rch s z
   . rw[List.mem_singleton.mp z];exact hn
 . rw[List.getElem?_append_left (by omega)]at e;exact List.mem_append_left _ (h.closed j s hj e a ha)
def zfB:Sp:= λvs H Q _=> ∃(T G:Addr) (us:List Addr) (cs:eG) (m:Nat),vs=[.ref T]/\nC H T G us cs m/\m<=60/\cs.length<=60/\
 ∀l H' (fs:List Nat),H l=none->Same H H'->H' l=some (.lst ((cG fs).map V.int))->(∀s,s∈fs↔yS (aS m cs) s)->Q (.ref l) H'
theorem zce:bS ["_law_table","_law_found","_law_at","_law_goal"] ["_law_table"] (aE oK):=(.of rfl rfl rfl rfl (by decide+kernel))
theorem zcv{n:Nat}{ns:List Nat}:((n:Nat):Int)∈cG ns↔n∈ns:=by
 unfold cG
 rw[List.mem_map]
 exact⟨λ⟨x,hx,e⟩=>Int.ofNat_inj.mp e▸hx,λh=>⟨n,h,rfl⟩⟩
theorem zjE(F:lH K "_law_come" "_law_come" oK f fd)(B:Bt mg):dG P w K mg base fV (k+1) f fd ["_law_table"] zfB:=by
 refine F.ok zce (λvs H Q E h=> ?_) (λcdv A outer s H vs Q E hr h=> ?_)
 . obtain⟨T,G,us,cs,m,rfl,_⟩:=h;rfl
 obtain⟨T,G,us,cs,m,rfl,hM,m60,rS,q⟩:=h
 have nd:=zce.nd
 have W:=hM.wc
 have ok:=W.ok
 refine⟨_,(aD (aM (i:=1) nd rfl (Or.inl rfl) (bV (aA aH aC))) (aD (aM (i:=2) nd rfl (Or.inl rfl) aH) (aD (tJ PassesOwn.never (cF o7 (pv 2) (aY aV rfl B.len_ PySem.boot_len (aA (pv 1) aC)) (dI _)) (aD (cM PassesOwn.never rfl (cE (bF aR (pv 0) (bF aR (pv 1) (pv 2) (λ_ _=>rfl)) (λ_ _=>rfl))) (aK (i:=3) nd rfl (Or.inl rfl)) (aJ (eL (cF iG (pv 3) (pv 1) rfl) (aJ (cV (fE PySem.F.plainAttrs_list PySem.F.slot_list_append PySem.F.type_list_append cS (pv 1) (aA (pv 3) aC)))) cQ))) (aJ (aM (i:=2) nd rfl (Or.inl rfl) (aU bY (pv 2) aH))))) (aJ (cH (pv 1)))))),?_⟩
 try dsimp only[dM,Cx.nox,Cx.wish]
 refine zfo ?_
 intro D0 σ0 U4 U3 U2
 refine⟨cL 1,λl hl=> ?_⟩
 obtain⟨H1,e0,x1,k1⟩:=cT hl (.lst [.int 0])
 rw[e0]
 have k1:H1 l=some (.lst ((cG [0]).map V.int)):=k1
 have C0:Cm (aS m cs) [0] 0:=⟨by simp,List.mem_cons_self,λs hs=>by rw[List.mem_singleton.mp hs];exact yS.zero _,λj s hj=>by omega⟩
 refine⟨λmm σ H'=> ∃(fs:List Nat) (i:Nat) (v3:Option V),mm=cs.length - i/\σ=[some (.ref T),some (.ref l),some (.int (i:Int)),v3]/\Same H H'/\H' l=some (.lst ((cG fs).map V.int))/\Cm (aS m cs) fs i/\i<=fs.length,⟨cs.length,[0],0,none,rfl,rfl,x1,k1,C0,Nat.zero_le _⟩,?_⟩
 rintro mm σ H2 ⟨fs,i,v3,rfl,rfl,y2,h2,C2,il⟩
 have few:=C2.few ok W.one
 have zFf:fs.length<=cs.length:=few
 refine⟨_,rfl,_,rfl,l,_,rfl,.inl (bB.of h2),_,_,rfl,rfl,_,rfl,?_⟩
 refine iX (λe=> ?_) (λe=> ?_)
 . have hi:i<fs.length:=by have:=of_decide_eq_true e;rw[aW,bE]at this;omega
   have ei:=List.getElem?_eq_getElem hi;have hs:fs[i]<cs.length:=(C2.rch _ (List.getElem_mem hi)).lt ok W.one;have hs0:=C2.rch _ (List.getElem_mem hi);generalize fs[i]=s0 at ei hs hs0;have ec:=List.getElem?_eq_getElem hs;obtain⟨u,hu,hru⟩:=fC hM.hT.rows (qD ec);obtain⟨w1,w2⟩:=W.row _ (List.getElem_mem hs);refine⟨λσ' H'=> ∃(fs:List Nat) (v3:Option V),σ'=[some (.ref T),some (.ref l),some (.int ((i+1:Nat):Int)),v3]/\Same H H'/\H' l=some (.lst ((cG fs).map V.int))/\Cm (aS m cs) fs (i+1)/\i+1<=fs.length,?_,?_⟩
   . rintro σ' H' ⟨fs',v3',rfl,a1,a2,a3,a4⟩;exact⟨cs.length - (i+1),by omega,fs',i+1,v3',rfl,rfl,a1,a2,a3,a4⟩
   refine⟨_,rfl,_,rfl,_,rfl,l,_,_,_,rfl,rfl,bB.of h2,zlX (tX ei),T,_,_,_,rfl,rfl,bB.of (y2 _ _ hM.hT.at_),bD (by rw[List.getElem?_map,hu];rfl),u,rfl,⟨_,bB.of (y2 _ _ hru)⟩,eA (xs:=(cG cs[s0].2).map V.int) (λa σ' H'=> ∃(fs':List Nat) (v3:Option V),σ'=[some (.ref T),some (.ref l),some (.int (i:Int)),v3]/\Same H H'/\H' l=some (.lst ((cG fs').map V.int))/\Cm (aS m cs) fs' i/\i<fs'.length/\fs'[i]?=some s0/\ ∀b,b<a->(aS m cs).go s0 b∈fs') ?_ ?_ ?_ ?_⟩
   . exact⟨fs,v3,rfl,y2,h2,C2,hi,ei,λb hb=>by omega⟩
   . rintro a σ' H' _ ⟨_,_,_,y,_⟩;exact bB.of (y _ _ hru)
   . rintro a y σ' H3 hy ⟨fs',v3',rfl,y3,h3,C3,l3,e3,b3⟩;rw[List.getElem?_map]at hy;obtain⟨z,hz,rfl⟩:=Option.map_eq_some_iff.mp hy;unfold cG at hz;rw[List.getElem?_map]at hz;obtain⟨n,hn,rfl⟩:=Option.map_eq_some_iff.mp hz;have ha:a<m:=by have:=(List.getElem?_eq_some_iff.mp hn).1;omega
     have eg:(aS m cs).go s0 a=n:=by rw[wU ec];exact KKL.getD_at hn
     have rn:yS (aS m cs) n:=eg▸hs0.go (show a<(aS m cs).m from ha);have f3:=C3.few ok W.one;have f3':fs'.length<=cs.length:=f3;refine⟨_,rfl,_,rfl,l,_,rfl,.inl (bB.of h3),rfl,jT _,?_⟩;rw[if_pos rfl,zD]
     by_cases jW:n∈fs'
     . refine⟨false,congrArg V.bl (by rw[decide_eq_true (zcv.mpr jW)];rfl),pD ?_⟩;refine⟨fs',_,rfl,y3,h3,C3,l3,e3,λb hb=> ?_⟩
       rcases Nat.lt_or_ge b a with z|z
       . exact b3 b z
       . obtain rfl:b=a:=by omega
         rw[eg];exact jW
     . refine⟨true,congrArg V.bl (by rw[decide_eq_false (λz=>jW (zcv.mp z))];rfl),vN ?_⟩;refine⟨_,rfl,.inl ⟨rfl,_,bB.of h3⟩,_,rfl,l,_,_,rfl,rfl,h3,by rw[aW,bE];exact gI (by omega),?_⟩;refine⟨fs'++[n],_,rfl,y3.at hl,?_,C3.put (by omega) rn jW,by rw[List.length_append];omega,by rw[List.getElem?_append_left l3];exact e3,λb hb=> ?_⟩
       . rw[aF];unfold cG;rw[List.map_append,List.map_append];rfl
       . rcases Nat.lt_or_ge b a with z|z
         . exact List.mem_append_left _ (b3 b z)
         . obtain rfl:b=a:=by omega
           rw[eg];exact List.mem_append_right _ List.mem_cons_self
   . rintro σ' H3 ⟨fs',v3',rfl,y3,h3,C3,l3,e3,b3⟩;rw[aW,bE,w1]at b3;refine⟨_,rfl,_,_,rfl,rfl,fs',_,rfl,y3,h3,⟨C3.nd,C3.zero,C3.rch,λj s hj es a ha=> ?_⟩,l3⟩
     rcases Nat.lt_or_ge j i with z|z
     . exact C3.closed j s z es a ha
     . rw[show j=i by omega,e3]at es;obtain rfl:=Option.some.inj es;exact b3 a ha
 . have hi:fs.length<=i:=by
    rcases Nat.lt_or_ge i fs.length with z|z
    . exact absurd (decide_eq_true (by rw[aW,bE];omega)) e
    . exact z
   exact⟨_,rfl,q l H2 fs hl y2 h2 (C2.all hi)⟩
def zhX(m:Nat)(cs:eG)(a b:Nat):Prop:= ∀s,yS (aS m cs) s->Al (aS m cs) cs.length ((aS m cs).go ((aS m cs).go s a) b) ((aS m cs).go ((aS m cs).go s b) a)
def zB:Sp:= λvs H Q _=> ∃(T G:Addr) (us:List Addr) (cs:eG) (m a b:Nat),vs=[.ref T,.ref G,.int a,.int b]/\nC H T G us cs m/\1<=m/\m<=60/\cs.length<=60/\a<m/\b<m/\
 ∀(r:Bool) H',Same H H'->(r=true↔zhX m cs a b)->Q (.bl r) H'
theorem pV{H:Hp}{T:Addr}{us:List Addr}{cs:eG}{m:Nat}(W:Wc m cs)(h3:H T=some (.lst (us.map V.ref)))(h4:Paired (kA H) us (rQ cs)){s a:Nat}(hs:s<cs.length)(ha:a<m): ∃u row,mL (us.map V.ref) (s:Int)=some (.ref u)/\H u=some (.lst ((cG row).map V.int))/\mL ((cG row).map V.int) (a:Int)=some (.int (((aS m cs).go s a:Nat):Int)):=by
 have e:=List.getElem?_eq_getElem hs
 obtain⟨u,hu,hr⟩:=fC h4 (qD e)
 obtain⟨w1,w2⟩:=W.row _ (List.getElem_mem hs)
 refine⟨u,cs[s].2,bD (by rw[List.getElem?_map,hu];rfl),hr,zlX ?_⟩
 have ea:=List.getElem?_eq_getElem (l:=cs[s].2) (i:=a) (by omega)
 rw[wU e,KKL.getD_at ea]
 exact tX ea
theorem l9:bS ["_law_table","_law_good","_law_one","_law_other","_law_kinds","_law_state","_law_first","_law_second"] ["_law_table","_law_good","_law_one","_law_other"] (aE oN):=(.of rfl rfl rfl rfl (by decide+kernel))
theorem zfp(F:lH K "_law_free" "_law_free" oN f fd)(B:Bt mg)(uT:Fn P w K mg base k "_law_classes" ["_law_table","_law_good"] zkA g gd)(zV:Fn P w K mg base k "_law_come" ["_law_table"] zfB g2 vO):dG P w K mg base fV (k+1) f fd ["_law_table","_law_good","_law_one","_law_other"] zB:=by
 refine F.ok l9 (λvs H Q E h=> ?_) (λcdv A outer s H vs Q E hr h=> ?_)
 . obtain⟨T,G,us,cs,m,a,b,rfl,_⟩:=h;rfl
 obtain⟨T,G,us,cs,m,a,b,rfl,hM,m1,m60,rS,ha,hb,q⟩:=h
 have nd:=l9.nd
 have W:=hM.wc
 have ok:=W.ok
 refine⟨_,(aD (aM (i:=4) nd rfl (Or.inl rfl) (gG uT hr rfl (aA (pv 0) (aA (pv 1) aC)))) (aD (cM PassesOwn.never rfl (cE (gG zV hr rfl (aA (pv 0) aC))) (aK (i:=5) nd rfl (Or.inl rfl)) (aD (zms (i:=6) (j:=7) rfl nd rfl rfl (by decide) rfl rfl (aA (bF aR (bF aR (pv 0) (pv 5) (λ_ _=>rfl)) (pv 2) (λ_ _=>rfl)) (aA (bF aR (bF aR (pv 0) (pv 5) (λ_ _=>rfl)) (pv 3) (λ_ _=>rfl)) aC)) rfl) (aJ (eL (cF zhR (bF aR (pv 4) (bF aR (bF aR (pv 0) (pv 6) (λ_ _=>rfl)) (pv 3) (λ_ _=>rfl)) (λ_ _=>rfl)) (bF aR (pv 4) (bF aR (bF aR (pv 0) (pv 7) (λ_ _=>rfl)) (pv 2) (λ_ _=>rfl)) (λ_ _=>rfl)) (dI _)) (aJ (cH zae)) cQ)))) (aJ (cH zae)))),?_⟩
 try dsimp only[dM,Cx.nox,Cx.wish]
 refine sM ?_
 intro D0 σ0 U3 U2
 refine⟨_,rfl,_,rfl,T,G,us,cs,m,rfl,hM,m1,m60,rS,λc H1 cl hc x1 h1 lc hcl=> ?_⟩
 refine⟨_,rfl,T,G,us,cs,m,rfl,hM.same x1,m60,rS,λl H2 fs hl x2 h2 hfs=> ?_⟩
 have x12:=x1.trans x2
 refine⟨l,rfl,⟨_,bB.of h2⟩,eA (xs:=(cG fs).map V.int) (λi σ H'=> ∃(v5 v6 v7:Option V),σ=[some (.ref T),some (.ref G),some (.int (a:Int)),some (.int (b:Int)),some (.ref c),v5,v6,v7]/\Same H2 H'/\ ∀j s,j<i->fs[j]?=some s->Al (aS m cs) cs.length ((aS m cs).go ((aS m cs).go s a) b) ((aS m cs).go ((aS m cs).go s b) a)) ?_ ?_ ?_ ?_⟩
 . exact⟨none,none,none,rfl,Same.refl _,λj s hj=>by omega⟩
 . rintro i σ H3 _ ⟨_,_,_,_,y,_⟩;exact bB.of (y _ _ h2)
 . rintro i y σ H3 hy ⟨v5,v6,v7,rfl,y3,hal⟩;rw[List.getElem?_map]at hy;obtain⟨z,hz,rfl⟩:=Option.map_eq_some_iff.mp hy;unfold cG at hz;rw[List.getElem?_map]at hz;obtain⟨n,hn,rfl⟩:=Option.map_eq_some_iff.mp hz;have rn:=(hfs n).mp (List.mem_of_getElem? hn);have ln:n<cs.length:=rn.lt ok W.one;have M3:=(hM.same x12).same y3;obtain⟨u1,r1,p1,p2,p3⟩:=pV W M3.hT.at_ M3.hT.rows ln ha;obtain⟨u2,r2,p4,p5,p6⟩:=pV W M3.hT.at_ M3.hT.rows ln hb;have la:(aS m cs).go n a<cs.length:=ok.lt n a ln ha;have lb:(aS m cs).go n b<cs.length:=ok.lt n b ln hb;obtain⟨u3,r3,p7,p8,p9⟩:=pV W M3.hT.at_ M3.hT.rows la hb;obtain⟨u4,r4,pa,pb,pc⟩:=pV W M3.hT.at_ M3.hT.rows lb ha;have lab:(aS m cs).go ((aS m cs).go n a) b<cs.length:=ok.lt _ b la hb;have lba:(aS m cs).go ((aS m cs).go n b) a<cs.length:=ok.lt _ a lb ha;have c3:=y3 _ _ (x2 _ _ h1);refine⟨_,rfl,_,rfl,T,_,_,_,rfl,rfl,bB.of M3.hT.at_,p1,_,rfl,u1,_,_,_,rfl,rfl,bB.of p2,p3,_,rfl,_,rfl,T,_,_,_,rfl,rfl,bB.of M3.hT.at_,p4,_,rfl,u2,_,_,_,rfl,rfl,bB.of p5,p6,_,_,rfl,?_⟩;refine⟨_,rfl,_,rfl,_,rfl,T,_,_,_,rfl,rfl,bB.of M3.hT.at_,p7,_,rfl,u3,_,_,_,rfl,rfl,bB.of p8,p9,c,_,_,_,rfl,rfl,bB.of c3,fI (by omega),_,rfl,_,rfl,_,rfl,T,_,_,_,rfl,rfl,bB.of M3.hT.at_,pa,_,rfl,u4,_,_,_,rfl,rfl,bB.of pb,pc,c,_,_,_,rfl,rfl,bB.of c3,fI (by omega),rfl,?_⟩;have iU:=hcl _ _ lab lba
   by_cases e:cl.getD ((aS m cs).go ((aS m cs).go n a) b) 0=cl.getD ((aS m cs).go ((aS m cs).go n b) a) 0
   . refine⟨false,congrArg V.bl (by rw[e,decide_eq_true rfl];rfl),pD ?_⟩;refine⟨_,_,_,rfl,y3,λj s hj es=> ?_⟩
     rcases Nat.lt_or_ge j i with z|z
     . exact hal j s z es
     . obtain rfl:j=i:=by omega
       rw[hn]at es;obtain rfl:=Option.some.inj es;exact iU.mp e
   . refine⟨true,congrArg V.bl (by rw[decide_eq_false (λz=>e (Int.ofNat_inj.mp (by injection z)))];rfl),vN ?_⟩;exact q false _ (x12.trans y3) ⟨λz=>Bool.noConfusion z,λh=>absurd (iU.mpr (h n rn)) e⟩
 . rintro σ H3 ⟨v5,v6,v7,rfl,y3,hal⟩;refine q true _ (x12.trans y3) ⟨λ_ s hs=> ?_,λ_=>rfl⟩;obtain⟨j,hj⟩:=List.getElem?_of_mem ((hfs s).mpr hs);have:=(List.getElem?_eq_some_iff.mp hj).1;exact hal j s (by rw[aW,bE];exact this) hj
abbrev kH:Stmt:=top 19
abbrev lE:Stmt:=top 20
section
variable {pt:Addr}
def EqP(m:Nat)(cs:eG)(a b j:Nat):Prop:=(aS m cs).go ((aS m cs).go j a) b=(aS m cs).go ((aS m cs).go j b) a
instance(m:Nat)(cs:eG)(a b j:Nat):Decidable (EqP m cs a b j):=inferInstanceAs (Decidable (_=_))
theorem freeC{D tt:Addr}{Q:VK}{H1:Hp}{us:List Addr}{cs:eG}{m a b:Nat}(W:Wc m cs)(rS:cs.length<=60)(ha:a<m)(hb:b<m)(hD:H1 D=none)(m3:H1 tt=some (.tup (us.map V.ref)))(m4:Paired (nH H1) us (rQ cs))
 (fM: ∀H',Same H1 H'->H' D=some (.lst (((List.range cs.length).map λj=>decide (EqP m cs a b j)).map V.bl))->Q (.ref D) H'):
 bH (Itt K tt) D (bA 0) cK (dW rEq (dW (qH K) (dW (qH K) (aL 1) (dW (qH K) (aL 0) (aL 2))) (aL 3)) (dW (qH K) (dW (qH K) (aL 1) (dW (qH K) (aL 0) (aL 3))) (aL 2))) Q [none,some (.ref tt),some (.int (a:Int)),some (.int (b:Int))] H1:=by
 have lu:=Paired.length m4
 rw[gQ]at lu
 have ok:=W.ok
 refine mK (xs:=us.map V.ref) (λi ys σ H=> ∃v:Option V,ys=((List.range i).map λj=>decide (EqP m cs a b j)).map V.bl/\σ=[v,some (.ref tt),some (.int (a:Int)),some (.int (b:Int))]/\Same H1 H) ?_ (by rw[aW];omega) ?_ ?_ ?_ ?_
 . exact⟨none,rfl,rfl,aQ hD⟩
 . rintro i ys σ H ⟨v,rfl,_⟩;rw[aW,aW,List.length_range];exact Nat.le_refl _
 . rintro i ys σ H ⟨v,_,_,x⟩;exact eS.of (x _ _ m3)
 . rintro i y ys σ H hy bZ ⟨v,rfl,rfl,x⟩;rw[List.getElem?_map]at hy;obtain⟨u,hu,rfl⟩:=Option.map_eq_some_iff.mp hy;have hi:i<cs.length:=by have:=(List.getElem?_eq_some_iff.mp hu).1;omega
   have h3:=x _ _ m3;have h4:Paired (nH H) us (rQ cs):=Paired.mapP m4 λ_ _ z=>x _ _ z;obtain⟨u1,r1,p1,p2,p3⟩:=pO W h3 h4 hi ha;obtain⟨u2,r2,p4,p5,p6⟩:=pO W h3 h4 hi hb;have eu:mL (us.map V.ref) (i:Int)=some (.ref u):=bD (by rw[List.getElem?_map,hu];rfl);rw[eu]at p1 p4;injection p1 with p1
   injection p1 with p1
   injection p4 with p4
   injection p4 with p4
   subst p1;subst p4;have la:(aS m cs).go i a<cs.length:=ok.lt i a hi ha;have lb:(aS m cs).go i b<cs.length:=ok.lt i b hi hb;obtain⟨u3,r3,p7,p8,p9⟩:=pO W h3 h4 la hb;obtain⟨u4,r4,pa,pb,pc⟩:=pO W h3 h4 lb ha;refine⟨_,rfl,_,rfl,_,rfl,u,_,_,_,rfl,rfl,eS.of p2,p3,tt,_,_,_,rfl,rfl,eS.of h3,p7,_,rfl,u3,_,_,_,rfl,rfl,eS.of p8,p9,_,rfl,_,rfl,_,rfl,u,_,_,_,rfl,rfl,eS.of p5,p6,tt,_,_,_,rfl,rfl,eS.of h3,pa,_,rfl,u4,_,_,_,rfl,rfl,eS.of pb,pc,rfl,bZ,_,?_,rfl,x.at hD⟩;rw[List.range_succ,List.map_append,List.map_append]
   congr 1
   show [V.bl _]=[V.bl _]
   congr 2
   show _=decide (EqP m cs a b i)
   by_cases e:EqP m cs a b i
   . rw[decide_eq_true e];unfold EqP at e;rw[e,decide_eq_true rfl]
   . rw[decide_eq_false e,decide_eq_false λz=>e (Int.ofNat_inj.mp (by injection z))]
 . rintro ys σ H bZ ⟨v,rfl,_,x⟩;rw[aW,lu]at bZ;exact fM H x bZ
def zgz(C:Addr):Sp:= λvs H Q _=> ∃(x:Addr) (ls:List Str) (cs:eG) (a b:Nat),vs=[.ref x,.int a,.int b]/\MoS C H x ls cs/\Wc ls.length cs/\cs.length<=60/\a<ls.length/\b<ls.length/\ ∀(r:Bool) H',Same H H'->(r=true↔ ∀j,j<cs.length->EqP ls.length cs a b j)->Q (.bl r) H'
theorem d9:bS ["machine","one","other","table"] ["machine","one","other"] (aE lE):=(.of rfl rfl rfl rfl (by decide+kernel))
theorem zhM(F:lH K "are_free" "are_free" lE f fd)(B:Bt mg)(S:MoC K C):dG P w K mg base fV (k+1) f fd ["machine","one","other"] (zgz C):=by
 refine F.ok d9 (λvs H Q E h=> ?_) (λcdv A outer s H vs Q E hr h=> ?_)
 . obtain⟨x,ls,cs,a,b,rfl,_⟩:=h;rfl
 obtain⟨x,ls,cs,a,b,rfl,⟨dx,tl,tt,tg,us,m1,m2,m3,m4,m5⟩,W,rS,ha,hb,q⟩:=h
 have nd:=d9.nd
 refine⟨_,(aD (aM (i:=3) nd rfl (Or.inr rfl) (fG (pv 0) rfl)) (aJ (cH (aY (zed rfl) rfl B.all_ (by decide+kernel) (aA (cD (g:=(bA 0)) (tc:=cK) (te:=(dW rEq (dW (qH K) (dW (qH K) (aL 1) (dW (qH K) (aL 0) (aL 2))) (aL 3)) (dW (qH K) (dW (qH K) (aL 1) (dW (qH K) (aL 0) (aL 3))) (aL 2)))) (own:=["steps"]) (fr:=["table","one","other"]) (idx:=[3,1,2]) rfl (by show aP _ _ _ (aE lE);exact(.of rfl (by decide+kernel))) (uL (pv 3)) (λ_ _ _ _ _=>(aK (i:=0) (by show List.Nodup (["steps","table","one","other"]:List Str);decide+kernel) rfl (Or.inl rfl) (Or.inr rfl))) (λ_ _ _ _ _=>cB) (λ_ _ _ _ _=>(pM lY (bF fX (bF fX (pv 1) (bF fX (pv 0) (pv 2) (λ_ _=>rfl)) (λ_ _=>rfl)) (pv 3) (λ_ _=>rfl)) (bF fX (bF fX (pv 1) (bF fX (pv 0) (pv 3) (λ_ _=>rfl)) (λ_ _=>rfl)) (pv 2) (λ_ _=>rfl)) (dI _))) rfl (cA rfl)) aC))))),?_⟩
 try dsimp only[dM,Cx.nox,Cx.wish]
 refine m8 ?_
 intro D0 σ0 U2
 refine⟨_,rfl,x,C,dx,_,_,rfl,m1,S.cls,S.n2,rfl,?_⟩
 refine⟨_,rfl,tt,rfl,⟨_,eS.of m3⟩,λD hD=>freeC (K:=K) W rS ha hb hD m3 m4 λH1 x1 h1=>⟨D,_,rfl,bB.of h1,q _ H1 x1 ?_⟩⟩
 rw[List.all_eq_true]
 constructor
 . intro h j hj;exact of_decide_eq_true (h _ (List.mem_map.mpr ⟨j,List.mem_range.mpr hj,rfl⟩))
 . intro h z hz;obtain⟨j,hj,rfl⟩:=List.mem_map.mp hz;exact decide_eq_true (h j (List.mem_range.mp hj))
noncomputable def tM (m:Nat) (cs:eG) (a b:Nat):Bool:= @decide (zhX m cs a b) (Classical.propDecidable _)
theorem zfU{m:Nat}{cs:eG}{a b:Nat}{r:Bool}(h:r=true↔zhX m cs a b):r=tM m cs a b:=by
 rw[Bool.eq_iff_iff,h]
 unfold tM
 exact(@decide_eq_true_iff _ (Classical.propDecidable _)).symm
def rV(ls:List Str)(fr:Nat->Nat->Bool)(a j:Nat):List (Str×Str):=((List.range j).filter λd=>fr a (a+1+d)).map λd=>(ls.getD a "",ls.getD (a+1+d) "")
def lN(ls:List Str)(fr:Nat->Nat->Bool)(i:Nat):List (Str×Str):=(List.range i).flatMap λa=>rV ls fr a (ls.length - (a+1))
theorem mW(ls:List Str)(fr:Nat->Nat->Bool)(a j:Nat):rV ls fr a (j+1)=rV ls fr a j++if fr a (a+1+j)=true then [(ls.getD a "",ls.getD (a+1+j) "")]else []:=by
 unfold rV
 rw[List.range_succ,List.filter_append,List.map_append,List.filter_cons,List.filter_nil]
 split<;>rfl
theorem qP(ls:List Str)(fr:Nat->Nat->Bool)(i:Nat):lN ls fr (i+1)=lN ls fr i++rV ls fr i (ls.length - (i+1)):=by
 unfold lN
 rw[List.range_succ,List.flatMap_append,List.flatMap_cons,List.flatMap_nil,List.append_nil]
def Pr2(H:Hp)(v:V)(p:Str×Str):Prop:= ∃t,v= .ref t/\H t=some (.tup [.str p.1,.str p.2])
theorem Pr2.keep{H H':Hp}{v:V}{p:Str×Str}(h:Pr2 H v p)(t:TKp H H'):Pr2 H' v p:=by
 obtain⟨a,e,z⟩:=h
 exact⟨a,e,t _ _ z⟩
theorem sH(ls:List Str)(fr:Nat->Nat->Bool)(a j:Nat):(rV ls fr a j).length<=j:=by
 unfold rV
 rw[aW]
 exact Nat.le_trans (List.length_filter_le ..) (by rw[List.length_range];exact Nat.le_refl _)
theorem pP(ls:List Str)(fr:Nat->Nat->Bool): ∀i,(lN ls fr i).length<=i * ls.length
 |0=>Nat.le_of_eq (by unfold lN;rw[Nat.zero_mul];rfl)
 |i+1=>by
  rw[qP,List.length_append,Nat.succ_mul];have:=pP ls fr i;have:=sH ls fr i (ls.length - (i+1));omega
def zJ(C pt:Addr):Sp:= λvs H Q _=> ∃(x:Addr) (ls:List Str) (cs:eG),vs=[.ref x]/\MoS C H x ls cs/\Wc ls.length cs/\ls.Nodup/\ls.length<=60/\cs.length<60/\iI H pt/\
 ∀l vs H',rR pt H H'->iI H' pt->H' l=some (.lst vs)->H l=none->Paired (Pr2 H') vs (lN ls (tM ls.length cs) ls.length)->Q (.ref l) H'
theorem u5:bS ["machine","small","pairs","at","letter","later"] ["machine"] (aE kH):=(.of rfl rfl rfl rfl (by decide+kernel))
theorem zfN(F:lH K "free_pairs" "free_pairs" kH f fd)(B:Bt mg)(S:MoC K C)(G_least:Fn P w K mg base k "least" ["machine"] (zdf C pt) g gd)(G_are_free:Fn P w K mg base k "are_free" ["machine","one","other"] (zgz C) g2 vO):dG P w K mg base fV (k+1) f fd ["machine"] (zJ C pt):=by
 refine F.ok u5 (λvs H Q E h=> ?_) (λcdv A outer s H vs Q E hr h=> ?_)
 . obtain⟨x,ls,cs,rfl,_⟩:=h;rfl
 obtain⟨x,ls,cs,rfl,hM,W,lnd,l60,rS,hpt,q⟩:=h
 have nd:=u5.nd
 refine⟨_,(aD (aM (i:=1) nd rfl (Or.inl rfl) (gG G_least hr rfl (aA (pv 0) aC))) (aD (aM (i:=2) nd rfl (Or.inl rfl) (bV aC)) (aD (cM PassesOwn.never rfl (zgL rfl B.enumerate_ (aA (fG (pv 1) rfl) aC)) (iO rfl (bX (aK (i:=3) nd rfl (Or.inl rfl)) (bX (aK (i:=4) nd rfl (Or.inl rfl)) fO))) (aJ (cM PassesOwn.never rfl (wX rfl B.range_ (aA (aU bY (pv 3) aH) (aA (aY aV rfl B.len_ PySem.boot_len (aA (fG (pv 1) rfl) aC)) aC))) (aK (i:=5) nd rfl (Or.inl rfl)) (aJ (eL (zbQ (gG G_are_free hr rfl (aA (pv 1) (aA (pv 3) (aA (pv 5) aC)))) (λ_=>rfl)) (aJ (cV (fE PySem.F.plainAttrs_list PySem.F.slot_list_append PySem.F.type_list_append cS (pv 2) (aA (eP (aA (pv 4) (aA (bF fX (fG (pv 1) rfl) (pv 5) (λ_ _=>rfl)) aC))) aC)))) cQ))))) (aJ (cH (pv 2)))))),?_⟩
 try dsimp only[dM,Cx.nox,Cx.wish]
 refine zfo ?_
 intro D0 σ0 U4 U3 U2
 refine⟨_,rfl,x,ls,cs,rfl,hM,W,lnd,l60,rS,hpt,λy H1 low hL M1 b1 p1=> ?_⟩
 have Wl:=hL.wc
 have lf:=fB.few W hL
 obtain⟨dy,tl,tt,tg,us,m1,m2,m3,m4,m5⟩:=id M1
 refine⟨cL 0,λl hl=> ?_⟩
 obtain⟨H2,e0,x2,k2⟩:=cT hl (.lst [])
 rw[e0]
 obtain⟨tbp,e0⟩:=hpt.some
 have l0:H l=none:=by
  cases e:H l with
  |none=>rfl
  |some o=>
   rcases Nat.decEq l pt with z|z
   . have:=b1 l o z e;rw[hl]at this;cases this
   . subst z;obtain⟨_,e1⟩:=p1.some;rw[hl]at e1;cases e1
 refine⟨_,rfl,y,C,dy,_,_,rfl,x2 _ _ m1,S.cls,S.n1,rfl,tl,rfl,⟨_,(m2.same x2).sq⟩,zer (xs:=ls.map V.str) (λi σ H'=> ∃(vs:List V) (v3 v4 v5:Option V),σ=[some (.ref x),some (.ref y),some (.ref l),v3,v4,v5]/\Same H1 H'/\H' l=some (.lst vs)/\Paired (Pr2 H') vs (lN ls (tM ls.length cs) i)) ?_ ?_ ?_ ?_⟩
 . exact⟨[],none,none,none,rfl,x2,k2,.nil⟩
 . rintro i σ H3 _ ⟨_,_,_,_,_,y3,_⟩;exact(m2.same y3).sq
 . rintro i yy σ H3 T hy hT ⟨vs,v3,v4,v5,rfl,y3,h3,P3⟩;rw[List.getElem?_map]at hy;obtain⟨la,hla,rfl⟩:=Option.map_eq_some_iff.mp hy;have hi:=(List.getElem?_eq_some_iff.mp hla).1;obtain⟨H4,e0,x4,k4⟩:=cT hT (.tup [.int i,.str la]);rw[e0];have y4:=y3.trans x4;refine⟨T,_,rfl,eS.of k4,rfl,_,_,rfl,_,_,rfl,rfl,?_⟩;refine⟨_,rfl,_,_,rfl,rfl,_,rfl,y,C,dy,_,_,rfl,y4 _ _ m1,S.cls,S.n1,rfl,tl,_,rfl,.inr (m2.same y4).sq,_,_,rfl,by rw[aW];omega,?_⟩;rw[show((((ls.map V.str).length:Nat):Int) - ((i:Int)+1)).toNat=ls.length - (i+1) by rw[aW];omega];refine eO (λj σ H'=> ∃(vs:List V) (v5:Option V),σ=[some (.ref x),some (.ref y),some (.ref l),some (.int (i:Int)),some (.str la),v5]/\Same H1 H'/\H' l=some (.lst vs)/\Paired (Pr2 H') vs (lN ls (tM ls.length cs) i++rV ls (tM ls.length cs) i j)) ?_ ?_ ?_
   . refine⟨vs,v5,rfl,y4,x4 _ _ h3,?_⟩;show Paired _ _ (_++[]);rw[List.append_nil];exact Paired.mapP P3 λ_ _ z=>z.keep λb xs e=>x4 _ _ e
   . rintro j σ H5 hj ⟨vs,v5,rfl,y5,h5,P5⟩;have eb:((i:Int)+1+(j:Int))=((i+1+j:Nat):Int):=by omega
     rw[eb];have hb:i+1+j<ls.length:=by omega
     refine⟨_,rfl,_,rfl,_,rfl,y,ls,low,i,i+1+j,rfl,M1.same y5,Wl,by omega,hi,hb,λr H6 x6 hr6=> ?_⟩;have er:r=tM ls.length cs i (i+1+j):=zfU (hr6.trans (zdQ W hL hi hb));have y6:=y5.trans x6;have P6:Paired (Pr2 H6) vs (lN ls (tM ls.length cs) i++rV ls (tM ls.length cs) i j):=Paired.mapP P5 λ_ _ z=>z.keep λb xs e=>x6 _ _ e;refine⟨r,rfl,?_⟩;cases hrr:r with
     |false=>
      refine pD ?_;refine⟨vs,_,rfl,y6,x6 _ _ h5,?_⟩;rw[mW,<-er,hrr,if_neg Bool.false_ne_true,List.append_nil];exact P6
     |true=>
      refine vN ?_;have lb:=List.getElem?_eq_getElem hb;refine⟨_,rfl,.inl ⟨rfl,_,bB.of (x6 _ _ h5)⟩,_,rfl,_,rfl,y,C,dy,_,_,rfl,y6 _ _ m1,S.cls,S.n1,rfl,_,rfl,tl,_,_,_,rfl,rfl,(m2.same y6).sq,bD (by rw[List.getElem?_map,lb];rfl),cL 2,λt ht=> ?_⟩;obtain⟨H7,e0,x7,k7⟩:=cT ht (.tup [.str la,.str ls[i+1+j]]);rw[e0];have h7:=x7 _ _ (x6 _ _ h5);have ll:=Paired.length P6;rw[List.length_append]at ll;have a1:=pP ls (tM ls.length cs) i;have a2:=sH ls (tM ls.length cs) i j;have a3:i * ls.length<=60 * 60:=Nat.mul_le_mul (by omega) l60;refine⟨l,_,_,rfl,rfl,h7,Nat.lt_of_le_of_lt (show vs.length<=4000 by omega) (by decide),?_⟩;have tk:TKp H7 (aO H7 l (.lst (vs++[.ref t]))):= λb xs e=>by rw[aG (dO e h7 (λz=>nomatch z))];exact e
      refine⟨vs++[.ref t],_,rfl,(y6.trans x7).at hl,aF,?_⟩;rw[mW,<-er,hrr,if_pos rfl,<-List.append_assoc];refine cZ (Paired.mapP P6 λ_ _ z=>(z.keep λb xs e=>x7 _ _ e).keep tk) (.cons ⟨t,rfl,?_⟩ .nil);rw[KKL.getD_at hla,KKL.getD_at lb];exact tk _ _ k7
   . rintro σ H5 ⟨vs,v5,rfl,y5,h5,P5⟩;rw[<-qP]at P5;exact⟨vs,_,_,_,rfl,y5,h5,P5⟩
 . rintro σ H3 ⟨vs,v3,v4,v5,rfl,y3,h3,P3⟩;rw[aW]at P3;exact⟨_,rfl,q l vs H3 (b1.trans (Same.but y3)) (p1.same y3) h3 l0 P3⟩
end
abbrev eX:Stmt:=top 37
section
variable {pt:Addr}
structure zT(H0 H:Hp)(a T:Addr)(N:Int)(rs:List Addr)(tb:List (List Int)):Prop where
 at_:H T=some (.lst (rs.map V.ref))
 rows:Paired (kA H) rs tb
 ok: ∀r∈tb,r.length=4/\ ∀x∈r,0<=x/\x<N
 new: ∀u∈rs,H0 u=none
 nT:T∉rs
 fl:aZ H a
 ext:eR a H0 H
theorem zT.same{H0 H H':Hp}{a T:Addr}{N:Int}{rs:List Addr}{tb:List (List Int)}(h:zT H0 H a T N rs tb)(x:Same H H'):zT H0 H' a T N rs tb:=
 ⟨x _ _ h.at_,Paired.mapP h.rows λ_ _ z=>x _ _ z,h.ok,h.new,h.nT,Same.flow x h.fl,h.ext.trans (Same.ext x)⟩
theorem zT.put{H0 H:Hp}{a T:Addr}{N:Int}{rs ps:List Addr}{tb qs:List (List Int)}(h:zT H0 H a T N rs tb)(nTa:T≠a)(T0:H0 T=none)(hq:Paired (kA H) ps qs)(ok: ∀r∈qs,r.length=4/\ ∀x∈r,0<=x/\x<N)(hn: ∀u∈ps,H0 u=none)(nT:T∉ps):
 zT H0 (aO H T (.lst ((rs++ps).map V.ref))) a T N (rs++ps) (tb++qs):=by
 have nin:T∉rs++ps:= λhm=>(List.mem_append.mp hm).elim h.nT nT
 refine⟨aF,eB (cZ h.rows hq) λb r hb z=> ?_,λr hr=>(List.mem_append.mp hr).elim (h.ok r) (ok r),λu hu=>(List.mem_append.mp hu).elim (h.new u) (hn u),nin,h.fl.set (Ne.symm nTa),λb o nb e=> ?_⟩
 . show aO H T _ b=_
   rw[aG (show b≠T from λe=>nin (e▸hb))];exact z
 . rw[aG (aI e T0)];exact h.ext b o nb e
theorem zly{D o R:Addr}{Q:VK}{H1:Hp}{os:List Nat}{xs:List V}(hn: ∀n∈os,n<xs.length)(vE:os.length<=60)(hD:H1 D=none)(ho:H1 o=some (.lst ((cG os).map V.int)))(hR:H1 R=some (.lst xs))
 (fM: ∀H',Same H1 H'->H' D=some (.lst (os.map λn=>xs.getD n .non))->Q (.ref D) H'):bH (zM K o) D (bA 0) cK (dW (eC K) (aL 1) (aL 0)) Q [none,some (.ref R)] H1:=by
 refine dU (xs:=(cG os).map V.int) (λi ys σ H=> ∃v:Option V,ys=(os.take i).map (λn=>xs.getD n .non)/\σ=[v,some (.ref R)]/\Same H1 H) ?_ (by rw[aW,bE];omega) ?_ ?_ ?_ ?_
 . exact⟨none,rfl,rfl,aQ hD⟩
 . rintro i ys σ H ⟨v,rfl,_⟩;rw[aW,List.length_take];omega
 . rintro i ys σ H ⟨v,_,_,x⟩;exact bB.of (x _ _ ho)
 . rintro i y ys σ H hy bZ ⟨v,rfl,rfl,x⟩;rw[List.getElem?_map]at hy;obtain⟨z,hz,rfl⟩:=Option.map_eq_some_iff.mp hy;unfold cG at hz;rw[List.getElem?_map]at hz;obtain⟨n,hni,rfl⟩:=Option.map_eq_some_iff.mp hz;have hx:=List.getElem?_eq_getElem (hn n (List.mem_of_getElem? hni));refine⟨_,rfl,_,rfl,R,_,_,_,rfl,rfl,bB.of (x _ _ hR),bD hx,bZ,_,?_,rfl,x.at hD⟩;rw[bO hni,List.map_append]
   congr 1
   show [_]=[xs.getD n V.non]
   rw[KKL.getD_at hx]
 . rintro ys σ H bZ ⟨v,rfl,_,x⟩;rw[aW,bE,List.take_length]at bZ;exact fM H x bZ
def qZ(os:List Nat)(r:List Int):List Int:=os.map λn=>r.getD n 0
theorem zgu{os:List Nat}{r:List Int}(hn: ∀n∈os,n<r.length):(os.map λn=>(r.map V.int).getD n .non)=(qZ os r).map V.int:=by
 unfold qZ
 rw[List.map_map]
 refine List.map_congr_left λn hm=> ?_
 have e:=List.getElem?_eq_getElem (hn n hm)
 show(r.map V.int).getD n .non=V.int (r.getD n 0)
 rw[KKL.getD_at e,KKL.getD_at (x:=V.int (r[n]'(hn n hm))) (by rw[List.getElem?_map,e];rfl)]
theorem zsY{D o T:Addr}{Q:VK}{H1:Hp}{os:List Nat}{rs:List Addr}{tb:List (List Int)}(hl:rs.length<=60)(vE:os.length<=60)(hn: ∀r∈tb,∀n∈os,n<r.length)(hD:H1 D=none)(ho:H1 o=some (.lst ((cG os).map V.int)))(hT:H1 T=some (.lst (rs.map V.ref)))(hr:Paired (kA H1) rs tb)
 (fM: ∀(us:List Addr) (H':Hp),Same H1 H'->H' D=some (.lst (us.map V.ref))->Paired (kA H') us (tb.map (qZ os))->(∀u∈us,H1 u=none)->Q (.ref D) H'):bH (zM K T) D (bA 0) cK (iR (pF K (aL 1)) 1 [0] (bA 0) cK (dW (eC K) (aL 1) (aL 0))) Q [none,some (.ref o)] H1:=by
 have ll:=Paired.length hr
 refine dU (xs:=rs.map V.ref) (λi ys σ H=> ∃(v:Option V) (us:List Addr),ys=us.map V.ref/\us.length=i/\σ=[v,some (.ref o)]/\Same H1 H/\Paired (kA H) us ((tb.take i).map (qZ os))/\(∀u∈us,H1 u=none)/\D∉us) ?_ (by rw[aW];omega) ?_ ?_ ?_ ?_
 . exact⟨none,[],rfl,rfl,rfl,aQ hD,.nil,(by intro _ z;cases z),(by intro z;cases z)⟩
 . rintro i ys σ H ⟨v,us,rfl,e,_⟩;rw[aW,e];exact Nat.le_refl _
 . rintro i ys σ H ⟨v,us,_,_,_,x,_⟩;exact bB.of (x _ _ hT)
 . rintro i y ys σ H hy bZ ⟨v,us,rfl,eu,rfl,x,hP,hN,nD⟩;rw[List.getElem?_map]at hy;obtain⟨u,hu,rfl⟩:=Option.map_eq_some_iff.mp hy;obtain⟨r,hri,hru⟩:=cY hr hu;refine⟨_,rfl,o,rfl,⟨_,bB.of (x _ _ ho)⟩,λD2 lA=>zly (K:=K) (xs:=r.map V.int) (λn hm=>by rw[aW];exact hn r (List.mem_of_getElem? hri) n hm) vE lA (x _ _ ho) (x _ _ hru) λH2 x2 h2=> ?_⟩;rw[zgu (hn r (List.mem_of_getElem? hri))]at h2;have nDD:D≠D2:=aI bZ lA;refine⟨x2 _ _ bZ,_,us++[D2],by rw[List.map_append];rfl,by rw[List.length_append,eu];rfl,rfl,(x.trans x2).at hD,?_,λb hb=> ?_,λhb=> ?_⟩
   . rw[bO hri,List.map_append];refine cZ (eB hP λb r' hb z=> ?_) (.cons ?_ .nil)
     . show aO H2 D _ b=_
       rw[aG (show b≠D from λe=>nD (e▸hb))];exact x2 _ _ z
     . show aO H2 D _ D2=_
       rw[aG (Ne.symm nDD)];exact h2
   . rcases List.mem_append.mp hb with z|z
     . exact hN b z
     . rw[List.mem_singleton.mp z];exact x.free lA
   . rcases List.mem_append.mp hb with z|z
     . exact nD z
     . exact nDD (List.mem_singleton.mp z)
 . rintro ys σ H bZ ⟨v,us,rfl,eu,_,x,hP,hN,_⟩;rw[aW,ll,List.take_length]at hP;exact fM us H x bZ hP hN
theorem zqO{α:Type}{ys:List α}(h:ys.length=4): ∃a b c d,ys=[a,b,c,d]:=by
 rcases ys with _|⟨a,_|⟨b,_|⟨c,_|⟨d,_|⟨e,r⟩⟩⟩⟩⟩
 . cases h
 . cases h
 . cases h
 . cases h
 . exact⟨a,b,c,d,rfl⟩
 . simp at h
theorem two{α:Type}{ys:List α}(h:ys.length=2): ∃a b,ys=[a,b]:=by
 rcases ys with _|⟨a,_|⟨b,_|⟨c,r⟩⟩⟩
 . cases h
 . cases h
 . exact⟨a,b,rfl⟩
 . simp at h
def zQ(H:Hp)(t:Addr)(l:Str):Prop:= ∃d,H t=some (.tup [.str l,.ref d])
theorem zQ.same{H H':Hp}{t:Addr}{l:Str}(h:zQ H t l)(x:Same H H'):zQ H' t l:=let⟨d,e⟩:=h;⟨d,x _ _ e⟩
def zaz:Sp:= λvs H Q _=> ∃a:Addr,vs=[.ref a]/\aZ H a/\
 ∀(t F R T G sI:Addr) (ts us:List Addr) (ls:List Str) (cs:eG) (far:Int) (H':Hp),H' t=some (.tup [.ref F,.ref sI,.int far])->H' F=some (.tup [.ref R,.ref T,.ref G])->H' R=some (.lst (ts.map V.ref))->Paired (zQ H') ts ls->ls.length=4->ls.Nodup->Bd ls->nC H' T G us cs 4->cs.length<=24->(∀u∈T::G::us,H u=none)->aZ H' a->eR a H H'->Q (.ref t) H'
end
end KK
namespace L2
open PySem PySem.Spec PyProof.Rows
theorem znl{t1 t2 t3 t4 t5 t6 t7 t8 t9 t10 t11 t12 t13 t14 t15 t16:TS}{D:fH}{σ:St}{H:Hp}(h:let D0:fH:=D;let σ0:St:=σ;let U16:TS:=t16;let U15:TS:=bM t15 U16;let U14:TS:=bM t14 U15;let U13:TS:=bM t13 U14;let U12:TS:=bM t12 U13;let U11:TS:=bM t11 U12;let U10:TS:=bM t10 U11;let U9:TS:=bM t9 U10;let U8:TS:=bM t8 U9;let U7:TS:=bM t7 U8;let U6:TS:=bM t6 U7;let U5:TS:=bM t5 U6;let U4:TS:=bM t4 U5;let U3:TS:=bM t3 U4;let U2:TS:=bM t2 U3;bM t1 U2 D0 σ0 H):(bM t1 (bM t2 (bM t3 (bM t4 (bM t5 (bM t6 (bM t7 (bM t8 (bM t9 (bM t10 (bM t11 (bM t12 (bM t13 (bM t14 (bM t15 t16))))))))))))))) D σ H:=h
end L2
namespace KK
open PySem L2 PyProof.Rows KKM KKL
variable {P:Program}{w:World}{K:W.Frag}{mg:Str->Option Value}{base:Heap}{f g g2 g3 g4 C CT CB CG M ft pt:Addr}{fd gd vO gd3 xL ftd:FuncData}{k:Nat}
theorem zcu:bS ["_law_flow_here","_law_one","_law_other","_law_step","_law_idle","_law_desks_here","_law_far","_law_behind","_law_dead","_law_table","_law_state","_law_k","_law_rows","_law_turn","_law_order","_law_row","_law_found"] ["_law_flow_here"] (aE eX):=(.of rfl rfl rfl rfl (by decide+kernel))
set_option maxHeartbeats 40000000 in
noncomputable def zfJ (B:Bt mg) (aN:Fn P w K mg base k "_law_draw" ["_law_flow_here","_law_many"] cO g gd) (cI:Fn P w K mg base k "_law_names" ["_law_flow_here","_law_many"] mS g2 vO) {cdv:Value} {A:Around} {outer:List Env} {s:Shared} {H:Hp} {E:XK} (nd:List.Nodup (["_law_flow_here","_law_one","_law_other","_law_step","_law_idle","_law_desks_here","_law_far","_law_behind","_law_dead","_law_table","_law_state","_law_k","_law_rows","_law_turn","_law_order","_law_row","_law_found"]:List Str)) (hr:eV k (A.deeper (envOfC "_law_line" (aE eX) s.heap.objs.size f cdv))):
 {t:TS // vS (dM fV P w K mg base ["_law_flow_here","_law_one","_law_other","_law_step","_law_idle","_law_desks_here","_law_far","_law_behind","_law_dead","_law_table","_law_state","_law_k","_law_rows","_law_turn","_law_order","_law_row","_law_found"] "_law_line" (aE eX) f cdv A outer s H E).nox (cU eX) t}:=
 ⟨_,(aD (lC (gG cI hr rfl (aA (pv 0) (aA aH aC))) (ziJ rfl (bX (aK (i:=1) nd rfl (Or.inl rfl)) (bX (aK (i:=2) nd rfl (Or.inl rfl)) (bX (aK (i:=3) nd rfl (Or.inl rfl)) (bX (aK (i:=4) nd rfl (Or.inl rfl)) fO)))))) (aD (aM (i:=5) nd rfl (Or.inl rfl) (aY kQ rfl B.sorted_ (by decide+kernel) (aA (gG cI hr rfl (aA (pv 0) (aA aH aC))) aC))) (aD (aM (i:=6) nd rfl (Or.inl rfl) (gG aN hr rfl (aA (pv 0) (aA aH aC)))) (aD (aM (i:=7) nd rfl (Or.inl rfl) (gG aN hr rfl (aA (pv 0) (aA (aU zbz aH (pv 6)) aC)))) (aD (aM (i:=8) nd rfl (Or.inl rfl) (aU bY (pv 6) aH)) (aD (aM (i:=9) nd rfl (Or.inl rfl) (bV aC)) (aD (cM PassesOwn.never rfl (bU rfl B.range_ (aA (pv 6) aC)) (aK (i:=10) nd rfl (Or.inl rfl)) (aJ (cV (fE PySem.F.plainAttrs_list PySem.F.slot_list_append PySem.F.type_list_append cS (pv 9) (aA (bV (aA (pv 10) (aA (pv 10) (aA (aU bY (pv 10) aH) (aA (pv 10) aC))))) aC))))) (aD (cV (fE PySem.F.plainAttrs_list PySem.F.slot_list_extend PySem.F.type_list_extend qU (pv 9) (aA (bV (aA (bV (aA (aU bY (pv 8) aH) (aA (aU bY (pv 8) aH) (aA (pv 6) (aA (pv 6) aC))))) (aA (aU zbp (bV (aA (pv 8) aC)) aH) aC))) aC))) (aD (cV (fE PySem.F.plainAttrs_list PySem.F.slot_list_extend PySem.F.type_list_extend qU (pv 9) (aA (bV (aA (bV (aA (aU bY (pv 8) aH) (aA (aU bY (pv 8) aH) (aA (pv 8) (aA (aU bY (pv 8) aH) aC))))) (aA (bV (aA (pv 8) (aA (aU bY (pv 8) aH) (aA (pv 8) (aA (aU bY (pv 8) aH) aC))))) aC))) aC))) (aD (cM PassesOwn.never rfl (bU rfl B.range_ (aA (aU bY (pv 7) aH) aC)) (aK (i:=11) nd rfl (Or.inl rfl)) (aD (aM (i:=10) nd rfl (Or.inl rfl) (aU bY (aU bY (pv 8) aH) (pv 11))) (aJ (cV (fE PySem.F.plainAttrs_list PySem.F.slot_list_append PySem.F.type_list_append cS (pv 9) (aA (bV (aA (pv 10) (aA (pv 10) (aA (bF aR (bV (aA (aU bY (pv 10) aH) (aA (pv 10) aC))) (dA wD rfl B.int_ (by decide+kernel) (aA (pM lY (pv 11) (pv 7) (dI _)) aC)) (λ_ _=>rfl)) (aA (pv 10) aC))))) aC)))))) (aD (aM (i:=12) nd rfl (Or.inr rfl) (bV (aA (eP (aA (pv 1) (aA (eP (aA (bF aR (pv 5) aH (λ_ _=>rfl)) aC)) aC))) (aA (eP (aA (pv 2) (aA (eP (aA (bF aR (pv 5) aH (λ_ _=>rfl)) aC)) aC))) (aA (eP (aA (pv 3) (aA (dA dJ rfl B.tuple_ (by decide+kernel) (aA (pv 5) aC)) aC))) (aA (eP (aA (pv 4) (aA (dA dJ rfl B.tuple_ (by decide+kernel) (aA (pv 5) aC)) aC))) aC)))))) (aD (aM (i:=13) nd rfl (Or.inl rfl) (gG aN hr rfl (aA (pv 0) (aA aH aC))))
  (@aD _ _ _ _ _ (@zhh _ _ 14 _ _ _ _ _ [0,1,2,3] [3,2,1,0] [2,1,3,0] [1,0,3,2] _ _ _ _ _ _ _ _ _ _ (by exact rfl) (by exact rfl) (by exact rfl) (by exact rfl) (by exact rfl) nd (by exact rfl) (by exact(Or.inr rfl)) (pv 13) (by exact λ_ _=>rfl) (by first|exact .inl rfl|exact .inr rfl)) (aD (aM (i:=15) nd rfl (Or.inl rfl) (aU xW (aU xW (aU zbp (bV (aA (pv 3) aC)) (pv 6)) (bF aR (bV (aA (bV (aA (pv 1) (aA (pv 2) aC))) (aA (bV (aA (pv 2) (aA (pv 1) aC))) (aA (bV (aA (pv 2) (aA (pv 1) aC))) (aA (bV (aA (pv 2) (aA (pv 1) aC))) aC))))) (pv 13) (λ_ _=>rfl))) (aU zbp (bV (aA (pv 3) aC)) (pv 7)))) (aD (aM (i:=16) nd rfl (Or.inl rfl) (eP (aA (cD (g:=(bA 0)) (tc:=cK) (te:=(dW (eC K) (aL 1) (aL 0))) (own:=["_law_k"]) (fr:=["_law_rows"]) (idx:=[12]) rfl (by show aP _ _ _ (aE eX);exact(.of rfl (by decide+kernel))) (cE (pv 14)) (λ_ _ _ _ _=>(aK (i:=0) (by show List.Nodup (["_law_k","_law_rows"]:List Str);decide+kernel) rfl (Or.inl rfl) (Or.inr rfl))) (λ_ _ _ _ _=>cB) (λ_ _ _ _ _=>(bF aR (pv 1) (pv 0) (λ_ _=>rfl))) rfl (cA rfl)) (aA (zaf (g:=(bA 0)) (tc:=cK) (te:=(iR (pF K (aL 1)) 1 [0] (bA 0) cK (dW (eC K) (aL 1) (aL 0)))) (z:= "_law_steps") (fr:=["_law_order"]) (idx:=[14]) rfl (by show iW _ _ _ (aE eX);exact⟨rfl,by decide+kernel,by decide+kernel,by decide+kernel,by decide+kernel,by decide+kernel,rfl,λ_ _=>rfl,λ_=>rfl⟩) (cE (pv 9)) (λ_ _ _ _ _=>(aK (i:=0) (by show List.Nodup (["_law_steps","_law_order"]:List Str);decide+kernel) rfl (Or.inr rfl) (Or.inl fn1))) (λ_ _ _ _ _=>cB) (λ_ _ _ _ _=>(cD (g:=(bA 0)) (tc:=cK) (te:=(dW (eC K) (aL 1) (aL 0))) (own:=["_law_k"]) (fr:=["_law_steps"]) (idx:=[0]) rfl (aP.relab (.of rfl (by decide+kernel))) (cE (pv 1)) (λ_ _ _ _ _=>(aK (i:=0) (by show List.Nodup (["_law_k","_law_steps"]:List Str);decide+kernel) rfl (Or.inl rfl) (Or.inr rfl))) (λ_ _ _ _ _=>cB) (λ_ _ _ _ _=>(bF aR (pv 1) (pv 0) (λ_ _=>rfl))) rfl (cA rfl))) rfl (cA rfl)) (aA (bV (aA (aU bY (aU bY (pv 8) aH) (pv 7)) aC)) aC))))) (aJ (cH (eP (aA (pv 16) (aA (pv 15) (aA (pv 6) aC)))))))))))))))))))))⟩
theorem zT.one{H0 H:Hp}{a T u:Addr}{N:Int}{rs:List Addr}{tb:List (List Int)}{r:List Int}(h:zT H0 H a T N rs tb)(nTa:T≠a)(T0:H0 T=none)(hu:H u=none)(ok:r.length=4/\ ∀x∈r,0<=x/\x<N):
 zT H0 (aO (aO H u (.lst (r.map V.int))) T (.lst (rs.map V.ref++[V.ref u]))) a T N (rs++[u]) (tb++[r]):=by
 have x:Same H (aO H u (.lst (r.map V.int))):=aQ hu
 have e:rs.map V.ref++[V.ref u]=(rs++[u]).map V.ref:=by rw[List.map_append];rfl
 rw[e]
 refine(h.same x).put nTa T0 (.cons aF .nil) (λq hq=> ?_) (λv hv=> ?_) (λhv=> ?_)
 . rw[List.mem_singleton.mp hq];exact ok
 . rw[List.mem_singleton.mp hv];exact h.ext.free h.fl hu
 . have e:=h.at_;rw[List.mem_singleton.mp hv,hu]at e;cases e
theorem zT.pair{H0 H:Hp}{a T u v:Addr}{N:Int}{rs:List Addr}{tb:List (List Int)}{r q:List Int}(h:zT H0 H a T N rs tb)(nTa:T≠a)(T0:H0 T=none)(hu:H u=some (.lst (r.map V.int)))(hv:H v=some (.lst (q.map V.int)))(u0:H0 u=none)(v0:H0 v=none)(nu:T≠u)(nv:T≠v)(ok:r.length=4/\ ∀x∈r,0<=x/\x<N)(ok':q.length=4/\ ∀x∈q,0<=x/\x<N):
 zT H0 (aO H T (.lst (rs.map V.ref++[V.ref u,V.ref v]))) a T N (rs++[u,v]) (tb++[r,q]):=by
 have e:rs.map V.ref++[V.ref u,V.ref v]=(rs++[u,v]).map V.ref:=by rw[List.map_append];rfl
 rw[e]
 refine h.put nTa T0 (.cons hu (.cons hv .nil)) (λz hz=> ?_) (λz hz=> ?_) (λhz=> ?_)
 . rcases List.mem_cons.mp hz with rfl|hz
   . exact ok
   . rw[List.mem_singleton.mp hz];exact ok'
 . rcases List.mem_cons.mp hz with rfl|hz
   . exact u0
   . rw[List.mem_singleton.mp hz];exact v0
 . rcases List.mem_cons.mp hz with e|hz
   . exact nu e
   . exact nv (List.mem_singleton.mp hz)
theorem zdp{H:Hp}{ts:List Addr}{ls:List Str}(h:Paired (zQ H) ts ls): ∀{os:List Nat},(∀n∈os,n<ls.length)->(os.map λn=>(ts.map V.ref).getD n .non)=(os.map λn=>ts.getD n 0).map V.ref/\Paired (zQ H) (os.map λn=>ts.getD n 0) (os.map λn=>ls.getD n ""):=by
 intro os
 induction os with
 |nil=>intro _;exact⟨rfl,.nil⟩
 |cons n os ih=>
  intro hn;obtain⟨e,p⟩:=ih λm hm=>hn m (List.mem_cons_of_mem _ hm);have el:=List.getElem?_eq_getElem (hn n List.mem_cons_self);obtain⟨t,ht,hp⟩:=fC h el;refine⟨?_,.cons ?_ p⟩
  . rw[List.map_cons,List.map_cons,List.map_cons,e,KKL.getD_at ht,KKL.getD_at (x:=V.ref t) (by rw[List.getElem?_map,ht];rfl)]
  . show zQ H (ts.getD n 0) (ls.getD n "")
    rw[KKL.getD_at ht,KKL.getD_at el];exact hp
theorem zbu{ls:List Str}(h:ls.Nodup): ∀{os:List Nat},(∀n∈os,n<ls.length)->os.Nodup->(os.map λn=>ls.getD n "").Nodup:=by
 intro os
 induction os with
 |nil=>intro _ _;exact List.nodup_nil
 |cons n os ih=>
  intro hn ho;obtain⟨h1,h2⟩:=List.nodup_cons.mp ho;rw[List.map_cons];refine List.nodup_cons.mpr ⟨λhm=> ?_,ih (λm hm=>hn m (List.mem_cons_of_mem _ hm)) h2⟩;obtain⟨m,hm,e⟩:=List.mem_map.mp hm;have a1:=List.getElem?_eq_getElem (hn n List.mem_cons_self);have a2:=List.getElem?_eq_getElem (hn m (List.mem_cons_of_mem _ hm));rw[KKL.getD_at a1,KKL.getD_at a2]at e;have:=(List.getElem_inj h).mp e;rw[this]at hm;exact h1 hm
theorem zkl{ls:List Str}(h:Bd ls){os:List Nat}(hn: ∀n∈os,n<ls.length):Bd (os.map λn=>ls.getD n ""):=by
 intro z hz
 obtain⟨n,hm,rfl⟩:=List.mem_map.mp hz
 have a1:=List.getElem?_eq_getElem (hn n hm)
 rw[KKL.getD_at a1]
 exact h _ (List.getElem_mem _)
theorem zjo{os:List Nat}{tb:List (List Int)}{N:Int}(lo:os.length=4)(ho: ∀n∈os,n<4)(h: ∀r∈tb,r.length=4/\ ∀x∈r,0<=x/\x<N): ∀r∈tb.map (qZ os),r.length=4/\ ∀x∈r,0<=x/\x<N:=by
 intro r hr
 obtain⟨q,hq,rfl⟩:=List.mem_map.mp hr
 obtain⟨h1,h2⟩:=h q hq
 unfold qZ
 refine⟨by rw[aW];exact lo,λx hx=> ?_⟩
 obtain⟨n,hn,rfl⟩:=List.mem_map.mp hx
 have a1:=List.getElem?_eq_getElem (show n<q.length by have:=ho n hn;omega)
 rw[KKL.getD_at a1]
 exact h2 _ (List.getElem_mem _)
theorem zT.on{H0 H H':Hp}{a T:Addr}{N:Int}{rs:List Addr}{tb:List (List Int)}(h:zT H0 H a T N rs tb)(f0:aZ H0 a)(nTa:T≠a)(x:eR a H H')(f:aZ H' a):zT H0 H' a T N rs tb:=
 ⟨x _ _ nTa h.at_,eB h.rows λb r hb z=>x _ _ (bJ (h.new b hb) f0) z,h.ok,h.new,h.nT,f,h.ext.trans x⟩
theorem zdl{r:Int}(h0:0<=r)(h1:r<4):r=0\/r=1\/r=2\/r=3:=by omega
set_option maxHeartbeats 40000000 in
theorem ziM(F:lH K "_law_line" "_law_line" eX f fd)(B:Bt mg)(aN:Fn P w K mg base k "_law_draw" ["_law_flow_here","_law_many"] cO g gd)(cI:Fn P w K mg base k "_law_names" ["_law_flow_here","_law_many"] mS g2 vO):dG P w K mg base fV (k+1) f fd ["_law_flow_here"] zaz:=by
 refine F.ok zcu (λvs H Q E h=> ?_) (λcdv A outer s H vs Q E hr h=> ?_)
 . obtain⟨a,rfl,_⟩:=h;rfl
 obtain⟨a,rfl,hF,q⟩:=h
 have nd:=zcu.nd
 refine⟨(zfJ (P:=P) (w:=w) (base:=base) B aN cI nd hr).1,(zfJ (P:=P) (w:=w) (base:=base) B aN cI nd hr).2,?_⟩
 unfold zfJ
 try dsimp only[dM,Cx.nox,Cx.wish]
 refine znl ?_
 intro D0 σ0 U16 U15 U14 U13 U12 U11 U10 U9 U8 U7 U6 U5 U4 U3 U2
 refine⟨_,rfl,a,4,rfl,hF,by decide,by decide,λr1 ys H1 e1 b1 n1 nr1 _ f1 x1 h1=> ?_⟩
 obtain⟨l1,l2,l3,l4,rfl⟩:=zqO (show ys.length=4 by omega)
 refine⟨r1,_,rfl,bB.of h1,rfl,_,_,rfl,_,_,rfl,_,_,rfl,_,_,rfl,rfl,?_⟩
 refine⟨_,rfl,a,2,rfl,f1,by decide,by decide,λr2 zs H2 e2 b2 n2 nr2 _ f2 x2 h2=>⟨r2,zs,rfl,bB.of h2,by omega,λd ds hd hp _=> ?_⟩⟩
 have lds:ds.length=2:=by rw[hp.length_eq];omega
 obtain⟨d1,d2,rfl⟩:=two lds
 have nda:=bJ hd f2
 obtain⟨H3,e0,x3,k3⟩:=cT hd (.lst ([d1,d2].map V.str))
 rw[e0]
 have f3:=Same.flow x3 f2
 have y3:eR a H H3:=(x1.trans x2).trans (Same.ext x3)
 refine⟨_,rfl,a,20,rfl,f3,by decide,by decide,λfa H4 fa0 fa1 f4 x4=> ?_⟩
 refine⟨_,rfl,_,rfl,_,_,rfl,rfl,a,20 - fa,rfl,f4,by omega,by omega,λbe H5 be0 be1 f5 x5=> ?_⟩
 have y5:=(y3.trans x4).trans x5
 have k5:=x5 _ _ nda (x4 _ _ nda k3)
 refine⟨_,rfl,_,_,rfl,rfl,?_⟩
 refine⟨cL 0,λT hT=> ?_⟩
 have nTa:=bJ hT f5
 have ndT:d≠T:=aI k5 hT
 have T0:=y5.free f5 hT
 obtain⟨H6,e0,x6,k6⟩:=cT hT (.lst [])
 rw[e0]
 have k6:H6 T=some (.lst (([]:List Addr).map V.ref)):=k6
 have L6:zT H H6 a T (fa+be+5) [] []:=⟨k6,.nil,(by intro _ z;cases z),(by intro _ z;cases z),(by intro z;cases z),Same.flow x6 f5,y5.trans (Same.ext x6)⟩
 have kd6:=x6 _ _ k5
 clear x6 k6 hT k5 x5 x4 y3 f5 f4 f3 x3 k3 x2 x1 hd hp e2 h2 f2 f1
 obtain⟨fn,rfl⟩:=Int.eq_ofNat_of_zero_le fa0
 obtain⟨bn,rfl⟩:=Int.eq_ofNat_of_zero_le be0
 refine⟨_,rfl,_,rfl,by omega,by omega,?_⟩
 rw[show((fn:Nat):Int).toNat=fn from rfl]
 refine eO (λi σ H'=> ∃(pW:Option V) (rs:List Addr) (tb:List (List Int)),σ=[some (.ref a),some (.str l1),some (.str l2),some (.str l3),some (.str l4),some (.ref d),some (.int (fn:Int)),some (.int (bn:Int)),some (.int ((fn:Int)+1)),some (.ref T),pW,none,none,none,none,none,none]/\zT H H' a T ((fn:Int)+bn+5) rs tb/\tb.length=i/\H' d=some (.lst ([d1,d2].map V.str))) ?_ ?_ ?_
 . exact⟨none,[],[],rfl,L6,rfl,kd6⟩
 . rintro i σ H7 hi ⟨pW,rs,tb,rfl,L,lt,kd⟩;have ll:=Paired.length L.rows;rw[Int.zero_add];refine⟨_,rfl,.inl ⟨rfl,_,bB.of L.at_⟩,_,rfl,_,rfl,_,rfl,_,_,rfl,rfl,_,rfl,cL 4,λu hu=> ?_⟩;have xu:Same H7 (aO H7 u (.lst [.int (i:Int),.int (i:Int),.int ((i:Int)+1),.int (i:Int)])):=aQ hu;refine⟨T,_,_,rfl,rfl,xu _ _ L.at_,by rw[aW];exact gI (by omega),?_⟩;refine⟨_,rs++[u],tb++[[(i:Int),(i:Int),(i:Int)+1,(i:Int)]],rfl,L.one (r:=[(i:Int),(i:Int),(i:Int)+1,(i:Int)]) nTa T0 hu ⟨rfl,λx hx=> ?_⟩,by rw[List.length_append,lt];rfl,?_⟩
   . simp only[List.mem_cons,List.not_mem_nil,or_false]at hx;omega
   . rw[aG ndT];exact xu _ _ kd
 rintro σ H7 ⟨pW,rs,tb,rfl,L,lt,kd⟩
 clear L6 kd6
 have ll:=Paired.length L.rows
 -- the first two rows
 refine⟨_,rfl,.inl ⟨rfl,_,bB.of L.at_⟩,_,rfl,_,_,rfl,rfl,_,rfl,_,_,rfl,rfl,_,rfl,_,rfl,cL 4,λu hu=> ?_⟩
 have nu:T≠u:=aI L.at_ hu
 have u0:=L.ext.free L.fl hu
 obtain⟨H8,e0,xu,ku⟩:=cT hu (.lst [.int ((fn:Int)+1+1),.int ((fn:Int)+1+2),.int (fn:Int),.int (fn:Int)])
 rw[e0]
 have ku:H8 u=some (.lst ([(fn:Int)+1+1,(fn:Int)+1+2,(fn:Int),(fn:Int)].map V.int)):=ku
 have L:=L.same xu
 have kd:=xu _ _ kd
 refine⟨_,rfl,cL 1,λp hp=>⟨p,4,_,rfl,rfl,aF,by decide,by decide,cL 4,λv hv=> ?_⟩⟩
 obtain⟨H9,e0,xp,-⟩:=cT hp (.lst [.int ((fn:Int)+1)])
 rw[e0]at hv ⊢
 have L:=L.same xp
 have kd:=xp _ _ kd
 have ku:=xp _ _ ku
 have nv:T≠v:=aI L.at_ hv
 have v0:=L.ext.free L.fl hv
 obtain⟨H10,e0,xv,kv⟩:=cT hv (.lst (List.replicate (Int.toNat 4) [V.int ((fn:Int)+1)]).flatten)
 rw[e0]
 have kv:H10 v=some (.lst ([(fn:Int)+1,(fn:Int)+1,(fn:Int)+1,(fn:Int)+1].map V.int)):=kv
 have L:=L.same xv
 have kd:=xv _ _ kd
 have ku:=xv _ _ ku
 refine⟨cL 2,λc hc=> ?_⟩
 obtain⟨H11,e0,xc,kc⟩:=cT hc (.lst [.ref u,.ref v])
 rw[e0]
 have L:=L.same xc
 have kd:=xc _ _ kd
 refine⟨T,c,_,_,rfl,rfl,L.at_,kc,sT (by rw[aW];show rs.length+2<=1000;omega),?_⟩
 have L:=L.pair nTa T0 (xc _ _ ku) (xc _ _ kv) u0 v0 nu nv ⟨rfl,λx hx=>by simp only[List.mem_cons,List.not_mem_nil,or_false]at hx;omega⟩ ⟨rfl,λx hx=>by simp only[List.mem_cons,List.not_mem_nil,or_false]at hx;omega⟩
 have kd:aO H11 T (.lst (rs.map V.ref++[.ref u,.ref v])) d=some (.lst ([d1,d2].map V.str)):=by rw[aG ndT];exact kd
 have lt:(tb++[[(fn:Int)+1+1,(fn:Int)+1+2,(fn:Int),(fn:Int)],[(fn:Int)+1,(fn:Int)+1,(fn:Int)+1,(fn:Int)+1]]).length=fn+2:=by rw[List.length_append,lt];rfl
 generalize aO H11 T (.lst (rs.map V.ref++[.ref u,.ref v]))=H12 at L kd ⊢
 generalize tb++[[(fn:Int)+1+1,(fn:Int)+1+2,(fn:Int),(fn:Int)],[(fn:Int)+1,(fn:Int)+1,(fn:Int)+1,(fn:Int)+1]]=tb at L lt
 generalize rs++[u,v]=rs at L
 clear ku kv xc xv xp xu kc hu hv hp hc nu nv u0 v0 ll
 have ll:=Paired.length L.rows
 -- two more
 refine⟨_,rfl,.inl ⟨rfl,_,bB.of L.at_⟩,_,rfl,_,_,rfl,rfl,_,rfl,_,_,rfl,rfl,_,rfl,_,rfl,_,_,rfl,rfl,cL 4,λu hu=> ?_⟩
 have nu:T≠u:=aI L.at_ hu
 have u0:=L.ext.free L.fl hu
 obtain⟨H13,e0,xu,ku⟩:=cT hu (.lst [.int ((fn:Int)+1+1),.int ((fn:Int)+1+3),.int ((fn:Int)+1),.int ((fn:Int)+1+1)])
 rw[e0]
 have ku:H13 u=some (.lst ([(fn:Int)+1+1,(fn:Int)+1+3,(fn:Int)+1,(fn:Int)+1+1].map V.int)):=ku
 have L:=L.same xu
 have kd:=xu _ _ kd
 refine⟨_,rfl,_,rfl,_,_,rfl,rfl,_,rfl,_,rfl,_,_,rfl,rfl,cL 4,λv hv=> ?_⟩
 have nv:T≠v:=aI L.at_ hv
 have v0:=L.ext.free L.fl hv
 obtain⟨H14,e0,xv,kv⟩:=cT hv (.lst [.int ((fn:Int)+1),.int ((fn:Int)+1+2),.int ((fn:Int)+1),.int ((fn:Int)+1+2)])
 rw[e0]
 have kv:H14 v=some (.lst ([(fn:Int)+1,(fn:Int)+1+2,(fn:Int)+1,(fn:Int)+1+2].map V.int)):=kv
 have L:=L.same xv
 have kd:=xv _ _ kd
 have ku:=xv _ _ ku
 refine⟨cL 2,λc hc=> ?_⟩
 obtain⟨H15,e0,xc,kc⟩:=cT hc (.lst [.ref u,.ref v])
 rw[e0]
 have L:=L.same xc
 have kd:=xc _ _ kd
 refine⟨T,c,_,_,rfl,rfl,L.at_,kc,sT (by rw[aW];show rs.length+2<=1000;omega),?_⟩
 have L:=L.pair nTa T0 (xc _ _ ku) (xc _ _ kv) u0 v0 nu nv ⟨rfl,λx hx=>by simp only[List.mem_cons,List.not_mem_nil,or_false]at hx;omega⟩ ⟨rfl,λx hx=>by simp only[List.mem_cons,List.not_mem_nil,or_false]at hx;omega⟩
 have kd:aO H15 T (.lst (rs.map V.ref++[.ref u,.ref v])) d=some (.lst ([d1,d2].map V.str)):=by rw[aG ndT];exact kd
 have lt:(tb++[[(fn:Int)+1+1,(fn:Int)+1+3,(fn:Int)+1,(fn:Int)+1+1],[(fn:Int)+1,(fn:Int)+1+2,(fn:Int)+1,(fn:Int)+1+2]]).length=fn+4:=by rw[List.length_append,lt];rfl
 generalize aO H15 T (.lst (rs.map V.ref++[.ref u,.ref v]))=H16 at L kd ⊢
 generalize tb++[[(fn:Int)+1+1,(fn:Int)+1+3,(fn:Int)+1,(fn:Int)+1+1],[(fn:Int)+1,(fn:Int)+1+2,(fn:Int)+1,(fn:Int)+1+2]]=tb at L lt
 generalize rs++[u,v]=rs at L
 clear ku kv xc xv xu kc hu hv hc nu nv u0 v0 ll
 -- the rows behind
 refine⟨_,rfl,_,_,rfl,rfl,_,rfl,by omega,by omega,?_⟩
 rw[show((bn:Int)+1).toNat=bn+1 by omega]
 refine eO (λi σ H'=> ∃(pW v11:Option V) (rs:List Addr) (tb:List (List Int)),σ=[some (.ref a),some (.str l1),some (.str l2),some (.str l3),some (.str l4),some (.ref d),some (.int (fn:Int)),some (.int (bn:Int)),some (.int ((fn:Int)+1)),some (.ref T),pW,v11,none,none,none,none,none]/\zT H H' a T ((fn:Int)+bn+5) rs tb/\tb.length=fn+4+i/\H' d=some (.lst ([d1,d2].map V.str))) ?_ ?_ ?_
 . exact⟨_,none,rs,tb,rfl,L,lt,kd⟩
 . rintro i σ H7 hi ⟨pW,v11,rs,tb,rfl,L,lt,kd⟩;have ll:=Paired.length L.rows;rw[Int.zero_add];refine⟨_,rfl,_,_,rfl,rfl,_,rfl,_,_,rfl,rfl,?_⟩;refine⟨_,rfl,.inl ⟨rfl,_,bB.of L.at_⟩,_,rfl,_,rfl,_,rfl,_,_,rfl,rfl,_,rfl,cL 2,λp hp=> ?_⟩;obtain⟨H8,e0,xp,kp⟩:=cT hp (.lst [.int ((fn:Int)+1+3+(i:Int)+1),.int ((fn:Int)+1+3+(i:Int))]);rw[e0];have L:=L.same xp;have kd:=xp _ _ kd;obtain⟨z,hz,z0,z1⟩: ∃z:Int,mL [V.int ((fn:Int)+1+3+(i:Int)+1),V.int ((fn:Int)+1+3+(i:Int))] (if decide (V.int (i:Int)=V.int (bn:Int))=true then 1 else 0)=some (.int z)/\0<=z/\z<(fn:Int)+bn+5:=by
    by_cases e:i=bn
    . subst e;rw[decide_eq_true rfl,if_pos rfl];exact⟨_,rfl,by omega,by omega⟩
    . rw[decide_eq_false (λq=>e (Int.ofNat_inj.mp (V.int.inj q))),if_neg Bool.false_ne_true];exact⟨_,rfl,by omega,by omega⟩
   refine⟨_,rfl,_,rfl,rfl,.inr ⟨_,rfl,p,_,_,_,rfl,rfl,bB.of kp,hz,_,rfl,cL 4,λu hu=> ?_⟩⟩;have xu:Same H8 (aO H8 u (.lst [.int ((fn:Int)+1+3+(i:Int)),.int ((fn:Int)+1+3+(i:Int)),.int z,.int ((fn:Int)+1+3+(i:Int))])):=aQ hu;refine⟨T,_,_,rfl,rfl,xu _ _ L.at_,by rw[aW];exact gI (by omega),?_⟩;refine⟨_,_,rs++[u],tb++[[(fn:Int)+1+3+(i:Int),(fn:Int)+1+3+(i:Int),z,(fn:Int)+1+3+(i:Int)]],rfl,L.one (r:=[(fn:Int)+1+3+(i:Int),(fn:Int)+1+3+(i:Int),z,(fn:Int)+1+3+(i:Int)]) nTa T0 hu ⟨rfl,λx hx=> ?_⟩,by rw[List.length_append,lt];rfl,?_⟩
   . simp only[List.mem_cons,List.not_mem_nil,or_false]at hx;omega
   . rw[aG ndT];exact xu _ _ kd
 rintro σ H17 ⟨zCM,v11,rs,tb,rfl,L,lt,kd⟩
 have ll:=Paired.length L.rows
 have ld:mL ([d1,d2].map V.str) 0=some (.str d1):=rfl
 have ld':mL ([d1,d2].map V.str) 1=some (.str d2):=rfl
 -- the zqO rows of the sharing
 refine⟨_,rfl,_,rfl,d,_,_,_,rfl,rfl,bB.of kd,ld,cL 1,λp1 hp1=>⟨cL 2,λt1 ht1=> ?_⟩⟩
 obtain⟨H18,e0,xa,-⟩:=cT hp1 (.tup [.str d1])
 rw[e0]at ht1 ⊢
 have xb:Same H18 (aO H18 t1 (.tup [.str l1,.ref p1])):=aQ ht1
 have k1:zQ (aO H18 t1 (.tup [.str l1,.ref p1])) t1 l1:=⟨p1,aF⟩
 generalize aO H18 t1 (.tup [.str l1,.ref p1])=H19 at xb k1 ⊢
 have y:=xa.trans xb
 clear xa xb hp1 ht1
 refine⟨_,rfl,_,rfl,d,_,_,_,rfl,rfl,bB.of (y _ _ kd),ld',cL 1,λp2 hp2=>⟨cL 2,λt2 ht2=> ?_⟩⟩
 obtain⟨H20,e0,xa,-⟩:=cT hp2 (.tup [.str d2])
 rw[e0]at ht2 ⊢
 have xb:Same H20 (aO H20 t2 (.tup [.str l2,.ref p2])):=aQ ht2
 have k2:zQ (aO H20 t2 (.tup [.str l2,.ref p2])) t2 l2:=⟨p2,aF⟩
 generalize aO H20 t2 (.tup [.str l2,.ref p2])=H21 at xb k2 ⊢
 have xab:=xa.trans xb
 have y:=y.trans xab
 have k1:=k1.same xab
 clear xa xb xab hp2 ht2
 refine⟨_,rfl,_,rfl,d,_,rfl,.inl ⟨bB.of (y _ _ kd),λp3 hp3=>⟨cL 2,λt3 ht3=> ?_⟩⟩⟩
 obtain⟨H22,e0,xa,-⟩:=cT hp3 (.tup ([d1,d2].map V.str))
 rw[e0]at ht3 ⊢
 have xb:Same H22 (aO H22 t3 (.tup [.str l3,.ref p3])):=aQ ht3
 have k3:zQ (aO H22 t3 (.tup [.str l3,.ref p3])) t3 l3:=⟨p3,aF⟩
 generalize aO H22 t3 (.tup [.str l3,.ref p3])=H23 at xb k3 ⊢
 have xab:=xa.trans xb
 have y:=y.trans xab
 have k1:=k1.same xab
 have k2:=k2.same xab
 clear xa xb xab hp3 ht3
 refine⟨_,rfl,_,rfl,d,_,rfl,.inl ⟨bB.of (y _ _ kd),λp4 hp4=>⟨cL 2,λt4 ht4=> ?_⟩⟩⟩
 obtain⟨H24,e0,xa,-⟩:=cT hp4 (.tup ([d1,d2].map V.str))
 rw[e0]at ht4 ⊢
 have xb:Same H24 (aO H24 t4 (.tup [.str l4,.ref p4])):=aQ ht4
 have k4:zQ (aO H24 t4 (.tup [.str l4,.ref p4])) t4 l4:=⟨p4,aF⟩
 generalize aO H24 t4 (.tup [.str l4,.ref p4])=H25 at xb k4 ⊢
 have xab:=xa.trans xb
 have y:=y.trans xab
 have k1:=k1.same xab
 have k2:=k2.same xab
 have k3:=k3.same xab
 clear xa xb xab hp4 ht4
 refine⟨cL 4,λR hR=> ?_⟩
 obtain⟨H26,e0,xa,kR⟩:=cT hR (.lst [.ref t1,.ref t2,.ref t3,.ref t4])
 rw[e0]
 have kR:H26 R=some (.lst (([t1,t2,t3,t4]:List Addr).map V.ref)):=kR
 have y:=y.trans xa
 have kP:Paired (zQ H26) [t1,t2,t3,t4] [l1,l2,l3,l4]:= .cons (k1.same xa) (.cons (k2.same xa) (.cons (k3.same xa) (.cons (k4.same xa) .nil)))
 have L:=L.same y
 have kd:=y _ _ kd
 clear k1 k2 k3 k4 xa hR y
 -- the order
 refine⟨_,rfl,a,4,rfl,L.fl,by decide,by decide,λtn H27 tn0 tn1 f27 x27=> ?_⟩
 have nRa:R≠a:=by
  obtain⟨_,_,_,ea,_⟩:=L.fl;intro e;rw[e,ea]at kR;have:=congrArg List.length (HO.lst.inj (Option.some.inj kR));cases this
 have kP:Paired (zQ H27) [t1,t2,t3,t4] [l1,l2,l3,l4]:=by
  obtain⟨_,_,_,ea,_⟩:=L.fl;exact Paired.mapP kP λb l ⟨e,z⟩=>⟨e,x27 _ _ (dO z ea (λz=>nomatch z)) z⟩
 have kR:=x27 _ _ nRa kR
 have L:=L.on hF nTa x27 f27
 clear kd x27 f27
 refine⟨cL 4,λo1 ho1=> ?_⟩
 obtain⟨H28,e0,xa,k1⟩:=cT ho1 (.lst (([0,1,2,3]:List Int).map V.int))
 rw[e0]
 have k1:H28 o1=some (.lst ((cG [0,1,2,3]).map V.int)):=k1
 refine⟨cL 4,λo2 ho2=> ?_⟩
 obtain⟨H29,e0,xb,k2⟩:=cT ho2 (.lst (([3,2,1,0]:List Int).map V.int))
 rw[e0]
 have k2:H29 o2=some (.lst ((cG [3,2,1,0]).map V.int)):=k2
 refine⟨cL 4,λo3 ho3=> ?_⟩
 obtain⟨H30,e0,xc,k3⟩:=cT ho3 (.lst (([2,1,3,0]:List Int).map V.int))
 rw[e0]
 have k3:H30 o3=some (.lst ((cG [2,1,3,0]).map V.int)):=k3
 refine⟨cL 4,λo4 ho4=> ?_⟩
 obtain⟨H31,e0,xd,k4⟩:=cT ho4 (.lst (([1,0,3,2]:List Int).map V.int))
 rw[e0]
 have k4:H31 o4=some (.lst ((cG [1,0,3,2]).map V.int)):=k4
 refine⟨cL 4,λO hO=> ?_⟩
 obtain⟨H32,e0,xe,kO⟩:=cT hO (.lst [.ref o1,.ref o2,.ref o3,.ref o4])
 rw[e0]
 obtain⟨o,os,ha,ho,lo,o4',ond⟩: ∃(o:Addr) (os:List Nat),mL [V.ref o1,V.ref o2,V.ref o3,V.ref o4] tn=some (.ref o)/\H32 o=some (.lst ((cG os).map V.int))/\os.length=4/\(∀n∈os,n<4)/\os.Nodup:=by
  rcases zdl tn0 tn1 with rfl|rfl|rfl|rfl
  . exact⟨o1,[0,1,2,3],rfl,xe _ _ (xd _ _ (xc _ _ (xb _ _ k1))),rfl,by decide,by decide⟩
  . exact⟨o2,[3,2,1,0],rfl,xe _ _ (xd _ _ (xc _ _ k2)),rfl,by decide,by decide⟩
  . exact⟨o3,[2,1,3,0],rfl,xe _ _ (xd _ _ k3),rfl,by decide,by decide⟩
  . exact⟨o4,[1,0,3,2],rfl,xe _ _ k4,rfl,by decide,by decide⟩
 refine⟨_,rfl,O,_,_,_,rfl,rfl,bB.of kO,ha,?_⟩
 have y:=(((xa.trans xb).trans xc).trans xd).trans xe
 have L:=L.same y
 have kR:=y _ _ kR
 have kP:Paired (zQ H32) [t1,t2,t3,t4] [l1,l2,l3,l4]:=Paired.mapP kP λb l z=>z.same y
 clear y xa xb xc xd xe k1 k2 k3 k4 kO ha ho1 ho2 ho3 ho4 hO
 -- the row
 refine⟨_,rfl,cL 1,λp1 hp1=> ?_⟩
 obtain⟨H33,e0,xa,k1⟩:=cT hp1 (.lst [.str l3])
 rw[e0]
 refine⟨_,rfl,p1,_,_,rfl,rfl,k1,by omega,by omega,sT (show 1 * ((fn:Nat):Int).toNat<=1000 by omega),λq1 hq1=> ?_⟩
 obtain⟨H34,e0,xb,k2⟩:=cT hq1 (.lst (List.replicate ((fn:Nat):Int).toNat [V.str l3]).flatten)
 rw[e0]
 refine⟨_,rfl,_,rfl,cL 2,λw1 hw1=> ?_⟩
 obtain⟨H35,e0,xc,k3⟩:=cT hw1 (.lst [.str l1,.str l2])
 rw[e0]
 refine⟨_,rfl,_,rfl,cL 2,λw2 hw2=> ?_⟩
 obtain⟨H36,e0,xd,k4⟩:=cT hw2 (.lst [.str l2,.str l1])
 rw[e0]
 refine⟨_,rfl,_,rfl,cL 2,λw3 hw3=> ?_⟩
 obtain⟨H37,e0,xe,k5⟩:=cT hw3 (.lst [.str l2,.str l1])
 rw[e0]
 refine⟨_,rfl,_,rfl,cL 2,λw4 hw4=> ?_⟩
 obtain⟨H38,e0,xf,k6⟩:=cT hw4 (.lst [.str l2,.str l1])
 rw[e0]
 refine⟨cL 4,λW hW=> ?_⟩
 obtain⟨H39,e0,xg,kW⟩:=cT hW (.lst [.ref w1,.ref w2,.ref w3,.ref w4])
 rw[e0]
 obtain⟨o',zs,ha,ho',lz⟩: ∃(o':Addr) (zs:List V),mL [V.ref w1,V.ref w2,V.ref w3,V.ref w4] tn=some (.ref o')/\H39 o'=some (.lst zs)/\zs.length=2:=by
  rcases zdl tn0 tn1 with rfl|rfl|rfl|rfl
  . exact⟨w1,_,rfl,xg _ _ (xf _ _ (xe _ _ (xd _ _ k3))),rfl⟩
  . exact⟨w2,_,rfl,xg _ _ (xf _ _ (xe _ _ k4)),rfl⟩
  . exact⟨w3,_,rfl,xg _ _ (xf _ _ k5),rfl⟩
  . exact⟨w4,_,rfl,xg _ _ k6,rfl⟩
 have lr: ∀n:Nat,((List.replicate n [V.str l3]).flatten).length=n:= λn=>by rw[zcf];exact Nat.mul_one n
 have k2:=xg _ _ (xf _ _ (xe _ _ (xd _ _ (xc _ _ k2))))
 refine⟨_,rfl,W,_,_,_,rfl,rfl,bB.of kW,ha,q1,o',_,_,rfl,rfl,k2,ho',sT (by rw[lr,lz];omega),λc hc=> ?_⟩
 have y:=(((((xa.trans xb).trans xc).trans xd).trans xe).trans xf).trans xg
 obtain⟨H40,e0,xh,kc⟩:=cT hc (.lst ((List.replicate ((fn:Nat):Int).toNat [V.str l3]).flatten++zs))
 rw[e0]
 refine⟨_,rfl,cL 1,λp2 hp2=> ?_⟩
 obtain⟨H41,e0,xi,k7⟩:=cT hp2 (.lst [.str l3])
 rw[e0]
 refine⟨_,rfl,p2,_,_,rfl,rfl,k7,by omega,by omega,sT (show 1 * ((bn:Nat):Int).toNat<=1000 by omega),λq2 hq2=> ?_⟩
 obtain⟨H42,e0,xj,k8⟩:=cT hq2 (.lst (List.replicate ((bn:Nat):Int).toNat [V.str l3]).flatten)
 rw[e0]
 refine⟨c,q2,_,_,rfl,rfl,xj _ _ (xi _ _ kc),k8,sT (by rw[List.length_append,lr,lr,lz];omega),λsI hrw=> ?_⟩
 have xk:Same H42 (aO H42 sI (.lst (((List.replicate ((fn:Nat):Int).toNat [V.str l3]).flatten++zs)++(List.replicate ((bn:Nat):Int).toNat [V.str l3]).flatten))):=aQ hrw
 generalize aO H42 sI (.lst (((List.replicate ((fn:Nat):Int).toNat [V.str l3]).flatten++zs)++(List.replicate ((bn:Nat):Int).toNat [V.str l3]).flatten))=H43 at xk ⊢
 have y:=(((y.trans xh).trans xi).trans xj).trans xk
 have L:=L.same y
 have kR:=y _ _ kR
 have ho:=y _ _ ho
 have kP:Paired (zQ H43) [t1,t2,t3,t4] [l1,l2,l3,l4]:=Paired.mapP kP λb l z=>z.same y
 clear y xa xb xc xd xe xf xg xh xi xj xk k1 k2 k3 k4 k5 k6 k7 k8 kW kc ha ho' hp1 hq1 hw1 hw2 hw3 hw4 hW hc hp2 hq2 hrw lr lz
 -- what is told
 have eo: ∀n∈os,n<([l1,l2,l3,l4]:List Str).length:=o4'
 obtain⟨pe,pp⟩:=zdp kP eo
 refine⟨_,rfl,o,rfl,⟨_,bB.of ho⟩,λD hD=>zly (K:=K) (xs:=([t1,t2,t3,t4]:List Addr).map V.ref) o4' (by omega) hD ho kR λH44 x44 h44=> ?_⟩
 rw[pe]at h44
 have pp:Paired (zQ H44) (os.map λn=>([t1,t2,t3,t4]:List Addr).getD n 0) (os.map λn=>([l1,l2,l3,l4]:List Str).getD n ""):=Paired.mapP pp λb l z=>z.same x44
 have L:=L.same x44
 refine⟨_,rfl,T,rfl,⟨_,bB.of L.at_⟩,λD2 lA=>zsY (K:=K) (by omega) (by omega) (λr hr n hn=>by rw[(L.ok r hr).1];exact o4' n hn) lA (x44 _ _ ho) L.at_ L.rows λus H45 x45 h45 P45 zxR=> ?_⟩
 have D20:=L.ext.free L.fl lA
 have us0: ∀u∈us,H u=none:= λu hu=>L.ext.free L.fl (zxR u hu)
 have L:=L.same x45
 refine⟨_,rfl,_,_,rfl,rfl,_,rfl,_,_,rfl,rfl,cL 1,λG hG=> ?_⟩
 obtain⟨H46,e0,x46,k46⟩:=cT hG (.lst [.int ((fn:Int)+1+3+(bn:Int))])
 rw[e0]
 have k46:H46 G=some (.lst ([(fn:Int)+1+3+(bn:Int)].map V.int)):=k46
 have G0:=L.ext.free L.fl hG
 refine⟨cL 3,λFd hFd=> ?_⟩
 obtain⟨H47,e0,x47,k47⟩:=cT hFd (.tup [.ref D,.ref D2,.ref G])
 rw[e0]
 refine⟨_,rfl,_,rfl,_,rfl,cL 3,λt ht=> ?_⟩
 obtain⟨H48,e0,x48,k48⟩:=cT ht (.tup [.ref Fd,.ref sI,.int (fn:Int)])
 rw[e0]
 have z46:=(x46.trans x47).trans x48
 have z45:=x45.trans z46
 have tok:=zjo lo o4' L.ok
 have tl:(tb.map (qZ os)).length=fn+bn+5:=by rw[aW,lt];omega
 obtain⟨cs,c1,c2,c3⟩:=zcz (tb:=tb.map (qZ os)) (gd:=[(fn:Int)+1+3+(bn:Int)]) (λr hr x hx=>((tok r hr).2 x hx).1) (List.pairwise_singleton _ _) (λx hx=>by rw[List.mem_singleton.mp hx,tl];omega)
 rw[tl]at c1
 have Wc':Wc 4 cs:=zcP (by omega) (by rw[c2];exact λr hr=>(tok r hr).1) (by rw[c2,c1];intro r hr x hx;have:=((tok r hr).2 x hx).2;omega)
 have L:=L.same z46
 exact q t Fd D D2 G sI _ us _ cs fn H48 k48 (x48 _ _ k47) (z45 _ _ h44) (Paired.mapP pp λb l z=>z.same z45) (by rw[aW];exact lo) (zbu n1 eo ond) (zkl b1 eo) ⟨⟨z46 _ _ h45,by rw[c2];exact Paired.mapP P45 λ_ _ z=>z46 _ _ z,by rw[c2];exact λr hr=>(tok r hr).1,by rw[c2,tl];omega⟩,by rw[c3];exact x48 _ _ (x47 _ _ k46),Wc'⟩ (by omega) (λb hb=>by
  rcases List.mem_cons.mp hb with rfl|hb
  . exact D20
  rcases List.mem_cons.mp hb with rfl|hb
  . exact G0
  . exact us0 b hb) L.fl L.ext
section
variable {g5 g6 g7 g8 g9 ga:Addr}{gd5 gd6 gd7 gd8 gd9 gda gdb:FuncData}
theorem zdE{c:Nat}(h:c∈lQ.cps.toList):c<4294967296:=by
 revert c
 decide+kernel
theorem uO{z:Str}(h:Nm z):Sm 0 200 (.str z):=Sm.str (λc hc=>zdE (h.2.2 c hc)) (Nat.le_trans h.2.1 (by decide))
def tbD(cs:eG):PyData:= .tuple ((rQ cs).map λr=> .tuple (r.map .int))
def gdD(cs:eG):PyData:= .tuple ((mR cs cs.length).map .int)
def zX(ls:List Str)(cs:eG):PyData:= .tuple [.tuple (ls.map .str),tbD cs,gdD cs]
theorem zdL{H:Hp}{us:List Addr}{tb:List (List Int)}(h:Paired (nH H) us tb)(n:Nat):Paired (cJ H (n+1)) (us.map V.ref) (tb.map λr=> .tuple (r.map .int)):=by
 induction h with
 |nil=>exact .nil
 |cons r _ ih=>exact .cons (cJ.tup r (cJ.ints n _)) ih
theorem tO.rd{H:Hp}{a:Addr}{xs:List V}(h:tO H a xs):Rd H a (.tup xs):=let⟨o,e,_⟩:=h;.inr ⟨o,e⟩
theorem vX{H:Hp}{tl tt tg tm:Addr}{us:List Addr}{ls:List Str}{cs:eG}(m2:tO H tl (ls.map V.str))(m3:H tt=some (.tup (us.map V.ref)))(m4':Paired (nH H) us (rQ cs))(m5:H tg=some (.tup ((mR cs cs.length).map V.int)))(hm:H tm=some (.tup [.ref tl,.ref tt,.ref tg])):cJ H 3 (.ref tm) (zX ls cs):=
 cJ.tup hm (.cons (cJ.up (cJ.tupR (tO.rd m2) (cJ.strs 0 _))) (.cons (cJ.tup m3 (zdL m4' 0)) (.cons (cJ.up (cJ.tup m5 (cJ.ints 0 _))) .nil)))
theorem zrT{p:PyData->Prop}{a b:PyData}(ha:p a)(hb:p b): ∀x∈ [a,b],p x:= λx hx=>by
 simp only[List.mem_cons,List.not_mem_nil,or_false]at hx
 rcases hx with rfl|rfl
 . exact ha
 . exact hb
theorem zxt{p:PyData->Prop}{a b c:PyData}(ha:p a)(hb:p b)(hc:p c): ∀x∈ [a,b,c],p x:= λx hx=>by
 rcases List.mem_cons.mp hx with rfl|hx
 . exact ha
 . exact zrT hb hc x hx
theorem u8{p:PyData->Prop}{is:List Int}(h: ∀i∈is,p (.int i)): ∀x∈is.map PyData.int,p x:= λx hx=>by
 obtain⟨i,hi,rfl⟩:=List.mem_map.mp hx
 exact h i hi
theorem zgW{m:Nat}{cs:eG}(W:Wc m cs)(m6:m<=6)(rS:cs.length<60):Sm 2 80000 (tbD cs):=by
 refine Sm.tuple (n:=1) (w:=1206) (λd hd=> ?_) (by rw[aW,gQ];omega)
 obtain⟨r,hr,rfl⟩:=List.mem_map.mp hd
 refine Sm.tuple (n:=0) (w:=200) (u8 λi hi=> ?_) (by rw[aW,zhn W r hr];omega)
 have:=zhI W r hr i hi
 rw[gQ]at this
 exact Sm.int (by omega) (by omega) (by decide)
theorem zif{cs:eG}(rS:cs.length<60):Sm 2 80000 (gdD cs):=by
 have:=zE cs cs.length
 refine(Sm.tuple (n:=0) (w:=200) (m:=12060) (u8 λi hi=> ?_) (by rw[aW];omega)).mono (by decide) (by decide)
 have:=zlr i hi
 exact Sm.int (by omega) (by omega) (by decide)
theorem zhd{ls:List Str}(h:Bd ls)(l6:ls.length<=6):Sm 2 80000 (.tuple (ls.map .str)):=by
 refine(Sm.tuple (n:=0) (w:=200) (m:=1206) (λd hd=> ?_) (by rw[aW];omega)).mono (by decide) (by decide)
 obtain⟨z,hz,rfl⟩:=List.mem_map.mp hd
 exact uO (h z hz)
theorem uX{ls:List Str}{cs:eG}(h:Bd ls)(l6:ls.length<=6)(W:Wc ls.length cs)(rS:cs.length<60):Sm 8 1048576 (zX ls cs):=
 (Sm.tuple (m:=240003) (zxt (zhd h l6) (zgW W l6 rS) (zif rS)) (show 3 * (80000+1)<=240003 by decide)).mono (by decide) (by decide)
theorem eU{a:Addr}{H0 H H':Hp}(x:Same H0 H)(na:H0 a=none)(y:eR a H H'):Same H0 H':= λb o e=>y b o (aI e na) (x b o e)
theorem rR.seq{p a:Addr}{H H':Hp}{xs:List V}{ps:Array Value}(b:rR p H H')(hp:H p=some (.tbl ps))(h:bB K H a xs):bB K H' a xs:=by
 have k: ∀{b:Addr} {u:HO},H b=some u->(∀ps,u≠ .tbl ps)->H' b=some u:= λ{c u} e n=>b c u (λz=>by rw[z,hp]at e;exact n _ (Option.some.inj e).symm) e
 rcases h with(h|⟨o,h⟩)|h
 . exact .inl (.inl (k h (λ_=>nofun)))
 . exact .inl (.inr ⟨o,k h (λ_=>nofun)⟩)
 . exact .inr h
theorem ziU{H:Hp}{l:Addr}{xs ys:List V}(h:iI H pt)(hl:H l=some (.lst xs)):iI (aO H l (.lst ys)) pt:=by
 rcases h with h|⟨c1,c2,h,h1,h2⟩
 . exact .inl (by rw[aG (dO h hl (λz=>nomatch z))];exact h)
 . exact .inr ⟨c1,c2,by rw[aG (dO h hl (λz=>nomatch z))];exact h,by rw[aG (dO h1 hl (λz=>nomatch z))];exact h1,by rw[aG (dO h2 hl (λz=>nomatch z))];exact h2⟩
theorem rR.put{p l:Addr}{H H1 H2:Hp}{o:HO}(a:rR p H H1)(hl:H1 l=none)(b:rR p H1 H2):rR p H (aO H2 l o):= λc u n e=>by
 have e1:=a c u n e
 rw[aG (aI e1 hl)]
 exact b c u n e1
theorem m7{D L:Addr}{Q:VK}{H1:Hp}{ts:List Addr}{ls:List Str}(vE:ls.length<=60)(hD:H1 D=none)(hL:H1 L=some (.lst (ts.map V.ref)))(hP:Paired (zQ H1) ts ls)
 (fM: ∀H',Same H1 H'->H' D=some (.lst (ls.map V.str))->Q (.ref D) H'):bH (zM K L) D (zkd K 2 (sZ (bA 0) (sZ (bA 1) zjM))) cK (aL 0) Q [none,none] H1:=by
 have ll:=Paired.length hP
 refine dU (xs:=ts.map V.ref) (λi ys σ H=> ∃v v':Option V,ys=(ls.take i).map V.str/\σ=[v,v']/\Same H1 H) ?_ (by rw[aW];omega) ?_ ?_ ?_ ?_
 . exact⟨none,none,rfl,rfl,aQ hD⟩
 . rintro i ys σ H ⟨v,v',rfl,_⟩;rw[aW,List.length_take];omega
 . rintro i ys σ H ⟨v,v',_,_,x⟩;exact bB.of (x _ _ hL)
 . rintro i y ys σ H hy bZ ⟨v,v',rfl,rfl,x⟩;rw[List.getElem?_map]at hy;obtain⟨t,ht,rfl⟩:=Option.map_eq_some_iff.mp hy;obtain⟨l,hl,d,hd⟩:=cY hP ht;refine⟨t,_,rfl,eS.of (x _ _ hd),rfl,_,_,rfl,_,_,rfl,rfl,_,rfl,bZ,_,_,?_,rfl,x.at hD⟩;rw[bO hl,List.map_append];rfl
 . rintro ys σ H bZ ⟨v,v',rfl,_,x⟩;rw[aW,ll,List.take_length]at bZ;exact fM H x bZ
theorem zjj{H:Hp}{ts:List Addr}{rs:List Row}(h:jZ H ts rs):Paired (zQ H) ts (rs.map (·.1)):=by
 induction h with
 |nil=>exact .nil
 |cons r _ ih=>obtain⟨d,e,_⟩:=r;exact .cons ⟨d,e⟩ ih
def prD(ps:List (Str×Str)):PyData:= .list (ps.map λp=> .tuple [.str p.1,.str p.2])
theorem zcg{H:Hp}{l:Addr}{vs:List V}{ps:List (Str×Str)}(hl:H l=some (.lst vs))(h:Paired (Pr2 H) vs ps):cJ H 2 (.ref l) (prD ps):=by
 refine cJ.lst hl ?_
 clear hl
 induction h with
 |nil=>exact .nil
 |cons r _ ih=>
  obtain⟨t,rfl,e⟩:=r;exact .cons (cJ.tup e (.cons (cJ.str 0 _) (.cons (cJ.str 0 _) .nil))) ih
theorem zfH{ps:List (Str×Str)}(h: ∀p∈ps,Nm p.1/\Nm p.2)(hl:ps.length<=100):Sm 8 1048576 (prD ps):=by
 refine(Sm.list (n:=1) (w:=402) (m:=80000) (λd hd=> ?_) (by rw[aW];omega)).mono (by decide) (by decide)
 obtain⟨p,hp,rfl⟩:=List.mem_map.mp hd
 exact Sm.tuple (n:=0) (w:=200) (zrT (uO (h p hp).1) (uO (h p hp).2)) (show 2 * (200+1)<=402 by decide)
theorem zjc{ls:List Str}(h:Bd ls)(fr:Nat->Nat->Bool): ∀p∈lN ls fr ls.length,Nm p.1/\Nm p.2:=by
 intro p hp
 unfold lN at hp
 obtain⟨a,ha,hp⟩:=List.mem_flatMap.mp hp
 unfold rV at hp
 obtain⟨d,hd,rfl⟩:=List.mem_map.mp hp
 have h1:=List.mem_range.mp ha
 have h2:=List.mem_range.mp (List.mem_filter.mp hd).1
 have e1:=List.getElem?_eq_getElem h1
 have e2:=List.getElem?_eq_getElem (show a+1+d<ls.length by omega)
 show Nm (ls.getD a "")/\Nm (ls.getD (a+1+d) "")
 rw[KKL.getD_at e1,KKL.getD_at e2]
 exact⟨h _ (List.getElem_mem _),h _ (List.getElem_mem _)⟩
end
end KK
namespace L2
open PySem PySem.Spec PyProof.Rows
theorem zrY{t1 t2 t3 t4 t5 t6 t7 t8 t9:TS}{D:fH}{σ:St}{H:Hp}{i:Nat}{v:V}(h:let D0:fH:=D;let σ0:St:=σ.set i (some v);let U9:TS:=t9;let U8:TS:=bM t8 U9;let U7:TS:=bM t7 U8;let U6:TS:=bM t6 U7;let U5:TS:=bM t5 U6;let U4:TS:=bM t4 U5;let U3:TS:=bM t3 U4;let U2:TS:=bM t2 U3;bM t1 U2 D0 σ0 H):bA i v σ H λσ2 H2=>(bM t1 (bM t2 (bM t3 (bM t4 (bM t5 (bM t6 (bM t7 (bM t8 t9)))))))) D σ2 H2:=h
end L2
namespace KK
open PySem L2 PyProof.Rows KKM KKL
section
variable {P:Program}{w:World}{K:W.Frag}{mg:Str->Option Value}{base:Heap}{f g g2 g3 g4 g5 g6 g7 g8 g9 ga:Addr}{fd gd vO gd3 xL gd5 gd6 gd7 gd8 gd9 gda gdb:FuncData}{k:Nat}{C CT CB CG M ft pt:Addr}{ftd:FuncData}
theorem zgv:bS ["_law_script","_law_k","_law_flow_here","_law_rows","_law_letters","_law_table","_law_good","_law_made","_law_due","_law_one","_law_other","_law_machine_here","_law_as_made","_law_turn","_law_found"] ["_law_script"] (aE rB):=(.of rfl rfl rfl rfl (by decide+kernel))
set_option maxHeartbeats 40000000 in
noncomputable def zlO (B:Bt mg) (dY:Fn P w K mg base (k+1) "_law_flow" ["_law_script","_law_k"] (tR K) g gd) (aN:Fn P w K mg base (k+1) "_law_draw" ["_law_flow_here","_law_many"] cO g2 vO) (cI:Fn P w K mg base (k+1) "_law_names" ["_law_flow_here","_law_many"] mS g3 gd3) (fY:Fn P w K mg base (k+1) "_law_machine" ["_law_flow_here","_law_many","_law_letters"] zbP g4 xL) (iE:Fn P w K mg base (k+1) "_law_blown" ["_law_flow_here","_law_table","_law_good","_law_more"] yT g5 gd5) (gR:Fn P w K mg base (k+1) "_law_houses" ["_law_flow_here","_law_count"] zaJ g6 gd6) (jG:Fn P w K mg base (k+1) "_law_calm" ["_law_script","_law_first","_law_rows","_law_most"] (zaA K) g7 gd7) (jI:Fn P w K mg base (k+1) "_law_line" ["_law_flow_here"] zaz g8 gd8) (iY:Fn P w K mg base (k+1) "_law_free" ["_law_table","_law_good","_law_one","_law_other"] zB g9 gd9) (G_free_pairs:Fn P w K mg base (k+1) "free_pairs" ["machine"] (zJ C pt) ga gda) (M_Machine:zaj P w K mg base k C CT gdb) {cdv:Value} {A:Around} {outer:List Env} {s:Shared} {H:Hp} {E:XK} (nd:List.Nodup (["_law_script","_law_k","_law_flow_here","_law_rows","_law_letters","_law_table","_law_good","_law_made","_law_due","_law_one","_law_other","_law_machine_here","_law_as_made","_law_turn","_law_found"]:List Str)) (hr:eV (k+1) (A.deeper (envOfC "law" (aE rB) s.heap.objs.size f cdv))):
 {t:TS // vS (dM fV P w K mg base ["_law_script","_law_k","_law_flow_here","_law_rows","_law_letters","_law_table","_law_good","_law_made","_law_due","_law_one","_law_other","_law_machine_here","_law_as_made","_law_turn","_law_found"] "law" (aE rB) f cdv A outer s H E).nox (cU rB) t}:=
 ⟨_,(aD (cM PassesOwn.never rfl (zdO rfl B.range_ (aA aH (aA (aU eK aH (aY (zdM rfl) rfl B.max_ (by decide+kernel) (aA aH (aA (aY (zdx rfl) rfl B.min_ (by decide+kernel) (aA aH (aA (aY aV rfl B.len_ PySem.boot_len (aA (pv 0) aC)) aC))) aC)))) (aA aH aC)))) (aK (i:=1) nd rfl (Or.inl rfl)) (aD (aM (i:=2) nd rfl (Or.inl rfl) (gG dY hr rfl (aA (pv 0) (aA (aU pK (pv 1) aH) aC)))) (aD (eL (cF lY (gG aN hr rfl (aA (pv 2) (aA aH aC))) aH (dI _)) (aD (aM (i:=3) nd rfl (Or.inl rfl) (gG gR hr rfl (aA (pv 2) (aA (aU bY aH (gG aN hr rfl (aA (pv 2) (aA aH aC)))) aC)))) (aD (kN (i:=4) nd rfl (Or.inl rfl) (g:=(zkd K 2 (sZ (bA 0) (sZ (bA 1) zjM)))) (tc:=cK) (te:=(aL 0)) (own:=["_law_letter","_law_desks_here"]) (fr:=([]:List Str)) (idx:=[]) rfl (by show aP _ _ _ (aE rB);exact(.of rfl (by decide+kernel))) (cE (pv 3)) (λ_ _ _ _ _=>(iO rfl (bX (aK (i:=0) (by show List.Nodup (["_law_letter","_law_desks_here"]:List Str);decide+kernel) rfl (Or.inl rfl) (Or.inr rfl)) (bX (aK (i:=1) (by show List.Nodup (["_law_letter","_law_desks_here"]:List Str);decide+kernel) rfl (Or.inl rfl) (Or.inr rfl)) fO)))) (λ_ _ _ _ _=>cB) (λ_ _ _ _ _=>(pv 0)) rfl (cA rfl)) (aJ (lC (gG jG hr rfl (aA (pv 0) (aA (aU bY aH (pv 1)) (aA (pv 3) (aA aH aC))))) (iO rfl (bX (aK (i:=5) nd rfl (Or.inl rfl)) (bX (aK (i:=6) nd rfl (Or.inl rfl)) fO))))))) (aD (aM (i:=4) nd rfl (Or.inl rfl) (gG cI hr rfl (aA (pv 2) (aA (aU bY aH (gG aN hr rfl (aA (pv 2) (aA aH aC)))) aC)))) (aJ (lC (gG fY hr rfl (aA (pv 2) (aA (aU bY aH (gG aN hr rfl (aA (pv 2) (aA aH aC)))) (aA (pv 4) aC)))) (iO rfl (bX (aK (i:=5) nd rfl (Or.inl rfl)) (bX (aK (i:=6) nd rfl (Or.inl rfl)) fO))))))) (aD (eL (cF lY (gG aN hr rfl (aA (pv 2) (aA aH aC))) aH (dI _)) (aD (aM (i:=7) nd rfl (Or.inl rfl) (bF fX (gG jI hr rfl (aA (pv 2) aC)) aH (λ_ _=>rfl))) (aJ (zjT (i:=4) (j:=5) (l:=6) rfl nd rfl rfl rfl (by decide) (by decide) (by decide) rfl rfl rfl (aA (cD (g:=(zkd K 2 (sZ (bA 0) (sZ (bA 1) zjM)))) (tc:=cK) (te:=(aL 0)) (own:=["_law_letter","_law_desks_here"]) (fr:=([]:List Str)) (idx:=[]) rfl (by show aP _ _ _ (aE rB);exact(.of rfl (by decide+kernel))) (cE (bF fX (pv 7) aH (λ_ _=>rfl))) (λ_ _ _ _ _=>(iO rfl (bX (aK (i:=0) (by show List.Nodup (["_law_letter","_law_desks_here"]:List Str);decide+kernel) rfl (Or.inl rfl) (Or.inr rfl)) (bX (aK (i:=1) (by show List.Nodup (["_law_letter","_law_desks_here"]:List Str);decide+kernel) rfl (Or.inl rfl) (Or.inr rfl)) fO)))) (λ_ _ _ _ _=>cB) (λ_ _ _ _ _=>(pv 0)) rfl (cA rfl)) (aA (bF fX (pv 7) aH (λ_ _=>rfl)) (aA (bF fX (pv 7) aH (λ_ _=>rfl)) aC))) rfl))) (aJ (lC (gG iE hr rfl (aA (pv 2) (aA (pv 5) (aA (pv 6) (aA (gG aN hr rfl (aA (pv 2) (aA aH aC))) aC))))) (iO rfl (bX (aK (i:=5) nd rfl (Or.inl rfl)) (bX (aK (i:=6) nd rfl (Or.inl rfl)) fO)))))) (aD (aM (i:=8) nd rfl (Or.inl rfl) (bV aC)) (aD (cM PassesOwn.never rfl (bU rfl B.range_ (aA (aY aV rfl B.len_ PySem.boot_len (aA (pv 4) aC)) aC)) (aK (i:=9) nd rfl (Or.inl rfl)) (aJ (cM PassesOwn.never rfl (wX rfl B.range_ (aA (aU bY (pv 9) aH) (aA (aY aV rfl B.len_ PySem.boot_len (aA (pv 4) aC)) aC))) (aK (i:=10) nd rfl (Or.inl rfl)) (aJ (eL (zbQ (gG iY hr rfl (aA (pv 5) (aA (pv 6) (aA (pv 9) (aA (pv 10) aC))))) (λ_=>rfl)) (aJ (cV (fE PySem.F.plainAttrs_list PySem.F.slot_list_append PySem.F.type_list_append cS (pv 8) (aA (eP (aA (bF aR (pv 4) (pv 9) (λ_ _=>rfl)) (aA (bF aR (pv 4) (pv 10) (λ_ _=>rfl)) aC))) aC)))) cQ))))) (aD (aM (i:=11) nd rfl (Or.inl rfl) (zda M_Machine.mak M_Machine.ok hr rfl M_Machine.at_ M_Machine.bn .nil lK (aA (pv 4) (aA (pv 5) (aA (pv 6) aC))))) (aD (aM (i:=12) nd rfl (Or.inl rfl) (aY (mY hr.gd hr.units) rfl B.repr_ (by decide+kernel) (aA (eP (aA (fG (pv 11) rfl) (aA (fG (pv 11) rfl) (aA (fG (pv 11) rfl) aC)))) aC))) (aD (cM PassesOwn.never rfl (bU rfl B.range_ (aA aH aC)) (aK (i:=13) nd rfl (Or.inl rfl)) (aD (aM (i:=14) nd rfl (Or.inl rfl) (gG G_free_pairs hr rfl (aA (pv 11) aC))) (aD (eL (cF zhR (aY (mY hr.gd hr.units) rfl B.repr_ (by decide+kernel) (aA (pv 14) aC)) (aY (mY hr.gd hr.units) rfl B.repr_ (by decide+kernel) (aA (pv 8) aC)) (dI _)) (aJ (cH zae)) cQ) (aJ (cV (fE PySem.F.plainAttrs_list PySem.F.slot_list_append PySem.F.type_list_append cS (pv 14) (aA (eP (aA qO (aA qO aC))) aC))))))) (aJ (eL (cF zhR (aY (mY hr.gd hr.units) rfl B.repr_ (by decide+kernel) (aA (eP (aA (fG (pv 11) rfl) (aA (fG (pv 11) rfl) (aA (fG (pv 11) rfl) aC)))) aC)) (pv 12) (dI _)) (aJ (cH zae)) cQ))))))))))) (aJ (cH zae)))⟩
end
section
variable {P:Program}{w:World}{K:W.Frag}{mg:Str->Option Value}{base:Heap}{f g g2 g3 g4 g5 g6 g7 g8 g9 ga:Addr}{fd gd vO gd3 xL gd5 gd6 gd7 gd8 gd9 gda gdb:FuncData}{k:Nat}{C CT CB CG M ft pt:Addr}{ftd:FuncData}
def zcl(K:W.Frag)(pt:Addr):Sp:= λvs H Q _=> ∃(a:Addr) (ns:List Int),vs=[.ref a]/\bB K H a (ns.map V.int)/\ns.length<=63/\iI H pt/\ ∀H',Q (.bl true) H'
set_option maxHeartbeats 40000000 in
theorem zmB(F:lH K "law" "law" rB f fd)(B:Bt mg)(dY:Fn P w K mg base (k+1) "_law_flow" ["_law_script","_law_k"] (tR K) g gd)(aN:Fn P w K mg base (k+1) "_law_draw" ["_law_flow_here","_law_many"] cO g2 vO)(cI:Fn P w K mg base (k+1) "_law_names" ["_law_flow_here","_law_many"] mS g3 gd3)(fY:Fn P w K mg base (k+1) "_law_machine" ["_law_flow_here","_law_many","_law_letters"] zbP g4 xL)(iE:Fn P w K mg base (k+1) "_law_blown" ["_law_flow_here","_law_table","_law_good","_law_more"] yT g5 gd5)(gR:Fn P w K mg base (k+1) "_law_houses" ["_law_flow_here","_law_count"] zaJ g6 gd6)(jG:Fn P w K mg base (k+1) "_law_calm" ["_law_script","_law_first","_law_rows","_law_most"] (zaA K) g7 gd7)(jI:Fn P w K mg base (k+1) "_law_line" ["_law_flow_here"] zaz g8 gd8)(iY:Fn P w K mg base (k+1) "_law_free" ["_law_table","_law_good","_law_one","_law_other"] zB g9 gd9)(G_free_pairs:Fn P w K mg base (k+1) "free_pairs" ["machine"] (zJ C pt) ga gda)(M_Machine:zaj P w K mg base k C CT gdb):dG P w K mg base fV (k+2) f fd ["_law_script"] (zcl K pt):=by
 refine F.ok zgv (λvs H Q E h=> ?_) (λcdv A outer s H vs Q E hr h=> ?_)
 . obtain⟨a,ns,rfl,_⟩:=h;rfl
 obtain⟨z,ns,rfl,hS,h63,hpt,q⟩:=h
 have nd:=zgv.nd
 have S:=M_Machine.mo
 refine⟨(zlO (P:=P) (w:=w) (base:=base) B dY aN cI fY iE gR jG jI iY G_free_pairs M_Machine nd hr).1,(zlO (P:=P) (w:=w) (base:=base) B dY aN cI fY iE gR jG jI iY G_free_pairs M_Machine nd hr).2,?_⟩
 unfold zlO
 try dsimp only[dM,Cx.nox,Cx.wish]
 refine m8 ?_
 intro D0 σ0 U2
 obtain⟨N,eN,N3⟩: ∃N:Nat,(8:Int) * (if(if((ns.map V.int).length:Int)<3 then((ns.map V.int).length:Int)else 3)>1 then(if((ns.map V.int).length:Int)<3 then((ns.map V.int).length:Int)else 3)else 1)=0+(N:Int) * 8/\N<=3:=by
  refine⟨(if(if((ns.map V.int).length:Int)<3 then((ns.map V.int).length:Int)else 3)>1 then(if((ns.map V.int).length:Int)<3 then((ns.map V.int).length:Int)else 3)else 1).toNat,?_,?_⟩<;>(split<;>split<;>omega)
 refine⟨_,rfl,z,_,rfl,.inl hS,3,_,rfl,1,_,rfl,_,_,rfl,rfl,.inl ⟨by decide,by decide⟩,0,N,congrArg (λv=>[V.int 0,V.int v,V.int 8]) eN,⟨by decide,by decide,by omega⟩,?_⟩
 refine zqn (λi σ H'=> ∃v1 v2 v3 v4 v5 v6 v7 v8 v9 pW v11 v12 xG xA:Option V,σ=[some (.ref z),v1,v2,v3,v4,v5,v6,v7,v8,v9,pW,v11,v12,xG,xA]/\bB K H' z (ns.map V.int)/\iI H' pt) ?_ ?_ ?_
 . exact⟨_,_,_,_,_,_,_,_,_,_,_,_,_,_,rfl,hS,hpt⟩
 . rintro i σ H0 hi ⟨v1,v2,v3,v4,v5,v6,v7,v8,v9,pW,v11,v12,xG,xA,rfl,hS0,hp0⟩;refine zrY ?_;intro D1 σ1 W9 W8 W7 W6 W5 W4 W3 W2;have tail: ∀(v3 v7:Option V) (l T G:Addr) (us:List Addr) (ls:List Str) (cs:eG) (H6:Hp),nC H6 T G us cs ls.length->1<=ls.length->ls.length<=6->Bd ls->ls.Nodup->cs.length<=40->Same H0 H6->H6 l=some (.lst (ls.map V.str))-> ∀a:Addr,W4 D1 [some (.ref z),some (.int (0+(i:Int) * 8)),some (.ref a),v3,some (.ref l),some (.ref T),some (.ref G),v7,v8,v9,pW,v11,v12,xG,xA] H6:= λv3 v7 l T G us ls cs H6 M6 l1 l6 b6 n6 c40 y6 hl6 a=>by
    have W:=M6.wc;have hq:ls.length * ls.length<=6 * 6:=Nat.mul_le_mul l6 l6;refine⟨cL 0,λdue zqj=> ?_⟩;obtain⟨H7,e0,x7,k7⟩:=cT zqj (.lst []);rw[e0];refine⟨_,rfl,l,_,rfl,.inl (bB.of (x7 _ _ hl6)),_,rfl,by rw[aW];omega,by rw[aW];omega,?_⟩;rw[show(((ls.map V.str).length:Nat):Int).toNat=ls.length by rw[aW];omega];refine eO (λj σ H'=> ∃(vs:List V) (v9 pW:Option V),σ=[some (.ref z),some (.int (0+(i:Int) * 8)),some (.ref a),v3,some (.ref l),some (.ref T),some (.ref G),v7,some (.ref due),v9,pW,v11,v12,xG,xA]/\Same H6 H'/\H' due=some (.lst vs)/\Paired (Pr2 H') vs (lN ls (tM ls.length cs) j)) ?_ ?_ ?_
    . exact⟨[],v9,pW,rfl,x7,k7,.nil⟩
    . rintro p σ H8 hp ⟨vs,v9,pW,rfl,y8,h8,P8⟩;rw[Int.zero_add];refine⟨_,rfl,_,_,rfl,rfl,_,rfl,l,_,rfl,.inl (bB.of (y8 _ _ hl6)),_,_,rfl,by rw[aW];omega,?_⟩;rw[show((((ls.map V.str).length:Nat):Int) - ((p:Int)+1)).toNat=ls.length - (p+1) by rw[aW];omega];refine eO (λj σ H'=> ∃(vs:List V) (pW:Option V),σ=[some (.ref z),some (.int (0+(i:Int) * 8)),some (.ref a),v3,some (.ref l),some (.ref T),some (.ref G),v7,some (.ref due),some (.int (p:Int)),pW,v11,v12,xG,xA]/\Same H6 H'/\H' due=some (.lst vs)/\Paired (Pr2 H') vs (lN ls (tM ls.length cs) p++rV ls (tM ls.length cs) p j)) ?_ ?_ ?_
      . refine⟨vs,pW,rfl,y8,h8,?_⟩;show Paired _ _ (_++[]);rw[List.append_nil];exact P8
      . rintro j σ H9 hj ⟨vs,pW,rfl,y9,h9,P9⟩;have eb:((p:Int)+1+(j:Int))=((p+1+j:Nat):Int):=by omega
        rw[eb];have hb:p+1+j<ls.length:=by omega
        refine⟨_,rfl,_,rfl,_,rfl,_,rfl,T,G,us,cs,ls.length,p,p+1+j,rfl,M6.same y9,l1,by omega,by omega,hp,hb,λr H10 x10 zws=> ?_⟩;have er:r=tM ls.length cs p (p+1+j):=zfU zws;have y10:=y9.trans x10;have P10:Paired (Pr2 H10) vs (lN ls (tM ls.length cs) p++rV ls (tM ls.length cs) p j):=Paired.mapP P9 λ_ _ z=>z.keep λb xs e=>x10 _ _ e;refine⟨r,rfl,?_⟩;cases hrr:r with
        |false=>
         refine pD ?_;refine⟨vs,_,rfl,y10,x10 _ _ h9,?_⟩;rw[mW,<-er,hrr,if_neg Bool.false_ne_true,List.append_nil];exact P10
        |true=>
         refine vN ?_;have la:=List.getElem?_eq_getElem hp;have lb:=List.getElem?_eq_getElem hb;refine⟨_,rfl,.inl ⟨rfl,_,bB.of (x10 _ _ h9)⟩,_,rfl,_,rfl,l,_,_,_,rfl,rfl,bB.of (y10 _ _ hl6),bD (by rw[List.getElem?_map,la];rfl),_,rfl,_,rfl,l,_,_,_,rfl,rfl,bB.of (y10 _ _ hl6),bD (by rw[List.getElem?_map,lb];rfl),cL 2,λt ht=> ?_⟩;obtain⟨H11,e0,x11,k11⟩:=cT ht (.tup [.str ls[p],.str ls[p+1+j]]);rw[e0];have h11:=x11 _ _ (x10 _ _ h9);have ll:=Paired.length P10;rw[List.length_append]at ll;have a1:=pP ls (tM ls.length cs) p;have a2:=sH ls (tM ls.length cs) p j;have a3:p * ls.length<=6 * 6:=Nat.mul_le_mul (by omega) l6;refine⟨due,_,_,rfl,rfl,h11,gI (by omega),?_⟩;have tk:TKp H11 (aO H11 due (.lst (vs++[.ref t]))):= λb xs e=>by rw[aG (dO e h11 (λz=>nomatch z))];exact e
         refine⟨vs++[.ref t],_,rfl,(y10.trans x11).at zqj,aF,?_⟩;rw[mW,<-er,hrr,if_pos rfl,<-List.append_assoc];refine cZ (Paired.mapP P10 λ_ _ z=>(z.keep λb xs e=>x11 _ _ e).keep tk) (.cons ⟨t,rfl,?_⟩ .nil);rw[KKL.getD_at la,KKL.getD_at lb];exact tk _ _ k11
      . rintro σ H9 ⟨vs,pW,rfl,y9,h9,P9⟩;rw[<-qP]at P9;exact⟨vs,_,_,rfl,y9,h9,P9⟩
    rintro σ H8 ⟨vs,v9,pW,rfl,y8,h8,P8⟩;have M8:=M6.same y8;have hl8:=y8 _ _ hl6;refine⟨_,rfl,_,rfl,_,rfl,λx dx hx hdx ndx=>made (C:=C) (cs:=cs) (us:=us) (E:=E0) (Q:= λx H2=>bA 11 (.ref x) [some (.ref z),some (.int (0+(i:Int) * 8)),some (.ref a),v3,some (.ref l),some (.ref T),some (.ref G),v7,some (.ref due),v9,pW,v11,v12,xG,xA] H2 (W7 D1)) (gs:=mR cs cs.length) hl8 M8.hT M8.hG (Nat.lt_of_le_of_lt (zE _ _) (by omega)) (λ_=>Iff.rfl) n6 W (by omega) (λx H9 hx0 hMo x9=> ?_) x dx hx hdx ndx⟩;obtain⟨dx',tl,tt,tg,us1,m1,m2,m3,m4,m5⟩:=hMo;refine⟨_,rfl,x,C,dx',_,_,rfl,m1,S.cls,S.n1,rfl,_,rfl,x,C,dx',_,_,rfl,m1,S.cls,S.n2,rfl,_,rfl,x,C,dx',_,_,rfl,m1,S.cls,S.n3,rfl,cL 3,λtm htm=> ?_⟩;obtain⟨H10,e0,x10,k10⟩:=cT htm (.tup [.ref tl,.ref tt,.ref tg]);rw[e0];have MM:MoS C H10 x ls cs:=rX.same ⟨dx',tl,tt,tg,us1,m1,m2,m3,m4,m5⟩ x10;refine⟨tm,3,zX ls cs,rfl,vX (m2.same x10) (x10 _ _ m3) (Paired.mapP m4 λ_ _ z=>x10 _ _ z) (x10 _ _ m5) k10,uX b6 l6 W (by omega),?_⟩;have y10:=x9.trans x10;have w10:=(y6.trans y8).trans y10;have p10:=hp0.same w10;obtain⟨zDd,e10⟩:=p10.some;have d10:=y10 _ _ h8;have P10:Paired (Pr2 H10) vs (lN ls (tM ls.length cs) ls.length):=Paired.mapP P8 λ_ _ z=>z.keep λb xs e=>y10 _ _ e;have la:(lN ls (tM ls.length cs) ls.length).length<=36:=Nat.le_trans (pP ..) hq;have smD:Sm 8 1048576 (prD (lN ls (tM ls.length cs) ls.length)):=zfH (zjc b6 _) (by omega);refine⟨2,rfl,by decide,by decide,?_⟩;refine eO (λj σ H'=> ∃xG xA:Option V,σ=[some (.ref z),some (.int (0+(i:Int) * 8)),some (.ref a),v3,some (.ref l),some (.ref T),some (.ref G),v7,some (.ref due),v9,pW,some (.ref x),some (.str (zX ls cs).shown),xG,xA]/\rR pt H10 H'/\iI H' pt) ?_ ?_ ?_
    . exact⟨xG,xA,rfl,λ_ _ _ e=>e,p10⟩
    . rintro j σ H11 hj ⟨xG,xA,rfl,b11,p11⟩;have M11:=rR.mo b11 e10 MM;refine⟨_,rfl,x,ls,cs,rfl,M11,W,n6,by omega,by omega,p11,λfnd fs H12 b12 p12 h12 f0 P12=> ?_⟩;have bb:=b11.trans b12;have d12:=bb.lst e10 d10;have Pd:Paired (Pr2 H12) vs (lN ls (tM ls.length cs) ls.length):=Paired.mapP P10 λ_ _ z=>z.keep λb xs e=>bb b _ (dO e e10 (λz=>nomatch z)) e;refine⟨_,rfl,fnd,2,_,rfl,zcg h12 P12,smD,_,rfl,due,2,_,rfl,zcg d12 Pd,smD,rfl,false,congrArg V.bl (by rw[decide_eq_true rfl];rfl),pD ?_⟩;have lf:=Paired.length P12;refine⟨_,rfl,.inl ⟨rfl,_,bB.of h12⟩,cL 2,λt ht=> ?_⟩;have x13:Same H12 (aO H12 t (.tup [.str "a",.str "a"])):=aQ ht;refine⟨fnd,_,_,rfl,rfl,x13 _ _ h12,gI (by omega),?_⟩;exact⟨_,_,rfl,rR.put b11 f0 (b12.trans (Same.but x13)),ziU (p12.same x13) (x13 _ _ h12)⟩
    rintro σ H11 ⟨xG,xA,rfl,b11,p11⟩;obtain⟨ex,al,at',ag,xQ,n1,n2,n3,n4,n5⟩:=rR.mo b11 e10 MM;refine⟨_,rfl,x,C,ex,_,_,rfl,n1,S.cls,S.n1,rfl,_,rfl,x,C,ex,_,_,rfl,n1,S.cls,S.n2,rfl,_,rfl,x,C,ex,_,_,rfl,n1,S.cls,S.n3,rfl,cL 3,λtn htn=> ?_⟩;obtain⟨H12,e0,x12,k12⟩:=cT htn (.tup [.ref al,.ref at',.ref ag]);rw[e0];refine⟨tn,3,zX ls cs,rfl,vX (n2.same x12) (x12 _ _ n3) (Paired.mapP n4 λ_ _ z=>x12 _ _ z) (x12 _ _ n5) k12,uX b6 l6 W (by omega),?_⟩;refine⟨_,rfl,rfl,false,congrArg V.bl (by rw[decide_eq_true rfl];rfl),pD ?_⟩;exact⟨_,_,_,_,_,_,_,_,_,_,_,_,_,_,rfl,x12.seq (rR.seq (K:=K) b11 e10 (w10.seq hS0)),p11.same x12⟩
   refine⟨_,rfl,_,rfl,_,_,rfl,rfl,⟨by decide,by decide⟩,z,ns,_,rfl,hS0,h63,by omega,by omega,λa o2 ha hF=> ?_⟩;obtain⟨H1,e0,x1,-⟩:=cT ha o2;rw[e0]at hF ⊢;have mid: ∀(v3:Option V) (l T G:Addr) (us:List Addr) (ls:List Str) (cs:eG) (H6:Hp),nC H6 T G us cs ls.length->a∉T::G::us->l≠a->1<=ls.length->ls.length<=6->Bd ls->ls.Nodup->cs.length<=24->aZ H6 a->Same H0 H6->H6 l=some (.lst (ls.map V.str))->W3 D1 [some (.ref z),some (.int (0+(i:Int) * 8)),some (.ref a),v3,some (.ref l),some (.ref T),some (.ref G),v7,v8,v9,pW,v11,v12,xG,xA] H6:= λv3 l T G us ls cs H6 M6 na nl l1 l6 b6 n6 c24 f6 y6 hl6=>by
    refine⟨_,rfl,a,4,rfl,f6,by decide,by decide,λr7 H7 r70 r71 f7 x7=>⟨rfl,_,rfl,?_⟩⟩;have y7:=eU y6 ha x7;refine iX (λ_=> ?_) (λ_=> ?_)
    . refine⟨_,rfl,a,rfl,f7,λt Fd R T' G' sI ts us' ls' cs' far H8 k1 k2 k3 P8 e4 n8 b8 M8 c8 fr8 f8 x8=>⟨t,_,_,_,rfl,rfl,eS.of k1,rfl,?_⟩⟩;refine⟨_,rfl,Fd,_,_,_,rfl,rfl,eS.of k2,rfl,R,rfl,⟨_,bB.of k3⟩,λD hD=>m7 (K:=K) (by omega) hD k3 P8 λH9 x9 h9=> ?_⟩;refine⟨_,rfl,Fd,_,_,_,rfl,rfl,eS.of (x9 _ _ k2),rfl,_,rfl,Fd,_,_,_,rfl,rfl,eS.of (x9 _ _ k2),rfl,_,_,_,rfl,?_⟩;exact tail v3 (some (.ref Fd)) D T' G' us' ls' cs' H9 (by rw[e4];exact M8.same x9) (by omega) (by omega) b8 n8 (by omega) ((eU y7 ha x8).trans x9) h9 a
    . refine⟨_,rfl,_,rfl,_,rfl,_,rfl,a,5,rfl,f7,by decide,by decide,λr8 H8 r80 r81 f8 x8=> ?_⟩;obtain⟨more,rfl⟩:=Int.eq_ofNat_of_zero_le r80;have y8:=eU y7 ha x8;have M8:=(M6.ext x7 na).ext x8 na;refine⟨a,T,G,us,cs,ls.length,more,rfl,f8,M8,na,by omega,c24,by omega,λp9 T' G' us' ds H9 ⟨hds,ow,hbl⟩ M9 fr9 f9 x9 h9=> ?_⟩;refine⟨p9,_,rfl,eS.of h9,rfl,_,_,rfl,_,_,rfl,rfl,?_⟩;exact tail v3 v7 l T' G' us' ls ds H9 M9 l1 l6 b6 n6 (by omega) (eU y8 ha x9) (x9 _ _ nl (x8 _ _ nl (x7 _ _ nl hl6))) a
   refine⟨_,rfl,a,2,rfl,hF,by decide,by decide,λr2 H2 r20 r21 f2 x2=>⟨rfl,_,rfl,?_⟩⟩;have y2:=eU x1 ha x2;refine iX (λ_=> ?_) (λ_=> ?_)
   . refine⟨_,rfl,_,rfl,a,2,rfl,f2,by decide,by decide,λr3 H3 r30 r31 f3 x3=>⟨_,_,rfl,rfl,a,_,rfl,f3,by omega,by omega,λL rs H4 xL nL L0 f4 x4 R4=> ?_⟩⟩;have y4:=eU (eU y2 ha x3) ha x4;obtain⟨ts,hL4,hR4⟩:=id R4;have gl:=xL.len;refine⟨_,rfl,L,rfl,⟨_,bB.of hL4⟩,λD hD=>m7 (K:=K) (by rw[aW];omega) hD hL4 (zjj hR4) λH5 x5 h5=> ?_⟩;have y5:=y4.trans x5;refine⟨_,rfl,_,rfl,_,_,rfl,rfl,_,rfl,z,L,ns,rs,_,rfl,y5.seq hS0,h63,by omega,by omega,R4.same x5,xL,λt T G us cs H6 x6 h6 M6 c4 fr6=> ?_⟩;refine⟨t,_,rfl,eS.of h6,rfl,_,_,rfl,_,_,rfl,rfl,?_⟩;have f6:=Same.flow x6 (Same.flow x5 f4);have r1:1<=rs.length:=by
      cases e:rs with
      |nil=>exact absurd e xL.ne
      |cons _ _=>exact Nat.succ_le_succ (Nat.zero_le _)
     exact mid (some (.ref L)) D T G us (rs.map (·.1)) cs H6 (by rw[aW];exact M6) (λhm=>bJ (fr6 a hm) (Same.flow x5 f4) rfl) (bJ hD f4) (by rw[aW];exact r1) (by rw[aW];exact gl) xL.nm xL.nd (by omega) f6 (y5.trans x6) (x6 _ _ h5)
   . refine⟨_,rfl,_,rfl,a,5,rfl,f2,by decide,by decide,λr3 H3 r30 r31 f3 x3=>⟨_,_,rfl,rfl,a,_,rfl,f3,by omega,by omega,λl ls H4 e4 b4 n4 nl frl f4 x4 h4=> ?_⟩⟩;have y4:=eU (eU y2 ha x3) ha x4;refine⟨_,rfl,_,rfl,a,4,rfl,f4,by decide,by decide,λr5 H5 r50 r51 f5 x5=>⟨_,_,rfl,rfl,_,rfl,a,l,_,ls,rfl,f5,x5 _ _ nl h4,nl,by omega,by omega,by omega,λp T G us cs H6 hcs M6 fr6 f6 x6 h6=> ?_⟩⟩;refine⟨p,_,rfl,eS.of h6,rfl,_,_,rfl,_,_,rfl,rfl,?_⟩;exact mid v3 l T G us ls cs H6 M6 (λhm=>bJ (fr6 a hm) f5 rfl) nl (by omega) (by omega) b4 n4 (by omega) f6 (eU (eU y4 ha x5) ha x6) (x6 _ _ nl (x5 _ _ nl h4))
 . rintro σ H' ⟨v1,v2,v3,v4,v5,v6,v7,v8,v9,pW,v11,v12,xG,xA,rfl,_⟩;exact q _
end
end KK
namespace KK
open PySem L2 PyProof.Rows
section
variable {P:Program}{w:World}{K:W.Frag}{mg:Str->Option Value}{base:Heap}{f g:Addr}{fd gd:FuncData}{k:Nat}
theorem znF{D q:Addr}{Q:VK}{H1:Hp}{ys:List Str}(hy:ys.length<26)(hD:H1 D=none)(hq:H1 q=some (.lst (ys.map V.str)))
 (hd: ∀(zs:List Str),zs≠ []->nN zs->(∀z∈zs,z∉ys)-> ∀H',(∀b o,H1 b=some o->H' b=some o)->H' D=some (.lst (zs.map V.str))->Q (.ref D) H'):
 bH (Its lQ) D (bA 0) (gU (dW (rIn K true) (aL 0) (aL 1))) (aL 0) Q [none,some (.ref q)] H1:=by
 obtain⟨j0,c0,hj,hc0,jW⟩:=zej hy
 have nqD:q≠D:=aI hq hD
 refine zfV (λi zs σ H=> ∃(xs:List Str) (v:Option V),zs=xs.map V.str/\xs.length<=i/\nN xs/\σ=[v,some (.ref q)]/\(∀z∈xs,z∉ys)/\(j0<i->xs≠ [])/\(∀b o,H1 b=some o->H b=some o)) ?_ (by decide+kernel) ?_ ?_ ?_
 . exact⟨[],none,rfl,Nat.le_refl _,(by intro _ z;cases z),rfl,(by intro _ z;cases z),(by intro z;omega),λb o h=>by rw[aG (aI h hD)];exact h⟩
 . rintro i zs σ H ⟨xs,v,rfl,h,_⟩;rw[aW];exact h
 . rintro i c zs σ H hc hl ⟨xs,v,rfl,hle,hs,rfl,hnm,nR,hk⟩;refine⟨_,rfl,_,rfl,q,_,rfl,.inl (bB.of (hk _ _ hq)),rfl,mT ys,_,rfl,?_⟩;refine iX (λb=> ?_) (λb=> ?_)
   . refine⟨_,rfl,hl,xs++[⟨#[c]⟩],_,by rw[List.map_append];rfl,by rw[List.length_append,List.length_singleton];omega,hs.snoc ⟨rfl,zaQ (List.mem_of_getElem? (by rw[Array.getElem?_toList];exact hc))⟩,rfl,λz hz=> ?_,λ_ z=> ?_,λb o h=> ?_⟩
     . rcases List.mem_append.mp hz with hz|hz
       . exact hnm z hz
       . rw[List.mem_singleton.mp hz];have b2:(!xJ (.str ⟨#[c]⟩) (ys.map V.str))=true:=by simpa using b
         exact mF.mp (by simpa using b2)
     . have e:=congrArg List.length z;rw[List.length_append,List.length_singleton]at e;simp at e
     . rw[aG (aI h hD)];exact hk b o h
   . refine⟨hl,xs,_,rfl,by omega,hs,rfl,hnm,λh=> ?_,hk⟩
     by_cases hi:j0<i
     . exact nR hi
     . have e:i=j0:=by omega
       subst e;have e2:c=c0:=Option.some.inj (hc.symm.trans hc0);rw[<-e2]at jW;exact absurd (show(if true=true then !xJ (.str ⟨#[c]⟩) (ys.map V.str)else xJ (.str ⟨#[c]⟩) (ys.map V.str))=true by rw[if_pos rfl,jW];rfl) b
 . rintro zs σ H hl ⟨xs,v,rfl,_,hs,_,hnm,nR,hk⟩;exact hd xs (nR (Nat.lt_of_lt_of_le hj (by decide+kernel))) hs hnm H hk hl
theorem zbt(x:Str)(lo hi:Option Int):(Txt.slice x lo hi).length<=x.length:=Txt.slice_le x lo hi
theorem zlY{D:Addr}{Q:VK}{H1:Hp}{word:Str}{at' first:Int}{n:Nat}(hw:word.length<=7)(hz0:AZ word)(ha0:0<=at')(ha1:at'<=word.length)(h0:0<=first)(hn:n<=6)(hD:H1 D=none)
 (hd: ∀(zs:List Str) H',zs.length=n->Bd zs->zs.Nodup->(∀b o,H1 b=some o->H' b=some o)->H' D=some (.lst (zs.map V.str))->Q (.ref D) H'):
 bH (vB 0 n) D (bA 0) cK (dW (λx y H Q=> ∃i j,x= .str i/\y= .str j/\i.length+j.length<=sizeLine/\Q (.str (i++j)) H)
  (dW (λx y H Q=> ∃i j,x= .str i/\y= .str j/\i.length+j.length<=sizeLine/\Q (.str (i++j)) H) (tSl zmX (aL 1) yZ (zhZ (aL 2)))
   (dW zof (aL 3) (dW (rI (λ_ j=>0<j) λi j=> .int (i % j)) (dW (rI0 λi j=> .int (i+j)) (aL 4) (dW (rI zgm λi j=> .int (i * j)) (tC (.int 7)) (aL 0))) (tC (.int 26)))))
  (tSl zmX (aL 1) (zhZ (aL 2)) yZ)) Q [none,some (.str word),some (.int at'),some (.str lQ),some (.int first)] H1:=by
 have hz:word.length<=sizeLine:=Nat.le_trans (by omega) lR
 refine cR (λi zs σ H=> ∃(xs:List Str) (v:Option V),zs=xs.map V.str/\xs=(List.range i).map (yC word at' first)/\xs.length=i/\Bd xs/\σ=[v,some (.str word),some (.int at'),some (.str lQ),some (.int first)]/\(∀b o,H1 b=some o->H b=some o)) ?_ (by omega) ?_ ?_ ?_
 . exact⟨[],none,rfl,rfl,rfl,(by intro _ z;cases z),rfl,λb o h=>by rw[aG (aI h hD)];exact h⟩
 . rintro i zs σ H ⟨xs,v,rfl,_,rfl,_⟩;rw[aW];exact Nat.le_refl _
 . rintro i zs σ H hi hl ⟨xs,v,rfl,zmt,rfl,hb,rfl,hk⟩;have hc:=zcZ (Int.emod_nonneg (first+7 * (0+(xs.length:Int))) (show(26:Int)≠0 by decide)) (Int.emod_lt_of_pos _ (by decide));generalize hcc:mI ((first+7 * (0+(xs.length:Int))) % 26)=c at hc;have l1:=zbt word none (some at');have l2:=zbt word (some at') none;have l3:Str.length ⟨#[c]⟩=1:=rfl;have l4:=oW (Txt.slice word none (some at')) ⟨#[c]⟩;have l5:=oW (Txt.slice word none (some at')++⟨#[c]⟩) (Txt.slice word (some at') none);have hs:=lR;refine⟨_,rfl,_,rfl,_,rfl,word,rfl,hz,_,rfl,_,rfl,_,rfl,_,_,rfl,rfl,.inl ⟨by decide,by decide⟩,_,_,rfl,rfl,_,_,rfl,rfl,(show(0:Int)<26 by decide),lQ,_,c,rfl,rfl,zca,hc,_,_,rfl,rfl,by omega,?_⟩;refine⟨_,rfl,_,rfl,_,rfl,word,rfl,hz,_,_,rfl,rfl,by omega,hl,xs++[_],_,by rw[List.map_append];rfl,?fam,by rw[List.length_append];rfl,hb.snoc ?nm,rfl,λb o h=> ?_⟩
   case nm=>
    rw[<-hcc];exact zmj (word:=word) (at':=at') (first:=first) (k:=xs.length) hz0 hw ha0 ha1
   case fam=>
    rw[List.range_succ,List.map_append,<-zmt,<-hcc];rfl
   rw[aG (aI h hD)];exact hk b o h
 . rintro zs σ H hl ⟨xs,v,rfl,zmt,e,hb,_,hk⟩;exact hd xs H e hb (by rw[zmt];exact zdy hn) hk hl
theorem zfK(F:lH K "_law_names" "_law_names" oF f fd)(G:dG P w K mg base fV k g gd ["_law_flow_here","_law_many"] cO)(bG:lJ K gd ["_law_flow_here","_law_many"] [])(kG:W.keepIn K (.ref g)=true)(mG:mg "_law_draw" =some (.ref g))
 (mr:mg "range" =none) (ml:mg "len" =none):dG P w K mg base fV (k+1) f fd ["_law_flow_here","_law_many"] mS:=by
 refine F.ok zcj (λvs H Q E h=> ?_) (λcdv A outer s H vs Q E hr h=> ?_)
 . obtain⟨a,m,rfl,_⟩:=h;rfl
 obtain⟨a,m,rfl,hF,m1,m6,q⟩:=h
 have nd:=zcj.nd
 refine⟨_,aD (aM (i:=2) nd rfl (Or.inr rfl) qO) (aD (eL (cF lY (gP G hr rfl mG kG bG .nil lK (aA (pv 0) (aA aH aC))) aH (dI _))
  (aD (aM (i:=3) nd rfl (Or.inr rfl) (bV aC))
  (aD (cM PassesOwn.never rfl (bU rfl mr (aA (pv 1) aC)) (aK (i:=4) nd rfl (Or.inl rfl))
   (aD (aM (i:=5) nd rfl (Or.inl rfl) (fE PySem.F.plainAttrs_str PySem.F.slot_str_join PySem.F.type_str_join zcS qO (aA
    (cD (own:=["_law_j"]) (fr:=["_law_flow_here","_law_some"]) (idx:=[0,2]) rfl (by show aP _ _ _ (aE oF);exact(.of rfl (by decide+kernel)))
     (bU rfl mr (aA (aU bY aH (gP G hr rfl mG kG bG .nil lK (aA (pv 0) (aA aH aC)))) aC))
     (λ_ _ _ _ _=>aK (i:=0) (by show List.Nodup (["_law_j","_law_flow_here","_law_some"]:List Str);decide+kernel) rfl (Or.inl rfl) (Or.inr rfl)) (λ_ _ _ _ _=>cB)
     (λ_ _ _ _ _=>bF zbS (pv 2) (gP G hr rfl mG kG bG .nil lK (aA (pv 1) (aA aH aC))) (λ_ _=>rfl)) rfl (cA rfl)) aC)))
   (aD (eL (cF jX (pv 5) (pv 3) rfl)
    (aJ (aM (i:=5) nd rfl (Or.inl rfl) (bF aR
     (cD (own:=["_law_one"]) (fr:=["_law_found"]) (idx:=[3]) (tc:=gU (dW (rIn K true) (aL 0) (aL 1))) rfl (by show aP _ _ _ (aE oF);exact(.of rfl (by decide+kernel)))
      (zmK (pv 2)) (λ_ _ _ _ _=>aK (i:=0) (by show List.Nodup (["_law_one","_law_found"]:List Str);decide+kernel) rfl (Or.inl rfl) (Or.inr rfl)) (λ_ _ _ _ _=>jD (cF iG (pv 0) (pv 1) rfl)) (λ_ _ _ _ _=>pv 0) rfl (cA rfl))
     aH (λ_ _=>rfl)))) cQ)
   (aJ (cV (fE PySem.F.plainAttrs_list PySem.F.slot_list_append PySem.F.type_list_append cS (pv 3) (aA (pv 5) aC)))))))
  (aJ (cH (pv 3))))) cQ) (aD (aM (i:=6) nd rfl (Or.inr rfl) (fE PySem.F.plainAttrs_str PySem.F.slot_str_join PySem.F.type_str_join zcS qO (aA
   (cD (own:=["_law_j"]) (fr:=["_law_flow_here","_law_some"]) (idx:=[0,2]) rfl (by show aP _ _ _ (aE oF);exact(.of rfl (by decide+kernel)))
    (bU rfl mr (aA (gP G hr rfl mG kG bG .nil lK (aA (pv 0) (aA aH aC))) aC))
    (λ_ _ _ _ _=>aK (i:=0) (by show List.Nodup (["_law_j","_law_flow_here","_law_some"]:List Str);decide+kernel) rfl (Or.inl rfl) (Or.inr rfl)) (λ_ _ _ _ _=>cB)
    (λ_ _ _ _ _=>bF zbS (pv 2) (gP G hr rfl mG kG bG .nil lK (aA (pv 1) (aA aH aC))) (λ_ _=>rfl)) rfl (cA rfl)) aC))) (aD (aM (i:=7) nd rfl (Or.inr rfl) (gP G hr rfl mG kG bG .nil lK (aA (pv 0) (aA (aU bY (aY pC rfl ml PySem.boot_len (aA (pv 6) aC)) aH) aC)))) (aD (aM (i:=8) nd rfl (Or.inr rfl) (gP G hr rfl mG kG bG .nil lK (aA (pv 0) (aA aH aC)))) (aD (aM (i:=3) nd rfl (Or.inr rfl)
   (cD (own:=["_law_k"]) (fr:=["_law_word","_law_at","_law_some","_law_first"]) (idx:=[6,7,2,8]) rfl (by show aP _ _ _ (aE oF);exact(.of rfl (by decide+kernel)))
    (bU rfl mr (aA (pv 1) aC))
    (λ_ _ _ _ _=>aK (i:=0) (by show List.Nodup (["_law_k","_law_word","_law_at","_law_some","_law_first"]:List Str);decide+kernel) rfl (Or.inl rfl) (Or.inr rfl)) (λ_ _ _ _ _=>cB)
    (λ_ _ _ _ _=>aU oG (aU oG (tP zaS (pv 1) yQ (yU (pv 2))) (bF zbS (pv 3) (aU gZ (aU bY (pv 4) (aU eK aH (pv 0))) aH) (λ_ _=>rfl))) (tP zaS (pv 1) (yU (pv 2)) yQ)) rfl (cA rfl))) (aD (eL (cF lY (gP G hr rfl mG kG bG .nil lK (aA (pv 0) (aA aH aC))) aH (dI _))
  (aD (aM (i:=9) nd rfl (Or.inl rfl) (aU oG (pv 6) (tP zaS qO (yU (aY pC rfl ml PySem.boot_len (aA (pv 6) aC))) yQ)))
  (aJ (eL (cF iG (pv 9) (pv 3) rfl) (aJ (lC (pv 9) (uU (pv 3) aH lX))) cQ))) cQ) (aJ (cH (pv 3))))))))),?_⟩
 have hmN:m.toNat<=6:=by omega
 refine⟨_,rfl,a,3,rfl,hF,by decide,by decide,λr0 H0 _ _ f0 x0=>⟨rfl,_,rfl,?_⟩⟩
 refine iX (λc=> ?_) (λc=> ?_)
 . refine⟨cL 0,λq0 zO=> ?_⟩;have nq:=bJ zO f0;refine⟨_,rfl,m,rfl,by omega,by omega,eO (n:=m.toNat) (λi σ H=> ∃(ys:List Str) (v4 v5 v6 v7 v8 v9:Option V),σ=[some (.ref a),some (.int m),some (.str lQ),some (.ref q0),v4,v5,v6,v7,v8,v9]/\ys.length=i/\Bd ys/\ys.Nodup/\aZ H a/\eR a H0 H/\H q0=some (.lst (ys.map V.str))) ?_ ?_ ?_⟩
   . exact⟨[],_,_,_,_,_,_,rfl,rfl,(by intro _ z;cases z),List.nodup_nil,f0.new zO,eR.new zO,aF⟩
   . rintro i σ H ii ⟨ys,v4,v5,v6,v7,v8,v9,rfl,rfl,hb,sE,fl,xl,hl⟩;refine⟨rfl,_,rfl,a,8,rfl,fl,by decide,by decide,λr1 H1 r10 r11 f1 x1=>⟨_,_,rfl,rfl,_,rfl,by omega,by omega,λD hD=>zcE (by omega) hD f1 λzs H2 e2 s2 f2 x2 d2=> ?_⟩⟩;obtain⟨wl,ws⟩:=e8 s2 (by omega);have l2:H2 q0=some (.lst (ys.map V.str)):=x2 _ _ nq (x1 _ _ nq hl);refine⟨_,D,zs,rfl,rfl,bB.of d2,ws,?_⟩;have step: ∀(nm:Str) (H3:Hp),Nm nm->nm∉ys->aZ H3 a->eR a H0 H3->H3 q0=some (.lst (ys.map V.str))-> ∃v,[some (V.ref a),some (.int m),some (.str lQ),some (.ref q0),some (.int (0+(ys.length:Int))),some (.str nm),v6,v7,v8,v9][3]?=some (some v)/\(tyV K "list" v H3/\ ∃v',[some (V.ref a),some (.int m),some (.str lQ),some (.ref q0),some (.int (0+(ys.length:Int))),some (.str nm),v6,v7,v8,v9][5]?=some (some v')/\zdk v [v'] H3 λ_ H4=>
      ∃(zs:List Str) (v4 v5 v6' v7' v8' v9':Option V),[some (V.ref a),some (.int m),some (.str lQ),some (.ref q0),some (.int (0+(ys.length:Int))),some (.str nm),v6,v7,v8,v9]=[some (.ref a),some (.int m),some (.str lQ),some (.ref q0),v4,v5,v6',v7',v8',v9']/\zs.length=ys.length+1/\Bd zs/\zs.Nodup/\aZ H4 a/\eR a H0 H4/\H4 q0=some (.lst (zs.map V.str))):= λnm H3 hn hni f3 x3 l3=>
      ⟨_,rfl,.inl ⟨rfl,_,bB.of l3⟩,_,rfl,q0,_,_,rfl,rfl,l3,Nat.lt_of_lt_of_le (by rw[aW];omega) lR,ys++[nm],_,_,_,_,_,_,rfl,by rw[List.length_append];rfl,hb.snoc hn,nodup_snoc sE hni,f3.set (Ne.symm nq),zij (H1:=H0) zO x3,by rw[aF,List.map_append];rfl⟩
     refine⟨_,rfl,_,rfl,q0,_,rfl,.inl (bB.of l2),rfl,mT ys,_,rfl,?_⟩;refine iX (λ_=> ?_) (λcc=> ?_)
     . refine⟨_,rfl,lQ,rfl,λD2 lA=>znF (by omega) lA l2 λus une xQ unm H4 k4 d4=> ?_⟩;obtain⟨u,ur,eu⟩:=List.exists_cons_of_ne_nil une;subst eu;refine⟨D2,_,_,_,rfl,rfl,bB.of d4,bD (j:=0) (v:=V.str u) rfl,?_⟩;obtain⟨x,y,z,ef,hz⟩:=f2;exact step u H4 (by have us3:=xQ u List.mem_cons_self;exact⟨by rw[us3.1];decide,by rw[us3.1];decide,us3.2⟩) (unm u List.mem_cons_self) ⟨x,y,z,k4 _ _ ef,hz⟩ (λb o nb vQ=>k4 _ _ ((xl.trans (x1.trans x2)) b o nb vQ)) (k4 _ _ l2)
     . exact step _ H2 ⟨zii s2 (λz=>by rw[z]at e2;have e3:0=_:=e2;omega),by have w1:(Txt.join "" zs).length=zs.length:=(jR s2).1;show(Txt.join "" zs).length<=8;omega,(jR s2).2⟩ (mF.mp (by simpa using cc)) f2 (xl.trans (x1.trans x2)) l2
   . rintro σ H ⟨ys,v4,v5,v6,v7,v8,v9,rfl,e,hb,sE,fl,xl,hl⟩;exact⟨_,rfl,q q0 ys H (by omega) hb sE nq (x0.free f0 zO) fl (x0.trans xl) hl⟩
 . refine⟨rfl,_,rfl,a,8,rfl,f0,by decide,by decide,λr1 H1 r10 r11 f1 x1=>⟨_,rfl,by omega,by omega,λD hD=>zcE (by omega) hD f1 λzs H2 e2 s2 f2 x2 d2=> ?_⟩⟩;obtain⟨wl,ws⟩:=e8 s2 (by omega);refine⟨_,D,zs,rfl,rfl,bB.of d2,ws,?_⟩;have wa:=(jR s2).2;have w7:(Txt.join "" zs).length<=7:=by have w1:=(jR s2).1;omega
   change (Txt.join "" zs).length<=68 at wl
   generalize Txt.join "" zs=word at wl wa w7 ⊢;have wz:word.length<=sizeLine:=Nat.le_trans (by omega) lR;refine⟨_,rfl,_,rfl,_,rfl,wz,_,_,rfl,rfl,a,_,rfl,f2,by omega,by omega,λr3 H3 r30 r31 f3 x3=> ?_⟩;refine⟨_,rfl,a,26,rfl,f3,by decide,by decide,λr4 H4 r40 _ f4 x4=> ?_⟩;refine⟨_,rfl,m,rfl,by omega,by omega,λD2 lA=>zlY w7 wa r30 (by omega) r40 hmN lA λus H5 e5 b5 n5 k5 d5=> ?_⟩;have f5:aZ H5 a:=by
    obtain⟨x,y,z,ef,hz⟩:=f4;exact⟨x,y,z,k5 _ _ ef,hz⟩
   have n2:=bJ lA f4;have fr:H D2=none:=(x0.trans (x1.trans (x2.trans (x3.trans x4)))).free f4 lA;have x5:eR a H H5:= λb o nb hb=>k5 _ _ ((x0.trans (x1.trans (x2.trans (x3.trans x4)))) b o nb hb);refine⟨_,rfl,a,4,rfl,f5,by decide,by decide,λr6 H6 _ _ f6 x6=>⟨rfl,_,rfl,?_⟩⟩;have d6:=x6 _ _ n2 d5;refine iX (λ_=> ?_) (λ_=> ?_)
   . have ll:=zbt "zzzzzzzz" (some (word.length:Int)) none;have l8:Str.length "zzzzzzzz" =8:=by decide
     have la:=oW word (Txt.slice "zzzzzzzz" (some (word.length:Int)) none);have hs:=lR;have zAZ:AZ "zzzzzzzz" :=by intro c hc;revert c;decide+kernel
     have lq:=wI (x:= "zzzzzzzz") (j:=(word.length:Int)) (by omega) (by omega);have lr:=congrArg List.length (tK (x:= "zzzzzzzz") (j:=(word.length:Int)) (by omega) (by omega));rw[<-gX,List.length_take,<-gX]at lr;have lp:0<word.length+(Txt.slice "zzzzzzzz" (some (word.length:Int)) none).length:=by
      rcases Nat.eq_zero_or_pos word.length with h|h
      . rw[h];decide
      . omega
     refine⟨_,rfl,_,rfl,_,rfl,wz,_,rfl,_,rfl,by omega,_,_,rfl,rfl,by omega,?_⟩;refine⟨_,rfl,_,rfl,D2,_,rfl,.inl (bB.of d6),rfl,mT us,_,rfl,?_⟩;refine iX (λcc=> ?_) (λ_=> ?_)
     . refine⟨_,rfl,_,rfl,D2,_,0,0,rfl,rfl,d6,?_,?_⟩
       . unfold ixN;rw[aW,e5,if_pos (by decide),if_pos (by omega)];rfl
       . refine⟨_,rfl,q D2 (us.set 0 (word++Txt.slice "zzzzzzzz" (some (word.length:Int)) none)) _ (by rw[List.length_set];omega) (b5.set ⟨by omega,by omega,zbf wa (zcI zAZ (by omega) (by omega))⟩ 0) (zaN n5 (mF.mp (by simpa using cc))) n2 fr (f6.set (Ne.symm n2)) (λb o nb hb=> ?_) ?_⟩
         . have:=x6 _ _ nb (x5 b o nb hb)
           by_cases hbd:b=D2
           . exfalso
             rw[hbd]at hb;have:=(x0.trans (x1.trans (x2.trans (x3.trans x4)))) _ _ n2 hb;rw[lA]at this;cases this
           . rw[aG hbd];exact this
         . rw[aF,List.map_set]
     . exact⟨_,rfl,q D2 us H6 (by omega) b5 n5 n2 fr f6 (x5.trans x6) d6⟩
   . exact⟨_,rfl,q D2 us H6 (by omega) b5 n5 n2 fr f6 (x5.trans x6) d6⟩
end
theorem us1{α:Type}{C:List α->Prop}(h: ∀a,C [a])(us:List α)(hl:us.length=1):C us:=by
 cases us with
 |nil=>cases hl
 |cons a t=>
  obtain rfl:=List.length_eq_zero_iff.mp (Nat.succ.inj hl);exact h a
theorem xQ{α:Type}{C:List α->Prop}(h: ∀a b,C [a,b])(us:List α)(hl:us.length=2):C us:=by
 cases us with
 |nil=>cases hl
 |cons a t=>exact us1 (C:= λt=>C (a::t)) (h a) t (Nat.succ.inj hl)
theorem us3{α:Type}{C:List α->Prop}(h: ∀a b c,C [a,b,c])(us:List α)(hl:us.length=3):C us:=by
 cases us with
 |nil=>cases hl
 |cons a t=>exact xQ (C:= λt=>C (a::t)) (h a) t (Nat.succ.inj hl)
theorem us4{α:Type}{C:List α->Prop}(h: ∀a b c d,C [a,b,c,d])(us:List α)(hl:us.length=4):C us:=by
 cases us with
 |nil=>cases hl
 |cons a t=>exact us3 (C:= λt=>C (a::t)) (h a) t (Nat.succ.inj hl)
def Df(K:W.Frag)(x:Str)(st:Stmt):Prop:= ∃(f:Addr) (oc:Value) (od an:Option Addr) (sl:Array (Option Value)) (kV dc pm cd ct:Value),PySem.W.nsIn K mainGlobals x=some (some (.ref f))/\K.lookup f=some ⟨oc,od,.func (PySem.W.fnOf x x (eI st) (cU st) (aE st) .none kV dc pm an cd ct),sl⟩/\PySem.W.codeIn K cd x=true/\W.keepIn K (.ref f)=true
theorem Df.mk'{K:W.Frag}{x:Str}{st:Stmt}{f:Addr}{oc:Value}{od an:Option Addr}{sl:Array (Option Value)}{kV dc pm cd ct:Value}(a:PySem.W.nsIn K mainGlobals x=some (some (.ref f)))(l:K.lookup f=some ⟨oc,od,.func (PySem.W.fnOf x x (eI st) (cU st) (aE st) .none kV dc pm an cd ct),sl⟩)(c:PySem.W.codeIn K cd x=true)(k:W.keepIn K (.ref f)=true):Df K x st:=⟨f,oc,od,an,sl,kV,dc,pm,cd,ct,a,l,c,k⟩
theorem Df.get{K:W.Frag}{x:Str}{st:Stmt}{h:Heap}{mg:Str->Option Value}(p:Df K x st)(X:K.In h)(G:h.Ns mainGlobals mg): ∃(f:Addr) (fd:FuncData),lH K x x st f fd/\W.keepIn K (.ref f)=true/\mg x=some (.ref f):=by
 obtain⟨f,oc,od,an,sl,kV,dc,pm,cd,ct,a,l,c,k⟩:=p
 exact⟨f,_,zbR l c k,k,PySem.W.mg_of X G a⟩
theorem zio{K:W.Frag}{x y:Str}{st:Stmt}{f:Addr}{fd:FuncData}(F:lH K x x st f fd)(hb: ∀(kV dc pm:Value) (an:Option Addr) (cd ct:Value) (v:Value),bindArgs (PySem.W.fnOf x x (eI st) (cU st) (aE st) .none kV dc pm an cd ct) ⟨[v],[]⟩=pure [(y,v)])(s:Shared)(v:Value):BindsTo s fd ⟨[v],[]⟩ [(y,v)]:=by
 obtain⟨oc,od,kV,dc,pm,an,cd,ct,sl,rfl,lk,vC⟩:=F.ex
 exact .of_eq (hb kV dc pm an cd ct v)
set_option maxHeartbeats 40000000 in
theorem all_mk{l:W.OpenLaw}{w:World}{K:W.Frag}{h:Heap}{mg:Str->Option Value}{fa:Addr}(X:K.In h)(G:h.Ns mainGlobals mg)(hfa:mg "law" =some (.ref fa)){cc pt:Addr}
 {zgy:Addr} {zmx zlT:Option Addr} {znn:Array (Option Value)} {znN zlU znM znp zba zlK:Value}
 {C_Machine:Addr}
 {xE:Addr} {zlQ zmW:Option Addr} {zmU:Array (Option Value)} {zmY zmQ zmw zlS zig znW:Value}
 (zmR:Df K "_law_cell" zhU)
 (znv:Df K "_law_flow" zhw)
 (zne:Df K "_law_draw" zgE)
 (zsU:Df K "_law_names" oF)
 (zqC:Df K "_law_houses" iC)
 (zqf:Df K "_law_sizes" lZ)
 (zqw:Df K "_law_split" mJ)
 (zsA:Df K "_law_put" qY)
 (zrx:Df K "_law_desks" jB)
 (zpc:Df K "_law_moves" jE)
 (zpW:Df K "_law_calm" cP)
 (zqv:Df K "_law_machine" fL)
 (zpT:Df K "_law_blown" eW)
 (zsh:Df K "_law_classes" eM)
 (zsM:Df K "_law_come" oK)
 (zrm:Df K "_law_line" eX)
 (zre:Df K "_law_free" oN)
 (zsm:Df K "law" rB)
 (zrS:Df K "rising" uP)
 (zoW:Df K "refuse_twice" iM)
 (zqX:Df K "refuse_steps" iP)
 (zpQ:Df K "refuse_good" jJ)
 (zpr:Df K "machine_of" iD)
 (zpC:Df K "numbered" kF)
 (zpj:Df K "classes_of" iB)
 (zsI:Df K "finer_classes" fN)
 (zqm:W.nsIn K mainGlobals "least" =some (some (.ref zgy)))
 (zlm:K.lookup zgy=some ⟨znN,zmx,.func (W.fnOf "least" "least" (eI dZ) (cU dZ) (aE dZ) .none zlU znM znp zlT zba zlK),znn⟩)
 (zrO:W.codeIn K zba "least" =true)
 (zkx:W.keepIn K (.ref zgy)=true)
 (zsj:Df K "free_pairs" kH)
 (zsv:Df K "are_free" lE)
 (tL:W.nsIn K mainGlobals "Machine" =some (some (.ref C_Machine)))
 (uB:W.makesIn K C_Machine=true)
 (uF:W.keepIn K (.ref C_Machine)=true)
 (zaI:W.plainGet K C_Machine Str.empty=true)
 (zbi:W.hasDictIn K C_Machine=true)
 (zaD:W.plainOver K C_Machine=true)
 (zbM:W.findIn K (.ref C_Machine) "__setattr__" =some (some (.builtin "object.__setattr__")))
 (oH:W.findIn K (.ref C_Machine) "letters" =some none)
 (qA:W.findIn K (.ref C_Machine) "table" =some none)
 (rZ:W.findIn K (.ref C_Machine) "good" =some none)
 (zhj:W.findIn K (.ref C_Machine) "__init__" =some (some (.ref xE)))
 (zhs:W.isFn K (.ref xE)=true)
 (zqi:K.lookup xE=some ⟨zmY,zlQ,.func (W.fnOf "__init__" "Machine.__init__" (eI cX) (cU cX) (aE cX) .none zmQ zmw zlS zmW zig znW),zmU⟩)
 (zqL:W.codeIn K zig "Machine.__init__" =true)
 (zsV:W.keepIn K (.ref xE)=true)
 (zqE:W.tabIn K "least" =some (cc,pt))
 (zrH:W.codeHdIn K cc pt=true)
 (zsQ:W.nsIn K mainGlobals "len" =some none)
 (zjP:W.nsIn K mainGlobals "range" =some none)
 (zpS:W.nsIn K mainGlobals "max" =some none)
 (zgl:W.nsIn K mainGlobals "sorted" =some none)
 (zjK:W.nsIn K mainGlobals "tuple" =some none)
 (zqB:W.nsIn K mainGlobals "set" =some none)
 (zrN:W.nsIn K mainGlobals "min" =some none)
 (zam:W.nsIn K mainGlobals "enumerate" =some none)
 (zrK:W.nsIn K mainGlobals "zip" =some none)
 (znq:W.nsIn K mainGlobals "repr" =some none)
 (zlW:W.nsIn K mainGlobals "list" =some none)
 (yJ:W.nsIn K mainGlobals "isinstance" =some none)
 (zsq:W.nsIn K mainGlobals "int" =some none)
 (zmO:W.nsIn K mainGlobals "bool" =some none)
 (ztm:W.nsIn K mainGlobals "all" =some none):
 ∃fd:FuncData,(∀(s:Shared) (v:Value),BindsTo s fd ⟨[v],[]⟩ [("_law_script",v)])/\ ∀base:Heap,K.In base->base.Ns mainGlobals mg->nQ mg base->dG l.prog w K mg base fV 12 fa fd ["_law_script"] (zcl K pt):=by
 obtain⟨zvh,zwV,zhb,zmo,zlJ⟩:=zmR.get X G
 obtain⟨zya,zuQ,zhC,ziv,zfO⟩:=znv.get X G
 obtain⟨zwf,zwN,zht,yM,xK⟩:=zne.get X G
 obtain⟨zBu,zAs,zkS,zlA,zlE⟩:=zsU.get X G
 obtain⟨zAV,zyx,zkK,zrk,zrV⟩:=zqC.get X G
 obtain⟨zAN,zyH,zle,zpA,zpn⟩:=zqf.get X G
 obtain⟨zyA,zzW,zkp,zsb,zpv⟩:=zqw.get X G
 obtain⟨zAB,zzy,zlF,zqq,zsC⟩:=zsA.get X G
 obtain⟨zzA,zyB,zkF,zqk,zqd⟩:=zrx.get X G
 obtain⟨zAX,zAh,zkt,zru,zrj⟩:=zpc.get X G
 obtain⟨zBn,zAv,zks,zrW,zrC⟩:=zpW.get X G
 obtain⟨zzS,zzV,zla,zpd,zpJ⟩:=zqv.get X G
 obtain⟨zzu,zBg,zlv,zsd,zsg⟩:=zpT.get X G
 obtain⟨zzx,zAt,zlx,zqu,zto⟩:=zsh.get X G
 obtain⟨zAE,zAi,zkw,zsS,zte⟩:=zsM.get X G
 obtain⟨zyz,zAJ,zkI,zqe,zpi⟩:=zrm.get X G
 obtain⟨zzE,zzN,zko,zqH,zrf⟩:=zre.get X G
 obtain⟨zAg,ztj,zkO,zzq,zqp⟩:=zsm.get X G
 obtain⟨zzT,zzp,zkU,zrQ,zpY⟩:=zrS.get X G
 obtain⟨zza,zyM,zlf,zsJ,zqZ⟩:=zoW.get X G
 obtain⟨zyN,zBq,zkZ,zrZ,zsc⟩:=zqX.get X G
 obtain⟨zAU,zzZ,zkL,zpt,ztv⟩:=zpQ.get X G
 obtain⟨zAm,zyq,zlB,zrA,zsx⟩:=zpr.get X G
 obtain⟨zzY,zAL,ziw,zlC,zkB⟩:=zpC.get X G
 obtain⟨zyD,zzU,zkX,zpV,zqV⟩:=zpj.get X G
 obtain⟨zyw,zBk,zln,zoS,zrw⟩:=zsI.get X G
 have zlw:=zbR (st:=dZ) zlm zrO zkx
 have zlt:=W.mg_of X G zqm
 obtain⟨zyC,zAw,zlp,zpo,zpx⟩:=zsj.get X G
 obtain⟨zAp,zzg,zkW,zpP,ztk⟩:=zsv.get X G
 have e:=hfa.symm.trans zqp
 cases e
 have zku:=zbR (st:=cX) zqi zqL zsV
 have zmS:=zhb.binds (ps:=["_law_script","_law_k"]) λ_ _ _ _ _ _=>xQ λ_ _=>rfl
 have zic:=zhC.binds (ps:=["_law_script","_law_k"]) λ_ _ _ _ _ _=>xQ λ_ _=>rfl
 have yF:=zht.binds (ps:=["_law_flow_here","_law_many"]) λ_ _ _ _ _ _=>xQ λ_ _=>rfl
 have zlD:=zkS.binds (ps:=["_law_flow_here","_law_many"]) λ_ _ _ _ _ _=>xQ λ_ _=>rfl
 have zsF:=zkK.binds (ps:=["_law_flow_here","_law_count"]) λ_ _ _ _ _ _=>xQ λ_ _=>rfl
 have zph:=zle.binds (ps:=["_law_flow_here","_law_desks_here","_law_most"]) λ_ _ _ _ _ _=>us3 λ_ _ _=>rfl
 have zsD:=zkp.binds (ps:=["_law_state","_law_sizes_here"]) λ_ _ _ _ _ _=>xQ λ_ _=>rfl
 have ztt:=zlF.binds (ps:=["_law_parts","_law_sizes_here"]) λ_ _ _ _ _ _=>xQ λ_ _=>rfl
 have zrl:=zkF.binds (ps:=["_law_rows"]) λ_ _ _ _ _ _=>us1 λ_=>rfl
 have zsy:=zkt.binds (ps:=["_law_flow_here","_law_places","_law_sizes_here"]) λ_ _ _ _ _ _=>us3 λ_ _ _=>rfl
 have zpw:=zks.binds (ps:=["_law_script","_law_first","_law_rows","_law_most"]) λ_ _ _ _ _ _=>us4 λ_ _ _ _=>rfl
 have zpe:=zla.binds (ps:=["_law_flow_here","_law_many","_law_letters"]) λ_ _ _ _ _ _=>us3 λ_ _ _=>rfl
 have zpN:=zlv.binds (ps:=["_law_flow_here","_law_table","_law_good","_law_more"]) λ_ _ _ _ _ _=>us4 λ_ _ _ _=>rfl
 have zpH:=zlx.binds (ps:=["_law_table","_law_good"]) λ_ _ _ _ _ _=>xQ λ_ _=>rfl
 have zri:=zkw.binds (ps:=["_law_table"]) λ_ _ _ _ _ _=>us1 λ_=>rfl
 have zsX:=zkI.binds (ps:=["_law_flow_here"]) λ_ _ _ _ _ _=>us1 λ_=>rfl
 have zrB:=zko.binds (ps:=["_law_table","_law_good","_law_one","_law_other"]) λ_ _ _ _ _ _=>us4 λ_ _ _ _=>rfl
 have zpE:=zkU.binds (ps:=["things"]) λ_ _ _ _ _ _=>us1 λ_=>rfl
 have zqU:=zlf.binds (ps:=["names"]) λ_ _ _ _ _ _=>us1 λ_=>rfl
 have zpf:=zkZ.binds (ps:=["letters","table"]) λ_ _ _ _ _ _=>xQ λ_ _=>rfl
 have zta:=zkL.binds (ps:=["table","good"]) λ_ _ _ _ _ _=>xQ λ_ _=>rfl
 have ztr:=zlB.binds (ps:=["letters","start","goes","is_good"]) λ_ _ _ _ _ _=>us4 λ_ _ _ _=>rfl
 have zkN:=ziw.binds (ps:=["things"]) λ_ _ _ _ _ _=>us1 λ_=>rfl
 have zqx:=zkX.binds (ps:=["machine"]) λ_ _ _ _ _ _=>us1 λ_=>rfl
 have zpI:=zln.binds (ps:=["machine","classes"]) λ_ _ _ _ _ _=>xQ λ_ _=>rfl
 have ztg:=zlw.binds (ps:=["machine"]) λ_ _ _ _ _ _=>us1 λ_=>rfl
 have zsu:=zlp.binds (ps:=["machine"]) λ_ _ _ _ _ _=>us1 λ_=>rfl
 have zsK:=zkW.binds (ps:=["machine","one","other"]) λ_ _ _ _ _ _=>us3 λ_ _ _=>rfl
 have zkE:=zku.binds (ps:=["self","letters","table","good"]) λ_ _ _ _ _ _=>us4 λ_ _ _ _=>rfl
 have B:Bt mg:=⟨W.mg_none_of X G zsQ,W.mg_none_of X G zjP,W.mg_none_of X G zpS,W.mg_none_of X G zgl,W.mg_none_of X G zjK,W.mg_none_of X G zqB,W.mg_none_of X G zrN,W.mg_none_of X G zam,W.mg_none_of X G zrK,W.mg_none_of X G znq,W.mg_none_of X G zlW,W.mg_none_of X G yJ,W.mg_none_of X G zsq,W.mg_none_of X G zmO,W.mg_none_of X G ztm⟩
 refine⟨ztj,λs v=>zio zkO (λ_ _ _ _ _ _ _=>rfl) s v,λbase _ _ hB=> ?_⟩
 have D1:=zjF (P:=l.prog) (w:=w) (mg:=mg) (base:=base) (k:=0) zht
 have C1:=ziR (P:=l.prog) (w:=w) (mg:=mg) (base:=base) (k:=0) zhb B.len_
 have W1:=ziL zhC C1 zmS zmo zlJ
 have Y1:=zfK zkS D1 yF yM xK B.range_ B.len_
 have dr2:Fn l.prog w K mg base 2 _ _ _ _ _:=⟨D1.mono (by decide),yF,yM,xK⟩
 have na2:Fn l.prog w K mg base 2 _ _ _ _ _:=⟨Y1.mono (by decide),zlD,zlA,zlE⟩
 have HO:=zen zkK B dr2 na2
 have LN:=ziM zkI B dr2 na2
 have DE:=z9 (P:=l.prog) (w:=w) (mg:=mg) (base:=base) (k:=2) zkF B
 have SI:=zgw zle B dr2
 have SP:=zgZ (P:=l.prog) (w:=w) (mg:=mg) (base:=base) (k:=2) zkp
 have PU:=zmI (P:=l.prog) (w:=w) (mg:=mg) (base:=base) (k:=2) zlF B
 have MV:=zfF zkt B dr2
 have zwQ:Fn l.prog w K mg base 3 _ _ _ _ _:=⟨DE.mono (by decide),zrl,zqk,zqd⟩
 have zxC:Fn l.prog w K mg base 3 _ _ _ _ _:=⟨SI.mono (by decide),zph,zpA,zpn⟩
 have zxe:Fn l.prog w K mg base 3 _ _ _ _ _:=⟨SP.mono (by decide),zsD,zsb,zpv⟩
 have zvi:Fn l.prog w K mg base 3 _ _ _ _ _:=⟨PU.mono (by decide),ztt,zqq,zsC⟩
 have zvg:Fn l.prog w K mg base 3 _ _ _ _ _:=⟨MV.mono (by decide),zsy,zru,zrj⟩
 have zoZ:Fn l.prog w K mg base 3 _ _ _ _ _:=⟨D1.mono (by decide),yF,yM,xK⟩
 have zpM:Fn l.prog w K mg base 3 _ _ _ _ _:=⟨W1.mono (by decide),zic,ziv,zfO⟩
 have CA:=zjZ zks B zpM zoZ zvg zxe zvi zwQ zxC
 have MA:=zby zla B dr2
 have BL:=zgI zlv B dr2
 have R1:=zdC (P:=l.prog) (w:=w) (mg:=mg) (base:=base) (k:=2) zkU B
 have T1:=zim (P:=l.prog) (w:=w) (mg:=mg) (base:=base) (k:=2) zlf B
 have S1:=zia (P:=l.prog) (w:=w) (mg:=mg) (base:=base) (k:=2) zkZ B
 have O1:=zjh (P:=l.prog) (w:=w) (mg:=mg) (base:=base) (k:=2) zkL B
 have ztc:Fn l.prog w K mg base 3 _ _ _ _ _:=⟨T1,zqU,zsJ,zqZ⟩
 have ztd:Fn l.prog w K mg base 3 _ _ _ _ _:=⟨S1,zpf,zrZ,zsc⟩
 have zpD:Fn l.prog w K mg base 3 _ _ _ _ _:=⟨O1,zta,zpt,ztv⟩
 have zrc:Fn l.prog w K mg base 3 _ _ _ _ _:=⟨R1,zpE,zrQ,zpY⟩
 have S:MoC K C_Machine:=⟨⟨zaI,zbi,zaD,zbM⟩,oH,qA,rZ⟩
 have I1:=zjR zku B S ztc ztd zpD zrc
 have M4:zaj l.prog w K mg base 4 C_Machine xE _:=⟨⟨uB,zhj,zhs,uF⟩,S,I1.mono (by decide),zkE,W.mg_of X G tL⟩
 have NN:=rG (P:=l.prog) (w:=w) (mg:=mg) (base:=base) (k:=1) .n ziw B
 have NB:=rG (P:=l.prog) (w:=w) (mg:=mg) (base:=base) (k:=2) .b ziw B
 have zwp:Fn l.prog w K mg base 2 _ _ _ _ _:=⟨NN,zkN,zlC,zkB⟩
 have zvb:Fn l.prog w K mg base 3 _ _ _ _ _:=⟨NB,zkN,zlC,zkB⟩
 have FI:=zgR zln B S zwp
 have zwK:Fn l.prog w K mg base 3 _ _ _ _ _:=⟨FI,zpI,zoS,zrw⟩
 have CL:=zaO zkX B S zvb zwK
 have zxS:Fn l.prog w K mg base 6 _ _ _ _ _:=⟨CL.mono (by decide),zqx,zpV,zqV⟩
 have IG:=zjd (P:=l.prog) (w:=w) (mg:=mg) (base:=base) (k:=4) S
 have II:=zbK (P:=l.prog) (w:=w) (mg:=mg) (base:=base) (k:=4) S
 have MO:=vM (md:= .i) zlB B M4 IG II
 have zvV:Fn l.prog w K mg base 6 _ _ _ _ _:=⟨MO,ztr,zrA,zsx⟩
 have hfc:zba= .ref cc:=W.law_code X G zqE zlt (X _ _ zlm) rfl
 subst hfc
 have LE:=zfy (pt:=pt) (cc:=cc) zlw B S hB rfl (λh X=>W.codeHd_of_K X zrH) zxS zvV
 have zvJ:Fn l.prog w K mg base 7 _ _ _ _ _:=⟨LE,ztg,zkx,zlt⟩
 have LC:=i4 (P:=l.prog) (w:=w) (mg:=mg) (base:=base) (k:=5) zlx B
 have zxa:Fn l.prog w K mg base 6 _ _ _ _ _:=⟨LC,zpH,zqu,zto⟩
 have CM:=zjE (P:=l.prog) (w:=w) (mg:=mg) (base:=base) (k:=5) zkw B
 have zvT:Fn l.prog w K mg base 6 _ _ _ _ _:=⟨CM,zri,zsS,zte⟩
 have FR:=zfp zko B zxa zvT
 have AF:=zhM (P:=l.prog) (w:=w) (mg:=mg) (base:=base) (k:=6) zkW B S
 have zxf:Fn l.prog w K mg base 7 _ _ _ _ _:=⟨AF,zsK,zpP,ztk⟩
 have PA:=zfN zlp B S zvJ zxf
 have M10:zaj l.prog w K mg base 10 C_Machine xE _:=⟨⟨uB,zhj,zhs,uF⟩,S,I1.mono (by decide),zkE,W.mg_of X G tL⟩
 have Z1:Fn l.prog w K mg base 11 _ _ _ _ _:=⟨W1.mono (by decide),zic,ziv,zfO⟩
 have Z2:Fn l.prog w K mg base 11 _ _ _ _ _:=⟨D1.mono (by decide),yF,yM,xK⟩
 have Z3:Fn l.prog w K mg base 11 _ _ _ _ _:=⟨Y1.mono (by decide),zlD,zlA,zlE⟩
 have Z4:Fn l.prog w K mg base 11 _ _ _ _ _:=⟨MA.mono (by decide),zpe,zpd,zpJ⟩
 have Z5:Fn l.prog w K mg base 11 _ _ _ _ _:=⟨BL.mono (by decide),zpN,zsd,zsg⟩
 have Z6:Fn l.prog w K mg base 11 _ _ _ _ _:=⟨HO.mono (by decide),zsF,zrk,zrV⟩
 have Z7:Fn l.prog w K mg base 11 _ _ _ _ _:=⟨CA.mono (by decide),zpw,zrW,zrC⟩
 have Z8:Fn l.prog w K mg base 11 _ _ _ _ _:=⟨LN.mono (by decide),zsX,zqe,zpi⟩
 have Z9:Fn l.prog w K mg base 11 _ _ _ _ _:=⟨FR.mono (by decide),zrB,zqH,zrf⟩
 have ZA:Fn l.prog w K mg base 11 _ _ _ _ _:=⟨PA.mono (by decide),zsu,zpo,zpx⟩
 exact zmB zkO B Z1 Z2 Z3 Z4 Z5 Z6 Z7 Z8 Z9 ZA M10
theorem walk{l:PySem.W.OpenLaw}{q:Program}{wQ:List Str}{XP:(Str->Option Value)->Heap->Prop}{YP:World->Heap->Prop}{d:DefRec}{K:Params->W.Frag}{cc pt:Addr}(hn:l.most=some 63)(hdf:d.params.defaults=[])
 (hY: ∀(w:World) (h:Heap),YP w h->(K w.params).In h) (hnK: ∀w:World,PySem.W.noTabs (K w.params)=true)
 (ht: ∀(w:World) (h:Heap),YP w h->h.get? pt=some (PySem.W.tabObj #[])) (hc: ∀w:World,PySem.W.codeHdIn (K w.params) cc pt=true)
 (F: ∀(w:World) (mg:Str->Option Value) (fa:Addr) (h:Heap),(K w.params).In h->h.Ns mainGlobals mg->mg d.name=some (.ref fa)->
  ∃fd:FuncData,(∀(s:Shared) (u:Value),BindsTo s fd ⟨[u],[]⟩ [("_law_script",u)])/\ ∀base:Heap,(K w.params).In base->base.Ns mainGlobals mg->nQ mg base->dG l.prog w (K w.params) mg base fV 12 fa fd ["_law_script"] (zcl (K w.params) pt)):
 PySem.W.WalkO q wQ XP YP l.row.toRowW d [] (λf vs=>PySem.call f vs):=
 L2.walk_ofT (n:=63) (k:=12) (x:= "_law_script") (CX:= λ_=>fV) (sp:= λw=>zcl (K w.params) pt) (tabs:= λ_=>[(cc,pt)]) hn (by decide) hdf ⟨rfl,by decide,by decide,rfl⟩ hY hnK (λw h Y q hq=>by rw[List.mem_singleton.mp hq];exact⟨PySem.W.codeHd_of_K (hY w h Y) (hc w),ht w h Y⟩) F (λ_ H a ns hl hT _ hS=>⟨a,ns,rfl,hS,hl,.inl (hT _ List.mem_cons_self),λ_=>rfl⟩) λ_ _ _ _ _ z=>z
end KK
open PySem PySem.W PyProof.Rows
def PySem.W.Fast.tw6937664276349726261 : Nat := 0
def PySem.W.Fast.tw264790859129298489 : Nat := 0
def PySem.W.Fast.tw4894978548880203939 : Nat := 0
def PySem.W.Fast.tw7616522986213607004 : Nat := 0
def PySem.W.Fast.tw13035323981445842236 : Nat := 0
def PySem.W.Fast.tw1961900502452057449 : Nat := 0
def PySem.W.Fast.tw9108681630431588886 : Nat := 0
def PySem.W.Fast.tw14825916749347909995 : Nat := 0
def PySem.W.Fast.tw16831912681202950929 : Nat := 0
def PySem.W.Fast.tw6283620119551886011 : Nat := 0
def PySem.W.Fast.tw5081865726987622810 : Nat := 0
def PySem.W.Fast.tw11242236641195694236 : Nat := 0
set_option maxRecDepth 100000 in
set_option maxHeartbeats 0 in
theorem PySem.Challenge.cw_meetdesks_k20_free_pairs_holds : PySem.Challenge.rw_meetdesks_k20_free_pairs.Holds := by
 w_on;o_law;k_head;(case hw=>w_witness2)
 k_fill
 refine KK.walk (l:=PySem.Challenge.rw_meetdesks_k20_free_pairs) (cc:=155) (pt:=153) rfl rfl (λw h Y=>PySem.W.km_in_of Y) (λw=>by kernel_rfl) (λw h Y=>PySem.W.km_tabs_of Y 153 (.head _)) (λw=>by kernel_rfl) ?F
 case F=>
  intro w mg fa h KX G hmg;refine' KK.all_mk (cc:=155) (pt:=153) KX G hmg (.mk' ?_ ?_ ?_ ?_) (.mk' ?_ ?_ ?_ ?_) (.mk' ?_ ?_ ?_ ?_) (.mk' ?_ ?_ ?_ ?_) (.mk' ?_ ?_ ?_ ?_) (.mk' ?_ ?_ ?_ ?_) (.mk' ?_ ?_ ?_ ?_) (.mk' ?_ ?_ ?_ ?_) (.mk' ?_ ?_ ?_ ?_) (.mk' ?_ ?_ ?_ ?_) (.mk' ?_ ?_ ?_ ?_) (.mk' ?_ ?_ ?_ ?_) (.mk' ?_ ?_ ?_ ?_) (.mk' ?_ ?_ ?_ ?_) (.mk' ?_ ?_ ?_ ?_) (.mk' ?_ ?_ ?_ ?_) (.mk' ?_ ?_ ?_ ?_) (.mk' ?_ ?_ ?_ ?_) (.mk' ?_ ?_ ?_ ?_) (.mk' ?_ ?_ ?_ ?_) (.mk' ?_ ?_ ?_ ?_) (.mk' ?_ ?_ ?_ ?_) (.mk' ?_ ?_ ?_ ?_) (.mk' ?_ ?_ ?_ ?_) (.mk' ?_ ?_ ?_ ?_) (.mk' ?_ ?_ ?_ ?_) ?_ ?_ ?_ ?_ (.mk' ?_ ?_ ?_ ?_) (.mk' ?_ ?_ ?_ ?_) ?_ ?_ ?_ ?_ ?_ ?_ ?_ ?_ ?_ ?_ ?_ ?_ ?_ ?_ ?_ ?_ ?_ ?_ ?_ ?_ ?_ ?_ ?_ ?_ ?_ ?_ ?_ ?_ ?_ ?_ ?_ ?_
  all_goals try first|k_is|decide|kernel_rfl
