import PyProof.Rows.All
import Wide.All
import OpenK.AllK
import Wide.FinOn
import PyProof.EqAt
import PyProof.EqKinds
import PyProof.TupleCall
import PyProof.NeKinds
import PyProof.FactsAll.tuple_2
import PyProof.FactsAll.tuple_3
import PyProof.ListRange
import KE.KSortTup
import PyProof.EnumMake
import PyProof.AutoSeq1
import PyProof.Rows.SeqMore
import KE.KIsAll
import PyProof.ExcArgsOwn
import PyProof.ExcBaseAll.ValueError
import PyProof.ExcAttrAll.ValueError
import OpenK.KOwn
import PyProof.RulesAs
import PyProof.AutoRange
import PyProof.SeqRoads2
import PyProof.ZipIter
import PyProof.StrCalls2
import KE.KDictSum
import PyProof.SumAny
import KE.KRevIter
import PyProof.Rows.FStr
import PyProof.Rows.FStrParts
import KE.KRevSl
import PyProof.Rows.SetFrom
import Lean
import PySem.Challenge.RW_rookborders_k05_words
set_option bootstrap.genMatcherCode false
set_option Elab.async false
set_option linter.all false
set_option maxRecDepth 100000
set_option maxHeartbeats 1000000
namespace L2
open PySem
abbrev Pb:=SetTable.Probe
def Ey(mask:Nat)(p:Pb):Pb:=
 if p.more>0 then {p with j:=p.j+1,more:=p.more-1} else
 {p with j:=(SetTable.leap mask p.i p.perturb).1,more:=SetTable.runEnd mask (SetTable.leap mask p.i p.perturb).1- (SetTable.leap mask p.i p.perturb).1,i:=(SetTable.leap mask p.i p.perturb).1,perturb:=(SetTable.leap mask p.i p.perturb).2}
def BS(mask i perturb:Nat)(d:Option Nat):Pb:={j:=i,more:=SetTable.runEnd mask i-i,i:=i,perturb:=perturb,dummy:=d}
def B8(mask:Nat):Nat->Pb->Pb
 |0,p=>p
 |n+1,p=>B8 mask n (Ey mask p)
def Ev(mask:Nat)(h:Int)(d:Option Nat):Pb:=BS mask (SetTable.bits h % (mask+1)) (SetTable.bits h) d
def Jx(mask:Nat)(h:Int)(m:Nat):Nat:=(B8 mask m (Ev mask h none)).j
def Ei(xs:Array Nat):Prop:=xs.toList.Pairwise (·< ·)
structure TOk(t:SetTable)(hs:List Int):Prop where
 pw: ∃k,3<=k/\k<=12/\t.mask+1=2^k
 sz:t.place.size=hs.length
 sp:Ei t.place
 sd:Ei t.dummies
 lp: ∀j∈t.place.toList,j<=t.mask
 ld: ∀j∈t.dummies.toList,j<=t.mask
 dj: ∀j∈t.dummies.toList,j∉t.place.toList
 fl:t.fill<=t.mask
 rc: ∀x∈hs.zip t.place.toList,∃m,Jx t.mask x.1 m=x.2/\ ∀m',m'<m->Jx t.mask x.1 m'∈t.place.toList\/Jx t.mask x.1 m'∈t.dummies.toList
open PySem PySem.Spec PyProof.Rows
def th(ks:List Int):Int:=reduceHash (Builtin.Tuple.tupleHashOf (ks.map hashInt))
def EA(x:List Int×Addr):Int×Value:=(th x.1,.ref x.2)
abbrev D4:=List (List Int×Addr)
def EB(xs:D4):List Int:=xs.map λx=>th x.1
structure SetAt(w:World)(o:Obj)(es:Array (Int×Value))(ep:Nat)(t:SetTable)(xs:D4):Prop where
 ex:o.ExactSet
 hd:o.data=.set es ep t
 he:es.toList=xs.map EA
 T:TOk t (EB xs)
 led:t.led= !w.params.followText "set-order"
 pl:t.plain=true
 nd:(xs.map (·.1)).Nodup
structure SetOk(w:World)(o:Obj)(es:Array (Int×Value))(ep:Nat)(t:SetTable)(xs:D4):Prop extends SetAt w o es ep t xs where
 f5:t.fill*5<t.mask*3
abbrev bn:=Sum Int Str
def nC:bn->Value->Bool
 | .inl k,v=>Value.isInt k v
 | .inr x,v=>Value.isStrOf x v
def D8(w:World):bn->Int
 | .inl k=>hashInt k
 | .inr x=>hashStr w x
theorem bR: ∀ {k:bn} {v:Value},nC k v=true->(∃i t,k=Sum.inl i/\v=Value.int i t)\/(∃x t,k=Sum.inr x/\v=Value.str x t)
 | .inl i,v,h=>by
   obtain⟨t,e⟩:=Value.isInt_shape (k:=i) (v:=v) h
   exact .inl ⟨i,t,rfl,e⟩
 | .inr x,v,h=>by
   obtain⟨t,e⟩:=Value.isStrOf_shape (x:=x) (v:=v) h
   exact .inr ⟨x,t,rfl,e⟩
theorem uz(i:Int)(t:Tok):nC (.inl i) (.int i t)=true:=by simp[nC,Value.isInt]
theorem uE(x:Str)(t:Tok):nC (.inr x) (.str x t)=true:=by simp[nC,Value.isStrOf]
theorem AL(a b:Int):decide ((Sum.inl a:bn)=Sum.inl b)=(a==b):=by
 by_cases e:a=b
 ·subst e;simp
 ·have h: ¬(Sum.inl a:bn)=Sum.inl b:=λq=>e (Sum.inl.inj q)
  rw[decide_eq_false h];exact(beq_eq_false_iff_ne.mpr e).symm
theorem AV(a b:Str):decide ((Sum.inr a:bn)=Sum.inr b)=decide (a=b):=by
 by_cases e:a=b
 ·subst e;simp
 ·have h: ¬(Sum.inr a:bn)=Sum.inr b:=λq=>e (Sum.inr.inj q)
  rw[decide_eq_false h,decide_eq_false e]
theorem Ap(a:Int)(b:Str):decide ((Sum.inl a:bn)=Sum.inr b)=false:=decide_eq_false (λq=>nomatch q)
theorem AA(a:Str)(b:Int):decide ((Sum.inr a:bn)=Sum.inl b)=false:=decide_eq_false (λq=>nomatch q)
def cx(prog:Program)(w:World):PySem.KeyKind prog w bn where
 is:=nC
 hash:=D8 w
 inj:=λv a b ha hb=>by
  rcases bR ha with⟨i,t,rfl,rfl⟩|⟨x,t,rfl,rfl⟩
  ·rcases bR hb with⟨j,u,rfl,e⟩|⟨y,u,rfl,e⟩
   ·injection e with e1 _;rw[e1]
   ·exact nomatch e
  ·rcases bR hb with⟨j,u,rfl,e⟩|⟨y,u,rfl,e⟩
   ·exact nomatch e
   ·injection e with e1 _;rw[e1]
 byValue:=λk v h=>by
  rcases bR h with⟨i,t,rfl,rfl⟩|⟨x,t,rfl,rfl⟩<;>rfl
 pyHash:=λhv h=>by
  rcases bR hv with⟨i,t,rfl,rfl⟩|⟨x,t,rfl,rfl⟩
  ·exact wpAny_pyHash_int h
  ·exact wpAny_pyHash_str h
 eqBool:=λhu hv h=>by
  rcases bR hu with⟨i,t,rfl,rfl⟩|⟨x,t,rfl,rfl⟩
  ·rcases bR hv with⟨j,u,rfl,rfl⟩|⟨y,u,rfl,rfl⟩
   ·rw[AL] at h;exact wpAny_eqBool_int h
   ·rw[Ap] at h;exact SeqAt.EqAt.int_str i t y u _ _ _ _ h
  ·rcases bR hv with⟨j,u,rfl,rfl⟩|⟨y,u,rfl,rfl⟩
   ·rw[AA] at h;exact SeqAt.EqAt.str_int x t j u _ _ _ _ h
   ·rw[AV] at h;exact wpAny_eqBool_str h
 «strs»:=λk x t v h=>by
  rcases bR h with⟨i,u,rfl,e⟩|⟨y,u,rfl,e⟩
  ·exact nomatch e
  ·injection e with e1 _
   subst e1;cases v<;>rfl
theorem pF(prog:Program)(w:World)(i:Int)(t:Tok):(cx prog w).is (.inl i) (.int i t)=true:=uz i t
theorem qz(prog:Program)(w:World)(x:Str)(t:Tok):(cx prog w).is (.inr x) (.str x t)=true:=uE x t
inductive V where
 |non|bl (b:Bool)|int (i:Int)|str (x:Str)|byt (b:Array UInt8)|flt (b:UInt64)|ref (a:Addr)|ty (n:String)
 deriving DecidableEq
def RelV:V->Value->Prop
 | .non,u=>u=Value.none
 | .bl b,u=>u=Value.bool b
 | .int i,u=> ∃t,u=Value.int i t
 | .str x,u=> ∃t,u=Value.str x t
 | .byt b,u=> ∃t,u=Value.bytes b t
 | .flt b,u=> ∃t,u=Value.float b t
 | .ref a,u=>u=Value.ref a
 | .ty n,u=>u=Value.type n
abbrev Vals:List V->List Value->Prop:=Paired RelV
theorem Vals.length {xs:List V}{us:List Value}(r:Vals xs us):xs.length=us.length:=Paired.length r
theorem Vals.get: ∀ {xs:List V} {us:List Value} {i:Nat} {x:V},Vals xs us->xs[i]? =some x-> ∃u,us[i]? =some u/\RelV x u
 |_,_,_,_,.nil,e=>by simp at e
 |_,_,0,_,.cons r _,e=>by simp at e;subst e;exact⟨_,rfl,r⟩
 |_,_,i+1,x,.cons _ t,e=>by
  obtain⟨u,h1,h2⟩:=Vals.get (i:=i) (x:=x) t (by simpa using e)
  exact⟨u,by simpa using h1,h2⟩
theorem Vals.set {x:V}{u:Value}(r:RelV x u): ∀ {xs:List V} {us:List Value} (i:Nat),Vals xs us->Vals (xs.set i x) (us.set i u)
 |_,_,_,.nil=>.nil
 |_,_,0,.cons _ t=>.cons r t
 |_,_,i+1,.cons q t=>.cons q (Vals.set r i t)
theorem Vals.append: ∀ {xs ys:List V} {us ws:List Value},Vals xs us->Vals ys ws->Vals (xs++ys) (us++ws)
 |_,_,_,_,.nil,s=>s
 |_,_,_,_,.cons r t,s=>.cons r (Vals.append t s)
theorem Vals.take: ∀ {xs:List V} {us:List Value} (n:Nat),Vals xs us->Vals (xs.take n) (us.take n)
 |_,_,0,_=>.nil
 |_,_,_+1,.nil=>.nil
 |_,_,n+1,.cons r t=>.cons r (Vals.take n t)
theorem Vals.drop: ∀ {xs:List V} {us:List Value} (n:Nat),Vals xs us->Vals (xs.drop n) (us.drop n)
 |_,_,0,r=>r
 |_,_,_+1,.nil=>.nil
 |_,_,n+1,.cons _ t=>Vals.drop n t
def RelO:Option V->Option Value->Prop
 |some v,some u=>RelV v u
 |none,none=>True
 |_,_=>False
def KV {κ:Type}:List (κ×V)->List (κ×Value)->Prop:=Paired λ(p:κ×V) (q:κ×Value)=>p.1=q.1/\RelV p.2 q.2
def kV:bn->V
 | .inl i=>.int i
 | .inr x=>.str x
inductive HO where
 |lst (xs:List V)
 |tup (xs:List V)
 |dK (kvs:List (bn×V))|dT (kvs:List (List bn×V))
 |set (S:Int->Bool) (n:Nat)
 |tst (xs:List (List Int×Addr))
 |ins (C dx:Addr) (fs:List (Str×V))
 |own (x:Addr)
 |xd (fs:List (Str×V))
 |met (f x:Addr)
 |rng (lo hi:Int)
 |frz (o:Obj) (u:HO)
 |nst (p:Addr) (u:HO)
 |tbl (ps:Array Value)
 |ext (φ:Heap->Prop)
abbrev Hp:=Addr->Option HO
def bq(H:Hp)(a:Addr)(o:HO):Hp:=λb=>if b=a then some o else H b
theorem aI {H:Hp}{a:Addr}{o:HO}:bq H a o a=some o:=by unfold bq;rw[if_pos rfl]
theorem aB {H:Hp}{a b:Addr}{o:HO}(h:b≠a):bq H a o b=H b:=by unfold bq;rw[if_neg h]
theorem BP {H:Hp}{a b:Addr}{o u:HO}(h:H a=some o)(h':H b=some u)(d:o≠u):a≠b:=by
 intro e;subst e;rw[h] at h';exact d (Option.some.inj h')
theorem aO {H:Hp}{a b:Addr}{o:HO}(h:H a=some o)(h':H b=none):a≠b:=by
 intro e;subst e;rw[h] at h';cases h'
section
variable(P:Program)(w:World)
def ObjOk(H:Hp)(h:Heap)(a:Addr):HO->Prop
 | .lst xs=>xs.length<=sizeLine/\ ∃(its:List Value) (n:Nat),Vals xs its/\h.get? a=some {cls:=.type "list",data:=.seq its.toArray n}
 | .tup xs=>xs.length<=sizeLine/\ ∃its:List Value,Vals xs its/\IsTup h a its.toArray/\ ∃o,h.get? a=some o/\o.dict=none
 | .dK kvs=>kvs.length<=sizeLine/\(a==sysModules)=false/\ ∃vs,KV kvs vs/\h.DictOf (cx P w) a vs
 | .dT kvs=>kvs.length<=sizeLine/\(a==sysModules)=false/\ ∃xs:List (List bn×Addr×Value),
    Paired (λ(p:List bn×V) (q:List bn×Addr×Value)=>p.1=q.1/\H q.2.1=some (.tup (p.1.map kV))/\RelV p.2 q.2.2) kvs xs/\
    ∃o es ep,h.get? a=some o/\o.ExactDict/\o.data=.dict es ep/\es.toList=xs.map (entryOfKey (tupleKind (cx P w)))/\(xs.map (·.1)).Nodup
 | .set S n=>h.SetOf (intKind P w) a S n
 | .tst xs=> ∃o es ep t,h.get? a=some o/\SetOk w o es ep t xs
 | .ins C dx fs=>H dx=some (.own a)/\fs.length<=1000/\dx≠a/\h.get? a=some (W.instObj C dx)/\
    ∃mA,h.Ns1 dx mA/\(∀f,RelO (fs.lookup f) (mA f))/\PySem.Within mA (fs.map (·.1))
 | .own _=> ∃o,h.get? a=some o
 | .xd fs=> ∃mA,h.Ns1 a mA/\ ∀f,RelO (fs.lookup f) (mA f)
 | .rng lo hi=> ∃t u v,h.get? a=some {cls:=.type "range",data:=.fields #[.int lo t,.int hi u,.int 1 v]}
 | .frz o u=>h.get? a=some o/\ObjOk H h a u
 | .nst _ u=>ObjOk H h a u
 | .tbl ps=>h.get? a=some {cls:=.none,data:=.fields ps}
 | .met f x=>h.get? a=some (W.methodObj (.ref f) (.ref x))
 | .ext φ=>φ h/\(∃o,h.get? a=some o)/\ ∀h1 h2:Heap,φ h1->(∀o,h1.get? a=some o->h2.get? a=some o)->φ h2
def HOk(H:Hp)(h:Heap):Prop:= ∀a o,H a=some o->ObjOk P w H h a o
end
section
variable {P:Program}{w:World}{H H':Hp}{h h':Heap}{a:Addr}{o:HO}
theorem ObjOk.lt(x:ObjOk P w H h a o):a<h.objs.size:=by
 induction o with
 |lst xs=>obtain⟨_,_,_,_,e⟩:=x;exact Heap.lt_size e
 |tup xs=>obtain⟨_,_,_,p,_⟩:=x;exact p.lt
 |dK kvs=>obtain⟨_,_,_,_,o,_,_,e,_⟩:=x;exact Heap.lt_size e
 |dT kvs=>obtain⟨_,_,_,_,o,_,_,e,_⟩:=x;exact Heap.lt_size e
 |set S n=>obtain⟨o,_,_,_,e,_⟩:=x;exact Heap.lt_size e
 |tst xs=>obtain⟨o,_,_,_,e,_⟩:=x;exact Heap.lt_size e
 |ins C dx fs=>obtain⟨_,_,_,e,_⟩:=x;exact Heap.lt_size e
 |own y=>obtain⟨_,e⟩:=x;exact Heap.lt_size e
 |xd fs=>obtain⟨_,⟨_,_,_,e,_⟩,_⟩:=x;exact Heap.lt_size e
 |rng lo hi=>obtain⟨_,_,_,e⟩:=x;exact Heap.lt_size e
 |frz ob u ih=>obtain⟨e,_⟩:=x;exact Heap.lt_size e
 |nst p u ih=>exact ih x
 |tbl ps=>exact Heap.lt_size (show h.get? a=some _ from x)
 |met f y=>exact Heap.lt_size (show h.get? a=some _ from x)
 |ext φ=>obtain⟨_,⟨_,e⟩,_⟩:=x;exact Heap.lt_size e
theorem Paired.mapP {α β:Type}{F G:α->β->Prop}: ∀ {l₁:List α} {l₂:List β},Paired F l₁ l₂->(∀a b,F a b->G a b)->Paired G l₁ l₂
 |_,_,.nil,_=>.nil
 |_,_,.cons r t,f=>.cons (f _ _ r) (Paired.mapP t f)
theorem ObjOk.stay(x:ObjOk P w H h a o)(k: ∀b u,(b=a\/H b=some (.own a))->h.get? b=some u->h'.get? b=some u)
 (ho: ∀b,H b=some (.own a)->H' b=some (.own a)) (ht: ∀b xs,H b=some (.tup xs)->H' b=some (.tup xs)):ObjOk P w H' h' a o:=by
 induction o with
 |lst xs=>obtain⟨z,its,n,r,e⟩:=x;exact⟨z,its,n,r,k _ _ (.inl rfl) e⟩
 |tup xs=>obtain⟨z,its,r,⟨ob,e,c⟩,ob2,e2,c2⟩:=x;exact⟨z,its,r,⟨ob,k _ _ (.inl rfl) e,c⟩,ob2,k _ _ (.inl rfl) e2,c2⟩
 |dK kvs=>obtain⟨z,y,vs,r,ob,es,ep,e,c⟩:=x;exact⟨z,y,vs,r,ob,es,ep,k _ _ (.inl rfl) e,c⟩
 |dT kvs=>
  obtain⟨z,y,xs,r,ob,es,ep,e,c⟩:=x
  exact⟨z,y,xs,Paired.mapP r λp q z=>⟨z.1,ht _ _ z.2.1,z.2.2⟩,ob,es,ep,k _ _ (.inl rfl) e,c⟩
 |set S n=>obtain⟨ob,es,ep,t,e,c⟩:=x;exact⟨ob,es,ep,t,k _ _ (.inl rfl) e,c⟩
 |tst xs=>obtain⟨ob,es,ep,t,e,c⟩:=x;exact⟨ob,es,ep,t,k _ _ (.inl rfl) e,c⟩
 |ins C dx fs=>
  obtain⟨d,z,ne,e,mA,⟨od,es,ep,e2,c⟩,r⟩:=x
  exact⟨ho _ d,z,ne,k _ _ (.inl rfl) e,mA,⟨od,es,ep,k _ _ (.inr d) e2,c⟩,r⟩
 |own y=>obtain⟨ob,e⟩:=x;exact⟨ob,k _ _ (.inl rfl) e⟩
 |xd fs=>obtain⟨mA,⟨od,es,ep,e,c⟩,r⟩:=x;exact⟨mA,⟨od,es,ep,k _ _ (.inl rfl) e,c⟩,r⟩
 |rng lo hi=>obtain⟨t,u,v,e⟩:=x;exact⟨t,u,v,k _ _ (.inl rfl) e⟩
 |frz ob u ih=>obtain⟨e,q⟩:=x;exact⟨k _ _ (.inl rfl) e,ih q⟩
 |nst p u ih=>exact ih x
 |tbl ps=>
  have e:h.get? a=some {cls:=.none,data:=.fields ps}:=x
  show h'.get? a=some {cls:=.none,data:=.fields ps};exact k a _ (.inl rfl) e
 |met f y=>
  have e:h.get? a=some (W.methodObj (.ref f) (.ref y)):=x
  show h'.get? a=some (W.methodObj (.ref f) (.ref y));exact k a _ (.inl rfl) e
 |ext φ=>obtain⟨p,⟨o,e⟩,st⟩:=x;exact⟨st _ _ p λo q=>k _ _ (.inl rfl) q,⟨o,k _ _ (.inl rfl) e⟩,st⟩
theorem HOk.lt(x:HOk P w H h)(e:H a=some o):a<h.objs.size:=(x a o e).lt
theorem HOk.fresh(x:HOk P w H h)(e:h.objs.size<=a):H a=none:=by
 cases q:H a with
 |none=>rfl
 |some u=>exact absurd (Nat.lt_of_lt_of_le (x.lt q) e) (Nat.lt_irrefl _)
theorem HOk.kept(x:HOk P w H h)(k: ∀b u,h.get? b=some u->h'.get? b=some u):HOk P w H h':=λa o e=>
 (x a o e).stay (λb u _ q=>k b u q) (λ_ q=>q) λ_ _ q=>q
theorem HOk.laid(x:HOk P w H h)(k: ∀b u,h.get? b=some u->h'.get? b=some u)(hp:h.objs.size<=a)(new:ObjOk P w (bq H a o) h' a o):HOk P w (bq H a o) h':=λb u e=>by
 have hn:=x.fresh hp
 by_cases hb:b=a
 ·subst hb;rw[aI] at e;cases e;exact new
 ·rw[aB hb] at e
  exact(x b u e).stay (λc v _ q=>k c v q) (λc q=>by rw[aB (aO q hn)];exact q) λc xs q=>by rw[aB (aO q hn)];exact q
end
def Rd(H:Hp)(a:Addr)(u:HO):Prop:=H a=some u\/ ∃o,H a=some (.frz o u)
theorem Rd.ok {P:Program}{w:World}{H:Hp}{h:Heap}{a:Addr}{u:HO}(r:Rd H a u)(x:HOk P w H h):ObjOk P w H h a u:=by
 rcases r with r|⟨o,r⟩
 ·exact x a u r
 ·obtain⟨_,q⟩:=x a _ r
  exact q
def CG:Option HO->Prop
 |some (.lst _)=>True
 |some (.dK _)=>True
 |some (.dT _)=>True
 |some (.set _ _)=>True
 |some (.tst _)=>True
 |some (.ins _ _ _)=>True
 |some (.ext _)=>True
 |some (.nst _ _)=>True
 |_=>False
section
variable {P:Program}{w:World}{H:Hp}{h h':Heap}{x e:Addr}{o':HO}
theorem HOk.write(ok:HOk P w H h)(mu:CG (H x))(he:e=x\/H e=some (.own x))(k: ∀b u,b≠e->h.get? b=some u->h'.get? b=some u)(heo: ∃u,h'.get? e=some u)
 (new:ObjOk P w (bq H x o') h' x o'):HOk P w (bq H x o') h':=λb u q=>by
 have nown: ∀c y,H c=some (.own y)->c≠x:=λc y r z=>by subst z;rw[r] at mu;exact mu
 have ntup: ∀c xs,H c=some (.tup xs)->c≠x:=λc xs r z=>by subst z;rw[r] at mu;exact mu
 by_cases hb:b=x
 ·subst hb;rw[aI] at q;cases q;exact new
 ·rw[aB hb] at q
  by_cases hbe:b=e
  ·have q':H b=some (.own x):=by
    rcases he with z|z
    ·exact absurd (hbe.trans z) hb
    ·rw[hbe];exact z
   rw[q] at q';cases q';obtain⟨v,hv⟩:=heo
   exact⟨v,by rw[hbe];exact hv⟩
  ·refine(ok b u q).stay (λc v hc r=>k c v ?_ r) (λc r=>by rw[aB (nown c b r)];exact r) λc xs r=>by rw[aB (ntup c xs r)];exact r
   rcases hc with rfl|hc
   ·exact hbe
   ·rintro rfl
    rcases he with z|z
    ·exact nown c b hc z
    ·rw[hc] at z;cases z;exact hb rfl
end
structure Un(fs ex:List Addr)(H H':Hp)(h h':Heap):Prop where
 keep: ∀b o,h.get? b=some o->H b=none->b∉fs->b∉ex->h'.get? b=some o
 slot: ∀b o,h.get? b=some o->H b=none->b∈fs->b∉ex-> ∃sl,h'.get? b=some {o with slots:=sl}
 free: ∀b o,h.get? b=some o->H b=none->b∉ex->H' b=none
 there: ∀b o,h.get? b=some o->b∉ex-> ∃o',h'.get? b=some o'
 tups: ∀b xs,H b=some (.tup xs)->H' b=some (.tup xs)
 frzs: ∀b o u,H b=some (.frz o u)->H' b=some (.frz o u)
 tbls: ∀b ps,H b=some (.tbl ps)-> ∃more,H' b=some (.tbl (ps++more))
section
variable {fs fs' ex ex':List Addr}{H H1 H2:Hp}{h h1 h2 h':Heap}{a x e:Addr}{o:HO}
theorem Un.any(u:Un fs ex H H1 h h1){b:Addr}{ob:Obj}(q:h.get? b=some ob)(n:H b=none)(hx:b∉ex): ∃sl,h1.get? b=some {ob with slots:=sl}:=by
 by_cases hb:b∈fs
 ·exact u.slot b ob q n hb hx
 ·exact⟨ob.slots,u.keep b ob q n hb hx⟩
theorem Un.trans(a:Un fs ex H H1 h h1)(b:Un fs ex H1 H2 h1 h2):Un fs ex H H2 h h2 where
 keep:=λc ob q n hc hx=>b.keep c ob (a.keep c ob q n hc hx) (a.free c ob q n hx) hc hx
 slot:=λc ob q n hc hx=>by
  obtain⟨sl,e1⟩:=a.slot c ob q n hc hx
  obtain⟨sl',e2⟩:=b.slot c _ e1 (a.free c ob q n hx) hc hx
  exact⟨sl',e2⟩
 free:=λc ob q n hx=>by
  obtain⟨o',e1⟩:=a.there c ob q hx
  exact b.free c o' e1 (a.free c ob q n hx) hx
 there:=λc ob q hx=>by
  obtain⟨o',e1⟩:=a.there c ob q hx
  exact b.there c o' e1 hx
 tups:=λc xs q=>b.tups c xs (a.tups c xs q)
 frzs:=λc ob xs q=>b.frzs c ob xs (a.frzs c ob xs q)
 tbls:=λc ps q=>by
  obtain⟨m1,e1⟩:=a.tbls c ps q
  obtain⟨m2,e2⟩:=b.tbls c _ e1
  exact⟨m1++m2,by rw[e2,Array.append_assoc]⟩
theorem Un.kept(k: ∀b u,h.get? b=some u->h'.get? b=some u):Un fs ex H H h h':=
 ⟨λb ob q _ _ _=>k b ob q,λb ob q _ _ _=>⟨ob.slots,k b ob q⟩,λ_ _ _ n _=>n,λb ob q _=>⟨ob,k b ob q⟩,λ_ _ q=>q,λ_ _ _ q=>q,λ_ ps q=>⟨#[],by rw[q];simp⟩⟩
theorem Un.refl:Un fs ex H H h h:=Un.kept λ_ _ q=>q
theorem Un.laid(k: ∀b u,h.get? b=some u->h'.get? b=some u)(hp:h.objs.size<=a)(hn:H a=none):Un fs ex H (bq H a o) h h' where
 keep:=λb u q _ _ _=>k b u q
 slot:=λb u q _ _ _=>⟨u.slots,k b u q⟩
 free:=λb u q n _=>by rw[aB (Nat.ne_of_lt (Nat.lt_of_lt_of_le (Heap.lt_size q) hp))];exact n
 there:=λb u q _=>⟨u,k b u q⟩
 tups:=λb xs q=>by rw[aB (aO q hn)];exact q
 frzs:=λb u xs q=>by rw[aB (aO q hn)];exact q
 tbls:=λb ps q=>⟨#[],by rw[aB (aO q hn),q];simp⟩
theorem Un.write(mu:CG (H x))(he:e=x\/H e=some (.own x))(k: ∀b u,b≠e->h.get? b=some u->h'.get? b=some u)(heo: ∃u,h'.get? e=some u):Un fs ex H (bq H x o) h h':=by
 have hx: ∀b,H b=none->b≠x:=λb n z=>by subst z;rw[n] at mu;exact mu
 have hb: ∀b,H b=none->b≠e:=λb n z=>by
  subst z;rcases he with r|r
  ·exact hx b n r
  ·rw[n] at r;cases r
 have hm: ∀b u,H b=some u-> ¬CG (some u)->b≠x:=λb u q nm z=>by subst z;rw[q] at mu;exact nm mu
 refine⟨λb u q n _ _=>k b u (hb b n) q,λb u q n _ _=>⟨u.slots,k b u (hb b n) q⟩,λb u q n _=>by rw[aB (hx b n)];exact n,λb u q _=>?_,
  λb xs q=>by rw[aB (hm b _ q λz=>z)];exact q,λb u xs q=>by rw[aB (hm b _ q λz=>z)];exact q,λb ps q=>⟨#[],by rw[aB (hm b _ q λz=>z),q];simp⟩⟩
 by_cases hbe:b=e
 ·subst hbe;exact heo
 ·exact⟨u,k b u hbe q⟩
end
def trk(h:Heap)(H:Hp):List Addr:=(List.range h.objs.size).filter λa=>(H a).isSome
def pq(h:Heap)(H:Hp):Heap:=W.hideAll h (trk h H)
theorem ui(h:Heap)(H:Hp):(pq h H).objs.size=h.objs.size:=W.hideAll_size _ _
theorem xu {h:Heap}{H:Hp}{b:Addr}{o:Obj}(e:h.get? b=some o)(n:H b=none):(pq h H).get? b=some o:=
 W.hideAll_get _ e λhm=>by
  have q:(H b).isSome=true:=(List.mem_filter.mp hm).2
  rw[n] at q;simp at q
theorem y0 {h:Heap}{H:Hp}{b:Addr}{o:Obj}(e:(pq h H).get? b=some o):h.get? b=some o/\H b=none:=by
 have e':h.get? b=some o:=W.of_hideAll (trk h H) e
 refine⟨e',?_⟩
 cases q:H b with
 |none=>rfl
 |some x=>
  have hm:b∈trk h H:=List.mem_filter.mpr ⟨List.mem_range.mpr (Heap.lt_size e'),by simp[q]⟩
  have z:(pq h H).get? b=none:=W.hideAll_none (trk h H) hm
  rw[z] at e;cases e
structure Mod(K:W.Frag)(mg:Str->Option Value)(base:Heap):Prop where
 kin:K.In base
 glob:base.Ns mainGlobals mg
 blt: ∃mb,base.Ns builtinsNs mb/\ ∀x:Str,x≠"__name__"->mb x=bootBuiltins x
 nolimit:base.NoLimit
structure Cx where
 prog:Program
 w:World
 K:W.Frag
 mg:Str->Option Value
 base:Heap
 A:Around
 N:List Str
 s₀:Shared
 H₀:Hp
 env:Env
 outer:List Env
 stack:List Env
 ex:List Addr
 fn:Str->Bool
 calm:Bool
 pn:List (Addr×Obj)
 xe:Value->Shared->Prop
def pA(l:List Env):List Addr:=l.filterMap (·.frame)
abbrev Cx.fs(X:Cx):List Addr:=pA X.outer
def kR(sc:Scope)(x:Str):Prop:=sc.names.lookup x=some .local\/sc.names.lookup x=some .cell\/sc.names.lookup x=some .free
def tN(sc:Scope)(x:Str):Prop:=sc.names.lookup x=some .local\/sc.names.lookup x=some .cell
def C6(env:Env)(h:Heap)(m:Str->Option Value)(x:Str)(u:Value):Prop:=
 (env.kindOf x=some .local/\m x=some u)\/((env.kindOf x=some .cell\/env.kindOf x=some .free)/\ ∃c,env.cells.lookup x=some c/\h.IsCell c (some u))
structure Cx.Ok(X:Cx):Prop where
 mod:Mod X.K X.mg X.base
 kind:X.env.scope.kind=.function
 glob:X.env.globals=mainGlobals
 blt:X.env.builtins=builtinsNs
 above:X.s₀.heap.objs.size<=X.env.locals
 inj: ∀x y c,X.env.cells.lookup x=some c->X.env.cells.lookup y=some c->x=y
 has: ∀x,(X.env.kindOf x=some .cell\/X.env.kindOf x=some .free)-> ∃c,X.env.cells.lookup x=some c
 cab: ∀x c,X.fn x=true->X.env.cells.lookup x=some c->X.s₀.heap.objs.size<=c
 hd:X.calm=true->X.A.handled=none
 frames:X.A.frames=some X.stack
 stk:X.stack=X.outer\/(X.stack=X.env::X.outer/\X.env.frame=some X.env.locals)
 exf: ∀b∈X.ex,b≠X.env.locals/\ ∀x c,X.env.cells.lookup x=some c->c≠b
 bs: ∀b o,X.base.get? b=some o->X.s₀.heap.get? b=some o/\X.H₀ b=none
 bsz:X.base.objs.size<=X.s₀.heap.objs.size
 noex: ∀b o,X.base.get? b=some o->b∉X.ex
 exfs: ∀b∈X.ex,b∉X.fs
 funs:X.s₀.heap.FunFrames X.base X.outer
 frf: ∀b∈X.fs,X.H₀ b=none
structure Inv(X:Cx)(ab:List (Addr×Obj))(σ:List (Option V))(H:Hp)(s:Shared):Prop where
 ok:X.Ok
 os:s.os=X.s₀.os
 bare:AllBare s.gens
 base:Un X.fs X.ex X.H₀ H X.s₀.heap s.heap
 loc: ∃m,s.heap.Ns X.env.locals m/\ ∀(i:Nat) (x:Str) (v:V),X.N[i]? =some x->σ[i]? =some (some v)->kR X.env.scope x-> ∃u,RelV v u/\C6 X.env s.heap m x u
 cell: ∀x c,X.env.cells.lookup x=some c-> ∃v,s.heap.IsCell c v
 free:H X.env.locals=none
 freeC: ∀x c,X.env.cells.lookup x=some c->H c=none
 pin: ∀p∈X.pn++ab,s.heap.get? p.1=some p.2/\H p.1=none/\p.1≠X.env.locals/\p.1∉X.fs/\ ∀v,p.2.data≠ .cell v
 hok:HOk X.prog X.w H s.heap
 len:σ.length=X.N.length
section
variable {X:Cx}{ab:List (Addr×Obj)}{σ:List (Option V)}{H H':Hp}{s:Shared}{h':Heap}
theorem Cx.Ok.nofr(ok:X.Ok){b:Addr}{o:Obj}(e:X.base.get? b=some o):b∉X.fs:=λhb=>by
 have:=(ok.funs.mem hb).1
 rw[e] at this;cases this
theorem Inv.bs(I:Inv X ab σ H s): ∀b o,X.base.get? b=some o->s.heap.get? b=some o/\H b=none:=λb o e=>
 ⟨I.base.keep b o (I.ok.bs b o e).1 (I.ok.bs b o e).2 (I.ok.nofr e) (I.ok.noex b o e),I.base.free b o (I.ok.bs b o e).1 (I.ok.bs b o e).2 (I.ok.noex b o e)⟩
theorem Inv.bk(I:Inv X ab σ H s): ∀b o,X.base.get? b=some o->s.heap.get? b=some o:=λb o e=>(I.bs b o e).1
theorem Inv.mod(I:Inv X ab σ H s):Mod X.K X.mg X.base:=I.ok.mod
theorem Inv.kIn(I:Inv X ab σ H s):X.K.In s.heap:=I.ok.mod.kin.keeps I.bk
theorem Inv.lt(I:Inv X ab σ H s):X.env.locals<s.heap.objs.size:=let⟨_,hn,_⟩:=I.loc;hn.lt
theorem Inv.sz(I:Inv X ab σ H s):X.s₀.heap.objs.size<=s.heap.objs.size:=Nat.le_trans I.ok.above (Nat.le_of_lt I.lt)
theorem Inv.nofs(I:Inv X ab σ H s){a:Addr}(h:s.heap.objs.size<=a):a∉X.fs:=λhb=>by
 obtain⟨_,o,ho,_⟩:=I.ok.funs.mem hb
 exact absurd (Nat.lt_of_lt_of_le (Heap.lt_size ho) (Nat.le_trans I.sz h)) (Nat.lt_irrefl _)
theorem Inv.cne(I:Inv X ab σ H s): ∀x c,X.env.cells.lookup x=some c->c≠X.env.locals:=λx c e z=>by
 obtain⟨v,o,ho,hd⟩:=I.cell x c e
 obtain⟨m,⟨o',es,ep,ho',hd',_⟩,_⟩:=I.loc
 rw[z,ho'] at ho;cases ho;rw[hd'] at hd;cases hd
theorem Inv.funs(I:Inv X ab σ H s):s.heap.FunFrames X.base X.outer:=by
 have all: ∀(l:List Env),(∀b∈pA l,b∈X.fs)->X.s₀.heap.FunFrames X.base l->s.heap.FunFrames X.base l:=by
  intro l
  induction l with
  |nil=>intro _ _;trivial
  |cons env r ih=>
   intro hs hl;obtain⟨hk,⟨L,o,hf,hn,ho,hd⟩,hr⟩:=hl
   have hL:L∈X.fs:=hs L (by unfold pA;rw[List.filterMap_cons,hf];exact List.mem_cons_self)
   obtain⟨sl,e⟩:=I.base.slot L o ho (I.ok.frf L hL) hL λz=>I.ok.exfs L z hL
   exact⟨hk,⟨L,_,hf,hn,e,hd⟩,ih (λb hb=>hs b (by unfold pA;rw[List.filterMap_cons,hf];exact List.mem_cons_of_mem _ hb)) hr⟩
 exact all X.outer (λ_ hb=>hb) I.ok.funs
theorem Inv.stack(I:Inv X ab σ H s):s.heap.FunFrames X.base X.stack:=by
 rcases I.ok.stk with e|⟨e,hf⟩
 ·rw[e];exact I.funs
 ·rw[e]
  obtain⟨m,hn,_⟩:=I.loc
  refine .cons (by rw[I.ok.kind];decide) hf hn ?_ I.funs
  exact Heap.get?_none_of_le (Nat.le_trans I.ok.bsz I.ok.above)
theorem Inv.stkSub(I:Inv X ab σ H s): ∀b∈pA X.stack,b∈X.env.locals::X.fs:=λb hb=>by
 rcases I.ok.stk with e|⟨e,hf⟩
 ·rw[e] at hb;exact List.mem_cons_of_mem _ hb
 ·rw[e] at hb
  unfold pA at hb;rw[List.filterMap_cons,hf] at hb;exact hb
theorem Inv.stkFree(I:Inv X ab σ H s): ∀b∈pA X.stack,H b=none:=λb hb=>by
 rcases List.mem_cons.mp (I.stkSub b hb) with e|hb
 ·rw[e];exact I.free
 ·obtain⟨_,o,ho,_⟩:=I.ok.funs.mem hb
  exact I.base.free b o ho (I.ok.frf b hb) λz=>I.ok.exfs b z hb
theorem Inv.step {g':Array GenState}{t':Nat}{d':Drawn}{ch:List Addr}(I:Inv X ab σ H s)
 (hch: ∀b∈ch,(b∈X.ex\/X.s₀.heap.objs.size<=b)/\b≠X.env.locals/\(∀x c,X.env.cells.lookup x=some c->c≠b)/\ ∀p∈X.pn++ab,p.1≠b)
 (keep: ∀b o,b≠X.env.locals->b∉X.fs->b∉ch->s.heap.get? b=some o->H b=none->h'.get? b=some o)
 (slot: ∀b o,b≠X.env.locals->b∈X.fs->b∉ch->s.heap.get? b=some o->H b=none-> ∃sl,h'.get? b=some {o with slots:=sl}) (free: ∀b o,b∉ch->s.heap.get? b=some o->H b=none->H' b=none)
 (there: ∀b o,b∉ch->s.heap.get? b=some o-> ∃o',h'.get? b=some o')
 (tups: ∀b xs,H b=some (.tup xs)->H' b=some (.tup xs)) (frzs: ∀b o u,H b=some (.frz o u)->H' b=some (.frz o u)) (tbls: ∀b ps,H b=some (.tbl ps)-> ∃more,H' b=some (.tbl (ps++more)))
 (ns: ∀m,s.heap.Ns X.env.locals m->h'.Ns X.env.locals m) (hok:HOk X.prog X.w H' h') (hg:AllBare g'):
 Inv X ab σ H' {s with heap:=h',gens:=g',drawn:=d',toks:=t'}:=by
 have neL: ∀b o,X.s₀.heap.get? b=some o->b≠X.env.locals:=λb o e=>Nat.ne_of_lt (Nat.lt_of_lt_of_le (Heap.lt_size e) I.ok.above)
 have neC: ∀b o,X.s₀.heap.get? b=some o->b∉X.ex->b∉ch:=λb o e hx hb=>by
  rcases(hch b hb).1 with z|z
  ·exact hx z
  ·exact absurd (Nat.lt_of_lt_of_le (Heap.lt_size e) z) (Nat.lt_irrefl _)
 have cellK: ∀x c,X.env.cells.lookup x=some c-> ∀v,s.heap.IsCell c v->h'.IsCell c v:=λx c e v hq_=>by
  obtain⟨o,ho,hd⟩:=hq_
  have nch:c∉ch:=λz=>(hch c z).2.2.1 x c e rfl
  by_cases hc:c∈X.fs
  ·obtain⟨sl,q⟩:=slot c o (I.cne x c e) hc nch ho (I.freeC x c e)
   exact⟨_,q,hd⟩
  ·exact⟨o,keep c o (I.cne x c e) hc nch ho (I.freeC x c e),hd⟩
 refine⟨I.ok,I.os,hg,⟨λb o e n hb hx=>?_,λb o e n hb hx=>?_,λb o e n hx=>?_,λb o e hx=>?_,λb xs e=>tups b xs (I.base.tups b xs e),λb o xs e=>frzs b o xs (I.base.frzs b o xs e),λb ps e=>?_⟩,?_,λx c e=>?_,?_,λx c e=>?_,λp hp=>?_,hok,I.len⟩
 ·exact keep b o (neL b o e) hb (neC b o e hx) (I.base.keep b o e n hb hx) (I.base.free b o e n hx)
 ·obtain⟨sl,e1⟩:=I.base.slot b o e n hb hx
  obtain⟨sl',e2⟩:=slot b _ (neL b o e) hb (neC b o e hx) e1 (I.base.free b o e n hx)
  exact⟨sl',e2⟩
 ·obtain⟨o',e1⟩:=I.base.there b o e hx
  exact free b o' (neC b o e hx) e1 (I.base.free b o e n hx)
 ·obtain⟨o',e1⟩:=I.base.there b o e hx
  exact there b o' (neC b o e hx) e1
 ·obtain⟨m1,e1⟩:=I.base.tbls b ps e
  obtain⟨m2,e2⟩:=tbls b _ e1
  exact⟨m1++m2,by rw[e2,Array.append_assoc]⟩
 ·obtain⟨m,hn,hl⟩:=I.loc
  refine⟨m,ns m hn,λi x v e1 e2 e3=>?_⟩
  obtain⟨u,r,l⟩:=hl i x v e1 e2 e3
  refine⟨u,r,?_⟩
  rcases l with l|⟨k,c,e,z⟩
  ·exact .inl l
  ·exact .inr ⟨k,c,e,cellK x c e _ z⟩
 ·obtain⟨v,z⟩:=I.cell x c e
  exact⟨v,cellK x c e v z⟩
 ·obtain⟨m,⟨o,_,_,ho,_⟩,_⟩:=I.loc
  exact free _ o (λz=>(hch _ z).2.1 rfl) ho I.free
 ·obtain⟨v,o,ho,hd⟩:=I.cell x c e
  exact free c o (λz=>(hch c z).2.2.1 x c e rfl) ho (I.freeC x c e)
 ·obtain⟨e,n,ne,nf,d⟩:=I.pin p hp
  have nch:p.1∉ch:=λz=>(hch p.1 z).2.2.2 p hp rfl
  exact⟨keep p.1 p.2 ne nf nch e n,free p.1 p.2 nch e n,ne,nf,d⟩
theorem Inv.un {t':Nat}(I:Inv X ab σ H s)(u:Un X.fs [] H H' s.heap h')(hok:HOk X.prog X.w H' h'):Inv X ab σ H' {s with heap:=h',toks:=t'}:=by
 obtain⟨m,⟨o,es,ep,ho,r⟩,_⟩:=id I.loc
 obtain⟨sl,hL⟩:=u.any ho I.free (by simp)
 exact I.step (g':=s.gens) (d':=s.drawn) (ch:=[]) (λ_ z=>nomatch z) (λb o _ hb _ e n=>u.keep b o e n hb (by simp)) (λb o _ hb _ e n=>u.slot b o e n hb (by simp)) (λb o _ e n=>u.free b o e n (by simp)) (λb o _ e=>u.there b o e (by simp)) u.tups u.frzs u.tbls (λm' hm=>by
  obtain⟨o',es',ep',ho',r'⟩:=hm
  rw[ho] at ho';cases ho';exact⟨_,es',ep',hL,r'⟩) hok I.bare
theorem Inv.call {g':Array GenState}{t':Nat}{d':Drawn}{ch:List Addr}(I:Inv X ab σ H s)(u:Un (pA X.stack) ch H H' s.heap h')(hok:HOk X.prog X.w H' h')(hg:AllBare g')
 (hch: ∀b∈ch,(b∈X.ex\/X.s₀.heap.objs.size<=b)/\b≠X.env.locals/\(∀x c,X.env.cells.lookup x=some c->c≠b)/\ ∀p∈X.pn++ab,p.1≠b):
 Inv X ab σ H' {s with heap:=h',gens:=g',drawn:=d',toks:=t'}:=by
 obtain⟨m,⟨o,es,ep,ho,r⟩,_⟩:=id I.loc
 obtain⟨sl,hL⟩:=u.any ho I.free λz=>(hch _ z).2.1 rfl
 exact I.step (ch:=ch) hch (λb o hL hb hc e n=>u.keep b o e n (λz=>(List.mem_cons.mp (I.stkSub b z)).elim hL hb) hc) (λb o _ _ hc e n=>u.any e n hc) (λb o hc e n=>u.free b o e n hc) (λb o hc e=>u.there b o e hc) u.tups u.frzs u.tbls (λm' hm=>by
  obtain⟨o',es',ep',ho',r'⟩:=hm
  rw[ho] at ho';cases ho';exact⟨_,es',ep',hL,r'⟩) hok hg
theorem Inv.turned {t':Nat}{it:Addr}(I:Inv X ab σ H s)(k: ∀b o,b≠it->s.heap.get? b=some o->h'.get? b=some o)(hn:H it=none)(hL:it≠X.env.locals)
 (h1:it∈X.ex\/X.s₀.heap.objs.size<=it) (h2: ∀x c,X.env.cells.lookup x=some c->c≠it) (h3: ∀p∈X.pn++ab,p.1≠it):Inv X ab σ H {s with heap:=h',toks:=t'}:=by
 have nit: ∀b u,H b=some u->b≠it:=λb u e z=>by rw[z,hn] at e;cases e
 refine I.step (g':=s.gens) (d':=s.drawn) (ch:=[it]) (λb hb=>?_) (λb o _ _ hc e _=>k b o (λz=>hc (by simp[z])) e) (λb o _ _ hc e _=>⟨o.slots,k b o (λz=>hc (by simp[z])) e⟩) (λ_ _ _ _ n=>n)
  (λb o hc e=>⟨o,k b o (λz=>hc (by simp[z])) e⟩) (λ_ _ e=>e) (λ_ _ _ e=>e) (λb ps e=>⟨#[],by rw[e];simp⟩) (λm hm=>?_) (λb u e=>?_) I.bare
 ·have e:b=it:=by simpa using hb
  subst e;exact⟨h1,hL,h2,h3⟩
 ·obtain⟨o,es,ep,ho,r⟩:=hm
  exact⟨o,es,ep,k _ o (Ne.symm hL) ho,r⟩
 ·refine(I.hok b u e).stay (λc v hc q=>k c v ?_ q) (λ_ q=>q) λ_ _ q=>q
  rcases hc with z|z
  ·rw[z];exact nit b u e
  ·exact nit c _ z
theorem Inv.tok(I:Inv X ab σ H s)(t:Nat):Inv X ab σ H {s with toks:=t}:=I.un (h':=s.heap) (t':=t) Un.refl I.hok
theorem Inv.kept {t':Nat}(I:Inv X ab σ H s)(k: ∀b u,s.heap.get? b=some u->h'.get? b=some u):Inv X ab σ H {s with heap:=h',toks:=t'}:=I.un (Un.kept k) (I.hok.kept k)
theorem Inv.laid {a:Addr}{o:HO}{t':Nat}(I:Inv X ab σ H s)(k: ∀b u,s.heap.get? b=some u->h'.get? b=some u)(hp:s.heap.objs.size<=a)(new:ObjOk X.prog X.w (bq H a o) h' a o):
 Inv X ab σ (bq H a o) {s with heap:=h',toks:=t'}:=I.un (Un.laid k hp (I.hok.fresh hp)) (I.hok.laid k hp new)
theorem Inv.write {x e:Addr}{o:HO}{t':Nat}(I:Inv X ab σ H s)(mu:CG (H x))(he:e=x\/H e=some (.own x))(k: ∀b u,b≠e->s.heap.get? b=some u->h'.get? b=some u)(heo: ∃u,h'.get? e=some u)
 (new:ObjOk X.prog X.w (bq H x o) h' x o):Inv X ab σ (bq H x o) {s with heap:=h',toks:=t'}:=I.un (Un.write mu he k heo) (I.hok.write mu he k heo new)
theorem Inv.pins_of {pins':List (Addr×Obj)}(I:Inv X ab σ H s)(h: ∀p∈pins',s.heap.get? p.1=some p.2/\H p.1=none/\p.1≠X.env.locals/\p.1∉X.fs/\ ∀v,p.2.data≠ .cell v):Inv X pins' σ H s:=
 ⟨I.ok,I.os,I.bare,I.base,I.loc,I.cell,I.free,I.freeC,λp hp=>(List.mem_append.mp hp).elim (λz=>I.pin p (List.mem_append_left _ z)) (h p),I.hok,I.len⟩
theorem pZ {N:List Str}(hN:N.Nodup){i j:Nat}{x:Str}(a:N[i]? =some x)(b:N[j]? =some x):i=j:=by
 obtain⟨h1,e1⟩:=List.getElem?_eq_some_iff.mp a
 obtain⟨h2,e2⟩:=List.getElem?_eq_some_iff.mp b
 exact(List.getElem_inj hN).mp (e1.trans e2.symm)
theorem nO {M:Model}{A:Around}{E:Value->Shared->Prop}{i:Nat}{x:Str}{v:V}{u:Value}{Q:Unit->Shared->Prop}(I:Inv X ab σ H s)(hN:X.N.Nodup)(hi:X.N[i]? =some x)(hx:tN X.env.scope x)(r:RelV v u)
 (h: ∀s',Inv X ab (σ.set i (some v)) H s'->(∃a,Heap.SameBut a s.heap s'.heap/\(a=X.env.locals\/X.env.cells.lookup x=some a))->Q () s') (hf:X.fn x=true\/X.env.scope.names.lookup x=some .local:=by first|exact .inl rfl|exact .inr rfl|assumption):wpAny M A (storeName X.env x u) Q E s:=by
 obtain⟨m,hn,hl⟩:=id I.loc
 have hcls:(X.env.scope.kind== .class||(X.env.scope.kind== .module&&X.env.locals !=X.env.globals))=false:=by rw[I.ok.kind];rfl
 have hiσ:i<σ.length:=by rw[I.len];exact(List.getElem?_eq_some_iff.mp hi).1
 have cne:=I.cne
 have tracked: ∀ {a:Addr} {h':Heap},(∃o,s.heap.get? a=some o/\H a=none)->Heap.SameBut a s.heap h'->HOk X.prog X.w H h':=λ{a h'} ha hs b ob e=>by
  obtain⟨_,_,hfree⟩:=ha
  refine(I.hok b ob e).stay (λc w' hc q=>(hs.2 c ?_).trans q) (λ_ q=>q) λ_ _ q=>q
  rintro rfl
  rcases hc with rfl|hc
  ·rw[hfree] at e;cases e
  ·rw[hfree] at hc;cases hc
 rcases hx with hk|hk
 ·refine wpAny_storeName_local hk hn (λh' hn' hs=>?_) hcls
  obtain⟨oL,_,_,hoL,_⟩:=id hn
  refine h _ ⟨I.ok,I.os,I.bare,⟨λb o e n hb hx=>?_,λb o e n hb hx=>?_,I.base.free,λb o e hx=>?_,I.base.tups,I.base.frzs,I.base.tbls⟩,⟨_,hn',λj y v' e1 e2 e3=>?_⟩,λy c e=>?_,I.free,I.freeC,λp hp=>?_,tracked ⟨oL,hoL,I.free⟩ hs,by simpa using I.len⟩ ⟨_,hs,.inl rfl⟩
  ·exact(hs.2 b (Nat.ne_of_lt (Nat.lt_of_lt_of_le (Heap.lt_size e) I.ok.above))).trans (I.base.keep b o e n hb hx)
  ·obtain⟨sl,e1⟩:=I.base.slot b o e n hb hx
   exact⟨sl,(hs.2 b (Nat.ne_of_lt (Nat.lt_of_lt_of_le (Heap.lt_size e) I.ok.above))).trans e1⟩
  ·obtain⟨o',e1⟩:=I.base.there b o e hx
   exact⟨o',(hs.2 b (Nat.ne_of_lt (Nat.lt_of_lt_of_le (Heap.lt_size e) I.ok.above))).trans e1⟩
  ·by_cases hj:j=i
   ·subst hj
    rw[hi] at e1;cases e1;rw[List.getElem?_set_self hiσ] at e2;cases e2
    exact⟨u,r,.inl ⟨hk,by simp⟩⟩
   ·rw[List.getElem?_set_ne (Ne.symm hj)] at e2
    obtain⟨u',r',q⟩:=hl j y v' e1 e2 e3
    refine⟨u',r',?_⟩
    rcases q with⟨k,e⟩|⟨k,c,e,z⟩
    ·refine .inl ⟨k,?_⟩
     have:y≠x:=λe=>hj (pZ hN e1 (e▸hi))
     simp[this,e]
    ·exact .inr ⟨k,c,e,z.sameBut hs (cne y c e)⟩
  ·obtain⟨w',z⟩:=I.cell y c e
   exact⟨w',z.sameBut hs (cne y c e)⟩
  ·obtain⟨e,n,ne,nf,d⟩:=I.pin p hp
   exact⟨(hs.2 p.1 ne).trans e,n,ne,nf,d⟩
 ·have hfn:X.fn x=true:=by
   rcases hf with z|z
   ·exact z
   ·rw[z] at hk;cases hk
  obtain⟨c,hc⟩:=I.ok.has x (.inl hk)
  obtain⟨w',z⟩:=I.cell x c hc
  refine wpAny_storeName_cell I.ok.kind hk hc z (λh' hc' hs=>?_)
  obtain⟨oc,hoc,hocd⟩:=id z
  refine h {s with heap:=h'} ⟨I.ok,I.os,I.bare,⟨λb o e n hb hx=>?_,λb o e n hb hx=>?_,I.base.free,λb o e hx=>?_,I.base.tups,I.base.frzs,I.base.tbls⟩,⟨m,hn.sameBut hs (Ne.symm (cne x c hc)),λj y v' e1 e2 e3=>?_⟩,λy c' e=>?_,I.free,I.freeC,λp hp=>?_,tracked ⟨oc,hoc,I.freeC x c hc⟩ hs,by simpa using I.len⟩ ⟨c,hs,.inr hc⟩
  ·exact(hs.2 b (Nat.ne_of_lt (Nat.lt_of_lt_of_le (Heap.lt_size e) (I.ok.cab x c hfn hc)))).trans (I.base.keep b o e n hb hx)
  ·obtain⟨sl,e1⟩:=I.base.slot b o e n hb hx
   exact⟨sl,(hs.2 b (Nat.ne_of_lt (Nat.lt_of_lt_of_le (Heap.lt_size e) (I.ok.cab x c hfn hc)))).trans e1⟩
  ·obtain⟨o',e1⟩:=I.base.there b o e hx
   exact⟨o',(hs.2 b (Nat.ne_of_lt (Nat.lt_of_lt_of_le (Heap.lt_size e) (I.ok.cab x c hfn hc)))).trans e1⟩
  ·by_cases hj:j=i
   ·subst hj
    rw[hi] at e1;cases e1;rw[List.getElem?_set_self hiσ] at e2;cases e2
    exact⟨u,r,.inr ⟨.inl hk,c,hc,hc'⟩⟩
   ·rw[List.getElem?_set_ne (Ne.symm hj)] at e2
    obtain⟨u',r',q⟩:=hl j y v' e1 e2 e3
    refine⟨u',r',?_⟩
    rcases q with q|⟨k,c',e,z'⟩
    ·exact .inl q
    ·refine .inr ⟨k,c',e,z'.sameBut hs ?_⟩
     rintro rfl
     exact hj (pZ hN e1 (I.ok.inj _ _ _ e hc▸hi))
  ·by_cases hcc:c'=c
   ·subst hcc;exact⟨_,hc'⟩
   ·obtain⟨w2,z2⟩:=I.cell y c' e
    exact⟨w2,z2.sameBut hs hcc⟩
  ·obtain⟨e,n,ne,nf,d⟩:=I.pin p hp
   refine⟨(hs.2 p.1 ?_).trans e,n,ne,nf,d⟩
   intro q;rw[q,hoc] at e;have q':oc=p.2:=Option.some.inj e
   exact d w' (by rw[<-q'];exact hocd)
theorem p6 {M:Model}{A:Around}{E:Value->Shared->Prop}{i:Nat}{x:Str}{v:V}{u:Value}{Q:Unit->Shared->Prop}(I:Inv X ab σ H s)(hN:X.N.Nodup)(hi:X.N[i]? =some x)(hx:tN X.env.scope x)(r:RelV v u)
 (h: ∀s',Inv X ab (σ.set i (some v)) H s'->Q () s') (hf:X.fn x=true\/X.env.scope.names.lookup x=some .local:=by first|exact .inl rfl|exact .inr rfl|assumption):wpAny M A (storeName X.env x u) Q E s:=
 nO I hN hi hx r (λs' I' _=>h s' I') hf
theorem Inv.call' {s':Shared}{ch:List Addr}(I:Inv X ab σ H s)(ho:s'.os=s.os)(u:Un (pA X.stack) ch H H' s.heap s'.heap)(hok:HOk X.prog X.w H' s'.heap)(hg:AllBare s'.gens)
 (hch: ∀b∈ch,(b∈X.ex\/X.s₀.heap.objs.size<=b)/\b≠X.env.locals/\(∀x c,X.env.cells.lookup x=some c->c≠b)/\ ∀p∈X.pn++ab,p.1≠b):Inv X ab σ H' s':=by
 obtain⟨h',g',d',t',o'⟩:=s'
 have e:o'=s.os:=ho
 subst e;exact I.call (g':=g') (t':=t') (d':=d') u hok hg hch
end
abbrev XK:=Value->Option Addr->Hp->Prop
abbrev St:=List (Option V)
abbrev VK:=V->Hp->Prop
abbrev TE:=St->Hp->VK->Prop
abbrev TT:=St->Hp->(Bool->Hp->Prop)->Prop
abbrev TA:=St->Hp->(List V->Hp->Prop)->Prop
structure Ends where
 nx:St->Hp->Prop
 rt:VK
 bk:St->Hp->Prop:=λ_ _=>False
 ct:St->Hp->Prop:=λ_ _=>False
abbrev TS:=Ends->St->Hp->Prop
def EP(X:Cx)(ab:List (Addr×Obj))(σ:St)(Q:VK)(u:Value)(s':Shared):Prop:= ∃v H',Inv X ab σ H' s'/\RelV v u/\Q v H'
def TP(X:Cx)(ab:List (Addr×Obj))(σ:St)(Q:Bool->Hp->Prop)(b:Bool)(s':Shared):Prop:= ∃H',Inv X ab σ H' s'/\Q b H'
def AP(X:Cx)(ab:List (Addr×Obj))(σ:St)(Q:List V->Hp->Prop)(us:List Value)(s':Shared):Prop:= ∃vs H',Inv X ab σ H' s'/\Vals vs us/\Q vs H'
def SP(X:Cx)(ab:List (Addr×Obj))(D:Ends)(f:Flow)(s':Shared):Prop:=
 match f with
 | .next=> ∃σ' H',Inv X ab σ' H' s'/\D.nx σ' H'
 | .brk=> ∃σ' H',Inv X ab σ' H' s'/\D.bk σ' H'
 | .cont=> ∃σ' H',Inv X ab σ' H' s'/\D.ct σ' H'
 | .ret u=> ∃v σ' H',Inv X ab σ' H' s'/\RelV v u/\D.rt v H'
def PE(X:Cx)(e:Expr)(t:TE):Prop:=
 ∀(ab:List (Addr×Obj)) (s:Shared) (σ:St) (H:Hp) (Q:VK),Inv X ab σ H s->t σ H Q->wpAny (model X.prog X.w) X.A (eval e X.env) (EP X ab σ Q) X.xe s
def PT(X:Cx)(e:Expr)(t:TT):Prop:=
 ∀(ab:List (Addr×Obj)) (s:Shared) (σ:St) (H:Hp) (Q:Bool->Hp->Prop),Inv X ab σ H s->t σ H Q->wpAny (model X.prog X.w) X.A (isTrue e X.env (eval e X.env)) (TP X ab σ Q) X.xe s
def PW(X:Cx)(e:Expr)(t:TT):Prop:=
 ∀(whole:Sem Value) (ab:List (Addr×Obj)) (s:Shared) (σ:St) (H:Hp) (Q:Bool->Hp->Prop),Inv X ab σ H s->t σ H Q->wpAny (model X.prog X.w) X.A (isTrue e X.env whole) (TP X ab σ Q) X.xe s
theorem PW.pt {X:Cx}{e:Expr}{t:TT}(h:PW X e t):PT X e t:=h _
def PA(X:Cx)(es:List Expr)(t:TA):Prop:=
 ∀(pos:Pos) (ab:List (Addr×Obj)) (s:Shared) (σ:St) (H:Hp) (Q:List V->Hp->Prop),Inv X ab σ H s->t σ H Q->wpAny (model X.prog X.w) X.A (spliced (backTo pos (starEach es X.env))) (AP X ab σ Q) X.xe s
def PS(X:Cx)(st:Stmt)(t:TS):Prop:=
 ∀(ab:List (Addr×Obj)) (s:Shared) (σ:St) (H:Hp) (D:Ends),Inv X ab σ H s->t D σ H->wpAny (model X.prog X.w) X.A (exec st X.env) (SP X ab D) X.xe s
def PSs(X:Cx)(st:List Stmt)(t:TS):Prop:=
 ∀(ab:List (Addr×Obj)) (s:Shared) (σ:St) (H:Hp) (D:Ends),Inv X ab σ H s->t D σ H->wpAny (model X.prog X.w) X.A (execs st X.env) (SP X ab D) X.xe s
theorem bM {α:Type}{t:Sem α}{Q Q':α->Shared->Prop}{M:Model}{A:Around}{E:Value->Shared->Prop}{s:Shared}(h:wpAny M A t Q E s)(hQ: ∀a s,Q a s->Q' a s):wpAny M A t Q' E s:=wpAny_mono h hQ λ_ _ x=>x
section
variable {X:Cx}
def Cw(i:Nat):TE:=λσ H Q=> ∃v,σ[i]? =some (some v)/\Q v H
def tC(v:V):TE:=λ_ H Q=>Q v H
theorem A5 {i:Nat}{x:Str}{pos:Pos}(hN:X.N[i]? =some x)(hv:kR X.env.scope x)(hd:(x==("__debug__":Str))=false:=by decide)(hcd:(x==("__classdict__":Str))=false:=by decide):PE X (.Name x pos) (Cw i):=by
 intro ab s σ H Q I h;obtain⟨v,e,h⟩:=h
 obtain⟨m,hn,hl⟩:=I.loc
 obtain⟨u,r,l⟩:=hl i x v hN e hv
 have fin:EP X ab σ Q u s:=⟨v,H,I,r,h⟩
 rcases l with⟨hk,hm⟩|⟨hk,c,hc,hcell⟩
 ·exact wpAny_Name (wpAny_loadName_local I.ok.kind hk hn hm fin) hd
 ·rcases hk with hk|hk
  ·exact wpAny_Name (wpAny_loadName_cell I.ok.kind hk hc hcell fin) hd
  ·exact wpAny_Name (wpAny_loadName_free I.ok.kind hk hc hcell fin hcd) hd
theorem xc {i j pos}:PE X (.Constant (.int i) j pos) (tC (.int i)):=λ_ _ _ H _ I h=>wpAny_Constant_int ⟨.int i,H,I.tok _,⟨_,rfl⟩,h⟩
theorem ze {b j pos}:PE X (.Constant (.bool b) j pos) (tC (.bl b)):=λ_ _ _ H _ I h=>Constant_bool ⟨.bl b,H,I,rfl,h⟩
def Gl(X:Cx)(x:Str):Prop:=X.env.kindOf x=some .globalImplicit
theorem yT {E:Value->Shared->Prop}{ab:List (Addr×Obj)}{s:Shared}{σ:St}{H:Hp}{x:Str}{u:Value}{pos:Pos}{Q:Value->Shared->Prop}(I:Inv X ab σ H s)(hg:Gl X x)(hm:X.mg x=some u)(h:Q u s)
 (hd:(x==("__debug__":Str))=false:=by decide):wpAny (model X.prog X.w) X.A (eval (.Name x pos) X.env) Q E s:=
 Calls.Name_function_global I.ok.kind hg (Calls.loadGlobal_global (by rw[I.ok.glob];exact I.mod.glob.keeps I.bk) hm h) hd
theorem kh {E:Value->Shared->Prop}{ab:List (Addr×Obj)}{s:Shared}{σ:St}{H:Hp}{x:Str}{u:Value}{pos:Pos}{Q:Value->Shared->Prop}(I:Inv X ab σ H s)(hg:Gl X x)(hm:X.mg x=none)(hv:bootBuiltins x=some u)(h:Q u s)
 (hn:x≠"__name__":=by decide) (hd:(x==("__debug__":Str))=false:=by decide):wpAny (model X.prog X.w) X.A (eval (.Name x pos) X.env) Q E s:=by
 obtain⟨mb,h1,h2⟩:=I.mod.blt
 exact Calls.Name_function_global I.ok.kind hg (Calls.loadGlobal_builtin (by rw[I.ok.glob];exact I.mod.glob.keeps I.bk) hm (by rw[I.ok.blt];exact h1.keeps I.bk) ((h2 x hn).trans hv) h) hd
theorem yS {x:Str}{v:V}{u:Value}{pos:Pos}(hg:Gl X x)(hm:X.mg x=none)(hv:bootBuiltins x=some u)(r:RelV v u)(hn:x≠"__name__":=by decide)(hd:(x==("__debug__":Str))=false:=by decide):PE X (.Name x pos) (tC v):=
 λ_ _ _ H _ I h=>kh I hg hm hv ⟨v,H,I,r,h⟩ hn hd
variable {a b:Expr}{ta tb:TE}{pos:Pos}
def PC(X:Cx)(op:CmpOp)(a b:Expr)(t:TE):Prop:=
 ∀(ab:List (Addr×Obj)) (s:Shared) (σ:St) (H:Hp) (Q:VK),Inv X ab σ H s->t σ H Q->
  wpAny (model X.prog X.w) X.A (eval a X.env) (λv s₁=>wpAny (model X.prog X.w) X.A (eval b X.env) (λu s₂=>wpAny (model X.prog X.w) X.A (compareOp op v u) (EP X ab σ Q) X.xe s₂) X.xe s₁) X.xe s
def tB(t:TE):TT:=λσ H Q=>t σ H λx H1=> ∃c,x=.bl c/\Q c H1
theorem wD {op:CmpOp}{t:TE}(h:PC X op a b t)(h1:behindInMarks op b=false:=by first|exact nobehind _ (by decide) (by decide)|rfl):PT X (.Compare a [op] [b] pos) (tB t):=by
 intro ab s σ H Q I hw;refine wpAny_isTrue_Compare1 (bM (h ab s σ H _ I hw) λv s1 h1=>bM h1 λu s2 h2=>bM h2 λc s3 ⟨x,H1,I1,r1,q1⟩=>?_) h1
 obtain⟨d,rfl,q⟩:=q1
 cases r1
 exact wpAny_truthy_bool ⟨H1,I1,q⟩
variable {tA tB':TT}{rest:List Expr}
def C7(t u:TT):TT:=λσ H Q=>t σ H λc H1=>if c=true then u σ H1 Q else Q false H1
def Ex(t u:TT):TT:=λσ H Q=>t σ H λc H1=>if c=true then Q true H1 else u σ H1 Q
def DU(t:TT):TT:=λσ H Q=>t σ H λc H1=>Q (!c) H1
theorem pw_and1(ha:PT X a tA):PW X (.BoolOp .And [a] pos) tA:=by
 intro wh ab s σ H Q I h;refine isTrue_and (bM (ha ab s σ H Q I h) λc s1 e=>?_)
 cases c with
 |true=>exact isTrue_and_nil e
 |false=>exact e
theorem pw_or1(ha:PT X a tA):PW X (.BoolOp .Or [a] pos) tA:=by
 intro wh ab s σ H Q I h;refine isTrue_or (bM (ha ab s σ H Q I h) λc s1 e=>?_)
 cases c with
 |false=>exact isTrue_or_nil e
 |true=>exact e
theorem pw_and(ha:PT X a tA)(hb:PW X (.BoolOp .And (b::rest) pos) tB'):PW X (.BoolOp .And (a::b::rest) pos) (C7 tA tB'):=by
 intro wh ab s σ H Q I h;refine isTrue_and (bM (ha ab s σ H _ I h) λc s1 hq_=>?_)
 obtain⟨H1,I1,q1⟩:=hq_
 cases c with
 |true=>exact hb wh ab s1 σ H1 Q I1 q1
 |false=>exact⟨H1,I1,q1⟩
theorem pw_or(ha:PT X a tA)(hb:PW X (.BoolOp .Or (b::rest) pos) tB'):PW X (.BoolOp .Or (a::b::rest) pos) (Ex tA tB'):=by
 intro wh ab s σ H Q I h;refine isTrue_or (bM (ha ab s σ H _ I h) λc s1 hq_=>?_)
 obtain⟨H1,I1,q1⟩:=hq_
 cases c with
 |true=>exact⟨H1,I1,q1⟩
 |false=>exact hb wh ab s1 σ H1 Q I1 q1
theorem Ak(ha:PT X a tA):PT X (.UnaryOp .Not a pos) (DU tA):=by
 intro ab s σ H Q I h;exact isTrue_not (ha ab s σ H (λc H1=>Q (!c) H1) I h)
def EJ(t:TT)(ta tb:TE):TE:=λσ H Q=>t σ H λc H1=>if c=true then ta σ H1 Q else tb σ H1 Q
theorem xp {c:Expr}(hc:PT X c tA)(ha:PE X a ta)(hb:PE X b tb):PE X (.IfExp c a b pos) (EJ tA ta tb):=by
 intro ab s σ H Q I h;refine wpAny_IfExp (bM (hc ab s σ H _ I h) λd s1 hq_=>?_)
 obtain⟨H1,I1,q1⟩:=hq_
 cases d with
 |true=>exact ha ab s1 σ H1 Q I1 q1
 |false=>exact hb ab s1 σ H1 Q I1 q1
end
def SqL(K:W.Frag)(H:Hp)(a:Addr)(xs:List V):Prop:=
 Rd H a (.lst xs)\/
  ∃(o:Obj) (its:Array Value) (n:Nat),K.lookup a=some o/\o.cls=.type "list"/\o.dict=none/\o.data=.seq its n/\its.size<=sizeLine/\Vals xs its.toList
def SqT(K:W.Frag)(H:Hp)(a:Addr)(xs:List V):Prop:=
 Rd H a (.tup xs)\/
  ∃(o:Obj) (its:Array Value) (n:Nat),K.lookup a=some o/\o.cls=.type "tuple"/\o.data=.seq its n/\its.size<=sizeLine/\Vals xs its.toList/\o.dict=none
def Ee:Value->Option V
 | .none=>some .non
 | .bool b=>some (.bl b)
 | .int i _=>some (.int i)
 | .str x _=>some (.str x)
 | .bytes b _=>some (.byt b)
 | .float b _=>some (.flt b)
 | .ref a=>some (.ref a)
 | .type n=>some (.ty n)
 |_=>none
theorem RelV.abs {x:V}{u:Value}(r:RelV x u):Ee u=some x:=by
 cases x with
 |non=>cases r;rfl
 |bl _=>cases r;rfl
 |int _=>obtain⟨t,rfl⟩:=r;rfl
 |str _=>obtain⟨t,rfl⟩:=r;rfl
 |byt _=>obtain⟨t,rfl⟩:=r;rfl
 |flt _=>obtain⟨t,rfl⟩:=r;rfl
 |ref _=>cases r;rfl
 |ty _=>cases r;rfl
theorem RelV.inj {x y:V}{u:Value}(r:RelV x u)(q:RelV y u):x=y:=Option.some.inj (r.abs.symm.trans q.abs)
theorem Vals.inj: ∀ {xs ys:List V} {us:List Value},Vals xs us->Vals ys us->xs=ys
 |_,_,_,.nil,.nil=>rfl
 |_,_,_,.cons r t,.cons r' t'=>by rw[r.inj r',Vals.inj t t']
section
variable {X:Cx}{ab:List (Addr×Obj)}{σ:St}{H:Hp}{s:Shared}{a:Addr}{xs ys:List V}
theorem SqL.of {K:W.Frag}(h:H a=some (.lst xs)):SqL K H a xs:=.inl (.inl h)
theorem SqT.of {K:W.Frag}(h:H a=some (.tup xs)):SqT K H a xs:=.inl (.inl h)
theorem Inv.list(I:Inv X ab σ H s)(h:SqL X.K H a xs): ∃its:List Value,Vals xs its/\PlainL s.heap a its.toArray/\xs.length<=sizeLine:=by
 rcases h with h|⟨o,its,n,hk,hc,hd,hs,hz,r⟩
 ·obtain⟨z,its,n,r,e⟩:=h.ok I.hok
  exact⟨its,r,⟨_,n,e,rfl,rfl,rfl⟩,z⟩
 ·refine⟨its.toList,r,⟨o,n,I.kIn a o hk,hc,hd,by simpa using hs⟩,?_⟩
  have e:=r.length
  simp only[Array.length_toList] at e;omega
theorem Inv.tuple(I:Inv X ab σ H s)(h:SqT X.K H a xs): ∃its:List Value,Vals xs its/\IsTup s.heap a its.toArray/\xs.length<=sizeLine:=by
 rcases h with h|⟨o,its,n,hk,hc,hs,hz,r,_⟩
 ·obtain⟨z,its,r,p,_⟩:=h.ok I.hok
  exact⟨its,r,p,z⟩
 ·refine⟨its.toList,r,⟨o,I.kIn a o hk,hc,n,by simpa using hs⟩,?_⟩
  have e:=r.length
  simp only[Array.length_toList] at e;omega
theorem Inv.tupleN(I:Inv X ab σ H s)(h:SqT X.K H a xs):(∃o,s.heap.get? a=some o/\o.cls=.type "tuple")/\ ∃o,s.heap.get? a=some o/\o.dict=none:=by
 rcases h with h|⟨o,its,n,hk,hc,hs,hz,r,hd⟩
 ·obtain⟨z,its,r,⟨ob,e,c,_⟩,o2,e2,d2⟩:=h.ok I.hok
  exact⟨⟨ob,e,c⟩,o2,e2,d2⟩
 ·exact⟨⟨o,I.kIn a o hk,hc⟩,o,I.kIn a o hk,hd⟩
theorem Inv.list_inj(I:Inv X ab σ H s)(h:SqL X.K H a xs)(h':SqL X.K H a ys):xs=ys:=by
 obtain⟨its,r,⟨o,n,e,_,_,d⟩,_⟩:=I.list h
 obtain⟨its',r',⟨o',n',e',_,_,d'⟩,_⟩:=I.list h'
 rw[e] at e';cases e';rw[d] at d';injection d' with d1 _
 have:its=its':=by simpa using congrArg Array.toList d1
 subst this;exact r.inj r'
theorem Inv.tuple_inj(I:Inv X ab σ H s)(h:SqT X.K H a xs)(h':SqT X.K H a ys):xs=ys:=by
 obtain⟨its,r,⟨o,e,_,n,d⟩,_⟩:=I.tuple h
 obtain⟨its',r',⟨o',e',_,n',d'⟩,_⟩:=I.tuple h'
 rw[e] at e';cases e';rw[d] at d';injection d' with d1 _
 have:its=its':=by simpa using congrArg Array.toList d1
 subst this;exact r.inj r'
end
abbrev Cx.wish(X:Cx)(E:Value->Shared->Prop):Cx:={X with xe:=E}
abbrev Cx.nox(X:Cx):Cx:=X.wish λ_ _=>False
theorem Cx.Ok.wish {X:Cx}(ok:X.Ok)(E:Value->Shared->Prop):(X.wish E).Ok:=
 ⟨ok.mod,ok.kind,ok.glob,ok.blt,ok.above,ok.inj,ok.has,ok.cab,ok.hd,ok.frames,ok.stk,ok.exf,ok.bs,ok.bsz,ok.noex,ok.exfs,ok.funs,ok.frf⟩
theorem Cx.Ok.unwish {X:Cx}{E:Value->Shared->Prop}(ok:(X.wish E).Ok):X.Ok:=
 ⟨ok.mod,ok.kind,ok.glob,ok.blt,ok.above,ok.inj,ok.has,ok.cab,ok.hd,ok.frames,ok.stk,ok.exf,ok.bs,ok.bsz,ok.noex,ok.exfs,ok.funs,ok.frf⟩
section
variable {X:Cx}{ab:List (Addr×Obj)}{σ:St}{H:Hp}{s:Shared}{E:Value->Shared->Prop}
theorem Inv.wish(I:Inv X ab σ H s)(E:Value->Shared->Prop):Inv (X.wish E) ab σ H s:=⟨I.ok.wish E,I.os,I.bare,I.base,I.loc,I.cell,I.free,I.freeC,I.pin,I.hok,I.len⟩
theorem Inv.unwish(I:Inv (X.wish E) ab σ H s):Inv X ab σ H s:=⟨I.ok.unwish,I.os,I.bare,I.base,I.loc,I.cell,I.free,I.freeC,I.pin,I.hok,I.len⟩
theorem SP.unwish {D:Ends}{f:Flow}{s':Shared}(h:SP (X.wish E) ab D f s'):SP X ab D f s':=by
 cases f with
 |next=>obtain⟨σ',H',I,q⟩:=h;exact⟨σ',H',I.unwish,q⟩
 |brk=>obtain⟨σ',H',I,q⟩:=h;exact⟨σ',H',I.unwish,q⟩
 |cont=>obtain⟨σ',H',I,q⟩:=h;exact⟨σ',H',I.unwish,q⟩
 |ret u=>obtain⟨v,σ',H',I,r,q⟩:=h;exact⟨v,σ',H',I.unwish,r,q⟩
theorem PSs.nox {st:List Stmt}{t:TS}(h:PSs X.nox st t):PSs X st t:=λab s σ H D I hw=>
 wpAny_mono (h ab s σ H D (I.wish _) hw) (λ_ _ q=>q.unwish) λ_ _ z=>False.elim z
end
section
variable {X:Cx}{st:Stmt}{rest:List Stmt}{t u:TS}{e:Expr}{te:TE}{pos:Pos}
def CF:TS:=λD σ H=>D.nx σ H
def Dz(t u:TS):TS:=λD σ H=>t {D with nx:=u D} σ H
theorem yk:PSs X [] CF:=λ_ _ σ H _ I h=>wpAny_execs_nil ⟨σ,H,I,h⟩
theorem ic(h1:PS X st t)(h2:PSs X rest u):PSs X (st::rest) (Dz t u):=by
 intro ab s σ H D I h;refine wpAny_execs_cons (bM (h1 ab s σ H {D with nx:=u D} I h) λf s1 q=>?_)
 cases f with
 |next=>
  obtain⟨σ',H',I',q⟩:=q
  exact h2 ab s1 σ' H' D I' q
 |ret v=>exact q
 |brk=>exact q
 |cont=>exact q
theorem oN(h1:PS X st t):PSs X [st] t:=by
 intro ab s σ H D I h;refine wpAny_execs_cons (bM (h1 ab s σ H D I h) λf s1 q=>?_)
 cases f with
 |next=>exact wpAny_execs_nil q
 |ret v=>exact q
 |brk=>exact q
 |cont=>exact q
theorem Inv.quiet {ab:List (Addr×Obj)}{σ:St}{H:Hp}{s:Shared}(I:Inv X ab σ H s):interactive X.env=false:=by simp[interactive,I.ok.kind]
def BN(te:TE):TS:=λD σ H=>te σ H λ_ H1=>D.nx σ H1
theorem ou(he:PE X e te)(hs:swapsWith e none pos.line X.env=pure false:=by rfl):PS X (.Expr e pos) (BN te):=by
 intro ab s σ H D I h;exact wpAny_Expr_any (bM (he ab s σ H _ I h) λv s1 ⟨x,H1,I1,r1,q1⟩=>⟨σ,H1,I1,q1⟩) I.quiet hs
def C8(te:TE):TS:=λD σ H=>te σ H D.rt
theorem rS(he:PE X e te):PS X (.Return (some e) pos) (C8 te):=by
 intro ab s σ H D I h;exact wpAny_Return_some (bM (he ab s σ H _ I h) λv s1 ⟨x,H1,I1,r1,q1⟩=>⟨x,σ,H1,I1,r1,q1⟩)
def D2(c:TT)(t u:TS):TS:=λD σ H=>c σ H λb H1=>if b=true then t D σ H1 else u D σ H1
theorem CD {c:Expr}{a b:List Stmt}{tc:TT}(hc:PT X c tc)(ha:PSs X a t)(hb:PSs X b u):PS X (.If c a b pos) (D2 tc t u):=by
 intro ab s σ H D I h;refine wpAny_If (bM (hc ab s σ H _ I h) λd s1 hq_=>?_)
 obtain⟨H1,I1,q1⟩:=hq_
 cases d with
 |true=>exact ha ab s1 σ H1 D I1 q1
 |false=>exact hb ab s1 σ H1 D I1 q1
end
abbrev TG:=V->St->Hp->(St->Hp->Prop)->Prop
abbrev vY:=List V->St->Hp->(St->Hp->Prop)->Prop
def PG(X:Cx)(target:Expr)(t:TG):Prop:=
 ∀(ab:List (Addr×Obj)) (s:Shared) (σ:St) (H:Hp) (v:V) (u:Value) (Q:St->Hp->Prop),Inv X ab σ H s->RelV v u->t v σ H Q->
  wpAny (model X.prog X.w) X.A (assign target X.env u) (λ_ s'=> ∃σ' H',Inv X ab σ' H' s'/\Q σ' H') X.xe s
def PGs(X:Cx)(ts:List Expr)(t:vY):Prop:=
 ∀(ab:List (Addr×Obj)) (s:Shared) (σ:St) (H:Hp) (vs:List V) (us:List Value) (Q:St->Hp->Prop),Inv X ab σ H s->Vals vs us->t vs σ H Q->
  wpAny (model X.prog X.w) X.A (assignInOrder ((assignEach ts X.env).map (·.2)) us) (λ_ s'=> ∃σ' H',Inv X ab σ' H' s'/\Q σ' H') X.xe s
abbrev z7:=V->V->V->Hp->(Hp->Prop)->Prop
def B9(X:Cx)(t:z7):Prop:=
 ∀(ab:List (Addr×Obj)) (s:Shared) (σ:St) (H:Hp) (o i v:V) (ov iv u:Value) (Q:Hp->Prop),Inv X ab σ H s->RelV o ov->RelV i iv->RelV v u->t o i v H Q->
  wpAny (model X.prog X.w) X.A (setItem ov iv u) (λ_ s'=> ∃H',Inv X ab σ H' s'/\Q H') X.xe s
section
variable {X:Cx}{pos:Pos}
def vI(i:Nat):TG:=λv σ H Q=>Q (σ.set i (some v)) H
theorem lD {i:Nat}{x:Str}(hN:X.N.Nodup)(hi:X.N[i]? =some x)(hx:tN X.env.scope x)(hf:X.fn x=true\/X.env.scope.names.lookup x=some .local:=by first|exact .inl rfl|exact .inr rfl|assumption):PG X (.Name x pos) (vI i):=by
 intro ab s σ H v u Q I r h;exact wpAny_assign_Name (p6 I hN hi hx r (λs' I'=>⟨_,H,I',h⟩) hf)
def DX:vY:=λvs σ H Q=>vs=[]/\Q σ H
def BC(t:TG)(u:vY):vY:=λvs σ H Q=> ∃v r,vs=v::r/\t v σ H λσ' H'=>u r σ' H' Q
theorem oP:PGs X [] DX:=by
 intro ab s σ H vs us Q I r h;obtain⟨e,h⟩:=h
 subst e;cases r
 exact assignInOrder_nil ⟨σ,H,I,h⟩
theorem jM {e:Expr}{es:List Expr}{t:TG}{u:vY}(h1:PG X e t)(h2:PGs X es u)
 (hs:(assignEach (e::es) X.env).map (·.2)=assign e X.env::(assignEach es X.env).map (·.2):=by rfl):PGs X (e::es) (BC t u):=by
 intro ab s σ H vs us Q I r h;obtain⟨v,vr,e1,h⟩:=h
 subst e1;cases r with
 |cons r rr=>
  rw[hs];refine assignInOrder_cons (bM (h1 ab s σ H _ _ _ I r h) λ_ s1 hq_=>?_)
  obtain⟨σ1,H1,I1,q1⟩:=hq_
  exact h2 ab s1 σ1 H1 _ _ Q I1 rr q1
def Dv(K:W.Frag)(n:Nat)(t:vY):TG:=λv σ H Q=> ∃a xs,v=.ref a/\SqT K H a xs/\xs.length=n/\t xs σ H Q
theorem rP {es:List Expr}{k:Nat}{t:vY}{n:Nat}(hc:X.calm=true)(h:PGs X es t)
 (hn:(assignEach es X.env).length=n:=by rfl) (hst:(assignEach es X.env).findIdx? (·.1)=none:=by rfl):PG X (.Tuple es k pos) (Dv X.K n t):=by
 intro ab s σ H v u Q I r hw;obtain⟨a,xs,e1,hq,hl,hw⟩:=hw
 subst e1;cases r
 obtain⟨its,rv,ht,hz⟩:=I.tuple hq
 refine assign_Tuple_tuple (I.ok.hd hc) ht (by simp[hn,<-hl,rv.length]) hst λh' hx=>?_
 have I1:Inv X ab σ H {s with heap:=h'}:=I.kept (t':=s.toks) λb o e=>hx b o (Nat.ne_of_lt (Heap.lt_size e)) e
 exact h ab _ σ H xs _ Q I1 (by simpa using rv) hw
def DL(to ti:TE)(t:z7):TG:=λv σ H Q=>to σ H λo H1=>ti σ H1 λi H2=>t o i v H2 λH3=>Q σ H3
theorem zG {o i:Expr}{to ti:TE}{t:z7}(ho:PE X o to)(hi:PE X i ti)(hs:B9 X t)
 (ha: ∀v,assign (.Subscript o i pos) X.env v=(do
   let ov <-holding [v] (eval o X.env)
   let iv <-holding [v,ov] (eval i X.env)
   standAt pos
   holding [v,ov,iv] (setItem ov iv v)
   release [v,ov,iv] []):=by intro _;rfl):PG X (.Subscript o i pos) (DL to ti t):=by
 intro ab s σ H v u Q I r h;rw[ha];refine wpAny_bind (wpAny_holding (bM (ho ab s σ H _ I h) λov s1 hq_=>?_))
 obtain⟨x,H1,I1,r1,q1⟩:=hq_
 refine wpAny_bind (wpAny_holding (bM (hi ab s1 σ H1 _ I1 q1) λiv s2 hq_=>?_))
 obtain⟨y,H2,I2,r2,q2⟩:=hq_
 refine wpAny_bind (wpAny_standAt (wpAny_bind (wpAny_holding (bM (hs ab s2 σ H2 x y v ov iv u _ I2 r1 r2 r q2) λ_ s3 hq_=>?_))))
 obtain⟨H3,I3,q3⟩:=hq_
 exact wpAny_release ⟨σ,H3,I3,q3⟩
def Ag(te:TE)(g:TG):TS:=λD σ H=>te σ H λx H1=>g x σ H1 D.nx
theorem sx {tg e:Expr}{te:TE}{g:TG}(he:PE X e te)(hg:PG X tg g)(hs:swapsWithSole [tg] e pos.line X.env=pure false:=by rfl)(hw:swappedStores [tg] e X.env=pure none:=by rfl)
 (h1:(assignEach [tg] X.env).map (·.2)=[assign tg X.env]:=by rfl):PS X (.Assign [tg] e pos) (Ag te g):=by
 intro ab s σ H D I h;refine wpAny_Assign_stores (bM (he ab s σ H _ I h) λv s1 ⟨x,H1,I1,r1,q1⟩=>?_) hs hw
 rw[h1];exact bM (hg ab s1 σ H1 x v _ I1 r1 q1) λ_ s2 q=>q
theorem ko {i:Nat}{x:Str}{e:Expr}{te:TE}{pos':Pos}(hN:X.N.Nodup)(hi:X.N[i]? =some x)(hx:tN X.env.scope x)(he:PE X e te)(hs:swapsWith e (some (.Name x pos')) pos.line X.env=pure false:=by rfl)(hf:X.fn x=true\/X.env.scope.names.lookup x=some .local:=by first|exact .inl rfl|exact .inr rfl|assumption):
 PS X (.Assign [.Name x pos'] e pos) (Ag te (vI i)):=by
 intro ab s σ H D I h;refine wpAny_Assign_Name (bM (he ab s σ H _ I h) λv s1 ⟨y,H1,I1,r1,q1⟩=>?_) hs
 exact p6 I1 hN hi hx r1 (λs2 I2=>⟨_,H1,I2,q1⟩) hf
end
section
variable {X:Cx}{pos:Pos}
def Ay(c:TT)(tb:TS):TS:=λD σ H=> ∃W:Nat->St->Hp->Prop,(∃m,W m σ H)/\ ∀m σ H,W m σ H->
 c σ H λb H1=>if b=true then∃N:St->Hp->Prop,(∀σ' H',N σ' H'-> ∃m',m'<m/\W m' σ' H')/\tb {D with nx:=N,ct:=N,bk:=D.nx} σ H1 else D.nx σ H1
theorem wT {c:Expr}{body:List Stmt}{tc:TT}{tb:TS}(hp:PassesOwn (model X.prog X.w) X.A X.env X.xe)(hc:PT X c tc)(hb:PSs X body tb):PS X (.While c body [] pos) (Ay tc tb):=by
 intro ab s σ H D I h;obtain⟨W,⟨m0,w0⟩,turn⟩:=h
 refine wpAny_While (codeAny_whileLoop (λn s'=> ∃σ' H',Inv X ab σ' H' s'/\W n σ' H') ?_ m0 ⟨σ,H,I,w0⟩)
 rintro n s1 ⟨σ1,H1,I1,w1⟩
 refine wpAny_passesOwn hp (bM (hc ab s1 σ1 H1 _ I1 (turn n σ1 H1 w1)) λb s2 hq_=>?_)
 obtain⟨H2,I2,q2⟩:=hq_
 cases b with
 |true=>
  obtain⟨N,hN,q2⟩:=q2
  rw[if_pos rfl];refine wpAny_passesOwn hp (bM (hb ab s2 σ1 H2 _ I2 q2) λf s3 q3=>?_)
  cases f with
  |next=>
   obtain⟨σ3,H3,I3,n3⟩:=q3
   obtain⟨m',hm,w3⟩:=hN σ3 H3 n3
   exact⟨m',hm,σ3,H3,I3,w3⟩
  |cont=>
   obtain⟨σ3,H3,I3,n3⟩:=q3
   obtain⟨m',hm,w3⟩:=hN σ3 H3 n3
   exact⟨m',hm,σ3,H3,I3,w3⟩
  |brk=>exact q3
  |ret v=>exact q3
 |false=>
  rw[if_neg Bool.false_ne_true];exact wpAny_execs_nil ⟨σ1,H2,I2,q2⟩
end
structure It where
 go:Nat->Hp->Prop
 yld:Nat->Hp->V->Hp->Prop
 stop:Nat->Hp->Prop
def iM(X:Cx)(ab:List (Addr×Obj))(H:Hp)(b:Addr):Prop:=
 H b=none/\b≠X.env.locals/\b∉X.fs/\(b∈X.ex\/X.s₀.heap.objs.size<=b)/\(∀x c,X.env.cells.lookup x=some c->c≠b)/\ ∀p∈X.pn++ab,p.1≠b
theorem Inv.fpOk {X:Cx}{ab:List (Addr×Obj)}{σ:St}{H H':Hp}{s:Shared}{b:Addr}(I:Inv X ab σ H s)(hb:s.heap.objs.size<=b)(hn:H' b=none):iM X ab H' b:=by
 refine⟨hn,Nat.ne_of_gt (Nat.lt_of_lt_of_le I.lt hb),I.nofs hb,.inr (Nat.le_trans I.sz hb),λx c e z=>?_,λp hp z=>?_⟩
 ·obtain⟨v,q⟩:=I.cell x c e
  exact absurd (Nat.lt_of_lt_of_le q.lt (by rw[z];exact hb)) (Nat.lt_irrefl _)
 ·exact absurd (Nat.lt_of_lt_of_le (Heap.lt_size (I.pin p hp).1) (by rw[z];exact hb)) (Nat.lt_irrefl _)
structure Turn(P:Program)(w:World)(K:W.Frag)(tg:Expr)(J:It)(fp:List Addr)(it:Addr)(tn:Nat->Heap->Prop):Prop where
 mem:it∈fp
 obj: ∀i h,tn i h-> ∀b∈fp,∃o,h.get? b=some o/\ ∀v,o.data≠ .cell v
 keep: ∀i h h',tn i h->(∀b∈fp,∀o,h.get? b=some o->h'.get? b=some o)->tn i h'
 item: ∀(X:Cx),X.prog=P->X.w=w->X.K=K->X.calm=true-> ∀(i:Nat) (ab:List (Addr×Obj)) (s:Shared) (σ:St) (H:Hp) (E:Value->Shared->Prop),Inv X ab σ H s->(∀b∈fp,iM X ab H b)->tn i s.heap->J.go i H->
  wpAny (model P w) X.A (pyNext (.ref it)) (λr s1=> ∃u,r=some u/\
   wpAny (model P w) X.A (letOwnedTupleGo tg (.ref it) u) (λ_ s2=> ∃x H',Inv X ab σ H' s2/\RelV x u/\J.yld i H x H'/\tn (i+1) s2.heap/\ ∀b∈fp,H' b=none) E s1) E s
 done: ∀(X:Cx),X.prog=P->X.w=w->X.K=K->X.calm=true-> ∀(i:Nat) (ab:List (Addr×Obj)) (s:Shared) (σ:St) (H:Hp) (E:Value->Shared->Prop),Inv X ab σ H s->(∀b∈fp,iM X ab H b)->tn i s.heap->J.stop i H->
  wpAny (model P w) X.A (pyNext (.ref it)) (λr s1=>r=none/\Inv X ab σ H s1) E s
 self: ∀(A:Around) (i:Nat) (s:Shared) (Q:Value->Shared->Prop) (E:Value->Shared->Prop),tn i s.heap->Q (.ref it) s->wpAny (model P w) A (pyIter (.ref it)) Q E s
abbrev TI:=St->Hp->(It->Hp->Prop)->Prop
def Ej(X:Cx)(ab:List (Addr×Obj))(σ:St)(tg:Expr)(R:It->Hp->Prop)(itv:Value)(s2:Shared):Prop:=
 ∃(it:Addr) (fp:List Addr) (tn:Nat->Heap->Prop) (J:It) (H':Hp),itv=.ref it/\Inv X ab σ H' s2/\Turn X.prog X.w X.K tg J fp it tn/\tn 0 s2.heap/\(∀b∈fp,iM X ab H' b)/\R J H'
def PI(X:Cx)(tg iter:Expr)(wi:TI):Prop:=
 ∀(ab:List (Addr×Obj)) (s:Shared) (σ:St) (H:Hp) (R:It->Hp->Prop),Inv X ab σ H s->wi σ H R->
  wpAny (model X.prog X.w) X.A (eval iter X.env) (λv s1=>wpAny (model X.prog X.w) X.A (pyIter v) (Ej X ab σ tg R) X.xe s1) X.xe s
theorem vH {M:Model}{A:Around}{E:Value->Shared->Prop}{s:Shared}{tg:Expr}{it:Addr}{u:Value}{o:Obj}{n:String}{vs:Array Value}{Q:Unit->Shared->Prop}(ho:s.heap.get? it=some o)(hc:o.cls=.type n)(hd:o.data=.fields vs)
 (hn:["enumerate","zip","dict_itemiterator","dict_reverseitemiterator","odict_iterator","itertools.zip_longest","itertools.pairwise"].contains n=false) (hQ:Q () s):wpAny M A (letOwnedTupleGo tg (.ref it) u) Q E s:=by
 unfold letOwnedTupleGo;cases tg<;>first
  |exact wpAny_pure hQ
  |(cases u<;>first
     |exact wpAny_pure hQ
     |(refine wpAny_bind (wpAny_load ho ?_)
       rw[hc,hd];show wpAny M A (if(["enumerate","zip","dict_itemiterator","dict_reverseitemiterator","odict_iterator","itertools.zip_longest","itertools.pairwise"].contains n&&vs[0]? ==some (rawInt _))=true then _ else _) Q E s
       rw[if_neg (by intro h;rw[hn,Bool.false_and] at h;cases h)]
       exact wpAny_pure hQ))
def Dr(K:W.Frag)(a:Addr):It:=
 ⟨λi H=> ∃xs x,SqL K H a xs/\xs[i]? =some x,λi H x H'=>H'=H/\ ∀xs,SqL K H a xs->xs[i]? =some x,λi H=> ∃xs,SqL K H a xs/\xs.length<=i⟩
def Do(K:W.Frag)(a:Addr):It:=
 ⟨λi H=> ∃xs x,SqT K H a xs/\xs[i]? =some x,λi H x H'=>H'=H/\ ∀xs,SqT K H a xs->xs[i]? =some x,λi H=> ∃xs,SqT K H a xs/\xs.length<=i⟩
def BM(lo:Int)(n:Nat):It:=⟨λi _=>i<n,λi H x H'=>H'=H/\x=.int (lo+i),λi _=>n<=i⟩
theorem uo {P:Program}{w:World}{K:W.Frag}{tg:Expr}(a it:Addr):Turn P w K tg (Dr K a) [it] it (λi h=>h.IsListIter it a i) where
 mem:=by simp
 obj:=λi h st b hb=>by
  have e:b=it:=by simpa using hb
  subst e;obtain⟨o,e,c,d⟩:=st
  exact⟨o,e,λv z=>by rw[d] at z;cases z⟩
 keep:=λi h h' st k=>st.at λo e=>k it (by simp) o e
 item:=by
  intro X hP hw hK hc i ab s σ H E I hf st hg;subst hP hw hK;obtain⟨xs,x,hq,hx⟩:=hg
  obtain⟨its,rv,p,hz⟩:=I.list hq
  obtain⟨u,hu,ru⟩:=rv.get hx
  obtain⟨f0,f1,f2,f3,f4,f5⟩:=hf it (by simp)
  refine wpAny_pyNext_list_item st p.isList (x:=u) (by simpa using hu) λh' st' sb=>?_
  have I1:Inv X ab σ H {s with heap:=h'}:=I.turned (t':=s.toks) (λb o hb e=>(sb.2 b hb).trans e) f0 f1 f3 f4 f5
  obtain⟨o,e,c,d⟩:=id st'
  exact⟨u,rfl,vH (s:={s with heap:=h'}) e c d (by decide) ⟨x,H,I1,ru,⟨rfl,λys hy=>by rw[I.list_inj hy hq];exact hx⟩,st',λb hb=>(hf b hb).1⟩⟩
 done:=by
  intro X hP hw hK hc i ab s σ H E I hf st hg;subst hP hw hK;obtain⟨xs,hq,hx⟩:=hg
  obtain⟨its,rv,p,hz⟩:=I.list hq
  obtain⟨f0,f1,f2,f3,f4,f5⟩:=hf it (by simp)
  have hl:=rv.length
  exact wpAny_pyNext_list_end (I.ok.hd hc) st p.isList (by simp;omega) λh' eb=>⟨rfl,I.turned (t':=s.toks) (λb o hb e=>eb b o hb e) f0 f1 f3 f4 f5⟩
 self:=λ_ _ _ _ _ st h=>wpAny_pyIter_listiter st h
theorem rZ {P:Program}{w:World}{K:W.Frag}{tg:Expr}(a it:Addr):Turn P w K tg (Do K a) [it] it (λi h=>h.IsTupleIter it a i) where
 mem:=by simp
 obj:=λi h st b hb=>by
  have e:b=it:=by simpa using hb
  subst e;obtain⟨o,e,c,d⟩:=st
  exact⟨o,e,λv z=>by rw[d] at z;cases z⟩
 keep:=λi h h' st k=>st.at λo e=>k it (by simp) o e
 item:=by
  intro X hP hw hK hc i ab s σ H E I hf st hg;subst hP hw hK;obtain⟨xs,x,hq,hx⟩:=hg
  obtain⟨its,rv,p,hz⟩:=I.tuple hq
  obtain⟨u,hu,ru⟩:=rv.get hx
  obtain⟨f0,f1,f2,f3,f4,f5⟩:=hf it (by simp)
  refine wpAny_pyNext_tuple_item st (show s.heap.IsTuple a its.toArray from p) (x:=u) (by simpa using hu) λh' st' sb=>?_
  have I1:Inv X ab σ H {s with heap:=h'}:=I.turned (t':=s.toks) (λb o hb e=>(sb.2 b hb).trans e) f0 f1 f3 f4 f5
  obtain⟨o,e,c,d⟩:=id st'
  exact⟨u,rfl,vH (s:={s with heap:=h'}) e c d (by decide) ⟨x,H,I1,ru,⟨rfl,λys hy=>by rw[I.tuple_inj hy hq];exact hx⟩,st',λb hb=>(hf b hb).1⟩⟩
 done:=by
  intro X hP hw hK hc i ab s σ H E I hf st hg;subst hP hw hK;obtain⟨xs,hq,hx⟩:=hg
  obtain⟨its,rv,p,hz⟩:=I.tuple hq
  obtain⟨f0,f1,f2,f3,f4,f5⟩:=hf it (by simp)
  have hl:=rv.length
  exact wpAny_pyNext_tuple_end (I.ok.hd hc) st (show s.heap.IsTuple a its.toArray from p) (by simp;omega) λh' eb=>⟨rfl,I.turned (t':=s.toks) (λb o hb e=>eb b o hb e) f0 f1 f3 f4 f5⟩
 self:=λ_ _ _ _ _ st h=>wpAny_pyIter_tupleiter st h
theorem ss {P:Program}{w:World}{K:W.Frag}{tg:Expr}(it:Addr)(lo:Int)(n:Nat):Turn P w K tg (BM lo n) [it] it (λi h=>IsRangeIter h it (lo+(i:Nat)*1) ((n:Int) - (i:Nat)) 1) where
 mem:=by simp
 obj:=λi h st b hb=>by
  have e:b=it:=by simpa using hb
  subst e;exact⟨_,st,λv z=>by
   have z':Data.fields _=Data.cell v:=z
   cases z'⟩
 keep:=λi h h' st k=>k it (by simp) _ st
 item:=by
  intro X hP hw hK hc i ab s σ H E I hf st hg;subst hP hw hK;obtain⟨f0,f1,f2,f3,f4,f5⟩:=hf it (by simp)
  have W:=Walks.range (prog:=X.prog) (w:=X.w) (I.ok.hd hc) it lo 1 n
  refine W.item i s _ _ hg st λv h' tk hv st' kk=>?_
  obtain⟨t,rfl⟩:=hv
  have I1:Inv X ab σ H {s with heap:=h',toks:=tk}:=I.turned (λb o hb e=>kk b o (by simpa using hb) e) f0 f1 f3 f4 f5
  refine⟨_,rfl,vH (s:={s with heap:=h',toks:=tk}) (n:="range_iterator") st' rfl rfl (by decide) ⟨.int (lo+i),H,I1,⟨t,?_⟩,⟨rfl,rfl⟩,st',λb hb=>(hf b hb).1⟩⟩
  rw[Int.mul_one]
 done:=by
  intro X hP hw hK hc i ab s σ H E I hf st hg;subst hP hw hK;obtain⟨f0,f1,f2,f3,f4,f5⟩:=hf it (by simp)
  exact wpAny_pyNext_range_end (I.ok.hd hc) st (by have:n<=i:=hg;omega) λh' eb=>⟨rfl,I.turned (t':=s.toks) (λb o hb e=>eb b o hb e) f0 f1 f3 f4 f5⟩
 self:=λ_ _ _ _ _ st h=>wpAny_pyIter_rangeiter st h
section
variable {X:Cx}{tg:Expr}
def By(K:W.Frag)(tl:TE):TI:=λσ H R=>tl σ H λx H1=> ∃a,x=.ref a/\(∃xs,SqL K H1 a xs)/\R (Dr K a) H1
def D9(K:W.Frag)(tl:TE):TI:=λσ H R=>tl σ H λx H1=> ∃a,x=.ref a/\(∃xs,SqT K H1 a xs)/\R (Do K a) H1
theorem oj {l:Expr}{tl:TE}(hl:PE X l tl):PI X tg l (By X.K tl):=by
 intro ab s σ H R I h;refine bM (hl ab s σ H _ I h) λv s1 hq_=>?_
 obtain⟨x,H1,I1,r1,q1⟩:=hq_
 obtain⟨a,e,⟨xs,hq⟩,q⟩:=q1
 subst e;cases r1
 obtain⟨its,rv,p,hz⟩:=I1.list hq
 refine wpAny_pyIter_list p.isList ?_
 refine⟨s1.heap.objs.size,[s1.heap.objs.size],_,_,H1,rfl,I1.kept (t':=s1.toks) λb o e=>Heap.get?_push_of_some _ e,uo a _,⟨_,Heap.get?_push_size _ rfl,rfl,rfl⟩,λb hb=>?_,q⟩
 have e:b=s1.heap.objs.size:=by simpa using hb
 subst e;exact I1.fpOk (Nat.le_refl _) (I1.hok.fresh (Nat.le_refl _))
theorem A1 {l:Expr}{tl:TE}(hl:PE X l tl):PI X tg l (D9 X.K tl):=by
 intro ab s σ H R I h;refine bM (hl ab s σ H _ I h) λv s1 hq_=>?_
 obtain⟨x,H1,I1,r1,q1⟩:=hq_
 obtain⟨a,e,⟨xs,hq⟩,q⟩:=q1
 subst e;cases r1
 obtain⟨its,rv,p,hz⟩:=I1.tuple hq
 refine wpAny_pyIter_tuple (show s1.heap.IsTuple a its.toArray from p) ?_
 refine⟨s1.heap.objs.size,[s1.heap.objs.size],_,_,H1,rfl,I1.kept (t':=s1.toks) λb o e=>Heap.get?_push_of_some _ e,rZ a _,⟨_,Heap.get?_push_size _ rfl,rfl,rfl⟩,λb hb=>?_,q⟩
 have e:b=s1.heap.objs.size:=by simpa using hb
 subst e;exact I1.fpOk (Nat.le_refl _) (I1.hok.fresh (Nat.le_refl _))
theorem pI {ab:List (Addr×Obj)}{σ:St}{H:Hp}{s:Shared}{R:It->Hp->Prop}{E:Value->Shared->Prop}{lo hi:Int}{t u v:Tok}{tk:Nat}(I:Inv X ab σ H s)(h1: -(2^62)<=lo)(h2:lo<2^62)(h3: -(2^62)<=hi)(h4:hi<2^62)
 (q:R (BM lo (hi-lo).toNat) H):wpAny (model X.prog X.w) X.A (pyIter (.ref s.heap.objs.size)) (Ej X ab σ tg R) E {s with heap:=s.heap.push {cls:=.type "range",data:=.fields #[.int lo t,.int hi u,.int 1 v]},toks:=tk}:=by
 refine wpAny_pyIter_range (IsRange.new ..) (small_one h1 h2 h3 h4) ?_
 have I1:Inv X ab σ H {s with heap:=s.heap.push {cls:=.type "range",data:=.fields #[.int lo t,.int hi u,.int 1 v]},toks:=tk}:=I.kept λb o e=>Heap.get?_push_of_some _ e
 refine⟨(s.heap.push {cls:=.type "range",data:=.fields #[.int lo t,.int hi u,.int 1 v]}).objs.size,[(s.heap.push {cls:=.type "range",data:=.fields #[.int lo t,.int hi u,.int 1 v]}).objs.size],_,_,H,rfl,
  I1.kept (t':=tk) λb o e=>Heap.get?_push_of_some _ e,ss _ lo (hi-lo).toNat,?_,λb hb=>?_,q⟩
 ·have e1:lo+((0:Nat):Int)*1=lo:=by simp
  have e2:(((hi-lo).toNat:Nat):Int) - ((0:Nat):Int)=Builtin.Range.rangeSize lo hi 1:=by rw[rangeSize_one];split<;>omega
  show IsRangeIter _ _ (lo+((0:Nat):Int)*1) ((((hi-lo).toNat:Nat):Int) - ((0:Nat):Int)) 1;rw[e1,e2];exact Heap.get?_push_size _ rfl
 ·have e:b=(s.heap.push {cls:=.type "range",data:=.fields #[.int lo t,.int hi u,.int 1 v]}).objs.size:=by simpa using hb
  subst e;exact I1.fpOk (Nat.le_refl _) (I1.hok.fresh (Nat.le_refl _))
def BT(ta:TA):TI:=λσ H R=>ta σ H λvs H1=> ∃j:Int,vs=[.int j]/\ -(2^62)<=j/\j<2^62/\R (BM 0 j.toNat) H1
def CM(ta:TA):TI:=λσ H R=>ta σ H λvs H1=> ∃i j:Int,vs=[.int i,.int j]/\(-(2^62)<=i/\i<2^62/\ -(2^62)<=j/\j<2^62)/\R (BM i (j-i).toNat) H1
theorem u0 {a:Expr}{ta:TA}{p pos:Pos}(hg:Gl X "range")(hm:X.mg "range"=none)(ha:PA X [a] ta)(hs:starEach [a] X.env=[(false,eval a X.env)]:=by rfl):PI X tg (.Call (.Name "range" p) [a] [] pos) (BT ta):=by
 intro ab s σ H R I h;refine Call_ (kh I hg hm boot_range (PyProof.Rows.callWith_type1 (bM (ha pos ab s σ H _ I h) λus s1 ⟨vs,H1,I1,r1,q1⟩=>?_) hs rfl))
 obtain⟨j,e,q1,q2,q⟩:=q1
 subst e;cases r1 with
 |cons r rr=>
  cases rr
  obtain⟨t,rfl⟩:=r
  exact call_range_1 (pI I1 (by omega) (by omega) q1 q2 (by simpa using q))
theorem uU {a b:Expr}{ta:TA}{p pos:Pos}(hg:Gl X "range")(hm:X.mg "range"=none)(ha:PA X [a,b] ta)(hs:starEach [a,b] X.env=[(false,eval a X.env),(false,eval b X.env)]:=by rfl)(hs2:starEach [b] X.env=[(false,eval b X.env)]:=by rfl):
 PI X tg (.Call (.Name "range" p) [a,b] [] pos) (CM ta):=by
 intro ab s σ H R I h;refine Call_ (kh I hg hm boot_range (PyProof.Rows.callWith_type1 (bM (ha pos ab s σ H _ I h) λus s1 ⟨vs,H1,I1,r1,q1⟩=>?_) (by rw[hs,hs2]) (by rw[hs2];rfl)))
 obtain⟨i,j,e,⟨q1,q2,q3,q4⟩,q⟩:=q1
 subst e;cases r1 with
 |cons r rr=>
  cases rr with
  |cons r' rr=>
   cases rr
   obtain⟨t,rfl⟩:=r
   obtain⟨t',rfl⟩:=r'
   exact call_range_2 (pI I1 q1 q2 q3 q4 q)
def DD(wi:TI)(g:TG)(tb:TS):TS:=λD σ H=>wi σ H λJ H1=> ∃W:Nat->Nat->St->Hp->Prop,(∃m,W 0 m σ H1)/\ ∀i m σ H,W i m σ H->
 (J.stop i H/\D.nx σ H)\/(J.go i H/\ ∃N:St->Hp->Prop,(∀σ' H',N σ' H'-> ∃m',m'<m/\W (i+1) m' σ' H')/\ ∀x H',J.yld i H x H'->g x σ H' λσ2 H2=>tb {D with nx:=N,ct:=N,bk:=D.nx} σ2 H2)
def ke(fp:List Addr)(h:Heap):List (Addr×Obj):=fp.filterMap λb=>(h.get? b).map λo=>(b,o)
theorem eQ {fp:List Addr}{h:Heap}{b:Addr}{o:Obj}(hb:b∈fp)(e:h.get? b=some o):(b,o)∈ke fp h:=List.mem_filterMap.mpr ⟨b,hb,by rw[e];rfl⟩
theorem u3 {fp:List Addr}{h:Heap}{p:Addr×Obj}(hp:p∈ke fp h):p.1∈fp/\h.get? p.1=some p.2:=by
 obtain⟨b,hb,e⟩:=List.mem_filterMap.mp hp
 cases q:h.get? b with
 |none=>rw[q] at e;cases e
 |some o=>
  rw[q] at e;have e':(b,o)=p:=Option.some.inj e
  subst e';exact⟨hb,q⟩
theorem Inv.pinned {ab:List (Addr×Obj)}{σ:St}{H:Hp}{s:Shared}{fp:List Addr}(I:Inv X ab σ H s)(hf: ∀b∈fp,iM X ab H b)(ho: ∀b∈fp,∃o,s.heap.get? b=some o/\ ∀v,o.data≠ .cell v):Inv X (ab++ke fp s.heap) σ H s:=
 I.pins_of λp hp=>(List.mem_append.mp hp).elim (λz=>I.pin p (List.mem_append_right _ z)) λz=>by
  obtain⟨hb,e⟩:=u3 z
  obtain⟨f0,f1,f2,_⟩:=hf p.1 hb
  obtain⟨o,e',d⟩:=ho p.1 hb
  rw[e] at e';cases e';exact⟨e,f0,f1,f2,d⟩
theorem Inv.unpinned {ab pl:List (Addr×Obj)}{σ:St}{H:Hp}{s:Shared}(I:Inv X (ab++pl) σ H s):Inv X ab σ H s:=I.pins_of λp hp=>I.pin p (List.mem_append_right _ (List.mem_append_left _ hp))
theorem vf {iter:Expr}{body:List Stmt}{wi:TI}{g:TG}{tb:TS}{pos:Pos}(hp:PassesOwn (model X.prog X.w) X.A X.env X.xe)(hc:X.calm=true)(hi:PI X tg iter wi)(hg:PG X tg g)(hb:PSs X body tb)
 (hs: ∀x,foldedSetIterable iter X.env x=pure x:=by intro _;rfl):PS X (.For tg iter body [] pos) (DD wi g tb):=by
 intro ab s σ H D I h;refine wpAny_For (bM (hi ab s σ H _ I h) λv s1 h1=>bM h1 λitv s2 h2=>?_) hs
 obtain⟨it,fp,tn,J,H2,e,I2,T,st2,f2,W,⟨m0,w0⟩,turn⟩:=h2
 subst e;have stat: ∀ {H':Hp},(∀b∈fp,H' b=none)-> ∀b∈fp,iM X ab H' b:=λhn b hb=>⟨hn b hb,(f2 b hb).2⟩
 refine codeAny_forLoop_any (λn s'=> ∃i σ' H',Inv X ab σ' H' s'/\tn i s'.heap/\(∀b∈fp,H' b=none)/\W i n σ' H') ?_ m0 ⟨0,σ,H2,I2,st2,λb hb=>(f2 b hb).1,w0⟩
 rintro n s3 ⟨i,σ3,H3,I3,st3,fr3,w3⟩
 rcases turn i n σ3 H3 w3 with⟨stop,qn⟩|⟨go,N,hN,step⟩
 ·refine wpAny_passesOwn hp (bM (T.done X rfl rfl rfl hc i ab s3 σ3 H3 X.xe I3 (stat fr3) st3 stop) λr s4 hq_=>?_)
  obtain⟨hr,I4⟩:=hq_
  subst hr;exact wpAny_execs_nil ⟨σ3,H3,I4,qn⟩
 ·refine wpAny_passesOwn hp (bM (T.item X rfl rfl rfl hc i ab s3 σ3 H3 X.xe I3 (stat fr3) st3 go) λr s4 hq_=>?_)
  obtain⟨u,hr,h4⟩:=hq_
  subst hr;refine wpAny_passesOwn hp (bM h4 λ_ s5 hq_=>?_)
  obtain⟨x,H5,I5,r5,y5,st5,fr5⟩:=hq_
  have I5':=I5.pinned (stat fr5) (T.obj _ _ st5)
  refine wpAny_passesOwn hp (bM (hg _ s5 σ3 H5 x u _ I5' r5 (step x H5 y5)) λ_ s6 hq_=>?_)
  obtain⟨σ6,H6,I6,q6⟩:=hq_
  refine wpAny_passesOwn hp (bM (hb _ s6 σ6 H6 _ I6 q6) λf s7 q7=>?_)
  have again: ∀ {σ7:St} {H7:Hp},Inv X (ab++ke fp s5.heap) σ7 H7 s7->N σ7 H7-> ∃m,m<n/\ ∃i σ' H',Inv X ab σ' H' s7/\tn i s7.heap/\(∀b∈fp,H' b=none)/\W i m σ' H':=λ{σ7 H7} I7 n7=>by
   obtain⟨m',hm,w7⟩:=hN σ7 H7 n7
   refine⟨m',hm,i+1,σ7,H7,I7.unpinned,T.keep _ _ _ st5 λb hb o e=>(I7.pin (b,o) (List.mem_append_right _ (List.mem_append_right _ (eQ hb e)))).1,λb hb=>?_,w7⟩
   obtain⟨o,e,d⟩:=T.obj _ _ st5 b hb
   exact(I7.pin (b,o) (List.mem_append_right _ (List.mem_append_right _ (eQ hb e)))).2.1
  cases f with
  |next=>obtain⟨σ7,H7,I7,n7⟩:=q7;exact again I7 n7
  |cont=>obtain⟨σ7,H7,I7,n7⟩:=q7;exact again I7 n7
  |brk=>obtain⟨σ7,H7,I7,q7⟩:=q7;exact⟨σ7,H7,I7.unpinned,q7⟩
  |ret v=>obtain⟨x7,σ7,H7,I7,r7,q7⟩:=q7;exact⟨x7,σ7,H7,I7.unpinned,r7,q7⟩
end
abbrev R2:=V->V->Hp->VK->Prop
def jS(X:Cx)(f:Value->Value->Sem Value)(r:R2):Prop:=
 ∀(ab:List (Addr×Obj)) (s:Shared) (σ:St) (H:Hp) (x y:V) (v u:Value) (Q:VK),Inv X ab σ H s->RelV x v->RelV y u->r x y H Q->
  wpAny (model X.prog X.w) X.A (f v u) (EP X ab σ Q) X.xe s
def Ea(X:Cx)(f:Value->Sem Value)(r:V->Hp->VK->Prop):Prop:=
 ∀(ab:List (Addr×Obj)) (s:Shared) (σ:St) (H:Hp) (x:V) (v:Value) (Q:VK),Inv X ab σ H s->RelV x v->r x H Q->
  wpAny (model X.prog X.w) X.A (f v) (EP X ab σ Q) X.xe s
def fm(X:Cx)(f:Value)(r:List V->Hp->VK->Prop):Prop:=
 ∀(ab:List (Addr×Obj)) (s:Shared) (σ:St) (H:Hp) (xs:List V) (us:List Value) (Q:VK),Inv X ab σ H s->Vals xs us->r xs H Q->
  wpAny (model X.prog X.w) X.A (call f us) (EP X ab σ Q) X.xe s
def DZ(X:Cx)(r:V->Hp->(Bool->Hp->Prop)->Prop):Prop:=
 ∀(ab:List (Addr×Obj)) (s:Shared) (σ:St) (H:Hp) (x:V) (v:Value) (Q:Bool->Hp->Prop),Inv X ab σ H s->RelV x v->r x H Q->
  wpAny (model X.prog X.w) X.A (truthy v) (TP X ab σ Q) X.xe s
def Br(r:R2)(ta tb:TE):TE:=λσ H Q=>ta σ H λx H1=>tb σ H1 λy H2=>r x y H2 Q
def ED(r:V->Hp->VK->Prop)(ta:TE):TE:=λσ H Q=>ta σ H λx H1=>r x H1 Q
def rI(C:Int->Int->Prop)(g:Int->Int->V):R2:=λx y H Q=> ∃i j,x=.int i/\y=.int j/\C i j/\Q (g i j) H
def x9(g:Int->Int->V):R2:=λx y H Q=> ∃i j,x=.int i/\y=.int j/\Q (g i j) H
def rU(g:Int->V):V->Hp->VK->Prop:=λx H Q=> ∃i,x=.int i/\Q (g i) H
section
variable {X:Cx}{a b c:Expr}{ta tb tc:TE}{pos:Pos}
theorem AH(ha:PE X a ta)(hb:PE X b tb){ab:List (Addr×Obj)}{s:Shared}{σ:St}{H:Hp}{R:V->V->Hp->Prop}(I:Inv X ab σ H s)
 (h:ta σ H λx H1=>tb σ H1 λy H2=>R x y H2) {Q:Value->Shared->Prop} {f:Value->Value->Sem Value}
 (hf: ∀v u s2 x y H2,Inv X ab σ H2 s2->RelV x v->RelV y u->R x y H2->wpAny (model X.prog X.w) X.A (f v u) Q X.xe s2):
 wpAny (model X.prog X.w) X.A (eval a X.env) (λv s₁=>wpAny (model X.prog X.w) X.A (eval b X.env) (λu s₂=>wpAny (model X.prog X.w) X.A (f v u) Q X.xe s₂) X.xe s₁) X.xe s:=by
 refine bM (ha ab s σ H _ I h) λv s1 hq_=>?_
 obtain⟨x,H1,I1,r1,q1⟩:=hq_
 refine bM (hb ab s1 σ H1 _ I1 q1) λu s2 hq_=>?_
 obtain⟨y,H2,I2,r2,q2⟩:=hq_
 exact hf v u s2 x y H2 I2 r1 r2 q2
theorem y8 {op:Operator}{r:R2}(ho:jS X (binaryOp op) r)(ha:PE X a ta)(hb:PE X b tb):PE X (.BinOp a op b pos) (Br r ta tb):=by
 intro ab s σ H Q I h;exact wpAny_BinOp (AH ha hb I h λv u s2 x y H2 I2 rx ry q=>ho ab s2 σ H2 x y v u Q I2 rx ry q)
theorem Ck {op:UnaryOp}{r:V->Hp->VK->Prop}(ho:Ea X (unaryOp op) r)(ha:PE X a ta):PE X (.UnaryOp op a pos) (ED r ta):=by
 intro ab s σ H Q I h;exact UnaryOp_ (bM (ha ab s σ H _ I h) λv s1 ⟨x,H1,I1,r1,q1⟩=>ho ab s1 σ H1 x v Q I1 r1 q1)
theorem CV {f:Value->Value->Sem Value}{C:Int->Int->Prop}{g:Int->Int->Int}
 (rule: ∀(i j:Int) (t u:Tok) (s:Shared) (Q:Value->Shared->Prop) (E:Value->Shared->Prop),C i j->Q (.int (g i j) s.toks) {s with toks:=s.toks+1}->wpAny (model X.prog X.w) X.A (f (.int i t) (.int j u)) Q E s):
 jS X f (rI C λi j=>.int (g i j)):=by
 intro ab s σ H x y v u Q I rx ry h;obtain⟨i,j,rfl,rfl,hc,q⟩:=h
 obtain⟨t,rfl⟩:=rx
 obtain⟨t',rfl⟩:=ry
 exact rule i j t t' s _ _ hc ⟨.int (g i j),H,I.tok _,⟨_,rfl⟩,q⟩
theorem BG {f:Value->Value->Sem Value}{g:Int->Int->Int}
 (rule: ∀(i j:Int) (t u:Tok) (s:Shared) (Q:Value->Shared->Prop) (E:Value->Shared->Prop),Q (.int (g i j) s.toks) {s with toks:=s.toks+1}->wpAny (model X.prog X.w) X.A (f (.int i t) (.int j u)) Q E s):
 jS X f (x9 λi j=>.int (g i j)):=by
 intro ab s σ H x y v u Q I rx ry h;obtain⟨i,j,rfl,rfl,q⟩:=h
 obtain⟨t,rfl⟩:=rx
 obtain⟨t',rfl⟩:=ry
 exact rule i j t t' s _ _ ⟨.int (g i j),H,I.tok _,⟨_,rfl⟩,q⟩
theorem Bl {f:Value->Value->Sem Value}{g:Int->Int->Bool}
 (rule: ∀(i j:Int) (t u:Tok) (s:Shared) (Q:Value->Shared->Prop) (E:Value->Shared->Prop),Q (.bool (g i j)) s->wpAny (model X.prog X.w) X.A (f (.int i t) (.int j u)) Q E s):
 jS X f (x9 λi j=>.bl (g i j)):=by
 intro ab s σ H x y v u Q I rx ry h;obtain⟨i,j,rfl,rfl,q⟩:=h
 obtain⟨t,rfl⟩:=rx
 obtain⟨t',rfl⟩:=ry
 exact rule i j t t' s _ _ ⟨.bl (g i j),H,I,rfl,q⟩
def CC(i j:Int):Prop:=0<=j/\j<=1000000/\i.natAbs<2^64
theorem vc:jS X (binaryOp .Add) (x9 λi j=>.int (i+j)):=BG λ_ _ _ _ _ _ _ q=>add_int q
theorem zQ:jS X (binaryOp .Sub) (x9 λi j=>.int (i-j)):=BG λ_ _ _ _ _ _ _ q=>sub_int q
theorem zZ:jS X (binaryOp .Mod) (rI (λ_ j=>0<j) λi j=>.int (i % j)):=CV λi j _ _ _ _ _ hc q=>by
 have h1:(0:Int)<j:=hc
 exact mod_int' (by omega) (by rw[Int.fmod_eq_emod_of_nonneg i (by omega)];exact q)
theorem Aq:jS X (binaryOp .Pow) (rI CC λi j=>.int (i^j.toNat)):=CV λ_ _ _ _ _ _ _ hc q=>pow_int_small hc.1 hc.2.1 hc.2.2 q
theorem Eu {f:Value->Sem Value}{g:Int->Int}
 (rule: ∀(i:Int) (t:Tok) (s:Shared) (Q:Value->Shared->Prop) (E:Value->Shared->Prop),Q (.int (g i) s.toks) {s with toks:=s.toks+1}->wpAny (model X.prog X.w) X.A (f (.int i t)) Q E s):
 Ea X f (rU λi=>.int (g i)):=by
 intro ab s σ H x v Q I rx h;obtain⟨i,rfl,q⟩:=h
 obtain⟨t,rfl⟩:=rx
 exact rule i t s _ _ ⟨.int (g i),H,I.tok _,⟨_,rfl⟩,q⟩
theorem AM:Ea X (unaryOp .USub) (rU λi=>.int (-i)):=Eu λ_ _ _ _ _ q=>neg_int q
end
section
variable {X:Cx}{a b c:Expr}{ta tb tc:TE}{pos:Pos}
theorem mz:jS X (compareOp .Lt) (x9 λi j=>.bl (decide (i<j))):=Bl λ_ _ _ _ _ _ _ q=>lt_int q
theorem ua:jS X (compareOp .Gt) (x9 λi j=>.bl (decide (j<i))):=Bl λ_ _ _ _ _ _ _ q=>gt_int q
theorem BE:jS X (compareOp .GtE) (x9 λi j=>.bl (decide (j<=i))):=Bl λ_ _ _ _ _ _ _ q=>ge_int q
theorem bf(b:Expr){op:CmpOp}(h:op≠ .In:=by decide)(h2:op≠ .NotIn:=by decide):behindInMarks op b=false:=by
 have e1:(op==CmpOp.In)=false:=by cases op<;>first|rfl|exact absurd rfl h
 have e2:(op==CmpOp.NotIn)=false:=by cases op<;>first|rfl|exact absurd rfl h2
 cases b<;>simp[behindInMarks,e1,e2]
theorem yr {op:CmpOp}{r:R2}(ho:jS X (compareOp op) r)(ha:PE X a ta)(hb:PE X b tb)(hm:behindInMarks op b=false):PE X (.Compare a [op] [b] pos) (Br r ta tb):=by
 intro ab s σ H Q I h;exact wpAny_Compare1 (AH ha hb I h λv u s2 x y H2 I2 rx ry q=>ho ab s2 σ H2 x y v u Q I2 rx ry q) hm
def CN(t:TE):TT:=λσ H Q=>t σ H λx H'=> ∃k,x=.bl k/\Q k H'
theorem yJ {op:CmpOp}{r:R2}(ho:jS X (compareOp op) r)(ha:PE X a ta)(hb:PE X b tb)(hm:behindInMarks op b=false):PT X (.Compare a [op] [b] pos) (CN (Br r ta tb)):=by
 intro ab s σ H Q I h;refine wpAny_isTrue_Compare1 (bM (ha ab s σ H _ I h) λv s1 ⟨x,H1,I1,r1,q1⟩=>bM (hb ab s1 σ H1 _ I1 q1) λu s2 ⟨y,H2,I2,r2,q2⟩=>
  bM (ho ab s2 σ H2 x y v u _ I2 r1 r2 q2) λc s3 ⟨z,H3,I3,r3,k,e,q3⟩=>?_) hm
 subst e;cases r3
 exact wpAny_truthy_bool ⟨H3,I3,q3⟩
def wf(r r':R2)(ta tb tc:TE):TE:=λσ H Q=>ta σ H λx H1=>tb σ H1 λy H2=>r x y H2 λz H3=> ∃k,z=.bl k/\
 (if k=true then tc σ H3 λw' H4=>r' y w' H4 Q else Q (.bl false) H3)
theorem vN {op op':CmpOp}{r r':R2}(ho:jS X (compareOp op) r)(ho':jS X (compareOp op') r')(ha:PE X a ta)(hb:PE X b tb)(hc:PE X c tc)
 (hm:lastMarks [op,op'] [b,c]=false:=by with_unfolding_all rfl):PE X (.Compare a [op,op'] [b,c] pos) (wf r r' ta tb tc):=by
 intro ab s σ H Q I h;refine Compare_chain (bM (ha ab s σ H _ I h) λv s1 ⟨x,H1,I1,r1,q1⟩=>chain_link (bM (hb ab s1 σ H1 _ I1 q1) λu s2 ⟨y,H2,I2,r2,q2⟩=>
  bM (ho ab s2 σ H2 x y v u _ I2 r1 r2 q2) λd s3 ⟨z,H3,I3,r3,k,e,q3⟩=>?_)) hm
 subst e;cases r3
 refine wpAny_truthy_bool ?_
 cases k with
 |false=>exact ite_ff ⟨.bl false,H3,I3,rfl,q3⟩
 |true=>exact ite_tt (chain_last (bM (hc ab s3 σ H3 _ I3 q3) λw' s4 ⟨z',H4,I4,r4,q4⟩=>ho' ab s4 σ H4 y z' u w' Q I4 r2 r4 q4))
def Av(K:W.Frag)(x:V)(H:Hp)(k:Bool):Prop:=
 match x with
 | .non=>k=false
 | .bl b=>k=b
 | .int i=>k=(i !=0)
 | .str y=>y.length<=sizeLine/\k=((y.length:Int) !=0)
 | .byt y=>y.size<=sizeLine/\k=((y.size:Int) !=0)
 | .ref p=>(∃xs,SqL K H p xs/\k= !xs.isEmpty)\/(∃xs,SqT K H p xs/\k= !xs.isEmpty)\/ ∃kvs,H p=some (.dK kvs)/\k= !kvs.isEmpty
 |_=>False
theorem rV {κ:Type}{kvs:List (κ×V)}{vs:List (κ×Value)}(r:KV kvs vs):(!vs.isEmpty)= !kvs.isEmpty:=by
 cases r<;>rfl
theorem lH {xs:List V}{its:List Value}(r:Vals xs its):(!its.toArray.isEmpty)= !xs.isEmpty:=by
 cases r<;>simp
theorem jm:(sizeLine:Nat)<2^63:=by rw[sizeLine_eq];decide
theorem AO:DZ X (λx H Q=> ∃k,Av X.K x H k/\Q k H):=by
 intro ab s σ H x v Q I rx h;obtain⟨k,e,q⟩:=h
 have hl:=jm
 have hs:sizeLine=16777216:=sizeLine_eq
 cases x with
 |non=>
  cases rx
  have e':k=false:=e
  subst e';exact truthy_none ⟨H,I,q⟩
 |bl b=>
  cases rx
  have e':k=b:=e
  subst e';exact wpAny_truthy_bool ⟨H,I,q⟩
 |int i=>
  obtain⟨t,rfl⟩:=rx
  have e':k=(i !=0):=e
  subst e';exact PySem.P.truthy_int ⟨H,I,q⟩
 |str y=>
  obtain⟨t,rfl⟩:=rx
  obtain⟨hy,e'⟩:y.length<=sizeLine/\k=((y.length:Int) !=0):=e
  subst e';exact PySem.P.truthy_str (by omega) ⟨H,I.tok _,q⟩
 |byt y=>
  obtain⟨t,rfl⟩:=rx
  obtain⟨hy,e'⟩:y.size<=sizeLine/\k=((y.size:Int) !=0):=e
  subst e';exact W.truthy_bytes (by omega) ⟨H,I.tok _,q⟩
 |ref p=>
  cases rx
  have e':(∃xs,SqL X.K H p xs/\k= !xs.isEmpty)\/(∃xs,SqT X.K H p xs/\k= !xs.isEmpty)\/ ∃kvs,H p=some (.dK kvs)/\k= !kvs.isEmpty:=e
  rcases e' with⟨xs,hx,e'⟩|⟨xs,hx,e'⟩|⟨kvs,hx,e'⟩
  ·subst e'
   obtain⟨its,r,pl,hz⟩:=I.list hx
   have hlen:=r.length
   exact wpAny_truthy_list pl.isList (by simp only[List.size_toArray];omega) ⟨H,I.tok _,by rw[lH r];exact q⟩
  ·subst e'
   obtain⟨its,r,pl,hz⟩:=I.tuple hx
   have hlen:=r.length
   exact truthy_tuple pl (by simp only[List.size_toArray];omega) ⟨H,I.tok _,by rw[lH r];exact q⟩
  ·subst e'
   obtain⟨hz,hS,vs,r,m⟩:kvs.length<=sizeLine/\(p==sysModules)=false/\ ∃vs,KV kvs vs/\s.heap.DictOf (cx X.prog X.w) p vs:=I.hok p _ hx
   have hlen:kvs.length=vs.length:=Paired.length r
   exact wpAny_truthy_dict hS m (by omega) ⟨H,I.tok _,by rw[rV r];exact q⟩
 |_=>exact(show False from e).elim
theorem xa(ha:PE X a ta)(he: ∀whole,isTrue a X.env whole=(do let v <-whole;standAt a.pos;holding [v] (truthy v))):
 PT X a (λσ H Q=>ta σ H λx H'=> ∃k,Av X.K x H' k/\Q k H'):=by
 intro ab s σ H Q I h;exact isTrue_plain (bM (ha ab s σ H _ I h) λv s1 ⟨x,H1,I1,r1,q1⟩=>AO ab s1 σ H1 x v Q I1 r1 q1) (he _)
theorem hX {x:V}{us:List Value}(r:Vals [x] us): ∃u,us=[u]/\RelV x u:=by
 cases r with
 |cons r1 r2=>cases r2;exact⟨_,rfl,r1⟩
theorem v4 {x y:V}{us:List Value}(r:Vals [x,y] us): ∃u w',us=[u,w']/\RelV x u/\RelV y w':=by
 cases r with
 |cons r1 r2=>
  cases r2 with
  |cons r3 r4=>cases r4;exact⟨_,_,rfl,r1,r3⟩
theorem wL:fm X (.builtin "abs") (λxs H Q=> ∃i,xs=[.int i]/\Q (.int (if i<0 then -i else i)) H):=by
 intro ab s σ H xs us Q I r h;obtain⟨i,rfl,q⟩:=h
 obtain⟨u,rfl,t,rfl⟩:=hX r
 exact call_abs_int λu tk=>⟨.int (if i<0 then -i else i),H,I.tok _,⟨_,rfl⟩,q⟩
theorem iu(hc:X.calm=true):fm X (.builtin "max") (λxs H Q=> ∃i j,xs=[.int i,.int j]/\Q (.int (if j>i then j else i)) H):=by
 intro ab s σ H xs us Q I r h;obtain⟨i,j,rfl,q⟩:=h
 obtain⟨u,w',rfl,⟨t,rfl⟩,⟨t',rfl⟩⟩:=v4 r
 refine max_two_ints (I.ok.hd hc) λh' tk k=>⟨_,H,I.kept k,?_,q⟩
 by_cases hj:j>i
 ·rw[if_pos hj,if_pos hj];exact⟨_,rfl⟩
 ·rw[if_neg hj,if_neg hj];exact⟨_,rfl⟩
theorem gG(hc:X.calm=true):fm X (.builtin "min") (λxs H Q=> ∃i j,xs=[.int i,.int j]/\Q (.int (if j<i then j else i)) H):=by
 intro ab s σ H xs us Q I r h;obtain⟨i,j,rfl,q⟩:=h
 obtain⟨u,w',rfl,⟨t,rfl⟩,⟨t',rfl⟩⟩:=v4 r
 refine min_two_ints (I.ok.hd hc) λh' tk k=>⟨_,H,I.kept k,?_,q⟩
 by_cases hj:j<i
 ·rw[if_pos hj,if_pos hj];exact⟨_,rfl⟩
 ·rw[if_neg hj,if_neg hj];exact⟨_,rfl⟩
theorem eM:fm X (.type "int") (λxs H Q=>(∃i,xs=[.int i]/\Q (.int i) H)\/ ∃k,xs=[.bl k]/\Q (.int (if k then 1 else 0)) H):=by
 intro ab s σ H xs us Q I r h;rcases h with⟨i,rfl,q⟩|⟨k,rfl,q⟩
 ·obtain⟨u,rfl,t,rfl⟩:=hX r
  exact call_int_int ⟨.int i,H,I,⟨_,rfl⟩,q⟩
 ·obtain⟨u,rfl,r1⟩:=hX r
  cases r1
  exact call_int_bool ⟨.int (if k then 1 else 0),H,I.tok _,⟨_,rfl⟩,q⟩
end
theorem RelO.some_of {v:V}{o:Option Value}(r:RelO (some v) o): ∃u,o=some u/\RelV v u:=by
 cases o with
 |none=>exact(show False from r).elim
 |some u=>exact⟨u,rfl,r⟩
structure Room(k:Nat)(A:Around):Prop where
 hd:A.handled=none
 dp:A.depth+3*k+5<recursionLimit
 un:A.units+16*k+200<cLine
theorem Room.mono {j k:Nat}{A:Around}(r:Room k A)(h:j<=k):Room j A:=⟨r.hd,by have:=r.dp;omega,by have:=r.un;omega⟩
theorem Room.deeper {k:Nat}{A:Around}(r:Room (k+1) A)(env:Env):Room k (A.deeper env):=
 ⟨r.hd,by have:=r.dp;show A.depth+1+3*k+5<_;omega,by have:=r.un;show A.units+3+16*k+200<_;omega⟩
theorem Room.depth {k:Nat}{A:Around}(r:Room k A):A.depth<recursionLimit:=by have:=r.dp;omega
theorem Room.units {k:Nat}{A:Around}(r:Room k A):A.units+64<cLine:=by have:=r.un;omega
def DV:TA:=λ_ H Q=>Q [] H
def Cv(ta:TE)(tr:TA):TA:=λσ H Q=>ta σ H λx H1=>tr σ H1 λxs H2=>Q (x::xs) H2
section
variable {X:Cx}{e:Expr}{es:List Expr}{te:TE}{t:TA}{pos:Pos}
theorem ee:PA X [] DV:=λ_ _ _ _ H Q I h=>Calls.spliced_nil ⟨[],H,I,.nil,h⟩
theorem bw(ha:PE X e te)(hr:PA X es t)(hs:starEach (e::es) X.env=(false,eval e X.env)::starEach es X.env:=by rfl):PA X (e::es) (Cv te t):=by
 intro pos ab s σ H Q I h;rw[hs];show wpAny _ _ (spliced ((false,eval e X.env)::backTo pos (starEach es X.env))) _ _ s;refine Calls.spliced_cons (bM (ha ab s σ H _ I h) λu s1 hq_=>?_)
 obtain⟨x,H1,I1,r1,q1⟩:=hq_
 exact bM (hr pos ab s1 σ H1 _ I1 q1) λus s2 ⟨xs,H2,I2,r2,q2⟩=>⟨x::xs,H2,I2,.cons r1 r2,q2⟩
def C9(t:TA):TE:=λσ H Q=>t σ H λxs H1=>xs.length<=sizeLine/\ ∀p,H1 p=none->Q (.ref p) (bq H1 p (.tup xs))
def Di(t:TA):TE:=λσ H Q=>t σ H λxs H1=>xs.length<=sizeLine/\ ∀p,H1 p=none->Q (.ref p) (bq H1 p (.lst xs))
theorem oS {x1}(h:PA X es t):PE X (.Tuple es x1 pos) (C9 t):=by
 intro ab s σ H Q I hq;refine wpAny_Tuple_spliced (bM (h pos ab s σ H _ I hq) λus s1 ⟨xs,H1,I1,r,z,q⟩=>⟨by rw[<-r.length];exact z,?_⟩)
 have hf:H1 s1.heap.objs.size=none:=I1.hok.fresh (Nat.le_refl _)
 refine⟨.ref s1.heap.objs.size,bq H1 s1.heap.objs.size (.tup xs),I1.laid (t':=s1.toks) (λb u e=>Heap.get?_push_of_some _ e) (Nat.le_refl _) ?_,rfl,q _ hf⟩
 exact⟨z,us,r,⟨_,Heap.get?_push_size _ rfl,rfl,_,rfl⟩,_,Heap.get?_push_size _ rfl,rfl⟩
theorem wZ(h:PA X es t):PE X (.List es pos) (Di t):=by
 intro ab s σ H Q I hq;refine wpAny_List_spliced (bM (h pos ab s σ H _ I hq) λus s1 ⟨xs,H1,I1,r,z,q⟩=>⟨by rw[<-r.length];exact z,?_⟩)
 have hf:H1 s1.heap.objs.size=none:=I1.hok.fresh (Nat.le_refl _)
 refine⟨.ref s1.heap.objs.size,bq H1 s1.heap.objs.size (.lst xs),I1.laid (t':=s1.toks) (λb u e=>Heap.get?_push_of_some _ e) (Nat.le_refl _) ?_,rfl,q _ hf⟩
 exact⟨z,us,0,r,Heap.get?_push_size _ rfl⟩
end
abbrev Sp:=List V->Hp->VK->XK->Prop
abbrev vJ:=List Env->Hp->Shared->XK->Value->Shared->Prop
structure Env0(P:Program)(w:World)(K:W.Frag)(mg:Str->Option Value)(base:Heap)(A:Around)(outer:List Env)(s:Shared)(H:Hp):Prop where
 frames:A.frames=some outer
 mod:Mod K mg base
 bs: ∀b o,base.get? b=some o->s.heap.get? b=some o/\H b=none
 bsz:base.objs.size<=s.heap.objs.size
 funs:s.heap.FunFrames base outer
 frf: ∀b∈pA outer,H b=none
 hok:HOk P w H s.heap
 bare:AllBare s.gens
def CE(outer:List Env)(P:Program)(w:World)(H:Hp)(s:Shared)(Q:VK)(u:Value)(s':Shared):Prop:=
 ∃v H',s'.os=s.os/\AllBare s'.gens/\Un (pA outer) [] H H' s.heap s'.heap/\HOk P w H' s'.heap/\RelV v u/\Q v H'
def CR(CX:vJ)(outer:List Env)(P:Program)(w:World)(H:Hp)(s:Shared)(Q:VK)(E:XK)(r:Result)(s':Shared):Prop:=
 match r with
 | .ok (.ret u)=>CE outer P w H s Q u s'
 | .ok _=>False
 | .error e=>CX outer H s E e s'
structure FnOk(P:Program)(w:World)(K:W.Frag)(mg:Str->Option Value)(base:Heap)(CX:vJ)(k:Nat)(f:Addr)(fd:FuncData)(ps:List Str)(sp:Sp):Prop where
 len: ∀vs H Q E,sp vs H Q E->vs.length=ps.length
 run: ∀(A:Around) (outer:List Env) (s:Shared) (H:Hp) (args:Args) (us:List Value) (vs:List V) (Q:VK) (E:XK),Room k A->Env0 P w K mg base A outer s H->BindsTo s fd args (ps.zip us)->Vals vs us->sp vs H Q E->
  codeAny (model P w) A (.call (.ref f) args) (CR CX outer P w H s Q E) s
theorem FnOk.imp {P:Program}{w:World}{K:W.Frag}{mg:Str->Option Value}{base:Heap}{CX:vJ}{k:Nat}{f:Addr}{fd:FuncData}{ps:List Str}{sp sp':Sp}(F:FnOk P w K mg base CX k f fd ps sp)
 (h: ∀vs H Q E,sp' vs H Q E->sp vs H Q E):FnOk P w K mg base CX k f fd ps sp':=
 ⟨λvs H Q E q=>F.len vs H Q E (h _ _ _ _ q),λA outer s H args us vs Q E hr he hb hv hs=>F.run A outer s H args us vs Q E hr he hb hv (h _ _ _ _ hs)⟩
section
variable {X:Cx}{ab:List (Addr×Obj)}{σ:St}{H:Hp}{s s':Shared}
theorem Inv.env0(I:Inv X ab σ H s):Env0 X.prog X.w X.K X.mg X.base X.A X.stack s H:=
 ⟨I.ok.frames,I.ok.mod,I.bs,Nat.le_trans I.ok.bsz I.sz,I.stack,I.stkFree,I.hok,I.bare⟩
theorem Inv.after {Q:VK}{u:Value}(I:Inv X ab σ H s)(h:CE X.stack X.prog X.w H s Q u s'):EP X ab σ Q u s':=by
 obtain⟨v,H',os,bare,un,hok,r,q⟩:=h
 obtain⟨hh,g,d,t,os'⟩:=s'
 obtain rfl:os'=s.os:=os
 exact⟨v,H',I.call (h':=hh) (g':=g) (d':=d) (t':=t) (ch:=[]) un hok bare (λb z=>absurd z (by simp)),r,q⟩
end
def Cj(sp:Sp)(dvs:List V)(E:XK)(t:TA):TE:=λσ H Q=>t σ H λvs H1=>sp (vs++dvs) H1 Q E
def Binds(K:W.Frag)(fd:FuncData)(ps:List Str)(ds:List Value):Prop:=
 ∀(s:Shared) (us:List Value),K.In s.heap->(us++ds).length=ps.length->BindsTo s fd ⟨us,[]⟩ (ps.zip (us++ds))
theorem Binds.all {K:W.Frag}{fd:FuncData}{ps:List Str}(h: ∀us:List Value,us.length=ps.length->bindArgs fd ⟨us,[]⟩=pure (ps.zip us)):Binds K fd ps []:=λs us _ hl=>by
 rw[List.append_nil] at hl⊢;exact .of_eq (h us hl)
def rm(CX:vJ)(X:Cx)(E:XK):Prop:= ∀(ab:List (Addr×Obj)) (σ:St) (H:Hp) (s:Shared) (e:Value) (s':Shared),Inv X ab σ H s->CX X.stack H s E e s'->X.xe e s'
section
variable {X:Cx}{CX:vJ}{k:Nat}{f C:Addr}{fd:FuncData}{ps:List Str}{sp:Sp}{dvs:List V}{ds:List Value}{E:XK}{x m:Str}{p pos apos:Pos}{e o:Expr}{es:List Expr}{ta:TE}{t:TA}
theorem Bk {ab:List (Addr×Obj)}{σ:St}{H:Hp}{s:Shared}{Q:VK}{us:List Value}{vs:List V}(F:FnOk X.prog X.w X.K X.mg X.base CX k f fd ps sp)(hr:Room k X.A)(hb:Binds X.K fd ps ds)(hd:Vals dvs ds)(hx:rm CX X E)
 (I:Inv X ab σ H s) (r:Vals vs us) (h:sp (vs++dvs) H Q E):wpAny (model X.prog X.w) X.A (call (.ref f) us) (EP X ab σ Q) X.xe s:=by
 have r2:Vals (vs++dvs) (us++ds):=r.append hd
 have hl:(us++ds).length=ps.length:=by rw[<-r2.length];exact F.len _ _ _ _ h
 refine wpAny_call (codeAny_mono (F.run X.A X.stack s H ⟨us,[]⟩ (us++ds) (vs++dvs) Q E hr I.env0 (hb s us I.kIn hl) r2 h) λr s' hq=>?_)
 cases r with
 |error e=>exact hx ab σ H s e s' I hq
 |ok fl=>
  cases fl with
  |ret u=>exact I.after hq
  |next=>exact False.elim hq
  |brk=>exact False.elim hq
  |cont=>exact False.elim hq
theorem jF(F:FnOk X.prog X.w X.K X.mg X.base CX k f fd ps sp)(hr:Room k X.A)(hg:Gl X x)(hm:X.mg x=some (.ref f))(hk:W.keepIn X.K (.ref f)=true)(hb:Binds X.K fd ps ds)(hd:Vals dvs ds)(hx:rm CX X E)
 (ha:PA X (e::es) t) (hdb:(x==("__debug__":Str))=false:=by decide) (he:starEach (e::es) X.env=(false,eval e X.env)::starEach es X.env:=by rfl) (hpl:(backTo pos (starEach es X.env)).any (·.1)=false:=by rfl):
 PE X (.Call (.Name x p) (e::es) [] pos) (Cj sp dvs E t):=by
 intro ab s σ H Q I h;refine wpAny_Call_Name_kw (yT I hg hm ?_ hdb)
 refine W.callWith_K (h₀:=X.base) I.ok.mod.kin hk (bM (ha pos ab s σ H _ I h) λus s1 ⟨vs,H1,I1,r,q⟩=>⟨I1.kIn,?_⟩) he hpl
 exact Bk F hr hb hd hx I1 r q
end
structure FnScope(N P:List Str)(sc:Scope):Prop where
 kind:sc.kind=.function
 co:sc.isCoroutine=false
 gen:sc.isGenerator=false
 nd:N.Nodup
 pre:N.take P.length=P
 par: ∀x∈P,sc.names.lookup x=some .local\/sc.names.lookup x=some .cell
 nofree: ∀y∈sc.names,y.2≠ .free
theorem ny {kindOf:Str->Option NameKind}{x:Str}: ∀ {binds:List (Str×Value)} {m:Str->Option Value},(∀v,(x,v)∉binds)->bindL kindOf binds m x=m x
 | [],_,_=>rfl
 |(n,v)::r,m,h=>by
  unfold bindL;rw[ny λw hw=>h w (List.mem_cons_of_mem _ hw)]
  split
  ·have:x≠n:=by rintro rfl;exact h v List.mem_cons_self
   simp[this]
  ·rfl
theorem n4 {kindOf:Str->Option NameKind}{x:Str}: ∀ {binds:List (Str×Value)} {m:Str->Option Value},(∀v,(x,v)∉binds)->bindC kindOf binds m x=m x
 | [],_,_=>rfl
 |(n,v)::r,m,h=>by
  unfold bindC;rw[n4 λw hw=>h w (List.mem_cons_of_mem _ hw)]
  split
  ·rfl
  ·have:x≠n:=by rintro rfl;exact h v List.mem_cons_self
   simp[this]
theorem nP {kindOf:Str->Option NameKind}{x:Str}{v:Value}: ∀ {P:List Str} {vs:List Value} {i:Nat} {m:Str->Option Value},P.Nodup->P[i]? =some x->vs[i]? =some v->kindOf x=some .local->
 bindL kindOf (P.zip vs) m x=some v
 | [],_,_,_,_,h,_,_=>by simp at h
 |_::_,[],_,_,_,_,h,_=>by simp at h
 |p::P,w::vs,0,m,nd,h1,h2,hk=>by
  simp at h1 h2;subst h1;subst h2;show bindL kindOf ((p,w)::P.zip vs) m p=_;unfold bindL;rw[ny λv hv=>(List.nodup_cons.mp nd).1 (List.of_mem_zip hv).1,if_pos hk]
  simp
 |p::P,w::vs,i+1,m,nd,h1,h2,hk=>by
  show bindL kindOf ((p,w)::P.zip vs) m x=_;unfold bindL;exact nP (i:=i) (List.nodup_cons.mp nd).2 (by simpa using h1) (by simpa using h2) hk
theorem nY {kindOf:Str->Option NameKind}{x:Str}{v:Value}: ∀ {P:List Str} {vs:List Value} {i:Nat} {m:Str->Option Value},P.Nodup->P[i]? =some x->vs[i]? =some v->kindOf x≠some .local->
 bindC kindOf (P.zip vs) m x=some v
 | [],_,_,_,_,h,_,_=>by simp at h
 |_::_,[],_,_,_,_,h,_=>by simp at h
 |p::P,w::vs,0,m,nd,h1,h2,hk=>by
  simp at h1 h2;subst h1;subst h2;show bindC kindOf ((p,w)::P.zip vs) m p=_;unfold bindC;rw[n4 λv hv=>(List.nodup_cons.mp nd).1 (List.of_mem_zip hv).1,if_neg hk]
  simp
 |p::P,w::vs,i+1,m,nd,h1,h2,hk=>by
  show bindC kindOf ((p,w)::P.zip vs) m x=_;unfold bindC;exact nY (i:=i) (List.nodup_cons.mp nd).2 (by simpa using h1) (by simpa using h2) hk
def start(N:List Str)(vs:List V):St:=vs.map some++List.replicate (N.length-vs.length) none
def kE(CX:vJ)(P:Program)(w:World)(K:W.Frag)(mg:Str->Option Value)(base:Heap)(N:List Str)(qual:Str)(scope:Scope)(f:Addr)(cd:Value)(A:Around)(outer:List Env)(s:Shared)(H:Hp)(E:XK):Cx where
 prog:=P
 w:=w
 K:=K
 mg:=mg
 base:=base
 A:=A.deeper (envOfC qual scope s.heap.objs.size f cd)
 N:=N
 s₀:=s
 H₀:=H
 env:=envOfC qual scope s.heap.objs.size f cd
 outer:=outer
 stack:=envOfC qual scope s.heap.objs.size f cd::outer
 ex:=[]
 calm:=true
 fn:=λ_=>true
 pn:=[]
 xe:=λe s'=>wpAny (model P w) (A.deeper (envOfC qual scope s.heap.objs.size f cd)) (leaving (envOfC qual scope s.heap.objs.size f cd) e) (λ_ s''=>CX outer H s E e s'') (λe' s''=>CX outer H s E e' s'') s'
theorem qg {sc:Scope}{n:Nat}{x:Str}(h:sc.names.lookup x=some .cell): ∃c,(cellsFrom n sc.names []).lookup x=some c:=by
 have q:=W.cellsFrom_some sc.names n [] (.inl h)
 exact Option.isSome_iff_exists.mp q
theorem u6 {CX:vJ}{P:Program}{w:World}{K:W.Frag}{mg:Str->Option Value}{base:Heap}{N ps:List Str}{qual:Str}{scope:Scope}{f:Addr}{cd:Value}{A:Around}{outer:List Env}{s s1:Shared}{H:Hp}{E:XK}{us:List Value}{vs:List V}
 (S:FnScope N ps scope) (hd:A.handled=none) (e0:Env0 P w K mg base A outer s H) (hl:vs.length=ps.length) (r:Vals vs us)
 (x:InCallC s s.heap.objs.size (bindL (envOfC qual scope s.heap.objs.size f cd).kindOf (ps.zip us) λ_=>none) (cellsFrom (s.heap.objs.size+1) scope.names []) (bindC (envOfC qual scope s.heap.objs.size f cd).kindOf (ps.zip us) λ_=>none) s1):
 Inv (kE CX P w K mg base N qual scope f cd A outer s H E) [] (start N vs) H s1:=by
 have hpl:ps.length<=N.length:=by have:=congrArg List.length S.pre;rw[List.length_take] at this;omega
 obtain⟨h1,tk,rfl,hk⟩:=x.done
 have noA: ∀b:Addr,b∉(kE CX P w K mg base N qual scope f cd A outer s H E).ex:=λb z=>absurd (show b∈([]:List Addr) from z) (by simp)
 refine⟨⟨e0.mod,S.kind,rfl,rfl,Nat.le_refl _,λy z c h1 h2=>?_,λy hy=>?_,λy c _ h=>?_,λ_=>hd,Around.frames_deeper e0.frames,.inr ⟨rfl,rfl⟩,λb z=>absurd z (noA b),e0.bs,e0.bsz,λb _ _=>noA b,λb z=>absurd z (noA b),e0.funs,e0.frf⟩,
  rfl,e0.bare,Un.kept hk,⟨_,x.toInCall.ns,λi y v h1 h2 h3=>?_⟩,λy c h=>⟨_,x.cell y c h⟩,e0.hok.fresh (Nat.le_refl _),λy c h=>?_,λp hp=>absurd (show p∈([]:List (Addr×Obj)) from hp) (by simp),e0.hok.kept hk,?_⟩
 ·exact name_of_addr x.apart (PySem.mem_of_lookup h1) (PySem.mem_of_lookup h2)
 ·have hy:scope.names.lookup y=some .cell\/scope.names.lookup y=some .free:=hy
  rcases hy with hy|hy
  ·exact qg hy
  ·exact absurd rfl (S.nofree _ (PySem.mem_of_lookup hy))
 ·exact Nat.le_of_lt (x.above y c (PySem.mem_of_lookup h))
 ·have hi:i<vs.length:=by
   unfold start at h2
   by_cases hi:i<vs.length
   ·exact hi
   ·rw[List.getElem?_append_right (by simpa using hi)] at h2
    rw[List.getElem?_replicate] at h2;split at h2<;>cases h2
  have ha:vs[i]? =some v:=by
   unfold start at h2;rw[List.getElem?_append_left (by simpa using hi),List.getElem?_map] at h2
   cases e:vs[i]? with
   |none=>rw[e] at h2;cases h2
   |some a=>rw[e] at h2;cases h2;rfl
  obtain⟨u,hu,rv⟩:=r.get ha
  have hp:ps[i]? =some y:=by
   rw[<-S.pre,List.getElem?_take_of_lt (by omega)];exact h1
  have ndP:ps.Nodup:=by rw[<-S.pre];exact S.nd.sublist (List.take_sublist _ _)
  refine⟨u,rv,?_⟩
  rcases S.par y (List.mem_of_getElem? hp) with k|k
  ·exact .inl ⟨k,nP ndP hp hu k⟩
  ·obtain⟨c,e⟩:=qg (n:=s.heap.objs.size+1) k
   refine .inr ⟨.inl k,c,e,?_⟩
   have q:=x.cell y c e
   rw[nY ndP hp hu (by show scope.names.lookup y≠_;rw[k];decide)] at q
   exact q
 ·exact e0.hok.fresh (Nat.le_of_lt (x.above y c (PySem.mem_of_lookup h)))
 ·unfold start
  show _=N.length;rw[List.length_append,List.length_map,List.length_replicate];omega
theorem BD {CX:vJ}{P:Program}{w:World}{K:W.Frag}{mg:Str->Option Value}{base:Heap}{k:Nat}{f:Addr}{name qual:Str}{params:Arguments}{body:List Stmt}{scope:Scope}{dV kV doc pm cdv ct oc:Value}{an od:Option Addr}
 {osl:Array (Option Value)} {N ps:List Str} {sp:Sp} (lk:K.lookup f=some ⟨oc,od,.func (W.fnOf name qual params body scope dV kV doc pm an cdv ct),osl⟩) (hcd:W.codeIn K cdv qual=true) (S:FnScope N ps scope)
 (len: ∀vs H Q E,sp vs H Q E->vs.length=ps.length)
 (hbody: ∀(A:Around) (outer:List Env) (s:Shared) (H:Hp) (vs:List V) (Q:VK) (E:XK),Room k (A.deeper (envOfC qual scope s.heap.objs.size f cdv))->sp vs H Q E->
   ∃t,PSs (kE CX P w K mg base N qual scope f cdv A outer s H E) body t/\t {nx:=λ_ H'=>Q .non H',rt:=Q} (start N vs) H):
 FnOk P w K mg base CX (k+1) f (W.fnOf name qual params body scope dV kV doc pm an cdv ct) ps sp:=by
 refine⟨len,λA outer s H args us vs Q E hr e0 hb r hsp=>?_⟩
 have hl:=len _ _ _ _ hsp
 have KX:K.In s.heap:=e0.mod.kin.keeps λb o e=>(e0.bs b o e).1
 have lim:s.heap.NoLimit:=e0.mod.nolimit.keeps λb o e=>(e0.bs b o e).1
 have hkind: ∀y∈ps.zip us,scope.names.lookup y.1=some .local\/(scope.names.lookup y.1=some .cell/\((cellsFrom (s.heap.objs.size+1) scope.names []).lookup y.1).isSome=true):=λ⟨n,v⟩ hy=>by
  rcases S.par n (List.of_mem_zip hy).1 with q|q
  ·exact .inl q
  ·exact .inr ⟨q,W.cellsFrom_some _ _ _ (.inl q)⟩
 refine codeAny_call_function hr.depth (KX _ _ lk) rfl S.co S.gen rfl (W.codeRec_of KX hcd) (hb _ _ _ _ ?_)
 refine wpAny_newFunctionEnv_cells S.kind hkind λenv he s1 x=>?_
 subst he;refine⟨lim.keeps x.toInCall.keep,codeAny_func ?_⟩
 obtain⟨t,ht,hq⟩:=hbody A outer s H vs Q E (hr.deeper _) hsp
 have I:Inv (kE CX P w K mg base N qual scope f cdv A outer s H E) [] (start N vs) H s1:=u6 S hr.hd e0 hl r x
 refine wpAny_mono (ht [] s1 (start N vs) H _ I hq) (λfl s' hs=>?_) λe s' hs=>hs
 have fin: ∀ {σ':St} {H':Hp} {v:V} {u:Value},Inv (kE CX P w K mg base N qual scope f cdv A outer s H E) [] σ' H' s'->RelV v u->Q v H'->CE outer P w H s Q u s':=
  λ{σ' H' v u} J rv q=>⟨v,H',J.os,J.bare,J.base,J.hok,rv,q⟩
 cases fl with
 |ret u=>
  obtain⟨v,σ',H',J,rv,q⟩:=hs
  exact fin J rv q
 |next=>
  obtain⟨σ',H',J,q⟩:=hs
  exact fin (v:=V.non) (u:=Value.none) J rfl q
 |brk=>
  obtain⟨_,_,_,q⟩:=hs
  exact False.elim q
 |cont=>
  obtain⟨_,_,_,q⟩:=hs
  exact False.elim q
section
variable {X:Cx}{x:Str}{p pos:Pos}{e:Expr}{es:List Expr}{t:TA}{id T:String}{r:List V->Hp->VK->Prop}
def DC(r:List V->Hp->VK->Prop)(t:TA):TE:=λσ H Q=>t σ H λvs H1=>r vs H1 Q
theorem mK(hc:fm X (.builtin id) r)(hg:Gl X x)(hm:X.mg x=none)(hv:bootBuiltins x=some (.builtin id))(ha:PA X (e::es) t)(hn:x≠"__name__":=by decide)(hdb:(x==("__debug__":Str))=false:=by decide)
 (he:starEach (e::es) X.env=(false,eval e X.env)::starEach es X.env:=by rfl) (hpl:(backTo pos (starEach es X.env)).any (·.1)=false:=by rfl):PE X (.Call (.Name x p) (e::es) [] pos) (DC r t):=by
 intro ab s σ H Q I h;refine wpAny_Call_Name_kw (kh I hg hm hv ?_ hn hdb)
 exact PyProof.Rows.callWith_builtin1 (bM (ha pos ab s σ H _ I h) λus s1 ⟨vs,H1,I1,r1,q1⟩=>hc ab s1 σ H1 vs us Q I1 r1 q1) he hpl
theorem j7(hc:fm X (.type T) r)(hg:Gl X x)(hm:X.mg x=none)(hv:bootBuiltins x=some (.type T))(ha:PA X (e::es) t)(hn:x≠"__name__":=by decide)(hdb:(x==("__debug__":Str))=false:=by decide)
 (he:starEach (e::es) X.env=(false,eval e X.env)::starEach es X.env:=by rfl) (hpl:(backTo pos (starEach es X.env)).any (·.1)=false:=by rfl):PE X (.Call (.Name x p) (e::es) [] pos) (DC r t):=by
 intro ab s σ H Q I h;refine wpAny_Call_Name_kw (kh I hg hm hv ?_ hn hdb)
 exact PyProof.Rows.callWith_type1 (bM (ha pos ab s σ H _ I h) λus s1 ⟨vs,H1,I1,r1,q1⟩=>hc ab s1 σ H1 vs us Q I1 r1 q1) he hpl
end
end L2
namespace HT
open PySem PyProof.Rows
section
variable {prog:Program}{w:World}{A:Around}{E:Value->Shared->Prop}{s:Shared}
def sIx(n d:Nat):Option Int->Nat
 |none=>d
 |some v=>if v<0 then(v+(n:Int)).toNat else min v.toNat n
theorem Bc(n d:Nat)(hd:d<=n)(o:Option Int):sIx n d o<=n:=by
 cases o with
 |none=>exact hd
 |some v=>
  show(if v<0 then(v+(n:Int)).toNat else min v.toNat n)<=n
  by_cases hv:v<0
  ·rw[if_pos hv];omega
  ·rw[if_neg hv];exact Nat.min_le_right _ _
theorem tw(v:Int)(n d:Nat):(if v<0 then max (v+(n:Int)) 0 else min v (n:Int))=((sIx n d (some v):Nat):Int):=by
 show(if v<0 then max (v+(n:Int)) 0 else min v (n:Int))=(((if v<0 then(v+(n:Int)).toNat else min v.toNat n):Nat):Int)
 by_cases hv:v<0
 ·simp only[if_pos hv];omega
 ·simp only[if_neg hv];omega
theorem se(lo hi:Option Int)(n:Nat):Builtin.Slice.sliceAdjust lo hi 1 (n:Int)=(((sIx n 0 lo:Nat):Int),((sIx n n hi:Nat):Int)):=by
 have h1: ¬((1:Int)<0):=by omega
 unfold Builtin.Slice.sliceAdjust;simp only[h1,if_false];refine Prod.ext ?_ ?_
 ·cases lo with
  |none=>rfl
  |some v=>exact tw v n 0
 ·cases hi with
  |none=>rfl
  |some v=>exact tw v n n
theorem rH(i j:Nat):Builtin.Slice.slicePlaces (i:Int) (j:Int) 1=j-i:=by
 unfold Builtin.Slice.slicePlaces;have h1:(1:Int)>0:=by omega
 simp only[h1,if_true,Int.ediv_one];split<;>omega
theorem mH {v:Value}{o:Option Int}{Q:Option Int->Shared->Prop}(p:IsPart v o)(h:Q o s):wpAny (model prog w) A (Builtin.Slice.slicePartIndex v) Q E s:=by
 cases p with
 |none=>exact slicePart_none h
 |int i t=>exact slicePart_int h
theorem j9 {sl:Addr}{vl vu:Value}{lo hi:Option Int}{n:Nat}{Q:Int×Int×Nat->Shared->Prop}(hs:s.heap.IsSliceOf sl vl vu .none)(pl:IsPart vl lo)(pu:IsPart vu hi)
 (h:Q (((sIx n 0 lo:Nat):Int),1,sIx n n hi-sIx n 0 lo) s):wpAny (model prog w) A (Builtin.Slice.sliceApplied (.ref sl) (pure (n:Int))) Q E s:=by
 obtain⟨os,hos,hcs,hds⟩:=id hs
 unfold Builtin.Slice.sliceApplied Builtin.Slice.sliceFields;refine wpAny_bind (wpAny_bind (wpAny_field hos hds (x:=vl) rfl (wpAny_bind (wpAny_field hos hds (x:=vu) rfl (wpAny_bind (wpAny_field hos hds (x:=.none) rfl (wpAny_pure ?_)))))))
 refine wpAny_bind (slicePart_none ?_)
 show wpAny _ _ (if((1:Int)==0)=true then _ else _) _ _ s
 rw[if_neg (by decide)]
 refine wpAny_bind (mH pl (wpAny_bind (mH pu (wpAny_bind (wpAny_pure ?_)))))
 show wpAny _ _ (match Builtin.Slice.sliceAdjust lo hi 1 (n:Int) with|(lo,hi)=>pure (lo,(1:Int),Builtin.Slice.slicePlaces lo hi 1)) _ _ s
 rw[se lo hi n];show wpAny _ _ (pure (((sIx n 0 lo:Nat):Int),(1:Int),Builtin.Slice.slicePlaces ((sIx n 0 lo:Nat):Int) ((sIx n n hi:Nat):Int) 1)) _ _ s;rw[rH];exact wpAny_pure h
theorem vC(xs:Array Value)(i k:Nat):((List.range k).filterMap λ(m:Nat)=>xs[((i:Int)+(m:Int)*1).toNat]?).toArray=((xs.toList.drop i).take k).toArray:=by
 have e:(λ(m:Nat)=>xs[((i:Int)+(m:Int)*1).toNat]?)=λm=>xs[i+m]? :=by
  funext m;have:((i:Int)+(m:Int)*1).toNat=i+m:=by omega
  rw[this]
 rw[e];have:=pick_run xs i k
 rw[List.filterMap_map] at this;have e2:((λx=>xs[x]?)∘λx=>i+x)=λm=>xs[i+m]? :=rfl
 rw[e2] at this;rw[this]
theorem getItem_tuple_cut {t sl:Addr}{items:Array Value}{vl vu:Value}{lo hi:Option Int}{Q:Value->Shared->Prop}(ht:IsTup s.heap t items)(hs:s.heap.IsSliceOf sl vl vu .none)(pl:IsPart vl lo)(pu:IsPart vu hi)
 (hw: ¬(sIx items.size 0 lo=0/\sIx items.size items.size hi=items.size))
 (h:Q (.ref s.heap.objs.size) {s with heap:=s.heap.push {cls:=.type "tuple",data:=.seq ((items.toList.drop (sIx items.size 0 lo)).take (sIx items.size items.size hi-sIx items.size 0 lo)).toArray}})
 (hsz:items.size<=sizeLine):wpAny (model prog w) A (getItem (.ref t) (.ref sl)) Q E s:=by
 have htake:sizeOk (.seq ((items.toList.drop (sIx items.size 0 lo)).take (sIx items.size items.size hi-sIx items.size 0 lo)).toArray):=by
  show((items.toList.drop (sIx items.size 0 lo)).take (sIx items.size items.size hi-sIx items.size 0 lo)).toArray.size<=sizeLine;rw[List.size_toArray,List.length_take,List.length_drop,Array.length_toList];omega
 have hj:sIx items.size items.size hi<=items.size:=Bc _ _ (Nat.le_refl _) hi
 obtain⟨os,hos,hcs,hds⟩:=id hs
 have hTs:s.TypeIs (.ref sl) "slice":=⟨os,hos,hcs⟩
 unfold getItem
 try with_reducible refine wpAny_holding ?_
 first|refine wpAny_bind (wpAny_pure ?_)|skip
 refine wpAny_bind (wpAny_sequenceKey ht.typeIs (by decide) ?_)
 refine wpAny_bind (wpAny_callSpecial?_slot (name:=Str.ofString "__getitem__") ht.typeIs PyProof.Rows.slot_tuple_getitem
  (wpAny_call_entry PyProof.Rows.slot_tuple_getitem ht.typeIs entry_tuple_getitem ?_ (args_tuple_getitem _ _)))
 show wpAny _ _ (Builtin.Tuple.tupleItemsOf (.ref t)>>=_) _ _ s;refine wpAny_bind (tupleItemsOf_ ht ?_)
 refine wpAny_bind (wpAny_typeOf hTs ?_)
 rw[if_pos (by decide)]
 refine wpAny_bind (j9 hs pl pu ?_)
 have hno: ¬((((sIx items.size 0 lo:Nat):Int)==0&&(1:Int)==1&&(sIx items.size items.size hi-sIx items.size 0 lo)==items.size)=true):=by
  intro q;rw[Bool.and_eq_true,Bool.and_eq_true] at q;have q1:((sIx items.size 0 lo:Nat):Int)=0:=eq_of_beq q.1.1
  have q2:sIx items.size items.size hi-sIx items.size 0 lo=items.size:=eq_of_beq q.2
  exact hw ⟨by omega,by omega⟩
 show wpAny _ _ (if(((sIx items.size 0 lo:Nat):Int)==0&&(1:Int)==1&&(sIx items.size items.size hi-sIx items.size 0 lo)==items.size)=true then _ else _) _ _ s
 rw[if_neg hno,vC]
 first
  |exact wpAny_bind (m:=Builtin.Tuple.tupleExact _) (wpAny_newObj_type (wpAny_pure ⟨_,rfl,wpAny_pure h⟩) htake)
  |exact wpAny_bind (m:=Builtin.Tuple.tupleExact _) (wpAny_newObj_type (wpAny_bind (wpAny_pure (wpAny_pure ⟨_,rfl,wpAny_pure h⟩))) htake)
  |exact wpAny_bind (wpAny_bind (m:=Builtin.Tuple.tupleExact _) (wpAny_newObj_type (wpAny_pure (wpAny_pure ⟨_,rfl,wpAny_pure h⟩)) htake))
  |exact wpAny_bind (wpAny_bind (m:=Builtin.Tuple.tupleExact _) (wpAny_newObj_type (wpAny_pure ⟨_,rfl,wpAny_pure h⟩) htake))
end
end HT
namespace L2
open PySem PySem.Spec PyProof.Rows
abbrev TO:=St->Hp->(Option Int->Hp->Prop)->Prop
def PO(X:Cx)(e:Option Expr)(t:TO):Prop:=
 ∀(ab:List (Addr×Obj)) (s:Shared) (σ:St) (H:Hp) (Q:Option Int->Hp->Prop),Inv X ab σ H s->t σ H Q->
  wpAny (model X.prog X.w) X.A (evalPart e X.env) (λu s'=> ∃o H',Inv X ab σ H' s'/\IsPart u o/\Q o H') X.xe s
def yD:TO:=λ_ H Q=>Q none H
def Cn(t:TE):TO:=λσ H Q=>t σ H λx H1=> ∃i,x=.int i/\Q (some i) H1
theorem sf {ns:List Int}: ∀ {us:List Value},Vals (ns.map V.int) us->IntsAre us ns:=by
 induction ns with
 |nil=>intro us r;rw[List.map_nil] at r;cases r;exact .nil
 |cons n ns ih=>
  intro us r;rw[List.map_cons] at r;cases r with
  |cons r1 r2=>
   obtain⟨t,e⟩:=r1
   subst e;exact .cons n t (ih r2)
section
variable {X:Cx}{e:Expr}{te:TE}{lo hi:Option Expr}{tl th:TO}{pos p2:Pos}
theorem yO:PO X none yD:=by
 intro ab s σ H Q I h;rw[evalPart_none];exact wpAny_pure ⟨none,H,I,.none,h⟩
theorem xV(h:PE X e te):PO X (some e) (Cn te):=by
 intro ab s σ H Q I hw;rw[evalPart_some];refine bM (h ab s σ H _ I hw) λu s1 hq_=>?_
 obtain⟨x,H1,I1,r1,q1⟩:=hq_
 obtain⟨i,rfl,q⟩:=q1
 obtain⟨t,rfl⟩:=r1
 exact⟨some i,H1,I1,.int i t,q⟩
def Er(X:Cx)(r:V->Option Int->Option Int->Hp->VK->Prop):Prop:=
 ∀(ab:List (Addr×Obj)) (s:Shared) (σ:St) (H:Hp) (x:V) (v vl vu:Value) (lo hi:Option Int) (sl:Addr) (Q:VK),Inv X ab σ H s->RelV x v->s.heap.IsSliceOf sl vl vu .none->IsPart vl lo->IsPart vu hi->r x lo hi H Q->
  ∃T id,typeLookup (.type T) "__getitem__"=pure (some (.builtin id))/\s.TypeIs v T/\wpAny (model X.prog X.w) X.A (getItem v (.ref sl)) (EP X ab σ Q) X.xe s
def EC(r:V->Option Int->Option Int->Hp->VK->Prop)(te:TE)(tl th:TO):TE:=λσ H Q=>te σ H λx H1=>tl σ H1 λl H2=>th σ H2 λu H3=>r x l u H3 Q
theorem ve {r:V->Option Int->Option Int->Hp->VK->Prop}(hr:Er X r)(he:PE X e te)(hl:PO X lo tl)(hu:PO X hi th):PE X (.Subscript e (.Slice lo hi none p2) pos) (EC r te tl th):=by
 intro ab s σ H Q I h;refine Subscript_ (bM (he ab s σ H _ I h) λv s1 hq_=>?_)
 obtain⟨x,H1,I1,r1,q1⟩:=hq_
 refine wpAny_Slice (bM (hl ab s1 σ H1 _ I1 q1) λvl s2 ⟨l,H2,I2,pl,q2⟩=>bM (hu ab s2 σ H2 _ I2 q2) λvu s3 hq_=>?_)
 obtain⟨u,H3,I3,pu,q3⟩:=hq_
 rw[evalPart_none];refine wpAny_pure ?_
 have I4:Inv X ab σ H3 {s3 with heap:=s3.heap.push {cls:=.type "slice",data:=.fields #[vl,vu,.none]}}:=I3.kept (t':=s3.toks) λb ob q=>Heap.get?_push_of_some _ q
 obtain⟨T,id,hT,ht,hg⟩:=hr ab {s3 with heap:=s3.heap.push {cls:=.type "slice",data:=.fields #[vl,vu,.none]}} σ H3 x v vl vu l u s3.heap.objs.size Q I4 r1 (Heap.IsSliceOf.new ..) pl pu q3
 show wpAny (model X.prog X.w) X.A (subscriptTail e (.Slice lo hi none p2) v (.ref s3.heap.objs.size)) (EP X ab σ Q) X.xe {s3 with heap:=s3.heap.push {cls:=.type "slice",data:=.fields #[vl,vu,.none]}}
 exact tail_any (ops:=[.ref s3.heap.objs.size,v]) ht hT hg (by with_unfolding_all rfl)
def uH(xs:List V)(lo hi:Option Int):List V:=(xs.drop (HT.sIx xs.length 0 lo)).take (HT.sIx xs.length xs.length hi-HT.sIx xs.length 0 lo)
theorem p4(xs:List V)(lo hi:Option Int):(uH xs lo hi).length<=xs.length:=by
 unfold uH;rw[List.length_take,List.length_drop];omega
def Du(K:W.Frag):V->Option Int->Option Int->Hp->VK->Prop:=λx lo hi H Q=> ∃a xs,x=.ref a/\SqT K H a xs/\
 ¬(HT.sIx xs.length 0 lo=0/\HT.sIx xs.length xs.length hi=xs.length)/\ ∀p,H p=none->Q (.ref p) (bq H p (.tup (uH xs lo hi)))
theorem AQ:Er X (Du X.K):=by
 intro ab s σ H x v vl vu lo hi sl Q I rx hs pl pu h;obtain⟨a,xs,rfl,hx,hw,q⟩:=h
 cases rx
 obtain⟨its,r,ht,hz⟩:=I.tuple hx
 have hlen:its.toArray.size=xs.length:=by rw[List.size_toArray];exact r.length.symm
 refine⟨"tuple",_,PyProof.Rows.slot_tuple_getitem.lookup,ht.typeIs,?_⟩
 refine HT.getItem_tuple_cut ht hs pl pu (by rw[hlen];exact hw) ?_ (by rw[hlen];exact hz)
 rw[hlen];refine⟨.ref s.heap.objs.size,_,I.laid (t':=s.toks) (o:=.tup (uH xs lo hi)) (λb ob q=>Heap.get?_push_of_some _ q) (Nat.le_refl _) ?_,rfl,q _ (I.hok.fresh (Nat.le_refl _))⟩
 exact⟨Nat.le_trans (p4 xs lo hi) hz,_,(r.drop (HT.sIx xs.length 0 lo)).take (HT.sIx xs.length xs.length hi-HT.sIx xs.length 0 lo),IsTup.new _ _,_,Heap.get?_push_size _ rfl,rfl⟩
end
def qO(n:Nat)(i:Int):Option Nat:=if 0<=i then(if i<n then some i.toNat else none) else if -(n:Int)<=i then some (i+n).toNat else none
def nQ {α:Type}(xs:List α)(i:Int):Option α:=(qO xs.length i).bind λj=>xs[j]?
theorem oU {n:Nat}{i:Int}{j:Nat}(h:qO n i=some j):seqIndex? i n=some j/\j<n/\ -(n:Int)<=i/\i<n:=by
 unfold qO at h
 by_cases h0:0<=i
 ·rw[if_pos h0] at h
  by_cases h1:i<n
  ·rw[if_pos h1] at h
   have e:i.toNat=j:=Option.some.inj h
   exact⟨by rw[seqIndex_of h0 h1,e],by omega,by omega,h1⟩
  ·rw[if_neg h1] at h;cases h
 ·rw[if_neg h0] at h
  by_cases h1: -(n:Int)<=i
  ·rw[if_pos h1] at h
   have e:(i+n).toNat=j:=Option.some.inj h
   exact⟨by rw[seqIndex_neg (by omega) h1,e],by omega,h1,by omega⟩
  ·rw[if_neg h1] at h;cases h
theorem oM {α:Type}{xs:List α}{i:Int}{v:α}(h:nQ xs i=some v): ∃j,seqIndex? i xs.length=some j/\xs[j]? =some v/\j<xs.length/\ -(xs.length:Int)<=i/\i<xs.length:=by
 unfold nQ at h;cases e:qO xs.length i with
 |none=>rw[e] at h;cases h
 |some j=>
  rw[e] at h;obtain⟨h1,h2,h3,h4⟩:=oU e
  exact⟨j,h1,h,h2,h3,h4⟩
theorem tH {α:Type}{xs:List α}{j:Nat}{v:α}(h:xs[j]? =some v):nQ xs (j:Int)=some v:=by
 have hj:j<xs.length:=(List.getElem?_eq_some_iff.mp h).1
 have e:qO xs.length (j:Int)=some j:=by
  unfold qO;rw[if_pos (by omega),if_pos (by omega)];simp
 unfold nQ;rw[e];exact h
def sW(b:Expr):Prop:= ∀o i,subscripted b false o i=operate [o,i] (getItem o i)
def IxR(X:Cx)(r:R2):Prop:=
 ∀(value slice:Expr) (ab:List (Addr×Obj)) (s:Shared) (σ:St) (H:Hp) (x y:V) (v u:Value) (Q:VK),Inv X ab σ H s->RelV x v->RelV y u->r x y H Q->
  subscripted slice false v u=operate [v,u] (getItem v u)->wpAny (model X.prog X.w) X.A (subscriptTail value slice v u) (EP X ab σ Q) X.xe s
def Ed(X:Cx)(id:String)(r:V->List V->Hp->VK->Prop):Prop:=
 ∀(ab:List (Addr×Obj)) (s:Shared) (σ:St) (H:Hp) (x:V) (xs:List V) (v:Value) (us:List Value) (Q:VK),Inv X ab σ H s->RelV x v->Vals xs us->r x xs H Q->
  wpAny (model X.prog X.w) X.A (call (.builtin id) (v::us)) (EP X ab σ Q) X.xe s
section
variable {X:Cx}{a b:Expr}{ta tb:TE}{pos:Pos}
theorem IxR.or {r r':R2}(h:IxR X r)(h':IxR X r'):IxR X (λx y H Q=>r x y H Q\/r' x y H Q):=by
 intro value slice ab s σ H x y v u Q I rx ry q hs;rcases q with q|q
 ·exact h value slice ab s σ H x y v u Q I rx ry q hs
 ·exact h' value slice ab s σ H x y v u Q I rx ry q hs
theorem CK {r:R2}(hr:IxR X r)(ha:PE X a ta)(hb:PE X b tb)(hs:sW b):PE X (.Subscript a b pos) (Br r ta tb):=by
 intro ab s σ H Q I h;exact Subscript_ (AH ha hb I h λv u s2 x y H2 I2 rx ry q=>hr a b ab s2 σ H2 x y v u Q I2 rx ry q (hs _ _))
def BW(K:W.Frag):R2:=λx y H Q=> ∃p xs i v,x=.ref p/\y=.int i/\SqL K H p xs/\nQ xs i=some v/\Q v H
def BF(K:W.Frag):R2:=λx y H Q=> ∃p xs i v,x=.ref p/\y=.int i/\SqT K H p xs/\nQ xs i=some v/\Q v H
def BO:R2:=λx y H Q=> ∃z i c,x=.str z/\y=.int i/\z.length<=sizeLine/\nQ z.cps.toList i=some c/\Q (.str ⟨#[c]⟩) H
theorem ix_list:IxR X (BW X.K):=by
 intro value slice ab s σ H x y v u Q I rx ry h hs;obtain⟨p,xs,i,z,rfl,rfl,hq,he,q⟩:=h
 cases rx
 obtain⟨t,rfl⟩:=ry
 obtain⟨its,r,pl,hz⟩:=I.list hq
 obtain⟨j,h1,h2,h3,h4,h5⟩:=oM he
 obtain⟨w,ew,rw'⟩:=r.get h2
 have hl:=r.length
 have hn:=jm
 have fin:EP X ab σ Q w s:=⟨z,H,I,rw',q⟩
 by_cases h0:0<=i
 ·have hj:i.toNat=j:=by
   rw[seqIndex_of h0 h5] at h1;exact Option.some.inj h1
  exact item_listR pl.isList h0 (by omega) (by rw[hj];simpa using ew) fin hs
 ·have hj:(i+(its.toArray.size:Int)).toNat=j:=by
   rw[seqIndex_neg (by omega) h4] at h1
   rw[List.size_toArray,<-hl];exact Option.some.inj h1
  exact subscriptTail_builtinR (x:=w) pl.isList.typeIs slot_list_getitem.lookup
   (wpAny_getItem_list_neg (Q:=λr s'=>r=w/\EP X ab σ Q r s') pl.isList (by omega) (by rw[List.size_toArray]<;>omega) (by omega) (by rw[hj];simpa using ew) ⟨rfl,fin⟩) hs
theorem ix_tup:IxR X (BF X.K):=by
 intro value slice ab s σ H x y v u Q I rx ry h hs;obtain⟨p,xs,i,z,rfl,rfl,hq,he,q⟩:=h
 cases rx
 obtain⟨t,rfl⟩:=ry
 obtain⟨its,r,pl,hz⟩:=I.tuple hq
 obtain⟨j,h1,h2,h3,h4,h5⟩:=oM he
 obtain⟨w,ew,rw'⟩:=r.get h2
 have hl:=r.length
 have hn:=jm
 have fin:EP X ab σ Q w s:=⟨z,H,I,rw',q⟩
 exact subscriptTail_builtinR (x:=w) pl.typeIs slot_tuple_getitem.lookup
  (getItem_tuple (j:=j) (Q:=λr s'=>r=w/\EP X ab σ Q r s') pl (by omega) (by omega) (by rw[List.size_toArray,<-hl];exact h1) (by simpa using ew) ⟨rfl,fin⟩) hs
theorem zH:IxR X BO:=by
 intro value slice ab s σ H x y v u Q I rx ry h hs;obtain⟨z,i,c,rfl,rfl,hz,he,q⟩:=h
 obtain⟨t,rfl⟩:=rx
 obtain⟨t',rfl⟩:=ry
 obtain⟨j,h1,h2,h3,h4,h5⟩:=oM he
 have hl:z.cps.toList.length=z.length:=by simp[Str.length]
 rw[hl] at h1 h4 h5;have hn:=jm
 exact tail_any (typeIs_str s z t) slot_str_getitem.lookup (getItem_str (c:=c) (by
  have e1:decide (i< -(2^63:Int))=false:=decide_eq_false (by omega)
  have e2:decide (i≥2^63)=false:=decide_eq_false (by omega)
  rw[e1,e2,Bool.or_false]) (by rw[h1];simpa using h2) ⟨.str ⟨#[c]⟩,H,I.tok _,⟨_,rfl⟩,q⟩) hs
def Eo(K:W.Frag):R2:=λx y H Q=>BW K x y H Q\/BF K x y H Q\/BO x y H Q
theorem aA:IxR X (Eo X.K):=ix_list.or (ix_tup.or zH)
theorem rT(its:List Value)(n j:Nat)(u:Value):Obj.mapSeq (·.setIfInBounds j u) {cls:=.type "list",data:=.seq its.toArray n}={cls:=.type "list",data:=.seq (its.set j u).toArray n}:=by
 simp[Obj.mapSeq]
theorem Inv.lst {ab:List (Addr×Obj)}{σ:St}{H:Hp}{s:Shared}{p:Addr}{xs:List V}(I:Inv X ab σ H s)(h:H p=some (.lst xs)):
 ∃(its:List Value) (n:Nat),Vals xs its/\s.heap.get? p=some {cls:=.type "list",data:=.seq its.toArray n}/\xs.length<=sizeLine:=by
 obtain⟨z,its,n,r,e⟩:=I.hok p _ h
 exact⟨its,n,r,e,z⟩
theorem Inv.lstUpd {ab:List (Addr×Obj)}{σ:St}{H:Hp}{s:Shared}{p:Addr}{xs ys:List V}{its its':List Value}{n n':Nat}{f:Obj->Obj}(I:Inv X ab σ H s)(h:H p=some (.lst xs))
 (ho:s.heap.get? p=some {cls:=.type "list",data:=.seq its.toArray n}) (hf:f {cls:=.type "list",data:=.seq its.toArray n}={cls:=.type "list",data:=.seq its'.toArray n'}) (r:Vals ys its') (hz:ys.length<=sizeLine) (t:Nat):
 Inv X ab σ (bq H p (.lst ys)) {s with heap:=s.heap.update p f,toks:=t}:=by
 have e:(s.heap.update p f).get? p=some {cls:=.type "list",data:=.seq its'.toArray n'}:=by
  rw[Heap.get?_update_self f ho (by rw[hf]<;>rfl),hf]
 refine I.write (x:=p) (e:=p) (by rw[h];trivial) (.inl rfl) (λb u hb q=>(Heap.get?_update_other _ _ (Ne.symm hb)).trans q) ⟨_,e⟩ ?_
 exact⟨hz,its',n',r,e⟩
def B0:V->V->V->Hp->(Hp->Prop)->Prop:=λo i v H Q=> ∃p xs k j,o=.ref p/\i=.int k/\H p=some (.lst xs)/\qO xs.length k=some j/\Q (bq H p (.lst (xs.set j v)))
theorem xf:B9 X B0:=by
 intro ab s σ H o i v ov iv u Q I ro ri rv h;obtain⟨p,xs,k,j,rfl,rfl,hp,hj,q⟩:=h
 cases ro
 obtain⟨t,rfl⟩:=ri
 obtain⟨its,n,r,ho,hz⟩:=I.lst hp
 obtain⟨h1,h2,h3,h4⟩:=oU hj
 have hl:=r.length
 have hn:=jm
 have I':Inv X ab σ (bq H p (.lst (xs.set j v))) {s with heap:=s.heap.update p (Obj.mapSeq (·.setIfInBounds j u))}:=
  I.lstUpd hp ho (rT its n j u) (r.set rv j) (by rw[List.length_set];exact hz) s.toks
 by_cases h0:0<=k
 ·have hk:k.toNat=j:=by
   rw[seqIndex_of h0 h4] at h1;exact Option.some.inj h1
  exact W.ki_setAt ho h0 (by omega) (by rw[List.size_toArray,<-hl];exact h4) (by rw[hk];exact⟨_,I',q⟩)
 ·have hk:(k+(its.toArray.size:Int)).toNat=j:=by
   rw[seqIndex_neg (by omega) h3] at h1
   rw[List.size_toArray,<-hl];exact Option.some.inj h1
  exact W.ki_setBack ho (by omega) (by rw[List.size_toArray,<-hl];exact h3) (by omega) (by rw[hk];exact⟨_,I',q⟩)
theorem aV:fm X (.builtin "len") (λxs H Q=> ∃p ys,xs=[.ref p]/\(SqL X.K H p ys\/SqT X.K H p ys)/\Q (.int ys.length) H):=by
 intro ab s σ H xs us Q I r h;obtain⟨p,ys,rfl,hq,q⟩:=h
 obtain⟨u,rfl,rx⟩:=hX r
 cases rx
 have hn:=jm
 rcases hq with hq|hq
 ·obtain⟨its,r',pl,hz⟩:=I.list hq
  have hlen:=r'.length
  exact Calls.call_len_list pl.isList (by simp only[List.size_toArray]<;>omega) ⟨.int ys.length,H,I.tok _,⟨s.toks+1,by rw[List.size_toArray,hlen]⟩,q⟩
 ·obtain⟨its,r',pl,hz⟩:=I.tuple hq
  have hlen:=r'.length
  exact len_tuple pl (by simp only[List.size_toArray]<;>omega) ⟨.int ys.length,H,I.tok _,⟨s.toks+1,by rw[List.size_toArray,hlen]⟩,q⟩
theorem iV:fm X (.type "tuple") (λxs H Q=> ∃p ys,xs=[.ref p]/\((SqL X.K H p ys/\ ∀l,H l=none->Q (.ref l) (bq H l (.tup ys)))\/(SqT X.K H p ys/\Q (.ref p) H))):=by
 intro ab s σ H xs us Q I r h;obtain⟨p,ys,rfl,h⟩:=h
 obtain⟨u,rfl,rx⟩:=hX r
 cases rx
 rcases h with⟨hq,q⟩|⟨hq,q⟩
 ·obtain⟨its,r',pl,hz⟩:=I.list hq
  have hlen:=r'.length
  refine call_tuple_list pl.isList (λh' kp=>?_) (by simp only[List.size_toArray]<;>omega)
  have I1:Inv X ab σ H {s with heap:=h'}:=I.kept (t':=s.toks) kp
  have I2:Inv X ab σ (bq H h'.objs.size (.tup ys)) {s with heap:=h'.push {cls:=.type "tuple",data:=.seq its.toArray}}:=
   I1.laid (t':=s.toks) (λb o e=>Heap.get?_push_of_some _ e) (Nat.le_refl _) (show ObjOk X.prog X.w _ _ _ (.tup ys) from⟨hz,its,r',IsTup.new _ _,_,Heap.get?_push_size _ rfl,rfl⟩)
  exact⟨.ref h'.objs.size,_,I2,rfl,q _ (I1.hok.fresh (Nat.le_refl _))⟩
 ·obtain⟨its,r',pl,hz⟩:=I.tuple hq
  exact call_tuple_same pl ⟨.ref p,H,I,rfl,q⟩
def D5(K:W.Frag)(T:String)(x:V)(H:Hp):Prop:=match x with
 | .str _=>T="str"
 | .int _=>T="int"
 | .ref p=>(T="list"/\ ∃xs,SqL K H p xs)\/(T="tuple"/\ ∃xs,SqT K H p xs)\/
    (T="dict"/\((∃kvs,H p=some (.dK kvs))\/ ∃kvs,H p=some (.dT kvs)))\/(T="set"/\ ∃S n,H p=some (.set S n))\/(T="set"/\ ∃xs,H p=some (.tst xs))
 |_=>False
theorem wK {ab:List (Addr×Obj)}{σ:St}{H:Hp}{s:Shared}{T:String}{x:V}{v:Value}(I:Inv X ab σ H s)(r:RelV x v)(ty:D5 X.K T x H):
 s.TypeIs v T/\ ∀a,v=.ref a-> ∃ob,s.heap.get? a=some ob/\ob.dict=none:=by
 cases x with
 |str z=>
  obtain⟨t,rfl⟩:=r
  cases (show T="str" from ty)
  exact⟨typeIs_str s z t,λ_ e=>nomatch e⟩
 |int i=>
  obtain⟨t,rfl⟩:=r
  cases (show T="int" from ty)
  exact⟨typeIs_int s i t,λ_ e=>nomatch e⟩
 |ref p=>
  cases r
  rcases ty with⟨rfl,xs,hq⟩|⟨rfl,xs,hq⟩|⟨rfl,hk⟩|⟨rfl,S,n,hk⟩|⟨rfl,xs,hk⟩
  ·obtain⟨its,_,pl,_⟩:=I.list hq
   refine⟨pl.isList.typeIs,λa e=>?_⟩
   cases e
   obtain⟨o,n,e,c,hd,_⟩:=pl
   exact⟨o,e,hd⟩
  ·obtain⟨⟨ob,ho,hc⟩,o2,h2,hd⟩:=I.tupleN hq
   refine⟨⟨ob,ho,hc⟩,λa e=>?_⟩
   cases e
   exact⟨o2,h2,hd⟩
  ·have z: ∃o,s.heap.get? p=some o/\o.ExactDict:=by
    rcases hk with⟨kvs,hk⟩|⟨kvs,hk⟩
    ·obtain⟨_,_,_,_,o,_,_,e,ex,_⟩:=I.hok p _ hk
     exact⟨o,e,ex⟩
    ·obtain⟨_,_,_,_,o,_,_,e,ex,_⟩:=I.hok p _ hk
     exact⟨o,e,ex⟩
   obtain⟨o,e,ex⟩:=z
   refine⟨⟨o,e,ex.1⟩,λa e2=>?_⟩
   cases e2
   exact⟨o,e,ex.2.1⟩
  ·obtain⟨o,_,_,_,e,ex,_⟩:=I.hok p _ hk
   refine⟨⟨o,e,ex.1⟩,λa e2=>?_⟩
   cases e2
   exact⟨o,e,ex.2.1⟩
  ·obtain⟨o,_,_,_,e,ex⟩:=I.hok p _ hk
   refine⟨⟨o,e,ex.ex.1⟩,λa e2=>?_⟩
   cases e2
   exact⟨o,e,ex.ex.2.1⟩
 |_=>exact False.elim ty
def Dw(K:W.Frag)(T:String)(r:V->List V->Hp->VK->Prop)(to:TE):TE:=λσ H Q=>to σ H λx H1=>D5 K T x H1/\r x [] H1 Q
def EF(K:W.Frag)(T:String)(r:V->List V->Hp->VK->Prop)(to:TE)(t:TA):TE:=λσ H Q=>to σ H λx H1=>D5 K T x H1/\t σ H1 λxs H2=>r x xs H2 Q
variable {o e:Expr}{es:List Expr}{to:TE}{t:TA}{name:Str}{apos cpos:Pos}{T id:String}{r:V->List V->Hp->VK->Prop}
theorem Au(pa:PlainAttrs T)(slot:Slot T name id)(hty:typeOf (.builtin id)=pure (.type "method_descriptor"))(hm:Ed X id r)(ho:PE X o to)
 (hbase:attributeBase o name X.env (eval o X.env)=eval o X.env:=by rfl) (hline:(apos.endLine==cpos.line)=true:=by rfl):PE X (.Call (.Attribute o name apos) [] [] cpos) (Dw X.K T r to):=by
 intro ab s σ H Q I h;refine wpAny_Call_method0_late hbase hline (bM (ho ab s σ H _ I h) λv s1 hq_=>?_)
 obtain⟨x,H1,I1,r1,ty,q1⟩:=hq_
 obtain⟨h1,h2⟩:=wK I1 r1 ty
 exact⟨T,id,pa,slot,hty,h1,h2,Calls.callWith_builtin rfl (PySem.evalArgs_none (hm ab s1 σ H1 x [] v [] Q I1 r1 .nil q1))⟩
theorem qw(pa:PlainAttrs T)(slot:Slot T name id)(hty:typeOf (.builtin id)=pure (.type "method_descriptor"))(hm:Ed X id r)(ho:PE X o to)(ha:PA X (e::es) t)
 (hbase:attributeBase o name X.env (eval o X.env)=eval o X.env:=by rfl)
 (hfew:((backTo cpos (starEach (e::es) X.env)).all (λx=> !x.1)&&(backToKw cpos (keywordEach [] X.env)).all (λx=>x.1.isSome)
   &&decide ((e::es).length+([]:List Keyword).length+(if([]:List Keyword).isEmpty then 0 else 1)<30))=true:=by rfl)
 (hline:(apos.endLine==cpos.line)=true:=by rfl) (hs:starEach (e::es) X.env=(false,eval e X.env)::starEach es X.env:=by rfl) (hplain:(backTo cpos (starEach es X.env)).any (·.1)=false:=by rfl):
 PE X (.Call (.Attribute o name apos) (e::es) [] cpos) (EF X.K T r to t):=by
 intro ab s σ H Q I h;refine wpAny_Call_method_late hbase hfew hline rfl (bM (ho ab s σ H _ I h) λv s1 hq_=>?_)
 obtain⟨x,H1,I1,r1,ty,q1⟩:=hq_
 obtain⟨h1,h2⟩:=wK I1 r1 ty
 refine⟨T,id,pa,slot,hty,h1,h2,?_⟩
 have hA:=ha cpos ab s1 σ H1 _ I1 q1
 rw[hs] at hA⊢;refine Calls.callWith_builtin (by show(false||(backTo cpos (starEach es X.env)).any (·.1))=false;rw[hplain]<;>rfl) (Calls.evalArgs_plain ?_)
 exact bM hA λus s2 ⟨vs,H2,I2,r2,q2⟩=>hm ab s2 σ H2 x vs v us Q I2 r1 r2 q2
end
def Bx(X:Cx)(id:String)(r:V->List V->Hp->VK->Prop):Prop:=
 ∀(ab:List (Addr×Obj)) (s:Shared) (σ:St) (H:Hp) (x:V) (xs:List V) (v:Value) (us:List Value) (Q:VK),Inv X ab σ H s->RelV x v->Vals xs us->r x xs H Q->
  wpAny (model X.prog X.w) X.A (call (.builtin id) (v::us)) (EP X ab σ Q) X.xe s
theorem Vals.one: ∀ {x:V} {us:List Value},Vals [x] us-> ∃u,us=[u]/\RelV x u
 |_,_,.cons r .nil=>⟨_,rfl,r⟩
theorem Vals.zero: ∀ {us:List Value},Vals [] us->us=[]
 |_,.nil=>rfl
theorem Vals.eraseIdx: ∀ {xs:List V} {us:List Value} (i:Nat),Vals xs us->Vals (xs.eraseIdx i) (us.eraseIdx i)
 |_,_,_,.nil=>.nil
 |_,_,0,.cons _ t=>t
 |_,_,i+1,.cons r t=>.cons r (Vals.eraseIdx i t)
theorem Vals.reverse {xs:List V}{us:List Value}(h:Vals xs us):Vals xs.reverse us.reverse:=by
 induction h with
 |nil=>exact .nil
 |cons r t ih=>rw[List.reverse_cons,List.reverse_cons];exact Vals.append ih (.cons r .nil)
theorem nG {α:Type}: ∀(l:List α) (i:Nat),(l.eraseIdx i).length<=l.length
 | [],_=>Nat.le_refl _
 |_::_,0=>Nat.le_succ _
 |_::r,i+1=>Nat.succ_le_succ (nG r i)
section
variable {X:Cx}{ab:List (Addr×Obj)}{σ:St}{H:Hp}{s:Shared}{l b:Addr}{xs ys zs:List V}
theorem Inv.lset {its its':List Value}{n:Nat}{f:Array Value->Array Value}{t':Nat}(I:Inv X ab σ H s)(hH:H l=some (.lst xs))
 (e:s.heap.get? l=some {cls:=.type "list",data:=.seq its.toArray n}) (hf:f its.toArray=its'.toArray) (hv:Vals ys its') (hz:ys.length<=sizeLine):
 Inv X ab σ (bq H l (.lst ys)) {s with heap:=s.heap.update l (Obj.mapSeq f),toks:=t'}:=by
 have q:=PySem.IsL.update e f
 rw[hf] at q;refine I.write (x:=l) (e:=l) (by rw[hH];exact trivial) (.inl rfl) (λb' u hb hu=>(Heap.get?_update_other s.heap (Obj.mapSeq f) (Ne.symm hb)).trans hu) ⟨_,q⟩ ?_
 exact⟨hz,its',_,hv,q⟩
theorem Inv.lnew {its:List Value}{t':Nat}(I:Inv X ab σ H s)(hv:Vals ys its)(hz:ys.length<=sizeLine):
 Inv X ab σ (bq H s.heap.objs.size (.lst ys)) {s with heap:=s.heap.push {cls:=.type "list",data:=.seq its.toArray},toks:=t'}:=
 I.laid (λ_ _ q=>Heap.get?_push_of_some _ q) (Nat.le_refl _) ⟨hz,its,0,hv,Heap.get?_push_size _ rfl⟩
theorem Inv.fresh(I:Inv X ab σ H s):H s.heap.objs.size=none:=I.hok.fresh (Nat.le_refl _)
theorem Inv.lstM(I:Inv X ab σ H s)(hH:H l=some (.lst xs)):xs.length<=sizeLine/\ ∃(its:List Value) (n:Nat),Vals xs its/\xs.length=its.length/\s.heap.get? l=some {cls:=.type "list",data:=.seq its.toArray n}:=by
 obtain⟨z,its,n,r,e⟩:=I.hok l _ hH
 exact⟨z,its,n,r,r.length,e⟩
theorem wq {n:Nat}(h:n<=sizeLine):Builtin.List.listTooLong n=false:=by
 unfold Builtin.List.listTooLong;exact decide_eq_false (by omega)
end
section
variable {X:Cx}
def sU:V->List V->Hp->VK->Prop:=λx vs H Q=> ∃l xs y,x=.ref l/\vs=[y]/\H l=some (.lst xs)/\xs.length<sizeLine/\Q .non (bq H l (.lst (xs++[y])))
theorem cc:Bx X "list.append" sU:=by
 intro ab s σ H x vs v us Q I rx rv h;obtain⟨l,xs,y,rfl,rfl,hH,hz,q⟩:=h
 cases rx
 obtain⟨u,rfl,ru⟩:=rv.one
 obtain⟨z,its,n,r,hl,e⟩:=I.lstM hH
 refine call_meets F.slot_list_append ⟨_,e,rfl⟩ F.entry_list_append (F.args_list_append_2 _ _) (PySem.list_append l its.toArray n u (by rw[List.size_toArray];omega)) ⟨e,?_⟩
 refine⟨.non,_,I.lset (its':=its++[u]) hH e (by simp) (r.append (.cons ru .nil)) ?_,rfl,q⟩
 rw[List.length_append,List.length_singleton];omega
def yZ:V->List V->Hp->VK->Prop:=λx vs H Q=> ∃l b xs zs,x=.ref l/\vs=[.ref b]/\H l=some (.lst xs)/\H b=some (.lst zs)/\xs.length+zs.length<=sizeLine/\Q .non (bq H l (.lst (xs++zs)))
theorem uP:Bx X "list.extend" yZ:=by
 intro ab s σ H x vs v us Q I rx rv h;obtain⟨l,b,xs,zs,rfl,rfl,hH,hB,hz,q⟩:=h
 cases rx
 obtain⟨u,rfl,ru⟩:=rv.one
 cases ru
 obtain⟨z,its,n,r,hl,e⟩:=I.lstM hH
 obtain⟨z2,its2,n2,r2,hl2,e2⟩:=I.lstM hB
 have hsz:its.toArray.size+its2.toArray.size<=sizeLine:=by rw[List.size_toArray,List.size_toArray];omega
 have hlong: ¬(!its.toArray.isEmpty&&Builtin.List.listTooLong (its.toArray.size+its2.toArray.size))=true:=by
  rw[wq hsz,Bool.and_false];exact Bool.false_ne_true
 refine call_meets F.slot_list_extend ⟨_,e,rfl⟩ F.entry_list_extend (F.args_list_extend_2 _ _)
  (AutoSeq1.list_extend_list_list_0 l its.toArray n b its2.toArray n2 hlong (by rw[List.size_toArray];omega) (by omega)) ⟨e,e2,?_⟩
 refine⟨.non,_,I.lset (its':=its++its2) hH e (by simp) (r.append r2) ?_,rfl,q⟩
 rw[List.length_append];omega
def vE:V->List V->Hp->VK->Prop:=λx vs H Q=> ∃l xs i k y,x=.ref l/\vs=[.int i]/\H l=some (.lst xs)/\ -(2^63)<=i/\i<2^63/\seqIndex? i xs.length=some k/\xs[k]? =some y/\Q y (bq H l (.lst (xs.eraseIdx k)))
theorem wQ:Bx X "list.pop" vE:=by
 intro ab s σ H x vs v us Q I rx rv h;obtain⟨l,xs,i,k,y,rfl,rfl,hH,h1,h2,hk,hy,q⟩:=h
 cases rx
 obtain⟨u,rfl,ru⟩:=rv.one
 obtain⟨t,rfl⟩:=ru
 obtain⟨z,its,n,r,hl,e⟩:=I.lstM hH
 obtain⟨w,hw,rw'⟩:=r.get hy
 refine call_meets F.slot_list_pop ⟨_,e,rfl⟩ F.entry_list_pop (F.args_list_pop_2 _ _)
  (MeetsSeq.list_pop_at l its.toArray n i t k w (fitsIndex_both h1 h2) (by rw[List.size_toArray,<-hl];exact hk) (by rw[<-Array.getElem?_toList];exact hw) (by rw[List.size_toArray];omega)) ⟨e,?_⟩
 refine⟨y,_,I.lset (its':=its.eraseIdx k) hH e ?_ (r.eraseIdx k) ?_,rw',q⟩
 ·show its.toArray.eraseIdxIfInBounds k=(its.eraseIdx k).toArray
  rw[List.eraseIdxIfInBounds_toArray]
 ·have:=nG xs k
  omega
def qQ:V->List V->Hp->VK->Prop:=λx vs H Q=> ∃l xs,x=.ref l/\vs=[]/\H l=some (.lst xs)/\Q .non (bq H l (.lst xs.reverse))
theorem mQ:Bx X "list.reverse" qQ:=by
 intro ab s σ H x vs v us Q I rx rv h;obtain⟨l,xs,rfl,rfl,hH,q⟩:=h
 cases rx
 have hus:=rv.zero
 subst hus;obtain⟨z,its,n,r,hl,e⟩:=I.lstM hH
 refine call_meets F.slot_list_reverse ⟨_,e,rfl⟩ F.entry_list_reverse (F.args_list_reverse_1 _) (AutoSeq1.list_reverse_list_0 l its.toArray n (by rw[List.size_toArray];omega)) ⟨e,?_⟩
 refine⟨.non,_,I.lset (its':=its.reverse) hH e (by simp) r.reverse ?_,rfl,q⟩
 rw[List.length_reverse];omega
end
end L2
namespace Att
open PySem PySem.W PySem.Calls PyProof.Rows
theorem kY {P:Params}{h:Heap}: ∀(ns:List Int) (vs:List Value),WellAll P h vs (ns.map WData.int)->IntsAre vs ns:=by
 intro ns
 induction ns with
 |nil=>
  intro vs w;rw[List.map_nil] at w;cases w
  exact .nil
 |cons n ns ih=>
  intro vs w;rw[List.map_cons] at w;cases w with
  |cons a b=>
   cases a
   exact .cons _ _ (ih _ b)
theorem uZ {l:OpenLaw}{n:Nat}(hn:l.most=some n){P:Params}{h:Heap}{args:List WData}{vals:List Value}
 (hpre:l.row.toRowW.claim.pre args=true) (hwl:WellAll P h vals args):
 ∃a vs ns,vals=[Value.ref a]/\args=[WData.list (ns.map WData.int)]/\h.get? a=some {cls:=.type "list",data:=.seq vs.toArray}/\IntsAre vs ns/\ns.length<=n:=by
 have hsh:WShape.hasAll [] args [.list .int]=true:=(pre_splitW hpre).1
 have hc:l.pre.holds [] {args:=args}=true:=(pre_splitW hpre).2
 obtain⟨d,r,rfl,h1,h2⟩:=hasAllW_cons hsh
 obtain rfl:=hasAllW_nil h2
 obtain⟨xs,rfl,h3⟩:=hasW_list h1
 obtain⟨ns,rfl⟩:=items_int h3
 have hlen:ns.length<=n:=by
  unfold OpenLaw.pre at hc;have h4:(WTm.not (.lt (.lit (.int (n:Int))) (.len (.arg 0)))).holds [] {args:=[.list (ns.map .int)]}=true:=by
   have h4:=(holds_andW hc).1
   rw[hn] at h4;exact h4
  have h5:=condW_of h4 (w_not (w_lt w_lit (w_len_list (w_arg rfl))))
  rw[List.length_map] at h5;refine Nat.le_of_not_lt λq=>?_
  have q':(n:Int)<((ns.length:Nat):Int):=by omega
  first
   |(rw[decide_eq_true q'] at h5;exact absurd h5 (by decide))
   |(simp at h5;omega)
 cases hwl with
 |cons w1 w2=>
  cases w2
  cases w1 with
  |list ho hall=>exact⟨_,_,ns,rfl,rfl,ho,kY ns _ hall,hlen⟩
theorem ut(l:OpenLaw)(args:List WData):l.row.toRowW.claim.post args (.bool true) args=true:=
 postW_of (r:=l.row.toRowW) (X:=(true==true))
  (show WShape.has [] (.bool true) .bool=true by first|rfl|decide|simp[WShape.has,WShape.arms,WShape.armsAll])
  (show(WTm.eq .res (.lit (.bool true))).value [] {args:=args,res:=some (.bool true),after:=args}=some (.bool (true==true)) from w_eq_bool (w_res rfl) w_lit) rfl
theorem attach_call {l:OpenLaw}{n:Nat}{q:Program}{loose:List Str}{XP:(Str->Option Value)->Heap->Prop}{YP:World->Heap->Prop}{d:DefRec}
 (hn:l.most=some n) (hdf:d.params.defaults=[])
 (call: ∀(w:World) (s₀ s₁:Shared) (mg mb:Str->Option Value) (fa:Addr) (o:Obj) (pm cd doc:Value) (a:Addr) (vs:List Value) (ns:List Int),
   Ground q loose [] XP w s₀ mg mb s₁.heap->YP w s₁.heap->
   s₁.heap.get? fa=some o->o.data=.func (docDef d.name d.params d.body d.scope pm cd doc)->s₁.heap.CodeRec cd d.name->mg d.name=some (.ref fa)->
   s₁.heap.get? a=some {cls:=.type "list",data:=.seq vs.toArray}->IntsAre vs ns->ns.length<=n->s₁.gens= #[]->
   codeAny (model l.prog w) callerA (.call (.ref fa) ⟨[.ref a],[]⟩) (λr s'=>r=.ok (.ret (.bool true))/\OldK s₁.heap s'.heap/\s'.os=s₁.os/\AllBare s'.gens) s₁):
 WalkO q loose XP YP l.row.toRowW d [] (λf vs=>PySem.call f vs):=by
 intro w s₀ s₁ mg mb G Y fa o pm cd doc dV kV ho hd hcd hD hmg hg args vals as hpre hlay hrd hwl hlo;obtain rfl:dV=.none:=Dflts.none hD hdf
 obtain rfl:kV=.none:=Dflts.noKw hD
 obtain⟨a,vs,ns,rfl,rfl,hobj,hints,hlen⟩:=uZ hn hpre hwl
 refine enter_call (codeAny_mono (call w s₀ s₁ mg mb fa o pm cd doc a vs ns G Y ho (fd_plain hd) hcd hmg hobj hints hlen hg) λr s' hq=>?_)
 obtain⟨rfl,h2,h3,h4⟩:=hq
 exact⟨.inl ⟨.bool true,.bool true,[],rfl,λ_=>rfl,.bool true,ut l _,λ_=>⟨List.Pairwise.nil,λ_ hm=>(nomatch hm)⟩⟩,h2,h3,h4⟩
end Att
namespace L2
open PySem PySem.Spec PyProof.Rows
theorem nu: ∀ {vs:List Value} {ns:List Int},IntsAre vs ns->Vals (ns.map V.int) vs
 |_,_,.nil=>.nil
 |_,_,.cons n t h=>.cons ⟨t,rfl⟩ (nu h)
def Am(H:Hp):Prop:= ∀b,H b=none\/ ∃o xs,H b=some (.frz o (.lst xs))
theorem vy {P:Program}{w:World}{K:W.Frag}{mg mb:Str->Option Value}{CX:vJ}{k:Nat}{fa a:Addr}{fd:FuncData}{x:Str}{sp:Sp}{s₁:Shared}{vs:List Value}{ns:List Int}
 (KX:K.In s₁.heap) (hns:s₁.heap.Ns mainGlobals mg) (hb:s₁.heap.Ns builtinsNs mb) (hbb: ∀x:Str,x≠"__name__"->mb x=bootBuiltins x) (hlim:s₁.heap.NoLimit) (hg:s₁.gens= #[])
 (ha:s₁.heap.get? a=some {cls:=.type "list",data:=.seq vs.toArray}) (hi:IntsAre vs ns) (hl:ns.length<=sizeLine) (hr:Room k callerA)
 (F: ∀base:Heap,K.In base->base.Ns mainGlobals mg->FnOk P w K mg base CX k fa fd [x] sp) (hbind: ∀(s:Shared) (u:Value),BindsTo s fd ⟨[u],[]⟩ [(x,u)])
 (hsp: ∀H:Hp,Am H->SqL K H a (ns.map V.int)->sp [.ref a] H (λv _=>v=.bl true) λ_ _ _=>False)
 (hCX: ∀H e s',CX [] H s₁ (λ_ _ _=>False) e s'->False):
 codeAny (model P w) callerA (.call (.ref fa) ⟨[.ref a],[]⟩) (λr s'=>r=.ok (.ret (.bool true))/\OldK s₁.heap s'.heap/\s'.os=s₁.os/\AllBare s'.gens) s₁:=by
 have rv:=nu hi
 have lenV:=hi.length
 have core: ∀H:Hp,Am H->SqL K H a (ns.map V.int)->HOk P w H s₁.heap->(∀b,H b≠none->b=a)->(H a≠none->K.lookup a=none)->
  codeAny (model P w) callerA (.call (.ref fa) ⟨[.ref a],[]⟩) (λr s'=>r=.ok (.ret (.bool true))/\OldK s₁.heap s'.heap/\s'.os=s₁.os/\AllBare s'.gens) s₁:=by
  intro H hO hS hok hA hK;have base_of: ∀ {b:Addr} {o:Obj},s₁.heap.get? b=some o->H b=none->(pq s₁.heap H).get? b=some o:=λe n=>xu e n
  have noA: ∀ {b:Addr} {o:Obj} {es:Array DictEntry} {ep:Nat},s₁.heap.get? b=some o->o.data=.dict es ep->H b=none:=λ{b o es ep} e d=>by
   cases q:H b with
   |none=>rfl
   |some u=>
    have e':b=a:=hA b (by rw[q];simp)
    subst e';rw[ha] at e;cases e;have d':Data.seq vs.toArray _=Data.dict es ep:=d
    cases d'
  have nsK: ∀ {b:Addr} {m:Str->Option Value},s₁.heap.Ns b m->(pq s₁.heap H).Ns b m:=λ{b m} ⟨o,es,ep,e,d,r⟩=>⟨o,es,ep,base_of e (noA e d),d,r⟩
  have hKb:K.In (pq s₁.heap H):=λb o e=>base_of (KX b o e) (by
   cases q:H b with
   |none=>rfl
   |some u=>
    have e':b=a:=hA b (by rw[q];simp)
    subst e';rw[hK (by rw[q];simp)] at e;cases e)
  have hM:Mod K mg (pq s₁.heap H):=⟨hKb,nsK hns,⟨mb,nsK hb,hbb⟩,let⟨mc,h1,h2⟩:=hlim;⟨mc,nsK h1,h2⟩⟩
  have e0:Env0 P w K mg (pq s₁.heap H) callerA [] s₁ H:=⟨rfl,hM,λb o e=>y0 e,Nat.le_of_eq (ui _ _),trivial,λb hb=>absurd (show b∈([]:List Addr) from hb) (by simp),hok,.of_eq hg⟩
  refine codeAny_mono ((F _ hKb (nsK hns)).run callerA [] s₁ H ⟨[.ref a],[]⟩ [.ref a] [.ref a] _ _ hr e0 (hbind s₁ (.ref a)) (.cons rfl .nil) (hsp H hO hS)) λr s' h=>?_
  cases r with
  |error e=>exact(hCX H e s' h).elim
  |ok fl=>
   cases fl with
   |next=>exact False.elim h
   |brk=>exact False.elim h
   |cont=>exact False.elim h
   |ret u=>
    obtain⟨v,H',os,bare,un,hok',r',q⟩:=h
    have q':v=.bl true:=q
    subst q';obtain rfl:u=Value.bool true:=r'
    refine⟨rfl,OldK.of_keep λb o e=>?_,os,bare⟩
    cases q:H b with
    |none=>exact un.keep b o e q (by intro z;exact absurd (show b∈([]:List Addr) from z) (by simp)) (by simp)
    |some u=>
     rcases hO b with z|⟨ob,xs,z⟩
     ·rw[q] at z;cases z
     ·have z2:=un.frzs b ob _ z
      obtain⟨e1,_⟩:=hok b _ z
      obtain⟨e2,_⟩:=hok' b _ z2
      rw[e] at e1;cases e1;exact e2
 cases hk:K.lookup a with
 |some o=>
  have e:=KX a o hk
  rw[ha] at e;cases e
  refine core (λ_=>none) (λ_=>.inl rfl) (.inr ⟨_,vs.toArray,_,hk,rfl,rfl,rfl,by rw[List.size_toArray,lenV];exact hl,by simpa using rv⟩) (λb u z=>by have z':(none:Option HO)=some u:=z;cases z') (λb z=>absurd rfl z) λz=>absurd rfl z
 |none=>
  refine core (λb=>if b=a then some (.frz {cls:=.type "list",data:=.seq vs.toArray} (.lst (ns.map V.int))) else none) (λb=>?_) (.inl (.inr ⟨{cls:=.type "list",data:=.seq vs.toArray},if_pos rfl⟩)) (λb u z=>?_) (λb z=>?_) λ_=>hk
  ·by_cases hb:b=a
   ·exact .inr ⟨_,_,if_pos hb⟩
   ·exact .inl (if_neg hb)
  ·by_cases hb:b=a
   ·have z':=(if_pos hb).symm.trans z
    cases z'
    subst hb;exact⟨ha,by rw[List.length_map];exact hl,vs,_,rv,ha⟩
   ·have z':=(if_neg hb).symm.trans z
    cases z'
  ·by_cases hb:b=a
   ·exact hb
   ·exact absurd (if_neg hb) z
theorem walk_of {l:W.OpenLaw}{n k:Nat}{q:Program}{loose:List Str}{XP:(Str->Option Value)->Heap->Prop}{YP:World->Heap->Prop}{d:DefRec}{K:Params->W.Frag}{CX:World->vJ}{sp:World->Sp}{x:Str}
 (hn:l.most=some n) (hn2:n<=sizeLine) (hdf:d.params.defaults=[]) (hr:Room k callerA)
 (hY: ∀(w:World) (h:Heap),YP w h->(K w.params).In h)
 (F: ∀(w:World) (mg:Str->Option Value) (fa:Addr) (h:Heap),(K w.params).In h->h.Ns mainGlobals mg->mg d.name=some (.ref fa)->
   ∃fd:FuncData,(∀(s:Shared) (u:Value),BindsTo s fd ⟨[u],[]⟩ [(x,u)])/\
    ∀base:Heap,(K w.params).In base->base.Ns mainGlobals mg->FnOk l.prog w (K w.params) mg base (CX w) k fa fd [x] (sp w))
 (hsp: ∀(w:World) (H:Hp) (a:Addr) (ns:List Int),ns.length<=n->Am H->SqL (K w.params) H a (ns.map V.int)->sp w [.ref a] H (λv _=>v=.bl true) λ_ _ _=>False)
 (hCX: ∀(w:World) (H:Hp) (s:Shared) (e:Value) (s':Shared),CX w [] H s (λ_ _ _=>False) e s'->False):
 W.WalkO q loose XP YP l.row.toRowW d [] (λf vs=>PySem.call f vs):=by
 refine Att.attach_call hn hdf λw s₀ s₁ mg mb fa o pm cd doc a vs ns G Y ho hd hcd hmg hobj hints hlen hg=>?_
 have KX:=hY w _ Y
 obtain⟨fd,hb,hF⟩:=F w mg fa _ KX G.T.g hmg
 exact vy KX G.T.g G.T.b G.T.builtins G.T.nolimit hg hobj hints (Nat.le_trans hlen hn2) hr hF hb (λH hO hS=>hsp w H a ns hlen hO hS) λH e s'=>hCX w H s₁ e s'
def aR(s:Stmt):Arguments:=match s with
 | .FunctionDef _ a _ _ _ _ _ _ _ _=>a
 |_=>{posonlyargs:=[],args:=[],vararg:=none,kwonlyargs:=[],kw_defaults:=[],kwarg:=none,defaults:=[]}
def aJ(s:Stmt):List Stmt:=match s with
 | .FunctionDef _ _ b _ _ _ _ _ _ _=>b
 |_=>[]
def aj(s:Stmt):Scope:=match s with
 | .FunctionDef _ _ _ _ _ _ sc _ _ _=>sc
 |_=>{kind:=.function,names:=[],isGenerator:=false,isCoroutine:=false}
abbrev mY:vJ:=λ_ _ _ _ _ _=>False
abbrev E0:XK:=λ_ _ _=>False
theorem pM {X:Cx}:rm mY X E0:=λ_ _ _ _ _ _ _ h=>h.elim
structure Fun(K:W.Frag)(x qual:Str)(st:Stmt)(f:Addr)(fd:FuncData):Prop where
 ex: ∃(oc:Value) (od:Option Addr) (kV doc pm:Value) (an:Option Addr) (cdv ct:Value) (osl:Array (Option Value)),
  fd=W.fnOf x qual (aR st) (aJ st) (aj st) .none kV doc pm an cdv ct/\K.lookup f=some ⟨oc,od,.func fd,osl⟩/\W.codeIn K cdv qual=true
 kp:W.keepIn K (.ref f)=true
section
variable {P:Program}{w:World}{K:W.Frag}{mg:Str->Option Value}{base:Heap}
theorem Fun.ok {x qual:Str}{st:Stmt}{f:Addr}{fd:FuncData}{N ps:List Str}{k:Nat}{sp:Sp}(F:Fun K x qual st f fd)(S:FnScope N ps (aj st))(len: ∀vs H Q E,sp vs H Q E->vs.length=ps.length)
 (hbody: ∀(cdv:Value) (A:Around) (outer:List Env) (s:Shared) (H:Hp) (vs:List V) (Q:VK) (E:XK),Room k (A.deeper (envOfC qual (aj st) s.heap.objs.size f cdv))->sp vs H Q E->
   ∃t,PSs (kE mY P w K mg base N qual (aj st) f cdv A outer s H E).nox (aJ st) t/\t {nx:=λ_ H'=>Q .non H',rt:=Q} (start N vs) H):FnOk P w K mg base mY (k+1) f fd ps sp:=by
 obtain⟨oc,od,kV,doc,pm,an,cdv,ct,osl,rfl,lk,hcd⟩:=F.ex
 refine BD lk hcd S len λA outer s H vs Q E hr hsp=>?_
 obtain⟨t,h,q⟩:=hbody cdv A outer s H vs Q E hr hsp
 exact⟨t,h.nox,q⟩
theorem Fun.binds {x qual:Str}{st:Stmt}{f:Addr}{fd:FuncData}{ps:List Str}(F:Fun K x qual st f fd)
 (h: ∀(kV doc pm:Value) (an:Option Addr) (cdv ct:Value) (us:List Value),us.length=ps.length->bindArgs (W.fnOf x qual (aR st) (aJ st) (aj st) .none kV doc pm an cdv ct) ⟨us,[]⟩=pure (ps.zip us)):Binds K fd ps []:=by
 obtain⟨oc,od,kV,doc,pm,an,cdv,ct,osl,rfl,lk,hcd⟩:=F.ex
 exact .all (h kV doc pm an cdv ct)
theorem bu {x qual:Str}{st:Stmt}{f:Addr}{oc:Value}{od an:Option Addr}{osl:Array (Option Value)}{kV doc pm cdv ct:Value}(l:K.lookup f=some ⟨oc,od,.func (W.fnOf x qual (aR st) (aJ st) (aj st) .none kV doc pm an cdv ct),osl⟩)
 (c:W.codeIn K cdv qual=true) (k:W.keepIn K (.ref f)=true):Fun K x qual st f (W.fnOf x qual (aR st) (aJ st) (aj st) .none kV doc pm an cdv ct):=⟨⟨oc,od,kV,doc,pm,an,cdv,ct,osl,rfl,l,c⟩,k⟩
end
theorem kI {A:Around}{k:Nat}(hr:Room k A):A.units+1<cLine:=Nat.lt_of_le_of_lt (Nat.add_le_add_left (by decide:1<=64) _) hr.units
theorem iC {n:Nat}(h:n<=1000):n<sizeLine:=Nat.lt_of_le_of_lt h (by decide)
section
variable {X:Cx}
theorem pv(i:Nat){x:Str}{pos:Pos}(hN:X.N[i]? =some x:=by rfl)(hv:kR X.env.scope x:=by first|exact Or.inl rfl|exact Or.inr (Or.inl rfl)|exact Or.inr (Or.inr rfl))(hd:(x==("__debug__":Str))=false:=by decide)
 (hcd:(x==("__classdict__":Str))=false:=by decide):PE X (.Name x pos) (Cw i):=A5 hN hv hd hcd
end
theorem uN {A B:Prop}(h:B):if false=true then A else B:=by
 rw[if_neg Bool.false_ne_true];exact h
theorem ux {A B:Prop}(h:A):if true=true then A else B:=by
 rw[if_pos rfl];exact h
def Same(H H':Hp):Prop:= ∀b o,H b=some o->H' b=some o
theorem Same.refl(H:Hp):Same H H:=λ_ _ h=>h
theorem Same.trans {H H1 H2:Hp}(a:Same H H1)(b:Same H1 H2):Same H H2:=λc o h=>b c o (a c o h)
theorem Same.free {H H':Hp}(e:Same H H'){l:Addr}(h:H' l=Option.none):H l=Option.none:=by
 cases q:H l with
 |none=>rfl
 |some o=>
  rw[e l o q] at h;cases h
theorem Same.seq {K:W.Frag}{H H':Hp}{a:Addr}{xs:List V}(e:Same H H')(h:SqL K H a xs):SqL K H' a xs:=by
 rcases h with(h|⟨o,h⟩)|h
 ·exact .inl (.inl (e _ _ h))
 ·exact .inl (.inr ⟨o,e _ _ h⟩)
 ·exact .inr h
inductive D where
 |non|bl (b:Bool)|int (i:Int)|str (x:Str)|tup (ds:List D)|lst (ds:List D)
 |scr (ds:List D)
def SqR(K:W.Frag)(H:Hp)(a:Addr)(xs:List V):Prop:=
 (∃o,H a=some (.frz o (.lst xs)))\/
   ∃(o:Obj) (its:Array Value) (n:Nat),K.lookup a=some o/\o.cls=.type "list"/\o.dict=none/\o.data=.seq its n/\its.size<=sizeLine/\Vals xs its.toList
theorem SqR.seq {K:W.Frag}{H:Hp}{a:Addr}{xs:List V}(h:SqR K H a xs):SqL K H a xs:=h.elim (λh=>.inl (.inr h)) .inr
theorem Same.seqR {K:W.Frag}{H H':Hp}{a:Addr}{xs:List V}(e:Same H H')(h:SqR K H a xs):SqR K H' a xs:=h.elim (λ⟨o,h⟩=>.inl ⟨o,e _ _ h⟩) .inr
mutual
inductive Rep (K:W.Frag) (F:Hp):V->D->Prop
 |non:Rep K F .non .non
 |bl {b:Bool}:Rep K F (.bl b) (.bl b)
 |int {i:Int}:Rep K F (.int i) (.int i)
 |str {x:Str}:Rep K F (.str x) (.str x)
 |tup {a:Addr} {xs:List V} {ds:List D}:SqT K F a xs->Reps K F xs ds->Rep K F (.ref a) (.tup ds)
 |lst {a:Addr} {xs:List V} {ds:List D}:F a=some (.lst xs)->Reps K F xs ds->Rep K F (.ref a) (.lst ds)
 |scr {a:Addr} {xs:List V} {ds:List D}:SqR K F a xs->Reps K F xs ds->Rep K F (.ref a) (.scr ds)
inductive Reps (K:W.Frag) (F:Hp):List V->List D->Prop
 |nil:Reps K F [] []
 |cons {x:V} {d:D} {xs:List V} {ds:List D}:Rep K F x d->Reps K F xs ds->Reps K F (x::xs) (d::ds)
end
theorem Same.seqT {K:W.Frag}{H H':Hp}{a:Addr}{xs:List V}(e:Same H H')(h:SqT K H a xs):SqT K H' a xs:=by
 rcases h with(h|⟨o,h⟩)|h
 ·exact .inl (.inl (e _ _ h))
 ·exact .inl (.inr ⟨o,e _ _ h⟩)
 ·exact .inr h
mutual
theorem Rep.mono {K:W.Frag}{F G:Hp}(s:Same F G): ∀ {v:V} {d:D},Rep K F v d->Rep K G v d
 |_,_,.non=>.non
 |_,_,.bl=>.bl
 |_,_,.int=>.int
 |_,_,.str=>.str
 |_,_,.tup h r=>.tup (Same.seqT s h) (Reps.mono s r)
 |_,_,.lst h r=>.lst (s _ _ h) (Reps.mono s r)
 |_,_,.scr h r=>.scr (Same.seqR s h) (Reps.mono s r)
theorem Reps.mono {K:W.Frag}{F G:Hp}(s:Same F G): ∀ {v:List V} {d:List D},Reps K F v d->Reps K G v d
 |_,_,.nil=>.nil
 |_,_,.cons r t=>.cons (Rep.mono s r) (Reps.mono s t)
end
section
variable {K:W.Frag}{F G H:Hp}
theorem Reps.length: ∀ {xs:List V} {ds:List D},Reps K F xs ds->xs.length=ds.length
 |_,_,.nil=>rfl
 |_,_,.cons _ t=>by simp[t.length]
theorem Reps.get: ∀ {xs:List V} {ds:List D} {i:Nat} {d:D},Reps K F xs ds->ds[i]? =some d-> ∃x,xs[i]? =some x/\Rep K F x d
 |_,_,_,_,.nil,e=>by simp at e
 |_,_,0,_,.cons r _,e=>by simp at e;subst e;exact⟨_,rfl,r⟩
 |_,_,i+1,d,.cons _ t,e=>by
  obtain⟨u,h1,h2⟩:=Reps.get (i:=i) (d:=d) t (by simpa using e)
  exact⟨u,by simpa using h1,h2⟩
theorem Reps.get' {xs:List V}{ds:List D}{i:Nat}{x:V}(r:Reps K F xs ds)(e:xs[i]? =some x): ∃d,ds[i]? =some d/\Rep K F x d:=by
 have hl:=r.length
 have hi:=(List.getElem?_eq_some_iff.mp e).1
 have e2:ds[i]? =some ds[i]:=List.getElem?_eq_getElem (by omega)
 obtain⟨y,h1,h2⟩:=r.get e2
 rw[e] at h1;cases h1;exact⟨_,e2,h2⟩
theorem Reps.append: ∀ {xs ys:List V} {us ws:List D},Reps K F xs us->Reps K F ys ws->Reps K F (xs++ys) (us++ws)
 |_,_,_,_,.nil,s=>s
 |_,_,_,_,.cons r t,s=>.cons r (Reps.append t s)
theorem Reps.set {x:V}{u:D}(r:Rep K F x u): ∀ {xs:List V} {us:List D} (i:Nat),Reps K F xs us->Reps K F (xs.set i x) (us.set i u)
 |_,_,_,.nil=>.nil
 |_,_,0,.cons _ t=>.cons r t
 |_,_,i+1,.cons q t=>.cons q (Reps.set r i t)
theorem Reps.eraseIdx: ∀ {xs:List V} {us:List D} (i:Nat),Reps K F xs us->Reps K F (xs.eraseIdx i) (us.eraseIdx i)
 |_,_,_,.nil=>.nil
 |_,_,0,.cons _ t=>t
 |_,_,i+1,.cons q t=>.cons q (Reps.eraseIdx i t)
theorem Reps.reverse {xs:List V}{us:List D}(h:Reps K F xs us):Reps K F xs.reverse us.reverse:=by
 induction xs generalizing us with
 |nil=>cases h;exact .nil
 |cons x xs ih=>
  cases h with
  |cons r t=>simp only[List.reverse_cons];exact(ih t).append (.cons r .nil)
theorem Reps.take: ∀ {xs:List V} {us:List D} (n:Nat),Reps K F xs us->Reps K F (xs.take n) (us.take n)
 |_,_,0,_=>.nil
 |_,_,_+1,.nil=>.nil
 |_,_,n+1,.cons r t=>.cons r (Reps.take n t)
theorem Reps.drop: ∀ {xs:List V} {us:List D} (n:Nat),Reps K F xs us->Reps K F (xs.drop n) (us.drop n)
 |_,_,0,r=>r
 |_,_,_+1,.nil=>.nil
 |_,_,n+1,.cons _ t=>Reps.drop n t
end
abbrev bj:=Addr->Bool
def vw(H:Hp)(hid:bj):Hp:=λb=>if hid b=true then none else H b
def be(hid:bj)(a:Addr):bj:=λb=>hid b||decide (b=a)
def gI(hid:bj)(a:Addr):bj:=λb=>hid b&& !decide (b=a)
theorem vw_some {H:Hp}{hid:bj}{b:Addr}{o:HO}:vw H hid b=some o↔hid b=false/\H b=some o:=by
 unfold vw;cases hb:hid b<;>simp
theorem dU(H:Hp)(hid:bj):Same (vw H hid) H:=λb o h=>(vw_some.mp h).2
theorem aK {H H':Hp}{hid:bj}(s:Same H H'):Same (vw H hid) (vw H' hid):=λb o h=>vw_some.mpr ⟨(vw_some.mp h).1,s _ _ (vw_some.mp h).2⟩
theorem sZ {H H':Hp}{hid:bj}(s: ∀b o,H b=some o->hid b=false->H' b=some o):Same (vw H hid) (vw H' hid):=λb o h=>vw_some.mpr ⟨(vw_some.mp h).1,s _ _ (vw_some.mp h).2 (vw_some.mp h).1⟩
theorem dG {H:Hp}{hid:bj}{a:Addr}{o:HO}(h:hid a=true):vw (bq H a o) hid=vw H hid:=by
 funext b;unfold vw bq
 by_cases e:b=a
 ·subst e;simp[h]
 ·simp[e]
theorem cu {H:Hp}{hid hid':bj}(h: ∀b,hid' b=true->hid b=true):Same (vw H hid) (vw H hid'):=λb o q=>by
 obtain⟨q1,q2⟩:=vw_some.mp q
 refine vw_some.mpr ⟨?_,q2⟩
 cases e:hid' b with
 |false=>rfl
 |true=>rw[h b e] at q1;cases q1
theorem sa {H:Hp}{hid:bj}{a:Addr}{o:HO}(h:H a=none):vw (bq H a o) (be hid a)=vw H hid:=by
 funext b;unfold vw bq be
 by_cases e:b=a
 ·subst e
  cases hb:hid b<;>simp[h]
 ·simp[e]
inductive NO where
 |l (ds:List D)
 |k (kvs:List (bn×D))
inductive Ob where
 |nst (us:List NO)
 |dR (kvs:List (bn×D))
 |dRs (l:List (List (bn×D)))
 |exc (x:Str) (n:Int)
 |dK (kvs:List (bn×D))
 |dT (kvs:List (List bn×D))
 |set (ds:List D)
 |old (d:D)
 |jnk
 |tset (ks:List (List Int))
 |dF (kvs:List (List bn×D))
 |dQ (kvs:List (List bn×D))
inductive Sl where
 |no
 |v (d:D)
 |own (ds:List D)
 |arg (ds:List D)
 |ob (b:Ob)
abbrev aC:=List Sl
structure Ct where
 H₀:Hp
 hid₀:bj
 mu:Addr->Bool
def CA(K:W.Frag)(x:Str)(n:Int)(a:Addr)(h:Heap):Prop:= ∃C o,W.nsIn K mainGlobals x=some (some (.ref C))/\h.get? a=some o/\o.cls=.ref C/\o.dict=none/\W.notCls o=true
def iN:Option HO->Bool
 |some (.lst _)=>true
 |_=>false
def fv(c:Ct)(F:Hp):Hp:=λb=>if(c.H₀ b).isSome=true/\iN (F b)=true then none else F b
def ov(c:Ct)(F:Hp):Hp:=λb=>if(c.H₀ b).isSome=true then F b else none
theorem fv_some {c:Ct}{F:Hp}{b:Addr}{o:HO}:fv c F b=some o↔(iN (some o)=true->c.H₀ b=none)/\F b=some o:=by
 unfold fv;constructor
 ·intro h
  split at h
  ·cases h
  ·rename_i hn
   refine⟨λq=>?_,h⟩
   rw[h] at hn;cases hb:c.H₀ b with
   |none=>rfl
   |some u=>exact absurd ⟨by rw[hb];rfl,q⟩ hn
 ·rintro⟨h1,h2⟩
  rw[if_neg,h2]
  rintro⟨q1,q2⟩
  rw[h2] at q2;rw[h1 q2] at q1;cases q1
theorem ov_some {c:Ct}{F:Hp}{b:Addr}{o:HO}:ov c F b=some o↔(∃u,c.H₀ b=some u)/\F b=some o:=by
 unfold ov;cases hb:c.H₀ b<;>simp
theorem yB {c:Ct}{F G:Hp}(s:Same F G):Same (fv c F) (fv c G):=λb o h=>fv_some.mpr ⟨(fv_some.mp h).1,s _ _ (fv_some.mp h).2⟩
theorem yg {c:Ct}{F G:Hp}(s:Same F G):Same (ov c F) (ov c G):=λb o h=>ov_some.mpr ⟨(ov_some.mp h).1,s _ _ (ov_some.mp h).2⟩
def NOk(K:W.Frag)(c:Ct)(hid:bj)(H:Hp)(p a:Addr):NO->Prop
 | .l ds=>(hid a=true/\c.H₀ a=none)/\ ∃xs:List V,H a=some (.nst p (.lst xs))/\Reps K (vw H hid) xs ds
 | .k kvs=>(hid a=true/\c.H₀ a=none)/\ ∃us:List (bn×V),H a=some (.nst p (.dK us))/\us.map (·.1)=kvs.map (·.1)/\Reps K (vw H hid) (us.map (·.2)) (kvs.map (·.2))
theorem NOk.mono {K:W.Frag}{c:Ct}{hid hid':bj}{H H':Hp}{p a:Addr}{b:NO}(h:NOk K c hid H p a b)(k: ∀u,H a=some (.nst p u)->H' a=some (.nst p u))(s:Same (vw H hid) (vw H' hid'))(w:(∃u,H a=some (.nst p u))->hid' a=true):NOk K c hid' H' p a b:=by
 cases b with
 |l ds=>obtain⟨h1,us,h2,h3⟩:=h;exact⟨⟨w ⟨_,h2⟩,h1.2⟩,us,k _ h2,h3.mono s⟩
 |k kvs=>obtain⟨h1,us,h2,h3,h4⟩:=h;exact⟨⟨w ⟨_,h2⟩,h1.2⟩,us,k _ h2,h3,h4.mono s⟩
def DRd(K:W.Frag)(W:Hp)(a:Addr)(kvs:List (bn×D)):Prop:= ∃o us,W a=some (.frz o (.dK us))/\us.map (·.1)=kvs.map (·.1)/\Reps K W (us.map (·.2)) (kvs.map (·.2))
theorem DRd.mono {K:W.Frag}{W W':Hp}{a:Addr}{kvs:List (bn×D)}(h:DRd K W a kvs)(s:Same W W'):DRd K W' a kvs:=by
 obtain⟨o,us,h1,h2,h3⟩:=h
 exact⟨o,us,s _ _ h1,h2,h3.mono s⟩
def DQd(K:W.Frag)(W:Hp)(a:Addr)(kvs:List (List bn×D)):Prop:= ∃o us,W a=some (.frz o (.dT us))/\us.map (·.1)=kvs.map (·.1)/\Reps K W (us.map (·.2)) (kvs.map (·.2))
theorem DQd.mono {K:W.Frag}{W W':Hp}{a:Addr}{kvs:List (List bn×D)}(h:DQd K W a kvs)(s:Same W W'):DQd K W' a kvs:=by
 obtain⟨o,us,h1,h2,h3⟩:=h
 exact⟨o,us,s _ _ h1,h2,h3.mono s⟩
def ObOk(K:W.Frag)(c:Ct)(hid:bj)(H:Hp)(a:Addr):Ob->Prop
 | .nst us=>(hid a=true/\c.H₀ a=none)/\ ∃bs:List Addr,H a=some (.lst (bs.map V.ref))/\bs.Nodup/\Paired (NOk K c hid H a) bs us
 | .dR kvs=>DRd K (vw H hid) a kvs
 | .dQ kvs=>DQd K (vw H hid) a kvs
 | .dRs l=> ∃bs:List Addr,vw H hid a=some (.lst (bs.map V.ref))/\Paired (DRd K (vw H hid)) bs l
 | .exc x n=> ∃φ,vw H hid a=some (.ext φ)/\ ∀h,φ h->CA K x n a h
 | .dK kvs=>(hid a=true/\c.H₀ a=none)/\ ∃us:List (bn×V),H a=some (.dK us)/\us.map (·.1)=kvs.map (·.1)/\Reps K (vw H hid) (us.map (·.2)) (kvs.map (·.2))
 | .dT kvs=>(hid a=true/\c.H₀ a=none)/\ ∃us:List (List bn×V),H a=some (.dT us)/\us.map (·.1)=kvs.map (·.1)/\Reps K (vw H hid) (us.map (·.2)) (kvs.map (·.2))
 | .set ds=>(hid a=true/\c.H₀ a=none)/\ ∃xs:List V,H a=some (.lst xs)/\Reps K (fv c (vw H hid)) xs ds
 | .old d=>Rep K (ov c (vw H hid)) (.ref a) d
 | .jnk=>(hid a=true/\c.H₀ a=none)/\ ∃xs:List V,H a=some (.lst xs)
 | .tset ks=>(hid a=true/\c.H₀ a=none)/\ ∃xs:List (List Int×Addr),H a=some (.tst xs)/\(xs.map (·.1)).Perm ks/\Reps K (vw H hid) (xs.map λx=>V.ref x.2) (xs.map λx=>D.tup (x.1.map D.int))
 | .dF kvs=>(hid a=true/\c.H₀ a=none)/\ ∃(o:Obj) (us:List (List bn×V)),H a=some (.frz o (.dT us))/\us.map (·.1)=kvs.map (·.1)/\Reps K (vw H hid) (us.map (·.2)) (kvs.map (·.2))
def n6:Ob->Prop
 | .exc _ _=>False
 | .old _=>False
 | .dR _=>False
 | .dRs _=>False
 | .dQ _=>False
 |_=>True
def At(H:Hp)(a x:Addr):Prop:=x=a\/ ∃u,H x=some (.nst a u)
theorem At.ne {H:Hp}{a a' x:Addr}{o:HO}(hx:At H a' x)(ne:a'≠a)(ha:H a=some o)(hn: ∀p u,o≠ .nst p u:=by intro _ _ e;cases e):x≠a:=λe=>by
 subst e;rcases hx with rfl|⟨u,hu⟩
 ·exact ne rfl
 ·rw[ha] at hu;cases hu;exact hn _ _ rfl
theorem ObOk.mono {K:W.Frag}{c:Ct}{hid hid':bj}{H H':Hp}{a:Addr}{b:Ob}(h:ObOk K c hid H a b)(k:n6 b-> ∀x,At H a x-> ∀o,H x=some o->H' x=some o)(s:Same (vw H hid) (vw H' hid'))(w:n6 b-> ∀x,At H a x->hid x=true->hid' x=true):ObOk K c hid' H' a b:=by
 have k1:n6 b-> ∀o,H a=some o->H' a=some o:=λo=>k o a (.inl rfl)
 have w1:n6 b->hid a=true->hid' a=true:=λo=>w o a (.inl rfl)
 cases b with
 |nst us=>
  obtain⟨h1,bs,h2,h3,h4⟩:=h
  refine⟨⟨w1 trivial h1.1,h1.2⟩,bs,k1 trivial _ h2,h3,Paired.mapP h4 λx y z=>z.mono (λu q=>k trivial x (.inr ⟨u,q⟩) _ q) s λq=>w trivial x (.inr q) ?_⟩
  cases y with
  |l ds=>exact z.1.1
  |k kvs=>exact z.1.1
 |dR kvs=>exact DRd.mono h s
 |dQ kvs=>exact DQd.mono h s
 |dRs l=>obtain⟨bs,h1,h2⟩:=h;exact⟨bs,s _ _ h1,Paired.mapP h2 λ_ _ z=>z.mono s⟩
 |exc x n=>obtain⟨φ,h1,h2⟩:=h;exact⟨φ,s _ _ h1,h2⟩
 |dK kvs=>obtain⟨h1,us,h2,h3,h4⟩:=h;exact⟨⟨w1 trivial h1.1,h1.2⟩,us,k1 trivial _ h2,h3,h4.mono s⟩
 |dT kvs=>obtain⟨h1,us,h2,h3,h4⟩:=h;exact⟨⟨w1 trivial h1.1,h1.2⟩,us,k1 trivial _ h2,h3,h4.mono s⟩
 |set ds=>obtain⟨h1,us,h2,h3⟩:=h;exact⟨⟨w1 trivial h1.1,h1.2⟩,us,k1 trivial _ h2,h3.mono (yB s)⟩
 |old d=>exact Rep.mono (yg s) h
 |jnk=>obtain⟨h1,us,h2⟩:=h;exact⟨⟨w1 trivial h1.1,h1.2⟩,us,k1 trivial _ h2⟩
 |tset ks=>obtain⟨h1,us,h2,h3,h4⟩:=h;exact⟨⟨w1 trivial h1.1,h1.2⟩,us,k1 trivial _ h2,h3,h4.mono s⟩
 |dF kvs=>obtain⟨h1,o,us,h2,h3,h4⟩:=h;exact⟨⟨w1 trivial h1.1,h1.2⟩,o,us,k1 trivial _ h2,h3,h4.mono s⟩
theorem ObOk.hid {K:W.Frag}{c:Ct}{hid:bj}{H:Hp}{a:Addr}{b:Ob}(h:ObOk K c hid H a b)(o:n6 b):hid a=true:=by
 cases b with
 |nst us=>exact h.1.1
 |dQ kvs=>exact o.elim
 |dR kvs=>exact o.elim
 |dRs l=>exact o.elim
 |exc x n=>exact o.elim
 |dK kvs=>exact h.1.1
 |dT kvs=>exact h.1.1
 |set ds=>exact h.1.1
 |old d=>exact o.elim
 |jnk=>exact h.1.1
 |tset ks=>exact h.1.1
 |dF kvs=>exact h.1.1
def SlOk(K:W.Frag)(c:Ct)(hid:bj)(σ:St)(H:Hp)(i:Nat):Sl->Prop
 | .no=>True
 | .v d=> ∃x,σ[i]? =some (some x)/\Rep K (vw H hid) x d
 | .own ds=> ∃a xs,σ[i]? =some (some (.ref a))/\H a=some (.lst xs)/\hid a=true/\c.H₀ a=none/\Reps K (vw H hid) xs ds
 | .arg ds=> ∃a xs,σ[i]? =some (some (.ref a))/\H a=some (.lst xs)/\hid a=true/\c.mu a=true/\Reps K (vw H hid) xs ds
 | .ob b=> ∃a,σ[i]? =some (some (.ref a))/\ObOk K c hid H a b
def Ow:Option Sl->Prop
 |some (.own _)=>True
 |some (.arg _)=>True
 |some (.ob b)=>n6 b
 |_=>False
structure SR(K:W.Frag)(c:Ct)(hid:bj)(ρ:aC)(σ:St)(H:Hp):Prop where
 tr: ∀b,hid b=true-> ∃o,H b=some o
 ht: ∀b xs,hid b=true->H b≠some (.tup xs)
 h0: ∀b,c.hid₀ b=true->hid b=true
 kp: ∀b o,c.H₀ b=some o->c.mu b=false->H b=some o
 t0: ∀b o,c.H₀ b=some o-> ∃o',H b=some o'
 c0: ∀b,c.hid₀ b=true-> ∃o,c.H₀ b=some o
 m0: ∀b,c.mu b=true->c.hid₀ b=true
 len:σ.length=ρ.length
 sl: ∀(i:Nat) (s:Sl),ρ[i]? =some s->SlOk K c hid σ H i s
 ap: ∀(i j:Nat) (a:Addr),i≠j->Ow ρ[i]? ->Ow ρ[j]? ->σ[i]? =some (some (.ref a))->σ[j]? =some (some (.ref a))->False
section
variable {K:W.Frag}{c:Ct}{hid:bj}{ρ:aC}{σ:St}{H H':Hp}{i:Nat}
theorem SlOk.ext {s:Sl}(h:SlOk K c hid σ H i s)(e:Same H H'):SlOk K c hid σ H' i s:=by
 cases s with
 |no=>trivial
 |v d=>obtain⟨x,h1,h2⟩:=h;exact⟨x,h1,h2.mono (aK e)⟩
 |own ds=>obtain⟨a,xs,h1,h2,h3,h4,h5⟩:=h;exact⟨a,xs,h1,e _ _ h2,h3,h4,h5.mono (aK e)⟩
 |arg ds=>obtain⟨a,xs,h1,h2,h3,h4,h5⟩:=h;exact⟨a,xs,h1,e _ _ h2,h3,h4,h5.mono (aK e)⟩
 |ob b=>obtain⟨a,h1,h2⟩:=h;exact⟨a,h1,h2.mono (λ_ x _=>e x) (aK e) λ_ _ _ q=>q⟩
theorem SR.ext(h:SR K c hid ρ σ H)(e:Same H H'):SR K c hid ρ σ H' where
 tr:=λb hb=>let⟨o,q⟩:=h.tr b hb;⟨o,e _ _ q⟩
 ht:=λb xs hb q=>let⟨o,w⟩:=h.tr b hb;by have z:=e _ _ w;rw[q] at z;cases z;exact h.ht b xs hb w
 h0:=h.h0
 kp:=λb o q m=>e _ _ (h.kp b o q m)
 t0:=λb o q=>let⟨o',q'⟩:=h.t0 b o q;⟨o',e _ _ q'⟩
 c0:=h.c0
 m0:=h.m0
 len:=h.len
 sl:=λi s q=>(h.sl i s q).ext e
 ap:=h.ap
def zB(hid:bj)(H:Hp):Prop:=(∀b,hid b=true-> ∃o,H b=some o)/\ ∀b xs,hid b=true->H b≠some (.tup xs)
theorem SR.trk(h:SR K c hid ρ σ H):zB hid H:=⟨h.tr,h.ht⟩
theorem SR.fresh(h:SR K c hid ρ σ H){a:Addr}(n:H a=none):hid a=false:=by
 cases e:hid a with
 |false=>rfl
 |true=>obtain⟨o,q⟩:=h.tr a e;rw[n] at q;cases q
theorem SR.fresh0(h:SR K c hid ρ σ H){a:Addr}(n:H a=none):c.H₀ a=none:=by
 cases e:c.H₀ a with
 |none=>rfl
 |some o=>obtain⟨o',q⟩:=h.t0 a o e;rw[n] at q;cases q
end
inductive Kd where
 |b|s|n
 deriving DecidableEq
def Rep1(K:W.Frag)(H W:Hp)(v:V)(d:D):Prop:=Rep K W v d\/ ∃a xs ds,v=.ref a/\d=.lst ds/\H a=some (.lst xs)/\Reps K W xs ds
def RN(K:W.Frag)(H H':Hp)(hid:bj)(v:V)(d:D):Prop:= ∃a xs ds,d=.lst ds/\v=.ref a/\H a=none/\H' a=some (.lst xs)/\Reps K (vw H' (be hid a)) xs ds
def RK(K:W.Frag)(k:Kd)(H H':Hp)(hid:bj)(v:V)(d:D):Prop:=match k with
 | .b=>Rep1 K H' (vw H' hid) v d
 | .s=>Rep K (vw H' hid) v d
 | .n=>RN K H H' hid v d
section
variable {K:W.Frag}{c:Ct}{hid:bj}{ρ:aC}{σ:St}{H H' H'':Hp}{i:Nat}{v:V}{d:D}
theorem RN.rep(h:RN K H H' hid v d)(hf: ∀a,H a=none->hid a=false):Rep K (vw H' hid) v d:=by
 obtain⟨a,xs,ds,rfl,rfl,h1,h2,h3⟩:=h
 refine .lst (vw_some.mpr ⟨hf a h1,h2⟩) (h3.mono (cu λb q=>?_))
 unfold be;rw[q];rfl
theorem RK.b(k:Kd)(h:RK K k H H' hid v d)(hf: ∀a,H a=none->hid a=false):Rep1 K H' (vw H' hid) v d:=by
 cases k with
 |b=>exact h
 |s=>exact .inl h
 |n=>exact .inl (RN.rep h hf)
theorem Rep1.ext {hid:bj}(h:Rep1 K H (vw H hid) v d)(e:Same H H'):Rep1 K H' (vw H' hid) v d:=by
 rcases h with h|⟨a,xs,ds,h1,h2,h3,h4⟩
 ·exact .inl (h.mono (aK e))
 ·exact .inr ⟨a,xs,ds,h1,h2,e _ _ h3,h4.mono (aK e)⟩
theorem Rep1.int {i:Int}(h:Rep1 K H (vw H hid) v (.int i)):v=.int i:=by
 rcases h with h|⟨a,xs,ds,h1,h2,_⟩
 ·cases h;rfl
 ·cases h2
theorem Rep1.bl {i:Bool}(h:Rep1 K H (vw H hid) v (.bl i)):v=.bl i:=by
 rcases h with h|⟨a,xs,ds,h1,h2,_⟩
 ·cases h;rfl
 ·cases h2
theorem Rep1.str {i:Str}(h:Rep1 K H (vw H hid) v (.str i)):v=.str i:=by
 rcases h with h|⟨a,xs,ds,h1,h2,_⟩
 ·cases h;rfl
 ·cases h2
theorem Rep1.non(h:Rep1 K H (vw H hid) v .non):v=.non:=by
 rcases h with h|⟨a,xs,ds,h1,h2,_⟩
 ·cases h;rfl
 ·cases h2
theorem Rep1.tup {ds:List D}(h:Rep1 K H (vw H hid) v (.tup ds)): ∃a xs,v=.ref a/\SqT K (vw H hid) a xs/\SqT K H a xs/\Reps K (vw H hid) xs ds:=by
 rcases h with h|⟨a,xs,ds,h1,h2,_⟩
 ·cases h with
  |tup q r=>exact⟨_,_,rfl,q,Same.seqT (dU _ _) q,r⟩
 ·cases h2
theorem Rep1.lst {ds:List D}(h:Rep1 K H (vw H hid) v (.lst ds)): ∃a xs,v=.ref a/\SqL K H a xs/\Reps K (vw H hid) xs ds:=by
 rcases h with h|⟨a,xs,ds,h1,h2,h3,h4⟩
 ·cases h with
  |lst q r=>exact⟨_,_,rfl,SqL.of (dU _ _ _ _ q),r⟩
 ·cases h2
  exact⟨a,xs,h1,SqL.of h3,h4⟩
theorem Rep1.scr {ds:List D}(h:Rep1 K H (vw H hid) v (.scr ds)): ∃a xs,v=.ref a/\SqL K H a xs/\Reps K (vw H hid) xs ds:=by
 rcases h with h|⟨a,xs,ds,h1,h2,h3,h4⟩
 ·cases h with
  |scr q r=>exact⟨_,_,rfl,(dU _ _).seq q.seq,r⟩
 ·cases h2
end
theorem PE.imp {X:Cx}{e:Expr}{t t':TE}(h:PE X e t)(i: ∀σ H Q,t' σ H Q->t σ H Q):PE X e t':=λab s σ H Q I q=>h ab s σ H Q I (i σ H Q q)
theorem PT.imp {X:Cx}{e:Expr}{t t':TT}(h:PT X e t)(i: ∀σ H Q,t' σ H Q->t σ H Q):PT X e t':=λab s σ H Q I q=>h ab s σ H Q I (i σ H Q q)
theorem PW.imp {X:Cx}{e:Expr}{t t':TT}(h:PW X e t)(i: ∀σ H Q,t' σ H Q->t σ H Q):PW X e t':=λwh ab s σ H Q I q=>h wh ab s σ H Q I (i σ H Q q)
theorem PA.imp {X:Cx}{e:List Expr}{t t':TA}(h:PA X e t)(i: ∀σ H Q,t' σ H Q->t σ H Q):PA X e t':=λp ab s σ H Q I q=>h p ab s σ H Q I (i σ H Q q)
theorem PS.imp {X:Cx}{e:Stmt}{t t':TS}(h:PS X e t)(i: ∀D σ H,t' D σ H->t D σ H):PS X e t':=λab s σ H D I q=>h ab s σ H D I (i D σ H q)
theorem PSs.imp {X:Cx}{e:List Stmt}{t t':TS}(h:PSs X e t)(i: ∀D σ H,t' D σ H->t D σ H):PSs X e t':=λab s σ H D I q=>h ab s σ H D I (i D σ H q)
abbrev FE:=aC->Option D
abbrev FT:=aC->Option Bool
abbrev FA:=aC->Option (List D)
def xA(K:W.Frag)(c:Ct)(hid:bj)(k:Kd)(f:FE)(ρ:aC):TE:=λσ H Q=>SR K c hid ρ σ H/\ ∃d,f ρ=some d/\ ∀v H',Same H H'->RK K k H H' hid v d->Q v H'
def DF(K:W.Frag)(c:Ct)(hid:bj)(f:FT)(ρ:aC):TT:=λσ H Q=>SR K c hid ρ σ H/\ ∃d,f ρ=some d/\ ∀H',Same H H'->Q d H'
def Ez(K:W.Frag)(c:Ct)(hid:bj)(f:FA)(ρ:aC):TA:=λσ H Q=>SR K c hid ρ σ H/\ ∃d,f ρ=some d/\ ∀vs H',Same H H'->Reps K (vw H' hid) vs d->Q vs H'
def DP(X:Cx)(c:Ct)(k:Kd)(e:Expr)(f:FE):Prop:= ∀hid ρ,PE X e (xA X.K c hid k f ρ)
def DT(X:Cx)(c:Ct)(e:Expr)(f:FT):Prop:= ∀hid ρ,PT X e (DF X.K c hid f ρ)
def DW(X:Cx)(c:Ct)(e:Expr)(f:FT):Prop:= ∀hid ρ,PW X e (DF X.K c hid f ρ)
def DA(X:Cx)(c:Ct)(es:List Expr)(f:FA):Prop:= ∀hid ρ,PA X es (Ez X.K c hid f ρ)
section
variable {X:Cx}{c:Ct}{e a b:Expr}{es:List Expr}{f g:FE}{k:Kd}{pos:Pos}
theorem DP.toS(h:DP X c .n e f):DP X c .s e f:=λhid ρ=>PE.imp (h hid ρ) λσ H Q ⟨sr,d,hd,q⟩=>⟨sr,d,hd,λv H' s r=>q v H' s (RN.rep r λa n=>sr.fresh n)⟩
def ah(i:Nat):FE:=λρ=>match ρ[i]? with
 |some (.v d)=>some d
 |_=>none
def dA(i:Nat):FE:=λρ=>match ρ[i]? with
 |some (.v d)=>some d
 |some (.own ds)=>some (.lst ds)
 |some (.arg ds)=>some (.lst ds)
 |_=>none
theorem ae(i:Nat){x:Str}(hN:X.N[i]? =some x:=by rfl)(hv:kR X.env.scope x:=by first|exact Or.inl rfl|exact Or.inr (Or.inl rfl)|exact Or.inr (Or.inr rfl))(hd:(x==("__debug__":Str))=false:=by decide)
 (hcd:(x==("__classdict__":Str))=false:=by decide):DP X c .s (.Name x pos) (ah i):=λhid ρ=>PE.imp (pv i hN hv hd hcd) λσ H Q hq_=>by
 obtain⟨sr,d,hd,q⟩:=hq_
 unfold ah at hd;split at hd
 ·rename_i d' e'
  cases hd
  obtain⟨x,h1,h2⟩:=sr.sl i _ e'
  exact⟨x,h1,q x H (Same.refl _) h2⟩
 ·cases hd
theorem dP(i:Nat){x:Str}(hN:X.N[i]? =some x:=by rfl)(hv:kR X.env.scope x:=by first|exact Or.inl rfl|exact Or.inr (Or.inl rfl)|exact Or.inr (Or.inr rfl))(hd:(x==("__debug__":Str))=false:=by decide)
 (hcd:(x==("__classdict__":Str))=false:=by decide):DP X c .b (.Name x pos) (dA i):=λhid ρ=>PE.imp (pv i hN hv hd hcd) λσ H Q hq_=>by
 obtain⟨sr,d,hd,q⟩:=hq_
 unfold dA at hd;split at hd
 ·rename_i d' e'
  cases hd
  obtain⟨x,h1,h2⟩:=sr.sl i _ e'
  exact⟨x,h1,q x H (Same.refl _) (.inl h2)⟩
 ·rename_i d' e'
  cases hd
  obtain⟨a,xs,h1,h2,h3,h4,h5⟩:=sr.sl i _ e'
  exact⟨_,h1,q _ H (Same.refl _) (.inr ⟨a,xs,_,rfl,rfl,h2,h5⟩)⟩
 ·rename_i d' e'
  cases hd
  obtain⟨a,xs,h1,h2,h3,h4,h5⟩:=sr.sl i _ e'
  exact⟨_,h1,q _ H (Same.refl _) (.inr ⟨a,xs,_,rfl,rfl,h2,h5⟩)⟩
 ·cases hd
def aw(d:D):FE:=λ_=>some d
theorem ao {i:Int}{j pos}:DP X c .s (.Constant (.int i) j pos) (aw (.int i)):=λhid ρ=>PE.imp xc λσ H Q hq_=>by
 obtain⟨sr,d,hd,q⟩:=hq_
 cases hd;exact q _ H (Same.refl _) .int
theorem h8 {i:Bool}{j pos}:DP X c .s (.Constant (.bool i) j pos) (aw (.bl i)):=λhid ρ=>PE.imp ze λσ H Q hq_=>by
 obtain⟨sr,d,hd,q⟩:=hq_
 cases hd;exact q _ H (Same.refl _) .bl
def ak(F:D->D->Option D)(f g:FE):FE:=λρ=>(f ρ).bind λx=>(g ρ).bind λy=>F x y
theorem qm {F:D->D->Option D}{ρ:aC}{d:D}(h:ak F f g ρ=some d): ∃x y,f ρ=some x/\g ρ=some y/\F x y=some d:=by
 unfold ak at h;cases e1:f ρ with
 |none=>rw[e1] at h;cases h
 |some x=>
  cases e2:g ρ with
  |none=>rw[e1,e2] at h;cases h
  |some y=>rw[e1,e2] at h;exact⟨x,y,rfl,rfl,h⟩
def lT(K:W.Frag)(k:Kd)(r:R2)(F:D->D->Option D):Prop:= ∀(H:Hp) (hid:bj) (v u:V) (x y d:D) (Q:VK),(∀a,H a=none->hid a=false)->F x y=some d->Rep1 K H (vw H hid) v x->Rep1 K H (vw H hid) u y->
 (∀w H',Same H H'->RK K k H H' hid w d->Q w H')->r v u H Q
theorem RK.left {K:W.Frag}{H H1 H':Hp}{hid:bj}{v:V}{d:D}(s:Same H H1)(h:RK K k H1 H' hid v d):RK K k H H' hid v d:=by
 cases k with
 |b=>exact h
 |s=>exact h
 |n=>
  obtain⟨a,xs,ds,h1,h2,h3,h4⟩:=h
  exact⟨a,xs,ds,h1,h2,s.free h3,h4⟩
theorem CW {r:R2}{F:D->D->Option D}{k1 k2:Kd}{hid:bj}{ρ:aC}(hF:lT X.K k r F){σ:St}{H:Hp}{Q:VK}(h:xA X.K c hid k (ak F f g) ρ σ H Q):Br r (xA X.K c hid k1 f ρ) (xA X.K c hid k2 g ρ) σ H Q:=by
 obtain⟨sr,d,hd,q⟩:=h
 obtain⟨x,y,e1,e2,e3⟩:=qm hd
 refine⟨sr,x,e1,λv H1 s1 r1=>⟨sr.ext s1,y,e2,λu H2 s2 r2=>?_⟩⟩
 have b1:=(RK.b k1 r1 λa n=>sr.fresh n).ext s2
 have b2:=RK.b k2 r2 λa n=>(sr.ext s1).fresh n
 exact hF H2 hid v u x y d Q (λa n=>((sr.ext s1).ext s2).fresh n) e3 b1 b2 λw H' s3 r3=>q w H' ((s1.trans s2).trans s3) (RK.left (s1.trans s2) r3)
theorem mw {op:Operator}{r:R2}{F:D->D->Option D}{k1 k2:Kd}(ho:jS X (binaryOp op) r)(hF:lT X.K k r F)(ha:DP X c k1 a f)(hb:DP X c k2 b g):DP X c k (.BinOp a op b pos) (ak F f g):=λhid ρ=>
 PE.imp (y8 ho (ha hid ρ) (hb hid ρ)) λσ H Q h=>CW hF h
theorem fV {op:CmpOp}{r:R2}{F:D->D->Option D}{k1 k2:Kd}(ho:jS X (compareOp op) r)(hF:lT X.K .s r F)(ha:DP X c k1 a f)(hb:DP X c k2 b g)(hm:behindInMarks op b=false):DP X c .s (.Compare a [op] [b] pos) (ak F f g):=λhid ρ=>
 PE.imp (yr ho (ha hid ρ) (hb hid ρ) hm) λσ H Q h=>CW hF h
def qX:Option D->Option Bool
 |some (.bl b)=>some b
 |_=>none
theorem cq {op:CmpOp}{r:R2}{F:D->D->Option D}{k1 k2:Kd}(ho:jS X (compareOp op) r)(hF:lT X.K .s r F)(ha:DP X c k1 a f)(hb:DP X c k2 b g)(hm:behindInMarks op b=false):DT X c (.Compare a [op] [b] pos) (λρ=>qX (ak F f g ρ)):=λhid ρ=>
 PT.imp (yJ ho (ha hid ρ) (hb hid ρ) hm) λσ H Q hq_=>by
  obtain⟨sr,d,hd,q⟩:=hq_
  refine CW (X:=X) (k:=.s) (F:=F) hF ?_
  dsimp only at hd;cases e:ak F f g ρ with
  |none=>rw[e] at hd;cases hd
  |some x=>
   rw[e] at hd;cases x with
   |bl z=>
    cases hd
    refine⟨sr,_,e,λv H' s r=>⟨d,?_,q H' s⟩⟩
    cases r;rfl
   |_=>cases hd
theorem aF {r:R2}{F:D->D->Option D}{k1 k2:Kd}(hr:IxR X r)(hF:lT X.K k r F)(ha:DP X c k1 a f)(hb:DP X c k2 b g)(hs:sW b):DP X c k (.Subscript a b pos) (ak F f g):=λhid ρ=>
 PE.imp (CK hr (ha hid ρ) (hb hid ρ) hs) λσ H Q h=>CW hF h
end
def i2(C:Int->Int->Bool)(G:Int->Int->D):D->D->Option D
 | .int i,.int j=>if C i j=true then some (G i j) else none
 |_,_=>none
section
variable {K:W.Frag}
theorem oT {C:Int->Int->Bool}{G:Int->Int->D}{x y d:D}(h:i2 C G x y=some d): ∃i j,x=.int i/\y=.int j/\C i j=true/\d=G i j:=by
 unfold i2 at h;split at h
 ·split at h
  ·cases h;exact⟨_,_,rfl,rfl, ‹_›,rfl⟩
  ·cases h
 ·cases h
theorem yx {C:Int->Int->Prop}{B:Int->Int->Bool}{g:Int->Int->Int}(hC: ∀i j,B i j=true->C i j):lT K .s (rI C λi j=>.int (g i j)) (i2 B λi j=>.int (g i j)):=by
 intro H hid v u x y d Q hf h r1 r2 q;obtain⟨i,j,rfl,rfl,hc,rfl⟩:=oT h
 cases r1.int;cases r2.int
 exact⟨i,j,rfl,rfl,hC i j hc,q _ H (Same.refl _) .int⟩
theorem xg {g:Int->Int->Int}:lT K .s (x9 λi j=>.int (g i j)) (i2 (λ_ _=>true) λi j=>.int (g i j)):=by
 intro H hid v u x y d Q hf h r1 r2 q;obtain⟨i,j,rfl,rfl,hc,rfl⟩:=oT h
 cases r1.int;cases r2.int
 exact⟨i,j,rfl,rfl,q _ H (Same.refl _) .int⟩
theorem g9 {g:Int->Int->Bool}:lT K .s (x9 λi j=>.bl (g i j)) (i2 (λ_ _=>true) λi j=>.bl (g i j)):=by
 intro H hid v u x y d Q hf h r1 r2 q;obtain⟨i,j,rfl,rfl,hc,rfl⟩:=oT h
 cases r1.int;cases r2.int
 exact⟨i,j,rfl,rfl,q _ H (Same.refl _) .bl⟩
end
section
variable {X:Cx}{c:Ct}{e a b:Expr}{es rest:List Expr}{f g:FE}{p q:FT}{k:Kd}{pos:Pos}
def BV:D->Option Bool
 | .non=>some false
 | .bl b=>some b
 | .int i=>some (i !=0)
 | .str y=>if y.length<=sizeLine then some ((y.length:Int) !=0) else none
 | .lst ds=>some (!ds.isEmpty)
 | .tup ds=>some (!ds.isEmpty)
 | .scr ds=>some (!ds.isEmpty)
theorem Reps.isEmpty {K:W.Frag}{F:Hp}{xs:List V}{ds:List D}(r:Reps K F xs ds):xs.isEmpty=ds.isEmpty:=by cases r<;>rfl
theorem Ac {K:W.Frag}{H:Hp}{hid:bj}{v:V}{d:D}{b:Bool}(h:BV d=some b)(r:Rep1 K H (vw H hid) v d):Av K v H b:=by
 cases d with
 |non=>cases r.non;cases h;rfl
 |bl x=>cases r.bl;cases h;rfl
 |int i=>cases r.int;cases h;rfl
 |str y=>
  cases r.str
  have h':(if y.length<=sizeLine then some ((y.length:Int) !=0) else none)=some b:=h
  split at h'
  ·cases h';exact⟨‹_›,rfl⟩
  ·cases h'
 |lst ds=>
  obtain⟨a,xs,rfl,h1,h2⟩:=r.lst
  cases h
  exact .inl ⟨xs,h1,by rw[h2.isEmpty]⟩
 |tup ds=>
  obtain⟨a,xs,rfl,_,h1,h2⟩:=r.tup
  cases h
  exact .inr (.inl ⟨xs,h1,by rw[h2.isEmpty]⟩)
 |scr ds=>
  obtain⟨a,xs,rfl,h1,h2⟩:=r.scr
  cases h
  exact .inl ⟨xs,h1,by rw[h2.isEmpty]⟩
def dZ(f:FE):FT:=λρ=>(f ρ).bind BV
theorem fF(ha:DP X c k a f)(he: ∀whole,isTrue a X.env whole=(do let v <-whole;standAt a.pos;holding [v] (truthy v)):=by intro _;rfl):DT X c a (dZ f):=λhid ρ=>
 PT.imp (xa (ha hid ρ) he) λσ H Q hq_=>by
  obtain⟨sr,d,hd,q⟩:=hq_
  unfold dZ at hd;cases e:f ρ with
  |none=>rw[e] at hd;cases hd
  |some x=>
   rw[e] at hd;exact⟨sr,x,e,λv H' s r=>⟨d,Ac hd (RK.b k r λa n=>sr.fresh n),q H' s⟩⟩
def rJ(p q:FT):FT:=λρ=>(p ρ).bind λb=>if b=true then q ρ else some false
def xE(p q:FT):FT:=λρ=>(p ρ).bind λb=>if b=true then some true else q ρ
def fy(p:FT):FT:=λρ=>(p ρ).map (!·)
theorem xN(ha:DT X c a p):DW X c (.BoolOp .And [a] pos) p:=λhid ρ=>pw_and1 (ha hid ρ)
theorem vV(ha:DT X c a p):DW X c (.BoolOp .Or [a] pos) p:=λhid ρ=>pw_or1 (ha hid ρ)
theorem A6(ha:DT X c a p)(hb:DW X c (.BoolOp .And (b::rest) pos) q):DW X c (.BoolOp .And (a::b::rest) pos) (rJ p q):=λhid ρ=>
 PW.imp (pw_and (ha hid ρ) (hb hid ρ)) λσ H Q hq_=>by
  obtain⟨sr,d,hd,hq⟩:=hq_
  unfold rJ at hd;cases e:p ρ with
  |none=>rw[e] at hd;cases hd
  |some x=>
   rw[e] at hd;refine⟨sr,x,e,λH1 s1=>?_⟩
   cases x with
   |true=>exact ux ⟨sr.ext s1,d,hd,λH2 s2=>hq H2 (s1.trans s2)⟩
   |false=>cases hd;exact uN (hq H1 s1)
theorem v6(ha:DT X c a p)(hb:DW X c (.BoolOp .Or (b::rest) pos) q):DW X c (.BoolOp .Or (a::b::rest) pos) (xE p q):=λhid ρ=>
 PW.imp (pw_or (ha hid ρ) (hb hid ρ)) λσ H Q hq_=>by
  obtain⟨sr,d,hd,hq⟩:=hq_
  unfold xE at hd;cases e:p ρ with
  |none=>rw[e] at hd;cases hd
  |some x=>
   rw[e] at hd;refine⟨sr,x,e,λH1 s1=>?_⟩
   cases x with
   |false=>exact uN ⟨sr.ext s1,d,hd,λH2 s2=>hq H2 (s1.trans s2)⟩
   |true=>cases hd;exact ux (hq H1 s1)
theorem DW.dt(h:DW X c e p):DT X c e p:=λhid ρ=>(h hid ρ).pt
theorem gz(ha:DT X c a p):DT X c (.UnaryOp .Not a pos) (fy p):=λhid ρ=>
 PT.imp (Ak (ha hid ρ)) λσ H Q hq_=>by
  obtain⟨sr,d,hd,hq⟩:=hq_
  unfold fy at hd;cases e:p ρ with
  |none=>rw[e] at hd;cases hd
  |some x=>rw[e] at hd;cases hd;exact⟨sr,x,e,λH1 s1=>hq H1 s1⟩
def df(f:FE):FT:=λρ=>qX (f ρ)
def zJ(p:FT)(f g:FE):FE:=λρ=>(p ρ).bind λb=>if b=true then f ρ else g ρ
theorem BK {t:Expr}(hk:k≠ .n)(ht:DT X c t p)(ha:DP X c k a f)(hb:DP X c k b g):DP X c k (.IfExp t a b pos) (zJ p f g):=λhid ρ=>
 PE.imp (xp (ht hid ρ) (ha hid ρ) (hb hid ρ)) λσ H Q hq_=>by
  obtain⟨sr,d,hd,hq⟩:=hq_
  unfold zJ at hd;cases e:p ρ with
  |none=>rw[e] at hd;cases hd
  |some x=>
   rw[e] at hd;refine⟨sr,x,e,λH1 s1=>?_⟩
   have lf: ∀ {v H2},RK X.K k H1 H2 hid v d->RK X.K k H H2 hid v d:=λ{v H2} r=>RK.left s1 r
   cases x with
   |true=>exact ux ⟨sr.ext s1,d,hd,λv H2 s2 r=>hq v H2 (s1.trans s2) (lf r)⟩
   |false=>exact uN ⟨sr.ext s1,d,hd,λv H2 s2 r=>hq v H2 (s1.trans s2) (lf r)⟩
variable {r r':R2}{h:FE}{e3:Expr}
def AC(F G:D->D->Option D)(f g h:FE):FE:=λρ=>(f ρ).bind λx=>(g ρ).bind λy=>(qX (F x y)).bind λk=>if k=true then(h ρ).bind λz=>G y z else some (.bl false)
theorem AW {F G:D->D->Option D}{k1 k2 k3:Kd}{hid:bj}{ρ:aC}(hF:lT X.K .s r F)(hG:lT X.K .s r' G){σ:St}{H:Hp}{Q:VK}(hh:xA X.K c hid .s (AC F G f g h) ρ σ H Q):
 wf r r' (xA X.K c hid k1 f ρ) (xA X.K c hid k2 g ρ) (xA X.K c hid k3 h ρ) σ H Q:=by
 obtain⟨sr,d,hd,q⟩:=hh
 unfold AC at hd;cases e1:f ρ with
 |none=>rw[e1] at hd;cases hd
 |some x=>
  cases e2:g ρ with
  |none=>rw[e1,e2] at hd;cases hd
  |some y=>
   rw[e1,e2] at hd;have hd':(qX (F x y)).bind (λk=>if k=true then(h ρ).bind λz=>G y z else some (.bl false))=some d:=hd
   cases e3:F x y with
   |none=>rw[e3] at hd';cases hd'
   |some z=>
    cases z with
    |bl kk=>
     rw[e3] at hd';refine⟨sr,x,e1,λv H1 s1 r1=>⟨sr.ext s1,y,e2,λu H2 s2 r2=>?_⟩⟩
     have b1:=(RK.b k1 r1 λa n=>sr.fresh n).ext s2
     have b2:=RK.b k2 r2 λa n=>(sr.ext s1).fresh n
     have fr: ∀a,H2 a=none->hid a=false:=λa n=>((sr.ext s1).ext s2).fresh n
     refine hF H2 hid v u x y _ _ fr e3 b1 b2 λw H3 s3 r3=>?_
     cases r3
     refine⟨kk,rfl,?_⟩
     cases kk with
     |false=>cases hd';exact uN (q _ H3 ((s1.trans s2).trans s3) .bl)
     |true=>
      refine ux ?_
      cases e4:h ρ with
      |none=>rw[e4] at hd';cases hd'
      |some z=>
       rw[e4] at hd';have hd2:G y z=some d:=hd'
       refine⟨((sr.ext s1).ext s2).ext s3,z,e4,λw' H4 s4 r4=>?_⟩
       have b3:=RK.b k3 r4 λa n=>(((sr.ext s1).ext s2).ext s3).fresh n
       exact hG H4 hid u w' y z d Q (λa n=>((((sr.ext s1).ext s2).ext s3).ext s4).fresh n) hd2 ((b2.ext s3).ext s4) b3 λw2 H5 s5 r5=>q w2 H5 ((((s1.trans s2).trans s3).trans s4).trans s5) r5
    |_=>rw[e3] at hd';cases hd'
theorem Cp {op op':CmpOp}{F G:D->D->Option D}{k1 k2 k3:Kd}(ho:jS X (compareOp op) r)(ho':jS X (compareOp op') r')(hF:lT X.K .s r F)(hG:lT X.K .s r' G)(ha:DP X c k1 a f)(hb:DP X c k2 b g)(hc:DP X c k3 e3 h)
 (hm:lastMarks [op,op'] [b,e3]=false:=by with_unfolding_all rfl):DP X c .s (.Compare a [op,op'] [b,e3] pos) (AC F G f g h):=λhid ρ=>
 PE.imp (vN ho ho' (ha hid ρ) (hb hid ρ) (hc hid ρ) hm) λσ H Q hh=>AW hF hG hh
end
section
variable {X:Cx}{c:Ct}{e a b:Expr}{es rest:List Expr}{f g:FE}{fs:FA}{k:Kd}{pos:Pos}
def af:FA:=λ_=>some []
def aa(f:FE)(fs:FA):FA:=λρ=>(f ρ).bind λd=>(fs ρ).map λr=>d::r
theorem mL {ρ:aC}{ds:List D}(h:aa f fs ρ=some ds): ∃d r,f ρ=some d/\fs ρ=some r/\ds=d::r:=by
 unfold aa at h;cases e1:f ρ with
 |none=>rw[e1] at h;cases h
 |some d=>
  cases e2:fs ρ with
  |none=>rw[e1,e2] at h;cases h
  |some r=>rw[e1,e2] at h;cases h;exact⟨d,r,rfl,rfl,rfl⟩
theorem ar:DA X c [] af:=λhid ρ=>PA.imp ee λσ H Q ⟨sr,d,hd,q⟩=>by cases hd;exact q [] H (Same.refl _) .nil
theorem ag(ha:DP X c .s e f)(hr:DA X c es fs)(hs:starEach (e::es) X.env=(false,eval e X.env)::starEach es X.env:=by rfl):DA X c (e::es) (aa f fs):=λhid ρ=>
 PA.imp (bw (ha hid ρ) (hr hid ρ) hs) λσ H Q hq_=>by
  obtain⟨sr,d,hd,q⟩:=hq_
  obtain⟨d1,r,e1,e2,rfl⟩:=mL hd
  exact⟨sr,d1,e1,λv H1 s1 r1=>⟨sr.ext s1,r,e2,λvs H2 s2 r2=>q _ H2 (s1.trans s2) (.cons (Rep.mono (aK s2) r1) r2)⟩⟩
def cf(fs:FA):FE:=λρ=>(fs ρ).bind λds=>if ds.length<=sizeLine then some (.tup ds) else none
def bY(fs:FA):FE:=λρ=>(fs ρ).bind λds=>if ds.length<=sizeLine then some (.lst ds) else none
theorem um {ρ:aC}{d:D}(h:cf fs ρ=some d): ∃ds,fs ρ=some ds/\ds.length<=sizeLine/\d=.tup ds:=by
 unfold cf at h;cases e1:fs ρ with
 |none=>rw[e1] at h;cases h
 |some ds=>
  rw[e1] at h;have h':(if ds.length<=sizeLine then some (D.tup ds) else none)=some d:=h
  split at h'
  ·cases h';exact⟨ds,rfl, ‹_›,rfl⟩
  ·cases h'
theorem uj {ρ:aC}{d:D}(h:bY fs ρ=some d): ∃ds,fs ρ=some ds/\ds.length<=sizeLine/\d=.lst ds:=by
 unfold bY at h;cases e1:fs ρ with
 |none=>rw[e1] at h;cases h
 |some ds=>
  rw[e1] at h;have h':(if ds.length<=sizeLine then some (D.lst ds) else none)=some d:=h
  split at h'
  ·cases h';exact⟨ds,rfl, ‹_›,rfl⟩
  ·cases h'
theorem aY {H:Hp}{p:Addr}(h:H p=none)(o:HO):Same H (bq H p o):=λb u q=>by rw[aB (aO q h)];exact q
theorem mN {K:W.Frag}{H:Hp}{hid:bj}{p:Addr}{xs:List V}{ds:List D}(hn:H p=none)(hf:hid p=false)(r:Reps K (vw H hid) xs ds):Rep K (vw (bq H p (.tup xs)) hid) (.ref p) (.tup ds):=
 .tup (SqT.of (vw_some.mpr ⟨hf,aI⟩)) (r.mono (aK (aY hn _)))
theorem ma {K:W.Frag}{H H0:Hp}{hid:bj}{p:Addr}{xs:List V}{ds:List D}(hn:H p=none)(s:Same H0 H)(r:Reps K (vw H hid) xs ds):RN K H0 (bq H p (.lst xs)) hid (.ref p) (.lst ds):=
 ⟨p,xs,ds,rfl,rfl,s.free hn,aI,by rw[sa hn];exact r⟩
theorem eI {x1}(h:DA X c es fs):DP X c .s (.Tuple es x1 pos) (cf fs):=λhid ρ=>PE.imp (oS (h hid ρ)) λσ H Q hq_=>by
 obtain⟨sr,d,hd,q⟩:=hq_
 obtain⟨ds,e1,hz,rfl⟩:=um hd
 exact⟨sr,ds,e1,λvs H1 s1 r1=>⟨by rw[r1.length];exact hz,λp hp=>q _ _ (s1.trans (aY hp _)) (mN hp ((sr.ext s1).fresh hp) r1)⟩⟩
theorem cH(h:DA X c es fs):DP X c .n (.List es pos) (bY fs):=λhid ρ=>PE.imp (wZ (h hid ρ)) λσ H Q hq_=>by
 obtain⟨sr,d,hd,q⟩:=hq_
 obtain⟨ds,e1,hz,rfl⟩:=uj hd
 exact⟨sr,ds,e1,λvs H1 s1 r1=>⟨by rw[r1.length];exact hz,λp hp=>q _ _ (s1.trans (aY hp _)) (ma hp s1 r1)⟩⟩
abbrev Reps1(K:W.Frag)(H W:Hp):List V->List D->Prop:=Paired (Rep1 K H W)
def El(K:W.Frag)(c:Ct)(hid:bj)(f:FA)(ρ:aC):TA:=λσ H Q=>SR K c hid ρ σ H/\ ∃d,f ρ=some d/\ ∀vs H',Same H H'->Reps1 K H' (vw H' hid) vs d->Q vs H'
def DB(X:Cx)(c:Ct)(es:List Expr)(f:FA):Prop:= ∀hid ρ,PA X es (El X.K c hid f ρ)
theorem aU:DB X c [] af:=λhid ρ=>PA.imp ee λσ H Q ⟨sr,d,hd,q⟩=>by cases hd;exact q [] H (Same.refl _) .nil
theorem aD(ha:DP X c k e f)(hr:DB X c es fs)(hs:starEach (e::es) X.env=(false,eval e X.env)::starEach es X.env:=by rfl):DB X c (e::es) (aa f fs):=λhid ρ=>
 PA.imp (bw (ha hid ρ) (hr hid ρ) hs) λσ H Q hq_=>by
  obtain⟨sr,d,hd,q⟩:=hq_
  obtain⟨d1,r,e1,e2,rfl⟩:=mL hd
  exact⟨sr,d1,e1,λv H1 s1 r1=>⟨sr.ext s1,r,e2,λvs H2 s2 r2=>q _ H2 (s1.trans s2) (.cons ((RK.b k r1 λa n=>sr.fresh n).ext s2) r2)⟩⟩
def hV(K:W.Frag)(k:Kd)(r:List V->Hp->VK->Prop)(F:List D->Option D):Prop:= ∀(H:Hp) (hid:bj) (vs:List V) (ds:List D) (d:D) (Q:VK),(∀a,H a=none->hid a=false)->F ds=some d->Reps1 K H (vw H hid) vs ds->
 (∀w H',Same H H'->RK K k H H' hid w d->Q w H')->r vs H Q
def ai(F:List D->Option D)(fs:FA):FE:=λρ=>(fs ρ).bind F
theorem lS {F:List D->Option D}{ρ:aC}{d:D}(h:ai F fs ρ=some d): ∃ds,fs ρ=some ds/\F ds=some d:=by
 unfold ai at h;cases e1:fs ρ with
 |none=>rw[e1] at h;cases h
 |some ds=>rw[e1] at h;exact⟨ds,rfl,h⟩
theorem B5 {r:List V->Hp->VK->Prop}{F:List D->Option D}{hid:bj}{ρ:aC}(hF:hV X.K k r F){σ:St}{H:Hp}{Q:VK}(h:xA X.K c hid k (ai F fs) ρ σ H Q):DC r (El X.K c hid fs ρ) σ H Q:=by
 obtain⟨sr,d,hd,q⟩:=h
 obtain⟨ds,e1,e2⟩:=lS hd
 exact⟨sr,ds,e1,λvs H1 s1 r1=>hF H1 hid vs ds d Q (λa n=>(sr.ext s1).fresh n) e2 r1 λw H' s2 r2=>q w H' (s1.trans s2) (RK.left s1 r2)⟩
variable {x:Str}{p:Pos}{id T:String}{r:List V->Hp->VK->Prop}{F:List D->Option D}
theorem aP(hc:fm X (.builtin id) r)(hF:hV X.K k r F)(hm:X.mg x=none)(ha:DB X c (e::es) fs)(hg:Gl X x:=by rfl)(hv:bootBuiltins x=some (.builtin id):=by first|exact PySem.boot_len|rfl|kernel_rfl)(hn:x≠"__name__":=by decide)(hdb:(x==("__debug__":Str))=false:=by decide)
 (he:starEach (e::es) X.env=(false,eval e X.env)::starEach es X.env:=by rfl) (hpl:(backTo pos (starEach es X.env)).any (·.1)=false:=by rfl):DP X c k (.Call (.Name x p) (e::es) [] pos) (ai F fs):=λhid ρ=>
 PE.imp (mK hc hg hm hv (ha hid ρ) hn hdb he hpl) λσ H Q h=>B5 hF h
theorem cY(hc:fm X (.type T) r)(hF:hV X.K k r F)(hm:X.mg x=none)(ha:DB X c (e::es) fs)(hg:Gl X x:=by rfl)(hv:bootBuiltins x=some (.type T):=by first|rfl|kernel_rfl)(hn:x≠"__name__":=by decide)(hdb:(x==("__debug__":Str))=false:=by decide)
 (he:starEach (e::es) X.env=(false,eval e X.env)::starEach es X.env:=by rfl) (hpl:(backTo pos (starEach es X.env)).any (·.1)=false:=by rfl):DP X c k (.Call (.Name x p) (e::es) [] pos) (ai F fs):=λhid ρ=>
 PE.imp (j7 hc hg hm hv (ha hid ρ) hn hdb he hpl) λσ H Q h=>B5 hF h
end
section
variable {K:W.Frag}
theorem Reps1.one {H W:Hp}{v:List V}{d:D}(r:Reps1 K H W v [d]): ∃x,v=[x]/\Rep1 K H W x d:=by
 cases r with
 |cons r t=>cases t;exact⟨_,rfl,r⟩
theorem Reps1.two {H W:Hp}{v:List V}{d d':D}(r:Reps1 K H W v [d,d']): ∃x y,v=[x,y]/\Rep1 K H W x d/\Rep1 K H W y d':=by
 cases r with
 |cons r t=>cases t with
  |cons r' t=>cases t;exact⟨_,_,rfl,r,r'⟩
def bN:List D->Option D
 | [.lst ds]=>some (.int ds.length)
 | [.tup ds]=>some (.int ds.length)
 | [.scr ds]=>some (.int ds.length)
 |_=>none
theorem eW:hV K .s (λxs H Q=> ∃p ys,xs=[.ref p]/\(SqL K H p ys\/SqT K H p ys)/\Q (.int ys.length) H) bN:=by
 intro H hid vs ds d Q hf h r q;unfold bN at h;split at h
 ·cases h
  obtain⟨x,rfl,r1⟩:=Reps1.one r
  obtain⟨a,xs,rfl,h1,h2⟩:=r1.lst
  exact⟨a,xs,rfl,.inl h1,by rw[h2.length];exact q _ H (Same.refl _) .int⟩
 ·cases h
  obtain⟨x,rfl,r1⟩:=Reps1.one r
  obtain⟨a,xs,rfl,_,h1,h2⟩:=r1.tup
  exact⟨a,xs,rfl,.inr h1,by rw[h2.length];exact q _ H (Same.refl _) .int⟩
 ·cases h
  obtain⟨x,rfl,r1⟩:=Reps1.one r
  obtain⟨a,xs,rfl,h1,h2⟩:=r1.scr
  exact⟨a,xs,rfl,.inl h1,by rw[h2.length];exact q _ H (Same.refl _) .int⟩
 ·cases h
def qr:List D->Option D
 | [.int i]=>some (.int (if i<0 then -i else i))
 |_=>none
theorem AF:hV K .s (λxs H Q=> ∃i,xs=[.int i]/\Q (.int (if i<0 then -i else i)) H) qr:=by
 intro H hid vs ds d Q hf h r q;unfold qr at h;split at h
 ·cases h
  obtain⟨x,rfl,r1⟩:=Reps1.one r
  cases r1.int
  exact⟨_,rfl,q _ H (Same.refl _) .int⟩
 ·cases h
def g7:List D->Option D
 | [.int i,.int j]=>some (.int (if j>i then j else i))
 |_=>none
theorem lu:hV K .s (λxs H Q=> ∃i j,xs=[.int i,.int j]/\Q (.int (if j>i then j else i)) H) g7:=by
 intro H hid vs ds d Q hf h r q;unfold g7 at h;split at h
 ·cases h
  obtain⟨x,y,rfl,r1,r2⟩:=Reps1.two r
  cases r1.int;cases r2.int
  exact⟨_,_,rfl,q _ H (Same.refl _) .int⟩
 ·cases h
def fx:List D->Option D
 | [.int i,.int j]=>some (.int (if j<i then j else i))
 |_=>none
theorem jQ:hV K .s (λxs H Q=> ∃i j,xs=[.int i,.int j]/\Q (.int (if j<i then j else i)) H) fx:=by
 intro H hid vs ds d Q hf h r q;unfold fx at h;split at h
 ·cases h
  obtain⟨x,y,rfl,r1,r2⟩:=Reps1.two r
  cases r1.int;cases r2.int
  exact⟨_,_,rfl,q _ H (Same.refl _) .int⟩
 ·cases h
def ik:List D->Option D
 | [.lst ds]=>some (.tup ds)
 | [.tup ds]=>some (.tup ds)
 |_=>none
theorem qd:hV K .s (λxs H Q=> ∃p ys,xs=[.ref p]/\((SqL K H p ys/\ ∀l,H l=none->Q (.ref l) (bq H l (.tup ys)))\/(SqT K H p ys/\Q (.ref p) H))) ik:=by
 intro H hid vs ds d Q hf h r q;unfold ik at h;split at h
 ·cases h
  obtain⟨x,rfl,r1⟩:=Reps1.one r
  obtain⟨a,xs,rfl,h1,h2⟩:=r1.lst
  exact⟨a,xs,rfl,.inl ⟨h1,λl hl=>q _ _ (aY hl _) (mN hl (hf l hl) h2)⟩⟩
 ·cases h
  obtain⟨x,rfl,r1⟩:=Reps1.one r
  obtain⟨a,xs,rfl,h0,h1,h2⟩:=r1.tup
  exact⟨a,xs,rfl,.inr ⟨h1,q _ H (Same.refl _) (.tup h0 h2)⟩⟩
 ·cases h
def aG:D->D->Option D
 | .lst ds,.int i=>nQ ds i
 | .tup ds,.int i=>nQ ds i
 | .scr ds,.int i=>nQ ds i
 |_,_=>none
theorem oF {F:Hp}{xs:List V}{ds:List D}{i:Int}{d:D}(r:Reps K F xs ds)(h:nQ ds i=some d): ∃x,nQ xs i=some x/\Rep K F x d:=by
 unfold nQ at h⊢;rw[r.length];cases e:qO ds.length i with
 |none=>rw[e] at h;cases h
 |some j=>
  rw[e] at h;obtain⟨x,h1,h2⟩:=r.get (i:=j) h
  exact⟨x,h1,h2⟩
theorem aE:lT K .s (Eo K) aG:=by
 intro H hid v u x y d Q hf h r1 r2 q;unfold aG at h;split at h
 ·cases r2.int
  obtain⟨a,xs,rfl,h1,h2⟩:=r1.lst
  obtain⟨z,h3,h4⟩:=oF h2 h
  exact .inl ⟨a,xs,_,z,rfl,rfl,h1,h3,q _ H (Same.refl _) h4⟩
 ·cases r2.int
  obtain⟨a,xs,rfl,_,h1,h2⟩:=r1.tup
  obtain⟨z,h3,h4⟩:=oF h2 h
  exact .inr (.inl ⟨a,xs,_,z,rfl,rfl,h1,h3,q _ H (Same.refl _) h4⟩)
 ·cases r2.int
  obtain⟨a,xs,rfl,h1,h2⟩:=r1.scr
  obtain⟨z,h3,h4⟩:=oF h2 h
  exact .inl ⟨a,xs,_,z,rfl,rfl,h1,h3,q _ H (Same.refl _) h4⟩
 ·cases h
end
abbrev GE:=aC->Option (D×aC)
abbrev GA:=aC->Option (List D×aC)
def Kept(hid:bj)(H H':Hp):Prop:= ∀b o,H b=some o->hid b=false->H' b=some o
theorem Kept.of {hid:bj}{H H':Hp}(s:Same H H'):Kept hid H H':=λb o q _=>s b o q
theorem Kept.trans {hid:bj}{H H1 H2:Hp}(a:Kept hid H H1)(b:Kept hid H1 H2):Kept hid H H2:=λc o q h=>b c o (a c o q h) h
theorem Kept.vw {hid:bj}{H H':Hp}(a:Kept hid H H'):Same (vw H hid) (vw H' hid):=sZ a
def PostE(K:W.Frag)(c:Ct)(hid:bj)(k:Kd)(ρ':aC)(σ:St)(H H':Hp)(v:V)(d:D):Prop:=Kept hid H H'/\match k with
 | .n=> ∃a xs ds,d=.lst ds/\v=.ref a/\H a=none/\H' a=some (.lst xs)/\c.H₀ a=none/\hid a=false/\SR K c (be hid a) ρ' σ H'/\Reps K (vw H' (be hid a)) xs ds/\ ∀i:Nat,Ow ρ'[i]? ->σ[i]? ≠some (some (.ref a))
 |_=>SR K c hid ρ' σ H'/\Rep K (vw H' hid) v d
def CZ(K:W.Frag)(c:Ct)(hid:bj)(k:Kd)(f:GE)(ρ:aC):TE:=λσ H Q=>SR K c hid ρ σ H/\ ∃d ρ',f ρ=some (d,ρ')/\ ∀v H',PostE K c hid k ρ' σ H H' v d->Q v H'
def DE(X:Cx)(c:Ct)(k:Kd)(e:Expr)(f:GE):Prop:= ∀hid ρ,PE X e (CZ X.K c hid k f ρ)
def pu(f:FE):GE:=λρ=>(f ρ).map λd=>(d,ρ)
theorem xX {f:FE}{ρ ρ':aC}{d:D}(h:pu f ρ=some (d,ρ')):f ρ=some d/\ρ'=ρ:=by
 unfold pu at h;cases e:f ρ with
 |none=>rw[e] at h;cases h
 |some x=>rw[e] at h;cases h;exact⟨rfl,rfl⟩
section
variable {K:W.Frag}{c:Ct}{hid hid':bj}{ρ:aC}{σ:St}{H H':Hp}{i:Nat}{a:Addr}
theorem cC {hid:bj}{a b:Addr}(h:hid b=true):be hid a b=true:=by unfold be;rw[h];rfl
theorem dW {hid:bj}{a:Addr}:be hid a a=true:=by unfold be;simp
theorem SR.hide(h:SR K c hid ρ σ H)(e:Same H H')(n:H a=none){o:HO}(ho:H' a=some o)(hn: ∀xs,o≠ .tup xs:=by intro _ e;cases e):SR K c (be hid a) ρ σ H':=by
 have sm:Same (vw H hid) (vw H' (be hid a)):=λb o q=>by
  obtain⟨q1,q2⟩:=vw_some.mp q
  refine vw_some.mpr ⟨?_,e _ _ q2⟩
  unfold be;rw[q1];have:b≠a:=aO q2 n
  simp[this]
 refine⟨λb hb=>?_,λb xs hb q=>by
  by_cases eb:b=a
  ·subst eb;rw[ho] at q;exact hn _ (Option.some.inj q)
  ·unfold be at hb
   exact(h.ext e).ht b xs (by simpa [eb] using hb) q,λb q=>cC (h.h0 b q),(h.ext e).kp,(h.ext e).t0,h.c0,h.m0,h.len,λi s q=>?_,h.ap⟩
 ·by_cases eb:b=a
  ·subst eb;exact⟨_,ho⟩
  ·unfold be at hb
   have:hid b=true:=by simpa [eb] using hb
   obtain⟨o',q⟩:=h.tr b this
   exact⟨o',e _ _ q⟩
 ·have z:=h.sl i s q
  cases s with
  |no=>trivial
  |v d=>obtain⟨x,h1,h2⟩:=z;exact⟨x,h1,h2.mono sm⟩
  |own ds=>obtain⟨a',xs,h1,h2,h3,h4,h5⟩:=z;exact⟨a',xs,h1,e _ _ h2,cC h3,h4,h5.mono sm⟩
  |arg ds=>obtain⟨a',xs,h1,h2,h3,h4,h5⟩:=z;exact⟨a',xs,h1,e _ _ h2,cC h3,h4,h5.mono sm⟩
  |ob b=>obtain⟨a',h1,h2⟩:=z;exact⟨a',h1,h2.mono (λ_ x _=>e x) sm λ_ _ _=>cC⟩
theorem SR.show (h:SR K c (be hid a) ρ σ H)(h0: ∀b,c.hid₀ b=true->hid b=true)(no: ∀i:Nat,Ow ρ[i]? ->σ[i]? ≠some (some (.ref a))){o:HO}(ha:H a=some o)(hn: ∀p u,o≠ .nst p u:=by intro _ _ e;cases e):SR K c hid ρ σ H:=by
 have sm:Same (vw H (be hid a)) (vw H hid):=cu λb q=>cC q
 have un: ∀b,b≠a->be hid a b=true->hid b=true:=λb nb hb=>by unfold be at hb;simpa [nb] using hb
 refine⟨λb hb=>h.tr b (cC hb),λb xs hb=>h.ht b xs (cC hb),h0,h.kp,h.t0,h.c0,h.m0,h.len,λi s q=>?_,h.ap⟩
 have z:=h.sl i s q
 cases s with
 |no=>trivial
 |v d=>obtain⟨x,h1,h2⟩:=z;exact⟨x,h1,h2.mono sm⟩
 |own ds=>
  obtain⟨a',xs,h1,h2,h3,h4,h5⟩:=z
  have:a'≠a:=λe=>by subst e;exact no i (by rw[q];trivial) h1
  exact⟨a',xs,h1,h2,un a' this h3,h4,h5.mono sm⟩
 |arg ds=>
  obtain⟨a',xs,h1,h2,h3,h4,h5⟩:=z
  have:a'≠a:=λe=>by subst e;exact no i (by rw[q];trivial) h1
  exact⟨a',xs,h1,h2,un a' this h3,h4,h5.mono sm⟩
 |ob b=>
  obtain⟨a',h1,h2⟩:=z
  exact⟨a',h1,h2.mono (λ_ _ _ _ q=>q) sm λow x hx=>un x (hx.ne (λe=>by subst e;exact no i (by rw[q];exact ow) h1) ha hn)⟩
theorem SR.notOw(h:SR K c hid ρ σ H)(n:hid a=false)(i:Nat)(o:Ow ρ[i]?):σ[i]? ≠some (some (.ref a)):=λe=>by
 cases q:ρ[i]? with
 |none=>rw[q] at o;exact o
 |some s=>
  rw[q] at o;have z:=h.sl i s q
  cases s with
  |no=>exact o
  |v d=>exact o
  |own ds=>obtain⟨a',xs,h1,h2,h3,_⟩:=z;rw[e] at h1;cases h1;rw[n] at h3;cases h3
  |arg ds=>obtain⟨a',xs,h1,h2,h3,_⟩:=z;rw[e] at h1;cases h1;rw[n] at h3;cases h3
  |ob b=>obtain⟨a',h1,h2⟩:=z;rw[e] at h1;cases h1;have:=h2.hid o;rw[n] at this;cases this
theorem SR.post {k:Kd}{v:V}{d:D}(h:SR K c hid ρ σ H)(e:Same H H')(r:RK K k H H' hid v d)(hk:k≠ .b):PostE K c hid k ρ σ H H' v d:=by
 cases k with
 |b=>exact absurd rfl hk
 |s=>exact⟨.of e,h.ext e,r⟩
 |n=>
  obtain⟨a,xs,ds,h1,h2,h3,h4,h5⟩:=r
  exact⟨.of e,a,xs,ds,h1,h2,h3,h4,h.fresh0 h3,h.fresh h3,h.hide e h3 h4,h5,h.notOw (h.fresh h3)⟩
theorem PostE.left {k:Kd}{ρ':aC}{H1:Hp}{v:V}{d:D}(s:Kept hid H H1)(p:PostE K c hid k ρ' σ H1 H' v d):PostE K c hid k ρ' σ H H' v d:=by
 cases k with
 |b=>exact⟨s.trans p.1,p.2⟩
 |s=>exact⟨s.trans p.1,p.2⟩
 |n=>
  obtain⟨kp,a,xs,ds,h1,h2,hn,h3,h4,h5,h6⟩:=p
  refine⟨s.trans kp,a,xs,ds,h1,h2,?_,h3,h4,h5,h6⟩
  cases e:H a with
  |none=>rfl
  |some o=>rw[s a o e h5] at hn;cases hn
theorem PostE.toS {ρ':aC}{v:V}{d:D}(h0: ∀b,c.hid₀ b=true->hid b=true)(p:PostE K c hid .n ρ' σ H H' v d):PostE K c hid .s ρ' σ H H' v d:=by
 obtain⟨kp,a,xs,ds,rfl,rfl,hn,h1,h2,h3,h4,h5,h6⟩:=p
 exact⟨kp,h4.show h0 h6 h1,.lst (vw_some.mpr ⟨h3,h1⟩) (h5.mono (cu λb q=>cC q))⟩
end
section
variable {X:Cx}{c:Ct}{e a b:Expr}{es rest:List Expr}{f g:GE}{k:Kd}{pos:Pos}
theorem DP.ef {f:FE}(h:DP X c k e f)(hk:k≠ .b:=by decide):DE X c k e (pu f):=λhid ρ=>PE.imp (h hid ρ) λσ H Q hq_=>by
 obtain⟨sr,d,ρ',hd,q⟩:=hq_
 obtain⟨h1,rfl⟩:=xX hd
 exact⟨sr,d,h1,λv H' s r=>q v H' (sr.post s r hk)⟩
theorem DE.toS(h:DE X c .n e f):DE X c .s e f:=λhid ρ=>PE.imp (h hid ρ) λσ H Q ⟨sr,d,ρ',hd,q⟩=>⟨sr,d,ρ',hd,λv H' p=>q v H' (p.toS sr.h0)⟩
def bE {α:Type}(f:GE)(g:D->aC->Option α):aC->Option α:=λρ=>(f ρ).bind λp=>g p.1 p.2
theorem og {α:Type}{g:D->aC->Option α}{ρ:aC}{z:α}(h:bE f g ρ=some z): ∃d ρ',f ρ=some (d,ρ')/\g d ρ'=some z:=by
 unfold bE at h;cases e:f ρ with
 |none=>rw[e] at h;cases h
 |some p=>rw[e] at h;exact⟨p.1,p.2,rfl,h⟩
def lK(F:D->D->Option D)(f g:GE):GE:=bE f λx=>bE g λy ρ=>(F x y).map λd=>(d,ρ)
theorem uD {F:D->D->Option D}{ρ ρ':aC}{d:D}(h:lK F f g ρ=some (d,ρ')): ∃x ρ1 y,f ρ=some (x,ρ1)/\g ρ1=some (y,ρ')/\F x y=some d:=by
 obtain⟨x,ρ1,h1,h2⟩:=og h
 obtain⟨y,ρ2,h3,h4⟩:=og h2
 cases e:F x y with
 |none=>rw[e] at h4;cases h4
 |some z=>rw[e] at h4;cases h4;exact⟨x,ρ1,y,h1,h3,e⟩
theorem Dp {r:R2}{F:D->D->Option D}{hid:bj}{ρ:aC}(hF:lT X.K k r F)(hk:k≠ .b){σ:St}{H:Hp}{Q:VK}(h:CZ X.K c hid k (lK F f g) ρ σ H Q):Br r (CZ X.K c hid .s f ρ) (λσ H Q=> ∃ρ1,CZ X.K c hid .s g ρ1 σ H Q) σ H Q:=by
 obtain⟨sr,d,ρ',hd,q⟩:=h
 obtain⟨x,ρ1,y,e1,e2,e3⟩:=uD hd
 refine⟨sr,x,ρ1,e1,λv H1 ⟨k1,s1,r1⟩=>⟨ρ1,s1,y,ρ',e2,λu H2 ⟨k2,s2,r2⟩=>?_⟩⟩
 exact hF H2 hid v u x y d Q (λa n=>s2.fresh n) e3 (.inl (r1.mono k2.vw)) (.inl r2) λw H' s3 r3=>q w H' (PostE.left (k1.trans k2) (s2.post s3 r3 hk))
theorem km {α:Type}{t:α->TE}(h: ∀z,PE X e (t z)):PE X e (λσ H Q=> ∃z,t z σ H Q):=λab s σ H Q I ⟨z,q⟩=>h z ab s σ H Q I q
theorem BB {op:Operator}{r:R2}{F:D->D->Option D}(ho:jS X (binaryOp op) r)(hF:lT X.K k r F)(ha:DE X c .s a f)(hb:DE X c .s b g)(hk:k≠ .b:=by decide):DE X c k (.BinOp a op b pos) (lK F f g):=λhid ρ=>
 PE.imp (y8 ho (ha hid ρ) (km λρ1=>hb hid ρ1)) λσ H Q h=>Dp hF hk h
def EH(K:W.Frag)(c:Ct)(hid:bj)(f:GA)(ρ:aC):TA:=λσ H Q=>SR K c hid ρ σ H/\ ∃d ρ',f ρ=some (d,ρ')/\ ∀vs H',Kept hid H H'->SR K c hid ρ' σ H'->Reps K (vw H' hid) vs d->Q vs H'
def DG(X:Cx)(c:Ct)(es:List Expr)(f:GA):Prop:= ∀hid ρ,PA X es (EH X.K c hid f ρ)
def cg(f:FA):GA:=λρ=>(f ρ).map λd=>(d,ρ)
theorem mr {f:FA}{ρ ρ':aC}{d:List D}(h:cg f ρ=some (d,ρ')):f ρ=some d/\ρ'=ρ:=by
 unfold cg at h;cases e:f ρ with
 |none=>rw[e] at h;cases h
 |some x=>rw[e] at h;cases h;exact⟨rfl,rfl⟩
theorem DA.gf {f:FA}(h:DA X c es f):DG X c es (cg f):=λhid ρ=>PA.imp (h hid ρ) λσ H Q hq_=>by
 obtain⟨sr,d,ρ',hd,q⟩:=hq_
 obtain⟨h1,rfl⟩:=mr hd
 exact⟨sr,d,h1,λv H' s r=>q v H' (.of s) (sr.ext s) r⟩
def gk(f:GE)(fs:GA):GA:=bE f λd ρ=>(fs ρ).map λp=>(d::p.1,p.2)
theorem Ad {α:Type}{t:α->TA}(h: ∀z,PA X es (t z)):PA X es (λσ H Q=> ∃z,t z σ H Q):=λp ab s σ H Q I ⟨z,q⟩=>h z p ab s σ H Q I q
theorem pk {fs:GA}(ha:DE X c .s e f)(hr:DG X c es fs)(hs:starEach (e::es) X.env=(false,eval e X.env)::starEach es X.env:=by rfl):DG X c (e::es) (gk f fs):=λhid ρ=>
 PA.imp (bw (ha hid ρ) (Ad λρ1=>hr hid ρ1) hs) λσ H Q hq_=>by
  obtain⟨sr,d,ρ',hd,q⟩:=hq_
  obtain⟨d1,ρ1,e1,h2⟩:=og hd
  cases e2:fs ρ1 with
  |none=>rw[e2] at h2;cases h2
  |some p=>
   rw[e2] at h2;obtain⟨ds,ρ2⟩:=p
   cases h2
   exact⟨sr,d1,ρ1,e1,λv H1 ⟨k1,s1,r1⟩=>⟨ρ1,s1,ds,_,e2,λvs H2 k2 s2 r2=>q _ H2 (k1.trans k2) s2 (.cons (r1.mono k2.vw) r2)⟩⟩
end
def fA(K:W.Frag)(k:Kd)(n:Nat)(P:List D->Option D):Sp:=λvs H Q _=> ∃hid ds,zB hid H/\Reps K (vw H hid) vs ds/\ds.length=n/\ ∃d,P ds=some d/\ ∀v H',Same H H'->RK K k H H' hid v d->Q v H'
def B7(K:W.Frag)(k:Kd)(hid:bj)(H H':Hp)(v:V)(d:D)(xs':List V)(bs':List D):Prop:=match k with
 | .n=> ∃p ys es,d=.lst es/\v=.ref p/\H p=none/\H' p=some (.lst ys)/\Reps K (vw H' (be hid p)) ys es/\Reps K (vw H' (be hid p)) xs' bs'
 |_=>Rep K (vw H' hid) v d/\Reps K (vw H' hid) xs' bs'
def uq(K:W.Frag)(k:Kd)(n:Nat)(M:List D->List D->Option (D×List D)):Sp:=λvs H Q _=> ∃hid a xs bs us ds,vs=.ref a::us/\zB hid H/\hid a=true/\H a=some (.lst xs)/\Reps K (vw H hid) xs bs/\
 Reps K (vw H hid) us ds/\ds.length=n/\ ∃d bs',M bs ds=some (d,bs')/\ ∀v H' xs',(∀b o,H b=some o->b≠a->H' b=some o)->H' a=some (.lst xs')->B7 K k hid H H' v d xs' bs'->Q v H'
section
variable {X:Cx}{c:Ct}{e a b:Expr}{es rest:List Expr}{k:Kd}{pos p:Pos}{x:Str}{f:Addr}{fd:FuncData}{ps:List Str}{j n:Nat}
theorem yF {P:List D->Option D}{fs:FA}(F:FnOk X.prog X.w X.K X.mg X.base mY j f fd ps (fA X.K k n P))(hr:Room j X.A)(hm:X.mg x=some (.ref f))(hk:W.keepIn X.K (.ref f)=true)(hb:Binds X.K fd ps [])
 (ha:DA X c (e::es) fs) (hg:Gl X x:=by rfl) (hdb:(x==("__debug__":Str))=false:=by decide) (he:starEach (e::es) X.env=(false,eval e X.env)::starEach es X.env:=by rfl) (hpl:(backTo pos (starEach es X.env)).any (·.1)=false:=by rfl):
 DP X c k (.Call (.Name x p) (e::es) [] pos) (ai (λds=>if ds.length=n then P ds else none) fs):=λhid ρ=>
 PE.imp (jF F hr hg hm hk hb .nil (pM (X:=X)) (ha hid ρ) hdb he hpl) λσ H Q hq_=>by
  obtain⟨sr,d,hd,q⟩:=hq_
  obtain⟨ds,e1,e2⟩:=lS hd
  have e2':(if ds.length=n then P ds else none)=some d:=e2
  split at e2'
  ·refine⟨sr,ds,e1,λvs H1 s1 r1=>?_⟩
   show fA X.K k n P (vs++[]) H1 Q E0;rw[List.append_nil];exact⟨hid,ds,(sr.ext s1).trk,r1, ‹_›,d,e2',λv H' s2 r2=>q v H' (s1.trans s2) (RK.left s1 r2)⟩
  ·cases e2'
def fL(i:Nat)(bs:List D)(ρ:aC):aC:=match ρ[i]? with
 |some (.own _)=>ρ.set i (.own bs)
 |some (.arg _)=>ρ.set i (.arg bs)
 |_=>ρ
def ge(i:Nat)(ρ:aC):Option (List D):=match ρ[i]? with
 |some (.own ds)=>some ds
 |some (.arg ds)=>some ds
 |_=>none
theorem gM {i:Nat}{ρ:aC}{bs:List D}(h:ge i ρ=some bs):ρ[i]? =some (.own bs)\/ρ[i]? =some (.arg bs):=by
 unfold ge at h;split at h
 ·cases h;exact .inl ‹_›
 ·cases h;exact .inr ‹_›
 ·cases h
theorem SR.held {K:W.Frag}{hid:bj}{ρ:aC}{σ:St}{H:Hp}{i:Nat}{bs:List D}(h:SR K c hid ρ σ H)(hg:ge i ρ=some bs): ∃a xs,σ[i]? =some (some (.ref a))/\H a=some (.lst xs)/\hid a=true/\Reps K (vw H hid) xs bs/\(c.mu a=true\/c.H₀ a=none):=by
 rcases gM hg with e|e
 ·obtain⟨a,xs,h1,h2,h3,h4,h5⟩:=h.sl i _ e
  exact⟨a,xs,h1,h2,h3,h5,.inr h4⟩
 ·obtain⟨a,xs,h1,h2,h3,h4,h5⟩:=h.sl i _ e
  exact⟨a,xs,h1,h2,h3,h5,.inl h4⟩
theorem iT {i j:Nat}{ρ:aC}{bs:List D}(h:j≠i):(fL i bs ρ)[j]? =ρ[j]? :=by
 unfold fL;split
 ·rw[List.getElem?_set_ne (Ne.symm h)]
 ·rw[List.getElem?_set_ne (Ne.symm h)]
 ·rfl
theorem ww {i:Nat}{ρ:aC}{bs:List D}:(fL i bs ρ).length=ρ.length:=by
 unfold fL;split
 ·simp
 ·simp
 ·rfl
theorem oQ {i j:Nat}{ρ:aC}{bs:List D}(h:Ow (fL i bs ρ)[j]?):Ow ρ[j]? :=by
 by_cases e:j=i
 ·subst e
  unfold fL at h;split at h
  ·rw[‹ρ[j]? =_›];trivial
  ·rw[‹ρ[j]? =_›];trivial
  ·exact h
 ·rw[iT e] at h;exact h
theorem SR.put {K:W.Frag}{hid:bj}{ρ:aC}{σ:St}{H H':Hp}{i:Nat}{bs bs':List D}{a:Addr}{xs':List V}(h:SR K c hid ρ σ H)(hg:ge i ρ=some bs)(ha:σ[i]? =some (some (.ref a)))(kp: ∀b o,H b=some o->b≠a->H' b=some o)
 (hx:H' a=some (.lst xs')) (r:Reps K (vw H' hid) xs' bs'):SR K c hid (fL i bs' ρ) σ H':=by
 obtain⟨a1,xs,h1,h2,h3,h4,h5⟩:=h.held hg
 rw[ha] at h1;cases h1;have sm:Same (vw H hid) (vw H' hid):=sZ λb o q hb=>kp b o q (λe=>by subst e;rw[h3] at hb;cases hb)
 have tr': ∀b o,H b=some o-> ∃o',H' b=some o':=λb o q=>by
  by_cases e:b=a
  ·subst e;exact⟨_,hx⟩
  ·exact⟨o,kp b o q e⟩
 refine⟨λb hb=>let⟨o,q⟩:=h.tr b hb;tr' b o q,λb xs hb q=>by
  by_cases e:b=a
  ·subst e;rw[hx] at q;cases q
  ·obtain⟨o,w⟩:=h.tr b hb
   have z:=kp b o w e
   rw[q] at z;cases z;exact h.ht b xs hb w,h.h0,λb o q m=>?_,λb o q=>let⟨o',q'⟩:=h.t0 b o q;tr' b o' q',h.c0,h.m0,by rw[ww];exact h.len,λj s q=>?_,λj l z n o1 o2=>h.ap j l z n (oQ o1) (oQ o2)⟩
 ·refine kp b o (h.kp b o q m) λe=>?_
  subst e;rcases h5 with h5|h5
  ·rw[h5] at m;cases m
  ·rw[h5] at q;cases q
 ·by_cases e:j=i
  ·subst e
   rcases gM hg with w|w
   ·have lt:=(List.getElem?_eq_some_iff.mp w).1
    unfold fL at q;rw[w] at q;dsimp only at q;rw[List.getElem?_set_self lt] at q;cases q
    obtain⟨a2,xs2,g1,g2,g3,g4,g5⟩:=h.sl j _ w
    rw[ha] at g1;cases g1;exact⟨_,xs',ha,hx,g3,g4,r⟩
   ·have lt:=(List.getElem?_eq_some_iff.mp w).1
    unfold fL at q;rw[w] at q;dsimp only at q;rw[List.getElem?_set_self lt] at q;cases q
    obtain⟨a2,xs2,g1,g2,g3,g4,g5⟩:=h.sl j _ w
    rw[ha] at g1;cases g1;exact⟨_,xs',ha,hx,g3,g4,r⟩
  ·rw[iT e] at q
   have z:=h.sl j s q
   cases s with
   |no=>trivial
   |v d=>obtain⟨x,h1,h2⟩:=z;exact⟨x,h1,h2.mono sm⟩
   |own ds=>
    obtain⟨a',xs,z1,z2,z3,z4,z5⟩:=z
    have ne:a'≠a:=λe'=>by
     subst e';refine h.ap j i a' e (by rw[q];trivial) ?_ z1 ha
     rcases gM hg with w|w<;>rw[w]<;>trivial
    exact⟨a',xs,z1,kp _ _ z2 ne,z3,z4,z5.mono sm⟩
   |arg ds=>
    obtain⟨a',xs,z1,z2,z3,z4,z5⟩:=z
    have ne:a'≠a:=λe'=>by
     subst e';refine h.ap j i a' e (by rw[q];trivial) ?_ z1 ha
     rcases gM hg with w|w<;>rw[w]<;>trivial
    exact⟨a',xs,z1,kp _ _ z2 ne,z3,z4,z5.mono sm⟩
   |ob b=>
    obtain⟨a',z1,z2⟩:=z
    refine⟨a',z1,z2.mono (λow x hx o w=>kp _ _ w (hx.ne (λe'=>?_) h2)) sm λ_ _ _ w=>w⟩
    subst e';refine h.ap j i a' e (by rw[q];exact ow) ?_ z1 ha
    rcases gM hg with w|w<;>rw[w]<;>trivial
def aL(i n:Nat)(M:List D->List D->Option (D×List D))(fs:GA):GE:=λρ=>match ge i ρ with
 |none=>none
 |some _=>match fs ρ with
  |none=>none
  |some (ds,ρ1)=>match ge i ρ1 with
   |none=>none
   |some bs=>if ds.length=n then match M bs ds with
     |none=>none
     |some (d,bs')=>some (d,fL i bs' ρ1) else none
theorem i7 {i:Nat}{M:List D->List D->Option (D×List D)}{fs:GA}{ρ ρ':aC}{d:D}(h:aL i n M fs ρ=some (d,ρ')): ∃bs0 ds ρ1 bs bs',ge i ρ=some bs0/\fs ρ=some (ds,ρ1)/\ge i ρ1=some bs/\ds.length=n/\M bs ds=some (d,bs')/\ρ'=fL i bs' ρ1:=by
 unfold aL at h;split at h
 ·cases h
 ·split at h
  ·cases h
  ·split at h
   ·cases h
   ·split at h
    ·split at h
     ·cases h
     ·cases h;exact⟨_,_,_,_,_, ‹_›, ‹_›, ‹_›, ‹_›, ‹_›,rfl⟩
    ·cases h
theorem vW(i:Nat){y:Str}{py:Pos}{M:List D->List D->Option (D×List D)}{fs:GA}(F:FnOk X.prog X.w X.K X.mg X.base mY j f fd ps (uq X.K k n M))(hr:Room j X.A)(hm:X.mg x=some (.ref f))(hk:W.keepIn X.K (.ref f)=true)(hb:Binds X.K fd ps [])
 (ha:DG X c es fs) (hkb:k≠ .b:=by decide) (hN:X.N[i]? =some y:=by rfl) (hv:kR X.env.scope y:=by first|exact Or.inl rfl|exact Or.inr (Or.inl rfl)|exact Or.inr (Or.inr rfl)) (hd:(y==("__debug__":Str))=false:=by decide)
 (hcd:(y==("__classdict__":Str))=false:=by decide) (hs:starEach (.Name y py::es) X.env=(false,eval (.Name y py) X.env)::starEach es X.env:=by rfl) (hg:Gl X x:=by rfl) (hdb:(x==("__debug__":Str))=false:=by decide) (hpl:(backTo pos (starEach es X.env)).any (·.1)=false:=by rfl):
 DE X c k (.Call (.Name x p) (.Name y py::es) [] pos) (aL i n M fs):=λhid ρ=>
 PE.imp (jF F hr hg hm hk hb .nil (pM (X:=X)) (bw (pv i hN hv hd hcd) (ha hid ρ) hs) hdb hs hpl) λσ H Q hq_=>by
  obtain⟨sr,d,ρ',hd',q⟩:=hq_
  obtain⟨bs0,ds,ρ1,bs,bs',e0,e1,e2,e3,e4,rfl⟩:=i7 hd'
  obtain⟨a,xs0,a1,_,a3,_,_⟩:=sr.held e0
  refine⟨.ref a,a1,sr,ds,ρ1,e1,λus H1 k1 s1 r1=>?_⟩
  obtain⟨a',xs,b1,b2,b3,b4,b5⟩:=s1.held e2
  rw[a1] at b1;cases b1;show uq X.K k n M ((.ref a::us)++[]) H1 Q E0;rw[List.append_nil];refine⟨hid,a,xs,bs,us,ds,rfl,s1.trk,b3,b2,b4,r1,e3,d,bs',e4,λv H' xs' kp hx hr'=>q v H' ?_⟩
  have kp':Kept hid H1 H':=λb o q hb=>kp b o q λe=>by subst e;rw[b3] at hb;cases hb
  cases k with
  |b=>exact absurd rfl hkb
  |s=>exact⟨k1.trans kp',s1.put e2 a1 kp hx hr'.2,hr'.1⟩
  |n=>
   obtain⟨p',ys,es',rfl,rfl,h1,h2,h3,h4⟩:=hr'
   have np:hid p'=false:=s1.fresh h1
   have na:a≠p':=λe=>by subst e;rw[b2] at h1;cases h1
   have sB:SR X.K c (be hid p') ρ1 σ (bq H1 p' (.lst ys)):=s1.hide (aY h1 _) h1 aI
   have kp2: ∀b o,(bq H1 p' (.lst ys)) b=some o->b≠a->H' b=some o:=λb o z hb=>by
    by_cases e:b=p'
    ·subst e;rw[aI] at z;cases z;exact h2
    ·rw[aB e] at z;exact kp b o z hb
   have sC:SR X.K c (be hid p') (fL i bs' ρ1) σ H':=sB.put e2 a1 kp2 hx h4
   have hn:H p'=none:=by
    cases e:H p' with
    |none=>rfl
    |some o=>rw[k1 p' o e np] at h1;cases h1
   refine⟨k1.trans kp',p',ys,es',rfl,rfl,hn,h2,s1.fresh0 h1,np,sC,h3,λm hm hσ=>?_⟩
   have:=s1.notOw np m (oQ hm)
   exact this hσ
end
inductive Out where
 |nx (ρ:aC)|rt (d:D) (ρ:aC)|bk (ρ:aC)|ct (ρ:aC)|no
abbrev FS:=aC->Out
def BY(c:Ct)(k:Kd)(v:V):bj:=match k,v with
 | .n,.ref a=>be c.hid₀ a
 |_,_=>c.hid₀
structure Ret(K:W.Frag)(c:Ct)(k:Kd)(ρ':aC)(H':Hp)(v:V)(d:D):Prop where
 kp: ∀b o,c.H₀ b=some o->c.mu b=false->H' b=some o
 val:match k with
  | .n=> ∃a xs ds,d=.lst ds/\v=.ref a/\c.H₀ a=none/\H' a=some (.lst xs)/\Reps K (vw H' (be c.hid₀ a)) xs ds
  |_=>Rep K (vw H' c.hid₀) v d
 arg: ∀(i:Nat) (bs:List D),ρ'[i]? =some (Sl.arg bs)-> ∃a xs,c.mu a=true/\H' a=some (.lst xs)/\Reps K (vw H' (BY c k v)) xs bs
def EndOk(K:W.Frag)(c:Ct)(k:Kd)(D:Ends)(W:Hp):Out->Prop
 | .nx ρ'=> ∀σ' H' hid',SR K c hid' ρ' σ' H'->Same W (vw H' hid')->D.nx σ' H'
 | .rt d ρ'=> ∀v H',Ret K c k ρ' H' v d->D.rt v H'
 | .bk ρ'=> ∀σ' H' hid',SR K c hid' ρ' σ' H'->Same W (vw H' hid')->D.bk σ' H'
 | .ct ρ'=> ∀σ' H' hid',SR K c hid' ρ' σ' H'->Same W (vw H' hid')->D.ct σ' H'
 | .no=>False
theorem EndOk.mono {K:W.Frag}{c:Ct}{k:Kd}{D:Ends}{W W':Hp}{o:Out}(h:EndOk K c k D W o)(s:Same W W'):EndOk K c k D W' o:=by
 cases o with
 |nx ρ=>exact λσ' H' hid' z w=>h σ' H' hid' z (s.trans w)
 |rt d ρ=>exact h
 |bk ρ=>exact λσ' H' hid' z w=>h σ' H' hid' z (s.trans w)
 |ct ρ=>exact λσ' H' hid' z w=>h σ' H' hid' z (s.trans w)
 |no=>exact h
def Ek(K:W.Frag)(c:Ct)(k:Kd)(t:FS)(ρ:aC):TS:=λD σ H=> ∃hid,SR K c hid ρ σ H/\EndOk K c k D (vw H hid) (t ρ)
def DS(X:Cx)(c:Ct)(k:Kd)(st:Stmt)(t:FS):Prop:= ∀ρ,PS X st (Ek X.K c k t ρ)
def qU(X:Cx)(c:Ct)(k:Kd)(st:List Stmt)(t:FS):Prop:= ∀ρ,PSs X st (Ek X.K c k t ρ)
section
variable {X:Cx}{c:Ct}{k:Kd}{st:Stmt}{sts rest:List Stmt}{t u:FS}{e:Expr}{pos:Pos}
theorem lV {α:Type}{t:α->TS}(h: ∀z,PSs X sts (t z)):PSs X sts (λD σ H=> ∃z,t z D σ H):=λab s σ H D I ⟨z,q⟩=>h z ab s σ H D I q
theorem CS {α:Type}{t:α->TT}(h: ∀z,PT X e (t z)):PT X e (λD σ H=> ∃z,t z D σ H):=λab s σ H D I ⟨z,q⟩=>h z ab s σ H D I q
def skip:FS:=λρ=>.nx ρ
def ay(t u:FS):FS:=λρ=>match t ρ with
 | .nx ρ'=>u ρ'
 | .rt d ρ'=>.rt d ρ'
 | .bk ρ'=>.bk ρ'
 | .ct ρ'=>.ct ρ'
 | .no=>.no
theorem bK:qU X c k [] skip:=λρ=>PSs.imp yk λD σ H ⟨hid,sr,q⟩=>q σ H hid sr (Same.refl _)
theorem ax(h:DS X c k st t):qU X c k [st] t:=λρ=>oN (h ρ)
theorem al(h1:DS X c k st t)(h2:qU X c k rest u):qU X c k (st::rest) (ay t u):=λρ=>
 PSs.imp (ic (h1 ρ) (lV λρ1=>h2 ρ1)) λD σ H hq_=>by
  obtain⟨hid,sr,q⟩:=hq_
  refine⟨hid,sr,?_⟩
  unfold ay at q;cases e:t ρ with
  |nx ρ1=>rw[e] at q;exact λσ1 H1 hid1 sr1 v1=>⟨ρ1,hid1,sr1,EndOk.mono q v1⟩
  |rt d ρ1=>rw[e] at q;exact q
  |bk ρ1=>rw[e] at q;exact q
  |ct ρ1=>rw[e] at q;exact q
  |no=>rw[e] at q;exact q
def fz(p:FT)(t u:FS):FS:=λρ=>match p ρ with
 |some true=>t ρ
 |some false=>u ρ
 |none=>.no
theorem fq {p:FT}{a b:List Stmt}(hp:DT X c e p)(ha:qU X c k a t)(hb:qU X c k b u):DS X c k (.If e a b pos) (fz p t u):=λρ=>
 PS.imp (CD (CS λhid=>hp hid ρ) (ha ρ) (hb ρ)) λD σ H hq_=>by
  obtain⟨hid,sr,q⟩:=hq_
  cases e1:p ρ with
  |none=>unfold fz at q;rw[e1] at q;exact q.elim
  |some x=>
   refine⟨hid,sr,x,e1,λH1 s1=>?_⟩
   unfold fz at q;rw[e1] at q;cases x with
   |true=>exact ux ⟨hid,sr.ext s1,EndOk.mono q (aK s1)⟩
   |false=>exact uN ⟨hid,sr.ext s1,EndOk.mono q (aK s1)⟩
def bv(f:FE):FS:=λρ=>match f ρ with
 |some d=>.rt d ρ
 |none=>.no
theorem zp {K:W.Frag}{hid:bj}{ρ':aC}{σ:St}{H H':Hp}{v:V}{d:D}(hk:k≠ .b)(p:PostE K c hid k ρ' σ H H' v d)(h0: ∀b,c.hid₀ b=true->hid b=true):Ret K c k ρ' H' v d:=by
 cases k with
 |b=>exact absurd rfl hk
 |s=>
  obtain⟨_,sr,r⟩:=p
  refine⟨sr.kp,r.mono (cu sr.h0),λi bs e=>?_⟩
  obtain⟨a,xs,z1,z2,z3,z4,z5⟩:=sr.sl i _ e
  refine⟨a,xs,z4,z2,?_⟩
  show Reps K (vw H' c.hid₀) xs bs;exact z5.mono (cu sr.h0)
 |n=>
  obtain⟨_,a,xs,ds,rfl,rfl,_,h1,h2,h3,sr,h5,h6⟩:=p
  have le:Same (vw H' (be hid a)) (vw H' (be c.hid₀ a)):=cu λb q=>by
   unfold be at q⊢;cases e:c.hid₀ b with
   |true=>rw[h0 b e];rfl
   |false=>rw[e] at q;rw[Bool.or_eq_true];right;simpa using q
  refine⟨sr.kp,⟨a,xs,ds,rfl,rfl,h2,h1,h5.mono le⟩,λi bs e=>?_⟩
  obtain⟨a',xs',z1,z2,z3,z4,z5⟩:=sr.sl i _ e
  exact⟨a',xs',z4,z2,z5.mono le⟩
theorem bp {f:FE}(he:DP X c k e f)(hk:k≠ .b:=by decide):DS X c k (.Return (some e) pos) (bv f):=λρ=>PS.imp (rS (km λhid=>he hid ρ)) λD σ H hq_=>by
 obtain⟨hid,sr,q⟩:=hq_
 unfold bv at q;cases e1:f ρ with
 |none=>rw[e1] at q;exact q.elim
 |some z=>rw[e1] at q;exact⟨hid,sr,_,e1,λv H' s r=>q v H' (zp hk (sr.post s r hk) sr.h0)⟩
def q9:Option Sl->Option (List D)
 |some (.own ds)=>some ds
 |_=>none
def kF(i:Nat):FS:=λρ=>match q9 ρ[i]? with
 |some ds=>.rt (.lst ds) ρ
 |none=>.no
theorem nz {o:Option Sl}{ds:List D}(h:q9 o=some ds):o=some (.own ds):=by
 unfold q9 at h;split at h
 ·cases h;rfl
 ·cases h
theorem gV(i:Nat){x:Str}{pos':Pos}(hN:X.N[i]? =some x:=by rfl)(hv:kR X.env.scope x:=by first|exact Or.inl rfl|exact Or.inr (Or.inl rfl)|exact Or.inr (Or.inr rfl))(hd:(x==("__debug__":Str))=false:=by decide)
 (hcd:(x==("__classdict__":Str))=false:=by decide):DS X c .n (.Return (some (.Name x pos')) pos) (kF i):=λρ=>PS.imp (rS (pv i hN hv hd hcd)) λD σ H hq_=>by
 obtain⟨hid,sr,q⟩:=hq_
 unfold kF at q;cases e0:q9 ρ[i]? with
 |none=>rw[e0] at q;exact q.elim
 |some ds=>
  rw[e0] at q;have e:=nz e0
  obtain⟨a,xs,z1,z2,z3,z4,z5⟩:=sr.sl i _ e
  have le:Same (vw H hid) (vw H (be c.hid₀ a)):=cu λb w=>by
   unfold be at w;cases e:c.hid₀ b with
   |true=>exact sr.h0 b e
   |false=>
    rw[e] at w;have:b=a:=by simpa using w
    rw[this];exact z3
  refine⟨_,z1,q _ H ⟨sr.kp,⟨a,xs,ds,rfl,rfl,z4,z2,z5.mono le⟩,λj bs e'=>?_⟩⟩
  obtain⟨a',xs',w1,w2,w3,w4,w5⟩:=sr.sl j _ e'
  exact⟨a',xs',w4,w2,w5.mono le⟩
end
section
variable {K:W.Frag}{c:Ct}{hid:bj}{ρ:aC}{σ:St}{H H':Hp}{i:Nat}{a:Addr}{v:V}{d:D}
theorem SR.setV(h:SR K c hid ρ σ H)(r:Rep K (vw H hid) v d)(i:Nat):SR K c hid (ρ.set i (.v d)) (σ.set i (some v)) H:=by
 refine⟨h.tr,h.ht,h.h0,h.kp,h.t0,h.c0,h.m0,by simp[h.len],λj s q=>?_,λj l z n o1 o2 q1 q2=>?_⟩
 ·by_cases e:j=i
  ·subst e
   have lt:j<ρ.length:=by
    have:=(List.getElem?_eq_some_iff.mp q).1
    simpa using this
   rw[List.getElem?_set_self lt] at q;cases q
   exact⟨v,List.getElem?_set_self (by rw[h.len];exact lt),r⟩
  ·rw[List.getElem?_set_ne (Ne.symm e)] at q
   have w:=h.sl j s q
   have es:(σ.set i (some v))[j]? =σ[j]? :=List.getElem?_set_ne (Ne.symm e)
   cases s with
   |no=>trivial
   |v d=>obtain⟨x,h1,h2⟩:=w;exact⟨x,es.trans h1,h2⟩
   |own ds=>obtain⟨a,xs,h1,h2⟩:=w;exact⟨a,xs,es.trans h1,h2⟩
   |arg ds=>obtain⟨a,xs,h1,h2⟩:=w;exact⟨a,xs,es.trans h1,h2⟩
   |ob b=>obtain⟨a,h1,h2⟩:=w;exact⟨a,es.trans h1,h2⟩
 ·have nj: ∀m,Ow (ρ.set i (.v d))[m]? ->m≠i:=λm o e=>by
   subst e
   by_cases lt:m<ρ.length
   ·rw[List.getElem?_set_self lt] at o;exact o
   ·rw[List.getElem?_eq_none (by simpa using lt)] at o;exact o
  have e1:=nj j o1
  have e2:=nj l o2
  rw[List.getElem?_set_ne (Ne.symm e1)] at o1 q1;rw[List.getElem?_set_ne (Ne.symm e2)] at o2 q2;exact h.ap j l z n o1 o2 q1 q2
theorem SR.setO {xs:List V}{ds:List D}(h:SR K c hid ρ σ H)(ha:H a=some (.lst xs))(hh:hid a=true)(h0:c.H₀ a=none)(r:Reps K (vw H hid) xs ds)(no: ∀i:Nat,Ow ρ[i]? ->σ[i]? ≠some (some (.ref a)))(i:Nat):
 SR K c hid (ρ.set i (.own ds)) (σ.set i (some (.ref a))) H:=by
 refine⟨h.tr,h.ht,h.h0,h.kp,h.t0,h.c0,h.m0,by simp[h.len],λj s q=>?_,λj l z n o1 o2 q1 q2=>?_⟩
 ·by_cases e:j=i
  ·subst e
   have lt:j<ρ.length:=by
    have:=(List.getElem?_eq_some_iff.mp q).1
    simpa using this
   rw[List.getElem?_set_self lt] at q;cases q
   exact⟨a,xs,List.getElem?_set_self (by rw[h.len];exact lt),ha,hh,h0,r⟩
  ·rw[List.getElem?_set_ne (Ne.symm e)] at q
   have w:=h.sl j s q
   have es:(σ.set i (some (V.ref a)))[j]? =σ[j]? :=List.getElem?_set_ne (Ne.symm e)
   cases s with
   |no=>trivial
   |v d=>obtain⟨x,h1,h2⟩:=w;exact⟨x,es.trans h1,h2⟩
   |own ds=>obtain⟨a,xs,h1,h2⟩:=w;exact⟨a,xs,es.trans h1,h2⟩
   |arg ds=>obtain⟨a,xs,h1,h2⟩:=w;exact⟨a,xs,es.trans h1,h2⟩
   |ob b=>obtain⟨a,h1,h2⟩:=w;exact⟨a,es.trans h1,h2⟩
 ·by_cases e1:j=i
  ·subst e1
   have e2:l≠j:=λe=>n e.symm
   rw[List.getElem?_set_ne (Ne.symm e2)] at o2 q2
   by_cases lt:j<σ.length
   ·rw[List.getElem?_set_self lt] at q1;cases q1;exact no l o2 q2
   ·rw[List.getElem?_eq_none (by simpa using lt)] at q1;cases q1
  ·rw[List.getElem?_set_ne (Ne.symm e1)] at o1 q1
   by_cases e2:l=i
   ·subst e2
    by_cases lt:l<σ.length
    ·rw[List.getElem?_set_self lt] at q2;cases q2;exact no j o1 q1
    ·rw[List.getElem?_eq_none (by simpa using lt)] at q2;cases q2
   ·rw[List.getElem?_set_ne (Ne.symm e2)] at o2 q2
    exact h.ap j l z n o1 o2 q1 q2
end
section
variable {X:Cx}{c:Ct}{k:Kd}{st:Stmt}{sts rest:List Stmt}{t u:FS}{e:Expr}{es:List Expr}{pos pos':Pos}{x:Str}{i:Nat}
def jj(i:Nat)(f:GE):FS:=λρ=>match f ρ with
 |some (d,ρ')=>.nx (ρ'.set i (.v d))
 |none=>.no
def aQ(i:Nat)(f:FE):FS:=λρ=>match f ρ with
 |some d=>.nx (ρ.set i (.v d))
 |none=>.no
def CH:D->Option (List D)
 | .lst ds=>some ds
 |_=>none
def rO(i:Nat)(f:GE):FS:=λρ=>match f ρ with
 |some (d,ρ')=>(match CH d with
  |some ds=>.nx (ρ'.set i (.own ds))
  |none=>.no)
 |none=>.no
def cQ(i:Nat)(f:FE):FS:=λρ=>match f ρ with
 |some d=>(match CH d with
  |some ds=>.nx (ρ.set i (.own ds))
  |none=>.no)
 |none=>.no
theorem lA(i:Nat){f:GE}(hn:X.N.Nodup)(he:DE X c .s e f)(hi:X.N[i]? =some x:=by rfl)(hx:tN X.env.scope x:=by first|exact Or.inl rfl|exact Or.inr rfl)(hs:swapsWith e (some (.Name x pos')) pos.line X.env=pure false:=by rfl)
 (hf:X.fn x=true\/X.env.scope.names.lookup x=some .local:=by first|exact .inl rfl|exact .inr rfl|assumption):DS X c k (.Assign [.Name x pos'] e pos) (jj i f):=λρ=>PS.imp (ko hn hi hx (km λhid=>he hid ρ) hs hf) λD σ H hq_=>by
 obtain⟨hid,sr,q⟩:=hq_
 unfold jj at q;cases e1:f ρ with
 |none=>rw[e1] at q;exact q.elim
 |some z=>
  rw[e1] at q;exact⟨hid,sr,z.1,z.2,e1,λv H' ⟨kp,s',r⟩=>q _ H' hid (s'.setV r i) kp.vw⟩
theorem aT(i:Nat){f:FE}(hn:X.N.Nodup)(he:DP X c .s e f)(hi:X.N[i]? =some x:=by rfl)(hx:tN X.env.scope x:=by first|exact Or.inl rfl|exact Or.inr rfl)(hs:swapsWith e (some (.Name x pos')) pos.line X.env=pure false:=by rfl)
 (hf:X.fn x=true\/X.env.scope.names.lookup x=some .local:=by first|exact .inl rfl|exact .inr rfl|assumption):DS X c k (.Assign [.Name x pos'] e pos) (aQ i f):=λρ=>PS.imp (ko hn hi hx (km λhid=>he hid ρ) hs hf) λD σ H hq_=>by
 obtain⟨hid,sr,q⟩:=hq_
 unfold aQ at q;cases e1:f ρ with
 |none=>rw[e1] at q;exact q.elim
 |some z=>
  rw[e1] at q;exact⟨hid,sr,z,e1,λv H' s' r=>q _ H' hid ((sr.ext s').setV r i) (aK s')⟩
theorem AT {K:W.Frag}{hid:bj}{ρ':aC}{σ:St}{H H':Hp}{v:V}{d:D}{D:Ends}(p:PostE K c hid .n ρ' σ H H' v d)(q:EndOk K c k D (vw H hid) (match CH d with
 |some ds=>.nx (ρ'.set i (.own ds))
 |none=>.no)):D.nx (σ.set i (some v)) H':=by
 obtain⟨kp,a,xs,ds,rfl,rfl,hn,h1,h2,h3,h4,h5,h6⟩:=p
 refine q _ H' (be hid a) (h4.setO h1 dW h2 h5 h6 i) λb o w=>?_
 obtain⟨w1,w2⟩:=vw_some.mp w
 refine vw_some.mpr ⟨?_,kp b o w2 w1⟩
 unfold be;rw[w1];have:b≠a:=aO w2 hn
 simp[this]
theorem yP(i:Nat){f:GE}(hn:X.N.Nodup)(he:DE X c .n e f)(hi:X.N[i]? =some x:=by rfl)(hx:tN X.env.scope x:=by first|exact Or.inl rfl|exact Or.inr rfl)(hs:swapsWith e (some (.Name x pos')) pos.line X.env=pure false:=by rfl)
 (hf:X.fn x=true\/X.env.scope.names.lookup x=some .local:=by first|exact .inl rfl|exact .inr rfl|assumption):DS X c k (.Assign [.Name x pos'] e pos) (rO i f):=λρ=>PS.imp (ko hn hi hx (km λhid=>he hid ρ) hs hf) λD σ H hq_=>by
 obtain⟨hid,sr,q⟩:=hq_
 unfold rO at q;cases e1:f ρ with
 |none=>rw[e1] at q;exact q.elim
 |some z=>
  rw[e1] at q;exact⟨hid,sr,z.1,z.2,e1,λv H' p=>AT p q⟩
theorem fj(i:Nat){f:FE}(hn:X.N.Nodup)(he:DP X c .n e f)(hi:X.N[i]? =some x:=by rfl)(hx:tN X.env.scope x:=by first|exact Or.inl rfl|exact Or.inr rfl)(hs:swapsWith e (some (.Name x pos')) pos.line X.env=pure false:=by rfl)
 (hf:X.fn x=true\/X.env.scope.names.lookup x=some .local:=by first|exact .inl rfl|exact .inr rfl|assumption):DS X c k (.Assign [.Name x pos'] e pos) (cQ i f):=λρ=>PS.imp (ko hn hi hx (km λhid=>he hid ρ) hs hf) λD σ H hq_=>by
 obtain⟨hid,sr,q⟩:=hq_
 unfold cQ at q;cases e1:f ρ with
 |none=>rw[e1] at q;exact q.elim
 |some z=>
  rw[e1] at q;exact⟨hid,sr,z,e1,λv H' s r=>AT (sr.post s r (by decide)) q⟩
def uM(i:Nat)(ρ:aC):aC:=match q9 ρ[i]? with
 |some ds=>ρ.set i (.v (.lst ds))
 |none=>ρ
theorem SR.freeze {K:W.Frag}{hid:bj}{ρ:aC}{σ:St}{H:Hp}(h:SR K c hid ρ σ H)(i:Nat): ∃hid',SR K c hid' (uM i ρ) σ H/\Same (vw H hid) (vw H hid'):=by
 unfold uM;cases e0:q9 ρ[i]? with
 |none=>exact⟨hid,h,Same.refl _⟩
 |some ds=>
  have e:=nz e0
  obtain⟨a,xs,z1,z2,z3,z4,z5⟩:=h.sl i _ e
  have sm:Same (vw H hid) (vw H (gI hid a)):=cu λb w=>by unfold gI at w;rw[Bool.and_eq_true] at w;exact w.1
  have un: ∀b,b≠a->hid b=true->gI hid a b=true:=λb n w=>by unfold gI;rw[w];simp[n]
  have na:c.hid₀ a=false:=by
   cases q:c.hid₀ a with
   |false=>rfl
   |true=>obtain⟨o,w⟩:=h.c0 a q;rw[z4] at w;cases w
  refine⟨gI hid a,⟨λb w=>h.tr b (by unfold gI at w;rw[Bool.and_eq_true] at w;exact w.1),λb xs w=>h.ht b xs (by unfold gI at w;rw[Bool.and_eq_true] at w;exact w.1),λb w=>un b (λe=>by subst e;rw[na] at w;cases w) (h.h0 b w),h.kp,h.t0,h.c0,h.m0,by simp[h.len],λj s q=>?_,λj l z n o1 o2 q1 q2=>?_⟩,sm⟩
  ·by_cases ej:j=i
   ·subst ej
    rw[List.getElem?_set_self (List.getElem?_eq_some_iff.mp e).1] at q;cases q
    exact⟨_,z1,.lst (vw_some.mpr ⟨by unfold gI;simp,z2⟩) (z5.mono sm)⟩
   ·rw[List.getElem?_set_ne (Ne.symm ej)] at q
    have w:=h.sl j s q
    cases s with
    |no=>trivial
    |v d=>obtain⟨x,h1,h2⟩:=w;exact⟨x,h1,h2.mono sm⟩
    |own ds=>
     obtain⟨a',xs,h1,h2,h3,h4,h5⟩:=w
     exact⟨a',xs,h1,h2,un a' (λe'=>by subst e';exact h.ap j i _ ej (by rw[q];trivial) (by rw[e];trivial) h1 z1) h3,h4,h5.mono sm⟩
    |arg ds=>
     obtain⟨a',xs,h1,h2,h3,h4,h5⟩:=w
     exact⟨a',xs,h1,h2,un a' (λe'=>by subst e';exact h.ap j i _ ej (by rw[q];trivial) (by rw[e];trivial) h1 z1) h3,h4,h5.mono sm⟩
    |ob b=>
     obtain⟨a',h1,h2⟩:=w
     exact⟨a',h1,h2.mono (λ_ _ _ _ q=>q) sm λow x hx=>un x (hx.ne (λe'=>by subst e';exact h.ap j i _ ej (by rw[q];exact ow) (by rw[e];trivial) h1 z1) z2)⟩
  ·have nj: ∀m,Ow (ρ.set i (.v (.lst ds)))[m]? ->m≠i:=λm o e'=>by
    subst e'
    by_cases lt:m<ρ.length
    ·rw[List.getElem?_set_self lt] at o;exact o
    ·rw[List.getElem?_eq_none (by simpa using lt)] at o;exact o
   have e1:=nj j o1
   have e2:=nj l o2
   rw[List.getElem?_set_ne (Ne.symm e1)] at o1;rw[List.getElem?_set_ne (Ne.symm e2)] at o2;exact h.ap j l z n o1 o2 q1 q2
theorem Bh(i:Nat)(h:DS X c k st t):DS X c k st (λρ=>t (uM i ρ)):=λρ=>PS.imp (h (uM i ρ)) λD σ H hq_=>by
 obtain⟨hid,sr,q⟩:=hq_
 obtain⟨hid',sr',sm⟩:=sr.freeze i
 exact⟨hid',sr',EndOk.mono q sm⟩
def bA(f:GE):FS:=λρ=>match f ρ with
 |some (_,ρ')=>.nx ρ'
 |none=>.no
theorem eo {f:GE}(he:DE X c .s e f)(hs:swapsWith e none pos.line X.env=pure false:=by rfl):DS X c k (.Expr e pos) (bA f):=λρ=>PS.imp (ou (km λhid=>he hid ρ) hs) λD σ H hq_=>by
 obtain⟨hid,sr,q⟩:=hq_
 unfold bA at q;cases e1:f ρ with
 |none=>rw[e1] at q;exact q.elim
 |some z=>
  rw[e1] at q;exact⟨hid,sr,z.1,z.2,e1,λv H' ⟨kp,s',_⟩=>q _ H' hid s' kp.vw⟩
def Bu(K:W.Frag)(r:V->List V->Hp->VK->Prop)(n:Nat)(M:List D->List D->Option (D×List D)):Prop:= ∀(H:Hp) (hid:bj) (a:Addr) (xs us:List V) (bs ds bs':List D) (d:D) (Q:VK),H a=some (.lst xs)->hid a=true->Reps K (vw H hid) xs bs->Reps K (vw H hid) us ds->
 ds.length=n->M bs ds=some (d,bs')->(∀w xs',Reps K (vw H hid) xs' bs'->Rep K (vw H hid) w d->Q w (bq H a (.lst xs')))->r (.ref a) us H Q
theorem zh {K:W.Frag}{r:V->List V->Hp->VK->Prop}{n:Nat}{M:List D->List D->Option (D×List D)}(hM:Bu K r n M){hid:bj}{ρ1:aC}{σ:St}{H H1:Hp}{a:Addr}{us:List V}{bs ds bs':List D}{d:D}{Q:VK}(k1:Kept hid H H1)(s1:SR K c hid ρ1 σ H1)(e2:ge i ρ1=some bs)
 (ha:σ[i]? =some (some (.ref a))) (r1:Reps K (vw H1 hid) us ds) (hn:ds.length=n) (hm:M bs ds=some (d,bs')) (q: ∀v H',PostE K c hid .s (fL i bs' ρ1) σ H H' v d->Q v H'):r (.ref a) us H1 Q:=by
 obtain⟨a',xs,b1,b2,b3,b4,b5⟩:=s1.held e2
 rw[ha] at b1;cases b1;refine hM H1 hid a xs us bs ds bs' d Q b2 b3 b4 r1 hn hm λw xs' rx rw'=>q w _ ⟨k1.trans λb o z hb=>?_,?_,?_⟩
 ·rw[aB (λe=>by subst e;rw[b3] at hb;cases hb)];exact z
 ·exact s1.put e2 ha (λb o z hb=>by rw[aB hb];exact z) aI (by rw[dG b3];exact rx)
 ·rw[dG b3];exact rw'
variable {n:Nat}{M:List D->List D->Option (D×List D)}{fs:GA}{r:V->List V->Hp->VK->Prop}{y name:Str}{py apos:Pos}{id:String}
theorem gv(i:Nat)(hM:Bu X.K r n M)(hm:Bx X id r)(slot:Slot "list" name id)(hty:typeOf (.builtin id)=pure (.type "method_descriptor"))(ha:DG X c (e::es) fs)
 (hN:X.N[i]? =some y:=by rfl) (hv:kR X.env.scope y:=by first|exact Or.inl rfl|exact Or.inr (Or.inl rfl)|exact Or.inr (Or.inr rfl)) (hd:(y==("__debug__":Str))=false:=by decide) (hcd:(y==("__classdict__":Str))=false:=by decide)
 (hbase:attributeBase (.Name y py) name X.env (eval (.Name y py) X.env)=eval (.Name y py) X.env:=by rfl)
 (hfew:((backTo pos (starEach (e::es) X.env)).all (λx=> !x.1)&&(backToKw pos (keywordEach [] X.env)).all (λx=>x.1.isSome)
   &&decide ((e::es).length+([]:List Keyword).length+(if([]:List Keyword).isEmpty then 0 else 1)<30))=true:=by rfl)
 (hline:(apos.endLine==pos.line)=true:=by rfl) (hs:starEach (e::es) X.env=(false,eval e X.env)::starEach es X.env:=by rfl) (hplain:(backTo pos (starEach es X.env)).any (·.1)=false:=by rfl):
 DE X c .s (.Call (.Attribute (.Name y py) name apos) (e::es) [] pos) (aL i n M fs):=λhid ρ=>
 PE.imp (qw PySem.F.plainAttrs_list slot hty hm (pv i hN hv hd hcd) (ha hid ρ) hbase hfew hline hs hplain) λσ H Q hq_=>by
  obtain⟨sr,d,ρ',hd',q⟩:=hq_
  obtain⟨bs0,ds,ρ1,bs,bs',e0,e1,e2,e3,e4,rfl⟩:=i7 hd'
  obtain⟨a,xs0,a1,a2,a3,_,_⟩:=sr.held e0
  exact⟨.ref a,a1,.inl ⟨rfl,_,SqL.of a2⟩,sr,ds,ρ1,e1,λus H1 k1 s1 r1=>zh hM k1 s1 e2 a1 r1 e3 e4 q⟩
theorem p5(i:Nat)(hM:Bu X.K r 0 M)(hm:Bx X id r)(slot:Slot "list" name id)(hty:typeOf (.builtin id)=pure (.type "method_descriptor"))
 (hN:X.N[i]? =some y:=by rfl) (hv:kR X.env.scope y:=by first|exact Or.inl rfl|exact Or.inr (Or.inl rfl)|exact Or.inr (Or.inr rfl)) (hd:(y==("__debug__":Str))=false:=by decide) (hcd:(y==("__classdict__":Str))=false:=by decide)
 (hbase:attributeBase (.Name y py) name X.env (eval (.Name y py) X.env)=eval (.Name y py) X.env:=by rfl) (hline:(apos.endLine==pos.line)=true:=by rfl):
 DE X c .s (.Call (.Attribute (.Name y py) name apos) [] [] pos) (aL i 0 M (cg af)):=λhid ρ=>
 PE.imp (Au PySem.F.plainAttrs_list slot hty hm (pv i hN hv hd hcd) hbase hline) λσ H Q hq_=>by
  obtain⟨sr,d,ρ',hd',q⟩:=hq_
  obtain⟨bs0,ds,ρ1,bs,bs',e0,e1,e2,e3,e4,rfl⟩:=i7 hd'
  obtain⟨e5,rfl⟩:=mr e1
  cases e5
  obtain⟨a,xs0,a1,a2,a3,_,_⟩:=sr.held e0
  exact⟨.ref a,a1,.inl ⟨rfl,_,SqL.of a2⟩,zh hM (.of (Same.refl _)) sr e2 a1 .nil e3 e4 q⟩
end
section
variable {K:W.Frag}
def fW:List D->List D->Option (D×List D):=λbs ds=>match ds with
 | [d]=>if bs.length<sizeLine then some (.non,bs++[d]) else none
 |_=>none
theorem eO:Bu K sU 1 fW:=by
 intro H hid a xs us bs ds bs' d Q h1 h2 h3 h4 h5 h6 q;unfold fW at h6;split at h6
 ·split at h6
  ·cases h6
   cases h4 with
   |cons r t=>
    cases t
    exact⟨a,xs,_,rfl,rfl,h1,by rw[h3.length];assumption,q _ _ (h3.append (.cons r .nil)) .non⟩
  ·cases h6
 ·cases h6
def m9:List D->List D->Option (D×List D):=λbs ds=>match ds with
 | [.int i]=>match (if bs.length<=sizeLine then qO bs.length i else none) with
   |some j=>(bs[j]?).map λd=>(d,bs.eraseIdx j)
   |none=>none
 |_=>none
theorem AD:Bu K vE 1 m9:=by
 intro H hid a xs us bs ds bs' d Q h1 h2 h3 h4 h5 h6 q;unfold m9 at h6;split at h6
 ·split at h6
  ·rename_i i _ j e
   cases e1:bs[j]? with
   |none=>rw[e1] at h6;cases h6
   |some z=>
    rw[e1] at h6;cases h6;cases h4 with
    |cons r t=>
     cases t
     cases r
     obtain⟨x,g1,g2⟩:=h3.get e1
     split at e
     ·obtain⟨w1,w2,w3,w4⟩:=oU e
      have hl:=h3.length
      have l63:=jm
      refine⟨a,xs,i,j,x,rfl,rfl,h1,by omega,by omega,by rw[hl];exact w1,g1,q _ _ (h3.eraseIdx j) g2⟩
     ·cases e
  ·cases h6
 ·cases h6
end
abbrev FG:=D->aC->Option aC
abbrev rC:=List D->aC->Option aC
def OwK(ρ ρ':aC)(σ σ':St):Prop:= ∀i:Nat,Ow ρ'[i]? ->Ow ρ[i]? /\σ'[i]? =σ[i]?
theorem OwK.trans {ρ ρ1 ρ2:aC}{σ σ1 σ2:St}(a:OwK ρ ρ1 σ σ1)(b:OwK ρ1 ρ2 σ1 σ2):OwK ρ ρ2 σ σ2:=λi o=>⟨(a i (b i o).1).1,(b i o).2.trans (a i (b i o).1).2⟩
def Dj {ι:Type}(IR:Hp->V->ι->Prop)(K:W.Frag)(c:Ct)(hid:bj)(g:ι->aC->Option aC)(ρ:aC)(d:ι):TG:=λv σ H Q=>SR K c hid ρ σ H/\IR (vw H hid) v d/\ ∃ρ',g d ρ=some ρ'/\ ∀σ',SR K c hid ρ' σ' H->OwK ρ ρ' σ σ'->Q σ' H
def C5 {ι:Type}(IR:Hp->V->ι->Prop)(X:Cx)(c:Ct)(tg:Expr)(g:ι->aC->Option aC):Prop:= ∀hid ρ d,PG X tg (Dj IR X.K c hid g ρ d)
abbrev sN(X:Cx)(c:Ct)(tg:Expr)(g:FG):Prop:=C5 (Rep X.K) X c tg g
def Dh(K:W.Frag)(c:Ct)(hid:bj)(g:rC)(ρ:aC)(d:List D):vY:=λv σ H Q=>SR K c hid ρ σ H/\Reps K (vw H hid) v d/\ ∃ρ',g d ρ=some ρ'/\ ∀σ',SR K c hid ρ' σ' H->OwK ρ ρ' σ σ'->Q σ' H
def C3(X:Cx)(c:Ct)(tg:List Expr)(g:rC):Prop:= ∀hid ρ d,PGs X tg (Dh X.K c hid g ρ d)
theorem PG.imp {X:Cx}{e:Expr}{t t':TG}(h:PG X e t)(i: ∀v σ H Q,t' v σ H Q->t v σ H Q):PG X e t':=λab s σ H v u Q I r q=>h ab s σ H v u Q I r (i v σ H Q q)
theorem PGs.imp {X:Cx}{e:List Expr}{t t':vY}(h:PGs X e t)(i: ∀v σ H Q,t' v σ H Q->t v σ H Q):PGs X e t':=λab s σ H v u Q I r q=>h ab s σ H v u Q I r (i v σ H Q q)
theorem wt {X:Cx}{e:Expr}{α:Type}{t:α->TG}(h: ∀z,PG X e (t z)):PG X e (λv σ H Q=> ∃z,t z v σ H Q):=λab s σ H v u Q I r ⟨z,q⟩=>h z ab s σ H v u Q I r q
theorem sM {X:Cx}{e:List Expr}{α:Type}{t:α->vY}(h: ∀z,PGs X e (t z)):PGs X e (λv σ H Q=> ∃z,t z v σ H Q):=λab s σ H v u Q I r ⟨z,q⟩=>h z ab s σ H v u Q I r q
section
variable {X:Cx}{c:Ct}{k:Kd}{st:Stmt}{sts body:List Stmt}{t u:FS}{e tg iter:Expr}{es:List Expr}{pos pos':Pos}{x:Str}{i:Nat}
def gN(i:Nat):FG:=λd ρ=>some (ρ.set i (.v d))
theorem az(i:Nat)(hn:X.N.Nodup)(hi:X.N[i]? =some x:=by rfl)(hx:tN X.env.scope x:=by first|exact Or.inl rfl|exact Or.inr rfl)(hf:X.fn x=true\/X.env.scope.names.lookup x=some .local:=by first|exact .inl rfl|exact .inr rfl|assumption):
 sN X c (.Name x pos) (gN i):=λhid ρ d=>PG.imp (lD (i:=i) hn hi hx hf) λv σ H Q hq_=>by
 obtain⟨sr,r,ρ',e,q⟩:=hq_
 cases e
 refine q _ (sr.setV r i) λj o=>?_
 have ne:j≠i:=λe=>by
  subst e
  by_cases lt:j<ρ.length
  ·rw[List.getElem?_set_self lt] at o;exact o
  ·rw[List.getElem?_eq_none (by simpa using lt)] at o;exact o
 rw[List.getElem?_set_ne (Ne.symm ne)] at o⊢;exact⟨o,rfl⟩
def lh:rC:=λds ρ=>match ds with
 | []=>some ρ
 |_=>none
def gE(g:FG)(gs:rC):rC:=λds ρ=>match ds with
 | []=>none
 |d::r=>(g d ρ).bind λρ'=>gs r ρ'
theorem fH:C3 X c [] lh:=λhid ρ d=>PGs.imp oP λv σ H Q hq_=>by
 obtain⟨sr,r,ρ',e,q⟩:=hq_
 unfold lh at e;split at e
 ·cases e;cases r;exact⟨rfl,q σ sr λi o=>⟨o,rfl⟩⟩
 ·cases e
theorem aX {g:FG}{gs:rC}(h1:sN X c e g)(h2:C3 X c es gs)(hs:(assignEach (e::es) X.env).map (·.2)=assign e X.env::(assignEach es X.env).map (·.2):=by rfl):C3 X c (e::es) (gE g gs):=λhid ρ d=>
 PGs.imp (jM (wt λd=>h1 hid ρ d) (sM λz:aC×List D=>h2 hid z.1 z.2) hs) λv σ H Q hq_=>by
  obtain⟨sr,r,ρ',e,q⟩:=hq_
  cases d with
  |nil=>cases e
  |cons d1 ds=>
   cases r with
   |cons r1 r2=>
    have e:(g d1 ρ).bind (λρ'=>gs ds ρ')=some ρ':=e
    cases e1:g d1 ρ with
    |none=>rw[e1] at e;cases e
    |some ρ1=>
     rw[e1] at e;exact⟨_,_,rfl,d1,sr,r1,ρ1,e1,λσ1 s1 o1=>⟨(ρ1,ds),s1,r2,ρ',e,λσ2 s2 o2=>q σ2 s2 (o1.trans o2)⟩⟩
def gT(n:Nat)(gs:rC):FG:=λd ρ=>match d with
 | .tup ds=>if ds.length=n then gs ds ρ else none
 |_=>none
theorem fK {gs:rC}{kk n:Nat}(hc:X.calm=true)(h:C3 X c es gs)(hn:(assignEach es X.env).length=n:=by rfl)(hst:(assignEach es X.env).findIdx? (·.1)=none:=by rfl):sN X c (.Tuple es kk pos) (gT n gs):=λhid ρ d=>
 PG.imp (rP hc (sM λds=>h hid ρ ds) hn hst) λv σ H Q hq_=>by
  obtain⟨sr,r,ρ',e,q⟩:=hq_
  unfold gT at e;split at e
  ·split at e
   ·cases r with
    |tup h1 h2=>exact⟨_,_,rfl,Same.seqT (dU _ _) h1,by rw[h2.length];assumption,_,sr,h2,ρ',e,q⟩
   ·cases e
  ·cases e
def A7:Option aC->Out
 |some ρ=>.nx ρ
 |none=>.no
def gg(g:FG)(f:GE):FS:=λρ=>match f ρ with
 |some z=>A7 (g z.1 z.2)
 |none=>.no
theorem oX {g:FG}{f:GE}(he:DE X c .s e f)(hg:sN X c tg g)(hs:swapsWithSole [tg] e pos.line X.env=pure false:=by rfl)(hw:swappedStores [tg] e X.env=pure none:=by rfl)
 (h1:(assignEach [tg] X.env).map (·.2)=[assign tg X.env]:=by rfl):DS X c k (.Assign [tg] e pos) (gg g f):=λρ=>
 PS.imp (sx (km λhid=>he hid ρ) (wt λz:bj×aC×D=>hg z.1 z.2.1 z.2.2) hs hw h1) λD σ H hq_=>by
  obtain⟨hid,sr,q⟩:=hq_
  unfold gg at q;cases e1:f ρ with
  |none=>rw[e1] at q;exact q.elim
  |some z=>
   rw[e1] at q;cases e2:g z.1 z.2 with
   |none=>dsimp only at q;rw[e2] at q;exact q.elim
   |some ρ2=>
    dsimp only at q;rw[e2] at q;exact⟨hid,sr,z.1,z.2,e1,λv H' ⟨kp,s',r⟩=>⟨(hid,z.2,z.1),s',r,ρ2,e2,λσ' s2 _=>q σ' H' hid s2 kp.vw⟩⟩
def eF(i:Nat)(fi:FE)(d:D)(ρ:aC):Option aC:=match ge i ρ with
 |some bs=>(match fi ρ with
  |some (.int j)=>(match qO bs.length j with
   |some m=>some (fL i (bs.set m d) ρ)
   |none=>none)
  |_=>none)
 |none=>none
theorem rM {fi:FE}{d:D}{ρ ρ':aC}(h:eF i fi d ρ=some ρ'): ∃bs j m,ge i ρ=some bs/\fi ρ=some (.int j)/\qO bs.length j=some m/\ρ'=fL i (bs.set m d) ρ:=by
 unfold eF at h;split at h
 ·split at h
  ·split at h
   ·cases h;exact⟨_,_,_, ‹_›, ‹_›, ‹_›,rfl⟩
   ·cases h
  ·cases h
 ·cases h
def DJ(K:W.Frag)(c:Ct)(hid:bj)(g:FG)(ρ:aC)(d:D):TG:=λv σ H Q=>SR K c hid ρ σ H/\Rep K (vw H hid) v d/\ ∃ρ',g d ρ=some ρ'/\ ∀H',Kept hid H H'->SR K c hid ρ' σ H'->Q σ H'
def CU(X:Cx)(c:Ct)(tg:Expr)(g:FG):Prop:= ∀hid ρ d,PG X tg (DJ X.K c hid g ρ d)
theorem jB(i:Nat){y:Str}{py:Pos}{ix:Expr}{fi:FE}{k1:Kd}(hi:DP X c k1 ix fi)(hN:X.N[i]? =some y:=by rfl)(hv:kR X.env.scope y:=by first|exact Or.inl rfl|exact Or.inr (Or.inl rfl)|exact Or.inr (Or.inr rfl))(hd:(y==("__debug__":Str))=false:=by decide)(hcd:(y==("__classdict__":Str))=false:=by decide)
 (ha: ∀v,assign (.Subscript (.Name y py) ix pos) X.env v=(do
   let ov <-holding [v] (eval (.Name y py) X.env)
   let iv <-holding [v,ov] (eval ix X.env)
   standAt pos
   holding [v,ov,iv] (setItem ov iv v)
   release [v,ov,iv] []):=by intro _;rfl):CU X c (.Subscript (.Name y py) ix pos) (eF i fi):=λhid ρ d=>
 PG.imp (zG (pv i hN hv hd hcd) (hi hid ρ) xf ha) λv σ H Q hq_=>by
  obtain⟨sr,r,ρ',e,q⟩:=hq_
  obtain⟨bs,j,m,e1,e2,e3,rfl⟩:=rM e
  obtain⟨a,xs,a1,a2,a3,a4,a5⟩:=sr.held e1
  refine⟨.ref a,a1,sr,_,e2,λw H1 s1 r1=>?_⟩
  have b1:=(RK.b k1 r1 λa n=>sr.fresh n).int
  cases b1
  have a4':=a4.mono (aK (hid:=hid) s1)
  refine⟨a,xs,j,m,rfl,rfl,s1 _ _ a2,by rw[a4.length];exact e3,q _ (λb o z hb=>?_) ?_⟩
  ·rw[aB (λe=>by subst e;rw[a3] at hb;cases hb)];exact s1 _ _ z
  ·exact(sr.ext s1).put e1 a1 (λb o z hb=>by rw[aB hb];exact z) aI (by rw[dG a3];exact Reps.set (r.mono (aK s1)) m a4')
theorem oo {g:FG}{f:GE}(he:DE X c .s e f)(hg:CU X c tg g)(hs:swapsWithSole [tg] e pos.line X.env=pure false:=by rfl)(hw:swappedStores [tg] e X.env=pure none:=by rfl)
 (h1:(assignEach [tg] X.env).map (·.2)=[assign tg X.env]:=by rfl):DS X c k (.Assign [tg] e pos) (gg g f):=λρ=>
 PS.imp (sx (km λhid=>he hid ρ) (wt λz:bj×aC×D=>hg z.1 z.2.1 z.2.2) hs hw h1) λD σ H hq_=>by
  obtain⟨hid,sr,q⟩:=hq_
  unfold gg at q;cases e1:f ρ with
  |none=>rw[e1] at q;exact q.elim
  |some z=>
   rw[e1] at q;cases e2:g z.1 z.2 with
   |none=>dsimp only at q;rw[e2] at q;exact q.elim
   |some ρ2=>
    dsimp only at q;rw[e2] at q;exact⟨hid,sr,z.1,z.2,e1,λv H' ⟨kp,s',r⟩=>⟨(hid,z.2,z.1),s',r,ρ2,e2,λH2 k2 s2=>q σ H2 hid s2 (kp.trans k2).vw⟩⟩
def Dy(K:W.Frag)(c:Ct)(hid:bj)(g:rC)(ρ:aC)(d:List D):vY:=λv σ H Q=>SR K c hid ρ σ H/\Reps K (vw H hid) v d/\ ∃ρ',g d ρ=some ρ'/\ ∀H',Kept hid H H'->SR K c hid ρ' σ H'->Q σ H'
def C4(X:Cx)(c:Ct)(tg:List Expr)(g:rC):Prop:= ∀hid ρ d,PGs X tg (Dy X.K c hid g ρ d)
theorem yE:C4 X c [] lh:=λhid ρ d=>PGs.imp oP λv σ H Q hq_=>by
 obtain⟨sr,r,ρ',e,q⟩:=hq_
 unfold lh at e;split at e
 ·cases e;cases r;exact⟨rfl,q H (.of (Same.refl _)) sr⟩
 ·cases e
theorem qA {g:FG}{gs:rC}(h1:CU X c e g)(h2:C4 X c es gs)(hs:(assignEach (e::es) X.env).map (·.2)=assign e X.env::(assignEach es X.env).map (·.2):=by rfl):C4 X c (e::es) (gE g gs):=λhid ρ d=>
 PGs.imp (jM (wt λd=>h1 hid ρ d) (sM λz:aC×List D=>h2 hid z.1 z.2) hs) λv σ H Q hq_=>by
  obtain⟨sr,r,ρ',e,q⟩:=hq_
  cases d with
  |nil=>cases e
  |cons d1 ds=>
   cases r with
   |cons r1 r2=>
    have e:(g d1 ρ).bind (λρ'=>gs ds ρ')=some ρ':=e
    cases e1:g d1 ρ with
    |none=>rw[e1] at e;cases e
    |some ρ1=>
     rw[e1] at e;exact⟨_,_,rfl,d1,sr,r1,ρ1,e1,λH1 k1 s1=>⟨(ρ1,ds),s1,r2.mono k1.vw,ρ',e,λH2 k2 s2=>q H2 (k1.trans k2) s2⟩⟩
theorem xQ {gs:rC}{kk n:Nat}(hc:X.calm=true)(h:C4 X c es gs)(hn:(assignEach es X.env).length=n:=by rfl)(hst:(assignEach es X.env).findIdx? (·.1)=none:=by rfl):CU X c (.Tuple es kk pos) (gT n gs):=λhid ρ d=>
 PG.imp (rP hc (sM λds=>h hid ρ ds) hn hst) λv σ H Q hq_=>by
  obtain⟨sr,r,ρ',e,q⟩:=hq_
  unfold gT at e;split at e
  ·split at e
   ·cases r with
    |tup h1 h2=>exact⟨_,_,rfl,Same.seqT (dU _ _) h1,by rw[h2.length];assumption,_,sr,h2,ρ',e,q⟩
   ·cases e
  ·cases e
def ItOk(K:W.Frag)(W:Hp)(J:It)(ds:List D):Prop:=
 (∀(i:Nat) (d:D) (H:Hp),ds[i]? =some d->Same W H->J.go i H/\ ∀x H',J.yld i H x H'->Same H H'/\ ∀hid:bj,(∀b,hid b=true-> ∃o,H b=some o)->Same W (vw H hid)->Rep K (vw H' hid) x d)/\ ∀H,Same W H->J.stop ds.length H
def EE(K:W.Frag)(c:Ct)(hid:bj)(f:GA)(ρ:aC):TI:=λσ H R=>SR K c hid ρ σ H/\ ∃ds ρ',f ρ=some (ds,ρ')/\ ∀J H',Kept hid H H'->SR K c hid ρ' σ H'->ItOk K (vw H' hid) J ds->R J H'
def DI(X:Cx)(c:Ct)(tg iter:Expr)(f:GA):Prop:= ∀hid ρ,PI X tg iter (EE X.K c hid f ρ)
theorem PI.imp {t t':TI}(h:PI X tg iter t)(i: ∀σ H Q,t' σ H Q->t σ H Q):PI X tg iter t':=λab s σ H R I q=>h ab s σ H R I (i σ H R q)
theorem DN {α:Type}{t:α->TI}(h: ∀z,PI X tg iter (t z)):PI X tg iter (λσ H R=> ∃z,t z σ H R):=λab s σ H R I ⟨z,q⟩=>h z ab s σ H R I q
theorem w8 {K:W.Frag}{W:Hp}{a:Addr}{xs:List V}{ds:List D}(h:SqT K W a xs)(r:Reps K W xs ds):ItOk K W (Do K a) ds:=by
 refine⟨λi d H e s=>?_,λH s=>⟨xs,Same.seqT s h,by rw[r.length];exact Nat.le_refl _⟩⟩
 obtain⟨x,e1,r1⟩:=r.get e
 refine⟨⟨xs,x,Same.seqT s h,e1⟩,λy H' ⟨e2,e3⟩=>?_⟩
 subst e2;have:=e3 xs (Same.seqT s h)
 rw[e1] at this;cases this;exact⟨Same.refl _,λhid _ sw=>r1.mono sw⟩
def qy(lo:Int)(n:Nat):List D:=(List.range n).map λ(i:Nat)=>D.int (lo+i)
theorem mi {K:W.Frag}{W:Hp}{lo:Int}{n:Nat}:ItOk K W (BM lo n) (qy lo n):=by
 refine⟨λi d H e s=>?_,λH s=>by show n<=(qy lo n).length;simp[qy]⟩
 unfold qy at e;rw[List.getElem?_map] at e;cases e1:(List.range n)[i]? with
 |none=>rw[e1] at e;cases e
 |some j=>
  rw[e1] at e;obtain⟨h1,h2⟩:=List.getElem?_eq_some_iff.mp e1
  simp at h1 h2;subst h2;cases e
  refine⟨h1,λy H' ⟨e2,e3⟩=>?_⟩
  subst e2 e3;exact⟨Same.refl _,λhid _ sw=>.int⟩
def fw(g:FG)(b:FS):List D->FS
 | [],ρ=>.nx ρ
 |d::r,ρ=>match g d ρ with
  |none=>.no
  |some ρ1=>match b ρ1 with
   | .nx ρ2=>fw g b r ρ2
   | .ct ρ2=>fw g b r ρ2
   | .bk ρ2=>.nx ρ2
   | .rt d ρ2=>.rt d ρ2
   | .no=>.no
def dJ(f:GA)(g:FG)(b:FS):FS:=λρ=>match f ρ with
 |some (ds,ρ')=>fw g b ds ρ'
 |none=>.no
theorem dM {f:GA}{g:FG}{tb:FS}(hp:PassesOwn (model X.prog X.w) X.A X.env X.xe)(hc:X.calm=true)(hi:DI X c tg iter f)(hg:sN X c tg g)(hb:qU X c k body tb)
 (hs: ∀x,foldedSetIterable iter X.env x=pure x:=by intro _;rfl):DS X c k (.For tg iter body [] pos) (dJ f g tb):=λρ=>
 PS.imp (vf hp hc (DN λhid=>hi hid ρ) (wt λz:bj×aC×D=>hg z.1 z.2.1 z.2.2) (lV λρ=>hb ρ) hs) λD σ H hq_=>by
  obtain⟨hid,sr,q⟩:=hq_
  unfold dJ at q;cases e1:f ρ with
  |none=>rw[e1] at q;exact q.elim
  |some z=>
   obtain⟨ds,ρ0⟩:=z
   rw[e1] at q;have q':EndOk X.K c k D (vw H hid) (fw g tb ds ρ0):=q
   refine⟨hid,sr,ds,ρ0,e1,λJ H1 kp s1 it=>?_⟩
   refine⟨λi m σ H=>m=ds.length-i/\i<=ds.length/\ ∃hid2 ρ2,SR X.K c hid2 ρ2 σ H/\Same (vw H1 hid) (vw H hid2)/\EndOk X.K c k D (vw H hid2) (fw g tb (ds.drop i) ρ2),⟨ds.length,by simp,Nat.zero_le _,hid,ρ0,s1,Same.refl _,EndOk.mono q' kp.vw⟩,?_⟩
   rintro i m σ2 H2 ⟨rfl,hi',hid2,ρ2,s2,w2,q2⟩
   have wH:Same (vw H1 hid) H2:=w2.trans (dU _ _)
   by_cases hlt:i<ds.length
   ·have hd:ds[i]? =some ds[i]:=List.getElem?_eq_getElem hlt
    have e2:ds.drop i=ds[i]::ds.drop (i+1):=List.drop_eq_getElem_cons hlt
    rw[e2] at q2;unfold fw at q2;obtain⟨go,yl⟩:=it.1 i ds[i] H2 hd wH
    refine .inr ⟨go,λσ' H'=> ∃hid3 ρ3,SR X.K c hid3 ρ3 σ' H'/\Same (vw H1 hid) (vw H' hid3)/\EndOk X.K c k D (vw H' hid3) (fw g tb (ds.drop (i+1)) ρ3),λσ' H' n3=>⟨ds.length- (i+1),by omega,rfl,hlt,n3⟩,λx H3 y=>?_⟩
    obtain⟨s3,rp⟩:=yl x H3 y
    have rx:=rp hid2 s2.tr w2
    cases e3:g ds[i] ρ2 with
    |none=>rw[e3] at q2;exact q2.elim
    |some ρ3=>
     rw[e3] at q2;refine⟨(hid2,ρ2,ds[i]),s2.ext s3,rx,ρ3,e3,λσ4 s4 _=>⟨ρ3,hid2,s4,?_⟩⟩
     have w3:Same (vw H2 hid2) (vw H3 hid2):=aK s3
     dsimp only at q2;cases e4:tb ρ3 with
     |nx ρ5=>rw[e4] at q2;exact λσ' H' hid' z w=>⟨hid',ρ5,z,(w2.trans w3).trans w,EndOk.mono q2 (w3.trans w)⟩
     |ct ρ5=>rw[e4] at q2;exact λσ' H' hid' z w=>⟨hid',ρ5,z,(w2.trans w3).trans w,EndOk.mono q2 (w3.trans w)⟩
     |bk ρ5=>rw[e4] at q2;exact λσ' H' hid' z w=>q2 σ' H' hid' z (w3.trans w)
     |rt d ρ5=>rw[e4] at q2;exact q2
     |no=>rw[e4] at q2;exact q2.elim
   ·have e:i=ds.length:=by omega
    subst e;rw[List.drop_eq_nil_of_le (Nat.le_refl _)] at q2;exact .inl ⟨it.2 H2 wH,q2 σ2 H2 hid2 s2 (Same.refl _)⟩
def i8(p:FT)(b:FS):Nat->FS
 |0,_=>.no
 |n+1,ρ=>match p ρ with
  |none=>.no
  |some false=>.nx ρ
  |some true=>match b ρ with
   | .nx ρ2=>i8 p b n ρ2
   | .ct ρ2=>i8 p b n ρ2
   | .bk ρ2=>.nx ρ2
   | .rt d ρ2=>.rt d ρ2
   | .no=>.no
theorem jR(n:Nat){p:FT}{tb:FS}(hp:PassesOwn (model X.prog X.w) X.A X.env X.xe)(hc:DT X c e p)(hb:qU X c k body tb):DS X c k (.While e body [] pos) (i8 p tb n):=λρ=>
 PS.imp (wT hp (CS λz:bj×aC=>hc z.1 z.2) (lV λρ=>hb ρ)) λD σ H hq_=>by
  obtain⟨hid,sr,q⟩:=hq_
  refine⟨λm σ H=> ∃hid2 ρ2,SR X.K c hid2 ρ2 σ H/\EndOk X.K c k D (vw H hid2) (i8 p tb m ρ2),⟨n,hid,ρ,sr,q⟩,?_⟩
  rintro m σ2 H2 ⟨hid2,ρ2,s2,q2⟩
  cases m with
  |zero=>exact q2.elim
  |succ m=>
   unfold i8 at q2;cases e1:p ρ2 with
   |none=>rw[e1] at q2;exact q2.elim
   |some b=>
    rw[e1] at q2;refine⟨(hid2,ρ2),s2,b,e1,λH3 s3=>?_⟩
    cases b with
    |false=>exact uN (q2 σ2 H3 hid2 (s2.ext s3) (aK s3))
    |true=>
     refine ux ⟨λσ' H'=> ∃hid3 ρ3,SR X.K c hid3 ρ3 σ' H'/\EndOk X.K c k D (vw H' hid3) (i8 p tb m ρ3),λσ' H' n3=>⟨m,Nat.lt_succ_self _,n3⟩,ρ2,hid2,s2.ext s3,?_⟩
     have w3:Same (vw H2 hid2) (vw H3 hid2):=aK s3
     dsimp only at q2;cases e4:tb ρ2 with
     |nx ρ5=>rw[e4] at q2;exact λσ' H' hid' z w=>⟨hid',ρ5,z,EndOk.mono q2 (w3.trans w)⟩
     |ct ρ5=>rw[e4] at q2;exact λσ' H' hid' z w=>⟨hid',ρ5,z,EndOk.mono q2 (w3.trans w)⟩
     |bk ρ5=>rw[e4] at q2;exact λσ' H' hid' z w=>q2 σ' H' hid' z (w3.trans w)
     |rt d ρ5=>rw[e4] at q2;exact q2
     |no=>rw[e4] at q2;exact q2.elim
end
def gA(n:Nat)(ds:List D):aC:=ds.map Sl.v++List.replicate (n-ds.length) .no
def iL(kd:Kd)(n:Nat)(t:FS)(ds:List D):Option D:=match t (gA n ds) with
 | .rt d _=>some d
 | .nx _=>(match kd with
   | .n=>none
   |_=>some .non)
 |_=>none
def oE(n:Nat)(bs ds:List D):aC:=.arg bs::(ds.map Sl.v++List.replicate (n-1-ds.length) .no)
def m6:aC->Option (List D)
 | .arg bs::_=>some bs
 |_=>none
def uV(kd:Kd)(n:Nat)(t:FS)(bs ds:List D):Option (D×List D):=match t (oE n bs ds) with
 | .rt d ρ=>(m6 ρ).map λb=>(d,b)
 | .nx ρ=>(match kd with
   | .n=>none
   |_=>(m6 ρ).map λb=>(.non,b))
 |_=>none
theorem rG {K:W.Frag}{c:Ct}{hid:bj}{H:Hp}(m:Nat): ∀ {vs:List V} {ds:List D},Reps K (vw H hid) vs ds-> ∀(i:Nat) (s:Sl),(ds.map Sl.v++List.replicate m .no)[i]? =some s->SlOk K c hid (vs.map some++List.replicate m none) H i s:=by
 intro vs ds r i s e;have hl:=r.length
 by_cases hi:i<ds.length
 ·rw[List.getElem?_append_left (by simpa using hi),List.getElem?_map] at e
  have e2:ds[i]? =some ds[i]:=List.getElem?_eq_getElem hi
  rw[e2] at e;cases e
  obtain⟨x,h1,h2⟩:=r.get e2
  exact⟨x,by rw[List.getElem?_append_left (by simp;omega),List.getElem?_map,h1];rfl,h2⟩
 ·rw[List.getElem?_append_right (by simpa using hi),List.getElem?_replicate] at e
  split at e
  ·cases e;trivial
  ·cases e
theorem xL {ds:List D}{m i:Nat}: ¬Ow (ds.map Sl.v++List.replicate m Sl.no)[i]? :=λo=>by
 by_cases hi:i<ds.length
 ·rw[List.getElem?_append_left (by simpa using hi),List.getElem?_map,List.getElem?_eq_getElem hi] at o
  exact o
 ·rw[List.getElem?_append_right (by simpa using hi),List.getElem?_replicate] at o
  split at o<;>exact o
theorem SR.begins {K:W.Frag}{hid:bj}{H:Hp}{N:List Str}{vs:List V}{ds:List D}(tr:zB hid H)(r:Reps K (vw H hid) vs ds):SR K ⟨H,hid,λ_=>false⟩ hid (gA N.length ds) (start N vs) H:=by
 have hl:=r.length
 unfold start gA;rw[hl];exact⟨tr.1,tr.2,λ_ h=>h,λ_ _ h _=>h,λb o h=>⟨o,h⟩,tr.1,(λ_ h=>nomatch h),by simp[hl],λi s e=>rG _ r i s e,λi j a _ o=>absurd o xL⟩
section
variable {P:Program}{w:World}{K:W.Frag}{mg:Str->Option Value}{base:Heap}{x qual:Str}{st:Stmt}{f:Addr}{fd:FuncData}{N ps:List Str}{k:Nat}{t:FS}{kd:Kd}
theorem uf(F:Fun K x qual st f fd)(S:FnScope N ps (aj st))(hkd:kd≠ .b)
 (body: ∀(cdv:Value) (A:Around) (outer:List Env) (s:Shared) (H:Hp) (hid:bj) (E:XK),Room k (A.deeper (envOfC qual (aj st) s.heap.objs.size f cdv))->
   qU (kE mY P w K mg base N qual (aj st) f cdv A outer s H E).nox ⟨H,hid,λ_=>false⟩ kd (aJ st) t):
 FnOk P w K mg base mY (k+1) f fd ps (fA K kd ps.length (iL kd N.length t)):=by
 refine F.ok S (λvs H Q E h=>?_) (λcdv A outer s H vs Q E hr h=>?_)
 ·obtain⟨hid,ds,_,r,hl,_⟩:=h
  rw[r.length,hl]
 ·obtain⟨hid,ds,tr,r,hl,d,hP,q⟩:=h
  refine⟨_,body cdv A outer s H hid E hr (gA N.length ds),hid,SR.begins tr r,?_⟩
  unfold iL at hP;cases e:t (gA N.length ds) with
  |nx ρ=>
   rw[e] at hP;intro σ' H' hid' sr _;have sm:Same H H':=λb o z=>sr.kp b o z rfl
   cases kd with
   |b=>exact absurd rfl hkd
   |s=>cases hP;exact q _ H' sm .non
   |n=>cases hP
  |rt d' ρ=>
   rw[e] at hP;cases hP
   intro v H' R;have sm:Same H H':=λb o z=>R.kp b o z rfl
   cases kd with
   |b=>exact absurd rfl hkd
   |s=>exact q v H' sm R.val
   |n=>exact q v H' sm R.val
  |bk ρ=>rw[e] at hP;cases hP
  |ct ρ=>rw[e] at hP;cases hP
  |no=>rw[e] at hP;cases hP
theorem SR.beginsE {hid:bj}{H:Hp}{a:Addr}{xs us:List V}{bs ds:List D}(tr:zB hid H)(ha:hid a=true)(hx:H a=some (.lst xs))(rb:Reps K (vw H hid) xs bs)(r:Reps K (vw H hid) us ds)(hN:0<N.length):
 SR K ⟨H,hid,λb=>decide (b=a)⟩ hid (oE N.length bs ds) (start N (.ref a::us)) H:=by
 have hl:=r.length
 have es:start N (.ref a::us)=some (V.ref a)::(us.map some++List.replicate (N.length-1-ds.length) none):=by
  unfold start;rw[List.map_cons,List.cons_append,List.length_cons,hl];congr 3
  omega
 rw[es];unfold oE;refine⟨tr.1,tr.2,λ_ h=>h,λ_ _ h _=>h,λb o h=>⟨o,h⟩,tr.1,λb h=>?_,by simp[hl],λi s e=>?_,λi j z n o1 o2 q1 q2=>?_⟩
 ·have:b=a:=by simpa using h
  rw[this];exact ha
 ·cases i with
  |zero=>
   cases e
   exact⟨a,xs,rfl,hx,ha,by simp,rb⟩
  |succ i=>
   have z:=rG (c:=⟨H,hid,λb=>decide (b=a)⟩) (N.length-1-ds.length) r i s (by simpa using e)
   cases s with
   |no=>trivial
   |v d=>obtain⟨x,h1,h2⟩:=z;exact⟨x,by simpa using h1,h2⟩
   |own ds=>obtain⟨x,xs,h1,h2⟩:=z;exact⟨x,xs,by simpa using h1,h2⟩
   |arg ds=>obtain⟨x,xs,h1,h2⟩:=z;exact⟨x,xs,by simpa using h1,h2⟩
   |ob b=>obtain⟨x,h1,h2⟩:=z;exact⟨x,by simpa using h1,h2⟩
 ·cases i with
  |zero=>
   cases j with
   |zero=>exact n rfl
   |succ j=>exact xL (by simpa using o2)
  |succ i=>exact xL (by simpa using o1)
theorem ur {ρ:aC}{b:List D}(h:m6 ρ=some b):ρ[0]? =some (.arg b):=by
 unfold m6 at h;split at h
 ·cases h;rfl
 ·cases h
theorem Bb {n:Nat}(F:Fun K x qual st f fd)(S:FnScope N ps (aj st))(hkd:kd≠ .b)(hn:ps.length=n+1)
 (body: ∀(cdv:Value) (A:Around) (outer:List Env) (s:Shared) (H:Hp) (hid:bj) (a:Addr) (E:XK),Room k (A.deeper (envOfC qual (aj st) s.heap.objs.size f cdv))->
   qU (kE mY P w K mg base N qual (aj st) f cdv A outer s H E).nox ⟨H,hid,λb=>decide (b=a)⟩ kd (aJ st) t):
 FnOk P w K mg base mY (k+1) f fd ps (uq K kd n (uV kd N.length t)):=by
 refine F.ok S (λvs H Q E h=>?_) (λcdv A outer s H vs Q E hr h=>?_)
 ·obtain⟨hid,a,xs,bs,us,ds,rfl,_,_,_,_,r,hl,_⟩:=h
  rw[List.length_cons,r.length,hl,hn]
 ·obtain⟨hid,a,xs,bs,us,ds,rfl,tr,ha,hx,rb,r,hl,d,bs',hM,q⟩:=h
  have hN:0<N.length:=by have:=congrArg List.length S.pre;rw[List.length_take] at this;omega
  refine⟨_,body cdv A outer s H hid a E hr (oE N.length bs ds),hid,SR.beginsE tr ha hx rb r hN,?_⟩
  have fin: ∀(v:V) (H':Hp) (ρ:aC) (d:D),Ret K ⟨H,hid,λb=>decide (b=a)⟩ kd ρ H' v d->m6 ρ=some bs'->(∀v H' xs',(∀b o,H b=some o->b≠a->H' b=some o)->H' a=some (.lst xs')->B7 K kd hid H H' v d xs' bs'->Q v H')->Q v H':=by
   intro v H' ρ d R h0 q;obtain⟨a',xs',m1,m2,m3⟩:=R.arg 0 _ (ur h0)
   have:a'=a:=by simpa using m1
   subst this;refine q v H' xs' (λb o z n=>R.kp b o z (by simpa using n)) m2 ?_
   cases kd with
   |b=>exact absurd rfl hkd
   |s=>exact⟨R.val,m3⟩
   |n=>
    obtain⟨p,ys,es,rfl,rfl,h1,h2,h3⟩:=R.val
    exact⟨p,ys,es,rfl,rfl,h1,h2,h3,m3⟩
  unfold uV at hM;cases e:t (oE N.length bs ds) with
  |nx ρ=>
   rw[e] at hM;intro σ' H' hid' sr _;cases kd with
   |b=>exact absurd rfl hkd
   |s=>
    dsimp only at hM;cases e0:m6 ρ with
    |none=>rw[e0] at hM;cases hM
    |some b=>
     rw[e0] at hM;cases hM;exact fin .non H' ρ .non (zp (k:=.s) (by decide) (sr.post (k:=.s) (Same.refl _) .non (by decide)) sr.h0) e0 q
   |n=>cases hM
  |rt d' ρ=>
   rw[e] at hM;dsimp only at hM;cases e0:m6 ρ with
   |none=>rw[e0] at hM;cases hM
   |some b=>
    rw[e0] at hM;cases hM;intro v H' R;exact fin v H' ρ _ R e0 q
  |bk ρ=>rw[e] at hM;cases hM
  |ct ρ=>rw[e] at hM;cases hM
  |no=>rw[e] at hM;cases hM
end
def sX(K:W.Frag):Sp:=λvs H Q _=> ∃(a:Addr) (ns:List Int),vs=[.ref a]/\SqR K H a (ns.map V.int)/\ns.length<=63/\ ∀H',Q (.bl true) H'
theorem nX {K:W.Frag}{F:Hp}: ∀ns:List Int,Reps K F (ns.map V.int) (ns.map D.int)
 | []=>.nil
 |_::r=>.cons .int (nX r)
theorem z8 {P:Program}{w:World}{K:W.Frag}{mg:Str->Option Value}{base:Heap}{f:Addr}{fd:FuncData}{x:Str}{k:Nat}{M:List D->Option D}(F:FnOk P w K mg base mY k f fd [x] (fA K .s 1 M))(hM: ∀ns:List Int,ns.length<=63->M [.scr (ns.map D.int)]=some (.bl true)):
 FnOk P w K mg base mY k f fd [x] (sX K):=F.imp λvs H Q E hq_=>by
 obtain⟨a,ns,e,hS,hl,q⟩:=hq_
 subst e;have hv:vw H (λ_=>false)=H:=by funext b;unfold vw;simp
 refine⟨λ_=>false,[.scr (ns.map D.int)],⟨(λb h=>nomatch h),(λb xs h=>nomatch h)⟩,?_,rfl,.bl true,hM ns hl,λv H' _ r=>?_⟩
 ·rw[hv];exact .cons (.scr hS (nX ns)) .nil
 ·cases r;exact q H'
theorem walkD {l:W.OpenLaw}{k:Nat}{x:Str}{q:Program}{loose:List Str}{XP:(Str->Option Value)->Heap->Prop}{YP:World->Heap->Prop}{d:DefRec}{K:Params->W.Frag}(hn:l.most=some 63)(hdf:d.params.defaults=[])(hr:Room k callerA)
 (hY: ∀(w:World) (h:Heap),YP w h->(K w.params).In h)
 (F: ∀(w:World) (mg:Str->Option Value) (fa:Addr) (h:Heap),(K w.params).In h->h.Ns mainGlobals mg->mg d.name=some (.ref fa)->
   ∃fd:FuncData,(∀(s:Shared) (u:Value),BindsTo s fd ⟨[u],[]⟩ [(x,u)])/\ ∀base:Heap,(K w.params).In base->base.Ns mainGlobals mg->FnOk l.prog w (K w.params) mg base mY k fa fd [x] (sX (K w.params))):
 W.WalkO q loose XP YP l.row.toRowW d [] (λf vs=>PySem.call f vs):=
 L2.walk_of (n:=63) (k:=k) (x:=x) (CX:=λ_=>mY) (sp:=λw=>sX (K w.params)) hn (by decide) hdf hr hY F (λ_ H a ns hl hO hS=>⟨a,ns,rfl,hS.elim (λr=>r.elim (λe=>by rcases hO a with z|⟨o,xs,z⟩<;>rw[z] at e<;>cases e) .inl) .inr,hl,λ_=>rfl⟩) λ_ _ _ _ _ z=>z
def pr(cells:List (Str×Addr)):List (Str×NameKind)->List (Str×Addr)->List (Str×Addr)
 | [],acc=>acc
 |(n,k)::r,acc=>pr cells r (if k== .free then(match cells.lookup n with
  |some c=>(n,c)::acc
  |none=>acc) else acc)
theorem pg {cells:List (Str×Addr)}: ∀ {names:List (Str×NameKind)} {acc:List (Str×Addr)},(∀p∈acc,cells.lookup p.1=some p.2)-> ∀p∈pr cells names acc,cells.lookup p.1=some p.2
 | [],acc,h,p,hp=>h p hp
 |(n,k)::r,acc,h,p,hp=>by
  refine pg (names:=r) ?_ p hp
  intro q hq;split at hq
  ·split at hq
   ·rename_i c e
    rcases List.mem_cons.mp hq with rfl|hq
    ·exact e
    ·exact h q hq
   ·exact h q hq
  ·exact h q hq
theorem qT {cells:List (Str×Addr)}: ∀ {names:List (Str×NameKind)} {acc:List (Str×Addr)} (p:Str×Addr),p∈pr cells names acc->p∈acc\/(p.1,NameKind.free)∈names
 | [],acc,p,hp=>.inl hp
 |(n,k)::r,acc,p,hp=>by
  rcases qT (names:=r) p hp with hq|hq
  ·split at hq
   ·rename_i ek
    split at hq
    ·rcases List.mem_cons.mp hq with e|hq
     ·subst e
      have:k=.free:=by simpa using ek
      subst this;exact .inr List.mem_cons_self
     ·exact .inl hq
    ·exact .inl hq
   ·exact .inl hq
  ·exact .inr (List.mem_cons_of_mem _ hq)
theorem qM {cells:List (Str×Addr)}: ∀ {names:List (Str×NameKind)} {acc:List (Str×Addr)} {p:Str×Addr},p∈acc->p∈pr cells names acc
 | [],acc,p,h=>h
 |(n,k)::r,acc,p,h=>by
  refine qM (names:=r) ?_
  split
  ·split
   ·exact List.mem_cons_of_mem _ h
   ·exact h
  ·exact h
theorem sQ {cells:List (Str×Addr)}{x:Str}{c:Addr}(hc:cells.lookup x=some c): ∀ {names:List (Str×NameKind)} {acc:List (Str×Addr)},(x,NameKind.free)∈names->(x,c)∈pr cells names acc
 | [],_,h=>nomatch h
 |(n,k)::r,acc,h=>by
  rcases List.mem_cons.mp h with e|h
  ·cases e
   refine qM (names:=r) ?_
   rw[if_pos (by rfl),hc]
   exact List.mem_cons_self
  ·exact sQ hc (names:=r) h
theorem ng {l:List (Str×Addr)}{x:Str}{c:Addr}(h:(x,c)∈l)(u: ∀p∈l,p.1=x->p.2=c):l.lookup x=some c:=by
 induction l with
 |nil=>exact nomatch h
 |cons p r ih=>
  obtain⟨n,a⟩:=p
  rw[List.lookup_cons];cases e:x==n with
  |true=>
   have e':x=n:=eq_of_beq e
   have:=u (n,a) List.mem_cons_self e'.symm
   simpa using this
  |false=>
   have ne:x≠n:=λe'=>by rw[e'] at e;simp at e
   rcases List.mem_cons.mp h with e'|h
   ·cases e';exact absurd rfl ne
   ·exact ih h λp hp=>u p (List.mem_cons_of_mem _ hp)
theorem rE {cells:List (Str×Addr)}{names:List (Str×NameKind)}{x:Str}{c:Addr}(h:(pr cells names []).lookup x=some c):cells.lookup x=some c:=
 pg (names:=names) (acc:=[]) (λ_ z=>nomatch z) (x,c) (PySem.mem_of_lookup h)
theorem kO {cells:List (Str×Addr)}{names:List (Str×NameKind)}{x:Str}{c:Addr}(hc:cells.lookup x=some c)(hf:(x,NameKind.free)∈names):(pr cells names []).lookup x=some c:=
 ng (sQ hc hf) λp hp e=>by
  have:=pg (names:=names) (acc:=[]) (λ_ z=>nomatch z) p hp
  rw[e,hc] at this;exact(Option.some.inj this).symm
theorem fX {scope:Scope}{env:Env}(h: ∀x,(x,NameKind.free)∈scope.names-> ∃c,env.cells.lookup x=some c):closureFor scope env=pure (pr env.cells scope.names []):=by
 unfold closureFor;have key: ∀(names:List (Str×NameKind)) (acc:List (Str×Addr)),(∀x,(x,NameKind.free)∈names-> ∃c,env.cells.lookup x=some c)->
  (forIn names acc (λ(p:Str×NameKind) (r:List (Str×Addr))=>match p with
    |(name,kind)=>if(kind==NameKind.free)=true then do
       let __do_lift <-cellOf env name
       pure (ForInStep.yield ((name,__do_lift)::r)) else pure (ForInStep.yield r)):Sem (List (Str×Addr)))=pure (pr env.cells names acc):=by
  intro names
  induction names with
  |nil=>intro acc _;rfl
  |cons p r ih=>
   intro acc h;obtain⟨n,k⟩:=p
   rw[List.forIn_cons];have hr: ∀x,(x,NameKind.free)∈r-> ∃c,env.cells.lookup x=some c:=λx hx=>h x (List.mem_cons_of_mem _ hx)
   cases e:k==NameKind.free with
   |false=>
    simp only[e,Bool.false_eq_true,if_false,pure_bind];rw[ih acc hr]
    conv=>rhs;unfold pr
    simp[e]
   |true=>
    have ek:k=.free:=by simpa using e
    subst ek;obtain⟨c,hc⟩:=h n List.mem_cons_self
    have ec:cellOf env n=pure c:=by unfold cellOf;rw[hc]
    simp only[beq_self_eq_true,if_true,ec,pure_bind];rw[ih _ hr]
    conv=>rhs;unfold pr
    simp[hc]
 have:=key scope.names [] h
 simp only[this,pure_bind]
theorem gP {sc:Scope}{env:Env}{x:Str}{k:NameKind}(h:(relabel sc env).names.lookup x=some k): ∃k0,sc.names.lookup x=some k0/\(k=k0\/(k0=.free/\k=.cell)):=by
 unfold relabel at h;dsimp only at h
 generalize sc.names=l at h⊢
 induction l with
 |nil=>simp at h
 |cons p r ih=>
  obtain⟨n,k1⟩:=p
  rw[List.map_cons] at h;dsimp only at h;rw[List.lookup_cons];cases hx:x==n with
  |true=>
   refine⟨k1,rfl,?_⟩
   split at h
   ·rename_i hc
    rw[List.lookup_cons] at h;simp only[hx] at h;cases h
    have:k1=.free:=by
     simp only[Bool.and_eq_true] at hc;exact eq_of_beq hc.1.1
    exact .inr ⟨this,rfl⟩
   ·rw[List.lookup_cons] at h
    simp only[hx] at h;cases h
    exact .inl rfl
  |false=>
   split at h
   ·rw[List.lookup_cons] at h;simp only[hx] at h;exact ih h
   ·rw[List.lookup_cons] at h;simp only[hx] at h;exact ih h
def mB(cells:List (Str×Addr))(scope:Scope)(C:Addr):List (Str×Addr):=cellsFrom (C+1) scope.names (pr cells scope.names [])
theorem bo: ∀(names:List (Str×NameKind)) (n:Nat) (acc:List (Str×Addr)),cellsFrom n names acc=cellsFrom n names []++acc
 | [],_,_=>rfl
 |(name,kind)::r,n,acc=>by
  unfold cellsFrom;split
  ·rw[bo r (n+1) ((name,n)::acc),bo r (n+1) [(name,n)],List.append_assoc];rfl
  ·exact bo r n acc
theorem oz: ∀ {names:List (Str×NameKind)} {n:Nat} {p:Str×Addr},p∈cellsFrom n names []->(p.1,NameKind.cell)∈names
 | [],_,_,h=>nomatch h
 |(name,kind)::r,n,p,h=>by
  unfold cellsFrom at h;split at h
  ·rename_i hk
   have hk':kind=.cell:=by simpa using hk
   subst hk';rw[bo] at h;rcases List.mem_append.mp h with h|h
   ·exact List.mem_cons_of_mem _ (oz h)
   ·rw[List.mem_singleton.mp h];exact List.mem_cons_self
  ·exact List.mem_cons_of_mem _ (oz h)
theorem kr: ∀ {names:List (Str×NameKind)} {n:Nat} {x:Str},(x,NameKind.cell)∈names-> ∃c,(x,c)∈cellsFrom n names []
 | [],_,_,h=>nomatch h
 |(name,kind)::r,n,x,h=>by
  unfold cellsFrom;rcases List.mem_cons.mp h with e|h
  ·cases e
   rw[if_pos (by rfl),bo]
   exact⟨n,List.mem_append_right _ List.mem_cons_self⟩
  ·split
   ·obtain⟨c,hc⟩:=kr (n:=n+1) h
    rw[bo];exact⟨c,List.mem_append_left _ hc⟩
   ·exact kr h
theorem rY {l:List (Str×Addr)}{x:Str}{c:Addr}(h:(x,c)∈l): ∃c',l.lookup x=some c':=by
 induction l with
 |nil=>exact nomatch h
 |cons p r ih=>
  obtain⟨n,a⟩:=p
  rw[List.lookup_cons];cases e:x==n with
  |true=>exact⟨a,rfl⟩
  |false=>
   rcases List.mem_cons.mp h with e'|h
   ·cases e';simp at e
   ·exact ih h
theorem eR {cells:List (Str×Addr)}{sc:Scope}{C:Addr}{x:Str}{c:Addr}(h:(mB cells sc C).lookup x=some c):(x,c)∈cellsFrom (C+1) sc.names []\/(pr cells sc.names []).lookup x=some c:=by
 unfold mB at h;rw[bo,List.lookup_append] at h;cases e:(cellsFrom (C+1) sc.names []).lookup x with
 |none=>rw[e] at h;exact .inr h
 |some c'=>rw[e] at h;cases h;exact .inl (PySem.mem_of_lookup e)
theorem vP {cells:List (Str×Addr)}{sc:Scope}{C:Addr}{x:Str}(h:(x,NameKind.cell)∈sc.names): ∃c,(mB cells sc C).lookup x=some c:=by
 obtain⟨c,hc⟩:=kr (n:=C+1) h
 obtain⟨c',e⟩:=rY hc
 exact⟨c',by unfold mB;rw[bo,List.lookup_append,e];rfl⟩
theorem qS {cells:List (Str×Addr)}{sc:Scope}{C:Addr}{x:Str}(h:(x,NameKind.cell)∉sc.names):(mB cells sc C).lookup x=(pr cells sc.names []).lookup x:=by
 unfold mB;rw[bo,List.lookup_append];cases e:(cellsFrom (C+1) sc.names []).lookup x with
 |none=>rfl
 |some c'=>exact absurd (oz (PySem.mem_of_lookup e)) h
theorem tq {M:Model}{A:Around}{E:Value->Shared->Prop}{s:Shared}{scope:Scope}{globals:Addr}{closure:List (Str×Addr)}{qual:Str}{outer:Env}{Q:Env->Shared->Prop}
 (hQ: ∀h',h'.Ns s.heap.objs.size (λ_=>none)->(∀b o,s.heap.get? b=some o->h'.get? b=some o)->CellsOk h' (s.heap.objs.size+1) (cellsFrom (s.heap.objs.size+1) scope.names [])->
   Q (newEnv scope s.heap.objs.size globals (cellsFrom (s.heap.objs.size+1) scope.names closure) qual none .none (some outer) builtinsNs) {s with heap:=h',toks:=s.toks}):
 wpAny M A (newFunctionEnv scope globals closure [] qual none .none (some outer)) Q E s:=by
 simp only[newFunctionEnv,Option.isSome_some,if_true];refine wpAny_bind (wpAny_alloc ?_)
 refine wpAny_bind (wpAny_layCells _ (λname kind cells=>by cases hkc:kind==NameKind.cell<;>simp[hkc]) _ _ _ _ ?_)
 have ok:=cellsFrom_ok scope.names (s.heap.push {cls:=.type "dict",data:=.dict #[]}) (s.heap.objs.size+1) [] ⟨λ_ _ hm=>(nomatch hm),List.Pairwise.nil⟩ (by rw[Heap.size_push];exact Nat.le_refl _)
 rw[Heap.size_push] at ok;rw[show({s with heap:=s.heap.push {cls:=.type "dict",data:=.dict #[]}}:Shared).heap.objs.size=s.heap.objs.size+1 from Heap.size_push ..]
 rw[List.forIn_nil];refine wpAny_bind (wpAny_pure (wpAny_pure ?_))
 exact hQ _ ((Heap.Ns.new s.heap (.type "dict")).keeps (pushCells_keeps _ _)) (λb o e=>pushCells_keeps _ _ b o (Heap.get?_push_of_some _ e)) ok
def aM(X:Cx)(N':List Str)(scope:Scope)(C:Addr)(s₀:Shared)(H₀:Hp)(ex:List Addr):Cx where
 prog:=X.prog
 w:=X.w
 K:=X.K
 mg:=X.mg
 base:=X.base
 A:=X.A
 N:=N'
 s₀:=s₀
 H₀:=H₀
 env:=compEnvC scope (mB X.env.cells scope C) C X.env
 outer:=X.stack
 stack:=X.stack
 ex:=ex
 fn:=λx=>scope.names.lookup x==some .local||scope.names.lookup x==some .cell
 calm:=X.calm
 pn:=[]
 xe:=λ_ _=>False
def u8(N N':List Str)(sc:Scope):Bool:=
 decide (N.length<=N'.length)&&((N'.take N.length).zip N).all (λp=>(p.1==p.2&& !(sc.names.lookup p.1==some .local)&& !(sc.names.lookup p.1==some .cell))||(sc.names.lookup p.1).isNone)&&
  (N'.drop N.length).all λx=>sc.names.lookup x==some .local||sc.names.lookup x==some .cell
def u7(sc:Scope)(outer:Scope):Bool:=
 sc.names.all λy=>(y.2 != .cell||sc.names.lookup y.1==some .cell)&&(y.2 != .local||sc.names.lookup y.1==some .local)&&(y.2 != .free||(sc.names.lookup y.1==some .free&&(outer.names.lookup y.1==some .cell||outer.names.lookup y.1==some .free)))
theorem qD {sc o:Scope}(h:u7 sc o=true): ∀y∈sc.names,y.2=.cell->sc.names.lookup y.1=some .cell:=λy hy e=>by
 have:=List.all_eq_true.mp h y hy
 simpa [e] using this
theorem kH {sc o:Scope}(h:u7 sc o=true): ∀y∈sc.names,y.2=.local->sc.names.lookup y.1=some .local:=λy hy e=>by
 have:=List.all_eq_true.mp h y hy
 simpa [e] using this
theorem im {sc o:Scope}(h:u7 sc o=true): ∀x,(x,NameKind.free)∈sc.names->o.names.lookup x=some .cell\/o.names.lookup x=some .free:=λx hx=>by
 have:=List.all_eq_true.mp h _ hx
 simpa using (by simpa using this:_/\_).2
theorem nU {sc o:Scope}(h:u7 sc o=true): ∀x,(x,NameKind.free)∈sc.names->sc.names.lookup x=some .free:=λx hx=>by
 have:=List.all_eq_true.mp h _ hx
 simpa using (by simpa using this:_/\_).1
theorem uw {N N':List Str}{sc:Scope}(h:u8 N N' sc=true){i:Nat}{x:Str}(hi:i<N.length)(e:N'[i]? =some x)(hv: ∃k,sc.names.lookup x=some k/\(k=.local\/k=.cell\/k=.free)):N[i]? =some x/\sc.names.lookup x=some .free:=by
 unfold u8 at h;simp only[Bool.and_eq_true,decide_eq_true_eq] at h;obtain⟨⟨h1,h2⟩,_⟩:=h
 have hN:N[i]? =some N[i]:=List.getElem?_eq_getElem hi
 have e1:(N'.take N.length)[i]? =some x:=by rw[List.getElem?_take_of_lt hi];exact e
 have hm:(x,N[i])∈(N'.take N.length).zip N:=by
  refine List.mem_of_getElem? (i:=i) ?_
  rw[List.getElem?_zip_eq_some];exact⟨e1,hN⟩
 have:=List.all_eq_true.mp h2 _ hm
 obtain⟨k,hk,hk2⟩:=hv
 dsimp only at this;rw[hk] at this;simp only[Option.isNone_some,Bool.or_false,Bool.and_eq_true,Bool.not_eq_true'] at this;obtain⟨⟨t1,t2⟩,t3⟩:=this
 have ex:x=N[i]:=eq_of_beq t1
 rcases hk2 with rfl|rfl|rfl
 ·simp at t2
 ·simp at t3
 ·exact⟨by rw[hN,<-ex],hk⟩
theorem yI {N N':List Str}{sc:Scope}(h:u8 N N' sc=true):N.length<=N'.length:=by
 unfold u8 at h;simp only[Bool.and_eq_true,decide_eq_true_eq] at h;exact h.1.1
section
variable {X:Cx}{ab:List (Addr×Obj)}{σ:St}{H:Hp}{s:Shared}{scope:Scope}{N':List Str}{fp:List Addr}
theorem uJ(I:Inv X ab σ H s){b:Addr}(f:iM X ab H b):b∉pA X.stack:=λz=>by
 rcases List.mem_cons.mp (I.stkSub b z) with e|z
 ·exact f.2.1 e
 ·exact f.2.2.1 z
theorem pT {h':Heap}{tk:Nat}(I:Inv X ab σ H s)(hF: ∀b∈fp,iM X ab H b)(hO: ∀b∈fp,∃o,s.heap.get? b=some o)(hk:scope.kind=.function)(hs:u7 scope X.env.scope=true)(hn:u8 X.N N' scope=true)
 (ns:h'.Ns s.heap.objs.size λ_=>none) (kp: ∀b o,s.heap.get? b=some o->h'.get? b=some o) (oc:CellsOk h' (s.heap.objs.size+1) (cellsFrom (s.heap.objs.size+1) scope.names [])):
 Inv (aM X N' scope s.heap.objs.size s H fp) [] (σ++List.replicate (N'.length-X.N.length) none) H {s with heap:=h',toks:=tk}:=by
 have hlen:=yI hn
 have cl: ∀x c,(pr X.env.cells scope.names []).lookup x=some c->X.env.cells.lookup x=some c:=λx c e=>rE e
 have clt: ∀x c,(pr X.env.cells scope.names []).lookup x=some c->c<s.heap.objs.size:=λx c e=>let⟨_,z⟩:=I.cell x c (cl x c e);z.lt
 have newC:H s.heap.objs.size=none:=I.hok.fresh (Nat.le_refl _)
 refine⟨⟨I.ok.mod,hk,I.ok.glob,I.ok.blt,Nat.le_refl _,λx y c h1 h2=>?_,λx hx=>?_,λx c h1 h2=>?_,I.ok.hd,I.ok.frames,.inl rfl,λb hb=>⟨?_,λx c e=>?_⟩,I.bs,Nat.le_trans I.ok.bsz I.sz,λb o e hb=>?_,λb hb=>uJ I (hF b hb),I.stack,I.stkFree⟩,
  rfl,I.bare,Un.kept kp,⟨_,ns,λi x v e1 e2 e3=>?_⟩,λx c e=>?_,newC,λx c e=>?_,λp hp=>absurd (show p∈([]:List (Addr×Obj)) from hp) (by simp),I.hok.kept kp,?_⟩
 ·
  rcases eR h1 with h1|h1<;>rcases eR h2 with h2|h2
  ·exact name_of_addr oc.apart h1 h2
  ·exact absurd (clt y c h2) (Nat.not_lt.mpr (Nat.le_of_succ_le (oc.empty _ _ h1).2))
  ·exact absurd (clt x c h1) (Nat.not_lt.mpr (Nat.le_of_succ_le (oc.empty _ _ h2).2))
  ·exact I.ok.inj x y c (cl x c h1) (cl y c h2)
 ·
  have hx':(relabel scope X.env).names.lookup x=some .cell\/(relabel scope X.env).names.lookup x=some .free:=hx
  have:(x,NameKind.cell)∈scope.names\/(x,NameKind.free)∈scope.names:=by
   rcases hx' with hx'|hx'
   ·obtain⟨k0,e0,e1|⟨e1,_⟩⟩:=gP hx'
    ·subst e1;exact .inl (PySem.mem_of_lookup e0)
    ·subst e1;exact .inr (PySem.mem_of_lookup e0)
   ·obtain⟨k0,e0,e1|⟨_,e1⟩⟩:=gP hx'
    ·subst e1;exact .inr (PySem.mem_of_lookup e0)
    ·cases e1
  rcases this with this|this
  ·exact vP this
  ·have hc:=im hs x this
   obtain⟨c,e⟩:=I.ok.has x hc
   exact⟨c,(qS λz=>by have z1:=qD hs _ z rfl;have z2:=nU hs x this;rw[z2] at z1;cases z1).trans (kO e this)⟩
 ·
  have h1':scope.names.lookup x=some .local\/scope.names.lookup x=some .cell:=by
   have h1:(scope.names.lookup x==some .local||scope.names.lookup x==some .cell)=true:=h1
   simpa using h1
  rcases eR h2 with h2|h2
  ·exact Nat.le_of_succ_le (oc.empty _ _ h2).2
  ·exfalso
   rcases qT _ (PySem.mem_of_lookup h2) with z|z
   ·exact nomatch z
   ·rw[nU hs x z] at h1';rcases h1' with h1'|h1'<;>cases h1'
 ·obtain⟨o,e⟩:=hO b hb
  exact Nat.ne_of_lt (Heap.lt_size e)
 ·rcases eR e with e|e
  ·obtain⟨o,e'⟩:=hO b hb
   exact λz=>absurd (Heap.lt_size e') (Nat.not_lt.mpr (z▸Nat.le_of_succ_le (oc.empty _ _ e).2))
  ·exact(hF b hb).2.2.2.2.1 x c (cl x c e)
 ·obtain⟨_,_,_,h4,_⟩:=hF b hb
  rcases h4 with h4|h4
  ·exact I.ok.noex b o e h4
  ·exact absurd (Nat.lt_of_lt_of_le (Heap.lt_size e) (Nat.le_trans I.ok.bsz h4)) (Nat.lt_irrefl _)
 ·have hi:i<X.N.length:=by
   by_cases hi:i<σ.length
   ·rw[<-I.len];exact hi
   ·rw[List.getElem?_append_right (by omega),List.getElem?_replicate] at e2
    split at e2<;>cases e2
  rw[List.getElem?_append_left (by rw[I.len];exact hi)] at e2
  have e3':(relabel scope X.env).names.lookup x=some .local\/(relabel scope X.env).names.lookup x=some .cell\/(relabel scope X.env).names.lookup x=some .free:=e3
  have hv: ∃k,scope.names.lookup x=some k/\(k=.local\/k=.cell\/k=.free):=by
   rcases e3' with z|z|z
   all_goals
    obtain⟨k0,q0,q1|⟨q1,q2⟩⟩:=gP z
    ·subst q1;exact⟨_,q0,by simp⟩
    ·subst q1;exact⟨_,q0,by simp⟩
  obtain⟨hN,hf⟩:=uw hn hi e1 hv
  have hfm:=PySem.mem_of_lookup hf
  have hc:=im hs x hfm
  have nc:(x,NameKind.cell)∉scope.names:=λz=>by have z1:=qD hs _ z rfl;rw[hf] at z1;cases z1
  obtain⟨m,hm,hl⟩:=I.loc
  obtain⟨u,r,l⟩:=hl i x v hN e2 (.inr hc)
  refine⟨u,r,.inr ⟨?_,?_⟩⟩
  ·show(relabel scope X.env).names.lookup x=some .cell\/(relabel scope X.env).names.lookup x=some .free
   rcases e3' with z|z|z
   ·obtain⟨k0,q0,q1|⟨q1,q2⟩⟩:=gP z
    ·subst q1;rw[hf] at q0;cases q0
    ·cases q2
   ·exact .inl z
   ·exact .inr z
  ·rcases l with⟨l,_⟩|⟨_,c,ec,z⟩
   ·have l':X.env.scope.names.lookup x=some .local:=l
    rcases hc with hc|hc<;>rw[hc] at l'<;>cases l'
   ·exact⟨c,(qS nc).trans (kO ec hfm),z.keeps kp⟩
 ·rcases eR e with e|e
  ·exact⟨_,(oc.empty _ _ e).1⟩
  ·obtain⟨v,z⟩:=I.cell x c (cl x c e)
   exact⟨v,z.keeps kp⟩
 ·rcases eR e with e|e
  ·exact I.hok.fresh (Nat.le_of_succ_le (oc.empty _ _ e).2)
  ·exact I.freeC x c (cl x c e)
 ·show(σ++_).length=N'.length
  rw[List.length_append,List.length_replicate,I.len];omega
end
def Dl(K:W.Frag)(c:Ct)(hid:bj)(f:FA)(ρ:aC):TI:=λσ H R=>SR K c hid ρ σ H/\ ∃ds,f ρ=some ds/\ ∀J H',Same H H'->ItOk K (vw H' hid) J ds->R J H'
def DIp(X:Cx)(c:Ct)(tg iter:Expr)(f:FA):Prop:= ∀hid ρ,PI X tg iter (Dl X.K c hid f ρ)
def Co {ι:Type}(IR:Hp->V->ι->Prop)(L W:Hp)(J:It)(ds:List ι):Prop:=
 (∀(i:Nat) (d:ι) (H:Hp),ds[i]? =some d->Same L H->Same W H->J.go i H/\ ∀x H',J.yld i H x H'->Same H H'/\ ∀hid:bj,(∀b,hid b=true-> ∃o,H b=some o)->Same W (vw H hid)->IR (vw H' hid) x d)/\ ∀H,Same L H->Same W H->J.stop ds.length H
abbrev Cr(K:W.Frag)(L W:Hp)(J:It)(ds:List D):Prop:=Co (Rep K) L W J ds
theorem ItOk.b {K:W.Frag}{L W:Hp}{J:It}{ds:List D}(h:ItOk K W J ds):Cr K L W J ds:=⟨λi d H e _ w=>h.1 i d H e w,λH _ w=>h.2 H w⟩
def Ec {ι:Type}(IR:Hp->V->ι->Prop)(K:W.Frag)(c:Ct)(hid:bj)(f:aC->Option (List ι))(ρ:aC):TI:=λσ H R=>SR K c hid ρ σ H/\ ∃ds,f ρ=some ds/\ ∀J H',Same H H'->Co IR H' (vw H' hid) J ds->R J H'
def Eh {ι:Type}(IR:Hp->V->ι->Prop)(X:Cx)(c:Ct)(tg iter:Expr)(f:aC->Option (List ι)):Prop:= ∀hid ρ,PI X tg iter (Ec IR X.K c hid f ρ)
abbrev Bs(X:Cx)(c:Ct)(tg iter:Expr)(f:FA):Prop:=Eh (Rep X.K) X c tg iter f
section
variable {X:Cx}{c:Ct}{k:Kd}{tg iter:Expr}{pos:Pos}
theorem DIp.b {f:FA}(h:DIp X c tg iter f):Bs X c tg iter f:=λhid ρ=>PI.imp (h hid ρ) λσ H R ⟨sr,ds,e,q⟩=>⟨sr,ds,e,λJ H' s io=>q J H' s io.b⟩
theorem DIp.e {f:FA}(h:DIp X c tg iter f):DI X c tg iter (cg f):=λhid ρ=>PI.imp (h hid ρ) λσ H R hq_=>by
 obtain⟨sr,ds,ρ',e,q⟩:=hq_
 obtain⟨e1,rfl⟩:=mr e
 exact⟨sr,ds,e1,λJ H' s io=>q J H' (.of s) (sr.ext s) io⟩
def jn(f:FE):FA:=λρ=>(f ρ).bind λd=>match d with
 | .lst ds=>some ds
 |_=>none
def yy(f:FE):FA:=λρ=>(f ρ).bind λd=>match d with
 | .tup ds=>some ds
 |_=>none
theorem nN {f:FE}{ρ:aC}{ds:List D}(h:jn f ρ=some ds):f ρ=some (.lst ds):=by
 unfold jn at h;cases e:f ρ with
 |none=>rw[e] at h;cases h
 |some d=>
  rw[e] at h;cases d with
  |lst z=>cases h;rfl
  |_=>cases h
theorem uG {f:FE}{ρ:aC}{ds:List D}(h:yy f ρ=some ds):f ρ=some (.tup ds):=by
 unfold yy at h;cases e:f ρ with
 |none=>rw[e] at h;cases h
 |some d=>
  rw[e] at h;cases d with
  |tup z=>cases h;rfl
  |_=>cases h
theorem wA {K:W.Frag}{W:Hp}{a:Addr}{xs:List V}{ds:List D}(h1:SqL K W a xs)(h2:Reps K W xs ds):ItOk K W (Dr K a) ds:=by
 refine⟨λi d H e s=>?_,λH s=>⟨_,s.seq h1,by rw[h2.length];exact Nat.le_refl _⟩⟩
 obtain⟨x,e1,r1⟩:=h2.get e
 refine⟨⟨_,x,s.seq h1,e1⟩,λy H' ⟨e2,e3⟩=>?_⟩
 subst e2;have:=e3 _ (s.seq h1)
 rw[e1] at this;cases this;exact⟨Same.refl _,λhid _ sw=>r1.mono sw⟩
theorem v9 {f:FE}(h:DP X c .s iter f):DIp X c tg iter (jn f):=λhid ρ=>PI.imp (oj (h hid ρ)) λσ H R hq_=>by
 obtain⟨sr,ds,e,q⟩:=hq_
 refine⟨sr,_,nN e,λv H' s' r=>?_⟩
 cases r with
 |lst h1 h2=>have h1:=SqL.of (K:=X.K) h1;exact⟨_,rfl,⟨_,(dU _ _).seq h1⟩,q _ H' s' (wA h1 h2)⟩
theorem me {f:FE}(h:DP X c .b iter f):Bs X c tg iter (jn f):=λhid ρ=>PI.imp (oj (h hid ρ)) λσ H R hq_=>by
 obtain⟨sr,ds,e,q⟩:=hq_
 refine⟨sr,_,nN e,λv H' s' r=>?_⟩
 obtain⟨a,xs,rfl,h1,h2⟩:=Rep1.lst r
 refine⟨a,rfl,⟨_,h1⟩,q _ H' s' ⟨λi d H e s w=>?_,λH s w=>⟨_,s.seq h1,by rw[h2.length];exact Nat.le_refl _⟩⟩⟩
 obtain⟨x,e1,r1⟩:=h2.get e
 refine⟨⟨_,x,s.seq h1,e1⟩,λy H' ⟨e2,e3⟩=>?_⟩
 subst e2;have:=e3 _ (s.seq h1)
 rw[e1] at this;cases this;exact⟨Same.refl _,λhid _ sw=>r1.mono sw⟩
theorem yX {f:FE}(h:DP X c .s iter f):DIp X c tg iter (yy f):=λhid ρ=>PI.imp (A1 (h hid ρ)) λσ H R hq_=>by
 obtain⟨sr,ds,e,q⟩:=hq_
 refine⟨sr,_,uG e,λv H' s' r=>?_⟩
 cases r with
 |tup h1 h2=>exact⟨_,rfl,⟨_,Same.seqT (dU _ _) h1⟩,q _ H' s' (w8 h1 h2)⟩
def aZ(f:FA):FA:=λρ=>(f ρ).bind λds=>match ds with
 | [.int j]=>if j.natAbs<4000000000 then some (qy 0 j.toNat) else none
 |_=>none
def jI(f:FA):FA:=λρ=>(f ρ).bind λds=>match ds with
 | [.int i,.int j]=>if i.natAbs<4000000000/\j.natAbs<4000000000 then some (qy i (j-i).toNat) else none
 |_=>none
theorem aW {a:Expr}{f:FA}{p:Pos}(hm:X.mg "range"=none)(ha:DA X c [a] f)(hg:Gl X "range":=by rfl)(hs:starEach [a] X.env=[(false,eval a X.env)]:=by rfl):DIp X c tg (.Call (.Name "range" p) [a] [] pos) (aZ f):=λhid ρ=>
 PI.imp (u0 hg hm (ha hid ρ) hs) λσ H R hq_=>by
  obtain⟨sr,ds,e,q⟩:=hq_
  unfold aZ at e;cases e1:f ρ with
  |none=>rw[e1] at e;cases e
  |some z=>
   rw[e1] at e;dsimp only[Option.bind] at e;split at e
   ·split at e
    ·cases e
     refine⟨sr,_,e1,λvs H' s' r=>?_⟩
     cases r with
     |cons r t=>cases t;cases r;exact⟨_,rfl,by omega,by omega,q _ H' s' mi⟩
    ·cases e
   ·cases e
theorem lP {a b:Expr}{f:FA}{p:Pos}(hm:X.mg "range"=none)(ha:DA X c [a,b] f)(hg:Gl X "range":=by rfl)(hs:starEach [a,b] X.env=[(false,eval a X.env),(false,eval b X.env)]:=by rfl)(hs2:starEach [b] X.env=[(false,eval b X.env)]:=by rfl):DIp X c tg (.Call (.Name "range" p) [a,b] [] pos) (jI f):=λhid ρ=>
 PI.imp (uU hg hm (ha hid ρ) hs hs2) λσ H R hq_=>by
  obtain⟨sr,ds,e,q⟩:=hq_
  unfold jI at e;cases e1:f ρ with
  |none=>rw[e1] at e;cases e
  |some z=>
   rw[e1] at e;dsimp only[Option.bind] at e;split at e
   ·split at e
    ·cases e
     refine⟨sr,_,e1,λvs H' s' r=>?_⟩
     cases r with
     |cons r t=>cases t with
      |cons r' t=>cases t;cases r;cases r';exact⟨_,_,rfl,by omega,q _ H' s' mi⟩
    ·cases e
   ·cases e
def jC(ifs:List Expr)(env:Env):Sem Bool:=forIn ifs true λc r=>if r=true then do let ok <-isTrue c env (eval c env);pure (ForInStep.yield ok) else pure (ForInStep.yield r)
def tM(X:Cx)(c:Ct)(ifs:List Expr)(p:FT):Prop:= ∀hid ρ (ab:List (Addr×Obj)) (s:Shared) (σ:St) (H:Hp) (Q:Bool->Hp->Prop),Inv X ab σ H s->DF X.K c hid p ρ σ H Q->wpAny (model X.prog X.w) X.A (jC ifs X.env) (TP X ab σ Q) X.xe s
def fI:FT:=λ_=>some true
theorem e7:tM X c [] fI:=λhid ρ ab s σ H Q I hq_=>by
 obtain⟨sr,d,e,q⟩:=hq_
 cases e
 exact wpAny_tests_nil ⟨H,I,q H (Same.refl _)⟩
theorem gY {e:Expr}{p:FT}(h:DT X c e p):tM X c [e] p:=λhid ρ ab s σ H Q I q=>wpAny_tests_one (h hid ρ ab s σ H Q I q)
end
theorem gQ {prog:Program}{w:World}{A:Around}{R:Result->Shared->Prop}{s:Shared}{elt target iter:Expr}{ifs:List Expr}{scope:Scope}{pos:Pos}{it acc:Value}{env:Env}(I:Nat->Shared->Prop)
 (turn: ∀n s,I n s->wpAny (model prog w) A (pyNext it) (λr s₁=>match r with
   |none=>R (.ok .next) s₁
   |some v=>wpAny (model prog w) A (letOwnedTupleGo target it v) (λ_ s₁=>wpAny (model prog w) A (assign target env v) (λ_ s₂=>
     wpAny (model prog w) A (jC ifs env) (λok s₃=>
      if ok=true then wpAny (model prog w) A (eval elt env) (λx s₄=>
       wpAny (model prog w) A (call (.builtin "list.append") [acc,x]) (λ_ s₅=> ∃m,m<n/\I m s₅) (λ_ _=>False) s₄) (λ_ _=>False) s₃
      else∃m,m<n/\I m s₃) (λ_ _=>False) s₂) (λ_ _=>False) s₁) (λ_ _=>False) s₁) (λ_ _=>False) s)
 (n:Nat) (h:I n s):
 codeAny (model prog w) A (.compLoop (.ListComp elt [⟨target,iter,ifs,0⟩] scope pos) 0 it acc env) R s:=by
 have no: ∀ {E':Value->Shared->Prop} (x:Value) (s:Shared),False->E' x s:=λ_ _ z=>z.elim
 refine codeAny_loop rfl I (λn s hI=>?_) n h
 show wpAny _ A ((compTurn (.ListComp elt [⟨target,iter,ifs,0⟩] scope pos) 0 it acc env).onRaise (λx=>do noteFrame x env;theTreesLotGoes x)) _ _ s
 refine wpAny_noted ?_
 rw[compTurn_list];refine wpAny_bind (wpAny_standAt (wpAny_bind (wpAny_mono (turn n s hI) (λr s₁ h₁=>?_) no)))
 cases r with
 |none=>exact wpAny_pure h₁
 |some v=>
  refine wpAny_bind (wpAny_mono h₁ (λ_ s₁ h₁=>?_) no)
  refine wpAny_bind (wpAny_mono h₁ (λ_ s₂ h₂=>wpAny_bind (wpAny_mono h₂ (λok s₃ h₃=>?_) no)) no)
  cases ok with
  |false=>exact wpAny_pure ⟨rfl,h₃⟩
  |true=>
   exact wpAny_bind (wpAny_bind (wpAny_mono h₃ (λx s₄ h₄=>wpAny_bind (wpAny_mono h₄ (λ_ s₅ h₅=>wpAny_pure (wpAny_pure ⟨rfl,h₅⟩)) no)) no))
def cS {ι:Type}(g:ι->aC->Option aC)(p:FT)(f:FE)(ρ0:aC):List ι->Option (List D)
 | []=>some []
 |d::r=>(g d ρ0).bind λρ1=>(p ρ1).bind λb=>if b=true then(f ρ1).bind λy=>(cS g p f ρ0 r).map (y:: ·) else cS g p f ρ0 r
def aS {ι:Type}(m:Nat)(gi:aC->Option (List ι))(g:ι->aC->Option aC)(p:FT)(f:FE):FE:=λρ=>(gi ρ).bind λds=>if ds.length<=sizeLine then(cS g p f (ρ++List.replicate m .no) ds).map D.lst else none
theorem lX {ι:Type}{m:Nat}{gi:aC->Option (List ι)}{g:ι->aC->Option aC}{p:FT}{f:FE}{ρ:aC}{d:D}(h:aS m gi g p f ρ=some d): ∃ds ys,gi ρ=some ds/\ds.length<=sizeLine/\cS g p f (ρ++List.replicate m .no) ds=some ys/\d=.lst ys:=by
 unfold aS at h;cases e1:gi ρ with
 |none=>rw[e1] at h;cases h
 |some ds=>
  rw[e1] at h;dsimp only[Option.bind] at h;split at h
  ·cases e2:cS g p f (ρ++List.replicate m .no) ds with
   |none=>rw[e2] at h;cases h
   |some ys=>rw[e2] at h;cases h;exact⟨ds,ys,rfl, ‹_›,e2,rfl⟩
  ·cases h
def jl {ι:Type}(n:Nat)(g:ι->aC->Option aC):Prop:= ∀d (ρ0 ρ1:aC),g d ρ0=some ρ1->ρ1.length=ρ0.length/\ ∀i:Nat,i<n->ρ1[i]? =ρ0[i]?
def t9(n:Nat)(g:rC):Prop:= ∀d (ρ0 ρ1:aC),g d ρ0=some ρ1->ρ1.length=ρ0.length/\ ∀i:Nat,i<n->ρ1[i]? =ρ0[i]?
theorem bJ {n i:Nat}(h:n<=i):jl n (gN i):=λd ρ0 ρ1 e=>by
 cases e
 exact⟨by simp,λj hj=>List.getElem?_set_ne (by omega)⟩
theorem iF {n:Nat}:t9 n lh:=λd ρ0 ρ1 e=>by
 unfold lh at e;split at e
 ·cases e;exact⟨rfl,λ_ _=>rfl⟩
 ·cases e
theorem bS {n:Nat}{g:FG}{gs:rC}(h1:jl n g)(h2:t9 n gs):t9 n (gE g gs):=λd ρ0 ρ1 e=>by
 cases d with
 |nil=>cases e
 |cons d ds=>
  have e:(g d ρ0).bind (λρ'=>gs ds ρ')=some ρ1:=e
  cases e1:g d ρ0 with
  |none=>rw[e1] at e;cases e
  |some ρ2=>
   rw[e1] at e;obtain⟨a1,a2⟩:=h1 d ρ0 ρ2 e1
   obtain⟨b1,b2⟩:=h2 ds ρ2 ρ1 e
   exact⟨b1.trans a1,λi hi=>(b2 i hi).trans (a2 i hi)⟩
theorem oD {n m:Nat}{gs:rC}(h:t9 n gs):jl n (gT m gs):=λd ρ0 ρ1 e=>by
 unfold gT at e;split at e
 ·split at e
  ·exact h _ _ _ e
  ·cases e
 ·cases e
theorem SR.forget {K:W.Frag}{c:Ct}{hid:bj}{ρ0 ρ1:aC}{σ:St}{H:Hp}(h:SR K c hid ρ1 σ H)(hl:ρ1.length=ρ0.length)(hs: ∀(i:Nat) (s:Sl),ρ0[i]? =some s->s=.no\/ρ1[i]? =some s):SR K c hid ρ0 σ H:=by
 have ow: ∀i:Nat,Ow ρ0[i]? ->Ow ρ1[i]? :=λi o=>by
  cases e:ρ0[i]? with
  |none=>rw[e] at o;exact o.elim
  |some s=>
   rcases hs i s e with rfl|z
   ·rw[e] at o;exact o.elim
   ·rw[z,<-e];exact o
 refine⟨h.tr,h.ht,h.h0,h.kp,h.t0,h.c0,h.m0,h.len.trans hl,λi s e=>?_,λi j a n o1 o2=>h.ap i j a n (ow i o1) (ow j o2)⟩
 rcases hs i s e with rfl|z
 ·trivial
 ·exact h.sl i s z
theorem SR.more {K:W.Frag}{c:Ct}{hid:bj}{ρ:aC}{σ:St}{H:Hp}(h:SR K c hid ρ σ H)(m:Nat):SR K c hid (ρ++List.replicate m .no) (σ++List.replicate m none) H:=by
 have lt: ∀ {i:Nat},Ow (ρ++List.replicate m Sl.no)[i]? ->i<ρ.length:=λ{i} o=>by
  by_cases hi:i<ρ.length
  ·exact hi
  ·rw[List.getElem?_append_right (by omega),List.getElem?_replicate] at o
   split at o<;>exact o.elim
 refine⟨h.tr,h.ht,h.h0,h.kp,h.t0,h.c0,h.m0,by simp[h.len],λi s e=>?_,λi j a n o1 o2 q1 q2=>?_⟩
 ·by_cases hi:i<ρ.length
  ·rw[List.getElem?_append_left hi] at e
   have z:=h.sl i s e
   have es:(σ++List.replicate m none)[i]? =σ[i]? :=List.getElem?_append_left (by rw[h.len];exact hi)
   cases s with
   |no=>trivial
   |v d=>obtain⟨x,h1,h2⟩:=z;exact⟨x,es.trans h1,h2⟩
   |own ds=>obtain⟨a,xs,h1,h2⟩:=z;exact⟨a,xs,es.trans h1,h2⟩
   |arg ds=>obtain⟨a,xs,h1,h2⟩:=z;exact⟨a,xs,es.trans h1,h2⟩
   |ob b=>obtain⟨a,h1,h2⟩:=z;exact⟨a,es.trans h1,h2⟩
  ·rw[List.getElem?_append_right (by omega),List.getElem?_replicate] at e
   split at e
   ·cases e;trivial
   ·cases e
 ·have l1:=lt o1
  have l2:=lt o2
  rw[List.getElem?_append_left l1] at o1;rw[List.getElem?_append_left l2] at o2;rw[List.getElem?_append_left (by rw[h.len];exact l1)] at q1
  rw[List.getElem?_append_left (by rw[h.len];exact l2)] at q2
  exact h.ap i j a n o1 o2 q1 q2
section
variable {X:Cx}{c:Ct}{elt tg iter:Expr}{ifs:List Expr}{scope:Scope}{pos:Pos}{N':List Str}{m:Nat}{ι:Type}{IR:Hp->V->ι->Prop}{gi:aC->Option (List ι)}{g:ι->aC->Option aC}{p:FT}{f:FE}
theorem SR.write {K:W.Frag}{hid:bj}{ρ:aC}{σ:St}{H:Hp}{a:Addr}{o':HO}(h:SR K c hid ρ σ H)(hh:hid a=true)(h0:c.H₀ a=none)(na: ∀i:Nat,Ow ρ[i]? ->σ[i]? ≠some (some (.ref a))){o:HO}(ha:H a=some o)(hm: ∀p u,o≠ .nst p u:=by intro _ _ e;cases e)(hn: ∀xs,o'≠ .tup xs:=by intro _ e;cases e):SR K c hid ρ σ (bq H a o'):=by
 have tr': ∀b o,H b=some o-> ∃o2,(bq H a o') b=some o2:=λb o q=>by
  by_cases e:b=a
  ·subst e;exact⟨_,aI⟩
  ·exact⟨o,by rw[aB e];exact q⟩
 refine⟨λb hb=>let⟨o,q⟩:=h.tr b hb;tr' b o q,λb xs hb q=>by
  by_cases e:b=a
  ·subst e;rw[aI] at q;exact hn _ (Option.some.inj q)
  ·rw[aB e] at q;exact h.ht b xs hb q,h.h0,λb o q m=>?_,λb o q=>let⟨o2,q2⟩:=h.t0 b o q;tr' b o2 q2,h.c0,h.m0,h.len,λi s e=>?_,h.ap⟩
 ·rw[aB (aO q h0)];exact h.kp b o q m
 ·have z:=h.sl i s e
  have ne: ∀a',Ow ρ[i]? ->σ[i]? =some (some (.ref a'))->a'≠a:=λa' o q w=>by subst w;exact na i o q
  cases s with
  |no=>trivial
  |v d=>obtain⟨x,h1,h2⟩:=z;exact⟨x,h1,by rw[dG hh];exact h2⟩
  |own ds=>obtain⟨a',xs,h1,h2,h3,h4,h5⟩:=z;exact⟨a',xs,h1,by rw[aB (ne a' (by rw[e];trivial) h1)];exact h2,h3,h4,by rw[dG hh];exact h5⟩
  |arg ds=>obtain⟨a',xs,h1,h2,h3,h4,h5⟩:=z;exact⟨a',xs,h1,by rw[aB (ne a' (by rw[e];trivial) h1)];exact h2,h3,h4,by rw[dG hh];exact h5⟩
  |ob b=>obtain⟨a',h1,h2⟩:=z;exact⟨a',h1,h2.mono (λow x hx o q=>by rw[aB (hx.ne (ne a' (by rw[e];exact ow) h1) ha hm)];exact q) (by rw[dG hh];exact Same.refl _) λ_ _ _ q=>q⟩
structure CLI(Y:Cx)(K:W.Frag)(c:Ct)(hid:bj)(ρ0:aC)(H W:Hp)(D0:Addr)(fp:List Addr)(tn:Nat->Heap->Prop){ι:Type}(g:ι->aC->Option aC)(p:FT)(f:FE)(ds:List ι)(ys:List D)(n i:Nat)(xs:List V)(ad:List D)(σ':St)(H':Hp)(s':Shared):Prop where
 e:n=ds.length-i
 hi:i<=ds.length
 I:Inv Y [] σ' H' s'
 st:tn i s'.heap
 fr: ∀b∈fp,H' b=none
 sr:SR K c hid ρ0 σ' H'
 sm:Same H H'
 ac:H' D0=some (.lst xs)
 rp:Reps K (vw H' hid) xs ad
 w:Same W (vw H' hid)
 hl:xs.length<=i
 na: ∀i:Nat,Ow ρ0[i]? ->σ'[i]? ≠some (some (.ref D0))
 go: ∃rest,cS g p f ρ0 (ds.drop i)=some rest/\ad++rest=ys
theorem uQ(hcalm:X.calm=true)(hT:jl X.N.length g)
 (hg: ∀C s₀ H₀ ex,C5 IR (aM X N' scope C s₀ H₀ ex) c tg g) (hp: ∀C s₀ H₀ ex,tM (aM X N' scope C s₀ H₀ ex) c ifs p) (he: ∀C s₀ H₀ ex,DP (aM X N' scope C s₀ H₀ ex) c .s elt f)
 {σ3:St} {H H3:Hp} {s3 s4:Shared} {hid:bj} {ρ:aC} {J:It} {it D0 C:Addr} {fp:List Addr} {tn:Nat->Heap->Prop} {ds:List ι} {ys:List D} {R:Result->Shared->Prop} {W:Hp} (hρ:ρ.length=X.N.length)
 (I:Inv (aM X N' scope C s3 H3 fp) [] σ3 H3 s4) (sr:SR X.K c hid (ρ++List.replicate m .no) σ3 H3) (hh:hid D0=true) (h00:c.H₀ D0=none) (na: ∀i:Nat,Ow (ρ++List.replicate m Sl.no)[i]? ->σ3[i]? ≠some (some (.ref D0))) (hacc:H3 D0=some (.lst [])) (sm:Same H H3) (nD:H D0=none) (wv:Same W (vw H3 hid)) (T:Turn X.prog X.w X.K tg J fp it tn) (st:tn 0 s4.heap) (hF: ∀b∈fp,H3 b=none)
 (io:Co IR H W J ds) (hz:ds.length<=sizeLine) (hc:cS g p f (ρ++List.replicate m .no) ds=some ys)
 (hR: ∀(s':Shared) (σ':St) (H':Hp) (xs:List V),Inv (aM X N' scope C s3 H3 fp) [] σ' H' s'->Same H H'->H' D0=some (.lst xs)->Reps X.K (vw H' hid) xs ys->R (.ok .next) s'):
 codeAny (model X.prog X.w) X.A (.compLoop (.ListComp elt [⟨tg,iter,ifs,0⟩] scope pos) 0 (.ref it) (.ref D0) (compEnvC scope (mB X.env.cells scope C) C X.env)) R s4:=by
 have stat: ∀ {ab:List (Addr×Obj)} {H':Hp},(∀q∈ab,q.1∉fp)->(∀b∈fp,H' b=none)-> ∀b∈fp,iM (aM X N' scope C s3 H3 fp) ab H' b:=λ{ab H'} hpn hn b hb=>
  ⟨hn b hb,(I.ok.exf b hb).1,I.ok.exfs b hb,.inl hb,(I.ok.exf b hb).2,λq hq e=>hpn q (by have hq':q∈([]:List (Addr×Obj))++ab:=hq;simpa using hq') (by rw[e];exact hb)⟩
 have no: ∀q∈([]:List (Addr×Obj)),q.1∉fp:=λq hq=>nomatch hq
 refine gQ (λn s'=> ∃(i:Nat) (xs:List V) (ad:List D) (σ':St) (H':Hp),CLI (aM X N' scope C s3 H3 fp) X.K c hid (ρ++List.replicate m .no) H W D0 fp tn g p f ds ys n i xs ad σ' H' s') ?_ ds.length
  ⟨0,[],[],σ3,H3,by simp,Nat.zero_le _,I,st,hF,sr,sm,hacc,.nil,wv,Nat.zero_le _,na,ys,by simpa using hc,rfl⟩
 rintro n s5 ⟨i,xs,ad,σ5,H5,rfl,hi,I5,st5,f5,sr5,sm5,ac5,rp5,w5,hl5,na5,rest,hc5,hy5⟩
 have wH:Same W H5:=w5.trans (dU _ _)
 by_cases hlt:i<ds.length
 ·have hd:ds[i]? =some ds[i]:=List.getElem?_eq_getElem hlt
  have e2:ds.drop i=ds[i]::ds.drop (i+1):=List.drop_eq_getElem_cons hlt
  rw[e2] at hc5;unfold cS at hc5;obtain⟨go,yl⟩:=io.1 i ds[i] H5 hd sm5 wH
  refine bM (T.item (aM X N' scope C s3 H3 fp) rfl rfl rfl hcalm i [] s5 σ5 H5 (λ_ _=>False) I5 (stat no f5) st5 go) λr s6 hq_=>?_
  obtain⟨u,hr,h6⟩:=hq_
  subst hr;refine bM h6 λ_ s7 hq_=>?_
  obtain⟨x,H7,I7,r7,y7,st7,f7⟩:=hq_
  obtain⟨s7',rp⟩:=yl x H7 y7
  have rx:=rp hid sr5.tr w5
  have I7':=I7.pinned (stat no f7) (T.obj _ _ st7)
  cases e3:g ds[i] (ρ++List.replicate m .no) with
  |none=>rw[e3] at hc5;cases hc5
  |some ρ1=>
   rw[e3] at hc5;have hc5:(p ρ1).bind (λb=>if b=true then(f ρ1).bind λy=>(cS g p f (ρ++List.replicate m .no) (ds.drop (i+1))).map (y:: ·) else cS g p f (ρ++List.replicate m .no) (ds.drop (i+1)))=some rest:=hc5
   obtain⟨tl1,tl2⟩:=hT _ _ _ e3
   have fg: ∀ {σ':St} {H':Hp},SR X.K c hid ρ1 σ' H'->SR X.K c hid (ρ++List.replicate m .no) σ' H':=λ{σ' H'} z=>z.forget tl1 λj s e=>by
    by_cases hj:j<X.N.length
    ·exact .inr ((tl2 j hj).trans e)
    ·refine .inl ?_
     rw[List.getElem?_append_right (by omega),List.getElem?_replicate] at e
     split at e
     ·cases e;rfl
     ·cases e
   have keepT: ∀ {σ':St} {H':Hp} {s':Shared},Inv (aM X N' scope C s3 H3 fp) ([]++ke fp s7.heap) σ' H' s'->tn (i+1) s'.heap/\ ∀b∈fp,H' b=none:=λ{σ' H' s'} J'=>by
    refine⟨T.keep _ _ _ st7 λb hb o e=>(J'.pin (b,o) (List.mem_append_right _ (List.mem_append_right _ (eQ hb e)))).1,λb hb=>?_⟩
    obtain⟨o,e,_⟩:=T.obj _ _ st7 b hb
    exact(J'.pin (b,o) (List.mem_append_right _ (List.mem_append_right _ (eQ hb e)))).2.1
   refine bM (hg C s3 H3 fp hid _ ds[i] _ s7 σ5 H7 x u (λσ' H'=>H'=H7/\SR X.K c hid ρ1 σ' H7/\OwK (ρ++List.replicate m .no) ρ1 σ5 σ') I7' r7 ⟨sr5.ext s7',rx,ρ1,e3,λσ' z o=>⟨rfl,z,o⟩⟩) λ_ s8 hq_=>?_
   obtain⟨σ8,H8,I8,e8,q8,o8⟩:=hq_
   subst e8;have na8: ∀i:Nat,Ow (ρ++List.replicate m Sl.no)[i]? ->σ8[i]? ≠some (some (.ref D0)):=λj o=>by
    have o1:Ow ρ1[j]? :=by
     by_cases hj:j<X.N.length
     ·rw[tl2 j hj];exact o
     ·exfalso
      rw[List.getElem?_append_right (by omega),List.getElem?_replicate] at o
      split at o<;>exact o.elim
    rw[(o8 j o1).2];exact na5 j o
   cases e4:p ρ1 with
   |none=>rw[e4] at hc5;cases hc5
   |some b=>
    rw[e4] at hc5;have hc5:(if b=true then(f ρ1).bind λy=>(cS g p f (ρ++List.replicate m .no) (ds.drop (i+1))).map (y:: ·) else cS g p f (ρ++List.replicate m .no) (ds.drop (i+1)))=some rest:=hc5
    refine bM (hp C s3 H3 fp hid ρ1 _ s8 σ8 H8 (λb' H'=>b'=b/\Same H8 H') I8 ⟨q8,b,e4,λH' s'=>⟨rfl,s'⟩⟩) λok s9 hq_=>?_
    obtain⟨H9,I9,e9,sm9⟩:=hq_
    subst e9;have w9:Same (vw H5 hid) (vw H9 hid):=aK (s7'.trans sm9)
    cases ok with
    |false=>
     have hc5:cS g p f (ρ++List.replicate m .no) (ds.drop (i+1))=some rest:=hc5
     obtain⟨k1,k2⟩:=keepT I9
     exact⟨ds.length- (i+1),by omega,i+1,xs,ad,σ8,H9,rfl,hlt,I9.unpinned,k1,k2,fg (q8.ext sm9),sm5.trans (s7'.trans sm9),sm9 _ _ (s7' _ _ ac5),rp5.mono w9,w5.trans w9,by omega,na8,rest,hc5,hy5⟩
    |true=>
     have hc5:((f ρ1).bind λy=>(cS g p f (ρ++List.replicate m .no) (ds.drop (i+1))).map (y:: ·))=some rest:=hc5
     cases e5:f ρ1 with
     |none=>rw[e5] at hc5;cases hc5
     |some y=>
      rw[e5] at hc5;have hc5:(cS g p f (ρ++List.replicate m .no) (ds.drop (i+1))).map (y:: ·)=some rest:=hc5
      cases e6:cS g p f (ρ++List.replicate m .no) (ds.drop (i+1)) with
      |none=>rw[e6] at hc5;cases hc5
      |some rest'=>
       rw[e6] at hc5;cases hc5
       show wpAny (model X.prog X.w) X.A (eval elt _) _ _ s9;refine bM (he C s3 H3 fp hid ρ1 _ s9 σ8 H9 (λv H'=>Same H9 H'/\Rep X.K (vw H' hid) v y) I9 ⟨q8.ext sm9,y,e5,λv H' s' r=>⟨s',r⟩⟩) λv s10 hq_=>?_
       obtain⟨z,H10,I10,rz,sm10,rp10⟩:=hq_
       have sm':Same H5 H10:=s7'.trans (sm9.trans sm10)
       have a10:H10 D0=some (.lst xs):=sm' _ _ ac5
       refine bM (cc (X:=aM X N' scope C s3 H3 fp) _ s10 σ8 H10 (.ref D0) [z] (.ref D0) [v] (λ_ H'=>H'=bq H10 D0 (.lst (xs++[z]))) I10 rfl (.cons rz .nil) ⟨D0,xs,z,rfl,rfl,a10,by omega,rfl⟩) λ_ s11 ⟨_,H11,I11,_,e11⟩=>?_
       subst e11;obtain⟨k1,k2⟩:=keepT I11
       have vv:vw (bq H10 D0 (.lst (xs++[z]))) hid=vw H10 hid:=dG hh
       have w10:Same (vw H5 hid) (vw H10 hid):=aK sm'
       refine⟨ds.length- (i+1),by omega,i+1,xs++[z],ad++[y],σ8,_,rfl,hlt,I11.unpinned,k1,k2,?_,λb o e=>?_,aI,?_,?_,by simp;omega,na8,rest',e6,by rw[<-hy5];simp⟩
       ·
        have q10:=fg ((q8.ext sm9).ext sm10)
        exact q10.write hh h00 na8 a10
       ·rw[aB (aO e nD)];exact sm' _ _ (sm5 _ _ e)
       ·rw[vv];exact(rp5.mono w10).append (.cons rp10 .nil)
       ·rw[vv];exact w5.trans w10
 ·have e:i=ds.length:=by omega
  subst e;rw[List.drop_eq_nil_of_le (Nat.le_refl _)] at hc5;cases hc5
  rw[List.append_nil] at hy5;subst hy5;refine bM (T.done (aM X N' scope C s3 H3 fp) rfl rfl rfl hcalm ds.length [] s5 σ5 H5 (λ_ _=>False) I5 (stat no f5) st5 (io.2 H5 sm5 wH)) λr s6 hq_=>?_
  obtain⟨hr,I6⟩:=hq_
  subst hr;exact hR s6 σ5 H5 xs I6 sm5 ac5 rp5
theorem mS(hcalm:X.calm=true)(hk:scope.kind=.function)(hs:u7 scope X.env.scope=true)(hn:u8 X.N N' scope=true)(hm:N'.length-X.N.length=m)(hT:jl X.N.length g)
 (hg: ∀C s₀ H₀ ex,C5 IR (aM X N' scope C s₀ H₀ ex) c tg g) (hp: ∀C s₀ H₀ ex,tM (aM X N' scope C s₀ H₀ ex) c ifs p) (he: ∀C s₀ H₀ ex,DP (aM X N' scope C s₀ H₀ ex) c .s elt f)
 {E:Value->Shared->Prop} {ab:List (Addr×Obj)} {σ:St} {H:Hp} {s:Shared} {hid:bj} {ρ:aC} {J:It} {it:Addr} {fp:List Addr} {tn:Nat->Heap->Prop} {ds:List ι} {ys:List D} {RR:Value->Addr->Result->Shared->Prop}
 (I:Inv X ab σ H s) (sr:SR X.K c hid ρ σ H) (T:Turn X.prog X.w X.K tg J fp it tn) (st:tn 0 s.heap) (hF: ∀b∈fp,iM X ab H b) (io:Co IR H (vw H hid) J ds) (hz:ds.length<=sizeLine) (hc:cS g p f (ρ++List.replicate m .no) ds=some ys)
 (hR: ∀(D C:Addr) (s':Shared) (H':Hp) (xs:List V),s.heap.objs.size<=D->s.heap.objs.size<=C->D≠C->H D=none->Same H H'->H' D=some (.lst xs)->Reps X.K (vw H' (be hid D)) xs ys->(∃m,s'.heap.Ns C m)->H' C=none->s'.os=s.os->AllBare s'.gens->HOk X.prog X.w H' s'.heap->Un (pA X.stack) fp H H' s.heap s'.heap->RR (.ref D) C (.ok .next) s'):
 wpAny (model X.prog X.w) X.A (newList []) (λacc s₃=>wpAny (model X.prog X.w) X.A (newFunctionEnv scope X.env.globals (pr X.env.cells scope.names []) [] X.env.qual none .none (some X.env)) (λcenv s₄=>
  codeAny (model X.prog X.w) X.A (.compStart (.ListComp elt [⟨tg,iter,ifs,0⟩] scope pos) 0 (.ref it) acc {cenv with scope:=relabel scope X.env}) (RR acc cenv.locals) s₄) E s₃) E s:=by
 refine wpAny_newObj_type (tq λh₁ hns₁ kp1 oc₁=>?_)
 dsimp only at hns₁ kp1 oc₁⊢
 generalize hH2:s.heap.push {cls:=.type "list",dict:=none,data:=.seq ([]:List Value).toArray}=H2 at hns₁ kp1 oc₁⊢
 have hC:H2.objs.size=s.heap.objs.size+1:=by rw[<-hH2,Heap.size_push]
 have hD:H s.heap.objs.size=none:=I.hok.fresh (Nat.le_refl _)
 have I2:Inv X ab σ (bq H s.heap.objs.size (.lst [])) {s with heap:=H2}:=by
  rw[<-hH2];exact I.laid (t':=s.toks) (λb o e=>Heap.get?_push_of_some _ e) (Nat.le_refl _) ⟨Nat.zero_le _,[],0,.nil,Heap.get?_push_size _ rfl⟩
 have fpLt: ∀b∈fp,b<s.heap.objs.size:=λb hb=>let⟨o,e,_⟩:=T.obj 0 s.heap st b hb;Heap.lt_size e
 have hF2: ∀b∈fp,iM X ab (bq H s.heap.objs.size (.lst [])) b:=λb hb=>⟨by rw[aB (Nat.ne_of_lt (fpLt b hb))];exact(hF b hb).1,(hF b hb).2⟩
 have kp0: ∀b o,s.heap.get? b=some o->H2.get? b=some o:=λb o e=>by rw[<-hH2];exact Heap.get?_push_of_some _ e
 have IY:=pT (tk:=s.toks) (N':=N') (fp:=fp) I2 hF2 (λb hb=>let⟨o,e,_⟩:=T.obj 0 s.heap st b hb;⟨o,kp0 b o e⟩) hk hs hn hns₁ kp1 oc₁
 rw[hm] at IY;dsimp only at IY;have sr0:SR X.K c (be hid s.heap.objs.size) (ρ++List.replicate m .no) (σ++List.replicate m none) (bq H s.heap.objs.size (.lst [])):=(sr.hide (aY hD _) hD aI).more m
 have hρ:ρ.length=X.N.length:=by rw[<-sr.len];exact I.len
 have nf:hid s.heap.objs.size=false:=sr.fresh hD
 have st1:tn 0 h₁:=T.keep _ _ _ st λb hb o e=>kp1 b o (kp0 b o e)
 have na0: ∀i:Nat,Ow (ρ++List.replicate m Sl.no)[i]? ->(σ++List.replicate m none)[i]? ≠some (some (V.ref s.heap.objs.size)):=(sr.more m).notOw nf
 have wv:Same (vw H hid) (vw (bq H s.heap.objs.size (.lst [])) (be hid s.heap.objs.size)):=by rw[sa hD];exact Same.refl _
 have loop: ∀s4:Shared,s4={s with heap:=h₁,toks:=s.toks}->
  codeAny (model X.prog X.w) X.A (.compLoop (.ListComp elt [⟨tg,iter,ifs,0⟩] scope pos) 0 (.ref it) (.ref s.heap.objs.size) (compEnvC scope (mB X.env.cells scope H2.objs.size) H2.objs.size X.env)) (RR (.ref s.heap.objs.size) H2.objs.size) s4:=by
  rintro s4 rfl
  refine uQ (H:=H) (hid:=be hid s.heap.objs.size) (W:=vw H hid) hcalm hT hg hp he hρ IY sr0 dW (sr.fresh0 hD) na0 aI (aY hD _) hD wv T st1 (λb hb=>(hF2 b hb).1) io hz hc ?_
  intro s' σ' H' xs I' sm' hx' rp';have un1:Un (pA X.stack) fp H (bq H s.heap.objs.size (.lst [])) s.heap H2:=Un.laid (λb o e=>kp0 b o e) (Nat.le_refl _) hD
  refine hR s.heap.objs.size H2.objs.size s' H' xs (Nat.le_refl _) (by rw[hC];exact Nat.le_succ _) (by rw[hC];exact Nat.ne_of_lt (Nat.lt_succ_self _)) hD sm' hx' rp' (let⟨m,hm,_⟩:=I'.loc;⟨m,hm⟩) I'.free I'.os I'.bare I'.hok (un1.trans I'.base)
 exact codeAny_compStart_list (loop _ rfl) (T.self X.A 0 _ _ _ st1 (loop _ rfl))
theorem eg(hcalm:X.calm=true)(hT:jl X.N.length g)(hi:Eh IR X c tg iter gi)
 (hg: ∀C s₀ H₀ ex,C5 IR (aM X N' scope C s₀ H₀ ex) c tg g) (hp: ∀C s₀ H₀ ex,tM (aM X N' scope C s₀ H₀ ex) c ifs p) (he: ∀C s₀ H₀ ex,DP (aM X N' scope C s₀ H₀ ex) c .s elt f)
 (hk:scope.kind=.function:=by rfl) (hs:u7 scope X.env.scope=true:=by kernel_rfl) (hn:u8 X.N N' scope=true:=by kernel_rfl) (hm:N'.length-X.N.length=m:=by rfl) (hset: ∀x,foldedSetIterable iter X.env x=pure x:=by intro _;rfl):
 DP X c .n (.ListComp elt [⟨tg,iter,ifs,0⟩] scope pos) (aS m gi g p f):=by
 intro hid ρ ab s σ H Q I hq;obtain⟨sr,d,hd,q⟩:=hq
 obtain⟨ds,ys,e1,hz,hc,rfl⟩:=lX hd
 rw[eval_ListComp];refine wpAny_comprehension_free (use:=none) rfl hset (fX λx hx=>I.ok.has x (im hs x hx)) hk (kH hs) ?_
 refine bM (hi hid ρ ab s σ H (λJ H'=>Same H H'/\Co IR H' (vw H' hid) J ds) I ⟨sr,ds,e1,λJ H' s1 io=>⟨s1,io⟩⟩) λv s1 h1=>bM h1 λitv s2 h2=>?_
 obtain⟨it,fp,tn,J,H2,rfl,I2,T,st2,f2,sm,io⟩:=h2
 refine mS (RR:=λacc C=>compPost (model X.prog X.w) X.A X.xe none (EP X ab σ Q) acc C) hcalm hk hs hn hm hT hg hp he I2 (sr.ext sm) T st2 f2 io hz hc ?_
 intro D C s' H' xs hDge hCge hDC hD sm' hx rp ⟨mm,hns⟩ hC' hos hbare hok hun;refine⟨mm,hns,λh' hsb=>⟨.ref D,H',?_,rfl,q _ H' (sm.trans sm') ⟨D,xs,ys,rfl,rfl,sm.free hD,hx,rp⟩⟩⟩
 have neC: ∀b o,s2.heap.get? b=some o->b≠C:=λb o e z=>by subst z;exact absurd (Heap.lt_size e) (Nat.not_lt.mpr hCge)
 have hun':Un (pA X.stack) fp H2 H' s2.heap h':=⟨λb o e n h1 h2=>(hsb.2 b (neC b o e)).trans (hun.keep b o e n h1 h2),λb o e n h1 h2=>let⟨sl,z⟩:=hun.slot b o e n h1 h2;⟨sl,(hsb.2 b (neC b o e)).trans z⟩,hun.free,λb o e h2=>let⟨o',z⟩:=hun.there b o e h2;⟨o',(hsb.2 b (neC b o e)).trans z⟩,hun.tups,hun.frzs,hun.tbls⟩
 have hok':HOk X.prog X.w H' h':=λb o e=>by
  have nb: ∀b' o',H' b'=some o'->b'≠C:=λb' o' e' z=>by subst z;rw[hC'] at e';cases e'
  refine(hok b o e).stay (λc' u hc' z=>(hsb.2 c' ?_).trans z) (λ_ z=>z) λ_ _ z=>z
  rcases hc' with z'|z'
  ·rw[z'];exact nb b o e
  ·exact nb c' _ z'
 exact I2.call' (s':={s' with heap:=h'}) (ch:=fp) hos hun' hok' hbare λb hb=>⟨(f2 b hb).2.2.2.1,(f2 b hb).2.1,(f2 b hb).2.2.2.2.1,(f2 b hb).2.2.2.2.2⟩
end
section
variable {X:Cx}{c:Ct}{elt tg iter:Expr}{ifs:List Expr}{scope:Scope}{pos spos py:Pos}{N':List Str}{m:Nat}{gi:FA}{g:FG}{p:FT}{f:FE}{y:Str}
theorem tI(i:Nat)(hcalm:X.calm=true)(hN:X.N.Nodup)(hT:jl X.N.length g)(hi:Bs X c tg iter gi)
 (hg: ∀C s₀ H₀ ex,sN (aM X N' scope C s₀ H₀ ex) c tg g) (hp: ∀C s₀ H₀ ex,tM (aM X N' scope C s₀ H₀ ex) c ifs p) (he: ∀C s₀ H₀ ex,DP (aM X N' scope C s₀ H₀ ex) c .s elt f)
 (hsw:swapsWith (.ListComp elt [⟨tg,iter,ifs,0⟩] scope pos) (some (.Name y py)) spos.line X.env=pure true) (hyi:X.N[i]? =some y) (hy:X.env.scope.names.lookup y=some .local)
 (hk:scope.kind=.function) (hs:u7 scope X.env.scope=true) (hn:u8 X.N N' scope=true) (hm:N'.length-X.N.length=m) (hset: ∀x,foldedSetIterable iter X.env x=pure x) (ρ:aC):
 PS X (.Assign [.Name y py] (.ListComp elt [⟨tg,iter,ifs,0⟩] scope pos) spos) (Ag (λσ H Q=> ∃hid,xA X.K c hid .n (aS m gi g p f) ρ σ H Q) (vI i)):=by
 intro ab s σ H E I hq;obtain⟨hid,sr,d,hd,q⟩:=hq
 obtain⟨ds,ys,e1,hz,hc,rfl⟩:=lX hd
 rw[exec_Assign_Name_used _ _ _ _ hsw];refine wpAny_bind (wpAny_standAt (wpAny_bind ?_))
 show wpAny _ X.A (do let _ <-comprehension (.ListComp elt [⟨tg,iter,ifs,0⟩] scope pos) scope X.env _ (newList []) false (eval iter X.env) (some (assign (.Name y py) X.env))) _ _ s
 refine wpAny_bind (wpAny_mono (wpAny_comprehension_free (use:=some (assign (.Name y py) X.env)) (Q:=λ_ s'=>SP X ab E .next s') rfl hset (fX λx hx=>I.ok.has x (im hs x hx)) hk (kH hs) ?_) (λ_ s' hq=>wpAny_pure (wpAny_pure hq)) λ_ _ e=>e)
 refine bM (hi hid ρ ab s σ H (λJ H'=>Same H H'/\Cr X.K H' (vw H' hid) J ds) I ⟨sr,ds,e1,λJ H' s1 io=>⟨s1,io⟩⟩) λv s1 h1=>bM h1 λitv s2 h2=>?_
 obtain⟨it,fp,tn,J,H2,rfl,I2,T,st2,f2,sm,io⟩:=h2
 refine mS (IR:=Rep X.K) (RR:=λacc C=>compPost (model X.prog X.w) X.A X.xe (some (assign (.Name y py) X.env)) (λ_ s'=>SP X ab E .next s') acc C) hcalm hk hs hn hm hT hg hp he I2 (sr.ext sm) T st2 f2 io hz hc ?_
 intro D C s' H' xs hDge hCge hDC hD sm' hx rp ⟨mm,hns⟩ hC' hos hbare hok hun;have I3:Inv X ab σ H' s':=I2.call' (ch:=fp) hos hun hok hbare λb hb=>⟨(f2 b hb).2.2.2.1,(f2 b hb).2.1,(f2 b hb).2.2.2.2.1,(f2 b hb).2.2.2.2.2⟩
 have fin:=q _ H' (sm.trans sm') ⟨D,xs,ys,rfl,rfl,sm.free hD,hx,rp⟩
 have ltC: ∀b o,s2.heap.get? b=some o->b≠C:=λb o e z=>by subst z;exact absurd (Heap.lt_size e) (Nat.not_lt.mpr hCge)
 have hLC:C≠X.env.locals:=λz=>by
  have:=I2.lt
  rw[<-z] at this;exact absurd this (Nat.not_lt.mpr hCge)
 show wpAny _ X.A (assign (.Name y py) X.env (.ref D)) _ _ s';refine wpAny_assign_Name (nO (v:=.ref D) I3 hN hyi (.inl hy) rfl (λs'' I4 hb=>?_) (.inr hy))
 obtain⟨a,hsb,ha⟩:=hb
 have hCa:C≠a:=by
  rcases ha with rfl|ha
  ·exact hLC
  ·obtain⟨w',o,ho,_⟩:=I2.cell y a ha
   exact λz=>ltC a o ho z.symm
 refine⟨mm,hns.sameBut hsb hCa,λh3 hs3=>⟨_,H',?_,fin⟩⟩
 refine I4.turned (t':=s''.toks) (it:=C) (λb o nb e=>(hs3.2 b nb).trans e) hC' hLC (.inr (Nat.le_trans I2.sz hCge)) (λx c' e z=>?_) (λq hq z=>?_)
 ·obtain⟨w',o,ho,_⟩:=I2.cell x c' e
  exact ltC c' o ho z
 ·exact ltC q.1 q.2 (I2.pin q hq).1 z
theorem pi(i:Nat){k:Kd}(hcalm:X.calm=true)(hN:X.N.Nodup)(hT:jl X.N.length g)(hi:Bs X c tg iter gi)
 (hg: ∀C s₀ H₀ ex,sN (aM X N' scope C s₀ H₀ ex) c tg g) (hp: ∀C s₀ H₀ ex,tM (aM X N' scope C s₀ H₀ ex) c ifs p) (he: ∀C s₀ H₀ ex,DP (aM X N' scope C s₀ H₀ ex) c .s elt f)
 (hsw:swapsWith (.ListComp elt [⟨tg,iter,ifs,0⟩] scope pos) (some (.Name y py)) spos.line X.env=pure true:=by rfl) (hyi:X.N[i]? =some y:=by rfl) (hy:X.env.scope.names.lookup y=some .local:=by rfl)
 (hk:scope.kind=.function:=by rfl) (hs:u7 scope X.env.scope=true:=by kernel_rfl) (hn:u8 X.N N' scope=true:=by kernel_rfl) (hm:N'.length-X.N.length=m:=by rfl) (hset: ∀x,foldedSetIterable iter X.env x=pure x:=by intro _;rfl):
 DS X c k (.Assign [.Name y py] (.ListComp elt [⟨tg,iter,ifs,0⟩] scope pos) spos) (cQ i (aS m gi g p f)):=λρ=>PS.imp (tI i hcalm hN hT hi hg hp he hsw hyi hy hk hs hn hm hset ρ) λD σ H hq_=>by
 obtain⟨hid,sr,q⟩:=hq_
 unfold cQ at q;cases e1:aS m gi g p f ρ with
 |none=>rw[e1] at q;exact q.elim
 |some z=>
  rw[e1] at q;exact⟨hid,sr,z,e1,λv H' s r=>AT (sr.post s r (by decide)) q⟩
theorem xR(i:Nat){k:Kd}(hcalm:X.calm=true)(hN:X.N.Nodup)(hT:jl X.N.length g)(hi:Bs X c tg iter gi)
 (hg: ∀C s₀ H₀ ex,sN (aM X N' scope C s₀ H₀ ex) c tg g) (hp: ∀C s₀ H₀ ex,tM (aM X N' scope C s₀ H₀ ex) c ifs p) (he: ∀C s₀ H₀ ex,DP (aM X N' scope C s₀ H₀ ex) c .s elt f)
 (hsw:swapsWith (.ListComp elt [⟨tg,iter,ifs,0⟩] scope pos) (some (.Name y py)) spos.line X.env=pure true:=by rfl) (hyi:X.N[i]? =some y:=by rfl) (hy:X.env.scope.names.lookup y=some .local:=by rfl)
 (hk:scope.kind=.function:=by rfl) (hs:u7 scope X.env.scope=true:=by kernel_rfl) (hn:u8 X.N N' scope=true:=by kernel_rfl) (hm:N'.length-X.N.length=m:=by rfl) (hset: ∀x,foldedSetIterable iter X.env x=pure x:=by intro _;rfl):
 DS X c k (.Assign [.Name y py] (.ListComp elt [⟨tg,iter,ifs,0⟩] scope pos) spos) (aQ i (aS m gi g p f)):=λρ=>PS.imp (tI i hcalm hN hT hi hg hp he hsw hyi hy hk hs hn hm hset ρ) λD σ H hq_=>by
 obtain⟨hid,sr,q⟩:=hq_
 unfold aQ at q;cases e1:aS m gi g p f ρ with
 |none=>rw[e1] at q;exact q.elim
 |some z=>
  rw[e1] at q;exact⟨hid,sr,z,e1,λv H' s r=>q _ H' hid ((sr.ext s).setV (RN.rep r λa n=>sr.fresh n) i) (aK s)⟩
end
mutual
def cF:D->D->Bool
 | .non,.non=>true
 | .bl a,.bl b=>a==b
 | .bl a,.int b=>(if a then 1 else 0)==b
 | .int a,.bl b=>a==(if b then 1 else 0)
 | .int a,.int b=>a==b
 | .str a,.str b=>a==b
 | .tup a,.tup b=>cG a b
 | .lst a,.lst b=>cG a b
 | .lst a,.scr b=>cG a b
 | .scr a,.lst b=>cG a b
 | .scr a,.scr b=>cG a b
 |_,_=>false
def cG:List D->List D->Bool
 | [],[]=>true
 |x::xs,y::ys=>cF x y&&cG xs ys
 |_,_=>false
end
mutual
def dr:D->Nat
 | .tup a=>cE a+1
 | .lst a=>cE a+1
 | .scr _=>cLine
 |_=>0
def cE:List D->Nat
 | []=>0
 |x::xs=>max (dr x) (cE xs)
end
theorem jL: ∀ {xs:List D} {i:Nat} {d:D},xs[i]? =some d->dr d<=cE xs
 | [],_,_,h=>by simp at h
 |x::xs,0,d,h=>by simp at h;subst h;unfold cE;exact Nat.le_max_left _ _
 |x::xs,i+1,d,h=>by
  have:=jL (xs:=xs) (i:=i) (d:=d) (by simpa using h)
  unfold cE;exact Nat.le_trans this (Nat.le_max_right _ _)
mutual
theorem jx: ∀x:D,cF x x=true
 | .non=>by unfold cF;rfl
 | .bl a=>by unfold cF;simp
 | .int a=>by unfold cF;simp
 | .str a=>by unfold cF;simp
 | .tup a=>by unfold cF;exact iB a
 | .lst a=>by unfold cF;exact iB a
 | .scr a=>by unfold cF;exact iB a
theorem iB: ∀x:List D,cG x x=true
 | []=>by unfold cG;rfl
 |x::xs=>by unfold cG;rw[jx x,iB xs];rfl
end
def iS(xs ys:List D)(j:Nat):Bool:=match xs[j]?,ys[j]? with
 |some x,some y=>cF x y
 |_,_=>false
theorem nV {xs ys:List D}(h:xs.length=ys.length):(List.range xs.length).all (iS xs ys)=cG xs ys:=by
 induction xs generalizing ys with
 |nil=>
  cases ys with
  |nil=>unfold cG;rfl
  |cons y ys=>simp at h
 |cons x xs ih=>
  cases ys with
  |nil=>simp at h
  |cons y ys=>
   rw[List.length_cons,List.range_succ_eq_map,List.all_cons,List.all_map];have e0:iS (x::xs) (y::ys) 0=cF x y:=rfl
   have e1:((iS (x::xs) (y::ys))∘Nat.succ)=iS xs ys:=by funext j;simp[iS]
   rw[e0,e1,ih (by simpa using h)]
   conv=>rhs;unfold cG
theorem lO: ∀ {xs ys:List D},xs.length≠ys.length->cG xs ys=false
 | [],[],h=>absurd rfl h
 | [],_::_,_=>by unfold cG;rfl
 |_::_,[],_=>by unfold cG;rfl
 |x::xs,y::ys,h=>by unfold cG;rw[lO (xs:=xs) (ys:=ys) (by simpa using h)];simp
section
variable {X:Cx}{ab:List (Addr×Obj)}{σ:St}{H:Hp}{s:Shared}
theorem fh(I:Inv X ab σ H s){a:Addr}{xs ys:List V}(h:SqL X.K H a xs)(h':SqT X.K H a ys):False:=by
 obtain⟨its,_,pl,_⟩:=I.list h
 obtain⟨its',_,pt,_⟩:=I.tuple h'
 exact SeqAt.ne_of_list_tuple pl.isList pt rfl
theorem Bm {a b:List D}(h: ∀zs,cG a zs=cG b zs):(∀z,cF (.tup a) z=cF (.tup b) z)/\(∀z,cF (.lst a) z=cF (.lst b) z)/\ ∀z,cF (.scr a) z=cF (.lst b) z:=by
 refine⟨λz=>?_,λz=>?_,λz=>?_⟩<;>cases z<;>unfold cF<;>first|exact h _|rfl
theorem Cf {b:List D}: ∀z,cF (.scr b) z=cF (.lst b) z:=(Bm λ_=>rfl).2.2
mutual
theorem Rep.eqv(I:Inv X ab σ H s): ∀ {v:V} {x y:D},Rep X.K H v x->Rep X.K H v y-> ∀z,cF x z=cF y z
 |_,_,_,.non,.non=>λ_=>rfl
 |_,_,_,.bl,.bl=>λ_=>rfl
 |_,_,_,.int,.int=>λ_=>rfl
 |_,_,_,.str,.str=>λ_=>rfl
 |_,_,_,.tup h r,.tup h' r'=>by rw[I.tuple_inj h h'] at r;exact(Bm (Reps.eqv I r r')).1
 |_,_,_,.lst h r,.lst h' r'=>by rw[I.list_inj (SqL.of h) (SqL.of h')] at r;exact(Bm (Reps.eqv I r r')).2.1
 |_,_,_,.lst h r,.scr h' r'=>by rw[I.list_inj (SqL.of h) h'.seq] at r;exact λz=>((Bm (Reps.eqv I r r')).2.1 z).trans (Cf z).symm
 |_,_,_,.scr h r,.lst h' r'=>by rw[I.list_inj h.seq (SqL.of h')] at r;exact(Bm (Reps.eqv I r r')).2.2
 |_,_,_,.scr h r,.scr h' r'=>by rw[I.list_inj h.seq h'.seq] at r;exact λz=>((Bm (Reps.eqv I r r')).2.2 z).trans (Cf z).symm
 |_,_,_,.tup h r,.lst h' r'=>(fh I (SqL.of h') h).elim
 |_,_,_,.lst h r,.tup h' r'=>(fh I (SqL.of h) h').elim
 |_,_,_,.tup h r,.scr h' r'=>(fh I h'.seq h).elim
 |_,_,_,.scr h r,.tup h' r'=>(fh I h.seq h').elim
theorem Reps.eqv(I:Inv X ab σ H s): ∀ {v:List V} {x y:List D},Reps X.K H v x->Reps X.K H v y-> ∀z,cG x z=cG y z
 |_,_,_,.nil,.nil=>λ_=>rfl
 |_,_,_,.cons r t,.cons r' t'=>λz=>by
  cases z with
  |nil=>unfold cG;rfl
  |cons w ws=>unfold cG;rw[Rep.eqv I r r' w,Reps.eqv I t t' ws]
end
theorem aH(I:Inv X ab σ H s){a:Addr}{xs:List V}{ds:List D}(h:SqL X.K H a xs)(r:Reps X.K H xs ds): ∃its:List Value,s.heap.IsList a its.toArray/\its.length=ds.length/\ ∀(j:Nat) (hj:j<its.length),∃(v:V) (d:D),ds[j]? =some d/\RelV v its[j]/\Rep X.K H v d:=by
 obtain⟨its,rv,pl,_⟩:=I.list h
 have h1:=rv.length
 have h2:=r.length
 refine⟨its,pl.isList,by omega,λj hj=>?_⟩
 have e:xs[j]? =some xs[j]:=List.getElem?_eq_getElem (by omega)
 obtain⟨u,e1,r1⟩:=rv.get e
 obtain⟨d,e2,r2⟩:=r.get' e
 have:its[j]=u:=by rw[List.getElem?_eq_getElem hj] at e1;exact Option.some.inj e1
 rw[this];exact⟨xs[j],d,e2,r1,r2⟩
theorem bB(I:Inv X ab σ H s){a:Addr}{xs:List V}{ds:List D}(h:SqT X.K H a xs)(r:Reps X.K H xs ds): ∃its:List Value,s.heap.IsTuple a its.toArray/\its.length=ds.length/\ ∀(j:Nat) (hj:j<its.length),∃(v:V) (d:D),ds[j]? =some d/\RelV v its[j]/\Rep X.K H v d:=by
 obtain⟨its,rv,pl,_⟩:=I.tuple h
 have h1:=rv.length
 have h2:=r.length
 refine⟨its,pl,by omega,λj hj=>?_⟩
 have e:xs[j]? =some xs[j]:=List.getElem?_eq_getElem (by omega)
 obtain⟨u,e1,r1⟩:=rv.get e
 obtain⟨d,e2,r2⟩:=r.get' e
 have:its[j]=u:=by rw[List.getElem?_eq_getElem hj] at e1;exact Option.some.inj e1
 rw[this];exact⟨xs[j],d,e2,r1,r2⟩
end
section
variable {X:Cx}{ab:List (Addr×Obj)}{σ:St}{H:Hp}{s:Shared}
theorem dY(A:Around):A.in1.units=A.units+1:=rfl
theorem zj {A:Around}{n:Nat}(IH: ∀ {x y:D} {v u:V} {a b:Value} {A:Around},dr x<n->A.units+dr x<cLine->RelV v a->RelV u b->Rep X.K H v x->Rep X.K H u y->SeqAt.EqAt A s a b (cF x y)){xs ys:List D}{its its2:List Value}(hd:cE xs<n)(hu:A.units+cE xs<cLine)
 (g1: ∀(j:Nat) (hj:j<its.length),∃(v:V) (d:D),xs[j]? =some d/\RelV v its[j]/\Rep X.K H v d) (g2: ∀(j:Nat) (hj:j<its2.length),∃(v:V) (d:D),ys[j]? =some d/\RelV v its2[j]/\Rep X.K H v d):
 ∀j (h1:j<its.toArray.size) (h2:j<its2.toArray.size),SeqAt.EqAt A s its.toArray[j] its2.toArray[j] (iS xs ys j):=λj h1 h2=>by
 obtain⟨v,d,e1,r1,p1⟩:=g1 j (by simpa using h1)
 obtain⟨u,d',e2,r2,p2⟩:=g2 j (by simpa using h2)
 have ez:iS xs ys j=cF d d':=by unfold iS;rw[e1,e2]
 rw[ez];have hdd:=jL e1
 exact IH (by omega) (by omega) (by simpa using r1) (by simpa using r2) p1 p2
theorem iw(I:Inv X ab σ H s){A:Around}{n:Nat}(IH: ∀ {x y:D} {v u:V} {a b:Value} {A:Around},dr x<n->A.units+dr x<cLine->RelV v a->RelV u b->Rep X.K H v x->Rep X.K H u y->SeqAt.EqAt A s a b (cF x y)){xs ys:List D}{zs ws:List V}{a b:Addr}(hd:cE xs<n)(hu:A.units+(cE xs+1)<cLine)
 (h1:SqL X.K H a zs) (r1:Reps X.K H zs xs) (h2:SqL X.K H b ws) (r2:Reps X.K H ws ys):SeqAt.RcAt A s (.ref a) (.ref b) (cG xs ys)/\SeqAt.RcNeAt A s (.ref a) (.ref b) (!cG xs ys):=by
 obtain⟨its,l1,n1,g1⟩:=aH I h1 r1
 obtain⟨its2,l2,n2,g2⟩:=aH I h2 r2
 by_cases e:xs.length=ys.length
 ·have hsz:its.toArray.size=its2.toArray.size:=by simp;omega
  have he:=zj (A:=A.in1) IH hd (by rw[dY];omega) g1 g2
  have ea:(List.range its.toArray.size).all (iS xs ys)=cG xs ys:=by rw[List.size_toArray,n1];exact nV e
  rw[<-ea];exact⟨SeqAt.RcAt.lists l1 l2 hsz (by omega) he,SeqAt.RcNeAt.lists l1 l2 hsz (by omega) he⟩
 ·rw[lO e]
  have hsz:(its.toArray.size !=its2.toArray.size)=true:=by simp;omega
  exact⟨SeqAt.RcAt.lists_lengths l1 l2 hsz (by omega),SeqAt.RcNeAt.lists_lengths l1 l2 hsz (by omega)⟩
theorem sG(I:Inv X ab σ H s){A:Around}{n:Nat}(IH: ∀ {x y:D} {v u:V} {a b:Value} {A:Around},dr x<n->A.units+dr x<cLine->RelV v a->RelV u b->Rep X.K H v x->Rep X.K H u y->SeqAt.EqAt A s a b (cF x y)){xs ys:List D}{zs ws:List V}{a b:Addr}(hd:cE xs<n)(hu:A.units+(cE xs+1)<cLine)
 (h1:SqT X.K H a zs) (r1:Reps X.K H zs xs) (h2:SqT X.K H b ws) (r2:Reps X.K H ws ys):SeqAt.RcAt A s (.ref a) (.ref b) (cG xs ys)/\SeqAt.RcNeAt A s (.ref a) (.ref b) (!cG xs ys):=by
 obtain⟨its,l1,n1,g1⟩:=bB I h1 r1
 obtain⟨its2,l2,n2,g2⟩:=bB I h2 r2
 have he:=zj (A:=A.in1) IH hd (by rw[dY];omega) g1 g2
 have ea:((List.range (min its.toArray.size its2.toArray.size)).all (iS xs ys)&&its.toArray.size==its2.toArray.size)=cG xs ys:=by
  rw[List.size_toArray,List.size_toArray,n1,n2]
  by_cases e:xs.length=ys.length
  ·rw[<-e,Nat.min_self,nV e];simp
  ·rw[lO e];simp[e]
 rw[<-ea];exact⟨SeqAt.RcAt.tuples l1 l2 (by omega) he,SeqAt.RcNeAt.tuples l1 l2 (by omega) he⟩
theorem kD(I:Inv X ab σ H s){A:Around}{a b:Addr}{x y:D}(r1:Rep X.K H (.ref a) x)(r2:Rep X.K H (.ref b) y)(e:a=b):SeqAt.EqAt A s (.ref a) (.ref b) (cF x y):=by
 subst e;rw[Rep.eqv I r1 r2,jx];exact SeqAt.EqAt.same _
theorem Bj(I:Inv X ab σ H s){n:Nat}(IH: ∀ {x y:D} {v u:V} {a b:Value} {A:Around},dr x<n->A.units+dr x<cLine->RelV v a->RelV u b->Rep X.K H v x->Rep X.K H u y->SeqAt.EqAt A s a b (cF x y)){x y:D}{v u:V}{a b:Value}{A:Around}(hd:dr x<n+1)(hu:A.units+dr x<cLine)(hc:A.units<cLine)
 (ra:RelV v a) (rb:RelV u b) (px:Rep X.K H v x) (py:Rep X.K H u y):SeqAt.EqAt A s a b (cF x y):=by
 unfold cF;cases px with
 |non=>
  cases ra
  cases py with
  |non=>
   cases rb
   exact SeqAt.EqAt.same _
  |bl=>
   cases rb
   exact SeqAt.EqAt.none_bool _
  |int=>
   obtain⟨t2,rfl⟩:=rb
   exact SeqAt.EqAt.none_int _ _
  |str=>
   obtain⟨t2,rfl⟩:=rb
   exact SeqAt.EqAt.none_str _ _
  | @tup a2 _ _ h2 r2=>
    cases rb
    obtain⟨its2,l2,_⟩:=bB I h2 r2
    exact SeqAt.EqAt.none_tuple l2 (by omega)
  | @lst a2 _ _ h2 r2=>
    cases rb
    obtain⟨its2,l2,_⟩:=aH I (SqL.of h2) r2
    exact SeqAt.EqAt.none_list l2 (by omega)
  | @scr a2 _ _ h2 r2=>
    cases rb
    obtain⟨its2,l2,_⟩:=aH I h2.seq r2
    exact SeqAt.EqAt.none_list l2 (by omega)
 |bl=>
  cases ra
  cases py with
  |non=>
   cases rb
   exact SeqAt.EqAt.bool_none _
  |bl=>
   cases rb
   exact SeqAt.EqAt.bool_bool _ _
  |int=>
   obtain⟨t2,rfl⟩:=rb
   exact SeqAt.EqAt.bool_int _ _ _
  |str=>
   obtain⟨t2,rfl⟩:=rb
   exact SeqAt.EqAt.bool_str _ _ _
  | @tup a2 _ _ h2 r2=>
    cases rb
    obtain⟨its2,l2,_⟩:=bB I h2 r2
    exact SeqAt.EqAt.bool_tuple _ l2 (by omega)
  | @lst a2 _ _ h2 r2=>
    cases rb
    obtain⟨its2,l2,_⟩:=aH I (SqL.of h2) r2
    exact SeqAt.EqAt.bool_list _ l2 (by omega)
  | @scr a2 _ _ h2 r2=>
    cases rb
    obtain⟨its2,l2,_⟩:=aH I h2.seq r2
    exact SeqAt.EqAt.bool_list _ l2 (by omega)
 |int=>
  obtain⟨t1,rfl⟩:=ra
  cases py with
  |non=>
   cases rb
   exact SeqAt.EqAt.int_none _ _
  |bl=>
   cases rb
   exact SeqAt.EqAt.int_bool _ _ _
  |int=>
   obtain⟨t2,rfl⟩:=rb
   exact SeqAt.EqAt.int_int _ _ _ _
  |str=>
   obtain⟨t2,rfl⟩:=rb
   exact SeqAt.EqAt.int_str _ _ _ _
  | @tup a2 _ _ h2 r2=>
    cases rb
    obtain⟨its2,l2,_⟩:=bB I h2 r2
    exact SeqAt.EqAt.int_tuple _ _ l2 (by omega)
  | @lst a2 _ _ h2 r2=>
    cases rb
    obtain⟨its2,l2,_⟩:=aH I (SqL.of h2) r2
    exact SeqAt.EqAt.int_list _ _ l2 (by omega)
  | @scr a2 _ _ h2 r2=>
    cases rb
    obtain⟨its2,l2,_⟩:=aH I h2.seq r2
    exact SeqAt.EqAt.int_list _ _ l2 (by omega)
 |str=>
  obtain⟨t1,rfl⟩:=ra
  cases py with
  |non=>
   cases rb
   exact SeqAt.EqAt.str_none _ _
  |bl=>
   cases rb
   exact SeqAt.EqAt.str_bool _ _ _
  |int=>
   obtain⟨t2,rfl⟩:=rb
   exact SeqAt.EqAt.str_int _ _ _ _
  |str=>
   obtain⟨t2,rfl⟩:=rb
   exact SeqAt.EqAt.str_str _ _ _ _
  | @tup a2 _ _ h2 r2=>
    cases rb
    obtain⟨its2,l2,_⟩:=bB I h2 r2
    exact SeqAt.EqAt.str_tuple _ _ l2 (by omega)
  | @lst a2 _ _ h2 r2=>
    cases rb
    obtain⟨its2,l2,_⟩:=aH I (SqL.of h2) r2
    exact SeqAt.EqAt.str_list _ _ l2 (by omega)
  | @scr a2 _ _ h2 r2=>
    cases rb
    obtain⟨its2,l2,_⟩:=aH I h2.seq r2
    exact SeqAt.EqAt.str_list _ _ l2 (by omega)
 | @tup a1 _ _ h1 r1=>
   cases ra
   obtain⟨its,l1,_⟩:=bB I h1 r1
   cases py with
   |non=>
    cases rb
    exact SeqAt.EqAt.tuple_none l1 (by omega)
   |bl=>
    cases rb
    exact SeqAt.EqAt.tuple_bool _ l1 (by omega)
   |int=>
    obtain⟨t2,rfl⟩:=rb
    exact SeqAt.EqAt.tuple_int _ _ l1 (by omega)
   |str=>
    obtain⟨t2,rfl⟩:=rb
    exact SeqAt.EqAt.tuple_str _ _ l1 (by omega)
   | @tup a2 _ _ h2 r2=>
     cases rb
     obtain⟨its2,l2,_⟩:=bB I h2 r2
     by_cases e:a1=a2
     ·exact(kD I (.tup h1 r1) (.tup h2 r2) e)
     ·exact SeqAt.EqAt.of_refs e (sG I IH (by unfold dr at hd;omega) (by unfold dr at hu;omega) h1 r1 h2 r2).1
   | @lst a2 _ _ h2 r2=>
     cases rb
     obtain⟨its2,l2,_⟩:=aH I (SqL.of h2) r2
     exact SeqAt.EqAt.tuple_list l1 l2 (by omega)
   | @scr a2 _ _ h2 r2=>
     cases rb
     obtain⟨its2,l2,_⟩:=aH I h2.seq r2
     exact SeqAt.EqAt.tuple_list l1 l2 (by omega)
 | @scr a1 _ _ h1 r1=>exact absurd hu (by unfold dr;omega)
 | @lst a1 _ _ h1 r1=>
   cases ra
   obtain⟨its,l1,_⟩:=aH I (SqL.of h1) r1
   cases py with
   |non=>
    cases rb
    exact SeqAt.EqAt.list_none l1 (by omega)
   |bl=>
    cases rb
    exact SeqAt.EqAt.list_bool _ l1 (by omega)
   |int=>
    obtain⟨t2,rfl⟩:=rb
    exact SeqAt.EqAt.list_int _ _ l1 (by omega)
   |str=>
    obtain⟨t2,rfl⟩:=rb
    exact SeqAt.EqAt.list_str _ _ l1 (by omega)
   | @tup a2 _ _ h2 r2=>
     cases rb
     obtain⟨its2,l2,_⟩:=bB I h2 r2
     exact SeqAt.EqAt.list_tuple l1 l2 (by omega)
   | @lst a2 _ _ h2 r2=>
     cases rb
     obtain⟨its2,l2,_⟩:=aH I (SqL.of h2) r2
     by_cases e:a1=a2
     ·exact(kD I (.lst h1 r1) (.lst h2 r2) e)
     ·exact SeqAt.EqAt.of_refs e (iw I IH (by unfold dr at hd;omega) (by unfold dr at hu;omega) (SqL.of h1) r1 (SqL.of h2) r2).1
   | @scr a2 _ _ h2 r2=>
     cases rb
     obtain⟨its2,l2,_⟩:=aH I h2.seq r2
     by_cases e:a1=a2
     ·exact(kD I (.lst h1 r1) (.scr h2 r2) e)
     ·exact SeqAt.EqAt.of_refs e (iw I IH (by unfold dr at hd;omega) (by unfold dr at hu;omega) (SqL.of h1) r1 h2.seq r2).1
theorem kC(I:Inv X ab σ H s): ∀(n:Nat) {x y:D} {v u:V} {a b:Value} {A:Around},dr x<n->A.units+dr x<cLine->RelV v a->RelV u b->Rep X.K H v x->Rep X.K H u y->SeqAt.EqAt A s a b (cF x y)
 |0,x,y,v,u,a,b,A,hd,hu,ra,rb,px,py=>absurd hd (Nat.not_lt_zero _)
 |n+1,x,y,v,u,a,b,A,hd,hu,ra,rb,px,py=>Bj I (λh1 h2 h3 h4 h5 h6=>kC I n h1 h2 h3 h4 h5 h6) hd hu (by omega) ra rb px py
theorem AG(I:Inv X ab σ H s){x y:D}{v u:V}{a b:Value}{A:Around}(hu:A.units+dr x<cLine)(hc:A.units<cLine)(ra:RelV v a)(rb:RelV u b)(px:Rep X.K H v x)(py:Rep X.K H u y):SeqAt.RcAt A s a b (cF x y):=by
 have IH:=λ{x y:D} {v u:V} {a b:Value} {A:Around} (n:Nat)=> @kC X ab σ H s I n x y v u a b A
 have IH: ∀ {n:Nat} {x y:D} {v u:V} {a b:Value} {A:Around},dr x<n->A.units+dr x<cLine->RelV v a->RelV u b->Rep X.K H v x->Rep X.K H u y->SeqAt.EqAt A s a b (cF x y):=λ{n x y v u a b A}=>kC I n
 unfold cF;cases px with
 |non=>
  cases ra
  cases py with
  |non=>
   cases rb
   exact SeqAt.RcAt.none_none
  |bl=>
   cases rb
   exact SeqAt.RcAt.none_bool _
  |int=>
   obtain⟨t2,rfl⟩:=rb
   exact SeqAt.RcAt.none_int _ _
  |str=>
   obtain⟨t2,rfl⟩:=rb
   exact SeqAt.RcAt.none_str _ _
  | @tup a2 _ _ h2 r2=>
    cases rb
    obtain⟨its2,l2,_⟩:=bB I h2 r2
    exact SeqAt.RcAt.none_tuple l2 (by omega)
  | @lst a2 _ _ h2 r2=>
    cases rb
    obtain⟨its2,l2,_⟩:=aH I (SqL.of h2) r2
    exact SeqAt.RcAt.none_list l2 (by omega)
  | @scr a2 _ _ h2 r2=>
    cases rb
    obtain⟨its2,l2,_⟩:=aH I h2.seq r2
    exact SeqAt.RcAt.none_list l2 (by omega)
 |bl=>
  cases ra
  cases py with
  |non=>
   cases rb
   exact SeqAt.RcAt.bool_none _
  |bl=>
   cases rb
   exact SeqAt.RcAt.bool_bool _ _
  |int=>
   obtain⟨t2,rfl⟩:=rb
   exact SeqAt.RcAt.bool_int _ _ _
  |str=>
   obtain⟨t2,rfl⟩:=rb
   exact SeqAt.RcAt.bool_str _ _ _
  | @tup a2 _ _ h2 r2=>
    cases rb
    obtain⟨its2,l2,_⟩:=bB I h2 r2
    exact SeqAt.RcAt.bool_tuple _ l2 (by omega)
  | @lst a2 _ _ h2 r2=>
    cases rb
    obtain⟨its2,l2,_⟩:=aH I (SqL.of h2) r2
    exact SeqAt.RcAt.bool_list _ l2 (by omega)
  | @scr a2 _ _ h2 r2=>
    cases rb
    obtain⟨its2,l2,_⟩:=aH I h2.seq r2
    exact SeqAt.RcAt.bool_list _ l2 (by omega)
 |int=>
  obtain⟨t1,rfl⟩:=ra
  cases py with
  |non=>
   cases rb
   exact SeqAt.RcAt.int_none _ _
  |bl=>
   cases rb
   exact SeqAt.RcAt.int_bool _ _ _
  |int=>
   obtain⟨t2,rfl⟩:=rb
   exact SeqAt.RcAt.int_int _ _ _ _
  |str=>
   obtain⟨t2,rfl⟩:=rb
   exact SeqAt.RcAt.int_str _ _ _ _
  | @tup a2 _ _ h2 r2=>
    cases rb
    obtain⟨its2,l2,_⟩:=bB I h2 r2
    exact SeqAt.RcAt.int_tuple _ _ l2 (by omega)
  | @lst a2 _ _ h2 r2=>
    cases rb
    obtain⟨its2,l2,_⟩:=aH I (SqL.of h2) r2
    exact SeqAt.RcAt.int_list _ _ l2 (by omega)
  | @scr a2 _ _ h2 r2=>
    cases rb
    obtain⟨its2,l2,_⟩:=aH I h2.seq r2
    exact SeqAt.RcAt.int_list _ _ l2 (by omega)
 |str=>
  obtain⟨t1,rfl⟩:=ra
  cases py with
  |non=>
   cases rb
   exact SeqAt.RcAt.str_none _ _
  |bl=>
   cases rb
   exact SeqAt.RcAt.str_bool _ _ _
  |int=>
   obtain⟨t2,rfl⟩:=rb
   exact SeqAt.RcAt.str_int _ _ _ _
  |str=>
   obtain⟨t2,rfl⟩:=rb
   exact SeqAt.RcAt.str_str _ _ _ _
  | @tup a2 _ _ h2 r2=>
    cases rb
    obtain⟨its2,l2,_⟩:=bB I h2 r2
    exact SeqAt.RcAt.str_tuple _ _ l2 (by omega)
  | @lst a2 _ _ h2 r2=>
    cases rb
    obtain⟨its2,l2,_⟩:=aH I (SqL.of h2) r2
    exact SeqAt.RcAt.str_list _ _ l2 (by omega)
  | @scr a2 _ _ h2 r2=>
    cases rb
    obtain⟨its2,l2,_⟩:=aH I h2.seq r2
    exact SeqAt.RcAt.str_list _ _ l2 (by omega)
 | @tup a1 _ _ h1 r1=>
   cases ra
   obtain⟨its,l1,_⟩:=bB I h1 r1
   cases py with
   |non=>
    cases rb
    exact SeqAt.RcAt.tuple_none l1 (by omega)
   |bl=>
    cases rb
    exact SeqAt.RcAt.tuple_bool _ l1 (by omega)
   |int=>
    obtain⟨t2,rfl⟩:=rb
    exact SeqAt.RcAt.tuple_int _ _ l1 (by omega)
   |str=>
    obtain⟨t2,rfl⟩:=rb
    exact SeqAt.RcAt.tuple_str _ _ l1 (by omega)
   | @tup a2 _ _ h2 r2=>
     cases rb
     obtain⟨its2,l2,_⟩:=bB I h2 r2
     exact(sG I IH (Nat.lt_succ_self _) (by unfold dr at hu;omega) h1 r1 h2 r2).1
   | @lst a2 _ _ h2 r2=>
     cases rb
     obtain⟨its2,l2,_⟩:=aH I (SqL.of h2) r2
     exact SeqAt.RcAt.tuple_list l1 l2 (by omega)
   | @scr a2 _ _ h2 r2=>
     cases rb
     obtain⟨its2,l2,_⟩:=aH I h2.seq r2
     exact SeqAt.RcAt.tuple_list l1 l2 (by omega)
 | @scr a1 _ _ h1 r1=>exact absurd hu (by unfold dr;omega)
 | @lst a1 _ _ h1 r1=>
   cases ra
   obtain⟨its,l1,_⟩:=aH I (SqL.of h1) r1
   cases py with
   |non=>
    cases rb
    exact SeqAt.RcAt.list_none l1 (by omega)
   |bl=>
    cases rb
    exact SeqAt.RcAt.list_bool _ l1 (by omega)
   |int=>
    obtain⟨t2,rfl⟩:=rb
    exact SeqAt.RcAt.list_int _ _ l1 (by omega)
   |str=>
    obtain⟨t2,rfl⟩:=rb
    exact SeqAt.RcAt.list_str _ _ l1 (by omega)
   | @tup a2 _ _ h2 r2=>
     cases rb
     obtain⟨its2,l2,_⟩:=bB I h2 r2
     exact SeqAt.RcAt.list_tuple l1 l2 (by omega)
   | @lst a2 _ _ h2 r2=>
     cases rb
     obtain⟨its2,l2,_⟩:=aH I (SqL.of h2) r2
     exact(iw I IH (Nat.lt_succ_self _) (by unfold dr at hu;omega) (SqL.of h1) r1 (SqL.of h2) r2).1
   | @scr a2 _ _ h2 r2=>
     cases rb
     obtain⟨its2,l2,_⟩:=aH I h2.seq r2
     exact(iw I IH (Nat.lt_succ_self _) (by unfold dr at hu;omega) (SqL.of h1) r1 h2.seq r2).1
theorem vj(I:Inv X ab σ H s){x y:D}{v u:V}{a b:Value}{A:Around}(hu:A.units+dr x<cLine)(hc:A.units<cLine)(ra:RelV v a)(rb:RelV u b)(px:Rep X.K H v x)(py:Rep X.K H u y):SeqAt.RcNeAt A s a b (!cF x y):=by
 have IH: ∀ {n:Nat} {x y:D} {v u:V} {a b:Value} {A:Around},dr x<n->A.units+dr x<cLine->RelV v a->RelV u b->Rep X.K H v x->Rep X.K H u y->SeqAt.EqAt A s a b (cF x y):=λ{n x y v u a b A}=>kC I n
 unfold cF;cases px with
 |non=>
  cases ra
  cases py with
  |non=>
   cases rb
   exact SeqAt.RcNeAt.none_none
  |bl=>
   cases rb
   exact SeqAt.RcNeAt.none_bool _
  |int=>
   obtain⟨t2,rfl⟩:=rb
   exact SeqAt.RcNeAt.none_int _ _
  |str=>
   obtain⟨t2,rfl⟩:=rb
   exact SeqAt.RcNeAt.none_str _ _
  | @tup a2 _ _ h2 r2=>
    cases rb
    obtain⟨its2,l2,_⟩:=bB I h2 r2
    exact SeqAt.RcNeAt.none_tuple l2 (by omega)
  | @lst a2 _ _ h2 r2=>
    cases rb
    obtain⟨its2,l2,_⟩:=aH I (SqL.of h2) r2
    exact SeqAt.RcNeAt.none_list l2 (by omega)
  | @scr a2 _ _ h2 r2=>
    cases rb
    obtain⟨its2,l2,_⟩:=aH I h2.seq r2
    exact SeqAt.RcNeAt.none_list l2 (by omega)
 |bl=>
  cases ra
  cases py with
  |non=>
   cases rb
   exact SeqAt.RcNeAt.bool_none _
  |bl=>
   cases rb
   exact SeqAt.RcNeAt.bool_bool _ _
  |int=>
   obtain⟨t2,rfl⟩:=rb
   exact SeqAt.RcNeAt.bool_int _ _ _
  |str=>
   obtain⟨t2,rfl⟩:=rb
   exact SeqAt.RcNeAt.bool_str _ _ _
  | @tup a2 _ _ h2 r2=>
    cases rb
    obtain⟨its2,l2,_⟩:=bB I h2 r2
    exact SeqAt.RcNeAt.bool_tuple _ l2 (by omega)
  | @lst a2 _ _ h2 r2=>
    cases rb
    obtain⟨its2,l2,_⟩:=aH I (SqL.of h2) r2
    exact SeqAt.RcNeAt.bool_list _ l2 (by omega)
  | @scr a2 _ _ h2 r2=>
    cases rb
    obtain⟨its2,l2,_⟩:=aH I h2.seq r2
    exact SeqAt.RcNeAt.bool_list _ l2 (by omega)
 |int=>
  obtain⟨t1,rfl⟩:=ra
  cases py with
  |non=>
   cases rb
   exact SeqAt.RcNeAt.int_none _ _
  |bl=>
   cases rb
   exact SeqAt.RcNeAt.int_bool _ _ _
  |int=>
   obtain⟨t2,rfl⟩:=rb
   exact SeqAt.RcNeAt.int_int _ _ _ _
  |str=>
   obtain⟨t2,rfl⟩:=rb
   exact SeqAt.RcNeAt.int_str _ _ _ _
  | @tup a2 _ _ h2 r2=>
    cases rb
    obtain⟨its2,l2,_⟩:=bB I h2 r2
    exact SeqAt.RcNeAt.int_tuple _ _ l2 (by omega)
  | @lst a2 _ _ h2 r2=>
    cases rb
    obtain⟨its2,l2,_⟩:=aH I (SqL.of h2) r2
    exact SeqAt.RcNeAt.int_list _ _ l2 (by omega)
  | @scr a2 _ _ h2 r2=>
    cases rb
    obtain⟨its2,l2,_⟩:=aH I h2.seq r2
    exact SeqAt.RcNeAt.int_list _ _ l2 (by omega)
 |str=>
  obtain⟨t1,rfl⟩:=ra
  cases py with
  |non=>
   cases rb
   exact SeqAt.RcNeAt.str_none _ _
  |bl=>
   cases rb
   exact SeqAt.RcNeAt.str_bool _ _ _
  |int=>
   obtain⟨t2,rfl⟩:=rb
   exact SeqAt.RcNeAt.str_int _ _ _ _
  |str=>
   obtain⟨t2,rfl⟩:=rb
   exact SeqAt.RcNeAt.str_str _ _ _ _
  | @tup a2 _ _ h2 r2=>
    cases rb
    obtain⟨its2,l2,_⟩:=bB I h2 r2
    exact SeqAt.RcNeAt.str_tuple _ _ l2 (by omega)
  | @lst a2 _ _ h2 r2=>
    cases rb
    obtain⟨its2,l2,_⟩:=aH I (SqL.of h2) r2
    exact SeqAt.RcNeAt.str_list _ _ l2 (by omega)
  | @scr a2 _ _ h2 r2=>
    cases rb
    obtain⟨its2,l2,_⟩:=aH I h2.seq r2
    exact SeqAt.RcNeAt.str_list _ _ l2 (by omega)
 | @tup a1 _ _ h1 r1=>
   cases ra
   obtain⟨its,l1,_⟩:=bB I h1 r1
   cases py with
   |non=>
    cases rb
    exact SeqAt.RcNeAt.tuple_none l1 (by omega)
   |bl=>
    cases rb
    exact SeqAt.RcNeAt.tuple_bool _ l1 (by omega)
   |int=>
    obtain⟨t2,rfl⟩:=rb
    exact SeqAt.RcNeAt.tuple_int _ _ l1 (by omega)
   |str=>
    obtain⟨t2,rfl⟩:=rb
    exact SeqAt.RcNeAt.tuple_str _ _ l1 (by omega)
   | @tup a2 _ _ h2 r2=>
     cases rb
     obtain⟨its2,l2,_⟩:=bB I h2 r2
     exact(sG I IH (Nat.lt_succ_self _) (by unfold dr at hu;omega) h1 r1 h2 r2).2
   | @lst a2 _ _ h2 r2=>
     cases rb
     obtain⟨its2,l2,_⟩:=aH I (SqL.of h2) r2
     exact SeqAt.RcNeAt.tuple_list l1 l2 (by omega)
   | @scr a2 _ _ h2 r2=>
     cases rb
     obtain⟨its2,l2,_⟩:=aH I h2.seq r2
     exact SeqAt.RcNeAt.tuple_list l1 l2 (by omega)
 | @scr a1 _ _ h1 r1=>exact absurd hu (by unfold dr;omega)
 | @lst a1 _ _ h1 r1=>
   cases ra
   obtain⟨its,l1,_⟩:=aH I (SqL.of h1) r1
   cases py with
   |non=>
    cases rb
    exact SeqAt.RcNeAt.list_none l1 (by omega)
   |bl=>
    cases rb
    exact SeqAt.RcNeAt.list_bool _ l1 (by omega)
   |int=>
    obtain⟨t2,rfl⟩:=rb
    exact SeqAt.RcNeAt.list_int _ _ l1 (by omega)
   |str=>
    obtain⟨t2,rfl⟩:=rb
    exact SeqAt.RcNeAt.list_str _ _ l1 (by omega)
   | @tup a2 _ _ h2 r2=>
     cases rb
     obtain⟨its2,l2,_⟩:=bB I h2 r2
     exact SeqAt.RcNeAt.list_tuple l1 l2 (by omega)
   | @lst a2 _ _ h2 r2=>
     cases rb
     obtain⟨its2,l2,_⟩:=aH I (SqL.of h2) r2
     exact(iw I IH (Nat.lt_succ_self _) (by unfold dr at hu;omega) (SqL.of h1) r1 (SqL.of h2) r2).2
   | @scr a2 _ _ h2 r2=>
     cases rb
     obtain⟨its2,l2,_⟩:=aH I h2.seq r2
     exact(iw I IH (Nat.lt_succ_self _) (by unfold dr at hu;omega) (SqL.of h1) r1 h2.seq r2).2
end
theorem Rep1.full {K:W.Frag}{H:Hp}{hid:bj}{v:V}{d:D}(h:Rep1 K H (vw H hid) v d):Rep K H v d:=by
 rcases h with h|⟨a,xs,ds,rfl,rfl,h1,h2⟩
 ·exact h.mono (dU _ _)
 ·exact .lst h1 (h2.mono (dU _ _))
def BH(K:W.Frag):R2:=λv u H Q=> ∃x y,Rep K H v x/\Rep K H u y/\dr x<=32/\Q (.bl (cF x y)) H
def CI(K:W.Frag):R2:=λv u H Q=> ∃x y,Rep K H v x/\Rep K H u y/\dr x<=32/\Q (.bl (!cF x y)) H
theorem fR {X:Cx}(hu:X.A.units+64<cLine):jS X (compareOp .Eq) (BH X.K):=by
 intro ab s σ H x y v u Q I rx ry h;obtain⟨dx,dy,p1,p2,hd,q⟩:=h
 exact AG I (by omega) (by omega) rx ry p1 p2 X.prog X.w _ _ ⟨.bl _,H,I,rfl,q⟩
theorem jo {X:Cx}(hu:X.A.units+64<cLine):jS X (compareOp .NotEq) (CI X.K):=by
 intro ab s σ H x y v u Q I rx ry h;obtain⟨dx,dy,p1,p2,hd,q⟩:=h
 exact vj I (by omega) (by omega) rx ry p1 p2 X.prog X.w _ _ ⟨.bl _,H,I,rfl,q⟩
def hZ:D->D->Option D:=λx y=>if dr x<=32 then some (.bl (cF x y)) else none
def kL:D->D->Option D:=λx y=>if dr x<=32 then some (.bl (!cF x y)) else none
theorem ie {K:W.Frag}:lT K .s (BH K) hZ:=by
 intro H hid v u x y d Q hf h r1 r2 q;unfold hZ at h;split at h
 ·cases h;exact⟨x,y,r1.full,r2.full, ‹_›,q _ H (Same.refl _) .bl⟩
 ·cases h
theorem mM {K:W.Frag}:lT K .s (CI K) kL:=by
 intro H hid v u x y d Q hf h r1 r2 q;unfold kL at h;split at h
 ·cases h;exact⟨x,y,r1.full,r2.full, ‹_›,q _ H (Same.refl _) .bl⟩
 ·cases h
theorem lm {X:Cx}{ab:List (Addr×Obj)}{σ:St}{H:Hp}{s:Shared}(I:Inv X ab σ H s){x:D}{v:V}{a:Value}{A:Around}(hx:Rep X.K H v x)(ra:RelV v a): ∀ {ds:List D} {xs:List V} {its:List Value},Reps X.K H xs ds->Vals xs its->A.units+cE ds<cLine->
 ∃e:Value->Bool,(∀y,y∈its->SeqAt.EqAt A s y a (e y))/\its.any e=ds.any (λd=>cF d x):=by
 intro ds xs its r rv hu
 classical
 let e:Value->Bool:=λy=>if h: ∃(d:D) (u:V),RelV u y/\Rep X.K H u d then cF h.choose x else false
 have key: ∀y u d,RelV u y->Rep X.K H u d->e y=cF d x:=λy u d h1 h2=>by
  have hex: ∃(d:D) (u:V),RelV u y/\Rep X.K H u d:=⟨d,u,h1,h2⟩
  show(if h: ∃(d:D) (u:V),RelV u y/\Rep X.K H u d then cF h.choose x else false)=cF d x
  rw[dif_pos hex];obtain⟨u',s1,s2⟩:=hex.choose_spec
  have eu:u'=u:=s1.inj h1
  rw[eu] at s2;exact Rep.eqv I s2 h2 x
 refine⟨e,?_,?_⟩
 ·induction rv generalizing ds with
  |nil=>intro y hy;cases hy
  |cons r1 t ih=>
   cases r with
   |cons p1 pt=>
    rename_i d ds;intro y hy;have hm:dr d<=cE (d::ds):=jL (i:=0) rfl
    have hm2:cE ds<=cE (d::ds):=by conv=>rhs;unfold cE
                                   exact Nat.le_max_right _ _
    rcases List.mem_cons.mp hy with rfl|hy
    ·rw[key _ _ _ r1 p1]
     exact kC I (dr d+1) (Nat.lt_succ_self _) (by omega) r1 ra p1 hx
    ·exact ih pt (by omega) y hy
 ·induction rv generalizing ds with
  |nil=>cases r;rfl
  |cons r1 t ih=>
   cases r with
   |cons p1 pt=>
    rename_i d ds;have hm2:cE ds<=cE (d::ds):=by conv=>rhs;unfold cE
                                                 exact Nat.le_max_right _ _
    rw[List.any_cons,List.any_cons,key _ _ _ r1 p1,ih pt (by omega)]
def Al(K:W.Frag)(neg:Bool):R2:=λv u H Q=> ∃x ds a xs,Rep K H v x/\u=.ref a/\(SqL K H a xs\/SqT K H a xs)/\Reps K H xs ds/\cE ds<=32/\Q (.bl (if neg then !ds.any (λd=>cF d x) else ds.any λd=>cF d x)) H
theorem A9 {X:Cx}(hu:X.A.units+64<cLine):jS X (compareOp .In) (Al X.K false):=by
 intro ab s σ H v w a b Q I rx ry h;obtain⟨x,ds,p,xs,hx,rfl,hq,r,hd,q⟩:=h
 cases ry
 rcases hq with hq|hq
 ·obtain⟨its,rv,pl,hz⟩:=I.list hq
  obtain⟨e,h1,h2⟩:=lm (A:=X.A.in1) I hx rx r rv (by rw[dY];omega)
  refine SeqAt.in_listAt e pl.isList (λy hy=>h1 y (by simpa using hy)) ⟨.bl _,H,I,rfl,?_⟩
  rw[show its.toArray.any e=its.any e by simp,h2]
  exact q
 ·obtain⟨its,rv,pl,hz⟩:=I.tuple hq
  obtain⟨e,h1,h2⟩:=lm (A:=X.A.in1) I hx rx r rv (by rw[dY];omega)
  refine SeqAt.in_tupleAt e pl (λy hy=>h1 y (by simpa using hy)) ⟨.bl _,H,I,rfl,?_⟩
  rw[show its.toArray.any e=its.any e by simp,h2]
  exact q
theorem uK {X:Cx}(hu:X.A.units+64<cLine):jS X (compareOp .NotIn) (Al X.K true):=by
 intro ab s σ H v w a b Q I rx ry h;obtain⟨x,ds,p,xs,hx,rfl,hq,r,hd,q⟩:=h
 cases ry
 rcases hq with hq|hq
 ·obtain⟨its,rv,pl,hz⟩:=I.list hq
  obtain⟨e,h1,h2⟩:=lm (A:=X.A.in1) I hx rx r rv (by rw[dY];omega)
  refine SeqAt.notIn_listAt e pl.isList (λy hy=>h1 y (by simpa using hy)) ⟨.bl _,H,I,rfl,?_⟩
  rw[show its.toArray.any e=its.any e by simp,h2]
  exact q
 ·obtain⟨its,rv,pl,hz⟩:=I.tuple hq
  obtain⟨e,h1,h2⟩:=lm (A:=X.A.in1) I hx rx r rv (by rw[dY];omega)
  refine SeqAt.notIn_tupleAt e pl (λy hy=>h1 y (by simpa using hy)) ⟨.bl _,H,I,rfl,?_⟩
  rw[show its.toArray.any e=its.any e by simp,h2]
  exact q
def rk:D->Option (List D)
 | .lst ds=>some ds
 | .tup ds=>some ds
 |_=>none
def sP(neg:Bool):D->D->Option D:=λx y=>match rk y with
 |some ds=>if cE ds<=32 then some (.bl (if neg then !ds.any (λd=>cF d x) else ds.any λd=>cF d x)) else none
 |none=>none
theorem zC {K:W.Frag}(neg:Bool):lT K .s (Al K neg) (sP neg):=by
 intro H hid v u x y d Q hf h r1 r2 q;unfold sP at h;split at h
 ·split at h
  ·rename_i ds e _
   cases h
   cases y with
   |lst zs=>
    cases e
    obtain⟨a,xs,rfl,h1,h2⟩:=r2.lst
    exact⟨x,_,a,xs,r1.full,rfl,.inl h1,h2.mono (dU _ _), ‹_›,q _ H (Same.refl _) .bl⟩
   |tup zs=>
    cases e
    obtain⟨a,xs,rfl,_,h1,h2⟩:=r2.tup
    exact⟨x,_,a,xs,r1.full,rfl,.inr h1,h2.mono (dU _ _), ‹_›,q _ H (Same.refl _) .bl⟩
   |_=>cases e
  ·cases h
 ·cases h
def D6(T:String):D->Bool
 | .non=>T=="NoneType"
 | .bl _=>T=="bool"||T=="int"
 | .int _=>T=="int"
 | .str _=>T=="str"
 | .tup _=>T=="tuple"
 | .lst _=>T=="list"
 | .scr _=>T=="list"
structure KT(T:String):Prop where
 n: ∀K,W.kitOne K (.type "NoneType") (.type T)=some (T=="NoneType")
 b: ∀K,W.kitOne K (.type "bool") (.type T)=some (T=="bool"||T=="int")
 i: ∀K,W.kitOne K (.type "int") (.type T)=some (T=="int")
 s: ∀K,W.kitOne K (.type "str") (.type T)=some (T=="str")
 t: ∀K,W.kitOne K (.type "tuple") (.type T)=some (T=="tuple")
 l: ∀K,W.kitOne K (.type "list") (.type T)=some (T=="list")
theorem tS:KT "bool":=⟨λ_=>by kernel_rfl,λ_=>by kernel_rfl,λ_=>by kernel_rfl,λ_=>by kernel_rfl,λ_=>by kernel_rfl,λ_=>by kernel_rfl⟩
theorem tZ:KT "list":=⟨λ_=>by kernel_rfl,λ_=>by kernel_rfl,λ_=>by kernel_rfl,λ_=>by kernel_rfl,λ_=>by kernel_rfl,λ_=>by kernel_rfl⟩
theorem vM:KT "tuple":=⟨λ_=>by kernel_rfl,λ_=>by kernel_rfl,λ_=>by kernel_rfl,λ_=>by kernel_rfl,λ_=>by kernel_rfl,λ_=>by kernel_rfl⟩
section
variable {X:Cx}{c:Ct}{e o:Expr}{k:Kd}{f g:FE}{pos p p2:Pos}
theorem vO {T:String}(kt:KT T):fm X (.builtin "isinstance") (λxs H Q=> ∃v d,xs=[v,.ty T]/\Rep X.K H v d/\Q (.bl (D6 T d)) H):=by
 intro ab s σ H xs us Q I r h;obtain⟨v,d,rfl,rp,q⟩:=h
 obtain⟨u,w',rfl,rx,ry⟩:=v4 r
 cases ry
 have fin: ∀tk,EP X ab σ Q (.bool (D6 T d)) {s with toks:=tk}:=λtk=>⟨.bl _,H,I.tok _,rfl,q⟩
 cases rp with
 |non=>cases rx;exact W.kia_one W.kitx_none I.kIn True.intro (kt.n _) (λz=>nomatch z) fin
 |bl=>cases rx;exact W.kia_one W.kitx_bool I.kIn True.intro (kt.b _) (λz=>nomatch z) fin
 |int=>obtain⟨t,rfl⟩:=rx;exact W.kia_one W.kitx_int I.kIn True.intro (kt.i _) (λz=>nomatch z) fin
 |str=>obtain⟨t,rfl⟩:=rx;exact W.kia_one W.kitx_str I.kIn True.intro (kt.s _) (λz=>nomatch z) fin
 |tup h1 h2=>
  cases rx
  obtain⟨⟨ob,ho,hc⟩,_⟩:=I.tupleN h1
  exact W.kia_one W.kitx_tuple I.kIn ⟨ob,ho,hc⟩ (kt.t _) (λz=>nomatch z) fin
 |lst h1 h2=>
  cases rx
  obtain⟨its,_,⟨ob,n,ho,hc,_⟩,_⟩:=I.list (SqL.of h1)
  exact W.kia_one W.kitx_list I.kIn ⟨ob,ho,hc⟩ (kt.l _) (λz=>nomatch z) fin
 |scr h1 h2=>
  cases rx
  obtain⟨its,_,⟨ob,n,ho,hc,_⟩,_⟩:=I.list h1.seq
  exact W.kia_one W.kitx_list I.kIn ⟨ob,ho,hc⟩ (kt.l _) (λz=>nomatch z) fin
def kS(T:String)(f:FE):FE:=λρ=>(f ρ).map λd=>.bl (D6 T d)
theorem mV(T:String){y:Str}(kt:KT T)(he:DP X c k e f)(hm:X.mg "isinstance"=none)(hmT:X.mg y=none)(hg:Gl X "isinstance":=by rfl)(hgT:Gl X y:=by rfl)(hv:bootBuiltins "isinstance"=some (.builtin "isinstance"):=by kernel_rfl)(hvT:bootBuiltins y=some (.type T):=by kernel_rfl)(hn:y≠"__name__":=by decide)(hd:(y==("__debug__":Str))=false:=by decide)
 (hs1:starEach [e,.Name y p2] X.env=(false,eval e X.env)::starEach [.Name y p2] X.env:=by rfl) (hs2:starEach [.Name y p2] X.env=(false,eval (.Name y p2) X.env)::starEach [] X.env:=by rfl) (hpl:(backTo pos (starEach [.Name y p2] X.env)).any (·.1)=false:=by rfl):
 DP X c .s (.Call (.Name "isinstance" p) [e,.Name y p2] [] pos) (kS T f):=λhid ρ=>
 PE.imp (mK (vO kt) hg hm hv (bw (he hid ρ) (bw (yS (v:=.ty T) hgT hmT hvT rfl hn hd) ee hs2) hs1) (by decide) (by decide) hs1 hpl) λσ H Q hq_=>by
  obtain⟨sr,d,hd,q⟩:=hq_
  unfold kS at hd;cases e1:f ρ with
  |none=>rw[e1] at hd;cases hd
  |some z=>
   rw[e1] at hd;cases hd;exact⟨sr,z,e1,λv H' s' r=>⟨v,z,rfl,(RK.b k r λa n=>sr.fresh n).full,q _ H' s' .bl⟩⟩
def jd:List D->Option (List Bool)
 | []=>some []
 | .bl b::r=>(jd r).map (b:: ·)
 |_=>none
theorem ql: ∀ {ds:List D} {bs:List Bool} {i:Nat} {d:D},jd ds=some bs->ds[i]? =some d-> ∃b,d=.bl b/\bs[i]? =some b
 | [],_,_,_,_,h=>by simp at h
 |x::r,bs,i,d,h,e=>by
  cases x with
  |bl b=>
   unfold jd at h;cases e1:jd r with
   |none=>rw[e1] at h;cases h
   |some rs=>
    rw[e1] at h;cases h;cases i with
    |zero=>simp at e;subst e;exact⟨b,rfl,rfl⟩
    |succ i=>
     obtain⟨b',h1,h2⟩:=ql (i:=i) e1 (by simpa using e)
     exact⟨b',h1,by simpa using h2⟩
  |_=>cases h
theorem pW: ∀ {ds:List D} {bs:List Bool},jd ds=some bs->ds.length=bs.length
 | [],_,h=>by cases h;rfl
 |x::r,bs,h=>by
  cases x with
  |bl b=>
   unfold jd at h;cases e1:jd r with
   |none=>rw[e1] at h;cases h
   |some rs=>rw[e1] at h;cases h;simp[pW e1]
  |_=>cases h
theorem u2(bs:List Bool):(List.range bs.length).any (λi=>bs.getD i false)=bs.any id:=by
 induction bs with
 |nil=>rfl
 |cons b bs ih=>
  rw[List.length_cons,List.range_succ_eq_map,List.any_cons,List.any_map,List.any_cons];rw[show((λi=>(b::bs).getD i false)∘Nat.succ)=λi=>bs.getD i false by funext i;simp[List.getD],ih]
  rfl
theorem rB {ab:List (Addr×Obj)}{σ:St}{H:Hp}{s:Shared}{a:Addr}{xs:List V}{ds:List D}{bs:List Bool}(I:Inv X ab σ H s)(h1:SqL X.K H a xs)(h2:Reps X.K H xs ds)(hb:jd ds=some bs)(hc:X.calm=true){E:Value->Shared->Prop}{R:Value->Shared->Prop}
 (hR: ∀(J:Addr) (s2:Shared) (its:Array Value) (hl:its.size=bs.length),Walks X.prog X.w X.A.in1 J [J,a] [J] its.size (λi v=>its[i]? =some v) (λi h=>h.IsListIter J a i/\h.IsList a its)->s2.heap.IsListIter J a 0->s2.heap.IsList a its->TruthOf X.prog X.w X.A.in1 (λi v=>its[i]? =some v) (λi=>bs.getD i false)->
   (∀h' tk,(∀b o,b∉ [J]->s2.heap.get? b=some o->h'.get? b=some o)->Inv X ab σ H {s2 with heap:=h',toks:=tk})->R (.ref J) s2):wpAny (model X.prog X.w) X.A.in1 (pyIter (.ref a)) R E s:=by
 obtain⟨its,rv,pl,hz⟩:=I.list h1
 have l1:=rv.length
 have l2:=h2.length
 have l3:=pW hb
 have hlt:a<s.heap.objs.size:=by obtain⟨o,n,e,_⟩:=pl;exact Heap.lt_size e
 refine wpAny_pyIter_list pl.isList (hR s.heap.objs.size _ its.toArray (by simp;omega) (Walks.list (A:=X.A.in1) (I.ok.hd hc) _ a (Nat.ne_of_lt hlt) its.toArray) ⟨_,Heap.get?_push_size _ rfl,rfl,rfl⟩ ?_ ?_ ?_)
 ·obtain⟨o,ho,q⟩:=pl.isList
  exact⟨o,Heap.get?_push_of_some _ ho,q⟩
 ·intro i v s' Q E hv hq
  have hv':its[i]? =some v:=by simpa using hv
  have hi:=(List.getElem?_eq_some_iff.mp hv').1
  have ex:xs[i]? =some xs[i]:=List.getElem?_eq_getElem (by omega)
  obtain⟨u,e1,r1⟩:=rv.get ex
  rw[hv'] at e1;cases e1;obtain⟨d,e2,r2⟩:=h2.get' ex
  obtain⟨b,rfl,e3⟩:=ql hb e2
  rcases hx:xs[i] with _|_|_|_|_|_|_|_<;>rw[hx] at r1 r2<;>cases r2
  cases r1
  have:bs.getD i false=b:=by simp[List.getD,e3]
  dsimp only at hq;rw[this] at hq;exact wpAny_truthy_bool hq
 ·intro h' tk hk
  refine I.kept λb o e=>hk b o (λhm=>?_) (Heap.get?_push_of_some _ e)
  have:b=s.heap.objs.size:=by simpa using hm
  exact absurd (this▸Heap.lt_size e) (Nat.lt_irrefl _)
theorem vo(hc:X.calm=true):fm X (.builtin "any") (λxs H Q=> ∃a ys ds bs,xs=[.ref a]/\SqL X.K H a ys/\Reps X.K H ys ds/\jd ds=some bs/\Q (.bl (bs.any id)) H):=by
 intro ab s σ H xs us Q I r h;obtain⟨a,ys,ds,bs,rfl,h1,h2,h3,q⟩:=h
 obtain⟨u,rfl,rx⟩:=hX r
 cases rx
 refine call_any_walk (rB I h1 h2 h3 hc λJ s2 its hl W st1 st2 tr kp=>?_)
 refine⟨J,_,_,_,_,_,_,rfl,W,⟨st1,st2⟩,tr,λh' tk hk=>⟨.bl _,H,kp h' tk hk,rfl,?_⟩⟩
 rw[hl,u2];exact q
def p9:List D->Option D
 | [.lst ds]=>(jd ds).map λbs=>.bl (bs.any id)
 |_=>none
theorem Aj:hV X.K .s (λxs H Q=> ∃a ys ds bs,xs=[.ref a]/\SqL X.K H a ys/\Reps X.K H ys ds/\jd ds=some bs/\Q (.bl (bs.any id)) H) p9:=by
 intro H hid vs ds d Q hf h r q;unfold p9 at h;split at h
 ·rename_i zs
  cases e1:jd zs with
  |none=>rw[e1] at h;cases h
  |some bs=>
   rw[e1] at h;cases h;obtain⟨x,rfl,r1⟩:=Reps1.one r
   obtain⟨a,xs,rfl,h1,h2⟩:=r1.lst
   exact⟨a,xs,zs,bs,rfl,h1,h2.mono (dU _ _),e1,q _ H (Same.refl _) .bl⟩
 ·cases h
def fY:List D->Option (List Int)
 | []=>some []
 | .int b::r=>(fY r).map (b:: ·)
 |_=>none
theorem iq: ∀ {ds:List D} {ns:List Int},fY ds=some ns->ds=ns.map D.int
 | [],_,h=>by cases h;rfl
 |x::r,bs,h=>by
  cases x with
  |int b=>
   unfold fY at h;cases e1:fY r with
   |none=>rw[e1] at h;cases h
   |some rs=>rw[e1] at h;cases h;simp[iq e1]
  |_=>cases h
theorem iU {K:W.Frag}{F:Hp}: ∀ {ns:List Int} {xs:List V},Reps K F xs (ns.map D.int)->xs=ns.map V.int
 | [],_,.nil=>rfl
 |n::ns,_,.cons r t=>by cases r;rw[iU t];rfl
def kf:List Int->Int
 | []=>0
 |a::r=>r.foldl (λm b=>if b<m then b else m) a
theorem qu(r:List Int): ∀a:Int,r.foldl (λm b=>if b<m then b else m) a∈a::r/\ ∀x∈a::r,r.foldl (λm b=>if b<m then b else m) a<=x:=by
 induction r with
 |nil=>intro a;simp
 |cons b r ih=>
  intro a;rw[List.foldl_cons];obtain⟨h1,h2⟩:=ih (if b<a then b else a)
  have h3:=h2 (if b<a then b else a) List.mem_cons_self
  refine⟨?_,λx hx=>?_⟩
  ·rcases List.mem_cons.mp h1 with e|e
   ·rw[e];split<;>simp
   ·exact List.mem_cons_of_mem _ (List.mem_cons_of_mem _ e)
  ·rcases List.mem_cons.mp hx with rfl|hx
   ·split at h3<;>split<;>omega
   ·rcases List.mem_cons.mp hx with rfl|hx
    ·split at h3<;>split<;>omega
    ·exact h2 x (List.mem_cons_of_mem _ hx)
theorem xv: ∀(ns:List Int),ns≠[]->kf ns∈ns/\ ∀a∈ns,kf ns<=a
 | [],h=>absurd rfl h
 |a::r,_=>qu r a
theorem u4 {ns:List Int}{m:Int}(h1:m∈ns)(h2: ∀a∈ns,m<=a):m=kf ns:=by
 obtain⟨g1,g2⟩:=xv ns (by intro e;subst e;simp at h1)
 have:=h2 _ g1
 have:=g2 _ h1
 omega
theorem uC(hc:X.calm=true):fm X (.builtin "min") (λxs H Q=> ∃a ns,xs=[.ref a]/\SqL X.K H a (ns.map V.int)/\ns≠[]/\Q (.int (kf ns)) H):=by
 intro ab s σ H xs us Q I r h;obtain⟨a,ns,rfl,h1,h2,q⟩:=h
 obtain⟨u,rfl,rx⟩:=hX r
 cases rx
 obtain⟨its,rv,pl,hz⟩:=I.list h1
 have hi:IntsAre its ns:=sf rv
 obtain⟨xs,e⟩:=hi.allInts.items
 have hns:ns=xs.toList.map (·.1):=by rw[<-hi.numsOf,<-nums_intItems,<-e]
 have hsz:0<xs.size:=by
  have:0<ns.length:=by cases ns with|nil=>exact absurd rfl h2|cons=>simp
  rw[hns,List.length_map,Array.length_toList] at this;exact this
 have hl:=pl.isList
 rw[e] at hl;refine min_intList (I.ok.hd hc) hl hsz λv h' tk hv hk=>?_
 obtain⟨t,rfl⟩:=intItems_at hv
 obtain⟨g1,g2⟩:=argBest_lt (numAt xs) (xs.size-1)
 have em:numAt xs (argBest (λi j=>decide (numAt xs i<numAt xs j)) (xs.size-1))=kf ns:=by
  refine u4 ?_ λa ha=>?_
  ·rw[hns,numAt_eq];exact getD_mem (by rw[List.length_map,Array.length_toList];omega)
  ·rw[hns] at ha
   obtain⟨j,hj,rfl⟩:=mem_getD ha
   rw[List.length_map,Array.length_toList] at hj;rw[<-numAt_eq];exact g2 j (by omega)
 exact⟨.int (kf ns),H,I.kept hk,⟨t,by rw[<-em]⟩,q⟩
def nL:List D->Option D
 | [.lst ds]=>(fY ds).bind λns=>if ns.isEmpty then none else some (.int (kf ns))
 |_=>none
theorem yN:hV X.K .s (λxs H Q=> ∃a ns,xs=[.ref a]/\SqL X.K H a (ns.map V.int)/\ns≠[]/\Q (.int (kf ns)) H) nL:=by
 intro H hid vs ds d Q hf h r q;unfold nL at h;split at h
 ·rename_i zs
  cases e1:fY zs with
  |none=>rw[e1] at h;cases h
  |some ns=>
   rw[e1] at h;have h:(if ns.isEmpty then none else some (D.int (kf ns)))=some d:=h
   split at h
   ·cases h
   ·cases h
    obtain⟨x,rfl,r1⟩:=Reps1.one r
    obtain⟨a,xs,rfl,h1,h2⟩:=r1.lst
    rw[iq e1] at h2;rw[iU h2] at h1;exact⟨a,ns,rfl,h1,(by intro e;subst e;simp at*),q _ H (Same.refl _) .int⟩
 ·cases h
end
end L2
namespace PySem.SeqAt
open AutoSeq1 (wpAny_loadPart')
open MeetsSeq MeetsSeq2 MeetsSeq3 SeqRoads2
theorem lg {M:Model}{A:Around}{E:Value->Shared->Prop}{s:Shared}{β:Type}(f:Nat->β->Sem (ForInStep β))(I:List Nat->β->Shared->Prop)(Q:β->Shared->Prop)
 (turn: ∀x rest b s,I (x::rest) b s->wpAny M A (f x b) (λr s'=>match r with| .yield b'=>I rest b' s'| .done b'=>Q b' s') E s)
 (fin: ∀b s,I [] b s->Q b s) (a b:Nat) (c:β) (h:I (List.range' a (b-a)) c s):wpAny M A (forIn [a:b] c f) Q E s:=by
 rw[Std.Legacy.Range.forIn_eq_forIn_range'];have hsz:([a:b]:Std.Legacy.Range).size=b-a:=by simp[Std.Legacy.Range.size]
 show wpAny M A (forIn (List.range' a ([a:b]:Std.Legacy.Range).size 1) c f) Q E s;rw[hsz];exact wpAny_forIn_list f I Q turn fin _ c h
theorem tuple_indexAt(l:Addr)(items:Array Value)(n:Nat)(dd:Option Addr)(sl:Array (Option Value))(x:Value)(e:Value->Bool)(j:Nat)(hj:j<items.size)(hit:e items[j]=true)(hno: ∀m (hm:m<items.size),m<j->e items[m]=false):
 Meets (Builtin.«tuple.index» ⟨[.ref l,x],[]⟩)
  (λA R s=>s.heap.get? l=some {cls:=.type "tuple",dict:=dd,data:=.seq items n,slots:=sl}/\(∀y,y∈items->EqAt A.in1 s y x (e y))/\R (.ok (.ret (.int j s.toks))) {s with toks:=s.toks+1}):=
 .of_wp λprog w A R s h=>by
  obtain⟨hp,g,d,tk,os⟩:=s;obtain⟨hl,he,h⟩:=h
  wp_walk using wpAny_loadPart' hl,lg _ (λrest b s'=>b.1=none/\s'=⟨hp,g,d,tk,os⟩/\ ∃i,i<=j/\rest=List.range' i (items.size-i)) _
  case turn=>
   rintro y rest b s' ⟨hb,rfl,i,hij,hz⟩
   have lt:i<items.size:=by omega
   have er:List.range' i (items.size-i)=i::List.range' (i+1) (items.size- (i+1)):=by
    rw[show items.size-i=(items.size- (i+1))+1 by omega];rfl
   rw[er] at hz;injection hz with e1 e2
   subst e1 e2;rw[show items[y]? =some items[y] by simp[lt]]
   refine wpAny_bind (he _ (Array.getElem_mem lt) prog w _ _ ?_)
   by_cases ej:y=j
   ·subst ej
    rw[hit]
    wp_walk
    exact⟨_,rfl,h⟩
   ·rw[hno y lt (by omega)]
    wp_walk
    exact⟨rfl,rfl,y+1,by omega,rfl⟩
  case fin=>
   rintro⟨b1,b2⟩ s' ⟨hb,rfl,i,hij,hz⟩
   have:=congrArg List.length hz
   simp at this;omega
  case h=>
   exact⟨rfl,rfl,0,Nat.zero_le _,by simp⟩
end PySem.SeqAt
namespace L2
open PySem PySem.Spec PyProof.Rows
def qj(ds:List D)(x:D):Option Nat:=ds.findIdx? λd=>cF d x
theorem x8 {X:Cx}{ab:List (Addr×Obj)}{σ:St}{H:Hp}{s:Shared}(I:Inv X ab σ H s){x:D}{v:V}{a:Value}{A:Around}(hx:Rep X.K H v x)(ra:RelV v a): ∀ {ds:List D} {xs:List V} {its:List Value},Reps X.K H xs ds->Vals xs its->A.units+cE ds<cLine->
 ∃e:Value->Bool,(∀y,y∈its->SeqAt.EqAt A s y a (e y))/\ ∀(j:Nat) (hj:j<its.length) (d:D),ds[j]? =some d->e its[j]=cF d x:=by
 intro ds xs its r rv hu
 classical
 let e:Value->Bool:=λy=>if h: ∃(d:D) (u:V),RelV u y/\Rep X.K H u d then cF h.choose x else false
 have key: ∀y u d,RelV u y->Rep X.K H u d->e y=cF d x:=λy u d h1 h2=>by
  have hex: ∃(d:D) (u:V),RelV u y/\Rep X.K H u d:=⟨d,u,h1,h2⟩
  show(if h: ∃(d:D) (u:V),RelV u y/\Rep X.K H u d then cF h.choose x else false)=cF d x
  rw[dif_pos hex];obtain⟨u',s1,s2⟩:=hex.choose_spec
  have eu:u'=u:=s1.inj h1
  rw[eu] at s2;exact Rep.eqv I s2 h2 x
 have l1:=rv.length
 have l2:=r.length
 have at': ∀(j:Nat) (hj:j<its.length),∃u d,ds[j]? =some d/\RelV u its[j]/\Rep X.K H u d:=λj hj=>by
  have ex:xs[j]? =some xs[j]:=List.getElem?_eq_getElem (by omega)
  obtain⟨w,e1,r1⟩:=rv.get ex
  obtain⟨d,e2,r2⟩:=r.get' ex
  have:its[j]=w:=by rw[List.getElem?_eq_getElem hj] at e1;exact Option.some.inj e1
  rw[this];exact⟨_,d,e2,r1,r2⟩
 refine⟨e,λy hy=>?_,λj hj d hd=>?_⟩
 ·obtain⟨j,hj,rfl⟩:=List.mem_iff_getElem.mp hy
  obtain⟨u,d,e1,r1,r2⟩:=at' j hj
  rw[key _ _ _ r1 r2];have:=jL e1
  exact kC I (dr d+1) (Nat.lt_succ_self _) (by omega) r1 ra r2 hx
 ·obtain⟨u,d',e1,r1,r2⟩:=at' j hj
  rw[hd] at e1;cases e1;exact key _ _ _ r1 r2
section
variable {X:Cx}{c:Ct}{e o:Expr}{k k2:Kd}{f g:FE}{pos p p2 apos:Pos}
theorem qq(hu:X.A.units+64<cLine):Ed X "tuple.index" (λv vs H Q=> ∃a xs ds x y j,v=.ref a/\vs=[x]/\SqT X.K H a xs/\Reps X.K H xs ds/\Rep X.K H x y/\cE ds<=32/\qj ds y=some j/\Q (.int j) H):=by
 intro ab s σ H v vs u us Q I rv rs h;obtain⟨a,xs,ds,x,y,j,rfl,rfl,h1,h2,h3,h4,h5,q⟩:=h
 cases rv
 obtain⟨w,rfl,rw'⟩:=hX rs
 obtain⟨its,r,pl,hz⟩:=I.tuple h1
 have l1:=r.length
 have l2:=h2.length
 obtain⟨e,g1,g2⟩:=x8 (A:=X.A.in1.in1) I h3 rw' h2 r (by rw[dY,dY];omega)
 unfold qj at h5;rw[List.findIdx?_eq_some_iff_getElem] at h5;obtain⟨hj,hp,hno⟩:=h5
 obtain⟨⟨cls,dd,data,sl⟩,ho,hc,n,hd⟩:=id pl
 simp only at hc hd;subst hc hd;have hj':j<its.length:=by omega
 have gt: ∀m (hm:m<its.length) (hm2:m<ds.length),e its[m]=cF ds[m] y:=λm hm hm2=>g2 m hm _ (List.getElem?_eq_getElem hm2)
 refine call_meets PySem.F.slot_tuple_index ⟨_,ho,rfl⟩ PySem.F.entry_tuple_index (PySem.F.args_tuple_index_2 _ _) (SeqAt.tuple_indexAt a its.toArray n dd sl w e j (by simpa using hj') ?_ ?_) ⟨ho,?_,?_⟩
 ·simp only[List.getElem_toArray];rw[gt j hj' hj];exact hp
 ·intro m hm hmj
  simp only[List.getElem_toArray];rw[gt m (by simpa using hm) (by omega)]
  have:=hno m hmj
  simpa using this
 ·intro z hz'
  exact SeqAt.EqAt.of_in1 (g1 z (by simpa using hz'))
 ·exact⟨.int j,H,I.tok _,⟨_,rfl⟩,q⟩
end
section
variable {X:Cx}{c:Ct}{e o:Expr}{k k2:Kd}{f g:FE}{pos p p2 apos:Pos}
def jG:D->D->Option D:=λt x=>match t with
 | .tup ds=>if cE ds<=32 then(qj ds x).map λj=>.int j else none
 |_=>none
theorem fu(hu:X.A.units+64<cLine)(ho:DP X c k o f)(he:DP X c k2 e g)
 (hbase:attributeBase o "index" X.env (eval o X.env)=eval o X.env:=by rfl)
 (hfew:((backTo pos (starEach [e] X.env)).all (λx=> !x.1)&&(backToKw pos (keywordEach [] X.env)).all (λx=>x.1.isSome)
   &&decide (([e]:List Expr).length+([]:List Keyword).length+(if([]:List Keyword).isEmpty then 0 else 1)<30))=true:=by rfl)
 (hline:(apos.endLine==pos.line)=true:=by rfl) (hs:starEach [e] X.env=(false,eval e X.env)::starEach [] X.env:=by rfl) (hplain:(backTo pos (starEach [] X.env)).any (·.1)=false:=by rfl):
 DP X c .s (.Call (.Attribute o "index" apos) [e] [] pos) (ak jG f g):=λhid ρ=>
 PE.imp (qw PySem.F.plainAttrs_tuple PySem.F.slot_tuple_index PySem.F.type_tuple_index (qq hu) (ho hid ρ) (bw (he hid ρ) ee hs) hbase hfew hline hs hplain) λσ H Q hq_=>by
  obtain⟨sr,d,hd,q⟩:=hq_
  obtain⟨x,y,e1,e2,e3⟩:=qm hd
  unfold jG at e3;split at e3
  ·split at e3
   ·rename_i ds _
    cases e4:qj ds y with
    |none=>rw[e4] at e3;cases e3
    |some j=>
     rw[e4] at e3;cases e3;refine⟨sr,_,e1,λv H1 s1 r1=>?_⟩
     have b1:=RK.b k r1 λa n=>sr.fresh n
     obtain⟨a,xs,rfl,t1,t2,t3⟩:=b1.tup
     refine⟨.inr (.inl ⟨rfl,xs,t2⟩),sr.ext s1,y,e2,λu H2 s2 r2=>?_⟩
     have b2:=RK.b k2 r2 λa n=>(sr.ext s1).fresh n
     exact⟨a,xs,ds,u,y,j,rfl,rfl,Same.seqT s2 t2,(t3.mono (aK s2)).mono (dU _ _),b2.full, ‹_›,e4,q _ H2 (s1.trans s2) .int⟩
   ·cases e3
  ·cases e3
theorem uF:fm X (.type "range") (λxs H Q=> ∃j:Int,xs=[.int j]/\ ∀p,H p=none->Q (.ref p) (bq H p (.rng 0 j))):=by
 intro ab s σ H xs us Q I r h;obtain⟨j,rfl,q⟩:=h
 obtain⟨u,rfl,t,rfl⟩:=hX r
 refine call_range_1 ⟨.ref s.heap.objs.size,_,I.laid (λb o e=>Heap.get?_push_of_some _ e) (Nat.le_refl _) ?_,rfl,q _ (I.hok.fresh (Nat.le_refl _))⟩
 exact⟨_,_,_,Heap.get?_push_size _ rfl⟩
theorem BX(lo:Int)(n:Nat): ∀ {K:W.Frag} {F:Hp},Reps K F ((List.range n).map λ(i:Nat)=>V.int (lo+i)) (qy lo n):=by
 intro K F;unfold qy
 generalize List.range n=l
 induction l with
 |nil=>exact .nil
 |cons a l ih=>exact .cons .int ih
theorem mZ(hc:X.calm=true):fm X (.type "list") (λxs H Q=> ∃p lo hi,xs=[.ref p]/\H p=some (.rng lo hi)/\ -(2^30)<=lo/\lo<=2^30/\ -(2^30)<=hi/\hi-lo<=1000000/\hi<=2^31/\ ∀l,H l=none->Q (.ref l) (bq H l (.lst ((List.range (hi-lo).toNat).map λ(i:Nat)=>V.int (lo+i))))):=by
 intro ab s σ H xs us Q I r h;obtain⟨p,lo,hi,rfl,hp,b1,b2,b3,b4,b5,q⟩:=h
 obtain⟨u,rfl,rx⟩:=hX r
 cases rx
 obtain⟨t,u,v,hr⟩:=I.hok p _ hp
 have hsz:Builtin.Range.rangeSize lo hi 1=(hi-lo).toNat:=by
  unfold Builtin.Range.rangeSize;rw[if_pos (by decide)]
  split
  ·rw[Int.ediv_one];omega
  ·omega
 refine call_list_range (a:=lo) (b:=hi) (c:=1) (n:=(hi-lo).toNat) (I.ok.hd hc) hr ?_ hsz (by omega) λh' tk acc' c' kp hS hacc=>?_
 ·exact small_one (by omega) (by omega) (by omega) (by omega)
 ·have hz:(hi-lo).toNat<=sizeLine:=by rw[sizeLine_eq];omega
  refine⟨.ref s.heap.objs.size,_,I.laid (t':=tk) kp (Nat.le_refl _) (show ObjOk X.prog X.w _ h' _ (.lst _) from⟨by simpa using hz,acc'.toList,c',?_,by simpa using hS⟩),rfl,q _ (I.hok.fresh (Nat.le_refl _))⟩
  obtain⟨ha,hb⟩:=hacc
  have key: ∀(l:List Value) (k m:Nat),l.length=m->(∀(j:Nat) v,l[j]? =some v-> ∃t,v=.int (lo+((k+j:Nat):Int)*1) t)->Vals ((List.range' k m).map λ(i:Nat)=>V.int (lo+i)) l:=by
   intro l
   induction l with
   |nil=>intro k m hm _;subst hm;exact .nil
   |cons x l ih=>
    intro k m hm hv;subst hm;rw[List.length_cons,List.range'_succ];refine .cons ?_ (ih (k+1) l.length rfl λj v e=>?_)
    ·obtain⟨t,rfl⟩:=hv 0 x rfl
     exact⟨t,by simp⟩
    ·obtain⟨t,rfl⟩:=hv (j+1) v (by simpa using e)
     exact⟨t,by congr 3;omega⟩
  have:=key acc'.toList 0 (hi-lo).toNat (by simpa using ha) λj v e=>by
   have:=hb j v (by simpa using e)
   simpa using this
  rw[List.range_eq_range'];exact this
def yQ:D->Option D
 | .int j=>if j.natAbs<=1000000 then some (.lst (qy 0 j.toNat)) else none
 |_=>none
def xC(f:FE):FE:=λρ=>(f ρ).bind yQ
theorem iP(hc:X.calm=true)(hml:X.mg "list"=none)(hmr:X.mg "range"=none)(he:DP X c k e f)(hgl:Gl X "list":=by rfl)(hgr:Gl X "range":=by rfl)(hvl:bootBuiltins "list"=some (.type "list"):=by kernel_rfl)(hvr:bootBuiltins "range"=some (.type "range"):=by kernel_rfl)
 (hs1:starEach [e] X.env=(false,eval e X.env)::starEach [] X.env:=by rfl) (hpl1:(backTo pos (starEach [] X.env)).any (·.1)=false:=by rfl) (hpl2:(backTo p2 (starEach [] X.env)).any (·.1)=false:=by rfl) {p3:Pos}
 (hs2:starEach [.Call (.Name "range" p3) [e] [] p2] X.env=(false,eval (.Call (.Name "range" p3) [e] [] p2) X.env)::starEach [] X.env:=by rfl):
 DP X c .n (.Call (.Name "list" p) [.Call (.Name "range" p3) [e] [] p2] [] pos) (xC f):=λhid ρ=>
 PE.imp (j7 (mZ hc) hgl hml hvl (bw (j7 uF hgr hmr hvr (bw (he hid ρ) ee hs1) (by decide) (by decide) hs1 hpl2) ee hs2) (by decide) (by decide) hs2 hpl1) λσ H Q hq_=>by
  obtain⟨sr,d,hd,q⟩:=hq_
  unfold xC at hd;cases e1:f ρ with
  |none=>rw[e1] at hd;cases hd
  |some z=>
   rw[e1] at hd;have hd:yQ z=some d:=hd
   unfold yQ at hd;split at hd
   ·split at hd
    ·rename_i _ j _ _
     cases hd
     refine⟨sr,_,e1,λv H1 s1 r1=>?_⟩
     have b1:=(RK.b k r1 λa n=>sr.fresh n).int
     cases b1
     refine⟨j,rfl,λr hr=>?_⟩
     refine⟨r,0,j,rfl,aI,by omega,by omega,by omega,by omega,by omega,λl hl=>?_⟩
     have s2:Same H (bq H1 r (.rng 0 j)):=s1.trans (aY hr _)
     refine q _ _ (s2.trans (aY hl _)) ?_
     have:=ma (hid:=hid) (K:=X.K) hl s2 (BX 0 (j-0).toNat)
     rw[show(j-0).toNat=j.toNat by omega] at this⊢
     exact this
    ·cases hd
   ·cases hd
def bi:=i2 (λ_ _=>true) λi j=>.int (i+j)
def kQ:=i2 (λ_ _=>true) λi j=>.int (i-j)
def eG:=i2 (λi j=>decide (i.natAbs<2^1000)&&decide (j.natAbs<2^1000)) λi j=>.int (i*j)
def bD:=i2 (λ_ j=>decide (0<j)) λi j=>.int (i % j)
def jv:=i2 (λ_ j=>decide (0<j)&&decide (j.natAbs<2^1000)) λi j=>.int (i / j)
def eE:=i2 (λi j=>decide (0<=j)&&decide (j<=1000000)&&decide (i.natAbs<2^64)) λi j=>.int (i^j.toNat)
def pD:=i2 (λ_ _=>true) λi j=>.bl (decide (i<j))
def u9:=i2 (λ_ _=>true) λi j=>.bl (decide (j<i))
def C2:=i2 (λ_ _=>true) λi j=>.bl (decide (j<=i))
theorem tR {i:Int}(h:i.natAbs<2^1000):Builtin.Int.intBits i<=2^20:=by
 unfold Builtin.Int.intBits;split
 ·exact Nat.zero_le _
 ·rename_i hz
  have h0:i.natAbs≠0:=by simp at hz;omega
  have:=(Nat.log2_lt h0).mpr h
  omega
theorem yA:jS X (binaryOp .Mult) (rI IntMulOk λi j=>.int (i*j)):=CV λ_ _ _ _ _ _ _ hc q=>mul_int q hc
variable {a b:Expr}
theorem eD {k1 k2:Kd}(ha:DP X c k1 a f)(hb:DP X c k2 b g):DP X c .s (.BinOp a .Add b pos) (ak bi f g):=mw vc xg ha hb
theorem si {k1 k2:Kd}(ha:DP X c k1 a f)(hb:DP X c k2 b g):DP X c .s (.BinOp a .Sub b pos) (ak kQ f g):=mw zQ xg ha hb
theorem AK {K:W.Frag}:lT K .s (rI IntMulOk λi j=>.int (i*j)) eG:=yx λi j h=>by
 simp only[Bool.and_eq_true,decide_eq_true_eq] at h;exact IntMulOk.of_bits (tR h.1) (tR h.2)
theorem j5 {k1 k2:Kd}(ha:DP X c k1 a f)(hb:DP X c k2 b g):DP X c .s (.BinOp a .Mult b pos) (ak eG f g):=mw yA AK ha hb
theorem Ae {K:W.Frag}:lT K .s (rI (λ_ j=>0<j) λi j=>.int (i % j)) bD:=yx λi j h=>by simpa using h
theorem fZ {k1 k2:Kd}(ha:DP X c k1 a f)(hb:DP X c k2 b g):DP X c .s (.BinOp a .Mod b pos) (ak bD f g):=mw zZ Ae ha hb
theorem wg:jS X (binaryOp .FloorDiv) (rI (λ_ j=>0<j/\j.natAbs<2^1000) λi j=>.int (i / j)):=CV λi j _ _ _ _ _ hc q=>by
 obtain⟨h1,h2⟩:=hc
 refine floordiv_int (by omega) (by rw[Int.fdiv_eq_ediv_of_nonneg i (by omega)];exact q) (.inl (PyProof.noPylong_of_log2 ?_))
 have:=(Nat.log2_lt (n:=j.natAbs) (by omega)).mpr h2
 omega
theorem xJ {K:W.Frag}:lT K .s (rI (λ_ j=>0<j/\j.natAbs<2^1000) λi j=>.int (i / j)) jv:=yx λi j h=>by
 simp only[Bool.and_eq_true,decide_eq_true_eq] at h;exact⟨h.1,h.2⟩
theorem sR {k1 k2:Kd}(ha:DP X c k1 a f)(hb:DP X c k2 b g):DP X c .s (.BinOp a .FloorDiv b pos) (ak jv f g):=mw wg xJ ha hb
theorem zM {K:W.Frag}:lT K .s (rI CC λi j=>.int (i^j.toNat)) eE:=yx λi j h=>by
 simp only[Bool.and_eq_true,decide_eq_true_eq] at h;exact⟨h.1.1,h.1.2,h.2⟩
theorem jX {k1 k2:Kd}(ha:DP X c k1 a f)(hb:DP X c k2 b g):DP X c .s (.BinOp a .Pow b pos) (ak eE f g):=mw Aq zM ha hb
theorem vR {f g:GE}(ha:DE X c .s a f)(hb:DE X c .s b g):DE X c .s (.BinOp a .Add b pos) (lK bi f g):=BB vc xg ha hb
def zI:D->Option D
 | .int i=>some (.int (-i))
 |_=>none
def ja(f:FE):FE:=λρ=>(f ρ).bind zI
theorem iH(ha:DP X c k a f):DP X c .s (.UnaryOp .USub a pos) (ja f):=λhid ρ=>PE.imp (Ck AM (ha hid ρ)) λσ H Q hq_=>by
 obtain⟨sr,d,hd,q⟩:=hq_
 unfold ja at hd;cases e1:f ρ with
 |none=>rw[e1] at hd;cases hd
 |some z=>
  rw[e1] at hd;have hd:zI z=some d:=hd
  unfold zI at hd;split at hd
  ·cases hd
   refine⟨sr,_,e1,λv H1 s1 r1=>?_⟩
   cases (RK.b k r1 λa n=>sr.fresh n).int
   exact⟨_,rfl,q _ H1 s1 .int⟩
  ·cases hd
def fo:List D->Option D
 | [.int i]=>some (.int i)
 | [.bl b]=>some (.int (if b then 1 else 0))
 |_=>none
theorem iX:hV X.K .s (λxs H Q=>(∃i,xs=[.int i]/\Q (.int i) H)\/ ∃k,xs=[.bl k]/\Q (.int (if k then 1 else 0)) H) fo:=by
 intro H hid vs ds d Q hf h r q;unfold fo at h;split at h
 ·cases h
  obtain⟨x,rfl,r1⟩:=Reps1.one r
  cases r1.int
  exact .inl ⟨_,rfl,q _ H (Same.refl _) .int⟩
 ·cases h
  obtain⟨x,rfl,r1⟩:=Reps1.one r
  cases r1.bl
  exact .inr ⟨_,rfl,q _ H (Same.refl _) .int⟩
 ·cases h
end
structure Cl(P:Program)(w:World)(K:W.Frag)(mg:Str->Option Value)(base:Heap)(k:Nat)(x:Str)(ps:List Str)(sp:Sp):Prop where
 ex: ∃f fd,FnOk P w K mg base mY k f fd ps sp/\mg x=some (.ref f)/\W.keepIn K (.ref f)=true/\Binds K fd ps []
structure Df(K:W.Frag)(mg:Str->Option Value)(x:Str)(st:Stmt)(ps:List Str):Prop where
 ex: ∃f fd,Fun K x x st f fd/\mg x=some (.ref f)/\Binds K fd ps []
section
variable {P:Program}{w:World}{K:W.Frag}{mg:Str->Option Value}{base:Heap}{x:Str}{st:Stmt}{N ps:List Str}{k n:Nat}{t:FS}{kd:Kd}
theorem bx(F:Df K mg x st ps)(S:FnScope N ps (aj st))(hkd:kd≠ .b)(hn:ps.length=n)
 (body: ∀(f:Addr) (cdv:Value) (A:Around) (outer:List Env) (s:Shared) (H:Hp) (hid:bj) (E:XK),Room k (A.deeper (envOfC x (aj st) s.heap.objs.size f cdv))->
   qU (kE mY P w K mg base N x (aj st) f cdv A outer s H E).nox ⟨H,hid,λ_=>false⟩ kd (aJ st) t):
 Cl P w K mg base (k+1) x ps (fA K kd n (iL kd N.length t)):=by
 obtain⟨f,fd,F,hm,hb⟩:=F.ex
 subst hn;exact⟨f,fd,uf F S hkd (body f),hm,F.kp,hb⟩
theorem sn(F:Df K mg x st ps)(S:FnScope N ps (aj st))(hkd:kd≠ .b)(hn:ps.length=n+1)
 (body: ∀(f:Addr) (cdv:Value) (A:Around) (outer:List Env) (s:Shared) (H:Hp) (hid:bj) (a:Addr) (E:XK),Room k (A.deeper (envOfC x (aj st) s.heap.objs.size f cdv))->
   qU (kE mY P w K mg base N x (aj st) f cdv A outer s H E).nox ⟨H,hid,λb=>decide (b=a)⟩ kd (aJ st) t):
 Cl P w K mg base (k+1) x ps (uq K kd n (uV kd N.length t)):=by
 obtain⟨f,fd,F,hm,hb⟩:=F.ex
 exact⟨f,fd,Bb F S hkd hn (body f),hm,F.kp,hb⟩
end
section
variable {X:Cx}{c:Ct}{e a b:Expr}{es rest:List Expr}{k:Kd}{pos p:Pos}{x:Str}{ps:List Str}{j n:Nat}
def nF(n:Nat)(P:List D->Option D):List D->Option D:=λds=>if ds.length=n then P ds else none
theorem cy {P:List D->Option D}{fs:FA}(C:Cl X.prog X.w X.K X.mg X.base j x ps (fA X.K k n P))(hr:Room j X.A)
 (ha:DA X c (e::es) fs) (hg:Gl X x:=by rfl) (hdb:(x==("__debug__":Str))=false:=by decide) (he:starEach (e::es) X.env=(false,eval e X.env)::starEach es X.env:=by rfl) (hpl:(backTo pos (starEach es X.env)).any (·.1)=false:=by rfl):
 DP X c k (.Call (.Name x p) (e::es) [] pos) (ai (nF n P) fs):=by
 obtain⟨f,fd,F,hm,hk,hb⟩:=C.ex
 exact yF F hr hm hk hb ha hg hdb he hpl
theorem lR(i:Nat){y:Str}{py:Pos}{M:List D->List D->Option (D×List D)}{fs:GA}(C:Cl X.prog X.w X.K X.mg X.base j x ps (uq X.K k n M))(hr:Room j X.A)
 (ha:DG X c es fs) (hkb:k≠ .b:=by decide) (hN:X.N[i]? =some y:=by rfl) (hv:kR X.env.scope y:=by first|exact Or.inl rfl|exact Or.inr (Or.inl rfl)|exact Or.inr (Or.inr rfl)) (hd:(y==("__debug__":Str))=false:=by decide)
 (hcd:(y==("__classdict__":Str))=false:=by decide) (hs:starEach (.Name y py::es) X.env=(false,eval (.Name y py) X.env)::starEach es X.env:=by rfl) (hg:Gl X x:=by rfl) (hdb:(x==("__debug__":Str))=false:=by decide) (hpl:(backTo pos (starEach es X.env)).any (·.1)=false:=by rfl):
 DE X c k (.Call (.Name x p) (.Name y py::es) [] pos) (aL i n M fs):=by
 obtain⟨f,fd,F,hm,hk,hb⟩:=C.ex
 exact vW i F hr hm hk hb ha hkb hN hv hd hcd hs hg hdb hpl
end
open PySem PySem.W PyProof.Rows
structure Od(b:Nat->Nat->Bool):Prop where
 tr: ∀ {i j k:Nat},b j i=false->b k j=false->b k i=false
 as: ∀ {i j:Nat},b i j=true->b j i=false
theorem Od.rf {b:Nat->Nat->Bool}(O:Od b)(i:Nat):b i i=false:=by
 cases h:b i i with
 |false=>rfl
 |true=>have:=O.as h;rw[h] at this;exact this
structure Pm(N:Nat)(p:Array Nat):Prop where
 perm:p.Perm (List.toArray (List.range N))
theorem Pm.size {N:Nat}{p:Array Nat}(h:Pm N p):p.size=N:=by rw[h.perm.size_eq];simp
theorem Pm.lt {N:Nat}{p:Array Nat}(h:Pm N p)(hN:0<N)(k:Nat):p.getD k 0<N:=by
 by_cases hk:k<p.size
 ·have e:p.getD k 0=p[k]:=by simp[Array.getD,hk]
  rw[e];have:p[k]∈(List.toArray (List.range N)):=h.perm.mem_iff.mp (Array.getElem_mem hk)
  simpa using this
 ·have e:p.getD k 0=0:=by simp[Array.getD,hk]
  rw[e];exact hN
theorem qi {p q:Array Nat}{i j:Nat}(h:p[i]? =q[j]?):p.getD i 0=q.getD j 0:=by
 rw[Array.getD_eq_getD_getElem?,Array.getD_eq_getD_getElem?,h]
section
variable {b:Nat->Nat->Bool}{N:Nat}{cmp:Nat->Nat->(Bool->Shared->Prop)->Shared->Prop}{s:Shared}
def Srt(b:Nat->Nat->Bool)(p:Array Nat)(n:Nat):Prop:= ∀i j,i<=j->j<n->b (p.getD j 0) (p.getD i 0)=false
def Fal(b:Nat->Nat->Bool)(p:Array Nat)(n:Nat):Prop:= ∀i j,i<=j->j<n->b (p.getD i 0) (p.getD j 0)=false
theorem Srt.succ(O:Od b){p:Array Nat}{n:Nat}(h:Srt b p n)(hn:1<=n)(e:b (p.getD n 0) (p.getD (n-1) 0)=false):Srt b p (n+1):=λi j hij hj=>by
 by_cases h1:j<n
 ·exact h i j hij h1
 ·have:j=n:=by omega
  subst this
  by_cases h2:i=j
  ·subst h2;exact O.rf _
  ·exact O.tr (h i (j-1) (by omega) (by omega)) e
theorem Fal.succ(O:Od b){p:Array Nat}{n:Nat}(h:Fal b p n)(hn:1<=n)(e:b (p.getD (n-1) 0) (p.getD n 0)=false):Fal b p (n+1):=λi j hij hj=>by
 by_cases h1:j<n
 ·exact h i j hij h1
 ·have:j=n:=by omega
  subst this
  by_cases h2:i=j
  ·subst h2;exact O.rf _
  ·exact O.tr e (h i (j-1) (by omega) (by omega))
theorem Fal.congr(O:Od b){p q:Array Nat}{n:Nat}(h:Fal b p n)(e: ∀k,k<n->b (p.getD k 0) (q.getD k 0)=false/\b (q.getD k 0) (p.getD k 0)=false):Fal b q n:=λi j hij hj=>
 O.tr (O.tr (e j hj).1 (h i j hij hj)) (e i (by omega)).2
theorem ya(O:Od b)(p:Array Nat):Srt b p 1:=λi j hij hj=>by
 have:i=j:=by omega
 subst this;exact O.rf _
theorem xP(O:Od b)(p:Array Nat):Fal b p 1:=λi j hij hj=>by
 have:i=j:=by omega
 subst this;exact O.rf _
theorem jW {p:Array Nat}{i j:Nat}(hj:j<=p.size)(k:Nat):(kas_rev p i j).getD k 0=if i<=k/\k<j then p.getD (i+j-1-k) 0 else p.getD k 0:=by
 have:=getElem?_mirror_all (i:=i) hj k
 unfold kas_rev;split
 ·rename_i h;rw[if_pos h] at this;exact qi this
 ·rename_i h;rw[if_neg h] at this;exact qi this
theorem Pm.rev {p:Array Nat}(h:Pm N p)(i j:Nat):Pm N (kas_rev p i j):=⟨(mirror_perm _ _ _ _).trans h.perm⟩
variable(O:Od b)(hN:0<N)(hc: ∀(i j:Nat) (C:Bool->Shared->Prop),i<N->j<N->C (b i j) s->cmp i j C s)
include O hN hc
theorem rL {p:Array Nat}(P:Pm N p){Q:Nat->Shared->Prop}: ∀(f n:Nat),1<=n->n+f<=N->Srt b p n->
 (∀m,n<=m->m<=n+f->Srt b p m->(m<n+f->b (p.getD m 0) (p.getD (m-1) 0)=true)->Q m s)->(kas_asc p f n).kasWp cmp Q s
 |0,n,h1,h2,hs,q=>q n (Nat.le_refl _) (Nat.le_refl _) hs λz=>absurd z (Nat.lt_irrefl _)
 |f+1,n,h1,h2,hs,q=>by
  unfold kas_asc;refine hc _ _ _ (P.lt hN _) (P.lt hN _) ?_
  cases e:b (p.getD n 0) (p.getD (n-1) 0) with
  |true=>simp only[if_true];exact q n (Nat.le_refl _) (by omega) hs λ_=>e
  |false=>
   simp only[Bool.false_eq_true,if_false];exact rL P f (n+1) (by omega) (by omega) (hs.succ O h1 e) λm a1 a2 a3 a4=>q m (by omega) (by omega) a3 λz=>a4 (by omega)
def Eqs(b:Nat->Nat->Bool)(p:Array Nat)(n q:Nat):Prop:= ∀i,n- (q+1)<=i->i<n->b (p.getD i 0) (p.getD (n-1) 0)=false/\b (p.getD (n-1) 0) (p.getD i 0)=false
omit hN hc in
theorem Eqs.rev {p:Array Nat}{n q:Nat}(hn:n<=p.size)(hq:q<n)(h:Eqs b p n q)(k:Nat):b (p.getD k 0) ((kas_rev p (n- (q+1)) n).getD k 0)=false/\b ((kas_rev p (n- (q+1)) n).getD k 0) (p.getD k 0)=false:=by
 rw[jW hn];split
 ·rename_i hk
  have h1:=h k hk.1 hk.2
  have h2:=h (n- (q+1)+n-1-k) (by omega) (by omega)
  exact⟨O.tr h2.2 h1.1,O.tr h1.2 h2.1⟩
 ·exact⟨O.rf _,O.rf _⟩
theorem lC {Q:Array Nat×Nat×Nat->Shared->Prop}: ∀(f:Nat) (p:Array Nat) (n q:Nat),Pm N p->1<=n->n+f<=N->q<n->Fal b p n->Eqs b p n q->
 (∀p' n' q',Pm N p'->n<=n'->n'<=n+f->q'<n'->Fal b p' n'->Eqs b p' n' q'->Q (p',n',q') s)->(kas_desc f p n q).kasWp cmp Q s
 |0,p,n,q,P,h1,h2,hq,hf,he,k=>k p n q P (Nat.le_refl _) (Nat.le_refl _) hq hf he
 |f+1,p,n,q,P,h1,h2,hq,hf,he,k=>by
  have hz:=P.size
  have e0: ∀p':Array Nat,Eqs b p' (n+1) 0:=λp' i a1 a2=>by
   have:i=n:=by omega
   subst this;exact⟨O.rf _,O.rf _⟩
  unfold kas_desc;refine hc _ _ _ (P.lt hN _) (P.lt hN _) ?_
  cases e:b (p.getD n 0) (p.getD (n-1) 0) with
  |true=>
   simp only[if_true];split
   ·rename_i hq0
    have ev:=he.rev O (by omega) hq
    have hf':Fal b (kas_rev p (n- (q+1)) n) n:=hf.congr O λk _=>ev k
    refine lC f _ (n+1) 0 (P.rev _ _) (by omega) (by omega) (by omega) (hf'.succ O h1 ?_) (e0 _) λp' n' q' a1 a2 a3=>k p' n' q' a1 (by omega) (by omega)
    have e1:(kas_rev p (n- (q+1)) n).getD n 0=p.getD n 0:=by rw[jW (by omega),if_neg (by omega)]
    rw[e1];exact O.tr (O.as e) (ev (n-1)).2
   ·exact lC f p (n+1) 0 P (by omega) (by omega) (by omega) (hf.succ O h1 (O.as e)) (e0 _) λp' n' q' a1 a2 a3=>k p' n' q' a1 (by omega) (by omega)
  |false=>
   simp only[Bool.false_eq_true,if_false];refine hc _ _ _ (P.lt hN _) (P.lt hN _) ?_
   cases e2:b (p.getD (n-1) 0) (p.getD n 0) with
   |true=>simp only[if_true];exact k p n q P (Nat.le_refl _) (by omega) hq hf he
   |false=>
    simp only[Bool.false_eq_true,if_false];refine lC f p (n+1) (q+1) P (by omega) (by omega) (by omega) (hf.succ O h1 e2) (λi a1 a2=>?_) λp' n' q' b1 b2 b3=>k p' n' q' b1 (by omega) (by omega)
    rw[show n+1-1=n by omega]
    by_cases hi:i=n
    ·subst hi;exact⟨O.rf _,O.rf _⟩
    ·have z:=he i (by omega) (by omega)
     exact⟨O.tr e2 z.1,O.tr z.2 e⟩
theorem qJ {p:Array Nat}(P:Pm N p){n:Nat}(h1:1<=n)(hn:n<=N)(hf:Fal b p n){Q:Nat×Array Nat->Shared->Prop}(q: ∀m p',Pm N p'->1<=m->m<=N->Srt b p' m->Q (m,p') s):(kas_tail3 n N p).kasWp cmp Q s:=by
 unfold kas_tail3;rw[KasT.kasWp_bind];have hz:=P.size
 have hs:Srt b (kas_rev p 0 n) n:=λi j hij hj=>by
  rw[jW (by omega),jW (by omega),if_pos (by omega),if_pos (by omega)]
  exact hf _ _ (by omega) (by omega)
 exact rL O hN hc (P.rev _ _) (N-n) n h1 (by omega) hs λm a1 a2 a3 _=>q m _ (P.rev _ _) (by omega) (by omega) a3
theorem kM {p:Array Nat}(P:Pm N p){n:Nat}(h1:1<=n)(hn:n+1<=N)(hf:Fal b p (n+1)){Q:Nat×Array Nat->Shared->Prop}(q: ∀m p',Pm N p'->1<=m->m<=N->Srt b p' m->Q (m,p') s):(kas_descPart n N p).kasWp cmp Q s:=by
 unfold kas_descPart;rw[KasT.kasWp_bind];refine lC O hN hc (N- (n+1)) p (n+1) 0 P (by omega) (by omega) (by omega) hf (λi a1 a2=>?_) λp' n' q' a1 a2 a3 a4 a5 a6=>?_
 ·have:i=n:=by omega
  subst this;exact⟨O.rf _,O.rf _⟩
 ·dsimp only
  have hz:=a1.size
  split
  ·exact qJ O hN hc (a1.rev _ _) (by omega) (by omega) (a5.congr O λk _=>a6.rev O (by omega) a4 k) q
  ·exact qJ O hN hc a1 (by omega) (by omega) a5 q
theorem xj {p:Array Nat}(P:Pm N p){Q:Nat×Array Nat->Shared->Prop}(q: ∀m p',Pm N p'->1<=m->m<=N->Srt b p' m->Q (m,p') s):(kas_count N p).kasWp cmp Q s:=by
 unfold kas_count;rw[KasT.kasWp_bind];have hz:=P.size
 refine rL O hN hc P (N-1) 1 (Nat.le_refl _) (by omega) (ya O p) λm a1 a2 a3 a4=>?_
 split
 ·exact q m p P a1 (by omega) a3
 ·rename_i hm
  have hm':m≠N:=by simpa using hm
  have lt:=a4 (by omega)
  split
  ·refine hc _ _ _ (P.lt hN _) (P.lt hN _) ?_
   cases e:b (p.getD 0 0) (p.getD (m-1) 0) with
   |true=>simp only[if_true];exact q m p P a1 (by omega) a3
   |false=>
    simp only[Bool.false_eq_true,if_false];have eq: ∀i j,i<m->j<m->b (p.getD i 0) (p.getD j 0)=false:=λi j hi hj=>O.tr (O.tr (a3 j (m-1) (by omega) (by omega)) e) (a3 0 i (by omega) hi)
    have hr: ∀i,i<m->(kas_rev p 0 m).getD i 0=p.getD (0+m-1-i) 0:=λi hi=>by rw[jW (by omega),if_pos (by omega)]
    refine kM O hN hc (P.rev _ _) a1 (by omega) (Fal.succ O (λi j hij hj=>?_) a1 ?_) q
    ·rw[hr i (by omega),hr j hj];exact eq _ _ (by omega) (by omega)
    ·have e1:(kas_rev p 0 m).getD m 0=p.getD m 0:=by rw[jW (by omega),if_neg (by omega)]
     rw[e1,hr (m-1) (by omega)]
     exact O.tr (O.as lt) (eq _ _ (by omega) (by omega))
  ·have:m=1:=by omega
   subst this;exact kM O hN hc P (Nat.le_refl _) (by omega) ((xP O p).succ O (Nat.le_refl _) (O.as lt)) q
theorem lE {p:Array Nat}(P:Pm N p){k:Nat}(hs:Srt b p k){Q:Nat->Shared->Prop}: ∀(f l r:Nat),l<=r->r<=k->r-l<=f->(∀i,i<l->b (p.getD k 0) (p.getD i 0)=false)->(∀i,r<=i->i<k->b (p.getD k 0) (p.getD i 0)=true)->
 (∀m,m<=k->(∀i,i<m->b (p.getD k 0) (p.getD i 0)=false)->(∀i,m<=i->i<k->b (p.getD k 0) (p.getD i 0)=true)->Q m s)->(kas_place p k f l r).kasWp cmp Q s
 |0,l,r,h1,h2,h3,a,c,q=>q l (by omega) a λi z=>c i (by omega)
 |f+1,l,r,h1,h2,h3,a,c,q=>by
  unfold kas_place;split
  ·exact q l (by omega) a λi z=>c i (by omega)
  ·rename_i hlr
   refine hc _ _ _ (P.lt hN _) (P.lt hN _) ?_
   cases e:b (p.getD k 0) (p.getD ((l+r) / 2) 0) with
   |true=>
    simp only[if_true];refine lE P hs f l _ (by omega) (by omega) (by omega) a (λi z1 z2=>?_) q
    cases e2:b (p.getD k 0) (p.getD i 0) with
    |true=>rfl
    |false=>
     have:=O.tr (hs ((l+r) / 2) i z1 z2) e2
     rw[e] at this;exact this.symm
   |false=>
    simp only[Bool.false_eq_true,if_false];exact lE P hs f _ r (by omega) (by omega) (by omega) (λi z=>O.tr (hs i ((l+r) / 2) (by omega) (by omega)) e) c q
omit hN hc in
theorem rW {p:Array Nat}{k m:Nat}(hk:k<p.size)(hs:Srt b p k)(hm:m<=k)(a: ∀i,i<m->b (p.getD k 0) (p.getD i 0)=false)(c: ∀i,m<=i->i<k->b (p.getD k 0) (p.getD i 0)=true):Srt b (bubble p k (k-m)) (k+1):=by
 have g: ∀j,(bubble p k (k-m)).getD j 0=if j=m then p.getD k 0 else if m<j/\j<=k then p.getD (j-1) 0 else p.getD j 0:=λj=>by
  have:=getElem?_bubble hk (k-m) (by omega) j
  rw[show k- (k-m)=m by omega] at this
  by_cases h:j=m
  ·rw[if_pos h] at this⊢;exact qi this
  ·rw[if_neg h] at this⊢
   by_cases h2:m<j/\j<=k
   ·rw[if_pos h2] at this⊢;exact qi this
   ·rw[if_neg h2] at this⊢;exact qi this
 intro i j hij hj;rw[g,g]
 by_cases ej:j=m
 ·rw[if_pos ej]
  by_cases ei:i=m
  ·rw[if_pos ei];exact O.rf _
  ·rw[if_neg ei,if_neg (by omega)];exact a i (by omega)
 ·rw[if_neg ej]
  by_cases ei:i=m
  ·rw[if_pos ei,if_pos (by omega)];exact O.as (c _ (by omega) (by omega))
  ·rw[if_neg ei]
   by_cases hj2:m<j/\j<=k
   ·rw[if_pos hj2]
    by_cases hi2:m<i/\i<=k
    ·rw[if_pos hi2];exact hs _ _ (by omega) (by omega)
    ·rw[if_neg hi2];exact hs _ _ (by omega) (by omega)
   ·rw[if_neg hj2,if_neg (by omega)];exact hs _ _ hij (by omega)
theorem wz {Q:Array Nat->Shared->Prop}: ∀(f:Nat) (p:Array Nat) (k:Nat),Pm N p->1<=k->k+f=N->Srt b p k->(∀p',Pm N p'->Srt b p' N->Q p' s)->(kas_bin f p k).kasWp cmp Q s
 |0,p,k,P,h1,h2,hs,q=>q p P (by rw[<-h2];exact hs)
 |f+1,p,k,P,h1,h2,hs,q=>by
  unfold kas_bin;rw[KasT.kasWp_bind];have hz:=P.size
  refine lE O hN hc P hs k 0 k (Nat.zero_le _) (Nat.le_refl _) (by omega) (λi z=>absurd z (by omega)) (λi z1 z2=>absurd z2 (by omega)) λm a1 a2 a3=>?_
  exact wz f _ (k+1) ⟨(bubble_perm _ _ _).trans P.perm⟩ (by omega) (by omega) (rW O (by omega) hs a1 a2 a3) q
theorem tm {Q:Array Nat->Shared->Prop}(q: ∀p,Pm N p->Srt b p N->Q p s):(kas_sort N).kasWp cmp Q s:=by
 unfold kas_sort;rw[KasT.kasWp_bind];refine xj O hN hc ⟨Array.Perm.refl _⟩ λm p' P h1 h2 hs=>?_
 dsimp only;split
 ·exact wz O hN hc _ p' _ P (by omega) (by omega) (by rw[show max m 1=m by omega];exact hs) q
 ·have:m=N:=by omega
  subst this;exact q p' P hs
end
open PySem PySem.W PySem.Calls PyProof.Rows
section
variable {prog:Program}{w:World}{A:Around}{E:Value->Shared->Prop}{s:Shared}
theorem mG {a:Addr}{us:List Value}{n:Nat}{P:PySem.Fin->Shared->Prop}(ho:s.heap.get? a=some (seqObj "list" us.toArray n))(hz:us.length<64)
 (few:us.length<2->P (.done (.ret .none)) {s with heap:=sortedHeap s.heap a us us.toArray})
 (many:2<=us.length-> ∀g:Heap,(∀c o,c≠a->s.heap.get? c=some o->g.get? c=some o)->wpAny (model prog w) A (keyKind' us.toArray) (λκ t=>t={s with heap:=g}/\
   (kas_sort us.length).kasWp (kas_ask prog w A κ us) (λp t'=>t'=t/\P (.done (.ret .none)) {s with heap:=sortedHeap s.heap a us (List.toArray (p.toList.map λi=>us.getD i Value.none))}) t) (λ_ _=>False) {s with heap:=g}):
 wpAny (model prog w) A (Builtin.«list.sort» ⟨[.ref a],[]⟩) P E s:=by
 have la:a<s.heap.objs.size:=Heap.lt_size ho
 have z1:us.toArray.size<=sizeLine:=by rw[List.size_toArray,sizeLine_eq];omega
 obtain⟨c1,h1⟩: ∃c,(s.heap.update a (Obj.mapSeq λ_=> #[])).get? a=some (seqObj "list" #[] c):=⟨_,get?_update_seq ho (λ_=> #[])⟩
 have h2:(((s.heap.update a (Obj.mapSeq λ_=> #[])).push (seqObj "tuple" us.toArray 0)).push (seqObj "list" #[] 0)).get? a=some (seqObj "list" #[] c1):=Heap.get?_push_of_some _ (Heap.get?_push_of_some _ h1)
 have kp: ∀c o,c≠a->s.heap.get? c=some o->(((s.heap.update a (Obj.mapSeq λ_=> #[])).push (seqObj "tuple" us.toArray 0)).push (seqObj "list" #[] 0)).get? c=some o:=λc o nc e=>
  Heap.get?_push_of_some _ (Heap.get?_push_of_some _ (by rw[Heap.get?_update_ne _ _ _ _ nc];exact e))
 rw[list_sort_plain];refine wpAny_bind (listItems_at ho rfl (wpAny_bind (listUpdate_at ho rfl ?_ z1 (Nat.zero_le _))))
 refine wpAny_bind (seqEpoch_at h1 rfl (wpAny_bind (wpAny_newTuple ?_ (show us.length<=_ by rw[sizeLine_eq];omega))))
 refine wpAny_bind (wpAny_newList (wpAny_holding ?_) (Nat.zero_le _))
 show wpAny (model prog w) A _ P E {s with heap:=((s.heap.update a (Obj.mapSeq λ_=> #[])).push (seqObj "tuple" us.toArray 0)).push (seqObj "list" #[] 0)}
 dsimp only
 by_cases hs:us.toArray.size<2
 ·rw[if_pos hs,if_pos hs]
  refine wpAny_bind (wpAny_pure ?_)
  rw[StateT.run_pure];refine wpAny_bind (wpAny_pure ?_)
  dsimp only;have ea:Array.map (λx=>x.2) (us.toArray.zip us.toArray)=us.toArray:=by
   apply Array.toList_inj.mp
   simp[List.map_snd_zip]
  refine wpAny_bind (seqEpoch_at h2 rfl (wpAny_bind (listUpdate_at h2 rfl ?_ (Nat.zero_le _) ?_)))
  ·simp only[bne_self_eq_false,Bool.false_eq_true,if_false]
   refine wpAny_pure ?_
   have:=few (by simpa using hs)
   show P _ {s with heap:=sortedHeap s.heap a us (Array.map (λx=>x.2) (us.toArray.zip us.toArray))}
   rw[ea];exact this
  ·show(Array.map (λx=>x.2) (us.toArray.zip us.toArray)).size<=_
   rw[ea];exact Nat.le_succ_of_le z1
 ·rw[if_neg hs,if_neg hs]
  have h2':2<=us.length:=by simpa using hs
  refine wpAny_bind (wpAny_mono (many h2' _ kp) (λκ t ⟨et,ht⟩=>?_) λ_ _ x=>x.elim)
  subst et;refine wpAny_bind (wpAny_mono (kat_run (ks:=us) (vs:=us) (G:=λp t'=>t'=_/\P (.done (.ret .none)) {s with heap:=sortedHeap s.heap a us (List.toArray (p.toList.map λi=>us.getD i Value.none))})
   (Q:=λst t'=>t'=_/\failedOf st=none/\ ∃p:Array Nat,p.size=us.length/\(arrOf st).map (·.2)=List.toArray (p.toList.map λi=>us.getD i Value.none)/\P (.done (.ret .none)) {s with heap:=sortedHeap s.heap a us (List.toArray (p.toList.map λi=>us.getD i Value.none))})
   rfl h2' hz (λp st t' a1 a2 a3 a4=>⟨a4.1,a3,p,a1,kat_snds rfl a2,a4.2⟩) ht) (λr t' hr=>?_) λ_ _ x=>x)
  obtain⟨u,st⟩:=r
  obtain⟨e1,hf,p,hp,ho',hP⟩:=hr
  subst e1;dsimp only at hf ho'⊢;rw[ho',hf];have zz:(List.toArray (p.toList.map λi=>us.getD i Value.none)).size<=sizeLine:=by rw[List.size_toArray,List.length_map,Array.length_toList,hp,sizeLine_eq];omega
  refine wpAny_bind (seqEpoch_at h2 rfl (wpAny_bind (listUpdate_at h2 rfl ?_ (Nat.zero_le _) (Nat.le_succ_of_le zz))))
  simp only[bne_self_eq_false,Bool.false_eq_true,if_false];exact wpAny_pure hP
theorem rn {l:Addr}{T:String}{o:Obj}{us:List Value}{n:Nat}{Q:List Value->Shared->Prop}(hT:T="list"\/T="tuple")(ho:s.heap.get? l=some o)(hc:o.cls=.type T)(hd:o.data=.seq us.toArray n)(hz:us.length<64)
 (q: ∀g:Heap,(∀b u,s.heap.get? b=some u->g.get? b=some u)->s.heap.objs.size<=g.objs.size->Q us {s with heap:=g}):wpAny (model prog w) A (collect (.ref l)) Q E s:=by
 have z:us.toArray.size<=sizeLine:=by rw[List.size_toArray,sizeLine_eq];omega
 have hN:(s.heap.push {cls:=.type "list",data:=.seq ([]:List Value).toArray}).get? s.heap.objs.size=some {cls:=.type "list",data:=.seq #[] 0}:=Heap.get?_push_size _ rfl
 have hU:=Heap.get?_update_self (Obj.mapSeq (·++us.toArray)) hN rfl
 have last:wpAny (model prog w) A (do
  match (<-load s.heap.objs.size).data with
   |Data.seq xs _=>pure xs.toList
   |_=>unsupported "internal:collect") Q E {s with heap:=(s.heap.push {cls:=.type "list",data:=.seq ([]:List Value).toArray}).update s.heap.objs.size (Obj.mapSeq (·++us.toArray))}:=by
  refine wpAny_bind (wpAny_load hU (wpAny_pure ?_))
  show Q ((#[]:Array Value)++us.toArray).toList _;rw[show((#[]:Array Value)++us.toArray).toList=us by simp]
  refine q _ (λb u e=>(Heap.get?_update_other _ _ (Nat.ne_of_gt (Heap.lt_size e))).trans (Heap.get?_push_of_some _ e)) ?_
  rw[Heap.size_update,Heap.size_push];exact Nat.le_succ _
 unfold collect;refine wpAny_bind (wpAny_runValue (codeAny_builtin F.entry_proto_collect ?_))
 rw[Around.under_plainId F.plain_proto_collect _];show wpAny _ A.in1 (newList []>>=λr=>again (.builtin "list.__iadd__" ⟨[r,.ref l],[]⟩)) _ _ s
 refine wpAny_bind (wpAny_newObj_type (wpAny_pure ⟨plainId_quiet F.plain_list_iadd _,codeAny_builtin F.entry_list_iadd ?_⟩))
 rw[Around.under_plainId F.plain_list_iadd _];show wpAny _ A.in1 (Builtin.List.listExtendWith (.ref s.heap.objs.size) (.ref l) (.ref s.heap.objs.size)) _ _ _;have ext:=wpAny_extend_seq (prog:=prog) (w:=w) (A:=A) (hsz:=z) (R:=λr t=>r=.ok (.ret (.ref s.heap.objs.size))/\t={s with heap:=(s.heap.push {cls:=.type "list",data:=.seq ([]:List Value).toArray}).update s.heap.objs.size (Obj.mapSeq (·++us.toArray))})
  (s:={s with heap:=s.heap.push {cls:=.type "list",data:=.seq ([]:List Value).toArray}}) _ l (.ref s.heap.objs.size) 0 hT hN (Heap.get?_push_of_some _ ho) hc hd ⟨rfl,rfl⟩
 refine wpAny_mono ext (λfin t h=>?_) (λe t h=>absurd h.1 (by simp))
 cases fin with
 |done f=>obtain⟨e,rfl⟩:=h;cases e;exact last
 |again c=>exact⟨h.1,codeAny_mono h.2 λr t' hr=>by obtain⟨rfl,rfl⟩:=hr;exact last⟩
theorem oa {l:Addr}{T:String}{o:Obj}{us:List Value}{n:Nat}{Q:Value->Shared->Prop}{G:List Nat->Prop}(hT:T="list"\/T="tuple")(ho:s.heap.get? l=some o)(hc:o.cls=.type T)(hd:o.data=.seq us.toArray n)(hz:us.length<64)
 (few:us.length<2->G (List.range us.length))
 (many:2<=us.length-> ∀g:Heap,(∀c o,s.heap.get? c=some o->g.get? c=some o)->wpAny (model prog w) A.in1.in1 (keyKind' us.toArray) (λκ t=>t={s with heap:=g}/\
   (kas_sort us.length).kasWp (kas_ask prog w A.in1.in1 κ us) (λp t'=>t'=t/\G p.toList) t) (λ_ _=>False) {s with heap:=g})
 (fin: ∀(g:Heap) (a e:Nat) (ix:List Nat),(∀c o,s.heap.get? c=some o->g.get? c=some o)->s.heap.objs.size<=a->G ix->g.get? a=some (seqObj "list" (List.toArray (ix.map λi=>us.getD i Value.none)) e)->Q (.ref a) {s with heap:=g}):
 wpAny (model prog w) A (call (.builtin "sorted") [.ref l]) Q E s:=by
 refine Calls.call_function_entry kind_sorted plain_sorted entry_sorted (args_sorted1 _) ?_
 unfold Builtin.«sorted»;refine wpAny_bind (m:=checkCount "sorted" 1 1 _) (wpAny_pure (wpAny_bind (rn hT ho hc hd hz λg kg sg=>?_)))
 refine wpAny_bind (wpAny_newList ?_ (by rw[sizeLine_eq];omega))
 have hL:(g.push (seqObj "list" us.toArray 0)).get? g.objs.size=some (seqObj "list" us.toArray 0):=Heap.get?_push_size _ rfl
 show wpAny _ _ _ _ _ {s with heap:=g.push (seqObj "list" us.toArray 0)}
 have end_: ∀ix:List Nat,G ix->Q (.ref g.objs.size) {s with heap:=sortedHeap (g.push (seqObj "list" us.toArray 0)) g.objs.size us (List.toArray (ix.map λi=>us.getD i Value.none))}:=λix hG=>by
  obtain⟨e,he⟩:=sortedHeap_at (out:=List.toArray (ix.map λi=>us.getD i Value.none)) hL
  refine fin _ g.objs.size e ix (λc u hu=>?_) sg hG he
  have lt:=Heap.lt_size (kg c u hu)
  rw[sortedHeap_old (Nat.ne_of_lt lt) (by rw[size_push'];exact Nat.lt_succ_of_lt lt)]
  exact Heap.get?_push_of_some _ (kg c u hu)
 refine wpAny_bind (wpAny_holding (wpAny_call_entry slot_list_sort ⟨_,hL,rfl⟩ entry_list_sort (mG (P:=λf t=> ∃v,f=.done (.ret v)/\wpAny (model prog w) A.in1 (pure (PySem.Fin.done (.ret (Value.ref g.objs.size)))) (λf t=> ∃v,f=.done (.ret v)/\Q v t) E t) hL hz (λh=>?_) (λh g' kg'=>?_)) (args_list_sort _)))
 ·have e:=end_ (List.range us.length) (few h)
  rw[show(List.range us.length).map (λi=>us.getD i Value.none)=us from List.ext_getElem? λi=>by
   by_cases hi:i<us.length
   ·simp[hi]
   ·simp[hi]] at e
  exact⟨_,rfl,wpAny_pure ⟨_,rfl,e⟩⟩
 ·refine wpAny_mono (many h g' λc u hu=>kg' c u (Nat.ne_of_lt (Heap.lt_size (kg c u hu))) (Heap.get?_push_of_some _ (kg c u hu))) (λκ t ⟨et,ht⟩=>⟨et,?_⟩) λ_ _ x=>x
  rw[kat_ask_eq rfl] at ht⊢;exact kas_wp_mono ht λp t' ⟨e1,hG⟩=>⟨e1,_,rfl,wpAny_pure ⟨_,rfl,end_ _ hG⟩⟩
end
open PySem PySem.W PySem.Spec PyProof.Rows
def cL:List Int->List Int->Bool
 |_,[]=>false
 | [],_::_=>true
 |x::xs,y::ys=>if x=y then cL xs ys else decide (x<y)
structure Lt {α:Type}(lt:α->α->Bool):Prop where
 tr: ∀ {a b c:α},lt b a=false->lt c b=false->lt c a=false
 as: ∀ {a b:α},lt a b=true->lt b a=false
 eq: ∀ {a b:α},lt a b=false->lt b a=false->a=b
theorem sK: ∀ {a b:List Int},cL a b=true->cL b a=false
 | [],[],h=>by simp[cL] at h
 |x::xs,[],h=>by simp[cL] at h
 | [],y::ys,h=>by simp[cL]
 |x::xs,y::ys,h=>by
  unfold cL at h⊢
  by_cases e:x=y
  ·subst e;simp only[if_true] at h⊢;exact sK h
  ·rw[if_neg e] at h;rw[if_neg (Ne.symm e)];simp only[decide_eq_true_eq,decide_eq_false_iff_not] at*;omega
theorem ue: ∀ {a b:List Int},cL a b=false->cL b a=false->a=b
 | [],[],_,_=>rfl
 |x::xs,[],_,h=>by simp[cL] at h
 | [],y::ys,h,_=>by simp[cL] at h
 |x::xs,y::ys,h,h'=>by
  unfold cL at h h'
  by_cases e:x=y
  ·subst e;simp only[if_true] at h h';rw[ue h h']
  ·rw[if_neg e] at h;rw[if_neg (Ne.symm e)] at h';simp only[decide_eq_false_iff_not] at*;omega
theorem tu: ∀ {a b c:List Int},cL b a=false->cL c b=false->cL c a=false
 | [],_,_,_,_=>by unfold cL;rfl
 |x::xs,[],_,h,_=>by simp[cL] at h
 |x::xs,y::ys,[],_,h=>by simp[cL] at h
 |x::xs,y::ys,z::zs,h1,h2=>by
  unfold cL at h1 h2⊢
  by_cases e1:y=x
  ·subst e1
   simp only[if_true] at h1
   by_cases e2:z=y
   ·subst e2;simp only[if_true] at h2⊢;exact tu h1 h2
   ·rw[if_neg e2] at h2⊢;exact h2
  ·rw[if_neg e1] at h1
   by_cases e2:z=y
   ·subst e2;rw[if_neg e1];exact h1
   ·rw[if_neg e2] at h2
    simp only[decide_eq_false_iff_not] at h1 h2;rw[if_neg (by omega)]
    simp only[decide_eq_false_iff_not];omega
theorem As:Lt cL:=⟨tu,sK,ue⟩
def rX {α:Type}(lt:α->α->Bool)(x:α):List α->List α
 | []=>[x]
 |y::r=>if lt x y=true then x::y::r else y::rX lt x r
def bT {α:Type}(lt:α->α->Bool):List α->List α
 | []=>[]
 |x::r=>rX lt x (bT lt r)
section
variable {α:Type}{lt:α->α->Bool}
theorem ka(x:α): ∀l:List α,(rX lt x l).Perm (x::l)
 | []=>.refl _
 |y::r=>by
  unfold rX;split
  ·exact .refl _
  ·exact((ka x r).cons y).trans (.swap _ _ _)
theorem gr: ∀l:List α,(bT lt l).Perm l
 | []=>.refl _
 |x::r=>(ka x _).trans ((gr r).cons x)
theorem tU(O:Lt lt)(x:α): ∀ {l:List α},l.Pairwise (λa b=>lt b a=false)->(rX lt x l).Pairwise (λa b=>lt b a=false)
 | [],_=>by simp[rX]
 |y::r,h=>by
  obtain⟨h1,h2⟩:=List.pairwise_cons.mp h
  unfold rX;split
  ·rename_i e
   refine List.pairwise_cons.mpr ⟨λz hz=>?_,h⟩
   rcases List.mem_cons.mp hz with rfl|hz
   ·exact O.as e
   ·exact O.tr (O.as e) (h1 z hz)
  ·rename_i e
   refine List.pairwise_cons.mpr ⟨λz hz=>?_,tU O x h2⟩
   rcases List.mem_cons.mp ((ka x r).mem_iff.mp hz) with rfl|hz
   ·simpa using e
   ·exact h1 z hz
theorem jY(O:Lt lt): ∀l:List α,(bT lt l).Pairwise (λa b=>lt b a=false)
 | []=>.nil
 |x::r=>tU O x (jY O r)
theorem kG(O:Lt lt){l l':List α}(p:l'.Perm l)(s:l'.Pairwise (λa b=>lt b a=false)):l'=bT lt l:=
 List.Perm.eq_of_pairwise (λa b _ _ h1 h2=>O.eq h2 h1) s (jY O l) (p.trans (gr l).symm)
theorem gU(ts:List α)(d:α):(List.range ts.length).map (λi=>ts.getD i d)=ts:=List.ext_getElem? λi=>by
 by_cases hi:i<ts.length
 ·simp[hi]
 ·simp[hi]
theorem kJ(O:Lt lt){ts:List α}{d:α}{p:Array Nat}(P:Pm ts.length p)(S:Srt (λi j=>lt (ts.getD i d) (ts.getD j d)) p ts.length):p.toList.map (λi=>ts.getD i d)=bT lt ts:=by
 refine kG O ?_ ?_
 ·have h1:p.toList.Perm (List.range ts.length):=by simpa using (Array.perm_iff_toList_perm.mp P.perm)
  have h2:=h1.map (λi=>ts.getD i d)
  rw[gU] at h2;exact h2
 ·rw[List.pairwise_map,List.pairwise_iff_getElem]
  intro i j hi hj hij;have hz:=P.size
  have e:=S i j (by omega) (by simpa [hz] using hj)
  have g: ∀k (hk:k<p.toList.length),p.getD k 0=p.toList[k]:=λk hk=>by
   have:k<p.size:=by simpa using hk
   simp[Array.getD,this]
  rw[g i hi,g j hj] at e;exact e
theorem zv(O:Lt lt)(f:Nat->α):Od (λi j=>lt (f i) (f j)):=⟨λh1 h2=>O.tr h1 h2,λh=>O.as h⟩
end
def jE(k:List Int):D:=.tup (k.map D.int)
theorem mD(ns:List Int):fY (ns.map D.int)=some ns:=by
 induction ns with
 |nil=>rfl
 |cons n ns ih=>show(fY (ns.map D.int)).map (n:: ·)=_;rw[ih];rfl
theorem jK {α:Type}{lt:α->α->Bool}{l:List α}(h:l.length<2):bT lt l=l:=by
 match l,h with
 | [],_=>rfl
 | [_],_=>rfl
theorem kx {xs:List V}{us:List Value}(r:Vals xs us)(i:Nat):RelV (xs.getD i .non) (us.getD i Value.none):=by
 cases e:xs[i]? with
 |none=>
  have hl:=r.length
  have:us[i]? =none:=by simp at e⊢;omega
  simp[List.getD,e,this];rfl
 |some x=>
  obtain⟨u,h1,h2⟩:=r.get e
  simp[List.getD,e,h1];exact h2
theorem kc {xs:List V}{us:List Value}(r:Vals xs us): ∀ix:List Nat,Vals (ix.map λi=>xs.getD i .non) (ix.map λi=>us.getD i Value.none)
 | []=>.nil
 |i::l=>.cons (kx r i) (kc r l)
theorem nS {K:W.Frag}{F:Hp}{xs:List V}{ds:List D}(r:Reps K F xs ds)(i:Nat):Rep K F (xs.getD i .non) (ds.getD i .non):=by
 cases e:ds[i]? with
 |none=>
  have hl:=r.length
  have:xs[i]? =none:=by simp at e⊢;omega
  simp[List.getD,e,this];exact .non
 |some x=>
  obtain⟨u,h1,h2⟩:=r.get e
  simp[List.getD,e,h1];exact h2
theorem nT {K:W.Frag}{F:Hp}{xs:List V}{ds:List D}(r:Reps K F xs ds): ∀ix:List Nat,Reps K F (ix.map λi=>xs.getD i .non) (ix.map λi=>ds.getD i .non)
 | []=>.nil
 |i::l=>.cons (nS r i) (nT r l)
def v0:List Value->List Int->Prop:=Paired λu i=> ∃t,u=Value.int i t
section
variable {prog:Program}{w:World}{A:Around}{s:Shared}{b fin:Bool}{Q:Bool->Shared->Prop}
theorem ud: ∀ {us ws:List Value} {ns ms:List Int} (i:Nat),v0 us ns->v0 ws ms->fin=decide (ns.length<ms.length)->Q (cL ns ms) s->KatLex prog w A b fin Q (us.zip ws) i s
 |_,_,[],[],i,.nil,.nil,e,q=>by subst e;exact kat_nil q
 |_,_,[],m::ms,i,.nil,.cons _ _,e,q=>by subst e;simp only[List.zip_nil_left];refine kat_nil ?_;simpa [cL] using q
 |_,_,n::ns,[],i,.cons _ _,.nil,e,q=>by subst e;simp only[List.zip_nil_right];refine kat_nil ?_;simpa [cL] using q
 |_,_,n::ns,m::ms,i,.cons h1 r1,.cons h2 r2,e,q=>by
  obtain⟨t,rfl⟩:=h1
  obtain⟨t',rfl⟩:=h2
  rw[List.zip_cons_cons];refine kat_cons (wpAny_eqBool_int (kat_go (λhe=>?_) λhe=>?_))
  ·have:n=m:=by simpa using he
   subst this;refine kat_yes (ud (i+1) r1 r2 (by rw[e];simp) ?_)
   simpa [cL] using q
  ·have:n≠m:=by simpa using he
   have q':Q (decide (n<m)) s:=by simpa [cL,this] using q
   refine kat_no ?_
   cases (b&&i==0) with
   |true=>exact oneLt_int q'
   |false=>exact kat_one _ _ (lt_int q')
end
section
variable {prog:Program}{w:World}{A:Around}{R:Result->Shared->Prop}{s:Shared}{elt t1 t2 i1 i2:Expr}{ifs1 ifs2:List Expr}{scope:Scope}{pos:Pos}{it acc:Value}{env:Env}
theorem y6:compTurn (.ListComp elt [⟨t1,i1,ifs1,0⟩,⟨t2,i2,ifs2,0⟩] scope pos) 1 it acc env=(do
 standAt i2.pos
 match <-pyNext it with
 |none=>pure (.done .next)
 |some v=>
  letOwnedTupleGo t2 it v
  assign t2 env v
  let ok <-jC ifs2 env
  if ok=true then do(do let _ <-call (.builtin "list.append") [acc,<-eval elt env]);again (.compLoop (.ListComp elt [⟨t1,i1,ifs1,0⟩,⟨t2,i2,ifs2,0⟩] scope pos) 1 it acc env)
  else again (.compLoop (.ListComp elt [⟨t1,i1,ifs1,0⟩,⟨t2,i2,ifs2,0⟩] scope pos) 1 it acc env)):=by rfl
theorem wa:compTurn (.ListComp elt [⟨t1,i1,ifs1,0⟩,⟨t2,i2,ifs2,0⟩] scope pos) 0 it acc env=(do
 standAt i1.pos
 match <-pyNext it with
 |none=>pure (.done .next)
 |some v=>
  letOwnedTupleGo t1 it v
  assign t1 env v
  let ok <-jC ifs1 env
  if ok=true then do
   let x <-eval i2 env
   standAt i2.pos
   let x <-foldedSetIterable i2 env x
   let _ <-runOwn (.compStart (.ListComp elt [⟨t1,i1,ifs1,0⟩,⟨t2,i2,ifs2,0⟩] scope pos) 1 (<-holding [x] (pyIter x)) acc env) env
   again (.compLoop (.ListComp elt [⟨t1,i1,ifs1,0⟩,⟨t2,i2,ifs2,0⟩] scope pos) 0 it acc env)
  else again (.compLoop (.ListComp elt [⟨t1,i1,ifs1,0⟩,⟨t2,i2,ifs2,0⟩] scope pos) 0 it acc env)):=by rfl
abbrev wy:=(Shared->Prop)->Shared->Prop
def s0(prog:Program)(w:World)(A:Around)(elt:Expr)(acc:Value)(env:Env):wy:=λQ s=>
 wpAny (model prog w) A (eval elt env) (λx s₄=>wpAny (model prog w) A (call (.builtin "list.append") [acc,x]) (λ_ s₅=>Q s₅) (λ_ _=>False) s₄) (λ_ _=>False) s
def o6(prog:Program)(w:World)(A:Around)(e iter:Expr)(acc:Value)(env:Env):wy:=λQ s=>
 wpAny (model prog w) A (eval iter env) (λx s₄=>wpAny (model prog w) A (pyIter x) (λit s₅=>codeAny (model prog w) A (.compStart e 1 it acc env) (λr s'=>match r with
  | .ok _=>Q s'
  | .error _=>False) s₅) (λ_ _=>False) s₄) (λ_ _=>False) s
def vQ(prog:Program)(w:World)(A:Around)(code:Code)(tg:Expr)(ifs:List Expr)(it:Value)(env:Env)(TA:wy)(R:Result->Shared->Prop):Prop:= ∀(I:Nat->Shared->Prop),
 (∀n s,I n s->wpAny (model prog w) A (pyNext it) (λr s₁=>match r with
   |none=>R (.ok .next) s₁
   |some v=>wpAny (model prog w) A (letOwnedTupleGo tg it v) (λ_ s₁=>wpAny (model prog w) A (assign tg env v) (λ_ s₂=>
     wpAny (model prog w) A (jC ifs env) (λok s₃=>
      if ok=true then TA (λs₅=> ∃m,m<n/\I m s₅) s₃
      else∃m,m<n/\I m s₃) (λ_ _=>False) s₂) (λ_ _=>False) s₁) (λ_ _=>False) s₁) (λ_ _=>False) s)->
 ∀(n:Nat) (s:Shared),I n s->codeAny (model prog w) A code R s
theorem xl:vQ prog w A (.compLoop (.ListComp elt [⟨t1,i1,ifs1,0⟩,⟨t2,i2,ifs2,0⟩] scope pos) 1 it acc env) t2 ifs2 it env (s0 prog w A elt acc env) R:=by
 intro I turn n s h;have no: ∀ {E':Value->Shared->Prop} (x:Value) (s:Shared),False->E' x s:=λ_ _ z=>z.elim
 refine codeAny_loop rfl I (λn s hI=>?_) n h
 show wpAny _ A ((compTurn (.ListComp elt [⟨t1,i1,ifs1,0⟩,⟨t2,i2,ifs2,0⟩] scope pos) 1 it acc env).onRaise (λx=>do noteFrame x env;theTreesLotGoes x)) _ _ s
 refine wpAny_noted ?_
 rw[y6];refine wpAny_bind (wpAny_standAt (wpAny_bind (wpAny_mono (turn n s hI) (λr s₁ h₁=>?_) no)))
 cases r with
 |none=>exact wpAny_pure h₁
 |some v=>
  refine wpAny_bind (wpAny_mono h₁ (λ_ s₁ h₁=>wpAny_bind (wpAny_mono h₁ (λ_ s₂ h₂=>wpAny_bind (wpAny_mono h₂ (λok s₃ h₃=>?_) no)) no)) no)
  cases ok with
  |false=>exact wpAny_pure ⟨rfl,h₃⟩
  |true=>exact wpAny_bind (wpAny_bind (wpAny_mono h₃ (λx s₄ h₄=>wpAny_bind (wpAny_mono h₄ (λ_ s₅ h₅=>wpAny_pure (wpAny_pure ⟨rfl,h₅⟩)) no)) no))
theorem uv(hset: ∀x,foldedSetIterable i2 env x=pure x):vQ prog w A (.compLoop (.ListComp elt [⟨t1,i1,ifs1,0⟩,⟨t2,i2,ifs2,0⟩] scope pos) 0 it acc env) t1 ifs1 it env (o6 prog w A (.ListComp elt [⟨t1,i1,ifs1,0⟩,⟨t2,i2,ifs2,0⟩] scope pos) i2 acc env) R:=by
 intro I turn n s h;have no: ∀ {E':Value->Shared->Prop} (x:Value) (s:Shared),False->E' x s:=λ_ _ z=>z.elim
 refine codeAny_loop rfl I (λn s hI=>?_) n h
 show wpAny _ A ((compTurn (.ListComp elt [⟨t1,i1,ifs1,0⟩,⟨t2,i2,ifs2,0⟩] scope pos) 0 it acc env).onRaise (λx=>do noteFrame x env;theTreesLotGoes x)) _ _ s
 refine wpAny_noted ?_
 rw[wa];refine wpAny_bind (wpAny_standAt (wpAny_bind (wpAny_mono (turn n s hI) (λr s₁ h₁=>?_) no)))
 cases r with
 |none=>exact wpAny_pure h₁
 |some v=>
  refine wpAny_bind (wpAny_mono h₁ (λ_ s₁ h₁=>wpAny_bind (wpAny_mono h₁ (λ_ s₂ h₂=>wpAny_bind (wpAny_mono h₂ (λok s₃ h₃=>?_) no)) no)) no)
  cases ok with
  |false=>exact wpAny_pure ⟨rfl,h₃⟩
  |true=>
   refine wpAny_bind (wpAny_mono h₃ (λx s₄ h₄=>wpAny_bind (wpAny_standAt (wpAny_bind (wpAny_of_eq (hset x) (wpAny_bind (wpAny_holding (wpAny_mono h₄ (λit2 s₅ h₅=>?_) no))))))) no)
   refine wpAny_bind (wpAny_runOwn (codeAny_mono h₅ λr s' hr=>?_))
   cases r with
   |ok f=>exact wpAny_pure ⟨rfl,hr⟩
   |error e=>exact hr.elim
end
def mP(g:FG)(p:FT)(A:FA)(ρ0:aC):List D->Option (List D)
 | []=>some []
 |d::r=>(g d ρ0).bind λρ1=>(p ρ1).bind λb=>if b=true then(A ρ1).bind λys=>(mP g p A ρ0 r).map (ys++ ·) else mP g p A ρ0 r
def Dq(n:Nat)(ρ:aC):Prop:= ∀(i:Nat) (s:Sl),n<=i->ρ[i]? =some s->s=.no
def vT(Y:Cx)(c:Ct)(hid:bj)(D0:Addr)(L W:Hp)(A:FA)(TA:wy)(ρ1:aC):Prop:= ∀(ab:List (Addr×Obj)) (s:Shared) (σ:St) (H:Hp) (xs:List V) (ad zs:List D) (Q:Shared->Prop),Inv Y ab σ H s->SR Y.K c hid ρ1 σ H->
 H D0=some (.lst xs)->Reps Y.K (vw H hid) xs ad->xs.length+zs.length<=sizeLine->Same L H->Same W (vw H hid)->(∀i:Nat,Ow ρ1[i]? ->σ[i]? ≠some (some (.ref D0)))->A ρ1=some zs->
 (∀(s':Shared) (σ':St) (H':Hp) (xs':List V),Inv Y ab σ' H' s'->SR Y.K c hid ρ1 σ' H'->H' D0=some (.lst xs')->Reps Y.K (vw H' hid) xs' (ad++zs)->Same L H'->Same (vw H hid) (vw H' hid)->(∀i:Nat,Ow ρ1[i]? ->σ'[i]? ≠some (some (.ref D0)))->Q s')->TA Q s
section
variable {Y:Cx}{c:Ct}{tg:Expr}{ifs:List Expr}{g:FG}{p:FT}{A:FA}{TA:wy}{code:Code}
structure CLG(Y:Cx)(ab:List (Addr×Obj))(c:Ct)(hid:bj)(ρ0:aC)(L W H3:Hp)(D0:Addr)(fp:List Addr)(tn:Nat->Heap->Prop)(g:FG)(p:FT)(A:FA)(ds ys ad0:List D)(n i:Nat)(xs:List V)(ad:List D)(σ':St)(H':Hp)(s':Shared):Prop where
 e:n=ds.length-i
 hi:i<=ds.length
 I:Inv Y ab σ' H' s'
 st:tn i s'.heap
 fr: ∀b∈fp,H' b=none
 sr:SR Y.K c hid ρ0 σ' H'
 sm:Same L H'
 ac:H' D0=some (.lst xs)
 rp:Reps Y.K (vw H' hid) xs ad
 w:Same W (vw H' hid)
 v:Same (vw H3 hid) (vw H' hid)
 na: ∀i:Nat,Ow ρ0[i]? ->σ'[i]? ≠some (some (.ref D0))
 go: ∃rest,mP g p A ρ0 (ds.drop i)=some rest/\ad++rest=ad0++ys
theorem pO(hcalm:Y.calm=true)(hxe:Y.xe=λ_ _=>False){n0:Nat}(hT:jl n0 g)(hg:sN Y c tg g)(hp:tM Y c ifs p)
 {ab:List (Addr×Obj)} {σ3:St} {H3 L W:Hp} {s4:Shared} {hid:bj} {ρ0:aC} {J:It} {it D0:Addr} {fp:List Addr} {tn:Nat->Heap->Prop} {ds ys ad0:List D} {xs0:List V} {R:Result->Shared->Prop}
 (hA: ∀d ρ1,g d ρ0=some ρ1->vT Y c hid D0 L W A TA ρ1)
 (hN:Dq n0 ρ0) (I:Inv Y ab σ3 H3 s4) (sr:SR Y.K c hid ρ0 σ3 H3) (hh:hid D0=true) (na: ∀i:Nat,Ow ρ0[i]? ->σ3[i]? ≠some (some (.ref D0))) (hacc:H3 D0=some (.lst xs0)) (rp0:Reps Y.K (vw H3 hid) xs0 ad0) (sm:Same L H3) (wv:Same W (vw H3 hid)) (T:Turn Y.prog Y.w Y.K tg J fp it tn) (st:tn 0 s4.heap) (hF: ∀b∈fp,iM Y ab H3 b)
 (io:Cr Y.K L W J ds) (hz:ad0.length+ys.length<=sizeLine) (hc:mP g p A ρ0 ds=some ys)
 (hTP:vQ Y.prog Y.w Y.A code tg ifs (.ref it) Y.env TA R)
 (hR: ∀(s':Shared) (σ':St) (H':Hp) (xs:List V),Inv Y ab σ' H' s'->SR Y.K c hid ρ0 σ' H'->Same L H'->H' D0=some (.lst xs)->Reps Y.K (vw H' hid) xs (ad0++ys)->Same (vw H3 hid) (vw H' hid)->(∀i:Nat,Ow ρ0[i]? ->σ'[i]? ≠some (some (.ref D0)))->R (.ok .next) s'):
 codeAny (model Y.prog Y.w) Y.A code R s4:=by
 have stat: ∀ {H':Hp},(∀b∈fp,H' b=none)-> ∀b∈fp,iM Y ab H' b:=λ{H'} hn b hb=>⟨hn b hb,(hF b hb).2⟩
 refine hTP (λn s'=> ∃(i:Nat) (xs:List V) (ad:List D) (σ':St) (H':Hp),CLG Y ab c hid ρ0 L W H3 D0 fp tn g p A ds ys ad0 n i xs ad σ' H' s') ?_ ds.length s4
  ⟨0,xs0,ad0,σ3,H3,by simp,Nat.zero_le _,I,st,λb hb=>(hF b hb).1,sr,sm,hacc,rp0,wv,Same.refl _,na,ys,by simpa using hc,rfl⟩
 rintro n s5 ⟨i,xs,ad,σ5,H5,rfl,hi,I5,st5,f5,sr5,sm5,ac5,rp5,w5,v5,na5,rest,hc5,hy5⟩
 have wH:Same W H5:=w5.trans (dU _ _)
 by_cases hlt:i<ds.length
 ·have hd:ds[i]? =some ds[i]:=List.getElem?_eq_getElem hlt
  have e2:ds.drop i=ds[i]::ds.drop (i+1):=List.drop_eq_getElem_cons hlt
  rw[e2] at hc5;unfold mP at hc5;obtain⟨go,yl⟩:=io.1 i ds[i] H5 hd sm5 wH
  refine bM (T.item Y rfl rfl rfl hcalm i ab s5 σ5 H5 (λ_ _=>False) I5 (stat f5) st5 go) λr s6 hq_=>?_
  obtain⟨u,hr,h6⟩:=hq_
  subst hr;refine bM h6 λ_ s7 hq_=>?_
  obtain⟨x,H7,I7,r7,y7,st7,f7⟩:=hq_
  obtain⟨s7',rp⟩:=yl x H7 y7
  have rx:=rp hid sr5.tr w5
  have I7':=I7.pinned (stat f7) (T.obj _ _ st7)
  cases e3:g ds[i] ρ0 with
  |none=>rw[e3] at hc5;cases hc5
  |some ρ1=>
   rw[e3] at hc5;have hc5:(p ρ1).bind (λb=>if b=true then(A ρ1).bind λys=>(mP g p A ρ0 (ds.drop (i+1))).map (ys++ ·) else mP g p A ρ0 (ds.drop (i+1)))=some rest:=hc5
   obtain⟨tl1,tl2⟩:=hT _ _ _ e3
   have fg: ∀ {σ':St} {H':Hp},SR Y.K c hid ρ1 σ' H'->SR Y.K c hid ρ0 σ' H':=λ{σ' H'} z=>z.forget tl1 λj s e=>by
    by_cases hj:j<n0
    ·exact .inr ((tl2 j hj).trans e)
    ·exact .inl (hN j s (by omega) e)
   have ow01: ∀j:Nat,Ow ρ0[j]? ->Ow ρ1[j]? :=λj o=>by
    by_cases hj:j<n0
    ·rw[tl2 j hj];exact o
    ·exfalso
     cases e:ρ0[j]? with
     |none=>rw[e] at o;exact o
     |some s=>have:=hN j s (by omega) e;subst this;rw[e] at o;exact o
   have keepT: ∀ {σ':St} {H':Hp} {s':Shared},Inv Y (ab++ke fp s7.heap) σ' H' s'->tn (i+1) s'.heap/\ ∀b∈fp,H' b=none:=λ{σ' H' s'} J'=>by
    refine⟨T.keep _ _ _ st7 λb hb o e=>(J'.pin (b,o) (List.mem_append_right _ (List.mem_append_right _ (eQ hb e)))).1,λb hb=>?_⟩
    obtain⟨o,e,_⟩:=T.obj _ _ st7 b hb
    exact(J'.pin (b,o) (List.mem_append_right _ (List.mem_append_right _ (eQ hb e)))).2.1
   refine bM (hxe▸hg hid ρ0 ds[i] _ s7 σ5 H7 x u (λσ' H'=>H'=H7/\SR Y.K c hid ρ1 σ' H7/\OwK ρ0 ρ1 σ5 σ') I7' r7 ⟨sr5.ext s7',rx,ρ1,e3,λσ' z o=>⟨rfl,z,o⟩⟩) λ_ s8 hq_=>?_
   obtain⟨σ8,H8,I8,e8,q8,o8⟩:=hq_
   subst e8;have na1: ∀j:Nat,Ow ρ1[j]? ->σ8[j]? ≠some (some (.ref D0)):=λj o=>by
    rw[(o8 j o).2];exact na5 j (o8 j o).1
   cases e4:p ρ1 with
   |none=>rw[e4] at hc5;cases hc5
   |some b=>
    rw[e4] at hc5;have hc5:(if b=true then(A ρ1).bind λys=>(mP g p A ρ0 (ds.drop (i+1))).map (ys++ ·) else mP g p A ρ0 (ds.drop (i+1)))=some rest:=hc5
    refine bM (hxe▸hp hid ρ1 _ s8 σ8 H8 (λb' H'=>b'=b/\Same H8 H') I8 ⟨q8,b,e4,λH' s'=>⟨rfl,s'⟩⟩) λok s9 hq_=>?_
    obtain⟨H9,I9,e9,sm9⟩:=hq_
    subst e9;have w9:Same (vw H5 hid) (vw H9 hid):=aK (s7'.trans sm9)
    cases ok with
    |false=>
     have hc5:mP g p A ρ0 (ds.drop (i+1))=some rest:=hc5
     obtain⟨k1,k2⟩:=keepT I9
     exact⟨ds.length- (i+1),by omega,i+1,xs,ad,σ8,H9,rfl,hlt,I9.unpinned,k1,k2,fg (q8.ext sm9),sm5.trans (s7'.trans sm9),sm9 _ _ (s7' _ _ ac5),rp5.mono w9,w5.trans w9,v5.trans w9,λj o=>na1 j (ow01 j o),rest,hc5,hy5⟩
    |true=>
     have hc5:((A ρ1).bind λys=>(mP g p A ρ0 (ds.drop (i+1))).map (ys++ ·))=some rest:=hc5
     cases e5:A ρ1 with
     |none=>rw[e5] at hc5;cases hc5
     |some zs=>
      rw[e5] at hc5;have hc5:(mP g p A ρ0 (ds.drop (i+1))).map (zs++ ·)=some rest:=hc5
      cases e6:mP g p A ρ0 (ds.drop (i+1)) with
      |none=>rw[e6] at hc5;cases hc5
      |some rest'=>
       rw[e6] at hc5;cases hc5
       have l1:=rp5.length
       have l2:=congrArg List.length hy5
       simp only[List.length_append] at l2;refine hA ds[i] ρ1 e3 _ s9 σ8 H9 xs ad zs _ I9 (q8.ext sm9) (sm9 _ _ (s7' _ _ ac5)) (rp5.mono w9) (by omega) (sm5.trans (s7'.trans sm9)) (w5.trans w9) na1 e5 λs10 σ10 H10 xs' I10 q10 a10 rp10 smL v10 na10=>?_
       obtain⟨k1,k2⟩:=keepT I10
       exact⟨ds.length- (i+1),by omega,i+1,xs',ad++zs,σ10,H10,rfl,hlt,I10.unpinned,k1,k2,fg q10,smL,a10,rp10,(w5.trans w9).trans v10,(v5.trans w9).trans v10,λj o=>na10 j (ow01 j o),rest',e6,by rw[<-hy5];simp⟩
 ·have e:i=ds.length:=by omega
  subst e;rw[List.drop_eq_nil_of_le (Nat.le_refl _)] at hc5;cases hc5
  rw[List.append_nil] at hy5;subst hy5;refine bM (T.done Y rfl rfl rfl hcalm ds.length ab s5 σ5 H5 (λ_ _=>False) I5 (stat f5) st5 (io.2 H5 sm5 wH)) λr s6 hq_=>?_
  obtain⟨hr,I6⟩:=hq_
  subst hr;exact hR s6 σ5 H5 xs I6 sr5 sm5 ac5 rp5 v5 na5
end
def qe(f:FE):FA:=λρ=>(f ρ).map λd=>[d]
def xz(gi:FA)(g:FG)(p:FT)(f:FE):FA:=λρ1=>(gi ρ1).bind λds=>mP g p (qe f) ρ1 ds
def uY(m:Nat)(gi1:FA)(g1:FG)(p1:FT)(gi2:FA)(g2:FG)(p2:FT)(f:FE):FE:=λρ=>(gi1 ρ).bind λds=>(mP g1 p1 (xz gi2 g2 p2 f) (ρ++List.replicate m .no) ds).bind λys=>if ys.length<=sizeLine then some (.lst ys) else none
theorem uW {m:Nat}{gi1 gi2:FA}{g1 g2:FG}{p1 p2:FT}{f:FE}{ρ:aC}{d:D}(h:uY m gi1 g1 p1 gi2 g2 p2 f ρ=some d): ∃ds ys,gi1 ρ=some ds/\mP g1 p1 (xz gi2 g2 p2 f) (ρ++List.replicate m .no) ds=some ys/\ys.length<=sizeLine/\d=.lst ys:=by
 unfold uY at h;cases e1:gi1 ρ with
 |none=>rw[e1] at h;cases h
 |some ds=>
  rw[e1] at h;dsimp only[Option.bind] at h;cases e2:mP g1 p1 (xz gi2 g2 p2 f) (ρ++List.replicate m .no) ds with
  |none=>rw[e2] at h;cases h
  |some ys=>
   rw[e2] at h;dsimp only at h;split at h
   ·cases h;exact⟨ds,ys,rfl,e2, ‹_›,rfl⟩
   ·cases h
def zT(n:Nat)(g:FG):Prop:= ∀d (ρ0 ρ1:aC),g d ρ0=some ρ1-> ∀i:Nat,n<=i->ρ1[i]? =ρ0[i]?
theorem Ds {n i:Nat}(h:i<n):zT n (gN i):=λd ρ0 ρ1 e=>by
 cases e
 exact λj hj=>List.getElem?_set_ne (by omega)
section
variable {prog:Program}{w:World}{A:Around}{R:Result->Shared->Prop}{s:Shared}{elt t1 t2 i1 i2:Expr}{ifs1 ifs2:List Expr}{scope:Scope}{pos:Pos}{it acc:Value}{env:Env}
theorem vn
 (h0:codeAny (model prog w) A (.compLoop (.ListComp elt [⟨t1,i1,ifs1,0⟩,⟨t2,i2,ifs2,0⟩] scope pos) 1 it acc env) R s)
 (h:wpAny (model prog w) A (pyIter it) (λit' s'=>codeAny (model prog w) A (.compLoop (.ListComp elt [⟨t1,i1,ifs1,0⟩,⟨t2,i2,ifs2,0⟩] scope pos) 1 it' acc env) R s')
   (notedBy (model prog w) A env λx s'=>R (.error x) s') s):
 codeAny (model prog w) A (.compStart (.ListComp elt [⟨t1,i1,ifs1,0⟩,⟨t2,i2,ifs2,0⟩] scope pos) 1 it acc env) R s:=by
 refine codeAny_of_tree (show wpAny _ _ ((compStart (.ListComp elt [⟨t1,i1,ifs1,0⟩,⟨t2,i2,ifs2,0⟩] scope pos) 1 it acc env).onRaise (λx=>do noteFrame x env;standAt theWindowsPlace)) _ _ s from wpAny_notedAt ?_)
 unfold compStart;show wpAny _ _ (ask>>=_) _ _ s;refine wpAny_bind (wpAny_askSetting (wpAny_ite ?_))
 split
 ·first
   |exact wpAny_bind (wpAny_pure (wpAny_pure (And.intro rfl h0)))
   |exact wpAny_pure (And.intro rfl h0)
 ·first
   |exact wpAny_bind (wpAny_rule (wpAny_bind (wpAny_standAt (wpAny_bind (wpAny_mono h (λit' s' h'=>wpAny_pure (And.intro rfl h')) λ_ _ x=>x)))))
   |(refine wpAny_bind (wpAny_rule ?_);show wpAny _ _ (standAt i2.pos>>=_) _ _ s;exact wpAny_bind (wpAny_standAt (wpAny_bind (wpAny_mono h (λit' s' h'=>wpAny_pure (And.intro rfl h')) λ_ _ x=>x))))
end
section
variable {Y:Cx}{c:Ct}{elt t1 t2 i1 i2:Expr}{ifs1 ifs2:List Expr}{scope:Scope}{pos:Pos}{f:FE}{g2:FG}{p2:FT}{gi2:FA}{hid:bj}{D0:Addr}{L W:Hp}{ρ1:aC}
theorem xw(hxe:Y.xe=λ_ _=>False)(he:DP Y c .s elt f)(hh:hid D0=true)(h00:c.H₀ D0=none)(nD:L D0=none):vT Y c hid D0 L W (qe f) (s0 Y.prog Y.w Y.A elt (.ref D0) Y.env) ρ1:=by
 intro ab s σ H xs ad zs Q I sr ac rp hz smL wv na hA hQ;unfold qe at hA;cases e5:f ρ1 with
 |none=>rw[e5] at hA;cases hA
 |some y=>
  rw[e5] at hA;cases hA;unfold s0;refine bM (hxe▸he hid ρ1 _ s σ H (λv H'=>Same H H'/\Rep Y.K (vw H' hid) v y) I ⟨sr,y,e5,λv H' s' r=>⟨s',r⟩⟩) λv s10 hq_=>?_
  obtain⟨z,H10,I10,rz,sm10,rp10⟩:=hq_
  have a10:H10 D0=some (.lst xs):=sm10 _ _ ac
  refine bM (hxe▸cc (X:=Y) _ s10 σ H10 (.ref D0) [z] (.ref D0) [v] (λ_ H'=>H'=bq H10 D0 (.lst (xs++[z]))) I10 rfl (.cons rz .nil) ⟨D0,xs,z,rfl,rfl,a10,by simp at hz;omega,rfl⟩) λ_ s11 ⟨_,H11,I11,_,e11⟩=>?_
  subst e11;have vv:vw (bq H10 D0 (.lst (xs++[z]))) hid=vw H10 hid:=dG hh
  have w10:Same (vw H hid) (vw H10 hid):=aK sm10
  refine hQ s11 σ _ (xs++[z]) I11 ((sr.ext sm10).write hh h00 na a10) aI ?_ (λb o e=>?_) ?_ na
  ·rw[vv];exact(rp.mono w10).append (.cons rp10 .nil)
  ·rw[aB (aO e nD)];exact sm10 _ _ (smL _ _ e)
  ·rw[vv];exact w10
theorem uA(hcalm:Y.calm=true)(hxe:Y.xe=λ_ _=>False){n1:Nat}(hT:jl n1 g2)(hN:Dq n1 ρ1)(hi:DIp Y c t2 i2 gi2)(hg:sN Y c t2 g2)(hp:tM Y c ifs2 p2)(he:DP Y c .s elt f)(hh:hid D0=true)(h00:c.H₀ D0=none)(nD:L D0=none):
 vT Y c hid D0 L W (xz gi2 g2 p2 f) (o6 Y.prog Y.w Y.A (.ListComp elt [⟨t1,i1,ifs1,0⟩,⟨t2,i2,ifs2,0⟩] scope pos) i2 (.ref D0) Y.env) ρ1:=by
 intro ab s σ H xs ad zs Q I sr ac rp hz smL wv na hA hQ;unfold xz at hA;cases e5:gi2 ρ1 with
 |none=>rw[e5] at hA;cases hA
 |some ds=>
  rw[e5] at hA;have hA:mP g2 p2 (qe f) ρ1 ds=some zs:=hA
  unfold o6;refine bM (hxe▸hi hid ρ1 ab s σ H (λJ H'=>Same H H'/\ItOk Y.K (vw H' hid) J ds) I ⟨sr,ds,e5,λJ H' s1 io=>⟨s1,io⟩⟩) λv s1 h1=>bM h1 λitv s2 h2=>?_
  obtain⟨it,fp,tn,J,H2,rfl,I2,T,st2,f2,sm,io⟩:=h2
  have l1:=rp.length
  have loop:codeAny (model Y.prog Y.w) Y.A (.compLoop (.ListComp elt [⟨t1,i1,ifs1,0⟩,⟨t2,i2,ifs2,0⟩] scope pos) 1 (.ref it) (.ref D0) Y.env) (λr s'=>match r with
   | .ok _=>Q s'
   | .error _=>False) s2:=by
   refine pO (L:=L) (W:=vw H2 hid) (ad0:=ad) (xs0:=xs) (A:=qe f) (TA:=s0 Y.prog Y.w Y.A elt (.ref D0) Y.env) hcalm hxe hT hg hp (λd ρ2 _=>xw hxe he hh h00 nD) hN I2 (sr.ext sm) hh na (sm _ _ ac) (rp.mono (aK sm)) (smL.trans sm) (Same.refl _) T st2 f2 io.b (by omega) hA xl ?_
   intro s' σ' H' xs' I' sr' smL' ac' rp' v' na';exact hQ s' σ' H' xs' I' sr' ac' rp' smL' ((aK sm).trans v') na'
  exact vn loop (T.self Y.A 0 _ _ _ st2 loop)
end
section
variable {X:Cx}{c:Ct}{elt t1 t2 i1 i2:Expr}{ifs1 ifs2:List Expr}{scope:Scope}{pos:Pos}{N':List Str}{m n1:Nat}{gi1 gi2:FA}{g1 g2:FG}{p1 p2:FT}{f:FE}
theorem qk(hcalm:X.calm=true)(hk:scope.kind=.function)(hs:u7 scope X.env.scope=true)(hn:u8 X.N N' scope=true)(hm:N'.length-X.N.length=m)(hT1:jl X.N.length g1)(hU1:zT n1 g1)(hn1:X.N.length<=n1)(hT2:jl n1 g2)
 (hset: ∀C s₀ H₀ ex,∀x,foldedSetIterable i2 (aM X N' scope C s₀ H₀ ex).env x=pure x)
 (hg1: ∀C s₀ H₀ ex,sN (aM X N' scope C s₀ H₀ ex) c t1 g1) (hp1: ∀C s₀ H₀ ex,tM (aM X N' scope C s₀ H₀ ex) c ifs1 p1) (hi2: ∀C s₀ H₀ ex,DIp (aM X N' scope C s₀ H₀ ex) c t2 i2 gi2)
 (hg2: ∀C s₀ H₀ ex,sN (aM X N' scope C s₀ H₀ ex) c t2 g2) (hp2: ∀C s₀ H₀ ex,tM (aM X N' scope C s₀ H₀ ex) c ifs2 p2) (he: ∀C s₀ H₀ ex,DP (aM X N' scope C s₀ H₀ ex) c .s elt f)
 {E:Value->Shared->Prop} {ab:List (Addr×Obj)} {σ:St} {H:Hp} {s:Shared} {hid:bj} {ρ:aC} {J:It} {it:Addr} {fp:List Addr} {tn:Nat->Heap->Prop} {ds ys:List D} {RR:Value->Addr->Result->Shared->Prop}
 (I:Inv X ab σ H s) (sr:SR X.K c hid ρ σ H) (T:Turn X.prog X.w X.K t1 J fp it tn) (st:tn 0 s.heap) (hF: ∀b∈fp,iM X ab H b) (io:Cr X.K H (vw H hid) J ds) (hz:ys.length<=sizeLine) (hc:mP g1 p1 (xz gi2 g2 p2 f) (ρ++List.replicate m .no) ds=some ys)
 (hR: ∀(D C:Addr) (s':Shared) (H':Hp) (xs:List V),s.heap.objs.size<=D->s.heap.objs.size<=C->D≠C->H D=none->Same H H'->H' D=some (.lst xs)->Reps X.K (vw H' (be hid D)) xs ys->(∃m,s'.heap.Ns C m)->H' C=none->s'.os=s.os->AllBare s'.gens->HOk X.prog X.w H' s'.heap->Un (pA X.stack) fp H H' s.heap s'.heap->RR (.ref D) C (.ok .next) s'):
 wpAny (model X.prog X.w) X.A (newList []) (λacc s₃=>wpAny (model X.prog X.w) X.A (newFunctionEnv scope X.env.globals (pr X.env.cells scope.names []) [] X.env.qual none .none (some X.env)) (λcenv s₄=>
  codeAny (model X.prog X.w) X.A (.compStart (.ListComp elt [⟨t1,i1,ifs1,0⟩,⟨t2,i2,ifs2,0⟩] scope pos) 0 (.ref it) acc {cenv with scope:=relabel scope X.env}) (RR acc cenv.locals) s₄) E s₃) E s:=by
 refine wpAny_newObj_type (tq λh₁ hns₁ kp1 oc₁=>?_)
 dsimp only at hns₁ kp1 oc₁⊢
 generalize hH2:s.heap.push {cls:=.type "list",dict:=none,data:=.seq ([]:List Value).toArray}=H2 at hns₁ kp1 oc₁⊢
 have hC:H2.objs.size=s.heap.objs.size+1:=by rw[<-hH2,Heap.size_push]
 have hD:H s.heap.objs.size=none:=I.hok.fresh (Nat.le_refl _)
 have I2:Inv X ab σ (bq H s.heap.objs.size (.lst [])) {s with heap:=H2}:=by
  rw[<-hH2];exact I.laid (t':=s.toks) (λb o e=>Heap.get?_push_of_some _ e) (Nat.le_refl _) ⟨Nat.zero_le _,[],0,.nil,Heap.get?_push_size _ rfl⟩
 have fpLt: ∀b∈fp,b<s.heap.objs.size:=λb hb=>let⟨o,e,_⟩:=T.obj 0 s.heap st b hb;Heap.lt_size e
 have hF2: ∀b∈fp,iM X ab (bq H s.heap.objs.size (.lst [])) b:=λb hb=>⟨by rw[aB (Nat.ne_of_lt (fpLt b hb))];exact(hF b hb).1,(hF b hb).2⟩
 have kp0: ∀b o,s.heap.get? b=some o->H2.get? b=some o:=λb o e=>by rw[<-hH2];exact Heap.get?_push_of_some _ e
 have IY:=pT (tk:=s.toks) (N':=N') (fp:=fp) I2 hF2 (λb hb=>let⟨o,e,_⟩:=T.obj 0 s.heap st b hb;⟨o,kp0 b o e⟩) hk hs hn hns₁ kp1 oc₁
 rw[hm] at IY;dsimp only at IY;have sr0:SR X.K c (be hid s.heap.objs.size) (ρ++List.replicate m .no) (σ++List.replicate m none) (bq H s.heap.objs.size (.lst [])):=(sr.hide (aY hD _) hD aI).more m
 have hρ:ρ.length=X.N.length:=by rw[<-sr.len];exact I.len
 have nf:hid s.heap.objs.size=false:=sr.fresh hD
 have st1:tn 0 h₁:=T.keep _ _ _ st λb hb o e=>kp1 b o (kp0 b o e)
 have na0: ∀i:Nat,Ow (ρ++List.replicate m Sl.no)[i]? ->(σ++List.replicate m none)[i]? ≠some (some (V.ref s.heap.objs.size)):=(sr.more m).notOw nf
 have wv:Same (vw H hid) (vw (bq H s.heap.objs.size (.lst [])) (be hid s.heap.objs.size)):=by rw[sa hD];exact Same.refl _
 have nos:Dq X.N.length (ρ++List.replicate m Sl.no):=λi s hi e=>by
  rw[List.getElem?_append_right (by omega),List.getElem?_replicate] at e
  split at e
  ·cases e;rfl
  ·cases e
 have loop: ∀s4:Shared,s4={s with heap:=h₁,toks:=s.toks}->
  codeAny (model X.prog X.w) X.A (.compLoop (.ListComp elt [⟨t1,i1,ifs1,0⟩,⟨t2,i2,ifs2,0⟩] scope pos) 0 (.ref it) (.ref s.heap.objs.size) (compEnvC scope (mB X.env.cells scope H2.objs.size) H2.objs.size X.env)) (RR (.ref s.heap.objs.size) H2.objs.size) s4:=by
  rintro s4 rfl
  have fpY: ∀b∈fp,iM (aM X N' scope H2.objs.size {s with heap:=H2} (bq H s.heap.objs.size (.lst [])) fp) [] (bq H s.heap.objs.size (.lst [])) b:=λb hb=>
   ⟨(hF2 b hb).1,(IY.ok.exf b hb).1,IY.ok.exfs b hb,.inl hb,(IY.ok.exf b hb).2,λq hq=>by have hq':q∈([]:List (Addr×Obj))++[]:=hq;simp at hq'⟩
  refine pO (Y:=aM X N' scope H2.objs.size {s with heap:=H2} (bq H s.heap.objs.size (.lst [])) fp) (L:=H) (hid:=be hid s.heap.objs.size) (W:=vw H hid) (ad0:=[]) (xs0:=[]) (A:=xz gi2 g2 p2 f) (TA:=o6 X.prog X.w X.A (.ListComp elt [⟨t1,i1,ifs1,0⟩,⟨t2,i2,ifs2,0⟩] scope pos) i2 (.ref s.heap.objs.size) (compEnvC scope (mB X.env.cells scope H2.objs.size) H2.objs.size X.env))
   hcalm rfl hT1 (hg1 _ _ _ _) (hp1 _ _ _ _) (λd ρ1 e=>uA (Y:=aM X N' scope H2.objs.size {s with heap:=H2} (bq H s.heap.objs.size (.lst [])) fp) hcalm rfl hT2 (λi s hi e'=>?_) (hi2 _ _ _ _) (hg2 _ _ _ _) (hp2 _ _ _ _) (he _ _ _ _) dW (sr.fresh0 hD) hD) nos IY sr0 dW na0 aI .nil (aY hD _) wv T st1 fpY io (by simpa using hz) hc (uv (hset H2.objs.size {s with heap:=H2} (bq H s.heap.objs.size (.lst [])) fp)) ?_
  ·rw[hU1 _ _ _ e i hi] at e'
   exact nos i s (by omega) e'
  ·intro s' σ' H' xs I' _ sm' hx' rp' _ _
   have un1:Un (pA X.stack) fp H (bq H s.heap.objs.size (.lst [])) s.heap H2:=Un.laid (λb o e=>kp0 b o e) (Nat.le_refl _) hD
   exact hR s.heap.objs.size H2.objs.size s' H' xs (Nat.le_refl _) (by rw[hC];exact Nat.le_succ _) (by rw[hC];exact Nat.ne_of_lt (Nat.lt_succ_self _)) hD sm' hx' rp' (let⟨m,hm,_⟩:=I'.loc;⟨m,hm⟩) I'.free I'.os I'.bare I'.hok (un1.trans I'.base)
 exact codeAny_compStart_list (loop _ rfl) (T.self X.A 0 _ _ _ st1 (loop _ rfl))
theorem xh(hcalm:X.calm=true)(n1:Nat)(hT1:jl X.N.length g1)(hU1:zT n1 g1)(hT2:jl n1 g2)(hi:Bs X c t1 i1 gi1)
 (hg1: ∀C s₀ H₀ ex,sN (aM X N' scope C s₀ H₀ ex) c t1 g1) (hp1: ∀C s₀ H₀ ex,tM (aM X N' scope C s₀ H₀ ex) c ifs1 p1) (hi2: ∀C s₀ H₀ ex,DIp (aM X N' scope C s₀ H₀ ex) c t2 i2 gi2)
 (hg2: ∀C s₀ H₀ ex,sN (aM X N' scope C s₀ H₀ ex) c t2 g2) (hp2: ∀C s₀ H₀ ex,tM (aM X N' scope C s₀ H₀ ex) c ifs2 p2) (he: ∀C s₀ H₀ ex,DP (aM X N' scope C s₀ H₀ ex) c .s elt f)
 (hk:scope.kind=.function:=by rfl) (hs:u7 scope X.env.scope=true:=by kernel_rfl) (hn:u8 X.N N' scope=true:=by kernel_rfl) (hm:N'.length-X.N.length=m:=by rfl) (hn1:X.N.length<=n1:=by exact Nat.le_of_ble_eq_true rfl) (hset: ∀x,foldedSetIterable i1 X.env x=pure x:=by intro _;rfl)
 (hset2: ∀C s₀ H₀ ex,∀x,foldedSetIterable i2 (aM X N' scope C s₀ H₀ ex).env x=pure x:=by intros;rfl):
 DP X c .n (.ListComp elt [⟨t1,i1,ifs1,0⟩,⟨t2,i2,ifs2,0⟩] scope pos) (uY m gi1 g1 p1 gi2 g2 p2 f):=by
 intro hid ρ ab s σ H Q I hq;obtain⟨sr,d,hd,q⟩:=hq
 obtain⟨ds,ys,e1,hc,hz,rfl⟩:=uW hd
 rw[eval_ListComp];refine wpAny_comprehension_free (use:=none) rfl hset (fX λx hx=>I.ok.has x (im hs x hx)) hk (kH hs) ?_
 refine bM (hi hid ρ ab s σ H (λJ H'=>Same H H'/\Cr X.K H' (vw H' hid) J ds) I ⟨sr,ds,e1,λJ H' s1 io=>⟨s1,io⟩⟩) λv s1 h1=>bM h1 λitv s2 h2=>?_
 obtain⟨it,fp,tn,J,H2,rfl,I2,T,st2,f2,sm,io⟩:=h2
 refine qk (RR:=λacc C=>compPost (model X.prog X.w) X.A X.xe none (EP X ab σ Q) acc C) hcalm hk hs hn hm hT1 hU1 hn1 hT2 hset2 hg1 hp1 hi2 hg2 hp2 he I2 (sr.ext sm) T st2 f2 io hz hc ?_
 intro D C s' H' xs hDge hCge hDC hD sm' hx rp ⟨mm,hns⟩ hC' hos hbare hok hun;refine⟨mm,hns,λh' hsb=>⟨.ref D,H',?_,rfl,q _ H' (sm.trans sm') ⟨D,xs,ys,rfl,rfl,sm.free hD,hx,rp⟩⟩⟩
 have neC: ∀b o,s2.heap.get? b=some o->b≠C:=λb o e z=>by subst z;exact absurd (Heap.lt_size e) (Nat.not_lt.mpr hCge)
 have hun':Un (pA X.stack) fp H2 H' s2.heap h':=⟨λb o e n h1 h2=>(hsb.2 b (neC b o e)).trans (hun.keep b o e n h1 h2),λb o e n h1 h2=>let⟨sl,z⟩:=hun.slot b o e n h1 h2;⟨sl,(hsb.2 b (neC b o e)).trans z⟩,hun.free,λb o e h2=>let⟨o',z⟩:=hun.there b o e h2;⟨o',(hsb.2 b (neC b o e)).trans z⟩,hun.tups,hun.frzs,hun.tbls⟩
 have hok':HOk X.prog X.w H' h':=λb o e=>by
  have nb: ∀b' o',H' b'=some o'->b'≠C:=λb' o' e' z=>by subst z;rw[hC'] at e';cases e'
  refine(hok b o e).stay (λc' u hc' z=>(hsb.2 c' ?_).trans z) (λ_ z=>z) λ_ _ z=>z
  rcases hc' with z'|z'
  ·rw[z'];exact nb b o e
  ·exact nb c' _ z'
 exact I2.call' (s':={s' with heap:=h'}) (ch:=fp) hos hun' hok' hbare λb hb=>⟨(f2 b hb).2.2.2.1,(f2 b hb).2.1,(f2 b hb).2.2.2.2.1,(f2 b hb).2.2.2.2.2⟩
end
section
variable {K:W.Frag}
def rK:List D->List D->Option (D×List D):=λbs ds=>match ds with
 | []=>some (.non,bs.reverse)
 |_=>none
theorem mf:Bu K qQ 0 rK:=by
 intro H hid a xs us bs ds bs' d Q h1 h2 h3 h4 h5 h6 q;cases ds with
 |nil=>
  cases h6;cases h4
  exact⟨a,xs,rfl,rfl,h1,q _ _ h3.reverse .non⟩
 |cons _ _=>cases h5
end
def AJ(ds:List D)(lo hi:Option Int):List D:=(ds.drop (HT.sIx ds.length 0 lo)).take (HT.sIx ds.length ds.length hi-HT.sIx ds.length 0 lo)
theorem wF {K:W.Frag}{F:Hp}{xs:List V}{ds:List D}(r:Reps K F xs ds)(lo hi:Option Int):Reps K F (uH xs lo hi) (AJ ds lo hi):=by
 unfold uH AJ;rw[r.length];exact(r.drop _).take _
abbrev FO:=aC->Option (Option Int)
def Es(K:W.Frag)(c:Ct)(hid:bj)(f:FO)(ρ:aC):TO:=λσ H Q=>SR K c hid ρ σ H/\ ∃o,f ρ=some o/\ ∀H',Same H H'->Q o H'
def DO(X:Cx)(c:Ct)(e:Option Expr)(f:FO):Prop:= ∀hid ρ,PO X e (Es X.K c hid f ρ)
theorem PO.imp {X:Cx}{e:Option Expr}{t t':TO}(h:PO X e t)(i: ∀σ H Q,t' σ H Q->t σ H Q):PO X e t':=λab s σ H Q I q=>h ab s σ H Q I (i σ H Q q)
section
variable {X:Cx}{c:Ct}{e a b:Expr}{f g:FE}{k:Kd}{pos p2:Pos}{lo hi:Option Expr}{l u:FO}
def C1:FO:=λ_=>some none
def CB(f:FE):FO:=λρ=>(f ρ).bind λd=>match d with
 | .int i=>some (some i)
 |_=>none
theorem xF:DO X c none C1:=λhid ρ=>PO.imp yO λσ H Q ⟨sr,o,e,q⟩=>by cases e;exact q H (Same.refl _)
theorem xW(h:DP X c k e f):DO X c (some e) (CB f):=λhid ρ=>PO.imp (xV (h hid ρ)) λσ H Q hq_=>by
 obtain⟨sr,o,e,q⟩:=hq_
 unfold CB at e;cases e1:f ρ with
 |none=>rw[e1] at e;cases e
 |some d=>
  rw[e1] at e;cases d with
  |int i=>
   cases e
   refine⟨sr,_,e1,λv H' s r=>⟨i,?_,q H' s⟩⟩
   exact(RK.b k r λa n=>sr.fresh n).int
  |_=>cases e
def vB(ds:List D)(lo hi:Option Int):Bool:=decide (HT.sIx ds.length 0 lo=0)&&decide (HT.sIx ds.length ds.length hi=ds.length)
end
end L2
namespace PySem
open Sem (wp)
open AutoSeq1 (wpAny_loadPart')
end PySem
namespace L2
open PySem PySem.Spec PyProof.Rows
section
variable {X:Cx}{c:Ct}{k:Kd}{es:List Expr}{x1:Nat}{tp pos p:Pos}
def m8(ds:List D):List D:=(List.range ds.length).map λ(i:Nat)=>D.tup [.int i,ds.getD i .non]
end
open PySem PySem.W PySem.Calls PyProof.Rows
def oq(i:Nat)(g:FE):GE:=λρ=>match g ρ with
 |some (.lst zs)=>(match ge i ρ with
  |some bs=>if bs.length+zs.length<=sizeLine then some (.non,fL i (bs++zs) ρ) else none
  |none=>none)
 |_=>none
theorem uO {i:Nat}{g:FE}{ρ ρ':aC}{d:D}(h:oq i g ρ=some (d,ρ')): ∃zs bs,g ρ=some (.lst zs)/\ge i ρ=some bs/\bs.length+zs.length<=sizeLine/\d=.non/\ρ'=fL i (bs++zs) ρ:=by
 unfold oq at h;split at h
 ·split at h
  ·split at h
   ·cases h;exact⟨_,_, ‹_›, ‹_›, ‹_›,rfl,rfl⟩
   ·cases h
  ·cases h
 ·cases h
section
variable {X:Cx}{c:Ct}{e:Expr}{y:Str}{py apos pos:Pos}{g:FE}
theorem uh(i:Nat)(he:DP X c .n e g)
 (hN:X.N[i]? =some y:=by rfl) (hv:kR X.env.scope y:=by first|exact Or.inl rfl|exact Or.inr (Or.inl rfl)|exact Or.inr (Or.inr rfl)) (hd:(y==("__debug__":Str))=false:=by decide) (hcd:(y==("__classdict__":Str))=false:=by decide)
 (hbase:attributeBase (.Name y py) "extend" X.env (eval (.Name y py) X.env)=eval (.Name y py) X.env:=by rfl)
 (hfew:((backTo pos (starEach [e] X.env)).all (λx=> !x.1)&&(backToKw pos (keywordEach [] X.env)).all (λx=>x.1.isSome)
   &&decide ([e].length+([]:List Keyword).length+(if([]:List Keyword).isEmpty then 0 else 1)<30))=true:=by rfl)
 (hline:(apos.endLine==pos.line)=true:=by rfl) (hs:starEach [e] X.env=(false,eval e X.env)::starEach [] X.env:=by rfl) (hplain:(backTo pos (starEach [] X.env)).any (·.1)=false:=by rfl):
 DE X c .s (.Call (.Attribute (.Name y py) "extend" apos) [e] [] pos) (oq i g):=λhid ρ=>
 PE.imp (qw PySem.F.plainAttrs_list PySem.F.slot_list_extend PySem.F.type_list_extend uP (pv i hN hv hd hcd) (bw (he hid ρ) ee hs) hbase hfew hline hs hplain) λσ H Q hq_=>by
  obtain⟨sr,d,ρ',hd',q⟩:=hq_
  obtain⟨zs,bs,e1,e2,e3,rfl,rfl⟩:=uO hd'
  obtain⟨a,xs0,a1,a2,a3,a4,a5⟩:=sr.held e2
  refine⟨.ref a,a1,.inl ⟨rfl,_,SqL.of a2⟩,sr,_,e1,λv H1 s1 r1=>?_⟩
  obtain⟨l,ws,ds',z,rfl,n1,n2,n3⟩:=r1
  cases z
  have rw1:Reps X.K (vw H1 hid) ws zs:=n3.mono (cu λb w=>cC w)
  have rx1:Reps X.K (vw H1 hid) xs0 bs:=a4.mono (aK s1)
  refine⟨a,l,xs0,ws,rfl,rfl,s1 _ _ a2,n2,by rw[rx1.length,rw1.length];exact e3,?_⟩
  have vv:vw (bq H1 a (.lst (xs0++ws))) hid=vw H1 hid:=dG a3
  refine q .non _ ⟨λb o z hb=>?_,(sr.ext s1).put e2 a1 (λb o z hb=>by rw[aB hb];exact z) aI (by rw[vv];exact rx1.append rw1),.non⟩
  rw[aB (λe=>by subst e;rw[a3] at hb;cases hb)]
  exact s1 _ _ z
end
def AZ {α:Type}(d:α)(n:Nat):Option α:=if n<=sizeLine then some d else none
def Eg {α:Type}(d:α)(n:Nat):Option α:=if n<sizeLine then some d else none
theorem dS {α:Type}{d:α}{n:Nat}(h:n<=1000):AZ d n=some d:=if_pos (Nat.le_of_lt (iC h))
theorem nA {α:Type}{d:α}{n:Nat}(h:n<=1000):Eg d n=some d:=if_pos (iC h)
theorem yR(fs:FA)(ρ:aC):cf fs ρ=(fs ρ).bind λds=>AZ (.tup ds) ds.length:=rfl
theorem jP(fs:FA)(ρ:aC):bY fs ρ=(fs ρ).bind λds=>AZ (.lst ds) ds.length:=rfl
theorem vF(m:Nat)(gi:FA)(g:FG)(p:FT)(f:FE)(ρ:aC):aS m gi g p f ρ=(gi ρ).bind λds=>(AZ () ds.length).bind λ_=>(cS g p f (ρ++List.replicate m .no) ds).map D.lst:=by
 unfold aS AZ;congr 1;funext ds
 split<;>rfl
theorem t8(bs:List D)(d:D):fW bs [d]=Eg (.non,bs++[d]) bs.length:=rfl
theorem yu(bs:List D)(i:Int):m9 bs [.int i]=(AZ () bs.length).bind λ_=>(qO bs.length i).bind λj=>(bs[j]?).map λd=>(d,bs.eraseIdx j):=by
 unfold m9 AZ;dsimp only;split
 ·rename_i j e
  split at e
  ·rw[if_pos ‹_›,e];rfl
  ·cases e
 ·rename_i e
  split at e
  ·rw[if_pos ‹_›,e];rfl
  ·rw[if_neg ‹_›];rfl
def Cu(ds:List D):Option (List D):=match ds with
 | [.int j]=>if j.natAbs<4000000000 then some (qy 0 j.toNat) else none
 |_=>none
theorem pS(f:FA)(ρ:aC):aZ f ρ=(f ρ).bind Cu:=rfl
theorem pY {j:Int}(h:j.natAbs<=1000):Cu [.int j]=some (qy 0 j.toNat):=by
 show(if j.natAbs<4000000000 then some (qy 0 j.toNat) else none)=_
 rw[if_pos (by omega)]
theorem cO(i j:Int):bi (.int i) (.int j)=some (.int (i+j)):=rfl
theorem wV(i j:Int):kQ (.int i) (.int j)=some (.int (i-j)):=rfl
theorem tL(i j:Int):pD (.int i) (.int j)=some (.bl (decide (i<j))):=rfl
theorem tF(i j:Int):C2 (.int i) (.int j)=some (.bl (decide (j<=i))):=rfl
theorem eA {i j:Int}(h:0<j):bD (.int i) (.int j)=some (.int (i % j)):=by
 unfold bD i2;dsimp only;rw[if_pos (by simpa using h)]
theorem rN {n:Nat}(h:n<10^200):n<2^1000:=Nat.lt_of_lt_of_le h (by decide)
theorem gJ {i j:Int}(h1:i.natAbs<10^200)(h2:j.natAbs<10^200):eG (.int i) (.int j)=some (.int (i*j)):=by
 unfold eG i2;dsimp only;rw[if_pos (by rw[decide_eq_true (rN h1),decide_eq_true (rN h2)];rfl)]
theorem nW {i j:Int}(h1:0<j)(h2:j.natAbs<10^200):jv (.int i) (.int j)=some (.int (i / j)):=by
 unfold jv i2;dsimp only;rw[if_pos (by rw[decide_eq_true h1,decide_eq_true (rN h2)];rfl)]
theorem js {i j:Int}(h0:0<=j)(h1:j<=1000000)(h2:i.natAbs<2^64):eE (.int i) (.int j)=some (.int (i^j.toNat)):=by
 unfold eE i2;dsimp only;rw[if_pos (by rw[decide_eq_true h0,decide_eq_true h1,decide_eq_true h2];rfl)]
theorem jp {x y:D}(h:dr x<=32):hZ x y=some (.bl (cF x y)):=if_pos h
theorem jV {x y:D}(h:dr x<=32):kL x y=some (.bl (!cF x y)):=if_pos h
theorem iA(i j:Int):cF (.int i) (.int j)=decide (i=j):=by
 unfold cF;rw[Bool.eq_iff_iff];simp
theorem gX(i:Int):dr (.int i)=0:=by unfold dr;rfl
structure Bag(N:Nat)(a b:Int):Prop where
 a0:0<=a
 a1:a.natAbs<10^180
 b0:0<=b
 b1:b<=N
 lo:b≠0->a.natAbs<2147483647
abbrev bh(a b:Int):List D:=[.int a,.int b]
def pf:FS:=
 ay (fz (df (ak pD (ah 1) (ai bN (aa (ah 0) (af))))) (bv (ak aG (ah 0) (ah 1))) (skip))
 (bv (aw (.int 0)))
def gq:List D->Option D:=iL .s 2 pf
def wd:FS:=
 ay (aQ 2 (ak bD (ai qr (aa (ai (nF 2 gq) (aa (ah 0) (aa (ah 1) (af)))) (af))) (ak eG (ak eG (ak eE (aw (.int 10)) (aw (.int 60))) (ak eE (aw (.int 10)) (aw (.int 60)))) (ak eE (aw (.int 10)) (aw (.int 60))))))
 (ay (fz (df (ak C2 (ah 2) (ak eE (aw (.int 10)) (aw (.int 18))))) (bv (bY (aa (ah 2) (aa (aw (.int 0)) (af))))) (skip))
 (ay (aQ 3 (ak bD (ak bi (ak bi (ah 2) (ak eG (aw (.int 7919)) (ah 1))) (aw (.int 17))) (aw (.int 2147483647))))
 (ay (dJ (cg (aZ (aa (ai fx (aa (ai bN (aa (ah 0) (af))) (aa (aw (.int 9)) (af)))) (af)))) (gN 4) (aQ 3 (ak bD (ak bi (ak bi (ak eE (ah 3) (aw (.int 5))) (ak bD (ak aG (ah 0) (ah 4)) (aw (.int 2147483629)))) (ak eG (aw (.int 31)) (ah 4))) (aw (.int 2147483647)))))
 (bv (bY (aa (ah 3) (aa (aw (.int 1)) (af))))))))
def wc:List D->Option D:=iL .n 5 wd
def ol:FS:=
 ay (fz (df (ak hZ (ak aG (dA 0) (aw (.int 1))) (aw (.int 0)))) (ay (aQ 2 (ak bD (ak aG (dA 0) (aw (.int 0))) (ah 1)))
 (ay (gg (eF 0 (aw (.int 0))) (pu (ak jv (ak aG (dA 0) (aw (.int 0))) (ah 1))))
 (bv (ah 2)))) (skip))
 (ay (gg (eF 0 (aw (.int 0))) (pu (ak bD (ak bi (ak bi (ak eE (ak aG (dA 0) (aw (.int 0))) (aw (.int 5))) (ak eG (aw (.int 48271)) (ak aG (dA 0) (aw (.int 1))))) (aw (.int 11))) (aw (.int 2147483647)))))
 (ay (gg (eF 0 (aw (.int 1))) (pu (ak bi (ak aG (dA 0) (aw (.int 1))) (aw (.int 1)))))
 (bv (ak bD (ak jv (ak bD (ak eG (ak aG (dA 0) (aw (.int 0))) (aw (.int 69621))) (aw (.int 2147483629))) (aw (.int 8))) (ah 1)))))
def du:List D->List D->Option (D×List D):=uV .s 3 ol
def qh:FS:=
 ay (cQ 2 (xC (ah 1)))
 (ay (cQ 3 (bY (af)))
 (ay (i8 (df (ak kL (dA 2) (bY (af)))) (bA (aL 3 1 fW (gk (aL 2 1 m9 (gk (aL 0 1 du (cg (aa (ai bN (aa (dA 2) (af))) (af)))) (cg (af)))) (cg (af))))) 16)
 (kF 3)))
def gK:List D->List D->Option (D×List D):=uV .n 4 qh
theorem eU {i m:Int}(h:0<m):0<=i % m/\i % m<m:=⟨Int.emod_nonneg _ (by omega),Int.emod_lt_of_pos _ h⟩
theorem lv {N:Nat}{a b m:Int}(B:Bag N a b)(hN:N<=1000000000)(hm:0<m)(hm2:m.natAbs<10^20): ∃d a' b',du (bh a b) [.int m]=some (.int d,bh a' b')/\Bag (N+1) a' b'/\0<=d/\d<m:=by
 have hm3:m.natAbs<10^200:=Nat.lt_of_lt_of_le hm2 (by decide)
 by_cases hb:b=0
 ·subst hb
  refine⟨a % m,a / m,0,?_,⟨Int.ediv_nonneg B.a0 (by omega),?_,by omega,by omega,λz=>absurd rfl z⟩,eU hm⟩
  ·simp[du,uV,ol,oE,bh,ay,fz,df,ak,aG,dA,ah,aw,jp,iA,gX,qX,nQ,qO,aQ,eA hm,gg,pu,nW hm hm3,eF,ge,fL,A7,bv,m6]
  ·have h1:=B.a1
   have:a / m<=a:=Int.ediv_le_self _ B.a0
   have:0<=a / m:=Int.ediv_nonneg B.a0 (by omega)
   omega
 ·have lo:=B.lo hb
  have p1:a.natAbs<2^64:=Nat.lt_trans lo (by decide)
  have p2:b.natAbs<10^200:=Nat.lt_of_lt_of_le (show b.natAbs<10^10 by have:=B.b1;have:=B.b0;omega) (by decide)
  generalize hA:(a^5+48271*b+11) % 2147483647=A
  have hA':0<=A/\A<2147483647:=by rw[<-hA];exact eU (by decide)
  have p3:A.natAbs<10^200:=Nat.lt_of_lt_of_le (show A.natAbs<10^10 by omega) (by decide)
  refine⟨A*69621 % 2147483629 / 8 % m,A,b+1,?_,⟨hA'.1,?_,by have:=B.b0;omega,by have:=B.b1;omega,λ_=>by omega⟩,eU hm⟩
  ·have c1:(48271:Int).natAbs<10^200:=Nat.lt_of_lt_of_le (show(48271:Int).natAbs<10^10 by decide) (by decide)
   have c2:(69621:Int).natAbs<10^200:=Nat.lt_of_lt_of_le (show(69621:Int).natAbs<10^10 by decide) (by decide)
   have c3:(8:Int).natAbs<10^200:=Nat.lt_of_lt_of_le (show(8:Int).natAbs<10^10 by decide) (by decide)
   have e1:eE (.int a) (.int 5)=some (.int (a^5)):=js (by decide) (by decide) p1
   have e2:eG (.int 48271) (.int b)=some (.int (48271*b)):=gJ c1 p2
   have e3: ∀i:Int,bD (.int i) (.int 2147483647)=some (.int (i % 2147483647)):=λi=>eA (by decide)
   have e4: ∀i:Int,bD (.int i) (.int 2147483629)=some (.int (i % 2147483629)):=λi=>eA (by decide)
   have e5:eG (.int A) (.int 69621)=some (.int (A*69621)):=gJ p3 c2
   have e6: ∀i:Int,jv (.int i) (.int 8)=some (.int (i / 8)):=λi=>nW (by decide) c3
   simp[du,uV,ol,oE,bh,ay,fz,df,ak,aG,dA,ah,aw,jp,iA,gX,qX,nQ,qO,hb,skip,e1,e2,e3,e4,cO,gg,pu,eF,ge,fL,A7,bv,m6,hA,e5,e6,eA hm]
  ·exact Nat.lt_of_lt_of_le (show A.natAbs<10^10 by omega) (by decide)
theorem av {t u:FS}{ρ ρ':aC}(h:t ρ=.nx ρ'):ay t u ρ=u ρ':=by unfold ay;rw[h]
abbrev nI(i:Nat):D:=.int (i:Int)
abbrev gL(ns:List Int):D:=.scr (ns.map D.int)
theorem xt(n:Nat):qy 0 n=(List.range n).map nI:=by
 unfold qy;simp
theorem ir {n j:Nat}(h:j<n):qO n (j:Int)=some j:=by
 unfold qO;rw[if_pos (by omega),if_pos (by omega)];simp
theorem xS(ns:List Int)(k:Nat): ∃c,gq [gL ns,nI k]=some (.int c):=by
 by_cases h:k<ns.length
 ·refine⟨ns[k],?_⟩
  simp[gq,iL,pf,gA,ay,fz,df,ak,ah,ai,aa,af,bN,tL,qX,h,bv,aG,nQ,ir (show k<(ns.map D.int).length by simpa using h)]
  simp[ir h,h]
 ·refine⟨0,?_⟩
  simp[gq,iL,pf,gA,ay,fz,df,ak,ah,ai,aa,af,bN,tL,qX,h,bv,skip,aw]
theorem pR(ns:List Int)(k:D)(c:D): ∀(l:List Nat),(∀i∈l,i<ns.length/\i<1000)-> ∀(x:Int) (s4:Sl),0<=x->x<2147483647-> ∃(x':Int) (s4':Sl),0<=x'/\x'<2147483647/\
 fw (gN 4) (aQ 3 (ak bD (ak bi (ak bi (ak eE (ah 3) (aw (.int 5))) (ak bD (ak aG (ah 0) (ah 4)) (aw (.int 2147483629)))) (ak eG (aw (.int 31)) (ah 4))) (aw (.int 2147483647)))) (l.map nI) [.v (gL ns),.v k,.v c,.v (.int x),s4]=.nx [.v (gL ns),.v k,.v c,.v (.int x'),s4']
 | [],_,x,s4,h1,h2=>⟨x,s4,h1,h2,rfl⟩
 |i::l,hl,x,s4,h1,h2=>by
  obtain⟨hi,hi2⟩:=hl i (by simp)
  have e1:eE (.int x) (.int 5)=some (.int (x^5)):=js (by decide) (by decide) (Nat.lt_of_lt_of_le (show x.natAbs<10^10 by omega) (by decide))
  have e2:eG (.int 31) (nI i)=some (.int (31*i)):=gJ (Nat.lt_of_lt_of_le (show(31:Int).natAbs<10^10 by decide) (by decide)) (Nat.lt_of_lt_of_le (show(i:Int).natAbs<10^10 by omega) (by decide))
  have e3: ∀i:Int,bD (.int i) (.int 2147483647)=some (.int (i % 2147483647)):=λi=>eA (by decide)
  have e4: ∀i:Int,bD (.int i) (.int 2147483629)=some (.int (i % 2147483629)):=λi=>eA (by decide)
  obtain⟨y1,y2⟩:=eU (i:=x^5+ns[i] % 2147483629+31*i) (m:=2147483647) (by decide)
  obtain⟨x',s4',g1,g2,g3⟩:=pR ns k c l (λj hj=>hl j (by simp[hj])) _ (.v (nI i)) y1 y2
  refine⟨x',s4',g1,g2,?_⟩
  rw[<-g3];simp[fw,gN,aQ,ak,ah,aw,e1,e2,e3,e4,aG,nQ,ir (show i<(ns.map D.int).length by simpa using hi),ir hi,hi,cO]
theorem AY(ns:List Int)(k:Nat)(hk:k<=1000)(hn:ns.length<=63): ∃a b,wc [gL ns,nI k]=some (.lst (bh a b))/\Bag 1 a b:=by
 obtain⟨c,hc⟩:=xS ns k
 have p1:eE (.int 10) (.int 60)=some (.int (10^60)):=js (by decide) (by decide) (by decide)
 have p2:eE (.int 10) (.int 18)=some (.int (10^18)):=js (by decide) (by decide) (by decide)
 have q60:((10:Int)^60).natAbs<10^200:=by decide
 have q120:((10:Int)^60*10^60).natAbs<10^200:=by decide
 have m1:eG (.int (10^60)) (.int (10^60))=some (.int (10^60*10^60)):=gJ q60 q60
 have m2:eG (.int (10^60*10^60)) (.int (10^60))=some (.int (10^60*10^60*10^60)):=gJ q120 q60
 have m3:eG (.int 7919) (nI k)=some (.int (7919*k)):=gJ (Nat.lt_of_lt_of_le (show(7919:Int).natAbs<10^10 by decide) (by decide)) (Nat.lt_of_lt_of_le (show(k:Int).natAbs<10^10 by omega) (by decide))
 generalize hA:(if c<0 then -c else c) % (10^60*10^60*10^60)=A
 have hA':0<=A/\A<10^60*10^60*10^60:=by rw[<-hA];exact eU (by decide)
 have s1:aQ 2 (ak bD (ai qr (aa (ai (nF 2 gq) (aa (ah 0) (aa (ah 1) (af)))) (af))) (ak eG (ak eG (ak eE (aw (.int 10)) (aw (.int 60))) (ak eE (aw (.int 10)) (aw (.int 60)))) (ak eE (aw (.int 10)) (aw (.int 60))))) [.v (gL ns),.v (nI k),.no,.no,.no]=.nx [.v (gL ns),.v (nI k),.v (.int A),.no,.no]:=by
  have m4: ∀i:Int,bD (.int i) (.int (10^60*10^60*10^60))=some (.int (i % (10^60*10^60*10^60))):=λi=>eA (by decide)
  unfold aQ;have:ak bD (ai qr (aa (ai (nF 2 gq) (aa (ah 0) (aa (ah 1) (af)))) (af))) (ak eG (ak eG (ak eE (aw (.int 10)) (aw (.int 60))) (ak eE (aw (.int 10)) (aw (.int 60)))) (ak eE (aw (.int 10)) (aw (.int 60)))) [.v (gL ns),.v (nI k),.no,.no,.no]=some (.int A):=by
   have ec:ai (nF 2 gq) (aa (ah 0) (aa (ah 1) af)) [.v (gL ns),.v (nI k),.no,.no,.no]=some (.int c):=hc
   simp only[ak,ai,aa,af,aw,Option.bind_some,p1,m1,m2,qr];have ec':((ah 0 [.v (gL ns),.v (nI k),.no,.no,.no]).bind λd=>((ah 1 [.v (gL ns),.v (nI k),.no,.no,.no]).bind λd=>(some []).map λr=>d::r).map λr=>d::r).bind (nF 2 gq)=some (.int c):=hc
   rw[ec'];simp only[Option.bind_some,Option.map_some,m4,qr,hA]
  rw[this];rfl
 have r0:gA 5 [gL ns,nI k]=[.v (gL ns),.v (nI k),.no,.no,.no]:=rfl
 unfold wc iL wd;rw[r0,av s1];have hA180:A.natAbs<10^180:=by
  have:(10:Int)^60*10^60*10^60=((10^180:Nat):Int):=by decide
  rw[this] at hA';omega
 by_cases hb:(10:Int)^18<=A
 ·refine⟨A,0,?_,⟨hA'.1,hA180,by decide,by decide,λz=>absurd rfl z⟩⟩
  simp only[ay,fz,df,ak,ah,List.getElem?_cons_succ,List.getElem?_cons_zero,Option.bind_some,aw,p2,tF,qX,decide_eq_true hb,bv,jP,aa,af,Option.map_some];rw[dS (by simp)]
 ·generalize hx:(A+7919*(k:Int)+17) % 2147483647=x
  have hx':0<=x/\x<2147483647:=by rw[<-hx];exact eU (by decide)
  have m4:bD (.int (A+7919*(k:Int)+17)) (.int 2147483647)=some (.int x):=by rw[eA (by decide),hx]
  have hr:aZ (aa (ai fx (aa (ai bN (aa (ah 0) (af))) (aa (aw (.int 9)) (af)))) (af)) [.v (gL ns),.v (nI k),.v (.int A),.v (.int x),.no]=some ((List.range (min ns.length 9)).map nI):=by
   rw[pS];simp only[ai,aa,af,ah,aw,List.getElem?_cons_zero,Option.bind_some,Option.map_some,bN,fx,List.length_map];have:(if(9:Int)<(ns.length:Int) then(9:Int) else(ns.length:Int))=((min ns.length 9:Nat):Int):=by split<;>omega
   rw[this,pY (by omega),xt,Int.toNat_natCast]
  obtain⟨x',s4',g1,g2,g3⟩:=pR ns (nI k) (.int A) (List.range (min ns.length 9)) (λi hi=>by have:=List.mem_range.mp hi;omega) x .no hx'.1 hx'.2
  refine⟨x',1,?_,⟨g1,Nat.lt_of_lt_of_le (show x'.natAbs<10^10 by omega) (by decide),by decide,by decide,λ_=>by omega⟩⟩
  have f1:dJ (cg (aZ (aa (ai fx (aa (ai bN (aa (ah 0) (af))) (aa (aw (.int 9)) (af)))) (af)))) (gN 4) (aQ 3 (ak bD (ak bi (ak bi (ak eE (ah 3) (aw (.int 5))) (ak bD (ak aG (ah 0) (ah 4)) (aw (.int 2147483629)))) (ak eG (aw (.int 31)) (ah 4))) (aw (.int 2147483647)))) [.v (gL ns),.v (nI k),.v (.int A),.v (.int x),.no]=.nx [.v (gL ns),.v (nI k),.v (.int A),.v (.int x'),s4']:=by
   unfold dJ cg;rw[hr];exact g3
  have i1:fz (df (ak C2 (ah 2) (ak eE (aw (.int 10)) (aw (.int 18))))) (bv (bY (aa (ah 2) (aa (aw (.int 0)) (af))))) (skip) [.v (gL ns),.v (nI k),.v (.int A),.no,.no]=.nx [.v (gL ns),.v (nI k),.v (.int A),.no,.no]:=by
   simp only[fz,df,ak,ah,List.getElem?_cons_succ,List.getElem?_cons_zero,Option.bind_some,aw,p2,tF,qX,decide_eq_false hb,skip]
  have i2:aQ 3 (ak bD (ak bi (ak bi (ah 2) (ak eG (aw (.int 7919)) (ah 1))) (aw (.int 17))) (aw (.int 2147483647))) [.v (gL ns),.v (nI k),.v (.int A),.no,.no]=.nx [.v (gL ns),.v (nI k),.v (.int A),.v (.int x),.no]:=by
   simp only[aQ,ak,ah,List.getElem?_cons_succ,List.getElem?_cons_zero,Option.bind_some,aw,m3,cO,m4,List.set_cons_succ,List.set_cons_zero]
  rw[av i1,av i2,av f1];simp only[bv,jP,aa,af,ah,aw,List.getElem?_cons_succ,List.getElem?_cons_zero,Option.bind_some,Option.map_some];rw[dS (by simp)]
theorem cU {i n:Nat}{M:List D->List D->Option (D×List D)}{fs:GA}{ρ ρ1:aC}{b0 bs ds bs':List D}{d:D}(h0:ge i ρ=some b0)(h1:fs ρ=some (ds,ρ1))(h2:ge i ρ1=some bs)(h3:ds.length=n)(h4:M bs ds=some (d,bs')):aL i n M fs ρ=some (d,fL i bs' ρ1):=by
 unfold aL;rw[h0];dsimp only;rw[h1];dsimp only;rw[h2];dsimp only;rw[if_pos h3,h4]
theorem mq {f:GE}{fs:GA}{ρ ρ1 ρ2:aC}{d:D}{ds:List D}(h1:f ρ=some (d,ρ1))(h2:fs ρ1=some (ds,ρ2)):gk f fs ρ=some (d::ds,ρ2):=by
 unfold gk bE;rw[h1];dsimp only[Option.bind];rw[h2];rfl
theorem bm {f:FA}{ρ:aC}{ds:List D}(h:f ρ=some ds):cg f ρ=some (ds,ρ):=by unfold cg;rw[h];rfl
theorem mU {f:FE}{ρ:aC}{d:D}(h:f ρ=some d):pu f ρ=some (d,ρ):=by unfold pu;rw[h];rfl
theorem nE {α β:Type}(f:α->β): ∀(l:List α) (j:Nat),(l.map f).eraseIdx j=(l.eraseIdx j).map f
 | [],_=>rfl
 |_::_,0=>rfl
 |x::l,j+1=>by simp[nE f l j]
theorem mx {α:Type}: ∀(l:List α) (j:Nat) (h:j<l.length),(l[j]::l.eraseIdx j).Perm l
 |_::_,0,_=>.refl _
 |x::l,j+1,h=>by
  have ih:=mx l j (by simpa using h)
  exact(List.Perm.swap _ _ _).trans (ih.cons x)
theorem iW: ∀r:List Nat,cE (r.map nI)=0
 | []=>by simp[cE]
 |a::r=>by
  rw[List.map_cons];unfold cE;rw[iW r];simp[dr]
theorem wm(r:List Nat):dr (.lst (r.map nI))<=32:=by unfold dr;rw[iW];omega
theorem wk(r:List Nat):dr (.tup (r.map nI))<=32:=by unfold dr;rw[iW];omega
abbrev Eb:FS->Nat->FS:=λb n=>i8 (df (ak kL (dA 2) (bY (af)))) b n
abbrev nR:FS:=bA (aL 3 1 fW (gk (aL 2 1 m9 (gk (aL 0 1 du (cg (aa (ai bN (aa (dA 2) (af))) (af)))) (cg (af)))) (cg (af))))
theorem BJ(n:D)(bg:List D)(left found:List Nat):df (ak kL (dA 2) (bY (af))) [.arg bg,.v n,.own (left.map nI),.own (found.map nI)]=some (!left.isEmpty):=by
 have h0:bY af [.arg bg,.v n,.own (left.map nI),.own (found.map nI)]=some (.lst []):=by
  rw[jP];simp only[af,Option.bind_some];exact dS (by simp)
 unfold df ak;rw[h0];simp only[dA,List.getElem?_cons_succ,List.getElem?_cons_zero,Option.bind_some];rw[jV (wm left)];cases left with
 |nil=>simp[qX,cF,cG]
 |cons x r=>simp[qX,cF,cG]
theorem vz(n:D){N:Nat}{a b:Int}(B:Bag N a b)(hN:N<=1000000000)(left found:List Nat)(h0:0<left.length)(h1:left.length<=100)(h2:found.length<=100):
 ∃(j:Nat) (hj:j<left.length) (a' b':Int),nR [.arg (bh a b),.v n,.own (left.map nI),.own (found.map nI)]=.nx [.arg (bh a' b'),.v n,.own ((left.eraseIdx j).map nI),.own ((found++[left[j]]).map nI)]/\Bag (N+1) a' b':=by
 obtain⟨d,a',b',e,B',d0,d1⟩:=lv (m:=left.length) B hN (by omega) (Nat.lt_of_lt_of_le (show(left.length:Int).natAbs<10^10 by omega) (by decide))
 obtain⟨j,rfl⟩: ∃j:Nat,d=(j:Int):=⟨d.toNat,by omega⟩
 have hj:j<left.length:=by omega
 refine⟨j,hj,a',b',?_,B'⟩
 have e2:m9 (left.map nI) [.int (j:Int)]=some (nI left[j],(left.eraseIdx j).map nI):=by
  rw[yu,dS (by simp;omega)]
  simp only[Option.bind_some];rw[ir (by simpa using hj)]
  simp[hj,nE]
 have e3:fW (found.map nI) [nI left[j]]=some (.non,(found++[left[j]]).map nI):=by
  rw[t8,nA (by simp;omega)];simp
 have g:aL 0 1 du (cg (aa (ai bN (aa (dA 2) (af))) (af))) [.arg (bh a b),.v n,.own (left.map nI),.own (found.map nI)]=some (nI j,[.arg (bh a' b'),.v n,.own (left.map nI),.own (found.map nI)]):=by
  simp[aL,ge,cg,aa,ai,dA,af,bN,e,fL]
 have g2:aL 2 1 m9 (gk (aL 0 1 du (cg (aa (ai bN (aa (dA 2) (af))) (af)))) (cg (af))) [.arg (bh a b),.v n,.own (left.map nI),.own (found.map nI)]=some (nI left[j],[.arg (bh a' b'),.v n,.own ((left.eraseIdx j).map nI),.own (found.map nI)]):=by
  refine(cU (i:=2) (n:=1) (b0:=left.map nI) (ds:=[nI j]) (ρ1:=[.arg (bh a' b'),.v n,.own (left.map nI),.own (found.map nI)]) rfl (mq g rfl) rfl rfl e2).trans rfl
 have g3:aL 3 1 fW (gk (aL 2 1 m9 (gk (aL 0 1 du (cg (aa (ai bN (aa (dA 2) (af))) (af)))) (cg (af)))) (cg (af))) [.arg (bh a b),.v n,.own (left.map nI),.own (found.map nI)]=some (.non,[.arg (bh a' b'),.v n,.own ((left.eraseIdx j).map nI),.own ((found++[left[j]]).map nI)]):=by
  refine(cU (i:=3) (n:=1) (b0:=found.map nI) (ds:=[nI left[j]]) (ρ1:=[.arg (bh a' b'),.v n,.own ((left.eraseIdx j).map nI),.own (found.map nI)]) rfl (mq g2 rfl) rfl rfl e3).trans rfl
 unfold nR bA;rw[g3]
theorem zn(n:D): ∀(f:Nat) (left found:List Nat) (N:Nat) (a b:Int),left.length<f->left.length<=50->found.length+left.length<=100->Bag N a b->N+left.length<=1000000000->
 ∃(o:List Nat) (a' b':Int),Eb nR f [.arg (bh a b),.v n,.own (left.map nI),.own (found.map nI)]=.nx [.arg (bh a' b'),.v n,.own [],.own ((found++o).map nI)]/\o.Perm left/\Bag (N+left.length) a' b'
 |0,left,found,N,a,b,h,_,_,_,_=>absurd h (Nat.not_lt_zero _)
 |f+1,left,found,N,a,b,h,h1,h2,B,hN=>by
  unfold Eb i8;rw[BJ];cases e:left.isEmpty with
  |true=>
   have:left=[]:=by simpa using e
   subst this;exact⟨[],a,b,by simp,.refl _,by simpa using B⟩
  |false=>
   have h0:0<left.length:=by cases left with
    |nil=>cases e
    |cons x r=>simp
   obtain⟨j,hj,a1,b1,e1,B1⟩:=vz n B (by omega) left found h0 (by omega) (by omega)
   have hl:(left.eraseIdx j).length=left.length-1:=by rw[List.length_eraseIdx];simp[hj]
   obtain⟨o,a2,b2,e2,p,B2⟩:=zn n f (left.eraseIdx j) (found++[left[j]]) (N+1) a1 b1 (by omega) (by omega) (by simp;omega) B1 (by omega)
   refine⟨left[j]::o,a2,b2,?_,?_,?_⟩
   ·simp only[Bool.not_false]
    rw[e1];dsimp only;have:i8 (df (ak kL (dA 2) (bY af))) nR f=Eb nR f:=rfl
    rw[this,e2];simp
   ·exact(p.cons _).trans (mx left j hj)
   ·rw[show N+left.length=N+1+(left.eraseIdx j).length by omega];exact B2
structure Ord(n:Nat)(r:List Nat):Prop where
 perm:r.Perm (List.range n)
theorem Ord.len {n:Nat}{r:List Nat}(o:Ord n r):r.length=n:=by rw[o.perm.length_eq];simp
theorem Ord.lt {n:Nat}{r:List Nat}(o:Ord n r){v:Nat}(h:v∈r):v<n:=by simpa using o.perm.mem_iff.mp h
theorem Ord.has {n:Nat}{r:List Nat}(o:Ord n r){v:Nat}(h:v<n):v∈r:=o.perm.mem_iff.mpr (by simpa using h)
theorem Ord.nd {n:Nat}{r:List Nat}(o:Ord n r):r.Nodup:=o.perm.nodup_iff.mpr List.nodup_range
theorem zb {n:Nat}(h:n<=1000)(f:FE)(ρ:aC)(e:f ρ=some (nI n)):xC f ρ=some (.lst ((List.range n).map nI)):=by
 unfold xC yQ;rw[e];simp only[Option.bind_some];rw[if_pos (by omega),xt];rfl
theorem qa {N:Nat}{a b:Int}(B:Bag N a b){n:Nat}(hn:n<=12)(hN:N<=900000000): ∃(o:List Nat) (a' b':Int),gK (bh a b) [nI n]=some (.lst (o.map nI),bh a' b')/\Ord n o/\Bag (N+n) a' b':=by
 obtain⟨o,a',b',e,p,B'⟩:=zn (nI n) 16 (List.range n) [] N a b (by simp;omega) (by simp;omega) (by simp;omega) B (by simp;omega)
 refine⟨o,a',b',?_,⟨p⟩,by simpa using B'⟩
 have r0:oE 4 (bh a b) [nI n]=[.arg (bh a b),.v (nI n),.no,.no]:=rfl
 have s1:cQ 2 (xC (ah 1)) [.arg (bh a b),.v (nI n),.no,.no]=.nx [.arg (bh a b),.v (nI n),.own ((List.range n).map nI),.no]:=by
  unfold cQ;rw[zb (n:=n) (by omega) (ah 1) _ rfl]
  rfl
 have s2:cQ 3 (bY (af)) [.arg (bh a b),.v (nI n),.own ((List.range n).map nI),.no]=.nx [.arg (bh a b),.v (nI n),.own ((List.range n).map nI),.own []]:=by
  unfold cQ;rw[jP];simp only[af,Option.bind_some];rw[dS (by simp)]
  rfl
 unfold gK uV qh;rw[r0,av s1,av s2];have e':i8 (df (ak kL (dA 2) (bY (af)))) nR 16 [.arg (bh a b),.v (nI n),.own ((List.range n).map nI),.own []]=.nx [.arg (bh a' b'),.v (nI n),.own [],.own (o.map nI)]:=e
 rw[av e'];simp[kF,q9,m6]
theorem au {F:D->D->Option D}{f g:FE}{ρ:aC}{x y:D}(h1:f ρ=some x)(h2:g ρ=some y):ak F f g ρ=F x y:=by unfold ak;rw[h1,Option.bind_some,h2,Option.bind_some]
theorem tD {F:D->D->Option D}{f g:GE}{ρ ρ1 ρ2:aC}{x y d:D}(h1:f ρ=some (x,ρ1))(h2:g ρ1=some (y,ρ2))(h3:F x y=some d):lK F f g ρ=some (d,ρ2):=by
 unfold lK bE;rw[h1];dsimp only[Option.bind];rw[h2];dsimp only[Option.bind];rw[h3];rfl
theorem bb {i:Nat}{f:FE}{ρ:aC}{d:D}(h:f ρ=some d):aQ i f ρ=.nx (ρ.set i (.v d)):=by unfold aQ;rw[h]
theorem lz {i:Nat}{f:GE}{ρ ρ1:aC}{d:D}(h:f ρ=some (d,ρ1)):jj i f ρ=.nx (ρ1.set i (.v d)):=by unfold jj;rw[h]
theorem xM {i:Nat}{f:GE}{ρ ρ1:aC}{ds:List D}(h:f ρ=some (.lst ds,ρ1)):rO i f ρ=.nx (ρ1.set i (.own ds)):=by unfold rO;rw[h];rfl
theorem en {i:Nat}{f:FE}{ρ:aC}{ds:List D}(h:f ρ=some (.lst ds)):cQ i f ρ=.nx (ρ.set i (.own ds)):=by unfold cQ;rw[h];rfl
theorem dv {f:FA}{ρ:aC}{ds:List D}(h:f ρ=some ds)(h2:ds.length<=1000):cf f ρ=some (.tup ds):=by
 rw[yR,h,Option.bind_some,dS h2]
theorem gu {f:FA}{ρ:aC}{ds:List D}(h:f ρ=some ds)(h2:ds.length<=1000):bY f ρ=some (.lst ds):=by
 rw[jP,h,Option.bind_some,dS h2]
theorem aq {f:FE}{fs:FA}{ρ:aC}{d:D}{ds:List D}(h1:f ρ=some d)(h2:fs ρ=some ds):aa f fs ρ=some (d::ds):=by unfold aa;rw[h1,h2];rfl
theorem ba {F:List D->Option D}{f:FA}{ρ:aC}{ds:List D}(h:f ρ=some ds):ai F f ρ=F ds:=by unfold ai;rw[h];rfl
theorem zE {r:List Nat}{c:Nat}(h:c<r.length):nQ (r.map nI) (c:Int)=some (nI (r.getD c 0)):=tH (by rw[List.getElem?_map,List.getElem?_eq_getElem h];simp[List.getD,h])
theorem tX {r:List Nat}{c:Nat}(h:c<r.length):aG (.lst (r.map nI)) (nI c)=some (nI (r.getD c 0)):=zE h
theorem hE {r:List Nat}{c:Nat}(h:c<r.length):aG (.tup (r.map nI)) (nI c)=some (nI (r.getD c 0)):=zE h
theorem lN(a b:Nat):cF (nI a) (nI b)=decide (a=b):=by
 rw[iA];rw[Bool.eq_iff_iff];simp;omega
theorem DR(a b:Nat):bi (nI a) (nI b)=some (nI (a+b)):=by rw[cO];simp
theorem Da(a:Nat):bi (nI a) (.int 1)=some (nI (a+1)):=by rw[cO];simp
theorem Bd {a n:Nat}(h:0<n):bD (nI a) (nI n)=some (nI (a % n)):=by rw[eA (by omega)];rfl
theorem qC {i:Nat}{fi:FE}{d:D}{ρ:aC}{bs:List D}{j:Nat}(h1:ge i ρ=some bs)(h2:fi ρ=some (nI j))(h3:j<bs.length):eF i fi d ρ=some (fL i (bs.set j d) ρ):=by
 unfold eF;rw[h1];dsimp only;rw[h2];dsimp only;rw[ir h3]
theorem vK(x:List Nat)(j v:Nat):(x.map nI).set j (nI v)=(x.set j v).map nI:=by rw[List.map_set]
def rh(n:Nat)(r x:List Nat)(c:Nat):List Nat:=if x.getD c 0=r.getD c 0 then(x.set c (x.getD ((c+1) % n) 0)).set ((c+1) % n) (x.getD c 0) else x
abbrev uc:FS:=ay (aQ 7 (ak bD (ak bi (ah 6) (aw (.int 1))) (ah 1)))
 (fz (df (ak hZ (ak aG (dA 5) (ah 6)) (ak aG (ah 4) (ah 6)))) (gg (gT 2 (gE (eF 5 (ah 6)) (gE (eF 5 (ah 7)) (lh)))) (pu (cf (aa (ak aG (dA 5) (ah 7)) (aa (ak aG (dA 5) (ah 6)) (af)))))) (skip))
theorem vL(bg:List D)(p q:D)(n:Nat)(r x:List Nat)(c:Nat)(s7:Sl)(hr:r.length=n)(hx:x.length=n)(hc:c<n):
 uc [.arg bg,.v (nI n),.v p,.v q,.v (.lst (r.map nI)),.own (x.map nI),.v (nI c),s7]=.nx [.arg bg,.v (nI n),.v p,.v q,.v (.lst (r.map nI)),.own ((rh n r x c).map nI),.v (nI c),.v (nI ((c+1) % n))]:=by
 have hd:(c+1) % n<n:=Nat.mod_lt _ (by omega)
 have e1:aQ 7 (ak bD (ak bi (ah 6) (aw (.int 1))) (ah 1)) [.arg bg,.v (nI n),.v p,.v q,.v (.lst (r.map nI)),.own (x.map nI),.v (nI c),s7]=.nx [.arg bg,.v (nI n),.v p,.v q,.v (.lst (r.map nI)),.own (x.map nI),.v (nI c),.v (nI ((c+1) % n))]:=
  (bb ((au (au (x:=nI c) (y:=.int 1) rfl rfl |>.trans (Da c)) (y:=nI n) rfl).trans (Bd (by omega)))).trans rfl
 unfold uc;rw[av e1];have i1:ak aG (dA 5) (ah 6) [.arg bg,.v (nI n),.v p,.v q,.v (.lst (r.map nI)),.own (x.map nI),.v (nI c),.v (nI ((c+1) % n))]=some (nI (x.getD c 0)):=(au (x:=.lst (x.map nI)) (y:=nI c) rfl rfl).trans (tX (by omega))
 have i2:ak aG (ah 4) (ah 6) [.arg bg,.v (nI n),.v p,.v q,.v (.lst (r.map nI)),.own (x.map nI),.v (nI c),.v (nI ((c+1) % n))]=some (nI (r.getD c 0)):=(au (x:=.lst (r.map nI)) (y:=nI c) rfl rfl).trans (tX (by omega))
 have i3:ak aG (dA 5) (ah 7) [.arg bg,.v (nI n),.v p,.v q,.v (.lst (r.map nI)),.own (x.map nI),.v (nI c),.v (nI ((c+1) % n))]=some (nI (x.getD ((c+1) % n) 0)):=(au (x:=.lst (x.map nI)) (y:=nI ((c+1) % n)) rfl rfl).trans (tX (by omega))
 unfold fz df;rw[au i1 i2,jp (by rw[gX];omega),lN]
 by_cases e:x.getD c 0=r.getD c 0
 ·rw[decide_eq_true e]
  simp only[qX];unfold gg;rw[mU (dv (aq i3 (aq i1 rfl)) (by simp))]
  simp only[gT,List.length_cons,List.length_nil,gE];unfold rh;rw[if_pos e];rw[qC (bs:=x.map nI) (j:=c) rfl rfl (by simp;omega)]
  simp only[Option.bind_some];rw[qC (bs:=(x.map nI).set c (nI (x.getD ((c+1) % n) 0))) (j:=(c+1) % n) rfl rfl (by simp;omega)]
  simp only[Option.bind_some,lh,vK];rfl
 ·rw[decide_eq_false e]
  simp only[qX,skip];unfold rh;rw[if_neg e]
theorem swap_perm(x:List Nat)(c d:Nat)(hc:c<x.length)(hd:d<x.length):((x.set c (x.getD d 0)).set d (x.getD c 0)).Perm x:=by
 have e:(x.toArray.swap c d (by simpa using hc) (by simpa using hd)).toList=(x.set c (x.getD d 0)).set d (x.getD c 0):=by
  simp[Array.toList_swap,List.getD,hc,hd]
 rw[<-e];have:=Array.swap_perm (xs:=x.toArray) (i:=c) (j:=d) (by simpa using hc) (by simpa using hd)
 simpa using (Array.perm_iff_toList_perm.mp this)
theorem oH {x:List Nat}(h:x.Nodup){i j:Nat}(hi:i<x.length)(hj:j<x.length)(e:x.getD i 0=x.getD j 0):i=j:=by
 have:x[i]=x[j]:=by simpa [List.getD,hi,hj] using e
 exact(List.getElem_inj h).mp this
theorem Ord.fix {n:Nat}{r x:List Nat}(or:Ord n r)(ox:Ord n x){c:Nat}(hc:c<n)(hn:2<=n):Ord n (rh n r x c)/\((∀i,i<c->x.getD i 0≠r.getD i 0)-> ∀i,i<c+1->(rh n r x c).getD i 0≠r.getD i 0):=by
 have lx:=ox.len
 have lr:=or.len
 have hd:(c+1) % n<n:=Nat.mod_lt _ (by omega)
 have gx: ∀i,i<n->x.getD i 0=x[i]! :=λi hi=>by simp[List.getD,lx,hi]
 unfold rh
 by_cases e:x.getD c 0=r.getD c 0
 ·rw[if_pos e]
  have ne:(c+1) % n≠c:=by
   by_cases h:c+1<n
   ·rw[Nat.mod_eq_of_lt h];omega
   ·rw[show c+1=n by omega,Nat.mod_self];omega
  refine⟨⟨(swap_perm x c _ (by omega) (by omega)).trans ox.perm⟩,λh i hi=>?_⟩
  have g:((x.set c (x.getD ((c+1) % n) 0)).set ((c+1) % n) (x.getD c 0)).getD i 0=if i=(c+1) % n then x.getD c 0 else if i=c then x.getD ((c+1) % n) 0 else x.getD i 0:=by
   simp only[List.getD,List.getElem?_set,List.length_set]
   by_cases h1:(c+1) % n=i
   ·subst h1;simp[lx,hd]
   ·rw[if_neg h1,if_neg (Ne.symm h1)]
    by_cases h2:c=i
    ·subst h2;simp[lx,hc]
    ·rw[if_neg h2,if_neg (Ne.symm h2)]
  rw[g]
  by_cases h1:i=(c+1) % n
  ·rw[if_pos h1,e]
   intro z;have:=oH or.nd (by omega) (by omega) z
   omega
  ·rw[if_neg h1]
   by_cases h2:i=c
   ·rw[if_pos h2,h2,<-e]
    intro z;have:=oH ox.nd (by omega) (by omega) z
    omega
   ·rw[if_neg h2];exact h i (by omega)
 ·rw[if_neg e]
  refine⟨ox,λh i hi=>?_⟩
  by_cases hic:i=c
  ·subst hic;exact e
  ·exact h i (by omega)
theorem zk(bg:List D)(p q:D){n:Nat}{r:List Nat}(or:Ord n r)(hn:2<=n): ∀(k c:Nat) (x:List Nat) (s6 s7:Sl),c+k=n->Ord n x->(∀i,i<c->x.getD i 0≠r.getD i 0)->
 ∃(x':List Nat) (s6' s7':Sl),fw (gN 6) uc ((List.range' c k).map nI) [.arg bg,.v (nI n),.v p,.v q,.v (.lst (r.map nI)),.own (x.map nI),s6,s7]=.nx [.arg bg,.v (nI n),.v p,.v q,.v (.lst (r.map nI)),.own (x'.map nI),s6',s7']/\Ord n x'/\ ∀i,i<n->x'.getD i 0≠r.getD i 0
 |0,c,x,s6,s7,h,ox,hi=>⟨x,s6,s7,rfl,ox,λi h'=>hi i (by omega)⟩
 |k+1,c,x,s6,s7,h,ox,hi=>by
  obtain⟨o1,o2⟩:=or.fix ox (c:=c) (by omega) hn
  obtain⟨x',a,b,e,o3,o4⟩:=zk bg p q or hn k (c+1) (rh n r x c) (.v (nI c)) (.v (nI ((c+1) % n))) (by omega) o1 (o2 hi)
  refine⟨x',a,b,?_,o3,o4⟩
  rw[List.range'_succ,List.map_cons];unfold fw;have:gN 6 (nI c) [.arg bg,.v (nI n),.v p,.v q,.v (.lst (r.map nI)),.own (x.map nI),s6,s7]=some [.arg bg,.v (nI n),.v p,.v q,.v (.lst (r.map nI)),.own (x.map nI),.v (nI c),s7]:=rfl
  rw[this];dsimp only;rw[vL bg p q n r x c s7 or.len ox.len (by omega)]
  exact e
theorem cZ {α:Type}{g:FG}{f:FE}{ρ0:aC}{h o:α->D}: ∀(l:List α),(∀i∈l,∃ρ1,g (h i) ρ0=some ρ1/\f ρ1=some (o i))->cS g fI f ρ0 (l.map h)=some (l.map o)
 | [],_=>rfl
 |a::l,H=>by
  obtain⟨ρ1,h1,h2⟩:=H a (by simp)
  have ih:=cZ l λi hi=>H i (by simp[hi])
  rw[List.map_cons];unfold cS;rw[h1,Option.bind_some];simp only[fI,Option.bind_some,if_true,h2,ih];rfl
theorem cb {m:Nat}{gi:FA}{g:FG}{p:FT}{f:FE}{ρ:aC}{ds ys:List D}(h1:gi ρ=some ds)(h2:ds.length<=1000)(h3:cS g p f (ρ++List.replicate m .no) ds=some ys):aS m gi g p f ρ=some (.lst ys):=by
 rw[vF,h1,Option.bind_some,dS h2,Option.bind_some,h3];rfl
theorem yd: ∀n,2<=n->n<=6-> ∀b,1<=b->b<n->Ord n ((List.range n).map λi=>(i+b) % n):=by
 intro n h1 h2 b h3 h4;refine⟨?_⟩
 have: ∀n:_root_.Fin 7,∀b:_root_.Fin 7,((List.range n.val).map λi=>(i+b.val) % n.val).isPerm (List.range n.val)=true\/ ¬(b.val<n.val):=by decide
 rcases this ⟨n,by omega⟩ ⟨b,by omega⟩ with h|h
 ·exact List.isPerm_iff.mp h
 ·exact absurd h4 h
abbrev ci(r:List Nat):D:=.tup (r.map nI)
abbrev aN(r x:List Nat):D:=.tup [ci r,ci x]
structure Sq(n:Nat)(r x:List Nat):Prop where
 hr:Ord n r
 hx:Ord n x
 ne: ∀i,i<n->x.getD i 0≠r.getD i 0
theorem cB {f:FA}{ρ:aC}{n:Nat}(h:f ρ=some [nI n])(hn:n<=1000):aZ f ρ=some ((List.range n).map nI):=by
 rw[pS,h,Option.bind_some,pY (by omega),xt];rfl
theorem EG {j:Int}(h:0<=j):D.int j=nI j.toNat:=by show D.int j=D.int (j.toNat:Int);rw[Int.toNat_of_nonneg h]
theorem CQ {n:Nat}{P:List D->Option D}{ds:List D}(h:ds.length=n):nF n P ds=P ds:=if_pos h
theorem oI {g:FG}{f:GE}{ρ ρ1 ρ2:aC}{d:D}(h1:f ρ=some (d,ρ1))(h2:g d ρ1=some ρ2):gg g f ρ=.nx ρ2:=by unfold gg;rw[h1];dsimp only;rw[h2];rfl
theorem cI {n:Nat}{P:List D->Option D}{fs:FA}{ρ:aC}{ds:List D}(h:fs ρ=some ds)(hl:ds.length=n):ai (nF n P) fs ρ=P ds:=(ba h).trans (CQ hl)
theorem cw {kd:Kd}{n:Nat}{t:FS}{ds:List D}{ρ:aC}{d:D}(h:t (gA n ds)=.rt d ρ):iL kd n t ds=some d:=by unfold iL;rw[h]
theorem de {f:FE}{ρ:aC}{d:D}(h:f ρ=some d):bv f ρ=.rt d ρ:=by unfold bv;rw[h]
theorem tz: ∀bs:List Bool,jd (bs.map D.bl)=some bs
 | []=>rfl
 |b::r=>by show(jd (r.map D.bl)).map (b:: ·)=_;rw[tz r];rfl
theorem xT(bs:List Bool):p9 [.lst (bs.map D.bl)]=some (.bl (bs.any id)):=by
 show(jd (bs.map D.bl)).map (λbs=>D.bl (bs.any id))=_
 rw[tz];rfl
theorem nw {p:FT}{t u:FS}{ρ:aC}(h:p ρ=some false):fz p t u ρ=u ρ:=by unfold fz;rw[h]
theorem mI {p:FT}{t u:FS}{ρ:aC}(h:p ρ=some true):fz p t u ρ=t ρ:=by unfold fz;rw[h]
theorem Ai {p q:FT}{ρ:aC}{b:Bool}(h1:p ρ=some false)(h2:q ρ=some b):xE p q ρ=some b:=by unfold xE;rw[h1];exact h2
theorem sL {p q:FT}{ρ:aC}{b:Bool}(h1:p ρ=some true)(h2:q ρ=some b):rJ p q ρ=some b:=by unfold rJ;rw[h1];exact h2
theorem jw {f:GE}{ρ ρ1:aC}{d:D}(h:f ρ=some (d,ρ1)):bA f ρ=.nx ρ1:=by unfold bA;rw[h]
theorem fB {f:FE}{ρ:aC}{b:Bool}(h:f ρ=some (.bl b)):df f ρ=some b:=by unfold df;rw[h];rfl
theorem i0 {f:FE}{ρ:aC}{b:Bool}(h:f ρ=some (.bl b)):dZ f ρ=some b:=by unfold dZ;rw[h];rfl
theorem jg {p:FT}{ρ:aC}{b:Bool}(h:p ρ=some b):fy p ρ=some (!b):=by unfold fy;rw[h];rfl
theorem yM {x:D}(h:dr x<=32):kL x x=some (.bl false):=by rw[jV h,jx];rfl
theorem yp {x:D}(h:dr x<=32):hZ x x=some (.bl true):=by rw[jp h,jx]
theorem cD {g:FG}{b:FS}{d:D}{r:List D}{ρ ρ1 ρ2:aC}(h1:g d ρ=some ρ1)(h2:b ρ1=.nx ρ2):fw g b (d::r) ρ=fw g b r ρ2:=by
 show(match g d ρ with
  |none=>Out.no
  |some ρ1=>match b ρ1 with
   | .nx ρ2=>fw g b r ρ2
   | .ct ρ2=>fw g b r ρ2
   | .bk ρ2=>.nx ρ2
   | .rt d ρ2=>.rt d ρ2
   | .no=>.no)=_
 rw[h1];dsimp only;rw[h2]
theorem db {f:GA}{g:FG}{b:FS}{ρ ρ1:aC}{ds:List D}(h:f ρ=some (ds,ρ1)):dJ f g b ρ=fw g b ds ρ1:=by unfold dJ;rw[h]
theorem oe {f:FE}{ρ:aC}{ds:List D}(h:f ρ=some (.lst ds)):jn f ρ=some ds:=by unfold jn;rw[h];rfl
theorem oZ {kd:Kd}{n:Nat}{t:FS}{ds:List D}{d:D}(h: ∃ρ,t (gA n ds)=.rt d ρ):iL kd n t ds=some d:=let⟨_,h⟩:=h;cw h
theorem zO {t u:FS}{ρ:aC}{d:D}(P:aC->Prop)(h: ∃ρ',t ρ=.nx ρ'/\P ρ')(hu: ∀ρ',P ρ'-> ∃ρ'',u ρ'=.rt d ρ''): ∃ρ'',ay t u ρ=.rt d ρ'':=by
 obtain⟨ρ',h1,h2⟩:=h
 obtain⟨ρ'',h3⟩:=hu ρ' h2
 exact⟨ρ'',(av h1).trans h3⟩
theorem xI {f:GA}{g:FG}{b:FS}{ρ ρ1:aC}{ds:List D}{P:aC->Prop}(h:f ρ=some (ds,ρ1))(hl: ∃ρ',fw g b ds ρ1=.nx ρ'/\P ρ'): ∃ρ',dJ f g b ρ=.nx ρ'/\P ρ':=by
 obtain⟨ρ',h1,h2⟩:=hl
 exact⟨ρ',(db h).trans h1,h2⟩
theorem oV {g:FG}{b:FS}{P:aC->Prop}: ∀(l:List D),(∀d∈l,∀ρ,P ρ-> ∃ρ1 ρ2,g d ρ=some ρ1/\b ρ1=.nx ρ2/\P ρ2)-> ∀ρ,P ρ-> ∃ρ',fw g b l ρ=.nx ρ'/\P ρ'
 | [],_,ρ,p=>⟨ρ,rfl,p⟩
 |d::l,h,ρ,p=>by
  obtain⟨ρ1,ρ2,h1,h2,p2⟩:=h d (by simp) ρ p
  obtain⟨ρ',e,p'⟩:=oV l (λd' hd=>h d' (by simp[hd])) ρ2 p2
  exact⟨ρ',(cD h1 h2).trans e,p'⟩
theorem kA {i:Nat}{fs:GA}{ρ ρ1:aC}{b0 bs:List D}{d:D}(h0:ge i ρ=some b0)(h1:fs ρ=some ([d],ρ1))(h2:ge i ρ1=some bs)(h3:bs.length<=900):bA (aL i 1 fW fs) ρ=.nx (fL i (bs++[d]) ρ1):=
 jw (cU h0 h1 h2 rfl (by rw[t8,nA (by omega)]))
theorem fO {α:Type}{g:FG}{p:FT}{f:FE}{ρ0:aC}{h o:α->D}{q:α->Bool}: ∀(l:List α),(∀i∈l,∃ρ1,g (h i) ρ0=some ρ1/\p ρ1=some (q i)/\(q i=true->f ρ1=some (o i)))->cS g p f ρ0 (l.map h)=some ((l.filter q).map o)
 | [],_=>rfl
 |a::l,H=>by
  obtain⟨ρ1,h1,h2,h3⟩:=H a (by simp)
  have ih:=fO l λi hi=>H i (by simp[hi])
  rw[List.map_cons];unfold cS;rw[h1,Option.bind_some,h2,Option.bind_some];cases e:q a with
  |true=>rw[if_pos rfl,h3 e,Option.bind_some,ih];simp[e]
  |false=>rw[if_neg (by simp),ih];simp[e]
theorem pj {α:Type}{g:FG}{p:FT}{A:FA}{ρ0:aC}{h:α->D}{q:α->Bool}{o:α->List D}: ∀(l:List α),(∀i∈l,∃ρ1,g (h i) ρ0=some ρ1/\p ρ1=some (q i)/\(q i=true->A ρ1=some (o i)))->mP g p A ρ0 (l.map h)=some ((l.filter q).flatMap o)
 | [],_=>rfl
 |a::l,H=>by
  obtain⟨ρ1,h1,h2,h3⟩:=H a (by simp)
  have ih:=pj l λi hi=>H i (by simp[hi])
  rw[List.map_cons];unfold mP;rw[h1,Option.bind_some,h2,Option.bind_some];cases e:q a with
  |true=>rw[if_pos rfl,h3 e,Option.bind_some,ih];simp[e]
  |false=>rw[if_neg (by simp),ih];simp[e]
theorem yG {f:FE}{ρ:aC}{d:D}(h:f ρ=some d):qe f ρ=some [d]:=by unfold qe;rw[h];rfl
theorem yj {m:Nat}{gi1 gi2:FA}{g1 g2:FG}{p1 p2:FT}{f:FE}{ρ:aC}{ds ys:List D}(h1:gi1 ρ=some ds)(h2:mP g1 p1 (xz gi2 g2 p2 f) (ρ++List.replicate m .no) ds=some ys)(h3:ys.length<=1000):uY m gi1 g1 p1 gi2 g2 p2 f ρ=some (.lst ys):=by
 unfold uY;rw[h1,Option.bind_some,h2,Option.bind_some,if_pos (Nat.le_of_lt (iC h3))]
theorem Ao {gi:FA}{g:FG}{p:FT}{f:FE}{ρ:aC}{ds ys:List D}(h1:gi ρ=some ds)(h2:mP g p (qe f) ρ ds=some ys):xz gi g p f ρ=some ys:=by
 unfold xz;rw[h1,Option.bind_some,h2]
theorem vA(r:List Nat)(ρ:aC)(f:FE)(h:f ρ=some (.lst (r.map nI))):ai bN (aa f af) ρ=some (nI r.length):=by
 rw[ba (aq h rfl)];show some (D.int ((r.map nI).length:Int))=_;rw[List.length_map]
theorem jy(r:List Nat)(ρ:aC)(f:FE)(h:f ρ=some (ci r)):ai bN (aa f af) ρ=some (nI r.length):=by
 rw[ba (aq h rfl)];show some (D.int ((r.map nI).length:Int))=_;rw[List.length_map]
theorem zm(L:List Nat)(c:Nat):(L.map nI).any (λd=>cF d (nI c))=decide (c∈L):=by
 induction L with
 |nil=>simp
 |cons a L ih=>
  rw[List.map_cons,List.any_cons,ih,lN,Bool.eq_iff_iff];simp only[Bool.or_eq_true,decide_eq_true_eq,List.mem_cons];exact or_congr_left eq_comm
theorem Ew(L:List Nat)(c:Nat):sP false (nI c) (.lst (L.map nI))=some (.bl (decide (c∈L))):=by
 unfold sP rk;dsimp only;rw[iW,if_pos (by omega),zm]
 rfl
theorem pL {α β:Type}(f:α->β): ∀l:List α,l.flatMap (λc=>[f c])=l.map f
 | []=>rfl
 |a::l=>by rw[List.flatMap_cons,pL f l];rfl
theorem wM: ∀k l:List Int,cG (k.map D.int) (l.map D.int)=decide (k=l)
 | [],[]=>by simp[cG]
 | [],_::_=>by simp[cG]
 |_::_,[]=>by simp[cG]
 |a::k,b::l=>by
  rw[List.map_cons,List.map_cons];unfold cG;rw[wM k l,iA,Bool.eq_iff_iff];simp
theorem yY(k l:List Int):cF (jE k) (jE l)=decide (k=l):=by
 unfold jE cF;exact wM k l
theorem Ord.get {n:Nat}{o:List Nat}(O:Ord n o){i:Nat}(h:i<n):o.getD i 0<n:=by
 have ho:=O.len
 have:o.getD i 0=o[i]'(by omega):=by simp[List.getD,ho,h]
 rw[this];exact O.lt (List.getElem_mem _)
theorem Ord.inj {n:Nat}{o:List Nat}(O:Ord n o){i j:Nat}(hi:i<n)(hj:j<n)(e:o.getD i 0=o.getD j 0):i=j:=oH O.nd (by rw[O.len];exact hi) (by rw[O.len];exact hj) e
theorem mR {m:Nat}: ∀ {l:List D},(∀d∈l,dr d<=m)->cE l<=m
 | [],_=>by simp[cE]
 |d::l,h=>by
  unfold cE;have h1:=h d (by simp)
  have h2:=mR (l:=l) λx hx=>h x (by simp[hx])
  omega
open PySem PySem.W PySem.Spec PyProof.Rows
section
variable {X:Cx}{c:Ct}{a b e:Expr}{f g:FE}{pos p p2 p3:Pos}{k:Kd}
def zF(K:W.Frag):R2:=λx y H Q=> ∃l b xs zs,x=.ref l/\y=.ref b/\SqL K H l xs/\SqL K H b zs/\xs.length+zs.length<=sizeLine/\ ∀p,H p=none->Q (.ref p) (bq H p (.lst (xs++zs)))
theorem xK:jS X (binaryOp .Add) (zF X.K):=by
 intro ab s σ H x y v u Q I rx ry h;obtain⟨l,b,xs,zs,rfl,rfl,hL,hB,hz,q⟩:=h
 cases rx
 cases ry
 obtain⟨its,r,⟨o,n,e,c1,d1,t1⟩,z1⟩:=I.list hL
 obtain⟨its2,r2,⟨o2,n2,e2,c2,d2,t2⟩,z2⟩:=I.list hB
 obtain⟨oc,od,ot,sl⟩:=o
 obtain⟨oc2,od2,ot2,sl2⟩:=o2
 dsimp only at c1 d1 t1 c2 d2 t2;subst c1 d1 t1 c2 d2 t2;have hl:=r.length
 have hl2:=r2.length
 refine concat_meets ⟨_,e,rfl⟩ ⟨_,e2,rfl⟩ noFill_list_add seq_list_add PySem.F.slot_list_add PySem.F.entry_list_add (PySem.F.args_list_add_2 _ _) (list_addW l b its.toArray its2.toArray n n2 none none sl sl2 (by rw[List.size_toArray,List.size_toArray];omega)) ⟨e,e2,?_⟩
 have ea:its.toArray++its2.toArray=(its++its2).toArray:=by simp
 rw[ea];exact⟨.ref _,_,I.lnew (t':=s.toks) (r.append r2) (by rw[List.length_append];omega),rfl,q _ I.fresh⟩
def gp:D->D->Option D
 | .lst xs,.lst ys=>if xs.length+ys.length<=sizeLine then some (.lst (xs++ys)) else none
 |_,_=>none
theorem yW {K:W.Frag}:lT K .n (zF K) gp:=by
 intro H hid v u x y d Q hf h r1 r2 q;unfold gp at h;split at h
 ·split at h
  ·rename_i hz
   cases h
   obtain⟨a,xs,rfl,h1,h2⟩:=r1.lst
   obtain⟨b,ys,rfl,h3,h4⟩:=r2.lst
   exact⟨a,b,xs,ys,rfl,rfl,h1,h3,by rw[h2.length,h4.length];exact hz,λp hp=>q _ _ (aY hp _) (ma hp (Same.refl _) (h2.append h4))⟩
  ·cases h
 ·cases h
theorem ls {k1 k2:Kd}(ha:DP X c k1 a f)(hb:DP X c k2 b g):DP X c .n (.BinOp a .Add b pos) (ak gp f g):=mw xK yW ha hb
end
section
variable {X:Cx}{c:Ct}{e:Expr}{es:List Expr}{k:Kd}{pos p:Pos}{x:Str}{ps:List Str}{j n:Nat}
def ia(f:FE):FA:=λρ=>(f ρ).bind λd=>match d with
 | .lst ds=>some ds
 | .tup ds=>some ds
 |_=>none
theorem gn {tg iter:Expr}{f:FE}(h:DP X c .s iter f):DIp X c tg iter (ia f):=λhid ρ ab s σ H R I hq_=>by
 obtain⟨sr,ds,e1,q⟩:=hq_
 unfold ia at e1;cases e2:f ρ with
 |none=>rw[e2] at e1;cases e1
 |some d=>
  rw[e2,Option.bind_some] at e1;cases d with
  |lst xs=>cases e1;exact v9 h hid ρ ab s σ H R I ⟨sr,ds,by unfold jn;rw[e2];rfl,q⟩
  |tup xs=>cases e1;exact yX h hid ρ ab s σ H R I ⟨sr,ds,by unfold yy;rw[e2];rfl,q⟩
  |_=>cases e1
end
theorem jq {es rest:List Expr}{x1}{pos:Pos}{env:Env}:starEach (.Tuple es x1 pos::rest) env=(false,eval (.Tuple es x1 pos) env)::starEach rest env:=by rfl
@[elab_as_elim] theorem ar0 {motive:List Value->Prop} (us:List Value) (hl:us.length=0) (h:motive []):motive us:=by
 cases us with
 |nil=>exact h
 |cons a r=>exact absurd hl (Nat.succ_ne_zero _)
@[elab_as_elim] theorem ar1 {motive:List Value->Prop} (us:List Value) (hl:us.length=1) (h: ∀a0,motive [a0]):motive us:=by
 cases us with
 |nil=>exact absurd hl (by decide)
 |cons a0 r=>exact ar0 (motive:=λr=>motive (a0::r)) r (Nat.succ.inj hl) (h a0)
@[elab_as_elim] theorem ar2 {motive:List Value->Prop} (us:List Value) (hl:us.length=2) (h: ∀a0 a1,motive [a0,a1]):motive us:=by
 cases us with
 |nil=>exact absurd hl (by decide)
 |cons a0 r=>exact ar1 (motive:=λr=>motive (a0::r)) r (Nat.succ.inj hl) (h a0)
@[elab_as_elim] theorem ar3 {motive:List Value->Prop} (us:List Value) (hl:us.length=3) (h: ∀a0 a1 a2,motive [a0,a1,a2]):motive us:=by
 cases us with
 |nil=>exact absurd hl (by decide)
 |cons a0 r=>exact ar2 (motive:=λr=>motive (a0::r)) r (Nat.succ.inj hl) (h a0)
@[elab_as_elim] theorem ar4 {motive:List Value->Prop} (us:List Value) (hl:us.length=4) (h: ∀a0 a1 a2 a3,motive [a0,a1,a2,a3]):motive us:=by
 cases us with
 |nil=>exact absurd hl (by decide)
 |cons a0 r=>exact ar3 (motive:=λr=>motive (a0::r)) r (Nat.succ.inj hl) (h a0)
@[elab_as_elim] theorem ar5 {motive:List Value->Prop} (us:List Value) (hl:us.length=5) (h: ∀a0 a1 a2 a3 a4,motive [a0,a1,a2,a3,a4]):motive us:=by
 cases us with
 |nil=>exact absurd hl (by decide)
 |cons a0 r=>exact ar4 (motive:=λr=>motive (a0::r)) r (Nat.succ.inj hl) (h a0)
@[elab_as_elim] theorem ar6 {motive:List Value->Prop} (us:List Value) (hl:us.length=6) (h: ∀a0 a1 a2 a3 a4 a5,motive [a0,a1,a2,a3,a4,a5]):motive us:=by
 cases us with
 |nil=>exact absurd hl (by decide)
 |cons a0 r=>exact ar5 (motive:=λr=>motive (a0::r)) r (Nat.succ.inj hl) (h a0)
@[irreducible] def QP (X:Cx) (c:Ct) (e:Expr) (f:FE):Prop:=DP X c .s e f
@[irreducible] def QA (X:Cx) (c:Ct) (es:List Expr) (f:FA):Prop:=DA X c es f
section
variable {X:Cx}{c:Ct}{k:Kd}{e a b:Expr}{es:List Expr}{f g:FE}{fs:FA}{pos pos':Pos}{st:Stmt}{rest:List Stmt}{t u:FS}{x:Str}
theorem QP.of(h:DP X c .s e f):QP X c e f:=by unfold QP;exact h
theorem QP.dp(h:QP X c e f):DP X c .s e f:=by unfold QP at h;exact h
theorem QA.da(h:QA X c es fs):DA X c es fs:=by unfold QA at h;exact h
theorem sA:QA X c [] af:=by unfold QA;exact ar
theorem dn(h:QP X c e f)(hr:QA X c es fs)(hs:starEach (e::es) X.env=(false,eval e X.env)::starEach es X.env:=by rfl):QA X c (e::es) (aa f fs):=by unfold QA;exact ag h.dp hr.da hs
theorem sk {x1}(h:QA X c es fs):QP X c (.Tuple es x1 pos) (cf fs):=.of (eI h.da)
end
section
variable {κ:Type} [DecidableEq κ]
def gy(kvs:List (κ×V))(k:κ):Option V:=(kvs.find? λkv=>decide (kv.1=k)).map (·.2)
def kj(kvs:List (κ×V))(k:κ)(v:V):List (κ×V):=
 if(kvs.any λkv=>decide (kv.1=k))=true then kvs.map (λkv=>if kv.1=k then(kv.1,v) else kv) else kvs++[(k,v)]
theorem mj {p:κ×V}{r:List (κ×V)}{k:κ}(e:p.1=k):gy (p::r) k=some p.2:=by simp[gy,List.find?_cons,e]
theorem mW {p:κ×V}{r:List (κ×V)}{k:κ}(e: ¬p.1=k):gy (p::r) k=gy r k:=by simp[gy,List.find?_cons,e]
theorem qp(k:κ): ∀kvs:List (κ×V),(kvs.any λkv=>decide (kv.1=k))=(gy kvs k).isSome
 | []=>rfl
 |p::r=>by
  rw[List.any_cons]
  by_cases e:p.1=k
  ·simp only[mj e,decide_eq_true e,Bool.true_or,Option.isSome_some]
  ·rw[mW e,decide_eq_false e,Bool.false_or];exact qp k r
theorem kN(kvs:List (κ×V))(k:κ)(v:V):(kj kvs k v).length<=kvs.length+1:=by
 unfold kj;split
 ·rw[List.length_map];omega
 ·rw[List.length_append,List.length_cons,List.length_nil];omega
theorem RelO.isSome_eq {o:Option V}{u:Option Value}(r:RelO o u):o.isSome=u.isSome:=by
 cases o with
 |none=>cases u with
  |none=>rfl
  |some _=>exact(show False from r).elim
 |some _=>cases u with
  |none=>exact(show False from r).elim
  |some _=>rfl
theorem KV.any {kvs:List (κ×V)}{vs:List (κ×Value)}(r:KV kvs vs)(k:κ):(kvs.any λkv=>decide (kv.1=k))=vs.any λkv=>decide (kv.1=k):=by
 unfold KV at r
 induction r with
 |nil=>rfl
 |cons h t ih=>rw[List.any_cons,List.any_cons,ih,h.1]
theorem KV.repl {kvs:List (κ×V)}{vs:List (κ×Value)}(r:KV kvs vs)(k:κ){y:V}{u:Value}(ry:RelV y u):
 KV (kvs.map λkv=>if kv.1=k then(kv.1,y) else kv) (vs.map λkv=>if kv.1=k then(kv.1,u) else kv):=by
 unfold KV at r⊢
 induction r with
 |nil=>exact .nil
 | @cons p q ps qs h t ih=>
   rw[List.map_cons,List.map_cons];refine .cons ?_ ih
   obtain⟨h1,h2⟩:=h
   by_cases e:p.1=k
   ·rw[if_pos e,if_pos (h1.symm.trans e)];exact⟨h1,ry⟩
   ·rw[if_neg e,if_neg (λz=>e (h1.trans z))];exact⟨h1,h2⟩
theorem KV.put {kvs:List (κ×V)}{vs:List (κ×Value)}(r:KV kvs vs)(k:κ){y:V}{u:Value}(ry:RelV y u):KV (kj kvs k y) (stored vs k u):=by
 unfold kj stored;rw[r.any k]
 by_cases e:(vs.any λkv=>decide (kv.1=k))=true
 ·rw[if_pos e,if_pos e];exact r.repl k ry
 ·rw[if_neg e,if_neg e];exact Paired.snoc r ⟨rfl,ry⟩
theorem KV.length {kvs:List (κ×V)}{vs:List (κ×Value)}(r:KV kvs vs):kvs.length=vs.length:=Paired.length r
end
theorem zD {P:Program}{w:World}{k:bn}{u:Value}(r:RelV (kV k) u):(cx P w).is k u=true:=by
 cases k with
 |inl i=>obtain⟨t,e⟩:=(show∃t,u=Value.int i t from r);subst e;exact pF P w i t
 |inr x=>obtain⟨t,e⟩:=(show∃t,u=Value.str x t from r);subst e;exact qz P w x t
theorem j3 {P:Program}{w:World}: ∀ {ks:List bn} {us:List Value},Vals (ks.map kV) us->ItemsAre (cx P w) ks us
 | [],_,r=>by rw[List.map_nil] at r;cases r;exact .nil
 |k::ks,_,r=>by
  rw[List.map_cons] at r;cases r with
  |cons h t=>exact .cons (zD h) (j3 t)
abbrev KTd(H:Hp):List (List bn×V)->List (List bn×Addr×Value)->Prop:=Paired λp q=>p.1=q.1/\H q.2.1=some (.tup (p.1.map kV))/\RelV p.2 q.2.2
theorem KTd.val {H:Hp}{kvs:List (List bn×V)}{xs:List (List bn×Addr×Value)}(r:KTd H kvs xs)(k:List bn):RelO (gy kvs k) ((atKey xs k).map (·.2)):=by
 induction r with
 |nil=>exact True.intro
 | @cons p q ps qs h t ih=>
   obtain⟨h1,_,h2⟩:=h
   by_cases e:p.1=k
   ·have e':q.1=k:=h1.symm.trans e
    have b:atKey (q::qs) k=some q.2:=by simp[atKey,List.find?_cons,e']
    rw[mj e,b];exact h2
   ·have e': ¬q.1=k:=λz=>e (h1.trans z)
    have b:atKey (q::qs) k=atKey qs k:=by simp[atKey,List.find?_cons,e']
    rw[mW e,b];exact ih
theorem KTd.repl {H:Hp}{kvs:List (List bn×V)}{xs:List (List bn×Addr×Value)}(r:KTd H kvs xs)(k:List bn){y:V}{u:Value}(ry:RelV y u):
 KTd H (kvs.map λkv=>if kv.1=k then(kv.1,y) else kv) (xs.map (putAt k u)):=by
 induction r with
 |nil=>exact .nil
 | @cons p q ps qs h t ih=>
   rw[List.map_cons,List.map_cons];refine .cons ?_ ih
   obtain⟨h1,h2,h3⟩:=h
   unfold putAt
   by_cases e:p.1=k
   ·rw[if_pos e,if_pos (h1.symm.trans e)];exact⟨h1,h2,ry⟩
   ·rw[if_neg e,if_neg (λz=>e (h1.trans z))];exact⟨h1,h2,h3⟩
theorem KTd.put {H:Hp}{kvs:List (List bn×V)}{xs:List (List bn×Addr×Value)}(r:KTd H kvs xs)(k:List bn){b:Addr}{y:V}{u:Value}(hb:H b=some (.tup (k.map kV)))(ry:RelV y u):
 KTd H (kj kvs k y) (storedH xs k b u):=by
 have e:(kvs.any λkv=>decide (kv.1=k))=(atKey xs k).isSome:=by
  rw[qp,(r.val k).isSome_eq,Option.isSome_map]
 unfold kj storedH;rw[e]
 by_cases q:(atKey xs k).isSome=true
 ·rw[if_pos q,if_pos q];exact r.repl k ry
 ·rw[if_neg q,if_neg q];exact Paired.snoc r ⟨rfl,hb,ry⟩
theorem KTd.keeps {H H':Hp}{kvs:List (List bn×V)}{xs:List (List bn×Addr×Value)}(r:KTd H kvs xs)(ht: ∀b ys,H b=some (.tup ys)->H' b=some (.tup ys)):KTd H' kvs xs:=
 Paired.mapP r λ_ _ z=>⟨z.1,ht _ _ z.2.1,z.2.2⟩
section
variable {P:Program}{w:World}{H:Hp}{h:Heap}{a:Addr}
theorem zo {u:HO}(ok:HOk P w H h)(e:Rd H a u):ObjOk P w H h a u:=e.ok ok
theorem CO {kvs:List (bn×V)}(ok:HOk P w H h)(e:Rd H a (.dK kvs)):kvs.length<=sizeLine/\(a==sysModules)=false/\ ∃vs,KV kvs vs/\h.DictOf (cx P w) a vs:=
 show ObjOk P w H h a (.dK kvs) from zo ok e
theorem BZ {kvs:List (bn×V)}(ok:HOk P w H h)(e:H a=some (.dK kvs)):kvs.length<=sizeLine/\(a==sysModules)=false/\ ∃vs,KV kvs vs/\h.DictOf (cx P w) a vs:=CO ok (.inl e)
theorem v7 {ks:List bn}(ok:HOk P w H h)(e:H a=some (.tup (ks.map kV))):(tupleKind (cx P w)).is h ks a:=by
 obtain⟨_,its,r,⟨o,h1,h2,n,h3⟩,_⟩:=(show ObjOk P w H h a (.tup (ks.map kV)) from ok a _ e)
 exact⟨o,its.toArray,n,h1,h2,h3,by simpa using j3 r⟩
theorem tQ {kvs:List (List bn×V)}(ok:HOk P w H h)(e:Rd H a (.dT kvs)):kvs.length<=sizeLine/\(a==sysModules)=false/\
 ∃xs,KTd H kvs xs/\h.DictOfH (tupleKind (cx P w)) a xs:=by
 obtain⟨z,y,xs,r,o,es,ep,h1,h2,h3,h4,h5⟩:=(show ObjOk P w H h a (.dT kvs) from zo ok e)
 refine⟨z,y,xs,r,o,es,ep,h1,h2,h3,h4,λx hx=>?_,h5⟩
 have all: ∀ {l:List (List bn×V)} {m:List (List bn×Addr×Value)},KTd H l m-> ∀x∈m,(tupleKind (cx P w)).is h x.1 x.2.1:=by
  intro l m q
  induction q with
  |nil=>intro x hx;exact nomatch hx
  | @cons p q ps qs hq t ih=>
    intro x hx;rcases List.mem_cons.mp hx with e|hx
    ·subst e
     exact v7 ok (by rw[<-hq.1];exact hq.2.1)
    ·exact ih x hx
 exact all r x hx
theorem pU {kvs:List (List bn×V)}(ok:HOk P w H h)(e:H a=some (.dT kvs)):kvs.length<=sizeLine/\(a==sysModules)=false/\
 ∃xs,KTd H kvs xs/\h.DictOfH (tupleKind (cx P w)) a xs:=tQ ok (.inl e)
end
def DPut(H:Hp)(a:Addr)(y v:V)(H':Hp):Prop:=
 (∃kvs k,H a=some (.dK kvs)/\y=kV k/\kvs.length<sizeLine/\H'=bq H a (.dK (kj kvs k v)))\/
 ∃kvs k b,H a=some (.dT kvs)/\y=.ref b/\H b=some (.tup (k.map kV))/\kvs.length<sizeLine/\H'=bq H a (.dT (kj kvs k v))
theorem DPut.t {H:Hp}{a b:Addr}{kvs:List (List bn×V)}{k:List bn}{v:V}(e:H a=some (.dT kvs))(eb:H b=some (.tup (k.map kV)))(hl:kvs.length<sizeLine):
 DPut H a (.ref b) v (bq H a (.dT (kj kvs k v))):=.inr ⟨kvs,k,b,e,rfl,eb,hl,rfl⟩
section
variable {X:Cx}{ab:List (Addr×Obj)}{σ:St}{H:Hp}{s:Shared}{a:Addr}{y v:V}{u r:Value}{o:Option V}{A:Around}{E:Value->Shared->Prop}
theorem Inv.big(I:Inv X ab σ H s):sysModules<s.heap.objs.size:=by
 have h:mainGlobals<s.heap.objs.size:=(I.mod.glob.keeps I.bk).lt
 exact Nat.lt_trans (by decide) h
theorem tf {h':Heap}{t':Nat}{ob:HO}(I:Inv X ab σ H s)(mu:CG (H a))(hs:Heap.SameBut a s.heap h')(he: ∃q,h'.get? a=some q)(new:ObjOk X.prog X.w (bq H a ob) h' a ob):
 Inv X ab σ (bq H a ob) {s with heap:=h',toks:=t'}:=
 I.write (x:=a) (e:=a) mu (.inl rfl) (λb q hb z=>(hs.2 b hb).trans z) he new
theorem zU {P:Program}{w:World}{H':Hp}{h':Heap}{kvs:List (bn×V)}{vs:List (bn×Value)}(z:kvs.length<=sizeLine)(hd:(a==sysModules)=false)(rel:KV kvs vs)(dd:h'.DictOf (cx P w) a vs):
 ObjOk P w H' h' a (.dK kvs):=⟨z,hd,vs,rel,dd⟩
theorem uR {H':Hp}{Q:Unit->Shared->Prop}(hu:A.units+1<cLine)(I:Inv X ab σ H s)(g:DPut H a y v H')(ry:RelV y u)(rv:RelV v r)(h: ∀s',Inv X ab σ H' s'->Q () s'):
 wpAny (model X.prog X.w) A (setItem (.ref a) u r) Q E s:=by
 rcases g with⟨kvs,k,e,ey,l,eH⟩|⟨kvs,k,b,e,ey,eb,l,eH⟩
 ·subst ey eH
  obtain⟨z,hd,vs,rel,dd⟩:=BZ I.hok e
  have hz:vs.length<=sizeLine:=by rw[<-rel.length];exact z
  have hl:(kj kvs k v).length<=sizeLine:=by have:=kN kvs k v;omega
  refine wpAny_setItem_pairs (hsz:=hz) (zD ry) dd λh' dd' hs=>h _ ?_
  have he: ∃q,h'.get? a=some q:=let⟨q,_,_,hq,_⟩:=dd';⟨q,hq⟩
  exact tf I (by rw[e];exact True.intro) hs he (zU hl hd (rel.put k rv) dd')
 ·subst ey eH
  cases (show u=Value.ref b from ry)
  obtain⟨z,hd,xs,rel,dd⟩:=pU I.hok e
  have hz:xs.length<=sizeLine:=by rw[<-Paired.length rel];exact z
  have hl:(kj kvs k v).length<=sizeLine:=by have:=kN kvs k v;omega
  refine wpAny_setItem_heap (hsz:=hz) (tupleKind_room_in1 hu) (v7 I.hok eb) dd λh' dd' hs=>h _ ?_
  obtain⟨q,es,ep,hq,h2,h3,h4,_,h5⟩:=dd'
  refine tf I (by rw[e];exact True.intro) hs ⟨q,hq⟩ ⟨hl,hd,_,(rel.put k eb rv).keeps λc ys ec=>?_,q,es,ep,hq,h2,h3,h4,h5⟩
  rw[aB (BP ec e (λz=>nomatch z))]
  exact ec
end
def vm(i:Expr):Prop:= ∀ov iv,subscripted i false ov iv=operate [ov,iv] (getItem ov iv)
theorem tY {prog:Program}{w:World}{A:Around}{E:Value->Shared->Prop}{s:Shared}{env:Env}{value slice:Expr}{pos:Pos}{T id:String}{Q:Value->Shared->Prop}
 (hl:typeLookup (.type T) "__getitem__"=pure (some (.builtin id))) (hs:vm slice)
 (h:wpAny (model prog w) A (eval value env) (λo s₁=>wpAny (model prog w) A (eval slice env) (λi s₂=>s₂.TypeIs o T/\wpAny (model prog w) A (getItem o i) Q E s₂) E s₁) E s):
 wpAny (model prog w) A (eval (.Subscript value slice pos) env) Q E s:=by
 refine Subscript_ (wpAny_mono h (λo s₁ h₁=>wpAny_mono h₁ (λi s₂ h₂=>?_) λ_ _ x=>x) λ_ _ x=>x)
 obtain⟨hT,h₂⟩:=h₂
 unfold subscriptTail;refine wpAny_bind ?_
 rw[getitemInPython_of_ne hT.not_modules];refine wpAny_bind (wpAny_specialOf hT hl ?_)
 have fin:wpAny (model prog w) A (subscripted slice false o i) (λr s₃=>wpAny (model prog w) A (letTemporaryGo value o r>>=λ_=>pure r) Q E s₃) E s₂:=by
  rw[hs o i];exact wpAny_operating (wpAny_mono h₂ (λr s₃ h₃=>wpAny_bind (wpAny_letTemporaryGo (wpAny_pure h₃))) λ_ _ x=>x)
 first
  |exact wpAny_pure (wpAny_bind fin)
  |exact wpAny_bind (wpAny_pure (wpAny_bind fin))
  |exact wpAny_bind fin
def Ce(td ty tv:TE):TS:=λD σ H=>tv σ H λv H1=>td σ H1 λx H2=>ty σ H2 λy H3=> ∃a H4,x=.ref a/\DPut H3 a y v H4/\D.nx σ H4
section
variable {X:Cx}{o i e value:Expr}{pos pos' tpos:Pos}{td ty tv:TE}
theorem tG(hu:X.A.units+1<cLine)(ho:PE X o td)(hi:PE X i ty)(hv:PE X value tv)(hs:swapsWith value (some (.Subscript o i pos')) pos.line X.env=pure false):
 PS X (.Assign [.Subscript o i pos'] value pos) (Ce td ty tv):=by
 intro ab s σ H D I h;refine wpAny_Assign_Subscript (bM (hv ab s σ H _ I h) λr s1 ⟨v,H1,I1,rv,q1⟩=>bM (ho ab s1 σ H1 _ I1 q1) λu s2 ⟨x,H2,I2,rx,q2⟩=>bM (hi ab s2 σ H2 _ I2 q2) λiv s3 ⟨y,H3,I3,ry,a,H4,ex,g,q3⟩=>?_) hs
 subst ex;obtain rfl:u=Value.ref a:=rx
 exact uR hu I3 g ry rv λs4 I4=>⟨σ,H4,I4,q3⟩
end
theorem vp {P:Program}{w:World}{H:Hp}(h:Heap)(hb:sysModules<h.objs.size):ObjOk P w H (h.push {cls:=.type "dict",data:=.dict #[]}) h.objs.size (.dT []):=
 ⟨Nat.zero_le _,beq_eq_false_iff_ne.mpr (Ne.symm (Nat.ne_of_lt hb)),[],.nil,_, #[],0,Heap.get?_push_size _ rfl,⟨rfl,rfl,rfl⟩,rfl,rfl,List.nodup_nil⟩
def Ba:TE:=λ_ H Q=> ∀p,H p=none->Q (.ref p) (bq H p (.dT []))
section
variable {X:Cx}{pos:Pos}
theorem wY:PE X (.Dict [] [] pos) Ba:=λab s σ H Q I h=>
 wpAny_Dict_empty ⟨.ref s.heap.objs.size,_,I.laid (a:=s.heap.objs.size) (o:=.dT []) (t':=s.toks) (λ_ _ q=>Heap.get?_push_of_some _ q) (Nat.le_refl _) (vp s.heap I.big),rfl,h _ (I.hok.fresh (Nat.le_refl _))⟩
end
end L2
namespace PySem
open Sem (wp)
end PySem
namespace L2
open PySem PySem.Spec PyProof.Rows
end L2
namespace PySem
end PySem
namespace L2
open PySem PySem.Spec PyProof.Rows
section
variable {K:W.Frag}{c:Ct}{hid:bj}{ρ:aC}{σ:St}{H:Hp}{a:Addr}
theorem SR.setD {b:Ob}(h:SR K c hid ρ σ H)(ho:ObOk K c hid H a b)(no: ∀i:Nat,Ow ρ[i]? ->σ[i]? ≠some (some (.ref a)))(i:Nat):
 SR K c hid (ρ.set i (.ob b)) (σ.set i (some (.ref a))) H:=by
 refine⟨h.tr,h.ht,h.h0,h.kp,h.t0,h.c0,h.m0,by simp[h.len],λj s q=>?_,λj l z n o1 o2 q1 q2=>?_⟩
 ·by_cases e:j=i
  ·subst e
   have lt:j<ρ.length:=by
    have:=(List.getElem?_eq_some_iff.mp q).1
    simpa using this
   rw[List.getElem?_set_self lt] at q;cases q
   exact⟨a,List.getElem?_set_self (by rw[h.len];exact lt),ho⟩
  ·rw[List.getElem?_set_ne (Ne.symm e)] at q
   have w:=h.sl j s q
   have es:(σ.set i (some (V.ref a)))[j]? =σ[j]? :=List.getElem?_set_ne (Ne.symm e)
   cases s with
   |no=>trivial
   |v d=>obtain⟨x,h1,h2⟩:=w;exact⟨x,es.trans h1,h2⟩
   |own ds=>obtain⟨a,xs,h1,h2⟩:=w;exact⟨a,xs,es.trans h1,h2⟩
   |arg ds=>obtain⟨a,xs,h1,h2⟩:=w;exact⟨a,xs,es.trans h1,h2⟩
   |ob b=>obtain⟨a,h1,h2⟩:=w;exact⟨a,es.trans h1,h2⟩
 ·by_cases e1:j=i
  ·subst e1
   have e2:l≠j:=λe=>n e.symm
   rw[List.getElem?_set_ne (Ne.symm e2)] at o2 q2
   by_cases lt:j<σ.length
   ·rw[List.getElem?_set_self lt] at q1;cases q1;exact no l o2 q2
   ·rw[List.getElem?_eq_none (by simpa using lt)] at q1;cases q1
  ·rw[List.getElem?_set_ne (Ne.symm e1)] at o1 q1
   by_cases e2:l=i
   ·subst e2
    by_cases lt:l<σ.length
    ·rw[List.getElem?_set_self lt] at q2;cases q2;exact no j o1 q1
    ·rw[List.getElem?_eq_none (by simpa using lt)] at q2;cases q2
   ·rw[List.getElem?_set_ne (Ne.symm e2)] at o2 q2
    exact h.ap j l z n o1 o2 q1 q2
theorem ObOk.kind {b:Ob}(h:ObOk K c hid H a b)(o:n6 b): ∃u,H a=some u/\ ∀p v,u≠ .nst p v:=by
 cases b with
 |nst us=>obtain⟨_,_,e,_⟩:=h;exact⟨_,e,nofun⟩
 |dQ kvs=>exact o.elim
 |dR kvs=>exact o.elim
 |dRs l=>exact o.elim
 |exc x n=>exact o.elim
 |dK kvs=>obtain⟨_,_,e,_⟩:=h;exact⟨_,e,nofun⟩
 |dT kvs=>obtain⟨_,_,e,_⟩:=h;exact⟨_,e,nofun⟩
 |set ds=>obtain⟨_,_,e,_⟩:=h;exact⟨_,e,nofun⟩
 |old d=>exact o.elim
 |jnk=>obtain⟨_,_,e⟩:=h;exact⟨_,e,nofun⟩
 |tset ks=>obtain⟨_,_,e,_⟩:=h;exact⟨_,e,nofun⟩
 |dF kvs=>obtain⟨_,_,_,e,_⟩:=h;exact⟨_,e,nofun⟩
theorem SR.putO {x:Addr}{i:Nat}{b b':Ob}{o':HO}(h:SR K c hid ρ σ H)(hg:ρ[i]? =some (.ob b))(ow:n6 b)(ow':n6 b')(ha:σ[i]? =some (some (.ref a)))(hx:At H a x)(h2:hid x=true)(h3:c.H₀ x=none)
 (nt: ∀xs,o'≠ .tup xs) (new:ObOk K c hid (bq H x o') a b'):SR K c hid (ρ.set i (.ob b')) σ (bq H x o'):=by
 have lt:i<ρ.length:=(List.getElem?_eq_some_iff.mp hg).1
 have vv:vw (bq H x o') hid=vw H hid:=dG h2
 have tr': ∀b o,H b=some o-> ∃o2,(bq H x o') b=some o2:=λb o q=>by
  by_cases e:b=x
  ·subst e;exact⟨_,aI⟩
  ·exact⟨o,by rw[aB e];exact q⟩
 have owi:Ow ρ[i]? :=by rw[hg];exact ow
 obtain⟨a2,ha2,kb⟩:=h.sl i _ hg
 rw[ha] at ha2;cases ha2;obtain⟨w,kw,kn⟩:=kb.kind ow
 have ne: ∀(j:Nat) (s:Sl) (a' y:Addr) (w':HO),j≠i->ρ[j]? =some s->Ow (some s)->σ[j]? =some (some (.ref a'))->H a'=some w'->(∀p v,w'≠ .nst p v)->At H a' y->y≠x:=λj s a' y w' n e o q hw wn hy=>by
  have na:a'≠a:=λz=>by subst z;exact h.ap j i a' n (by rw[e];exact o) owi q ha
  rcases hx with rfl|⟨u,hu⟩
  ·exact hy.ne na kw kn
  ·intro z
   subst z;rcases hy with rfl|⟨u',hu'⟩
   ·rw[hw] at hu;exact wn _ _ (Option.some.inj hu)
   ·rw[hu] at hu';cases hu';exact na rfl
 have ows: ∀j:Nat,Ow (ρ.set i (.ob b'))[j]? ->Ow ρ[j]? :=λj o=>by
  by_cases e:j=i
  ·subst e;exact owi
  ·rw[List.getElem?_set_ne (Ne.symm e)] at o;exact o
 refine⟨λb hb=>let⟨o,q⟩:=h.tr b hb;tr' b o q,λb xs hb q=>by
  by_cases e:b=x
  ·subst e;rw[aI] at q;exact nt xs (Option.some.inj q)
  ·rw[aB e] at q;exact h.ht b xs hb q,h.h0,λb o q m=>?_,λb o q=>let⟨o2,q2⟩:=h.t0 b o q;tr' b o2 q2,h.c0,h.m0,by simp[h.len],λj s e=>?_,λj l z n o1 o2=>h.ap j l z n (ows j o1) (ows l o2)⟩
 ·rw[aB (aO q h3)];exact h.kp b o q m
 ·by_cases ej:j=i
  ·subst ej
   rw[List.getElem?_set_self lt] at e;cases e
   exact⟨a,ha,new⟩
  ·rw[List.getElem?_set_ne (Ne.symm ej)] at e
   have z:=h.sl j s e
   cases s with
   |no=>trivial
   |v d=>obtain⟨x,h1,h2⟩:=z;exact⟨x,h1,by rw[vv];exact h2⟩
   |own ds=>obtain⟨a',xs,h1,h2,h3,h4,h5⟩:=z;exact⟨a',xs,h1,by rw[aB (ne j _ a' a' _ ej e trivial h1 h2 nofun (.inl rfl))];exact h2,h3,h4,by rw[vv];exact h5⟩
   |arg ds=>obtain⟨a',xs,h1,h2,h3,h4,h5⟩:=z;exact⟨a',xs,h1,by rw[aB (ne j _ a' a' _ ej e trivial h1 h2 nofun (.inl rfl))];exact h2,h3,h4,by rw[vv];exact h5⟩
   |ob b=>
    obtain⟨a',h1,h2⟩:=z
    exact⟨a',h1,h2.mono (λow y hy o q=>by
     obtain⟨w',hw,wn⟩:=h2.kind ow
     rw[aB (ne j _ a' y w' ej e ow h1 hw wn hy)];exact q) (by rw[vv];exact Same.refl _) λ_ _ _ q=>q⟩
end
open PySem PySem.W PySem.Spec PyProof.Rows
section
variable {prog:Program}{w:World}{A:Around}{E:Value->Shared->Prop}{s:Shared}
theorem sE {T:String}{r d:Addr}{n:Nat}{P:Nat->Value->Prop}{OK:Heap->Prop}{R:List Value->Shared->Prop}(src:KdlSrc prog w T r d n P OK)(calm:A.handled=none)(good:OK s.heap)(few:n<=sizeLine)
 (q: ∀(g:Heap) (tk:Nat) (us:Array Value),(∀b o,s.heap.get? b=some o->g.get? b=some o)->s.heap.objs.size<g.objs.size->ItemsOf P us n->R us.toList {s with heap:=g,toks:=tk}):wpAny (model prog w) A (collect (.ref r)) R E s:=by
 obtain⟨rl,dl⟩:=src.there _ good
 unfold collect;refine wpAny_bind (wpAny_runValue (codeAny_builtin F.entry_proto_collect ?_))
 rw[Around.under_plainId F.plain_proto_collect _];show wpAny _ A.in1 (newList []>>=λz=>again (.builtin "list.__iadd__" ⟨[z,.ref r],[]⟩)) _ _ s
 refine wpAny_bind (wpAny_newObj_type (wpAny_pure ⟨plainId_quiet F.plain_list_iadd _,codeAny_builtin F.entry_list_iadd ?_⟩))
 rw[Around.under_plainId F.plain_list_iadd _];show wpAny _ A.in1 (Builtin.List.listExtendWith (.ref s.heap.objs.size) (.ref r) (.ref s.heap.objs.size)) _ _ _;have last: ∀(g:Heap) (tk:Nat) (us:Array Value) (m:Nat),(∀b o,s.heap.get? b=some o->g.get? b=some o)->g.get? s.heap.objs.size=some {cls:=.type "list",dict:=none,data:=.seq us m,slots:= #[]}->ItemsOf P us n->
  wpAny (model prog w) A (do
   match (<-load s.heap.objs.size).data with
    |Data.seq xs _=>pure xs.toList
    |_=>unsupported "internal:collect") R E {s with heap:=g,toks:=tk}:=λg tk us m kg hg hi=>wpAny_bind (wpAny_load hg (wpAny_pure (q g tk us kg (Heap.lt_size hg) hi)))
 have ext:=kdl_extend (A:=A) (s:={s with heap:=s.heap.push {cls:=.type "list",data:=.seq ([]:List Value).toArray}})
  (R:=λz t=> ∃(g:Heap) (tk:Nat) (us:Array Value) (m:Nat),z=.ok (.ret (.ref s.heap.objs.size))/\t={s with heap:=g,toks:=tk}/\(∀b o,s.heap.get? b=some o->g.get? b=some o)/\g.get? s.heap.objs.size=some {cls:=.type "list",dict:=none,data:=.seq us m,slots:= #[]}/\ItemsOf P us n)
  src calm (src.keep _ _ good λb _ o e=>Heap.get?_push_of_some _ e) s.heap.objs.size (Nat.ne_of_gt rl) (Nat.ne_of_gt dl) (.ref s.heap.objs.size) 0 (Heap.get?_push_size _ rfl)
  (λg tk us m kg hg hi=>⟨g,tk,us,m,rfl,rfl,λb o e=>kg b o (Nat.ne_of_lt (Heap.lt_size e)) (Heap.get?_push_of_some _ e),hg,hi⟩) few
 refine wpAny_mono ext (λz t h=>?_) λz t h=>by obtain⟨_,_,_,_,e,_⟩:=h;cases e
 cases z with
 |done f=>obtain⟨g,tk,us,m,e,rfl,kg,hg,hi⟩:=h;cases e;exact last g tk us m kg hg hi
 |again c=>exact⟨h.1,codeAny_mono h.2 λz t' hr=>by obtain⟨g,tk,us,m,rfl,rfl,kg,hg,hi⟩:=hr;exact last g tk us m kg hg hi⟩
end
section
variable {X:Cx}{c:Ct}{pos p py:Pos}{x y:Str}
theorem nv {K:W.Frag}{F:Hp}: ∀ms:List Int,Reps K F (ms.map V.int) (ms.map D.int)
 | []=>.nil
 |m::ms=>.cons .int (nv ms)
end
mutual
def LF:D->Bool
 | .lst _=>false
 | .tup ds=>qV ds
 | .scr ds=>qV ds
 |_=>true
def qV:List D->Bool
 | []=>true
 |d::ds=>LF d&&qV ds
end
theorem vU {K:W.Frag}{H:Hp}{g g':bj}(h: ∀t,g' t=false->g t=true->iN (H t)=true){a:Addr}{xs:List V}(s:SqT K (vw H g') a xs):SqT K (vw H g) a xs:=by
 rcases s with(s|⟨o,s⟩)|s
 ·obtain⟨h1,h2⟩:=vw_some.mp s
  refine .inl (.inl (vw_some.mpr ⟨?_,h2⟩))
  cases e:g a with
  |false=>rfl
  |true=>have:=h a h1 e;rw[h2] at this;cases this
 ·obtain⟨h1,h2⟩:=vw_some.mp s
  refine .inl (.inr ⟨o,vw_some.mpr ⟨?_,h2⟩⟩)
  cases e:g a with
  |false=>rfl
  |true=>have:=h a h1 e;rw[h2] at this;cases this
 ·exact .inr s
theorem wJ {K:W.Frag}{H:Hp}{g g':bj}(h: ∀t,g' t=false->g t=true->iN (H t)=true){a:Addr}{xs:List V}(s:SqR K (vw H g') a xs):SqR K (vw H g) a xs:=by
 rcases s with⟨o,s⟩|s
 ·obtain⟨h1,h2⟩:=vw_some.mp s
  refine .inl ⟨o,vw_some.mpr ⟨?_,h2⟩⟩
  cases e:g a with
  |false=>rfl
  |true=>have:=h a h1 e;rw[h2] at this;cases this
 ·exact .inr s
mutual
theorem vq {K:W.Frag}{H:Hp}{g g':bj}(h: ∀t,g' t=false->g t=true->iN (H t)=true): ∀ {v:V} {d:D},Rep K (vw H g') v d->LF d=true->Rep K (vw H g) v d
 |_,_,.non,_=>.non
 |_,_,.bl,_=>.bl
 |_,_,.int,_=>.int
 |_,_,.str,_=>.str
 |_,_,.tup s r,l=>.tup (vU h s) (iz h r (by unfold LF at l;exact l))
 |_,_,.scr s r,l=>.scr (wJ h s) (iz h r (by unfold LF at l;exact l))
 |_,_,.lst s r,l=>by unfold LF at l;cases l
theorem iz {K:W.Frag}{H:Hp}{g g':bj}(h: ∀t,g' t=false->g t=true->iN (H t)=true): ∀ {v:List V} {d:List D},Reps K (vw H g') v d->qV d=true->Reps K (vw H g) v d
 |_,_,.nil,_=>.nil
 |_,_,.cons r rs,l=>by
  unfold qV at l;rw[Bool.and_eq_true] at l;exact .cons (vq h r l.1) (iz h rs l.2)
end
section
variable {X:Cx}{c:Ct}{e:Expr}{es:List Expr}{pos p:Pos}{x:Str}{ps:List Str}{j n:Nat}
theorem yH {P:List D->Option D}{ds:List D}{d:D}(h:nF n P ds=some d):ds.length=n/\P ds=some d:=by
 have h:(if ds.length=n then P ds else none)=some d:=h
 split at h
 ·exact⟨‹_›,h⟩
 ·cases h
end
theorem AR {K:W.Frag}{F G:Hp}(h: ∀t o,F t=some o->iN (some o)=false->G t=some o){a:Addr}{xs:List V}(s:SqT K F a xs):SqT K G a xs:=by
 rcases s with(s|⟨o,s⟩)|s
 ·exact .inl (.inl (h _ _ s rfl))
 ·exact .inl (.inr ⟨o,h _ _ s rfl⟩)
 ·exact .inr s
theorem zW {K:W.Frag}{F G:Hp}(h: ∀t o,F t=some o->iN (some o)=false->G t=some o){a:Addr}{xs:List V}(s:SqR K F a xs):SqR K G a xs:=by
 rcases s with⟨o,s⟩|s
 ·exact .inl ⟨o,h _ _ s rfl⟩
 ·exact .inr s
mutual
theorem vX {K:W.Frag}{F G:Hp}(h: ∀t o,F t=some o->iN (some o)=false->G t=some o): ∀ {v:V} {d:D},Rep K F v d->LF d=true->Rep K G v d
 |_,_,.non,_=>.non
 |_,_,.bl,_=>.bl
 |_,_,.int,_=>.int
 |_,_,.str,_=>.str
 |_,_,.tup s r,l=>.tup (AR h s) (ju h r (by unfold LF at l;exact l))
 |_,_,.scr s r,l=>.scr (zW h s) (ju h r (by unfold LF at l;exact l))
 |_,_,.lst s r,l=>by unfold LF at l;cases l
theorem ju {K:W.Frag}{F G:Hp}(h: ∀t o,F t=some o->iN (some o)=false->G t=some o): ∀ {v:List V} {d:List D},Reps K F v d->qV d=true->Reps K G v d
 |_,_,.nil,_=>.nil
 |_,_,.cons r rs,l=>by
  unfold qV at l;rw[Bool.and_eq_true] at l;exact .cons (vX h r l.1) (ju h rs l.2)
end
def Cq:Sl->Bool
 | .no=>true
 | .v d=>LF d
 | .own ds=>qV ds
 | .arg ds=>qV ds
 | .ob (.exc _ _)=>true
 | .ob .jnk=>true
 | .ob _=>false
def Dx(ρ:aC):Bool:=ρ.all Cq
theorem zK {ρ:aC}(h:Dx ρ=true){i:Nat}{s:Sl}(e:ρ[i]? =some s):Cq s=true:=List.all_eq_true.mp h s (List.mem_of_getElem? e)
section
variable {K:W.Frag}{c:Ct}{hid:bj}{ρ:aC}{σ:St}{H H':Hp}
theorem SR.muts(h:SR K c hid ρ σ H)(ok:Dx ρ=true)(m: ∀t,H' t=H t\/(c.H₀ t=none/\hid t=false/\iN (H t)=true/\iN (H' t)=true)):SR K c hid ρ σ H':=by
 have tr': ∀b o,H b=some o-> ∃o2,H' b=some o2:=λb o q=>by
  rcases m b with e|⟨_,_,_,e⟩
  ·exact⟨o,by rw[e];exact q⟩
  ·cases z:H' b with
   |none=>rw[z] at e;cases e
   |some o2=>exact⟨o2,rfl⟩
 have hd: ∀b o,hid b=true->H b=some o->H' b=some o:=λb o hb q=>by
  rcases m b with e|⟨_,z,_⟩
  ·rw[e];exact q
  ·rw[hb] at z;cases z
 have nl: ∀t o,vw H hid t=some o->iN (some o)=false->vw H' hid t=some o:=λt o q l=>by
  obtain⟨q1,q2⟩:=vw_some.mp q
  refine vw_some.mpr ⟨q1,?_⟩
  rcases m t with e|⟨_,_,z,_⟩
  ·rw[e];exact q2
  ·rw[q2,l] at z;cases z
 refine⟨λb hb=>let⟨o,q⟩:=h.tr b hb;tr' b o q,λb xs hb q=>by
  obtain⟨o,w⟩:=h.tr b hb
  have z:=hd b o hb w
  rw[q] at z;cases z;exact h.ht b xs hb w,h.h0,λb o q u=>?_,λb o q=>let⟨o2,q2⟩:=h.t0 b o q;tr' b o2 q2,h.c0,h.m0,h.len,λi s e=>?_,h.ap⟩
 ·rcases m b with e|⟨z,_⟩
  ·rw[e];exact h.kp b o q u
  ·rw[z] at q;cases q
 ·have w:=h.sl i s e
  have k:=zK ok e
  cases s with
  |no=>trivial
  |v d=>obtain⟨x,h1,h2⟩:=w;exact⟨x,h1,vX nl h2 k⟩
  |own ds=>obtain⟨a,xs,h1,h2,h3,h4,h5⟩:=w;exact⟨a,xs,h1,hd _ _ h3 h2,h3,h4,ju nl h5 k⟩
  |arg ds=>obtain⟨a,xs,h1,h2,h3,h4,h5⟩:=w;exact⟨a,xs,h1,hd _ _ h3 h2,h3,h4,ju nl h5 k⟩
  |ob b=>
   obtain⟨a,h1,h2⟩:=w
   refine⟨a,h1,?_⟩
   cases b with
   |exc x n=>obtain⟨φ,g1,g2⟩:=h2;exact⟨φ,nl _ _ g1 rfl,g2⟩
   |jnk=>obtain⟨g1,us,g2⟩:=h2;exact⟨g1,us,hd _ _ g1.1 g2⟩
   |dK _=>cases k
   |dT _=>cases k
   |set _=>cases k
   |old _=>cases k
   |tset _=>cases k
   |dF _=>cases k
   |nst _=>cases k
   |dR _=>cases k
   |dRs _=>cases k
   |dQ _=>cases k
theorem SR.setNo(h:SR K c hid ρ σ H)(i:Nat)(u:Option V):SR K c hid (ρ.set i .no) (σ.set i u) H:=by
 refine⟨h.tr,h.ht,h.h0,h.kp,h.t0,h.c0,h.m0,by simp[h.len],λj s q=>?_,λj l z n o1 o2 q1 q2=>?_⟩
 ·by_cases e:j=i
  ·subst e
   have lt:j<ρ.length:=by
    have:=(List.getElem?_eq_some_iff.mp q).1
    simpa using this
   rw[List.getElem?_set_self lt] at q;cases q
   trivial
  ·rw[List.getElem?_set_ne (Ne.symm e)] at q
   have w:=h.sl j s q
   have es:(σ.set i u)[j]? =σ[j]? :=List.getElem?_set_ne (Ne.symm e)
   cases s with
   |no=>trivial
   |v d=>obtain⟨x,h1,h2⟩:=w;exact⟨x,es.trans h1,h2⟩
   |own ds=>obtain⟨a,xs,h1,h2⟩:=w;exact⟨a,xs,es.trans h1,h2⟩
   |arg ds=>obtain⟨a,xs,h1,h2⟩:=w;exact⟨a,xs,es.trans h1,h2⟩
   |ob b=>obtain⟨a,h1,h2⟩:=w;exact⟨a,es.trans h1,h2⟩
 ·have nj: ∀m,Ow (ρ.set i .no)[m]? ->m≠i:=λm o e=>by
   subst e
   by_cases lt:m<ρ.length
   ·rw[List.getElem?_set_self lt] at o;exact o
   ·rw[List.getElem?_eq_none (by simpa using lt)] at o;exact o
  have e1:=nj j o1
  have e2:=nj l o2
  rw[List.getElem?_set_ne (Ne.symm e1)] at o1 q1;rw[List.getElem?_set_ne (Ne.symm e2)] at o2 q2;exact h.ap j l z n o1 o2 q1 q2
theorem Bi {α:Type}{l:List α}{i:Nat}{x:α}(h:l[i]? =some x):l.set i x=l:=by
 obtain⟨h1,h2⟩:=List.getElem?_eq_some_iff.mp h
 subst h2;exact List.set_getElem_self h1
theorem SR.drop(h:SR K c hid ρ σ H)(i:Nat):SR K c hid (ρ.set i .no) σ H:=by
 by_cases lt:i<σ.length
 ·have:=h.setNo i σ[i]
  rwa [Bi (List.getElem?_eq_getElem lt)] at this
 ·have e:ρ.set i .no=ρ:=List.set_eq_of_length_le (by rw[<-h.len];omega)
  rw[e];exact h
end
section
variable {X:Cx}{body:List Stmt}{pos p1 p2 apos cpos lp:Pos}{x y:Str}{i r:Nat}
def Cm(i:Nat):TS:=λD σ H=> ∃a xs,σ[i]? =some (some (.ref a))/\H a=some (.lst xs)/\xs.length<=1000/\ ∀l,H l=none->D.nx σ (bq (bq H l (.lst [])) a (.lst (xs++[.ref l])))
theorem yf(i:Nat){q1 q4:Pos}(slot:Slot "list" "append" "list.append")(hty:typeOf (.builtin "list.append")=pure (.type "method_descriptor"))(hr:X.N[i]? =some x:=by rfl)(hv:kR X.env.scope x:=by first|exact Or.inl rfl|exact Or.inr (Or.inl rfl)|exact Or.inr (Or.inr rfl))(hd:(x==("__debug__":Str))=false:=by decide)(hcd:(x==("__classdict__":Str))=false:=by decide)
 (hs:swapsWith (.Call (.Attribute (.Name x q1) "append" apos) [.List [] q4] [] cpos) none pos.line X.env=pure false:=by rfl)
 (hbase:attributeBase (.Name x q1) "append" X.env (eval (.Name x q1) X.env)=eval (.Name x q1) X.env:=by rfl)
 (hfew:((backTo cpos (starEach [.List [] q4] X.env)).all (λx=> !x.1)&&(backToKw cpos (keywordEach [] X.env)).all (λx=>x.1.isSome)
   &&decide (([.List [] q4]:List Expr).length+([]:List Keyword).length+(if([]:List Keyword).isEmpty then 0 else 1)<30))=true:=by rfl)
 (hline:(apos.endLine==cpos.line)=true:=by rfl) (hst:starEach [.List [] q4] X.env=(false,eval (.List [] q4) X.env)::starEach [] X.env:=by rfl) (hplain:(backTo cpos (starEach [] X.env)).any (·.1)=false:=by rfl):
 PS X (.Expr (.Call (.Attribute (.Name x q1) "append" apos) [.List [] q4] [] cpos) pos) (Cm i):=
 PS.imp (ou (qw PySem.F.plainAttrs_list slot hty cc (pv i hr hv hd hcd) (bw (wZ ee) ee hst) hbase hfew hline hst hplain) hs) λD σ H hq_=>by
  obtain⟨a,xs,h1,h2,h3,q⟩:=hq_
  refine⟨.ref a,h1,.inl ⟨rfl,_,SqL.of h2⟩,Nat.zero_le _,λl hl=>⟨a,xs,_,rfl,rfl,?_,?_,q l hl⟩⟩
  ·rw[aB (aO h2 hl)];exact h2
  ·have:2000<sizeLine:=by decide
   omega
end
section
variable {K:W.Frag}{c:Ct}{hid hid':bj}{ρ ρ':aC}{σ σ':St}{H H':Hp}{k:Kd}{a:Addr}
theorem SR.putX {o o':HO}(h:SR K c hid ρ σ H)(ha:H a=some o)(hh:hid a=true)(h0:c.H₀ a=none)(no: ∀j:Nat,Ow ρ[j]? ->σ[j]? ≠some (some (.ref a)))(hm: ∀p u,o≠ .nst p u:=by intro _ _ e;cases e)(hn: ∀xs,o'≠ .tup xs:=by intro _ e;cases e):SR K c hid ρ σ (bq H a o'):=by
 have vv:vw (bq H a o') hid=vw H hid:=dG hh
 have tr': ∀b o,H b=some o-> ∃o2,(bq H a o') b=some o2:=λb o q=>by
  by_cases e:b=a
  ·subst e;exact⟨_,aI⟩
  ·exact⟨o,by rw[aB e];exact q⟩
 have ne: ∀(j:Nat) (s:Sl) (a':Addr),ρ[j]? =some s->Ow (some s)->σ[j]? =some (some (.ref a'))->a'≠a:=λj s a' e ow q w=>by
  subst w;exact no j (by rw[e];exact ow) q
 refine⟨λb hb=>let⟨o,q⟩:=h.tr b hb;tr' b o q,λb xs hb q=>by
  by_cases e:b=a
  ·subst e;rw[aI] at q;exact hn _ (Option.some.inj q)
  ·rw[aB e] at q;exact h.ht b xs hb q,h.h0,λb o q m=>?_,λb o q=>let⟨o2,q2⟩:=h.t0 b o q;tr' b o2 q2,h.c0,h.m0,h.len,λj s e=>?_,h.ap⟩
 ·rw[aB (aO q h0)];exact h.kp b o q m
 ·have z:=h.sl j s e
  cases s with
  |no=>trivial
  |v d=>obtain⟨x,h1,h2⟩:=z;exact⟨x,h1,by rw[vv];exact h2⟩
  |own ds=>obtain⟨a',xs,h1,h2,h3,h4,h5⟩:=z;exact⟨a',xs,h1,by rw[aB (ne j _ a' e trivial h1)];exact h2,h3,h4,by rw[vv];exact h5⟩
  |arg ds=>obtain⟨a',xs,h1,h2,h3,h4,h5⟩:=z;exact⟨a',xs,h1,by rw[aB (ne j _ a' e trivial h1)];exact h2,h3,h4,by rw[vv];exact h5⟩
  |ob b=>obtain⟨a',h1,h2⟩:=z;exact⟨a',h1,h2.mono (λow x hx o q=>by rw[aB (hx.ne (ne j _ a' e ow h1) ha hm)];exact q) (by rw[vv];exact Same.refl _) λ_ _ _ q=>q⟩
def qP:Sl->Sl
 | .own _=>.no
 | .ob _=>.no
 |s=>s
def Em:Sl->Bool
 | .ob _=>false
 |_=>true
theorem tT {i:Nat}(h:Ow (ρ.map qP)[i]?):Ow ρ[i]? :=by
 rw[List.getElem?_map] at h;cases e:ρ[i]? with
 |none=>rw[e] at h;exact h
 |some s=>rw[e] at h;cases s<;>first|exact h|trivial
theorem SR.reb(h:SR K c hid ρ σ H):SR K ⟨H,hid,c.mu⟩ hid (ρ.map qP) σ H:=by
 refine⟨h.tr,h.ht,λ_ q=>q,λ_ _ q _=>q,λb o q=>⟨o,q⟩,h.tr,λb q=>h.h0 b (h.m0 b q),by simp[h.len],λi s e=>?_,λi j a n o1 o2=>h.ap i j a n (tT o1) (tT o2)⟩
 rw[List.getElem?_map] at e;cases e1:ρ[i]? with
 |none=>rw[e1] at e;cases e
 |some s1=>
  rw[e1] at e;have w:=h.sl i s1 e1
  cases s1 with
  |no=>cases e;trivial
  |v d=>cases e;exact w
  |own ds=>cases e;trivial
  |arg ds=>cases e;obtain⟨a,xs,h1,h2,h3,h4,h5⟩:=w;exact⟨a,xs,h1,h2,h3,h4,h5⟩
  |ob b=>cases e;trivial
def xB(H:Hp)(hid hid':bj):bj:=λb=>hid' b&&(hid b||(H b).isNone)
theorem SR.back(h:SR K c hid ρ σ H)(s:SR K ⟨H,hid,c.mu⟩ hid' ρ' σ' H')(ok:ρ'.all Em=true):SR K c (xB H hid hid') ρ' σ' H'/\Same (vw H hid) (vw H' (xB H hid hid')):=by
 have less:Same (vw H' hid') (vw H' (xB H hid hid')):=cu λb q=>by unfold xB at q;rw[Bool.and_eq_true] at q;exact q.1
 refine⟨⟨λb q=>s.tr b (by unfold xB at q;rw[Bool.and_eq_true] at q;exact q.1),λb xs q=>s.ht b xs (by unfold xB at q;rw[Bool.and_eq_true] at q;exact q.1),λb q=>?_,λb o q m=>s.kp b o (h.kp b o q m) m,λb o q=>let⟨o2,q2⟩:=h.t0 b o q;s.t0 b o2 q2,h.c0,h.m0,s.len,λi sl e=>?_,s.ap⟩,λb o q=>?_⟩
 ·have q1:=h.h0 b q
  unfold xB;rw[s.h0 b q1,q1];rfl
 ·have w:=s.sl i sl e
  have k:=List.all_eq_true.mp ok sl (List.mem_of_getElem? e)
  cases sl with
  |no=>trivial
  |v d=>obtain⟨x,h1,h2⟩:=w;exact⟨x,h1,h2.mono less⟩
  |own ds=>
   obtain⟨a,xs,h1,h2,h3,h4,h5⟩:=w
   have h4:H a=none:=h4
   exact⟨a,xs,h1,h2,by unfold xB;rw[h3,h4];simp,h.fresh0 h4,h5.mono less⟩
  |arg ds=>
   obtain⟨a,xs,h1,h2,h3,h4,h5⟩:=w
   have h4:c.mu a=true:=h4
   exact⟨a,xs,h1,h2,by unfold xB;rw[h3,h.h0 a (h.m0 a h4)];rfl,h4,h5.mono less⟩
  |ob b=>cases k
 ·obtain⟨q1,q2⟩:=vw_some.mp q
  have m:c.mu b=false:=by
   cases e:c.mu b with
   |false=>rfl
   |true=>rw[h.h0 b (h.m0 b e)] at q1;cases q1
  exact vw_some.mpr ⟨by unfold xB;rw[q1,q2];simp,s.kp b o q2 m⟩
theorem Ret.back {v:V}{d:D}(h:SR K c hid ρ σ H)(R:Ret K ⟨H,hid,c.mu⟩ k ρ' H' v d):Ret K c k ρ' H' v d where
 kp:=λb o q m=>R.kp b o (h.kp b o q m) m
 val:=by
  have hv:=R.val
  have h0:=h.h0
  cases k with
  |n=>
   obtain⟨a,xs,ds,e1,e2,e3,e4,e5⟩:=hv
   refine⟨a,xs,ds,e1,e2,h.fresh0 e3,e4,e5.mono (cu λb q=>?_)⟩
   unfold be at q⊢;rw[Bool.or_eq_true] at q⊢;exact q.imp (h0 b) id
  |b=>exact Rep.mono (cu λb q=>h0 b q) hv
  |s=>exact Rep.mono (cu λb q=>h0 b q) hv
 arg:=λi bs e=>by
  obtain⟨a,xs,h1,h2,h3⟩:=R.arg i bs e
  refine⟨a,xs,h1,h2,h3.mono (cu λb q=>?_)⟩
  have h0:=h.h0
  unfold BY at q⊢;split at q
  ·unfold be at q⊢
   rw[Bool.or_eq_true] at q⊢;exact q.imp (h0 b) id
  ·exact h0 b q
end
def DY(K:W.Frag)(c:Ct)(k:Kd)(D:Ends):Out->Prop
 | .nx ρ'=> ∀σ' H' hid',SR K c hid' ρ' σ' H'->D.nx σ' H'
 | .rt d ρ'=> ∀v H',Ret K c k ρ' H' v d->D.rt v H'
 | .bk ρ'=> ∀σ' H' hid',SR K c hid' ρ' σ' H'->D.bk σ' H'
 | .ct ρ'=> ∀σ' H' hid',SR K c hid' ρ' σ' H'->D.ct σ' H'
 | .no=>False
def Bw(X:Cx)(c:Ct)(k:Kd)(sts:List Stmt)(t:FS):Prop:= ∀ρ,PSs X sts (λD σ H=> ∃hid,SR X.K c hid ρ σ H/\DY X.K c k D (t ρ))
def ym(t:FS):FS:=λρ=>match t (ρ.map qP) with
 | .nx ρ'=>if ρ'.all Em=true then .nx ρ' else .no
 | .rt d ρ'=>.rt d ρ'
 |_=>.no
section
variable {X:Cx}{c:Ct}{k:Kd}{st s1 s2:Stmt}{sts rest:List Stmt}{t u:FS}
theorem Aw(h:qU X c k sts t):Bw X c k sts t:=λρ=>PSs.imp (h ρ) λD σ H hq_=>by
 obtain⟨hid,sr,q⟩:=hq_
 refine⟨hid,sr,?_⟩
 cases e:t ρ with
 |nx ρ1=>rw[e] at q;exact λa b c d _=>q a b c d
 |rt d ρ1=>rw[e] at q;exact q
 |bk ρ1=>rw[e] at q;exact λa b c d _=>q a b c d
 |ct ρ1=>rw[e] at q;exact λa b c d _=>q a b c d
 |no=>rw[e] at q;exact q
theorem lW(h1:DS X c k st t)(h2:Bw X c k rest u):Bw X c k (st::rest) (ay t u):=λρ=>
 PSs.imp (ic (h1 ρ) (lV λρ1=>h2 ρ1)) λD σ H hq_=>by
  obtain⟨hid,sr,q⟩:=hq_
  refine⟨hid,sr,?_⟩
  unfold ay at q;cases e:t ρ with
  |nx ρ1=>rw[e] at q;exact λσ1 H1 hid1 sr1 v1=>⟨ρ1,hid1,sr1,q⟩
  |rt d ρ1=>rw[e] at q;exact q
  |bk ρ1=>rw[e] at q;exact λa b c d _=>q a b c d
  |ct ρ1=>rw[e] at q;exact λa b c d _=>q a b c d
  |no=>rw[e] at q;exact q
theorem x6(h: ∀c',Bw X c' k sts t):qU X c k sts (ym t):=λρ=>PSs.imp (lV λ(z:Ct)=>h z (ρ.map qP)) λD σ H hq_=>by
 obtain⟨hid,sr,q⟩:=hq_
 refine⟨⟨H,hid,c.mu⟩,hid,sr.reb,?_⟩
 unfold ym at q;cases e:t (ρ.map qP) with
 |nx ρ1=>
  rw[e] at q;dsimp only at q;split at q
  ·rename_i ok
   intro σ' H' hid' s';obtain⟨z1,z2⟩:=sr.back s' ok
   exact q σ' H' _ z1 z2
  ·exact q.elim
 |rt d ρ1=>rw[e] at q;intro v H' R;exact q v H' (R.back sr)
 |bk ρ1=>rw[e] at q;exact q.elim
 |ct ρ1=>rw[e] at q;exact q.elim
 |no=>rw[e] at q;exact q.elim
end
def AN(n:Nat)(P:List D->Option D)(fs:FA):aC->Option (List D):=λρ=>(fs ρ).bind λds=>if qV ds=true then(nF n P ds).bind CH else none
def wW(i n:Nat)(P:List D->Option D)(fs:FA):FS:=λρ=>match AN n P fs ρ with
 |some ds=>.nx (ρ.set i (.ob (.set ds)))
 |none=>.no
section
variable {X:Cx}{c:Ct}{k:Kd}{e:Expr}{es:List Expr}{pos pos' p cpos:Pos}{x y:Str}{ps:List Str}{j n i:Nat}
theorem xo(i:Nat){P:List D->Option D}{fs:FA}(C:Cl X.prog X.w X.K X.mg X.base j y ps (fA X.K .n n P))(hr:Room j X.A)(ha:DA X c (e::es) fs)(hn:X.N.Nodup)
 (hi:X.N[i]? =some x:=by rfl) (hx:tN X.env.scope x:=by first|exact Or.inl rfl|exact Or.inr rfl) (hs:swapsWith (.Call (.Name y p) (e::es) [] cpos) (some (.Name x pos')) pos.line X.env=pure false:=by rfl)
 (hf:X.fn x=true\/X.env.scope.names.lookup x=some .local:=by first|exact .inl rfl|exact .inr rfl|assumption)
 (hg:Gl X y:=by rfl) (hdb:(y==("__debug__":Str))=false:=by decide) (he:starEach (e::es) X.env=(false,eval e X.env)::starEach es X.env:=by rfl) (hpl:(backTo cpos (starEach es X.env)).any (·.1)=false:=by rfl):
 DS X c k (.Assign [.Name x pos'] (.Call (.Name y p) (e::es) [] cpos) pos) (wW i n P fs):=by
 obtain⟨f,fd,F,hm,hk,hb⟩:=C.ex
 exact λρ=>PS.imp (ko hn hi hx (km λhid=>jF F hr hg hm hk hb .nil (pM (X:=X)) (ha hid ρ) hdb he hpl) hs hf) λD σ H hq_=>by
  obtain⟨hid,sr,q⟩:=hq_
  unfold wW at q;cases e0:AN n P fs ρ with
  |none=>rw[e0] at q;exact q.elim
  |some zs=>
   rw[e0] at q;obtain⟨ds,g1,g2⟩:=Option.bind_eq_some_iff.mp e0
   split at g2
   ·rename_i hl
    obtain⟨d,g3,g4⟩:=Option.bind_eq_some_iff.mp g2
    obtain⟨g5,g6⟩:=yH g3
    refine⟨hid,sr,ds,g1,λvs H1 s1 r1=>?_⟩
    have sr1:=sr.ext s1
    show fA X.K .n n P (vs++[]) H1 _ E0;rw[List.append_nil];refine⟨λb=>hid b||iN (H1 b),ds,⟨λb w=>?_,λb xs w q=>by rw[Bool.or_eq_true] at w;rcases w with w|w;exact sr1.ht b xs w q;rw[q] at w;cases w⟩,iz (g':=hid) (λt w1 w2=>?_) r1 hl,g5,d,g6,λv H' s' r=>?_⟩
    ·rw[Bool.or_eq_true] at w
     rcases w with w|w
     ·exact sr1.tr b w
     ·cases z:H1 b with
      |none=>rw[z] at w;cases w
      |some o=>exact⟨o,rfl⟩
    ·simpa [w1] using w2
    ·obtain⟨a,xs,zs',e1,rfl,e3,e4,e5⟩:=r
     subst e1;cases g4
     have sH:Same H H':=s1.trans s'
     have nH:H a=none:=s1.free e3
     have sr2:=sr.hide sH nH e4
     have no: ∀m:Nat,Ow ρ[m]? ->σ[m]? ≠some (some (.ref a)):=λm ow es=>by
      have hs:=sr.sl m
      cases em:ρ[m]? with
      |none=>rw[em] at ow;exact ow
      |some s=>
       rw[em] at ow;have w:=hs s em
       have hid0:=sr.fresh nH
       cases s with
       |no=>exact ow
       |v d=>exact ow
       |own ds=>obtain⟨a',xs',w1,w2,_⟩:=w;rw[es] at w1;cases w1;rw[nH] at w2;cases w2
       |arg ds=>obtain⟨a',xs',w1,w2,_⟩:=w;rw[es] at w1;cases w1;rw[nH] at w2;cases w2
       |ob b=>obtain⟨a',w1,w2⟩:=w;rw[es] at w1;cases w1;rw[w2.hid ow] at hid0;cases hid0
     have ob:ObOk X.K c (be hid a) H' a (.set zs):=⟨⟨dW,sr.fresh0 nH⟩,xs,e4,e5.mono λb o w=>by
      obtain⟨w1,w2⟩:=vw_some.mp w
      unfold be at w1;rw[Bool.or_eq_false_iff,Bool.or_eq_false_iff] at w1;refine fv_some.mpr ⟨λlo=>?_,vw_some.mpr ⟨by unfold be;rw[w1.1.1,w1.2];rfl,w2⟩⟩
      cases z:c.H₀ b with
      |none=>rfl
      |some u=>
       obtain⟨o1,z1⟩:=sr1.t0 b u z
       have:=s' _ _ z1
       rw[w2] at this;cases this;rw[z1,lo] at w1;cases w1.1.2⟩
     refine q _ H' (be hid a) (sr2.setD ob no i) λb o w=>?_
     obtain⟨w1,w2⟩:=vw_some.mp w
     refine vw_some.mpr ⟨?_,sH _ _ w2⟩
     have:b≠a:=aO w2 nH
     unfold be;simp[w1,this]
   ·cases g2
end
def gF(i:Nat)(ρ:aC):Option (List ((List bn)×D)):=match ρ[i]? with
 |some (.ob (.dT kvs))=>some kvs
 |_=>none
theorem fN {i:Nat}{ρ:aC}{kvs:List ((List bn)×D)}(h:gF i ρ=some kvs):ρ[i]? =some (.ob (.dT kvs)):=by
 unfold gF at h;split at h
 ·cases h;assumption
 ·cases h
def eL(kvs:List ((List bn)×D))(k:List bn):Option D:=(kvs.find? λkv=>decide (kv.1=k)).map (·.2)
def pG(kvs:List ((List bn)×D))(k:List bn)(d:D):List ((List bn)×D):=
 if(kvs.any λkv=>decide (kv.1=k))=true then kvs.map (λkv=>if kv.1=k then(kv.1,d) else kv) else kvs++[(k,d)]
def KRt(K:W.Frag)(F:Hp)(us:List ((List bn)×V))(kvs:List ((List bn)×D)):Prop:=us.map (·.1)=kvs.map (·.1)/\Reps K F (us.map (·.2)) (kvs.map (·.2))
theorem KRt.inv {K:W.Frag}{F:Hp}: ∀ {us:List ((List bn)×V)} {kvs:List ((List bn)×D)},KRt K F us kvs->(us=[]/\kvs=[])\/ ∃k v us' d kvs',us=(k,v)::us'/\kvs=(k,d)::kvs'/\Rep K F v d/\KRt K F us' kvs'
 | [],[],_=>.inl ⟨rfl,rfl⟩
 | [],_::_,h=>by cases h.1
 |_::_,[],h=>by cases h.1
 |(k,v)::us,(k',d)::kvs,h=>by
  obtain⟨h1,h2⟩:=h
  rw[List.map_cons,List.map_cons] at h1 h2;injection h1 with e1 e2
  cases h2 with
  |cons r rs=>
   have e1:k=k':=e1
   subst e1;exact .inr ⟨k,v,us,d,kvs,rfl,rfl,r,e2,rs⟩
theorem KRt.val {K:W.Frag}{F:Hp}(k:List bn): ∀ {us:List ((List bn)×V)} {kvs:List ((List bn)×D)},KRt K F us kvs->(gy us k=none/\eL kvs k=none)\/ ∃v d,gy us k=some v/\eL kvs k=some d/\Rep K F v d:=by
 intro us
 induction us with
 |nil=>
  intro kvs h;rcases h.inv with⟨_,rfl⟩|⟨_,_,_,_,_,e,_⟩
  ·exact .inl ⟨rfl,rfl⟩
  ·cases e
 |cons p us ih=>
  intro kvs h;rcases h.inv with⟨e,_⟩|⟨k',v,us',d,kvs',e,rfl,r,rs⟩
  ·cases e
  ·cases e
   by_cases ek:k'=k
   ·exact .inr ⟨v,d,mj ek,by simp[eL,List.find?_cons,ek],r⟩
   ·have e1:gy ((k',v)::us) k=gy us k:=mW ek
    have e2:eL ((k',d)::kvs') k=eL kvs' k:=by simp[eL,List.find?_cons,ek]
    rw[e1,e2];exact ih rs
theorem KRt.any {K:W.Frag}{F:Hp}(k:List bn){us:List ((List bn)×V)}{kvs:List ((List bn)×D)}(h:KRt K F us kvs):(us.any λkv=>decide (kv.1=k))=kvs.any λkv=>decide (kv.1=k):=by
 have e1:(us.any λkv=>decide (kv.1=k))=(us.map (·.1)).any λx=>decide (x=k):=by rw[List.any_map];rfl
 have e2:(kvs.any λkv=>decide (kv.1=k))=(kvs.map (·.1)).any λx=>decide (x=k):=by rw[List.any_map];rfl
 rw[e1,e2,h.1]
theorem KRt.cons {K:W.Frag}{F:Hp}{k:List bn}{v:V}{d:D}{us:List ((List bn)×V)}{kvs:List ((List bn)×D)}(r:Rep K F v d)(h:KRt K F us kvs):KRt K F ((k,v)::us) ((k,d)::kvs):=⟨by rw[List.map_cons,List.map_cons,h.1],.cons r h.2⟩
theorem KRt.repl {K:W.Frag}{F:Hp}(k:List bn){v:V}{d:D}(r:Rep K F v d): ∀ {us:List ((List bn)×V)} {kvs:List ((List bn)×D)},KRt K F us kvs->KRt K F (us.map (λkv=>if kv.1=k then(kv.1,v) else kv)) (kvs.map (λkv=>if kv.1=k then(kv.1,d) else kv)):=by
 intro us
 induction us with
 |nil=>
  intro kvs h;rcases h.inv with⟨_,rfl⟩|⟨_,_,_,_,_,e,_⟩
  ·exact h
  ·cases e
 |cons p us ih=>
  intro kvs h;rcases h.inv with⟨e,_⟩|⟨k',v',us',d',kvs',e,rfl,r',rs⟩
  ·cases e
  ·cases e
   rw[List.map_cons,List.map_cons]
   by_cases ek:k'=k
   ·rw[if_pos ek,if_pos ek];exact KRt.cons r (ih rs)
   ·rw[if_neg ek,if_neg ek];exact KRt.cons r' (ih rs)
theorem KRt.put {K:W.Frag}{F:Hp}(k:List bn){v:V}{d:D}(r:Rep K F v d){us:List ((List bn)×V)}{kvs:List ((List bn)×D)}(h:KRt K F us kvs):KRt K F (kj us k v) (pG kvs k d):=by
 unfold kj pG;rw[h.any k];split
 ·exact h.repl k r
 ·refine⟨by rw[List.map_append,List.map_append,h.1];rfl,?_⟩
  rw[List.map_append,List.map_append];exact h.2.append (.cons r .nil)
theorem KRt.len {K:W.Frag}{F:Hp}{us:List ((List bn)×V)}{kvs:List ((List bn)×D)}(h:KRt K F us kvs):us.length=kvs.length:=by
 have:=congrArg List.length h.1
 simpa using this
section
variable {K:W.Frag}{c:Ct}{hid:bj}{ρ:aC}{σ:St}{H:Hp}{a:Addr}
theorem SR.dictT(h:SR K c hid ρ σ H){i:Nat}{kvs:List ((List bn)×D)}(e:gF i ρ=some kvs): ∃a us,σ[i]? =some (some (.ref a))/\hid a=true/\c.H₀ a=none/\H a=some (.dT us)/\KRt K (vw H hid) us kvs:=by
 obtain⟨a,h1,⟨h2,h3⟩,us,h4,h5,h6⟩:=h.sl i _ (fN e)
 exact⟨a,us,h1,h2,h3,h4,h5,h6⟩
theorem SR.putDT {i:Nat}{kvs kvs':List ((List bn)×D)}{us':List ((List bn)×V)}(h:SR K c hid ρ σ H)(hg:gF i ρ=some kvs)(ha:σ[i]? =some (some (.ref a)))(r:KRt K (vw H hid) us' kvs'):SR K c hid (ρ.set i (.ob (.dT kvs'))) σ (bq H a (.dT us')):=by
 obtain⟨a1,us,h1,h2,h3,h4,h5⟩:=h.dictT hg
 rw[ha] at h1;cases h1;exact h.putO (fN hg) trivial trivial ha (.inl rfl) h2 h3 nofun ⟨⟨h2,h3⟩,us',aI,r.1,by rw[dG h2];exact r.2⟩
end
def pE:D->Option (List Int)
 | .tup ds=>fY ds
 |_=>none
theorem iy {d:D}{ns:List Int}(h:pE d=some ns):d=.tup (ns.map D.int):=by
 unfold pE at h;split at h
 ·rw[iq h]
 ·cases h
theorem mk {K:W.Frag}{F:Hp}: ∀ {xs:List V} {ns:List Int},Reps K F xs (ns.map D.int)->xs=(ns.map Sum.inl).map kV
 |_,[],h=>by cases h;rfl
 |_,n::ns,h=>by
  cases h with
  |cons r rs=>cases r;rw[mk rs];rfl
section
variable {X:Cx}{ab:List (Addr×Obj)}{σ:St}{H:Hp}{s:Shared}{a b:Addr}{A:Around}{E:Value->Shared->Prop}
theorem pe {ks:List bn}(I:Inv X ab σ H s)(h:SqT X.K H b (ks.map kV)):(tupleKind (cx X.prog X.w)).is s.heap ks b:=by
 obtain⟨its,r,⟨o,h1,h2,n,h3⟩,_⟩:=I.tuple h
 exact⟨o,its.toArray,n,h1,h2,h3,by simpa using j3 r⟩
theorem AI {kvs:List (List bn×V)}{k:List bn}{v:V}{Q:Value->Shared->Prop}(hu:A.units+1<cLine)(I:Inv X ab σ H s)(e:H a=some (.dT kvs))(eb:SqT X.K H b (k.map kV))(l:gy kvs k=some v)
 (h: ∀w' s',Inv X ab σ H s'->RelV v w'->Q w' s'):wpAny (model X.prog X.w) A (getItem (.ref a) (.ref b)) Q E s:=by
 obtain⟨z,hd,xs,rel,dd⟩:=pU I.hok e
 obtain⟨w',hw,rw'⟩:=RelO.some_of (v:=v) (o:=(atKey xs k).map (·.2)) (by rw[<-l];exact rel.val k)
 obtain⟨p,hp,hp2⟩:=Option.map_eq_some_iff.mp hw
 refine wpAny_getItem_heap (tupleKind_room_in1 hu) (pe I eb) dd hp ?_
 rw[hp2];exact h w' _ (I.tok _) rw'
theorem BL {kvs:List (List bn×V)}{k:List bn}{Q:Value->Shared->Prop}(hu:A.units+1<cLine)(I:Inv X ab σ H s)(e:H a=some (.dT kvs))(eb:SqT X.K H b (k.map kV))
 (h: ∀s',Inv X ab σ H s'->Q (.bool (gy kvs k).isSome) s'):wpAny (model X.prog X.w) A (compareOp .In (.ref b) (.ref a)) Q E s:=by
 obtain⟨z,hd,xs,rel,dd⟩:=pU I.hok e
 refine wpAny_in_heap (tupleKind_room_in1 hu) (pe I eb) hd dd ?_
 have q:=(rel.val k).isSome_eq
 rw[Option.isSome_map] at q;rw[<-q];exact h _ (I.tok _)
end
section
variable {X:Cx}{o i:Expr}{pos:Pos}{td ty:TE}
def De(K:W.Frag)(td ty:TE):TE:=λσ H Q=>td σ H λx H1=>ty σ H1 λy H2=> ∃a b kvs k v,x=.ref a/\y=.ref b/\H2 a=some (.dT kvs)/\SqT K H2 b (k.map kV)/\gy kvs k=some v/\Q v H2
def Dm(K:W.Frag)(ty td:TE):TE:=λσ H Q=>ty σ H λy H1=>td σ H1 λx H2=> ∃a b kvs k,x=.ref a/\y=.ref b/\H2 a=some (.dT kvs)/\SqT K H2 b (k.map kV)/\Q (.bl (gy kvs k).isSome) H2
theorem zR(hu:X.A.units+1<cLine)(ho:PE X o td)(hi:PE X i ty)(hs:vm i):PE X (.Subscript o i pos) (De X.K td ty):=by
 intro ab s σ H Q I h;refine tY PySem.F.slot_dict_getitem.lookup hs (bM (ho ab s σ H _ I h) λu s1 ⟨x,H1,I1,rx,q1⟩=>bM (hi ab s1 σ H1 _ I1 q1) λiv s2 hq_=>?_)
 obtain⟨y,H2,I2,ry,a,b,kvs,k,v,ex,ey,g1,g2,g3,q2⟩:=hq_
 subst ex ey;obtain rfl:u=Value.ref a:=rx
 obtain rfl:iv=Value.ref b:=ry
 refine⟨?_,AI hu I2 g1 g2 g3 λw' s3 I3 rw'=>⟨v,H2,I3,rw',q2⟩⟩
 obtain⟨_,_,xs,_,dd⟩:=pU I2.hok g1
 exact dd.typeIs
theorem zY(hu:X.A.units+1<cLine)(hi:PE X i ty)(ho:PE X o td):PC X .In i o (Dm X.K ty td):=by
 intro ab s σ H Q I h;refine bM (hi ab s σ H _ I h) λiv s1 ⟨y,H1,I1,ry,q1⟩=>bM (ho ab s1 σ H1 _ I1 q1) λu s2 hq_=>?_
 obtain⟨x,H2,I2,rx,a,b,kvs,k,ex,ey,g1,g2,q2⟩:=hq_
 subst ex ey;obtain rfl:u=Value.ref a:=rx
 obtain rfl:iv=Value.ref b:=ry
 exact BL hu I2 g1 g2 λs3 I3=>⟨.bl (gy kvs k).isSome,H2,I3,rfl,q2⟩
end
section
variable {X:Cx}{c:Ct}{k k1 k2:Kd}{e f ev:Expr}{es:List Expr}{fe ff fk fv:FE}{fs:FA}{pos pos' py apos cpos p:Pos}{x y:Str}{x1:_}
def iK(ns:List Int):List bn:=ns.map Sum.inl
def ub(i:Nat):FS:=λρ=>.nx (ρ.set i (.ob (.dT [])))
theorem mh(i:Nat)(hn:X.N.Nodup)(hi:X.N[i]? =some x:=by rfl)(hx:tN X.env.scope x:=by first|exact Or.inl rfl|exact Or.inr rfl)(hs:swapsWith (.Dict [] [] p) (some (.Name x pos')) pos.line X.env=pure false:=by rfl)
 (hf:X.fn x=true\/X.env.scope.names.lookup x=some .local:=by first|exact .inl rfl|exact .inr rfl|assumption):DS X c k (.Assign [.Name x pos'] (.Dict [] [] p) pos) (ub i):=λρ=>PS.imp (ko hn hi hx wY hs hf) λD σ H hq_=>by
 obtain⟨hid,sr,q⟩:=hq_
 intro a ha;have sm:=aY ha (.dT [])
 have nf:=sr.fresh ha
 refine q _ _ (be hid a) (SR.setD (a:=a) (b:=.dT []) (sr.hide sm ha aI) ⟨⟨dW,sr.fresh0 ha⟩,[],aI,rfl,.nil⟩ (sr.notOw nf) i) λb o w=>?_
 obtain⟨w1,w2⟩:=vw_some.mp w
 refine vw_some.mpr ⟨?_,sm b o w2⟩
 unfold be;rw[w1];have:b≠a:=aO w2 ha
 simp[this]
def jH(i:Nat)(fs:FA)(fv:FE):FS:=λρ=>match gF i ρ with
 |some kvs=>(match fv ρ with
  |some d=>(match (fs ρ).bind fY with
   |some ns=>if kvs.length<=1000/\ns.length<=1000 then .nx (ρ.set i (.ob (.dT (pG kvs (iK ns) d)))) else .no
   |none=>.no)
  |none=>.no)
 |none=>.no
theorem pN(i:Nat)(hu:X.A.units+1<cLine)(hk:DA X c es fs)(hv:DP X c .s ev fv)(hN:X.N[i]? =some y:=by rfl)(hv':kR X.env.scope y:=by first|exact Or.inl rfl|exact Or.inr (Or.inl rfl)|exact Or.inr (Or.inr rfl))(hd:(y==("__debug__":Str))=false:=by decide)
 (hcd:(y==("__classdict__":Str))=false:=by decide) (hs:swapsWith ev (some (.Subscript (.Name y py) (.Tuple es x1 p) pos')) pos.line X.env=pure false:=by rfl):
 DS X c k (.Assign [.Subscript (.Name y py) (.Tuple es x1 p) pos'] ev pos) (jH i fs fv):=λρ=>PS.imp (tG hu (pv i hN hv' hd hcd) (oS (Ad λhid=>hk hid ρ)) (km λhid=>hv hid ρ) hs) λD σ H hq_=>by
 obtain⟨hid,sr,q⟩:=hq_
 unfold jH at q;split at q
 ·rename_i kvs e0
  split at q
  ·rename_i d e1
   split at q
   ·rename_i ns e2
    split at q
    ·rename_i hz
     obtain⟨dk,e3,e4⟩:=Option.bind_eq_some_iff.mp e2
     have e5:=iq e4
     subst e5;obtain⟨a,us,a1,a2,a3,a4,a5⟩:=sr.dictT e0
     refine⟨hid,sr,d,e1,λv H1 s1 r1=>⟨.ref a,a1,hid,sr.ext s1,_,e3,λzs H2 s2 r2=>⟨?_,λt ht=>?_⟩⟩⟩
     ·have:=r2.length
      rw[List.length_map] at this;rw[this,sizeLine_eq];omega
     have i1:=mk r2
     subst i1;have s3:=aY ht (.tup ((ns.map Sum.inl).map kV))
     have s13:=(s1.trans s2).trans s3
     have hh:(bq H2 t (.tup ((ns.map Sum.inl).map kV))) a=some (.dT us):=s13 _ _ a4
     refine⟨a,_,rfl,DPut.t (k:=iK ns) hh aI (by rw[a5.len];exact Nat.lt_of_le_of_lt hz.1 (by decide)),?_⟩
     have r1':Rep X.K (vw H1 hid) v d:=r1
     refine q _ _ hid ((sr.ext s13).putDT e0 a1 (KRt.put (iK ns) (r1'.mono (aK (s2.trans s3))) ⟨a5.1,a5.2.mono (aK s13)⟩)) ?_
     rw[dG a2];exact aK s13
    ·exact q.elim
   ·exact q.elim
  ·exact q.elim
 ·exact q.elim
def ki(i:Nat)(fk:FE):FE:=λρ=>(gF i ρ).bind λkvs=>((fk ρ).bind pE).bind λk=>eL kvs (iK k)
theorem pb {hid:bj}{H':Hp}{z:V}{ns:List Int}(h:Rep1 X.K H' (vw H' hid) z (.tup (ns.map D.int))): ∃b,z=.ref b/\SqT X.K H' b ((iK ns).map kV):=by
 obtain⟨b,xs,rfl,_,h2,h3⟩:=h.tup
 refine⟨b,rfl,?_⟩
 rw[<-show xs=(iK ns).map kV from mk h3];exact h2
theorem sT(i:Nat)(hu:X.A.units+1<cLine)(he:DP X c k1 e fe)(hs:vm e)(hN:X.N[i]? =some y:=by rfl)(hv':kR X.env.scope y:=by first|exact Or.inl rfl|exact Or.inr (Or.inl rfl)|exact Or.inr (Or.inr rfl))(hd:(y==("__debug__":Str))=false:=by decide)
 (hcd:(y==("__classdict__":Str))=false:=by decide):DP X c .s (.Subscript (.Name y py) e pos) (ki i fe):=λhid ρ=>
 PE.imp (zR hu (pv i hN hv' hd hcd) (he hid ρ) hs) λσ H Q hq_=>by
  obtain⟨sr,d,hd,q⟩:=hq_
  obtain⟨kvs,e0,hd⟩:=Option.bind_eq_some_iff.mp hd
  obtain⟨kk,e1,hd⟩:=Option.bind_eq_some_iff.mp hd
  obtain⟨dk,e3,e4⟩:=Option.bind_eq_some_iff.mp e1
  have e5:=iy e4
  subst e5;obtain⟨a,us,a1,a2,a3,a4,a5⟩:=sr.dictT e0
  refine⟨.ref a,a1,sr,_,e3,λz H2 s2 r2=>?_⟩
  obtain⟨b,rfl,hb⟩:=pb (RK.b k1 r2 λa n=>sr.fresh n)
  have hh:H2 a=some (.dT us):=s2 _ _ a4
  have rr:KRt X.K (vw H2 hid) us kvs:=⟨a5.1,a5.2.mono (aK s2)⟩
  rcases rr.val (iK kk) with⟨v1,v2⟩|⟨v,d',v1,v2,v3⟩
  ·rw[v2] at hd;cases hd
  ·rw[v2] at hd;cases hd
   exact⟨a,b,us,iK kk,v,rfl,rfl,hh,hb,v1,q _ H2 s2 v3⟩
def wj(i:Nat)(fk:FE):FT:=λρ=>(gF i ρ).bind λkvs=>((fk ρ).bind pE).map λk=>(eL kvs (iK k)).isSome
theorem xH(i:Nat)(hu:X.A.units+1<cLine)(he:DP X c k1 e fe)(hN:X.N[i]? =some y:=by rfl)(hv':kR X.env.scope y:=by first|exact Or.inl rfl|exact Or.inr (Or.inl rfl)|exact Or.inr (Or.inr rfl))(hd:(y==("__debug__":Str))=false:=by decide)
 (hcd:(y==("__classdict__":Str))=false:=by decide) (hm:behindInMarks .In (.Name y py)=false:=by rfl):DT X c (.Compare e [.In] [.Name y py] pos) (wj i fe):=λhid ρ=>
 PT.imp (wD (zY hu (he hid ρ) (pv i hN hv' hd hcd)) hm) λσ H Q hq_=>by
  obtain⟨sr,d,hd,q⟩:=hq_
  obtain⟨kvs,e0,hd⟩:=Option.bind_eq_some_iff.mp hd
  obtain⟨kk,e1,rfl⟩:=Option.map_eq_some_iff.mp hd
  obtain⟨dk,e3,e4⟩:=Option.bind_eq_some_iff.mp e1
  have e5:=iy e4
  subst e5;obtain⟨a,us,a1,a2,a3,a4,a5⟩:=sr.dictT e0
  refine⟨sr,_,e3,λz H2 s2 r2=>⟨.ref a,a1,?_⟩⟩
  obtain⟨b,rfl,hb⟩:=pb (RK.b k1 r2 λa n=>sr.fresh n)
  have hh:H2 a=some (.dT us):=s2 _ _ a4
  have rr:KRt X.K (vw H2 hid) us kvs:=⟨a5.1,a5.2.mono (aK s2)⟩
  refine⟨a,b,us,iK kk,rfl,rfl,hh,hb,_,rfl,?_⟩
  rcases rr.val (iK kk) with⟨v1,v2⟩|⟨v,d',v1,v2,v3⟩
  ·rw[v1];rw[v2] at q;exact q H2 s2
  ·rw[v1];rw[v2] at q;exact q H2 s2
end
def RawAt(h:Heap)(d:Addr)(es:Array DictEntry)(ep:Nat):Prop:= ∃o,h.get? d=some o/\o.ExactDict/\o.data=.dict es ep
section
variable {prog:Program}{w:World}{A:Around}{E:Value->Shared->Prop}{s:Shared}{d it:Addr}{es:Array DictEntry}{ep i:Nat}
theorem RawAt.ty(h:RawAt s.heap d es ep):s.TypeIs (.ref d) "dict":=let⟨o,h1,h2,_⟩:=h;⟨o,h1,h2.1⟩
theorem RawAt.lt {h:Heap}(x:RawAt h d es ep):d<h.objs.size:=let⟨_,h1,_⟩:=x;Heap.lt_size h1
theorem RawAt.to {h h':Heap}(x:RawAt h d es ep)(k: ∀o,h.get? d=some o->h'.get? d=some o):RawAt h' d es ep:=let⟨o,h1,r⟩:=x;⟨o,k o h1,r⟩
theorem xk {Q:Value->Shared->Prop}(lo:(d==sysModules)=false)(x:RawAt s.heap d es ep)
 (q:Q (.ref s.heap.objs.size) {s with heap:=s.heap.push {cls:=.type "dict_keyiterator",data:=.fields #[.ref d,.int 0 0,.int es.size 0,.int ep 0]}}):wpAny (model prog w) A (pyIter (.ref d)) Q E s:=by
 have ty:=x.ty
 obtain⟨o,g1,g2,g3⟩:=x
 refine wpAny_pyIter_slot ty F.slot_dict_iter (wpAny_call_entry F.slot_dict_iter ty F.entry_dict_iter ?_ (F.args_dict_iter_1 _))
 unfold Builtin.«dict.__iter__»;refine wpAny_bind ?_
 unfold Builtin.Dict.dictSlotNone;refine wpAny_bind (wpAny_notOrdered_dict ty ?_)
 show wpAny _ _ (pure (Value.ref d)) _ _ s;refine wpAny_pure ?_
 show wpAny _ _ (Builtin.Dict.showsAll d>>=_) _ _ s;unfold Builtin.Dict.showsAll;rw[if_neg (by rw[lo];exact Bool.false_ne_true)]
 refine wpAny_bind (wpAny_pure (wpAny_bind (wpAny_dictEntries g1 g3 (wpAny_bind (wpAny_dictEpoch g1 g3 ?_)))))
 refine wpAny_bind (wpAny_newObj_type (wpAny_pure ⟨_,rfl,"dict_keyiterator",_,⟨_,Heap.get?_push_size _ rfl,rfl⟩,F.slot_dict_keyiterator_next.lookup,?_⟩))
 simpa [rawInt] using q
theorem vi {Q:Option Value->Shared->Prop}(hit:s.heap.IsKeyIter it d i es.size ep)(x:RawAt s.heap d es ep)(hi:i<es.size)
 (q: ∀h',h'.IsKeyIter it d (i+1) es.size ep->Heap.SameBut it s.heap h'->Q (some es[i].key) {s with heap:=h'}):wpAny (model prog w) A (pyNext (.ref it)) Q E s:=by
 obtain⟨o,k1,k2,k3⟩:=id hit
 obtain⟨od,g1,g2,g3⟩:=id x
 unfold pyNext;refine wpAny_bind (wpAny_attempt (wpAny_callSpecial?_slot (name:=Str.ofString "__next__") hit.typeIs F.slot_dict_keyiterator_next (wpAny_call_entry F.slot_dict_keyiterator_next hit.typeIs F.entry_dict_keyiterator_next ?_ (F.args_dict_keyiterator_next_1 _))))
 refine wpAny_bind (wpAny_pure (wpAny_bind (wpAny_bind ?_)))
 first|refine wpAny_bind (wpAny_typeNameOfWhole_keyiter hit.typeIs (wpAny_pure (wpAny_bind (wpAny_fieldsOf k1 k3 ?_))))|refine wpAny_bind (wpAny_typeNameOf_keyiter hit.typeIs (wpAny_pure (wpAny_bind (wpAny_fieldsOf k1 k3 ?_))))
 simp only[show Builtin.Dict_items.ownsTuple "dict_keyiterator"=false by decide,Bool.false_eq_true,if_false]
 show wpAny _ _ (if(Value.ref d==Value.none)=true then _ else _) _ _ s;rw[if_neg (show¬((Value.ref d==Value.none)=true) from Bool.false_ne_true)]
 refine wpAny_bind (wpAny_pure (wpAny_bind (wpAny_dictEntries g1 g3 ?_)))
 rw[if_neg (by simp)]
 refine wpAny_bind (wpAny_pure (wpAny_bind (wpAny_dictEpoch g1 g3 ?_)))
 rw[if_neg (by simp)]
 refine wpAny_pure ?_
 simp only[show¬((i:Int)<0) from by omega,if_false,Int.toNat_natCast,Array.getElem?_eq_getElem hi]
 refine wpAny_bind ?_
 first|refine wpAny_bind (wpAny_typeNameOfWhole_keyiter hit.typeIs (wpAny_pure (wpAny_bind (wpAny_isOneOf_keyiter hit.typeIs ?_))))|refine wpAny_bind (wpAny_typeNameOf_keyiter hit.typeIs (wpAny_pure (wpAny_bind (wpAny_isOneOf_keyiter hit.typeIs ?_))))
 show wpAny _ _ (setField (.ref it) 1 (rawInt ((i:Int)+1))>>=_) _ _ s;refine wpAny_bind (wpAny_setField k1 k3 (by simp) ?_)
 have nx:(s.heap.update it (Obj.mapFields (·.setIfInBounds 1 (rawInt ((i:Int)+1))))).IsKeyIter it d (i+1) es.size ep:=⟨_,Heap.get?_update_self _ k1 (Obj.isFreed_of_fields (Obj.data_mapFields k3 _)),(Obj.cls_mapFields ..).trans k2,by rw[Obj.data_mapFields k3];simp[rawInt]⟩
 refine wpAny_bind (wpAny_holding (wpAny_bind (wpAny_isOneOf_keyiter (s:={s with heap:=s.heap.update it (Obj.mapFields (·.setIfInBounds 1 (rawInt ((i:Int)+1))))}) nx.typeIs ?_)))
 show wpAny _ _ (pure es[i].key) _ _ _;exact wpAny_pure (wpAny_pure ⟨_,rfl,wpAny_pure (q _ nx (Heap.SameBut.update ..))⟩)
theorem yL {Q:Option Value->Shared->Prop}(calm:A.handled=none)(hit:s.heap.IsKeyIter it d es.size es.size ep)(x:RawAt s.heap d es ep)
 (q: ∀h',Heap.ExtBut it s.heap h'->Q none {s with heap:=h'}):wpAny (model prog w) A (pyNext (.ref it)) Q E s:=by
 obtain⟨o,k1,k2,k3⟩:=id hit
 obtain⟨od,g1,g2,g3⟩:=id x
 unfold pyNext;refine wpAny_bind (wpAny_attempt (wpAny_callSpecial?_slot (name:=Str.ofString "__next__") hit.typeIs F.slot_dict_keyiterator_next (wpAny_call_entry F.slot_dict_keyiterator_next hit.typeIs F.entry_dict_keyiterator_next ?_ (F.args_dict_keyiterator_next_1 _))))
 refine wpAny_bind (wpAny_pure (wpAny_bind (wpAny_bind ?_)))
 first|refine wpAny_bind (wpAny_typeNameOfWhole_keyiter hit.typeIs (wpAny_pure (wpAny_bind (wpAny_fieldsOf k1 k3 ?_))))|refine wpAny_bind (wpAny_typeNameOf_keyiter hit.typeIs (wpAny_pure (wpAny_bind (wpAny_fieldsOf k1 k3 ?_))))
 simp only[show Builtin.Dict_items.ownsTuple "dict_keyiterator"=false by decide,Bool.false_eq_true,if_false]
 show wpAny _ _ (if(Value.ref d==Value.none)=true then _ else _) _ _ s;rw[if_neg (show¬((Value.ref d==Value.none)=true) from Bool.false_ne_true)]
 refine wpAny_bind (wpAny_pure (wpAny_bind (wpAny_dictEntries g1 g3 ?_)))
 rw[if_neg (by simp)]
 refine wpAny_bind (wpAny_pure (wpAny_bind (wpAny_dictEpoch g1 g3 ?_)))
 rw[if_neg (by simp)]
 refine wpAny_pure ?_
 simp only[show¬((es.size:Int)<0) from by omega,if_false,Int.toNat_natCast,Array.getElem?_eq_none (Nat.le_refl es.size)]
 refine wpAny_bind ?_
 first|refine wpAny_bind (wpAny_typeNameOfWhole_keyiter hit.typeIs (wpAny_pure ?_))|refine wpAny_bind (wpAny_typeNameOf_keyiter hit.typeIs (wpAny_pure ?_))
 show wpAny _ _ (setField (.ref it) 0 .none>>=_) _ _ s;refine wpAny_bind (wpAny_setField k1 k3 (by simp) ?_)
 show wpAny _ _ (newExc (.type "StopIteration") []>>=_) _ _ _;refine wpAny_bind ?_
 simp only[newExc,newTuple];refine wpAny_bind (wpAny_newObj_type (wpAny_bind (m:=firstArgMember _ _) (wpAny_of_eq (a:=Value.none) (by first|rfl|(simp only[firstArgMember];rfl)) (wpAny_newObj_type ?_ (by size_fits)))) (by size_fits))
 simp only[raiseNew];refine wpAny_bind (wpAny_handled ?_)
 rw[show A.in1.handled=none from calm];refine wpAny_bind (wpAny_pure (wpAny_throw ?_));refine wpAny_bind (wpAny_isInstance (T:="StopIteration") (b:=true) ⟨_,Heap.get?_push_size _ rfl,rfl⟩ isSubtype_stop ?_)
 exact wpAny_pure (q _ (((Heap.SameBut.update ..).extBut.push _).push _))
theorem uS(calm:A.handled=none)(I:Addr)(ne:d≠I):Walks prog w A I [I,d] [I] es.size (λi v=> ∃e,es[i]? =some e/\v=e.key) (λi h=>h.IsKeyIter I d i es.size ep/\RawAt h d es ep) where
 sub:=λb hb=>by simp at hb;simp[hb]
 frame:=λ_ _ _ st hk=>⟨st.1.at λo e=>hk I (by simp) o e,st.2.to λo e=>hk d (by simp) o e⟩
 item:=λi s Q E hi st hQ=>vi st.1 st.2 hi λh' it' sb=>hQ _ h' s.toks ⟨_,Array.getElem?_eq_getElem hi,rfl⟩ ⟨it',st.2.to λo e=>sb.extBut d o ne e⟩ λb o hb e=>sb.extBut b o (λh=>hb (by simp[h])) e
 done:=λs Q E st hQ=>yL calm st.1 st.2 λh' he'=>hQ h' s.toks λb o hb e=>he' b o (λh=>hb (by simp[h])) e
 self:=λ_ _ _ _ st hQ=>wpAny_pyIter_keyiter st.1 hQ
theorem yc(lo:(d==sysModules)=false):KdlSrc prog w "dict" d d es.size (λi v=> ∃e,es[i]? =some e/\v=e.key) (λh=>RawAt h d es ep) where
 type:=λ_ h=>h.ty
 there:=λ_ h=>⟨h.lt,h.lt⟩
 keep:=λ_ _ h hk=>h.to λo e=>hk d (.inl rfl) o e
 notList:=by decide
 notTuple:=by decide
 hint:=λ_ _ _ _ h hq=>kdl_hint_dict h.ty hq
 iter:=λ_ _ hh h=>⟨_,_,λ_ _ hq=>xk lo h hq,uS hh _ (Nat.ne_of_lt h.lt),⟨_,Heap.get?_push_size _ rfl,rfl,rfl⟩,h.to λo e=>Heap.get?_push_of_some _ e⟩
theorem rg {T:String}{r:Addr}{us:List Value}{P:Nat->Value->Prop}{OK:Heap->Prop}{Q:Value->Shared->Prop}{G:List Nat->Prop}(src:KdlSrc prog w T r d us.length P OK)(hP: ∀i v,i<us.length->P i v->us[i]? =some v)(calm:A.handled=none)(good:OK s.heap)(hz:us.length<64)
 (few:us.length<2->G (List.range us.length))
 (many:2<=us.length-> ∀(g:Heap) (tk:Nat),(∀c o,s.heap.get? c=some o->g.get? c=some o)->wpAny (model prog w) A.in1.in1 (keyKind' us.toArray) (λκ t=>t={s with heap:=g,toks:=tk}/\
   (kas_sort us.length).kasWp (kas_ask prog w A.in1.in1 κ us) (λp t'=>t'=t/\G p.toList) t) (λ_ _=>False) {s with heap:=g,toks:=tk})
 (fin: ∀(g:Heap) (tk a e:Nat) (ix:List Nat),(∀c o,s.heap.get? c=some o->g.get? c=some o)->s.heap.objs.size<=a->G ix->g.get? a=some (seqObj "list" (List.toArray (ix.map λi=>us.getD i Value.none)) e)->Q (.ref a) {s with heap:=g,toks:=tk}):
 wpAny (model prog w) A (call (.builtin "sorted") [.ref r]) Q E s:=by
 refine Calls.call_function_entry kind_sorted plain_sorted entry_sorted (args_sorted1 _) ?_
 unfold Builtin.«sorted»;refine wpAny_bind (m:=checkCount "sorted" 1 1 _) (wpAny_pure (wpAny_bind (sE (A:=A.in1) src calm good (by rw[sizeLine_eq];omega) λg tk acc kg sg0 hacc=>?_)))
 have hus:acc.toList=us:=List.ext_getElem? λi=>by
  by_cases hi:i<us.length
  ·have h1:i<acc.size:=by rw[hacc.1];exact hi
   have e3:acc[i]? =some acc[i]:=Array.getElem?_eq_getElem h1
   rw[Array.getElem?_toList,e3,hP i _ hi (hacc.2 i _ e3)]
  ·have h1: ¬i<acc.toList.length:=by rw[Array.length_toList,hacc.1];exact hi
   rw[List.getElem?_eq_none (by omega),List.getElem?_eq_none (by omega)]
 rw[hus];have sg:s.heap.objs.size<=g.objs.size:=Nat.le_of_lt sg0
 refine wpAny_bind (wpAny_newList ?_ (by rw[sizeLine_eq];omega))
 have hL:(g.push (seqObj "list" us.toArray 0)).get? g.objs.size=some (seqObj "list" us.toArray 0):=Heap.get?_push_size _ rfl
 show wpAny _ _ _ _ _ {s with heap:=g.push (seqObj "list" us.toArray 0),toks:=tk}
 have end_: ∀ix:List Nat,G ix->Q (.ref g.objs.size) {s with heap:=sortedHeap (g.push (seqObj "list" us.toArray 0)) g.objs.size us (List.toArray (ix.map λi=>us.getD i Value.none)),toks:=tk}:=λix hG=>by
  obtain⟨e,he⟩:=sortedHeap_at (out:=List.toArray (ix.map λi=>us.getD i Value.none)) hL
  refine fin _ tk g.objs.size e ix (λc u hu=>?_) sg hG he
  have lt:=Heap.lt_size (kg c u hu)
  rw[sortedHeap_old (Nat.ne_of_lt lt) (by rw[size_push'];exact Nat.lt_succ_of_lt lt)]
  exact Heap.get?_push_of_some _ (kg c u hu)
 refine wpAny_bind (wpAny_holding (wpAny_call_entry slot_list_sort ⟨_,hL,rfl⟩ entry_list_sort (mG (P:=λf t=> ∃v,f=.done (.ret v)/\wpAny (model prog w) A.in1 (pure (PySem.Fin.done (.ret (Value.ref g.objs.size)))) (λf t=> ∃v,f=.done (.ret v)/\Q v t) E t) hL (by omega) (λh=>?_) (λh g' kg'=>?_)) (args_list_sort _)))
 ·have e:=end_ (List.range us.length) (few h)
  rw[show(List.range us.length).map (λi=>us.getD i Value.none)=us from List.ext_getElem? λi=>by
   by_cases hi:i<us.length
   ·simp[hi]
   ·simp[hi]] at e
  exact⟨_,rfl,wpAny_pure ⟨_,rfl,e⟩⟩
 ·refine wpAny_mono (many h g' tk λc u hu=>kg' c u (Nat.ne_of_lt (Heap.lt_size (kg c u hu))) (Heap.get?_push_of_some _ (kg c u hu))) (λκ t ⟨et,ht⟩=>⟨et,?_⟩) λ_ _ x=>x
  rw[kat_ask_eq rfl] at ht⊢;exact kas_wp_mono ht λp t' ⟨e1,hG⟩=>⟨e1,_,rfl,wpAny_pure ⟨_,rfl,end_ _ hG⟩⟩
end
abbrev Bf(H:Hp):List V->List (List Int)->Prop:=Paired λy ks=> ∃b,y=.ref b/\H b=some (.tup (ks.map V.int))
theorem wr {H:Hp}: ∀ {us:List (List bn×V)} {xs:List (List bn×Addr×Value)} {kss:List (List Int)},KTd H us xs->us.map (·.1)=kss.map iK->Bf H (xs.map λx=>V.ref x.2.1) kss
 |_,_,[],r,e=>by
  cases r with
  |nil=>exact .nil
  |cons _ _=>cases e
 |_,_,ks::kss,r,e=>by
  cases r with
  |nil=>cases e
  | @cons p q ps qs h t=>
    rw[List.map_cons,List.map_cons] at e;injection e with e1 e2
    refine .cons ⟨q.2.1,rfl,?_⟩ (wr t e2)
    rw[h.2.1,e1];unfold iK;rw[List.map_map];rfl
theorem oW {H:Hp}: ∀ {ys:List V} {kss:List (List Int)} {i:Nat},Bf H ys kss->i<kss.length-> ∃b,ys.getD i .non=.ref b/\H b=some (.tup ((kss.getD i []).map V.int))
 |_,_,_,.nil,e=>by simp at e
 |_,_,0,.cons h _,e=>by obtain⟨b,h1,h2⟩:=h;exact⟨b,by simpa using h1,by simpa using h2⟩
 |_,_,i+1,.cons _ r,e=>by
  obtain⟨b,h1,h2⟩:=oW (i:=i) r (by simpa using e)
  exact⟨b,by simpa using h1,by simpa using h2⟩
theorem pV {H:Hp}{ys:List V}{kss:List (List Int)}(r:Bf H ys kss): ∀ix:List Nat,(∀i∈ix,i<kss.length)->Bf H (ix.map λi=>ys.getD i .non) (ix.map λi=>kss.getD i [])
 | [],_=>.nil
 |i::l,h=>.cons (oW r (h i List.mem_cons_self)) (pV r l λj hj=>h j (List.mem_cons_of_mem _ hj))
theorem ug {H:Hp}{ys:List V}{kss:List (List Int)}(r:Bf H ys kss):ys.length=kss.length:=Paired.length r
theorem sO: ∀xs:List (List bn×Addr×Value),Vals (xs.map λx=>V.ref x.2.1) (xs.map λx=>Value.ref x.2.1)
 | []=>.nil
 |_::xs=>.cons rfl (sO xs)
theorem zr: ∀ {ns:List Int} {us:List Value},Vals (ns.map V.int) us->v0 us ns
 | [],_,h=>by cases h;exact .nil
 |_::_,_,h=>by cases h with|cons h1 h2=>exact .cons h1 (zr h2)
section
variable {X:Cx}
theorem oJ(hc:X.calm=true):fm X (.builtin "sorted") (λxs H Q=> ∃a us kss,xs=[.ref a]/\H a=some (.dT us)/\us.map (·.1)=kss.map iK/\kss.length<64/\(∀k∈kss,k≠[])/\
 ∀l ys,H l=none->Bf H ys (bT cL kss)->Q (.ref l) (bq H l (.lst ys))):=by
 intro ab s σ H xs vs Q I r h;obtain⟨a,us,kss,rfl,ha,hk,hz,hne,q⟩:=h
 obtain⟨u,rfl,rx⟩:=hX r
 cases rx
 obtain⟨z,lo,xs,rel,o,es,ep,d1,d2,d3,d4,d5,d6⟩:=pU I.hok ha
 have ky:=wr rel hk
 have lx:xs.length=kss.length:=by
  have:=ug ky
  simpa using this
 obtain⟨its,hits⟩: ∃its,its=xs.map λx=>Value.ref x.2.1:=⟨_,rfl⟩
 have li:its.length=kss.length:=by rw[hits,List.length_map,lx]
 have rv:Vals (xs.map λx=>V.ref x.2.1) its:=by rw[hits];exact sO xs
 have sz:es.size=its.length:=by rw[<-Array.length_toList,d4,List.length_map,li,lx]
 have raw:RawAt s.heap a es ep:=⟨o,d1,d2,d3⟩
 have gi: ∀i,i<kss.length-> ∃(b:Addr) (o:Obj) (ts:List Value) (n:Nat),its.getD i Value.none=.ref b/\s.heap.get? b=some o/\o.cls=.type "tuple"/\o.data=.seq ts.toArray n/\v0 ts (kss.getD i []):=λi hi=>by
  obtain⟨b,h1,h2⟩:=oW ky hi
  have r1:=kx rv i
  rw[h1] at r1;obtain⟨ts,r',⟨o,ho,hc,n,hd⟩,_⟩:=I.tuple (.inl (.inl h2))
  exact⟨b,o,ts,n,r1,ho,hc,hd,zr r'⟩
 have kt: ∀(g:Heap),(∀c o,s.heap.get? c=some o->g.get? c=some o)-> ∀(l:List Value) (ms:List (List Int)),l.length=ms.length->(∀i,i<ms.length-> ∃(b:Addr) (o:Obj) (ts:List Value) (n:Nat),l.getD i Value.none=.ref b/\s.heap.get? b=some o/\o.cls=.type "tuple"/\o.data=.seq ts.toArray n/\v0 ts (ms.getD i []))->(∀k∈ms,k≠[])->
  ∃fs,KatTups g l fs/\fs.length=l.length/\ ∀v∈fs,∃i t,v=Value.int i t:=by
  intro g kg l
  induction l with
  |nil=>intro ms _ _ _;exact⟨[],.nil,rfl,λ_ h=>nomatch h⟩
  |cons v l ih=>
   intro ms hl hg hk;cases ms with
   |nil=>cases hl
   |cons m ms=>
    obtain⟨fs,f1,f2,f3⟩:=ih ms (by simpa using hl) (λi hi=>by simpa using hg (i+1) (by simpa using hi)) λk hk'=>hk k (by simp[hk'])
    obtain⟨b,o,ts,n,g1,g2,g3,g4,g5⟩:=hg 0 (by simp)
    simp[List.getD] at g1 g5;subst g1;cases m with
    |nil=>exact absurd rfl (hk [] (by simp))
    |cons x xs=>
     cases g5 with
     |cons y1 y2=>
      obtain⟨t,rfl⟩:=y1
      refine⟨_,KatTups.cons (kg _ _ g2) g3 g4 (by simp;rfl) f1,by simp[f2],λv hv=>?_⟩
      rcases List.mem_cons.mp hv with rfl|hv
      ·exact⟨_,_,rfl⟩
      ·exact f3 v hv
 refine rg (us:=its) (G:=λix=>(∀i∈ix,i<kss.length)/\ix.map (λi=>kss.getD i [])=bT cL kss) (sz▸yc (es:=es) (ep:=ep) lo) (λi v hi hv=>?_) (I.ok.hd hc) raw (by omega) (λfew=>⟨λi hi=>?_,?_⟩) (λh2 g tk kg=>?_) (λg tk p e ix kg hp hG hg=>?_)
 ·obtain⟨e,h1,rfl⟩:=hv
  rw[<-Array.getElem?_toList,d4,List.getElem?_map] at h1;obtain⟨x,h2,rfl⟩:=Option.map_eq_some_iff.mp h1
  rw[hits,List.getElem?_map,h2];rfl
 ·rw[List.mem_range] at hi;omega
 ·rw[li,gU,jK (by omega)]
 ·obtain⟨fs,f1,f2,f3⟩:=kt g kg its kss li gi hne
  refine kat_kind (T:=.type "int") f1 (by omega) (λv hv=>?_) (by rfl) ⟨rfl,?_⟩
  ·obtain⟨i,t,rfl⟩:=f3 v hv;exact Looks.now
  ·rw[li]
   refine tm (b:=λi j=>cL (kss.getD i []) (kss.getD j [])) (zv As _) (by omega) (λi j C hi hj hC=>?_) λp P S=>⟨rfl,?_,?_⟩
   ·obtain⟨b1,o1,ts1,n1,x1,x2,x3,x4,x5⟩:=gi i hi
    obtain⟨b2,o2,ts2,n2,y1,y2,y3,y4,y5⟩:=gi j hj
    unfold kas_ask;rw[x1,y1];refine kat_lt (kg _ _ x2) x4 (kg _ _ y2) y4 ?_
    refine ud 0 x5 y5 ?_ hC
    have z1:=Paired.length x5
    have z2:=Paired.length y5
    simp[z1,z2]
   ·intro i hi
    have:=P.perm.mem_iff.mp (Array.mem_toList_iff.mp hi)
    simpa using this
   ·exact kJ As P S
 ·have kp:=pV ky ix hG.1
  rw[hG.2] at kp;have ll:(bT cL kss).length=kss.length:=(gr (lt:=cL) kss).length_eq
  refine⟨.ref p,_,I.laid (t':=tk) kg hp (show ObjOk X.prog X.w _ g _ (.lst (ix.map λi=>(xs.map λx=>V.ref x.2.1).getD i .non)) from⟨?_,_,e,kc rv ix,hg⟩),rfl,q _ _ (I.hok.fresh hp) kp⟩
  rw[ug kp,ll,sizeLine_eq];omega
def intKs:List (List bn×D)->Option (List (List Int))
 | []=>some []
 |(k,_)::r=>(intK k).bind λns=>(intKs r).map (ns:: ·)
where intK:List bn->Option (List Int)
 | []=>some []
 | .inl i::r=>(intK r).map (i:: ·)
 |_=>none
theorem tO: ∀ {k:List bn} {ns:List Int},intKs.intK k=some ns->k=iK ns
 | [],_,h=>by cases h;rfl
 | .inl i::r,ns,h=>by
   have h:(intKs.intK r).map (i:: ·)=some ns:=h
   obtain⟨t,e,rfl⟩:=Option.map_eq_some_iff.mp h
   rw[tO e];rfl
 | .inr _::_,_,h=>by cases h
theorem qN: ∀ {kvs:List (List bn×D)} {kss:List (List Int)},intKs kvs=some kss->kvs.map (·.1)=kss.map iK
 | [],_,h=>by cases h;rfl
 |(k,d)::r,kss,h=>by
  have h:((intKs.intK k).bind λns=>(intKs r).map (ns:: ·))=some kss:=h
  obtain⟨ns,e1,h⟩:=Option.bind_eq_some_iff.mp h
  obtain⟨t,e,rfl⟩:=Option.map_eq_some_iff.mp h
  rw[List.map_cons,List.map_cons,qN e,<-tO e1]
theorem qf {K:W.Frag}{H:Hp}{hid:bj}(ht: ∀b xs,hid b=true->H b≠some (.tup xs)): ∀ {ys:List V} {kss:List (List Int)},Bf H ys kss->Reps K (vw H hid) ys (kss.map jE)
 |_,[],h=>by cases h;exact .nil
 |_,ks::kss,h=>by
  cases h with
  |cons h1 h2=>
   obtain⟨b,rfl,hb⟩:=h1
   refine .cons (.tup (.inl (.inl (vw_some.mpr ⟨?_,hb⟩))) (nv ks)) (qf ht h2)
   cases e:hid b with
   |false=>rfl
   |true=>exact absurd hb (ht b _ e)
def sY(i:Nat):FE:=λρ=>(gF i ρ).bind λkvs=>(intKs kvs).bind λkss=>if kss.length<64/\ ∀k∈kss,k≠[] then some (.lst ((bT cL kss).map jE)) else none
theorem vG {c:Ct}{pos p py:Pos}{y:Str}(i:Nat)(hcm:X.calm=true)(hm:X.mg "sorted"=none)(hN:X.N[i]? =some y:=by rfl)(hv':kR X.env.scope y:=by first|exact Or.inl rfl|exact Or.inr (Or.inl rfl)|exact Or.inr (Or.inr rfl))(hd:(y==("__debug__":Str))=false:=by decide)
 (hcd:(y==("__classdict__":Str))=false:=by decide) (hg:Gl X "sorted":=by rfl) (hv:bootBuiltins "sorted"=some (.builtin "sorted"):=by kernel_rfl)
 (he:starEach [.Name y py] X.env=(false,eval (.Name y py) X.env)::starEach [] X.env:=by rfl) (hpl:(backTo pos (starEach [] X.env)).any (·.1)=false:=by rfl):DP X c .n (.Call (.Name "sorted" p) [.Name y py] [] pos) (sY i):=λhid ρ=>
 PE.imp (mK (oJ hcm) hg hm hv (bw (pv i hN hv' hd hcd) ee he) (by decide) (by decide) he hpl) λσ H Q hq_=>by
  obtain⟨sr,d,hd,q⟩:=hq_
  obtain⟨kvs,e0,hd⟩:=Option.bind_eq_some_iff.mp hd
  obtain⟨kss,e1,hd⟩:=Option.bind_eq_some_iff.mp hd
  split at hd
  ·rename_i hz
   cases hd
   obtain⟨a,us,a1,a2,a3,a4,a5⟩:=sr.dictT e0
   refine⟨.ref a,a1,a,us,kss,rfl,a4,by rw[a5.1];exact qN e1,hz.1,hz.2,λl ys hl hy=>q _ _ (aY hl _) (ma hl (Same.refl _) (qf sr.ht hy))⟩
  ·cases hd
end
abbrev iY:=List (List bn×D)
structure Two(K:W.Frag)(H0 H':Hp)(hid:bj)(v:V)(t a b:Addr)(us ws:List (List bn×V))(p q:iY):Prop where
 ev:v=.ref t
 ht:H' t=some (.tup [.ref a,.ref b])
 na:H0 a=none
 nb:H0 b=none
 ne:a≠b
 ha:H' a=some (.dT us)
 hb:H' b=some (.dT ws)
 ra:KRt K (vw H' (be (be hid a) b)) us p
 rb:KRt K (vw H' (be (be hid a) b)) ws q
def wE(K:W.Frag)(n:Nat)(M:List D->Option (iY×iY)):Sp:=λvs H Q _=> ∃hid ds,zB hid H/\Reps K (vw H hid) vs ds/\ds.length=n/\ ∃p q,M ds=some (p,q)/\ ∀v t a b us ws H',Same H H'->Two K H H' hid v t a b us ws p q->Q v H'
def xx(n i j:Nat)(t:FS):List D->Option (iY×iY):=λds=>match t (gA n ds) with
 | .nx ρ=>(gF i ρ).bind λp=>(gF j ρ).map λq=>(p,q)
 |_=>none
def CT(X:Cx)(c:Ct)(i j:Nat)(st:List Stmt)(t:FS):Prop:= ∀ρ,PSs X st (λD σ H=> ∃hid,SR X.K c hid ρ σ H/\ ∃ρ' p q,t ρ=.nx ρ'/\gF i ρ'=some p/\gF j ρ'=some q/\
 ∀v t a b us ws H',(∀b o,c.H₀ b=some o->c.mu b=false->H' b=some o)->Two X.K c.H₀ H' c.hid₀ v t a b us ws p q->D.rt v H')
section
variable {X:Cx}{c:Ct}{i j:Nat}{st:Stmt}{rest:List Stmt}{t u:FS}{pos px py pt:Pos}{x y:Str}{x1:_}
theorem jz {k:Kd}(h1:DS X c k st t)(h2:CT X c i j rest u):CT X c i j (st::rest) (ay t u):=λρ=>
 PSs.imp (ic (h1 ρ) (lV λρ1=>h2 ρ1)) λD σ H hq_=>by
  obtain⟨hid,sr,ρ',p,q,e,e1,e2,z⟩:=hq_
  refine⟨hid,sr,?_⟩
  unfold ay at e;cases e0:t ρ with
  |nx ρ1=>rw[e0] at e;exact λσ1 H1 hid1 sr1 v1=>⟨ρ1,hid1,sr1,ρ',p,q,e,e1,e2,z⟩
  |rt d ρ1=>rw[e0] at e;cases e
  |bk ρ1=>rw[e0] at e;cases e
  |ct ρ1=>rw[e0] at e;cases e
  |no=>rw[e0] at e;cases e
theorem zL(i j:Nat)(hij:i≠j)(hN:X.N[i]? =some x:=by rfl)(hN':X.N[j]? =some y:=by rfl)(hv:kR X.env.scope x:=by first|exact Or.inl rfl|exact Or.inr (Or.inl rfl)|exact Or.inr (Or.inr rfl))(hv':kR X.env.scope y:=by first|exact Or.inl rfl|exact Or.inr (Or.inl rfl)|exact Or.inr (Or.inr rfl))
 (hd:(x==("__debug__":Str))=false:=by decide) (hcd:(x==("__classdict__":Str))=false:=by decide) (hd':(y==("__debug__":Str))=false:=by decide) (hcd':(y==("__classdict__":Str))=false:=by decide)
 (hs:starEach [.Name x px,.Name y py] X.env=(false,eval (.Name x px) X.env)::starEach [.Name y py] X.env:=by rfl) (hs':starEach [.Name y py] X.env=(false,eval (.Name y py) X.env)::starEach [] X.env:=by rfl):
 CT X c i j [.Return (some (.Tuple [.Name x px,.Name y py] x1 pt)) pos] skip:=λρ=>
 PSs.imp (oN (rS (oS (bw (pv i hN hv hd hcd) (bw (pv j hN' hv' hd' hcd') ee hs') hs)))) λD σ H hq_=>by
  obtain⟨hid,sr,ρ',p,q,e,e1,e2,z⟩:=hq_
  cases e
  obtain⟨a,us,a1,a2,a3,a4,a5⟩:=sr.dictT e1
  obtain⟨b,ws,b1,b2,b3,b4,b5⟩:=sr.dictT e2
  have ne:a≠b:=λw=>by
   subst w;exact sr.ap i j a hij (by rw[fN e1];trivial) (by rw[fN e2];trivial) a1 b1
  refine⟨_,a1,_,b1,by show 2<=sizeLine;rw[sizeLine_eq];omega,λl hl=>?_⟩
  have sm:=aY hl (.tup [.ref a,.ref b])
  have le:Same (vw H hid) (vw (bq H l (.tup [.ref a,.ref b])) (be (be c.hid₀ a) b)):=by
   refine Same.trans (aK sm) (cu λd w=>?_)
   unfold be at w
   by_cases d1:d=b
   ·subst d1;exact b2
   ·by_cases d2:d=a
    ·subst d2;exact a2
    ·exact sr.h0 d (by simpa [d1,d2] using w)
  exact z _ l a b us ws _ (λd o w m=>sm _ _ (sr.kp d o w m)) ⟨rfl,aI,a3,b3,ne,sm _ _ a4,sm _ _ b4,⟨a5.1,a5.2.mono le⟩,⟨b5.1,b5.2.mono le⟩⟩
end
section
variable {P:Program}{w:World}{K:W.Frag}{mg:Str->Option Value}{base:Heap}{x:Str}{st:Stmt}{N ps:List Str}{k n i j:Nat}{t:FS}
theorem Af(F:Df K mg x st ps)(S:FnScope N ps (aj st))(hn:ps.length=n)
 (body: ∀(f:Addr) (cdv:Value) (A:Around) (outer:List Env) (s:Shared) (H:Hp) (hid:bj) (E:XK),Room k (A.deeper (envOfC x (aj st) s.heap.objs.size f cdv))->
   CT (kE mY P w K mg base N x (aj st) f cdv A outer s H E).nox ⟨H,hid,λ_=>false⟩ i j (aJ st) t):
 Cl P w K mg base (k+1) x ps (wE K n (xx N.length i j t)):=by
 obtain⟨f,fd,F,hm,hb⟩:=F.ex
 subst hn;refine⟨f,fd,F.ok S (λvs H Q E h=>?_) (λcdv A outer s H vs Q E hr h=>?_),hm,F.kp,hb⟩
 ·obtain⟨hid,ds,_,r,hl,_⟩:=h
  rw[r.length,hl]
 ·obtain⟨hid,ds,tr,r,hl,p,q,hP,z⟩:=h
  unfold xx at hP;cases e:t (gA N.length ds) with
  |nx ρ=>
   rw[e] at hP;obtain⟨p',e1,hP⟩:=Option.bind_eq_some_iff.mp hP
   obtain⟨q',e2,hP⟩:=Option.map_eq_some_iff.mp hP
   cases hP
   exact⟨_,body f cdv A outer s H hid E hr (gA N.length ds),hid,SR.begins tr r,ρ,p,q,e,e1,e2,λv t a b us ws H' kp T=>z v t a b us ws H' (λb o y=>kp b o y rfl) T⟩
  |rt d ρ=>rw[e] at hP;cases hP
  |bk ρ=>rw[e] at hP;cases hP
  |ct ρ=>rw[e] at hP;cases hP
  |no=>rw[e] at hP;cases hP
end
section
variable {X:Cx}{c:Ct}{k:Kd}{e:Expr}{es:List Expr}{pos p px py pt pc:Pos}{x y z:Str}{ps:List Str}{n l:Nat}{x1:_}
def qb(i j n:Nat)(M:List D->Option (iY×iY))(fs:FA):FS:=λρ=>match fs ρ with
 |some ds=>if ds.length=n then(match M ds with
  |some (p,q)=>.nx ((ρ.set i (.ob (.dT p))).set j (.ob (.dT q)))
  |none=>.no) else .no
 |none=>.no
theorem AU(i j:Nat)(hij:i≠j){M:List D->Option (iY×iY)}{fs:FA}(hc:X.calm=true)(hn:X.N.Nodup)(C:Cl X.prog X.w X.K X.mg X.base l z ps (wE X.K n M))(hr:Room l X.A)(ha:DA X c (e::es) fs)
 (hN:X.N[i]? =some x:=by rfl) (hN':X.N[j]? =some y:=by rfl) (hx:tN X.env.scope x:=by first|exact Or.inl rfl|exact Or.inr rfl) (hy:tN X.env.scope y:=by first|exact Or.inl rfl|exact Or.inr rfl)
 (hf:X.fn x=true\/X.env.scope.names.lookup x=some .local:=by first|exact .inl rfl|exact .inr rfl|assumption) (hf':X.fn y=true\/X.env.scope.names.lookup y=some .local:=by first|exact .inl rfl|exact .inr rfl|assumption)
 (hg:Gl X z:=by rfl) (hdb:(z==("__debug__":Str))=false:=by decide) (he:starEach (e::es) X.env=(false,eval e X.env)::starEach es X.env:=by rfl) (hpl:(backTo pc (starEach es X.env)).any (·.1)=false:=by rfl)
 (hs:swapsWithSole [.Tuple [.Name x px,.Name y py] x1 pt] (.Call (.Name z p) (e::es) [] pc) pos.line X.env=pure false:=by rfl) (hw:swappedStores [.Tuple [.Name x px,.Name y py] x1 pt] (.Call (.Name z p) (e::es) [] pc) X.env=pure none:=by rfl)
 (h1:(assignEach [.Tuple [.Name x px,.Name y py] x1 pt] X.env).map (·.2)=[assign (.Tuple [.Name x px,.Name y py] x1 pt) X.env]:=by rfl)
 (h2:(assignEach [.Name x px,.Name y py] X.env).length=2:=by rfl) (h3:(assignEach [.Name x px,.Name y py] X.env).findIdx? (·.1)=none:=by rfl)
 (h4:(assignEach [.Name x px,.Name y py] X.env).map (·.2)=assign (.Name x px) X.env::(assignEach [.Name y py] X.env).map (·.2):=by rfl) (h5:(assignEach [.Name y py] X.env).map (·.2)=assign (.Name y py) X.env::(assignEach [] X.env).map (·.2):=by rfl):
 DS X c k (.Assign [.Tuple [.Name x px,.Name y py] x1 pt] (.Call (.Name z p) (e::es) [] pc) pos) (qb i j n M fs):=λρ=>by
 obtain⟨f,fd,F,hm,hk,hb⟩:=C.ex
 refine PS.imp (sx (jF F hr hg hm hk hb .nil (pM (X:=X)) (Ad λhid=>ha hid ρ) hdb he hpl) (rP hc (jM (lD hn hN hx hf) (jM (lD hn hN' hy hf') oP h5) h4) h2 h3) hs hw h1) λD σ H hq_=>?_
 obtain⟨hid,sr,q⟩:=hq_
 unfold qb at q;split at q
 ·rename_i ds e0
  split at q
  ·rename_i hl
   split at q
   ·rename_i kp kq e2
    refine⟨hid,sr,ds,e0,λvs H1 s1 r1=>?_⟩
    show wE X.K n M (vs++[]) H1 _ E0;rw[List.append_nil];refine⟨hid,ds,(sr.ext s1).trk,r1,hl,kp,kq,e2,λv t a b us ws H' sm T=>?_⟩
    obtain⟨rfl,ht,na,nb,ne,hha,hhb,ra,rb⟩:=T
    refine⟨t,[.ref a,.ref b],rfl,.inl (.inl ht),rfl,.ref a,[.ref b],rfl,.ref b,[],rfl,rfl,?_⟩
    have sr1:=sr.ext s1
    have fa:=sr1.fresh na
    have fb:=sr1.fresh nb
    have s2:Same H1 (λd=>if d=b then none else H' d):=λd o w=>by
     have:d≠b:=aO w nb
     show(if d=b then none else H' d)=some o
     rw[if_neg this];exact sm _ _ w
    have s3:Same (λd=>if d=b then none else H' d) H':=λd o w=>by
     have w:(if d=b then none else H' d)=some o:=w
     split at w
     ·cases w
     ·exact w
    have sr2:=sr1.hide s2 na (o:=.dT us) (by show(if a=b then none else H' a)=_;rw[if_neg ne];exact hha)
    have sr3:=sr2.hide s3 (a:=b) (o:=.dT ws) (by show(if b=b then none else H' b)=_;rw[if_pos rfl]) hhb
    have h0a:c.H₀ a=none:=sr1.fresh0 na
    have h0b:c.H₀ b=none:=sr1.fresh0 nb
    have sr4:=SR.setD (a:=a) (b:=.dT kp) sr3 ⟨⟨cC dW,h0a⟩,us,hha,ra.1,ra.2⟩ (sr1.notOw fa) i
    have sr5:=SR.setD (a:=b) (b:=.dT kq) sr4 ⟨⟨dW,h0b⟩,ws,hhb,rb.1,rb.2⟩ (λm o w=>by
     by_cases em:m=i
     ·subst em
      by_cases lt:m<σ.length
      ·rw[List.getElem?_set_self lt] at w;cases w;exact ne rfl
      ·rw[List.getElem?_eq_none (by simpa using lt)] at w;cases w
     ·rw[List.getElem?_set_ne (Ne.symm em)] at w o
      exact sr1.notOw fb m o w) j
    refine q _ H' _ sr5 λd o w=>?_
    obtain⟨w1,w2⟩:=vw_some.mp w
    have w3:=s1 _ _ w2
    refine vw_some.mpr ⟨?_,sm _ _ w3⟩
    unfold be;have d1:d≠a:=aO w3 na
    have d2:d≠b:=aO w3 nb
    rw[w1];simp[d1,d2]
   ·exact q.elim
  ·exact q.elim
 ·exact q.elim
end
set_option maxHeartbeats 4000000
section
variable {X:Cx}{ab:List (Addr×Obj)}{σ:St}{H:Hp}{s:Shared}{a b:Addr}{A:Around}{E:Value->Shared->Prop}
theorem Ax {kvs:List (List bn×V)}{k:List bn}{v:V}{Q:Value->Shared->Prop}(hu:A.units+1<cLine)(I:Inv X ab σ H s)(e:Rd H a (.dT kvs))(eb:SqT X.K H b (k.map kV))(l:gy kvs k=some v)
 (h: ∀w' s',Inv X ab σ H s'->RelV v w'->Q w' s'):wpAny (model X.prog X.w) A (getItem (.ref a) (.ref b)) Q E s:=by
 obtain⟨z,hd,xs,rel,dd⟩:=tQ I.hok e
 obtain⟨w',hw,rw'⟩:=RelO.some_of (v:=v) (o:=(atKey xs k).map (·.2)) (by rw[<-l];exact rel.val k)
 obtain⟨p,hp,hp2⟩:=Option.map_eq_some_iff.mp hw
 refine wpAny_getItem_heap (tupleKind_room_in1 hu) (pe I eb) dd hp ?_
 rw[hp2];exact h w' _ (I.tok _) rw'
end
section
variable {X:Cx}{o i:Expr}{pos:Pos}{td ty:TE}
def Dc(K:W.Frag)(td ty:TE):TE:=λσ H Q=>td σ H λx H1=>ty σ H1 λy H2=> ∃a b kvs k v,x=.ref a/\y=.ref b/\Rd H2 a (.dT kvs)/\SqT K H2 b (k.map kV)/\gy kvs k=some v/\Q v H2
theorem Ab(hu:X.A.units+1<cLine)(ho:PE X o td)(hi:PE X i ty)(hs:vm i):PE X (.Subscript o i pos) (Dc X.K td ty):=by
 intro ab s σ H Q I h;refine tY PySem.F.slot_dict_getitem.lookup hs (bM (ho ab s σ H _ I h) λu s1 ⟨x,H1,I1,rx,q1⟩=>bM (hi ab s1 σ H1 _ I1 q1) λiv s2 hq_=>?_)
 obtain⟨y,H2,I2,ry,a,b,kvs,k,v,ex,ey,g1,g2,g3,q2⟩:=hq_
 subst ex ey;obtain rfl:u=Value.ref a:=rx
 obtain rfl:iv=Value.ref b:=ry
 refine⟨?_,Ax hu I2 g1 g2 g3 λw' s3 I3 rw'=>⟨v,H2,I3,rw',q2⟩⟩
 obtain⟨_,_,xs,_,dd⟩:=tQ I2.hok g1
 exact dd.typeIs
end
section
variable {X:Cx}{c:Ct}{k k1 k2:Kd}{e f ev:Expr}{es:List Expr}{fe ff fk fv:FE}{fs:FA}{pos pos' py apos cpos p:Pos}{x y:Str}{x1:_}{tg:Expr}
def EI(K:W.Frag)(c:Ct)(hid:bj)(fk:aC->Option (List Int))(ρ:aC):TE:=λσ H Q=>SR K c hid ρ σ H/\ ∃ns,fk ρ=some ns/\ ∀b H',Same H H'->H' b=some (.tup (ns.map V.int))->Q (.ref b) H'
def DK(X:Cx)(c:Ct)(e:Expr)(fk:aC->Option (List Int)):Prop:= ∀hid ρ,PE X e (EI X.K c hid fk ρ)
theorem tK {K:W.Frag}{F:Hp}: ∀ {xs:List V} {ns:List Int},Reps K F xs (ns.map D.int)->xs=ns.map V.int
 |_,[],h=>by cases h;rfl
 |_,n::ns,h=>by
  cases h with
  |cons r rs=>cases r;rw[tK rs];rfl
def pH(i:Nat)(fk:aC->Option (List Int))(fv:FE):FS:=λρ=>match gF i ρ with
 |some kvs=>(match fv ρ with
  |some d=>(match fk ρ with
   |some ns=>if kvs.length<=1000 then .nx (ρ.set i (.ob (.dT (pG kvs (iK ns) d)))) else .no
   |none=>.no)
  |none=>.no)
 |none=>.no
theorem wb(i:Nat)(hu:X.A.units+1<cLine){fk:aC->Option (List Int)}(hk:DK X c e fk)(hv:DP X c .s ev fv)(hN:X.N[i]? =some y:=by rfl)(hv':kR X.env.scope y:=by first|exact Or.inl rfl|exact Or.inr (Or.inl rfl)|exact Or.inr (Or.inr rfl))(hd:(y==("__debug__":Str))=false:=by decide)
 (hcd:(y==("__classdict__":Str))=false:=by decide) (hs:swapsWith ev (some (.Subscript (.Name y py) e pos')) pos.line X.env=pure false:=by rfl):
 DS X c k (.Assign [.Subscript (.Name y py) e pos'] ev pos) (pH i fk fv):=λρ=>PS.imp (tG hu (pv i hN hv' hd hcd) (km λhid=>hk hid ρ) (km λhid=>hv hid ρ) hs) λD σ H hq_=>by
 obtain⟨hid,sr,q⟩:=hq_
 unfold pH at q;split at q
 ·rename_i kvs e0
  split at q
  ·rename_i d e1
   split at q
   ·rename_i ns e2
    split at q
    ·rename_i hz
     obtain⟨a,us,a1,a2,a3,a4,a5⟩:=sr.dictT e0
     refine⟨hid,sr,d,e1,λv H1 s1 r1=>⟨.ref a,a1,hid,sr.ext s1,ns,e2,λb H2 s2 hb=>?_⟩⟩
     have s13:=s1.trans s2
     have hb':H2 b=some (.tup ((iK ns).map kV)):=by rw[hb];unfold iK;rw[List.map_map];rfl
     refine⟨a,_,rfl,DPut.t (k:=iK ns) (s13 _ _ a4) hb' (by rw[a5.len];exact Nat.lt_of_le_of_lt hz (by decide)),?_⟩
     have r1':Rep X.K (vw H1 hid) v d:=r1
     refine q _ _ hid ((sr.ext s13).putDT e0 a1 (KRt.put (iK ns) (r1'.mono (aK s2)) ⟨a5.1,a5.2.mono (aK s13)⟩)) ?_
     rw[dG a2];exact aK s13
    ·exact q.elim
   ·exact q.elim
  ·exact q.elim
 ·exact q.elim
end
section
variable {K:W.Frag}{c:Ct}{hid:bj}{ρ:aC}{σ:St}{H:Hp}{a x:Addr}
theorem nh {b:Addr}(h:gI hid x b=true):hid b=true/\b≠x:=by
 unfold gI at h;rw[Bool.and_eq_true] at h;exact⟨h.1,by simpa using h.2⟩
theorem jJ {b:Addr}(n:b≠x):gI hid x b=hid b:=by unfold gI;simp[n]
theorem n5 {u':HO}(hh:hid x=true):Same (vw H hid) (vw (bq H x u') (gI hid x)):=λb o q=>by
 obtain⟨q1,q2⟩:=vw_some.mp q
 have n:b≠x:=λe=>by subst e;rw[hh] at q1;cases q1
 exact vw_some.mpr ⟨by rw[jJ n];exact q1,by rw[aB n];exact q2⟩
theorem Cd {u':HO}:vw (bq H x u') (gI hid x) x=some u':=vw_some.mpr ⟨by unfold gI;simp,aI⟩
theorem SR.reveal {u':HO}(h:SR K c hid ρ σ H)(hh:hid x=true)(h0:c.H₀ x=none)(no: ∀(i:Nat) a',Ow ρ[i]? ->σ[i]? =some (some (.ref a'))-> ¬At H a' x):SR K c (gI hid x) ρ σ (bq H x u'):=by
 have sm:Same (vw H hid) (vw (bq H x u') (gI hid x)):=n5 hh
 have n0: ∀b o,c.H₀ b=some o->b≠x:=λb o q e=>by subst e;rw[h0] at q;cases q
 have ne: ∀(i:Nat) (s:Sl) (a' y:Addr),ρ[i]? =some s->Ow (some s)->σ[i]? =some (some (.ref a'))->At H a' y->y≠x:=λi s a' y e o q hy z=>by
  subst z;exact no i a' (by rw[e];exact o) q hy
 refine⟨λb hb=>?_,λb xs hb=>?_,λb hb=>?_,λb o q m=>by rw[aB (n0 b o q)];exact h.kp b o q m,λb o q=>by rw[aB (n0 b o q)];exact h.t0 b o q,h.c0,h.m0,h.len,λi s e=>?_,h.ap⟩
 ·obtain⟨h1,h2⟩:=nh hb
  rw[aB h2];exact h.tr b h1
 ·obtain⟨h1,h2⟩:=nh hb
  rw[aB h2];exact h.ht b xs h1
 ·obtain⟨o,q⟩:=h.c0 b hb
  rw[jJ (n0 b o q)];exact h.h0 b hb
 ·have z:=h.sl i s e
  cases s with
  |no=>trivial
  |v d=>obtain⟨x,h1,h2⟩:=z;exact⟨x,h1,h2.mono sm⟩
  |own ds=>
   obtain⟨a',xs,h1,h2,h3,h4,h5⟩:=z
   have n:=ne i _ a' a' e trivial h1 (.inl rfl)
   exact⟨a',xs,h1,by rw[aB n];exact h2,by rw[jJ n];exact h3,h4,h5.mono sm⟩
  |arg ds=>
   obtain⟨a',xs,h1,h2,h3,h4,h5⟩:=z
   have n:=ne i _ a' a' e trivial h1 (.inl rfl)
   exact⟨a',xs,h1,by rw[aB n];exact h2,by rw[jJ n];exact h3,h4,h5.mono sm⟩
  |ob b=>
   obtain⟨a',h1,h2⟩:=z
   exact⟨a',h1,h2.mono (λow y hy o q=>by rw[aB (ne i _ a' y e ow h1 hy)];exact q) sm λow y hy q=>by rw[jJ (ne i _ a' y e ow h1 hy)];exact q⟩
theorem SR.mark {i:Nat}{s:Sl}(h:SR K c hid ρ σ H)(hs:SlOk K c hid σ H i s)(no: ¬Ow (some s)):SR K c hid (ρ.set i s) σ H:=by
 have ow: ∀j:Nat,Ow (ρ.set i s)[j]? ->Ow ρ[j]? :=λj o=>by
  by_cases e:j=i
  ·subst e
   by_cases lt:j<ρ.length
   ·rw[List.getElem?_set_self lt] at o;exact absurd o no
   ·rw[List.getElem?_eq_none (by simpa using lt)] at o;exact o.elim
  ·rw[List.getElem?_set_ne (Ne.symm e)] at o;exact o
 refine⟨h.tr,h.ht,h.h0,h.kp,h.t0,h.c0,h.m0,by simp[h.len],λj s' e=>?_,λj l z n o1 o2=>h.ap j l z n (ow j o1) (ow l o2)⟩
 by_cases ej:j=i
 ·subst ej
  have lt:j<ρ.length:=by
   have:=(List.getElem?_eq_some_iff.mp e).1
   simpa using this
  rw[List.getElem?_set_self lt] at e;cases e
  exact hs
 ·rw[List.getElem?_set_ne (Ne.symm ej)] at e
  exact h.sl j s' e
end
section
variable {X:Cx}{c:Ct}{k:Kd}{st:Stmt}{t:FS}
theorem set_set {ρ:aC}{i:Nat}{a b:Sl}:(ρ.set i a).set i b=ρ.set i b:=by simp
end
end L2
namespace PySem
open PySem PySem.Spec PyProof.Rows
section
variable {prog:Program}{w:World}{A:Around}{E:Value->Shared->Prop}{s:Shared}
theorem m5 {l:Addr}{us:Array Value}{n:Nat}{Q:Value->Shared->Prop}(ho:s.heap.get? l=some {cls:=.type "list",data:=.seq us n})
 (h: ∀g,IsEnum g (s.heap.objs.size+1) s.heap.objs.size 0 .none->g.IsListIter s.heap.objs.size l 0->g.objs.size=s.heap.objs.size+2->(∀b o,s.heap.get? b=some o->g.get? b=some o)->Q (.ref (s.heap.objs.size+1)) {s with heap:=g}):
 wpAny (model prog w) A (call (.type "enumerate") [.ref l]) Q E s:=by
 refine callType_new F.called_enumerate (by decide) (F.typeCall_enumerate_1 _) (F.newCall_enumerate_1 _) (λobj=>F.args_object_init_2 obj _) F.entry_enumerate_new (meets_enumerate_new l us n) ⟨ho,?_⟩
 have hz:(s.heap.push {cls:=.type "list_iterator",data:=.fields #[.ref l,.int 0 0]}).objs.size=s.heap.objs.size+1:=Heap.size_push ..
 show _/\_;rw[hz];have he:IsEnum ((s.heap.push {cls:=.type "list_iterator",data:=.fields #[.ref l,.int 0 0]}).push {cls:=.type "enumerate",data:=.fields #[.none,.bool false,.ref s.heap.objs.size,rawInt 0,.none,.none]}) (s.heap.objs.size+1) s.heap.objs.size 0 .none:=by
  have:=Heap.get?_push_size (s.heap.push {cls:=.type "list_iterator",data:=.fields #[.ref l,.int 0 0]}) (o:={cls:=.type "enumerate",data:=.fields #[.none,.bool false,.ref s.heap.objs.size,rawInt 0,.none,.none]}) rfl
  rw[hz] at this;exact this
 exact⟨⟨_,he,rfl⟩,h _ he ⟨_,Heap.get?_push_of_some _ (Heap.get?_push_size _ rfl),rfl,rfl⟩ (by rw[Heap.size_push,hz]) λb o x=>Heap.get?_push_of_some _ (Heap.get?_push_of_some _ x)⟩
end
end PySem
namespace L2
open PySem PySem.Spec PyProof.Rows
def Ef(K:W.Frag)(a:Addr):It:=
 ⟨λi H=> ∃xs x,SqL K H a xs/\xs[i]? =some x,λi H x H'=> ∃T,x=.ref T/\H T=none/\ ∀xs,SqL K H a xs-> ∃y,xs[i]? =some y/\H'=bq H T (.tup [.int i,y]),λi H=> ∃xs,SqL K H a xs/\xs.length<=i⟩
theorem so {P:Program}{w:World}{K:W.Frag}{es:List Expr}{x1}{pos:Pos}(a it e:Addr)(hei:e≠it):Turn P w K (.Tuple es x1 pos) (Ef K a) [e,it] e (λi h=>(∃old,IsEnum h e it i old)/\h.IsListIter it a i) where
 mem:=by simp
 obj:=λi h st b hb=>by
  obtain⟨⟨old,he⟩,o,ho,hc,hd⟩:=st
  rcases List.mem_cons.mp hb with rfl|hb
  ·exact⟨_,he,λv z=>by cases z⟩
  ·have:b=it:=by simpa using hb
   subst this;exact⟨o,ho,λv z=>by rw[hd] at z;cases z⟩
 keep:=λi h h' st k=>by
  obtain⟨⟨old,he⟩,hit⟩:=st
  exact⟨⟨old,k e (by simp) _ he⟩,hit.at λo x=>k it (by simp) o x⟩
 item:=by
  intro X hP hw hK hc i ab s σ H E I hf st hg;subst hP hw hK;obtain⟨xs,x,hq,hx⟩:=hg
  obtain⟨its,rv,p,hz⟩:=I.list hq
  obtain⟨u,hu,ru⟩:=rv.get hx
  obtain⟨⟨old,he⟩,hit⟩:=st
  obtain⟨e0,e1,e2,e3,e4,e5⟩:=hf e (by simp)
  obtain⟨f0,f1,f2,f3,f4,f5⟩:=hf it (by simp)
  have ht:=p.isList
  refine wpAny_pyNext_enum_item (x:=u) he hit ht (by simpa using hu) hei λg hout hit' hT hsz hk=>⟨_,rfl,?_⟩
  refine wpAny_letOwnedTupleGo_enum hout λg' he' hs'=>?_
  have elt:e<s.heap.objs.size:=Heap.lt_size he
  have k2: ∀b o,b≠e->b≠it->s.heap.get? b=some o->g'.get? b=some o:=λb o h1 h2 h3=>(hs'.2 b h1).trans (hk b o h1 h2 h3)
  have hT':g'.get? s.heap.objs.size=some {cls:=.type "tuple",data:=.seq #[.int i s.toks,u]}:=(hs'.2 _ (Nat.ne_of_gt elt)).trans hT
  have hn:H s.heap.objs.size=none:=I.hok.fresh (Nat.le_refl _)
  have I1:Inv X ab σ (bq H s.heap.objs.size (.tup [.int i,x])) {s with heap:=g',toks:=s.toks+1}:=by
   obtain⟨oi,hoi,hci,hdi⟩:=id (show g'.IsListIter it a (i+1) from hit'.at λo y=>(hs'.2 it (Ne.symm hei)).trans y)
   obtain⟨os0,hos0,_⟩:=id hit
   have ilt:it<s.heap.objs.size:=Heap.lt_size hos0
   have I0:Inv X ab σ (bq H s.heap.objs.size (.tup [.int i,x])) {s with heap:=s.heap.push {cls:=.type "tuple",data:=.seq #[.int i s.toks,u]},toks:=s.toks+1}:=
    I.laid (t':=s.toks+1) (λb o q=>Heap.get?_push_of_some _ q) (Nat.le_refl _) (show ObjOk X.prog X.w _ _ _ (.tup [.int i,x]) from
     ⟨Nat.le_of_lt (iC (by simp)),[.int i s.toks,u],.cons ⟨_,rfl⟩ (.cons ru .nil),⟨_,Heap.get?_push_size _ rfl,rfl,_,rfl⟩,_,Heap.get?_push_size _ rfl,rfl⟩)
   have u1:((s.heap.push {cls:=.type "tuple",data:=.seq #[.int i s.toks,u]}).update it λ_=>oi).get? it=some oi:=Heap.get?_update_self (λ_=>oi) (Heap.get?_push_of_some _ hos0) (Obj.isFreed_of_fields hdi)
   have I1:Inv X ab σ (bq H s.heap.objs.size (.tup [.int i,x])) {s with heap:=(s.heap.push {cls:=.type "tuple",data:=.seq #[.int i s.toks,u]}).update it λ_=>oi,toks:=s.toks+1}:=
    I0.turned (t':=s.toks+1) (λb o hb q=>(Heap.get?_update_other _ _ (Ne.symm hb)).trans q) (by rw[aB (Nat.ne_of_lt ilt)];exact f0) f1 f3 f4 f5
   refine I1.turned (t':=s.toks+1) (λb o hb q=>?_) (by rw[aB (Nat.ne_of_lt elt)];exact e0) e1 e3 e4 e5
   by_cases hbi:b=it
   ·subst hbi
    have q':((s.heap.push {cls:=.type "tuple",data:=.seq #[.int i s.toks,u]}).update b λ_=>oi).get? b=some o:=q
    rw[u1] at q';cases q';exact hoi
   ·have q':((s.heap.push {cls:=.type "tuple",data:=.seq #[.int i s.toks,u]}).update it λ_=>oi).get? b=some o:=q
    rw[Heap.get?_update_other _ _ (Ne.symm hbi)] at q'
    by_cases hbT:b=s.heap.objs.size
    ·subst hbT
     rw[Heap.get?_push_size _ rfl] at q';cases q'
     exact hT'
    ·rw[Heap.get?_push_ne _ _ _ hbT] at q'
     exact k2 b o hb hbi q'
  refine⟨.ref s.heap.objs.size,bq H s.heap.objs.size (.tup [.int i,x]),I1,rfl,⟨_,rfl,hn,λys hy=>⟨x,by rw[I.list_inj hy hq];exact hx,rfl⟩⟩,⟨⟨u,by simpa using he'⟩,hit'.at λo y=>(hs'.2 it (Ne.symm hei)).trans y⟩,λb hb=>?_⟩
  rcases List.mem_cons.mp hb with rfl|hb
  ·rw[aB (Nat.ne_of_lt elt)];exact e0
  ·have:b=it:=by simpa using hb
   subst this;obtain⟨o,ho,_⟩:=hit
   rw[aB (Nat.ne_of_lt (Heap.lt_size ho))];exact f0
 done:=by
  intro X hP hw hK hc i ab s σ H E I hf st hg;subst hP hw hK;obtain⟨xs,hq,hx⟩:=hg
  obtain⟨its,rv,p,hz⟩:=I.list hq
  obtain⟨⟨old,he⟩,hit⟩:=st
  obtain⟨f0,f1,f2,f3,f4,f5⟩:=hf it (by simp)
  have hl:=rv.length
  have hh:=I.ok.hd hc
  refine wpAny_pyNext_enum_end hh he hit p.isList (by simp;omega) λg k=>⟨rfl,I.turned (t':=s.toks) (λb o hb z=>k b o hb z) f0 f1 f3 f4 f5⟩
 self:=λ_ _ _ _ _ st h=>let⟨⟨_,he⟩,_⟩:=st;wpAny_pyIter_enum he h
section
variable {X:Cx}{c:Ct}{k:Kd}{es:List Expr}{x1:Nat}{tp pos p:Pos}
def pJ(f:FE):FA:=λρ=>(f ρ).bind λd=>match d with
 | .lst ds=>some (m8 ds)
 |_=>none
theorem sD {K:W.Frag}{W:Hp}{a:Addr}{xs:List V}{ds:List D}(h1:SqL K W a xs)(h2:Reps K W xs ds):ItOk K W (Ef K a) (m8 ds):=by
 have l:=h2.length
 have el:(m8 ds).length=ds.length:=by simp[m8]
 refine⟨λi d H e s=>?_,λH s=>⟨_,Same.seq s h1,by rw[el,<-l];exact Nat.le_refl _⟩⟩
 have hi:i<ds.length:=by rw[<-el];exact(List.getElem?_eq_some_iff.mp e).1
 have ex:xs[i]? =some xs[i]:=List.getElem?_eq_getElem (by omega)
 refine⟨⟨_,xs[i],Same.seq s h1,ex⟩,λy H' ⟨T,e2,hT,e3⟩=>?_⟩
 subst e2;obtain⟨z,e4,e5⟩:=e3 _ (Same.seq s h1)
 subst e5;refine⟨aY hT _,λhid tr sw=>?_⟩
 have hf:hid T=false:=by
  cases eh:hid T with
  |false=>rfl
  |true=>obtain⟨o,ho⟩:=tr T eh;rw[hT] at ho;cases ho
 obtain⟨d',e6,r6⟩:=h2.get' e4
 have ed:d=.tup [.int i,d']:=by
  unfold m8 at e;rw[List.getElem?_map,List.getElem?_range hi] at e;have:ds.getD i .non=d':=by simp[List.getD,e6]
  rw[Option.map_some,this] at e;exact(Option.some.inj e).symm
 rw[ed];exact mN hT hf (.cons .int (.cons (r6.mono sw) .nil))
theorem jZ {iter:Expr}{f:FE}(h:DP X c .s iter f)(hm:X.mg "enumerate"=none)(hg:Gl X "enumerate":=by rfl)(hs:starEach [iter] X.env=[(false,eval iter X.env)]:=by rfl):DIp X c (.Tuple es x1 tp) (.Call (.Name "enumerate" p) [iter] [] pos) (pJ f):=by
 intro hid ρ ab s σ H R I hq;obtain⟨sr,ds,hd,q⟩:=hq
 unfold pJ at hd;cases e1:f ρ with
 |none=>rw[e1] at hd;cases hd
 |some z=>
  rw[e1] at hd;cases z with
  |lst us=>
   cases hd
   refine Call_ (kh (u:=.type "enumerate") I hg hm (by kernel_rfl) (PyProof.Rows.callWith_type1 (bM (bw (h hid ρ) ee hs pos ab s σ H (λvs H'=> ∃v,vs=[v]/\Same H H'/\Rep X.K (vw H' hid) v (.lst us)) I ⟨sr,_,e1,λv H' s' r=>⟨v,rfl,s',r⟩⟩) λvs s1 ⟨ws,H1,I1,r1,w,e,s',r⟩=>?_) hs rfl))
   subst e;cases r1 with
   |cons ra rb=>
    cases rb
    cases r with
    |lst t1 t2=>
     cases ra
     have t1':SqL X.K (vw H1 hid) _ _:=SqL.of t1
     obtain⟨its,n,rv,pt,hz⟩:=I1.lst (dU _ _ _ _ t1)
     refine m5 pt λg he hit hsz hk=>?_
     refine wpAny_pyIter_enum he ⟨_,[s1.heap.objs.size+1,s1.heap.objs.size],_,_,H1,rfl,I1.kept (t':=s1.toks) λb o e=>hk b o e,so _ _ _ (Nat.ne_of_gt (Nat.lt_succ_self _)),⟨⟨_,he⟩,hit⟩,λb hb=>?_,q _ H1 s' (sD t1' t2)⟩
     rcases List.mem_cons.mp hb with rfl|hb
     ·exact I1.fpOk (Nat.le_succ _) (I1.hok.fresh (Nat.le_succ _))
     ·have:b=s1.heap.objs.size:=by simpa using hb
      subst this;exact I1.fpOk (Nat.le_refl _) (I1.hok.fresh (Nat.le_refl _))
  |_=>cases hd
end
set_option maxHeartbeats 1000000
open PySem PyProof.Rows
set_option maxHeartbeats 2000000
set_option maxHeartbeats 1000000
open PySem PySem.W PySem.Calls PyProof.Rows
open PySem PySem.W PyProof.Rows
open PySem PySem.W PyProof.Rows PySem.Builtin
set_option maxHeartbeats 3200000
set_option maxHeartbeats 1000000
section
variable {X:Cx}{c:Ct}{e:Expr}{f:FE}{k:Kd}{pos p2:Pos}{lo hi:Option Expr}{l u:FO}
def xq(f:FE)(l u:FO):aC->Option (List Int):=λρ=>(f ρ).bind λd=>match d with
 | .tup ds=>(l ρ).bind λlo=>(u ρ).bind λhi=>if vB ds lo hi=false then fY (AJ ds lo hi) else none
 |_=>none
theorem A4(he:DP X c k e f)(hl:DO X c lo l)(hu:DO X c hi u):DK X c (.Subscript e (.Slice lo hi none p2) pos) (xq f l u):=λhid ρ=>
 PE.imp (ve AQ (he hid ρ) (hl hid ρ) (hu hid ρ)) λσ H Q hq_=>by
  obtain⟨sr,ns,hd,q⟩:=hq_
  unfold xq at hd;obtain⟨z,e1,hd⟩:=Option.bind_eq_some_iff.mp hd
  cases z with
  |tup ds=>
   obtain⟨o1,e2,hd⟩:=Option.bind_eq_some_iff.mp hd
   obtain⟨o2,e3,hd⟩:=Option.bind_eq_some_iff.mp hd
   split at hd
   ·rename_i hw
    have e4:=iq hd
    refine⟨sr,_,e1,λv H1 s1 r1=>⟨sr.ext s1,o1,e2,λH2 s2=>⟨(sr.ext s1).ext s2,o2,e3,λH3 s3=>?_⟩⟩⟩
    obtain⟨a,xs,rfl,_,h1,h2⟩:=((RK.b k r1 λa n=>sr.fresh n).ext (s2.trans s3)).tup
    refine⟨a,xs,rfl,h1,λ⟨w1,w2⟩=>?_,λp hp=>q _ _ ((s1.trans (s2.trans s3)).trans (aY hp _)) ?_⟩
    ·rw[h2.length] at w1 w2
     unfold vB at hw;rw[w1,w2] at hw;simp at hw
    ·have rc:=wF h2 o1 o2
     rw[e4] at rc;rw[aI,tK rc]
   ·cases hd
  |_=>cases hd
end
def o0(i:Nat)(ρ:aC):Option iY:=match ρ[i]? with
 |some (.ob (.dQ kvs))=>some kvs
 |_=>none
theorem j0 {i:Nat}{ρ:aC}{kvs:iY}(h:o0 i ρ=some kvs):ρ[i]? =some (.ob (.dQ kvs)):=by
 unfold o0 at h;split at h
 ·cases h;assumption
 ·cases h
def Dk(i:Nat)(ρ:aC):Option aC:=(gF i ρ).map λkvs=>ρ.set i (.ob (.dQ kvs))
def xZ(i:Nat)(t:FS):FS:=λρ=>match Dk i ρ with
 |some ρ'=>t ρ'
 |none=>.no
section
variable {X:Cx}{c:Ct}{k k1 k2:Kd}{st:Stmt}{t:FS}
theorem A8(i:Nat)(h:DS X c k st t):DS X c k st (xZ i t):=λρ ab s σ H D I hq_=>by
 obtain⟨hid,sr,q⟩:=hq_
 unfold xZ at q;split at q
 ·rename_i ρ' e
  obtain⟨kvs,e0,rfl⟩:=Option.map_eq_some_iff.mp e
  obtain⟨a,us,a1,a2,a3,a4,a5⟩:=sr.dictT e0
  obtain⟨z,y,xs,r,o,es,ep,g1,g2⟩:=(show ObjOk X.prog X.w H s.heap a (.dT us) from I.hok a _ a4)
  have na: ∀b xs,H b=some (.tup xs)->b≠a:=λb xs w e=>by subst e;rw[a4] at w;cases w
  have new:ObjOk X.prog X.w (bq H a (.frz o (.dT us))) s.heap a (.frz o (.dT us)):=⟨g1,z,y,xs,Paired.mapP r λp q z=>⟨z.1,by rw[aB (na _ _ z.2.1)];exact z.2.1,z.2.2⟩,o,es,ep,g1,g2⟩
  have I2:Inv X ab σ (bq H a (.frz o (.dT us))) {s with heap:=s.heap,toks:=s.toks}:=I.write (x:=a) (e:=a) (by rw[a4];trivial) (.inl rfl) (λb u _ hu=>hu) ⟨o,g1⟩ new
  have lt:=(List.getElem?_eq_some_iff.mp (fN e0)).1
  have sr0:SR X.K c hid (ρ.set i .no) σ H:=sr.forget (by simp) λj s' q=>by
   by_cases ej:j=i
   ·subst ej
    rw[List.getElem?_set_self lt] at q;cases q;exact .inl rfl
   ·rw[List.getElem?_set_ne (Ne.symm ej)] at q;exact .inr q
  have sr1:=sr0.reveal (u':=.frz o (.dT us)) a2 a3 λj a' ow q hat=>by
   have ej:j≠i:=λz=>by
    subst z;rw[List.getElem?_set_self lt] at ow;exact ow
   rw[List.getElem?_set_ne (Ne.symm ej)] at ow;rcases hat with z|⟨w',hw'⟩
   ·subst z;exact sr.ap j i a ej ow (by rw[fN e0];trivial) q a1
   ·rw[a4] at hw';cases hw'
  have sm:Same (vw H hid) (vw (bq H a (.frz o (.dT us))) (gI hid a)):=n5 a2
  have at1:vw (bq H a (.frz o (.dT us))) (gI hid a) a=some (.frz o (.dT us)):=Cd
  have sr2:=sr1.mark (i:=i) (s:=.ob (.dQ kvs)) ⟨a,a1,o,us,at1,a5.1,a5.2.mono sm⟩ id
  rw[set_set] at sr2;exact h _ ab s σ _ D I2 ⟨gI hid a,sr2,q.mono sm⟩
 ·exact q.elim
end
section
variable {X:Cx}{ab:List (Addr×Obj)}{σ:St}{H:Hp}{s:Shared}{a b:Addr}{A:Around}{E:Value->Shared->Prop}
theorem CL {kvs:List (List bn×V)}{k:List bn}{Q:Value->Shared->Prop}(hu:A.units+1<cLine)(I:Inv X ab σ H s)(e:Rd H a (.dT kvs))(eb:SqT X.K H b (k.map kV))
 (h: ∀s',Inv X ab σ H s'->Q (.bool (gy kvs k).isSome) s'):wpAny (model X.prog X.w) A (compareOp .In (.ref b) (.ref a)) Q E s:=by
 obtain⟨z,hd,xs,rel,dd⟩:=tQ I.hok e
 refine wpAny_in_heap (tupleKind_room_in1 hu) (pe I eb) hd dd ?_
 have q:=(rel.val k).isSome_eq
 rw[Option.isSome_map] at q;rw[<-q];exact h _ (I.tok _)
end
section
variable {X:Cx}{o i:Expr}{pos:Pos}{td ty:TE}
def Dd(K:W.Frag)(ty td:TE):TE:=λσ H Q=>ty σ H λy H1=>td σ H1 λx H2=> ∃a b kvs k,x=.ref a/\y=.ref b/\Rd H2 a (.dT kvs)/\SqT K H2 b (k.map kV)/\Q (.bl (gy kvs k).isSome) H2
theorem zV(hu:X.A.units+1<cLine)(hi:PE X i ty)(ho:PE X o td):PC X .In i o (Dd X.K ty td):=by
 intro ab s σ H Q I h;refine bM (hi ab s σ H _ I h) λiv s1 ⟨y,H1,I1,ry,q1⟩=>bM (ho ab s1 σ H1 _ I1 q1) λu s2 hq_=>?_
 obtain⟨x,H2,I2,rx,a,b,kvs,k,ex,ey,g1,g2,q2⟩:=hq_
 subst ex ey;obtain rfl:u=Value.ref a:=rx
 obtain rfl:iv=Value.ref b:=ry
 exact CL hu I2 g1 g2 λs3 I3=>⟨.bl (gy kvs k).isSome,H2,I3,rfl,q2⟩
end
section
variable {X:Cx}{c:Ct}{k k1 k2:Kd}{e:Expr}{es:List Expr}{fe:FE}{fs:FA}{pos py p:Pos}{x y:Str}{ps:List Str}{j n:Nat}
def vt(i:Nat)(fk:FE):FE:=λρ=>(o0 i ρ).bind λkvs=>((fk ρ).bind pE).bind λk=>eL kvs (iK k)
theorem yC(i:Nat)(hu:X.A.units+1<cLine)(he:DP X c k1 e fe)(hs:vm e)(hN:X.N[i]? =some y:=by rfl)(hv':kR X.env.scope y:=by first|exact Or.inl rfl|exact Or.inr (Or.inl rfl)|exact Or.inr (Or.inr rfl))(hd:(y==("__debug__":Str))=false:=by decide)
 (hcd:(y==("__classdict__":Str))=false:=by decide):DP X c .s (.Subscript (.Name y py) e pos) (vt i fe):=λhid ρ=>
 PE.imp (Ab hu (pv i hN hv' hd hcd) (he hid ρ) hs) λσ H Q hq_=>by
  obtain⟨sr,d,hd,q⟩:=hq_
  obtain⟨kvs,e0,hd⟩:=Option.bind_eq_some_iff.mp hd
  obtain⟨kk,e1,hd⟩:=Option.bind_eq_some_iff.mp hd
  obtain⟨dk,e3,e4⟩:=Option.bind_eq_some_iff.mp e1
  have e5:=iy e4
  subst e5;obtain⟨a,a1,o,us,a2,a3,a4⟩:=sr.sl i _ (j0 e0)
  refine⟨.ref a,a1,sr,_,e3,λz H2 s2 r2=>?_⟩
  obtain⟨b,rfl,hb⟩:=pb (RK.b k1 r2 λa n=>sr.fresh n)
  have hh:Rd H2 a (.dT us):=.inr ⟨o,s2 _ _ (dU _ _ _ _ a2)⟩
  have rr:KRt X.K (vw H2 hid) us kvs:=⟨a3,a4.mono (aK s2)⟩
  rcases rr.val (iK kk) with⟨v1,v2⟩|⟨v,d',v1,v2,v3⟩
  ·rw[v2] at hd;cases hd
  ·rw[v2] at hd;cases hd
   exact⟨a,b,us,iK kk,v,rfl,rfl,hh,hb,v1,q _ H2 s2 v3⟩
def sv(i:Nat)(fk:FE):FT:=λρ=>(o0 i ρ).bind λkvs=>((fk ρ).bind pE).map λk=>(eL kvs (iK k)).isSome
theorem yU(i:Nat)(hu:X.A.units+1<cLine)(he:DP X c k1 e fe)(hN:X.N[i]? =some y:=by rfl)(hv':kR X.env.scope y:=by first|exact Or.inl rfl|exact Or.inr (Or.inl rfl)|exact Or.inr (Or.inr rfl))(hd:(y==("__debug__":Str))=false:=by decide)
 (hcd:(y==("__classdict__":Str))=false:=by decide) (hm:behindInMarks .In (.Name y py)=false:=by rfl):DT X c (.Compare e [.In] [.Name y py] pos) (sv i fe):=λhid ρ=>
 PT.imp (wD (zV hu (he hid ρ) (pv i hN hv' hd hcd)) hm) λσ H Q hq_=>by
  obtain⟨sr,d,hd,q⟩:=hq_
  obtain⟨kvs,e0,hd⟩:=Option.bind_eq_some_iff.mp hd
  obtain⟨kk,e1,rfl⟩:=Option.map_eq_some_iff.mp hd
  obtain⟨dk,e3,e4⟩:=Option.bind_eq_some_iff.mp e1
  have e5:=iy e4
  subst e5;obtain⟨a,a1,o,us,a2,a3,a4⟩:=sr.sl i _ (j0 e0)
  refine⟨sr,_,e3,λz H2 s2 r2=>⟨.ref a,a1,?_⟩⟩
  obtain⟨b,rfl,hb⟩:=pb (RK.b k1 r2 λa n=>sr.fresh n)
  have hh:Rd H2 a (.dT us):=.inr ⟨o,s2 _ _ (dU _ _ _ _ a2)⟩
  have rr:KRt X.K (vw H2 hid) us kvs:=⟨a3,a4.mono (aK s2)⟩
  refine⟨a,b,us,iK kk,rfl,rfl,hh,hb,_,rfl,?_⟩
  rcases rr.val (iK kk) with⟨v1,v2⟩|⟨v,d',v1,v2,v3⟩
  ·rw[v1];rw[v2] at q;exact q H2 s2
  ·rw[v1];rw[v2] at q;exact q H2 s2
def Bv(K:W.Frag)(k:Kd)(n:Nat)(M:iY->List D->Option D):Sp:=λvs H Q _=> ∃hid a us kvs ds,vs=.ref a::us/\zB hid H/\DQd K (vw H hid) a kvs/\Reps K (vw H hid) us ds/\ds.length=n/\ ∃d,M kvs ds=some d/\ ∀v H',Same H H'->RK K k H H' hid v d->Q v H'
def ip(i n:Nat)(M:iY->List D->Option D)(fs:FA):FE:=λρ=>(o0 i ρ).bind λkvs=>(fs ρ).bind λds=>if ds.length=n then M kvs ds else none
theorem vd(i:Nat){M:iY->List D->Option D}(C:Cl X.prog X.w X.K X.mg X.base j x ps (Bv X.K k n M))(hr:Room j X.A)
 (ha:DA X c es fs) (hN:X.N[i]? =some y:=by rfl) (hv:kR X.env.scope y:=by first|exact Or.inl rfl|exact Or.inr (Or.inl rfl)|exact Or.inr (Or.inr rfl)) (hd:(y==("__debug__":Str))=false:=by decide)
 (hcd:(y==("__classdict__":Str))=false:=by decide) (hs:starEach (.Name y py::es) X.env=(false,eval (.Name y py) X.env)::starEach es X.env:=by rfl) (hg:Gl X x:=by rfl) (hdb:(x==("__debug__":Str))=false:=by decide) (hpl:(backTo pos (starEach es X.env)).any (·.1)=false:=by rfl):
 DP X c k (.Call (.Name x p) (.Name y py::es) [] pos) (ip i n M fs):=by
 obtain⟨f,fd,F,hm,hk,hb⟩:=C.ex
 intro hid ρ;refine PE.imp (jF F hr hg hm hk hb .nil (pM (X:=X)) (bw (pv i hN hv hd hcd) (ha hid ρ) hs) hdb hs hpl) λσ H Q hq_=>?_
 obtain⟨sr,d,hd',q⟩:=hq_
 obtain⟨kvs,e0,hd'⟩:=Option.bind_eq_some_iff.mp hd'
 obtain⟨ds,e1,hd'⟩:=Option.bind_eq_some_iff.mp hd'
 split at hd'
 ·rename_i hl
  obtain⟨a,a1,dq⟩:=sr.sl i _ (j0 e0)
  refine⟨.ref a,a1,sr,ds,e1,λus H1 s1 r1=>?_⟩
  show Bv X.K k n M ((.ref a::us)++[]) H1 Q E0;rw[List.append_nil];exact⟨hid,a,us,kvs,ds,rfl,(sr.ext s1).trk,DQd.mono dq (aK s1),r1,hl,d,hd',λv H' s2 r2=>q v H' (s1.trans s2) (RK.left s1 r2)⟩
 ·cases hd'
end
def uX(n:Nat)(kvs:iY)(ds:List D):aC:=.ob (.dQ kvs)::(ds.map Sl.v++List.replicate (n-1-ds.length) .no)
def Bn(kd:Kd)(n:Nat)(t:FS)(kvs:iY)(ds:List D):Option D:=match t (uX n kvs ds) with
 | .rt d _=>some d
 | .nx _=>(match kd with
   | .n=>none
   |_=>some .non)
 |_=>none
section
variable {P:Program}{w:World}{K:W.Frag}{mg:Str->Option Value}{base:Heap}{x qual:Str}{st:Stmt}{f:Addr}{fd:FuncData}{N ps:List Str}{k n:Nat}{t:FS}{kd:Kd}
theorem SR.beginsQ {hid:bj}{H:Hp}{a:Addr}{us:List V}{kvs:iY}{ds:List D}(tr:zB hid H)(hq:DQd K (vw H hid) a kvs)(r:Reps K (vw H hid) us ds)(hN:0<N.length):
 SR K ⟨H,hid,λ_=>false⟩ hid (uX N.length kvs ds) (start N (.ref a::us)) H:=by
 have hl:=r.length
 have es:start N (.ref a::us)=some (V.ref a)::(us.map some++List.replicate (N.length-1-ds.length) none):=by
  unfold start;rw[List.map_cons,List.cons_append,List.length_cons,hl];congr 3
  omega
 rw[es];unfold uX;refine⟨tr.1,tr.2,λ_ h=>h,λ_ _ h _=>h,λb o h=>⟨o,h⟩,tr.1,(λ_ h=>nomatch h),by simp[hl],λi s e=>?_,λi j z n o1 o2 q1 q2=>?_⟩
 ·cases i with
  |zero=>
   cases e
   exact⟨a,rfl,hq⟩
  |succ i=>
   have z:=rG (c:=⟨H,hid,λ_=>false⟩) (N.length-1-ds.length) r i s (by simpa using e)
   cases s with
   |no=>trivial
   |v d=>obtain⟨x,h1,h2⟩:=z;exact⟨x,by simpa using h1,h2⟩
   |own ds=>obtain⟨x,xs,h1,h2⟩:=z;exact⟨x,xs,by simpa using h1,h2⟩
   |arg ds=>obtain⟨x,xs,h1,h2⟩:=z;exact⟨x,xs,by simpa using h1,h2⟩
   |ob b=>obtain⟨x,h1,h2⟩:=z;exact⟨x,by simpa using h1,h2⟩
 ·cases i with
  |zero=>exact o1
  |succ i=>exact xL (by simpa using o1)
theorem zX(F:Fun K x qual st f fd)(S:FnScope N ps (aj st))(hkd:kd≠ .b)(hn:ps.length=n+1)
 (body: ∀(cdv:Value) (A:Around) (outer:List Env) (s:Shared) (H:Hp) (hid:bj) (E:XK),Room k (A.deeper (envOfC qual (aj st) s.heap.objs.size f cdv))->
   qU (kE mY P w K mg base N qual (aj st) f cdv A outer s H E).nox ⟨H,hid,λ_=>false⟩ kd (aJ st) t):
 FnOk P w K mg base mY (k+1) f fd ps (Bv K kd n (Bn kd N.length t)):=by
 refine F.ok S (λvs H Q E h=>?_) (λcdv A outer s H vs Q E hr h=>?_)
 ·obtain⟨hid,a,us,kvs,ds,rfl,_,_,r,hl,_⟩:=h
  rw[List.length_cons,r.length,hl,hn]
 ·obtain⟨hid,a,us,kvs,ds,rfl,tr,hq,r,hl,d,hP,q⟩:=h
  have hN:0<N.length:=by have:=congrArg List.length S.pre;rw[List.length_take] at this;omega
  refine⟨_,body cdv A outer s H hid E hr (uX N.length kvs ds),hid,SR.beginsQ tr hq r hN,?_⟩
  unfold Bn at hP;cases e:t (uX N.length kvs ds) with
  |nx ρ=>
   rw[e] at hP;intro σ' H' hid' sr _;have sm:Same H H':=λb o z=>sr.kp b o z rfl
   cases kd with
   |b=>exact absurd rfl hkd
   |s=>cases hP;exact q _ H' sm .non
   |n=>cases hP
  |rt d' ρ=>
   rw[e] at hP;cases hP
   intro v H' R;have sm:Same H H':=λb o z=>R.kp b o z rfl
   cases kd with
   |b=>exact absurd rfl hkd
   |s=>exact q v H' sm R.val
   |n=>exact q v H' sm R.val
  |bk ρ=>rw[e] at hP;cases hP
  |ct ρ=>rw[e] at hP;cases hP
  |no=>rw[e] at hP;cases hP
theorem Aa(F:Df K mg x st ps)(S:FnScope N ps (aj st))(hkd:kd≠ .b)(hn:ps.length=n+1)
 (body: ∀(f:Addr) (cdv:Value) (A:Around) (outer:List Env) (s:Shared) (H:Hp) (hid:bj) (E:XK),Room k (A.deeper (envOfC x (aj st) s.heap.objs.size f cdv))->
   qU (kE mY P w K mg base N x (aj st) f cdv A outer s H E).nox ⟨H,hid,λ_=>false⟩ kd (aJ st) t):
 Cl P w K mg base (k+1) x ps (Bv K kd n (Bn kd N.length t)):=by
 obtain⟨f,fd,F,hm,hb⟩:=F.ex
 exact⟨f,fd,zX F S hkd hn (body f),hm,F.kp,hb⟩
end
open PySem PySem.W PySem.Spec PyProof.Rows
def ca(p:Int×Bool):D:=.tup [.int p.1,.bl p.2]
def p8:D->Option (Int×Bool)
 | .tup [.int i,.bl b]=>some (i,b)
 |_=>none
def mt:List D->Option (List (Int×Bool))
 | []=>some []
 |d::ds=>(p8 d).bind λk=>(mt ds).map λks=>k::ks
theorem wX {d:D}{k:Int×Bool}(h:p8 d=some k):d=ca k:=by
 unfold p8 at h;split at h
 ·cases h;rfl
 ·cases h
theorem nq: ∀ {ds:List D} {ks:List (Int×Bool)},mt ds=some ks->ds=ks.map ca
 | [],ks,h=>by cases h;rfl
 |d::ds,ks,h=>by
  obtain⟨k,e1,h⟩:=Option.bind_eq_some_iff.mp h
  obtain⟨ks',e2,rfl⟩:=Option.map_eq_some_iff.mp h
  rw[wX e1,nq e2];rfl
theorem nB: ∀ks:List (Int×Bool),mt (ks.map ca)=some ks
 | []=>rfl
 |k::ks=>by
  show(p8 (ca k)).bind _=_;rw[show p8 (ca k)=some k from rfl,Option.bind_some,nB ks];rfl
def gC(p q:Int×Bool):Bool:=decide (p.1<q.1)||(decide (p.1=q.1)&&(!p.2&&q.2))
theorem sV:Lt gC:=by
 refine⟨λ{a b c} h1 h2=>?_,λ{a b} h=>?_,λ{a b} h1 h2=>?_⟩
 ·obtain⟨a,p⟩:=a
  obtain⟨b,q⟩:=b
  obtain⟨c,r⟩:=c
  unfold gC at*;dsimp only at*;cases p<;>cases q<;>cases r<;>simp at* <;>omega
 ·obtain⟨a,p⟩:=a
  obtain⟨b,q⟩:=b
  unfold gC at*;dsimp only at*;cases p<;>cases q<;>simp at* <;>omega
 ·obtain⟨a,p⟩:=a
  obtain⟨b,q⟩:=b
  unfold gC at*;dsimp only at*;have:a=b:=by cases p<;>cases q<;>simp at* <;>omega
  subst this;cases p<;>cases q<;>simp at*
section
variable {prog:Program}{w:World}{A:Around}{s:Shared}{b:Bool}{Q:Bool->Shared->Prop}{E:Value->Shared->Prop}
theorem pQ {p q:Bool}(h:Q (p==q) s):wpAny (model prog w) A (eqBool (.bool p) (.bool q)) Q E s:=by
 unfold eqBool;show wpAny _ _ (if(Value.bool p==Value.bool q)=true then _ else _) Q E s
 by_cases hab:(Value.bool p==Value.bool q)=true
 ·rw[if_pos hab]
  have e:p=q:=by have:=eq_of_beq hab;injection this
  subst e;exact wpAny_bind (wpAny_rule (wpAny_pure (by simpa using h)))
 ·rw[if_neg hab]
  refine wpAny_bind (eq_bool (wpAny_truthy_bool ?_))
  have e:(b2i p==b2i q)=(p==q):=by cases p<;>cases q<;>rfl
  first|exact h|(rw[e];exact h)|(simpa using h)
theorem AX {i j:Int}{t u:Tok}{p q:Bool}(h:Q (gC (i,p) (j,q)) s):KatLex prog w A b false Q [(.int i t,.int j u),(.bool p,.bool q)] 0 s:=by
 refine kat_cons (wpAny_eqBool_int (kat_go (λhe=>?_) λhe=>?_))
 ·have e:i=j:=by simpa using he
  subst e;refine kat_yes (kat_cons (pQ (kat_go (λhp=>?_) λhp=>?_)))
  ·have e:p=q:=by simpa using hp
   subst e;refine kat_yes (kat_nil ?_)
   simpa [gC] using h
  ·have e:p≠q:=by simpa using hp
   refine kat_no ?_
   have e2:(b&&(0+1==0))=false:=by simp
   rw[e2];have e3:gC (i,p) (i,q)=decide (b2i p<b2i q):=by unfold gC;cases p<;>cases q<;>simp at* <;>decide
   rw[e3] at h;exact kat_one _ _ (lt_bool h)
 ·have e:i≠j:=by simpa using he
  have h':Q (decide (i<j)) s:=by simpa [gC,e] using h
  refine kat_no ?_
  cases (b&&(0==0)) with
  |true=>exact oneLt_int h'
  |false=>exact kat_one _ _ (PyProof.Rows.lt_int h')
end
theorem iR {X:Cx}:fm X (.builtin "sorted") (λxs H Q=> ∃a ys ks,xs=[.ref a]/\SqL X.K H a ys/\Reps X.K H ys (ks.map ca)/\ks.length<64/\
 ∀(l:Addr) (ix:List Nat),H l=none->ix.length=ks.length->ix.map (λi=>(ks.map ca).getD i .non)=(bT gC ks).map ca->Q (.ref l) (bq H l (.lst (ix.map λi=>ys.getD i .non)))):=by
 intro ab s σ H xs us Q I r h;obtain⟨a,ys,ks,rfl,hq,rp,h64,q⟩:=h
 obtain⟨u,rfl,rx⟩:=hX r
 cases rx
 obtain⟨its,rv,pl,hz⟩:=I.list hq
 obtain⟨o,ho,hc,n,hd⟩:=pl.isList
 have l1:=rv.length
 have l2:=rp.length
 rw[List.length_map] at l2;have hl:its.length=ks.length:=by omega
 refine oa (G:=λix=>ix.length=ks.length/\ix.map (λi=>(ks.map ca).getD i .non)=(bT gC ks).map ca) (.inl rfl) ho hc hd (by omega) (λfew=>⟨by simp;omega,?_⟩) (λh2 g kg=>?_) (λg p e ix kg hp hG hg=>?_)
 ·rw[show its.length=(ks.map ca).length by rw[List.length_map];omega,gU,jK (by omega)]
 ·have gi: ∀i,i<ks.length-> ∃(b:Addr) (o:Obj) (n:Nat) (t:Tok),its.getD i Value.none=.ref b/\s.heap.get? b=some o/\o.cls=.type "tuple"/\o.data=.seq [Value.int (ks.getD i (0,false)).1 t,Value.bool (ks.getD i (0,false)).2].toArray n:=λi hi=>by
   have r1:=kx rv i
   have r2:=nS rp i
   have e3:(ks.map ca).getD i .non=.tup [.int (ks.getD i (0,false)).1,.bl (ks.getD i (0,false)).2]:=by simp[List.getD,List.getElem?_eq_getElem hi,ca]
   rw[e3] at r2
   generalize hx:ys.getD i .non=x at r1 r2
   cases r2 with
   |tup q1 q2=>
    obtain⟨ts,r',⟨o,ho,hc,n,hd⟩,_⟩:=I.tuple q1
    cases q2 with
    |cons w1 w2=>
     cases w2 with
     |cons w3 w4=>
      cases w4
      cases w1
      cases w3
      cases r' with
      |cons z1 z2=>
       cases z2 with
       |cons z3 z4=>
        cases z4
        obtain⟨t,rfl⟩:=z1
        cases z3
        exact⟨_,o,n,t,r1,ho,hc,hd⟩
  have kt: ∀(l:List Value) (ms:List (Int×Bool)),l.length=ms.length->(∀i,i<ms.length-> ∃(b:Addr) (o:Obj) (n:Nat) (t:Tok),l.getD i Value.none=.ref b/\s.heap.get? b=some o/\o.cls=.type "tuple"/\o.data=.seq [Value.int (ms.getD i (0,false)).1 t,Value.bool (ms.getD i (0,false)).2].toArray n)->
   ∃fs,KatTups g l fs/\fs.length=l.length/\ ∀v∈fs,∃i t,v=Value.int i t:=by
   intro l
   induction l with
   |nil=>intro ms _ _;exact⟨[],.nil,rfl,λ_ h=>nomatch h⟩
   |cons v l ih=>
    intro ms hl hg;cases ms with
    |nil=>cases hl
    |cons m ms=>
     obtain⟨fs,f1,f2,f3⟩:=ih ms (by simpa using hl) (λi hi=>by simpa using hg (i+1) (by simpa using hi))
     obtain⟨b,o,n,t,g1,g2,g3,g4⟩:=hg 0 (by simp)
     simp[List.getD] at g1 g4;subst g1;refine⟨_,KatTups.cons (kg _ _ g2) g3 (by simpa using g4) (by simp;rfl) f1,by simp[f2],λv hv=>?_⟩
     rcases List.mem_cons.mp hv with rfl|hv
     ·exact⟨_,_,rfl⟩
     ·exact f3 v hv
  obtain⟨fs,f1,f2,f3⟩:=kt its ks hl gi
  refine kat_kind (T:=.type "int") f1 (by omega) (λv hv=>?_) (by rfl) ⟨rfl,?_⟩
  ·obtain⟨i,t,rfl⟩:=f3 v hv;exact Looks.now
  ·rw[hl]
   refine tm (b:=λi j=>gC (ks.getD i (0,false)) (ks.getD j (0,false))) (zv sV _) (by omega) (λi j C hi hj hC=>?_) λp P S=>⟨rfl,?_,?_⟩
   ·obtain⟨b1,o1,n1,t1,x1,x2,x3,x4⟩:=gi i hi
    obtain⟨b2,o2,n2,t2,y1,y2,y3,y4⟩:=gi j hj
    unfold kas_ask;rw[x1,y1];refine kat_lt (kg _ _ x2) x4 (kg _ _ y2) y4 ?_
    exact AX hC
   ·rw[Array.length_toList,P.size]
   ·have:=congrArg (List.map ca) (kJ sV P S)
    rw[<-this,List.map_map];refine List.map_congr_left λi hi=>?_
    have:i<ks.length:=by
     have:=P.perm.mem_iff.mp (Array.mem_toList_iff.mp hi)
     simpa using this
    simp[List.getD,List.getElem?_eq_getElem this]
 ·refine⟨.ref p,_,I.laid (t':=s.toks) kg hp (show ObjOk X.prog X.w _ g _ (.lst (ix.map λi=>ys.getD i .non)) from⟨?_,_,e,kc rv ix,hg⟩),rfl,q _ ix (I.hok.fresh hp) hG.1 hG.2⟩
  rw[List.length_map,hG.1,sizeLine_eq];omega
def gH:List D->Option D
 | [.lst ds]=>(mt ds).bind λks=>if ks.length<64 then some (.lst ((bT gC ks).map ca)) else none
 |_=>none
theorem kK {K:W.Frag}:hV K .n (λxs H Q=> ∃a ys ks,xs=[.ref a]/\SqL K H a ys/\Reps K H ys (ks.map ca)/\ks.length<64/\
 ∀(l:Addr) (ix:List Nat),H l=none->ix.length=ks.length->ix.map (λi=>(ks.map ca).getD i .non)=(bT gC ks).map ca->Q (.ref l) (bq H l (.lst (ix.map λi=>ys.getD i .non)))) gH:=by
 intro H hid vs ds d Q hf h r q;unfold gH at h;split at h
 ·rename_i zs
  obtain⟨ks,e,h⟩:=Option.bind_eq_some_iff.mp h
  split at h
  ·rename_i h64
   cases h
   obtain⟨x,rfl,r1⟩:=Reps1.one r
   obtain⟨a,xs,rfl,h1,h2⟩:=r1.lst
   have e2:=nq e
   subst e2;refine⟨a,xs,ks,rfl,h1,h2.mono (dU _ _),h64,λl ix hl _ he=>q _ _ (aY hl _) (ma hl (Same.refl _) ?_)⟩
   rw[<-he];exact nT h2 ix
  ·cases h
 ·cases h
def z9(xs:List V)(H H':Hp):Prop:= ∀t,H' t=H t\/(V.ref t∈xs/\iN (H t)=true/\iN (H' t)=true)\/H t=none
def vk(r:Nat):TS:=λD σ H=> ∃b ys,σ[r]? =some (some (.ref b))/\H b=some (.lst ys)/\ys.length<=2000/\ ∀t vs ys',H t=none->ys'.length<=ys.length+1->D.nx σ (bq (bq H t (.tup vs)) b (.lst ys'))
def zi(i r:Nat):TS:=λD σ H=> ∃a xs,i≠r/\r<σ.length/\σ[i]? =some (some (.ref a))/\H a=some (.lst xs)/\xs.length<=1000/\(∀x∈xs,∃b ys,x=.ref b/\b≠a/\H b=some (.lst ys)/\ys.length<=1000)/\
 ∀σ' H',(σ'=σ\/ ∃u,σ'=σ.set r (some u))->z9 xs H H'->H' a=some (.lst xs)->D.nx σ' H'
def zf:TE:=λσ H Q=> ∀t vs,H t=none->Q (.ref t) (bq H t (.tup vs))
section
variable {X:Cx}{body:List Stmt}{pos p1 p2 apos cpos lp:Pos}{x y:Str}{i r:Nat}
theorem yV(i r:Nat)(hp:PassesOwn (model X.prog X.w) X.A X.env X.xe)(hc:X.calm=true)(hN:X.N.Nodup)(hb:PSs X body (vk r))(hi:X.N[i]? =some y:=by rfl)(hr:X.N[r]? =some x:=by rfl)
 (hv:kR X.env.scope y:=by first|exact Or.inl rfl|exact Or.inr (Or.inl rfl)|exact Or.inr (Or.inr rfl)) (hd:(y==("__debug__":Str))=false:=by decide) (hcd:(y==("__classdict__":Str))=false:=by decide)
 (hx:tN X.env.scope x:=by first|exact Or.inl rfl|exact Or.inr rfl) (hf:X.fn x=true\/X.env.scope.names.lookup x=some .local:=by first|exact .inl rfl|exact .inr rfl|assumption)
 (hs: ∀z,foldedSetIterable (.Name y p2) X.env z=pure z:=by intro _;rfl):PS X (.For (.Name x p1) (.Name y p2) body [] pos) (zi i r):=
 PS.imp (vf hp hc (oj (pv i hi hv hd hcd)) (lD hN hr hx hf) hb hs) λD σ H hq_=>by
  obtain⟨a,xs,nir,hrl,h1,h2,h3,h4,q⟩:=hq_
  refine⟨.ref a,h1,a,rfl,⟨xs,SqL.of h2⟩,?_⟩
  refine⟨λj m σ' H'=>m=xs.length-j/\j<=xs.length/\(σ'=σ\/ ∃u,σ'=σ.set r (some u))/\z9 xs H H'/\H' a=some (.lst xs)/\ ∀x∈xs,∃b ys,x=.ref b/\b≠a/\H' b=some (.lst ys)/\ys.length<=1000+j,⟨xs.length,by simp,Nat.zero_le _,.inl rfl,λt=>.inl rfl,h2,h4⟩,?_⟩
  rintro j m σ' H' ⟨rfl,hj,hσ,hch,ha,hx'⟩
  by_cases lt:j<xs.length
  ·have ex:xs[j]? =some xs[j]:=List.getElem?_eq_getElem lt
   obtain⟨b,ys,eb,nb,hb',ly⟩:=hx' xs[j] (List.getElem_mem lt)
   refine .inr ⟨⟨xs,xs[j],SqL.of ha,ex⟩,λσ2 H2=>(σ2=σ\/ ∃u,σ2=σ.set r (some u))/\z9 xs H H2/\H2 a=some (.lst xs)/\ ∀x∈xs,∃b ys,x=.ref b/\b≠a/\H2 b=some (.lst ys)/\ys.length<=1000+(j+1),λσ2 H2 ⟨w1,w2,w3,w4⟩=>⟨xs.length- (j+1),by omega,rfl,lt,w1,w2,w3,w4⟩,?_⟩
   rintro z H2 ⟨rfl,hz⟩
   have:=hz xs (SqL.of ha)
   rw[ex] at this;cases this;have es:σ'.set r (some xs[j])=σ.set r (some xs[j]):=by
    rcases hσ with rfl|⟨u,rfl⟩
    ·rfl
    ·rw[List.set_set]
   show vk r _ (σ'.set r (some xs[j])) H2;rw[es,eb];refine⟨b,ys,List.getElem?_set_self hrl,hb',by omega,λt0 vs ys' ht l'=>?_⟩
   have nt: ∀ {u o},H2 u=some o->u≠t0:=λh e=>by subst e;rw[ht] at h;cases h
   refine⟨.inr ⟨_,rfl⟩,λt=>?_,?_,λx hx=>?_⟩
   ·by_cases e:t=b
    ·subst e
     rcases hch t with w|⟨w1,w,_⟩|w
     ·exact .inr (.inl ⟨by rw[<-eb];exact List.getElem_mem lt,by rw[<-w,hb'];rfl,by rw[aI];rfl⟩)
     ·exact .inr (.inl ⟨w1,w,by rw[aI];rfl⟩)
     ·exact .inr (.inr w)
    ·rw[aB e]
     by_cases e2:t=t0
     ·subst e2
      rcases hch t with w|⟨_,_,w⟩|w
      ·exact .inr (.inr (by rw[<-w,ht]))
      ·rw[ht] at w;cases w
      ·exact .inr (.inr w)
     ·rw[aB e2];exact hch t
   ·rw[aB (Ne.symm nb),aB (nt ha)];exact ha
   ·obtain⟨b2,ys2,e2,n2,g2,l2⟩:=hx' x hx
    by_cases e:b2=b
    ·subst e
     rw[hb'] at g2;cases g2;exact⟨b2,ys',e2,n2,aI,by omega⟩
    ·exact⟨b2,ys2,e2,n2,by rw[aB e,aB (nt g2)];exact g2,by omega⟩
  ·have ej:j=xs.length:=by omega
   exact .inl ⟨⟨xs,SqL.of ha,by omega⟩,q σ' H' hσ hch ha⟩
theorem xr(r:Nat){e:Expr}{q1:Pos}(he:PE X e zf)(slot:Slot "list" "append" "list.append")(hty:typeOf (.builtin "list.append")=pure (.type "method_descriptor"))(hr:X.N[r]? =some x:=by rfl)(hv:kR X.env.scope x:=by first|exact Or.inl rfl|exact Or.inr (Or.inl rfl)|exact Or.inr (Or.inr rfl))(hd:(x==("__debug__":Str))=false:=by decide)(hcd:(x==("__classdict__":Str))=false:=by decide)
 (hs:swapsWith (.Call (.Attribute (.Name x q1) "append" apos) [e] [] cpos) none pos.line X.env=pure false:=by rfl)
 (hbase:attributeBase (.Name x q1) "append" X.env (eval (.Name x q1) X.env)=eval (.Name x q1) X.env:=by rfl)
 (hfew:((backTo cpos (starEach [e] X.env)).all (λx=> !x.1)&&(backToKw cpos (keywordEach [] X.env)).all (λx=>x.1.isSome)
   &&decide (([e]:List Expr).length+([]:List Keyword).length+(if([]:List Keyword).isEmpty then 0 else 1)<30))=true:=by rfl)
 (hline:(apos.endLine==cpos.line)=true:=by rfl) (hst:starEach [e] X.env=(false,eval e X.env)::starEach [] X.env:=by rfl) (hplain:(backTo cpos (starEach [] X.env)).any (·.1)=false:=by rfl):
 PSs X [.Expr (.Call (.Attribute (.Name x q1) "append" apos) [e] [] cpos) pos] (vk r):=
 oN (PS.imp (ou (qw PySem.F.plainAttrs_list slot hty cc (pv r hr hv hd hcd) (bw he ee hst) hbase hfew hline hst hplain) hs) λD σ H hq_=>by
  obtain⟨b,ys,h1,h2,h4,q⟩:=hq_
  refine⟨.ref b,h1,.inl ⟨rfl,_,SqL.of h2⟩,λt vs ht=>⟨b,ys,_,rfl,rfl,?_,?_,q t vs _ ht (by simp)⟩⟩
  ·rw[aB (aO h2 ht)];exact h2
  ·have:2000<sizeLine:=by decide
   omega)
theorem yq {n:Int}{v:Bool}{j1 j2:_}{q1 q2 q3:Pos}{x1}(hs:starEach [.Constant (.int n) j1 q1,.Constant (.bool v) j2 q2] X.env=(false,eval (.Constant (.int n) j1 q1) X.env)::starEach [.Constant (.bool v) j2 q2] X.env:=by rfl)
 (hs2:starEach [.Constant (.bool v) j2 q2] X.env=(false,eval (.Constant (.bool v) j2 q2) X.env)::starEach [] X.env:=by rfl):PE X (.Tuple [.Constant (.int n) j1 q1,.Constant (.bool v) j2 q2] x1 q3) zf:=
 PE.imp (oS (bw xc (bw ze ee hs2) hs)) λσ H Q q=>⟨by show 2<=sizeLine;decide,λt ht=>q t _ ht⟩
end
section
variable {X:Cx}{c:Ct}{k:Kd}{s1 s2:Stmt}{rest:List Stmt}{u:FS}
def vb:D->Bool
 | .lst es=>decide (es.length<=1000)
 |_=>false
def rq(i r:Nat)(ρ:aC):Bool:=decide (i≠r)&&decide (r<ρ.length)&&Dx ((ρ.set i .no).set r .no)&&match ρ[i]? with
 |some (.ob (.set ds))=>decide (ds.length<=1000)&&ds.all vb
 |_=>false
def qc(i r:Nat):FS:=λρ=>if rq i r ρ=true then .nx ((ρ.set i .no).set r .no) else .no
theorem wI(i r:Nat)(h1:PS X s1 (zi i r))(h2:PS X s2 (Cm i))(h3:Bw X c k rest u):Bw X c k (s1::s2::rest) (ay (qc i r) u):=λρ=>
 PSs.imp (ic h1 (ic h2 (lV λρ1=>h3 ρ1))) λD σ H hq_=>by
  obtain⟨hid,sr,q⟩:=hq_
  unfold ay qc at q;split at q
  ·rename_i ρ1 e
   split at e
   ·rename_i hm
    cases e
    unfold rq at hm;rw[Bool.and_eq_true,Bool.and_eq_true,Bool.and_eq_true,decide_eq_true_eq,decide_eq_true_eq] at hm;obtain⟨⟨⟨nir,hrl⟩,ok⟩,hm⟩:=hm
    split at hm
    ·rename_i ds ei
     rw[Bool.and_eq_true,decide_eq_true_eq] at hm;obtain⟨a,g0,⟨g1,g2⟩,xs,g3,g4⟩:=sr.sl i _ ei
     have hl:=g4.length
     have it: ∀x∈xs,∃b ys,x=V.ref b/\c.H₀ b=none/\hid b=false/\b≠a/\H b=some (.lst ys)/\ys.length<=1000:=λx hx=>by
      obtain⟨j,ej⟩:=List.getElem?_of_mem hx
      obtain⟨d,ed,rd⟩:=g4.get' ej
      have hd:=List.all_eq_true.mp hm.2 d (List.mem_of_getElem? ed)
      cases rd with
      |lst w1 w2=>
       rename_i b ys es;obtain⟨w3,w4⟩:=fv_some.mp w1
       obtain⟨w5,w6⟩:=vw_some.mp w4
       have hd:decide (es.length<=1000)=true:=hd
       rw[decide_eq_true_eq] at hd;have le:=w2.length
       exact⟨b,ys,rfl,w3 rfl,w5,λz=>(by subst z;rw[g1] at w5;cases w5),w6,by omega⟩
      |_=>cases hd
     refine⟨a,xs,nir,by rw[sr.len];exact hrl,g0,g3,by omega,λx hx=>let⟨b,ys,w⟩:=it x hx;⟨b,ys,w.1,w.2.2.2⟩,λσ' H' hσ hch ha=>?_⟩
     have s':SR X.K c hid ((ρ.set i .no).set r .no) σ' H:=by
      rcases hσ with rfl|⟨u,rfl⟩
      ·exact(sr.drop i).drop r
      ·exact(sr.drop i).setNo r _
     have sm:Same (λt=>if H t=none then none else H' t) H':=λt o e=>by
      have e:(if H t=none then none else H' t)=some o:=e
      by_cases z:H t=none
      ·rw[if_pos z] at e;cases e
      ·rw[if_neg z] at e;exact e
     have s2':=(s'.muts (H':=λt=>if H t=none then none else H' t) ok λt=>by
      by_cases z:H t=none
      ·exact .inl (by show(if H t=none then none else H' t)=H t;rw[if_pos z,z])
      ·rw[if_neg z]
       rcases hch t with w|⟨w1,w2,w3⟩|w
       ·exact .inl w
       ·obtain⟨b,ys,eb,v1,v2,_⟩:=it _ w1
        cases eb
        exact .inr ⟨v1,v2,w2,w3⟩
       ·exact absurd w z).ext sm
     have ei':σ'[i]? =some (some (.ref a)):=by
      rcases hσ with rfl|⟨u,rfl⟩
      ·exact g0
      ·rw[List.getElem?_set_ne (Ne.symm nir)];exact g0
     refine⟨a,xs,ei',ha,by omega,λl hl'=>⟨_,hid,?_,q⟩⟩
     refine(s2'.ext (aY hl' (.lst []))).putX (o:=.lst xs) (by rw[aB (aO ha hl')];exact ha) g1 g2 λj ow es=>?_
     have nj:j≠i/\j≠r:=by
      constructor
      ·rintro rfl
       rw[List.getElem?_set_ne (Ne.symm nir)] at ow;have lt:j<ρ.length:=(List.getElem?_eq_some_iff.mp ei).1
       rw[List.getElem?_set_self lt] at ow;exact ow
      ·rintro rfl
       rw[List.getElem?_set_self (by simpa using hrl)] at ow
       exact ow
     rw[List.getElem?_set_ne (Ne.symm nj.2),List.getElem?_set_ne (Ne.symm nj.1)] at ow;have es2:σ[j]? =some (some (.ref a)):=by
      rcases hσ with rfl|⟨u,rfl⟩
      ·exact es
      ·rw[List.getElem?_set_ne (Ne.symm nj.2)] at es;exact es
     exact sr.ap j i a nj.1 ow (by rw[ei];trivial) es2 g0
    ·cases hm
   ·cases e
  ·rename_i e;split at e<;>cases e
  ·rename_i e;split at e<;>cases e
  ·rename_i e;split at e<;>cases e
  ·exact q.elim
end
set_option maxHeartbeats 4000000
def kU(i:Nat):Stmt:=PySem.Challenge.pw_rookborders_k05_words.main.body.getD i (.Pass ⟨0,0,0,0⟩)
structure Bt(mg:Str->Option Value):Prop where
 b_abs:mg "abs"=none
 b_any:mg "any"=none
 b_bool:mg "bool"=none
 b_enumerate:mg "enumerate"=none
 b_int:mg "int"=none
 b_isinstance:mg "isinstance"=none
 b_len:mg "len"=none
 b_list:mg "list"=none
 b_max:mg "max"=none
 b_min:mg "min"=none
 b_range:mg "range"=none
 b_sorted:mg "sorted"=none
 b_tuple:mg "tuple"=none
theorem Dn:(["square","rings","crosses","ring"]:List Str).Nodup:=by decide+kernel
theorem BQ:(["square","size","column","row"]:List Str).Nodup:=by decide+kernel
theorem xO:(["square","crossings","column","numbers","number","at","row","sign"]:List Str).Nodup:=by decide+kernel
theorem D7:(["square","crossings","column","numbers","number"]:List Str).Nodup:=by decide+kernel
theorem xU:(["square","crossings","row","numbers","number","column","at","sign"]:List Str).Nodup:=by decide+kernel
theorem DH:(["square","crossings","row","numbers","number"]:List Str).Nodup:=by decide+kernel
theorem Db:(["square","crossings","line"]:List Str).Nodup:=by decide+kernel
theorem DM:(["_law_bag_here","_law_n","_law_plain","_law_by","_law_rings","_law_crosses","_law_c","_law_d","_law_row"]:List Str).Nodup:=by decide+kernel
theorem BR:(["_law_square_here","_law_n","_law_upright","_law_level","?_law_column","_law_begin","_law_end","_law_row","_law_column"]:List Str).Nodup:=by decide+kernel
theorem Dg:(["_law_square_here","_law_begin","_law_found","_law_column","?_law_row","_law_row"]:List Str).Nodup:=by decide+kernel
theorem BI:(["_law_square_here","_law_begin","_law_found","_law_column","_law_row","_law_other"]:List Str).Nodup:=by decide+kernel
theorem CP:(["_law_square_here","_law_found","_law_column","_law_line_here"]:List Str).Nodup:=by decide+kernel
theorem Ci:(["_law_square_here","_law_due","_law_found","_law_met","_law_word_here","_law_passing","_law_many","_law_line_here"]:List Str).Nodup:=by decide+kernel
theorem za:(["_law_square_here","_law_due","_law_found","_law_met","_law_word_here","_law_passing","_law_many","_law_k"]:List Str).Nodup:=by decide+kernel
section
variable {P:Program}{w:World}{K:W.Frag}{mg:Str->Option Value}{base:Heap}
abbrev bH:Stmt:=kU 1
abbrev dD:Stmt:=kU 3
abbrev bI:Stmt:=kU 5
abbrev eP:Stmt:=kU 6
abbrev cr:Stmt:=kU 7
abbrev bZ:Stmt:=kU 8
abbrev eX:Stmt:=kU 9
abbrev bG:Stmt:=kU 10
abbrev bF:Stmt:=kU 11
abbrev cT:Stmt:=kU 12
abbrev eZ:Stmt:=kU 13
abbrev dE:Stmt:=kU 14
abbrev dB:Stmt:=kU 16
abbrev eN:Stmt:=kU 17
abbrev dC:Stmt:=kU 18
abbrev cR:Stmt:=kU 19
abbrev cn:Stmt:=kU 20
abbrev dL:Stmt:=kU 21
abbrev bt:Stmt:=kU 22
abbrev dH:Stmt:=kU 23
abbrev cK:Stmt:=kU 24
abbrev cj:Stmt:=kU 25
abbrev dN:Stmt:=kU 26
abbrev dI:Stmt:=kU 27
abbrev iO:Stmt:=kU 28
theorem sc_order_rounds:FnScope ["order","rounds","start","places"] ["order"] (aj bH):=⟨rfl,rfl,rfl,by decide+kernel,rfl,by decide+kernel,by decide+kernel⟩
def mJ:FS:=
 ay (cQ 1 (bY (af)))
 (ay (dJ (cg (aZ (aa (ai bN (aa (ah 0) (af))) (af)))) (gN 2) (ay (cQ 3 (bY (aa (ah 2) (af))))
 (ay (i8 (df (ak kL (ak aG (ah 0) (ak aG (dA 3) (ja (aw (.int 1))))) (ah 2))) (bA (aL 3 1 fW (cg (aa (ak aG (ah 0) (ak aG (dA 3) (ja (aw (.int 1))))) (af))))) 16)
 (fz (df (ak hZ (ai nL (aa (dA 3) (af))) (ah 2))) ((λρ=>(bA (aL 1 1 fW (cg (aa (ah 3) (af))))) (uM 3 ρ))) (skip)))))
 (kF 1))
def ga:List D->Option D:=iL .n 4 mJ
theorem lQ(B:Bt mg)(F:Df K mg "order_rounds" bH ["order"]):Cl P w K mg base 1 "order_rounds" ["order"] (fA K .n 1 ga):=by
 refine bx (k:=0) F sc_order_rounds (by decide) rfl λ_ cdv A outer s H hid E hr=>?_
 exact(al (fj 1 sc_order_rounds.nd (cH ar))
  (al (dM PassesOwn.never rfl (DIp.e (aW B.b_range (ag (aP aV eW B.b_len (aD (ae 0) aU) (hv:=by kernel_rfl)) ar))) (az 2 sc_order_rounds.nd) (al (fj 3 sc_order_rounds.nd (cH (ag (ae 2) ar)))
  (al (jR 16 PassesOwn.never (cq (jo hr.units) mM (aF aA aE (ae 0) (aF aA aE (dP 3) (iH ao) (λ_ _=>rfl)) (λ_ _=>rfl)) (ae 2) (bf _)) (ax (eo (gv 3 eO cc PySem.F.slot_list_append PySem.F.type_list_append (DA.gf (ag (aF aA aE (ae 0) (aF aA aE (dP 3) (iH ao) (λ_ _=>rfl)) (λ_ _=>rfl)) ar))))))
  (ax (fq (cq (fR hr.units) ie (aP (uC rfl) yN B.b_min (aD (dP 3) aU) (hv:=by kernel_rfl)) (ae 2) (bf _)) (ax (Bh 3 (eo (gv 1 eO cc PySem.F.slot_list_append PySem.F.type_list_append (DA.gf (ag (ae 3) ar)))))) bK)))))
  (ax (gV 1))))
theorem sc_lines_of:FnScope ["square","rings","crosses"] ["square"] (aj dD):=⟨rfl,rfl,rfl,by decide+kernel,rfl,by decide+kernel,by decide+kernel⟩
def jk:FS:=
 ay (gg (gT 2 (gE (gN 1) (gE (gN 2) (lh)))) (pu (ah 0)))
 (bv (ai (nF 1 ga) (aa (aS 1 (ia (ah 1)) (gN 3) (fI) (ak jG (ah 2) (ah 3))) (af))))
def eT:List D->Option D:=iL .n 3 jk
theorem rR(B:Bt mg)(F:Df K mg "lines_of" dD ["square"])(fT:Cl P w K mg base 1 "order_rounds" ["order"] (fA K .n 1 ga)):Cl P w K mg base 2 "lines_of" ["square"] (fA K .n 1 eT):=by
 refine bx (k:=1) F sc_lines_of (by decide) rfl λ_ cdv A outer s H hid E hr=>?_
 exact(al (oX (DP.ef (ae 0)) (fK (n:=2) rfl (aX (az 1 sc_lines_of.nd) (aX (az 2 sc_lines_of.nd) fH))))
  (ax (bp (cy fT (hr.mono (by decide)) (ag (DP.toS (eg (N':=["square","rings","crosses","ring"]) rfl (bJ (Nat.le_of_ble_eq_true rfl)) (DIp.b (gn (ae 1))) (λ_ _ _ _=>(az 3 Dn)) (λ_ _ _ _=>e7) (λ_ _ _ _=>(fu hr.units (ae 2) (ae 3))))) ar)))))
theorem kX:FnScope ["at","one","other"] ["at","one","other"] (aj bI):=⟨rfl,rfl,rfl,by decide+kernel,rfl,by decide+kernel,by decide+kernel⟩
def mX:FS:=
 bv (AC pD pD (ai fx (aa (ah 1) (aa (ah 2) (af)))) (ah 0) (ai g7 (aa (ah 1) (aa (ah 2) (af)))))
def cJ:List D->Option D:=iL .s 3 mX
theorem lG(B:Bt mg)(F:Df K mg "lies_between" bI ["at","one","other"]):Cl P w K mg base 1 "lies_between" ["at","one","other"] (fA K .s 3 cJ):=by
 refine bx (k:=0) F kX (by decide) rfl λ_ cdv A outer s H hid E hr=>?_
 exact(ax (bp (Cp mz mz g9 g9 (aP (gG rfl) jQ B.b_min (aD (ae 1) (aD (ae 2) aU)) (hv:=by kernel_rfl)) (ae 0) (aP (iu rfl) lu B.b_max (aD (ae 1) (aD (ae 2) aU)) (hv:=by kernel_rfl)))))
theorem sc_goes_up:FnScope ["square","column","rings","crosses"] ["square","column"] (aj eP):=⟨rfl,rfl,rfl,by decide+kernel,rfl,by decide+kernel,by decide+kernel⟩
def jT:FS:=
 ay (gg (gT 2 (gE (gN 2) (gE (gN 3) (lh)))) (pu (ah 0)))
 (bv (ak pD (ak aG (ah 3) (ah 1)) (ak aG (ah 2) (ah 1))))
def dc:List D->Option D:=iL .s 4 jT
theorem uL(B:Bt mg)(F:Df K mg "goes_up" eP ["square","column"]):Cl P w K mg base 1 "goes_up" ["square","column"] (fA K .s 2 dc):=by
 refine bx (k:=0) F sc_goes_up (by decide) rfl λ_ cdv A outer s H hid E hr=>?_
 exact(al (oX (DP.ef (ae 0)) (fK (n:=2) rfl (aX (az 2 sc_goes_up.nd) (aX (az 3 sc_goes_up.nd) fH))))
  (ax (bp (fV mz g9 (aF aA aE (ae 3) (ae 1) (λ_ _=>rfl)) (aF aA aE (ae 2) (ae 1) (λ_ _=>rfl)) (bf _)))))
theorem sc_goes_right:FnScope ["square","row","rings","crosses"] ["square","row"] (aj cr):=⟨rfl,rfl,rfl,by decide+kernel,rfl,by decide+kernel,by decide+kernel⟩
def gW:FS:=
 ay (gg (gT 2 (gE (gN 2) (gE (gN 3) (lh)))) (pu (ah 0)))
 (bv (ak pD (ak jG (ah 2) (ah 1)) (ak jG (ah 3) (ah 1))))
def bz:List D->Option D:=iL .s 4 gW
theorem pd(B:Bt mg)(F:Df K mg "goes_right" cr ["square","row"]):Cl P w K mg base 1 "goes_right" ["square","row"] (fA K .s 2 bz):=by
 refine bx (k:=0) F sc_goes_right (by decide) rfl λ_ cdv A outer s H hid E hr=>?_
 exact(al (oX (DP.ef (ae 0)) (fK (n:=2) rfl (aX (az 2 sc_goes_right.nd) (aX (az 3 sc_goes_right.nd) fH))))
  (ax (bp (fV mz g9 (fu hr.units (ae 2) (ae 1)) (fu hr.units (ae 3) (ae 1)) (bf _)))))
theorem sc_is_crossing:FnScope ["square","column","row","rings","crosses"] ["square","column","row"] (aj bZ):=⟨rfl,rfl,rfl,by decide+kernel,rfl,by decide+kernel,by decide+kernel⟩
def gB:FS:=
 ay (gg (gT 2 (gE (gN 3) (gE (gN 4) (lh)))) (pu (ah 0)))
 (ay (fz (fy (dZ (ai (nF 3 cJ) (aa (ah 2) (aa (ak aG (ah 3) (ah 1)) (aa (ak aG (ah 4) (ah 1)) (af))))))) (bv (aw (.bl false))) (skip))
 (bv (ai (nF 3 cJ) (aa (ah 1) (aa (ak jG (ah 3) (ah 2)) (aa (ak jG (ah 4) (ah 2)) (af)))))))
def fc:List D->Option D:=iL .s 5 gB
theorem m7(B:Bt mg)(F:Df K mg "is_crossing" bZ ["square","column","row"])(eC:Cl P w K mg base 1 "lies_between" ["at","one","other"] (fA K .s 3 cJ)):Cl P w K mg base 2 "is_crossing" ["square","column","row"] (fA K .s 3 fc):=by
 refine bx (k:=1) F sc_is_crossing (by decide) rfl λ_ cdv A outer s H hid E hr=>?_
 exact(al (oX (DP.ef (ae 0)) (fK (n:=2) rfl (aX (az 3 sc_is_crossing.nd) (aX (az 4 sc_is_crossing.nd) fH))))
  (al (fq (gz (fF (cy eC (hr.mono (by decide)) (ag (ae 2) (ag (aF aA aE (ae 3) (ae 1) (λ_ _=>rfl)) (ag (aF aA aE (ae 4) (ae 1) (λ_ _=>rfl)) ar)))))) (ax (bp h8)) bK)
  (ax (bp (cy eC (hr.mono (by decide)) (ag (ae 1) (ag (fu hr.units (ae 3) (ae 2)) (ag (fu hr.units (ae 4) (ae 2)) ar))))))))
theorem rQ:FnScope ["square","column","row"] ["square","column","row"] (aj eX):=⟨rfl,rfl,rfl,by decide+kernel,rfl,by decide+kernel,by decide+kernel⟩
def jU:FS:=
 bv (zJ (df (ak kL (ai (nF 2 dc) (aa (ah 0) (aa (ah 1) (af)))) (ai (nF 2 bz) (aa (ah 0) (aa (ah 2) (af)))))) (aw (.int 1)) (ja (aw (.int 1))))
def iG:List D->Option D:=iL .s 3 jU
theorem uk(B:Bt mg)(F:Df K mg "sign_at" eX ["square","column","row"])(fM:Cl P w K mg base 1 "goes_up" ["square","column"] (fA K .s 2 dc))(cX:Cl P w K mg base 1 "goes_right" ["square","row"] (fA K .s 2 bz)):Cl P w K mg base 2 "sign_at" ["square","column","row"] (fA K .s 3 iG):=by
 refine bx (k:=1) F rQ (by decide) rfl λ_ cdv A outer s H hid E hr=>?_
 exact(ax (bp (BK (by decide) (cq (jo hr.units) mM (cy fM (hr.mono (by decide)) (ag (ae 0) (ag (ae 1) ar))) (cy cX (hr.mono (by decide)) (ag (ae 0) (ag (ae 2) ar))) (bf _)) ao (iH ao))))
theorem sc_crossings_of:FnScope ["square","size"] ["square"] (aj bG):=⟨rfl,rfl,rfl,by decide+kernel,rfl,by decide+kernel,by decide+kernel⟩
def fU:FS:=
 ay (aQ 1 (ai bN (aa (ak aG (ah 0) (aw (.int 0))) (af))))
 (bv (uY 2 (aZ (aa (ah 1) (af))) (gN 2) (fI) (aZ (aa (ah 1) (af))) (gN 3) (dZ (ai (nF 3 fc) (aa (ah 0) (aa (ah 2) (aa (ah 3) (af)))))) (cf (aa (ah 2) (aa (ah 3) (aa (ai (nF 3 iG) (aa (ah 0) (aa (ah 2) (aa (ah 3) (af))))) (af)))))))
def eJ:List D->Option D:=iL .n 2 fU
theorem mT(B:Bt mg)(F:Df K mg "crossings_of" bG ["square"])(j6:Cl P w K mg base 2 "sign_at" ["square","column","row"] (fA K .s 3 iG))(gD:Cl P w K mg base 2 "is_crossing" ["square","column","row"] (fA K .s 3 fc)):Cl P w K mg base 3 "crossings_of" ["square"] (fA K .n 1 eJ):=by
 refine bx (k:=2) F sc_crossings_of (by decide) rfl λ_ cdv A outer s H hid E hr=>?_
 exact(al (aT 1 sc_crossings_of.nd (aP aV eW B.b_len (aD (aF aA aE (ae 0) ao (λ_ _=>rfl)) aU) (hv:=by kernel_rfl)))
  (ax (bp (xh (N':=["square","size","column","row"]) rfl 3 (bJ (Nat.le_of_ble_eq_true rfl)) (Ds (Nat.le_of_ble_eq_true rfl)) (bJ (Nat.le_of_ble_eq_true rfl)) (DIp.b (aW B.b_range (ag (ae 1) ar))) (λ_ _ _ _=>(az 2 BQ)) (λ_ _ _ _=>e7) (λ_ _ _ _=>(aW B.b_range (ag (ae 1) ar))) (λ_ _ _ _=>(az 3 BQ)) (λ_ _ _ _=>(gY (fF (cy gD (hr.mono (by decide)) (ag (ae 0) (ag (ae 2) (ag (ae 3) ar))))))) (λ_ _ _ _=>(eI (ag (ae 2) (ag (ae 3) (ag (cy j6 (hr.mono (by decide)) (ag (ae 0) (ag (ae 2) (ag (ae 3) ar)))) ar)))))))))
theorem sc_along_column:FnScope ["square","crossings","column","numbers"] ["square","crossings","column"] (aj bF):=⟨rfl,rfl,rfl,by decide+kernel,rfl,by decide+kernel,by decide+kernel⟩
def fQ:FS:=
 ay (cQ 3 (aS 4 (pJ (ah 1)) (gT 2 (gE (gN 4) (gE (gT 3 (gE (gN 5) (gE (gN 6) (gE (gN 7) (lh))))) (lh)))) (df (ak hZ (ah 5) (ah 2))) (ah 4)))
 (ay (fz (fy (dZ (ai (nF 2 dc) (aa (ah 0) (aa (ah 2) (af)))))) (bA (aL 3 0 rK (cg af))) (skip))
 (bv (aS 1 (jn (dA 3)) (gN 4) (fI) (cf (aa (ah 4) (aa (aw (.bl true)) (af)))))))
def cM:List D->Option D:=iL .n 4 fQ
theorem mO(B:Bt mg)(F:Df K mg "along_column" bF ["square","crossings","column"])(fM:Cl P w K mg base 1 "goes_up" ["square","column"] (fA K .s 2 dc)):Cl P w K mg base 2 "along_column" ["square","crossings","column"] (fA K .n 3 cM):=by
 refine bx (k:=1) F sc_along_column (by decide) rfl λ_ cdv A outer s H hid E hr=>?_
 exact(al (pi 3 (N':=["square","crossings","column","numbers","number","at","row","sign"]) rfl sc_along_column.nd (oD (bS (bJ (Nat.le_of_ble_eq_true rfl)) (bS (oD (bS (bJ (Nat.le_of_ble_eq_true rfl)) (bS (bJ (Nat.le_of_ble_eq_true rfl)) (bS (bJ (Nat.le_of_ble_eq_true rfl)) iF)))) iF))) (DIp.b (jZ (ae 1) B.b_enumerate)) (λ_ _ _ _=>(fK (n:=2) rfl (aX (az 4 xO) (aX (fK (n:=3) rfl (aX (az 5 xO) (aX (az 6 xO) (aX (az 7 xO) fH)))) fH)))) (λ_ _ _ _=>(gY (cq (fR hr.units) ie (ae 5) (ae 2) (bf _)))) (λ_ _ _ _=>(ae 4)))
  (al (fq (gz (fF (cy fM (hr.mono (by decide)) (ag (ae 0) (ag (ae 2) ar))))) (ax (eo (p5 3 mf mQ PySem.F.slot_list_reverse PySem.F.type_list_reverse))) bK)
  (ax (bp (eg (N':=["square","crossings","column","numbers","number"]) rfl (bJ (Nat.le_of_ble_eq_true rfl)) (me (dP 3)) (λ_ _ _ _=>(az 4 D7)) (λ_ _ _ _=>e7) (λ_ _ _ _=>(eI (ag (ae 4) (ag h8 ar)))))))))
theorem sc_along_row:FnScope ["square","crossings","row","numbers"] ["square","crossings","row"] (aj cT):=⟨rfl,rfl,rfl,by decide+kernel,rfl,by decide+kernel,by decide+kernel⟩
def ii:FS:=
 ay (cQ 3 (aS 4 (pJ (ah 1)) (gT 2 (gE (gN 4) (gE (gT 3 (gE (gN 5) (gE (gN 6) (gE (gN 7) (lh))))) (lh)))) (df (ak hZ (ah 6) (ah 2))) (ah 4)))
 (ay (fz (fy (dZ (ai (nF 2 bz) (aa (ah 0) (aa (ah 2) (af)))))) (bA (aL 3 0 rK (cg af))) (skip))
 (bv (aS 1 (jn (dA 3)) (gN 4) (fI) (cf (aa (ah 4) (aa (aw (.bl false)) (af)))))))
def ft:List D->Option D:=iL .n 4 ii
theorem qL(B:Bt mg)(F:Df K mg "along_row" cT ["square","crossings","row"])(cX:Cl P w K mg base 1 "goes_right" ["square","row"] (fA K .s 2 bz)):Cl P w K mg base 2 "along_row" ["square","crossings","row"] (fA K .n 3 ft):=by
 refine bx (k:=1) F sc_along_row (by decide) rfl λ_ cdv A outer s H hid E hr=>?_
 exact(al (pi 3 (N':=["square","crossings","row","numbers","number","column","at","sign"]) rfl sc_along_row.nd (oD (bS (bJ (Nat.le_of_ble_eq_true rfl)) (bS (oD (bS (bJ (Nat.le_of_ble_eq_true rfl)) (bS (bJ (Nat.le_of_ble_eq_true rfl)) (bS (bJ (Nat.le_of_ble_eq_true rfl)) iF)))) iF))) (DIp.b (jZ (ae 1) B.b_enumerate)) (λ_ _ _ _=>(fK (n:=2) rfl (aX (az 4 xU) (aX (fK (n:=3) rfl (aX (az 5 xU) (aX (az 6 xU) (aX (az 7 xU) fH)))) fH)))) (λ_ _ _ _=>(gY (cq (fR hr.units) ie (ae 6) (ae 2) (bf _)))) (λ_ _ _ _=>(ae 4)))
  (al (fq (gz (fF (cy cX (hr.mono (by decide)) (ag (ae 0) (ag (ae 2) ar))))) (ax (eo (p5 3 mf mQ PySem.F.slot_list_reverse PySem.F.type_list_reverse))) bK)
  (ax (bp (eg (N':=["square","crossings","row","numbers","number"]) rfl (bJ (Nat.le_of_ble_eq_true rfl)) (me (dP 3)) (λ_ _ _ _=>(az 4 DH)) (λ_ _ _ _=>e7) (λ_ _ _ _=>(eI (ag (ae 4) (ag h8 ar)))))))))
theorem sc_word_of:FnScope ["square","crossings","line","rings","word","column"] ["square","crossings","line"] (aj eZ):=⟨rfl,rfl,rfl,by decide+kernel,rfl,by decide+kernel,by decide+kernel⟩
def nZ:FS:=
 ay (aQ 3 (ak aG (ah 0) (aw (.int 0))))
 (ay (cQ 4 (bY (af)))
 (ay (dJ (cg (ia (ah 2))) (gN 5) (ay (bA (oq 4 (ai (nF 3 cM) (aa (ah 0) (aa (ah 1) (aa (ah 5) (af)))))))
 (bA (oq 4 (ai (nF 3 ft) (aa (ah 0) (aa (ah 1) (aa (ak aG (ah 3) (ah 5)) (af)))))))))
 (kF 4)))
def iI:List D->Option D:=iL .n 6 nZ
theorem u5(B:Bt mg)(F:Df K mg "word_of" eZ ["square","crossings","line"])(gb:Cl P w K mg base 2 "along_column" ["square","crossings","column"] (fA K .n 3 cM))(ig:Cl P w K mg base 2 "along_row" ["square","crossings","row"] (fA K .n 3 ft)):Cl P w K mg base 3 "word_of" ["square","crossings","line"] (fA K .n 3 iI):=by
 refine bx (k:=2) F sc_word_of (by decide) rfl λ_ cdv A outer s H hid E hr=>?_
 exact(al (aT 3 sc_word_of.nd (aF aA aE (ae 0) ao (λ_ _=>rfl)))
  (al (fj 4 sc_word_of.nd (cH ar))
  (al (dM PassesOwn.never rfl (DIp.e (gn (ae 2))) (az 5 sc_word_of.nd) (al (eo (uh 4 (cy gb (hr.mono (by decide)) (ag (ae 0) (ag (ae 1) (ag (ae 5) ar))))))
  (ax (eo (uh 4 (cy ig (hr.mono (by decide)) (ag (ae 0) (ag (ae 1) (ag (aF aA aE (ae 3) (ae 5) (λ_ _=>rfl)) ar)))))))))
  (ax (gV 4)))))
theorem sc_words_of:FnScope ["square","crossings"] ["square"] (aj dE):=⟨rfl,rfl,rfl,by decide+kernel,rfl,by decide+kernel,by decide+kernel⟩
def my:FS:=
 ay (aQ 1 (ai (nF 1 eJ) (aa (ah 0) (af))))
 (bv (aS 1 (ia (ai (nF 1 eT) (aa (ah 0) (af)))) (gN 2) (fI) (ai (nF 3 iI) (aa (ah 0) (aa (ah 1) (aa (ah 2) (af)))))))
def br:List D->Option D:=iL .n 2 my
theorem sJ(B:Bt mg)(F:Df K mg "words_of" dE ["square"])(gc:Cl P w K mg base 3 "crossings_of" ["square"] (fA K .n 1 eJ))(kB:Cl P w K mg base 3 "word_of" ["square","crossings","line"] (fA K .n 3 iI))(i6:Cl P w K mg base 2 "lines_of" ["square"] (fA K .n 1 eT)):Cl P w K mg base 4 "words_of" ["square"] (fA K .n 1 br):=by
 refine bx (k:=3) F sc_words_of (by decide) rfl λ_ cdv A outer s H hid E hr=>?_
 exact(al (aT 1 sc_words_of.nd (DP.toS (cy gc (hr.mono (by decide)) (ag (ae 0) ar))))
  (ax (bp (eg (N':=["square","crossings","line"]) rfl (bJ (Nat.le_of_ble_eq_true rfl)) (DIp.b (gn (DP.toS (cy i6 (hr.mono (by decide)) (ag (ae 0) ar))))) (λ_ _ _ _=>(az 2 Db)) (λ_ _ _ _=>e7) (λ_ _ _ _=>(DP.toS (cy kB (hr.mono (by decide)) (ag (ae 0) (ag (ae 1) (ag (ae 2) ar))))))))))
theorem p7:FnScope ["_law_script","_law_k"] ["_law_script","_law_k"] (aj dB):=⟨rfl,rfl,rfl,by decide+kernel,rfl,by decide+kernel,by decide+kernel⟩
def su:FS:=
 ay (fz (df (ak pD (ah 1) (ai bN (aa (ah 0) (af))))) (bv (ak aG (ah 0) (ah 1))) (skip))
 (bv (aw (.int 0)))
def ji:List D->Option D:=iL .s 2 su
theorem rF(B:Bt mg)(F:Df K mg "_law_cell" dB ["_law_script","_law_k"]):Cl P w K mg base 1 "_law_cell" ["_law_script","_law_k"] (fA K .s 2 ji):=by
 refine bx (k:=0) F p7 (by decide) rfl λ_ cdv A outer s H hid E hr=>?_
 exact(al (fq (cq mz g9 (ae 1) (aP aV eW B.b_len (aD (ae 0) aU) (hv:=by kernel_rfl)) (bf _)) (ax (bp (aF aA aE (ae 0) (ae 1) (λ_ _=>rfl)))) bK)
  (ax (bp ao)))
theorem sc_law_bag:FnScope ["_law_script","_law_at","_law_cell_here","_law_mix","_law_k"] ["_law_script","_law_at"] (aj eN):=⟨rfl,rfl,rfl,by decide+kernel,rfl,by decide+kernel,by decide+kernel⟩
def uI:FS:=
 ay (aQ 2 (ak bD (ai qr (aa (ai (nF 2 ji) (aa (ah 0) (aa (ah 1) (af)))) (af))) (ak eG (ak eG (ak eE (aw (.int 10)) (aw (.int 60))) (ak eE (aw (.int 10)) (aw (.int 60)))) (ak eE (aw (.int 10)) (aw (.int 60))))))
 (ay (fz (df (ak C2 (ah 2) (ak eE (aw (.int 10)) (aw (.int 18))))) (bv (bY (aa (ah 2) (aa (aw (.int 0)) (af))))) (skip))
 (ay (aQ 3 (ak bD (ak bi (ak bi (ah 2) (ak eG (aw (.int 7919)) (ah 1))) (aw (.int 17))) (aw (.int 2147483647))))
 (ay (dJ (cg (aZ (aa (ai fx (aa (ai bN (aa (ah 0) (af))) (aa (aw (.int 9)) (af)))) (af)))) (gN 4) (aQ 3 (ak bD (ak bi (ak bi (ak eE (ah 3) (aw (.int 5))) (ak bD (ak aG (ah 0) (ah 4)) (aw (.int 2147483629)))) (ak eG (aw (.int 31)) (ah 4))) (aw (.int 2147483647)))))
 (bv (bY (aa (ah 3) (aa (aw (.int 1)) (af))))))))
def iD:List D->Option D:=iL .n 5 uI
theorem uT(B:Bt mg)(F:Df K mg "_law_bag" eN ["_law_script","_law_at"])(je:Cl P w K mg base 1 "_law_cell" ["_law_script","_law_k"] (fA K .s 2 ji)):Cl P w K mg base 2 "_law_bag" ["_law_script","_law_at"] (fA K .n 2 iD):=by
 refine bx (k:=1) F sc_law_bag (by decide) rfl λ_ cdv A outer s H hid E hr=>?_
 exact(al (aT 2 sc_law_bag.nd (fZ (aP wL AF B.b_abs (aD (cy je (hr.mono (by decide)) (ag (ae 0) (ag (ae 1) ar))) aU) (hv:=by kernel_rfl)) (j5 (j5 (jX ao ao) (jX ao ao)) (jX ao ao))))
  (al (fq (cq BE g9 (ae 2) (jX ao ao) (bf _)) (ax (bp (cH (ag (ae 2) (ag ao ar))))) bK)
  (al (aT 3 sc_law_bag.nd (fZ (eD (eD (ae 2) (j5 ao (ae 1))) ao) ao))
  (al (dM PassesOwn.never rfl (DIp.e (aW B.b_range (ag (aP (gG rfl) jQ B.b_min (aD (aP aV eW B.b_len (aD (ae 0) aU) (hv:=by kernel_rfl)) (aD ao aU)) (hv:=by kernel_rfl)) ar))) (az 4 sc_law_bag.nd) (ax (aT 3 sc_law_bag.nd (fZ (eD (eD (jX (ae 3) ao) (fZ (aF aA aE (ae 0) (ae 4) (λ_ _=>rfl)) ao)) (j5 ao (ae 4))) ao))))
  (ax (bp (cH (ag (ae 3) (ag ao ar)))))))))
theorem sc_law_take:FnScope ["_law_bag_here","_law_many","_law_digit"] ["_law_bag_here","_law_many"] (aj dC):=⟨rfl,rfl,rfl,by decide+kernel,rfl,by decide+kernel,by decide+kernel⟩
def sj:FS:=
 ay (fz (df (ak hZ (ak aG (dA 0) (aw (.int 1))) (aw (.int 0)))) (ay (aQ 2 (ak bD (ak aG (dA 0) (aw (.int 0))) (ah 1)))
 (ay (gg (eF 0 (aw (.int 0))) (pu (ak jv (ak aG (dA 0) (aw (.int 0))) (ah 1))))
 (bv (ah 2)))) (skip))
 (ay (gg (eF 0 (aw (.int 0))) (pu (ak bD (ak bi (ak bi (ak eE (ak aG (dA 0) (aw (.int 0))) (aw (.int 5))) (ak eG (aw (.int 48271)) (ak aG (dA 0) (aw (.int 1))))) (aw (.int 11))) (aw (.int 2147483647)))))
 (ay (gg (eF 0 (aw (.int 1))) (pu (ak bi (ak aG (dA 0) (aw (.int 1))) (aw (.int 1)))))
 (bv (ak bD (ak jv (ak bD (ak eG (ak aG (dA 0) (aw (.int 0))) (aw (.int 69621))) (aw (.int 2147483629))) (aw (.int 8))) (ah 1)))))
def ck:List D->List D->Option (D×List D):=uV .s 3 sj
theorem sh(B:Bt mg)(F:Df K mg "_law_take" dC ["_law_bag_here","_law_many"]):Cl P w K mg base 1 "_law_take" ["_law_bag_here","_law_many"] (uq K .s 1 ck):=by
 refine sn (k:=0) F sc_law_take (by decide) rfl λ_ cdv A outer s H hid a E hr=>?_
 exact(al (fq (cq (fR hr.units) ie (aF aA aE (dP 0) ao (λ_ _=>rfl)) ao (bf _)) (al (aT 2 sc_law_take.nd (fZ (aF aA aE (dP 0) ao (λ_ _=>rfl)) (ae 1)))
  (al (oo (DP.ef (sR (aF aA aE (dP 0) ao (λ_ _=>rfl)) (ae 1))) (jB 0 ao))
  (ax (bp (ae 2))))) bK)
  (al (oo (DP.ef (fZ (eD (eD (jX (aF aA aE (dP 0) ao (λ_ _=>rfl)) ao) (j5 ao (aF aA aE (dP 0) ao (λ_ _=>rfl)))) ao) ao)) (jB 0 ao))
  (al (oo (DP.ef (eD (aF aA aE (dP 0) ao (λ_ _=>rfl)) ao)) (jB 0 ao))
  (ax (bp (fZ (sR (fZ (j5 (aF aA aE (dP 0) ao (λ_ _=>rfl)) ao) ao) ao) (ae 1)))))))
theorem sc_law_order:FnScope ["_law_bag_here","_law_n","_law_left","_law_found"] ["_law_bag_here","_law_n"] (aj cR):=⟨rfl,rfl,rfl,by decide+kernel,rfl,by decide+kernel,by decide+kernel⟩
def qv:FS:=
 ay (cQ 2 (xC (ah 1)))
 (ay (cQ 3 (bY (af)))
 (ay (i8 (df (ak kL (dA 2) (bY (af)))) (bA (aL 3 1 fW (gk (aL 2 1 m9 (gk (aL 0 1 ck (cg (aa (ai bN (aa (dA 2) (af))) (af)))) (cg (af)))) (cg (af))))) 16)
 (kF 3)))
def gw:List D->List D->Option (D×List D):=uV .n 4 qv
theorem qF(B:Bt mg)(F:Df K mg "_law_order" cR ["_law_bag_here","_law_n"])(bX:Cl P w K mg base 1 "_law_take" ["_law_bag_here","_law_many"] (uq K .s 1 ck)):Cl P w K mg base 2 "_law_order" ["_law_bag_here","_law_n"] (uq K .n 1 gw):=by
 refine sn (k:=1) F sc_law_order (by decide) rfl λ_ cdv A outer s H hid a E hr=>?_
 exact(al (fj 2 sc_law_order.nd (iP rfl B.b_list B.b_range (ae 1)))
  (al (fj 3 sc_law_order.nd (cH ar))
  (al (jR 16 PassesOwn.never (cq (jo hr.units) mM (dP 2) (cH ar) (bf _)) (ax (eo (gv 3 eO cc PySem.F.slot_list_append PySem.F.type_list_append (pk (gv 2 AD wQ PySem.F.slot_list_pop PySem.F.type_list_pop (pk (lR 0 bX (hr.mono (by decide)) (DA.gf (ag (aP aV eW B.b_len (aD (dP 2) aU) (hv:=by kernel_rfl)) ar))) (DA.gf ar))) (DA.gf ar))))))
  (ax (gV 3)))))
theorem sc_law_square:FnScope ["_law_bag_here","_law_n","_law_plain","_law_by","_law_rings","_law_crosses","_law_c","_law_d"] ["_law_bag_here","_law_n"] (aj cn):=⟨rfl,rfl,rfl,by decide+kernel,rfl,by decide+kernel,by decide+kernel⟩
def oh:FS:=
 ay (jj 2 (aL 0 1 ck (cg (aa (aw (.int 4)) (af)))))
 (ay (jj 3 (lK bi (pu (aw (.int 1))) (aL 0 1 ck (cg (aa (ak kQ (ah 1) (aw (.int 1))) (af))))))
 (ay (jj 4 (aL 0 1 gw (cg (aa (ah 1) (af)))))
 (ay (rO 5 (aL 0 1 gw (cg (aa (ah 1) (af)))))
 (ay (fz (df (ak hZ (ah 2) (aw (.int 1)))) (ay (aQ 4 (xC (ah 1)))
 (cQ 5 (aS 1 (ia (ah 4)) (gN 8) (fI) (ak bD (ak bi (ah 8) (ah 3)) (ah 1))))) (skip))
 (ay (dJ (cg (aZ (aa (ah 1) (af)))) (gN 6) (ay (aQ 7 (ak bD (ak bi (ah 6) (aw (.int 1))) (ah 1)))
 (fz (df (ak hZ (ak aG (dA 5) (ah 6)) (ak aG (ah 4) (ah 6)))) (gg (gT 2 (gE (eF 5 (ah 6)) (gE (eF 5 (ah 7)) (lh)))) (pu (cf (aa (ak aG (dA 5) (ah 7)) (aa (ak aG (dA 5) (ah 6)) (af)))))) (skip))))
 (bv (cf (aa (ai ik (aa (ah 4) (af))) (aa (ai ik (aa (dA 5) (af))) (af))))))))))
def fG:List D->List D->Option (D×List D):=uV .s 8 oh
theorem oO(B:Bt mg)(F:Df K mg "_law_square" cn ["_law_bag_here","_law_n"])(bX:Cl P w K mg base 1 "_law_take" ["_law_bag_here","_law_many"] (uq K .s 1 ck))(gm:Cl P w K mg base 2 "_law_order" ["_law_bag_here","_law_n"] (uq K .n 1 gw)):Cl P w K mg base 3 "_law_square" ["_law_bag_here","_law_n"] (uq K .s 1 fG):=by
 refine sn (k:=2) F sc_law_square (by decide) rfl λ_ cdv A outer s H hid a E hr=>?_
 exact(al (lA 2 sc_law_square.nd (lR 0 bX (hr.mono (by decide)) (DA.gf (ag ao ar))))
  (al (lA 3 sc_law_square.nd (vR (DP.ef ao) (lR 0 bX (hr.mono (by decide)) (DA.gf (ag (si (ae 1) ao) ar)))))
  (al (lA 4 sc_law_square.nd (DE.toS (lR 0 gm (hr.mono (by decide)) (DA.gf (ag (ae 1) ar)))))
  (al (yP 5 sc_law_square.nd (lR 0 gm (hr.mono (by decide)) (DA.gf (ag (ae 1) ar))))
  (al (fq (cq (fR hr.units) ie (ae 2) ao (bf _)) (al (aT 4 sc_law_square.nd (DP.toS (iP rfl B.b_list B.b_range (ae 1))))
  (ax (pi 5 (N':=["_law_bag_here","_law_n","_law_plain","_law_by","_law_rings","_law_crosses","_law_c","_law_d","_law_row"]) rfl sc_law_square.nd (bJ (Nat.le_of_ble_eq_true rfl)) (DIp.b (gn (ae 4))) (λ_ _ _ _=>(az 8 DM)) (λ_ _ _ _=>e7) (λ_ _ _ _=>(fZ (eD (ae 8) (ae 3)) (ae 1)))))) bK)
  (al (dM PassesOwn.never rfl (DIp.e (aW B.b_range (ag (ae 1) ar))) (az 6 sc_law_square.nd) (al (aT 7 sc_law_square.nd (fZ (eD (ae 6) ao) (ae 1)))
  (ax (fq (cq (fR hr.units) ie (aF aA aE (dP 5) (ae 6) (λ_ _=>rfl)) (aF aA aE (ae 4) (ae 6) (λ_ _=>rfl)) (bf _)) (ax (oo (DP.ef (eI (ag (aF aA aE (dP 5) (ae 7) (λ_ _=>rfl)) (ag (aF aA aE (dP 5) (ae 6) (λ_ _=>rfl)) ar)))) (xQ (n:=2) rfl (qA (jB 5 (ae 6)) (qA (jB 5 (ae 7)) yE))))) bK))))
  (ax (bp (eI (ag (cY iV qd B.b_tuple (aD (ae 4) aU) (hv:=by kernel_rfl)) (ag (cY iV qd B.b_tuple (aD (dP 5) aU) (hv:=by kernel_rfl)) ar)))))))))))
theorem sc_law_ways:FnScope ["_law_square_here","_law_n","_law_upright","_law_level","_law_column","_law_begin","_law_end","_law_row"] ["_law_square_here"] (aj dL):=⟨rfl,rfl,rfl,by decide+kernel,rfl,by decide+kernel,by decide+kernel⟩
def gS:FS:=
 ay (aQ 1 (ai bN (aa (ak aG (ah 0) (aw (.int 0))) (af))))
 (ay (ub 2)
 (ay (ub 3)
 (ay (dJ (cg (aZ (aa (ah 1) (af)))) (gN 4) (ay (aQ 5 (ak aG (ak aG (ah 0) (aw (.int 1))) (ah 4)))
 (ay (aQ 6 (ak aG (ak aG (ah 0) (aw (.int 0))) (ah 4)))
 (dJ (cg (jI (aa (ak bi (ai fx (aa (ah 5) (aa (ah 6) (af)))) (aw (.int 1))) (aa (ai g7 (aa (ah 5) (aa (ah 6) (af)))) (af))))) (gN 7) (jH 2 (aa (ah 4) (aa (ah 7) (af))) (ak aG (bY (aa (ja (aw (.int 1))) (aa (aw (.int 1)) (af)))) (ai fo (aa (ak u9 (ah 6) (ah 5)) (af)))))))))
 (ay (dJ (cg (aZ (aa (ah 1) (af)))) (gN 7) (ay (aQ 5 (ak aG (aS 1 (aZ (aa (ah 1) (af))) (gN 8) (df (ak hZ (ak aG (ak aG (ah 0) (aw (.int 0))) (ah 8)) (ah 7))) (ah 8)) (aw (.int 0))))
 (ay (aQ 6 (ak aG (aS 1 (aZ (aa (ah 1) (af))) (gN 8) (df (ak hZ (ak aG (ak aG (ah 0) (aw (.int 1))) (ah 8)) (ah 7))) (ah 8)) (aw (.int 0))))
 (dJ (cg (jI (aa (ak bi (ai fx (aa (ah 5) (aa (ah 6) (af)))) (aw (.int 1))) (aa (ai g7 (aa (ah 5) (aa (ah 6) (af)))) (af))))) (gN 4) (jH 3 (aa (ah 4) (aa (ah 7) (af))) (ak aG (bY (aa (ja (aw (.int 1))) (aa (aw (.int 1)) (af)))) (ai fo (aa (ak u9 (ah 6) (ah 5)) (af)))))))))
 (skip)))))
def eK:List D->Option (iY×iY):=xx 8 2 3 gS
theorem sq(B:Bt mg)(F:Df K mg "_law_ways" dL ["_law_square_here"]):Cl P w K mg base 1 "_law_ways" ["_law_square_here"] (wE K 1 eK):=by
 refine Af (k:=0) F sc_law_ways rfl λ_ cdv A outer s H hid E hr=>?_
 exact(jz (k:=.s) (aT 1 sc_law_ways.nd (aP aV eW B.b_len (aD (aF aA aE (ae 0) ao (λ_ _=>rfl)) aU) (hv:=by kernel_rfl)))
  (jz (k:=.s) (mh 2 sc_law_ways.nd)
  (jz (k:=.s) (mh 3 sc_law_ways.nd)
  (jz (k:=.s) (dM PassesOwn.never rfl (DIp.e (aW B.b_range (ag (ae 1) ar))) (az 4 sc_law_ways.nd) (al (aT 5 sc_law_ways.nd (aF aA aE (aF aA aE (ae 0) ao (λ_ _=>rfl)) (ae 4) (λ_ _=>rfl)))
  (al (aT 6 sc_law_ways.nd (aF aA aE (aF aA aE (ae 0) ao (λ_ _=>rfl)) (ae 4) (λ_ _=>rfl)))
  (ax (dM PassesOwn.never rfl (DIp.e (lP B.b_range (ag (eD (aP (gG rfl) jQ B.b_min (aD (ae 5) (aD (ae 6) aU)) (hv:=by kernel_rfl)) ao) (ag (aP (iu rfl) lu B.b_max (aD (ae 5) (aD (ae 6) aU)) (hv:=by kernel_rfl)) ar)))) (az 7 sc_law_ways.nd) (ax (pN 2 (kI hr) (ag (ae 4) (ag (ae 7) ar)) (aF aA aE (cH (ag (iH ao) (ag ao ar))) (cY eM iX B.b_int (aD (fV ua g9 (ae 6) (ae 5) (bf _)) aU) (hv:=by kernel_rfl)) (λ_ _=>rfl)))))))))
  (jz (k:=.s) (dM PassesOwn.never rfl (DIp.e (aW B.b_range (ag (ae 1) ar))) (az 7 sc_law_ways.nd) (al (aT 5 sc_law_ways.nd (aF aA aE (eg (N':=["_law_square_here","_law_n","_law_upright","_law_level","?_law_column","_law_begin","_law_end","_law_row","_law_column"]) rfl (bJ (Nat.le_of_ble_eq_true rfl)) (DIp.b (aW B.b_range (ag (ae 1) ar))) (λ_ _ _ _=>(az 8 BR)) (λ_ _ _ _=>(gY (cq (fR hr.units) ie (aF aA aE (aF aA aE (ae 0) ao (λ_ _=>rfl)) (ae 8) (λ_ _=>rfl)) (ae 7) (bf _)))) (λ_ _ _ _=>(ae 8))) ao (λ_ _=>rfl)))
  (al (aT 6 sc_law_ways.nd (aF aA aE (eg (N':=["_law_square_here","_law_n","_law_upright","_law_level","?_law_column","_law_begin","_law_end","_law_row","_law_column"]) rfl (bJ (Nat.le_of_ble_eq_true rfl)) (DIp.b (aW B.b_range (ag (ae 1) ar))) (λ_ _ _ _=>(az 8 BR)) (λ_ _ _ _=>(gY (cq (fR hr.units) ie (aF aA aE (aF aA aE (ae 0) ao (λ_ _=>rfl)) (ae 8) (λ_ _=>rfl)) (ae 7) (bf _)))) (λ_ _ _ _=>(ae 8))) ao (λ_ _=>rfl)))
  (ax (dM PassesOwn.never rfl (DIp.e (lP B.b_range (ag (eD (aP (gG rfl) jQ B.b_min (aD (ae 5) (aD (ae 6) aU)) (hv:=by kernel_rfl)) ao) (ag (aP (iu rfl) lu B.b_max (aD (ae 5) (aD (ae 6) aU)) (hv:=by kernel_rfl)) ar)))) (az 4 sc_law_ways.nd) (ax (pN 3 (kI hr) (ag (ae 4) (ag (ae 7) ar)) (aF aA aE (cH (ag (iH ao) (ag ao ar))) (cY eM iX B.b_int (aD (fV ua g9 (ae 6) (ae 5) (bf _)) aU) (hv:=by kernel_rfl)) (λ_ _=>rfl)))))))))
  (zL 2 3 (by decide)))))))
theorem sc_law_crossings:FnScope ["_law_square_here","_law_upright","_law_level","_law_found","_law_place"] ["_law_square_here"] (aj bt):=⟨rfl,rfl,rfl,by decide+kernel,rfl,by decide+kernel,by decide+kernel⟩
def fC:FS:=
 ay (qb 1 2 1 eK (aa (ah 0) (af)))
 (ay (cQ 3 (bY (af)))
 (ay (dJ (cg (ia (sY 1))) (gN 4) (fz (wj 2 (ah 4)) (bA (aL 3 1 fW (cg (aa (cf (aa (ak aG (ah 4) (aw (.int 0))) (aa (ak aG (ah 4) (aw (.int 1))) (aa (ak aG (bY (aa (ja (aw (.int 1))) (aa (aw (.int 1)) (af)))) (ai fo (aa (ak kL (ki 1 (ah 4)) (ki 2 (ah 4))) (af)))) (af))))) (af))))) (skip)))
 (kF 3)))
def bd:List D->Option D:=iL .n 5 fC
theorem kT(B:Bt mg)(F:Df K mg "_law_crossings" bt ["_law_square_here"])(jc:Cl P w K mg base 1 "_law_ways" ["_law_square_here"] (wE K 1 eK)):Cl P w K mg base 2 "_law_crossings" ["_law_square_here"] (fA K .n 1 bd):=by
 refine bx (k:=1) F sc_law_crossings (by decide) rfl λ_ cdv A outer s H hid E hr=>?_
 exact(al (AU 1 2 (by decide) rfl sc_law_crossings.nd jc (hr.mono (by decide)) (ag (ae 0) ar))
  (al (fj 3 sc_law_crossings.nd (cH ar))
  (al (dM PassesOwn.never rfl (DIp.e (gn (DP.toS (vG 1 rfl B.b_sorted)))) (az 4 sc_law_crossings.nd) (ax (fq (xH 2 (kI hr) (ae 4)) (ax (eo (gv 3 eO cc PySem.F.slot_list_append PySem.F.type_list_append (DA.gf (ag (eI (ag (aF aA aE (ae 4) ao (λ_ _=>rfl)) (ag (aF aA aE (ae 4) ao (λ_ _=>rfl)) (ag (aF aA aE (cH (ag (iH ao) (ag ao ar))) (cY eM iX B.b_int (aD (fV (jo hr.units) mM (sT 1 (kI hr) (ae 4) (λ_ _=>rfl)) (sT 2 (kI hr) (ae 4) (λ_ _=>rfl)) (bf _)) aU) (hv:=by kernel_rfl)) (λ_ _=>rfl)) ar)))) ar jq))))) bK)))
  (ax (gV 3)))))
theorem sc_law_line:FnScope ["_law_square_here","_law_begin","_law_found","_law_column","_law_row"] ["_law_square_here","_law_begin"] (aj dH):=⟨rfl,rfl,rfl,by decide+kernel,rfl,by decide+kernel,by decide+kernel⟩
def jb:FS:=
 ay (cQ 2 (bY (af)))
 (ay (aQ 3 (ah 1))
 (ay (i8 (df (ak (sP true) (ah 3) (dA 2))) (ay (bA (aL 2 1 fW (cg (aa (ah 3) (af)))))
 (ay (aQ 4 (ak aG (aS 1 (aZ (aa (ai bN (aa (ak aG (ah 0) (aw (.int 0))) (af))) (af))) (gN 5) (df (ak hZ (ak aG (ak aG (ah 0) (aw (.int 0))) (ah 3)) (ah 5))) (ah 5)) (aw (.int 0))))
 (aQ 3 (ak aG (aS 1 (aZ (aa (ai bN (aa (ak aG (ah 0) (aw (.int 0))) (af))) (af))) (gN 5) (df (ak hZ (ak aG (ak aG (ah 0) (aw (.int 1))) (ah 5)) (ah 4))) (ah 5)) (aw (.int 0)))))) 16)
 (kF 2)))
def eY:List D->Option D:=iL .n 5 jb
theorem rA(B:Bt mg)(F:Df K mg "_law_line" dH ["_law_square_here","_law_begin"]):Cl P w K mg base 1 "_law_line" ["_law_square_here","_law_begin"] (fA K .n 2 eY):=by
 refine bx (k:=0) F sc_law_line (by decide) rfl λ_ cdv A outer s H hid E hr=>?_
 exact(al (fj 2 sc_law_line.nd (cH ar))
  (al (aT 3 sc_law_line.nd (ae 1))
  (al (jR 16 PassesOwn.never (cq (uK hr.units) (zC true) (ae 3) (dP 2) (by with_unfolding_all rfl)) (al (eo (gv 2 eO cc PySem.F.slot_list_append PySem.F.type_list_append (DA.gf (ag (ae 3) ar))))
  (al (aT 4 sc_law_line.nd (aF aA aE (eg (N':=["_law_square_here","_law_begin","_law_found","_law_column","?_law_row","_law_row"]) rfl (bJ (Nat.le_of_ble_eq_true rfl)) (DIp.b (aW B.b_range (ag (aP aV eW B.b_len (aD (aF aA aE (ae 0) ao (λ_ _=>rfl)) aU) (hv:=by kernel_rfl)) ar))) (λ_ _ _ _=>(az 5 Dg)) (λ_ _ _ _=>(gY (cq (fR hr.units) ie (aF aA aE (aF aA aE (ae 0) ao (λ_ _=>rfl)) (ae 3) (λ_ _=>rfl)) (ae 5) (bf _)))) (λ_ _ _ _=>(ae 5))) ao (λ_ _=>rfl)))
  (ax (aT 3 sc_law_line.nd (aF aA aE (eg (N':=["_law_square_here","_law_begin","_law_found","_law_column","_law_row","_law_other"]) rfl (bJ (Nat.le_of_ble_eq_true rfl)) (DIp.b (aW B.b_range (ag (aP aV eW B.b_len (aD (aF aA aE (ae 0) ao (λ_ _=>rfl)) aU) (hv:=by kernel_rfl)) ar))) (λ_ _ _ _=>(az 5 BI)) (λ_ _ _ _=>(gY (cq (fR hr.units) ie (aF aA aE (aF aA aE (ae 0) ao (λ_ _=>rfl)) (ae 5) (λ_ _=>rfl)) (ae 4) (bf _)))) (λ_ _ _ _=>(ae 5))) ao (λ_ _=>rfl)))))))
  (ax (gV 2)))))
theorem sc_law_lines:FnScope ["_law_square_here","_law_found","_law_column"] ["_law_square_here"] (aj cK):=⟨rfl,rfl,rfl,by decide+kernel,rfl,by decide+kernel,by decide+kernel⟩
def ib:FS:=
 ay (cQ 1 (bY (af)))
 (ay (dJ (cg (aZ (aa (ai bN (aa (ak aG (ah 0) (aw (.int 0))) (af))) (af)))) (gN 2) (fz (fy (dZ (ai p9 (aa (aS 1 (jn (dA 1)) (gN 3) (fI) (ak (sP false) (ah 2) (ah 3))) (af))))) (bA (aL 1 1 fW (cg (aa (ai (nF 2 eY) (aa (ah 0) (aa (ah 2) (af)))) (af))))) (skip)))
 (kF 1))
def dX:List D->Option D:=iL .n 3 ib
theorem qI(B:Bt mg)(F:Df K mg "_law_lines" cK ["_law_square_here"])(i9:Cl P w K mg base 1 "_law_line" ["_law_square_here","_law_begin"] (fA K .n 2 eY)):Cl P w K mg base 2 "_law_lines" ["_law_square_here"] (fA K .n 1 dX):=by
 refine bx (k:=1) F sc_law_lines (by decide) rfl λ_ cdv A outer s H hid E hr=>?_
 exact(al (fj 1 sc_law_lines.nd (cH ar))
  (al (dM PassesOwn.never rfl (DIp.e (aW B.b_range (ag (aP aV eW B.b_len (aD (aF aA aE (ae 0) ao (λ_ _=>rfl)) aU) (hv:=by kernel_rfl)) ar))) (az 2 sc_law_lines.nd) (ax (fq (gz (fF (aP (vo rfl) Aj B.b_any (aD (eg (N':=["_law_square_here","_law_found","_law_column","_law_line_here"]) rfl (bJ (Nat.le_of_ble_eq_true rfl)) (me (dP 1)) (λ_ _ _ _=>(az 3 CP)) (λ_ _ _ _=>e7) (λ_ _ _ _=>(fV (A9 hr.units) (zC false) (ae 2) (ae 3) (by with_unfolding_all rfl)))) aU) (hv:=by kernel_rfl)))) (ax (eo (gv 1 eO cc PySem.F.slot_list_append PySem.F.type_list_append (DA.gf (ag (DP.toS (cy i9 (hr.mono (by decide)) (ag (ae 0) (ag (ae 2) ar)))) ar))))) bK)))
  (ax (gV 1))))
theorem sc_law_passed:FnScope ["_law_numbers","_law_begin","_law_end","_law_over","_law_found","_law_place","_law_step"] ["_law_numbers","_law_begin","_law_end","_law_over"] (aj cj):=⟨rfl,rfl,rfl,by decide+kernel,rfl,by decide+kernel,by decide+kernel⟩
def gR:FS:=
 ay (cQ 4 (bY (af)))
 (ay (aQ 5 (ah 1))
 (ay (i8 (df (ak kL (ah 5) (ah 2))) (ay (aQ 6 (bY (aa (ak kQ (ai fo (aa (ak u9 (ak aG (ah 2) (aw (.int 0))) (ak aG (ah 5) (aw (.int 0)))) (af))) (ai fo (aa (ak pD (ak aG (ah 2) (aw (.int 0))) (ak aG (ah 5) (aw (.int 0)))) (af)))) (aa (ak kQ (ai fo (aa (ak u9 (ak aG (ah 2) (aw (.int 1))) (ak aG (ah 5) (aw (.int 1)))) (af))) (ai fo (aa (ak pD (ak aG (ah 2) (aw (.int 1))) (ak aG (ah 5) (aw (.int 1)))) (af)))) (af)))))
 (ay (aQ 5 (cf (aa (ak bi (ak aG (ah 5) (aw (.int 0))) (ak aG (ah 6) (aw (.int 0)))) (aa (ak bi (ak aG (ah 5) (aw (.int 1))) (ak aG (ah 6) (aw (.int 1)))) (af)))))
 (fz (rJ (df (ak kL (ah 5) (ah 2))) (sv 0 (ah 5))) (bA (aL 4 1 fW (cg (aa (cf (aa (vt 0 (ah 5)) (aa (ah 3) (af)))) (af))))) (skip)))) 16)
 (kF 4)))
def bc:iY->List D->Option D:=Bn .n 7 gR
theorem oB(B:Bt mg)(F:Df K mg "_law_passed" cj ["_law_numbers","_law_begin","_law_end","_law_over"]):Cl P w K mg base 1 "_law_passed" ["_law_numbers","_law_begin","_law_end","_law_over"] (Bv K .n 3 bc):=by
 refine Aa (k:=0) F sc_law_passed (by decide) rfl λ_ cdv A outer s H hid E hr=>?_
 exact(al (fj 4 sc_law_passed.nd (cH ar))
  (al (aT 5 sc_law_passed.nd (ae 1))
  (al (jR 16 PassesOwn.never (cq (jo hr.units) mM (ae 5) (ae 2) (bf _)) (al (aT 6 sc_law_passed.nd (DP.toS (cH (ag (si (cY eM iX B.b_int (aD (fV ua g9 (aF aA aE (ae 2) ao (λ_ _=>rfl)) (aF aA aE (ae 5) ao (λ_ _=>rfl)) (bf _)) aU) (hv:=by kernel_rfl)) (cY eM iX B.b_int (aD (fV mz g9 (aF aA aE (ae 2) ao (λ_ _=>rfl)) (aF aA aE (ae 5) ao (λ_ _=>rfl)) (bf _)) aU) (hv:=by kernel_rfl))) (ag (si (cY eM iX B.b_int (aD (fV ua g9 (aF aA aE (ae 2) ao (λ_ _=>rfl)) (aF aA aE (ae 5) ao (λ_ _=>rfl)) (bf _)) aU) (hv:=by kernel_rfl)) (cY eM iX B.b_int (aD (fV mz g9 (aF aA aE (ae 2) ao (λ_ _=>rfl)) (aF aA aE (ae 5) ao (λ_ _=>rfl)) (bf _)) aU) (hv:=by kernel_rfl))) ar)))))
  (al (aT 5 sc_law_passed.nd (eI (ag (eD (aF aA aE (ae 5) ao (λ_ _=>rfl)) (aF aA aE (ae 6) ao (λ_ _=>rfl))) (ag (eD (aF aA aE (ae 5) ao (λ_ _=>rfl)) (aF aA aE (ae 6) ao (λ_ _=>rfl))) ar))))
  (ax (fq (DW.dt (A6 (cq (jo hr.units) mM (ae 5) (ae 2) (bf _)) (xN (yU 0 (kI hr) (ae 5))))) (ax (eo (gv 4 eO cc PySem.F.slot_list_append PySem.F.type_list_append (DA.gf (ag (eI (ag (yC 0 (kI hr) (ae 5) (λ_ _=>rfl)) (ag (ae 3) ar))) ar jq))))) bK)))))
  (ax (gV 4)))))
theorem sc_law_word:FnScope ["_law_square_here","_law_line_here","_law_numbers","_law_number","_law_crossing","_law_found","_law_k","_law_column","_law_ring"] ["_law_square_here","_law_line_here"] (aj dN):=⟨rfl,rfl,rfl,by decide+kernel,rfl,by decide+kernel,by decide+kernel⟩
def mn:FS:=
 ay (ub 2)
 (ay (dJ (cg (pJ (ai (nF 1 bd) (aa (ah 0) (af))))) (gT 2 (gE (gN 3) (gE (gN 4) (lh)))) (pH 2 (xq (ah 4) C1 (CB (aw (.int 2)))) (ah 3)))
 (ay (aQ 5 (bY (af)))
 (ay (xZ 2 (dJ (cg (aZ (aa (ai bN (aa (ah 1) (af))) (af)))) (gN 6) (ay (aQ 7 (ak aG (ah 1) (ah 6)))
 (ay (aQ 8 (cf (aa (ah 7) (aa (ak aG (ak aG (ah 0) (aw (.int 0))) (ah 7)) (af)))))
 (ay (aQ 5 (ak gp (ah 5) (ip 2 3 bc (aa (cf (aa (ah 7) (aa (ak aG (ak aG (ah 0) (aw (.int 1))) (ah 7)) (af)))) (aa (ah 8) (aa (aw (.bl true)) (af)))))))
 (aQ 5 (ak gp (ah 5) (ip 2 3 bc (aa (ah 8) (aa (cf (aa (ak aG (ah 1) (ak bD (ak bi (ah 6) (aw (.int 1))) (ai bN (aa (ah 1) (af))))) (aa (ak aG (ah 8) (aw (.int 1))) (af)))) (aa (aw (.bl false)) (af))))))))))))
 (bv (ah 5)))))
def eS:List D->Option D:=iL .s 9 mn
theorem r9(B:Bt mg)(F:Df K mg "_law_word" dN ["_law_square_here","_law_line_here"])(bQ:Cl P w K mg base 2 "_law_crossings" ["_law_square_here"] (fA K .n 1 bd))(fJ:Cl P w K mg base 1 "_law_passed" ["_law_numbers","_law_begin","_law_end","_law_over"] (Bv K .n 3 bc)):Cl P w K mg base 3 "_law_word" ["_law_square_here","_law_line_here"] (fA K .s 2 eS):=by
 refine bx (k:=2) F sc_law_word (by decide) rfl λ_ cdv A outer s H hid E hr=>?_
 exact(al (mh 2 sc_law_word.nd)
  (al (dM PassesOwn.never rfl (DIp.e (jZ (DP.toS (cy bQ (hr.mono (by decide)) (ag (ae 0) ar))) B.b_enumerate)) (fK (n:=2) rfl (aX (az 3 sc_law_word.nd) (aX (az 4 sc_law_word.nd) fH))) (ax (wb 2 (kI hr) (A4 (ae 4) xF (xW ao)) (ae 3))))
  (al (aT 5 sc_law_word.nd (DP.toS (cH ar)))
  (al (A8 2 (dM PassesOwn.never rfl (DIp.e (aW B.b_range (ag (aP aV eW B.b_len (aD (ae 1) aU) (hv:=by kernel_rfl)) ar))) (az 6 sc_law_word.nd) (al (aT 7 sc_law_word.nd (aF aA aE (ae 1) (ae 6) (λ_ _=>rfl)))
  (al (aT 8 sc_law_word.nd (eI (ag (ae 7) (ag (aF aA aE (aF aA aE (ae 0) ao (λ_ _=>rfl)) (ae 7) (λ_ _=>rfl)) ar))))
  (al (aT 5 sc_law_word.nd (DP.toS (ls (ae 5) (vd 2 fJ (hr.mono (by decide)) (ag (eI (ag (ae 7) (ag (aF aA aE (aF aA aE (ae 0) ao (λ_ _=>rfl)) (ae 7) (λ_ _=>rfl)) ar))) (ag (ae 8) (ag h8 ar)) jq)))))
  (ax (aT 5 sc_law_word.nd (DP.toS (ls (ae 5) (vd 2 fJ (hr.mono (by decide)) (ag (ae 8) (ag (eI (ag (aF aA aE (ae 1) (fZ (eD (ae 6) ao) (aP aV eW B.b_len (aD (ae 1) aU) (hv:=by kernel_rfl))) (λ_ _=>rfl)) (ag (aF aA aE (ae 8) ao (λ_ _=>rfl)) ar))) (ag h8 ar) jq))))))))))))
  (ax (bp (ae 5)))))))
theorem sc_law_good:FnScope ["_law_square_here","_law_due","_law_found","_law_met","_law_word_here","_law_passing","_law_many"] ["_law_square_here"] (aj dI):=⟨rfl,rfl,rfl,by decide+kernel,rfl,by decide+kernel,by decide+kernel⟩
def ml:FS:=
 ay (aQ 1 (aS 1 (ia (ai (nF 1 dX) (aa (ah 0) (af)))) (gN 7) (fI) (ai (nF 2 eS) (aa (ah 0) (aa (ah 7) (af))))))
 (ay (aQ 2 (ai (nF 1 br) (aa (ah 0) (af))))
 (ay (fz (xE (fy (dZ (kS "list" (ah 2)))) (df (ak kL (ah 2) (ah 1)))) (bv (aw (.bl false))) (skip))
 (ay (aQ 3 (bY (af)))
 (ay (dJ (cg (ia (ah 2))) (gN 4) (ay (fz (fy (dZ (kS "list" (ah 4)))) (bv (aw (.bl false))) (skip))
 (ay (dJ (cg (ia (ah 4))) (gN 5) (fz (xE (fy (dZ (kS "tuple" (ah 5)))) (xE (dZ (kS "bool" (ak aG (ah 5) (aw (.int 0))))) (fy (dZ (kS "bool" (ak aG (ah 5) (aw (.int 1)))))))) (bv (aw (.bl false))) (skip)))
 (aQ 3 (ak gp (ah 3) (ah 4))))))
 (ay (aQ 6 (ai bN (aa (ai (nF 1 bd) (aa (ah 0) (af))) (af))))
 (bv (ak hZ (ai gH (aa (ah 3) (af))) (ai gH (aa (ak gp (aS 1 (aZ (aa (ah 6) (af))) (gN 7) (fI) (cf (aa (ah 7) (aa (aw (.bl false)) (af))))) (aS 1 (aZ (aa (ah 6) (af))) (gN 7) (fI) (cf (aa (ah 7) (aa (aw (.bl true)) (af)))))) (af))))))))))
def dO:List D->Option D:=iL .s 7 ml
theorem r8(B:Bt mg)(F:Df K mg "_law_good" dI ["_law_square_here"])(eV:Cl P w K mg base 4 "words_of" ["square"] (fA K .n 1 br))(i5:Cl P w K mg base 3 "_law_word" ["_law_square_here","_law_line_here"] (fA K .s 2 eS))(bQ:Cl P w K mg base 2 "_law_crossings" ["_law_square_here"] (fA K .n 1 bd))(ij:Cl P w K mg base 2 "_law_lines" ["_law_square_here"] (fA K .n 1 dX)):Cl P w K mg base 5 "_law_good" ["_law_square_here"] (fA K .s 1 dO):=by
 refine bx (k:=4) F sc_law_good (by decide) rfl λ_ cdv A outer s H hid E hr=>?_
 exact(al (xR 1 (N':=["_law_square_here","_law_due","_law_found","_law_met","_law_word_here","_law_passing","_law_many","_law_line_here"]) rfl sc_law_good.nd (bJ (Nat.le_of_ble_eq_true rfl)) (DIp.b (gn (DP.toS (cy ij (hr.mono (by decide)) (ag (ae 0) ar))))) (λ_ _ _ _=>(az 7 Ci)) (λ_ _ _ _=>e7) (λ_ _ _ _=>(cy i5 (hr.mono (by decide)) (ag (ae 0) (ag (ae 7) ar)))))
  (al (aT 2 sc_law_good.nd (DP.toS (cy eV (hr.mono (by decide)) (ag (ae 0) ar))))
  (al (fq (DW.dt (v6 (gz (fF (mV "list" tZ (ae 2) B.b_isinstance B.b_list))) (vV (cq (jo hr.units) mM (ae 2) (ae 1) (bf _))))) (ax (bp h8)) bK)
  (al (aT 3 sc_law_good.nd (DP.toS (cH ar)))
  (al (dM PassesOwn.never rfl (DIp.e (gn (ae 2))) (az 4 sc_law_good.nd) (al (fq (gz (fF (mV "list" tZ (ae 4) B.b_isinstance B.b_list))) (ax (bp h8)) bK)
  (al (dM PassesOwn.never rfl (DIp.e (gn (ae 4))) (az 5 sc_law_good.nd) (ax (fq (DW.dt (v6 (gz (fF (mV "tuple" vM (ae 5) B.b_isinstance B.b_tuple))) (v6 (fF (mV "bool" tS (aF aA aE (ae 5) ao (λ_ _=>rfl)) B.b_isinstance B.b_bool)) (vV (gz (fF (mV "bool" tS (aF aA aE (ae 5) ao (λ_ _=>rfl)) B.b_isinstance B.b_bool))))))) (ax (bp h8)) bK)))
  (ax (aT 3 sc_law_good.nd (DP.toS (ls (ae 3) (ae 4))))))))
  (al (aT 6 sc_law_good.nd (aP aV eW B.b_len (aD (cy bQ (hr.mono (by decide)) (ag (ae 0) ar)) aU) (hv:=by kernel_rfl)))
  (ax (bp (fV (fR hr.units) ie (aP iR kK B.b_sorted (aD (ae 3) aU) (hv:=by kernel_rfl)) (aP iR kK B.b_sorted (aD (ls (eg (N':=["_law_square_here","_law_due","_law_found","_law_met","_law_word_here","_law_passing","_law_many","_law_k"]) rfl (bJ (Nat.le_of_ble_eq_true rfl)) (DIp.b (aW B.b_range (ag (ae 6) ar))) (λ_ _ _ _=>(az 7 za)) (λ_ _ _ _=>e7) (λ_ _ _ _=>(eI (ag (ae 7) (ag h8 ar))))) (eg (N':=["_law_square_here","_law_due","_law_found","_law_met","_law_word_here","_law_passing","_law_many","_law_k"]) rfl (bJ (Nat.le_of_ble_eq_true rfl)) (DIp.b (aW B.b_range (ag (ae 6) ar))) (λ_ _ _ _=>(az 7 za)) (λ_ _ _ _=>e7) (λ_ _ _ _=>(eI (ag (ae 7) (ag h8 ar)))))) aU) (hv:=by kernel_rfl)) (bf _))))))))))
theorem sc_law:FnScope ["_law_script","_law_k","_law_bag_here","_law_square_here","_law_told","_law_word_here"] ["_law_script"] (aj iO):=⟨rfl,rfl,rfl,by decide+kernel,rfl,by decide+kernel,by decide+kernel⟩
def vD:FS:=
 ay (dJ (cg (aZ (aa (ai g7 (aa (aw (.int 1)) (aa (ai fx (aa (aw (.int 8)) (aa (ai bN (aa (ah 0) (af))) (af)))) (af)))) (af)))) (gN 1) (ay (cQ 2 (ai (nF 2 iD) (aa (ah 0) (aa (ah 1) (af)))))
 (ay (jj 3 (aL 2 1 fG (gk (lK bi (pu (aw (.int 2))) (aL 2 1 ck (cg (aa (aw (.int 5)) (af))))) (cg (af)))))
 (ym (ay (wW 4 1 br (aa (ah 3) (af)))
 (ay (fz (fy (dZ (ai (nF 1 dO) (aa (ah 3) (af))))) (bv (aw (.bl false))) (skip))
 (ay (qc 4 5)
 (ay (fz (fy (dZ (ai (nF 1 dO) (aa (ah 3) (af))))) (bv (aw (.bl false))) (skip))
 (skip)))))))))
 (bv (ai (nF 1 dO) (aa (cf (aa (cf (aa (aw (.int 0)) (aa (aw (.int 1)) (aa (aw (.int 2)) (aa (aw (.int 3)) (aa (aw (.int 4)) (af))))))) (aa (cf (aa (aw (.int 2)) (aa (aw (.int 3)) (aa (aw (.int 4)) (aa (aw (.int 0)) (aa (aw (.int 1)) (af))))))) (af)))) (af))))
def zx:List D->Option D:=iL .s 6 vD
theorem AE {f:Addr}{fd:FuncData}(B:Bt mg)(F:Fun K "law" "law" iO f fd)(fS:Cl P w K mg base 5 "_law_good" ["_law_square_here"] (fA K .s 1 dO))(kz:Cl P w K mg base 2 "_law_bag" ["_law_script","_law_at"] (fA K .n 2 iD))(gZ:Cl P w K mg base 3 "_law_square" ["_law_bag_here","_law_n"] (uq K .s 1 fG))(eV:Cl P w K mg base 4 "words_of" ["square"] (fA K .n 1 br))(bX:Cl P w K mg base 1 "_law_take" ["_law_bag_here","_law_many"] (uq K .s 1 ck)):FnOk P w K mg base mY 6 f fd ["_law_script"] (fA K .s 1 zx):=by
 refine uf (k:=5) F sc_law (by decide) λcdv A outer s H hid E hr=>?_
 exact(al (dM PassesOwn.never rfl (DIp.e (aW B.b_range (ag (aP (iu rfl) lu B.b_max (aD ao (aD (aP (gG rfl) jQ B.b_min (aD ao (aD (aP aV eW B.b_len (aD (ae 0) aU) (hv:=by kernel_rfl)) aU)) (hv:=by kernel_rfl)) aU)) (hv:=by kernel_rfl)) ar))) (az 1 sc_law.nd) (al (fj 2 sc_law.nd (cy kz (hr.mono (by decide)) (ag (ae 0) (ag (ae 1) ar))))
  (al (lA 3 sc_law.nd (lR 2 gZ (hr.mono (by decide)) (pk (vR (DP.ef ao) (lR 2 bX (hr.mono (by decide)) (DA.gf (ag ao ar)))) (DA.gf ar))))
  (x6 λ_=>
  (lW (xo 4 eV (hr.mono (by decide)) (ag (ae 3) ar) sc_law.nd)
  (lW (fq (gz (fF (cy fS (hr.mono (by decide)) (ag (ae 3) ar)))) (ax (bp h8)) bK)
  (wI 4 5 (yV 4 5 PassesOwn.never rfl sc_law.nd (xr 5 yq PySem.F.slot_list_append PySem.F.type_list_append)) (yf 4 PySem.F.slot_list_append PySem.F.type_list_append)
  (lW (fq (gz (fF (cy fS (hr.mono (by decide)) (ag (ae 3) ar)))) (ax (bp h8)) bK)
  (Aw bK)))))))))
  (ax (bp (cy fS (hr.mono (by decide)) (ag (QP.dp (sk (dn (sk (dn (QP.of ao) (dn (QP.of ao) (dn (QP.of ao) (dn (QP.of ao) (dn (QP.of ao) sA)))))) (dn (sk (dn (QP.of ao) (dn (QP.of ao) (dn (QP.of ao) (dn (QP.of ao) (dn (QP.of ao) sA)))))) sA jq) jq))) ar jq)))))
end
theorem vS(v:Nat): ∀l:List Nat,v∈l-> ∃j,(l.map nI).findIdx? (λd=>cF d (nI v))=some j/\j<l.length/\l.getD j 0=v
 | [],h=>absurd h List.not_mem_nil
 |y::l,h=>by
  rw[List.map_cons,List.findIdx?_cons,lN]
  by_cases e:y=v
  ·exact⟨0,by simp[e],by simp,by simpa using e⟩
  ·obtain⟨j,h1,h2,h3⟩:=vS v l ((List.mem_cons.mp h).resolve_left (Ne.symm e))
   refine⟨j+1,by simp[e,h1],by simp[h2],by simpa using h3⟩
structure Sg(n:Nat)(r x:List Nat)(S:Nat->Nat):Prop where
 ev: ∀y,y<n->jG (ci x) (nI (r.getD y 0))=some (nI (S y))
 lt: ∀y,y<n->S y<n
 inj: ∀y z,y<n->z<n->S y=S z->y=z
theorem fP {n:Nat}{l:List Nat}(nd:l.Nodup)(h: ∀z∈l,z<n):l.length<=n:=by
 have p:l.Perm ((List.range n).filter λz=>decide (z∈l)):=(List.perm_ext_iff_of_nodup nd (List.Pairwise.filter _ List.nodup_range)).mpr λz=>by
  rw[List.mem_filter,List.mem_range,decide_eq_true_eq];exact⟨λq=>⟨h z q,q⟩,λq=>q.2⟩
 rw[p.length_eq];exact Nat.le_trans (List.length_filter_le _ _) (by simp)
def om(S:Nat->Nat):Nat->Nat->Nat
 |0,s=>s
 |k+1,s=>S (om S k s)
def pz(S:Nat->Nat)(s z:Nat):Prop:= ∃k,om S k s=z
theorem il(S:Nat->Nat)(s:Nat):pz S s s:=⟨0,rfl⟩
theorem mE {S:Nat->Nat}{s z:Nat}(h:pz S s z):pz S s (S z):=let⟨k,e⟩:=h;⟨k+1,by show S (om S k s)=_;rw[e]⟩
theorem n9(S:Nat->Nat)(s m:Nat): ∀k,om S k (om S m s)=om S (k+m) s
 |0=>by rw[Nat.zero_add];rfl
 |k+1=>by rw[Nat.succ_add];show S _=S _;rw[n9 S s m k]
theorem iE {S:Nat->Nat}{a b c:Nat}(h1:pz S a b)(h2:pz S b c):pz S a c:=by
 obtain⟨m,rfl⟩:=h1
 obtain⟨k,rfl⟩:=h2
 exact⟨k+m,(n9 S a m k).symm⟩
structure Wlk(n:Nat)(S:Nat->Nat)(s:Nat)(W:List Nat)(t:Nat):Prop where
 nd:W.Nodup
 lt: ∀z∈W,z<n
 hs:s∈W
 ht:t∈W
 pre: ∀z∈W,z≠s-> ∃y∈W,y≠t/\S y=z
 nxt: ∀z∈W,z≠t->S z∈W
 on: ∀z∈W,pz S s z
 back: ∀z∈W,pz S z t
structure Cyc(n:Nat)(S:Nat->Nat)(s:Nat)(W:List Nat):Prop where
 lt: ∀z∈W,z<n
 mem: ∀z,z∈W↔pz S s z
 back: ∀z,z∈W->pz S z s
section
variable {n:Nat}{r x:List Nat}{S:Nat->Nat}(H:Sg n r x S)
theorem Wlk.start {s:Nat}(hs:s<n):Wlk n S s [s] s:=
 ⟨by simp,λz hz=>by rw[List.mem_singleton] at hz;rw[hz];exact hs,by simp,by simp,λz hz hn=>absurd (List.mem_singleton.mp hz) hn,λz hz hn=>absurd (List.mem_singleton.mp hz) hn,λz hz=>by rw[List.mem_singleton] at hz;rw[hz];exact il S s,λz hz=>by rw[List.mem_singleton] at hz;rw[hz];exact il S s⟩
include H
theorem Wlk.notin {s t:Nat}{W:List Nat}(w:Wlk n S s W t)(h:S t≠s):S t∉W:=λhm=>by
 obtain⟨y,y1,y2,y3⟩:=w.pre _ hm h
 exact y2 (H.inj _ _ (w.lt _ y1) (w.lt _ w.ht) y3)
theorem Wlk.next {s t:Nat}{W:List Nat}(w:Wlk n S s W t)(h:S t≠s):Wlk n S s (W++[S t]) (S t):=by
 have hm:=w.notin H h
 have cs: ∀ {P:Nat->Prop},(∀z∈W,P z)->P (S t)-> ∀z∈W++[S t],P z:=λh1 h2 z hz=>(List.mem_append.mp hz).elim (h1 z) λq=>by rw[List.mem_singleton] at q;rw[q];exact h2
 refine⟨List.nodup_append.mpr ⟨w.nd,by simp,λu hu v hv=>by rw[List.mem_singleton] at hv;subst hv;exact λe=>hm (e▸hu)⟩,cs w.lt (H.lt _ (w.lt _ w.ht)),List.mem_append_left _ w.hs,by simp,cs (λz hz hn=>?_) (λ_=>⟨t,List.mem_append_left _ w.ht,λe=>hm (e▸w.ht),rfl⟩),cs (λz hz hn=>?_) (λq=>absurd rfl q),cs w.on (mE (w.on _ w.ht)),cs (λz hz=>mE (w.back z hz)) (il S _)⟩
 ·obtain⟨y,y1,_,y3⟩:=w.pre z hz hn
  exact⟨y,List.mem_append_left _ y1,λe=>hm (e▸y1),y3⟩
 ·by_cases e:z=t
  ·subst e;simp
  ·exact List.mem_append_left _ (w.nxt z hz e)
omit H in
theorem Wlk.done {s t:Nat}{W:List Nat}(w:Wlk n S s W t)(h:S t=s):Cyc n S s W:=by
 refine⟨w.lt,λz=>⟨w.on z,?_⟩,λz hz=>h▸mE (w.back z hz)⟩
 rintro⟨k,rfl⟩
 induction k with
 |zero=>exact w.hs
 |succ k ih=>
  show S (om S k s)∈W
  by_cases e:om S k s=t
  ·rw[e,h];exact w.hs
  ·exact w.nxt _ ih e
theorem wx {s:Nat}(hs:s<n): ∃W,Cyc n S s W:=by
 have go: ∀(f:Nat) (W:List Nat) (t:Nat),n<f+W.length->Wlk n S s W t-> ∃W,Cyc n S s W:=by
  intro f
  induction f with
  |zero=>intro W t h w;exact absurd (fP w.nd w.lt) (by omega)
  |succ f ih=>
   intro W t h w
   by_cases e:S t=s
   ·exact⟨W,w.done e⟩
   ·exact ih (W++[S t]) (S t) (by rw[List.length_append,List.length_singleton];omega) (w.next H e)
 exact go (n+1) [s] s (by omega) (Wlk.start hs)
theorem lU {s z:Nat}(hs:s<n)(h:pz S s z):pz S z s:=by
 obtain⟨W,c⟩:=wx H hs
 exact c.back z ((c.mem z).mpr h)
end
def led(S:Nat->Nat)(s:Nat):Prop:= ∀z,pz S s z->s<=z
noncomputable def cV(S:Nat->Nat)(s:Nat):Bool:= @decide (led S s) (Classical.propDecidable _)
theorem ledB_iff {S:Nat->Nat}{s:Nat}:cV S s=true↔led S s:=by unfold cV;exact @decide_eq_true_iff _ (Classical.propDecidable _)
def Bq:FT:=df (ak kL (ak aG (ah 0) (ak aG (dA 3) (ja (aw (.int 1))))) (ah 2))
def Bo:FS:=bA (aL 3 1 fW (cg (aa (ak aG (ah 0) (ak aG (dA 3) (ja (aw (.int 1))))) (af))))
def CY:FS:=fz (df (ak hZ (ai nL (aa (dA 3) (af))) (ah 2))) ((λρ=>(bA (aL 1 1 fW (cg (aa (ah 3) (af))))) (uM 3 ρ))) (skip)
def fD:FS:=
 ay (cQ 1 (bY (af)))
 (ay (dJ (cg (aZ (aa (ai bN (aa (ah 0) (af))) (af)))) (gN 2) (ay (cQ 3 (bY (aa (ah 2) (af))))
 (ay (i8 Bq Bo 16)
 CY)))
 (kF 1))
def kP:List D->Option D:=iL .n 4 fD
structure Wl(n:Nat)(S:Nat->Nat)(s:Nat)(W:List Nat)(t:Nat):Prop where
 w:Wlk n S s W t
 last:W.getLast?=some t
 eq:W=(List.range W.length).map λi=>om S i s
structure Cy(n:Nat)(S:Nat->Nat)(s:Nat)(W:List Nat):Prop where
 c:Cyc n S s W
 eq:W=(List.range W.length).map λi=>om S i s
 per:om S W.length s=s
 nd:W.Nodup
 pos:0<W.length
structure Sh(n:Nat)(S:Nat->Nat):Prop where
 lt: ∀y,y<n->S y<n
 inj: ∀y z,y<n->z<n->S y=S z->y=z
theorem Sh.sg {n:Nat}{S:Nat->Nat}(H:Sh n S):Sg n ((List.range n).map S) (List.range n) S:=by
 refine⟨λy hy=>?_,H.lt,H.inj⟩
 have e:((List.range n).map S).getD y 0=S y:=by simp[List.getD,hy]
 rw[e];obtain⟨j,h1,h2,h3⟩:=vS (S y) (List.range n) (List.mem_range.mpr (H.lt y hy))
 have:j=S y:=by
  rw[List.length_range] at h2;simpa [List.getD,h2] using h3
 subst this;show(if cE ((List.range n).map nI)<=32 then(qj ((List.range n).map nI) (nI (S y))).map (λj=>D.int j) else none)=_
 rw[if_pos (by rw[iW];omega)]
 unfold qj;rw[h1];rfl
theorem Wl.start {n:Nat}{S:Nat->Nat}{s:Nat}(hs:s<n):Wl n S s [s] s:=⟨Wlk.start hs,rfl,rfl⟩
theorem Wl.tt {n:Nat}{S:Nat->Nat}{s t:Nat}{W:List Nat}(w:Wl n S s W t):S t=om S W.length s:=by
 have h:=w.last
 have e:=w.eq
 have hp:0<W.length:=by
  cases W with
  |nil=>cases h
  |cons=>simp
 rw[List.getLast?_eq_getElem?] at h;have e2:W[W.length-1]? =some (om S (W.length-1) s):=by
  have q: ∀k,k<W.length->((List.range W.length).map λi=>om S i s)[k]? =some (om S k s):=λk hk=>by rw[List.getElem?_map,List.getElem?_range hk];rfl
  have q2:=q (W.length-1) (by omega)
  rw[<-e] at q2;exact q2
 have e3:=h.symm.trans e2
 injection e3 with e3
 have:W.length=(W.length-1)+1:=by omega
 rw[this];show S t=S (om S (W.length-1) s);rw[<-e3]
theorem Wl.next {n:Nat}{S:Nat->Nat}(H:Sh n S){s t:Nat}{W:List Nat}(w:Wl n S s W t)(h:S t≠s):Wl n S s (W++[S t]) (S t):=by
 refine⟨w.w.next H.sg h,by simp,?_⟩
 rw[List.length_append,List.length_singleton,List.range_succ,List.map_append,<-w.eq,w.tt];rfl
theorem Wl.done {n:Nat}{S:Nat->Nat}{s t:Nat}{W:List Nat}(w:Wl n S s W t)(h:S t=s):Cy n S s W:=by
 refine⟨w.w.done h,w.eq,by rw[<-w.tt];exact h,w.w.nd,?_⟩
 have:=w.last
 cases W with
 |nil=>cases this
 |cons=>simp
theorem Cy.uniq {n:Nat}{S:Nat->Nat}{s:Nat}{W W':List Nat}(a:Cy n S s W)(b:Cy n S s W'):W=W':=by
 have key: ∀ {W W':List Nat},Cy n S s W->Cy n S s W'-> ¬W.length<W'.length:=λ{W W'} a b h=>by
  have e0:W'[0]? =some s:=by rw[b.eq];simp[b.pos];rfl
  have e1:W'[W.length]? =some s:=by rw[b.eq];simp[h];exact a.per
  have:=(List.getElem?_inj (by exact b.pos) b.nd).mp (e0.trans e1.symm)
  have:=a.pos
  omega
 have:W.length=W'.length:=by have h1:=key a b;have h2:=key b a;omega
 rw[a.eq,b.eq,this]
section
variable {n:Nat}{S:Nat->Nat}(H:Sh n S)(hn:n<=14)
abbrev xD(n:Nat)(S:Nat->Nat)(F:List D)(s:Nat)(W:List Nat):aC:=[.v (.lst (((List.range n).map S).map nI)),.own F,.v (nI s),.own (W.map nI)]
theorem ye {W:List Nat}{t:Nat}(h:W.getLast?=some t):aG (.lst (W.map nI)) (.int (-1))=some (nI t):=by
 show nQ (W.map nI) (-1)=_;have hp:0<W.length:=by
  cases W with
  |nil=>cases h
  |cons=>simp
 unfold nQ qO;rw[if_neg (by omega),if_pos (by rw[List.length_map];omega),Option.bind_some]
 have:(-1+((W.map nI).length:Int)).toNat=W.length-1:=by rw[List.length_map];omega
 rw[this,List.getElem?_map,<-List.getLast?_eq_getElem?,h];rfl
theorem A2(ρ:aC):ja (aw (.int 1)) ρ=some (.int (-1)):=rfl
include H in
theorem wO {F:List D}{s t:Nat}{W:List Nat}(w:Wl n S s W t):ak aG (ah 0) (ak aG (dA 3) (ja (aw (.int 1)))) (xD n S F s W)=some (nI (S t)):=by
 refine(au (x:=.lst (((List.range n).map S).map nI)) (y:=nI t) rfl ((au (x:=.lst (W.map nI)) rfl (A2 _)).trans (ye w.last))).trans ?_
 have ht:=w.w.lt _ w.w.ht
 refine(tX (by simp[ht])).trans ?_
 congr 2
 simp[List.getD,ht]
include H hn in
theorem oG(F:List D)(s:Nat): ∀(f:Nat) (W:List Nat) (t:Nat),n<f+W.length->Wl n S s W t->
 ∃L,i8 Bq Bo f (xD n S F s W)=.nx (xD n S F s L)/\Cy n S s L
 |0,W,t,h,w=>absurd (fP w.w.nd w.w.lt) (by omega)
 |f+1,W,t,h,w=>by
  unfold i8;have tt:Bq (xD n S F s W)=some (!decide (S t=s)):=by
   unfold Bq;refine fB ((au (x:=nI (S t)) (y:=nI s) (wO H w) rfl).trans ?_)
   rw[jV (by rw[gX];omega),lN]
  rw[tt]
  by_cases e:S t=s
  ·rw[show(!decide (S t=s))=false by simp[e]]
   exact⟨W,rfl,w.done e⟩
  ·rw[show(!decide (S t=s))=true by simp[e]]
   have ll:=fP w.w.nd w.w.lt
   have b:Bo (xD n S F s W)=.nx (xD n S F s (W++[S t])):=by
    unfold Bo;refine(kA (i:=3) (bs:=W.map nI) (d:=nI (S t)) rfl (bm (aq (wO H w) rfl)) rfl (by rw[List.length_map];omega)).trans ?_
    unfold xD;rw[List.map_append];rfl
   obtain⟨L,h1,h2⟩:=oG F s f (W++[S t]) (S t) (by rw[List.length_append,List.length_singleton];omega) (w.next H e)
   refine⟨L,?_,h2⟩
   dsimp only;rw[b];exact h1
theorem xn: ∀l:List Nat,fY (l.map nI)=some (l.map λ(z:Nat)=>(z:Int))
 | []=>rfl
 |z::l=>by rw[List.map_cons];show(fY (l.map nI)).map _=_;rw[xn l];rfl
theorem Cb {l:List Nat}{s:Nat}(h:s∈l): ∃v:Int,nL [.lst (l.map nI)]=some (.int v)/\(v=s↔ ∀z∈l,s<=z):=by
 refine⟨kf (l.map λ(z:Nat)=>(z:Int)),?_,?_⟩
 ·show((fY (l.map nI)).bind λns=>if ns.isEmpty=true then none else some (D.int (kf ns)))=_
  rw[xn];cases l with
  |nil=>exact absurd h List.not_mem_nil
  |cons=>rfl
 ·cases l with
  |nil=>exact absurd h List.not_mem_nil
  |cons a l=>
   obtain⟨m1,m2⟩:=qu (l.map λ(z:Nat)=>(z:Int)) (a:Int)
   have m1:kf ((a::l).map λ(z:Nat)=>(z:Int))∈(a::l).map λ(z:Nat)=>(z:Int):=m1
   have m2: ∀x∈(a::l).map (λ(z:Nat)=>(z:Int)),kf ((a::l).map λ(z:Nat)=>(z:Int))<=x:=m2
   constructor
   ·intro e z hz
    have:=m2 z (List.mem_map.mpr ⟨z,hz,rfl⟩)
    omega
   ·intro q
    have h1:=m2 s (List.mem_map.mpr ⟨s,h,rfl⟩)
    obtain⟨z,hz,e⟩:=List.mem_map.mp m1
    have h2:=q z hz
    omega
include H hn in
theorem kW: ∃C:Nat->List Nat,(∀s,s<n->Cy n S s (C s))/\
 kP [.lst (((List.range n).map S).map nI)]=some (.lst (((List.range n).filter (cV S)).map λs=>.lst ((C s).map nI))):=by
 have hC: ∀s,∃L,s<n->Cy n S s L:=λs=>by
  by_cases hs:s<n
  ·obtain⟨L,_,h⟩:=oG H hn [] s 16 [s] s (by simp;omega) (Wl.start hs)
   exact⟨L,λ_=>h⟩
  ·exact⟨[],λh=>absurd h hs⟩
 obtain⟨C,hC⟩:=Classical.skolem.mp hC
 refine⟨C,hC,?_⟩
 have lp: ∀(l:List Nat),(∀s∈l,s<n)-> ∀(F:List D) (s2 s3:Sl),F.length+l.length<=900-> ∃s2' s3',fw (gN 2) (ay (cQ 3 (bY (aa (ah 2) (af)))) (ay (i8 Bq Bo 16) CY)) (l.map nI) [.v (.lst (((List.range n).map S).map nI)),.own F,s2,s3]
  =.nx [.v (.lst (((List.range n).map S).map nI)),.own (F++(l.filter (cV S)).map λs=>.lst ((C s).map nI)),s2',s3']:=by
  intro l
  induction l with
  |nil=>intro _ F s2 s3 _;exact⟨s2,s3,by simp[fw]⟩
  |cons s l ih=>
   intro hl F s2 s3 hF;rw[List.length_cons] at hF;have hs:=hl s (List.mem_cons_self ..)
   obtain⟨L,hL,K⟩:=oG H hn F s 16 [s] s (by simp;omega) (Wl.start hs)
   cases K.uniq (hC s hs)
   have b1:(ay (cQ 3 (bY (aa (ah 2) (af)))) (ay (i8 Bq Bo 16) CY)) [.v (.lst (((List.range n).map S).map nI)),.own F,.v (nI s),s3]=CY (xD n S F s (C s)):=
    (av (ρ':=xD n S F s [s]) ((en (gu (ds:=[nI s]) rfl (by simp))).trans rfl)).trans (av hL)
   obtain⟨v,hv,hv2⟩:=Cb ((K.c.mem s).mpr (il S s))
   have hv3:v=s↔cV S s=true:=hv2.trans ((Iff.intro (λq z hz=>q z ((K.c.mem z).mpr hz)) λq z hz=>q z ((K.c.mem z).mp hz)).trans ledB_iff.symm)
   have ih':=ih λz hz=>hl z (List.mem_cons_of_mem _ hz)
   have tt:df (ak hZ (ai nL (aa (dA 3) (af))) (ah 2)) (xD n S F s (C s))=some (cV S s):=by
    refine fB ((au (x:=.int v) (y:=nI s) ((ba (ds:=[.lst ((C s).map nI)]) rfl).trans hv) rfl).trans ?_)
    rw[jp (by rw[gX];omega),iA]
    congr 2
    rw[Bool.eq_iff_iff,decide_eq_true_eq];exact hv3
   cases e:cV S s
   ·rw[e] at tt
    obtain⟨s2',s3',h⟩:=ih' F (.v (nI s)) (.own ((C s).map nI)) (by omega)
    refine⟨s2',s3',?_⟩
    rw[List.map_cons,List.filter_cons_of_neg (by rw[e];decide),<-h]
    exact cD (ρ1:=[.v (.lst (((List.range n).map S).map nI)),.own F,.v (nI s),s3]) rfl (b1.trans (nw tt))
   ·rw[e] at tt
    obtain⟨s2',s3',h⟩:=ih' (F++[.lst ((C s).map nI)]) (.v (nI s)) (.v (.lst ((C s).map nI))) (by rw[List.length_append,List.length_singleton];omega)
    refine⟨s2',s3',?_⟩
    rw[List.map_cons,List.filter_cons_of_pos e,List.map_cons,List.append_cons,<-h];exact cD (ρ1:=[.v (.lst (((List.range n).map S).map nI)),.own F,.v (nI s),s3]) rfl (b1.trans ((mI tt).trans ((kA (i:=1) (bs:=F) (d:=.lst ((C s).map nI)) rfl (bm rfl) rfl (by omega)).trans rfl)))
 obtain⟨s2',s3',h⟩:=lp (List.range n) (λs hs=>List.mem_range.mp hs) [] .no .no (by simp;omega)
 apply cw (kd:=.n) (n:=4) (t:=fD)
 unfold fD;refine(av (ρ':=[.v (.lst (((List.range n).map S).map nI)),.own [],.no,.no]) ((en (gu (ds:=[]) rfl (by simp))).trans rfl)).trans ?_
 refine(av ((db (ds:=(List.range n).map nI) (bm (cB (n:=n) (aq ((vA ((List.range n).map S) _ _ rfl).trans (by simp)) rfl) (by omega)))).trans h)).trans ?_
 rfl
end
theorem uy(r:List Nat):r=(List.range r.length).map λy=>r.getD y 0:=by
 apply List.ext_getElem (by simp)
 intro i h1 h2;simp[List.getD,h1]
theorem eB {n:Nat}{o:List Nat}(O:Ord n o){v:Nat}(hv:v<n):o.idxOf v<n/\o.getD (o.idxOf v) 0=v:=by
 have hi:=List.idxOf_lt_length_of_mem (O.has hv)
 refine⟨by rw[<-O.len];exact hi,?_⟩
 rw[List.getD_eq_getElem?_getD,List.getElem?_eq_getElem hi,List.getElem_idxOf];rfl
theorem oK {n:Nat}{o:List Nat}(O:Ord n o){c:Nat}(hc:c<n):o.idxOf (o.getD c 0)=c:=O.inj (eB O (O.get hc)).1 hc (eB O (O.get hc)).2
def fE:FS:=
 bv (AC pD pD (ai fx (aa (ah 1) (aa (ah 2) (af)))) (ah 0) (ai g7 (aa (ah 1) (aa (ah 2) (af)))))
def kZ:List D->Option D:=iL .s 3 fE
theorem jf {p:FT}{t:FS}{ρ:aC}(h:p ρ=some false):fz p t skip ρ=.nx ρ:=(nw h).trans rfl
theorem AS {F G:D->D->Option D}{f g h:FE}{ρ:aC}{x y z:D}{p q:Bool}(h1:f ρ=some x)(h2:g ρ=some y)(h3:F x y=some (.bl p))(h4:h ρ=some z)(h5:G y z=some (.bl q)):AC F G f g h ρ=some (.bl (p&&q)):=by
 unfold AC;rw[h1,Option.bind_some,h2,Option.bind_some,h3];show(if p=true then _ else _)=_
 cases p with
 |true=>rw[if_pos rfl,h4];exact h5
 |false=>rfl
theorem Cs {p:FT}{f g:FE}{ρ:aC}(h:p ρ=some true):zJ p f g ρ=f ρ:=by unfold zJ;rw[h];rfl
theorem Cg {p:FT}{f g:FE}{ρ:aC}(h:p ρ=some false):zJ p f g ρ=g ρ:=by unfold zJ;rw[h];rfl
theorem Az {f:FE}{ρ:aC}{ds:List D}(h:f ρ=some (.tup ds)):ia f ρ=some ds:=by unfold ia;rw[h];rfl
theorem j4 {f:FE}{ρ:aC}{ds:List D}(h:f ρ=some (.lst ds)):ia f ρ=some ds:=by unfold ia;rw[h];rfl
structure Gd(n:Nat)(r x:List Nat):Prop where
 R:Ord n r
 X:Ord n x
 lo:2<=n
 hi:n<=6
def jr(v a b:Nat):Bool:=decide (min a b<v)&&decide (v<max a b)
theorem tJ(v a b:Nat):kZ [nI v,nI a,nI b]=some (.bl (jr v a b)):=by
 apply cw (kd:=.s) (n:=3) (t:=fE)
 unfold fE;refine de (AS (x:=nI (min a b)) (y:=nI v) (z:=nI (max a b)) ?_ rfl ?_ ?_ ?_)
 ·refine(ba (ds:=[nI a,nI b]) rfl).trans ?_
  show some (D.int _)=some (D.int _);congr 2
  split<;>omega
 ·show some (D.bl (decide (((min a b:Nat):Int)<v)))=_
  congr 2
  rw[Bool.eq_iff_iff,decide_eq_true_eq,decide_eq_true_eq];omega
 ·refine(ba (ds:=[nI a,nI b]) rfl).trans ?_
  show some (D.int _)=some (D.int _);congr 2
  split<;>omega
 ·show some (D.bl (decide ((v:Int)<((max a b:Nat):Int))))=_
  congr 2
  rw[Bool.eq_iff_iff,decide_eq_true_eq,decide_eq_true_eq];omega
theorem DQ(a b c d:Nat):cF (.tup [nI a,nI b]) (.tup [nI c,nI d])=(decide (a=c)&&decide (b=d)):=by
 have:=yY [(a:Int),(b:Int)] [(c:Int),(d:Int)]
 refine this.trans ?_
 rw[Bool.eq_iff_iff];simp only[decide_eq_true_eq,Bool.and_eq_true,List.cons.injEq,and_true];omega
theorem Be(a b:Nat):dr (.tup [nI a,nI b])<=32:=wk [a,b]
theorem zS {S:Nat->Nat}{a b c:Nat}(h1:pz S a b)(h2:pz S b c):pz S a c:=by
 obtain⟨i,rfl⟩:=h1
 obtain⟨j,rfl⟩:=h2
 exact⟨j+i,(n9 S a i j).symm⟩
def di(r x:List Nat)(y:Nat):Nat:=x.idxOf (r.getD y 0)
theorem sF {n:Nat}{r x:List Nat}(R:Ord n r)(X:Ord n x){y:Nat}(hy:y<n):di r x y<n/\x.getD (di r x y) 0=r.getD y 0:=eB X (R.get hy)
theorem jO {n:Nat}{r x:List Nat}(R:Ord n r)(X:Ord n x):Sh n (di r x):=⟨λy hy=>(sF R X hy).1,λy z hy hz e=>by
 have h1:=(sF R X hy).2
 have h2:=(sF R X hz).2
 rw[e] at h1;exact R.inj hy hz (h1.symm.trans h2)⟩
set_option maxHeartbeats 1000000
def nn:FS:=
 ay (jj 2 (aL 0 1 du (cg (aa (aw (.int 4)) (af)))))
 (ay (jj 3 (lK bi (pu (aw (.int 1))) (aL 0 1 du (cg (aa (ak kQ (ah 1) (aw (.int 1))) (af))))))
 (ay (jj 4 (aL 0 1 gK (cg (aa (ah 1) (af)))))
 (ay (rO 5 (aL 0 1 gK (cg (aa (ah 1) (af)))))
 (ay (fz (df (ak hZ (ah 2) (aw (.int 1)))) (ay (aQ 4 (xC (ah 1)))
 (cQ 5 (aS 1 (ia (ah 4)) (gN 8) (fI) (ak bD (ak bi (ah 8) (ah 3)) (ah 1))))) (skip))
 (ay (dJ (cg (aZ (aa (ah 1) (af)))) (gN 6) (ay (aQ 7 (ak bD (ak bi (ah 6) (aw (.int 1))) (ah 1)))
 (fz (df (ak hZ (ak aG (dA 5) (ah 6)) (ak aG (ah 4) (ah 6)))) (gg (gT 2 (gE (eF 5 (ah 6)) (gE (eF 5 (ah 7)) (lh)))) (pu (cf (aa (ak aG (dA 5) (ah 7)) (aa (ak aG (dA 5) (ah 6)) (af)))))) (skip))))
 (bv (cf (aa (ai ik (aa (ah 4) (af))) (aa (ai ik (aa (dA 5) (af))) (af))))))))))
def nM:List D->List D->Option (D×List D):=uV .s 8 nn
theorem sy {N:Nat}{a b:Int}(B:Bag N a b){n:Nat}(h2:2<=n)(h6:n<=6)(hN:N<=800000000): ∃(r x:List Nat) (a' b':Int),nM (bh a b) [nI n]=some (aN r x,bh a' b')/\Sq n r x/\Bag (N+2*n+2) a' b':=by
 obtain⟨p,a1,b1,e1,B1,p0,p1⟩:=lv (m:=4) B (by omega) (by decide) (by decide)
 obtain⟨q,a2,b2,e2,B2,q0,q1⟩:=lv (m:=(n:Int) -1) B1 (by omega) (by omega) (Nat.lt_of_lt_of_le (show((n:Int) -1).natAbs<10^10 by omega) (by decide))
 obtain⟨r,a3,b3,e3,or,B3⟩:=qa B2 (n:=n) (by omega) (by omega)
 obtain⟨x,a4,b4,e4,ox,B4⟩:=qa B3 (n:=n) (by omega) (by omega)
 obtain⟨q',rfl⟩: ∃j:Nat,q=(j:Int):=⟨q.toNat,by omega⟩
 have r0:oE 8 (bh a b) [nI n]=[.arg (bh a b),.v (nI n),.no,.no,.no,.no,.no,.no]:=rfl
 have s1:jj 2 (aL 0 1 du (cg (aa (aw (.int 4)) (af)))) [.arg (bh a b),.v (nI n),.no,.no,.no,.no,.no,.no]=.nx [.arg (bh a1 b1),.v (nI n),.v (.int p),.no,.no,.no,.no,.no]:=
  (lz (cU (i:=0) (n:=1) (b0:=bh a b) (ds:=[.int 4]) rfl (bm rfl) rfl rfl e1)).trans rfl
 have s2:jj 3 (lK bi (pu (aw (.int 1))) (aL 0 1 du (cg (aa (ak kQ (ah 1) (aw (.int 1))) (af))))) [.arg (bh a1 b1),.v (nI n),.v (.int p),.no,.no,.no,.no,.no]=.nx [.arg (bh a2 b2),.v (nI n),.v (.int p),.v (nI (q'+1)),.no,.no,.no,.no]:=
  (lz (tD (mU rfl) (cU (i:=0) (n:=1) (b0:=bh a1 b1) (ds:=[.int ((n:Int) -1)]) rfl (bm rfl) rfl rfl e2) (show bi (.int 1) (nI q')=some (nI (q'+1)) by rw[cO];simp;omega))).trans rfl
 have s3:jj 4 (aL 0 1 gK (cg (aa (ah 1) (af)))) [.arg (bh a2 b2),.v (nI n),.v (.int p),.v (nI (q'+1)),.no,.no,.no,.no]=.nx [.arg (bh a3 b3),.v (nI n),.v (.int p),.v (nI (q'+1)),.v (.lst (r.map nI)),.no,.no,.no]:=
  (lz (cU (i:=0) (n:=1) (b0:=bh a2 b2) (ds:=[nI n]) rfl (bm rfl) rfl rfl e3)).trans rfl
 have s4:rO 5 (aL 0 1 gK (cg (aa (ah 1) (af)))) [.arg (bh a3 b3),.v (nI n),.v (.int p),.v (nI (q'+1)),.v (.lst (r.map nI)),.no,.no,.no]=.nx [.arg (bh a4 b4),.v (nI n),.v (.int p),.v (nI (q'+1)),.v (.lst (r.map nI)),.own (x.map nI),.no,.no]:=
  (xM (cU (i:=0) (n:=1) (b0:=bh a3 b3) (ds:=[nI n]) rfl (bm rfl) rfl rfl e4)).trans rfl
 have s5: ∃(r' x':List Nat),fz (df (ak hZ (ah 2) (aw (.int 1)))) (ay (aQ 4 (xC (ah 1)))
  (cQ 5 (aS 1 (ia (ah 4)) (gN 8) (fI) (ak bD (ak bi (ah 8) (ah 3)) (ah 1))))) (skip) [.arg (bh a4 b4),.v (nI n),.v (.int p),.v (nI (q'+1)),.v (.lst (r.map nI)),.own (x.map nI),.no,.no]=.nx [.arg (bh a4 b4),.v (nI n),.v (.int p),.v (nI (q'+1)),.v (.lst (r'.map nI)),.own (x'.map nI),.no,.no]/\Ord n r'/\Ord n x':=by
  unfold fz df;rw[au (x:=.int p) (y:=.int 1) rfl rfl,jp (by rw[gX];omega),iA]
  by_cases hp:p=1
  ·refine⟨List.range n,(List.range n).map λi=>(i+(q'+1)) % n,?_,⟨.refl _⟩,yd n h2 h6 (q'+1) (by omega) (by omega)⟩
   rw[decide_eq_true hp];simp only[qX];rw[av ((bb (zb (n:=n) (by omega) (ah 1) _ rfl)).trans rfl)]
   refine(en (cb (ds:=(List.range n).map nI) (ys:=(List.range n).map λi=>nI ((i+(q'+1)) % n)) rfl (by simp;omega) (cZ _ λi hi=>⟨_,rfl,?_⟩))).trans ?_
   ·exact(au ((au (x:=nI i) (y:=nI (q'+1)) rfl rfl).trans (DR _ _)) (y:=nI n) rfl).trans (Bd (by omega))
   ·rw[List.map_map];rfl
  ·refine⟨r,x,?_,or,ox⟩
   rw[decide_eq_false hp];simp only[qX,skip]
 obtain⟨r',x',s5,or',ox'⟩:=s5
 obtain⟨x2,t6,t7,lp,ox2,hne⟩:=zk (bh a4 b4) (.int p) (nI (q'+1)) or' h2 n 0 x' .no .no (by omega) ox' (λi h=>absurd h (Nat.not_lt_zero _))
 have s6:dJ (cg (aZ (aa (ah 1) (af)))) (gN 6) uc [.arg (bh a4 b4),.v (nI n),.v (.int p),.v (nI (q'+1)),.v (.lst (r'.map nI)),.own (x'.map nI),.no,.no]=.nx [.arg (bh a4 b4),.v (nI n),.v (.int p),.v (nI (q'+1)),.v (.lst (r'.map nI)),.own (x2.map nI),t6,t7]:=by
  unfold dJ;rw[bm (cB (n:=n) rfl (by omega))]
  dsimp only;rw[List.range_eq_range'];exact lp
 refine⟨r',x2,a4,b4,?_,⟨or',ox2,hne⟩,by rw[show N+2*n+2=N+1+1+n+n by omega];exact B4⟩
 unfold nM uV nn;rw[r0,av s1,av s2,av s3,av s4,av s5];rw[av s6];have s7:bv (cf (aa (ai ik (aa (ah 4) (af))) (aa (ai ik (aa (dA 5) (af))) (af)))) [.arg (bh a4 b4),.v (nI n),.v (.int p),.v (nI (q'+1)),.v (.lst (r'.map nI)),.own (x2.map nI),t6,t7]=.rt (aN r' x2) [.arg (bh a4 b4),.v (nI n),.v (.int p),.v (nI (q'+1)),.v (.lst (r'.map nI)),.own (x2.map nI),t6,t7]:=by
  unfold bv;rw[dv (ds:=[ci r',ci x2]) rfl (by simp)]
 rw[s7];rfl
set_option maxHeartbeats 4000000
set_option maxHeartbeats 1000000
theorem jN {n:Nat}{o:List Nat}(O:Ord n o){v:Nat}(hv:v<n):jG (ci o) (nI v)=some (nI (o.idxOf v)):=by
 obtain⟨j,h1,h2,h3⟩:=vS v o (O.has hv)
 show(if cE (o.map nI)<=32 then(qj (o.map nI) (nI v)).map (λj=>D.int j) else none)=_
 rw[if_pos (by rw[iW];omega)]
 unfold qj;rw[h1];have:j=o.idxOf v:=by
  have:=oK O (c:=j) (by rw[<-O.len];exact h2)
  rw[h3] at this;exact this.symm
 rw[<-this];rfl
theorem gd {p:Nat->Bool}{j:Nat}: ∀ {n:Nat},j<n->(∀i,i<n->(p i=true↔i=j))->(List.range n).filter p=[j]
 |0,h,_=>absurd h (Nat.not_lt_zero _)
 |n+1,hj,h=>by
  rw[List.range_succ,List.filter_append]
  by_cases e:j=n
  ·subst e
   have e1:(List.range j).filter p=[]:=List.filter_eq_nil_iff.mpr λa ha q=>by
    rw[List.mem_range] at ha;have:=(h a (by omega)).mp q
    omega
   rw[e1,List.filter_cons_of_pos ((h j (by omega)).mpr rfl)];rfl
  ·rw[gd (n:=n) (by omega) λi hi=>h i (by omega),List.filter_cons_of_neg λq=>e ((h n (by omega)).mp q).symm];rfl
theorem mC(a b:Nat):hZ (nI a) (nI b)=some (.bl (decide (a=b))):=by rw[jp (by rw[gX];omega),lN]
theorem jD {g:FG}{b:FS}{P:Nat->aC->Prop}: ∀(k j:Nat),(∀i ρ,j<=i->i<j+k->P i ρ-> ∃ρ1 ρ2,g (nI i) ρ=some ρ1/\b ρ1=.nx ρ2/\P (i+1) ρ2)-> ∀ρ,P j ρ-> ∃ρ',fw g b ((List.range' j k).map nI) ρ=.nx ρ'/\P (j+k) ρ'
 |0,j,_,ρ,p=>⟨ρ,rfl,p⟩
 |k+1,j,h,ρ,p=>by
  obtain⟨ρ1,ρ2,h1,h2,p2⟩:=h j ρ (Nat.le_refl _) (by omega) p
  obtain⟨ρ',e,p'⟩:=jD k (j+1) (λi ρ a b=>h i ρ (by omega) (by omega)) ρ2 p2
  refine⟨ρ',?_,by rw[show j+(k+1)=j+1+k by omega];exact p'⟩
  rw[List.range'_succ,List.map_cons];exact(cD h1 h2).trans e
theorem AB(a b:Nat):qy (a:Int) ((b:Int) -a).toNat=(List.range' a (b-a)).map nI:=by
 unfold qy;rw[show((b:Int) -a).toNat=b-a by omega,List.range_eq_range',List.range'_eq_map_range,List.range'_eq_map_range,List.map_map,List.map_map]
 refine List.map_congr_left λi _=>?_
 show D.int _=D.int _;congr 1
 simp
theorem wu {f:FA}{ρ:aC}{a b:Nat}(h:f ρ=some [nI a,nI b])(ha:a<=1000)(hb:b<=1000):jI f ρ=some ((List.range' a (b-a)).map nI):=by
 unfold jI;rw[h];show(if(a:Int).natAbs<4000000000/\(b:Int).natAbs<4000000000 then some (qy (a:Int) ((b:Int) -a).toNat) else none)=_
 rw[if_pos ⟨by omega,by omega⟩,AB]
theorem A3(ns:List Int)(k:Nat)(hk:1<=k)(ρ:aC)(h:ah 0 ρ=some (gL ns)): ∃m:Nat,m<=k/\ai g7 (aa (aw (.int 1)) (aa (ai fx (aa (aw (.int k)) (aa (ai bN (aa (ah 0) (af))) (af)))) (af))) ρ=some (nI m):=by
 have e1:ai bN (aa (ah 0) af) ρ=some (nI ns.length):=by
  rw[ba (aq h rfl)];show some (D.int ((ns.map D.int).length:Int))=_;rw[List.length_map]
 refine⟨max 1 (min k ns.length),by omega,?_⟩
 refine(ba (aq rfl (aq ((ba (aq rfl (aq e1 rfl))).trans rfl) rfl))).trans ?_
 show some (D.int _)=some (D.int _);congr 2
 split<;>split<;>omega
theorem Ca {a b:Nat}{f:FA}{ρ:aC}(h:f ρ=some [nI a,nI b]):ai fx f ρ=some (nI (min a b)):=by
 rw[ba h];show some (D.int _)=some (D.int _);congr 2
 split<;>omega
theorem Bz {a b:Nat}{f:FA}{ρ:aC}(h:f ρ=some [nI a,nI b]):ai g7 f ρ=some (nI (max a b)):=by
 rw[ba h];show some (D.int _)=some (D.int _);congr 2
 split<;>omega
theorem tj(v a b:Nat):jr v a b=jr v b a:=by unfold jr;rw[Nat.min_comm,Nat.max_comm]
theorem yv {n a k:Nat}(h:a+k<=n):(List.range n).filter (λv=>decide (a<=v)&&decide (v<a+k))=List.range' a k:=by
 obtain⟨m,rfl⟩:=Nat.exists_eq_add_of_le h
 rw[List.range_eq_range',show a+k+m=a+(k+m) by omega,<-List.range'_append_1,<-List.range'_append_1 (s:=0+a),List.filter_append,List.filter_append]
 rw[List.filter_eq_nil_iff.mpr,List.filter_eq_self.mpr,List.filter_eq_nil_iff.mpr]
 ·simp
 ·intro v hv
  rw[List.mem_range'_1] at hv;simp;omega
 ·intro v hv
  rw[List.mem_range'_1] at hv;simp;omega
 ·intro v hv
  rw[List.mem_range'_1] at hv;simp;omega
theorem oy {n a b:Nat}(ha:a<n)(hb:b<n):List.range' (min a b+1) (max a b- (min a b+1))=(List.range n).filter λv=>jr v a b:=by
 rw[<-yv (n:=n) (by omega)]
 refine List.filter_congr λv _=>?_
 unfold jr;rw[Bool.eq_iff_iff];simp only[Bool.and_eq_true,decide_eq_true_eq];omega
theorem lB: ∀ns:List Int,intKs.intK (iK ns)=some ns
 | []=>rfl
 |n::ns=>by
  show(intKs.intK (iK ns)).map (n:: ·)=_
  rw[lB ns];rfl
theorem o9 {a b:List Int}(h:iK a=iK b):a=b:=by
 have:=congrArg intKs.intK h
 rw[lB,lB] at this;exact Option.some.inj this
theorem qo(kvs:iY)(k k':List bn)(d:D):eL (pG kvs k d) k'=if k'=k then some d else eL kvs k':=by
 unfold pG eL;split
 ·rename_i h
  induction kvs with
  |nil=>simp at h
  |cons p kvs ih=>
   rw[List.map_cons]
   by_cases e:p.1=k
   ·rw[if_pos e,List.find?_cons]
    by_cases e2:k'=k
    ·rw[if_pos e2,e2];simp[e]
    ·rw[if_neg e2,List.find?_cons]
     have e3:decide (p.1=k')=false:=decide_eq_false λw=>e2 (w.symm.trans e)
     simp only[e3]
     by_cases h':(kvs.any λkv=>decide (kv.1=k))=true
     ·have:=ih h';rw[if_neg e2] at this;exact this
     ·have:kvs.map (λkv=>if kv.1=k then(kv.1,d) else kv)=kvs:=by
       refine(List.map_congr_left λq hq=>?_).trans (List.map_id _)
       rw[if_neg];rfl;intro w;exact h' (List.any_eq_true.mpr ⟨q,hq,decide_eq_true w⟩)
      rw[this]
   ·have h':(kvs.any λkv=>decide (kv.1=k))=true:=by
     rw[List.any_cons,decide_eq_false e,Bool.false_or] at h;exact h
    rw[if_neg e,List.find?_cons,List.find?_cons]
    by_cases e2:p.1=k'
    ·rw[decide_eq_true e2,if_neg (λw=>e (e2.trans w))]
    ·rw[decide_eq_false e2];exact ih h'
 ·rename_i h
  have h: ∀q∈kvs,q.1≠k:=λq hq w=>h (List.any_eq_true.mpr ⟨q,hq,decide_eq_true w⟩)
  rw[List.find?_append]
  by_cases e:k'=k
  ·subst e
   rw[if_pos rfl,List.find?_eq_none.mpr (λq hq=>by simpa using h q hq)]
   simp
  ·rw[if_neg e]
   have:(List.find? (λkv:List bn×D=>decide (kv.1=k')) [(k,d)])=none:=by
    rw[List.find?_cons,decide_eq_false (λw=>e w.symm)];rfl
   rw[this,Option.or_none]
theorem lj {kvs:iY}{k:List bn}(h:eL kvs k=none)(d:D):pG kvs k d=kvs++[(k,d)]:=by
 unfold pG;rw[if_neg];intro w;obtain⟨q,hq,e⟩:=List.any_eq_true.mp w
 unfold eL at h;rw[Option.map_eq_none_iff,List.find?_eq_none] at h;exact h q hq e
theorem mv {α:Type}{i:Nat}{g:FG}{fs:FA}{fv:FE}{h:α->D}{key:α->List Int}{v:α->D}{st:iY->Sl->aC}{Q:α->Prop}
 (hg: ∀kvs s a,g (h a) (st kvs s)=some (st kvs (.v (h a)))) (hf: ∀kvs a,Q a->fs (st kvs (.v (h a)))=some ((key a).map D.int)) (hv: ∀kvs a,Q a->fv (st kvs (.v (h a)))=some (v a))
 (ht: ∀kvs s,gF i (st kvs s)=some kvs) (hs: ∀kvs kvs' s,(st kvs s).set i (.ob (.dT kvs'))=st kvs' s) (hk: ∀a,(key a).length<=1000):
 ∀(l:List α) (kvs:iY) (s:Sl),(∀a∈l,Q a)->kvs.length+l.length<=900->(∀a∈l,eL kvs (iK (key a))=none)->(l.map key).Nodup->
  ∃s',fw g (jH i fs fv) (l.map h) (st kvs s)=.nx (st (kvs++l.map λa=>(iK (key a),v a)) s')
 | [],kvs,s,_,_,_,_=>⟨s,by rw[List.map_nil,List.map_nil,List.append_nil];rfl⟩
 |a::l,kvs,s,hq,hl,hn,nd=>by
  rw[List.map_cons,List.nodup_cons] at nd;rw[List.length_cons] at hl;have e1:jH i fs fv (st kvs (.v (h a)))=.nx (st (kvs++[(iK (key a),v a)]) (.v (h a))):=by
   unfold jH;rw[ht,hv _ _ (hq a List.mem_cons_self),hf _ _ (hq a List.mem_cons_self),Option.bind_some,mD];dsimp only;rw[if_pos ⟨by omega,hk a⟩,hs,lj (hn a List.mem_cons_self)]
  obtain⟨s',h'⟩:=mv hg hf hv ht hs hk l (kvs++[(iK (key a),v a)]) (.v (h a)) (λb hb=>hq b (List.mem_cons_of_mem _ hb)) (by rw[List.length_append,List.length_singleton];omega) (λb hb=>by
   rw[<-lj (hn a List.mem_cons_self),qo,if_neg λw=>nd.1 ?_]
   ·exact hn b (List.mem_cons_of_mem _ hb)
   ·rw[<-o9 w];exact List.mem_map_of_mem hb) nd.2
  refine⟨s',?_⟩
  rw[List.map_cons,List.map_cons];refine(cD (hg _ _ _) e1).trans (h'.trans ?_)
  rw[List.append_assoc];rfl
theorem md {α:Type}{key:α->List Int}{v:α->D}{l:List α}{a:α}(ha:a∈l)(inj: ∀b∈l,key b=key a->v b=v a):eL (l.map λa=>(iK (key a),v a)) (iK (key a))=some (v a):=by
 unfold eL
 induction l with
 |nil=>cases ha
 |cons b l ih=>
  rw[List.map_cons,List.find?_cons]
  by_cases e:key b=key a
  ·dsimp only
   rw[decide_eq_true (by rw[e])]
   show some (v b)=_;rw[inj b List.mem_cons_self e]
  ·dsimp only
   rw[decide_eq_false (λw=>e (o9 w))]
   rcases List.mem_cons.mp ha with rfl|ha
   ·exact absurd rfl e
   ·exact ih ha λc hc=>inj c (List.mem_cons_of_mem _ hc)
theorem iJ {α:Type}{key:α->List Int}{v:α->D}{l:List α}{k:List Int}(h: ∀b∈l,key b≠k):eL (l.map λa=>(iK (key a),v a)) (iK k)=none:=by
 unfold eL;rw[Option.map_eq_none_iff,List.find?_eq_none];intro q hq;obtain⟨b,hb,rfl⟩:=List.mem_map.mp hq
 simpa using λw=>h b hb (o9 w)
theorem pK {α:Type}{key:α->List Int}{v:α->D}: ∀l:List α,intKs (l.map λa=>(iK (key a),v a))=some (l.map key)
 | []=>rfl
 |a::l=>by
  show(intKs.intK (iK (key a))).bind (λns=>(intKs (l.map λa=>(iK (key a),v a))).map (ns:: ·))=_
  rw[lB,pK l];rfl
def gO(r x:List Nat)(c y:Nat):Bool:=jr y (r.getD c 0) (x.getD c 0)&&jr c (r.idxOf y) (x.idxOf y)
def qx(r x:List Nat)(c y:Nat):Int:=if decide (x.getD c 0<r.getD c 0)=decide (r.idxOf y<x.idxOf y) then -1 else 1
def xy(n:Nat)(r x:List Nat):List (List Int):=(List.range n).flatMap λc=>((List.range n).filter (gO r x c)).map λ(y:Nat)=>[(c:Int),(y:Int),qx r x c y]
theorem yw(n:Nat)(r x:List Nat)(hn:n<=6):(xy n r x).length<=36:=by
 have: ∀(l:List Nat),(l.flatMap λc=>((List.range n).filter (gO r x c)).map λ(y:Nat)=>[(c:Int),(y:Int),qx r x c y]).length<=l.length*6:=by
  intro l
  induction l with
  |nil=>simp
  |cons c l ih=>
   rw[List.flatMap_cons,List.length_append,List.length_cons,List.length_map];have:=List.length_filter_le (gO r x c) (List.range n)
   rw[List.length_range] at this;omega
 have h:=this (List.range n)
 rw[List.length_range] at h;unfold xy;omega
def qY(n:Nat)(r x:List Nat)(m:Nat):List (Nat×Nat):=(List.range m).flatMap λc=>((List.range n).filter λy=>jr y (x.getD c 0) (r.getD c 0)).map λy=>(c,y)
def cA(p:Nat×Nat):List Int:=[(p.1:Int),(p.2:Int)]
theorem dm {p q:Nat×Nat}(h:cA p=cA q):p=q:=by
 unfold cA at h;injection h with h1 h2
 injection h2 with h2 _
 exact Prod.ext (by omega) (by omega)
theorem upP_mem {n:Nat}{r x:List Nat}{m:Nat}{p:Nat×Nat}:p∈qY n r x m↔p.1<m/\p.2<n/\jr p.2 (x.getD p.1 0) (r.getD p.1 0)=true:=by
 unfold qY;rw[List.mem_flatMap];constructor
 ·rintro⟨c,hc,h⟩
  obtain⟨y,hy,rfl⟩:=List.mem_map.mp h
  rw[List.mem_filter,List.mem_range] at hy;exact⟨List.mem_range.mp hc,hy.1,hy.2⟩
 ·rintro⟨h1,h2,h3⟩
  exact⟨p.1,List.mem_range.mpr h1,List.mem_map.mpr ⟨p.2,List.mem_filter.mpr ⟨List.mem_range.mpr h2,h3⟩,rfl⟩⟩
theorem pB(n:Nat)(r x:List Nat)(m:Nat):qY n r x (m+1)=qY n r x m++((List.range n).filter λy=>jr y (x.getD m 0) (r.getD m 0)).map λy=>(m,y):=by
 unfold qY;rw[List.range_succ,List.flatMap_append,List.flatMap_singleton]
theorem ph(n:Nat)(r x:List Nat): ∀m,(qY n r x m).length<=m*n
 |0=>by simp[qY]
 |m+1=>by
  rw[pB,List.length_append,List.length_map];have:=ph n r x m
  have h:=List.length_filter_le (λy=>jr y (x.getD m 0) (r.getD m 0)) (List.range n)
  rw[List.length_range] at h;rw[Nat.add_mul,Nat.one_mul];omega
theorem zP(n:Nat)(r x:List Nat)(m:Nat):((qY n r x m).map cA).Pairwise (λa b=>cL b a=false):=by
 unfold qY;rw[List.pairwise_map,List.pairwise_flatMap];refine⟨λc _=>?_,List.pairwise_lt_range.imp λ{c c'} h a ha b hb=>?_⟩
 ·rw[List.pairwise_map]
  refine(List.Pairwise.filter _ List.pairwise_lt_range).imp λ{y y'} h=>?_
  unfold cA cL cL;rw[if_pos rfl,if_neg (by dsimp only;omega)]
  simp only[decide_eq_false_iff_not];omega
 ·obtain⟨y,_,rfl⟩:=List.mem_map.mp ha
  obtain⟨y',_,rfl⟩:=List.mem_map.mp hb
  unfold cA cL;rw[if_neg (by dsimp only;omega)]
  simp only[decide_eq_false_iff_not];omega
def zw(n:Nat)(r x:List Nat)(m:Nat):List (Nat×Nat):=(List.range m).flatMap λy=>((List.range n).filter λc=>jr c (r.idxOf y) (x.idxOf y)).map λc=>(c,y)
theorem lvP_mem {n:Nat}{r x:List Nat}{m:Nat}{p:Nat×Nat}:p∈zw n r x m↔p.2<m/\p.1<n/\jr p.1 (r.idxOf p.2) (x.idxOf p.2)=true:=by
 unfold zw;rw[List.mem_flatMap];constructor
 ·rintro⟨c,hc,h⟩
  obtain⟨y,hy,rfl⟩:=List.mem_map.mp h
  rw[List.mem_filter,List.mem_range] at hy;exact⟨List.mem_range.mp hc,hy.1,hy.2⟩
 ·rintro⟨h1,h2,h3⟩
  exact⟨p.2,List.mem_range.mpr h1,List.mem_map.mpr ⟨p.1,List.mem_filter.mpr ⟨List.mem_range.mpr h2,h3⟩,rfl⟩⟩
theorem pP(n:Nat)(r x:List Nat)(m:Nat):zw n r x (m+1)=zw n r x m++((List.range n).filter λc=>jr c (r.idxOf m) (x.idxOf m)).map λc=>(c,m):=by
 unfold zw;rw[List.range_succ,List.flatMap_append,List.flatMap_singleton]
theorem tE(n:Nat)(r x:List Nat): ∀m,(zw n r x m).length<=m*n
 |0=>by simp[zw]
 |m+1=>by
  rw[pP,List.length_append,List.length_map];have:=tE n r x m
  have h:=List.length_filter_le (λc=>jr c (r.idxOf m) (x.idxOf m)) (List.range n)
  rw[List.length_range] at h;rw[Nat.add_mul,Nat.one_mul];omega
def C0(b:Bool):Int:=if b then 1 else -1
def Ah(r x:List Nat)(p:Nat×Nat):D:=.int (C0 (decide (x.getD p.1 0<r.getD p.1 0)))
def Bp(r x:List Nat)(p:Nat×Nat):D:=.int (C0 (decide (r.idxOf p.2<x.idxOf p.2)))
def jA(n:Nat)(r x:List Nat)(m:Nat):iY:=(qY n r x m).map λp=>(iK (cA p),Ah r x p)
def j8(n:Nat)(r x:List Nat)(m:Nat):iY:=(zw n r x m).map λp=>(iK (cA p),Bp r x p)
theorem Ar(n:Nat)(r x:List Nat):((qY n r x n).filter λp=>jr p.1 (r.idxOf p.2) (x.idxOf p.2)).map (λp=>[(p.1:Int),(p.2:Int),qx r x p.1 p.2])=xy n r x:=by
 unfold qY xy;rw[List.filter_flatMap,List.map_flatMap];congr 1
 funext c;rw[List.filter_map,List.map_map,List.filter_filter];congr 1
 refine List.filter_congr λy _=>?_
 unfold gO;rw[tj y (x.getD c 0),Bool.and_comm];rfl
set_option maxHeartbeats 4000000
theorem wP {n:Nat}{r x:List Nat}{S:Nat->Nat}(H:Sg n r x S){y:Nat}(hy:y<n): ∃m,m<n/\led S m/\pz S y m:=by
 obtain⟨W,C⟩:=wx H hy
 have ex: ∀(l:List Nat),l≠[]-> ∃m∈l,∀z∈l,m<=z:=by
  intro l
  induction l with
  |nil=>intro h;exact absurd rfl h
  |cons a l ih=>
   intro _
   by_cases e:l=[]
   ·subst e;exact⟨a,by simp,λz hz=>by rw[List.mem_singleton] at hz;omega⟩
   ·obtain⟨m,hm,h⟩:=ih e
    by_cases am:a<=m
    ·exact⟨a,by simp,λz hz=>(List.mem_cons.mp hz).elim (λe=>by omega) λq=>by have:=h z q;omega⟩
    ·exact⟨m,by simp[hm],λz hz=>(List.mem_cons.mp hz).elim (λe=>by omega) λq=>h z q⟩
 obtain⟨m,hm,h⟩:=ex W (List.ne_nil_of_mem ((C.mem y).mpr (il S y)))
 exact⟨m,C.lt m hm,λz hz=>h z ((C.mem z).mpr (iE ((C.mem m).mp hm) hz)),(C.mem m).mp hm⟩
set_option maxHeartbeats 1000000
section
variable {n:Nat}{r x:List Nat}(R:Ord n r)(X:Ord n x)(hn:n<=6)
include R X
theorem vZ {c:Nat}(hc:c<n):dc [aN r x,nI c]=some (.bl (decide (x.getD c 0<r.getD c 0))):=by
 apply cw (kd:=.s) (n:=4) (t:=jT)
 unfold jT;refine(av (ρ':=[.v (aN r x),.v (nI c),.v (ci r),.v (ci x)]) (oI (mU rfl) rfl)).trans (de ((au ((au (x:=ci x) (y:=nI c) rfl rfl).trans (hE (by rw[X.len];exact hc))) ((au (x:=ci r) (y:=nI c) rfl rfl).trans (hE (by rw[R.len];exact hc)))).trans ?_))
 show some (D.bl (decide (((x.getD c 0:Nat):Int)<((r.getD c 0:Nat):Int))))=_;congr 2
 simp
theorem qH {y:Nat}(hy:y<n):bz [aN r x,nI y]=some (.bl (decide (r.idxOf y<x.idxOf y))):=by
 apply cw (kd:=.s) (n:=4) (t:=gW)
 unfold gW;refine(av (ρ':=[.v (aN r x),.v (nI y),.v (ci r),.v (ci x)]) (oI (mU rfl) rfl)).trans (de ((au ((au (x:=ci r) (y:=nI y) rfl rfl).trans (jN R hy)) ((au (x:=ci x) (y:=nI y) rfl rfl).trans (jN X hy))).trans ?_))
 show some (D.bl (decide (((r.idxOf y:Nat):Int)<((x.idxOf y:Nat):Int))))=_;congr 2
 simp
theorem xG {c y:Nat}(hc:c<n)(hy:y<n):fc [aN r x,nI c,nI y]=some (.bl (gO r x c y)):=by
 refine oZ (kd:=.s) (n:=5) (t:=gB) ?_
 unfold gB;have t1:dZ (ai (nF 3 cJ) (aa (ah 2) (aa (ak aG (ah 3) (ah 1)) (aa (ak aG (ah 4) (ah 1)) (af))))) [.v (aN r x),.v (nI c),.v (nI y),.v (ci r),.v (ci x)]=some (jr y (r.getD c 0) (x.getD c 0)):=
  i0 ((cI (ds:=[nI y,nI (r.getD c 0),nI (x.getD c 0)]) (aq rfl (aq ((au (x:=ci r) (y:=nI c) rfl rfl).trans (hE (by rw[R.len];exact hc))) (aq ((au (x:=ci x) (y:=nI c) rfl rfl).trans (hE (by rw[X.len];exact hc))) rfl))) rfl).trans (tJ _ _ _))
 refine⟨[.v (aN r x),.v (nI c),.v (nI y),.v (ci r),.v (ci x)],(av (ρ':=[.v (aN r x),.v (nI c),.v (nI y),.v (ci r),.v (ci x)]) (oI (mU rfl) rfl)).trans ?_⟩
 unfold gO;cases e:jr y (r.getD c 0) (x.getD c 0) with
 |false=>
  rw[e] at t1;unfold ay;rw[mI (jg t1)];rfl
 |true=>
  rw[e] at t1;refine(av (ρ':=[.v (aN r x),.v (nI c),.v (nI y),.v (ci r),.v (ci x)]) (nw (jg t1))).trans ?_
  rw[Bool.true_and];exact de ((cI (ds:=[nI c,nI (r.idxOf y),nI (x.idxOf y)]) (aq rfl (aq ((au (x:=ci r) (y:=nI y) rfl rfl).trans (jN R hy)) (aq ((au (x:=ci x) (y:=nI y) rfl rfl).trans (jN X hy)) rfl))) rfl).trans (tJ _ _ _))
theorem yK {c y:Nat}(hc:c<n)(hy:y<n):iG [aN r x,nI c,nI y]=some (.int (qx r x c y)):=by
 apply cw (kd:=.s) (n:=3) (t:=jU)
 unfold jU;refine de ?_
 have t1:df (ak kL (ai (nF 2 dc) (aa (ah 0) (aa (ah 1) (af)))) (ai (nF 2 bz) (aa (ah 0) (aa (ah 2) (af))))) (gA 3 [aN r x,nI c,nI y])=some (!(decide (x.getD c 0<r.getD c 0)==decide (r.idxOf y<x.idxOf y))):=by
  refine fB ((au ((cI (ds:=[aN r x,nI c]) rfl rfl).trans (vZ R X hc)) ((cI (ds:=[aN r x,nI y]) rfl rfl).trans (qH R X hy))).trans ?_)
  rw[jV (by unfold dr;omega)]
  unfold cF;rfl
 unfold qx
 by_cases e:decide (x.getD c 0<r.getD c 0)=decide (r.idxOf y<x.idxOf y)
 ·rw[if_pos e]
  rw[e,beq_self_eq_true] at t1;exact(Cg t1).trans rfl
 ·rw[if_neg e]
  rw[beq_eq_false_iff_ne.mpr e] at t1;exact(Cs t1).trans rfl
include hn
theorem wU:eJ [aN r x]=some (.lst ((xy n r x).map jE)):=by
 apply cw (kd:=.n) (n:=2) (t:=fU)
 unfold fU;refine(av (ρ':=[.v (aN r x),.v (nI n)]) ((bb (d:=nI n) ((jy r _ _ ((au (x:=aN r x) (y:=.int 0) rfl rfl).trans rfl)).trans (by rw[R.len]))).trans rfl)).trans ?_
 refine de (yj (ds:=(List.range n).map nI) (cB (n:=n) (aq rfl rfl) (by omega)) ?_ (by rw[List.length_map];have:=yw n r x hn;omega))
 refine(pj (h:=nI) (q:=λ_=>true) (o:=λ(c:Nat)=>((List.range n).filter (gO r x c)).map λ(y:Nat)=>jE [(c:Int),(y:Int),qx r x c y]) (List.range n) λc hc=>⟨_,rfl,rfl,λ_=>?_⟩).trans ?_
 ·have hc:=List.mem_range.mp hc
  refine Ao (ds:=(List.range n).map nI) (cB (n:=n) (aq rfl rfl) (by omega)) ?_
  refine(pj (h:=nI) (q:=gO r x c) (o:=λ(y:Nat)=>[jE [(c:Int),(y:Int),qx r x c y]]) (List.range n) λy hy=>⟨_,rfl,?_,λ_=>?_⟩).trans ?_
  ·exact i0 ((cI (ds:=[aN r x,nI c,nI y]) rfl rfl).trans (xG R X hc (List.mem_range.mp hy)))
  ·exact yG (dv (aq rfl (aq rfl (aq ((cI (ds:=[aN r x,nI c,nI y]) rfl rfl).trans (yK R X hc (List.mem_range.mp hy))) rfl))) (by simp))
  ·rw[pL]
 ·rw[List.filter_eq_self.mpr (λ_ _=>rfl)]
  unfold xy;rw[List.map_flatMap];congr 2
  funext c;rw[List.map_map];rfl
end
def Vs:FE:=ak aG (bY (aa (ja (aw (.int 1))) (aa (aw (.int 1)) (af)))) (ai fo (aa (ak u9 (ah 6) (ah 5)) (af)))
theorem zg {ρ:aC}{a b:Nat}(h5:ah 5 ρ=some (nI a))(h6:ah 6 ρ=some (nI b)):Vs ρ=some (.int (C0 (decide (a<b)))):=by
 have e1:ai fo (aa (ak u9 (ah 6) (ah 5)) (af)) ρ=some (nI (if a<b then 1 else 0)):=by
  rw[ba (ds:=[.bl (decide (a<b))]) (aq ((au h6 h5).trans ?_) rfl)]
  ·by_cases e:a<b
   ·rw[decide_eq_true e,if_pos e];rfl
   ·rw[decide_eq_false e,if_neg e];rfl
  ·show some (D.bl (decide ((a:Int)<(b:Int))))=_
   congr 2
   rw[Bool.eq_iff_iff,decide_eq_true_eq,decide_eq_true_eq];omega
 refine(au (x:=.lst [.int (-1),.int 1]) rfl e1).trans ?_
 unfold C0
 by_cases e:a<b
 ·rw[if_pos e,decide_eq_true e,if_pos rfl];rfl
 ·rw[if_neg e,decide_eq_false e,if_neg (by decide)];rfl
def bU:FS:=ay (aQ 5 (ak aG (ak aG (ah 0) (aw (.int 1))) (ah 4)))
 (ay (aQ 6 (ak aG (ak aG (ah 0) (aw (.int 0))) (ah 4)))
 (dJ (cg (jI (aa (ak bi (ai fx (aa (ah 5) (aa (ah 6) (af)))) (aw (.int 1))) (aa (ai g7 (aa (ah 5) (aa (ah 6) (af)))) (af))))) (gN 7) (jH 2 (aa (ah 4) (aa (ah 7) (af))) Vs)))
def bL:FS:=ay (aQ 5 (ak aG (aS 1 (aZ (aa (ah 1) (af))) (gN 8) (df (ak hZ (ak aG (ak aG (ah 0) (aw (.int 0))) (ah 8)) (ah 7))) (ah 8)) (aw (.int 0))))
 (ay (aQ 6 (ak aG (aS 1 (aZ (aa (ah 1) (af))) (gN 8) (df (ak hZ (ak aG (ak aG (ah 0) (aw (.int 1))) (ah 8)) (ah 7))) (ah 8)) (aw (.int 0))))
 (dJ (cg (jI (aa (ak bi (ai fx (aa (ah 5) (aa (ah 6) (af)))) (aw (.int 1))) (aa (ai g7 (aa (ah 5) (aa (ah 6) (af)))) (af))))) (gN 4) (jH 3 (aa (ah 4) (aa (ah 7) (af))) Vs)))
theorem wG {ρ:aC}{a b:Nat}(h5:ah 5 ρ=some (nI a))(h6:ah 6 ρ=some (nI b))(ha:a<=900)(hb:b<=900):
 jI (aa (ak bi (ai fx (aa (ah 5) (aa (ah 6) (af)))) (aw (.int 1))) (aa (ai g7 (aa (ah 5) (aa (ah 6) (af)))) (af))) ρ=some ((List.range' (min a b+1) (max a b- (min a b+1))).map nI):=
 wu (aq ((au (Ca (aq h5 (aq h6 rfl))) (y:=.int 1) rfl).trans (by rw[cO];rfl)) (aq (Bz (aq h5 (aq h6 rfl))) rfl)) (by omega) (by omega)
section
variable {n:Nat}{r x:List Nat}(R:Ord n r)(X:Ord n x)(hn:n<=6)
include R X hn
theorem Cz {c:Nat}(hc:c<n)(d3 s5 s6 s7:Sl): ∃s5' s6' s7',bU [.v (aN r x),.v (nI n),.ob (.dT (jA n r x c)),d3,.v (nI c),s5,s6,s7]=.nx [.v (aN r x),.v (nI n),.ob (.dT (jA n r x (c+1))),d3,.v (nI c),s5',s6',s7']:=by
 have q1: ∀t5,aQ 5 (ak aG (ak aG (ah 0) (aw (.int 1))) (ah 4)) [.v (aN r x),.v (nI n),.ob (.dT (jA n r x c)),d3,.v (nI c),t5,s6,s7]=.nx [.v (aN r x),.v (nI n),.ob (.dT (jA n r x c)),d3,.v (nI c),.v (nI (x.getD c 0)),s6,s7]:=λt5=>
  (bb ((au ((au (x:=aN r x) (y:=.int 1) rfl rfl).trans rfl) (y:=nI c) rfl).trans (hE (by rw[X.len];exact hc)))).trans rfl
 have q2:aQ 6 (ak aG (ak aG (ah 0) (aw (.int 0))) (ah 4)) [.v (aN r x),.v (nI n),.ob (.dT (jA n r x c)),d3,.v (nI c),.v (nI (x.getD c 0)),s6,s7]=.nx [.v (aN r x),.v (nI n),.ob (.dT (jA n r x c)),d3,.v (nI c),.v (nI (x.getD c 0)),.v (nI (r.getD c 0)),s7]:=
  (bb ((au ((au (x:=aN r x) (y:=.int 0) rfl rfl).trans rfl) (y:=nI c) rfl).trans (hE (by rw[R.len];exact hc)))).trans rfl
 have hx:=X.get hc
 have hr:=R.get hc
 obtain⟨s7',q3⟩:=mv (i:=2) (g:=gN 7) (fs:=aa (ah 4) (aa (ah 7) (af))) (fv:=Vs) (h:=nI) (key:=λy=>cA (c,y)) (v:=λy=>Ah r x (c,y)) (Q:=λ_=>True) (st:=λkvs s=>[.v (aN r x),.v (nI n),.ob (.dT kvs),d3,.v (nI c),.v (nI (x.getD c 0)),.v (nI (r.getD c 0)),s])
  (λ_ _ _=>rfl) (λ_ _ _=>rfl) (λ_ _ _=>zg (a:=x.getD c 0) (b:=r.getD c 0) rfl rfl) (λ_ _=>rfl) (λ_ _ _=>rfl) (λ_=>by show 2<=1000;omega)
  ((List.range n).filter λy=>jr y (x.getD c 0) (r.getD c 0)) (jA n r x c) s7 (λ_ _=>trivial) (by
    have h1:=ph n r x c
    have h2:=List.length_filter_le (λy=>jr y (x.getD c 0) (r.getD c 0)) (List.range n)
    have h3:c*n<=6*6:=Nat.mul_le_mul (by omega) hn
    rw[List.length_range] at h2;unfold jA;rw[List.length_map];omega)
  (λy _=>iJ λp hp e=>by
    have:=(upP_mem.mp hp).1
    rw[dm e] at this;exact Nat.lt_irrefl _ this)
  (by
    exact List.pairwise_map.mpr ((List.Pairwise.filter _ List.nodup_range).imp λh e=>h (congrArg Prod.snd (dm e))))
 refine⟨.v (nI (x.getD c 0)),.v (nI (r.getD c 0)),s7',?_⟩
 refine(av (q1 s5)).trans ((av q2).trans ((db (bm (wG (a:=x.getD c 0) (b:=r.getD c 0) rfl rfl (by omega) (by omega)))).trans ?_))
 rw[oy hx hr];refine q3.trans ?_
 unfold jA;rw[pB,List.map_append,List.map_map];rfl
theorem BA {y:Nat}(hy:y<n)(d2 s4 s5 s6:Sl): ∃s4' s5' s6',bL [.v (aN r x),.v (nI n),d2,.ob (.dT (j8 n r x y)),s4,s5,s6,.v (nI y)]=.nx [.v (aN r x),.v (nI n),d2,.ob (.dT (j8 n r x (y+1))),s4',s5',s6',.v (nI y)]:=by
 have fd: ∀(o:List Nat) (O:Ord n o) (e:FE) (ρ:aC) (_:ah 1 ρ=some (nI n)) (_:ah 7 ρ=some (nI y)) (_:ρ.length=8) (_: ∀ρ',ah 0 (ρ++ρ')=some (aN r x)) (_: ∀ρ',ah 0 ρ'=some (aN r x)->ak aG (ah 0) e ρ'=some (ci o)),
  ak aG (aS 1 (aZ (aa (ah 1) (af))) (gN 8) (df (ak hZ (ak aG (ak aG (ah 0) e) (ah 8)) (ah 7))) (ah 8)) (aw (.int 0)) ρ=some (nI (o.idxOf y)):=by
  intro o O e ρ h1 h7 hl h0 h00;have g8: ∀c,gN 8 (nI c) (ρ++List.replicate 1 .no)=some (ρ++[.v (nI c)]):=λc=>by
   show some ((ρ++[Sl.no]).set 8 (.v (nI c)))=_;rw[List.set_append_right _ _ (by omega),hl];rfl
  have n8: ∀c,ah 8 (ρ++[.v (nI c)])=some (nI c):=λc=>by
   unfold ah;rw[List.getElem?_append_right (by omega),hl];rfl
  have n7: ∀c,ah 7 (ρ++[.v (nI c)])=some (nI y):=λc=>by
   have:(ρ++[Sl.v (nI c)])[7]? =ρ[7]? :=List.getElem?_append_left (by omega)
   unfold ah at h7⊢;rw[this];exact h7
  have cp:aS 1 (aZ (aa (ah 1) (af))) (gN 8) (df (ak hZ (ak aG (ak aG (ah 0) e) (ah 8)) (ah 7))) (ah 8) ρ=some (.lst [nI (o.idxOf y)]):=by
   refine cb (ds:=(List.range n).map nI) (cB (aq h1 rfl) (by omega)) (by simp;omega) ?_
   have:=fO (g:=gN 8) (p:=df (ak hZ (ak aG (ak aG (ah 0) e) (ah 8)) (ah 7))) (f:=ah 8) (ρ0:=ρ++List.replicate 1 .no) (h:=nI) (o:=nI) (q:=λv=>decide (o.getD v 0=y)) (List.range n) λv hv=>⟨_,g8 v,fB ((au ((au (h00 _ (h0 _)) (n8 v)).trans (hE (by rw[O.len];exact List.mem_range.mp hv))) (n7 v)).trans (mC _ _)),λ_=>n8 v⟩
   rw[this,gd (eB O hy).1 λi hi=>by
    rw[decide_eq_true_eq];constructor
    ·intro e
     have:=oK O (c:=i) hi
     rw[e] at this;exact this.symm
    ·rintro rfl;exact(eB O hy).2]
   rfl
  exact(au cp (y:=.int 0) rfl).trans rfl
 have q1:aQ 5 (ak aG (aS 1 (aZ (aa (ah 1) (af))) (gN 8) (df (ak hZ (ak aG (ak aG (ah 0) (aw (.int 0))) (ah 8)) (ah 7))) (ah 8)) (aw (.int 0))) [.v (aN r x),.v (nI n),d2,.ob (.dT (j8 n r x y)),s4,s5,s6,.v (nI y)]=.nx [.v (aN r x),.v (nI n),d2,.ob (.dT (j8 n r x y)),s4,.v (nI (r.idxOf y)),s6,.v (nI y)]:=
  (bb (fd r R _ _ rfl rfl rfl (λ_=>rfl) λρ' h=>(au h (y:=.int 0) rfl).trans rfl)).trans rfl
 have q2:aQ 6 (ak aG (aS 1 (aZ (aa (ah 1) (af))) (gN 8) (df (ak hZ (ak aG (ak aG (ah 0) (aw (.int 1))) (ah 8)) (ah 7))) (ah 8)) (aw (.int 0))) [.v (aN r x),.v (nI n),d2,.ob (.dT (j8 n r x y)),s4,.v (nI (r.idxOf y)),s6,.v (nI y)]=.nx [.v (aN r x),.v (nI n),d2,.ob (.dT (j8 n r x y)),s4,.v (nI (r.idxOf y)),.v (nI (x.idxOf y)),.v (nI y)]:=
  (bb (fd x X _ _ rfl rfl rfl (λ_=>rfl) λρ' h=>(au h (y:=.int 1) rfl).trans rfl)).trans rfl
 have hr:=(eB R hy).1
 have hx:=(eB X hy).1
 obtain⟨s4',q3⟩:=mv (i:=3) (g:=gN 4) (fs:=aa (ah 4) (aa (ah 7) (af))) (fv:=Vs) (h:=nI) (key:=λc=>cA (c,y)) (v:=λc=>Bp r x (c,y)) (Q:=λ_=>True) (st:=λkvs s=>[.v (aN r x),.v (nI n),d2,.ob (.dT kvs),s,.v (nI (r.idxOf y)),.v (nI (x.idxOf y)),.v (nI y)])
  (λ_ _ _=>rfl) (λ_ _ _=>rfl) (λ_ _ _=>zg (a:=r.idxOf y) (b:=x.idxOf y) rfl rfl) (λ_ _=>rfl) (λ_ _ _=>rfl) (λ_=>by show 2<=1000;omega)
  ((List.range n).filter λc=>jr c (r.idxOf y) (x.idxOf y)) (j8 n r x y) s4 (λ_ _=>trivial) (by
    have h1:=tE n r x y
    have h2:=List.length_filter_le (λc=>jr c (r.idxOf y) (x.idxOf y)) (List.range n)
    have h3:y*n<=6*6:=Nat.mul_le_mul (by omega) hn
    rw[List.length_range] at h2;unfold j8;rw[List.length_map];omega)
  (λc _=>iJ λp hp e=>by
    have:=(lvP_mem.mp hp).1
    rw[dm e] at this;exact Nat.lt_irrefl _ this)
  (by
    exact List.pairwise_map.mpr ((List.Pairwise.filter _ List.nodup_range).imp λh e=>h (congrArg Prod.fst (dm e))))
 refine⟨s4',.v (nI (r.idxOf y)),.v (nI (x.idxOf y)),?_⟩
 refine(av q1).trans ((av q2).trans ((db (bm (wG (a:=r.idxOf y) (b:=x.idxOf y) rfl rfl (by omega) (by omega)))).trans ?_))
 rw[oy hr hx];refine q3.trans ?_
 unfold j8;rw[pP,List.map_append,List.map_map];rfl
theorem yz:eK [aN r x]=some (jA n r x n,j8 n r x n):=by
 obtain⟨ρ1,h1,s4,s5,s6,s7,rfl⟩:=jD (g:=gN 4) (b:=bU) (P:=λi ρ=> ∃s4 s5 s6 s7,ρ=[.v (aN r x),.v (nI n),.ob (.dT (jA n r x i)),.ob (.dT []),s4,s5,s6,s7]) n 0 (λi ρ _ hi hq_=>by
  obtain⟨s4,s5,s6,s7,e⟩:=hq_
  subst e;rw[Nat.zero_add] at hi;obtain⟨s5',s6',s7',h⟩:=Cz R X hn hi (.ob (.dT [])) s5 s6 s7
  exact⟨_,_,rfl,h,_,_,_,_,rfl⟩) [.v (aN r x),.v (nI n),.ob (.dT []),.ob (.dT []),.no,.no,.no,.no] ⟨.no,.no,.no,.no,rfl⟩
 obtain⟨ρ2,h2,t4,t5,t6,t7,rfl⟩:=jD (g:=gN 7) (b:=bL) (P:=λi ρ=> ∃s4 s5 s6 s7,ρ=[.v (aN r x),.v (nI n),.ob (.dT (jA n r x n)),.ob (.dT (j8 n r x i)),s4,s5,s6,s7]) n 0 (λi ρ _ hi hq_=>by
  obtain⟨s4,s5,s6,s7,e⟩:=hq_
  subst e;rw[Nat.zero_add] at hi;obtain⟨s4',s5',s6',h⟩:=BA R X hn hi (.ob (.dT (jA n r x n))) s4 s5 s6
  exact⟨_,_,rfl,h,_,_,_,_,rfl⟩) [.v (aN r x),.v (nI n),.ob (.dT (jA n r x n)),.ob (.dT []),s4,s5,s6,s7] ⟨s4,s5,s6,s7,rfl⟩
 rw[Nat.zero_add] at h1 h2;have e0:gS (gA 8 [aN r x])=.nx [.v (aN r x),.v (nI n),.ob (.dT (jA n r x n)),.ob (.dT (j8 n r x n)),t4,t5,t6,t7]:=by
  unfold gS;refine(av (ρ':=[.v (aN r x),.v (nI n),.no,.no,.no,.no,.no,.no]) ((bb (d:=nI n) ((jy r _ _ ((au (x:=aN r x) (y:=.int 0) rfl rfl).trans rfl)).trans (by rw[R.len]))).trans rfl)).trans ?_
  refine(av (ρ':=[.v (aN r x),.v (nI n),.ob (.dT []),.no,.no,.no,.no,.no]) rfl).trans ?_
  refine(av (ρ':=[.v (aN r x),.v (nI n),.ob (.dT []),.ob (.dT []),.no,.no,.no,.no]) rfl).trans ?_
  refine(av ((db (ds:=(List.range n).map nI) (bm (cB (n:=n) (aq rfl rfl) (by omega)))).trans (by rw[List.range_eq_range'];exact h1))).trans ?_
  refine(av ((db (ds:=(List.range n).map nI) (bm (cB (n:=n) (aq rfl rfl) (by omega)))).trans (by rw[List.range_eq_range'];exact h2))).trans rfl
 show xx 8 2 3 gS [aN r x]=_;unfold xx;rw[e0];rfl
def bC:FS:=fz (wj 2 (ah 4)) (bA (aL 3 1 fW (cg (aa (cf (aa (ak aG (ah 4) (aw (.int 0))) (aa (ak aG (ah 4) (aw (.int 1))) (aa (ak aG (bY (aa (ja (aw (.int 1))) (aa (aw (.int 1)) (af)))) (ai fo (aa (ak kL (ki 1 (ah 4)) (ki 2 (ah 4))) (af)))) (af))))) (af))))) (skip)
omit R X in
theorem oC: ∀(l:List (Nat×Nat)) (F:List (List Int)) (s4:Sl),(∀p∈l,p∈qY n r x n)->F.length+l.length<=100->
 ∃s4',fw (gN 4) bC ((l.map cA).map jE) [.v (aN r x),.ob (.dT (jA n r x n)),.ob (.dT (j8 n r x n)),.own (F.map jE),s4]=.nx [.v (aN r x),.ob (.dT (jA n r x n)),.ob (.dT (j8 n r x n)),.own ((F++(l.filter λp=>jr p.1 (r.idxOf p.2) (x.idxOf p.2)).map (λp=>[(p.1:Int),(p.2:Int),qx r x p.1 p.2])).map jE),s4']
 | [],F,s4,_,_=>⟨s4,by rw[List.filter_nil,List.map_nil,List.map_nil,List.map_nil,List.append_nil];rfl⟩
 |p::l,F,s4,hp,hl=>by
  have hm:=hp p List.mem_cons_self
  have hm':=upP_mem.mp hm
  rw[List.length_cons] at hl
  let st:List (List Int)->aC:=λF=>[.v (aN r x),.ob (.dT (jA n r x n)),.ob (.dT (j8 n r x n)),.own (F.map jE),.v (jE (cA p))]
  have ku:eL (jA n r x n) (iK (cA p))=some (Ah r x p):=md hm λb _ e=>by rw[dm e]
  have fk: ∀F,(ah 4 (st F)).bind pE=some (cA p):=λF=>mD _
  have din: ∀F,wj 2 (ah 4) (st F)=some (eL (j8 n r x n) (iK (cA p))).isSome:=λF=>by
   unfold wj;rw[show gF 2 (st F)=some (j8 n r x n) from rfl,Option.bind_some,fk F];rfl
  rw[List.map_cons,List.map_cons];cases e:jr p.1 (r.idxOf p.2) (x.idxOf p.2) with
  |false=>
   have kl:eL (j8 n r x n) (iK (cA p))=none:=iJ λb hb w=>by
    have:=(lvP_mem.mp hb).2.2
    rw[dm w,e] at this;cases this
   obtain⟨s4',h⟩:=oC l F (.v (jE (cA p))) (λq hq=>hp q (List.mem_cons_of_mem _ hq)) (by omega)
   refine⟨s4',(cD (ρ1:=st F) rfl (ρ2:=st F) ?_).trans (h.trans (by rw[List.filter_cons_of_neg (by rw[e];decide)]))⟩
   exact nw ((din F).trans (by rw[kl];rfl))
  |true=>
   have kl:eL (j8 n r x n) (iK (cA p))=some (Bp r x p):=md (lvP_mem.mpr ⟨hm'.2.1,hm'.1,e⟩) λb _ e=>by rw[dm e]
   obtain⟨s4',h⟩:=oC l (F++[[(p.1:Int),(p.2:Int),qx r x p.1 p.2]]) (.v (jE (cA p))) (λq hq=>hp q (List.mem_cons_of_mem _ hq)) (by rw[List.length_append,List.length_singleton];omega)
   have ix1:ki 1 (ah 4) (st F)=some (Ah r x p):=by
    unfold ki;rw[show gF 1 (st F)=some (jA n r x n) from rfl,Option.bind_some,fk F,Option.bind_some,ku]
   have ix2:ki 2 (ah 4) (st F)=some (Bp r x p):=by
    unfold ki;rw[show gF 2 (st F)=some (j8 n r x n) from rfl,Option.bind_some,fk F,Option.bind_some,kl]
   have sg:ak aG (bY (aa (ja (aw (.int 1))) (aa (aw (.int 1)) (af)))) (ai fo (aa (ak kL (ki 1 (ah 4)) (ki 2 (ah 4))) (af))) (st F)=some (.int (qx r x p.1 p.2)):=by
    have e1:ai fo (aa (ak kL (ki 1 (ah 4)) (ki 2 (ah 4))) (af)) (st F)=some (nI (if decide (x.getD p.1 0<r.getD p.1 0)=decide (r.idxOf p.2<x.idxOf p.2) then 0 else 1)):=by
     rw[ba (ds:=[.bl (!cF (Ah r x p) (Bp r x p))]) (aq ((au ix1 ix2).trans (jV (by unfold Ah dr;omega))) rfl)]
     unfold Ah Bp;cases decide (x.getD p.1 0<r.getD p.1 0)<;>cases decide (r.idxOf p.2<x.idxOf p.2)<;>unfold cF<;>rfl
    refine(au (x:=.lst [.int (-1),.int 1]) rfl e1).trans ?_
    unfold qx;split
    ·rfl
    ·rfl
   refine⟨s4',(cD (ρ1:=st F) rfl (ρ2:=st (F++[[(p.1:Int),(p.2:Int),qx r x p.1 p.2]])) ?_).trans (h.trans (by rw[List.filter_cons_of_pos (p:=λp:Nat×Nat=>jr p.1 (r.idxOf p.2) (x.idxOf p.2)) e,List.map_cons,List.append_assoc];rfl))⟩
   refine(mI ((din F).trans (by rw[kl];rfl))).trans ?_
   refine(kA (i:=3) (b0:=F.map jE) (bs:=F.map jE) (d:=jE [(p.1:Int),(p.2:Int),qx r x p.1 p.2]) rfl (bm (aq (dv (aq ((au (x:=jE (cA p)) (y:=.int 0) rfl rfl).trans rfl) (aq ((au (x:=jE (cA p)) (y:=.int 1) rfl rfl).trans rfl) (aq sg rfl))) (by simp)) rfl)) rfl (by rw[List.length_map];omega)).trans ?_
   show Out.nx [.v (aN r x),.ob (.dT (jA n r x n)),.ob (.dT (j8 n r x n)),.own (F.map jE++[jE [(p.1:Int),(p.2:Int),qx r x p.1 p.2]]),.v (jE (cA p))]=Out.nx [.v (aN r x),.ob (.dT (jA n r x n)),.ob (.dT (j8 n r x n)),.own ((F++[[(p.1:Int),(p.2:Int),qx r x p.1 p.2]]).map jE),.v (jE (cA p))];rw[List.map_append];rfl
theorem nr:bd [aN r x]=some (.lst ((xy n r x).map jE)):=by
 have ul:(qY n r x n).length<=36:=Nat.le_trans (ph n r x n) (Nat.mul_le_mul hn hn)
 apply oZ (kd:=.n) (n:=5) (t:=fC)
 unfold fC;have q1:qb 1 2 1 eK (aa (ah 0) (af)) (gA 5 [aN r x])=.nx [.v (aN r x),.ob (.dT (jA n r x n)),.ob (.dT (j8 n r x n)),.no,.no]:=by
  unfold qb;rw[show(aa (ah 0) (af)) (gA 5 [aN r x])=some [aN r x] from rfl];show(if [aN r x].length=1 then(match eK [aN r x] with|some (p,q)=>Out.nx _|none=>Out.no) else Out.no)=_
  rw[if_pos (show [aN r x].length=1 from rfl),yz R X hn];rfl
 have q2:cQ 3 (bY (af)) [.v (aN r x),.ob (.dT (jA n r x n)),.ob (.dT (j8 n r x n)),.no,.no]=.nx [.v (aN r x),.ob (.dT (jA n r x n)),.ob (.dT (j8 n r x n)),.own [],.no]:=(en (gu (ds:=[]) rfl (by simp))).trans rfl
 have q3:sY 1 [.v (aN r x),.ob (.dT (jA n r x n)),.ob (.dT (j8 n r x n)),.own [],.no]=some (.lst (((qY n r x n).map cA).map jE)):=by
  unfold sY;rw[show gF 1 [.v (aN r x),.ob (.dT (jA n r x n)),.ob (.dT (j8 n r x n)),.own [],.no]=some (jA n r x n) from rfl,Option.bind_some];unfold jA;rw[pK,Option.bind_some,if_pos ⟨by rw[List.length_map];omega,λk hk=>by obtain⟨p,_,rfl⟩:=List.mem_map.mp hk;unfold cA;simp⟩,<-kG As (List.Perm.refl _) (zP n r x n)]
 obtain⟨s4,h⟩:=oC (n:=n) (r:=r) (x:=x) hn (qY n r x n) [] .no (λ_ h=>h) (by simp;omega)
 rw[List.nil_append,Ar] at h;exact⟨_,(av q1).trans ((av q2).trans ((av ((db (bm (j4 q3))).trans h)).trans rfl))⟩
end
theorem wS {n:Nat}{r x:List Nat}(R:Ord n r)(X:Ord n x)(hn:n<=8): ∃C:Nat->List Nat,(∀s,s<n->Cy n (di r x) s (C s))/\
 eT [aN r x]=some (.lst (((List.range n).filter (cV (di r x))).map λs=>.lst ((C s).map nI))):=by
 obtain⟨C,hC,h⟩:=kW (jO R X) (by omega)
 refine⟨C,hC,?_⟩
 apply cw (kd:=.n) (n:=3) (t:=jk)
 unfold jk;refine(av (ρ':=[.v (aN r x),.v (ci r),.v (ci x)]) (oI (mU rfl) rfl)).trans ?_
 refine de ((cI (ds:=[.lst (((List.range n).map (di r x)).map nI)]) (aq ?_ rfl) rfl).trans h)
 refine cb (ds:=r.map nI) (Az rfl) (by rw[List.length_map,R.len];omega) ?_
 have er:r.map nI=(List.range n).map λy=>nI (r.getD y 0):=by
  conv=>lhs;rw[uy r,R.len,List.map_map]
  rfl
 rw[er,List.map_map];refine cZ (List.range n) λy hy=>?_
 rw[List.mem_range] at hy;exact⟨_,rfl,(au (x:=ci x) (y:=nI (r.getD y 0)) rfl rfl).trans (jN X (R.get hy))⟩
theorem xb(L:List Nat)(c:Nat):sP true (nI c) (.lst (L.map nI))=some (.bl (!decide (c∈L))):=by
 unfold sP rk;dsimp only;rw[iW,if_pos (by omega),zm]
 rfl
section
variable {n:Nat}{r x:List Nat}(R:Ord n r)(X:Ord n x)(hn:n<=6)
abbrev qG(r x:List Nat)(s:Nat)(W:List Nat)(c:Nat)(s4:Sl):aC:=[.v (aN r x),.v (nI s),.own (W.map nI),.v (nI c),s4]
def cW:FT:=df (ak (sP true) (ah 3) (dA 2))
def bW:FS:=ay (bA (aL 2 1 fW (cg (aa (ah 3) (af)))))
 (ay (aQ 4 (ak aG (aS 1 (aZ (aa (ai bN (aa (ak aG (ah 0) (aw (.int 0))) (af))) (af))) (gN 5) (df (ak hZ (ak aG (ak aG (ah 0) (aw (.int 0))) (ah 3)) (ah 5))) (ah 5)) (aw (.int 0))))
 (aQ 3 (ak aG (aS 1 (aZ (aa (ai bN (aa (ak aG (ah 0) (aw (.int 0))) (af))) (af))) (gN 5) (df (ak hZ (ak aG (ak aG (ah 0) (aw (.int 1))) (ah 5)) (ah 4))) (ah 5)) (aw (.int 0)))))
include R X hn
theorem zd {s c:Nat}{W:List Nat}{s4:Sl}(hc:c<n)(hW:W.length<=60):bW (qG r x s W c s4)=.nx (qG r x s (W++[c]) (di r x c) (.v (nI (r.getD c 0)))):=by
 have ln: ∀W c s4,aZ (aa (ai bN (aa (ak aG (ah 0) (aw (.int 0))) (af))) (af)) (qG r x s W c s4)=some ((List.range n).map nI):=λW c s4=>cB (aq ((jy r _ _ ((au (x:=aN r x) (y:=.int 0) rfl rfl).trans rfl)).trans (by rw[R.len])) rfl) (by omega)
 have q1:bA (aL 2 1 fW (cg (aa (ah 3) (af)))) (qG r x s W c s4)=.nx (qG r x s (W++[c]) c s4):=by
  refine(kA (i:=2) (b0:=W.map nI) (bs:=W.map nI) (d:=nI c) rfl (bm (aq rfl rfl)) rfl (by simp;omega)).trans ?_
  show Out.nx [.v (aN r x),.v (nI s),.own (W.map nI++[nI c]),.v (nI c),s4]=_;rw[<-List.map_singleton,<-List.map_append]
 have q2:aQ 4 (ak aG (aS 1 (aZ (aa (ai bN (aa (ak aG (ah 0) (aw (.int 0))) (af))) (af))) (gN 5) (df (ak hZ (ak aG (ak aG (ah 0) (aw (.int 0))) (ah 3)) (ah 5))) (ah 5)) (aw (.int 0))) (qG r x s (W++[c]) c s4)=.nx (qG r x s (W++[c]) c (.v (nI (r.getD c 0)))):=by
  refine(bb ((au (x:=.lst [nI (r.getD c 0)]) (y:=.int 0) (cb (ln _ _ _) (by simp;omega) ?_) rfl).trans rfl)).trans rfl
  have:=fO (g:=gN 5) (p:=df (ak hZ (ak aG (ak aG (ah 0) (aw (.int 0))) (ah 3)) (ah 5))) (f:=ah 5) (ρ0:=qG r x s (W++[c]) c s4++List.replicate 1 .no) (h:=nI) (o:=nI) (q:=λv=>decide (r.getD c 0=v)) (List.range n) λv hv=>⟨_,rfl,fB ((au ((au ((au (x:=aN r x) (y:=.int 0) rfl rfl).trans rfl) (y:=nI c) rfl).trans (hE (by rw[R.len];exact hc))) (y:=nI v) rfl).trans (mC _ _)),λ_=>rfl⟩
  rw[this,gd (R.get hc) λi hi=>by rw[decide_eq_true_eq];exact eq_comm]
  rfl
 have q3:aQ 3 (ak aG (aS 1 (aZ (aa (ai bN (aa (ak aG (ah 0) (aw (.int 0))) (af))) (af))) (gN 5) (df (ak hZ (ak aG (ak aG (ah 0) (aw (.int 1))) (ah 5)) (ah 4))) (ah 5)) (aw (.int 0))) (qG r x s (W++[c]) c (.v (nI (r.getD c 0))))=.nx (qG r x s (W++[c]) (di r x c) (.v (nI (r.getD c 0)))):=by
  refine(bb ((au (x:=.lst [nI (di r x c)]) (y:=.int 0) (cb (ln _ _ _) (by simp;omega) ?_) rfl).trans rfl)).trans rfl
  have:=fO (g:=gN 5) (p:=df (ak hZ (ak aG (ak aG (ah 0) (aw (.int 1))) (ah 5)) (ah 4))) (f:=ah 5) (ρ0:=qG r x s (W++[c]) c (.v (nI (r.getD c 0)))++List.replicate 1 .no) (h:=nI) (o:=nI) (q:=λv=>decide (x.getD v 0=r.getD c 0)) (List.range n) λv hv=>⟨_,rfl,fB ((au ((au ((au (x:=aN r x) (y:=.int 1) rfl rfl).trans rfl) (y:=nI v) rfl).trans (hE (by rw[X.len];exact List.mem_range.mp hv))) (y:=nI (r.getD c 0)) rfl).trans (mC _ _)),λ_=>rfl⟩
  rw[this,gd (eB X (R.get hc)).1 λi hi=>by
   rw[decide_eq_true_eq];constructor
   ·intro e
    have:=oK X (c:=i) hi
    rw[e] at this;exact this.symm
   ·rintro rfl;exact(eB X (R.get hc)).2]
  rfl
 exact(av q1).trans ((av q2).trans q3)
theorem uu(s:Nat): ∀(f:Nat) (W:List Nat) (t:Nat) (s4:Sl),n<f+W.length->Wl n (di r x) s W t-> ∃L s3 s4',i8 cW bW f (qG r x s W (di r x t) s4)=.nx [.v (aN r x),.v (nI s),.own (L.map nI),s3,s4']/\Cy n (di r x) s L:=by
 intro f
 induction f with
 |zero=>intro W t s4 h w;exact absurd (fP w.w.nd w.w.lt) (by omega)
 |succ f ih=>
  intro W t s4 h w;have wl:=fP w.w.nd w.w.lt
  have tst:cW (qG r x s W (di r x t) s4)=some (!decide (di r x t∈W)):=fB ((au (x:=nI (di r x t)) (y:=.lst (W.map nI)) rfl rfl).trans (xb _ _))
  by_cases e:di r x t=s
  ·refine⟨W,.v (nI (di r x t)),s4,?_,w.done e⟩
   unfold i8;rw[tst,e,decide_eq_true w.w.hs];rfl
  ·have ni:=w.w.notin (jO R X).sg e
   obtain⟨L,s3,s4',h1,h2⟩:=ih (W++[di r x t]) (di r x t) (.v (nI (r.getD (di r x t) 0))) (by rw[List.length_append,List.length_singleton];omega) (w.next (jO R X) e)
   refine⟨L,s3,s4',?_,h2⟩
   have tst':cW (qG r x s W (di r x t) s4)=some true:=by rw[tst,decide_eq_false ni];rfl
   unfold i8;rw[tst'];dsimp only;rw[zd R X hn ((jO R X).lt t (w.w.lt _ w.w.ht)) (by omega)]
   exact h1
theorem yo {s:Nat}(hs:s<n): ∃L,eY [aN r x,nI s]=some (.lst (L.map nI))/\Cy n (di r x) s L:=by
 obtain⟨L,s3,s4',h1,h2⟩:=uu R X hn s 15 [s] s (.v (nI (r.getD s 0))) (by simp;omega) (Wl.start hs)
 refine⟨L,?_,h2⟩
 apply cw (kd:=.n) (n:=5) (t:=jb)
 unfold jb;refine(av (ρ':=[.v (aN r x),.v (nI s),.own [],.no,.no]) ((en (gu (ds:=[]) rfl (by simp))).trans rfl)).trans ?_
 refine(av (ρ':=qG r x s [] s .no) ((bb (d:=nI s) rfl).trans rfl)).trans ?_
 have st:i8 cW bW 16 (qG r x s [] s .no)=.nx [.v (aN r x),.v (nI s),.own (L.map nI),s3,s4']:=by
  have tst:cW (qG r x s [] s .no)=some true:=fB ((au (x:=nI s) (y:=.lst ([].map nI)) rfl rfl).trans (xb [] s))
  unfold i8;rw[tst];dsimp only;rw[zd R X hn hs (by simp)]
  exact h1
 refine(av st).trans ?_
 rfl
theorem Dt {C:Nat->List Nat}(hC: ∀s,s<n->Cy n (di r x) s (C s)){c:Nat}(hc:c<n):((List.range c).filter (cV (di r x))).any (λs=>decide (c∈C s))= !cV (di r x) c:=by
 have H:=(jO R X).sg
 rw[Bool.eq_iff_iff,List.any_eq_true,Bool.not_eq_true'];constructor
 ·rintro⟨s,hs,hm⟩
  rw[List.mem_filter,List.mem_range] at hs;rw[decide_eq_true_eq] at hm;have h1:=((hC s (by omega)).c.mem c).mp hm
  have h2:=(hC s (by omega)).c.back c hm
  cases e:cV (di r x) c with
  |false=>rfl
  |true=>exact absurd (ledB_iff.mp e s h2) (by omega)
 ·intro e
  obtain⟨m,hm1,hm2,hm3⟩:=wP H hc
  have lc: ¬led (di r x) c:=λh=>by rw[ledB_iff.mpr h] at e;cases e
  have hb:=lU H hc hm3
  have le:m<=c:=hm2 c hb
  have ne:m≠c:=λz=>lc (z▸hm2)
  exact⟨m,List.mem_filter.mpr ⟨List.mem_range.mpr (by omega),ledB_iff.mpr hm2⟩,decide_eq_true (((hC m hm1).c.mem c).mpr hb)⟩
theorem uB {C:Nat->List Nat}(hC: ∀s,s<n->Cy n (di r x) s (C s)):dX [aN r x]=some (.lst (((List.range n).filter (cV (di r x))).map λs=>.lst ((C s).map nI))):=by
 let G:Nat->List D:=λk=>((List.range k).filter (cV (di r x))).map λs=>.lst ((C s).map nI)
 have gl: ∀k,(G k).length<=k:=λk=>by
  show(List.map _ _).length<=k;rw[List.length_map];exact Nat.le_trans (List.length_filter_le _ _) (by simp)
 have step: ∀(k:Nat) (s2:Sl),k<n->fz (fy (dZ (ai p9 (aa (aS 1 (jn (dA 1)) (gN 3) (fI) (ak (sP false) (ah 2) (ah 3))) (af))))) (bA (aL 1 1 fW (cg (aa (ai (nF 2 eY) (aa (ah 0) (aa (ah 2) (af)))) (af))))) (skip) [.v (aN r x),.own (G k),.v (nI k)]=.nx [.v (aN r x),.own (G (k+1)),.v (nI k)]:=by
  intro k s2 hk;have cp:aS 1 (jn (dA 1)) (gN 3) (fI) (ak (sP false) (ah 2) (ah 3)) [.v (aN r x),.own (G k),.v (nI k)]=some (.lst ((((List.range k).filter (cV (di r x))).map λs=>decide (k∈C s)).map D.bl)):=by
   refine cb (oe rfl) (by have:=gl k;omega) ?_
   rw[List.map_map];exact cZ (h:=λs=>D.lst ((C s).map nI)) (o:=λs=>D.bl (decide (k∈C s))) _ λs hs=>⟨_,rfl,(au (x:=nI k) (y:=.lst ((C s).map nI)) rfl rfl).trans (Ew _ _)⟩
  have tst:fy (dZ (ai p9 (aa (aS 1 (jn (dA 1)) (gN 3) (fI) (ak (sP false) (ah 2) (ah 3))) (af)))) [.v (aN r x),.own (G k),.v (nI k)]=some (cV (di r x) k):=by
   have:ai p9 (aa (aS 1 (jn (dA 1)) (gN 3) (fI) (ak (sP false) (ah 2) (ah 3))) (af)) [.v (aN r x),.own (G k),.v (nI k)]=some (.bl (!cV (di r x) k)):=by
    rw[ba (aq cp rfl),xT,List.any_map,<-Dt R X hn hC hk];rfl
   have:=jg (i0 this)
   rw[Bool.not_not] at this;exact this
  have gs:G (k+1)=G k++(if cV (di r x) k=true then [D.lst ((C k).map nI)] else []):=by
   show List.map _ _=List.map _ _++_;rw[List.range_succ,List.filter_append,List.map_append];congr 1
   cases e:cV (di r x) k
   ·rw[List.filter_cons_of_neg (by rw[e];decide)];rfl
   ·rw[List.filter_cons_of_pos e];rfl
  cases e:cV (di r x) k with
  |false=>
   rw[e] at tst gs;rw[gs,if_neg (by decide),List.append_nil]
   exact nw tst
  |true=>
   rw[e] at tst gs;rw[gs,if_pos rfl];obtain⟨L,hL,hL2⟩:=yo R X hn hk
   cases hL2.uniq (hC k hk)
   exact(mI tst).trans ((kA (i:=1) (b0:=G k) (bs:=G k) (d:=.lst ((C k).map nI)) rfl (bm (aq ((cI (ds:=[aN r x,nI k]) rfl rfl).trans hL) rfl)) rfl (by have:=gl k;omega)).trans rfl)
 obtain⟨ρ',h,s2',rfl⟩:=jD (g:=gN 2) (b:=fz (fy (dZ (ai p9 (aa (aS 1 (jn (dA 1)) (gN 3) (fI) (ak (sP false) (ah 2) (ah 3))) (af))))) (bA (aL 1 1 fW (cg (aa (ai (nF 2 eY) (aa (ah 0) (aa (ah 2) (af)))) (af))))) (skip)) (P:=λi ρ=> ∃s2,ρ=[.v (aN r x),.own (G i),s2]) n 0 (λi ρ _ hi hq_=>by
  obtain⟨s2,e⟩:=hq_
  subst e;rw[Nat.zero_add] at hi;exact⟨_,_,rfl,step i s2 hi,_,rfl⟩) [.v (aN r x),.own [],.no] ⟨.no,rfl⟩
 rw[Nat.zero_add] at h;apply cw (kd:=.n) (n:=3) (t:=ib)
 unfold ib;refine(av (ρ':=[.v (aN r x),.own [],.no]) ((en (gu (ds:=[]) rfl (by simp))).trans rfl)).trans ?_
 refine(av ((db (ds:=(List.range n).map nI) (bm (cB (n:=n) (aq ((jy r _ _ ((au (x:=aN r x) (y:=.int 0) rfl rfl).trans rfl)).trans (by rw[R.len])) rfl) (by omega)))).trans (by rw[List.range_eq_range'];exact h))).trans ?_
 show kF 1 [.v (aN r x),.own (((List.range n).filter (cV (di r x))).map λs=>.lst ((C s).map nI)),s2']=_
 rfl
end
set_option maxHeartbeats 4000000
set_option maxHeartbeats 1000000
set_option maxHeartbeats 4000000
set_option maxHeartbeats 1000000
structure Lns(n:Nat)(S:Nat->Nat)(LL:List (List Nat)):Prop where
 cov: ∀c,c<n-> ∃k,k<LL.length/\c∈LL.getD k []
 uni: ∀k l c,k<LL.length->l<LL.length->c∈LL.getD k []->c∈LL.getD l []->k=l
 lt: ∀k,k<LL.length-> ∀c∈LL.getD k [],c<n
 cl: ∀k,k<LL.length-> ∀c∈LL.getD k [],S c∈LL.getD k []
 len:LL.length<=n
 ll: ∀L∈LL,L.length<=n
theorem xm {n:Nat}{r x:List Nat}(R:Ord n r)(X:Ord n x){C:Nat->List Nat}(hC: ∀s,s<n->Cy n (di r x) s (C s)):Lns n (di r x) (((List.range n).filter (cV (di r x))).map C):=by
 have H:=(jO R X).sg
 generalize hLs:(List.range n).filter (cV (di r x))=Ls
 have mem: ∀s,s∈Ls↔s<n/\led (di r x) s:=λs=>by rw[<-hLs,List.mem_filter,List.mem_range,ledB_iff]
 have nd:Ls.Nodup:=by rw[<-hLs];exact List.nodup_range.sublist List.filter_sublist
 have get: ∀k,k<Ls.length->(Ls.map C).getD k []=C (Ls.getD k 0)/\Ls.getD k 0∈Ls:=λk hk=>by
  rw[List.getD_eq_getElem?_getD,List.getElem?_map,List.getElem?_eq_getElem hk,List.getD_eq_getElem?_getD,List.getElem?_eq_getElem hk];exact⟨rfl,List.getElem_mem hk⟩
 refine⟨λc hc=>?_,λk l c hk hl m1 m2=>?_,λk hk c hm=>?_,λk hk c hm=>?_,?_,λL hL=>?_⟩
 ·obtain⟨m,hm1,hm2,hm3⟩:=wP H hc
  have hb:=lU H hc hm3
  obtain⟨k,hk,e⟩:=List.mem_iff_getElem.mp ((mem m).mpr ⟨hm1,hm2⟩)
  refine⟨k,by rw[List.length_map];exact hk,?_⟩
  rw[(get k hk).1];have:Ls.getD k 0=m:=by rw[List.getD_eq_getElem?_getD,List.getElem?_eq_getElem hk];exact e
  rw[this];exact((hC m hm1).c.mem c).mpr hb
 ·rw[List.length_map] at hk hl
  obtain⟨g1,g2⟩:=get k hk
  obtain⟨g3,g4⟩:=get l hl
  rw[g1] at m1;rw[g3] at m2;obtain⟨a1,a2⟩:=(mem _).mp g2
  obtain⟨b1,b2⟩:=(mem _).mp g4
  have p1:=((hC _ a1).c.mem c).mp m1
  have p2:=(hC _ a1).c.back c m1
  have q1:=((hC _ b1).c.mem c).mp m2
  have q2:=(hC _ b1).c.back c m2
  have e1:=a2 _ (iE p1 q2)
  have e2:=b2 _ (iE q1 p2)
  exact oH nd hk hl (by omega)
 ·rw[List.length_map] at hk
  obtain⟨g1,g2⟩:=get k hk
  rw[g1] at hm;exact(hC _ ((mem _).mp g2).1).c.lt c hm
 ·rw[List.length_map] at hk
  obtain⟨g1,g2⟩:=get k hk
  rw[g1] at hm⊢;have hs:=((mem _).mp g2).1
  exact((hC _ hs).c.mem _).mpr (iE (((hC _ hs).c.mem c).mp hm) ⟨1,rfl⟩)
 ·rw[List.length_map,<-hLs]
  exact Nat.le_trans (List.length_filter_le _ _) (by simp)
 ·obtain⟨s,hs,rfl⟩:=List.mem_map.mp hL
  have hs:=((mem _).mp hs).1
  have:=fP (hC s hs).nd (hC s hs).c.lt
  exact this
def bO(n:Nat)(r x:List Nat):List (Nat×Nat):=(List.range n).flatMap λc=>((List.range n).filter (gO r x c)).map λy=>(c,y)
theorem Ch(n:Nat)(r x:List Nat):xy n r x=(bO n r x).map λp=>[(p.1:Int),(p.2:Int),qx r x p.1 p.2]:=by
 unfold xy bO;rw[List.map_flatMap];congr 1
 funext c;rw[List.map_map];rfl
def D3(r x:List Nat)(p:Nat×Nat):Int:=qx r x p.1 p.2
structure Lnr(S:Nat->Nat)(LL:List (List Nat)):Prop where
 ne: ∀k,k<LL.length-> ∃c,c∈LL.getD k []
 re: ∀k,k<LL.length-> ∀c d,c∈LL.getD k []->d∈LL.getD k []->pz S c d
theorem A0 {n:Nat}{r x:List Nat}(R:Ord n r)(X:Ord n x){C:Nat->List Nat}(hC: ∀s,s<n->Cy n (di r x) s (C s)):Lnr (di r x) (((List.range n).filter (cV (di r x))).map C):=by
 have H:=(jO R X).sg
 generalize hLs:(List.range n).filter (cV (di r x))=Ls
 have mem: ∀s,s∈Ls->s<n:=λs h=>by rw[<-hLs,List.mem_filter,List.mem_range] at h;exact h.1
 have get: ∀k,k<Ls.length->(Ls.map C).getD k []=C (Ls.getD k 0)/\Ls.getD k 0∈Ls:=λk hk=>by
  rw[List.getD_eq_getElem?_getD,List.getElem?_map,List.getElem?_eq_getElem hk,List.getD_eq_getElem?_getD,List.getElem?_eq_getElem hk];exact⟨rfl,List.getElem_mem hk⟩
 refine⟨λk hk=>?_,λk hk c d h1 h2=>?_⟩
 ·rw[List.length_map] at hk
  obtain⟨g1,g2⟩:=get k hk
  exact⟨Ls.getD k 0,by rw[g1];exact((hC _ (mem _ g2)).c.mem _).mpr ⟨0,rfl⟩⟩
 ·rw[List.length_map] at hk
  obtain⟨g1,g2⟩:=get k hk
  rw[g1] at h1 h2;have lt:=mem _ g2
  exact zS (lU H lt (((hC _ lt).c.mem c).mp h1)) (((hC _ lt).c.mem d).mp h2)
theorem iZ {α:Type} [BEq α] [LawfulBEq α]{l:List α}(nd:l.Nodup)(q:α->Bool)(d:α):(List.range l.length).filter (λi=>q (l.getD i d))=(l.filter q).map λa=>l.idxOf a:=by
 have hl:(List.range l.length).map (λi=>l.getD i d)=l:=gU l d
 have e:l.filter q=((List.range l.length).filter (λi=>q (l.getD i d))).map λi=>l.getD i d:=by
  conv=>lhs;rw[<-hl]
  rw[List.filter_map];rfl
 rw[e,List.map_map];have: ∀i∈(List.range l.length).filter (λi=>q (l.getD i d)),((λa=>l.idxOf a)∘λi=>l.getD i d) i=id i:=λi hi=>by
  have lt:=List.mem_range.mp (List.mem_filter.mp hi).1
  show l.idxOf (l.getD i d)=i;rw[List.getD_eq_getElem?_getD,List.getElem?_eq_getElem lt];exact nd.idxOf_getElem i lt
 rw[List.map_congr_left this,List.map_id]
theorem tV {α:Type}{c:Nat}(f:Nat->List α): ∀ {n:Nat},c<n->((List.range n).flatMap λi=>if i=c then f i else [])=f c
 |n+1,h=>by
  rw[List.range_succ,List.flatMap_append,List.flatMap_singleton]
  by_cases e:c=n
  ·subst e
   rw[if_pos rfl];have:((List.range c).flatMap λi=>if i=c then f i else [])=[]:=by
    rw[List.flatMap_eq_nil_iff];intro i hi;rw[if_neg (by have:=List.mem_range.mp hi;omega)]
   rw[this,List.nil_append]
  ·rw[tV f (by omega:c<n),if_neg (λz=>e z.symm),List.append_nil]
section
variable {n:Nat}{r x:List Nat}
theorem mem_crP' {p:Nat×Nat}:p∈bO n r x↔(p.1<n/\p.2<n)/\gO r x p.1 p.2=true:=by
 unfold bO;rw[List.mem_flatMap];constructor
 ·rintro⟨c,hc,h⟩
  obtain⟨y,hy,rfl⟩:=List.mem_map.mp h
  obtain⟨h1,h2⟩:=List.mem_filter.mp hy
  exact⟨⟨List.mem_range.mp hc,List.mem_range.mp h1⟩,h2⟩
 ·rintro⟨⟨h1,h2⟩,h3⟩
  exact⟨p.1,List.mem_range.mpr h1,List.mem_map.mpr ⟨p.2,List.mem_filter.mpr ⟨List.mem_range.mpr h2,h3⟩,rfl⟩⟩
theorem crP_nd:(bO n r x).Nodup:=by
 unfold bO;refine List.pairwise_flatMap.mpr ⟨λc _=>?_,?_⟩
 ·refine List.Pairwise.map _ ?_ (List.nodup_range.sublist List.filter_sublist)
  rintro y z ne e
  exact ne (congrArg Prod.snd e)
 ·refine List.Pairwise.imp ?_ (List.nodup_range (n:=n))
  rintro c d ne p hp q hq e
  obtain⟨y,_,rfl⟩:=List.mem_map.mp hp
  obtain⟨z,_,rfl⟩:=List.mem_map.mp hq
  exact ne (congrArg Prod.fst e)
theorem po {c:Nat}(hc:c<n):(bO n r x).filter (λp=>decide (p.1=c))=((List.range n).filter (gO r x c)).map λy=>(c,y):=by
 unfold bO;rw[List.filter_flatMap,<-tV (λc=>((List.range n).filter (gO r x c)).map λy=>(c,y)) hc]
 congr 1
 funext d
 by_cases e:d=c
 ·rw[if_pos e,List.filter_eq_self.mpr]
  intro p hp;obtain⟨y,_,rfl⟩:=List.mem_map.mp hp
  exact decide_eq_true e
 ·rw[if_neg e,List.filter_eq_nil_iff]
  intro p hp;obtain⟨y,_,rfl⟩:=List.mem_map.mp hp
  simpa using e
theorem jt {y:Nat}(hy:y<n):(bO n r x).filter (λp=>decide (p.2=y))=((List.range n).filter (λc=>gO r x c y)).map λc=>(c,y):=by
 unfold bO;rw[List.filter_flatMap];have e: ∀c,(((List.range n).filter (gO r x c)).map λy=>(c,y)).filter (λp=>decide (p.2=y))=if gO r x c y=true then [(c,y)] else []:=λc=>by
  rw[List.filter_map,List.filter_filter]
  by_cases h:gO r x c y=true
  ·rw[if_pos h,gd hy λi hi=>?_]
   ·rfl
   ·show(decide (i=y)&&gO r x c i)=true↔i=y
    rw[Bool.and_eq_true,decide_eq_true_eq];exact⟨λz=>z.1,λz=>⟨z,by rw[z];exact h⟩⟩
  ·rw[if_neg h,List.map_eq_nil_iff,List.filter_eq_nil_iff]
   intro i hi z;have z:(decide (i=y)&&gO r x c i)=true:=z
   rw[Bool.and_eq_true,decide_eq_true_eq] at z;rw[z.1] at z;exact h z.2
 simp only[e]
 generalize List.range n=l
 induction l with
 |nil=>rfl
 |cons c l ih=>
  rw[List.flatMap_cons,ih]
  by_cases h:gO r x c y=true
  ·rw[if_pos h,List.filter_cons_of_pos (p:=λc=>gO r x c y) h];rfl
  ·rw[if_neg h,List.filter_cons_of_neg (p:=λc=>gO r x c y) h];rfl
end
def gh(q t:Nat):List Nat:=if q<t then List.range' (q+1) (t-q-1) else(List.range' (t+1) (q-t-1)).reverse
def h9(q t:Nat):Nat:=if q<t then q+1 else if t<q then q-1 else q
theorem wN {q t:Nat}(ne:q≠t)(h:h9 q t=t):gh q t=[]:=by
 unfold h9 at h;unfold gh
 by_cases e:q<t
 ·rw[if_pos e] at h⊢
  rw[show t-q-1=0 by omega];rfl
 ·rw[if_neg e,if_pos (by omega)] at h
  rw[if_neg e,show q-t-1=0 by omega];rfl
theorem yb {q t:Nat}(ne:q≠t)(h:h9 q t≠t):gh q t=h9 q t::gh (h9 q t) t:=by
 by_cases e:q<t
 ·have hn:h9 q t=q+1:=by unfold h9;rw[if_pos e]
  rw[hn] at h⊢;unfold gh;rw[if_pos e,if_pos (by omega),show t-q-1=(t- (q+1) -1)+1 by omega,List.range'_succ]
 ·have hn:h9 q t=q-1:=by unfold h9;rw[if_neg e,if_pos (by omega)]
  rw[hn] at h⊢;unfold gh;rw[if_neg e,if_neg (by omega),show q-t-1=(q-1-t-1)+1 by omega,List.range'_1_concat,List.reverse_append,show t+1+(q-1-t-1)=q-1 by omega]
  rfl
def oR(q t:Nat):Nat:=(q-t)+(t-q)
theorem yt {q t:Nat}(ne:q≠t):oR (h9 q t) t+1=oR q t:=by
 unfold oR h9;split
 ·omega
 ·split<;>omega
theorem qK {n q t:Nat}(hq:q<n)(ht:t<n){P:Nat->Bool}(h: ∀y,P y=true->jr y q t=true):(gh q t).filter P=if q<t then(List.range n).filter P else((List.range n).filter P).reverse:=by
 have e:(List.range n).filter P=(List.range' (min q t+1) (max q t- (min q t+1))).filter P:=by
  rw[oy hq ht,List.filter_filter];refine List.filter_congr λy _=>?_
  cases hp:P y with
  |true=>rw[h y hp];rfl
  |false=>rfl
 rw[e];unfold gh
 by_cases lt:q<t
 ·rw[if_pos lt,if_pos lt,Nat.min_eq_left (by omega),Nat.max_eq_right (by omega),show t- (q+1)=t-q-1 by omega]
 ·rw[if_neg lt,if_neg lt,Nat.min_eq_right (by omega),Nat.max_eq_left (by omega),show q- (t+1)=q-t-1 by omega,List.filter_reverse]
def va(n:Nat)(r x:List Nat)(p:Nat×Nat):Bool:=decide (p∈bO n r x)
def wC(n:Nat)(r x:List Nat)(c:Nat):List (Nat×Nat):=((gh (x.getD c 0) (r.getD c 0)).map λy=>(c,y)).filter (va n r x)
def wR(n:Nat)(r x:List Nat)(c:Nat):List (Nat×Nat):=((gh c (di r x c)).map λd=>(d,r.getD c 0)).filter (va n r x)
section
variable {n:Nat}{r x:List Nat}(R:Ord n r)(X:Ord n x)
include R X
theorem qt {c:Nat}(hc:c<n):wC n r x c=if x.getD c 0<r.getD c 0 then((List.range n).filter (gO r x c)).map (λy=>(c,y)) else(((List.range n).filter (gO r x c)).map λy=>(c,y)).reverse:=by
 unfold wC;rw[List.filter_map];have e: ∀l:List Nat,(∀y∈l,y<n)->l.filter (va n r x∘λy=>(c,y))=l.filter (gO r x c):=λl hl=>List.filter_congr λy hy=>by
  show decide ((c,y)∈bO n r x)=_;rw[Bool.eq_iff_iff,decide_eq_true_eq,mem_crP'];exact⟨λz=>z.2,λz=>⟨⟨hc,hl y hy⟩,z⟩⟩
 have hq:=X.get hc
 have ht:=R.get hc
 rw[e _ λy hy=>?_,qK hq ht λy hy=>?_]
 ·split
  ·rfl
  ·rw[List.map_reverse]
 ·unfold gO at hy
  rw[Bool.and_eq_true] at hy;rw[tj];exact hy.1
 ·unfold gh at hy
  split at hy
  ·have:=List.mem_range'_1.mp hy;omega
  ·have:=List.mem_range'_1.mp (List.mem_reverse.mp hy);omega
theorem nJ {c:Nat}(hc:c<n):wR n r x c=if r.idxOf (r.getD c 0)<x.idxOf (r.getD c 0) then((List.range n).filter (λd=>gO r x d (r.getD c 0))).map (λd=>(d,r.getD c 0)) else(((List.range n).filter (λd=>gO r x d (r.getD c 0))).map λd=>(d,r.getD c 0)).reverse:=by
 unfold wR;rw[List.filter_map];have hy:=R.get hc
 have ht:=(eB X hy).1
 have e: ∀l:List Nat,(∀d∈l,d<n)->l.filter (va n r x∘λd=>(d,r.getD c 0))=l.filter (λd=>gO r x d (r.getD c 0)):=λl hl=>List.filter_congr λd hd=>by
  show decide ((d,r.getD c 0)∈bO n r x)=_;rw[Bool.eq_iff_iff,decide_eq_true_eq,mem_crP'];exact⟨λz=>z.2,λz=>⟨⟨hl d hd,hy⟩,z⟩⟩
 have e2:di r x c=x.idxOf (r.getD c 0):=rfl
 have e3:r.idxOf (r.getD c 0)=c:=oK R hc
 rw[e2,e3,e _ λy hy=>?_,qK hc ht λd hd=>?_]
 ·split
  ·rfl
  ·rw[List.map_reverse]
 ·unfold gO at hd
  rw[Bool.and_eq_true,e3] at hd;exact hd.2
 ·unfold gh at hy
  split at hy
  ·have:=List.mem_range'_1.mp hy;omega
  ·have:=List.mem_range'_1.mp (List.mem_reverse.mp hy);omega
theorem lL(hn:n<=6):(bO n r x).length<=24:=by
 unfold bO;have h: ∀c∈List.range n,(((List.range n).filter (gO r x c)).map λy=>(c,y)).length<=n-2:=λc hc=>by
  have hc:=List.mem_range.mp hc
  rw[List.length_map];have hq:=X.get hc
  have ht:=R.get hc
  have:((List.range n).filter (gO r x c)).length<=((List.range n).filter λy=>jr y (r.getD c 0) (x.getD c 0)).length:=by
   have e:(List.range n).filter (gO r x c)=((List.range n).filter λy=>jr y (r.getD c 0) (x.getD c 0)).filter (gO r x c):=by
    rw[List.filter_filter];refine List.filter_congr λy _=>?_
    unfold gO;cases jr y (r.getD c 0) (x.getD c 0)<;>simp
   rw[e];exact List.length_filter_le _ _
  rw[<-oy ht hq,List.length_range'] at this;omega
 have g: ∀l:List Nat,(∀c∈l,(((List.range n).filter (gO r x c)).map λy=>(c,y)).length<=n-2)->(l.flatMap λc=>((List.range n).filter (gO r x c)).map λy=>(c,y)).length<=l.length*(n-2):=by
  intro l
  induction l with
  |nil=>intro _;simp
  |cons c l ih=>
   intro hl;rw[List.flatMap_cons,List.length_append,List.length_cons,Nat.add_mul];have h1:=hl c List.mem_cons_self
   have h2:=ih λd hd=>hl d (List.mem_cons_of_mem _ hd)
   omega
 have:=g (List.range n) h
 rw[List.length_range] at this;have m:n*(n-2)<=6*4:=Nat.mul_le_mul hn (by omega)
 exact Nat.le_trans this m
theorem z0:((List.range n).flatMap (wC n r x)).Perm (bO n r x):=by
 unfold bO;have g: ∀l:List Nat,(∀c∈l,c<n)->(l.flatMap (wC n r x)).Perm (l.flatMap λc=>((List.range n).filter (gO r x c)).map λy=>(c,y)):=by
  intro l
  induction l with
  |nil=>intro _;exact List.Perm.refl _
  |cons c l ih=>
   intro hl;rw[List.flatMap_cons,List.flatMap_cons];refine List.Perm.append ?_ (ih λd hd=>hl d (List.mem_cons_of_mem _ hd))
   rw[qt R X (hl c List.mem_cons_self)];split
   ·exact List.Perm.refl _
   ·exact List.reverse_perm _
 exact g _ λc hc=>List.mem_range.mp hc
theorem oA {c:Nat}(hc:c<n){p:Nat×Nat}:p∈wR n r x c↔p∈bO n r x/\p.2=r.getD c 0:=by
 have e:p∈wR n r x c↔p∈((List.range n).filter (λd=>gO r x d (r.getD c 0))).map (λd=>(d,r.getD c 0)):=by
  rw[nJ R X hc];split
  ·exact Iff.rfl
  ·exact List.mem_reverse
 rw[e,<-jt (R.get hc),List.mem_filter,decide_eq_true_eq]
theorem Bg:((List.range n).flatMap (wR n r x)).Perm (bO n r x):=by
 refine(List.perm_ext_iff_of_nodup ?_ crP_nd).mpr λp=>?_
 ·refine List.pairwise_flatMap.mpr ⟨λc hc=>?_,?_⟩
  ·have hc:=List.mem_range.mp hc
   have nd:(((List.range n).filter (λd=>gO r x d (r.getD c 0))).map (λd=>(d,r.getD c 0))).Nodup:=by
    rw[<-jt (R.get hc)];exact crP_nd.sublist List.filter_sublist
   show(wR n r x c).Nodup;rw[nJ R X hc];split
   ·exact nd
   ·exact(List.reverse_perm _).nodup_iff.mpr nd
  ·refine List.Pairwise.imp ?_ (List.Pairwise.and_mem.mp (List.nodup_range (n:=n)))
   rintro c d ⟨hc,hd,ne⟩ p hp q hq e
   subst e;have h1:=((oA R X (List.mem_range.mp hc)).mp hp).2
   have h2:=((oA R X (List.mem_range.mp hd)).mp hq).2
   exact ne (R.inj (List.mem_range.mp hc) (List.mem_range.mp hd) (h1.symm.trans h2))
 ·rw[List.mem_flatMap]
  constructor
  ·rintro⟨c,hc,h⟩
   exact((oA R X (List.mem_range.mp hc)).mp h).1
  ·intro h
   have hy:=(mem_crP'.mp h).1.2
   obtain⟨h1,h2⟩:=eB R hy
   exact⟨r.idxOf p.2,List.mem_range.mpr h1,(oA R X h1).mpr ⟨h,h2.symm⟩⟩
end
def dh(n:Nat)(r x:List Nat)(c:Nat):List (Int×Bool):=(wC n r x c).map (λp=>((((bO n r x).idxOf p:Nat):Int),true))++(wR n r x c).map (λp=>((((bO n r x).idxOf p:Nat):Int),false))
theorem qE {α β:Type}(f g:α->List β): ∀l:List α,(l.flatMap λa=>f a++g a).Perm (l.flatMap f++l.flatMap g)
 | []=>List.Perm.refl _
 |a::l=>by
  rw[List.flatMap_cons,List.flatMap_cons,List.flatMap_cons];have h:=qE f g l
  refine(h.append_left (f a++g a)).trans ?_
  rw[List.append_assoc,List.append_assoc];refine List.Perm.append_left (f a) ?_
  rw[<-List.append_assoc,<-List.append_assoc];exact(List.perm_append_comm (l₁:=g a) (l₂:=l.flatMap f)).append_right _
theorem sS {α:Type} [BEq α] [LawfulBEq α]{l:List α}(nd:l.Nodup):l.map (λa=>l.idxOf a)=List.range l.length:=by
 cases l with
 |nil=>rfl
 |cons a l=>
  have:=iZ nd (λ_=>true) a
  rw[List.filter_eq_self.mpr (λ_ _=>rfl),List.filter_eq_self.mpr (λ_ _=>rfl)] at this
  exact this.symm
theorem vx {n:Nat}{r x:List Nat}(R:Ord n r)(X:Ord n x){l:List Nat}(h:l.Perm (List.range n)):(l.flatMap (dh n r x)).Perm ((List.range (bO n r x).length).map (λ(k:Nat)=>((k:Int),false))++(List.range (bO n r x).length).map λ(k:Nat)=>((k:Int),true)):=by
 refine(h.flatMap_right (dh n r x)).trans ?_
 unfold dh;refine(qE _ _ _).trans ?_
 have e1:((List.range n).flatMap λc=>(wC n r x c).map (λp=>((((bO n r x).idxOf p:Nat):Int),true))).Perm ((List.range (bO n r x).length).map λ(k:Nat)=>((k:Int),true)):=by
  rw[<-List.map_flatMap,<-sS crP_nd,List.map_map];exact(z0 R X).map (λp=>((((bO n r x).idxOf p:Nat):Int),true))
 have e2:((List.range n).flatMap λc=>(wR n r x c).map (λp=>((((bO n r x).idxOf p:Nat):Int),false))).Perm ((List.range (bO n r x).length).map λ(k:Nat)=>((k:Int),false)):=by
  rw[<-List.map_flatMap,<-sS crP_nd,List.map_map];exact(Bg R X).map (λp=>((((bO n r x).idxOf p:Nat):Int),false))
 exact(e1.append e2).trans List.perm_append_comm
theorem rj {n:Nat}{r x:List Nat}(R:Ord n r)(X:Ord n x){C:Nat->List Nat}(hC: ∀s,s<n->Cy n (di r x) s (C s)):((((List.range n).filter (cV (di r x))).map C).flatten).Perm (List.range n):=by
 have L:=xm R X hC
 have K:=A0 R X hC
 refine(List.perm_ext_iff_of_nodup ?_ List.nodup_range).mpr λc=>?_
 ·rw[<-List.flatMap_id,List.flatMap_map]
  refine List.pairwise_flatMap.mpr ⟨λs hs=>?_,?_⟩
  ·exact(hC s (List.mem_range.mp (List.mem_filter.mp hs).1)).nd
  ·refine List.Pairwise.imp ?_ (List.Pairwise.and_mem.mp ((List.nodup_range (n:=n)).sublist (List.filter_sublist (p:=cV (di r x)))))
   rintro s t ⟨hs,ht,ne⟩ u hu v hv e
   subst e;obtain⟨s1,s2⟩:=List.mem_filter.mp hs
   obtain⟨t1,t2⟩:=List.mem_filter.mp ht
   have s1:=List.mem_range.mp s1
   have t1:=List.mem_range.mp t1
   have H:=(jO R X).sg
   obtain⟨i,hi,ei⟩:=List.mem_iff_getElem.mp hs
   obtain⟨j,hj,ej⟩:=List.mem_iff_getElem.mp ht
   have hi':i<(((List.range n).filter (cV (di r x))).map C).length:=by rw[List.length_map];exact hi
   have hj':j<(((List.range n).filter (cV (di r x))).map C).length:=by rw[List.length_map];exact hj
   have gi:(((List.range n).filter (cV (di r x))).map C).getD i []=C s:=by
    rw[List.getD_eq_getElem?_getD,List.getElem?_eq_getElem hi',List.getElem_map,ei];rfl
   have gj:(((List.range n).filter (cV (di r x))).map C).getD j []=C t:=by
    rw[List.getD_eq_getElem?_getD,List.getElem?_eq_getElem hj',List.getElem_map,ej];rfl
   have:=L.uni i j u hi' hj' (by rw[gi];exact hu) (by rw[gj];exact hv)
   subst this;exact ne (ei.symm.trans ej)
 ·rw[List.mem_range,List.mem_flatten]
  constructor
  ·rintro⟨l,hl,hc⟩
   obtain⟨s,hs,rfl⟩:=List.mem_map.mp hl
   exact(hC s (List.mem_range.mp (List.mem_filter.mp hs).1)).c.lt c hc
  ·intro hc
   obtain⟨k,hk,h⟩:=L.cov c hc
   refine⟨_,?_,h⟩
   rw[List.getD_eq_getElem?_getD,List.getElem?_eq_getElem hk];exact List.getElem_mem hk
theorem x0 {n:Nat}{S:Nat->Nat}{s:Nat}{L:List Nat}(h:Cy n S s L){k:Nat}(hk:k<L.length):L.getD ((k+1) % L.length) 0=S (L.getD k 0):=by
 have g: ∀i,i<L.length->L.getD i 0=om S i s:=λi hi=>by
  have:L.getD i 0=((List.range L.length).map λi=>om S i s).getD i 0:=by rw[<-h.eq]
  rw[this,List.getD_eq_getElem?_getD,List.getElem?_map,List.getElem?_range hi];rfl
 rw[g k hk]
 by_cases e:k+1=L.length
 ·rw[e,Nat.mod_self,g 0 h.pos]
  show s=om S (k+1) s;rw[e,h.per]
 ·rw[Nat.mod_eq_of_lt (by omega),g (k+1) (by omega)]
  rfl
def D1(LL:List (List Nat)):D:=.lst (LL.map λL=>.lst (L.map nI))
def qW(r x:List Nat)(p:Nat×Nat):D:=jE [(p.1:Int),(p.2:Int),D3 r x p]
abbrev jh(n:Nat)(r x:List Nat):D:=.lst ((bO n r x).map (qW r x))
theorem rD(n:Nat)(r x:List Nat):(.lst ((xy n r x).map jE):D)=jh n r x:=by
 rw[Ch,List.map_map];rfl
theorem pp {α:Type}(f:α->D)(l:List α)(d:α):m8 (l.map f)=(List.range l.length).map λ(k:Nat)=>D.tup [nI k,f (l.getD k d)]:=by
 unfold m8;rw[List.length_map];refine List.map_congr_left λk hk=>?_
 rw[List.mem_range] at hk;congr 3
 rw[List.getD_eq_getElem?_getD,List.getElem?_map,List.getElem?_eq_getElem hk,List.getD_eq_getElem?_getD,List.getElem?_eq_getElem hk];rfl
abbrev cN(n:Nat)(r x:List Nat)(p:Nat×Nat):Nat:=(bO n r x).idxOf p
theorem wo {i:Nat}{g:FE}{ρ:aC}{bs zs:List D}(h1:g ρ=some (.lst zs))(h2:ge i ρ=some bs)(h3:bs.length+zs.length<=3000):bA (oq i g) ρ=.nx (fL i (bs++zs) ρ):=by
 refine jw (d:=.non) ?_
 unfold oq;rw[h1];dsimp only;rw[h2];dsimp only;rw[if_pos (Nat.le_trans h3 (by decide))]
section
variable {n:Nat}{r x:List Nat}(R:Ord n r)(X:Ord n x)(hn:n<=6)
include R X hn
theorem yn {c:Nat}(hc:c<n):cM [aN r x,jh n r x,nI c]=some (.lst (((wC n r x c).map λp=>(((cN n r x p:Nat):Int),true)).map ca)):=by
 have hl:=lL R X hn
 let ps:=((List.range n).filter (gO r x c)).map λy=>(c,y)
 let I:List Nat:=ps.map (cN n r x)
 have lI:I.length<=24:=by
  have:ps=(bO n r x).filter λp=>decide (p.1=c):=(po hc).symm
  show(List.map _ ps).length<=24;rw[List.length_map,this];exact Nat.le_trans (List.length_filter_le _ _) hl
 have z1:cQ 3 (aS 4 (pJ (ah 1)) (gT 2 (gE (gN 4) (gE (gT 3 (gE (gN 5) (gE (gN 6) (gE (gN 7) (lh))))) (lh)))) (df (ak hZ (ah 5) (ah 2))) (ah 4)) (gA 4 [aN r x,jh n r x,nI c])=.nx [.v (aN r x),.v (jh n r x),.v (nI c),.own (I.map nI)]:=by
  refine(en (cb (ds:=(List.range (bO n r x).length).map λ(k:Nat)=>D.tup [nI k,qW r x ((bO n r x).getD k (0,0))]) ?_ (by simp;omega) ((fO (h:=λ(k:Nat)=>D.tup [nI k,qW r x ((bO n r x).getD k (0,0))]) (o:=nI) (q:=λk=>decide (((bO n r x).getD k (0,0)).1=c)) (List.range (bO n r x).length) λk hk=>⟨[.v (aN r x),.v (jh n r x),.v (nI c),.no,.v (nI k),.v (nI ((bO n r x).getD k (0,0)).1),.v (nI ((bO n r x).getD k (0,0)).2),.v (.int (D3 r x ((bO n r x).getD k (0,0))))],rfl,fB ((au (x:=nI ((bO n r x).getD k (0,0)).1) (y:=nI c) rfl rfl).trans (mC _ _)),λ_=>rfl⟩).trans ?_))).trans rfl
  ·show some (m8 ((bO n r x).map (qW r x)))=_
   rw[pp _ _ (0,0)]
  ·rw[iZ crP_nd (λp=>decide (p.1=c)) (0,0),po hc]
 have up:=vZ R X hc
 have z2: ∃J:List Nat,J=(wC n r x c).map (cN n r x)/\fz (fy (dZ (ai (nF 2 dc) (aa (ah 0) (aa (ah 2) (af)))))) (bA (aL 3 0 rK (cg af))) (skip) [.v (aN r x),.v (jh n r x),.v (nI c),.own (I.map nI)]=.nx [.v (aN r x),.v (jh n r x),.v (nI c),.own (J.map nI)]:=by
  have t:fy (dZ (ai (nF 2 dc) (aa (ah 0) (aa (ah 2) (af))))) [.v (aN r x),.v (jh n r x),.v (nI c),.own (I.map nI)]=some (!decide (x.getD c 0<r.getD c 0)):=jg (i0 ((cI (ds:=[aN r x,nI c]) rfl rfl).trans up))
  by_cases lt:x.getD c 0<r.getD c 0
  ·refine⟨I,?_,jf (t.trans (by rw[decide_eq_true lt];rfl))⟩
   rw[qt R X hc,if_pos lt]
  ·refine⟨I.reverse,?_,(mI (t.trans (by rw[decide_eq_false lt];rfl))).trans ?_⟩
   ·rw[qt R X hc,if_neg lt,List.map_reverse]
   ·refine(jw (cU (i:=3) (n:=0) (b0:=I.map nI) (bs:=I.map nI) (ds:=[]) rfl (bm rfl) rfl rfl (show rK (I.map nI) []=some (.non,(I.map nI).reverse) from rfl))).trans ?_
    rw[<-List.map_reverse];rfl
 obtain⟨J,hJ,z2⟩:=z2
 have lJ:J.length<=24:=by
  have:J.length=I.length:=by
   rw[hJ,qt R X hc];split<;>simp[I,ps]
  omega
 apply cw (kd:=.n) (n:=4) (t:=fQ)
 unfold fQ;refine(av z1).trans ((av z2).trans (de (cb (ds:=J.map nI) (oe rfl) (by simp;omega) ?_)))
 rw[show((wC n r x c).map λp=>(((cN n r x p:Nat):Int),true)).map ca=J.map λk=>D.tup [nI k,.bl true] by rw[hJ,List.map_map,List.map_map];rfl]
 exact cZ (h:=nI) (o:=λk=>D.tup [nI k,.bl true]) J λk hk=>⟨[.v (aN r x),.v (jh n r x),.v (nI c),.own (J.map nI),.v (nI k)],rfl,dv (ds:=[nI k,.bl true]) rfl (by simp)⟩
theorem xY {c:Nat}(hc:c<n):ft [aN r x,jh n r x,nI (r.getD c 0)]=some (.lst (((wR n r x c).map λp=>(((cN n r x p:Nat):Int),false)).map ca)):=by
 have hl:=lL R X hn
 have hy:=R.get hc
 let y:=r.getD c 0
 let ps:=((List.range n).filter (λd=>gO r x d y)).map λd=>(d,y)
 let I:List Nat:=ps.map (cN n r x)
 have lI:I.length<=24:=by
  have:ps=(bO n r x).filter λp=>decide (p.2=y):=(jt hy).symm
  show(List.map _ ps).length<=24;rw[List.length_map,this];exact Nat.le_trans (List.length_filter_le _ _) hl
 have z1:cQ 3 (aS 4 (pJ (ah 1)) (gT 2 (gE (gN 4) (gE (gT 3 (gE (gN 5) (gE (gN 6) (gE (gN 7) (lh))))) (lh)))) (df (ak hZ (ah 6) (ah 2))) (ah 4)) (gA 4 [aN r x,jh n r x,nI y])=.nx [.v (aN r x),.v (jh n r x),.v (nI y),.own (I.map nI)]:=by
  refine(en (cb (ds:=(List.range (bO n r x).length).map λ(k:Nat)=>D.tup [nI k,qW r x ((bO n r x).getD k (0,0))]) ?_ (by simp;omega) ((fO (h:=λ(k:Nat)=>D.tup [nI k,qW r x ((bO n r x).getD k (0,0))]) (o:=nI) (q:=λk=>decide (((bO n r x).getD k (0,0)).2=y)) (List.range (bO n r x).length) λk hk=>⟨[.v (aN r x),.v (jh n r x),.v (nI y),.no,.v (nI k),.v (nI ((bO n r x).getD k (0,0)).1),.v (nI ((bO n r x).getD k (0,0)).2),.v (.int (D3 r x ((bO n r x).getD k (0,0))))],rfl,fB ((au (x:=nI ((bO n r x).getD k (0,0)).2) (y:=nI y) rfl rfl).trans (mC _ _)),λ_=>rfl⟩).trans ?_))).trans rfl
  ·show some (m8 ((bO n r x).map (qW r x)))=_
   rw[pp _ _ (0,0)]
  ·rw[iZ crP_nd (λp=>decide (p.2=y)) (0,0),jt hy]
 have up:=qH R X hy
 have z2: ∃J:List Nat,J=(wR n r x c).map (cN n r x)/\fz (fy (dZ (ai (nF 2 bz) (aa (ah 0) (aa (ah 2) (af)))))) (bA (aL 3 0 rK (cg af))) (skip) [.v (aN r x),.v (jh n r x),.v (nI y),.own (I.map nI)]=.nx [.v (aN r x),.v (jh n r x),.v (nI y),.own (J.map nI)]:=by
  have t:fy (dZ (ai (nF 2 bz) (aa (ah 0) (aa (ah 2) (af))))) [.v (aN r x),.v (jh n r x),.v (nI y),.own (I.map nI)]=some (!decide (r.idxOf y<x.idxOf y)):=jg (i0 ((cI (ds:=[aN r x,nI y]) rfl rfl).trans up))
  by_cases lt:r.idxOf y<x.idxOf y
  ·refine⟨I,?_,jf (t.trans (by rw[decide_eq_true lt];rfl))⟩
   rw[nJ R X hc,if_pos lt]
  ·refine⟨I.reverse,?_,(mI (t.trans (by rw[decide_eq_false lt];rfl))).trans ?_⟩
   ·rw[nJ R X hc,if_neg lt,List.map_reverse]
   ·refine(jw (cU (i:=3) (n:=0) (b0:=I.map nI) (bs:=I.map nI) (ds:=[]) rfl (bm rfl) rfl rfl (show rK (I.map nI) []=some (.non,(I.map nI).reverse) from rfl))).trans ?_
    rw[<-List.map_reverse];rfl
 obtain⟨J,hJ,z2⟩:=z2
 have lJ:J.length<=24:=by
  have:J.length=I.length:=by
   rw[hJ,nJ R X hc];split<;>simp[I,ps,y]
  omega
 apply cw (kd:=.n) (n:=4) (t:=ii)
 unfold ii;refine(av z1).trans ((av z2).trans (de (cb (ds:=J.map nI) (oe rfl) (by simp;omega) ?_)))
 rw[show((wR n r x c).map λp=>(((cN n r x p:Nat):Int),false)).map ca=J.map λk=>D.tup [nI k,.bl false] by rw[hJ,List.map_map,List.map_map];rfl]
 exact cZ (h:=nI) (o:=λk=>D.tup [nI k,.bl false]) J λk hk=>⟨[.v (aN r x),.v (jh n r x),.v (nI y),.own (J.map nI),.v (nI k)],rfl,dv (ds:=[nI k,.bl false]) rfl (by simp)⟩
theorem An {c:Nat}(hc:c<n):(wC n r x c).length<=24/\(wR n r x c).length<=24:=by
 have hl:=lL R X hn
 constructor
 ·have e:(wC n r x c).length=((bO n r x).filter λp=>decide (p.1=c)).length:=by
   rw[po hc,qt R X hc];split<;>simp
  rw[e];exact Nat.le_trans (List.length_filter_le _ _) hl
 ·have e:(wR n r x c).length=((bO n r x).filter λp=>decide (p.2=r.getD c 0)).length:=by
   rw[jt (R.get hc),nJ R X hc];split<;>simp
  rw[e];exact Nat.le_trans (List.length_filter_le _ _) hl
theorem tW {c:Nat}(hc:c<n):(dh n r x c).length<=48:=by
 obtain⟨h1,h2⟩:=An R X hn hc
 unfold dh;rw[List.length_append,List.length_map,List.length_map];omega
theorem lY: ∀l:List Nat,(∀c∈l,c<n)->(l.flatMap (dh n r x)).length<=l.length*48
 | [],_=>by simp
 |c::l,h=>by
  rw[List.flatMap_cons,List.length_append,List.length_cons,Nat.add_mul];have h1:=tW R X hn (h c List.mem_cons_self)
  have h2:=lY l λd hd=>h d (List.mem_cons_of_mem _ hd)
  omega
def bV:FS:=ay (bA (oq 4 (ai (nF 3 cM) (aa (ah 0) (aa (ah 1) (aa (ah 5) (af)))))))
 (bA (oq 4 (ai (nF 3 ft) (aa (ah 0) (aa (ah 1) (aa (ak aG (ah 3) (ah 5)) (af)))))))
theorem y9(q:D): ∀(l:List Nat) (F:List (Int×Bool)) (s5:Sl),(∀c∈l,c<n)->F.length+l.length*48<=2000-> ∃s5',fw (gN 5) bV (l.map nI) [.v (aN r x),.v (jh n r x),.v q,.v (ci r),.own (F.map ca),s5]=.nx [.v (aN r x),.v (jh n r x),.v q,.v (ci r),.own ((F++l.flatMap (dh n r x)).map ca),s5']
 | [],F,s5,_,_=>⟨s5,by rw[List.flatMap_nil,List.append_nil];rfl⟩
 |c::l,F,s5,hl,hF=>by
  have hc:=hl c List.mem_cons_self
  obtain⟨w1,w2⟩:=An R X hn hc
  rw[List.length_cons,Nat.add_mul] at hF;have pl:=tW R X hn hc
  obtain⟨s5',e⟩:=y9 q l (F++dh n r x c) (.v (nI c)) (λd hd=>hl d (List.mem_cons_of_mem _ hd)) (by rw[List.length_append];omega)
  refine⟨s5',?_⟩
  rw[List.map_cons,List.flatMap_cons,<-List.append_assoc];refine(cD (ρ1:=[.v (aN r x),.v (jh n r x),.v q,.v (ci r),.own (F.map ca),.v (nI c)]) rfl ?_).trans e
  refine(av (ρ':=[.v (aN r x),.v (jh n r x),.v q,.v (ci r),.own ((F++(wC n r x c).map λp=>(((cN n r x p:Nat):Int),true)).map ca),.v (nI c)]) ((wo (bs:=F.map ca) ((cI (ds:=[aN r x,jh n r x,nI c]) rfl rfl).trans (yn R X hn hc)) rfl (by simp;omega)).trans (by rw[List.map_append];rfl))).trans ?_
  refine(wo (bs:=(F++(wC n r x c).map λp=>(((cN n r x p:Nat):Int),true)).map ca) ((cI (ds:=[aN r x,jh n r x,nI (r.getD c 0)]) (aq rfl (aq rfl (aq ((au (x:=ci r) (y:=nI c) rfl rfl).trans (hE (by rw[R.len];exact hc))) rfl))) rfl).trans (xY R X hn hc)) rfl (by simp;omega)).trans ?_
  rw[<-List.map_append,List.append_assoc];rfl
theorem yh {L:List Nat}(hL: ∀c∈L,c<n)(ll:L.length<=6):iI [aN r x,jh n r x,.lst (L.map nI)]=some (.lst ((L.flatMap (dh n r x)).map ca)):=by
 obtain⟨s5,e⟩:=y9 R X hn (.lst (L.map nI)) L [] .no hL (by simp;omega)
 apply cw (kd:=.n) (n:=6) (t:=nZ)
 refine(av (ρ':=[.v (aN r x),.v (jh n r x),.v (.lst (L.map nI)),.v (ci r),.no,.no]) rfl).trans ?_
 refine(av (ρ':=[.v (aN r x),.v (jh n r x),.v (.lst (L.map nI)),.v (ci r),.own [],.no]) ((en (gu rfl (by simp))).trans rfl)).trans ?_
 refine(av ((db (ds:=L.map nI) (bm (j4 rfl))).trans e)).trans ?_
 rw[List.nil_append];rfl
theorem vg {LL:List (List Nat)}(h:Lns n (di r x) LL)(hL:eT [aN r x]=some (D1 LL)):br [aN r x]=some (.lst (LL.map λL=>.lst ((L.flatMap (dh n r x)).map ca))):=by
 have hl:=h.len
 apply cw (kd:=.n) (n:=2) (t:=my)
 refine(av (ρ':=[.v (aN r x),.v (jh n r x)]) ((bb ((cI (ds:=[aN r x]) rfl rfl).trans ((wU R X hn).trans (by rw[rD])))).trans rfl)).trans ?_
 refine de (cb (ds:=LL.map λL=>D.lst (L.map nI)) (j4 ((cI (ds:=[aN r x]) rfl rfl).trans (show eT [aN r x]=some (.lst (LL.map λL=>D.lst (L.map nI))) from hL))) (by rw[List.length_map];omega) ?_)
 refine cZ (h:=λL:List Nat=>D.lst (L.map nI)) (o:=λL=>.lst ((L.flatMap (dh n r x)).map ca)) LL λL hm=>⟨[.v (aN r x),.v (jh n r x),.v (.lst (L.map nI))],rfl,(cI (ds:=[aN r x,jh n r x,.lst (L.map nI)]) rfl rfl).trans (yh R X hn (λc hc=>?_) (Nat.le_trans (h.ll L hm) hn))⟩
 obtain⟨k,hk,e⟩:=List.mem_iff_getElem.mp hm
 exact h.lt k hk c (by rw[List.getD_eq_getElem?_getD,List.getElem?_eq_getElem hk,e];exact hc)
end
abbrev iQ(p:Nat×Nat):D:=.tup [nI p.1,nI p.2]
def i4(n:Nat)(r x:List Nat):iY:=(List.range (bO n r x).length).map λk=>(iK (cA ((bO n r x).getD k (0,0))),nI k)
theorem o7 {n:Nat}{r x:List Nat}{k:Nat}(hk:k<(bO n r x).length):(bO n r x).idxOf ((bO n r x).getD k (0,0))=k:=by
 rw[List.getD_eq_getElem?_getD,List.getElem?_eq_getElem hk];exact crP_nd.idxOf_getElem k hk
theorem zu {n:Nat}{r x:List Nat}{p:Nat×Nat}(h:p∈bO n r x):eL (i4 n r x) (iK (cA p))=some (nI (cN n r x p)):=by
 have lt:cN n r x p<(bO n r x).length:=List.idxOf_lt_length_of_mem h
 have e:(bO n r x).getD (cN n r x p) (0,0)=p:=by
  rw[List.getD_eq_getElem?_getD,List.getElem?_eq_getElem lt];exact List.getElem_idxOf lt
 have:=md (key:=λk=>cA ((bO n r x).getD k (0,0))) (v:=nI) (l:=List.range (bO n r x).length) (a:=cN n r x p) (List.mem_range.mpr lt) λb hb z=>by
  have z:=dm z
  have hb:=List.mem_range.mp hb
  rw[<-o7 hb,z,o7 lt]
 rw[e] at this;exact this
theorem Cc {n:Nat}{r x:List Nat}{p:Nat×Nat}(h:p∉bO n r x):eL (i4 n r x) (iK (cA p))=none:=by
 refine iJ (key:=λk=>cA ((bO n r x).getD k (0,0))) (v:=nI) λb hb z=>?_
 have hb:=List.mem_range.mp hb
 have z:=dm z
 rw[List.getD_eq_getElem?_getD,List.getElem?_eq_getElem hb] at z;have z:(bO n r x)[b]=p:=z
 rw[<-z] at h;exact h (List.getElem_mem hb)
def sI(q t:Nat):Int:=(if q<t then 1 else 0) - (if t<q then 1 else 0)
theorem zc(q t:Nat):(q:Int)+sI q t=((h9 q t:Nat):Int):=by
 unfold sI h9
 by_cases e:q<t
 ·rw[if_pos e,if_neg (by omega),if_pos e];omega
 ·rw[if_neg e,if_neg e]
  by_cases e2:t<q
  ·rw[if_pos e2,if_pos e2];omega
  ·rw[if_neg e2,if_neg e2];omega
theorem zy {fe fp:FE}{ρ:aC}{q t:Nat}(h1:fe ρ=some (nI t))(h2:fp ρ=some (nI q)):ak kQ (ai fo (aa (ak u9 fe fp) (af))) (ai fo (aa (ak pD fe fp) (af))) ρ=some (.int (sI q t)):=by
 have e1:ai fo (aa (ak u9 fe fp) (af)) ρ=some (.int (if q<t then 1 else 0)):=by
  rw[ba (ds:=[.bl (decide (q<t))]) (aq ((au h1 h2).trans ?_) rfl)]
  ·by_cases e:q<t
   ·rw[decide_eq_true e,if_pos e];rfl
   ·rw[decide_eq_false e,if_neg e];rfl
  ·show some (D.bl (decide ((q:Int)<(t:Int))))=_
   congr 2
   rw[Bool.eq_iff_iff,decide_eq_true_eq,decide_eq_true_eq];omega
 have e2:ai fo (aa (ak pD fe fp) (af)) ρ=some (.int (if t<q then 1 else 0)):=by
  rw[ba (ds:=[.bl (decide (t<q))]) (aq ((au h1 h2).trans ?_) rfl)]
  ·by_cases e:t<q
   ·rw[decide_eq_true e,if_pos e];rfl
   ·rw[decide_eq_false e,if_neg e];rfl
  ·show some (D.bl (decide ((t:Int)<(q:Int))))=_
   congr 2
   rw[Bool.eq_iff_iff,decide_eq_true_eq,decide_eq_true_eq];omega
 exact(au e1 e2).trans (wV _ _)
def cP:FT:=df (ak kL (ah 5) (ah 2))
def bP:FS:=ay (aQ 6 (bY (aa (ak kQ (ai fo (aa (ak u9 (ak aG (ah 2) (aw (.int 0))) (ak aG (ah 5) (aw (.int 0)))) (af))) (ai fo (aa (ak pD (ak aG (ah 2) (aw (.int 0))) (ak aG (ah 5) (aw (.int 0)))) (af)))) (aa (ak kQ (ai fo (aa (ak u9 (ak aG (ah 2) (aw (.int 1))) (ak aG (ah 5) (aw (.int 1)))) (af))) (ai fo (aa (ak pD (ak aG (ah 2) (aw (.int 1))) (ak aG (ah 5) (aw (.int 1)))) (af)))) (af)))))
 (ay (aQ 5 (cf (aa (ak bi (ak aG (ah 5) (aw (.int 0))) (ak aG (ah 6) (aw (.int 0)))) (aa (ak bi (ak aG (ah 5) (aw (.int 1))) (ak aG (ah 6) (aw (.int 1)))) (af)))))
 (fz (rJ (df (ak kL (ah 5) (ah 2))) (sv 0 (ah 5))) (bA (aL 4 1 fW (cg (aa (cf (aa (vt 0 (ah 5)) (aa (ah 3) (af)))) (af))))) (skip)))
abbrev oY(K:iY)(a e:Nat×Nat)(ov:Bool)(F:List (Int×Bool))(p:Nat×Nat)(s6:Sl):aC:=[.ob (.dQ K),.v (iQ a),.v (iQ e),.v (.bl ov),.own (F.map ca),.v (iQ p),s6]
theorem vh {f g:FE}{ρ:aC}{p e:Nat×Nat}(h1:f ρ=some (iQ p))(h2:g ρ=some (iQ e)):df (ak kL f g) ρ=some (!decide (p=e)):=by
 refine fB ((au h1 h2).trans ((jV (Be _ _)).trans ?_))
 rw[DQ];congr 3
 rw[Bool.eq_iff_iff,Bool.and_eq_true,decide_eq_true_eq,decide_eq_true_eq,decide_eq_true_eq,Prod.ext_iff]
section
variable {n:Nat}{r x:List Nat}
def zq(p e:Nat×Nat):Nat×Nat:=(h9 p.1 e.1,h9 p.2 e.2)
theorem CJ {a e p:Nat×Nat}{ov:Bool}{F:List (Int×Bool)}(hF:F.length<=800)(s6:Sl): ∃s6',bP (oY (i4 n r x) a e ov F p s6)=.nx (oY (i4 n r x) a e ov (F++if zq p e≠e/\zq p e∈bO n r x then [(((cN n r x (zq p e):Nat):Int),ov)] else []) (zq p e) s6'):=by
 have q1:aQ 6 (bY (aa (ak kQ (ai fo (aa (ak u9 (ak aG (ah 2) (aw (.int 0))) (ak aG (ah 5) (aw (.int 0)))) (af))) (ai fo (aa (ak pD (ak aG (ah 2) (aw (.int 0))) (ak aG (ah 5) (aw (.int 0)))) (af)))) (aa (ak kQ (ai fo (aa (ak u9 (ak aG (ah 2) (aw (.int 1))) (ak aG (ah 5) (aw (.int 1)))) (af))) (ai fo (aa (ak pD (ak aG (ah 2) (aw (.int 1))) (ak aG (ah 5) (aw (.int 1)))) (af)))) (af)))) (oY (i4 n r x) a e ov F p s6)=.nx (oY (i4 n r x) a e ov F p (.v (.lst [.int (sI p.1 e.1),.int (sI p.2 e.2)]))):=
  (bb (gu (aq (zy (t:=e.1) (q:=p.1) ((au (x:=iQ e) (y:=.int 0) rfl rfl).trans rfl) ((au (x:=iQ p) (y:=.int 0) rfl rfl).trans rfl)) (aq (zy (t:=e.2) (q:=p.2) ((au (x:=iQ e) (y:=.int 1) rfl rfl).trans rfl) ((au (x:=iQ p) (y:=.int 1) rfl rfl).trans rfl)) rfl)) (by simp))).trans rfl
 have q2:aQ 5 (cf (aa (ak bi (ak aG (ah 5) (aw (.int 0))) (ak aG (ah 6) (aw (.int 0)))) (aa (ak bi (ak aG (ah 5) (aw (.int 1))) (ak aG (ah 6) (aw (.int 1)))) (af)))) (oY (i4 n r x) a e ov F p (.v (.lst [.int (sI p.1 e.1),.int (sI p.2 e.2)])))=.nx (oY (i4 n r x) a e ov F (zq p e) (.v (.lst [.int (sI p.1 e.1),.int (sI p.2 e.2)]))):=
  (bb (dv (ds:=[nI (h9 p.1 e.1),nI (h9 p.2 e.2)]) (aq ((au (x:=nI p.1) (y:=.int (sI p.1 e.1)) rfl rfl).trans ((cO _ _).trans (by rw[zc]))) (aq ((au (x:=nI p.2) (y:=.int (sI p.2 e.2)) rfl rfl).trans ((cO _ _).trans (by rw[zc]))) rfl)) (by simp))).trans rfl
 refine⟨.v (.lst [.int (sI p.1 e.1),.int (sI p.2 e.2)]),(av q1).trans ((av q2).trans ?_)⟩
 generalize (Sl.v (.lst [.int (sI p.1 e.1),.int (sI p.2 e.2)]))=s
 generalize zq p e=u
 have t1:df (ak kL (ah 5) (ah 2)) (oY (i4 n r x) a e ov F u s)=some (!decide (u=e)):=vh rfl rfl
 have fk:(ah 5 (oY (i4 n r x) a e ov F u s)).bind pE=some (cA u):=show fY ((cA u).map D.int)=some (cA u) from mD _
 by_cases h1:u=e
 ·rw[if_neg (λz=>z.1 h1),List.append_nil]
  refine jf ?_
  unfold rJ;rw[t1,decide_eq_true h1];rfl
 ·by_cases h2:u∈bO n r x
  ·rw[if_pos ⟨h1,h2⟩]
   have t2:sv 0 (ah 5) (oY (i4 n r x) a e ov F u s)=some true:=by
    unfold sv;rw[show o0 0 (oY (i4 n r x) a e ov F u s)=some (i4 n r x) from rfl,Option.bind_some,fk,Option.map_some,zu h2];rfl
   have t3:vt 0 (ah 5) (oY (i4 n r x) a e ov F u s)=some (nI (cN n r x u)):=by
    unfold vt;rw[show o0 0 (oY (i4 n r x) a e ov F u s)=some (i4 n r x) from rfl,Option.bind_some,fk,Option.bind_some,zu h2]
   refine(mI (sL (t1.trans (by rw[decide_eq_false h1];rfl)) t2)).trans ?_
   refine(kA (i:=4) (b0:=F.map ca) (bs:=F.map ca) (d:=ca (((cN n r x u:Nat):Int),ov)) rfl (bm (aq (dv (aq t3 (aq rfl rfl)) (by simp)) rfl)) rfl (by rw[List.length_map];omega)).trans ?_
   show _=Out.nx (oY _ _ _ _ _ _ _);rw[show(List.map ca F++[ca (((cN n r x u:Nat):Int),ov)])=(F++[(((cN n r x u:Nat):Int),ov)]).map ca by rw[List.map_append];rfl];rfl
  ·rw[if_neg (λz=>h2 z.2),List.append_nil]
   have t2:sv 0 (ah 5) (oY (i4 n r x) a e ov F u s)=some false:=by
    unfold sv;rw[show o0 0 (oY (i4 n r x) a e ov F u s)=some (i4 n r x) from rfl,Option.bind_some,fk,Option.map_some,Cc h2];rfl
   exact jf (sL (t1.trans (by rw[decide_eq_false h1];rfl)) t2)
theorem zN {p:FT}{b:FS}{n:Nat}{ρ ρ2:aC}(h1:p ρ=some true)(h2:b ρ=.nx ρ2):i8 p b (n+1) ρ=i8 p b n ρ2:=by
 conv=>lhs;unfold i8
 rw[h1];dsimp only;rw[h2]
theorem yi {p:FT}{b:FS}{n:Nat}{ρ:aC}(h1:p ρ=some false):i8 p b (n+1) ρ=.nx ρ:=by
 conv=>lhs;unfold i8
 rw[h1]
theorem zA {cell:Nat->Nat×Nat}(inj: ∀q t,cell q=cell t->q=t)(nx: ∀q t,zq (cell q) (cell t)=cell (h9 q t)){a:Nat×Nat}{t:Nat}{ov:Bool}: ∀(d q f:Nat) (F:List (Int×Bool)) (s6:Sl),oR q t=d->d<f->F.length+d<=700->
 ∃s6',i8 cP bP f (oY (i4 n r x) a (cell t) ov F (cell q) s6)=.nx (oY (i4 n r x) a (cell t) ov (F++(((gh q t).map cell).filter (va n r x)).map λp=>(((cN n r x p:Nat):Int),ov)) (cell t) s6')
 |0,q,f,F,s6,hd,hf,hF=>by
  have e:q=t:=by unfold oR at hd;omega
  subst e;obtain⟨f,rfl⟩: ∃g,f=g+1:=⟨f-1,by omega⟩
  refine⟨s6,?_⟩
  have:gh q q=[]:=by unfold gh;rw[if_neg (by omega),show q-q-1=0 by omega];rfl
  rw[this,List.map_nil,List.filter_nil,List.map_nil,List.append_nil];exact yi ((vh rfl rfl).trans (by rw[decide_eq_true rfl];rfl))
 |d+1,q,f,F,s6,hd,hf,hF=>by
  obtain⟨f,rfl⟩: ∃g,f=g+1:=⟨f-1,by omega⟩
  have ne:q≠t:=λz=>by subst z;unfold oR at hd;omega
  have ne2:cell q≠cell t:=λz=>ne (inj _ _ z)
  obtain⟨s',e1⟩:=CJ (n:=n) (r:=r) (x:=x) (a:=a) (e:=cell t) (p:=cell q) (ov:=ov) (F:=F) (by omega) s6
  rw[nx q t] at e1;have dg:=yt ne
  obtain⟨s6',e2⟩:=zA inj nx (a:=a) (t:=t) (ov:=ov) d (h9 q t) f (F++if cell (h9 q t)≠cell t/\cell (h9 q t)∈bO n r x then [(((cN n r x (cell (h9 q t)):Nat):Int),ov)] else []) s' (by omega) (by omega) (by
   rw[List.length_append];split<;>simp<;>omega)
  refine⟨s6',(zN ((vh rfl rfl).trans (by rw[decide_eq_false ne2];rfl)) e1).trans (e2.trans ?_)⟩
  have key:((if cell (h9 q t)≠cell t/\cell (h9 q t)∈bO n r x then [(((cN n r x (cell (h9 q t)):Nat):Int),ov)] else [])++(((gh (h9 q t) t).map cell).filter (va n r x)).map λp=>(((cN n r x p:Nat):Int),ov))=(((gh q t).map cell).filter (va n r x)).map λp=>(((cN n r x p:Nat):Int),ov):=by
   by_cases he:h9 q t=t
   ·rw[wN ne he,he]
    have:gh t t=[]:=by unfold gh;rw[if_neg (by omega),show t-t-1=0 by omega];rfl
    rw[this,if_neg (λz=>z.1 rfl)];rfl
   ·rw[yb ne he,List.map_cons]
    by_cases hm:cell (h9 q t)∈bO n r x
    ·rw[if_pos ⟨λz=>he (inj _ _ z),hm⟩,List.filter_cons_of_pos (show va n r x (cell (h9 q t))=true from decide_eq_true hm),List.map_cons];rfl
    ·rw[if_neg (λz=>hm z.2),List.filter_cons_of_neg (show¬va n r x (cell (h9 q t))=true from λz=>hm (of_decide_eq_true z))];rfl
  rw[List.append_assoc,key]
theorem nK {cell:Nat->Nat×Nat}(inj: ∀q t,cell q=cell t->q=t)(nx: ∀q t,zq (cell q) (cell t)=cell (h9 q t)){q t:Nat}{ov:Bool}(hq:q<7)(ht:t<7):bc (i4 n r x) [iQ (cell q),iQ (cell t),.bl ov]=some (.lst (((((gh q t).map cell).filter (va n r x)).map λp=>(((cN n r x p:Nat):Int),ov)).map ca)):=by
 have hd:oR q t<=7:=by unfold oR;omega
 obtain⟨s6,e⟩:=zA (n:=n) (r:=r) (x:=x) inj nx (a:=cell q) (t:=t) (ov:=ov) (oR q t) q 16 [] .no rfl (by omega) (by simp;omega)
 rw[List.nil_append] at e;obtain⟨ρ',z⟩: ∃ρ',gR (uX 7 (i4 n r x) [iQ (cell q),iQ (cell t),.bl ov])=.rt (.lst (((((gh q t).map cell).filter (va n r x)).map λp=>(((cN n r x p:Nat):Int),ov)).map ca)) ρ':=by
  refine⟨oY (i4 n r x) (cell q) (cell t) ov ((((gh q t).map cell).filter (va n r x)).map λp=>(((cN n r x p:Nat):Int),ov)) (cell t) s6,?_⟩
  refine(av (ρ':=[.ob (.dQ (i4 n r x)),.v (iQ (cell q)),.v (iQ (cell t)),.v (.bl ov),.own [],.no,.no]) ((en (gu rfl (by simp))).trans rfl)).trans ?_
  refine(av (ρ':=oY (i4 n r x) (cell q) (cell t) ov [] (cell q) .no) ((bb (d:=iQ (cell q)) rfl).trans rfl)).trans ?_
  refine(av e).trans ?_
  rfl
 show Bn .n 7 gR (i4 n r x) _=_;unfold Bn;rw[z]
end
theorem lq(xs ys:List D)(h:xs.length+ys.length<=900):gp (.lst xs) (.lst ys)=some (.lst (xs++ys)):=if_pos (Nat.le_trans h (by decide))
theorem zt(o:List Nat):qV (o.map nI)=true:=by
 induction o with
 |nil=>rfl
 |cons a l ih=>rw[List.map_cons];unfold qV;rw[ih];rfl
theorem B6(o:List Int):qV (o.map D.int)=true:=by
 induction o with
 |nil=>rfl
 |cons a l ih=>rw[List.map_cons];unfold qV;rw[ih];rfl
theorem zl(r x:List Nat):LF (aN r x)=true:=by
 show LF (.tup [ci r,ci x])=true;unfold LF qV LF;rw[zt];unfold qV LF;rw[zt];rfl
theorem pC(c:Nat):h9 c c=c:=by unfold h9;rw[if_neg (by omega),if_neg (by omega)]
theorem xi(l:List Nat){f:FE}{ρ:aC}(h:f ρ=some (.lst (l.map nI))):ai bN (aa f af) ρ=some (nI l.length):=by
 refine(ba (aq h rfl)).trans ?_
 show some (D.int ((l.map nI).length:Int))=_;rw[List.length_map]
theorem BU {l:List Nat}{k:Nat}(hk:k<l.length):aG (.lst (l.map nI)) (nI k)=some (nI (l.getD k 0)):=tH (by rw[List.getElem?_map,List.getElem?_eq_getElem hk,List.getD_eq_getElem?_getD,List.getElem?_eq_getElem hk];rfl)
theorem qB {i n:Nat}{M:iY->List D->Option D}{fs:FA}{ρ:aC}{kvs:iY}{ds:List D}(h1:o0 i ρ=some kvs)(h2:fs ρ=some ds)(h3:ds.length=n):ip i n M fs ρ=M kvs ds:=by
 unfold ip;rw[h1,Option.bind_some,h2,Option.bind_some,if_pos h3]
section
variable {n:Nat}{r x:List Nat}
abbrev En(n:Nat)(r x:List Nat)(k:Nat):D:=D.tup [nI k,qW r x ((bO n r x).getD k (0,0))]
theorem qR(d0 d1 s5 s6 s7 s8:Sl): ∀(ks:List Nat) (kvs:iY) (s3 s4:Sl),kvs.length+ks.length<=900->(∀k∈ks,k<(bO n r x).length/\eL kvs (iK (cA ((bO n r x).getD k (0,0))))=none)->ks.Nodup->
 ∃s3' s4',fw (gT 2 (gE (gN 3) (gE (gN 4) (lh)))) (pH 2 (xq (ah 4) C1 (CB (aw (.int 2)))) (ah 3)) (ks.map (En n r x)) [d0,d1,.ob (.dT kvs),s3,s4,s5,s6,s7,s8]=.nx [d0,d1,.ob (.dT (kvs++ks.map λk=>(iK (cA ((bO n r x).getD k (0,0))),nI k))),s3',s4',s5,s6,s7,s8]
 | [],kvs,s3,s4,_,_,_=>⟨s3,s4,by rw[List.map_nil,List.map_nil,List.append_nil];rfl⟩
 |k::ks,kvs,s3,s4,hl,hn,nd=>by
  obtain⟨hk,hv⟩:=hn k List.mem_cons_self
  rw[List.length_cons] at hl;obtain⟨nk,nd'⟩:=List.nodup_cons.mp nd
  obtain⟨s3',s4',e⟩:=qR d0 d1 s5 s6 s7 s8 ks (kvs++[(iK (cA ((bO n r x).getD k (0,0))),nI k)]) (.v (nI k)) (.v (qW r x ((bO n r x).getD k (0,0)))) (by rw[List.length_append,List.length_singleton];omega) (λj hj=>⟨(hn j (List.mem_cons_of_mem _ hj)).1,by
   rw[<-lj hv,qo,if_neg λw=>?_]
   ·exact(hn j (List.mem_cons_of_mem _ hj)).2
   ·have w:=dm (o9 w)
    have hj':=(hn j (List.mem_cons_of_mem _ hj)).1
    have:j=k:=by rw[<-o7 hj',w,o7 hk]
    exact nk (this▸hj)⟩) nd'
  refine⟨s3',s4',?_⟩
  rw[List.map_cons,List.map_cons];refine(cD (ρ1:=[d0,d1,.ob (.dT kvs),.v (nI k),.v (qW r x ((bO n r x).getD k (0,0))),s5,s6,s7,s8]) (ρ2:=[d0,d1,.ob (.dT (kvs++[(iK (cA ((bO n r x).getD k (0,0))),nI k)])),.v (nI k),.v (qW r x ((bO n r x).getD k (0,0))),s5,s6,s7,s8]) rfl ?_).trans (e.trans (by rw[List.append_assoc];rfl))
  have fk:xq (ah 4) C1 (CB (aw (.int 2))) [d0,d1,.ob (.dT kvs),.v (nI k),.v (qW r x ((bO n r x).getD k (0,0))),s5,s6,s7,s8]=some (cA ((bO n r x).getD k (0,0))):=rfl
  unfold pH;rw[show gF 2 [d0,d1,.ob (.dT kvs),.v (nI k),.v (qW r x ((bO n r x).getD k (0,0))),s5,s6,s7,s8]=some kvs from rfl];dsimp only;rw[show ah 3 [d0,d1,.ob (.dT kvs),.v (nI k),.v (qW r x ((bO n r x).getD k (0,0))),s5,s6,s7,s8]=some (nI k) from rfl];dsimp only;rw[fk];dsimp only;rw[if_pos (by omega),lj hv]
  rfl
end
section
variable {n:Nat}{r x:List Nat}(R:Ord n r)(X:Ord n x)(hn:n<=6)
include R X hn
theorem v8 {s:Nat}{L:List Nat}(C:Cy n (di r x) s L):eS [aN r x,.lst (L.map nI)]=some (.lst ((L.flatMap (dh n r x)).map ca)):=by
 have hl:=lL R X hn
 have ll:L.length<=n:=fP C.nd C.c.lt
 obtain⟨s3,s4,nl⟩:=qR (n:=n) (r:=r) (x:=x) (.v (aN r x)) (.v (.lst (L.map nI))) .no .no .no .no (List.range (bO n r x).length) [] .no .no (by simp;omega) (λk hk=>⟨List.mem_range.mp hk,rfl⟩) List.nodup_range
 rw[List.nil_append] at nl
 let b:FS:=(ay (aQ 7 (ak aG (ah 1) (ah 6)))
  (ay (aQ 8 (cf (aa (ah 7) (aa (ak aG (ak aG (ah 0) (aw (.int 0))) (ah 7)) (af)))))
  (ay (aQ 5 (ak gp (ah 5) (ip 2 3 bc (aa (cf (aa (ah 7) (aa (ak aG (ak aG (ah 0) (aw (.int 1))) (ah 7)) (af)))) (aa (ah 8) (aa (aw (.bl true)) (af)))))))
  (aQ 5 (ak gp (ah 5) (ip 2 3 bc (aa (ah 8) (aa (cf (aa (ak aG (ah 1) (ak bD (ak bi (ah 6) (aw (.int 1))) (ai bN (aa (ah 1) (af))))) (aa (ak aG (ah 8) (aw (.int 1))) (af)))) (aa (aw (.bl false)) (af))))))))))
 let st:List (Int×Bool)->Sl->Sl->Sl->aC:=λF s6 s7 s8=>[.v (aN r x),.v (.lst (L.map nI)),.ob (.dQ (i4 n r x)),s3,s4,.v (.lst (F.map ca)),s6,s7,s8]
 obtain⟨ρ',lp,s6,s7,s8,rfl⟩:=jD (g:=gN 6) (b:=b) (P:=λk ρ=> ∃s6 s7 s8,ρ=st ((L.take k).flatMap (dh n r x)) s6 s7 s8) L.length 0 (λk ρ _ hk hq_=>by
  obtain⟨s6,s7,s8,e⟩:=hq_
  subst e;rw[Nat.zero_add] at hk
  let c:=L.getD k 0
  have cm:c∈L:=by
   show L.getD k 0∈L;rw[List.getD_eq_getElem?_getD,List.getElem?_eq_getElem hk];exact List.getElem_mem hk
  have hc:c<n:=C.c.lt c cm
  obtain⟨w1,w2⟩:=An R X hn hc
  have Fl:((L.take k).flatMap (dh n r x)).length<=300:=by
   have h1:=lY R X hn (L.take k) λd hd=>C.c.lt d (List.mem_of_mem_take hd)
   have h2:(L.take k).length<=6:=by rw[List.length_take];omega
   omega
  generalize hF:(L.take k).flatMap (dh n r x)=F at Fl
  have nx:=x0 C hk
  have hr:c<r.length:=by rw[R.len];exact hc
  have hx:c<x.length:=by rw[X.len];exact hc
  have lc:=(jO R X).lt c hc
  have c7:aQ 7 (ak aG (ah 1) (ah 6)) (st F (.v (nI k)) s7 s8)=.nx (st F (.v (nI k)) (.v (nI c)) s8):=(bb ((au (x:=.lst (L.map nI)) (y:=nI k) rfl rfl).trans (BU hk))).trans rfl
  have c8:aQ 8 (cf (aa (ah 7) (aa (ak aG (ak aG (ah 0) (aw (.int 0))) (ah 7)) (af)))) (st F (.v (nI k)) (.v (nI c)) s8)=.nx (st F (.v (nI k)) (.v (nI c)) (.v (iQ (c,r.getD c 0)))):=(bb (dv (ds:=[nI c,nI (r.getD c 0)]) (aq rfl (aq ((au ((au (x:=aN r x) (y:=.int 0) rfl rfl).trans rfl) (y:=nI c) rfl).trans (hE hr)) rfl)) (by simp))).trans rfl
  let F1:=F++(wC n r x c).map λp=>(((cN n r x p:Nat):Int),true)
  have c5:aQ 5 (ak gp (ah 5) (ip 2 3 bc (aa (cf (aa (ah 7) (aa (ak aG (ak aG (ah 0) (aw (.int 1))) (ah 7)) (af)))) (aa (ah 8) (aa (aw (.bl true)) (af)))))) (st F (.v (nI k)) (.v (nI c)) (.v (iQ (c,r.getD c 0))))=.nx (st F1 (.v (nI k)) (.v (nI c)) (.v (iQ (c,r.getD c 0)))):=by
   have ce:ip 2 3 bc (aa (cf (aa (ah 7) (aa (ak aG (ak aG (ah 0) (aw (.int 1))) (ah 7)) (af)))) (aa (ah 8) (aa (aw (.bl true)) (af)))) (st F (.v (nI k)) (.v (nI c)) (.v (iQ (c,r.getD c 0))))=some (.lst (((wC n r x c).map λp=>(((cN n r x p:Nat):Int),true)).map ca)):=
    (qB (kvs:=i4 n r x) (ds:=[iQ (c,x.getD c 0),iQ (c,r.getD c 0),.bl true]) rfl (aq (dv (ds:=[nI c,nI (x.getD c 0)]) (aq rfl (aq ((au ((au (x:=aN r x) (y:=.int 1) rfl rfl).trans rfl) (y:=nI c) rfl).trans (hE hx)) rfl)) (by simp)) rfl) rfl).trans (nK (cell:=λy=>(c,y)) (λq t z=>congrArg Prod.snd z) (λq t=>by show(h9 c c,h9 q t)=_;rw[pC]) (q:=x.getD c 0) (t:=r.getD c 0) (by have:=X.get hc;omega) (by have:=R.get hc;omega))
   refine(bb ((au (x:=.lst (F.map ca)) rfl ce).trans (lq _ _ (by simp;omega)))).trans ?_
   rw[<-List.map_append];rfl
  have c9:aQ 5 (ak gp (ah 5) (ip 2 3 bc (aa (ah 8) (aa (cf (aa (ak aG (ah 1) (ak bD (ak bi (ah 6) (aw (.int 1))) (ai bN (aa (ah 1) (af))))) (aa (ak aG (ah 8) (aw (.int 1))) (af)))) (aa (aw (.bl false)) (af)))))) (st F1 (.v (nI k)) (.v (nI c)) (.v (iQ (c,r.getD c 0))))=.nx (st (F++dh n r x c) (.v (nI k)) (.v (nI c)) (.v (iQ (c,r.getD c 0)))):=by
   have mo:ak bD (ak bi (ah 6) (aw (.int 1))) (ai bN (aa (ah 1) (af))) (st F1 (.v (nI k)) (.v (nI c)) (.v (iQ (c,r.getD c 0))))=some (nI ((k+1) % L.length)):=(au ((au (x:=nI k) (y:=.int 1) rfl rfl).trans (cO _ _)) (xi L rfl)).trans (Bd (n:=L.length) (by have:=C.pos;omega))
   have ix:ak aG (ah 1) (ak bD (ak bi (ah 6) (aw (.int 1))) (ai bN (aa (ah 1) (af)))) (st F1 (.v (nI k)) (.v (nI c)) (.v (iQ (c,r.getD c 0))))=some (nI (di r x c)):=(au (x:=.lst (L.map nI)) rfl mo).trans ((BU (Nat.mod_lt _ C.pos)).trans (by rw[nx]))
   have ce:ip 2 3 bc (aa (ah 8) (aa (cf (aa (ak aG (ah 1) (ak bD (ak bi (ah 6) (aw (.int 1))) (ai bN (aa (ah 1) (af))))) (aa (ak aG (ah 8) (aw (.int 1))) (af)))) (aa (aw (.bl false)) (af)))) (st F1 (.v (nI k)) (.v (nI c)) (.v (iQ (c,r.getD c 0))))=some (.lst (((wR n r x c).map λp=>(((cN n r x p:Nat):Int),false)).map ca)):=
    (qB (kvs:=i4 n r x) (ds:=[iQ (c,r.getD c 0),iQ (di r x c,r.getD c 0),.bl false]) rfl (aq rfl (aq (dv (ds:=[nI (di r x c),nI (r.getD c 0)]) (aq ix (aq ((au (x:=iQ (c,r.getD c 0)) (y:=.int 1) rfl rfl).trans rfl) rfl)) (by simp)) rfl)) rfl).trans (nK (cell:=λd=>(d,r.getD c 0)) (λq t z=>congrArg Prod.fst z) (λq t=>by show(h9 q t,h9 (r.getD c 0) (r.getD c 0))=_;rw[pC]) (q:=c) (t:=di r x c) (by omega) (by omega))
   refine(bb ((au (x:=.lst (F1.map ca)) rfl ce).trans (lq _ _ (by simp[F1];omega)))).trans ?_
   rw[<-List.map_append,show F1++(wR n r x c).map (λp=>(((cN n r x p:Nat):Int),false))=F++dh n r x c from List.append_assoc _ _ _];rfl
  refine⟨st F (.v (nI k)) s7 s8,st (F++dh n r x c) (.v (nI k)) (.v (nI c)) (.v (iQ (c,r.getD c 0))),rfl,(av c7).trans ((av c8).trans ((av c5).trans c9)),⟨.v (nI k),.v (nI c),.v (iQ (c,r.getD c 0)),?_⟩⟩
  rw[List.take_succ_eq_append_getElem hk,List.flatMap_append,hF,List.flatMap_singleton];congr 9
  show L.getD k 0=_;rw[List.getD_eq_getElem?_getD,List.getElem?_eq_getElem hk];rfl) (st [] .no .no .no) ⟨_,_,_,rfl⟩
 rw[Nat.zero_add,List.take_length] at lp;apply cw (kd:=.s) (n:=9) (t:=mn)
 refine(av (ρ':=[.v (aN r x),.v (.lst (L.map nI)),.ob (.dT []),.no,.no,.no,.no,.no,.no]) rfl).trans ?_
 refine(av ((db (ds:=(List.range (bO n r x).length).map (En n r x)) (bm ?_)).trans nl)).trans ?_
 ·have:ai (nF 1 bd) (aa (ah 0) (af)) [.v (aN r x),.v (.lst (L.map nI)),.ob (.dT []),.no,.no,.no,.no,.no,.no]=some (jh n r x):=(cI (ds:=[aN r x]) rfl rfl).trans ((nr R X hn).trans (by rw[rD]))
  unfold pJ;rw[this];show some (m8 ((bO n r x).map (qW r x)))=_;rw[pp _ _ (0,0)]
 refine(av (ρ':=[.v (aN r x),.v (.lst (L.map nI)),.ob (.dT (i4 n r x)),s3,s4,.v (.lst []),.no,.no,.no]) rfl).trans ?_
 refine(av (t:=xZ 2 _) (ρ':=st (L.flatMap (dh n r x)) s6 s7 s8) ?_).trans (de rfl)
 show dJ _ _ _ (st [] .no .no .no)=_;exact(db (ds:=(List.range L.length).map nI) (bm (cB (n:=L.length) (aq (xi L rfl) rfl) (by omega)))).trans (by rw[List.range_eq_range'];exact lp)
end
theorem wB {f:FE}{ρ:aC}{ks:List (Int×Bool)}(h:f ρ=some (.lst (ks.map ca)))(hl:ks.length<64):ai gH (aa f (af)) ρ=some (.lst ((bT gC ks).map ca)):=by
 refine(ba (aq h rfl)).trans ?_
 show(mt (ks.map ca)).bind _=_;rw[nB,Option.bind_some,if_pos hl]
theorem qZ {a b:List (Int×Bool)}(h:a.Perm b):bT gC a=bT gC b:=kG sV ((gr a).trans h) (jY sV a)
theorem tP(ks:List (Int×Bool)):cE (ks.map ca)<=1:=mR λd hd=>by
 obtain⟨k,_,rfl⟩:=List.mem_map.mp hd
 unfold ca dr;simp[cE,dr]
abbrev lb(n:Nat)(r x:List Nat)(LL:List (List Nat)):D:=.lst (LL.map λL=>.lst ((L.flatMap (dh n r x)).map ca))
def Ep:FS:=fz (xE (fy (dZ (kS "tuple" (ah 5)))) (xE (dZ (kS "bool" (ak aG (ah 5) (aw (.int 0))))) (fy (dZ (kS "bool" (ak aG (ah 5) (aw (.int 1)))))))) (bv (aw (.bl false))) (skip)
def Et:FS:=ay (fz (fy (dZ (kS "list" (ah 4)))) (bv (aw (.bl false))) (skip))
 (ay (dJ (cg (ia (ah 4))) (gN 5) Ep)
 (aQ 3 (ak gp (ah 3) (ah 4))))
theorem pX {n:Nat}{r x:List Nat}(d0 d1 d2 s6:Sl): ∀(LL:List (List Nat)) (F:List (Int×Bool)) (s4 s5:Sl),F.length+(LL.flatten.flatMap (dh n r x)).length<=800-> ∃s4' s5',fw (gN 4) Et (LL.map λL=>D.lst ((L.flatMap (dh n r x)).map ca)) [d0,d1,d2,.v (.lst (F.map ca)),s4,s5,s6]=.nx [d0,d1,d2,.v (.lst ((F++LL.flatten.flatMap (dh n r x)).map ca)),s4',s5',s6]
 | [],F,s4,s5,_=>⟨s4,s5,by rw[List.flatten_nil,List.flatMap_nil,List.append_nil];rfl⟩
 |L::LL,F,s4,s5,h=>by
  rw[List.flatten_cons,List.flatMap_append,List.length_append] at h
  generalize hW:L.flatMap (dh n r x)=W at h
  obtain⟨ρ',e1,s5',rfl⟩:=oV (g:=gN 5) (b:=Ep) (P:=λρ=> ∃s5,ρ=[d0,d1,d2,.v (.lst (F.map ca)),.v (.lst (W.map ca)),s5,s6]) (W.map ca) (λd hd ρ hq_=>by
   obtain⟨s5,e⟩:=hq_
   subst e;obtain⟨p,_,rfl⟩:=List.mem_map.mp hd
   exact⟨[d0,d1,d2,.v (.lst (F.map ca)),.v (.lst (W.map ca)),.v (ca p),s6],_,rfl,jf rfl,⟨_,rfl⟩⟩) [d0,d1,d2,.v (.lst (F.map ca)),.v (.lst (W.map ca)),s5,s6] ⟨s5,rfl⟩
  obtain⟨s4'',s5'',e2⟩:=pX (n:=n) (r:=r) (x:=x) d0 d1 d2 s6 LL (F++W) (.v (.lst (W.map ca))) s5' (by rw[List.length_append];omega)
  refine⟨s4'',s5'',?_⟩
  rw[List.map_cons,List.flatten_cons,List.flatMap_append,hW,<-List.append_assoc];refine(cD (ρ1:=[d0,d1,d2,.v (.lst (F.map ca)),.v (.lst (W.map ca)),s5,s6]) (ρ2:=[d0,d1,d2,.v (.lst ((F++W).map ca)),.v (.lst (W.map ca)),s5',s6]) rfl ?_).trans e2
  refine(av (jf rfl)).trans ((av ((db (ds:=W.map ca) (bm (j4 rfl))).trans e1)).trans ?_)
  refine(bb ((au (x:=.lst (F.map ca)) (y:=.lst (W.map ca)) rfl rfl).trans (lq _ _ (by simp;omega)))).trans ?_
  rw[<-List.map_append];rfl
theorem tx {n:Nat}{r x:List Nat}(R:Ord n r)(X:Ord n x)(hn:n<=6):dO [aN r x]=some (.bl true)/\ ∃F:List D,br [aN r x]=some (.lst F)/\F.length<=10/\F.all vb=true:=by
 obtain⟨C,hC,e1⟩:=wS R X (by omega)
 have e2:=uB R X hn hC
 have L:=xm R X hC
 have pm:=rj R X hC
 have e3:(.lst (((List.range n).filter (cV (di r x))).map λs=>.lst ((C s).map nI)):D)=D1 (((List.range n).filter (cV (di r x))).map C):=by unfold D1;rw[List.map_map];rfl
 rw[e3] at e1 e2;have we:=vg R X hn L e1
 have lw: ∀W∈((List.range n).filter (cV (di r x))).map C,eS [aN r x,.lst (W.map nI)]=some (.lst ((W.flatMap (dh n r x)).map ca)):=λW hW=>by
  obtain⟨s,hs,rfl⟩:=List.mem_map.mp hW
  exact v8 R X hn (hC s (List.mem_range.mp (List.mem_filter.mp hs).1))
 generalize hLL:((List.range n).filter (cV (di r x))).map C=LL at*
 have hl:=L.len
 have cl:=lL R X hn
 have pa:=vx R X pm
 have pl:(LL.flatten.flatMap (dh n r x)).length<=48:=by
  rw[pa.length_eq];simp;omega
 have dw:dr (lb n r x LL)<=32:=by
  have:cE (LL.map λL=>D.lst ((L.flatMap (dh n r x)).map ca))<=2:=mR λd hd=>by
   obtain⟨W,_,rfl⟩:=List.mem_map.mp hd
   have:=tP (W.flatMap (dh n r x))
   unfold dr;omega
  unfold dr;omega
 refine⟨?_,_,we,by rw[List.length_map];omega,?_⟩
 ·let m:=(bO n r x).length
  have q1:aQ 1 (aS 1 (ia (ai (nF 1 dX) (aa (ah 0) (af)))) (gN 7) (fI) (ai (nF 2 eS) (aa (ah 0) (aa (ah 7) (af))))) (gA 7 [aN r x])=.nx [.v (aN r x),.v (lb n r x LL),.no,.no,.no,.no,.no]:=
   (bb (cb (ds:=LL.map λL=>D.lst (L.map nI)) (j4 ((cI (ds:=[aN r x]) rfl rfl).trans (show dX [aN r x]=some (.lst (LL.map λL=>D.lst (L.map nI))) from e2))) (by rw[List.length_map];omega) (cZ (h:=λW:List Nat=>D.lst (W.map nI)) (o:=λW=>.lst ((W.flatMap (dh n r x)).map ca)) LL λW hW=>⟨[.v (aN r x),.no,.no,.no,.no,.no,.no,.v (.lst (W.map nI))],rfl,(cI (ds:=[aN r x,.lst (W.map nI)]) rfl rfl).trans (lw W hW)⟩))).trans rfl
  have q2:aQ 2 (ai (nF 1 br) (aa (ah 0) (af))) [.v (aN r x),.v (lb n r x LL),.no,.no,.no,.no,.no]=.nx [.v (aN r x),.v (lb n r x LL),.v (lb n r x LL),.no,.no,.no,.no]:=(bb ((cI (ds:=[aN r x]) rfl rfl).trans we)).trans rfl
  have p3:xE (fy (dZ (kS "list" (ah 2)))) (df (ak kL (ah 2) (ah 1))) [.v (aN r x),.v (lb n r x LL),.v (lb n r x LL),.no,.no,.no,.no]=some false:=Ai (jg (b:=true) (i0 rfl)) (fB ((au (x:=lb n r x LL) (y:=lb n r x LL) rfl rfl).trans (yM dw)))
  obtain⟨s4,s5,e5⟩:=pX (n:=n) (r:=r) (x:=x) (.v (aN r x)) (.v (lb n r x LL)) (.v (lb n r x LL)) .no LL [] .no .no (by simp at pl⊢;omega)
  rw[List.nil_append] at e5
  let M:=LL.flatten.flatMap (dh n r x)
  have q6:aQ 6 (ai bN (aa (ai (nF 1 bd) (aa (ah 0) (af))) (af))) [.v (aN r x),.v (lb n r x LL),.v (lb n r x LL),.v (.lst (M.map ca)),s4,s5,.no]=.nx [.v (aN r x),.v (lb n r x LL),.v (lb n r x LL),.v (.lst (M.map ca)),s4,s5,.v (nI m)]:=by
   refine(bb (d:=nI m) ((ba (ds:=[jh n r x]) (aq ((cI (ds:=[aN r x]) rfl rfl).trans ((nr R X hn).trans (by rw[rD]))) rfl)).trans ?_)).trans rfl
   show some (D.int (((bO n r x).map (qW r x)).length:Int))=_;rw[List.length_map]
  have cv: ∀v:Bool,aS 1 (aZ (aa (ah 6) (af))) (gN 7) (fI) (cf (aa (ah 7) (aa (aw (.bl v)) (af)))) [.v (aN r x),.v (lb n r x LL),.v (lb n r x LL),.v (.lst (M.map ca)),s4,s5,.v (nI m)]=some (.lst (((List.range m).map λ(k:Nat)=>((k:Int),v)).map ca)):=λv=>by
   refine cb (ds:=(List.range m).map nI) (cB (n:=m) (aq rfl rfl) (by omega)) (by simp;omega) ?_
   rw[List.map_map];exact cZ (h:=nI) (o:=λ(k:Nat)=>ca ((k:Int),v)) (List.range m) λk hk=>⟨[.v (aN r x),.v (lb n r x LL),.v (lb n r x LL),.v (.lst (M.map ca)),s4,s5,.v (nI m),.v (nI k)],rfl,dv (ds:=[nI k,.bl v]) rfl (by simp)⟩
  let Z:=(List.range m).map (λ(k:Nat)=>((k:Int),false))++(List.range m).map λ(k:Nat)=>((k:Int),true)
  have cz:ak gp (aS 1 (aZ (aa (ah 6) (af))) (gN 7) (fI) (cf (aa (ah 7) (aa (aw (.bl false)) (af))))) (aS 1 (aZ (aa (ah 6) (af))) (gN 7) (fI) (cf (aa (ah 7) (aa (aw (.bl true)) (af))))) [.v (aN r x),.v (lb n r x LL),.v (lb n r x LL),.v (.lst (M.map ca)),s4,s5,.v (nI m)]=some (.lst (Z.map ca)):=by
   refine(au (cv false) (cv true)).trans ((lq _ _ (by simp;omega)).trans ?_)
   rw[<-List.map_append]
  have lM:M.length<64:=by show(LL.flatten.flatMap (dh n r x)).length<64;omega
  have lZ:Z.length<64:=by simp[Z];omega
  have es:bT gC M=bT gC Z:=qZ pa
  have dz:dr (.lst ((bT gC Z).map ca))<=32:=by
   have:=tP (bT gC Z)
   unfold dr;omega
  refine oZ (kd:=.s) (n:=7) (t:=ml) ⟨[.v (aN r x),.v (lb n r x LL),.v (lb n r x LL),.v (.lst (M.map ca)),s4,s5,.v (nI m)],(av q1).trans ((av q2).trans ((av (jf p3)).trans ((av (ρ':=[.v (aN r x),.v (lb n r x LL),.v (lb n r x LL),.v (.lst []),.no,.no,.no]) rfl).trans ((av ((db (ds:=LL.map λL=>D.lst ((L.flatMap (dh n r x)).map ca)) (bm (j4 rfl))).trans e5)).trans ((av q6).trans (de ?_))))))⟩
  exact(au ((wB (ks:=M) rfl lM).trans (by rw[es])) (wB cz lZ)).trans (yp dz)
 ·rw[List.all_eq_true]
  intro d hd;obtain⟨W,hW,rfl⟩:=List.mem_map.mp hd
  show decide (((W.flatMap (dh n r x)).map ca).length<=1000)=true;rw[decide_eq_true_eq,List.length_map];have h1:=lY R X hn W λc hc=>by
   obtain⟨k,hk,e⟩:=List.mem_iff_getElem.mp hW
   exact L.lt k hk c (by rw[List.getD_eq_getElem?_getD,List.getElem?_eq_getElem hk,e];exact hc)
  have h2:=L.ll W hW
  omega
theorem z6(ns:List Int)(hn:ns.length<=63):zx [gL ns]=some (.bl true):=by
 refine oZ (kd:=.s) (n:=6) (t:=vD) ?_
 unfold vD;obtain⟨kk,hk1,hk2⟩:=A3 ns 8 (by omega) (gA 6 [gL ns]) rfl
 have o5:Ord 5 [0,1,2,3,4]:=⟨List.Perm.refl _⟩
 have o5':Ord 5 [2,3,4,0,1]:=⟨by decide⟩
 refine zO (λρ=> ∃s1 s2 s3 s4 s5,ρ=[.v (gL ns),s1,s2,s3,s4,s5]) (xI (ds:=(List.range kk).map nI) (bm (cB (aq hk2 rfl) (by omega))) (oV _ (λd hd ρ hρ=>?_) _ ⟨_,_,_,_,_,rfl⟩)) λρ' hρ'=>⟨ρ',de ((cI (ds:=[aN [0,1,2,3,4] [2,3,4,0,1]]) rfl rfl).trans (tx o5 o5' (by omega)).1)⟩
 obtain⟨k,hk,rfl⟩:=List.mem_map.mp hd
 rw[List.mem_range] at hk;obtain⟨s1,s2,s3,s4,s5,rfl⟩:=hρ
 obtain⟨a0,b0,eb,B⟩:=AY ns k (by omega) hn
 obtain⟨d1,a1,b1,et,B1,d10,d11⟩:=lv (m:=5) B (by omega) (by decide) (by decide)
 obtain⟨n,hm,hn1,hn2⟩: ∃m:Nat,bi (.int 2) (.int d1)=some (nI m)/\2<=m/\m<=6:=⟨(2+d1).toNat,by rw[cO,EG (by omega)],by omega,by omega⟩
 obtain⟨r,x,a2,b2,e2,S,B2⟩:=sy B1 hn1 hn2 (by omega)
 obtain⟨g,F,hw,lF,mF⟩:=tx S.hr S.hx hn2
 have q1:cQ 2 (ai (nF 2 iD) (aa (ah 0) (aa (ah 1) (af)))) [.v (gL ns),.v (nI k),s2,s3,s4,s5]=.nx [.v (gL ns),.v (nI k),.own (bh a0 b0),s3,s4,s5]:=(en ((cI (ds:=[gL ns,nI k]) rfl rfl).trans eb)).trans rfl
 have q2:jj 3 (aL 2 1 fG (gk (lK bi (pu (aw (.int 2))) (aL 2 1 ck (cg (aa (aw (.int 5)) (af))))) (cg (af)))) [.v (gL ns),.v (nI k),.own (bh a0 b0),s3,s4,s5]=.nx [.v (gL ns),.v (nI k),.own (bh a2 b2),.v (aN r x),s4,s5]:=
  (lz (cU (i:=2) (n:=1) (b0:=bh a0 b0) (bs:=bh a1 b1) (ds:=[nI n]) rfl (mq (tD (mU rfl) (cU (i:=2) (n:=1) (b0:=bh a0 b0) (ds:=[.int 5]) rfl (bm rfl) rfl rfl et) hm) rfl) rfl rfl e2)).trans rfl
 have q3: ∀t4 t5,wW 4 1 br (aa (ah 3) (af)) [.v (gL ns),.v (nI k),.no,.v (aN r x),t4,t5]=.nx [.v (gL ns),.v (nI k),.no,.v (aN r x),.ob (.set F),t5]:=λt4 t5=>by
  unfold wW AN;rw[show(aa (ah 3) (af)) [.v (gL ns),.v (nI k),.no,.v (aN r x),t4,t5]=some [aN r x] from rfl];show(match (if(LF (aN r x)&&true)=true then(nF 1 br [aN r x]).bind CH else none) with|some ds=>Out.nx _|none=>Out.no)=_
  rw[zl,Bool.and_self,if_pos rfl,show nF 1 br [aN r x]=br [aN r x] from rfl,hw];rfl
 have q4: ∀t4 t5,fz (fy (dZ (ai (nF 1 dO) (aa (ah 3) (af))))) (bv (aw (.bl false))) (skip) [.v (gL ns),.v (nI k),.no,.v (aN r x),t4,t5]=.nx [.v (gL ns),.v (nI k),.no,.v (aN r x),t4,t5]:=λt4 t5=>nw (jg (b:=true) (i0 ((cI (ds:=[aN r x]) rfl rfl).trans g)))
 have q5: ∀t5,qc 4 5 [.v (gL ns),.v (nI k),.no,.v (aN r x),.ob (.set F),t5]=.nx [.v (gL ns),.v (nI k),.no,.v (aN r x),.no,.no]:=λt5=>by
  unfold qc;rw[if_pos]
  ·rfl
  ·unfold rq
   refine Bool.and_eq_true_iff.mpr ⟨Bool.and_eq_true_iff.mpr ⟨rfl,?_⟩,?_⟩
   ·show(LF (gL ns)&&(true&&(true&&(LF (aN r x)&&(true&&(true&&true))))))=true
    rw[zl];have:LF (gL ns)=true:=by unfold gL LF;exact B6 ns
    rw[this];rfl
   ·show(decide (F.length<=1000)&&F.all vb)=true
    rw[decide_eq_true (by omega),mF];rfl
 refine⟨_,[.v (gL ns),.v (nI k),.no,.v (aN r x),.no,.no],rfl,(av q1).trans ((av q2).trans ?_),⟨_,_,_,_,_,rfl⟩⟩
 unfold ym;rw[show [Sl.v (gL ns),.v (nI k),.own (bh a2 b2),.v (aN r x),s4,s5].map qP=[Sl.v (gL ns),.v (nI k),.no,.v (aN r x),qP s4,qP s5] from rfl,(av (q3 _ _)).trans ((av (q4 _ _)).trans ((av (q5 _)).trans ((av (q4 _ _)).trans rfl)))];rfl
set_option maxHeartbeats 4000000
theorem all_mk {l:W.OpenLaw}{w:World}{K:W.Frag}{h:Heap}{mg:Str->Option Value}{fa:Addr}{f0:Addr}{od0 an0:Option Addr}{sl0:Array (Option Value)}{oc0 kV0 dc0 pm0 cd0 ct0:Value}{f1:Addr}{od1 an1:Option Addr}{sl1:Array (Option Value)}{oc1 kV1 dc1 pm1 cd1 ct1:Value}{f2:Addr}{od2 an2:Option Addr}{sl2:Array (Option Value)}{oc2 kV2 dc2 pm2 cd2 ct2:Value}{f3:Addr}{od3 an3:Option Addr}{sl3:Array (Option Value)}{oc3 kV3 dc3 pm3 cd3 ct3:Value}{f4:Addr}{od4 an4:Option Addr}{sl4:Array (Option Value)}{oc4 kV4 dc4 pm4 cd4 ct4:Value}{f5:Addr}{od5 an5:Option Addr}{sl5:Array (Option Value)}{oc5 kV5 dc5 pm5 cd5 ct5:Value}{f6:Addr}{od6 an6:Option Addr}{sl6:Array (Option Value)}{oc6 kV6 dc6 pm6 cd6 ct6:Value}{f7:Addr}{od7 an7:Option Addr}{sl7:Array (Option Value)}{oc7 kV7 dc7 pm7 cd7 ct7:Value}{f8:Addr}{od8 an8:Option Addr}{sl8:Array (Option Value)}{oc8 kV8 dc8 pm8 cd8 ct8:Value}{f9:Addr}{od9 an9:Option Addr}{sl9:Array (Option Value)}{oc9 kV9 dc9 pm9 cd9 ct9:Value}{f10:Addr}{od10 an10:Option Addr}{sl10:Array (Option Value)}{oc10 kV10 dc10 pm10 cd10 ct10:Value}{f11:Addr}{od11 an11:Option Addr}{sl11:Array (Option Value)}{oc11 kV11 dc11 pm11 cd11 ct11:Value}{f12:Addr}{od12 an12:Option Addr}{sl12:Array (Option Value)}{oc12 kV12 dc12 pm12 cd12 ct12:Value}{f13:Addr}{od13 an13:Option Addr}{sl13:Array (Option Value)}{oc13 kV13 dc13 pm13 cd13 ct13:Value}{f14:Addr}{od14 an14:Option Addr}{sl14:Array (Option Value)}{oc14 kV14 dc14 pm14 cd14 ct14:Value}{f15:Addr}{od15 an15:Option Addr}{sl15:Array (Option Value)}{oc15 kV15 dc15 pm15 cd15 ct15:Value}{f16:Addr}{od16 an16:Option Addr}{sl16:Array (Option Value)}{oc16 kV16 dc16 pm16 cd16 ct16:Value}{f17:Addr}{od17 an17:Option Addr}{sl17:Array (Option Value)}{oc17 kV17 dc17 pm17 cd17 ct17:Value}{f18:Addr}{od18 an18:Option Addr}{sl18:Array (Option Value)}{oc18 kV18 dc18 pm18 cd18 ct18:Value}{f19:Addr}{od19 an19:Option Addr}{sl19:Array (Option Value)}{oc19 kV19 dc19 pm19 cd19 ct19:Value}{f20:Addr}{od20 an20:Option Addr}{sl20:Array (Option Value)}{oc20 kV20 dc20 pm20 cd20 ct20:Value}{f21:Addr}{od21 an21:Option Addr}{sl21:Array (Option Value)}{oc21 kV21 dc21 pm21 cd21 ct21:Value}{f22:Addr}{od22 an22:Option Addr}{sl22:Array (Option Value)}{oc22 kV22 dc22 pm22 cd22 ct22:Value}{f23:Addr}{od23 an23:Option Addr}{sl23:Array (Option Value)}{oc23 kV23 dc23 pm23 cd23 ct23:Value}{f24:Addr}{od24 an24:Option Addr}{sl24:Array (Option Value)}{oc24 kV24 dc24 pm24 cd24 ct24:Value}(X:K.In h)(G:h.Ns mainGlobals mg)(hfa:mg "law"=some (.ref fa))
 (a0:W.nsIn K mainGlobals "order_rounds"=some (some (.ref f0))) (l0:K.lookup f0=some ⟨oc0,od0,.func (W.fnOf "order_rounds" "order_rounds" (aR bH) (aJ bH) (aj bH) .none kV0 dc0 pm0 an0 cd0 ct0),sl0⟩) (c0:W.codeIn K cd0 "order_rounds"=true) (k0:W.keepIn K (.ref f0)=true)
 (a1:W.nsIn K mainGlobals "lines_of"=some (some (.ref f1))) (l1:K.lookup f1=some ⟨oc1,od1,.func (W.fnOf "lines_of" "lines_of" (aR dD) (aJ dD) (aj dD) .none kV1 dc1 pm1 an1 cd1 ct1),sl1⟩) (c1:W.codeIn K cd1 "lines_of"=true) (k1:W.keepIn K (.ref f1)=true)
 (a2:W.nsIn K mainGlobals "lies_between"=some (some (.ref f2))) (l2:K.lookup f2=some ⟨oc2,od2,.func (W.fnOf "lies_between" "lies_between" (aR bI) (aJ bI) (aj bI) .none kV2 dc2 pm2 an2 cd2 ct2),sl2⟩) (c2:W.codeIn K cd2 "lies_between"=true) (k2:W.keepIn K (.ref f2)=true)
 (a3:W.nsIn K mainGlobals "goes_up"=some (some (.ref f3))) (l3:K.lookup f3=some ⟨oc3,od3,.func (W.fnOf "goes_up" "goes_up" (aR eP) (aJ eP) (aj eP) .none kV3 dc3 pm3 an3 cd3 ct3),sl3⟩) (c3:W.codeIn K cd3 "goes_up"=true) (k3:W.keepIn K (.ref f3)=true)
 (a4:W.nsIn K mainGlobals "goes_right"=some (some (.ref f4))) (l4:K.lookup f4=some ⟨oc4,od4,.func (W.fnOf "goes_right" "goes_right" (aR cr) (aJ cr) (aj cr) .none kV4 dc4 pm4 an4 cd4 ct4),sl4⟩) (c4:W.codeIn K cd4 "goes_right"=true) (k4:W.keepIn K (.ref f4)=true)
 (a5:W.nsIn K mainGlobals "is_crossing"=some (some (.ref f5))) (l5:K.lookup f5=some ⟨oc5,od5,.func (W.fnOf "is_crossing" "is_crossing" (aR bZ) (aJ bZ) (aj bZ) .none kV5 dc5 pm5 an5 cd5 ct5),sl5⟩) (c5:W.codeIn K cd5 "is_crossing"=true) (k5:W.keepIn K (.ref f5)=true)
 (a6:W.nsIn K mainGlobals "sign_at"=some (some (.ref f6))) (l6:K.lookup f6=some ⟨oc6,od6,.func (W.fnOf "sign_at" "sign_at" (aR eX) (aJ eX) (aj eX) .none kV6 dc6 pm6 an6 cd6 ct6),sl6⟩) (c6:W.codeIn K cd6 "sign_at"=true) (k6:W.keepIn K (.ref f6)=true)
 (a7:W.nsIn K mainGlobals "crossings_of"=some (some (.ref f7))) (l7:K.lookup f7=some ⟨oc7,od7,.func (W.fnOf "crossings_of" "crossings_of" (aR bG) (aJ bG) (aj bG) .none kV7 dc7 pm7 an7 cd7 ct7),sl7⟩) (c7:W.codeIn K cd7 "crossings_of"=true) (k7:W.keepIn K (.ref f7)=true)
 (a8:W.nsIn K mainGlobals "along_column"=some (some (.ref f8))) (l8:K.lookup f8=some ⟨oc8,od8,.func (W.fnOf "along_column" "along_column" (aR bF) (aJ bF) (aj bF) .none kV8 dc8 pm8 an8 cd8 ct8),sl8⟩) (c8:W.codeIn K cd8 "along_column"=true) (k8:W.keepIn K (.ref f8)=true)
 (a9:W.nsIn K mainGlobals "along_row"=some (some (.ref f9))) (l9:K.lookup f9=some ⟨oc9,od9,.func (W.fnOf "along_row" "along_row" (aR cT) (aJ cT) (aj cT) .none kV9 dc9 pm9 an9 cd9 ct9),sl9⟩) (c9:W.codeIn K cd9 "along_row"=true) (k9:W.keepIn K (.ref f9)=true)
 (a10:W.nsIn K mainGlobals "word_of"=some (some (.ref f10))) (l10:K.lookup f10=some ⟨oc10,od10,.func (W.fnOf "word_of" "word_of" (aR eZ) (aJ eZ) (aj eZ) .none kV10 dc10 pm10 an10 cd10 ct10),sl10⟩) (c10:W.codeIn K cd10 "word_of"=true) (k10:W.keepIn K (.ref f10)=true)
 (a11:W.nsIn K mainGlobals "words_of"=some (some (.ref f11))) (l11:K.lookup f11=some ⟨oc11,od11,.func (W.fnOf "words_of" "words_of" (aR dE) (aJ dE) (aj dE) .none kV11 dc11 pm11 an11 cd11 ct11),sl11⟩) (c11:W.codeIn K cd11 "words_of"=true) (k11:W.keepIn K (.ref f11)=true)
 (a12:W.nsIn K mainGlobals "_law_cell"=some (some (.ref f12))) (l12:K.lookup f12=some ⟨oc12,od12,.func (W.fnOf "_law_cell" "_law_cell" (aR dB) (aJ dB) (aj dB) .none kV12 dc12 pm12 an12 cd12 ct12),sl12⟩) (c12:W.codeIn K cd12 "_law_cell"=true) (k12:W.keepIn K (.ref f12)=true)
 (a13:W.nsIn K mainGlobals "_law_bag"=some (some (.ref f13))) (l13:K.lookup f13=some ⟨oc13,od13,.func (W.fnOf "_law_bag" "_law_bag" (aR eN) (aJ eN) (aj eN) .none kV13 dc13 pm13 an13 cd13 ct13),sl13⟩) (c13:W.codeIn K cd13 "_law_bag"=true) (k13:W.keepIn K (.ref f13)=true)
 (a14:W.nsIn K mainGlobals "_law_take"=some (some (.ref f14))) (l14:K.lookup f14=some ⟨oc14,od14,.func (W.fnOf "_law_take" "_law_take" (aR dC) (aJ dC) (aj dC) .none kV14 dc14 pm14 an14 cd14 ct14),sl14⟩) (c14:W.codeIn K cd14 "_law_take"=true) (k14:W.keepIn K (.ref f14)=true)
 (a15:W.nsIn K mainGlobals "_law_order"=some (some (.ref f15))) (l15:K.lookup f15=some ⟨oc15,od15,.func (W.fnOf "_law_order" "_law_order" (aR cR) (aJ cR) (aj cR) .none kV15 dc15 pm15 an15 cd15 ct15),sl15⟩) (c15:W.codeIn K cd15 "_law_order"=true) (k15:W.keepIn K (.ref f15)=true)
 (a16:W.nsIn K mainGlobals "_law_square"=some (some (.ref f16))) (l16:K.lookup f16=some ⟨oc16,od16,.func (W.fnOf "_law_square" "_law_square" (aR cn) (aJ cn) (aj cn) .none kV16 dc16 pm16 an16 cd16 ct16),sl16⟩) (c16:W.codeIn K cd16 "_law_square"=true) (k16:W.keepIn K (.ref f16)=true)
 (a17:W.nsIn K mainGlobals "_law_ways"=some (some (.ref f17))) (l17:K.lookup f17=some ⟨oc17,od17,.func (W.fnOf "_law_ways" "_law_ways" (aR dL) (aJ dL) (aj dL) .none kV17 dc17 pm17 an17 cd17 ct17),sl17⟩) (c17:W.codeIn K cd17 "_law_ways"=true) (k17:W.keepIn K (.ref f17)=true)
 (a18:W.nsIn K mainGlobals "_law_crossings"=some (some (.ref f18))) (l18:K.lookup f18=some ⟨oc18,od18,.func (W.fnOf "_law_crossings" "_law_crossings" (aR bt) (aJ bt) (aj bt) .none kV18 dc18 pm18 an18 cd18 ct18),sl18⟩) (c18:W.codeIn K cd18 "_law_crossings"=true) (k18:W.keepIn K (.ref f18)=true)
 (a19:W.nsIn K mainGlobals "_law_line"=some (some (.ref f19))) (l19:K.lookup f19=some ⟨oc19,od19,.func (W.fnOf "_law_line" "_law_line" (aR dH) (aJ dH) (aj dH) .none kV19 dc19 pm19 an19 cd19 ct19),sl19⟩) (c19:W.codeIn K cd19 "_law_line"=true) (k19:W.keepIn K (.ref f19)=true)
 (a20:W.nsIn K mainGlobals "_law_lines"=some (some (.ref f20))) (l20:K.lookup f20=some ⟨oc20,od20,.func (W.fnOf "_law_lines" "_law_lines" (aR cK) (aJ cK) (aj cK) .none kV20 dc20 pm20 an20 cd20 ct20),sl20⟩) (c20:W.codeIn K cd20 "_law_lines"=true) (k20:W.keepIn K (.ref f20)=true)
 (a21:W.nsIn K mainGlobals "_law_passed"=some (some (.ref f21))) (l21:K.lookup f21=some ⟨oc21,od21,.func (W.fnOf "_law_passed" "_law_passed" (aR cj) (aJ cj) (aj cj) .none kV21 dc21 pm21 an21 cd21 ct21),sl21⟩) (c21:W.codeIn K cd21 "_law_passed"=true) (k21:W.keepIn K (.ref f21)=true)
 (a22:W.nsIn K mainGlobals "_law_word"=some (some (.ref f22))) (l22:K.lookup f22=some ⟨oc22,od22,.func (W.fnOf "_law_word" "_law_word" (aR dN) (aJ dN) (aj dN) .none kV22 dc22 pm22 an22 cd22 ct22),sl22⟩) (c22:W.codeIn K cd22 "_law_word"=true) (k22:W.keepIn K (.ref f22)=true)
 (a23:W.nsIn K mainGlobals "_law_good"=some (some (.ref f23))) (l23:K.lookup f23=some ⟨oc23,od23,.func (W.fnOf "_law_good" "_law_good" (aR dI) (aJ dI) (aj dI) .none kV23 dc23 pm23 an23 cd23 ct23),sl23⟩) (c23:W.codeIn K cd23 "_law_good"=true) (k23:W.keepIn K (.ref f23)=true)
 (a24:W.nsIn K mainGlobals "law"=some (some (.ref f24))) (l24:K.lookup f24=some ⟨oc24,od24,.func (W.fnOf "law" "law" (aR iO) (aJ iO) (aj iO) .none kV24 dc24 pm24 an24 cd24 ct24),sl24⟩) (c24:W.codeIn K cd24 "law"=true) (k24:W.keepIn K (.ref f24)=true)
 (z_abs:W.nsIn K mainGlobals "abs"=some none)
 (z_any:W.nsIn K mainGlobals "any"=some none)
 (z_bool:W.nsIn K mainGlobals "bool"=some none)
 (z_enumerate:W.nsIn K mainGlobals "enumerate"=some none)
 (z_int:W.nsIn K mainGlobals "int"=some none)
 (z_isinstance:W.nsIn K mainGlobals "isinstance"=some none)
 (z_len:W.nsIn K mainGlobals "len"=some none)
 (z_list:W.nsIn K mainGlobals "list"=some none)
 (z_max:W.nsIn K mainGlobals "max"=some none)
 (z_min:W.nsIn K mainGlobals "min"=some none)
 (z_range:W.nsIn K mainGlobals "range"=some none)
 (z_sorted:W.nsIn K mainGlobals "sorted"=some none)
 (z_tuple:W.nsIn K mainGlobals "tuple"=some none):
 ∃fd:FuncData,(∀(s:Shared) (v:Value),BindsTo s fd ⟨[v],[]⟩ [("_law_script",v)])/\ ∀base:Heap,K.In base->base.Ns mainGlobals mg->FnOk l.prog w K mg base mY 6 fa fd ["_law_script"] (sX K):=by
 have e:=hfa.symm.trans (W.mg_of X G a24)
 cases e
 have F0:=bu (st:=bH) l0 c0 k0
 have b0:=F0.binds (ps:=["order"]) λ_ _ _ _ _ _ us hl=>ar1 us hl (λ_=>rfl)
 have d0:Df K mg "order_rounds" bH ["order"]:=⟨_,_,F0,W.mg_of X G a0,b0⟩
 have F1:=bu (st:=dD) l1 c1 k1
 have b1:=F1.binds (ps:=["square"]) λ_ _ _ _ _ _ us hl=>ar1 us hl (λ_=>rfl)
 have d1:Df K mg "lines_of" dD ["square"]:=⟨_,_,F1,W.mg_of X G a1,b1⟩
 have F2:=bu (st:=bI) l2 c2 k2
 have b2:=F2.binds (ps:=["at","one","other"]) λ_ _ _ _ _ _ us hl=>ar3 us hl (λ_ _ _=>rfl)
 have d2:Df K mg "lies_between" bI ["at","one","other"]:=⟨_,_,F2,W.mg_of X G a2,b2⟩
 have F3:=bu (st:=eP) l3 c3 k3
 have b3:=F3.binds (ps:=["square","column"]) λ_ _ _ _ _ _ us hl=>ar2 us hl (λ_ _=>rfl)
 have d3:Df K mg "goes_up" eP ["square","column"]:=⟨_,_,F3,W.mg_of X G a3,b3⟩
 have F4:=bu (st:=cr) l4 c4 k4
 have b4:=F4.binds (ps:=["square","row"]) λ_ _ _ _ _ _ us hl=>ar2 us hl (λ_ _=>rfl)
 have d4:Df K mg "goes_right" cr ["square","row"]:=⟨_,_,F4,W.mg_of X G a4,b4⟩
 have F5:=bu (st:=bZ) l5 c5 k5
 have b5:=F5.binds (ps:=["square","column","row"]) λ_ _ _ _ _ _ us hl=>ar3 us hl (λ_ _ _=>rfl)
 have d5:Df K mg "is_crossing" bZ ["square","column","row"]:=⟨_,_,F5,W.mg_of X G a5,b5⟩
 have F6:=bu (st:=eX) l6 c6 k6
 have b6:=F6.binds (ps:=["square","column","row"]) λ_ _ _ _ _ _ us hl=>ar3 us hl (λ_ _ _=>rfl)
 have d6:Df K mg "sign_at" eX ["square","column","row"]:=⟨_,_,F6,W.mg_of X G a6,b6⟩
 have F7:=bu (st:=bG) l7 c7 k7
 have b7:=F7.binds (ps:=["square"]) λ_ _ _ _ _ _ us hl=>ar1 us hl (λ_=>rfl)
 have d7:Df K mg "crossings_of" bG ["square"]:=⟨_,_,F7,W.mg_of X G a7,b7⟩
 have F8:=bu (st:=bF) l8 c8 k8
 have b8:=F8.binds (ps:=["square","crossings","column"]) λ_ _ _ _ _ _ us hl=>ar3 us hl (λ_ _ _=>rfl)
 have d8:Df K mg "along_column" bF ["square","crossings","column"]:=⟨_,_,F8,W.mg_of X G a8,b8⟩
 have F9:=bu (st:=cT) l9 c9 k9
 have b9:=F9.binds (ps:=["square","crossings","row"]) λ_ _ _ _ _ _ us hl=>ar3 us hl (λ_ _ _=>rfl)
 have d9:Df K mg "along_row" cT ["square","crossings","row"]:=⟨_,_,F9,W.mg_of X G a9,b9⟩
 have F10:=bu (st:=eZ) l10 c10 k10
 have b10:=F10.binds (ps:=["square","crossings","line"]) λ_ _ _ _ _ _ us hl=>ar3 us hl (λ_ _ _=>rfl)
 have d10:Df K mg "word_of" eZ ["square","crossings","line"]:=⟨_,_,F10,W.mg_of X G a10,b10⟩
 have F11:=bu (st:=dE) l11 c11 k11
 have b11:=F11.binds (ps:=["square"]) λ_ _ _ _ _ _ us hl=>ar1 us hl (λ_=>rfl)
 have d11:Df K mg "words_of" dE ["square"]:=⟨_,_,F11,W.mg_of X G a11,b11⟩
 have F12:=bu (st:=dB) l12 c12 k12
 have b12:=F12.binds (ps:=["_law_script","_law_k"]) λ_ _ _ _ _ _ us hl=>ar2 us hl (λ_ _=>rfl)
 have d12:Df K mg "_law_cell" dB ["_law_script","_law_k"]:=⟨_,_,F12,W.mg_of X G a12,b12⟩
 have F13:=bu (st:=eN) l13 c13 k13
 have b13:=F13.binds (ps:=["_law_script","_law_at"]) λ_ _ _ _ _ _ us hl=>ar2 us hl (λ_ _=>rfl)
 have d13:Df K mg "_law_bag" eN ["_law_script","_law_at"]:=⟨_,_,F13,W.mg_of X G a13,b13⟩
 have F14:=bu (st:=dC) l14 c14 k14
 have b14:=F14.binds (ps:=["_law_bag_here","_law_many"]) λ_ _ _ _ _ _ us hl=>ar2 us hl (λ_ _=>rfl)
 have d14:Df K mg "_law_take" dC ["_law_bag_here","_law_many"]:=⟨_,_,F14,W.mg_of X G a14,b14⟩
 have F15:=bu (st:=cR) l15 c15 k15
 have b15:=F15.binds (ps:=["_law_bag_here","_law_n"]) λ_ _ _ _ _ _ us hl=>ar2 us hl (λ_ _=>rfl)
 have d15:Df K mg "_law_order" cR ["_law_bag_here","_law_n"]:=⟨_,_,F15,W.mg_of X G a15,b15⟩
 have F16:=bu (st:=cn) l16 c16 k16
 have b16:=F16.binds (ps:=["_law_bag_here","_law_n"]) λ_ _ _ _ _ _ us hl=>ar2 us hl (λ_ _=>rfl)
 have d16:Df K mg "_law_square" cn ["_law_bag_here","_law_n"]:=⟨_,_,F16,W.mg_of X G a16,b16⟩
 have F17:=bu (st:=dL) l17 c17 k17
 have b17:=F17.binds (ps:=["_law_square_here"]) λ_ _ _ _ _ _ us hl=>ar1 us hl (λ_=>rfl)
 have d17:Df K mg "_law_ways" dL ["_law_square_here"]:=⟨_,_,F17,W.mg_of X G a17,b17⟩
 have F18:=bu (st:=bt) l18 c18 k18
 have b18:=F18.binds (ps:=["_law_square_here"]) λ_ _ _ _ _ _ us hl=>ar1 us hl (λ_=>rfl)
 have d18:Df K mg "_law_crossings" bt ["_law_square_here"]:=⟨_,_,F18,W.mg_of X G a18,b18⟩
 have F19:=bu (st:=dH) l19 c19 k19
 have b19:=F19.binds (ps:=["_law_square_here","_law_begin"]) λ_ _ _ _ _ _ us hl=>ar2 us hl (λ_ _=>rfl)
 have d19:Df K mg "_law_line" dH ["_law_square_here","_law_begin"]:=⟨_,_,F19,W.mg_of X G a19,b19⟩
 have F20:=bu (st:=cK) l20 c20 k20
 have b20:=F20.binds (ps:=["_law_square_here"]) λ_ _ _ _ _ _ us hl=>ar1 us hl (λ_=>rfl)
 have d20:Df K mg "_law_lines" cK ["_law_square_here"]:=⟨_,_,F20,W.mg_of X G a20,b20⟩
 have F21:=bu (st:=cj) l21 c21 k21
 have b21:=F21.binds (ps:=["_law_numbers","_law_begin","_law_end","_law_over"]) λ_ _ _ _ _ _ us hl=>ar4 us hl (λ_ _ _ _=>rfl)
 have d21:Df K mg "_law_passed" cj ["_law_numbers","_law_begin","_law_end","_law_over"]:=⟨_,_,F21,W.mg_of X G a21,b21⟩
 have F22:=bu (st:=dN) l22 c22 k22
 have b22:=F22.binds (ps:=["_law_square_here","_law_line_here"]) λ_ _ _ _ _ _ us hl=>ar2 us hl (λ_ _=>rfl)
 have d22:Df K mg "_law_word" dN ["_law_square_here","_law_line_here"]:=⟨_,_,F22,W.mg_of X G a22,b22⟩
 have F23:=bu (st:=dI) l23 c23 k23
 have b23:=F23.binds (ps:=["_law_square_here"]) λ_ _ _ _ _ _ us hl=>ar1 us hl (λ_=>rfl)
 have d23:Df K mg "_law_good" dI ["_law_square_here"]:=⟨_,_,F23,W.mg_of X G a23,b23⟩
 have F24:=bu (st:=iO) l24 c24 k24
 have b24:=F24.binds (ps:=["_law_script"]) λ_ _ _ _ _ _ us hl=>ar1 us hl (λ_=>rfl)
 have d24:Df K mg "law" iO ["_law_script"]:=⟨_,_,F24,W.mg_of X G a24,b24⟩
 have B:Bt mg:=⟨W.mg_none_of X G z_abs,W.mg_none_of X G z_any,W.mg_none_of X G z_bool,W.mg_none_of X G z_enumerate,W.mg_none_of X G z_int,W.mg_none_of X G z_isinstance,W.mg_none_of X G z_len,W.mg_none_of X G z_list,W.mg_none_of X G z_max,W.mg_none_of X G z_min,W.mg_none_of X G z_range,W.mg_none_of X G z_sorted,W.mg_none_of X G z_tuple⟩
 refine⟨W.fnOf "law" "law" (aR iO) (aJ iO) (aj iO) .none kV24 dc24 pm24 an24 cd24 ct24,λs v=>.of_eq rfl,λbase _ _=>?_⟩
 have fT:=lQ (P:=l.prog) (w:=w) (base:=base) B d0
 have i6:=rR (P:=l.prog) (w:=w) (base:=base) B d1 fT
 have eC:=lG (P:=l.prog) (w:=w) (base:=base) B d2
 have fM:=uL (P:=l.prog) (w:=w) (base:=base) B d3
 have cX:=pd (P:=l.prog) (w:=w) (base:=base) B d4
 have gD:=m7 (P:=l.prog) (w:=w) (base:=base) B d5 eC
 have j6:=uk (P:=l.prog) (w:=w) (base:=base) B d6 fM cX
 have gc:=mT (P:=l.prog) (w:=w) (base:=base) B d7 j6 gD
 have gb:=mO (P:=l.prog) (w:=w) (base:=base) B d8 fM
 have ig:=qL (P:=l.prog) (w:=w) (base:=base) B d9 cX
 have kB:=u5 (P:=l.prog) (w:=w) (base:=base) B d10 gb ig
 have eV:=sJ (P:=l.prog) (w:=w) (base:=base) B d11 gc kB i6
 have je:=rF (P:=l.prog) (w:=w) (base:=base) B d12
 have kz:=uT (P:=l.prog) (w:=w) (base:=base) B d13 je
 have bX:=sh (P:=l.prog) (w:=w) (base:=base) B d14
 have gm:=qF (P:=l.prog) (w:=w) (base:=base) B d15 bX
 have gZ:=oO (P:=l.prog) (w:=w) (base:=base) B d16 bX gm
 have jc:=sq (P:=l.prog) (w:=w) (base:=base) B d17
 have bQ:=kT (P:=l.prog) (w:=w) (base:=base) B d18 jc
 have i9:=rA (P:=l.prog) (w:=w) (base:=base) B d19
 have ij:=qI (P:=l.prog) (w:=w) (base:=base) B d20 i9
 have fJ:=oB (P:=l.prog) (w:=w) (base:=base) B d21
 have i5:=r9 (P:=l.prog) (w:=w) (base:=base) B d22 bQ fJ
 have fS:=r8 (P:=l.prog) (w:=w) (base:=base) B d23 eV i5 bQ ij
 exact z8 (AE (P:=l.prog) (w:=w) (base:=base) B F24 fS kz gZ eV bX) z6
end L2
theorem PySem.W.Fast.tw3923178247908048694:True:=⟨⟩
theorem PySem.W.Fast.tw5620724748840946272:True:=⟨⟩
theorem PySem.W.Fast.tw13842293192439215387:True:=⟨⟩
theorem PySem.W.Fast.tw18292264323109221295:True:=⟨⟩
theorem PySem.W.Fast.tw17024617895076694390:True:=⟨⟩
theorem PySem.W.Fast.tw5073930571625155264:True:=⟨⟩
theorem PySem.W.Fast.tw590782719627416439:True:=⟨⟩
theorem PySem.W.Fast.tw11376908032869658913:True:=⟨⟩
theorem PySem.W.Fast.tw13740537312517673559:True:=⟨⟩
theorem PySem.W.Fast.tw8739074019173717598:True:=⟨⟩
theorem PySem.W.Fast.tw12627678470980392277:True:=⟨⟩
theorem PySem.W.Fast.tw13903447805755624463:True:=⟨⟩
theorem PySem.W.Fast.tw17573301832054873325:True:=⟨⟩
theorem PySem.W.Fast.tw16283035101681166003:True:=⟨⟩
theorem PySem.W.Fast.tw9914509125591917263:True:=⟨⟩
open PySem PySem.W PyProof.Rows
set_option maxRecDepth 100000 in
set_option maxHeartbeats 0 in
theorem PySem.Challenge.cw_rookborders_k05_words_holds : PySem.Challenge.rw_rookborders_k05_words.Holds := by
 w_on;o_law;k_head;(case hw=>w_witness2)
 k_fill
 refine L2.walkD (l:=PySem.Challenge.rw_rookborders_k05_words) (k:=6) (x:="_law_script") rfl rfl ⟨rfl,by decide,by decide⟩ (λw h Y=>W.kIn_of Y) ?F
 case F=>
  intro w mg fa h KX G hmg
  refine' L2.all_mk KX G hmg ?a0 ?l0 ?c0 ?k0 ?a1 ?l1 ?c1 ?k1 ?a2 ?l2 ?c2 ?k2 ?a3 ?l3 ?c3 ?k3 ?a4 ?l4 ?c4 ?k4 ?a5 ?l5 ?c5 ?k5 ?a6 ?l6 ?c6 ?k6 ?a7 ?l7 ?c7 ?k7 ?a8 ?l8 ?c8 ?k8 ?a9 ?l9 ?c9 ?k9 ?a10 ?l10 ?c10 ?k10 ?a11 ?l11 ?c11 ?k11 ?a12 ?l12 ?c12 ?k12 ?a13 ?l13 ?c13 ?k13 ?a14 ?l14 ?c14 ?k14 ?a15 ?l15 ?c15 ?k15 ?a16 ?l16 ?c16 ?k16 ?a17 ?l17 ?c17 ?k17 ?a18 ?l18 ?c18 ?k18 ?a19 ?l19 ?c19 ?k19 ?a20 ?l20 ?c20 ?k20 ?a21 ?l21 ?c21 ?k21 ?a22 ?l22 ?c22 ?k22 ?a23 ?l23 ?c23 ?k23 ?a24 ?l24 ?c24 ?k24 ?z_abs ?z_any ?z_bool ?z_enumerate ?z_int ?z_isinstance ?z_len ?z_list ?z_max ?z_min ?z_range ?z_sorted ?z_tuple
  (case a0=>k_is)
  (case l0=>k_is)
  (case c0=>k_is)
  (case k0=>k_is)
  (case a1=>k_is)
  (case l1=>k_is)
  (case c1=>k_is)
  (case k1=>k_is)
  (case a2=>k_is)
  (case l2=>k_is)
  (case c2=>k_is)
  (case k2=>k_is)
  (case a3=>k_is)
  (case l3=>k_is)
  (case c3=>k_is)
  (case k3=>k_is)
  (case a4=>k_is)
  (case l4=>k_is)
  (case c4=>k_is)
  (case k4=>k_is)
  (case a5=>k_is)
  (case l5=>k_is)
  (case c5=>k_is)
  (case k5=>k_is)
  (case a6=>k_is)
  (case l6=>k_is)
  (case c6=>k_is)
  (case k6=>k_is)
  (case a7=>k_is)
  (case l7=>k_is)
  (case c7=>k_is)
  (case k7=>k_is)
  (case a8=>k_is)
  (case l8=>k_is)
  (case c8=>k_is)
  (case k8=>k_is)
  (case a9=>k_is)
  (case l9=>k_is)
  (case c9=>k_is)
  (case k9=>k_is)
  (case a10=>k_is)
  (case l10=>k_is)
  (case c10=>k_is)
  (case k10=>k_is)
  (case a11=>k_is)
  (case l11=>k_is)
  (case c11=>k_is)
  (case k11=>k_is)
  (case a12=>k_is)
  (case l12=>k_is)
  (case c12=>k_is)
  (case k12=>k_is)
  (case a13=>k_is)
  (case l13=>k_is)
  (case c13=>k_is)
  (case k13=>k_is)
  (case a14=>k_is)
  (case l14=>k_is)
  (case c14=>k_is)
  (case k14=>k_is)
  (case a15=>k_is)
  (case l15=>k_is)
  (case c15=>k_is)
  (case k15=>k_is)
  (case a16=>k_is)
  (case l16=>k_is)
  (case c16=>k_is)
  (case k16=>k_is)
  (case a17=>k_is)
  (case l17=>k_is)
  (case c17=>k_is)
  (case k17=>k_is)
  (case a18=>k_is)
  (case l18=>k_is)
  (case c18=>k_is)
  (case k18=>k_is)
  (case a19=>k_is)
  (case l19=>k_is)
  (case c19=>k_is)
  (case k19=>k_is)
  (case a20=>k_is)
  (case l20=>k_is)
  (case c20=>k_is)
  (case k20=>k_is)
  (case a21=>k_is)
  (case l21=>k_is)
  (case c21=>k_is)
  (case k21=>k_is)
  (case a22=>k_is)
  (case l22=>k_is)
  (case c22=>k_is)
  (case k22=>k_is)
  (case a23=>k_is)
  (case l23=>k_is)
  (case c23=>k_is)
  (case k23=>k_is)
  (case a24=>k_is)
  (case l24=>k_is)
  (case c24=>k_is)
  (case k24=>k_is)
  (case z_abs=>k_is)
  (case z_any=>k_is)
  (case z_bool=>k_is)
  (case z_enumerate=>k_is)
  (case z_int=>k_is)
  (case z_isinstance=>k_is)
  (case z_len=>k_is)
  (case z_list=>k_is)
  (case z_max=>k_is)
  (case z_min=>k_is)
  (case z_range=>k_is)
  (case z_sorted=>k_is)
  (case z_tuple=>k_is)
