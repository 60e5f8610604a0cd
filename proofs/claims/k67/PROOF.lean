import PyProof.Rows.All
import Wide.All
import OpenK.AllK
import Wide.FinOn
import PyProof.EqAt
import PyProof.EqKinds
import PyProof.TupleCall
import PyProof.NeKinds
import PyProof.FactsAll.tuple_2
import PyProof.FactsAll.tuple_3
import PyProof.ListRange
import KE.KSortTup
import PyProof.EnumMake
import PyProof.AutoSeq1
import PyProof.Rows.SeqMore
import KE.KIsAll
import PyProof.ExcArgsOwn
import PyProof.ExcBaseAll.ValueError
import PyProof.ExcAttrAll.ValueError
import OpenK.KOwn
import PyProof.RulesAs
import PyProof.AutoRange
import PyProof.SeqRoads2
import PyProof.ZipIter
import PyProof.StrCalls2
import KE.KDictSum
import PyProof.SumAny
import KE.KRevIter
import PyProof.Rows.FStr
import PyProof.Rows.FStrParts
import KE.KRevSl
import PyProof.Rows.SetFrom
import Lean
import PySem.Challenge.RW_rookborders_k67_own_sums
set_option bootstrap.genMatcherCode false
set_option Elab.async false
set_option linter.all false
set_option maxRecDepth 100000
set_option maxHeartbeats 1000000
namespace L2
open PySem
abbrev Pb:=SetTable.Probe
def Fs(mask:Nat)(p:Pb):Pb:=
 if p.more>0 then {p with j:=p.j+1,more:=p.more-1} else
 {p with j:=(SetTable.leap mask p.i p.perturb).1,more:=SetTable.runEnd mask (SetTable.leap mask p.i p.perturb).1- (SetTable.leap mask p.i p.perturb).1,i:=(SetTable.leap mask p.i p.perturb).1,perturb:=(SetTable.leap mask p.i p.perturb).2}
def CQ(mask i perturb:Nat)(d:Option Nat):Pb:={j:=i,more:=SetTable.runEnd mask i-i,i:=i,perturb:=perturb,dummy:=d}
def C8(mask:Nat):Nat->Pb->Pb
 |0,p=>p
 |n+1,p=>C8 mask n (Fs mask p)
def Fo(mask:Nat)(h:Int)(d:Option Nat):Pb:=CQ mask (SetTable.bits h % (mask+1)) (SetTable.bits h) d
def Jx(mask:Nat)(h:Int)(m:Nat):Nat:=(C8 mask m (Fo mask h none)).j
def Fa(xs:Array Nat):Prop:=xs.toList.Pairwise (·< ·)
structure TOk(t:SetTable)(hs:List Int):Prop where
 pw: ∃k,3<=k/\k<=12/\t.mask+1=2^k
 sz:t.place.size=hs.length
 sp:Fa t.place
 sd:Fa t.dummies
 lp: ∀j∈t.place.toList,j<=t.mask
 ld: ∀j∈t.dummies.toList,j<=t.mask
 dj: ∀j∈t.dummies.toList,j∉t.place.toList
 fl:t.fill<=t.mask
 rc: ∀x∈hs.zip t.place.toList,∃m,Jx t.mask x.1 m=x.2/\ ∀m',m'<m->Jx t.mask x.1 m'∈t.place.toList\/Jx t.mask x.1 m'∈t.dummies.toList
open PySem PySem.Spec PyProof.Rows
def th(ks:List Int):Int:=reduceHash (Builtin.Tuple.tupleHashOf (ks.map hashInt))
def Fu(x:List Int×Addr):Int×Value:=(th x.1,.ref x.2)
abbrev EX:=List (List Int×Addr)
def Fw(xs:EX):List Int:=xs.map λx=>th x.1
structure SetAt(w:World)(o:Obj)(es:Array (Int×Value))(ep:Nat)(t:SetTable)(xs:EX):Prop where
 ex:o.ExactSet
 hd:o.data=.set es ep t
 he:es.toList=xs.map Fu
 T:TOk t (Fw xs)
 led:t.led= !w.params.followText "set-order"
 pl:t.plain=true
 nd:(xs.map (·.1)).Nodup
structure SetOk(w:World)(o:Obj)(es:Array (Int×Value))(ep:Nat)(t:SetTable)(xs:EX):Prop extends SetAt w o es ep t xs where
 f5:t.fill*5<t.mask*3
abbrev bv:=Sum Int Str
def k4:bv->Value->Bool
 | .inl k,v=>Value.isInt k v
 | .inr x,v=>Value.isStrOf x v
def E2(w:World):bv->Int
 | .inl k=>hashInt k
 | .inr x=>hashStr w x
theorem bx: ∀ {k:bv} {v:Value},k4 k v=true->(∃i t,k=Sum.inl i/\v=Value.int i t)\/(∃x t,k=Sum.inr x/\v=Value.str x t)
 | .inl i,v,h=>by
   obtain⟨t,e⟩:=Value.isInt_shape (k:=i) (v:=v) h
   exact .inl ⟨i,t,rfl,e⟩
 | .inr x,v,h=>by
   obtain⟨t,e⟩:=Value.isStrOf_shape (x:=x) (v:=v) h
   exact .inr ⟨x,t,rfl,e⟩
theorem uI(i:Int)(t:Tok):k4 (.inl i) (.int i t)=true:=by simp[k4,Value.isInt]
theorem uO(x:Str)(t:Tok):k4 (.inr x) (.str x t)=true:=by simp[k4,Value.isStrOf]
theorem BL(a b:Int):decide ((Sum.inl a:bv)=Sum.inl b)=(a==b):=by
 by_cases e:a=b
 ·subst e;simp
 ·have h: ¬(Sum.inl a:bv)=Sum.inl b:=λq=>e (Sum.inl.inj q)
  rw[decide_eq_false h];exact(beq_eq_false_iff_ne.mpr e).symm
theorem BW(a b:Str):decide ((Sum.inr a:bv)=Sum.inr b)=decide (a=b):=by
 by_cases e:a=b
 ·subst e;simp
 ·have h: ¬(Sum.inr a:bv)=Sum.inr b:=λq=>e (Sum.inr.inj q)
  rw[decide_eq_false h,decide_eq_false e]
theorem Bp(a:Int)(b:Str):decide ((Sum.inl a:bv)=Sum.inr b)=false:=decide_eq_false (λq=>nomatch q)
theorem Bx(a:Str)(b:Int):decide ((Sum.inr a:bv)=Sum.inl b)=false:=decide_eq_false (λq=>nomatch q)
def bC(prog:Program)(w:World):PySem.KeyKind prog w bv where
 is:=k4
 hash:=E2 w
 inj:=λv a b ha hb=>by
  rcases bx ha with⟨i,t,rfl,rfl⟩|⟨x,t,rfl,rfl⟩
  ·rcases bx hb with⟨j,u,rfl,e⟩|⟨y,u,rfl,e⟩
   ·injection e with e1 _;rw[e1]
   ·exact nomatch e
  ·rcases bx hb with⟨j,u,rfl,e⟩|⟨y,u,rfl,e⟩
   ·exact nomatch e
   ·injection e with e1 _;rw[e1]
 byValue:=λk v h=>by
  rcases bx h with⟨i,t,rfl,rfl⟩|⟨x,t,rfl,rfl⟩<;>rfl
 pyHash:=λhv h=>by
  rcases bx hv with⟨i,t,rfl,rfl⟩|⟨x,t,rfl,rfl⟩
  ·exact wpAny_pyHash_int h
  ·exact wpAny_pyHash_str h
 eqBool:=λhu hv h=>by
  rcases bx hu with⟨i,t,rfl,rfl⟩|⟨x,t,rfl,rfl⟩
  ·rcases bx hv with⟨j,u,rfl,rfl⟩|⟨y,u,rfl,rfl⟩
   ·rw[BL] at h;exact wpAny_eqBool_int h
   ·rw[Bp] at h;exact SeqAt.EqAt.int_str i t y u _ _ _ _ h
  ·rcases bx hv with⟨j,u,rfl,rfl⟩|⟨y,u,rfl,rfl⟩
   ·rw[Bx] at h;exact SeqAt.EqAt.str_int x t j u _ _ _ _ h
   ·rw[BW] at h;exact wpAny_eqBool_str h
 «strs»:=λk x t v h=>by
  rcases bx h with⟨i,u,rfl,e⟩|⟨y,u,rfl,e⟩
  ·exact nomatch e
  ·injection e with e1 _
   subst e1;cases v<;>rfl
theorem qG(prog:Program)(w:World)(k:bv)(v:Value):(bC prog w).is k v=k4 k v:=rfl
theorem oR(prog:Program)(w:World)(i:Int)(t:Tok):(bC prog w).is (.inl i) (.int i t)=true:=uI i t
theorem p8(prog:Program)(w:World)(x:Str)(t:Tok):(bC prog w).is (.inr x) (.str x t)=true:=uO x t
inductive V where
 |non|bl (b:Bool)|int (i:Int)|str (x:Str)|byt (b:Array UInt8)|flt (b:UInt64)|ref (a:Addr)|ty (n:String)
 deriving DecidableEq
def RelV:V->Value->Prop
 | .non,u=>u=Value.none
 | .bl b,u=>u=Value.bool b
 | .int i,u=> ∃t,u=Value.int i t
 | .str x,u=> ∃t,u=Value.str x t
 | .byt b,u=> ∃t,u=Value.bytes b t
 | .flt b,u=> ∃t,u=Value.float b t
 | .ref a,u=>u=Value.ref a
 | .ty n,u=>u=Value.type n
abbrev Vals:List V->List Value->Prop:=Paired RelV
theorem Vals.length {xs:List V}{us:List Value}(r:Vals xs us):xs.length=us.length:=Paired.length r
theorem Vals.get: ∀ {xs:List V} {us:List Value} {i:Nat} {x:V},Vals xs us->xs[i]? =some x-> ∃u,us[i]? =some u/\RelV x u
 |_,_,_,_,.nil,e=>by simp at e
 |_,_,0,_,.cons r _,e=>by simp at e;subst e;exact⟨_,rfl,r⟩
 |_,_,i+1,x,.cons _ t,e=>by
  obtain⟨u,h1,h2⟩:=Vals.get (i:=i) (x:=x) t (by simpa using e)
  exact⟨u,by simpa using h1,h2⟩
theorem Vals.set {x:V}{u:Value}(r:RelV x u): ∀ {xs:List V} {us:List Value} (i:Nat),Vals xs us->Vals (xs.set i x) (us.set i u)
 |_,_,_,.nil=>.nil
 |_,_,0,.cons _ t=>.cons r t
 |_,_,i+1,.cons q t=>.cons q (Vals.set r i t)
theorem Vals.append: ∀ {xs ys:List V} {us ws:List Value},Vals xs us->Vals ys ws->Vals (xs++ys) (us++ws)
 |_,_,_,_,.nil,s=>s
 |_,_,_,_,.cons r t,s=>.cons r (Vals.append t s)
theorem Vals.take: ∀ {xs:List V} {us:List Value} (n:Nat),Vals xs us->Vals (xs.take n) (us.take n)
 |_,_,0,_=>.nil
 |_,_,_+1,.nil=>.nil
 |_,_,n+1,.cons r t=>.cons r (Vals.take n t)
theorem Vals.drop: ∀ {xs:List V} {us:List Value} (n:Nat),Vals xs us->Vals (xs.drop n) (us.drop n)
 |_,_,0,r=>r
 |_,_,_+1,.nil=>.nil
 |_,_,n+1,.cons _ t=>Vals.drop n t
def RelO:Option V->Option Value->Prop
 |some v,some u=>RelV v u
 |none,none=>True
 |_,_=>False
def KV {κ:Type}:List (κ×V)->List (κ×Value)->Prop:=Paired λ(p:κ×V) (q:κ×Value)=>p.1=q.1/\RelV p.2 q.2
def kV:bv->V
 | .inl i=>.int i
 | .inr x=>.str x
inductive HO where
 |lst (xs:List V)
 |tup (xs:List V)
 |dK (kvs:List (bv×V))|dT (kvs:List (List bv×V))
 |set (S:Int->Bool) (n:Nat)
 |tst (xs:List (List Int×Addr))
 |ins (C dx:Addr) (fs:List (Str×V))
 |own (x:Addr)
 |xd (fs:List (Str×V))
 |met (f x:Addr)
 |rng (lo hi:Int)
 |frz (o:Obj) (u:HO)
 |nst (p:Addr) (u:HO)
 |tbl (ps:Array Value)
 |ext (φ:Heap->Prop)
abbrev Hp:=Addr->Option HO
def bz(H:Hp)(a:Addr)(o:HO):Hp:=λb=>if b=a then some o else H b
theorem aL {H:Hp}{a:Addr}{o:HO}:bz H a o a=some o:=by unfold bz;rw[if_pos rfl]
theorem aG {H:Hp}{a b:Addr}{o:HO}(h:b≠a):bz H a o b=H b:=by unfold bz;rw[if_neg h]
theorem CN {H:Hp}{a b:Addr}{o u:HO}(h:H a=some o)(h':H b=some u)(d:o≠u):a≠b:=by
 intro e;subst e;rw[h] at h';exact d (Option.some.inj h')
theorem bd {H:Hp}{a b:Addr}{o:HO}(h:H a=some o)(h':H b=none):a≠b:=by
 intro e;subst e;rw[h] at h';cases h'
section
variable(P:Program)(w:World)
def ObjOk(H:Hp)(h:Heap)(a:Addr):HO->Prop
 | .lst xs=>xs.length<=sizeLine/\ ∃(its:List Value) (n:Nat),Vals xs its/\h.get? a=some {cls:=.type "list",data:=.seq its.toArray n}
 | .tup xs=>xs.length<=sizeLine/\ ∃its:List Value,Vals xs its/\IsTup h a its.toArray/\ ∃o,h.get? a=some o/\o.dict=none
 | .dK kvs=>kvs.length<=sizeLine/\(a==sysModules)=false/\ ∃vs,KV kvs vs/\h.DictOf (bC P w) a vs
 | .dT kvs=>kvs.length<=sizeLine/\(a==sysModules)=false/\ ∃xs:List (List bv×Addr×Value),
    Paired (λ(p:List bv×V) (q:List bv×Addr×Value)=>p.1=q.1/\H q.2.1=some (.tup (p.1.map kV))/\RelV p.2 q.2.2) kvs xs/\
    ∃o es ep,h.get? a=some o/\o.ExactDict/\o.data=.dict es ep/\es.toList=xs.map (entryOfKey (tupleKind (bC P w)))/\(xs.map (·.1)).Nodup
 | .set S n=>h.SetOf (intKind P w) a S n
 | .tst xs=> ∃o es ep t,h.get? a=some o/\SetOk w o es ep t xs
 | .ins C dx fs=>H dx=some (.own a)/\fs.length<=1000/\dx≠a/\h.get? a=some (W.instObj C dx)/\
    ∃mA,h.Ns1 dx mA/\(∀f,RelO (fs.lookup f) (mA f))/\PySem.Within mA (fs.map (·.1))
 | .own _=> ∃o,h.get? a=some o
 | .xd fs=> ∃mA,h.Ns1 a mA/\ ∀f,RelO (fs.lookup f) (mA f)
 | .rng lo hi=> ∃t u v,h.get? a=some {cls:=.type "range",data:=.fields #[.int lo t,.int hi u,.int 1 v]}
 | .frz o u=>h.get? a=some o/\ObjOk H h a u
 | .nst _ u=>ObjOk H h a u
 | .tbl ps=>h.get? a=some {cls:=.none,data:=.fields ps}
 | .met f x=>h.get? a=some (W.methodObj (.ref f) (.ref x))
 | .ext φ=>φ h/\(∃o,h.get? a=some o)/\ ∀h1 h2:Heap,φ h1->(∀o,h1.get? a=some o->h2.get? a=some o)->φ h2
def HOk(H:Hp)(h:Heap):Prop:= ∀a o,H a=some o->ObjOk P w H h a o
end
section
variable {P:Program}{w:World}{H H':Hp}{h h':Heap}{a:Addr}{o:HO}
theorem ObjOk.lt(x:ObjOk P w H h a o):a<h.objs.size:=by
 induction o with
 |lst xs=>obtain⟨_,_,_,_,e⟩:=x;exact Heap.lt_size e
 |tup xs=>obtain⟨_,_,_,p,_⟩:=x;exact p.lt
 |dK kvs=>obtain⟨_,_,_,_,o,_,_,e,_⟩:=x;exact Heap.lt_size e
 |dT kvs=>obtain⟨_,_,_,_,o,_,_,e,_⟩:=x;exact Heap.lt_size e
 |set S n=>obtain⟨o,_,_,_,e,_⟩:=x;exact Heap.lt_size e
 |tst xs=>obtain⟨o,_,_,_,e,_⟩:=x;exact Heap.lt_size e
 |ins C dx fs=>obtain⟨_,_,_,e,_⟩:=x;exact Heap.lt_size e
 |own y=>obtain⟨_,e⟩:=x;exact Heap.lt_size e
 |xd fs=>obtain⟨_,⟨_,_,_,e,_⟩,_⟩:=x;exact Heap.lt_size e
 |rng lo hi=>obtain⟨_,_,_,e⟩:=x;exact Heap.lt_size e
 |frz ob u ih=>obtain⟨e,_⟩:=x;exact Heap.lt_size e
 |nst p u ih=>exact ih x
 |tbl ps=>exact Heap.lt_size (show h.get? a=some _ from x)
 |met f y=>exact Heap.lt_size (show h.get? a=some _ from x)
 |ext φ=>obtain⟨_,⟨_,e⟩,_⟩:=x;exact Heap.lt_size e
theorem Paired.mapP {α β:Type}{F G:α->β->Prop}: ∀ {l₁:List α} {l₂:List β},Paired F l₁ l₂->(∀a b,F a b->G a b)->Paired G l₁ l₂
 |_,_,.nil,_=>.nil
 |_,_,.cons r t,f=>.cons (f _ _ r) (Paired.mapP t f)
theorem ObjOk.stay(x:ObjOk P w H h a o)(k: ∀b u,(b=a\/H b=some (.own a))->h.get? b=some u->h'.get? b=some u)
 (ho: ∀b,H b=some (.own a)->H' b=some (.own a)) (ht: ∀b xs,H b=some (.tup xs)->H' b=some (.tup xs)):ObjOk P w H' h' a o:=by
 induction o with
 |lst xs=>obtain⟨z,its,n,r,e⟩:=x;exact⟨z,its,n,r,k _ _ (.inl rfl) e⟩
 |tup xs=>obtain⟨z,its,r,⟨ob,e,c⟩,ob2,e2,c2⟩:=x;exact⟨z,its,r,⟨ob,k _ _ (.inl rfl) e,c⟩,ob2,k _ _ (.inl rfl) e2,c2⟩
 |dK kvs=>obtain⟨z,y,vs,r,ob,es,ep,e,c⟩:=x;exact⟨z,y,vs,r,ob,es,ep,k _ _ (.inl rfl) e,c⟩
 |dT kvs=>
  obtain⟨z,y,xs,r,ob,es,ep,e,c⟩:=x
  exact⟨z,y,xs,Paired.mapP r λp q z=>⟨z.1,ht _ _ z.2.1,z.2.2⟩,ob,es,ep,k _ _ (.inl rfl) e,c⟩
 |set S n=>obtain⟨ob,es,ep,t,e,c⟩:=x;exact⟨ob,es,ep,t,k _ _ (.inl rfl) e,c⟩
 |tst xs=>obtain⟨ob,es,ep,t,e,c⟩:=x;exact⟨ob,es,ep,t,k _ _ (.inl rfl) e,c⟩
 |ins C dx fs=>
  obtain⟨d,z,ne,e,mA,⟨od,es,ep,e2,c⟩,r⟩:=x
  exact⟨ho _ d,z,ne,k _ _ (.inl rfl) e,mA,⟨od,es,ep,k _ _ (.inr d) e2,c⟩,r⟩
 |own y=>obtain⟨ob,e⟩:=x;exact⟨ob,k _ _ (.inl rfl) e⟩
 |xd fs=>obtain⟨mA,⟨od,es,ep,e,c⟩,r⟩:=x;exact⟨mA,⟨od,es,ep,k _ _ (.inl rfl) e,c⟩,r⟩
 |rng lo hi=>obtain⟨t,u,v,e⟩:=x;exact⟨t,u,v,k _ _ (.inl rfl) e⟩
 |frz ob u ih=>obtain⟨e,q⟩:=x;exact⟨k _ _ (.inl rfl) e,ih q⟩
 |nst p u ih=>exact ih x
 |tbl ps=>
  have e:h.get? a=some {cls:=.none,data:=.fields ps}:=x
  show h'.get? a=some {cls:=.none,data:=.fields ps};exact k a _ (.inl rfl) e
 |met f y=>
  have e:h.get? a=some (W.methodObj (.ref f) (.ref y)):=x
  show h'.get? a=some (W.methodObj (.ref f) (.ref y));exact k a _ (.inl rfl) e
 |ext φ=>obtain⟨p,⟨o,e⟩,st⟩:=x;exact⟨st _ _ p λo q=>k _ _ (.inl rfl) q,⟨o,k _ _ (.inl rfl) e⟩,st⟩
theorem HOk.lt(x:HOk P w H h)(e:H a=some o):a<h.objs.size:=(x a o e).lt
theorem HOk.fresh(x:HOk P w H h)(e:h.objs.size<=a):H a=none:=by
 cases q:H a with
 |none=>rfl
 |some u=>exact absurd (Nat.lt_of_lt_of_le (x.lt q) e) (Nat.lt_irrefl _)
theorem HOk.kept(x:HOk P w H h)(k: ∀b u,h.get? b=some u->h'.get? b=some u):HOk P w H h':=λa o e=>
 (x a o e).stay (λb u _ q=>k b u q) (λ_ q=>q) λ_ _ q=>q
theorem HOk.laid(x:HOk P w H h)(k: ∀b u,h.get? b=some u->h'.get? b=some u)(hp:h.objs.size<=a)(new:ObjOk P w (bz H a o) h' a o):HOk P w (bz H a o) h':=λb u e=>by
 have hn:=x.fresh hp
 by_cases hb:b=a
 ·subst hb;rw[aL] at e;cases e;exact new
 ·rw[aG hb] at e
  exact(x b u e).stay (λc v _ q=>k c v q) (λc q=>by rw[aG (bd q hn)];exact q) λc xs q=>by rw[aG (bd q hn)];exact q
end
def Rd(H:Hp)(a:Addr)(u:HO):Prop:=H a=some u\/ ∃o,H a=some (.frz o u)
theorem Rd.ok {P:Program}{w:World}{H:Hp}{h:Heap}{a:Addr}{u:HO}(r:Rd H a u)(x:HOk P w H h):ObjOk P w H h a u:=by
 rcases r with r|⟨o,r⟩
 ·exact x a u r
 ·obtain⟨_,q⟩:=x a _ r
  exact q
def DQ:Option HO->Prop
 |some (.lst _)=>True
 |some (.dK _)=>True
 |some (.dT _)=>True
 |some (.set _ _)=>True
 |some (.tst _)=>True
 |some (.ins _ _ _)=>True
 |some (.ext _)=>True
 |some (.nst _ _)=>True
 |_=>False
section
variable {P:Program}{w:World}{H:Hp}{h h':Heap}{x e:Addr}{o':HO}
theorem HOk.write(ok:HOk P w H h)(mu:DQ (H x))(he:e=x\/H e=some (.own x))(k: ∀b u,b≠e->h.get? b=some u->h'.get? b=some u)(heo: ∃u,h'.get? e=some u)
 (new:ObjOk P w (bz H x o') h' x o'):HOk P w (bz H x o') h':=λb u q=>by
 have nown: ∀c y,H c=some (.own y)->c≠x:=λc y r z=>by subst z;rw[r] at mu;exact mu
 have ntup: ∀c xs,H c=some (.tup xs)->c≠x:=λc xs r z=>by subst z;rw[r] at mu;exact mu
 by_cases hb:b=x
 ·subst hb;rw[aL] at q;cases q;exact new
 ·rw[aG hb] at q
  by_cases hbe:b=e
  ·have q':H b=some (.own x):=by
    rcases he with z|z
    ·exact absurd (hbe.trans z) hb
    ·rw[hbe];exact z
   rw[q] at q';cases q';obtain⟨v,hv⟩:=heo
   exact⟨v,by rw[hbe];exact hv⟩
  ·refine(ok b u q).stay (λc v hc r=>k c v ?_ r) (λc r=>by rw[aG (nown c b r)];exact r) λc xs r=>by rw[aG (ntup c xs r)];exact r
   rcases hc with rfl|hc
   ·exact hbe
   ·rintro rfl
    rcases he with z|z
    ·exact nown c b hc z
    ·rw[hc] at z;cases z;exact hb rfl
end
structure Un(fs ex:List Addr)(H H':Hp)(h h':Heap):Prop where
 keep: ∀b o,h.get? b=some o->H b=none->b∉fs->b∉ex->h'.get? b=some o
 slot: ∀b o,h.get? b=some o->H b=none->b∈fs->b∉ex-> ∃sl,h'.get? b=some {o with slots:=sl}
 free: ∀b o,h.get? b=some o->H b=none->b∉ex->H' b=none
 there: ∀b o,h.get? b=some o->b∉ex-> ∃o',h'.get? b=some o'
 tups: ∀b xs,H b=some (.tup xs)->H' b=some (.tup xs)
 frzs: ∀b o u,H b=some (.frz o u)->H' b=some (.frz o u)
 tbls: ∀b ps,H b=some (.tbl ps)-> ∃more,H' b=some (.tbl (ps++more))
section
variable {fs fs' ex ex':List Addr}{H H1 H2:Hp}{h h1 h2 h':Heap}{a x e:Addr}{o:HO}
theorem Un.any(u:Un fs ex H H1 h h1){b:Addr}{ob:Obj}(q:h.get? b=some ob)(n:H b=none)(hx:b∉ex): ∃sl,h1.get? b=some {ob with slots:=sl}:=by
 by_cases hb:b∈fs
 ·exact u.slot b ob q n hb hx
 ·exact⟨ob.slots,u.keep b ob q n hb hx⟩
theorem Un.trans(a:Un fs ex H H1 h h1)(b:Un fs ex H1 H2 h1 h2):Un fs ex H H2 h h2 where
 keep:=λc ob q n hc hx=>b.keep c ob (a.keep c ob q n hc hx) (a.free c ob q n hx) hc hx
 slot:=λc ob q n hc hx=>by
  obtain⟨sl,e1⟩:=a.slot c ob q n hc hx
  obtain⟨sl',e2⟩:=b.slot c _ e1 (a.free c ob q n hx) hc hx
  exact⟨sl',e2⟩
 free:=λc ob q n hx=>by
  obtain⟨o',e1⟩:=a.there c ob q hx
  exact b.free c o' e1 (a.free c ob q n hx) hx
 there:=λc ob q hx=>by
  obtain⟨o',e1⟩:=a.there c ob q hx
  exact b.there c o' e1 hx
 tups:=λc xs q=>b.tups c xs (a.tups c xs q)
 frzs:=λc ob xs q=>b.frzs c ob xs (a.frzs c ob xs q)
 tbls:=λc ps q=>by
  obtain⟨m1,e1⟩:=a.tbls c ps q
  obtain⟨m2,e2⟩:=b.tbls c _ e1
  exact⟨m1++m2,by rw[e2,Array.append_assoc]⟩
theorem Un.kept(k: ∀b u,h.get? b=some u->h'.get? b=some u):Un fs ex H H h h':=
 ⟨λb ob q _ _ _=>k b ob q,λb ob q _ _ _=>⟨ob.slots,k b ob q⟩,λ_ _ _ n _=>n,λb ob q _=>⟨ob,k b ob q⟩,λ_ _ q=>q,λ_ _ _ q=>q,λ_ ps q=>⟨#[],by rw[q];simp⟩⟩
theorem Un.refl:Un fs ex H H h h:=Un.kept λ_ _ q=>q
theorem Un.laid(k: ∀b u,h.get? b=some u->h'.get? b=some u)(hp:h.objs.size<=a)(hn:H a=none):Un fs ex H (bz H a o) h h' where
 keep:=λb u q _ _ _=>k b u q
 slot:=λb u q _ _ _=>⟨u.slots,k b u q⟩
 free:=λb u q n _=>by rw[aG (Nat.ne_of_lt (Nat.lt_of_lt_of_le (Heap.lt_size q) hp))];exact n
 there:=λb u q _=>⟨u,k b u q⟩
 tups:=λb xs q=>by rw[aG (bd q hn)];exact q
 frzs:=λb u xs q=>by rw[aG (bd q hn)];exact q
 tbls:=λb ps q=>⟨#[],by rw[aG (bd q hn),q];simp⟩
theorem Un.write(mu:DQ (H x))(he:e=x\/H e=some (.own x))(k: ∀b u,b≠e->h.get? b=some u->h'.get? b=some u)(heo: ∃u,h'.get? e=some u):Un fs ex H (bz H x o) h h':=by
 have hx: ∀b,H b=none->b≠x:=λb n z=>by subst z;rw[n] at mu;exact mu
 have hb: ∀b,H b=none->b≠e:=λb n z=>by
  subst z;rcases he with r|r
  ·exact hx b n r
  ·rw[n] at r;cases r
 have hm: ∀b u,H b=some u-> ¬DQ (some u)->b≠x:=λb u q nm z=>by subst z;rw[q] at mu;exact nm mu
 refine⟨λb u q n _ _=>k b u (hb b n) q,λb u q n _ _=>⟨u.slots,k b u (hb b n) q⟩,λb u q n _=>by rw[aG (hx b n)];exact n,λb u q _=>?_,
  λb xs q=>by rw[aG (hm b _ q λz=>z)];exact q,λb u xs q=>by rw[aG (hm b _ q λz=>z)];exact q,λb ps q=>⟨#[],by rw[aG (hm b _ q λz=>z),q];simp⟩⟩
 by_cases hbe:b=e
 ·subst hbe;exact heo
 ·exact⟨u,k b u hbe q⟩
end
def trk(h:Heap)(H:Hp):List Addr:=(List.range h.objs.size).filter λa=>(H a).isSome
def oG(h:Heap)(H:Hp):Heap:=W.hideAll h (trk h H)
theorem up(h:Heap)(H:Hp):(oG h H).objs.size=h.objs.size:=W.hideAll_size _ _
theorem x8 {h:Heap}{H:Hp}{b:Addr}{o:Obj}(e:h.get? b=some o)(n:H b=none):(oG h H).get? b=some o:=
 W.hideAll_get _ e λhm=>by
  have q:(H b).isSome=true:=(List.mem_filter.mp hm).2
  rw[n] at q;simp at q
theorem zP {h:Heap}{H:Hp}{b:Addr}{o:Obj}(e:(oG h H).get? b=some o):h.get? b=some o/\H b=none:=by
 have e':h.get? b=some o:=W.of_hideAll (trk h H) e
 refine⟨e',?_⟩
 cases q:H b with
 |none=>rfl
 |some x=>
  have hm:b∈trk h H:=List.mem_filter.mpr ⟨List.mem_range.mpr (Heap.lt_size e'),by simp[q]⟩
  have z:(oG h H).get? b=none:=W.hideAll_none (trk h H) hm
  rw[z] at e;cases e
structure Mod(K:W.Frag)(mg:Str->Option Value)(base:Heap):Prop where
 kin:K.In base
 glob:base.Ns mainGlobals mg
 blt: ∃mb,base.Ns builtinsNs mb/\ ∀x:Str,x≠"__name__"->mb x=bootBuiltins x
 nolimit:base.NoLimit
structure Cx where
 prog:Program
 w:World
 K:W.Frag
 mg:Str->Option Value
 base:Heap
 A:Around
 N:List Str
 s₀:Shared
 H₀:Hp
 env:Env
 outer:List Env
 stack:List Env
 ex:List Addr
 fn:Str->Bool
 calm:Bool
 pn:List (Addr×Obj)
 xe:Value->Shared->Prop
def frs(l:List Env):List Addr:=l.filterMap (·.frame)
abbrev Cx.fs(X:Cx):List Addr:=frs X.outer
def oN(sc:Scope)(x:Str):Prop:=sc.names.lookup x=some .local\/sc.names.lookup x=some .cell\/sc.names.lookup x=some .free
def uY(sc:Scope)(x:Str):Prop:=sc.names.lookup x=some .local\/sc.names.lookup x=some .cell
def Ej(env:Env)(h:Heap)(m:Str->Option Value)(x:Str)(u:Value):Prop:=
 (env.kindOf x=some .local/\m x=some u)\/((env.kindOf x=some .cell\/env.kindOf x=some .free)/\ ∃c,env.cells.lookup x=some c/\h.IsCell c (some u))
structure Cx.Ok(X:Cx):Prop where
 mod:Mod X.K X.mg X.base
 kind:X.env.scope.kind=.function
 glob:X.env.globals=mainGlobals
 blt:X.env.builtins=builtinsNs
 above:X.s₀.heap.objs.size<=X.env.locals
 inj: ∀x y c,X.env.cells.lookup x=some c->X.env.cells.lookup y=some c->x=y
 has: ∀x,(X.env.kindOf x=some .cell\/X.env.kindOf x=some .free)-> ∃c,X.env.cells.lookup x=some c
 cab: ∀x c,X.fn x=true->X.env.cells.lookup x=some c->X.s₀.heap.objs.size<=c
 hd:X.calm=true->X.A.handled=none
 frames:X.A.frames=some X.stack
 stk:X.stack=X.outer\/(X.stack=X.env::X.outer/\X.env.frame=some X.env.locals)
 exf: ∀b∈X.ex,b≠X.env.locals/\ ∀x c,X.env.cells.lookup x=some c->c≠b
 bs: ∀b o,X.base.get? b=some o->X.s₀.heap.get? b=some o/\X.H₀ b=none
 bsz:X.base.objs.size<=X.s₀.heap.objs.size
 noex: ∀b o,X.base.get? b=some o->b∉X.ex
 exfs: ∀b∈X.ex,b∉X.fs
 funs:X.s₀.heap.FunFrames X.base X.outer
 frf: ∀b∈X.fs,X.H₀ b=none
structure Inv(X:Cx)(ae:List (Addr×Obj))(σ:List (Option V))(H:Hp)(s:Shared):Prop where
 ok:X.Ok
 os:s.os=X.s₀.os
 bare:AllBare s.gens
 base:Un X.fs X.ex X.H₀ H X.s₀.heap s.heap
 loc: ∃m,s.heap.Ns X.env.locals m/\ ∀(i:Nat) (x:Str) (v:V),X.N[i]? =some x->σ[i]? =some (some v)->oN X.env.scope x-> ∃u,RelV v u/\Ej X.env s.heap m x u
 cell: ∀x c,X.env.cells.lookup x=some c-> ∃v,s.heap.IsCell c v
 free:H X.env.locals=none
 freeC: ∀x c,X.env.cells.lookup x=some c->H c=none
 pin: ∀p∈X.pn++ae,s.heap.get? p.1=some p.2/\H p.1=none/\p.1≠X.env.locals/\p.1∉X.fs/\ ∀v,p.2.data≠ .cell v
 hok:HOk X.prog X.w H s.heap
 len:σ.length=X.N.length
section
variable {X:Cx}{ae:List (Addr×Obj)}{σ:List (Option V)}{H H':Hp}{s:Shared}{h':Heap}
theorem Cx.Ok.nofr(ok:X.Ok){b:Addr}{o:Obj}(e:X.base.get? b=some o):b∉X.fs:=λhb=>by
 have:=(ok.funs.mem hb).1
 rw[e] at this;cases this
theorem Inv.bs(I:Inv X ae σ H s): ∀b o,X.base.get? b=some o->s.heap.get? b=some o/\H b=none:=λb o e=>
 ⟨I.base.keep b o (I.ok.bs b o e).1 (I.ok.bs b o e).2 (I.ok.nofr e) (I.ok.noex b o e),I.base.free b o (I.ok.bs b o e).1 (I.ok.bs b o e).2 (I.ok.noex b o e)⟩
theorem Inv.bk(I:Inv X ae σ H s): ∀b o,X.base.get? b=some o->s.heap.get? b=some o:=λb o e=>(I.bs b o e).1
theorem Inv.mod(I:Inv X ae σ H s):Mod X.K X.mg X.base:=I.ok.mod
theorem Inv.kIn(I:Inv X ae σ H s):X.K.In s.heap:=I.ok.mod.kin.keeps I.bk
theorem Inv.fr(I:Inv X ae σ H s): ∃m,Fr X.base X.env.locals s.heap m:=
 let⟨m,hn,_⟩:=I.loc
 ⟨m,hn,I.bk,Nat.le_trans I.ok.bsz I.ok.above⟩
theorem Inv.lt(I:Inv X ae σ H s):X.env.locals<s.heap.objs.size:=let⟨_,hn,_⟩:=I.loc;hn.lt
theorem Inv.sz(I:Inv X ae σ H s):X.s₀.heap.objs.size<=s.heap.objs.size:=Nat.le_trans I.ok.above (Nat.le_of_lt I.lt)
theorem Inv.nofs(I:Inv X ae σ H s){a:Addr}(h:s.heap.objs.size<=a):a∉X.fs:=λhb=>by
 obtain⟨_,o,ho,_⟩:=I.ok.funs.mem hb
 exact absurd (Nat.lt_of_lt_of_le (Heap.lt_size ho) (Nat.le_trans I.sz h)) (Nat.lt_irrefl _)
theorem Inv.cne(I:Inv X ae σ H s): ∀x c,X.env.cells.lookup x=some c->c≠X.env.locals:=λx c e z=>by
 obtain⟨v,o,ho,hd⟩:=I.cell x c e
 obtain⟨m,⟨o',es,ep,ho',hd',_⟩,_⟩:=I.loc
 rw[z,ho'] at ho;cases ho;rw[hd'] at hd;cases hd
theorem Inv.funs(I:Inv X ae σ H s):s.heap.FunFrames X.base X.outer:=by
 have all: ∀(l:List Env),(∀b∈frs l,b∈X.fs)->X.s₀.heap.FunFrames X.base l->s.heap.FunFrames X.base l:=by
  intro l
  induction l with
  |nil=>intro _ _;trivial
  |cons env r ih=>
   intro hs hl;obtain⟨hk,⟨L,o,hf,hn,ho,hd⟩,hr⟩:=hl
   have hL:L∈X.fs:=hs L (by unfold frs;rw[List.filterMap_cons,hf];exact List.mem_cons_self)
   obtain⟨sl,e⟩:=I.base.slot L o ho (I.ok.frf L hL) hL λz=>I.ok.exfs L z hL
   exact⟨hk,⟨L,_,hf,hn,e,hd⟩,ih (λb hb=>hs b (by unfold frs;rw[List.filterMap_cons,hf];exact List.mem_cons_of_mem _ hb)) hr⟩
 exact all X.outer (λ_ hb=>hb) I.ok.funs
theorem Inv.stack(I:Inv X ae σ H s):s.heap.FunFrames X.base X.stack:=by
 rcases I.ok.stk with e|⟨e,hf⟩
 ·rw[e];exact I.funs
 ·rw[e]
  obtain⟨m,hn,_⟩:=I.loc
  refine .cons (by rw[I.ok.kind];decide) hf hn ?_ I.funs
  exact Heap.get?_none_of_le (Nat.le_trans I.ok.bsz I.ok.above)
theorem Inv.stkSub(I:Inv X ae σ H s): ∀b∈frs X.stack,b∈X.env.locals::X.fs:=λb hb=>by
 rcases I.ok.stk with e|⟨e,hf⟩
 ·rw[e] at hb;exact List.mem_cons_of_mem _ hb
 ·rw[e] at hb
  unfold frs at hb;rw[List.filterMap_cons,hf] at hb;exact hb
theorem Inv.stkFree(I:Inv X ae σ H s): ∀b∈frs X.stack,H b=none:=λb hb=>by
 rcases List.mem_cons.mp (I.stkSub b hb) with e|hb
 ·rw[e];exact I.free
 ·obtain⟨_,o,ho,_⟩:=I.ok.funs.mem hb
  exact I.base.free b o ho (I.ok.frf b hb) λz=>I.ok.exfs b z hb
theorem Inv.step {g':Array GenState}{t':Nat}{d':Drawn}{ch:List Addr}(I:Inv X ae σ H s)
 (hch: ∀b∈ch,(b∈X.ex\/X.s₀.heap.objs.size<=b)/\b≠X.env.locals/\(∀x c,X.env.cells.lookup x=some c->c≠b)/\ ∀p∈X.pn++ae,p.1≠b)
 (keep: ∀b o,b≠X.env.locals->b∉X.fs->b∉ch->s.heap.get? b=some o->H b=none->h'.get? b=some o)
 (slot: ∀b o,b≠X.env.locals->b∈X.fs->b∉ch->s.heap.get? b=some o->H b=none-> ∃sl,h'.get? b=some {o with slots:=sl}) (free: ∀b o,b∉ch->s.heap.get? b=some o->H b=none->H' b=none)
 (there: ∀b o,b∉ch->s.heap.get? b=some o-> ∃o',h'.get? b=some o')
 (tups: ∀b xs,H b=some (.tup xs)->H' b=some (.tup xs)) (frzs: ∀b o u,H b=some (.frz o u)->H' b=some (.frz o u)) (tbls: ∀b ps,H b=some (.tbl ps)-> ∃more,H' b=some (.tbl (ps++more)))
 (ns: ∀m,s.heap.Ns X.env.locals m->h'.Ns X.env.locals m) (hok:HOk X.prog X.w H' h') (hg:AllBare g'):
 Inv X ae σ H' {s with heap:=h',gens:=g',drawn:=d',toks:=t'}:=by
 have neL: ∀b o,X.s₀.heap.get? b=some o->b≠X.env.locals:=λb o e=>Nat.ne_of_lt (Nat.lt_of_lt_of_le (Heap.lt_size e) I.ok.above)
 have neC: ∀b o,X.s₀.heap.get? b=some o->b∉X.ex->b∉ch:=λb o e hx hb=>by
  rcases(hch b hb).1 with z|z
  ·exact hx z
  ·exact absurd (Nat.lt_of_lt_of_le (Heap.lt_size e) z) (Nat.lt_irrefl _)
 have cellK: ∀x c,X.env.cells.lookup x=some c-> ∀v,s.heap.IsCell c v->h'.IsCell c v:=λx c e v hq_=>by
  obtain⟨o,ho,hd⟩:=hq_
  have nch:c∉ch:=λz=>(hch c z).2.2.1 x c e rfl
  by_cases hc:c∈X.fs
  ·obtain⟨sl,q⟩:=slot c o (I.cne x c e) hc nch ho (I.freeC x c e)
   exact⟨_,q,hd⟩
  ·exact⟨o,keep c o (I.cne x c e) hc nch ho (I.freeC x c e),hd⟩
 refine⟨I.ok,I.os,hg,⟨λb o e n hb hx=>?_,λb o e n hb hx=>?_,λb o e n hx=>?_,λb o e hx=>?_,λb xs e=>tups b xs (I.base.tups b xs e),λb o xs e=>frzs b o xs (I.base.frzs b o xs e),λb ps e=>?_⟩,?_,λx c e=>?_,?_,λx c e=>?_,λp hp=>?_,hok,I.len⟩
 ·exact keep b o (neL b o e) hb (neC b o e hx) (I.base.keep b o e n hb hx) (I.base.free b o e n hx)
 ·obtain⟨sl,e1⟩:=I.base.slot b o e n hb hx
  obtain⟨sl',e2⟩:=slot b _ (neL b o e) hb (neC b o e hx) e1 (I.base.free b o e n hx)
  exact⟨sl',e2⟩
 ·obtain⟨o',e1⟩:=I.base.there b o e hx
  exact free b o' (neC b o e hx) e1 (I.base.free b o e n hx)
 ·obtain⟨o',e1⟩:=I.base.there b o e hx
  exact there b o' (neC b o e hx) e1
 ·obtain⟨m1,e1⟩:=I.base.tbls b ps e
  obtain⟨m2,e2⟩:=tbls b _ e1
  exact⟨m1++m2,by rw[e2,Array.append_assoc]⟩
 ·obtain⟨m,hn,hl⟩:=I.loc
  refine⟨m,ns m hn,λi x v e1 e2 e3=>?_⟩
  obtain⟨u,r,l⟩:=hl i x v e1 e2 e3
  refine⟨u,r,?_⟩
  rcases l with l|⟨k,c,e,z⟩
  ·exact .inl l
  ·exact .inr ⟨k,c,e,cellK x c e _ z⟩
 ·obtain⟨v,z⟩:=I.cell x c e
  exact⟨v,cellK x c e v z⟩
 ·obtain⟨m,⟨o,_,_,ho,_⟩,_⟩:=I.loc
  exact free _ o (λz=>(hch _ z).2.1 rfl) ho I.free
 ·obtain⟨v,o,ho,hd⟩:=I.cell x c e
  exact free c o (λz=>(hch c z).2.2.1 x c e rfl) ho (I.freeC x c e)
 ·obtain⟨e,n,ne,nf,d⟩:=I.pin p hp
  have nch:p.1∉ch:=λz=>(hch p.1 z).2.2.2 p hp rfl
  exact⟨keep p.1 p.2 ne nf nch e n,free p.1 p.2 nch e n,ne,nf,d⟩
theorem Inv.un {t':Nat}(I:Inv X ae σ H s)(u:Un X.fs [] H H' s.heap h')(hok:HOk X.prog X.w H' h'):Inv X ae σ H' {s with heap:=h',toks:=t'}:=by
 obtain⟨m,⟨o,es,ep,ho,r⟩,_⟩:=id I.loc
 obtain⟨sl,hL⟩:=u.any ho I.free (by simp)
 exact I.step (g':=s.gens) (d':=s.drawn) (ch:=[]) (λ_ z=>nomatch z) (λb o _ hb _ e n=>u.keep b o e n hb (by simp)) (λb o _ hb _ e n=>u.slot b o e n hb (by simp)) (λb o _ e n=>u.free b o e n (by simp)) (λb o _ e=>u.there b o e (by simp)) u.tups u.frzs u.tbls (λm' hm=>by
  obtain⟨o',es',ep',ho',r'⟩:=hm
  rw[ho] at ho';cases ho';exact⟨_,es',ep',hL,r'⟩) hok I.bare
theorem Inv.call {g':Array GenState}{t':Nat}{d':Drawn}{ch:List Addr}(I:Inv X ae σ H s)(u:Un (frs X.stack) ch H H' s.heap h')(hok:HOk X.prog X.w H' h')(hg:AllBare g')
 (hch: ∀b∈ch,(b∈X.ex\/X.s₀.heap.objs.size<=b)/\b≠X.env.locals/\(∀x c,X.env.cells.lookup x=some c->c≠b)/\ ∀p∈X.pn++ae,p.1≠b):
 Inv X ae σ H' {s with heap:=h',gens:=g',drawn:=d',toks:=t'}:=by
 obtain⟨m,⟨o,es,ep,ho,r⟩,_⟩:=id I.loc
 obtain⟨sl,hL⟩:=u.any ho I.free λz=>(hch _ z).2.1 rfl
 exact I.step (ch:=ch) hch (λb o hL hb hc e n=>u.keep b o e n (λz=>(List.mem_cons.mp (I.stkSub b z)).elim hL hb) hc) (λb o _ _ hc e n=>u.any e n hc) (λb o hc e n=>u.free b o e n hc) (λb o hc e=>u.there b o e hc) u.tups u.frzs u.tbls (λm' hm=>by
  obtain⟨o',es',ep',ho',r'⟩:=hm
  rw[ho] at ho';cases ho';exact⟨_,es',ep',hL,r'⟩) hok hg
theorem Inv.turned {t':Nat}{it:Addr}(I:Inv X ae σ H s)(k: ∀b o,b≠it->s.heap.get? b=some o->h'.get? b=some o)(hn:H it=none)(hL:it≠X.env.locals)
 (h1:it∈X.ex\/X.s₀.heap.objs.size<=it) (h2: ∀x c,X.env.cells.lookup x=some c->c≠it) (h3: ∀p∈X.pn++ae,p.1≠it):Inv X ae σ H {s with heap:=h',toks:=t'}:=by
 have nit: ∀b u,H b=some u->b≠it:=λb u e z=>by rw[z,hn] at e;cases e
 refine I.step (g':=s.gens) (d':=s.drawn) (ch:=[it]) (λb hb=>?_) (λb o _ _ hc e _=>k b o (λz=>hc (by simp[z])) e) (λb o _ _ hc e _=>⟨o.slots,k b o (λz=>hc (by simp[z])) e⟩) (λ_ _ _ _ n=>n)
  (λb o hc e=>⟨o,k b o (λz=>hc (by simp[z])) e⟩) (λ_ _ e=>e) (λ_ _ _ e=>e) (λb ps e=>⟨#[],by rw[e];simp⟩) (λm hm=>?_) (λb u e=>?_) I.bare
 ·have e:b=it:=by simpa using hb
  subst e;exact⟨h1,hL,h2,h3⟩
 ·obtain⟨o,es,ep,ho,r⟩:=hm
  exact⟨o,es,ep,k _ o (Ne.symm hL) ho,r⟩
 ·refine(I.hok b u e).stay (λc v hc q=>k c v ?_ q) (λ_ q=>q) λ_ _ q=>q
  rcases hc with z|z
  ·rw[z];exact nit b u e
  ·exact nit c _ z
theorem Inv.tok(I:Inv X ae σ H s)(t:Nat):Inv X ae σ H {s with toks:=t}:=I.un (h':=s.heap) (t':=t) Un.refl I.hok
theorem Inv.kept {t':Nat}(I:Inv X ae σ H s)(k: ∀b u,s.heap.get? b=some u->h'.get? b=some u):Inv X ae σ H {s with heap:=h',toks:=t'}:=I.un (Un.kept k) (I.hok.kept k)
theorem Inv.laid {a:Addr}{o:HO}{t':Nat}(I:Inv X ae σ H s)(k: ∀b u,s.heap.get? b=some u->h'.get? b=some u)(hp:s.heap.objs.size<=a)(new:ObjOk X.prog X.w (bz H a o) h' a o):
 Inv X ae σ (bz H a o) {s with heap:=h',toks:=t'}:=I.un (Un.laid k hp (I.hok.fresh hp)) (I.hok.laid k hp new)
theorem Inv.write {x e:Addr}{o:HO}{t':Nat}(I:Inv X ae σ H s)(mu:DQ (H x))(he:e=x\/H e=some (.own x))(k: ∀b u,b≠e->s.heap.get? b=some u->h'.get? b=some u)(heo: ∃u,h'.get? e=some u)
 (new:ObjOk X.prog X.w (bz H x o) h' x o):Inv X ae σ (bz H x o) {s with heap:=h',toks:=t'}:=I.un (Un.write mu he k heo) (I.hok.write mu he k heo new)
theorem Inv.pins_of {pins':List (Addr×Obj)}(I:Inv X ae σ H s)(h: ∀p∈pins',s.heap.get? p.1=some p.2/\H p.1=none/\p.1≠X.env.locals/\p.1∉X.fs/\ ∀v,p.2.data≠ .cell v):Inv X pins' σ H s:=
 ⟨I.ok,I.os,I.bare,I.base,I.loc,I.cell,I.free,I.freeC,λp hp=>(List.mem_append.mp hp).elim (λz=>I.pin p (List.mem_append_left _ z)) (h p),I.hok,I.len⟩
theorem pd {N:List Str}(hN:N.Nodup){i j:Nat}{x:Str}(a:N[i]? =some x)(b:N[j]? =some x):i=j:=by
 obtain⟨h1,e1⟩:=List.getElem?_eq_some_iff.mp a
 obtain⟨h2,e2⟩:=List.getElem?_eq_some_iff.mp b
 exact(List.getElem_inj hN).mp (e1.trans e2.symm)
theorem jC {M:Model}{A:Around}{E:Value->Shared->Prop}{i:Nat}{x:Str}{v:V}{u:Value}{Q:Unit->Shared->Prop}(I:Inv X ae σ H s)(hN:X.N.Nodup)(hi:X.N[i]? =some x)(hx:uY X.env.scope x)(r:RelV v u)
 (h: ∀s',Inv X ae (σ.set i (some v)) H s'->(∃a,Heap.SameBut a s.heap s'.heap/\(a=X.env.locals\/X.env.cells.lookup x=some a))->Q () s') (hf:X.fn x=true\/X.env.scope.names.lookup x=some .local:=by first|exact .inl rfl|exact .inr rfl|assumption):wpAny M A (storeName X.env x u) Q E s:=by
 obtain⟨m,hn,hl⟩:=id I.loc
 have hcls:(X.env.scope.kind== .class||(X.env.scope.kind== .module&&X.env.locals !=X.env.globals))=false:=by rw[I.ok.kind];rfl
 have hiσ:i<σ.length:=by rw[I.len];exact(List.getElem?_eq_some_iff.mp hi).1
 have cne:=I.cne
 have tracked: ∀ {a:Addr} {h':Heap},(∃o,s.heap.get? a=some o/\H a=none)->Heap.SameBut a s.heap h'->HOk X.prog X.w H h':=λ{a h'} ha hs b ob e=>by
  obtain⟨_,_,hfree⟩:=ha
  refine(I.hok b ob e).stay (λc w' hc q=>(hs.2 c ?_).trans q) (λ_ q=>q) λ_ _ q=>q
  rintro rfl
  rcases hc with rfl|hc
  ·rw[hfree] at e;cases e
  ·rw[hfree] at hc;cases hc
 rcases hx with hk|hk
 ·refine wpAny_storeName_local hk hn (λh' hn' hs=>?_) hcls
  obtain⟨oL,_,_,hoL,_⟩:=id hn
  refine h _ ⟨I.ok,I.os,I.bare,⟨λb o e n hb hx=>?_,λb o e n hb hx=>?_,I.base.free,λb o e hx=>?_,I.base.tups,I.base.frzs,I.base.tbls⟩,⟨_,hn',λj y v' e1 e2 e3=>?_⟩,λy c e=>?_,I.free,I.freeC,λp hp=>?_,tracked ⟨oL,hoL,I.free⟩ hs,by simpa using I.len⟩ ⟨_,hs,.inl rfl⟩
  ·exact(hs.2 b (Nat.ne_of_lt (Nat.lt_of_lt_of_le (Heap.lt_size e) I.ok.above))).trans (I.base.keep b o e n hb hx)
  ·obtain⟨sl,e1⟩:=I.base.slot b o e n hb hx
   exact⟨sl,(hs.2 b (Nat.ne_of_lt (Nat.lt_of_lt_of_le (Heap.lt_size e) I.ok.above))).trans e1⟩
  ·obtain⟨o',e1⟩:=I.base.there b o e hx
   exact⟨o',(hs.2 b (Nat.ne_of_lt (Nat.lt_of_lt_of_le (Heap.lt_size e) I.ok.above))).trans e1⟩
  ·by_cases hj:j=i
   ·subst hj
    rw[hi] at e1;cases e1;rw[List.getElem?_set_self hiσ] at e2;cases e2
    exact⟨u,r,.inl ⟨hk,by simp⟩⟩
   ·rw[List.getElem?_set_ne (Ne.symm hj)] at e2
    obtain⟨u',r',q⟩:=hl j y v' e1 e2 e3
    refine⟨u',r',?_⟩
    rcases q with⟨k,e⟩|⟨k,c,e,z⟩
    ·refine .inl ⟨k,?_⟩
     have:y≠x:=λe=>hj (pd hN e1 (e▸hi))
     simp[this,e]
    ·exact .inr ⟨k,c,e,z.sameBut hs (cne y c e)⟩
  ·obtain⟨w',z⟩:=I.cell y c e
   exact⟨w',z.sameBut hs (cne y c e)⟩
  ·obtain⟨e,n,ne,nf,d⟩:=I.pin p hp
   exact⟨(hs.2 p.1 ne).trans e,n,ne,nf,d⟩
 ·have hfn:X.fn x=true:=by
   rcases hf with z|z
   ·exact z
   ·rw[z] at hk;cases hk
  obtain⟨c,hc⟩:=I.ok.has x (.inl hk)
  obtain⟨w',z⟩:=I.cell x c hc
  refine wpAny_storeName_cell I.ok.kind hk hc z (λh' hc' hs=>?_)
  obtain⟨oc,hoc,hocd⟩:=id z
  refine h {s with heap:=h'} ⟨I.ok,I.os,I.bare,⟨λb o e n hb hx=>?_,λb o e n hb hx=>?_,I.base.free,λb o e hx=>?_,I.base.tups,I.base.frzs,I.base.tbls⟩,⟨m,hn.sameBut hs (Ne.symm (cne x c hc)),λj y v' e1 e2 e3=>?_⟩,λy c' e=>?_,I.free,I.freeC,λp hp=>?_,tracked ⟨oc,hoc,I.freeC x c hc⟩ hs,by simpa using I.len⟩ ⟨c,hs,.inr hc⟩
  ·exact(hs.2 b (Nat.ne_of_lt (Nat.lt_of_lt_of_le (Heap.lt_size e) (I.ok.cab x c hfn hc)))).trans (I.base.keep b o e n hb hx)
  ·obtain⟨sl,e1⟩:=I.base.slot b o e n hb hx
   exact⟨sl,(hs.2 b (Nat.ne_of_lt (Nat.lt_of_lt_of_le (Heap.lt_size e) (I.ok.cab x c hfn hc)))).trans e1⟩
  ·obtain⟨o',e1⟩:=I.base.there b o e hx
   exact⟨o',(hs.2 b (Nat.ne_of_lt (Nat.lt_of_lt_of_le (Heap.lt_size e) (I.ok.cab x c hfn hc)))).trans e1⟩
  ·by_cases hj:j=i
   ·subst hj
    rw[hi] at e1;cases e1;rw[List.getElem?_set_self hiσ] at e2;cases e2
    exact⟨u,r,.inr ⟨.inl hk,c,hc,hc'⟩⟩
   ·rw[List.getElem?_set_ne (Ne.symm hj)] at e2
    obtain⟨u',r',q⟩:=hl j y v' e1 e2 e3
    refine⟨u',r',?_⟩
    rcases q with q|⟨k,c',e,z'⟩
    ·exact .inl q
    ·refine .inr ⟨k,c',e,z'.sameBut hs ?_⟩
     rintro rfl
     exact hj (pd hN e1 (I.ok.inj _ _ _ e hc▸hi))
  ·by_cases hcc:c'=c
   ·subst hcc;exact⟨_,hc'⟩
   ·obtain⟨w2,z2⟩:=I.cell y c' e
    exact⟨w2,z2.sameBut hs hcc⟩
  ·obtain⟨e,n,ne,nf,d⟩:=I.pin p hp
   refine⟨(hs.2 p.1 ?_).trans e,n,ne,nf,d⟩
   intro q;rw[q,hoc] at e;have q':oc=p.2:=Option.some.inj e
   exact d w' (by rw[<-q'];exact hocd)
theorem iX {M:Model}{A:Around}{E:Value->Shared->Prop}{i:Nat}{x:Str}{v:V}{u:Value}{Q:Unit->Shared->Prop}(I:Inv X ae σ H s)(hN:X.N.Nodup)(hi:X.N[i]? =some x)(hx:uY X.env.scope x)(r:RelV v u)
 (h: ∀s',Inv X ae (σ.set i (some v)) H s'->Q () s') (hf:X.fn x=true\/X.env.scope.names.lookup x=some .local:=by first|exact .inl rfl|exact .inr rfl|assumption):wpAny M A (storeName X.env x u) Q E s:=
 jC I hN hi hx r (λs' I' _=>h s' I') hf
theorem Inv.call' {s':Shared}{ch:List Addr}(I:Inv X ae σ H s)(ho:s'.os=s.os)(u:Un (frs X.stack) ch H H' s.heap s'.heap)(hok:HOk X.prog X.w H' s'.heap)(hg:AllBare s'.gens)
 (hch: ∀b∈ch,(b∈X.ex\/X.s₀.heap.objs.size<=b)/\b≠X.env.locals/\(∀x c,X.env.cells.lookup x=some c->c≠b)/\ ∀p∈X.pn++ae,p.1≠b):Inv X ae σ H' s':=by
 obtain⟨h',g',d',t',o'⟩:=s'
 have e:o'=s.os:=ho
 subst e;exact I.call (g':=g') (t':=t') (d':=d') u hok hg hch
end
abbrev XK:=Value->Option Addr->Hp->Prop
abbrev St:=List (Option V)
abbrev VK:=V->Hp->Prop
abbrev TE:=St->Hp->VK->Prop
abbrev TT:=St->Hp->(Bool->Hp->Prop)->Prop
abbrev TA:=St->Hp->(List V->Hp->Prop)->Prop
structure Ends where
 nx:St->Hp->Prop
 rt:VK
 bk:St->Hp->Prop:=λ_ _=>False
 ct:St->Hp->Prop:=λ_ _=>False
abbrev TS:=Ends->St->Hp->Prop
def EP(X:Cx)(ae:List (Addr×Obj))(σ:St)(Q:VK)(u:Value)(s':Shared):Prop:= ∃v H',Inv X ae σ H' s'/\RelV v u/\Q v H'
def TP(X:Cx)(ae:List (Addr×Obj))(σ:St)(Q:Bool->Hp->Prop)(b:Bool)(s':Shared):Prop:= ∃H',Inv X ae σ H' s'/\Q b H'
def AP(X:Cx)(ae:List (Addr×Obj))(σ:St)(Q:List V->Hp->Prop)(us:List Value)(s':Shared):Prop:= ∃vs H',Inv X ae σ H' s'/\Vals vs us/\Q vs H'
def SP(X:Cx)(ae:List (Addr×Obj))(D:Ends)(f:Flow)(s':Shared):Prop:=
 match f with
 | .next=> ∃σ' H',Inv X ae σ' H' s'/\D.nx σ' H'
 | .brk=> ∃σ' H',Inv X ae σ' H' s'/\D.bk σ' H'
 | .cont=> ∃σ' H',Inv X ae σ' H' s'/\D.ct σ' H'
 | .ret u=> ∃v σ' H',Inv X ae σ' H' s'/\RelV v u/\D.rt v H'
def PE(X:Cx)(e:Expr)(t:TE):Prop:=
 ∀(ae:List (Addr×Obj)) (s:Shared) (σ:St) (H:Hp) (Q:VK),Inv X ae σ H s->t σ H Q->wpAny (model X.prog X.w) X.A (eval e X.env) (EP X ae σ Q) X.xe s
def PT(X:Cx)(e:Expr)(t:TT):Prop:=
 ∀(ae:List (Addr×Obj)) (s:Shared) (σ:St) (H:Hp) (Q:Bool->Hp->Prop),Inv X ae σ H s->t σ H Q->wpAny (model X.prog X.w) X.A (isTrue e X.env (eval e X.env)) (TP X ae σ Q) X.xe s
def PW(X:Cx)(e:Expr)(t:TT):Prop:=
 ∀(whole:Sem Value) (ae:List (Addr×Obj)) (s:Shared) (σ:St) (H:Hp) (Q:Bool->Hp->Prop),Inv X ae σ H s->t σ H Q->wpAny (model X.prog X.w) X.A (isTrue e X.env whole) (TP X ae σ Q) X.xe s
theorem PW.pt {X:Cx}{e:Expr}{t:TT}(h:PW X e t):PT X e t:=h _
def PA(X:Cx)(es:List Expr)(t:TA):Prop:=
 ∀(pos:Pos) (ae:List (Addr×Obj)) (s:Shared) (σ:St) (H:Hp) (Q:List V->Hp->Prop),Inv X ae σ H s->t σ H Q->wpAny (model X.prog X.w) X.A (spliced (backTo pos (starEach es X.env))) (AP X ae σ Q) X.xe s
def PS(X:Cx)(st:Stmt)(t:TS):Prop:=
 ∀(ae:List (Addr×Obj)) (s:Shared) (σ:St) (H:Hp) (D:Ends),Inv X ae σ H s->t D σ H->wpAny (model X.prog X.w) X.A (exec st X.env) (SP X ae D) X.xe s
def PSs(X:Cx)(st:List Stmt)(t:TS):Prop:=
 ∀(ae:List (Addr×Obj)) (s:Shared) (σ:St) (H:Hp) (D:Ends),Inv X ae σ H s->t D σ H->wpAny (model X.prog X.w) X.A (execs st X.env) (SP X ae D) X.xe s
theorem bV {α:Type}{t:Sem α}{Q Q':α->Shared->Prop}{M:Model}{A:Around}{E:Value->Shared->Prop}{s:Shared}(h:wpAny M A t Q E s)(hQ: ∀a s,Q a s->Q' a s):wpAny M A t Q' E s:=wpAny_mono h hQ λ_ _ x=>x
section
variable {X:Cx}
def Dz(i:Nat):TE:=λσ H Q=> ∃v,σ[i]? =some (some v)/\Q v H
def tC(v:V):TE:=λ_ H Q=>Q v H
theorem B7 {i:Nat}{x:Str}{pos:Pos}(hN:X.N[i]? =some x)(hv:oN X.env.scope x)(hd:(x==("__debug__":Str))=false:=by decide)(hcd:(x==("__classdict__":Str))=false:=by decide):PE X (.Name x pos) (Dz i):=by
 intro ae s σ H Q I h;obtain⟨v,e,h⟩:=h
 obtain⟨m,hn,hl⟩:=I.loc
 obtain⟨u,r,l⟩:=hl i x v hN e hv
 have fin:EP X ae σ Q u s:=⟨v,H,I,r,h⟩
 rcases l with⟨hk,hm⟩|⟨hk,c,hc,hcell⟩
 ·exact wpAny_Name (wpAny_loadName_local I.ok.kind hk hn hm fin) hd
 ·rcases hk with hk|hk
  ·exact wpAny_Name (wpAny_loadName_cell I.ok.kind hk hc hcell fin) hd
  ·exact wpAny_Name (wpAny_loadName_free I.ok.kind hk hc hcell fin hcd) hd
theorem rV {i j pos}:PE X (.Constant (.int i) j pos) (tC (.int i)):=λ_ _ _ H _ I h=>wpAny_Constant_int ⟨.int i,H,I.tok _,⟨_,rfl⟩,h⟩
theorem CS {b j pos}:PE X (.Constant (.bool b) j pos) (tC (.bl b)):=λ_ _ _ H _ I h=>Constant_bool ⟨.bl b,H,I,rfl,h⟩
def Gl(X:Cx)(x:Str):Prop:=X.env.kindOf x=some .globalImplicit
theorem zI {E:Value->Shared->Prop}{ae:List (Addr×Obj)}{s:Shared}{σ:St}{H:Hp}{x:Str}{u:Value}{pos:Pos}{Q:Value->Shared->Prop}(I:Inv X ae σ H s)(hg:Gl X x)(hm:X.mg x=some u)(h:Q u s)
 (hd:(x==("__debug__":Str))=false:=by decide):wpAny (model X.prog X.w) X.A (eval (.Name x pos) X.env) Q E s:=
 Calls.Name_function_global I.ok.kind hg (Calls.loadGlobal_global (by rw[I.ok.glob];exact I.mod.glob.keeps I.bk) hm h) hd
theorem jJ {E:Value->Shared->Prop}{ae:List (Addr×Obj)}{s:Shared}{σ:St}{H:Hp}{x:Str}{u:Value}{pos:Pos}{Q:Value->Shared->Prop}(I:Inv X ae σ H s)(hg:Gl X x)(hm:X.mg x=none)(hv:bootBuiltins x=some u)(h:Q u s)
 (hn:x≠"__name__":=by decide) (hd:(x==("__debug__":Str))=false:=by decide):wpAny (model X.prog X.w) X.A (eval (.Name x pos) X.env) Q E s:=by
 obtain⟨mb,h1,h2⟩:=I.mod.blt
 exact Calls.Name_function_global I.ok.kind hg (Calls.loadGlobal_builtin (by rw[I.ok.glob];exact I.mod.glob.keeps I.bk) hm (by rw[I.ok.blt];exact h1.keeps I.bk) ((h2 x hn).trans hv) h) hd
theorem zF {x:Str}{v:V}{u:Value}{pos:Pos}(hg:Gl X x)(hm:X.mg x=none)(hv:bootBuiltins x=some u)(r:RelV v u)(hn:x≠"__name__":=by decide)(hd:(x==("__debug__":Str))=false:=by decide):PE X (.Name x pos) (tC v):=
 λ_ _ _ H _ I h=>jJ I hg hm hv ⟨v,H,I,r,h⟩ hn hd
variable {a b:Expr}{ta tb:TE}{pos:Pos}
variable {tA tB':TT}{rest:List Expr}
def Ek(t u:TT):TT:=λσ H Q=>t σ H λc H1=>if c=true then u σ H1 Q else Q false H1
def Fq(t u:TT):TT:=λσ H Q=>t σ H λc H1=>if c=true then Q true H1 else u σ H1 Q
def ER(t:TT):TT:=λσ H Q=>t σ H λc H1=>Q (!c) H1
theorem pw_and1(ha:PT X a tA):PW X (.BoolOp .And [a] pos) tA:=by
 intro wh ae s σ H Q I h;refine isTrue_and (bV (ha ae s σ H Q I h) λc s1 e=>?_)
 cases c with
 |true=>exact isTrue_and_nil e
 |false=>exact e
theorem pw_or1(ha:PT X a tA):PW X (.BoolOp .Or [a] pos) tA:=by
 intro wh ae s σ H Q I h;refine isTrue_or (bV (ha ae s σ H Q I h) λc s1 e=>?_)
 cases c with
 |false=>exact isTrue_or_nil e
 |true=>exact e
theorem pw_and(ha:PT X a tA)(hb:PW X (.BoolOp .And (b::rest) pos) tB'):PW X (.BoolOp .And (a::b::rest) pos) (Ek tA tB'):=by
 intro wh ae s σ H Q I h;refine isTrue_and (bV (ha ae s σ H _ I h) λc s1 hq_=>?_)
 obtain⟨H1,I1,q1⟩:=hq_
 cases c with
 |true=>exact hb wh ae s1 σ H1 Q I1 q1
 |false=>exact⟨H1,I1,q1⟩
theorem pw_or(ha:PT X a tA)(hb:PW X (.BoolOp .Or (b::rest) pos) tB'):PW X (.BoolOp .Or (a::b::rest) pos) (Fq tA tB'):=by
 intro wh ae s σ H Q I h;refine isTrue_or (bV (ha ae s σ H _ I h) λc s1 hq_=>?_)
 obtain⟨H1,I1,q1⟩:=hq_
 cases c with
 |true=>exact⟨H1,I1,q1⟩
 |false=>exact hb wh ae s1 σ H1 Q I1 q1
theorem Bk(ha:PT X a tA):PT X (.UnaryOp .Not a pos) (ER tA):=by
 intro ae s σ H Q I h;exact isTrue_not (ha ae s σ H (λc H1=>Q (!c) H1) I h)
def Dg(ta tb:TE):TE:=λσ H Q=>ta σ H λx H1=> ∃c,x=.bl c/\if c=true then tb σ H1 Q else Q (.bl false) H1
def CC(ta:TE):TE:=λσ H Q=>ta σ H λx H1=> ∃c,x=.bl c/\Q (.bl (!c)) H1
theorem BM {op}{t:TE}(h:PE X a t):PE X (.BoolOp op [a] pos) t:=λae s σ H Q I hw=>BoolOp_one (h ae s σ H Q I hw)
theorem AM(ha:PE X a ta)(hb:PE X (.BoolOp .And (b::rest) pos) tb):PE X (.BoolOp .And (a::b::rest) pos) (Dg ta tb):=by
 intro ae s σ H Q I h;refine BoolOp_and (bV (ha ae s σ H _ I h) λv s1 hq_=>?_)
 obtain⟨x,H1,I1,r1,q1⟩:=hq_
 obtain⟨c,rfl,q1⟩:=q1
 cases r1
 refine wpAny_truthy_bool ?_
 cases c with
 |true=>exact hb ae s1 σ H1 Q I1 q1
 |false=>exact⟨.bl false,H1,I1,rfl,q1⟩
theorem Bw(ha:PE X a ta):PE X (.UnaryOp .Not a pos) (CC ta):=by
 intro ae s σ H Q I h;refine UnaryOp_ (bV (ha ae s σ H _ I h) λv s1 hq_=>?_)
 obtain⟨x,H1,I1,r1,q1⟩:=hq_
 obtain⟨c,rfl,q1⟩:=q1
 cases r1
 exact not_of (wpAny_truthy_bool ⟨.bl (!c),H1,I1,rfl,q1⟩)
def FD(t:TT)(ta tb:TE):TE:=λσ H Q=>t σ H λc H1=>if c=true then ta σ H1 Q else tb σ H1 Q
theorem xW {c:Expr}(hc:PT X c tA)(ha:PE X a ta)(hb:PE X b tb):PE X (.IfExp c a b pos) (FD tA ta tb):=by
 intro ae s σ H Q I h;refine wpAny_IfExp (bV (hc ae s σ H _ I h) λd s1 hq_=>?_)
 obtain⟨H1,I1,q1⟩:=hq_
 cases d with
 |true=>exact ha ae s1 σ H1 Q I1 q1
 |false=>exact hb ae s1 σ H1 Q I1 q1
end
def SqL(K:W.Frag)(H:Hp)(a:Addr)(xs:List V):Prop:=
 Rd H a (.lst xs)\/
  ∃(o:Obj) (its:Array Value) (n:Nat),K.lookup a=some o/\o.cls=.type "list"/\o.dict=none/\o.data=.seq its n/\its.size<=sizeLine/\Vals xs its.toList
def SqT(K:W.Frag)(H:Hp)(a:Addr)(xs:List V):Prop:=
 Rd H a (.tup xs)\/
  ∃(o:Obj) (its:Array Value) (n:Nat),K.lookup a=some o/\o.cls=.type "tuple"/\o.data=.seq its n/\its.size<=sizeLine/\Vals xs its.toList/\o.dict=none
def E7:Value->Option V
 | .none=>some .non
 | .bool b=>some (.bl b)
 | .int i _=>some (.int i)
 | .str x _=>some (.str x)
 | .bytes b _=>some (.byt b)
 | .float b _=>some (.flt b)
 | .ref a=>some (.ref a)
 | .type n=>some (.ty n)
 |_=>none
theorem RelV.abs {x:V}{u:Value}(r:RelV x u):E7 u=some x:=by
 cases x with
 |non=>cases r;rfl
 |bl _=>cases r;rfl
 |int _=>obtain⟨t,rfl⟩:=r;rfl
 |str _=>obtain⟨t,rfl⟩:=r;rfl
 |byt _=>obtain⟨t,rfl⟩:=r;rfl
 |flt _=>obtain⟨t,rfl⟩:=r;rfl
 |ref _=>cases r;rfl
 |ty _=>cases r;rfl
theorem RelV.inj {x y:V}{u:Value}(r:RelV x u)(q:RelV y u):x=y:=Option.some.inj (r.abs.symm.trans q.abs)
theorem Vals.inj: ∀ {xs ys:List V} {us:List Value},Vals xs us->Vals ys us->xs=ys
 |_,_,_,.nil,.nil=>rfl
 |_,_,_,.cons r t,.cons r' t'=>by rw[r.inj r',Vals.inj t t']
section
variable {X:Cx}{ae:List (Addr×Obj)}{σ:St}{H:Hp}{s:Shared}{a:Addr}{xs ys:List V}
theorem SqL.of {K:W.Frag}(h:H a=some (.lst xs)):SqL K H a xs:=.inl (.inl h)
theorem SqT.of {K:W.Frag}(h:H a=some (.tup xs)):SqT K H a xs:=.inl (.inl h)
theorem Inv.list(I:Inv X ae σ H s)(h:SqL X.K H a xs): ∃its:List Value,Vals xs its/\PlainL s.heap a its.toArray/\xs.length<=sizeLine:=by
 rcases h with h|⟨o,its,n,hk,hc,hd,hs,hz,r⟩
 ·obtain⟨z,its,n,r,e⟩:=h.ok I.hok
  exact⟨its,r,⟨_,n,e,rfl,rfl,rfl⟩,z⟩
 ·refine⟨its.toList,r,⟨o,n,I.kIn a o hk,hc,hd,by simpa using hs⟩,?_⟩
  have e:=r.length
  simp only[Array.length_toList] at e;omega
theorem Inv.tuple(I:Inv X ae σ H s)(h:SqT X.K H a xs): ∃its:List Value,Vals xs its/\IsTup s.heap a its.toArray/\xs.length<=sizeLine:=by
 rcases h with h|⟨o,its,n,hk,hc,hs,hz,r,_⟩
 ·obtain⟨z,its,r,p,_⟩:=h.ok I.hok
  exact⟨its,r,p,z⟩
 ·refine⟨its.toList,r,⟨o,I.kIn a o hk,hc,n,by simpa using hs⟩,?_⟩
  have e:=r.length
  simp only[Array.length_toList] at e;omega
theorem Inv.tupleN(I:Inv X ae σ H s)(h:SqT X.K H a xs):(∃o,s.heap.get? a=some o/\o.cls=.type "tuple")/\ ∃o,s.heap.get? a=some o/\o.dict=none:=by
 rcases h with h|⟨o,its,n,hk,hc,hs,hz,r,hd⟩
 ·obtain⟨z,its,r,⟨ob,e,c,_⟩,o2,e2,d2⟩:=h.ok I.hok
  exact⟨⟨ob,e,c⟩,o2,e2,d2⟩
 ·exact⟨⟨o,I.kIn a o hk,hc⟩,o,I.kIn a o hk,hd⟩
theorem Inv.list_inj(I:Inv X ae σ H s)(h:SqL X.K H a xs)(h':SqL X.K H a ys):xs=ys:=by
 obtain⟨its,r,⟨o,n,e,_,_,d⟩,_⟩:=I.list h
 obtain⟨its',r',⟨o',n',e',_,_,d'⟩,_⟩:=I.list h'
 rw[e] at e';cases e';rw[d] at d';injection d' with d1 _
 have:its=its':=by simpa using congrArg Array.toList d1
 subst this;exact r.inj r'
theorem Inv.tuple_inj(I:Inv X ae σ H s)(h:SqT X.K H a xs)(h':SqT X.K H a ys):xs=ys:=by
 obtain⟨its,r,⟨o,e,_,n,d⟩,_⟩:=I.tuple h
 obtain⟨its',r',⟨o',e',_,n',d'⟩,_⟩:=I.tuple h'
 rw[e] at e';cases e';rw[d] at d';injection d' with d1 _
 have:its=its':=by simpa using congrArg Array.toList d1
 subst this;exact r.inj r'
end
abbrev Cx.wish(X:Cx)(E:Value->Shared->Prop):Cx:={X with xe:=E}
abbrev Cx.nox(X:Cx):Cx:=X.wish λ_ _=>False
theorem Cx.Ok.wish {X:Cx}(ok:X.Ok)(E:Value->Shared->Prop):(X.wish E).Ok:=
 ⟨ok.mod,ok.kind,ok.glob,ok.blt,ok.above,ok.inj,ok.has,ok.cab,ok.hd,ok.frames,ok.stk,ok.exf,ok.bs,ok.bsz,ok.noex,ok.exfs,ok.funs,ok.frf⟩
theorem Cx.Ok.unwish {X:Cx}{E:Value->Shared->Prop}(ok:(X.wish E).Ok):X.Ok:=
 ⟨ok.mod,ok.kind,ok.glob,ok.blt,ok.above,ok.inj,ok.has,ok.cab,ok.hd,ok.frames,ok.stk,ok.exf,ok.bs,ok.bsz,ok.noex,ok.exfs,ok.funs,ok.frf⟩
section
variable {X:Cx}{ae:List (Addr×Obj)}{σ:St}{H:Hp}{s:Shared}{E:Value->Shared->Prop}
theorem Inv.wish(I:Inv X ae σ H s)(E:Value->Shared->Prop):Inv (X.wish E) ae σ H s:=⟨I.ok.wish E,I.os,I.bare,I.base,I.loc,I.cell,I.free,I.freeC,I.pin,I.hok,I.len⟩
theorem Inv.unwish(I:Inv (X.wish E) ae σ H s):Inv X ae σ H s:=⟨I.ok.unwish,I.os,I.bare,I.base,I.loc,I.cell,I.free,I.freeC,I.pin,I.hok,I.len⟩
theorem SP.unwish {D:Ends}{f:Flow}{s':Shared}(h:SP (X.wish E) ae D f s'):SP X ae D f s':=by
 cases f with
 |next=>obtain⟨σ',H',I,q⟩:=h;exact⟨σ',H',I.unwish,q⟩
 |brk=>obtain⟨σ',H',I,q⟩:=h;exact⟨σ',H',I.unwish,q⟩
 |cont=>obtain⟨σ',H',I,q⟩:=h;exact⟨σ',H',I.unwish,q⟩
 |ret u=>obtain⟨v,σ',H',I,r,q⟩:=h;exact⟨v,σ',H',I.unwish,r,q⟩
theorem PSs.nox {st:List Stmt}{t:TS}(h:PSs X.nox st t):PSs X st t:=λae s σ H D I hw=>
 wpAny_mono (h ae s σ H D (I.wish _) hw) (λ_ _ q=>q.unwish) λ_ _ z=>False.elim z
end
section
variable {X:Cx}{st:Stmt}{rest:List Stmt}{t u:TS}{e:Expr}{te:TE}{pos:Pos}
def DN:TS:=λD σ H=>D.nx σ H
def EF(t u:TS):TS:=λD σ H=>t {D with nx:=u D} σ H
theorem yV:PSs X [] DN:=λ_ _ σ H _ I h=>wpAny_execs_nil ⟨σ,H,I,h⟩
theorem oS(h1:PS X st t)(h2:PSs X rest u):PSs X (st::rest) (EF t u):=by
 intro ae s σ H D I h;refine wpAny_execs_cons (bV (h1 ae s σ H {D with nx:=u D} I h) λf s1 q=>?_)
 cases f with
 |next=>
  obtain⟨σ',H',I',q⟩:=q
  exact h2 ae s1 σ' H' D I' q
 |ret v=>exact q
 |brk=>exact q
 |cont=>exact q
theorem tJ(h1:PS X st t):PSs X [st] t:=by
 intro ae s σ H D I h;refine wpAny_execs_cons (bV (h1 ae s σ H D I h) λf s1 q=>?_)
 cases f with
 |next=>exact wpAny_execs_nil q
 |ret v=>exact q
 |brk=>exact q
 |cont=>exact q
theorem Inv.quiet {ae:List (Addr×Obj)}{σ:St}{H:Hp}{s:Shared}(I:Inv X ae σ H s):interactive X.env=false:=by simp[interactive,I.ok.kind]
def CK(te:TE):TS:=λD σ H=>te σ H λ_ H1=>D.nx σ H1
theorem sV(he:PE X e te)(hs:swapsWith e none pos.line X.env=pure false:=by rfl):PS X (.Expr e pos) (CK te):=by
 intro ae s σ H D I h;exact wpAny_Expr_any (bV (he ae s σ H _ I h) λv s1 ⟨x,H1,I1,r1,q1⟩=>⟨σ,H1,I1,q1⟩) I.quiet hs
def El(te:TE):TS:=λD σ H=>te σ H D.rt
theorem xa(he:PE X e te):PS X (.Return (some e) pos) (El te):=by
 intro ae s σ H D I h;exact wpAny_Return_some (bV (he ae s σ H _ I h) λv s1 ⟨x,H1,I1,r1,q1⟩=>⟨x,σ,H1,I1,r1,q1⟩)
def EV(c:TT)(t u:TS):TS:=λD σ H=>c σ H λb H1=>if b=true then t D σ H1 else u D σ H1
theorem DM {c:Expr}{a b:List Stmt}{tc:TT}(hc:PT X c tc)(ha:PSs X a t)(hb:PSs X b u):PS X (.If c a b pos) (EV tc t u):=by
 intro ae s σ H D I h;refine wpAny_If (bV (hc ae s σ H _ I h) λd s1 hq_=>?_)
 obtain⟨H1,I1,q1⟩:=hq_
 cases d with
 |true=>exact ha ae s1 σ H1 D I1 q1
 |false=>exact hb ae s1 σ H1 D I1 q1
end
abbrev TG:=V->St->Hp->(St->Hp->Prop)->Prop
abbrev wF:=List V->St->Hp->(St->Hp->Prop)->Prop
def PG(X:Cx)(target:Expr)(t:TG):Prop:=
 ∀(ae:List (Addr×Obj)) (s:Shared) (σ:St) (H:Hp) (v:V) (u:Value) (Q:St->Hp->Prop),Inv X ae σ H s->RelV v u->t v σ H Q->
  wpAny (model X.prog X.w) X.A (assign target X.env u) (λ_ s'=> ∃σ' H',Inv X ae σ' H' s'/\Q σ' H') X.xe s
def PGs(X:Cx)(ts:List Expr)(t:wF):Prop:=
 ∀(ae:List (Addr×Obj)) (s:Shared) (σ:St) (H:Hp) (vs:List V) (us:List Value) (Q:St->Hp->Prop),Inv X ae σ H s->Vals vs us->t vs σ H Q->
  wpAny (model X.prog X.w) X.A (assignInOrder ((assignEach ts X.env).map (·.2)) us) (λ_ s'=> ∃σ' H',Inv X ae σ' H' s'/\Q σ' H') X.xe s
abbrev Bb:=V->V->V->Hp->(Hp->Prop)->Prop
def C9(X:Cx)(t:Bb):Prop:=
 ∀(ae:List (Addr×Obj)) (s:Shared) (σ:St) (H:Hp) (o i v:V) (ov iv u:Value) (Q:Hp->Prop),Inv X ae σ H s->RelV o ov->RelV i iv->RelV v u->t o i v H Q->
  wpAny (model X.prog X.w) X.A (setItem ov iv u) (λ_ s'=> ∃H',Inv X ae σ H' s'/\Q H') X.xe s
section
variable {X:Cx}{pos:Pos}
def sW(i:Nat):TG:=λv σ H Q=>Q (σ.set i (some v)) H
theorem zN {i:Nat}{x:Str}(hN:X.N.Nodup)(hi:X.N[i]? =some x)(hx:uY X.env.scope x)(hf:X.fn x=true\/X.env.scope.names.lookup x=some .local:=by first|exact .inl rfl|exact .inr rfl|assumption):PG X (.Name x pos) (sW i):=by
 intro ae s σ H v u Q I r h;exact wpAny_assign_Name (iX I hN hi hx r (λs' I'=>⟨_,H,I',h⟩) hf)
def ET:wF:=λvs σ H Q=>vs=[]/\Q σ H
def Cw(t:TG)(u:wF):wF:=λvs σ H Q=> ∃v r,vs=v::r/\t v σ H λσ' H'=>u r σ' H' Q
theorem tL:PGs X [] ET:=by
 intro ae s σ H vs us Q I r h;obtain⟨e,h⟩:=h
 subst e;cases r
 exact assignInOrder_nil ⟨σ,H,I,h⟩
theorem qt {e:Expr}{es:List Expr}{t:TG}{u:wF}(h1:PG X e t)(h2:PGs X es u)
 (hs:(assignEach (e::es) X.env).map (·.2)=assign e X.env::(assignEach es X.env).map (·.2):=by rfl):PGs X (e::es) (Cw t u):=by
 intro ae s σ H vs us Q I r h;obtain⟨v,vr,e1,h⟩:=h
 subst e1;cases r with
 |cons r rr=>
  rw[hs];refine assignInOrder_cons (bV (h1 ae s σ H _ _ _ I r h) λ_ s1 hq_=>?_)
  obtain⟨σ1,H1,I1,q1⟩:=hq_
  exact h2 ae s1 σ1 H1 _ _ Q I1 rr q1
def EC(K:W.Frag)(n:Nat)(t:wF):TG:=λv σ H Q=> ∃a xs,v=.ref a/\SqT K H a xs/\xs.length=n/\t xs σ H Q
theorem wO {es:List Expr}{k:Nat}{t:wF}{n:Nat}(hc:X.calm=true)(h:PGs X es t)
 (hn:(assignEach es X.env).length=n:=by rfl) (hst:(assignEach es X.env).findIdx? (·.1)=none:=by rfl):PG X (.Tuple es k pos) (EC X.K n t):=by
 intro ae s σ H v u Q I r hw;obtain⟨a,xs,e1,hq,hl,hw⟩:=hw
 subst e1;cases r
 obtain⟨its,rv,ht,hz⟩:=I.tuple hq
 refine assign_Tuple_tuple (I.ok.hd hc) ht (by simp[hn,<-hl,rv.length]) hst λh' hx=>?_
 have I1:Inv X ae σ H {s with heap:=h'}:=I.kept (t':=s.toks) λb o e=>hx b o (Nat.ne_of_lt (Heap.lt_size e)) e
 exact h ae _ σ H xs _ Q I1 (by simpa using rv) hw
def EM(to ti:TE)(t:Bb):TG:=λv σ H Q=>to σ H λo H1=>ti σ H1 λi H2=>t o i v H2 λH3=>Q σ H3
theorem AF {o i:Expr}{to ti:TE}{t:Bb}(ho:PE X o to)(hi:PE X i ti)(hs:C9 X t)
 (ha: ∀v,assign (.Subscript o i pos) X.env v=(do
   let ov <-holding [v] (eval o X.env)
   let iv <-holding [v,ov] (eval i X.env)
   standAt pos
   holding [v,ov,iv] (setItem ov iv v)
   release [v,ov,iv] []):=by intro _;rfl):PG X (.Subscript o i pos) (EM to ti t):=by
 intro ae s σ H v u Q I r h;rw[ha];refine wpAny_bind (wpAny_holding (bV (ho ae s σ H _ I h) λov s1 hq_=>?_))
 obtain⟨x,H1,I1,r1,q1⟩:=hq_
 refine wpAny_bind (wpAny_holding (bV (hi ae s1 σ H1 _ I1 q1) λiv s2 hq_=>?_))
 obtain⟨y,H2,I2,r2,q2⟩:=hq_
 refine wpAny_bind (wpAny_standAt (wpAny_bind (wpAny_holding (bV (hs ae s2 σ H2 x y v ov iv u _ I2 r1 r2 r q2) λ_ s3 hq_=>?_))))
 obtain⟨H3,I3,q3⟩:=hq_
 exact wpAny_release ⟨σ,H3,I3,q3⟩
def yZ(te:TE)(g:TG):TS:=λD σ H=>te σ H λx H1=>g x σ H1 D.nx
theorem xU {tg e:Expr}{te:TE}{g:TG}(he:PE X e te)(hg:PG X tg g)(hs:swapsWithSole [tg] e pos.line X.env=pure false:=by rfl)(hw:swappedStores [tg] e X.env=pure none:=by rfl)
 (h1:(assignEach [tg] X.env).map (·.2)=[assign tg X.env]:=by rfl):PS X (.Assign [tg] e pos) (yZ te g):=by
 intro ae s σ H D I h;refine wpAny_Assign_stores (bV (he ae s σ H _ I h) λv s1 ⟨x,H1,I1,r1,q1⟩=>?_) hs hw
 rw[h1];exact bV (hg ae s1 σ H1 x v _ I1 r1 q1) λ_ s2 q=>q
theorem jR {i:Nat}{x:Str}{e:Expr}{te:TE}{pos':Pos}(hN:X.N.Nodup)(hi:X.N[i]? =some x)(hx:uY X.env.scope x)(he:PE X e te)(hs:swapsWith e (some (.Name x pos')) pos.line X.env=pure false:=by rfl)(hf:X.fn x=true\/X.env.scope.names.lookup x=some .local:=by first|exact .inl rfl|exact .inr rfl|assumption):
 PS X (.Assign [.Name x pos'] e pos) (yZ te (sW i)):=by
 intro ae s σ H D I h;refine wpAny_Assign_Name (bV (he ae s σ H _ I h) λv s1 ⟨y,H1,I1,r1,q1⟩=>?_) hs
 exact iX I1 hN hi hx r1 (λs2 I2=>⟨_,H1,I2,q1⟩) hf
def EG(i j:Nat)(ta:TA):TS:=λD σ H=>ta σ H λvs H1=> ∃v w,vs=[v,w]/\D.nx ((σ.set i (some v)).set j (some w)) H1
theorem Ch {i j:Nat}{x y:Str}{a b:Expr}{ta:TA}{px py pt:Pos}{kt k2 pt2}(hc:X.calm=true)(hN:X.N.Nodup)(hi:X.N[i]? =some x)(hj:X.N[j]? =some y)(hij:i≠j)
 (hx:X.env.scope.names.lookup x=some .local) (hy:X.env.scope.names.lookup y=some .local) (ha:PA X [a,b] ta)
 (hw:swappedStores [.Tuple [.Name x px,.Name y py] kt pt] (.Tuple [a,b] k2 pt2) X.env=pure (some [x,y]))
 (hs:swapsWithSole [.Tuple [.Name x px,.Name y py] kt pt] (.Tuple [a,b] k2 pt2) pos.line X.env=pure false:=by rfl):
 PS X (.Assign [.Tuple [.Name x px,.Name y py] kt pt] (.Tuple [a,b] k2 pt2) pos) (EG i j ta):=by
 intro ae s σ H D I h;rw[exec_Assign_arm];refine wpAny_bind (wpAny_standAt ?_)
 rw[hs];refine wpAny_bind (wpAny_pure ?_)
 rw[if_neg (by decide)]
 refine wpAny_bind (Tuple_ (bV (ha _ ae s σ H _ I h) λus s1 hq_=>?_))
 obtain⟨vs,H1,I1,r1,q1⟩:=hq_
 obtain⟨v,w,e1,q1⟩:=q1
 subst e1;obtain⟨u1,u2,rfl,rv,rw'⟩: ∃u1 u2,us=[u1,u2]/\RelV v u1/\RelV w u2:=by
  cases r1 with
  |cons p q=>
   cases q with
   |cons p' q'=>
    cases q'
    exact⟨_,_,rfl,p,p'⟩
 refine wpAny_newObj_type ?_ (by show 2<=sizeLine;decide)
 have I2:Inv X ae σ H1 {s1 with heap:=s1.heap.push {cls:=.type "tuple",data:=.seq [u1,u2].toArray}}:=I1.kept (t':=s1.toks) λb o e=>Heap.get?_push_of_some _ e
 rw[hw];refine wpAny_bind (wpAny_pure ?_)
 show wpAny (model X.prog X.w) X.A (do rule "assign.swapped-stores";let items <-unpackItems (.ref s1.heap.objs.size) 2 none;assignInOrder [λv=>bindName X.env y v,λv=>bindName X.env x v] items.reverse;pure Flow.next) _ _ _
 refine wpAny_bind (wpAny_rule (wpAny_bind (unpackItems_tuple (items:= #[u1,u2]) (I.ok.hd hc) (IsTup.new s1.heap _) λh' hx'=>?_)))
 have I3:=I2.kept (h':=h') (t':=s1.toks) λb o e=>hx' b o (Nat.ne_of_lt (Heap.lt_size e)) e
 show wpAny _ _ (assignInOrder [λv=>bindName X.env y v,λv=>bindName X.env x v] [u2,u1]>>=λ_=>pure Flow.next) _ _ _
 refine wpAny_bind (assignInOrder_cons (wpAny_bindName (iX I3 hN hj (.inl hy) rw' (λs2 I4=>?_) (.inr hy))))
 refine assignInOrder_cons (wpAny_bindName (iX I4 hN hi (.inl hx) rv (λs3 I5=>assignInOrder_nil (wpAny_pure ?_)) (.inr hx)))
 rw[List.set_comm _ _ (Ne.symm hij)] at I5;exact⟨_,H1,I5,q1⟩
end
section
variable {X:Cx}{pos:Pos}
def Bv(c:TT)(tb:TS):TS:=λD σ H=> ∃W:Nat->St->Hp->Prop,(∃m,W m σ H)/\ ∀m σ H,W m σ H->
 c σ H λb H1=>if b=true then∃N:St->Hp->Prop,(∀σ' H',N σ' H'-> ∃m',m'<m/\W m' σ' H')/\tb {D with nx:=N,ct:=N,bk:=D.nx} σ H1 else D.nx σ H1
theorem xw {c:Expr}{body:List Stmt}{tc:TT}{tb:TS}(hp:PassesOwn (model X.prog X.w) X.A X.env X.xe)(hc:PT X c tc)(hb:PSs X body tb):PS X (.While c body [] pos) (Bv tc tb):=by
 intro ae s σ H D I h;obtain⟨W,⟨m0,w0⟩,turn⟩:=h
 refine wpAny_While (codeAny_whileLoop (λn s'=> ∃σ' H',Inv X ae σ' H' s'/\W n σ' H') ?_ m0 ⟨σ,H,I,w0⟩)
 rintro n s1 ⟨σ1,H1,I1,w1⟩
 refine wpAny_passesOwn hp (bV (hc ae s1 σ1 H1 _ I1 (turn n σ1 H1 w1)) λb s2 hq_=>?_)
 obtain⟨H2,I2,q2⟩:=hq_
 cases b with
 |true=>
  obtain⟨N,hN,q2⟩:=q2
  rw[if_pos rfl];refine wpAny_passesOwn hp (bV (hb ae s2 σ1 H2 _ I2 q2) λf s3 q3=>?_)
  cases f with
  |next=>
   obtain⟨σ3,H3,I3,n3⟩:=q3
   obtain⟨m',hm,w3⟩:=hN σ3 H3 n3
   exact⟨m',hm,σ3,H3,I3,w3⟩
  |cont=>
   obtain⟨σ3,H3,I3,n3⟩:=q3
   obtain⟨m',hm,w3⟩:=hN σ3 H3 n3
   exact⟨m',hm,σ3,H3,I3,w3⟩
  |brk=>exact q3
  |ret v=>exact q3
 |false=>
  rw[if_neg Bool.false_ne_true];exact wpAny_execs_nil ⟨σ1,H2,I2,q2⟩
end
structure It where
 go:Nat->Hp->Prop
 yld:Nat->Hp->V->Hp->Prop
 stop:Nat->Hp->Prop
def gG(X:Cx)(ae:List (Addr×Obj))(H:Hp)(b:Addr):Prop:=
 H b=none/\b≠X.env.locals/\b∉X.fs/\(b∈X.ex\/X.s₀.heap.objs.size<=b)/\(∀x c,X.env.cells.lookup x=some c->c≠b)/\ ∀p∈X.pn++ae,p.1≠b
theorem Inv.fpOk {X:Cx}{ae:List (Addr×Obj)}{σ:St}{H H':Hp}{s:Shared}{b:Addr}(I:Inv X ae σ H s)(hb:s.heap.objs.size<=b)(hn:H' b=none):gG X ae H' b:=by
 refine⟨hn,Nat.ne_of_gt (Nat.lt_of_lt_of_le I.lt hb),I.nofs hb,.inr (Nat.le_trans I.sz hb),λx c e z=>?_,λp hp z=>?_⟩
 ·obtain⟨v,q⟩:=I.cell x c e
  exact absurd (Nat.lt_of_lt_of_le q.lt (by rw[z];exact hb)) (Nat.lt_irrefl _)
 ·exact absurd (Nat.lt_of_lt_of_le (Heap.lt_size (I.pin p hp).1) (by rw[z];exact hb)) (Nat.lt_irrefl _)
structure Turn(P:Program)(w:World)(K:W.Frag)(tg:Expr)(J:It)(fp:List Addr)(it:Addr)(tn:Nat->Heap->Prop):Prop where
 mem:it∈fp
 obj: ∀i h,tn i h-> ∀b∈fp,∃o,h.get? b=some o/\ ∀v,o.data≠ .cell v
 keep: ∀i h h',tn i h->(∀b∈fp,∀o,h.get? b=some o->h'.get? b=some o)->tn i h'
 item: ∀(X:Cx),X.prog=P->X.w=w->X.K=K->X.calm=true-> ∀(i:Nat) (ae:List (Addr×Obj)) (s:Shared) (σ:St) (H:Hp) (E:Value->Shared->Prop),Inv X ae σ H s->(∀b∈fp,gG X ae H b)->tn i s.heap->J.go i H->
  wpAny (model P w) X.A (pyNext (.ref it)) (λr s1=> ∃u,r=some u/\
   wpAny (model P w) X.A (letOwnedTupleGo tg (.ref it) u) (λ_ s2=> ∃x H',Inv X ae σ H' s2/\RelV x u/\J.yld i H x H'/\tn (i+1) s2.heap/\ ∀b∈fp,H' b=none) E s1) E s
 done: ∀(X:Cx),X.prog=P->X.w=w->X.K=K->X.calm=true-> ∀(i:Nat) (ae:List (Addr×Obj)) (s:Shared) (σ:St) (H:Hp) (E:Value->Shared->Prop),Inv X ae σ H s->(∀b∈fp,gG X ae H b)->tn i s.heap->J.stop i H->
  wpAny (model P w) X.A (pyNext (.ref it)) (λr s1=>r=none/\Inv X ae σ H s1) E s
 self: ∀(A:Around) (i:Nat) (s:Shared) (Q:Value->Shared->Prop) (E:Value->Shared->Prop),tn i s.heap->Q (.ref it) s->wpAny (model P w) A (pyIter (.ref it)) Q E s
abbrev TI:=St->Hp->(It->Hp->Prop)->Prop
def Fb(X:Cx)(ae:List (Addr×Obj))(σ:St)(tg:Expr)(R:It->Hp->Prop)(itv:Value)(s2:Shared):Prop:=
 ∃(it:Addr) (fp:List Addr) (tn:Nat->Heap->Prop) (J:It) (H':Hp),itv=.ref it/\Inv X ae σ H' s2/\Turn X.prog X.w X.K tg J fp it tn/\tn 0 s2.heap/\(∀b∈fp,gG X ae H' b)/\R J H'
def PI(X:Cx)(tg iter:Expr)(wi:TI):Prop:=
 ∀(ae:List (Addr×Obj)) (s:Shared) (σ:St) (H:Hp) (R:It->Hp->Prop),Inv X ae σ H s->wi σ H R->
  wpAny (model X.prog X.w) X.A (eval iter X.env) (λv s1=>wpAny (model X.prog X.w) X.A (pyIter v) (Fb X ae σ tg R) X.xe s1) X.xe s
theorem v9 {M:Model}{A:Around}{E:Value->Shared->Prop}{s:Shared}{tg:Expr}{it:Addr}{u:Value}{o:Obj}{n:String}{vs:Array Value}{Q:Unit->Shared->Prop}(ho:s.heap.get? it=some o)(hc:o.cls=.type n)(hd:o.data=.fields vs)
 (hn:["enumerate","zip","dict_itemiterator","dict_reverseitemiterator","odict_iterator","itertools.zip_longest","itertools.pairwise"].contains n=false) (hQ:Q () s):wpAny M A (letOwnedTupleGo tg (.ref it) u) Q E s:=by
 unfold letOwnedTupleGo;cases tg<;>first
  |exact wpAny_pure hQ
  |(cases u<;>first
     |exact wpAny_pure hQ
     |(refine wpAny_bind (wpAny_load ho ?_)
       rw[hc,hd];show wpAny M A (if(["enumerate","zip","dict_itemiterator","dict_reverseitemiterator","odict_iterator","itertools.zip_longest","itertools.pairwise"].contains n&&vs[0]? ==some (rawInt _))=true then _ else _) Q E s
       rw[if_neg (by intro h;rw[hn,Bool.false_and] at h;cases h)]
       exact wpAny_pure hQ))
def EB(K:W.Frag)(a:Addr):It:=
 ⟨λi H=> ∃xs x,SqL K H a xs/\xs[i]? =some x,λi H x H'=>H'=H/\ ∀xs,SqL K H a xs->xs[i]? =some x,λi H=> ∃xs,SqL K H a xs/\xs.length<=i⟩
def Ey(K:W.Frag)(a:Addr):It:=
 ⟨λi H=> ∃xs x,SqT K H a xs/\xs[i]? =some x,λi H x H'=>H'=H/\ ∀xs,SqT K H a xs->xs[i]? =some x,λi H=> ∃xs,SqT K H a xs/\xs.length<=i⟩
def D6(lo:Int)(n:Nat):It:=⟨λi _=>i<n,λi H x H'=>H'=H/\x=.int (lo+i),λi _=>n<=i⟩
theorem uv {P:Program}{w:World}{K:W.Frag}{tg:Expr}(a it:Addr):Turn P w K tg (EB K a) [it] it (λi h=>h.IsListIter it a i) where
 mem:=by simp
 obj:=λi h st b hb=>by
  have e:b=it:=by simpa using hb
  subst e;obtain⟨o,e,c,d⟩:=st
  exact⟨o,e,λv z=>by rw[d] at z;cases z⟩
 keep:=λi h h' st k=>st.at λo e=>k it (by simp) o e
 item:=by
  intro X hP hw hK hc i ae s σ H E I hf st hg;subst hP hw hK;obtain⟨xs,x,hq,hx⟩:=hg
  obtain⟨its,rv,p,hz⟩:=I.list hq
  obtain⟨u,hu,ru⟩:=rv.get hx
  obtain⟨f0,f1,f2,f3,f4,f5⟩:=hf it (by simp)
  refine wpAny_pyNext_list_item st p.isList (x:=u) (by simpa using hu) λh' st' sb=>?_
  have I1:Inv X ae σ H {s with heap:=h'}:=I.turned (t':=s.toks) (λb o hb e=>(sb.2 b hb).trans e) f0 f1 f3 f4 f5
  obtain⟨o,e,c,d⟩:=id st'
  exact⟨u,rfl,v9 (s:={s with heap:=h'}) e c d (by decide) ⟨x,H,I1,ru,⟨rfl,λys hy=>by rw[I.list_inj hy hq];exact hx⟩,st',λb hb=>(hf b hb).1⟩⟩
 done:=by
  intro X hP hw hK hc i ae s σ H E I hf st hg;subst hP hw hK;obtain⟨xs,hq,hx⟩:=hg
  obtain⟨its,rv,p,hz⟩:=I.list hq
  obtain⟨f0,f1,f2,f3,f4,f5⟩:=hf it (by simp)
  have hl:=rv.length
  exact wpAny_pyNext_list_end (I.ok.hd hc) st p.isList (by simp;omega) λh' eb=>⟨rfl,I.turned (t':=s.toks) (λb o hb e=>eb b o hb e) f0 f1 f3 f4 f5⟩
 self:=λ_ _ _ _ _ st h=>wpAny_pyIter_listiter st h
theorem rG {P:Program}{w:World}{K:W.Frag}{tg:Expr}(a it:Addr):Turn P w K tg (Ey K a) [it] it (λi h=>h.IsTupleIter it a i) where
 mem:=by simp
 obj:=λi h st b hb=>by
  have e:b=it:=by simpa using hb
  subst e;obtain⟨o,e,c,d⟩:=st
  exact⟨o,e,λv z=>by rw[d] at z;cases z⟩
 keep:=λi h h' st k=>st.at λo e=>k it (by simp) o e
 item:=by
  intro X hP hw hK hc i ae s σ H E I hf st hg;subst hP hw hK;obtain⟨xs,x,hq,hx⟩:=hg
  obtain⟨its,rv,p,hz⟩:=I.tuple hq
  obtain⟨u,hu,ru⟩:=rv.get hx
  obtain⟨f0,f1,f2,f3,f4,f5⟩:=hf it (by simp)
  refine wpAny_pyNext_tuple_item st (show s.heap.IsTuple a its.toArray from p) (x:=u) (by simpa using hu) λh' st' sb=>?_
  have I1:Inv X ae σ H {s with heap:=h'}:=I.turned (t':=s.toks) (λb o hb e=>(sb.2 b hb).trans e) f0 f1 f3 f4 f5
  obtain⟨o,e,c,d⟩:=id st'
  exact⟨u,rfl,v9 (s:={s with heap:=h'}) e c d (by decide) ⟨x,H,I1,ru,⟨rfl,λys hy=>by rw[I.tuple_inj hy hq];exact hx⟩,st',λb hb=>(hf b hb).1⟩⟩
 done:=by
  intro X hP hw hK hc i ae s σ H E I hf st hg;subst hP hw hK;obtain⟨xs,hq,hx⟩:=hg
  obtain⟨its,rv,p,hz⟩:=I.tuple hq
  obtain⟨f0,f1,f2,f3,f4,f5⟩:=hf it (by simp)
  have hl:=rv.length
  exact wpAny_pyNext_tuple_end (I.ok.hd hc) st (show s.heap.IsTuple a its.toArray from p) (by simp;omega) λh' eb=>⟨rfl,I.turned (t':=s.toks) (λb o hb e=>eb b o hb e) f0 f1 f3 f4 f5⟩
 self:=λ_ _ _ _ _ st h=>wpAny_pyIter_tupleiter st h
theorem r8 {P:Program}{w:World}{K:W.Frag}{tg:Expr}(it:Addr)(lo:Int)(n:Nat):Turn P w K tg (D6 lo n) [it] it (λi h=>IsRangeIter h it (lo+(i:Nat)*1) ((n:Int) - (i:Nat)) 1) where
 mem:=by simp
 obj:=λi h st b hb=>by
  have e:b=it:=by simpa using hb
  subst e;exact⟨_,st,λv z=>by
   have z':Data.fields _=Data.cell v:=z
   cases z'⟩
 keep:=λi h h' st k=>k it (by simp) _ st
 item:=by
  intro X hP hw hK hc i ae s σ H E I hf st hg;subst hP hw hK;obtain⟨f0,f1,f2,f3,f4,f5⟩:=hf it (by simp)
  have W:=Walks.range (prog:=X.prog) (w:=X.w) (I.ok.hd hc) it lo 1 n
  refine W.item i s _ _ hg st λv h' tk hv st' kk=>?_
  obtain⟨t,rfl⟩:=hv
  have I1:Inv X ae σ H {s with heap:=h',toks:=tk}:=I.turned (λb o hb e=>kk b o (by simpa using hb) e) f0 f1 f3 f4 f5
  refine⟨_,rfl,v9 (s:={s with heap:=h',toks:=tk}) (n:="range_iterator") st' rfl rfl (by decide) ⟨.int (lo+i),H,I1,⟨t,?_⟩,⟨rfl,rfl⟩,st',λb hb=>(hf b hb).1⟩⟩
  rw[Int.mul_one]
 done:=by
  intro X hP hw hK hc i ae s σ H E I hf st hg;subst hP hw hK;obtain⟨f0,f1,f2,f3,f4,f5⟩:=hf it (by simp)
  exact wpAny_pyNext_range_end (I.ok.hd hc) st (by have:n<=i:=hg;omega) λh' eb=>⟨rfl,I.turned (t':=s.toks) (λb o hb e=>eb b o hb e) f0 f1 f3 f4 f5⟩
 self:=λ_ _ _ _ _ st h=>wpAny_pyIter_rangeiter st h
section
variable {X:Cx}{tg:Expr}
def Cs(K:W.Frag)(tl:TE):TI:=λσ H R=>tl σ H λx H1=> ∃a,x=.ref a/\(∃xs,SqL K H1 a xs)/\R (EB K a) H1
def E3(K:W.Frag)(tl:TE):TI:=λσ H R=>tl σ H λx H1=> ∃a,x=.ref a/\(∃xs,SqT K H1 a xs)/\R (Ey K a) H1
theorem sJ {l:Expr}{tl:TE}(hl:PE X l tl):PI X tg l (Cs X.K tl):=by
 intro ae s σ H R I h;refine bV (hl ae s σ H _ I h) λv s1 hq_=>?_
 obtain⟨x,H1,I1,r1,q1⟩:=hq_
 obtain⟨a,e,⟨xs,hq⟩,q⟩:=q1
 subst e;cases r1
 obtain⟨its,rv,p,hz⟩:=I1.list hq
 refine wpAny_pyIter_list p.isList ?_
 refine⟨s1.heap.objs.size,[s1.heap.objs.size],_,_,H1,rfl,I1.kept (t':=s1.toks) λb o e=>Heap.get?_push_of_some _ e,uv a _,⟨_,Heap.get?_push_size _ rfl,rfl,rfl⟩,λb hb=>?_,q⟩
 have e:b=s1.heap.objs.size:=by simpa using hb
 subst e;exact I1.fpOk (Nat.le_refl _) (I1.hok.fresh (Nat.le_refl _))
theorem B0 {l:Expr}{tl:TE}(hl:PE X l tl):PI X tg l (E3 X.K tl):=by
 intro ae s σ H R I h;refine bV (hl ae s σ H _ I h) λv s1 hq_=>?_
 obtain⟨x,H1,I1,r1,q1⟩:=hq_
 obtain⟨a,e,⟨xs,hq⟩,q⟩:=q1
 subst e;cases r1
 obtain⟨its,rv,p,hz⟩:=I1.tuple hq
 refine wpAny_pyIter_tuple (show s1.heap.IsTuple a its.toArray from p) ?_
 refine⟨s1.heap.objs.size,[s1.heap.objs.size],_,_,H1,rfl,I1.kept (t':=s1.toks) λb o e=>Heap.get?_push_of_some _ e,rG a _,⟨_,Heap.get?_push_size _ rfl,rfl,rfl⟩,λb hb=>?_,q⟩
 have e:b=s1.heap.objs.size:=by simpa using hb
 subst e;exact I1.fpOk (Nat.le_refl _) (I1.hok.fresh (Nat.le_refl _))
theorem vM {ae:List (Addr×Obj)}{σ:St}{H:Hp}{s:Shared}{R:It->Hp->Prop}{E:Value->Shared->Prop}{lo hi:Int}{t u v:Tok}{tk:Nat}(I:Inv X ae σ H s)(h1: -(2^62)<=lo)(h2:lo<2^62)(h3: -(2^62)<=hi)(h4:hi<2^62)
 (q:R (D6 lo (hi-lo).toNat) H):wpAny (model X.prog X.w) X.A (pyIter (.ref s.heap.objs.size)) (Fb X ae σ tg R) E {s with heap:=s.heap.push {cls:=.type "range",data:=.fields #[.int lo t,.int hi u,.int 1 v]},toks:=tk}:=by
 refine wpAny_pyIter_range (IsRange.new ..) (small_one h1 h2 h3 h4) ?_
 have I1:Inv X ae σ H {s with heap:=s.heap.push {cls:=.type "range",data:=.fields #[.int lo t,.int hi u,.int 1 v]},toks:=tk}:=I.kept λb o e=>Heap.get?_push_of_some _ e
 refine⟨(s.heap.push {cls:=.type "range",data:=.fields #[.int lo t,.int hi u,.int 1 v]}).objs.size,[(s.heap.push {cls:=.type "range",data:=.fields #[.int lo t,.int hi u,.int 1 v]}).objs.size],_,_,H,rfl,
  I1.kept (t':=tk) λb o e=>Heap.get?_push_of_some _ e,r8 _ lo (hi-lo).toNat,?_,λb hb=>?_,q⟩
 ·have e1:lo+((0:Nat):Int)*1=lo:=by simp
  have e2:(((hi-lo).toNat:Nat):Int) - ((0:Nat):Int)=Builtin.Range.rangeSize lo hi 1:=by rw[rangeSize_one];split<;>omega
  show IsRangeIter _ _ (lo+((0:Nat):Int)*1) ((((hi-lo).toNat:Nat):Int) - ((0:Nat):Int)) 1;rw[e1,e2];exact Heap.get?_push_size _ rfl
 ·have e:b=(s.heap.push {cls:=.type "range",data:=.fields #[.int lo t,.int hi u,.int 1 v]}).objs.size:=by simpa using hb
  subst e;exact I1.fpOk (Nat.le_refl _) (I1.hok.fresh (Nat.le_refl _))
def CT(ta:TA):TI:=λσ H R=>ta σ H λvs H1=> ∃j:Int,vs=[.int j]/\ -(2^62)<=j/\j<2^62/\R (D6 0 j.toNat) H1
theorem vg {a:Expr}{ta:TA}{p pos:Pos}(hg:Gl X "range")(hm:X.mg "range"=none)(ha:PA X [a] ta)(hs:starEach [a] X.env=[(false,eval a X.env)]:=by rfl):PI X tg (.Call (.Name "range" p) [a] [] pos) (CT ta):=by
 intro ae s σ H R I h;refine Call_ (jJ I hg hm boot_range (PyProof.Rows.callWith_type1 (bV (ha pos ae s σ H _ I h) λus s1 ⟨vs,H1,I1,r1,q1⟩=>?_) hs rfl))
 obtain⟨j,e,q1,q2,q⟩:=q1
 subst e;cases r1 with
 |cons r rr=>
  cases rr
  obtain⟨t,rfl⟩:=r
  exact call_range_1 (vM I1 (by omega) (by omega) q1 q2 (by simpa using q))
def EI(wi:TI)(g:TG)(tb:TS):TS:=λD σ H=>wi σ H λJ H1=> ∃W:Nat->Nat->St->Hp->Prop,(∃m,W 0 m σ H1)/\ ∀i m σ H,W i m σ H->
 (J.stop i H/\D.nx σ H)\/(J.go i H/\ ∃N:St->Hp->Prop,(∀σ' H',N σ' H'-> ∃m',m'<m/\W (i+1) m' σ' H')/\ ∀x H',J.yld i H x H'->g x σ H' λσ2 H2=>tb {D with nx:=N,ct:=N,bk:=D.nx} σ2 H2)
def jG(fp:List Addr)(h:Heap):List (Addr×Obj):=fp.filterMap λb=>(h.get? b).map λo=>(b,o)
theorem dJ {fp:List Addr}{h:Heap}{b:Addr}{o:Obj}(hb:b∈fp)(e:h.get? b=some o):(b,o)∈jG fp h:=List.mem_filterMap.mpr ⟨b,hb,by rw[e];rfl⟩
theorem vh {fp:List Addr}{h:Heap}{p:Addr×Obj}(hp:p∈jG fp h):p.1∈fp/\h.get? p.1=some p.2:=by
 obtain⟨b,hb,e⟩:=List.mem_filterMap.mp hp
 cases q:h.get? b with
 |none=>rw[q] at e;cases e
 |some o=>
  rw[q] at e;have e':(b,o)=p:=Option.some.inj e
  subst e';exact⟨hb,q⟩
theorem Inv.pinned {ae:List (Addr×Obj)}{σ:St}{H:Hp}{s:Shared}{fp:List Addr}(I:Inv X ae σ H s)(hf: ∀b∈fp,gG X ae H b)(ho: ∀b∈fp,∃o,s.heap.get? b=some o/\ ∀v,o.data≠ .cell v):Inv X (ae++jG fp s.heap) σ H s:=
 I.pins_of λp hp=>(List.mem_append.mp hp).elim (λz=>I.pin p (List.mem_append_right _ z)) λz=>by
  obtain⟨hb,e⟩:=vh z
  obtain⟨f0,f1,f2,_⟩:=hf p.1 hb
  obtain⟨o,e',d⟩:=ho p.1 hb
  rw[e] at e';cases e';exact⟨e,f0,f1,f2,d⟩
theorem Inv.unpinned {ae pl:List (Addr×Obj)}{σ:St}{H:Hp}{s:Shared}(I:Inv X (ae++pl) σ H s):Inv X ae σ H s:=I.pins_of λp hp=>I.pin p (List.mem_append_right _ (List.mem_append_left _ hp))
theorem AJ {iter:Expr}{body:List Stmt}{wi:TI}{g:TG}{tb:TS}{pos:Pos}(hp:PassesOwn (model X.prog X.w) X.A X.env X.xe)(hc:X.calm=true)(hi:PI X tg iter wi)(hg:PG X tg g)(hb:PSs X body tb)
 (hs: ∀x,foldedSetIterable iter X.env x=pure x:=by intro _;rfl):PS X (.For tg iter body [] pos) (EI wi g tb):=by
 intro ae s σ H D I h;refine wpAny_For (bV (hi ae s σ H _ I h) λv s1 h1=>bV h1 λitv s2 h2=>?_) hs
 obtain⟨it,fp,tn,J,H2,e,I2,T,st2,f2,W,⟨m0,w0⟩,turn⟩:=h2
 subst e;have stat: ∀ {H':Hp},(∀b∈fp,H' b=none)-> ∀b∈fp,gG X ae H' b:=λhn b hb=>⟨hn b hb,(f2 b hb).2⟩
 refine codeAny_forLoop_any (λn s'=> ∃i σ' H',Inv X ae σ' H' s'/\tn i s'.heap/\(∀b∈fp,H' b=none)/\W i n σ' H') ?_ m0 ⟨0,σ,H2,I2,st2,λb hb=>(f2 b hb).1,w0⟩
 rintro n s3 ⟨i,σ3,H3,I3,st3,fr3,w3⟩
 rcases turn i n σ3 H3 w3 with⟨stop,qn⟩|⟨go,N,hN,step⟩
 ·refine wpAny_passesOwn hp (bV (T.done X rfl rfl rfl hc i ae s3 σ3 H3 X.xe I3 (stat fr3) st3 stop) λr s4 hq_=>?_)
  obtain⟨hr,I4⟩:=hq_
  subst hr;exact wpAny_execs_nil ⟨σ3,H3,I4,qn⟩
 ·refine wpAny_passesOwn hp (bV (T.item X rfl rfl rfl hc i ae s3 σ3 H3 X.xe I3 (stat fr3) st3 go) λr s4 hq_=>?_)
  obtain⟨u,hr,h4⟩:=hq_
  subst hr;refine wpAny_passesOwn hp (bV h4 λ_ s5 hq_=>?_)
  obtain⟨x,H5,I5,r5,y5,st5,fr5⟩:=hq_
  have I5':=I5.pinned (stat fr5) (T.obj _ _ st5)
  refine wpAny_passesOwn hp (bV (hg _ s5 σ3 H5 x u _ I5' r5 (step x H5 y5)) λ_ s6 hq_=>?_)
  obtain⟨σ6,H6,I6,q6⟩:=hq_
  refine wpAny_passesOwn hp (bV (hb _ s6 σ6 H6 _ I6 q6) λf s7 q7=>?_)
  have again: ∀ {σ7:St} {H7:Hp},Inv X (ae++jG fp s5.heap) σ7 H7 s7->N σ7 H7-> ∃m,m<n/\ ∃i σ' H',Inv X ae σ' H' s7/\tn i s7.heap/\(∀b∈fp,H' b=none)/\W i m σ' H':=λ{σ7 H7} I7 n7=>by
   obtain⟨m',hm,w7⟩:=hN σ7 H7 n7
   refine⟨m',hm,i+1,σ7,H7,I7.unpinned,T.keep _ _ _ st5 λb hb o e=>(I7.pin (b,o) (List.mem_append_right _ (List.mem_append_right _ (dJ hb e)))).1,λb hb=>?_,w7⟩
   obtain⟨o,e,d⟩:=T.obj _ _ st5 b hb
   exact(I7.pin (b,o) (List.mem_append_right _ (List.mem_append_right _ (dJ hb e)))).2.1
  cases f with
  |next=>obtain⟨σ7,H7,I7,n7⟩:=q7;exact again I7 n7
  |cont=>obtain⟨σ7,H7,I7,n7⟩:=q7;exact again I7 n7
  |brk=>obtain⟨σ7,H7,I7,q7⟩:=q7;exact⟨σ7,H7,I7.unpinned,q7⟩
  |ret v=>obtain⟨x7,σ7,H7,I7,r7,q7⟩:=q7;exact⟨x7,σ7,H7,I7.unpinned,r7,q7⟩
end
abbrev R2:=V->V->Hp->VK->Prop
def jn(X:Cx)(f:Value->Value->Sem Value)(r:R2):Prop:=
 ∀(ae:List (Addr×Obj)) (s:Shared) (σ:St) (H:Hp) (x y:V) (v u:Value) (Q:VK),Inv X ae σ H s->RelV x v->RelV y u->r x y H Q->
  wpAny (model X.prog X.w) X.A (f v u) (EP X ae σ Q) X.xe s
def E4(X:Cx)(f:Value->Sem Value)(r:V->Hp->VK->Prop):Prop:=
 ∀(ae:List (Addr×Obj)) (s:Shared) (σ:St) (H:Hp) (x:V) (v:Value) (Q:VK),Inv X ae σ H s->RelV x v->r x H Q->
  wpAny (model X.prog X.w) X.A (f v) (EP X ae σ Q) X.xe s
def eJ(X:Cx)(f:Value)(r:List V->Hp->VK->Prop):Prop:=
 ∀(ae:List (Addr×Obj)) (s:Shared) (σ:St) (H:Hp) (xs:List V) (us:List Value) (Q:VK),Inv X ae σ H s->Vals xs us->r xs H Q->
  wpAny (model X.prog X.w) X.A (call f us) (EP X ae σ Q) X.xe s
def EU(X:Cx)(r:V->Hp->(Bool->Hp->Prop)->Prop):Prop:=
 ∀(ae:List (Addr×Obj)) (s:Shared) (σ:St) (H:Hp) (x:V) (v:Value) (Q:Bool->Hp->Prop),Inv X ae σ H s->RelV x v->r x H Q->
  wpAny (model X.prog X.w) X.A (truthy v) (TP X ae σ Q) X.xe s
def Cn(r:R2)(ta tb:TE):TE:=λσ H Q=>ta σ H λx H1=>tb σ H1 λy H2=>r x y H2 Q
def Fy(r:V->Hp->VK->Prop)(ta:TE):TE:=λσ H Q=>ta σ H λx H1=>r x H1 Q
def rI(C:Int->Int->Prop)(g:Int->Int->V):R2:=λx y H Q=> ∃i j,x=.int i/\y=.int j/\C i j/\Q (g i j) H
def ye(g:Int->Int->V):R2:=λx y H Q=> ∃i j,x=.int i/\y=.int j/\Q (g i j) H
def rU(g:Int->V):V->Hp->VK->Prop:=λx H Q=> ∃i,x=.int i/\Q (g i) H
section
variable {X:Cx}{a b c:Expr}{ta tb tc:TE}{pos:Pos}
theorem BH(ha:PE X a ta)(hb:PE X b tb){ae:List (Addr×Obj)}{s:Shared}{σ:St}{H:Hp}{R:V->V->Hp->Prop}(I:Inv X ae σ H s)
 (h:ta σ H λx H1=>tb σ H1 λy H2=>R x y H2) {Q:Value->Shared->Prop} {f:Value->Value->Sem Value}
 (hf: ∀v u s2 x y H2,Inv X ae σ H2 s2->RelV x v->RelV y u->R x y H2->wpAny (model X.prog X.w) X.A (f v u) Q X.xe s2):
 wpAny (model X.prog X.w) X.A (eval a X.env) (λv s₁=>wpAny (model X.prog X.w) X.A (eval b X.env) (λu s₂=>wpAny (model X.prog X.w) X.A (f v u) Q X.xe s₂) X.xe s₁) X.xe s:=by
 refine bV (ha ae s σ H _ I h) λv s1 hq_=>?_
 obtain⟨x,H1,I1,r1,q1⟩:=hq_
 refine bV (hb ae s1 σ H1 _ I1 q1) λu s2 hq_=>?_
 obtain⟨y,H2,I2,r2,q2⟩:=hq_
 exact hf v u s2 x y H2 I2 r1 r2 q2
theorem zT {op:Operator}{r:R2}(ho:jn X (binaryOp op) r)(ha:PE X a ta)(hb:PE X b tb):PE X (.BinOp a op b pos) (Cn r ta tb):=by
 intro ae s σ H Q I h;exact wpAny_BinOp (BH ha hb I h λv u s2 x y H2 I2 rx ry q=>ho ae s2 σ H2 x y v u Q I2 rx ry q)
theorem Dm {op:UnaryOp}{r:V->Hp->VK->Prop}(ho:E4 X (unaryOp op) r)(ha:PE X a ta):PE X (.UnaryOp op a pos) (Fy r ta):=by
 intro ae s σ H Q I h;exact UnaryOp_ (bV (ha ae s σ H _ I h) λv s1 ⟨x,H1,I1,r1,q1⟩=>ho ae s1 σ H1 x v Q I1 r1 q1)
theorem D8 {f:Value->Value->Sem Value}{C:Int->Int->Prop}{g:Int->Int->Int}
 (rule: ∀(i j:Int) (t u:Tok) (s:Shared) (Q:Value->Shared->Prop) (E:Value->Shared->Prop),C i j->Q (.int (g i j) s.toks) {s with toks:=s.toks+1}->wpAny (model X.prog X.w) X.A (f (.int i t) (.int j u)) Q E s):
 jn X f (rI C λi j=>.int (g i j)):=by
 intro ae s σ H x y v u Q I rx ry h;obtain⟨i,j,rfl,rfl,hc,q⟩:=h
 obtain⟨t,rfl⟩:=rx
 obtain⟨t',rfl⟩:=ry
 exact rule i j t t' s _ _ hc ⟨.int (g i j),H,I.tok _,⟨_,rfl⟩,q⟩
theorem CD {f:Value->Value->Sem Value}{g:Int->Int->Int}
 (rule: ∀(i j:Int) (t u:Tok) (s:Shared) (Q:Value->Shared->Prop) (E:Value->Shared->Prop),Q (.int (g i j) s.toks) {s with toks:=s.toks+1}->wpAny (model X.prog X.w) X.A (f (.int i t) (.int j u)) Q E s):
 jn X f (ye λi j=>.int (g i j)):=by
 intro ae s σ H x y v u Q I rx ry h;obtain⟨i,j,rfl,rfl,q⟩:=h
 obtain⟨t,rfl⟩:=rx
 obtain⟨t',rfl⟩:=ry
 exact rule i j t t' s _ _ ⟨.int (g i j),H,I.tok _,⟨_,rfl⟩,q⟩
theorem zR {f:Value->Value->Sem Value}{g:Int->Int->Bool}
 (rule: ∀(i j:Int) (t u:Tok) (s:Shared) (Q:Value->Shared->Prop) (E:Value->Shared->Prop),Q (.bool (g i j)) s->wpAny (model X.prog X.w) X.A (f (.int i t) (.int j u)) Q E s):
 jn X f (ye λi j=>.bl (g i j)):=by
 intro ae s σ H x y v u Q I rx ry h;obtain⟨i,j,rfl,rfl,q⟩:=h
 obtain⟨t,rfl⟩:=rx
 obtain⟨t',rfl⟩:=ry
 exact rule i j t t' s _ _ ⟨.bl (g i j),H,I,rfl,q⟩
def DL(i j:Int):Prop:=0<=j/\j<=1000000/\i.natAbs<2^64
theorem vy:jn X (binaryOp .Add) (ye λi j=>.int (i+j)):=CD λ_ _ _ _ _ _ _ q=>add_int q
theorem AU:jn X (binaryOp .Sub) (ye λi j=>.int (i-j)):=CD λ_ _ _ _ _ _ _ q=>sub_int q
theorem A8:jn X (binaryOp .Mod) (rI (λ_ j=>0<j) λi j=>.int (i % j)):=D8 λi j _ _ _ _ _ hc q=>by
 have h1:(0:Int)<j:=hc
 exact mod_int' (by omega) (by rw[Int.fmod_eq_emod_of_nonneg i (by omega)];exact q)
theorem Bq:jn X (binaryOp .Pow) (rI DL λi j=>.int (i^j.toNat)):=D8 λ_ _ _ _ _ _ _ hc q=>pow_int_small hc.1 hc.2.1 hc.2.2 q
theorem Fn {f:Value->Sem Value}{g:Int->Int}
 (rule: ∀(i:Int) (t:Tok) (s:Shared) (Q:Value->Shared->Prop) (E:Value->Shared->Prop),Q (.int (g i) s.toks) {s with toks:=s.toks+1}->wpAny (model X.prog X.w) X.A (f (.int i t)) Q E s):
 E4 X f (rU λi=>.int (g i)):=by
 intro ae s σ H x v Q I rx h;obtain⟨i,rfl,q⟩:=h
 obtain⟨t,rfl⟩:=rx
 exact rule i t s _ _ ⟨.int (g i),H,I.tok _,⟨_,rfl⟩,q⟩
theorem BO:E4 X (unaryOp .USub) (rU λi=>.int (-i)):=Fn λ_ _ _ _ _ q=>neg_int q
end
section
variable {X:Cx}{a b c:Expr}{ta tb tc:TE}{pos:Pos}
theorem gZ:jn X (compareOp .Lt) (ye λi j=>.bl (decide (i<j))):=zR λ_ _ _ _ _ _ _ q=>lt_int q
theorem zV:jn X (compareOp .LtE) (ye λi j=>.bl (decide (i<=j))):=zR λ_ _ _ _ _ _ _ q=>le_int q
theorem DU:jn X (compareOp .Gt) (ye λi j=>.bl (decide (j<i))):=zR λ_ _ _ _ _ _ _ q=>gt_int q
theorem CA:jn X (compareOp .GtE) (ye λi j=>.bl (decide (j<=i))):=zR λ_ _ _ _ _ _ _ q=>ge_int q
theorem a8(b:Expr){op:CmpOp}(h:op≠ .In:=by decide)(h2:op≠ .NotIn:=by decide):behindInMarks op b=false:=by
 have e1:(op==CmpOp.In)=false:=by cases op<;>first|rfl|exact absurd rfl h
 have e2:(op==CmpOp.NotIn)=false:=by cases op<;>first|rfl|exact absurd rfl h2
 cases b<;>simp[behindInMarks,e1,e2]
theorem y6 {op:CmpOp}{r:R2}(ho:jn X (compareOp op) r)(ha:PE X a ta)(hb:PE X b tb)(hm:behindInMarks op b=false):PE X (.Compare a [op] [b] pos) (Cn r ta tb):=by
 intro ae s σ H Q I h;exact wpAny_Compare1 (BH ha hb I h λv u s2 x y H2 I2 rx ry q=>ho ae s2 σ H2 x y v u Q I2 rx ry q) hm
def DZ(t:TE):TT:=λσ H Q=>t σ H λx H'=> ∃k,x=.bl k/\Q k H'
theorem zp {op:CmpOp}{r:R2}(ho:jn X (compareOp op) r)(ha:PE X a ta)(hb:PE X b tb)(hm:behindInMarks op b=false):PT X (.Compare a [op] [b] pos) (DZ (Cn r ta tb)):=by
 intro ae s σ H Q I h;refine wpAny_isTrue_Compare1 (bV (ha ae s σ H _ I h) λv s1 ⟨x,H1,I1,r1,q1⟩=>bV (hb ae s1 σ H1 _ I1 q1) λu s2 ⟨y,H2,I2,r2,q2⟩=>
  bV (ho ae s2 σ H2 x y v u _ I2 r1 r2 q2) λc s3 ⟨z,H3,I3,r3,k,e,q3⟩=>?_) hm
 subst e;cases r3
 exact wpAny_truthy_bool ⟨H3,I3,q3⟩
def Bs(K:W.Frag)(x:V)(H:Hp)(k:Bool):Prop:=
 match x with
 | .non=>k=false
 | .bl b=>k=b
 | .int i=>k=(i !=0)
 | .str y=>y.length<=sizeLine/\k=((y.length:Int) !=0)
 | .byt y=>y.size<=sizeLine/\k=((y.size:Int) !=0)
 | .ref p=>(∃xs,SqL K H p xs/\k= !xs.isEmpty)\/(∃xs,SqT K H p xs/\k= !xs.isEmpty)\/ ∃kvs,H p=some (.dK kvs)/\k= !kvs.isEmpty
 |_=>False
theorem rA {κ:Type}{kvs:List (κ×V)}{vs:List (κ×Value)}(r:KV kvs vs):(!vs.isEmpty)= !kvs.isEmpty:=by
 cases r<;>rfl
theorem kN {xs:List V}{its:List Value}(r:Vals xs its):(!its.toArray.isEmpty)= !xs.isEmpty:=by
 cases r<;>simp
theorem iQ:(sizeLine:Nat)<2^63:=by rw[sizeLine_eq];decide
theorem BR:EU X (λx H Q=> ∃k,Bs X.K x H k/\Q k H):=by
 intro ae s σ H x v Q I rx h;obtain⟨k,e,q⟩:=h
 have hl:=iQ
 have hs:sizeLine=16777216:=sizeLine_eq
 cases x with
 |non=>
  cases rx
  have e':k=false:=e
  subst e';exact truthy_none ⟨H,I,q⟩
 |bl b=>
  cases rx
  have e':k=b:=e
  subst e';exact wpAny_truthy_bool ⟨H,I,q⟩
 |int i=>
  obtain⟨t,rfl⟩:=rx
  have e':k=(i !=0):=e
  subst e';exact PySem.P.truthy_int ⟨H,I,q⟩
 |str y=>
  obtain⟨t,rfl⟩:=rx
  obtain⟨hy,e'⟩:y.length<=sizeLine/\k=((y.length:Int) !=0):=e
  subst e';exact PySem.P.truthy_str (by omega) ⟨H,I.tok _,q⟩
 |byt y=>
  obtain⟨t,rfl⟩:=rx
  obtain⟨hy,e'⟩:y.size<=sizeLine/\k=((y.size:Int) !=0):=e
  subst e';exact W.truthy_bytes (by omega) ⟨H,I.tok _,q⟩
 |ref p=>
  cases rx
  have e':(∃xs,SqL X.K H p xs/\k= !xs.isEmpty)\/(∃xs,SqT X.K H p xs/\k= !xs.isEmpty)\/ ∃kvs,H p=some (.dK kvs)/\k= !kvs.isEmpty:=e
  rcases e' with⟨xs,hx,e'⟩|⟨xs,hx,e'⟩|⟨kvs,hx,e'⟩
  ·subst e'
   obtain⟨its,r,pl,hz⟩:=I.list hx
   have hlen:=r.length
   exact wpAny_truthy_list pl.isList (by simp only[List.size_toArray];omega) ⟨H,I.tok _,by rw[kN r];exact q⟩
  ·subst e'
   obtain⟨its,r,pl,hz⟩:=I.tuple hx
   have hlen:=r.length
   exact truthy_tuple pl (by simp only[List.size_toArray];omega) ⟨H,I.tok _,by rw[kN r];exact q⟩
  ·subst e'
   obtain⟨hz,hS,vs,r,m⟩:kvs.length<=sizeLine/\(p==sysModules)=false/\ ∃vs,KV kvs vs/\s.heap.DictOf (bC X.prog X.w) p vs:=I.hok p _ hx
   have hlen:kvs.length=vs.length:=Paired.length r
   exact wpAny_truthy_dict hS m (by omega) ⟨H,I.tok _,by rw[rA r];exact q⟩
 |_=>exact(show False from e).elim
theorem xF(ha:PE X a ta)(he: ∀whole,isTrue a X.env whole=(do let v <-whole;standAt a.pos;holding [v] (truthy v))):
 PT X a (λσ H Q=>ta σ H λx H'=> ∃k,Bs X.K x H' k/\Q k H'):=by
 intro ae s σ H Q I h;exact isTrue_plain (bV (ha ae s σ H _ I h) λv s1 ⟨x,H1,I1,r1,q1⟩=>BR ae s1 σ H1 x v Q I1 r1 q1) (he _)
theorem g9 {x:V}{us:List Value}(r:Vals [x] us): ∃u,us=[u]/\RelV x u:=by
 cases r with
 |cons r1 r2=>cases r2;exact⟨_,rfl,r1⟩
theorem Af {x y:V}{us:List Value}(r:Vals [x,y] us): ∃u w',us=[u,w']/\RelV x u/\RelV y w':=by
 cases r with
 |cons r1 r2=>
  cases r2 with
  |cons r3 r4=>cases r4;exact⟨_,_,rfl,r1,r3⟩
theorem xr:eJ X (.builtin "abs") (λxs H Q=> ∃i,xs=[.int i]/\Q (.int (if i<0 then -i else i)) H):=by
 intro ae s σ H xs us Q I r h;obtain⟨i,rfl,q⟩:=h
 obtain⟨u,rfl,t,rfl⟩:=g9 r
 exact call_abs_int λu tk=>⟨.int (if i<0 then -i else i),H,I.tok _,⟨_,rfl⟩,q⟩
theorem uC(hc:X.calm=true):eJ X (.builtin "min") (λxs H Q=> ∃i j,xs=[.int i,.int j]/\Q (.int (if j<i then j else i)) H):=by
 intro ae s σ H xs us Q I r h;obtain⟨i,j,rfl,q⟩:=h
 obtain⟨u,w',rfl,⟨t,rfl⟩,⟨t',rfl⟩⟩:=Af r
 refine min_two_ints (I.ok.hd hc) λh' tk k=>⟨_,H,I.kept k,?_,q⟩
 by_cases hj:j<i
 ·rw[if_pos hj,if_pos hj];exact⟨_,rfl⟩
 ·rw[if_neg hj,if_neg hj];exact⟨_,rfl⟩
theorem fF:eJ X (.type "int") (λxs H Q=>(∃i,xs=[.int i]/\Q (.int i) H)\/ ∃k,xs=[.bl k]/\Q (.int (if k then 1 else 0)) H):=by
 intro ae s σ H xs us Q I r h;rcases h with⟨i,rfl,q⟩|⟨k,rfl,q⟩
 ·obtain⟨u,rfl,t,rfl⟩:=g9 r
  exact call_int_int ⟨.int i,H,I,⟨_,rfl⟩,q⟩
 ·obtain⟨u,rfl,r1⟩:=g9 r
  cases r1
  exact call_int_bool ⟨.int (if k then 1 else 0),H,I.tok _,⟨_,rfl⟩,q⟩
end
theorem RelO.some_of {v:V}{o:Option Value}(r:RelO (some v) o): ∃u,o=some u/\RelV v u:=by
 cases o with
 |none=>exact(show False from r).elim
 |some u=>exact⟨u,rfl,r⟩
structure Room(k:Nat)(A:Around):Prop where
 hd:A.handled=none
 dp:A.depth+3*k+5<recursionLimit
 un:A.units+16*k+200<cLine
theorem Room.mono {j k:Nat}{A:Around}(r:Room k A)(h:j<=k):Room j A:=⟨r.hd,by have:=r.dp;omega,by have:=r.un;omega⟩
theorem Room.deeper {k:Nat}{A:Around}(r:Room (k+1) A)(env:Env):Room k (A.deeper env):=
 ⟨r.hd,by have:=r.dp;show A.depth+1+3*k+5<_;omega,by have:=r.un;show A.units+3+16*k+200<_;omega⟩
theorem Room.depth {k:Nat}{A:Around}(r:Room k A):A.depth<recursionLimit:=by have:=r.dp;omega
theorem Room.units {k:Nat}{A:Around}(r:Room k A):A.units+64<cLine:=by have:=r.un;omega
def ES:TA:=λ_ H Q=>Q [] H
def Dy(ta:TE)(tr:TA):TA:=λσ H Q=>ta σ H λx H1=>tr σ H1 λxs H2=>Q (x::xs) H2
section
variable {X:Cx}{e:Expr}{es:List Expr}{te:TE}{t:TA}{pos:Pos}
theorem eB:PA X [] ES:=λ_ _ _ _ H Q I h=>Calls.spliced_nil ⟨[],H,I,.nil,h⟩
theorem bF(ha:PE X e te)(hr:PA X es t)(hs:starEach (e::es) X.env=(false,eval e X.env)::starEach es X.env:=by rfl):PA X (e::es) (Dy te t):=by
 intro pos ae s σ H Q I h;rw[hs];show wpAny _ _ (spliced ((false,eval e X.env)::backTo pos (starEach es X.env))) _ _ s;refine Calls.spliced_cons (bV (ha ae s σ H _ I h) λu s1 hq_=>?_)
 obtain⟨x,H1,I1,r1,q1⟩:=hq_
 exact bV (hr pos ae s1 σ H1 _ I1 q1) λus s2 ⟨xs,H2,I2,r2,q2⟩=>⟨x::xs,H2,I2,.cons r1 r2,q2⟩
def Em(t:TA):TE:=λσ H Q=>t σ H λxs H1=>xs.length<=sizeLine/\ ∀p,H1 p=none->Q (.ref p) (bz H1 p (.tup xs))
def Es(t:TA):TE:=λσ H Q=>t σ H λxs H1=>xs.length<=sizeLine/\ ∀p,H1 p=none->Q (.ref p) (bz H1 p (.lst xs))
theorem wR {x1}(h:PA X es t):PE X (.Tuple es x1 pos) (Em t):=by
 intro ae s σ H Q I hq;refine wpAny_Tuple_spliced (bV (h pos ae s σ H _ I hq) λus s1 ⟨xs,H1,I1,r,z,q⟩=>⟨by rw[<-r.length];exact z,?_⟩)
 have hf:H1 s1.heap.objs.size=none:=I1.hok.fresh (Nat.le_refl _)
 refine⟨.ref s1.heap.objs.size,bz H1 s1.heap.objs.size (.tup xs),I1.laid (t':=s1.toks) (λb u e=>Heap.get?_push_of_some _ e) (Nat.le_refl _) ?_,rfl,q _ hf⟩
 exact⟨z,us,r,⟨_,Heap.get?_push_size _ rfl,rfl,_,rfl⟩,_,Heap.get?_push_size _ rfl,rfl⟩
theorem BP(h:PA X es t):PE X (.List es pos) (Es t):=by
 intro ae s σ H Q I hq;refine wpAny_List_spliced (bV (h pos ae s σ H _ I hq) λus s1 ⟨xs,H1,I1,r,z,q⟩=>⟨by rw[<-r.length];exact z,?_⟩)
 have hf:H1 s1.heap.objs.size=none:=I1.hok.fresh (Nat.le_refl _)
 refine⟨.ref s1.heap.objs.size,bz H1 s1.heap.objs.size (.lst xs),I1.laid (t':=s1.toks) (λb u e=>Heap.get?_push_of_some _ e) (Nat.le_refl _) ?_,rfl,q _ hf⟩
 exact⟨z,us,0,r,Heap.get?_push_size _ rfl⟩
end
abbrev Sp:=List V->Hp->VK->XK->Prop
abbrev wa:=List Env->Hp->Shared->XK->Value->Shared->Prop
structure Env0(P:Program)(w:World)(K:W.Frag)(mg:Str->Option Value)(base:Heap)(A:Around)(outer:List Env)(s:Shared)(H:Hp):Prop where
 frames:A.frames=some outer
 mod:Mod K mg base
 bs: ∀b o,base.get? b=some o->s.heap.get? b=some o/\H b=none
 bsz:base.objs.size<=s.heap.objs.size
 funs:s.heap.FunFrames base outer
 frf: ∀b∈frs outer,H b=none
 hok:HOk P w H s.heap
 bare:AllBare s.gens
def CE(outer:List Env)(P:Program)(w:World)(H:Hp)(s:Shared)(Q:VK)(u:Value)(s':Shared):Prop:=
 ∃v H',s'.os=s.os/\AllBare s'.gens/\Un (frs outer) [] H H' s.heap s'.heap/\HOk P w H' s'.heap/\RelV v u/\Q v H'
def CR(CX:wa)(outer:List Env)(P:Program)(w:World)(H:Hp)(s:Shared)(Q:VK)(E:XK)(r:Result)(s':Shared):Prop:=
 match r with
 | .ok (.ret u)=>CE outer P w H s Q u s'
 | .ok _=>False
 | .error e=>CX outer H s E e s'
structure FnOk(P:Program)(w:World)(K:W.Frag)(mg:Str->Option Value)(base:Heap)(CX:wa)(k:Nat)(f:Addr)(fd:FuncData)(ps:List Str)(sp:Sp):Prop where
 len: ∀vs H Q E,sp vs H Q E->vs.length=ps.length
 run: ∀(A:Around) (outer:List Env) (s:Shared) (H:Hp) (args:Args) (us:List Value) (vs:List V) (Q:VK) (E:XK),Room k A->Env0 P w K mg base A outer s H->BindsTo s fd args (ps.zip us)->Vals vs us->sp vs H Q E->
  codeAny (model P w) A (.call (.ref f) args) (CR CX outer P w H s Q E) s
theorem FnOk.imp {P:Program}{w:World}{K:W.Frag}{mg:Str->Option Value}{base:Heap}{CX:wa}{k:Nat}{f:Addr}{fd:FuncData}{ps:List Str}{sp sp':Sp}(F:FnOk P w K mg base CX k f fd ps sp)
 (h: ∀vs H Q E,sp' vs H Q E->sp vs H Q E):FnOk P w K mg base CX k f fd ps sp':=
 ⟨λvs H Q E q=>F.len vs H Q E (h _ _ _ _ q),λA outer s H args us vs Q E hr he hb hv hs=>F.run A outer s H args us vs Q E hr he hb hv (h _ _ _ _ hs)⟩
section
variable {X:Cx}{ae:List (Addr×Obj)}{σ:St}{H:Hp}{s s':Shared}
theorem Inv.env0(I:Inv X ae σ H s):Env0 X.prog X.w X.K X.mg X.base X.A X.stack s H:=
 ⟨I.ok.frames,I.ok.mod,I.bs,Nat.le_trans I.ok.bsz I.sz,I.stack,I.stkFree,I.hok,I.bare⟩
theorem Inv.after {Q:VK}{u:Value}(I:Inv X ae σ H s)(h:CE X.stack X.prog X.w H s Q u s'):EP X ae σ Q u s':=by
 obtain⟨v,H',os,bare,un,hok,r,q⟩:=h
 obtain⟨hh,g,d,t,os'⟩:=s'
 obtain rfl:os'=s.os:=os
 exact⟨v,H',I.call (h':=hh) (g':=g) (d':=d) (t':=t) (ch:=[]) un hok bare (λb z=>absurd z (by simp)),r,q⟩
end
def Dl(sp:Sp)(dvs:List V)(E:XK)(t:TA):TE:=λσ H Q=>t σ H λvs H1=>sp (vs++dvs) H1 Q E
def Binds(K:W.Frag)(fd:FuncData)(ps:List Str)(ds:List Value):Prop:=
 ∀(s:Shared) (us:List Value),K.In s.heap->(us++ds).length=ps.length->BindsTo s fd ⟨us,[]⟩ (ps.zip (us++ds))
theorem Binds.all {K:W.Frag}{fd:FuncData}{ps:List Str}(h: ∀us:List Value,us.length=ps.length->bindArgs fd ⟨us,[]⟩=pure (ps.zip us)):Binds K fd ps []:=λs us _ hl=>by
 rw[List.append_nil] at hl⊢;exact .of_eq (h us hl)
def qN(CX:wa)(X:Cx)(E:XK):Prop:= ∀(ae:List (Addr×Obj)) (σ:St) (H:Hp) (s:Shared) (e:Value) (s':Shared),Inv X ae σ H s->CX X.stack H s E e s'->X.xe e s'
section
variable {X:Cx}{CX:wa}{k:Nat}{f C:Addr}{fd:FuncData}{ps:List Str}{sp:Sp}{dvs:List V}{ds:List Value}{E:XK}{x m:Str}{p pos apos:Pos}{e o:Expr}{es:List Expr}{ta:TE}{t:TA}
theorem Ci {ae:List (Addr×Obj)}{σ:St}{H:Hp}{s:Shared}{Q:VK}{us:List Value}{vs:List V}(F:FnOk X.prog X.w X.K X.mg X.base CX k f fd ps sp)(hr:Room k X.A)(hb:Binds X.K fd ps ds)(hd:Vals dvs ds)(hx:qN CX X E)
 (I:Inv X ae σ H s) (r:Vals vs us) (h:sp (vs++dvs) H Q E):wpAny (model X.prog X.w) X.A (call (.ref f) us) (EP X ae σ Q) X.xe s:=by
 have r2:Vals (vs++dvs) (us++ds):=r.append hd
 have hl:(us++ds).length=ps.length:=by rw[<-r2.length];exact F.len _ _ _ _ h
 refine wpAny_call (codeAny_mono (F.run X.A X.stack s H ⟨us,[]⟩ (us++ds) (vs++dvs) Q E hr I.env0 (hb s us I.kIn hl) r2 h) λr s' hq=>?_)
 cases r with
 |error e=>exact hx ae σ H s e s' I hq
 |ok fl=>
  cases fl with
  |ret u=>exact I.after hq
  |next=>exact False.elim hq
  |brk=>exact False.elim hq
  |cont=>exact False.elim hq
theorem n5(F:FnOk X.prog X.w X.K X.mg X.base CX k f fd ps sp)(hr:Room k X.A)(hg:Gl X x)(hm:X.mg x=some (.ref f))(hk:W.keepIn X.K (.ref f)=true)(hb:Binds X.K fd ps ds)(hd:Vals dvs ds)(hx:qN CX X E)
 (ha:PA X (e::es) t) (hdb:(x==("__debug__":Str))=false:=by decide) (he:starEach (e::es) X.env=(false,eval e X.env)::starEach es X.env:=by rfl) (hpl:(backTo pos (starEach es X.env)).any (·.1)=false:=by rfl):
 PE X (.Call (.Name x p) (e::es) [] pos) (Dl sp dvs E t):=by
 intro ae s σ H Q I h;refine wpAny_Call_Name_kw (zI I hg hm ?_ hdb)
 refine W.callWith_K (h₀:=X.base) I.ok.mod.kin hk (bV (ha pos ae s σ H _ I h) λus s1 ⟨vs,H1,I1,r,q⟩=>⟨I1.kIn,?_⟩) he hpl
 exact Ci F hr hb hd hx I1 r q
end
structure FnScope(N P:List Str)(sc:Scope):Prop where
 kind:sc.kind=.function
 co:sc.isCoroutine=false
 gen:sc.isGenerator=false
 nd:N.Nodup
 pre:N.take P.length=P
 par: ∀x∈P,sc.names.lookup x=some .local\/sc.names.lookup x=some .cell
 nofree: ∀y∈sc.names,y.2≠ .free
theorem mn {kindOf:Str->Option NameKind}{x:Str}: ∀ {binds:List (Str×Value)} {m:Str->Option Value},(∀v,(x,v)∉binds)->bindL kindOf binds m x=m x
 | [],_,_=>rfl
 |(n,v)::r,m,h=>by
  unfold bindL;rw[mn λw hw=>h w (List.mem_cons_of_mem _ hw)]
  split
  ·have:x≠n:=by rintro rfl;exact h v List.mem_cons_self
   simp[this]
  ·rfl
theorem mT {kindOf:Str->Option NameKind}{x:Str}: ∀ {binds:List (Str×Value)} {m:Str->Option Value},(∀v,(x,v)∉binds)->bindC kindOf binds m x=m x
 | [],_,_=>rfl
 |(n,v)::r,m,h=>by
  unfold bindC;rw[mT λw hw=>h w (List.mem_cons_of_mem _ hw)]
  split
  ·rfl
  ·have:x≠n:=by rintro rfl;exact h v List.mem_cons_self
   simp[this]
theorem mF {kindOf:Str->Option NameKind}{x:Str}{v:Value}: ∀ {P:List Str} {vs:List Value} {i:Nat} {m:Str->Option Value},P.Nodup->P[i]? =some x->vs[i]? =some v->kindOf x=some .local->
 bindL kindOf (P.zip vs) m x=some v
 | [],_,_,_,_,h,_,_=>by simp at h
 |_::_,[],_,_,_,_,h,_=>by simp at h
 |p::P,w::vs,0,m,nd,h1,h2,hk=>by
  simp at h1 h2;subst h1;subst h2;show bindL kindOf ((p,w)::P.zip vs) m p=_;unfold bindL;rw[mn λv hv=>(List.nodup_cons.mp nd).1 (List.of_mem_zip hv).1,if_pos hk]
  simp
 |p::P,w::vs,i+1,m,nd,h1,h2,hk=>by
  show bindL kindOf ((p,w)::P.zip vs) m x=_;unfold bindL;exact mF (i:=i) (List.nodup_cons.mp nd).2 (by simpa using h1) (by simpa using h2) hk
theorem mS {kindOf:Str->Option NameKind}{x:Str}{v:Value}: ∀ {P:List Str} {vs:List Value} {i:Nat} {m:Str->Option Value},P.Nodup->P[i]? =some x->vs[i]? =some v->kindOf x≠some .local->
 bindC kindOf (P.zip vs) m x=some v
 | [],_,_,_,_,h,_,_=>by simp at h
 |_::_,[],_,_,_,_,h,_=>by simp at h
 |p::P,w::vs,0,m,nd,h1,h2,hk=>by
  simp at h1 h2;subst h1;subst h2;show bindC kindOf ((p,w)::P.zip vs) m p=_;unfold bindC;rw[mT λv hv=>(List.nodup_cons.mp nd).1 (List.of_mem_zip hv).1,if_neg hk]
  simp
 |p::P,w::vs,i+1,m,nd,h1,h2,hk=>by
  show bindC kindOf ((p,w)::P.zip vs) m x=_;unfold bindC;exact mS (i:=i) (List.nodup_cons.mp nd).2 (by simpa using h1) (by simpa using h2) hk
def start(N:List Str)(vs:List V):St:=vs.map some++List.replicate (N.length-vs.length) none
def md(CX:wa)(P:Program)(w:World)(K:W.Frag)(mg:Str->Option Value)(base:Heap)(N:List Str)(qual:Str)(scope:Scope)(f:Addr)(cd:Value)(A:Around)(outer:List Env)(s:Shared)(H:Hp)(E:XK):Cx where
 prog:=P
 w:=w
 K:=K
 mg:=mg
 base:=base
 A:=A.deeper (envOfC qual scope s.heap.objs.size f cd)
 N:=N
 s₀:=s
 H₀:=H
 env:=envOfC qual scope s.heap.objs.size f cd
 outer:=outer
 stack:=envOfC qual scope s.heap.objs.size f cd::outer
 ex:=[]
 calm:=true
 fn:=λ_=>true
 pn:=[]
 xe:=λe s'=>wpAny (model P w) (A.deeper (envOfC qual scope s.heap.objs.size f cd)) (leaving (envOfC qual scope s.heap.objs.size f cd) e) (λ_ s''=>CX outer H s E e s'') (λe' s''=>CX outer H s E e' s'') s'
theorem pC {sc:Scope}{n:Nat}{x:Str}(h:sc.names.lookup x=some .cell): ∃c,(cellsFrom n sc.names []).lookup x=some c:=by
 have q:=W.cellsFrom_some sc.names n [] (.inl h)
 exact Option.isSome_iff_exists.mp q
theorem vo {CX:wa}{P:Program}{w:World}{K:W.Frag}{mg:Str->Option Value}{base:Heap}{N ps:List Str}{qual:Str}{scope:Scope}{f:Addr}{cd:Value}{A:Around}{outer:List Env}{s s1:Shared}{H:Hp}{E:XK}{us:List Value}{vs:List V}
 (S:FnScope N ps scope) (hd:A.handled=none) (e0:Env0 P w K mg base A outer s H) (hl:vs.length=ps.length) (r:Vals vs us)
 (x:InCallC s s.heap.objs.size (bindL (envOfC qual scope s.heap.objs.size f cd).kindOf (ps.zip us) λ_=>none) (cellsFrom (s.heap.objs.size+1) scope.names []) (bindC (envOfC qual scope s.heap.objs.size f cd).kindOf (ps.zip us) λ_=>none) s1):
 Inv (md CX P w K mg base N qual scope f cd A outer s H E) [] (start N vs) H s1:=by
 have hpl:ps.length<=N.length:=by have:=congrArg List.length S.pre;rw[List.length_take] at this;omega
 obtain⟨h1,tk,rfl,hk⟩:=x.done
 have noA: ∀b:Addr,b∉(md CX P w K mg base N qual scope f cd A outer s H E).ex:=λb z=>absurd (show b∈([]:List Addr) from z) (by simp)
 refine⟨⟨e0.mod,S.kind,rfl,rfl,Nat.le_refl _,λy z c h1 h2=>?_,λy hy=>?_,λy c _ h=>?_,λ_=>hd,Around.frames_deeper e0.frames,.inr ⟨rfl,rfl⟩,λb z=>absurd z (noA b),e0.bs,e0.bsz,λb _ _=>noA b,λb z=>absurd z (noA b),e0.funs,e0.frf⟩,
  rfl,e0.bare,Un.kept hk,⟨_,x.toInCall.ns,λi y v h1 h2 h3=>?_⟩,λy c h=>⟨_,x.cell y c h⟩,e0.hok.fresh (Nat.le_refl _),λy c h=>?_,λp hp=>absurd (show p∈([]:List (Addr×Obj)) from hp) (by simp),e0.hok.kept hk,?_⟩
 ·exact name_of_addr x.apart (PySem.mem_of_lookup h1) (PySem.mem_of_lookup h2)
 ·have hy:scope.names.lookup y=some .cell\/scope.names.lookup y=some .free:=hy
  rcases hy with hy|hy
  ·exact pC hy
  ·exact absurd rfl (S.nofree _ (PySem.mem_of_lookup hy))
 ·exact Nat.le_of_lt (x.above y c (PySem.mem_of_lookup h))
 ·have hi:i<vs.length:=by
   unfold start at h2
   by_cases hi:i<vs.length
   ·exact hi
   ·rw[List.getElem?_append_right (by simpa using hi)] at h2
    rw[List.getElem?_replicate] at h2;split at h2<;>cases h2
  have ha:vs[i]? =some v:=by
   unfold start at h2;rw[List.getElem?_append_left (by simpa using hi),List.getElem?_map] at h2
   cases e:vs[i]? with
   |none=>rw[e] at h2;cases h2
   |some a=>rw[e] at h2;cases h2;rfl
  obtain⟨u,hu,rv⟩:=r.get ha
  have hp:ps[i]? =some y:=by
   rw[<-S.pre,List.getElem?_take_of_lt (by omega)];exact h1
  have ndP:ps.Nodup:=by rw[<-S.pre];exact S.nd.sublist (List.take_sublist _ _)
  refine⟨u,rv,?_⟩
  rcases S.par y (List.mem_of_getElem? hp) with k|k
  ·exact .inl ⟨k,mF ndP hp hu k⟩
  ·obtain⟨c,e⟩:=pC (n:=s.heap.objs.size+1) k
   refine .inr ⟨.inl k,c,e,?_⟩
   have q:=x.cell y c e
   rw[mS ndP hp hu (by show scope.names.lookup y≠_;rw[k];decide)] at q
   exact q
 ·exact e0.hok.fresh (Nat.le_of_lt (x.above y c (PySem.mem_of_lookup h)))
 ·unfold start
  show _=N.length;rw[List.length_append,List.length_map,List.length_replicate];omega
theorem Cz {CX:wa}{P:Program}{w:World}{K:W.Frag}{mg:Str->Option Value}{base:Heap}{k:Nat}{f:Addr}{name qual:Str}{params:Arguments}{body:List Stmt}{scope:Scope}{dV kV doc pm cdv ct oc:Value}{an od:Option Addr}
 {osl:Array (Option Value)} {N ps:List Str} {sp:Sp} (lk:K.lookup f=some ⟨oc,od,.func (W.fnOf name qual params body scope dV kV doc pm an cdv ct),osl⟩) (hcd:W.codeIn K cdv qual=true) (S:FnScope N ps scope)
 (len: ∀vs H Q E,sp vs H Q E->vs.length=ps.length)
 (hbody: ∀(A:Around) (outer:List Env) (s:Shared) (H:Hp) (vs:List V) (Q:VK) (E:XK),Room k (A.deeper (envOfC qual scope s.heap.objs.size f cdv))->sp vs H Q E->
   ∃t,PSs (md CX P w K mg base N qual scope f cdv A outer s H E) body t/\t {nx:=λ_ H'=>Q .non H',rt:=Q} (start N vs) H):
 FnOk P w K mg base CX (k+1) f (W.fnOf name qual params body scope dV kV doc pm an cdv ct) ps sp:=by
 refine⟨len,λA outer s H args us vs Q E hr e0 hb r hsp=>?_⟩
 have hl:=len _ _ _ _ hsp
 have KX:K.In s.heap:=e0.mod.kin.keeps λb o e=>(e0.bs b o e).1
 have lim:s.heap.NoLimit:=e0.mod.nolimit.keeps λb o e=>(e0.bs b o e).1
 have hkind: ∀y∈ps.zip us,scope.names.lookup y.1=some .local\/(scope.names.lookup y.1=some .cell/\((cellsFrom (s.heap.objs.size+1) scope.names []).lookup y.1).isSome=true):=λ⟨n,v⟩ hy=>by
  rcases S.par n (List.of_mem_zip hy).1 with q|q
  ·exact .inl q
  ·exact .inr ⟨q,W.cellsFrom_some _ _ _ (.inl q)⟩
 refine codeAny_call_function hr.depth (KX _ _ lk) rfl S.co S.gen rfl (W.codeRec_of KX hcd) (hb _ _ _ _ ?_)
 refine wpAny_newFunctionEnv_cells S.kind hkind λenv he s1 x=>?_
 subst he;refine⟨lim.keeps x.toInCall.keep,codeAny_func ?_⟩
 obtain⟨t,ht,hq⟩:=hbody A outer s H vs Q E (hr.deeper _) hsp
 have I:Inv (md CX P w K mg base N qual scope f cdv A outer s H E) [] (start N vs) H s1:=vo S hr.hd e0 hl r x
 refine wpAny_mono (ht [] s1 (start N vs) H _ I hq) (λfl s' hs=>?_) λe s' hs=>hs
 have fin: ∀ {σ':St} {H':Hp} {v:V} {u:Value},Inv (md CX P w K mg base N qual scope f cdv A outer s H E) [] σ' H' s'->RelV v u->Q v H'->CE outer P w H s Q u s':=
  λ{σ' H' v u} J rv q=>⟨v,H',J.os,J.bare,J.base,J.hok,rv,q⟩
 cases fl with
 |ret u=>
  obtain⟨v,σ',H',J,rv,q⟩:=hs
  exact fin J rv q
 |next=>
  obtain⟨σ',H',J,q⟩:=hs
  exact fin (v:=V.non) (u:=Value.none) J rfl q
 |brk=>
  obtain⟨_,_,_,q⟩:=hs
  exact False.elim q
 |cont=>
  obtain⟨_,_,_,q⟩:=hs
  exact False.elim q
section
variable {X:Cx}{x:Str}{p pos:Pos}{e:Expr}{es:List Expr}{t:TA}{id T:String}{r:List V->Hp->VK->Prop}
def EH(r:List V->Hp->VK->Prop)(t:TA):TE:=λσ H Q=>t σ H λvs H1=>r vs H1 Q
theorem lJ(hc:eJ X (.builtin id) r)(hg:Gl X x)(hm:X.mg x=none)(hv:bootBuiltins x=some (.builtin id))(ha:PA X (e::es) t)(hn:x≠"__name__":=by decide)(hdb:(x==("__debug__":Str))=false:=by decide)
 (he:starEach (e::es) X.env=(false,eval e X.env)::starEach es X.env:=by rfl) (hpl:(backTo pos (starEach es X.env)).any (·.1)=false:=by rfl):PE X (.Call (.Name x p) (e::es) [] pos) (EH r t):=by
 intro ae s σ H Q I h;refine wpAny_Call_Name_kw (jJ I hg hm hv ?_ hn hdb)
 exact PyProof.Rows.callWith_builtin1 (bV (ha pos ae s σ H _ I h) λus s1 ⟨vs,H1,I1,r1,q1⟩=>hc ae s1 σ H1 vs us Q I1 r1 q1) he hpl
theorem jD(hc:eJ X (.type T) r)(hg:Gl X x)(hm:X.mg x=none)(hv:bootBuiltins x=some (.type T))(ha:PA X (e::es) t)(hn:x≠"__name__":=by decide)(hdb:(x==("__debug__":Str))=false:=by decide)
 (he:starEach (e::es) X.env=(false,eval e X.env)::starEach es X.env:=by rfl) (hpl:(backTo pos (starEach es X.env)).any (·.1)=false:=by rfl):PE X (.Call (.Name x p) (e::es) [] pos) (EH r t):=by
 intro ae s σ H Q I h;refine wpAny_Call_Name_kw (jJ I hg hm hv ?_ hn hdb)
 exact PyProof.Rows.callWith_type1 (bV (ha pos ae s σ H _ I h) λus s1 ⟨vs,H1,I1,r1,q1⟩=>hc ae s1 σ H1 vs us Q I1 r1 q1) he hpl
end
end L2
namespace HT
open PySem PyProof.Rows
section
variable {prog:Program}{w:World}{A:Around}{E:Value->Shared->Prop}{s:Shared}
theorem cat_tup {t b:Addr}{vs ws:List Value}{Q:Value->Shared->Prop}(ht:IsTup s.heap t vs.toArray)(hb:IsTup s.heap b ws.toArray)(hv:vs≠[])
 (h1:ws=[]->Q (.ref t) s) (h2:ws≠[]->Q (.ref s.heap.objs.size) {s with heap:=s.heap.push {cls:=.type "tuple",data:=.seq (vs++ws).toArray}})
 (hsz:vs.length+ws.length<=sizeLine):wpAny (model prog w) A (binaryOp .Add (.ref t) (.ref b)) Q E s:=by
 obtain⟨⟨cls,dd,data,sl⟩,ho,hc,n,hd⟩:=id ht
 obtain⟨⟨cls2,dd2,data2,sl2⟩,ho2,hc2,n2,hd2⟩:=id hb
 simp only at hc hd hc2 hd2;subst hc hd hc2 hd2;have e:vs.toArray++ws.toArray=(vs++ws).toArray:=by simp
 by_cases hw:ws=[]
 ·exact concat_meets ⟨_,ho,rfl⟩ ⟨_,ho2,rfl⟩ noFill_tuple_add seq_tuple_add PySem.F.slot_tuple_add PySem.F.entry_tuple_add (PySem.F.args_tuple_add_2 _ _)
   (tuple_addW1 t b vs.toArray ws.toArray n n2 dd dd2 sl sl2 (by simpa using hv) (by simp[hw])) ⟨ho,ho2,h1 hw⟩
 ·refine concat_meets ⟨_,ho,rfl⟩ ⟨_,ho2,rfl⟩ noFill_tuple_add seq_tuple_add PySem.F.slot_tuple_add PySem.F.entry_tuple_add (PySem.F.args_tuple_add_2 _ _)
   (tuple_addW2 t b vs.toArray ws.toArray n n2 dd dd2 sl sl2 (by simpa using hv) (by simpa using hw) (by rw[List.size_toArray,List.size_toArray];exact hsz)) ⟨ho,ho2,?_⟩
  rw[e];exact h2 hw
def sIx(n d:Nat):Option Int->Nat
 |none=>d
 |some v=>if v<0 then(v+(n:Int)).toNat else min v.toNat n
theorem sIx_none(n d:Nat):sIx n d none=d:=rfl
theorem sIx_nat(n d k:Nat):sIx n d (some (k:Int))=min k n:=by
 show(if(k:Int)<0 then((k:Int)+(n:Int)).toNat else min (k:Int).toNat n)=min k n
 rw[if_neg (by omega),Int.toNat_natCast]
end
end HT
namespace L2
open PySem PySem.Spec PyProof.Rows
abbrev TO:=St->Hp->(Option Int->Hp->Prop)->Prop
def PO(X:Cx)(e:Option Expr)(t:TO):Prop:=
 ∀(ae:List (Addr×Obj)) (s:Shared) (σ:St) (H:Hp) (Q:Option Int->Hp->Prop),Inv X ae σ H s->t σ H Q->
  wpAny (model X.prog X.w) X.A (evalPart e X.env) (λu s'=> ∃o H',Inv X ae σ H' s'/\IsPart u o/\Q o H') X.xe s
def zd:TO:=λ_ H Q=>Q none H
def Dp(t:TE):TO:=λσ H Q=>t σ H λx H1=> ∃i,x=.int i/\Q (some i) H1
theorem rP {ns:List Int}: ∀ {us:List Value},Vals (ns.map V.int) us->IntsAre us ns:=by
 induction ns with
 |nil=>intro us r;rw[List.map_nil] at r;cases r;exact .nil
 |cons n ns ih=>
  intro us r;rw[List.map_cons] at r;cases r with
  |cons r1 r2=>
   obtain⟨t,e⟩:=r1
   subst e;exact .cons n t (ih r2)
section
variable {X:Cx}{e:Expr}{te:TE}{lo hi:Option Expr}{tl th:TO}{pos p2:Pos}
theorem zy:PO X none zd:=by
 intro ae s σ H Q I h;rw[evalPart_none];exact wpAny_pure ⟨none,H,I,.none,h⟩
theorem yE(h:PE X e te):PO X (some e) (Dp te):=by
 intro ae s σ H Q I hw;rw[evalPart_some];refine bV (h ae s σ H _ I hw) λu s1 hq_=>?_
 obtain⟨x,H1,I1,r1,q1⟩:=hq_
 obtain⟨i,rfl,q⟩:=q1
 obtain⟨t,rfl⟩:=r1
 exact⟨some i,H1,I1,.int i t,q⟩
def Fk(X:Cx)(r:V->Option Int->Option Int->Hp->VK->Prop):Prop:=
 ∀(ae:List (Addr×Obj)) (s:Shared) (σ:St) (H:Hp) (x:V) (v vl vu:Value) (lo hi:Option Int) (sl:Addr) (Q:VK),Inv X ae σ H s->RelV x v->s.heap.IsSliceOf sl vl vu .none->IsPart vl lo->IsPart vu hi->r x lo hi H Q->
  ∃T id,typeLookup (.type T) "__getitem__"=pure (some (.builtin id))/\s.TypeIs v T/\wpAny (model X.prog X.w) X.A (getItem v (.ref sl)) (EP X ae σ Q) X.xe s
def Fx(r:V->Option Int->Option Int->Hp->VK->Prop)(te:TE)(tl th:TO):TE:=λσ H Q=>te σ H λx H1=>tl σ H1 λl H2=>th σ H2 λu H3=>r x l u H3 Q
theorem vA {r:V->Option Int->Option Int->Hp->VK->Prop}(hr:Fk X r)(he:PE X e te)(hl:PO X lo tl)(hu:PO X hi th):PE X (.Subscript e (.Slice lo hi none p2) pos) (Fx r te tl th):=by
 intro ae s σ H Q I h;refine Subscript_ (bV (he ae s σ H _ I h) λv s1 hq_=>?_)
 obtain⟨x,H1,I1,r1,q1⟩:=hq_
 refine wpAny_Slice (bV (hl ae s1 σ H1 _ I1 q1) λvl s2 ⟨l,H2,I2,pl,q2⟩=>bV (hu ae s2 σ H2 _ I2 q2) λvu s3 hq_=>?_)
 obtain⟨u,H3,I3,pu,q3⟩:=hq_
 rw[evalPart_none];refine wpAny_pure ?_
 have I4:Inv X ae σ H3 {s3 with heap:=s3.heap.push {cls:=.type "slice",data:=.fields #[vl,vu,.none]}}:=I3.kept (t':=s3.toks) λb ob q=>Heap.get?_push_of_some _ q
 obtain⟨T,id,hT,ht,hg⟩:=hr ae {s3 with heap:=s3.heap.push {cls:=.type "slice",data:=.fields #[vl,vu,.none]}} σ H3 x v vl vu l u s3.heap.objs.size Q I4 r1 (Heap.IsSliceOf.new ..) pl pu q3
 show wpAny (model X.prog X.w) X.A (subscriptTail e (.Slice lo hi none p2) v (.ref s3.heap.objs.size)) (EP X ae σ Q) X.xe {s3 with heap:=s3.heap.push {cls:=.type "slice",data:=.fields #[vl,vu,.none]}}
 exact tail_any (ops:=[.ref s3.heap.objs.size,v]) ht hT hg (by with_unfolding_all rfl)
def uR(xs:List V)(lo hi:Option Int):List V:=(xs.drop (HT.sIx xs.length 0 lo)).take (HT.sIx xs.length xs.length hi-HT.sIx xs.length 0 lo)
theorem pf(xs:List V)(lo hi:Option Int):(uR xs lo hi).length<=xs.length:=by
 unfold uR;rw[List.length_take,List.length_drop];omega
def Ds(K:W.Frag):R2:=λx y H Q=> ∃a b xs ys,x=.ref a/\y=.ref b/\SqT K H a xs/\SqT K H b ys/\xs≠[]/\xs.length+ys.length<=sizeLine/\
 (ys=[]->Q (.ref a) H)/\(ys≠[]-> ∀p,H p=none->Q (.ref p) (bz H p (.tup (xs++ys))))
theorem Vals.nil_iff {xs:List V}{us:List Value}(r:Vals xs us):us=[]↔xs=[]:=by
 cases r with
 |nil=>simp
 |cons _ _=>simp
theorem zn:jn X (binaryOp .Add) (Ds X.K):=by
 intro ae s σ H x y v u Q I rx ry h;obtain⟨a,b,xs,ys,rfl,rfl,ha,hb,hx,hz,q1,q2⟩:=h
 cases rx
 cases ry
 obtain⟨its,r1,p1,_⟩:=I.tuple ha
 obtain⟨its2,r2,p2,_⟩:=I.tuple hb
 refine HT.cat_tup p1 p2 (λz=>hx (r1.nil_iff.mp z)) (λz=>⟨.ref a,H,I,rfl,q1 (r2.nil_iff.mp z)⟩) (λz=>?_) (by rw[<-r1.length,<-r2.length];exact hz)
 refine⟨.ref s.heap.objs.size,_,I.laid (t':=s.toks) (o:=.tup (xs++ys)) (λb ob q=>Heap.get?_push_of_some _ q) (Nat.le_refl _) ?_,rfl,q2 (λw=>z (r2.nil_iff.mpr w)) _ (I.hok.fresh (Nat.le_refl _))⟩
 exact⟨by rw[List.length_append];exact hz,_,r1.append r2,IsTup.new _ _,_,Heap.get?_push_size _ rfl,rfl⟩
end
def oo(n:Nat)(i:Int):Option Nat:=if 0<=i then(if i<n then some i.toNat else none) else if -(n:Int)<=i then some (i+n).toNat else none
def kI {α:Type}(xs:List α)(i:Int):Option α:=(oo xs.length i).bind λj=>xs[j]?
theorem n6 {n:Nat}{i:Int}{j:Nat}(h:oo n i=some j):seqIndex? i n=some j/\j<n/\ -(n:Int)<=i/\i<n:=by
 unfold oo at h
 by_cases h0:0<=i
 ·rw[if_pos h0] at h
  by_cases h1:i<n
  ·rw[if_pos h1] at h
   have e:i.toNat=j:=Option.some.inj h
   exact⟨by rw[seqIndex_of h0 h1,e],by omega,by omega,h1⟩
  ·rw[if_neg h1] at h;cases h
 ·rw[if_neg h0] at h
  by_cases h1: -(n:Int)<=i
  ·rw[if_pos h1] at h
   have e:(i+n).toNat=j:=Option.some.inj h
   exact⟨by rw[seqIndex_neg (by omega) h1,e],by omega,h1,by omega⟩
  ·rw[if_neg h1] at h;cases h
theorem nL {α:Type}{xs:List α}{i:Int}{v:α}(h:kI xs i=some v): ∃j,seqIndex? i xs.length=some j/\xs[j]? =some v/\j<xs.length/\ -(xs.length:Int)<=i/\i<xs.length:=by
 unfold kI at h;cases e:oo xs.length i with
 |none=>rw[e] at h;cases h
 |some j=>
  rw[e] at h;obtain⟨h1,h2,h3,h4⟩:=n6 e
  exact⟨j,h1,h,h2,h3,h4⟩
theorem y0 {α:Type}{xs:List α}{j:Nat}{v:α}(h:xs[j]? =some v):kI xs (j:Int)=some v:=by
 have hj:j<xs.length:=(List.getElem?_eq_some_iff.mp h).1
 have e:oo xs.length (j:Int)=some j:=by
  unfold oo;rw[if_pos (by omega),if_pos (by omega)];simp
 unfold kI;rw[e];exact h
def kE(b:Expr):Prop:= ∀o i,subscripted b false o i=operate [o,i] (getItem o i)
def IxR(X:Cx)(r:R2):Prop:=
 ∀(value slice:Expr) (ae:List (Addr×Obj)) (s:Shared) (σ:St) (H:Hp) (x y:V) (v u:Value) (Q:VK),Inv X ae σ H s->RelV x v->RelV y u->r x y H Q->
  subscripted slice false v u=operate [v,u] (getItem v u)->wpAny (model X.prog X.w) X.A (subscriptTail value slice v u) (EP X ae σ Q) X.xe s
def Fl(X:Cx)(id:String)(r:V->List V->Hp->VK->Prop):Prop:=
 ∀(ae:List (Addr×Obj)) (s:Shared) (σ:St) (H:Hp) (x:V) (xs:List V) (v:Value) (us:List Value) (Q:VK),Inv X ae σ H s->RelV x v->Vals xs us->r x xs H Q->
  wpAny (model X.prog X.w) X.A (call (.builtin id) (v::us)) (EP X ae σ Q) X.xe s
section
variable {X:Cx}{a b:Expr}{ta tb:TE}{pos:Pos}
theorem IxR.or {r r':R2}(h:IxR X r)(h':IxR X r'):IxR X (λx y H Q=>r x y H Q\/r' x y H Q):=by
 intro value slice ae s σ H x y v u Q I rx ry q hs;rcases q with q|q
 ·exact h value slice ae s σ H x y v u Q I rx ry q hs
 ·exact h' value slice ae s σ H x y v u Q I rx ry q hs
theorem Az {r:R2}(hr:IxR X r)(ha:PE X a ta)(hb:PE X b tb)(hs:kE b):PE X (.Subscript a b pos) (Cn r ta tb):=by
 intro ae s σ H Q I h;exact Subscript_ (BH ha hb I h λv u s2 x y H2 I2 rx ry q=>hr a b ae s2 σ H2 x y v u Q I2 rx ry q (hs _ _))
def CZ(K:W.Frag):R2:=λx y H Q=> ∃p xs i v,x=.ref p/\y=.int i/\SqL K H p xs/\kI xs i=some v/\Q v H
def CB(K:W.Frag):R2:=λx y H Q=> ∃p xs i v,x=.ref p/\y=.int i/\SqT K H p xs/\kI xs i=some v/\Q v H
def CM:R2:=λx y H Q=> ∃z i c,x=.str z/\y=.int i/\z.length<=sizeLine/\kI z.cps.toList i=some c/\Q (.str ⟨#[c]⟩) H
theorem ix_list:IxR X (CZ X.K):=by
 intro value slice ae s σ H x y v u Q I rx ry h hs;obtain⟨p,xs,i,z,rfl,rfl,hq,he,q⟩:=h
 cases rx
 obtain⟨t,rfl⟩:=ry
 obtain⟨its,r,pl,hz⟩:=I.list hq
 obtain⟨j,h1,h2,h3,h4,h5⟩:=nL he
 obtain⟨w,ew,rw'⟩:=r.get h2
 have hl:=r.length
 have hn:=iQ
 have fin:EP X ae σ Q w s:=⟨z,H,I,rw',q⟩
 by_cases h0:0<=i
 ·have hj:i.toNat=j:=by
   rw[seqIndex_of h0 h5] at h1;exact Option.some.inj h1
  exact item_listR pl.isList h0 (by omega) (by rw[hj];simpa using ew) fin hs
 ·have hj:(i+(its.toArray.size:Int)).toNat=j:=by
   rw[seqIndex_neg (by omega) h4] at h1
   rw[List.size_toArray,<-hl];exact Option.some.inj h1
  exact subscriptTail_builtinR (x:=w) pl.isList.typeIs slot_list_getitem.lookup
   (wpAny_getItem_list_neg (Q:=λr s'=>r=w/\EP X ae σ Q r s') pl.isList (by omega) (by rw[List.size_toArray]<;>omega) (by omega) (by rw[hj];simpa using ew) ⟨rfl,fin⟩) hs
theorem ix_tup:IxR X (CB X.K):=by
 intro value slice ae s σ H x y v u Q I rx ry h hs;obtain⟨p,xs,i,z,rfl,rfl,hq,he,q⟩:=h
 cases rx
 obtain⟨t,rfl⟩:=ry
 obtain⟨its,r,pl,hz⟩:=I.tuple hq
 obtain⟨j,h1,h2,h3,h4,h5⟩:=nL he
 obtain⟨w,ew,rw'⟩:=r.get h2
 have hl:=r.length
 have hn:=iQ
 have fin:EP X ae σ Q w s:=⟨z,H,I,rw',q⟩
 exact subscriptTail_builtinR (x:=w) pl.typeIs slot_tuple_getitem.lookup
  (getItem_tuple (j:=j) (Q:=λr s'=>r=w/\EP X ae σ Q r s') pl (by omega) (by omega) (by rw[List.size_toArray,<-hl];exact h1) (by simpa using ew) ⟨rfl,fin⟩) hs
theorem AG:IxR X CM:=by
 intro value slice ae s σ H x y v u Q I rx ry h hs;obtain⟨z,i,c,rfl,rfl,hz,he,q⟩:=h
 obtain⟨t,rfl⟩:=rx
 obtain⟨t',rfl⟩:=ry
 obtain⟨j,h1,h2,h3,h4,h5⟩:=nL he
 have hl:z.cps.toList.length=z.length:=by simp[Str.length]
 rw[hl] at h1 h4 h5;have hn:=iQ
 exact tail_any (typeIs_str s z t) slot_str_getitem.lookup (getItem_str (c:=c) (by
  have e1:decide (i< -(2^63:Int))=false:=decide_eq_false (by omega)
  have e2:decide (i≥2^63)=false:=decide_eq_false (by omega)
  rw[e1,e2,Bool.or_false]) (by rw[h1];simpa using h2) ⟨.str ⟨#[c]⟩,H,I.tok _,⟨_,rfl⟩,q⟩) hs
def Fg(K:W.Frag):R2:=λx y H Q=>CZ K x y H Q\/CB K x y H Q\/CM x y H Q
theorem aF:IxR X (Fg X.K):=ix_list.or (ix_tup.or AG)
theorem rq(its:List Value)(n j:Nat)(u:Value):Obj.mapSeq (·.setIfInBounds j u) {cls:=.type "list",data:=.seq its.toArray n}={cls:=.type "list",data:=.seq (its.set j u).toArray n}:=by
 simp[Obj.mapSeq]
theorem Inv.lst {ae:List (Addr×Obj)}{σ:St}{H:Hp}{s:Shared}{p:Addr}{xs:List V}(I:Inv X ae σ H s)(h:H p=some (.lst xs)):
 ∃(its:List Value) (n:Nat),Vals xs its/\s.heap.get? p=some {cls:=.type "list",data:=.seq its.toArray n}/\xs.length<=sizeLine:=by
 obtain⟨z,its,n,r,e⟩:=I.hok p _ h
 exact⟨its,n,r,e,z⟩
theorem Inv.lstUpd {ae:List (Addr×Obj)}{σ:St}{H:Hp}{s:Shared}{p:Addr}{xs ys:List V}{its its':List Value}{n n':Nat}{f:Obj->Obj}(I:Inv X ae σ H s)(h:H p=some (.lst xs))
 (ho:s.heap.get? p=some {cls:=.type "list",data:=.seq its.toArray n}) (hf:f {cls:=.type "list",data:=.seq its.toArray n}={cls:=.type "list",data:=.seq its'.toArray n'}) (r:Vals ys its') (hz:ys.length<=sizeLine) (t:Nat):
 Inv X ae σ (bz H p (.lst ys)) {s with heap:=s.heap.update p f,toks:=t}:=by
 have e:(s.heap.update p f).get? p=some {cls:=.type "list",data:=.seq its'.toArray n'}:=by
  rw[Heap.get?_update_self f ho (by rw[hf]<;>rfl),hf]
 refine I.write (x:=p) (e:=p) (by rw[h];trivial) (.inl rfl) (λb u hb q=>(Heap.get?_update_other _ _ (Ne.symm hb)).trans q) ⟨_,e⟩ ?_
 exact⟨hz,its',n',r,e⟩
def C4:V->V->V->Hp->(Hp->Prop)->Prop:=λo i v H Q=> ∃p xs k j,o=.ref p/\i=.int k/\H p=some (.lst xs)/\oo xs.length k=some j/\Q (bz H p (.lst (xs.set j v)))
theorem xH:C9 X C4:=by
 intro ae s σ H o i v ov iv u Q I ro ri rv h;obtain⟨p,xs,k,j,rfl,rfl,hp,hj,q⟩:=h
 cases ro
 obtain⟨t,rfl⟩:=ri
 obtain⟨its,n,r,ho,hz⟩:=I.lst hp
 obtain⟨h1,h2,h3,h4⟩:=n6 hj
 have hl:=r.length
 have hn:=iQ
 have I':Inv X ae σ (bz H p (.lst (xs.set j v))) {s with heap:=s.heap.update p (Obj.mapSeq (·.setIfInBounds j u))}:=
  I.lstUpd hp ho (rq its n j u) (r.set rv j) (by rw[List.length_set];exact hz) s.toks
 by_cases h0:0<=k
 ·have hk:k.toNat=j:=by
   rw[seqIndex_of h0 h4] at h1;exact Option.some.inj h1
  exact W.ki_setAt ho h0 (by omega) (by rw[List.size_toArray,<-hl];exact h4) (by rw[hk];exact⟨_,I',q⟩)
 ·have hk:(k+(its.toArray.size:Int)).toNat=j:=by
   rw[seqIndex_neg (by omega) h3] at h1
   rw[List.size_toArray,<-hl];exact Option.some.inj h1
  exact W.ki_setBack ho (by omega) (by rw[List.size_toArray,<-hl];exact h3) (by omega) (by rw[hk];exact⟨_,I',q⟩)
theorem nv(lo hi:Option Int)(n:Nat):(sliceBounds lo hi none n).1=((HT.sIx n 0 lo:Nat):Int)/\(sliceBounds lo hi none n).2.1=((HT.sIx n n hi:Nat):Int)/\(sliceBounds lo hi none n).2.2=1:=by
 refine⟨?_,?_,rfl⟩
 ·cases lo with
  |none=>simp[sliceBounds,HT.sIx]
  |some i=>
   simp only[sliceBounds,HT.sIx,Option.getD_none,show(1:Int)>0 by decide,if_true]
   by_cases h:i<0
   ·simp only[h,if_true]<;>omega
   ·simp only[h,if_false]<;>omega
 ·cases hi with
  |none=>simp[sliceBounds,HT.sIx]
  |some i=>
   simp only[sliceBounds,HT.sIx,Option.getD_none,show(1:Int)>0 by decide,if_true]
   by_cases h:i<0
   ·simp only[h,if_true]<;>omega
   ·simp only[h,if_false]<;>omega
theorem lW(its:List Value)(lo hi:Option Int):slicePick its.toArray lo hi none=((its.drop (HT.sIx its.length 0 lo)).take (HT.sIx its.length its.length hi-HT.sIx its.length 0 lo)).toArray:=by
 obtain⟨h1,h2,h3⟩:=nv lo hi its.toArray.size
 unfold slicePick;rw[h1,h2,h3];simp only[sliceRange_one,pick_run,List.size_toArray]<;>rfl
def EZ(K:W.Frag):V->Option Int->Option Int->Hp->VK->Prop:=λx lo hi H Q=> ∃a xs,x=.ref a/\SqL K H a xs/\ ∀p,H p=none->Q (.ref p) (bz H p (.lst (uR xs lo hi)))
theorem yR:Fk X (EZ X.K):=by
 intro ae s σ H x v vl vu lo hi sl Q I rx hs pl pu h;obtain⟨a,xs,rfl,hx,q⟩:=h
 cases rx
 obtain⟨its,r,ht,hz⟩:=I.list hx
 have hlen:=r.length
 refine⟨"list",_,slot_list_getitem.lookup,ht.isList.typeIs,?_⟩
 refine wpAny_getItem_list_slice ht.isList hs pl pu .none (by simp) ?_ (by rw[List.size_toArray]<;>omega)
 rw[lW,<-hlen];refine⟨.ref s.heap.objs.size,_,I.laid (t':=s.toks) (o:=.lst (uR xs lo hi)) (λb ob q=>Heap.get?_push_of_some _ q) (Nat.le_refl _) ?_,rfl,q _ (I.hok.fresh (Nat.le_refl _))⟩
 exact⟨Nat.le_trans (pf xs lo hi) hz,_,0,(r.drop (HT.sIx xs.length 0 lo)).take (HT.sIx xs.length xs.length hi-HT.sIx xs.length 0 lo),Heap.get?_push_size _ rfl⟩
theorem aI:eJ X (.builtin "len") (λxs H Q=> ∃p ys,xs=[.ref p]/\(SqL X.K H p ys\/SqT X.K H p ys)/\Q (.int ys.length) H):=by
 intro ae s σ H xs us Q I r h;obtain⟨p,ys,rfl,hq,q⟩:=h
 obtain⟨u,rfl,rx⟩:=g9 r
 cases rx
 have hn:=iQ
 rcases hq with hq|hq
 ·obtain⟨its,r',pl,hz⟩:=I.list hq
  have hlen:=r'.length
  exact Calls.call_len_list pl.isList (by simp only[List.size_toArray]<;>omega) ⟨.int ys.length,H,I.tok _,⟨s.toks+1,by rw[List.size_toArray,hlen]⟩,q⟩
 ·obtain⟨its,r',pl,hz⟩:=I.tuple hq
  have hlen:=r'.length
  exact len_tuple pl (by simp only[List.size_toArray]<;>omega) ⟨.int ys.length,H,I.tok _,⟨s.toks+1,by rw[List.size_toArray,hlen]⟩,q⟩
theorem iu:eJ X (.type "tuple") (λxs H Q=> ∃p ys,xs=[.ref p]/\((SqL X.K H p ys/\ ∀l,H l=none->Q (.ref l) (bz H l (.tup ys)))\/(SqT X.K H p ys/\Q (.ref p) H))):=by
 intro ae s σ H xs us Q I r h;obtain⟨p,ys,rfl,h⟩:=h
 obtain⟨u,rfl,rx⟩:=g9 r
 cases rx
 rcases h with⟨hq,q⟩|⟨hq,q⟩
 ·obtain⟨its,r',pl,hz⟩:=I.list hq
  have hlen:=r'.length
  refine call_tuple_list pl.isList (λh' kp=>?_) (by simp only[List.size_toArray]<;>omega)
  have I1:Inv X ae σ H {s with heap:=h'}:=I.kept (t':=s.toks) kp
  have I2:Inv X ae σ (bz H h'.objs.size (.tup ys)) {s with heap:=h'.push {cls:=.type "tuple",data:=.seq its.toArray}}:=
   I1.laid (t':=s.toks) (λb o e=>Heap.get?_push_of_some _ e) (Nat.le_refl _) (show ObjOk X.prog X.w _ _ _ (.tup ys) from⟨hz,its,r',IsTup.new _ _,_,Heap.get?_push_size _ rfl,rfl⟩)
  exact⟨.ref h'.objs.size,_,I2,rfl,q _ (I1.hok.fresh (Nat.le_refl _))⟩
 ·obtain⟨its,r',pl,hz⟩:=I.tuple hq
  exact call_tuple_same pl ⟨.ref p,H,I,rfl,q⟩
def Fj(K:W.Frag)(T:String)(x:V)(H:Hp):Prop:=match x with
 | .str _=>T="str"
 | .int _=>T="int"
 | .ref p=>(T="list"/\ ∃xs,SqL K H p xs)\/(T="tuple"/\ ∃xs,SqT K H p xs)\/
    (T="dict"/\((∃kvs,H p=some (.dK kvs))\/ ∃kvs,H p=some (.dT kvs)))\/(T="set"/\ ∃S n,H p=some (.set S n))\/(T="set"/\ ∃xs,H p=some (.tst xs))
 |_=>False
theorem BA {ae:List (Addr×Obj)}{σ:St}{H:Hp}{s:Shared}{T:String}{x:V}{v:Value}(I:Inv X ae σ H s)(r:RelV x v)(ty:Fj X.K T x H):
 s.TypeIs v T/\ ∀a,v=.ref a-> ∃ob,s.heap.get? a=some ob/\ob.dict=none:=by
 cases x with
 |str z=>
  obtain⟨t,rfl⟩:=r
  cases (show T="str" from ty)
  exact⟨typeIs_str s z t,λ_ e=>nomatch e⟩
 |int i=>
  obtain⟨t,rfl⟩:=r
  cases (show T="int" from ty)
  exact⟨typeIs_int s i t,λ_ e=>nomatch e⟩
 |ref p=>
  cases r
  rcases ty with⟨rfl,xs,hq⟩|⟨rfl,xs,hq⟩|⟨rfl,hk⟩|⟨rfl,S,n,hk⟩|⟨rfl,xs,hk⟩
  ·obtain⟨its,_,pl,_⟩:=I.list hq
   refine⟨pl.isList.typeIs,λa e=>?_⟩
   cases e
   obtain⟨o,n,e,c,hd,_⟩:=pl
   exact⟨o,e,hd⟩
  ·obtain⟨⟨ob,ho,hc⟩,o2,h2,hd⟩:=I.tupleN hq
   refine⟨⟨ob,ho,hc⟩,λa e=>?_⟩
   cases e
   exact⟨o2,h2,hd⟩
  ·have z: ∃o,s.heap.get? p=some o/\o.ExactDict:=by
    rcases hk with⟨kvs,hk⟩|⟨kvs,hk⟩
    ·obtain⟨_,_,_,_,o,_,_,e,ex,_⟩:=I.hok p _ hk
     exact⟨o,e,ex⟩
    ·obtain⟨_,_,_,_,o,_,_,e,ex,_⟩:=I.hok p _ hk
     exact⟨o,e,ex⟩
   obtain⟨o,e,ex⟩:=z
   refine⟨⟨o,e,ex.1⟩,λa e2=>?_⟩
   cases e2
   exact⟨o,e,ex.2.1⟩
  ·obtain⟨o,_,_,_,e,ex,_⟩:=I.hok p _ hk
   refine⟨⟨o,e,ex.1⟩,λa e2=>?_⟩
   cases e2
   exact⟨o,e,ex.2.1⟩
  ·obtain⟨o,_,_,_,e,ex⟩:=I.hok p _ hk
   refine⟨⟨o,e,ex.ex.1⟩,λa e2=>?_⟩
   cases e2
   exact⟨o,e,ex.ex.2.1⟩
 |_=>exact False.elim ty
def FB(K:W.Frag)(T:String)(r:V->List V->Hp->VK->Prop)(to:TE)(t:TA):TE:=λσ H Q=>to σ H λx H1=>Fj K T x H1/\t σ H1 λxs H2=>r x xs H2 Q
variable {o e:Expr}{es:List Expr}{to:TE}{t:TA}{name:Str}{apos cpos:Pos}{T id:String}{r:V->List V->Hp->VK->Prop}
theorem tO(pa:PlainAttrs T)(slot:Slot T name id)(hty:typeOf (.builtin id)=pure (.type "method_descriptor"))(hm:Fl X id r)(ho:PE X o to)(ha:PA X (e::es) t)
 (hbase:attributeBase o name X.env (eval o X.env)=eval o X.env:=by rfl)
 (hfew:((backTo cpos (starEach (e::es) X.env)).all (λx=> !x.1)&&(backToKw cpos (keywordEach [] X.env)).all (λx=>x.1.isSome)
   &&decide ((e::es).length+([]:List Keyword).length+(if([]:List Keyword).isEmpty then 0 else 1)<30))=true:=by rfl)
 (hline:(apos.endLine==cpos.line)=true:=by rfl) (hs:starEach (e::es) X.env=(false,eval e X.env)::starEach es X.env:=by rfl) (hplain:(backTo cpos (starEach es X.env)).any (·.1)=false:=by rfl):
 PE X (.Call (.Attribute o name apos) (e::es) [] cpos) (FB X.K T r to t):=by
 intro ae s σ H Q I h;refine wpAny_Call_method_late hbase hfew hline rfl (bV (ho ae s σ H _ I h) λv s1 hq_=>?_)
 obtain⟨x,H1,I1,r1,ty,q1⟩:=hq_
 obtain⟨h1,h2⟩:=BA I1 r1 ty
 refine⟨T,id,pa,slot,hty,h1,h2,?_⟩
 have hA:=ha cpos ae s1 σ H1 _ I1 q1
 rw[hs] at hA⊢;refine Calls.callWith_builtin (by show(false||(backTo cpos (starEach es X.env)).any (·.1))=false;rw[hplain]<;>rfl) (Calls.evalArgs_plain ?_)
 exact bV hA λus s2 ⟨vs,H2,I2,r2,q2⟩=>hm ae s2 σ H2 x vs v us Q I2 r1 r2 q2
end
def D2(X:Cx)(id:String)(r:V->List V->Hp->VK->Prop):Prop:=
 ∀(ae:List (Addr×Obj)) (s:Shared) (σ:St) (H:Hp) (x:V) (xs:List V) (v:Value) (us:List Value) (Q:VK),Inv X ae σ H s->RelV x v->Vals xs us->r x xs H Q->
  wpAny (model X.prog X.w) X.A (call (.builtin id) (v::us)) (EP X ae σ Q) X.xe s
theorem Vals.one: ∀ {x:V} {us:List Value},Vals [x] us-> ∃u,us=[u]/\RelV x u
 |_,_,.cons r .nil=>⟨_,rfl,r⟩
theorem Vals.eraseIdx: ∀ {xs:List V} {us:List Value} (i:Nat),Vals xs us->Vals (xs.eraseIdx i) (us.eraseIdx i)
 |_,_,_,.nil=>.nil
 |_,_,0,.cons _ t=>t
 |_,_,i+1,.cons r t=>.cons r (Vals.eraseIdx i t)
theorem jx {α:Type}: ∀(l:List α) (i:Nat),(l.eraseIdx i).length<=l.length
 | [],_=>Nat.le_refl _
 |_::_,0=>Nat.le_succ _
 |_::r,i+1=>Nat.succ_le_succ (jx r i)
section
variable {X:Cx}{ae:List (Addr×Obj)}{σ:St}{H:Hp}{s:Shared}{l b:Addr}{xs ys zs:List V}
theorem Inv.lset {its its':List Value}{n:Nat}{f:Array Value->Array Value}{t':Nat}(I:Inv X ae σ H s)(hH:H l=some (.lst xs))
 (e:s.heap.get? l=some {cls:=.type "list",data:=.seq its.toArray n}) (hf:f its.toArray=its'.toArray) (hv:Vals ys its') (hz:ys.length<=sizeLine):
 Inv X ae σ (bz H l (.lst ys)) {s with heap:=s.heap.update l (Obj.mapSeq f),toks:=t'}:=by
 have q:=PySem.IsL.update e f
 rw[hf] at q;refine I.write (x:=l) (e:=l) (by rw[hH];exact trivial) (.inl rfl) (λb' u hb hu=>(Heap.get?_update_other s.heap (Obj.mapSeq f) (Ne.symm hb)).trans hu) ⟨_,q⟩ ?_
 exact⟨hz,its',_,hv,q⟩
theorem Inv.lnew {its:List Value}{t':Nat}(I:Inv X ae σ H s)(hv:Vals ys its)(hz:ys.length<=sizeLine):
 Inv X ae σ (bz H s.heap.objs.size (.lst ys)) {s with heap:=s.heap.push {cls:=.type "list",data:=.seq its.toArray},toks:=t'}:=
 I.laid (λ_ _ q=>Heap.get?_push_of_some _ q) (Nat.le_refl _) ⟨hz,its,0,hv,Heap.get?_push_size _ rfl⟩
theorem Inv.fresh(I:Inv X ae σ H s):H s.heap.objs.size=none:=I.hok.fresh (Nat.le_refl _)
theorem Inv.lstM(I:Inv X ae σ H s)(hH:H l=some (.lst xs)):xs.length<=sizeLine/\ ∃(its:List Value) (n:Nat),Vals xs its/\xs.length=its.length/\s.heap.get? l=some {cls:=.type "list",data:=.seq its.toArray n}:=by
 obtain⟨z,its,n,r,e⟩:=I.hok l _ hH
 exact⟨z,its,n,r,r.length,e⟩
theorem w8 {n:Nat}(h:n<=sizeLine):Builtin.List.listTooLong n=false:=by
 unfold Builtin.List.listTooLong;exact decide_eq_false (by omega)
end
section
variable {X:Cx}
def sS:V->List V->Hp->VK->Prop:=λx vs H Q=> ∃l xs y,x=.ref l/\vs=[y]/\H l=some (.lst xs)/\xs.length<sizeLine/\Q .non (bz H l (.lst (xs++[y])))
theorem dH:D2 X "list.append" sS:=by
 intro ae s σ H x vs v us Q I rx rv h;obtain⟨l,xs,y,rfl,rfl,hH,hz,q⟩:=h
 cases rx
 obtain⟨u,rfl,ru⟩:=rv.one
 obtain⟨z,its,n,r,hl,e⟩:=I.lstM hH
 refine call_meets F.slot_list_append ⟨_,e,rfl⟩ F.entry_list_append (F.args_list_append_2 _ _) (PySem.list_append l its.toArray n u (by rw[List.size_toArray];omega)) ⟨e,?_⟩
 refine⟨.non,_,I.lset (its':=its++[u]) hH e (by simp) (r.append (.cons ru .nil)) ?_,rfl,q⟩
 rw[List.length_append,List.length_singleton];omega
def zM:V->List V->Hp->VK->Prop:=λx vs H Q=> ∃l b xs zs,x=.ref l/\vs=[.ref b]/\H l=some (.lst xs)/\H b=some (.lst zs)/\xs.length+zs.length<=sizeLine/\Q .non (bz H l (.lst (xs++zs)))
theorem u5:D2 X "list.extend" zM:=by
 intro ae s σ H x vs v us Q I rx rv h;obtain⟨l,b,xs,zs,rfl,rfl,hH,hB,hz,q⟩:=h
 cases rx
 obtain⟨u,rfl,ru⟩:=rv.one
 cases ru
 obtain⟨z,its,n,r,hl,e⟩:=I.lstM hH
 obtain⟨z2,its2,n2,r2,hl2,e2⟩:=I.lstM hB
 have hsz:its.toArray.size+its2.toArray.size<=sizeLine:=by rw[List.size_toArray,List.size_toArray];omega
 have hlong: ¬(!its.toArray.isEmpty&&Builtin.List.listTooLong (its.toArray.size+its2.toArray.size))=true:=by
  rw[w8 hsz,Bool.and_false];exact Bool.false_ne_true
 refine call_meets F.slot_list_extend ⟨_,e,rfl⟩ F.entry_list_extend (F.args_list_extend_2 _ _)
  (AutoSeq1.list_extend_list_list_0 l its.toArray n b its2.toArray n2 hlong (by rw[List.size_toArray];omega) (by omega)) ⟨e,e2,?_⟩
 refine⟨.non,_,I.lset (its':=its++its2) hH e (by simp) (r.append r2) ?_,rfl,q⟩
 rw[List.length_append];omega
def v4:V->List V->Hp->VK->Prop:=λx vs H Q=> ∃l xs i k y,x=.ref l/\vs=[.int i]/\H l=some (.lst xs)/\ -(2^63)<=i/\i<2^63/\seqIndex? i xs.length=some k/\xs[k]? =some y/\Q y (bz H l (.lst (xs.eraseIdx k)))
theorem xu:D2 X "list.pop" v4:=by
 intro ae s σ H x vs v us Q I rx rv h;obtain⟨l,xs,i,k,y,rfl,rfl,hH,h1,h2,hk,hy,q⟩:=h
 cases rx
 obtain⟨u,rfl,ru⟩:=rv.one
 obtain⟨t,rfl⟩:=ru
 obtain⟨z,its,n,r,hl,e⟩:=I.lstM hH
 obtain⟨w,hw,rw'⟩:=r.get hy
 refine call_meets F.slot_list_pop ⟨_,e,rfl⟩ F.entry_list_pop (F.args_list_pop_2 _ _)
  (MeetsSeq.list_pop_at l its.toArray n i t k w (fitsIndex_both h1 h2) (by rw[List.size_toArray,<-hl];exact hk) (by rw[<-Array.getElem?_toList];exact hw) (by rw[List.size_toArray];omega)) ⟨e,?_⟩
 refine⟨y,_,I.lset (its':=its.eraseIdx k) hH e ?_ (r.eraseIdx k) ?_,rw',q⟩
 ·show its.toArray.eraseIdxIfInBounds k=(its.eraseIdx k).toArray
  rw[List.eraseIdxIfInBounds_toArray]
 ·have:=jx xs k
  omega
end
end L2
namespace Att
open PySem PySem.W PySem.Calls PyProof.Rows
theorem ky {P:Params}{h:Heap}: ∀(ns:List Int) (vs:List Value),WellAll P h vs (ns.map WData.int)->IntsAre vs ns:=by
 intro ns
 induction ns with
 |nil=>
  intro vs w;rw[List.map_nil] at w;cases w
  exact .nil
 |cons n ns ih=>
  intro vs w;rw[List.map_cons] at w;cases w with
  |cons a b=>
   cases a
   exact .cons _ _ (ih _ b)
theorem vf {l:OpenLaw}{n:Nat}(hn:l.most=some n){P:Params}{h:Heap}{args:List WData}{vals:List Value}
 (hpre:l.row.toRowW.claim.pre args=true) (hwl:WellAll P h vals args):
 ∃a vs ns,vals=[Value.ref a]/\args=[WData.list (ns.map WData.int)]/\h.get? a=some {cls:=.type "list",data:=.seq vs.toArray}/\IntsAre vs ns/\ns.length<=n:=by
 have hsh:WShape.hasAll [] args [.list .int]=true:=(pre_splitW hpre).1
 have hc:l.pre.holds [] {args:=args}=true:=(pre_splitW hpre).2
 obtain⟨d,r,rfl,h1,h2⟩:=hasAllW_cons hsh
 obtain rfl:=hasAllW_nil h2
 obtain⟨xs,rfl,h3⟩:=hasW_list h1
 obtain⟨ns,rfl⟩:=items_int h3
 have hlen:ns.length<=n:=by
  unfold OpenLaw.pre at hc;have h4:(WTm.not (.lt (.lit (.int (n:Int))) (.len (.arg 0)))).holds [] {args:=[.list (ns.map .int)]}=true:=by
   have h4:=(holds_andW hc).1
   rw[hn] at h4;exact h4
  have h5:=condW_of h4 (w_not (w_lt w_lit (w_len_list (w_arg rfl))))
  rw[List.length_map] at h5;refine Nat.le_of_not_lt λq=>?_
  have q':(n:Int)<((ns.length:Nat):Int):=by omega
  first
   |(rw[decide_eq_true q'] at h5;exact absurd h5 (by decide))
   |(simp at h5;omega)
 cases hwl with
 |cons w1 w2=>
  cases w2
  cases w1 with
  |list ho hall=>exact⟨_,_,ns,rfl,rfl,ho,ky ns _ hall,hlen⟩
theorem uz(l:OpenLaw)(args:List WData):l.row.toRowW.claim.post args (.bool true) args=true:=
 postW_of (r:=l.row.toRowW) (X:=(true==true))
  (show WShape.has [] (.bool true) .bool=true by first|rfl|decide|simp[WShape.has,WShape.arms,WShape.armsAll])
  (show(WTm.eq .res (.lit (.bool true))).value [] {args:=args,res:=some (.bool true),after:=args}=some (.bool (true==true)) from w_eq_bool (w_res rfl) w_lit) rfl
theorem attach_call {l:OpenLaw}{n:Nat}{q:Program}{loose:List Str}{XP:(Str->Option Value)->Heap->Prop}{YP:World->Heap->Prop}{d:DefRec}
 (hn:l.most=some n) (hdf:d.params.defaults=[])
 (call: ∀(w:World) (s₀ s₁:Shared) (mg mb:Str->Option Value) (fa:Addr) (o:Obj) (pm cd doc:Value) (a:Addr) (vs:List Value) (ns:List Int),
   Ground q loose [] XP w s₀ mg mb s₁.heap->YP w s₁.heap->
   s₁.heap.get? fa=some o->o.data=.func (docDef d.name d.params d.body d.scope pm cd doc)->s₁.heap.CodeRec cd d.name->mg d.name=some (.ref fa)->
   s₁.heap.get? a=some {cls:=.type "list",data:=.seq vs.toArray}->IntsAre vs ns->ns.length<=n->s₁.gens= #[]->
   codeAny (model l.prog w) callerA (.call (.ref fa) ⟨[.ref a],[]⟩) (λr s'=>r=.ok (.ret (.bool true))/\OldK s₁.heap s'.heap/\s'.os=s₁.os/\AllBare s'.gens) s₁):
 WalkO q loose XP YP l.row.toRowW d [] (λf vs=>PySem.call f vs):=by
 intro w s₀ s₁ mg mb G Y fa o pm cd doc dV kV ho hd hcd hD hmg hg args vals as hpre hlay hrd hwl hlo;obtain rfl:dV=.none:=Dflts.none hD hdf
 obtain rfl:kV=.none:=Dflts.noKw hD
 obtain⟨a,vs,ns,rfl,rfl,hobj,hints,hlen⟩:=vf hn hpre hwl
 refine enter_call (codeAny_mono (call w s₀ s₁ mg mb fa o pm cd doc a vs ns G Y ho (fd_plain hd) hcd hmg hobj hints hlen hg) λr s' hq=>?_)
 obtain⟨rfl,h2,h3,h4⟩:=hq
 exact⟨.inl ⟨.bool true,.bool true,[],rfl,λ_=>rfl,.bool true,uz l _,λ_=>⟨List.Pairwise.nil,λ_ hm=>(nomatch hm)⟩⟩,h2,h3,h4⟩
end Att
namespace L2
open PySem PySem.Spec PyProof.Rows
theorem mi: ∀ {vs:List Value} {ns:List Int},IntsAre vs ns->Vals (ns.map V.int) vs
 |_,_,.nil=>.nil
 |_,_,.cons n t h=>.cons ⟨t,rfl⟩ (mi h)
def Bo(H:Hp):Prop:= ∀b,H b=none\/ ∃o xs,H b=some (.frz o (.lst xs))
theorem vO {P:Program}{w:World}{K:W.Frag}{mg mb:Str->Option Value}{CX:wa}{k:Nat}{fa a:Addr}{fd:FuncData}{x:Str}{sp:Sp}{s₁:Shared}{vs:List Value}{ns:List Int}
 (KX:K.In s₁.heap) (hns:s₁.heap.Ns mainGlobals mg) (hb:s₁.heap.Ns builtinsNs mb) (hbb: ∀x:Str,x≠"__name__"->mb x=bootBuiltins x) (hlim:s₁.heap.NoLimit) (hg:s₁.gens= #[])
 (ha:s₁.heap.get? a=some {cls:=.type "list",data:=.seq vs.toArray}) (hi:IntsAre vs ns) (hl:ns.length<=sizeLine) (hr:Room k callerA)
 (F: ∀base:Heap,K.In base->base.Ns mainGlobals mg->FnOk P w K mg base CX k fa fd [x] sp) (hbind: ∀(s:Shared) (u:Value),BindsTo s fd ⟨[u],[]⟩ [(x,u)])
 (hsp: ∀H:Hp,Bo H->SqL K H a (ns.map V.int)->sp [.ref a] H (λv _=>v=.bl true) λ_ _ _=>False)
 (hCX: ∀H e s',CX [] H s₁ (λ_ _ _=>False) e s'->False):
 codeAny (model P w) callerA (.call (.ref fa) ⟨[.ref a],[]⟩) (λr s'=>r=.ok (.ret (.bool true))/\OldK s₁.heap s'.heap/\s'.os=s₁.os/\AllBare s'.gens) s₁:=by
 have rv:=mi hi
 have lenV:=hi.length
 have core: ∀H:Hp,Bo H->SqL K H a (ns.map V.int)->HOk P w H s₁.heap->(∀b,H b≠none->b=a)->(H a≠none->K.lookup a=none)->
  codeAny (model P w) callerA (.call (.ref fa) ⟨[.ref a],[]⟩) (λr s'=>r=.ok (.ret (.bool true))/\OldK s₁.heap s'.heap/\s'.os=s₁.os/\AllBare s'.gens) s₁:=by
  intro H hO hS hok hA hK;have base_of: ∀ {b:Addr} {o:Obj},s₁.heap.get? b=some o->H b=none->(oG s₁.heap H).get? b=some o:=λe n=>x8 e n
  have noA: ∀ {b:Addr} {o:Obj} {es:Array DictEntry} {ep:Nat},s₁.heap.get? b=some o->o.data=.dict es ep->H b=none:=λ{b o es ep} e d=>by
   cases q:H b with
   |none=>rfl
   |some u=>
    have e':b=a:=hA b (by rw[q];simp)
    subst e';rw[ha] at e;cases e;have d':Data.seq vs.toArray _=Data.dict es ep:=d
    cases d'
  have nsK: ∀ {b:Addr} {m:Str->Option Value},s₁.heap.Ns b m->(oG s₁.heap H).Ns b m:=λ{b m} ⟨o,es,ep,e,d,r⟩=>⟨o,es,ep,base_of e (noA e d),d,r⟩
  have hKb:K.In (oG s₁.heap H):=λb o e=>base_of (KX b o e) (by
   cases q:H b with
   |none=>rfl
   |some u=>
    have e':b=a:=hA b (by rw[q];simp)
    subst e';rw[hK (by rw[q];simp)] at e;cases e)
  have hM:Mod K mg (oG s₁.heap H):=⟨hKb,nsK hns,⟨mb,nsK hb,hbb⟩,let⟨mc,h1,h2⟩:=hlim;⟨mc,nsK h1,h2⟩⟩
  have e0:Env0 P w K mg (oG s₁.heap H) callerA [] s₁ H:=⟨rfl,hM,λb o e=>zP e,Nat.le_of_eq (up _ _),trivial,λb hb=>absurd (show b∈([]:List Addr) from hb) (by simp),hok,.of_eq hg⟩
  refine codeAny_mono ((F _ hKb (nsK hns)).run callerA [] s₁ H ⟨[.ref a],[]⟩ [.ref a] [.ref a] _ _ hr e0 (hbind s₁ (.ref a)) (.cons rfl .nil) (hsp H hO hS)) λr s' h=>?_
  cases r with
  |error e=>exact(hCX H e s' h).elim
  |ok fl=>
   cases fl with
   |next=>exact False.elim h
   |brk=>exact False.elim h
   |cont=>exact False.elim h
   |ret u=>
    obtain⟨v,H',os,bare,un,hok',r',q⟩:=h
    have q':v=.bl true:=q
    subst q';obtain rfl:u=Value.bool true:=r'
    refine⟨rfl,OldK.of_keep λb o e=>?_,os,bare⟩
    cases q:H b with
    |none=>exact un.keep b o e q (by intro z;exact absurd (show b∈([]:List Addr) from z) (by simp)) (by simp)
    |some u=>
     rcases hO b with z|⟨ob,xs,z⟩
     ·rw[q] at z;cases z
     ·have z2:=un.frzs b ob _ z
      obtain⟨e1,_⟩:=hok b _ z
      obtain⟨e2,_⟩:=hok' b _ z2
      rw[e] at e1;cases e1;exact e2
 cases hk:K.lookup a with
 |some o=>
  have e:=KX a o hk
  rw[ha] at e;cases e
  refine core (λ_=>none) (λ_=>.inl rfl) (.inr ⟨_,vs.toArray,_,hk,rfl,rfl,rfl,by rw[List.size_toArray,lenV];exact hl,by simpa using rv⟩) (λb u z=>by have z':(none:Option HO)=some u:=z;cases z') (λb z=>absurd rfl z) λz=>absurd rfl z
 |none=>
  refine core (λb=>if b=a then some (.frz {cls:=.type "list",data:=.seq vs.toArray} (.lst (ns.map V.int))) else none) (λb=>?_) (.inl (.inr ⟨{cls:=.type "list",data:=.seq vs.toArray},if_pos rfl⟩)) (λb u z=>?_) (λb z=>?_) λ_=>hk
  ·by_cases hb:b=a
   ·exact .inr ⟨_,_,if_pos hb⟩
   ·exact .inl (if_neg hb)
  ·by_cases hb:b=a
   ·have z':=(if_pos hb).symm.trans z
    cases z'
    subst hb;exact⟨ha,by rw[List.length_map];exact hl,vs,_,rv,ha⟩
   ·have z':=(if_neg hb).symm.trans z
    cases z'
  ·by_cases hb:b=a
   ·exact hb
   ·exact absurd (if_neg hb) z
theorem walk_of {l:W.OpenLaw}{n k:Nat}{q:Program}{loose:List Str}{XP:(Str->Option Value)->Heap->Prop}{YP:World->Heap->Prop}{d:DefRec}{K:Params->W.Frag}{CX:World->wa}{sp:World->Sp}{x:Str}
 (hn:l.most=some n) (hn2:n<=sizeLine) (hdf:d.params.defaults=[]) (hr:Room k callerA)
 (hY: ∀(w:World) (h:Heap),YP w h->(K w.params).In h)
 (F: ∀(w:World) (mg:Str->Option Value) (fa:Addr) (h:Heap),(K w.params).In h->h.Ns mainGlobals mg->mg d.name=some (.ref fa)->
   ∃fd:FuncData,(∀(s:Shared) (u:Value),BindsTo s fd ⟨[u],[]⟩ [(x,u)])/\
    ∀base:Heap,(K w.params).In base->base.Ns mainGlobals mg->FnOk l.prog w (K w.params) mg base (CX w) k fa fd [x] (sp w))
 (hsp: ∀(w:World) (H:Hp) (a:Addr) (ns:List Int),ns.length<=n->Bo H->SqL (K w.params) H a (ns.map V.int)->sp w [.ref a] H (λv _=>v=.bl true) λ_ _ _=>False)
 (hCX: ∀(w:World) (H:Hp) (s:Shared) (e:Value) (s':Shared),CX w [] H s (λ_ _ _=>False) e s'->False):
 W.WalkO q loose XP YP l.row.toRowW d [] (λf vs=>PySem.call f vs):=by
 refine Att.attach_call hn hdf λw s₀ s₁ mg mb fa o pm cd doc a vs ns G Y ho hd hcd hmg hobj hints hlen hg=>?_
 have KX:=hY w _ Y
 obtain⟨fd,hb,hF⟩:=F w mg fa _ KX G.T.g hmg
 exact vO KX G.T.g G.T.b G.T.builtins G.T.nolimit hg hobj hints (Nat.le_trans hlen hn2) hr hF hb (λH hO hS=>hsp w H a ns hlen hO hS) λH e s'=>hCX w H s₁ e s'
def fj(s:Stmt):Arguments:=match s with
 | .FunctionDef _ a _ _ _ _ _ _ _ _=>a
 |_=>{posonlyargs:=[],args:=[],vararg:=none,kwonlyargs:=[],kw_defaults:=[],kwarg:=none,defaults:=[]}
def cM(s:Stmt):List Stmt:=match s with
 | .FunctionDef _ _ b _ _ _ _ _ _ _=>b
 |_=>[]
def av(s:Stmt):Scope:=match s with
 | .FunctionDef _ _ _ _ _ _ sc _ _ _=>sc
 |_=>{kind:=.function,names:=[],isGenerator:=false,isCoroutine:=false}
abbrev oQ:wa:=λ_ _ _ _ _ _=>False
abbrev E0:XK:=λ_ _ _=>False
theorem vQ {X:Cx}:qN oQ X E0:=λ_ _ _ _ _ _ _ h=>h.elim
structure Fun(K:W.Frag)(x qual:Str)(st:Stmt)(f:Addr)(fd:FuncData):Prop where
 ex: ∃(oc:Value) (od:Option Addr) (kV doc pm:Value) (an:Option Addr) (cdv ct:Value) (osl:Array (Option Value)),
  fd=W.fnOf x qual (fj st) (cM st) (av st) .none kV doc pm an cdv ct/\K.lookup f=some ⟨oc,od,.func fd,osl⟩/\W.codeIn K cdv qual=true
 kp:W.keepIn K (.ref f)=true
section
variable {P:Program}{w:World}{K:W.Frag}{mg:Str->Option Value}{base:Heap}
theorem Fun.ok {x qual:Str}{st:Stmt}{f:Addr}{fd:FuncData}{N ps:List Str}{k:Nat}{sp:Sp}(F:Fun K x qual st f fd)(S:FnScope N ps (av st))(len: ∀vs H Q E,sp vs H Q E->vs.length=ps.length)
 (hbody: ∀(cdv:Value) (A:Around) (outer:List Env) (s:Shared) (H:Hp) (vs:List V) (Q:VK) (E:XK),Room k (A.deeper (envOfC qual (av st) s.heap.objs.size f cdv))->sp vs H Q E->
   ∃t,PSs (md oQ P w K mg base N qual (av st) f cdv A outer s H E).nox (cM st) t/\t {nx:=λ_ H'=>Q .non H',rt:=Q} (start N vs) H):FnOk P w K mg base oQ (k+1) f fd ps sp:=by
 obtain⟨oc,od,kV,doc,pm,an,cdv,ct,osl,rfl,lk,hcd⟩:=F.ex
 refine Cz lk hcd S len λA outer s H vs Q E hr hsp=>?_
 obtain⟨t,h,q⟩:=hbody cdv A outer s H vs Q E hr hsp
 exact⟨t,h.nox,q⟩
theorem Fun.binds {x qual:Str}{st:Stmt}{f:Addr}{fd:FuncData}{ps:List Str}(F:Fun K x qual st f fd)
 (h: ∀(kV doc pm:Value) (an:Option Addr) (cdv ct:Value) (us:List Value),us.length=ps.length->bindArgs (W.fnOf x qual (fj st) (cM st) (av st) .none kV doc pm an cdv ct) ⟨us,[]⟩=pure (ps.zip us)):Binds K fd ps []:=by
 obtain⟨oc,od,kV,doc,pm,an,cdv,ct,osl,rfl,lk,hcd⟩:=F.ex
 exact .all (h kV doc pm an cdv ct)
theorem rm {x qual:Str}{st:Stmt}{f:Addr}{oc:Value}{od an:Option Addr}{osl:Array (Option Value)}{kV doc pm cdv ct:Value}(l:K.lookup f=some ⟨oc,od,.func (W.fnOf x qual (fj st) (cM st) (av st) .none kV doc pm an cdv ct),osl⟩)
 (c:W.codeIn K cdv qual=true) (k:W.keepIn K (.ref f)=true):Fun K x qual st f (W.fnOf x qual (fj st) (cM st) (av st) .none kV doc pm an cdv ct):=⟨⟨oc,od,kV,doc,pm,an,cdv,ct,osl,rfl,l,c⟩,k⟩
end
theorem j6 {A:Around}{k:Nat}(hr:Room k A):A.units+1<cLine:=Nat.lt_of_le_of_lt (Nat.add_le_add_left (by decide:1<=64) _) hr.units
theorem fH {n:Nat}(h:n<=1000):n<sizeLine:=Nat.lt_of_le_of_lt h (by decide)
section
variable {X:Cx}
theorem pv(i:Nat){x:Str}{pos:Pos}(hN:X.N[i]? =some x:=by rfl)(hv:oN X.env.scope x:=by first|exact Or.inl rfl|exact Or.inr (Or.inl rfl)|exact Or.inr (Or.inr rfl))(hd:(x==("__debug__":Str))=false:=by decide)
 (hcd:(x==("__classdict__":Str))=false:=by decide):PE X (.Name x pos) (Dz i):=B7 hN hv hd hcd
end
theorem uW {A B:Prop}(h:B):if false=true then A else B:=by
 rw[if_neg Bool.false_ne_true];exact h
theorem uF {A B:Prop}(h:A):if true=true then A else B:=by
 rw[if_pos rfl];exact h
def Same(H H':Hp):Prop:= ∀b o,H b=some o->H' b=some o
theorem Same.refl(H:Hp):Same H H:=λ_ _ h=>h
theorem Same.trans {H H1 H2:Hp}(a:Same H H1)(b:Same H1 H2):Same H H2:=λc o h=>b c o (a c o h)
theorem Same.free {H H':Hp}(e:Same H H'){l:Addr}(h:H' l=Option.none):H l=Option.none:=by
 cases q:H l with
 |none=>rfl
 |some o=>
  rw[e l o q] at h;cases h
theorem Same.seq {K:W.Frag}{H H':Hp}{a:Addr}{xs:List V}(e:Same H H')(h:SqL K H a xs):SqL K H' a xs:=by
 rcases h with(h|⟨o,h⟩)|h
 ·exact .inl (.inl (e _ _ h))
 ·exact .inl (.inr ⟨o,e _ _ h⟩)
 ·exact .inr h
inductive D where
 |non|bl (b:Bool)|int (i:Int)|str (x:Str)|tup (ds:List D)|lst (ds:List D)
 |scr (ds:List D)
def SqR(K:W.Frag)(H:Hp)(a:Addr)(xs:List V):Prop:=
 (∃o,H a=some (.frz o (.lst xs)))\/
   ∃(o:Obj) (its:Array Value) (n:Nat),K.lookup a=some o/\o.cls=.type "list"/\o.dict=none/\o.data=.seq its n/\its.size<=sizeLine/\Vals xs its.toList
theorem SqR.seq {K:W.Frag}{H:Hp}{a:Addr}{xs:List V}(h:SqR K H a xs):SqL K H a xs:=h.elim (λh=>.inl (.inr h)) .inr
theorem Same.seqR {K:W.Frag}{H H':Hp}{a:Addr}{xs:List V}(e:Same H H')(h:SqR K H a xs):SqR K H' a xs:=h.elim (λ⟨o,h⟩=>.inl ⟨o,e _ _ h⟩) .inr
mutual
inductive Rep (K:W.Frag) (F:Hp):V->D->Prop
 |non:Rep K F .non .non
 |bl {b:Bool}:Rep K F (.bl b) (.bl b)
 |int {i:Int}:Rep K F (.int i) (.int i)
 |str {x:Str}:Rep K F (.str x) (.str x)
 |tup {a:Addr} {xs:List V} {ds:List D}:SqT K F a xs->Reps K F xs ds->Rep K F (.ref a) (.tup ds)
 |lst {a:Addr} {xs:List V} {ds:List D}:F a=some (.lst xs)->Reps K F xs ds->Rep K F (.ref a) (.lst ds)
 |scr {a:Addr} {xs:List V} {ds:List D}:SqR K F a xs->Reps K F xs ds->Rep K F (.ref a) (.scr ds)
inductive Reps (K:W.Frag) (F:Hp):List V->List D->Prop
 |nil:Reps K F [] []
 |cons {x:V} {d:D} {xs:List V} {ds:List D}:Rep K F x d->Reps K F xs ds->Reps K F (x::xs) (d::ds)
end
theorem Same.seqT {K:W.Frag}{H H':Hp}{a:Addr}{xs:List V}(e:Same H H')(h:SqT K H a xs):SqT K H' a xs:=by
 rcases h with(h|⟨o,h⟩)|h
 ·exact .inl (.inl (e _ _ h))
 ·exact .inl (.inr ⟨o,e _ _ h⟩)
 ·exact .inr h
mutual
theorem Rep.mono {K:W.Frag}{F G:Hp}(s:Same F G): ∀ {v:V} {d:D},Rep K F v d->Rep K G v d
 |_,_,.non=>.non
 |_,_,.bl=>.bl
 |_,_,.int=>.int
 |_,_,.str=>.str
 |_,_,.tup h r=>.tup (Same.seqT s h) (Reps.mono s r)
 |_,_,.lst h r=>.lst (s _ _ h) (Reps.mono s r)
 |_,_,.scr h r=>.scr (Same.seqR s h) (Reps.mono s r)
theorem Reps.mono {K:W.Frag}{F G:Hp}(s:Same F G): ∀ {v:List V} {d:List D},Reps K F v d->Reps K G v d
 |_,_,.nil=>.nil
 |_,_,.cons r t=>.cons (Rep.mono s r) (Reps.mono s t)
end
section
variable {K:W.Frag}{F G H:Hp}
theorem Reps.length: ∀ {xs:List V} {ds:List D},Reps K F xs ds->xs.length=ds.length
 |_,_,.nil=>rfl
 |_,_,.cons _ t=>by simp[t.length]
theorem Reps.get: ∀ {xs:List V} {ds:List D} {i:Nat} {d:D},Reps K F xs ds->ds[i]? =some d-> ∃x,xs[i]? =some x/\Rep K F x d
 |_,_,_,_,.nil,e=>by simp at e
 |_,_,0,_,.cons r _,e=>by simp at e;subst e;exact⟨_,rfl,r⟩
 |_,_,i+1,d,.cons _ t,e=>by
  obtain⟨u,h1,h2⟩:=Reps.get (i:=i) (d:=d) t (by simpa using e)
  exact⟨u,by simpa using h1,h2⟩
theorem Reps.get' {xs:List V}{ds:List D}{i:Nat}{x:V}(r:Reps K F xs ds)(e:xs[i]? =some x): ∃d,ds[i]? =some d/\Rep K F x d:=by
 have hl:=r.length
 have hi:=(List.getElem?_eq_some_iff.mp e).1
 have e2:ds[i]? =some ds[i]:=List.getElem?_eq_getElem (by omega)
 obtain⟨y,h1,h2⟩:=r.get e2
 rw[e] at h1;cases h1;exact⟨_,e2,h2⟩
theorem Reps.append: ∀ {xs ys:List V} {us ws:List D},Reps K F xs us->Reps K F ys ws->Reps K F (xs++ys) (us++ws)
 |_,_,_,_,.nil,s=>s
 |_,_,_,_,.cons r t,s=>.cons r (Reps.append t s)
theorem Reps.set {x:V}{u:D}(r:Rep K F x u): ∀ {xs:List V} {us:List D} (i:Nat),Reps K F xs us->Reps K F (xs.set i x) (us.set i u)
 |_,_,_,.nil=>.nil
 |_,_,0,.cons _ t=>.cons r t
 |_,_,i+1,.cons q t=>.cons q (Reps.set r i t)
theorem Reps.eraseIdx: ∀ {xs:List V} {us:List D} (i:Nat),Reps K F xs us->Reps K F (xs.eraseIdx i) (us.eraseIdx i)
 |_,_,_,.nil=>.nil
 |_,_,0,.cons _ t=>t
 |_,_,i+1,.cons q t=>.cons q (Reps.eraseIdx i t)
theorem Reps.take: ∀ {xs:List V} {us:List D} (n:Nat),Reps K F xs us->Reps K F (xs.take n) (us.take n)
 |_,_,0,_=>.nil
 |_,_,_+1,.nil=>.nil
 |_,_,n+1,.cons r t=>.cons r (Reps.take n t)
theorem Reps.drop: ∀ {xs:List V} {us:List D} (n:Nat),Reps K F xs us->Reps K F (xs.drop n) (us.drop n)
 |_,_,0,r=>r
 |_,_,_+1,.nil=>.nil
 |_,_,n+1,.cons _ t=>Reps.drop n t
end
abbrev bu:=Addr->Bool
def vw(H:Hp)(hid:bu):Hp:=λb=>if hid b=true then none else H b
def bI(hid:bu)(a:Addr):bu:=λb=>hid b||decide (b=a)
def pO(hid:bu)(a:Addr):bu:=λb=>hid b&& !decide (b=a)
theorem vw_some {H:Hp}{hid:bu}{b:Addr}{o:HO}:vw H hid b=some o↔hid b=false/\H b=some o:=by
 unfold vw;cases hb:hid b<;>simp
theorem dG(H:Hp)(hid:bu):Same (vw H hid) H:=λb o h=>(vw_some.mp h).2
theorem aH {H H':Hp}{hid:bu}(s:Same H H'):Same (vw H hid) (vw H' hid):=λb o h=>vw_some.mpr ⟨(vw_some.mp h).1,s _ _ (vw_some.mp h).2⟩
theorem sX {H H':Hp}{hid:bu}(s: ∀b o,H b=some o->hid b=false->H' b=some o):Same (vw H hid) (vw H' hid):=λb o h=>vw_some.mpr ⟨(vw_some.mp h).1,s _ _ (vw_some.mp h).2 (vw_some.mp h).1⟩
theorem dI {H:Hp}{hid:bu}{a:Addr}{o:HO}(h:hid a=true):vw (bz H a o) hid=vw H hid:=by
 funext b;unfold vw bz
 by_cases e:b=a
 ·subst e;simp[h]
 ·simp[e]
theorem cr {H:Hp}{hid hid':bu}(h: ∀b,hid' b=true->hid b=true):Same (vw H hid) (vw H hid'):=λb o q=>by
 obtain⟨q1,q2⟩:=vw_some.mp q
 refine vw_some.mpr ⟨?_,q2⟩
 cases e:hid' b with
 |false=>rfl
 |true=>rw[h b e] at q1;cases q1
theorem rN {H:Hp}{hid:bu}{a:Addr}{o:HO}(h:H a=none):vw (bz H a o) (bI hid a)=vw H hid:=by
 funext b;unfold vw bz bI
 by_cases e:b=a
 ·subst e
  cases hb:hid b<;>simp[h]
 ·simp[e]
inductive NO where
 |l (ds:List D)
 |k (kvs:List (bv×D))
inductive Ob where
 |nst (us:List NO)
 |dR (kvs:List (bv×D))
 |dRs (l:List (List (bv×D)))
 |exc (x:Str) (n:Int)
 |dK (kvs:List (bv×D))
 |dT (kvs:List (List bv×D))
 |set (ds:List D)
 |old (d:D)
 |jnk
 |tset (ks:List (List Int))
 |dF (kvs:List (List bv×D))
 |dQ (kvs:List (List bv×D))
 |frs (d:D)
inductive Sl where
 |no
 |v (d:D)
 |own (ds:List D)
 |arg (ds:List D)
 |ob (b:Ob)
abbrev aC:=List Sl
structure Ct where
 H₀:Hp
 hid₀:bu
 mu:Addr->Bool
def DH(K:W.Frag)(x:Str)(n:Int)(a:Addr)(h:Heap):Prop:= ∃C o,W.nsIn K mainGlobals x=some (some (.ref C))/\h.get? a=some o/\o.cls=.ref C/\o.dict=none/\W.notCls o=true
def ip:Option HO->Bool
 |some (.lst _)=>true
 |_=>false
def fv(c:Ct)(F:Hp):Hp:=λb=>if(c.H₀ b).isSome=true/\ip (F b)=true then none else F b
def ov(c:Ct)(F:Hp):Hp:=λb=>if(c.H₀ b).isSome=true then F b else none
theorem fv_some {c:Ct}{F:Hp}{b:Addr}{o:HO}:fv c F b=some o↔(ip (some o)=true->c.H₀ b=none)/\F b=some o:=by
 unfold fv;constructor
 ·intro h
  split at h
  ·cases h
  ·rename_i hn
   refine⟨λq=>?_,h⟩
   rw[h] at hn;cases hb:c.H₀ b with
   |none=>rfl
   |some u=>exact absurd ⟨by rw[hb];rfl,q⟩ hn
 ·rintro⟨h1,h2⟩
  rw[if_neg,h2]
  rintro⟨q1,q2⟩
  rw[h2] at q2;rw[h1 q2] at q1;cases q1
theorem ov_some {c:Ct}{F:Hp}{b:Addr}{o:HO}:ov c F b=some o↔(∃u,c.H₀ b=some u)/\F b=some o:=by
 unfold ov;cases hb:c.H₀ b<;>simp
theorem tN {c:Ct}{F G:Hp}(s:Same F G):Same (fv c F) (fv c G):=λb o h=>fv_some.mpr ⟨(fv_some.mp h).1,s _ _ (fv_some.mp h).2⟩
theorem yS {c:Ct}{F G:Hp}(s:Same F G):Same (ov c F) (ov c G):=λb o h=>ov_some.mpr ⟨(ov_some.mp h).1,s _ _ (ov_some.mp h).2⟩
theorem Ay(c:Ct)(F:Hp):Same (fv c F) F:=λb o h=>(fv_some.mp h).2
theorem zY(c:Ct)(F:Hp):Same (ov c F) F:=λb o h=>(ov_some.mp h).2
def NOk(K:W.Frag)(c:Ct)(hid:bu)(H:Hp)(p a:Addr):NO->Prop
 | .l ds=>(hid a=true/\c.H₀ a=none)/\ ∃xs:List V,H a=some (.nst p (.lst xs))/\Reps K (vw H hid) xs ds
 | .k kvs=>(hid a=true/\c.H₀ a=none)/\ ∃us:List (bv×V),H a=some (.nst p (.dK us))/\us.map (·.1)=kvs.map (·.1)/\Reps K (vw H hid) (us.map (·.2)) (kvs.map (·.2))
theorem NOk.mono {K:W.Frag}{c:Ct}{hid hid':bu}{H H':Hp}{p a:Addr}{b:NO}(h:NOk K c hid H p a b)(k: ∀u,H a=some (.nst p u)->H' a=some (.nst p u))(s:Same (vw H hid) (vw H' hid'))(w:(∃u,H a=some (.nst p u))->hid' a=true):NOk K c hid' H' p a b:=by
 cases b with
 |l ds=>obtain⟨h1,us,h2,h3⟩:=h;exact⟨⟨w ⟨_,h2⟩,h1.2⟩,us,k _ h2,h3.mono s⟩
 |k kvs=>obtain⟨h1,us,h2,h3,h4⟩:=h;exact⟨⟨w ⟨_,h2⟩,h1.2⟩,us,k _ h2,h3,h4.mono s⟩
def DRd(K:W.Frag)(W:Hp)(a:Addr)(kvs:List (bv×D)):Prop:= ∃o us,W a=some (.frz o (.dK us))/\us.map (·.1)=kvs.map (·.1)/\Reps K W (us.map (·.2)) (kvs.map (·.2))
theorem DRd.mono {K:W.Frag}{W W':Hp}{a:Addr}{kvs:List (bv×D)}(h:DRd K W a kvs)(s:Same W W'):DRd K W' a kvs:=by
 obtain⟨o,us,h1,h2,h3⟩:=h
 exact⟨o,us,s _ _ h1,h2,h3.mono s⟩
def DQd(K:W.Frag)(W:Hp)(a:Addr)(kvs:List (List bv×D)):Prop:= ∃o us,W a=some (.frz o (.dT us))/\us.map (·.1)=kvs.map (·.1)/\Reps K W (us.map (·.2)) (kvs.map (·.2))
theorem DQd.mono {K:W.Frag}{W W':Hp}{a:Addr}{kvs:List (List bv×D)}(h:DQd K W a kvs)(s:Same W W'):DQd K W' a kvs:=by
 obtain⟨o,us,h1,h2,h3⟩:=h
 exact⟨o,us,s _ _ h1,h2,h3.mono s⟩
def ObOk(K:W.Frag)(c:Ct)(hid:bu)(H:Hp)(a:Addr):Ob->Prop
 | .nst us=>(hid a=true/\c.H₀ a=none)/\ ∃bs:List Addr,H a=some (.lst (bs.map V.ref))/\bs.Nodup/\Paired (NOk K c hid H a) bs us
 | .dR kvs=>DRd K (vw H hid) a kvs
 | .dQ kvs=>DQd K (vw H hid) a kvs
 | .frs d=>Rep K (fv c (vw H hid)) (.ref a) d
 | .dRs l=> ∃bs:List Addr,vw H hid a=some (.lst (bs.map V.ref))/\Paired (DRd K (vw H hid)) bs l
 | .exc x n=> ∃φ,vw H hid a=some (.ext φ)/\ ∀h,φ h->DH K x n a h
 | .dK kvs=>(hid a=true/\c.H₀ a=none)/\ ∃us:List (bv×V),H a=some (.dK us)/\us.map (·.1)=kvs.map (·.1)/\Reps K (vw H hid) (us.map (·.2)) (kvs.map (·.2))
 | .dT kvs=>(hid a=true/\c.H₀ a=none)/\ ∃us:List (List bv×V),H a=some (.dT us)/\us.map (·.1)=kvs.map (·.1)/\Reps K (vw H hid) (us.map (·.2)) (kvs.map (·.2))
 | .set ds=>(hid a=true/\c.H₀ a=none)/\ ∃xs:List V,H a=some (.lst xs)/\Reps K (fv c (vw H hid)) xs ds
 | .old d=>Rep K (ov c (vw H hid)) (.ref a) d
 | .jnk=>(hid a=true/\c.H₀ a=none)/\ ∃xs:List V,H a=some (.lst xs)
 | .tset ks=>(hid a=true/\c.H₀ a=none)/\ ∃xs:List (List Int×Addr),H a=some (.tst xs)/\(xs.map (·.1)).Perm ks/\Reps K (vw H hid) (xs.map λx=>V.ref x.2) (xs.map λx=>D.tup (x.1.map D.int))
 | .dF kvs=>(hid a=true/\c.H₀ a=none)/\ ∃(o:Obj) (us:List (List bv×V)),H a=some (.frz o (.dT us))/\us.map (·.1)=kvs.map (·.1)/\Reps K (vw H hid) (us.map (·.2)) (kvs.map (·.2))
def mV:Ob->Prop
 | .exc _ _=>False
 | .old _=>False
 | .dR _=>False
 | .dRs _=>False
 | .dQ _=>False
 | .frs _=>False
 |_=>True
def At(H:Hp)(a x:Addr):Prop:=x=a\/ ∃u,H x=some (.nst a u)
theorem At.ne {H:Hp}{a a' x:Addr}{o:HO}(hx:At H a' x)(ne:a'≠a)(ha:H a=some o)(hn: ∀p u,o≠ .nst p u:=by intro _ _ e;cases e):x≠a:=λe=>by
 subst e;rcases hx with rfl|⟨u,hu⟩
 ·exact ne rfl
 ·rw[ha] at hu;cases hu;exact hn _ _ rfl
theorem ObOk.mono {K:W.Frag}{c:Ct}{hid hid':bu}{H H':Hp}{a:Addr}{b:Ob}(h:ObOk K c hid H a b)(k:mV b-> ∀x,At H a x-> ∀o,H x=some o->H' x=some o)(s:Same (vw H hid) (vw H' hid'))(w:mV b-> ∀x,At H a x->hid x=true->hid' x=true):ObOk K c hid' H' a b:=by
 have k1:mV b-> ∀o,H a=some o->H' a=some o:=λo=>k o a (.inl rfl)
 have w1:mV b->hid a=true->hid' a=true:=λo=>w o a (.inl rfl)
 cases b with
 |nst us=>
  obtain⟨h1,bs,h2,h3,h4⟩:=h
  refine⟨⟨w1 trivial h1.1,h1.2⟩,bs,k1 trivial _ h2,h3,Paired.mapP h4 λx y z=>z.mono (λu q=>k trivial x (.inr ⟨u,q⟩) _ q) s λq=>w trivial x (.inr q) ?_⟩
  cases y with
  |l ds=>exact z.1.1
  |k kvs=>exact z.1.1
 |dR kvs=>exact DRd.mono h s
 |dQ kvs=>exact DQd.mono h s
 |frs d=>exact Rep.mono (tN s) h
 |dRs l=>obtain⟨bs,h1,h2⟩:=h;exact⟨bs,s _ _ h1,Paired.mapP h2 λ_ _ z=>z.mono s⟩
 |exc x n=>obtain⟨φ,h1,h2⟩:=h;exact⟨φ,s _ _ h1,h2⟩
 |dK kvs=>obtain⟨h1,us,h2,h3,h4⟩:=h;exact⟨⟨w1 trivial h1.1,h1.2⟩,us,k1 trivial _ h2,h3,h4.mono s⟩
 |dT kvs=>obtain⟨h1,us,h2,h3,h4⟩:=h;exact⟨⟨w1 trivial h1.1,h1.2⟩,us,k1 trivial _ h2,h3,h4.mono s⟩
 |set ds=>obtain⟨h1,us,h2,h3⟩:=h;exact⟨⟨w1 trivial h1.1,h1.2⟩,us,k1 trivial _ h2,h3.mono (tN s)⟩
 |old d=>exact Rep.mono (yS s) h
 |jnk=>obtain⟨h1,us,h2⟩:=h;exact⟨⟨w1 trivial h1.1,h1.2⟩,us,k1 trivial _ h2⟩
 |tset ks=>obtain⟨h1,us,h2,h3,h4⟩:=h;exact⟨⟨w1 trivial h1.1,h1.2⟩,us,k1 trivial _ h2,h3,h4.mono s⟩
 |dF kvs=>obtain⟨h1,o,us,h2,h3,h4⟩:=h;exact⟨⟨w1 trivial h1.1,h1.2⟩,o,us,k1 trivial _ h2,h3,h4.mono s⟩
theorem ObOk.hid {K:W.Frag}{c:Ct}{hid:bu}{H:Hp}{a:Addr}{b:Ob}(h:ObOk K c hid H a b)(o:mV b):hid a=true:=by
 cases b with
 |nst us=>exact h.1.1
 |dQ kvs=>exact o.elim
 |frs d=>exact o.elim
 |dR kvs=>exact o.elim
 |dRs l=>exact o.elim
 |exc x n=>exact o.elim
 |dK kvs=>exact h.1.1
 |dT kvs=>exact h.1.1
 |set ds=>exact h.1.1
 |old d=>exact o.elim
 |jnk=>exact h.1.1
 |tset ks=>exact h.1.1
 |dF kvs=>exact h.1.1
def SlOk(K:W.Frag)(c:Ct)(hid:bu)(σ:St)(H:Hp)(i:Nat):Sl->Prop
 | .no=>True
 | .v d=> ∃x,σ[i]? =some (some x)/\Rep K (vw H hid) x d
 | .own ds=> ∃a xs,σ[i]? =some (some (.ref a))/\H a=some (.lst xs)/\hid a=true/\c.H₀ a=none/\Reps K (vw H hid) xs ds
 | .arg ds=> ∃a xs,σ[i]? =some (some (.ref a))/\H a=some (.lst xs)/\hid a=true/\c.mu a=true/\Reps K (vw H hid) xs ds
 | .ob b=> ∃a,σ[i]? =some (some (.ref a))/\ObOk K c hid H a b
def Ow:Option Sl->Prop
 |some (.own _)=>True
 |some (.arg _)=>True
 |some (.ob b)=>mV b
 |_=>False
structure SR(K:W.Frag)(c:Ct)(hid:bu)(ρ:aC)(σ:St)(H:Hp):Prop where
 tr: ∀b,hid b=true-> ∃o,H b=some o
 ht: ∀b xs,hid b=true->H b≠some (.tup xs)
 h0: ∀b,c.hid₀ b=true->hid b=true
 kp: ∀b o,c.H₀ b=some o->c.mu b=false->H b=some o
 t0: ∀b o,c.H₀ b=some o-> ∃o',H b=some o'
 c0: ∀b,c.hid₀ b=true-> ∃o,c.H₀ b=some o
 m0: ∀b,c.mu b=true->c.hid₀ b=true
 len:σ.length=ρ.length
 sl: ∀(i:Nat) (s:Sl),ρ[i]? =some s->SlOk K c hid σ H i s
 ap: ∀(i j:Nat) (a:Addr),i≠j->Ow ρ[i]? ->Ow ρ[j]? ->σ[i]? =some (some (.ref a))->σ[j]? =some (some (.ref a))->False
section
variable {K:W.Frag}{c:Ct}{hid:bu}{ρ:aC}{σ:St}{H H':Hp}{i:Nat}
theorem SlOk.ext {s:Sl}(h:SlOk K c hid σ H i s)(e:Same H H'):SlOk K c hid σ H' i s:=by
 cases s with
 |no=>trivial
 |v d=>obtain⟨x,h1,h2⟩:=h;exact⟨x,h1,h2.mono (aH e)⟩
 |own ds=>obtain⟨a,xs,h1,h2,h3,h4,h5⟩:=h;exact⟨a,xs,h1,e _ _ h2,h3,h4,h5.mono (aH e)⟩
 |arg ds=>obtain⟨a,xs,h1,h2,h3,h4,h5⟩:=h;exact⟨a,xs,h1,e _ _ h2,h3,h4,h5.mono (aH e)⟩
 |ob b=>obtain⟨a,h1,h2⟩:=h;exact⟨a,h1,h2.mono (λ_ x _=>e x) (aH e) λ_ _ _ q=>q⟩
theorem SR.ext(h:SR K c hid ρ σ H)(e:Same H H'):SR K c hid ρ σ H' where
 tr:=λb hb=>let⟨o,q⟩:=h.tr b hb;⟨o,e _ _ q⟩
 ht:=λb xs hb q=>let⟨o,w⟩:=h.tr b hb;by have z:=e _ _ w;rw[q] at z;cases z;exact h.ht b xs hb w
 h0:=h.h0
 kp:=λb o q m=>e _ _ (h.kp b o q m)
 t0:=λb o q=>let⟨o',q'⟩:=h.t0 b o q;⟨o',e _ _ q'⟩
 c0:=h.c0
 m0:=h.m0
 len:=h.len
 sl:=λi s q=>(h.sl i s q).ext e
 ap:=h.ap
def DV(hid:bu)(H:Hp):Prop:=(∀b,hid b=true-> ∃o,H b=some o)/\ ∀b xs,hid b=true->H b≠some (.tup xs)
theorem SR.trk(h:SR K c hid ρ σ H):DV hid H:=⟨h.tr,h.ht⟩
theorem SR.fresh(h:SR K c hid ρ σ H){a:Addr}(n:H a=none):hid a=false:=by
 cases e:hid a with
 |false=>rfl
 |true=>obtain⟨o,q⟩:=h.tr a e;rw[n] at q;cases q
theorem SR.fresh0(h:SR K c hid ρ σ H){a:Addr}(n:H a=none):c.H₀ a=none:=by
 cases e:c.H₀ a with
 |none=>rfl
 |some o=>obtain⟨o',q⟩:=h.t0 a o e;rw[n] at q;cases q
end
inductive Kd where
 |b|s|n
 deriving DecidableEq
def Rep1(K:W.Frag)(H W:Hp)(v:V)(d:D):Prop:=Rep K W v d\/ ∃a xs ds,v=.ref a/\d=.lst ds/\H a=some (.lst xs)/\Reps K W xs ds
def RN(K:W.Frag)(H H':Hp)(hid:bu)(v:V)(d:D):Prop:= ∃a xs ds,d=.lst ds/\v=.ref a/\H a=none/\H' a=some (.lst xs)/\Reps K (vw H' (bI hid a)) xs ds
def RK(K:W.Frag)(k:Kd)(H H':Hp)(hid:bu)(v:V)(d:D):Prop:=match k with
 | .b=>Rep1 K H' (vw H' hid) v d
 | .s=>Rep K (vw H' hid) v d
 | .n=>RN K H H' hid v d
section
variable {K:W.Frag}{c:Ct}{hid:bu}{ρ:aC}{σ:St}{H H' H'':Hp}{i:Nat}{v:V}{d:D}
theorem RN.rep(h:RN K H H' hid v d)(hf: ∀a,H a=none->hid a=false):Rep K (vw H' hid) v d:=by
 obtain⟨a,xs,ds,rfl,rfl,h1,h2,h3⟩:=h
 refine .lst (vw_some.mpr ⟨hf a h1,h2⟩) (h3.mono (cr λb q=>?_))
 unfold bI;rw[q];rfl
theorem RK.b(k:Kd)(h:RK K k H H' hid v d)(hf: ∀a,H a=none->hid a=false):Rep1 K H' (vw H' hid) v d:=by
 cases k with
 |b=>exact h
 |s=>exact .inl h
 |n=>exact .inl (RN.rep h hf)
theorem Rep1.ext {hid:bu}(h:Rep1 K H (vw H hid) v d)(e:Same H H'):Rep1 K H' (vw H' hid) v d:=by
 rcases h with h|⟨a,xs,ds,h1,h2,h3,h4⟩
 ·exact .inl (h.mono (aH e))
 ·exact .inr ⟨a,xs,ds,h1,h2,e _ _ h3,h4.mono (aH e)⟩
theorem Rep1.int {i:Int}(h:Rep1 K H (vw H hid) v (.int i)):v=.int i:=by
 rcases h with h|⟨a,xs,ds,h1,h2,_⟩
 ·cases h;rfl
 ·cases h2
theorem Rep1.bl {i:Bool}(h:Rep1 K H (vw H hid) v (.bl i)):v=.bl i:=by
 rcases h with h|⟨a,xs,ds,h1,h2,_⟩
 ·cases h;rfl
 ·cases h2
theorem Rep1.str {i:Str}(h:Rep1 K H (vw H hid) v (.str i)):v=.str i:=by
 rcases h with h|⟨a,xs,ds,h1,h2,_⟩
 ·cases h;rfl
 ·cases h2
theorem Rep1.non(h:Rep1 K H (vw H hid) v .non):v=.non:=by
 rcases h with h|⟨a,xs,ds,h1,h2,_⟩
 ·cases h;rfl
 ·cases h2
theorem Rep1.tup {ds:List D}(h:Rep1 K H (vw H hid) v (.tup ds)): ∃a xs,v=.ref a/\SqT K (vw H hid) a xs/\SqT K H a xs/\Reps K (vw H hid) xs ds:=by
 rcases h with h|⟨a,xs,ds,h1,h2,_⟩
 ·cases h with
  |tup q r=>exact⟨_,_,rfl,q,Same.seqT (dG _ _) q,r⟩
 ·cases h2
theorem Rep1.lst {ds:List D}(h:Rep1 K H (vw H hid) v (.lst ds)): ∃a xs,v=.ref a/\SqL K H a xs/\Reps K (vw H hid) xs ds:=by
 rcases h with h|⟨a,xs,ds,h1,h2,h3,h4⟩
 ·cases h with
  |lst q r=>exact⟨_,_,rfl,SqL.of (dG _ _ _ _ q),r⟩
 ·cases h2
  exact⟨a,xs,h1,SqL.of h3,h4⟩
theorem Rep1.scr {ds:List D}(h:Rep1 K H (vw H hid) v (.scr ds)): ∃a xs,v=.ref a/\SqL K H a xs/\Reps K (vw H hid) xs ds:=by
 rcases h with h|⟨a,xs,ds,h1,h2,h3,h4⟩
 ·cases h with
  |scr q r=>exact⟨_,_,rfl,(dG _ _).seq q.seq,r⟩
 ·cases h2
end
theorem PE.imp {X:Cx}{e:Expr}{t t':TE}(h:PE X e t)(i: ∀σ H Q,t' σ H Q->t σ H Q):PE X e t':=λae s σ H Q I q=>h ae s σ H Q I (i σ H Q q)
theorem PT.imp {X:Cx}{e:Expr}{t t':TT}(h:PT X e t)(i: ∀σ H Q,t' σ H Q->t σ H Q):PT X e t':=λae s σ H Q I q=>h ae s σ H Q I (i σ H Q q)
theorem PW.imp {X:Cx}{e:Expr}{t t':TT}(h:PW X e t)(i: ∀σ H Q,t' σ H Q->t σ H Q):PW X e t':=λwh ae s σ H Q I q=>h wh ae s σ H Q I (i σ H Q q)
theorem PA.imp {X:Cx}{e:List Expr}{t t':TA}(h:PA X e t)(i: ∀σ H Q,t' σ H Q->t σ H Q):PA X e t':=λp ae s σ H Q I q=>h p ae s σ H Q I (i σ H Q q)
theorem PS.imp {X:Cx}{e:Stmt}{t t':TS}(h:PS X e t)(i: ∀D σ H,t' D σ H->t D σ H):PS X e t':=λae s σ H D I q=>h ae s σ H D I (i D σ H q)
theorem PSs.imp {X:Cx}{e:List Stmt}{t t':TS}(h:PSs X e t)(i: ∀D σ H,t' D σ H->t D σ H):PSs X e t':=λae s σ H D I q=>h ae s σ H D I (i D σ H q)
abbrev FE:=aC->Option D
abbrev FT:=aC->Option Bool
abbrev FA:=aC->Option (List D)
def Bn(K:W.Frag)(c:Ct)(hid:bu)(k:Kd)(f:FE)(ρ:aC):TE:=λσ H Q=>SR K c hid ρ σ H/\ ∃d,f ρ=some d/\ ∀v H',Same H H'->RK K k H H' hid v d->Q v H'
def EJ(K:W.Frag)(c:Ct)(hid:bu)(f:FT)(ρ:aC):TT:=λσ H Q=>SR K c hid ρ σ H/\ ∃d,f ρ=some d/\ ∀H',Same H H'->Q d H'
def Ft(K:W.Frag)(c:Ct)(hid:bu)(f:FA)(ρ:aC):TA:=λσ H Q=>SR K c hid ρ σ H/\ ∃d,f ρ=some d/\ ∀vs H',Same H H'->Reps K (vw H' hid) vs d->Q vs H'
def DP(X:Cx)(c:Ct)(k:Kd)(e:Expr)(f:FE):Prop:= ∀hid ρ,PE X e (Bn X.K c hid k f ρ)
def DT(X:Cx)(c:Ct)(e:Expr)(f:FT):Prop:= ∀hid ρ,PT X e (EJ X.K c hid f ρ)
def DW(X:Cx)(c:Ct)(e:Expr)(f:FT):Prop:= ∀hid ρ,PW X e (EJ X.K c hid f ρ)
def DA(X:Cx)(c:Ct)(es:List Expr)(f:FA):Prop:= ∀hid ρ,PA X es (Ft X.K c hid f ρ)
section
variable {X:Cx}{c:Ct}{e a b:Expr}{es:List Expr}{f g:FE}{k:Kd}{pos:Pos}
theorem DP.toS(h:DP X c .n e f):DP X c .s e f:=λhid ρ=>PE.imp (h hid ρ) λσ H Q ⟨sr,d,hd,q⟩=>⟨sr,d,hd,λv H' s r=>q v H' s (RN.rep r λa n=>sr.fresh n)⟩
def ai(i:Nat):FE:=λρ=>match ρ[i]? with
 |some (.v d)=>some d
 |_=>none
def cS(i:Nat):FE:=λρ=>match ρ[i]? with
 |some (.v d)=>some d
 |some (.own ds)=>some (.lst ds)
 |some (.arg ds)=>some (.lst ds)
 |_=>none
theorem af(i:Nat){x:Str}(hN:X.N[i]? =some x:=by rfl)(hv:oN X.env.scope x:=by first|exact Or.inl rfl|exact Or.inr (Or.inl rfl)|exact Or.inr (Or.inr rfl))(hd:(x==("__debug__":Str))=false:=by decide)
 (hcd:(x==("__classdict__":Str))=false:=by decide):DP X c .s (.Name x pos) (ai i):=λhid ρ=>PE.imp (pv i hN hv hd hcd) λσ H Q hq_=>by
 obtain⟨sr,d,hd,q⟩:=hq_
 unfold ai at hd;split at hd
 ·rename_i d' e'
  cases hd
  obtain⟨x,h1,h2⟩:=sr.sl i _ e'
  exact⟨x,h1,q x H (Same.refl _) h2⟩
 ·cases hd
theorem df(i:Nat){x:Str}(hN:X.N[i]? =some x:=by rfl)(hv:oN X.env.scope x:=by first|exact Or.inl rfl|exact Or.inr (Or.inl rfl)|exact Or.inr (Or.inr rfl))(hd:(x==("__debug__":Str))=false:=by decide)
 (hcd:(x==("__classdict__":Str))=false:=by decide):DP X c .b (.Name x pos) (cS i):=λhid ρ=>PE.imp (pv i hN hv hd hcd) λσ H Q hq_=>by
 obtain⟨sr,d,hd,q⟩:=hq_
 unfold cS at hd;split at hd
 ·rename_i d' e'
  cases hd
  obtain⟨x,h1,h2⟩:=sr.sl i _ e'
  exact⟨x,h1,q x H (Same.refl _) (.inl h2)⟩
 ·rename_i d' e'
  cases hd
  obtain⟨a,xs,h1,h2,h3,h4,h5⟩:=sr.sl i _ e'
  exact⟨_,h1,q _ H (Same.refl _) (.inr ⟨a,xs,_,rfl,rfl,h2,h5⟩)⟩
 ·rename_i d' e'
  cases hd
  obtain⟨a,xs,h1,h2,h3,h4,h5⟩:=sr.sl i _ e'
  exact⟨_,h1,q _ H (Same.refl _) (.inr ⟨a,xs,_,rfl,rfl,h2,h5⟩)⟩
 ·cases hd
def ay(d:D):FE:=λ_=>some d
theorem ao {i:Int}{j pos}:DP X c .s (.Constant (.int i) j pos) (ay (.int i)):=λhid ρ=>PE.imp rV λσ H Q hq_=>by
 obtain⟨sr,d,hd,q⟩:=hq_
 cases hd;exact q _ H (Same.refl _) .int
theorem mU {i:Bool}{j pos}:DP X c .s (.Constant (.bool i) j pos) (ay (.bl i)):=λhid ρ=>PE.imp CS λσ H Q hq_=>by
 obtain⟨sr,d,hd,q⟩:=hq_
 cases hd;exact q _ H (Same.refl _) .bl
def al(F:D->D->Option D)(f g:FE):FE:=λρ=>(f ρ).bind λx=>(g ρ).bind λy=>F x y
theorem pS {F:D->D->Option D}{ρ:aC}{d:D}(h:al F f g ρ=some d): ∃x y,f ρ=some x/\g ρ=some y/\F x y=some d:=by
 unfold al at h;cases e1:f ρ with
 |none=>rw[e1] at h;cases h
 |some x=>
  cases e2:g ρ with
  |none=>rw[e1,e2] at h;cases h
  |some y=>rw[e1,e2] at h;exact⟨x,y,rfl,rfl,h⟩
def lV(K:W.Frag)(k:Kd)(r:R2)(F:D->D->Option D):Prop:= ∀(H:Hp) (hid:bu) (v u:V) (x y d:D) (Q:VK),(∀a,H a=none->hid a=false)->F x y=some d->Rep1 K H (vw H hid) v x->Rep1 K H (vw H hid) u y->
 (∀w H',Same H H'->RK K k H H' hid w d->Q w H')->r v u H Q
theorem RK.left {K:W.Frag}{H H1 H':Hp}{hid:bu}{v:V}{d:D}(s:Same H H1)(h:RK K k H1 H' hid v d):RK K k H H' hid v d:=by
 cases k with
 |b=>exact h
 |s=>exact h
 |n=>
  obtain⟨a,xs,ds,h1,h2,h3,h4⟩:=h
  exact⟨a,xs,ds,h1,h2,s.free h3,h4⟩
theorem Ea {r:R2}{F:D->D->Option D}{k1 k2:Kd}{hid:bu}{ρ:aC}(hF:lV X.K k r F){σ:St}{H:Hp}{Q:VK}(h:Bn X.K c hid k (al F f g) ρ σ H Q):Cn r (Bn X.K c hid k1 f ρ) (Bn X.K c hid k2 g ρ) σ H Q:=by
 obtain⟨sr,d,hd,q⟩:=h
 obtain⟨x,y,e1,e2,e3⟩:=pS hd
 refine⟨sr,x,e1,λv H1 s1 r1=>⟨sr.ext s1,y,e2,λu H2 s2 r2=>?_⟩⟩
 have b1:=(RK.b k1 r1 λa n=>sr.fresh n).ext s2
 have b2:=RK.b k2 r2 λa n=>(sr.ext s1).fresh n
 exact hF H2 hid v u x y d Q (λa n=>((sr.ext s1).ext s2).fresh n) e3 b1 b2 λw H' s3 r3=>q w H' ((s1.trans s2).trans s3) (RK.left (s1.trans s2) r3)
theorem kh {op:Operator}{r:R2}{F:D->D->Option D}{k1 k2:Kd}(ho:jn X (binaryOp op) r)(hF:lV X.K k r F)(ha:DP X c k1 a f)(hb:DP X c k2 b g):DP X c k (.BinOp a op b pos) (al F f g):=λhid ρ=>
 PE.imp (zT ho (ha hid ρ) (hb hid ρ)) λσ H Q h=>Ea hF h
theorem eD {op:CmpOp}{r:R2}{F:D->D->Option D}{k1 k2:Kd}(ho:jn X (compareOp op) r)(hF:lV X.K .s r F)(ha:DP X c k1 a f)(hb:DP X c k2 b g)(hm:behindInMarks op b=false):DP X c .s (.Compare a [op] [b] pos) (al F f g):=λhid ρ=>
 PE.imp (y6 ho (ha hid ρ) (hb hid ρ) hm) λσ H Q h=>Ea hF h
def rF:Option D->Option Bool
 |some (.bl b)=>some b
 |_=>none
theorem bP {op:CmpOp}{r:R2}{F:D->D->Option D}{k1 k2:Kd}(ho:jn X (compareOp op) r)(hF:lV X.K .s r F)(ha:DP X c k1 a f)(hb:DP X c k2 b g)(hm:behindInMarks op b=false):DT X c (.Compare a [op] [b] pos) (λρ=>rF (al F f g ρ)):=λhid ρ=>
 PT.imp (zp ho (ha hid ρ) (hb hid ρ) hm) λσ H Q hq_=>by
  obtain⟨sr,d,hd,q⟩:=hq_
  refine Ea (X:=X) (k:=.s) (F:=F) hF ?_
  dsimp only at hd;cases e:al F f g ρ with
  |none=>rw[e] at hd;cases hd
  |some x=>
   rw[e] at hd;cases x with
   |bl z=>
    cases hd
    refine⟨sr,_,e,λv H' s r=>⟨d,?_,q H' s⟩⟩
    cases r;rfl
   |_=>cases hd
theorem aR {r:R2}{F:D->D->Option D}{k1 k2:Kd}(hr:IxR X r)(hF:lV X.K k r F)(ha:DP X c k1 a f)(hb:DP X c k2 b g)(hs:kE b):DP X c k (.Subscript a b pos) (al F f g):=λhid ρ=>
 PE.imp (Az hr (ha hid ρ) (hb hid ρ) hs) λσ H Q h=>Ea hF h
end
def i2(C:Int->Int->Bool)(G:Int->Int->D):D->D->Option D
 | .int i,.int j=>if C i j=true then some (G i j) else none
 |_,_=>none
section
variable {K:W.Frag}
theorem nU {C:Int->Int->Bool}{G:Int->Int->D}{x y d:D}(h:i2 C G x y=some d): ∃i j,x=.int i/\y=.int j/\C i j=true/\d=G i j:=by
 unfold i2 at h;split at h
 ·split at h
  ·cases h;exact⟨_,_,rfl,rfl, ‹_›,rfl⟩
  ·cases h
 ·cases h
theorem y9 {C:Int->Int->Prop}{B:Int->Int->Bool}{g:Int->Int->Int}(hC: ∀i j,B i j=true->C i j):lV K .s (rI C λi j=>.int (g i j)) (i2 B λi j=>.int (g i j)):=by
 intro H hid v u x y d Q hf h r1 r2 q;obtain⟨i,j,rfl,rfl,hc,rfl⟩:=nU h
 cases r1.int;cases r2.int
 exact⟨i,j,rfl,rfl,hC i j hc,q _ H (Same.refl _) .int⟩
theorem xJ {g:Int->Int->Int}:lV K .s (ye λi j=>.int (g i j)) (i2 (λ_ _=>true) λi j=>.int (g i j)):=by
 intro H hid v u x y d Q hf h r1 r2 q;obtain⟨i,j,rfl,rfl,hc,rfl⟩:=nU h
 cases r1.int;cases r2.int
 exact⟨i,j,rfl,rfl,q _ H (Same.refl _) .int⟩
theorem eK {g:Int->Int->Bool}:lV K .s (ye λi j=>.bl (g i j)) (i2 (λ_ _=>true) λi j=>.bl (g i j)):=by
 intro H hid v u x y d Q hf h r1 r2 q;obtain⟨i,j,rfl,rfl,hc,rfl⟩:=nU h
 cases r1.int;cases r2.int
 exact⟨i,j,rfl,rfl,q _ H (Same.refl _) .bl⟩
end
section
variable {X:Cx}{c:Ct}{e a b:Expr}{es rest:List Expr}{f g:FE}{p q:FT}{k:Kd}{pos:Pos}
def A1:D->Option Bool
 | .non=>some false
 | .bl b=>some b
 | .int i=>some (i !=0)
 | .str y=>if y.length<=sizeLine then some ((y.length:Int) !=0) else none
 | .lst ds=>some (!ds.isEmpty)
 | .tup ds=>some (!ds.isEmpty)
 | .scr ds=>some (!ds.isEmpty)
theorem Reps.isEmpty {K:W.Frag}{F:Hp}{xs:List V}{ds:List D}(r:Reps K F xs ds):xs.isEmpty=ds.isEmpty:=by cases r<;>rfl
theorem Be {K:W.Frag}{H:Hp}{hid:bu}{v:V}{d:D}{b:Bool}(h:A1 d=some b)(r:Rep1 K H (vw H hid) v d):Bs K v H b:=by
 cases d with
 |non=>cases r.non;cases h;rfl
 |bl x=>cases r.bl;cases h;rfl
 |int i=>cases r.int;cases h;rfl
 |str y=>
  cases r.str
  have h':(if y.length<=sizeLine then some ((y.length:Int) !=0) else none)=some b:=h
  split at h'
  ·cases h';exact⟨‹_›,rfl⟩
  ·cases h'
 |lst ds=>
  obtain⟨a,xs,rfl,h1,h2⟩:=r.lst
  cases h
  exact .inl ⟨xs,h1,by rw[h2.isEmpty]⟩
 |tup ds=>
  obtain⟨a,xs,rfl,_,h1,h2⟩:=r.tup
  cases h
  exact .inr (.inl ⟨xs,h1,by rw[h2.isEmpty]⟩)
 |scr ds=>
  obtain⟨a,xs,rfl,h1,h2⟩:=r.scr
  cases h
  exact .inl ⟨xs,h1,by rw[h2.isEmpty]⟩
def fY(f:FE):FT:=λρ=>(f ρ).bind A1
theorem j5(ha:DP X c k a f)(he: ∀whole,isTrue a X.env whole=(do let v <-whole;standAt a.pos;holding [v] (truthy v)):=by intro _;rfl):DT X c a (fY f):=λhid ρ=>
 PT.imp (xF (ha hid ρ) he) λσ H Q hq_=>by
  obtain⟨sr,d,hd,q⟩:=hq_
  unfold fY at hd;cases e:f ρ with
  |none=>rw[e] at hd;cases hd
  |some x=>
   rw[e] at hd;exact⟨sr,x,e,λv H' s r=>⟨d,Be hd (RK.b k r λa n=>sr.fresh n),q H' s⟩⟩
def dw(p q:FT):FT:=λρ=>(p ρ).bind λb=>if b=true then q ρ else some false
def rY(p q:FT):FT:=λρ=>(p ρ).bind λb=>if b=true then some true else q ρ
def gd(p:FT):FT:=λρ=>(p ρ).map (!·)
theorem yv(ha:DT X c a p):DW X c (.BoolOp .And [a] pos) p:=λhid ρ=>pw_and1 (ha hid ρ)
theorem wx(ha:DT X c a p):DW X c (.BoolOp .Or [a] pos) p:=λhid ρ=>pw_or1 (ha hid ρ)
theorem B9(ha:DT X c a p)(hb:DW X c (.BoolOp .And (b::rest) pos) q):DW X c (.BoolOp .And (a::b::rest) pos) (dw p q):=λhid ρ=>
 PW.imp (pw_and (ha hid ρ) (hb hid ρ)) λσ H Q hq_=>by
  obtain⟨sr,d,hd,hq⟩:=hq_
  unfold dw at hd;cases e:p ρ with
  |none=>rw[e] at hd;cases hd
  |some x=>
   rw[e] at hd;refine⟨sr,x,e,λH1 s1=>?_⟩
   cases x with
   |true=>exact uF ⟨sr.ext s1,d,hd,λH2 s2=>hq H2 (s1.trans s2)⟩
   |false=>cases hd;exact uW (hq H1 s1)
theorem tH(ha:DT X c a p)(hb:DW X c (.BoolOp .Or (b::rest) pos) q):DW X c (.BoolOp .Or (a::b::rest) pos) (rY p q):=λhid ρ=>
 PW.imp (pw_or (ha hid ρ) (hb hid ρ)) λσ H Q hq_=>by
  obtain⟨sr,d,hd,hq⟩:=hq_
  unfold rY at hd;cases e:p ρ with
  |none=>rw[e] at hd;cases hd
  |some x=>
   rw[e] at hd;refine⟨sr,x,e,λH1 s1=>?_⟩
   cases x with
   |false=>exact uW ⟨sr.ext s1,d,hd,λH2 s2=>hq H2 (s1.trans s2)⟩
   |true=>cases hd;exact uF (hq H1 s1)
theorem DW.dt(h:DW X c e p):DT X c e p:=λhid ρ=>(h hid ρ).pt
theorem lj(ha:DT X c a p):DT X c (.UnaryOp .Not a pos) (gd p):=λhid ρ=>
 PT.imp (Bk (ha hid ρ)) λσ H Q hq_=>by
  obtain⟨sr,d,hd,hq⟩:=hq_
  unfold gd at hd;cases e:p ρ with
  |none=>rw[e] at hd;cases hd
  |some x=>rw[e] at hd;cases hd;exact⟨sr,x,e,λH1 s1=>hq H1 s1⟩
def kK(p:FT):FE:=λρ=>(p ρ).map D.bl
def bb(f:FE):FT:=λρ=>rF (f ρ)
theorem k5 {ρ:aC}{b:Bool}(h:bb f ρ=some b):f ρ=some (.bl b):=by
 unfold bb rF at h;split at h
 ·cases h;assumption
 ·cases h
theorem iP(ha:DP X c .s a f)(hb:DP X c .s (.BoolOp .And (b::rest) pos) g):DP X c .s (.BoolOp .And (a::b::rest) pos) (kK (dw (bb f) (bb g))):=λhid ρ=>
 PE.imp (AM (ha hid ρ) (hb hid ρ)) λσ H Q hq_=>by
  obtain⟨sr,d,hd,hq⟩:=hq_
  unfold kK dw at hd;cases e:bb f ρ with
  |none=>rw[e] at hd;cases hd
  |some x=>
   rw[e] at hd;refine⟨sr,_,k5 e,λv H1 s1 r=>?_⟩
   cases r
   refine⟨x,rfl,?_⟩
   cases x with
   |true=>
    refine uF ?_
    cases e2:bb g ρ with
    |none=>rw[show(some true:Option Bool).bind (λb=>if b=true then bb g ρ else some false)=bb g ρ from rfl,e2] at hd;cases hd
    |some y=>
     rw[show(some true:Option Bool).bind (λb=>if b=true then bb g ρ else some false)=bb g ρ from rfl,e2] at hd;cases hd
     exact⟨sr.ext s1,_,k5 e2,λv2 H2 s2 r2=>hq v2 H2 (s1.trans s2) r2⟩
   |false=>cases hd;exact uW (hq _ H1 s1 .bl)
theorem iC {op}(h:DP X c k a f):DP X c k (.BoolOp op [a] pos) f:=λhid ρ=>BM (h hid ρ)
theorem Bu(ha:DP X c .s a f):DP X c .s (.UnaryOp .Not a pos) (kK (gd (bb f))):=λhid ρ=>
 PE.imp (Bw (ha hid ρ)) λσ H Q hq_=>by
  obtain⟨sr,d,hd,hq⟩:=hq_
  unfold kK gd at hd;cases e:bb f ρ with
  |none=>rw[e] at hd;cases hd
  |some x=>
   rw[e] at hd;cases hd;refine⟨sr,_,k5 e,λv H1 s1 r=>?_⟩
   cases r
   exact⟨x,rfl,hq _ H1 s1 .bl⟩
def zU(p:FT)(f g:FE):FE:=λρ=>(p ρ).bind λb=>if b=true then f ρ else g ρ
theorem CJ {t:Expr}(hk:k≠ .n)(ht:DT X c t p)(ha:DP X c k a f)(hb:DP X c k b g):DP X c k (.IfExp t a b pos) (zU p f g):=λhid ρ=>
 PE.imp (xW (ht hid ρ) (ha hid ρ) (hb hid ρ)) λσ H Q hq_=>by
  obtain⟨sr,d,hd,hq⟩:=hq_
  unfold zU at hd;cases e:p ρ with
  |none=>rw[e] at hd;cases hd
  |some x=>
   rw[e] at hd;refine⟨sr,x,e,λH1 s1=>?_⟩
   have lf: ∀ {v H2},RK X.K k H1 H2 hid v d->RK X.K k H H2 hid v d:=λ{v H2} r=>RK.left s1 r
   cases x with
   |true=>exact uF ⟨sr.ext s1,d,hd,λv H2 s2 r=>hq v H2 (s1.trans s2) (lf r)⟩
   |false=>exact uW ⟨sr.ext s1,d,hd,λv H2 s2 r=>hq v H2 (s1.trans s2) (lf r)⟩
variable {r r':R2}{h:FE}{e3:Expr}
end
section
variable {X:Cx}{c:Ct}{e a b:Expr}{es rest:List Expr}{f g:FE}{fs:FA}{k:Kd}{pos:Pos}
def ah:FA:=λ_=>some []
def aa(f:FE)(fs:FA):FA:=λρ=>(f ρ).bind λd=>(fs ρ).map λr=>d::r
theorem lL {ρ:aC}{ds:List D}(h:aa f fs ρ=some ds): ∃d r,f ρ=some d/\fs ρ=some r/\ds=d::r:=by
 unfold aa at h;cases e1:f ρ with
 |none=>rw[e1] at h;cases h
 |some d=>
  cases e2:fs ρ with
  |none=>rw[e1,e2] at h;cases h
  |some r=>rw[e1,e2] at h;cases h;exact⟨d,r,rfl,rfl,rfl⟩
theorem am:DA X c [] ah:=λhid ρ=>PA.imp eB λσ H Q ⟨sr,d,hd,q⟩=>by cases hd;exact q [] H (Same.refl _) .nil
theorem ag(ha:DP X c .s e f)(hr:DA X c es fs)(hs:starEach (e::es) X.env=(false,eval e X.env)::starEach es X.env:=by rfl):DA X c (e::es) (aa f fs):=λhid ρ=>
 PA.imp (bF (ha hid ρ) (hr hid ρ) hs) λσ H Q hq_=>by
  obtain⟨sr,d,hd,q⟩:=hq_
  obtain⟨d1,r,e1,e2,rfl⟩:=lL hd
  exact⟨sr,d1,e1,λv H1 s1 r1=>⟨sr.ext s1,r,e2,λvs H2 s2 r2=>q _ H2 (s1.trans s2) (.cons (Rep.mono (aH s2) r1) r2)⟩⟩
def a7(fs:FA):FE:=λρ=>(fs ρ).bind λds=>if ds.length<=sizeLine then some (.tup ds) else none
def a9(fs:FA):FE:=λρ=>(fs ρ).bind λds=>if ds.length<=sizeLine then some (.lst ds) else none
theorem uu {ρ:aC}{d:D}(h:a7 fs ρ=some d): ∃ds,fs ρ=some ds/\ds.length<=sizeLine/\d=.tup ds:=by
 unfold a7 at h;cases e1:fs ρ with
 |none=>rw[e1] at h;cases h
 |some ds=>
  rw[e1] at h;have h':(if ds.length<=sizeLine then some (D.tup ds) else none)=some d:=h
  split at h'
  ·cases h';exact⟨ds,rfl, ‹_›,rfl⟩
  ·cases h'
theorem uq {ρ:aC}{d:D}(h:a9 fs ρ=some d): ∃ds,fs ρ=some ds/\ds.length<=sizeLine/\d=.lst ds:=by
 unfold a9 at h;cases e1:fs ρ with
 |none=>rw[e1] at h;cases h
 |some ds=>
  rw[e1] at h;have h':(if ds.length<=sizeLine then some (D.lst ds) else none)=some d:=h
  split at h'
  ·cases h';exact⟨ds,rfl, ‹_›,rfl⟩
  ·cases h'
theorem bh {H:Hp}{p:Addr}(h:H p=none)(o:HO):Same H (bz H p o):=λb u q=>by rw[aG (bd q h)];exact q
theorem g7 {K:W.Frag}{H:Hp}{hid:bu}{p:Addr}{xs:List V}{ds:List D}(hn:H p=none)(hf:hid p=false)(r:Reps K (vw H hid) xs ds):Rep K (vw (bz H p (.tup xs)) hid) (.ref p) (.tup ds):=
 .tup (SqT.of (vw_some.mpr ⟨hf,aL⟩)) (r.mono (aH (bh hn _)))
theorem nC {K:W.Frag}{H H0:Hp}{hid:bu}{p:Addr}{xs:List V}{ds:List D}(hn:H p=none)(s:Same H0 H)(r:Reps K (vw H hid) xs ds):RN K H0 (bz H p (.lst xs)) hid (.ref p) (.lst ds):=
 ⟨p,xs,ds,rfl,rfl,s.free hn,aL,by rw[rN hn];exact r⟩
theorem bR {x1}(h:DA X c es fs):DP X c .s (.Tuple es x1 pos) (a7 fs):=λhid ρ=>PE.imp (wR (h hid ρ)) λσ H Q hq_=>by
 obtain⟨sr,d,hd,q⟩:=hq_
 obtain⟨ds,e1,hz,rfl⟩:=uu hd
 exact⟨sr,ds,e1,λvs H1 s1 r1=>⟨by rw[r1.length];exact hz,λp hp=>q _ _ (s1.trans (bh hp _)) (g7 hp ((sr.ext s1).fresh hp) r1)⟩⟩
theorem ck(h:DA X c es fs):DP X c .n (.List es pos) (a9 fs):=λhid ρ=>PE.imp (BP (h hid ρ)) λσ H Q hq_=>by
 obtain⟨sr,d,hd,q⟩:=hq_
 obtain⟨ds,e1,hz,rfl⟩:=uq hd
 exact⟨sr,ds,e1,λvs H1 s1 r1=>⟨by rw[r1.length];exact hz,λp hp=>q _ _ (s1.trans (bh hp _)) (nC hp s1 r1)⟩⟩
abbrev Reps1(K:W.Frag)(H W:Hp):List V->List D->Prop:=Paired (Rep1 K H W)
def Fe(K:W.Frag)(c:Ct)(hid:bu)(f:FA)(ρ:aC):TA:=λσ H Q=>SR K c hid ρ σ H/\ ∃d,f ρ=some d/\ ∀vs H',Same H H'->Reps1 K H' (vw H' hid) vs d->Q vs H'
def DB(X:Cx)(c:Ct)(es:List Expr)(f:FA):Prop:= ∀hid ρ,PA X es (Fe X.K c hid f ρ)
theorem bf:DB X c [] ah:=λhid ρ=>PA.imp eB λσ H Q ⟨sr,d,hd,q⟩=>by cases hd;exact q [] H (Same.refl _) .nil
theorem aQ(ha:DP X c k e f)(hr:DB X c es fs)(hs:starEach (e::es) X.env=(false,eval e X.env)::starEach es X.env:=by rfl):DB X c (e::es) (aa f fs):=λhid ρ=>
 PA.imp (bF (ha hid ρ) (hr hid ρ) hs) λσ H Q hq_=>by
  obtain⟨sr,d,hd,q⟩:=hq_
  obtain⟨d1,r,e1,e2,rfl⟩:=lL hd
  exact⟨sr,d1,e1,λv H1 s1 r1=>⟨sr.ext s1,r,e2,λvs H2 s2 r2=>q _ H2 (s1.trans s2) (.cons ((RK.b k r1 λa n=>sr.fresh n).ext s2) r2)⟩⟩
def iw(K:W.Frag)(k:Kd)(r:List V->Hp->VK->Prop)(F:List D->Option D):Prop:= ∀(H:Hp) (hid:bu) (vs:List V) (ds:List D) (d:D) (Q:VK),(∀a,H a=none->hid a=false)->F ds=some d->Reps1 K H (vw H hid) vs ds->
 (∀w H',Same H H'->RK K k H H' hid w d->Q w H')->r vs H Q
def aj(F:List D->Option D)(fs:FA):FE:=λρ=>(fs ρ).bind F
theorem kY {F:List D->Option D}{ρ:aC}{d:D}(h:aj F fs ρ=some d): ∃ds,fs ρ=some ds/\F ds=some d:=by
 unfold aj at h;cases e1:fs ρ with
 |none=>rw[e1] at h;cases h
 |some ds=>rw[e1] at h;exact⟨ds,rfl,h⟩
theorem C5 {r:List V->Hp->VK->Prop}{F:List D->Option D}{hid:bu}{ρ:aC}(hF:iw X.K k r F){σ:St}{H:Hp}{Q:VK}(h:Bn X.K c hid k (aj F fs) ρ σ H Q):EH r (Fe X.K c hid fs ρ) σ H Q:=by
 obtain⟨sr,d,hd,q⟩:=h
 obtain⟨ds,e1,e2⟩:=kY hd
 exact⟨sr,ds,e1,λvs H1 s1 r1=>hF H1 hid vs ds d Q (λa n=>(sr.ext s1).fresh n) e2 r1 λw H' s2 r2=>q w H' (s1.trans s2) (RK.left s1 r2)⟩
variable {x:Str}{p:Pos}{id T:String}{r:List V->Hp->VK->Prop}{F:List D->Option D}
theorem aV(hc:eJ X (.builtin id) r)(hF:iw X.K k r F)(hm:X.mg x=none)(ha:DB X c (e::es) fs)(hg:Gl X x:=by rfl)(hv:bootBuiltins x=some (.builtin id):=by first|exact PySem.boot_len|rfl|kernel_rfl)(hn:x≠"__name__":=by decide)(hdb:(x==("__debug__":Str))=false:=by decide)
 (he:starEach (e::es) X.env=(false,eval e X.env)::starEach es X.env:=by rfl) (hpl:(backTo pos (starEach es X.env)).any (·.1)=false:=by rfl):DP X c k (.Call (.Name x p) (e::es) [] pos) (aj F fs):=λhid ρ=>
 PE.imp (lJ hc hg hm hv (ha hid ρ) hn hdb he hpl) λσ H Q h=>C5 hF h
theorem dO(hc:eJ X (.type T) r)(hF:iw X.K k r F)(hm:X.mg x=none)(ha:DB X c (e::es) fs)(hg:Gl X x:=by rfl)(hv:bootBuiltins x=some (.type T):=by first|rfl|kernel_rfl)(hn:x≠"__name__":=by decide)(hdb:(x==("__debug__":Str))=false:=by decide)
 (he:starEach (e::es) X.env=(false,eval e X.env)::starEach es X.env:=by rfl) (hpl:(backTo pos (starEach es X.env)).any (·.1)=false:=by rfl):DP X c k (.Call (.Name x p) (e::es) [] pos) (aj F fs):=λhid ρ=>
 PE.imp (jD hc hg hm hv (ha hid ρ) hn hdb he hpl) λσ H Q h=>C5 hF h
end
section
variable {K:W.Frag}
theorem Reps1.one {H W:Hp}{v:List V}{d:D}(r:Reps1 K H W v [d]): ∃x,v=[x]/\Rep1 K H W x d:=by
 cases r with
 |cons r t=>cases t;exact⟨_,rfl,r⟩
theorem Reps1.two {H W:Hp}{v:List V}{d d':D}(r:Reps1 K H W v [d,d']): ∃x y,v=[x,y]/\Rep1 K H W x d/\Rep1 K H W y d':=by
 cases r with
 |cons r t=>cases t with
  |cons r' t=>cases t;exact⟨_,_,rfl,r,r'⟩
def bX:List D->Option D
 | [.lst ds]=>some (.int ds.length)
 | [.tup ds]=>some (.int ds.length)
 | [.scr ds]=>some (.int ds.length)
 |_=>none
theorem cR:iw K .s (λxs H Q=> ∃p ys,xs=[.ref p]/\(SqL K H p ys\/SqT K H p ys)/\Q (.int ys.length) H) bX:=by
 intro H hid vs ds d Q hf h r q;unfold bX at h;split at h
 ·cases h
  obtain⟨x,rfl,r1⟩:=Reps1.one r
  obtain⟨a,xs,rfl,h1,h2⟩:=r1.lst
  exact⟨a,xs,rfl,.inl h1,by rw[h2.length];exact q _ H (Same.refl _) .int⟩
 ·cases h
  obtain⟨x,rfl,r1⟩:=Reps1.one r
  obtain⟨a,xs,rfl,_,h1,h2⟩:=r1.tup
  exact⟨a,xs,rfl,.inr h1,by rw[h2.length];exact q _ H (Same.refl _) .int⟩
 ·cases h
  obtain⟨x,rfl,r1⟩:=Reps1.one r
  obtain⟨a,xs,rfl,h1,h2⟩:=r1.scr
  exact⟨a,xs,rfl,.inl h1,by rw[h2.length];exact q _ H (Same.refl _) .int⟩
 ·cases h
def pV:List D->Option D
 | [.int i]=>some (.int (if i<0 then -i else i))
 |_=>none
theorem BF:iw K .s (λxs H Q=> ∃i,xs=[.int i]/\Q (.int (if i<0 then -i else i)) H) pV:=by
 intro H hid vs ds d Q hf h r q;unfold pV at h;split at h
 ·cases h
  obtain⟨x,rfl,r1⟩:=Reps1.one r
  cases r1.int
  exact⟨_,rfl,q _ H (Same.refl _) .int⟩
 ·cases h
def lw:List D->Option D
 | [.int i,.int j]=>some (.int (if j<i then j else i))
 |_=>none
theorem zK:iw K .s (λxs H Q=> ∃i j,xs=[.int i,.int j]/\Q (.int (if j<i then j else i)) H) lw:=by
 intro H hid vs ds d Q hf h r q;unfold lw at h;split at h
 ·cases h
  obtain⟨x,y,rfl,r1,r2⟩:=Reps1.two r
  cases r1.int;cases r2.int
  exact⟨_,_,rfl,q _ H (Same.refl _) .int⟩
 ·cases h
def gR:List D->Option D
 | [.lst ds]=>some (.tup ds)
 | [.tup ds]=>some (.tup ds)
 |_=>none
theorem pr:iw K .s (λxs H Q=> ∃p ys,xs=[.ref p]/\((SqL K H p ys/\ ∀l,H l=none->Q (.ref l) (bz H l (.tup ys)))\/(SqT K H p ys/\Q (.ref p) H))) gR:=by
 intro H hid vs ds d Q hf h r q;unfold gR at h;split at h
 ·cases h
  obtain⟨x,rfl,r1⟩:=Reps1.one r
  obtain⟨a,xs,rfl,h1,h2⟩:=r1.lst
  exact⟨a,xs,rfl,.inl ⟨h1,λl hl=>q _ _ (bh hl _) (g7 hl (hf l hl) h2)⟩⟩
 ·cases h
  obtain⟨x,rfl,r1⟩:=Reps1.one r
  obtain⟨a,xs,rfl,h0,h1,h2⟩:=r1.tup
  exact⟨a,xs,rfl,.inr ⟨h1,q _ H (Same.refl _) (.tup h0 h2)⟩⟩
 ·cases h
def aT:D->D->Option D
 | .lst ds,.int i=>kI ds i
 | .tup ds,.int i=>kI ds i
 | .scr ds,.int i=>kI ds i
 |_,_=>none
theorem nH {F:Hp}{xs:List V}{ds:List D}{i:Int}{d:D}(r:Reps K F xs ds)(h:kI ds i=some d): ∃x,kI xs i=some x/\Rep K F x d:=by
 unfold kI at h⊢;rw[r.length];cases e:oo ds.length i with
 |none=>rw[e] at h;cases h
 |some j=>
  rw[e] at h;obtain⟨x,h1,h2⟩:=r.get (i:=j) h
  exact⟨x,h1,h2⟩
theorem aN:lV K .s (Fg K) aT:=by
 intro H hid v u x y d Q hf h r1 r2 q;unfold aT at h;split at h
 ·cases r2.int
  obtain⟨a,xs,rfl,h1,h2⟩:=r1.lst
  obtain⟨z,h3,h4⟩:=nH h2 h
  exact .inl ⟨a,xs,_,z,rfl,rfl,h1,h3,q _ H (Same.refl _) h4⟩
 ·cases r2.int
  obtain⟨a,xs,rfl,_,h1,h2⟩:=r1.tup
  obtain⟨z,h3,h4⟩:=nH h2 h
  exact .inr (.inl ⟨a,xs,_,z,rfl,rfl,h1,h3,q _ H (Same.refl _) h4⟩)
 ·cases r2.int
  obtain⟨a,xs,rfl,h1,h2⟩:=r1.scr
  obtain⟨z,h3,h4⟩:=nH h2 h
  exact .inl ⟨a,xs,_,z,rfl,rfl,h1,h3,q _ H (Same.refl _) h4⟩
 ·cases h
end
abbrev GE:=aC->Option (D×aC)
abbrev GA:=aC->Option (List D×aC)
def Kept(hid:bu)(H H':Hp):Prop:= ∀b o,H b=some o->hid b=false->H' b=some o
theorem Kept.of {hid:bu}{H H':Hp}(s:Same H H'):Kept hid H H':=λb o q _=>s b o q
theorem Kept.trans {hid:bu}{H H1 H2:Hp}(a:Kept hid H H1)(b:Kept hid H1 H2):Kept hid H H2:=λc o q h=>b c o (a c o q h) h
theorem Kept.vw {hid:bu}{H H':Hp}(a:Kept hid H H'):Same (vw H hid) (vw H' hid):=sX a
def PostE(K:W.Frag)(c:Ct)(hid:bu)(k:Kd)(ρ':aC)(σ:St)(H H':Hp)(v:V)(d:D):Prop:=Kept hid H H'/\match k with
 | .n=> ∃a xs ds,d=.lst ds/\v=.ref a/\H a=none/\H' a=some (.lst xs)/\c.H₀ a=none/\hid a=false/\SR K c (bI hid a) ρ' σ H'/\Reps K (vw H' (bI hid a)) xs ds/\ ∀i:Nat,Ow ρ'[i]? ->σ[i]? ≠some (some (.ref a))
 |_=>SR K c hid ρ' σ H'/\Rep K (vw H' hid) v d
def Ec(K:W.Frag)(c:Ct)(hid:bu)(k:Kd)(f:GE)(ρ:aC):TE:=λσ H Q=>SR K c hid ρ σ H/\ ∃d ρ',f ρ=some (d,ρ')/\ ∀v H',PostE K c hid k ρ' σ H H' v d->Q v H'
def DE(X:Cx)(c:Ct)(k:Kd)(e:Expr)(f:GE):Prop:= ∀hid ρ,PE X e (Ec X.K c hid k f ρ)
def pu(f:FE):GE:=λρ=>(f ρ).map λd=>(d,ρ)
theorem yI {f:FE}{ρ ρ':aC}{d:D}(h:pu f ρ=some (d,ρ')):f ρ=some d/\ρ'=ρ:=by
 unfold pu at h;cases e:f ρ with
 |none=>rw[e] at h;cases h
 |some x=>rw[e] at h;cases h;exact⟨rfl,rfl⟩
section
variable {K:W.Frag}{c:Ct}{hid hid':bu}{ρ:aC}{σ:St}{H H':Hp}{i:Nat}{a:Addr}
theorem cJ {hid:bu}{a b:Addr}(h:hid b=true):bI hid a b=true:=by unfold bI;rw[h];rfl
theorem fP {hid:bu}{a:Addr}:bI hid a a=true:=by unfold bI;simp
theorem SR.hide(h:SR K c hid ρ σ H)(e:Same H H')(n:H a=none){o:HO}(ho:H' a=some o)(hn: ∀xs,o≠ .tup xs:=by intro _ e;cases e):SR K c (bI hid a) ρ σ H':=by
 have sm:Same (vw H hid) (vw H' (bI hid a)):=λb o q=>by
  obtain⟨q1,q2⟩:=vw_some.mp q
  refine vw_some.mpr ⟨?_,e _ _ q2⟩
  unfold bI;rw[q1];have:b≠a:=bd q2 n
  simp[this]
 refine⟨λb hb=>?_,λb xs hb q=>by
  by_cases eb:b=a
  ·subst eb;rw[ho] at q;exact hn _ (Option.some.inj q)
  ·unfold bI at hb
   exact(h.ext e).ht b xs (by simpa [eb] using hb) q,λb q=>cJ (h.h0 b q),(h.ext e).kp,(h.ext e).t0,h.c0,h.m0,h.len,λi s q=>?_,h.ap⟩
 ·by_cases eb:b=a
  ·subst eb;exact⟨_,ho⟩
  ·unfold bI at hb
   have:hid b=true:=by simpa [eb] using hb
   obtain⟨o',q⟩:=h.tr b this
   exact⟨o',e _ _ q⟩
 ·have z:=h.sl i s q
  cases s with
  |no=>trivial
  |v d=>obtain⟨x,h1,h2⟩:=z;exact⟨x,h1,h2.mono sm⟩
  |own ds=>obtain⟨a',xs,h1,h2,h3,h4,h5⟩:=z;exact⟨a',xs,h1,e _ _ h2,cJ h3,h4,h5.mono sm⟩
  |arg ds=>obtain⟨a',xs,h1,h2,h3,h4,h5⟩:=z;exact⟨a',xs,h1,e _ _ h2,cJ h3,h4,h5.mono sm⟩
  |ob b=>obtain⟨a',h1,h2⟩:=z;exact⟨a',h1,h2.mono (λ_ x _=>e x) sm λ_ _ _=>cJ⟩
theorem SR.show (h:SR K c (bI hid a) ρ σ H)(h0: ∀b,c.hid₀ b=true->hid b=true)(no: ∀i:Nat,Ow ρ[i]? ->σ[i]? ≠some (some (.ref a))){o:HO}(ha:H a=some o)(hn: ∀p u,o≠ .nst p u:=by intro _ _ e;cases e):SR K c hid ρ σ H:=by
 have sm:Same (vw H (bI hid a)) (vw H hid):=cr λb q=>cJ q
 have un: ∀b,b≠a->bI hid a b=true->hid b=true:=λb nb hb=>by unfold bI at hb;simpa [nb] using hb
 refine⟨λb hb=>h.tr b (cJ hb),λb xs hb=>h.ht b xs (cJ hb),h0,h.kp,h.t0,h.c0,h.m0,h.len,λi s q=>?_,h.ap⟩
 have z:=h.sl i s q
 cases s with
 |no=>trivial
 |v d=>obtain⟨x,h1,h2⟩:=z;exact⟨x,h1,h2.mono sm⟩
 |own ds=>
  obtain⟨a',xs,h1,h2,h3,h4,h5⟩:=z
  have:a'≠a:=λe=>by subst e;exact no i (by rw[q];trivial) h1
  exact⟨a',xs,h1,h2,un a' this h3,h4,h5.mono sm⟩
 |arg ds=>
  obtain⟨a',xs,h1,h2,h3,h4,h5⟩:=z
  have:a'≠a:=λe=>by subst e;exact no i (by rw[q];trivial) h1
  exact⟨a',xs,h1,h2,un a' this h3,h4,h5.mono sm⟩
 |ob b=>
  obtain⟨a',h1,h2⟩:=z
  exact⟨a',h1,h2.mono (λ_ _ _ _ q=>q) sm λow x hx=>un x (hx.ne (λe=>by subst e;exact no i (by rw[q];exact ow) h1) ha hn)⟩
theorem SR.notOw(h:SR K c hid ρ σ H)(n:hid a=false)(i:Nat)(o:Ow ρ[i]?):σ[i]? ≠some (some (.ref a)):=λe=>by
 cases q:ρ[i]? with
 |none=>rw[q] at o;exact o
 |some s=>
  rw[q] at o;have z:=h.sl i s q
  cases s with
  |no=>exact o
  |v d=>exact o
  |own ds=>obtain⟨a',xs,h1,h2,h3,_⟩:=z;rw[e] at h1;cases h1;rw[n] at h3;cases h3
  |arg ds=>obtain⟨a',xs,h1,h2,h3,_⟩:=z;rw[e] at h1;cases h1;rw[n] at h3;cases h3
  |ob b=>obtain⟨a',h1,h2⟩:=z;rw[e] at h1;cases h1;have:=h2.hid o;rw[n] at this;cases this
theorem SR.post {k:Kd}{v:V}{d:D}(h:SR K c hid ρ σ H)(e:Same H H')(r:RK K k H H' hid v d)(hk:k≠ .b):PostE K c hid k ρ σ H H' v d:=by
 cases k with
 |b=>exact absurd rfl hk
 |s=>exact⟨.of e,h.ext e,r⟩
 |n=>
  obtain⟨a,xs,ds,h1,h2,h3,h4,h5⟩:=r
  exact⟨.of e,a,xs,ds,h1,h2,h3,h4,h.fresh0 h3,h.fresh h3,h.hide e h3 h4,h5,h.notOw (h.fresh h3)⟩
theorem PostE.left {k:Kd}{ρ':aC}{H1:Hp}{v:V}{d:D}(s:Kept hid H H1)(p:PostE K c hid k ρ' σ H1 H' v d):PostE K c hid k ρ' σ H H' v d:=by
 cases k with
 |b=>exact⟨s.trans p.1,p.2⟩
 |s=>exact⟨s.trans p.1,p.2⟩
 |n=>
  obtain⟨kp,a,xs,ds,h1,h2,hn,h3,h4,h5,h6⟩:=p
  refine⟨s.trans kp,a,xs,ds,h1,h2,?_,h3,h4,h5,h6⟩
  cases e:H a with
  |none=>rfl
  |some o=>rw[s a o e h5] at hn;cases hn
theorem PostE.toS {ρ':aC}{v:V}{d:D}(h0: ∀b,c.hid₀ b=true->hid b=true)(p:PostE K c hid .n ρ' σ H H' v d):PostE K c hid .s ρ' σ H H' v d:=by
 obtain⟨kp,a,xs,ds,rfl,rfl,hn,h1,h2,h3,h4,h5,h6⟩:=p
 exact⟨kp,h4.show h0 h6 h1,.lst (vw_some.mpr ⟨h3,h1⟩) (h5.mono (cr λb q=>cJ q))⟩
end
section
variable {X:Cx}{c:Ct}{e a b:Expr}{es rest:List Expr}{f g:GE}{k:Kd}{pos:Pos}
theorem DP.ef {f:FE}(h:DP X c k e f)(hk:k≠ .b:=by decide):DE X c k e (pu f):=λhid ρ=>PE.imp (h hid ρ) λσ H Q hq_=>by
 obtain⟨sr,d,ρ',hd,q⟩:=hq_
 obtain⟨h1,rfl⟩:=yI hd
 exact⟨sr,d,h1,λv H' s r=>q v H' (sr.post s r hk)⟩
theorem DE.toS(h:DE X c .n e f):DE X c .s e f:=λhid ρ=>PE.imp (h hid ρ) λσ H Q ⟨sr,d,ρ',hd,q⟩=>⟨sr,d,ρ',hd,λv H' p=>q v H' (p.toS sr.h0)⟩
def bE {α:Type}(f:GE)(g:D->aC->Option α):aC->Option α:=λρ=>(f ρ).bind λp=>g p.1 p.2
theorem mX {α:Type}{g:D->aC->Option α}{ρ:aC}{z:α}(h:bE f g ρ=some z): ∃d ρ',f ρ=some (d,ρ')/\g d ρ'=some z:=by
 unfold bE at h;cases e:f ρ with
 |none=>rw[e] at h;cases h
 |some p=>rw[e] at h;exact⟨p.1,p.2,rfl,h⟩
def jl(F:D->D->Option D)(f g:GE):GE:=bE f λx=>bE g λy ρ=>(F x y).map λd=>(d,ρ)
theorem uN {F:D->D->Option D}{ρ ρ':aC}{d:D}(h:jl F f g ρ=some (d,ρ')): ∃x ρ1 y,f ρ=some (x,ρ1)/\g ρ1=some (y,ρ')/\F x y=some d:=by
 obtain⟨x,ρ1,h1,h2⟩:=mX h
 obtain⟨y,ρ2,h3,h4⟩:=mX h2
 cases e:F x y with
 |none=>rw[e] at h4;cases h4
 |some z=>rw[e] at h4;cases h4;exact⟨x,ρ1,y,h1,h3,e⟩
theorem Da {r:R2}{F:D->D->Option D}{hid:bu}{ρ:aC}(hF:lV X.K k r F)(hk:k≠ .b){σ:St}{H:Hp}{Q:VK}(h:Ec X.K c hid k (jl F f g) ρ σ H Q):Cn r (Ec X.K c hid .s f ρ) (λσ H Q=> ∃ρ1,Ec X.K c hid .s g ρ1 σ H Q) σ H Q:=by
 obtain⟨sr,d,ρ',hd,q⟩:=h
 obtain⟨x,ρ1,y,e1,e2,e3⟩:=uN hd
 refine⟨sr,x,ρ1,e1,λv H1 ⟨k1,s1,r1⟩=>⟨ρ1,s1,y,ρ',e2,λu H2 ⟨k2,s2,r2⟩=>?_⟩⟩
 exact hF H2 hid v u x y d Q (λa n=>s2.fresh n) e3 (.inl (r1.mono k2.vw)) (.inl r2) λw H' s3 r3=>q w H' (PostE.left (k1.trans k2) (s2.post s3 r3 hk))
theorem jQ {α:Type}{t:α->TE}(h: ∀z,PE X e (t z)):PE X e (λσ H Q=> ∃z,t z σ H Q):=λae s σ H Q I ⟨z,q⟩=>h z ae s σ H Q I q
theorem Cv {op:Operator}{r:R2}{F:D->D->Option D}(ho:jn X (binaryOp op) r)(hF:lV X.K k r F)(ha:DE X c .s a f)(hb:DE X c .s b g)(hk:k≠ .b:=by decide):DE X c k (.BinOp a op b pos) (jl F f g):=λhid ρ=>
 PE.imp (zT ho (ha hid ρ) (jQ λρ1=>hb hid ρ1)) λσ H Q h=>Da hF hk h
def FC(K:W.Frag)(c:Ct)(hid:bu)(f:GA)(ρ:aC):TA:=λσ H Q=>SR K c hid ρ σ H/\ ∃d ρ',f ρ=some (d,ρ')/\ ∀vs H',Kept hid H H'->SR K c hid ρ' σ H'->Reps K (vw H' hid) vs d->Q vs H'
def DG(X:Cx)(c:Ct)(es:List Expr)(f:GA):Prop:= ∀hid ρ,PA X es (FC X.K c hid f ρ)
def b8(f:FA):GA:=λρ=>(f ρ).map λd=>(d,ρ)
theorem pL {f:FA}{ρ ρ':aC}{d:List D}(h:b8 f ρ=some (d,ρ')):f ρ=some d/\ρ'=ρ:=by
 unfold b8 at h;cases e:f ρ with
 |none=>rw[e] at h;cases h
 |some x=>rw[e] at h;cases h;exact⟨rfl,rfl⟩
theorem DA.gf {f:FA}(h:DA X c es f):DG X c es (b8 f):=λhid ρ=>PA.imp (h hid ρ) λσ H Q hq_=>by
 obtain⟨sr,d,ρ',hd,q⟩:=hq_
 obtain⟨h1,rfl⟩:=pL hd
 exact⟨sr,d,h1,λv H' s r=>q v H' (.of s) (sr.ext s) r⟩
def gA(f:GE)(fs:GA):GA:=bE f λd ρ=>(fs ρ).map λp=>(d::p.1,p.2)
theorem Db {α:Type}{t:α->TA}(h: ∀z,PA X es (t z)):PA X es (λσ H Q=> ∃z,t z σ H Q):=λp ae s σ H Q I ⟨z,q⟩=>h z p ae s σ H Q I q
theorem ud {fs:GA}(ha:DE X c .s e f)(hr:DG X c es fs)(hs:starEach (e::es) X.env=(false,eval e X.env)::starEach es X.env:=by rfl):DG X c (e::es) (gA f fs):=λhid ρ=>
 PA.imp (bF (ha hid ρ) (Db λρ1=>hr hid ρ1) hs) λσ H Q hq_=>by
  obtain⟨sr,d,ρ',hd,q⟩:=hq_
  obtain⟨d1,ρ1,e1,h2⟩:=mX hd
  cases e2:fs ρ1 with
  |none=>rw[e2] at h2;cases h2
  |some p=>
   rw[e2] at h2;obtain⟨ds,ρ2⟩:=p
   cases h2
   exact⟨sr,d1,ρ1,e1,λv H1 ⟨k1,s1,r1⟩=>⟨ρ1,s1,ds,_,e2,λvs H2 k2 s2 r2=>q _ H2 (k1.trans k2) s2 (.cons (r1.mono k2.vw) r2)⟩⟩
end
def cH(K:W.Frag)(k:Kd)(n:Nat)(P:List D->Option D):Sp:=λvs H Q _=> ∃hid ds,DV hid H/\Reps K (vw H hid) vs ds/\ds.length=n/\ ∃d,P ds=some d/\ ∀v H',Same H H'->RK K k H H' hid v d->Q v H'
def C7(K:W.Frag)(k:Kd)(hid:bu)(H H':Hp)(v:V)(d:D)(xs':List V)(bs':List D):Prop:=match k with
 | .n=> ∃p ys es,d=.lst es/\v=.ref p/\H p=none/\H' p=some (.lst ys)/\Reps K (vw H' (bI hid p)) ys es/\Reps K (vw H' (bI hid p)) xs' bs'
 |_=>Rep K (vw H' hid) v d/\Reps K (vw H' hid) xs' bs'
def uw(K:W.Frag)(k:Kd)(n:Nat)(M:List D->List D->Option (D×List D)):Sp:=λvs H Q _=> ∃hid a xs bs us ds,vs=.ref a::us/\DV hid H/\hid a=true/\H a=some (.lst xs)/\Reps K (vw H hid) xs bs/\
 Reps K (vw H hid) us ds/\ds.length=n/\ ∃d bs',M bs ds=some (d,bs')/\ ∀v H' xs',(∀b o,H b=some o->b≠a->H' b=some o)->H' a=some (.lst xs')->C7 K k hid H H' v d xs' bs'->Q v H'
section
variable {X:Cx}{c:Ct}{e a b:Expr}{es rest:List Expr}{k:Kd}{pos p:Pos}{x:Str}{f:Addr}{fd:FuncData}{ps:List Str}{j n:Nat}
theorem zf {P:List D->Option D}{fs:FA}(F:FnOk X.prog X.w X.K X.mg X.base oQ j f fd ps (cH X.K k n P))(hr:Room j X.A)(hm:X.mg x=some (.ref f))(hk:W.keepIn X.K (.ref f)=true)(hb:Binds X.K fd ps [])
 (ha:DA X c (e::es) fs) (hg:Gl X x:=by rfl) (hdb:(x==("__debug__":Str))=false:=by decide) (he:starEach (e::es) X.env=(false,eval e X.env)::starEach es X.env:=by rfl) (hpl:(backTo pos (starEach es X.env)).any (·.1)=false:=by rfl):
 DP X c k (.Call (.Name x p) (e::es) [] pos) (aj (λds=>if ds.length=n then P ds else none) fs):=λhid ρ=>
 PE.imp (n5 F hr hg hm hk hb .nil (vQ (X:=X)) (ha hid ρ) hdb he hpl) λσ H Q hq_=>by
  obtain⟨sr,d,hd,q⟩:=hq_
  obtain⟨ds,e1,e2⟩:=kY hd
  have e2':(if ds.length=n then P ds else none)=some d:=e2
  split at e2'
  ·refine⟨sr,ds,e1,λvs H1 s1 r1=>?_⟩
   show cH X.K k n P (vs++[]) H1 Q E0;rw[List.append_nil];exact⟨hid,ds,(sr.ext s1).trk,r1, ‹_›,d,e2',λv H' s2 r2=>q v H' (s1.trans s2) (RK.left s1 r2)⟩
  ·cases e2'
def eI(i:Nat)(bs:List D)(ρ:aC):aC:=match ρ[i]? with
 |some (.own _)=>ρ.set i (.own bs)
 |some (.arg _)=>ρ.set i (.arg bs)
 |_=>ρ
def eP(i:Nat)(ρ:aC):Option (List D):=match ρ[i]? with
 |some (.own ds)=>some ds
 |some (.arg ds)=>some ds
 |_=>none
theorem fN {i:Nat}{ρ:aC}{bs:List D}(h:eP i ρ=some bs):ρ[i]? =some (.own bs)\/ρ[i]? =some (.arg bs):=by
 unfold eP at h;split at h
 ·cases h;exact .inl ‹_›
 ·cases h;exact .inr ‹_›
 ·cases h
theorem SR.held {K:W.Frag}{hid:bu}{ρ:aC}{σ:St}{H:Hp}{i:Nat}{bs:List D}(h:SR K c hid ρ σ H)(hg:eP i ρ=some bs): ∃a xs,σ[i]? =some (some (.ref a))/\H a=some (.lst xs)/\hid a=true/\Reps K (vw H hid) xs bs/\(c.mu a=true\/c.H₀ a=none):=by
 rcases fN hg with e|e
 ·obtain⟨a,xs,h1,h2,h3,h4,h5⟩:=h.sl i _ e
  exact⟨a,xs,h1,h2,h3,h5,.inr h4⟩
 ·obtain⟨a,xs,h1,h2,h3,h4,h5⟩:=h.sl i _ e
  exact⟨a,xs,h1,h2,h3,h5,.inl h4⟩
theorem ir {i j:Nat}{ρ:aC}{bs:List D}(h:j≠i):(eI i bs ρ)[j]? =ρ[j]? :=by
 unfold eI;split
 ·rw[List.getElem?_set_ne (Ne.symm h)]
 ·rw[List.getElem?_set_ne (Ne.symm h)]
 ·rfl
theorem xh {i:Nat}{ρ:aC}{bs:List D}:(eI i bs ρ).length=ρ.length:=by
 unfold eI;split
 ·simp
 ·simp
 ·rfl
theorem nS {i j:Nat}{ρ:aC}{bs:List D}(h:Ow (eI i bs ρ)[j]?):Ow ρ[j]? :=by
 by_cases e:j=i
 ·subst e
  unfold eI at h;split at h
  ·rw[‹ρ[j]? =_›];trivial
  ·rw[‹ρ[j]? =_›];trivial
  ·exact h
 ·rw[ir e] at h;exact h
theorem SR.put {K:W.Frag}{hid:bu}{ρ:aC}{σ:St}{H H':Hp}{i:Nat}{bs bs':List D}{a:Addr}{xs':List V}(h:SR K c hid ρ σ H)(hg:eP i ρ=some bs)(ha:σ[i]? =some (some (.ref a)))(kp: ∀b o,H b=some o->b≠a->H' b=some o)
 (hx:H' a=some (.lst xs')) (r:Reps K (vw H' hid) xs' bs'):SR K c hid (eI i bs' ρ) σ H':=by
 obtain⟨a1,xs,h1,h2,h3,h4,h5⟩:=h.held hg
 rw[ha] at h1;cases h1;have sm:Same (vw H hid) (vw H' hid):=sX λb o q hb=>kp b o q (λe=>by subst e;rw[h3] at hb;cases hb)
 have tr': ∀b o,H b=some o-> ∃o',H' b=some o':=λb o q=>by
  by_cases e:b=a
  ·subst e;exact⟨_,hx⟩
  ·exact⟨o,kp b o q e⟩
 refine⟨λb hb=>let⟨o,q⟩:=h.tr b hb;tr' b o q,λb xs hb q=>by
  by_cases e:b=a
  ·subst e;rw[hx] at q;cases q
  ·obtain⟨o,w⟩:=h.tr b hb
   have z:=kp b o w e
   rw[q] at z;cases z;exact h.ht b xs hb w,h.h0,λb o q m=>?_,λb o q=>let⟨o',q'⟩:=h.t0 b o q;tr' b o' q',h.c0,h.m0,by rw[xh];exact h.len,λj s q=>?_,λj l z n o1 o2=>h.ap j l z n (nS o1) (nS o2)⟩
 ·refine kp b o (h.kp b o q m) λe=>?_
  subst e;rcases h5 with h5|h5
  ·rw[h5] at m;cases m
  ·rw[h5] at q;cases q
 ·by_cases e:j=i
  ·subst e
   rcases fN hg with w|w
   ·have lt:=(List.getElem?_eq_some_iff.mp w).1
    unfold eI at q;rw[w] at q;dsimp only at q;rw[List.getElem?_set_self lt] at q;cases q
    obtain⟨a2,xs2,g1,g2,g3,g4,g5⟩:=h.sl j _ w
    rw[ha] at g1;cases g1;exact⟨_,xs',ha,hx,g3,g4,r⟩
   ·have lt:=(List.getElem?_eq_some_iff.mp w).1
    unfold eI at q;rw[w] at q;dsimp only at q;rw[List.getElem?_set_self lt] at q;cases q
    obtain⟨a2,xs2,g1,g2,g3,g4,g5⟩:=h.sl j _ w
    rw[ha] at g1;cases g1;exact⟨_,xs',ha,hx,g3,g4,r⟩
  ·rw[ir e] at q
   have z:=h.sl j s q
   cases s with
   |no=>trivial
   |v d=>obtain⟨x,h1,h2⟩:=z;exact⟨x,h1,h2.mono sm⟩
   |own ds=>
    obtain⟨a',xs,z1,z2,z3,z4,z5⟩:=z
    have ne:a'≠a:=λe'=>by
     subst e';refine h.ap j i a' e (by rw[q];trivial) ?_ z1 ha
     rcases fN hg with w|w<;>rw[w]<;>trivial
    exact⟨a',xs,z1,kp _ _ z2 ne,z3,z4,z5.mono sm⟩
   |arg ds=>
    obtain⟨a',xs,z1,z2,z3,z4,z5⟩:=z
    have ne:a'≠a:=λe'=>by
     subst e';refine h.ap j i a' e (by rw[q];trivial) ?_ z1 ha
     rcases fN hg with w|w<;>rw[w]<;>trivial
    exact⟨a',xs,z1,kp _ _ z2 ne,z3,z4,z5.mono sm⟩
   |ob b=>
    obtain⟨a',z1,z2⟩:=z
    refine⟨a',z1,z2.mono (λow x hx o w=>kp _ _ w (hx.ne (λe'=>?_) h2)) sm λ_ _ _ w=>w⟩
    subst e';refine h.ap j i a' e (by rw[q];exact ow) ?_ z1 ha
    rcases fN hg with w|w<;>rw[w]<;>trivial
def aO(i n:Nat)(M:List D->List D->Option (D×List D))(fs:GA):GE:=λρ=>match eP i ρ with
 |none=>none
 |some _=>match fs ρ with
  |none=>none
  |some (ds,ρ1)=>match eP i ρ1 with
   |none=>none
   |some bs=>if ds.length=n then match M bs ds with
     |none=>none
     |some (d,bs')=>some (d,eI i bs' ρ1) else none
theorem ln {i:Nat}{M:List D->List D->Option (D×List D)}{fs:GA}{ρ ρ':aC}{d:D}(h:aO i n M fs ρ=some (d,ρ')): ∃bs0 ds ρ1 bs bs',eP i ρ=some bs0/\fs ρ=some (ds,ρ1)/\eP i ρ1=some bs/\ds.length=n/\M bs ds=some (d,bs')/\ρ'=eI i bs' ρ1:=by
 unfold aO at h;split at h
 ·cases h
 ·split at h
  ·cases h
  ·split at h
   ·cases h
   ·split at h
    ·split at h
     ·cases h
     ·cases h;exact⟨_,_,_,_,_, ‹_›, ‹_›, ‹_›, ‹_›, ‹_›,rfl⟩
    ·cases h
theorem wy(i:Nat){y:Str}{py:Pos}{M:List D->List D->Option (D×List D)}{fs:GA}(F:FnOk X.prog X.w X.K X.mg X.base oQ j f fd ps (uw X.K k n M))(hr:Room j X.A)(hm:X.mg x=some (.ref f))(hk:W.keepIn X.K (.ref f)=true)(hb:Binds X.K fd ps [])
 (ha:DG X c es fs) (hkb:k≠ .b:=by decide) (hN:X.N[i]? =some y:=by rfl) (hv:oN X.env.scope y:=by first|exact Or.inl rfl|exact Or.inr (Or.inl rfl)|exact Or.inr (Or.inr rfl)) (hd:(y==("__debug__":Str))=false:=by decide)
 (hcd:(y==("__classdict__":Str))=false:=by decide) (hs:starEach (.Name y py::es) X.env=(false,eval (.Name y py) X.env)::starEach es X.env:=by rfl) (hg:Gl X x:=by rfl) (hdb:(x==("__debug__":Str))=false:=by decide) (hpl:(backTo pos (starEach es X.env)).any (·.1)=false:=by rfl):
 DE X c k (.Call (.Name x p) (.Name y py::es) [] pos) (aO i n M fs):=λhid ρ=>
 PE.imp (n5 F hr hg hm hk hb .nil (vQ (X:=X)) (bF (pv i hN hv hd hcd) (ha hid ρ) hs) hdb hs hpl) λσ H Q hq_=>by
  obtain⟨sr,d,ρ',hd',q⟩:=hq_
  obtain⟨bs0,ds,ρ1,bs,bs',e0,e1,e2,e3,e4,rfl⟩:=ln hd'
  obtain⟨a,xs0,a1,_,a3,_,_⟩:=sr.held e0
  refine⟨.ref a,a1,sr,ds,ρ1,e1,λus H1 k1 s1 r1=>?_⟩
  obtain⟨a',xs,b1,b2,b3,b4,b5⟩:=s1.held e2
  rw[a1] at b1;cases b1;show uw X.K k n M ((.ref a::us)++[]) H1 Q E0;rw[List.append_nil];refine⟨hid,a,xs,bs,us,ds,rfl,s1.trk,b3,b2,b4,r1,e3,d,bs',e4,λv H' xs' kp hx hr'=>q v H' ?_⟩
  have kp':Kept hid H1 H':=λb o q hb=>kp b o q λe=>by subst e;rw[b3] at hb;cases hb
  cases k with
  |b=>exact absurd rfl hkb
  |s=>exact⟨k1.trans kp',s1.put e2 a1 kp hx hr'.2,hr'.1⟩
  |n=>
   obtain⟨p',ys,es',rfl,rfl,h1,h2,h3,h4⟩:=hr'
   have np:hid p'=false:=s1.fresh h1
   have na:a≠p':=λe=>by subst e;rw[b2] at h1;cases h1
   have sB:SR X.K c (bI hid p') ρ1 σ (bz H1 p' (.lst ys)):=s1.hide (bh h1 _) h1 aL
   have kp2: ∀b o,(bz H1 p' (.lst ys)) b=some o->b≠a->H' b=some o:=λb o z hb=>by
    by_cases e:b=p'
    ·subst e;rw[aL] at z;cases z;exact h2
    ·rw[aG e] at z;exact kp b o z hb
   have sC:SR X.K c (bI hid p') (eI i bs' ρ1) σ H':=sB.put e2 a1 kp2 hx h4
   have hn:H p'=none:=by
    cases e:H p' with
    |none=>rfl
    |some o=>rw[k1 p' o e np] at h1;cases h1
   refine⟨k1.trans kp',p',ys,es',rfl,rfl,hn,h2,s1.fresh0 h1,np,sC,h3,λm hm hσ=>?_⟩
   have:=s1.notOw np m (nS hm)
   exact this hσ
end
inductive Out where
 |nx (ρ:aC)|rt (d:D) (ρ:aC)|bk (ρ:aC)|ct (ρ:aC)|no
abbrev FS:=aC->Out
def C1(c:Ct)(k:Kd)(v:V):bu:=match k,v with
 | .n,.ref a=>bI c.hid₀ a
 |_,_=>c.hid₀
structure Ret(K:W.Frag)(c:Ct)(k:Kd)(ρ':aC)(H':Hp)(v:V)(d:D):Prop where
 kp: ∀b o,c.H₀ b=some o->c.mu b=false->H' b=some o
 val:match k with
  | .n=> ∃a xs ds,d=.lst ds/\v=.ref a/\c.H₀ a=none/\H' a=some (.lst xs)/\Reps K (vw H' (bI c.hid₀ a)) xs ds
  |_=>Rep K (vw H' c.hid₀) v d
 arg: ∀(i:Nat) (bs:List D),ρ'[i]? =some (Sl.arg bs)-> ∃a xs,c.mu a=true/\H' a=some (.lst xs)/\Reps K (vw H' (C1 c k v)) xs bs
def EndOk(K:W.Frag)(c:Ct)(k:Kd)(D:Ends)(W:Hp):Out->Prop
 | .nx ρ'=> ∀σ' H' hid',SR K c hid' ρ' σ' H'->Same W (vw H' hid')->D.nx σ' H'
 | .rt d ρ'=> ∀v H',Ret K c k ρ' H' v d->D.rt v H'
 | .bk ρ'=> ∀σ' H' hid',SR K c hid' ρ' σ' H'->Same W (vw H' hid')->D.bk σ' H'
 | .ct ρ'=> ∀σ' H' hid',SR K c hid' ρ' σ' H'->Same W (vw H' hid')->D.ct σ' H'
 | .no=>False
theorem EndOk.mono {K:W.Frag}{c:Ct}{k:Kd}{D:Ends}{W W':Hp}{o:Out}(h:EndOk K c k D W o)(s:Same W W'):EndOk K c k D W' o:=by
 cases o with
 |nx ρ=>exact λσ' H' hid' z w=>h σ' H' hid' z (s.trans w)
 |rt d ρ=>exact h
 |bk ρ=>exact λσ' H' hid' z w=>h σ' H' hid' z (s.trans w)
 |ct ρ=>exact λσ' H' hid' z w=>h σ' H' hid' z (s.trans w)
 |no=>exact h
def Fd(K:W.Frag)(c:Ct)(k:Kd)(t:FS)(ρ:aC):TS:=λD σ H=> ∃hid,SR K c hid ρ σ H/\EndOk K c k D (vw H hid) (t ρ)
def DS(X:Cx)(c:Ct)(k:Kd)(st:Stmt)(t:FS):Prop:= ∀ρ,PS X st (Fd X.K c k t ρ)
def qJ(X:Cx)(c:Ct)(k:Kd)(st:List Stmt)(t:FS):Prop:= ∀ρ,PSs X st (Fd X.K c k t ρ)
section
variable {X:Cx}{c:Ct}{k:Kd}{st:Stmt}{sts rest:List Stmt}{t u:FS}{e:Expr}{pos:Pos}
theorem o6 {α:Type}{t:α->TS}(h: ∀z,PSs X sts (t z)):PSs X sts (λD σ H=> ∃z,t z D σ H):=λae s σ H D I ⟨z,q⟩=>h z ae s σ H D I q
theorem D4 {α:Type}{t:α->TT}(h: ∀z,PT X e (t z)):PT X e (λD σ H=> ∃z,t z D σ H):=λae s σ H D I ⟨z,q⟩=>h z ae s σ H D I q
def skip:FS:=λρ=>.nx ρ
def ax(t u:FS):FS:=λρ=>match t ρ with
 | .nx ρ'=>u ρ'
 | .rt d ρ'=>.rt d ρ'
 | .bk ρ'=>.bk ρ'
 | .ct ρ'=>.ct ρ'
 | .no=>.no
theorem dA:qJ X c k [] skip:=λρ=>PSs.imp yV λD σ H ⟨hid,sr,q⟩=>q σ H hid sr (Same.refl _)
theorem aw(h:DS X c k st t):qJ X c k [st] t:=λρ=>tJ (h ρ)
theorem ak(h1:DS X c k st t)(h2:qJ X c k rest u):qJ X c k (st::rest) (ax t u):=λρ=>
 PSs.imp (oS (h1 ρ) (o6 λρ1=>h2 ρ1)) λD σ H hq_=>by
  obtain⟨hid,sr,q⟩:=hq_
  refine⟨hid,sr,?_⟩
  unfold ax at q;cases e:t ρ with
  |nx ρ1=>rw[e] at q;exact λσ1 H1 hid1 sr1 v1=>⟨ρ1,hid1,sr1,EndOk.mono q v1⟩
  |rt d ρ1=>rw[e] at q;exact q
  |bk ρ1=>rw[e] at q;exact q
  |ct ρ1=>rw[e] at q;exact q
  |no=>rw[e] at q;exact q
def fw(p:FT)(t u:FS):FS:=λρ=>match p ρ with
 |some true=>t ρ
 |some false=>u ρ
 |none=>.no
theorem gL {p:FT}{a b:List Stmt}(hp:DT X c e p)(ha:qJ X c k a t)(hb:qJ X c k b u):DS X c k (.If e a b pos) (fw p t u):=λρ=>
 PS.imp (DM (D4 λhid=>hp hid ρ) (ha ρ) (hb ρ)) λD σ H hq_=>by
  obtain⟨hid,sr,q⟩:=hq_
  cases e1:p ρ with
  |none=>unfold fw at q;rw[e1] at q;exact q.elim
  |some x=>
   refine⟨hid,sr,x,e1,λH1 s1=>?_⟩
   unfold fw at q;rw[e1] at q;cases x with
   |true=>exact uF ⟨hid,sr.ext s1,EndOk.mono q (aH s1)⟩
   |false=>exact uW ⟨hid,sr.ext s1,EndOk.mono q (aH s1)⟩
def aX(f:FE):FS:=λρ=>match f ρ with
 |some d=>.rt d ρ
 |none=>.no
theorem Am {K:W.Frag}{hid:bu}{ρ':aC}{σ:St}{H H':Hp}{v:V}{d:D}(hk:k≠ .b)(p:PostE K c hid k ρ' σ H H' v d)(h0: ∀b,c.hid₀ b=true->hid b=true):Ret K c k ρ' H' v d:=by
 cases k with
 |b=>exact absurd rfl hk
 |s=>
  obtain⟨_,sr,r⟩:=p
  refine⟨sr.kp,r.mono (cr sr.h0),λi bs e=>?_⟩
  obtain⟨a,xs,z1,z2,z3,z4,z5⟩:=sr.sl i _ e
  refine⟨a,xs,z4,z2,?_⟩
  show Reps K (vw H' c.hid₀) xs bs;exact z5.mono (cr sr.h0)
 |n=>
  obtain⟨_,a,xs,ds,rfl,rfl,_,h1,h2,h3,sr,h5,h6⟩:=p
  have le:Same (vw H' (bI hid a)) (vw H' (bI c.hid₀ a)):=cr λb q=>by
   unfold bI at q⊢;cases e:c.hid₀ b with
   |true=>rw[h0 b e];rfl
   |false=>rw[e] at q;rw[Bool.or_eq_true];right;simpa using q
  refine⟨sr.kp,⟨a,xs,ds,rfl,rfl,h2,h1,h5.mono le⟩,λi bs e=>?_⟩
  obtain⟨a',xs',z1,z2,z3,z4,z5⟩:=sr.sl i _ e
  exact⟨a',xs',z4,z2,z5.mono le⟩
theorem aS {f:FE}(he:DP X c k e f)(hk:k≠ .b:=by decide):DS X c k (.Return (some e) pos) (aX f):=λρ=>PS.imp (xa (jQ λhid=>he hid ρ)) λD σ H hq_=>by
 obtain⟨hid,sr,q⟩:=hq_
 unfold aX at q;cases e1:f ρ with
 |none=>rw[e1] at q;exact q.elim
 |some z=>rw[e1] at q;exact⟨hid,sr,_,e1,λv H' s r=>q v H' (Am hk (sr.post s r hk) sr.h0)⟩
def qI:Option Sl->Option (List D)
 |some (.own ds)=>some ds
 |_=>none
def qz(i:Nat):FS:=λρ=>match qI ρ[i]? with
 |some ds=>.rt (.lst ds) ρ
 |none=>.no
theorem mr {o:Option Sl}{ds:List D}(h:qI o=some ds):o=some (.own ds):=by
 unfold qI at h;split at h
 ·cases h;rfl
 ·cases h
theorem oe(i:Nat){x:Str}{pos':Pos}(hN:X.N[i]? =some x:=by rfl)(hv:oN X.env.scope x:=by first|exact Or.inl rfl|exact Or.inr (Or.inl rfl)|exact Or.inr (Or.inr rfl))(hd:(x==("__debug__":Str))=false:=by decide)
 (hcd:(x==("__classdict__":Str))=false:=by decide):DS X c .n (.Return (some (.Name x pos')) pos) (qz i):=λρ=>PS.imp (xa (pv i hN hv hd hcd)) λD σ H hq_=>by
 obtain⟨hid,sr,q⟩:=hq_
 unfold qz at q;cases e0:qI ρ[i]? with
 |none=>rw[e0] at q;exact q.elim
 |some ds=>
  rw[e0] at q;have e:=mr e0
  obtain⟨a,xs,z1,z2,z3,z4,z5⟩:=sr.sl i _ e
  have le:Same (vw H hid) (vw H (bI c.hid₀ a)):=cr λb w=>by
   unfold bI at w;cases e:c.hid₀ b with
   |true=>exact sr.h0 b e
   |false=>
    rw[e] at w;have:b=a:=by simpa using w
    rw[this];exact z3
  refine⟨_,z1,q _ H ⟨sr.kp,⟨a,xs,ds,rfl,rfl,z4,z2,z5.mono le⟩,λj bs e'=>?_⟩⟩
  obtain⟨a',xs',w1,w2,w3,w4,w5⟩:=sr.sl j _ e'
  exact⟨a',xs',w4,w2,w5.mono le⟩
end
section
variable {K:W.Frag}{c:Ct}{hid:bu}{ρ:aC}{σ:St}{H H':Hp}{i:Nat}{a:Addr}{v:V}{d:D}
theorem SR.setV(h:SR K c hid ρ σ H)(r:Rep K (vw H hid) v d)(i:Nat):SR K c hid (ρ.set i (.v d)) (σ.set i (some v)) H:=by
 refine⟨h.tr,h.ht,h.h0,h.kp,h.t0,h.c0,h.m0,by simp[h.len],λj s q=>?_,λj l z n o1 o2 q1 q2=>?_⟩
 ·by_cases e:j=i
  ·subst e
   have lt:j<ρ.length:=by
    have:=(List.getElem?_eq_some_iff.mp q).1
    simpa using this
   rw[List.getElem?_set_self lt] at q;cases q
   exact⟨v,List.getElem?_set_self (by rw[h.len];exact lt),r⟩
  ·rw[List.getElem?_set_ne (Ne.symm e)] at q
   have w:=h.sl j s q
   have es:(σ.set i (some v))[j]? =σ[j]? :=List.getElem?_set_ne (Ne.symm e)
   cases s with
   |no=>trivial
   |v d=>obtain⟨x,h1,h2⟩:=w;exact⟨x,es.trans h1,h2⟩
   |own ds=>obtain⟨a,xs,h1,h2⟩:=w;exact⟨a,xs,es.trans h1,h2⟩
   |arg ds=>obtain⟨a,xs,h1,h2⟩:=w;exact⟨a,xs,es.trans h1,h2⟩
   |ob b=>obtain⟨a,h1,h2⟩:=w;exact⟨a,es.trans h1,h2⟩
 ·have nj: ∀m,Ow (ρ.set i (.v d))[m]? ->m≠i:=λm o e=>by
   subst e
   by_cases lt:m<ρ.length
   ·rw[List.getElem?_set_self lt] at o;exact o
   ·rw[List.getElem?_eq_none (by simpa using lt)] at o;exact o
  have e1:=nj j o1
  have e2:=nj l o2
  rw[List.getElem?_set_ne (Ne.symm e1)] at o1 q1;rw[List.getElem?_set_ne (Ne.symm e2)] at o2 q2;exact h.ap j l z n o1 o2 q1 q2
theorem SR.setO {xs:List V}{ds:List D}(h:SR K c hid ρ σ H)(ha:H a=some (.lst xs))(hh:hid a=true)(h0:c.H₀ a=none)(r:Reps K (vw H hid) xs ds)(no: ∀i:Nat,Ow ρ[i]? ->σ[i]? ≠some (some (.ref a)))(i:Nat):
 SR K c hid (ρ.set i (.own ds)) (σ.set i (some (.ref a))) H:=by
 refine⟨h.tr,h.ht,h.h0,h.kp,h.t0,h.c0,h.m0,by simp[h.len],λj s q=>?_,λj l z n o1 o2 q1 q2=>?_⟩
 ·by_cases e:j=i
  ·subst e
   have lt:j<ρ.length:=by
    have:=(List.getElem?_eq_some_iff.mp q).1
    simpa using this
   rw[List.getElem?_set_self lt] at q;cases q
   exact⟨a,xs,List.getElem?_set_self (by rw[h.len];exact lt),ha,hh,h0,r⟩
  ·rw[List.getElem?_set_ne (Ne.symm e)] at q
   have w:=h.sl j s q
   have es:(σ.set i (some (V.ref a)))[j]? =σ[j]? :=List.getElem?_set_ne (Ne.symm e)
   cases s with
   |no=>trivial
   |v d=>obtain⟨x,h1,h2⟩:=w;exact⟨x,es.trans h1,h2⟩
   |own ds=>obtain⟨a,xs,h1,h2⟩:=w;exact⟨a,xs,es.trans h1,h2⟩
   |arg ds=>obtain⟨a,xs,h1,h2⟩:=w;exact⟨a,xs,es.trans h1,h2⟩
   |ob b=>obtain⟨a,h1,h2⟩:=w;exact⟨a,es.trans h1,h2⟩
 ·by_cases e1:j=i
  ·subst e1
   have e2:l≠j:=λe=>n e.symm
   rw[List.getElem?_set_ne (Ne.symm e2)] at o2 q2
   by_cases lt:j<σ.length
   ·rw[List.getElem?_set_self lt] at q1;cases q1;exact no l o2 q2
   ·rw[List.getElem?_eq_none (by simpa using lt)] at q1;cases q1
  ·rw[List.getElem?_set_ne (Ne.symm e1)] at o1 q1
   by_cases e2:l=i
   ·subst e2
    by_cases lt:l<σ.length
    ·rw[List.getElem?_set_self lt] at q2;cases q2;exact no j o1 q1
    ·rw[List.getElem?_eq_none (by simpa using lt)] at q2;cases q2
   ·rw[List.getElem?_set_ne (Ne.symm e2)] at o2 q2
    exact h.ap j l z n o1 o2 q1 q2
end
section
variable {X:Cx}{c:Ct}{k:Kd}{st:Stmt}{sts rest:List Stmt}{t u:FS}{e:Expr}{es:List Expr}{pos pos':Pos}{x:Str}{i:Nat}
def gF(i:Nat)(f:GE):FS:=λρ=>match f ρ with
 |some (d,ρ')=>.nx (ρ'.set i (.v d))
 |none=>.no
def aJ(i:Nat)(f:FE):FS:=λρ=>match f ρ with
 |some d=>.nx (ρ.set i (.v d))
 |none=>.no
def EW:D->Option (List D)
 | .lst ds=>some ds
 |_=>none
def rh(i:Nat)(f:GE):FS:=λρ=>match f ρ with
 |some (d,ρ')=>(match EW d with
  |some ds=>.nx (ρ'.set i (.own ds))
  |none=>.no)
 |none=>.no
def ce(i:Nat)(f:FE):FS:=λρ=>match f ρ with
 |some d=>(match EW d with
  |some ds=>.nx (ρ.set i (.own ds))
  |none=>.no)
 |none=>.no
theorem i9(i:Nat){f:GE}(hn:X.N.Nodup)(he:DE X c .s e f)(hi:X.N[i]? =some x:=by rfl)(hx:uY X.env.scope x:=by first|exact Or.inl rfl|exact Or.inr rfl)(hs:swapsWith e (some (.Name x pos')) pos.line X.env=pure false:=by rfl)
 (hf:X.fn x=true\/X.env.scope.names.lookup x=some .local:=by first|exact .inl rfl|exact .inr rfl|assumption):DS X c k (.Assign [.Name x pos'] e pos) (gF i f):=λρ=>PS.imp (jR hn hi hx (jQ λhid=>he hid ρ) hs hf) λD σ H hq_=>by
 obtain⟨hid,sr,q⟩:=hq_
 unfold gF at q;cases e1:f ρ with
 |none=>rw[e1] at q;exact q.elim
 |some z=>
  rw[e1] at q;exact⟨hid,sr,z.1,z.2,e1,λv H' ⟨kp,s',r⟩=>q _ H' hid (s'.setV r i) kp.vw⟩
theorem aM(i:Nat){f:FE}(hn:X.N.Nodup)(he:DP X c .s e f)(hi:X.N[i]? =some x:=by rfl)(hx:uY X.env.scope x:=by first|exact Or.inl rfl|exact Or.inr rfl)(hs:swapsWith e (some (.Name x pos')) pos.line X.env=pure false:=by rfl)
 (hf:X.fn x=true\/X.env.scope.names.lookup x=some .local:=by first|exact .inl rfl|exact .inr rfl|assumption):DS X c k (.Assign [.Name x pos'] e pos) (aJ i f):=λρ=>PS.imp (jR hn hi hx (jQ λhid=>he hid ρ) hs hf) λD σ H hq_=>by
 obtain⟨hid,sr,q⟩:=hq_
 unfold aJ at q;cases e1:f ρ with
 |none=>rw[e1] at q;exact q.elim
 |some z=>
  rw[e1] at q;exact⟨hid,sr,z,e1,λv H' s' r=>q _ H' hid ((sr.ext s').setV r i) (aH s')⟩
theorem zr {K:W.Frag}{hid:bu}{ρ':aC}{σ:St}{H H':Hp}{v:V}{d:D}{D:Ends}(p:PostE K c hid .n ρ' σ H H' v d)(q:EndOk K c k D (vw H hid) (match EW d with
 |some ds=>.nx (ρ'.set i (.own ds))
 |none=>.no)):D.nx (σ.set i (some v)) H':=by
 obtain⟨kp,a,xs,ds,rfl,rfl,hn,h1,h2,h3,h4,h5,h6⟩:=p
 refine q _ H' (bI hid a) (h4.setO h1 fP h2 h5 h6 i) λb o w=>?_
 obtain⟨w1,w2⟩:=vw_some.mp w
 refine vw_some.mpr ⟨?_,kp b o w2 w1⟩
 unfold bI;rw[w1];have:b≠a:=bd w2 hn
 simp[this]
theorem zA(i:Nat){f:GE}(hn:X.N.Nodup)(he:DE X c .n e f)(hi:X.N[i]? =some x:=by rfl)(hx:uY X.env.scope x:=by first|exact Or.inl rfl|exact Or.inr rfl)(hs:swapsWith e (some (.Name x pos')) pos.line X.env=pure false:=by rfl)
 (hf:X.fn x=true\/X.env.scope.names.lookup x=some .local:=by first|exact .inl rfl|exact .inr rfl|assumption):DS X c k (.Assign [.Name x pos'] e pos) (rh i f):=λρ=>PS.imp (jR hn hi hx (jQ λhid=>he hid ρ) hs hf) λD σ H hq_=>by
 obtain⟨hid,sr,q⟩:=hq_
 unfold rh at q;cases e1:f ρ with
 |none=>rw[e1] at q;exact q.elim
 |some z=>
  rw[e1] at q;exact⟨hid,sr,z.1,z.2,e1,λv H' p=>zr p q⟩
theorem dZ(i:Nat){f:FE}(hn:X.N.Nodup)(he:DP X c .n e f)(hi:X.N[i]? =some x:=by rfl)(hx:uY X.env.scope x:=by first|exact Or.inl rfl|exact Or.inr rfl)(hs:swapsWith e (some (.Name x pos')) pos.line X.env=pure false:=by rfl)
 (hf:X.fn x=true\/X.env.scope.names.lookup x=some .local:=by first|exact .inl rfl|exact .inr rfl|assumption):DS X c k (.Assign [.Name x pos'] e pos) (ce i f):=λρ=>PS.imp (jR hn hi hx (jQ λhid=>he hid ρ) hs hf) λD σ H hq_=>by
 obtain⟨hid,sr,q⟩:=hq_
 unfold ce at q;cases e1:f ρ with
 |none=>rw[e1] at q;exact q.elim
 |some z=>
  rw[e1] at q;exact⟨hid,sr,z,e1,λv H' s r=>zr (sr.post s r (by decide)) q⟩
def l4(i:Nat)(ρ:aC):aC:=match qI ρ[i]? with
 |some ds=>ρ.set i (.v (.lst ds))
 |none=>ρ
theorem SR.freeze {K:W.Frag}{hid:bu}{ρ:aC}{σ:St}{H:Hp}(h:SR K c hid ρ σ H)(i:Nat): ∃hid',SR K c hid' (l4 i ρ) σ H/\Same (vw H hid) (vw H hid'):=by
 unfold l4;cases e0:qI ρ[i]? with
 |none=>exact⟨hid,h,Same.refl _⟩
 |some ds=>
  have e:=mr e0
  obtain⟨a,xs,z1,z2,z3,z4,z5⟩:=h.sl i _ e
  have sm:Same (vw H hid) (vw H (pO hid a)):=cr λb w=>by unfold pO at w;rw[Bool.and_eq_true] at w;exact w.1
  have un: ∀b,b≠a->hid b=true->pO hid a b=true:=λb n w=>by unfold pO;rw[w];simp[n]
  have na:c.hid₀ a=false:=by
   cases q:c.hid₀ a with
   |false=>rfl
   |true=>obtain⟨o,w⟩:=h.c0 a q;rw[z4] at w;cases w
  refine⟨pO hid a,⟨λb w=>h.tr b (by unfold pO at w;rw[Bool.and_eq_true] at w;exact w.1),λb xs w=>h.ht b xs (by unfold pO at w;rw[Bool.and_eq_true] at w;exact w.1),λb w=>un b (λe=>by subst e;rw[na] at w;cases w) (h.h0 b w),h.kp,h.t0,h.c0,h.m0,by simp[h.len],λj s q=>?_,λj l z n o1 o2 q1 q2=>?_⟩,sm⟩
  ·by_cases ej:j=i
   ·subst ej
    rw[List.getElem?_set_self (List.getElem?_eq_some_iff.mp e).1] at q;cases q
    exact⟨_,z1,.lst (vw_some.mpr ⟨by unfold pO;simp,z2⟩) (z5.mono sm)⟩
   ·rw[List.getElem?_set_ne (Ne.symm ej)] at q
    have w:=h.sl j s q
    cases s with
    |no=>trivial
    |v d=>obtain⟨x,h1,h2⟩:=w;exact⟨x,h1,h2.mono sm⟩
    |own ds=>
     obtain⟨a',xs,h1,h2,h3,h4,h5⟩:=w
     exact⟨a',xs,h1,h2,un a' (λe'=>by subst e';exact h.ap j i _ ej (by rw[q];trivial) (by rw[e];trivial) h1 z1) h3,h4,h5.mono sm⟩
    |arg ds=>
     obtain⟨a',xs,h1,h2,h3,h4,h5⟩:=w
     exact⟨a',xs,h1,h2,un a' (λe'=>by subst e';exact h.ap j i _ ej (by rw[q];trivial) (by rw[e];trivial) h1 z1) h3,h4,h5.mono sm⟩
    |ob b=>
     obtain⟨a',h1,h2⟩:=w
     exact⟨a',h1,h2.mono (λ_ _ _ _ q=>q) sm λow x hx=>un x (hx.ne (λe'=>by subst e';exact h.ap j i _ ej (by rw[q];exact ow) (by rw[e];trivial) h1 z1) z2)⟩
  ·have nj: ∀m,Ow (ρ.set i (.v (.lst ds)))[m]? ->m≠i:=λm o e'=>by
    subst e'
    by_cases lt:m<ρ.length
    ·rw[List.getElem?_set_self lt] at o;exact o
    ·rw[List.getElem?_eq_none (by simpa using lt)] at o;exact o
   have e1:=nj j o1
   have e2:=nj l o2
   rw[List.getElem?_set_ne (Ne.symm e1)] at o1;rw[List.getElem?_set_ne (Ne.symm e2)] at o2;exact h.ap j l z n o1 o2 q1 q2
theorem oB(i:Nat)(h:DS X c k st t):DS X c k st (λρ=>t (l4 i ρ)):=λρ=>PS.imp (h (l4 i ρ)) λD σ H hq_=>by
 obtain⟨hid,sr,q⟩:=hq_
 obtain⟨hid',sr',sm⟩:=sr.freeze i
 exact⟨hid',sr',EndOk.mono q sm⟩
def bU(f:GE):FS:=λρ=>match f ρ with
 |some (_,ρ')=>.nx ρ'
 |none=>.no
theorem fZ {f:GE}(he:DE X c .s e f)(hs:swapsWith e none pos.line X.env=pure false:=by rfl):DS X c k (.Expr e pos) (bU f):=λρ=>PS.imp (sV (jQ λhid=>he hid ρ) hs) λD σ H hq_=>by
 obtain⟨hid,sr,q⟩:=hq_
 unfold bU at q;cases e1:f ρ with
 |none=>rw[e1] at q;exact q.elim
 |some z=>
  rw[e1] at q;exact⟨hid,sr,z.1,z.2,e1,λv H' ⟨kp,s',_⟩=>q _ H' hid s' kp.vw⟩
def Dv(K:W.Frag)(r:V->List V->Hp->VK->Prop)(n:Nat)(M:List D->List D->Option (D×List D)):Prop:= ∀(H:Hp) (hid:bu) (a:Addr) (xs us:List V) (bs ds bs':List D) (d:D) (Q:VK),H a=some (.lst xs)->hid a=true->Reps K (vw H hid) xs bs->Reps K (vw H hid) us ds->
 ds.length=n->M bs ds=some (d,bs')->(∀w xs',Reps K (vw H hid) xs' bs'->Rep K (vw H hid) w d->Q w (bz H a (.lst xs')))->r (.ref a) us H Q
theorem C3 {K:W.Frag}{r:V->List V->Hp->VK->Prop}{n:Nat}{M:List D->List D->Option (D×List D)}(hM:Dv K r n M){hid:bu}{ρ1:aC}{σ:St}{H H1:Hp}{a:Addr}{us:List V}{bs ds bs':List D}{d:D}{Q:VK}(k1:Kept hid H H1)(s1:SR K c hid ρ1 σ H1)(e2:eP i ρ1=some bs)
 (ha:σ[i]? =some (some (.ref a))) (r1:Reps K (vw H1 hid) us ds) (hn:ds.length=n) (hm:M bs ds=some (d,bs')) (q: ∀v H',PostE K c hid .s (eI i bs' ρ1) σ H H' v d->Q v H'):r (.ref a) us H1 Q:=by
 obtain⟨a',xs,b1,b2,b3,b4,b5⟩:=s1.held e2
 rw[ha] at b1;cases b1;refine hM H1 hid a xs us bs ds bs' d Q b2 b3 b4 r1 hn hm λw xs' rx rw'=>q w _ ⟨k1.trans λb o z hb=>?_,?_,?_⟩
 ·rw[aG (λe=>by subst e;rw[b3] at hb;cases hb)];exact z
 ·exact s1.put e2 ha (λb o z hb=>by rw[aG hb];exact z) aL (by rw[dI b3];exact rx)
 ·rw[dI b3];exact rw'
variable {n:Nat}{M:List D->List D->Option (D×List D)}{fs:GA}{r:V->List V->Hp->VK->Prop}{y name:Str}{py apos:Pos}{id:String}
theorem ij(i:Nat)(hM:Dv X.K r n M)(hm:D2 X id r)(slot:Slot "list" name id)(hty:typeOf (.builtin id)=pure (.type "method_descriptor"))(ha:DG X c (e::es) fs)
 (hN:X.N[i]? =some y:=by rfl) (hv:oN X.env.scope y:=by first|exact Or.inl rfl|exact Or.inr (Or.inl rfl)|exact Or.inr (Or.inr rfl)) (hd:(y==("__debug__":Str))=false:=by decide) (hcd:(y==("__classdict__":Str))=false:=by decide)
 (hbase:attributeBase (.Name y py) name X.env (eval (.Name y py) X.env)=eval (.Name y py) X.env:=by rfl)
 (hfew:((backTo pos (starEach (e::es) X.env)).all (λx=> !x.1)&&(backToKw pos (keywordEach [] X.env)).all (λx=>x.1.isSome)
   &&decide ((e::es).length+([]:List Keyword).length+(if([]:List Keyword).isEmpty then 0 else 1)<30))=true:=by rfl)
 (hline:(apos.endLine==pos.line)=true:=by rfl) (hs:starEach (e::es) X.env=(false,eval e X.env)::starEach es X.env:=by rfl) (hplain:(backTo pos (starEach es X.env)).any (·.1)=false:=by rfl):
 DE X c .s (.Call (.Attribute (.Name y py) name apos) (e::es) [] pos) (aO i n M fs):=λhid ρ=>
 PE.imp (tO PySem.F.plainAttrs_list slot hty hm (pv i hN hv hd hcd) (ha hid ρ) hbase hfew hline hs hplain) λσ H Q hq_=>by
  obtain⟨sr,d,ρ',hd',q⟩:=hq_
  obtain⟨bs0,ds,ρ1,bs,bs',e0,e1,e2,e3,e4,rfl⟩:=ln hd'
  obtain⟨a,xs0,a1,a2,a3,_,_⟩:=sr.held e0
  exact⟨.ref a,a1,.inl ⟨rfl,_,SqL.of a2⟩,sr,ds,ρ1,e1,λus H1 k1 s1 r1=>C3 hM k1 s1 e2 a1 r1 e3 e4 q⟩
end
section
variable {K:W.Frag}
def gY:List D->List D->Option (D×List D):=λbs ds=>match ds with
 | [d]=>if bs.length<sizeLine then some (.non,bs++[d]) else none
 |_=>none
theorem h9:Dv K sS 1 gY:=by
 intro H hid a xs us bs ds bs' d Q h1 h2 h3 h4 h5 h6 q;unfold gY at h6;split at h6
 ·split at h6
  ·cases h6
   cases h4 with
   |cons r t=>
    cases t
    exact⟨a,xs,_,rfl,rfl,h1,by rw[h3.length];assumption,q _ _ (h3.append (.cons r .nil)) .non⟩
  ·cases h6
 ·cases h6
def ma:List D->List D->Option (D×List D):=λbs ds=>match ds with
 | [.int i]=>match (if bs.length<=sizeLine then oo bs.length i else none) with
   |some j=>(bs[j]?).map λd=>(d,bs.eraseIdx j)
   |none=>none
 |_=>none
theorem BD:Dv K v4 1 ma:=by
 intro H hid a xs us bs ds bs' d Q h1 h2 h3 h4 h5 h6 q;unfold ma at h6;split at h6
 ·split at h6
  ·rename_i i _ j e
   cases e1:bs[j]? with
   |none=>rw[e1] at h6;cases h6
   |some z=>
    rw[e1] at h6;cases h6;cases h4 with
    |cons r t=>
     cases t
     cases r
     obtain⟨x,g1,g2⟩:=h3.get e1
     split at e
     ·obtain⟨w1,w2,w3,w4⟩:=n6 e
      have hl:=h3.length
      have l63:=iQ
      refine⟨a,xs,i,j,x,rfl,rfl,h1,by omega,by omega,by rw[hl];exact w1,g1,q _ _ (h3.eraseIdx j) g2⟩
     ·cases e
  ·cases h6
 ·cases h6
end
abbrev FG:=D->aC->Option aC
abbrev oK:=List D->aC->Option aC
def OwK(ρ ρ':aC)(σ σ':St):Prop:= ∀i:Nat,Ow ρ'[i]? ->Ow ρ[i]? /\σ'[i]? =σ[i]?
theorem OwK.trans {ρ ρ1 ρ2:aC}{σ σ1 σ2:St}(a:OwK ρ ρ1 σ σ1)(b:OwK ρ1 ρ2 σ1 σ2):OwK ρ ρ2 σ σ2:=λi o=>⟨(a i (b i o).1).1,(b i o).2.trans (a i (b i o).1).2⟩
def Et {ι:Type}(IR:Hp->V->ι->Prop)(K:W.Frag)(c:Ct)(hid:bu)(g:ι->aC->Option aC)(ρ:aC)(d:ι):TG:=λv σ H Q=>SR K c hid ρ σ H/\IR (vw H hid) v d/\ ∃ρ',g d ρ=some ρ'/\ ∀σ',SR K c hid ρ' σ' H->OwK ρ ρ' σ σ'->Q σ' H
def Ei {ι:Type}(IR:Hp->V->ι->Prop)(X:Cx)(c:Ct)(tg:Expr)(g:ι->aC->Option aC):Prop:= ∀hid ρ d,PG X tg (Et IR X.K c hid g ρ d)
abbrev oI(X:Cx)(c:Ct)(tg:Expr)(g:FG):Prop:=Ei (Rep X.K) X c tg g
def Ep(K:W.Frag)(c:Ct)(hid:bu)(g:oK)(ρ:aC)(d:List D):wF:=λv σ H Q=>SR K c hid ρ σ H/\Reps K (vw H hid) v d/\ ∃ρ',g d ρ=some ρ'/\ ∀σ',SR K c hid ρ' σ' H->OwK ρ ρ' σ σ'->Q σ' H
def Ef(X:Cx)(c:Ct)(tg:List Expr)(g:oK):Prop:= ∀hid ρ d,PGs X tg (Ep X.K c hid g ρ d)
theorem PG.imp {X:Cx}{e:Expr}{t t':TG}(h:PG X e t)(i: ∀v σ H Q,t' v σ H Q->t v σ H Q):PG X e t':=λae s σ H v u Q I r q=>h ae s σ H v u Q I r (i v σ H Q q)
theorem PGs.imp {X:Cx}{e:List Expr}{t t':wF}(h:PGs X e t)(i: ∀v σ H Q,t' v σ H Q->t v σ H Q):PGs X e t':=λae s σ H v u Q I r q=>h ae s σ H v u Q I r (i v σ H Q q)
theorem xb {X:Cx}{e:Expr}{α:Type}{t:α->TG}(h: ∀z,PG X e (t z)):PG X e (λv σ H Q=> ∃z,t z v σ H Q):=λae s σ H v u Q I r ⟨z,q⟩=>h z ae s σ H v u Q I r q
theorem sD {X:Cx}{e:List Expr}{α:Type}{t:α->wF}(h: ∀z,PGs X e (t z)):PGs X e (λv σ H Q=> ∃z,t z v σ H Q):=λae s σ H v u Q I r ⟨z,q⟩=>h z ae s σ H v u Q I r q
section
variable {X:Cx}{c:Ct}{k:Kd}{st:Stmt}{sts body:List Stmt}{t u:FS}{e tg iter:Expr}{es:List Expr}{pos pos':Pos}{x:Str}{i:Nat}
def gN(i:Nat):FG:=λd ρ=>some (ρ.set i (.v d))
theorem ar(i:Nat)(hn:X.N.Nodup)(hi:X.N[i]? =some x:=by rfl)(hx:uY X.env.scope x:=by first|exact Or.inl rfl|exact Or.inr rfl)(hf:X.fn x=true\/X.env.scope.names.lookup x=some .local:=by first|exact .inl rfl|exact .inr rfl|assumption):
 oI X c (.Name x pos) (gN i):=λhid ρ d=>PG.imp (zN (i:=i) hn hi hx hf) λv σ H Q hq_=>by
 obtain⟨sr,r,ρ',e,q⟩:=hq_
 cases e
 refine q _ (sr.setV r i) λj o=>?_
 have ne:j≠i:=λe=>by
  subst e
  by_cases lt:j<ρ.length
  ·rw[List.getElem?_set_self lt] at o;exact o
  ·rw[List.getElem?_eq_none (by simpa using lt)] at o;exact o
 rw[List.getElem?_set_ne (Ne.symm ne)] at o⊢;exact⟨o,rfl⟩
def eC:oK:=λds ρ=>match ds with
 | []=>some ρ
 |_=>none
def bL(g:FG)(gs:oK):oK:=λds ρ=>match ds with
 | []=>none
 |d::r=>(g d ρ).bind λρ'=>gs r ρ'
theorem bG:Ef X c [] eC:=λhid ρ d=>PGs.imp tL λv σ H Q hq_=>by
 obtain⟨sr,r,ρ',e,q⟩:=hq_
 unfold eC at e;split at e
 ·cases e;cases r;exact⟨rfl,q σ sr λi o=>⟨o,rfl⟩⟩
 ·cases e
theorem aD {g:FG}{gs:oK}(h1:oI X c e g)(h2:Ef X c es gs)(hs:(assignEach (e::es) X.env).map (·.2)=assign e X.env::(assignEach es X.env).map (·.2):=by rfl):Ef X c (e::es) (bL g gs):=λhid ρ d=>
 PGs.imp (qt (xb λd=>h1 hid ρ d) (sD λz:aC×List D=>h2 hid z.1 z.2) hs) λv σ H Q hq_=>by
  obtain⟨sr,r,ρ',e,q⟩:=hq_
  cases d with
  |nil=>cases e
  |cons d1 ds=>
   cases r with
   |cons r1 r2=>
    have e:(g d1 ρ).bind (λρ'=>gs ds ρ')=some ρ':=e
    cases e1:g d1 ρ with
    |none=>rw[e1] at e;cases e
    |some ρ1=>
     rw[e1] at e;exact⟨_,_,rfl,d1,sr,r1,ρ1,e1,λσ1 s1 o1=>⟨(ρ1,ds),s1,r2,ρ',e,λσ2 s2 o2=>q σ2 s2 (o1.trans o2)⟩⟩
def gT(n:Nat)(gs:oK):FG:=λd ρ=>match d with
 | .tup ds=>if ds.length=n then gs ds ρ else none
 |_=>none
theorem bK {gs:oK}{kk n:Nat}(hc:X.calm=true)(h:Ef X c es gs)(hn:(assignEach es X.env).length=n:=by rfl)(hst:(assignEach es X.env).findIdx? (·.1)=none:=by rfl):oI X c (.Tuple es kk pos) (gT n gs):=λhid ρ d=>
 PG.imp (wO hc (sD λds=>h hid ρ ds) hn hst) λv σ H Q hq_=>by
  obtain⟨sr,r,ρ',e,q⟩:=hq_
  unfold gT at e;split at e
  ·split at e
   ·cases r with
    |tup h1 h2=>exact⟨_,_,rfl,Same.seqT (dG _ _) h1,by rw[h2.length];assumption,_,sr,h2,ρ',e,q⟩
   ·cases e
  ·cases e
def Ca:Option aC->Out
 |some ρ=>.nx ρ
 |none=>.no
def dm(g:FG)(f:GE):FS:=λρ=>match f ρ with
 |some z=>Ca (g z.1 z.2)
 |none=>.no
theorem lC {g:FG}{f:GE}(he:DE X c .s e f)(hg:oI X c tg g)(hs:swapsWithSole [tg] e pos.line X.env=pure false:=by rfl)(hw:swappedStores [tg] e X.env=pure none:=by rfl)
 (h1:(assignEach [tg] X.env).map (·.2)=[assign tg X.env]:=by rfl):DS X c k (.Assign [tg] e pos) (dm g f):=λρ=>
 PS.imp (xU (jQ λhid=>he hid ρ) (xb λz:bu×aC×D=>hg z.1 z.2.1 z.2.2) hs hw h1) λD σ H hq_=>by
  obtain⟨hid,sr,q⟩:=hq_
  unfold dm at q;cases e1:f ρ with
  |none=>rw[e1] at q;exact q.elim
  |some z=>
   rw[e1] at q;cases e2:g z.1 z.2 with
   |none=>dsimp only at q;rw[e2] at q;exact q.elim
   |some ρ2=>
    dsimp only at q;rw[e2] at q;exact⟨hid,sr,z.1,z.2,e1,λv H' ⟨kp,s',r⟩=>⟨(hid,z.2,z.1),s',r,ρ2,e2,λσ' s2 _=>q σ' H' hid s2 kp.vw⟩⟩
def dC(i:Nat)(fi:FE)(d:D)(ρ:aC):Option aC:=match eP i ρ with
 |some bs=>(match fi ρ with
  |some (.int j)=>(match oo bs.length j with
   |some m=>some (eI i (bs.set m d) ρ)
   |none=>none)
  |_=>none)
 |none=>none
theorem q9 {fi:FE}{d:D}{ρ ρ':aC}(h:dC i fi d ρ=some ρ'): ∃bs j m,eP i ρ=some bs/\fi ρ=some (.int j)/\oo bs.length j=some m/\ρ'=eI i (bs.set m d) ρ:=by
 unfold dC at h;split at h
 ·split at h
  ·split at h
   ·cases h;exact⟨_,_,_, ‹_›, ‹_›, ‹_›,rfl⟩
   ·cases h
  ·cases h
 ·cases h
def EL(K:W.Frag)(c:Ct)(hid:bu)(g:FG)(ρ:aC)(d:D):TG:=λv σ H Q=>SR K c hid ρ σ H/\Rep K (vw H hid) v d/\ ∃ρ',g d ρ=some ρ'/\ ∀H',Kept hid H H'->SR K c hid ρ' σ H'->Q σ H'
def D7(X:Cx)(c:Ct)(tg:Expr)(g:FG):Prop:= ∀hid ρ d,PG X tg (EL X.K c hid g ρ d)
theorem iZ(i:Nat){y:Str}{py:Pos}{ix:Expr}{fi:FE}{k1:Kd}(hi:DP X c k1 ix fi)(hN:X.N[i]? =some y:=by rfl)(hv:oN X.env.scope y:=by first|exact Or.inl rfl|exact Or.inr (Or.inl rfl)|exact Or.inr (Or.inr rfl))(hd:(y==("__debug__":Str))=false:=by decide)(hcd:(y==("__classdict__":Str))=false:=by decide)
 (ha: ∀v,assign (.Subscript (.Name y py) ix pos) X.env v=(do
   let ov <-holding [v] (eval (.Name y py) X.env)
   let iv <-holding [v,ov] (eval ix X.env)
   standAt pos
   holding [v,ov,iv] (setItem ov iv v)
   release [v,ov,iv] []):=by intro _;rfl):D7 X c (.Subscript (.Name y py) ix pos) (dC i fi):=λhid ρ d=>
 PG.imp (AF (pv i hN hv hd hcd) (hi hid ρ) xH ha) λv σ H Q hq_=>by
  obtain⟨sr,r,ρ',e,q⟩:=hq_
  obtain⟨bs,j,m,e1,e2,e3,rfl⟩:=q9 e
  obtain⟨a,xs,a1,a2,a3,a4,a5⟩:=sr.held e1
  refine⟨.ref a,a1,sr,_,e2,λw H1 s1 r1=>?_⟩
  have b1:=(RK.b k1 r1 λa n=>sr.fresh n).int
  cases b1
  have a4':=a4.mono (aH (hid:=hid) s1)
  refine⟨a,xs,j,m,rfl,rfl,s1 _ _ a2,by rw[a4.length];exact e3,q _ (λb o z hb=>?_) ?_⟩
  ·rw[aG (λe=>by subst e;rw[a3] at hb;cases hb)];exact s1 _ _ z
  ·exact(sr.ext s1).put e1 a1 (λb o z hb=>by rw[aG hb];exact z) aL (by rw[dI a3];exact Reps.set (r.mono (aH s1)) m a4')
theorem nk {g:FG}{f:GE}(he:DE X c .s e f)(hg:D7 X c tg g)(hs:swapsWithSole [tg] e pos.line X.env=pure false:=by rfl)(hw:swappedStores [tg] e X.env=pure none:=by rfl)
 (h1:(assignEach [tg] X.env).map (·.2)=[assign tg X.env]:=by rfl):DS X c k (.Assign [tg] e pos) (dm g f):=λρ=>
 PS.imp (xU (jQ λhid=>he hid ρ) (xb λz:bu×aC×D=>hg z.1 z.2.1 z.2.2) hs hw h1) λD σ H hq_=>by
  obtain⟨hid,sr,q⟩:=hq_
  unfold dm at q;cases e1:f ρ with
  |none=>rw[e1] at q;exact q.elim
  |some z=>
   rw[e1] at q;cases e2:g z.1 z.2 with
   |none=>dsimp only at q;rw[e2] at q;exact q.elim
   |some ρ2=>
    dsimp only at q;rw[e2] at q;exact⟨hid,sr,z.1,z.2,e1,λv H' ⟨kp,s',r⟩=>⟨(hid,z.2,z.1),s',r,ρ2,e2,λH2 k2 s2=>q σ H2 hid s2 (kp.trans k2).vw⟩⟩
def EE(K:W.Frag)(c:Ct)(hid:bu)(g:oK)(ρ:aC)(d:List D):wF:=λv σ H Q=>SR K c hid ρ σ H/\Reps K (vw H hid) v d/\ ∃ρ',g d ρ=some ρ'/\ ∀H',Kept hid H H'->SR K c hid ρ' σ H'->Q σ H'
def Eh(X:Cx)(c:Ct)(tg:List Expr)(g:oK):Prop:= ∀hid ρ d,PGs X tg (EE X.K c hid g ρ d)
theorem ze:Eh X c [] eC:=λhid ρ d=>PGs.imp tL λv σ H Q hq_=>by
 obtain⟨sr,r,ρ',e,q⟩:=hq_
 unfold eC at e;split at e
 ·cases e;cases r;exact⟨rfl,q H (.of (Same.refl _)) sr⟩
 ·cases e
theorem qb {g:FG}{gs:oK}(h1:D7 X c e g)(h2:Eh X c es gs)(hs:(assignEach (e::es) X.env).map (·.2)=assign e X.env::(assignEach es X.env).map (·.2):=by rfl):Eh X c (e::es) (bL g gs):=λhid ρ d=>
 PGs.imp (qt (xb λd=>h1 hid ρ d) (sD λz:aC×List D=>h2 hid z.1 z.2) hs) λv σ H Q hq_=>by
  obtain⟨sr,r,ρ',e,q⟩:=hq_
  cases d with
  |nil=>cases e
  |cons d1 ds=>
   cases r with
   |cons r1 r2=>
    have e:(g d1 ρ).bind (λρ'=>gs ds ρ')=some ρ':=e
    cases e1:g d1 ρ with
    |none=>rw[e1] at e;cases e
    |some ρ1=>
     rw[e1] at e;exact⟨_,_,rfl,d1,sr,r1,ρ1,e1,λH1 k1 s1=>⟨(ρ1,ds),s1,r2.mono k1.vw,ρ',e,λH2 k2 s2=>q H2 (k1.trans k2) s2⟩⟩
theorem yx {gs:oK}{kk n:Nat}(hc:X.calm=true)(h:Eh X c es gs)(hn:(assignEach es X.env).length=n:=by rfl)(hst:(assignEach es X.env).findIdx? (·.1)=none:=by rfl):D7 X c (.Tuple es kk pos) (gT n gs):=λhid ρ d=>
 PG.imp (wO hc (sD λds=>h hid ρ ds) hn hst) λv σ H Q hq_=>by
  obtain⟨sr,r,ρ',e,q⟩:=hq_
  unfold gT at e;split at e
  ·split at e
   ·cases r with
    |tup h1 h2=>exact⟨_,_,rfl,Same.seqT (dG _ _) h1,by rw[h2.length];assumption,_,sr,h2,ρ',e,q⟩
   ·cases e
  ·cases e
def ItOk(K:W.Frag)(W:Hp)(J:It)(ds:List D):Prop:=
 (∀(i:Nat) (d:D) (H:Hp),ds[i]? =some d->Same W H->J.go i H/\ ∀x H',J.yld i H x H'->Same H H'/\ ∀hid:bu,(∀b,hid b=true-> ∃o,H b=some o)->Same W (vw H hid)->Rep K (vw H' hid) x d)/\ ∀H,Same W H->J.stop ds.length H
def Fz(K:W.Frag)(c:Ct)(hid:bu)(f:GA)(ρ:aC):TI:=λσ H R=>SR K c hid ρ σ H/\ ∃ds ρ',f ρ=some (ds,ρ')/\ ∀J H',Kept hid H H'->SR K c hid ρ' σ H'->ItOk K (vw H' hid) J ds->R J H'
def DI(X:Cx)(c:Ct)(tg iter:Expr)(f:GA):Prop:= ∀hid ρ,PI X tg iter (Fz X.K c hid f ρ)
theorem PI.imp {t t':TI}(h:PI X tg iter t)(i: ∀σ H Q,t' σ H Q->t σ H Q):PI X tg iter t':=λae s σ H R I q=>h ae s σ H R I (i σ H R q)
theorem EO {α:Type}{t:α->TI}(h: ∀z,PI X tg iter (t z)):PI X tg iter (λσ H R=> ∃z,t z σ H R):=λae s σ H R I ⟨z,q⟩=>h z ae s σ H R I q
theorem xD {K:W.Frag}{W:Hp}{a:Addr}{xs:List V}{ds:List D}(h:SqT K W a xs)(r:Reps K W xs ds):ItOk K W (Ey K a) ds:=by
 refine⟨λi d H e s=>?_,λH s=>⟨xs,Same.seqT s h,by rw[r.length];exact Nat.le_refl _⟩⟩
 obtain⟨x,e1,r1⟩:=r.get e
 refine⟨⟨xs,x,Same.seqT s h,e1⟩,λy H' ⟨e2,e3⟩=>?_⟩
 subst e2;have:=e3 xs (Same.seqT s h)
 rw[e1] at this;cases this;exact⟨Same.refl _,λhid _ sw=>r1.mono sw⟩
def uZ(lo:Int)(n:Nat):List D:=(List.range n).map λ(i:Nat)=>D.int (lo+i)
theorem qZ {K:W.Frag}{W:Hp}{lo:Int}{n:Nat}:ItOk K W (D6 lo n) (uZ lo n):=by
 refine⟨λi d H e s=>?_,λH s=>by show n<=(uZ lo n).length;simp[uZ]⟩
 unfold uZ at e;rw[List.getElem?_map] at e;cases e1:(List.range n)[i]? with
 |none=>rw[e1] at e;cases e
 |some j=>
  rw[e1] at e;obtain⟨h1,h2⟩:=List.getElem?_eq_some_iff.mp e1
  simp at h1 h2;subst h2;cases e
  refine⟨h1,λy H' ⟨e2,e3⟩=>?_⟩
  subst e2 e3;exact⟨Same.refl _,λhid _ sw=>.int⟩
def dv(g:FG)(b:FS):List D->FS
 | [],ρ=>.nx ρ
 |d::r,ρ=>match g d ρ with
  |none=>.no
  |some ρ1=>match b ρ1 with
   | .nx ρ2=>dv g b r ρ2
   | .ct ρ2=>dv g b r ρ2
   | .bk ρ2=>.nx ρ2
   | .rt d ρ2=>.rt d ρ2
   | .no=>.no
def cz(f:GA)(g:FG)(b:FS):FS:=λρ=>match f ρ with
 |some (ds,ρ')=>dv g b ds ρ'
 |none=>.no
theorem cA {f:GA}{g:FG}{tb:FS}(hp:PassesOwn (model X.prog X.w) X.A X.env X.xe)(hc:X.calm=true)(hi:DI X c tg iter f)(hg:oI X c tg g)(hb:qJ X c k body tb)
 (hs: ∀x,foldedSetIterable iter X.env x=pure x:=by intro _;rfl):DS X c k (.For tg iter body [] pos) (cz f g tb):=λρ=>
 PS.imp (AJ hp hc (EO λhid=>hi hid ρ) (xb λz:bu×aC×D=>hg z.1 z.2.1 z.2.2) (o6 λρ=>hb ρ) hs) λD σ H hq_=>by
  obtain⟨hid,sr,q⟩:=hq_
  unfold cz at q;cases e1:f ρ with
  |none=>rw[e1] at q;exact q.elim
  |some z=>
   obtain⟨ds,ρ0⟩:=z
   rw[e1] at q;have q':EndOk X.K c k D (vw H hid) (dv g tb ds ρ0):=q
   refine⟨hid,sr,ds,ρ0,e1,λJ H1 kp s1 it=>?_⟩
   refine⟨λi m σ H=>m=ds.length-i/\i<=ds.length/\ ∃hid2 ρ2,SR X.K c hid2 ρ2 σ H/\Same (vw H1 hid) (vw H hid2)/\EndOk X.K c k D (vw H hid2) (dv g tb (ds.drop i) ρ2),⟨ds.length,by simp,Nat.zero_le _,hid,ρ0,s1,Same.refl _,EndOk.mono q' kp.vw⟩,?_⟩
   rintro i m σ2 H2 ⟨rfl,hi',hid2,ρ2,s2,w2,q2⟩
   have wH:Same (vw H1 hid) H2:=w2.trans (dG _ _)
   by_cases hlt:i<ds.length
   ·have hd:ds[i]? =some ds[i]:=List.getElem?_eq_getElem hlt
    have e2:ds.drop i=ds[i]::ds.drop (i+1):=List.drop_eq_getElem_cons hlt
    rw[e2] at q2;unfold dv at q2;obtain⟨go,yl⟩:=it.1 i ds[i] H2 hd wH
    refine .inr ⟨go,λσ' H'=> ∃hid3 ρ3,SR X.K c hid3 ρ3 σ' H'/\Same (vw H1 hid) (vw H' hid3)/\EndOk X.K c k D (vw H' hid3) (dv g tb (ds.drop (i+1)) ρ3),λσ' H' n3=>⟨ds.length- (i+1),by omega,rfl,hlt,n3⟩,λx H3 y=>?_⟩
    obtain⟨s3,rp⟩:=yl x H3 y
    have rx:=rp hid2 s2.tr w2
    cases e3:g ds[i] ρ2 with
    |none=>rw[e3] at q2;exact q2.elim
    |some ρ3=>
     rw[e3] at q2;refine⟨(hid2,ρ2,ds[i]),s2.ext s3,rx,ρ3,e3,λσ4 s4 _=>⟨ρ3,hid2,s4,?_⟩⟩
     have w3:Same (vw H2 hid2) (vw H3 hid2):=aH s3
     dsimp only at q2;cases e4:tb ρ3 with
     |nx ρ5=>rw[e4] at q2;exact λσ' H' hid' z w=>⟨hid',ρ5,z,(w2.trans w3).trans w,EndOk.mono q2 (w3.trans w)⟩
     |ct ρ5=>rw[e4] at q2;exact λσ' H' hid' z w=>⟨hid',ρ5,z,(w2.trans w3).trans w,EndOk.mono q2 (w3.trans w)⟩
     |bk ρ5=>rw[e4] at q2;exact λσ' H' hid' z w=>q2 σ' H' hid' z (w3.trans w)
     |rt d ρ5=>rw[e4] at q2;exact q2
     |no=>rw[e4] at q2;exact q2.elim
   ·have e:i=ds.length:=by omega
    subst e;rw[List.drop_eq_nil_of_le (Nat.le_refl _)] at q2;exact .inl ⟨it.2 H2 wH,q2 σ2 H2 hid2 s2 (Same.refl _)⟩
def gE(p:FT)(b:FS):Nat->FS
 |0,_=>.no
 |n+1,ρ=>match p ρ with
  |none=>.no
  |some false=>.nx ρ
  |some true=>match b ρ with
   | .nx ρ2=>gE p b n ρ2
   | .ct ρ2=>gE p b n ρ2
   | .bk ρ2=>.nx ρ2
   | .rt d ρ2=>.rt d ρ2
   | .no=>.no
theorem hV(n:Nat){p:FT}{tb:FS}(hp:PassesOwn (model X.prog X.w) X.A X.env X.xe)(hc:DT X c e p)(hb:qJ X c k body tb):DS X c k (.While e body [] pos) (gE p tb n):=λρ=>
 PS.imp (xw hp (D4 λz:bu×aC=>hc z.1 z.2) (o6 λρ=>hb ρ)) λD σ H hq_=>by
  obtain⟨hid,sr,q⟩:=hq_
  refine⟨λm σ H=> ∃hid2 ρ2,SR X.K c hid2 ρ2 σ H/\EndOk X.K c k D (vw H hid2) (gE p tb m ρ2),⟨n,hid,ρ,sr,q⟩,?_⟩
  rintro m σ2 H2 ⟨hid2,ρ2,s2,q2⟩
  cases m with
  |zero=>exact q2.elim
  |succ m=>
   unfold gE at q2;cases e1:p ρ2 with
   |none=>rw[e1] at q2;exact q2.elim
   |some b=>
    rw[e1] at q2;refine⟨(hid2,ρ2),s2,b,e1,λH3 s3=>?_⟩
    cases b with
    |false=>exact uW (q2 σ2 H3 hid2 (s2.ext s3) (aH s3))
    |true=>
     refine uF ⟨λσ' H'=> ∃hid3 ρ3,SR X.K c hid3 ρ3 σ' H'/\EndOk X.K c k D (vw H' hid3) (gE p tb m ρ3),λσ' H' n3=>⟨m,Nat.lt_succ_self _,n3⟩,ρ2,hid2,s2.ext s3,?_⟩
     have w3:Same (vw H2 hid2) (vw H3 hid2):=aH s3
     dsimp only at q2;cases e4:tb ρ2 with
     |nx ρ5=>rw[e4] at q2;exact λσ' H' hid' z w=>⟨hid',ρ5,z,EndOk.mono q2 (w3.trans w)⟩
     |ct ρ5=>rw[e4] at q2;exact λσ' H' hid' z w=>⟨hid',ρ5,z,EndOk.mono q2 (w3.trans w)⟩
     |bk ρ5=>rw[e4] at q2;exact λσ' H' hid' z w=>q2 σ' H' hid' z (w3.trans w)
     |rt d ρ5=>rw[e4] at q2;exact q2
     |no=>rw[e4] at q2;exact q2.elim
end
def eR(n:Nat)(ds:List D):aC:=ds.map Sl.v++List.replicate (n-ds.length) .no
def fu(kd:Kd)(n:Nat)(t:FS)(ds:List D):Option D:=match t (eR n ds) with
 | .rt d _=>some d
 | .nx _=>(match kd with
   | .n=>none
   |_=>some .non)
 |_=>none
def nE(n:Nat)(bs ds:List D):aC:=.arg bs::(ds.map Sl.v++List.replicate (n-1-ds.length) .no)
def lZ:aC->Option (List D)
 | .arg bs::_=>some bs
 |_=>none
def vc(kd:Kd)(n:Nat)(t:FS)(bs ds:List D):Option (D×List D):=match t (nE n bs ds) with
 | .rt d ρ=>(lZ ρ).map λb=>(d,b)
 | .nx ρ=>(match kd with
   | .n=>none
   |_=>(lZ ρ).map λb=>(.non,b))
 |_=>none
theorem wq {K:W.Frag}{c:Ct}{hid:bu}{H:Hp}(m:Nat): ∀ {vs:List V} {ds:List D},Reps K (vw H hid) vs ds-> ∀(i:Nat) (s:Sl),(ds.map Sl.v++List.replicate m .no)[i]? =some s->SlOk K c hid (vs.map some++List.replicate m none) H i s:=by
 intro vs ds r i s e;have hl:=r.length
 by_cases hi:i<ds.length
 ·rw[List.getElem?_append_left (by simpa using hi),List.getElem?_map] at e
  have e2:ds[i]? =some ds[i]:=List.getElem?_eq_getElem hi
  rw[e2] at e;cases e
  obtain⟨x,h1,h2⟩:=r.get e2
  exact⟨x,by rw[List.getElem?_append_left (by simp;omega),List.getElem?_map,h1];rfl,h2⟩
 ·rw[List.getElem?_append_right (by simpa using hi),List.getElem?_replicate] at e
  split at e
  ·cases e;trivial
  ·cases e
theorem AQ {ds:List D}{m i:Nat}: ¬Ow (ds.map Sl.v++List.replicate m Sl.no)[i]? :=λo=>by
 by_cases hi:i<ds.length
 ·rw[List.getElem?_append_left (by simpa using hi),List.getElem?_map,List.getElem?_eq_getElem hi] at o
  exact o
 ·rw[List.getElem?_append_right (by simpa using hi),List.getElem?_replicate] at o
  split at o<;>exact o
theorem SR.begins {K:W.Frag}{hid:bu}{H:Hp}{N:List Str}{vs:List V}{ds:List D}(tr:DV hid H)(r:Reps K (vw H hid) vs ds):SR K ⟨H,hid,λ_=>false⟩ hid (eR N.length ds) (start N vs) H:=by
 have hl:=r.length
 unfold start eR;rw[hl];exact⟨tr.1,tr.2,λ_ h=>h,λ_ _ h _=>h,λb o h=>⟨o,h⟩,tr.1,(λ_ h=>nomatch h),by simp[hl],λi s e=>wq _ r i s e,λi j a _ o=>absurd o AQ⟩
section
variable {P:Program}{w:World}{K:W.Frag}{mg:Str->Option Value}{base:Heap}{x qual:Str}{st:Stmt}{f:Addr}{fd:FuncData}{N ps:List Str}{k:Nat}{t:FS}{kd:Kd}
theorem ub(F:Fun K x qual st f fd)(S:FnScope N ps (av st))(hkd:kd≠ .b)
 (body: ∀(cdv:Value) (A:Around) (outer:List Env) (s:Shared) (H:Hp) (hid:bu) (E:XK),Room k (A.deeper (envOfC qual (av st) s.heap.objs.size f cdv))->
   qJ (md oQ P w K mg base N qual (av st) f cdv A outer s H E).nox ⟨H,hid,λ_=>false⟩ kd (cM st) t):
 FnOk P w K mg base oQ (k+1) f fd ps (cH K kd ps.length (fu kd N.length t)):=by
 refine F.ok S (λvs H Q E h=>?_) (λcdv A outer s H vs Q E hr h=>?_)
 ·obtain⟨hid,ds,_,r,hl,_⟩:=h
  rw[r.length,hl]
 ·obtain⟨hid,ds,tr,r,hl,d,hP,q⟩:=h
  refine⟨_,body cdv A outer s H hid E hr (eR N.length ds),hid,SR.begins tr r,?_⟩
  unfold fu at hP;cases e:t (eR N.length ds) with
  |nx ρ=>
   rw[e] at hP;intro σ' H' hid' sr _;have sm:Same H H':=λb o z=>sr.kp b o z rfl
   cases kd with
   |b=>exact absurd rfl hkd
   |s=>cases hP;exact q _ H' sm .non
   |n=>cases hP
  |rt d' ρ=>
   rw[e] at hP;cases hP
   intro v H' R;have sm:Same H H':=λb o z=>R.kp b o z rfl
   cases kd with
   |b=>exact absurd rfl hkd
   |s=>exact q v H' sm R.val
   |n=>exact q v H' sm R.val
  |bk ρ=>rw[e] at hP;cases hP
  |ct ρ=>rw[e] at hP;cases hP
  |no=>rw[e] at hP;cases hP
theorem SR.beginsE {hid:bu}{H:Hp}{a:Addr}{xs us:List V}{bs ds:List D}(tr:DV hid H)(ha:hid a=true)(hx:H a=some (.lst xs))(rb:Reps K (vw H hid) xs bs)(r:Reps K (vw H hid) us ds)(hN:0<N.length):
 SR K ⟨H,hid,λb=>decide (b=a)⟩ hid (nE N.length bs ds) (start N (.ref a::us)) H:=by
 have hl:=r.length
 have es:start N (.ref a::us)=some (V.ref a)::(us.map some++List.replicate (N.length-1-ds.length) none):=by
  unfold start;rw[List.map_cons,List.cons_append,List.length_cons,hl];congr 3
  omega
 rw[es];unfold nE;refine⟨tr.1,tr.2,λ_ h=>h,λ_ _ h _=>h,λb o h=>⟨o,h⟩,tr.1,λb h=>?_,by simp[hl],λi s e=>?_,λi j z n o1 o2 q1 q2=>?_⟩
 ·have:b=a:=by simpa using h
  rw[this];exact ha
 ·cases i with
  |zero=>
   cases e
   exact⟨a,xs,rfl,hx,ha,by simp,rb⟩
  |succ i=>
   have z:=wq (c:=⟨H,hid,λb=>decide (b=a)⟩) (N.length-1-ds.length) r i s (by simpa using e)
   cases s with
   |no=>trivial
   |v d=>obtain⟨x,h1,h2⟩:=z;exact⟨x,by simpa using h1,h2⟩
   |own ds=>obtain⟨x,xs,h1,h2⟩:=z;exact⟨x,xs,by simpa using h1,h2⟩
   |arg ds=>obtain⟨x,xs,h1,h2⟩:=z;exact⟨x,xs,by simpa using h1,h2⟩
   |ob b=>obtain⟨x,h1,h2⟩:=z;exact⟨x,by simpa using h1,h2⟩
 ·cases i with
  |zero=>
   cases j with
   |zero=>exact n rfl
   |succ j=>exact AQ (by simpa using o2)
  |succ i=>exact AQ (by simpa using o1)
theorem ux {ρ:aC}{b:List D}(h:lZ ρ=some b):ρ[0]? =some (.arg b):=by
 unfold lZ at h;split at h
 ·cases h;rfl
 ·cases h
theorem Cd {n:Nat}(F:Fun K x qual st f fd)(S:FnScope N ps (av st))(hkd:kd≠ .b)(hn:ps.length=n+1)
 (body: ∀(cdv:Value) (A:Around) (outer:List Env) (s:Shared) (H:Hp) (hid:bu) (a:Addr) (E:XK),Room k (A.deeper (envOfC qual (av st) s.heap.objs.size f cdv))->
   qJ (md oQ P w K mg base N qual (av st) f cdv A outer s H E).nox ⟨H,hid,λb=>decide (b=a)⟩ kd (cM st) t):
 FnOk P w K mg base oQ (k+1) f fd ps (uw K kd n (vc kd N.length t)):=by
 refine F.ok S (λvs H Q E h=>?_) (λcdv A outer s H vs Q E hr h=>?_)
 ·obtain⟨hid,a,xs,bs,us,ds,rfl,_,_,_,_,r,hl,_⟩:=h
  rw[List.length_cons,r.length,hl,hn]
 ·obtain⟨hid,a,xs,bs,us,ds,rfl,tr,ha,hx,rb,r,hl,d,bs',hM,q⟩:=h
  have hN:0<N.length:=by have:=congrArg List.length S.pre;rw[List.length_take] at this;omega
  refine⟨_,body cdv A outer s H hid a E hr (nE N.length bs ds),hid,SR.beginsE tr ha hx rb r hN,?_⟩
  have fin: ∀(v:V) (H':Hp) (ρ:aC) (d:D),Ret K ⟨H,hid,λb=>decide (b=a)⟩ kd ρ H' v d->lZ ρ=some bs'->(∀v H' xs',(∀b o,H b=some o->b≠a->H' b=some o)->H' a=some (.lst xs')->C7 K kd hid H H' v d xs' bs'->Q v H')->Q v H':=by
   intro v H' ρ d R h0 q;obtain⟨a',xs',m1,m2,m3⟩:=R.arg 0 _ (ux h0)
   have:a'=a:=by simpa using m1
   subst this;refine q v H' xs' (λb o z n=>R.kp b o z (by simpa using n)) m2 ?_
   cases kd with
   |b=>exact absurd rfl hkd
   |s=>exact⟨R.val,m3⟩
   |n=>
    obtain⟨p,ys,es,rfl,rfl,h1,h2,h3⟩:=R.val
    exact⟨p,ys,es,rfl,rfl,h1,h2,h3,m3⟩
  unfold vc at hM;cases e:t (nE N.length bs ds) with
  |nx ρ=>
   rw[e] at hM;intro σ' H' hid' sr _;cases kd with
   |b=>exact absurd rfl hkd
   |s=>
    dsimp only at hM;cases e0:lZ ρ with
    |none=>rw[e0] at hM;cases hM
    |some b=>
     rw[e0] at hM;cases hM;exact fin .non H' ρ .non (Am (k:=.s) (by decide) (sr.post (k:=.s) (Same.refl _) .non (by decide)) sr.h0) e0 q
   |n=>cases hM
  |rt d' ρ=>
   rw[e] at hM;dsimp only at hM;cases e0:lZ ρ with
   |none=>rw[e0] at hM;cases hM
   |some b=>
    rw[e0] at hM;cases hM;intro v H' R;exact fin v H' ρ _ R e0 q
  |bk ρ=>rw[e] at hM;cases hM
  |ct ρ=>rw[e] at hM;cases hM
  |no=>rw[e] at hM;cases hM
end
def sU(K:W.Frag):Sp:=λvs H Q _=> ∃(a:Addr) (ns:List Int),vs=[.ref a]/\SqR K H a (ns.map V.int)/\ns.length<=63/\ ∀H',Q (.bl true) H'
theorem mR {K:W.Frag}{F:Hp}: ∀ns:List Int,Reps K F (ns.map V.int) (ns.map D.int)
 | []=>.nil
 |_::r=>.cons .int (mR r)
theorem Bc {P:Program}{w:World}{K:W.Frag}{mg:Str->Option Value}{base:Heap}{f:Addr}{fd:FuncData}{x:Str}{k:Nat}{M:List D->Option D}(F:FnOk P w K mg base oQ k f fd [x] (cH K .s 1 M))(hM: ∀ns:List Int,ns.length<=63->M [.scr (ns.map D.int)]=some (.bl true)):
 FnOk P w K mg base oQ k f fd [x] (sU K):=F.imp λvs H Q E hq_=>by
 obtain⟨a,ns,e,hS,hl,q⟩:=hq_
 subst e;have hv:vw H (λ_=>false)=H:=by funext b;unfold vw;simp
 refine⟨λ_=>false,[.scr (ns.map D.int)],⟨(λb h=>nomatch h),(λb xs h=>nomatch h)⟩,?_,rfl,.bl true,hM ns hl,λv H' _ r=>?_⟩
 ·rw[hv];exact .cons (.scr hS (mR ns)) .nil
 ·cases r;exact q H'
theorem walkD {l:W.OpenLaw}{k:Nat}{x:Str}{q:Program}{loose:List Str}{XP:(Str->Option Value)->Heap->Prop}{YP:World->Heap->Prop}{d:DefRec}{K:Params->W.Frag}(hn:l.most=some 63)(hdf:d.params.defaults=[])(hr:Room k callerA)
 (hY: ∀(w:World) (h:Heap),YP w h->(K w.params).In h)
 (F: ∀(w:World) (mg:Str->Option Value) (fa:Addr) (h:Heap),(K w.params).In h->h.Ns mainGlobals mg->mg d.name=some (.ref fa)->
   ∃fd:FuncData,(∀(s:Shared) (u:Value),BindsTo s fd ⟨[u],[]⟩ [(x,u)])/\ ∀base:Heap,(K w.params).In base->base.Ns mainGlobals mg->FnOk l.prog w (K w.params) mg base oQ k fa fd [x] (sU (K w.params))):
 W.WalkO q loose XP YP l.row.toRowW d [] (λf vs=>PySem.call f vs):=
 L2.walk_of (n:=63) (k:=k) (x:=x) (CX:=λ_=>oQ) (sp:=λw=>sU (K w.params)) hn (by decide) hdf hr hY F (λ_ H a ns hl hO hS=>⟨a,ns,rfl,hS.elim (λr=>r.elim (λe=>by rcases hO a with z|⟨o,xs,z⟩<;>rw[z] at e<;>cases e) .inl) .inr,hl,λ_=>rfl⟩) λ_ _ _ _ _ z=>z
def oM(cells:List (Str×Addr)):List (Str×NameKind)->List (Str×Addr)->List (Str×Addr)
 | [],acc=>acc
 |(n,k)::r,acc=>oM cells r (if k== .free then(match cells.lookup n with
  |some c=>(n,c)::acc
  |none=>acc) else acc)
theorem oj {cells:List (Str×Addr)}: ∀ {names:List (Str×NameKind)} {acc:List (Str×Addr)},(∀p∈acc,cells.lookup p.1=some p.2)-> ∀p∈oM cells names acc,cells.lookup p.1=some p.2
 | [],acc,h,p,hp=>h p hp
 |(n,k)::r,acc,h,p,hp=>by
  refine oj (names:=r) ?_ p hp
  intro q hq;split at hq
  ·split at hq
   ·rename_i c e
    rcases List.mem_cons.mp hq with rfl|hq
    ·exact e
    ·exact h q hq
   ·exact h q hq
  ·exact h q hq
theorem qC {cells:List (Str×Addr)}: ∀ {names:List (Str×NameKind)} {acc:List (Str×Addr)} (p:Str×Addr),p∈oM cells names acc->p∈acc\/(p.1,NameKind.free)∈names
 | [],acc,p,hp=>.inl hp
 |(n,k)::r,acc,p,hp=>by
  rcases qC (names:=r) p hp with hq|hq
  ·split at hq
   ·rename_i ek
    split at hq
    ·rcases List.mem_cons.mp hq with e|hq
     ·subst e
      have:k=.free:=by simpa using ek
      subst this;exact .inr List.mem_cons_self
     ·exact .inl hq
    ·exact .inl hq
   ·exact .inl hq
  ·exact .inr (List.mem_cons_of_mem _ hq)
theorem qo {cells:List (Str×Addr)}: ∀ {names:List (Str×NameKind)} {acc:List (Str×Addr)} {p:Str×Addr},p∈acc->p∈oM cells names acc
 | [],acc,p,h=>h
 |(n,k)::r,acc,p,h=>by
  refine qo (names:=r) ?_
  split
  ·split
   ·exact List.mem_cons_of_mem _ h
   ·exact h
  ·exact h
theorem sO {cells:List (Str×Addr)}{x:Str}{c:Addr}(hc:cells.lookup x=some c): ∀ {names:List (Str×NameKind)} {acc:List (Str×Addr)},(x,NameKind.free)∈names->(x,c)∈oM cells names acc
 | [],_,h=>nomatch h
 |(n,k)::r,acc,h=>by
  rcases List.mem_cons.mp h with e|h
  ·cases e
   refine qo (names:=r) ?_
   rw[if_pos (by rfl),hc]
   exact List.mem_cons_self
  ·exact sO hc (names:=r) h
theorem me {l:List (Str×Addr)}{x:Str}{c:Addr}(h:(x,c)∈l)(u: ∀p∈l,p.1=x->p.2=c):l.lookup x=some c:=by
 induction l with
 |nil=>exact nomatch h
 |cons p r ih=>
  obtain⟨n,a⟩:=p
  rw[List.lookup_cons];cases e:x==n with
  |true=>
   have e':x=n:=eq_of_beq e
   have:=u (n,a) List.mem_cons_self e'.symm
   simpa using this
  |false=>
   have ne:x≠n:=λe'=>by rw[e'] at e;simp at e
   rcases List.mem_cons.mp h with e'|h
   ·cases e';exact absurd rfl ne
   ·exact ih h λp hp=>u p (List.mem_cons_of_mem _ hp)
theorem qS {cells:List (Str×Addr)}{names:List (Str×NameKind)}{x:Str}{c:Addr}(h:(oM cells names []).lookup x=some c):cells.lookup x=some c:=
 oj (names:=names) (acc:=[]) (λ_ z=>nomatch z) (x,c) (PySem.mem_of_lookup h)
theorem ku {cells:List (Str×Addr)}{names:List (Str×NameKind)}{x:Str}{c:Addr}(hc:cells.lookup x=some c)(hf:(x,NameKind.free)∈names):(oM cells names []).lookup x=some c:=
 me (sO hc hf) λp hp e=>by
  have:=oj (names:=names) (acc:=[]) (λ_ z=>nomatch z) p hp
  rw[e,hc] at this;exact(Option.some.inj this).symm
theorem dD {scope:Scope}{env:Env}(h: ∀x,(x,NameKind.free)∈scope.names-> ∃c,env.cells.lookup x=some c):closureFor scope env=pure (oM env.cells scope.names []):=by
 unfold closureFor;have key: ∀(names:List (Str×NameKind)) (acc:List (Str×Addr)),(∀x,(x,NameKind.free)∈names-> ∃c,env.cells.lookup x=some c)->
  (forIn names acc (λ(p:Str×NameKind) (r:List (Str×Addr))=>match p with
    |(name,kind)=>if(kind==NameKind.free)=true then do
       let __do_lift <-cellOf env name
       pure (ForInStep.yield ((name,__do_lift)::r)) else pure (ForInStep.yield r)):Sem (List (Str×Addr)))=pure (oM env.cells names acc):=by
  intro names
  induction names with
  |nil=>intro acc _;rfl
  |cons p r ih=>
   intro acc h;obtain⟨n,k⟩:=p
   rw[List.forIn_cons];have hr: ∀x,(x,NameKind.free)∈r-> ∃c,env.cells.lookup x=some c:=λx hx=>h x (List.mem_cons_of_mem _ hx)
   cases e:k==NameKind.free with
   |false=>
    simp only[e,Bool.false_eq_true,if_false,pure_bind];rw[ih acc hr]
    conv=>rhs;unfold oM
    simp[e]
   |true=>
    have ek:k=.free:=by simpa using e
    subst ek;obtain⟨c,hc⟩:=h n List.mem_cons_self
    have ec:cellOf env n=pure c:=by unfold cellOf;rw[hc]
    simp only[beq_self_eq_true,if_true,ec,pure_bind];rw[ih _ hr]
    conv=>rhs;unfold oM
    simp[hc]
 have:=key scope.names [] h
 simp only[this,pure_bind]
theorem fW {sc:Scope}{env:Env}{x:Str}{k:NameKind}(h:(relabel sc env).names.lookup x=some k): ∃k0,sc.names.lookup x=some k0/\(k=k0\/(k0=.free/\k=.cell)):=by
 unfold relabel at h;dsimp only at h
 generalize sc.names=l at h⊢
 induction l with
 |nil=>simp at h
 |cons p r ih=>
  obtain⟨n,k1⟩:=p
  rw[List.map_cons] at h;dsimp only at h;rw[List.lookup_cons];cases hx:x==n with
  |true=>
   refine⟨k1,rfl,?_⟩
   split at h
   ·rename_i hc
    rw[List.lookup_cons] at h;simp only[hx] at h;cases h
    have:k1=.free:=by
     simp only[Bool.and_eq_true] at hc;exact eq_of_beq hc.1.1
    exact .inr ⟨this,rfl⟩
   ·rw[List.lookup_cons] at h
    simp only[hx] at h;cases h
    exact .inl rfl
  |false=>
   split at h
   ·rw[List.lookup_cons] at h;simp only[hx] at h;exact ih h
   ·rw[List.lookup_cons] at h;simp only[hx] at h;exact ih h
def ly(cells:List (Str×Addr))(scope:Scope)(C:Addr):List (Str×Addr):=cellsFrom (C+1) scope.names (oM cells scope.names [])
theorem bn: ∀(names:List (Str×NameKind)) (n:Nat) (acc:List (Str×Addr)),cellsFrom n names acc=cellsFrom n names []++acc
 | [],_,_=>rfl
 |(name,kind)::r,n,acc=>by
  unfold cellsFrom;split
  ·rw[bn r (n+1) ((name,n)::acc),bn r (n+1) [(name,n)],List.append_assoc];rfl
  ·exact bn r n acc
theorem nz: ∀ {names:List (Str×NameKind)} {n:Nat} {p:Str×Addr},p∈cellsFrom n names []->(p.1,NameKind.cell)∈names
 | [],_,_,h=>nomatch h
 |(name,kind)::r,n,p,h=>by
  unfold cellsFrom at h;split at h
  ·rename_i hk
   have hk':kind=.cell:=by simpa using hk
   subst hk';rw[bn] at h;rcases List.mem_append.mp h with h|h
   ·exact List.mem_cons_of_mem _ (nz h)
   ·rw[List.mem_singleton.mp h];exact List.mem_cons_self
  ·exact List.mem_cons_of_mem _ (nz h)
theorem jT: ∀ {names:List (Str×NameKind)} {n:Nat} {x:Str},(x,NameKind.cell)∈names-> ∃c,(x,c)∈cellsFrom n names []
 | [],_,_,h=>nomatch h
 |(name,kind)::r,n,x,h=>by
  unfold cellsFrom;rcases List.mem_cons.mp h with e|h
  ·cases e
   rw[if_pos (by rfl),bn]
   exact⟨n,List.mem_append_right _ List.mem_cons_self⟩
  ·split
   ·obtain⟨c,hc⟩:=jT (n:=n+1) h
    rw[bn];exact⟨c,List.mem_append_left _ hc⟩
   ·exact jT h
theorem rE {l:List (Str×Addr)}{x:Str}{c:Addr}(h:(x,c)∈l): ∃c',l.lookup x=some c':=by
 induction l with
 |nil=>exact nomatch h
 |cons p r ih=>
  obtain⟨n,a⟩:=p
  rw[List.lookup_cons];cases e:x==n with
  |true=>exact⟨a,rfl⟩
  |false=>
   rcases List.mem_cons.mp h with e'|h
   ·cases e';simp at e
   ·exact ih h
theorem dL {cells:List (Str×Addr)}{sc:Scope}{C:Addr}{x:Str}{c:Addr}(h:(ly cells sc C).lookup x=some c):(x,c)∈cellsFrom (C+1) sc.names []\/(oM cells sc.names []).lookup x=some c:=by
 unfold ly at h;rw[bn,List.lookup_append] at h;cases e:(cellsFrom (C+1) sc.names []).lookup x with
 |none=>rw[e] at h;exact .inr h
 |some c'=>rw[e] at h;cases h;exact .inl (PySem.mem_of_lookup e)
theorem wk {cells:List (Str×Addr)}{sc:Scope}{C:Addr}{x:Str}(h:(x,NameKind.cell)∈sc.names): ∃c,(ly cells sc C).lookup x=some c:=by
 obtain⟨c,hc⟩:=jT (n:=C+1) h
 obtain⟨c',e⟩:=rE hc
 exact⟨c',by unfold ly;rw[bn,List.lookup_append,e];rfl⟩
theorem qA {cells:List (Str×Addr)}{sc:Scope}{C:Addr}{x:Str}(h:(x,NameKind.cell)∉sc.names):(ly cells sc C).lookup x=(oM cells sc.names []).lookup x:=by
 unfold ly;rw[bn,List.lookup_append];cases e:(cellsFrom (C+1) sc.names []).lookup x with
 |none=>rfl
 |some c'=>exact absurd (nz (PySem.mem_of_lookup e)) h
theorem tz {M:Model}{A:Around}{E:Value->Shared->Prop}{s:Shared}{scope:Scope}{globals:Addr}{closure:List (Str×Addr)}{qual:Str}{outer:Env}{Q:Env->Shared->Prop}
 (hQ: ∀h',h'.Ns s.heap.objs.size (λ_=>none)->(∀b o,s.heap.get? b=some o->h'.get? b=some o)->CellsOk h' (s.heap.objs.size+1) (cellsFrom (s.heap.objs.size+1) scope.names [])->
   Q (newEnv scope s.heap.objs.size globals (cellsFrom (s.heap.objs.size+1) scope.names closure) qual none .none (some outer) builtinsNs) {s with heap:=h',toks:=s.toks}):
 wpAny M A (newFunctionEnv scope globals closure [] qual none .none (some outer)) Q E s:=by
 simp only[newFunctionEnv,Option.isSome_some,if_true];refine wpAny_bind (wpAny_alloc ?_)
 refine wpAny_bind (wpAny_layCells _ (λname kind cells=>by cases hkc:kind==NameKind.cell<;>simp[hkc]) _ _ _ _ ?_)
 have ok:=cellsFrom_ok scope.names (s.heap.push {cls:=.type "dict",data:=.dict #[]}) (s.heap.objs.size+1) [] ⟨λ_ _ hm=>(nomatch hm),List.Pairwise.nil⟩ (by rw[Heap.size_push];exact Nat.le_refl _)
 rw[Heap.size_push] at ok;rw[show({s with heap:=s.heap.push {cls:=.type "dict",data:=.dict #[]}}:Shared).heap.objs.size=s.heap.objs.size+1 from Heap.size_push ..]
 rw[List.forIn_nil];refine wpAny_bind (wpAny_pure (wpAny_pure ?_))
 exact hQ _ ((Heap.Ns.new s.heap (.type "dict")).keeps (pushCells_keeps _ _)) (λb o e=>pushCells_keeps _ _ b o (Heap.get?_push_of_some _ e)) ok
def aB(X:Cx)(N':List Str)(scope:Scope)(C:Addr)(s₀:Shared)(H₀:Hp)(ex:List Addr):Cx where
 prog:=X.prog
 w:=X.w
 K:=X.K
 mg:=X.mg
 base:=X.base
 A:=X.A
 N:=N'
 s₀:=s₀
 H₀:=H₀
 env:=compEnvC scope (ly X.env.cells scope C) C X.env
 outer:=X.stack
 stack:=X.stack
 ex:=ex
 fn:=λx=>scope.names.lookup x==some .local||scope.names.lookup x==some .cell
 calm:=X.calm
 pn:=[]
 xe:=λ_ _=>False
def tw(N N':List Str)(sc:Scope):Bool:=
 decide (N.length<=N'.length)&&((N'.take N.length).zip N).all (λp=>(p.1==p.2&& !(sc.names.lookup p.1==some .local)&& !(sc.names.lookup p.1==some .cell))||(sc.names.lookup p.1).isNone)&&
  (N'.drop N.length).all λx=>sc.names.lookup x==some .local||sc.names.lookup x==some .cell
def sK(sc:Scope)(outer:Scope):Bool:=
 sc.names.all λy=>(y.2 != .cell||sc.names.lookup y.1==some .cell)&&(y.2 != .local||sc.names.lookup y.1==some .local)&&(y.2 != .free||(sc.names.lookup y.1==some .free&&(outer.names.lookup y.1==some .cell||outer.names.lookup y.1==some .free)))
theorem qh {sc o:Scope}(h:sK sc o=true): ∀y∈sc.names,y.2=.cell->sc.names.lookup y.1=some .cell:=λy hy e=>by
 have:=List.all_eq_true.mp h y hy
 simpa [e] using this
theorem ik {sc o:Scope}(h:sK sc o=true): ∀y∈sc.names,y.2=.local->sc.names.lookup y.1=some .local:=λy hy e=>by
 have:=List.all_eq_true.mp h y hy
 simpa [e] using this
theorem fJ {sc o:Scope}(h:sK sc o=true): ∀x,(x,NameKind.free)∈sc.names->o.names.lookup x=some .cell\/o.names.lookup x=some .free:=λx hx=>by
 have:=List.all_eq_true.mp h _ hx
 simpa using (by simpa using this:_/\_).2
theorem mO {sc o:Scope}(h:sK sc o=true): ∀x,(x,NameKind.free)∈sc.names->sc.names.lookup x=some .free:=λx hx=>by
 have:=List.all_eq_true.mp h _ hx
 simpa using (by simpa using this:_/\_).1
theorem uE {N N':List Str}{sc:Scope}(h:tw N N' sc=true){i:Nat}{x:Str}(hi:i<N.length)(e:N'[i]? =some x)(hv: ∃k,sc.names.lookup x=some k/\(k=.local\/k=.cell\/k=.free)):N[i]? =some x/\sc.names.lookup x=some .free:=by
 unfold tw at h;simp only[Bool.and_eq_true,decide_eq_true_eq] at h;obtain⟨⟨h1,h2⟩,_⟩:=h
 have hN:N[i]? =some N[i]:=List.getElem?_eq_getElem hi
 have e1:(N'.take N.length)[i]? =some x:=by rw[List.getElem?_take_of_lt hi];exact e
 have hm:(x,N[i])∈(N'.take N.length).zip N:=by
  refine List.mem_of_getElem? (i:=i) ?_
  rw[List.getElem?_zip_eq_some];exact⟨e1,hN⟩
 have:=List.all_eq_true.mp h2 _ hm
 obtain⟨k,hk,hk2⟩:=hv
 dsimp only at this;rw[hk] at this;simp only[Option.isNone_some,Bool.or_false,Bool.and_eq_true,Bool.not_eq_true'] at this;obtain⟨⟨t1,t2⟩,t3⟩:=this
 have ex:x=N[i]:=eq_of_beq t1
 rcases hk2 with rfl|rfl|rfl
 ·simp at t2
 ·simp at t3
 ·exact⟨by rw[hN,<-ex],hk⟩
theorem zo {N N':List Str}{sc:Scope}(h:tw N N' sc=true):N.length<=N'.length:=by
 unfold tw at h;simp only[Bool.and_eq_true,decide_eq_true_eq] at h;exact h.1.1
section
variable {X:Cx}{ae:List (Addr×Obj)}{σ:St}{H:Hp}{s:Shared}{scope:Scope}{N':List Str}{fp:List Addr}
theorem uV(I:Inv X ae σ H s){b:Addr}(f:gG X ae H b):b∉frs X.stack:=λz=>by
 rcases List.mem_cons.mp (I.stkSub b z) with e|z
 ·exact f.2.1 e
 ·exact f.2.2.1 z
theorem o5 {h':Heap}{tk:Nat}(I:Inv X ae σ H s)(hF: ∀b∈fp,gG X ae H b)(hO: ∀b∈fp,∃o,s.heap.get? b=some o)(hk:scope.kind=.function)(hs:sK scope X.env.scope=true)(hn:tw X.N N' scope=true)
 (ns:h'.Ns s.heap.objs.size λ_=>none) (kp: ∀b o,s.heap.get? b=some o->h'.get? b=some o) (oc:CellsOk h' (s.heap.objs.size+1) (cellsFrom (s.heap.objs.size+1) scope.names [])):
 Inv (aB X N' scope s.heap.objs.size s H fp) [] (σ++List.replicate (N'.length-X.N.length) none) H {s with heap:=h',toks:=tk}:=by
 have hlen:=zo hn
 have cl: ∀x c,(oM X.env.cells scope.names []).lookup x=some c->X.env.cells.lookup x=some c:=λx c e=>qS e
 have clt: ∀x c,(oM X.env.cells scope.names []).lookup x=some c->c<s.heap.objs.size:=λx c e=>let⟨_,z⟩:=I.cell x c (cl x c e);z.lt
 have newC:H s.heap.objs.size=none:=I.hok.fresh (Nat.le_refl _)
 refine⟨⟨I.ok.mod,hk,I.ok.glob,I.ok.blt,Nat.le_refl _,λx y c h1 h2=>?_,λx hx=>?_,λx c h1 h2=>?_,I.ok.hd,I.ok.frames,.inl rfl,λb hb=>⟨?_,λx c e=>?_⟩,I.bs,Nat.le_trans I.ok.bsz I.sz,λb o e hb=>?_,λb hb=>uV I (hF b hb),I.stack,I.stkFree⟩,
  rfl,I.bare,Un.kept kp,⟨_,ns,λi x v e1 e2 e3=>?_⟩,λx c e=>?_,newC,λx c e=>?_,λp hp=>absurd (show p∈([]:List (Addr×Obj)) from hp) (by simp),I.hok.kept kp,?_⟩
 ·
  rcases dL h1 with h1|h1<;>rcases dL h2 with h2|h2
  ·exact name_of_addr oc.apart h1 h2
  ·exact absurd (clt y c h2) (Nat.not_lt.mpr (Nat.le_of_succ_le (oc.empty _ _ h1).2))
  ·exact absurd (clt x c h1) (Nat.not_lt.mpr (Nat.le_of_succ_le (oc.empty _ _ h2).2))
  ·exact I.ok.inj x y c (cl x c h1) (cl y c h2)
 ·
  have hx':(relabel scope X.env).names.lookup x=some .cell\/(relabel scope X.env).names.lookup x=some .free:=hx
  have:(x,NameKind.cell)∈scope.names\/(x,NameKind.free)∈scope.names:=by
   rcases hx' with hx'|hx'
   ·obtain⟨k0,e0,e1|⟨e1,_⟩⟩:=fW hx'
    ·subst e1;exact .inl (PySem.mem_of_lookup e0)
    ·subst e1;exact .inr (PySem.mem_of_lookup e0)
   ·obtain⟨k0,e0,e1|⟨_,e1⟩⟩:=fW hx'
    ·subst e1;exact .inr (PySem.mem_of_lookup e0)
    ·cases e1
  rcases this with this|this
  ·exact wk this
  ·have hc:=fJ hs x this
   obtain⟨c,e⟩:=I.ok.has x hc
   exact⟨c,(qA λz=>by have z1:=qh hs _ z rfl;have z2:=mO hs x this;rw[z2] at z1;cases z1).trans (ku e this)⟩
 ·
  have h1':scope.names.lookup x=some .local\/scope.names.lookup x=some .cell:=by
   have h1:(scope.names.lookup x==some .local||scope.names.lookup x==some .cell)=true:=h1
   simpa using h1
  rcases dL h2 with h2|h2
  ·exact Nat.le_of_succ_le (oc.empty _ _ h2).2
  ·exfalso
   rcases qC _ (PySem.mem_of_lookup h2) with z|z
   ·exact nomatch z
   ·rw[mO hs x z] at h1';rcases h1' with h1'|h1'<;>cases h1'
 ·obtain⟨o,e⟩:=hO b hb
  exact Nat.ne_of_lt (Heap.lt_size e)
 ·rcases dL e with e|e
  ·obtain⟨o,e'⟩:=hO b hb
   exact λz=>absurd (Heap.lt_size e') (Nat.not_lt.mpr (z▸Nat.le_of_succ_le (oc.empty _ _ e).2))
  ·exact(hF b hb).2.2.2.2.1 x c (cl x c e)
 ·obtain⟨_,_,_,h4,_⟩:=hF b hb
  rcases h4 with h4|h4
  ·exact I.ok.noex b o e h4
  ·exact absurd (Nat.lt_of_lt_of_le (Heap.lt_size e) (Nat.le_trans I.ok.bsz h4)) (Nat.lt_irrefl _)
 ·have hi:i<X.N.length:=by
   by_cases hi:i<σ.length
   ·rw[<-I.len];exact hi
   ·rw[List.getElem?_append_right (by omega),List.getElem?_replicate] at e2
    split at e2<;>cases e2
  rw[List.getElem?_append_left (by rw[I.len];exact hi)] at e2
  have e3':(relabel scope X.env).names.lookup x=some .local\/(relabel scope X.env).names.lookup x=some .cell\/(relabel scope X.env).names.lookup x=some .free:=e3
  have hv: ∃k,scope.names.lookup x=some k/\(k=.local\/k=.cell\/k=.free):=by
   rcases e3' with z|z|z
   all_goals
    obtain⟨k0,q0,q1|⟨q1,q2⟩⟩:=fW z
    ·subst q1;exact⟨_,q0,by simp⟩
    ·subst q1;exact⟨_,q0,by simp⟩
  obtain⟨hN,hf⟩:=uE hn hi e1 hv
  have hfm:=PySem.mem_of_lookup hf
  have hc:=fJ hs x hfm
  have nc:(x,NameKind.cell)∉scope.names:=λz=>by have z1:=qh hs _ z rfl;rw[hf] at z1;cases z1
  obtain⟨m,hm,hl⟩:=I.loc
  obtain⟨u,r,l⟩:=hl i x v hN e2 (.inr hc)
  refine⟨u,r,.inr ⟨?_,?_⟩⟩
  ·show(relabel scope X.env).names.lookup x=some .cell\/(relabel scope X.env).names.lookup x=some .free
   rcases e3' with z|z|z
   ·obtain⟨k0,q0,q1|⟨q1,q2⟩⟩:=fW z
    ·subst q1;rw[hf] at q0;cases q0
    ·cases q2
   ·exact .inl z
   ·exact .inr z
  ·rcases l with⟨l,_⟩|⟨_,c,ec,z⟩
   ·have l':X.env.scope.names.lookup x=some .local:=l
    rcases hc with hc|hc<;>rw[hc] at l'<;>cases l'
   ·exact⟨c,(qA nc).trans (ku ec hfm),z.keeps kp⟩
 ·rcases dL e with e|e
  ·exact⟨_,(oc.empty _ _ e).1⟩
  ·obtain⟨v,z⟩:=I.cell x c (cl x c e)
   exact⟨v,z.keeps kp⟩
 ·rcases dL e with e|e
  ·exact I.hok.fresh (Nat.le_of_succ_le (oc.empty _ _ e).2)
  ·exact I.freeC x c (cl x c e)
 ·show(σ++_).length=N'.length
  rw[List.length_append,List.length_replicate,I.len];omega
end
def Ev(K:W.Frag)(c:Ct)(hid:bu)(f:FA)(ρ:aC):TI:=λσ H R=>SR K c hid ρ σ H/\ ∃ds,f ρ=some ds/\ ∀J H',Same H H'->ItOk K (vw H' hid) J ds->R J H'
def DIp(X:Cx)(c:Ct)(tg iter:Expr)(f:FA):Prop:= ∀hid ρ,PI X tg iter (Ev X.K c hid f ρ)
def Dr {ι:Type}(IR:Hp->V->ι->Prop)(L W:Hp)(J:It)(ds:List ι):Prop:=
 (∀(i:Nat) (d:ι) (H:Hp),ds[i]? =some d->Same L H->Same W H->J.go i H/\ ∀x H',J.yld i H x H'->Same H H'/\ ∀hid:bu,(∀b,hid b=true-> ∃o,H b=some o)->Same W (vw H hid)->IR (vw H' hid) x d)/\ ∀H,Same L H->Same W H->J.stop ds.length H
abbrev Co(K:W.Frag)(L W:Hp)(J:It)(ds:List D):Prop:=Dr (Rep K) L W J ds
theorem ItOk.b {K:W.Frag}{L W:Hp}{J:It}{ds:List D}(h:ItOk K W J ds):Co K L W J ds:=⟨λi d H e _ w=>h.1 i d H e w,λH _ w=>h.2 H w⟩
def E6 {ι:Type}(IR:Hp->V->ι->Prop)(K:W.Frag)(c:Ct)(hid:bu)(f:aC->Option (List ι))(ρ:aC):TI:=λσ H R=>SR K c hid ρ σ H/\ ∃ds,f ρ=some ds/\ ∀J H',Same H H'->Dr IR H' (vw H' hid) J ds->R J H'
def E9 {ι:Type}(IR:Hp->V->ι->Prop)(X:Cx)(c:Ct)(tg iter:Expr)(f:aC->Option (List ι)):Prop:= ∀hid ρ,PI X tg iter (E6 IR X.K c hid f ρ)
abbrev Ap(X:Cx)(c:Ct)(tg iter:Expr)(f:FA):Prop:=E9 (Rep X.K) X c tg iter f
section
variable {X:Cx}{c:Ct}{k:Kd}{tg iter:Expr}{pos:Pos}
theorem DIp.b {f:FA}(h:DIp X c tg iter f):Ap X c tg iter f:=λhid ρ=>PI.imp (h hid ρ) λσ H R ⟨sr,ds,e,q⟩=>⟨sr,ds,e,λJ H' s io=>q J H' s io.b⟩
theorem DIp.e {f:FA}(h:DIp X c tg iter f):DI X c tg iter (b8 f):=λhid ρ=>PI.imp (h hid ρ) λσ H R hq_=>by
 obtain⟨sr,ds,ρ',e,q⟩:=hq_
 obtain⟨e1,rfl⟩:=pL e
 exact⟨sr,ds,e1,λJ H' s io=>q J H' (.of s) (sr.ext s) io⟩
def lN(f:FE):FA:=λρ=>(f ρ).bind λd=>match d with
 | .lst ds=>some ds
 |_=>none
def pP(f:FE):FA:=λρ=>(f ρ).bind λd=>match d with
 | .tup ds=>some ds
 |_=>none
theorem mB {f:FE}{ρ:aC}{ds:List D}(h:lN f ρ=some ds):f ρ=some (.lst ds):=by
 unfold lN at h;cases e:f ρ with
 |none=>rw[e] at h;cases h
 |some d=>
  rw[e] at h;cases d with
  |lst z=>cases h;rfl
  |_=>cases h
theorem uQ {f:FE}{ρ:aC}{ds:List D}(h:pP f ρ=some ds):f ρ=some (.tup ds):=by
 unfold pP at h;cases e:f ρ with
 |none=>rw[e] at h;cases h
 |some d=>
  rw[e] at h;cases d with
  |tup z=>cases h;rfl
  |_=>cases h
theorem xk {K:W.Frag}{W:Hp}{a:Addr}{xs:List V}{ds:List D}(h1:SqL K W a xs)(h2:Reps K W xs ds):ItOk K W (EB K a) ds:=by
 refine⟨λi d H e s=>?_,λH s=>⟨_,s.seq h1,by rw[h2.length];exact Nat.le_refl _⟩⟩
 obtain⟨x,e1,r1⟩:=h2.get e
 refine⟨⟨_,x,s.seq h1,e1⟩,λy H' ⟨e2,e3⟩=>?_⟩
 subst e2;have:=e3 _ (s.seq h1)
 rw[e1] at this;cases this;exact⟨Same.refl _,λhid _ sw=>r1.mono sw⟩
theorem li {f:FE}(h:DP X c .s iter f):DIp X c tg iter (lN f):=λhid ρ=>PI.imp (sJ (h hid ρ)) λσ H R hq_=>by
 obtain⟨sr,ds,e,q⟩:=hq_
 refine⟨sr,_,mB e,λv H' s' r=>?_⟩
 cases r with
 |lst h1 h2=>have h1:=SqL.of (K:=X.K) h1;exact⟨_,rfl,⟨_,(dG _ _).seq h1⟩,q _ H' s' (xk h1 h2)⟩
theorem wt {f:FE}(h:DP X c .b iter f):Ap X c tg iter (lN f):=λhid ρ=>PI.imp (sJ (h hid ρ)) λσ H R hq_=>by
 obtain⟨sr,ds,e,q⟩:=hq_
 refine⟨sr,_,mB e,λv H' s' r=>?_⟩
 obtain⟨a,xs,rfl,h1,h2⟩:=Rep1.lst r
 refine⟨a,rfl,⟨_,h1⟩,q _ H' s' ⟨λi d H e s w=>?_,λH s w=>⟨_,s.seq h1,by rw[h2.length];exact Nat.le_refl _⟩⟩⟩
 obtain⟨x,e1,r1⟩:=h2.get e
 refine⟨⟨_,x,s.seq h1,e1⟩,λy H' ⟨e2,e3⟩=>?_⟩
 subst e2;have:=e3 _ (s.seq h1)
 rw[e1] at this;cases this;exact⟨Same.refl _,λhid _ sw=>r1.mono sw⟩
theorem uc {f:FE}(h:DP X c .s iter f):DIp X c tg iter (pP f):=λhid ρ=>PI.imp (B0 (h hid ρ)) λσ H R hq_=>by
 obtain⟨sr,ds,e,q⟩:=hq_
 refine⟨sr,_,uQ e,λv H' s' r=>?_⟩
 cases r with
 |tup h1 h2=>exact⟨_,rfl,⟨_,Same.seqT (dG _ _) h1⟩,q _ H' s' (xD h1 h2)⟩
def bq(f:FA):FA:=λρ=>(f ρ).bind λds=>match ds with
 | [.int j]=>if j.natAbs<4000000000 then some (uZ 0 j.toNat) else none
 |_=>none
theorem bj {a:Expr}{f:FA}{p:Pos}(hm:X.mg "range"=none)(ha:DA X c [a] f)(hg:Gl X "range":=by rfl)(hs:starEach [a] X.env=[(false,eval a X.env)]:=by rfl):DIp X c tg (.Call (.Name "range" p) [a] [] pos) (bq f):=λhid ρ=>
 PI.imp (vg hg hm (ha hid ρ) hs) λσ H R hq_=>by
  obtain⟨sr,ds,e,q⟩:=hq_
  unfold bq at e;cases e1:f ρ with
  |none=>rw[e1] at e;cases e
  |some z=>
   rw[e1] at e;dsimp only[Option.bind] at e;split at e
   ·split at e
    ·cases e
     refine⟨sr,_,e1,λvs H' s' r=>?_⟩
     cases r with
     |cons r t=>cases t;cases r;exact⟨_,rfl,by omega,by omega,q _ H' s' qZ⟩
    ·cases e
   ·cases e
def i4(ifs:List Expr)(env:Env):Sem Bool:=forIn ifs true λc r=>if r=true then do let ok <-isTrue c env (eval c env);pure (ForInStep.yield ok) else pure (ForInStep.yield r)
def oO(X:Cx)(c:Ct)(ifs:List Expr)(p:FT):Prop:= ∀hid ρ (ae:List (Addr×Obj)) (s:Shared) (σ:St) (H:Hp) (Q:Bool->Hp->Prop),Inv X ae σ H s->EJ X.K c hid p ρ σ H Q->wpAny (model X.prog X.w) X.A (i4 ifs X.env) (TP X ae σ Q) X.xe s
def cF:FT:=λ_=>some true
theorem cE:oO X c [] cF:=λhid ρ ae s σ H Q I hq_=>by
 obtain⟨sr,d,e,q⟩:=hq_
 cases e
 exact wpAny_tests_nil ⟨H,I,q H (Same.refl _)⟩
theorem jd {e:Expr}{p:FT}(h:DT X c e p):oO X c [e] p:=λhid ρ ae s σ H Q I q=>wpAny_tests_one (h hid ρ ae s σ H Q I q)
end
theorem f8 {prog:Program}{w:World}{A:Around}{R:Result->Shared->Prop}{s:Shared}{elt target iter:Expr}{ifs:List Expr}{scope:Scope}{pos:Pos}{it acc:Value}{env:Env}(I:Nat->Shared->Prop)
 (turn: ∀n s,I n s->wpAny (model prog w) A (pyNext it) (λr s₁=>match r with
   |none=>R (.ok .next) s₁
   |some v=>wpAny (model prog w) A (letOwnedTupleGo target it v) (λ_ s₁=>wpAny (model prog w) A (assign target env v) (λ_ s₂=>
     wpAny (model prog w) A (i4 ifs env) (λok s₃=>
      if ok=true then wpAny (model prog w) A (eval elt env) (λx s₄=>
       wpAny (model prog w) A (call (.builtin "list.append") [acc,x]) (λ_ s₅=> ∃m,m<n/\I m s₅) (λ_ _=>False) s₄) (λ_ _=>False) s₃
      else∃m,m<n/\I m s₃) (λ_ _=>False) s₂) (λ_ _=>False) s₁) (λ_ _=>False) s₁) (λ_ _=>False) s)
 (n:Nat) (h:I n s):
 codeAny (model prog w) A (.compLoop (.ListComp elt [⟨target,iter,ifs,0⟩] scope pos) 0 it acc env) R s:=by
 have no: ∀ {E':Value->Shared->Prop} (x:Value) (s:Shared),False->E' x s:=λ_ _ z=>z.elim
 refine codeAny_loop rfl I (λn s hI=>?_) n h
 show wpAny _ A ((compTurn (.ListComp elt [⟨target,iter,ifs,0⟩] scope pos) 0 it acc env).onRaise (λx=>do noteFrame x env;theTreesLotGoes x)) _ _ s
 refine wpAny_noted ?_
 rw[compTurn_list];refine wpAny_bind (wpAny_standAt (wpAny_bind (wpAny_mono (turn n s hI) (λr s₁ h₁=>?_) no)))
 cases r with
 |none=>exact wpAny_pure h₁
 |some v=>
  refine wpAny_bind (wpAny_mono h₁ (λ_ s₁ h₁=>?_) no)
  refine wpAny_bind (wpAny_mono h₁ (λ_ s₂ h₂=>wpAny_bind (wpAny_mono h₂ (λok s₃ h₃=>?_) no)) no)
  cases ok with
  |false=>exact wpAny_pure ⟨rfl,h₃⟩
  |true=>
   exact wpAny_bind (wpAny_bind (wpAny_mono h₃ (λx s₄ h₄=>wpAny_bind (wpAny_mono h₄ (λ_ s₅ h₅=>wpAny_pure (wpAny_pure ⟨rfl,h₅⟩)) no)) no))
def cB {ι:Type}(g:ι->aC->Option aC)(p:FT)(f:FE)(ρ0:aC):List ι->Option (List D)
 | []=>some []
 |d::r=>(g d ρ0).bind λρ1=>(p ρ1).bind λb=>if b=true then(f ρ1).bind λy=>(cB g p f ρ0 r).map (y:: ·) else cB g p f ρ0 r
def aY {ι:Type}(m:Nat)(gi:aC->Option (List ι))(g:ι->aC->Option aC)(p:FT)(f:FE):FE:=λρ=>(gi ρ).bind λds=>if ds.length<=sizeLine then(cB g p f (ρ++List.replicate m .no) ds).map D.lst else none
theorem k3 {ι:Type}{m:Nat}{gi:aC->Option (List ι)}{g:ι->aC->Option aC}{p:FT}{f:FE}{ρ:aC}{d:D}(h:aY m gi g p f ρ=some d): ∃ds ys,gi ρ=some ds/\ds.length<=sizeLine/\cB g p f (ρ++List.replicate m .no) ds=some ys/\d=.lst ys:=by
 unfold aY at h;cases e1:gi ρ with
 |none=>rw[e1] at h;cases h
 |some ds=>
  rw[e1] at h;dsimp only[Option.bind] at h;split at h
  ·cases e2:cB g p f (ρ++List.replicate m .no) ds with
   |none=>rw[e2] at h;cases h
   |some ys=>rw[e2] at h;cases h;exact⟨ds,ys,rfl, ‹_›,e2,rfl⟩
  ·cases h
def gm {ι:Type}(n:Nat)(g:ι->aC->Option aC):Prop:= ∀d (ρ0 ρ1:aC),g d ρ0=some ρ1->ρ1.length=ρ0.length/\ ∀i:Nat,i<n->ρ1[i]? =ρ0[i]?
def t8(n:Nat)(g:oK):Prop:= ∀d (ρ0 ρ1:aC),g d ρ0=some ρ1->ρ1.length=ρ0.length/\ ∀i:Nat,i<n->ρ1[i]? =ρ0[i]?
theorem bm {n i:Nat}(h:n<=i):gm n (gN i):=λd ρ0 ρ1 e=>by
 cases e
 exact⟨by simp,λj hj=>List.getElem?_set_ne (by omega)⟩
theorem cK {n:Nat}:t8 n eC:=λd ρ0 ρ1 e=>by
 unfold eC at e;split at e
 ·cases e;exact⟨rfl,λ_ _=>rfl⟩
 ·cases e
theorem aP {n:Nat}{g:FG}{gs:oK}(h1:gm n g)(h2:t8 n gs):t8 n (bL g gs):=λd ρ0 ρ1 e=>by
 cases d with
 |nil=>cases e
 |cons d ds=>
  have e:(g d ρ0).bind (λρ'=>gs ds ρ')=some ρ1:=e
  cases e1:g d ρ0 with
  |none=>rw[e1] at e;cases e
  |some ρ2=>
   rw[e1] at e;obtain⟨a1,a2⟩:=h1 d ρ0 ρ2 e1
   obtain⟨b1,b2⟩:=h2 ds ρ2 ρ1 e
   exact⟨b1.trans a1,λi hi=>(b2 i hi).trans (a2 i hi)⟩
theorem f6 {n m:Nat}{gs:oK}(h:t8 n gs):gm n (gT m gs):=λd ρ0 ρ1 e=>by
 unfold gT at e;split at e
 ·split at e
  ·exact h _ _ _ e
  ·cases e
 ·cases e
theorem SR.forget {K:W.Frag}{c:Ct}{hid:bu}{ρ0 ρ1:aC}{σ:St}{H:Hp}(h:SR K c hid ρ1 σ H)(hl:ρ1.length=ρ0.length)(hs: ∀(i:Nat) (s:Sl),ρ0[i]? =some s->s=.no\/ρ1[i]? =some s):SR K c hid ρ0 σ H:=by
 have ow: ∀i:Nat,Ow ρ0[i]? ->Ow ρ1[i]? :=λi o=>by
  cases e:ρ0[i]? with
  |none=>rw[e] at o;exact o.elim
  |some s=>
   rcases hs i s e with rfl|z
   ·rw[e] at o;exact o.elim
   ·rw[z,<-e];exact o
 refine⟨h.tr,h.ht,h.h0,h.kp,h.t0,h.c0,h.m0,h.len.trans hl,λi s e=>?_,λi j a n o1 o2=>h.ap i j a n (ow i o1) (ow j o2)⟩
 rcases hs i s e with rfl|z
 ·trivial
 ·exact h.sl i s z
theorem SR.more {K:W.Frag}{c:Ct}{hid:bu}{ρ:aC}{σ:St}{H:Hp}(h:SR K c hid ρ σ H)(m:Nat):SR K c hid (ρ++List.replicate m .no) (σ++List.replicate m none) H:=by
 have lt: ∀ {i:Nat},Ow (ρ++List.replicate m Sl.no)[i]? ->i<ρ.length:=λ{i} o=>by
  by_cases hi:i<ρ.length
  ·exact hi
  ·rw[List.getElem?_append_right (by omega),List.getElem?_replicate] at o
   split at o<;>exact o.elim
 refine⟨h.tr,h.ht,h.h0,h.kp,h.t0,h.c0,h.m0,by simp[h.len],λi s e=>?_,λi j a n o1 o2 q1 q2=>?_⟩
 ·by_cases hi:i<ρ.length
  ·rw[List.getElem?_append_left hi] at e
   have z:=h.sl i s e
   have es:(σ++List.replicate m none)[i]? =σ[i]? :=List.getElem?_append_left (by rw[h.len];exact hi)
   cases s with
   |no=>trivial
   |v d=>obtain⟨x,h1,h2⟩:=z;exact⟨x,es.trans h1,h2⟩
   |own ds=>obtain⟨a,xs,h1,h2⟩:=z;exact⟨a,xs,es.trans h1,h2⟩
   |arg ds=>obtain⟨a,xs,h1,h2⟩:=z;exact⟨a,xs,es.trans h1,h2⟩
   |ob b=>obtain⟨a,h1,h2⟩:=z;exact⟨a,es.trans h1,h2⟩
  ·rw[List.getElem?_append_right (by omega),List.getElem?_replicate] at e
   split at e
   ·cases e;trivial
   ·cases e
 ·have l1:=lt o1
  have l2:=lt o2
  rw[List.getElem?_append_left l1] at o1;rw[List.getElem?_append_left l2] at o2;rw[List.getElem?_append_left (by rw[h.len];exact l1)] at q1
  rw[List.getElem?_append_left (by rw[h.len];exact l2)] at q2
  exact h.ap i j a n o1 o2 q1 q2
section
variable {X:Cx}{c:Ct}{elt tg iter:Expr}{ifs:List Expr}{scope:Scope}{pos:Pos}{N':List Str}{m:Nat}{ι:Type}{IR:Hp->V->ι->Prop}{gi:aC->Option (List ι)}{g:ι->aC->Option aC}{p:FT}{f:FE}
theorem SR.write {K:W.Frag}{hid:bu}{ρ:aC}{σ:St}{H:Hp}{a:Addr}{o':HO}(h:SR K c hid ρ σ H)(hh:hid a=true)(h0:c.H₀ a=none)(na: ∀i:Nat,Ow ρ[i]? ->σ[i]? ≠some (some (.ref a))){o:HO}(ha:H a=some o)(hm: ∀p u,o≠ .nst p u:=by intro _ _ e;cases e)(hn: ∀xs,o'≠ .tup xs:=by intro _ e;cases e):SR K c hid ρ σ (bz H a o'):=by
 have tr': ∀b o,H b=some o-> ∃o2,(bz H a o') b=some o2:=λb o q=>by
  by_cases e:b=a
  ·subst e;exact⟨_,aL⟩
  ·exact⟨o,by rw[aG e];exact q⟩
 refine⟨λb hb=>let⟨o,q⟩:=h.tr b hb;tr' b o q,λb xs hb q=>by
  by_cases e:b=a
  ·subst e;rw[aL] at q;exact hn _ (Option.some.inj q)
  ·rw[aG e] at q;exact h.ht b xs hb q,h.h0,λb o q m=>?_,λb o q=>let⟨o2,q2⟩:=h.t0 b o q;tr' b o2 q2,h.c0,h.m0,h.len,λi s e=>?_,h.ap⟩
 ·rw[aG (bd q h0)];exact h.kp b o q m
 ·have z:=h.sl i s e
  have ne: ∀a',Ow ρ[i]? ->σ[i]? =some (some (.ref a'))->a'≠a:=λa' o q w=>by subst w;exact na i o q
  cases s with
  |no=>trivial
  |v d=>obtain⟨x,h1,h2⟩:=z;exact⟨x,h1,by rw[dI hh];exact h2⟩
  |own ds=>obtain⟨a',xs,h1,h2,h3,h4,h5⟩:=z;exact⟨a',xs,h1,by rw[aG (ne a' (by rw[e];trivial) h1)];exact h2,h3,h4,by rw[dI hh];exact h5⟩
  |arg ds=>obtain⟨a',xs,h1,h2,h3,h4,h5⟩:=z;exact⟨a',xs,h1,by rw[aG (ne a' (by rw[e];trivial) h1)];exact h2,h3,h4,by rw[dI hh];exact h5⟩
  |ob b=>obtain⟨a',h1,h2⟩:=z;exact⟨a',h1,h2.mono (λow x hx o q=>by rw[aG (hx.ne (ne a' (by rw[e];exact ow) h1) ha hm)];exact q) (by rw[dI hh];exact Same.refl _) λ_ _ _ q=>q⟩
structure CLI(Y:Cx)(K:W.Frag)(c:Ct)(hid:bu)(ρ0:aC)(H W:Hp)(D0:Addr)(fp:List Addr)(tn:Nat->Heap->Prop){ι:Type}(g:ι->aC->Option aC)(p:FT)(f:FE)(ds:List ι)(ys:List D)(n i:Nat)(xs:List V)(ad:List D)(σ':St)(H':Hp)(s':Shared):Prop where
 e:n=ds.length-i
 hi:i<=ds.length
 I:Inv Y [] σ' H' s'
 st:tn i s'.heap
 fr: ∀b∈fp,H' b=none
 sr:SR K c hid ρ0 σ' H'
 sm:Same H H'
 ac:H' D0=some (.lst xs)
 rp:Reps K (vw H' hid) xs ad
 w:Same W (vw H' hid)
 hl:xs.length<=i
 na: ∀i:Nat,Ow ρ0[i]? ->σ'[i]? ≠some (some (.ref D0))
 go: ∃rest,cB g p f ρ0 (ds.drop i)=some rest/\ad++rest=ys
theorem u6(hcalm:X.calm=true)(hT:gm X.N.length g)
 (hg: ∀C s₀ H₀ ex,Ei IR (aB X N' scope C s₀ H₀ ex) c tg g) (hp: ∀C s₀ H₀ ex,oO (aB X N' scope C s₀ H₀ ex) c ifs p) (he: ∀C s₀ H₀ ex,DP (aB X N' scope C s₀ H₀ ex) c .s elt f)
 {σ3:St} {H H3:Hp} {s3 s4:Shared} {hid:bu} {ρ:aC} {J:It} {it D0 C:Addr} {fp:List Addr} {tn:Nat->Heap->Prop} {ds:List ι} {ys:List D} {R:Result->Shared->Prop} {W:Hp} (hρ:ρ.length=X.N.length)
 (I:Inv (aB X N' scope C s3 H3 fp) [] σ3 H3 s4) (sr:SR X.K c hid (ρ++List.replicate m .no) σ3 H3) (hh:hid D0=true) (h00:c.H₀ D0=none) (na: ∀i:Nat,Ow (ρ++List.replicate m Sl.no)[i]? ->σ3[i]? ≠some (some (.ref D0))) (hacc:H3 D0=some (.lst [])) (sm:Same H H3) (nD:H D0=none) (wv:Same W (vw H3 hid)) (T:Turn X.prog X.w X.K tg J fp it tn) (st:tn 0 s4.heap) (hF: ∀b∈fp,H3 b=none)
 (io:Dr IR H W J ds) (hz:ds.length<=sizeLine) (hc:cB g p f (ρ++List.replicate m .no) ds=some ys)
 (hR: ∀(s':Shared) (σ':St) (H':Hp) (xs:List V),Inv (aB X N' scope C s3 H3 fp) [] σ' H' s'->Same H H'->H' D0=some (.lst xs)->Reps X.K (vw H' hid) xs ys->R (.ok .next) s'):
 codeAny (model X.prog X.w) X.A (.compLoop (.ListComp elt [⟨tg,iter,ifs,0⟩] scope pos) 0 (.ref it) (.ref D0) (compEnvC scope (ly X.env.cells scope C) C X.env)) R s4:=by
 have stat: ∀ {ae:List (Addr×Obj)} {H':Hp},(∀q∈ae,q.1∉fp)->(∀b∈fp,H' b=none)-> ∀b∈fp,gG (aB X N' scope C s3 H3 fp) ae H' b:=λ{ae H'} hpn hn b hb=>
  ⟨hn b hb,(I.ok.exf b hb).1,I.ok.exfs b hb,.inl hb,(I.ok.exf b hb).2,λq hq e=>hpn q (by have hq':q∈([]:List (Addr×Obj))++ae:=hq;simpa using hq') (by rw[e];exact hb)⟩
 have no: ∀q∈([]:List (Addr×Obj)),q.1∉fp:=λq hq=>nomatch hq
 refine f8 (λn s'=> ∃(i:Nat) (xs:List V) (ad:List D) (σ':St) (H':Hp),CLI (aB X N' scope C s3 H3 fp) X.K c hid (ρ++List.replicate m .no) H W D0 fp tn g p f ds ys n i xs ad σ' H' s') ?_ ds.length
  ⟨0,[],[],σ3,H3,by simp,Nat.zero_le _,I,st,hF,sr,sm,hacc,.nil,wv,Nat.zero_le _,na,ys,by simpa using hc,rfl⟩
 rintro n s5 ⟨i,xs,ad,σ5,H5,rfl,hi,I5,st5,f5,sr5,sm5,ac5,rp5,w5,hl5,na5,rest,hc5,hy5⟩
 have wH:Same W H5:=w5.trans (dG _ _)
 by_cases hlt:i<ds.length
 ·have hd:ds[i]? =some ds[i]:=List.getElem?_eq_getElem hlt
  have e2:ds.drop i=ds[i]::ds.drop (i+1):=List.drop_eq_getElem_cons hlt
  rw[e2] at hc5;unfold cB at hc5;obtain⟨go,yl⟩:=io.1 i ds[i] H5 hd sm5 wH
  refine bV (T.item (aB X N' scope C s3 H3 fp) rfl rfl rfl hcalm i [] s5 σ5 H5 (λ_ _=>False) I5 (stat no f5) st5 go) λr s6 hq_=>?_
  obtain⟨u,hr,h6⟩:=hq_
  subst hr;refine bV h6 λ_ s7 hq_=>?_
  obtain⟨x,H7,I7,r7,y7,st7,f7⟩:=hq_
  obtain⟨s7',rp⟩:=yl x H7 y7
  have rx:=rp hid sr5.tr w5
  have I7':=I7.pinned (stat no f7) (T.obj _ _ st7)
  cases e3:g ds[i] (ρ++List.replicate m .no) with
  |none=>rw[e3] at hc5;cases hc5
  |some ρ1=>
   rw[e3] at hc5;have hc5:(p ρ1).bind (λb=>if b=true then(f ρ1).bind λy=>(cB g p f (ρ++List.replicate m .no) (ds.drop (i+1))).map (y:: ·) else cB g p f (ρ++List.replicate m .no) (ds.drop (i+1)))=some rest:=hc5
   obtain⟨tl1,tl2⟩:=hT _ _ _ e3
   have fg: ∀ {σ':St} {H':Hp},SR X.K c hid ρ1 σ' H'->SR X.K c hid (ρ++List.replicate m .no) σ' H':=λ{σ' H'} z=>z.forget tl1 λj s e=>by
    by_cases hj:j<X.N.length
    ·exact .inr ((tl2 j hj).trans e)
    ·refine .inl ?_
     rw[List.getElem?_append_right (by omega),List.getElem?_replicate] at e
     split at e
     ·cases e;rfl
     ·cases e
   have keepT: ∀ {σ':St} {H':Hp} {s':Shared},Inv (aB X N' scope C s3 H3 fp) ([]++jG fp s7.heap) σ' H' s'->tn (i+1) s'.heap/\ ∀b∈fp,H' b=none:=λ{σ' H' s'} J'=>by
    refine⟨T.keep _ _ _ st7 λb hb o e=>(J'.pin (b,o) (List.mem_append_right _ (List.mem_append_right _ (dJ hb e)))).1,λb hb=>?_⟩
    obtain⟨o,e,_⟩:=T.obj _ _ st7 b hb
    exact(J'.pin (b,o) (List.mem_append_right _ (List.mem_append_right _ (dJ hb e)))).2.1
   refine bV (hg C s3 H3 fp hid _ ds[i] _ s7 σ5 H7 x u (λσ' H'=>H'=H7/\SR X.K c hid ρ1 σ' H7/\OwK (ρ++List.replicate m .no) ρ1 σ5 σ') I7' r7 ⟨sr5.ext s7',rx,ρ1,e3,λσ' z o=>⟨rfl,z,o⟩⟩) λ_ s8 hq_=>?_
   obtain⟨σ8,H8,I8,e8,q8,o8⟩:=hq_
   subst e8;have na8: ∀i:Nat,Ow (ρ++List.replicate m Sl.no)[i]? ->σ8[i]? ≠some (some (.ref D0)):=λj o=>by
    have o1:Ow ρ1[j]? :=by
     by_cases hj:j<X.N.length
     ·rw[tl2 j hj];exact o
     ·exfalso
      rw[List.getElem?_append_right (by omega),List.getElem?_replicate] at o
      split at o<;>exact o.elim
    rw[(o8 j o1).2];exact na5 j o
   cases e4:p ρ1 with
   |none=>rw[e4] at hc5;cases hc5
   |some b=>
    rw[e4] at hc5;have hc5:(if b=true then(f ρ1).bind λy=>(cB g p f (ρ++List.replicate m .no) (ds.drop (i+1))).map (y:: ·) else cB g p f (ρ++List.replicate m .no) (ds.drop (i+1)))=some rest:=hc5
    refine bV (hp C s3 H3 fp hid ρ1 _ s8 σ8 H8 (λb' H'=>b'=b/\Same H8 H') I8 ⟨q8,b,e4,λH' s'=>⟨rfl,s'⟩⟩) λok s9 hq_=>?_
    obtain⟨H9,I9,e9,sm9⟩:=hq_
    subst e9;have w9:Same (vw H5 hid) (vw H9 hid):=aH (s7'.trans sm9)
    cases ok with
    |false=>
     have hc5:cB g p f (ρ++List.replicate m .no) (ds.drop (i+1))=some rest:=hc5
     obtain⟨k1,k2⟩:=keepT I9
     exact⟨ds.length- (i+1),by omega,i+1,xs,ad,σ8,H9,rfl,hlt,I9.unpinned,k1,k2,fg (q8.ext sm9),sm5.trans (s7'.trans sm9),sm9 _ _ (s7' _ _ ac5),rp5.mono w9,w5.trans w9,by omega,na8,rest,hc5,hy5⟩
    |true=>
     have hc5:((f ρ1).bind λy=>(cB g p f (ρ++List.replicate m .no) (ds.drop (i+1))).map (y:: ·))=some rest:=hc5
     cases e5:f ρ1 with
     |none=>rw[e5] at hc5;cases hc5
     |some y=>
      rw[e5] at hc5;have hc5:(cB g p f (ρ++List.replicate m .no) (ds.drop (i+1))).map (y:: ·)=some rest:=hc5
      cases e6:cB g p f (ρ++List.replicate m .no) (ds.drop (i+1)) with
      |none=>rw[e6] at hc5;cases hc5
      |some rest'=>
       rw[e6] at hc5;cases hc5
       show wpAny (model X.prog X.w) X.A (eval elt _) _ _ s9;refine bV (he C s3 H3 fp hid ρ1 _ s9 σ8 H9 (λv H'=>Same H9 H'/\Rep X.K (vw H' hid) v y) I9 ⟨q8.ext sm9,y,e5,λv H' s' r=>⟨s',r⟩⟩) λv s10 hq_=>?_
       obtain⟨z,H10,I10,rz,sm10,rp10⟩:=hq_
       have sm':Same H5 H10:=s7'.trans (sm9.trans sm10)
       have a10:H10 D0=some (.lst xs):=sm' _ _ ac5
       refine bV (dH (X:=aB X N' scope C s3 H3 fp) _ s10 σ8 H10 (.ref D0) [z] (.ref D0) [v] (λ_ H'=>H'=bz H10 D0 (.lst (xs++[z]))) I10 rfl (.cons rz .nil) ⟨D0,xs,z,rfl,rfl,a10,by omega,rfl⟩) λ_ s11 ⟨_,H11,I11,_,e11⟩=>?_
       subst e11;obtain⟨k1,k2⟩:=keepT I11
       have vv:vw (bz H10 D0 (.lst (xs++[z]))) hid=vw H10 hid:=dI hh
       have w10:Same (vw H5 hid) (vw H10 hid):=aH sm'
       refine⟨ds.length- (i+1),by omega,i+1,xs++[z],ad++[y],σ8,_,rfl,hlt,I11.unpinned,k1,k2,?_,λb o e=>?_,aL,?_,?_,by simp;omega,na8,rest',e6,by rw[<-hy5];simp⟩
       ·
        have q10:=fg ((q8.ext sm9).ext sm10)
        exact q10.write hh h00 na8 a10
       ·rw[aG (bd e nD)];exact sm' _ _ (sm5 _ _ e)
       ·rw[vv];exact(rp5.mono w10).append (.cons rp10 .nil)
       ·rw[vv];exact w5.trans w10
 ·have e:i=ds.length:=by omega
  subst e;rw[List.drop_eq_nil_of_le (Nat.le_refl _)] at hc5;cases hc5
  rw[List.append_nil] at hy5;subst hy5;refine bV (T.done (aB X N' scope C s3 H3 fp) rfl rfl rfl hcalm ds.length [] s5 σ5 H5 (λ_ _=>False) I5 (stat no f5) st5 (io.2 H5 sm5 wH)) λr s6 hq_=>?_
  obtain⟨hr,I6⟩:=hq_
  subst hr;exact hR s6 σ5 H5 xs I6 sm5 ac5 rp5
theorem lO(hcalm:X.calm=true)(hk:scope.kind=.function)(hs:sK scope X.env.scope=true)(hn:tw X.N N' scope=true)(hm:N'.length-X.N.length=m)(hT:gm X.N.length g)
 (hg: ∀C s₀ H₀ ex,Ei IR (aB X N' scope C s₀ H₀ ex) c tg g) (hp: ∀C s₀ H₀ ex,oO (aB X N' scope C s₀ H₀ ex) c ifs p) (he: ∀C s₀ H₀ ex,DP (aB X N' scope C s₀ H₀ ex) c .s elt f)
 {E:Value->Shared->Prop} {ae:List (Addr×Obj)} {σ:St} {H:Hp} {s:Shared} {hid:bu} {ρ:aC} {J:It} {it:Addr} {fp:List Addr} {tn:Nat->Heap->Prop} {ds:List ι} {ys:List D} {RR:Value->Addr->Result->Shared->Prop}
 (I:Inv X ae σ H s) (sr:SR X.K c hid ρ σ H) (T:Turn X.prog X.w X.K tg J fp it tn) (st:tn 0 s.heap) (hF: ∀b∈fp,gG X ae H b) (io:Dr IR H (vw H hid) J ds) (hz:ds.length<=sizeLine) (hc:cB g p f (ρ++List.replicate m .no) ds=some ys)
 (hR: ∀(D C:Addr) (s':Shared) (H':Hp) (xs:List V),s.heap.objs.size<=D->s.heap.objs.size<=C->D≠C->H D=none->Same H H'->H' D=some (.lst xs)->Reps X.K (vw H' (bI hid D)) xs ys->(∃m,s'.heap.Ns C m)->H' C=none->s'.os=s.os->AllBare s'.gens->HOk X.prog X.w H' s'.heap->Un (frs X.stack) fp H H' s.heap s'.heap->RR (.ref D) C (.ok .next) s'):
 wpAny (model X.prog X.w) X.A (newList []) (λacc s₃=>wpAny (model X.prog X.w) X.A (newFunctionEnv scope X.env.globals (oM X.env.cells scope.names []) [] X.env.qual none .none (some X.env)) (λcenv s₄=>
  codeAny (model X.prog X.w) X.A (.compStart (.ListComp elt [⟨tg,iter,ifs,0⟩] scope pos) 0 (.ref it) acc {cenv with scope:=relabel scope X.env}) (RR acc cenv.locals) s₄) E s₃) E s:=by
 refine wpAny_newObj_type (tz λh₁ hns₁ kp1 oc₁=>?_)
 dsimp only at hns₁ kp1 oc₁⊢
 generalize hH2:s.heap.push {cls:=.type "list",dict:=none,data:=.seq ([]:List Value).toArray}=H2 at hns₁ kp1 oc₁⊢
 have hC:H2.objs.size=s.heap.objs.size+1:=by rw[<-hH2,Heap.size_push]
 have hD:H s.heap.objs.size=none:=I.hok.fresh (Nat.le_refl _)
 have I2:Inv X ae σ (bz H s.heap.objs.size (.lst [])) {s with heap:=H2}:=by
  rw[<-hH2];exact I.laid (t':=s.toks) (λb o e=>Heap.get?_push_of_some _ e) (Nat.le_refl _) ⟨Nat.zero_le _,[],0,.nil,Heap.get?_push_size _ rfl⟩
 have fpLt: ∀b∈fp,b<s.heap.objs.size:=λb hb=>let⟨o,e,_⟩:=T.obj 0 s.heap st b hb;Heap.lt_size e
 have hF2: ∀b∈fp,gG X ae (bz H s.heap.objs.size (.lst [])) b:=λb hb=>⟨by rw[aG (Nat.ne_of_lt (fpLt b hb))];exact(hF b hb).1,(hF b hb).2⟩
 have kp0: ∀b o,s.heap.get? b=some o->H2.get? b=some o:=λb o e=>by rw[<-hH2];exact Heap.get?_push_of_some _ e
 have IY:=o5 (tk:=s.toks) (N':=N') (fp:=fp) I2 hF2 (λb hb=>let⟨o,e,_⟩:=T.obj 0 s.heap st b hb;⟨o,kp0 b o e⟩) hk hs hn hns₁ kp1 oc₁
 rw[hm] at IY;dsimp only at IY;have sr0:SR X.K c (bI hid s.heap.objs.size) (ρ++List.replicate m .no) (σ++List.replicate m none) (bz H s.heap.objs.size (.lst [])):=(sr.hide (bh hD _) hD aL).more m
 have hρ:ρ.length=X.N.length:=by rw[<-sr.len];exact I.len
 have nf:hid s.heap.objs.size=false:=sr.fresh hD
 have st1:tn 0 h₁:=T.keep _ _ _ st λb hb o e=>kp1 b o (kp0 b o e)
 have na0: ∀i:Nat,Ow (ρ++List.replicate m Sl.no)[i]? ->(σ++List.replicate m none)[i]? ≠some (some (V.ref s.heap.objs.size)):=(sr.more m).notOw nf
 have wv:Same (vw H hid) (vw (bz H s.heap.objs.size (.lst [])) (bI hid s.heap.objs.size)):=by rw[rN hD];exact Same.refl _
 have loop: ∀s4:Shared,s4={s with heap:=h₁,toks:=s.toks}->
  codeAny (model X.prog X.w) X.A (.compLoop (.ListComp elt [⟨tg,iter,ifs,0⟩] scope pos) 0 (.ref it) (.ref s.heap.objs.size) (compEnvC scope (ly X.env.cells scope H2.objs.size) H2.objs.size X.env)) (RR (.ref s.heap.objs.size) H2.objs.size) s4:=by
  rintro s4 rfl
  refine u6 (H:=H) (hid:=bI hid s.heap.objs.size) (W:=vw H hid) hcalm hT hg hp he hρ IY sr0 fP (sr.fresh0 hD) na0 aL (bh hD _) hD wv T st1 (λb hb=>(hF2 b hb).1) io hz hc ?_
  intro s' σ' H' xs I' sm' hx' rp';have un1:Un (frs X.stack) fp H (bz H s.heap.objs.size (.lst [])) s.heap H2:=Un.laid (λb o e=>kp0 b o e) (Nat.le_refl _) hD
  refine hR s.heap.objs.size H2.objs.size s' H' xs (Nat.le_refl _) (by rw[hC];exact Nat.le_succ _) (by rw[hC];exact Nat.ne_of_lt (Nat.lt_succ_self _)) hD sm' hx' rp' (let⟨m,hm,_⟩:=I'.loc;⟨m,hm⟩) I'.free I'.os I'.bare I'.hok (un1.trans I'.base)
 exact codeAny_compStart_list (loop _ rfl) (T.self X.A 0 _ _ _ st1 (loop _ rfl))
theorem dU(hcalm:X.calm=true)(hT:gm X.N.length g)(hi:E9 IR X c tg iter gi)
 (hg: ∀C s₀ H₀ ex,Ei IR (aB X N' scope C s₀ H₀ ex) c tg g) (hp: ∀C s₀ H₀ ex,oO (aB X N' scope C s₀ H₀ ex) c ifs p) (he: ∀C s₀ H₀ ex,DP (aB X N' scope C s₀ H₀ ex) c .s elt f)
 (hk:scope.kind=.function:=by rfl) (hs:sK scope X.env.scope=true:=by kernel_rfl) (hn:tw X.N N' scope=true:=by kernel_rfl) (hm:N'.length-X.N.length=m:=by rfl) (hset: ∀x,foldedSetIterable iter X.env x=pure x:=by intro _;rfl):
 DP X c .n (.ListComp elt [⟨tg,iter,ifs,0⟩] scope pos) (aY m gi g p f):=by
 intro hid ρ ae s σ H Q I hq;obtain⟨sr,d,hd,q⟩:=hq
 obtain⟨ds,ys,e1,hz,hc,rfl⟩:=k3 hd
 rw[eval_ListComp];refine wpAny_comprehension_free (use:=none) rfl hset (dD λx hx=>I.ok.has x (fJ hs x hx)) hk (ik hs) ?_
 refine bV (hi hid ρ ae s σ H (λJ H'=>Same H H'/\Dr IR H' (vw H' hid) J ds) I ⟨sr,ds,e1,λJ H' s1 io=>⟨s1,io⟩⟩) λv s1 h1=>bV h1 λitv s2 h2=>?_
 obtain⟨it,fp,tn,J,H2,rfl,I2,T,st2,f2,sm,io⟩:=h2
 refine lO (RR:=λacc C=>compPost (model X.prog X.w) X.A X.xe none (EP X ae σ Q) acc C) hcalm hk hs hn hm hT hg hp he I2 (sr.ext sm) T st2 f2 io hz hc ?_
 intro D C s' H' xs hDge hCge hDC hD sm' hx rp ⟨mm,hns⟩ hC' hos hbare hok hun;refine⟨mm,hns,λh' hsb=>⟨.ref D,H',?_,rfl,q _ H' (sm.trans sm') ⟨D,xs,ys,rfl,rfl,sm.free hD,hx,rp⟩⟩⟩
 have neC: ∀b o,s2.heap.get? b=some o->b≠C:=λb o e z=>by subst z;exact absurd (Heap.lt_size e) (Nat.not_lt.mpr hCge)
 have hun':Un (frs X.stack) fp H2 H' s2.heap h':=⟨λb o e n h1 h2=>(hsb.2 b (neC b o e)).trans (hun.keep b o e n h1 h2),λb o e n h1 h2=>let⟨sl,z⟩:=hun.slot b o e n h1 h2;⟨sl,(hsb.2 b (neC b o e)).trans z⟩,hun.free,λb o e h2=>let⟨o',z⟩:=hun.there b o e h2;⟨o',(hsb.2 b (neC b o e)).trans z⟩,hun.tups,hun.frzs,hun.tbls⟩
 have hok':HOk X.prog X.w H' h':=λb o e=>by
  have nb: ∀b' o',H' b'=some o'->b'≠C:=λb' o' e' z=>by subst z;rw[hC'] at e';cases e'
  refine(hok b o e).stay (λc' u hc' z=>(hsb.2 c' ?_).trans z) (λ_ z=>z) λ_ _ z=>z
  rcases hc' with z'|z'
  ·rw[z'];exact nb b o e
  ·exact nb c' _ z'
 exact I2.call' (s':={s' with heap:=h'}) (ch:=fp) hos hun' hok' hbare λb hb=>⟨(f2 b hb).2.2.2.1,(f2 b hb).2.1,(f2 b hb).2.2.2.2.1,(f2 b hb).2.2.2.2.2⟩
end
section
variable {X:Cx}{c:Ct}{elt tg iter:Expr}{ifs:List Expr}{scope:Scope}{pos spos py:Pos}{N':List Str}{m:Nat}{gi:FA}{g:FG}{p:FT}{f:FE}{y:Str}
theorem tM(i:Nat)(hcalm:X.calm=true)(hN:X.N.Nodup)(hT:gm X.N.length g)(hi:Ap X c tg iter gi)
 (hg: ∀C s₀ H₀ ex,oI (aB X N' scope C s₀ H₀ ex) c tg g) (hp: ∀C s₀ H₀ ex,oO (aB X N' scope C s₀ H₀ ex) c ifs p) (he: ∀C s₀ H₀ ex,DP (aB X N' scope C s₀ H₀ ex) c .s elt f)
 (hsw:swapsWith (.ListComp elt [⟨tg,iter,ifs,0⟩] scope pos) (some (.Name y py)) spos.line X.env=pure true) (hyi:X.N[i]? =some y) (hy:X.env.scope.names.lookup y=some .local)
 (hk:scope.kind=.function) (hs:sK scope X.env.scope=true) (hn:tw X.N N' scope=true) (hm:N'.length-X.N.length=m) (hset: ∀x,foldedSetIterable iter X.env x=pure x) (ρ:aC):
 PS X (.Assign [.Name y py] (.ListComp elt [⟨tg,iter,ifs,0⟩] scope pos) spos) (yZ (λσ H Q=> ∃hid,Bn X.K c hid .n (aY m gi g p f) ρ σ H Q) (sW i)):=by
 intro ae s σ H E I hq;obtain⟨hid,sr,d,hd,q⟩:=hq
 obtain⟨ds,ys,e1,hz,hc,rfl⟩:=k3 hd
 rw[exec_Assign_Name_used _ _ _ _ hsw];refine wpAny_bind (wpAny_standAt (wpAny_bind ?_))
 show wpAny _ X.A (do let _ <-comprehension (.ListComp elt [⟨tg,iter,ifs,0⟩] scope pos) scope X.env _ (newList []) false (eval iter X.env) (some (assign (.Name y py) X.env))) _ _ s
 refine wpAny_bind (wpAny_mono (wpAny_comprehension_free (use:=some (assign (.Name y py) X.env)) (Q:=λ_ s'=>SP X ae E .next s') rfl hset (dD λx hx=>I.ok.has x (fJ hs x hx)) hk (ik hs) ?_) (λ_ s' hq=>wpAny_pure (wpAny_pure hq)) λ_ _ e=>e)
 refine bV (hi hid ρ ae s σ H (λJ H'=>Same H H'/\Co X.K H' (vw H' hid) J ds) I ⟨sr,ds,e1,λJ H' s1 io=>⟨s1,io⟩⟩) λv s1 h1=>bV h1 λitv s2 h2=>?_
 obtain⟨it,fp,tn,J,H2,rfl,I2,T,st2,f2,sm,io⟩:=h2
 refine lO (IR:=Rep X.K) (RR:=λacc C=>compPost (model X.prog X.w) X.A X.xe (some (assign (.Name y py) X.env)) (λ_ s'=>SP X ae E .next s') acc C) hcalm hk hs hn hm hT hg hp he I2 (sr.ext sm) T st2 f2 io hz hc ?_
 intro D C s' H' xs hDge hCge hDC hD sm' hx rp ⟨mm,hns⟩ hC' hos hbare hok hun;have I3:Inv X ae σ H' s':=I2.call' (ch:=fp) hos hun hok hbare λb hb=>⟨(f2 b hb).2.2.2.1,(f2 b hb).2.1,(f2 b hb).2.2.2.2.1,(f2 b hb).2.2.2.2.2⟩
 have fin:=q _ H' (sm.trans sm') ⟨D,xs,ys,rfl,rfl,sm.free hD,hx,rp⟩
 have ltC: ∀b o,s2.heap.get? b=some o->b≠C:=λb o e z=>by subst z;exact absurd (Heap.lt_size e) (Nat.not_lt.mpr hCge)
 have hLC:C≠X.env.locals:=λz=>by
  have:=I2.lt
  rw[<-z] at this;exact absurd this (Nat.not_lt.mpr hCge)
 show wpAny _ X.A (assign (.Name y py) X.env (.ref D)) _ _ s';refine wpAny_assign_Name (jC (v:=.ref D) I3 hN hyi (.inl hy) rfl (λs'' I4 hb=>?_) (.inr hy))
 obtain⟨a,hsb,ha⟩:=hb
 have hCa:C≠a:=by
  rcases ha with rfl|ha
  ·exact hLC
  ·obtain⟨w',o,ho,_⟩:=I2.cell y a ha
   exact λz=>ltC a o ho z.symm
 refine⟨mm,hns.sameBut hsb hCa,λh3 hs3=>⟨_,H',?_,fin⟩⟩
 refine I4.turned (t':=s''.toks) (it:=C) (λb o nb e=>(hs3.2 b nb).trans e) hC' hLC (.inr (Nat.le_trans I2.sz hCge)) (λx c' e z=>?_) (λq hq z=>?_)
 ·obtain⟨w',o,ho,_⟩:=I2.cell x c' e
  exact ltC c' o ho z
 ·exact ltC q.1 q.2 (I2.pin q hq).1 z
theorem zH(i:Nat){k:Kd}(hcalm:X.calm=true)(hN:X.N.Nodup)(hT:gm X.N.length g)(hi:Ap X c tg iter gi)
 (hg: ∀C s₀ H₀ ex,oI (aB X N' scope C s₀ H₀ ex) c tg g) (hp: ∀C s₀ H₀ ex,oO (aB X N' scope C s₀ H₀ ex) c ifs p) (he: ∀C s₀ H₀ ex,DP (aB X N' scope C s₀ H₀ ex) c .s elt f)
 (hsw:swapsWith (.ListComp elt [⟨tg,iter,ifs,0⟩] scope pos) (some (.Name y py)) spos.line X.env=pure true:=by rfl) (hyi:X.N[i]? =some y:=by rfl) (hy:X.env.scope.names.lookup y=some .local:=by rfl)
 (hk:scope.kind=.function:=by rfl) (hs:sK scope X.env.scope=true:=by kernel_rfl) (hn:tw X.N N' scope=true:=by kernel_rfl) (hm:N'.length-X.N.length=m:=by rfl) (hset: ∀x,foldedSetIterable iter X.env x=pure x:=by intro _;rfl):
 DS X c k (.Assign [.Name y py] (.ListComp elt [⟨tg,iter,ifs,0⟩] scope pos) spos) (ce i (aY m gi g p f)):=λρ=>PS.imp (tM i hcalm hN hT hi hg hp he hsw hyi hy hk hs hn hm hset ρ) λD σ H hq_=>by
 obtain⟨hid,sr,q⟩:=hq_
 unfold ce at q;cases e1:aY m gi g p f ρ with
 |none=>rw[e1] at q;exact q.elim
 |some z=>
  rw[e1] at q;exact⟨hid,sr,z,e1,λv H' s r=>zr (sr.post s r (by decide)) q⟩
theorem yz(i:Nat){k:Kd}(hcalm:X.calm=true)(hN:X.N.Nodup)(hT:gm X.N.length g)(hi:Ap X c tg iter gi)
 (hg: ∀C s₀ H₀ ex,oI (aB X N' scope C s₀ H₀ ex) c tg g) (hp: ∀C s₀ H₀ ex,oO (aB X N' scope C s₀ H₀ ex) c ifs p) (he: ∀C s₀ H₀ ex,DP (aB X N' scope C s₀ H₀ ex) c .s elt f)
 (hsw:swapsWith (.ListComp elt [⟨tg,iter,ifs,0⟩] scope pos) (some (.Name y py)) spos.line X.env=pure true:=by rfl) (hyi:X.N[i]? =some y:=by rfl) (hy:X.env.scope.names.lookup y=some .local:=by rfl)
 (hk:scope.kind=.function:=by rfl) (hs:sK scope X.env.scope=true:=by kernel_rfl) (hn:tw X.N N' scope=true:=by kernel_rfl) (hm:N'.length-X.N.length=m:=by rfl) (hset: ∀x,foldedSetIterable iter X.env x=pure x:=by intro _;rfl):
 DS X c k (.Assign [.Name y py] (.ListComp elt [⟨tg,iter,ifs,0⟩] scope pos) spos) (aJ i (aY m gi g p f)):=λρ=>PS.imp (tM i hcalm hN hT hi hg hp he hsw hyi hy hk hs hn hm hset ρ) λD σ H hq_=>by
 obtain⟨hid,sr,q⟩:=hq_
 unfold aJ at q;cases e1:aY m gi g p f ρ with
 |none=>rw[e1] at q;exact q.elim
 |some z=>
  rw[e1] at q;exact⟨hid,sr,z,e1,λv H' s r=>q _ H' hid ((sr.ext s).setV (RN.rep r λa n=>sr.fresh n) i) (aH s)⟩
end
mutual
def cP:D->D->Bool
 | .non,.non=>true
 | .bl a,.bl b=>a==b
 | .bl a,.int b=>(if a then 1 else 0)==b
 | .int a,.bl b=>a==(if b then 1 else 0)
 | .int a,.int b=>a==b
 | .str a,.str b=>a==b
 | .tup a,.tup b=>cT a b
 | .lst a,.lst b=>cT a b
 | .lst a,.scr b=>cT a b
 | .scr a,.lst b=>cT a b
 | .scr a,.scr b=>cT a b
 |_,_=>false
def cT:List D->List D->Bool
 | [],[]=>true
 |x::xs,y::ys=>cP x y&&cT xs ys
 |_,_=>false
end
mutual
def dP:D->Nat
 | .tup a=>cv a+1
 | .lst a=>cv a+1
 | .scr _=>cLine
 |_=>0
def cv:List D->Nat
 | []=>0
 |x::xs=>max (dP x) (cv xs)
end
theorem je: ∀ {xs:List D} {i:Nat} {d:D},xs[i]? =some d->dP d<=cv xs
 | [],_,_,h=>by simp at h
 |x::xs,0,d,h=>by simp at h;subst h;unfold cv;exact Nat.le_max_left _ _
 |x::xs,i+1,d,h=>by
  have:=je (xs:=xs) (i:=i) (d:=d) (by simpa using h)
  unfold cv;exact Nat.le_trans this (Nat.le_max_right _ _)
mutual
theorem k6: ∀x:D,cP x x=true
 | .non=>by unfold cP;rfl
 | .bl a=>by unfold cP;simp
 | .int a=>by unfold cP;simp
 | .str a=>by unfold cP;simp
 | .tup a=>by unfold cP;exact h8 a
 | .lst a=>by unfold cP;exact h8 a
 | .scr a=>by unfold cP;exact h8 a
theorem h8: ∀x:List D,cT x x=true
 | []=>by unfold cT;rfl
 |x::xs=>by unfold cT;rw[k6 x,h8 xs];rfl
end
def iq(xs ys:List D)(j:Nat):Bool:=match xs[j]?,ys[j]? with
 |some x,some y=>cP x y
 |_,_=>false
theorem mP {xs ys:List D}(h:xs.length=ys.length):(List.range xs.length).all (iq xs ys)=cT xs ys:=by
 induction xs generalizing ys with
 |nil=>
  cases ys with
  |nil=>unfold cT;rfl
  |cons y ys=>simp at h
 |cons x xs ih=>
  cases ys with
  |nil=>simp at h
  |cons y ys=>
   rw[List.length_cons,List.range_succ_eq_map,List.all_cons,List.all_map];have e0:iq (x::xs) (y::ys) 0=cP x y:=rfl
   have e1:((iq (x::xs) (y::ys))∘Nat.succ)=iq xs ys:=by funext j;simp[iq]
   rw[e0,e1,ih (by simpa using h)]
   conv=>rhs;unfold cT
theorem kU: ∀ {xs ys:List D},xs.length≠ys.length->cT xs ys=false
 | [],[],h=>absurd rfl h
 | [],_::_,_=>by unfold cT;rfl
 |_::_,[],_=>by unfold cT;rfl
 |x::xs,y::ys,h=>by unfold cT;rw[kU (xs:=xs) (ys:=ys) (by simpa using h)];simp
section
variable {X:Cx}{ae:List (Addr×Obj)}{σ:St}{H:Hp}{s:Shared}
theorem dY(I:Inv X ae σ H s){a:Addr}{xs ys:List V}(h:SqL X.K H a xs)(h':SqT X.K H a ys):False:=by
 obtain⟨its,_,pl,_⟩:=I.list h
 obtain⟨its',_,pt,_⟩:=I.tuple h'
 exact SeqAt.ne_of_list_tuple pl.isList pt rfl
theorem Cj {a b:List D}(h: ∀zs,cT a zs=cT b zs):(∀z,cP (.tup a) z=cP (.tup b) z)/\(∀z,cP (.lst a) z=cP (.lst b) z)/\ ∀z,cP (.scr a) z=cP (.lst b) z:=by
 refine⟨λz=>?_,λz=>?_,λz=>?_⟩<;>cases z<;>unfold cP<;>first|exact h _|rfl
theorem Di {b:List D}: ∀z,cP (.scr b) z=cP (.lst b) z:=(Cj λ_=>rfl).2.2
mutual
theorem Rep.eqv(I:Inv X ae σ H s): ∀ {v:V} {x y:D},Rep X.K H v x->Rep X.K H v y-> ∀z,cP x z=cP y z
 |_,_,_,.non,.non=>λ_=>rfl
 |_,_,_,.bl,.bl=>λ_=>rfl
 |_,_,_,.int,.int=>λ_=>rfl
 |_,_,_,.str,.str=>λ_=>rfl
 |_,_,_,.tup h r,.tup h' r'=>by rw[I.tuple_inj h h'] at r;exact(Cj (Reps.eqv I r r')).1
 |_,_,_,.lst h r,.lst h' r'=>by rw[I.list_inj (SqL.of h) (SqL.of h')] at r;exact(Cj (Reps.eqv I r r')).2.1
 |_,_,_,.lst h r,.scr h' r'=>by rw[I.list_inj (SqL.of h) h'.seq] at r;exact λz=>((Cj (Reps.eqv I r r')).2.1 z).trans (Di z).symm
 |_,_,_,.scr h r,.lst h' r'=>by rw[I.list_inj h.seq (SqL.of h')] at r;exact(Cj (Reps.eqv I r r')).2.2
 |_,_,_,.scr h r,.scr h' r'=>by rw[I.list_inj h.seq h'.seq] at r;exact λz=>((Cj (Reps.eqv I r r')).2.2 z).trans (Di z).symm
 |_,_,_,.tup h r,.lst h' r'=>(dY I (SqL.of h') h).elim
 |_,_,_,.lst h r,.tup h' r'=>(dY I (SqL.of h) h').elim
 |_,_,_,.tup h r,.scr h' r'=>(dY I h'.seq h).elim
 |_,_,_,.scr h r,.tup h' r'=>(dY I h.seq h').elim
theorem Reps.eqv(I:Inv X ae σ H s): ∀ {v:List V} {x y:List D},Reps X.K H v x->Reps X.K H v y-> ∀z,cT x z=cT y z
 |_,_,_,.nil,.nil=>λ_=>rfl
 |_,_,_,.cons r t,.cons r' t'=>λz=>by
  cases z with
  |nil=>unfold cT;rfl
  |cons w ws=>unfold cT;rw[Rep.eqv I r r' w,Reps.eqv I t t' ws]
end
theorem aE(I:Inv X ae σ H s){a:Addr}{xs:List V}{ds:List D}(h:SqL X.K H a xs)(r:Reps X.K H xs ds): ∃its:List Value,s.heap.IsList a its.toArray/\its.length=ds.length/\ ∀(j:Nat) (hj:j<its.length),∃(v:V) (d:D),ds[j]? =some d/\RelV v its[j]/\Rep X.K H v d:=by
 obtain⟨its,rv,pl,_⟩:=I.list h
 have h1:=rv.length
 have h2:=r.length
 refine⟨its,pl.isList,by omega,λj hj=>?_⟩
 have e:xs[j]? =some xs[j]:=List.getElem?_eq_getElem (by omega)
 obtain⟨u,e1,r1⟩:=rv.get e
 obtain⟨d,e2,r2⟩:=r.get' e
 have:its[j]=u:=by rw[List.getElem?_eq_getElem hj] at e1;exact Option.some.inj e1
 rw[this];exact⟨xs[j],d,e2,r1,r2⟩
theorem bA(I:Inv X ae σ H s){a:Addr}{xs:List V}{ds:List D}(h:SqT X.K H a xs)(r:Reps X.K H xs ds): ∃its:List Value,s.heap.IsTuple a its.toArray/\its.length=ds.length/\ ∀(j:Nat) (hj:j<its.length),∃(v:V) (d:D),ds[j]? =some d/\RelV v its[j]/\Rep X.K H v d:=by
 obtain⟨its,rv,pl,_⟩:=I.tuple h
 have h1:=rv.length
 have h2:=r.length
 refine⟨its,pl,by omega,λj hj=>?_⟩
 have e:xs[j]? =some xs[j]:=List.getElem?_eq_getElem (by omega)
 obtain⟨u,e1,r1⟩:=rv.get e
 obtain⟨d,e2,r2⟩:=r.get' e
 have:its[j]=u:=by rw[List.getElem?_eq_getElem hj] at e1;exact Option.some.inj e1
 rw[this];exact⟨xs[j],d,e2,r1,r2⟩
end
section
variable {X:Cx}{ae:List (Addr×Obj)}{σ:St}{H:Hp}{s:Shared}
theorem di(A:Around):A.in1.units=A.units+1:=rfl
theorem Ab {A:Around}{n:Nat}(IH: ∀ {x y:D} {v u:V} {a b:Value} {A:Around},dP x<n->A.units+dP x<cLine->RelV v a->RelV u b->Rep X.K H v x->Rep X.K H u y->SeqAt.EqAt A s a b (cP x y)){xs ys:List D}{its its2:List Value}(hd:cv xs<n)(hu:A.units+cv xs<cLine)
 (g1: ∀(j:Nat) (hj:j<its.length),∃(v:V) (d:D),xs[j]? =some d/\RelV v its[j]/\Rep X.K H v d) (g2: ∀(j:Nat) (hj:j<its2.length),∃(v:V) (d:D),ys[j]? =some d/\RelV v its2[j]/\Rep X.K H v d):
 ∀j (h1:j<its.toArray.size) (h2:j<its2.toArray.size),SeqAt.EqAt A s its.toArray[j] its2.toArray[j] (iq xs ys j):=λj h1 h2=>by
 obtain⟨v,d,e1,r1,p1⟩:=g1 j (by simpa using h1)
 obtain⟨u,d',e2,r2,p2⟩:=g2 j (by simpa using h2)
 have ez:iq xs ys j=cP d d':=by unfold iq;rw[e1,e2]
 rw[ez];have hdd:=je e1
 exact IH (by omega) (by omega) (by simpa using r1) (by simpa using r2) p1 p2
theorem hX(I:Inv X ae σ H s){A:Around}{n:Nat}(IH: ∀ {x y:D} {v u:V} {a b:Value} {A:Around},dP x<n->A.units+dP x<cLine->RelV v a->RelV u b->Rep X.K H v x->Rep X.K H u y->SeqAt.EqAt A s a b (cP x y)){xs ys:List D}{zs ws:List V}{a b:Addr}(hd:cv xs<n)(hu:A.units+(cv xs+1)<cLine)
 (h1:SqL X.K H a zs) (r1:Reps X.K H zs xs) (h2:SqL X.K H b ws) (r2:Reps X.K H ws ys):SeqAt.RcAt A s (.ref a) (.ref b) (cT xs ys)/\SeqAt.RcNeAt A s (.ref a) (.ref b) (!cT xs ys):=by
 obtain⟨its,l1,n1,g1⟩:=aE I h1 r1
 obtain⟨its2,l2,n2,g2⟩:=aE I h2 r2
 by_cases e:xs.length=ys.length
 ·have hsz:its.toArray.size=its2.toArray.size:=by simp;omega
  have he:=Ab (A:=A.in1) IH hd (by rw[di];omega) g1 g2
  have ea:(List.range its.toArray.size).all (iq xs ys)=cT xs ys:=by rw[List.size_toArray,n1];exact mP e
  rw[<-ea];exact⟨SeqAt.RcAt.lists l1 l2 hsz (by omega) he,SeqAt.RcNeAt.lists l1 l2 hsz (by omega) he⟩
 ·rw[kU e]
  have hsz:(its.toArray.size !=its2.toArray.size)=true:=by simp;omega
  exact⟨SeqAt.RcAt.lists_lengths l1 l2 hsz (by omega),SeqAt.RcNeAt.lists_lengths l1 l2 hsz (by omega)⟩
theorem sy(I:Inv X ae σ H s){A:Around}{n:Nat}(IH: ∀ {x y:D} {v u:V} {a b:Value} {A:Around},dP x<n->A.units+dP x<cLine->RelV v a->RelV u b->Rep X.K H v x->Rep X.K H u y->SeqAt.EqAt A s a b (cP x y)){xs ys:List D}{zs ws:List V}{a b:Addr}(hd:cv xs<n)(hu:A.units+(cv xs+1)<cLine)
 (h1:SqT X.K H a zs) (r1:Reps X.K H zs xs) (h2:SqT X.K H b ws) (r2:Reps X.K H ws ys):SeqAt.RcAt A s (.ref a) (.ref b) (cT xs ys)/\SeqAt.RcNeAt A s (.ref a) (.ref b) (!cT xs ys):=by
 obtain⟨its,l1,n1,g1⟩:=bA I h1 r1
 obtain⟨its2,l2,n2,g2⟩:=bA I h2 r2
 have he:=Ab (A:=A.in1) IH hd (by rw[di];omega) g1 g2
 have ea:((List.range (min its.toArray.size its2.toArray.size)).all (iq xs ys)&&its.toArray.size==its2.toArray.size)=cT xs ys:=by
  rw[List.size_toArray,List.size_toArray,n1,n2]
  by_cases e:xs.length=ys.length
  ·rw[<-e,Nat.min_self,mP e];simp
  ·rw[kU e];simp[e]
 rw[<-ea];exact⟨SeqAt.RcAt.tuples l1 l2 (by omega) he,SeqAt.RcNeAt.tuples l1 l2 (by omega) he⟩
theorem j0(I:Inv X ae σ H s){A:Around}{a b:Addr}{x y:D}(r1:Rep X.K H (.ref a) x)(r2:Rep X.K H (.ref b) y)(e:a=b):SeqAt.EqAt A s (.ref a) (.ref b) (cP x y):=by
 subst e;rw[Rep.eqv I r1 r2,k6];exact SeqAt.EqAt.same _
theorem Cg(I:Inv X ae σ H s){n:Nat}(IH: ∀ {x y:D} {v u:V} {a b:Value} {A:Around},dP x<n->A.units+dP x<cLine->RelV v a->RelV u b->Rep X.K H v x->Rep X.K H u y->SeqAt.EqAt A s a b (cP x y)){x y:D}{v u:V}{a b:Value}{A:Around}(hd:dP x<n+1)(hu:A.units+dP x<cLine)(hc:A.units<cLine)
 (ra:RelV v a) (rb:RelV u b) (px:Rep X.K H v x) (py:Rep X.K H u y):SeqAt.EqAt A s a b (cP x y):=by
 unfold cP;cases px with
 |non=>
  cases ra
  cases py with
  |non=>
   cases rb
   exact SeqAt.EqAt.same _
  |bl=>
   cases rb
   exact SeqAt.EqAt.none_bool _
  |int=>
   obtain⟨t2,rfl⟩:=rb
   exact SeqAt.EqAt.none_int _ _
  |str=>
   obtain⟨t2,rfl⟩:=rb
   exact SeqAt.EqAt.none_str _ _
  | @tup a2 _ _ h2 r2=>
    cases rb
    obtain⟨its2,l2,_⟩:=bA I h2 r2
    exact SeqAt.EqAt.none_tuple l2 (by omega)
  | @lst a2 _ _ h2 r2=>
    cases rb
    obtain⟨its2,l2,_⟩:=aE I (SqL.of h2) r2
    exact SeqAt.EqAt.none_list l2 (by omega)
  | @scr a2 _ _ h2 r2=>
    cases rb
    obtain⟨its2,l2,_⟩:=aE I h2.seq r2
    exact SeqAt.EqAt.none_list l2 (by omega)
 |bl=>
  cases ra
  cases py with
  |non=>
   cases rb
   exact SeqAt.EqAt.bool_none _
  |bl=>
   cases rb
   exact SeqAt.EqAt.bool_bool _ _
  |int=>
   obtain⟨t2,rfl⟩:=rb
   exact SeqAt.EqAt.bool_int _ _ _
  |str=>
   obtain⟨t2,rfl⟩:=rb
   exact SeqAt.EqAt.bool_str _ _ _
  | @tup a2 _ _ h2 r2=>
    cases rb
    obtain⟨its2,l2,_⟩:=bA I h2 r2
    exact SeqAt.EqAt.bool_tuple _ l2 (by omega)
  | @lst a2 _ _ h2 r2=>
    cases rb
    obtain⟨its2,l2,_⟩:=aE I (SqL.of h2) r2
    exact SeqAt.EqAt.bool_list _ l2 (by omega)
  | @scr a2 _ _ h2 r2=>
    cases rb
    obtain⟨its2,l2,_⟩:=aE I h2.seq r2
    exact SeqAt.EqAt.bool_list _ l2 (by omega)
 |int=>
  obtain⟨t1,rfl⟩:=ra
  cases py with
  |non=>
   cases rb
   exact SeqAt.EqAt.int_none _ _
  |bl=>
   cases rb
   exact SeqAt.EqAt.int_bool _ _ _
  |int=>
   obtain⟨t2,rfl⟩:=rb
   exact SeqAt.EqAt.int_int _ _ _ _
  |str=>
   obtain⟨t2,rfl⟩:=rb
   exact SeqAt.EqAt.int_str _ _ _ _
  | @tup a2 _ _ h2 r2=>
    cases rb
    obtain⟨its2,l2,_⟩:=bA I h2 r2
    exact SeqAt.EqAt.int_tuple _ _ l2 (by omega)
  | @lst a2 _ _ h2 r2=>
    cases rb
    obtain⟨its2,l2,_⟩:=aE I (SqL.of h2) r2
    exact SeqAt.EqAt.int_list _ _ l2 (by omega)
  | @scr a2 _ _ h2 r2=>
    cases rb
    obtain⟨its2,l2,_⟩:=aE I h2.seq r2
    exact SeqAt.EqAt.int_list _ _ l2 (by omega)
 |str=>
  obtain⟨t1,rfl⟩:=ra
  cases py with
  |non=>
   cases rb
   exact SeqAt.EqAt.str_none _ _
  |bl=>
   cases rb
   exact SeqAt.EqAt.str_bool _ _ _
  |int=>
   obtain⟨t2,rfl⟩:=rb
   exact SeqAt.EqAt.str_int _ _ _ _
  |str=>
   obtain⟨t2,rfl⟩:=rb
   exact SeqAt.EqAt.str_str _ _ _ _
  | @tup a2 _ _ h2 r2=>
    cases rb
    obtain⟨its2,l2,_⟩:=bA I h2 r2
    exact SeqAt.EqAt.str_tuple _ _ l2 (by omega)
  | @lst a2 _ _ h2 r2=>
    cases rb
    obtain⟨its2,l2,_⟩:=aE I (SqL.of h2) r2
    exact SeqAt.EqAt.str_list _ _ l2 (by omega)
  | @scr a2 _ _ h2 r2=>
    cases rb
    obtain⟨its2,l2,_⟩:=aE I h2.seq r2
    exact SeqAt.EqAt.str_list _ _ l2 (by omega)
 | @tup a1 _ _ h1 r1=>
   cases ra
   obtain⟨its,l1,_⟩:=bA I h1 r1
   cases py with
   |non=>
    cases rb
    exact SeqAt.EqAt.tuple_none l1 (by omega)
   |bl=>
    cases rb
    exact SeqAt.EqAt.tuple_bool _ l1 (by omega)
   |int=>
    obtain⟨t2,rfl⟩:=rb
    exact SeqAt.EqAt.tuple_int _ _ l1 (by omega)
   |str=>
    obtain⟨t2,rfl⟩:=rb
    exact SeqAt.EqAt.tuple_str _ _ l1 (by omega)
   | @tup a2 _ _ h2 r2=>
     cases rb
     obtain⟨its2,l2,_⟩:=bA I h2 r2
     by_cases e:a1=a2
     ·exact(j0 I (.tup h1 r1) (.tup h2 r2) e)
     ·exact SeqAt.EqAt.of_refs e (sy I IH (by unfold dP at hd;omega) (by unfold dP at hu;omega) h1 r1 h2 r2).1
   | @lst a2 _ _ h2 r2=>
     cases rb
     obtain⟨its2,l2,_⟩:=aE I (SqL.of h2) r2
     exact SeqAt.EqAt.tuple_list l1 l2 (by omega)
   | @scr a2 _ _ h2 r2=>
     cases rb
     obtain⟨its2,l2,_⟩:=aE I h2.seq r2
     exact SeqAt.EqAt.tuple_list l1 l2 (by omega)
 | @scr a1 _ _ h1 r1=>exact absurd hu (by unfold dP;omega)
 | @lst a1 _ _ h1 r1=>
   cases ra
   obtain⟨its,l1,_⟩:=aE I (SqL.of h1) r1
   cases py with
   |non=>
    cases rb
    exact SeqAt.EqAt.list_none l1 (by omega)
   |bl=>
    cases rb
    exact SeqAt.EqAt.list_bool _ l1 (by omega)
   |int=>
    obtain⟨t2,rfl⟩:=rb
    exact SeqAt.EqAt.list_int _ _ l1 (by omega)
   |str=>
    obtain⟨t2,rfl⟩:=rb
    exact SeqAt.EqAt.list_str _ _ l1 (by omega)
   | @tup a2 _ _ h2 r2=>
     cases rb
     obtain⟨its2,l2,_⟩:=bA I h2 r2
     exact SeqAt.EqAt.list_tuple l1 l2 (by omega)
   | @lst a2 _ _ h2 r2=>
     cases rb
     obtain⟨its2,l2,_⟩:=aE I (SqL.of h2) r2
     by_cases e:a1=a2
     ·exact(j0 I (.lst h1 r1) (.lst h2 r2) e)
     ·exact SeqAt.EqAt.of_refs e (hX I IH (by unfold dP at hd;omega) (by unfold dP at hu;omega) (SqL.of h1) r1 (SqL.of h2) r2).1
   | @scr a2 _ _ h2 r2=>
     cases rb
     obtain⟨its2,l2,_⟩:=aE I h2.seq r2
     by_cases e:a1=a2
     ·exact(j0 I (.lst h1 r1) (.scr h2 r2) e)
     ·exact SeqAt.EqAt.of_refs e (hX I IH (by unfold dP at hd;omega) (by unfold dP at hu;omega) (SqL.of h1) r1 h2.seq r2).1
theorem jZ(I:Inv X ae σ H s): ∀(n:Nat) {x y:D} {v u:V} {a b:Value} {A:Around},dP x<n->A.units+dP x<cLine->RelV v a->RelV u b->Rep X.K H v x->Rep X.K H u y->SeqAt.EqAt A s a b (cP x y)
 |0,x,y,v,u,a,b,A,hd,hu,ra,rb,px,py=>absurd hd (Nat.not_lt_zero _)
 |n+1,x,y,v,u,a,b,A,hd,hu,ra,rb,px,py=>Cg I (λh1 h2 h3 h4 h5 h6=>jZ I n h1 h2 h3 h4 h5 h6) hd hu (by omega) ra rb px py
theorem BG(I:Inv X ae σ H s){x y:D}{v u:V}{a b:Value}{A:Around}(hu:A.units+dP x<cLine)(hc:A.units<cLine)(ra:RelV v a)(rb:RelV u b)(px:Rep X.K H v x)(py:Rep X.K H u y):SeqAt.RcAt A s a b (cP x y):=by
 have IH:=λ{x y:D} {v u:V} {a b:Value} {A:Around} (n:Nat)=> @jZ X ae σ H s I n x y v u a b A
 have IH: ∀ {n:Nat} {x y:D} {v u:V} {a b:Value} {A:Around},dP x<n->A.units+dP x<cLine->RelV v a->RelV u b->Rep X.K H v x->Rep X.K H u y->SeqAt.EqAt A s a b (cP x y):=λ{n x y v u a b A}=>jZ I n
 unfold cP;cases px with
 |non=>
  cases ra
  cases py with
  |non=>
   cases rb
   exact SeqAt.RcAt.none_none
  |bl=>
   cases rb
   exact SeqAt.RcAt.none_bool _
  |int=>
   obtain⟨t2,rfl⟩:=rb
   exact SeqAt.RcAt.none_int _ _
  |str=>
   obtain⟨t2,rfl⟩:=rb
   exact SeqAt.RcAt.none_str _ _
  | @tup a2 _ _ h2 r2=>
    cases rb
    obtain⟨its2,l2,_⟩:=bA I h2 r2
    exact SeqAt.RcAt.none_tuple l2 (by omega)
  | @lst a2 _ _ h2 r2=>
    cases rb
    obtain⟨its2,l2,_⟩:=aE I (SqL.of h2) r2
    exact SeqAt.RcAt.none_list l2 (by omega)
  | @scr a2 _ _ h2 r2=>
    cases rb
    obtain⟨its2,l2,_⟩:=aE I h2.seq r2
    exact SeqAt.RcAt.none_list l2 (by omega)
 |bl=>
  cases ra
  cases py with
  |non=>
   cases rb
   exact SeqAt.RcAt.bool_none _
  |bl=>
   cases rb
   exact SeqAt.RcAt.bool_bool _ _
  |int=>
   obtain⟨t2,rfl⟩:=rb
   exact SeqAt.RcAt.bool_int _ _ _
  |str=>
   obtain⟨t2,rfl⟩:=rb
   exact SeqAt.RcAt.bool_str _ _ _
  | @tup a2 _ _ h2 r2=>
    cases rb
    obtain⟨its2,l2,_⟩:=bA I h2 r2
    exact SeqAt.RcAt.bool_tuple _ l2 (by omega)
  | @lst a2 _ _ h2 r2=>
    cases rb
    obtain⟨its2,l2,_⟩:=aE I (SqL.of h2) r2
    exact SeqAt.RcAt.bool_list _ l2 (by omega)
  | @scr a2 _ _ h2 r2=>
    cases rb
    obtain⟨its2,l2,_⟩:=aE I h2.seq r2
    exact SeqAt.RcAt.bool_list _ l2 (by omega)
 |int=>
  obtain⟨t1,rfl⟩:=ra
  cases py with
  |non=>
   cases rb
   exact SeqAt.RcAt.int_none _ _
  |bl=>
   cases rb
   exact SeqAt.RcAt.int_bool _ _ _
  |int=>
   obtain⟨t2,rfl⟩:=rb
   exact SeqAt.RcAt.int_int _ _ _ _
  |str=>
   obtain⟨t2,rfl⟩:=rb
   exact SeqAt.RcAt.int_str _ _ _ _
  | @tup a2 _ _ h2 r2=>
    cases rb
    obtain⟨its2,l2,_⟩:=bA I h2 r2
    exact SeqAt.RcAt.int_tuple _ _ l2 (by omega)
  | @lst a2 _ _ h2 r2=>
    cases rb
    obtain⟨its2,l2,_⟩:=aE I (SqL.of h2) r2
    exact SeqAt.RcAt.int_list _ _ l2 (by omega)
  | @scr a2 _ _ h2 r2=>
    cases rb
    obtain⟨its2,l2,_⟩:=aE I h2.seq r2
    exact SeqAt.RcAt.int_list _ _ l2 (by omega)
 |str=>
  obtain⟨t1,rfl⟩:=ra
  cases py with
  |non=>
   cases rb
   exact SeqAt.RcAt.str_none _ _
  |bl=>
   cases rb
   exact SeqAt.RcAt.str_bool _ _ _
  |int=>
   obtain⟨t2,rfl⟩:=rb
   exact SeqAt.RcAt.str_int _ _ _ _
  |str=>
   obtain⟨t2,rfl⟩:=rb
   exact SeqAt.RcAt.str_str _ _ _ _
  | @tup a2 _ _ h2 r2=>
    cases rb
    obtain⟨its2,l2,_⟩:=bA I h2 r2
    exact SeqAt.RcAt.str_tuple _ _ l2 (by omega)
  | @lst a2 _ _ h2 r2=>
    cases rb
    obtain⟨its2,l2,_⟩:=aE I (SqL.of h2) r2
    exact SeqAt.RcAt.str_list _ _ l2 (by omega)
  | @scr a2 _ _ h2 r2=>
    cases rb
    obtain⟨its2,l2,_⟩:=aE I h2.seq r2
    exact SeqAt.RcAt.str_list _ _ l2 (by omega)
 | @tup a1 _ _ h1 r1=>
   cases ra
   obtain⟨its,l1,_⟩:=bA I h1 r1
   cases py with
   |non=>
    cases rb
    exact SeqAt.RcAt.tuple_none l1 (by omega)
   |bl=>
    cases rb
    exact SeqAt.RcAt.tuple_bool _ l1 (by omega)
   |int=>
    obtain⟨t2,rfl⟩:=rb
    exact SeqAt.RcAt.tuple_int _ _ l1 (by omega)
   |str=>
    obtain⟨t2,rfl⟩:=rb
    exact SeqAt.RcAt.tuple_str _ _ l1 (by omega)
   | @tup a2 _ _ h2 r2=>
     cases rb
     obtain⟨its2,l2,_⟩:=bA I h2 r2
     exact(sy I IH (Nat.lt_succ_self _) (by unfold dP at hu;omega) h1 r1 h2 r2).1
   | @lst a2 _ _ h2 r2=>
     cases rb
     obtain⟨its2,l2,_⟩:=aE I (SqL.of h2) r2
     exact SeqAt.RcAt.tuple_list l1 l2 (by omega)
   | @scr a2 _ _ h2 r2=>
     cases rb
     obtain⟨its2,l2,_⟩:=aE I h2.seq r2
     exact SeqAt.RcAt.tuple_list l1 l2 (by omega)
 | @scr a1 _ _ h1 r1=>exact absurd hu (by unfold dP;omega)
 | @lst a1 _ _ h1 r1=>
   cases ra
   obtain⟨its,l1,_⟩:=aE I (SqL.of h1) r1
   cases py with
   |non=>
    cases rb
    exact SeqAt.RcAt.list_none l1 (by omega)
   |bl=>
    cases rb
    exact SeqAt.RcAt.list_bool _ l1 (by omega)
   |int=>
    obtain⟨t2,rfl⟩:=rb
    exact SeqAt.RcAt.list_int _ _ l1 (by omega)
   |str=>
    obtain⟨t2,rfl⟩:=rb
    exact SeqAt.RcAt.list_str _ _ l1 (by omega)
   | @tup a2 _ _ h2 r2=>
     cases rb
     obtain⟨its2,l2,_⟩:=bA I h2 r2
     exact SeqAt.RcAt.list_tuple l1 l2 (by omega)
   | @lst a2 _ _ h2 r2=>
     cases rb
     obtain⟨its2,l2,_⟩:=aE I (SqL.of h2) r2
     exact(hX I IH (Nat.lt_succ_self _) (by unfold dP at hu;omega) (SqL.of h1) r1 (SqL.of h2) r2).1
   | @scr a2 _ _ h2 r2=>
     cases rb
     obtain⟨its2,l2,_⟩:=aE I h2.seq r2
     exact(hX I IH (Nat.lt_succ_self _) (by unfold dP at hu;omega) (SqL.of h1) r1 h2.seq r2).1
theorem vH(I:Inv X ae σ H s){x y:D}{v u:V}{a b:Value}{A:Around}(hu:A.units+dP x<cLine)(hc:A.units<cLine)(ra:RelV v a)(rb:RelV u b)(px:Rep X.K H v x)(py:Rep X.K H u y):SeqAt.RcNeAt A s a b (!cP x y):=by
 have IH: ∀ {n:Nat} {x y:D} {v u:V} {a b:Value} {A:Around},dP x<n->A.units+dP x<cLine->RelV v a->RelV u b->Rep X.K H v x->Rep X.K H u y->SeqAt.EqAt A s a b (cP x y):=λ{n x y v u a b A}=>jZ I n
 unfold cP;cases px with
 |non=>
  cases ra
  cases py with
  |non=>
   cases rb
   exact SeqAt.RcNeAt.none_none
  |bl=>
   cases rb
   exact SeqAt.RcNeAt.none_bool _
  |int=>
   obtain⟨t2,rfl⟩:=rb
   exact SeqAt.RcNeAt.none_int _ _
  |str=>
   obtain⟨t2,rfl⟩:=rb
   exact SeqAt.RcNeAt.none_str _ _
  | @tup a2 _ _ h2 r2=>
    cases rb
    obtain⟨its2,l2,_⟩:=bA I h2 r2
    exact SeqAt.RcNeAt.none_tuple l2 (by omega)
  | @lst a2 _ _ h2 r2=>
    cases rb
    obtain⟨its2,l2,_⟩:=aE I (SqL.of h2) r2
    exact SeqAt.RcNeAt.none_list l2 (by omega)
  | @scr a2 _ _ h2 r2=>
    cases rb
    obtain⟨its2,l2,_⟩:=aE I h2.seq r2
    exact SeqAt.RcNeAt.none_list l2 (by omega)
 |bl=>
  cases ra
  cases py with
  |non=>
   cases rb
   exact SeqAt.RcNeAt.bool_none _
  |bl=>
   cases rb
   exact SeqAt.RcNeAt.bool_bool _ _
  |int=>
   obtain⟨t2,rfl⟩:=rb
   exact SeqAt.RcNeAt.bool_int _ _ _
  |str=>
   obtain⟨t2,rfl⟩:=rb
   exact SeqAt.RcNeAt.bool_str _ _ _
  | @tup a2 _ _ h2 r2=>
    cases rb
    obtain⟨its2,l2,_⟩:=bA I h2 r2
    exact SeqAt.RcNeAt.bool_tuple _ l2 (by omega)
  | @lst a2 _ _ h2 r2=>
    cases rb
    obtain⟨its2,l2,_⟩:=aE I (SqL.of h2) r2
    exact SeqAt.RcNeAt.bool_list _ l2 (by omega)
  | @scr a2 _ _ h2 r2=>
    cases rb
    obtain⟨its2,l2,_⟩:=aE I h2.seq r2
    exact SeqAt.RcNeAt.bool_list _ l2 (by omega)
 |int=>
  obtain⟨t1,rfl⟩:=ra
  cases py with
  |non=>
   cases rb
   exact SeqAt.RcNeAt.int_none _ _
  |bl=>
   cases rb
   exact SeqAt.RcNeAt.int_bool _ _ _
  |int=>
   obtain⟨t2,rfl⟩:=rb
   exact SeqAt.RcNeAt.int_int _ _ _ _
  |str=>
   obtain⟨t2,rfl⟩:=rb
   exact SeqAt.RcNeAt.int_str _ _ _ _
  | @tup a2 _ _ h2 r2=>
    cases rb
    obtain⟨its2,l2,_⟩:=bA I h2 r2
    exact SeqAt.RcNeAt.int_tuple _ _ l2 (by omega)
  | @lst a2 _ _ h2 r2=>
    cases rb
    obtain⟨its2,l2,_⟩:=aE I (SqL.of h2) r2
    exact SeqAt.RcNeAt.int_list _ _ l2 (by omega)
  | @scr a2 _ _ h2 r2=>
    cases rb
    obtain⟨its2,l2,_⟩:=aE I h2.seq r2
    exact SeqAt.RcNeAt.int_list _ _ l2 (by omega)
 |str=>
  obtain⟨t1,rfl⟩:=ra
  cases py with
  |non=>
   cases rb
   exact SeqAt.RcNeAt.str_none _ _
  |bl=>
   cases rb
   exact SeqAt.RcNeAt.str_bool _ _ _
  |int=>
   obtain⟨t2,rfl⟩:=rb
   exact SeqAt.RcNeAt.str_int _ _ _ _
  |str=>
   obtain⟨t2,rfl⟩:=rb
   exact SeqAt.RcNeAt.str_str _ _ _ _
  | @tup a2 _ _ h2 r2=>
    cases rb
    obtain⟨its2,l2,_⟩:=bA I h2 r2
    exact SeqAt.RcNeAt.str_tuple _ _ l2 (by omega)
  | @lst a2 _ _ h2 r2=>
    cases rb
    obtain⟨its2,l2,_⟩:=aE I (SqL.of h2) r2
    exact SeqAt.RcNeAt.str_list _ _ l2 (by omega)
  | @scr a2 _ _ h2 r2=>
    cases rb
    obtain⟨its2,l2,_⟩:=aE I h2.seq r2
    exact SeqAt.RcNeAt.str_list _ _ l2 (by omega)
 | @tup a1 _ _ h1 r1=>
   cases ra
   obtain⟨its,l1,_⟩:=bA I h1 r1
   cases py with
   |non=>
    cases rb
    exact SeqAt.RcNeAt.tuple_none l1 (by omega)
   |bl=>
    cases rb
    exact SeqAt.RcNeAt.tuple_bool _ l1 (by omega)
   |int=>
    obtain⟨t2,rfl⟩:=rb
    exact SeqAt.RcNeAt.tuple_int _ _ l1 (by omega)
   |str=>
    obtain⟨t2,rfl⟩:=rb
    exact SeqAt.RcNeAt.tuple_str _ _ l1 (by omega)
   | @tup a2 _ _ h2 r2=>
     cases rb
     obtain⟨its2,l2,_⟩:=bA I h2 r2
     exact(sy I IH (Nat.lt_succ_self _) (by unfold dP at hu;omega) h1 r1 h2 r2).2
   | @lst a2 _ _ h2 r2=>
     cases rb
     obtain⟨its2,l2,_⟩:=aE I (SqL.of h2) r2
     exact SeqAt.RcNeAt.tuple_list l1 l2 (by omega)
   | @scr a2 _ _ h2 r2=>
     cases rb
     obtain⟨its2,l2,_⟩:=aE I h2.seq r2
     exact SeqAt.RcNeAt.tuple_list l1 l2 (by omega)
 | @scr a1 _ _ h1 r1=>exact absurd hu (by unfold dP;omega)
 | @lst a1 _ _ h1 r1=>
   cases ra
   obtain⟨its,l1,_⟩:=aE I (SqL.of h1) r1
   cases py with
   |non=>
    cases rb
    exact SeqAt.RcNeAt.list_none l1 (by omega)
   |bl=>
    cases rb
    exact SeqAt.RcNeAt.list_bool _ l1 (by omega)
   |int=>
    obtain⟨t2,rfl⟩:=rb
    exact SeqAt.RcNeAt.list_int _ _ l1 (by omega)
   |str=>
    obtain⟨t2,rfl⟩:=rb
    exact SeqAt.RcNeAt.list_str _ _ l1 (by omega)
   | @tup a2 _ _ h2 r2=>
     cases rb
     obtain⟨its2,l2,_⟩:=bA I h2 r2
     exact SeqAt.RcNeAt.list_tuple l1 l2 (by omega)
   | @lst a2 _ _ h2 r2=>
     cases rb
     obtain⟨its2,l2,_⟩:=aE I (SqL.of h2) r2
     exact(hX I IH (Nat.lt_succ_self _) (by unfold dP at hu;omega) (SqL.of h1) r1 (SqL.of h2) r2).2
   | @scr a2 _ _ h2 r2=>
     cases rb
     obtain⟨its2,l2,_⟩:=aE I h2.seq r2
     exact(hX I IH (Nat.lt_succ_self _) (by unfold dP at hu;omega) (SqL.of h1) r1 h2.seq r2).2
end
theorem Rep1.full {K:W.Frag}{H:Hp}{hid:bu}{v:V}{d:D}(h:Rep1 K H (vw H hid) v d):Rep K H v d:=by
 rcases h with h|⟨a,xs,ds,rfl,rfl,h1,h2⟩
 ·exact h.mono (dG _ _)
 ·exact .lst h1 (h2.mono (dG _ _))
def CF(K:W.Frag):R2:=λv u H Q=> ∃x y,Rep K H v x/\Rep K H u y/\dP x<=32/\Q (.bl (cP x y)) H
def DR(K:W.Frag):R2:=λv u H Q=> ∃x y,Rep K H v x/\Rep K H u y/\dP x<=32/\Q (.bl (!cP x y)) H
theorem jA {X:Cx}(hu:X.A.units+64<cLine):jn X (compareOp .Eq) (CF X.K):=by
 intro ae s σ H x y v u Q I rx ry h;obtain⟨dx,dy,p1,p2,hd,q⟩:=h
 exact BG I (by omega) (by omega) rx ry p1 p2 X.prog X.w _ _ ⟨.bl _,H,I,rfl,q⟩
theorem gu {X:Cx}(hu:X.A.units+64<cLine):jn X (compareOp .NotEq) (DR X.K):=by
 intro ae s σ H x y v u Q I rx ry h;obtain⟨dx,dy,p1,p2,hd,q⟩:=h
 exact vH I (by omega) (by omega) rx ry p1 p2 X.prog X.w _ _ ⟨.bl _,H,I,rfl,q⟩
def lU:D->D->Option D:=λx y=>if dP x<=32 then some (.bl (cP x y)) else none
def iF:D->D->Option D:=λx y=>if dP x<=32 then some (.bl (!cP x y)) else none
theorem mq {K:W.Frag}:lV K .s (CF K) lU:=by
 intro H hid v u x y d Q hf h r1 r2 q;unfold lU at h;split at h
 ·cases h;exact⟨x,y,r1.full,r2.full, ‹_›,q _ H (Same.refl _) .bl⟩
 ·cases h
theorem jc {K:W.Frag}:lV K .s (DR K) iF:=by
 intro H hid v u x y d Q hf h r1 r2 q;unfold iF at h;split at h
 ·cases h;exact⟨x,y,r1.full,r2.full, ‹_›,q _ H (Same.refl _) .bl⟩
 ·cases h
theorem kD {X:Cx}{ae:List (Addr×Obj)}{σ:St}{H:Hp}{s:Shared}(I:Inv X ae σ H s){x:D}{v:V}{a:Value}{A:Around}(hx:Rep X.K H v x)(ra:RelV v a): ∀ {ds:List D} {xs:List V} {its:List Value},Reps X.K H xs ds->Vals xs its->A.units+cv ds<cLine->
 ∃e:Value->Bool,(∀y,y∈its->SeqAt.EqAt A s y a (e y))/\its.any e=ds.any (λd=>cP d x):=by
 intro ds xs its r rv hu
 classical
 let e:Value->Bool:=λy=>if h: ∃(d:D) (u:V),RelV u y/\Rep X.K H u d then cP h.choose x else false
 have key: ∀y u d,RelV u y->Rep X.K H u d->e y=cP d x:=λy u d h1 h2=>by
  have hex: ∃(d:D) (u:V),RelV u y/\Rep X.K H u d:=⟨d,u,h1,h2⟩
  show(if h: ∃(d:D) (u:V),RelV u y/\Rep X.K H u d then cP h.choose x else false)=cP d x
  rw[dif_pos hex];obtain⟨u',s1,s2⟩:=hex.choose_spec
  have eu:u'=u:=s1.inj h1
  rw[eu] at s2;exact Rep.eqv I s2 h2 x
 refine⟨e,?_,?_⟩
 ·induction rv generalizing ds with
  |nil=>intro y hy;cases hy
  |cons r1 t ih=>
   cases r with
   |cons p1 pt=>
    rename_i d ds;intro y hy;have hm:dP d<=cv (d::ds):=je (i:=0) rfl
    have hm2:cv ds<=cv (d::ds):=by conv=>rhs;unfold cv
                                   exact Nat.le_max_right _ _
    rcases List.mem_cons.mp hy with rfl|hy
    ·rw[key _ _ _ r1 p1]
     exact jZ I (dP d+1) (Nat.lt_succ_self _) (by omega) r1 ra p1 hx
    ·exact ih pt (by omega) y hy
 ·induction rv generalizing ds with
  |nil=>cases r;rfl
  |cons r1 t ih=>
   cases r with
   |cons p1 pt=>
    rename_i d ds;have hm2:cv ds<=cv (d::ds):=by conv=>rhs;unfold cv
                                                 exact Nat.le_max_right _ _
    rw[List.any_cons,List.any_cons,key _ _ _ r1 p1,ih pt (by omega)]
def Bm(K:W.Frag)(neg:Bool):R2:=λv u H Q=> ∃x ds a xs,Rep K H v x/\u=.ref a/\(SqL K H a xs\/SqT K H a xs)/\Reps K H xs ds/\cv ds<=32/\Q (.bl (if neg then !ds.any (λd=>cP d x) else ds.any λd=>cP d x)) H
theorem Cc {X:Cx}(hu:X.A.units+64<cLine):jn X (compareOp .In) (Bm X.K false):=by
 intro ae s σ H v w a b Q I rx ry h;obtain⟨x,ds,p,xs,hx,rfl,hq,r,hd,q⟩:=h
 cases ry
 rcases hq with hq|hq
 ·obtain⟨its,rv,pl,hz⟩:=I.list hq
  obtain⟨e,h1,h2⟩:=kD (A:=X.A.in1) I hx rx r rv (by rw[di];omega)
  refine SeqAt.in_listAt e pl.isList (λy hy=>h1 y (by simpa using hy)) ⟨.bl _,H,I,rfl,?_⟩
  rw[show its.toArray.any e=its.any e by simp,h2]
  exact q
 ·obtain⟨its,rv,pl,hz⟩:=I.tuple hq
  obtain⟨e,h1,h2⟩:=kD (A:=X.A.in1) I hx rx r rv (by rw[di];omega)
  refine SeqAt.in_tupleAt e pl (λy hy=>h1 y (by simpa using hy)) ⟨.bl _,H,I,rfl,?_⟩
  rw[show its.toArray.any e=its.any e by simp,h2]
  exact q
theorem mJ {X:Cx}(hu:X.A.units+64<cLine):jn X (compareOp .NotIn) (Bm X.K true):=by
 intro ae s σ H v w a b Q I rx ry h;obtain⟨x,ds,p,xs,hx,rfl,hq,r,hd,q⟩:=h
 cases ry
 rcases hq with hq|hq
 ·obtain⟨its,rv,pl,hz⟩:=I.list hq
  obtain⟨e,h1,h2⟩:=kD (A:=X.A.in1) I hx rx r rv (by rw[di];omega)
  refine SeqAt.notIn_listAt e pl.isList (λy hy=>h1 y (by simpa using hy)) ⟨.bl _,H,I,rfl,?_⟩
  rw[show its.toArray.any e=its.any e by simp,h2]
  exact q
 ·obtain⟨its,rv,pl,hz⟩:=I.tuple hq
  obtain⟨e,h1,h2⟩:=kD (A:=X.A.in1) I hx rx r rv (by rw[di];omega)
  refine SeqAt.notIn_tupleAt e pl (λy hy=>h1 y (by simpa using hy)) ⟨.bl _,H,I,rfl,?_⟩
  rw[show its.toArray.any e=its.any e by simp,h2]
  exact q
def qL:D->Option (List D)
 | .lst ds=>some ds
 | .tup ds=>some ds
 |_=>none
def oJ(neg:Bool):D->D->Option D:=λx y=>match qL y with
 |some ds=>if cv ds<=32 then some (.bl (if neg then !ds.any (λd=>cP d x) else ds.any λd=>cP d x)) else none
 |none=>none
theorem xS {K:W.Frag}(neg:Bool):lV K .s (Bm K neg) (oJ neg):=by
 intro H hid v u x y d Q hf h r1 r2 q;unfold oJ at h;split at h
 ·split at h
  ·rename_i ds e _
   cases h
   cases y with
   |lst zs=>
    cases e
    obtain⟨a,xs,rfl,h1,h2⟩:=r2.lst
    exact⟨x,_,a,xs,r1.full,rfl,.inl h1,h2.mono (dG _ _), ‹_›,q _ H (Same.refl _) .bl⟩
   |tup zs=>
    cases e
    obtain⟨a,xs,rfl,_,h1,h2⟩:=r2.tup
    exact⟨x,_,a,xs,r1.full,rfl,.inr h1,h2.mono (dG _ _), ‹_›,q _ H (Same.refl _) .bl⟩
   |_=>cases e
  ·cases h
 ·cases h
def E1(T:String):D->Bool
 | .non=>T=="NoneType"
 | .bl _=>T=="bool"||T=="int"
 | .int _=>T=="int"
 | .str _=>T=="str"
 | .tup _=>T=="tuple"
 | .lst _=>T=="list"
 | .scr _=>T=="list"
structure KT(T:String):Prop where
 n: ∀K,W.kitOne K (.type "NoneType") (.type T)=some (T=="NoneType")
 b: ∀K,W.kitOne K (.type "bool") (.type T)=some (T=="bool"||T=="int")
 i: ∀K,W.kitOne K (.type "int") (.type T)=some (T=="int")
 s: ∀K,W.kitOne K (.type "str") (.type T)=some (T=="str")
 t: ∀K,W.kitOne K (.type "tuple") (.type T)=some (T=="tuple")
 l: ∀K,W.kitOne K (.type "list") (.type T)=some (T=="list")
theorem AW:KT "int":=⟨λ_=>by kernel_rfl,λ_=>by kernel_rfl,λ_=>by kernel_rfl,λ_=>by kernel_rfl,λ_=>by kernel_rfl,λ_=>by kernel_rfl⟩
theorem zi:KT "bool":=⟨λ_=>by kernel_rfl,λ_=>by kernel_rfl,λ_=>by kernel_rfl,λ_=>by kernel_rfl,λ_=>by kernel_rfl,λ_=>by kernel_rfl⟩
theorem zv:KT "list":=⟨λ_=>by kernel_rfl,λ_=>by kernel_rfl,λ_=>by kernel_rfl,λ_=>by kernel_rfl,λ_=>by kernel_rfl,λ_=>by kernel_rfl⟩
theorem we:KT "tuple":=⟨λ_=>by kernel_rfl,λ_=>by kernel_rfl,λ_=>by kernel_rfl,λ_=>by kernel_rfl,λ_=>by kernel_rfl,λ_=>by kernel_rfl⟩
section
variable {X:Cx}{c:Ct}{e o:Expr}{k:Kd}{f g:FE}{pos p p2:Pos}
theorem wg {T:String}(kt:KT T):eJ X (.builtin "isinstance") (λxs H Q=> ∃v d,xs=[v,.ty T]/\Rep X.K H v d/\Q (.bl (E1 T d)) H):=by
 intro ae s σ H xs us Q I r h;obtain⟨v,d,rfl,rp,q⟩:=h
 obtain⟨u,w',rfl,rx,ry⟩:=Af r
 cases ry
 have fin: ∀tk,EP X ae σ Q (.bool (E1 T d)) {s with toks:=tk}:=λtk=>⟨.bl _,H,I.tok _,rfl,q⟩
 cases rp with
 |non=>cases rx;exact W.kia_one W.kitx_none I.kIn True.intro (kt.n _) (λz=>nomatch z) fin
 |bl=>cases rx;exact W.kia_one W.kitx_bool I.kIn True.intro (kt.b _) (λz=>nomatch z) fin
 |int=>obtain⟨t,rfl⟩:=rx;exact W.kia_one W.kitx_int I.kIn True.intro (kt.i _) (λz=>nomatch z) fin
 |str=>obtain⟨t,rfl⟩:=rx;exact W.kia_one W.kitx_str I.kIn True.intro (kt.s _) (λz=>nomatch z) fin
 |tup h1 h2=>
  cases rx
  obtain⟨⟨ob,ho,hc⟩,_⟩:=I.tupleN h1
  exact W.kia_one W.kitx_tuple I.kIn ⟨ob,ho,hc⟩ (kt.t _) (λz=>nomatch z) fin
 |lst h1 h2=>
  cases rx
  obtain⟨its,_,⟨ob,n,ho,hc,_⟩,_⟩:=I.list (SqL.of h1)
  exact W.kia_one W.kitx_list I.kIn ⟨ob,ho,hc⟩ (kt.l _) (λz=>nomatch z) fin
 |scr h1 h2=>
  cases rx
  obtain⟨its,_,⟨ob,n,ho,hc,_⟩,_⟩:=I.list h1.seq
  exact W.kia_one W.kitx_list I.kIn ⟨ob,ho,hc⟩ (kt.l _) (λz=>nomatch z) fin
def lY(T:String)(f:FE):FE:=λρ=>(f ρ).map λd=>.bl (E1 T d)
theorem oy(T:String){y:Str}(kt:KT T)(he:DP X c k e f)(hm:X.mg "isinstance"=none)(hmT:X.mg y=none)(hg:Gl X "isinstance":=by rfl)(hgT:Gl X y:=by rfl)(hv:bootBuiltins "isinstance"=some (.builtin "isinstance"):=by kernel_rfl)(hvT:bootBuiltins y=some (.type T):=by kernel_rfl)(hn:y≠"__name__":=by decide)(hd:(y==("__debug__":Str))=false:=by decide)
 (hs1:starEach [e,.Name y p2] X.env=(false,eval e X.env)::starEach [.Name y p2] X.env:=by rfl) (hs2:starEach [.Name y p2] X.env=(false,eval (.Name y p2) X.env)::starEach [] X.env:=by rfl) (hpl:(backTo pos (starEach [.Name y p2] X.env)).any (·.1)=false:=by rfl):
 DP X c .s (.Call (.Name "isinstance" p) [e,.Name y p2] [] pos) (lY T f):=λhid ρ=>
 PE.imp (lJ (wg kt) hg hm hv (bF (he hid ρ) (bF (zF (v:=.ty T) hgT hmT hvT rfl hn hd) eB hs2) hs1) (by decide) (by decide) hs1 hpl) λσ H Q hq_=>by
  obtain⟨sr,d,hd,q⟩:=hq_
  unfold lY at hd;cases e1:f ρ with
  |none=>rw[e1] at hd;cases hd
  |some z=>
   rw[e1] at hd;cases hd;exact⟨sr,z,e1,λv H' s' r=>⟨v,z,rfl,(RK.b k r λa n=>sr.fresh n).full,q _ H' s' .bl⟩⟩
def iH:List D->Option (List Bool)
 | []=>some []
 | .bl b::r=>(iH r).map (b:: ·)
 |_=>none
theorem pM: ∀ {ds:List D} {bs:List Bool} {i:Nat} {d:D},iH ds=some bs->ds[i]? =some d-> ∃b,d=.bl b/\bs[i]? =some b
 | [],_,_,_,_,h=>by simp at h
 |x::r,bs,i,d,h,e=>by
  cases x with
  |bl b=>
   unfold iH at h;cases e1:iH r with
   |none=>rw[e1] at h;cases h
   |some rs=>
    rw[e1] at h;cases h;cases i with
    |zero=>simp at e;subst e;exact⟨b,rfl,rfl⟩
    |succ i=>
     obtain⟨b',h1,h2⟩:=pM (i:=i) e1 (by simpa using e)
     exact⟨b',h1,by simpa using h2⟩
  |_=>cases h
theorem o7: ∀ {ds:List D} {bs:List Bool},iH ds=some bs->ds.length=bs.length
 | [],_,h=>by cases h;rfl
 |x::r,bs,h=>by
  cases x with
  |bl b=>
   unfold iH at h;cases e1:iH r with
   |none=>rw[e1] at h;cases h
   |some rs=>rw[e1] at h;cases h;simp[o7 e1]
  |_=>cases h
theorem rM(bs:List Bool):(List.range bs.length).all (λi=>bs.getD i false)=bs.all id:=by
 induction bs with
 |nil=>rfl
 |cons b bs ih=>
  rw[List.length_cons,List.range_succ_eq_map,List.all_cons,List.all_map,List.all_cons];rw[show((λi=>(b::bs).getD i false)∘Nat.succ)=λi=>bs.getD i false by funext i;simp[List.getD],ih]
  rfl
theorem qO {ae:List (Addr×Obj)}{σ:St}{H:Hp}{s:Shared}{a:Addr}{xs:List V}{ds:List D}{bs:List Bool}(I:Inv X ae σ H s)(h1:SqL X.K H a xs)(h2:Reps X.K H xs ds)(hb:iH ds=some bs)(hc:X.calm=true){E:Value->Shared->Prop}{R:Value->Shared->Prop}
 (hR: ∀(J:Addr) (s2:Shared) (its:Array Value) (hl:its.size=bs.length),Walks X.prog X.w X.A.in1 J [J,a] [J] its.size (λi v=>its[i]? =some v) (λi h=>h.IsListIter J a i/\h.IsList a its)->s2.heap.IsListIter J a 0->s2.heap.IsList a its->TruthOf X.prog X.w X.A.in1 (λi v=>its[i]? =some v) (λi=>bs.getD i false)->
   (∀h' tk,(∀b o,b∉ [J]->s2.heap.get? b=some o->h'.get? b=some o)->Inv X ae σ H {s2 with heap:=h',toks:=tk})->R (.ref J) s2):wpAny (model X.prog X.w) X.A.in1 (pyIter (.ref a)) R E s:=by
 obtain⟨its,rv,pl,hz⟩:=I.list h1
 have l1:=rv.length
 have l2:=h2.length
 have l3:=o7 hb
 have hlt:a<s.heap.objs.size:=by obtain⟨o,n,e,_⟩:=pl;exact Heap.lt_size e
 refine wpAny_pyIter_list pl.isList (hR s.heap.objs.size _ its.toArray (by simp;omega) (Walks.list (A:=X.A.in1) (I.ok.hd hc) _ a (Nat.ne_of_lt hlt) its.toArray) ⟨_,Heap.get?_push_size _ rfl,rfl,rfl⟩ ?_ ?_ ?_)
 ·obtain⟨o,ho,q⟩:=pl.isList
  exact⟨o,Heap.get?_push_of_some _ ho,q⟩
 ·intro i v s' Q E hv hq
  have hv':its[i]? =some v:=by simpa using hv
  have hi:=(List.getElem?_eq_some_iff.mp hv').1
  have ex:xs[i]? =some xs[i]:=List.getElem?_eq_getElem (by omega)
  obtain⟨u,e1,r1⟩:=rv.get ex
  rw[hv'] at e1;cases e1;obtain⟨d,e2,r2⟩:=h2.get' ex
  obtain⟨b,rfl,e3⟩:=pM hb e2
  rcases hx:xs[i] with _|_|_|_|_|_|_|_<;>rw[hx] at r1 r2<;>cases r2
  cases r1
  have:bs.getD i false=b:=by simp[List.getD,e3]
  dsimp only at hq;rw[this] at hq;exact wpAny_truthy_bool hq
 ·intro h' tk hk
  refine I.kept λb o e=>hk b o (λhm=>?_) (Heap.get?_push_of_some _ e)
  have:b=s.heap.objs.size:=by simpa using hm
  exact absurd (this▸Heap.lt_size e) (Nat.lt_irrefl _)
theorem oY(hc:X.calm=true):eJ X (.builtin "all") (λxs H Q=> ∃a ys ds bs,xs=[.ref a]/\SqL X.K H a ys/\Reps X.K H ys ds/\iH ds=some bs/\Q (.bl (bs.all id)) H):=by
 intro ae s σ H xs us Q I r h;obtain⟨a,ys,ds,bs,rfl,h1,h2,h3,q⟩:=h
 obtain⟨u,rfl,rx⟩:=g9 r
 cases rx
 refine call_all_walk (qO I h1 h2 h3 hc λJ s2 its hl W st1 st2 tr kp=>?_)
 refine⟨J,_,_,_,_,_,_,rfl,W,⟨st1,st2⟩,tr,λh' tk hk=>⟨.bl _,H,kp h' tk hk,rfl,?_⟩⟩
 rw[hl,rM];exact q
def sx:List D->Option D
 | [.lst ds]=>(iH ds).map λbs=>.bl (bs.all id)
 |_=>none
theorem xo:iw X.K .s (λxs H Q=> ∃a ys ds bs,xs=[.ref a]/\SqL X.K H a ys/\Reps X.K H ys ds/\iH ds=some bs/\Q (.bl (bs.all id)) H) sx:=by
 intro H hid vs ds d Q hf h r q;unfold sx at h;split at h
 ·rename_i zs
  cases e1:iH zs with
  |none=>rw[e1] at h;cases h
  |some bs=>
   rw[e1] at h;cases h;obtain⟨x,rfl,r1⟩:=Reps1.one r
   obtain⟨a,xs,rfl,h1,h2⟩:=r1.lst
   exact⟨a,xs,zs,bs,rfl,h1,h2.mono (dG _ _),e1,q _ H (Same.refl _) .bl⟩
 ·cases h
def fL:List D->Option (List Int)
 | []=>some []
 | .int b::r=>(fL r).map (b:: ·)
 |_=>none
theorem lI: ∀ {ds:List D} {ns:List Int},fL ds=some ns->ds=ns.map D.int
 | [],_,h=>by cases h;rfl
 |x::r,bs,h=>by
  cases x with
  |int b=>
   unfold fL at h;cases e1:fL r with
   |none=>rw[e1] at h;cases h
   |some rs=>rw[e1] at h;cases h;simp[lI e1]
  |_=>cases h
theorem fz {K:W.Frag}{F:Hp}: ∀ {ns:List Int} {xs:List V},Reps K F xs (ns.map D.int)->xs=ns.map V.int
 | [],_,.nil=>rfl
 |n::ns,_,.cons r t=>by cases r;rw[fz t];rfl
def jH:List Int->Int
 | []=>0
 |a::r=>r.foldl (λm b=>if b<m then b else m) a
theorem pX(r:List Int): ∀a:Int,r.foldl (λm b=>if b<m then b else m) a∈a::r/\ ∀x∈a::r,r.foldl (λm b=>if b<m then b else m) a<=x:=by
 induction r with
 |nil=>intro a;simp
 |cons b r ih=>
  intro a;rw[List.foldl_cons];obtain⟨h1,h2⟩:=ih (if b<a then b else a)
  have h3:=h2 (if b<a then b else a) List.mem_cons_self
  refine⟨?_,λx hx=>?_⟩
  ·rcases List.mem_cons.mp h1 with e|e
   ·rw[e];split<;>simp
   ·exact List.mem_cons_of_mem _ (List.mem_cons_of_mem _ e)
  ·rcases List.mem_cons.mp hx with rfl|hx
   ·split at h3<;>split<;>omega
   ·rcases List.mem_cons.mp hx with rfl|hx
    ·split at h3<;>split<;>omega
    ·exact h2 x (List.mem_cons_of_mem _ hx)
theorem x9: ∀(ns:List Int),ns≠[]->jH ns∈ns/\ ∀a∈ns,jH ns<=a
 | [],h=>absurd rfl h
 |a::r,_=>pX r a
theorem vj {ns:List Int}{m:Int}(h1:m∈ns)(h2: ∀a∈ns,m<=a):m=jH ns:=by
 obtain⟨g1,g2⟩:=x9 ns (by intro e;subst e;simp at h1)
 have:=h2 _ g1
 have:=g2 _ h1
 omega
theorem uM(hc:X.calm=true):eJ X (.builtin "min") (λxs H Q=> ∃a ns,xs=[.ref a]/\SqL X.K H a (ns.map V.int)/\ns≠[]/\Q (.int (jH ns)) H):=by
 intro ae s σ H xs us Q I r h;obtain⟨a,ns,rfl,h1,h2,q⟩:=h
 obtain⟨u,rfl,rx⟩:=g9 r
 cases rx
 obtain⟨its,rv,pl,hz⟩:=I.list h1
 have hi:IntsAre its ns:=rP rv
 obtain⟨xs,e⟩:=hi.allInts.items
 have hns:ns=xs.toList.map (·.1):=by rw[<-hi.numsOf,<-nums_intItems,<-e]
 have hsz:0<xs.size:=by
  have:0<ns.length:=by cases ns with|nil=>exact absurd rfl h2|cons=>simp
  rw[hns,List.length_map,Array.length_toList] at this;exact this
 have hl:=pl.isList
 rw[e] at hl;refine min_intList (I.ok.hd hc) hl hsz λv h' tk hv hk=>?_
 obtain⟨t,rfl⟩:=intItems_at hv
 obtain⟨g1,g2⟩:=argBest_lt (numAt xs) (xs.size-1)
 have em:numAt xs (argBest (λi j=>decide (numAt xs i<numAt xs j)) (xs.size-1))=jH ns:=by
  refine vj ?_ λa ha=>?_
  ·rw[hns,numAt_eq];exact getD_mem (by rw[List.length_map,Array.length_toList];omega)
  ·rw[hns] at ha
   obtain⟨j,hj,rfl⟩:=mem_getD ha
   rw[List.length_map,Array.length_toList] at hj;rw[<-numAt_eq];exact g2 j (by omega)
 exact⟨.int (jH ns),H,I.kept hk,⟨t,by rw[<-em]⟩,q⟩
def mx:List D->Option D
 | [.lst ds]=>(fL ds).bind λns=>if ns.isEmpty then none else some (.int (jH ns))
 |_=>none
theorem zw:iw X.K .s (λxs H Q=> ∃a ns,xs=[.ref a]/\SqL X.K H a (ns.map V.int)/\ns≠[]/\Q (.int (jH ns)) H) mx:=by
 intro H hid vs ds d Q hf h r q;unfold mx at h;split at h
 ·rename_i zs
  cases e1:fL zs with
  |none=>rw[e1] at h;cases h
  |some ns=>
   rw[e1] at h;have h:(if ns.isEmpty then none else some (D.int (jH ns)))=some d:=h
   split at h
   ·cases h
   ·cases h
    obtain⟨x,rfl,r1⟩:=Reps1.one r
    obtain⟨a,xs,rfl,h1,h2⟩:=r1.lst
    rw[lI e1] at h2;rw[fz h2] at h1;exact⟨a,ns,rfl,h1,(by intro e;subst e;simp at*),q _ H (Same.refl _) .int⟩
 ·cases h
end
end L2
namespace PySem.SeqAt
open AutoSeq1 (wpAny_loadPart')
open MeetsSeq MeetsSeq2 MeetsSeq3 SeqRoads2
theorem kB {M:Model}{A:Around}{E:Value->Shared->Prop}{s:Shared}{β:Type}(f:Nat->β->Sem (ForInStep β))(I:List Nat->β->Shared->Prop)(Q:β->Shared->Prop)
 (turn: ∀x rest b s,I (x::rest) b s->wpAny M A (f x b) (λr s'=>match r with| .yield b'=>I rest b' s'| .done b'=>Q b' s') E s)
 (fin: ∀b s,I [] b s->Q b s) (a b:Nat) (c:β) (h:I (List.range' a (b-a)) c s):wpAny M A (forIn [a:b] c f) Q E s:=by
 rw[Std.Legacy.Range.forIn_eq_forIn_range'];have hsz:([a:b]:Std.Legacy.Range).size=b-a:=by simp[Std.Legacy.Range.size]
 show wpAny M A (forIn (List.range' a ([a:b]:Std.Legacy.Range).size 1) c f) Q E s;rw[hsz];exact wpAny_forIn_list f I Q turn fin _ c h
theorem tuple_indexAt(l:Addr)(items:Array Value)(n:Nat)(dd:Option Addr)(sl:Array (Option Value))(x:Value)(e:Value->Bool)(j:Nat)(hj:j<items.size)(hit:e items[j]=true)(hno: ∀m (hm:m<items.size),m<j->e items[m]=false):
 Meets (Builtin.«tuple.index» ⟨[.ref l,x],[]⟩)
  (λA R s=>s.heap.get? l=some {cls:=.type "tuple",dict:=dd,data:=.seq items n,slots:=sl}/\(∀y,y∈items->EqAt A.in1 s y x (e y))/\R (.ok (.ret (.int j s.toks))) {s with toks:=s.toks+1}):=
 .of_wp λprog w A R s h=>by
  obtain⟨hp,g,d,tk,os⟩:=s;obtain⟨hl,he,h⟩:=h
  wp_walk using wpAny_loadPart' hl,kB _ (λrest b s'=>b.1=none/\s'=⟨hp,g,d,tk,os⟩/\ ∃i,i<=j/\rest=List.range' i (items.size-i)) _
  case turn=>
   rintro y rest b s' ⟨hb,rfl,i,hij,hz⟩
   have lt:i<items.size:=by omega
   have er:List.range' i (items.size-i)=i::List.range' (i+1) (items.size- (i+1)):=by
    rw[show items.size-i=(items.size- (i+1))+1 by omega];rfl
   rw[er] at hz;injection hz with e1 e2
   subst e1 e2;rw[show items[y]? =some items[y] by simp[lt]]
   refine wpAny_bind (he _ (Array.getElem_mem lt) prog w _ _ ?_)
   by_cases ej:y=j
   ·subst ej
    rw[hit]
    wp_walk
    exact⟨_,rfl,h⟩
   ·rw[hno y lt (by omega)]
    wp_walk
    exact⟨rfl,rfl,y+1,by omega,rfl⟩
  case fin=>
   rintro⟨b1,b2⟩ s' ⟨hb,rfl,i,hij,hz⟩
   have:=congrArg List.length hz
   simp at this;omega
  case h=>
   exact⟨rfl,rfl,0,Nat.zero_le _,by simp⟩
end PySem.SeqAt
namespace L2
open PySem PySem.Spec PyProof.Rows
def pG(ds:List D)(x:D):Option Nat:=ds.findIdx? λd=>cP d x
theorem yK {X:Cx}{ae:List (Addr×Obj)}{σ:St}{H:Hp}{s:Shared}(I:Inv X ae σ H s){x:D}{v:V}{a:Value}{A:Around}(hx:Rep X.K H v x)(ra:RelV v a): ∀ {ds:List D} {xs:List V} {its:List Value},Reps X.K H xs ds->Vals xs its->A.units+cv ds<cLine->
 ∃e:Value->Bool,(∀y,y∈its->SeqAt.EqAt A s y a (e y))/\ ∀(j:Nat) (hj:j<its.length) (d:D),ds[j]? =some d->e its[j]=cP d x:=by
 intro ds xs its r rv hu
 classical
 let e:Value->Bool:=λy=>if h: ∃(d:D) (u:V),RelV u y/\Rep X.K H u d then cP h.choose x else false
 have key: ∀y u d,RelV u y->Rep X.K H u d->e y=cP d x:=λy u d h1 h2=>by
  have hex: ∃(d:D) (u:V),RelV u y/\Rep X.K H u d:=⟨d,u,h1,h2⟩
  show(if h: ∃(d:D) (u:V),RelV u y/\Rep X.K H u d then cP h.choose x else false)=cP d x
  rw[dif_pos hex];obtain⟨u',s1,s2⟩:=hex.choose_spec
  have eu:u'=u:=s1.inj h1
  rw[eu] at s2;exact Rep.eqv I s2 h2 x
 have l1:=rv.length
 have l2:=r.length
 have at': ∀(j:Nat) (hj:j<its.length),∃u d,ds[j]? =some d/\RelV u its[j]/\Rep X.K H u d:=λj hj=>by
  have ex:xs[j]? =some xs[j]:=List.getElem?_eq_getElem (by omega)
  obtain⟨w,e1,r1⟩:=rv.get ex
  obtain⟨d,e2,r2⟩:=r.get' ex
  have:its[j]=w:=by rw[List.getElem?_eq_getElem hj] at e1;exact Option.some.inj e1
  rw[this];exact⟨_,d,e2,r1,r2⟩
 refine⟨e,λy hy=>?_,λj hj d hd=>?_⟩
 ·obtain⟨j,hj,rfl⟩:=List.mem_iff_getElem.mp hy
  obtain⟨u,d,e1,r1,r2⟩:=at' j hj
  rw[key _ _ _ r1 r2];have:=je e1
  exact jZ I (dP d+1) (Nat.lt_succ_self _) (by omega) r1 ra r2 hx
 ·obtain⟨u,d',e1,r1,r2⟩:=at' j hj
  rw[hd] at e1;cases e1;exact key _ _ _ r1 r2
section
variable {X:Cx}{c:Ct}{e o:Expr}{k k2:Kd}{f g:FE}{pos p p2 apos:Pos}
theorem pU(hu:X.A.units+64<cLine):Fl X "tuple.index" (λv vs H Q=> ∃a xs ds x y j,v=.ref a/\vs=[x]/\SqT X.K H a xs/\Reps X.K H xs ds/\Rep X.K H x y/\cv ds<=32/\pG ds y=some j/\Q (.int j) H):=by
 intro ae s σ H v vs u us Q I rv rs h;obtain⟨a,xs,ds,x,y,j,rfl,rfl,h1,h2,h3,h4,h5,q⟩:=h
 cases rv
 obtain⟨w,rfl,rw'⟩:=g9 rs
 obtain⟨its,r,pl,hz⟩:=I.tuple h1
 have l1:=r.length
 have l2:=h2.length
 obtain⟨e,g1,g2⟩:=yK (A:=X.A.in1.in1) I h3 rw' h2 r (by rw[di,di];omega)
 unfold pG at h5;rw[List.findIdx?_eq_some_iff_getElem] at h5;obtain⟨hj,hp,hno⟩:=h5
 obtain⟨⟨cls,dd,data,sl⟩,ho,hc,n,hd⟩:=id pl
 simp only at hc hd;subst hc hd;have hj':j<its.length:=by omega
 have gt: ∀m (hm:m<its.length) (hm2:m<ds.length),e its[m]=cP ds[m] y:=λm hm hm2=>g2 m hm _ (List.getElem?_eq_getElem hm2)
 refine call_meets PySem.F.slot_tuple_index ⟨_,ho,rfl⟩ PySem.F.entry_tuple_index (PySem.F.args_tuple_index_2 _ _) (SeqAt.tuple_indexAt a its.toArray n dd sl w e j (by simpa using hj') ?_ ?_) ⟨ho,?_,?_⟩
 ·simp only[List.getElem_toArray];rw[gt j hj' hj];exact hp
 ·intro m hm hmj
  simp only[List.getElem_toArray];rw[gt m (by simpa using hm) (by omega)]
  have:=hno m hmj
  simpa using this
 ·intro z hz'
  exact SeqAt.EqAt.of_in1 (g1 z (by simpa using hz'))
 ·exact⟨.int j,H,I.tok _,⟨_,rfl⟩,q⟩
end
section
variable {X:Cx}{c:Ct}{e o:Expr}{k k2:Kd}{f g:FE}{pos p p2 apos:Pos}
def km:D->D->Option D:=λt x=>match t with
 | .tup ds=>if cv ds<=32 then(pG ds x).map λj=>.int j else none
 |_=>none
theorem ke(hu:X.A.units+64<cLine)(ho:DP X c k o f)(he:DP X c k2 e g)
 (hbase:attributeBase o "index" X.env (eval o X.env)=eval o X.env:=by rfl)
 (hfew:((backTo pos (starEach [e] X.env)).all (λx=> !x.1)&&(backToKw pos (keywordEach [] X.env)).all (λx=>x.1.isSome)
   &&decide (([e]:List Expr).length+([]:List Keyword).length+(if([]:List Keyword).isEmpty then 0 else 1)<30))=true:=by rfl)
 (hline:(apos.endLine==pos.line)=true:=by rfl) (hs:starEach [e] X.env=(false,eval e X.env)::starEach [] X.env:=by rfl) (hplain:(backTo pos (starEach [] X.env)).any (·.1)=false:=by rfl):
 DP X c .s (.Call (.Attribute o "index" apos) [e] [] pos) (al km f g):=λhid ρ=>
 PE.imp (tO PySem.F.plainAttrs_tuple PySem.F.slot_tuple_index PySem.F.type_tuple_index (pU hu) (ho hid ρ) (bF (he hid ρ) eB hs) hbase hfew hline hs hplain) λσ H Q hq_=>by
  obtain⟨sr,d,hd,q⟩:=hq_
  obtain⟨x,y,e1,e2,e3⟩:=pS hd
  unfold km at e3;split at e3
  ·split at e3
   ·rename_i ds _
    cases e4:pG ds y with
    |none=>rw[e4] at e3;cases e3
    |some j=>
     rw[e4] at e3;cases e3;refine⟨sr,_,e1,λv H1 s1 r1=>?_⟩
     have b1:=RK.b k r1 λa n=>sr.fresh n
     obtain⟨a,xs,rfl,t1,t2,t3⟩:=b1.tup
     refine⟨.inr (.inl ⟨rfl,xs,t2⟩),sr.ext s1,y,e2,λu H2 s2 r2=>?_⟩
     have b2:=RK.b k2 r2 λa n=>(sr.ext s1).fresh n
     exact⟨a,xs,ds,u,y,j,rfl,rfl,Same.seqT s2 t2,(t3.mono (aH s2)).mono (dG _ _),b2.full, ‹_›,e4,q _ H2 (s1.trans s2) .int⟩
   ·cases e3
  ·cases e3
theorem uP:eJ X (.type "range") (λxs H Q=> ∃j:Int,xs=[.int j]/\ ∀p,H p=none->Q (.ref p) (bz H p (.rng 0 j))):=by
 intro ae s σ H xs us Q I r h;obtain⟨j,rfl,q⟩:=h
 obtain⟨u,rfl,t,rfl⟩:=g9 r
 refine call_range_1 ⟨.ref s.heap.objs.size,_,I.laid (λb o e=>Heap.get?_push_of_some _ e) (Nat.le_refl _) ?_,rfl,q _ (I.hok.fresh (Nat.le_refl _))⟩
 exact⟨_,_,_,Heap.get?_push_size _ rfl⟩
theorem C0(lo:Int)(n:Nat): ∀ {K:W.Frag} {F:Hp},Reps K F ((List.range n).map λ(i:Nat)=>V.int (lo+i)) (uZ lo n):=by
 intro K F;unfold uZ
 generalize List.range n=l
 induction l with
 |nil=>exact .nil
 |cons a l ih=>exact .cons .int ih
theorem lX(hc:X.calm=true):eJ X (.type "list") (λxs H Q=> ∃p lo hi,xs=[.ref p]/\H p=some (.rng lo hi)/\ -(2^30)<=lo/\lo<=2^30/\ -(2^30)<=hi/\hi-lo<=1000000/\hi<=2^31/\ ∀l,H l=none->Q (.ref l) (bz H l (.lst ((List.range (hi-lo).toNat).map λ(i:Nat)=>V.int (lo+i))))):=by
 intro ae s σ H xs us Q I r h;obtain⟨p,lo,hi,rfl,hp,b1,b2,b3,b4,b5,q⟩:=h
 obtain⟨u,rfl,rx⟩:=g9 r
 cases rx
 obtain⟨t,u,v,hr⟩:=I.hok p _ hp
 have hsz:Builtin.Range.rangeSize lo hi 1=(hi-lo).toNat:=by
  unfold Builtin.Range.rangeSize;rw[if_pos (by decide)]
  split
  ·rw[Int.ediv_one];omega
  ·omega
 refine call_list_range (a:=lo) (b:=hi) (c:=1) (n:=(hi-lo).toNat) (I.ok.hd hc) hr ?_ hsz (by omega) λh' tk acc' c' kp hS hacc=>?_
 ·exact small_one (by omega) (by omega) (by omega) (by omega)
 ·have hz:(hi-lo).toNat<=sizeLine:=by rw[sizeLine_eq];omega
  refine⟨.ref s.heap.objs.size,_,I.laid (t':=tk) kp (Nat.le_refl _) (show ObjOk X.prog X.w _ h' _ (.lst _) from⟨by simpa using hz,acc'.toList,c',?_,by simpa using hS⟩),rfl,q _ (I.hok.fresh (Nat.le_refl _))⟩
  obtain⟨ha,hb⟩:=hacc
  have key: ∀(l:List Value) (k m:Nat),l.length=m->(∀(j:Nat) v,l[j]? =some v-> ∃t,v=.int (lo+((k+j:Nat):Int)*1) t)->Vals ((List.range' k m).map λ(i:Nat)=>V.int (lo+i)) l:=by
   intro l
   induction l with
   |nil=>intro k m hm _;subst hm;exact .nil
   |cons x l ih=>
    intro k m hm hv;subst hm;rw[List.length_cons,List.range'_succ];refine .cons ?_ (ih (k+1) l.length rfl λj v e=>?_)
    ·obtain⟨t,rfl⟩:=hv 0 x rfl
     exact⟨t,by simp⟩
    ·obtain⟨t,rfl⟩:=hv (j+1) v (by simpa using e)
     exact⟨t,by congr 3;omega⟩
  have:=key acc'.toList 0 (hi-lo).toNat (by simpa using ha) λj v e=>by
   have:=hb j v (by simpa using e)
   simpa using this
  rw[List.range_eq_range'];exact this
def zC:D->Option D
 | .int j=>if j.natAbs<=1000000 then some (.lst (uZ 0 j.toNat)) else none
 |_=>none
def xK(f:FE):FE:=λρ=>(f ρ).bind zC
theorem fo(hc:X.calm=true)(hml:X.mg "list"=none)(hmr:X.mg "range"=none)(he:DP X c k e f)(hgl:Gl X "list":=by rfl)(hgr:Gl X "range":=by rfl)(hvl:bootBuiltins "list"=some (.type "list"):=by kernel_rfl)(hvr:bootBuiltins "range"=some (.type "range"):=by kernel_rfl)
 (hs1:starEach [e] X.env=(false,eval e X.env)::starEach [] X.env:=by rfl) (hpl1:(backTo pos (starEach [] X.env)).any (·.1)=false:=by rfl) (hpl2:(backTo p2 (starEach [] X.env)).any (·.1)=false:=by rfl) {p3:Pos}
 (hs2:starEach [.Call (.Name "range" p3) [e] [] p2] X.env=(false,eval (.Call (.Name "range" p3) [e] [] p2) X.env)::starEach [] X.env:=by rfl):
 DP X c .n (.Call (.Name "list" p) [.Call (.Name "range" p3) [e] [] p2] [] pos) (xK f):=λhid ρ=>
 PE.imp (jD (lX hc) hgl hml hvl (bF (jD uP hgr hmr hvr (bF (he hid ρ) eB hs1) (by decide) (by decide) hs1 hpl2) eB hs2) (by decide) (by decide) hs2 hpl1) λσ H Q hq_=>by
  obtain⟨sr,d,hd,q⟩:=hq_
  unfold xK at hd;cases e1:f ρ with
  |none=>rw[e1] at hd;cases hd
  |some z=>
   rw[e1] at hd;have hd:zC z=some d:=hd
   unfold zC at hd;split at hd
   ·split at hd
    ·rename_i _ j _ _
     cases hd
     refine⟨sr,_,e1,λv H1 s1 r1=>?_⟩
     have b1:=(RK.b k r1 λa n=>sr.fresh n).int
     cases b1
     refine⟨j,rfl,λr hr=>?_⟩
     refine⟨r,0,j,rfl,aL,by omega,by omega,by omega,by omega,by omega,λl hl=>?_⟩
     have s2:Same H (bz H1 r (.rng 0 j)):=s1.trans (bh hr _)
     refine q _ _ (s2.trans (bh hl _)) ?_
     have:=nC (hid:=hid) (K:=X.K) hl s2 (C0 0 (j-0).toNat)
     rw[show(j-0).toNat=j.toNat by omega] at this⊢
     exact this
    ·cases hd
   ·cases hd
def aZ:=i2 (λ_ _=>true) λi j=>.int (i+j)
def cD:=i2 (λ_ _=>true) λi j=>.int (i-j)
def b9:=i2 (λi j=>decide (i.natAbs<2^1000)&&decide (j.natAbs<2^1000)) λi j=>.int (i*j)
def bp:=i2 (λ_ j=>decide (0<j)) λi j=>.int (i % j)
def gB:=i2 (λ_ j=>decide (0<j)&&decide (j.natAbs<2^1000)) λi j=>.int (i / j)
def dz:=i2 (λi j=>decide (0<=j)&&decide (j<=1000000)&&decide (i.natAbs<2^64)) λi j=>.int (i^j.toNat)
def j7:=i2 (λ_ _=>true) λi j=>.bl (decide (i<j))
def BS:=i2 (λ_ _=>true) λi j=>.bl (decide (i<=j))
def Cq:=i2 (λ_ _=>true) λi j=>.bl (decide (j<i))
def Ee:=i2 (λ_ _=>true) λi j=>.bl (decide (j<=i))
theorem tR {i:Int}(h:i.natAbs<2^1000):Builtin.Int.intBits i<=2^20:=by
 unfold Builtin.Int.intBits;split
 ·exact Nat.zero_le _
 ·rename_i hz
  have h0:i.natAbs≠0:=by simp at hz;omega
  have:=(Nat.log2_lt h0).mpr h
  omega
theorem za:jn X (binaryOp .Mult) (rI IntMulOk λi j=>.int (i*j)):=D8 λ_ _ _ _ _ _ _ hc q=>mul_int q hc
variable {a b:Expr}
theorem bD {k1 k2:Kd}(ha:DP X c k1 a f)(hb:DP X c k2 b g):DP X c .s (.BinOp a .Add b pos) (al aZ f g):=kh vy xJ ha hb
theorem db {k1 k2:Kd}(ha:DP X c k1 a f)(hb:DP X c k2 b g):DP X c .s (.BinOp a .Sub b pos) (al cD f g):=kh AU xJ ha hb
theorem BJ {K:W.Frag}:lV K .s (rI IntMulOk λi j=>.int (i*j)) b9:=y9 λi j h=>by
 simp only[Bool.and_eq_true,decide_eq_true_eq] at h;exact IntMulOk.of_bits (tR h.1) (tR h.2)
theorem fy {k1 k2:Kd}(ha:DP X c k1 a f)(hb:DP X c k2 b g):DP X c .s (.BinOp a .Mult b pos) (al b9 f g):=kh za BJ ha hb
theorem Bf {K:W.Frag}:lV K .s (rI (λ_ j=>0<j) λi j=>.int (i % j)) bp:=y9 λi j h=>by simpa using h
theorem dS {k1 k2:Kd}(ha:DP X c k1 a f)(hb:DP X c k2 b g):DP X c .s (.BinOp a .Mod b pos) (al bp f g):=kh A8 Bf ha hb
theorem wV:jn X (binaryOp .FloorDiv) (rI (λ_ j=>0<j/\j.natAbs<2^1000) λi j=>.int (i / j)):=D8 λi j _ _ _ _ _ hc q=>by
 obtain⟨h1,h2⟩:=hc
 refine floordiv_int (by omega) (by rw[Int.fdiv_eq_ediv_of_nonneg i (by omega)];exact q) (.inl (PyProof.noPylong_of_log2 ?_))
 have:=(Nat.log2_lt (n:=j.natAbs) (by omega)).mpr h2
 omega
theorem yq {K:W.Frag}:lV K .s (rI (λ_ j=>0<j/\j.natAbs<2^1000) λi j=>.int (i / j)) gB:=y9 λi j h=>by
 simp only[Bool.and_eq_true,decide_eq_true_eq] at h;exact⟨h.1,h.2⟩
theorem m7 {k1 k2:Kd}(ha:DP X c k1 a f)(hb:DP X c k2 b g):DP X c .s (.BinOp a .FloorDiv b pos) (al gB f g):=kh wV yq ha hb
theorem AS {K:W.Frag}:lV K .s (rI DL λi j=>.int (i^j.toNat)) dz:=y9 λi j h=>by
 simp only[Bool.and_eq_true,decide_eq_true_eq] at h;exact⟨h.1.1,h.1.2,h.2⟩
theorem jv {k1 k2:Kd}(ha:DP X c k1 a f)(hb:DP X c k2 b g):DP X c .s (.BinOp a .Pow b pos) (al dz f g):=kh Bq AS ha hb
theorem A6 {f g:GE}(ha:DE X c .s a f)(hb:DE X c .s b g):DE X c .s (.BinOp a .Add b pos) (jl aZ f g):=Cv vy xJ ha hb
def AI:D->Option D
 | .int i=>some (.int (-i))
 |_=>none
def cQ(f:FE):FE:=λρ=>(f ρ).bind AI
theorem dE(ha:DP X c k a f):DP X c .s (.UnaryOp .USub a pos) (cQ f):=λhid ρ=>PE.imp (Dm BO (ha hid ρ)) λσ H Q hq_=>by
 obtain⟨sr,d,hd,q⟩:=hq_
 unfold cQ at hd;cases e1:f ρ with
 |none=>rw[e1] at hd;cases hd
 |some z=>
  rw[e1] at hd;have hd:AI z=some d:=hd
  unfold AI at hd;split at hd
  ·cases hd
   refine⟨sr,_,e1,λv H1 s1 r1=>?_⟩
   cases (RK.b k r1 λa n=>sr.fresh n).int
   exact⟨_,rfl,q _ H1 s1 .int⟩
  ·cases hd
def iW:List D->Option D
 | [.int i]=>some (.int i)
 | [.bl b]=>some (.int (if b then 1 else 0))
 |_=>none
theorem kQ:iw X.K .s (λxs H Q=>(∃i,xs=[.int i]/\Q (.int i) H)\/ ∃k,xs=[.bl k]/\Q (.int (if k then 1 else 0)) H) iW:=by
 intro H hid vs ds d Q hf h r q;unfold iW at h;split at h
 ·cases h
  obtain⟨x,rfl,r1⟩:=Reps1.one r
  cases r1.int
  exact .inl ⟨_,rfl,q _ H (Same.refl _) .int⟩
 ·cases h
  obtain⟨x,rfl,r1⟩:=Reps1.one r
  cases r1.bl
  exact .inr ⟨_,rfl,q _ H (Same.refl _) .int⟩
 ·cases h
end
structure Cl(P:Program)(w:World)(K:W.Frag)(mg:Str->Option Value)(base:Heap)(k:Nat)(x:Str)(ps:List Str)(sp:Sp):Prop where
 ex: ∃f fd,FnOk P w K mg base oQ k f fd ps sp/\mg x=some (.ref f)/\W.keepIn K (.ref f)=true/\Binds K fd ps []
structure Df(K:W.Frag)(mg:Str->Option Value)(x:Str)(st:Stmt)(ps:List Str):Prop where
 ex: ∃f fd,Fun K x x st f fd/\mg x=some (.ref f)/\Binds K fd ps []
section
variable {P:Program}{w:World}{K:W.Frag}{mg:Str->Option Value}{base:Heap}{x:Str}{st:Stmt}{N ps:List Str}{k n:Nat}{t:FS}{kd:Kd}
theorem aU(F:Df K mg x st ps)(S:FnScope N ps (av st))(hkd:kd≠ .b)(hn:ps.length=n)
 (body: ∀(f:Addr) (cdv:Value) (A:Around) (outer:List Env) (s:Shared) (H:Hp) (hid:bu) (E:XK),Room k (A.deeper (envOfC x (av st) s.heap.objs.size f cdv))->
   qJ (md oQ P w K mg base N x (av st) f cdv A outer s H E).nox ⟨H,hid,λ_=>false⟩ kd (cM st) t):
 Cl P w K mg base (k+1) x ps (cH K kd n (fu kd N.length t)):=by
 obtain⟨f,fd,F,hm,hb⟩:=F.ex
 subst hn;exact⟨f,fd,ub F S hkd (body f),hm,F.kp,hb⟩
theorem rW(F:Df K mg x st ps)(S:FnScope N ps (av st))(hkd:kd≠ .b)(hn:ps.length=n+1)
 (body: ∀(f:Addr) (cdv:Value) (A:Around) (outer:List Env) (s:Shared) (H:Hp) (hid:bu) (a:Addr) (E:XK),Room k (A.deeper (envOfC x (av st) s.heap.objs.size f cdv))->
   qJ (md oQ P w K mg base N x (av st) f cdv A outer s H E).nox ⟨H,hid,λb=>decide (b=a)⟩ kd (cM st) t):
 Cl P w K mg base (k+1) x ps (uw K kd n (vc kd N.length t)):=by
 obtain⟨f,fd,F,hm,hb⟩:=F.ex
 exact⟨f,fd,Cd F S hkd hn (body f),hm,F.kp,hb⟩
end
section
variable {X:Cx}{c:Ct}{e a b:Expr}{es rest:List Expr}{k:Kd}{pos p:Pos}{x:Str}{ps:List Str}{j n:Nat}
def nF(n:Nat)(P:List D->Option D):List D->Option D:=λds=>if ds.length=n then P ds else none
theorem be {P:List D->Option D}{fs:FA}(C:Cl X.prog X.w X.K X.mg X.base j x ps (cH X.K k n P))(hr:Room j X.A)
 (ha:DA X c (e::es) fs) (hg:Gl X x:=by rfl) (hdb:(x==("__debug__":Str))=false:=by decide) (he:starEach (e::es) X.env=(false,eval e X.env)::starEach es X.env:=by rfl) (hpl:(backTo pos (starEach es X.env)).any (·.1)=false:=by rfl):
 DP X c k (.Call (.Name x p) (e::es) [] pos) (aj (nF n P) fs):=by
 obtain⟨f,fd,F,hm,hk,hb⟩:=C.ex
 exact zf F hr hm hk hb ha hg hdb he hpl
theorem kX(i:Nat){y:Str}{py:Pos}{M:List D->List D->Option (D×List D)}{fs:GA}(C:Cl X.prog X.w X.K X.mg X.base j x ps (uw X.K k n M))(hr:Room j X.A)
 (ha:DG X c es fs) (hkb:k≠ .b:=by decide) (hN:X.N[i]? =some y:=by rfl) (hv:oN X.env.scope y:=by first|exact Or.inl rfl|exact Or.inr (Or.inl rfl)|exact Or.inr (Or.inr rfl)) (hd:(y==("__debug__":Str))=false:=by decide)
 (hcd:(y==("__classdict__":Str))=false:=by decide) (hs:starEach (.Name y py::es) X.env=(false,eval (.Name y py) X.env)::starEach es X.env:=by rfl) (hg:Gl X x:=by rfl) (hdb:(x==("__debug__":Str))=false:=by decide) (hpl:(backTo pos (starEach es X.env)).any (·.1)=false:=by rfl):
 DE X c k (.Call (.Name x p) (.Name y py::es) [] pos) (aO i n M fs):=by
 obtain⟨f,fd,F,hm,hk,hb⟩:=C.ex
 exact wy i F hr hm hk hb ha hkb hN hv hd hcd hs hg hdb hpl
end
open PySem PySem.W PyProof.Rows
structure Od(b:Nat->Nat->Bool):Prop where
 tr: ∀ {i j k:Nat},b j i=false->b k j=false->b k i=false
 as: ∀ {i j:Nat},b i j=true->b j i=false
theorem Od.rf {b:Nat->Nat->Bool}(O:Od b)(i:Nat):b i i=false:=by
 cases h:b i i with
 |false=>rfl
 |true=>have:=O.as h;rw[h] at this;exact this
structure Pm(N:Nat)(p:Array Nat):Prop where
 perm:p.Perm (List.toArray (List.range N))
theorem Pm.size {N:Nat}{p:Array Nat}(h:Pm N p):p.size=N:=by rw[h.perm.size_eq];simp
theorem Pm.lt {N:Nat}{p:Array Nat}(h:Pm N p)(hN:0<N)(k:Nat):p.getD k 0<N:=by
 by_cases hk:k<p.size
 ·have e:p.getD k 0=p[k]:=by simp[Array.getD,hk]
  rw[e];have:p[k]∈(List.toArray (List.range N)):=h.perm.mem_iff.mp (Array.getElem_mem hk)
  simpa using this
 ·have e:p.getD k 0=0:=by simp[Array.getD,hk]
  rw[e];exact hN
theorem pF {p q:Array Nat}{i j:Nat}(h:p[i]? =q[j]?):p.getD i 0=q.getD j 0:=by
 rw[Array.getD_eq_getD_getElem?,Array.getD_eq_getD_getElem?,h]
section
variable {b:Nat->Nat->Bool}{N:Nat}{cmp:Nat->Nat->(Bool->Shared->Prop)->Shared->Prop}{s:Shared}
def Srt(b:Nat->Nat->Bool)(p:Array Nat)(n:Nat):Prop:= ∀i j,i<=j->j<n->b (p.getD j 0) (p.getD i 0)=false
def Fal(b:Nat->Nat->Bool)(p:Array Nat)(n:Nat):Prop:= ∀i j,i<=j->j<n->b (p.getD i 0) (p.getD j 0)=false
theorem Srt.succ(O:Od b){p:Array Nat}{n:Nat}(h:Srt b p n)(hn:1<=n)(e:b (p.getD n 0) (p.getD (n-1) 0)=false):Srt b p (n+1):=λi j hij hj=>by
 by_cases h1:j<n
 ·exact h i j hij h1
 ·have:j=n:=by omega
  subst this
  by_cases h2:i=j
  ·subst h2;exact O.rf _
  ·exact O.tr (h i (j-1) (by omega) (by omega)) e
theorem Fal.succ(O:Od b){p:Array Nat}{n:Nat}(h:Fal b p n)(hn:1<=n)(e:b (p.getD (n-1) 0) (p.getD n 0)=false):Fal b p (n+1):=λi j hij hj=>by
 by_cases h1:j<n
 ·exact h i j hij h1
 ·have:j=n:=by omega
  subst this
  by_cases h2:i=j
  ·subst h2;exact O.rf _
  ·exact O.tr e (h i (j-1) (by omega) (by omega))
theorem Fal.congr(O:Od b){p q:Array Nat}{n:Nat}(h:Fal b p n)(e: ∀k,k<n->b (p.getD k 0) (q.getD k 0)=false/\b (q.getD k 0) (p.getD k 0)=false):Fal b q n:=λi j hij hj=>
 O.tr (O.tr (e j hj).1 (h i j hij hj)) (e i (by omega)).2
theorem yL(O:Od b)(p:Array Nat):Srt b p 1:=λi j hij hj=>by
 have:i=j:=by omega
 subst this;exact O.rf _
theorem yw(O:Od b)(p:Array Nat):Fal b p 1:=λi j hij hj=>by
 have:i=j:=by omega
 subst this;exact O.rf _
theorem jr {p:Array Nat}{i j:Nat}(hj:j<=p.size)(k:Nat):(kas_rev p i j).getD k 0=if i<=k/\k<j then p.getD (i+j-1-k) 0 else p.getD k 0:=by
 have:=getElem?_mirror_all (i:=i) hj k
 unfold kas_rev;split
 ·rename_i h;rw[if_pos h] at this;exact pF this
 ·rename_i h;rw[if_neg h] at this;exact pF this
theorem Pm.rev {p:Array Nat}(h:Pm N p)(i j:Nat):Pm N (kas_rev p i j):=⟨(mirror_perm _ _ _ _).trans h.perm⟩
variable(O:Od b)(hN:0<N)(hc: ∀(i j:Nat) (C:Bool->Shared->Prop),i<N->j<N->C (b i j) s->cmp i j C s)
include O hN hc
theorem q5 {p:Array Nat}(P:Pm N p){Q:Nat->Shared->Prop}: ∀(f n:Nat),1<=n->n+f<=N->Srt b p n->
 (∀m,n<=m->m<=n+f->Srt b p m->(m<n+f->b (p.getD m 0) (p.getD (m-1) 0)=true)->Q m s)->(kas_asc p f n).kasWp cmp Q s
 |0,n,h1,h2,hs,q=>q n (Nat.le_refl _) (Nat.le_refl _) hs λz=>absurd z (Nat.lt_irrefl _)
 |f+1,n,h1,h2,hs,q=>by
  unfold kas_asc;refine hc _ _ _ (P.lt hN _) (P.lt hN _) ?_
  cases e:b (p.getD n 0) (p.getD (n-1) 0) with
  |true=>simp only[if_true];exact q n (Nat.le_refl _) (by omega) hs λ_=>e
  |false=>
   simp only[Bool.false_eq_true,if_false];exact q5 P f (n+1) (by omega) (by omega) (hs.succ O h1 e) λm a1 a2 a3 a4=>q m (by omega) (by omega) a3 λz=>a4 (by omega)
def Eqs(b:Nat->Nat->Bool)(p:Array Nat)(n q:Nat):Prop:= ∀i,n- (q+1)<=i->i<n->b (p.getD i 0) (p.getD (n-1) 0)=false/\b (p.getD (n-1) 0) (p.getD i 0)=false
omit hN hc in
theorem Eqs.rev {p:Array Nat}{n q:Nat}(hn:n<=p.size)(hq:q<n)(h:Eqs b p n q)(k:Nat):b (p.getD k 0) ((kas_rev p (n- (q+1)) n).getD k 0)=false/\b ((kas_rev p (n- (q+1)) n).getD k 0) (p.getD k 0)=false:=by
 rw[jr hn];split
 ·rename_i hk
  have h1:=h k hk.1 hk.2
  have h2:=h (n- (q+1)+n-1-k) (by omega) (by omega)
  exact⟨O.tr h2.2 h1.1,O.tr h1.2 h2.1⟩
 ·exact⟨O.rf _,O.rf _⟩
theorem kL {Q:Array Nat×Nat×Nat->Shared->Prop}: ∀(f:Nat) (p:Array Nat) (n q:Nat),Pm N p->1<=n->n+f<=N->q<n->Fal b p n->Eqs b p n q->
 (∀p' n' q',Pm N p'->n<=n'->n'<=n+f->q'<n'->Fal b p' n'->Eqs b p' n' q'->Q (p',n',q') s)->(kas_desc f p n q).kasWp cmp Q s
 |0,p,n,q,P,h1,h2,hq,hf,he,k=>k p n q P (Nat.le_refl _) (Nat.le_refl _) hq hf he
 |f+1,p,n,q,P,h1,h2,hq,hf,he,k=>by
  have hz:=P.size
  have e0: ∀p':Array Nat,Eqs b p' (n+1) 0:=λp' i a1 a2=>by
   have:i=n:=by omega
   subst this;exact⟨O.rf _,O.rf _⟩
  unfold kas_desc;refine hc _ _ _ (P.lt hN _) (P.lt hN _) ?_
  cases e:b (p.getD n 0) (p.getD (n-1) 0) with
  |true=>
   simp only[if_true];split
   ·rename_i hq0
    have ev:=he.rev O (by omega) hq
    have hf':Fal b (kas_rev p (n- (q+1)) n) n:=hf.congr O λk _=>ev k
    refine kL f _ (n+1) 0 (P.rev _ _) (by omega) (by omega) (by omega) (hf'.succ O h1 ?_) (e0 _) λp' n' q' a1 a2 a3=>k p' n' q' a1 (by omega) (by omega)
    have e1:(kas_rev p (n- (q+1)) n).getD n 0=p.getD n 0:=by rw[jr (by omega),if_neg (by omega)]
    rw[e1];exact O.tr (O.as e) (ev (n-1)).2
   ·exact kL f p (n+1) 0 P (by omega) (by omega) (by omega) (hf.succ O h1 (O.as e)) (e0 _) λp' n' q' a1 a2 a3=>k p' n' q' a1 (by omega) (by omega)
  |false=>
   simp only[Bool.false_eq_true,if_false];refine hc _ _ _ (P.lt hN _) (P.lt hN _) ?_
   cases e2:b (p.getD (n-1) 0) (p.getD n 0) with
   |true=>simp only[if_true];exact k p n q P (Nat.le_refl _) (by omega) hq hf he
   |false=>
    simp only[Bool.false_eq_true,if_false];refine kL f p (n+1) (q+1) P (by omega) (by omega) (by omega) (hf.succ O h1 e2) (λi a1 a2=>?_) λp' n' q' b1 b2 b3=>k p' n' q' b1 (by omega) (by omega)
    rw[show n+1-1=n by omega]
    by_cases hi:i=n
    ·subst hi;exact⟨O.rf _,O.rf _⟩
    ·have z:=he i (by omega) (by omega)
     exact⟨O.tr e2 z.1,O.tr z.2 e⟩
theorem qm {p:Array Nat}(P:Pm N p){n:Nat}(h1:1<=n)(hn:n<=N)(hf:Fal b p n){Q:Nat×Array Nat->Shared->Prop}(q: ∀m p',Pm N p'->1<=m->m<=N->Srt b p' m->Q (m,p') s):(kas_tail3 n N p).kasWp cmp Q s:=by
 unfold kas_tail3;rw[KasT.kasWp_bind];have hz:=P.size
 have hs:Srt b (kas_rev p 0 n) n:=λi j hij hj=>by
  rw[jr (by omega),jr (by omega),if_pos (by omega),if_pos (by omega)]
  exact hf _ _ (by omega) (by omega)
 exact q5 O hN hc (P.rev _ _) (N-n) n h1 (by omega) hs λm a1 a2 a3 _=>q m _ (P.rev _ _) (by omega) (by omega) a3
theorem ko {p:Array Nat}(P:Pm N p){n:Nat}(h1:1<=n)(hn:n+1<=N)(hf:Fal b p (n+1)){Q:Nat×Array Nat->Shared->Prop}(q: ∀m p',Pm N p'->1<=m->m<=N->Srt b p' m->Q (m,p') s):(kas_descPart n N p).kasWp cmp Q s:=by
 unfold kas_descPart;rw[KasT.kasWp_bind];refine kL O hN hc (N- (n+1)) p (n+1) 0 P (by omega) (by omega) (by omega) hf (λi a1 a2=>?_) λp' n' q' a1 a2 a3 a4 a5 a6=>?_
 ·have:i=n:=by omega
  subst this;exact⟨O.rf _,O.rf _⟩
 ·dsimp only
  have hz:=a1.size
  split
  ·exact qm O hN hc (a1.rev _ _) (by omega) (by omega) (a5.congr O λk _=>a6.rev O (by omega) a4 k) q
  ·exact qm O hN hc a1 (by omega) (by omega) a5 q
theorem xM {p:Array Nat}(P:Pm N p){Q:Nat×Array Nat->Shared->Prop}(q: ∀m p',Pm N p'->1<=m->m<=N->Srt b p' m->Q (m,p') s):(kas_count N p).kasWp cmp Q s:=by
 unfold kas_count;rw[KasT.kasWp_bind];have hz:=P.size
 refine q5 O hN hc P (N-1) 1 (Nat.le_refl _) (by omega) (yL O p) λm a1 a2 a3 a4=>?_
 split
 ·exact q m p P a1 (by omega) a3
 ·rename_i hm
  have hm':m≠N:=by simpa using hm
  have lt:=a4 (by omega)
  split
  ·refine hc _ _ _ (P.lt hN _) (P.lt hN _) ?_
   cases e:b (p.getD 0 0) (p.getD (m-1) 0) with
   |true=>simp only[if_true];exact q m p P a1 (by omega) a3
   |false=>
    simp only[Bool.false_eq_true,if_false];have eq: ∀i j,i<m->j<m->b (p.getD i 0) (p.getD j 0)=false:=λi j hi hj=>O.tr (O.tr (a3 j (m-1) (by omega) (by omega)) e) (a3 0 i (by omega) hi)
    have hr: ∀i,i<m->(kas_rev p 0 m).getD i 0=p.getD (0+m-1-i) 0:=λi hi=>by rw[jr (by omega),if_pos (by omega)]
    refine ko O hN hc (P.rev _ _) a1 (by omega) (Fal.succ O (λi j hij hj=>?_) a1 ?_) q
    ·rw[hr i (by omega),hr j hj];exact eq _ _ (by omega) (by omega)
    ·have e1:(kas_rev p 0 m).getD m 0=p.getD m 0:=by rw[jr (by omega),if_neg (by omega)]
     rw[e1,hr (m-1) (by omega)]
     exact O.tr (O.as lt) (eq _ _ (by omega) (by omega))
  ·have:m=1:=by omega
   subst this;exact ko O hN hc P (Nat.le_refl _) (by omega) ((yw O p).succ O (Nat.le_refl _) (O.as lt)) q
theorem kM {p:Array Nat}(P:Pm N p){k:Nat}(hs:Srt b p k){Q:Nat->Shared->Prop}: ∀(f l r:Nat),l<=r->r<=k->r-l<=f->(∀i,i<l->b (p.getD k 0) (p.getD i 0)=false)->(∀i,r<=i->i<k->b (p.getD k 0) (p.getD i 0)=true)->
 (∀m,m<=k->(∀i,i<m->b (p.getD k 0) (p.getD i 0)=false)->(∀i,m<=i->i<k->b (p.getD k 0) (p.getD i 0)=true)->Q m s)->(kas_place p k f l r).kasWp cmp Q s
 |0,l,r,h1,h2,h3,a,c,q=>q l (by omega) a λi z=>c i (by omega)
 |f+1,l,r,h1,h2,h3,a,c,q=>by
  unfold kas_place;split
  ·exact q l (by omega) a λi z=>c i (by omega)
  ·rename_i hlr
   refine hc _ _ _ (P.lt hN _) (P.lt hN _) ?_
   cases e:b (p.getD k 0) (p.getD ((l+r) / 2) 0) with
   |true=>
    simp only[if_true];refine kM P hs f l _ (by omega) (by omega) (by omega) a (λi z1 z2=>?_) q
    cases e2:b (p.getD k 0) (p.getD i 0) with
    |true=>rfl
    |false=>
     have:=O.tr (hs ((l+r) / 2) i z1 z2) e2
     rw[e] at this;exact this.symm
   |false=>
    simp only[Bool.false_eq_true,if_false];exact kM P hs f _ r (by omega) (by omega) (by omega) (λi z=>O.tr (hs i ((l+r) / 2) (by omega) (by omega)) e) c q
omit hN hc in
theorem rB {p:Array Nat}{k m:Nat}(hk:k<p.size)(hs:Srt b p k)(hm:m<=k)(a: ∀i,i<m->b (p.getD k 0) (p.getD i 0)=false)(c: ∀i,m<=i->i<k->b (p.getD k 0) (p.getD i 0)=true):Srt b (bubble p k (k-m)) (k+1):=by
 have g: ∀j,(bubble p k (k-m)).getD j 0=if j=m then p.getD k 0 else if m<j/\j<=k then p.getD (j-1) 0 else p.getD j 0:=λj=>by
  have:=getElem?_bubble hk (k-m) (by omega) j
  rw[show k- (k-m)=m by omega] at this
  by_cases h:j=m
  ·rw[if_pos h] at this⊢;exact pF this
  ·rw[if_neg h] at this⊢
   by_cases h2:m<j/\j<=k
   ·rw[if_pos h2] at this⊢;exact pF this
   ·rw[if_neg h2] at this⊢;exact pF this
 intro i j hij hj;rw[g,g]
 by_cases ej:j=m
 ·rw[if_pos ej]
  by_cases ei:i=m
  ·rw[if_pos ei];exact O.rf _
  ·rw[if_neg ei,if_neg (by omega)];exact a i (by omega)
 ·rw[if_neg ej]
  by_cases ei:i=m
  ·rw[if_pos ei,if_pos (by omega)];exact O.as (c _ (by omega) (by omega))
  ·rw[if_neg ei]
   by_cases hj2:m<j/\j<=k
   ·rw[if_pos hj2]
    by_cases hi2:m<i/\i<=k
    ·rw[if_pos hi2];exact hs _ _ (by omega) (by omega)
    ·rw[if_neg hi2];exact hs _ _ (by omega) (by omega)
   ·rw[if_neg hj2,if_neg (by omega)];exact hs _ _ hij (by omega)
theorem xj {Q:Array Nat->Shared->Prop}: ∀(f:Nat) (p:Array Nat) (k:Nat),Pm N p->1<=k->k+f=N->Srt b p k->(∀p',Pm N p'->Srt b p' N->Q p' s)->(kas_bin f p k).kasWp cmp Q s
 |0,p,k,P,h1,h2,hs,q=>q p P (by rw[<-h2];exact hs)
 |f+1,p,k,P,h1,h2,hs,q=>by
  unfold kas_bin;rw[KasT.kasWp_bind];have hz:=P.size
  refine kM O hN hc P hs k 0 k (Nat.zero_le _) (Nat.le_refl _) (by omega) (λi z=>absurd z (by omega)) (λi z1 z2=>absurd z2 (by omega)) λm a1 a2 a3=>?_
  exact xj f _ (k+1) ⟨(bubble_perm _ _ _).trans P.perm⟩ (by omega) (by omega) (rB O (by omega) hs a1 a2 a3) q
theorem yJ {Q:Array Nat->Shared->Prop}(q: ∀p,Pm N p->Srt b p N->Q p s):(kas_sort N).kasWp cmp Q s:=by
 unfold kas_sort;rw[KasT.kasWp_bind];refine xM O hN hc ⟨Array.Perm.refl _⟩ λm p' P h1 h2 hs=>?_
 dsimp only;split
 ·exact xj O hN hc _ p' _ P (by omega) (by omega) (by rw[show max m 1=m by omega];exact hs) q
 ·have:m=N:=by omega
  subst this;exact q p' P hs
end
open PySem PySem.W PySem.Calls PyProof.Rows
section
variable {prog:Program}{w:World}{A:Around}{E:Value->Shared->Prop}{s:Shared}
theorem rJ {a:Addr}{us:List Value}{n:Nat}{P:PySem.Fin->Shared->Prop}(ho:s.heap.get? a=some (seqObj "list" us.toArray n))(hz:us.length<64)
 (few:us.length<2->P (.done (.ret .none)) {s with heap:=sortedHeap s.heap a us us.toArray})
 (many:2<=us.length-> ∀g:Heap,(∀c o,c≠a->s.heap.get? c=some o->g.get? c=some o)->wpAny (model prog w) A (keyKind' us.toArray) (λκ t=>t={s with heap:=g}/\
   (kas_sort us.length).kasWp (kas_ask prog w A κ us) (λp t'=>t'=t/\P (.done (.ret .none)) {s with heap:=sortedHeap s.heap a us (List.toArray (p.toList.map λi=>us.getD i Value.none))}) t) (λ_ _=>False) {s with heap:=g}):
 wpAny (model prog w) A (Builtin.«list.sort» ⟨[.ref a],[]⟩) P E s:=by
 have la:a<s.heap.objs.size:=Heap.lt_size ho
 have z1:us.toArray.size<=sizeLine:=by rw[List.size_toArray,sizeLine_eq];omega
 obtain⟨c1,h1⟩: ∃c,(s.heap.update a (Obj.mapSeq λ_=> #[])).get? a=some (seqObj "list" #[] c):=⟨_,get?_update_seq ho (λ_=> #[])⟩
 have h2:(((s.heap.update a (Obj.mapSeq λ_=> #[])).push (seqObj "tuple" us.toArray 0)).push (seqObj "list" #[] 0)).get? a=some (seqObj "list" #[] c1):=Heap.get?_push_of_some _ (Heap.get?_push_of_some _ h1)
 have kp: ∀c o,c≠a->s.heap.get? c=some o->(((s.heap.update a (Obj.mapSeq λ_=> #[])).push (seqObj "tuple" us.toArray 0)).push (seqObj "list" #[] 0)).get? c=some o:=λc o nc e=>
  Heap.get?_push_of_some _ (Heap.get?_push_of_some _ (by rw[Heap.get?_update_ne _ _ _ _ nc];exact e))
 rw[list_sort_plain];refine wpAny_bind (listItems_at ho rfl (wpAny_bind (listUpdate_at ho rfl ?_ z1 (Nat.zero_le _))))
 refine wpAny_bind (seqEpoch_at h1 rfl (wpAny_bind (wpAny_newTuple ?_ (show us.length<=_ by rw[sizeLine_eq];omega))))
 refine wpAny_bind (wpAny_newList (wpAny_holding ?_) (Nat.zero_le _))
 show wpAny (model prog w) A _ P E {s with heap:=((s.heap.update a (Obj.mapSeq λ_=> #[])).push (seqObj "tuple" us.toArray 0)).push (seqObj "list" #[] 0)}
 dsimp only
 by_cases hs:us.toArray.size<2
 ·rw[if_pos hs,if_pos hs]
  refine wpAny_bind (wpAny_pure ?_)
  rw[StateT.run_pure];refine wpAny_bind (wpAny_pure ?_)
  dsimp only;have ea:Array.map (λx=>x.2) (us.toArray.zip us.toArray)=us.toArray:=by
   apply Array.toList_inj.mp
   simp[List.map_snd_zip]
  refine wpAny_bind (seqEpoch_at h2 rfl (wpAny_bind (listUpdate_at h2 rfl ?_ (Nat.zero_le _) ?_)))
  ·simp only[bne_self_eq_false,Bool.false_eq_true,if_false]
   refine wpAny_pure ?_
   have:=few (by simpa using hs)
   show P _ {s with heap:=sortedHeap s.heap a us (Array.map (λx=>x.2) (us.toArray.zip us.toArray))}
   rw[ea];exact this
  ·show(Array.map (λx=>x.2) (us.toArray.zip us.toArray)).size<=_
   rw[ea];exact Nat.le_succ_of_le z1
 ·rw[if_neg hs,if_neg hs]
  have h2':2<=us.length:=by simpa using hs
  refine wpAny_bind (wpAny_mono (many h2' _ kp) (λκ t ⟨et,ht⟩=>?_) λ_ _ x=>x.elim)
  subst et;refine wpAny_bind (wpAny_mono (kat_run (ks:=us) (vs:=us) (G:=λp t'=>t'=_/\P (.done (.ret .none)) {s with heap:=sortedHeap s.heap a us (List.toArray (p.toList.map λi=>us.getD i Value.none))})
   (Q:=λst t'=>t'=_/\failedOf st=none/\ ∃p:Array Nat,p.size=us.length/\(arrOf st).map (·.2)=List.toArray (p.toList.map λi=>us.getD i Value.none)/\P (.done (.ret .none)) {s with heap:=sortedHeap s.heap a us (List.toArray (p.toList.map λi=>us.getD i Value.none))})
   rfl h2' hz (λp st t' a1 a2 a3 a4=>⟨a4.1,a3,p,a1,kat_snds rfl a2,a4.2⟩) ht) (λr t' hr=>?_) λ_ _ x=>x)
  obtain⟨u,st⟩:=r
  obtain⟨e1,hf,p,hp,ho',hP⟩:=hr
  subst e1;dsimp only at hf ho'⊢;rw[ho',hf];have zz:(List.toArray (p.toList.map λi=>us.getD i Value.none)).size<=sizeLine:=by rw[List.size_toArray,List.length_map,Array.length_toList,hp,sizeLine_eq];omega
  refine wpAny_bind (seqEpoch_at h2 rfl (wpAny_bind (listUpdate_at h2 rfl ?_ (Nat.zero_le _) (Nat.le_succ_of_le zz))))
  simp only[bne_self_eq_false,Bool.false_eq_true,if_false];exact wpAny_pure hP
end
open PySem PySem.W PySem.Spec PyProof.Rows
def jj(x y:Int):Bool:=decide (x<y)
structure Lt {α:Type}(lt:α->α->Bool):Prop where
 tr: ∀ {a b c:α},lt b a=false->lt c b=false->lt c a=false
 as: ∀ {a b:α},lt a b=true->lt b a=false
 eq: ∀ {a b:α},lt a b=false->lt b a=false->a=b
theorem BV:Lt jj:=⟨λh1 h2=>by simp only[jj,decide_eq_false_iff_not] at*;omega,λh=>by simp only[jj,decide_eq_false_iff_not,decide_eq_true_eq] at*;omega,λh1 h2=>by simp only[jj,decide_eq_false_iff_not] at*;omega⟩
def rD {α:Type}(lt:α->α->Bool)(x:α):List α->List α
 | []=>[x]
 |y::r=>if lt x y=true then x::y::r else y::rD lt x r
def bN {α:Type}(lt:α->α->Bool):List α->List α
 | []=>[]
 |x::r=>rD lt x (bN lt r)
section
variable {α:Type}{lt:α->α->Bool}
theorem jF(x:α): ∀l:List α,(rD lt x l).Perm (x::l)
 | []=>.refl _
 |y::r=>by
  unfold rD;split
  ·exact .refl _
  ·exact((jF x r).cons y).trans (.swap _ _ _)
theorem bM: ∀l:List α,(bN lt l).Perm l
 | []=>.refl _
 |x::r=>(jF x _).trans ((bM r).cons x)
theorem tW(O:Lt lt)(x:α): ∀ {l:List α},l.Pairwise (λa b=>lt b a=false)->(rD lt x l).Pairwise (λa b=>lt b a=false)
 | [],_=>by simp[rD]
 |y::r,h=>by
  obtain⟨h1,h2⟩:=List.pairwise_cons.mp h
  unfold rD;split
  ·rename_i e
   refine List.pairwise_cons.mpr ⟨λz hz=>?_,h⟩
   rcases List.mem_cons.mp hz with rfl|hz
   ·exact O.as e
   ·exact O.tr (O.as e) (h1 z hz)
  ·rename_i e
   refine List.pairwise_cons.mpr ⟨λz hz=>?_,tW O x h2⟩
   rcases List.mem_cons.mp ((jF x r).mem_iff.mp hz) with rfl|hz
   ·simpa using e
   ·exact h1 z hz
theorem jy(O:Lt lt): ∀l:List α,(bN lt l).Pairwise (λa b=>lt b a=false)
 | []=>.nil
 |x::r=>tW O x (jy O r)
theorem vp(O:Lt lt){l l':List α}(p:l'.Perm l)(s:l'.Pairwise (λa b=>lt b a=false)):l'=bN lt l:=
 List.Perm.eq_of_pairwise (λa b _ _ h1 h2=>O.eq h2 h1) s (jy O l) (p.trans (bM l).symm)
theorem lu(ts:List α)(d:α):(List.range ts.length).map (λi=>ts.getD i d)=ts:=List.ext_getElem? λi=>by
 by_cases hi:i<ts.length
 ·simp[hi]
 ·simp[hi]
theorem pg(O:Lt lt){ts:List α}{d:α}{p:Array Nat}(P:Pm ts.length p)(S:Srt (λi j=>lt (ts.getD i d) (ts.getD j d)) p ts.length):p.toList.map (λi=>ts.getD i d)=bN lt ts:=by
 refine vp O ?_ ?_
 ·have h1:p.toList.Perm (List.range ts.length):=by simpa using (Array.perm_iff_toList_perm.mp P.perm)
  have h2:=h1.map (λi=>ts.getD i d)
  rw[lu] at h2;exact h2
 ·rw[List.pairwise_map,List.pairwise_iff_getElem]
  intro i j hi hj hij;have hz:=P.size
  have e:=S i j (by omega) (by simpa [hz] using hj)
  have g: ∀k (hk:k<p.toList.length),p.getD k 0=p.toList[k]:=λk hk=>by
   have:k<p.size:=by simpa using hk
   simp[Array.getD,this]
  rw[g i hi,g j hj] at e;exact e
theorem DC(O:Lt lt)(f:Nat->α):Od (λi j=>lt (f i) (f j)):=⟨λh1 h2=>O.tr h1 h2,λh=>O.as h⟩
end
theorem om {α:Type}{lt:α->α->Bool}{l:List α}(h:l.length<2):bN lt l=l:=by
 match l,h with
 | [],_=>rfl
 | [_],_=>rfl
def wG:List Value->List Int->Prop:=Paired λu i=> ∃t,u=Value.int i t
section
variable {X:Cx}{c:Ct}{e a b:Expr}{es rest:List Expr}{f g:GE}{fs:GA}{k:Kd}{pos p:Pos}{x:Str}{id T:String}{r:List V->Hp->VK->Prop}{F:List D->Option D}{ps:List Str}{j n:Nat}
theorem CW {r:R2}{F:D->D->Option D}(hr:IxR X r)(hF:lV X.K k r F)(ha:DE X c .s a f)(hb:DE X c .s b g)(hs:kE b)(hk:k≠ .b:=by decide):DE X c k (.Subscript a b pos) (jl F f g):=λhid ρ=>
 PE.imp (Az hr (ha hid ρ) (jQ λρ1=>hb hid ρ1) hs) λσ H Q h=>Da hF hk h
end
section
variable {prog:Program}{w:World}{A:Around}{R:Result->Shared->Prop}{s:Shared}{elt t1 t2 i1 i2:Expr}{ifs1 ifs2:List Expr}{scope:Scope}{pos:Pos}{it acc:Value}{env:Env}
theorem zQ:compTurn (.ListComp elt [⟨t1,i1,ifs1,0⟩,⟨t2,i2,ifs2,0⟩] scope pos) 1 it acc env=(do
 standAt i2.pos
 match <-pyNext it with
 |none=>pure (.done .next)
 |some v=>
  letOwnedTupleGo t2 it v
  assign t2 env v
  let ok <-i4 ifs2 env
  if ok=true then do(do let _ <-call (.builtin "list.append") [acc,<-eval elt env]);again (.compLoop (.ListComp elt [⟨t1,i1,ifs1,0⟩,⟨t2,i2,ifs2,0⟩] scope pos) 1 it acc env)
  else again (.compLoop (.ListComp elt [⟨t1,i1,ifs1,0⟩,⟨t2,i2,ifs2,0⟩] scope pos) 1 it acc env)):=by rfl
theorem wN:compTurn (.ListComp elt [⟨t1,i1,ifs1,0⟩,⟨t2,i2,ifs2,0⟩] scope pos) 0 it acc env=(do
 standAt i1.pos
 match <-pyNext it with
 |none=>pure (.done .next)
 |some v=>
  letOwnedTupleGo t1 it v
  assign t1 env v
  let ok <-i4 ifs1 env
  if ok=true then do
   let x <-eval i2 env
   standAt i2.pos
   let x <-foldedSetIterable i2 env x
   let _ <-runOwn (.compStart (.ListComp elt [⟨t1,i1,ifs1,0⟩,⟨t2,i2,ifs2,0⟩] scope pos) 1 (<-holding [x] (pyIter x)) acc env) env
   again (.compLoop (.ListComp elt [⟨t1,i1,ifs1,0⟩,⟨t2,i2,ifs2,0⟩] scope pos) 0 it acc env)
  else again (.compLoop (.ListComp elt [⟨t1,i1,ifs1,0⟩,⟨t2,i2,ifs2,0⟩] scope pos) 0 it acc env)):=by rfl
abbrev xi:=(Shared->Prop)->Shared->Prop
def sY(prog:Program)(w:World)(A:Around)(elt:Expr)(acc:Value)(env:Env):xi:=λQ s=>
 wpAny (model prog w) A (eval elt env) (λx s₄=>wpAny (model prog w) A (call (.builtin "list.append") [acc,x]) (λ_ s₅=>Q s₅) (λ_ _=>False) s₄) (λ_ _=>False) s
def og(prog:Program)(w:World)(A:Around)(e iter:Expr)(acc:Value)(env:Env):xi:=λQ s=>
 wpAny (model prog w) A (eval iter env) (λx s₄=>wpAny (model prog w) A (pyIter x) (λit s₅=>codeAny (model prog w) A (.compStart e 1 it acc env) (λr s'=>match r with
  | .ok _=>Q s'
  | .error _=>False) s₅) (λ_ _=>False) s₄) (λ_ _=>False) s
def wl(prog:Program)(w:World)(A:Around)(code:Code)(tg:Expr)(ifs:List Expr)(it:Value)(env:Env)(TA:xi)(R:Result->Shared->Prop):Prop:= ∀(I:Nat->Shared->Prop),
 (∀n s,I n s->wpAny (model prog w) A (pyNext it) (λr s₁=>match r with
   |none=>R (.ok .next) s₁
   |some v=>wpAny (model prog w) A (letOwnedTupleGo tg it v) (λ_ s₁=>wpAny (model prog w) A (assign tg env v) (λ_ s₂=>
     wpAny (model prog w) A (i4 ifs env) (λok s₃=>
      if ok=true then TA (λs₅=> ∃m,m<n/\I m s₅) s₃
      else∃m,m<n/\I m s₃) (λ_ _=>False) s₂) (λ_ _=>False) s₁) (λ_ _=>False) s₁) (λ_ _=>False) s)->
 ∀(n:Nat) (s:Shared),I n s->codeAny (model prog w) A code R s
theorem xQ:wl prog w A (.compLoop (.ListComp elt [⟨t1,i1,ifs1,0⟩,⟨t2,i2,ifs2,0⟩] scope pos) 1 it acc env) t2 ifs2 it env (sY prog w A elt acc env) R:=by
 intro I turn n s h;have no: ∀ {E':Value->Shared->Prop} (x:Value) (s:Shared),False->E' x s:=λ_ _ z=>z.elim
 refine codeAny_loop rfl I (λn s hI=>?_) n h
 show wpAny _ A ((compTurn (.ListComp elt [⟨t1,i1,ifs1,0⟩,⟨t2,i2,ifs2,0⟩] scope pos) 1 it acc env).onRaise (λx=>do noteFrame x env;theTreesLotGoes x)) _ _ s
 refine wpAny_noted ?_
 rw[zQ];refine wpAny_bind (wpAny_standAt (wpAny_bind (wpAny_mono (turn n s hI) (λr s₁ h₁=>?_) no)))
 cases r with
 |none=>exact wpAny_pure h₁
 |some v=>
  refine wpAny_bind (wpAny_mono h₁ (λ_ s₁ h₁=>wpAny_bind (wpAny_mono h₁ (λ_ s₂ h₂=>wpAny_bind (wpAny_mono h₂ (λok s₃ h₃=>?_) no)) no)) no)
  cases ok with
  |false=>exact wpAny_pure ⟨rfl,h₃⟩
  |true=>exact wpAny_bind (wpAny_bind (wpAny_mono h₃ (λx s₄ h₄=>wpAny_bind (wpAny_mono h₄ (λ_ s₅ h₅=>wpAny_pure (wpAny_pure ⟨rfl,h₅⟩)) no)) no))
theorem uD(hset: ∀x,foldedSetIterable i2 env x=pure x):wl prog w A (.compLoop (.ListComp elt [⟨t1,i1,ifs1,0⟩,⟨t2,i2,ifs2,0⟩] scope pos) 0 it acc env) t1 ifs1 it env (og prog w A (.ListComp elt [⟨t1,i1,ifs1,0⟩,⟨t2,i2,ifs2,0⟩] scope pos) i2 acc env) R:=by
 intro I turn n s h;have no: ∀ {E':Value->Shared->Prop} (x:Value) (s:Shared),False->E' x s:=λ_ _ z=>z.elim
 refine codeAny_loop rfl I (λn s hI=>?_) n h
 show wpAny _ A ((compTurn (.ListComp elt [⟨t1,i1,ifs1,0⟩,⟨t2,i2,ifs2,0⟩] scope pos) 0 it acc env).onRaise (λx=>do noteFrame x env;theTreesLotGoes x)) _ _ s
 refine wpAny_noted ?_
 rw[wN];refine wpAny_bind (wpAny_standAt (wpAny_bind (wpAny_mono (turn n s hI) (λr s₁ h₁=>?_) no)))
 cases r with
 |none=>exact wpAny_pure h₁
 |some v=>
  refine wpAny_bind (wpAny_mono h₁ (λ_ s₁ h₁=>wpAny_bind (wpAny_mono h₁ (λ_ s₂ h₂=>wpAny_bind (wpAny_mono h₂ (λok s₃ h₃=>?_) no)) no)) no)
  cases ok with
  |false=>exact wpAny_pure ⟨rfl,h₃⟩
  |true=>
   refine wpAny_bind (wpAny_mono h₃ (λx s₄ h₄=>wpAny_bind (wpAny_standAt (wpAny_bind (wpAny_of_eq (hset x) (wpAny_bind (wpAny_holding (wpAny_mono h₄ (λit2 s₅ h₅=>?_) no))))))) no)
   refine wpAny_bind (wpAny_runOwn (codeAny_mono h₅ λr s' hr=>?_))
   cases r with
   |ok f=>exact wpAny_pure ⟨rfl,hr⟩
   |error e=>exact hr.elim
end
def lM(g:FG)(p:FT)(A:FA)(ρ0:aC):List D->Option (List D)
 | []=>some []
 |d::r=>(g d ρ0).bind λρ1=>(p ρ1).bind λb=>if b=true then(A ρ1).bind λys=>(lM g p A ρ0 r).map (ys++ ·) else lM g p A ρ0 r
def EA(n:Nat)(ρ:aC):Prop:= ∀(i:Nat) (s:Sl),n<=i->ρ[i]? =some s->s=.no
def wu(Y:Cx)(c:Ct)(hid:bu)(D0:Addr)(L W:Hp)(A:FA)(TA:xi)(ρ1:aC):Prop:= ∀(ae:List (Addr×Obj)) (s:Shared) (σ:St) (H:Hp) (xs:List V) (ad zs:List D) (Q:Shared->Prop),Inv Y ae σ H s->SR Y.K c hid ρ1 σ H->
 H D0=some (.lst xs)->Reps Y.K (vw H hid) xs ad->xs.length+zs.length<=sizeLine->Same L H->Same W (vw H hid)->(∀i:Nat,Ow ρ1[i]? ->σ[i]? ≠some (some (.ref D0)))->A ρ1=some zs->
 (∀(s':Shared) (σ':St) (H':Hp) (xs':List V),Inv Y ae σ' H' s'->SR Y.K c hid ρ1 σ' H'->H' D0=some (.lst xs')->Reps Y.K (vw H' hid) xs' (ad++zs)->Same L H'->Same (vw H hid) (vw H' hid)->(∀i:Nat,Ow ρ1[i]? ->σ'[i]? ≠some (some (.ref D0)))->Q s')->TA Q s
section
variable {Y:Cx}{c:Ct}{tg:Expr}{ifs:List Expr}{g:FG}{p:FT}{A:FA}{TA:xi}{code:Code}
structure CLG(Y:Cx)(ae:List (Addr×Obj))(c:Ct)(hid:bu)(ρ0:aC)(L W H3:Hp)(D0:Addr)(fp:List Addr)(tn:Nat->Heap->Prop)(g:FG)(p:FT)(A:FA)(ds ys ad0:List D)(n i:Nat)(xs:List V)(ad:List D)(σ':St)(H':Hp)(s':Shared):Prop where
 e:n=ds.length-i
 hi:i<=ds.length
 I:Inv Y ae σ' H' s'
 st:tn i s'.heap
 fr: ∀b∈fp,H' b=none
 sr:SR Y.K c hid ρ0 σ' H'
 sm:Same L H'
 ac:H' D0=some (.lst xs)
 rp:Reps Y.K (vw H' hid) xs ad
 w:Same W (vw H' hid)
 v:Same (vw H3 hid) (vw H' hid)
 na: ∀i:Nat,Ow ρ0[i]? ->σ'[i]? ≠some (some (.ref D0))
 go: ∃rest,lM g p A ρ0 (ds.drop i)=some rest/\ad++rest=ad0++ys
theorem oV(hcalm:Y.calm=true)(hxe:Y.xe=λ_ _=>False){n0:Nat}(hT:gm n0 g)(hg:oI Y c tg g)(hp:oO Y c ifs p)
 {ae:List (Addr×Obj)} {σ3:St} {H3 L W:Hp} {s4:Shared} {hid:bu} {ρ0:aC} {J:It} {it D0:Addr} {fp:List Addr} {tn:Nat->Heap->Prop} {ds ys ad0:List D} {xs0:List V} {R:Result->Shared->Prop}
 (hA: ∀d ρ1,g d ρ0=some ρ1->wu Y c hid D0 L W A TA ρ1)
 (hN:EA n0 ρ0) (I:Inv Y ae σ3 H3 s4) (sr:SR Y.K c hid ρ0 σ3 H3) (hh:hid D0=true) (na: ∀i:Nat,Ow ρ0[i]? ->σ3[i]? ≠some (some (.ref D0))) (hacc:H3 D0=some (.lst xs0)) (rp0:Reps Y.K (vw H3 hid) xs0 ad0) (sm:Same L H3) (wv:Same W (vw H3 hid)) (T:Turn Y.prog Y.w Y.K tg J fp it tn) (st:tn 0 s4.heap) (hF: ∀b∈fp,gG Y ae H3 b)
 (io:Co Y.K L W J ds) (hz:ad0.length+ys.length<=sizeLine) (hc:lM g p A ρ0 ds=some ys)
 (hTP:wl Y.prog Y.w Y.A code tg ifs (.ref it) Y.env TA R)
 (hR: ∀(s':Shared) (σ':St) (H':Hp) (xs:List V),Inv Y ae σ' H' s'->SR Y.K c hid ρ0 σ' H'->Same L H'->H' D0=some (.lst xs)->Reps Y.K (vw H' hid) xs (ad0++ys)->Same (vw H3 hid) (vw H' hid)->(∀i:Nat,Ow ρ0[i]? ->σ'[i]? ≠some (some (.ref D0)))->R (.ok .next) s'):
 codeAny (model Y.prog Y.w) Y.A code R s4:=by
 have stat: ∀ {H':Hp},(∀b∈fp,H' b=none)-> ∀b∈fp,gG Y ae H' b:=λ{H'} hn b hb=>⟨hn b hb,(hF b hb).2⟩
 refine hTP (λn s'=> ∃(i:Nat) (xs:List V) (ad:List D) (σ':St) (H':Hp),CLG Y ae c hid ρ0 L W H3 D0 fp tn g p A ds ys ad0 n i xs ad σ' H' s') ?_ ds.length s4
  ⟨0,xs0,ad0,σ3,H3,by simp,Nat.zero_le _,I,st,λb hb=>(hF b hb).1,sr,sm,hacc,rp0,wv,Same.refl _,na,ys,by simpa using hc,rfl⟩
 rintro n s5 ⟨i,xs,ad,σ5,H5,rfl,hi,I5,st5,f5,sr5,sm5,ac5,rp5,w5,v5,na5,rest,hc5,hy5⟩
 have wH:Same W H5:=w5.trans (dG _ _)
 by_cases hlt:i<ds.length
 ·have hd:ds[i]? =some ds[i]:=List.getElem?_eq_getElem hlt
  have e2:ds.drop i=ds[i]::ds.drop (i+1):=List.drop_eq_getElem_cons hlt
  rw[e2] at hc5;unfold lM at hc5;obtain⟨go,yl⟩:=io.1 i ds[i] H5 hd sm5 wH
  refine bV (T.item Y rfl rfl rfl hcalm i ae s5 σ5 H5 (λ_ _=>False) I5 (stat f5) st5 go) λr s6 hq_=>?_
  obtain⟨u,hr,h6⟩:=hq_
  subst hr;refine bV h6 λ_ s7 hq_=>?_
  obtain⟨x,H7,I7,r7,y7,st7,f7⟩:=hq_
  obtain⟨s7',rp⟩:=yl x H7 y7
  have rx:=rp hid sr5.tr w5
  have I7':=I7.pinned (stat f7) (T.obj _ _ st7)
  cases e3:g ds[i] ρ0 with
  |none=>rw[e3] at hc5;cases hc5
  |some ρ1=>
   rw[e3] at hc5;have hc5:(p ρ1).bind (λb=>if b=true then(A ρ1).bind λys=>(lM g p A ρ0 (ds.drop (i+1))).map (ys++ ·) else lM g p A ρ0 (ds.drop (i+1)))=some rest:=hc5
   obtain⟨tl1,tl2⟩:=hT _ _ _ e3
   have fg: ∀ {σ':St} {H':Hp},SR Y.K c hid ρ1 σ' H'->SR Y.K c hid ρ0 σ' H':=λ{σ' H'} z=>z.forget tl1 λj s e=>by
    by_cases hj:j<n0
    ·exact .inr ((tl2 j hj).trans e)
    ·exact .inl (hN j s (by omega) e)
   have ow01: ∀j:Nat,Ow ρ0[j]? ->Ow ρ1[j]? :=λj o=>by
    by_cases hj:j<n0
    ·rw[tl2 j hj];exact o
    ·exfalso
     cases e:ρ0[j]? with
     |none=>rw[e] at o;exact o
     |some s=>have:=hN j s (by omega) e;subst this;rw[e] at o;exact o
   have keepT: ∀ {σ':St} {H':Hp} {s':Shared},Inv Y (ae++jG fp s7.heap) σ' H' s'->tn (i+1) s'.heap/\ ∀b∈fp,H' b=none:=λ{σ' H' s'} J'=>by
    refine⟨T.keep _ _ _ st7 λb hb o e=>(J'.pin (b,o) (List.mem_append_right _ (List.mem_append_right _ (dJ hb e)))).1,λb hb=>?_⟩
    obtain⟨o,e,_⟩:=T.obj _ _ st7 b hb
    exact(J'.pin (b,o) (List.mem_append_right _ (List.mem_append_right _ (dJ hb e)))).2.1
   refine bV (hxe▸hg hid ρ0 ds[i] _ s7 σ5 H7 x u (λσ' H'=>H'=H7/\SR Y.K c hid ρ1 σ' H7/\OwK ρ0 ρ1 σ5 σ') I7' r7 ⟨sr5.ext s7',rx,ρ1,e3,λσ' z o=>⟨rfl,z,o⟩⟩) λ_ s8 hq_=>?_
   obtain⟨σ8,H8,I8,e8,q8,o8⟩:=hq_
   subst e8;have na1: ∀j:Nat,Ow ρ1[j]? ->σ8[j]? ≠some (some (.ref D0)):=λj o=>by
    rw[(o8 j o).2];exact na5 j (o8 j o).1
   cases e4:p ρ1 with
   |none=>rw[e4] at hc5;cases hc5
   |some b=>
    rw[e4] at hc5;have hc5:(if b=true then(A ρ1).bind λys=>(lM g p A ρ0 (ds.drop (i+1))).map (ys++ ·) else lM g p A ρ0 (ds.drop (i+1)))=some rest:=hc5
    refine bV (hxe▸hp hid ρ1 _ s8 σ8 H8 (λb' H'=>b'=b/\Same H8 H') I8 ⟨q8,b,e4,λH' s'=>⟨rfl,s'⟩⟩) λok s9 hq_=>?_
    obtain⟨H9,I9,e9,sm9⟩:=hq_
    subst e9;have w9:Same (vw H5 hid) (vw H9 hid):=aH (s7'.trans sm9)
    cases ok with
    |false=>
     have hc5:lM g p A ρ0 (ds.drop (i+1))=some rest:=hc5
     obtain⟨k1,k2⟩:=keepT I9
     exact⟨ds.length- (i+1),by omega,i+1,xs,ad,σ8,H9,rfl,hlt,I9.unpinned,k1,k2,fg (q8.ext sm9),sm5.trans (s7'.trans sm9),sm9 _ _ (s7' _ _ ac5),rp5.mono w9,w5.trans w9,v5.trans w9,λj o=>na1 j (ow01 j o),rest,hc5,hy5⟩
    |true=>
     have hc5:((A ρ1).bind λys=>(lM g p A ρ0 (ds.drop (i+1))).map (ys++ ·))=some rest:=hc5
     cases e5:A ρ1 with
     |none=>rw[e5] at hc5;cases hc5
     |some zs=>
      rw[e5] at hc5;have hc5:(lM g p A ρ0 (ds.drop (i+1))).map (zs++ ·)=some rest:=hc5
      cases e6:lM g p A ρ0 (ds.drop (i+1)) with
      |none=>rw[e6] at hc5;cases hc5
      |some rest'=>
       rw[e6] at hc5;cases hc5
       have l1:=rp5.length
       have l2:=congrArg List.length hy5
       simp only[List.length_append] at l2;refine hA ds[i] ρ1 e3 _ s9 σ8 H9 xs ad zs _ I9 (q8.ext sm9) (sm9 _ _ (s7' _ _ ac5)) (rp5.mono w9) (by omega) (sm5.trans (s7'.trans sm9)) (w5.trans w9) na1 e5 λs10 σ10 H10 xs' I10 q10 a10 rp10 smL v10 na10=>?_
       obtain⟨k1,k2⟩:=keepT I10
       exact⟨ds.length- (i+1),by omega,i+1,xs',ad++zs,σ10,H10,rfl,hlt,I10.unpinned,k1,k2,fg q10,smL,a10,rp10,(w5.trans w9).trans v10,(v5.trans w9).trans v10,λj o=>na10 j (ow01 j o),rest',e6,by rw[<-hy5];simp⟩
 ·have e:i=ds.length:=by omega
  subst e;rw[List.drop_eq_nil_of_le (Nat.le_refl _)] at hc5;cases hc5
  rw[List.append_nil] at hy5;subst hy5;refine bV (T.done Y rfl rfl rfl hcalm ds.length ae s5 σ5 H5 (λ_ _=>False) I5 (stat f5) st5 (io.2 H5 sm5 wH)) λr s6 hq_=>?_
  obtain⟨hr,I6⟩:=hq_
  subst hr;exact hR s6 σ5 H5 xs I6 sr5 sm5 ac5 rp5 v5 na5
end
def pz(f:FE):FA:=λρ=>(f ρ).map λd=>[d]
def vx(gi:FA)(g:FG)(p:FT)(f:FE):FA:=λρ1=>(gi ρ1).bind λds=>lM g p (pz f) ρ1 ds
def jX(m:Nat)(gi1:FA)(g1:FG)(p1:FT)(gi2:FA)(g2:FG)(p2:FT)(f:FE):FE:=λρ=>(gi1 ρ).bind λds=>(lM g1 p1 (vx gi2 g2 p2 f) (ρ++List.replicate m .no) ds).bind λys=>if ys.length<=sizeLine then some (.lst ys) else none
theorem mM {m:Nat}{gi1 gi2:FA}{g1 g2:FG}{p1 p2:FT}{f:FE}{ρ:aC}{d:D}(h:jX m gi1 g1 p1 gi2 g2 p2 f ρ=some d): ∃ds ys,gi1 ρ=some ds/\lM g1 p1 (vx gi2 g2 p2 f) (ρ++List.replicate m .no) ds=some ys/\ys.length<=sizeLine/\d=.lst ys:=by
 unfold jX at h;cases e1:gi1 ρ with
 |none=>rw[e1] at h;cases h
 |some ds=>
  rw[e1] at h;dsimp only[Option.bind] at h;cases e2:lM g1 p1 (vx gi2 g2 p2 f) (ρ++List.replicate m .no) ds with
  |none=>rw[e2] at h;cases h
  |some ys=>
   rw[e2] at h;dsimp only at h;split at h
   ·cases h;exact⟨ds,ys,rfl,e2, ‹_›,rfl⟩
   ·cases h
def qR(n:Nat)(g:FG):Prop:= ∀d (ρ0 ρ1:aC),g d ρ0=some ρ1-> ∀i:Nat,n<=i->ρ1[i]? =ρ0[i]?
def sR(n:Nat)(g:oK):Prop:= ∀d (ρ0 ρ1:aC),g d ρ0=some ρ1-> ∀i:Nat,n<=i->ρ1[i]? =ρ0[i]?
theorem wL {n i:Nat}(h:i<n):qR n (gN i):=λd ρ0 ρ1 e=>by
 cases e
 exact λj hj=>List.getElem?_set_ne (by omega)
theorem sN {n:Nat}:sR n eC:=λd ρ0 ρ1 e=>by
 unfold eC at e;split at e
 ·cases e;exact λ_ _=>rfl
 ·cases e
theorem ji {n:Nat}{g:FG}{gs:oK}(h1:qR n g)(h2:sR n gs):sR n (bL g gs):=λd ρ0 ρ1 e=>by
 cases d with
 |nil=>cases e
 |cons d ds=>
  have e:(g d ρ0).bind (λρ'=>gs ds ρ')=some ρ1:=e
  cases e1:g d ρ0 with
  |none=>rw[e1] at e;cases e
  |some ρ2=>
   rw[e1] at e;exact λi hi=>(h2 ds ρ2 ρ1 e i hi).trans (h1 d ρ0 ρ2 e1 i hi)
theorem Cu {n m:Nat}{gs:oK}(h:sR n gs):qR n (gT m gs):=λd ρ0 ρ1 e=>by
 unfold gT at e;split at e
 ·split at e
  ·exact h _ _ _ e
  ·cases e
 ·cases e
section
variable {prog:Program}{w:World}{A:Around}{R:Result->Shared->Prop}{s:Shared}{elt t1 t2 i1 i2:Expr}{ifs1 ifs2:List Expr}{scope:Scope}{pos:Pos}{it acc:Value}{env:Env}
theorem vL
 (h0:codeAny (model prog w) A (.compLoop (.ListComp elt [⟨t1,i1,ifs1,0⟩,⟨t2,i2,ifs2,0⟩] scope pos) 1 it acc env) R s)
 (h:wpAny (model prog w) A (pyIter it) (λit' s'=>codeAny (model prog w) A (.compLoop (.ListComp elt [⟨t1,i1,ifs1,0⟩,⟨t2,i2,ifs2,0⟩] scope pos) 1 it' acc env) R s')
   (notedBy (model prog w) A env λx s'=>R (.error x) s') s):
 codeAny (model prog w) A (.compStart (.ListComp elt [⟨t1,i1,ifs1,0⟩,⟨t2,i2,ifs2,0⟩] scope pos) 1 it acc env) R s:=by
 refine codeAny_of_tree (show wpAny _ _ ((compStart (.ListComp elt [⟨t1,i1,ifs1,0⟩,⟨t2,i2,ifs2,0⟩] scope pos) 1 it acc env).onRaise (λx=>do noteFrame x env;standAt theWindowsPlace)) _ _ s from wpAny_notedAt ?_)
 unfold compStart;show wpAny _ _ (ask>>=_) _ _ s;refine wpAny_bind (wpAny_askSetting (wpAny_ite ?_))
 split
 ·first
   |exact wpAny_bind (wpAny_pure (wpAny_pure (And.intro rfl h0)))
   |exact wpAny_pure (And.intro rfl h0)
 ·first
   |exact wpAny_bind (wpAny_rule (wpAny_bind (wpAny_standAt (wpAny_bind (wpAny_mono h (λit' s' h'=>wpAny_pure (And.intro rfl h')) λ_ _ x=>x)))))
   |(refine wpAny_bind (wpAny_rule ?_);show wpAny _ _ (standAt i2.pos>>=_) _ _ s;exact wpAny_bind (wpAny_standAt (wpAny_bind (wpAny_mono h (λit' s' h'=>wpAny_pure (And.intro rfl h')) λ_ _ x=>x))))
end
section
variable {Y:Cx}{c:Ct}{elt t1 t2 i1 i2:Expr}{ifs1 ifs2:List Expr}{scope:Scope}{pos:Pos}{f:FE}{g2:FG}{p2:FT}{gi2:FA}{hid:bu}{D0:Addr}{L W:Hp}{ρ1:aC}
theorem yc(hxe:Y.xe=λ_ _=>False)(he:DP Y c .s elt f)(hh:hid D0=true)(h00:c.H₀ D0=none)(nD:L D0=none):wu Y c hid D0 L W (pz f) (sY Y.prog Y.w Y.A elt (.ref D0) Y.env) ρ1:=by
 intro ae s σ H xs ad zs Q I sr ac rp hz smL wv na hA hQ;unfold pz at hA;cases e5:f ρ1 with
 |none=>rw[e5] at hA;cases hA
 |some y=>
  rw[e5] at hA;cases hA;unfold sY;refine bV (hxe▸he hid ρ1 _ s σ H (λv H'=>Same H H'/\Rep Y.K (vw H' hid) v y) I ⟨sr,y,e5,λv H' s' r=>⟨s',r⟩⟩) λv s10 hq_=>?_
  obtain⟨z,H10,I10,rz,sm10,rp10⟩:=hq_
  have a10:H10 D0=some (.lst xs):=sm10 _ _ ac
  refine bV (hxe▸dH (X:=Y) _ s10 σ H10 (.ref D0) [z] (.ref D0) [v] (λ_ H'=>H'=bz H10 D0 (.lst (xs++[z]))) I10 rfl (.cons rz .nil) ⟨D0,xs,z,rfl,rfl,a10,by simp at hz;omega,rfl⟩) λ_ s11 ⟨_,H11,I11,_,e11⟩=>?_
  subst e11;have vv:vw (bz H10 D0 (.lst (xs++[z]))) hid=vw H10 hid:=dI hh
  have w10:Same (vw H hid) (vw H10 hid):=aH sm10
  refine hQ s11 σ _ (xs++[z]) I11 ((sr.ext sm10).write hh h00 na a10) aL ?_ (λb o e=>?_) ?_ na
  ·rw[vv];exact(rp.mono w10).append (.cons rp10 .nil)
  ·rw[aG (bd e nD)];exact sm10 _ _ (smL _ _ e)
  ·rw[vv];exact w10
theorem uJ(hcalm:Y.calm=true)(hxe:Y.xe=λ_ _=>False){n1:Nat}(hT:gm n1 g2)(hN:EA n1 ρ1)(hi:DIp Y c t2 i2 gi2)(hg:oI Y c t2 g2)(hp:oO Y c ifs2 p2)(he:DP Y c .s elt f)(hh:hid D0=true)(h00:c.H₀ D0=none)(nD:L D0=none):
 wu Y c hid D0 L W (vx gi2 g2 p2 f) (og Y.prog Y.w Y.A (.ListComp elt [⟨t1,i1,ifs1,0⟩,⟨t2,i2,ifs2,0⟩] scope pos) i2 (.ref D0) Y.env) ρ1:=by
 intro ae s σ H xs ad zs Q I sr ac rp hz smL wv na hA hQ;unfold vx at hA;cases e5:gi2 ρ1 with
 |none=>rw[e5] at hA;cases hA
 |some ds=>
  rw[e5] at hA;have hA:lM g2 p2 (pz f) ρ1 ds=some zs:=hA
  unfold og;refine bV (hxe▸hi hid ρ1 ae s σ H (λJ H'=>Same H H'/\ItOk Y.K (vw H' hid) J ds) I ⟨sr,ds,e5,λJ H' s1 io=>⟨s1,io⟩⟩) λv s1 h1=>bV h1 λitv s2 h2=>?_
  obtain⟨it,fp,tn,J,H2,rfl,I2,T,st2,f2,sm,io⟩:=h2
  have l1:=rp.length
  have loop:codeAny (model Y.prog Y.w) Y.A (.compLoop (.ListComp elt [⟨t1,i1,ifs1,0⟩,⟨t2,i2,ifs2,0⟩] scope pos) 1 (.ref it) (.ref D0) Y.env) (λr s'=>match r with
   | .ok _=>Q s'
   | .error _=>False) s2:=by
   refine oV (L:=L) (W:=vw H2 hid) (ad0:=ad) (xs0:=xs) (A:=pz f) (TA:=sY Y.prog Y.w Y.A elt (.ref D0) Y.env) hcalm hxe hT hg hp (λd ρ2 _=>yc hxe he hh h00 nD) hN I2 (sr.ext sm) hh na (sm _ _ ac) (rp.mono (aH sm)) (smL.trans sm) (Same.refl _) T st2 f2 io.b (by omega) hA xQ ?_
   intro s' σ' H' xs' I' sr' smL' ac' rp' v' na';exact hQ s' σ' H' xs' I' sr' ac' rp' smL' ((aH sm).trans v') na'
  exact vL loop (T.self Y.A 0 _ _ _ st2 loop)
end
section
variable {X:Cx}{c:Ct}{elt t1 t2 i1 i2:Expr}{ifs1 ifs2:List Expr}{scope:Scope}{pos:Pos}{N':List Str}{m n1:Nat}{gi1 gi2:FA}{g1 g2:FG}{p1 p2:FT}{f:FE}
theorem kf(hcalm:X.calm=true)(hk:scope.kind=.function)(hs:sK scope X.env.scope=true)(hn:tw X.N N' scope=true)(hm:N'.length-X.N.length=m)(hT1:gm X.N.length g1)(hU1:qR n1 g1)(hn1:X.N.length<=n1)(hT2:gm n1 g2)
 (hset: ∀C s₀ H₀ ex,∀x,foldedSetIterable i2 (aB X N' scope C s₀ H₀ ex).env x=pure x)
 (hg1: ∀C s₀ H₀ ex,oI (aB X N' scope C s₀ H₀ ex) c t1 g1) (hp1: ∀C s₀ H₀ ex,oO (aB X N' scope C s₀ H₀ ex) c ifs1 p1) (hi2: ∀C s₀ H₀ ex,DIp (aB X N' scope C s₀ H₀ ex) c t2 i2 gi2)
 (hg2: ∀C s₀ H₀ ex,oI (aB X N' scope C s₀ H₀ ex) c t2 g2) (hp2: ∀C s₀ H₀ ex,oO (aB X N' scope C s₀ H₀ ex) c ifs2 p2) (he: ∀C s₀ H₀ ex,DP (aB X N' scope C s₀ H₀ ex) c .s elt f)
 {E:Value->Shared->Prop} {ae:List (Addr×Obj)} {σ:St} {H:Hp} {s:Shared} {hid:bu} {ρ:aC} {J:It} {it:Addr} {fp:List Addr} {tn:Nat->Heap->Prop} {ds ys:List D} {RR:Value->Addr->Result->Shared->Prop}
 (I:Inv X ae σ H s) (sr:SR X.K c hid ρ σ H) (T:Turn X.prog X.w X.K t1 J fp it tn) (st:tn 0 s.heap) (hF: ∀b∈fp,gG X ae H b) (io:Co X.K H (vw H hid) J ds) (hz:ys.length<=sizeLine) (hc:lM g1 p1 (vx gi2 g2 p2 f) (ρ++List.replicate m .no) ds=some ys)
 (hR: ∀(D C:Addr) (s':Shared) (H':Hp) (xs:List V),s.heap.objs.size<=D->s.heap.objs.size<=C->D≠C->H D=none->Same H H'->H' D=some (.lst xs)->Reps X.K (vw H' (bI hid D)) xs ys->(∃m,s'.heap.Ns C m)->H' C=none->s'.os=s.os->AllBare s'.gens->HOk X.prog X.w H' s'.heap->Un (frs X.stack) fp H H' s.heap s'.heap->RR (.ref D) C (.ok .next) s'):
 wpAny (model X.prog X.w) X.A (newList []) (λacc s₃=>wpAny (model X.prog X.w) X.A (newFunctionEnv scope X.env.globals (oM X.env.cells scope.names []) [] X.env.qual none .none (some X.env)) (λcenv s₄=>
  codeAny (model X.prog X.w) X.A (.compStart (.ListComp elt [⟨t1,i1,ifs1,0⟩,⟨t2,i2,ifs2,0⟩] scope pos) 0 (.ref it) acc {cenv with scope:=relabel scope X.env}) (RR acc cenv.locals) s₄) E s₃) E s:=by
 refine wpAny_newObj_type (tz λh₁ hns₁ kp1 oc₁=>?_)
 dsimp only at hns₁ kp1 oc₁⊢
 generalize hH2:s.heap.push {cls:=.type "list",dict:=none,data:=.seq ([]:List Value).toArray}=H2 at hns₁ kp1 oc₁⊢
 have hC:H2.objs.size=s.heap.objs.size+1:=by rw[<-hH2,Heap.size_push]
 have hD:H s.heap.objs.size=none:=I.hok.fresh (Nat.le_refl _)
 have I2:Inv X ae σ (bz H s.heap.objs.size (.lst [])) {s with heap:=H2}:=by
  rw[<-hH2];exact I.laid (t':=s.toks) (λb o e=>Heap.get?_push_of_some _ e) (Nat.le_refl _) ⟨Nat.zero_le _,[],0,.nil,Heap.get?_push_size _ rfl⟩
 have fpLt: ∀b∈fp,b<s.heap.objs.size:=λb hb=>let⟨o,e,_⟩:=T.obj 0 s.heap st b hb;Heap.lt_size e
 have hF2: ∀b∈fp,gG X ae (bz H s.heap.objs.size (.lst [])) b:=λb hb=>⟨by rw[aG (Nat.ne_of_lt (fpLt b hb))];exact(hF b hb).1,(hF b hb).2⟩
 have kp0: ∀b o,s.heap.get? b=some o->H2.get? b=some o:=λb o e=>by rw[<-hH2];exact Heap.get?_push_of_some _ e
 have IY:=o5 (tk:=s.toks) (N':=N') (fp:=fp) I2 hF2 (λb hb=>let⟨o,e,_⟩:=T.obj 0 s.heap st b hb;⟨o,kp0 b o e⟩) hk hs hn hns₁ kp1 oc₁
 rw[hm] at IY;dsimp only at IY;have sr0:SR X.K c (bI hid s.heap.objs.size) (ρ++List.replicate m .no) (σ++List.replicate m none) (bz H s.heap.objs.size (.lst [])):=(sr.hide (bh hD _) hD aL).more m
 have hρ:ρ.length=X.N.length:=by rw[<-sr.len];exact I.len
 have nf:hid s.heap.objs.size=false:=sr.fresh hD
 have st1:tn 0 h₁:=T.keep _ _ _ st λb hb o e=>kp1 b o (kp0 b o e)
 have na0: ∀i:Nat,Ow (ρ++List.replicate m Sl.no)[i]? ->(σ++List.replicate m none)[i]? ≠some (some (V.ref s.heap.objs.size)):=(sr.more m).notOw nf
 have wv:Same (vw H hid) (vw (bz H s.heap.objs.size (.lst [])) (bI hid s.heap.objs.size)):=by rw[rN hD];exact Same.refl _
 have nos:EA X.N.length (ρ++List.replicate m Sl.no):=λi s hi e=>by
  rw[List.getElem?_append_right (by omega),List.getElem?_replicate] at e
  split at e
  ·cases e;rfl
  ·cases e
 have loop: ∀s4:Shared,s4={s with heap:=h₁,toks:=s.toks}->
  codeAny (model X.prog X.w) X.A (.compLoop (.ListComp elt [⟨t1,i1,ifs1,0⟩,⟨t2,i2,ifs2,0⟩] scope pos) 0 (.ref it) (.ref s.heap.objs.size) (compEnvC scope (ly X.env.cells scope H2.objs.size) H2.objs.size X.env)) (RR (.ref s.heap.objs.size) H2.objs.size) s4:=by
  rintro s4 rfl
  have fpY: ∀b∈fp,gG (aB X N' scope H2.objs.size {s with heap:=H2} (bz H s.heap.objs.size (.lst [])) fp) [] (bz H s.heap.objs.size (.lst [])) b:=λb hb=>
   ⟨(hF2 b hb).1,(IY.ok.exf b hb).1,IY.ok.exfs b hb,.inl hb,(IY.ok.exf b hb).2,λq hq=>by have hq':q∈([]:List (Addr×Obj))++[]:=hq;simp at hq'⟩
  refine oV (Y:=aB X N' scope H2.objs.size {s with heap:=H2} (bz H s.heap.objs.size (.lst [])) fp) (L:=H) (hid:=bI hid s.heap.objs.size) (W:=vw H hid) (ad0:=[]) (xs0:=[]) (A:=vx gi2 g2 p2 f) (TA:=og X.prog X.w X.A (.ListComp elt [⟨t1,i1,ifs1,0⟩,⟨t2,i2,ifs2,0⟩] scope pos) i2 (.ref s.heap.objs.size) (compEnvC scope (ly X.env.cells scope H2.objs.size) H2.objs.size X.env))
   hcalm rfl hT1 (hg1 _ _ _ _) (hp1 _ _ _ _) (λd ρ1 e=>uJ (Y:=aB X N' scope H2.objs.size {s with heap:=H2} (bz H s.heap.objs.size (.lst [])) fp) hcalm rfl hT2 (λi s hi e'=>?_) (hi2 _ _ _ _) (hg2 _ _ _ _) (hp2 _ _ _ _) (he _ _ _ _) fP (sr.fresh0 hD) hD) nos IY sr0 fP na0 aL .nil (bh hD _) wv T st1 fpY io (by simpa using hz) hc (uD (hset H2.objs.size {s with heap:=H2} (bz H s.heap.objs.size (.lst [])) fp)) ?_
  ·rw[hU1 _ _ _ e i hi] at e'
   exact nos i s (by omega) e'
  ·intro s' σ' H' xs I' _ sm' hx' rp' _ _
   have un1:Un (frs X.stack) fp H (bz H s.heap.objs.size (.lst [])) s.heap H2:=Un.laid (λb o e=>kp0 b o e) (Nat.le_refl _) hD
   exact hR s.heap.objs.size H2.objs.size s' H' xs (Nat.le_refl _) (by rw[hC];exact Nat.le_succ _) (by rw[hC];exact Nat.ne_of_lt (Nat.lt_succ_self _)) hD sm' hx' rp' (let⟨m,hm,_⟩:=I'.loc;⟨m,hm⟩) I'.free I'.os I'.bare I'.hok (un1.trans I'.base)
 exact codeAny_compStart_list (loop _ rfl) (T.self X.A 0 _ _ _ st1 (loop _ rfl))
theorem ql(hcalm:X.calm=true)(n1:Nat)(hT1:gm X.N.length g1)(hU1:qR n1 g1)(hT2:gm n1 g2)(hi:Ap X c t1 i1 gi1)
 (hg1: ∀C s₀ H₀ ex,oI (aB X N' scope C s₀ H₀ ex) c t1 g1) (hp1: ∀C s₀ H₀ ex,oO (aB X N' scope C s₀ H₀ ex) c ifs1 p1) (hi2: ∀C s₀ H₀ ex,DIp (aB X N' scope C s₀ H₀ ex) c t2 i2 gi2)
 (hg2: ∀C s₀ H₀ ex,oI (aB X N' scope C s₀ H₀ ex) c t2 g2) (hp2: ∀C s₀ H₀ ex,oO (aB X N' scope C s₀ H₀ ex) c ifs2 p2) (he: ∀C s₀ H₀ ex,DP (aB X N' scope C s₀ H₀ ex) c .s elt f)
 (hk:scope.kind=.function:=by rfl) (hs:sK scope X.env.scope=true:=by kernel_rfl) (hn:tw X.N N' scope=true:=by kernel_rfl) (hm:N'.length-X.N.length=m:=by rfl) (hn1:X.N.length<=n1:=by exact Nat.le_of_ble_eq_true rfl) (hset: ∀x,foldedSetIterable i1 X.env x=pure x:=by intro _;rfl)
 (hset2: ∀C s₀ H₀ ex,∀x,foldedSetIterable i2 (aB X N' scope C s₀ H₀ ex).env x=pure x:=by intros;rfl):
 DP X c .n (.ListComp elt [⟨t1,i1,ifs1,0⟩,⟨t2,i2,ifs2,0⟩] scope pos) (jX m gi1 g1 p1 gi2 g2 p2 f):=by
 intro hid ρ ae s σ H Q I hq;obtain⟨sr,d,hd,q⟩:=hq
 obtain⟨ds,ys,e1,hc,hz,rfl⟩:=mM hd
 rw[eval_ListComp];refine wpAny_comprehension_free (use:=none) rfl hset (dD λx hx=>I.ok.has x (fJ hs x hx)) hk (ik hs) ?_
 refine bV (hi hid ρ ae s σ H (λJ H'=>Same H H'/\Co X.K H' (vw H' hid) J ds) I ⟨sr,ds,e1,λJ H' s1 io=>⟨s1,io⟩⟩) λv s1 h1=>bV h1 λitv s2 h2=>?_
 obtain⟨it,fp,tn,J,H2,rfl,I2,T,st2,f2,sm,io⟩:=h2
 refine kf (RR:=λacc C=>compPost (model X.prog X.w) X.A X.xe none (EP X ae σ Q) acc C) hcalm hk hs hn hm hT1 hU1 hn1 hT2 hset2 hg1 hp1 hi2 hg2 hp2 he I2 (sr.ext sm) T st2 f2 io hz hc ?_
 intro D C s' H' xs hDge hCge hDC hD sm' hx rp ⟨mm,hns⟩ hC' hos hbare hok hun;refine⟨mm,hns,λh' hsb=>⟨.ref D,H',?_,rfl,q _ H' (sm.trans sm') ⟨D,xs,ys,rfl,rfl,sm.free hD,hx,rp⟩⟩⟩
 have neC: ∀b o,s2.heap.get? b=some o->b≠C:=λb o e z=>by subst z;exact absurd (Heap.lt_size e) (Nat.not_lt.mpr hCge)
 have hun':Un (frs X.stack) fp H2 H' s2.heap h':=⟨λb o e n h1 h2=>(hsb.2 b (neC b o e)).trans (hun.keep b o e n h1 h2),λb o e n h1 h2=>let⟨sl,z⟩:=hun.slot b o e n h1 h2;⟨sl,(hsb.2 b (neC b o e)).trans z⟩,hun.free,λb o e h2=>let⟨o',z⟩:=hun.there b o e h2;⟨o',(hsb.2 b (neC b o e)).trans z⟩,hun.tups,hun.frzs,hun.tbls⟩
 have hok':HOk X.prog X.w H' h':=λb o e=>by
  have nb: ∀b' o',H' b'=some o'->b'≠C:=λb' o' e' z=>by subst z;rw[hC'] at e';cases e'
  refine(hok b o e).stay (λc' u hc' z=>(hsb.2 c' ?_).trans z) (λ_ z=>z) λ_ _ z=>z
  rcases hc' with z'|z'
  ·rw[z'];exact nb b o e
  ·exact nb c' _ z'
 exact I2.call' (s':={s' with heap:=h'}) (ch:=fp) hos hun' hok' hbare λb hb=>⟨(f2 b hb).2.2.2.1,(f2 b hb).2.1,(f2 b hb).2.2.2.2.1,(f2 b hb).2.2.2.2.2⟩
end
def rO(ds:List D)(lo hi:Option Int):List D:=(ds.drop (HT.sIx ds.length 0 lo)).take (HT.sIx ds.length ds.length hi-HT.sIx ds.length 0 lo)
theorem xm {K:W.Frag}{F:Hp}{xs:List V}{ds:List D}(r:Reps K F xs ds)(lo hi:Option Int):Reps K F (uR xs lo hi) (rO ds lo hi):=by
 unfold uR rO;rw[r.length];exact(r.drop _).take _
abbrev FO:=aC->Option (Option Int)
def Fm(K:W.Frag)(c:Ct)(hid:bu)(f:FO)(ρ:aC):TO:=λσ H Q=>SR K c hid ρ σ H/\ ∃o,f ρ=some o/\ ∀H',Same H H'->Q o H'
def DO(X:Cx)(c:Ct)(e:Option Expr)(f:FO):Prop:= ∀hid ρ,PO X e (Fm X.K c hid f ρ)
theorem PO.imp {X:Cx}{e:Option Expr}{t t':TO}(h:PO X e t)(i: ∀σ H Q,t' σ H Q->t σ H Q):PO X e t':=λae s σ H Q I q=>h ae s σ H Q I (i σ H Q q)
section
variable {X:Cx}{c:Ct}{e a b:Expr}{f g:FE}{k:Kd}{pos p2:Pos}{lo hi:Option Expr}{l u:FO}
def Cp:FO:=λ_=>some none
def BQ(f:FE):FO:=λρ=>(f ρ).bind λd=>match d with
 | .int i=>some (some i)
 |_=>none
theorem yj:DO X c none Cp:=λhid ρ=>PO.imp zy λσ H Q ⟨sr,o,e,q⟩=>by cases e;exact q H (Same.refl _)
theorem yH(h:DP X c k e f):DO X c (some e) (BQ f):=λhid ρ=>PO.imp (yE (h hid ρ)) λσ H Q hq_=>by
 obtain⟨sr,o,e,q⟩:=hq_
 unfold BQ at e;cases e1:f ρ with
 |none=>rw[e1] at e;cases e
 |some d=>
  rw[e1] at e;cases d with
  |int i=>
   cases e
   refine⟨sr,_,e1,λv H' s r=>⟨i,?_,q H' s⟩⟩
   exact(RK.b k r λa n=>sr.fresh n).int
  |_=>cases e
def sk(f:FE)(l u:FO):FE:=λρ=>(f ρ).bind λd=>match d with
 | .lst ds=>(l ρ).bind λlo=>(u ρ).map λhi=>.lst (rO ds lo hi)
 |_=>none
theorem AN(he:DP X c k e f)(hl:DO X c lo l)(hu:DO X c hi u):DP X c .n (.Subscript e (.Slice lo hi none p2) pos) (sk f l u):=λhid ρ=>
 PE.imp (vA yR (he hid ρ) (hl hid ρ) (hu hid ρ)) λσ H Q hq_=>by
  obtain⟨sr,d,hd,q⟩:=hq_
  unfold sk at hd;cases e1:f ρ with
  |none=>rw[e1] at hd;cases hd
  |some z=>
   rw[e1] at hd;cases z with
   |lst ds=>
    have hd:((l ρ).bind λlo=>(u ρ).map λhi=>D.lst (rO ds lo hi))=some d:=hd
    cases e2:l ρ with
    |none=>rw[e2] at hd;cases hd
    |some o1=>
     rw[e2] at hd;cases e3:u ρ with
     |none=>rw[e3] at hd;cases hd
     |some o2=>
      rw[e3] at hd;cases hd;refine⟨sr,_,e1,λv H1 s1 r1=>⟨sr.ext s1,o1,e2,λH2 s2=>⟨(sr.ext s1).ext s2,o2,e3,λH3 s3=>?_⟩⟩⟩
      obtain⟨a,xs,rfl,h1,h2⟩:=((RK.b k r1 λa n=>sr.fresh n).ext (s2.trans s3)).lst
      exact⟨a,xs,rfl,h1,λp hp=>q _ _ ((s1.trans (s2.trans s3)).trans (bh hp _)) (nC hp (s1.trans (s2.trans s3)) (xm h2 o1 o2))⟩
   |_=>cases hd
end
end L2
namespace PySem
open Sem (wp)
open AutoSeq1 (wpAny_loadPart')
section
variable {prog:Program}{w:World}{A:Around}{E:Value->Shared->Prop}{s:Shared}
theorem k9 {it t:Addr}{i:Nat}{us}{x:Value}{Q:Value->Shared->Prop}(hit:s.heap.IsTupleIter it t i)(ht:s.heap.IsTuple t us)(hx:us[i]? =some x)
 (hQ: ∀g,g.IsTupleIter it t (i+1)->Heap.SameBut it s.heap g->Q x {s with heap:=g}):wpAny (model prog w) A (Builtin.SmallTypes.nextOf (.ref it)) Q E s:=by
 obtain⟨o,ho,hc,hd⟩:=id hit
 obtain⟨ot,hot,_,nt,hdt⟩:=ht
 unfold Builtin.SmallTypes.nextOf;refine wpAny_bind (wpAny_callSpecial?_slot (name:=Str.ofString "__next__") hit.typeIs F.slot_tuple_iterator_next (wpAny_call_entry F.slot_tuple_iterator_next hit.typeIs F.entry_tuple_iterator_next (show wpAny _ _ (field (.ref it) 0>>=_) _ _ s from wpAny_bind (wpAny_field ho hd (x:=.ref t) rfl ?_)) (F.args_tuple_iterator_next_1 _)))
 show wpAny _ _ (if(Value.ref t==Value.none)=true then _ else _) _ _ s
 rw[if_neg (show¬((Value.ref t==Value.none)=true) from Bool.false_ne_true)];refine(show wpAny _ _ (field (.ref it) 1>>=_) _ _ s from wpAny_bind (wpAny_field ho hd (x:=.int i 0) rfl (show wpAny _ _ (seqItems? (.ref t)>>=_) _ _ s from wpAny_bind (wpAny_seqItems hot hdt ?_))))
 simp only[Int.toNat_natCast,hx];exact wpAny_bind (wpAny_setField ho hd (by simp) (wpAny_pure ⟨x,rfl,wpAny_pure (hQ _ ⟨_,Heap.get?_update_self _ ho (Obj.isFreed_of_fields (Obj.data_mapFields hd _)),(Obj.cls_mapFields ..).trans hc,by rw[Obj.data_mapFields hd];simp[rawInt]⟩ (Heap.SameBut.update ..))⟩))
theorem l0 {it t:Addr}{i:Nat}{us}{Q:Value->Shared->Prop}(hh:A.handled=none)(hit:s.heap.IsTupleIter it t i)(ht:s.heap.IsTuple t us)(hx:us[i]? =none)
 (hE: ∀g e,Heap.ExtBut it s.heap g->(∃o,g.get? e=some o/\o.cls=.type "StopIteration")->E (.ref e) {s with heap:=g}):wpAny (model prog w) A (Builtin.SmallTypes.nextOf (.ref it)) Q E s:=by
 obtain⟨o,ho,hc,hd⟩:=id hit
 obtain⟨ot,hot,_,nt,hdt⟩:=ht
 unfold Builtin.SmallTypes.nextOf;refine wpAny_bind (wpAny_callSpecial?_slot (name:=Str.ofString "__next__") hit.typeIs F.slot_tuple_iterator_next (wpAny_call_entry F.slot_tuple_iterator_next hit.typeIs F.entry_tuple_iterator_next (show wpAny _ _ (field (.ref it) 0>>=_) _ _ s from wpAny_bind (wpAny_field ho hd (x:=.ref t) rfl ?_)) (F.args_tuple_iterator_next_1 _)))
 show wpAny _ _ (if(Value.ref t==Value.none)=true then _ else _) _ _ s
 rw[if_neg (show¬((Value.ref t==Value.none)=true) from Bool.false_ne_true)];refine(show wpAny _ _ (field (.ref it) 1>>=_) _ _ s from wpAny_bind (wpAny_field ho hd (x:=.int i 0) rfl (show wpAny _ _ (seqItems? (.ref t)>>=_) _ _ s from wpAny_bind (wpAny_seqItems hot hdt ?_))))
 simp only[Int.toNat_natCast,hx];refine wpAny_bind (wpAny_rule (wpAny_bind (wpAny_setField ho hd (by simp) (show wpAny _ _ (newExc (.type "StopIteration") []>>=_) _ _ _ from wpAny_bind ?_))))
 simp only[newExc,newTuple];refine wpAny_bind (wpAny_newObj_type ?_ (by size_fits))
 refine wpAny_bind (m:=firstArgMember _ _) (wpAny_of_eq (a:=Value.none) (by first|rfl|(simp only[firstArgMember];rfl)) (wpAny_newObj_type ?_ (by size_fits)))
 simp only[raiseNew];refine wpAny_bind (wpAny_handled ?_)
 first|rw[show A.in1.handled=none from hh]|rw[hh]
 exact wpAny_bind (wpAny_pure (wpAny_throw (hE _ _ (((Heap.SameBut.update ..).extBut.push _).push _) ⟨_,Heap.get?_push_size _ rfl,rfl⟩)))
theorem nX {e it:Addr}{i:Nat}{x old:Value}{N:Heap->Prop}{Q:Option Value->Shared->Prop}(he:IsEnum s.heap e it i old)(hne:e≠it)(hNk: ∀g g',N g->(∀o,g.get? it=some o->g'.get? it=some o)->N g')
 (nx: ∀(A':Around) (Q':Value->Shared->Prop) (E':Value->Shared->Prop),(∀g,N g->Heap.SameBut it s.heap g->Q' x {s with heap:=g})->wpAny (model prog w) A' (Builtin.SmallTypes.nextOf (.ref it)) Q' E' s)
 (hQ: ∀g,IsEnumOut g e it ((i:Int)+1) x s.heap.objs.size->N g->g.get? s.heap.objs.size=some {cls:=.type "tuple",data:=.seq #[.int i s.toks,x]}->g.objs.size=s.heap.objs.size+1->
   (∀b o,b≠e->b≠it->s.heap.get? b=some o->g.get? b=some o)->Q (some (.ref s.heap.objs.size)) {s with heap:=g,toks:=s.toks+1}):wpAny (model prog w) A (pyNext (.ref e)) Q E s:=by
 have hT:s.TypeIs (.ref e) "enumerate":=⟨_,he,rfl⟩
 unfold pyNext;refine wpAny_bind (wpAny_attempt (wpAny_callSpecial?_slot (name:=Str.ofString "__next__") hT F.slot_enumerate_next (wpAny_call_entry F.slot_enumerate_next hT F.entry_enumerate_next ?_ (F.args_enumerate_next_1 _))))
 obtain⟨hp,gn,dr,tk,os⟩:=s
 refine(show wpAny _ _ (field (.ref e) 2>>=_) _ _ _ from wpAny_bind (wpAny_field he rfl (x:=.ref it) rfl (wpAny_bind (nx _ _ _ λg₁ n₁ b₁=>?_))))
 replace b₁:Heap.SameBut it hp g₁:=b₁
 have e₁:IsEnum g₁ e it i old:=(b₁.2 e hne).trans he
 refine(show wpAny _ _ (field (.ref e) 3>>=_) _ _ ⟨g₁,gn,dr,tk,os⟩ from wpAny_bind (wpAny_field e₁ rfl (x:=rawInt i) rfl ?_))
 refine(show wpAny _ _ (field (.ref e) 4>>=_) _ _ ⟨g₁,gn,dr,tk,os⟩ from wpAny_bind (wpAny_field e₁ rfl (x:=.none) rfl ?_))
 refine(show wpAny _ _ (mkInt i>>=_) _ _ ⟨g₁,gn,dr,tk,os⟩ from wpAny_bind (wpAny_mkInt ?_))
 refine(show wpAny _ _ (setField (.ref e) 3 (rawInt ((i:Int)+1))>>=_) _ _ ⟨g₁,gn,dr,tk+1,os⟩ from wpAny_bind (wpAny_setField_rec e₁ (by simp) λg₂ e₂ b₂=>?_))
 replace b₂:Heap.SameBut e g₁ g₂:=b₂
 replace e₂:IsEnum g₂ e it ((i:Int)+1) old:=e₂
 refine(show wpAny _ _ (setField (.ref e) 4 .none>>=_) _ _ ⟨g₂,gn,dr,tk+1,os⟩ from wpAny_bind (wpAny_setField_rec e₂ (by simp) λg₃ e₃ b₃=>?_))
 replace b₃:Heap.SameBut e g₂ g₃:=b₃
 replace e₃:IsEnum g₃ e it ((i:Int)+1) old:=e₃
 refine(show wpAny _ _ (newTuple [.int i tk,x]>>=_) _ _ ⟨g₃,gn,dr,tk+1,os⟩ from wpAny_bind (wpAny_newTuple ?_))
 have z₃:g₃.objs.size=hp.objs.size:=by rw[b₃.1,b₂.1,b₁.1]
 have le:e<hp.objs.size:=Heap.lt_size he
 have e₄:IsEnum (g₃.push {cls:=.type "tuple",data:=.seq #[.int i tk,x]}) e it ((i:Int)+1) old:=Heap.get?_push_of_some _ e₃
 have n₄:N (g₃.push {cls:=.type "tuple",data:=.seq #[.int i tk,x]}):=hNk _ _ n₁ λo ho=>Heap.get?_push_of_some _ (b₃.extBut _ _ (Ne.symm hne) (b₂.extBut _ _ (Ne.symm hne) ho))
 have t₄:(g₃.push {cls:=.type "tuple",data:=.seq #[.int i tk,x]}).get? hp.objs.size=some {cls:=.type "tuple",data:=.seq #[.int i tk,x]}:=by rw[<-z₃];exact Heap.get?_push_size _ rfl
 have s₄:(g₃.push {cls:=.type "tuple",data:=.seq #[.int i tk,x]}).objs.size=hp.objs.size+1:=by rw[Heap.size_push,z₃]
 have k₄: ∀b o,b≠e->b≠it->hp.get? b=some o->(g₃.push {cls:=.type "tuple",data:=.seq #[.int i tk,x]}).get? b=some o:=λb o h1 h2 h3=>Heap.get?_push_of_some _ (b₃.extBut b o h1 (b₂.extBut b o h1 (b₁.extBut b o h2 h3)))
 generalize g₃.push {cls:=.type "tuple",data:=.seq #[.int i tk,x]}=g₄ at e₄ n₄ t₄ s₄ k₄
 rw[z₃];refine(show wpAny _ _ (Builtin.SmallTypes.ownedTupleIsFree (.ref e)>>=_) _ _ ⟨g₄,gn,dr,tk+1,os⟩ from wpAny_bind ?_)
 unfold Builtin.SmallTypes.ownedTupleIsFree;refine wpAny_bind (wpAny_field e₄ rfl (x:=.none) rfl (wpAny_pure ?_))
 simp only[if_true];refine wpAny_bind (wpAny_rule (wpAny_bind (wpAny_field e₄ rfl (x:=old) rfl (wpAny_bind (wpAny_setField_rec e₄ (by simp) λg₅ e₅ b₅=>?_)))))
 replace b₅:Heap.SameBut e g₄ g₅:=b₅
 replace e₅:IsEnum g₅ e it ((i:Int)+1) x:=e₅
 refine(show wpAny _ _ (Builtin.SmallTypes.ownedTupleHandOut (.ref e) (.ref hp.objs.size)>>=_) _ _ ⟨g₅,gn,dr,tk+1,os⟩ from wpAny_bind ?_)
 unfold Builtin.SmallTypes.ownedTupleHandOut;refine wpAny_bind (wpAny_setField_rec e₅ (by simp) λg₆ e₆ b₆=>?_)
 replace b₆:Heap.SameBut e g₅ g₆:=b₆
 replace e₆:IsEnumOut g₆ e it ((i:Int)+1) x hp.objs.size:=e₆
 refine wpAny_setField_rec e₆ (by simp) λg₇ e₇ b₇=>?_
 replace b₇:Heap.SameBut e g₆ g₇:=b₇
 replace e₇:IsEnumOut g₇ e it ((i:Int)+1) x hp.objs.size:=e₇
 refine wpAny_bind (wpAny_letGo (wpAny_pure ⟨_,rfl,wpAny_pure (hQ g₇ e₇ (hNk _ _ n₄ λo ho=>?_) ?_ ?_ λb o h1 h2 h3=>?_)⟩))
 ·exact b₇.extBut _ _ (Ne.symm hne) (b₆.extBut _ _ (Ne.symm hne) (b₅.extBut _ _ (Ne.symm hne) ho))
 ·exact b₇.extBut _ _ (Nat.ne_of_gt le) (b₆.extBut _ _ (Nat.ne_of_gt le) (b₅.extBut _ _ (Nat.ne_of_gt le) t₄))
 ·rw[b₇.1,b₆.1,b₅.1,s₄]
 ·exact b₇.extBut b o h1 (b₆.extBut b o h1 (b₅.extBut b o h1 (k₄ b o h1 h2 h3)))
theorem oU {e it:Addr}{i:Nat}{old:Value}{Q:Option Value->Shared->Prop}(he:IsEnum s.heap e it i old)
 (nx: ∀(A':Around),A'.handled=A.handled-> ∀(Q':Value->Shared->Prop) (E':Value->Shared->Prop),(∀g x,Heap.ExtBut it s.heap g->(∃o,g.get? x=some o/\o.cls=.type "StopIteration")->E' (.ref x) {s with heap:=g})->wpAny (model prog w) A' (Builtin.SmallTypes.nextOf (.ref it)) Q' E' s)
 (hQ: ∀g,Heap.ExtBut it s.heap g->Q none {s with heap:=g}):wpAny (model prog w) A (pyNext (.ref e)) Q E s:=by
 have hT:s.TypeIs (.ref e) "enumerate":=⟨_,he,rfl⟩
 unfold pyNext;refine wpAny_bind (wpAny_attempt (wpAny_callSpecial?_slot (name:=Str.ofString "__next__") hT F.slot_enumerate_next (wpAny_call_entry F.slot_enumerate_next hT F.entry_enumerate_next (show wpAny _ _ (field (.ref e) 2>>=_) _ _ _ from wpAny_bind (wpAny_field he rfl (x:=.ref it) rfl (wpAny_bind (nx A.in1 rfl _ _ λg x k hx=>?_)))) (F.args_enumerate_next_1 _))))
 obtain⟨o,ho,hc⟩:=hx
 exact wpAny_bind (wpAny_isInstance (T:="StopIteration") (b:=true) ⟨o,ho,hc⟩ isSubtype_stop (wpAny_pure (hQ _ k)))
end
set_option maxHeartbeats 1000000 in
theorem nY(l:Addr)(us:Array Value)(n:Nat)(dct:Option Addr)(sl:Array (Option Value)):
 Meets (Builtin.«enumerate.__new__» ⟨[.type "enumerate",.ref l],[]⟩) (λ_ R s=>s.heap.get? l=some {cls:=.type "tuple",dict:=dct,data:=.seq us n,slots:=sl}/\
  R (.ok (.ret (.ref (s.heap.push {cls:=.type "tuple_iterator",data:=.fields #[.ref l,.int 0 0]}).objs.size)))
   {s with heap:=(s.heap.push {cls:=.type "tuple_iterator",data:=.fields #[.ref l,.int 0 0]}).push {cls:=.type "enumerate",data:=.fields #[.none,.bool false,.ref s.heap.objs.size,rawInt 0,.none,.none]}}):=
 .of_wp λprog w A R s h=>by
  obtain⟨hp,g,d,tk,os⟩:=s;obtain⟨hl,h⟩:=h
  have hsub:=sub_enumerate
  have hL:Heap.IsTuple (Shared.heap ⟨hp,g,d,tk,os⟩) l us:=⟨_,hl,rfl,n,rfl⟩
  wp_walk using wpAny_loadPart' hl
  refine wpAny_stack_any λst=>wpAny_pure ?_
  split
  ·rename_i c _ _ _ _ _
   cases (c==Value.type "enumerate")
   ·wp_walk using wpAny_loadPart' hl,wpAny_pyIter_tuple hL
    exact⟨_,rfl,h⟩
   ·wp_walk using wpAny_loadPart' hl,wpAny_pyIter_tuple hL
    exact⟨_,rfl,h⟩
  ·wp_walk using wpAny_loadPart' hl,wpAny_pyIter_tuple hL
   exact⟨_,rfl,h⟩
section
variable {prog:Program}{w:World}{A:Around}{E:Value->Shared->Prop}{s:Shared}
theorem l6 {l:Addr}{us:Array Value}{Q:Value->Shared->Prop}(hL:s.heap.IsTuple l us)
 (h: ∀g,IsEnum g (s.heap.objs.size+1) s.heap.objs.size 0 .none->g.IsTupleIter s.heap.objs.size l 0->g.objs.size=s.heap.objs.size+2->(∀b o,s.heap.get? b=some o->g.get? b=some o)->Q (.ref (s.heap.objs.size+1)) {s with heap:=g}):
 wpAny (model prog w) A (call (.type "enumerate") [.ref l]) Q E s:=by
 obtain⟨⟨cls,dct,dat,sl⟩,ho,hc,n,hd⟩:=hL
 have hc:cls=.type "tuple":=hc
 have hd:dat=.seq us n:=hd
 subst hc hd;refine callType_new F.called_enumerate (by decide) (F.typeCall_enumerate_1 _) (F.newCall_enumerate_1 _) (λobj=>F.args_object_init_2 obj _) F.entry_enumerate_new (nY l us n dct sl) ⟨ho,?_⟩
 have hz:(s.heap.push {cls:=.type "tuple_iterator",data:=.fields #[.ref l,.int 0 0]}).objs.size=s.heap.objs.size+1:=Heap.size_push ..
 show _/\_;rw[hz];have he:IsEnum ((s.heap.push {cls:=.type "tuple_iterator",data:=.fields #[.ref l,.int 0 0]}).push {cls:=.type "enumerate",data:=.fields #[.none,.bool false,.ref s.heap.objs.size,rawInt 0,.none,.none]}) (s.heap.objs.size+1) s.heap.objs.size 0 .none:=by
  have:=Heap.get?_push_size (s.heap.push {cls:=.type "tuple_iterator",data:=.fields #[.ref l,.int 0 0]}) (o:={cls:=.type "enumerate",data:=.fields #[.none,.bool false,.ref s.heap.objs.size,rawInt 0,.none,.none]}) rfl
  rw[hz] at this;exact this
 exact⟨⟨_,he,rfl⟩,h _ he ⟨_,Heap.get?_push_of_some _ (Heap.get?_push_size _ rfl),rfl,rfl⟩ (by rw[Heap.size_push,hz]) λb o x=>Heap.get?_push_of_some _ (Heap.get?_push_of_some _ x)⟩
end
end PySem
namespace L2
open PySem PySem.Spec PyProof.Rows
def Fc(K:W.Frag)(a:Addr):It:=
 ⟨λi H=> ∃xs x,SqT K H a xs/\xs[i]? =some x,λi H x H'=> ∃T,x=.ref T/\H T=none/\ ∀xs,SqT K H a xs-> ∃y,xs[i]? =some y/\H'=bz H T (.tup [.int i,y]),λi H=> ∃xs,SqT K H a xs/\xs.length<=i⟩
theorem rZ {P:Program}{w:World}{K:W.Frag}{es:List Expr}{x1}{pos:Pos}(a it e:Addr)(hei:e≠it):Turn P w K (.Tuple es x1 pos) (Fc K a) [e,it] e (λi h=>(∃old,IsEnum h e it i old)/\h.IsTupleIter it a i) where
 mem:=by simp
 obj:=λi h st b hb=>by
  obtain⟨⟨old,he⟩,o,ho,hc,hd⟩:=st
  rcases List.mem_cons.mp hb with rfl|hb
  ·exact⟨_,he,λv z=>by cases z⟩
  ·have:b=it:=by simpa using hb
   subst this;exact⟨o,ho,λv z=>by rw[hd] at z;cases z⟩
 keep:=λi h h' st k=>by
  obtain⟨⟨old,he⟩,hit⟩:=st
  exact⟨⟨old,k e (by simp) _ he⟩,hit.at λo x=>k it (by simp) o x⟩
 item:=by
  intro X hP hw hK hc i ae s σ H E I hf st hg;subst hP hw hK;obtain⟨xs,x,hq,hx⟩:=hg
  obtain⟨its,rv,p,hz⟩:=I.tuple hq
  obtain⟨u,hu,ru⟩:=rv.get hx
  obtain⟨⟨old,he⟩,hit⟩:=st
  obtain⟨e0,e1,e2,e3,e4,e5⟩:=hf e (by simp)
  obtain⟨f0,f1,f2,f3,f4,f5⟩:=hf it (by simp)
  have ht:s.heap.IsTuple a its.toArray:=p
  refine nX (x:=u) (N:=λg=>g.IsTupleIter it a (i+1)) he hei (λg g' n k=>n.at k) (λA' Q' E' hq'=>k9 hit ht (by simpa using hu) λg n b=>hq' g n b) λg hout hit' hT hsz hk=>⟨_,rfl,?_⟩
  refine wpAny_letOwnedTupleGo_enum hout λg' he' hs'=>?_
  have elt:e<s.heap.objs.size:=Heap.lt_size he
  have k2: ∀b o,b≠e->b≠it->s.heap.get? b=some o->g'.get? b=some o:=λb o h1 h2 h3=>(hs'.2 b h1).trans (hk b o h1 h2 h3)
  have hT':g'.get? s.heap.objs.size=some {cls:=.type "tuple",data:=.seq #[.int i s.toks,u]}:=(hs'.2 _ (Nat.ne_of_gt elt)).trans hT
  have hn:H s.heap.objs.size=none:=I.hok.fresh (Nat.le_refl _)
  have I1:Inv X ae σ (bz H s.heap.objs.size (.tup [.int i,x])) {s with heap:=g',toks:=s.toks+1}:=by
   obtain⟨oi,hoi,hci,hdi⟩:=id (show g'.IsTupleIter it a (i+1) from hit'.at λo y=>(hs'.2 it (Ne.symm hei)).trans y)
   obtain⟨os0,hos0,_⟩:=id hit
   have ilt:it<s.heap.objs.size:=Heap.lt_size hos0
   have I0:Inv X ae σ (bz H s.heap.objs.size (.tup [.int i,x])) {s with heap:=s.heap.push {cls:=.type "tuple",data:=.seq #[.int i s.toks,u]},toks:=s.toks+1}:=
    I.laid (t':=s.toks+1) (λb o q=>Heap.get?_push_of_some _ q) (Nat.le_refl _) (show ObjOk X.prog X.w _ _ _ (.tup [.int i,x]) from
     ⟨Nat.le_of_lt (fH (by simp)),[.int i s.toks,u],.cons ⟨_,rfl⟩ (.cons ru .nil),⟨_,Heap.get?_push_size _ rfl,rfl,_,rfl⟩,_,Heap.get?_push_size _ rfl,rfl⟩)
   have u1:((s.heap.push {cls:=.type "tuple",data:=.seq #[.int i s.toks,u]}).update it λ_=>oi).get? it=some oi:=Heap.get?_update_self (λ_=>oi) (Heap.get?_push_of_some _ hos0) (Obj.isFreed_of_fields hdi)
   have I1:Inv X ae σ (bz H s.heap.objs.size (.tup [.int i,x])) {s with heap:=(s.heap.push {cls:=.type "tuple",data:=.seq #[.int i s.toks,u]}).update it λ_=>oi,toks:=s.toks+1}:=
    I0.turned (t':=s.toks+1) (λb o hb q=>(Heap.get?_update_other _ _ (Ne.symm hb)).trans q) (by rw[aG (Nat.ne_of_lt ilt)];exact f0) f1 f3 f4 f5
   refine I1.turned (t':=s.toks+1) (λb o hb q=>?_) (by rw[aG (Nat.ne_of_lt elt)];exact e0) e1 e3 e4 e5
   by_cases hbi:b=it
   ·subst hbi
    have q':((s.heap.push {cls:=.type "tuple",data:=.seq #[.int i s.toks,u]}).update b λ_=>oi).get? b=some o:=q
    rw[u1] at q';cases q';exact hoi
   ·have q':((s.heap.push {cls:=.type "tuple",data:=.seq #[.int i s.toks,u]}).update it λ_=>oi).get? b=some o:=q
    rw[Heap.get?_update_other _ _ (Ne.symm hbi)] at q'
    by_cases hbT:b=s.heap.objs.size
    ·subst hbT
     rw[Heap.get?_push_size _ rfl] at q';cases q'
     exact hT'
    ·rw[Heap.get?_push_ne _ _ _ hbT] at q'
     exact k2 b o hb hbi q'
  refine⟨.ref s.heap.objs.size,bz H s.heap.objs.size (.tup [.int i,x]),I1,rfl,⟨_,rfl,hn,λys hy=>⟨x,by rw[I.tuple_inj hy hq];exact hx,rfl⟩⟩,⟨⟨u,by simpa using he'⟩,hit'.at λo y=>(hs'.2 it (Ne.symm hei)).trans y⟩,λb hb=>?_⟩
  rcases List.mem_cons.mp hb with rfl|hb
  ·rw[aG (Nat.ne_of_lt elt)];exact e0
  ·have:b=it:=by simpa using hb
   subst this;obtain⟨o,ho,_⟩:=hit
   rw[aG (Nat.ne_of_lt (Heap.lt_size ho))];exact f0
 done:=by
  intro X hP hw hK hc i ae s σ H E I hf st hg;subst hP hw hK;obtain⟨xs,hq,hx⟩:=hg
  obtain⟨its,rv,p,hz⟩:=I.tuple hq
  obtain⟨⟨old,he⟩,hit⟩:=st
  obtain⟨f0,f1,f2,f3,f4,f5⟩:=hf it (by simp)
  have hl:=rv.length
  have hh:=I.ok.hd hc
  refine oU he (λA' hA' Q' E' hq'=>l0 (hA'.trans hh) hit (show s.heap.IsTuple a its.toArray from p) (by simp;omega) hq') λg k=>⟨rfl,I.turned (t':=s.toks) (λb o hb z=>k b o hb z) f0 f1 f3 f4 f5⟩
 self:=λ_ _ _ _ _ st h=>let⟨⟨_,he⟩,_⟩:=st;wpAny_pyIter_enum he h
section
variable {X:Cx}{c:Ct}{k:Kd}{es:List Expr}{x1:Nat}{tp pos p:Pos}
def rR(ds:List D):List D:=(List.range ds.length).map λ(i:Nat)=>D.tup [.int i,ds.getD i .non]
def AT(f:FE):FA:=λρ=>(f ρ).bind λd=>match d with
 | .tup ds=>some (rR ds)
 |_=>none
theorem uo {K:W.Frag}{W:Hp}{a:Addr}{xs:List V}{ds:List D}(h1:SqT K W a xs)(h2:Reps K W xs ds):ItOk K W (Fc K a) (rR ds):=by
 have l:=h2.length
 have el:(rR ds).length=ds.length:=by simp[rR]
 refine⟨λi d H e s=>?_,λH s=>⟨_,Same.seqT s h1,by rw[el,<-l];exact Nat.le_refl _⟩⟩
 have hi:i<ds.length:=by rw[<-el];exact(List.getElem?_eq_some_iff.mp e).1
 have ex:xs[i]? =some xs[i]:=List.getElem?_eq_getElem (by omega)
 refine⟨⟨_,xs[i],Same.seqT s h1,ex⟩,λy H' ⟨T,e2,hT,e3⟩=>?_⟩
 subst e2;obtain⟨z,e4,e5⟩:=e3 _ (Same.seqT s h1)
 subst e5;refine⟨bh hT _,λhid tr sw=>?_⟩
 have hf:hid T=false:=by
  cases eh:hid T with
  |false=>rfl
  |true=>obtain⟨o,ho⟩:=tr T eh;rw[hT] at ho;cases ho
 obtain⟨d',e6,r6⟩:=h2.get' e4
 have ed:d=.tup [.int i,d']:=by
  unfold rR at e;rw[List.getElem?_map,List.getElem?_range hi] at e;have:ds.getD i .non=d':=by simp[List.getD,e6]
  rw[Option.map_some,this] at e;exact(Option.some.inj e).symm
 rw[ed];exact g7 hT hf (.cons .int (.cons (r6.mono sw) .nil))
theorem xB {iter:Expr}{f:FE}(h:DP X c .s iter f)(hm:X.mg "enumerate"=none)(hg:Gl X "enumerate":=by rfl)(hs:starEach [iter] X.env=[(false,eval iter X.env)]:=by rfl):DIp X c (.Tuple es x1 tp) (.Call (.Name "enumerate" p) [iter] [] pos) (AT f):=by
 intro hid ρ ae s σ H R I hq;obtain⟨sr,ds,hd,q⟩:=hq
 unfold AT at hd;cases e1:f ρ with
 |none=>rw[e1] at hd;cases hd
 |some z=>
  rw[e1] at hd;cases z with
  |tup us=>
   cases hd
   refine Call_ (jJ (u:=.type "enumerate") I hg hm (by kernel_rfl) (PyProof.Rows.callWith_type1 (bV (bF (h hid ρ) eB hs pos ae s σ H (λvs H'=> ∃v,vs=[v]/\Same H H'/\Rep X.K (vw H' hid) v (.tup us)) I ⟨sr,_,e1,λv H' s' r=>⟨v,rfl,s',r⟩⟩) λvs s1 ⟨ws,H1,I1,r1,w,e,s',r⟩=>?_) hs rfl))
   subst e;cases r1 with
   |cons ra rb=>
    cases rb
    cases r with
    |tup t1 t2=>
     cases ra
     obtain⟨its,rv,pt,hz⟩:=I1.tuple (Same.seqT (dG _ _) t1)
     refine l6 (show s1.heap.IsTuple _ its.toArray from pt) λg he hit hsz hk=>?_
     refine wpAny_pyIter_enum he ⟨_,[s1.heap.objs.size+1,s1.heap.objs.size],_,_,H1,rfl,I1.kept (t':=s1.toks) λb o e=>hk b o e,rZ _ _ _ (Nat.ne_of_gt (Nat.lt_succ_self _)),⟨⟨_,he⟩,hit⟩,λb hb=>?_,q _ H1 s' (uo t1 t2)⟩
     rcases List.mem_cons.mp hb with rfl|hb
     ·exact I1.fpOk (Nat.le_succ _) (I1.hok.fresh (Nat.le_succ _))
     ·have:b=s1.heap.objs.size:=by simpa using hb
      subst this;exact I1.fpOk (Nat.le_refl _) (I1.hok.fresh (Nat.le_refl _))
  |_=>cases hd
end
open PySem PySem.W PySem.Calls PyProof.Rows
def jo(i:Nat)(g:FE):GE:=λρ=>match g ρ with
 |some (.lst zs)=>(match eP i ρ with
  |some bs=>if bs.length+zs.length<=sizeLine then some (.non,eI i (bs++zs) ρ) else none
  |none=>none)
 |_=>none
theorem u4 {i:Nat}{g:FE}{ρ ρ':aC}{d:D}(h:jo i g ρ=some (d,ρ')): ∃zs bs,g ρ=some (.lst zs)/\eP i ρ=some bs/\bs.length+zs.length<=sizeLine/\d=.non/\ρ'=eI i (bs++zs) ρ:=by
 unfold jo at h;split at h
 ·split at h
  ·split at h
   ·cases h;exact⟨_,_, ‹_›, ‹_›, ‹_›,rfl,rfl⟩
   ·cases h
  ·cases h
 ·cases h
section
variable {X:Cx}{c:Ct}{e:Expr}{y:Str}{py apos pos:Pos}{g:FE}
theorem ui(i:Nat)(he:DP X c .n e g)
 (hN:X.N[i]? =some y:=by rfl) (hv:oN X.env.scope y:=by first|exact Or.inl rfl|exact Or.inr (Or.inl rfl)|exact Or.inr (Or.inr rfl)) (hd:(y==("__debug__":Str))=false:=by decide) (hcd:(y==("__classdict__":Str))=false:=by decide)
 (hbase:attributeBase (.Name y py) "extend" X.env (eval (.Name y py) X.env)=eval (.Name y py) X.env:=by rfl)
 (hfew:((backTo pos (starEach [e] X.env)).all (λx=> !x.1)&&(backToKw pos (keywordEach [] X.env)).all (λx=>x.1.isSome)
   &&decide ([e].length+([]:List Keyword).length+(if([]:List Keyword).isEmpty then 0 else 1)<30))=true:=by rfl)
 (hline:(apos.endLine==pos.line)=true:=by rfl) (hs:starEach [e] X.env=(false,eval e X.env)::starEach [] X.env:=by rfl) (hplain:(backTo pos (starEach [] X.env)).any (·.1)=false:=by rfl):
 DE X c .s (.Call (.Attribute (.Name y py) "extend" apos) [e] [] pos) (jo i g):=λhid ρ=>
 PE.imp (tO PySem.F.plainAttrs_list PySem.F.slot_list_extend PySem.F.type_list_extend u5 (pv i hN hv hd hcd) (bF (he hid ρ) eB hs) hbase hfew hline hs hplain) λσ H Q hq_=>by
  obtain⟨sr,d,ρ',hd',q⟩:=hq_
  obtain⟨zs,bs,e1,e2,e3,rfl,rfl⟩:=u4 hd'
  obtain⟨a,xs0,a1,a2,a3,a4,a5⟩:=sr.held e2
  refine⟨.ref a,a1,.inl ⟨rfl,_,SqL.of a2⟩,sr,_,e1,λv H1 s1 r1=>?_⟩
  obtain⟨l,ws,ds',z,rfl,n1,n2,n3⟩:=r1
  cases z
  have rw1:Reps X.K (vw H1 hid) ws zs:=n3.mono (cr λb w=>cJ w)
  have rx1:Reps X.K (vw H1 hid) xs0 bs:=a4.mono (aH s1)
  refine⟨a,l,xs0,ws,rfl,rfl,s1 _ _ a2,n2,by rw[rx1.length,rw1.length];exact e3,?_⟩
  have vv:vw (bz H1 a (.lst (xs0++ws))) hid=vw H1 hid:=dI a3
  refine q .non _ ⟨λb o z hb=>?_,(sr.ext s1).put e2 a1 (λb o z hb=>by rw[aG hb];exact z) aL (by rw[vv];exact rx1.append rw1),.non⟩
  rw[aG (λe=>by subst e;rw[a3] at hb;cases hb)]
  exact s1 _ _ z
end
def BZ {α:Type}(d:α)(n:Nat):Option α:=if n<=sizeLine then some d else none
def E8 {α:Type}(d:α)(n:Nat):Option α:=if n<sizeLine then some d else none
theorem dh {α:Type}{d:α}{n:Nat}(h:n<=1000):BZ d n=some d:=if_pos (Nat.le_of_lt (fH h))
theorem mt {α:Type}{d:α}{n:Nat}(h:n<=1000):E8 d n=some d:=if_pos (fH h)
theorem zD(fs:FA)(ρ:aC):a7 fs ρ=(fs ρ).bind λds=>BZ (.tup ds) ds.length:=rfl
theorem jf(fs:FA)(ρ:aC):a9 fs ρ=(fs ρ).bind λds=>BZ (.lst ds) ds.length:=rfl
theorem v6(m:Nat)(gi:FA)(g:FG)(p:FT)(f:FE)(ρ:aC):aY m gi g p f ρ=(gi ρ).bind λds=>(BZ () ds.length).bind λ_=>(cB g p f (ρ++List.replicate m .no) ds).map D.lst:=by
 unfold aY BZ;congr 1;funext ds
 split<;>rfl
theorem tZ(bs:List D)(d:D):gY bs [d]=E8 (.non,bs++[d]) bs.length:=rfl
theorem y8(bs:List D)(i:Int):ma bs [.int i]=(BZ () bs.length).bind λ_=>(oo bs.length i).bind λj=>(bs[j]?).map λd=>(d,bs.eraseIdx j):=by
 unfold ma BZ;dsimp only;split
 ·rename_i j e
  split at e
  ·rw[if_pos ‹_›,e];rfl
  ·cases e
 ·rename_i e
  split at e
  ·rw[if_pos ‹_›,e];rfl
  ·rw[if_neg ‹_›];rfl
def Dx(ds:List D):Option (List D):=match ds with
 | [.int j]=>if j.natAbs<4000000000 then some (uZ 0 j.toNat) else none
 |_=>none
theorem o0(f:FA)(ρ:aC):bq f ρ=(f ρ).bind Dx:=rfl
theorem pc {j:Int}(h:j.natAbs<=1000):Dx [.int j]=some (uZ 0 j.toNat):=by
 show(if j.natAbs<4000000000 then some (uZ 0 j.toNat) else none)=_
 rw[if_pos (by omega)]
theorem b6(i j:Int):aZ (.int i) (.int j)=some (.int (i+j)):=rfl
theorem cX(i j:Int):cD (.int i) (.int j)=some (.int (i-j)):=rfl
theorem i8(i j:Int):j7 (.int i) (.int j)=some (.bl (decide (i<j))):=rfl
theorem yO(i j:Int):BS (.int i) (.int j)=some (.bl (decide (i<=j))):=rfl
theorem zS(i j:Int):Cq (.int i) (.int j)=some (.bl (decide (j<i))):=rfl
theorem tG(i j:Int):Ee (.int i) (.int j)=some (.bl (decide (j<=i))):=rfl
theorem cb {i j:Int}(h:0<j):bp (.int i) (.int j)=some (.int (i % j)):=by
 unfold bp i2;dsimp only;rw[if_pos (by simpa using h)]
theorem re {n:Nat}(h:n<10^200):n<2^1000:=Nat.lt_of_lt_of_le h (by decide)
theorem cV {i j:Int}(h1:i.natAbs<10^200)(h2:j.natAbs<10^200):b9 (.int i) (.int j)=some (.int (i*j)):=by
 unfold b9 i2;dsimp only;rw[if_pos (by rw[decide_eq_true (re h1),decide_eq_true (re h2)];rfl)]
theorem jU {i j:Int}(h1:0<j)(h2:j.natAbs<10^200):gB (.int i) (.int j)=some (.int (i / j)):=by
 unfold gB i2;dsimp only;rw[if_pos (by rw[decide_eq_true h1,decide_eq_true (re h2)];rfl)]
theorem iT {i j:Int}(h0:0<=j)(h1:j<=1000000)(h2:i.natAbs<2^64):dz (.int i) (.int j)=some (.int (i^j.toNat)):=by
 unfold dz i2;dsimp only;rw[if_pos (by rw[decide_eq_true h0,decide_eq_true h1,decide_eq_true h2];rfl)]
theorem iR {x y:D}(h:dP x<=32):lU x y=some (.bl (cP x y)):=if_pos h
theorem jq {x y:D}(h:dP x<=32):iF x y=some (.bl (!cP x y)):=if_pos h
theorem eU(i j:Int):cP (.int i) (.int j)=decide (i=j):=by
 unfold cP;rw[Bool.eq_iff_iff];simp
theorem cq(i:Int):dP (.int i)=0:=by unfold dP;rfl
structure Bag(N:Nat)(a b:Int):Prop where
 a0:0<=a
 a1:a.natAbs<10^180
 b0:0<=b
 b1:b<=N
 lo:b≠0->a.natAbs<2147483647
abbrev aW(a b:Int):List D:=[.int a,.int b]
def oh:FS:=
 ax (fw (bb (al j7 (ai 1) (aj bX (aa (ai 0) (ah))))) (aX (al aT (ai 0) (ai 1))) (skip))
 (aX (ay (.int 0)))
def eY:List D->Option D:=fu .s 2 oh
def wT:FS:=
 ax (aJ 2 (al bp (aj pV (aa (aj (nF 2 eY) (aa (ai 0) (aa (ai 1) (ah)))) (ah))) (al b9 (al b9 (al dz (ay (.int 10)) (ay (.int 60))) (al dz (ay (.int 10)) (ay (.int 60)))) (al dz (ay (.int 10)) (ay (.int 60))))))
 (ax (fw (bb (al Ee (ai 2) (al dz (ay (.int 10)) (ay (.int 18))))) (aX (a9 (aa (ai 2) (aa (ay (.int 0)) (ah))))) (skip))
 (ax (aJ 3 (al bp (al aZ (al aZ (ai 2) (al b9 (ay (.int 7919)) (ai 1))) (ay (.int 17))) (ay (.int 2147483647))))
 (ax (cz (b8 (bq (aa (aj lw (aa (aj bX (aa (ai 0) (ah))) (aa (ay (.int 9)) (ah)))) (ah)))) (gN 4) (aJ 3 (al bp (al aZ (al aZ (al dz (ai 3) (ay (.int 5))) (al bp (al aT (ai 0) (ai 4)) (ay (.int 2147483629)))) (al b9 (ay (.int 31)) (ai 4))) (ay (.int 2147483647)))))
 (aX (a9 (aa (ai 3) (aa (ay (.int 1)) (ah))))))))
def wQ:List D->Option D:=fu .n 5 wT
def m8:FS:=
 ax (fw (bb (al lU (al aT (cS 0) (ay (.int 1))) (ay (.int 0)))) (ax (aJ 2 (al bp (al aT (cS 0) (ay (.int 0))) (ai 1)))
 (ax (dm (dC 0 (ay (.int 0))) (pu (al gB (al aT (cS 0) (ay (.int 0))) (ai 1))))
 (aX (ai 2)))) (skip))
 (ax (dm (dC 0 (ay (.int 0))) (pu (al bp (al aZ (al aZ (al dz (al aT (cS 0) (ay (.int 0))) (ay (.int 5))) (al b9 (ay (.int 48271)) (al aT (cS 0) (ay (.int 1))))) (ay (.int 11))) (ay (.int 2147483647)))))
 (ax (dm (dC 0 (ay (.int 1))) (pu (al aZ (al aT (cS 0) (ay (.int 1))) (ay (.int 1)))))
 (aX (al bp (al gB (al bp (al b9 (al aT (cS 0) (ay (.int 0))) (ay (.int 69621))) (ay (.int 2147483629))) (ay (.int 8))) (ai 1)))))
def cZ:List D->List D->Option (D×List D):=vc .s 3 m8
def pE:FS:=
 ax (ce 2 (xK (ai 1)))
 (ax (ce 3 (a9 (ah)))
 (ax (gE (bb (al iF (cS 2) (a9 (ah)))) (bU (aO 3 1 gY (gA (aO 2 1 ma (gA (aO 0 1 cZ (b8 (aa (aj bX (aa (cS 2) (ah))) (ah)))) (b8 (ah)))) (b8 (ah))))) 16)
 (qz 3)))
def fK:List D->List D->Option (D×List D):=vc .n 4 pE
theorem c8 {i m:Int}(h:0<m):0<=i % m/\i % m<m:=⟨Int.emod_nonneg _ (by omega),Int.emod_lt_of_pos _ h⟩
theorem kH {N:Nat}{a b m:Int}(B:Bag N a b)(hN:N<=1000000000)(hm:0<m)(hm2:m.natAbs<10^20): ∃d a' b',cZ (aW a b) [.int m]=some (.int d,aW a' b')/\Bag (N+1) a' b'/\0<=d/\d<m:=by
 have hm3:m.natAbs<10^200:=Nat.lt_of_lt_of_le hm2 (by decide)
 by_cases hb:b=0
 ·subst hb
  refine⟨a % m,a / m,0,?_,⟨Int.ediv_nonneg B.a0 (by omega),?_,by omega,by omega,λz=>absurd rfl z⟩,c8 hm⟩
  ·simp[cZ,vc,m8,nE,aW,ax,fw,bb,al,aT,cS,ai,ay,iR,eU,cq,rF,kI,oo,aJ,cb hm,dm,pu,jU hm hm3,dC,eP,eI,Ca,aX,lZ]
  ·have h1:=B.a1
   have:a / m<=a:=Int.ediv_le_self _ B.a0
   have:0<=a / m:=Int.ediv_nonneg B.a0 (by omega)
   omega
 ·have lo:=B.lo hb
  have p1:a.natAbs<2^64:=Nat.lt_trans lo (by decide)
  have p2:b.natAbs<10^200:=Nat.lt_of_lt_of_le (show b.natAbs<10^10 by have:=B.b1;have:=B.b0;omega) (by decide)
  generalize hA:(a^5+48271*b+11) % 2147483647=A
  have hA':0<=A/\A<2147483647:=by rw[<-hA];exact c8 (by decide)
  have p3:A.natAbs<10^200:=Nat.lt_of_lt_of_le (show A.natAbs<10^10 by omega) (by decide)
  refine⟨A*69621 % 2147483629 / 8 % m,A,b+1,?_,⟨hA'.1,?_,by have:=B.b0;omega,by have:=B.b1;omega,λ_=>by omega⟩,c8 hm⟩
  ·have c1:(48271:Int).natAbs<10^200:=Nat.lt_of_lt_of_le (show(48271:Int).natAbs<10^10 by decide) (by decide)
   have c2:(69621:Int).natAbs<10^200:=Nat.lt_of_lt_of_le (show(69621:Int).natAbs<10^10 by decide) (by decide)
   have c3:(8:Int).natAbs<10^200:=Nat.lt_of_lt_of_le (show(8:Int).natAbs<10^10 by decide) (by decide)
   have e1:dz (.int a) (.int 5)=some (.int (a^5)):=iT (by decide) (by decide) p1
   have e2:b9 (.int 48271) (.int b)=some (.int (48271*b)):=cV c1 p2
   have e3: ∀i:Int,bp (.int i) (.int 2147483647)=some (.int (i % 2147483647)):=λi=>cb (by decide)
   have e4: ∀i:Int,bp (.int i) (.int 2147483629)=some (.int (i % 2147483629)):=λi=>cb (by decide)
   have e5:b9 (.int A) (.int 69621)=some (.int (A*69621)):=cV p3 c2
   have e6: ∀i:Int,gB (.int i) (.int 8)=some (.int (i / 8)):=λi=>jU (by decide) c3
   simp[cZ,vc,m8,nE,aW,ax,fw,bb,al,aT,cS,ai,ay,iR,eU,cq,rF,kI,oo,hb,skip,e1,e2,e3,e4,b6,dm,pu,dC,eP,eI,Ca,aX,lZ,hA,e5,e6,cb hm]
  ·exact Nat.lt_of_lt_of_le (show A.natAbs<10^10 by omega) (by decide)
theorem az {t u:FS}{ρ ρ':aC}(h:t ρ=.nx ρ'):ax t u ρ=u ρ':=by unfold ax;rw[h]
abbrev nI(i:Nat):D:=.int (i:Int)
abbrev dn(ns:List Int):D:=.scr (ns.map D.int)
theorem x6(n:Nat):uZ 0 n=(List.range n).map nI:=by
 unfold uZ;simp
theorem hW {n j:Nat}(h:j<n):oo n (j:Int)=some j:=by
 unfold oo;rw[if_pos (by omega),if_pos (by omega)];simp
theorem yA(ns:List Int)(k:Nat): ∃c,eY [dn ns,nI k]=some (.int c):=by
 by_cases h:k<ns.length
 ·refine⟨ns[k],?_⟩
  simp[eY,fu,oh,eR,ax,fw,bb,al,ai,aj,aa,ah,bX,i8,rF,h,aX,aT,kI,hW (show k<(ns.map D.int).length by simpa using h)]
  simp[hW h,h]
 ·refine⟨0,?_⟩
  simp[eY,fu,oh,eR,ax,fw,bb,al,ai,aj,aa,ah,bX,i8,rF,h,aX,skip,ay]
theorem oX(ns:List Int)(k:D)(c:D): ∀(l:List Nat),(∀i∈l,i<ns.length/\i<1000)-> ∀(x:Int) (s4:Sl),0<=x->x<2147483647-> ∃(x':Int) (s4':Sl),0<=x'/\x'<2147483647/\
 dv (gN 4) (aJ 3 (al bp (al aZ (al aZ (al dz (ai 3) (ay (.int 5))) (al bp (al aT (ai 0) (ai 4)) (ay (.int 2147483629)))) (al b9 (ay (.int 31)) (ai 4))) (ay (.int 2147483647)))) (l.map nI) [.v (dn ns),.v k,.v c,.v (.int x),s4]=.nx [.v (dn ns),.v k,.v c,.v (.int x'),s4']
 | [],_,x,s4,h1,h2=>⟨x,s4,h1,h2,rfl⟩
 |i::l,hl,x,s4,h1,h2=>by
  obtain⟨hi,hi2⟩:=hl i (by simp)
  have e1:dz (.int x) (.int 5)=some (.int (x^5)):=iT (by decide) (by decide) (Nat.lt_of_lt_of_le (show x.natAbs<10^10 by omega) (by decide))
  have e2:b9 (.int 31) (nI i)=some (.int (31*i)):=cV (Nat.lt_of_lt_of_le (show(31:Int).natAbs<10^10 by decide) (by decide)) (Nat.lt_of_lt_of_le (show(i:Int).natAbs<10^10 by omega) (by decide))
  have e3: ∀i:Int,bp (.int i) (.int 2147483647)=some (.int (i % 2147483647)):=λi=>cb (by decide)
  have e4: ∀i:Int,bp (.int i) (.int 2147483629)=some (.int (i % 2147483629)):=λi=>cb (by decide)
  obtain⟨y1,y2⟩:=c8 (i:=x^5+ns[i] % 2147483629+31*i) (m:=2147483647) (by decide)
  obtain⟨x',s4',g1,g2,g3⟩:=oX ns k c l (λj hj=>hl j (by simp[hj])) _ (.v (nI i)) y1 y2
  refine⟨x',s4',g1,g2,?_⟩
  rw[<-g3];simp[dv,gN,aJ,al,ai,ay,e1,e2,e3,e4,aT,kI,hW (show i<(ns.map D.int).length by simpa using hi),hW hi,hi,b6]
theorem BX(ns:List Int)(k:Nat)(hk:k<=1000)(hn:ns.length<=63): ∃a b,wQ [dn ns,nI k]=some (.lst (aW a b))/\Bag 1 a b:=by
 obtain⟨c,hc⟩:=yA ns k
 have p1:dz (.int 10) (.int 60)=some (.int (10^60)):=iT (by decide) (by decide) (by decide)
 have p2:dz (.int 10) (.int 18)=some (.int (10^18)):=iT (by decide) (by decide) (by decide)
 have q60:((10:Int)^60).natAbs<10^200:=by decide
 have q120:((10:Int)^60*10^60).natAbs<10^200:=by decide
 have m1:b9 (.int (10^60)) (.int (10^60))=some (.int (10^60*10^60)):=cV q60 q60
 have m2:b9 (.int (10^60*10^60)) (.int (10^60))=some (.int (10^60*10^60*10^60)):=cV q120 q60
 have m3:b9 (.int 7919) (nI k)=some (.int (7919*k)):=cV (Nat.lt_of_lt_of_le (show(7919:Int).natAbs<10^10 by decide) (by decide)) (Nat.lt_of_lt_of_le (show(k:Int).natAbs<10^10 by omega) (by decide))
 generalize hA:(if c<0 then -c else c) % (10^60*10^60*10^60)=A
 have hA':0<=A/\A<10^60*10^60*10^60:=by rw[<-hA];exact c8 (by decide)
 have s1:aJ 2 (al bp (aj pV (aa (aj (nF 2 eY) (aa (ai 0) (aa (ai 1) (ah)))) (ah))) (al b9 (al b9 (al dz (ay (.int 10)) (ay (.int 60))) (al dz (ay (.int 10)) (ay (.int 60)))) (al dz (ay (.int 10)) (ay (.int 60))))) [.v (dn ns),.v (nI k),.no,.no,.no]=.nx [.v (dn ns),.v (nI k),.v (.int A),.no,.no]:=by
  have m4: ∀i:Int,bp (.int i) (.int (10^60*10^60*10^60))=some (.int (i % (10^60*10^60*10^60))):=λi=>cb (by decide)
  unfold aJ;have:al bp (aj pV (aa (aj (nF 2 eY) (aa (ai 0) (aa (ai 1) (ah)))) (ah))) (al b9 (al b9 (al dz (ay (.int 10)) (ay (.int 60))) (al dz (ay (.int 10)) (ay (.int 60)))) (al dz (ay (.int 10)) (ay (.int 60)))) [.v (dn ns),.v (nI k),.no,.no,.no]=some (.int A):=by
   have ec:aj (nF 2 eY) (aa (ai 0) (aa (ai 1) ah)) [.v (dn ns),.v (nI k),.no,.no,.no]=some (.int c):=hc
   simp only[al,aj,aa,ah,ay,Option.bind_some,p1,m1,m2,pV];have ec':((ai 0 [.v (dn ns),.v (nI k),.no,.no,.no]).bind λd=>((ai 1 [.v (dn ns),.v (nI k),.no,.no,.no]).bind λd=>(some []).map λr=>d::r).map λr=>d::r).bind (nF 2 eY)=some (.int c):=hc
   rw[ec'];simp only[Option.bind_some,Option.map_some,m4,pV,hA]
  rw[this];rfl
 have r0:eR 5 [dn ns,nI k]=[.v (dn ns),.v (nI k),.no,.no,.no]:=rfl
 unfold wQ fu wT;rw[r0,az s1];have hA180:A.natAbs<10^180:=by
  have:(10:Int)^60*10^60*10^60=((10^180:Nat):Int):=by decide
  rw[this] at hA';omega
 by_cases hb:(10:Int)^18<=A
 ·refine⟨A,0,?_,⟨hA'.1,hA180,by decide,by decide,λz=>absurd rfl z⟩⟩
  simp only[ax,fw,bb,al,ai,List.getElem?_cons_succ,List.getElem?_cons_zero,Option.bind_some,ay,p2,tG,rF,decide_eq_true hb,aX,jf,aa,ah,Option.map_some];rw[dh (by simp)]
 ·generalize hx:(A+7919*(k:Int)+17) % 2147483647=x
  have hx':0<=x/\x<2147483647:=by rw[<-hx];exact c8 (by decide)
  have m4:bp (.int (A+7919*(k:Int)+17)) (.int 2147483647)=some (.int x):=by rw[cb (by decide),hx]
  have hr:bq (aa (aj lw (aa (aj bX (aa (ai 0) (ah))) (aa (ay (.int 9)) (ah)))) (ah)) [.v (dn ns),.v (nI k),.v (.int A),.v (.int x),.no]=some ((List.range (min ns.length 9)).map nI):=by
   rw[o0];simp only[aj,aa,ah,ai,ay,List.getElem?_cons_zero,Option.bind_some,Option.map_some,bX,lw,List.length_map];have:(if(9:Int)<(ns.length:Int) then(9:Int) else(ns.length:Int))=((min ns.length 9:Nat):Int):=by split<;>omega
   rw[this,pc (by omega),x6,Int.toNat_natCast]
  obtain⟨x',s4',g1,g2,g3⟩:=oX ns (nI k) (.int A) (List.range (min ns.length 9)) (λi hi=>by have:=List.mem_range.mp hi;omega) x .no hx'.1 hx'.2
  refine⟨x',1,?_,⟨g1,Nat.lt_of_lt_of_le (show x'.natAbs<10^10 by omega) (by decide),by decide,by decide,λ_=>by omega⟩⟩
  have f1:cz (b8 (bq (aa (aj lw (aa (aj bX (aa (ai 0) (ah))) (aa (ay (.int 9)) (ah)))) (ah)))) (gN 4) (aJ 3 (al bp (al aZ (al aZ (al dz (ai 3) (ay (.int 5))) (al bp (al aT (ai 0) (ai 4)) (ay (.int 2147483629)))) (al b9 (ay (.int 31)) (ai 4))) (ay (.int 2147483647)))) [.v (dn ns),.v (nI k),.v (.int A),.v (.int x),.no]=.nx [.v (dn ns),.v (nI k),.v (.int A),.v (.int x'),s4']:=by
   unfold cz b8;rw[hr];exact g3
  have i1:fw (bb (al Ee (ai 2) (al dz (ay (.int 10)) (ay (.int 18))))) (aX (a9 (aa (ai 2) (aa (ay (.int 0)) (ah))))) (skip) [.v (dn ns),.v (nI k),.v (.int A),.no,.no]=.nx [.v (dn ns),.v (nI k),.v (.int A),.no,.no]:=by
   simp only[fw,bb,al,ai,List.getElem?_cons_succ,List.getElem?_cons_zero,Option.bind_some,ay,p2,tG,rF,decide_eq_false hb,skip]
  have i2:aJ 3 (al bp (al aZ (al aZ (ai 2) (al b9 (ay (.int 7919)) (ai 1))) (ay (.int 17))) (ay (.int 2147483647))) [.v (dn ns),.v (nI k),.v (.int A),.no,.no]=.nx [.v (dn ns),.v (nI k),.v (.int A),.v (.int x),.no]:=by
   simp only[aJ,al,ai,List.getElem?_cons_succ,List.getElem?_cons_zero,Option.bind_some,ay,m3,b6,m4,List.set_cons_succ,List.set_cons_zero]
  rw[az i1,az i2,az f1];simp only[aX,jf,aa,ah,ai,ay,List.getElem?_cons_succ,List.getElem?_cons_zero,Option.bind_some,Option.map_some];rw[dh (by simp)]
theorem cY {i n:Nat}{M:List D->List D->Option (D×List D)}{fs:GA}{ρ ρ1:aC}{b0 bs ds bs':List D}{d:D}(h0:eP i ρ=some b0)(h1:fs ρ=some (ds,ρ1))(h2:eP i ρ1=some bs)(h3:ds.length=n)(h4:M bs ds=some (d,bs')):aO i n M fs ρ=some (d,eI i bs' ρ1):=by
 unfold aO;rw[h0];dsimp only;rw[h1];dsimp only;rw[h2];dsimp only;rw[if_pos h3,h4]
theorem pB {f:GE}{fs:GA}{ρ ρ1 ρ2:aC}{d:D}{ds:List D}(h1:f ρ=some (d,ρ1))(h2:fs ρ1=some (ds,ρ2)):gA f fs ρ=some (d::ds,ρ2):=by
 unfold gA bE;rw[h1];dsimp only[Option.bind];rw[h2];rfl
theorem br {f:FA}{ρ:aC}{ds:List D}(h:f ρ=some ds):b8 f ρ=some (ds,ρ):=by unfold b8;rw[h];rfl
theorem kr {f:FE}{ρ:aC}{d:D}(h:f ρ=some d):pu f ρ=some (d,ρ):=by unfold pu;rw[h];rfl
theorem mv {α β:Type}(f:α->β): ∀(l:List α) (j:Nat),(l.map f).eraseIdx j=(l.eraseIdx j).map f
 | [],_=>rfl
 |_::_,0=>rfl
 |x::l,j+1=>by simp[mv f l j]
theorem lq {α:Type}: ∀(l:List α) (j:Nat) (h:j<l.length),(l[j]::l.eraseIdx j).Perm l
 |_::_,0,_=>.refl _
 |x::l,j+1,h=>by
  have ih:=lq l j (by simpa using h)
  exact(List.Perm.swap _ _ _).trans (ih.cons x)
theorem jk: ∀r:List Nat,cv (r.map nI)=0
 | []=>by simp[cv]
 |a::r=>by
  rw[List.map_cons];unfold cv;rw[jk r];simp[dP]
theorem pN(r:List Nat):dP (.lst (r.map nI))<=32:=by unfold dP;rw[jk];omega
abbrev E5:FS->Nat->FS:=λb n=>gE (bb (al iF (cS 2) (a9 (ah)))) b n
abbrev mI:FS:=bU (aO 3 1 gY (gA (aO 2 1 ma (gA (aO 0 1 cZ (b8 (aa (aj bX (aa (cS 2) (ah))) (ah)))) (b8 (ah)))) (b8 (ah))))
theorem CH(n:D)(bg:List D)(left found:List Nat):bb (al iF (cS 2) (a9 (ah))) [.arg bg,.v n,.own (left.map nI),.own (found.map nI)]=some (!left.isEmpty):=by
 have h0:a9 ah [.arg bg,.v n,.own (left.map nI),.own (found.map nI)]=some (.lst []):=by
  rw[jf];simp only[ah,Option.bind_some];exact dh (by simp)
 unfold bb al;rw[h0];simp only[cS,List.getElem?_cons_succ,List.getElem?_cons_zero,Option.bind_some];rw[jq (pN left)];cases left with
 |nil=>simp[rF,cP,cT]
 |cons x r=>simp[rF,cP,cT]
theorem vR(n:D){N:Nat}{a b:Int}(B:Bag N a b)(hN:N<=1000000000)(left found:List Nat)(h0:0<left.length)(h1:left.length<=100)(h2:found.length<=100):
 ∃(j:Nat) (hj:j<left.length) (a' b':Int),mI [.arg (aW a b),.v n,.own (left.map nI),.own (found.map nI)]=.nx [.arg (aW a' b'),.v n,.own ((left.eraseIdx j).map nI),.own ((found++[left[j]]).map nI)]/\Bag (N+1) a' b':=by
 obtain⟨d,a',b',e,B',d0,d1⟩:=kH (m:=left.length) B hN (by omega) (Nat.lt_of_lt_of_le (show(left.length:Int).natAbs<10^10 by omega) (by decide))
 obtain⟨j,rfl⟩: ∃j:Nat,d=(j:Int):=⟨d.toNat,by omega⟩
 have hj:j<left.length:=by omega
 refine⟨j,hj,a',b',?_,B'⟩
 have e2:ma (left.map nI) [.int (j:Int)]=some (nI left[j],(left.eraseIdx j).map nI):=by
  rw[y8,dh (by simp;omega)]
  simp only[Option.bind_some];rw[hW (by simpa using hj)]
  simp[hj,mv]
 have e3:gY (found.map nI) [nI left[j]]=some (.non,(found++[left[j]]).map nI):=by
  rw[tZ,mt (by simp;omega)];simp
 have g:aO 0 1 cZ (b8 (aa (aj bX (aa (cS 2) (ah))) (ah))) [.arg (aW a b),.v n,.own (left.map nI),.own (found.map nI)]=some (nI j,[.arg (aW a' b'),.v n,.own (left.map nI),.own (found.map nI)]):=by
  simp[aO,eP,b8,aa,aj,cS,ah,bX,e,eI]
 have g2:aO 2 1 ma (gA (aO 0 1 cZ (b8 (aa (aj bX (aa (cS 2) (ah))) (ah)))) (b8 (ah))) [.arg (aW a b),.v n,.own (left.map nI),.own (found.map nI)]=some (nI left[j],[.arg (aW a' b'),.v n,.own ((left.eraseIdx j).map nI),.own (found.map nI)]):=by
  refine(cY (i:=2) (n:=1) (b0:=left.map nI) (ds:=[nI j]) (ρ1:=[.arg (aW a' b'),.v n,.own (left.map nI),.own (found.map nI)]) rfl (pB g rfl) rfl rfl e2).trans rfl
 have g3:aO 3 1 gY (gA (aO 2 1 ma (gA (aO 0 1 cZ (b8 (aa (aj bX (aa (cS 2) (ah))) (ah)))) (b8 (ah)))) (b8 (ah))) [.arg (aW a b),.v n,.own (left.map nI),.own (found.map nI)]=some (.non,[.arg (aW a' b'),.v n,.own ((left.eraseIdx j).map nI),.own ((found++[left[j]]).map nI)]):=by
  refine(cY (i:=3) (n:=1) (b0:=found.map nI) (ds:=[nI left[j]]) (ρ1:=[.arg (aW a' b'),.v n,.own ((left.eraseIdx j).map nI),.own (found.map nI)]) rfl (pB g2 rfl) rfl rfl e3).trans rfl
 unfold mI bU;rw[g3]
theorem Aj(n:D): ∀(f:Nat) (left found:List Nat) (N:Nat) (a b:Int),left.length<f->left.length<=50->found.length+left.length<=100->Bag N a b->N+left.length<=1000000000->
 ∃(o:List Nat) (a' b':Int),E5 mI f [.arg (aW a b),.v n,.own (left.map nI),.own (found.map nI)]=.nx [.arg (aW a' b'),.v n,.own [],.own ((found++o).map nI)]/\o.Perm left/\Bag (N+left.length) a' b'
 |0,left,found,N,a,b,h,_,_,_,_=>absurd h (Nat.not_lt_zero _)
 |f+1,left,found,N,a,b,h,h1,h2,B,hN=>by
  unfold E5 gE;rw[CH];cases e:left.isEmpty with
  |true=>
   have:left=[]:=by simpa using e
   subst this;exact⟨[],a,b,by simp,.refl _,by simpa using B⟩
  |false=>
   have h0:0<left.length:=by cases left with
    |nil=>cases e
    |cons x r=>simp
   obtain⟨j,hj,a1,b1,e1,B1⟩:=vR n B (by omega) left found h0 (by omega) (by omega)
   have hl:(left.eraseIdx j).length=left.length-1:=by rw[List.length_eraseIdx];simp[hj]
   obtain⟨o,a2,b2,e2,p,B2⟩:=Aj n f (left.eraseIdx j) (found++[left[j]]) (N+1) a1 b1 (by omega) (by omega) (by simp;omega) B1 (by omega)
   refine⟨left[j]::o,a2,b2,?_,?_,?_⟩
   ·simp only[Bool.not_false]
    rw[e1];dsimp only;have:gE (bb (al iF (cS 2) (a9 ah))) mI f=E5 mI f:=rfl
    rw[this,e2];simp
   ·exact(p.cons _).trans (lq left j hj)
   ·rw[show N+left.length=N+1+(left.eraseIdx j).length by omega];exact B2
structure Ord(n:Nat)(r:List Nat):Prop where
 perm:r.Perm (List.range n)
theorem Ord.len {n:Nat}{r:List Nat}(o:Ord n r):r.length=n:=by rw[o.perm.length_eq];simp
theorem Ord.lt {n:Nat}{r:List Nat}(o:Ord n r){v:Nat}(h:v∈r):v<n:=by simpa using o.perm.mem_iff.mp h
theorem Ord.has {n:Nat}{r:List Nat}(o:Ord n r){v:Nat}(h:v<n):v∈r:=o.perm.mem_iff.mpr (by simpa using h)
theorem Ord.nd {n:Nat}{r:List Nat}(o:Ord n r):r.Nodup:=o.perm.nodup_iff.mpr List.nodup_range
theorem vE {n:Nat}(h:n<=1000)(f:FE)(ρ:aC)(e:f ρ=some (nI n)):xK f ρ=some (.lst ((List.range n).map nI)):=by
 unfold xK zC;rw[e];simp only[Option.bind_some];rw[if_pos (by omega),x6];rfl
theorem pj {N:Nat}{a b:Int}(B:Bag N a b){n:Nat}(hn:n<=12)(hN:N<=900000000): ∃(o:List Nat) (a' b':Int),fK (aW a b) [nI n]=some (.lst (o.map nI),aW a' b')/\Ord n o/\Bag (N+n) a' b':=by
 obtain⟨o,a',b',e,p,B'⟩:=Aj (nI n) 16 (List.range n) [] N a b (by simp;omega) (by simp;omega) (by simp;omega) B (by simp;omega)
 refine⟨o,a',b',?_,⟨p⟩,by simpa using B'⟩
 have r0:nE 4 (aW a b) [nI n]=[.arg (aW a b),.v (nI n),.no,.no]:=rfl
 have s1:ce 2 (xK (ai 1)) [.arg (aW a b),.v (nI n),.no,.no]=.nx [.arg (aW a b),.v (nI n),.own ((List.range n).map nI),.no]:=by
  unfold ce;rw[vE (n:=n) (by omega) (ai 1) _ rfl]
  rfl
 have s2:ce 3 (a9 (ah)) [.arg (aW a b),.v (nI n),.own ((List.range n).map nI),.no]=.nx [.arg (aW a b),.v (nI n),.own ((List.range n).map nI),.own []]:=by
  unfold ce;rw[jf];simp only[ah,Option.bind_some];rw[dh (by simp)]
  rfl
 unfold fK vc pE;rw[r0,az s1,az s2];have e':gE (bb (al iF (cS 2) (a9 (ah)))) mI 16 [.arg (aW a b),.v (nI n),.own ((List.range n).map nI),.own []]=.nx [.arg (aW a' b'),.v (nI n),.own [],.own (o.map nI)]:=e
 rw[az e'];simp[qz,qI,lZ]
theorem au {F:D->D->Option D}{f g:FE}{ρ:aC}{x y:D}(h1:f ρ=some x)(h2:g ρ=some y):al F f g ρ=F x y:=by unfold al;rw[h1,Option.bind_some,h2,Option.bind_some]
theorem tF {F:D->D->Option D}{f g:GE}{ρ ρ1 ρ2:aC}{x y d:D}(h1:f ρ=some (x,ρ1))(h2:g ρ1=some (y,ρ2))(h3:F x y=some d):jl F f g ρ=some (d,ρ2):=by
 unfold jl bE;rw[h1];dsimp only[Option.bind];rw[h2];dsimp only[Option.bind];rw[h3];rfl
theorem bc {i:Nat}{f:FE}{ρ:aC}{d:D}(h:f ρ=some d):aJ i f ρ=.nx (ρ.set i (.v d)):=by unfold aJ;rw[h]
theorem i7 {i:Nat}{f:GE}{ρ ρ1:aC}{d:D}(h:f ρ=some (d,ρ1)):gF i f ρ=.nx (ρ1.set i (.v d)):=by unfold gF;rw[h]
theorem yu {i:Nat}{f:GE}{ρ ρ1:aC}{ds:List D}(h:f ρ=some (.lst ds,ρ1)):rh i f ρ=.nx (ρ1.set i (.own ds)):=by unfold rh;rw[h];rfl
theorem dW {i:Nat}{f:FE}{ρ:aC}{ds:List D}(h:f ρ=some (.lst ds)):ce i f ρ=.nx (ρ.set i (.own ds)):=by unfold ce;rw[h];rfl
theorem bB {f:FA}{ρ:aC}{ds:List D}(h:f ρ=some ds)(h2:ds.length<=1000):a7 f ρ=some (.tup ds):=by
 rw[zD,h,Option.bind_some,dh h2]
theorem cn {f:FA}{ρ:aC}{ds:List D}(h:f ρ=some ds)(h2:ds.length<=1000):a9 f ρ=some (.lst ds):=by
 rw[jf,h,Option.bind_some,dh h2]
theorem aq {f:FE}{fs:FA}{ρ:aC}{d:D}{ds:List D}(h1:f ρ=some d)(h2:fs ρ=some ds):aa f fs ρ=some (d::ds):=by unfold aa;rw[h1,h2];rfl
theorem cx {F:List D->Option D}{f:FA}{ρ:aC}{ds:List D}(h:f ρ=some ds):aj F f ρ=F ds:=by unfold aj;rw[h];rfl
theorem AD {r:List Nat}{c:Nat}(h:c<r.length):kI (r.map nI) (c:Int)=some (nI (r.getD c 0)):=y0 (by rw[List.getElem?_map,List.getElem?_eq_getElem h];simp[List.getD,h])
theorem mN {r:List Nat}{c:Nat}(h:c<r.length):aT (.lst (r.map nI)) (nI c)=some (nI (r.getD c 0)):=AD h
theorem w6 {r:List Nat}{c:Nat}(h:c<r.length):aT (.tup (r.map nI)) (nI c)=some (nI (r.getD c 0)):=AD h
theorem kT(a b:Nat):cP (nI a) (nI b)=decide (a=b):=by
 rw[eU];rw[Bool.eq_iff_iff];simp;omega
theorem EQ(a b:Nat):aZ (nI a) (nI b)=some (nI (a+b)):=by rw[b6];simp
theorem En(a:Nat):aZ (nI a) (.int 1)=some (nI (a+1)):=by rw[b6];simp
theorem DX {a n:Nat}(h:0<n):bp (nI a) (nI n)=some (nI (a % n)):=by rw[cb (by omega)];rfl
theorem qg {i:Nat}{fi:FE}{d:D}{ρ:aC}{bs:List D}{j:Nat}(h1:eP i ρ=some bs)(h2:fi ρ=some (nI j))(h3:j<bs.length):dC i fi d ρ=some (eI i (bs.set j d) ρ):=by
 unfold dC;rw[h1];dsimp only;rw[h2];dsimp only;rw[hW h3]
theorem wb(x:List Nat)(j v:Nat):(x.map nI).set j (nI v)=(x.set j v).map nI:=by rw[List.map_set]
def qK(n:Nat)(r x:List Nat)(c:Nat):List Nat:=if x.getD c 0=r.getD c 0 then(x.set c (x.getD ((c+1) % n) 0)).set ((c+1) % n) (x.getD c 0) else x
abbrev ua:FS:=ax (aJ 7 (al bp (al aZ (ai 6) (ay (.int 1))) (ai 1)))
 (fw (bb (al lU (al aT (cS 5) (ai 6)) (al aT (ai 4) (ai 6)))) (dm (gT 2 (bL (dC 5 (ai 6)) (bL (dC 5 (ai 7)) (eC)))) (pu (a7 (aa (al aT (cS 5) (ai 7)) (aa (al aT (cS 5) (ai 6)) (ah)))))) (skip))
theorem wd(bg:List D)(p q:D)(n:Nat)(r x:List Nat)(c:Nat)(s7:Sl)(hr:r.length=n)(hx:x.length=n)(hc:c<n):
 ua [.arg bg,.v (nI n),.v p,.v q,.v (.lst (r.map nI)),.own (x.map nI),.v (nI c),s7]=.nx [.arg bg,.v (nI n),.v p,.v q,.v (.lst (r.map nI)),.own ((qK n r x c).map nI),.v (nI c),.v (nI ((c+1) % n))]:=by
 have hd:(c+1) % n<n:=Nat.mod_lt _ (by omega)
 have e1:aJ 7 (al bp (al aZ (ai 6) (ay (.int 1))) (ai 1)) [.arg bg,.v (nI n),.v p,.v q,.v (.lst (r.map nI)),.own (x.map nI),.v (nI c),s7]=.nx [.arg bg,.v (nI n),.v p,.v q,.v (.lst (r.map nI)),.own (x.map nI),.v (nI c),.v (nI ((c+1) % n))]:=
  (bc ((au (au (x:=nI c) (y:=.int 1) rfl rfl |>.trans (En c)) (y:=nI n) rfl).trans (DX (by omega)))).trans rfl
 unfold ua;rw[az e1];have i1:al aT (cS 5) (ai 6) [.arg bg,.v (nI n),.v p,.v q,.v (.lst (r.map nI)),.own (x.map nI),.v (nI c),.v (nI ((c+1) % n))]=some (nI (x.getD c 0)):=(au (x:=.lst (x.map nI)) (y:=nI c) rfl rfl).trans (mN (by omega))
 have i2:al aT (ai 4) (ai 6) [.arg bg,.v (nI n),.v p,.v q,.v (.lst (r.map nI)),.own (x.map nI),.v (nI c),.v (nI ((c+1) % n))]=some (nI (r.getD c 0)):=(au (x:=.lst (r.map nI)) (y:=nI c) rfl rfl).trans (mN (by omega))
 have i3:al aT (cS 5) (ai 7) [.arg bg,.v (nI n),.v p,.v q,.v (.lst (r.map nI)),.own (x.map nI),.v (nI c),.v (nI ((c+1) % n))]=some (nI (x.getD ((c+1) % n) 0)):=(au (x:=.lst (x.map nI)) (y:=nI ((c+1) % n)) rfl rfl).trans (mN (by omega))
 unfold fw bb;rw[au i1 i2,iR (by rw[cq];omega),kT]
 by_cases e:x.getD c 0=r.getD c 0
 ·rw[decide_eq_true e]
  simp only[rF];unfold dm;rw[kr (bB (aq i3 (aq i1 rfl)) (by simp))]
  simp only[gT,List.length_cons,List.length_nil,bL];unfold qK;rw[if_pos e];rw[qg (bs:=x.map nI) (j:=c) rfl rfl (by simp;omega)]
  simp only[Option.bind_some];rw[qg (bs:=(x.map nI).set c (nI (x.getD ((c+1) % n) 0))) (j:=(c+1) % n) rfl rfl (by simp;omega)]
  simp only[Option.bind_some,eC,wb];rfl
 ·rw[decide_eq_false e]
  simp only[rF,skip];unfold qK;rw[if_neg e]
theorem swap_perm(x:List Nat)(c d:Nat)(hc:c<x.length)(hd:d<x.length):((x.set c (x.getD d 0)).set d (x.getD c 0)).Perm x:=by
 have e:(x.toArray.swap c d (by simpa using hc) (by simpa using hd)).toList=(x.set c (x.getD d 0)).set d (x.getD c 0):=by
  simp[Array.toList_swap,List.getD,hc,hd]
 rw[<-e];have:=Array.swap_perm (xs:=x.toArray) (i:=c) (j:=d) (by simpa using hc) (by simpa using hd)
 simpa using (Array.perm_iff_toList_perm.mp this)
theorem qY {x:List Nat}(h:x.Nodup){i j:Nat}(hi:i<x.length)(hj:j<x.length)(e:x.getD i 0=x.getD j 0):i=j:=by
 have:x[i]=x[j]:=by simpa [List.getD,hi,hj] using e
 exact(List.getElem_inj h).mp this
theorem Ord.fix {n:Nat}{r x:List Nat}(or:Ord n r)(ox:Ord n x){c:Nat}(hc:c<n)(hn:2<=n):Ord n (qK n r x c)/\((∀i,i<c->x.getD i 0≠r.getD i 0)-> ∀i,i<c+1->(qK n r x c).getD i 0≠r.getD i 0):=by
 have lx:=ox.len
 have lr:=or.len
 have hd:(c+1) % n<n:=Nat.mod_lt _ (by omega)
 have gx: ∀i,i<n->x.getD i 0=x[i]! :=λi hi=>by simp[List.getD,lx,hi]
 unfold qK
 by_cases e:x.getD c 0=r.getD c 0
 ·rw[if_pos e]
  have ne:(c+1) % n≠c:=by
   by_cases h:c+1<n
   ·rw[Nat.mod_eq_of_lt h];omega
   ·rw[show c+1=n by omega,Nat.mod_self];omega
  refine⟨⟨(swap_perm x c _ (by omega) (by omega)).trans ox.perm⟩,λh i hi=>?_⟩
  have g:((x.set c (x.getD ((c+1) % n) 0)).set ((c+1) % n) (x.getD c 0)).getD i 0=if i=(c+1) % n then x.getD c 0 else if i=c then x.getD ((c+1) % n) 0 else x.getD i 0:=by
   simp only[List.getD,List.getElem?_set,List.length_set]
   by_cases h1:(c+1) % n=i
   ·subst h1;simp[lx,hd]
   ·rw[if_neg h1,if_neg (Ne.symm h1)]
    by_cases h2:c=i
    ·subst h2;simp[lx,hc]
    ·rw[if_neg h2,if_neg (Ne.symm h2)]
  rw[g]
  by_cases h1:i=(c+1) % n
  ·rw[if_pos h1,e]
   intro z;have:=qY or.nd (by omega) (by omega) z
   omega
  ·rw[if_neg h1]
   by_cases h2:i=c
   ·rw[if_pos h2,h2,<-e]
    intro z;have:=qY ox.nd (by omega) (by omega) z
    omega
   ·rw[if_neg h2];exact h i (by omega)
 ·rw[if_neg e]
  refine⟨ox,λh i hi=>?_⟩
  by_cases hic:i=c
  ·subst hic;exact e
  ·exact h i (by omega)
theorem Ae(bg:List D)(p q:D){n:Nat}{r:List Nat}(or:Ord n r)(hn:2<=n): ∀(k c:Nat) (x:List Nat) (s6 s7:Sl),c+k=n->Ord n x->(∀i,i<c->x.getD i 0≠r.getD i 0)->
 ∃(x':List Nat) (s6' s7':Sl),dv (gN 6) ua ((List.range' c k).map nI) [.arg bg,.v (nI n),.v p,.v q,.v (.lst (r.map nI)),.own (x.map nI),s6,s7]=.nx [.arg bg,.v (nI n),.v p,.v q,.v (.lst (r.map nI)),.own (x'.map nI),s6',s7']/\Ord n x'/\ ∀i,i<n->x'.getD i 0≠r.getD i 0
 |0,c,x,s6,s7,h,ox,hi=>⟨x,s6,s7,rfl,ox,λi h'=>hi i (by omega)⟩
 |k+1,c,x,s6,s7,h,ox,hi=>by
  obtain⟨o1,o2⟩:=or.fix ox (c:=c) (by omega) hn
  obtain⟨x',a,b,e,o3,o4⟩:=Ae bg p q or hn k (c+1) (qK n r x c) (.v (nI c)) (.v (nI ((c+1) % n))) (by omega) o1 (o2 hi)
  refine⟨x',a,b,?_,o3,o4⟩
  rw[List.range'_succ,List.map_cons];unfold dv;have:gN 6 (nI c) [.arg bg,.v (nI n),.v p,.v q,.v (.lst (r.map nI)),.own (x.map nI),s6,s7]=some [.arg bg,.v (nI n),.v p,.v q,.v (.lst (r.map nI)),.own (x.map nI),.v (nI c),s7]:=rfl
  rw[this];dsimp only;rw[wd bg p q n r x c s7 or.len ox.len (by omega)]
  exact e
theorem cg {α:Type}{g:FG}{f:FE}{ρ0:aC}{h o:α->D}: ∀(l:List α),(∀i∈l,∃ρ1,g (h i) ρ0=some ρ1/\f ρ1=some (o i))->cB g cF f ρ0 (l.map h)=some (l.map o)
 | [],_=>rfl
 |a::l,H=>by
  obtain⟨ρ1,h1,h2⟩:=H a (by simp)
  have ih:=cg l λi hi=>H i (by simp[hi])
  rw[List.map_cons];unfold cB;rw[h1,Option.bind_some];simp only[cF,Option.bind_some,if_true,h2,ih];rfl
theorem cy {m:Nat}{gi:FA}{g:FG}{p:FT}{f:FE}{ρ:aC}{ds ys:List D}(h1:gi ρ=some ds)(h2:ds.length<=1000)(h3:cB g p f (ρ++List.replicate m .no) ds=some ys):aY m gi g p f ρ=some (.lst ys):=by
 rw[v6,h1,Option.bind_some,dh h2,Option.bind_some,h3];rfl
theorem yN: ∀n,2<=n->n<=6-> ∀b,1<=b->b<n->Ord n ((List.range n).map λi=>(i+b) % n):=by
 intro n h1 h2 b h3 h4;refine⟨?_⟩
 have: ∀n:_root_.Fin 7,∀b:_root_.Fin 7,((List.range n.val).map λi=>(i+b.val) % n.val).isPerm (List.range n.val)=true\/ ¬(b.val<n.val):=by decide
 rcases this ⟨n,by omega⟩ ⟨b,by omega⟩ with h|h
 ·exact List.isPerm_iff.mp h
 ·exact absurd h4 h
abbrev aA(r:List Nat):D:=.tup (r.map nI)
abbrev bO(r x:List Nat):D:=.tup [aA r,aA x]
structure Sq(n:Nat)(r x:List Nat):Prop where
 hr:Ord n r
 hx:Ord n x
 ne: ∀i,i<n->x.getD i 0≠r.getD i 0
theorem cf {f:FA}{ρ:aC}{n:Nat}(h:f ρ=some [nI n])(hn:n<=1000):bq f ρ=some ((List.range n).map nI):=by
 rw[o0,h,Option.bind_some,pc (by omega),x6];rfl
theorem D3 {n:Nat}{P:List D->Option D}{ds:List D}(h:ds.length=n):nF n P ds=P ds:=if_pos h
theorem k8 {g:FG}{f:GE}{ρ ρ1 ρ2:aC}{d:D}(h1:f ρ=some (d,ρ1))(h2:g d ρ1=some ρ2):dm g f ρ=.nx ρ2:=by unfold dm;rw[h1];dsimp only;rw[h2];rfl
theorem bw {n:Nat}{P:List D->Option D}{fs:FA}{ρ:aC}{ds:List D}(h:fs ρ=some ds)(hl:ds.length=n):aj (nF n P) fs ρ=P ds:=(cx h).trans (D3 hl)
theorem cu {kd:Kd}{n:Nat}{t:FS}{ds:List D}{ρ:aC}{d:D}(h:t (eR n ds)=.rt d ρ):fu kd n t ds=some d:=by unfold fu;rw[h]
theorem bo {f:FE}{ρ:aC}{d:D}(h:f ρ=some d):aX f ρ=.rt d ρ:=by unfold aX;rw[h]
theorem tE: ∀bs:List Bool,iH (bs.map D.bl)=some bs
 | []=>rfl
 |b::r=>by show(iH (r.map D.bl)).map (b:: ·)=_;rw[tE r];rfl
theorem tQ(bs:List Bool):sx [.lst (bs.map D.bl)]=some (.bl (bs.all id)):=by
 show(iH (bs.map D.bl)).map (λbs=>D.bl (bs.all id))=_
 rw[tE];rfl
theorem z9 {p:FT}{t u:FS}{ρ:aC}(h:p ρ=some false):fw p t u ρ=u ρ:=by unfold fw;rw[h]
theorem DF {p:FT}{t u:FS}{ρ:aC}(h:p ρ=some true):fw p t u ρ=t ρ:=by unfold fw;rw[h]
theorem Bh {p q:FT}{ρ:aC}{b:Bool}(h1:p ρ=some false)(h2:q ρ=some b):rY p q ρ=some b:=by unfold rY;rw[h1];exact h2
theorem DY {p q:FT}{ρ:aC}(h1:p ρ=some true):rY p q ρ=some true:=by unfold rY;rw[h1];rfl
theorem sA {p q:FT}{ρ:aC}{b:Bool}(h1:p ρ=some true)(h2:q ρ=some b):dw p q ρ=some b:=by unfold dw;rw[h1];exact h2
theorem Ce {p q:FT}{ρ:aC}(h1:p ρ=some false):dw p q ρ=some false:=by unfold dw;rw[h1];rfl
theorem yi {p q:FT}{ρ:aC}{a b:Bool}(h1:p ρ=some a)(h2:a=true->q ρ=some b)(h3:a=false->b=false):dw p q ρ=some b:=by
 cases a with
 |true=>exact sA h1 (h2 rfl)
 |false=>rw[h3 rfl];exact Ce h1
theorem qW {p:FT}{ρ:aC}{b:Bool}(h:p ρ=some b):kK p ρ=some (.bl b):=by unfold kK;rw[h];rfl
theorem kZ {f:GE}{ρ ρ1:aC}{d:D}(h:f ρ=some (d,ρ1)):bU f ρ=.nx ρ1:=by unfold bU;rw[h]
theorem bZ {f:FE}{ρ:aC}{b:Bool}(h:f ρ=some (.bl b)):bb f ρ=some b:=by unfold bb;rw[h];rfl
theorem k7 {f:FE}{ρ:aC}{b:Bool}(h:f ρ=some (.bl b)):fY f ρ=some b:=by unfold fY;rw[h];rfl
theorem lH {p:FT}{ρ:aC}{b:Bool}(h:p ρ=some b):gd p ρ=some (!b):=by unfold gd;rw[h];rfl
theorem ol {x:D}(h:dP x<=32):iF x x=some (.bl false):=by rw[jq h,k6];rfl
theorem cj {g:FG}{b:FS}{d:D}{r:List D}{ρ ρ1 ρ2:aC}(h1:g d ρ=some ρ1)(h2:b ρ1=.nx ρ2):dv g b (d::r) ρ=dv g b r ρ2:=by
 show(match g d ρ with
  |none=>Out.no
  |some ρ1=>match b ρ1 with
   | .nx ρ2=>dv g b r ρ2
   | .ct ρ2=>dv g b r ρ2
   | .bk ρ2=>.nx ρ2
   | .rt d ρ2=>.rt d ρ2
   | .no=>.no)=_
 rw[h1];dsimp only;rw[h2]
theorem c4 {f:GA}{g:FG}{b:FS}{ρ ρ1:aC}{ds:List D}(h:f ρ=some (ds,ρ1)):cz f g b ρ=dv g b ds ρ1:=by unfold cz;rw[h]
theorem ym {f:FE}{ρ:aC}{ds:List D}(h:f ρ=some (.lst ds)):lN f ρ=some ds:=by unfold lN;rw[h];rfl
theorem zk {f:FE}{ρ:aC}{ds:List D}(h:f ρ=some (.tup ds)):pP f ρ=some ds:=by unfold pP;rw[h];rfl
theorem fB {kd:Kd}{n:Nat}{t:FS}{ds:List D}{d:D}(h: ∃ρ,t (eR n ds)=.rt d ρ):fu kd n t ds=some d:=let⟨_,h⟩:=h;cu h
theorem vS {t u:FS}{ρ:aC}{d:D}(P:aC->Prop)(h: ∃ρ',t ρ=.nx ρ'/\P ρ')(hu: ∀ρ',P ρ'-> ∃ρ'',u ρ'=.rt d ρ''): ∃ρ'',ax t u ρ=.rt d ρ'':=by
 obtain⟨ρ',h1,h2⟩:=h
 obtain⟨ρ'',h3⟩:=hu ρ' h2
 exact⟨ρ'',(az h1).trans h3⟩
theorem m5 {f:GA}{g:FG}{b:FS}{ρ ρ1:aC}{ds:List D}{P:aC->Prop}(h:f ρ=some (ds,ρ1))(hl: ∃ρ',dv g b ds ρ1=.nx ρ'/\P ρ'): ∃ρ',cz f g b ρ=.nx ρ'/\P ρ':=by
 obtain⟨ρ',h1,h2⟩:=hl
 exact⟨ρ',(c4 h).trans h1,h2⟩
theorem kJ {g:FG}{b:FS}{P:aC->Prop}: ∀(l:List D),(∀d∈l,∀ρ,P ρ-> ∃ρ1 ρ2,g d ρ=some ρ1/\b ρ1=.nx ρ2/\P ρ2)-> ∀ρ,P ρ-> ∃ρ',dv g b l ρ=.nx ρ'/\P ρ'
 | [],_,ρ,p=>⟨ρ,rfl,p⟩
 |d::l,h,ρ,p=>by
  obtain⟨ρ1,ρ2,h1,h2,p2⟩:=h d (by simp) ρ p
  obtain⟨ρ',e,p'⟩:=kJ l (λd' hd=>h d' (by simp[hd])) ρ2 p2
  exact⟨ρ',(cj h1 h2).trans e,p'⟩
theorem Ed(i:Int){n:Nat}(h:0<n):(i % (n:Int)).toNat<n/\(((i % (n:Int)).toNat:Nat):Int)=i % n:=by
 have:=c8 (i:=i) (m:=n) (by omega)
 omega
theorem sj {i:Nat}{fs:GA}{ρ ρ1:aC}{b0 bs:List D}{d:D}(h0:eP i ρ=some b0)(h1:fs ρ=some ([d],ρ1))(h2:eP i ρ1=some bs)(h3:bs.length<=900):bU (aO i 1 gY fs) ρ=.nx (eI i (bs++[d]) ρ1):=
 kZ (cY h0 h1 h2 rfl (by rw[tZ,mt (by omega)]))
theorem jE {α:Type}{g:FG}{p:FT}{f:FE}{ρ0:aC}{h o:α->D}{q:α->Bool}: ∀(l:List α),(∀i∈l,∃ρ1,g (h i) ρ0=some ρ1/\p ρ1=some (q i)/\(q i=true->f ρ1=some (o i)))->cB g p f ρ0 (l.map h)=some ((l.filter q).map o)
 | [],_=>rfl
 |a::l,H=>by
  obtain⟨ρ1,h1,h2,h3⟩:=H a (by simp)
  have ih:=jE l λi hi=>H i (by simp[hi])
  rw[List.map_cons];unfold cB;rw[h1,Option.bind_some,h2,Option.bind_some];cases e:q a with
  |true=>rw[if_pos rfl,h3 e,Option.bind_some,ih];simp[e]
  |false=>rw[if_neg (by simp),ih];simp[e]
theorem gw {α:Type}{g:FG}{p:FT}{A:FA}{ρ0:aC}{h:α->D}{q:α->Bool}{o:α->List D}: ∀(l:List α),(∀i∈l,∃ρ1,g (h i) ρ0=some ρ1/\p ρ1=some (q i)/\(q i=true->A ρ1=some (o i)))->lM g p A ρ0 (l.map h)=some ((l.filter q).flatMap o)
 | [],_=>rfl
 |a::l,H=>by
  obtain⟨ρ1,h1,h2,h3⟩:=H a (by simp)
  have ih:=gw l λi hi=>H i (by simp[hi])
  rw[List.map_cons];unfold lM;rw[h1,Option.bind_some,h2,Option.bind_some];cases e:q a with
  |true=>rw[if_pos rfl,h3 e,Option.bind_some,ih];simp[e]
  |false=>rw[if_neg (by simp),ih];simp[e]
theorem tP {f:FE}{ρ:aC}{d:D}(h:f ρ=some d):pz f ρ=some [d]:=by unfold pz;rw[h];rfl
theorem nN {m:Nat}{gi1 gi2:FA}{g1 g2:FG}{p1 p2:FT}{f:FE}{ρ:aC}{ds ys:List D}(h1:gi1 ρ=some ds)(h2:lM g1 p1 (vx gi2 g2 p2 f) (ρ++List.replicate m .no) ds=some ys)(h3:ys.length<=1000):jX m gi1 g1 p1 gi2 g2 p2 f ρ=some (.lst ys):=by
 unfold jX;rw[h1,Option.bind_some,h2,Option.bind_some,if_pos (Nat.le_of_lt (fH h3))]
theorem rC {gi:FA}{g:FG}{p:FT}{f:FE}{ρ:aC}{ds ys:List D}(h1:gi ρ=some ds)(h2:lM g p (pz f) ρ ds=some ys):vx gi g p f ρ=some ys:=by
 unfold vx;rw[h1,Option.bind_some,h2]
theorem vZ(r:List Nat)(ρ:aC)(f:FE)(h:f ρ=some (.lst (r.map nI))):aj bX (aa f ah) ρ=some (nI r.length):=by
 rw[cx (aq h rfl)];show some (D.int ((r.map nI).length:Int))=_;rw[List.length_map]
theorem ee(r:List Nat)(ρ:aC)(f:FE)(h:f ρ=some (aA r)):aj bX (aa f ah) ρ=some (nI r.length):=by
 rw[cx (aq h rfl)];show some (D.int ((r.map nI).length:Int))=_;rw[List.length_map]
theorem Ai(L:List Nat)(c:Nat):(L.map nI).any (λd=>cP d (nI c))=decide (c∈L):=by
 induction L with
 |nil=>simp
 |cons a L ih=>
  rw[List.map_cons,List.any_cons,ih,kT,Bool.eq_iff_iff];simp only[Bool.or_eq_true,decide_eq_true_eq,List.mem_cons];exact or_congr_left eq_comm
theorem Fp(L:List Nat)(c:Nat):oJ false (nI c) (.lst (L.map nI))=some (.bl (decide (c∈L))):=by
 unfold oJ qL;dsimp only;rw[jk,if_pos (by omega),Ai]
 rfl
def Bd(n s e:Nat):List Nat:=(List.range (((e:Int) -s) % n).toNat).map λ(i:Nat)=>(s+i) % n
def lT(n s e x:Nat):Bool:=decide (((x:Int) -s) % n<((e:Int) -s) % n)
def D5(n s e:Nat):List Nat:=(List.range n).filter (lT n s e)
theorem yB {n:Nat}(h:0<n){s:Nat}(hs:s<n)(e x:Nat):x∈Bd n s e↔x<n/\lT n s e x=true:=by
 unfold Bd lT;rw[List.mem_map,decide_eq_true_eq];have m:=Ed ((e:Int) -s) h
 constructor
 ·rintro⟨i,hi,rfl⟩
  rw[List.mem_range] at hi;refine⟨Nat.mod_lt _ h,?_⟩
  rw[Int.natCast_emod,Int.emod_sub_emod,show(((s+i:Nat):Int) -s)=i by omega,Int.emod_eq_of_lt (by omega) (by omega)]
  omega
 ·rintro⟨hx,hb⟩
  have m2:=Ed ((x:Int) -s) h
  refine⟨(((x:Int) -s) % n).toNat,by rw[List.mem_range];omega,?_⟩
  have:(((s+(((x:Int) -s) % n).toNat) % n:Nat):Int)=x:=by
   rw[Int.natCast_emod,Int.natCast_add,m2.2,Int.add_emod_emod,show(s:Int)+((x:Int) -s)=x by omega,Int.emod_eq_of_lt (by omega) (by omega)]
  omega
theorem vm {n:Nat}(h:0<n)(s e:Nat):(Bd n s e).Nodup:=by
 unfold Bd;have m:=Ed ((e:Int) -s) h
 show List.Pairwise (·≠ ·) _
 rw[List.pairwise_map];refine List.Pairwise.imp_of_mem (λ{i j} hi hj hlt e=>?_) List.pairwise_lt_range
 rw[List.mem_range] at hi hj;have:(((s+i) % n:Nat):Int)=(((s+j) % n:Nat):Int):=by rw[e]
 rw[Int.natCast_emod,Int.natCast_emod,Int.natCast_add,Int.natCast_add,Int.add_comm (s:Int),Int.add_comm (s:Int),Int.emod_add_cancel_right,Int.emod_eq_of_lt (by omega) (by omega),Int.emod_eq_of_lt (by omega) (by omega)] at this
 omega
theorem plF_mem {n s e x:Nat}:x∈D5 n s e↔x<n/\lT n s e x=true:=by unfold D5;rw[List.mem_filter,List.mem_range]
theorem xN {n:Nat}(h:0<n){s:Nat}(hs:s<n)(e:Nat):(Bd n s e).Perm (D5 n s e):=
 (List.perm_ext_iff_of_nodup (vm h s e) (List.Pairwise.filter _ List.nodup_range)).mpr λx=>(yB h hs e x).trans plF_mem.symm
def fD(o:List Nat)(a b:Nat):List Nat:=(o.set a (o.getD b 0)).set b (o.getD a 0)
theorem oT {α β:Type}(f:α->β): ∀l:List α,l.flatMap (λc=>[f c])=l.map f
 | []=>rfl
 |a::l=>by rw[List.flatMap_cons,oT f l];rfl
theorem Ord.get {n:Nat}{o:List Nat}(O:Ord n o){i:Nat}(h:i<n):o.getD i 0<n:=by
 have ho:=O.len
 have:o.getD i 0=o[i]'(by omega):=by simp[List.getD,ho,h]
 rw[this];exact O.lt (List.getElem_mem _)
theorem Ord.inj {n:Nat}{o:List Nat}(O:Ord n o){i j:Nat}(hi:i<n)(hj:j<n)(e:o.getD i 0=o.getD j 0):i=j:=qY O.nd (by rw[O.len];exact hi) (by rw[O.len];exact hj) e
section
variable {X:Cx}{K:W.Frag}
def sG:V->List V->Hp->VK->Prop:=λx vs H Q=> ∃(l:Addr) (ns:List Int) (i:Int) (j:Nat),x=.ref l/\vs=[.int i]/\H l=some (.lst (ns.map V.int))/\ns.findIdx? (λm=>m==i)=some j/\Q .non (bz H l (.lst ((ns.map V.int).eraseIdx j)))
def EK(i:Int):Value->Bool
 | .int a _=>a==i
 |_=>false
theorem uA:D2 X "list.remove" sG:=by
 intro ae s σ H x vs v us Q I rx rv h;obtain⟨l,ns,i,j,rfl,rfl,hH,hj,q⟩:=h
 cases rx
 obtain⟨u,rfl,ru⟩:=rv.one
 obtain⟨t,rfl⟩:=ru
 obtain⟨z,its,n,r,hl,e⟩:=I.lstM hH
 have hlen:its.length=ns.length:=by rw[<-hl,List.length_map]
 have at': ∀m (hm:m<its.length),∃tk,its[m]=.int (ns[m]'(by omega)) tk:=λm hm=>by
  have g:(ns.map V.int)[m]? =some (V.int (ns[m]'(by omega))):=by rw[List.getElem?_map,List.getElem?_eq_getElem (by omega)];rfl
  obtain⟨w,hw,rw'⟩:=r.get g
  obtain⟨tk,rfl⟩:=rw'
  rw[List.getElem?_eq_getElem hm] at hw;exact⟨tk,Option.some.inj hw⟩
 have he: ∀y,y∈its.toArray->MeetsSeq.EqGives y (.int i t) (EK i y):=λy hy=>by
  obtain⟨m,hm,rfl⟩:=List.getElem_of_mem (List.mem_toArray.mp hy)
  obtain⟨tk,e1⟩:=at' m hm
  rw[e1];exact MeetsSeq.EqGives.int _ _ _ _
 obtain⟨j1,j2,j3⟩:=List.findIdx?_eq_some_iff_getElem.mp hj
 refine call_meets F.slot_list_remove ⟨_,e,rfl⟩ F.entry_list_remove (F.args_list_remove_2 _ _)
  (MeetsSeq.list_remove l its.toArray n (.int i t) (EK i) he j (by rw[List.size_toArray];omega) ?_ ?_ (by rw[List.size_toArray];omega)) ⟨e,?_⟩
 ·obtain⟨tk,e1⟩:=at' j (by omega)
  rw[List.getElem_toArray,e1];exact j2
 ·intro m hm hmj
  rw[List.size_toArray] at hm;obtain⟨tk,e1⟩:=at' m hm
  rw[List.getElem_toArray,e1];have:=j3 m hmj
  simpa [EK] using this
 refine⟨.non,_,I.lset (its':=its.eraseIdx j) hH e ?_ (r.eraseIdx j) ?_,rfl,q⟩
 ·show its.toArray.eraseIdxIfInBounds j=(its.eraseIdx j).toArray
  rw[List.eraseIdxIfInBounds_toArray]
 ·have:=jx (ns.map V.int) j
  omega
def vn:List D->List D->Option (D×List D):=λbs ds=>match ds with
 | [.int i]=>match fL bs with
   |some ns=>(ns.findIdx? (λm=>m==i)).map λj=>(.non,bs.eraseIdx j)
   |none=>none
 |_=>none
theorem ve:Dv K sG 1 vn:=by
 intro H hid a xs us bs ds bs' d Q h1 h2 h3 h4 h5 h6 q;unfold vn at h6;split at h6
 ·split at h6
  ·rename_i i _ ns e1
   cases e2:ns.findIdx? (λm=>m==i) with
   |none=>rw[e2] at h6;cases h6
   |some j=>
    rw[e2] at h6;cases h6;cases h4 with
    |cons r t=>
     cases t
     cases r
     have h3':=h3
     rw[lI e1] at h3';have ex:=fz h3'
     refine⟨a,ns,i,j,rfl,rfl,by rw[<-ex];exact h1,e2,?_⟩
     rw[<-ex];exact q _ _ (h3.eraseIdx j) .non
  ·cases h6
 ·cases h6
end
section
variable {X:Cx}{c:Ct}{k:Kd}{pos:Pos}
def xO(i j:Nat)(fs:FA):FS:=λρ=>match fs ρ with
 |some [d1,d2]=>.nx ((ρ.set i (.v d1)).set j (.v d2))
 |_=>.no
theorem AX(i j:Nat){x y:Str}{a b:Expr}{fs:FA}{px py pt:Pos}{kt k2 pt2}(hc:X.calm=true)(hN:X.N.Nodup)(ha:DA X c [a,b] fs)(hi:X.N[i]? =some x:=by rfl)(hj:X.N[j]? =some y:=by rfl)(hij:i≠j:=by decide)
 (hx:X.env.scope.names.lookup x=some .local:=by rfl) (hy:X.env.scope.names.lookup y=some .local:=by rfl)
 (hw:swappedStores [.Tuple [.Name x px,.Name y py] kt pt] (.Tuple [a,b] k2 pt2) X.env=pure (some [x,y]):=by rfl)
 (hs:swapsWithSole [.Tuple [.Name x px,.Name y py] kt pt] (.Tuple [a,b] k2 pt2) pos.line X.env=pure false:=by rfl):
 DS X c k (.Assign [.Tuple [.Name x px,.Name y py] kt pt] (.Tuple [a,b] k2 pt2) pos) (xO i j fs):=λρ=>
 PS.imp (Ch hc hN hi hj hij hx hy (Db λhid=>ha hid ρ) hw hs) λD σ H hq_=>by
  obtain⟨hid,sr,q⟩:=hq_
  unfold xO at q;cases e1:fs ρ with
  |none=>rw[e1] at q;exact q.elim
  |some ds=>
   rw[e1] at q
   match ds,e1,q with
   | [],_,q=>exact q.elim
   | [_],_,q=>exact q.elim
   |_::_::_::_,_,q=>exact q.elim
   | [d1,d2],e1,q=>
     refine⟨hid,sr,[d1,d2],e1,λvs H1 s1 r1=>?_⟩
     cases r1 with
     |cons r1 t=>
      cases t with
      |cons r2 t=>
       cases t
       exact⟨_,_,rfl,q _ H1 hid (((sr.ext s1).setV r1 i).setV r2 j) (aH s1)⟩
end
open PySem PySem.W PySem.Spec PyProof.Rows
theorem Inv.turnedL {X:Cx}{ae:List (Addr×Obj)}{σ:St}{H:Hp}{s:Shared}{h':Heap}{t':Nat}(L:List Addr)(I:Inv X ae σ H s)(hf: ∀b∈L,gG X ae H b)(k: ∀b o,b∉L->s.heap.get? b=some o->h'.get? b=some o):Inv X ae σ H {s with heap:=h',toks:=t'}:=by
 have nit: ∀b u,H b=some u->b∉L:=λb u e z=>by rw[(hf b z).1] at e;cases e
 have hL:X.env.locals∉L:=λz=>(hf _ z).2.1 rfl
 refine I.step (g':=s.gens) (d':=s.drawn) (ch:=L) (λb hb=>?_) (λb o _ _ hc e _=>k b o hc e) (λb o _ _ hc e _=>⟨o.slots,k b o hc e⟩) (λ_ _ _ _ n=>n)
  (λb o hc e=>⟨o,k b o hc e⟩) (λ_ _ e=>e) (λ_ _ _ e=>e) (λb ps e=>⟨#[],by rw[e];simp⟩) (λm hm=>?_) (λb u e=>?_) I.bare
 ·obtain⟨f0,f1,f2,f3,f4,f5⟩:=hf b hb
  exact⟨f3,f1,f4,f5⟩
 ·obtain⟨o,es,ep,ho,r⟩:=hm
  exact⟨o,es,ep,k _ o hL ho,r⟩
 ·refine(I.hok b u e).stay (λc v hc q=>k c v ?_ q) (λ_ q=>q) λ_ _ q=>q
  rcases hc with z|z
  ·rw[z];exact nit b u e
  ·exact nit c _ z
def Fi(K:W.Frag)(a b:Addr):It:=
 ⟨λi H=> ∃xs ys x y,SqL K H a xs/\SqL K H b ys/\xs[i]? =some x/\ys[i]? =some y,λi H x H'=> ∃T,x=.ref T/\H T=none/\ ∀xs ys,SqL K H a xs->SqL K H b ys-> ∃y z,xs[i]? =some y/\ys[i]? =some z/\H'=bz H T (.tup [y,z]),λi H=> ∃xs ys,SqL K H a xs/\SqL K H b ys/\(xs.length<=i\/ys.length<=i)⟩
theorem wD {P:Program}{w:World}{K:W.Frag}{es:List Expr}{x1}{pos:Pos}(a b z TI TO i1 i2:Addr)(AP:ZipApart z TI TO i1 i2 a b):Turn P w K (.Tuple es x1 pos) (Fi K a b) [z,TI,TO,i1,i2] z (λi h=>IsZip h z TI TO .none/\IsPair h TI (.ref i1) (.ref i2)/\(∃p q,IsPair h TO p q)/\h.IsListIter i1 a i/\h.IsListIter i2 b i) where
 mem:=by simp
 obj:=λi h st c hc=>by
  obtain⟨hz,hTI,⟨p,q,hTO⟩,⟨o1,ho1,_,hd1⟩,⟨o2,ho2,_,hd2⟩⟩:=st
  simp only[List.mem_cons,List.not_mem_nil,or_false] at hc;rcases hc with rfl|rfl|rfl|rfl|rfl
  ·exact⟨_,hz,λv e=>by cases e⟩
  ·exact⟨_,hTI,λv e=>by cases e⟩
  ·exact⟨_,hTO,λv e=>by cases e⟩
  ·exact⟨_,ho1,λv e=>by rw[hd1] at e;cases e⟩
  ·exact⟨_,ho2,λv e=>by rw[hd2] at e;cases e⟩
 keep:=λi h h' st k=>by
  obtain⟨hz,hTI,⟨p,q,hTO⟩,h1,h2⟩:=st
  exact⟨k z (by simp) _ hz,k TI (by simp) _ hTI,⟨p,q,k TO (by simp) _ hTO⟩,h1.at λo x=>k i1 (by simp) o x,h2.at λo x=>k i2 (by simp) o x⟩
 item:=by
  intro X hP hw hK hc i ae s σ H E I hf st hg;subst hP hw hK;obtain⟨xs,ys,x,y,hqx,hqy,hx,hy⟩:=hg
  obtain⟨itx,rvx,px,hzx⟩:=I.list hqx
  obtain⟨ity,rvy,py,hzy⟩:=I.list hqy
  obtain⟨u,hu,ru⟩:=rvx.get hx
  obtain⟨v,hv,rv⟩:=rvy.get hy
  obtain⟨hz,hTI,⟨p,q,hTO⟩,h1,h2⟩:=st
  refine wpAny_pyNext_zip_item AP hz hTI hTO h1 h2 (show s.heap.IsList a itx.toArray from px.isList) (show s.heap.IsList b ity.toArray from py.isList) (x:=u) (y:=v) (by simpa using hu) (by simpa using hv) λg gz gTO g1 g2 gT gsz hk=>⟨_,rfl,?_⟩
  refine wpAny_letOwnedTupleGo_zip gz λg' gz' hs'=>?_
  have lz:z<s.heap.objs.size:=Heap.lt_size hz
  have lTI:TI<s.heap.objs.size:=Heap.lt_size hTI
  have lTO:TO<s.heap.objs.size:=Heap.lt_size hTO
  have li1:i1<s.heap.objs.size:=let⟨_,e,_⟩:=h1;Heap.lt_size e
  have li2:i2<s.heap.objs.size:=let⟨_,e,_⟩:=h2;Heap.lt_size e
  have sb: ∀c,c≠z->g'.get? c=g.get? c:=λc hc=>hs'.2 c hc
  have gT':g'.get? s.heap.objs.size=some {cls:=.type "tuple",data:=.seq #[u,v]}:=(sb _ (Nat.ne_of_gt lz)).trans gT
  have gTO':IsPair g' TO u v:=(sb _ AP.TOz).trans gTO
  have g1':g'.IsListIter i1 a (i+1):=g1.at λo e=>(sb _ AP.i1z).trans e
  have g2':g'.IsListIter i2 b (i+1):=g2.at λo e=>(sb _ AP.i2z).trans e
  have gTI':IsPair g' TI (.ref i1) (.ref i2):=(sb _ AP.TIz).trans (hk TI _ AP.TIz AP.TITO AP.TIi1 AP.TIi2 hTI)
  have hn:H s.heap.objs.size=none:=I.hok.fresh (Nat.le_refl _)
  have fl: ∀c∈[z,TI,TO,i1,i2],c<s.heap.objs.size:=λc hc=>by
   simp only[List.mem_cons,List.not_mem_nil,or_false] at hc;rcases hc with rfl|rfl|rfl|rfl|rfl<;>assumption
  have hf': ∀c∈[z,TI,TO,i1,i2],gG X ae (bz H s.heap.objs.size (.tup [x,y])) c:=λc hc=>by
   obtain⟨f0,f1,f2,f3,f4,f5⟩:=hf c hc
   exact⟨by rw[aG (Nat.ne_of_lt (fl c hc))];exact f0,f1,f2,f3,f4,f5⟩
  have I0:Inv X ae σ (bz H s.heap.objs.size (.tup [x,y])) {s with heap:=s.heap.push {cls:=.type "tuple",data:=.seq #[u,v]},toks:=s.toks}:=
   I.laid (t':=s.toks) (λb o q=>Heap.get?_push_of_some _ q) (Nat.le_refl _) (show ObjOk X.prog X.w _ _ _ (.tup [x,y]) from
    ⟨Nat.le_of_lt (fH (by simp)),[u,v],.cons ru (.cons rv .nil),⟨_,Heap.get?_push_size _ rfl,rfl,_,rfl⟩,_,Heap.get?_push_size _ rfl,rfl⟩)
  have I1:Inv X ae σ (bz H s.heap.objs.size (.tup [x,y])) {s with heap:=g',toks:=s.toks}:=by
   have:=Inv.turnedL (t':=s.toks) (h':=g') [z,TI,TO,i1,i2] I0 hf' λc o hc e=>?_
   ·exact this
   simp only[List.mem_cons,List.not_mem_nil,or_false,not_or] at hc
   by_cases ec:c=s.heap.objs.size
   ·subst ec
    have e:(s.heap.push {cls:=.type "tuple",data:=.seq #[u,v]}).get? s.heap.objs.size=some o:=e
    rw[Heap.get?_push_size _ rfl] at e;cases e;exact gT'
   ·have e:(s.heap.push {cls:=.type "tuple",data:=.seq #[u,v]}).get? c=some o:=e
    rw[Heap.get?_push_ne _ _ _ ec] at e;exact(sb c hc.1).trans (hk c o hc.1 hc.2.2.1 hc.2.2.2.1 hc.2.2.2.2 e)
  refine⟨.ref s.heap.objs.size,bz H s.heap.objs.size (.tup [x,y]),I1,rfl,⟨_,rfl,hn,λxs' ys' hx' hy'=>⟨x,y,by rw[I.list_inj hx' hqx];exact hx,by rw[I.list_inj hy' hqy];exact hy,rfl⟩⟩,⟨gz',gTI',⟨_,_,gTO'⟩,g1',g2'⟩,λc hc=>(hf' c hc).1⟩
 done:=by
  intro X hP hw hK hc i ae s σ H E I hf st hg;subst hP hw hK;obtain⟨xs,ys,hqx,hqy,hx⟩:=hg
  obtain⟨itx,rvx,px,hzx⟩:=I.list hqx
  obtain⟨ity,rvy,py,hzy⟩:=I.list hqy
  obtain⟨hz,hTI,⟨p,q,hTO⟩,h1,h2⟩:=st
  have l1:=rvx.length
  have l2:=rvy.length
  refine wpAny_pyNext_zip_end (I.ok.hd hc) AP hz hTI hTO h1 h2 (show s.heap.IsList a itx.toArray from px.isList) (show s.heap.IsList b ity.toArray from py.isList) (hx.imp (λe=>by simp;omega) λe=>by simp;omega) λg hk=>⟨rfl,?_⟩
  refine Inv.turnedL [z,TI,TO,i1,i2] I hf λc o hc e=>?_
  simp only[List.mem_cons,List.not_mem_nil,or_false,not_or] at hc;exact hk c o hc.1 hc.2.2.1 hc.2.2.2.1 hc.2.2.2.2 e
 self:=λ_ _ _ _ _ st h=>let⟨hz,_⟩:=st;wpAny_pyIter_zip hz h
section
variable {X:Cx}{c:Ct}{k:Kd}{es:List Expr}{x1:Nat}{tp pos p:Pos}
def qy(xs ys:List D):List D:=(List.range (min xs.length ys.length)).map λ(i:Nat)=>D.tup [xs.getD i .non,ys.getD i .non]
def rH(f g:FE):FA:=λρ=>match f ρ,g ρ with
 |some (.lst xs),some (.lst ys)=>some (qy xs ys)
 |_,_=>none
theorem uB {f g:FE}{ρ:aC}{ds:List D}(h:rH f g ρ=some ds): ∃xs ys,f ρ=some (.lst xs)/\g ρ=some (.lst ys)/\ds=qy xs ys:=by
 unfold rH at h;split at h
 ·cases h;exact⟨_,_, ‹_›, ‹_›,rfl⟩
 ·cases h
theorem wf {K:W.Frag}{W:Hp}{a b:Addr}{xs ys:List V}{ds es:List D}(h1:SqL K W a xs)(h2:SqL K W b ys)(r1:Reps K W xs ds)(r2:Reps K W ys es):ItOk K W (Fi K a b) (qy ds es):=by
 have l1:=r1.length
 have l2:=r2.length
 have el:(qy ds es).length=min ds.length es.length:=by simp[qy]
 refine⟨λi d H e s=>?_,λH s=>⟨_,_,Same.seq s h1,Same.seq s h2,?_⟩⟩
 ·have hi:i<min ds.length es.length:=by rw[<-el];exact(List.getElem?_eq_some_iff.mp e).1
  have ex:xs[i]? =some xs[i]:=List.getElem?_eq_getElem (by omega)
  have ey:ys[i]? =some ys[i]:=List.getElem?_eq_getElem (by omega)
  refine⟨⟨_,_,xs[i],ys[i],Same.seq s h1,Same.seq s h2,ex,ey⟩,λy H' ⟨T,e2,hT,e3⟩=>?_⟩
  subst e2;obtain⟨u,v,e4,e4',e5⟩:=e3 _ _ (Same.seq s h1) (Same.seq s h2)
  subst e5;refine⟨bh hT _,λhid tr sw=>?_⟩
  have hf:hid T=false:=by
   cases eh:hid T with
   |false=>rfl
   |true=>obtain⟨o,ho⟩:=tr T eh;rw[hT] at ho;cases ho
  obtain⟨d',e6,r6⟩:=r1.get' e4
  obtain⟨d'',e7,r7⟩:=r2.get' e4'
  have ed:d=.tup [d',d'']:=by
   unfold qy at e;rw[List.getElem?_map,List.getElem?_range hi] at e;have q1:ds.getD i .non=d':=by simp[List.getD,e6]
   have q2:es.getD i .non=d'':=by simp[List.getD,e7]
   rw[Option.map_some,q1,q2] at e;exact(Option.some.inj e).symm
  rw[ed];exact g7 hT hf (.cons (r6.mono sw) (.cons (r7.mono sw) .nil))
 ·rw[el];omega
theorem vt(n l1 l2:Nat)(h1:l1<n)(h2:l2<n):ZipApart (n+4) (n+2) (n+3) n (n+1) l1 l2:=by
 constructor<;>(show¬ @Eq Nat _ _)<;>omega
theorem yp {e1 e2:Expr}{f g:FE}(h1:DP X c .s e1 f)(h2:DP X c .s e2 g)(hm:X.mg "zip"=none)(hg:Gl X "zip":=by rfl)(hs:starEach [e1,e2] X.env=(false,eval e1 X.env)::starEach [e2] X.env:=by rfl)(hs2:starEach [e2] X.env=[(false,eval e2 X.env)]:=by rfl):DIp X c (.Tuple es x1 tp) (.Call (.Name "zip" p) [e1,e2] [] pos) (rH f g):=by
 intro hid ρ ae s σ H R I hq;obtain⟨sr,ds,hd,q⟩:=hq
 obtain⟨xs,ys,a1,a2,rfl⟩:=uB hd
 refine Call_ (jJ (u:=.type "zip") I hg hm (by kernel_rfl) (PyProof.Rows.callWith_type1 (bV (bF (h1 hid ρ) (bF (h2 hid ρ) eB hs2) hs pos ae s σ H (λvs H'=> ∃v w,vs=[v,w]/\Same H H'/\Rep X.K (vw H' hid) v (.lst xs)/\Rep X.K (vw H' hid) w (.lst ys)) I ⟨sr,_,a1,λv H' s' r=>⟨sr.ext s',_,a2,λw H'' s'' r'=>⟨v,w,rfl,s'.trans s'',Rep.mono (aH s'') r,r'⟩⟩⟩) λvs s1 ⟨ws,H1,I1,r1,v,w,e,s',r,r'⟩=>?_) hs (by rw[hs2];rfl)))
 subst e;cases r1 with
 |cons ra rb=>
  cases rb with
  |cons rb rc=>
   cases rc
   cases r with
   |lst t1 t2=>
    cases r' with
    |lst t3 t4=>
     have t1:=SqL.of (K:=X.K) t1
     have t3:=SqL.of (K:=X.K) t3
     cases ra
     cases rb
     obtain⟨itx,rvx,px,hzx⟩:=I1.list ((dG _ _).seq t1)
     obtain⟨ity,rvy,py,hzy⟩:=I1.list ((dG _ _).seq t3)
     have b1: ∀ {c:Addr} {us},s1.heap.IsList c us->c<s1.heap.objs.size:=λh=>let⟨_,e,_⟩:=h;Heap.lt_size e
     have L1:s1.heap.IsList _ itx.toArray:=px.isList
     have L2':s1.heap.IsList _ ity.toArray:=py.isList
     have m1:=b1 L1
     have m2:=b1 L2'
     refine call_zip_2 L1 L2' λg hz hTI hTO hi1 hi2 hsz hk=>?_
     refine wpAny_pyIter_zip hz ⟨_,[s1.heap.objs.size+4,s1.heap.objs.size+2,s1.heap.objs.size+3,s1.heap.objs.size,s1.heap.objs.size+1],_,_,H1,rfl,I1.kept (t':=s1.toks) λb o e=>hk b o e,wD _ _ _ _ _ _ _ (vt _ _ _ m1 m2),⟨hz,hTI,⟨_,_,hTO⟩,hi1,hi2⟩,λb hb=>?_,q _ H1 s' (wf t1 t3 t2 t4)⟩
     have hb:s1.heap.objs.size<=b:=by
      simp only[List.mem_cons,List.not_mem_nil,or_false] at hb;rcases hb with rfl|rfl|rfl|rfl|rfl
      ·exact Nat.le_add_right _ _
      ·exact Nat.le_add_right _ _
      ·exact Nat.le_add_right _ _
      ·exact Nat.le_refl _
      ·exact Nat.le_add_right _ _
     exact I1.fpOk hb (I1.hok.fresh hb)
end
section
variable {X:Cx}{c:Ct}{a b e:Expr}{f g:FE}{pos p p2 p3:Pos}{k:Kd}
def AE(K:W.Frag):R2:=λx y H Q=> ∃l b xs zs,x=.ref l/\y=.ref b/\SqL K H l xs/\SqL K H b zs/\xs.length+zs.length<=sizeLine/\ ∀p,H p=none->Q (.ref p) (bz H p (.lst (xs++zs)))
theorem yt:jn X (binaryOp .Add) (AE X.K):=by
 intro ae s σ H x y v u Q I rx ry h;obtain⟨l,b,xs,zs,rfl,rfl,hL,hB,hz,q⟩:=h
 cases rx
 cases ry
 obtain⟨its,r,⟨o,n,e,c1,d1,t1⟩,z1⟩:=I.list hL
 obtain⟨its2,r2,⟨o2,n2,e2,c2,d2,t2⟩,z2⟩:=I.list hB
 obtain⟨oc,od,ot,sl⟩:=o
 obtain⟨oc2,od2,ot2,sl2⟩:=o2
 dsimp only at c1 d1 t1 c2 d2 t2;subst c1 d1 t1 c2 d2 t2;have hl:=r.length
 have hl2:=r2.length
 refine concat_meets ⟨_,e,rfl⟩ ⟨_,e2,rfl⟩ noFill_list_add seq_list_add PySem.F.slot_list_add PySem.F.entry_list_add (PySem.F.args_list_add_2 _ _) (list_addW l b its.toArray its2.toArray n n2 none none sl sl2 (by rw[List.size_toArray,List.size_toArray];omega)) ⟨e,e2,?_⟩
 have ea:its.toArray++its2.toArray=(its++its2).toArray:=by simp
 rw[ea];exact⟨.ref _,_,I.lnew (t':=s.toks) (r.append r2) (by rw[List.length_append];omega),rfl,q _ I.fresh⟩
def kj:D->D->Option D
 | .lst xs,.lst ys=>if xs.length+ys.length<=sizeLine then some (.lst (xs++ys)) else none
 |_,_=>none
theorem zL {K:W.Frag}:lV K .n (AE K) kj:=by
 intro H hid v u x y d Q hf h r1 r2 q;unfold kj at h;split at h
 ·split at h
  ·rename_i hz
   cases h
   obtain⟨a,xs,rfl,h1,h2⟩:=r1.lst
   obtain⟨b,ys,rfl,h3,h4⟩:=r2.lst
   exact⟨a,b,xs,ys,rfl,rfl,h1,h3,by rw[h2.length,h4.length];exact hz,λp hp=>q _ _ (bh hp _) (nC hp (Same.refl _) (h2.append h4))⟩
  ·cases h
 ·cases h
theorem tj {k1 k2:Kd}(ha:DP X c k1 a f)(hb:DP X c k2 b g):DP X c .n (.BinOp a .Add b pos) (al kj f g):=kh yt zL ha hb
end
section
variable {X:Cx}{c:Ct}{e:Expr}{es:List Expr}{k:Kd}{pos p:Pos}{x:Str}{ps:List Str}{j n:Nat}
def bY(f:FE):FA:=λρ=>(f ρ).bind λd=>match d with
 | .lst ds=>some ds
 | .tup ds=>some ds
 |_=>none
theorem bW {tg iter:Expr}{f:FE}(h:DP X c .s iter f):DIp X c tg iter (bY f):=λhid ρ ae s σ H R I hq_=>by
 obtain⟨sr,ds,e1,q⟩:=hq_
 unfold bY at e1;cases e2:f ρ with
 |none=>rw[e2] at e1;cases e1
 |some d=>
  rw[e2,Option.bind_some] at e1;cases d with
  |lst xs=>cases e1;exact li h hid ρ ae s σ H R I ⟨sr,ds,by unfold lN;rw[e2];rfl,q⟩
  |tup xs=>cases e1;exact uc h hid ρ ae s σ H R I ⟨sr,ds,by unfold pP;rw[e2];rfl,q⟩
  |_=>cases e1
end
theorem hU {es rest:List Expr}{x1}{pos:Pos}{env:Env}:starEach (.Tuple es x1 pos::rest) env=(false,eval (.Tuple es x1 pos) env)::starEach rest env:=by rfl
@[elab_as_elim] theorem ar0 {motive:List Value->Prop} (us:List Value) (hl:us.length=0) (h:motive []):motive us:=by
 cases us with
 |nil=>exact h
 |cons a r=>exact absurd hl (Nat.succ_ne_zero _)
@[elab_as_elim] theorem ar1 {motive:List Value->Prop} (us:List Value) (hl:us.length=1) (h: ∀a0,motive [a0]):motive us:=by
 cases us with
 |nil=>exact absurd hl (by decide)
 |cons a0 r=>exact ar0 (motive:=λr=>motive (a0::r)) r (Nat.succ.inj hl) (h a0)
@[elab_as_elim] theorem ar2 {motive:List Value->Prop} (us:List Value) (hl:us.length=2) (h: ∀a0 a1,motive [a0,a1]):motive us:=by
 cases us with
 |nil=>exact absurd hl (by decide)
 |cons a0 r=>exact ar1 (motive:=λr=>motive (a0::r)) r (Nat.succ.inj hl) (h a0)
@[elab_as_elim] theorem ar3 {motive:List Value->Prop} (us:List Value) (hl:us.length=3) (h: ∀a0 a1 a2,motive [a0,a1,a2]):motive us:=by
 cases us with
 |nil=>exact absurd hl (by decide)
 |cons a0 r=>exact ar2 (motive:=λr=>motive (a0::r)) r (Nat.succ.inj hl) (h a0)
@[elab_as_elim] theorem ar4 {motive:List Value->Prop} (us:List Value) (hl:us.length=4) (h: ∀a0 a1 a2 a3,motive [a0,a1,a2,a3]):motive us:=by
 cases us with
 |nil=>exact absurd hl (by decide)
 |cons a0 r=>exact ar3 (motive:=λr=>motive (a0::r)) r (Nat.succ.inj hl) (h a0)
@[elab_as_elim] theorem ar5 {motive:List Value->Prop} (us:List Value) (hl:us.length=5) (h: ∀a0 a1 a2 a3 a4,motive [a0,a1,a2,a3,a4]):motive us:=by
 cases us with
 |nil=>exact absurd hl (by decide)
 |cons a0 r=>exact ar4 (motive:=λr=>motive (a0::r)) r (Nat.succ.inj hl) (h a0)
@[elab_as_elim] theorem ar6 {motive:List Value->Prop} (us:List Value) (hl:us.length=6) (h: ∀a0 a1 a2 a3 a4 a5,motive [a0,a1,a2,a3,a4,a5]):motive us:=by
 cases us with
 |nil=>exact absurd hl (by decide)
 |cons a0 r=>exact ar5 (motive:=λr=>motive (a0::r)) r (Nat.succ.inj hl) (h a0)
@[irreducible] def QP (X:Cx) (c:Ct) (e:Expr) (f:FE):Prop:=DP X c .s e f
@[irreducible] def QA (X:Cx) (c:Ct) (es:List Expr) (f:FA):Prop:=DA X c es f
@[irreducible] def QS (X:Cx) (c:Ct) (k:Kd) (st:Stmt) (t:FS):Prop:=DS X c k st t
@[irreducible] def QSs (X:Cx) (c:Ct) (k:Kd) (st:List Stmt) (t:FS):Prop:=qJ X c k st t
section
variable {X:Cx}{c:Ct}{k:Kd}{e a b:Expr}{es:List Expr}{f g:FE}{fs:FA}{pos pos':Pos}{st:Stmt}{rest:List Stmt}{t u:FS}{x:Str}
theorem QP.of(h:DP X c .s e f):QP X c e f:=by unfold QP;exact h
theorem QP.dp(h:QP X c e f):DP X c .s e f:=by unfold QP at h;exact h
theorem QA.da(h:QA X c es fs):DA X c es fs:=by unfold QA at h;exact h
theorem QS.of(h:DS X c k st t):QS X c k st t:=by unfold QS;exact h
theorem QS.ds(h:QS X c k st t):DS X c k st t:=by unfold QS at h;exact h
theorem QSs.to(h:QSs X c k rest t):qJ X c k rest t:=by unfold QSs at h;exact h
theorem xX:QA X c [] ah:=by unfold QA;exact am
theorem yF(h:QP X c e f)(hr:QA X c es fs)(hs:starEach (e::es) X.env=(false,eval e X.env)::starEach es X.env:=by rfl):QA X c (e::es) (aa f fs):=by unfold QA;exact ag h.dp hr.da hs
theorem BY {x1}(h:QA X c es fs):QP X c (.Tuple es x1 pos) (a7 fs):=.of (bR h.da)
theorem AZ(h:QA X c es fs):QP X c (.List es pos) (a9 fs):=.of (DP.toS (ck h.da))
theorem yD(i:Nat)(hn:X.N.Nodup)(he:QP X c e f)(hi:X.N[i]? =some x:=by rfl)(hx:uY X.env.scope x:=by first|exact Or.inl rfl|exact Or.inr rfl)(hs:swapsWith e (some (.Name x pos')) pos.line X.env=pure false:=by rfl)
 (hf:X.fn x=true\/X.env.scope.names.lookup x=some .local:=by first|exact .inl rfl|exact .inr rfl|assumption):QS X c k (.Assign [.Name x pos'] e pos) (aJ i f):=.of (aM i hn he.dp hi hx hs hf)
theorem i5(h1:QS X c k st t)(h2:QSs X c k rest u):QSs X c k (st::rest) (ax t u):=by unfold QSs;exact ak h1.ds h2.to
theorem tY(h:QS X c k st t):QSs X c k [st] t:=by unfold QSs;exact aw h.ds
end
section
variable {κ:Type} [DecidableEq κ]
def iA(kvs:List (κ×V))(k:κ):Option V:=(kvs.find? λkv=>decide (kv.1=k)).map (·.2)
def jM(kvs:List (κ×V))(k:κ)(v:V):List (κ×V):=
 if(kvs.any λkv=>decide (kv.1=k))=true then kvs.map (λkv=>if kv.1=k then(kv.1,v) else kv) else kvs++[(k,v)]
theorem i0 {p:κ×V}{r:List (κ×V)}{k:κ}(e:p.1=k):iA (p::r) k=some p.2:=by simp[iA,List.find?_cons,e]
theorem jg {p:κ×V}{r:List (κ×V)}{k:κ}(e: ¬p.1=k):iA (p::r) k=iA r k:=by simp[iA,List.find?_cons,e]
theorem pT(k:κ): ∀kvs:List (κ×V),(kvs.any λkv=>decide (kv.1=k))=(iA kvs k).isSome
 | []=>rfl
 |p::r=>by
  rw[List.any_cons]
  by_cases e:p.1=k
  ·simp only[i0 e,decide_eq_true e,Bool.true_or,Option.isSome_some]
  ·rw[jg e,decide_eq_false e,Bool.false_or];exact pT k r
theorem kq(kvs:List (κ×V))(k:κ)(v:V):(jM kvs k v).length<=kvs.length+1:=by
 unfold jM;split
 ·rw[List.length_map];omega
 ·rw[List.length_append,List.length_cons,List.length_nil];omega
theorem RelO.isSome_eq {o:Option V}{u:Option Value}(r:RelO o u):o.isSome=u.isSome:=by
 cases o with
 |none=>cases u with
  |none=>rfl
  |some _=>exact(show False from r).elim
 |some _=>cases u with
  |none=>exact(show False from r).elim
  |some _=>rfl
theorem RelO.getD {o:Option V}{u:Option Value}{d:V}{d':Value}(r:RelO o u)(rd:RelV d d'):RelV (o.getD d) (u.getD d'):=by
 cases o with
 |none=>cases u with
  |none=>exact rd
  |some _=>exact(show False from r).elim
 |some _=>cases u with
  |none=>exact(show False from r).elim
  |some _=>exact r
theorem KV.val {kvs:List (κ×V)}{vs:List (κ×Value)}(r:KV kvs vs)(k:κ):RelO (iA kvs k) (valueAt vs k):=by
 unfold KV at r
 induction r with
 |nil=>exact True.intro
 | @cons p q ps qs h t ih=>
   obtain⟨h1,h2⟩:=h
   by_cases e:p.1=k
   ·have e':q.1=k:=h1.symm.trans e
    have b:valueAt (q::qs) k=some q.2:=by simp[valueAt,List.find?_cons,e']
    rw[i0 e,b];exact h2
   ·have e': ¬q.1=k:=λz=>e (h1.trans z)
    have b:valueAt (q::qs) k=valueAt qs k:=by simp[valueAt,List.find?_cons,e']
    rw[jg e,b];exact ih
theorem KV.any {kvs:List (κ×V)}{vs:List (κ×Value)}(r:KV kvs vs)(k:κ):(kvs.any λkv=>decide (kv.1=k))=vs.any λkv=>decide (kv.1=k):=by
 unfold KV at r
 induction r with
 |nil=>rfl
 |cons h t ih=>rw[List.any_cons,List.any_cons,ih,h.1]
theorem KV.repl {kvs:List (κ×V)}{vs:List (κ×Value)}(r:KV kvs vs)(k:κ){y:V}{u:Value}(ry:RelV y u):
 KV (kvs.map λkv=>if kv.1=k then(kv.1,y) else kv) (vs.map λkv=>if kv.1=k then(kv.1,u) else kv):=by
 unfold KV at r⊢
 induction r with
 |nil=>exact .nil
 | @cons p q ps qs h t ih=>
   rw[List.map_cons,List.map_cons];refine .cons ?_ ih
   obtain⟨h1,h2⟩:=h
   by_cases e:p.1=k
   ·rw[if_pos e,if_pos (h1.symm.trans e)];exact⟨h1,ry⟩
   ·rw[if_neg e,if_neg (λz=>e (h1.trans z))];exact⟨h1,h2⟩
theorem KV.put {kvs:List (κ×V)}{vs:List (κ×Value)}(r:KV kvs vs)(k:κ){y:V}{u:Value}(ry:RelV y u):KV (jM kvs k y) (stored vs k u):=by
 unfold jM stored;rw[r.any k]
 by_cases e:(vs.any λkv=>decide (kv.1=k))=true
 ·rw[if_pos e,if_pos e];exact r.repl k ry
 ·rw[if_neg e,if_neg e];exact Paired.snoc r ⟨rfl,ry⟩
theorem KV.keys {kvs:List (κ×V)}{vs:List (κ×Value)}(r:KV kvs vs):kvs.map (·.1)=vs.map (·.1):=by
 unfold KV at r
 induction r with
 |nil=>rfl
 |cons h t ih=>rw[List.map_cons,List.map_cons,ih,h.1]
theorem KV.length {kvs:List (κ×V)}{vs:List (κ×Value)}(r:KV kvs vs):kvs.length=vs.length:=Paired.length r
end
theorem ue {P:Program}{w:World}{k:bv}{u:Value}(r:RelV (kV k) u):(bC P w).is k u=true:=by
 cases k with
 |inl i=>obtain⟨t,e⟩:=(show∃t,u=Value.int i t from r);subst e;exact oR P w i t
 |inr x=>obtain⟨t,e⟩:=(show∃t,u=Value.str x t from r);subst e;exact p8 P w x t
theorem mC {P:Program}{w:World}: ∀ {ks:List bv} {us:List Value},Vals (ks.map kV) us->ItemsAre (bC P w) ks us
 | [],_,r=>by rw[List.map_nil] at r;cases r;exact .nil
 |k::ks,_,r=>by
  rw[List.map_cons] at r;cases r with
  |cons h t=>exact .cons (ue h) (mC t)
abbrev KTd(H:Hp):List (List bv×V)->List (List bv×Addr×Value)->Prop:=Paired λp q=>p.1=q.1/\H q.2.1=some (.tup (p.1.map kV))/\RelV p.2 q.2.2
theorem KTd.val {H:Hp}{kvs:List (List bv×V)}{xs:List (List bv×Addr×Value)}(r:KTd H kvs xs)(k:List bv):RelO (iA kvs k) ((atKey xs k).map (·.2)):=by
 induction r with
 |nil=>exact True.intro
 | @cons p q ps qs h t ih=>
   obtain⟨h1,_,h2⟩:=h
   by_cases e:p.1=k
   ·have e':q.1=k:=h1.symm.trans e
    have b:atKey (q::qs) k=some q.2:=by simp[atKey,List.find?_cons,e']
    rw[i0 e,b];exact h2
   ·have e': ¬q.1=k:=λz=>e (h1.trans z)
    have b:atKey (q::qs) k=atKey qs k:=by simp[atKey,List.find?_cons,e']
    rw[jg e,b];exact ih
theorem KTd.repl {H:Hp}{kvs:List (List bv×V)}{xs:List (List bv×Addr×Value)}(r:KTd H kvs xs)(k:List bv){y:V}{u:Value}(ry:RelV y u):
 KTd H (kvs.map λkv=>if kv.1=k then(kv.1,y) else kv) (xs.map (putAt k u)):=by
 induction r with
 |nil=>exact .nil
 | @cons p q ps qs h t ih=>
   rw[List.map_cons,List.map_cons];refine .cons ?_ ih
   obtain⟨h1,h2,h3⟩:=h
   unfold putAt
   by_cases e:p.1=k
   ·rw[if_pos e,if_pos (h1.symm.trans e)];exact⟨h1,h2,ry⟩
   ·rw[if_neg e,if_neg (λz=>e (h1.trans z))];exact⟨h1,h2,h3⟩
theorem KTd.put {H:Hp}{kvs:List (List bv×V)}{xs:List (List bv×Addr×Value)}(r:KTd H kvs xs)(k:List bv){b:Addr}{y:V}{u:Value}(hb:H b=some (.tup (k.map kV)))(ry:RelV y u):
 KTd H (jM kvs k y) (storedH xs k b u):=by
 have e:(kvs.any λkv=>decide (kv.1=k))=(atKey xs k).isSome:=by
  rw[pT,(r.val k).isSome_eq,Option.isSome_map]
 unfold jM storedH;rw[e]
 by_cases q:(atKey xs k).isSome=true
 ·rw[if_pos q,if_pos q];exact r.repl k ry
 ·rw[if_neg q,if_neg q];exact Paired.snoc r ⟨rfl,hb,ry⟩
theorem KTd.keeps {H H':Hp}{kvs:List (List bv×V)}{xs:List (List bv×Addr×Value)}(r:KTd H kvs xs)(ht: ∀b ys,H b=some (.tup ys)->H' b=some (.tup ys)):KTd H' kvs xs:=
 Paired.mapP r λ_ _ z=>⟨z.1,ht _ _ z.2.1,z.2.2⟩
section
variable {P:Program}{w:World}{H:Hp}{h:Heap}{a:Addr}
theorem Ak {u:HO}(ok:HOk P w H h)(e:Rd H a u):ObjOk P w H h a u:=e.ok ok
theorem qv {kvs:List (bv×V)}(ok:HOk P w H h)(e:Rd H a (.dK kvs)):kvs.length<=sizeLine/\(a==sysModules)=false/\ ∃vs,KV kvs vs/\h.DictOf (bC P w) a vs:=
 show ObjOk P w H h a (.dK kvs) from Ak ok e
theorem Ac {kvs:List (bv×V)}(ok:HOk P w H h)(e:H a=some (.dK kvs)):kvs.length<=sizeLine/\(a==sysModules)=false/\ ∃vs,KV kvs vs/\h.DictOf (bC P w) a vs:=qv ok (.inl e)
theorem nP {ks:List bv}(ok:HOk P w H h)(e:H a=some (.tup (ks.map kV))):(tupleKind (bC P w)).is h ks a:=by
 obtain⟨_,its,r,⟨o,h1,h2,n,h3⟩,_⟩:=(show ObjOk P w H h a (.tup (ks.map kV)) from ok a _ e)
 exact⟨o,its.toArray,n,h1,h2,h3,by simpa using mC r⟩
theorem qa {kvs:List (List bv×V)}(ok:HOk P w H h)(e:Rd H a (.dT kvs)):kvs.length<=sizeLine/\(a==sysModules)=false/\
 ∃xs,KTd H kvs xs/\h.DictOfH (tupleKind (bC P w)) a xs:=by
 obtain⟨z,y,xs,r,o,es,ep,h1,h2,h3,h4,h5⟩:=(show ObjOk P w H h a (.dT kvs) from Ak ok e)
 refine⟨z,y,xs,r,o,es,ep,h1,h2,h3,h4,λx hx=>?_,h5⟩
 have all: ∀ {l:List (List bv×V)} {m:List (List bv×Addr×Value)},KTd H l m-> ∀x∈m,(tupleKind (bC P w)).is h x.1 x.2.1:=by
  intro l m q
  induction q with
  |nil=>intro x hx;exact nomatch hx
  | @cons p q ps qs hq t ih=>
    intro x hx;rcases List.mem_cons.mp hx with e|hx
    ·subst e
     exact nP ok (by rw[<-hq.1];exact hq.2.1)
    ·exact ih x hx
 exact all r x hx
theorem CU {kvs:List (List bv×V)}(ok:HOk P w H h)(e:H a=some (.dT kvs)):kvs.length<=sizeLine/\(a==sysModules)=false/\
 ∃xs,KTd H kvs xs/\h.DictOfH (tupleKind (bC P w)) a xs:=qa ok (.inl e)
end
def DGet(H:Hp)(a:Addr)(y:V)(r:Option V):Prop:=
 (∃kvs k,Rd H a (.dK kvs)/\y=kV k/\r=iA kvs k)\/ ∃kvs k b,Rd H a (.dT kvs)/\y=.ref b/\H b=some (.tup (k.map kV))/\r=iA kvs k
def DPut(H:Hp)(a:Addr)(y v:V)(H':Hp):Prop:=
 (∃kvs k,H a=some (.dK kvs)/\y=kV k/\kvs.length<sizeLine/\H'=bz H a (.dK (jM kvs k v)))\/
 ∃kvs k b,H a=some (.dT kvs)/\y=.ref b/\H b=some (.tup (k.map kV))/\kvs.length<sizeLine/\H'=bz H a (.dT (jM kvs k v))
theorem DGet.k {H:Hp}{a:Addr}{kvs:List (bv×V)}{k:bv}(e:H a=some (.dK kvs)):DGet H a (kV k) (iA kvs k):=.inl ⟨kvs,k,.inl e,rfl,rfl⟩
theorem DPut.k {H:Hp}{a:Addr}{kvs:List (bv×V)}{k:bv}{v:V}(e:H a=some (.dK kvs))(hl:kvs.length<sizeLine):DPut H a (kV k) v (bz H a (.dK (jM kvs k v))):=.inl ⟨kvs,k,e,rfl,hl,rfl⟩
section
variable {X:Cx}{ae:List (Addr×Obj)}{σ:St}{H:Hp}{s:Shared}{a:Addr}{y v:V}{u r:Value}{o:Option V}{A:Around}{E:Value->Shared->Prop}
theorem Inv.big(I:Inv X ae σ H s):sysModules<s.heap.objs.size:=by
 have h:mainGlobals<s.heap.objs.size:=(I.mod.glob.keeps I.bk).lt
 exact Nat.lt_trans (by decide) h
theorem vq {Q:Value->Shared->Prop}(hu:A.units+1<cLine)(I:Inv X ae σ H s)(g:DGet H a y (some v))(ry:RelV y u)(h: ∀w' s',Inv X ae σ H s'->RelV v w'->Q w' s'):
 wpAny (model X.prog X.w) A (getItem (.ref a) u) Q E s:=by
 rcases g with⟨kvs,k,e,ey,l⟩|⟨kvs,k,b,e,ey,eb,l⟩
 ·subst ey
  obtain⟨z,hd,vs,rel,dd⟩:=qv I.hok e
  obtain⟨w',hw,rw'⟩:=RelO.some_of (v:=v) (o:=valueAt vs k) (by rw[l];exact rel.val k)
  exact wpAny_getItem_of (ue ry) dd.mapOf hw (h w' _ (I.tok _) rw')
 ·subst ey
  cases (show u=Value.ref b from ry)
  obtain⟨z,hd,xs,rel,dd⟩:=qa I.hok e
  obtain⟨w',hw,rw'⟩:=RelO.some_of (v:=v) (o:=(atKey xs k).map (·.2)) (by rw[l];exact rel.val k)
  obtain⟨p,hp,hp2⟩:=Option.map_eq_some_iff.mp hw
  refine wpAny_getItem_heap (tupleKind_room_in1 hu) (nP I.hok eb) dd hp ?_
  rw[hp2];exact h w' _ (I.tok _) rw'
theorem sZ {h':Heap}{t':Nat}{ob:HO}(I:Inv X ae σ H s)(mu:DQ (H a))(hs:Heap.SameBut a s.heap h')(he: ∃q,h'.get? a=some q)(new:ObjOk X.prog X.w (bz H a ob) h' a ob):
 Inv X ae σ (bz H a ob) {s with heap:=h',toks:=t'}:=
 I.write (x:=a) (e:=a) mu (.inl rfl) (λb q hb z=>(hs.2 b hb).trans z) he new
theorem A0 {P:Program}{w:World}{H':Hp}{h':Heap}{kvs:List (bv×V)}{vs:List (bv×Value)}(z:kvs.length<=sizeLine)(hd:(a==sysModules)=false)(rel:KV kvs vs)(dd:h'.DictOf (bC P w) a vs):
 ObjOk P w H' h' a (.dK kvs):=⟨z,hd,vs,rel,dd⟩
theorem u8 {H':Hp}{Q:Unit->Shared->Prop}(hu:A.units+1<cLine)(I:Inv X ae σ H s)(g:DPut H a y v H')(ry:RelV y u)(rv:RelV v r)(h: ∀s',Inv X ae σ H' s'->Q () s'):
 wpAny (model X.prog X.w) A (setItem (.ref a) u r) Q E s:=by
 rcases g with⟨kvs,k,e,ey,l,eH⟩|⟨kvs,k,b,e,ey,eb,l,eH⟩
 ·subst ey eH
  obtain⟨z,hd,vs,rel,dd⟩:=Ac I.hok e
  have hz:vs.length<=sizeLine:=by rw[<-rel.length];exact z
  have hl:(jM kvs k v).length<=sizeLine:=by have:=kq kvs k v;omega
  refine wpAny_setItem_pairs (hsz:=hz) (ue ry) dd λh' dd' hs=>h _ ?_
  have he: ∃q,h'.get? a=some q:=let⟨q,_,_,hq,_⟩:=dd';⟨q,hq⟩
  exact sZ I (by rw[e];exact True.intro) hs he (A0 hl hd (rel.put k rv) dd')
 ·subst ey eH
  cases (show u=Value.ref b from ry)
  obtain⟨z,hd,xs,rel,dd⟩:=CU I.hok e
  have hz:xs.length<=sizeLine:=by rw[<-Paired.length rel];exact z
  have hl:(jM kvs k v).length<=sizeLine:=by have:=kq kvs k v;omega
  refine wpAny_setItem_heap (hsz:=hz) (tupleKind_room_in1 hu) (nP I.hok eb) dd λh' dd' hs=>h _ ?_
  obtain⟨q,es,ep,hq,h2,h3,h4,_,h5⟩:=dd'
  refine sZ I (by rw[e];exact True.intro) hs ⟨q,hq⟩ ⟨hl,hd,_,(rel.put k eb rv).keeps λc ys ec=>?_,q,es,ep,hq,h2,h3,h4,h5⟩
  rw[aG (CN ec e (λz=>nomatch z))]
  exact ec
end
def AO(i:Expr):Prop:= ∀ov iv,subscripted i false ov iv=operate [ov,iv] (getItem ov iv)
theorem zu {prog:Program}{w:World}{A:Around}{E:Value->Shared->Prop}{s:Shared}{env:Env}{value slice:Expr}{pos:Pos}{T id:String}{Q:Value->Shared->Prop}
 (hl:typeLookup (.type T) "__getitem__"=pure (some (.builtin id))) (hs:AO slice)
 (h:wpAny (model prog w) A (eval value env) (λo s₁=>wpAny (model prog w) A (eval slice env) (λi s₂=>s₂.TypeIs o T/\wpAny (model prog w) A (getItem o i) Q E s₂) E s₁) E s):
 wpAny (model prog w) A (eval (.Subscript value slice pos) env) Q E s:=by
 refine Subscript_ (wpAny_mono h (λo s₁ h₁=>wpAny_mono h₁ (λi s₂ h₂=>?_) λ_ _ x=>x) λ_ _ x=>x)
 obtain⟨hT,h₂⟩:=h₂
 unfold subscriptTail;refine wpAny_bind ?_
 rw[getitemInPython_of_ne hT.not_modules];refine wpAny_bind (wpAny_specialOf hT hl ?_)
 have fin:wpAny (model prog w) A (subscripted slice false o i) (λr s₃=>wpAny (model prog w) A (letTemporaryGo value o r>>=λ_=>pure r) Q E s₃) E s₂:=by
  rw[hs o i];exact wpAny_operating (wpAny_mono h₂ (λr s₃ h₃=>wpAny_bind (wpAny_letTemporaryGo (wpAny_pure h₃))) λ_ _ x=>x)
 first
  |exact wpAny_pure (wpAny_bind fin)
  |exact wpAny_bind (wpAny_pure (wpAny_bind fin))
  |exact wpAny_bind fin
theorem qx {X:Cx}{ae:List (Addr×Obj)}{σ:St}{H:Hp}{s:Shared}{a:Addr}{y:V}{o:Option V}(I:Inv X ae σ H s)(g:DGet H a y o):s.TypeIs (.ref a) "dict":=by
 rcases g with⟨kvs,k,e,_,_⟩|⟨kvs,k,b,e,_,_,_⟩
 ·obtain⟨_,_,vs,_,dd⟩:=qv I.hok e
  exact dd.typeIs
 ·obtain⟨_,_,xs,_,dd⟩:=qa I.hok e
  exact dd.typeIs
def Do(td ty:TE):TE:=λσ H Q=>td σ H λx H1=>ty σ H1 λy H2=> ∃a v,x=.ref a/\DGet H2 a y (some v)/\Q v H2
def Dh(td ty tv:TE):TS:=λD σ H=>tv σ H λv H1=>td σ H1 λx H2=>ty σ H2 λy H3=> ∃a H4,x=.ref a/\DPut H3 a y v H4/\D.nx σ H4
section
variable {X:Cx}{o i e value:Expr}{pos pos' tpos:Pos}{td ty tv:TE}
theorem yn(hu:X.A.units+1<cLine)(ho:PE X o td)(hi:PE X i ty)(hs:AO i):PE X (.Subscript o i pos) (Do td ty):=by
 intro ae s σ H Q I h;refine zu PySem.F.slot_dict_getitem.lookup hs (bV (ho ae s σ H _ I h) λu s1 ⟨x,H1,I1,rx,q1⟩=>bV (hi ae s1 σ H1 _ I1 q1) λiv s2 hq_=>?_)
 obtain⟨y,H2,I2,ry,a,v,ex,g,q2⟩:=hq_
 subst ex;obtain rfl:u=Value.ref a:=rx
 exact⟨qx I2 g,vq hu I2 g ry λw' s3 I3 rw'=>⟨v,H2,I3,rw',q2⟩⟩
theorem yT(hu:X.A.units+1<cLine)(ho:PE X o td)(hi:PE X i ty)(hv:PE X value tv)(hs:swapsWith value (some (.Subscript o i pos')) pos.line X.env=pure false):
 PS X (.Assign [.Subscript o i pos'] value pos) (Dh td ty tv):=by
 intro ae s σ H D I h;refine wpAny_Assign_Subscript (bV (hv ae s σ H _ I h) λr s1 ⟨v,H1,I1,rv,q1⟩=>bV (ho ae s1 σ H1 _ I1 q1) λu s2 ⟨x,H2,I2,rx,q2⟩=>bV (hi ae s2 σ H2 _ I2 q2) λiv s3 ⟨y,H3,I3,ry,a,H4,ex,g,q3⟩=>?_) hs
 subst ex;obtain rfl:u=Value.ref a:=rx
 exact u8 hu I3 g ry rv λs4 I4=>⟨σ,H4,I4,q3⟩
end
theorem xz {P:Program}{w:World}{H:Hp}(h:Heap)(hb:sysModules<h.objs.size):ObjOk P w H (h.push {cls:=.type "dict",data:=.dict #[]}) h.objs.size (.dK []):=
 ⟨Nat.zero_le _,beq_eq_false_iff_ne.mpr (Ne.symm (Nat.ne_of_lt hb)),[],.nil,Heap.DictOf.new h⟩
def A7:TE:=λ_ H Q=> ∀p,H p=none->Q (.ref p) (bz H p (.dK []))
section
variable {X:Cx}{pos:Pos}
theorem xq:PE X (.Dict [] [] pos) A7:=λae s σ H Q I h=>
 wpAny_Dict_empty ⟨.ref s.heap.objs.size,_,I.laid (a:=s.heap.objs.size) (o:=.dK []) (t':=s.toks) (λ_ _ q=>Heap.get?_push_of_some _ q) (Nat.le_refl _) (xz s.heap I.big),rfl,h _ (I.hok.fresh (Nat.le_refl _))⟩
end
structure M2(X:Cx)(o:Expr)(m:Str)(apos:Pos)(e f:Expr)(cpos:Pos):Prop where
 base:attributeBase o m X.env (eval o X.env)=eval o X.env
 few:((backTo cpos (starEach [e,f] X.env)).all (λx=> !x.1)&&(backToKw cpos (keywordEach [] X.env)).all (λx=>x.1.isSome)
  &&decide (([e,f]:List Expr).length+([]:List Keyword).length+(if([]:List Keyword).isEmpty then 0 else 1)<30))=true
 line:(apos.endLine==cpos.line)=true
 trees:backTo cpos (starEach [e,f] X.env)=[(false,eval e X.env),(false,eval f X.env)]
def Ff(H:Hp)(a:Addr):Prop:=(∃kvs,Rd H a (.dK kvs))\/ ∃kvs,Rd H a (.dT kvs)
theorem AY {X:Cx}{ae:List (Addr×Obj)}{σ:St}{H:Hp}{s:Shared}{a:Addr}(I:Inv X ae σ H s)(d:Ff H a):
 s.TypeIs (.ref a) "dict"/\(∀b,Value.ref a=.ref b-> ∃ob,s.heap.get? b=some ob/\ob.dict=none)/\(a==sysModules)=false:=by
 rcases d with⟨kvs,e⟩|⟨kvs,e⟩
 ·obtain⟨_,hd,vs,_,dd⟩:=qv I.hok e
  refine⟨dd.typeIs,λb q=>?_,hd⟩
  cases q
  obtain⟨ob,_,_,h1,h2,_⟩:=dd
  exact⟨ob,h1,h2.2.1⟩
 ·obtain⟨_,hd,xs,_,dd⟩:=qa I.hok e
  refine⟨dd.typeIs,λb q=>?_,hd⟩
  cases q
  obtain⟨ob,_,_,h1,h2,_⟩:=dd
  exact⟨ob,h1,h2.2.1⟩
section
variable {X:Cx}{ae:List (Addr×Obj)}{σ:St}{H:Hp}{s:Shared}{a:Addr}{y d:V}{u r:Value}{o:Option V}{A:Around}{E:Value->Shared->Prop}
theorem Bj {Q:Value->Shared->Prop}(hu:A.units+1<cLine)(I:Inv X ae σ H s)(g:DGet H a y o)(ry:RelV y u)(rd:RelV d r)(h: ∀w' s',Inv X ae σ H s'->RelV (o.getD d) w'->Q w' s'):
 wpAny (model X.prog X.w) A (call (.builtin "dict.get") [.ref a,u,r]) Q E s:=by
 rcases g with⟨kvs,k,e,ey,l⟩|⟨kvs,k,b,e,ey,eb,l⟩
 ·subst ey
  obtain⟨z,hd,vs,rel,dd⟩:=qv I.hok e
  refine call_meetsIn PySem.F.slot_dict_get dd.typeIs PySem.F.entry_dict_get (PySem.F.args_dict_get_3 _ _ _) (meets_dict_get_default (bC X.prog X.w) a (ue ry) hd r) ⟨_,dd.mapOf,h _ _ (I.tok _) ?_⟩
  rw[l];exact(rel.val k).getD rd
 ·subst ey
  cases (show u=Value.ref b from ry)
  obtain⟨z,hd,xs,rel,dd⟩:=qa I.hok e
  refine call_meetsIn PySem.F.slot_dict_get dd.typeIs PySem.F.entry_dict_get (PySem.F.args_dict_get_3 _ _ _) (meetsH_dict_get_default (tupleKind (bC X.prog X.w)) a b hd r) ⟨tupleKind_room_in1 hu,k,xs,nP I.hok eb,dd,h _ _ (I.tok _) ?_⟩
  rw[l];exact(rel.val k).getD rd
end
def Bi(td ty tx:TE):TE:=λσ H Q=>td σ H λx H1=> ∃a,x=.ref a/\Ff H1 a/\ty σ H1 λy H2=>tx σ H2 λz H3=> ∃o,DGet H3 a y o/\Q (o.getD z) H3
section
variable {X:Cx}{o e f:Expr}{apos cpos:Pos}{td ty tx:TE}
theorem xv(hu:X.A.units+1<cLine)(ho:PE X o td)(he:PE X e ty)(hf:PE X f tx)(m:M2 X o "get" apos e f cpos):PE X (.Call (.Attribute o "get" apos) [e,f] [] cpos) (Bi td ty tx):=by
 intro ae s σ H Q I h;refine wpAny_Call_method m.base m.few m.line PySem.F.plainAttrs_dict PySem.F.slot_dict_get PySem.F.type_dict_get (bV (ho ae s σ H _ I h) λu s1 hq_=>?_)
 obtain⟨x,H1,I1,rx,a,ex,d,q1⟩:=hq_
 subst ex;obtain rfl:u=Value.ref a:=rx
 obtain⟨t1,t2,_⟩:=AY I1 d
 refine⟨t1,t2,?_⟩
 rw[m.trees];refine Calls.callWith_builtin rfl (Calls.evalArgs_plain (Calls.spliced_cons (bV (he ae s1 σ H1 _ I1 q1) λiv s2 ⟨y,H2,I2,ry,q2⟩=>
  Calls.spliced_cons (bV (hf ae s2 σ H2 _ I2 q2) λfv s3 ⟨z,H3,I3,rz,ov,g,q3⟩=>Calls.spliced_nil ?_))))
 exact Bj hu I3 g ry rz λw' s4 I4 rw'=>⟨_,H3,I4,rw',q3⟩
end
end L2
namespace PySem
open Sem (wp)
end PySem
namespace L2
open PySem PySem.Spec PyProof.Rows
end L2
namespace PySem
end PySem
namespace L2
open PySem PySem.Spec PyProof.Rows
def AC(K:W.Frag):R2:=λx y H Q=> ∃a b xs ys,x=.ref a/\y=.ref b/\SqT K H a xs/\SqT K H b ys/\xs.length+ys.length<=sizeLine/\
 (xs=[]->Q (.ref b) H)/\(xs≠[]->ys=[]->Q (.ref a) H)/\(xs≠[]->ys≠[]-> ∀p,H p=none->Q (.ref p) (bz H p (.tup (xs++ys))))
section
variable {X:Cx}{c:Ct}{a b:Expr}{f g:FE}{pos:Pos}
theorem yo:jn X (binaryOp .Add) (AC X.K):=by
 intro ae s σ H x y v u Q I rx ry h;obtain⟨a,b,xs,ys,e1,e2,ha,hb,hz,q0,q1,q2⟩:=h
 by_cases hx:xs=[]
 ·subst e1 e2
  cases rx
  cases ry
  obtain⟨its,r1,p1,_⟩:=I.tuple ha
  obtain⟨its2,r2,p2,_⟩:=I.tuple hb
  obtain⟨m,F⟩:=I.fr
  have h0:its=[]:=r1.nil_iff.mpr hx
  exact add_tuples F News.nil p1 p2 (λ_=>⟨.ref b,H,I,rfl,q0 hx⟩) (λz=>absurd h0 z) (λz=>absurd h0 z) (by rw[<-r1.length,<-r2.length];exact hz)
 ·exact zn ae s σ H x y v u Q I rx ry ⟨a,b,xs,ys,e1,e2,ha,hb,hx,hz,q1 hx,q2 hx⟩
def gC:D->D->Option D
 | .tup xs,.tup ys=>if xs.length+ys.length<=sizeLine then some (.tup (xs++ys)) else none
 |_,_=>none
theorem yk {K:W.Frag}:lV K .s (AC K) gC:=by
 intro H hid v u x y d Q hf h r1 r2 q;unfold gC at h;split at h
 ·split at h
  ·rename_i hc
   cases h
   obtain⟨a,xs,rfl,h0,h1,h2⟩:=r1.tup
   obtain⟨b,ys,rfl,g0,g1,g2⟩:=r2.tup
   refine⟨a,b,xs,ys,rfl,rfl,h1,g1,by rw[h2.length,g2.length];exact hc,λz=>?_,λ_ z=>?_,λ_ z p hp=>?_⟩
   ·subst z;cases h2
    exact q _ H (Same.refl _) (.tup g0 g2)
   ·subst z;cases g2
    refine q _ H (Same.refl _) ?_
    rw[List.append_nil];exact .tup h0 h2
   ·exact q _ _ (bh hp _) (g7 hp (hf p hp) (h2.append g2))
  ·cases h
 ·cases h
theorem uj {k1 k2:Kd}(ha:DP X c k1 a f)(hb:DP X c k2 b g):DP X c .s (.BinOp a .Add b pos) (al gC f g):=kh yo yk ha hb
end
section
variable {X:Cx}{c:Ct}{elt t1 t2 i1 i2:Expr}{ifs1 ifs2:List Expr}{scope:Scope}{pos spos py:Pos}{N':List Str}{m:Nat}{gi1 gi2:FA}{g1 g2:FG}{p1 p2:FT}{f:FE}{y:Str}
theorem vK(i:Nat)(hcalm:X.calm=true)(hN:X.N.Nodup)(n1:Nat)(hT1:gm X.N.length g1)(hU1:qR n1 g1)(hT2:gm n1 g2)(hi:Ap X c t1 i1 gi1)
 (hg1: ∀C s₀ H₀ ex,oI (aB X N' scope C s₀ H₀ ex) c t1 g1) (hp1: ∀C s₀ H₀ ex,oO (aB X N' scope C s₀ H₀ ex) c ifs1 p1) (hi2: ∀C s₀ H₀ ex,DIp (aB X N' scope C s₀ H₀ ex) c t2 i2 gi2)
 (hg2: ∀C s₀ H₀ ex,oI (aB X N' scope C s₀ H₀ ex) c t2 g2) (hp2: ∀C s₀ H₀ ex,oO (aB X N' scope C s₀ H₀ ex) c ifs2 p2) (he: ∀C s₀ H₀ ex,DP (aB X N' scope C s₀ H₀ ex) c .s elt f)
 (hsw:swapsWith (.ListComp elt [⟨t1,i1,ifs1,0⟩,⟨t2,i2,ifs2,0⟩] scope pos) (some (.Name y py)) spos.line X.env=pure true) (hyi:X.N[i]? =some y) (hy:X.env.scope.names.lookup y=some .local)
 (hk:scope.kind=.function) (hs:sK scope X.env.scope=true) (hn:tw X.N N' scope=true) (hm:N'.length-X.N.length=m) (hn1:X.N.length<=n1) (hset: ∀x,foldedSetIterable i1 X.env x=pure x) (hset2: ∀C s₀ H₀ ex,∀x,foldedSetIterable i2 (aB X N' scope C s₀ H₀ ex).env x=pure x) (ρ:aC):
 PS X (.Assign [.Name y py] (.ListComp elt [⟨t1,i1,ifs1,0⟩,⟨t2,i2,ifs2,0⟩] scope pos) spos) (yZ (λσ H Q=> ∃hid,Bn X.K c hid .n (jX m gi1 g1 p1 gi2 g2 p2 f) ρ σ H Q) (sW i)):=by
 intro ae s σ H E I hq;obtain⟨hid,sr,d,hd,q⟩:=hq
 obtain⟨ds,ys,e1,hc,hz,rfl⟩:=mM hd
 rw[exec_Assign_Name_used _ _ _ _ hsw];refine wpAny_bind (wpAny_standAt (wpAny_bind ?_))
 show wpAny _ X.A (do let _ <-comprehension (.ListComp elt [⟨t1,i1,ifs1,0⟩,⟨t2,i2,ifs2,0⟩] scope pos) scope X.env _ (newList []) false (eval i1 X.env) (some (assign (.Name y py) X.env))) _ _ s
 refine wpAny_bind (wpAny_mono (wpAny_comprehension_free (use:=some (assign (.Name y py) X.env)) (Q:=λ_ s'=>SP X ae E .next s') rfl hset (dD λx hx=>I.ok.has x (fJ hs x hx)) hk (ik hs) ?_) (λ_ s' hq=>wpAny_pure (wpAny_pure hq)) λ_ _ e=>e)
 refine bV (hi hid ρ ae s σ H (λJ H'=>Same H H'/\Co X.K H' (vw H' hid) J ds) I ⟨sr,ds,e1,λJ H' s1 io=>⟨s1,io⟩⟩) λv s1 h1=>bV h1 λitv s2 h2=>?_
 obtain⟨it,fp,tn,J,H2,rfl,I2,T,st2,f2,sm,io⟩:=h2
 refine kf (RR:=λacc C=>compPost (model X.prog X.w) X.A X.xe (some (assign (.Name y py) X.env)) (λ_ s'=>SP X ae E .next s') acc C) hcalm hk hs hn hm hT1 hU1 hn1 hT2 hset2 hg1 hp1 hi2 hg2 hp2 he I2 (sr.ext sm) T st2 f2 io hz hc ?_
 intro D C s' H' xs hDge hCge hDC hD sm' hx rp ⟨mm,hns⟩ hC' hos hbare hok hun;have I3:Inv X ae σ H' s':=I2.call' (ch:=fp) hos hun hok hbare λb hb=>⟨(f2 b hb).2.2.2.1,(f2 b hb).2.1,(f2 b hb).2.2.2.2.1,(f2 b hb).2.2.2.2.2⟩
 have fin:=q _ H' (sm.trans sm') ⟨D,xs,ys,rfl,rfl,sm.free hD,hx,rp⟩
 have ltC: ∀b o,s2.heap.get? b=some o->b≠C:=λb o e z=>by subst z;exact absurd (Heap.lt_size e) (Nat.not_lt.mpr hCge)
 have hLC:C≠X.env.locals:=λz=>by
  have:=I2.lt
  rw[<-z] at this;exact absurd this (Nat.not_lt.mpr hCge)
 show wpAny _ X.A (assign (.Name y py) X.env (.ref D)) _ _ s';refine wpAny_assign_Name (jC (v:=.ref D) I3 hN hyi (.inl hy) rfl (λs'' I4 hb=>?_) (.inr hy))
 obtain⟨a,hsb,ha⟩:=hb
 have hCa:C≠a:=by
  rcases ha with rfl|ha
  ·exact hLC
  ·obtain⟨w',o,ho,_⟩:=I2.cell y a ha
   exact λz=>ltC a o ho z.symm
 refine⟨mm,hns.sameBut hsb hCa,λh3 hs3=>⟨_,H',?_,fin⟩⟩
 refine I4.turned (t':=s''.toks) (it:=C) (λb o nb e=>(hs3.2 b nb).trans e) hC' hLC (.inr (Nat.le_trans I2.sz hCge)) (λx c' e z=>?_) (λq hq z=>?_)
 ·obtain⟨w',o,ho,_⟩:=I2.cell x c' e
  exact ltC c' o ho z
 ·exact ltC q.1 q.2 (I2.pin q hq).1 z
theorem xA(i:Nat){k:Kd}(hcalm:X.calm=true)(hN:X.N.Nodup)(n1:Nat)(hT1:gm X.N.length g1)(hU1:qR n1 g1)(hT2:gm n1 g2)(hi:Ap X c t1 i1 gi1)
 (hg1: ∀C s₀ H₀ ex,oI (aB X N' scope C s₀ H₀ ex) c t1 g1) (hp1: ∀C s₀ H₀ ex,oO (aB X N' scope C s₀ H₀ ex) c ifs1 p1) (hi2: ∀C s₀ H₀ ex,DIp (aB X N' scope C s₀ H₀ ex) c t2 i2 gi2)
 (hg2: ∀C s₀ H₀ ex,oI (aB X N' scope C s₀ H₀ ex) c t2 g2) (hp2: ∀C s₀ H₀ ex,oO (aB X N' scope C s₀ H₀ ex) c ifs2 p2) (he: ∀C s₀ H₀ ex,DP (aB X N' scope C s₀ H₀ ex) c .s elt f)
 (hsw:swapsWith (.ListComp elt [⟨t1,i1,ifs1,0⟩,⟨t2,i2,ifs2,0⟩] scope pos) (some (.Name y py)) spos.line X.env=pure true:=by rfl) (hyi:X.N[i]? =some y:=by rfl) (hy:X.env.scope.names.lookup y=some .local:=by rfl)
 (hk:scope.kind=.function:=by rfl) (hs:sK scope X.env.scope=true:=by kernel_rfl) (hn:tw X.N N' scope=true:=by kernel_rfl) (hm:N'.length-X.N.length=m:=by rfl) (hn1:X.N.length<=n1:=by exact Nat.le_of_ble_eq_true rfl) (hset: ∀x,foldedSetIterable i1 X.env x=pure x:=by intro _;rfl) (hset2: ∀C s₀ H₀ ex,∀x,foldedSetIterable i2 (aB X N' scope C s₀ H₀ ex).env x=pure x:=by intros;rfl):
 DS X c k (.Assign [.Name y py] (.ListComp elt [⟨t1,i1,ifs1,0⟩,⟨t2,i2,ifs2,0⟩] scope pos) spos) (ce i (jX m gi1 g1 p1 gi2 g2 p2 f)):=λρ=>PS.imp (vK i hcalm hN n1 hT1 hU1 hT2 hi hg1 hp1 hi2 hg2 hp2 he hsw hyi hy hk hs hn hm hn1 hset hset2 ρ) λD σ H hq_=>by
 obtain⟨hid,sr,q⟩:=hq_
 unfold ce at q;cases e1:jX m gi1 g1 p1 gi2 g2 p2 f ρ with
 |none=>rw[e1] at q;exact q.elim
 |some z=>
  rw[e1] at q;exact⟨hid,sr,z,e1,λv H' s r=>zr (sr.post s r (by decide)) q⟩
end
def qf(i:Nat)(ρ:aC):Option (List (bv×D)):=match ρ[i]? with
 |some (.ob (.dK kvs))=>some kvs
 |_=>none
theorem mK {i:Nat}{ρ:aC}{kvs:List (bv×D)}(h:qf i ρ=some kvs):ρ[i]? =some (.ob (.dK kvs)):=by
 unfold qf at h;split at h
 ·cases h;assumption
 ·cases h
def qq:D->Option bv
 | .int i=>some (.inl i)
 |_=>none
theorem iS {d:D}{k:bv}(h:qq d=some k): ∃i,d=.int i/\k=.inl i:=by
 unfold qq at h;split at h
 ·cases h;exact⟨_,rfl,rfl⟩
 ·cases h
def kA(kvs:List (bv×D))(k:bv):Option D:=(kvs.find? λkv=>decide (kv.1=k)).map (·.2)
def putD(kvs:List (bv×D))(k:bv)(d:D):List (bv×D):=
 if(kvs.any λkv=>decide (kv.1=k))=true then kvs.map (λkv=>if kv.1=k then(kv.1,d) else kv) else kvs++[(k,d)]
def KRl(K:W.Frag)(F:Hp)(us:List (bv×V))(kvs:List (bv×D)):Prop:=us.map (·.1)=kvs.map (·.1)/\Reps K F (us.map (·.2)) (kvs.map (·.2))
theorem KRl.inv {K:W.Frag}{F:Hp}: ∀ {us:List (bv×V)} {kvs:List (bv×D)},KRl K F us kvs->(us=[]/\kvs=[])\/ ∃k v us' d kvs',us=(k,v)::us'/\kvs=(k,d)::kvs'/\Rep K F v d/\KRl K F us' kvs'
 | [],[],_=>.inl ⟨rfl,rfl⟩
 | [],_::_,h=>by cases h.1
 |_::_,[],h=>by cases h.1
 |(k,v)::us,(k',d)::kvs,h=>by
  obtain⟨h1,h2⟩:=h
  rw[List.map_cons,List.map_cons] at h1 h2;injection h1 with e1 e2
  cases h2 with
  |cons r rs=>
   have e1:k=k':=e1
   subst e1;exact .inr ⟨k,v,us,d,kvs,rfl,rfl,r,e2,rs⟩
theorem KRl.val {K:W.Frag}{F:Hp}(k:bv): ∀ {us:List (bv×V)} {kvs:List (bv×D)},KRl K F us kvs->(iA us k=none/\kA kvs k=none)\/ ∃v d,iA us k=some v/\kA kvs k=some d/\Rep K F v d:=by
 intro us
 induction us with
 |nil=>
  intro kvs h;rcases h.inv with⟨_,rfl⟩|⟨_,_,_,_,_,e,_⟩
  ·exact .inl ⟨rfl,rfl⟩
  ·cases e
 |cons p us ih=>
  intro kvs h;rcases h.inv with⟨e,_⟩|⟨k',v,us',d,kvs',e,rfl,r,rs⟩
  ·cases e
  ·cases e
   by_cases ek:k'=k
   ·exact .inr ⟨v,d,i0 ek,by simp[kA,List.find?_cons,ek],r⟩
   ·have e1:iA ((k',v)::us) k=iA us k:=jg ek
    have e2:kA ((k',d)::kvs') k=kA kvs' k:=by simp[kA,List.find?_cons,ek]
    rw[e1,e2];exact ih rs
theorem KRl.any {K:W.Frag}{F:Hp}(k:bv){us:List (bv×V)}{kvs:List (bv×D)}(h:KRl K F us kvs):(us.any λkv=>decide (kv.1=k))=kvs.any λkv=>decide (kv.1=k):=by
 have e1:(us.any λkv=>decide (kv.1=k))=(us.map (·.1)).any λx=>decide (x=k):=by rw[List.any_map];rfl
 have e2:(kvs.any λkv=>decide (kv.1=k))=(kvs.map (·.1)).any λx=>decide (x=k):=by rw[List.any_map];rfl
 rw[e1,e2,h.1]
theorem KRl.cons {K:W.Frag}{F:Hp}{k:bv}{v:V}{d:D}{us:List (bv×V)}{kvs:List (bv×D)}(r:Rep K F v d)(h:KRl K F us kvs):KRl K F ((k,v)::us) ((k,d)::kvs):=⟨by rw[List.map_cons,List.map_cons,h.1],.cons r h.2⟩
theorem KRl.repl {K:W.Frag}{F:Hp}(k:bv){v:V}{d:D}(r:Rep K F v d): ∀ {us:List (bv×V)} {kvs:List (bv×D)},KRl K F us kvs->KRl K F (us.map (λkv=>if kv.1=k then(kv.1,v) else kv)) (kvs.map (λkv=>if kv.1=k then(kv.1,d) else kv)):=by
 intro us
 induction us with
 |nil=>
  intro kvs h;rcases h.inv with⟨_,rfl⟩|⟨_,_,_,_,_,e,_⟩
  ·exact h
  ·cases e
 |cons p us ih=>
  intro kvs h;rcases h.inv with⟨e,_⟩|⟨k',v',us',d',kvs',e,rfl,r',rs⟩
  ·cases e
  ·cases e
   rw[List.map_cons,List.map_cons]
   by_cases ek:k'=k
   ·rw[if_pos ek,if_pos ek];exact KRl.cons r (ih rs)
   ·rw[if_neg ek,if_neg ek];exact KRl.cons r' (ih rs)
theorem KRl.put {K:W.Frag}{F:Hp}(k:bv){v:V}{d:D}(r:Rep K F v d){us:List (bv×V)}{kvs:List (bv×D)}(h:KRl K F us kvs):KRl K F (jM us k v) (putD kvs k d):=by
 unfold jM putD;rw[h.any k];split
 ·exact h.repl k r
 ·refine⟨by rw[List.map_append,List.map_append,h.1];rfl,?_⟩
  rw[List.map_append,List.map_append];exact h.2.append (.cons r .nil)
theorem KRl.len {K:W.Frag}{F:Hp}{us:List (bv×V)}{kvs:List (bv×D)}(h:KRl K F us kvs):us.length=kvs.length:=by
 have:=congrArg List.length h.1
 simpa using this
section
variable {K:W.Frag}{c:Ct}{hid:bu}{ρ:aC}{σ:St}{H:Hp}{a:Addr}
theorem SR.dict(h:SR K c hid ρ σ H){i:Nat}{kvs:List (bv×D)}(e:qf i ρ=some kvs): ∃a us,σ[i]? =some (some (.ref a))/\hid a=true/\c.H₀ a=none/\H a=some (.dK us)/\KRl K (vw H hid) us kvs:=by
 obtain⟨a,h1,⟨h2,h3⟩,us,h4,h5,h6⟩:=h.sl i _ (mK e)
 exact⟨a,us,h1,h2,h3,h4,h5,h6⟩
theorem SR.setD {b:Ob}(h:SR K c hid ρ σ H)(ho:ObOk K c hid H a b)(no: ∀i:Nat,Ow ρ[i]? ->σ[i]? ≠some (some (.ref a)))(i:Nat):
 SR K c hid (ρ.set i (.ob b)) (σ.set i (some (.ref a))) H:=by
 refine⟨h.tr,h.ht,h.h0,h.kp,h.t0,h.c0,h.m0,by simp[h.len],λj s q=>?_,λj l z n o1 o2 q1 q2=>?_⟩
 ·by_cases e:j=i
  ·subst e
   have lt:j<ρ.length:=by
    have:=(List.getElem?_eq_some_iff.mp q).1
    simpa using this
   rw[List.getElem?_set_self lt] at q;cases q
   exact⟨a,List.getElem?_set_self (by rw[h.len];exact lt),ho⟩
  ·rw[List.getElem?_set_ne (Ne.symm e)] at q
   have w:=h.sl j s q
   have es:(σ.set i (some (V.ref a)))[j]? =σ[j]? :=List.getElem?_set_ne (Ne.symm e)
   cases s with
   |no=>trivial
   |v d=>obtain⟨x,h1,h2⟩:=w;exact⟨x,es.trans h1,h2⟩
   |own ds=>obtain⟨a,xs,h1,h2⟩:=w;exact⟨a,xs,es.trans h1,h2⟩
   |arg ds=>obtain⟨a,xs,h1,h2⟩:=w;exact⟨a,xs,es.trans h1,h2⟩
   |ob b=>obtain⟨a,h1,h2⟩:=w;exact⟨a,es.trans h1,h2⟩
 ·by_cases e1:j=i
  ·subst e1
   have e2:l≠j:=λe=>n e.symm
   rw[List.getElem?_set_ne (Ne.symm e2)] at o2 q2
   by_cases lt:j<σ.length
   ·rw[List.getElem?_set_self lt] at q1;cases q1;exact no l o2 q2
   ·rw[List.getElem?_eq_none (by simpa using lt)] at q1;cases q1
  ·rw[List.getElem?_set_ne (Ne.symm e1)] at o1 q1
   by_cases e2:l=i
   ·subst e2
    by_cases lt:l<σ.length
    ·rw[List.getElem?_set_self lt] at q2;cases q2;exact no j o1 q1
    ·rw[List.getElem?_eq_none (by simpa using lt)] at q2;cases q2
   ·rw[List.getElem?_set_ne (Ne.symm e2)] at o2 q2
    exact h.ap j l z n o1 o2 q1 q2
theorem ObOk.kind {b:Ob}(h:ObOk K c hid H a b)(o:mV b): ∃u,H a=some u/\ ∀p v,u≠ .nst p v:=by
 cases b with
 |nst us=>obtain⟨_,_,e,_⟩:=h;exact⟨_,e,nofun⟩
 |dQ kvs=>exact o.elim
 |frs d=>exact o.elim
 |dR kvs=>exact o.elim
 |dRs l=>exact o.elim
 |exc x n=>exact o.elim
 |dK kvs=>obtain⟨_,_,e,_⟩:=h;exact⟨_,e,nofun⟩
 |dT kvs=>obtain⟨_,_,e,_⟩:=h;exact⟨_,e,nofun⟩
 |set ds=>obtain⟨_,_,e,_⟩:=h;exact⟨_,e,nofun⟩
 |old d=>exact o.elim
 |jnk=>obtain⟨_,_,e⟩:=h;exact⟨_,e,nofun⟩
 |tset ks=>obtain⟨_,_,e,_⟩:=h;exact⟨_,e,nofun⟩
 |dF kvs=>obtain⟨_,_,_,e,_⟩:=h;exact⟨_,e,nofun⟩
theorem SR.putO {x:Addr}{i:Nat}{b b':Ob}{o':HO}(h:SR K c hid ρ σ H)(hg:ρ[i]? =some (.ob b))(ow:mV b)(ow':mV b')(ha:σ[i]? =some (some (.ref a)))(hx:At H a x)(h2:hid x=true)(h3:c.H₀ x=none)
 (nt: ∀xs,o'≠ .tup xs) (new:ObOk K c hid (bz H x o') a b'):SR K c hid (ρ.set i (.ob b')) σ (bz H x o'):=by
 have lt:i<ρ.length:=(List.getElem?_eq_some_iff.mp hg).1
 have vv:vw (bz H x o') hid=vw H hid:=dI h2
 have tr': ∀b o,H b=some o-> ∃o2,(bz H x o') b=some o2:=λb o q=>by
  by_cases e:b=x
  ·subst e;exact⟨_,aL⟩
  ·exact⟨o,by rw[aG e];exact q⟩
 have owi:Ow ρ[i]? :=by rw[hg];exact ow
 obtain⟨a2,ha2,kb⟩:=h.sl i _ hg
 rw[ha] at ha2;cases ha2;obtain⟨w,kw,kn⟩:=kb.kind ow
 have ne: ∀(j:Nat) (s:Sl) (a' y:Addr) (w':HO),j≠i->ρ[j]? =some s->Ow (some s)->σ[j]? =some (some (.ref a'))->H a'=some w'->(∀p v,w'≠ .nst p v)->At H a' y->y≠x:=λj s a' y w' n e o q hw wn hy=>by
  have na:a'≠a:=λz=>by subst z;exact h.ap j i a' n (by rw[e];exact o) owi q ha
  rcases hx with rfl|⟨u,hu⟩
  ·exact hy.ne na kw kn
  ·intro z
   subst z;rcases hy with rfl|⟨u',hu'⟩
   ·rw[hw] at hu;exact wn _ _ (Option.some.inj hu)
   ·rw[hu] at hu';cases hu';exact na rfl
 have ows: ∀j:Nat,Ow (ρ.set i (.ob b'))[j]? ->Ow ρ[j]? :=λj o=>by
  by_cases e:j=i
  ·subst e;exact owi
  ·rw[List.getElem?_set_ne (Ne.symm e)] at o;exact o
 refine⟨λb hb=>let⟨o,q⟩:=h.tr b hb;tr' b o q,λb xs hb q=>by
  by_cases e:b=x
  ·subst e;rw[aL] at q;exact nt xs (Option.some.inj q)
  ·rw[aG e] at q;exact h.ht b xs hb q,h.h0,λb o q m=>?_,λb o q=>let⟨o2,q2⟩:=h.t0 b o q;tr' b o2 q2,h.c0,h.m0,by simp[h.len],λj s e=>?_,λj l z n o1 o2=>h.ap j l z n (ows j o1) (ows l o2)⟩
 ·rw[aG (bd q h3)];exact h.kp b o q m
 ·by_cases ej:j=i
  ·subst ej
   rw[List.getElem?_set_self lt] at e;cases e
   exact⟨a,ha,new⟩
  ·rw[List.getElem?_set_ne (Ne.symm ej)] at e
   have z:=h.sl j s e
   cases s with
   |no=>trivial
   |v d=>obtain⟨x,h1,h2⟩:=z;exact⟨x,h1,by rw[vv];exact h2⟩
   |own ds=>obtain⟨a',xs,h1,h2,h3,h4,h5⟩:=z;exact⟨a',xs,h1,by rw[aG (ne j _ a' a' _ ej e trivial h1 h2 nofun (.inl rfl))];exact h2,h3,h4,by rw[vv];exact h5⟩
   |arg ds=>obtain⟨a',xs,h1,h2,h3,h4,h5⟩:=z;exact⟨a',xs,h1,by rw[aG (ne j _ a' a' _ ej e trivial h1 h2 nofun (.inl rfl))];exact h2,h3,h4,by rw[vv];exact h5⟩
   |ob b=>
    obtain⟨a',h1,h2⟩:=z
    exact⟨a',h1,h2.mono (λow y hy o q=>by
     obtain⟨w',hw,wn⟩:=h2.kind ow
     rw[aG (ne j _ a' y w' ej e ow h1 hw wn hy)];exact q) (by rw[vv];exact Same.refl _) λ_ _ _ q=>q⟩
theorem SR.putD {i:Nat}{kvs kvs':List (bv×D)}{us':List (bv×V)}(h:SR K c hid ρ σ H)(hg:qf i ρ=some kvs)(ha:σ[i]? =some (some (.ref a)))(r:KRl K (vw H hid) us' kvs'):SR K c hid (ρ.set i (.ob (.dK kvs'))) σ (bz H a (.dK us')):=by
 obtain⟨a1,us,h1,h2,h3,h4,h5⟩:=h.dict hg
 rw[ha] at h1;cases h1;exact h.putO (mK hg) trivial trivial ha (.inl rfl) h2 h3 nofun ⟨⟨h2,h3⟩,us',aL,r.1,by rw[dI h2];exact r.2⟩
end
section
variable {X:Cx}{c:Ct}{k k1 k2:Kd}{e f ek ev:Expr}{fe ff fk fv:FE}{pos pos' py apos cpos p:Pos}{x y:Str}
def pZ(i:Nat):FS:=λρ=>.nx (ρ.set i (.ob (.dK [])))
theorem sQ(i:Nat)(hn:X.N.Nodup)(hi:X.N[i]? =some x:=by rfl)(hx:uY X.env.scope x:=by first|exact Or.inl rfl|exact Or.inr rfl)(hs:swapsWith (.Dict [] [] p) (some (.Name x pos')) pos.line X.env=pure false:=by rfl)
 (hf:X.fn x=true\/X.env.scope.names.lookup x=some .local:=by first|exact .inl rfl|exact .inr rfl|assumption):DS X c k (.Assign [.Name x pos'] (.Dict [] [] p) pos) (pZ i):=λρ=>PS.imp (jR hn hi hx xq hs hf) λD σ H hq_=>by
 obtain⟨hid,sr,q⟩:=hq_
 intro a ha;have sm:=bh ha (.dK [])
 have nf:=sr.fresh ha
 refine q _ _ (bI hid a) (SR.setD (a:=a) (b:=.dK []) (sr.hide sm ha aL) ⟨⟨fP,sr.fresh0 ha⟩,[],aL,rfl,.nil⟩ (sr.notOw nf) i) λb o w=>?_
 obtain⟨w1,w2⟩:=vw_some.mp w
 refine vw_some.mpr ⟨?_,sm b o w2⟩
 unfold bI;rw[w1];have:b≠a:=bd w2 ha
 simp[this]
def ka(i:Nat)(fk fv:FE):FS:=λρ=>match qf i ρ with
 |some kvs=>(match fv ρ with
  |some d=>(match (fk ρ).bind qq with
   |some k=>if kvs.length<=1000 then .nx (ρ.set i (.ob (.dK (putD kvs k d)))) else .no
   |none=>.no)
  |none=>.no)
 |none=>.no
theorem tX(i:Nat)(hu:X.A.units+1<cLine)(hk:DP X c k1 ek fk)(hv:DP X c .s ev fv)(hN:X.N[i]? =some y:=by rfl)(hv':oN X.env.scope y:=by first|exact Or.inl rfl|exact Or.inr (Or.inl rfl)|exact Or.inr (Or.inr rfl))(hd:(y==("__debug__":Str))=false:=by decide)
 (hcd:(y==("__classdict__":Str))=false:=by decide) (hs:swapsWith ev (some (.Subscript (.Name y py) ek pos')) pos.line X.env=pure false:=by rfl):
 DS X c k (.Assign [.Subscript (.Name y py) ek pos'] ev pos) (ka i fk fv):=λρ=>PS.imp (yT hu (pv i hN hv' hd hcd) (jQ λhid=>hk hid ρ) (jQ λhid=>hv hid ρ) hs) λD σ H hq_=>by
 obtain⟨hid,sr,q⟩:=hq_
 unfold ka at q;split at q
 ·rename_i kvs e0
  split at q
  ·rename_i d e1
   split at q
   ·rename_i kk e2
    split at q
    ·rename_i hz
     obtain⟨dk,e3,e4⟩:=Option.bind_eq_some_iff.mp e2
     obtain⟨j,rfl,rfl⟩:=iS e4
     obtain⟨a,us,a1,a2,a3,a4,a5⟩:=sr.dict e0
     refine⟨hid,sr,d,e1,λv H1 s1 r1=>⟨.ref a,a1,hid,sr.ext s1,_,e3,λz H2 s2 r2=>?_⟩⟩
     have i1:=(RK.b k1 r2 λa n=>(sr.ext s1).fresh n).int
     cases i1
     have s12:=s1.trans s2
     have hh:H2 a=some (.dK us):=s12 _ _ a4
     refine⟨a,_,rfl,DPut.k (k:=Sum.inl j) hh (by rw[a5.len];exact Nat.lt_of_le_of_lt hz (by decide)),?_⟩
     have r1':Rep X.K (vw H1 hid) v d:=r1
     refine q _ _ hid ((sr.ext s12).putD e0 a1 (KRl.put (Sum.inl j) (r1'.mono (aH s2)) ⟨a5.1,a5.2.mono (aH s12)⟩)) ?_
     rw[dI a2];exact aH s12
    ·exact q.elim
   ·exact q.elim
  ·exact q.elim
 ·exact q.elim
def j8(i:Nat)(fk fd:FE):FE:=λρ=>(qf i ρ).bind λkvs=>((fk ρ).bind qq).bind λk=>(fd ρ).map λd=>(kA kvs k).getD d
theorem sM(i:Nat)(hu:X.A.units+1<cLine)(he:DP X c k1 e fe)(hf:DP X c .s f ff)(m:M2 X (.Name y py) "get" apos e f cpos)(hN:X.N[i]? =some y:=by rfl)(hv':oN X.env.scope y:=by first|exact Or.inl rfl|exact Or.inr (Or.inl rfl)|exact Or.inr (Or.inr rfl))(hd:(y==("__debug__":Str))=false:=by decide)
 (hcd:(y==("__classdict__":Str))=false:=by decide):DP X c .s (.Call (.Attribute (.Name y py) "get" apos) [e,f] [] cpos) (j8 i fe ff):=λhid ρ=>
 PE.imp (xv hu (pv i hN hv' hd hcd) (he hid ρ) (hf hid ρ) m) λσ H Q hq_=>by
  obtain⟨sr,d,hd,q⟩:=hq_
  obtain⟨kvs,e0,hd⟩:=Option.bind_eq_some_iff.mp hd
  obtain⟨kk,e1,hd⟩:=Option.bind_eq_some_iff.mp hd
  obtain⟨dd,e2,rfl⟩:=Option.map_eq_some_iff.mp hd
  obtain⟨dk,e3,e4⟩:=Option.bind_eq_some_iff.mp e1
  obtain⟨j,rfl,rfl⟩:=iS e4
  obtain⟨a,us,a1,a2,a3,a4,a5⟩:=sr.dict e0
  refine⟨.ref a,a1,a,rfl,.inl ⟨us,.inl a4⟩,sr,_,e3,λz H2 s2 r2=>⟨sr.ext s2,_,e2,λw H3 s3 r3=>?_⟩⟩
  have i1:=(RK.b k1 r2 λa n=>sr.fresh n).int
  cases i1
  have s23:=s2.trans s3
  have hh:H3 a=some (.dK us):=s23 _ _ a4
  have rr:KRl X.K (vw H3 hid) us kvs:=⟨a5.1,a5.2.mono (aH s23)⟩
  refine⟨_,DGet.k (k:=Sum.inl j) hh,q _ H3 s23 ?_⟩
  rcases rr.val (Sum.inl j) with⟨v1,v2⟩|⟨v,d,v1,v2,v3⟩
  ·rw[v1,v2];exact r3
  ·rw[v1,v2];exact v3
def l7(i:Nat)(fk:FE):FE:=λρ=>(qf i ρ).bind λkvs=>((fk ρ).bind qq).bind λk=>kA kvs k
theorem oA(i:Nat)(hu:X.A.units+1<cLine)(he:DP X c k1 e fe)(hs:AO e)(hN:X.N[i]? =some y:=by rfl)(hv':oN X.env.scope y:=by first|exact Or.inl rfl|exact Or.inr (Or.inl rfl)|exact Or.inr (Or.inr rfl))(hd:(y==("__debug__":Str))=false:=by decide)
 (hcd:(y==("__classdict__":Str))=false:=by decide):DP X c .s (.Subscript (.Name y py) e pos) (l7 i fe):=λhid ρ=>
 PE.imp (yn hu (pv i hN hv' hd hcd) (he hid ρ) hs) λσ H Q hq_=>by
  obtain⟨sr,d,hd,q⟩:=hq_
  obtain⟨kvs,e0,hd⟩:=Option.bind_eq_some_iff.mp hd
  obtain⟨kk,e1,hd⟩:=Option.bind_eq_some_iff.mp hd
  obtain⟨dk,e3,e4⟩:=Option.bind_eq_some_iff.mp e1
  obtain⟨j,rfl,rfl⟩:=iS e4
  obtain⟨a,us,a1,a2,a3,a4,a5⟩:=sr.dict e0
  refine⟨.ref a,a1,sr,_,e3,λz H2 s2 r2=>?_⟩
  have i1:=(RK.b k1 r2 λa n=>sr.fresh n).int
  cases i1
  have hh:H2 a=some (.dK us):=s2 _ _ a4
  have rr:KRl X.K (vw H2 hid) us kvs:=⟨a5.1,a5.2.mono (aH s2)⟩
  rcases rr.val (Sum.inl j) with⟨v1,v2⟩|⟨v,d',v1,v2,v3⟩
  ·rw[v2] at hd;cases hd
  ·rw[v2] at hd;cases hd
   exact⟨a,v,rfl,v1▸DGet.k (k:=Sum.inl j) hh,q _ H2 s2 v3⟩
end
open PySem PySem.W PySem.Spec PyProof.Rows
section
variable {prog:Program}{w:World}{A:Around}{E:Value->Shared->Prop}{s:Shared}
theorem sv {T:String}{r d:Addr}{n:Nat}{P:Nat->Value->Prop}{OK:Heap->Prop}{R:List Value->Shared->Prop}(src:KdlSrc prog w T r d n P OK)(calm:A.handled=none)(good:OK s.heap)(few:n<=sizeLine)
 (q: ∀(g:Heap) (tk:Nat) (us:Array Value),(∀b o,s.heap.get? b=some o->g.get? b=some o)->s.heap.objs.size<g.objs.size->ItemsOf P us n->R us.toList {s with heap:=g,toks:=tk}):wpAny (model prog w) A (collect (.ref r)) R E s:=by
 obtain⟨rl,dl⟩:=src.there _ good
 unfold collect;refine wpAny_bind (wpAny_runValue (codeAny_builtin F.entry_proto_collect ?_))
 rw[Around.under_plainId F.plain_proto_collect _];show wpAny _ A.in1 (newList []>>=λz=>again (.builtin "list.__iadd__" ⟨[z,.ref r],[]⟩)) _ _ s
 refine wpAny_bind (wpAny_newObj_type (wpAny_pure ⟨plainId_quiet F.plain_list_iadd _,codeAny_builtin F.entry_list_iadd ?_⟩))
 rw[Around.under_plainId F.plain_list_iadd _];show wpAny _ A.in1 (Builtin.List.listExtendWith (.ref s.heap.objs.size) (.ref r) (.ref s.heap.objs.size)) _ _ _;have last: ∀(g:Heap) (tk:Nat) (us:Array Value) (m:Nat),(∀b o,s.heap.get? b=some o->g.get? b=some o)->g.get? s.heap.objs.size=some {cls:=.type "list",dict:=none,data:=.seq us m,slots:= #[]}->ItemsOf P us n->
  wpAny (model prog w) A (do
   match (<-load s.heap.objs.size).data with
    |Data.seq xs _=>pure xs.toList
    |_=>unsupported "internal:collect") R E {s with heap:=g,toks:=tk}:=λg tk us m kg hg hi=>wpAny_bind (wpAny_load hg (wpAny_pure (q g tk us kg (Heap.lt_size hg) hi)))
 have ext:=kdl_extend (A:=A) (s:={s with heap:=s.heap.push {cls:=.type "list",data:=.seq ([]:List Value).toArray}})
  (R:=λz t=> ∃(g:Heap) (tk:Nat) (us:Array Value) (m:Nat),z=.ok (.ret (.ref s.heap.objs.size))/\t={s with heap:=g,toks:=tk}/\(∀b o,s.heap.get? b=some o->g.get? b=some o)/\g.get? s.heap.objs.size=some {cls:=.type "list",dict:=none,data:=.seq us m,slots:= #[]}/\ItemsOf P us n)
  src calm (src.keep _ _ good λb _ o e=>Heap.get?_push_of_some _ e) s.heap.objs.size (Nat.ne_of_gt rl) (Nat.ne_of_gt dl) (.ref s.heap.objs.size) 0 (Heap.get?_push_size _ rfl)
  (λg tk us m kg hg hi=>⟨g,tk,us,m,rfl,rfl,λb o e=>kg b o (Nat.ne_of_lt (Heap.lt_size e)) (Heap.get?_push_of_some _ e),hg,hi⟩) few
 refine wpAny_mono ext (λz t h=>?_) λz t h=>by obtain⟨_,_,_,_,e,_⟩:=h;cases e
 cases z with
 |done f=>obtain⟨g,tk,us,m,e,rfl,kg,hg,hi⟩:=h;cases e;exact last g tk us m kg hg hi
 |again c=>exact⟨h.1,codeAny_mono h.2 λz t' hr=>by obtain⟨g,tk,us,m,rfl,rfl,kg,hg,hi⟩:=hr;exact last g tk us m kg hg hi⟩
theorem p7 {d:Addr}{ns:List Int}{vs:List (bv×Value)}{Q:Value->Shared->Prop}(hk:vs.map (·.1)=ns.map Sum.inl)(hd:s.heap.DictOf (bC prog w) d vs)(lo:(d==sysModules)=false)(hh:A.handled=none)(hz:ns.length<64)
 (fin: ∀(g:Heap) (tk a e:Nat) (us:List Value),(∀c o,s.heap.get? c=some o->g.get? c=some o)->s.heap.objs.size<=a->wG us (bN jj ns)->g.get? a=some (seqObj "list" us.toArray e)->Q (.ref a) {s with heap:=g,toks:=tk}):
 wpAny (model prog w) A (call (.builtin "sorted") [.ref d]) Q E s:=by
 obtain⟨ep,hd'⟩:=hd.dictAt
 have lv:vs.length=ns.length:=by have:=congrArg List.length hk;simpa using this
 refine Calls.call_function_entry kind_sorted plain_sorted entry_sorted (args_sorted1 _) ?_
 unfold Builtin.«sorted»;refine wpAny_bind (m:=checkCount "sorted" 1 1 _) (wpAny_pure (wpAny_bind (sv (A:=A.in1) (kdl_dict lo) hh hd' (by rw[lv,sizeLine_eq];omega) λg tk acc kg sg0 hacc=>?_)))
 obtain⟨us,hus⟩: ∃us,us=acc.toList:=⟨_,rfl⟩
 rw[<-hus];have hl:us.length=ns.length:=by rw[hus,Array.length_toList,hacc.1,lv]
 have gi: ∀i,i<ns.length-> ∃t,us.getD i Value.none=Value.int (ns.getD i 0) t:=λi hi=>by
  have e2:us[i]? =some us[i]:=List.getElem?_eq_getElem (by omega)
  have e3:acc[i]? =some us[i]:=by rw[<-Array.getElem?_toList,<-hus];exact e2
  obtain⟨k,x,h1,h2⟩:=hacc.2 i _ e3
  have h3:(vs.map (·.1))[i]? =some k:=by rw[List.getElem?_map,h1];rfl
  rw[hk,List.getElem?_map,List.getElem?_eq_getElem hi] at h3;cases h3
  rw[qG] at h2;rcases bx h2 with⟨j,t,q1,q2⟩|⟨_,_,q1,_⟩
  ·cases q1
   exact⟨t,by simp[List.getD,e2,q2,List.getElem?_eq_getElem hi]⟩
  ·cases q1
 have pickI: ∀(ix:List Nat) (ms:List Int),ix.map (λi=>ns.getD i 0)=ms->(∀i∈ix,i<ns.length)->wG (ix.map λi=>us.getD i Value.none) ms:=by
  intro ix
  induction ix with
  |nil=>intro ms e _;rw[<-e];exact .nil
  |cons i ix ih=>
   intro ms e hi;rw[<-e,List.map_cons,List.map_cons];exact .cons (gi i (hi i List.mem_cons_self)) (ih _ rfl λj hj=>hi j (List.mem_cons_of_mem _ hj))
 have sg:s.heap.objs.size<=g.objs.size:=Nat.le_of_lt sg0
 refine wpAny_bind (wpAny_newList ?_ (by rw[sizeLine_eq];omega))
 have hL:(g.push (seqObj "list" us.toArray 0)).get? g.objs.size=some (seqObj "list" us.toArray 0):=Heap.get?_push_size _ rfl
 show wpAny _ _ _ _ _ {s with heap:=g.push (seqObj "list" us.toArray 0),toks:=tk}
 have end_: ∀ix:List Nat,wG (ix.map λi=>us.getD i Value.none) (bN jj ns)->Q (.ref g.objs.size) {s with heap:=sortedHeap (g.push (seqObj "list" us.toArray 0)) g.objs.size us (List.toArray (ix.map λi=>us.getD i Value.none)),toks:=tk}:=λix hG=>by
  obtain⟨e,he⟩:=sortedHeap_at (out:=List.toArray (ix.map λi=>us.getD i Value.none)) hL
  refine fin _ tk g.objs.size e _ (λc u hu=>?_) sg hG he
  have lt:=Heap.lt_size (kg c u hu)
  rw[sortedHeap_old (Nat.ne_of_lt lt) (by rw[size_push'];exact Nat.lt_succ_of_lt lt)]
  exact Heap.get?_push_of_some _ (kg c u hu)
 refine wpAny_bind (wpAny_holding (wpAny_call_entry slot_list_sort ⟨_,hL,rfl⟩ entry_list_sort (rJ (P:=λf t=> ∃v,f=.done (.ret v)/\wpAny (model prog w) A.in1 (pure (PySem.Fin.done (.ret (Value.ref g.objs.size)))) (λf t=> ∃v,f=.done (.ret v)/\Q v t) E t) hL (by omega) (λh=>?_) (λh g' kg'=>?_)) (args_list_sort _)))
 ·have e:=end_ (List.range us.length) (pickI _ _ (by rw[hl,lu,om (by omega)]) λi hi=>by rw[List.mem_range] at hi;omega)
  rw[show(List.range us.length).map (λi=>us.getD i Value.none)=us from List.ext_getElem? λi=>by
   by_cases hi:i<us.length
   ·simp[hi]
   ·simp[hi]] at e
  exact⟨_,rfl,wpAny_pure ⟨_,rfl,e⟩⟩
 ·refine kas_kind (T:=.type "int") h (λv hv'=>?_) (by rfl) (by rfl) ⟨rfl,?_⟩
  ·obtain⟨i,hi,rfl⟩:=List.getElem_of_mem hv'
   obtain⟨t,e⟩:=gi i (by omega)
   have:us[i]=us.getD i Value.none:=by simp[List.getD,List.getElem?_eq_getElem hi]
   rw[this,e];exact Looks.now
  ·have base:(kas_sort us.length).kasWp (kas_ask prog w A.in1.in1 oneType' us) (λp t'=>t'={s with heap:=g',toks:=tk}/\wG (p.toList.map λi=>us.getD i Value.none) (bN jj ns)) {s with heap:=g',toks:=tk}:=by
    rw[hl];refine yJ (b:=λi j=>jj (ns.getD i 0) (ns.getD j 0)) (DC BV _) (by omega) (λi j C hi hj hC=>?_) λp P S=>⟨rfl,?_⟩
    ·obtain⟨t,e⟩:=gi i hi
     obtain⟨t',e'⟩:=gi j hj
     unfold kas_ask;rw[e,e'];exact kat_lt_int hC
    ·refine pickI _ _ (pg BV P S) λi hi=>?_
     have:=P.perm.mem_iff.mp (Array.mem_toList_iff.mp hi)
     simpa using this
   rw[kat_ask_eq rfl] at base⊢;exact kas_wp_mono base λp t' ⟨e1,hG⟩=>⟨e1,_,rfl,wpAny_pure ⟨_,rfl,end_ _ hG⟩⟩
end
section
variable {X:Cx}{c:Ct}{pos p py:Pos}{x y:Str}
theorem xC {us:List Value}{ns:List Int}(h:wG us ns):Vals (ns.map V.int) us:=by
 induction h with
 |nil=>exact .nil
 |cons h _ ih=>exact .cons h ih
theorem oH(hc:X.calm=true):eJ X (.builtin "sorted") (λxs H Q=> ∃a us ns,xs=[.ref a]/\H a=some (.dK us)/\us.map (·.1)=ns.map Sum.inl/\ns.length<64/\ ∀l,H l=none->Q (.ref l) (bz H l (.lst ((bN jj ns).map V.int)))):=by
 intro ae s σ H xs us Q I r h;obtain⟨a,kvs,ns,rfl,ha,hk,hz,q⟩:=h
 obtain⟨u,rfl,rx⟩:=g9 r
 cases rx
 obtain⟨z,lo,vs,rel,dd⟩:=Ac I.hok ha
 refine p7 (vs:=vs) (by rw[<-rel.keys,hk]) dd lo (I.ok.hd hc) hz λg tk a' e us kg sg hi hg=>?_
 have hn:H a'=none:=I.hok.fresh sg
 refine⟨.ref a',_,I.laid (t':=tk) (o:=.lst ((bN jj ns).map V.int)) kg sg ?_,rfl,q a' hn⟩
 have ll:(bN jj ns).length=ns.length:=(bM (lt:=jj) ns).length_eq
 exact⟨by rw[List.length_map,ll,sizeLine_eq];omega,us,e,xC hi,hg⟩
theorem mj {K:W.Frag}{F:Hp}: ∀ms:List Int,Reps K F (ms.map V.int) (ms.map D.int)
 | []=>.nil
 |m::ms=>.cons .int (mj ms)
def ge:List (bv×D)->Option (List Int)
 | []=>some []
 |(.inl i,_)::r=>(ge r).map (i:: ·)
 |_=>none
theorem lQ: ∀ {kvs:List (bv×D)} {ns:List Int},ge kvs=some ns->kvs.map (·.1)=ns.map Sum.inl
 | [],ns,h=>by cases h;rfl
 |(.inl i,d)::r,ns,h=>by
  have h:(ge r).map (i:: ·)=some ns:=h
  obtain⟨t,e,rfl⟩:=Option.map_eq_some_iff.mp h
  rw[List.map_cons,lQ e];rfl
 |(.inr _,_)::_,_,h=>by cases h
def mL(i:Nat):FE:=λρ=>(qf i ρ).bind λkvs=>(ge kvs).bind λns=>if ns.length<64 then some (.lst ((bN jj ns).map D.int)) else none
theorem tf(i:Nat)(hcm:X.calm=true)(hm:X.mg "sorted"=none)(hN:X.N[i]? =some y:=by rfl)(hv':oN X.env.scope y:=by first|exact Or.inl rfl|exact Or.inr (Or.inl rfl)|exact Or.inr (Or.inr rfl))(hd:(y==("__debug__":Str))=false:=by decide)
 (hcd:(y==("__classdict__":Str))=false:=by decide) (hg:Gl X "sorted":=by rfl) (hv:bootBuiltins "sorted"=some (.builtin "sorted"):=by kernel_rfl)
 (he:starEach [.Name y py] X.env=(false,eval (.Name y py) X.env)::starEach [] X.env:=by rfl) (hpl:(backTo pos (starEach [] X.env)).any (·.1)=false:=by rfl):DP X c .n (.Call (.Name "sorted" p) [.Name y py] [] pos) (mL i):=λhid ρ=>
 PE.imp (lJ (oH hcm) hg hm hv (bF (pv i hN hv' hd hcd) eB he) (by decide) (by decide) he hpl) λσ H Q hq_=>by
  obtain⟨sr,d,hd,q⟩:=hq_
  obtain⟨kvs,e0,hd⟩:=Option.bind_eq_some_iff.mp hd
  obtain⟨ns,e1,hd⟩:=Option.bind_eq_some_iff.mp hd
  split at hd
  ·rename_i hz
   cases hd
   obtain⟨a,us,a1,a2,a3,a4,a5⟩:=sr.dict e0
   refine⟨.ref a,a1,a,us,ns,rfl,a4,by rw[a5.1];exact lQ e1,hz,λl hl=>q _ _ (bh hl _) ⟨l,_,_,rfl,rfl,hl,aL,?_⟩⟩
   exact mj _
  ·cases hd
end
mutual
def LF:D->Bool
 | .lst _=>false
 | .tup ds=>nr ds
 | .scr ds=>nr ds
 |_=>true
def nr:List D->Bool
 | []=>true
 |d::ds=>LF d&&nr ds
end
theorem ww {K:W.Frag}{H:Hp}{g g':bu}(h: ∀t,g' t=false->g t=true->ip (H t)=true){a:Addr}{xs:List V}(s:SqT K (vw H g') a xs):SqT K (vw H g) a xs:=by
 rcases s with(s|⟨o,s⟩)|s
 ·obtain⟨h1,h2⟩:=vw_some.mp s
  refine .inl (.inl (vw_some.mpr ⟨?_,h2⟩))
  cases e:g a with
  |false=>rfl
  |true=>have:=h a h1 e;rw[h2] at this;cases this
 ·obtain⟨h1,h2⟩:=vw_some.mp s
  refine .inl (.inr ⟨o,vw_some.mpr ⟨?_,h2⟩⟩)
  cases e:g a with
  |false=>rfl
  |true=>have:=h a h1 e;rw[h2] at this;cases this
 ·exact .inr s
theorem xn {K:W.Frag}{H:Hp}{g g':bu}(h: ∀t,g' t=false->g t=true->ip (H t)=true){a:Addr}{xs:List V}(s:SqR K (vw H g') a xs):SqR K (vw H g) a xs:=by
 rcases s with⟨o,s⟩|s
 ·obtain⟨h1,h2⟩:=vw_some.mp s
  refine .inl ⟨o,vw_some.mpr ⟨?_,h2⟩⟩
  cases e:g a with
  |false=>rfl
  |true=>have:=h a h1 e;rw[h2] at this;cases this
 ·exact .inr s
mutual
theorem vN {K:W.Frag}{H:Hp}{g g':bu}(h: ∀t,g' t=false->g t=true->ip (H t)=true): ∀ {v:V} {d:D},Rep K (vw H g') v d->LF d=true->Rep K (vw H g) v d
 |_,_,.non,_=>.non
 |_,_,.bl,_=>.bl
 |_,_,.int,_=>.int
 |_,_,.str,_=>.str
 |_,_,.tup s r,l=>.tup (ww h s) (hZ h r (by unfold LF at l;exact l))
 |_,_,.scr s r,l=>.scr (xn h s) (hZ h r (by unfold LF at l;exact l))
 |_,_,.lst s r,l=>by unfold LF at l;cases l
theorem hZ {K:W.Frag}{H:Hp}{g g':bu}(h: ∀t,g' t=false->g t=true->ip (H t)=true): ∀ {v:List V} {d:List D},Reps K (vw H g') v d->nr d=true->Reps K (vw H g) v d
 |_,_,.nil,_=>.nil
 |_,_,.cons r rs,l=>by
  unfold nr at l;rw[Bool.and_eq_true] at l;exact .cons (vN h r l.1) (hZ h rs l.2)
end
section
variable {X:Cx}{c:Ct}{e:Expr}{es:List Expr}{pos p:Pos}{x:Str}{ps:List Str}{j n:Nat}
theorem zm {P:List D->Option D}{ds:List D}{d:D}(h:nF n P ds=some d):ds.length=n/\P ds=some d:=by
 have h:(if ds.length=n then P ds else none)=some d:=h
 split at h
 ·exact⟨‹_›,h⟩
 ·cases h
end
def vW:List Expr->Option (List Int)
 | []=>some []
 | .Constant (.int n) _ _::r=>(vW r).map (n:: ·)
 |_=>none
def po(ns:List Int):FA:=λ_=>some (ns.map D.int)
@[irreducible] def QE (X:Cx) (c:Ct) (e:Expr) (g:GE):Prop:=DE X c .s e g
section
variable {X:Cx}{c:Ct}{pos:Pos}
theorem wP: ∀ {es:List Expr} {ns:List Int},vW es=some ns->DA X c es (po ns)
 | [],ns,h=>by cases h;exact am
 |e::r,ns,h=>by
  unfold vW at h;split at h
  ·rename_i h0;cases h0
  ·rename_i n j p r' h0
   cases h0
   obtain⟨ms,h1,rfl⟩:=Option.map_eq_some_iff.mp h
   exact ag ao (wP h1)
  ·cases h
theorem AR {es:List Expr}{ns:List Int}(h:vW es=some ns):DP X c .n (.List es pos) (a9 (po ns)):=ck (wP h)
variable {k:Kd}{e b:Expr}{g:GE}{pos':Pos}{x:Str}
theorem QE.of(h:DE X c .s e g):QE X c e g:=by unfold QE;exact h
theorem QE.de(h:QE X c e g):DE X c .s e g:=by unfold QE at h;exact h
theorem wU {es:List Expr}{ns:List Int}(hb:QE X c b g)(h:vW es=some ns)(hs:kE b):QE X c (.Subscript (.List es pos') b pos) (jl aT (pu (a9 (po ns))) g):=.of (CW aF aN (DE.toS (DP.ef (AR h))) hb.de hs)
theorem yU(i:Nat)(hn:X.N.Nodup)(he:QE X c e g)(hi:X.N[i]? =some x:=by rfl)(hx:uY X.env.scope x:=by first|exact Or.inl rfl|exact Or.inr rfl)(hs:swapsWith e (some (.Name x pos')) pos.line X.env=pure false:=by rfl)
 (hf:X.fn x=true\/X.env.scope.names.lookup x=some .local:=by first|exact .inl rfl|exact .inr rfl|assumption):QS X c k (.Assign [.Name x pos'] e pos) (gF i g):=.of (i9 i hn he.de hi hx hs hf)
end
theorem BU {K:W.Frag}{F G:Hp}(h: ∀t o,F t=some o->ip (some o)=false->G t=some o){a:Addr}{xs:List V}(s:SqT K F a xs):SqT K G a xs:=by
 rcases s with(s|⟨o,s⟩)|s
 ·exact .inl (.inl (h _ _ s rfl))
 ·exact .inl (.inr ⟨o,h _ _ s rfl⟩)
 ·exact .inr s
theorem A2 {K:W.Frag}{F G:Hp}(h: ∀t o,F t=some o->ip (some o)=false->G t=some o){a:Addr}{xs:List V}(s:SqR K F a xs):SqR K G a xs:=by
 rcases s with⟨o,s⟩|s
 ·exact .inl ⟨o,h _ _ s rfl⟩
 ·exact .inr s
mutual
theorem wz {K:W.Frag}{F G:Hp}(h: ∀t o,F t=some o->ip (some o)=false->G t=some o): ∀ {v:V} {d:D},Rep K F v d->LF d=true->Rep K G v d
 |_,_,.non,_=>.non
 |_,_,.bl,_=>.bl
 |_,_,.int,_=>.int
 |_,_,.str,_=>.str
 |_,_,.tup s r,l=>.tup (BU h s) (iV h r (by unfold LF at l;exact l))
 |_,_,.scr s r,l=>.scr (A2 h s) (iV h r (by unfold LF at l;exact l))
 |_,_,.lst s r,l=>by unfold LF at l;cases l
theorem iV {K:W.Frag}{F G:Hp}(h: ∀t o,F t=some o->ip (some o)=false->G t=some o): ∀ {v:List V} {d:List D},Reps K F v d->nr d=true->Reps K G v d
 |_,_,.nil,_=>.nil
 |_,_,.cons r rs,l=>by
  unfold nr at l;rw[Bool.and_eq_true] at l;exact .cons (wz h r l.1) (iV h rs l.2)
end
def zh:Sl->Bool
 | .no=>true
 | .v d=>LF d
 | .own ds=>nr ds
 | .arg ds=>nr ds
 | .ob (.exc _ _)=>true
 | .ob .jnk=>true
 | .ob _=>false
def ED(ρ:aC):Bool:=ρ.all zh
theorem AL {ρ:aC}(h:ED ρ=true){i:Nat}{s:Sl}(e:ρ[i]? =some s):zh s=true:=List.all_eq_true.mp h s (List.mem_of_getElem? e)
section
variable {K:W.Frag}{c:Ct}{hid:bu}{ρ:aC}{σ:St}{H H':Hp}
theorem SR.muts(h:SR K c hid ρ σ H)(ok:ED ρ=true)(m: ∀t,H' t=H t\/(c.H₀ t=none/\hid t=false/\ip (H t)=true/\ip (H' t)=true)):SR K c hid ρ σ H':=by
 have tr': ∀b o,H b=some o-> ∃o2,H' b=some o2:=λb o q=>by
  rcases m b with e|⟨_,_,_,e⟩
  ·exact⟨o,by rw[e];exact q⟩
  ·cases z:H' b with
   |none=>rw[z] at e;cases e
   |some o2=>exact⟨o2,rfl⟩
 have hd: ∀b o,hid b=true->H b=some o->H' b=some o:=λb o hb q=>by
  rcases m b with e|⟨_,z,_⟩
  ·rw[e];exact q
  ·rw[hb] at z;cases z
 have nl: ∀t o,vw H hid t=some o->ip (some o)=false->vw H' hid t=some o:=λt o q l=>by
  obtain⟨q1,q2⟩:=vw_some.mp q
  refine vw_some.mpr ⟨q1,?_⟩
  rcases m t with e|⟨_,_,z,_⟩
  ·rw[e];exact q2
  ·rw[q2,l] at z;cases z
 refine⟨λb hb=>let⟨o,q⟩:=h.tr b hb;tr' b o q,λb xs hb q=>by
  obtain⟨o,w⟩:=h.tr b hb
  have z:=hd b o hb w
  rw[q] at z;cases z;exact h.ht b xs hb w,h.h0,λb o q u=>?_,λb o q=>let⟨o2,q2⟩:=h.t0 b o q;tr' b o2 q2,h.c0,h.m0,h.len,λi s e=>?_,h.ap⟩
 ·rcases m b with e|⟨z,_⟩
  ·rw[e];exact h.kp b o q u
  ·rw[z] at q;cases q
 ·have w:=h.sl i s e
  have k:=AL ok e
  cases s with
  |no=>trivial
  |v d=>obtain⟨x,h1,h2⟩:=w;exact⟨x,h1,wz nl h2 k⟩
  |own ds=>obtain⟨a,xs,h1,h2,h3,h4,h5⟩:=w;exact⟨a,xs,h1,hd _ _ h3 h2,h3,h4,iV nl h5 k⟩
  |arg ds=>obtain⟨a,xs,h1,h2,h3,h4,h5⟩:=w;exact⟨a,xs,h1,hd _ _ h3 h2,h3,h4,iV nl h5 k⟩
  |ob b=>
   obtain⟨a,h1,h2⟩:=w
   refine⟨a,h1,?_⟩
   cases b with
   |exc x n=>obtain⟨φ,g1,g2⟩:=h2;exact⟨φ,nl _ _ g1 rfl,g2⟩
   |jnk=>obtain⟨g1,us,g2⟩:=h2;exact⟨g1,us,hd _ _ g1.1 g2⟩
   |dK _=>cases k
   |dT _=>cases k
   |set _=>cases k
   |old _=>cases k
   |tset _=>cases k
   |dF _=>cases k
   |nst _=>cases k
   |dR _=>cases k
   |dRs _=>cases k
   |dQ _=>cases k
   |frs _=>cases k
theorem SR.setNo(h:SR K c hid ρ σ H)(i:Nat)(u:Option V):SR K c hid (ρ.set i .no) (σ.set i u) H:=by
 refine⟨h.tr,h.ht,h.h0,h.kp,h.t0,h.c0,h.m0,by simp[h.len],λj s q=>?_,λj l z n o1 o2 q1 q2=>?_⟩
 ·by_cases e:j=i
  ·subst e
   have lt:j<ρ.length:=by
    have:=(List.getElem?_eq_some_iff.mp q).1
    simpa using this
   rw[List.getElem?_set_self lt] at q;cases q
   trivial
  ·rw[List.getElem?_set_ne (Ne.symm e)] at q
   have w:=h.sl j s q
   have es:(σ.set i u)[j]? =σ[j]? :=List.getElem?_set_ne (Ne.symm e)
   cases s with
   |no=>trivial
   |v d=>obtain⟨x,h1,h2⟩:=w;exact⟨x,es.trans h1,h2⟩
   |own ds=>obtain⟨a,xs,h1,h2⟩:=w;exact⟨a,xs,es.trans h1,h2⟩
   |arg ds=>obtain⟨a,xs,h1,h2⟩:=w;exact⟨a,xs,es.trans h1,h2⟩
   |ob b=>obtain⟨a,h1,h2⟩:=w;exact⟨a,es.trans h1,h2⟩
 ·have nj: ∀m,Ow (ρ.set i .no)[m]? ->m≠i:=λm o e=>by
   subst e
   by_cases lt:m<ρ.length
   ·rw[List.getElem?_set_self lt] at o;exact o
   ·rw[List.getElem?_eq_none (by simpa using lt)] at o;exact o
  have e1:=nj j o1
  have e2:=nj l o2
  rw[List.getElem?_set_ne (Ne.symm e1)] at o1 q1;rw[List.getElem?_set_ne (Ne.symm e2)] at o2 q2;exact h.ap j l z n o1 o2 q1 q2
theorem Cf {α:Type}{l:List α}{i:Nat}{x:α}(h:l[i]? =some x):l.set i x=l:=by
 obtain⟨h1,h2⟩:=List.getElem?_eq_some_iff.mp h
 subst h2;exact List.set_getElem_self h1
theorem SR.drop(h:SR K c hid ρ σ H)(i:Nat):SR K c hid (ρ.set i .no) σ H:=by
 by_cases lt:i<σ.length
 ·have:=h.setNo i σ[i]
  rwa [Cf (List.getElem?_eq_getElem lt)] at this
 ·have e:ρ.set i .no=ρ:=List.set_eq_of_length_le (by rw[<-h.len];omega)
  rw[e];exact h
end
section
variable {K:W.Frag}{c:Ct}{hid hid':bu}{ρ ρ':aC}{σ σ':St}{H H':Hp}{k:Kd}{a:Addr}
def l8:Sl->Sl
 | .own _=>.no
 | .ob _=>.no
 |s=>s
def D9:Sl->Bool
 | .ob _=>false
 |_=>true
theorem tT {i:Nat}(h:Ow (ρ.map l8)[i]?):Ow ρ[i]? :=by
 rw[List.getElem?_map] at h;cases e:ρ[i]? with
 |none=>rw[e] at h;exact h
 |some s=>rw[e] at h;cases s<;>first|exact h|trivial
theorem SR.reb(h:SR K c hid ρ σ H):SR K ⟨H,hid,c.mu⟩ hid (ρ.map l8) σ H:=by
 refine⟨h.tr,h.ht,λ_ q=>q,λ_ _ q _=>q,λb o q=>⟨o,q⟩,h.tr,λb q=>h.h0 b (h.m0 b q),by simp[h.len],λi s e=>?_,λi j a n o1 o2=>h.ap i j a n (tT o1) (tT o2)⟩
 rw[List.getElem?_map] at e;cases e1:ρ[i]? with
 |none=>rw[e1] at e;cases e
 |some s1=>
  rw[e1] at e;have w:=h.sl i s1 e1
  cases s1 with
  |no=>cases e;trivial
  |v d=>cases e;exact w
  |own ds=>cases e;trivial
  |arg ds=>cases e;obtain⟨a,xs,h1,h2,h3,h4,h5⟩:=w;exact⟨a,xs,h1,h2,h3,h4,h5⟩
  |ob b=>cases e;trivial
def yf(H:Hp)(hid hid':bu):bu:=λb=>hid' b&&(hid b||(H b).isNone)
theorem SR.back(h:SR K c hid ρ σ H)(s:SR K ⟨H,hid,c.mu⟩ hid' ρ' σ' H')(ok:ρ'.all D9=true):SR K c (yf H hid hid') ρ' σ' H'/\Same (vw H hid) (vw H' (yf H hid hid')):=by
 have less:Same (vw H' hid') (vw H' (yf H hid hid')):=cr λb q=>by unfold yf at q;rw[Bool.and_eq_true] at q;exact q.1
 refine⟨⟨λb q=>s.tr b (by unfold yf at q;rw[Bool.and_eq_true] at q;exact q.1),λb xs q=>s.ht b xs (by unfold yf at q;rw[Bool.and_eq_true] at q;exact q.1),λb q=>?_,λb o q m=>s.kp b o (h.kp b o q m) m,λb o q=>let⟨o2,q2⟩:=h.t0 b o q;s.t0 b o2 q2,h.c0,h.m0,s.len,λi sl e=>?_,s.ap⟩,λb o q=>?_⟩
 ·have q1:=h.h0 b q
  unfold yf;rw[s.h0 b q1,q1];rfl
 ·have w:=s.sl i sl e
  have k:=List.all_eq_true.mp ok sl (List.mem_of_getElem? e)
  cases sl with
  |no=>trivial
  |v d=>obtain⟨x,h1,h2⟩:=w;exact⟨x,h1,h2.mono less⟩
  |own ds=>
   obtain⟨a,xs,h1,h2,h3,h4,h5⟩:=w
   have h4:H a=none:=h4
   exact⟨a,xs,h1,h2,by unfold yf;rw[h3,h4];simp,h.fresh0 h4,h5.mono less⟩
  |arg ds=>
   obtain⟨a,xs,h1,h2,h3,h4,h5⟩:=w
   have h4:c.mu a=true:=h4
   exact⟨a,xs,h1,h2,by unfold yf;rw[h3,h.h0 a (h.m0 a h4)];rfl,h4,h5.mono less⟩
  |ob b=>cases k
 ·obtain⟨q1,q2⟩:=vw_some.mp q
  have m:c.mu b=false:=by
   cases e:c.mu b with
   |false=>rfl
   |true=>rw[h.h0 b (h.m0 b e)] at q1;cases q1
  exact vw_some.mpr ⟨by unfold yf;rw[q1,q2];simp,s.kp b o q2 m⟩
theorem Ret.back {v:V}{d:D}(h:SR K c hid ρ σ H)(R:Ret K ⟨H,hid,c.mu⟩ k ρ' H' v d):Ret K c k ρ' H' v d where
 kp:=λb o q m=>R.kp b o (h.kp b o q m) m
 val:=by
  have hv:=R.val
  have h0:=h.h0
  cases k with
  |n=>
   obtain⟨a,xs,ds,e1,e2,e3,e4,e5⟩:=hv
   refine⟨a,xs,ds,e1,e2,h.fresh0 e3,e4,e5.mono (cr λb q=>?_)⟩
   unfold bI at q⊢;rw[Bool.or_eq_true] at q⊢;exact q.imp (h0 b) id
  |b=>exact Rep.mono (cr λb q=>h0 b q) hv
  |s=>exact Rep.mono (cr λb q=>h0 b q) hv
 arg:=λi bs e=>by
  obtain⟨a,xs,h1,h2,h3⟩:=R.arg i bs e
  refine⟨a,xs,h1,h2,h3.mono (cr λb q=>?_)⟩
  have h0:=h.h0
  unfold C1 at q⊢;split at q
  ·unfold bI at q⊢
   rw[Bool.or_eq_true] at q⊢;exact q.imp (h0 b) id
  ·exact h0 b q
end
def DK(K:W.Frag)(c:Ct)(k:Kd)(D:Ends):Out->Prop
 | .nx ρ'=> ∀σ' H' hid',SR K c hid' ρ' σ' H'->D.nx σ' H'
 | .rt d ρ'=> ∀v H',Ret K c k ρ' H' v d->D.rt v H'
 | .bk ρ'=> ∀σ' H' hid',SR K c hid' ρ' σ' H'->D.bk σ' H'
 | .ct ρ'=> ∀σ' H' hid',SR K c hid' ρ' σ' H'->D.ct σ' H'
 | .no=>False
def Eg(X:Cx)(c:Ct)(k:Kd)(sts:List Stmt)(t:FS):Prop:= ∀ρ,PSs X sts (λD σ H=> ∃hid,SR X.K c hid ρ σ H/\DK X.K c k D (t ρ))
section
variable {X:Cx}{c:Ct}{k:Kd}{st s1 s2:Stmt}{sts rest:List Stmt}{t u:FS}
theorem gP(h1:DS X c k st t)(h2:Eg X c k rest u):Eg X c k (st::rest) (ax t u):=λρ=>
 PSs.imp (oS (h1 ρ) (o6 λρ1=>h2 ρ1)) λD σ H hq_=>by
  obtain⟨hid,sr,q⟩:=hq_
  refine⟨hid,sr,?_⟩
  unfold ax at q;cases e:t ρ with
  |nx ρ1=>rw[e] at q;exact λσ1 H1 hid1 sr1 v1=>⟨ρ1,hid1,sr1,q⟩
  |rt d ρ1=>rw[e] at q;exact q
  |bk ρ1=>rw[e] at q;exact λa b c d _=>q a b c d
  |ct ρ1=>rw[e] at q;exact λa b c d _=>q a b c d
  |no=>rw[e] at q;exact q
end
set_option maxHeartbeats 4000000
end L2
namespace PySem
open PySem PySem.Spec PyProof.Rows
end PySem
namespace L2
open PySem PySem.Spec PyProof.Rows
set_option maxHeartbeats 1000000
open PySem PyProof.Rows
set_option maxHeartbeats 2000000
set_option maxHeartbeats 1000000
open PySem PySem.W PySem.Calls PyProof.Rows
def nO:FS:=λ_=>.no
theorem vU {X:Cx}{c:Ct}{k:Kd}{st:Stmt}:DS X c k st nO:=λρ ae s σ H D I ⟨hid,sr,q⟩=>q.elim
open PySem PySem.W PyProof.Rows
open PySem PySem.W PyProof.Rows PySem.Builtin
set_option maxHeartbeats 3200000
set_option maxHeartbeats 1000000
open PySem PySem.W PySem.Spec PyProof.Rows
def zZ(r:Nat):TS:=λD σ H=> ∃b ys,σ[r]? =some (some (.ref b))/\H b=some (.lst ys)/\ys.length<=2000/\ ∀t vs ys',H t=none->ys'.length<=ys.length+1->D.nx σ (bz (bz H t (.tup vs)) b (.lst ys'))
def Aa:TE:=λσ H Q=> ∀t vs,H t=none->Q (.ref t) (bz H t (.tup vs))
section
variable {X:Cx}{body:List Stmt}{pos p1 p2 apos cpos lp:Pos}{x y:Str}{i r:Nat}
theorem xY(r:Nat){e:Expr}{q1:Pos}(he:PE X e Aa)(slot:Slot "list" "append" "list.append")(hty:typeOf (.builtin "list.append")=pure (.type "method_descriptor"))(hr:X.N[r]? =some x:=by rfl)(hv:oN X.env.scope x:=by first|exact Or.inl rfl|exact Or.inr (Or.inl rfl)|exact Or.inr (Or.inr rfl))(hd:(x==("__debug__":Str))=false:=by decide)(hcd:(x==("__classdict__":Str))=false:=by decide)
 (hs:swapsWith (.Call (.Attribute (.Name x q1) "append" apos) [e] [] cpos) none pos.line X.env=pure false:=by rfl)
 (hbase:attributeBase (.Name x q1) "append" X.env (eval (.Name x q1) X.env)=eval (.Name x q1) X.env:=by rfl)
 (hfew:((backTo cpos (starEach [e] X.env)).all (λx=> !x.1)&&(backToKw cpos (keywordEach [] X.env)).all (λx=>x.1.isSome)
   &&decide (([e]:List Expr).length+([]:List Keyword).length+(if([]:List Keyword).isEmpty then 0 else 1)<30))=true:=by rfl)
 (hline:(apos.endLine==cpos.line)=true:=by rfl) (hst:starEach [e] X.env=(false,eval e X.env)::starEach [] X.env:=by rfl) (hplain:(backTo cpos (starEach [] X.env)).any (·.1)=false:=by rfl):
 PSs X [.Expr (.Call (.Attribute (.Name x q1) "append" apos) [e] [] cpos) pos] (zZ r):=
 tJ (PS.imp (sV (tO PySem.F.plainAttrs_list slot hty dH (pv r hr hv hd hcd) (bF he eB hst) hbase hfew hline hst hplain) hs) λD σ H hq_=>by
  obtain⟨b,ys,h1,h2,h4,q⟩:=hq_
  refine⟨.ref b,h1,.inl ⟨rfl,_,SqL.of h2⟩,λt vs ht=>⟨b,ys,_,rfl,rfl,?_,?_,q t vs _ ht (by simp)⟩⟩
  ·rw[aG (bd h2 ht)];exact h2
  ·have:2000<sizeLine:=by decide
   omega)
end
def Aw(i:Nat):FE:=λρ=>match ρ[i]? with
 |some (.v d)=>some d
 |some (.ob (.frs d))=>some d
 |_=>none
def wA(d:D):Sl:=match d with
 | .lst _=>.ob (.frs d)
 |_=>if LF d=true then .v d else .no
def xG(n:Nat)(P:List D->Option D)(fs:FA):aC->Option D:=λρ=>(fs ρ).bind λds=>if nr ds=true then nF n P ds else none
def mH(i n:Nat)(P:List D->Option D)(fs:FA):FS:=λρ=>match xG n P fs ρ with
 |some d=>.nx (ρ.set i (wA d))
 |none=>.no
section
variable {X:Cx}{c:Ct}{k:Kd}{e:Expr}{es:List Expr}{pos pos' p cpos py:Pos}{x y:Str}{ps:List Str}{j n:Nat}
theorem z6(i:Nat)(hN:X.N[i]? =some x:=by rfl)(hv:oN X.env.scope x:=by first|exact Or.inl rfl|exact Or.inr (Or.inl rfl)|exact Or.inr (Or.inr rfl))(hd:(x==("__debug__":Str))=false:=by decide)
 (hcd:(x==("__classdict__":Str))=false:=by decide):DP X c .s (.Name x pos) (Aw i):=λhid ρ=>PE.imp (pv i hN hv hd hcd) λσ H Q hq_=>by
 obtain⟨sr,d,hd,q⟩:=hq_
 unfold Aw at hd;split at hd
 ·rename_i d' e'
  cases hd
  obtain⟨x,h1,h2⟩:=sr.sl i _ e'
  exact⟨x,h1,q x H (Same.refl _) h2⟩
 ·rename_i d' e'
  cases hd
  obtain⟨a,h1,h2⟩:=sr.sl i _ e'
  exact⟨.ref a,h1,q _ H (Same.refl _) (Rep.mono (Ay c _) h2)⟩
 ·cases hd
theorem vi(i:Nat){P:List D->Option D}{fs:FA}(C:Cl X.prog X.w X.K X.mg X.base j y ps (cH X.K .s n P))(hr:Room j X.A)(ha:DA X c (e::es) fs)(hn:X.N.Nodup)
 (hi:X.N[i]? =some x:=by rfl) (hx:uY X.env.scope x:=by first|exact Or.inl rfl|exact Or.inr rfl) (hs:swapsWith (.Call (.Name y p) (e::es) [] cpos) (some (.Name x pos')) pos.line X.env=pure false:=by rfl)
 (hf:X.fn x=true\/X.env.scope.names.lookup x=some .local:=by first|exact .inl rfl|exact .inr rfl|assumption)
 (hg:Gl X y:=by rfl) (hdb:(y==("__debug__":Str))=false:=by decide) (he:starEach (e::es) X.env=(false,eval e X.env)::starEach es X.env:=by rfl) (hpl:(backTo cpos (starEach es X.env)).any (·.1)=false:=by rfl):
 DS X c k (.Assign [.Name x pos'] (.Call (.Name y p) (e::es) [] cpos) pos) (mH i n P fs):=by
 obtain⟨f,fd,F,hm,hk,hb⟩:=C.ex
 exact λρ=>PS.imp (jR hn hi hx (jQ λhid=>n5 F hr hg hm hk hb .nil (vQ (X:=X)) (ha hid ρ) hdb he hpl) hs hf) λD σ H hq_=>by
  obtain⟨hid,sr,q⟩:=hq_
  unfold mH at q;cases e0:xG n P fs ρ with
  |none=>rw[e0] at q;exact q.elim
  |some d=>
   rw[e0] at q;obtain⟨ds,g1,g2⟩:=Option.bind_eq_some_iff.mp e0
   split at g2
   ·rename_i hl
    obtain⟨g5,g6⟩:=zm g2
    refine⟨hid,sr,ds,g1,λvs H1 s1 r1=>?_⟩
    have sr1:=sr.ext s1
    show cH X.K .s n P (vs++[]) H1 _ E0;rw[List.append_nil];refine⟨λb=>hid b||ip (H1 b),ds,⟨λb w=>?_,λb xs w q=>by rw[Bool.or_eq_true] at w;rcases w with w|w;exact sr1.ht b xs w q;rw[q] at w;cases w⟩,hZ (g':=hid) (λt w1 w2=>?_) r1 hl,g5,d,g6,λv H' s' r=>?_⟩
    ·rw[Bool.or_eq_true] at w
     rcases w with w|w
     ·exact sr1.tr b w
     ·cases z:H1 b with
      |none=>rw[z] at w;cases w
      |some o=>exact⟨o,rfl⟩
    ·simpa [w1] using w2
    ·have r:Rep X.K (vw H' λb=>hid b||ip (H1 b)) v d:=r
     have sH:Same H H':=s1.trans s'
     have sr2:=sr.ext sH
     have mo:Same (vw H' λb=>hid b||ip (H1 b)) (fv c (vw H' hid)):=λb o w=>by
      obtain⟨w1,w2⟩:=vw_some.mp w
      rw[Bool.or_eq_false_iff] at w1;refine fv_some.mpr ⟨λlo=>?_,vw_some.mpr ⟨w1.1,w2⟩⟩
      cases z:c.H₀ b with
      |none=>rfl
      |some u=>
       obtain⟨o1,z1⟩:=sr1.t0 b u z
       have:=s' _ _ z1
       rw[w2] at this;cases this;rw[z1,lo] at w1;cases w1.2
     have r2:=Rep.mono mo r
     have q:EndOk X.K c k D (vw H hid) (.nx (ρ.set i (wA d))):=q
     have other:(wA d=if LF d=true then .v d else .no)->D.nx (σ.set i (some v)) H':=λef=>by
      rw[ef] at q
      by_cases hl:LF d=true
      ·rw[if_pos hl] at q
       exact q _ H' hid (sr2.setV (r2.mono (Ay c _)) i) (aH sH)
      ·rw[if_neg hl] at q
       exact q _ H' hid (sr2.setNo i _) (aH sH)
     cases d with
     |lst zs=>
      cases r with
      | @lst a xs ds' w1 w2=>
        have nf:hid a=false:=by
         have:=(vw_some.mp w1).1
         rw[Bool.or_eq_false_iff] at this;exact this.1
        exact q _ H' hid (sr2.setD (b:=.frs (.lst zs)) r2 (sr2.notOw nf) i) (aH sH)
     |_=>exact other rfl
   ·cases g2
end
section
variable {K:W.Frag}{c:Ct}{hid:bu}{ρ:aC}{σ:St}{H H':Hp}{i:Nat}{s s':Sl}
theorem SR.reSl(h:SR K c hid ρ σ H)(hs:SlOk K c hid σ H i s')(ow: ¬Ow (some s')):SR K c hid (ρ.set i s') σ H:=by
 have ows: ∀j:Nat,Ow (ρ.set i s')[j]? ->Ow ρ[j]? :=λj o=>by
  by_cases e:j=i
  ·subst e
   by_cases lt:j<ρ.length
   ·rw[List.getElem?_set_self lt] at o;exact absurd o ow
   ·rw[List.getElem?_eq_none (by simpa using lt)] at o;exact o.elim
  ·rw[List.getElem?_set_ne (Ne.symm e)] at o;exact o
 refine⟨h.tr,h.ht,h.h0,h.kp,h.t0,h.c0,h.m0,by simp[h.len],λj s q=>?_,λj l z n o1 o2=>h.ap j l z n (ows j o1) (ows l o2)⟩
 by_cases e:j=i
 ·subst e
  have lt:j<ρ.length:=by
   have:=(List.getElem?_eq_some_iff.mp q).1
   simpa using this
  rw[List.getElem?_set_self lt] at q;cases q;exact hs
 ·rw[List.getElem?_set_ne (Ne.symm e)] at q;exact h.sl j s q
end
def Cr(i:Nat):FE:=λρ=>match ρ[i]? with
 |some (.v d)=>some d
 |some (.ob (.old d))=>some d
 |_=>none
def rn(i g o:Nat)(ρ:aC):Bool:=ED (((ρ.set i .no).set g .no).set o .no)&&decide (o≠i)&&decide (o≠g)&&match ρ[i]?,ρ[o]? with
 |some (.ob (.frs (.lst ds))),some (.ob (.old _))=>decide (ds.length<=1000)
 |_,_=>false
def ur(i g o:Nat):FS:=λρ=>if rn i g o ρ=true then .nx ((ρ.set i .no).set g .no) else .no
def uX(i:Nat)(t:FS):FS:=λρ=>match ρ[i]? with
 |some (.v (.lst ds))=>(match t ((ρ.map l8).set i (.ob (.old (.lst ds)))) with
  | .nx ρ'=>(match ρ'[i]? with
    |some (.ob (.old d))=>if(ρ'.set i (.v d)).all D9=true then .nx (ρ'.set i (.v d)) else .no
    |_=>.no)
  | .rt d ρ'=>.rt d ρ'
  |_=>.no)
 |_=>.no
section
variable {X:Cx}{c:Ct}{k:Kd}{s1:Stmt}{sts:List Stmt}{t:FS}{pos:Pos}{x:Str}
theorem CV(i:Nat)(hN:X.N[i]? =some x:=by rfl)(hv:oN X.env.scope x:=by first|exact Or.inl rfl|exact Or.inr (Or.inl rfl)|exact Or.inr (Or.inr rfl))(hd:(x==("__debug__":Str))=false:=by decide)
 (hcd:(x==("__classdict__":Str))=false:=by decide):DP X c .s (.Name x pos) (Cr i):=λhid ρ=>PE.imp (pv i hN hv hd hcd) λσ H Q hq_=>by
 obtain⟨sr,d,hd,q⟩:=hq_
 unfold Cr at hd;split at hd
 ·rename_i d' e'
  cases hd
  obtain⟨x,h1,h2⟩:=sr.sl i _ e'
  exact⟨x,h1,q x H (Same.refl _) h2⟩
 ·rename_i d' e'
  cases hd
  obtain⟨a,h1,h2⟩:=sr.sl i _ e'
  exact⟨_,h1,q _ H (Same.refl _) (Rep.mono (zY _ _) h2)⟩
 ·cases hd
theorem zE {n m:Int}{j1 j2:_}{q1 q2 q3:Pos}{x1}(hs:starEach [.Constant (.int n) j1 q1,.Constant (.int m) j2 q2] X.env=(false,eval (.Constant (.int n) j1 q1) X.env)::starEach [.Constant (.int m) j2 q2] X.env:=by rfl)
 (hs2:starEach [.Constant (.int m) j2 q2] X.env=(false,eval (.Constant (.int m) j2 q2) X.env)::starEach [] X.env:=by rfl):PE X (.Tuple [.Constant (.int n) j1 q1,.Constant (.int m) j2 q2] x1 q3) Aa:=
 PE.imp (wR (bF rV (bF rV eB hs2) hs)) λσ H Q q=>⟨by show 2<=sizeLine;decide,λt ht=>q t _ ht⟩
theorem wj(i g o:Nat)(h1:PSs X [s1] (zZ i)):Eg X c k [s1] (ur i g o):=λρ=>
 PSs.imp h1 λD σ H hq_=>by
  obtain⟨hid,sr,q⟩:=hq_
  unfold ur at q;split at q
  ·rename_i hm
   unfold rn at hm;rw[Bool.and_eq_true,Bool.and_eq_true,Bool.and_eq_true,decide_eq_true_eq,decide_eq_true_eq] at hm;obtain⟨⟨⟨ok,noi⟩,nog⟩,hm⟩:=hm
   split at hm
   ·rename_i ds dd ei eo
    rw[decide_eq_true_eq] at hm;obtain⟨a,g0,rp⟩:=sr.sl i _ ei
    obtain⟨b0,u0,u1⟩:=sr.sl o _ eo
    cases rp with
    | @lst _ xs _ g1 g2=>
      obtain⟨w1,w2⟩:=fv_some.mp g1
      obtain⟨w3,w4⟩:=vw_some.mp w2
      have l1:=g2.length
      have ca:=w1 rfl
      refine⟨a,xs,g0,w4,by omega,λt vs ys' ht hl=>q _ _ hid ?_⟩
      have s1:=(((sr.drop i).drop g).drop o).muts (H':=bz H a (.lst ys')) ok λb=>by
       by_cases ba:b=a
       ·subst ba
        exact .inr ⟨ca,w3,by rw[w4];rfl,by rw[aL];rfl⟩
       ·rw[aG ba];exact .inl rfl
      have s2:=s1.reSl (i:=o) (s':=.ob (.old dd)) ⟨b0,u0,Rep.mono (F:=ov c (vw H hid)) (λb u w=>by
       obtain⟨z1,z2⟩:=ov_some.mp w
       have ba:b≠a:=λe=>by subst e;rw[ca] at z1;obtain⟨_,z⟩:=z1;cases z
       obtain⟨z3,z4⟩:=vw_some.mp z2
       exact ov_some.mpr ⟨z1,vw_some.mpr ⟨z3,by rw[aG ba];exact z4⟩⟩) u1⟩ (λw=>w)
      have e:(((ρ.set i .no).set g .no).set o .no).set o (.ob (.old dd))=(ρ.set i .no).set g .no:=by
       rw[List.set_set];refine List.ext_getElem? λj=>?_
       by_cases ej:j=o
       ·subst ej
        have lt:j<ρ.length:=(List.getElem?_eq_some_iff.mp eo).1
        rw[List.getElem?_set_self (by simpa using lt),List.getElem?_set_ne (Ne.symm nog),List.getElem?_set_ne (Ne.symm noi),eo]
       ·rw[List.getElem?_set_ne (Ne.symm ej)]
      rw[e] at s2;refine s2.ext λb u w=>?_
      by_cases ba:b=a
      ·subst ba;rw[aL] at w⊢;exact w
      ·rw[aG ba] at w⊢
       have bt:b≠t:=λz=>by subst z;rw[ht] at w;cases w
       rw[aG bt];exact w
   ·cases hm
  ·exact q.elim
theorem wC(i:Nat)(h: ∀c',Eg X c' k sts t):qJ X c k sts (uX i t):=λρ=>PSs.imp (o6 λ(z:Ct×aC)=>h z.1 z.2) λD σ H hq_=>by
 obtain⟨hid,sr,q⟩:=hq_
 have q:EndOk X.K c k D (vw H hid) (uX i t ρ):=q
 unfold uX at q;split at q
 ·rename_i ds ei
  obtain⟨x,x1,x2⟩:=sr.sl i _ ei
  cases x2 with
  | @lst a xs _ x3 x4=>
    refine⟨(⟨H,hid,c.mu⟩,(ρ.map l8).set i (.ob (.old (.lst ds)))),hid,?_,?_⟩
    ·refine sr.reb.reSl ⟨a,x1,Rep.mono (F:=vw H hid) (λb u w=>ov_some.mpr ⟨⟨u,(vw_some.mp w).2⟩,w⟩) (.lst x3 x4)⟩ (λw=>w)
    ·show DK X.K ⟨H,hid,c.mu⟩ k D (t ((ρ.map l8).set i (.ob (.old (.lst ds)))))
     cases e:t ((ρ.map l8).set i (.ob (.old (.lst ds)))) with
     |nx ρ1=>
      rw[e] at q;dsimp only at q;split at q
      ·rename_i d1 e1
       split at q
       ·rename_i ok
        intro σ' H' hid' s';obtain⟨b,y1,y2⟩:=s'.sl i _ e1
        have s2:=s'.reSl (i:=i) (s':=.v d1) ⟨_,y1,Rep.mono (zY _ _) y2⟩ (λw=>w)
        obtain⟨z1,z2⟩:=sr.back s2 ok
        exact q σ' H' _ z1 z2
       ·exact q.elim
      ·exact q.elim
     |rt d ρ1=>rw[e] at q;intro v H' R;exact q v H' (R.back sr)
     |bk ρ1=>rw[e] at q;exact q.elim
     |ct ρ1=>rw[e] at q;exact q.elim
     |no=>rw[e] at q;exact q.elim
 ·exact q.elim
end
set_option maxHeartbeats 4000000
def top(i:Nat):Stmt:=PySem.Challenge.pw_rookborders_k67_own_sums.main.body.getD i (.Pass ⟨0,0,0,0⟩)
structure Bt(mg:Str->Option Value):Prop where
 b_abs:mg "abs"=none
 b_all:mg "all"=none
 b_bool:mg "bool"=none
 b_enumerate:mg "enumerate"=none
 b_int:mg "int"=none
 b_isinstance:mg "isinstance"=none
 b_len:mg "len"=none
 b_list:mg "list"=none
 b_min:mg "min"=none
 b_range:mg "range"=none
 b_sorted:mg "sorted"=none
 b_tuple:mg "tuple"=none
 b_zip:mg "zip"=none
theorem Ex:(["square","rings","crosses","ring"]:List Str).Nodup:=by decide+kernel
theorem Er:(["tuples","found","?power","many","power"]:List Str).Nodup:=by decide+kernel
theorem CI:(["one","other","power","many"]:List Str).Nodup:=by decide+kernel
theorem zJ:(["one","other","power","many","raised","often"]:List Str).Nodup:=by decide+kernel
theorem CO:(["n","stands","bar","stand","height"]:List Str).Nodup:=by decide+kernel
theorem Dn:(["order","half","place","number"]:List Str).Nodup:=by decide+kernel
theorem yr:(["ones","others","right","up","x","y"]:List Str).Nodup:=by decide+kernel
theorem EN:(["square","homes","stand"]:List Str).Nodup:=by decide+kernel
theorem CP:(["square","homes","grade","lean"]:List Str).Nodup:=by decide+kernel
theorem Eo:(["_law_bag_here","_law_n","_law_plain","_law_by","_law_rings","_law_crosses","_law_c","_law_d","_law_row"]:List Str).Nodup:=by decide+kernel
theorem CG:(["_law_found","?_law_one","_law_one"]:List Str).Nodup:=by decide+kernel
theorem AB:(["_law_found","?_law_one","_law_one","_law_two"]:List Str).Nodup:=by decide+kernel
theorem Dk:(["_law_tuples","_law_many","?_law_power","_law_number","_law_power"]:List Str).Nodup:=by decide+kernel
theorem zX:(["_law_one","_law_other","_law_found","_law_power","_law_number","_law_more","_law_often"]:List Str).Nodup:=by decide+kernel
theorem Dt:(["_law_n","_law_found","_law_bar","_law_longer","_law_begun","_law_height"]:List Str).Nodup:=by decide+kernel
section
variable {P:Program}{w:World}{K:W.Frag}{mg:Str->Option Value}{base:Heap}
abbrev eM:Stmt:=top 4
abbrev iB:Stmt:=top 6
abbrev rL:Stmt:=top 8
abbrev oC:Stmt:=top 9
abbrev nK:Stmt:=top 10
abbrev lK:Stmt:=top 11
abbrev gk:Stmt:=top 13
abbrev gU:Stmt:=top 14
abbrev nT:Stmt:=top 15
abbrev iO:Stmt:=top 16
abbrev mZ:Stmt:=top 17
abbrev si:Stmt:=top 18
abbrev jP:Stmt:=top 19
abbrev gb:Stmt:=top 21
abbrev jm:Stmt:=top 22
abbrev iy:Stmt:=top 24
abbrev ju:Stmt:=top 25
abbrev iz:Stmt:=top 26
abbrev hJ:Stmt:=top 27
abbrev fU:Stmt:=top 28
abbrev gO:Stmt:=top 29
abbrev gc:Stmt:=top 30
abbrev ga:Stmt:=top 31
abbrev fA:Stmt:=top 32
abbrev jp:Stmt:=top 33
abbrev gV:Stmt:=top 34
abbrev fV:Stmt:=top 35
abbrev iE:Stmt:=top 36
abbrev fX:Stmt:=top 37
abbrev iU:Stmt:=top 38
theorem sc_order_rounds:FnScope ["order","rounds","start","places"] ["order"] (av eM):=⟨rfl,rfl,rfl,by decide+kernel,rfl,by decide+kernel,by decide+kernel⟩
def lF:FS:=
 ax (ce 1 (a9 (ah)))
 (ax (cz (b8 (bq (aa (aj bX (aa (ai 0) (ah))) (ah)))) (gN 2) (ax (ce 3 (a9 (aa (ai 2) (ah))))
 (ax (gE (bb (al iF (al aT (ai 0) (al aT (cS 3) (cQ (ay (.int 1))))) (ai 2))) (bU (aO 3 1 gY (b8 (aa (al aT (ai 0) (al aT (cS 3) (cQ (ay (.int 1))))) (ah))))) 16)
 (fw (bb (al lU (aj mx (aa (cS 3) (ah))) (ai 2))) ((λρ=>(bU (aO 1 1 gY (b8 (aa (ai 3) (ah))))) (l4 3 ρ))) (skip)))))
 (qz 1))
def eN:List D->Option D:=fu .n 4 lF
theorem kW(B:Bt mg)(F:Df K mg "order_rounds" eM ["order"]):Cl P w K mg base 1 "order_rounds" ["order"] (cH K .n 1 eN):=by
 refine aU (k:=0) F sc_order_rounds (by decide) rfl λ_ cdv A outer s H hid E hr=>?_
 exact(ak (dZ 1 sc_order_rounds.nd (ck am))
  (ak (cA PassesOwn.never rfl (DIp.e (bj B.b_range (ag (aV aI cR B.b_len (aQ (af 0) bf) (hv:=by kernel_rfl)) am))) (ar 2 sc_order_rounds.nd) (ak (dZ 3 sc_order_rounds.nd (ck (ag (af 2) am)))
  (ak (hV 16 PassesOwn.never (bP (gu hr.units) jc (aR aF aN (af 0) (aR aF aN (df 3) (dE ao) (λ_ _=>rfl)) (λ_ _=>rfl)) (af 2) (a8 _)) (aw (fZ (ij 3 h9 dH PySem.F.slot_list_append PySem.F.type_list_append (DA.gf (ag (aR aF aN (af 0) (aR aF aN (df 3) (dE ao) (λ_ _=>rfl)) (λ_ _=>rfl)) am))))))
  (aw (gL (bP (jA hr.units) mq (aV (uM rfl) zw B.b_min (aQ (df 3) bf) (hv:=by kernel_rfl)) (af 2) (a8 _)) (aw (oB 3 (fZ (ij 1 h9 dH PySem.F.slot_list_append PySem.F.type_list_append (DA.gf (ag (af 3) am)))))) dA)))))
  (aw (oe 1))))
theorem sc_lines_of:FnScope ["square","rings","crosses"] ["square"] (av iB):=⟨rfl,rfl,rfl,by decide+kernel,rfl,by decide+kernel,by decide+kernel⟩
def rX:FS:=
 ax (dm (gT 2 (bL (gN 1) (bL (gN 2) (eC)))) (pu (ai 0)))
 (aX (aj (nF 1 eN) (aa (aY 1 (pP (ai 1)) (gN 3) (cF) (al km (ai 2) (ai 3))) (ah))))
def c7:List D->Option D:=fu .n 3 rX
theorem rj(B:Bt mg)(F:Df K mg "lines_of" iB ["square"])(eL:Cl P w K mg base 1 "order_rounds" ["order"] (cH K .n 1 eN)):Cl P w K mg base 2 "lines_of" ["square"] (cH K .n 1 c7):=by
 refine aU (k:=1) F sc_lines_of (by decide) rfl λ_ cdv A outer s H hid E hr=>?_
 exact(ak (lC (DP.ef (af 0)) (bK (n:=2) rfl (aD (ar 1 sc_lines_of.nd) (aD (ar 2 sc_lines_of.nd) bG))))
  (aw (aS (be eL (hr.mono (by decide)) (ag (DP.toS (dU (N':=["square","rings","crosses","ring"]) rfl (bm (Nat.le_of_ble_eq_true rfl)) (DIp.b (uc (af 1))) (λ_ _ _ _=>(ar 3 Ex)) (λ_ _ _ _=>cE) (λ_ _ _ _=>(ke hr.units (af 2) (af 3))))) am)))))
theorem sc_tidy:FnScope ["tuples","found","power","many"] ["tuples"] (av rL):=⟨rfl,rfl,rfl,by decide+kernel,rfl,by decide+kernel,by decide+kernel⟩
def AH:FS:=
 ax (pZ 1)
 (ax (cz (b8 (bY (ai 0))) (gT 2 (bL (gN 2) (bL (gN 3) (eC)))) (ka 1 (ai 2) (al aZ (j8 1 (ai 2) (ay (.int 0))) (ai 3))))
 (aX (aY 1 (bY (mL 1)) (gN 4) (bb (al iF (l7 1 (ai 4)) (ay (.int 0)))) (a7 (aa (ai 4) (aa (l7 1 (ai 4)) (ah)))))))
def iN:List D->Option D:=fu .n 4 AH
theorem A9(B:Bt mg)(F:Df K mg "tidy" rL ["tuples"]):Cl P w K mg base 1 "tidy" ["tuples"] (cH K .n 1 iN):=by
 refine aU (k:=0) F sc_tidy (by decide) rfl λ_ cdv A outer s H hid E hr=>?_
 exact(ak (sQ 1 sc_tidy.nd)
  (ak (cA PassesOwn.never rfl (DIp.e (bW (af 0))) (bK (n:=2) rfl (aD (ar 2 sc_tidy.nd) (aD (ar 3 sc_tidy.nd) bG))) (aw (tX 1 (j6 hr) (af 2) (bD (sM 1 (j6 hr) (af 2) ao ⟨rfl,rfl,rfl,rfl⟩) (af 3)))))
  (aw (aS (dU (N':=["tuples","found","?power","many","power"]) rfl (bm (Nat.le_of_ble_eq_true rfl)) (DIp.b (bW (DP.toS (tf 1 rfl B.b_sorted)))) (λ_ _ _ _=>(ar 4 Er)) (λ_ _ _ _=>(jd (bP (gu hr.units) jc (oA 1 (j6 hr) (af 4) (λ_ _=>rfl)) ao (a8 _)))) (λ_ _ _ _=>(bR (ag (af 4) (ag (oA 1 (j6 hr) (af 4) (λ_ _=>rfl)) am)))))))))
theorem x5:FnScope ["one","other"] ["one","other"] (av oC):=⟨rfl,rfl,rfl,by decide+kernel,rfl,by decide+kernel,by decide+kernel⟩
def nV:FS:=
 aX (aj (nF 1 iN) (aa (al kj (ai 0) (aY 2 (bY (ai 1)) (gT 2 (bL (gN 2) (bL (gN 3) (eC)))) (cF) (a7 (aa (ai 2) (aa (cQ (ai 3)) (ah)))))) (ah)))
def ic:List D->Option D:=fu .n 2 nV
theorem zx(B:Bt mg)(F:Df K mg "minus" oC ["one","other"])(fT:Cl P w K mg base 1 "tidy" ["tuples"] (cH K .n 1 iN)):Cl P w K mg base 2 "minus" ["one","other"] (cH K .n 2 ic):=by
 refine aU (k:=1) F x5 (by decide) rfl λ_ cdv A outer s H hid E hr=>?_
 exact(aw (aS (be fT (hr.mono (by decide)) (ag (DP.toS (tj (af 0) (dU (N':=["one","other","power","many"]) rfl (f6 (aP (bm (Nat.le_of_ble_eq_true rfl)) (aP (bm (Nat.le_of_ble_eq_true rfl)) cK))) (DIp.b (bW (af 1))) (λ_ _ _ _=>(bK (n:=2) rfl (aD (ar 2 CI) (aD (ar 3 CI) bG)))) (λ_ _ _ _=>cE) (λ_ _ _ _=>(bR (ag (af 2) (ag (dE (af 3)) am))))))) am))))
theorem wm:FnScope ["one","other"] ["one","other"] (av nK):=⟨rfl,rfl,rfl,by decide+kernel,rfl,by decide+kernel,by decide+kernel⟩
def nA:FS:=
 aX (aj (nF 1 iN) (aa (jX 4 (bY (ai 0)) (gT 2 (bL (gN 2) (bL (gN 3) (eC)))) (cF) (bY (ai 1)) (gT 2 (bL (gN 4) (bL (gN 5) (eC)))) (cF) (a7 (aa (al aZ (ai 2) (ai 4)) (aa (al b9 (ai 3) (ai 5)) (ah))))) (ah)))
def h7:List D->Option D:=fu .n 2 nA
theorem yM(B:Bt mg)(F:Df K mg "times" nK ["one","other"])(fT:Cl P w K mg base 1 "tidy" ["tuples"] (cH K .n 1 iN)):Cl P w K mg base 2 "times" ["one","other"] (cH K .n 2 h7):=by
 refine aU (k:=1) F wm (by decide) rfl λ_ cdv A outer s H hid E hr=>?_
 exact(aw (aS (be fT (hr.mono (by decide)) (ag (DP.toS (ql (N':=["one","other","power","many","raised","often"]) rfl 4 (f6 (aP (bm (Nat.le_of_ble_eq_true rfl)) (aP (bm (Nat.le_of_ble_eq_true rfl)) cK))) (Cu (ji (wL (Nat.le_of_ble_eq_true rfl)) (ji (wL (Nat.le_of_ble_eq_true rfl)) sN))) (f6 (aP (bm (Nat.le_of_ble_eq_true rfl)) (aP (bm (Nat.le_of_ble_eq_true rfl)) cK))) (DIp.b (bW (af 0))) (λ_ _ _ _=>(bK (n:=2) rfl (aD (ar 2 zJ) (aD (ar 3 zJ) bG)))) (λ_ _ _ _=>cE) (λ_ _ _ _=>(bW (af 1))) (λ_ _ _ _=>(bK (n:=2) rfl (aD (ar 4 zJ) (aD (ar 5 zJ) bG)))) (λ_ _ _ _=>cE) (λ_ _ _ _=>(bR (ag (bD (af 2) (af 4)) (ag (fy (af 3) (af 5)) am)))))) am))))
theorem sc_parted:FnScope ["one","other","power","many","left","found","top","often","piece"] ["one","other"] (av lK):=⟨rfl,rfl,rfl,by decide+kernel,rfl,by decide+kernel,by decide+kernel⟩
def lh:FS:=
 ax (dm (gT 2 (bL (gN 2) (bL (gN 3) (eC)))) (pu (al aT (ai 1) (cQ (ay (.int 1))))))
 (ax (aJ 4 (ai 0))
 (ax (aJ 5 (a9 (ah)))
 (ax (gE (fY (ai 4)) (ax (dm (gT 2 (bL (gN 6) (bL (gN 7) (eC)))) (pu (al aT (ai 4) (cQ (ay (.int 1))))))
 (ax (fw (rY (bb (al j7 (al cD (ai 6) (ai 2)) (al cD (al aT (al aT (ai 0) (ay (.int 0))) (ay (.int 0))) (al aT (al aT (ai 1) (ay (.int 0))) (ay (.int 0)))))) (bb (al iF (al bp (ai 7) (ai 3)) (ay (.int 0))))) (nO) (skip))
 (ax (aJ 8 (a9 (aa (a7 (aa (al cD (ai 6) (ai 2)) (aa (al gB (ai 7) (ai 3)) (ah)))) (ah))))
 (ax (aJ 5 (al kj (ai 8) (ai 5)))
 (aJ 4 (aj (nF 2 ic) (aa (ai 4) (aa (aj (nF 2 h7) (aa (ai 8) (aa (ai 1) (ah)))) (ah))))))))) 250)
 (aX (ai 5)))))
def gM:List D->Option D:=fu .s 9 lh
theorem vY(B:Bt mg)(F:Df K mg "parted" lK ["one","other"])(oE:Cl P w K mg base 2 "minus" ["one","other"] (cH K .n 2 ic))(nu:Cl P w K mg base 2 "times" ["one","other"] (cH K .n 2 h7)):Cl P w K mg base 3 "parted" ["one","other"] (cH K .s 2 gM):=by
 refine aU (k:=2) F sc_parted (by decide) rfl λ_ cdv A outer s H hid E hr=>?_
 exact(ak (lC (DP.ef (aR aF aN (af 1) (dE ao) (λ_ _=>rfl))) (bK (n:=2) rfl (aD (ar 2 sc_parted.nd) (aD (ar 3 sc_parted.nd) bG))))
  (ak (aM 4 sc_parted.nd (af 0))
  (ak (aM 5 sc_parted.nd (DP.toS (ck am)))
  (ak (hV 250 PassesOwn.never (j5 (af 4)) (ak (lC (DP.ef (aR aF aN (af 4) (dE ao) (λ_ _=>rfl))) (bK (n:=2) rfl (aD (ar 6 sc_parted.nd) (aD (ar 7 sc_parted.nd) bG))))
  (ak (gL (DW.dt (tH (bP gZ eK (db (af 6) (af 2)) (db (aR aF aN (aR aF aN (af 0) ao (λ_ _=>rfl)) ao (λ_ _=>rfl)) (aR aF aN (aR aF aN (af 1) ao (λ_ _=>rfl)) ao (λ_ _=>rfl))) (a8 _)) (wx (bP (gu hr.units) jc (dS (af 7) (af 3)) ao (a8 _))))) (aw vU) dA)
  (ak (aM 8 sc_parted.nd (DP.toS (ck (ag (bR (ag (db (af 6) (af 2)) (ag (m7 (af 7) (af 3)) am))) am hU))))
  (ak (aM 5 sc_parted.nd (DP.toS (tj (af 8) (af 5))))
  (aw (aM 4 sc_parted.nd (DP.toS (be oE (hr.mono (by decide)) (ag (af 4) (ag (DP.toS (be nu (hr.mono (by decide)) (ag (af 8) (ag (af 1) am)))) am)))))))))))
  (aw (aS (af 5)))))))
theorem sc_all_stands:FnScope ["n","stands","bar"] ["n"] (av gk):=⟨rfl,rfl,rfl,by decide+kernel,rfl,by decide+kernel,by decide+kernel⟩
def gj:FS:=
 ax (ce 1 (a9 (aa (a7 (ah)) (ah))))
 (ax (cz (b8 (bq (aa (ai 0) (ah)))) (gN 2) (ce 1 (jX 2 (lN (cS 1)) (gN 3) (cF) (bq (aa (ai 0) (ah))) (gN 4) (bb (al (oJ true) (ai 4) (ai 3))) (al gC (ai 3) (a7 (aa (ai 4) (ah)))))))
 (qz 1))
def dB:List D->Option D:=fu .n 3 gj
theorem n4(B:Bt mg)(F:Df K mg "all_stands" gk ["n"]):Cl P w K mg base 1 "all_stands" ["n"] (cH K .n 1 dB):=by
 refine aU (k:=0) F sc_all_stands (by decide) rfl λ_ cdv A outer s H hid E hr=>?_
 exact(QSs.to (i5 (QS.of (dZ 1 sc_all_stands.nd (ck (ag (bR am) am hU))))
  (i5 (QS.of (cA PassesOwn.never rfl (DIp.e (bj B.b_range (ag (af 0) am))) (ar 2 sc_all_stands.nd) (aw (xA 1 (N':=["n","stands","bar","stand","height"]) rfl sc_all_stands.nd 4 (bm (Nat.le_of_ble_eq_true rfl)) (wL (Nat.le_of_ble_eq_true rfl)) (bm (Nat.le_of_ble_eq_true rfl)) (wt (df 1)) (λ_ _ _ _=>(ar 3 CO)) (λ_ _ _ _=>cE) (λ_ _ _ _=>(bj B.b_range (ag (af 0) am))) (λ_ _ _ _=>(ar 4 CO)) (λ_ _ _ _=>(jd (bP (mJ hr.units) (xS true) (af 4) (af 3) (by with_unfolding_all rfl)))) (λ_ _ _ _=>(uj (af 3) (bR (ag (af 4) am))))))))
  (tY (QS.of (oe 1))))))
theorem m6:FnScope ["order","half"] ["order","half"] (av gU):=⟨rfl,rfl,rfl,by decide+kernel,rfl,by decide+kernel,by decide+kernel⟩
def gX:FS:=
 aX (aY 2 (AT (ai 0)) (gT 2 (bL (gN 2) (bL (gN 3) (eC)))) (cF) (a7 (aa (al aZ (al b9 (ay (.int 2)) (ai 2)) (ai 1)) (aa (al aZ (al b9 (ay (.int 2)) (ai 3)) (ai 1)) (ah)))))
def eA:List D->Option D:=fu .n 2 gX
theorem pA(B:Bt mg)(F:Df K mg "points_of" gU ["order","half"]):Cl P w K mg base 1 "points_of" ["order","half"] (cH K .n 2 eA):=by
 refine aU (k:=0) F m6 (by decide) rfl λ_ cdv A outer s H hid E hr=>?_
 exact(aw (aS (dU (N':=["order","half","place","number"]) rfl (f6 (aP (bm (Nat.le_of_ble_eq_true rfl)) (aP (bm (Nat.le_of_ble_eq_true rfl)) cK))) (DIp.b (xB (af 0) B.b_enumerate)) (λ_ _ _ _=>(bK (n:=2) rfl (aD (ar 2 Dn) (aD (ar 3 Dn) bG)))) (λ_ _ _ _=>cE) (λ_ _ _ _=>(bR (ag (bD (fy ao (af 2)) (af 1)) (ag (bD (fy ao (af 3)) (af 1)) am)))))))
theorem vJ:FnScope ["ones","others"] ["ones","others"] (av nT):=⟨rfl,rfl,rfl,by decide+kernel,rfl,by decide+kernel,by decide+kernel⟩
def nW:FS:=
 aX (aj bX (aa (jX 4 (lN (ai 0)) (gT 2 (bL (gN 2) (bL (gN 3) (eC)))) (cF) (lN (ai 1)) (gT 2 (bL (gN 4) (bL (gN 5) (eC)))) (dw (bb (al j7 (ai 2) (ai 4))) (bb (al j7 (ai 3) (ai 5)))) (ay (.bl true))) (ah)))
def eV:List D->Option D:=fu .s 2 nW
theorem yQ(B:Bt mg)(F:Df K mg "pairs" nT ["ones","others"]):Cl P w K mg base 1 "pairs" ["ones","others"] (cH K .s 2 eV):=by
 refine aU (k:=0) F vJ (by decide) rfl λ_ cdv A outer s H hid E hr=>?_
 exact(aw (aS (aV aI cR B.b_len (aQ (ql (N':=["ones","others","right","up","x","y"]) rfl 4 (f6 (aP (bm (Nat.le_of_ble_eq_true rfl)) (aP (bm (Nat.le_of_ble_eq_true rfl)) cK))) (Cu (ji (wL (Nat.le_of_ble_eq_true rfl)) (ji (wL (Nat.le_of_ble_eq_true rfl)) sN))) (f6 (aP (bm (Nat.le_of_ble_eq_true rfl)) (aP (bm (Nat.le_of_ble_eq_true rfl)) cK))) (DIp.b (li (af 0))) (λ_ _ _ _=>(bK (n:=2) rfl (aD (ar 2 yr) (aD (ar 3 yr) bG)))) (λ_ _ _ _=>cE) (λ_ _ _ _=>(li (af 1))) (λ_ _ _ _=>(bK (n:=2) rfl (aD (ar 4 yr) (aD (ar 5 yr) bG)))) (λ_ _ _ _=>(jd (DW.dt (B9 (bP gZ eK (af 2) (af 4) (a8 _)) (yv (bP gZ eK (af 3) (af 5) (a8 _))))))) (λ_ _ _ _=>mU)) bf) (hv:=by kernel_rfl))))
theorem sc_grade_by:FnScope ["marks","stand","rooks","points"] ["marks","stand"] (av iO):=⟨rfl,rfl,rfl,by decide+kernel,rfl,by decide+kernel,by decide+kernel⟩
def iG:FS:=
 ax (aJ 2 (aj (nF 2 eA) (aa (ai 1) (aa (ay (.int 0)) (ah)))))
 (ax (aJ 3 (aj (nF 2 eA) (aa (ai 0) (aa (ay (.int 1)) (ah)))))
 (aX (al aZ (al aZ (al cD (al cD (aj (nF 2 eV) (aa (ai 2) (aa (ai 2) (ah)))) (aj (nF 2 eV) (aa (ai 2) (aa (ai 3) (ah))))) (aj (nF 2 eV) (aa (ai 3) (aa (ai 2) (ah))))) (aj (nF 2 eV) (aa (ai 3) (aa (ai 3) (ah))))) (ay (.int 1)))))
def c6:List D->Option D:=fu .s 4 iG
theorem qH(B:Bt mg)(F:Df K mg "grade_by" iO ["marks","stand"])(eZ:Cl P w K mg base 1 "points_of" ["order","half"] (cH K .n 2 eA))(ig:Cl P w K mg base 1 "pairs" ["ones","others"] (cH K .s 2 eV)):Cl P w K mg base 2 "grade_by" ["marks","stand"] (cH K .s 2 c6):=by
 refine aU (k:=1) F sc_grade_by (by decide) rfl λ_ cdv A outer s H hid E hr=>?_
 exact(ak (aM 2 sc_grade_by.nd (DP.toS (be eZ (hr.mono (by decide)) (ag (af 1) (ag ao am)))))
  (ak (aM 3 sc_grade_by.nd (DP.toS (be eZ (hr.mono (by decide)) (ag (af 0) (ag ao am)))))
  (aw (aS (bD (bD (db (db (be ig (hr.mono (by decide)) (ag (af 2) (ag (af 2) am))) (be ig (hr.mono (by decide)) (ag (af 2) (ag (af 3) am)))) (be ig (hr.mono (by decide)) (ag (af 3) (ag (af 2) am)))) (be ig (hr.mono (by decide)) (ag (af 3) (ag (af 3) am)))) ao)))))
theorem vP:FnScope ["square","stand"] ["square","stand"] (av mZ):=⟨rfl,rfl,rfl,by decide+kernel,rfl,by decide+kernel,by decide+kernel⟩
def ng:FS:=
 aX (aj (nF 2 c6) (aa (al aT (ai 0) (ay (.int 0))) (aa (ai 1) (ah))))
def i6:List D->Option D:=fu .s 2 ng
theorem zq(B:Bt mg)(F:Df K mg "grade" mZ ["square","stand"])(c5:Cl P w K mg base 2 "grade_by" ["marks","stand"] (cH K .s 2 c6)):Cl P w K mg base 3 "grade" ["square","stand"] (cH K .s 2 i6):=by
 refine aU (k:=2) F vP (by decide) rfl λ_ cdv A outer s H hid E hr=>?_
 exact(aw (aS (be c5 (hr.mono (by decide)) (ag (aR aF aN (af 0) ao (λ_ _=>rfl)) (ag (af 1) am)))))
theorem sc_lean:FnScope ["square","stand","rings","crosses","unlike"] ["square","stand"] (av si):=⟨rfl,rfl,rfl,by decide+kernel,rfl,by decide+kernel,by decide+kernel⟩
def rK:FS:=
 ax (dm (gT 2 (bL (gN 2) (bL (gN 3) (eC)))) (pu (ai 0)))
 (ax (aJ 4 (al cD (aj (nF 2 c6) (aa (ai 2) (aa (ai 1) (ah)))) (aj (nF 2 c6) (aa (ai 3) (aa (ai 1) (ah))))))
 (aX (al aZ (al cD (ai 4) (aj bX (aa (ai 2) (ah)))) (aj bX (aa (aj (nF 1 c7) (aa (ai 0) (ah))) (ah))))))
def lm:List D->Option D:=fu .s 5 rK
theorem BT(B:Bt mg)(F:Df K mg "lean" si ["square","stand"])(c5:Cl P w K mg base 2 "grade_by" ["marks","stand"] (cH K .s 2 c6))(dN:Cl P w K mg base 2 "lines_of" ["square"] (cH K .n 1 c7)):Cl P w K mg base 3 "lean" ["square","stand"] (cH K .s 2 lm):=by
 refine aU (k:=2) F sc_lean (by decide) rfl λ_ cdv A outer s H hid E hr=>?_
 exact(ak (lC (DP.ef (af 0)) (bK (n:=2) rfl (aD (ar 2 sc_lean.nd) (aD (ar 3 sc_lean.nd) bG))))
  (ak (aM 4 sc_lean.nd (db (be c5 (hr.mono (by decide)) (ag (af 2) (ag (af 1) am))) (be c5 (hr.mono (by decide)) (ag (af 3) (ag (af 1) am)))))
  (aw (aS (bD (db (af 4) (aV aI cR B.b_len (aQ (af 2) bf) (hv:=by kernel_rfl))) (aV aI cR B.b_len (aQ (be dN (hr.mono (by decide)) (ag (af 0) am)) bf) (hv:=by kernel_rfl)))))))
theorem qX:FnScope ["square","stand"] ["square","stand"] (av jP):=⟨rfl,rfl,rfl,by decide+kernel,rfl,by decide+kernel,by decide+kernel⟩
def mE:FS:=
 aX (a7 (aa (aj (nF 2 i6) (aa (ai 0) (aa (ai 1) (ah)))) (aa (aj (nF 2 lm) (aa (ai 0) (aa (ai 1) (ah)))) (ah))))
def fE:List D->Option D:=fu .s 2 mE
theorem uy(B:Bt mg)(F:Df K mg "home_of" jP ["square","stand"])(jh:Cl P w K mg base 3 "grade" ["square","stand"] (cH K .s 2 i6))(lS:Cl P w K mg base 3 "lean" ["square","stand"] (cH K .s 2 lm)):Cl P w K mg base 4 "home_of" ["square","stand"] (cH K .s 2 fE):=by
 refine aU (k:=3) F qX (by decide) rfl λ_ cdv A outer s H hid E hr=>?_
 exact(aw (aS (bR (ag (be jh (hr.mono (by decide)) (ag (af 0) (ag (af 1) am))) (ag (be lS (hr.mono (by decide)) (ag (af 0) (ag (af 1) am))) am)))))
theorem sc_signed_sum:FnScope ["square","homes"] ["square"] (av gb):=⟨rfl,rfl,rfl,by decide+kernel,rfl,by decide+kernel,by decide+kernel⟩
def gq:FS:=
 ax (aJ 1 (aY 1 (bY (aj (nF 1 dB) (aa (aj bX (aa (al aT (ai 0) (ay (.int 0))) (ah))) (ah)))) (gN 2) (cF) (aj (nF 2 fE) (aa (ai 0) (aa (ai 2) (ah))))))
 (aX (aj (nF 1 iN) (aa (aY 2 (bY (ai 1)) (gT 2 (bL (gN 2) (bL (gN 3) (eC)))) (cF) (a7 (aa (ai 3) (aa (zU (bb (al lU (al bp (ai 2) (ay (.int 2))) (ay (.int 0)))) (ay (.int 1)) (cQ (ay (.int 1)))) (ah))))) (ah))))
def cG:List D->Option D:=fu .n 2 gq
theorem nZ(B:Bt mg)(F:Df K mg "signed_sum" gb ["square"])(fT:Cl P w K mg base 1 "tidy" ["tuples"] (cH K .n 1 iN))(jV:Cl P w K mg base 4 "home_of" ["square","stand"] (cH K .s 2 fE))(f9:Cl P w K mg base 1 "all_stands" ["n"] (cH K .n 1 dB))(lS:Cl P w K mg base 3 "lean" ["square","stand"] (cH K .s 2 lm))(jh:Cl P w K mg base 3 "grade" ["square","stand"] (cH K .s 2 i6)):Cl P w K mg base 5 "signed_sum" ["square"] (cH K .n 1 cG):=by
 refine aU (k:=4) F sc_signed_sum (by decide) rfl λ_ cdv A outer s H hid E hr=>?_
 exact(ak (yz 1 (N':=["square","homes","stand"]) rfl sc_signed_sum.nd (bm (Nat.le_of_ble_eq_true rfl)) (DIp.b (bW (DP.toS (be f9 (hr.mono (by decide)) (ag (aV aI cR B.b_len (aQ (aR aF aN (af 0) ao (λ_ _=>rfl)) bf) (hv:=by kernel_rfl)) am))))) (λ_ _ _ _=>(ar 2 EN)) (λ_ _ _ _=>cE) (λ_ _ _ _=>(be jV (hr.mono (by decide)) (ag (af 0) (ag (af 2) am)))))
  (aw (aS (be fT (hr.mono (by decide)) (ag (DP.toS (dU (N':=["square","homes","grade","lean"]) rfl (f6 (aP (bm (Nat.le_of_ble_eq_true rfl)) (aP (bm (Nat.le_of_ble_eq_true rfl)) cK))) (DIp.b (bW (af 1))) (λ_ _ _ _=>(bK (n:=2) rfl (aD (ar 2 CP) (aD (ar 3 CP) bG)))) (λ_ _ _ _=>cE) (λ_ _ _ _=>(bR (ag (af 3) (ag (CJ (by decide) (bP (jA hr.units) mq (dS (af 2) ao) ao (a8 _)) ao (dE ao)) am)))))) am)))))
theorem sc_own_sum:FnScope ["square","found","division"] ["square"] (av jm):=⟨rfl,rfl,rfl,by decide+kernel,rfl,by decide+kernel,by decide+kernel⟩
def js:FS:=
 ax (aJ 1 (aj (nF 1 cG) (aa (ai 0) (ah))))
 (ax (cz (b8 (bq (aa (al cD (aj bX (aa (al aT (ai 0) (ay (.int 0))) (ah))) (aj bX (aa (aj (nF 1 c7) (aa (ai 0) (ah))) (ah)))) (ah)))) (gN 2) (aJ 1 (aj (nF 2 gM) (aa (ai 1) (aa (a9 (aa (a7 (aa (cQ (ay (.int 2))) (aa (cQ (ay (.int 1))) (ah)))) (aa (a7 (aa (ay (.int 0)) (aa (ay (.int 1)) (ah)))) (ah)))) (ah))))))
 (aX (ai 1)))
def dg:List D->Option D:=fu .s 3 js
theorem u9(B:Bt mg)(F:Df K mg "own_sum" jm ["square"])(gp:Cl P w K mg base 5 "signed_sum" ["square"] (cH K .n 1 cG))(lg:Cl P w K mg base 3 "parted" ["one","other"] (cH K .s 2 gM))(dN:Cl P w K mg base 2 "lines_of" ["square"] (cH K .n 1 c7)):Cl P w K mg base 6 "own_sum" ["square"] (cH K .s 1 dg):=by
 refine aU (k:=5) F sc_own_sum (by decide) rfl λ_ cdv A outer s H hid E hr=>?_
 exact(ak (aM 1 sc_own_sum.nd (DP.toS (be gp (hr.mono (by decide)) (ag (af 0) am))))
  (ak (cA PassesOwn.never rfl (DIp.e (bj B.b_range (ag (db (aV aI cR B.b_len (aQ (aR aF aN (af 0) ao (λ_ _=>rfl)) bf) (hv:=by kernel_rfl)) (aV aI cR B.b_len (aQ (be dN (hr.mono (by decide)) (ag (af 0) am)) bf) (hv:=by kernel_rfl))) am))) (ar 2 sc_own_sum.nd) (aw (aM 1 sc_own_sum.nd (be lg (hr.mono (by decide)) (ag (af 1) (ag (DP.toS (ck (ag (bR (ag (dE ao) (ag (dE ao) am))) (ag (bR (ag ao (ag ao am))) am hU) hU))) am))))))
  (aw (aS (af 1)))))
theorem ph:FnScope ["_law_script","_law_k"] ["_law_script","_law_k"] (av iy):=⟨rfl,rfl,rfl,by decide+kernel,rfl,by decide+kernel,by decide+kernel⟩
def r9:FS:=
 ax (fw (bb (al j7 (ai 1) (aj bX (aa (ai 0) (ah))))) (aX (al aT (ai 0) (ai 1))) (skip))
 (aX (ay (.int 0)))
def iK:List D->Option D:=fu .s 2 r9
theorem qU(B:Bt mg)(F:Df K mg "_law_cell" iy ["_law_script","_law_k"]):Cl P w K mg base 1 "_law_cell" ["_law_script","_law_k"] (cH K .s 2 iK):=by
 refine aU (k:=0) F ph (by decide) rfl λ_ cdv A outer s H hid E hr=>?_
 exact(ak (gL (bP gZ eK (af 1) (aV aI cR B.b_len (aQ (af 0) bf) (hv:=by kernel_rfl)) (a8 _)) (aw (aS (aR aF aN (af 0) (af 1) (λ_ _=>rfl)))) dA)
  (aw (aS ao)))
theorem sc_law_bag:FnScope ["_law_script","_law_at","_law_cell_here","_law_mix","_law_k"] ["_law_script","_law_at"] (av ju):=⟨rfl,rfl,rfl,by decide+kernel,rfl,by decide+kernel,by decide+kernel⟩
def uU:FS:=
 ax (aJ 2 (al bp (aj pV (aa (aj (nF 2 iK) (aa (ai 0) (aa (ai 1) (ah)))) (ah))) (al b9 (al b9 (al dz (ay (.int 10)) (ay (.int 60))) (al dz (ay (.int 10)) (ay (.int 60)))) (al dz (ay (.int 10)) (ay (.int 60))))))
 (ax (fw (bb (al Ee (ai 2) (al dz (ay (.int 10)) (ay (.int 18))))) (aX (a9 (aa (ai 2) (aa (ay (.int 0)) (ah))))) (skip))
 (ax (aJ 3 (al bp (al aZ (al aZ (ai 2) (al b9 (ay (.int 7919)) (ai 1))) (ay (.int 17))) (ay (.int 2147483647))))
 (ax (cz (b8 (bq (aa (aj lw (aa (aj bX (aa (ai 0) (ah))) (aa (ay (.int 9)) (ah)))) (ah)))) (gN 4) (aJ 3 (al bp (al aZ (al aZ (al dz (ai 3) (ay (.int 5))) (al bp (al aT (ai 0) (ai 4)) (ay (.int 2147483629)))) (al b9 (ay (.int 31)) (ai 4))) (ay (.int 2147483647)))))
 (aX (a9 (aa (ai 3) (aa (ay (.int 1)) (ah))))))))
def ia:List D->Option D:=fu .n 5 uU
theorem va(B:Bt mg)(F:Df K mg "_law_bag" ju ["_law_script","_law_at"])(iI:Cl P w K mg base 1 "_law_cell" ["_law_script","_law_k"] (cH K .s 2 iK)):Cl P w K mg base 2 "_law_bag" ["_law_script","_law_at"] (cH K .n 2 ia):=by
 refine aU (k:=1) F sc_law_bag (by decide) rfl λ_ cdv A outer s H hid E hr=>?_
 exact(ak (aM 2 sc_law_bag.nd (dS (aV xr BF B.b_abs (aQ (be iI (hr.mono (by decide)) (ag (af 0) (ag (af 1) am))) bf) (hv:=by kernel_rfl)) (fy (fy (jv ao ao) (jv ao ao)) (jv ao ao))))
  (ak (gL (bP CA eK (af 2) (jv ao ao) (a8 _)) (aw (aS (ck (ag (af 2) (ag ao am))))) dA)
  (ak (aM 3 sc_law_bag.nd (dS (bD (bD (af 2) (fy ao (af 1))) ao) ao))
  (ak (cA PassesOwn.never rfl (DIp.e (bj B.b_range (ag (aV (uC rfl) zK B.b_min (aQ (aV aI cR B.b_len (aQ (af 0) bf) (hv:=by kernel_rfl)) (aQ ao bf)) (hv:=by kernel_rfl)) am))) (ar 4 sc_law_bag.nd) (aw (aM 3 sc_law_bag.nd (dS (bD (bD (jv (af 3) ao) (dS (aR aF aN (af 0) (af 4) (λ_ _=>rfl)) ao)) (fy ao (af 4))) ao))))
  (aw (aS (ck (ag (af 3) (ag ao am)))))))))
theorem sc_law_take:FnScope ["_law_bag_here","_law_many","_law_digit"] ["_law_bag_here","_law_many"] (av iz):=⟨rfl,rfl,rfl,by decide+kernel,rfl,by decide+kernel,by decide+kernel⟩
def rT:FS:=
 ax (fw (bb (al lU (al aT (cS 0) (ay (.int 1))) (ay (.int 0)))) (ax (aJ 2 (al bp (al aT (cS 0) (ay (.int 0))) (ai 1)))
 (ax (dm (dC 0 (ay (.int 0))) (pu (al gB (al aT (cS 0) (ay (.int 0))) (ai 1))))
 (aX (ai 2)))) (skip))
 (ax (dm (dC 0 (ay (.int 0))) (pu (al bp (al aZ (al aZ (al dz (al aT (cS 0) (ay (.int 0))) (ay (.int 5))) (al b9 (ay (.int 48271)) (al aT (cS 0) (ay (.int 1))))) (ay (.int 11))) (ay (.int 2147483647)))))
 (ax (dm (dC 0 (ay (.int 1))) (pu (al aZ (al aT (cS 0) (ay (.int 1))) (ay (.int 1)))))
 (aX (al bp (al gB (al bp (al b9 (al aT (cS 0) (ay (.int 0))) (ay (.int 69621))) (ay (.int 2147483629))) (ay (.int 8))) (ai 1)))))
def b7:List D->List D->Option (D×List D):=vc .s 3 rT
theorem rS(B:Bt mg)(F:Df K mg "_law_take" iz ["_law_bag_here","_law_many"]):Cl P w K mg base 1 "_law_take" ["_law_bag_here","_law_many"] (uw K .s 1 b7):=by
 refine rW (k:=0) F sc_law_take (by decide) rfl λ_ cdv A outer s H hid a E hr=>?_
 exact(ak (gL (bP (jA hr.units) mq (aR aF aN (df 0) ao (λ_ _=>rfl)) ao (a8 _)) (ak (aM 2 sc_law_take.nd (dS (aR aF aN (df 0) ao (λ_ _=>rfl)) (af 1)))
  (ak (nk (DP.ef (m7 (aR aF aN (df 0) ao (λ_ _=>rfl)) (af 1))) (iZ 0 ao))
  (aw (aS (af 2))))) dA)
  (ak (nk (DP.ef (dS (bD (bD (jv (aR aF aN (df 0) ao (λ_ _=>rfl)) ao) (fy ao (aR aF aN (df 0) ao (λ_ _=>rfl)))) ao) ao)) (iZ 0 ao))
  (ak (nk (DP.ef (bD (aR aF aN (df 0) ao (λ_ _=>rfl)) ao)) (iZ 0 ao))
  (aw (aS (dS (m7 (dS (fy (aR aF aN (df 0) ao (λ_ _=>rfl)) ao) ao) ao) (af 1)))))))
theorem sc_law_order:FnScope ["_law_bag_here","_law_n","_law_left","_law_found"] ["_law_bag_here","_law_n"] (av hJ):=⟨rfl,rfl,rfl,by decide+kernel,rfl,by decide+kernel,by decide+kernel⟩
def pY:FS:=
 ax (ce 2 (xK (ai 1)))
 (ax (ce 3 (a9 (ah)))
 (ax (gE (bb (al iF (cS 2) (a9 (ah)))) (bU (aO 3 1 gY (gA (aO 2 1 ma (gA (aO 0 1 b7 (b8 (aa (aj bX (aa (cS 2) (ah))) (ah)))) (b8 (ah)))) (b8 (ah))))) 16)
 (qz 3)))
def fh:List D->List D->Option (D×List D):=vc .n 4 pY
theorem qi(B:Bt mg)(F:Df K mg "_law_order" hJ ["_law_bag_here","_law_n"])(bQ:Cl P w K mg base 1 "_law_take" ["_law_bag_here","_law_many"] (uw K .s 1 b7)):Cl P w K mg base 2 "_law_order" ["_law_bag_here","_law_n"] (uw K .n 1 fh):=by
 refine rW (k:=1) F sc_law_order (by decide) rfl λ_ cdv A outer s H hid a E hr=>?_
 exact(ak (dZ 2 sc_law_order.nd (fo rfl B.b_list B.b_range (af 1)))
  (ak (dZ 3 sc_law_order.nd (ck am))
  (ak (hV 16 PassesOwn.never (bP (gu hr.units) jc (df 2) (ck am) (a8 _)) (aw (fZ (ij 3 h9 dH PySem.F.slot_list_append PySem.F.type_list_append (ud (ij 2 BD xu PySem.F.slot_list_pop PySem.F.type_list_pop (ud (kX 0 bQ (hr.mono (by decide)) (DA.gf (ag (aV aI cR B.b_len (aQ (df 2) bf) (hv:=by kernel_rfl)) am))) (DA.gf am))) (DA.gf am))))))
  (aw (oe 3)))))
theorem sc_law_square:FnScope ["_law_bag_here","_law_n","_law_plain","_law_by","_law_rings","_law_crosses","_law_c","_law_d"] ["_law_bag_here","_law_n"] (av fU):=⟨rfl,rfl,rfl,by decide+kernel,rfl,by decide+kernel,by decide+kernel⟩
def mY:FS:=
 ax (gF 2 (aO 0 1 b7 (b8 (aa (ay (.int 4)) (ah)))))
 (ax (gF 3 (jl aZ (pu (ay (.int 1))) (aO 0 1 b7 (b8 (aa (al cD (ai 1) (ay (.int 1))) (ah))))))
 (ax (gF 4 (aO 0 1 fh (b8 (aa (ai 1) (ah)))))
 (ax (rh 5 (aO 0 1 fh (b8 (aa (ai 1) (ah)))))
 (ax (fw (bb (al lU (ai 2) (ay (.int 1)))) (ax (aJ 4 (xK (ai 1)))
 (ce 5 (aY 1 (bY (ai 4)) (gN 8) (cF) (al bp (al aZ (ai 8) (ai 3)) (ai 1))))) (skip))
 (ax (cz (b8 (bq (aa (ai 1) (ah)))) (gN 6) (ax (aJ 7 (al bp (al aZ (ai 6) (ay (.int 1))) (ai 1)))
 (fw (bb (al lU (al aT (cS 5) (ai 6)) (al aT (ai 4) (ai 6)))) (dm (gT 2 (bL (dC 5 (ai 6)) (bL (dC 5 (ai 7)) (eC)))) (pu (a7 (aa (al aT (cS 5) (ai 7)) (aa (al aT (cS 5) (ai 6)) (ah)))))) (skip))))
 (aX (a7 (aa (aj gR (aa (ai 4) (ah))) (aa (aj gR (aa (cS 5) (ah))) (ah))))))))))
def eG:List D->List D->Option (D×List D):=vc .s 8 mY
theorem nR(B:Bt mg)(F:Df K mg "_law_square" fU ["_law_bag_here","_law_n"])(bQ:Cl P w K mg base 1 "_law_take" ["_law_bag_here","_law_many"] (uw K .s 1 b7))(eX:Cl P w K mg base 2 "_law_order" ["_law_bag_here","_law_n"] (uw K .n 1 fh)):Cl P w K mg base 3 "_law_square" ["_law_bag_here","_law_n"] (uw K .s 1 eG):=by
 refine rW (k:=2) F sc_law_square (by decide) rfl λ_ cdv A outer s H hid a E hr=>?_
 exact(ak (i9 2 sc_law_square.nd (kX 0 bQ (hr.mono (by decide)) (DA.gf (ag ao am))))
  (ak (i9 3 sc_law_square.nd (A6 (DP.ef ao) (kX 0 bQ (hr.mono (by decide)) (DA.gf (ag (db (af 1) ao) am)))))
  (ak (i9 4 sc_law_square.nd (DE.toS (kX 0 eX (hr.mono (by decide)) (DA.gf (ag (af 1) am)))))
  (ak (zA 5 sc_law_square.nd (kX 0 eX (hr.mono (by decide)) (DA.gf (ag (af 1) am))))
  (ak (gL (bP (jA hr.units) mq (af 2) ao (a8 _)) (ak (aM 4 sc_law_square.nd (DP.toS (fo rfl B.b_list B.b_range (af 1))))
  (aw (zH 5 (N':=["_law_bag_here","_law_n","_law_plain","_law_by","_law_rings","_law_crosses","_law_c","_law_d","_law_row"]) rfl sc_law_square.nd (bm (Nat.le_of_ble_eq_true rfl)) (DIp.b (bW (af 4))) (λ_ _ _ _=>(ar 8 Eo)) (λ_ _ _ _=>cE) (λ_ _ _ _=>(dS (bD (af 8) (af 3)) (af 1)))))) dA)
  (ak (cA PassesOwn.never rfl (DIp.e (bj B.b_range (ag (af 1) am))) (ar 6 sc_law_square.nd) (ak (aM 7 sc_law_square.nd (dS (bD (af 6) ao) (af 1)))
  (aw (gL (bP (jA hr.units) mq (aR aF aN (df 5) (af 6) (λ_ _=>rfl)) (aR aF aN (af 4) (af 6) (λ_ _=>rfl)) (a8 _)) (aw (nk (DP.ef (bR (ag (aR aF aN (df 5) (af 7) (λ_ _=>rfl)) (ag (aR aF aN (df 5) (af 6) (λ_ _=>rfl)) am)))) (yx (n:=2) rfl (qb (iZ 5 (af 6)) (qb (iZ 5 (af 7)) ze))))) dA))))
  (aw (aS (bR (ag (dO iu pr B.b_tuple (aQ (af 4) bf) (hv:=by kernel_rfl)) (ag (dO iu pr B.b_tuple (aQ (df 5) bf) (hv:=by kernel_rfl)) am)))))))))))
theorem nh:FnScope ["_law_thing"] ["_law_thing"] (av gO):=⟨rfl,rfl,rfl,by decide+kernel,rfl,by decide+kernel,by decide+kernel⟩
def pk:FS:=
 aX (kK (dw (bb (lY "int" (ai 0))) (bb (kK (gd (bb (lY "bool" (ai 0))))))))
def eW:List D->Option D:=fu .s 1 pk
theorem oW(B:Bt mg)(F:Df K mg "_law_whole" gO ["_law_thing"]):Cl P w K mg base 1 "_law_whole" ["_law_thing"] (cH K .s 1 eW):=by
 refine aU (k:=0) F nh (by decide) rfl λ_ cdv A outer s H hid E hr=>?_
 exact(aw (aS (iP (oy "int" AW (af 0) B.b_isinstance B.b_int) (iC (Bu (oy "bool" zi (af 0) B.b_isinstance B.b_bool))))))
theorem sc_law_is_sum:FnScope ["_law_found","_law_one"] ["_law_found"] (av gc):=⟨rfl,rfl,rfl,by decide+kernel,rfl,by decide+kernel,by decide+kernel⟩
def nQ:FS:=
 ax (fw (gd (fY (lY "list" (ai 0)))) (aX (ay (.bl false))) (skip))
 (ax (cz (b8 (bY (ai 0))) (gN 1) (fw (rY (gd (fY (lY "tuple" (ai 1)))) (rY (bb (al iF (aj bX (aa (ai 1) (ah))) (ay (.int 2)))) (rY (gd (fY (aj (nF 1 eW) (aa (al aT (ai 1) (ay (.int 0))) (ah))))) (gd (fY (aj (nF 1 eW) (aa (al aT (ai 1) (ay (.int 1))) (ah)))))))) (aX (ay (.bl false))) (skip)))
 (aX (kK (dw (bb (aj sx (aa (aY 1 (bY (ai 0)) (gN 2) (cF) (al iF (al aT (ai 2) (ay (.int 1))) (ay (.int 0)))) (ah)))) (bb (aj sx (aa (aY 2 (rH (ai 0) (sk (ai 0) (BQ (ay (.int 1))) Cp)) (gT 2 (bL (gN 2) (bL (gN 3) (eC)))) (cF) (al j7 (al aT (ai 2) (ay (.int 0))) (al aT (ai 3) (ay (.int 0))))) (ah))))))))
def dq:List D->Option D:=fu .s 2 nQ
theorem nw(B:Bt mg)(F:Df K mg "_law_is_sum" gc ["_law_found"])(fc:Cl P w K mg base 1 "_law_whole" ["_law_thing"] (cH K .s 1 eW)):Cl P w K mg base 2 "_law_is_sum" ["_law_found"] (cH K .s 1 dq):=by
 refine aU (k:=1) F sc_law_is_sum (by decide) rfl λ_ cdv A outer s H hid E hr=>?_
 exact(ak (gL (lj (j5 (oy "list" zv (af 0) B.b_isinstance B.b_list))) (aw (aS mU)) dA)
  (ak (cA PassesOwn.never rfl (DIp.e (bW (af 0))) (ar 1 sc_law_is_sum.nd) (aw (gL (DW.dt (tH (lj (j5 (oy "tuple" we (af 1) B.b_isinstance B.b_tuple))) (tH (bP (gu hr.units) jc (aV aI cR B.b_len (aQ (af 1) bf) (hv:=by kernel_rfl)) ao (a8 _)) (tH (lj (j5 (be fc (hr.mono (by decide)) (ag (aR aF aN (af 1) ao (λ_ _=>rfl)) am)))) (wx (lj (j5 (be fc (hr.mono (by decide)) (ag (aR aF aN (af 1) ao (λ_ _=>rfl)) am))))))))) (aw (aS mU)) dA)))
  (aw (aS (iP (aV (oY rfl) xo B.b_all (aQ (dU (N':=["_law_found","?_law_one","_law_one"]) rfl (bm (Nat.le_of_ble_eq_true rfl)) (DIp.b (bW (af 0))) (λ_ _ _ _=>(ar 2 CG)) (λ_ _ _ _=>cE) (λ_ _ _ _=>(eD (gu hr.units) jc (aR aF aN (af 2) ao (λ_ _=>rfl)) ao (a8 _)))) bf) (hv:=by kernel_rfl)) (iC (aV (oY rfl) xo B.b_all (aQ (dU (N':=["_law_found","?_law_one","_law_one","_law_two"]) rfl (f6 (aP (bm (Nat.le_of_ble_eq_true rfl)) (aP (bm (Nat.le_of_ble_eq_true rfl)) cK))) (DIp.b (yp (af 0) (DP.toS (AN (af 0) (yH ao) yj)) B.b_zip)) (λ_ _ _ _=>(bK (n:=2) rfl (aD (ar 2 AB) (aD (ar 3 AB) bG)))) (λ_ _ _ _=>cE) (λ_ _ _ _=>(eD gZ eK (aR aF aN (af 2) ao (λ_ _=>rfl)) (aR aF aN (af 3) ao (λ_ _=>rfl)) (a8 _)))) bf) (hv:=by kernel_rfl))))))))
theorem sc_law_summed:FnScope ["_law_tuples","_law_many","_law_power","_law_number"] ["_law_tuples"] (av ga):=⟨rfl,rfl,rfl,by decide+kernel,rfl,by decide+kernel,by decide+kernel⟩
def ou:FS:=
 ax (pZ 1)
 (ax (cz (b8 (bY (ai 0))) (gT 2 (bL (gN 2) (bL (gN 3) (eC)))) (ka 1 (ai 2) (al aZ (j8 1 (ai 2) (ay (.int 0))) (ai 3))))
 (aX (aY 1 (bY (mL 1)) (gN 4) (bb (al iF (l7 1 (ai 4)) (ay (.int 0)))) (a7 (aa (ai 4) (aa (l7 1 (ai 4)) (ah)))))))
def cC:List D->Option D:=fu .n 4 ou
theorem mW(B:Bt mg)(F:Df K mg "_law_summed" ga ["_law_tuples"]):Cl P w K mg base 1 "_law_summed" ["_law_tuples"] (cH K .n 1 cC):=by
 refine aU (k:=0) F sc_law_summed (by decide) rfl λ_ cdv A outer s H hid E hr=>?_
 exact(ak (sQ 1 sc_law_summed.nd)
  (ak (cA PassesOwn.never rfl (DIp.e (bW (af 0))) (bK (n:=2) rfl (aD (ar 2 sc_law_summed.nd) (aD (ar 3 sc_law_summed.nd) bG))) (aw (tX 1 (j6 hr) (af 2) (bD (sM 1 (j6 hr) (af 2) ao ⟨rfl,rfl,rfl,rfl⟩) (af 3)))))
  (aw (aS (dU (N':=["_law_tuples","_law_many","?_law_power","_law_number","_law_power"]) rfl (bm (Nat.le_of_ble_eq_true rfl)) (DIp.b (bW (DP.toS (tf 1 rfl B.b_sorted)))) (λ_ _ _ _=>(ar 4 Dk)) (λ_ _ _ _=>(jd (bP (gu hr.units) jc (oA 1 (j6 hr) (af 4) (λ_ _=>rfl)) ao (a8 _)))) (λ_ _ _ _=>(bR (ag (af 4) (ag (oA 1 (j6 hr) (af 4) (λ_ _=>rfl)) am)))))))))
theorem sc_law_product:FnScope ["_law_one","_law_other","_law_found","_law_power","_law_number"] ["_law_one","_law_other"] (av fA):=⟨rfl,rfl,rfl,by decide+kernel,rfl,by decide+kernel,by decide+kernel⟩
def fx:FS:=
 ax (ce 2 (a9 (ah)))
 (ax (cz (b8 (bY (ai 0))) (gT 2 (bL (gN 3) (bL (gN 4) (eC)))) (bU (jo 2 (aY 2 (bY (ai 1)) (gT 2 (bL (gN 5) (bL (gN 6) (eC)))) (cF) (a7 (aa (al aZ (ai 3) (ai 5)) (aa (al b9 (ai 4) (ai 6)) (ah))))))))
 ((λρ=>(aX (aj (nF 1 cC) (aa (ai 2) (ah)))) (l4 2 ρ))))
def ci:List D->Option D:=fu .n 5 fx
theorem l5(B:Bt mg)(F:Df K mg "_law_product" fA ["_law_one","_law_other"])(cL:Cl P w K mg base 1 "_law_summed" ["_law_tuples"] (cH K .n 1 cC)):Cl P w K mg base 2 "_law_product" ["_law_one","_law_other"] (cH K .n 2 ci):=by
 refine aU (k:=1) F sc_law_product (by decide) rfl λ_ cdv A outer s H hid E hr=>?_
 exact(ak (dZ 2 sc_law_product.nd (ck am))
  (ak (cA PassesOwn.never rfl (DIp.e (bW (af 0))) (bK (n:=2) rfl (aD (ar 3 sc_law_product.nd) (aD (ar 4 sc_law_product.nd) bG))) (aw (fZ (ui 2 (dU (N':=["_law_one","_law_other","_law_found","_law_power","_law_number","_law_more","_law_often"]) rfl (f6 (aP (bm (Nat.le_of_ble_eq_true rfl)) (aP (bm (Nat.le_of_ble_eq_true rfl)) cK))) (DIp.b (bW (af 1))) (λ_ _ _ _=>(bK (n:=2) rfl (aD (ar 5 zX) (aD (ar 6 zX) bG)))) (λ_ _ _ _=>cE) (λ_ _ _ _=>(bR (ag (bD (af 3) (af 5)) (ag (fy (af 4) (af 6)) am)))))))))
  (aw (oB 2 (aS (be cL (hr.mono (by decide)) (ag (af 2) am)))))))
theorem sc_law_all:FnScope ["_law_n","_law_found","_law_bar","_law_longer","_law_begun"] ["_law_n"] (av jp):=⟨rfl,rfl,rfl,by decide+kernel,rfl,by decide+kernel,by decide+kernel⟩
def jO:FS:=
 ax (aJ 1 (a9 (aa (a7 (ah)) (ah))))
 (ax (cz (b8 (bq (aa (ai 0) (ah)))) (gN 2) (ax (ce 3 (a9 (ah)))
 (ax (cz (b8 (bY (ai 1))) (gN 4) (bU (jo 3 (aY 1 (bq (aa (ai 0) (ah))) (gN 5) (bb (al (oJ true) (ai 5) (ai 4))) (al gC (ai 4) (a7 (aa (ai 5) (ah))))))))
 ((λρ=>(aJ 1 (ai 3)) (l4 3 ρ))))))
 (aX (ai 1)))
def fG:List D->Option D:=fu .s 5 jO
theorem vd(B:Bt mg)(F:Df K mg "_law_all" jp ["_law_n"]):Cl P w K mg base 1 "_law_all" ["_law_n"] (cH K .s 1 fG):=by
 refine aU (k:=0) F sc_law_all (by decide) rfl λ_ cdv A outer s H hid E hr=>?_
 exact(QSs.to (i5 (yD 1 sc_law_all.nd (AZ (yF (BY xX) xX hU)))
  (i5 (QS.of (cA PassesOwn.never rfl (DIp.e (bj B.b_range (ag (af 0) am))) (ar 2 sc_law_all.nd) (ak (dZ 3 sc_law_all.nd (ck am))
  (ak (cA PassesOwn.never rfl (DIp.e (bW (af 1))) (ar 4 sc_law_all.nd) (aw (fZ (ui 3 (dU (N':=["_law_n","_law_found","_law_bar","_law_longer","_law_begun","_law_height"]) rfl (bm (Nat.le_of_ble_eq_true rfl)) (DIp.b (bj B.b_range (ag (af 0) am))) (λ_ _ _ _=>(ar 5 Dt)) (λ_ _ _ _=>(jd (bP (mJ hr.units) (xS true) (af 5) (af 4) (by with_unfolding_all rfl)))) (λ_ _ _ _=>(uj (af 4) (bR (ag (af 5) am)))))))))
  (aw (oB 3 (aM 1 sc_law_all.nd (af 3))))))))
  (tY (QS.of (aS (af 1)))))))
theorem sc_law_grade:FnScope ["_law_marks","_law_stand","_law_many","_law_n","_law_i","_law_j"] ["_law_marks","_law_stand"] (av gV):=⟨rfl,rfl,rfl,by decide+kernel,rfl,by decide+kernel,by decide+kernel⟩
def g8:FS:=
 ax (aJ 2 (ay (.int 1)))
 (ax (aJ 3 (aj bX (aa (ai 1) (ah))))
 (ax (cz (b8 (bq (aa (ai 3) (ah)))) (gN 4) (cz (b8 (bq (aa (ai 3) (ah)))) (gN 5) (ax (aJ 2 (al aZ (ai 2) (aj iW (aa (kK (dw (bb (al j7 (ai 4) (ai 5))) (bb (al j7 (al aT (ai 1) (ai 4)) (al aT (ai 1) (ai 5)))))) (ah)))))
 (ax (aJ 2 (al aZ (ai 2) (aj iW (aa (kK (dw (bb (al j7 (ai 4) (ai 5))) (bb (al j7 (al aT (ai 0) (ai 4)) (al aT (ai 0) (ai 5)))))) (ah)))))
 (ax (aJ 2 (al cD (ai 2) (aj iW (aa (kK (dw (bb (al BS (ai 4) (ai 5))) (bb (al BS (al aT (ai 1) (ai 4)) (al aT (ai 0) (ai 5)))))) (ah)))))
 (aJ 2 (al cD (ai 2) (aj iW (aa (kK (dw (bb (al j7 (ai 4) (ai 5))) (bb (al j7 (al aT (ai 0) (ai 4)) (al aT (ai 1) (ai 5)))))) (ah))))))))))
 (aX (ai 2))))
def bH:List D->Option D:=fu .s 6 g8
theorem qe(B:Bt mg)(F:Df K mg "_law_grade" gV ["_law_marks","_law_stand"]):Cl P w K mg base 1 "_law_grade" ["_law_marks","_law_stand"] (cH K .s 2 bH):=by
 refine aU (k:=0) F sc_law_grade (by decide) rfl λ_ cdv A outer s H hid E hr=>?_
 exact(ak (aM 2 sc_law_grade.nd ao)
  (ak (aM 3 sc_law_grade.nd (aV aI cR B.b_len (aQ (af 1) bf) (hv:=by kernel_rfl)))
  (ak (cA PassesOwn.never rfl (DIp.e (bj B.b_range (ag (af 3) am))) (ar 4 sc_law_grade.nd) (aw (cA PassesOwn.never rfl (DIp.e (bj B.b_range (ag (af 3) am))) (ar 5 sc_law_grade.nd) (ak (aM 2 sc_law_grade.nd (bD (af 2) (dO fF kQ B.b_int (aQ (iP (eD gZ eK (af 4) (af 5) (a8 _)) (iC (eD gZ eK (aR aF aN (af 1) (af 4) (λ_ _=>rfl)) (aR aF aN (af 1) (af 5) (λ_ _=>rfl)) (a8 _)))) bf) (hv:=by kernel_rfl))))
  (ak (aM 2 sc_law_grade.nd (bD (af 2) (dO fF kQ B.b_int (aQ (iP (eD gZ eK (af 4) (af 5) (a8 _)) (iC (eD gZ eK (aR aF aN (af 0) (af 4) (λ_ _=>rfl)) (aR aF aN (af 0) (af 5) (λ_ _=>rfl)) (a8 _)))) bf) (hv:=by kernel_rfl))))
  (ak (aM 2 sc_law_grade.nd (db (af 2) (dO fF kQ B.b_int (aQ (iP (eD zV eK (af 4) (af 5) (a8 _)) (iC (eD zV eK (aR aF aN (af 1) (af 4) (λ_ _=>rfl)) (aR aF aN (af 0) (af 5) (λ_ _=>rfl)) (a8 _)))) bf) (hv:=by kernel_rfl))))
  (aw (aM 2 sc_law_grade.nd (db (af 2) (dO fF kQ B.b_int (aQ (iP (eD gZ eK (af 4) (af 5) (a8 _)) (iC (eD gZ eK (aR aF aN (af 0) (af 4) (λ_ _=>rfl)) (aR aF aN (af 1) (af 5) (λ_ _=>rfl)) (a8 _)))) bf) (hv:=by kernel_rfl)))))))))))
  (aw (aS (af 2))))))
theorem sc_law_rounds:FnScope ["_law_square_here","_law_left","_law_many","_law_column"] ["_law_square_here"] (av fV):=⟨rfl,rfl,rfl,by decide+kernel,rfl,by decide+kernel,by decide+kernel⟩
def gv:FS:=
 ax (ce 1 (xK (aj bX (aa (al aT (ai 0) (ay (.int 0))) (ah)))))
 (ax (aJ 2 (ay (.int 0)))
 (ax (gE (bb (al iF (cS 1) (a9 (ah)))) (ax (aJ 2 (al aZ (ai 2) (ay (.int 1))))
 (ax (aJ 3 (al aT (cS 1) (ay (.int 0))))
 (gE (bb (al (oJ false) (ai 3) (cS 1))) (ax (bU (aO 1 1 vn (b8 (aa (ai 3) (ah)))))
 (aJ 3 (al km (al aT (ai 0) (ay (.int 1))) (al aT (al aT (ai 0) (ay (.int 0))) (ai 3))))) 16))) 16)
 (aX (ai 2))))
def bJ:List D->Option D:=fu .s 4 gv
theorem nB(B:Bt mg)(F:Df K mg "_law_rounds" fV ["_law_square_here"]):Cl P w K mg base 1 "_law_rounds" ["_law_square_here"] (cH K .s 1 bJ):=by
 refine aU (k:=0) F sc_law_rounds (by decide) rfl λ_ cdv A outer s H hid E hr=>?_
 exact(ak (dZ 1 sc_law_rounds.nd (fo rfl B.b_list B.b_range (aV aI cR B.b_len (aQ (aR aF aN (af 0) ao (λ_ _=>rfl)) bf) (hv:=by kernel_rfl))))
  (ak (aM 2 sc_law_rounds.nd ao)
  (ak (hV 16 PassesOwn.never (bP (gu hr.units) jc (df 1) (ck am) (a8 _)) (ak (aM 2 sc_law_rounds.nd (bD (af 2) ao))
  (ak (aM 3 sc_law_rounds.nd (aR aF aN (df 1) ao (λ_ _=>rfl)))
  (aw (hV 16 PassesOwn.never (bP (Cc hr.units) (xS false) (af 3) (df 1) (by with_unfolding_all rfl)) (ak (fZ (ij 1 ve uA PySem.F.slot_list_remove PySem.F.type_list_remove (DA.gf (ag (af 3) am))))
  (aw (aM 3 sc_law_rounds.nd (ke hr.units (aR aF aN (af 0) ao (λ_ _=>rfl)) (aR aF aN (aR aF aN (af 0) ao (λ_ _=>rfl)) (af 3) (λ_ _=>rfl)))))))))))
  (aw (aS (af 2))))))
theorem sc_law_home:FnScope ["_law_square_here","_law_stand","_law_one","_law_other"] ["_law_square_here","_law_stand"] (av iE):=⟨rfl,rfl,rfl,by decide+kernel,rfl,by decide+kernel,by decide+kernel⟩
def iD:FS:=
 ax (xO 2 3 (aa (aj (nF 2 bH) (aa (al aT (ai 0) (ay (.int 0))) (aa (ai 1) (ah)))) (aa (aj (nF 2 bH) (aa (al aT (ai 0) (ay (.int 1))) (aa (ai 1) (ah)))) (ah))))
 (aX (a7 (aa (ai 2) (aa (al aZ (al cD (al cD (ai 2) (ai 3)) (aj bX (aa (ai 1) (ah)))) (aj (nF 1 bJ) (aa (ai 0) (ah)))) (ah)))))
def c9:List D->Option D:=fu .s 4 iD
theorem qT(B:Bt mg)(F:Df K mg "_law_home" iE ["_law_square_here","_law_stand"])(eS:Cl P w K mg base 1 "_law_grade" ["_law_marks","_law_stand"] (cH K .s 2 bH))(cN:Cl P w K mg base 1 "_law_rounds" ["_law_square_here"] (cH K .s 1 bJ)):Cl P w K mg base 2 "_law_home" ["_law_square_here","_law_stand"] (cH K .s 2 c9):=by
 refine aU (k:=1) F sc_law_home (by decide) rfl λ_ cdv A outer s H hid E hr=>?_
 exact(ak (AX 2 3 rfl sc_law_home.nd (ag (be eS (hr.mono (by decide)) (ag (aR aF aN (af 0) ao (λ_ _=>rfl)) (ag (af 1) am))) (ag (be eS (hr.mono (by decide)) (ag (aR aF aN (af 0) ao (λ_ _=>rfl)) (ag (af 1) am))) am)))
  (aw (aS (bR (ag (af 2) (ag (bD (db (db (af 2) (af 3)) (aV aI cR B.b_len (aQ (af 1) bf) (hv:=by kernel_rfl))) (be cN (hr.mono (by decide)) (ag (af 0) am))) am))))))
theorem sc_law_signed:FnScope ["_law_square_here","_law_tuples","_law_stand","_law_one","_law_height"] ["_law_square_here"] (av fX):=⟨rfl,rfl,rfl,by decide+kernel,rfl,by decide+kernel,by decide+kernel⟩
def fS:FS:=
 ax (ce 1 (a9 (ah)))
 (ax (cz (b8 (bY (aj (nF 1 fG) (aa (aj bX (aa (al aT (ai 0) (ay (.int 0))) (ah))) (ah))))) (gN 2) (ax (dm (gT 2 (bL (gN 3) (bL (gN 4) (eC)))) (pu (aj (nF 2 c9) (aa (ai 0) (aa (ai 2) (ah))))))
 (bU (aO 1 1 gY (b8 (aa (a7 (aa (ai 4) (aa (al aT (a9 (aa (ay (.int 1)) (aa (cQ (ay (.int 1))) (ah)))) (al bp (ai 3) (ay (.int 2)))) (ah)))) (ah)))))))
 ((λρ=>(aX (aj (nF 1 cC) (aa (ai 1) (ah)))) (l4 1 ρ))))
def cO:List D->Option D:=fu .n 5 fS
theorem oz(B:Bt mg)(F:Df K mg "_law_signed" fX ["_law_square_here"])(jB:Cl P w K mg base 1 "_law_all" ["_law_n"] (cH K .s 1 fG))(cL:Cl P w K mg base 1 "_law_summed" ["_law_tuples"] (cH K .n 1 cC))(iM:Cl P w K mg base 2 "_law_home" ["_law_square_here","_law_stand"] (cH K .s 2 c9)):Cl P w K mg base 3 "_law_signed" ["_law_square_here"] (cH K .n 1 cO):=by
 refine aU (k:=2) F sc_law_signed (by decide) rfl λ_ cdv A outer s H hid E hr=>?_
 exact(ak (dZ 1 sc_law_signed.nd (ck am))
  (ak (cA PassesOwn.never rfl (DIp.e (bW (be jB (hr.mono (by decide)) (ag (aV aI cR B.b_len (aQ (aR aF aN (af 0) ao (λ_ _=>rfl)) bf) (hv:=by kernel_rfl)) am)))) (ar 2 sc_law_signed.nd) (ak (lC (DP.ef (be iM (hr.mono (by decide)) (ag (af 0) (ag (af 2) am)))) (bK (n:=2) rfl (aD (ar 3 sc_law_signed.nd) (aD (ar 4 sc_law_signed.nd) bG))))
  (aw (fZ (ij 1 h9 dH PySem.F.slot_list_append PySem.F.type_list_append (DA.gf (ag (bR (ag (af 4) (ag (aR aF aN (ck (ag ao (ag (dE ao) am))) (dS (af 3) ao) (λ_ _=>rfl)) am))) am hU)))))))
  (aw (oB 1 (aS (be cL (hr.mono (by decide)) (ag (af 1) am)))))))
theorem sc_law:FnScope ["_law_script","_law_k","_law_bag_here","_law_n","_law_square_here","_law_due","_law_turn","_law_found","_law_grown","_law_times_more"] ["_law_script"] (av iU):=⟨rfl,rfl,rfl,by decide+kernel,rfl,by decide+kernel,by decide+kernel⟩
def v0:FS:=
 ax (cz (b8 (bq (aa (ay (.int 3)) (ah)))) (gN 1) (ax (ce 2 (aj (nF 2 ia) (aa (ai 0) (aa (ai 1) (ah)))))
 (ax (gF 3 (jl aT (pu (a9 (po [6,2,3,3,4,4,4,4,4,4,4,4,5,5,3,4]))) (aO 2 1 b7 (b8 (aa (ay (.int 16)) (ah))))))
 (ax (gF 4 (aO 2 1 eG (b8 (aa (al cD (ai 3) (aj iW (aa (kK (dw (bb (al lU (ai 3) (ay (.int 6)))) (bb (al Cq (ai 1) (ay (.int 0)))))) (ah)))) (ah)))))
 (ax (aJ 5 (aj (nF 1 cO) (aa (ai 4) (ah))))
 (cz (b8 (bq (aa (ay (.int 2)) (ah)))) (gN 6) (uX 5 (ax (mH 7 1 dg (aa (ai 4) (ah)))
 (ax (fw (gd (fY (aj (nF 1 dq) (aa (Aw 7) (ah))))) (aX (ay (.bl false))) (skip))
 (ax (aJ 8 (Aw 7))
 (ax (cz (b8 (bq (aa (al cD (aj bX (aa (al aT (ai 4) (ay (.int 0))) (ah))) (aj (nF 1 bJ) (aa (ai 4) (ah)))) (ah)))) (gN 9) (aJ 8 (aj (nF 2 ci) (aa (ai 8) (aa (a9 (aa (a7 (aa (cQ (ay (.int 2))) (aa (cQ (ay (.int 1))) (ah)))) (aa (a7 (aa (ay (.int 0)) (aa (ay (.int 1)) (ah)))) (ah)))) (ah))))))
 (ax (fw (bb (al iF (ai 8) (Cr 5))) (aX (ay (.bl false))) (skip))
 (ur 7 8 5)))))))))))))
 (aX (ay (.bl true)))
def As:List D->Option D:=fu .s 10 v0
theorem BE {f:Addr}{fd:FuncData}(B:Bt mg)(F:Fun K "law" "law" iU f fd)(jW:Cl P w K mg base 2 "_law_bag" ["_law_script","_law_at"] (cH K .n 2 ia))(gr:Cl P w K mg base 3 "_law_square" ["_law_bag_here","_law_n"] (uw K .s 1 eG))(gg:Cl P w K mg base 3 "_law_signed" ["_law_square_here"] (cH K .n 1 cO))(bQ:Cl P w K mg base 1 "_law_take" ["_law_bag_here","_law_many"] (uw K .s 1 b7))(jL:Cl P w K mg base 6 "own_sum" ["square"] (cH K .s 1 dg))(gh:Cl P w K mg base 2 "_law_is_sum" ["_law_found"] (cH K .s 1 dq))(fq:Cl P w K mg base 2 "_law_product" ["_law_one","_law_other"] (cH K .n 2 ci))(cN:Cl P w K mg base 1 "_law_rounds" ["_law_square_here"] (cH K .s 1 bJ)):FnOk P w K mg base oQ 7 f fd ["_law_script"] (cH K .s 1 As):=by
 refine ub (k:=6) F sc_law (by decide) λcdv A outer s H hid E hr=>?_
 exact(ak (cA PassesOwn.never rfl (DIp.e (bj B.b_range (ag ao am))) (ar 1 sc_law.nd) (by refine ak ?_ ?_;(exact(dZ 2 sc_law.nd (be jW (hr.mono (by decide)) (ag (af 0) (ag (af 1) am)))));exact
  (by refine ak ?_ ?_;(exact(by refine QS.ds ?_;refine yU 3 sc_law.nd ?_ (hs:= ?_);(exact(wU (QE.of (kX 2 bQ (hr.mono (by decide)) (DA.gf (ag ao am)))) (by kernel_rfl) (λ_ _=>rfl)));kernel_rfl));exact
  (ak (i9 4 sc_law.nd (kX 2 gr (hr.mono (by decide)) (DA.gf (ag (db (af 3) (dO fF kQ B.b_int (aQ (iP (eD (jA hr.units) mq (af 3) ao (a8 _)) (iC (eD DU eK (af 1) ao (a8 _)))) bf) (hv:=by kernel_rfl))) am))))
  (ak (aM 5 sc_law.nd (DP.toS (be gg (hr.mono (by decide)) (ag (af 4) am))))
  (aw (cA PassesOwn.never rfl (DIp.e (bj B.b_range (ag ao am))) (ar 6 sc_law.nd) (wC 5 λ_=>
  (gP (vi 7 jL (hr.mono (by decide)) (ag (af 4) am) sc_law.nd)
  (gP (gL (lj (j5 (be gh (hr.mono (by decide)) (ag (z6 7) am)))) (aw (aS mU)) dA)
  (gP (aM 8 sc_law.nd (z6 7))
  (gP (cA PassesOwn.never rfl (DIp.e (bj B.b_range (ag (db (aV aI cR B.b_len (aQ (aR aF aN (af 4) ao (λ_ _=>rfl)) bf) (hv:=by kernel_rfl)) (be cN (hr.mono (by decide)) (ag (af 4) am))) am))) (ar 9 sc_law.nd) (aw (aM 8 sc_law.nd (DP.toS (be fq (hr.mono (by decide)) (ag (af 8) (ag (DP.toS (ck (ag (bR (ag (dE ao) (ag (dE ao) am))) (ag (bR (ag ao (ag ao am))) am hU) hU))) am)))))))
  (gP (gL (bP (gu hr.units) jc (af 8) (CV 5) (a8 _)) (aw (aS mU)) dA)
  (wj 7 8 5 (xY 7 zE PySem.F.slot_list_append PySem.F.type_list_append)))))))))))))))
  (aw (aS mU)))
end
def ls:List Nat->(Nat->Int)->Int
 | [],_=>0
 |x::l,f=>f x+ls l f
theorem cm(x:Nat)(l:List Nat)(f:Nat->Int):ls (x::l) f=f x+ls l f:=rfl
theorem aK {f g:Nat->Int}: ∀ {l:List Nat},(∀x∈l,f x=g x)->ls l f=ls l g
 | [],_=>rfl
 |x::l,h=>by unfold ls;rw[h x (List.mem_cons_self ..),aK λy hy=>h y (List.mem_cons_of_mem _ hy)]
theorem cw(f g:Nat->Int): ∀l,ls l (λx=>f x+g x)=ls l f+ls l g
 | []=>rfl
 |x::l=>by simp only[cm];rw[cw f g l];omega
theorem bS(f g:Nat->Int): ∀l,ls l (λx=>f x-g x)=ls l f-ls l g
 | []=>rfl
 |x::l=>by simp only[cm];rw[bS f g l];omega
theorem jz(k:Int)(f:Nat->Int): ∀l,ls l (λx=>k*f x)=k*ls l f
 | []=>by simp[ls]
 |x::l=>by simp only[cm];rw[jz k f l,Int.mul_add]
theorem du(k:Int): ∀l,ls l (λ_=>k)=l.length*k
 | []=>by simp[ls]
 |x::l=>by simp only[cm];rw[du k l,List.length_cons,Int.natCast_succ,Int.add_mul];omega
theorem xp(g:Nat->Nat)(f:Nat->Int): ∀l,ls (l.map g) f=ls l (λx=>f (g x))
 | []=>rfl
 |x::l=>by rw[List.map_cons];unfold ls;rw[xp g f l]
theorem tu {f:Nat->Int}{l m:List Nat}(h:l.Perm m):ls l f=ls m f:=by
 induction h with
 |nil=>rfl
 |cons x _ ih=>unfold ls;rw[ih]
 |swap x y l=>show f y+(f x+ls l f)=f x+(f y+ls l f);omega
 |trans _ _ h1 h2=>rw[h1,h2]
def bi(b:Bool):Int:=if b then 1 else 0
theorem jI(p:Nat->Bool)(f:Nat->Int): ∀l,ls (l.filter p) f=ls l (λx=>bi (p x)*f x)
 | []=>rfl
 |x::l=>by
  have:=jI p f l
  cases h:p x
  ·rw[List.filter_cons_of_neg (by rw[h];decide)];simp only[cm];rw[this,h];simp[bi]
  ·rw[List.filter_cons_of_pos h];simp only[cm];rw[this,h];simp[bi]
theorem sP {f:Nat->Int}{l:List Nat}(h: ∀x∈l,f x=0):ls l f=0:=by
 rw[aK (g:=λ_=>0) h,du];simp
theorem lD {l:List Nat}(nd:l.Nodup){a:Nat}(k:Int)(h:a∈l):ls l (λx=>if x=a then k else 0)=k:=by
 induction l with
 |nil=>exact absurd h (List.not_mem_nil)
 |cons x l ih=>
  simp only[cm];rw[List.nodup_cons] at nd
  by_cases e:x=a
  ·subst e;rw[if_pos rfl,sP (f:=λy=>if y=x then k else 0) λy hy=>if_neg λe:y=x=>nd.1 (e▸hy)];omega
  ·rw[if_neg e,ih nd.2 ((List.mem_cons.mp h).resolve_left (Ne.symm e))];omega
theorem A3 {n a b:Nat}(ha:a<n)(hb:b<n)(ne:a≠b){f g:Nat->Int}(h: ∀i,i<n->i≠a->i≠b->f i=g i):ls (List.range n) f-ls (List.range n) g=(f a-g a)+(f b-g b):=by
 rw[<-bS];rw[aK (g:=λx=>(if x=a then f a-g a else 0)+(if x=b then f b-g b else 0)),cw,lD List.nodup_range _ (List.mem_range.mpr ha),lD List.nodup_range _ (List.mem_range.mpr hb)]
 intro x hx;rw[List.mem_range] at hx
 by_cases e:x=a
 ·subst e;rw[if_pos rfl,if_neg ne];omega
 ·by_cases e2:x=b
  ·subst e2;rw[if_neg e,if_pos rfl];omega
  ·rw[if_neg e,if_neg e2,h x hx e e2];omega
theorem xl {n:Nat}{o:List Nat}(ho:o.length=n)(f:Nat->Int):ls (List.range n) (λc=>f (o.getD c 0))=ls o f:=by
 rw[<-xp (λc=>o.getD c 0)]
 congr 1
 apply List.ext_getElem
 ·rw[List.length_map,List.length_range,ho]
 ·intro i h1 h2
  rw[List.getElem_map,List.getElem_range,List.getD_eq_getElem?_getD,List.getElem?_eq_getElem h2];rfl
theorem nq {n:Nat}{o:List Nat}(O:Ord n o)(f:Nat->Int):ls (List.range n) (λc=>f (o.getD c 0))=ls (List.range n) f:=by
 rw[xl O.len];exact tu O.perm
theorem ny {n s e x:Nat}(hs:s<n)(he:e<n)(hx:x<n):bi (lT n s e x)=bi (decide (s<=x)) -bi (decide (e<=x))+bi (decide (e<s)):=by
 have h:0<n:=by omega
 have m: ∀y:Nat,y<n->((y:Int) -s) % (n:Int)=if s<=y then((y:Int) -s) else((y:Int) -s+n):=λy hy=>by
  split
  ·exact Int.emod_eq_of_lt (by omega) (by omega)
  ·rw[<-Int.add_emod_right];exact Int.emod_eq_of_lt (by omega) (by omega)
 unfold lT;rw[m x hx,m e he];unfold bi;simp only[decide_eq_true_eq];split<;>split<;>(repeat' split)<;>omega
theorem yG {n a:Nat}(h:0<n)(ha:a<n)(b:Nat)(f:Nat->Int):ls (Bd n a b) f=ls (List.range n) (λc=>bi (lT n a b c)*f c):=by
 rw[tu (xN h ha b)];unfold D5;rw[jI]
theorem oq {n a:Nat}(h:0<n)(ha:a<n)(b:Nat):ls (List.range n) (λc=>bi (lT n a b c))=((b:Int) -a) % n:=by
 have:=yG h ha b (λ_=>1)
 rw[du] at this;simp only[Int.mul_one] at this;rw[<-this];unfold Bd;rw[List.length_map,List.length_range];exact(Ed _ h).2
theorem eT {o:List Nat}{a b:Nat}(ha:a<o.length)(hb:b<o.length)(i:Nat):(fD o a b).getD i 0=if i=b then o.getD a 0 else if i=a then o.getD b 0 else o.getD i 0:=by
 unfold fD;simp only[List.getD_eq_getElem?_getD,List.getElem?_set]
 by_cases e:i=b
 ·subst e;rw[if_pos rfl,if_pos (by rw[List.length_set];exact hb),if_pos rfl];rfl
 ·rw[if_neg (Ne.symm e),if_neg e]
  by_cases e2:i=a
  ·subst e2;rw[if_pos rfl,if_pos ha,if_pos rfl];rfl
  ·rw[if_neg (Ne.symm e2),if_neg e2]
theorem lP {o:List Nat}{n a b:Nat}(ho:o.length=n)(ha:a<n)(hb:b<n)(ne:a≠b)(g:Nat->Nat->Int):
 ls (List.range n) (λi=>g i (o.getD i 0)) -ls (List.range n) (λi=>g i ((fD o a b).getD i 0))=g a (o.getD a 0)+g b (o.getD b 0) -g a (o.getD b 0) -g b (o.getD a 0):=by
 rw[A3 ha hb ne (f:=λi=>g i (o.getD i 0)) (g:=λi=>g i ((fD o a b).getD i 0)) λi _ h1 h2=>by rw[eT (ho▸ha) (ho▸hb),if_neg h2,if_neg h1]]
 simp only[eT (ho▸ha:a<o.length) (ho▸hb:b<o.length)];rw[if_neg ne];simp only[if_true];omega
theorem gJ(x y:Bool):bi (x&&y)=bi x*bi y:=by cases x<;>cases y<;>rfl
theorem eg(a b:Nat):bi (decide (a<b))=1-bi (decide (b<=a)):=by
 unfold bi;simp only[decide_eq_true_eq];split<;>split<;>omega
def u3(n:Nat)(r o:List Nat):Int:=ls (List.range n) λi=>ls (List.range n) λc=>bi (decide (i<=c)&&decide (o.getD i 0<=r.getD c 0))
def um(n:Nat)(r o:List Nat):Int:=ls (List.range n) λc=>ls (List.range n) λi=>bi (decide (c<i)&&decide (r.getD c 0<o.getD i 0))
def fO(n:Nat)(o:List Nat):Int:=ls (List.range n) λi=>ls (List.range n) λj=>bi (decide (i<j)&&decide (o.getD i 0<o.getD j 0))
def pi(n:Nat)(r o:List Nat)(a b:Nat):Int:=ls (List.range n) λc=>bi (lT n a b c)*bi (lT n (o.getD a 0) (o.getD b 0) (r.getD c 0))
def vV(n:Nat)(o:List Nat)(a b:Nat):Int:=ls (List.range n) λc=>bi (lT n a b c)*bi (decide (c≠a)&&lT n (o.getD a 0) (o.getD b 0) (o.getD c 0))
def uK(n:Nat)(o:List Nat)(a b:Nat):Int:=bi (decide (o.getD b 0<o.getD a 0))*(((b:Int) -a) % n)+bi (decide (b<a))*(((o.getD b 0:Int) -o.getD a 0) % n) -n*(bi (decide (b<a))*bi (decide (o.getD b 0<o.getD a 0)))
section
variable {n a b:Nat}{r o:List Nat}(O:Ord n o)(R:Ord n r)(ha:a<n)(hb:b<n)(ne:a≠b)
include O R ha hb ne
theorem pQ:ls (List.range n) (λc=>(bi (decide (a<=c)) -bi (decide (b<=c)))*(bi (decide (o.getD a 0<=r.getD c 0)) -bi (decide (o.getD b 0<=r.getD c 0))))=pi n r o a b-uK n o a b:=by
 have h:0<n:=by omega
 rw[aK (g:=λc=>((bi (lT n a b c)*bi (lT n (o.getD a 0) (o.getD b 0) (r.getD c 0)) -bi (decide (o.getD b 0<o.getD a 0))*bi (lT n a b c)) -bi (decide (b<a))*bi (lT n (o.getD a 0) (o.getD b 0) (r.getD c 0)))+bi (decide (b<a))*bi (decide (o.getD b 0<o.getD a 0)))]
 ·rw[cw,bS,bS,jz,jz,oq h ha,nq R (λv=>bi (lT n (o.getD a 0) (o.getD b 0) v)),oq h (O.get ha),du,List.length_range]
  unfold pi uK;omega
 ·intro c hc
  rw[List.mem_range] at hc;rw[ny ha hb hc,ny (O.get ha) (O.get hb) (R.get hc)]
  grind
theorem BK:u3 n r o-u3 n r (fD o a b)=pi n r o a b-uK n o a b:=by
 unfold u3;rw[lP O.len ha hb ne (λi u=>ls (List.range n) λc=>bi (decide (i<=c)&&decide (u<=r.getD c 0)))]
 rw[<-pQ O R ha hb ne,<-cw,<-bS,<-bS];refine aK λc _=>?_
 simp only[gJ]
 grind
theorem BI:um n r o-um n r (fD o a b)=pi n r o a b-uK n o a b:=by
 unfold um;rw[<-pQ O R ha hb ne,<-bS];refine aK λc _=>?_
 rw[lP O.len ha hb ne (λi u=>bi (decide (c<i)&&decide (r.getD c 0<u)))]
 simp only[gJ,eg]
 grind
end
section
variable {n a b:Nat}{o:List Nat}(O:Ord n o)(ha:a<n)(hb:b<n)(ne:a≠b)
include O ha hb ne
theorem BB:fO n o-fO n (fD o a b)=1+2*vV n o a b-2*uK n o a b:=by
 have h:0<n:=by omega
 have s1:fO n o- (ls (List.range n) λi=>ls (List.range n) λj=>bi (decide (i<j)&&decide ((fD o a b).getD i 0<o.getD j 0)))=ls (List.range n) λj=>(bi (decide (a<j)) -bi (decide (b<j)))*(bi (decide (o.getD a 0<o.getD j 0)) -bi (decide (o.getD b 0<o.getD j 0))):=by
  unfold fO;rw[lP O.len ha hb ne (λi u=>ls (List.range n) λj=>bi (decide (i<j)&&decide (u<o.getD j 0))),<-cw,<-bS,<-bS]
  refine aK λc _=>?_
  simp only[gJ]
  grind
 have s2:(ls (List.range n) λi=>ls (List.range n) λj=>bi (decide (i<j)&&decide ((fD o a b).getD i 0<o.getD j 0))) -fO n (fD o a b)=ls (List.range n) λi=>(bi (decide (i<a)) -bi (decide (i<b)))*(bi (decide ((fD o a b).getD i 0<o.getD a 0)) -bi (decide ((fD o a b).getD i 0<o.getD b 0))):=by
  unfold fO;rw[<-bS];refine aK λi _=>?_
  rw[lP O.len ha hb ne (λj u=>bi (decide (i<j)&&decide ((fD o a b).getD i 0<u)))]
  simp only[gJ]
  grind
 have s3:fO n o-fO n (fD o a b)=ls (List.range n) λj=>(((2*(bi (lT n a b j)*bi (decide (j≠a)&&lT n (o.getD a 0) (o.getD b 0) (o.getD j 0))) -2*bi (decide (o.getD b 0<o.getD a 0))*bi (lT n a b j)) -2*bi (decide (b<a))*bi (lT n (o.getD a 0) (o.getD b 0) (o.getD j 0)))+2*(bi (decide (b<a))*bi (decide (o.getD b 0<o.getD a 0))))+((if j=a then bi (decide (o.getD b 0<o.getD a 0))+2*bi (decide (b<a)) else 0)+(if j=b then 1-2*bi (decide (b<a)) -bi (decide (o.getD b 0<o.getD a 0)) else 0)):=by
  rw[show fO n o-fO n (fD o a b)=_+_ from(by rw[<-s1,<-s2];omega:_=(ls (List.range n) λj=>(bi (decide (a<j)) -bi (decide (b<j)))*(bi (decide (o.getD a 0<o.getD j 0)) -bi (decide (o.getD b 0<o.getD j 0))))+ls (List.range n) λi=>(bi (decide (i<a)) -bi (decide (i<b)))*(bi (decide ((fD o a b).getD i 0<o.getD a 0)) -bi (decide ((fD o a b).getD i 0<o.getD b 0)))),<-cw]
  refine aK λj hj=>?_
  rw[List.mem_range] at hj;rw[ny ha hb hj,gJ,ny (O.get ha) (O.get hb) (O.get hj),eT (O.len▸ha) (O.len▸hb)];have oab:o.getD a 0≠o.getD b 0:=λe=>ne (O.inj ha hb e)
  by_cases e:j=a
  ·subst e
   rw[if_neg ne,if_pos rfl,if_pos rfl,if_neg ne];unfold bi;simp only[decide_eq_true_eq]
   (repeat' split)<;>first|omega|(exfalso;omega)|simp
  ·by_cases e2:j=b
   ·subst e2
    rw[if_pos rfl,if_neg e,if_pos rfl];unfold bi;simp only[decide_eq_true_eq]
    (repeat' split)<;>first|omega|(exfalso;omega)|simp
   ·rw[if_neg e2,if_neg e,if_neg e,if_neg e2]
    have oa:o.getD j 0≠o.getD a 0:=λx=>e (O.inj hj ha x)
    have ob:o.getD j 0≠o.getD b 0:=λx=>e2 (O.inj hj hb x)
    have q: ∀x y:Nat,y≠x->bi (decide (x<y))=bi (decide (x<=y)):=λx y h=>by
     unfold bi;simp only[decide_eq_true_eq];split<;>split<;>omega
    rw[q _ _ e,q _ _ e2,q _ _ oa,q _ _ ob,eg j a,eg j b,eg (o.getD j 0),eg (o.getD j 0),show decide (j≠a)=true from decide_eq_true e];show _=_;have:bi true=1:=rfl
    rw[this]
    grind
 rw[s3];rw[cw,cw,cw,bS,bS,jz,jz,jz,lD List.nodup_range _ (List.mem_range.mpr ha),lD List.nodup_range _ (List.mem_range.mpr hb),oq h ha,nq O (λv=>bi (lT n (o.getD a 0) (o.getD b 0) v)),oq h (O.get ha),du,List.length_range]
 unfold vV uK
 grind
end
theorem wo(v:Nat): ∀l:List Nat,v∈l-> ∃j,(l.map nI).findIdx? (λd=>cP d (nI v))=some j/\j<l.length/\l.getD j 0=v
 | [],h=>absurd h List.not_mem_nil
 |y::l,h=>by
  rw[List.map_cons,List.findIdx?_cons,kT]
  by_cases e:y=v
  ·exact⟨0,by simp[e],by simp,by simpa using e⟩
  ·obtain⟨j,h1,h2,h3⟩:=wo v l ((List.mem_cons.mp h).resolve_left (Ne.symm e))
   refine⟨j+1,by simp[e,h1],by simp[h2],by simpa using h3⟩
structure Sg(n:Nat)(r x:List Nat)(S:Nat->Nat):Prop where
 ev: ∀y,y<n->km (aA x) (nI (r.getD y 0))=some (nI (S y))
 lt: ∀y,y<n->S y<n
 inj: ∀y z,y<n->z<n->S y=S z->y=z
theorem C2 {n:Nat}{r x:List Nat}(R:Ord n r)(X:Ord n x): ∃S,Sg n r x S:=by
 have h: ∀y,∃z,y<n->km (aA x) (nI (r.getD y 0))=some (nI z)/\z<n/\x.getD z 0=r.getD y 0:=λy=>by
  by_cases hy:y<n
  ·obtain⟨j,h1,h2,h3⟩:=wo (r.getD y 0) x (X.has (R.get hy))
   refine⟨j,λ_=>⟨?_,X.len▸h2,h3⟩⟩
   show(if cv (x.map nI)<=32 then(pG (x.map nI) (nI (r.getD y 0))).map (λj=>D.int j) else none)=_
   rw[if_pos (by rw[jk];omega)]
   unfold pG;rw[h1];rfl
  ·exact⟨0,λq=>absurd q hy⟩
 obtain⟨S,hS⟩:=Classical.skolem.mp h
 exact⟨S,λy hy=>(hS y hy).1,λy hy=>(hS y hy).2.1,λy z hy hz e=>R.inj hy hz ((hS y hy).2.2.symm.trans (e▸(hS z hz).2.2))⟩
theorem gI {n:Nat}{l:List Nat}(nd:l.Nodup)(h: ∀z∈l,z<n):l.length<=n:=by
 have p:l.Perm ((List.range n).filter λz=>decide (z∈l)):=(List.perm_ext_iff_of_nodup nd (List.Pairwise.filter _ List.nodup_range)).mpr λz=>by
  rw[List.mem_filter,List.mem_range,decide_eq_true_eq];exact⟨λq=>⟨h z q,q⟩,λq=>q.2⟩
 rw[p.length_eq];exact Nat.le_trans (List.length_filter_le _ _) (by simp)
def qD(S:Nat->Nat):Nat->Nat->Nat
 |0,s=>s
 |k+1,s=>S (qD S k s)
def tD(S:Nat->Nat)(s z:Nat):Prop:= ∃k,qD S k s=z
theorem gW(S:Nat->Nat)(s:Nat):tD S s s:=⟨0,rfl⟩
theorem lA {S:Nat->Nat}{s z:Nat}(h:tD S s z):tD S s (S z):=let⟨k,e⟩:=h;⟨k+1,by show S (qD S k s)=_;rw[e]⟩
theorem sF(S:Nat->Nat)(s m:Nat): ∀k,qD S k (qD S m s)=qD S (k+m) s
 |0=>by rw[Nat.zero_add];rfl
 |k+1=>by rw[Nat.succ_add];show S _=S _;rw[sF S s m k]
theorem uS {S:Nat->Nat}{a b c:Nat}(h1:tD S a b)(h2:tD S b c):tD S a c:=by
 obtain⟨m,rfl⟩:=h1
 obtain⟨k,rfl⟩:=h2
 exact⟨k+m,(sF S a m k).symm⟩
structure Wlk(n:Nat)(S:Nat->Nat)(s:Nat)(W:List Nat)(t:Nat):Prop where
 nd:W.Nodup
 lt: ∀z∈W,z<n
 hs:s∈W
 ht:t∈W
 pre: ∀z∈W,z≠s-> ∃y∈W,y≠t/\S y=z
 nxt: ∀z∈W,z≠t->S z∈W
 on: ∀z∈W,tD S s z
 back: ∀z∈W,tD S z t
structure Cyc(n:Nat)(S:Nat->Nat)(s:Nat)(W:List Nat):Prop where
 lt: ∀z∈W,z<n
 mem: ∀z,z∈W↔tD S s z
 back: ∀z,z∈W->tD S z s
section
variable {n:Nat}{r x:List Nat}{S:Nat->Nat}(H:Sg n r x S)
theorem Wlk.start {s:Nat}(hs:s<n):Wlk n S s [s] s:=
 ⟨by simp,λz hz=>by rw[List.mem_singleton] at hz;rw[hz];exact hs,by simp,by simp,λz hz hn=>absurd (List.mem_singleton.mp hz) hn,λz hz hn=>absurd (List.mem_singleton.mp hz) hn,λz hz=>by rw[List.mem_singleton] at hz;rw[hz];exact gW S s,λz hz=>by rw[List.mem_singleton] at hz;rw[hz];exact gW S s⟩
include H
theorem Wlk.notin {s t:Nat}{W:List Nat}(w:Wlk n S s W t)(h:S t≠s):S t∉W:=λhm=>by
 obtain⟨y,y1,y2,y3⟩:=w.pre _ hm h
 exact y2 (H.inj _ _ (w.lt _ y1) (w.lt _ w.ht) y3)
theorem Wlk.next {s t:Nat}{W:List Nat}(w:Wlk n S s W t)(h:S t≠s):Wlk n S s (W++[S t]) (S t):=by
 have hm:=w.notin H h
 have cs: ∀ {P:Nat->Prop},(∀z∈W,P z)->P (S t)-> ∀z∈W++[S t],P z:=λh1 h2 z hz=>(List.mem_append.mp hz).elim (h1 z) λq=>by rw[List.mem_singleton] at q;rw[q];exact h2
 refine⟨List.nodup_append.mpr ⟨w.nd,by simp,λu hu v hv=>by rw[List.mem_singleton] at hv;subst hv;exact λe=>hm (e▸hu)⟩,cs w.lt (H.lt _ (w.lt _ w.ht)),List.mem_append_left _ w.hs,by simp,cs (λz hz hn=>?_) (λ_=>⟨t,List.mem_append_left _ w.ht,λe=>hm (e▸w.ht),rfl⟩),cs (λz hz hn=>?_) (λq=>absurd rfl q),cs w.on (lA (w.on _ w.ht)),cs (λz hz=>lA (w.back z hz)) (gW S _)⟩
 ·obtain⟨y,y1,_,y3⟩:=w.pre z hz hn
  exact⟨y,List.mem_append_left _ y1,λe=>hm (e▸y1),y3⟩
 ·by_cases e:z=t
  ·subst e;simp
  ·exact List.mem_append_left _ (w.nxt z hz e)
omit H in
theorem Wlk.done {s t:Nat}{W:List Nat}(w:Wlk n S s W t)(h:S t=s):Cyc n S s W:=by
 refine⟨w.lt,λz=>⟨w.on z,?_⟩,λz hz=>h▸lA (w.back z hz)⟩
 rintro⟨k,rfl⟩
 induction k with
 |zero=>exact w.hs
 |succ k ih=>
  show S (qD S k s)∈W
  by_cases e:qD S k s=t
  ·rw[e,h];exact w.hs
  ·exact w.nxt _ ih e
theorem Br {s:Nat}(hs:s<n): ∃W,Cyc n S s W:=by
 have go: ∀(f:Nat) (W:List Nat) (t:Nat),n<f+W.length->Wlk n S s W t-> ∃W,Cyc n S s W:=by
  intro f
  induction f with
  |zero=>intro W t h w;exact absurd (gI w.nd w.lt) (by omega)
  |succ f ih=>
   intro W t h w
   by_cases e:S t=s
   ·exact⟨W,w.done e⟩
   ·exact ih (W++[S t]) (S t) (by rw[List.length_append,List.length_singleton];omega) (w.next H e)
 exact go (n+1) [s] s (by omega) (Wlk.start hs)
theorem v8 {s z:Nat}(hs:s<n)(h:tD S s z):tD S z s:=by
 obtain⟨W,c⟩:=Br H hs
 exact c.back z ((c.mem z).mpr h)
end
def led(S:Nat->Nat)(s:Nat):Prop:= ∀z,tD S s z->s<=z
noncomputable def eO(S:Nat->Nat)(s:Nat):Bool:= @decide (led S s) (Classical.propDecidable _)
theorem ledB_iff {S:Nat->Nat}{s:Nat}:eO S s=true↔led S s:=by unfold eO;exact @decide_eq_true_iff _ (Classical.propDecidable _)
theorem wc {n:Nat}{r x:List Nat}{S:Nat->Nat}(H:Sg n r x S){c:Nat}{l W:List Nat}(hl:(c::l).Pairwise (·< ·))(lt: ∀z∈c::l,z<n)(cl: ∀z∈c::l,S z∈c::l)(C:Cyc n S c W):
 ((c::l).filter (eO S)).length=(((c::l).filter λz=>decide (z∉W)).filter (eO S)).length+1
 /\(∀z∈(c::l).filter (λz=>decide (z∉W)),S z∈(c::l).filter (λz=>decide (z∉W)))
 /\((c::l).filter λz=>decide (z∉W)).length<=l.length:=by
 have hc:c<n:=lt c (List.mem_cons_self ..)
 have rl: ∀z,tD S c z->z∈c::l:=by
  rintro z ⟨k,rfl⟩
  induction k with
  |zero=>exact List.mem_cons_self ..
  |succ k ih=>exact cl _ ih
 have cW:c∈W:=(C.mem c).mpr (gW S c)
 have p:=List.pairwise_cons.mp hl
 have lc:led S c:=λz hz=>(List.mem_cons.mp (rl z hz)).elim (λe=>by omega) λq=>by have:=p.1 z q;omega
 have e1:(c::l).filter (λz=>decide (z∉W))=l.filter λz=>decide (z∉W):=List.filter_cons_of_neg (by simpa using cW)
 refine⟨?_,λz hz=>?_,?_⟩
 ·rw[e1,List.filter_cons_of_pos (ledB_iff.mpr lc),List.length_cons,List.filter_filter]
  congr 1
  refine congrArg List.length (List.filter_congr λz hz=>?_)
  cases e:eO S z
  ·rfl
  ·rw[Bool.true_and]
   symm
   rw[decide_eq_true_eq];intro zW;have h1:=ledB_iff.mp e c (C.back z zW)
   have:=p.1 z hz
   omega
 ·rw[List.mem_filter,decide_eq_true_eq] at hz⊢
  refine⟨cl z hz.1,λq=>hz.2 ?_⟩
  rw[C.mem] at q⊢;exact uS q (v8 H (lt z hz.1) ⟨1,rfl⟩)
 ·rw[e1];exact List.length_filter_le _ _
theorem Eu {c:Nat}: ∀ {l:List Nat},c∈l->l.Nodup->vn (l.map nI) [nI c]=some (.non,(l.filter λz=>decide (z≠c)).map nI):=by
 have intq: ∀l:List Nat,fL (l.map nI)=some (l.map λ(z:Nat)=>(z:Int)):=by
  intro l
  induction l with
  |nil=>rfl
  |cons z l ih=>rw[List.map_cons];show(fL (l.map nI)).map _=_;rw[ih];rfl
 have go: ∀l:List Nat,c∈l->l.Nodup-> ∃j,(l.map λ(z:Nat)=>(z:Int)).findIdx? (λm=>m==(c:Int))=some j/\(l.map nI).eraseIdx j=(l.filter λz=>decide (z≠c)).map nI:=by
  intro l
  induction l with
  |nil=>intro h;exact absurd h List.not_mem_nil
  |cons y l ih=>
   intro h nd;rw[List.nodup_cons] at nd
   by_cases e:y=c
   ·subst e
    refine⟨0,by rw[List.map_cons,List.findIdx?_cons];simp,?_⟩
    rw[List.map_cons,List.eraseIdx_cons_zero,List.filter_cons_of_neg (by simp)]
    rw[List.filter_eq_self.mpr];intro z hz;rw[decide_eq_true_eq];exact λe=>nd.1 (e▸hz)
   ·obtain⟨j,h1,h2⟩:=ih ((List.mem_cons.mp h).resolve_left (Ne.symm e)) nd.2
    refine⟨j+1,?_,?_⟩
    ·rw[List.map_cons,List.findIdx?_cons,h1,if_neg (by simpa using λq:(y:Int)=c=>e (by omega))];rfl
    ·rw[List.map_cons,List.eraseIdx_cons_succ,h2,List.filter_cons_of_pos (by simpa using e),List.map_cons]
 intro l h nd;obtain⟨j,h1,h2⟩:=go l h nd
 show(match fL (l.map nI) with
  |some ns=>(ns.findIdx? (λm=>m==(c:Int))).map λj=>(D.non,(l.map nI).eraseIdx j)
  |none=>none)=_
 rw[intq];dsimp only;rw[h1,Option.map_some,h2]
theorem lG {p:FT}{t:FS}{ρ:aC}(h:p ρ=some false):fw p t skip ρ=.nx ρ:=(z9 h).trans rfl
theorem oD {p q:FT}{ρ:aC}{a b:Bool}(h1:p ρ=some a)(h2:q ρ=some b):rY p q ρ=some (a||b):=by
 cases a with
 |true=>exact DY h1
 |false=>exact Bh h1 h2
theorem Dw {p:FT}{f g:FE}{ρ:aC}(h:p ρ=some true):zU p f g ρ=f ρ:=by unfold zU;rw[h];rfl
theorem Dj {p:FT}{f g:FE}{ρ:aC}(h:p ρ=some false):zU p f g ρ=g ρ:=by unfold zU;rw[h];rfl
theorem dM {f:FE}{ρ:aC}{ds:List D}(h:f ρ=some (.lst ds)):bY f ρ=some ds:=by unfold bY;rw[h];rfl
theorem Ord.exM {n:Nat}{o:List Nat}(O:Ord n o){a b:Nat}(ha:a<n)(hb:b<n):Ord n (fD o a b):=⟨(swap_perm o a b (by rw[O.len];exact ha) (by rw[O.len];exact hb)).trans O.perm⟩
structure Gd(n:Nat)(r x:List Nat):Prop where
 R:Ord n r
 X:Ord n x
 lo:2<=n
 hi:n<=6
set_option maxHeartbeats 1000000
def mh:FS:=
 ax (gF 2 (aO 0 1 cZ (b8 (aa (ay (.int 4)) (ah)))))
 (ax (gF 3 (jl aZ (pu (ay (.int 1))) (aO 0 1 cZ (b8 (aa (al cD (ai 1) (ay (.int 1))) (ah))))))
 (ax (gF 4 (aO 0 1 fK (b8 (aa (ai 1) (ah)))))
 (ax (rh 5 (aO 0 1 fK (b8 (aa (ai 1) (ah)))))
 (ax (fw (bb (al lU (ai 2) (ay (.int 1)))) (ax (aJ 4 (xK (ai 1)))
 (ce 5 (aY 1 (bY (ai 4)) (gN 8) (cF) (al bp (al aZ (ai 8) (ai 3)) (ai 1))))) (skip))
 (ax (cz (b8 (bq (aa (ai 1) (ah)))) (gN 6) (ax (aJ 7 (al bp (al aZ (ai 6) (ay (.int 1))) (ai 1)))
 (fw (bb (al lU (al aT (cS 5) (ai 6)) (al aT (ai 4) (ai 6)))) (dm (gT 2 (bL (dC 5 (ai 6)) (bL (dC 5 (ai 7)) (eC)))) (pu (a7 (aa (al aT (cS 5) (ai 7)) (aa (al aT (cS 5) (ai 6)) (ah)))))) (skip))))
 (aX (a7 (aa (aj gR (aa (ai 4) (ah))) (aa (aj gR (aa (cS 5) (ah))) (ah))))))))))
def my:List D->List D->Option (D×List D):=vc .s 8 mh
theorem ss {N:Nat}{a b:Int}(B:Bag N a b){n:Nat}(h2:2<=n)(h6:n<=6)(hN:N<=800000000): ∃(r x:List Nat) (a' b':Int),my (aW a b) [nI n]=some (bO r x,aW a' b')/\Sq n r x/\Bag (N+2*n+2) a' b':=by
 obtain⟨p,a1,b1,e1,B1,p0,p1⟩:=kH (m:=4) B (by omega) (by decide) (by decide)
 obtain⟨q,a2,b2,e2,B2,q0,q1⟩:=kH (m:=(n:Int) -1) B1 (by omega) (by omega) (Nat.lt_of_lt_of_le (show((n:Int) -1).natAbs<10^10 by omega) (by decide))
 obtain⟨r,a3,b3,e3,or,B3⟩:=pj B2 (n:=n) (by omega) (by omega)
 obtain⟨x,a4,b4,e4,ox,B4⟩:=pj B3 (n:=n) (by omega) (by omega)
 obtain⟨q',rfl⟩: ∃j:Nat,q=(j:Int):=⟨q.toNat,by omega⟩
 have r0:nE 8 (aW a b) [nI n]=[.arg (aW a b),.v (nI n),.no,.no,.no,.no,.no,.no]:=rfl
 have s1:gF 2 (aO 0 1 cZ (b8 (aa (ay (.int 4)) (ah)))) [.arg (aW a b),.v (nI n),.no,.no,.no,.no,.no,.no]=.nx [.arg (aW a1 b1),.v (nI n),.v (.int p),.no,.no,.no,.no,.no]:=
  (i7 (cY (i:=0) (n:=1) (b0:=aW a b) (ds:=[.int 4]) rfl (br rfl) rfl rfl e1)).trans rfl
 have s2:gF 3 (jl aZ (pu (ay (.int 1))) (aO 0 1 cZ (b8 (aa (al cD (ai 1) (ay (.int 1))) (ah))))) [.arg (aW a1 b1),.v (nI n),.v (.int p),.no,.no,.no,.no,.no]=.nx [.arg (aW a2 b2),.v (nI n),.v (.int p),.v (nI (q'+1)),.no,.no,.no,.no]:=
  (i7 (tF (kr rfl) (cY (i:=0) (n:=1) (b0:=aW a1 b1) (ds:=[.int ((n:Int) -1)]) rfl (br rfl) rfl rfl e2) (show aZ (.int 1) (nI q')=some (nI (q'+1)) by rw[b6];simp;omega))).trans rfl
 have s3:gF 4 (aO 0 1 fK (b8 (aa (ai 1) (ah)))) [.arg (aW a2 b2),.v (nI n),.v (.int p),.v (nI (q'+1)),.no,.no,.no,.no]=.nx [.arg (aW a3 b3),.v (nI n),.v (.int p),.v (nI (q'+1)),.v (.lst (r.map nI)),.no,.no,.no]:=
  (i7 (cY (i:=0) (n:=1) (b0:=aW a2 b2) (ds:=[nI n]) rfl (br rfl) rfl rfl e3)).trans rfl
 have s4:rh 5 (aO 0 1 fK (b8 (aa (ai 1) (ah)))) [.arg (aW a3 b3),.v (nI n),.v (.int p),.v (nI (q'+1)),.v (.lst (r.map nI)),.no,.no,.no]=.nx [.arg (aW a4 b4),.v (nI n),.v (.int p),.v (nI (q'+1)),.v (.lst (r.map nI)),.own (x.map nI),.no,.no]:=
  (yu (cY (i:=0) (n:=1) (b0:=aW a3 b3) (ds:=[nI n]) rfl (br rfl) rfl rfl e4)).trans rfl
 have s5: ∃(r' x':List Nat),fw (bb (al lU (ai 2) (ay (.int 1)))) (ax (aJ 4 (xK (ai 1)))
  (ce 5 (aY 1 (bY (ai 4)) (gN 8) (cF) (al bp (al aZ (ai 8) (ai 3)) (ai 1))))) (skip) [.arg (aW a4 b4),.v (nI n),.v (.int p),.v (nI (q'+1)),.v (.lst (r.map nI)),.own (x.map nI),.no,.no]=.nx [.arg (aW a4 b4),.v (nI n),.v (.int p),.v (nI (q'+1)),.v (.lst (r'.map nI)),.own (x'.map nI),.no,.no]/\Ord n r'/\Ord n x':=by
  unfold fw bb;rw[au (x:=.int p) (y:=.int 1) rfl rfl,iR (by rw[cq];omega),eU]
  by_cases hp:p=1
  ·refine⟨List.range n,(List.range n).map λi=>(i+(q'+1)) % n,?_,⟨.refl _⟩,yN n h2 h6 (q'+1) (by omega) (by omega)⟩
   rw[decide_eq_true hp];simp only[rF];rw[az ((bc (vE (n:=n) (by omega) (ai 1) _ rfl)).trans rfl)]
   refine(dW (cy (ds:=(List.range n).map nI) (ys:=(List.range n).map λi=>nI ((i+(q'+1)) % n)) rfl (by simp;omega) (cg _ λi hi=>⟨_,rfl,?_⟩))).trans ?_
   ·exact(au ((au (x:=nI i) (y:=nI (q'+1)) rfl rfl).trans (EQ _ _)) (y:=nI n) rfl).trans (DX (by omega))
   ·rw[List.map_map];rfl
  ·refine⟨r,x,?_,or,ox⟩
   rw[decide_eq_false hp];simp only[rF,skip]
 obtain⟨r',x',s5,or',ox'⟩:=s5
 obtain⟨x2,t6,t7,lp,ox2,hne⟩:=Ae (aW a4 b4) (.int p) (nI (q'+1)) or' h2 n 0 x' .no .no (by omega) ox' (λi h=>absurd h (Nat.not_lt_zero _))
 have s6:cz (b8 (bq (aa (ai 1) (ah)))) (gN 6) ua [.arg (aW a4 b4),.v (nI n),.v (.int p),.v (nI (q'+1)),.v (.lst (r'.map nI)),.own (x'.map nI),.no,.no]=.nx [.arg (aW a4 b4),.v (nI n),.v (.int p),.v (nI (q'+1)),.v (.lst (r'.map nI)),.own (x2.map nI),t6,t7]:=by
  unfold cz;rw[br (cf (n:=n) rfl (by omega))]
  dsimp only;rw[List.range_eq_range'];exact lp
 refine⟨r',x2,a4,b4,?_,⟨or',ox2,hne⟩,by rw[show N+2*n+2=N+1+1+n+n by omega];exact B4⟩
 unfold my vc mh;rw[r0,az s1,az s2,az s3,az s4,az s5];rw[az s6];have s7:aX (a7 (aa (aj gR (aa (ai 4) (ah))) (aa (aj gR (aa (cS 5) (ah))) (ah)))) [.arg (aW a4 b4),.v (nI n),.v (.int p),.v (nI (q'+1)),.v (.lst (r'.map nI)),.own (x2.map nI),t6,t7]=.rt (bO r' x2) [.arg (aW a4 b4),.v (nI n),.v (.int p),.v (nI (q'+1)),.v (.lst (r'.map nI)),.own (x2.map nI),t6,t7]:=by
  unfold aX;rw[bB (ds:=[aA r',aA x2]) rfl (by simp)]
 rw[s7];rfl
theorem gK {g:FG}{b:FS}{P:Nat->aC->Prop}: ∀(l:List D) (j:Nat),(∀d∈l,∀i ρ,i<j+l.length->P i ρ-> ∃ρ1 ρ2,g d ρ=some ρ1/\b ρ1=.nx ρ2/\P (i+1) ρ2)-> ∀ρ,P j ρ-> ∃ρ',dv g b l ρ=.nx ρ'/\P (j+l.length) ρ'
 | [],j,_,ρ,p=>⟨ρ,rfl,p⟩
 |d::l,j,h,ρ,p=>by
  obtain⟨ρ1,ρ2,h1,h2,p2⟩:=h d (List.mem_cons_self ..) j ρ (by rw[List.length_cons];omega) p
  obtain⟨ρ',e,p'⟩:=gK l (j+1) (λd' hd i ρ hi=>h d' (List.mem_cons_of_mem _ hd) i ρ (by rw[List.length_cons];omega)) ρ2 p2
  exact⟨ρ',(cj h1 h2).trans e,by rw[List.length_cons,Nat.add_comm l.length 1,<-Nat.add_assoc];exact p'⟩
set_option maxHeartbeats 4000000
def vD:FS:=
 aX (kK (dw (bb (lY "int" (ai 0))) (bb (kK (gd (bb (lY "bool" (ai 0))))))))
def pq:List D->Option D:=fu .s 1 vD
def nG:FS:=
 ax (pZ 1)
 (ax (cz (b8 (bY (ai 0))) (gT 2 (bL (gN 2) (bL (gN 3) (eC)))) (ka 1 (ai 2) (al aZ (j8 1 (ai 2) (ay (.int 0))) (ai 3))))
 (aX (aY 1 (bY (mL 1)) (gN 4) (bb (al iF (l7 1 (ai 4)) (ay (.int 0)))) (a7 (aa (ai 4) (aa (l7 1 (ai 4)) (ah)))))))
def sT:List D->Option D:=fu .n 4 nG
def jN:FS:=
 ax (fw (gd (fY (lY "list" (ai 0)))) (aX (ay (.bl false))) (skip))
 (ax (cz (b8 (bY (ai 0))) (gN 1) (fw (rY (gd (fY (lY "tuple" (ai 1)))) (rY (bb (al iF (aj bX (aa (ai 1) (ah))) (ay (.int 2)))) (rY (gd (fY (aj (nF 1 pq) (aa (al aT (ai 1) (ay (.int 0))) (ah))))) (gd (fY (aj (nF 1 pq) (aa (al aT (ai 1) (ay (.int 1))) (ah)))))))) (aX (ay (.bl false))) (skip)))
 (aX (kK (dw (bb (aj sx (aa (aY 1 (bY (ai 0)) (gN 2) (cF) (al iF (al aT (ai 2) (ay (.int 1))) (ay (.int 0)))) (ah)))) (bb (aj sx (aa (aY 2 (rH (ai 0) (sk (ai 0) (BQ (ay (.int 1))) Cp)) (gT 2 (bL (gN 2) (bL (gN 3) (eC)))) (cF) (al j7 (al aT (ai 2) (ay (.int 0))) (al aT (ai 3) (ay (.int 0))))) (ah))))))))
def uH:List D->Option D:=fu .s 2 jN
abbrev pD(p:Int×Int):D:=.tup [.int p.1,.int p.2]
def vI(kvs:List (Int×Int))(k:Int):Int:=((kvs.find? λq=>decide (q.1=k)).map (·.2)).getD 0
def jw(kvs:List (Int×Int))(k v:Int):List (Int×Int):=if(kvs.any λq=>decide (q.1=k))=true then kvs.map (λq=>if q.1=k then(q.1,v) else q) else kvs++[(k,v)]
def gD(kvs:List (Int×Int))(p:Int×Int):List (Int×Int):=jw kvs p.1 (vI kvs p.1+p.2)
def jY(L:List (Int×Int)):List (Int×Int):=L.foldl gD []
abbrev kC(kvs:List (Int×Int)):List (bv×D):=kvs.map λq=>(Sum.inl q.1,D.int q.2)
theorem sL(a b:Int):decide ((Sum.inl a:bv)=Sum.inl b)=decide (a=b):=by
 by_cases h:a=b
 ·subst h;simp
 ·rw[decide_eq_false h,decide_eq_false λe=>h (Sum.inl.inj e)]
theorem m9(k:Int): ∀kvs:List (Int×Int),kA (kC kvs) (.inl k)=(kvs.find? λq=>decide (q.1=k)).map λq=>D.int q.2
 | []=>rfl
 |q::r=>by
  have ih:=m9 k r
  unfold kA at ih⊢;rw[show kC (q::r)=(Sum.inl q.1,D.int q.2)::kC r from rfl,List.find?_cons,List.find?_cons];dsimp only;rw[sL]
  by_cases h:q.1=k
  ·rw[decide_eq_true h];rfl
  ·rw[decide_eq_false h];exact ih
theorem Bl(k:Int)(kvs:List (Int×Int)):((kC kvs).any λkv=>decide (kv.1=Sum.inl k))=kvs.any λq=>decide (q.1=k):=by
 rw[List.any_map];congr 1
 funext q;exact sL _ _
theorem zl(k v:Int)(kvs:List (Int×Int)):putD (kC kvs) (.inl k) (.int v)=kC (jw kvs k v):=by
 unfold putD jw;rw[Bl];split
 ·show List.map _ (List.map _ kvs)=List.map _ (List.map _ kvs)
  rw[List.map_map,List.map_map];refine List.map_congr_left λq _=>?_
  show(if(Sum.inl q.1:bv)=Sum.inl k then _ else _)=_
  by_cases h:q.1=k
  ·rw[if_pos (by rw[h])];show _=((λq=>(Sum.inl q.1,D.int q.2)) (if q.1=k then(q.1,v) else q):bv×D);rw[if_pos h]
  ·rw[if_neg λe=>h (Sum.inl.inj e)];show _=((λq=>(Sum.inl q.1,D.int q.2)) (if q.1=k then(q.1,v) else q):bv×D);rw[if_neg h]
 ·show _=List.map _ (kvs++[(k,v)])
  rw[List.map_append];rfl
theorem ul: ∀kvs:List (Int×Int),ge (kC kvs)=some (kvs.map (·.1))
 | []=>rfl
 |q::r=>by show(ge (kC r)).map (q.1:: ·)=_;rw[ul r];rfl
theorem pK(kvs:List (Int×Int))(k v:Int):(jw kvs k v).length<=kvs.length+1:=by
 unfold jw;split
 ·rw[List.length_map];omega
 ·rw[List.length_append];simp
theorem lb: ∀(L kvs:List (Int×Int)),(L.foldl gD kvs).length<=kvs.length+L.length
 | [],kvs=>by simp
 |p::L,kvs=>by
  rw[List.foldl_cons];have h1:=lb L (gD kvs p)
  have h2:=pK kvs p.1 (vI kvs p.1+p.2)
  have h3:(gD kvs p).length<=kvs.length+1:=h2
  rw[List.length_cons];omega
theorem j4(kvs:List (Int×Int))(k v:Int):(jw kvs k v).map (·.1)=if k∈kvs.map (·.1) then kvs.map (·.1) else kvs.map (·.1)++[k]:=by
 have e:(kvs.any λq=>decide (q.1=k))=decide (k∈kvs.map (·.1)):=by
  rw[Bool.eq_iff_iff,List.any_eq_true,decide_eq_true_eq,List.mem_map];constructor
  ·rintro⟨q,h1,h2⟩;exact⟨q,h1,by simpa using h2⟩
  ·rintro⟨q,h1,h2⟩;exact⟨q,h1,by simpa using h2⟩
 unfold jw;rw[e]
 by_cases h:k∈kvs.map (·.1)
 ·rw[if_pos (decide_eq_true h),if_pos h,List.map_map]
  refine List.map_congr_left λq _=>?_
  show(if q.1=k then(q.1,v) else q).1=q.1
  split<;>rfl
 ·rw[if_neg (by rw[decide_eq_false h];simp),if_neg h,List.map_append];rfl
theorem kG: ∀(L kvs:List (Int×Int)),(kvs.map (·.1)).Nodup->((L.foldl gD kvs).map (·.1)).Nodup
 | [],kvs,h=>h
 |p::L,kvs,h=>by
  rw[List.foldl_cons];refine kG L _ ?_
  show((jw kvs p.1 (vI kvs p.1+p.2)).map (·.1)).Nodup
  rw[j4];split
  ·exact h
  ·rename_i hn
   rw[List.nodup_append];exact⟨h,by simp,λa ha b hb e=>by rw[List.mem_singleton.mp hb] at e;exact hn (e▸ha)⟩
theorem kc {k:Int}: ∀ {kvs:List (Int×Int)},k∈kvs.map (·.1)->(kvs.find? λq=>decide (q.1=k)).map (λq=>D.int q.2)=some (.int (vI kvs k))
 | [],h=>nomatch h
 |q::r,h=>by
  unfold vI;rw[List.find?_cons]
  by_cases e:q.1=k
  ·rw[decide_eq_true e];rfl
  ·rw[decide_eq_false e]
   have:k∈r.map (·.1):=by
    rw[List.map_cons] at h;rcases List.mem_cons.mp h with h|h
    ·exact absurd h.symm e
    ·exact h
   exact kc this
def cc(L:List (Int×Int)):List (Int×Int):=((bN jj ((jY L).map (·.1))).filter λp=> !decide (vI (jY L) p=0)).map λp=>(p,vI (jY L) p)
def SumI(S:List (Int×Int)):Prop:=(∀p∈S,p.2≠0)/\S.Pairwise λp q=>p.1<q.1
theorem xP {l:List Int}(nd:l.Nodup):(bN jj l).Pairwise (·< ·):=by
 have h1:=jy BV l
 have h2:(bN jj l).Nodup:=(bM (lt:=jj) l).nodup_iff.mpr nd
 have:=List.pairwise_and_iff.mpr ⟨h1,h2⟩
 refine this.imp λ{a b} ⟨q1,q2⟩=>?_
 simp only[jj,decide_eq_false_iff_not] at q1;have q2:a≠b:=q2
 omega
theorem gS(L:List (Int×Int)):SumI (cc L):=by
 refine⟨λp hp=>?_,?_⟩
 ·obtain⟨k,hk,rfl⟩:=List.mem_map.mp hp
  have:=(List.mem_filter.mp hk).2
  simpa using this
 ·unfold cc
  rw[List.pairwise_map];exact(xP (kG L [] List.nodup_nil)).filter _
theorem xE(L:List (Int×Int)):(cc L).length<=L.length:=by
 unfold cc;rw[List.length_map];refine Nat.le_trans (List.length_filter_le _ _) ?_
 rw[(bM (lt:=jj) _).length_eq,List.length_map];have:=lb L []
 simpa [jY] using this
theorem mk(src:D): ∀(L kvs:List (Int×Int)) (s2 s3:Sl),kvs.length+L.length<=900-> ∃s2' s3',dv (gT 2 (bL (gN 2) (bL (gN 3) (eC)))) (ka 1 (ai 2) (al aZ (j8 1 (ai 2) (ay (.int 0))) (ai 3))) (L.map pD) [.v src,.ob (.dK (kC kvs)),s2,s3]=.nx [.v src,.ob (.dK (kC (L.foldl gD kvs))),s2',s3']
 | [],kvs,s2,s3,_=>⟨s2,s3,rfl⟩
 |p::L,kvs,s2,s3,h=>by
  rw[List.length_cons] at h;have hl:(gD kvs p).length<=kvs.length+1:=pK _ _ _
  obtain⟨s2',s3',ih⟩:=mk src L (gD kvs p) (.v (.int p.1)) (.v (.int p.2)) (by omega)
  refine⟨s2',s3',?_⟩
  rw[List.map_cons,List.foldl_cons];have gt:j8 1 (ai 2) (ay (.int 0)) [.v src,.ob (.dK (kC kvs)),.v (.int p.1),.v (.int p.2)]=some (.int (vI kvs p.1)):=by
   show some ((kA (kC kvs) (Sum.inl p.1)).getD (.int 0))=_;rw[m9];unfold vI;cases kvs.find? λq=>decide (q.1=p.1)<;>rfl
  have st:ka 1 (ai 2) (al aZ (j8 1 (ai 2) (ay (.int 0))) (ai 3)) [.v src,.ob (.dK (kC kvs)),.v (.int p.1),.v (.int p.2)]=.nx [.v src,.ob (.dK (kC (gD kvs p))),.v (.int p.1),.v (.int p.2)]:=by
   have e:al aZ (j8 1 (ai 2) (ay (.int 0))) (ai 3) [.v src,.ob (.dK (kC kvs)),.v (.int p.1),.v (.int p.2)]=some (.int (vI kvs p.1+p.2)):=(au gt (y:=.int p.2) rfl).trans (b6 _ _)
   unfold ka;rw[e];show(if(kC kvs).length<=1000 then Out.nx [.v src,.ob (.dK (putD (kC kvs) (Sum.inl p.1) (.int (vI kvs p.1+p.2)))),.v (.int p.1),.v (.int p.2)] else .no)=_
   rw[if_pos (by rw[List.length_map];omega),zl];rfl
  exact(cj (ρ1:=[.v src,.ob (.dK (kC kvs)),.v (.int p.1),.v (.int p.2)]) rfl st).trans ih
theorem fM(L:List (Int×Int))(hl:L.length<=800)(hf:(jY L).length<64):sT [.lst (L.map pD)]=some (.lst ((cc L).map pD)):=by
 apply fB (kd:=.n) (n:=4) (t:=nG)
 unfold nG;have s0:pZ 1 (eR 4 [.lst (L.map pD)])=.nx [.v (.lst (L.map pD)),.ob (.dK (kC [])),.no,.no]:=rfl
 rw[az s0];obtain⟨s2,s3,lp⟩:=mk (.lst (L.map pD)) L [] .no .no (by simp;omega)
 rw[az ((c4 (ds:=L.map pD) (br (dM rfl))).trans lp)];refine⟨_,bo ?_⟩
 show aY 1 (bY (mL 1)) (gN 4) (bb (al iF (l7 1 (ai 4)) (ay (.int 0)))) (a7 (aa (ai 4) (aa (l7 1 (ai 4)) (ah)))) [.v (.lst (L.map pD)),.ob (.dK (kC (jY L))),s2,s3]=_;have so:mL 1 [.v (.lst (L.map pD)),.ob (.dK (kC (jY L))),s2,s3]=some (.lst ((bN jj ((jY L).map (·.1))).map D.int)):=by
  show((ge (kC (jY L))).bind λns=>if ns.length<64 then some (D.lst ((bN jj ns).map D.int)) else none)=_
  rw[ul,Option.bind_some,if_pos (by rw[List.length_map];omega)]
 have sl:(bN jj ((jY L).map (·.1))).length=(jY L).length:=by rw[(bM (lt:=jj) _).length_eq,List.length_map]
 refine(cy (ds:=(bN jj ((jY L).map (·.1))).map D.int) (dM so) (by rw[List.length_map,sl];omega) (jE (h:=D.int) (o:=λp=>pD (p,vI (jY L) p)) (q:=λp=> !decide (vI (jY L) p=0)) (bN jj ((jY L).map (·.1))) λp hp=>?_)).trans (by unfold cc;rw[List.map_map];rfl)
 have hm:p∈(jY L).map (·.1):=(bM (lt:=jj) _).mem_iff.mp hp
 have ix:l7 1 (ai 4) [.v (.lst (L.map pD)),.ob (.dK (kC (jY L))),s2,s3,.v (.int p)]=some (.int (vI (jY L) p)):=by
  show kA (kC (jY L)) (Sum.inl p)=_;rw[m9,kc hm]
 refine⟨[.v (.lst (L.map pD)),.ob (.dK (kC (jY L))),s2,s3,.v (.int p)],rfl,bZ ((au ix (y:=.int 0) rfl).trans (by rw[jq (by rw[cq];omega),eU])),λ_=>bB (aq rfl (aq ix rfl)) (by simp)⟩
theorem wW(L:List (Int×Int))(hl:L.length<64):sT [.lst (L.map pD)]=some (.lst ((cc L).map pD)):=
 fM L (by omega) (Nat.lt_of_le_of_lt (by have:=lb L [];simpa [jY] using this) hl)
theorem CY(ds:List D):rO ds (some 1) none=ds.drop 1:=by
 unfold rO;rw[HT.sIx_none,show(some (1:Int))=some ((1:Nat):Int) from rfl,HT.sIx_nat];cases ds with
 |nil=>rfl
 |cons x r=>
  rw[show min 1 (x::r).length=1 by simp,List.drop_succ_cons,List.drop_zero]
  rw[List.take_of_length_le (by simp)]
theorem yb {S:List (Int×Int)}(h:SumI S)(hl:S.length<=900):uH [.lst (S.map pD)]=some (.bl true):=by
 apply fB (kd:=.s) (n:=2) (t:=jN)
 unfold jN;rw[az (lG (lH (b:=true) (k7 rfl)))];refine vS (λρ=> ∃s1,ρ=[.v (.lst (S.map pD)),s1]) (m5 (ds:=S.map pD) (br (dM rfl)) (kJ _ (λd hd ρ hρ=>?_) _ ⟨_,rfl⟩)) λρ' hρ'=>?_
 ·obtain⟨p,hp,rfl⟩:=List.mem_map.mp hd
  obtain⟨s1,rfl⟩:=hρ
  refine⟨_,[.v (.lst (S.map pD)),.v (pD p)],rfl,lG (oD (a:=false) (b:=false) (lH (b:=true) (k7 rfl)) (oD (a:=false) (b:=false) (bZ ?_) (oD (a:=false) (b:=false) (lH (b:=true) (k7 rfl)) (lH (b:=true) (k7 rfl))))),⟨_,rfl⟩⟩
  exact(au (x:=.int 2) (y:=.int 2) rfl rfl).trans (ol (by rw[cq];omega))
 ·obtain⟨s1,rfl⟩:=hρ'
  refine⟨_,bo (qW (sA (bZ ?_) (bZ ?_)))⟩
  ·refine(cx (ds:=[.lst ((S.map λ_=>true).map D.bl)]) (aq (cy (ds:=S.map pD) (dM rfl) (by rw[List.length_map];omega) ?_) rfl)).trans ((tQ _).trans (by simp))
   refine(cg (h:=pD) (o:=λ_=>.bl true) S λp hp=>⟨_,rfl,?_⟩).trans (by rw[List.map_map];rfl)
   refine(au (x:=.int p.2) (y:=.int 0) rfl rfl).trans ?_
   rw[jq (by rw[cq];omega),eU,decide_eq_false (h.1 p hp)];rfl
  ·have z:rH (ai 0) (sk (ai 0) (BQ (ay (.int 1))) Cp) [.v (.lst (S.map pD)),s1]=some ((List.range (S.length-1)).map λ(i:Nat)=>D.tup [pD (S.getD i (0,0)),pD (S.getD (i+1) (0,0))]):=by
    have cut:sk (ai 0) (BQ (ay (.int 1))) Cp [.v (.lst (S.map pD)),s1]=some (.lst ((S.map pD).drop 1)):=by
     have:sk (ai 0) (BQ (ay (.int 1))) Cp [.v (.lst (S.map pD)),s1]=some (.lst (rO (S.map pD) (some 1) none)):=rfl
     rw[this,CY]
    unfold rH;rw[cut];show some (qy (S.map pD) ((S.map pD).drop 1))=_;unfold qy;rw[List.length_drop,List.length_map,show min S.length (S.length-1)=S.length-1 by omega]
    congr 1
    refine List.map_congr_left λi hi=>?_
    rw[List.mem_range] at hi;have g: ∀j,j<S.length->(S.map pD)[j]? =some (pD (S.getD j (0,0))):=λj hj=>by rw[List.getElem?_map,List.getElem?_eq_getElem hj,List.getD_eq_getElem?_getD,List.getElem?_eq_getElem hj];rfl
    congr 2
    ·rw[List.getD_eq_getElem?_getD,g i (by omega)];rfl
    ·congr 1
     rw[List.getD_eq_getElem?_getD,List.getElem?_drop,Nat.add_comm 1 i,g (i+1) (by omega)];rfl
   refine(cx (ds:=[.lst (((List.range (S.length-1)).map λ_=>true).map D.bl)]) (aq (cy z (by rw[List.length_map,List.length_range];omega) ?_) rfl)).trans ((tQ _).trans (by simp))
   refine(cg (h:=λ(i:Nat)=>D.tup [pD (S.getD i (0,0)),pD (S.getD (i+1) (0,0))]) (o:=λ_=>.bl true) (List.range (S.length-1)) λi hi=>⟨_,rfl,?_⟩).trans (by rw[List.map_map];rfl)
   rw[List.mem_range] at hi;refine(au (x:=.int (S.getD i (0,0)).1) (y:=.int (S.getD (i+1) (0,0)).1) rfl rfl).trans ?_
   have lt:(S.getD i (0,0)).1<(S.getD (i+1) (0,0)).1:=by
    have:=(List.pairwise_iff_getElem.mp h.2) i (i+1) (by omega) (by omega) (by omega)
    rw[List.getD_eq_getElem?_getD,List.getD_eq_getElem?_getD,List.getElem?_eq_getElem (show i<S.length by omega),List.getElem?_eq_getElem (show i+1<S.length by omega)]
    exact this
   rw[i8,decide_eq_true lt]
def Cm:FT:=bb (al iF (al aT (ai 0) (al aT (cS 3) (cQ (ay (.int 1))))) (ai 2))
def Ck:FS:=bU (aO 3 1 gY (b8 (aa (al aT (ai 0) (al aT (cS 3) (cQ (ay (.int 1))))) (ah))))
def Eb:FS:=fw (bb (al lU (aj mx (aa (cS 3) (ah))) (ai 2))) ((λρ=>(bU (aO 1 1 gY (b8 (aa (ai 3) (ah))))) (l4 3 ρ))) (skip)
def eE:FS:=
 ax (ce 1 (a9 (ah)))
 (ax (cz (b8 (bq (aa (aj bX (aa (ai 0) (ah))) (ah)))) (gN 2) (ax (ce 3 (a9 (aa (ai 2) (ah))))
 (ax (gE Cm Ck 16)
 Eb)))
 (qz 1))
def gy:List D->Option D:=fu .n 4 eE
structure Wl(n:Nat)(S:Nat->Nat)(s:Nat)(W:List Nat)(t:Nat):Prop where
 w:Wlk n S s W t
 last:W.getLast?=some t
 eq:W=(List.range W.length).map λi=>qD S i s
structure Cy(n:Nat)(S:Nat->Nat)(s:Nat)(W:List Nat):Prop where
 c:Cyc n S s W
 eq:W=(List.range W.length).map λi=>qD S i s
 per:qD S W.length s=s
 nd:W.Nodup
 pos:0<W.length
structure Sh(n:Nat)(S:Nat->Nat):Prop where
 lt: ∀y,y<n->S y<n
 inj: ∀y z,y<n->z<n->S y=S z->y=z
theorem Sh.sg {n:Nat}{S:Nat->Nat}(H:Sh n S):Sg n ((List.range n).map S) (List.range n) S:=by
 refine⟨λy hy=>?_,H.lt,H.inj⟩
 have e:((List.range n).map S).getD y 0=S y:=by simp[List.getD,hy]
 rw[e];obtain⟨j,h1,h2,h3⟩:=wo (S y) (List.range n) (List.mem_range.mpr (H.lt y hy))
 have:j=S y:=by
  rw[List.length_range] at h2;simpa [List.getD,h2] using h3
 subst this;show(if cv ((List.range n).map nI)<=32 then(pG ((List.range n).map nI) (nI (S y))).map (λj=>D.int j) else none)=_
 rw[if_pos (by rw[jk];omega)]
 unfold pG;rw[h1];rfl
theorem Wl.start {n:Nat}{S:Nat->Nat}{s:Nat}(hs:s<n):Wl n S s [s] s:=⟨Wlk.start hs,rfl,rfl⟩
theorem Wl.tt {n:Nat}{S:Nat->Nat}{s t:Nat}{W:List Nat}(w:Wl n S s W t):S t=qD S W.length s:=by
 have h:=w.last
 have e:=w.eq
 have hp:0<W.length:=by
  cases W with
  |nil=>cases h
  |cons=>simp
 rw[List.getLast?_eq_getElem?] at h;have e2:W[W.length-1]? =some (qD S (W.length-1) s):=by
  have q: ∀k,k<W.length->((List.range W.length).map λi=>qD S i s)[k]? =some (qD S k s):=λk hk=>by rw[List.getElem?_map,List.getElem?_range hk];rfl
  have q2:=q (W.length-1) (by omega)
  rw[<-e] at q2;exact q2
 have e3:=h.symm.trans e2
 injection e3 with e3
 have:W.length=(W.length-1)+1:=by omega
 rw[this];show S t=S (qD S (W.length-1) s);rw[<-e3]
theorem Wl.next {n:Nat}{S:Nat->Nat}(H:Sh n S){s t:Nat}{W:List Nat}(w:Wl n S s W t)(h:S t≠s):Wl n S s (W++[S t]) (S t):=by
 refine⟨w.w.next H.sg h,by simp,?_⟩
 rw[List.length_append,List.length_singleton,List.range_succ,List.map_append,<-w.eq,w.tt];rfl
theorem Wl.done {n:Nat}{S:Nat->Nat}{s t:Nat}{W:List Nat}(w:Wl n S s W t)(h:S t=s):Cy n S s W:=by
 refine⟨w.w.done h,w.eq,by rw[<-w.tt];exact h,w.w.nd,?_⟩
 have:=w.last
 cases W with
 |nil=>cases this
 |cons=>simp
theorem Cy.uniq {n:Nat}{S:Nat->Nat}{s:Nat}{W W':List Nat}(a:Cy n S s W)(b:Cy n S s W'):W=W':=by
 have key: ∀ {W W':List Nat},Cy n S s W->Cy n S s W'-> ¬W.length<W'.length:=λ{W W'} a b h=>by
  have e0:W'[0]? =some s:=by rw[b.eq];simp[b.pos];rfl
  have e1:W'[W.length]? =some s:=by rw[b.eq];simp[h];exact a.per
  have:=(List.getElem?_inj (by exact b.pos) b.nd).mp (e0.trans e1.symm)
  have:=a.pos
  omega
 have:W.length=W'.length:=by have h1:=key a b;have h2:=key b a;omega
 rw[a.eq,b.eq,this]
section
variable {n:Nat}{S:Nat->Nat}(H:Sh n S)(hn:n<=14)
abbrev yg(n:Nat)(S:Nat->Nat)(F:List D)(s:Nat)(W:List Nat):aC:=[.v (.lst (((List.range n).map S).map nI)),.own F,.v (nI s),.own (W.map nI)]
theorem yP {W:List Nat}{t:Nat}(h:W.getLast?=some t):aT (.lst (W.map nI)) (.int (-1))=some (nI t):=by
 show kI (W.map nI) (-1)=_;have hp:0<W.length:=by
  cases W with
  |nil=>cases h
  |cons=>simp
 unfold kI oo;rw[if_neg (by omega),if_pos (by rw[List.length_map];omega),Option.bind_some]
 have:(-1+((W.map nI).length:Int)).toNat=W.length-1:=by rw[List.length_map];omega
 rw[this,List.getElem?_map,<-List.getLast?_eq_getElem?,h];rfl
theorem B6(ρ:aC):cQ (ay (.int 1)) ρ=some (.int (-1)):=rfl
include H in
theorem xt {F:List D}{s t:Nat}{W:List Nat}(w:Wl n S s W t):al aT (ai 0) (al aT (cS 3) (cQ (ay (.int 1)))) (yg n S F s W)=some (nI (S t)):=by
 refine(au (x:=.lst (((List.range n).map S).map nI)) (y:=nI t) rfl ((au (x:=.lst (W.map nI)) rfl (B6 _)).trans (yP w.last))).trans ?_
 have ht:=w.w.lt _ w.w.ht
 refine(mN (by simp[ht])).trans ?_
 congr 2
 simp[List.getD,ht]
include H hn in
theorem nJ(F:List D)(s:Nat): ∀(f:Nat) (W:List Nat) (t:Nat),n<f+W.length->Wl n S s W t->
 ∃L,gE Cm Ck f (yg n S F s W)=.nx (yg n S F s L)/\Cy n S s L
 |0,W,t,h,w=>absurd (gI w.w.nd w.w.lt) (by omega)
 |f+1,W,t,h,w=>by
  unfold gE;have tt:Cm (yg n S F s W)=some (!decide (S t=s)):=by
   unfold Cm;refine bZ ((au (x:=nI (S t)) (y:=nI s) (xt H w) rfl).trans ?_)
   rw[jq (by rw[cq];omega),kT]
  rw[tt]
  by_cases e:S t=s
  ·rw[show(!decide (S t=s))=false by simp[e]]
   exact⟨W,rfl,w.done e⟩
  ·rw[show(!decide (S t=s))=true by simp[e]]
   have ll:=gI w.w.nd w.w.lt
   have b:Ck (yg n S F s W)=.nx (yg n S F s (W++[S t])):=by
    unfold Ck;refine(sj (i:=3) (bs:=W.map nI) (d:=nI (S t)) rfl (br (aq (xt H w) rfl)) rfl (by rw[List.length_map];omega)).trans ?_
    unfold yg;rw[List.map_append];rfl
   obtain⟨L,h1,h2⟩:=nJ F s f (W++[S t]) (S t) (by rw[List.length_append,List.length_singleton];omega) (w.next H e)
   refine⟨L,?_,h2⟩
   dsimp only;rw[b];exact h1
theorem xR: ∀l:List Nat,fL (l.map nI)=some (l.map λ(z:Nat)=>(z:Int))
 | []=>rfl
 |z::l=>by rw[List.map_cons];show(fL (l.map nI)).map _=_;rw[xR l];rfl
theorem Dc {l:List Nat}{s:Nat}(h:s∈l): ∃v:Int,mx [.lst (l.map nI)]=some (.int v)/\(v=s↔ ∀z∈l,s<=z):=by
 refine⟨jH (l.map λ(z:Nat)=>(z:Int)),?_,?_⟩
 ·show((fL (l.map nI)).bind λns=>if ns.isEmpty=true then none else some (D.int (jH ns)))=_
  rw[xR];cases l with
  |nil=>exact absurd h List.not_mem_nil
  |cons=>rfl
 ·cases l with
  |nil=>exact absurd h List.not_mem_nil
  |cons a l=>
   obtain⟨m1,m2⟩:=pX (l.map λ(z:Nat)=>(z:Int)) (a:Int)
   have m1:jH ((a::l).map λ(z:Nat)=>(z:Int))∈(a::l).map λ(z:Nat)=>(z:Int):=m1
   have m2: ∀x∈(a::l).map (λ(z:Nat)=>(z:Int)),jH ((a::l).map λ(z:Nat)=>(z:Int))<=x:=m2
   constructor
   ·intro e z hz
    have:=m2 z (List.mem_map.mpr ⟨z,hz,rfl⟩)
    omega
   ·intro q
    have h1:=m2 s (List.mem_map.mpr ⟨s,h,rfl⟩)
    obtain⟨z,hz,e⟩:=List.mem_map.mp m1
    have h2:=q z hz
    omega
include H hn in
theorem kx: ∃C:Nat->List Nat,(∀s,s<n->Cy n S s (C s))/\
 gy [.lst (((List.range n).map S).map nI)]=some (.lst (((List.range n).filter (eO S)).map λs=>.lst ((C s).map nI))):=by
 have hC: ∀s,∃L,s<n->Cy n S s L:=λs=>by
  by_cases hs:s<n
  ·obtain⟨L,_,h⟩:=nJ H hn [] s 16 [s] s (by simp;omega) (Wl.start hs)
   exact⟨L,λ_=>h⟩
  ·exact⟨[],λh=>absurd h hs⟩
 obtain⟨C,hC⟩:=Classical.skolem.mp hC
 refine⟨C,hC,?_⟩
 have lp: ∀(l:List Nat),(∀s∈l,s<n)-> ∀(F:List D) (s2 s3:Sl),F.length+l.length<=900-> ∃s2' s3',dv (gN 2) (ax (ce 3 (a9 (aa (ai 2) (ah)))) (ax (gE Cm Ck 16) Eb)) (l.map nI) [.v (.lst (((List.range n).map S).map nI)),.own F,s2,s3]
  =.nx [.v (.lst (((List.range n).map S).map nI)),.own (F++(l.filter (eO S)).map λs=>.lst ((C s).map nI)),s2',s3']:=by
  intro l
  induction l with
  |nil=>intro _ F s2 s3 _;exact⟨s2,s3,by simp[dv]⟩
  |cons s l ih=>
   intro hl F s2 s3 hF;rw[List.length_cons] at hF;have hs:=hl s (List.mem_cons_self ..)
   obtain⟨L,hL,K⟩:=nJ H hn F s 16 [s] s (by simp;omega) (Wl.start hs)
   cases K.uniq (hC s hs)
   have b1:(ax (ce 3 (a9 (aa (ai 2) (ah)))) (ax (gE Cm Ck 16) Eb)) [.v (.lst (((List.range n).map S).map nI)),.own F,.v (nI s),s3]=Eb (yg n S F s (C s)):=
    (az (ρ':=yg n S F s [s]) ((dW (cn (ds:=[nI s]) rfl (by simp))).trans rfl)).trans (az hL)
   obtain⟨v,hv,hv2⟩:=Dc ((K.c.mem s).mpr (gW S s))
   have hv3:v=s↔eO S s=true:=hv2.trans ((Iff.intro (λq z hz=>q z ((K.c.mem z).mpr hz)) λq z hz=>q z ((K.c.mem z).mp hz)).trans ledB_iff.symm)
   have ih':=ih λz hz=>hl z (List.mem_cons_of_mem _ hz)
   have tt:bb (al lU (aj mx (aa (cS 3) (ah))) (ai 2)) (yg n S F s (C s))=some (eO S s):=by
    refine bZ ((au (x:=.int v) (y:=nI s) ((cx (ds:=[.lst ((C s).map nI)]) rfl).trans hv) rfl).trans ?_)
    rw[iR (by rw[cq];omega),eU]
    congr 2
    rw[Bool.eq_iff_iff,decide_eq_true_eq];exact hv3
   cases e:eO S s
   ·rw[e] at tt
    obtain⟨s2',s3',h⟩:=ih' F (.v (nI s)) (.own ((C s).map nI)) (by omega)
    refine⟨s2',s3',?_⟩
    rw[List.map_cons,List.filter_cons_of_neg (by rw[e];decide),<-h]
    exact cj (ρ1:=[.v (.lst (((List.range n).map S).map nI)),.own F,.v (nI s),s3]) rfl (b1.trans (z9 tt))
   ·rw[e] at tt
    obtain⟨s2',s3',h⟩:=ih' (F++[.lst ((C s).map nI)]) (.v (nI s)) (.v (.lst ((C s).map nI))) (by rw[List.length_append,List.length_singleton];omega)
    refine⟨s2',s3',?_⟩
    rw[List.map_cons,List.filter_cons_of_pos e,List.map_cons,List.append_cons,<-h];exact cj (ρ1:=[.v (.lst (((List.range n).map S).map nI)),.own F,.v (nI s),s3]) rfl (b1.trans ((DF tt).trans ((sj (i:=1) (bs:=F) (d:=.lst ((C s).map nI)) rfl (br rfl) rfl (by omega)).trans rfl)))
 obtain⟨s2',s3',h⟩:=lp (List.range n) (λs hs=>List.mem_range.mp hs) [] .no .no (by simp;omega)
 apply cu (kd:=.n) (n:=4) (t:=eE)
 unfold eE;refine(az (ρ':=[.v (.lst (((List.range n).map S).map nI)),.own [],.no,.no]) ((dW (cn (ds:=[]) rfl (by simp))).trans rfl)).trans ?_
 refine(az ((c4 (ds:=(List.range n).map nI) (br (cf (n:=n) (aq ((vZ ((List.range n).map S) _ _ rfl).trans (by simp)) rfl) (by omega)))).trans h)).trans ?_
 rfl
end
def gQ:FS:=
 ax (dm (gT 2 (bL (gN 1) (bL (gN 2) (eC)))) (pu (ai 0)))
 (aX (aj (nF 1 gy) (aa (aY 1 (pP (ai 1)) (gN 3) (cF) (al km (ai 2) (ai 3))) (ah))))
def pH:List D->Option D:=fu .n 3 gQ
theorem Sg.sh {n:Nat}{r x:List Nat}{S:Nat->Nat}(H:Sg n r x S):Sh n S:=⟨H.lt,H.inj⟩
theorem uG(r:List Nat):r=(List.range r.length).map λy=>r.getD y 0:=by
 apply List.ext_getElem (by simp)
 intro i h1 h2;simp[List.getD,h1]
theorem uT {n:Nat}{r x:List Nat}{S:Nat->Nat}(R:Ord n r)(X:Ord n x)(H:Sg n r x S)(hn:n<=8): ∃C:Nat->List Nat,(∀s,s<n->Cy n S s (C s))/\
 pH [bO r x]=some (.lst (((List.range n).filter (eO S)).map λs=>.lst ((C s).map nI))):=by
 obtain⟨C,hC,h⟩:=kx H.sh (by omega)
 refine⟨C,hC,?_⟩
 apply cu (kd:=.n) (n:=3) (t:=gQ)
 unfold gQ;refine(az (ρ':=[.v (bO r x),.v (aA r),.v (aA x)]) (k8 (kr rfl) rfl)).trans ?_
 refine bo ((bw (ds:=[.lst (((List.range n).map S).map nI)]) (aq ?_ rfl) rfl).trans h)
 refine cy (ds:=r.map nI) (zk rfl) (by rw[List.length_map,R.len];omega) ?_
 have er:r.map nI=(List.range n).map λy=>nI (r.getD y 0):=by
  conv=>lhs;rw[uG r,R.len,List.map_map]
  rfl
 rw[er,List.map_map];refine cg (List.range n) λy hy=>?_
 rw[List.mem_range] at hy;exact⟨_,rfl,(au (x:=aA x) (y:=nI (r.getD y 0)) rfl rfl).trans (H.ev y hy)⟩
def sg(L:List (Int×Int))(p:Int):Int:=((L.filter λq=>decide (q.1=p)).map (·.2)).sum
theorem dX(q:Int×Int)(L:List (Int×Int))(p:Int):sg (q::L) p=(if q.1=p then q.2 else 0)+sg L p:=by
 unfold sg;rw[List.filter_cons]
 by_cases h:q.1=p
 ·rw[if_pos (by simpa using h),if_pos h];simp
 ·rw[if_neg (by simpa using h),if_neg h];simp
theorem AV(p:Int):vI [] p=0:=rfl
theorem jb(q:Int×Int)(r:List (Int×Int))(p:Int):vI (q::r) p=if q.1=p then q.2 else vI r p:=by
 unfold vI;rw[List.find?_cons]
 by_cases h:q.1=p
 ·rw[decide_eq_true h,if_pos h];rfl
 ·rw[decide_eq_false h,if_neg h]
theorem rk(k v p:Int): ∀kvs:List (Int×Int),(k∈kvs.map (·.1))->vI (kvs.map (λq=>if q.1=k then(q.1,v) else q)) p=if p=k then v else vI kvs p
 | [],h=>nomatch h
 |q::r,h=>by
  rw[List.map_cons,jb,jb]
  by_cases h1:q.1=k
  ·rw[if_pos h1]
   by_cases h2:p=k
   ·rw[if_pos h2,if_pos (by show q.1=p;rw[h1,h2])]
   ·rw[if_neg h2,if_neg (by show¬q.1=p;rw[h1];exact λe=>h2 e.symm),if_neg (by rw[h1];exact λe=>h2 e.symm)]
    by_cases h3:k∈r.map (·.1)
    ·rw[rk k v p r h3,if_neg h2]
    ·have:r.map (λq=>if q.1=k then(q.1,v) else q)=r:=by
      conv=>rhs;rw[<-List.map_id r]
      refine List.map_congr_left λx hx=>?_
      rw[if_neg];rfl;exact λe=>h3 (List.mem_map.mpr ⟨x,hx,e⟩)
     rw[this]
  ·rw[if_neg h1]
   have h3:k∈r.map (·.1):=by
    rw[List.map_cons] at h;rcases List.mem_cons.mp h with h|h
    ·exact absurd h.symm h1
    ·exact h
   rw[rk k v p r h3]
   by_cases h2:q.1=p
   ·rw[if_pos h2,if_pos h2,if_neg]
    intro e;exact h1 (h2.trans e)
   ·rw[if_neg h2,if_neg h2]
theorem ug(k v p:Int): ∀kvs:List (Int×Int),(k∉kvs.map (·.1))->vI (kvs++[(k,v)]) p=if p=k then v else vI kvs p
 | [],_=>by
   rw[List.nil_append,jb]
   by_cases h:p=k
   ·rw[if_pos h,if_pos h.symm]
   ·rw[if_neg h,if_neg λe=>h e.symm]
 |q::r,h=>by
  rw[List.map_cons,List.mem_cons,not_or] at h;rw[List.cons_append,jb,jb,ug k v p r h.2]
  by_cases h2:q.1=p
  ·rw[if_pos h2,if_pos h2,if_neg]
   intro e;exact h.1 (e▸h2.symm)
  ·rw[if_neg h2,if_neg h2]
theorem A4(kvs:List (Int×Int))(k v p:Int):vI (jw kvs k v) p=if p=k then v else vI kvs p:=by
 have e:(kvs.any λq=>decide (q.1=k))=true↔k∈kvs.map (·.1):=by
  rw[List.any_eq_true,List.mem_map];constructor
  ·rintro⟨q,h1,h2⟩;exact⟨q,h1,by simpa using h2⟩
  ·rintro⟨q,h1,h2⟩;exact⟨q,h1,by simpa using h2⟩
 unfold jw;split
 ·rename_i h;exact rk k v p kvs (e.mp h)
 ·rename_i h;exact ug k v p kvs λz=>h (e.mpr z)
theorem tS(p:Int): ∀(L kvs:List (Int×Int)),vI (L.foldl gD kvs) p=vI kvs p+sg L p
 | [],kvs=>by rw[List.foldl_nil];show _=_+0;rw[Int.add_zero]
 |q::L,kvs=>by
  rw[List.foldl_cons,tS p L,dX];show vI (jw kvs q.1 (vI kvs q.1+q.2)) p+_=_;rw[A4]
  by_cases h:p=q.1
  ·rw[if_pos h,if_pos h.symm,h];omega
  ·rw[if_neg h,if_neg λe=>h e.symm];omega
theorem jK(p:Int): ∀(L kvs:List (Int×Int)),p∈(L.foldl gD kvs).map (·.1)↔p∈kvs.map (·.1)\/p∈L.map (·.1)
 | [],kvs=>by simp
 |q::L,kvs=>by
  rw[List.foldl_cons,jK p L];show p∈(jw kvs q.1 (vI kvs q.1+q.2)).map (·.1)\/_↔_
  rw[j4,List.map_cons,List.mem_cons];split
  ·rename_i h
   constructor
   ·rintro(h1|h1)
    ·exact .inl h1
    ·exact .inr (.inr h1)
   ·rintro(h1|h1|h1)
    ·exact .inl h1
    ·exact .inl (h1▸h)
    ·exact .inr h1
  ·rw[List.mem_append,List.mem_singleton]
   constructor
   ·rintro((h1|h1)|h1)
    ·exact .inl h1
    ·exact .inr (.inl h1)
    ·exact .inr (.inr h1)
   ·rintro(h1|h1|h1)
    ·exact .inl (.inl h1)
    ·exact .inl (.inr h1)
    ·exact .inr h1
theorem yd(L:List (Int×Int))(p:Int):vI (jY L) p=sg L p:=by unfold jY;rw[tS,AV,Int.zero_add]
def wX(M:List Int)(s:Int->Int)(S:List (Int×Int)):Prop:=(S.Pairwise λp q=>p.1<q.1)/\ ∀x,x∈S↔x.1∈M/\s x.1≠0/\x.2=s x.1
theorem rQ {M:List Int}{s:Int->Int}{S T:List (Int×Int)}(h:wX M s S)(h':wX M s T):S=T:=by
 have nd: ∀ {U:List (Int×Int)},(U.Pairwise λp q=>p.1<q.1)->U.Nodup:=λh=>h.imp λq e=>by subst e;omega
 refine List.Perm.eq_of_pairwise (λa b _ _ h1 h2=>?_) h.1 h'.1 ((List.perm_ext_iff_of_nodup (nd h.1) (nd h'.1)).mpr λx=>by rw[h.2,h'.2])
 omega
theorem kP(L:List (Int×Int)):wX (L.map (·.1)) (sg L) (cc L):=by
 refine⟨(gS L).2,λx=>?_⟩
 unfold cc;rw[List.mem_map];constructor
 ·rintro⟨p,hp,rfl⟩
  obtain⟨h1,h2⟩:=List.mem_filter.mp hp
  have h3:=(bM (lt:=jj) _).mem_iff.mp h1
  have h4:=(jK p L []).mp h3
  rw[yd] at h2⊢;refine⟨?_,by simpa using h2,rfl⟩
  rcases h4 with h4|h4
  ·exact nomatch h4
  ·exact h4
 ·rintro⟨h1,h2,h3⟩
  refine⟨x.1,List.mem_filter.mpr ⟨(bM (lt:=jj) _).mem_iff.mpr ((jK x.1 L []).mpr (.inr h1)),by rw[yd];simpa using h2⟩,?_⟩
  rw[yd,<-h3]
theorem Ar: ∀M:List (Int×Int),cv (M.map pD)<=1
 | []=>by rw[List.map_nil];unfold cv;omega
 |p::M=>by
  rw[List.map_cons];unfold cv;have ih:=Ar M
  have:dP (pD p)=1:=by
   show dP (.tup [.int p.1,.int p.2])=1;unfold dP cv cv cv;rw[cq,cq];rfl
  omega
theorem Dd(L:List (Int×Int)):dP (.lst (L.map pD))<=32:=by unfold dP;have:=Ar L;omega
def fQ(L M:List (Int×Int)):List (Int×Int):=L.flatMap λp=>M.map λq=>(p.1+q.1,p.2*q.2)
theorem pW {l m:List Int}(h:l.Perm m):l.sum=m.sum:=by
 induction h with
 |nil=>rfl
 |cons x _ ih=>rw[List.sum_cons,List.sum_cons,ih]
 |swap x y l=>rw[List.sum_cons,List.sum_cons,List.sum_cons,List.sum_cons];omega
 |trans _ _ h1 h2=>exact h1.trans h2
theorem zB {L M:List (Int×Int)}(h:L.Perm M)(p:Int):sg L p=sg M p:=pW ((h.filter _).map _)
theorem mw {α β:Type}(g:α->β)(h:α->List β): ∀M:List α,(M.flatMap λq=>g q::h q).Perm (M.map g++M.flatMap h)
 | []=>.refl _
 |a::M=>by
  rw[List.flatMap_cons,List.flatMap_cons,List.map_cons];refine List.Perm.cons _ ?_
  refine(List.Perm.append_left _ (mw g h M)).trans ?_
  show(h a++(M.map g++M.flatMap h)).Perm (M.map g++(h a++M.flatMap h));rw[<-List.append_assoc,<-List.append_assoc];exact List.Perm.append_right _ List.perm_append_comm
theorem pw_comm: ∀L M:List (Int×Int),(fQ L M).Perm (fQ M L)
 | [],M=>by
   unfold fQ;rw[List.flatMap_nil];have: ∀M:List (Int×Int),(M.flatMap λp=>([]:List (Int×Int)).map λq=>(p.1+q.1,p.2*q.2))=[]:=λM=>by induction M with
    |nil=>rfl
    |cons a M ih=>rw[List.flatMap_cons,ih];rfl
   rw[this]
 |a::L,M=>by
  have ih:=pw_comm L M
  unfold fQ at ih⊢;rw[List.flatMap_cons];refine List.Perm.trans ?_ (mw (λq:Int×Int=>(q.1+a.1,q.2*a.2)) (λq=>L.map λp=>(q.1+p.1,q.2*p.2)) M).symm
  rw[show(M.map λq=>(a.1+q.1,a.2*q.2))=M.map λq=>(q.1+a.1,q.2*a.2) from List.map_congr_left λq _=>by rw[Int.add_comm,Int.mul_comm]]
  exact List.Perm.append_left _ ih
theorem v7 {c:Nat}: ∀ {L:List (Int×Int)},(∀q∈L,q.2.natAbs<=c)-> ∀p,(sg L p).natAbs<=L.length*c
 | [],_,p=>by simp[sg]
 |q::L,h,p=>by
  have:=v7 (λx hx=>h x (List.mem_cons_of_mem _ hx)) p
  have:=h q List.mem_cons_self
  rw[dX,List.length_cons,Nat.succ_mul];split<;>omega
theorem pw_len: ∀L M:List (Int×Int),(fQ L M).length=L.length*M.length
 | [],M=>by simp[fQ]
 |a::L,M=>by
  have ih:=pw_len L M
  unfold fQ at ih⊢;rw[List.flatMap_cons,List.length_append,List.length_map,ih,List.length_cons,Nat.succ_mul];omega
set_option maxHeartbeats 1000000
abbrev eQ:=List (Int×Int)
theorem lB(p:Int):sg [] p=0:=rfl
theorem jS(L M:eQ)(p:Int):sg (L++M) p=sg L p+sg M p:=by
 unfold sg;rw[List.filter_append,List.map_append,List.sum_append]
theorem wK(p:Int): ∀L:eQ,sg (L.map λq=>(q.1, -q.2)) p= - sg L p
 | []=>rfl
 |q::L=>by
  rw[List.map_cons,dX,wK p L,dX];dsimp only;split<;>omega
theorem qk(s c p:Int): ∀M:eQ,sg (M.map λq=>(s+q.1,c*q.2)) p=c*sg M (p-s)
 | []=>by rw[List.map_nil,lB,lB,Int.mul_zero]
 |q::M=>by
  rw[List.map_cons,dX,qk s c p M,dX,Int.mul_add];congr 1
  dsimp only
  by_cases h:s+q.1=p
  ·rw[if_pos h,if_pos (by omega)]
  ·rw[if_neg h,if_neg (by omega),Int.mul_zero]
theorem qu(a:Int×Int)(L M:eQ)(p:Int):sg (fQ (a::L) M) p=a.2*sg M (p-a.1)+sg (fQ L M) p:=by
 unfold fQ;rw[List.flatMap_cons,jS,qk]
theorem n8(M:eQ)(p:Int):sg (fQ [] M) p=0:=rfl
theorem xy(M:eQ)(p:Int): ∀L K:eQ,sg (fQ (L++K) M) p=sg (fQ L M) p+sg (fQ K M) p
 | [],K=>by rw[List.nil_append,n8,Int.zero_add]
 |a::L,K=>by rw[List.cons_append,qu,qu,xy M p L K,Int.add_assoc]
theorem vX(a:Int×Int)(M:eQ)(p:Int):sg (fQ [a] M) p=a.2*sg M (p-a.1):=by rw[qu,n8,Int.add_zero]
theorem gH {p:Int}: ∀ {L:eQ},(∀q∈L,q.1≠p)->sg L p=0
 | [],_=>rfl
 |q::L,h=>by rw[dX,if_neg (h q List.mem_cons_self),gH λr hr=>h r (List.mem_cons_of_mem _ hr),Int.zero_add]
theorem SumI.sg_mem {p v:Int}: ∀ {S:eQ},SumI S->(p,v)∈S->sg S p=v
 | [],_,h=>absurd h List.not_mem_nil
 |q::S,hs,h=>by
  have pw:=List.pairwise_cons.mp hs.2
  rw[dX];rcases List.mem_cons.mp h with rfl|h
  ·rw[if_pos rfl,gH λr hr=>by have:=pw.1 r hr;dsimp only at this;omega,Int.add_zero]
  ·have:=pw.1 _ h
   dsimp only at this;rw[if_neg (by omega),Int.zero_add]
   exact SumI.sg_mem ⟨λr hr=>hs.1 r (List.mem_cons_of_mem _ hr),pw.2⟩ h
theorem SumI.mem_sg {p:Int}{S:eQ}(hs:SumI S)(h:sg S p≠0):(p,sg S p)∈S:=by
 by_cases e: ∃q∈S,q.1=p
 ·obtain⟨⟨a,v⟩,hq,rfl⟩:=e
  rw[hs.sg_mem hq];exact hq
 ·exact absurd (gH λq hq z=>e ⟨q,hq,z⟩) h
theorem SumI.mem_iff {S:eQ}(hs:SumI S)(p v:Int):(p,v)∈S↔v≠0/\sg S p=v:=by
 constructor
 ·intro h;exact⟨hs.1 _ h,hs.sg_mem h⟩
 ·rintro⟨h0,rfl⟩;exact hs.mem_sg h0
theorem tB {S T:eQ}(hs:SumI S)(ht:SumI T)(h: ∀p,sg S p=sg T p):S=T:=by
 refine rQ (M:=S.map (·.1)++T.map (·.1)) (s:=sg S) ⟨hs.2,λx=>?_⟩ ⟨ht.2,λx=>?_⟩
 ·rw[show(x∈S)↔((x.1,x.2)∈S) from Iff.rfl,hs.mem_iff]
  constructor
  ·rintro⟨h1,h2⟩
   have:=(hs.mem_iff x.1 x.2).mpr ⟨h1,h2⟩
   exact⟨List.mem_append_left _ (List.mem_map_of_mem (f:=(·.1)) this),by rw[h2];exact h1,h2.symm⟩
  ·rintro⟨_,h1,h2⟩
   exact⟨by rw[h2];exact h1,h2.symm⟩
 ·rw[show(x∈T)↔((x.1,x.2)∈T) from Iff.rfl,ht.mem_iff]
  constructor
  ·rintro⟨h1,h2⟩
   have:=(ht.mem_iff x.1 x.2).mpr ⟨h1,h2⟩
   exact⟨List.mem_append_right _ (List.mem_map_of_mem (f:=(·.1)) this),by rw[h,h2];exact h1,by rw[h,h2]⟩
  ·rintro⟨_,h1,h2⟩
   exact⟨by rw[h2];exact h1,by rw[<-h];exact h2.symm⟩
theorem gl(L:eQ)(p:Int):sg (cc L) p=sg L p:=by
 have T:=kP L
 by_cases h:sg L p=0
 ·rw[h]
  refine gH λq hq z=>?_
  obtain⟨_,h2,_⟩:=(T.2 q).mp hq
  rw[z] at h2;exact h2 h
 ·refine(gS L).sg_mem ((T.2 (p,sg L p)).mpr ⟨?_,h,rfl⟩)
  by_cases e: ∃q∈L,q.1=p
  ·obtain⟨q,hq,z⟩:=e
   exact List.mem_map.mpr ⟨q,hq,z⟩
  ·exact absurd (gH λq hq z=>e ⟨q,hq,z⟩) h
theorem SumI.top {S:eQ}(hs:SumI S){t o:Int}(h:S.getLast?=some (t,o)):sg S t=o/\o≠0/\(∀p,t<p->sg S p=0):=by
 obtain⟨S',rfl⟩:=List.getLast?_eq_some_iff.mp h
 have m:(t,o)∈S'++[(t,o)]:=List.mem_append_right _ (List.mem_singleton.mpr rfl)
 refine⟨hs.sg_mem m,hs.1 _ m,λp hp=>gH λq hq z=>?_⟩
 rcases List.mem_append.mp hq with hq|hq
 ·have:=(List.pairwise_append.mp hs.2).2.2 q hq (t,o) (List.mem_singleton.mpr rfl)
  dsimp only at this;omega
 ·rw[List.mem_singleton.mp hq] at z;dsimp only at z;omega
theorem SumI.low {S:eQ}(hs:SumI S){t o:Int}(h:S.head?=some (t,o)):sg S t=o/\o≠0/\(∀p,p<t->sg S p=0):=by
 cases S with
 |nil=>cases h
 |cons a S=>
  have h:a=(t,o):=Option.some.inj h
  subst h;have pw:=List.pairwise_cons.mp hs.2
  refine⟨hs.sg_mem List.mem_cons_self,hs.1 _ List.mem_cons_self,λp hp=>gH λq hq z=>?_⟩
  rcases List.mem_cons.mp hq with rfl|hq
  ·dsimp only at z;omega
  ·have:=pw.1 q hq;dsimp only at this;omega
theorem SumI.init {S:eQ}{a:Int×Int}(h:SumI (S++[a])):SumI S/\ ∀b∈S,b.1<a.1:=
 ⟨⟨λq hq=>h.1 q (List.mem_append_left _ hq),(List.pairwise_append.mp h.2).1⟩,λb hb=>(List.pairwise_append.mp h.2).2.2 b hb a (List.mem_singleton.mpr rfl)⟩
theorem SumI.tail {S:eQ}{a:Int×Int}(h:SumI (a::S)):SumI S/\ ∀b∈S,a.1<b.1:=
 ⟨⟨λq hq=>h.1 q (List.mem_cons_of_mem _ hq),(List.pairwise_cons.mp h.2).2⟩,(List.pairwise_cons.mp h.2).1⟩
theorem SumI.top_is {S:eQ}(hs:SumI S){t o:Int}(h0:o≠0)(h1:sg S t=o)(h2: ∀p,t<p->sg S p=0):S.getLast?=some (t,o):=by
 cases e:S.getLast? with
 |none=>rw[List.getLast?_eq_none_iff.mp e,lB] at h1;exact absurd h1.symm h0
 |some a=>
  obtain⟨t',o'⟩:=a
  obtain⟨g1,g2,g3⟩:=hs.top e
  have l1: ¬t<t':=λz=>g2 (by rw[<-g1];exact h2 _ z)
  have l2: ¬t'<t:=λz=>h0 (by rw[<-h1];exact g3 _ z)
  have et:t'=t:=by omega
  subst et;rw[<-g1,h1]
theorem yY {S:eQ}(hs:SumI S)(h: ∀p,sg S p=0):S=[]:=tB hs ⟨λ_ h=>absurd h List.not_mem_nil,.nil⟩ λp=>h p
def qp(left:eQ)(a:Int×Int)(M:eQ):eQ:=cc (left++(cc (fQ [a] M)).map λq=>(q.1, -q.2))
theorem yW(left:eQ)(a:Int×Int)(M:eQ)(p:Int):sg (qp left a M) p=sg left p-a.2*sg M (p-a.1):=by
 unfold qp;rw[gl,jS,wK,gl,vX];omega
def pm:List Nat->(Nat->Int)->Int
 | [],_=>1
 |x::l,f=>f x*pm l f
theorem pb {f g:Nat->Int}: ∀ {l:List Nat},(∀x∈l,f x=g x)->pm l f=pm l g
 | [],_=>rfl
 |x::l,h=>by unfold pm;rw[h x List.mem_cons_self,pb λy hy=>h y (List.mem_cons_of_mem _ hy)]
theorem Ad {i:Nat}(k:Int)(g:Nat->Int): ∀ {l:List Nat},l.Nodup->i∈l->pm l (λj=>if j=i then k else g j)=k*pm l (λj=>if j=i then 1 else g j)
 | [],_,h=>absurd h List.not_mem_nil
 |x::l,nd,h=>by
  rw[List.nodup_cons] at nd;show(if x=i then k else g x)*pm l (λj=>if j=i then k else g j)=k*((if x=i then 1 else g x)*pm l (λj=>if j=i then 1 else g j))
  by_cases e:x=i
  ·subst e
   rw[if_pos rfl,if_pos rfl,Int.one_mul];congr 1
   exact pb λy hy=>by rw[if_neg (λw:y=x=>nd.1 (w▸hy)),if_neg (λw:y=x=>nd.1 (w▸hy))]
  ·rw[if_neg e,if_neg e,Ad k g nd.2 ((List.mem_cons.mp h).resolve_left (Ne.symm e))]
   rw[<-Int.mul_assoc,<-Int.mul_assoc,Int.mul_comm (g x) k]
theorem z7 {i:Nat}(k:Int)(g:Nat->Int): ∀ {l:List Nat},l.Nodup->i∈l->ls l (λj=>if j=i then k else g j)=k+ls l (λj=>if j=i then 0 else g j)
 | [],_,h=>absurd h List.not_mem_nil
 |x::l,nd,h=>by
  rw[List.nodup_cons] at nd;rw[cm,cm]
  by_cases e:x=i
  ·subst e
   rw[if_pos rfl,if_pos rfl,Int.zero_add];congr 1
   exact aK λy hy=>by rw[if_neg (λw:y=x=>nd.1 (w▸hy)),if_neg (λw:y=x=>nd.1 (w▸hy))]
  ·rw[if_neg e,if_neg e,z7 k g nd.2 ((List.mem_cons.mp h).resolve_left (Ne.symm e))]
   omega
def qF(n:Nat)(sn:List Nat->Int)(c w:Nat->Nat->Int)(L:List (List Nat)):eQ:=L.map λo=>(ls (List.range n) (λj=>w j (o.getD j 0)),sn o*pm (List.range n) (λj=>c j (o.getD j 0)))
theorem jt(e v:List Nat->Int)(p:Int): ∀L:List (List Nat),sg (L.map λo=>(e o,v o)) p=(L.map λo=>if e o=p then v o else 0).sum
 | []=>rfl
 |o::L=>by rw[List.map_cons,dX,jt e v p L,List.map_cons,List.sum_cons]
theorem u7 {l m:List Int}(h:l.Perm m):l.sum=m.sum:=pW h
theorem qj(f:List Nat->Int): ∀L:List (List Nat),(L.map λo=> - f o).sum= - (L.map f).sum
 | []=>rfl
 |o::L=>by rw[List.map_cons,List.sum_cons,qj f L,List.map_cons,List.sum_cons];omega
theorem lR(f g h:List Nat->Int): ∀L:List (List Nat),(∀o∈L,f o=g o-h o)->(L.map f).sum=(L.map g).sum- (L.map h).sum
 | [],_=>rfl
 |o::L,e=>by
  rw[List.map_cons,List.sum_cons,lR f g h L λq hq=>e q (List.mem_cons_of_mem _ hq),List.map_cons,List.sum_cons,List.map_cons,List.sum_cons,e o List.mem_cons_self]
  omega
structure StL(n:Nat)(L:List (List Nat)):Prop where
 ord: ∀o∈L,Ord n o
 nd:L.Nodup
 cl: ∀o∈L,∀a b,a<n->b<n->fD o a b∈L
theorem nM {o:List Nat}{n a b:Nat}(ho:o.length=n)(ha:a<n)(hb:b<n):fD (fD o a b) a b=o:=by
 have l1:(fD o a b).length=n:=by unfold fD;simp[ho]
 have l2:(fD (fD o a b) a b).length=n:=by unfold fD;simp[ho]
 refine List.ext_getElem (by rw[l2,ho]) λi h1 h2=>?_
 have e:(fD (fD o a b) a b).getD i 0=o.getD i 0:=by
  rw[eT (by omega) (by omega),eT (by omega) (by omega),eT (by omega) (by omega),eT (by omega) (by omega)]
  by_cases e1:i=b
  ·subst e1
   rw[if_pos rfl]
   by_cases e2:a=i
   ·subst e2;rw[if_pos rfl]
   ·rw[if_neg e2,if_pos rfl]
  ·rw[if_neg e1]
   by_cases e2:i=a
   ·subst e2;rw[if_pos rfl,if_pos rfl]
   ·rw[if_neg e2,if_neg e1,if_neg e2]
 rw[List.getD_eq_getElem?_getD,List.getD_eq_getElem?_getD,List.getElem?_eq_getElem h1,List.getElem?_eq_getElem h2] at e;exact e
theorem StL.perm {n:Nat}{L:List (List Nat)}(S:StL n L){a b:Nat}(ha:a<n)(hb:b<n):(L.map λo=>fD o a b).Perm L:=by
 refine(List.perm_ext_iff_of_nodup ?_ S.nd).mpr λz=>?_
 ·rw[List.nodup_iff_pairwise_ne,List.pairwise_map]
  refine List.Pairwise.imp_of_mem (λ{x y} hx hy ne e=>ne ?_) S.nd
  rw[<-nM (S.ord x hx).len ha hb,e,nM (S.ord y hy).len ha hb]
 ·rw[List.mem_map]
  constructor
  ·rintro⟨o,ho,rfl⟩;exact S.cl o ho a b ha hb
  ·intro hz
   exact⟨fD z a b,S.cl z hz a b ha hb,nM (S.ord z hz).len ha hb⟩
theorem vT {n:Nat}{L:List (List Nat)}(S:StL n L){sn:List Nat->Int}{c w:Nat->Nat->Int}{a b:Nat}(ha:a<n)(hb:b<n)(ne:a≠b)(hs: ∀o∈L,sn (fD o a b)= - sn o)(hca: ∀h,c a h=1)(hcb: ∀h,c b h=1)(hw: ∀h,w a h=w b h)(p:Int):sg (qF n sn c w L) p=0:=by
 unfold qF;rw[jt]
 let F:List Nat->Int:=λo=>if ls (List.range n) (λj=>w j (o.getD j 0))=p then sn o*pm (List.range n) (λj=>c j (o.getD j 0)) else 0
 have f: ∀o∈L,F (fD o a b)= - F o:=λo ho=>by
  have O:=S.ord o ho
  have e1:ls (List.range n) (λj=>w j ((fD o a b).getD j 0))=ls (List.range n) (λj=>w j (o.getD j 0)):=by
   have:=lP O.len ha hb ne w
   rw[hw,hw] at this;omega
  have e2:pm (List.range n) (λj=>c j ((fD o a b).getD j 0))=pm (List.range n) (λj=>c j (o.getD j 0)):=pb λj hj=>by
   have l:=O.len
   rw[eT (by omega) (by omega)]
   by_cases q1:j=b
   ·rw[q1,hcb,hcb]
   ·rw[if_neg q1]
    by_cases q2:j=a
    ·rw[q2,hca,hca]
    ·rw[if_neg q2]
  show(if _=p then sn (fD o a b)*_ else 0)= - (if _=p then _ else 0)
  rw[e1,e2,hs o ho];split
  ·rw[Int.neg_mul]
  ·rfl
 have s1:(L.map F).sum=((L.map λo=>fD o a b).map F).sum:=(u7 ((S.perm ha hb).map F)).symm
 rw[List.map_map] at s1;have s2:(L.map (F∘λo=>fD o a b)).sum=(L.map λo=> - F o).sum:=by
  congr 1
  exact List.map_congr_left f
 rw[s2,qj] at s1;show(L.map F).sum=0;omega
def qc(u v:Int):Int:=if u=v then 0 else if u=v+2 then 1 else -1
def qw(u v:Int):Int:=if u=v+2 then u else v
theorem A5 {u v W C p:Int}(h:u=v\/u=v+2\/u=v-2):(if qw u v+W=p then qc u v*C else 0) - (if qw u v+W=p+2 then qc u v*C else 0)=(if u+W=p then C else 0) - (if v+W=p then C else 0):=by
 rcases h with h|h|h
 ·subst h
  have a1:qc u u=0:=if_pos rfl
  rw[a1,Int.zero_mul];simp
 ·subst h
  have a1:qc (v+2) v=1:=by unfold qc;rw[if_neg (show¬v+2=v by omega),if_pos rfl]
  have a2:qw (v+2) v=v+2:=if_pos rfl
  rw[a1,a2,Int.one_mul]
  by_cases e1:v+2+W=p
  ·rw[if_pos e1,if_neg (show¬v+2+W=p+2 by omega),if_neg (show¬v+W=p by omega)]
  ·rw[if_neg e1]
   by_cases e2:v+2+W=p+2
   ·rw[if_pos e2,if_pos (show v+W=p by omega)]
   ·rw[if_neg e2,if_neg (show¬v+W=p by omega)]
 ·subst h
  have a1:qc (v-2) v= -1:=by unfold qc;rw[if_neg (show¬v-2=v by omega),if_neg (show¬v-2=v+2 by omega)]
  have a2:qw (v-2) v=v:=if_neg (show¬v-2=v+2 by omega)
  rw[a1,a2,show(-1:Int)*C= -C by omega]
  by_cases e1:v+W=p
  ·rw[if_pos e1,if_neg (show¬v+W=p+2 by omega),if_neg (show¬v-2+W=p by omega),if_pos e1];omega
  ·rw[if_neg e1]
   by_cases e2:v+W=p+2
   ·rw[if_pos e2,if_pos (show v-2+W=p by omega),if_neg e1];omega
   ·rw[if_neg e2,if_neg (show¬v-2+W=p by omega),if_neg e1]
def cI(n k:Nat)(f:Nat->Nat->Int)(j h:Nat):Int:=if n-k<=j then qc (f j h) (f (j-1) h) else 1
def wI(n k:Nat)(f:Nat->Nat->Int)(j h:Nat):Int:=if n-k<=j then qw (f j h) (f (j-1) h) else f j h
theorem yC {n:Nat}{L:List (List Nat)}(S:StL n L){sn:List Nat->Int}{f:Nat->Nat->Int}(hf: ∀j,1<=j->j<n-> ∀h,f j h=f (j-1) h\/f j h=f (j-1) h+2\/f j h=f (j-1) h-2)(hs: ∀a b,a<n->b<n->a≠b-> ∀o∈L,sn (fD o a b)= - sn o){k:Nat}(hk:k+1<n)(p:Int):
 sg (qF n sn (cI n k f) (wI n k f) L) p=sg (qF n sn (cI n (k+1) f) (wI n (k+1) f) L) p-sg (qF n sn (cI n (k+1) f) (wI n (k+1) f) L) (p+2):=by
 obtain⟨i,hi⟩: ∃i,i=n- (k+1):=⟨_,rfl⟩
 have i1:1<=i:=by omega
 have iL:i<n:=by omega
 have ii:i∈List.range n:=List.mem_range.mpr iL
 let c':Nat->Nat->Int:=λj h=>if j=i then 1 else cI n k f j h
 let w':Nat->Nat->Int:=λj h=>if j=i then f (i-1) h else wI n k f j h
 have z:sg (qF n sn c' w' L) p=0:=by
  refine vT S (a:=i-1) (b:=i) (by omega) iL (by omega) (hs _ _ (by omega) iL (by omega)) (λh=>?_) (λh=>if_pos rfl) (λh=>?_) p
  ·show(if i-1=i then _ else _)=_
   rw[if_neg (by omega)]
   unfold cI;rw[if_neg (by omega)]
  ·show(if i-1=i then _ else _)=(if i=i then _ else _)
   rw[if_neg (by omega),if_pos rfl]
   unfold wI;rw[if_neg (by omega)]
 have key: ∀o:List Nat,(if ls (List.range n) (λj=>wI n k f j (o.getD j 0))=p then sn o*pm (List.range n) (λj=>cI n k f j (o.getD j 0)) else 0) - (if ls (List.range n) (λj=>w' j (o.getD j 0))=p then sn o*pm (List.range n) (λj=>c' j (o.getD j 0)) else 0)
  =(if ls (List.range n) (λj=>wI n (k+1) f j (o.getD j 0))=p then sn o*pm (List.range n) (λj=>cI n (k+1) f j (o.getD j 0)) else 0) - (if ls (List.range n) (λj=>wI n (k+1) f j (o.getD j 0))=p+2 then sn o*pm (List.range n) (λj=>cI n (k+1) f j (o.getD j 0)) else 0):=λo=>by
  let g:Nat->Int:=λj=>wI n k f j (o.getD j 0)
  let d:Nat->Int:=λj=>cI n k f j (o.getD j 0)
  let W:=ls (List.range n) (λj=>if j=i then 0 else g j)
  let C:=sn o*pm (List.range n) (λj=>if j=i then 1 else d j)
  have ew: ∀(q:Nat->Int) (v:Int),(∀j,j<n->q j=if j=i then v else g j)->ls (List.range n) q=v+W:=λq v e=>by
   rw[aK (g:=λj=>if j=i then v else g j) λj hj=>e j (List.mem_range.mp hj)]
   exact z7 v g List.nodup_range ii
  have ec: ∀(q:Nat->Int) (v:Int),(∀j,j<n->q j=if j=i then v else d j)->sn o*pm (List.range n) q=v*C:=λq v e=>by
   rw[pb (g:=λj=>if j=i then v else d j) λj hj=>e j (List.mem_range.mp hj),Ad v d List.nodup_range ii]
   show _=v*(sn o*_);rw[<-Int.mul_assoc,<-Int.mul_assoc,Int.mul_comm (sn o) v]
  have r1:=ew (λj=>wI n k f j (o.getD j 0)) (f i (o.getD i 0)) λj hj=>by
   by_cases e:j=i
   ·subst e
    rw[if_pos rfl];show wI n k f j _=_;unfold wI;rw[if_neg (by omega)]
   ·rw[if_neg e]
  have r2:=ec (λj=>cI n k f j (o.getD j 0)) 1 λj hj=>by
   by_cases e:j=i
   ·subst e
    rw[if_pos rfl];show cI n k f j _=_;unfold cI;rw[if_neg (by omega)]
   ·rw[if_neg e]
  have r3:=ew (λj=>w' j (o.getD j 0)) (f (i-1) (o.getD i 0)) λj hj=>by
   by_cases e:j=i
   ·subst e;rw[if_pos rfl];exact if_pos rfl
   ·rw[if_neg e];exact if_neg e
  have r4:=ec (λj=>c' j (o.getD j 0)) 1 λj hj=>by
   by_cases e:j=i
   ·subst e;rw[if_pos rfl];exact if_pos rfl
   ·rw[if_neg e];exact if_neg e
  have r5:=ew (λj=>wI n (k+1) f j (o.getD j 0)) (qw (f i (o.getD i 0)) (f (i-1) (o.getD i 0))) λj hj=>by
   by_cases e:j=i
   ·subst e
    rw[if_pos rfl];show wI n (k+1) f j _=_;unfold wI;rw[if_pos (by omega)]
   ·rw[if_neg e]
    show wI n (k+1) f j _=wI n k f j _;unfold wI
    by_cases q:n-k<=j
    ·rw[if_pos (by omega),if_pos q]
    ·rw[if_neg (by omega),if_neg q]
  have r6:=ec (λj=>cI n (k+1) f j (o.getD j 0)) (qc (f i (o.getD i 0)) (f (i-1) (o.getD i 0))) λj hj=>by
   by_cases e:j=i
   ·subst e
    rw[if_pos rfl];show cI n (k+1) f j _=_;unfold cI;rw[if_pos (by omega)]
   ·rw[if_neg e]
    show cI n (k+1) f j _=cI n k f j _;unfold cI
    by_cases q:n-k<=j
    ·rw[if_pos (by omega),if_pos q]
    ·rw[if_neg (by omega),if_neg q]
  rw[r1,r2,r3,r4,r5,r6,Int.one_mul];exact(A5 (hf i i1 iL (o.getD i 0))).symm
 have t1:sg (qF n sn (cI n k f) (wI n k f) L) p-sg (qF n sn c' w' L) p=sg (qF n sn (cI n (k+1) f) (wI n (k+1) f) L) p-sg (qF n sn (cI n (k+1) f) (wI n (k+1) f) L) (p+2):=by
  unfold qF;rw[jt,jt,jt,jt];rw[<-lR (λo=>(if ls (List.range n) (λj=>wI n k f j (o.getD j 0))=p then sn o*pm (List.range n) (λj=>cI n k f j (o.getD j 0)) else 0) - (if ls (List.range n) (λj=>w' j (o.getD j 0))=p then sn o*pm (List.range n) (λj=>c' j (o.getD j 0)) else 0)) _ _ L λo _=>rfl]
  exact lR _ _ _ L λo _=>key o
 rw[z,Int.sub_zero] at t1;exact t1
def D1:eQ:=[(-2, -1),(0,1)]
theorem ja(Q:eQ)(p:Int):sg (fQ Q D1) p=sg Q p-sg Q (p+2):=by
 rw[zB (pw_comm Q D1)];unfold D1;rw[qu,qu,n8,show p- -2=p+2 by omega,show p-0=p by omega]
 omega
theorem yy {n:Nat}(sn:List Nat->Int)(f:Nat->Nat->Int)(L:List (List Nat)):qF n sn (cI n 0 f) (wI n 0 f) L=L.map λo=>(ls (List.range n) (λj=>f j (o.getD j 0)),sn o):=by
 have one: ∀l:List Nat,pm l (λ_=>1)=1:=λl=>by
  induction l with
  |nil=>rfl
  |cons x l ih=>unfold pm;rw[ih];rfl
 unfold qF;refine List.map_congr_left λo _=>?_
 rw[aK (g:=λj=>f j (o.getD j 0)) λj hj=>by unfold wI;rw[if_neg (by have:=List.mem_range.mp hj;omega)],pb (g:=λ_=>1) λj hj=>by unfold cI;rw[if_neg (by have:=List.mem_range.mp hj;omega)],one,Int.mul_one]
set_option maxHeartbeats 4000000
theorem nn(f:Nat->Nat->Int): ∀l m:List Nat,(ls l λi=>ls m λj=>f i j)=ls m λj=>ls l λi=>f i j
 | [],m=>by rw[sP (f:=λj=>ls [] λi=>f i j) λ_ _=>rfl];rfl
 |i::l,m=>by
  rw[cm,nn f l m,<-cw];rfl
def se(n:Nat)(r o:List Nat):Int:=fO n o-u3 n r o-um n r o+fO n r+1
set_option maxHeartbeats 1000000
def fC(r:List Nat)(j h c:Nat):Int:=bi (decide (j<=c)&&decide (h<=r.getD c 0))+bi (decide (c<j)&&decide (r.getD c 0<h))
def fR(n:Nat)(r x:List Nat)(j h:Nat):Int:=ls (List.range n) λc=>fC x j h c-fC r j h c
theorem CL(a b:Nat):bi (decide (a<=b))=1-bi (decide (b<a)):=by
 have:=eg b a
 omega
theorem Au(b:Bool):bi b=0\/bi b=1:=by cases b<;>simp[bi]
theorem zO {n:Nat}{r x:List Nat}(j:Nat)(h1:1<=j)(hj:j<n)(h:Nat):fR n r x j h=fR n r x (j-1) h\/fR n r x j h=fR n r x (j-1) h+2\/fR n r x j h=fR n r x (j-1) h-2:=by
 have hi:j-1<n:=by omega
 have dif: ∀(m:List Nat) (c:Nat),c<n->fC m j h c-fC m (j-1) h c=if c=j-1 then 2*bi (decide (m.getD (j-1) 0<h)) -1 else 0:=λm c hc=>by
  unfold fC;simp only[gJ]
  by_cases e:c=j-1
  ·subst e
   rw[if_pos rfl,decide_eq_false (show¬j<=j-1 by omega),decide_eq_true (show j-1<j by omega),decide_eq_true (Nat.le_refl (j-1)),decide_eq_false (show¬j-1<j-1 by omega),CL]
   simp only[bi,if_true,Bool.false_eq_true,if_false];omega
  ·rw[if_neg e]
   by_cases l:j<=c
   ·rw[decide_eq_true l,decide_eq_false (show¬c<j by omega),decide_eq_true (show j-1<=c by omega),decide_eq_false (show¬c<j-1 by omega)]
    omega
   ·rw[decide_eq_false l,decide_eq_true (show c<j by omega),decide_eq_false (show¬j-1<=c by omega),decide_eq_true (show c<j-1 by omega)]
    omega
 have e:fR n r x j h-fR n r x (j-1) h=2*bi (decide (x.getD (j-1) 0<h)) -2*bi (decide (r.getD (j-1) 0<h)):=by
  unfold fR;rw[<-bS,<-lD List.nodup_range (l:=List.range n) (2*bi (decide (x.getD (j-1) 0<h)) -2*bi (decide (r.getD (j-1) 0<h))) (List.mem_range.mpr hi)];refine aK λc hc=>?_
  have d1:=dif x c (List.mem_range.mp hc)
  have d2:=dif r c (List.mem_range.mp hc)
  by_cases q:c=j-1
  ·rw[if_pos q] at d1 d2⊢;omega
  ·rw[if_neg q] at d1 d2⊢;omega
 rcases Au (decide (x.getD (j-1) 0<h)) with a|a<;>rcases Au (decide (r.getD (j-1) 0<h)) with b|b<;>rw[a,b] at e<;>omega
theorem zj(n:Nat)(r x o:List Nat):se n r o-se n x o=ls (List.range n) (λj=>fR n r x j (o.getD j 0))+(fO n r-fO n x):=by
 have e: ∀m:List Nat,u3 n m o+um n m o=ls (List.range n) λj=>ls (List.range n) λc=>fC m j (o.getD j 0) c:=λm=>by
  unfold u3 um;rw[nn (λc i=>bi (decide (c<i)&&decide (m.getD c 0<o.getD i 0))),<-cw]
  refine aK λj _=>?_
  rw[<-cw];rfl
 have e1:=e r
 have e2:=e x
 have e3:ls (List.range n) (λj=>fR n r x j (o.getD j 0))=(ls (List.range n) λj=>ls (List.range n) λc=>fC x j (o.getD j 0) c) -ls (List.range n) λj=>ls (List.range n) λc=>fC r j (o.getD j 0) c:=by
  rw[<-bS];refine aK λj _=>?_
  unfold fR;rw[bS]
 unfold se;omega
def AA(g:Int):Int:=if g % 2=0 then 1 else -1
theorem BN {n:Nat}{r o:List Nat}(O:Ord n o)(R:Ord n r){a b:Nat}(ha:a<n)(hb:b<n)(ne:a≠b):AA (se n r (fD o a b))= - AA (se n r o):=by
 have h1:=BB O ha hb ne
 have h2:=BK O R ha hb ne
 have h3:=BI O R ha hb ne
 have e:se n r o-se n r (fD o a b)=1-2*pi n r o a b+2*vV n o a b:=by
  unfold se;omega
 unfold AA
 by_cases q:se n r o % 2=0
 ·rw[if_pos q,if_neg (by omega)]
 ·rw[if_neg q,if_pos (by omega)];rfl
def vk(n:Nat)(r x:List Nat)(K:Int)(L:List (List Nat))(k:Nat):eQ:=(qF n (λo=>AA (se n r o)) (cI n k (fR n r x)) (wI n k (fR n r x)) L).map λq=>((fO n r-fO n x+K)+q.1,1*q.2)
theorem wM(n:Nat)(r x:List Nat)(K:Int)(L:List (List Nat)):vk n r x K L 0=L.map λo=>(se n r o-se n x o+K,AA (se n r o)):=by
 unfold vk;rw[yy,List.map_map];refine List.map_congr_left λo _=>?_
 show((fO n r-fO n x+K)+ls (List.range n) (λj=>fR n r x j (o.getD j 0)),1*AA (se n r o))=_
 rw[zj,Int.one_mul];exact Prod.ext (by show _=_;omega) rfl
theorem vF {n:Nat}{r x:List Nat}{L:List (List Nat)}(S:StL n L)(R:Ord n r)(K:Int){k:Nat}(hk:k+1<n)(p:Int):sg (vk n r x K L k) p=sg (fQ (vk n r x K L (k+1)) D1) p:=by
 have h:=yC S (sn:=λo=>AA (se n r o)) (f:=fR n r x) (λj h1 hj h=>zO j h1 hj h) (λa b ha hb ne o ho=>BN (S.ord o ho) R ha hb ne) hk (p- (fO n r-fO n x+K))
 rw[ja];unfold vk;rw[qk,qk,qk,Int.one_mul,Int.one_mul,Int.one_mul,h,show p- (fO n r-fO n x+K)+2=p+2- (fO n r-fO n x+K) by omega]
theorem xg {n:Nat}{r x:List Nat}{L:List (List Nat)}(S:StL n L)(R:Ord n r)(K:Int){k:Nat}(hk:k+1<n)(p:Int):sg (cc (vk n r x K L k)) p=sg (fQ (cc (vk n r x K L (k+1))) D1) p:=by
 rw[gl,ja,gl,gl,<-ja];exact vF S R K hk p
set_option maxHeartbeats 4000000
def qQ(h:Nat)(q:List Nat)(i:Nat):D:=.tup [.int (2*i+h),.int (2*(q.getD i 0:Nat)+h)]
theorem Ew(q:List Nat):rR (q.map nI)=(List.range q.length).map λ(i:Nat)=>D.tup [nI i,nI (q.getD i 0)]:=by
 unfold rR;rw[List.length_map];refine List.map_congr_left λi hi=>?_
 rw[List.mem_range] at hi;congr 3
 rw[List.getD_eq_getElem?_getD,List.getElem?_map,List.getElem?_eq_getElem hi,List.getD_eq_getElem?_getD,List.getElem?_eq_getElem hi];rfl
theorem mG {n:Nat}{o:List Nat}(O:Ord n o)(hn:n<=8)(h:Nat):eA [aA o,nI h]=some (.lst ((List.range n).map (qQ h o))):=by
 apply cu (kd:=.n) (n:=2) (t:=gX)
 unfold gX;refine bo (cy (ds:=(List.range n).map λ(i:Nat)=>D.tup [nI i,nI (o.getD i 0)]) ?_ (by rw[List.length_map,List.length_range];omega) ?_)
 ·rw[<-O.len,<-Ew];rfl
 ·refine cg (h:=λ(i:Nat)=>D.tup [nI i,nI (o.getD i 0)]) (o:=qQ h o) _ λi hi=>⟨_,rfl,?_⟩
  rw[List.mem_range] at hi;have hv:=O.get hi
  refine bB (aq ((au ((au (x:=.int 2) (y:=nI i) rfl rfl).trans (cV (by decide) ?_)) (y:=nI h) rfl).trans rfl) (aq ((au ((au (x:=.int 2) (y:=nI (o.getD i 0)) rfl rfl).trans (cV (by decide) ?_)) (y:=nI h) rfl).trans rfl) rfl)) (by simp)
  ·exact Nat.lt_trans (show i<8 by omega) (by decide)
  ·exact Nat.lt_trans (show o.getD i 0<8 by omega) (by decide)
def vB(h:Nat)(p:List Nat)(k:Nat)(q:List Nat)(i j:Nat):Bool:=decide ((2*i+h:Int)<2*j+k)&&decide ((2*(p.getD i 0:Nat)+h:Int)<2*(q.getD j 0:Nat)+k)
theorem zb(p:Nat->Bool)(l:List Nat):((l.filter p).length:Int)=ls l λx=>bi (p x):=by
 have:=jI p (λ_=>1) l
 rw[du] at this;simpa using this
theorem p9 {β:Type}(f:Nat->List β): ∀l:List Nat,((l.flatMap f).length:Int)=ls l λx=>((f x).length:Int)
 | []=>rfl
 |x::l=>by rw[List.flatMap_cons,List.length_append,Int.natCast_add,p9 f l];rfl
def wY(n h:Nat)(p:List Nat)(k:Nat)(q:List Nat):Int:=ls (List.range n) λi=>ls (List.range n) λj=>bi (vB h p k q i j)
theorem xx {n:Nat}(hn:n<=8)(h:Nat)(p:List Nat)(k:Nat)(q:List Nat):eV [.lst ((List.range n).map (qQ h p)),.lst ((List.range n).map (qQ k q))]=some (.int (wY n h p k q)):=by
 apply cu (kd:=.s) (n:=2) (t:=nW)
 unfold nW;refine bo ?_
 rw[cx (ds:=[.lst ((List.range n).flatMap λi=>((List.range n).filter (vB h p k q i)).map λ_=>D.bl true)]) (aq (nN (ds:=(List.range n).map (qQ h p)) rfl ?_ ?_) rfl)]
 ·show some (D.int _)=_
  rw[p9];congr 2
  unfold wY;refine aK λi _=>?_
  rw[List.length_map,zb]
 ·refine(gw (h:=qQ h p) (q:=λ_=>true) (o:=λ(i:Nat)=>((List.range n).filter (vB h p k q i)).map λ_=>D.bl true) (List.range n) λi hi=>⟨_,rfl,rfl,λ_=>?_⟩).trans ?_
  ·refine rC (ds:=(List.range n).map (qQ k q)) rfl ?_
   refine(gw (h:=qQ k q) (q:=vB h p k q i) (o:=λ(_:Nat)=>[D.bl true]) (List.range n) λj hj=>⟨_,rfl,?_,λ_=>tP rfl⟩).trans ?_
   ·refine yi (a:=decide ((2*i+h:Int)<2*j+k)) (bZ (au (x:=.int (2*i+h)) (y:=.int (2*j+k)) rfl rfl)) (λz=>?_) (λz=>by unfold vB;rw[z];rfl)
    unfold vB;rw[z,Bool.true_and];exact bZ (au (x:=.int (2*(p.getD i 0:Nat)+h)) (y:=.int (2*(q.getD j 0:Nat)+k)) rfl rfl)
   ·rw[oT]
  ·rw[List.filter_eq_self.mpr (λ_ _=>rfl)]
 ·have key: ∀(l:List Nat) (m:Nat) (f:Nat->List D),(∀a,(f a).length<=m)->(l.flatMap f).length<=l.length*m:=by
   intro l m f hf
   induction l with
   |nil=>simp
   |cons a l ih=>rw[List.flatMap_cons,List.length_append,List.length_cons,Nat.add_mul,Nat.one_mul];have:=hf a;omega
  have kk:=key (List.range n) n (λi=>((List.range n).filter (vB h p k q i)).map λ_=>D.bl true) (λa=>by rw[List.length_map];exact Nat.le_trans (List.length_filter_le _ _) (by simp))
  rw[List.length_range] at kk;have:n*n<=8*8:=Nat.mul_le_mul hn hn
  omega
def eF(n:Nat)(r o:List Nat):Int:=fO n o-u3 n r o-um n r o+fO n r+1
theorem iY {p q:Bool}(h:p=true↔q=true):bi p=bi q:=by rw[Bool.eq_iff_iff.mpr h]
theorem iJ {n:Nat}{r o:List Nat}(R:Ord n r)(O:Ord n o)(hn:n<=8):c6 [aA r,aA o]=some (.int (eF n r o)):=by
 apply cu (kd:=.s) (n:=4) (t:=iG)
 unfold iG;refine(az (ρ':=[.v (aA r),.v (aA o),.v (.lst ((List.range n).map (qQ 0 o))),.no]) ((bc ((bw (ds:=[aA o,nI 0]) rfl rfl).trans (mG O hn 0))).trans rfl)).trans ?_
 refine(az (ρ':=[.v (aA r),.v (aA o),.v (.lst ((List.range n).map (qQ 0 o))),.v (.lst ((List.range n).map (qQ 1 r)))]) ((bc ((bw (ds:=[aA r,nI 1]) rfl rfl).trans (mG R hn 1))).trans rfl)).trans ?_
 have pp: ∀(h:Nat) (p:List Nat) (k:Nat) (q:List Nat) (f g:FE) (ρ:aC),f ρ=some (.lst ((List.range n).map (qQ h p)))->g ρ=some (.lst ((List.range n).map (qQ k q)))->aj (nF 2 eV) (aa f (aa g ah)) ρ=some (.int (wY n h p k q)):=λh p k q f g ρ e1 e2=>
  (bw (ds:=[.lst ((List.range n).map (qQ h p)),.lst ((List.range n).map (qQ k q))]) (aq e1 (aq e2 rfl)) rfl).trans (xx hn h p k q)
 refine bo ((au ((au ((au ((au (pp 0 o 0 o _ _ _ rfl rfl) (pp 0 o 1 r _ _ _ rfl rfl)).trans rfl) (pp 1 r 0 o _ _ _ rfl rfl)).trans rfl) (pp 1 r 1 r _ _ _ rfl rfl)).trans rfl) (y:=.int 1) rfl).trans ?_)
 show some (D.int _)=_;congr 2
 unfold eF;have e1:wY n 0 o 0 o=fO n o:=by
  unfold wY fO vB;refine aK λi _=>aK λj _=>iY ?_
  simp only[Bool.and_eq_true,decide_eq_true_eq];omega
 have e2:wY n 1 r 1 r=fO n r:=by
  unfold wY fO vB;refine aK λi _=>aK λj _=>iY ?_
  simp only[Bool.and_eq_true,decide_eq_true_eq];omega
 have e3:wY n 0 o 1 r=u3 n r o:=by
  unfold wY u3 vB;refine aK λi _=>aK λj _=>iY ?_
  simp only[Bool.and_eq_true,decide_eq_true_eq];omega
 have e4:wY n 1 r 0 o=um n r o:=by
  unfold wY um vB;refine aK λi _=>aK λj _=>iY ?_
  simp only[Bool.and_eq_true,decide_eq_true_eq];omega
 rw[e1,e2,e3,e4]
theorem wJ {n:Nat}{r x o:List Nat}(R:Ord n r)(O:Ord n o)(hn:n<=8):i6 [bO r x,aA o]=some (.int (eF n r o)):=by
 apply cu (kd:=.s) (n:=2) (t:=ng)
 unfold ng;exact bo ((bw (ds:=[aA r,aA o]) rfl rfl).trans (iJ R O hn))
section
variable {n:Nat}{r x:List Nat}{S:Nat->Nat}(R:Ord n r)(X:Ord n x)(H:Sg n r x S)(hn:n<=8)
include R X H hn
theorem qd: ∃L,c7 [bO r x]=some (.lst L)/\L.length=((List.range n).filter (eO S)).length:=by
 obtain⟨C,_,h⟩:=uT R X H hn
 exact⟨_,h,by rw[List.length_map]⟩
theorem yX {o:List Nat}(O:Ord n o):lm [bO r x,aA o]=some (.int (eF n r o-eF n x o-n+((List.range n).filter (eO S)).length)):=by
 obtain⟨L,hL,hlen⟩:=qd R X H hn
 rw[<-hlen];apply cu (kd:=.s) (n:=5) (t:=rK)
 unfold rK;refine(az (ρ':=[.v (bO r x),.v (aA o),.v (aA r),.v (aA x),.no]) (k8 (kr rfl) rfl)).trans ?_
 refine(az (ρ':=[.v (bO r x),.v (aA o),.v (aA r),.v (aA x),.v (.int (eF n r o-eF n x o))]) ((bc ((au ((bw (ds:=[aA r,aA o]) rfl rfl).trans (iJ R O hn)) ((bw (ds:=[aA x,aA o]) rfl rfl).trans (iJ X O hn))).trans rfl)).trans rfl)).trans ?_
 refine bo ((au ((au (x:=.int (eF n r o-eF n x o)) rfl (ee r _ _ rfl)).trans (cX _ _)) ((cx (ds:=[.lst L]) (aq ((bw (ds:=[bO r x]) rfl rfl).trans hL) rfl)).trans rfl)).trans ?_)
 rw[R.len];rfl
abbrev qV(r x:List Nat)(l:List Nat)(m:Int)(s:Sl):aC:=[.v (bO r x),.own (l.map nI),.v (.int m),s]
def t9:FS:=(ax (bU (aO 1 1 vn (b8 (aa (ai 3) (ah)))))
 (aJ 3 (al km (al aT (ai 0) (ay (.int 1))) (al aT (al aT (ai 0) (ay (.int 0))) (ai 3)))))
omit X hn in
theorem pI {l:List Nat}{c:Nat}(nd:l.Nodup)(hc:c∈l)(lt:c<n)(m:Int):t9 (qV r x l m (.v (nI c)))=.nx (qV r x (l.filter λz=>decide (z≠c)) m (.v (nI (S c)))):=by
 unfold t9;refine(az (ρ':=qV r x (l.filter λz=>decide (z≠c)) m (.v (nI c))) (kZ (cY (i:=1) (n:=1) (M:=vn) (b0:=l.map nI) (bs:=l.map nI) (ds:=[nI c]) rfl (br rfl) rfl rfl (Eu hc nd)))).trans ?_
 exact(bc ((au (x:=aA x) rfl ((au (x:=aA r) (y:=nI c) rfl rfl).trans (w6 (by rw[R.len];exact lt)))).trans (H.ev c lt))).trans rfl
omit R X H hn in
theorem Ag(l:List Nat)(m:Int)(c:Nat):bb (al (oJ false) (ai 3) (cS 1)) (qV r x l m (.v (nI c)))=some (decide (c∈l)):=
 bZ ((au (x:=nI c) (y:=.lst (l.map nI)) rfl rfl).trans (Fp l c))
omit X hn in
theorem kR {l:List Nat}(nd:l.Nodup)(lt: ∀z∈l,z<n)(cl: ∀z∈l,S z∈l)(m:Int)(c:Nat): ∀(f:Nat) (W:List Nat) (t:Nat),n<f+W.length->Wlk n S c W t->(∀z∈W,z∈l)->
 ∃W' c',gE (bb (al (oJ false) (ai 3) (cS 1))) t9 f (qV r x (l.filter λz=>decide (z∉W)) m (.v (nI (S t))))=.nx (qV r x (l.filter λz=>decide (z∉W')) m c')/\Cyc n S c W'
 |0,W,t,h,w,_=>absurd (gI w.nd w.lt) (by omega)
 |f+1,W,t,h,w,sub=>by
  unfold gE;rw[Ag]
  by_cases e:S t=c
  ·rw[decide_eq_false (by rw[List.mem_filter,decide_eq_true_eq,e];exact λq=>q.2 w.hs)]
   exact⟨W,_,rfl,w.done e⟩
  ·have ni:=w.notin H e
   have il:S t∈l:=cl t (sub t w.ht)
   have im:S t∈l.filter λz=>decide (z∉W):=by rw[List.mem_filter,decide_eq_true_eq];exact⟨il,ni⟩
   rw[decide_eq_true im];dsimp only;rw[pI R H (List.Pairwise.filter _ nd) im (lt _ il)];dsimp only;have ef:(l.filter λz=>decide (z∉W)).filter (λz=>decide (z≠S t))=l.filter λz=>decide (z∉W++[S t]):=by
    rw[List.filter_filter];refine List.filter_congr λz _=>?_
    rw[Bool.eq_iff_iff];simp only[Bool.and_eq_true,decide_eq_true_eq,List.mem_append,List.mem_singleton,not_or];exact And.comm
   rw[ef];exact kR nd lt cl m c f (W++[S t]) (S t) (by rw[List.length_append,List.length_singleton];omega) (w.next H e) λz hz=>(List.mem_append.mp hz).elim (sub z) λq=>by rw[List.mem_singleton] at q;rw[q];exact il
def mz:FS:=(ax (aJ 2 (al aZ (ai 2) (ay (.int 1))))
 (ax (aJ 3 (al aT (cS 1) (ay (.int 0))))
 (gE (bb (al (oJ false) (ai 3) (cS 1))) t9 16)))
omit R X H hn in
theorem Ao(l:List Nat)(m:Int)(s:Sl):bb (al iF (cS 1) (a9 (ah))) (qV r x l m s)=some (!l.isEmpty):=by
 refine bZ ((au (x:=.lst (l.map nI)) (y:=.lst []) rfl (cn rfl (by simp))).trans ?_)
 rw[jq (pN l)];cases l with
 |nil=>simp[cP,cT]
 |cons y l=>simp[cP,cT]
omit X in
theorem lE: ∀(f:Nat) (l:List Nat) (m:Int) (s:Sl),l.length<f->l.Pairwise (·< ·)->(∀z∈l,z<n)->(∀z∈l,S z∈l)->
 ∃s',gE (bb (al iF (cS 1) (a9 (ah)))) mz f (qV r x l m s)=.nx (qV r x [] (m+(l.filter (eO S)).length) s')
 |0,l,m,s,h,_,_,_=>absurd h (Nat.not_lt_zero _)
 |f+1,[],m,s,h,_,_,_=>by
  unfold gE;rw[Ao];exact⟨s,by simp⟩
 |f+1,c::l,m,s,h,pw,lt,cl=>by
  unfold gE;rw[Ao];have nd:(c::l).Nodup:=pw.imp λh=>Nat.ne_of_lt h
  have hc:c<n:=lt c (List.mem_cons_self ..)
  obtain⟨W,c',e1,C⟩:=kR R H nd lt cl (m+1) c 15 [c] c (by simp;omega) (Wlk.start hc) λz hz=>by rw[List.mem_singleton] at hz;rw[hz];exact List.mem_cons_self ..
  obtain⟨g1,g2,g3⟩:=wc H pw lt cl C
  have b:mz (qV r x (c::l) m s)=.nx (qV r x ((c::l).filter λz=>decide (z∉W)) (m+1) c'):=by
   unfold mz;refine(az (ρ':=qV r x (c::l) (m+1) s) ((bc ((au (x:=.int m) (y:=.int 1) rfl rfl).trans (b6 _ _))).trans rfl)).trans ?_
   refine(az (ρ':=qV r x (c::l) (m+1) (.v (nI c))) ((bc ((au (x:=.lst ((c::l).map nI)) (y:=nI 0) rfl rfl).trans (mN (by simp)))).trans rfl)).trans ?_
   unfold gE;rw[Ag,decide_eq_true (List.mem_cons_self ..)];dsimp only;rw[pI R H nd (List.mem_cons_self ..) hc];dsimp only;rw[<-e1];congr 3
   funext z;rw[decide_eq_decide,List.mem_singleton]
  obtain⟨s',h2⟩:=lE f ((c::l).filter λz=>decide (z∉W)) (m+1) c' (by rw[List.length_cons] at h;omega) (List.Pairwise.filter _ pw) (λz hz=>lt z (List.mem_filter.mp hz).1) g2
  refine⟨s',?_⟩
  show(match mz (qV r x (c::l) m s) with| .nx ρ2=>gE (bb (al iF (cS 1) (a9 (ah)))) mz f ρ2| .ct ρ2=>gE (bb (al iF (cS 1) (a9 (ah)))) mz f ρ2| .bk ρ2=>.nx ρ2| .rt d ρ2=>.rt d ρ2| .no=>.no)=_
  rw[b];dsimp only;rw[h2,g1,Int.natCast_add,Int.natCast_one,Int.add_assoc,Int.add_comm 1]
omit X in
theorem mQ:bJ [bO r x]=some (.int ((List.range n).filter (eO S)).length):=by
 obtain⟨s',h⟩:=lE R H hn 16 (List.range n) 0 .no (by simp;omega) List.pairwise_lt_range (λz hz=>List.mem_range.mp hz) (λz hz=>List.mem_range.mpr (H.lt z (List.mem_range.mp hz)))
 apply cu (kd:=.s) (n:=4) (t:=gv)
 unfold gv;refine(az (ρ':=[.v (bO r x),.own ((List.range n).map nI),.no,.no]) ((dW (vE (n:=n) (by omega) _ _ (R.len▸ee r _ _ rfl))).trans rfl)).trans ?_
 refine(az (ρ':=qV r x (List.range n) 0 .no) rfl).trans ?_
 refine(az h).trans (bo ?_)
 rw[Int.zero_add];rfl
end
theorem pR {p q:FT}{ρ:aC}{a b:Bool}(h1:p ρ=some a)(h2:q ρ=some b):dw p q ρ=some (a&&b):=by
 unfold dw;rw[h1];cases a
 ·rfl
 ·exact h2
theorem Ez(i j:Nat):j7 (nI i) (nI j)=some (.bl (decide (i<j))):=by rw[i8];congr 2;rw[decide_eq_decide];omega
theorem Fv(i j:Nat):BS (nI i) (nI j)=some (.bl (decide (i<=j))):=by rw[yO];congr 2;rw[decide_eq_decide];omega
abbrev qE(r o:List Nat)(m:Int)(n:Nat)(s4 s5:Sl):aC:=[.v (aA r),.v (aA o),.v (.int m),.v (nI n),s4,s5]
def tV:FS:=(ax (aJ 2 (al aZ (ai 2) (aj iW (aa (kK (dw (bb (al j7 (ai 4) (ai 5))) (bb (al j7 (al aT (ai 1) (ai 4)) (al aT (ai 1) (ai 5)))))) (ah)))))
 (ax (aJ 2 (al aZ (ai 2) (aj iW (aa (kK (dw (bb (al j7 (ai 4) (ai 5))) (bb (al j7 (al aT (ai 0) (ai 4)) (al aT (ai 0) (ai 5)))))) (ah)))))
 (ax (aJ 2 (al cD (ai 2) (aj iW (aa (kK (dw (bb (al BS (ai 4) (ai 5))) (bb (al BS (al aT (ai 1) (ai 4)) (al aT (ai 0) (ai 5)))))) (ah)))))
 (aJ 2 (al cD (ai 2) (aj iW (aa (kK (dw (bb (al j7 (ai 4) (ai 5))) (bb (al j7 (al aT (ai 0) (ai 4)) (al aT (ai 1) (ai 5)))))) (ah))))))))
def zt(r o:List Nat)(i j:Nat):Int:=((bi (decide (i<j)&&decide (o.getD i 0<o.getD j 0))+bi (decide (i<j)&&decide (r.getD i 0<r.getD j 0))) -bi (decide (i<=j)&&decide (o.getD i 0<=r.getD j 0))) -bi (decide (i<j)&&decide (r.getD i 0<o.getD j 0))
theorem wr {n:Nat}{r o:List Nat}(hr:r.length=n)(ho:o.length=n)(m:Int){i j:Nat}(hi:i<n)(hj:j<n):tV (qE r o m n (.v (nI i)) (.v (nI j)))=.nx (qE r o (m+zt r o i j) n (.v (nI i)) (.v (nI j))):=by
 have cell: ∀(G:D->D->Option D) (g:Nat->Nat->Bool),(∀a b,G (nI a) (nI b)=some (.bl (g a b)))-> ∀(u v:Nat) (p q:List Nat) (m:Int),ai u (qE r o m n (.v (nI i)) (.v (nI j)))=some (aA p)->ai v (qE r o m n (.v (nI i)) (.v (nI j)))=some (aA q)->p.length=n->q.length=n->
  aj iW (aa (kK (dw (bb (al G (ai 4) (ai 5))) (bb (al G (al aT (ai u) (ai 4)) (al aT (ai v) (ai 5)))))) (ah)) (qE r o m n (.v (nI i)) (.v (nI j)))=some (.int (bi (g i j&&g (p.getD i 0) (q.getD j 0)))):=by
  intro G g hG u v p q m hu hv hp hq;exact(cx (ds:=[.bl (g i j&&g (p.getD i 0) (q.getD j 0))]) (aq (qW (pR (bZ ((au (x:=nI i) (y:=nI j) rfl rfl).trans (hG i j))) (bZ ((au ((au (y:=nI i) hu rfl).trans (w6 (by omega))) ((au (y:=nI j) hv rfl).trans (w6 (by omega)))).trans (hG _ _))))) rfl)).trans rfl
 unfold tV;refine(az ((bc ((au (x:=.int m) rfl (cell j7 (λa b=>decide (a<b)) Ez 1 1 o o m rfl rfl ho ho)).trans (b6 _ _))).trans rfl)).trans ?_
 refine(az (ρ:=qE r o _ n (.v (nI i)) (.v (nI j))) ((bc ((au (x:=.int _) rfl (cell j7 (λa b=>decide (a<b)) Ez 0 0 r r _ rfl rfl hr hr)).trans (b6 _ _))).trans rfl)).trans ?_
 refine(az (ρ:=qE r o _ n (.v (nI i)) (.v (nI j))) ((bc ((au (x:=.int _) rfl (cell BS (λa b=>decide (a<=b)) Fv 1 0 o r _ rfl rfl ho hr)).trans (cX _ _))).trans rfl)).trans ?_
 refine Eq.trans (b:=.nx (qE r o _ n (.v (nI i)) (.v (nI j)))) ((bc (ρ:=qE r o _ n (.v (nI i)) (.v (nI j))) ((au (x:=.int _) rfl (cell j7 (λa b=>decide (a<b)) Ez 0 1 r o _ rfl rfl hr ho)).trans (cX _ _))).trans rfl) ?_
 congr 5
 unfold zt;omega
theorem wB {n:Nat}{r o:List Nat}(hr:r.length=n)(ho:o.length=n){i:Nat}(hi:i<n): ∀(l:List Nat) (m:Int) (s5:Sl),(∀j∈l,j<n)-> ∃s5',dv (gN 5) tV (l.map nI) (qE r o m n (.v (nI i)) s5)=.nx (qE r o (m+ls l (zt r o i)) n (.v (nI i)) s5')
 | [],m,s5,_=>⟨s5,by simp[ls,dv]⟩
 |j::l,m,s5,hl=>by
  obtain⟨s5',h⟩:=wB hr ho hi l (m+zt r o i j) (.v (nI j)) λz hz=>hl z (List.mem_cons_of_mem _ hz)
  refine⟨s5',?_⟩
  rw[List.map_cons];refine(cj (ρ1:=qE r o m n (.v (nI i)) (.v (nI j))) rfl (wr hr ho m hi (hl j (List.mem_cons_self ..)))).trans (h.trans ?_)
  rw[cm,Int.add_assoc]
theorem sE {n:Nat}{r o:List Nat}(hr:r.length=n)(ho:o.length=n)(hn:n<=8): ∀(l:List Nat) (m:Int) (s4 s5:Sl),(∀j∈l,j<n)-> ∃s4' s5',dv (gN 4) (cz (b8 (bq (aa (ai 3) (ah)))) (gN 5) tV) (l.map nI) (qE r o m n s4 s5)=.nx (qE r o (m+ls l λi=>ls (List.range n) (zt r o i)) n s4' s5')
 | [],m,s4,s5,_=>⟨s4,s5,by simp[ls,dv]⟩
 |i::l,m,s4,s5,hl=>by
  obtain⟨t5,h0⟩:=wB hr ho (hl i (List.mem_cons_self ..)) (List.range n) m s5 λz hz=>List.mem_range.mp hz
  obtain⟨s4',s5',h⟩:=sE hr ho hn l (m+ls (List.range n) (zt r o i)) (.v (nI i)) t5 λz hz=>hl z (List.mem_cons_of_mem _ hz)
  refine⟨s4',s5',?_⟩
  rw[List.map_cons];refine(cj (ρ1:=qE r o m n (.v (nI i)) s5) rfl ((c4 (ds:=(List.range n).map nI) (br (cf (aq rfl rfl) (by omega)))).trans h0)).trans (h.trans ?_)
  rw[cm,Int.add_assoc]
theorem ki {n:Nat}{r o:List Nat}(hr:r.length=n)(ho:o.length=n)(hn:n<=8):bH [aA r,aA o]=some (.int (eF n r o)):=by
 obtain⟨s4,s5,h⟩:=sE hr ho hn (List.range n) 1 .no .no λz hz=>List.mem_range.mp hz
 apply cu (kd:=.s) (n:=6) (t:=g8)
 unfold g8;refine(az (ρ':=[.v (aA r),.v (aA o),.v (.int 1),.no,.no,.no]) rfl).trans ?_
 refine(az (ρ':=qE r o 1 n .no .no) ((bc (ho▸ee o _ _ rfl)).trans rfl)).trans ?_
 refine(az ((c4 (ds:=(List.range n).map nI) (br (cf (aq rfl rfl) (by omega)))).trans h)).trans (bo ?_)
 have:1+(ls (List.range n) λi=>ls (List.range n) (zt r o i))=eF n r o:=by
  have e:(ls (List.range n) λi=>ls (List.range n) (zt r o i))=((fO n o+fO n r) -u3 n r o) -um n r o:=by
   unfold fO u3 um;rw[<-cw,<-bS,<-bS];refine aK λi _=>?_
   unfold zt;rw[bS,bS,cw]
  rw[e];unfold eF;omega
 rw[this];rfl
theorem pJ {α:Type}: ∀(l1 l2:List α),l1.Nodup->(∀x∈l1,x∈l2)->l2.length<=l1.length->l1.Perm l2
 | [],l2,_,_,h=>by
   have:l2=[]:=List.eq_nil_of_length_eq_zero (by simpa using h)
   rw[this]
 |a::l1,l2,nd,hs,hl=>by
  obtain⟨n1,n2⟩:=List.nodup_cons.mp nd
  obtain⟨s,t,rfl⟩:=List.append_of_mem (hs a (List.mem_cons_self ..))
  have ih:=pJ l1 (s++t) n2 (λx hx=>by
   have:=hs x (List.mem_cons_of_mem _ hx)
   rw[List.mem_append,List.mem_cons] at this;rw[List.mem_append];rcases this with q|q|q
   ·exact .inl q
   ·rw[q] at hx;exact absurd hx n1
   ·exact .inr q) (by rw[List.length_append,List.length_cons,List.length_cons] at hl;rw[List.length_append];omega)
  exact(ih.cons a).trans List.perm_middle.symm
def cU(n:Nat):Nat->List (List Nat)
 |0=>[[]]
 |k+1=>(cU n k).flatMap λs=>((List.range n).filter λh=> !decide (h∈s)).map λh=>s++[h]
theorem n9(n:Nat): ∀k,∀s∈cU n k,s.length=k/\s.Nodup/\ ∀v∈s,v<n
 |0,s,h=>by
  rw[List.mem_singleton.mp h];exact⟨rfl,List.nodup_nil,λv hv=>nomatch hv⟩
 |k+1,s,h=>by
  obtain⟨t,ht,hs⟩:=List.mem_flatMap.mp h
  obtain⟨v,hv,rfl⟩:=List.mem_map.mp hs
  obtain⟨h1,h2⟩:=List.mem_filter.mp hv
  obtain⟨i1,i2,i3⟩:=n9 n k t ht
  rw[List.mem_range] at h1;have h2:v∉t:=by simpa using h2
  refine⟨by rw[List.length_append,i1];rfl,?_,λw hw=>?_⟩
  ·rw[List.nodup_append]
   exact⟨i2,by simp,λa ha b hb e=>by rw[List.mem_singleton.mp hb] at e;exact h2 (e▸ha)⟩
  ·rcases List.mem_append.mp hw with hw|hw
   ·exact i3 w hw
   ·rw[List.mem_singleton.mp hw];exact h1
theorem ib {n:Nat}{s:List Nat}(h:s∈cU n n):Ord n s:=by
 obtain⟨h1,h2,h3⟩:=n9 n n s h
 exact⟨pJ s (List.range n) h2 (λv hv=>List.mem_range.mpr (h3 v hv)) (by rw[List.length_range,h1];exact Nat.le_refl _)⟩
theorem ie: ∀n,n<=6-> ∀k,k<=n->(cU n k).length<=720:=by decide+kernel
theorem vz(L:List Nat)(c:Nat):oJ true (nI c) (.tup (L.map nI))=some (.bl (!decide (c∈L))):=by
 unfold oJ qL;dsimp only;rw[jk,if_pos (by omega),Ai]
 rfl
theorem y4 {n:Nat}(hn:n<=6):dB [nI n]=some (.lst ((cU n n).map aA)):=by
 apply fB (kd:=.n) (n:=3) (t:=gj)
 unfold gj;rw[az (ρ':=[.v (nI n),.own ((cU n 0).map aA),.no]) ((dW (cn (ds:=[.tup []]) rfl (by simp))).trans rfl)]
 obtain⟨ρ',lp,s2,hρ⟩:=gK (g:=gN 2) (b:=ce 1 (jX 2 (lN (cS 1)) (gN 3) (cF) (bq (aa (ai 0) (ah))) (gN 4) (bb (al (oJ true) (ai 4) (ai 3))) (al gC (ai 3) (a7 (aa (ai 4) (ah)))))) (P:=λi ρ=> ∃s2,ρ=[.v (nI n),.own ((cU n i).map aA),s2]) ((List.range n).map nI) 0 (λd hd i ρ hi hρ=>by
  obtain⟨s2,rfl⟩:=hρ
  have hi:i<n:=by simpa using hi
  refine⟨[.v (nI n),.own ((cU n i).map aA),.v d],[.v (nI n),.own ((cU n (i+1)).map aA),.v d],rfl,(dW (nN (ds:=(cU n i).map aA) (ys:=(cU n (i+1)).map aA) (ym rfl) ?_ (by rw[List.length_map];have:=ie n hn (i+1) hi;omega))).trans rfl,_,rfl⟩
  refine(gw (h:=aA) (q:=λ_=>true) (o:=λs=>(((List.range n).filter λh=> !decide (h∈s)).map λh=>s++[h]).map aA) (cU n i) λs hs=>⟨_,rfl,rfl,λ_=>rC (ds:=(List.range n).map nI) (cf (n:=n) rfl (by omega)) ?_⟩).trans ?_
  ·refine(gw (h:=nI) (q:=λh=> !decide (h∈s)) (o:=λh=>[aA (s++[h])]) (List.range n) λh hh=>⟨_,rfl,bZ ((au (x:=nI h) (y:=aA s) rfl rfl).trans (vz s h)),λ_=>?_⟩).trans ?_
   ·have hl:=(n9 n i s hs).1
    have:al gC (ai 3) (a7 (aa (ai 4) (ah))) [.v (nI n),.own ((cU n i).map aA),.v d,.v (aA s),.v (nI h)]=some (aA (s++[h])):=by
     refine(au (x:=aA s) (y:=.tup [nI h]) rfl (bB rfl (by simp))).trans ?_
     show(if _ then _ else _)=_
     rw[if_pos (Nat.le_trans (show(s.map nI).length+ [nI h].length<=900 by rw[List.length_map];simp;omega) (by decide))]
     show some (D.tup _)=some (D.tup _);rw[List.map_append];rfl
    exact congrArg (Option.map λd=>[d]) this
   ·rw[List.map_map]
    congr 1
    generalize (List.range n).filter _=l
    induction l with
    |nil=>rfl
    |cons a l ih=>rw[List.flatMap_cons,List.map_cons,ih];rfl
  ·have e:(cU n i).filter (λ_=>true)=cU n i:=List.filter_eq_self.mpr λ_ _=>rfl
   rw[e];show some (List.flatMap _ (cU n i))=some (List.map aA (List.flatMap _ (cU n i)));rw[List.map_flatMap]) [.v (nI n),.own ((cU n 0).map aA),.no] ⟨_,rfl⟩
 have hl:0+((List.range n).map nI).length=n:=by simp
 rw[hl] at hρ;subst hρ;rw[az ((c4 (ds:=(List.range n).map nI) (br (cf (n:=n) rfl (by omega)))).trans lp)]
 exact⟨_,rfl⟩
theorem uk {i:Nat}{f:FE}{ρ:aC}{bs ds:List D}(h1:f ρ=some (.lst ds))(h2:eP i ρ=some bs)(h3:bs.length+ds.length<=900):bU (jo i f) ρ=.nx (eI i (bs++ds) ρ):=by
 refine kZ (d:=.non) ?_
 unfold jo;rw[h1];dsimp only;rw[h2];dsimp only;rw[if_pos (Nat.le_trans h3 (by decide))]
def mf(n:Nat)(s:List Nat):List (List Nat):=((List.range n).filter λh=> !decide (h∈s)).map λh=>s++[h]
theorem mD {n:Nat}(hn:n<=6)(A B:Sl): ∀(l F:List (List Nat)) (s4:Sl),(∀s∈l,s.length<=6)->F.length+(l.flatMap (mf n)).length<=800-> ∃s4',dv (gN 4) (bU (jo 3 (aY 1 (bq (aa (ai 0) (ah))) (gN 5) (bb (al (oJ true) (ai 5) (ai 4))) (al gC (ai 4) (a7 (aa (ai 5) (ah))))))) (l.map aA) [.v (nI n),A,B,.own (F.map aA),s4]=.nx [.v (nI n),A,B,.own ((F++l.flatMap (mf n)).map aA),s4']
 | [],F,s4,_,_=>⟨s4,by rw[List.flatMap_nil,List.append_nil];rfl⟩
 |s::l,F,s4,hs,h=>by
  rw[List.flatMap_cons,List.length_append] at h;obtain⟨s4',ih⟩:=mD hn A B l (F++mf n s) (.v (aA s)) (λt ht=>hs t (List.mem_cons_of_mem _ ht)) (by rw[List.length_append];omega)
  refine⟨s4',?_⟩
  have cp:aY 1 (bq (aa (ai 0) (ah))) (gN 5) (bb (al (oJ true) (ai 5) (ai 4))) (al gC (ai 4) (a7 (aa (ai 5) (ah)))) [.v (nI n),A,B,.own (F.map aA),.v (aA s)]=some (.lst ((mf n s).map aA)):=by
   refine(cy (ds:=(List.range n).map nI) (cf (n:=n) rfl (by omega)) (by simp;omega) (jE (h:=nI) (o:=λh=>aA (s++[h])) (q:=λh=> !decide (h∈s)) (List.range n) λh hh=>⟨[.v (nI n),A,B,.own (F.map aA),.v (aA s),.v (nI h)],rfl,bZ ((au (x:=nI h) (y:=aA s) rfl rfl).trans (vz s h)),λ_=>?_⟩)).trans (by unfold mf;rw[List.map_map];rfl)
   refine(au (x:=aA s) (y:=.tup [nI h]) rfl (bB rfl (by simp))).trans ?_
   show(if _ then _ else _)=_
   have:=hs s List.mem_cons_self
   rw[if_pos (Nat.le_trans (show(s.map nI).length+ [nI h].length<=900 by rw[List.length_map];simp;omega) (by decide))]
   show some (D.tup _)=some (D.tup _);rw[List.map_append];rfl
  have st:bU (jo 3 (aY 1 (bq (aa (ai 0) (ah))) (gN 5) (bb (al (oJ true) (ai 5) (ai 4))) (al gC (ai 4) (a7 (aa (ai 5) (ah)))))) [.v (nI n),A,B,.own (F.map aA),.v (aA s)]=.nx [.v (nI n),A,B,.own ((F++mf n s).map aA),.v (aA s)]:=by
   refine(uk cp (bs:=F.map aA) rfl (by rw[List.length_map,List.length_map];omega)).trans ?_
   rw[List.map_append];rfl
  rw[List.map_cons,cj (ρ1:=[.v (nI n),A,B,.own (F.map aA),.v (aA s)]) rfl st,ih,List.append_assoc,List.flatMap_cons]
theorem zg {n:Nat}(hn:n<=6):fG [nI n]=some (.lst ((cU n n).map aA)):=by
 apply fB (kd:=.s) (n:=5) (t:=jO)
 unfold jO;have s0:aJ 1 (a9 (aa (a7 (ah)) (ah))) (eR 5 [nI n])=.nx [.v (nI n),.v (.lst ((cU n 0).map aA)),.no,.no,.no]:=(bc (cn (ds:=[.tup []]) rfl (by simp))).trans rfl
 rw[az s0];obtain⟨ρ',lp,s2,s3,s4,hρ⟩:=gK (g:=gN 2) (b:=ax (ce 3 (a9 (ah)))
  (ax (cz (b8 (bY (ai 1))) (gN 4) (bU (jo 3 (aY 1 (bq (aa (ai 0) (ah))) (gN 5) (bb (al (oJ true) (ai 5) (ai 4))) (al gC (ai 4) (a7 (aa (ai 5) (ah))))))))
  ((λρ=>(aJ 1 (ai 3)) (l4 3 ρ))))) (P:=λi ρ=> ∃s2 s3 s4,ρ=[.v (nI n),.v (.lst ((cU n i).map aA)),s2,s3,s4]) ((List.range n).map nI) 0 (λd hd i ρ hi hρ=>by
  obtain⟨s2,s3,s4,rfl⟩:=hρ
  have hi:i<n:=by simpa using hi
  have q1:ce 3 (a9 (ah)) [.v (nI n),.v (.lst ((cU n i).map aA)),.v d,s3,s4]=.nx [.v (nI n),.v (.lst ((cU n i).map aA)),.v d,.own (([]:List (List Nat)).map aA),s4]:=(dW (cn rfl (by simp))).trans rfl
  obtain⟨s4',il⟩:=mD hn (.v (.lst ((cU n i).map aA))) (.v d) (cU n i) [] s4 (λs hs=>by have:=(n9 n i s hs).1;omega) (by have:=ie n hn (i+1) hi;show 0+(cU n (i+1)).length<=800;omega)
  have q2:cz (b8 (bY (ai 1))) (gN 4) (bU (jo 3 (aY 1 (bq (aa (ai 0) (ah))) (gN 5) (bb (al (oJ true) (ai 5) (ai 4))) (al gC (ai 4) (a7 (aa (ai 5) (ah))))))) [.v (nI n),.v (.lst ((cU n i).map aA)),.v d,.own (([]:List (List Nat)).map aA),s4]=.nx [.v (nI n),.v (.lst ((cU n i).map aA)),.v d,.own ((cU n (i+1)).map aA),s4']:=(c4 (ds:=(cU n i).map aA) (br (dM rfl))).trans il
  exact⟨_,[.v (nI n),.v (.lst ((cU n (i+1)).map aA)),.v d,.v (.lst ((cU n (i+1)).map aA)),s4'],rfl,(az q1).trans ((az q2).trans rfl),_,_,_,rfl⟩) [.v (nI n),.v (.lst ((cU n 0).map aA)),.no,.no,.no] ⟨_,_,_,rfl⟩
 have hl:0+((List.range n).map nI).length=n:=by simp
 rw[hl] at hρ;subst hρ;rw[az ((c4 (ds:=(List.range n).map nI) (br (cf (n:=n) rfl (by omega)))).trans lp)]
 exact⟨_,bo rfl⟩
theorem oZ {f g:Nat->Int}: ∀ {l:List Nat},(∀x∈l,f x<=g x)->ls l f<=ls l g
 | [],_=>Int.le_refl _
 |a::l,h=>by
  rw[cm,cm];have h1:=h a List.mem_cons_self
  have h2:=oZ (l:=l) λx hx=>h x (List.mem_cons_of_mem _ hx)
  omega
theorem xf: ∀n,n<=6-> ∀i,i<n->ls (List.range n) (λc=>bi (decide (i<=c)))=(n:Int) -i:=by decide+kernel
theorem Bz: ∀n,n<=6->ls (List.range n) (λi=>(n:Int) -i-i)=n:=by decide+kernel
def fI(n:Nat)(r o:List Nat):Int:=u3 n r o+um n r o
theorem An(n:Nat)(r o:List Nat):fI n r o=ls (List.range n) λi=>ls (List.range n) λc=>bi (decide (i<=c)&&decide (o.getD i 0<=r.getD c 0))+bi (decide (c<i)&&decide (r.getD c 0<o.getD i 0)):=by
 unfold fI u3 um;rw[nn (λc i=>bi (decide (c<i)&&decide (r.getD c 0<o.getD i 0))),<-cw]
 exact aK λi _=>by rw[cw]
theorem sI {n:Nat}(hn:n<=6)(r o:List Nat):fI n r o<=n*n:=by
 rw[An];have:(ls (List.range n) λi=>ls (List.range n) λ_=>(1:Int))=n*n:=by
  rw[show(λi=>ls (List.range n) λ_=>(1:Int))=λ_=>(n:Int) from funext λ_=>by rw[du,List.length_range];omega,du,List.length_range]
 rw[<-this];refine oZ λi _=>oZ λc _=>?_
 by_cases h:i<=c
 ·rw[decide_eq_true h,decide_eq_false (show¬c<i by omega),Bool.true_and,Bool.false_and]
  unfold bi;split<;>simp
 ·rw[decide_eq_false h,Bool.false_and]
  have:bi (decide (c<i)&&decide (r.getD c 0<o.getD i 0))<=1:=by
   generalize (decide (c<i)&&decide (r.getD c 0<o.getD i 0))=b
   cases b<;>decide
  show bi false+_<=1;have e:bi false=0:=rfl
  omega
theorem tI {n:Nat}(hn:n<=6){r o:List Nat}(R:Ord n r)(O:Ord n o):(n:Int)<=fI n r o:=by
 rw[An];have low: ∀i,i<n->(n:Int) -i- (o.getD i 0:Nat)<=ls (List.range n) λc=>bi (decide (i<=c)&&decide (o.getD i 0<=r.getD c 0))+bi (decide (c<i)&&decide (r.getD c 0<o.getD i 0)):=λi hi=>by
  have hv:=O.get hi
  have e1:=xf n hn i hi
  have e2:ls (List.range n) (λc=>bi (decide (o.getD i 0<=r.getD c 0)))=(n:Int) - (o.getD i 0:Nat):=by
   rw[nq R (λv=>bi (decide (o.getD i 0<=v)))]
   exact xf n hn _ hv
  have e3:ls (List.range n) (λc=>(bi (decide (i<=c))+bi (decide (o.getD i 0<=r.getD c 0))) -1)=(n:Int) -i- (o.getD i 0:Nat):=by
   rw[bS,cw,e1,e2,du,List.length_range];omega
  rw[<-e3];refine oZ λc _=>?_
  rw[gJ,gJ,eg,eg];unfold bi;split<;>split<;>simp
 have e4:ls (List.range n) (λi=>(n:Int) -i- (o.getD i 0:Nat))=n:=by
  have a1:=Bz n hn
  have a2:ls (List.range n) (λi=>((o.getD i 0:Nat):Int))=ls (List.range n) λi=>(i:Int):=nq O (λv=>(v:Int))
  rw[bS] at a1⊢;rw[a2];exact a1
 have:=oZ (l:=List.range n) λi hi=>low i (List.mem_range.mp hi)
 rw[e4] at this;exact this
theorem uf(n:Nat)(r o:List Nat):eF n r o=fO n o-fI n r o+fO n r+1:=by unfold eF fI;omega
theorem kO {l:List Int}(nd:l.Nodup){lo:Int}{m:Nat}(h: ∀z∈l,lo<=z/\z<lo+m):l.length<=m:=by
 have:(l.map λz=>(z-lo).toNat).length<=m:=gI (by
  show List.Pairwise (·≠ ·) _
  rw[List.pairwise_map];refine nd.imp_of_mem λ{a b} ha hb e q=>e ?_
  have h1:=h a ha;have h2:=h b hb
  omega) λz hz=>by
   obtain⟨y,hy,rfl⟩:=List.mem_map.mp hz
   have:=h y hy
   omega
 rwa [List.length_map] at this
theorem kS(p:Int): ∀(L kvs:List (Int×Int)),p∈(L.foldl gD kvs).map (·.1)->p∈kvs.map (·.1)\/p∈L.map (·.1)
 | [],kvs,h=>.inl h
 |q::L,kvs,h=>by
  rw[List.foldl_cons] at h;rcases kS p L _ h with h|h
  ·have h:p∈(jw kvs q.1 (vI kvs q.1+q.2)).map (·.1):=h
   rw[j4] at h;split at h
   ·exact .inl h
   ·rcases List.mem_append.mp h with h|h
    ·exact .inl h
    ·rw[List.mem_singleton.mp h];exact .inr List.mem_cons_self
  ·exact .inr (List.mem_cons_of_mem _ h)
section
variable {n:Nat}{r x:List Nat}{S:Nat->Nat}(R:Ord n r)(X:Ord n x)(H:Sg n r x S)(hn:n<=6)
include R X H hn
noncomputable def kz(n:Nat)(r x:List Nat)(S:Nat->Nat)(o:List Nat):Int:=eF n r o-eF n x o-n+((List.range n).filter (eO S)).length
def Du(g:Int):Int:=if g % 2=0 then 1 else -1
noncomputable def su(n:Nat)(r x:List Nat)(S:Nat->Nat)(o:List Nat):Int×Int:=(kz n r x S o,Du (eF n r o))
theorem zG {o:List Nat}(O:Ord n o):fE [bO r x,aA o]=some (.tup [.int (eF n r o),.int (kz n r x S o)]):=
 cu (kd:=.s) (n:=2) (t:=mE) (bo (bB (aq ((bw (ds:=[bO r x,aA o]) rfl rfl).trans (wJ R O (by omega))) (aq ((bw (ds:=[bO r x,aA o]) rfl rfl).trans (yX R X H (by omega) O)) rfl)) (by simp)))
theorem vG {o:List Nat}(O:Ord n o):c9 [bO r x,aA o]=some (.tup [.int (eF n r o),.int (kz n r x S o)]):=by
 apply cu (kd:=.s) (n:=4) (t:=iD)
 unfold iD;have hr:=R.len;have hx:=X.len;have ho:=O.len
 have q1:xO 2 3 (aa (aj (nF 2 bH) (aa (al aT (ai 0) (ay (.int 0))) (aa (ai 1) (ah)))) (aa (aj (nF 2 bH) (aa (al aT (ai 0) (ay (.int 1))) (aa (ai 1) (ah)))) (ah))) (eR 4 [bO r x,aA o])=.nx [.v (bO r x),.v (aA o),.v (.int (eF n r o)),.v (.int (eF n x o))]:=by
  have e:aa (aj (nF 2 bH) (aa (al aT (ai 0) (ay (.int 0))) (aa (ai 1) (ah)))) (aa (aj (nF 2 bH) (aa (al aT (ai 0) (ay (.int 1))) (aa (ai 1) (ah)))) (ah)) (eR 4 [bO r x,aA o])=some [.int (eF n r o),.int (eF n x o)]:=
   aq ((bw (ds:=[aA r,aA o]) rfl rfl).trans (ki hr ho (by omega))) (aq ((bw (ds:=[aA x,aA o]) rfl rfl).trans (ki hx ho (by omega))) rfl)
  unfold xO;rw[e];rfl
 refine(az q1).trans (bo (bB (aq rfl (aq ?_ rfl)) (by simp)))
 refine(au ((au ((au (x:=.int (eF n r o)) (y:=.int (eF n x o)) rfl rfl).trans (cX _ _)) (ee o _ _ rfl)).trans (cX _ _)) ((bw (ds:=[bO r x]) rfl rfl).trans (mQ R H (by omega)))).trans ?_
 rw[b6,ho];rfl
theorem wZ:(jY ((cU n n).map (su n r x S))).length<64:=by
 have nd:((jY ((cU n n).map (su n r x S))).map (·.1)).Nodup:=kG ((cU n n).map (su n r x S)) [] List.nodup_nil
 have hm:(n:Int)*n<=36:=by
  have:n*n<=6*6:=Nat.mul_le_mul hn hn
  omega
 have key: ∀z∈(jY ((cU n n).map (su n r x S))).map (·.1),(fO n r-fO n x-n+((List.range n).filter (eO S)).length+n-n*n)<=z/\z<(fO n r-fO n x-n+((List.range n).filter (eO S)).length+n-n*n)+((2*(n*n) -2*n+1:Nat):Int):=λz hz=>by
  rcases kS z _ [] hz with h|h
  ·exact nomatch h
  ·rw[List.map_map] at h
   obtain⟨o,ho,rfl⟩:=List.mem_map.mp h
   have O:=ib ho
   show _<=kz n r x S o/\kz n r x S o<_;have a1:=tI hn R O;have a2:=sI hn r o
   have b1:=tI hn X O;have b2:=sI hn x o
   unfold kz;rw[uf,uf];have hnn:n<=n*n:=by
    rcases Nat.eq_zero_or_pos n with h|h
    ·rw[h];exact Nat.zero_le _
    ·exact Nat.le_mul_of_pos_left n h
   have c1:((2*(n*n) -2*n+1:Nat):Int)=2*((n:Int)*n) -2*n+1:=by
    have:((n*n:Nat):Int)=(n:Int)*n:=by push_cast;rfl
    omega
   rw[c1];omega
 have:=kO nd key
 rw[List.length_map] at this;have h36:n*n-n<=30:=by
  rcases Nat.lt_or_ge n 6 with h|h
  ·have:n*n<=5*5:=Nat.mul_le_mul (by omega) (by omega)
   omega
  ·have:n=6:=by omega
   subst this;decide
 omega
theorem vb(h2:2<=n):cG [bO r x]=some (.lst ((cc ((cU n n).map (su n r x S))).map pD)):=by
 apply fB (kd:=.n) (n:=2) (t:=gq)
 unfold gq;have hr:=R.len
 have sl:=ie n hn n (Nat.le_refl _)
 have q1:aJ 1 (aY 1 (bY (aj (nF 1 dB) (aa (aj bX (aa (al aT (ai 0) (ay (.int 0))) (ah))) (ah)))) (gN 2) (cF) (aj (nF 2 fE) (aa (ai 0) (aa (ai 2) (ah))))) (eR 2 [bO r x])=.nx [.v (bO r x),.v (.lst ((cU n n).map λo=>D.tup [.int (eF n r o),.int (kz n r x S o)]))]:=by
  refine(bc (cy (ds:=(cU n n).map aA) (dM ((bw (ds:=[nI n]) (aq (hr▸ee r _ _ rfl) rfl) rfl).trans (y4 hn))) (by rw[List.length_map];omega) (cg (h:=aA) (o:=λo=>D.tup [.int (eF n r o),.int (kz n r x S o)]) (cU n n) λo ho=>⟨_,rfl,(bw (ds:=[bO r x,aA o]) rfl rfl).trans (zG R X H hn (ib ho))⟩))).trans rfl
 rw[az q1];have cp:aY 2 (bY (ai 1)) (gT 2 (bL (gN 2) (bL (gN 3) (eC)))) (cF) (a7 (aa (ai 3) (aa (zU (bb (al lU (al bp (ai 2) (ay (.int 2))) (ay (.int 0)))) (ay (.int 1)) (cQ (ay (.int 1)))) (ah)))) [.v (bO r x),.v (.lst ((cU n n).map λo=>D.tup [.int (eF n r o),.int (kz n r x S o)]))]=some (.lst (((cU n n).map (su n r x S)).map pD)):=by
  refine(cy (ds:=(cU n n).map λo=>D.tup [.int (eF n r o),.int (kz n r x S o)]) (dM rfl) (by rw[List.length_map];omega) (cg (h:=λo=>D.tup [.int (eF n r o),.int (kz n r x S o)]) (o:=λo=>pD (su n r x S o)) (cU n n) λo ho=>⟨[.v (bO r x),.v (.lst ((cU n n).map λo=>D.tup [.int (eF n r o),.int (kz n r x S o)])),.v (.int (eF n r o)),.v (.int (kz n r x S o))],rfl,?_⟩)).trans (by rw[List.map_map];rfl)
  have c:bb (al lU (al bp (ai 2) (ay (.int 2))) (ay (.int 0))) [.v (bO r x),.v (.lst ((cU n n).map λo=>D.tup [.int (eF n r o),.int (kz n r x S o)])),.v (.int (eF n r o)),.v (.int (kz n r x S o))]=some (decide (eF n r o % 2=0)):=bZ ((au ((au (x:=.int (eF n r o)) (y:=.int 2) rfl rfl).trans (cb (by decide))) (y:=.int 0) rfl).trans (by rw[iR (by rw[cq];omega),eU]))
  refine bB (aq rfl (aq (d:=.int (Du (eF n r o))) ?_ rfl)) (by simp)
  unfold Du
  by_cases h:eF n r o % 2=0
  ·rw[decide_eq_true h] at c
   rw[if_pos h];exact(Dw c).trans rfl
  ·rw[decide_eq_false h] at c
   rw[if_neg h];exact(Dj c).trans rfl
 exact⟨_,bo ((bw (ds:=[.lst (((cU n n).map (su n r x S)).map pD)]) (aq cp rfl) rfl).trans (fM _ (by rw[List.length_map];omega) (wZ R X H hn)))⟩
theorem qB(A:D): ∀(l:List (List Nat)) (F:List (Int×Int)) (s2 s3 s4:Sl),(∀o∈l,Ord n o)->F.length+l.length<=800-> ∃s2' s3' s4',dv (gN 2) (ax (dm (gT 2 (bL (gN 3) (bL (gN 4) (eC)))) (pu (aj (nF 2 c9) (aa (ai 0) (aa (ai 2) (ah))))))
 (bU (aO 1 1 gY (b8 (aa (a7 (aa (ai 4) (aa (al aT (a9 (aa (ay (.int 1)) (aa (cQ (ay (.int 1))) (ah)))) (al bp (ai 3) (ay (.int 2)))) (ah)))) (ah)))))) (l.map aA) [.v (bO r x),.own (F.map pD),s2,s3,s4]=.nx [.v (bO r x),.own ((F++l.map (su n r x S)).map pD),s2',s3',s4']
 | [],F,s2,s3,s4,_,_=>⟨s2,s3,s4,by rw[List.map_nil,List.map_nil,List.append_nil];rfl⟩
 |o::l,F,s2,s3,s4,ho,h=>by
  rw[List.length_cons] at h;obtain⟨s2',s3',s4',ih⟩:=qB A l (F++[su n r x S o]) (.v (aA o)) (.v (.int (eF n r o))) (.v (.int (kz n r x S o))) (λt ht=>ho t (List.mem_cons_of_mem _ ht)) (by rw[List.length_append];simp;omega)
  refine⟨s2',s3',s4',?_⟩
  have O:=ho o List.mem_cons_self
  have z1:dm (gT 2 (bL (gN 3) (bL (gN 4) (eC)))) (pu (aj (nF 2 c9) (aa (ai 0) (aa (ai 2) (ah))))) [.v (bO r x),.own (F.map pD),.v (aA o),s3,s4]=.nx [.v (bO r x),.own (F.map pD),.v (aA o),.v (.int (eF n r o)),.v (.int (kz n r x S o))]:=k8 (kr ((bw (ds:=[bO r x,aA o]) rfl rfl).trans (vG R X H hn O))) rfl
  have ix:al aT (a9 (aa (ay (.int 1)) (aa (cQ (ay (.int 1))) (ah)))) (al bp (ai 3) (ay (.int 2))) [.v (bO r x),.own (F.map pD),.v (aA o),.v (.int (eF n r o)),.v (.int (kz n r x S o))]=some (.int (Du (eF n r o))):=by
   refine(au (x:=.lst [.int 1,.int (-1)]) (cn rfl (by simp)) ((au (x:=.int (eF n r o)) (y:=.int 2) rfl rfl).trans (cb (by decide)))).trans ?_
   unfold Du;have:eF n r o % 2=0\/eF n r o % 2=1:=by omega
   rcases this with h|h<;>rw[h]<;>rfl
  have z2:bU (aO 1 1 gY (b8 (aa (a7 (aa (ai 4) (aa (al aT (a9 (aa (ay (.int 1)) (aa (cQ (ay (.int 1))) (ah)))) (al bp (ai 3) (ay (.int 2)))) (ah)))) (ah)))) [.v (bO r x),.own (F.map pD),.v (aA o),.v (.int (eF n r o)),.v (.int (kz n r x S o))]=.nx [.v (bO r x),.own ((F++[su n r x S o]).map pD),.v (aA o),.v (.int (eF n r o)),.v (.int (kz n r x S o))]:=by
   refine(sj (b0:=F.map pD) (bs:=F.map pD) (d:=pD (su n r x S o)) rfl (br (aq (bB (aq rfl (aq ix rfl)) (by simp)) rfl)) rfl (by rw[List.length_map];omega)).trans ?_
   rw[List.map_append];rfl
  rw[List.map_cons,cj (ρ1:=[.v (bO r x),.own (F.map pD),.v (aA o),s3,s4]) rfl ((az z1).trans z2),ih,List.append_assoc];rfl
theorem qP(h2:2<=n):cO [bO r x]=some (.lst ((cc ((cU n n).map (su n r x S))).map pD)):=by
 apply fB (kd:=.n) (n:=5) (t:=fS)
 unfold fS;have hr:=R.len
 have sl:=ie n hn n (Nat.le_refl _)
 have q1:ce 1 (a9 (ah)) (eR 5 [bO r x])=.nx [.v (bO r x),.own (([]:List (Int×Int)).map pD),.no,.no,.no]:=(dW (cn rfl (by simp))).trans rfl
 obtain⟨s2,s3,s4,lp⟩:=qB R X H hn .non (cU n n) [] .no .no .no (λo ho=>ib ho) (by simp;omega)
 have q2:=(c4 (g:=gN 2) (b:=ax (dm (gT 2 (bL (gN 3) (bL (gN 4) (eC)))) (pu (aj (nF 2 c9) (aa (ai 0) (aa (ai 2) (ah))))))
  (bU (aO 1 1 gY (b8 (aa (a7 (aa (ai 4) (aa (al aT (a9 (aa (ay (.int 1)) (aa (cQ (ay (.int 1))) (ah)))) (al bp (ai 3) (ay (.int 2)))) (ah)))) (ah)))))) (f:=b8 (bY (aj (nF 1 fG) (aa (aj bX (aa (al aT (ai 0) (ay (.int 0))) (ah))) (ah))))) (ρ:=[.v (bO r x),.own (([]:List (Int×Int)).map pD),.no,.no,.no]) (ds:=(cU n n).map aA) (br (dM ((bw (ds:=[nI n]) (aq (hr▸ee r _ _ rfl) rfl) rfl).trans (zg hn))))).trans lp
 rw[az q1,az q2];refine⟨_,bo ((bw (ds:=[.lst (((cU n n).map (su n r x S)).map pD)]) rfl rfl).trans (fM _ (by rw[List.length_map];omega) (wZ R X H hn)))⟩
end
set_option maxHeartbeats 1000000
theorem wE(n:Nat): ∀k,(cU n k).Nodup
 |0=>by simp[cU]
 |k+1=>by
  show List.Pairwise (·≠ ·) _
  unfold cU;rw[List.pairwise_flatMap];refine⟨λa _=>?_,?_⟩
  ·rw[List.pairwise_map]
   exact(List.Pairwise.filter _ (show List.Pairwise (·≠ ·) (List.range n) from List.nodup_range)).imp λne e=>ne (by simpa using e)
  ·refine(show List.Pairwise (·≠ ·) (cU n k) from wE n k).imp λne x hx y hy e=>ne ?_
   obtain⟨v,_,rfl⟩:=List.mem_map.mp hx
   obtain⟨w,_,rfl⟩:=List.mem_map.mp hy
   exact(List.append_inj' e rfl).1
theorem xT(n:Nat): ∀(k:Nat) (s:List Nat),s.length=k->s.Nodup->(∀v∈s,v<n)->s∈cU n k
 |0,s,e,_,_=>by rw[List.length_eq_zero_iff.mp e];exact List.mem_singleton.mpr rfl
 |k+1,s,e,nd,lt=>by
  rcases List.eq_nil_or_concat s with rfl|⟨t,v,rfl⟩
  ·cases e
  ·rw[List.concat_eq_append] at*
   rw[List.nodup_append] at nd;unfold cU;rw[List.mem_flatMap];refine⟨t,xT n k t (by simpa using e) nd.1 (λv hv=>lt v (List.mem_append_left _ hv)),List.mem_map.mpr ⟨v,List.mem_filter.mpr ⟨List.mem_range.mpr (lt v (by simp)),?_⟩,rfl⟩⟩
   have:v∉t:=λh=>nd.2.2 v h v (by simp) rfl
   simp[this]
theorem DD(n:Nat):StL n (cU n n):=⟨λo ho=>ib ho,wE n n,λo ho a b ha hb=>by
 have E:Ord n (fD o a b):=(ib ho).exM ha hb
 exact xT n n _ E.len (E.perm.nodup_iff.mpr List.nodup_range) λv hv=>E.lt hv⟩
theorem xZ {f:Nat->Int}: ∀ {l:List Nat},(∀x∈l,(f x).natAbs<=1)->(pm l f).natAbs<=1
 | [],_=>by simp[pm]
 |a::l,h=>by
  have h1:=h a List.mem_cons_self
  have h2:=xZ λx hx=>h x (List.mem_cons_of_mem a hx)
  show(f a*pm l f).natAbs<=1;rw[Int.natAbs_mul];exact Nat.mul_le_mul h1 h2
theorem By(n:Nat)(r x:List Nat)(K:Int)(L:List (List Nat))(k:Nat): ∀q∈vk n r x K L k,q.2.natAbs<=1:=λq hq=>by
 unfold vk at hq;obtain⟨p,hp,rfl⟩:=List.mem_map.mp hq
 unfold qF at hp;obtain⟨o,_,rfl⟩:=List.mem_map.mp hp
 dsimp only;rw[Int.one_mul,Int.natAbs_mul];refine Nat.le_trans (Nat.mul_le_mul (show _<=1 from ?_) (xZ λj _=>?_)) (Nat.le_refl 1)
 ·unfold AA;split<;>decide
 ·unfold cI qc
  split
  ·split
   ·decide
   ·split<;>decide
  ·decide
def Qk(n:Nat)(r x:List Nat)(K:Int)(k:Nat):eQ:=cc (vk n r x K (cU n n) k)
theorem Bg {n:Nat}(hn:n<=6)(r x:List Nat)(K:Int)(k:Nat)(p:Int):(sg (Qk n r x K k) p).natAbs<=720:=by
 unfold Qk;rw[gl];have:=v7 (By n r x K (cU n n) k) p
 have l:(vk n r x K (cU n n) k).length<=720:=by unfold vk qF;rw[List.length_map,List.length_map];exact ie n hn n (Nat.le_refl _)
 omega
theorem kF {n:Nat}{r:List Nat}(x:List Nat)(R:Ord n r)(K:Int){k:Nat}(hk:k+1<n)(p:Int):sg (Qk n r x K k) p=sg (fQ (Qk n r x K (k+1)) D1) p:=xg (DD n) R K hk p
theorem ft(n:Nat)(r x:List Nat)(K:Int)(k:Nat):SumI (Qk n r x K k):=gS _
theorem zc {n:Nat}{r:List Nat}(x:List Nat)(R:Ord n r)(K:Int){k:Nat}(hk:k+1<n):cc (fQ (Qk n r x K (k+1)) D1)=Qk n r x K k:=
 tB (gS _) (ft _ _ _ _ _) λp=>by rw[gl,kF x R K hk]
theorem tK {one q:eQ}(h1:SumI one)(hq:SumI q)(e: ∀p,sg one p=sg (fQ q D1) p){A B:Int}(h: ∀a∈one,A<=a.1/\a.1<=B): ∀a∈q,A+2<=a.1/\a.1<=B:=λa ha=>by
 have sa:sg q a.1=a.2:=hq.sg_mem (p:=a.1) (v:=a.2) ha
 have a0:=hq.1 a ha
 cases el:q.getLast? with
 |none=>rw[List.getLast?_eq_none_iff.mp el] at ha;cases ha
 |some t=>
  cases eh:q.head? with
  |none=>rw[List.head?_eq_none_iff.mp eh] at ha;cases ha
  |some s=>
   obtain⟨t1,t2,t3⟩:=hq.top (t:=t.1) (o:=t.2) el
   obtain⟨s1,s2,s3⟩:=hq.low (t:=s.1) (o:=s.2) eh
   have m1:sg one t.1≠0:=by rw[e,ja,t1,t3 (t.1+2) (by omega)];omega
   have m2:sg one (s.1-2)≠0:=by rw[e,ja,show s.1-2+2=s.1 by omega,s1,s3 (s.1-2) (by omega)];omega
   have b1:=(h _ (h1.mem_sg m1)).2
   have b2:=(h _ (h1.mem_sg m2)).1
   dsimp only at b1 b2;have c1: ¬t.1<a.1:=λw=>a0 (by rw[<-sa];exact t3 _ w)
   have c2: ¬a.1<s.1:=λw=>a0 (by rw[<-sa];exact s3 _ w)
   omega
theorem xI {L:eQ}{A:Int}(h: ∀q∈L,A<=q.1/\q.1<A+63):(jY L).length<64:=by
 have:=kO (m:=63) (kG L [] List.nodup_nil) (lo:=A) λz hz=>by
  rcases kS z L [] hz with w|w
  ·exact nomatch w
  ·obtain⟨q,hq,rfl⟩:=List.mem_map.mp w
   exact h q hq
 rw[List.length_map] at this;exact Nat.lt_of_le_of_lt this (by decide)
theorem oF {S:eQ}(hs:SumI S){A:Int}(h: ∀q∈S,A<=q.1/\q.1<A+63):S.length<=63:=by
 have nd:(S.map (·.1)).Nodup:=by
  show List.Pairwise (·≠ ·) _
  rw[List.pairwise_map];exact hs.2.imp λz e=>by omega
 have:=kO (m:=63) nd (lo:=A) λz hz=>by
  obtain⟨q,hq,rfl⟩:=List.mem_map.mp hz
  exact h q hq
 rwa [List.length_map] at this
theorem qr {L:eQ}{q:Int×Int}(h:q∈cc L): ∃p∈L,p.1=q.1:=by
 obtain⟨z,hz,e⟩:=List.mem_map.mp (((kP L).2 q).mp h).1
 exact⟨z,hz,e⟩
theorem z8 {n:Nat}(h:n<=100000):n<=sizeLine:=Nat.le_trans h (by decide)
theorem Fh(a:Int×Int):fQ [a] D1=[(a.1+ -2,a.2* -1),(a.1+0,a.2*1)]:=rfl
theorem uL {a:Int×Int}(ha:a.2.natAbs<10^200):h7 [.lst ([a].map pD),.lst (D1.map pD)]=some (.lst ((cc (fQ [a] D1)).map pD)):=by
 apply cu (kd:=.n) (n:=2) (t:=nA)
 unfold nA
 let L:eQ:=[a]
 let M:eQ:=D1
 have s1: ∀p∈L,p.2.natAbs<10^200:=λp hp=>by rw[List.mem_singleton.mp hp];exact ha
 have s2: ∀p∈M,p.2.natAbs<10^200:=by decide
 have inner: ∀p∈L,vx (bY (ai 1)) (gT 2 (bL (gN 4) (bL (gN 5) (eC)))) (cF) (a7 (aa (al aZ (ai 2) (ai 4)) (aa (al b9 (ai 3) (ai 5)) (ah)))) [.v (.lst (L.map pD)),.v (.lst (M.map pD)),.v (.int p.1),.v (.int p.2),.no,.no]=some ((M.map λq=>(p.1+q.1,p.2*q.2)).map pD):=λp hp=>by
  refine(rC (ds:=M.map pD) (dM rfl) (gw (h:=pD) (q:=λ_=>true) (o:=λq=>[pD (p.1+q.1,p.2*q.2)]) M λq hq=>⟨[.v (.lst (L.map pD)),.v (.lst (M.map pD)),.v (.int p.1),.v (.int p.2),.v (.int q.1),.v (.int q.2)],rfl,rfl,λ_=>tP (bB (aq ((au (x:=.int p.1) (y:=.int q.1) rfl rfl).trans (b6 _ _)) (aq ((au (x:=.int p.2) (y:=.int q.2) rfl rfl).trans (cV (s1 p hp) (s2 q hq))) rfl)) (by simp))⟩)).trans ?_
  rfl
 have c:=gw (g:=gT 2 (bL (gN 2) (bL (gN 3) (eC)))) (p:=cF) (A:=vx (bY (ai 1)) (gT 2 (bL (gN 4) (bL (gN 5) (eC)))) (cF) (a7 (aa (al aZ (ai 2) (ai 4)) (aa (al b9 (ai 3) (ai 5)) (ah))))) (ρ0:=[.v (.lst (L.map pD)),.v (.lst (M.map pD)),.no,.no,.no,.no]) (h:=pD) (q:=λ_=>true) (o:=λp=>(M.map λq=>(p.1+q.1,p.2*q.2)).map pD) L λp hp=>⟨[.v (.lst (L.map pD)),.v (.lst (M.map pD)),.v (.int p.1),.v (.int p.2),.no,.no],rfl,rfl,λ_=>inner p hp⟩
 have e:jX 4 (bY (ai 0)) (gT 2 (bL (gN 2) (bL (gN 3) (eC)))) (cF) (bY (ai 1)) (gT 2 (bL (gN 4) (bL (gN 5) (eC)))) (cF) (a7 (aa (al aZ (ai 2) (ai 4)) (aa (al b9 (ai 3) (ai 5)) (ah)))) (eR 2 [.lst (L.map pD),.lst (M.map pD)])=some (.lst ((fQ L M).map pD)):=
  nN (ds:=L.map pD) (dM rfl) c (by rw[List.length_map,pw_len];exact show 1*2<=1000 by decide)
 exact bo ((bw (ds:=[.lst ((fQ L M).map pD)]) (aq e rfl) rfl).trans (wW _ (by rw[pw_len];exact show 1*2<64 by decide)))
theorem vC {L M:eQ}{A:Int}(l1:L.length<=70)(l2:M.length<=70)(h: ∀q∈L,A<=q.1/\q.1<A+63)(h': ∀q∈M,A<=q.1/\q.1<A+63):ic [.lst (L.map pD),.lst (M.map pD)]=some (.lst ((cc (L++M.map λq=>(q.1, -q.2))).map pD)):=by
 apply cu (kd:=.n) (n:=2) (t:=nV)
 unfold nV;have c:aY 2 (bY (ai 1)) (gT 2 (bL (gN 2) (bL (gN 3) (eC)))) (cF) (a7 (aa (ai 2) (aa (cQ (ai 3)) (ah)))) (eR 2 [.lst (L.map pD),.lst (M.map pD)])=some (.lst ((M.map λq=>(q.1, -q.2)).map pD)):=
  (cy (ds:=M.map pD) (dM rfl) (by rw[List.length_map];omega) (cg (h:=pD) (o:=λq=>pD (q.1, -q.2)) M λq hq=>⟨[.v (.lst (L.map pD)),.v (.lst (M.map pD)),.v (.int q.1),.v (.int q.2)],rfl,bB (aq rfl (aq rfl rfl)) (by simp)⟩)).trans (by rw[List.map_map];rfl)
 have e:al kj (ai 0) (aY 2 (bY (ai 1)) (gT 2 (bL (gN 2) (bL (gN 3) (eC)))) (cF) (a7 (aa (ai 2) (aa (cQ (ai 3)) (ah))))) (eR 2 [.lst (L.map pD),.lst (M.map pD)])=some (.lst ((L++M.map λq=>(q.1, -q.2)).map pD)):=by
  refine(au (x:=.lst (L.map pD)) rfl c).trans ?_
  rw[List.map_append];show(if _ then _ else _)=_
  rw[if_pos (z8 (by rw[List.length_map,List.length_map,List.length_map];omega))]
 refine bo ((bw (ds:=[.lst ((L++M.map λq=>(q.1, -q.2)).map pD)]) (aq e rfl) rfl).trans (fM _ (by rw[List.length_append,List.length_map];omega) (xI (A:=A) λq hq=>?_)))
 rcases List.mem_append.mp hq with w|w
 ·exact h q w
 ·obtain⟨z,hz,rfl⟩:=List.mem_map.mp w
  exact h' z hz
theorem AK {p:FT}{b:FS}{n:Nat}{ρ ρ2:aC}(h1:p ρ=some true)(h2:b ρ=.nx ρ2):gE p b (n+1) ρ=gE p b n ρ2:=by
 conv=>lhs;unfold gE
 rw[h1];dsimp only;rw[h2]
theorem uh {p:FT}{b:FS}{n:Nat}{ρ:aC}(h1:p ρ=some false):gE p b (n+1) ρ=.nx ρ:=by
 conv=>lhs;unfold gE
 rw[h1]
theorem Av(S:List D)(d:D):aT (.lst (S++[d])) (.int (-1))=some d:=by
 show kI (S++[d]) (-1)=_;unfold kI oo;rw[if_neg (by omega),if_pos (by rw[List.length_append];simp;omega),Option.bind_some]
 have:(-1+((S++[d]).length:Int)).toNat=S.length:=by rw[List.length_append];simp;omega
 rw[this];simp
theorem Dq(d:D)(ds:List D):kI (d::ds) 0=some d:=by
 unfold kI oo;rw[if_pos (by omega),if_pos (by rw[List.length_cons];omega),Option.bind_some];rfl
theorem xc(d:D)(ds:List D):aT (.lst (d::ds)) (.int 0)=some d:=Dq d ds
theorem tU(d:D)(ds:List D):aT (.tup (d::ds)) (.int 0)=some d:=Dq d ds
abbrev oP(one left found:eQ)(s6 s7 s8:Sl):aC:=[.v (.lst (one.map pD)),.v (.lst (D1.map pD)),.v (.int 0),.v (.int 1),.v (.lst (left.map pD)),.v (.lst (found.map pD)),s6,s7,s8]
abbrev x0:FS:=(ax (dm (gT 2 (bL (gN 6) (bL (gN 7) (eC)))) (pu (al aT (ai 4) (cQ (ay (.int 1))))))
 (ax (fw (rY (bb (al j7 (al cD (ai 6) (ai 2)) (al cD (al aT (al aT (ai 0) (ay (.int 0))) (ay (.int 0))) (al aT (al aT (ai 1) (ay (.int 0))) (ay (.int 0)))))) (bb (al iF (al bp (ai 7) (ai 3)) (ay (.int 0))))) (nO) (skip))
 (ax (aJ 8 (a9 (aa (a7 (aa (al cD (ai 6) (ai 2)) (aa (al gB (ai 7) (ai 3)) (ah)))) (ah))))
 (ax (aJ 5 (al kj (ai 8) (ai 5)))
 (aJ 4 (aj (nF 2 ic) (aa (ai 4) (aa (aj (nF 2 h7) (aa (ai 8) (aa (ai 1) (ah)))) (ah)))))))))
theorem ya {one left found:eQ}{lo t o A:Int}(h1: ∃v r,one=(lo,v)::r)(hl:left.getLast?=some (t,o))(ht:lo+2<=t)(ho:o.natAbs<10^200)(hA:A<=t-2)(lf:found.length<=300)(ll:left.length<=70)(hk: ∀q∈left,A<=q.1/\q.1<A+63)(s6 s7 s8:Sl):x0 (oP one left found s6 s7 s8)=.nx (oP one (qp left (t,o) D1) ((t,o)::found) (.v (.int t)) (.v (.int o)) (.v (.lst ([(t,o)].map pD)))):=by
 obtain⟨v1,r1,rfl⟩:=h1
 obtain⟨l',e'⟩: ∃l',left=l'++[(t,o)]:=by
  rcases List.eq_nil_or_concat left with rfl|⟨l',a,rfl⟩
  ·cases hl
  ·rw[List.concat_eq_append] at hl⊢
   rw[List.getLast?_append] at hl;exact⟨l',by simpa using hl⟩
 have tk:=hk (t,o) (by rw[e'];simp)
 dsimp only at tk;have p1:dm (gT 2 (bL (gN 6) (bL (gN 7) (eC)))) (pu (al aT (ai 4) (cQ (ay (.int 1))))) (oP ((lo,v1)::r1) left found s6 s7 s8)=.nx (oP ((lo,v1)::r1) left found (.v (.int t)) (.v (.int o)) s8):=
  k8 (d:=pD (t,o)) (kr ((au (x:=.lst (left.map pD)) (y:=.int (-1)) rfl rfl).trans (by rw[e',List.map_append];exact Av _ _))) rfl
 have c1:bb (al j7 (al cD (ai 6) (ai 2)) (al cD (al aT (al aT (ai 0) (ay (.int 0))) (ay (.int 0))) (al aT (al aT (ai 1) (ay (.int 0))) (ay (.int 0))))) (oP ((lo,v1)::r1) left found (.v (.int t)) (.v (.int o)) s8)=some false:=by
  refine bZ ((au (x:=.int (t-0)) (y:=.int (lo- -2)) rfl ?_).trans (by rw[i8,decide_eq_false (by omega)]))
  refine(au (x:=.int lo) (y:=.int (-2)) ?_ ?_).trans (cX _ _)
  ·exact(au (x:=pD (lo,v1)) (y:=.int 0) ((au (x:=.lst (((lo,v1)::r1).map pD)) (y:=.int 0) rfl rfl).trans (xc _ _)) rfl).trans (tU _ _)
  ·exact(au (x:=pD (-2, -1)) (y:=.int 0) ((au (x:=.lst (D1.map pD)) (y:=.int 0) rfl rfl).trans (xc _ _)) rfl).trans (tU _ _)
 have c2:bb (al iF (al bp (ai 7) (ai 3)) (ay (.int 0))) (oP ((lo,v1)::r1) left found (.v (.int t)) (.v (.int o)) s8)=some false:=by
  refine bZ ((au (x:=.int 0) (y:=.int 0) ((au (x:=.int o) (y:=.int 1) rfl rfl).trans ?_) rfl).trans (ol (by rw[cq];omega)))
  rw[cb (by omega),Int.emod_one]
 have p2:=lG (t:=nO) (oD c1 c2)
 have p3:aJ 8 (a9 (aa (a7 (aa (al cD (ai 6) (ai 2)) (aa (al gB (ai 7) (ai 3)) (ah)))) (ah))) (oP ((lo,v1)::r1) left found (.v (.int t)) (.v (.int o)) s8)=.nx (oP ((lo,v1)::r1) left found (.v (.int t)) (.v (.int o)) (.v (.lst ([(t,o)].map pD)))):=by
  refine(bc (d:=.lst ([(t,o)].map pD)) (cn (aq (bB (ds:=[.int t,.int o]) (aq ((au (x:=.int t) (y:=.int 0) rfl rfl).trans (by rw[cX,Int.sub_zero])) (aq ((au (x:=.int o) (y:=.int 1) rfl rfl).trans (by rw[jU (by omega) (by decide),Int.ediv_one])) rfl)) (by simp)) rfl) (by simp))).trans rfl
 have p4:aJ 5 (al kj (ai 8) (ai 5)) (oP ((lo,v1)::r1) left found (.v (.int t)) (.v (.int o)) (.v (.lst ([(t,o)].map pD))))=.nx (oP ((lo,v1)::r1) left ((t,o)::found) (.v (.int t)) (.v (.int o)) (.v (.lst ([(t,o)].map pD)))):=by
  refine(bc (d:=.lst (((t,o)::found).map pD)) ((au (x:=.lst ([(t,o)].map pD)) (y:=.lst (found.map pD)) rfl rfl).trans ?_)).trans rfl
  show(if _ then _ else _)=_
  rw[if_pos (z8 (by rw[List.length_map,List.length_map];simp;omega))]
  rfl
 have tm: ∀q∈cc (fQ [(t,o)] D1),A<=q.1/\q.1<A+63:=λq hq=>by
  obtain⟨p,hp,e⟩:=qr hq
  rw[Fh] at hp;rw[<-e];rcases List.mem_cons.mp hp with rfl|hp
  ·dsimp only;omega
  ·rw[List.mem_singleton.mp hp];dsimp only;omega
 have p5:aJ 4 (aj (nF 2 ic) (aa (ai 4) (aa (aj (nF 2 h7) (aa (ai 8) (aa (ai 1) (ah)))) (ah)))) (oP ((lo,v1)::r1) left ((t,o)::found) (.v (.int t)) (.v (.int o)) (.v (.lst ([(t,o)].map pD))))=.nx (oP ((lo,v1)::r1) (qp left (t,o) D1) ((t,o)::found) (.v (.int t)) (.v (.int o)) (.v (.lst ([(t,o)].map pD)))):=by
  refine(bc ((bw (ds:=[.lst (left.map pD),.lst ((cc (fQ [(t,o)] D1)).map pD)]) (aq rfl (aq ((bw (ds:=[.lst ([(t,o)].map pD),.lst (D1.map pD)]) rfl rfl).trans (uL ho)) rfl)) rfl).trans (vC ll (Nat.le_trans (xE _) (by rw[Fh];exact show 2<=70 by decide)) hk tm))).trans rfl
 exact(az p1).trans ((az p2).trans ((az p3).trans ((az p4).trans p5)))
theorem Ax {one:eQ}{lo A:Int}(h1: ∃v r,one=(lo,v)::r): ∀(n:Nat) (q:eQ),q.length=n->SumI q->(∀a∈q,lo+2<=a.1/\A+2<=a.1/\a.1<A+63)->(∀a∈q,a.2.natAbs<10^200)-> ∀(left found:eQ) (f:Nat) (s6 s7 s8:Sl),SumI left->(∀p,sg left p=sg (fQ q D1) p)->n<f->found.length+n<=250-> ∃s6' s7' s8',gE (fY (ai 4)) x0 f (oP one left found s6 s7 s8)=.nx (oP one [] (q++found) s6' s7' s8')
 |n,q,en,hq,hb,hc,left,found,0,s6,s7,s8,hL,e,hf,lf=>absurd hf (Nat.not_lt_zero _)
 |0,q,en,hq,hb,hc,left,found,f+1,s6,s7,s8,hL,e,hf,lf=>by
  have:q=[]:=List.length_eq_zero_iff.mp en
  subst this;have:left=[]:=yY hL λp=>by rw[e,n8]
  subst this;exact⟨s6,s7,s8,uh rfl⟩
 |n+1,q,en,hq,hb,hc,left,found,f+1,s6,s7,s8,hL,e,hf,lf=>by
  rcases List.eq_nil_or_concat q with rfl|⟨q',a,rfl⟩
  ·cases en
  ·rw[List.concat_eq_append] at*
   obtain⟨s,c⟩:=a
   obtain⟨hq',ab⟩:=hq.init
   have ml:(s,c)∈q'++[(s,c)]:=List.mem_append_right _ (List.mem_singleton.mpr rfl)
   have c0:c≠0:=hq.1 (s,c) ml
   have bs:=hb (s,c) ml
   dsimp only at bs;have off: ∀p,s<=p->sg q' p=0:=λp hp=>gH λz hz=>by have:=ab z hz;dsimp only at this;omega
   have one1: ∀p,sg [((s,c):Int×Int)] p=if s=p then c else 0:=λp=>by
    rw[dX,lB];split<;>simp
   have tp:left.getLast?=some (s,c):=by
    refine hL.top_is c0 ?_ λp hp=>?_
    ·rw[e,ja,jS,jS,off s (by omega),off (s+2) (by omega),one1,one1,if_pos rfl,if_neg (by omega)];omega
    ·rw[e,ja,jS,jS,off p (by omega),off (p+2) (by omega),one1,one1,if_neg (by omega),if_neg (by omega)];rfl
   have kl: ∀z∈left,A<=z.1/\z.1<A+63:=λz hz=>by
    have sz:sg left z.1=z.2:=hL.sg_mem (p:=z.1) (v:=z.2) hz
    have z0:=hL.1 z hz
    rw[e,ja] at sz
    by_cases w:sg (q'++[(s,c)]) z.1=0
    ·have w2:sg (q'++[(s,c)]) (z.1+2)≠0:=by omega
     have:=hb _ (hq.mem_sg w2)
     dsimp only at this;omega
    ·have:=hb _ (hq.mem_sg w)
     dsimp only at this;omega
   obtain⟨s6',s7',s8',ih⟩:=Ax h1 n q' (by simpa using en) hq' (λb hb'=>hb b (List.mem_append_left _ hb')) (λb hb'=>hc b (List.mem_append_left _ hb')) (qp left (s,c) D1) ((s,c)::found) f (.v (.int s)) (.v (.int c)) (.v (.lst ([(s,c)].map pD))) (gS _) (λp=>by rw[yW,e,xy,vX];omega) (by omega) (by rw[List.length_cons];omega)
   refine⟨s6',s7',s8',?_⟩
   have ne:fY (ai 4) (oP one left found s6 s7 s8)=some true:=by
    show A1 (.lst (left.map pD))=_;cases left with
    |nil=>cases tp
    |cons z l=>rfl
   rw[AK ne (ya (A:=A) h1 tp bs.1 (hc (s,c) ml) (by omega) (by omega) (Nat.le_trans (oF hL kl) (by decide)) kl s6 s7 s8),ih,List.append_assoc]
   rfl
theorem ut {one q:eQ}{A:Int}(hs:SumI one)(hq:SumI q)(e: ∀p,sg one p=sg (fQ q D1) p)(hk: ∀a∈one,A<=a.1/\a.1<A+63)(hc: ∀a∈q,a.2.natAbs<10^200):gM [.lst (one.map pD),.lst (D1.map pD)]=some (.lst (q.map pD)):=by
 apply fB (kd:=.s) (n:=9) (t:=lh)
 unfold lh;have p1:dm (gT 2 (bL (gN 2) (bL (gN 3) (eC)))) (pu (al aT (ai 1) (cQ (ay (.int 1))))) (eR 9 [.lst (one.map pD),.lst (D1.map pD)])=.nx [.v (.lst (one.map pD)),.v (.lst (D1.map pD)),.v (.int 0),.v (.int 1),.no,.no,.no,.no,.no]:=
  k8 (d:=pD (0,1)) (kr ((au (x:=.lst (D1.map pD)) (y:=.int (-1)) rfl rfl).trans (Av [pD (-2, -1)] _))) rfl
 have p2:aJ 4 (ai 0) [.v (.lst (one.map pD)),.v (.lst (D1.map pD)),.v (.int 0),.v (.int 1),.no,.no,.no,.no,.no]=.nx [.v (.lst (one.map pD)),.v (.lst (D1.map pD)),.v (.int 0),.v (.int 1),.v (.lst (one.map pD)),.no,.no,.no,.no]:=rfl
 have p3:aJ 5 (a9 (ah)) [.v (.lst (one.map pD)),.v (.lst (D1.map pD)),.v (.int 0),.v (.int 1),.v (.lst (one.map pD)),.no,.no,.no,.no]=.nx (oP one one [] .no .no .no):=(bc (d:=.lst []) (cn rfl (by simp))).trans rfl
 rw[az p1,az p2,az p3];have lp: ∃s6 s7 s8,gE (fY (ai 4)) x0 250 (oP one one [] .no .no .no)=.nx (oP one [] q s6 s7 s8):=by
  cases one with
  |nil=>
   have:q=[]:=by
    cases eh:q.getLast? with
    |none=>exact List.getLast?_eq_none_iff.mp eh
    |some t=>
     obtain⟨t1,t2,t3⟩:=hq.top (t:=t.1) (o:=t.2) eh
     have:=e t.1
     rw[lB,ja,t1,t3 (t.1+2) (by omega)] at this
     omega
   subst this;exact⟨.no,.no,.no,uh rfl⟩
  |cons z l=>
   obtain⟨lo,v⟩:=z
   have in1:=tK hs hq e (A:=A) (B:=A+62) λa ha=>by have:=hk a ha;omega
   have in2:=tK hs hq e (A:=lo) (B:=A+62) λa ha=>by
    have:=hk a ha
    rcases List.mem_cons.mp ha with rfl|w
    ·dsimp only at this⊢;omega
    ·have:=hs.tail.2 a w;dsimp only at this;omega
   have sf:=oF hq (A:=A) λa ha=>by have:=in1 a ha;omega
   obtain⟨s6,s7,s8,h⟩:=Ax (lo:=lo) (A:=A) ⟨v,l,rfl⟩ q.length q rfl hq (λa ha=>by have:=in1 a ha;have:=in2 a ha;omega) hc ((lo,v)::l) [] 250 .no .no .no hs e (by omega) (by rw[List.length_nil];omega)
   rw[List.append_nil] at h;exact⟨s6,s7,s8,h⟩
 obtain⟨s6,s7,s8,h⟩:=lp
 exact⟨_,(az h).trans (bo rfl)⟩
theorem qM {L:eQ}{A:Int}(s1: ∀p∈L,p.2.natAbs<10^200)(hl:L.length<=70)(hk: ∀q∈L,A+2<=q.1/\q.1<A+63):ci [.lst (L.map pD),.lst (D1.map pD)]=some (.lst ((cc (fQ L D1)).map pD)):=by
 apply fB (kd:=.n) (n:=5) (t:=fx)
 unfold fx;have s0:ce 2 (a9 (ah)) (eR 5 [.lst (L.map pD),.lst (D1.map pD)])=.nx [.v (.lst (L.map pD)),.v (.lst (D1.map pD)),.own (([]:List (Int×Int)).map pD),.no,.no]:=(dW (cn rfl (by simp))).trans rfl
 rw[az s0];have s2: ∀p∈D1,p.2.natAbs<10^200:=by decide
 have lp: ∀(K F:List (Int×Int)) (s3 s4:Sl),(∀p∈K,p.2.natAbs<10^200)->F.length+K.length*2<=800-> ∃s3' s4',dv (gT 2 (bL (gN 3) (bL (gN 4) (eC)))) (bU (jo 2 (aY 2 (bY (ai 1)) (gT 2 (bL (gN 5) (bL (gN 6) (eC)))) (cF) (a7 (aa (al aZ (ai 3) (ai 5)) (aa (al b9 (ai 4) (ai 6)) (ah))))))) (K.map pD) [.v (.lst (L.map pD)),.v (.lst (D1.map pD)),.own (F.map pD),s3,s4]=.nx [.v (.lst (L.map pD)),.v (.lst (D1.map pD)),.own ((F++fQ K D1).map pD),s3',s4']:=by
  intro K
  induction K with
  |nil=>intro F s3 s4 _ _;exact⟨s3,s4,by unfold fQ;rw[List.flatMap_nil,List.append_nil];rfl⟩
  |cons p K ih=>
   intro F s3 s4 hK hl;rw[List.length_cons,Nat.succ_mul] at hl;have l2:(D1.map λq=>(p.1+q.1,p.2*q.2)).length=2:=rfl
   obtain⟨s3',s4',e⟩:=ih (F++D1.map λq=>(p.1+q.1,p.2*q.2)) (.v (.int p.1)) (.v (.int p.2)) (λq hq=>hK q (List.mem_cons_of_mem _ hq)) (by rw[List.length_append,l2];omega)
   refine⟨s3',s4',?_⟩
   have cp:aY 2 (bY (ai 1)) (gT 2 (bL (gN 5) (bL (gN 6) (eC)))) (cF) (a7 (aa (al aZ (ai 3) (ai 5)) (aa (al b9 (ai 4) (ai 6)) (ah)))) [.v (.lst (L.map pD)),.v (.lst (D1.map pD)),.own (F.map pD),.v (.int p.1),.v (.int p.2)]=some (.lst ((D1.map λq=>(p.1+q.1,p.2*q.2)).map pD)):=
    (cy (ds:=D1.map pD) (dM rfl) (by rw[List.length_map];exact show 2<=1000 by decide) (cg (h:=pD) (o:=λq=>pD (p.1+q.1,p.2*q.2)) D1 λq hq=>⟨[.v (.lst (L.map pD)),.v (.lst (D1.map pD)),.own (F.map pD),.v (.int p.1),.v (.int p.2),.v (.int q.1),.v (.int q.2)],rfl,bB (aq ((au (x:=.int p.1) (y:=.int q.1) rfl rfl).trans (b6 _ _)) (aq ((au (x:=.int p.2) (y:=.int q.2) rfl rfl).trans (cV (hK p List.mem_cons_self) (s2 q hq))) rfl)) (by simp)⟩)).trans (by rw[List.map_map];rfl)
   have st:=(uk (i:=2) (bs:=F.map pD) cp rfl (by rw[List.length_map,List.length_map,l2];omega))
   have st:bU (jo 2 (aY 2 (bY (ai 1)) (gT 2 (bL (gN 5) (bL (gN 6) (eC)))) (cF) (a7 (aa (al aZ (ai 3) (ai 5)) (aa (al b9 (ai 4) (ai 6)) (ah)))))) [.v (.lst (L.map pD)),.v (.lst (D1.map pD)),.own (F.map pD),.v (.int p.1),.v (.int p.2)]=.nx [.v (.lst (L.map pD)),.v (.lst (D1.map pD)),.own ((F++D1.map λq=>(p.1+q.1,p.2*q.2)).map pD),.v (.int p.1),.v (.int p.2)]:=by
    rw[List.map_append];exact st
   rw[List.map_cons,cj (ρ1:=[.v (.lst (L.map pD)),.v (.lst (D1.map pD)),.own (F.map pD),.v (.int p.1),.v (.int p.2)]) rfl st,e];unfold fQ;rw[List.flatMap_cons,List.append_assoc]
 obtain⟨s3,s4,e⟩:=lp L [] .no .no s1 (by rw[List.length_nil];omega)
 rw[az ((c4 (ds:=L.map pD) (br (dM rfl))).trans e),List.nil_append];show∃ρ,aX (aj (nF 1 cC) (aa (ai 2) (ah))) [.v (.lst (L.map pD)),.v (.lst (D1.map pD)),.v (.lst ((fQ L D1).map pD)),s3,s4]=_;have pl:(fQ L D1).length<=800:=by
  rw[pw_len,show List.length D1=2 from rfl];omega
 refine⟨_,bo ((bw (ds:=[.lst ((fQ L D1).map pD)]) rfl rfl).trans (fM (fQ L D1) pl (xI (A:=A) λq hq=>?_)))⟩
 obtain⟨p,hp,hq⟩:=List.mem_flatMap.mp hq
 have:=hk p hp
 unfold D1 at hq;rcases List.mem_cons.mp hq with rfl|hq
 ·dsimp only;omega
 ·rw[List.mem_singleton.mp hq];dsimp only;omega
section
variable {n:Nat}{r x:List Nat}{S:Nat->Nat}(R:Ord n r)(X:Ord n x)(H:Sg n r x S)(hn:n<=6)
noncomputable def fm(n:Nat)(S:Nat->Nat):Nat:=((List.range n).filter (eO S)).length
noncomputable def sq(n:Nat)(S:Nat->Nat):Int:= -(n:Int)+fm n S
noncomputable def QI(n:Nat)(r x:List Nat)(S:Nat->Nat)(k:Nat):eQ:=Qk n r x (sq n S) k
noncomputable def yh(n:Nat)(r x:List Nat)(S:Nat->Nat):Int:=fO n r-fO n x-n+fm n S+n-n*n
theorem xV:fm n S<=n:=Nat.le_trans (List.length_filter_le _ _) (by rw[List.length_range];exact Nat.le_refl _)
theorem xL(h:0<n):1<=fm n S:=by
 have:(0:Nat)∈(List.range n).filter (eO S):=List.mem_filter.mpr ⟨List.mem_range.mpr h,ledB_iff.mpr λz _=>Nat.zero_le z⟩
 exact List.length_pos_of_mem this
theorem BC:(cU n n).map (su n r x S)=vk n r x (sq n S) (cU n n) 0:=by
 rw[wM];refine List.map_congr_left λo _=>?_
 refine Prod.ext ?_ rfl
 show eF n r o-eF n x o-n+((List.range n).filter (eO S)).length=eF n r o-eF n x o+(-(n:Int)+((List.range n).filter (eO S)).length);omega
include R X hn in
theorem De {o:List Nat}(O:Ord n o):yh n r x S<=kz n r x S o/\kz n r x S o<yh n r x S+63:=by
 have a1:=tI hn R O;have a2:=sI hn r o
 have b1:=tI hn X O;have b2:=sI hn x o
 unfold kz yh fm;rw[uf,uf];have h36:n*n-n<=30:=by
  rcases Nat.lt_or_ge n 6 with h|h
  ·have:n*n<=5*5:=Nat.mul_le_mul (by omega) (by omega)
   omega
  ·have:n=6:=by omega
   subst this;decide
 have hnn:n<=n*n:=by
  rcases Nat.eq_zero_or_pos n with h|h
  ·rw[h];exact Nat.zero_le _
  ·exact Nat.le_mul_of_pos_left n h
 have c1:(n:Int)*n=((n*n:Nat):Int):=by push_cast;rfl
 rw[c1] at*;omega
include R X hn in
theorem tq: ∀k,k<n-> ∀a∈QI n r x S k,yh n r x S<=a.1/\a.1<=yh n r x S+62
 |0,_,a,ha=>by
  unfold QI Qk at ha;rw[<-BC] at ha;obtain⟨p,hp,e⟩:=qr ha
  obtain⟨o,ho,rfl⟩:=List.mem_map.mp hp
  have:=De R X hn (S:=S) (ib ho)
  rw[<-e];show _<=kz n r x S o/\kz n r x S o<=_;omega
 |k+1,hk,a,ha=>by
  have:=tK (ft n r x (sq n S) k) (ft n r x (sq n S) (k+1)) (kF x R (sq n S) hk) (tq k (by omega)) a ha
  omega
include R X hn in
theorem Cb {k:Nat}(hk:k+1<n): ∀a∈QI n r x S (k+1),yh n r x S+2<=a.1/\a.1<yh n r x S+63:=λa ha=>by
 have:=tK (ft n r x (sq n S) k) (ft n r x (sq n S) (k+1)) (kF x R (sq n S) hk) (tq R X hn k (by omega)) a ha
 omega
include hn in
theorem Al(k:Nat): ∀a∈QI n r x S k,a.2.natAbs<10^200:=λa ha=>by
 have e:sg (QI n r x S k) a.1=a.2:=(ft n r x (sq n S) k).sg_mem (p:=a.1) (v:=a.2) ha
 rw[<-e];exact Nat.lt_of_le_of_lt (Bg hn r x (sq n S) k a.1) (by decide)
include R X hn in
theorem wS {k:Nat}(hk:k<n):(QI n r x S k).length<=63:=oF (ft n r x (sq n S) k) (A:=yh n r x S) λa ha=>by have:=tq R X hn k hk a ha;omega
include R X H hn in
theorem B8(h2:2<=n):dg [bO r x]=some (.lst ((QI n r x S (n-fm n S)).map pD)):=by
 have l1:1<=fm n S:=xL (by omega)
 have l2:fm n S<=n:=xV
 have hr:=R.len
 apply fB (kd:=.s) (n:=3) (t:=js)
 unfold js;have e0:cG [bO r x]=some (.lst ((QI n r x S 0).map pD)):=by
  rw[vb R X H hn h2,BC];rfl
 have p1:aJ 1 (aj (nF 1 cG) (aa (ai 0) (ah))) (eR 3 [bO r x])=.nx [.v (bO r x),.v (.lst ((QI n r x S 0).map pD)),.no]:=(bc ((bw (ds:=[bO r x]) rfl rfl).trans e0)).trans rfl
 rw[az p1];obtain⟨L,hL,hlen⟩:=qd R X H (by omega)
 have rg:bq (aa (al cD (aj bX (aa (al aT (ai 0) (ay (.int 0))) (ah))) (aj bX (aa (aj (nF 1 c7) (aa (ai 0) (ah))) (ah)))) (ah)) [.v (bO r x),.v (.lst ((QI n r x S 0).map pD)),.no]=some ((List.range (n-fm n S)).map nI):=by
  refine cf (aq ((au (x:=nI n) (y:=.int (L.length:Int)) (hr▸ee r _ _ rfl) ((cx (ds:=[.lst L]) (aq ((bw (ds:=[bO r x]) rfl rfl).trans hL) rfl)).trans rfl)).trans ?_) rfl) (by omega)
  rw[hlen];show cD (.int (n:Int)) (.int ((fm n S:Nat):Int))=some (.int ((n-fm n S:Nat):Int));rw[cX];congr 2
  omega
 have lp:=gK (g:=gN 2) (b:=aJ 1 (aj (nF 2 gM) (aa (ai 1) (aa (a9 (aa (a7 (aa (cQ (ay (.int 2))) (aa (cQ (ay (.int 1))) (ah)))) (aa (a7 (aa (ay (.int 0)) (aa (ay (.int 1)) (ah)))) (ah)))) (ah))))) (P:=λi ρ=> ∃s2,ρ=[.v (bO r x),.v (.lst ((QI n r x S i).map pD)),s2]) ((List.range (n-fm n S)).map nI) 0 (λd hd i ρ hi hρ=>by
  obtain⟨s2,rfl⟩:=hρ
  rw[List.length_map,List.length_range] at hi;have hk:i+1<n:=by omega
  refine⟨[.v (bO r x),.v (.lst ((QI n r x S i).map pD)),.v d],[.v (bO r x),.v (.lst ((QI n r x S (i+1)).map pD)),.v d],rfl,?_,.v d,rfl⟩
  refine(bc ((bw (ds:=[.lst ((QI n r x S i).map pD),.lst (D1.map pD)]) (aq rfl (aq (cn (ds:=D1.map pD) (aq (bB (ds:=[.int (-2),.int (-1)]) rfl (by simp)) (aq (bB (ds:=[.int 0,.int 1]) rfl (by simp)) rfl)) (by rw[List.length_map];exact show 2<=1000 by decide)) rfl)) rfl).trans (ut (A:=yh n r x S) (ft n r x (sq n S) i) (ft n r x (sq n S) (i+1)) (kF x R (sq n S) hk) (λa ha=>by have:=tq R X hn i (by omega) a ha;omega) (Al hn (i+1))))).trans rfl) [.v (bO r x),.v (.lst ((QI n r x S 0).map pD)),.no] ⟨.no,rfl⟩
 obtain⟨ρ',e,s2,rfl⟩:=lp
 rw[List.length_map,List.length_range,Nat.zero_add] at e;exact⟨_,(az ((c4 (br rg)).trans e)).trans (bo rfl)⟩
end
theorem Aq(o:List Nat):nr (o.map nI)=true:=by
 induction o with
 |nil=>rfl
 |cons a l ih=>rw[List.map_cons];unfold nr;rw[ih];rfl
theorem C6(o:List Int):nr (o.map D.int)=true:=by
 induction o with
 |nil=>rfl
 |cons a l ih=>rw[List.map_cons];unfold nr;rw[ih];rfl
theorem Ah(r x:List Nat):LF (bO r x)=true:=by
 show LF (.tup [aA r,aA x])=true;unfold LF nr LF;rw[Aq];unfold nr LF;rw[Aq];rfl
def szL16:List Nat:=[6,2,3,3,4,4,4,4,4,4,4,4,5,5,3,4]
theorem EY: ∀i,i<16->2<=szL16.getD i 0/\szL16.getD i 0<=6:=by decide
def J9(s:Sl):Prop:=s=.no\/ ∃j:Nat,s=.v (nI j)
def bT:FS:=(ax (mH 7 1 dg (aa (ai 4) (ah)))
 (ax (fw (gd (fY (aj (nF 1 dq) (aa (Aw 7) (ah))))) (aX (ay (.bl false))) (skip))
 (ax (aJ 8 (Aw 7))
 (ax (cz (b8 (bq (aa (al cD (aj bX (aa (al aT (ai 4) (ay (.int 0))) (ah))) (aj (nF 1 bJ) (aa (ai 4) (ah)))) (ah)))) (gN 9) (aJ 8 (aj (nF 2 ci) (aa (ai 8) (aa (a9 (aa (a7 (aa (cQ (ay (.int 2))) (aa (cQ (ay (.int 1))) (ah)))) (aa (a7 (aa (ay (.int 0)) (aa (ay (.int 1)) (ah)))) (ah)))) (ah))))))
 (ax (fw (bb (al iF (ai 8) (Cr 5))) (aX (ay (.bl false))) (skip))
 (ur 7 8 5))))))
theorem DJ {n:Nat}{r x:List Nat}{S:Nat->Nat}(R:Ord n r)(X:Ord n x)(H:Sg n r x S)(hn:n<=6)(h2:2<=n)(ns:List Int)(k n0 t:Nat){s9:Sl}(j9:J9 s9): ∃s9',J9 s9'/\bT [.v (dn ns),.v (nI k),.no,.v (nI n0),.v (bO r x),.ob (.old (.lst ((QI n r x S 0).map pD))),.v (nI t),.no,.no,s9]=.nx [.v (dn ns),.v (nI k),.no,.v (nI n0),.v (bO r x),.ob (.old (.lst ((QI n r x S 0).map pD))),.v (nI t),.no,.no,s9']:=by
 have l1:1<=fm n S:=xL (by omega)
 have l2:fm n S<=n:=xV
 have hr:=R.len
 have hl:=wS R X hn (S:=S) (k:=n-fm n S) (by omega)
 let d:=nI t
 have p1:mH 7 1 dg (aa (ai 4) (ah)) [.v (dn ns),.v (nI k),.no,.v (nI n0),.v (bO r x),.ob (.old (.lst ((QI n r x S 0).map pD))),.v d,.no,.no,s9]=.nx [.v (dn ns),.v (nI k),.no,.v (nI n0),.v (bO r x),.ob (.old (.lst ((QI n r x S 0).map pD))),.v d,.ob (.frs (.lst ((QI n r x S (n-fm n S)).map pD))),.no,s9]:=by
  unfold mH xG;rw[show(aa (ai 4) (ah)) [.v (dn ns),.v (nI k),.no,.v (nI n0),.v (bO r x),.ob (.old (.lst ((QI n r x S 0).map pD))),.v d,.no,.no,s9]=some [bO r x] from rfl,Option.bind_some,show nr [bO r x]=true by unfold nr nr;rw[Ah];rfl,if_pos rfl,show nF 1 dg [bO r x]=dg [bO r x] from rfl,B8 R X H hn h2]
  show Out.nx (List.set _ 7 (wA _))=_;unfold wA
  first|(dsimp only[List.set_cons_succ,List.set_cons_zero];done)|(simp only[List.set_cons_succ,List.set_cons_zero];done)|(dsimp only[List.set_cons_succ,List.set_cons_zero];rfl)|(dsimp only[List.set];trace_state;rfl)
 have p2:fw (gd (fY (aj (nF 1 dq) (aa (Aw 7) (ah))))) (aX (ay (.bl false))) (skip) [.v (dn ns),.v (nI k),.no,.v (nI n0),.v (bO r x),.ob (.old (.lst ((QI n r x S 0).map pD))),.v d,.ob (.frs (.lst ((QI n r x S (n-fm n S)).map pD))),.no,s9]=.nx [.v (dn ns),.v (nI k),.no,.v (nI n0),.v (bO r x),.ob (.old (.lst ((QI n r x S 0).map pD))),.v d,.ob (.frs (.lst ((QI n r x S (n-fm n S)).map pD))),.no,s9]:=
  lG (lH (b:=true) (k7 ((bw (ds:=[(.lst ((QI n r x S (n-fm n S)).map pD))]) rfl rfl).trans (yb (ft _ _ _ _ _) (by show(QI n r x S (n-fm n S)).length<=900;omega)))))
 have p3:aJ 8 (Aw 7) [.v (dn ns),.v (nI k),.no,.v (nI n0),.v (bO r x),.ob (.old (.lst ((QI n r x S 0).map pD))),.v d,.ob (.frs (.lst ((QI n r x S (n-fm n S)).map pD))),.no,s9]=.nx [.v (dn ns),.v (nI k),.no,.v (nI n0),.v (bO r x),.ob (.old (.lst ((QI n r x S 0).map pD))),.v d,.ob (.frs (.lst ((QI n r x S (n-fm n S)).map pD))),.v (.lst ((QI n r x S (n-fm n S)).map pD)),s9]:=rfl
 have rg:bq (aa (al cD (aj bX (aa (al aT (ai 4) (ay (.int 0))) (ah))) (aj (nF 1 bJ) (aa (ai 4) (ah)))) (ah)) [.v (dn ns),.v (nI k),.no,.v (nI n0),.v (bO r x),.ob (.old (.lst ((QI n r x S 0).map pD))),.v d,.ob (.frs (.lst ((QI n r x S (n-fm n S)).map pD))),.v (.lst ((QI n r x S (n-fm n S)).map pD)),s9]=some ((List.range (n-fm n S)).map nI):=by
  refine cf (aq ((au (x:=nI n) (y:=.int ((fm n S:Nat):Int)) (hr▸ee r _ _ rfl) ((bw (ds:=[bO r x]) rfl rfl).trans (mQ R H (by omega)))).trans ?_) rfl) (by omega)
  show cD (.int (n:Int)) (.int ((fm n S:Nat):Int))=some (.int ((n-fm n S:Nat):Int));rw[cX];congr 2
  omega
 obtain⟨ρ',e,s9',j9',rfl⟩:=gK (g:=gN 9) (b:=(aJ 8 (aj (nF 2 ci) (aa (ai 8) (aa (a9 (aa (a7 (aa (cQ (ay (.int 2))) (aa (cQ (ay (.int 1))) (ah)))) (aa (a7 (aa (ay (.int 0)) (aa (ay (.int 1)) (ah)))) (ah)))) (ah)))))) (P:=λi ρ=> ∃s9,J9 s9/\ρ=[.v (dn ns),.v (nI k),.no,.v (nI n0),.v (bO r x),.ob (.old (.lst ((QI n r x S 0).map pD))),.v d,.ob (.frs (.lst ((QI n r x S (n-fm n S)).map pD))),.v (.lst ((QI n r x S (n-fm n S-i)).map pD)),s9]) ((List.range (n-fm n S)).map nI) 0 (λd' hd i ρ hi hρ=>by
  obtain⟨s9,j9,rfl⟩:=hρ
  obtain⟨z,_,rfl⟩:=List.mem_map.mp hd
  rw[List.length_map,List.length_range] at hi;obtain⟨m,hm⟩: ∃m,n-fm n S-i=m+1:=⟨n-fm n S-i-1,by omega⟩
  have hk:m+1<n:=by omega
  rw[hm,show n-fm n S- (i+1)=m by omega]
  refine⟨[.v (dn ns),.v (nI k),.no,.v (nI n0),.v (bO r x),.ob (.old (.lst ((QI n r x S 0).map pD))),.v d,.ob (.frs (.lst ((QI n r x S (n-fm n S)).map pD))),.v (.lst ((QI n r x S (m+1)).map pD)),.v (nI z)],[.v (dn ns),.v (nI k),.no,.v (nI n0),.v (bO r x),.ob (.old (.lst ((QI n r x S 0).map pD))),.v d,.ob (.frs (.lst ((QI n r x S (n-fm n S)).map pD))),.v (.lst ((QI n r x S m).map pD)),.v (nI z)],rfl,?_,.v (nI z),.inr ⟨z,rfl⟩,rfl⟩
  have pe:=qM (A:=yh n r x S) (Al hn (m+1)) (Nat.le_trans (wS R X hn (S:=S) hk) (by decide)) (Cb R X hn hk)
  have bk:cc (fQ (QI n r x S (m+1)) D1)=QI n r x S m:=zc x R (sq n S) hk
  rw[bk] at pe;exact(bc ((bw (ds:=[.lst ((QI n r x S (m+1)).map pD),.lst (D1.map pD)]) (aq rfl (aq (cn (ds:=D1.map pD) (aq (bB (ds:=[.int (-2),.int (-1)]) rfl (by simp)) (aq (bB (ds:=[.int 0,.int 1]) rfl (by simp)) rfl)) (by rw[List.length_map];exact show 2<=1000 by decide)) rfl)) rfl).trans pe)).trans rfl) [.v (dn ns),.v (nI k),.no,.v (nI n0),.v (bO r x),.ob (.old (.lst ((QI n r x S 0).map pD))),.v d,.ob (.frs (.lst ((QI n r x S (n-fm n S)).map pD))),.v (.lst ((QI n r x S (n-fm n S)).map pD)),s9] ⟨s9,j9,rfl⟩
 rw[List.length_map,List.length_range,Nat.zero_add,Nat.sub_self] at e;have p4:=(c4 (br rg)).trans e
 have p5:fw (bb (al iF (ai 8) (Cr 5))) (aX (ay (.bl false))) (skip) [.v (dn ns),.v (nI k),.no,.v (nI n0),.v (bO r x),.ob (.old (.lst ((QI n r x S 0).map pD))),.v d,.ob (.frs (.lst ((QI n r x S (n-fm n S)).map pD))),.v (.lst ((QI n r x S 0).map pD)),s9']=.nx [.v (dn ns),.v (nI k),.no,.v (nI n0),.v (bO r x),.ob (.old (.lst ((QI n r x S 0).map pD))),.v d,.ob (.frs (.lst ((QI n r x S (n-fm n S)).map pD))),.v (.lst ((QI n r x S 0).map pD)),s9']:=lG (bZ ((au (x:=.lst ((QI n r x S 0).map pD)) (y:=.lst ((QI n r x S 0).map pD)) rfl rfl).trans (ol (Dd _))))
 have p6:ur 7 8 5 [.v (dn ns),.v (nI k),.no,.v (nI n0),.v (bO r x),.ob (.old (.lst ((QI n r x S 0).map pD))),.v d,.ob (.frs (.lst ((QI n r x S (n-fm n S)).map pD))),.v (.lst ((QI n r x S 0).map pD)),s9']=.nx [.v (dn ns),.v (nI k),.no,.v (nI n0),.v (bO r x),.ob (.old (.lst ((QI n r x S 0).map pD))),.v d,.no,.no,s9']:=by
  unfold ur;rw[if_pos]
  ·rfl
  ·unfold rn
   have ok9:zh s9'=true:=by
    rcases j9' with rfl|⟨j,rfl⟩<;>rfl
   have:LF (dn ns)=true:=by unfold dn LF;exact C6 ns
   show((LF (dn ns)&&(true&&(true&&(true&&(LF (bO r x)&&(true&&(true&&(true&&(true&&(zh s9'&&true))))))))))&&true&&true&&decide (((QI n r x S (n-fm n S)).map pD).length<=1000))=true;rw[Ah,this,ok9,decide_eq_true (by rw[List.length_map];omega)];rfl
 exact⟨s9',j9',(az p1).trans ((az p2).trans ((az p3).trans ((az p4).trans ((az p5).trans p6))))⟩
theorem Ba(ns:List Int)(hn:ns.length<=63):As [dn ns]=some (.bl true):=by
 refine fB (kd:=.s) (n:=10) (t:=v0) ?_
 unfold v0;refine vS (λρ=> ∃s1 s2 s3 s4 s5 s6 s9,J9 s9/\ρ=[.v (dn ns),s1,s2,s3,s4,s5,s6,.no,.no,s9]) (m5 (ds:=(List.range 3).map nI) (br (cf (n:=3) rfl (by omega))) (kJ _ (λd hd ρ hρ=>?_) _ ⟨_,_,_,_,_,_,_,.inl rfl,rfl⟩)) λρ' hρ'=>⟨ρ',bo rfl⟩
 obtain⟨k,hk,rfl⟩:=List.mem_map.mp hd
 rw[List.mem_range] at hk;obtain⟨s1,s2,s3,s4,s5,s6,s9,j9,rfl⟩:=hρ
 obtain⟨a0,b0,eb,B⟩:=BX ns k (by omega) hn
 obtain⟨t,a1,b1,e1,B1,t0,t1⟩:=kH (m:=16) B (by omega) (by decide) (by decide)
 obtain⟨i,hi,rfl⟩: ∃i:Nat,i<16/\t=i:=⟨t.toNat,by omega,by omega⟩
 obtain⟨n0,en,hn0,hn1⟩: ∃n0:Nat,n0=szL16.getD i 0/\2<=n0/\n0<=6:=⟨_,rfl,EY i hi⟩
 obtain⟨n,hm,hm1,hm2⟩: ∃n:Nat,(if n0=6/\0<k then n0-1 else n0)=n/\2<=n/\n<=6:=⟨_,rfl,by split<;>omega,by split<;>omega⟩
 obtain⟨r,x,a5,b5,e5,Q,B5⟩:=ss B1 (n:=n) hm1 hm2 (by omega)
 obtain⟨S,H⟩:=C2 Q.hr Q.hx
 have f2:cO [bO r x]=some (.lst ((QI n r x S 0).map pD)):=by
  rw[qP Q.hr Q.hx H hm2 hm1,BC];rfl
 have sl:(cU n n).length<=720:=ie n hm2 n (Nat.le_refl _)
 let T:=QI n r x S 0
 have q1:ce 2 (aj (nF 2 ia) (aa (ai 0) (aa (ai 1) (ah)))) [.v (dn ns),.v (nI k),s2,s3,s4,s5,s6,.no,.no,s9]=.nx [.v (dn ns),.v (nI k),.own (aW a0 b0),s3,s4,s5,s6,.no,.no,s9]:=(dW ((bw (ds:=[dn ns,nI k]) rfl rfl).trans eb)).trans rfl
 have q2:gF 3 (jl aT (pu (a9 (po [6,2,3,3,4,4,4,4,4,4,4,4,5,5,3,4]))) (aO 2 1 b7 (b8 (aa (ay (.int 16)) (ah))))) [.v (dn ns),.v (nI k),.own (aW a0 b0),s3,s4,s5,s6,.no,.no,s9]=.nx [.v (dn ns),.v (nI k),.own (aW a1 b1),.v (nI n0),s4,s5,s6,.no,.no,s9]:=
  (i7 (tF (kr (cn (ds:=szL16.map nI) rfl (by decide))) (cY (i:=2) (n:=1) (b0:=aW a0 b0) (ds:=[.int 16]) rfl (br rfl) rfl rfl e1) (en▸mN (r:=szL16) hi))).trans rfl
 have q3:gF 4 (aO 2 1 eG (b8 (aa (al cD (ai 3) (aj iW (aa (kK (dw (bb (al lU (ai 3) (ay (.int 6)))) (bb (al Cq (ai 1) (ay (.int 0)))))) (ah)))) (ah)))) [.v (dn ns),.v (nI k),.own (aW a1 b1),.v (nI n0),s4,s5,s6,.no,.no,s9]=.nx [.v (dn ns),.v (nI k),.own (aW a5 b5),.v (nI n0),.v (bO r x),s5,s6,.no,.no,s9]:=by
  have c1:bb (al lU (ai 3) (ay (.int 6))) [.v (dn ns),.v (nI k),.own (aW a1 b1),.v (nI n0),s4,s5,s6,.no,.no,s9]=some (decide (n0=6)):=bZ ((au (x:=nI n0) (y:=nI 6) rfl rfl).trans (by rw[iR (by rw[cq];omega),kT]))
  have c2:bb (al Cq (ai 1) (ay (.int 0))) [.v (dn ns),.v (nI k),.own (aW a1 b1),.v (nI n0),s4,s5,s6,.no,.no,s9]=some (decide (0<k)):=bZ ((au (x:=nI k) (y:=.int 0) rfl rfl).trans (by rw[zS];congr 2;rw[Bool.eq_iff_iff,decide_eq_true_eq,decide_eq_true_eq];omega))
  have c3:dw (bb (al lU (ai 3) (ay (.int 6)))) (bb (al Cq (ai 1) (ay (.int 0)))) [.v (dn ns),.v (nI k),.own (aW a1 b1),.v (nI n0),s4,s5,s6,.no,.no,s9]=some (decide (n0=6)&&decide (0<k)):=pR c1 c2
  have sz:al cD (ai 3) (aj iW (aa (kK (dw (bb (al lU (ai 3) (ay (.int 6)))) (bb (al Cq (ai 1) (ay (.int 0)))))) (ah))) [.v (dn ns),.v (nI k),.own (aW a1 b1),.v (nI n0),s4,s5,s6,.no,.no,s9]=some (nI n):=by
   refine(au (x:=nI n0) (y:=.int (if(decide (n0=6)&&decide (0<k))=true then 1 else 0)) rfl ((cx (ds:=[.bl (decide (n0=6)&&decide (0<k))]) (aq (qW c3) rfl)).trans rfl)).trans ?_
   rw[cX,<-hm];congr 2
   by_cases h:n0=6/\0<k
   ·rw[if_pos h,if_pos (by rw[Bool.and_eq_true,decide_eq_true_eq,decide_eq_true_eq];exact h)];omega
   ·rw[if_neg h,if_neg (by rw[Bool.and_eq_true,decide_eq_true_eq,decide_eq_true_eq];exact h)];omega
  exact(i7 (cY (i:=2) (n:=1) (b0:=aW a1 b1) (ds:=[nI n]) rfl (br (aq sz rfl)) rfl rfl e5)).trans rfl
 have q4:aJ 5 (aj (nF 1 cO) (aa (ai 4) (ah))) [.v (dn ns),.v (nI k),.own (aW a5 b5),.v (nI n0),.v (bO r x),s5,s6,.no,.no,s9]=.nx [.v (dn ns),.v (nI k),.own (aW a5 b5),.v (nI n0),.v (bO r x),.v (.lst (T.map pD)),s6,.no,.no,s9]:=(bc ((bw (ds:=[bO r x]) rfl rfl).trans f2)).trans rfl
 obtain⟨ρ',lp,s2',s6',s9',h2',j9',rfl⟩:=m5 (f:=b8 (bq (aa (ay (.int 2)) (ah)))) (g:=gN 6) (b:=uX 5 bT) (ρ:=[.v (dn ns),.v (nI k),.own (aW a5 b5),.v (nI n0),.v (bO r x),.v (.lst ((QI n r x S 0).map pD)),s6,.no,.no,s9]) (ds:=(List.range 2).map nI) (P:=λρ=> ∃s2 s6 s9,l8 s2=.no/\J9 s9/\ρ=[.v (dn ns),.v (nI k),s2,.v (nI n0),.v (bO r x),.v (.lst ((QI n r x S 0).map pD)),s6,.no,.no,s9]) (br (cf (n:=2) (aq rfl rfl) (by omega))) (kJ _ (λd hd ρ hρ=>by
  obtain⟨t,ht,rfl⟩:=List.mem_map.mp hd
  obtain⟨s2,s6,s9,h2,j9,rfl⟩:=hρ
  obtain⟨s9',j9',e⟩:=DJ Q.hr Q.hx H hm2 hm1 ns k n0 t j9
  refine⟨[.v (dn ns),.v (nI k),s2,.v (nI n0),.v (bO r x),.v (.lst ((QI n r x S 0).map pD)),.v (nI t),.no,.no,s9],[.v (dn ns),.v (nI k),.no,.v (nI n0),.v (bO r x),.v (.lst ((QI n r x S 0).map pD)),.v (nI t),.no,.no,s9'],rfl,?_,.no,_,_,rfl,j9',rfl⟩
  have l9:l8 s9=s9:=by rcases j9 with rfl|⟨j,rfl⟩<;>rfl
  have o9:D9 s9'=true:=by rcases j9' with rfl|⟨j,rfl⟩<;>rfl
  unfold uX;show(match bT [.v (dn ns),.v (nI k),l8 s2,.v (nI n0),.v (bO r x),.ob (.old (.lst ((QI n r x S 0).map pD))),.v (nI t),.no,.no,l8 s9] with
   | .nx ρ'=>_
   | .rt d ρ'=>_
   |_=>_)=_
  rw[h2,l9,e];show(if(true&&(true&&(true&&(true&&(true&&(true&&(true&&(true&&(true&&(D9 s9'&&true))))))))))=true then _ else _)=_
  rw[o9];rfl) _ ⟨.own (aW a5 b5),_,_,rfl,j9,rfl⟩)
 exact⟨_,_,rfl,(az q1).trans ((az q2).trans ((az q3).trans ((az q4).trans lp))),⟨_,_,_,_,_,_,_,j9',rfl⟩⟩
theorem df_of {K:W.Frag}{h:Heap}{mg:Str->Option Value}(X:K.In h)(G:h.Ns mainGlobals mg){x:Str}{st:Stmt}{ps:List Str}{f:Addr}{oc:Value}{od an:Option Addr}{osl:Array (Option Value)}{kV doc pm cdv ct:Value}(a:W.nsIn K mainGlobals x=some (some (.ref f)))
 (l:K.lookup f=some ⟨oc,od,.func (W.fnOf x x (fj st) (cM st) (av st) .none kV doc pm an cdv ct),osl⟩) (c:W.codeIn K cdv x=true) (k:W.keepIn K (.ref f)=true)
 (b: ∀(kV doc pm:Value) (an:Option Addr) (cdv ct:Value) (us:List Value),us.length=ps.length->bindArgs (W.fnOf x x (fj st) (cM st) (av st) .none kV doc pm an cdv ct) ⟨us,[]⟩=pure (ps.zip us)):Df K mg x st ps:=
 ⟨_,_,rm l c k,W.mg_of X G a,(rm l c k).binds b⟩
set_option maxHeartbeats 4000000
theorem all_mk {L:W.OpenLaw}{w:World}{K:W.Frag}{h:Heap}{mg:Str->Option Value}{fb fa:Addr}{od an:Option Addr}{sl:Array (Option Value)}{oc kV dc pm cd ct:Value}(X:K.In h)(G:h.Ns mainGlobals mg)(hfa:mg "law"=some (.ref fb))
 (d0:Df K mg "order_rounds" eM ["order"])
 (d1:Df K mg "lines_of" iB ["square"])
 (d2:Df K mg "tidy" rL ["tuples"])
 (d3:Df K mg "minus" oC ["one","other"])
 (d4:Df K mg "times" nK ["one","other"])
 (d5:Df K mg "parted" lK ["one","other"])
 (d6:Df K mg "all_stands" gk ["n"])
 (d7:Df K mg "points_of" gU ["order","half"])
 (d8:Df K mg "pairs" nT ["ones","others"])
 (d9:Df K mg "grade_by" iO ["marks","stand"])
 (d10:Df K mg "grade" mZ ["square","stand"])
 (d11:Df K mg "lean" si ["square","stand"])
 (d12:Df K mg "home_of" jP ["square","stand"])
 (d13:Df K mg "signed_sum" gb ["square"])
 (d14:Df K mg "own_sum" jm ["square"])
 (d15:Df K mg "_law_cell" iy ["_law_script","_law_k"])
 (d16:Df K mg "_law_bag" ju ["_law_script","_law_at"])
 (d17:Df K mg "_law_take" iz ["_law_bag_here","_law_many"])
 (d18:Df K mg "_law_order" hJ ["_law_bag_here","_law_n"])
 (d19:Df K mg "_law_square" fU ["_law_bag_here","_law_n"])
 (d20:Df K mg "_law_whole" gO ["_law_thing"])
 (d21:Df K mg "_law_is_sum" gc ["_law_found"])
 (d22:Df K mg "_law_summed" ga ["_law_tuples"])
 (d23:Df K mg "_law_product" fA ["_law_one","_law_other"])
 (d24:Df K mg "_law_all" jp ["_law_n"])
 (d25:Df K mg "_law_grade" gV ["_law_marks","_law_stand"])
 (d26:Df K mg "_law_rounds" fV ["_law_square_here"])
 (d27:Df K mg "_law_home" iE ["_law_square_here","_law_stand"])
 (d28:Df K mg "_law_signed" fX ["_law_square_here"])
 (a:W.nsIn K mainGlobals "law"=some (some (.ref fa))) (l:K.lookup fa=some ⟨oc,od,.func (W.fnOf "law" "law" (fj iU) (cM iU) (av iU) .none kV dc pm an cd ct),sl⟩) (c:W.codeIn K cd "law"=true) (k:W.keepIn K (.ref fa)=true)
 (z_abs:W.nsIn K mainGlobals "abs"=some none)
 (z_all:W.nsIn K mainGlobals "all"=some none)
 (z_bool:W.nsIn K mainGlobals "bool"=some none)
 (z_enumerate:W.nsIn K mainGlobals "enumerate"=some none)
 (z_int:W.nsIn K mainGlobals "int"=some none)
 (z_isinstance:W.nsIn K mainGlobals "isinstance"=some none)
 (z_len:W.nsIn K mainGlobals "len"=some none)
 (z_list:W.nsIn K mainGlobals "list"=some none)
 (z_min:W.nsIn K mainGlobals "min"=some none)
 (z_range:W.nsIn K mainGlobals "range"=some none)
 (z_sorted:W.nsIn K mainGlobals "sorted"=some none)
 (z_tuple:W.nsIn K mainGlobals "tuple"=some none)
 (z_zip:W.nsIn K mainGlobals "zip"=some none):
 ∃fd:FuncData,(∀(s:Shared) (v:Value),BindsTo s fd ⟨[v],[]⟩ [("_law_script",v)])/\ ∀base:Heap,K.In base->base.Ns mainGlobals mg->FnOk L.prog w K mg base oQ 7 fb fd ["_law_script"] (sU K):=by
 have e:=hfa.symm.trans (W.mg_of X G a)
 cases e
 have F:=rm (st:=iU) l c k
 have B:Bt mg:=⟨W.mg_none_of X G z_abs,W.mg_none_of X G z_all,W.mg_none_of X G z_bool,W.mg_none_of X G z_enumerate,W.mg_none_of X G z_int,W.mg_none_of X G z_isinstance,W.mg_none_of X G z_len,W.mg_none_of X G z_list,W.mg_none_of X G z_min,W.mg_none_of X G z_range,W.mg_none_of X G z_sorted,W.mg_none_of X G z_tuple,W.mg_none_of X G z_zip⟩
 refine⟨W.fnOf "law" "law" (fj iU) (cM iU) (av iU) .none kV dc pm an cd ct,λs v=>.of_eq rfl,λbase _ _=>?_⟩
 have eL:=kW (P:=L.prog) (w:=w) (base:=base) B d0
 have dN:=rj (P:=L.prog) (w:=w) (base:=base) B d1 eL
 have fT:=A9 (P:=L.prog) (w:=w) (base:=base) B d2
 have oE:=zx (P:=L.prog) (w:=w) (base:=base) B d3 fT
 have nu:=yM (P:=L.prog) (w:=w) (base:=base) B d4 fT
 have lg:=vY (P:=L.prog) (w:=w) (base:=base) B d5 oE nu
 have f9:=n4 (P:=L.prog) (w:=w) (base:=base) B d6
 have eZ:=pA (P:=L.prog) (w:=w) (base:=base) B d7
 have ig:=yQ (P:=L.prog) (w:=w) (base:=base) B d8
 have c5:=qH (P:=L.prog) (w:=w) (base:=base) B d9 eZ ig
 have jh:=zq (P:=L.prog) (w:=w) (base:=base) B d10 c5
 have lS:=BT (P:=L.prog) (w:=w) (base:=base) B d11 c5 dN
 have jV:=uy (P:=L.prog) (w:=w) (base:=base) B d12 jh lS
 have gp:=nZ (P:=L.prog) (w:=w) (base:=base) B d13 fT jV f9 lS jh
 have jL:=u9 (P:=L.prog) (w:=w) (base:=base) B d14 gp lg dN
 have iI:=qU (P:=L.prog) (w:=w) (base:=base) B d15
 have jW:=va (P:=L.prog) (w:=w) (base:=base) B d16 iI
 have bQ:=rS (P:=L.prog) (w:=w) (base:=base) B d17
 have eX:=qi (P:=L.prog) (w:=w) (base:=base) B d18 bQ
 have gr:=nR (P:=L.prog) (w:=w) (base:=base) B d19 bQ eX
 have fc:=oW (P:=L.prog) (w:=w) (base:=base) B d20
 have gh:=nw (P:=L.prog) (w:=w) (base:=base) B d21 fc
 have cL:=mW (P:=L.prog) (w:=w) (base:=base) B d22
 have fq:=l5 (P:=L.prog) (w:=w) (base:=base) B d23 cL
 have jB:=vd (P:=L.prog) (w:=w) (base:=base) B d24
 have eS:=qe (P:=L.prog) (w:=w) (base:=base) B d25
 have cN:=nB (P:=L.prog) (w:=w) (base:=base) B d26
 have iM:=qT (P:=L.prog) (w:=w) (base:=base) B d27 eS cN
 have gg:=oz (P:=L.prog) (w:=w) (base:=base) B d28 jB cL iM
 exact Bc (BE (P:=L.prog) (w:=w) (base:=base) B F jW gr gg bQ jL gh fq cN) Ba
end L2
theorem PySem.W.Fast.tw1005050293666290618:True:=⟨⟩
theorem PySem.W.Fast.tw14224400931376249700:True:=⟨⟩
theorem PySem.W.Fast.tw17608966058016503404:True:=⟨⟩
theorem PySem.W.Fast.tw15412953018702282143:True:=⟨⟩
theorem PySem.W.Fast.tw15876352017487513869:True:=⟨⟩
theorem PySem.W.Fast.tw8560030547676177950:True:=⟨⟩
theorem PySem.W.Fast.tw18054574015937308481:True:=⟨⟩
theorem PySem.W.Fast.tw16218834091849189118:True:=⟨⟩
theorem PySem.W.Fast.tw11700237278317742922:True:=⟨⟩
theorem PySem.W.Fast.tw17715066489303237667:True:=⟨⟩
theorem PySem.W.Fast.tw4128974647162573644:True:=⟨⟩
theorem PySem.W.Fast.tw14916471924314067968:True:=⟨⟩
theorem PySem.W.Fast.tw2992452583842103550:True:=⟨⟩
theorem PySem.W.Fast.tw13642426021680879309:True:=⟨⟩
theorem PySem.W.Fast.tw15004382053947708906:True:=⟨⟩
theorem PySem.W.Fast.tw7827517759865134467:True:=⟨⟩
open PySem PySem.W PyProof.Rows
set_option maxRecDepth 100000 in
set_option maxHeartbeats 0 in
theorem PySem.Challenge.cw_rookborders_k67_own_sums_holds : PySem.Challenge.rw_rookborders_k67_own_sums.Holds := by
 w_on;o_law;k_head;(case hw=>w_witness2)
 k_fill
 refine L2.walkD (l:=PySem.Challenge.rw_rookborders_k67_own_sums) (k:=7) (x:="_law_script") rfl rfl ⟨rfl,by decide,by decide⟩ (λw h Y=>W.kIn_of Y) ?F
 case F=>
  intro w mg fa h KX G hmg
  refine' L2.all_mk KX G hmg ?_ ?_ ?_ ?_ ?_ ?_ ?_ ?_ ?_ ?_ ?_ ?_ ?_ ?_ ?_ ?_ ?_ ?_ ?_ ?_ ?_ ?_ ?_ ?_ ?_ ?_ ?_ ?_ ?_ ?_ ?_ ?_ ?_ ?_ ?_ ?_ ?_ ?_ ?_ ?_ ?_ ?_ ?_ ?_ ?_ ?_
  all_goals first
   |(refine' L2.df_of KX G ?_ ?_ ?_ ?_ λ_ _ _ _ _ _ us hl=>L2.ar1 us hl λ_=>rfl)<;>try k_is
   |(refine' L2.df_of KX G ?_ ?_ ?_ ?_ λ_ _ _ _ _ _ us hl=>L2.ar2 us hl λ_ _=>rfl)<;>try k_is
   |try k_is
