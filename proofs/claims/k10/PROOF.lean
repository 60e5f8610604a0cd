import PyProof.Rows.All
import Wide.All
import OpenK.AllK
import Wide.FinOn
import PyProof.EqAt
import PyProof.EqKinds
import PyProof.TupleCall
import PyProof.NeKinds
import PyProof.FactsAll.tuple_2
import PyProof.FactsAll.tuple_3
import PyProof.ListRange
import KE.KSortTup
import PyProof.EnumMake
import PyProof.AutoSeq1
import PyProof.Rows.SeqMore
import KE.KIsAll
import PyProof.ExcArgsOwn
import PyProof.ExcBaseAll.ValueError
import PyProof.ExcAttrAll.ValueError
import OpenK.KOwn
import PyProof.RulesAs
import PyProof.AutoRange
import PyProof.SeqRoads2
import PyProof.ZipIter
import PyProof.StrCalls2
import KE.KDictSum
import PyProof.SumAny
import KE.KRevIter
import PyProof.Rows.FStr
import PyProof.Rows.FStrParts
import KE.KRevSl
import Lean
import PySem.Challenge.RW_rookborders_k10_corners_put
set_option bootstrap.genMatcherCode false
set_option Elab.async false
set_option linter.all false
set_option maxRecDepth 100000
set_option maxHeartbeats 1000000
namespace L2
open PySem
abbrev Pb:=SetTable.Probe
def yz(mask:Nat)(p:Pb):Pb:=
 if p.more>0 then {p with j:=p.j+1,more:=p.more-1} else
 {p with j:=(SetTable.leap mask p.i p.perturb).1,more:=SetTable.runEnd mask (SetTable.leap mask p.i p.perturb).1- (SetTable.leap mask p.i p.perturb).1,i:=(SetTable.leap mask p.i p.perturb).1,perturb:=(SetTable.leap mask p.i p.perturb).2}
def wj(mask i perturb:Nat)(d:Option Nat):Pb:={j:=i,more:=SetTable.runEnd mask i-i,i:=i,perturb:=perturb,dummy:=d}
def wA(mask:Nat):Nat->Pb->Pb
 |0,p=>p
 |n+1,p=>wA mask n (yz mask p)
def yx(mask:Nat)(h:Int)(d:Option Nat):Pb:=wj mask (SetTable.bits h % (mask+1)) (SetTable.bits h) d
def Jx(mask:Nat)(h:Int)(m:Nat):Nat:=(wA mask m (yx mask h none)).j
def yi(xs:Array Nat):Prop:=xs.toList.Pairwise (·< ·)
structure TOk(t:SetTable)(hs:List Int):Prop where
 pw: ∃k,3<=k/\k<=12/\t.mask+1=2^k
 sz:t.place.size=hs.length
 sp:yi t.place
 sd:yi t.dummies
 lp: ∀j∈t.place.toList,j<=t.mask
 ld: ∀j∈t.dummies.toList,j<=t.mask
 dj: ∀j∈t.dummies.toList,j∉t.place.toList
 fl:t.fill<=t.mask
 rc: ∀x∈hs.zip t.place.toList,∃m,Jx t.mask x.1 m=x.2/\ ∀m',m'<m->Jx t.mask x.1 m'∈t.place.toList\/Jx t.mask x.1 m'∈t.dummies.toList
open PySem PySem.Spec PyProof.Rows
def th(ks:List Int):Int:=reduceHash (Builtin.Tuple.tupleHashOf (ks.map hashInt))
def yB(x:List Int×Addr):Int×Value:=(th x.1,.ref x.2)
abbrev x0:=List (List Int×Addr)
def yC(xs:x0):List Int:=xs.map λx=>th x.1
structure SetAt(w:World)(o:Obj)(es:Array (Int×Value))(ep:Nat)(t:SetTable)(xs:x0):Prop where
 ex:o.ExactSet
 hd:o.data=.set es ep t
 he:es.toList=xs.map yB
 T:TOk t (yC xs)
 led:t.led= !w.params.followText "set-order"
 pl:t.plain=true
 nd:(xs.map (·.1)).Nodup
structure SetOk(w:World)(o:Obj)(es:Array (Int×Value))(ep:Nat)(t:SetTable)(xs:x0):Prop extends SetAt w o es ep t xs where
 f5:t.fill*5<t.mask*3
abbrev aT:=Sum Int Str
def jH:aT->Value->Bool
 | .inl k,v=>Value.isInt k v
 | .inr x,v=>Value.isStrOf x v
def x9(w:World):aT->Int
 | .inl k=>hashInt k
 | .inr x=>hashStr w x
theorem bz: ∀ {k:aT} {v:Value},jH k v=true->(∃i t,k=Sum.inl i/\v=Value.int i t)\/(∃x t,k=Sum.inr x/\v=Value.str x t)
 | .inl i,v,h=>by
   obtain⟨t,e⟩:=Value.isInt_shape (k:=i) (v:=v) h
   exact .inl ⟨i,t,rfl,e⟩
 | .inr x,v,h=>by
   obtain⟨t,e⟩:=Value.isStrOf_shape (x:=x) (v:=v) h
   exact .inr ⟨x,t,rfl,e⟩
theorem oV(i:Int)(t:Tok):jH (.inl i) (.int i t)=true:=by simp[jH,Value.isInt]
theorem o7(x:Str)(t:Tok):jH (.inr x) (.str x t)=true:=by simp[jH,Value.isStrOf]
theorem vq(a b:Int):decide ((Sum.inl a:aT)=Sum.inl b)=(a==b):=by
 by_cases e:a=b
 ·subst e;simp
 ·have h: ¬(Sum.inl a:aT)=Sum.inl b:=λq=>e (Sum.inl.inj q)
  rw[decide_eq_false h];exact(beq_eq_false_iff_ne.mpr e).symm
theorem vy(a b:Str):decide ((Sum.inr a:aT)=Sum.inr b)=decide (a=b):=by
 by_cases e:a=b
 ·subst e;simp
 ·have h: ¬(Sum.inr a:aT)=Sum.inr b:=λq=>e (Sum.inr.inj q)
  rw[decide_eq_false h,decide_eq_false e]
theorem u8(a:Int)(b:Str):decide ((Sum.inl a:aT)=Sum.inr b)=false:=decide_eq_false (λq=>nomatch q)
theorem vf(a:Str)(b:Int):decide ((Sum.inr a:aT)=Sum.inl b)=false:=decide_eq_false (λq=>nomatch q)
def ca(prog:Program)(w:World):PySem.KeyKind prog w aT where
 is:=jH
 hash:=x9 w
 inj:=λv a b ha hb=>by
  rcases bz ha with⟨i,t,rfl,rfl⟩|⟨x,t,rfl,rfl⟩
  ·rcases bz hb with⟨j,u,rfl,e⟩|⟨y,u,rfl,e⟩
   ·injection e with e1 _;rw[e1]
   ·exact nomatch e
  ·rcases bz hb with⟨j,u,rfl,e⟩|⟨y,u,rfl,e⟩
   ·exact nomatch e
   ·injection e with e1 _;rw[e1]
 byValue:=λk v h=>by
  rcases bz h with⟨i,t,rfl,rfl⟩|⟨x,t,rfl,rfl⟩<;>rfl
 pyHash:=λhv h=>by
  rcases bz hv with⟨i,t,rfl,rfl⟩|⟨x,t,rfl,rfl⟩
  ·exact wpAny_pyHash_int h
  ·exact wpAny_pyHash_str h
 eqBool:=λhu hv h=>by
  rcases bz hu with⟨i,t,rfl,rfl⟩|⟨x,t,rfl,rfl⟩
  ·rcases bz hv with⟨j,u,rfl,rfl⟩|⟨y,u,rfl,rfl⟩
   ·rw[vq] at h;exact wpAny_eqBool_int h
   ·rw[u8] at h;exact SeqAt.EqAt.int_str i t y u _ _ _ _ h
  ·rcases bz hv with⟨j,u,rfl,rfl⟩|⟨y,u,rfl,rfl⟩
   ·rw[vf] at h;exact SeqAt.EqAt.str_int x t j u _ _ _ _ h
   ·rw[vy] at h;exact wpAny_eqBool_str h
 «strs»:=λk x t v h=>by
  rcases bz h with⟨i,u,rfl,e⟩|⟨y,u,rfl,e⟩
  ·exact nomatch e
  ·injection e with e1 _
   subst e1;cases v<;>rfl
theorem ll(prog:Program)(w:World)(i:Int)(t:Tok):(ca prog w).is (.inl i) (.int i t)=true:=oV i t
theorem lX(prog:Program)(w:World)(x:Str)(t:Tok):(ca prog w).is (.inr x) (.str x t)=true:=o7 x t
inductive V where
 |non|bl (b:Bool)|int (i:Int)|str (x:Str)|byt (b:Array UInt8)|flt (b:UInt64)|ref (a:Addr)|ty (n:String)
 deriving DecidableEq
def RelV:V->Value->Prop
 | .non,u=>u=Value.none
 | .bl b,u=>u=Value.bool b
 | .int i,u=> ∃t,u=Value.int i t
 | .str x,u=> ∃t,u=Value.str x t
 | .byt b,u=> ∃t,u=Value.bytes b t
 | .flt b,u=> ∃t,u=Value.float b t
 | .ref a,u=>u=Value.ref a
 | .ty n,u=>u=Value.type n
abbrev Vals:List V->List Value->Prop:=Paired RelV
theorem Vals.length {xs:List V}{us:List Value}(r:Vals xs us):xs.length=us.length:=Paired.length r
theorem Vals.get: ∀ {xs:List V} {us:List Value} {i:Nat} {x:V},Vals xs us->xs[i]? =some x-> ∃u,us[i]? =some u/\RelV x u
 |_,_,_,_,.nil,e=>by simp at e
 |_,_,0,_,.cons r _,e=>by simp at e;subst e;exact⟨_,rfl,r⟩
 |_,_,i+1,x,.cons _ t,e=>by
  obtain⟨u,h1,h2⟩:=Vals.get (i:=i) (x:=x) t (by simpa using e)
  exact⟨u,by simpa using h1,h2⟩
theorem Vals.set {x:V}{u:Value}(r:RelV x u): ∀ {xs:List V} {us:List Value} (i:Nat),Vals xs us->Vals (xs.set i x) (us.set i u)
 |_,_,_,.nil=>.nil
 |_,_,0,.cons _ t=>.cons r t
 |_,_,i+1,.cons q t=>.cons q (Vals.set r i t)
theorem Vals.append: ∀ {xs ys:List V} {us ws:List Value},Vals xs us->Vals ys ws->Vals (xs++ys) (us++ws)
 |_,_,_,_,.nil,s=>s
 |_,_,_,_,.cons r t,s=>.cons r (Vals.append t s)
theorem Vals.take: ∀ {xs:List V} {us:List Value} (n:Nat),Vals xs us->Vals (xs.take n) (us.take n)
 |_,_,0,_=>.nil
 |_,_,_+1,.nil=>.nil
 |_,_,n+1,.cons r t=>.cons r (Vals.take n t)
theorem Vals.drop: ∀ {xs:List V} {us:List Value} (n:Nat),Vals xs us->Vals (xs.drop n) (us.drop n)
 |_,_,0,r=>r
 |_,_,_+1,.nil=>.nil
 |_,_,n+1,.cons _ t=>Vals.drop n t
def RelO:Option V->Option Value->Prop
 |some v,some u=>RelV v u
 |none,none=>True
 |_,_=>False
def KV {κ:Type}:List (κ×V)->List (κ×Value)->Prop:=Paired λ(p:κ×V) (q:κ×Value)=>p.1=q.1/\RelV p.2 q.2
def kV:aT->V
 | .inl i=>.int i
 | .inr x=>.str x
inductive HO where
 |lst (xs:List V)
 |tup (xs:List V)
 |dK (kvs:List (aT×V))|dT (kvs:List (List aT×V))
 |set (S:Int->Bool) (n:Nat)
 |tst (xs:List (List Int×Addr))
 |ins (C dx:Addr) (fs:List (Str×V))
 |own (x:Addr)
 |xd (fs:List (Str×V))
 |met (f x:Addr)
 |rng (lo hi:Int)
 |frz (o:Obj) (u:HO)
 |nst (p:Addr) (u:HO)
 |tbl (ps:Array Value)
 |ext (φ:Heap->Prop)
abbrev Hp:=Addr->Option HO
def aV(H:Hp)(a:Addr)(o:HO):Hp:=λb=>if b=a then some o else H b
theorem ay {H:Hp}{a:Addr}{o:HO}:aV H a o a=some o:=by unfold aV;rw[if_pos rfl]
theorem ar {H:Hp}{a b:Addr}{o:HO}(h:b≠a):aV H a o b=H b:=by unfold aV;rw[if_neg h]
theorem og {H:Hp}{a:Addr}{o u:HO}:aV (aV H a o) a u=aV H a u:=by
 funext b;unfold aV;split<;>rfl
theorem wf {H:Hp}{a b:Addr}{o u:HO}(h:H a=some o)(h':H b=some u)(d:o≠u):a≠b:=by
 intro e;subst e;rw[h] at h';exact d (Option.some.inj h')
theorem br {H:Hp}{a b:Addr}{o:HO}(h:H a=some o)(h':H b=none):a≠b:=by
 intro e;subst e;rw[h] at h';cases h'
section
variable(P:Program)(w:World)
def ObjOk(H:Hp)(h:Heap)(a:Addr):HO->Prop
 | .lst xs=>xs.length<=sizeLine/\ ∃(its:List Value) (n:Nat),Vals xs its/\h.get? a=some {cls:=.type "list",data:=.seq its.toArray n}
 | .tup xs=>xs.length<=sizeLine/\ ∃its:List Value,Vals xs its/\IsTup h a its.toArray/\ ∃o,h.get? a=some o/\o.dict=none
 | .dK kvs=>kvs.length<=sizeLine/\(a==sysModules)=false/\ ∃vs,KV kvs vs/\h.DictOf (ca P w) a vs
 | .dT kvs=>kvs.length<=sizeLine/\(a==sysModules)=false/\ ∃xs:List (List aT×Addr×Value),
    Paired (λ(p:List aT×V) (q:List aT×Addr×Value)=>p.1=q.1/\H q.2.1=some (.tup (p.1.map kV))/\RelV p.2 q.2.2) kvs xs/\
    ∃o es ep,h.get? a=some o/\o.ExactDict/\o.data=.dict es ep/\es.toList=xs.map (entryOfKey (tupleKind (ca P w)))/\(xs.map (·.1)).Nodup
 | .set S n=>h.SetOf (intKind P w) a S n
 | .tst xs=> ∃o es ep t,h.get? a=some o/\SetOk w o es ep t xs
 | .ins C dx fs=>H dx=some (.own a)/\fs.length<=1000/\dx≠a/\h.get? a=some (W.instObj C dx)/\
    ∃mA,h.Ns1 dx mA/\(∀f,RelO (fs.lookup f) (mA f))/\PySem.Within mA (fs.map (·.1))
 | .own _=> ∃o,h.get? a=some o
 | .xd fs=> ∃mA,h.Ns1 a mA/\ ∀f,RelO (fs.lookup f) (mA f)
 | .rng lo hi=> ∃t u v,h.get? a=some {cls:=.type "range",data:=.fields #[.int lo t,.int hi u,.int 1 v]}
 | .frz o u=>h.get? a=some o/\ObjOk H h a u
 | .nst _ u=>ObjOk H h a u
 | .tbl ps=>h.get? a=some {cls:=.none,data:=.fields ps}
 | .met f x=>h.get? a=some (W.methodObj (.ref f) (.ref x))
 | .ext φ=>φ h/\(∃o,h.get? a=some o)/\ ∀h1 h2:Heap,φ h1->(∀o,h1.get? a=some o->h2.get? a=some o)->φ h2
def HOk(H:Hp)(h:Heap):Prop:= ∀a o,H a=some o->ObjOk P w H h a o
end
section
variable {P:Program}{w:World}{H H':Hp}{h h':Heap}{a:Addr}{o:HO}
theorem ObjOk.lt(x:ObjOk P w H h a o):a<h.objs.size:=by
 induction o with
 |lst xs=>obtain⟨_,_,_,_,e⟩:=x;exact Heap.lt_size e
 |tup xs=>obtain⟨_,_,_,p,_⟩:=x;exact p.lt
 |dK kvs=>obtain⟨_,_,_,_,o,_,_,e,_⟩:=x;exact Heap.lt_size e
 |dT kvs=>obtain⟨_,_,_,_,o,_,_,e,_⟩:=x;exact Heap.lt_size e
 |set S n=>obtain⟨o,_,_,_,e,_⟩:=x;exact Heap.lt_size e
 |tst xs=>obtain⟨o,_,_,_,e,_⟩:=x;exact Heap.lt_size e
 |ins C dx fs=>obtain⟨_,_,_,e,_⟩:=x;exact Heap.lt_size e
 |own y=>obtain⟨_,e⟩:=x;exact Heap.lt_size e
 |xd fs=>obtain⟨_,⟨_,_,_,e,_⟩,_⟩:=x;exact Heap.lt_size e
 |rng lo hi=>obtain⟨_,_,_,e⟩:=x;exact Heap.lt_size e
 |frz ob u ih=>obtain⟨e,_⟩:=x;exact Heap.lt_size e
 |nst p u ih=>exact ih x
 |tbl ps=>exact Heap.lt_size (show h.get? a=some _ from x)
 |met f y=>exact Heap.lt_size (show h.get? a=some _ from x)
 |ext φ=>obtain⟨_,⟨_,e⟩,_⟩:=x;exact Heap.lt_size e
theorem Paired.mapP {α β:Type}{F G:α->β->Prop}: ∀ {l₁:List α} {l₂:List β},Paired F l₁ l₂->(∀a b,F a b->G a b)->Paired G l₁ l₂
 |_,_,.nil,_=>.nil
 |_,_,.cons r t,f=>.cons (f _ _ r) (Paired.mapP t f)
theorem ObjOk.stay(x:ObjOk P w H h a o)(k: ∀b u,(b=a\/H b=some (.own a))->h.get? b=some u->h'.get? b=some u)
 (ho: ∀b,H b=some (.own a)->H' b=some (.own a)) (ht: ∀b xs,H b=some (.tup xs)->H' b=some (.tup xs)):ObjOk P w H' h' a o:=by
 induction o with
 |lst xs=>obtain⟨z,its,n,r,e⟩:=x;exact⟨z,its,n,r,k _ _ (.inl rfl) e⟩
 |tup xs=>obtain⟨z,its,r,⟨ob,e,c⟩,ob2,e2,c2⟩:=x;exact⟨z,its,r,⟨ob,k _ _ (.inl rfl) e,c⟩,ob2,k _ _ (.inl rfl) e2,c2⟩
 |dK kvs=>obtain⟨z,y,vs,r,ob,es,ep,e,c⟩:=x;exact⟨z,y,vs,r,ob,es,ep,k _ _ (.inl rfl) e,c⟩
 |dT kvs=>
  obtain⟨z,y,xs,r,ob,es,ep,e,c⟩:=x
  exact⟨z,y,xs,Paired.mapP r λp q z=>⟨z.1,ht _ _ z.2.1,z.2.2⟩,ob,es,ep,k _ _ (.inl rfl) e,c⟩
 |set S n=>obtain⟨ob,es,ep,t,e,c⟩:=x;exact⟨ob,es,ep,t,k _ _ (.inl rfl) e,c⟩
 |tst xs=>obtain⟨ob,es,ep,t,e,c⟩:=x;exact⟨ob,es,ep,t,k _ _ (.inl rfl) e,c⟩
 |ins C dx fs=>
  obtain⟨d,z,ne,e,mA,⟨od,es,ep,e2,c⟩,r⟩:=x
  exact⟨ho _ d,z,ne,k _ _ (.inl rfl) e,mA,⟨od,es,ep,k _ _ (.inr d) e2,c⟩,r⟩
 |own y=>obtain⟨ob,e⟩:=x;exact⟨ob,k _ _ (.inl rfl) e⟩
 |xd fs=>obtain⟨mA,⟨od,es,ep,e,c⟩,r⟩:=x;exact⟨mA,⟨od,es,ep,k _ _ (.inl rfl) e,c⟩,r⟩
 |rng lo hi=>obtain⟨t,u,v,e⟩:=x;exact⟨t,u,v,k _ _ (.inl rfl) e⟩
 |frz ob u ih=>obtain⟨e,q⟩:=x;exact⟨k _ _ (.inl rfl) e,ih q⟩
 |nst p u ih=>exact ih x
 |tbl ps=>
  have e:h.get? a=some {cls:=.none,data:=.fields ps}:=x
  show h'.get? a=some {cls:=.none,data:=.fields ps};exact k a _ (.inl rfl) e
 |met f y=>
  have e:h.get? a=some (W.methodObj (.ref f) (.ref y)):=x
  show h'.get? a=some (W.methodObj (.ref f) (.ref y));exact k a _ (.inl rfl) e
 |ext φ=>obtain⟨p,⟨o,e⟩,st⟩:=x;exact⟨st _ _ p λo q=>k _ _ (.inl rfl) q,⟨o,k _ _ (.inl rfl) e⟩,st⟩
theorem HOk.lt(x:HOk P w H h)(e:H a=some o):a<h.objs.size:=(x a o e).lt
theorem HOk.fresh(x:HOk P w H h)(e:h.objs.size<=a):H a=none:=by
 cases q:H a with
 |none=>rfl
 |some u=>exact absurd (Nat.lt_of_lt_of_le (x.lt q) e) (Nat.lt_irrefl _)
theorem HOk.kept(x:HOk P w H h)(k: ∀b u,h.get? b=some u->h'.get? b=some u):HOk P w H h':=λa o e=>
 (x a o e).stay (λb u _ q=>k b u q) (λ_ q=>q) λ_ _ q=>q
theorem HOk.laid(x:HOk P w H h)(k: ∀b u,h.get? b=some u->h'.get? b=some u)(hp:h.objs.size<=a)(new:ObjOk P w (aV H a o) h' a o):HOk P w (aV H a o) h':=λb u e=>by
 have hn:=x.fresh hp
 by_cases hb:b=a
 ·subst hb;rw[ay] at e;cases e;exact new
 ·rw[ar hb] at e
  exact(x b u e).stay (λc v _ q=>k c v q) (λc q=>by rw[ar (br q hn)];exact q) λc xs q=>by rw[ar (br q hn)];exact q
end
def Rd(H:Hp)(a:Addr)(u:HO):Prop:=H a=some u\/ ∃o,H a=some (.frz o u)
theorem Rd.ok {P:Program}{w:World}{H:Hp}{h:Heap}{a:Addr}{u:HO}(r:Rd H a u)(x:HOk P w H h):ObjOk P w H h a u:=by
 rcases r with r|⟨o,r⟩
 ·exact x a u r
 ·obtain⟨_,q⟩:=x a _ r
  exact q
def vG:Option HO->Prop
 |some (.lst _)=>True
 |some (.dK _)=>True
 |some (.dT _)=>True
 |some (.set _ _)=>True
 |some (.tst _)=>True
 |some (.ins _ _ _)=>True
 |some (.ext _)=>True
 |some (.nst _ _)=>True
 |_=>False
section
variable {P:Program}{w:World}{H:Hp}{h h':Heap}{x e:Addr}{o':HO}
theorem HOk.write(ok:HOk P w H h)(mu:vG (H x))(he:e=x\/H e=some (.own x))(k: ∀b u,b≠e->h.get? b=some u->h'.get? b=some u)(heo: ∃u,h'.get? e=some u)
 (new:ObjOk P w (aV H x o') h' x o'):HOk P w (aV H x o') h':=λb u q=>by
 have nown: ∀c y,H c=some (.own y)->c≠x:=λc y r z=>by subst z;rw[r] at mu;exact mu
 have ntup: ∀c xs,H c=some (.tup xs)->c≠x:=λc xs r z=>by subst z;rw[r] at mu;exact mu
 by_cases hb:b=x
 ·subst hb;rw[ay] at q;cases q;exact new
 ·rw[ar hb] at q
  by_cases hbe:b=e
  ·have q':H b=some (.own x):=by
    rcases he with z|z
    ·exact absurd (hbe.trans z) hb
    ·rw[hbe];exact z
   rw[q] at q';cases q';obtain⟨v,hv⟩:=heo
   exact⟨v,by rw[hbe];exact hv⟩
  ·refine(ok b u q).stay (λc v hc r=>k c v ?_ r) (λc r=>by rw[ar (nown c b r)];exact r) λc xs r=>by rw[ar (ntup c xs r)];exact r
   rcases hc with rfl|hc
   ·exact hbe
   ·rintro rfl
    rcases he with z|z
    ·exact nown c b hc z
    ·rw[hc] at z;cases z;exact hb rfl
end
structure Un(fs ex:List Addr)(H H':Hp)(h h':Heap):Prop where
 keep: ∀b o,h.get? b=some o->H b=none->b∉fs->b∉ex->h'.get? b=some o
 slot: ∀b o,h.get? b=some o->H b=none->b∈fs->b∉ex-> ∃sl,h'.get? b=some {o with slots:=sl}
 free: ∀b o,h.get? b=some o->H b=none->b∉ex->H' b=none
 there: ∀b o,h.get? b=some o->b∉ex-> ∃o',h'.get? b=some o'
 tups: ∀b xs,H b=some (.tup xs)->H' b=some (.tup xs)
 frzs: ∀b o u,H b=some (.frz o u)->H' b=some (.frz o u)
 tbls: ∀b ps,H b=some (.tbl ps)-> ∃more,H' b=some (.tbl (ps++more))
section
variable {fs fs' ex ex':List Addr}{H H1 H2:Hp}{h h1 h2 h':Heap}{a x e:Addr}{o:HO}
theorem Un.any(u:Un fs ex H H1 h h1){b:Addr}{ob:Obj}(q:h.get? b=some ob)(n:H b=none)(hx:b∉ex): ∃sl,h1.get? b=some {ob with slots:=sl}:=by
 by_cases hb:b∈fs
 ·exact u.slot b ob q n hb hx
 ·exact⟨ob.slots,u.keep b ob q n hb hx⟩
theorem Un.trans(a:Un fs ex H H1 h h1)(b:Un fs ex H1 H2 h1 h2):Un fs ex H H2 h h2 where
 keep:=λc ob q n hc hx=>b.keep c ob (a.keep c ob q n hc hx) (a.free c ob q n hx) hc hx
 slot:=λc ob q n hc hx=>by
  obtain⟨sl,e1⟩:=a.slot c ob q n hc hx
  obtain⟨sl',e2⟩:=b.slot c _ e1 (a.free c ob q n hx) hc hx
  exact⟨sl',e2⟩
 free:=λc ob q n hx=>by
  obtain⟨o',e1⟩:=a.there c ob q hx
  exact b.free c o' e1 (a.free c ob q n hx) hx
 there:=λc ob q hx=>by
  obtain⟨o',e1⟩:=a.there c ob q hx
  exact b.there c o' e1 hx
 tups:=λc xs q=>b.tups c xs (a.tups c xs q)
 frzs:=λc ob xs q=>b.frzs c ob xs (a.frzs c ob xs q)
 tbls:=λc ps q=>by
  obtain⟨m1,e1⟩:=a.tbls c ps q
  obtain⟨m2,e2⟩:=b.tbls c _ e1
  exact⟨m1++m2,by rw[e2,Array.append_assoc]⟩
theorem Un.kept(k: ∀b u,h.get? b=some u->h'.get? b=some u):Un fs ex H H h h':=
 ⟨λb ob q _ _ _=>k b ob q,λb ob q _ _ _=>⟨ob.slots,k b ob q⟩,λ_ _ _ n _=>n,λb ob q _=>⟨ob,k b ob q⟩,λ_ _ q=>q,λ_ _ _ q=>q,λ_ ps q=>⟨#[],by rw[q];simp⟩⟩
theorem Un.refl:Un fs ex H H h h:=Un.kept λ_ _ q=>q
theorem Un.laid(k: ∀b u,h.get? b=some u->h'.get? b=some u)(hp:h.objs.size<=a)(hn:H a=none):Un fs ex H (aV H a o) h h' where
 keep:=λb u q _ _ _=>k b u q
 slot:=λb u q _ _ _=>⟨u.slots,k b u q⟩
 free:=λb u q n _=>by rw[ar (Nat.ne_of_lt (Nat.lt_of_lt_of_le (Heap.lt_size q) hp))];exact n
 there:=λb u q _=>⟨u,k b u q⟩
 tups:=λb xs q=>by rw[ar (br q hn)];exact q
 frzs:=λb u xs q=>by rw[ar (br q hn)];exact q
 tbls:=λb ps q=>⟨#[],by rw[ar (br q hn),q];simp⟩
theorem Un.write(mu:vG (H x))(he:e=x\/H e=some (.own x))(k: ∀b u,b≠e->h.get? b=some u->h'.get? b=some u)(heo: ∃u,h'.get? e=some u):Un fs ex H (aV H x o) h h':=by
 have hx: ∀b,H b=none->b≠x:=λb n z=>by subst z;rw[n] at mu;exact mu
 have hb: ∀b,H b=none->b≠e:=λb n z=>by
  subst z;rcases he with r|r
  ·exact hx b n r
  ·rw[n] at r;cases r
 have hm: ∀b u,H b=some u-> ¬vG (some u)->b≠x:=λb u q nm z=>by subst z;rw[q] at mu;exact nm mu
 refine⟨λb u q n _ _=>k b u (hb b n) q,λb u q n _ _=>⟨u.slots,k b u (hb b n) q⟩,λb u q n _=>by rw[ar (hx b n)];exact n,λb u q _=>?_,
  λb xs q=>by rw[ar (hm b _ q λz=>z)];exact q,λb u xs q=>by rw[ar (hm b _ q λz=>z)];exact q,λb ps q=>⟨#[],by rw[ar (hm b _ q λz=>z),q];simp⟩⟩
 by_cases hbe:b=e
 ·subst hbe;exact heo
 ·exact⟨u,k b u hbe q⟩
end
def trk(h:Heap)(H:Hp):List Addr:=(List.range h.objs.size).filter λa=>(H a).isSome
def kZ(h:Heap)(H:Hp):Heap:=W.hideAll h (trk h H)
theorem oF(h:Heap)(H:Hp):(kZ h H).objs.size=h.objs.size:=W.hideAll_size _ _
theorem rW {h:Heap}{H:Hp}{b:Addr}{o:Obj}(e:h.get? b=some o)(n:H b=none):(kZ h H).get? b=some o:=
 W.hideAll_get _ e λhm=>by
  have q:(H b).isSome=true:=(List.mem_filter.mp hm).2
  rw[n] at q;simp at q
theorem tZ {h:Heap}{H:Hp}{b:Addr}{o:Obj}(e:(kZ h H).get? b=some o):h.get? b=some o/\H b=none:=by
 have e':h.get? b=some o:=W.of_hideAll (trk h H) e
 refine⟨e',?_⟩
 cases q:H b with
 |none=>rfl
 |some x=>
  have hm:b∈trk h H:=List.mem_filter.mpr ⟨List.mem_range.mpr (Heap.lt_size e'),by simp[q]⟩
  have z:(kZ h H).get? b=none:=W.hideAll_none (trk h H) hm
  rw[z] at e;cases e
structure Mod(K:W.Frag)(mg:Str->Option Value)(base:Heap):Prop where
 kin:K.In base
 glob:base.Ns mainGlobals mg
 blt: ∃mb,base.Ns builtinsNs mb/\ ∀x:Str,x≠"__name__"->mb x=bootBuiltins x
 nolimit:base.NoLimit
structure Cx where
 prog:Program
 w:World
 K:W.Frag
 mg:Str->Option Value
 base:Heap
 A:Around
 N:List Str
 s₀:Shared
 H₀:Hp
 env:Env
 outer:List Env
 stack:List Env
 ex:List Addr
 fn:Str->Bool
 calm:Bool
 pn:List (Addr×Obj)
 xe:Value->Shared->Prop
def fK(l:List Env):List Addr:=l.filterMap (·.frame)
abbrev Cx.fs(X:Cx):List Addr:=fK X.outer
def oW(sc:Scope)(x:Str):Prop:=sc.names.lookup x=some .local\/sc.names.lookup x=some .cell\/sc.names.lookup x=some .free
def qX(sc:Scope)(x:Str):Prop:=sc.names.lookup x=some .local\/sc.names.lookup x=some .cell
def xo(env:Env)(h:Heap)(m:Str->Option Value)(x:Str)(u:Value):Prop:=
 (env.kindOf x=some .local/\m x=some u)\/((env.kindOf x=some .cell\/env.kindOf x=some .free)/\ ∃c,env.cells.lookup x=some c/\h.IsCell c (some u))
structure Cx.Ok(X:Cx):Prop where
 mod:Mod X.K X.mg X.base
 kind:X.env.scope.kind=.function
 glob:X.env.globals=mainGlobals
 blt:X.env.builtins=builtinsNs
 above:X.s₀.heap.objs.size<=X.env.locals
 inj: ∀x y c,X.env.cells.lookup x=some c->X.env.cells.lookup y=some c->x=y
 has: ∀x,(X.env.kindOf x=some .cell\/X.env.kindOf x=some .free)-> ∃c,X.env.cells.lookup x=some c
 cab: ∀x c,X.fn x=true->X.env.cells.lookup x=some c->X.s₀.heap.objs.size<=c
 hd:X.calm=true->X.A.handled=none
 frames:X.A.frames=some X.stack
 stk:X.stack=X.outer\/(X.stack=X.env::X.outer/\X.env.frame=some X.env.locals)
 exf: ∀b∈X.ex,b≠X.env.locals/\ ∀x c,X.env.cells.lookup x=some c->c≠b
 bs: ∀b o,X.base.get? b=some o->X.s₀.heap.get? b=some o/\X.H₀ b=none
 bsz:X.base.objs.size<=X.s₀.heap.objs.size
 noex: ∀b o,X.base.get? b=some o->b∉X.ex
 exfs: ∀b∈X.ex,b∉X.fs
 funs:X.s₀.heap.FunFrames X.base X.outer
 frf: ∀b∈X.fs,X.H₀ b=none
structure Inv(X:Cx)(aa:List (Addr×Obj))(σ:List (Option V))(H:Hp)(s:Shared):Prop where
 ok:X.Ok
 os:s.os=X.s₀.os
 bare:AllBare s.gens
 base:Un X.fs X.ex X.H₀ H X.s₀.heap s.heap
 loc: ∃m,s.heap.Ns X.env.locals m/\ ∀(i:Nat) (x:Str) (v:V),X.N[i]? =some x->σ[i]? =some (some v)->oW X.env.scope x-> ∃u,RelV v u/\xo X.env s.heap m x u
 cell: ∀x c,X.env.cells.lookup x=some c-> ∃v,s.heap.IsCell c v
 free:H X.env.locals=none
 freeC: ∀x c,X.env.cells.lookup x=some c->H c=none
 pin: ∀p∈X.pn++aa,s.heap.get? p.1=some p.2/\H p.1=none/\p.1≠X.env.locals/\p.1∉X.fs/\ ∀v,p.2.data≠ .cell v
 hok:HOk X.prog X.w H s.heap
 len:σ.length=X.N.length
section
variable {X:Cx}{aa:List (Addr×Obj)}{σ:List (Option V)}{H H':Hp}{s:Shared}{h':Heap}
theorem Cx.Ok.nofr(ok:X.Ok){b:Addr}{o:Obj}(e:X.base.get? b=some o):b∉X.fs:=λhb=>by
 have:=(ok.funs.mem hb).1
 rw[e] at this;cases this
theorem Inv.bs(I:Inv X aa σ H s): ∀b o,X.base.get? b=some o->s.heap.get? b=some o/\H b=none:=λb o e=>
 ⟨I.base.keep b o (I.ok.bs b o e).1 (I.ok.bs b o e).2 (I.ok.nofr e) (I.ok.noex b o e),I.base.free b o (I.ok.bs b o e).1 (I.ok.bs b o e).2 (I.ok.noex b o e)⟩
theorem Inv.bk(I:Inv X aa σ H s): ∀b o,X.base.get? b=some o->s.heap.get? b=some o:=λb o e=>(I.bs b o e).1
theorem Inv.mod(I:Inv X aa σ H s):Mod X.K X.mg X.base:=I.ok.mod
theorem Inv.kIn(I:Inv X aa σ H s):X.K.In s.heap:=I.ok.mod.kin.keeps I.bk
theorem Inv.lt(I:Inv X aa σ H s):X.env.locals<s.heap.objs.size:=let⟨_,hn,_⟩:=I.loc;hn.lt
theorem Inv.sz(I:Inv X aa σ H s):X.s₀.heap.objs.size<=s.heap.objs.size:=Nat.le_trans I.ok.above (Nat.le_of_lt I.lt)
theorem Inv.nofs(I:Inv X aa σ H s){a:Addr}(h:s.heap.objs.size<=a):a∉X.fs:=λhb=>by
 obtain⟨_,o,ho,_⟩:=I.ok.funs.mem hb
 exact absurd (Nat.lt_of_lt_of_le (Heap.lt_size ho) (Nat.le_trans I.sz h)) (Nat.lt_irrefl _)
theorem Inv.cne(I:Inv X aa σ H s): ∀x c,X.env.cells.lookup x=some c->c≠X.env.locals:=λx c e z=>by
 obtain⟨v,o,ho,hd⟩:=I.cell x c e
 obtain⟨m,⟨o',es,ep,ho',hd',_⟩,_⟩:=I.loc
 rw[z,ho'] at ho;cases ho;rw[hd'] at hd;cases hd
theorem Inv.funs(I:Inv X aa σ H s):s.heap.FunFrames X.base X.outer:=by
 have all: ∀(l:List Env),(∀b∈fK l,b∈X.fs)->X.s₀.heap.FunFrames X.base l->s.heap.FunFrames X.base l:=by
  intro l
  induction l with
  |nil=>intro _ _;trivial
  |cons env r ih=>
   intro hs hl;obtain⟨hk,⟨L,o,hf,hn,ho,hd⟩,hr⟩:=hl
   have hL:L∈X.fs:=hs L (by unfold fK;rw[List.filterMap_cons,hf];exact List.mem_cons_self)
   obtain⟨sl,e⟩:=I.base.slot L o ho (I.ok.frf L hL) hL λz=>I.ok.exfs L z hL
   exact⟨hk,⟨L,_,hf,hn,e,hd⟩,ih (λb hb=>hs b (by unfold fK;rw[List.filterMap_cons,hf];exact List.mem_cons_of_mem _ hb)) hr⟩
 exact all X.outer (λ_ hb=>hb) I.ok.funs
theorem Inv.stack(I:Inv X aa σ H s):s.heap.FunFrames X.base X.stack:=by
 rcases I.ok.stk with e|⟨e,hf⟩
 ·rw[e];exact I.funs
 ·rw[e]
  obtain⟨m,hn,_⟩:=I.loc
  refine .cons (by rw[I.ok.kind];decide) hf hn ?_ I.funs
  exact Heap.get?_none_of_le (Nat.le_trans I.ok.bsz I.ok.above)
theorem Inv.stkSub(I:Inv X aa σ H s): ∀b∈fK X.stack,b∈X.env.locals::X.fs:=λb hb=>by
 rcases I.ok.stk with e|⟨e,hf⟩
 ·rw[e] at hb;exact List.mem_cons_of_mem _ hb
 ·rw[e] at hb
  unfold fK at hb;rw[List.filterMap_cons,hf] at hb;exact hb
theorem Inv.stkFree(I:Inv X aa σ H s): ∀b∈fK X.stack,H b=none:=λb hb=>by
 rcases List.mem_cons.mp (I.stkSub b hb) with e|hb
 ·rw[e];exact I.free
 ·obtain⟨_,o,ho,_⟩:=I.ok.funs.mem hb
  exact I.base.free b o ho (I.ok.frf b hb) λz=>I.ok.exfs b z hb
theorem Inv.step {g':Array GenState}{t':Nat}{d':Drawn}{ch:List Addr}(I:Inv X aa σ H s)
 (hch: ∀b∈ch,(b∈X.ex\/X.s₀.heap.objs.size<=b)/\b≠X.env.locals/\(∀x c,X.env.cells.lookup x=some c->c≠b)/\ ∀p∈X.pn++aa,p.1≠b)
 (keep: ∀b o,b≠X.env.locals->b∉X.fs->b∉ch->s.heap.get? b=some o->H b=none->h'.get? b=some o)
 (slot: ∀b o,b≠X.env.locals->b∈X.fs->b∉ch->s.heap.get? b=some o->H b=none-> ∃sl,h'.get? b=some {o with slots:=sl}) (free: ∀b o,b∉ch->s.heap.get? b=some o->H b=none->H' b=none)
 (there: ∀b o,b∉ch->s.heap.get? b=some o-> ∃o',h'.get? b=some o')
 (tups: ∀b xs,H b=some (.tup xs)->H' b=some (.tup xs)) (frzs: ∀b o u,H b=some (.frz o u)->H' b=some (.frz o u)) (tbls: ∀b ps,H b=some (.tbl ps)-> ∃more,H' b=some (.tbl (ps++more)))
 (ns: ∀m,s.heap.Ns X.env.locals m->h'.Ns X.env.locals m) (hok:HOk X.prog X.w H' h') (hg:AllBare g'):
 Inv X aa σ H' {s with heap:=h',gens:=g',drawn:=d',toks:=t'}:=by
 have neL: ∀b o,X.s₀.heap.get? b=some o->b≠X.env.locals:=λb o e=>Nat.ne_of_lt (Nat.lt_of_lt_of_le (Heap.lt_size e) I.ok.above)
 have neC: ∀b o,X.s₀.heap.get? b=some o->b∉X.ex->b∉ch:=λb o e hx hb=>by
  rcases(hch b hb).1 with z|z
  ·exact hx z
  ·exact absurd (Nat.lt_of_lt_of_le (Heap.lt_size e) z) (Nat.lt_irrefl _)
 have cellK: ∀x c,X.env.cells.lookup x=some c-> ∀v,s.heap.IsCell c v->h'.IsCell c v:=λx c e v hq_=>by
  obtain⟨o,ho,hd⟩:=hq_
  have nch:c∉ch:=λz=>(hch c z).2.2.1 x c e rfl
  by_cases hc:c∈X.fs
  ·obtain⟨sl,q⟩:=slot c o (I.cne x c e) hc nch ho (I.freeC x c e)
   exact⟨_,q,hd⟩
  ·exact⟨o,keep c o (I.cne x c e) hc nch ho (I.freeC x c e),hd⟩
 refine⟨I.ok,I.os,hg,⟨λb o e n hb hx=>?_,λb o e n hb hx=>?_,λb o e n hx=>?_,λb o e hx=>?_,λb xs e=>tups b xs (I.base.tups b xs e),λb o xs e=>frzs b o xs (I.base.frzs b o xs e),λb ps e=>?_⟩,?_,λx c e=>?_,?_,λx c e=>?_,λp hp=>?_,hok,I.len⟩
 ·exact keep b o (neL b o e) hb (neC b o e hx) (I.base.keep b o e n hb hx) (I.base.free b o e n hx)
 ·obtain⟨sl,e1⟩:=I.base.slot b o e n hb hx
  obtain⟨sl',e2⟩:=slot b _ (neL b o e) hb (neC b o e hx) e1 (I.base.free b o e n hx)
  exact⟨sl',e2⟩
 ·obtain⟨o',e1⟩:=I.base.there b o e hx
  exact free b o' (neC b o e hx) e1 (I.base.free b o e n hx)
 ·obtain⟨o',e1⟩:=I.base.there b o e hx
  exact there b o' (neC b o e hx) e1
 ·obtain⟨m1,e1⟩:=I.base.tbls b ps e
  obtain⟨m2,e2⟩:=tbls b _ e1
  exact⟨m1++m2,by rw[e2,Array.append_assoc]⟩
 ·obtain⟨m,hn,hl⟩:=I.loc
  refine⟨m,ns m hn,λi x v e1 e2 e3=>?_⟩
  obtain⟨u,r,l⟩:=hl i x v e1 e2 e3
  refine⟨u,r,?_⟩
  rcases l with l|⟨k,c,e,z⟩
  ·exact .inl l
  ·exact .inr ⟨k,c,e,cellK x c e _ z⟩
 ·obtain⟨v,z⟩:=I.cell x c e
  exact⟨v,cellK x c e v z⟩
 ·obtain⟨m,⟨o,_,_,ho,_⟩,_⟩:=I.loc
  exact free _ o (λz=>(hch _ z).2.1 rfl) ho I.free
 ·obtain⟨v,o,ho,hd⟩:=I.cell x c e
  exact free c o (λz=>(hch c z).2.2.1 x c e rfl) ho (I.freeC x c e)
 ·obtain⟨e,n,ne,nf,d⟩:=I.pin p hp
  have nch:p.1∉ch:=λz=>(hch p.1 z).2.2.2 p hp rfl
  exact⟨keep p.1 p.2 ne nf nch e n,free p.1 p.2 nch e n,ne,nf,d⟩
theorem Inv.un {t':Nat}(I:Inv X aa σ H s)(u:Un X.fs [] H H' s.heap h')(hok:HOk X.prog X.w H' h'):Inv X aa σ H' {s with heap:=h',toks:=t'}:=by
 obtain⟨m,⟨o,es,ep,ho,r⟩,_⟩:=id I.loc
 obtain⟨sl,hL⟩:=u.any ho I.free (by simp)
 exact I.step (g':=s.gens) (d':=s.drawn) (ch:=[]) (λ_ z=>nomatch z) (λb o _ hb _ e n=>u.keep b o e n hb (by simp)) (λb o _ hb _ e n=>u.slot b o e n hb (by simp)) (λb o _ e n=>u.free b o e n (by simp)) (λb o _ e=>u.there b o e (by simp)) u.tups u.frzs u.tbls (λm' hm=>by
  obtain⟨o',es',ep',ho',r'⟩:=hm
  rw[ho] at ho';cases ho';exact⟨_,es',ep',hL,r'⟩) hok I.bare
theorem Inv.call {g':Array GenState}{t':Nat}{d':Drawn}{ch:List Addr}(I:Inv X aa σ H s)(u:Un (fK X.stack) ch H H' s.heap h')(hok:HOk X.prog X.w H' h')(hg:AllBare g')
 (hch: ∀b∈ch,(b∈X.ex\/X.s₀.heap.objs.size<=b)/\b≠X.env.locals/\(∀x c,X.env.cells.lookup x=some c->c≠b)/\ ∀p∈X.pn++aa,p.1≠b):
 Inv X aa σ H' {s with heap:=h',gens:=g',drawn:=d',toks:=t'}:=by
 obtain⟨m,⟨o,es,ep,ho,r⟩,_⟩:=id I.loc
 obtain⟨sl,hL⟩:=u.any ho I.free λz=>(hch _ z).2.1 rfl
 exact I.step (ch:=ch) hch (λb o hL hb hc e n=>u.keep b o e n (λz=>(List.mem_cons.mp (I.stkSub b z)).elim hL hb) hc) (λb o _ _ hc e n=>u.any e n hc) (λb o hc e n=>u.free b o e n hc) (λb o hc e=>u.there b o e hc) u.tups u.frzs u.tbls (λm' hm=>by
  obtain⟨o',es',ep',ho',r'⟩:=hm
  rw[ho] at ho';cases ho';exact⟨_,es',ep',hL,r'⟩) hok hg
theorem Inv.turned {t':Nat}{it:Addr}(I:Inv X aa σ H s)(k: ∀b o,b≠it->s.heap.get? b=some o->h'.get? b=some o)(hn:H it=none)(hL:it≠X.env.locals)
 (h1:it∈X.ex\/X.s₀.heap.objs.size<=it) (h2: ∀x c,X.env.cells.lookup x=some c->c≠it) (h3: ∀p∈X.pn++aa,p.1≠it):Inv X aa σ H {s with heap:=h',toks:=t'}:=by
 have nit: ∀b u,H b=some u->b≠it:=λb u e z=>by rw[z,hn] at e;cases e
 refine I.step (g':=s.gens) (d':=s.drawn) (ch:=[it]) (λb hb=>?_) (λb o _ _ hc e _=>k b o (λz=>hc (by simp[z])) e) (λb o _ _ hc e _=>⟨o.slots,k b o (λz=>hc (by simp[z])) e⟩) (λ_ _ _ _ n=>n)
  (λb o hc e=>⟨o,k b o (λz=>hc (by simp[z])) e⟩) (λ_ _ e=>e) (λ_ _ _ e=>e) (λb ps e=>⟨#[],by rw[e];simp⟩) (λm hm=>?_) (λb u e=>?_) I.bare
 ·have e:b=it:=by simpa using hb
  subst e;exact⟨h1,hL,h2,h3⟩
 ·obtain⟨o,es,ep,ho,r⟩:=hm
  exact⟨o,es,ep,k _ o (Ne.symm hL) ho,r⟩
 ·refine(I.hok b u e).stay (λc v hc q=>k c v ?_ q) (λ_ q=>q) λ_ _ q=>q
  rcases hc with z|z
  ·rw[z];exact nit b u e
  ·exact nit c _ z
theorem Inv.tok(I:Inv X aa σ H s)(t:Nat):Inv X aa σ H {s with toks:=t}:=I.un (h':=s.heap) (t':=t) Un.refl I.hok
theorem Inv.kept {t':Nat}(I:Inv X aa σ H s)(k: ∀b u,s.heap.get? b=some u->h'.get? b=some u):Inv X aa σ H {s with heap:=h',toks:=t'}:=I.un (Un.kept k) (I.hok.kept k)
theorem Inv.laid {a:Addr}{o:HO}{t':Nat}(I:Inv X aa σ H s)(k: ∀b u,s.heap.get? b=some u->h'.get? b=some u)(hp:s.heap.objs.size<=a)(new:ObjOk X.prog X.w (aV H a o) h' a o):
 Inv X aa σ (aV H a o) {s with heap:=h',toks:=t'}:=I.un (Un.laid k hp (I.hok.fresh hp)) (I.hok.laid k hp new)
theorem Inv.write {x e:Addr}{o:HO}{t':Nat}(I:Inv X aa σ H s)(mu:vG (H x))(he:e=x\/H e=some (.own x))(k: ∀b u,b≠e->s.heap.get? b=some u->h'.get? b=some u)(heo: ∃u,h'.get? e=some u)
 (new:ObjOk X.prog X.w (aV H x o) h' x o):Inv X aa σ (aV H x o) {s with heap:=h',toks:=t'}:=I.un (Un.write mu he k heo) (I.hok.write mu he k heo new)
theorem Inv.pins_of {pins':List (Addr×Obj)}(I:Inv X aa σ H s)(h: ∀p∈pins',s.heap.get? p.1=some p.2/\H p.1=none/\p.1≠X.env.locals/\p.1∉X.fs/\ ∀v,p.2.data≠ .cell v):Inv X pins' σ H s:=
 ⟨I.ok,I.os,I.bare,I.base,I.loc,I.cell,I.free,I.freeC,λp hp=>(List.mem_append.mp hp).elim (λz=>I.pin p (List.mem_append_left _ z)) (h p),I.hok,I.len⟩
theorem lC {N:List Str}(hN:N.Nodup){i j:Nat}{x:Str}(a:N[i]? =some x)(b:N[j]? =some x):i=j:=by
 obtain⟨h1,e1⟩:=List.getElem?_eq_some_iff.mp a
 obtain⟨h2,e2⟩:=List.getElem?_eq_some_iff.mp b
 exact(List.getElem_inj hN).mp (e1.trans e2.symm)
theorem jO {M:Model}{A:Around}{E:Value->Shared->Prop}{i:Nat}{x:Str}{v:V}{u:Value}{Q:Unit->Shared->Prop}(I:Inv X aa σ H s)(hN:X.N.Nodup)(hi:X.N[i]? =some x)(hx:qX X.env.scope x)(r:RelV v u)
 (h: ∀s',Inv X aa (σ.set i (some v)) H s'->(∃a,Heap.SameBut a s.heap s'.heap/\(a=X.env.locals\/X.env.cells.lookup x=some a))->Q () s') (hf:X.fn x=true\/X.env.scope.names.lookup x=some .local:=by first|exact .inl rfl|exact .inr rfl|assumption):wpAny M A (storeName X.env x u) Q E s:=by
 obtain⟨m,hn,hl⟩:=id I.loc
 have hcls:(X.env.scope.kind== .class||(X.env.scope.kind== .module&&X.env.locals !=X.env.globals))=false:=by rw[I.ok.kind];rfl
 have hiσ:i<σ.length:=by rw[I.len];exact(List.getElem?_eq_some_iff.mp hi).1
 have cne:=I.cne
 have tracked: ∀ {a:Addr} {h':Heap},(∃o,s.heap.get? a=some o/\H a=none)->Heap.SameBut a s.heap h'->HOk X.prog X.w H h':=λ{a h'} ha hs b ob e=>by
  obtain⟨_,_,hfree⟩:=ha
  refine(I.hok b ob e).stay (λc w' hc q=>(hs.2 c ?_).trans q) (λ_ q=>q) λ_ _ q=>q
  rintro rfl
  rcases hc with rfl|hc
  ·rw[hfree] at e;cases e
  ·rw[hfree] at hc;cases hc
 rcases hx with hk|hk
 ·refine wpAny_storeName_local hk hn (λh' hn' hs=>?_) hcls
  obtain⟨oL,_,_,hoL,_⟩:=id hn
  refine h _ ⟨I.ok,I.os,I.bare,⟨λb o e n hb hx=>?_,λb o e n hb hx=>?_,I.base.free,λb o e hx=>?_,I.base.tups,I.base.frzs,I.base.tbls⟩,⟨_,hn',λj y v' e1 e2 e3=>?_⟩,λy c e=>?_,I.free,I.freeC,λp hp=>?_,tracked ⟨oL,hoL,I.free⟩ hs,by simpa using I.len⟩ ⟨_,hs,.inl rfl⟩
  ·exact(hs.2 b (Nat.ne_of_lt (Nat.lt_of_lt_of_le (Heap.lt_size e) I.ok.above))).trans (I.base.keep b o e n hb hx)
  ·obtain⟨sl,e1⟩:=I.base.slot b o e n hb hx
   exact⟨sl,(hs.2 b (Nat.ne_of_lt (Nat.lt_of_lt_of_le (Heap.lt_size e) I.ok.above))).trans e1⟩
  ·obtain⟨o',e1⟩:=I.base.there b o e hx
   exact⟨o',(hs.2 b (Nat.ne_of_lt (Nat.lt_of_lt_of_le (Heap.lt_size e) I.ok.above))).trans e1⟩
  ·by_cases hj:j=i
   ·subst hj
    rw[hi] at e1;cases e1;rw[List.getElem?_set_self hiσ] at e2;cases e2
    exact⟨u,r,.inl ⟨hk,by simp⟩⟩
   ·rw[List.getElem?_set_ne (Ne.symm hj)] at e2
    obtain⟨u',r',q⟩:=hl j y v' e1 e2 e3
    refine⟨u',r',?_⟩
    rcases q with⟨k,e⟩|⟨k,c,e,z⟩
    ·refine .inl ⟨k,?_⟩
     have:y≠x:=λe=>hj (lC hN e1 (e▸hi))
     simp[this,e]
    ·exact .inr ⟨k,c,e,z.sameBut hs (cne y c e)⟩
  ·obtain⟨w',z⟩:=I.cell y c e
   exact⟨w',z.sameBut hs (cne y c e)⟩
  ·obtain⟨e,n,ne,nf,d⟩:=I.pin p hp
   exact⟨(hs.2 p.1 ne).trans e,n,ne,nf,d⟩
 ·have hfn:X.fn x=true:=by
   rcases hf with z|z
   ·exact z
   ·rw[z] at hk;cases hk
  obtain⟨c,hc⟩:=I.ok.has x (.inl hk)
  obtain⟨w',z⟩:=I.cell x c hc
  refine wpAny_storeName_cell I.ok.kind hk hc z (λh' hc' hs=>?_)
  obtain⟨oc,hoc,hocd⟩:=id z
  refine h {s with heap:=h'} ⟨I.ok,I.os,I.bare,⟨λb o e n hb hx=>?_,λb o e n hb hx=>?_,I.base.free,λb o e hx=>?_,I.base.tups,I.base.frzs,I.base.tbls⟩,⟨m,hn.sameBut hs (Ne.symm (cne x c hc)),λj y v' e1 e2 e3=>?_⟩,λy c' e=>?_,I.free,I.freeC,λp hp=>?_,tracked ⟨oc,hoc,I.freeC x c hc⟩ hs,by simpa using I.len⟩ ⟨c,hs,.inr hc⟩
  ·exact(hs.2 b (Nat.ne_of_lt (Nat.lt_of_lt_of_le (Heap.lt_size e) (I.ok.cab x c hfn hc)))).trans (I.base.keep b o e n hb hx)
  ·obtain⟨sl,e1⟩:=I.base.slot b o e n hb hx
   exact⟨sl,(hs.2 b (Nat.ne_of_lt (Nat.lt_of_lt_of_le (Heap.lt_size e) (I.ok.cab x c hfn hc)))).trans e1⟩
  ·obtain⟨o',e1⟩:=I.base.there b o e hx
   exact⟨o',(hs.2 b (Nat.ne_of_lt (Nat.lt_of_lt_of_le (Heap.lt_size e) (I.ok.cab x c hfn hc)))).trans e1⟩
  ·by_cases hj:j=i
   ·subst hj
    rw[hi] at e1;cases e1;rw[List.getElem?_set_self hiσ] at e2;cases e2
    exact⟨u,r,.inr ⟨.inl hk,c,hc,hc'⟩⟩
   ·rw[List.getElem?_set_ne (Ne.symm hj)] at e2
    obtain⟨u',r',q⟩:=hl j y v' e1 e2 e3
    refine⟨u',r',?_⟩
    rcases q with q|⟨k,c',e,z'⟩
    ·exact .inl q
    ·refine .inr ⟨k,c',e,z'.sameBut hs ?_⟩
     rintro rfl
     exact hj (lC hN e1 (I.ok.inj _ _ _ e hc▸hi))
  ·by_cases hcc:c'=c
   ·subst hcc;exact⟨_,hc'⟩
   ·obtain⟨w2,z2⟩:=I.cell y c' e
    exact⟨w2,z2.sameBut hs hcc⟩
  ·obtain⟨e,n,ne,nf,d⟩:=I.pin p hp
   refine⟨(hs.2 p.1 ?_).trans e,n,ne,nf,d⟩
   intro q;rw[q,hoc] at e;have q':oc=p.2:=Option.some.inj e
   exact d w' (by rw[<-q'];exact hocd)
theorem gr {M:Model}{A:Around}{E:Value->Shared->Prop}{i:Nat}{x:Str}{v:V}{u:Value}{Q:Unit->Shared->Prop}(I:Inv X aa σ H s)(hN:X.N.Nodup)(hi:X.N[i]? =some x)(hx:qX X.env.scope x)(r:RelV v u)
 (h: ∀s',Inv X aa (σ.set i (some v)) H s'->Q () s') (hf:X.fn x=true\/X.env.scope.names.lookup x=some .local:=by first|exact .inl rfl|exact .inr rfl|assumption):wpAny M A (storeName X.env x u) Q E s:=
 jO I hN hi hx r (λs' I' _=>h s' I') hf
theorem Inv.call' {s':Shared}{ch:List Addr}(I:Inv X aa σ H s)(ho:s'.os=s.os)(u:Un (fK X.stack) ch H H' s.heap s'.heap)(hok:HOk X.prog X.w H' s'.heap)(hg:AllBare s'.gens)
 (hch: ∀b∈ch,(b∈X.ex\/X.s₀.heap.objs.size<=b)/\b≠X.env.locals/\(∀x c,X.env.cells.lookup x=some c->c≠b)/\ ∀p∈X.pn++aa,p.1≠b):Inv X aa σ H' s':=by
 obtain⟨h',g',d',t',o'⟩:=s'
 have e:o'=s.os:=ho
 subst e;exact I.call (g':=g') (t':=t') (d':=d') u hok hg hch
end
abbrev XK:=Value->Option Addr->Hp->Prop
abbrev St:=List (Option V)
abbrev VK:=V->Hp->Prop
abbrev TE:=St->Hp->VK->Prop
abbrev TT:=St->Hp->(Bool->Hp->Prop)->Prop
abbrev TA:=St->Hp->(List V->Hp->Prop)->Prop
structure Ends where
 nx:St->Hp->Prop
 rt:VK
 bk:St->Hp->Prop:=λ_ _=>False
 ct:St->Hp->Prop:=λ_ _=>False
abbrev TS:=Ends->St->Hp->Prop
def EP(X:Cx)(aa:List (Addr×Obj))(σ:St)(Q:VK)(u:Value)(s':Shared):Prop:= ∃v H',Inv X aa σ H' s'/\RelV v u/\Q v H'
def TP(X:Cx)(aa:List (Addr×Obj))(σ:St)(Q:Bool->Hp->Prop)(b:Bool)(s':Shared):Prop:= ∃H',Inv X aa σ H' s'/\Q b H'
def AP(X:Cx)(aa:List (Addr×Obj))(σ:St)(Q:List V->Hp->Prop)(us:List Value)(s':Shared):Prop:= ∃vs H',Inv X aa σ H' s'/\Vals vs us/\Q vs H'
def SP(X:Cx)(aa:List (Addr×Obj))(D:Ends)(f:Flow)(s':Shared):Prop:=
 match f with
 | .next=> ∃σ' H',Inv X aa σ' H' s'/\D.nx σ' H'
 | .brk=> ∃σ' H',Inv X aa σ' H' s'/\D.bk σ' H'
 | .cont=> ∃σ' H',Inv X aa σ' H' s'/\D.ct σ' H'
 | .ret u=> ∃v σ' H',Inv X aa σ' H' s'/\RelV v u/\D.rt v H'
def PE(X:Cx)(e:Expr)(t:TE):Prop:=
 ∀(aa:List (Addr×Obj)) (s:Shared) (σ:St) (H:Hp) (Q:VK),Inv X aa σ H s->t σ H Q->wpAny (model X.prog X.w) X.A (eval e X.env) (EP X aa σ Q) X.xe s
def PT(X:Cx)(e:Expr)(t:TT):Prop:=
 ∀(aa:List (Addr×Obj)) (s:Shared) (σ:St) (H:Hp) (Q:Bool->Hp->Prop),Inv X aa σ H s->t σ H Q->wpAny (model X.prog X.w) X.A (isTrue e X.env (eval e X.env)) (TP X aa σ Q) X.xe s
def PW(X:Cx)(e:Expr)(t:TT):Prop:=
 ∀(whole:Sem Value) (aa:List (Addr×Obj)) (s:Shared) (σ:St) (H:Hp) (Q:Bool->Hp->Prop),Inv X aa σ H s->t σ H Q->wpAny (model X.prog X.w) X.A (isTrue e X.env whole) (TP X aa σ Q) X.xe s
theorem PW.pt {X:Cx}{e:Expr}{t:TT}(h:PW X e t):PT X e t:=h _
def PA(X:Cx)(es:List Expr)(t:TA):Prop:=
 ∀(pos:Pos) (aa:List (Addr×Obj)) (s:Shared) (σ:St) (H:Hp) (Q:List V->Hp->Prop),Inv X aa σ H s->t σ H Q->wpAny (model X.prog X.w) X.A (spliced (backTo pos (starEach es X.env))) (AP X aa σ Q) X.xe s
def PS(X:Cx)(st:Stmt)(t:TS):Prop:=
 ∀(aa:List (Addr×Obj)) (s:Shared) (σ:St) (H:Hp) (D:Ends),Inv X aa σ H s->t D σ H->wpAny (model X.prog X.w) X.A (exec st X.env) (SP X aa D) X.xe s
def PSs(X:Cx)(st:List Stmt)(t:TS):Prop:=
 ∀(aa:List (Addr×Obj)) (s:Shared) (σ:St) (H:Hp) (D:Ends),Inv X aa σ H s->t D σ H->wpAny (model X.prog X.w) X.A (execs st X.env) (SP X aa D) X.xe s
theorem bY {α:Type}{t:Sem α}{Q Q':α->Shared->Prop}{M:Model}{A:Around}{E:Value->Shared->Prop}{s:Shared}(h:wpAny M A t Q E s)(hQ: ∀a s,Q a s->Q' a s):wpAny M A t Q' E s:=wpAny_mono h hQ λ_ _ x=>x
section
variable {X:Cx}
def wO(i:Nat):TE:=λσ H Q=> ∃v,σ[i]? =some (some v)/\Q v H
def tC(v:V):TE:=λ_ H Q=>Q v H
theorem vH {i:Nat}{x:Str}{pos:Pos}(hN:X.N[i]? =some x)(hv:oW X.env.scope x)(hd:(x==("__debug__":Str))=false:=by decide)(hcd:(x==("__classdict__":Str))=false:=by decide):PE X (.Name x pos) (wO i):=by
 intro aa s σ H Q I h;obtain⟨v,e,h⟩:=h
 obtain⟨m,hn,hl⟩:=I.loc
 obtain⟨u,r,l⟩:=hl i x v hN e hv
 have fin:EP X aa σ Q u s:=⟨v,H,I,r,h⟩
 rcases l with⟨hk,hm⟩|⟨hk,c,hc,hcell⟩
 ·exact wpAny_Name (wpAny_loadName_local I.ok.kind hk hn hm fin) hd
 ·rcases hk with hk|hk
  ·exact wpAny_Name (wpAny_loadName_cell I.ok.kind hk hc hcell fin) hd
  ·exact wpAny_Name (wpAny_loadName_free I.ok.kind hk hc hcell fin hcd) hd
theorem vz {i j pos}:PE X (.Constant (.int i) j pos) (tC (.int i)):=λ_ _ _ H _ I h=>wpAny_Constant_int ⟨.int i,H,I.tok _,⟨_,rfl⟩,h⟩
theorem wk {b j pos}:PE X (.Constant (.bool b) j pos) (tC (.bl b)):=λ_ _ _ H _ I h=>Constant_bool ⟨.bl b,H,I,rfl,h⟩
theorem uK {j pos}:PE X (.Constant .none j pos) (tC .non):=λ_ _ _ H _ I h=>Constant_none ⟨.non,H,I,rfl,h⟩
theorem uv {x j pos}:PE X (.Constant (.str x) j pos) (tC (.str x)):=λ_ _ _ H _ I h=>Calls.Constant_str ⟨.str x,H,I.tok _,⟨_,rfl⟩,h⟩
def Gl(X:Cx)(x:Str):Prop:=X.env.kindOf x=some .globalImplicit
theorem iD {E:Value->Shared->Prop}{aa:List (Addr×Obj)}{s:Shared}{σ:St}{H:Hp}{x:Str}{u:Value}{pos:Pos}{Q:Value->Shared->Prop}(I:Inv X aa σ H s)(hg:Gl X x)(hm:X.mg x=some u)(h:Q u s)
 (hd:(x==("__debug__":Str))=false:=by decide):wpAny (model X.prog X.w) X.A (eval (.Name x pos) X.env) Q E s:=
 Calls.Name_function_global I.ok.kind hg (Calls.loadGlobal_global (by rw[I.ok.glob];exact I.mod.glob.keeps I.bk) hm h) hd
theorem iY {E:Value->Shared->Prop}{aa:List (Addr×Obj)}{s:Shared}{σ:St}{H:Hp}{x:Str}{u:Value}{pos:Pos}{Q:Value->Shared->Prop}(I:Inv X aa σ H s)(hg:Gl X x)(hm:X.mg x=none)(hv:bootBuiltins x=some u)(h:Q u s)
 (hn:x≠"__name__":=by decide) (hd:(x==("__debug__":Str))=false:=by decide):wpAny (model X.prog X.w) X.A (eval (.Name x pos) X.env) Q E s:=by
 obtain⟨mb,h1,h2⟩:=I.mod.blt
 exact Calls.Name_function_global I.ok.kind hg (Calls.loadGlobal_builtin (by rw[I.ok.glob];exact I.mod.glob.keeps I.bk) hm (by rw[I.ok.blt];exact h1.keeps I.bk) ((h2 x hn).trans hv) h) hd
theorem sJ {x:Str}{v:V}{u:Value}{pos:Pos}(hg:Gl X x)(hm:X.mg x=some u)(r:RelV v u)(hd:(x==("__debug__":Str))=false:=by decide):PE X (.Name x pos) (tC v):=
 λ_ _ _ H _ I h=>iD I hg hm ⟨v,H,I,r,h⟩ hd
theorem tU {x:Str}{v:V}{u:Value}{pos:Pos}(hg:Gl X x)(hm:X.mg x=none)(hv:bootBuiltins x=some u)(r:RelV v u)(hn:x≠"__name__":=by decide)(hd:(x==("__debug__":Str))=false:=by decide):PE X (.Name x pos) (tC v):=
 λ_ _ _ H _ I h=>iY I hg hm hv ⟨v,H,I,r,h⟩ hn hd
variable {a b:Expr}{ta tb:TE}{pos:Pos}
theorem RelV.none_iff {x:V}{v:Value}(r:RelV x v):(v==Value.none)=decide (x=.non):=by
 cases x with
 |non=>cases r;rfl
 |bl _=>cases r;rfl
 |int _=>obtain⟨t,rfl⟩:=r;rfl
 |str _=>obtain⟨t,rfl⟩:=r;rfl
 |byt _=>obtain⟨t,rfl⟩:=r;rfl
 |flt _=>obtain⟨t,rfl⟩:=r;rfl
 |ref _=>cases r;rfl
 |ty _=>cases r;rfl
variable {tA tB':TT}{rest:List Expr}
def yy(t u:TT):TT:=λσ H Q=>t σ H λc H1=>if c=true then Q true H1 else u σ H1 Q
def xT(t:TT):TT:=λσ H Q=>t σ H λc H1=>Q (!c) H1
theorem pw_or1(ha:PT X a tA):PW X (.BoolOp .Or [a] pos) tA:=by
 intro wh aa s σ H Q I h;refine isTrue_or (bY (ha aa s σ H Q I h) λc s1 e=>?_)
 cases c with
 |false=>exact isTrue_or_nil e
 |true=>exact e
theorem pw_or(ha:PT X a tA)(hb:PW X (.BoolOp .Or (b::rest) pos) tB'):PW X (.BoolOp .Or (a::b::rest) pos) (yy tA tB'):=by
 intro wh aa s σ H Q I h;refine isTrue_or (bY (ha aa s σ H _ I h) λc s1 hq_=>?_)
 obtain⟨H1,I1,q1⟩:=hq_
 cases c with
 |true=>exact⟨H1,I1,q1⟩
 |false=>exact hb wh aa s1 σ H1 Q I1 q1
theorem u5(ha:PT X a tA):PT X (.UnaryOp .Not a pos) (xT tA):=by
 intro aa s σ H Q I h;exact isTrue_not (ha aa s σ H (λc H1=>Q (!c) H1) I h)
def wC(ta tb:TE):TE:=λσ H Q=>ta σ H λx H1=> ∃c,x=.bl c/\if c=true then tb σ H1 Q else Q (.bl false) H1
theorem vt {op}{t:TE}(h:PE X a t):PE X (.BoolOp op [a] pos) t:=λaa s σ H Q I hw=>BoolOp_one (h aa s σ H Q I hw)
theorem uz(ha:PE X a ta)(hb:PE X (.BoolOp .And (b::rest) pos) tb):PE X (.BoolOp .And (a::b::rest) pos) (wC ta tb):=by
 intro aa s σ H Q I h;refine BoolOp_and (bY (ha aa s σ H _ I h) λv s1 hq_=>?_)
 obtain⟨x,H1,I1,r1,q1⟩:=hq_
 obtain⟨c,rfl,q1⟩:=q1
 cases r1
 refine wpAny_truthy_bool ?_
 cases c with
 |true=>exact hb aa s1 σ H1 Q I1 q1
 |false=>exact⟨.bl false,H1,I1,rfl,q1⟩
def yI(t:TT)(ta tb:TE):TE:=λσ H Q=>t σ H λc H1=>if c=true then ta σ H1 Q else tb σ H1 Q
theorem rP {c:Expr}(hc:PT X c tA)(ha:PE X a ta)(hb:PE X b tb):PE X (.IfExp c a b pos) (yI tA ta tb):=by
 intro aa s σ H Q I h;refine wpAny_IfExp (bY (hc aa s σ H _ I h) λd s1 hq_=>?_)
 obtain⟨H1,I1,q1⟩:=hq_
 cases d with
 |true=>exact ha aa s1 σ H1 Q I1 q1
 |false=>exact hb aa s1 σ H1 Q I1 q1
end
def SqL(K:W.Frag)(H:Hp)(a:Addr)(xs:List V):Prop:=
 Rd H a (.lst xs)\/
  ∃(o:Obj) (its:Array Value) (n:Nat),K.lookup a=some o/\o.cls=.type "list"/\o.dict=none/\o.data=.seq its n/\its.size<=sizeLine/\Vals xs its.toList
def SqT(K:W.Frag)(H:Hp)(a:Addr)(xs:List V):Prop:=
 Rd H a (.tup xs)\/
  ∃(o:Obj) (its:Array Value) (n:Nat),K.lookup a=some o/\o.cls=.type "tuple"/\o.data=.seq its n/\its.size<=sizeLine/\Vals xs its.toList/\o.dict=none
def yd:Value->Option V
 | .none=>some .non
 | .bool b=>some (.bl b)
 | .int i _=>some (.int i)
 | .str x _=>some (.str x)
 | .bytes b _=>some (.byt b)
 | .float b _=>some (.flt b)
 | .ref a=>some (.ref a)
 | .type n=>some (.ty n)
 |_=>none
theorem RelV.abs {x:V}{u:Value}(r:RelV x u):yd u=some x:=by
 cases x with
 |non=>cases r;rfl
 |bl _=>cases r;rfl
 |int _=>obtain⟨t,rfl⟩:=r;rfl
 |str _=>obtain⟨t,rfl⟩:=r;rfl
 |byt _=>obtain⟨t,rfl⟩:=r;rfl
 |flt _=>obtain⟨t,rfl⟩:=r;rfl
 |ref _=>cases r;rfl
 |ty _=>cases r;rfl
theorem RelV.inj {x y:V}{u:Value}(r:RelV x u)(q:RelV y u):x=y:=Option.some.inj (r.abs.symm.trans q.abs)
theorem Vals.inj: ∀ {xs ys:List V} {us:List Value},Vals xs us->Vals ys us->xs=ys
 |_,_,_,.nil,.nil=>rfl
 |_,_,_,.cons r t,.cons r' t'=>by rw[r.inj r',Vals.inj t t']
section
variable {X:Cx}{aa:List (Addr×Obj)}{σ:St}{H:Hp}{s:Shared}{a:Addr}{xs ys:List V}
theorem SqL.of {K:W.Frag}(h:H a=some (.lst xs)):SqL K H a xs:=.inl (.inl h)
theorem SqT.of {K:W.Frag}(h:H a=some (.tup xs)):SqT K H a xs:=.inl (.inl h)
theorem Inv.list(I:Inv X aa σ H s)(h:SqL X.K H a xs): ∃its:List Value,Vals xs its/\PlainL s.heap a its.toArray/\xs.length<=sizeLine:=by
 rcases h with h|⟨o,its,n,hk,hc,hd,hs,hz,r⟩
 ·obtain⟨z,its,n,r,e⟩:=h.ok I.hok
  exact⟨its,r,⟨_,n,e,rfl,rfl,rfl⟩,z⟩
 ·refine⟨its.toList,r,⟨o,n,I.kIn a o hk,hc,hd,by simpa using hs⟩,?_⟩
  have e:=r.length
  simp only[Array.length_toList] at e;omega
theorem Inv.tuple(I:Inv X aa σ H s)(h:SqT X.K H a xs): ∃its:List Value,Vals xs its/\IsTup s.heap a its.toArray/\xs.length<=sizeLine:=by
 rcases h with h|⟨o,its,n,hk,hc,hs,hz,r,_⟩
 ·obtain⟨z,its,r,p,_⟩:=h.ok I.hok
  exact⟨its,r,p,z⟩
 ·refine⟨its.toList,r,⟨o,I.kIn a o hk,hc,n,by simpa using hs⟩,?_⟩
  have e:=r.length
  simp only[Array.length_toList] at e;omega
theorem Inv.tupleN(I:Inv X aa σ H s)(h:SqT X.K H a xs):(∃o,s.heap.get? a=some o/\o.cls=.type "tuple")/\ ∃o,s.heap.get? a=some o/\o.dict=none:=by
 rcases h with h|⟨o,its,n,hk,hc,hs,hz,r,hd⟩
 ·obtain⟨z,its,r,⟨ob,e,c,_⟩,o2,e2,d2⟩:=h.ok I.hok
  exact⟨⟨ob,e,c⟩,o2,e2,d2⟩
 ·exact⟨⟨o,I.kIn a o hk,hc⟩,o,I.kIn a o hk,hd⟩
theorem Inv.list_inj(I:Inv X aa σ H s)(h:SqL X.K H a xs)(h':SqL X.K H a ys):xs=ys:=by
 obtain⟨its,r,⟨o,n,e,_,_,d⟩,_⟩:=I.list h
 obtain⟨its',r',⟨o',n',e',_,_,d'⟩,_⟩:=I.list h'
 rw[e] at e';cases e';rw[d] at d';injection d' with d1 _
 have:its=its':=by simpa using congrArg Array.toList d1
 subst this;exact r.inj r'
theorem Inv.tuple_inj(I:Inv X aa σ H s)(h:SqT X.K H a xs)(h':SqT X.K H a ys):xs=ys:=by
 obtain⟨its,r,⟨o,e,_,n,d⟩,_⟩:=I.tuple h
 obtain⟨its',r',⟨o',e',_,n',d'⟩,_⟩:=I.tuple h'
 rw[e] at e';cases e';rw[d] at d';injection d' with d1 _
 have:its=its':=by simpa using congrArg Array.toList d1
 subst this;exact r.inj r'
end
abbrev Cx.wish(X:Cx)(E:Value->Shared->Prop):Cx:={X with xe:=E}
abbrev Cx.nox(X:Cx):Cx:=X.wish λ_ _=>False
theorem Cx.Ok.wish {X:Cx}(ok:X.Ok)(E:Value->Shared->Prop):(X.wish E).Ok:=
 ⟨ok.mod,ok.kind,ok.glob,ok.blt,ok.above,ok.inj,ok.has,ok.cab,ok.hd,ok.frames,ok.stk,ok.exf,ok.bs,ok.bsz,ok.noex,ok.exfs,ok.funs,ok.frf⟩
theorem Cx.Ok.unwish {X:Cx}{E:Value->Shared->Prop}(ok:(X.wish E).Ok):X.Ok:=
 ⟨ok.mod,ok.kind,ok.glob,ok.blt,ok.above,ok.inj,ok.has,ok.cab,ok.hd,ok.frames,ok.stk,ok.exf,ok.bs,ok.bsz,ok.noex,ok.exfs,ok.funs,ok.frf⟩
section
variable {X:Cx}{aa:List (Addr×Obj)}{σ:St}{H:Hp}{s:Shared}{E:Value->Shared->Prop}
theorem Inv.wish(I:Inv X aa σ H s)(E:Value->Shared->Prop):Inv (X.wish E) aa σ H s:=⟨I.ok.wish E,I.os,I.bare,I.base,I.loc,I.cell,I.free,I.freeC,I.pin,I.hok,I.len⟩
theorem Inv.unwish(I:Inv (X.wish E) aa σ H s):Inv X aa σ H s:=⟨I.ok.unwish,I.os,I.bare,I.base,I.loc,I.cell,I.free,I.freeC,I.pin,I.hok,I.len⟩
theorem SP.unwish {D:Ends}{f:Flow}{s':Shared}(h:SP (X.wish E) aa D f s'):SP X aa D f s':=by
 cases f with
 |next=>obtain⟨σ',H',I,q⟩:=h;exact⟨σ',H',I.unwish,q⟩
 |brk=>obtain⟨σ',H',I,q⟩:=h;exact⟨σ',H',I.unwish,q⟩
 |cont=>obtain⟨σ',H',I,q⟩:=h;exact⟨σ',H',I.unwish,q⟩
 |ret u=>obtain⟨v,σ',H',I,r,q⟩:=h;exact⟨v,σ',H',I.unwish,r,q⟩
theorem PT.nox {e:Expr}{t:TT}(h:PT X.nox e t):PT X e t:=λaa s σ H Q I hw=>
 wpAny_mono (h aa s σ H Q (I.wish _) hw) (λ_ _ ⟨H',I',q⟩=>⟨H',I'.unwish,q⟩) λ_ _ z=>False.elim z
theorem PSs.nox {st:List Stmt}{t:TS}(h:PSs X.nox st t):PSs X st t:=λaa s σ H D I hw=>
 wpAny_mono (h aa s σ H D (I.wish _) hw) (λ_ _ q=>q.unwish) λ_ _ z=>False.elim z
end
section
variable {X:Cx}{st:Stmt}{rest:List Stmt}{t u:TS}{e:Expr}{te:TE}{pos:Pos}
def wS:TS:=λD σ H=>D.nx σ H
def xH(t u:TS):TS:=λD σ H=>t {D with nx:=u D} σ H
theorem oa:PSs X [] wS:=λ_ _ σ H _ I h=>wpAny_execs_nil ⟨σ,H,I,h⟩
theorem lm(h1:PS X st t)(h2:PSs X rest u):PSs X (st::rest) (xH t u):=by
 intro aa s σ H D I h;refine wpAny_execs_cons (bY (h1 aa s σ H {D with nx:=u D} I h) λf s1 q=>?_)
 cases f with
 |next=>
  obtain⟨σ',H',I',q⟩:=q
  exact h2 aa s1 σ' H' D I' q
 |ret v=>exact q
 |brk=>exact q
 |cont=>exact q
theorem n9(h1:PS X st t):PSs X [st] t:=by
 intro aa s σ H D I h;refine wpAny_execs_cons (bY (h1 aa s σ H D I h) λf s1 q=>?_)
 cases f with
 |next=>exact wpAny_execs_nil q
 |ret v=>exact q
 |brk=>exact q
 |cont=>exact q
theorem Inv.quiet {aa:List (Addr×Obj)}{σ:St}{H:Hp}{s:Shared}(I:Inv X aa σ H s):interactive X.env=false:=by simp[interactive,I.ok.kind]
def wc(te:TE):TS:=λD σ H=>te σ H λ_ H1=>D.nx σ H1
theorem sD(he:PE X e te)(hs:swapsWith e none pos.line X.env=pure false:=by rfl):PS X (.Expr e pos) (wc te):=by
 intro aa s σ H D I h;exact wpAny_Expr_any (bY (he aa s σ H _ I h) λv s1 ⟨x,H1,I1,r1,q1⟩=>⟨σ,H1,I1,q1⟩) I.quiet hs
def xp(te:TE):TS:=λD σ H=>te σ H D.rt
theorem qJ(he:PE X e te):PS X (.Return (some e) pos) (xp te):=by
 intro aa s σ H D I h;exact wpAny_Return_some (bY (he aa s σ H _ I h) λv s1 ⟨x,H1,I1,r1,q1⟩=>⟨x,σ,H1,I1,r1,q1⟩)
def xX(c:TT)(t u:TS):TS:=λD σ H=>c σ H λb H1=>if b=true then t D σ H1 else u D σ H1
theorem uo {c:Expr}{a b:List Stmt}{tc:TT}(hc:PT X c tc)(ha:PSs X a t)(hb:PSs X b u):PS X (.If c a b pos) (xX tc t u):=by
 intro aa s σ H D I h;refine wpAny_If (bY (hc aa s σ H _ I h) λd s1 hq_=>?_)
 obtain⟨H1,I1,q1⟩:=hq_
 cases d with
 |true=>exact ha aa s1 σ H1 D I1 q1
 |false=>exact hb aa s1 σ H1 D I1 q1
end
abbrev TG:=V->St->Hp->(St->Hp->Prop)->Prop
abbrev qw:=List V->St->Hp->(St->Hp->Prop)->Prop
def PG(X:Cx)(target:Expr)(t:TG):Prop:=
 ∀(aa:List (Addr×Obj)) (s:Shared) (σ:St) (H:Hp) (v:V) (u:Value) (Q:St->Hp->Prop),Inv X aa σ H s->RelV v u->t v σ H Q->
  wpAny (model X.prog X.w) X.A (assign target X.env u) (λ_ s'=> ∃σ' H',Inv X aa σ' H' s'/\Q σ' H') X.xe s
def PGs(X:Cx)(ts:List Expr)(t:qw):Prop:=
 ∀(aa:List (Addr×Obj)) (s:Shared) (σ:St) (H:Hp) (vs:List V) (us:List Value) (Q:St->Hp->Prop),Inv X aa σ H s->Vals vs us->t vs σ H Q->
  wpAny (model X.prog X.w) X.A (assignInOrder ((assignEach ts X.env).map (·.2)) us) (λ_ s'=> ∃σ' H',Inv X aa σ' H' s'/\Q σ' H') X.xe s
abbrev qu:=V->V->V->Hp->(Hp->Prop)->Prop
def sQ(X:Cx)(t:qu):Prop:=
 ∀(aa:List (Addr×Obj)) (s:Shared) (σ:St) (H:Hp) (o i v:V) (ov iv u:Value) (Q:Hp->Prop),Inv X aa σ H s->RelV o ov->RelV i iv->RelV v u->t o i v H Q->
  wpAny (model X.prog X.w) X.A (setItem ov iv u) (λ_ s'=> ∃H',Inv X aa σ H' s'/\Q H') X.xe s
section
variable {X:Cx}{pos:Pos}
def qc(i:Nat):TG:=λv σ H Q=>Q (σ.set i (some v)) H
theorem oD {i:Nat}{x:Str}(hN:X.N.Nodup)(hi:X.N[i]? =some x)(hx:qX X.env.scope x)(hf:X.fn x=true\/X.env.scope.names.lookup x=some .local:=by first|exact .inl rfl|exact .inr rfl|assumption):PG X (.Name x pos) (qc i):=by
 intro aa s σ H v u Q I r h;exact wpAny_assign_Name (gr I hN hi hx r (λs' I'=>⟨_,H,I',h⟩) hf)
def xV:qw:=λvs σ H Q=>vs=[]/\Q σ H
def v6(t:TG)(u:qw):qw:=λvs σ H Q=> ∃v r,vs=v::r/\t v σ H λσ' H'=>u r σ' H' Q
theorem oe:PGs X [] xV:=by
 intro aa s σ H vs us Q I r h;obtain⟨e,h⟩:=h
 subst e;cases r
 exact assignInOrder_nil ⟨σ,H,I,h⟩
theorem mv {e:Expr}{es:List Expr}{t:TG}{u:qw}(h1:PG X e t)(h2:PGs X es u)
 (hs:(assignEach (e::es) X.env).map (·.2)=assign e X.env::(assignEach es X.env).map (·.2):=by rfl):PGs X (e::es) (v6 t u):=by
 intro aa s σ H vs us Q I r h;obtain⟨v,vr,e1,h⟩:=h
 subst e1;cases r with
 |cons r rr=>
  rw[hs];refine assignInOrder_cons (bY (h1 aa s σ H _ _ _ I r h) λ_ s1 hq_=>?_)
  obtain⟨σ1,H1,I1,q1⟩:=hq_
  exact h2 aa s1 σ1 H1 _ _ Q I1 rr q1
def xF(K:W.Frag)(n:Nat)(t:qw):TG:=λv σ H Q=> ∃a xs,v=.ref a/\SqT K H a xs/\xs.length=n/\t xs σ H Q
theorem qC {es:List Expr}{k:Nat}{t:qw}{n:Nat}(hc:X.calm=true)(h:PGs X es t)
 (hn:(assignEach es X.env).length=n:=by rfl) (hst:(assignEach es X.env).findIdx? (·.1)=none:=by rfl):PG X (.Tuple es k pos) (xF X.K n t):=by
 intro aa s σ H v u Q I r hw;obtain⟨a,xs,e1,hq,hl,hw⟩:=hw
 subst e1;cases r
 obtain⟨its,rv,ht,hz⟩:=I.tuple hq
 refine assign_Tuple_tuple (I.ok.hd hc) ht (by simp[hn,<-hl,rv.length]) hst λh' hx=>?_
 have I1:Inv X aa σ H {s with heap:=h'}:=I.kept (t':=s.toks) λb o e=>hx b o (Nat.ne_of_lt (Heap.lt_size e)) e
 exact h aa _ σ H xs _ Q I1 (by simpa using rv) hw
def xQ(to ti:TE)(t:qu):TG:=λv σ H Q=>to σ H λo H1=>ti σ H1 λi H2=>t o i v H2 λH3=>Q σ H3
theorem uu {o i:Expr}{to ti:TE}{t:qu}(ho:PE X o to)(hi:PE X i ti)(hs:sQ X t)
 (ha: ∀v,assign (.Subscript o i pos) X.env v=(do
   let ov <-holding [v] (eval o X.env)
   let iv <-holding [v,ov] (eval i X.env)
   standAt pos
   holding [v,ov,iv] (setItem ov iv v)
   release [v,ov,iv] []):=by intro _;rfl):PG X (.Subscript o i pos) (xQ to ti t):=by
 intro aa s σ H v u Q I r h;rw[ha];refine wpAny_bind (wpAny_holding (bY (ho aa s σ H _ I h) λov s1 hq_=>?_))
 obtain⟨x,H1,I1,r1,q1⟩:=hq_
 refine wpAny_bind (wpAny_holding (bY (hi aa s1 σ H1 _ I1 q1) λiv s2 hq_=>?_))
 obtain⟨y,H2,I2,r2,q2⟩:=hq_
 refine wpAny_bind (wpAny_standAt (wpAny_bind (wpAny_holding (bY (hs aa s2 σ H2 x y v ov iv u _ I2 r1 r2 r q2) λ_ s3 hq_=>?_))))
 obtain⟨H3,I3,q3⟩:=hq_
 exact wpAny_release ⟨σ,H3,I3,q3⟩
def uY(te:TE)(g:TG):TS:=λD σ H=>te σ H λx H1=>g x σ H1 D.nx
theorem rO {tg e:Expr}{te:TE}{g:TG}(he:PE X e te)(hg:PG X tg g)(hs:swapsWithSole [tg] e pos.line X.env=pure false:=by rfl)(hw:swappedStores [tg] e X.env=pure none:=by rfl)
 (h1:(assignEach [tg] X.env).map (·.2)=[assign tg X.env]:=by rfl):PS X (.Assign [tg] e pos) (uY te g):=by
 intro aa s σ H D I h;refine wpAny_Assign_stores (bY (he aa s σ H _ I h) λv s1 ⟨x,H1,I1,r1,q1⟩=>?_) hs hw
 rw[h1];exact bY (hg aa s1 σ H1 x v _ I1 r1 q1) λ_ s2 q=>q
theorem i6 {i:Nat}{x:Str}{e:Expr}{te:TE}{pos':Pos}(hN:X.N.Nodup)(hi:X.N[i]? =some x)(hx:qX X.env.scope x)(he:PE X e te)(hs:swapsWith e (some (.Name x pos')) pos.line X.env=pure false:=by rfl)(hf:X.fn x=true\/X.env.scope.names.lookup x=some .local:=by first|exact .inl rfl|exact .inr rfl|assumption):
 PS X (.Assign [.Name x pos'] e pos) (uY te (qc i)):=by
 intro aa s σ H D I h;refine wpAny_Assign_Name (bY (he aa s σ H _ I h) λv s1 ⟨y,H1,I1,r1,q1⟩=>?_) hs
 exact gr I1 hN hi hx r1 (λs2 I2=>⟨_,H1,I2,q1⟩) hf
def xI(i j:Nat)(ta:TA):TS:=λD σ H=>ta σ H λvs H1=> ∃v w,vs=[v,w]/\D.nx ((σ.set i (some v)).set j (some w)) H1
theorem vS {i j:Nat}{x y:Str}{a b:Expr}{ta:TA}{px py pt:Pos}{kt k2 pt2}(hc:X.calm=true)(hN:X.N.Nodup)(hi:X.N[i]? =some x)(hj:X.N[j]? =some y)(hij:i≠j)
 (hx:X.env.scope.names.lookup x=some .local) (hy:X.env.scope.names.lookup y=some .local) (ha:PA X [a,b] ta)
 (hw:swappedStores [.Tuple [.Name x px,.Name y py] kt pt] (.Tuple [a,b] k2 pt2) X.env=pure (some [x,y]))
 (hs:swapsWithSole [.Tuple [.Name x px,.Name y py] kt pt] (.Tuple [a,b] k2 pt2) pos.line X.env=pure false:=by rfl):
 PS X (.Assign [.Tuple [.Name x px,.Name y py] kt pt] (.Tuple [a,b] k2 pt2) pos) (xI i j ta):=by
 intro aa s σ H D I h;rw[exec_Assign_arm];refine wpAny_bind (wpAny_standAt ?_)
 rw[hs];refine wpAny_bind (wpAny_pure ?_)
 rw[if_neg (by decide)]
 refine wpAny_bind (Tuple_ (bY (ha _ aa s σ H _ I h) λus s1 hq_=>?_))
 obtain⟨vs,H1,I1,r1,q1⟩:=hq_
 obtain⟨v,w,e1,q1⟩:=q1
 subst e1;obtain⟨u1,u2,rfl,rv,rw'⟩: ∃u1 u2,us=[u1,u2]/\RelV v u1/\RelV w u2:=by
  cases r1 with
  |cons p q=>
   cases q with
   |cons p' q'=>
    cases q'
    exact⟨_,_,rfl,p,p'⟩
 refine wpAny_newObj_type ?_ (by show 2<=sizeLine;decide)
 have I2:Inv X aa σ H1 {s1 with heap:=s1.heap.push {cls:=.type "tuple",data:=.seq [u1,u2].toArray}}:=I1.kept (t':=s1.toks) λb o e=>Heap.get?_push_of_some _ e
 rw[hw];refine wpAny_bind (wpAny_pure ?_)
 show wpAny (model X.prog X.w) X.A (do rule "assign.swapped-stores";let items <-unpackItems (.ref s1.heap.objs.size) 2 none;assignInOrder [λv=>bindName X.env y v,λv=>bindName X.env x v] items.reverse;pure Flow.next) _ _ _
 refine wpAny_bind (wpAny_rule (wpAny_bind (unpackItems_tuple (items:= #[u1,u2]) (I.ok.hd hc) (IsTup.new s1.heap _) λh' hx'=>?_)))
 have I3:=I2.kept (h':=h') (t':=s1.toks) λb o e=>hx' b o (Nat.ne_of_lt (Heap.lt_size e)) e
 show wpAny _ _ (assignInOrder [λv=>bindName X.env y v,λv=>bindName X.env x v] [u2,u1]>>=λ_=>pure Flow.next) _ _ _
 refine wpAny_bind (assignInOrder_cons (wpAny_bindName (gr I3 hN hj (.inl hy) rw' (λs2 I4=>?_) (.inr hy))))
 refine assignInOrder_cons (wpAny_bindName (gr I4 hN hi (.inl hx) rv (λs3 I5=>assignInOrder_nil (wpAny_pure ?_)) (.inr hx)))
 rw[List.set_comm _ _ (Ne.symm hij)] at I5;exact⟨_,H1,I5,q1⟩
end
section
variable {X:Cx}{pos:Pos}
def vd(c:TT)(tb:TS):TS:=λD σ H=> ∃W:Nat->St->Hp->Prop,(∃m,W m σ H)/\ ∀m σ H,W m σ H->
 c σ H λb H1=>if b=true then∃N:St->Hp->Prop,(∀σ' H',N σ' H'-> ∃m',m'<m/\W m' σ' H')/\tb {D with nx:=N,ct:=N,bk:=D.nx} σ H1 else D.nx σ H1
theorem rm {c:Expr}{body:List Stmt}{tc:TT}{tb:TS}(hp:PassesOwn (model X.prog X.w) X.A X.env X.xe)(hc:PT X c tc)(hb:PSs X body tb):PS X (.While c body [] pos) (vd tc tb):=by
 intro aa s σ H D I h;obtain⟨W,⟨m0,w0⟩,turn⟩:=h
 refine wpAny_While (codeAny_whileLoop (λn s'=> ∃σ' H',Inv X aa σ' H' s'/\W n σ' H') ?_ m0 ⟨σ,H,I,w0⟩)
 rintro n s1 ⟨σ1,H1,I1,w1⟩
 refine wpAny_passesOwn hp (bY (hc aa s1 σ1 H1 _ I1 (turn n σ1 H1 w1)) λb s2 hq_=>?_)
 obtain⟨H2,I2,q2⟩:=hq_
 cases b with
 |true=>
  obtain⟨N,hN,q2⟩:=q2
  rw[if_pos rfl];refine wpAny_passesOwn hp (bY (hb aa s2 σ1 H2 _ I2 q2) λf s3 q3=>?_)
  cases f with
  |next=>
   obtain⟨σ3,H3,I3,n3⟩:=q3
   obtain⟨m',hm,w3⟩:=hN σ3 H3 n3
   exact⟨m',hm,σ3,H3,I3,w3⟩
  |cont=>
   obtain⟨σ3,H3,I3,n3⟩:=q3
   obtain⟨m',hm,w3⟩:=hN σ3 H3 n3
   exact⟨m',hm,σ3,H3,I3,w3⟩
  |brk=>exact q3
  |ret v=>exact q3
 |false=>
  rw[if_neg Bool.false_ne_true];exact wpAny_execs_nil ⟨σ1,H2,I2,q2⟩
end
structure It where
 go:Nat->Hp->Prop
 yld:Nat->Hp->V->Hp->Prop
 stop:Nat->Hp->Prop
def jd(X:Cx)(aa:List (Addr×Obj))(H:Hp)(b:Addr):Prop:=
 H b=none/\b≠X.env.locals/\b∉X.fs/\(b∈X.ex\/X.s₀.heap.objs.size<=b)/\(∀x c,X.env.cells.lookup x=some c->c≠b)/\ ∀p∈X.pn++aa,p.1≠b
theorem Inv.fpOk {X:Cx}{aa:List (Addr×Obj)}{σ:St}{H H':Hp}{s:Shared}{b:Addr}(I:Inv X aa σ H s)(hb:s.heap.objs.size<=b)(hn:H' b=none):jd X aa H' b:=by
 refine⟨hn,Nat.ne_of_gt (Nat.lt_of_lt_of_le I.lt hb),I.nofs hb,.inr (Nat.le_trans I.sz hb),λx c e z=>?_,λp hp z=>?_⟩
 ·obtain⟨v,q⟩:=I.cell x c e
  exact absurd (Nat.lt_of_lt_of_le q.lt (by rw[z];exact hb)) (Nat.lt_irrefl _)
 ·exact absurd (Nat.lt_of_lt_of_le (Heap.lt_size (I.pin p hp).1) (by rw[z];exact hb)) (Nat.lt_irrefl _)
structure Turn(P:Program)(w:World)(K:W.Frag)(tg:Expr)(J:It)(fp:List Addr)(it:Addr)(tn:Nat->Heap->Prop):Prop where
 mem:it∈fp
 obj: ∀i h,tn i h-> ∀b∈fp,∃o,h.get? b=some o/\ ∀v,o.data≠ .cell v
 keep: ∀i h h',tn i h->(∀b∈fp,∀o,h.get? b=some o->h'.get? b=some o)->tn i h'
 item: ∀(X:Cx),X.prog=P->X.w=w->X.K=K->X.calm=true-> ∀(i:Nat) (aa:List (Addr×Obj)) (s:Shared) (σ:St) (H:Hp) (E:Value->Shared->Prop),Inv X aa σ H s->(∀b∈fp,jd X aa H b)->tn i s.heap->J.go i H->
  wpAny (model P w) X.A (pyNext (.ref it)) (λr s1=> ∃u,r=some u/\
   wpAny (model P w) X.A (letOwnedTupleGo tg (.ref it) u) (λ_ s2=> ∃x H',Inv X aa σ H' s2/\RelV x u/\J.yld i H x H'/\tn (i+1) s2.heap/\ ∀b∈fp,H' b=none) E s1) E s
 done: ∀(X:Cx),X.prog=P->X.w=w->X.K=K->X.calm=true-> ∀(i:Nat) (aa:List (Addr×Obj)) (s:Shared) (σ:St) (H:Hp) (E:Value->Shared->Prop),Inv X aa σ H s->(∀b∈fp,jd X aa H b)->tn i s.heap->J.stop i H->
  wpAny (model P w) X.A (pyNext (.ref it)) (λr s1=>r=none/\Inv X aa σ H s1) E s
 self: ∀(A:Around) (i:Nat) (s:Shared) (Q:Value->Shared->Prop) (E:Value->Shared->Prop),tn i s.heap->Q (.ref it) s->wpAny (model P w) A (pyIter (.ref it)) Q E s
abbrev TI:=St->Hp->(It->Hp->Prop)->Prop
def yj(X:Cx)(aa:List (Addr×Obj))(σ:St)(tg:Expr)(R:It->Hp->Prop)(itv:Value)(s2:Shared):Prop:=
 ∃(it:Addr) (fp:List Addr) (tn:Nat->Heap->Prop) (J:It) (H':Hp),itv=.ref it/\Inv X aa σ H' s2/\Turn X.prog X.w X.K tg J fp it tn/\tn 0 s2.heap/\(∀b∈fp,jd X aa H' b)/\R J H'
def PI(X:Cx)(tg iter:Expr)(wi:TI):Prop:=
 ∀(aa:List (Addr×Obj)) (s:Shared) (σ:St) (H:Hp) (R:It->Hp->Prop),Inv X aa σ H s->wi σ H R->
  wpAny (model X.prog X.w) X.A (eval iter X.env) (λv s1=>wpAny (model X.prog X.w) X.A (pyIter v) (yj X aa σ tg R) X.xe s1) X.xe s
theorem qb {M:Model}{A:Around}{E:Value->Shared->Prop}{s:Shared}{tg:Expr}{it:Addr}{u:Value}{o:Obj}{n:String}{vs:Array Value}{Q:Unit->Shared->Prop}(ho:s.heap.get? it=some o)(hc:o.cls=.type n)(hd:o.data=.fields vs)
 (hn:["enumerate","zip","dict_itemiterator","dict_reverseitemiterator","odict_iterator","itertools.zip_longest","itertools.pairwise"].contains n=false) (hQ:Q () s):wpAny M A (letOwnedTupleGo tg (.ref it) u) Q E s:=by
 unfold letOwnedTupleGo;cases tg<;>first
  |exact wpAny_pure hQ
  |(cases u<;>first
     |exact wpAny_pure hQ
     |(refine wpAny_bind (wpAny_load ho ?_)
       rw[hc,hd];show wpAny M A (if(["enumerate","zip","dict_itemiterator","dict_reverseitemiterator","odict_iterator","itertools.zip_longest","itertools.pairwise"].contains n&&vs[0]? ==some (rawInt _))=true then _ else _) Q E s
       rw[if_neg (by intro h;rw[hn,Bool.false_and] at h;cases h)]
       exact wpAny_pure hQ))
def xE(K:W.Frag)(a:Addr):It:=
 ⟨λi H=> ∃xs x,SqL K H a xs/\xs[i]? =some x,λi H x H'=>H'=H/\ ∀xs,SqL K H a xs->xs[i]? =some x,λi H=> ∃xs,SqL K H a xs/\xs.length<=i⟩
def xC(K:W.Frag)(a:Addr):It:=
 ⟨λi H=> ∃xs x,SqT K H a xs/\xs[i]? =some x,λi H x H'=>H'=H/\ ∀xs,SqT K H a xs->xs[i]? =some x,λi H=> ∃xs,SqT K H a xs/\xs.length<=i⟩
def xa(lo:Int)(n:Nat):It:=⟨λi _=>i<n,λi H x H'=>H'=H/\x=.int (lo+i),λi _=>n<=i⟩
theorem oK {P:Program}{w:World}{K:W.Frag}{tg:Expr}(a it:Addr):Turn P w K tg (xE K a) [it] it (λi h=>h.IsListIter it a i) where
 mem:=by simp
 obj:=λi h st b hb=>by
  have e:b=it:=by simpa using hb
  subst e;obtain⟨o,e,c,d⟩:=st
  exact⟨o,e,λv z=>by rw[d] at z;cases z⟩
 keep:=λi h h' st k=>st.at λo e=>k it (by simp) o e
 item:=by
  intro X hP hw hK hc i aa s σ H E I hf st hg;subst hP hw hK;obtain⟨xs,x,hq,hx⟩:=hg
  obtain⟨its,rv,p,hz⟩:=I.list hq
  obtain⟨u,hu,ru⟩:=rv.get hx
  obtain⟨f0,f1,f2,f3,f4,f5⟩:=hf it (by simp)
  refine wpAny_pyNext_list_item st p.isList (x:=u) (by simpa using hu) λh' st' sb=>?_
  have I1:Inv X aa σ H {s with heap:=h'}:=I.turned (t':=s.toks) (λb o hb e=>(sb.2 b hb).trans e) f0 f1 f3 f4 f5
  obtain⟨o,e,c,d⟩:=id st'
  exact⟨u,rfl,qb (s:={s with heap:=h'}) e c d (by decide) ⟨x,H,I1,ru,⟨rfl,λys hy=>by rw[I.list_inj hy hq];exact hx⟩,st',λb hb=>(hf b hb).1⟩⟩
 done:=by
  intro X hP hw hK hc i aa s σ H E I hf st hg;subst hP hw hK;obtain⟨xs,hq,hx⟩:=hg
  obtain⟨its,rv,p,hz⟩:=I.list hq
  obtain⟨f0,f1,f2,f3,f4,f5⟩:=hf it (by simp)
  have hl:=rv.length
  exact wpAny_pyNext_list_end (I.ok.hd hc) st p.isList (by simp;omega) λh' eb=>⟨rfl,I.turned (t':=s.toks) (λb o hb e=>eb b o hb e) f0 f1 f3 f4 f5⟩
 self:=λ_ _ _ _ _ st h=>wpAny_pyIter_listiter st h
theorem nh {P:Program}{w:World}{K:W.Frag}{tg:Expr}(a it:Addr):Turn P w K tg (xC K a) [it] it (λi h=>h.IsTupleIter it a i) where
 mem:=by simp
 obj:=λi h st b hb=>by
  have e:b=it:=by simpa using hb
  subst e;obtain⟨o,e,c,d⟩:=st
  exact⟨o,e,λv z=>by rw[d] at z;cases z⟩
 keep:=λi h h' st k=>st.at λo e=>k it (by simp) o e
 item:=by
  intro X hP hw hK hc i aa s σ H E I hf st hg;subst hP hw hK;obtain⟨xs,x,hq,hx⟩:=hg
  obtain⟨its,rv,p,hz⟩:=I.tuple hq
  obtain⟨u,hu,ru⟩:=rv.get hx
  obtain⟨f0,f1,f2,f3,f4,f5⟩:=hf it (by simp)
  refine wpAny_pyNext_tuple_item st (show s.heap.IsTuple a its.toArray from p) (x:=u) (by simpa using hu) λh' st' sb=>?_
  have I1:Inv X aa σ H {s with heap:=h'}:=I.turned (t':=s.toks) (λb o hb e=>(sb.2 b hb).trans e) f0 f1 f3 f4 f5
  obtain⟨o,e,c,d⟩:=id st'
  exact⟨u,rfl,qb (s:={s with heap:=h'}) e c d (by decide) ⟨x,H,I1,ru,⟨rfl,λys hy=>by rw[I.tuple_inj hy hq];exact hx⟩,st',λb hb=>(hf b hb).1⟩⟩
 done:=by
  intro X hP hw hK hc i aa s σ H E I hf st hg;subst hP hw hK;obtain⟨xs,hq,hx⟩:=hg
  obtain⟨its,rv,p,hz⟩:=I.tuple hq
  obtain⟨f0,f1,f2,f3,f4,f5⟩:=hf it (by simp)
  have hl:=rv.length
  exact wpAny_pyNext_tuple_end (I.ok.hd hc) st (show s.heap.IsTuple a its.toArray from p) (by simp;omega) λh' eb=>⟨rfl,I.turned (t':=s.toks) (λb o hb e=>eb b o hb e) f0 f1 f3 f4 f5⟩
 self:=λ_ _ _ _ _ st h=>wpAny_pyIter_tupleiter st h
theorem nE {P:Program}{w:World}{K:W.Frag}{tg:Expr}(it:Addr)(lo:Int)(n:Nat):Turn P w K tg (xa lo n) [it] it (λi h=>IsRangeIter h it (lo+(i:Nat)*1) ((n:Int) - (i:Nat)) 1) where
 mem:=by simp
 obj:=λi h st b hb=>by
  have e:b=it:=by simpa using hb
  subst e;exact⟨_,st,λv z=>by
   have z':Data.fields _=Data.cell v:=z
   cases z'⟩
 keep:=λi h h' st k=>k it (by simp) _ st
 item:=by
  intro X hP hw hK hc i aa s σ H E I hf st hg;subst hP hw hK;obtain⟨f0,f1,f2,f3,f4,f5⟩:=hf it (by simp)
  have W:=Walks.range (prog:=X.prog) (w:=X.w) (I.ok.hd hc) it lo 1 n
  refine W.item i s _ _ hg st λv h' tk hv st' kk=>?_
  obtain⟨t,rfl⟩:=hv
  have I1:Inv X aa σ H {s with heap:=h',toks:=tk}:=I.turned (λb o hb e=>kk b o (by simpa using hb) e) f0 f1 f3 f4 f5
  refine⟨_,rfl,qb (s:={s with heap:=h',toks:=tk}) (n:="range_iterator") st' rfl rfl (by decide) ⟨.int (lo+i),H,I1,⟨t,?_⟩,⟨rfl,rfl⟩,st',λb hb=>(hf b hb).1⟩⟩
  rw[Int.mul_one]
 done:=by
  intro X hP hw hK hc i aa s σ H E I hf st hg;subst hP hw hK;obtain⟨f0,f1,f2,f3,f4,f5⟩:=hf it (by simp)
  exact wpAny_pyNext_range_end (I.ok.hd hc) st (by have:n<=i:=hg;omega) λh' eb=>⟨rfl,I.turned (t':=s.toks) (λb o hb e=>eb b o hb e) f0 f1 f3 f4 f5⟩
 self:=λ_ _ _ _ _ st h=>wpAny_pyIter_rangeiter st h
section
variable {X:Cx}{tg:Expr}
def v4(K:W.Frag)(tl:TE):TI:=λσ H R=>tl σ H λx H1=> ∃a,x=.ref a/\(∃xs,SqL K H1 a xs)/\R (xE K a) H1
def ya(K:W.Frag)(tl:TE):TI:=λσ H R=>tl σ H λx H1=> ∃a,x=.ref a/\(∃xs,SqT K H1 a xs)/\R (xC K a) H1
theorem nO {l:Expr}{tl:TE}(hl:PE X l tl):PI X tg l (v4 X.K tl):=by
 intro aa s σ H R I h;refine bY (hl aa s σ H _ I h) λv s1 hq_=>?_
 obtain⟨x,H1,I1,r1,q1⟩:=hq_
 obtain⟨a,e,⟨xs,hq⟩,q⟩:=q1
 subst e;cases r1
 obtain⟨its,rv,p,hz⟩:=I1.list hq
 refine wpAny_pyIter_list p.isList ?_
 refine⟨s1.heap.objs.size,[s1.heap.objs.size],_,_,H1,rfl,I1.kept (t':=s1.toks) λb o e=>Heap.get?_push_of_some _ e,oK a _,⟨_,Heap.get?_push_size _ rfl,rfl,rfl⟩,λb hb=>?_,q⟩
 have e:b=s1.heap.objs.size:=by simpa using hb
 subst e;exact I1.fpOk (Nat.le_refl _) (I1.hok.fresh (Nat.le_refl _))
theorem vE {l:Expr}{tl:TE}(hl:PE X l tl):PI X tg l (ya X.K tl):=by
 intro aa s σ H R I h;refine bY (hl aa s σ H _ I h) λv s1 hq_=>?_
 obtain⟨x,H1,I1,r1,q1⟩:=hq_
 obtain⟨a,e,⟨xs,hq⟩,q⟩:=q1
 subst e;cases r1
 obtain⟨its,rv,p,hz⟩:=I1.tuple hq
 refine wpAny_pyIter_tuple (show s1.heap.IsTuple a its.toArray from p) ?_
 refine⟨s1.heap.objs.size,[s1.heap.objs.size],_,_,H1,rfl,I1.kept (t':=s1.toks) λb o e=>Heap.get?_push_of_some _ e,nh a _,⟨_,Heap.get?_push_size _ rfl,rfl,rfl⟩,λb hb=>?_,q⟩
 have e:b=s1.heap.objs.size:=by simpa using hb
 subst e;exact I1.fpOk (Nat.le_refl _) (I1.hok.fresh (Nat.le_refl _))
theorem pT {aa:List (Addr×Obj)}{σ:St}{H:Hp}{s:Shared}{R:It->Hp->Prop}{E:Value->Shared->Prop}{lo hi:Int}{t u v:Tok}{tk:Nat}(I:Inv X aa σ H s)(h1: -(2^62)<=lo)(h2:lo<2^62)(h3: -(2^62)<=hi)(h4:hi<2^62)
 (q:R (xa lo (hi-lo).toNat) H):wpAny (model X.prog X.w) X.A (pyIter (.ref s.heap.objs.size)) (yj X aa σ tg R) E {s with heap:=s.heap.push {cls:=.type "range",data:=.fields #[.int lo t,.int hi u,.int 1 v]},toks:=tk}:=by
 refine wpAny_pyIter_range (IsRange.new ..) (small_one h1 h2 h3 h4) ?_
 have I1:Inv X aa σ H {s with heap:=s.heap.push {cls:=.type "range",data:=.fields #[.int lo t,.int hi u,.int 1 v]},toks:=tk}:=I.kept λb o e=>Heap.get?_push_of_some _ e
 refine⟨(s.heap.push {cls:=.type "range",data:=.fields #[.int lo t,.int hi u,.int 1 v]}).objs.size,[(s.heap.push {cls:=.type "range",data:=.fields #[.int lo t,.int hi u,.int 1 v]}).objs.size],_,_,H,rfl,
  I1.kept (t':=tk) λb o e=>Heap.get?_push_of_some _ e,nE _ lo (hi-lo).toNat,?_,λb hb=>?_,q⟩
 ·have e1:lo+((0:Nat):Int)*1=lo:=by simp
  have e2:(((hi-lo).toNat:Nat):Int) - ((0:Nat):Int)=Builtin.Range.rangeSize lo hi 1:=by rw[rangeSize_one];split<;>omega
  show IsRangeIter _ _ (lo+((0:Nat):Int)*1) ((((hi-lo).toNat:Nat):Int) - ((0:Nat):Int)) 1;rw[e1,e2];exact Heap.get?_push_size _ rfl
 ·have e:b=(s.heap.push {cls:=.type "range",data:=.fields #[.int lo t,.int hi u,.int 1 v]}).objs.size:=by simpa using hb
  subst e;exact I1.fpOk (Nat.le_refl _) (I1.hok.fresh (Nat.le_refl _))
def wl(ta:TA):TI:=λσ H R=>ta σ H λvs H1=> ∃j:Int,vs=[.int j]/\ -(2^62)<=j/\j<2^62/\R (xa 0 j.toNat) H1
theorem pF {a:Expr}{ta:TA}{p pos:Pos}(hg:Gl X "range")(hm:X.mg "range"=none)(ha:PA X [a] ta)(hs:starEach [a] X.env=[(false,eval a X.env)]:=by rfl):PI X tg (.Call (.Name "range" p) [a] [] pos) (wl ta):=by
 intro aa s σ H R I h;refine Call_ (iY I hg hm boot_range (PyProof.Rows.callWith_type1 (bY (ha pos aa s σ H _ I h) λus s1 ⟨vs,H1,I1,r1,q1⟩=>?_) hs rfl))
 obtain⟨j,e,q1,q2,q⟩:=q1
 subst e;cases r1 with
 |cons r rr=>
  cases rr
  obtain⟨t,rfl⟩:=r
  exact call_range_1 (pT I1 (by omega) (by omega) q1 q2 (by simpa using q))
def xK(wi:TI)(g:TG)(tb:TS):TS:=λD σ H=>wi σ H λJ H1=> ∃W:Nat->Nat->St->Hp->Prop,(∃m,W 0 m σ H1)/\ ∀i m σ H,W i m σ H->
 (J.stop i H/\D.nx σ H)\/(J.go i H/\ ∃N:St->Hp->Prop,(∀σ' H',N σ' H'-> ∃m',m'<m/\W (i+1) m' σ' H')/\ ∀x H',J.yld i H x H'->g x σ H' λσ2 H2=>tb {D with nx:=N,ct:=N,bk:=D.nx} σ2 H2)
def iW(fp:List Addr)(h:Heap):List (Addr×Obj):=fp.filterMap λb=>(h.get? b).map λo=>(b,o)
theorem eU {fp:List Addr}{h:Heap}{b:Addr}{o:Obj}(hb:b∈fp)(e:h.get? b=some o):(b,o)∈iW fp h:=List.mem_filterMap.mpr ⟨b,hb,by rw[e];rfl⟩
theorem pH {fp:List Addr}{h:Heap}{p:Addr×Obj}(hp:p∈iW fp h):p.1∈fp/\h.get? p.1=some p.2:=by
 obtain⟨b,hb,e⟩:=List.mem_filterMap.mp hp
 cases q:h.get? b with
 |none=>rw[q] at e;cases e
 |some o=>
  rw[q] at e;have e':(b,o)=p:=Option.some.inj e
  subst e';exact⟨hb,q⟩
theorem Inv.pinned {aa:List (Addr×Obj)}{σ:St}{H:Hp}{s:Shared}{fp:List Addr}(I:Inv X aa σ H s)(hf: ∀b∈fp,jd X aa H b)(ho: ∀b∈fp,∃o,s.heap.get? b=some o/\ ∀v,o.data≠ .cell v):Inv X (aa++iW fp s.heap) σ H s:=
 I.pins_of λp hp=>(List.mem_append.mp hp).elim (λz=>I.pin p (List.mem_append_right _ z)) λz=>by
  obtain⟨hb,e⟩:=pH z
  obtain⟨f0,f1,f2,_⟩:=hf p.1 hb
  obtain⟨o,e',d⟩:=ho p.1 hb
  rw[e] at e';cases e';exact⟨e,f0,f1,f2,d⟩
theorem Inv.unpinned {aa pl:List (Addr×Obj)}{σ:St}{H:Hp}{s:Shared}(I:Inv X (aa++pl) σ H s):Inv X aa σ H s:=I.pins_of λp hp=>I.pin p (List.mem_append_right _ (List.mem_append_left _ hp))
theorem uy {iter:Expr}{body:List Stmt}{wi:TI}{g:TG}{tb:TS}{pos:Pos}(hp:PassesOwn (model X.prog X.w) X.A X.env X.xe)(hc:X.calm=true)(hi:PI X tg iter wi)(hg:PG X tg g)(hb:PSs X body tb)
 (hs: ∀x,foldedSetIterable iter X.env x=pure x:=by intro _;rfl):PS X (.For tg iter body [] pos) (xK wi g tb):=by
 intro aa s σ H D I h;refine wpAny_For (bY (hi aa s σ H _ I h) λv s1 h1=>bY h1 λitv s2 h2=>?_) hs
 obtain⟨it,fp,tn,J,H2,e,I2,T,st2,f2,W,⟨m0,w0⟩,turn⟩:=h2
 subst e;have stat: ∀ {H':Hp},(∀b∈fp,H' b=none)-> ∀b∈fp,jd X aa H' b:=λhn b hb=>⟨hn b hb,(f2 b hb).2⟩
 refine codeAny_forLoop_any (λn s'=> ∃i σ' H',Inv X aa σ' H' s'/\tn i s'.heap/\(∀b∈fp,H' b=none)/\W i n σ' H') ?_ m0 ⟨0,σ,H2,I2,st2,λb hb=>(f2 b hb).1,w0⟩
 rintro n s3 ⟨i,σ3,H3,I3,st3,fr3,w3⟩
 rcases turn i n σ3 H3 w3 with⟨stop,qn⟩|⟨go,N,hN,step⟩
 ·refine wpAny_passesOwn hp (bY (T.done X rfl rfl rfl hc i aa s3 σ3 H3 X.xe I3 (stat fr3) st3 stop) λr s4 hq_=>?_)
  obtain⟨hr,I4⟩:=hq_
  subst hr;exact wpAny_execs_nil ⟨σ3,H3,I4,qn⟩
 ·refine wpAny_passesOwn hp (bY (T.item X rfl rfl rfl hc i aa s3 σ3 H3 X.xe I3 (stat fr3) st3 go) λr s4 hq_=>?_)
  obtain⟨u,hr,h4⟩:=hq_
  subst hr;refine wpAny_passesOwn hp (bY h4 λ_ s5 hq_=>?_)
  obtain⟨x,H5,I5,r5,y5,st5,fr5⟩:=hq_
  have I5':=I5.pinned (stat fr5) (T.obj _ _ st5)
  refine wpAny_passesOwn hp (bY (hg _ s5 σ3 H5 x u _ I5' r5 (step x H5 y5)) λ_ s6 hq_=>?_)
  obtain⟨σ6,H6,I6,q6⟩:=hq_
  refine wpAny_passesOwn hp (bY (hb _ s6 σ6 H6 _ I6 q6) λf s7 q7=>?_)
  have again: ∀ {σ7:St} {H7:Hp},Inv X (aa++iW fp s5.heap) σ7 H7 s7->N σ7 H7-> ∃m,m<n/\ ∃i σ' H',Inv X aa σ' H' s7/\tn i s7.heap/\(∀b∈fp,H' b=none)/\W i m σ' H':=λ{σ7 H7} I7 n7=>by
   obtain⟨m',hm,w7⟩:=hN σ7 H7 n7
   refine⟨m',hm,i+1,σ7,H7,I7.unpinned,T.keep _ _ _ st5 λb hb o e=>(I7.pin (b,o) (List.mem_append_right _ (List.mem_append_right _ (eU hb e)))).1,λb hb=>?_,w7⟩
   obtain⟨o,e,d⟩:=T.obj _ _ st5 b hb
   exact(I7.pin (b,o) (List.mem_append_right _ (List.mem_append_right _ (eU hb e)))).2.1
  cases f with
  |next=>obtain⟨σ7,H7,I7,n7⟩:=q7;exact again I7 n7
  |cont=>obtain⟨σ7,H7,I7,n7⟩:=q7;exact again I7 n7
  |brk=>obtain⟨σ7,H7,I7,q7⟩:=q7;exact⟨σ7,H7,I7.unpinned,q7⟩
  |ret v=>obtain⟨x7,σ7,H7,I7,r7,q7⟩:=q7;exact⟨x7,σ7,H7,I7.unpinned,r7,q7⟩
end
abbrev R2:=V->V->Hp->VK->Prop
def fR(X:Cx)(f:Value->Value->Sem Value)(r:R2):Prop:=
 ∀(aa:List (Addr×Obj)) (s:Shared) (σ:St) (H:Hp) (x y:V) (v u:Value) (Q:VK),Inv X aa σ H s->RelV x v->RelV y u->r x y H Q->
  wpAny (model X.prog X.w) X.A (f v u) (EP X aa σ Q) X.xe s
def dC(X:Cx)(f:Value)(r:List V->Hp->VK->Prop):Prop:=
 ∀(aa:List (Addr×Obj)) (s:Shared) (σ:St) (H:Hp) (xs:List V) (us:List Value) (Q:VK),Inv X aa σ H s->Vals xs us->r xs H Q->
  wpAny (model X.prog X.w) X.A (call f us) (EP X aa σ Q) X.xe s
def xW(X:Cx)(r:V->Hp->(Bool->Hp->Prop)->Prop):Prop:=
 ∀(aa:List (Addr×Obj)) (s:Shared) (σ:St) (H:Hp) (x:V) (v:Value) (Q:Bool->Hp->Prop),Inv X aa σ H s->RelV x v->r x H Q->
  wpAny (model X.prog X.w) X.A (truthy v) (TP X aa σ Q) X.xe s
def vX(r:R2)(ta tb:TE):TE:=λσ H Q=>ta σ H λx H1=>tb σ H1 λy H2=>r x y H2 Q
def rI(C:Int->Int->Prop)(g:Int->Int->V):R2:=λx y H Q=> ∃i j,x=.int i/\y=.int j/\C i j/\Q (g i j) H
def se(g:Int->Int->V):R2:=λx y H Q=> ∃i j,x=.int i/\y=.int j/\Q (g i j) H
section
variable {X:Cx}{a b c:Expr}{ta tb tc:TE}{pos:Pos}
theorem vn(ha:PE X a ta)(hb:PE X b tb){aa:List (Addr×Obj)}{s:Shared}{σ:St}{H:Hp}{R:V->V->Hp->Prop}(I:Inv X aa σ H s)
 (h:ta σ H λx H1=>tb σ H1 λy H2=>R x y H2) {Q:Value->Shared->Prop} {f:Value->Value->Sem Value}
 (hf: ∀v u s2 x y H2,Inv X aa σ H2 s2->RelV x v->RelV y u->R x y H2->wpAny (model X.prog X.w) X.A (f v u) Q X.xe s2):
 wpAny (model X.prog X.w) X.A (eval a X.env) (λv s₁=>wpAny (model X.prog X.w) X.A (eval b X.env) (λu s₂=>wpAny (model X.prog X.w) X.A (f v u) Q X.xe s₂) X.xe s₁) X.xe s:=by
 refine bY (ha aa s σ H _ I h) λv s1 hq_=>?_
 obtain⟨x,H1,I1,r1,q1⟩:=hq_
 refine bY (hb aa s1 σ H1 _ I1 q1) λu s2 hq_=>?_
 obtain⟨y,H2,I2,r2,q2⟩:=hq_
 exact hf v u s2 x y H2 I2 r1 r2 q2
theorem t8 {op:Operator}{r:R2}(ho:fR X (binaryOp op) r)(ha:PE X a ta)(hb:PE X b tb):PE X (.BinOp a op b pos) (vX r ta tb):=by
 intro aa s σ H Q I h;exact wpAny_BinOp (vn ha hb I h λv u s2 x y H2 I2 rx ry q=>ho aa s2 σ H2 x y v u Q I2 rx ry q)
theorem xc {f:Value->Value->Sem Value}{C:Int->Int->Prop}{g:Int->Int->Int}
 (rule: ∀(i j:Int) (t u:Tok) (s:Shared) (Q:Value->Shared->Prop) (E:Value->Shared->Prop),C i j->Q (.int (g i j) s.toks) {s with toks:=s.toks+1}->wpAny (model X.prog X.w) X.A (f (.int i t) (.int j u)) Q E s):
 fR X f (rI C λi j=>.int (g i j)):=by
 intro aa s σ H x y v u Q I rx ry h;obtain⟨i,j,rfl,rfl,hc,q⟩:=h
 obtain⟨t,rfl⟩:=rx
 obtain⟨t',rfl⟩:=ry
 exact rule i j t t' s _ _ hc ⟨.int (g i j),H,I.tok _,⟨_,rfl⟩,q⟩
theorem v8 {f:Value->Value->Sem Value}{g:Int->Int->Int}
 (rule: ∀(i j:Int) (t u:Tok) (s:Shared) (Q:Value->Shared->Prop) (E:Value->Shared->Prop),Q (.int (g i j) s.toks) {s with toks:=s.toks+1}->wpAny (model X.prog X.w) X.A (f (.int i t) (.int j u)) Q E s):
 fR X f (se λi j=>.int (g i j)):=by
 intro aa s σ H x y v u Q I rx ry h;obtain⟨i,j,rfl,rfl,q⟩:=h
 obtain⟨t,rfl⟩:=rx
 obtain⟨t',rfl⟩:=ry
 exact rule i j t t' s _ _ ⟨.int (g i j),H,I.tok _,⟨_,rfl⟩,q⟩
theorem t4 {f:Value->Value->Sem Value}{g:Int->Int->Bool}
 (rule: ∀(i j:Int) (t u:Tok) (s:Shared) (Q:Value->Shared->Prop) (E:Value->Shared->Prop),Q (.bool (g i j)) s->wpAny (model X.prog X.w) X.A (f (.int i t) (.int j u)) Q E s):
 fR X f (se λi j=>.bl (g i j)):=by
 intro aa s σ H x y v u Q I rx ry h;obtain⟨i,j,rfl,rfl,q⟩:=h
 obtain⟨t,rfl⟩:=rx
 obtain⟨t',rfl⟩:=ry
 exact rule i j t t' s _ _ ⟨.bl (g i j),H,I,rfl,q⟩
def wR(i j:Int):Prop:=0<=j/\j<=1000000/\i.natAbs<2^64
theorem pN:fR X (binaryOp .Add) (se λi j=>.int (i+j)):=v8 λ_ _ _ _ _ _ _ q=>add_int q
theorem uG:fR X (binaryOp .Sub) (se λi j=>.int (i-j)):=v8 λ_ _ _ _ _ _ _ q=>sub_int q
theorem uP:fR X (binaryOp .Mod) (rI (λ_ j=>0<j) λi j=>.int (i % j)):=xc λi j _ _ _ _ _ hc q=>by
 have h1:(0:Int)<j:=hc
 exact mod_int' (by omega) (by rw[Int.fmod_eq_emod_of_nonneg i (by omega)];exact q)
theorem u9:fR X (binaryOp .Pow) (rI wR λi j=>.int (i^j.toNat)):=xc λ_ _ _ _ _ _ _ hc q=>pow_int_small hc.1 hc.2.1 hc.2.2 q
end
section
variable {X:Cx}{a b c:Expr}{ta tb tc:TE}{pos:Pos}
theorem qV:fR X (compareOp .Lt) (se λi j=>.bl (decide (i<j))):=t4 λ_ _ _ _ _ _ _ q=>lt_int q
theorem jy:fR X (compareOp .LtE) (se λi j=>.bl (decide (i<=j))):=t4 λ_ _ _ _ _ _ _ q=>le_int q
theorem oy:fR X (compareOp .Gt) (se λi j=>.bl (decide (j<i))):=t4 λ_ _ _ _ _ _ _ q=>gt_int q
theorem ua:fR X (compareOp .GtE) (se λi j=>.bl (decide (j<=i))):=t4 λ_ _ _ _ _ _ _ q=>ge_int q
theorem bu(b:Expr){op:CmpOp}(h:op≠ .In:=by decide)(h2:op≠ .NotIn:=by decide):behindInMarks op b=false:=by
 have e1:(op==CmpOp.In)=false:=by cases op<;>first|rfl|exact absurd rfl h
 have e2:(op==CmpOp.NotIn)=false:=by cases op<;>first|rfl|exact absurd rfl h2
 cases b<;>simp[behindInMarks,e1,e2]
theorem sU {op:CmpOp}{r:R2}(ho:fR X (compareOp op) r)(ha:PE X a ta)(hb:PE X b tb)(hm:behindInMarks op b=false):PE X (.Compare a [op] [b] pos) (vX r ta tb):=by
 intro aa s σ H Q I h;exact wpAny_Compare1 (vn ha hb I h λv u s2 x y H2 I2 rx ry q=>ho aa s2 σ H2 x y v u Q I2 rx ry q) hm
def ur(t:TE):TT:=λσ H Q=>t σ H λx H'=> ∃k,x=.bl k/\Q k H'
theorem tI {op:CmpOp}{r:R2}(ho:fR X (compareOp op) r)(ha:PE X a ta)(hb:PE X b tb)(hm:behindInMarks op b=false):PT X (.Compare a [op] [b] pos) (ur (vX r ta tb)):=by
 intro aa s σ H Q I h;refine wpAny_isTrue_Compare1 (bY (ha aa s σ H _ I h) λv s1 ⟨x,H1,I1,r1,q1⟩=>bY (hb aa s1 σ H1 _ I1 q1) λu s2 ⟨y,H2,I2,r2,q2⟩=>
  bY (ho aa s2 σ H2 x y v u _ I2 r1 r2 q2) λc s3 ⟨z,H3,I3,r3,k,e,q3⟩=>?_) hm
 subst e;cases r3
 exact wpAny_truthy_bool ⟨H3,I3,q3⟩
def mZ(r r':R2)(ta tb tc:TE):TE:=λσ H Q=>ta σ H λx H1=>tb σ H1 λy H2=>r x y H2 λz H3=> ∃k,z=.bl k/\
 (if k=true then tc σ H3 λw' H4=>r' y w' H4 Q else Q (.bl false) H3)
theorem qh {op op':CmpOp}{r r':R2}(ho:fR X (compareOp op) r)(ho':fR X (compareOp op') r')(ha:PE X a ta)(hb:PE X b tb)(hc:PE X c tc)
 (hm:lastMarks [op,op'] [b,c]=false:=by with_unfolding_all rfl):PE X (.Compare a [op,op'] [b,c] pos) (mZ r r' ta tb tc):=by
 intro aa s σ H Q I h;refine Compare_chain (bY (ha aa s σ H _ I h) λv s1 ⟨x,H1,I1,r1,q1⟩=>chain_link (bY (hb aa s1 σ H1 _ I1 q1) λu s2 ⟨y,H2,I2,r2,q2⟩=>
  bY (ho aa s2 σ H2 x y v u _ I2 r1 r2 q2) λd s3 ⟨z,H3,I3,r3,k,e,q3⟩=>?_)) hm
 subst e;cases r3
 refine wpAny_truthy_bool ?_
 cases k with
 |false=>exact ite_ff ⟨.bl false,H3,I3,rfl,q3⟩
 |true=>exact ite_tt (chain_last (bY (hc aa s3 σ H3 _ I3 q3) λw' s4 ⟨z',H4,I4,r4,q4⟩=>ho' aa s4 σ H4 y z' u w' Q I4 r2 r4 q4))
theorem qv {op op':CmpOp}{r r':R2}(ho:fR X (compareOp op) r)(ho':fR X (compareOp op') r')(ha:PE X a ta)(hb:PE X b tb)(hc:PE X c tc)
 (hm:lastMarks [op,op'] [b,c]=false:=by with_unfolding_all rfl):PT X (.Compare a [op,op'] [b,c] pos) (ur (mZ r r' ta tb tc)):=by
 intro aa s σ H Q I h;refine isTrue_chain (bY (ha aa s σ H _ I h) λv s1 ⟨x,H1,I1,r1,q1⟩=>test_link (bY (hb aa s1 σ H1 _ I1 q1) λu s2 ⟨y,H2,I2,r2,q2⟩=>
  bY (ho aa s2 σ H2 x y v u _ I2 r1 r2 q2) λd s3 ⟨z,H3,I3,r3,k,e,q3⟩=>?_)) hm
 subst e;cases r3
 refine wpAny_truthy_bool ?_
 cases k with
 |false=>
  obtain⟨k',e',q'⟩:=q3
  cases e'
  exact ite_ff ⟨H3,I3,q'⟩
 |true=>
  refine ite_tt (test_last (bY (hc aa s3 σ H3 _ I3 q3) λw' s4 ⟨z',H4,I4,r4,q4⟩=>bY (ho' aa s4 σ H4 y z' u w' _ I4 r2 r4 q4) λd' s5 hq_=>?_))
  obtain⟨z2,H5,I5,r5,k2,e2,q5⟩:=hq_
  subst e2;cases r5
  exact wpAny_truthy_bool ⟨H5,I5,q5⟩
def vc(K:W.Frag)(x:V)(H:Hp)(k:Bool):Prop:=
 match x with
 | .non=>k=false
 | .bl b=>k=b
 | .int i=>k=(i !=0)
 | .str y=>y.length<=sizeLine/\k=((y.length:Int) !=0)
 | .byt y=>y.size<=sizeLine/\k=((y.size:Int) !=0)
 | .ref p=>(∃xs,SqL K H p xs/\k= !xs.isEmpty)\/(∃xs,SqT K H p xs/\k= !xs.isEmpty)\/ ∃kvs,H p=some (.dK kvs)/\k= !kvs.isEmpty
 |_=>False
theorem m6 {κ:Type}{kvs:List (κ×V)}{vs:List (κ×Value)}(r:KV kvs vs):(!vs.isEmpty)= !kvs.isEmpty:=by
 cases r<;>rfl
theorem iF {xs:List V}{its:List Value}(r:Vals xs its):(!its.toArray.isEmpty)= !xs.isEmpty:=by
 cases r<;>simp
theorem fB:(sizeLine:Nat)<2^63:=by rw[sizeLine_eq];decide
theorem vu:xW X (λx H Q=> ∃k,vc X.K x H k/\Q k H):=by
 intro aa s σ H x v Q I rx h;obtain⟨k,e,q⟩:=h
 have hl:=fB
 have hs:sizeLine=16777216:=sizeLine_eq
 cases x with
 |non=>
  cases rx
  have e':k=false:=e
  subst e';exact truthy_none ⟨H,I,q⟩
 |bl b=>
  cases rx
  have e':k=b:=e
  subst e';exact wpAny_truthy_bool ⟨H,I,q⟩
 |int i=>
  obtain⟨t,rfl⟩:=rx
  have e':k=(i !=0):=e
  subst e';exact PySem.P.truthy_int ⟨H,I,q⟩
 |str y=>
  obtain⟨t,rfl⟩:=rx
  obtain⟨hy,e'⟩:y.length<=sizeLine/\k=((y.length:Int) !=0):=e
  subst e';exact PySem.P.truthy_str (by omega) ⟨H,I.tok _,q⟩
 |byt y=>
  obtain⟨t,rfl⟩:=rx
  obtain⟨hy,e'⟩:y.size<=sizeLine/\k=((y.size:Int) !=0):=e
  subst e';exact W.truthy_bytes (by omega) ⟨H,I.tok _,q⟩
 |ref p=>
  cases rx
  have e':(∃xs,SqL X.K H p xs/\k= !xs.isEmpty)\/(∃xs,SqT X.K H p xs/\k= !xs.isEmpty)\/ ∃kvs,H p=some (.dK kvs)/\k= !kvs.isEmpty:=e
  rcases e' with⟨xs,hx,e'⟩|⟨xs,hx,e'⟩|⟨kvs,hx,e'⟩
  ·subst e'
   obtain⟨its,r,pl,hz⟩:=I.list hx
   have hlen:=r.length
   exact wpAny_truthy_list pl.isList (by simp only[List.size_toArray];omega) ⟨H,I.tok _,by rw[iF r];exact q⟩
  ·subst e'
   obtain⟨its,r,pl,hz⟩:=I.tuple hx
   have hlen:=r.length
   exact truthy_tuple pl (by simp only[List.size_toArray];omega) ⟨H,I.tok _,by rw[iF r];exact q⟩
  ·subst e'
   obtain⟨hz,hS,vs,r,m⟩:kvs.length<=sizeLine/\(p==sysModules)=false/\ ∃vs,KV kvs vs/\s.heap.DictOf (ca X.prog X.w) p vs:=I.hok p _ hx
   have hlen:kvs.length=vs.length:=Paired.length r
   exact wpAny_truthy_dict hS m (by omega) ⟨H,I.tok _,by rw[m6 r];exact q⟩
 |_=>exact(show False from e).elim
theorem rF(ha:PE X a ta)(he: ∀whole,isTrue a X.env whole=(do let v <-whole;standAt a.pos;holding [v] (truthy v))):
 PT X a (λσ H Q=>ta σ H λx H'=> ∃k,vc X.K x H' k/\Q k H'):=by
 intro aa s σ H Q I h;exact isTrue_plain (bY (ha aa s σ H _ I h) λv s1 ⟨x,H1,I1,r1,q1⟩=>vu aa s1 σ H1 x v Q I1 r1 q1) (he _)
theorem gF {x:V}{us:List Value}(r:Vals [x] us): ∃u,us=[u]/\RelV x u:=by
 cases r with
 |cons r1 r2=>cases r2;exact⟨_,rfl,r1⟩
theorem qx {x y:V}{us:List Value}(r:Vals [x,y] us): ∃u w',us=[u,w']/\RelV x u/\RelV y w':=by
 cases r with
 |cons r1 r2=>
  cases r2 with
  |cons r3 r4=>cases r4;exact⟨_,_,rfl,r1,r3⟩
theorem rf:dC X (.builtin "abs") (λxs H Q=> ∃i,xs=[.int i]/\Q (.int (if i<0 then -i else i)) H):=by
 intro aa s σ H xs us Q I r h;obtain⟨i,rfl,q⟩:=h
 obtain⟨u,rfl,t,rfl⟩:=gF r
 exact call_abs_int λu tk=>⟨.int (if i<0 then -i else i),H,I.tok _,⟨_,rfl⟩,q⟩
theorem oM(hc:X.calm=true):dC X (.builtin "max") (λxs H Q=> ∃i j,xs=[.int i,.int j]/\Q (.int (if j>i then j else i)) H):=by
 intro aa s σ H xs us Q I r h;obtain⟨i,j,rfl,q⟩:=h
 obtain⟨u,w',rfl,⟨t,rfl⟩,⟨t',rfl⟩⟩:=qx r
 refine max_two_ints (I.ok.hd hc) λh' tk k=>⟨_,H,I.kept k,?_,q⟩
 by_cases hj:j>i
 ·rw[if_pos hj,if_pos hj];exact⟨_,rfl⟩
 ·rw[if_neg hj,if_neg hj];exact⟨_,rfl⟩
theorem jE(hc:X.calm=true):dC X (.builtin "min") (λxs H Q=> ∃i j,xs=[.int i,.int j]/\Q (.int (if j<i then j else i)) H):=by
 intro aa s σ H xs us Q I r h;obtain⟨i,j,rfl,q⟩:=h
 obtain⟨u,w',rfl,⟨t,rfl⟩,⟨t',rfl⟩⟩:=qx r
 refine min_two_ints (I.ok.hd hc) λh' tk k=>⟨_,H,I.kept k,?_,q⟩
 by_cases hj:j<i
 ·rw[if_pos hj,if_pos hj];exact⟨_,rfl⟩
 ·rw[if_neg hj,if_neg hj];exact⟨_,rfl⟩
theorem jD:dC X (.type "int") (λxs H Q=>(∃i,xs=[.int i]/\Q (.int i) H)\/ ∃k,xs=[.bl k]/\Q (.int (if k then 1 else 0)) H):=by
 intro aa s σ H xs us Q I r h;rcases h with⟨i,rfl,q⟩|⟨k,rfl,q⟩
 ·obtain⟨u,rfl,t,rfl⟩:=gF r
  exact call_int_int ⟨.int i,H,I,⟨_,rfl⟩,q⟩
 ·obtain⟨u,rfl,r1⟩:=gF r
  cases r1
  exact call_int_bool ⟨.int (if k then 1 else 0),H,I.tok _,⟨_,rfl⟩,q⟩
end
theorem RelO.some_of {v:V}{o:Option Value}(r:RelO (some v) o): ∃u,o=some u/\RelV v u:=by
 cases o with
 |none=>exact(show False from r).elim
 |some u=>exact⟨u,rfl,r⟩
structure Room(k:Nat)(A:Around):Prop where
 hd:A.handled=none
 dp:A.depth+3*k+5<recursionLimit
 un:A.units+16*k+200<cLine
theorem Room.mono {j k:Nat}{A:Around}(r:Room k A)(h:j<=k):Room j A:=⟨r.hd,by have:=r.dp;omega,by have:=r.un;omega⟩
theorem Room.deeper {k:Nat}{A:Around}(r:Room (k+1) A)(env:Env):Room k (A.deeper env):=
 ⟨r.hd,by have:=r.dp;show A.depth+1+3*k+5<_;omega,by have:=r.un;show A.units+3+16*k+200<_;omega⟩
theorem Room.depth {k:Nat}{A:Around}(r:Room k A):A.depth<recursionLimit:=by have:=r.dp;omega
theorem Room.units {k:Nat}{A:Around}(r:Room k A):A.units+64<cLine:=by have:=r.un;omega
def xU:TA:=λ_ H Q=>Q [] H
def wN(ta:TE)(tr:TA):TA:=λσ H Q=>ta σ H λx H1=>tr σ H1 λxs H2=>Q (x::xs) H2
section
variable {X:Cx}{e:Expr}{es:List Expr}{te:TE}{t:TA}{pos:Pos}
theorem fQ:PA X [] xU:=λ_ _ _ _ H Q I h=>Calls.spliced_nil ⟨[],H,I,.nil,h⟩
theorem cC(ha:PE X e te)(hr:PA X es t)(hs:starEach (e::es) X.env=(false,eval e X.env)::starEach es X.env:=by rfl):PA X (e::es) (wN te t):=by
 intro pos aa s σ H Q I h;rw[hs];show wpAny _ _ (spliced ((false,eval e X.env)::backTo pos (starEach es X.env))) _ _ s;refine Calls.spliced_cons (bY (ha aa s σ H _ I h) λu s1 hq_=>?_)
 obtain⟨x,H1,I1,r1,q1⟩:=hq_
 exact bY (hr pos aa s1 σ H1 _ I1 q1) λus s2 ⟨xs,H2,I2,r2,q2⟩=>⟨x::xs,H2,I2,.cons r1 r2,q2⟩
def xq(t:TA):TE:=λσ H Q=>t σ H λxs H1=>xs.length<=sizeLine/\ ∀p,H1 p=none->Q (.ref p) (aV H1 p (.tup xs))
def xx(t:TA):TE:=λσ H Q=>t σ H λxs H1=>xs.length<=sizeLine/\ ∀p,H1 p=none->Q (.ref p) (aV H1 p (.lst xs))
theorem uZ {x1}(h:PA X es t):PE X (.Tuple es x1 pos) (xq t):=by
 intro aa s σ H Q I hq;refine wpAny_Tuple_spliced (bY (h pos aa s σ H _ I hq) λus s1 ⟨xs,H1,I1,r,z,q⟩=>⟨by rw[<-r.length];exact z,?_⟩)
 have hf:H1 s1.heap.objs.size=none:=I1.hok.fresh (Nat.le_refl _)
 refine⟨.ref s1.heap.objs.size,aV H1 s1.heap.objs.size (.tup xs),I1.laid (t':=s1.toks) (λb u e=>Heap.get?_push_of_some _ e) (Nat.le_refl _) ?_,rfl,q _ hf⟩
 exact⟨z,us,r,⟨_,Heap.get?_push_size _ rfl,rfl,_,rfl⟩,_,Heap.get?_push_size _ rfl,rfl⟩
theorem rC(h:PA X es t):PE X (.List es pos) (xx t):=by
 intro aa s σ H Q I hq;refine wpAny_List_spliced (bY (h pos aa s σ H _ I hq) λus s1 ⟨xs,H1,I1,r,z,q⟩=>⟨by rw[<-r.length];exact z,?_⟩)
 have hf:H1 s1.heap.objs.size=none:=I1.hok.fresh (Nat.le_refl _)
 refine⟨.ref s1.heap.objs.size,aV H1 s1.heap.objs.size (.lst xs),I1.laid (t':=s1.toks) (λb u e=>Heap.get?_push_of_some _ e) (Nat.le_refl _) ?_,rfl,q _ hf⟩
 exact⟨z,us,0,r,Heap.get?_push_size _ rfl⟩
end
abbrev Sp:=List V->Hp->VK->XK->Prop
abbrev nV:=List Env->Hp->Shared->XK->Value->Shared->Prop
structure Env0(P:Program)(w:World)(K:W.Frag)(mg:Str->Option Value)(base:Heap)(A:Around)(outer:List Env)(s:Shared)(H:Hp):Prop where
 frames:A.frames=some outer
 mod:Mod K mg base
 bs: ∀b o,base.get? b=some o->s.heap.get? b=some o/\H b=none
 bsz:base.objs.size<=s.heap.objs.size
 funs:s.heap.FunFrames base outer
 frf: ∀b∈fK outer,H b=none
 hok:HOk P w H s.heap
 bare:AllBare s.gens
def CE(outer:List Env)(P:Program)(w:World)(H:Hp)(s:Shared)(Q:VK)(u:Value)(s':Shared):Prop:=
 ∃v H',s'.os=s.os/\AllBare s'.gens/\Un (fK outer) [] H H' s.heap s'.heap/\HOk P w H' s'.heap/\RelV v u/\Q v H'
def CR(CX:nV)(outer:List Env)(P:Program)(w:World)(H:Hp)(s:Shared)(Q:VK)(E:XK)(r:Result)(s':Shared):Prop:=
 match r with
 | .ok (.ret u)=>CE outer P w H s Q u s'
 | .ok _=>False
 | .error e=>CX outer H s E e s'
structure FnOk(P:Program)(w:World)(K:W.Frag)(mg:Str->Option Value)(base:Heap)(CX:nV)(k:Nat)(f:Addr)(fd:FuncData)(ps:List Str)(sp:Sp):Prop where
 len: ∀vs H Q E,sp vs H Q E->vs.length=ps.length
 run: ∀(A:Around) (outer:List Env) (s:Shared) (H:Hp) (args:Args) (us:List Value) (vs:List V) (Q:VK) (E:XK),Room k A->Env0 P w K mg base A outer s H->BindsTo s fd args (ps.zip us)->Vals vs us->sp vs H Q E->
  codeAny (model P w) A (.call (.ref f) args) (CR CX outer P w H s Q E) s
theorem FnOk.imp {P:Program}{w:World}{K:W.Frag}{mg:Str->Option Value}{base:Heap}{CX:nV}{k:Nat}{f:Addr}{fd:FuncData}{ps:List Str}{sp sp':Sp}(F:FnOk P w K mg base CX k f fd ps sp)
 (h: ∀vs H Q E,sp' vs H Q E->sp vs H Q E):FnOk P w K mg base CX k f fd ps sp':=
 ⟨λvs H Q E q=>F.len vs H Q E (h _ _ _ _ q),λA outer s H args us vs Q E hr he hb hv hs=>F.run A outer s H args us vs Q E hr he hb hv (h _ _ _ _ hs)⟩
section
variable {X:Cx}{aa:List (Addr×Obj)}{σ:St}{H:Hp}{s s':Shared}
theorem Inv.env0(I:Inv X aa σ H s):Env0 X.prog X.w X.K X.mg X.base X.A X.stack s H:=
 ⟨I.ok.frames,I.ok.mod,I.bs,Nat.le_trans I.ok.bsz I.sz,I.stack,I.stkFree,I.hok,I.bare⟩
theorem Inv.after {Q:VK}{u:Value}(I:Inv X aa σ H s)(h:CE X.stack X.prog X.w H s Q u s'):EP X aa σ Q u s':=by
 obtain⟨v,H',os,bare,un,hok,r,q⟩:=h
 obtain⟨hh,g,d,t,os'⟩:=s'
 obtain rfl:os'=s.os:=os
 exact⟨v,H',I.call (h':=hh) (g':=g) (d':=d) (t':=t) (ch:=[]) un hok bare (λb z=>absurd z (by simp)),r,q⟩
end
def wF(sp:Sp)(dvs:List V)(E:XK)(t:TA):TE:=λσ H Q=>t σ H λvs H1=>sp (vs++dvs) H1 Q E
def Binds(K:W.Frag)(fd:FuncData)(ps:List Str)(ds:List Value):Prop:=
 ∀(s:Shared) (us:List Value),K.In s.heap->(us++ds).length=ps.length->BindsTo s fd ⟨us,[]⟩ (ps.zip (us++ds))
theorem Binds.all {K:W.Frag}{fd:FuncData}{ps:List Str}(h: ∀us:List Value,us.length=ps.length->bindArgs fd ⟨us,[]⟩=pure (ps.zip us)):Binds K fd ps []:=λs us _ hl=>by
 rw[List.append_nil] at hl⊢;exact .of_eq (h us hl)
def mK(CX:nV)(X:Cx)(E:XK):Prop:= ∀(aa:List (Addr×Obj)) (σ:St) (H:Hp) (s:Shared) (e:Value) (s':Shared),Inv X aa σ H s->CX X.stack H s E e s'->X.xe e s'
section
variable {X:Cx}{CX:nV}{k:Nat}{f C:Addr}{fd:FuncData}{ps:List Str}{sp:Sp}{dvs:List V}{ds:List Value}{E:XK}{x m:Str}{p pos apos:Pos}{e o:Expr}{es:List Expr}{ta:TE}{t:TA}
theorem vT {aa:List (Addr×Obj)}{σ:St}{H:Hp}{s:Shared}{Q:VK}{us:List Value}{vs:List V}(F:FnOk X.prog X.w X.K X.mg X.base CX k f fd ps sp)(hr:Room k X.A)(hb:Binds X.K fd ps ds)(hd:Vals dvs ds)(hx:mK CX X E)
 (I:Inv X aa σ H s) (r:Vals vs us) (h:sp (vs++dvs) H Q E):wpAny (model X.prog X.w) X.A (call (.ref f) us) (EP X aa σ Q) X.xe s:=by
 have r2:Vals (vs++dvs) (us++ds):=r.append hd
 have hl:(us++ds).length=ps.length:=by rw[<-r2.length];exact F.len _ _ _ _ h
 refine wpAny_call (codeAny_mono (F.run X.A X.stack s H ⟨us,[]⟩ (us++ds) (vs++dvs) Q E hr I.env0 (hb s us I.kIn hl) r2 h) λr s' hq=>?_)
 cases r with
 |error e=>exact hx aa σ H s e s' I hq
 |ok fl=>
  cases fl with
  |ret u=>exact I.after hq
  |next=>exact False.elim hq
  |brk=>exact False.elim hq
  |cont=>exact False.elim hq
theorem oh(F:FnOk X.prog X.w X.K X.mg X.base CX k f fd ps sp)(hr:Room k X.A)(hg:Gl X x)(hm:X.mg x=some (.ref f))(hk:W.keepIn X.K (.ref f)=true)(hb:Binds X.K fd ps ds)(hd:Vals dvs ds)(hx:mK CX X E)
 (ha:PA X (e::es) t) (hdb:(x==("__debug__":Str))=false:=by decide) (he:starEach (e::es) X.env=(false,eval e X.env)::starEach es X.env:=by rfl) (hpl:(backTo pos (starEach es X.env)).any (·.1)=false:=by rfl):
 PE X (.Call (.Name x p) (e::es) [] pos) (wF sp dvs E t):=by
 intro aa s σ H Q I h;refine wpAny_Call_Name_kw (iD I hg hm ?_ hdb)
 refine W.callWith_K (h₀:=X.base) I.ok.mod.kin hk (bY (ha pos aa s σ H _ I h) λus s1 ⟨vs,H1,I1,r,q⟩=>⟨I1.kIn,?_⟩) he hpl
 exact vT F hr hb hd hx I1 r q
end
structure FnScope(N P:List Str)(sc:Scope):Prop where
 kind:sc.kind=.function
 co:sc.isCoroutine=false
 gen:sc.isGenerator=false
 nd:N.Nodup
 pre:N.take P.length=P
 par: ∀x∈P,sc.names.lookup x=some .local\/sc.names.lookup x=some .cell
 nofree: ∀y∈sc.names,y.2≠ .free
theorem jC {kindOf:Str->Option NameKind}{x:Str}: ∀ {binds:List (Str×Value)} {m:Str->Option Value},(∀v,(x,v)∉binds)->bindL kindOf binds m x=m x
 | [],_,_=>rfl
 |(n,v)::r,m,h=>by
  unfold bindL;rw[jC λw hw=>h w (List.mem_cons_of_mem _ hw)]
  split
  ·have:x≠n:=by rintro rfl;exact h v List.mem_cons_self
   simp[this]
  ·rfl
theorem j5 {kindOf:Str->Option NameKind}{x:Str}: ∀ {binds:List (Str×Value)} {m:Str->Option Value},(∀v,(x,v)∉binds)->bindC kindOf binds m x=m x
 | [],_,_=>rfl
 |(n,v)::r,m,h=>by
  unfold bindC;rw[j5 λw hw=>h w (List.mem_cons_of_mem _ hw)]
  split
  ·rfl
  ·have:x≠n:=by rintro rfl;exact h v List.mem_cons_self
   simp[this]
theorem jP {kindOf:Str->Option NameKind}{x:Str}{v:Value}: ∀ {P:List Str} {vs:List Value} {i:Nat} {m:Str->Option Value},P.Nodup->P[i]? =some x->vs[i]? =some v->kindOf x=some .local->
 bindL kindOf (P.zip vs) m x=some v
 | [],_,_,_,_,h,_,_=>by simp at h
 |_::_,[],_,_,_,_,h,_=>by simp at h
 |p::P,w::vs,0,m,nd,h1,h2,hk=>by
  simp at h1 h2;subst h1;subst h2;show bindL kindOf ((p,w)::P.zip vs) m p=_;unfold bindL;rw[jC λv hv=>(List.nodup_cons.mp nd).1 (List.of_mem_zip hv).1,if_pos hk]
  simp
 |p::P,w::vs,i+1,m,nd,h1,h2,hk=>by
  show bindL kindOf ((p,w)::P.zip vs) m x=_;unfold bindL;exact jP (i:=i) (List.nodup_cons.mp nd).2 (by simpa using h1) (by simpa using h2) hk
theorem j3 {kindOf:Str->Option NameKind}{x:Str}{v:Value}: ∀ {P:List Str} {vs:List Value} {i:Nat} {m:Str->Option Value},P.Nodup->P[i]? =some x->vs[i]? =some v->kindOf x≠some .local->
 bindC kindOf (P.zip vs) m x=some v
 | [],_,_,_,_,h,_,_=>by simp at h
 |_::_,[],_,_,_,_,h,_=>by simp at h
 |p::P,w::vs,0,m,nd,h1,h2,hk=>by
  simp at h1 h2;subst h1;subst h2;show bindC kindOf ((p,w)::P.zip vs) m p=_;unfold bindC;rw[j5 λv hv=>(List.nodup_cons.mp nd).1 (List.of_mem_zip hv).1,if_neg hk]
  simp
 |p::P,w::vs,i+1,m,nd,h1,h2,hk=>by
  show bindC kindOf ((p,w)::P.zip vs) m x=_;unfold bindC;exact j3 (i:=i) (List.nodup_cons.mp nd).2 (by simpa using h1) (by simpa using h2) hk
def eL(N:List Str)(vs:List V):St:=vs.map some++List.replicate (N.length-vs.length) none
def hV(CX:nV)(P:Program)(w:World)(K:W.Frag)(mg:Str->Option Value)(base:Heap)(N:List Str)(qual:Str)(scope:Scope)(f:Addr)(cd:Value)(A:Around)(outer:List Env)(s:Shared)(H:Hp)(E:XK):Cx where
 prog:=P
 w:=w
 K:=K
 mg:=mg
 base:=base
 A:=A.deeper (envOfC qual scope s.heap.objs.size f cd)
 N:=N
 s₀:=s
 H₀:=H
 env:=envOfC qual scope s.heap.objs.size f cd
 outer:=outer
 stack:=envOfC qual scope s.heap.objs.size f cd::outer
 ex:=[]
 calm:=true
 fn:=λ_=>true
 pn:=[]
 xe:=λe s'=>wpAny (model P w) (A.deeper (envOfC qual scope s.heap.objs.size f cd)) (leaving (envOfC qual scope s.heap.objs.size f cd) e) (λ_ s''=>CX outer H s E e s'') (λe' s''=>CX outer H s E e' s'') s'
theorem lJ {sc:Scope}{n:Nat}{x:Str}(h:sc.names.lookup x=some .cell): ∃c,(cellsFrom n sc.names []).lookup x=some c:=by
 have q:=W.cellsFrom_some sc.names n [] (.inl h)
 exact Option.isSome_iff_exists.mp q
theorem pJ {CX:nV}{P:Program}{w:World}{K:W.Frag}{mg:Str->Option Value}{base:Heap}{N ps:List Str}{qual:Str}{scope:Scope}{f:Addr}{cd:Value}{A:Around}{outer:List Env}{s s1:Shared}{H:Hp}{E:XK}{us:List Value}{vs:List V}
 (S:FnScope N ps scope) (hd:A.handled=none) (e0:Env0 P w K mg base A outer s H) (hl:vs.length=ps.length) (r:Vals vs us)
 (x:InCallC s s.heap.objs.size (bindL (envOfC qual scope s.heap.objs.size f cd).kindOf (ps.zip us) λ_=>none) (cellsFrom (s.heap.objs.size+1) scope.names []) (bindC (envOfC qual scope s.heap.objs.size f cd).kindOf (ps.zip us) λ_=>none) s1):
 Inv (hV CX P w K mg base N qual scope f cd A outer s H E) [] (eL N vs) H s1:=by
 have hpl:ps.length<=N.length:=by have:=congrArg List.length S.pre;rw[List.length_take] at this;omega
 obtain⟨h1,tk,rfl,hk⟩:=x.done
 have noA: ∀b:Addr,b∉(hV CX P w K mg base N qual scope f cd A outer s H E).ex:=λb z=>absurd (show b∈([]:List Addr) from z) (by simp)
 refine⟨⟨e0.mod,S.kind,rfl,rfl,Nat.le_refl _,λy z c h1 h2=>?_,λy hy=>?_,λy c _ h=>?_,λ_=>hd,Around.frames_deeper e0.frames,.inr ⟨rfl,rfl⟩,λb z=>absurd z (noA b),e0.bs,e0.bsz,λb _ _=>noA b,λb z=>absurd z (noA b),e0.funs,e0.frf⟩,
  rfl,e0.bare,Un.kept hk,⟨_,x.toInCall.ns,λi y v h1 h2 h3=>?_⟩,λy c h=>⟨_,x.cell y c h⟩,e0.hok.fresh (Nat.le_refl _),λy c h=>?_,λp hp=>absurd (show p∈([]:List (Addr×Obj)) from hp) (by simp),e0.hok.kept hk,?_⟩
 ·exact name_of_addr x.apart (PySem.mem_of_lookup h1) (PySem.mem_of_lookup h2)
 ·have hy:scope.names.lookup y=some .cell\/scope.names.lookup y=some .free:=hy
  rcases hy with hy|hy
  ·exact lJ hy
  ·exact absurd rfl (S.nofree _ (PySem.mem_of_lookup hy))
 ·exact Nat.le_of_lt (x.above y c (PySem.mem_of_lookup h))
 ·have hi:i<vs.length:=by
   unfold eL at h2
   by_cases hi:i<vs.length
   ·exact hi
   ·rw[List.getElem?_append_right (by simpa using hi)] at h2
    rw[List.getElem?_replicate] at h2;split at h2<;>cases h2
  have ha:vs[i]? =some v:=by
   unfold eL at h2;rw[List.getElem?_append_left (by simpa using hi),List.getElem?_map] at h2
   cases e:vs[i]? with
   |none=>rw[e] at h2;cases h2
   |some a=>rw[e] at h2;cases h2;rfl
  obtain⟨u,hu,rv⟩:=r.get ha
  have hp:ps[i]? =some y:=by
   rw[<-S.pre,List.getElem?_take_of_lt (by omega)];exact h1
  have ndP:ps.Nodup:=by rw[<-S.pre];exact S.nd.sublist (List.take_sublist _ _)
  refine⟨u,rv,?_⟩
  rcases S.par y (List.mem_of_getElem? hp) with k|k
  ·exact .inl ⟨k,jP ndP hp hu k⟩
  ·obtain⟨c,e⟩:=lJ (n:=s.heap.objs.size+1) k
   refine .inr ⟨.inl k,c,e,?_⟩
   have q:=x.cell y c e
   rw[j3 ndP hp hu (by show scope.names.lookup y≠_;rw[k];decide)] at q
   exact q
 ·exact e0.hok.fresh (Nat.le_of_lt (x.above y c (PySem.mem_of_lookup h)))
 ·unfold eL
  show _=N.length;rw[List.length_append,List.length_map,List.length_replicate];omega
theorem t9 {CX:nV}{P:Program}{w:World}{K:W.Frag}{mg:Str->Option Value}{base:Heap}{k:Nat}{f:Addr}{name qual:Str}{params:Arguments}{body:List Stmt}{scope:Scope}{dV kV doc pm cdv ct oc:Value}{an od:Option Addr}
 {osl:Array (Option Value)} {N ps:List Str} {sp:Sp} (lk:K.lookup f=some ⟨oc,od,.func (W.fnOf name qual params body scope dV kV doc pm an cdv ct),osl⟩) (hcd:W.codeIn K cdv qual=true) (S:FnScope N ps scope)
 (len: ∀vs H Q E,sp vs H Q E->vs.length=ps.length)
 (hbody: ∀(A:Around) (outer:List Env) (s:Shared) (H:Hp) (vs:List V) (Q:VK) (E:XK),Room k (A.deeper (envOfC qual scope s.heap.objs.size f cdv))->sp vs H Q E->
   ∃t,PSs (hV CX P w K mg base N qual scope f cdv A outer s H E) body t/\t {nx:=λ_ H'=>Q .non H',rt:=Q} (eL N vs) H):
 FnOk P w K mg base CX (k+1) f (W.fnOf name qual params body scope dV kV doc pm an cdv ct) ps sp:=by
 refine⟨len,λA outer s H args us vs Q E hr e0 hb r hsp=>?_⟩
 have hl:=len _ _ _ _ hsp
 have KX:K.In s.heap:=e0.mod.kin.keeps λb o e=>(e0.bs b o e).1
 have lim:s.heap.NoLimit:=e0.mod.nolimit.keeps λb o e=>(e0.bs b o e).1
 have hkind: ∀y∈ps.zip us,scope.names.lookup y.1=some .local\/(scope.names.lookup y.1=some .cell/\((cellsFrom (s.heap.objs.size+1) scope.names []).lookup y.1).isSome=true):=λ⟨n,v⟩ hy=>by
  rcases S.par n (List.of_mem_zip hy).1 with q|q
  ·exact .inl q
  ·exact .inr ⟨q,W.cellsFrom_some _ _ _ (.inl q)⟩
 refine codeAny_call_function hr.depth (KX _ _ lk) rfl S.co S.gen rfl (W.codeRec_of KX hcd) (hb _ _ _ _ ?_)
 refine wpAny_newFunctionEnv_cells S.kind hkind λenv he s1 x=>?_
 subst he;refine⟨lim.keeps x.toInCall.keep,codeAny_func ?_⟩
 obtain⟨t,ht,hq⟩:=hbody A outer s H vs Q E (hr.deeper _) hsp
 have I:Inv (hV CX P w K mg base N qual scope f cdv A outer s H E) [] (eL N vs) H s1:=pJ S hr.hd e0 hl r x
 refine wpAny_mono (ht [] s1 (eL N vs) H _ I hq) (λfl s' hs=>?_) λe s' hs=>hs
 have fin: ∀ {σ':St} {H':Hp} {v:V} {u:Value},Inv (hV CX P w K mg base N qual scope f cdv A outer s H E) [] σ' H' s'->RelV v u->Q v H'->CE outer P w H s Q u s':=
  λ{σ' H' v u} J rv q=>⟨v,H',J.os,J.bare,J.base,J.hok,rv,q⟩
 cases fl with
 |ret u=>
  obtain⟨v,σ',H',J,rv,q⟩:=hs
  exact fin J rv q
 |next=>
  obtain⟨σ',H',J,q⟩:=hs
  exact fin (v:=V.non) (u:=Value.none) J rfl q
 |brk=>
  obtain⟨_,_,_,q⟩:=hs
  exact False.elim q
 |cont=>
  obtain⟨_,_,_,q⟩:=hs
  exact False.elim q
section
variable {X:Cx}{x:Str}{p pos:Pos}{e:Expr}{es:List Expr}{t:TA}{id T:String}{r:List V->Hp->VK->Prop}
def xJ(r:List V->Hp->VK->Prop)(t:TA):TE:=λσ H Q=>t σ H λvs H1=>r vs H1 Q
theorem mn(hc:dC X (.builtin id) r)(hg:Gl X x)(hm:X.mg x=none)(hv:bootBuiltins x=some (.builtin id))(ha:PA X (e::es) t)(hn:x≠"__name__":=by decide)(hdb:(x==("__debug__":Str))=false:=by decide)
 (he:starEach (e::es) X.env=(false,eval e X.env)::starEach es X.env:=by rfl) (hpl:(backTo pos (starEach es X.env)).any (·.1)=false:=by rfl):PE X (.Call (.Name x p) (e::es) [] pos) (xJ r t):=by
 intro aa s σ H Q I h;refine wpAny_Call_Name_kw (iY I hg hm hv ?_ hn hdb)
 exact PyProof.Rows.callWith_builtin1 (bY (ha pos aa s σ H _ I h) λus s1 ⟨vs,H1,I1,r1,q1⟩=>hc aa s1 σ H1 vs us Q I1 r1 q1) he hpl
theorem gU(hc:dC X (.type T) r)(hg:Gl X x)(hm:X.mg x=none)(hv:bootBuiltins x=some (.type T))(ha:PA X (e::es) t)(hn:x≠"__name__":=by decide)(hdb:(x==("__debug__":Str))=false:=by decide)
 (he:starEach (e::es) X.env=(false,eval e X.env)::starEach es X.env:=by rfl) (hpl:(backTo pos (starEach es X.env)).any (·.1)=false:=by rfl):PE X (.Call (.Name x p) (e::es) [] pos) (xJ r t):=by
 intro aa s σ H Q I h;refine wpAny_Call_Name_kw (iY I hg hm hv ?_ hn hdb)
 exact PyProof.Rows.callWith_type1 (bY (ha pos aa s σ H _ I h) λus s1 ⟨vs,H1,I1,r1,q1⟩=>hc aa s1 σ H1 vs us Q I1 r1 q1) he hpl
end
end L2
namespace HT
open PySem PyProof.Rows
end HT
namespace L2
open PySem PySem.Spec PyProof.Rows
def j4(n:Nat)(i:Int):Option Nat:=if 0<=i then(if i<n then some i.toNat else none) else if -(n:Int)<=i then some (i+n).toNat else none
def jp {α:Type}(xs:List α)(i:Int):Option α:=(j4 xs.length i).bind λj=>xs[j]?
theorem kJ {n:Nat}{i:Int}{j:Nat}(h:j4 n i=some j):seqIndex? i n=some j/\j<n/\ -(n:Int)<=i/\i<n:=by
 unfold j4 at h
 by_cases h0:0<=i
 ·rw[if_pos h0] at h
  by_cases h1:i<n
  ·rw[if_pos h1] at h
   have e:i.toNat=j:=Option.some.inj h
   exact⟨by rw[seqIndex_of h0 h1,e],by omega,by omega,h1⟩
  ·rw[if_neg h1] at h;cases h
 ·rw[if_neg h0] at h
  by_cases h1: -(n:Int)<=i
  ·rw[if_pos h1] at h
   have e:(i+n).toNat=j:=Option.some.inj h
   exact⟨by rw[seqIndex_neg (by omega) h1,e],by omega,h1,by omega⟩
  ·rw[if_neg h1] at h;cases h
theorem kB {α:Type}{xs:List α}{i:Int}{v:α}(h:jp xs i=some v): ∃j,seqIndex? i xs.length=some j/\xs[j]? =some v/\j<xs.length/\ -(xs.length:Int)<=i/\i<xs.length:=by
 unfold jp at h;cases e:j4 xs.length i with
 |none=>rw[e] at h;cases h
 |some j=>
  rw[e] at h;obtain⟨h1,h2,h3,h4⟩:=kJ e
  exact⟨j,h1,h,h2,h3,h4⟩
theorem sT {α:Type}{xs:List α}{j:Nat}{v:α}(h:xs[j]? =some v):jp xs (j:Int)=some v:=by
 have hj:j<xs.length:=(List.getElem?_eq_some_iff.mp h).1
 have e:j4 xs.length (j:Int)=some j:=by
  unfold j4;rw[if_pos (by omega),if_pos (by omega)];simp
 unfold jp;rw[e];exact h
def kl(b:Expr):Prop:= ∀o i,subscripted b false o i=operate [o,i] (getItem o i)
def IxR(X:Cx)(r:R2):Prop:=
 ∀(value slice:Expr) (aa:List (Addr×Obj)) (s:Shared) (σ:St) (H:Hp) (x y:V) (v u:Value) (Q:VK),Inv X aa σ H s->RelV x v->RelV y u->r x y H Q->
  subscripted slice false v u=operate [v,u] (getItem v u)->wpAny (model X.prog X.w) X.A (subscriptTail value slice v u) (EP X aa σ Q) X.xe s
def yJ(X:Cx)(id:String)(r:V->List V->Hp->VK->Prop):Prop:=
 ∀(aa:List (Addr×Obj)) (s:Shared) (σ:St) (H:Hp) (x:V) (xs:List V) (v:Value) (us:List Value) (Q:VK),Inv X aa σ H s->RelV x v->Vals xs us->r x xs H Q->
  wpAny (model X.prog X.w) X.A (call (.builtin id) (v::us)) (EP X aa σ Q) X.xe s
section
variable {X:Cx}{a b:Expr}{ta tb:TE}{pos:Pos}
theorem IxR.or {r r':R2}(h:IxR X r)(h':IxR X r'):IxR X (λx y H Q=>r x y H Q\/r' x y H Q):=by
 intro value slice aa s σ H x y v u Q I rx ry q hs;rcases q with q|q
 ·exact h value slice aa s σ H x y v u Q I rx ry q hs
 ·exact h' value slice aa s σ H x y v u Q I rx ry q hs
theorem uq {r:R2}(hr:IxR X r)(ha:PE X a ta)(hb:PE X b tb)(hs:kl b):PE X (.Subscript a b pos) (vX r ta tb):=by
 intro aa s σ H Q I h;exact Subscript_ (vn ha hb I h λv u s2 x y H2 I2 rx ry q=>hr a b aa s2 σ H2 x y v u Q I2 rx ry q (hs _ _))
def wq(K:W.Frag):R2:=λx y H Q=> ∃p xs i v,x=.ref p/\y=.int i/\SqL K H p xs/\jp xs i=some v/\Q v H
def v7(K:W.Frag):R2:=λx y H Q=> ∃p xs i v,x=.ref p/\y=.int i/\SqT K H p xs/\jp xs i=some v/\Q v H
def we:R2:=λx y H Q=> ∃z i c,x=.str z/\y=.int i/\z.length<=sizeLine/\jp z.cps.toList i=some c/\Q (.str ⟨#[c]⟩) H
theorem ix_list:IxR X (wq X.K):=by
 intro value slice aa s σ H x y v u Q I rx ry h hs;obtain⟨p,xs,i,z,rfl,rfl,hq,he,q⟩:=h
 cases rx
 obtain⟨t,rfl⟩:=ry
 obtain⟨its,r,pl,hz⟩:=I.list hq
 obtain⟨j,h1,h2,h3,h4,h5⟩:=kB he
 obtain⟨w,ew,rw'⟩:=r.get h2
 have hl:=r.length
 have hn:=fB
 have fin:EP X aa σ Q w s:=⟨z,H,I,rw',q⟩
 by_cases h0:0<=i
 ·have hj:i.toNat=j:=by
   rw[seqIndex_of h0 h5] at h1;exact Option.some.inj h1
  exact item_listR pl.isList h0 (by omega) (by rw[hj];simpa using ew) fin hs
 ·have hj:(i+(its.toArray.size:Int)).toNat=j:=by
   rw[seqIndex_neg (by omega) h4] at h1
   rw[List.size_toArray,<-hl];exact Option.some.inj h1
  exact subscriptTail_builtinR (x:=w) pl.isList.typeIs slot_list_getitem.lookup
   (wpAny_getItem_list_neg (Q:=λr s'=>r=w/\EP X aa σ Q r s') pl.isList (by omega) (by rw[List.size_toArray]<;>omega) (by omega) (by rw[hj];simpa using ew) ⟨rfl,fin⟩) hs
theorem ix_tup:IxR X (v7 X.K):=by
 intro value slice aa s σ H x y v u Q I rx ry h hs;obtain⟨p,xs,i,z,rfl,rfl,hq,he,q⟩:=h
 cases rx
 obtain⟨t,rfl⟩:=ry
 obtain⟨its,r,pl,hz⟩:=I.tuple hq
 obtain⟨j,h1,h2,h3,h4,h5⟩:=kB he
 obtain⟨w,ew,rw'⟩:=r.get h2
 have hl:=r.length
 have hn:=fB
 have fin:EP X aa σ Q w s:=⟨z,H,I,rw',q⟩
 exact subscriptTail_builtinR (x:=w) pl.typeIs slot_tuple_getitem.lookup
  (getItem_tuple (j:=j) (Q:=λr s'=>r=w/\EP X aa σ Q r s') pl (by omega) (by omega) (by rw[List.size_toArray,<-hl];exact h1) (by simpa using ew) ⟨rfl,fin⟩) hs
theorem uw:IxR X we:=by
 intro value slice aa s σ H x y v u Q I rx ry h hs;obtain⟨z,i,c,rfl,rfl,hz,he,q⟩:=h
 obtain⟨t,rfl⟩:=rx
 obtain⟨t',rfl⟩:=ry
 obtain⟨j,h1,h2,h3,h4,h5⟩:=kB he
 have hl:z.cps.toList.length=z.length:=by simp[Str.length]
 rw[hl] at h1 h4 h5;have hn:=fB
 exact tail_any (typeIs_str s z t) slot_str_getitem.lookup (getItem_str (c:=c) (by
  have e1:decide (i< -(2^63:Int))=false:=decide_eq_false (by omega)
  have e2:decide (i≥2^63)=false:=decide_eq_false (by omega)
  rw[e1,e2,Bool.or_false]) (by rw[h1];simpa using h2) ⟨.str ⟨#[c]⟩,H,I.tok _,⟨_,rfl⟩,q⟩) hs
def yt(K:W.Frag):R2:=λx y H Q=>wq K x y H Q\/v7 K x y H Q\/we x y H Q
theorem aF:IxR X (yt X.K):=ix_list.or (ix_tup.or uw)
theorem m5(its:List Value)(n j:Nat)(u:Value):Obj.mapSeq (·.setIfInBounds j u) {cls:=.type "list",data:=.seq its.toArray n}={cls:=.type "list",data:=.seq (its.set j u).toArray n}:=by
 simp[Obj.mapSeq]
theorem Inv.lst {aa:List (Addr×Obj)}{σ:St}{H:Hp}{s:Shared}{p:Addr}{xs:List V}(I:Inv X aa σ H s)(h:H p=some (.lst xs)):
 ∃(its:List Value) (n:Nat),Vals xs its/\s.heap.get? p=some {cls:=.type "list",data:=.seq its.toArray n}/\xs.length<=sizeLine:=by
 obtain⟨z,its,n,r,e⟩:=I.hok p _ h
 exact⟨its,n,r,e,z⟩
theorem Inv.lstUpd {aa:List (Addr×Obj)}{σ:St}{H:Hp}{s:Shared}{p:Addr}{xs ys:List V}{its its':List Value}{n n':Nat}{f:Obj->Obj}(I:Inv X aa σ H s)(h:H p=some (.lst xs))
 (ho:s.heap.get? p=some {cls:=.type "list",data:=.seq its.toArray n}) (hf:f {cls:=.type "list",data:=.seq its.toArray n}={cls:=.type "list",data:=.seq its'.toArray n'}) (r:Vals ys its') (hz:ys.length<=sizeLine) (t:Nat):
 Inv X aa σ (aV H p (.lst ys)) {s with heap:=s.heap.update p f,toks:=t}:=by
 have e:(s.heap.update p f).get? p=some {cls:=.type "list",data:=.seq its'.toArray n'}:=by
  rw[Heap.get?_update_self f ho (by rw[hf]<;>rfl),hf]
 refine I.write (x:=p) (e:=p) (by rw[h];trivial) (.inl rfl) (λb u hb q=>(Heap.get?_update_other _ _ (Ne.symm hb)).trans q) ⟨_,e⟩ ?_
 exact⟨hz,its',n',r,e⟩
def wx:V->V->V->Hp->(Hp->Prop)->Prop:=λo i v H Q=> ∃p xs k j,o=.ref p/\i=.int k/\H p=some (.lst xs)/\j4 xs.length k=some j/\Q (aV H p (.lst (xs.set j v)))
theorem mq:sQ X wx:=by
 intro aa s σ H o i v ov iv u Q I ro ri rv h;obtain⟨p,xs,k,j,rfl,rfl,hp,hj,q⟩:=h
 cases ro
 obtain⟨t,rfl⟩:=ri
 obtain⟨its,n,r,ho,hz⟩:=I.lst hp
 obtain⟨h1,h2,h3,h4⟩:=kJ hj
 have hl:=r.length
 have hn:=fB
 have I':Inv X aa σ (aV H p (.lst (xs.set j v))) {s with heap:=s.heap.update p (Obj.mapSeq (·.setIfInBounds j u))}:=
  I.lstUpd hp ho (m5 its n j u) (r.set rv j) (by rw[List.length_set];exact hz) s.toks
 by_cases h0:0<=k
 ·have hk:k.toNat=j:=by
   rw[seqIndex_of h0 h4] at h1;exact Option.some.inj h1
  exact W.ki_setAt ho h0 (by omega) (by rw[List.size_toArray,<-hl];exact h4) (by rw[hk];exact⟨_,I',q⟩)
 ·have hk:(k+(its.toArray.size:Int)).toNat=j:=by
   rw[seqIndex_neg (by omega) h3] at h1
   rw[List.size_toArray,<-hl];exact Option.some.inj h1
  exact W.ki_setBack ho (by omega) (by rw[List.size_toArray,<-hl];exact h3) (by omega) (by rw[hk];exact⟨_,I',q⟩)
theorem bh:dC X (.builtin "len") (λxs H Q=> ∃p ys,xs=[.ref p]/\(SqL X.K H p ys\/SqT X.K H p ys)/\Q (.int ys.length) H):=by
 intro aa s σ H xs us Q I r h;obtain⟨p,ys,rfl,hq,q⟩:=h
 obtain⟨u,rfl,rx⟩:=gF r
 cases rx
 have hn:=fB
 rcases hq with hq|hq
 ·obtain⟨its,r',pl,hz⟩:=I.list hq
  have hlen:=r'.length
  exact Calls.call_len_list pl.isList (by simp only[List.size_toArray]<;>omega) ⟨.int ys.length,H,I.tok _,⟨s.toks+1,by rw[List.size_toArray,hlen]⟩,q⟩
 ·obtain⟨its,r',pl,hz⟩:=I.tuple hq
  have hlen:=r'.length
  exact len_tuple pl (by simp only[List.size_toArray]<;>omega) ⟨.int ys.length,H,I.tok _,⟨s.toks+1,by rw[List.size_toArray,hlen]⟩,q⟩
theorem bF:dC X (.type "tuple") (λxs H Q=> ∃p ys,xs=[.ref p]/\((SqL X.K H p ys/\ ∀l,H l=none->Q (.ref l) (aV H l (.tup ys)))\/(SqT X.K H p ys/\Q (.ref p) H))):=by
 intro aa s σ H xs us Q I r h;obtain⟨p,ys,rfl,h⟩:=h
 obtain⟨u,rfl,rx⟩:=gF r
 cases rx
 rcases h with⟨hq,q⟩|⟨hq,q⟩
 ·obtain⟨its,r',pl,hz⟩:=I.list hq
  have hlen:=r'.length
  refine call_tuple_list pl.isList (λh' kp=>?_) (by simp only[List.size_toArray]<;>omega)
  have I1:Inv X aa σ H {s with heap:=h'}:=I.kept (t':=s.toks) kp
  have I2:Inv X aa σ (aV H h'.objs.size (.tup ys)) {s with heap:=h'.push {cls:=.type "tuple",data:=.seq its.toArray}}:=
   I1.laid (t':=s.toks) (λb o e=>Heap.get?_push_of_some _ e) (Nat.le_refl _) (show ObjOk X.prog X.w _ _ _ (.tup ys) from⟨hz,its,r',IsTup.new _ _,_,Heap.get?_push_size _ rfl,rfl⟩)
  exact⟨.ref h'.objs.size,_,I2,rfl,q _ (I1.hok.fresh (Nat.le_refl _))⟩
 ·obtain⟨its,r',pl,hz⟩:=I.tuple hq
  exact call_tuple_same pl ⟨.ref p,H,I,rfl,q⟩
def yv(K:W.Frag)(T:String)(x:V)(H:Hp):Prop:=match x with
 | .str _=>T="str"
 | .int _=>T="int"
 | .ref p=>(T="list"/\ ∃xs,SqL K H p xs)\/(T="tuple"/\ ∃xs,SqT K H p xs)\/
    (T="dict"/\((∃kvs,H p=some (.dK kvs))\/ ∃kvs,H p=some (.dT kvs)))\/(T="set"/\ ∃S n,H p=some (.set S n))\/(T="set"/\ ∃xs,H p=some (.tst xs))
 |_=>False
theorem vh {aa:List (Addr×Obj)}{σ:St}{H:Hp}{s:Shared}{T:String}{x:V}{v:Value}(I:Inv X aa σ H s)(r:RelV x v)(ty:yv X.K T x H):
 s.TypeIs v T/\ ∀a,v=.ref a-> ∃ob,s.heap.get? a=some ob/\ob.dict=none:=by
 cases x with
 |str z=>
  obtain⟨t,rfl⟩:=r
  cases (show T="str" from ty)
  exact⟨typeIs_str s z t,λ_ e=>nomatch e⟩
 |int i=>
  obtain⟨t,rfl⟩:=r
  cases (show T="int" from ty)
  exact⟨typeIs_int s i t,λ_ e=>nomatch e⟩
 |ref p=>
  cases r
  rcases ty with⟨rfl,xs,hq⟩|⟨rfl,xs,hq⟩|⟨rfl,hk⟩|⟨rfl,S,n,hk⟩|⟨rfl,xs,hk⟩
  ·obtain⟨its,_,pl,_⟩:=I.list hq
   refine⟨pl.isList.typeIs,λa e=>?_⟩
   cases e
   obtain⟨o,n,e,c,hd,_⟩:=pl
   exact⟨o,e,hd⟩
  ·obtain⟨⟨ob,ho,hc⟩,o2,h2,hd⟩:=I.tupleN hq
   refine⟨⟨ob,ho,hc⟩,λa e=>?_⟩
   cases e
   exact⟨o2,h2,hd⟩
  ·have z: ∃o,s.heap.get? p=some o/\o.ExactDict:=by
    rcases hk with⟨kvs,hk⟩|⟨kvs,hk⟩
    ·obtain⟨_,_,_,_,o,_,_,e,ex,_⟩:=I.hok p _ hk
     exact⟨o,e,ex⟩
    ·obtain⟨_,_,_,_,o,_,_,e,ex,_⟩:=I.hok p _ hk
     exact⟨o,e,ex⟩
   obtain⟨o,e,ex⟩:=z
   refine⟨⟨o,e,ex.1⟩,λa e2=>?_⟩
   cases e2
   exact⟨o,e,ex.2.1⟩
  ·obtain⟨o,_,_,_,e,ex,_⟩:=I.hok p _ hk
   refine⟨⟨o,e,ex.1⟩,λa e2=>?_⟩
   cases e2
   exact⟨o,e,ex.2.1⟩
  ·obtain⟨o,_,_,_,e,ex⟩:=I.hok p _ hk
   refine⟨⟨o,e,ex.ex.1⟩,λa e2=>?_⟩
   cases e2
   exact⟨o,e,ex.ex.2.1⟩
 |_=>exact False.elim ty
def yF(K:W.Frag)(T:String)(r:V->List V->Hp->VK->Prop)(to:TE)(t:TA):TE:=λσ H Q=>to σ H λx H1=>yv K T x H1/\t σ H1 λxs H2=>r x xs H2 Q
variable {o e:Expr}{es:List Expr}{to:TE}{t:TA}{name:Str}{apos cpos:Pos}{T id:String}{r:V->List V->Hp->VK->Prop}
theorem wI(pa:PlainAttrs T)(slot:Slot T name id)(hty:typeOf (.builtin id)=pure (.type "method_descriptor"))(hm:yJ X id r)(ho:PE X o to)(ha:PA X (e::es) t)
 (hbase:attributeBase o name X.env (eval o X.env)=eval o X.env:=by rfl)
 (hfew:((backTo cpos (starEach (e::es) X.env)).all (λx=> !x.1)&&(backToKw cpos (keywordEach [] X.env)).all (λx=>x.1.isSome)
   &&decide ((e::es).length+([]:List Keyword).length+(if([]:List Keyword).isEmpty then 0 else 1)<30))=true:=by rfl)
 (hline:(apos.endLine==cpos.line)=true:=by rfl) (hs:starEach (e::es) X.env=(false,eval e X.env)::starEach es X.env:=by rfl) (hplain:(backTo cpos (starEach es X.env)).any (·.1)=false:=by rfl):
 PE X (.Call (.Attribute o name apos) (e::es) [] cpos) (yF X.K T r to t):=by
 intro aa s σ H Q I h;refine wpAny_Call_method_late hbase hfew hline rfl (bY (ho aa s σ H _ I h) λv s1 hq_=>?_)
 obtain⟨x,H1,I1,r1,ty,q1⟩:=hq_
 obtain⟨h1,h2⟩:=vh I1 r1 ty
 refine⟨T,id,pa,slot,hty,h1,h2,?_⟩
 have hA:=ha cpos aa s1 σ H1 _ I1 q1
 rw[hs] at hA⊢;refine Calls.callWith_builtin (by show(false||(backTo cpos (starEach es X.env)).any (·.1))=false;rw[hplain]<;>rfl) (Calls.evalArgs_plain ?_)
 exact bY hA λus s2 ⟨vs,H2,I2,r2,q2⟩=>hm aa s2 σ H2 x vs v us Q I2 r1 r2 q2
end
def xl(X:Cx)(id:String)(r:V->List V->Hp->VK->Prop):Prop:=
 ∀(aa:List (Addr×Obj)) (s:Shared) (σ:St) (H:Hp) (x:V) (xs:List V) (v:Value) (us:List Value) (Q:VK),Inv X aa σ H s->RelV x v->Vals xs us->r x xs H Q->
  wpAny (model X.prog X.w) X.A (call (.builtin id) (v::us)) (EP X aa σ Q) X.xe s
theorem Vals.one: ∀ {x:V} {us:List Value},Vals [x] us-> ∃u,us=[u]/\RelV x u
 |_,_,.cons r .nil=>⟨_,rfl,r⟩
theorem Vals.eraseIdx: ∀ {xs:List V} {us:List Value} (i:Nat),Vals xs us->Vals (xs.eraseIdx i) (us.eraseIdx i)
 |_,_,_,.nil=>.nil
 |_,_,0,.cons _ t=>t
 |_,_,i+1,.cons r t=>.cons r (Vals.eraseIdx i t)
theorem jK {α:Type}: ∀(l:List α) (i:Nat),(l.eraseIdx i).length<=l.length
 | [],_=>Nat.le_refl _
 |_::_,0=>Nat.le_succ _
 |_::r,i+1=>Nat.succ_le_succ (jK r i)
section
variable {X:Cx}{aa:List (Addr×Obj)}{σ:St}{H:Hp}{s:Shared}{l b:Addr}{xs ys zs:List V}
theorem Inv.lset {its its':List Value}{n:Nat}{f:Array Value->Array Value}{t':Nat}(I:Inv X aa σ H s)(hH:H l=some (.lst xs))
 (e:s.heap.get? l=some {cls:=.type "list",data:=.seq its.toArray n}) (hf:f its.toArray=its'.toArray) (hv:Vals ys its') (hz:ys.length<=sizeLine):
 Inv X aa σ (aV H l (.lst ys)) {s with heap:=s.heap.update l (Obj.mapSeq f),toks:=t'}:=by
 have q:=PySem.IsL.update e f
 rw[hf] at q;refine I.write (x:=l) (e:=l) (by rw[hH];exact trivial) (.inl rfl) (λb' u hb hu=>(Heap.get?_update_other s.heap (Obj.mapSeq f) (Ne.symm hb)).trans hu) ⟨_,q⟩ ?_
 exact⟨hz,its',_,hv,q⟩
theorem Inv.lstM(I:Inv X aa σ H s)(hH:H l=some (.lst xs)):xs.length<=sizeLine/\ ∃(its:List Value) (n:Nat),Vals xs its/\xs.length=its.length/\s.heap.get? l=some {cls:=.type "list",data:=.seq its.toArray n}:=by
 obtain⟨z,its,n,r,e⟩:=I.hok l _ hH
 exact⟨z,its,n,r,r.length,e⟩
end
section
variable {X:Cx}
def nS:V->List V->Hp->VK->Prop:=λx vs H Q=> ∃l xs y,x=.ref l/\vs=[y]/\H l=some (.lst xs)/\xs.length<sizeLine/\Q .non (aV H l (.lst (xs++[y])))
theorem jB:xl X "list.append" nS:=by
 intro aa s σ H x vs v us Q I rx rv h;obtain⟨l,xs,y,rfl,rfl,hH,hz,q⟩:=h
 cases rx
 obtain⟨u,rfl,ru⟩:=rv.one
 obtain⟨z,its,n,r,hl,e⟩:=I.lstM hH
 refine call_meets F.slot_list_append ⟨_,e,rfl⟩ F.entry_list_append (F.args_list_append_2 _ _) (PySem.list_append l its.toArray n u (by rw[List.size_toArray];omega)) ⟨e,?_⟩
 refine⟨.non,_,I.lset (its':=its++[u]) hH e (by simp) (r.append (.cons ru .nil)) ?_,rfl,q⟩
 rw[List.length_append,List.length_singleton];omega
def p7:V->List V->Hp->VK->Prop:=λx vs H Q=> ∃l xs i k y,x=.ref l/\vs=[.int i]/\H l=some (.lst xs)/\ -(2^63)<=i/\i<2^63/\seqIndex? i xs.length=some k/\xs[k]? =some y/\Q y (aV H l (.lst (xs.eraseIdx k)))
theorem rl:xl X "list.pop" p7:=by
 intro aa s σ H x vs v us Q I rx rv h;obtain⟨l,xs,i,k,y,rfl,rfl,hH,h1,h2,hk,hy,q⟩:=h
 cases rx
 obtain⟨u,rfl,ru⟩:=rv.one
 obtain⟨t,rfl⟩:=ru
 obtain⟨z,its,n,r,hl,e⟩:=I.lstM hH
 obtain⟨w,hw,rw'⟩:=r.get hy
 refine call_meets F.slot_list_pop ⟨_,e,rfl⟩ F.entry_list_pop (F.args_list_pop_2 _ _)
  (MeetsSeq.list_pop_at l its.toArray n i t k w (fitsIndex_both h1 h2) (by rw[List.size_toArray,<-hl];exact hk) (by rw[<-Array.getElem?_toList];exact hw) (by rw[List.size_toArray];omega)) ⟨e,?_⟩
 refine⟨y,_,I.lset (its':=its.eraseIdx k) hH e ?_ (r.eraseIdx k) ?_,rw',q⟩
 ·show its.toArray.eraseIdxIfInBounds k=(its.eraseIdx k).toArray
  rw[List.eraseIdxIfInBounds_toArray]
 ·have:=jK xs k
  omega
end
end L2
namespace Att
open PySem PySem.W PySem.Calls PyProof.Rows
theorem ig {P:Params}{h:Heap}: ∀(ns:List Int) (vs:List Value),WellAll P h vs (ns.map WData.int)->IntsAre vs ns:=by
 intro ns
 induction ns with
 |nil=>
  intro vs w;rw[List.map_nil] at w;cases w
  exact .nil
 |cons n ns ih=>
  intro vs w;rw[List.map_cons] at w;cases w with
  |cons a b=>
   cases a
   exact .cons _ _ (ih _ b)
theorem pE {l:OpenLaw}{n:Nat}(hn:l.most=some n){P:Params}{h:Heap}{args:List WData}{vals:List Value}
 (hpre:l.row.toRowW.claim.pre args=true) (hwl:WellAll P h vals args):
 ∃a vs ns,vals=[Value.ref a]/\args=[WData.list (ns.map WData.int)]/\h.get? a=some {cls:=.type "list",data:=.seq vs.toArray}/\IntsAre vs ns/\ns.length<=n:=by
 have hsh:WShape.hasAll [] args [.list .int]=true:=(pre_splitW hpre).1
 have hc:l.pre.holds [] {args:=args}=true:=(pre_splitW hpre).2
 obtain⟨d,r,rfl,h1,h2⟩:=hasAllW_cons hsh
 obtain rfl:=hasAllW_nil h2
 obtain⟨xs,rfl,h3⟩:=hasW_list h1
 obtain⟨ns,rfl⟩:=items_int h3
 have hlen:ns.length<=n:=by
  unfold OpenLaw.pre at hc;have h4:(WTm.not (.lt (.lit (.int (n:Int))) (.len (.arg 0)))).holds [] {args:=[.list (ns.map .int)]}=true:=by
   have h4:=(holds_andW hc).1
   rw[hn] at h4;exact h4
  have h5:=condW_of h4 (w_not (w_lt w_lit (w_len_list (w_arg rfl))))
  rw[List.length_map] at h5;refine Nat.le_of_not_lt λq=>?_
  have q':(n:Int)<((ns.length:Nat):Int):=by omega
  first
   |(rw[decide_eq_true q'] at h5;exact absurd h5 (by decide))
   |(simp at h5;omega)
 cases hwl with
 |cons w1 w2=>
  cases w2
  cases w1 with
  |list ho hall=>exact⟨_,_,ns,rfl,rfl,ho,ig ns _ hall,hlen⟩
theorem oQ(l:OpenLaw)(args:List WData):l.row.toRowW.claim.post args (.bool true) args=true:=
 postW_of (r:=l.row.toRowW) (X:=(true==true))
  (show WShape.has [] (.bool true) .bool=true by first|rfl|decide|simp[WShape.has,WShape.arms,WShape.armsAll])
  (show(WTm.eq .res (.lit (.bool true))).value [] {args:=args,res:=some (.bool true),after:=args}=some (.bool (true==true)) from w_eq_bool (w_res rfl) w_lit) rfl
theorem attach_call {l:OpenLaw}{n:Nat}{q:Program}{loose:List Str}{XP:(Str->Option Value)->Heap->Prop}{YP:World->Heap->Prop}{d:DefRec}
 (hn:l.most=some n) (hdf:d.params.defaults=[])
 (call: ∀(w:World) (s₀ s₁:Shared) (mg mb:Str->Option Value) (fa:Addr) (o:Obj) (pm cd doc:Value) (a:Addr) (vs:List Value) (ns:List Int),
   Ground q loose [] XP w s₀ mg mb s₁.heap->YP w s₁.heap->
   s₁.heap.get? fa=some o->o.data=.func (docDef d.name d.params d.body d.scope pm cd doc)->s₁.heap.CodeRec cd d.name->mg d.name=some (.ref fa)->
   s₁.heap.get? a=some {cls:=.type "list",data:=.seq vs.toArray}->IntsAre vs ns->ns.length<=n->s₁.gens= #[]->
   codeAny (model l.prog w) callerA (.call (.ref fa) ⟨[.ref a],[]⟩) (λr s'=>r=.ok (.ret (.bool true))/\OldK s₁.heap s'.heap/\s'.os=s₁.os/\AllBare s'.gens) s₁):
 WalkO q loose XP YP l.row.toRowW d [] (λf vs=>PySem.call f vs):=by
 intro w s₀ s₁ mg mb G Y fa o pm cd doc dV kV ho hd hcd hD hmg hg args vals as hpre hlay hrd hwl hlo;obtain rfl:dV=.none:=Dflts.none hD hdf
 obtain rfl:kV=.none:=Dflts.noKw hD
 obtain⟨a,vs,ns,rfl,rfl,hobj,hints,hlen⟩:=pE hn hpre hwl
 refine enter_call (codeAny_mono (call w s₀ s₁ mg mb fa o pm cd doc a vs ns G Y ho (fd_plain hd) hcd hmg hobj hints hlen hg) λr s' hq=>?_)
 obtain⟨rfl,h2,h3,h4⟩:=hq
 exact⟨.inl ⟨.bool true,.bool true,[],rfl,λ_=>rfl,.bool true,oQ l _,λ_=>⟨List.Pairwise.nil,λ_ hm=>(nomatch hm)⟩⟩,h2,h3,h4⟩
end Att
namespace L2
open PySem PySem.Spec PyProof.Rows
theorem jA: ∀ {vs:List Value} {ns:List Int},IntsAre vs ns->Vals (ns.map V.int) vs
 |_,_,.nil=>.nil
 |_,_,.cons n t h=>.cons ⟨t,rfl⟩ (jA h)
def u7(H:Hp):Prop:= ∀b,H b=none\/ ∃o xs,H b=some (.frz o (.lst xs))
theorem pW {P:Program}{w:World}{K:W.Frag}{mg mb:Str->Option Value}{CX:nV}{k:Nat}{fa a:Addr}{fd:FuncData}{x:Str}{sp:Sp}{s₁:Shared}{vs:List Value}{ns:List Int}
 (KX:K.In s₁.heap) (hns:s₁.heap.Ns mainGlobals mg) (hb:s₁.heap.Ns builtinsNs mb) (hbb: ∀x:Str,x≠"__name__"->mb x=bootBuiltins x) (hlim:s₁.heap.NoLimit) (hg:s₁.gens= #[])
 (ha:s₁.heap.get? a=some {cls:=.type "list",data:=.seq vs.toArray}) (hi:IntsAre vs ns) (hl:ns.length<=sizeLine) (hr:Room k callerA)
 (F: ∀base:Heap,K.In base->base.Ns mainGlobals mg->FnOk P w K mg base CX k fa fd [x] sp) (hbind: ∀(s:Shared) (u:Value),BindsTo s fd ⟨[u],[]⟩ [(x,u)])
 (hsp: ∀H:Hp,u7 H->SqL K H a (ns.map V.int)->sp [.ref a] H (λv _=>v=.bl true) λ_ _ _=>False)
 (hCX: ∀H e s',CX [] H s₁ (λ_ _ _=>False) e s'->False):
 codeAny (model P w) callerA (.call (.ref fa) ⟨[.ref a],[]⟩) (λr s'=>r=.ok (.ret (.bool true))/\OldK s₁.heap s'.heap/\s'.os=s₁.os/\AllBare s'.gens) s₁:=by
 have rv:=jA hi
 have lenV:=hi.length
 have core: ∀H:Hp,u7 H->SqL K H a (ns.map V.int)->HOk P w H s₁.heap->(∀b,H b≠none->b=a)->(H a≠none->K.lookup a=none)->
  codeAny (model P w) callerA (.call (.ref fa) ⟨[.ref a],[]⟩) (λr s'=>r=.ok (.ret (.bool true))/\OldK s₁.heap s'.heap/\s'.os=s₁.os/\AllBare s'.gens) s₁:=by
  intro H hO hS hok hA hK;have base_of: ∀ {b:Addr} {o:Obj},s₁.heap.get? b=some o->H b=none->(kZ s₁.heap H).get? b=some o:=λe n=>rW e n
  have noA: ∀ {b:Addr} {o:Obj} {es:Array DictEntry} {ep:Nat},s₁.heap.get? b=some o->o.data=.dict es ep->H b=none:=λ{b o es ep} e d=>by
   cases q:H b with
   |none=>rfl
   |some u=>
    have e':b=a:=hA b (by rw[q];simp)
    subst e';rw[ha] at e;cases e;have d':Data.seq vs.toArray _=Data.dict es ep:=d
    cases d'
  have nsK: ∀ {b:Addr} {m:Str->Option Value},s₁.heap.Ns b m->(kZ s₁.heap H).Ns b m:=λ{b m} ⟨o,es,ep,e,d,r⟩=>⟨o,es,ep,base_of e (noA e d),d,r⟩
  have hKb:K.In (kZ s₁.heap H):=λb o e=>base_of (KX b o e) (by
   cases q:H b with
   |none=>rfl
   |some u=>
    have e':b=a:=hA b (by rw[q];simp)
    subst e';rw[hK (by rw[q];simp)] at e;cases e)
  have hM:Mod K mg (kZ s₁.heap H):=⟨hKb,nsK hns,⟨mb,nsK hb,hbb⟩,let⟨mc,h1,h2⟩:=hlim;⟨mc,nsK h1,h2⟩⟩
  have e0:Env0 P w K mg (kZ s₁.heap H) callerA [] s₁ H:=⟨rfl,hM,λb o e=>tZ e,Nat.le_of_eq (oF _ _),trivial,λb hb=>absurd (show b∈([]:List Addr) from hb) (by simp),hok,.of_eq hg⟩
  refine codeAny_mono ((F _ hKb (nsK hns)).run callerA [] s₁ H ⟨[.ref a],[]⟩ [.ref a] [.ref a] _ _ hr e0 (hbind s₁ (.ref a)) (.cons rfl .nil) (hsp H hO hS)) λr s' h=>?_
  cases r with
  |error e=>exact(hCX H e s' h).elim
  |ok fl=>
   cases fl with
   |next=>exact False.elim h
   |brk=>exact False.elim h
   |cont=>exact False.elim h
   |ret u=>
    obtain⟨v,H',os,bare,un,hok',r',q⟩:=h
    have q':v=.bl true:=q
    subst q';obtain rfl:u=Value.bool true:=r'
    refine⟨rfl,OldK.of_keep λb o e=>?_,os,bare⟩
    cases q:H b with
    |none=>exact un.keep b o e q (by intro z;exact absurd (show b∈([]:List Addr) from z) (by simp)) (by simp)
    |some u=>
     rcases hO b with z|⟨ob,xs,z⟩
     ·rw[q] at z;cases z
     ·have z2:=un.frzs b ob _ z
      obtain⟨e1,_⟩:=hok b _ z
      obtain⟨e2,_⟩:=hok' b _ z2
      rw[e] at e1;cases e1;exact e2
 cases hk:K.lookup a with
 |some o=>
  have e:=KX a o hk
  rw[ha] at e;cases e
  refine core (λ_=>none) (λ_=>.inl rfl) (.inr ⟨_,vs.toArray,_,hk,rfl,rfl,rfl,by rw[List.size_toArray,lenV];exact hl,by simpa using rv⟩) (λb u z=>by have z':(none:Option HO)=some u:=z;cases z') (λb z=>absurd rfl z) λz=>absurd rfl z
 |none=>
  refine core (λb=>if b=a then some (.frz {cls:=.type "list",data:=.seq vs.toArray} (.lst (ns.map V.int))) else none) (λb=>?_) (.inl (.inr ⟨{cls:=.type "list",data:=.seq vs.toArray},if_pos rfl⟩)) (λb u z=>?_) (λb z=>?_) λ_=>hk
  ·by_cases hb:b=a
   ·exact .inr ⟨_,_,if_pos hb⟩
   ·exact .inl (if_neg hb)
  ·by_cases hb:b=a
   ·have z':=(if_pos hb).symm.trans z
    cases z'
    subst hb;exact⟨ha,by rw[List.length_map];exact hl,vs,_,rv,ha⟩
   ·have z':=(if_neg hb).symm.trans z
    cases z'
  ·by_cases hb:b=a
   ·exact hb
   ·exact absurd (if_neg hb) z
theorem walk_of {l:W.OpenLaw}{n k:Nat}{q:Program}{loose:List Str}{XP:(Str->Option Value)->Heap->Prop}{YP:World->Heap->Prop}{d:DefRec}{K:Params->W.Frag}{CX:World->nV}{sp:World->Sp}{x:Str}
 (hn:l.most=some n) (hn2:n<=sizeLine) (hdf:d.params.defaults=[]) (hr:Room k callerA)
 (hY: ∀(w:World) (h:Heap),YP w h->(K w.params).In h)
 (F: ∀(w:World) (mg:Str->Option Value) (fa:Addr) (h:Heap),(K w.params).In h->h.Ns mainGlobals mg->mg d.name=some (.ref fa)->
   ∃fd:FuncData,(∀(s:Shared) (u:Value),BindsTo s fd ⟨[u],[]⟩ [(x,u)])/\
    ∀base:Heap,(K w.params).In base->base.Ns mainGlobals mg->FnOk l.prog w (K w.params) mg base (CX w) k fa fd [x] (sp w))
 (hsp: ∀(w:World) (H:Hp) (a:Addr) (ns:List Int),ns.length<=n->u7 H->SqL (K w.params) H a (ns.map V.int)->sp w [.ref a] H (λv _=>v=.bl true) λ_ _ _=>False)
 (hCX: ∀(w:World) (H:Hp) (s:Shared) (e:Value) (s':Shared),CX w [] H s (λ_ _ _=>False) e s'->False):
 W.WalkO q loose XP YP l.row.toRowW d [] (λf vs=>PySem.call f vs):=by
 refine Att.attach_call hn hdf λw s₀ s₁ mg mb fa o pm cd doc a vs ns G Y ho hd hcd hmg hobj hints hlen hg=>?_
 have KX:=hY w _ Y
 obtain⟨fd,hb,hF⟩:=F w mg fa _ KX G.T.g hmg
 exact pW KX G.T.g G.T.b G.T.builtins G.T.nolimit hg hobj hints (Nat.le_trans hlen hn2) hr hF hb (λH hO hS=>hsp w H a ns hlen hO hS) λH e s'=>hCX w H s₁ e s'
def aX(s:Stmt):Arguments:=match s with
 | .FunctionDef _ a _ _ _ _ _ _ _ _=>a
 |_=>{posonlyargs:=[],args:=[],vararg:=none,kwonlyargs:=[],kw_defaults:=[],kwarg:=none,defaults:=[]}
def aJ(s:Stmt):List Stmt:=match s with
 | .FunctionDef _ _ b _ _ _ _ _ _ _=>b
 |_=>[]
def am(s:Stmt):Scope:=match s with
 | .FunctionDef _ _ _ _ _ _ sc _ _ _=>sc
 |_=>{kind:=.function,names:=[],isGenerator:=false,isCoroutine:=false}
abbrev lg:nV:=λ_ _ _ _ _ _=>False
abbrev E0:XK:=λ_ _ _=>False
theorem ud {X:Cx}:mK lg X E0:=λ_ _ _ _ _ _ _ h=>h.elim
structure Fun(K:W.Frag)(x qual:Str)(st:Stmt)(f:Addr)(fd:FuncData):Prop where
 ex: ∃(oc:Value) (od:Option Addr) (kV doc pm:Value) (an:Option Addr) (cdv ct:Value) (osl:Array (Option Value)),
  fd=W.fnOf x qual (aX st) (aJ st) (am st) .none kV doc pm an cdv ct/\K.lookup f=some ⟨oc,od,.func fd,osl⟩/\W.codeIn K cdv qual=true
 kp:W.keepIn K (.ref f)=true
section
variable {P:Program}{w:World}{K:W.Frag}{mg:Str->Option Value}{base:Heap}
theorem Fun.ok {x qual:Str}{st:Stmt}{f:Addr}{fd:FuncData}{N ps:List Str}{k:Nat}{sp:Sp}(F:Fun K x qual st f fd)(S:FnScope N ps (am st))(len: ∀vs H Q E,sp vs H Q E->vs.length=ps.length)
 (hbody: ∀(cdv:Value) (A:Around) (outer:List Env) (s:Shared) (H:Hp) (vs:List V) (Q:VK) (E:XK),Room k (A.deeper (envOfC qual (am st) s.heap.objs.size f cdv))->sp vs H Q E->
   ∃t,PSs (hV lg P w K mg base N qual (am st) f cdv A outer s H E).nox (aJ st) t/\t {nx:=λ_ H'=>Q .non H',rt:=Q} (eL N vs) H):FnOk P w K mg base lg (k+1) f fd ps sp:=by
 obtain⟨oc,od,kV,doc,pm,an,cdv,ct,osl,rfl,lk,hcd⟩:=F.ex
 refine t9 lk hcd S len λA outer s H vs Q E hr hsp=>?_
 obtain⟨t,h,q⟩:=hbody cdv A outer s H vs Q E hr hsp
 exact⟨t,h.nox,q⟩
theorem Fun.binds {x qual:Str}{st:Stmt}{f:Addr}{fd:FuncData}{ps:List Str}(F:Fun K x qual st f fd)
 (h: ∀(kV doc pm:Value) (an:Option Addr) (cdv ct:Value) (us:List Value),us.length=ps.length->bindArgs (W.fnOf x qual (aX st) (aJ st) (am st) .none kV doc pm an cdv ct) ⟨us,[]⟩=pure (ps.zip us)):Binds K fd ps []:=by
 obtain⟨oc,od,kV,doc,pm,an,cdv,ct,osl,rfl,lk,hcd⟩:=F.ex
 exact .all (h kV doc pm an cdv ct)
theorem cr {x qual:Str}{st:Stmt}{f:Addr}{oc:Value}{od an:Option Addr}{osl:Array (Option Value)}{kV doc pm cdv ct:Value}(l:K.lookup f=some ⟨oc,od,.func (W.fnOf x qual (aX st) (aJ st) (am st) .none kV doc pm an cdv ct),osl⟩)
 (c:W.codeIn K cdv qual=true) (k:W.keepIn K (.ref f)=true):Fun K x qual st f (W.fnOf x qual (aX st) (aJ st) (am st) .none kV doc pm an cdv ct):=⟨⟨oc,od,kV,doc,pm,an,cdv,ct,osl,rfl,l,c⟩,k⟩
end
theorem lh {A:Around}{k:Nat}(hr:Room k A):A.units+1<cLine:=Nat.lt_of_le_of_lt (Nat.add_le_add_left (by decide:1<=64) _) hr.units
theorem gQ {n:Nat}(h:n<=1000):n<sizeLine:=Nat.lt_of_le_of_lt h (by decide)
section
variable {X:Cx}
theorem pv(i:Nat){x:Str}{pos:Pos}(hN:X.N[i]? =some x:=by rfl)(hv:oW X.env.scope x:=by first|exact Or.inl rfl|exact Or.inr (Or.inl rfl)|exact Or.inr (Or.inr rfl))(hd:(x==("__debug__":Str))=false:=by decide)
 (hcd:(x==("__classdict__":Str))=false:=by decide):PE X (.Name x pos) (wO i):=vH hN hv hd hcd
end
theorem m8 {A B:Prop}(h:B):if false=true then A else B:=by
 rw[if_neg Bool.false_ne_true];exact h
theorem mM {A B:Prop}(h:A):if true=true then A else B:=by
 rw[if_pos rfl];exact h
def Same(H H':Hp):Prop:= ∀b o,H b=some o->H' b=some o
theorem Same.refl(H:Hp):Same H H:=λ_ _ h=>h
theorem Same.trans {H H1 H2:Hp}(a:Same H H1)(b:Same H1 H2):Same H H2:=λc o h=>b c o (a c o h)
theorem Same.free {H H':Hp}(e:Same H H'){l:Addr}(h:H' l=Option.none):H l=Option.none:=by
 cases q:H l with
 |none=>rfl
 |some o=>
  rw[e l o q] at h;cases h
theorem Same.seq {K:W.Frag}{H H':Hp}{a:Addr}{xs:List V}(e:Same H H')(h:SqL K H a xs):SqL K H' a xs:=by
 rcases h with(h|⟨o,h⟩)|h
 ·exact .inl (.inl (e _ _ h))
 ·exact .inl (.inr ⟨o,e _ _ h⟩)
 ·exact .inr h
inductive D where
 |non|bl (b:Bool)|int (i:Int)|str (x:Str)|tup (ds:List D)|lst (ds:List D)
 |scr (ds:List D)
def SqR(K:W.Frag)(H:Hp)(a:Addr)(xs:List V):Prop:=
 (∃o,H a=some (.frz o (.lst xs)))\/
   ∃(o:Obj) (its:Array Value) (n:Nat),K.lookup a=some o/\o.cls=.type "list"/\o.dict=none/\o.data=.seq its n/\its.size<=sizeLine/\Vals xs its.toList
theorem SqR.seq {K:W.Frag}{H:Hp}{a:Addr}{xs:List V}(h:SqR K H a xs):SqL K H a xs:=h.elim (λh=>.inl (.inr h)) .inr
theorem Same.seqR {K:W.Frag}{H H':Hp}{a:Addr}{xs:List V}(e:Same H H')(h:SqR K H a xs):SqR K H' a xs:=h.elim (λ⟨o,h⟩=>.inl ⟨o,e _ _ h⟩) .inr
mutual
inductive Rep (K:W.Frag) (F:Hp):V->D->Prop
 |non:Rep K F .non .non
 |bl {b:Bool}:Rep K F (.bl b) (.bl b)
 |int {i:Int}:Rep K F (.int i) (.int i)
 |str {x:Str}:Rep K F (.str x) (.str x)
 |tup {a:Addr} {xs:List V} {ds:List D}:SqT K F a xs->Reps K F xs ds->Rep K F (.ref a) (.tup ds)
 |lst {a:Addr} {xs:List V} {ds:List D}:F a=some (.lst xs)->Reps K F xs ds->Rep K F (.ref a) (.lst ds)
 |scr {a:Addr} {xs:List V} {ds:List D}:SqR K F a xs->Reps K F xs ds->Rep K F (.ref a) (.scr ds)
inductive Reps (K:W.Frag) (F:Hp):List V->List D->Prop
 |nil:Reps K F [] []
 |cons {x:V} {d:D} {xs:List V} {ds:List D}:Rep K F x d->Reps K F xs ds->Reps K F (x::xs) (d::ds)
end
theorem Same.seqT {K:W.Frag}{H H':Hp}{a:Addr}{xs:List V}(e:Same H H')(h:SqT K H a xs):SqT K H' a xs:=by
 rcases h with(h|⟨o,h⟩)|h
 ·exact .inl (.inl (e _ _ h))
 ·exact .inl (.inr ⟨o,e _ _ h⟩)
 ·exact .inr h
mutual
theorem Rep.mono {K:W.Frag}{F G:Hp}(s:Same F G): ∀ {v:V} {d:D},Rep K F v d->Rep K G v d
 |_,_,.non=>.non
 |_,_,.bl=>.bl
 |_,_,.int=>.int
 |_,_,.str=>.str
 |_,_,.tup h r=>.tup (Same.seqT s h) (Reps.mono s r)
 |_,_,.lst h r=>.lst (s _ _ h) (Reps.mono s r)
 |_,_,.scr h r=>.scr (Same.seqR s h) (Reps.mono s r)
theorem Reps.mono {K:W.Frag}{F G:Hp}(s:Same F G): ∀ {v:List V} {d:List D},Reps K F v d->Reps K G v d
 |_,_,.nil=>.nil
 |_,_,.cons r t=>.cons (Rep.mono s r) (Reps.mono s t)
end
section
variable {K:W.Frag}{F G H:Hp}
theorem Reps.length: ∀ {xs:List V} {ds:List D},Reps K F xs ds->xs.length=ds.length
 |_,_,.nil=>rfl
 |_,_,.cons _ t=>by simp[t.length]
theorem Reps.get: ∀ {xs:List V} {ds:List D} {i:Nat} {d:D},Reps K F xs ds->ds[i]? =some d-> ∃x,xs[i]? =some x/\Rep K F x d
 |_,_,_,_,.nil,e=>by simp at e
 |_,_,0,_,.cons r _,e=>by simp at e;subst e;exact⟨_,rfl,r⟩
 |_,_,i+1,d,.cons _ t,e=>by
  obtain⟨u,h1,h2⟩:=Reps.get (i:=i) (d:=d) t (by simpa using e)
  exact⟨u,by simpa using h1,h2⟩
theorem Reps.get' {xs:List V}{ds:List D}{i:Nat}{x:V}(r:Reps K F xs ds)(e:xs[i]? =some x): ∃d,ds[i]? =some d/\Rep K F x d:=by
 have hl:=r.length
 have hi:=(List.getElem?_eq_some_iff.mp e).1
 have e2:ds[i]? =some ds[i]:=List.getElem?_eq_getElem (by omega)
 obtain⟨y,h1,h2⟩:=r.get e2
 rw[e] at h1;cases h1;exact⟨_,e2,h2⟩
theorem Reps.append: ∀ {xs ys:List V} {us ws:List D},Reps K F xs us->Reps K F ys ws->Reps K F (xs++ys) (us++ws)
 |_,_,_,_,.nil,s=>s
 |_,_,_,_,.cons r t,s=>.cons r (Reps.append t s)
theorem Reps.set {x:V}{u:D}(r:Rep K F x u): ∀ {xs:List V} {us:List D} (i:Nat),Reps K F xs us->Reps K F (xs.set i x) (us.set i u)
 |_,_,_,.nil=>.nil
 |_,_,0,.cons _ t=>.cons r t
 |_,_,i+1,.cons q t=>.cons q (Reps.set r i t)
theorem Reps.eraseIdx: ∀ {xs:List V} {us:List D} (i:Nat),Reps K F xs us->Reps K F (xs.eraseIdx i) (us.eraseIdx i)
 |_,_,_,.nil=>.nil
 |_,_,0,.cons _ t=>t
 |_,_,i+1,.cons q t=>.cons q (Reps.eraseIdx i t)
theorem Reps.take: ∀ {xs:List V} {us:List D} (n:Nat),Reps K F xs us->Reps K F (xs.take n) (us.take n)
 |_,_,0,_=>.nil
 |_,_,_+1,.nil=>.nil
 |_,_,n+1,.cons r t=>.cons r (Reps.take n t)
theorem Reps.drop: ∀ {xs:List V} {us:List D} (n:Nat),Reps K F xs us->Reps K F (xs.drop n) (us.drop n)
 |_,_,0,r=>r
 |_,_,_+1,.nil=>.nil
 |_,_,n+1,.cons _ t=>Reps.drop n t
end
abbrev bv:=Addr->Bool
def vw(H:Hp)(hid:bv):Hp:=λb=>if hid b=true then none else H b
def bR(hid:bv)(a:Addr):bv:=λb=>hid b||decide (b=a)
def fu(hid:bv)(a:Addr):bv:=λb=>hid b&& !decide (b=a)
theorem vw_some {H:Hp}{hid:bv}{b:Addr}{o:HO}:vw H hid b=some o↔hid b=false/\H b=some o:=by
 unfold vw;cases hb:hid b<;>simp
theorem di(H:Hp)(hid:bv):Same (vw H hid) H:=λb o h=>(vw_some.mp h).2
theorem aH {H H':Hp}{hid:bv}(s:Same H H'):Same (vw H hid) (vw H' hid):=λb o h=>vw_some.mpr ⟨(vw_some.mp h).1,s _ _ (vw_some.mp h).2⟩
theorem nX {H H':Hp}{hid:bv}(s: ∀b o,H b=some o->hid b=false->H' b=some o):Same (vw H hid) (vw H' hid):=λb o h=>vw_some.mpr ⟨(vw_some.mp h).1,s _ _ (vw_some.mp h).2 (vw_some.mp h).1⟩
theorem cL {H:Hp}{hid:bv}{a:Addr}{o:HO}(h:hid a=true):vw (aV H a o) hid=vw H hid:=by
 funext b;unfold vw aV
 by_cases e:b=a
 ·subst e;simp[h]
 ·simp[e]
theorem e7 {H:Hp}{hid hid':bv}(h: ∀b,hid' b=true->hid b=true):Same (vw H hid) (vw H hid'):=λb o q=>by
 obtain⟨q1,q2⟩:=vw_some.mp q
 refine vw_some.mpr ⟨?_,q2⟩
 cases e:hid' b with
 |false=>rfl
 |true=>rw[h b e] at q1;cases q1
theorem i4 {H:Hp}{hid:bv}{a:Addr}{o:HO}(h:H a=none):vw (aV H a o) (bR hid a)=vw H hid:=by
 funext b;unfold vw aV bR
 by_cases e:b=a
 ·subst e
  cases hb:hid b<;>simp[h]
 ·simp[e]
inductive NO where
 |l (ds:List D)
 |k (kvs:List (aT×D))
inductive Ob where
 |nst (us:List NO)
 |dR (kvs:List (aT×D))
 |dRs (l:List (List (aT×D)))
 |exc (x:Str) (n:Int)
 |dK (kvs:List (aT×D))
 |dT (kvs:List (List aT×D))
 |set (ds:List D)
 |old (d:D)
 |jnk
 |tset (ks:List (List Int))
 |dF (kvs:List (List aT×D))
inductive Sl where
 |no
 |v (d:D)
 |own (ds:List D)
 |arg (ds:List D)
 |ob (b:Ob)
abbrev ax:=List Sl
structure Ct where
 H₀:Hp
 hid₀:bv
 mu:Addr->Bool
def wP(K:W.Frag)(x:Str)(n:Int)(a:Addr)(h:Heap):Prop:= ∃C o,W.nsIn K mainGlobals x=some (some (.ref C))/\h.get? a=some o/\o.cls=.ref C/\o.dict=none/\W.notCls o=true
def w6:Option HO->Bool
 |some (.lst _)=>true
 |_=>false
def fv(c:Ct)(F:Hp):Hp:=λb=>if(c.H₀ b).isSome=true/\w6 (F b)=true then none else F b
def ov(c:Ct)(F:Hp):Hp:=λb=>if(c.H₀ b).isSome=true then F b else none
theorem fv_some {c:Ct}{F:Hp}{b:Addr}{o:HO}:fv c F b=some o↔(w6 (some o)=true->c.H₀ b=none)/\F b=some o:=by
 unfold fv;constructor
 ·intro h
  split at h
  ·cases h
  ·rename_i hn
   refine⟨λq=>?_,h⟩
   rw[h] at hn;cases hb:c.H₀ b with
   |none=>rfl
   |some u=>exact absurd ⟨by rw[hb];rfl,q⟩ hn
 ·rintro⟨h1,h2⟩
  rw[if_neg,h2]
  rintro⟨q1,q2⟩
  rw[h2] at q2;rw[h1 q2] at q1;cases q1
theorem ov_some {c:Ct}{F:Hp}{b:Addr}{o:HO}:ov c F b=some o↔(∃u,c.H₀ b=some u)/\F b=some o:=by
 unfold ov;cases hb:c.H₀ b<;>simp
theorem tt {c:Ct}{F G:Hp}(s:Same F G):Same (fv c F) (fv c G):=λb o h=>fv_some.mpr ⟨(fv_some.mp h).1,s _ _ (fv_some.mp h).2⟩
theorem sP {c:Ct}{F G:Hp}(s:Same F G):Same (ov c F) (ov c G):=λb o h=>ov_some.mpr ⟨(ov_some.mp h).1,s _ _ (ov_some.mp h).2⟩
def NOk(K:W.Frag)(c:Ct)(hid:bv)(H:Hp)(p a:Addr):NO->Prop
 | .l ds=>(hid a=true/\c.H₀ a=none)/\ ∃xs:List V,H a=some (.nst p (.lst xs))/\Reps K (vw H hid) xs ds
 | .k kvs=>(hid a=true/\c.H₀ a=none)/\ ∃us:List (aT×V),H a=some (.nst p (.dK us))/\us.map (·.1)=kvs.map (·.1)/\Reps K (vw H hid) (us.map (·.2)) (kvs.map (·.2))
theorem NOk.mono {K:W.Frag}{c:Ct}{hid hid':bv}{H H':Hp}{p a:Addr}{b:NO}(h:NOk K c hid H p a b)(k: ∀u,H a=some (.nst p u)->H' a=some (.nst p u))(s:Same (vw H hid) (vw H' hid'))(w:(∃u,H a=some (.nst p u))->hid' a=true):NOk K c hid' H' p a b:=by
 cases b with
 |l ds=>obtain⟨h1,us,h2,h3⟩:=h;exact⟨⟨w ⟨_,h2⟩,h1.2⟩,us,k _ h2,h3.mono s⟩
 |k kvs=>obtain⟨h1,us,h2,h3,h4⟩:=h;exact⟨⟨w ⟨_,h2⟩,h1.2⟩,us,k _ h2,h3,h4.mono s⟩
def DRd(K:W.Frag)(W:Hp)(a:Addr)(kvs:List (aT×D)):Prop:= ∃o us,W a=some (.frz o (.dK us))/\us.map (·.1)=kvs.map (·.1)/\Reps K W (us.map (·.2)) (kvs.map (·.2))
theorem DRd.mono {K:W.Frag}{W W':Hp}{a:Addr}{kvs:List (aT×D)}(h:DRd K W a kvs)(s:Same W W'):DRd K W' a kvs:=by
 obtain⟨o,us,h1,h2,h3⟩:=h
 exact⟨o,us,s _ _ h1,h2,h3.mono s⟩
def ObOk(K:W.Frag)(c:Ct)(hid:bv)(H:Hp)(a:Addr):Ob->Prop
 | .nst us=>(hid a=true/\c.H₀ a=none)/\ ∃bs:List Addr,H a=some (.lst (bs.map V.ref))/\bs.Nodup/\Paired (NOk K c hid H a) bs us
 | .dR kvs=>DRd K (vw H hid) a kvs
 | .dRs l=> ∃bs:List Addr,vw H hid a=some (.lst (bs.map V.ref))/\Paired (DRd K (vw H hid)) bs l
 | .exc x n=> ∃φ,vw H hid a=some (.ext φ)/\ ∀h,φ h->wP K x n a h
 | .dK kvs=>(hid a=true/\c.H₀ a=none)/\ ∃us:List (aT×V),H a=some (.dK us)/\us.map (·.1)=kvs.map (·.1)/\Reps K (vw H hid) (us.map (·.2)) (kvs.map (·.2))
 | .dT kvs=>(hid a=true/\c.H₀ a=none)/\ ∃us:List (List aT×V),H a=some (.dT us)/\us.map (·.1)=kvs.map (·.1)/\Reps K (vw H hid) (us.map (·.2)) (kvs.map (·.2))
 | .set ds=>(hid a=true/\c.H₀ a=none)/\ ∃xs:List V,H a=some (.lst xs)/\Reps K (fv c (vw H hid)) xs ds
 | .old d=>Rep K (ov c (vw H hid)) (.ref a) d
 | .jnk=>(hid a=true/\c.H₀ a=none)/\ ∃xs:List V,H a=some (.lst xs)
 | .tset ks=>(hid a=true/\c.H₀ a=none)/\ ∃xs:List (List Int×Addr),H a=some (.tst xs)/\(xs.map (·.1)).Perm ks/\Reps K (vw H hid) (xs.map λx=>V.ref x.2) (xs.map λx=>D.tup (x.1.map D.int))
 | .dF kvs=>(hid a=true/\c.H₀ a=none)/\ ∃(o:Obj) (us:List (List aT×V)),H a=some (.frz o (.dT us))/\us.map (·.1)=kvs.map (·.1)/\Reps K (vw H hid) (us.map (·.2)) (kvs.map (·.2))
def j9:Ob->Prop
 | .exc _ _=>False
 | .old _=>False
 | .dR _=>False
 | .dRs _=>False
 |_=>True
def At(H:Hp)(a x:Addr):Prop:=x=a\/ ∃u,H x=some (.nst a u)
theorem At.ne {H:Hp}{a a' x:Addr}{o:HO}(hx:At H a' x)(ne:a'≠a)(ha:H a=some o)(hn: ∀p u,o≠ .nst p u:=by intro _ _ e;cases e):x≠a:=λe=>by
 subst e;rcases hx with rfl|⟨u,hu⟩
 ·exact ne rfl
 ·rw[ha] at hu;cases hu;exact hn _ _ rfl
theorem ObOk.mono {K:W.Frag}{c:Ct}{hid hid':bv}{H H':Hp}{a:Addr}{b:Ob}(h:ObOk K c hid H a b)(k:j9 b-> ∀x,At H a x-> ∀o,H x=some o->H' x=some o)(s:Same (vw H hid) (vw H' hid'))(w:j9 b-> ∀x,At H a x->hid x=true->hid' x=true):ObOk K c hid' H' a b:=by
 have k1:j9 b-> ∀o,H a=some o->H' a=some o:=λo=>k o a (.inl rfl)
 have w1:j9 b->hid a=true->hid' a=true:=λo=>w o a (.inl rfl)
 cases b with
 |nst us=>
  obtain⟨h1,bs,h2,h3,h4⟩:=h
  refine⟨⟨w1 trivial h1.1,h1.2⟩,bs,k1 trivial _ h2,h3,Paired.mapP h4 λx y z=>z.mono (λu q=>k trivial x (.inr ⟨u,q⟩) _ q) s λq=>w trivial x (.inr q) ?_⟩
  cases y with
  |l ds=>exact z.1.1
  |k kvs=>exact z.1.1
 |dR kvs=>exact DRd.mono h s
 |dRs l=>obtain⟨bs,h1,h2⟩:=h;exact⟨bs,s _ _ h1,Paired.mapP h2 λ_ _ z=>z.mono s⟩
 |exc x n=>obtain⟨φ,h1,h2⟩:=h;exact⟨φ,s _ _ h1,h2⟩
 |dK kvs=>obtain⟨h1,us,h2,h3,h4⟩:=h;exact⟨⟨w1 trivial h1.1,h1.2⟩,us,k1 trivial _ h2,h3,h4.mono s⟩
 |dT kvs=>obtain⟨h1,us,h2,h3,h4⟩:=h;exact⟨⟨w1 trivial h1.1,h1.2⟩,us,k1 trivial _ h2,h3,h4.mono s⟩
 |set ds=>obtain⟨h1,us,h2,h3⟩:=h;exact⟨⟨w1 trivial h1.1,h1.2⟩,us,k1 trivial _ h2,h3.mono (tt s)⟩
 |old d=>exact Rep.mono (sP s) h
 |jnk=>obtain⟨h1,us,h2⟩:=h;exact⟨⟨w1 trivial h1.1,h1.2⟩,us,k1 trivial _ h2⟩
 |tset ks=>obtain⟨h1,us,h2,h3,h4⟩:=h;exact⟨⟨w1 trivial h1.1,h1.2⟩,us,k1 trivial _ h2,h3,h4.mono s⟩
 |dF kvs=>obtain⟨h1,o,us,h2,h3,h4⟩:=h;exact⟨⟨w1 trivial h1.1,h1.2⟩,o,us,k1 trivial _ h2,h3,h4.mono s⟩
theorem ObOk.hid {K:W.Frag}{c:Ct}{hid:bv}{H:Hp}{a:Addr}{b:Ob}(h:ObOk K c hid H a b)(o:j9 b):hid a=true:=by
 cases b with
 |nst us=>exact h.1.1
 |dR kvs=>exact o.elim
 |dRs l=>exact o.elim
 |exc x n=>exact o.elim
 |dK kvs=>exact h.1.1
 |dT kvs=>exact h.1.1
 |set ds=>exact h.1.1
 |old d=>exact o.elim
 |jnk=>exact h.1.1
 |tset ks=>exact h.1.1
 |dF kvs=>exact h.1.1
def SlOk(K:W.Frag)(c:Ct)(hid:bv)(σ:St)(H:Hp)(i:Nat):Sl->Prop
 | .no=>True
 | .v d=> ∃x,σ[i]? =some (some x)/\Rep K (vw H hid) x d
 | .own ds=> ∃a xs,σ[i]? =some (some (.ref a))/\H a=some (.lst xs)/\hid a=true/\c.H₀ a=none/\Reps K (vw H hid) xs ds
 | .arg ds=> ∃a xs,σ[i]? =some (some (.ref a))/\H a=some (.lst xs)/\hid a=true/\c.mu a=true/\Reps K (vw H hid) xs ds
 | .ob b=> ∃a,σ[i]? =some (some (.ref a))/\ObOk K c hid H a b
def Ow:Option Sl->Prop
 |some (.own _)=>True
 |some (.arg _)=>True
 |some (.ob b)=>j9 b
 |_=>False
structure SR(K:W.Frag)(c:Ct)(hid:bv)(ρ:ax)(σ:St)(H:Hp):Prop where
 tr: ∀b,hid b=true-> ∃o,H b=some o
 ht: ∀b xs,hid b=true->H b≠some (.tup xs)
 h0: ∀b,c.hid₀ b=true->hid b=true
 kp: ∀b o,c.H₀ b=some o->c.mu b=false->H b=some o
 t0: ∀b o,c.H₀ b=some o-> ∃o',H b=some o'
 c0: ∀b,c.hid₀ b=true-> ∃o,c.H₀ b=some o
 m0: ∀b,c.mu b=true->c.hid₀ b=true
 len:σ.length=ρ.length
 sl: ∀(i:Nat) (s:Sl),ρ[i]? =some s->SlOk K c hid σ H i s
 ap: ∀(i j:Nat) (a:Addr),i≠j->Ow ρ[i]? ->Ow ρ[j]? ->σ[i]? =some (some (.ref a))->σ[j]? =some (some (.ref a))->False
section
variable {K:W.Frag}{c:Ct}{hid:bv}{ρ:ax}{σ:St}{H H':Hp}{i:Nat}
theorem SlOk.ext {s:Sl}(h:SlOk K c hid σ H i s)(e:Same H H'):SlOk K c hid σ H' i s:=by
 cases s with
 |no=>trivial
 |v d=>obtain⟨x,h1,h2⟩:=h;exact⟨x,h1,h2.mono (aH e)⟩
 |own ds=>obtain⟨a,xs,h1,h2,h3,h4,h5⟩:=h;exact⟨a,xs,h1,e _ _ h2,h3,h4,h5.mono (aH e)⟩
 |arg ds=>obtain⟨a,xs,h1,h2,h3,h4,h5⟩:=h;exact⟨a,xs,h1,e _ _ h2,h3,h4,h5.mono (aH e)⟩
 |ob b=>obtain⟨a,h1,h2⟩:=h;exact⟨a,h1,h2.mono (λ_ x _=>e x) (aH e) λ_ _ _ q=>q⟩
theorem SR.ext(h:SR K c hid ρ σ H)(e:Same H H'):SR K c hid ρ σ H' where
 tr:=λb hb=>let⟨o,q⟩:=h.tr b hb;⟨o,e _ _ q⟩
 ht:=λb xs hb q=>let⟨o,w⟩:=h.tr b hb;by have z:=e _ _ w;rw[q] at z;cases z;exact h.ht b xs hb w
 h0:=h.h0
 kp:=λb o q m=>e _ _ (h.kp b o q m)
 t0:=λb o q=>let⟨o',q'⟩:=h.t0 b o q;⟨o',e _ _ q'⟩
 c0:=h.c0
 m0:=h.m0
 len:=h.len
 sl:=λi s q=>(h.sl i s q).ext e
 ap:=h.ap
def vY(hid:bv)(H:Hp):Prop:=(∀b,hid b=true-> ∃o,H b=some o)/\ ∀b xs,hid b=true->H b≠some (.tup xs)
theorem SR.trk(h:SR K c hid ρ σ H):vY hid H:=⟨h.tr,h.ht⟩
theorem SR.fresh(h:SR K c hid ρ σ H){a:Addr}(n:H a=none):hid a=false:=by
 cases e:hid a with
 |false=>rfl
 |true=>obtain⟨o,q⟩:=h.tr a e;rw[n] at q;cases q
theorem SR.fresh0(h:SR K c hid ρ σ H){a:Addr}(n:H a=none):c.H₀ a=none:=by
 cases e:c.H₀ a with
 |none=>rfl
 |some o=>obtain⟨o',q⟩:=h.t0 a o e;rw[n] at q;cases q
end
inductive Kd where
 |b|s|n
 deriving DecidableEq
def Rep1(K:W.Frag)(H W:Hp)(v:V)(d:D):Prop:=Rep K W v d\/ ∃a xs ds,v=.ref a/\d=.lst ds/\H a=some (.lst xs)/\Reps K W xs ds
def RN(K:W.Frag)(H H':Hp)(hid:bv)(v:V)(d:D):Prop:= ∃a xs ds,d=.lst ds/\v=.ref a/\H a=none/\H' a=some (.lst xs)/\Reps K (vw H' (bR hid a)) xs ds
def RK(K:W.Frag)(k:Kd)(H H':Hp)(hid:bv)(v:V)(d:D):Prop:=match k with
 | .b=>Rep1 K H' (vw H' hid) v d
 | .s=>Rep K (vw H' hid) v d
 | .n=>RN K H H' hid v d
section
variable {K:W.Frag}{c:Ct}{hid:bv}{ρ:ax}{σ:St}{H H' H'':Hp}{i:Nat}{v:V}{d:D}
theorem RN.rep(h:RN K H H' hid v d)(hf: ∀a,H a=none->hid a=false):Rep K (vw H' hid) v d:=by
 obtain⟨a,xs,ds,rfl,rfl,h1,h2,h3⟩:=h
 refine .lst (vw_some.mpr ⟨hf a h1,h2⟩) (h3.mono (e7 λb q=>?_))
 unfold bR;rw[q];rfl
theorem RK.b(k:Kd)(h:RK K k H H' hid v d)(hf: ∀a,H a=none->hid a=false):Rep1 K H' (vw H' hid) v d:=by
 cases k with
 |b=>exact h
 |s=>exact .inl h
 |n=>exact .inl (RN.rep h hf)
theorem Rep1.ext {hid:bv}(h:Rep1 K H (vw H hid) v d)(e:Same H H'):Rep1 K H' (vw H' hid) v d:=by
 rcases h with h|⟨a,xs,ds,h1,h2,h3,h4⟩
 ·exact .inl (h.mono (aH e))
 ·exact .inr ⟨a,xs,ds,h1,h2,e _ _ h3,h4.mono (aH e)⟩
theorem Rep1.int {i:Int}(h:Rep1 K H (vw H hid) v (.int i)):v=.int i:=by
 rcases h with h|⟨a,xs,ds,h1,h2,_⟩
 ·cases h;rfl
 ·cases h2
theorem Rep1.bl {i:Bool}(h:Rep1 K H (vw H hid) v (.bl i)):v=.bl i:=by
 rcases h with h|⟨a,xs,ds,h1,h2,_⟩
 ·cases h;rfl
 ·cases h2
theorem Rep1.str {i:Str}(h:Rep1 K H (vw H hid) v (.str i)):v=.str i:=by
 rcases h with h|⟨a,xs,ds,h1,h2,_⟩
 ·cases h;rfl
 ·cases h2
theorem Rep1.non(h:Rep1 K H (vw H hid) v .non):v=.non:=by
 rcases h with h|⟨a,xs,ds,h1,h2,_⟩
 ·cases h;rfl
 ·cases h2
theorem Rep1.tup {ds:List D}(h:Rep1 K H (vw H hid) v (.tup ds)): ∃a xs,v=.ref a/\SqT K (vw H hid) a xs/\SqT K H a xs/\Reps K (vw H hid) xs ds:=by
 rcases h with h|⟨a,xs,ds,h1,h2,_⟩
 ·cases h with
  |tup q r=>exact⟨_,_,rfl,q,Same.seqT (di _ _) q,r⟩
 ·cases h2
theorem Rep1.lst {ds:List D}(h:Rep1 K H (vw H hid) v (.lst ds)): ∃a xs,v=.ref a/\SqL K H a xs/\Reps K (vw H hid) xs ds:=by
 rcases h with h|⟨a,xs,ds,h1,h2,h3,h4⟩
 ·cases h with
  |lst q r=>exact⟨_,_,rfl,SqL.of (di _ _ _ _ q),r⟩
 ·cases h2
  exact⟨a,xs,h1,SqL.of h3,h4⟩
theorem Rep1.scr {ds:List D}(h:Rep1 K H (vw H hid) v (.scr ds)): ∃a xs,v=.ref a/\SqL K H a xs/\Reps K (vw H hid) xs ds:=by
 rcases h with h|⟨a,xs,ds,h1,h2,h3,h4⟩
 ·cases h with
  |scr q r=>exact⟨_,_,rfl,(di _ _).seq q.seq,r⟩
 ·cases h2
end
theorem PE.imp {X:Cx}{e:Expr}{t t':TE}(h:PE X e t)(i: ∀σ H Q,t' σ H Q->t σ H Q):PE X e t':=λaa s σ H Q I q=>h aa s σ H Q I (i σ H Q q)
theorem PT.imp {X:Cx}{e:Expr}{t t':TT}(h:PT X e t)(i: ∀σ H Q,t' σ H Q->t σ H Q):PT X e t':=λaa s σ H Q I q=>h aa s σ H Q I (i σ H Q q)
theorem PW.imp {X:Cx}{e:Expr}{t t':TT}(h:PW X e t)(i: ∀σ H Q,t' σ H Q->t σ H Q):PW X e t':=λwh aa s σ H Q I q=>h wh aa s σ H Q I (i σ H Q q)
theorem PA.imp {X:Cx}{e:List Expr}{t t':TA}(h:PA X e t)(i: ∀σ H Q,t' σ H Q->t σ H Q):PA X e t':=λp aa s σ H Q I q=>h p aa s σ H Q I (i σ H Q q)
theorem PS.imp {X:Cx}{e:Stmt}{t t':TS}(h:PS X e t)(i: ∀D σ H,t' D σ H->t D σ H):PS X e t':=λaa s σ H D I q=>h aa s σ H D I (i D σ H q)
theorem PSs.imp {X:Cx}{e:List Stmt}{t t':TS}(h:PSs X e t)(i: ∀D σ H,t' D σ H->t D σ H):PSs X e t':=λaa s σ H D I q=>h aa s σ H D I (i D σ H q)
abbrev FE:=ax->Option D
abbrev FT:=ax->Option Bool
abbrev FA:=ax->Option (List D)
def sf(K:W.Frag)(c:Ct)(hid:bv)(k:Kd)(f:FE)(ρ:ax):TE:=λσ H Q=>SR K c hid ρ σ H/\ ∃d,f ρ=some d/\ ∀v H',Same H H'->RK K k H H' hid v d->Q v H'
def xM(K:W.Frag)(c:Ct)(hid:bv)(f:FT)(ρ:ax):TT:=λσ H Q=>SR K c hid ρ σ H/\ ∃d,f ρ=some d/\ ∀H',Same H H'->Q d H'
def yA(K:W.Frag)(c:Ct)(hid:bv)(f:FA)(ρ:ax):TA:=λσ H Q=>SR K c hid ρ σ H/\ ∃d,f ρ=some d/\ ∀vs H',Same H H'->Reps K (vw H' hid) vs d->Q vs H'
def DP(X:Cx)(c:Ct)(k:Kd)(e:Expr)(f:FE):Prop:= ∀hid ρ,PE X e (sf X.K c hid k f ρ)
def DT(X:Cx)(c:Ct)(e:Expr)(f:FT):Prop:= ∀hid ρ,PT X e (xM X.K c hid f ρ)
def DW(X:Cx)(c:Ct)(e:Expr)(f:FT):Prop:= ∀hid ρ,PW X e (xM X.K c hid f ρ)
def DA(X:Cx)(c:Ct)(es:List Expr)(f:FA):Prop:= ∀hid ρ,PA X es (yA X.K c hid f ρ)
section
variable {X:Cx}{c:Ct}{e a b:Expr}{es:List Expr}{f g:FE}{k:Kd}{pos:Pos}
theorem DP.toS(h:DP X c .n e f):DP X c .s e f:=λhid ρ=>PE.imp (h hid ρ) λσ H Q ⟨sr,d,hd,q⟩=>⟨sr,d,hd,λv H' s r=>q v H' s (RN.rep r λa n=>sr.fresh n)⟩
def ag(i:Nat):FE:=λρ=>match ρ[i]? with
 |some (.v d)=>some d
 |_=>none
def dl(i:Nat):FE:=λρ=>match ρ[i]? with
 |some (.v d)=>some d
 |some (.own ds)=>some (.lst ds)
 |some (.arg ds)=>some (.lst ds)
 |_=>none
theorem af(i:Nat){x:Str}(hN:X.N[i]? =some x:=by rfl)(hv:oW X.env.scope x:=by first|exact Or.inl rfl|exact Or.inr (Or.inl rfl)|exact Or.inr (Or.inr rfl))(hd:(x==("__debug__":Str))=false:=by decide)
 (hcd:(x==("__classdict__":Str))=false:=by decide):DP X c .s (.Name x pos) (ag i):=λhid ρ=>PE.imp (pv i hN hv hd hcd) λσ H Q hq_=>by
 obtain⟨sr,d,hd,q⟩:=hq_
 unfold ag at hd;split at hd
 ·rename_i d' e'
  cases hd
  obtain⟨x,h1,h2⟩:=sr.sl i _ e'
  exact⟨x,h1,q x H (Same.refl _) h2⟩
 ·cases hd
theorem dD(i:Nat){x:Str}(hN:X.N[i]? =some x:=by rfl)(hv:oW X.env.scope x:=by first|exact Or.inl rfl|exact Or.inr (Or.inl rfl)|exact Or.inr (Or.inr rfl))(hd:(x==("__debug__":Str))=false:=by decide)
 (hcd:(x==("__classdict__":Str))=false:=by decide):DP X c .b (.Name x pos) (dl i):=λhid ρ=>PE.imp (pv i hN hv hd hcd) λσ H Q hq_=>by
 obtain⟨sr,d,hd,q⟩:=hq_
 unfold dl at hd;split at hd
 ·rename_i d' e'
  cases hd
  obtain⟨x,h1,h2⟩:=sr.sl i _ e'
  exact⟨x,h1,q x H (Same.refl _) (.inl h2)⟩
 ·rename_i d' e'
  cases hd
  obtain⟨a,xs,h1,h2,h3,h4,h5⟩:=sr.sl i _ e'
  exact⟨_,h1,q _ H (Same.refl _) (.inr ⟨a,xs,_,rfl,rfl,h2,h5⟩)⟩
 ·rename_i d' e'
  cases hd
  obtain⟨a,xs,h1,h2,h3,h4,h5⟩:=sr.sl i _ e'
  exact⟨_,h1,q _ H (Same.refl _) (.inr ⟨a,xs,_,rfl,rfl,h2,h5⟩)⟩
 ·cases hd
def aq(d:D):FE:=λ_=>some d
theorem al {i:Int}{j pos}:DP X c .s (.Constant (.int i) j pos) (aq (.int i)):=λhid ρ=>PE.imp vz λσ H Q hq_=>by
 obtain⟨sr,d,hd,q⟩:=hq_
 cases hd;exact q _ H (Same.refl _) .int
theorem mz {i:Bool}{j pos}:DP X c .s (.Constant (.bool i) j pos) (aq (.bl i)):=λhid ρ=>PE.imp wk λσ H Q hq_=>by
 obtain⟨sr,d,hd,q⟩:=hq_
 cases hd;exact q _ H (Same.refl _) .bl
theorem mQ {i:Str}{j pos}:DP X c .s (.Constant (.str i) j pos) (aq (.str i)):=λhid ρ=>PE.imp uv λσ H Q hq_=>by
 obtain⟨sr,d,hd,q⟩:=hq_
 cases hd;exact q _ H (Same.refl _) .str
theorem nv {j pos}:DP X c .s (.Constant .none j pos) (aq .non):=λhid ρ=>PE.imp uK λσ H Q hq_=>by
 obtain⟨sr,d,hd,q⟩:=hq_
 cases hd;exact q _ H (Same.refl _) .non
def ak(F:D->D->Option D)(f g:FE):FE:=λρ=>(f ρ).bind λx=>(g ρ).bind λy=>F x y
theorem qQ {F:D->D->Option D}{ρ:ax}{d:D}(h:ak F f g ρ=some d): ∃x y,f ρ=some x/\g ρ=some y/\F x y=some d:=by
 unfold ak at h;cases e1:f ρ with
 |none=>rw[e1] at h;cases h
 |some x=>
  cases e2:g ρ with
  |none=>rw[e1,e2] at h;cases h
  |some y=>rw[e1,e2] at h;exact⟨x,y,rfl,rfl,h⟩
def im(K:W.Frag)(k:Kd)(r:R2)(F:D->D->Option D):Prop:= ∀(H:Hp) (hid:bv) (v u:V) (x y d:D) (Q:VK),(∀a,H a=none->hid a=false)->F x y=some d->Rep1 K H (vw H hid) v x->Rep1 K H (vw H hid) u y->
 (∀w H',Same H H'->RK K k H H' hid w d->Q w H')->r v u H Q
theorem RK.left {K:W.Frag}{H H1 H':Hp}{hid:bv}{v:V}{d:D}(s:Same H H1)(h:RK K k H1 H' hid v d):RK K k H H' hid v d:=by
 cases k with
 |b=>exact h
 |s=>exact h
 |n=>
  obtain⟨a,xs,ds,h1,h2,h3,h4⟩:=h
  exact⟨a,xs,ds,h1,h2,s.free h3,h4⟩
theorem xf {r:R2}{F:D->D->Option D}{k1 k2:Kd}{hid:bv}{ρ:ax}(hF:im X.K k r F){σ:St}{H:Hp}{Q:VK}(h:sf X.K c hid k (ak F f g) ρ σ H Q):vX r (sf X.K c hid k1 f ρ) (sf X.K c hid k2 g ρ) σ H Q:=by
 obtain⟨sr,d,hd,q⟩:=h
 obtain⟨x,y,e1,e2,e3⟩:=qQ hd
 refine⟨sr,x,e1,λv H1 s1 r1=>⟨sr.ext s1,y,e2,λu H2 s2 r2=>?_⟩⟩
 have b1:=(RK.b k1 r1 λa n=>sr.fresh n).ext s2
 have b2:=RK.b k2 r2 λa n=>(sr.ext s1).fresh n
 exact hF H2 hid v u x y d Q (λa n=>((sr.ext s1).ext s2).fresh n) e3 b1 b2 λw H' s3 r3=>q w H' ((s1.trans s2).trans s3) (RK.left (s1.trans s2) r3)
theorem jR {op:Operator}{r:R2}{F:D->D->Option D}{k1 k2:Kd}(ho:fR X (binaryOp op) r)(hF:im X.K k r F)(ha:DP X c k1 a f)(hb:DP X c k2 b g):DP X c k (.BinOp a op b pos) (ak F f g):=λhid ρ=>
 PE.imp (t8 ho (ha hid ρ) (hb hid ρ)) λσ H Q h=>xf hF h
theorem iV {op:CmpOp}{r:R2}{F:D->D->Option D}{k1 k2:Kd}(ho:fR X (compareOp op) r)(hF:im X.K .s r F)(ha:DP X c k1 a f)(hb:DP X c k2 b g)(hm:behindInMarks op b=false):DP X c .s (.Compare a [op] [b] pos) (ak F f g):=λhid ρ=>
 PE.imp (sU ho (ha hid ρ) (hb hid ρ) hm) λσ H Q h=>xf hF h
def lW:Option D->Option Bool
 |some (.bl b)=>some b
 |_=>none
theorem bV {op:CmpOp}{r:R2}{F:D->D->Option D}{k1 k2:Kd}(ho:fR X (compareOp op) r)(hF:im X.K .s r F)(ha:DP X c k1 a f)(hb:DP X c k2 b g)(hm:behindInMarks op b=false):DT X c (.Compare a [op] [b] pos) (λρ=>lW (ak F f g ρ)):=λhid ρ=>
 PT.imp (tI ho (ha hid ρ) (hb hid ρ) hm) λσ H Q hq_=>by
  obtain⟨sr,d,hd,q⟩:=hq_
  refine xf (X:=X) (k:=.s) (F:=F) hF ?_
  dsimp only at hd;cases e:ak F f g ρ with
  |none=>rw[e] at hd;cases hd
  |some x=>
   rw[e] at hd;cases x with
   |bl z=>
    cases hd
    refine⟨sr,_,e,λv H' s r=>⟨d,?_,q H' s⟩⟩
    cases r;rfl
   |_=>cases hd
theorem aS {r:R2}{F:D->D->Option D}{k1 k2:Kd}(hr:IxR X r)(hF:im X.K k r F)(ha:DP X c k1 a f)(hb:DP X c k2 b g)(hs:kl b):DP X c k (.Subscript a b pos) (ak F f g):=λhid ρ=>
 PE.imp (uq hr (ha hid ρ) (hb hid ρ) hs) λσ H Q h=>xf hF h
end
def i2(C:Int->Int->Bool)(G:Int->Int->D):D->D->Option D
 | .int i,.int j=>if C i j=true then some (G i j) else none
 |_,_=>none
section
variable {K:W.Frag}
theorem kF {C:Int->Int->Bool}{G:Int->Int->D}{x y d:D}(h:i2 C G x y=some d): ∃i j,x=.int i/\y=.int j/\C i j=true/\d=G i j:=by
 unfold i2 at h;split at h
 ·split at h
  ·cases h;exact⟨_,_,rfl,rfl, ‹_›,rfl⟩
  ·cases h
 ·cases h
theorem sW {C:Int->Int->Prop}{B:Int->Int->Bool}{g:Int->Int->Int}(hC: ∀i j,B i j=true->C i j):im K .s (rI C λi j=>.int (g i j)) (i2 B λi j=>.int (g i j)):=by
 intro H hid v u x y d Q hf h r1 r2 q;obtain⟨i,j,rfl,rfl,hc,rfl⟩:=kF h
 cases r1.int;cases r2.int
 exact⟨i,j,rfl,rfl,hC i j hc,q _ H (Same.refl _) .int⟩
theorem rJ {g:Int->Int->Int}:im K .s (se λi j=>.int (g i j)) (i2 (λ_ _=>true) λi j=>.int (g i j)):=by
 intro H hid v u x y d Q hf h r1 r2 q;obtain⟨i,j,rfl,rfl,hc,rfl⟩:=kF h
 cases r1.int;cases r2.int
 exact⟨i,j,rfl,rfl,q _ H (Same.refl _) .int⟩
theorem dI {g:Int->Int->Bool}:im K .s (se λi j=>.bl (g i j)) (i2 (λ_ _=>true) λi j=>.bl (g i j)):=by
 intro H hid v u x y d Q hf h r1 r2 q;obtain⟨i,j,rfl,rfl,hc,rfl⟩:=kF h
 cases r1.int;cases r2.int
 exact⟨i,j,rfl,rfl,q _ H (Same.refl _) .bl⟩
end
section
variable {X:Cx}{c:Ct}{e a b:Expr}{es rest:List Expr}{f g:FE}{p q:FT}{k:Kd}{pos:Pos}
def wo:D->Option Bool
 | .non=>some false
 | .bl b=>some b
 | .int i=>some (i !=0)
 | .str y=>if y.length<=sizeLine then some ((y.length:Int) !=0) else none
 | .lst ds=>some (!ds.isEmpty)
 | .tup ds=>some (!ds.isEmpty)
 | .scr ds=>some (!ds.isEmpty)
theorem Reps.isEmpty {K:W.Frag}{F:Hp}{xs:List V}{ds:List D}(r:Reps K F xs ds):xs.isEmpty=ds.isEmpty:=by cases r<;>rfl
theorem uW {K:W.Frag}{H:Hp}{hid:bv}{v:V}{d:D}{b:Bool}(h:wo d=some b)(r:Rep1 K H (vw H hid) v d):vc K v H b:=by
 cases d with
 |non=>cases r.non;cases h;rfl
 |bl x=>cases r.bl;cases h;rfl
 |int i=>cases r.int;cases h;rfl
 |str y=>
  cases r.str
  have h':(if y.length<=sizeLine then some ((y.length:Int) !=0) else none)=some b:=h
  split at h'
  ·cases h';exact⟨‹_›,rfl⟩
  ·cases h'
 |lst ds=>
  obtain⟨a,xs,rfl,h1,h2⟩:=r.lst
  cases h
  exact .inl ⟨xs,h1,by rw[h2.isEmpty]⟩
 |tup ds=>
  obtain⟨a,xs,rfl,_,h1,h2⟩:=r.tup
  cases h
  exact .inr (.inl ⟨xs,h1,by rw[h2.isEmpty]⟩)
 |scr ds=>
  obtain⟨a,xs,rfl,h1,h2⟩:=r.scr
  cases h
  exact .inl ⟨xs,h1,by rw[h2.isEmpty]⟩
def dY(f:FE):FT:=λρ=>(f ρ).bind wo
theorem h7(ha:DP X c k a f)(he: ∀whole,isTrue a X.env whole=(do let v <-whole;standAt a.pos;holding [v] (truthy v)):=by intro _;rfl):DT X c a (dY f):=λhid ρ=>
 PT.imp (rF (ha hid ρ) he) λσ H Q hq_=>by
  obtain⟨sr,d,hd,q⟩:=hq_
  unfold dY at hd;cases e:f ρ with
  |none=>rw[e] at hd;cases hd
  |some x=>
   rw[e] at hd;exact⟨sr,x,e,λv H' s r=>⟨d,uW hd (RK.b k r λa n=>sr.fresh n),q H' s⟩⟩
def jn(p q:FT):FT:=λρ=>(p ρ).bind λb=>if b=true then q ρ else some false
def jt(p q:FT):FT:=λρ=>(p ρ).bind λb=>if b=true then some true else q ρ
def dM(p:FT):FT:=λρ=>(p ρ).map (!·)
theorem iP(ha:DT X c a p):DW X c (.BoolOp .Or [a] pos) p:=λhid ρ=>pw_or1 (ha hid ρ)
theorem lI(ha:DT X c a p)(hb:DW X c (.BoolOp .Or (b::rest) pos) q):DW X c (.BoolOp .Or (a::b::rest) pos) (jt p q):=λhid ρ=>
 PW.imp (pw_or (ha hid ρ) (hb hid ρ)) λσ H Q hq_=>by
  obtain⟨sr,d,hd,hq⟩:=hq_
  unfold jt at hd;cases e:p ρ with
  |none=>rw[e] at hd;cases hd
  |some x=>
   rw[e] at hd;refine⟨sr,x,e,λH1 s1=>?_⟩
   cases x with
   |false=>exact m8 ⟨sr.ext s1,d,hd,λH2 s2=>hq H2 (s1.trans s2)⟩
   |true=>cases hd;exact mM (hq H1 s1)
theorem DW.dt(h:DW X c e p):DT X c e p:=λhid ρ=>(h hid ρ).pt
theorem fW(ha:DT X c a p):DT X c (.UnaryOp .Not a pos) (dM p):=λhid ρ=>
 PT.imp (u5 (ha hid ρ)) λσ H Q hq_=>by
  obtain⟨sr,d,hd,hq⟩:=hq_
  unfold dM at hd;cases e:p ρ with
  |none=>rw[e] at hd;cases hd
  |some x=>rw[e] at hd;cases hd;exact⟨sr,x,e,λH1 s1=>hq H1 s1⟩
def vA(p:FT):FE:=λρ=>(p ρ).map D.bl
def bw(f:FE):FT:=λρ=>lW (f ρ)
theorem iL {ρ:ax}{b:Bool}(h:bw f ρ=some b):f ρ=some (.bl b):=by
 unfold bw lW at h;split at h
 ·cases h;assumption
 ·cases h
theorem vK(ha:DP X c .s a f)(hb:DP X c .s (.BoolOp .And (b::rest) pos) g):DP X c .s (.BoolOp .And (a::b::rest) pos) (vA (jn (bw f) (bw g))):=λhid ρ=>
 PE.imp (uz (ha hid ρ) (hb hid ρ)) λσ H Q hq_=>by
  obtain⟨sr,d,hd,hq⟩:=hq_
  unfold vA jn at hd;cases e:bw f ρ with
  |none=>rw[e] at hd;cases hd
  |some x=>
   rw[e] at hd;refine⟨sr,_,iL e,λv H1 s1 r=>?_⟩
   cases r
   refine⟨x,rfl,?_⟩
   cases x with
   |true=>
    refine mM ?_
    cases e2:bw g ρ with
    |none=>rw[show(some true:Option Bool).bind (λb=>if b=true then bw g ρ else some false)=bw g ρ from rfl,e2] at hd;cases hd
    |some y=>
     rw[show(some true:Option Bool).bind (λb=>if b=true then bw g ρ else some false)=bw g ρ from rfl,e2] at hd;cases hd
     exact⟨sr.ext s1,_,iL e2,λv2 H2 s2 r2=>hq v2 H2 (s1.trans s2) r2⟩
   |false=>cases hd;exact m8 (hq _ H1 s1 .bl)
theorem uR {op}(h:DP X c k a f):DP X c k (.BoolOp op [a] pos) f:=λhid ρ=>vt (h hid ρ)
def lj(p:FT)(f g:FE):FE:=λρ=>(p ρ).bind λb=>if b=true then f ρ else g ρ
theorem nR {t:Expr}(hk:k≠ .n)(ht:DT X c t p)(ha:DP X c k a f)(hb:DP X c k b g):DP X c k (.IfExp t a b pos) (lj p f g):=λhid ρ=>
 PE.imp (rP (ht hid ρ) (ha hid ρ) (hb hid ρ)) λσ H Q hq_=>by
  obtain⟨sr,d,hd,hq⟩:=hq_
  unfold lj at hd;cases e:p ρ with
  |none=>rw[e] at hd;cases hd
  |some x=>
   rw[e] at hd;refine⟨sr,x,e,λH1 s1=>?_⟩
   have lf: ∀ {v H2},RK X.K k H1 H2 hid v d->RK X.K k H H2 hid v d:=λ{v H2} r=>RK.left s1 r
   cases x with
   |true=>exact mM ⟨sr.ext s1,d,hd,λv H2 s2 r=>hq v H2 (s1.trans s2) (lf r)⟩
   |false=>exact m8 ⟨sr.ext s1,d,hd,λv H2 s2 r=>hq v H2 (s1.trans s2) (lf r)⟩
variable {r r':R2}{h:FE}{e3:Expr}
def lZ(F G:D->D->Option D)(f g h:FE):FE:=λρ=>(f ρ).bind λx=>(g ρ).bind λy=>(lW (F x y)).bind λk=>if k=true then(h ρ).bind λz=>G y z else some (.bl false)
theorem rH {F G:D->D->Option D}{k1 k2 k3:Kd}{hid:bv}{ρ:ax}(hF:im X.K .s r F)(hG:im X.K .s r' G){σ:St}{H:Hp}{Q:VK}(hh:sf X.K c hid .s (lZ F G f g h) ρ σ H Q):
 mZ r r' (sf X.K c hid k1 f ρ) (sf X.K c hid k2 g ρ) (sf X.K c hid k3 h ρ) σ H Q:=by
 obtain⟨sr,d,hd,q⟩:=hh
 unfold lZ at hd;cases e1:f ρ with
 |none=>rw[e1] at hd;cases hd
 |some x=>
  cases e2:g ρ with
  |none=>rw[e1,e2] at hd;cases hd
  |some y=>
   rw[e1,e2] at hd;have hd':(lW (F x y)).bind (λk=>if k=true then(h ρ).bind λz=>G y z else some (.bl false))=some d:=hd
   cases e3:F x y with
   |none=>rw[e3] at hd';cases hd'
   |some z=>
    cases z with
    |bl kk=>
     rw[e3] at hd';refine⟨sr,x,e1,λv H1 s1 r1=>⟨sr.ext s1,y,e2,λu H2 s2 r2=>?_⟩⟩
     have b1:=(RK.b k1 r1 λa n=>sr.fresh n).ext s2
     have b2:=RK.b k2 r2 λa n=>(sr.ext s1).fresh n
     have fr: ∀a,H2 a=none->hid a=false:=λa n=>((sr.ext s1).ext s2).fresh n
     refine hF H2 hid v u x y _ _ fr e3 b1 b2 λw H3 s3 r3=>?_
     cases r3
     refine⟨kk,rfl,?_⟩
     cases kk with
     |false=>cases hd';exact m8 (q _ H3 ((s1.trans s2).trans s3) .bl)
     |true=>
      refine mM ?_
      cases e4:h ρ with
      |none=>rw[e4] at hd';cases hd'
      |some z=>
       rw[e4] at hd';have hd2:G y z=some d:=hd'
       refine⟨((sr.ext s1).ext s2).ext s3,z,e4,λw' H4 s4 r4=>?_⟩
       have b3:=RK.b k3 r4 λa n=>(((sr.ext s1).ext s2).ext s3).fresh n
       exact hG H4 hid u w' y z d Q (λa n=>((((sr.ext s1).ext s2).ext s3).ext s4).fresh n) hd2 ((b2.ext s3).ext s4) b3 λw2 H5 s5 r5=>q w2 H5 ((((s1.trans s2).trans s3).trans s4).trans s5) r5
    |_=>rw[e3] at hd';cases hd'
theorem wK {op op':CmpOp}{F G:D->D->Option D}{k1 k2 k3:Kd}(ho:fR X (compareOp op) r)(ho':fR X (compareOp op') r')(hF:im X.K .s r F)(hG:im X.K .s r' G)(ha:DP X c k1 a f)(hb:DP X c k2 b g)(hc:DP X c k3 e3 h)
 (hm:lastMarks [op,op'] [b,e3]=false:=by with_unfolding_all rfl):DP X c .s (.Compare a [op,op'] [b,e3] pos) (lZ F G f g h):=λhid ρ=>
 PE.imp (qh ho ho' (ha hid ρ) (hb hid ρ) (hc hid ρ) hm) λσ H Q hh=>rH hF hG hh
theorem qT {op op':CmpOp}{F G:D->D->Option D}{k1 k2 k3:Kd}(ho:fR X (compareOp op) r)(ho':fR X (compareOp op') r')(hF:im X.K .s r F)(hG:im X.K .s r' G)(ha:DP X c k1 a f)(hb:DP X c k2 b g)(hc:DP X c k3 e3 h)
 (hm:lastMarks [op,op'] [b,e3]=false:=by with_unfolding_all rfl):DT X c (.Compare a [op,op'] [b,e3] pos) (bw (lZ F G f g h)):=λhid ρ=>
 PT.imp (qv ho ho' (ha hid ρ) (hb hid ρ) (hc hid ρ) hm) λσ H Q hq_=>by
  obtain⟨sr,d,hd,q⟩:=hq_
  refine rH (X:=X) (F:=F) (G:=G) hF hG ⟨sr,_,iL hd,λv H' s r=>⟨d,?_,q H' s⟩⟩
  cases r;rfl
end
section
variable {X:Cx}{c:Ct}{e a b:Expr}{es rest:List Expr}{f g:FE}{fs:FA}{k:Kd}{pos:Pos}
def ah:FA:=λ_=>some []
def ae(f:FE)(fs:FA):FA:=λρ=>(f ρ).bind λd=>(fs ρ).map λr=>d::r
theorem i9 {ρ:ax}{ds:List D}(h:ae f fs ρ=some ds): ∃d r,f ρ=some d/\fs ρ=some r/\ds=d::r:=by
 unfold ae at h;cases e1:f ρ with
 |none=>rw[e1] at h;cases h
 |some d=>
  cases e2:fs ρ with
  |none=>rw[e1,e2] at h;cases h
  |some r=>rw[e1,e2] at h;cases h;exact⟨d,r,rfl,rfl,rfl⟩
theorem az:DA X c [] ah:=λhid ρ=>PA.imp fQ λσ H Q ⟨sr,d,hd,q⟩=>by cases hd;exact q [] H (Same.refl _) .nil
theorem ai(ha:DP X c .s e f)(hr:DA X c es fs)(hs:starEach (e::es) X.env=(false,eval e X.env)::starEach es X.env:=by rfl):DA X c (e::es) (ae f fs):=λhid ρ=>
 PA.imp (cC (ha hid ρ) (hr hid ρ) hs) λσ H Q hq_=>by
  obtain⟨sr,d,hd,q⟩:=hq_
  obtain⟨d1,r,e1,e2,rfl⟩:=i9 hd
  exact⟨sr,d1,e1,λv H1 s1 r1=>⟨sr.ext s1,r,e2,λvs H2 s2 r2=>q _ H2 (s1.trans s2) (.cons (Rep.mono (aH s2) r1) r2)⟩⟩
def cH(fs:FA):FE:=λρ=>(fs ρ).bind λds=>if ds.length<=sizeLine then some (.tup ds) else none
def eV(fs:FA):FE:=λρ=>(fs ρ).bind λds=>if ds.length<=sizeLine then some (.lst ds) else none
theorem oH {ρ:ax}{d:D}(h:cH fs ρ=some d): ∃ds,fs ρ=some ds/\ds.length<=sizeLine/\d=.tup ds:=by
 unfold cH at h;cases e1:fs ρ with
 |none=>rw[e1] at h;cases h
 |some ds=>
  rw[e1] at h;have h':(if ds.length<=sizeLine then some (D.tup ds) else none)=some d:=h
  split at h'
  ·cases h';exact⟨ds,rfl, ‹_›,rfl⟩
  ·cases h'
theorem oG {ρ:ax}{d:D}(h:eV fs ρ=some d): ∃ds,fs ρ=some ds/\ds.length<=sizeLine/\d=.lst ds:=by
 unfold eV at h;cases e1:fs ρ with
 |none=>rw[e1] at h;cases h
 |some ds=>
  rw[e1] at h;have h':(if ds.length<=sizeLine then some (D.lst ds) else none)=some d:=h
  split at h'
  ·cases h';exact⟨ds,rfl, ‹_›,rfl⟩
  ·cases h'
theorem bM {H:Hp}{p:Addr}(h:H p=none)(o:HO):Same H (aV H p o):=λb u q=>by rw[ar (br q h)];exact q
theorem ja {K:W.Frag}{H:Hp}{hid:bv}{p:Addr}{xs:List V}{ds:List D}(hn:H p=none)(hf:hid p=false)(r:Reps K (vw H hid) xs ds):Rep K (vw (aV H p (.tup xs)) hid) (.ref p) (.tup ds):=
 .tup (SqT.of (vw_some.mpr ⟨hf,ay⟩)) (r.mono (aH (bM hn _)))
theorem qo {K:W.Frag}{H H0:Hp}{hid:bv}{p:Addr}{xs:List V}{ds:List D}(hn:H p=none)(s:Same H0 H)(r:Reps K (vw H hid) xs ds):RN K H0 (aV H p (.lst xs)) hid (.ref p) (.lst ds):=
 ⟨p,xs,ds,rfl,rfl,s.free hn,ay,by rw[i4 hn];exact r⟩
theorem eZ {x1}(h:DA X c es fs):DP X c .s (.Tuple es x1 pos) (cH fs):=λhid ρ=>PE.imp (uZ (h hid ρ)) λσ H Q hq_=>by
 obtain⟨sr,d,hd,q⟩:=hq_
 obtain⟨ds,e1,hz,rfl⟩:=oH hd
 exact⟨sr,ds,e1,λvs H1 s1 r1=>⟨by rw[r1.length];exact hz,λp hp=>q _ _ (s1.trans (bM hp _)) (ja hp ((sr.ext s1).fresh hp) r1)⟩⟩
theorem kf(h:DA X c es fs):DP X c .n (.List es pos) (eV fs):=λhid ρ=>PE.imp (rC (h hid ρ)) λσ H Q hq_=>by
 obtain⟨sr,d,hd,q⟩:=hq_
 obtain⟨ds,e1,hz,rfl⟩:=oG hd
 exact⟨sr,ds,e1,λvs H1 s1 r1=>⟨by rw[r1.length];exact hz,λp hp=>q _ _ (s1.trans (bM hp _)) (qo hp s1 r1)⟩⟩
abbrev Reps1(K:W.Frag)(H W:Hp):List V->List D->Prop:=Paired (Rep1 K H W)
def yp(K:W.Frag)(c:Ct)(hid:bv)(f:FA)(ρ:ax):TA:=λσ H Q=>SR K c hid ρ σ H/\ ∃d,f ρ=some d/\ ∀vs H',Same H H'->Reps1 K H' (vw H' hid) vs d->Q vs H'
def DB(X:Cx)(c:Ct)(es:List Expr)(f:FA):Prop:= ∀hid ρ,PA X es (yp X.K c hid f ρ)
theorem bf:DB X c [] ah:=λhid ρ=>PA.imp fQ λσ H Q ⟨sr,d,hd,q⟩=>by cases hd;exact q [] H (Same.refl _) .nil
theorem aI(ha:DP X c k e f)(hr:DB X c es fs)(hs:starEach (e::es) X.env=(false,eval e X.env)::starEach es X.env:=by rfl):DB X c (e::es) (ae f fs):=λhid ρ=>
 PA.imp (cC (ha hid ρ) (hr hid ρ) hs) λσ H Q hq_=>by
  obtain⟨sr,d,hd,q⟩:=hq_
  obtain⟨d1,r,e1,e2,rfl⟩:=i9 hd
  exact⟨sr,d1,e1,λv H1 s1 r1=>⟨sr.ext s1,r,e2,λvs H2 s2 r2=>q _ H2 (s1.trans s2) (.cons ((RK.b k r1 λa n=>sr.fresh n).ext s2) r2)⟩⟩
def fy(K:W.Frag)(k:Kd)(r:List V->Hp->VK->Prop)(F:List D->Option D):Prop:= ∀(H:Hp) (hid:bv) (vs:List V) (ds:List D) (d:D) (Q:VK),(∀a,H a=none->hid a=false)->F ds=some d->Reps1 K H (vw H hid) vs ds->
 (∀w H',Same H H'->RK K k H H' hid w d->Q w H')->r vs H Q
def aj(F:List D->Option D)(fs:FA):FE:=λρ=>(fs ρ).bind F
theorem fT {F:List D->Option D}{ρ:ax}{d:D}(h:aj F fs ρ=some d): ∃ds,fs ρ=some ds/\F ds=some d:=by
 unfold aj at h;cases e1:fs ρ with
 |none=>rw[e1] at h;cases h
 |some ds=>rw[e1] at h;exact⟨ds,rfl,h⟩
theorem wy {r:List V->Hp->VK->Prop}{F:List D->Option D}{hid:bv}{ρ:ax}(hF:fy X.K k r F){σ:St}{H:Hp}{Q:VK}(h:sf X.K c hid k (aj F fs) ρ σ H Q):xJ r (yp X.K c hid fs ρ) σ H Q:=by
 obtain⟨sr,d,hd,q⟩:=h
 obtain⟨ds,e1,e2⟩:=fT hd
 exact⟨sr,ds,e1,λvs H1 s1 r1=>hF H1 hid vs ds d Q (λa n=>(sr.ext s1).fresh n) e2 r1 λw H' s2 r2=>q w H' (s1.trans s2) (RK.left s1 r2)⟩
variable {x:Str}{p:Pos}{id T:String}{r:List V->Hp->VK->Prop}{F:List D->Option D}
theorem bp(hc:dC X (.builtin id) r)(hF:fy X.K k r F)(hm:X.mg x=none)(ha:DB X c (e::es) fs)(hg:Gl X x:=by rfl)(hv:bootBuiltins x=some (.builtin id):=by first|exact PySem.boot_len|rfl|kernel_rfl)(hn:x≠"__name__":=by decide)(hdb:(x==("__debug__":Str))=false:=by decide)
 (he:starEach (e::es) X.env=(false,eval e X.env)::starEach es X.env:=by rfl) (hpl:(backTo pos (starEach es X.env)).any (·.1)=false:=by rfl):DP X c k (.Call (.Name x p) (e::es) [] pos) (aj F fs):=λhid ρ=>
 PE.imp (mn hc hg hm hv (ha hid ρ) hn hdb he hpl) λσ H Q h=>wy hF h
theorem cn(hc:dC X (.type T) r)(hF:fy X.K k r F)(hm:X.mg x=none)(ha:DB X c (e::es) fs)(hg:Gl X x:=by rfl)(hv:bootBuiltins x=some (.type T):=by first|rfl|kernel_rfl)(hn:x≠"__name__":=by decide)(hdb:(x==("__debug__":Str))=false:=by decide)
 (he:starEach (e::es) X.env=(false,eval e X.env)::starEach es X.env:=by rfl) (hpl:(backTo pos (starEach es X.env)).any (·.1)=false:=by rfl):DP X c k (.Call (.Name x p) (e::es) [] pos) (aj F fs):=λhid ρ=>
 PE.imp (gU hc hg hm hv (ha hid ρ) hn hdb he hpl) λσ H Q h=>wy hF h
end
section
variable {K:W.Frag}
theorem Reps1.one {H W:Hp}{v:List V}{d:D}(r:Reps1 K H W v [d]): ∃x,v=[x]/\Rep1 K H W x d:=by
 cases r with
 |cons r t=>cases t;exact⟨_,rfl,r⟩
theorem Reps1.two {H W:Hp}{v:List V}{d d':D}(r:Reps1 K H W v [d,d']): ∃x y,v=[x,y]/\Rep1 K H W x d/\Rep1 K H W y d':=by
 cases r with
 |cons r t=>cases t with
  |cons r' t=>cases t;exact⟨_,_,rfl,r,r'⟩
def cf:List D->Option D
 | [.lst ds]=>some (.int ds.length)
 | [.tup ds]=>some (.int ds.length)
 | [.scr ds]=>some (.int ds.length)
 |_=>none
theorem eW:fy K .s (λxs H Q=> ∃p ys,xs=[.ref p]/\(SqL K H p ys\/SqT K H p ys)/\Q (.int ys.length) H) cf:=by
 intro H hid vs ds d Q hf h r q;unfold cf at h;split at h
 ·cases h
  obtain⟨x,rfl,r1⟩:=Reps1.one r
  obtain⟨a,xs,rfl,h1,h2⟩:=r1.lst
  exact⟨a,xs,rfl,.inl h1,by rw[h2.length];exact q _ H (Same.refl _) .int⟩
 ·cases h
  obtain⟨x,rfl,r1⟩:=Reps1.one r
  obtain⟨a,xs,rfl,_,h1,h2⟩:=r1.tup
  exact⟨a,xs,rfl,.inr h1,by rw[h2.length];exact q _ H (Same.refl _) .int⟩
 ·cases h
  obtain⟨x,rfl,r1⟩:=Reps1.one r
  obtain⟨a,xs,rfl,h1,h2⟩:=r1.scr
  exact⟨a,xs,rfl,.inl h1,by rw[h2.length];exact q _ H (Same.refl _) .int⟩
 ·cases h
def lS:List D->Option D
 | [.int i]=>some (.int (if i<0 then -i else i))
 |_=>none
theorem vk:fy K .s (λxs H Q=> ∃i,xs=[.int i]/\Q (.int (if i<0 then -i else i)) H) lS:=by
 intro H hid vs ds d Q hf h r q;unfold lS at h;split at h
 ·cases h
  obtain⟨x,rfl,r1⟩:=Reps1.one r
  cases r1.int
  exact⟨_,rfl,q _ H (Same.refl _) .int⟩
 ·cases h
def nQ:List D->Option D
 | [.int i,.int j]=>some (.int (if j>i then j else i))
 |_=>none
theorem sI:fy K .s (λxs H Q=> ∃i j,xs=[.int i,.int j]/\Q (.int (if j>i then j else i)) H) nQ:=by
 intro H hid vs ds d Q hf h r q;unfold nQ at h;split at h
 ·cases h
  obtain⟨x,y,rfl,r1,r2⟩:=Reps1.two r
  cases r1.int;cases r2.int
  exact⟨_,_,rfl,q _ H (Same.refl _) .int⟩
 ·cases h
def gC:List D->Option D
 | [.int i,.int j]=>some (.int (if j<i then j else i))
 |_=>none
theorem oA:fy K .s (λxs H Q=> ∃i j,xs=[.int i,.int j]/\Q (.int (if j<i then j else i)) H) gC:=by
 intro H hid vs ds d Q hf h r q;unfold gC at h;split at h
 ·cases h
  obtain⟨x,y,rfl,r1,r2⟩:=Reps1.two r
  cases r1.int;cases r2.int
  exact⟨_,_,rfl,q _ H (Same.refl _) .int⟩
 ·cases h
def bQ:List D->Option D
 | [.lst ds]=>some (.tup ds)
 | [.tup ds]=>some (.tup ds)
 |_=>none
theorem dJ:fy K .s (λxs H Q=> ∃p ys,xs=[.ref p]/\((SqL K H p ys/\ ∀l,H l=none->Q (.ref l) (aV H l (.tup ys)))\/(SqT K H p ys/\Q (.ref p) H))) bQ:=by
 intro H hid vs ds d Q hf h r q;unfold bQ at h;split at h
 ·cases h
  obtain⟨x,rfl,r1⟩:=Reps1.one r
  obtain⟨a,xs,rfl,h1,h2⟩:=r1.lst
  exact⟨a,xs,rfl,.inl ⟨h1,λl hl=>q _ _ (bM hl _) (ja hl (hf l hl) h2)⟩⟩
 ·cases h
  obtain⟨x,rfl,r1⟩:=Reps1.one r
  obtain⟨a,xs,rfl,h0,h1,h2⟩:=r1.tup
  exact⟨a,xs,rfl,.inr ⟨h1,q _ H (Same.refl _) (.tup h0 h2)⟩⟩
 ·cases h
def aO:D->D->Option D
 | .lst ds,.int i=>jp ds i
 | .tup ds,.int i=>jp ds i
 | .scr ds,.int i=>jp ds i
 |_,_=>none
theorem ky {F:Hp}{xs:List V}{ds:List D}{i:Int}{d:D}(r:Reps K F xs ds)(h:jp ds i=some d): ∃x,jp xs i=some x/\Rep K F x d:=by
 unfold jp at h⊢;rw[r.length];cases e:j4 ds.length i with
 |none=>rw[e] at h;cases h
 |some j=>
  rw[e] at h;obtain⟨x,h1,h2⟩:=r.get (i:=j) h
  exact⟨x,h1,h2⟩
theorem aQ:im K .s (yt K) aO:=by
 intro H hid v u x y d Q hf h r1 r2 q;unfold aO at h;split at h
 ·cases r2.int
  obtain⟨a,xs,rfl,h1,h2⟩:=r1.lst
  obtain⟨z,h3,h4⟩:=ky h2 h
  exact .inl ⟨a,xs,_,z,rfl,rfl,h1,h3,q _ H (Same.refl _) h4⟩
 ·cases r2.int
  obtain⟨a,xs,rfl,_,h1,h2⟩:=r1.tup
  obtain⟨z,h3,h4⟩:=ky h2 h
  exact .inr (.inl ⟨a,xs,_,z,rfl,rfl,h1,h3,q _ H (Same.refl _) h4⟩)
 ·cases r2.int
  obtain⟨a,xs,rfl,h1,h2⟩:=r1.scr
  obtain⟨z,h3,h4⟩:=ky h2 h
  exact .inl ⟨a,xs,_,z,rfl,rfl,h1,h3,q _ H (Same.refl _) h4⟩
 ·cases h
end
abbrev GE:=ax->Option (D×ax)
abbrev GA:=ax->Option (List D×ax)
def Kept(hid:bv)(H H':Hp):Prop:= ∀b o,H b=some o->hid b=false->H' b=some o
theorem Kept.of {hid:bv}{H H':Hp}(s:Same H H'):Kept hid H H':=λb o q _=>s b o q
theorem Kept.trans {hid:bv}{H H1 H2:Hp}(a:Kept hid H H1)(b:Kept hid H1 H2):Kept hid H H2:=λc o q h=>b c o (a c o q h) h
theorem Kept.vw {hid:bv}{H H':Hp}(a:Kept hid H H'):Same (vw H hid) (vw H' hid):=nX a
def PostE(K:W.Frag)(c:Ct)(hid:bv)(k:Kd)(ρ':ax)(σ:St)(H H':Hp)(v:V)(d:D):Prop:=Kept hid H H'/\match k with
 | .n=> ∃a xs ds,d=.lst ds/\v=.ref a/\H a=none/\H' a=some (.lst xs)/\c.H₀ a=none/\hid a=false/\SR K c (bR hid a) ρ' σ H'/\Reps K (vw H' (bR hid a)) xs ds/\ ∀i:Nat,Ow ρ'[i]? ->σ[i]? ≠some (some (.ref a))
 |_=>SR K c hid ρ' σ H'/\Rep K (vw H' hid) v d
def xh(K:W.Frag)(c:Ct)(hid:bv)(k:Kd)(f:GE)(ρ:ax):TE:=λσ H Q=>SR K c hid ρ σ H/\ ∃d ρ',f ρ=some (d,ρ')/\ ∀v H',PostE K c hid k ρ' σ H H' v d->Q v H'
def DE(X:Cx)(c:Ct)(k:Kd)(e:Expr)(f:GE):Prop:= ∀hid ρ,PE X e (xh X.K c hid k f ρ)
def pu(f:FE):GE:=λρ=>(f ρ).map λd=>(d,ρ)
theorem sH {f:FE}{ρ ρ':ax}{d:D}(h:pu f ρ=some (d,ρ')):f ρ=some d/\ρ'=ρ:=by
 unfold pu at h;cases e:f ρ with
 |none=>rw[e] at h;cases h
 |some x=>rw[e] at h;cases h;exact⟨rfl,rfl⟩
section
variable {K:W.Frag}{c:Ct}{hid hid':bv}{ρ:ax}{σ:St}{H H':Hp}{i:Nat}{a:Addr}
theorem bL {hid:bv}{a b:Addr}(h:hid b=true):bR hid a b=true:=by unfold bR;rw[h];rfl
theorem eO {hid:bv}{a:Addr}:bR hid a a=true:=by unfold bR;simp
theorem SR.hide(h:SR K c hid ρ σ H)(e:Same H H')(n:H a=none){o:HO}(ho:H' a=some o)(hn: ∀xs,o≠ .tup xs:=by intro _ e;cases e):SR K c (bR hid a) ρ σ H':=by
 have sm:Same (vw H hid) (vw H' (bR hid a)):=λb o q=>by
  obtain⟨q1,q2⟩:=vw_some.mp q
  refine vw_some.mpr ⟨?_,e _ _ q2⟩
  unfold bR;rw[q1];have:b≠a:=br q2 n
  simp[this]
 refine⟨λb hb=>?_,λb xs hb q=>by
  by_cases eb:b=a
  ·subst eb;rw[ho] at q;exact hn _ (Option.some.inj q)
  ·unfold bR at hb
   exact(h.ext e).ht b xs (by simpa [eb] using hb) q,λb q=>bL (h.h0 b q),(h.ext e).kp,(h.ext e).t0,h.c0,h.m0,h.len,λi s q=>?_,h.ap⟩
 ·by_cases eb:b=a
  ·subst eb;exact⟨_,ho⟩
  ·unfold bR at hb
   have:hid b=true:=by simpa [eb] using hb
   obtain⟨o',q⟩:=h.tr b this
   exact⟨o',e _ _ q⟩
 ·have z:=h.sl i s q
  cases s with
  |no=>trivial
  |v d=>obtain⟨x,h1,h2⟩:=z;exact⟨x,h1,h2.mono sm⟩
  |own ds=>obtain⟨a',xs,h1,h2,h3,h4,h5⟩:=z;exact⟨a',xs,h1,e _ _ h2,bL h3,h4,h5.mono sm⟩
  |arg ds=>obtain⟨a',xs,h1,h2,h3,h4,h5⟩:=z;exact⟨a',xs,h1,e _ _ h2,bL h3,h4,h5.mono sm⟩
  |ob b=>obtain⟨a',h1,h2⟩:=z;exact⟨a',h1,h2.mono (λ_ x _=>e x) sm λ_ _ _=>bL⟩
theorem SR.show(h:SR K c (bR hid a) ρ σ H)(h0: ∀b,c.hid₀ b=true->hid b=true)(no: ∀i:Nat,Ow ρ[i]? ->σ[i]? ≠some (some (.ref a))){o:HO}(ha:H a=some o)(hn: ∀p u,o≠ .nst p u:=by intro _ _ e;cases e):SR K c hid ρ σ H:=by
 have sm:Same (vw H (bR hid a)) (vw H hid):=e7 λb q=>bL q
 have un: ∀b,b≠a->bR hid a b=true->hid b=true:=λb nb hb=>by unfold bR at hb;simpa [nb] using hb
 refine⟨λb hb=>h.tr b (bL hb),λb xs hb=>h.ht b xs (bL hb),h0,h.kp,h.t0,h.c0,h.m0,h.len,λi s q=>?_,h.ap⟩
 have z:=h.sl i s q
 cases s with
 |no=>trivial
 |v d=>obtain⟨x,h1,h2⟩:=z;exact⟨x,h1,h2.mono sm⟩
 |own ds=>
  obtain⟨a',xs,h1,h2,h3,h4,h5⟩:=z
  have:a'≠a:=λe=>by subst e;exact no i (by rw[q];trivial) h1
  exact⟨a',xs,h1,h2,un a' this h3,h4,h5.mono sm⟩
 |arg ds=>
  obtain⟨a',xs,h1,h2,h3,h4,h5⟩:=z
  have:a'≠a:=λe=>by subst e;exact no i (by rw[q];trivial) h1
  exact⟨a',xs,h1,h2,un a' this h3,h4,h5.mono sm⟩
 |ob b=>
  obtain⟨a',h1,h2⟩:=z
  exact⟨a',h1,h2.mono (λ_ _ _ _ q=>q) sm λow x hx=>un x (hx.ne (λe=>by subst e;exact no i (by rw[q];exact ow) h1) ha hn)⟩
theorem SR.notOw(h:SR K c hid ρ σ H)(n:hid a=false)(i:Nat)(o:Ow ρ[i]?):σ[i]? ≠some (some (.ref a)):=λe=>by
 cases q:ρ[i]? with
 |none=>rw[q] at o;exact o
 |some s=>
  rw[q] at o;have z:=h.sl i s q
  cases s with
  |no=>exact o
  |v d=>exact o
  |own ds=>obtain⟨a',xs,h1,h2,h3,_⟩:=z;rw[e] at h1;cases h1;rw[n] at h3;cases h3
  |arg ds=>obtain⟨a',xs,h1,h2,h3,_⟩:=z;rw[e] at h1;cases h1;rw[n] at h3;cases h3
  |ob b=>obtain⟨a',h1,h2⟩:=z;rw[e] at h1;cases h1;have:=h2.hid o;rw[n] at this;cases this
theorem SR.post {k:Kd}{v:V}{d:D}(h:SR K c hid ρ σ H)(e:Same H H')(r:RK K k H H' hid v d)(hk:k≠ .b):PostE K c hid k ρ σ H H' v d:=by
 cases k with
 |b=>exact absurd rfl hk
 |s=>exact⟨.of e,h.ext e,r⟩
 |n=>
  obtain⟨a,xs,ds,h1,h2,h3,h4,h5⟩:=r
  exact⟨.of e,a,xs,ds,h1,h2,h3,h4,h.fresh0 h3,h.fresh h3,h.hide e h3 h4,h5,h.notOw (h.fresh h3)⟩
theorem PostE.left {k:Kd}{ρ':ax}{H1:Hp}{v:V}{d:D}(s:Kept hid H H1)(p:PostE K c hid k ρ' σ H1 H' v d):PostE K c hid k ρ' σ H H' v d:=by
 cases k with
 |b=>exact⟨s.trans p.1,p.2⟩
 |s=>exact⟨s.trans p.1,p.2⟩
 |n=>
  obtain⟨kp,a,xs,ds,h1,h2,hn,h3,h4,h5,h6⟩:=p
  refine⟨s.trans kp,a,xs,ds,h1,h2,?_,h3,h4,h5,h6⟩
  cases e:H a with
  |none=>rfl
  |some o=>rw[s a o e h5] at hn;cases hn
theorem PostE.toS {ρ':ax}{v:V}{d:D}(h0: ∀b,c.hid₀ b=true->hid b=true)(p:PostE K c hid .n ρ' σ H H' v d):PostE K c hid .s ρ' σ H H' v d:=by
 obtain⟨kp,a,xs,ds,rfl,rfl,hn,h1,h2,h3,h4,h5,h6⟩:=p
 exact⟨kp,h4.show h0 h6 h1,.lst (vw_some.mpr ⟨h3,h1⟩) (h5.mono (e7 λb q=>bL q))⟩
end
section
variable {X:Cx}{c:Ct}{e a b:Expr}{es rest:List Expr}{f g:GE}{k:Kd}{pos:Pos}
theorem DP.ef {f:FE}(h:DP X c k e f)(hk:k≠ .b:=by decide):DE X c k e (pu f):=λhid ρ=>PE.imp (h hid ρ) λσ H Q hq_=>by
 obtain⟨sr,d,ρ',hd,q⟩:=hq_
 obtain⟨h1,rfl⟩:=sH hd
 exact⟨sr,d,h1,λv H' s r=>q v H' (sr.post s r hk)⟩
theorem DE.toS(h:DE X c .n e f):DE X c .s e f:=λhid ρ=>PE.imp (h hid ρ) λσ H Q ⟨sr,d,ρ',hd,q⟩=>⟨sr,d,ρ',hd,λv H' p=>q v H' (p.toS sr.h0)⟩
def bE {α:Type}(f:GE)(g:D->ax->Option α):ax->Option α:=λρ=>(f ρ).bind λp=>g p.1 p.2
theorem ka {α:Type}{g:D->ax->Option α}{ρ:ax}{z:α}(h:bE f g ρ=some z): ∃d ρ',f ρ=some (d,ρ')/\g d ρ'=some z:=by
 unfold bE at h;cases e:f ρ with
 |none=>rw[e] at h;cases h
 |some p=>rw[e] at h;exact⟨p.1,p.2,rfl,h⟩
def iG(F:D->D->Option D)(f g:GE):GE:=bE f λx=>bE g λy ρ=>(F x y).map λd=>(d,ρ)
theorem oZ {F:D->D->Option D}{ρ ρ':ax}{d:D}(h:iG F f g ρ=some (d,ρ')): ∃x ρ1 y,f ρ=some (x,ρ1)/\g ρ1=some (y,ρ')/\F x y=some d:=by
 obtain⟨x,ρ1,h1,h2⟩:=ka h
 obtain⟨y,ρ2,h3,h4⟩:=ka h2
 cases e:F x y with
 |none=>rw[e] at h4;cases h4
 |some z=>rw[e] at h4;cases h4;exact⟨x,ρ1,y,h1,h3,e⟩
theorem xD {r:R2}{F:D->D->Option D}{hid:bv}{ρ:ax}(hF:im X.K k r F)(hk:k≠ .b){σ:St}{H:Hp}{Q:VK}(h:xh X.K c hid k (iG F f g) ρ σ H Q):vX r (xh X.K c hid .s f ρ) (λσ H Q=> ∃ρ1,xh X.K c hid .s g ρ1 σ H Q) σ H Q:=by
 obtain⟨sr,d,ρ',hd,q⟩:=h
 obtain⟨x,ρ1,y,e1,e2,e3⟩:=oZ hd
 refine⟨sr,x,ρ1,e1,λv H1 ⟨k1,s1,r1⟩=>⟨ρ1,s1,y,ρ',e2,λu H2 ⟨k2,s2,r2⟩=>?_⟩⟩
 exact hF H2 hid v u x y d Q (λa n=>s2.fresh n) e3 (.inl (r1.mono k2.vw)) (.inl r2) λw H' s3 r3=>q w H' (PostE.left (k1.trans k2) (s2.post s3 r3 hk))
theorem ii {α:Type}{t:α->TE}(h: ∀z,PE X e (t z)):PE X e (λσ H Q=> ∃z,t z σ H Q):=λaa s σ H Q I ⟨z,q⟩=>h z aa s σ H Q I q
theorem v5 {op:Operator}{r:R2}{F:D->D->Option D}(ho:fR X (binaryOp op) r)(hF:im X.K k r F)(ha:DE X c .s a f)(hb:DE X c .s b g)(hk:k≠ .b:=by decide):DE X c k (.BinOp a op b pos) (iG F f g):=λhid ρ=>
 PE.imp (t8 ho (ha hid ρ) (ii λρ1=>hb hid ρ1)) λσ H Q h=>xD hF hk h
def yH(K:W.Frag)(c:Ct)(hid:bv)(f:GA)(ρ:ax):TA:=λσ H Q=>SR K c hid ρ σ H/\ ∃d ρ',f ρ=some (d,ρ')/\ ∀vs H',Kept hid H H'->SR K c hid ρ' σ H'->Reps K (vw H' hid) vs d->Q vs H'
def DG(X:Cx)(c:Ct)(es:List Expr)(f:GA):Prop:= ∀hid ρ,PA X es (yH X.K c hid f ρ)
def cu(f:FA):GA:=λρ=>(f ρ).map λd=>(d,ρ)
theorem lL {f:FA}{ρ ρ':ax}{d:List D}(h:cu f ρ=some (d,ρ')):f ρ=some d/\ρ'=ρ:=by
 unfold cu at h;cases e:f ρ with
 |none=>rw[e] at h;cases h
 |some x=>rw[e] at h;cases h;exact⟨rfl,rfl⟩
theorem DA.gf {f:FA}(h:DA X c es f):DG X c es (cu f):=λhid ρ=>PA.imp (h hid ρ) λσ H Q hq_=>by
 obtain⟨sr,d,ρ',hd,q⟩:=hq_
 obtain⟨h1,rfl⟩:=lL hd
 exact⟨sr,d,h1,λv H' s r=>q v H' (.of s) (sr.ext s) r⟩
def ei(f:GE)(fs:GA):GA:=bE f λd ρ=>(fs ρ).map λp=>(d::p.1,p.2)
theorem wB {α:Type}{t:α->TA}(h: ∀z,PA X es (t z)):PA X es (λσ H Q=> ∃z,t z σ H Q):=λp aa s σ H Q I ⟨z,q⟩=>h z p aa s σ H Q I q
theorem kX {fs:GA}(ha:DE X c .s e f)(hr:DG X c es fs)(hs:starEach (e::es) X.env=(false,eval e X.env)::starEach es X.env:=by rfl):DG X c (e::es) (ei f fs):=λhid ρ=>
 PA.imp (cC (ha hid ρ) (wB λρ1=>hr hid ρ1) hs) λσ H Q hq_=>by
  obtain⟨sr,d,ρ',hd,q⟩:=hq_
  obtain⟨d1,ρ1,e1,h2⟩:=ka hd
  cases e2:fs ρ1 with
  |none=>rw[e2] at h2;cases h2
  |some p=>
   rw[e2] at h2;obtain⟨ds,ρ2⟩:=p
   cases h2
   exact⟨sr,d1,ρ1,e1,λv H1 ⟨k1,s1,r1⟩=>⟨ρ1,s1,ds,_,e2,λvs H2 k2 s2 r2=>q _ H2 (k1.trans k2) s2 (.cons (r1.mono k2.vw) r2)⟩⟩
end
def gB(K:W.Frag)(k:Kd)(n:Nat)(P:List D->Option D):Sp:=λvs H Q _=> ∃hid ds,vY hid H/\Reps K (vw H hid) vs ds/\ds.length=n/\ ∃d,P ds=some d/\ ∀v H',Same H H'->RK K k H H' hid v d->Q v H'
def wz(K:W.Frag)(k:Kd)(hid:bv)(H H':Hp)(v:V)(d:D)(xs':List V)(bs':List D):Prop:=match k with
 | .n=> ∃p ys es,d=.lst es/\v=.ref p/\H p=none/\H' p=some (.lst ys)/\Reps K (vw H' (bR hid p)) ys es/\Reps K (vw H' (bR hid p)) xs' bs'
 |_=>Rep K (vw H' hid) v d/\Reps K (vw H' hid) xs' bs'
def oN(K:W.Frag)(k:Kd)(n:Nat)(M:List D->List D->Option (D×List D)):Sp:=λvs H Q _=> ∃hid a xs bs us ds,vs=.ref a::us/\vY hid H/\hid a=true/\H a=some (.lst xs)/\Reps K (vw H hid) xs bs/\
 Reps K (vw H hid) us ds/\ds.length=n/\ ∃d bs',M bs ds=some (d,bs')/\ ∀v H' xs',(∀b o,H b=some o->b≠a->H' b=some o)->H' a=some (.lst xs')->wz K k hid H H' v d xs' bs'->Q v H'
section
variable {X:Cx}{c:Ct}{e a b:Expr}{es rest:List Expr}{k:Kd}{pos p:Pos}{x:Str}{f:Addr}{fd:FuncData}{ps:List Str}{j n:Nat}
theorem tz {P:List D->Option D}{fs:FA}(F:FnOk X.prog X.w X.K X.mg X.base lg j f fd ps (gB X.K k n P))(hr:Room j X.A)(hm:X.mg x=some (.ref f))(hk:W.keepIn X.K (.ref f)=true)(hb:Binds X.K fd ps [])
 (ha:DA X c (e::es) fs) (hg:Gl X x:=by rfl) (hdb:(x==("__debug__":Str))=false:=by decide) (he:starEach (e::es) X.env=(false,eval e X.env)::starEach es X.env:=by rfl) (hpl:(backTo pos (starEach es X.env)).any (·.1)=false:=by rfl):
 DP X c k (.Call (.Name x p) (e::es) [] pos) (aj (λds=>if ds.length=n then P ds else none) fs):=λhid ρ=>
 PE.imp (oh F hr hg hm hk hb .nil (ud (X:=X)) (ha hid ρ) hdb he hpl) λσ H Q hq_=>by
  obtain⟨sr,d,hd,q⟩:=hq_
  obtain⟨ds,e1,e2⟩:=fT hd
  have e2':(if ds.length=n then P ds else none)=some d:=e2
  split at e2'
  ·refine⟨sr,ds,e1,λvs H1 s1 r1=>?_⟩
   show gB X.K k n P (vs++[]) H1 Q E0;rw[List.append_nil];exact⟨hid,ds,(sr.ext s1).trk,r1, ‹_›,d,e2',λv H' s2 r2=>q v H' (s1.trans s2) (RK.left s1 r2)⟩
  ·cases e2'
def eJ(i:Nat)(bs:List D)(ρ:ax):ax:=match ρ[i]? with
 |some (.own _)=>ρ.set i (.own bs)
 |some (.arg _)=>ρ.set i (.arg bs)
 |_=>ρ
def fo(i:Nat)(ρ:ax):Option (List D):=match ρ[i]? with
 |some (.own ds)=>some ds
 |some (.arg ds)=>some ds
 |_=>none
theorem eM {i:Nat}{ρ:ax}{bs:List D}(h:fo i ρ=some bs):ρ[i]? =some (.own bs)\/ρ[i]? =some (.arg bs):=by
 unfold fo at h;split at h
 ·cases h;exact .inl ‹_›
 ·cases h;exact .inr ‹_›
 ·cases h
theorem SR.held {K:W.Frag}{hid:bv}{ρ:ax}{σ:St}{H:Hp}{i:Nat}{bs:List D}(h:SR K c hid ρ σ H)(hg:fo i ρ=some bs): ∃a xs,σ[i]? =some (some (.ref a))/\H a=some (.lst xs)/\hid a=true/\Reps K (vw H hid) xs bs/\(c.mu a=true\/c.H₀ a=none):=by
 rcases eM hg with e|e
 ·obtain⟨a,xs,h1,h2,h3,h4,h5⟩:=h.sl i _ e
  exact⟨a,xs,h1,h2,h3,h5,.inr h4⟩
 ·obtain⟨a,xs,h1,h2,h3,h4,h5⟩:=h.sl i _ e
  exact⟨a,xs,h1,h2,h3,h5,.inl h4⟩
theorem fP {i j:Nat}{ρ:ax}{bs:List D}(h:j≠i):(eJ i bs ρ)[j]? =ρ[j]? :=by
 unfold eJ;split
 ·rw[List.getElem?_set_ne (Ne.symm h)]
 ·rw[List.getElem?_set_ne (Ne.symm h)]
 ·rfl
theorem qU {i:Nat}{ρ:ax}{bs:List D}:(eJ i bs ρ).length=ρ.length:=by
 unfold eJ;split
 ·simp
 ·simp
 ·rfl
theorem kE {i j:Nat}{ρ:ax}{bs:List D}(h:Ow (eJ i bs ρ)[j]?):Ow ρ[j]? :=by
 by_cases e:j=i
 ·subst e
  unfold eJ at h;split at h
  ·rw[‹ρ[j]? =_›];trivial
  ·rw[‹ρ[j]? =_›];trivial
  ·exact h
 ·rw[fP e] at h;exact h
theorem SR.put {K:W.Frag}{hid:bv}{ρ:ax}{σ:St}{H H':Hp}{i:Nat}{bs bs':List D}{a:Addr}{xs':List V}(h:SR K c hid ρ σ H)(hg:fo i ρ=some bs)(ha:σ[i]? =some (some (.ref a)))(kp: ∀b o,H b=some o->b≠a->H' b=some o)
 (hx:H' a=some (.lst xs')) (r:Reps K (vw H' hid) xs' bs'):SR K c hid (eJ i bs' ρ) σ H':=by
 obtain⟨a1,xs,h1,h2,h3,h4,h5⟩:=h.held hg
 rw[ha] at h1;cases h1;have sm:Same (vw H hid) (vw H' hid):=nX λb o q hb=>kp b o q (λe=>by subst e;rw[h3] at hb;cases hb)
 have tr': ∀b o,H b=some o-> ∃o',H' b=some o':=λb o q=>by
  by_cases e:b=a
  ·subst e;exact⟨_,hx⟩
  ·exact⟨o,kp b o q e⟩
 refine⟨λb hb=>let⟨o,q⟩:=h.tr b hb;tr' b o q,λb xs hb q=>by
  by_cases e:b=a
  ·subst e;rw[hx] at q;cases q
  ·obtain⟨o,w⟩:=h.tr b hb
   have z:=kp b o w e
   rw[q] at z;cases z;exact h.ht b xs hb w,h.h0,λb o q m=>?_,λb o q=>let⟨o',q'⟩:=h.t0 b o q;tr' b o' q',h.c0,h.m0,by rw[qU];exact h.len,λj s q=>?_,λj l z n o1 o2=>h.ap j l z n (kE o1) (kE o2)⟩
 ·refine kp b o (h.kp b o q m) λe=>?_
  subst e;rcases h5 with h5|h5
  ·rw[h5] at m;cases m
  ·rw[h5] at q;cases q
 ·by_cases e:j=i
  ·subst e
   rcases eM hg with w|w
   ·have lt:=(List.getElem?_eq_some_iff.mp w).1
    unfold eJ at q;rw[w] at q;dsimp only at q;rw[List.getElem?_set_self lt] at q;cases q
    obtain⟨a2,xs2,g1,g2,g3,g4,g5⟩:=h.sl j _ w
    rw[ha] at g1;cases g1;exact⟨_,xs',ha,hx,g3,g4,r⟩
   ·have lt:=(List.getElem?_eq_some_iff.mp w).1
    unfold eJ at q;rw[w] at q;dsimp only at q;rw[List.getElem?_set_self lt] at q;cases q
    obtain⟨a2,xs2,g1,g2,g3,g4,g5⟩:=h.sl j _ w
    rw[ha] at g1;cases g1;exact⟨_,xs',ha,hx,g3,g4,r⟩
  ·rw[fP e] at q
   have z:=h.sl j s q
   cases s with
   |no=>trivial
   |v d=>obtain⟨x,h1,h2⟩:=z;exact⟨x,h1,h2.mono sm⟩
   |own ds=>
    obtain⟨a',xs,z1,z2,z3,z4,z5⟩:=z
    have ne:a'≠a:=λe'=>by
     subst e';refine h.ap j i a' e (by rw[q];trivial) ?_ z1 ha
     rcases eM hg with w|w<;>rw[w]<;>trivial
    exact⟨a',xs,z1,kp _ _ z2 ne,z3,z4,z5.mono sm⟩
   |arg ds=>
    obtain⟨a',xs,z1,z2,z3,z4,z5⟩:=z
    have ne:a'≠a:=λe'=>by
     subst e';refine h.ap j i a' e (by rw[q];trivial) ?_ z1 ha
     rcases eM hg with w|w<;>rw[w]<;>trivial
    exact⟨a',xs,z1,kp _ _ z2 ne,z3,z4,z5.mono sm⟩
   |ob b=>
    obtain⟨a',z1,z2⟩:=z
    refine⟨a',z1,z2.mono (λow x hx o w=>kp _ _ w (hx.ne (λe'=>?_) h2)) sm λ_ _ _ w=>w⟩
    subst e';refine h.ap j i a' e (by rw[q];exact ow) ?_ z1 ha
    rcases eM hg with w|w<;>rw[w]<;>trivial
def aK(i n:Nat)(M:List D->List D->Option (D×List D))(fs:GA):GE:=λρ=>match fo i ρ with
 |none=>none
 |some _=>match fs ρ with
  |none=>none
  |some (ds,ρ1)=>match fo i ρ1 with
   |none=>none
   |some bs=>if ds.length=n then match M bs ds with
     |none=>none
     |some (d,bs')=>some (d,eJ i bs' ρ1) else none
theorem iT {i:Nat}{M:List D->List D->Option (D×List D)}{fs:GA}{ρ ρ':ax}{d:D}(h:aK i n M fs ρ=some (d,ρ')): ∃bs0 ds ρ1 bs bs',fo i ρ=some bs0/\fs ρ=some (ds,ρ1)/\fo i ρ1=some bs/\ds.length=n/\M bs ds=some (d,bs')/\ρ'=eJ i bs' ρ1:=by
 unfold aK at h;split at h
 ·cases h
 ·split at h
  ·cases h
  ·split at h
   ·cases h
   ·split at h
    ·split at h
     ·cases h
     ·cases h;exact⟨_,_,_,_,_, ‹_›, ‹_›, ‹_›, ‹_›, ‹_›,rfl⟩
    ·cases h
theorem qt(i:Nat){y:Str}{py:Pos}{M:List D->List D->Option (D×List D)}{fs:GA}(F:FnOk X.prog X.w X.K X.mg X.base lg j f fd ps (oN X.K k n M))(hr:Room j X.A)(hm:X.mg x=some (.ref f))(hk:W.keepIn X.K (.ref f)=true)(hb:Binds X.K fd ps [])
 (ha:DG X c es fs) (hkb:k≠ .b:=by decide) (hN:X.N[i]? =some y:=by rfl) (hv:oW X.env.scope y:=by first|exact Or.inl rfl|exact Or.inr (Or.inl rfl)|exact Or.inr (Or.inr rfl)) (hd:(y==("__debug__":Str))=false:=by decide)
 (hcd:(y==("__classdict__":Str))=false:=by decide) (hs:starEach (.Name y py::es) X.env=(false,eval (.Name y py) X.env)::starEach es X.env:=by rfl) (hg:Gl X x:=by rfl) (hdb:(x==("__debug__":Str))=false:=by decide) (hpl:(backTo pos (starEach es X.env)).any (·.1)=false:=by rfl):
 DE X c k (.Call (.Name x p) (.Name y py::es) [] pos) (aK i n M fs):=λhid ρ=>
 PE.imp (oh F hr hg hm hk hb .nil (ud (X:=X)) (cC (pv i hN hv hd hcd) (ha hid ρ) hs) hdb hs hpl) λσ H Q hq_=>by
  obtain⟨sr,d,ρ',hd',q⟩:=hq_
  obtain⟨bs0,ds,ρ1,bs,bs',e0,e1,e2,e3,e4,rfl⟩:=iT hd'
  obtain⟨a,xs0,a1,_,a3,_,_⟩:=sr.held e0
  refine⟨.ref a,a1,sr,ds,ρ1,e1,λus H1 k1 s1 r1=>?_⟩
  obtain⟨a',xs,b1,b2,b3,b4,b5⟩:=s1.held e2
  rw[a1] at b1;cases b1;show oN X.K k n M ((.ref a::us)++[]) H1 Q E0;rw[List.append_nil];refine⟨hid,a,xs,bs,us,ds,rfl,s1.trk,b3,b2,b4,r1,e3,d,bs',e4,λv H' xs' kp hx hr'=>q v H' ?_⟩
  have kp':Kept hid H1 H':=λb o q hb=>kp b o q λe=>by subst e;rw[b3] at hb;cases hb
  cases k with
  |b=>exact absurd rfl hkb
  |s=>exact⟨k1.trans kp',s1.put e2 a1 kp hx hr'.2,hr'.1⟩
  |n=>
   obtain⟨p',ys,es',rfl,rfl,h1,h2,h3,h4⟩:=hr'
   have np:hid p'=false:=s1.fresh h1
   have na:a≠p':=λe=>by subst e;rw[b2] at h1;cases h1
   have sB:SR X.K c (bR hid p') ρ1 σ (aV H1 p' (.lst ys)):=s1.hide (bM h1 _) h1 ay
   have kp2: ∀b o,(aV H1 p' (.lst ys)) b=some o->b≠a->H' b=some o:=λb o z hb=>by
    by_cases e:b=p'
    ·subst e;rw[ay] at z;cases z;exact h2
    ·rw[ar e] at z;exact kp b o z hb
   have sC:SR X.K c (bR hid p') (eJ i bs' ρ1) σ H':=sB.put e2 a1 kp2 hx h4
   have hn:H p'=none:=by
    cases e:H p' with
    |none=>rfl
    |some o=>rw[k1 p' o e np] at h1;cases h1
   refine⟨k1.trans kp',p',ys,es',rfl,rfl,hn,h2,s1.fresh0 h1,np,sC,h3,λm hm hσ=>?_⟩
   have:=s1.notOw np m (kE hm)
   exact this hσ
end
inductive Out where
 |nx (ρ:ax)|rt (d:D) (ρ:ax)|bk (ρ:ax)|ct (ρ:ax)|no
abbrev FS:=ax->Out
def xA(c:Ct)(k:Kd)(v:V):bv:=match k,v with
 | .n,.ref a=>bR c.hid₀ a
 |_,_=>c.hid₀
structure Ret(K:W.Frag)(c:Ct)(k:Kd)(ρ':ax)(H':Hp)(v:V)(d:D):Prop where
 kp: ∀b o,c.H₀ b=some o->c.mu b=false->H' b=some o
 val:match k with
  | .n=> ∃a xs ds,d=.lst ds/\v=.ref a/\c.H₀ a=none/\H' a=some (.lst xs)/\Reps K (vw H' (bR c.hid₀ a)) xs ds
  |_=>Rep K (vw H' c.hid₀) v d
 arg: ∀(i:Nat) (bs:List D),ρ'[i]? =some (Sl.arg bs)-> ∃a xs,c.mu a=true/\H' a=some (.lst xs)/\Reps K (vw H' (xA c k v)) xs bs
def EndOk(K:W.Frag)(c:Ct)(k:Kd)(D:Ends)(W:Hp):Out->Prop
 | .nx ρ'=> ∀σ' H' hid',SR K c hid' ρ' σ' H'->Same W (vw H' hid')->D.nx σ' H'
 | .rt d ρ'=> ∀v H',Ret K c k ρ' H' v d->D.rt v H'
 | .bk ρ'=> ∀σ' H' hid',SR K c hid' ρ' σ' H'->Same W (vw H' hid')->D.bk σ' H'
 | .ct ρ'=> ∀σ' H' hid',SR K c hid' ρ' σ' H'->Same W (vw H' hid')->D.ct σ' H'
 | .no=>False
theorem EndOk.mono {K:W.Frag}{c:Ct}{k:Kd}{D:Ends}{W W':Hp}{o:Out}(h:EndOk K c k D W o)(s:Same W W'):EndOk K c k D W' o:=by
 cases o with
 |nx ρ=>exact λσ' H' hid' z w=>h σ' H' hid' z (s.trans w)
 |rt d ρ=>exact h
 |bk ρ=>exact λσ' H' hid' z w=>h σ' H' hid' z (s.trans w)
 |ct ρ=>exact λσ' H' hid' z w=>h σ' H' hid' z (s.trans w)
 |no=>exact h
def ym(K:W.Frag)(c:Ct)(k:Kd)(t:FS)(ρ:ax):TS:=λD σ H=> ∃hid,SR K c hid ρ σ H/\EndOk K c k D (vw H hid) (t ρ)
def DS(X:Cx)(c:Ct)(k:Kd)(st:Stmt)(t:FS):Prop:= ∀ρ,PS X st (ym X.K c k t ρ)
def oJ(X:Cx)(c:Ct)(k:Kd)(st:List Stmt)(t:FS):Prop:= ∀ρ,PSs X st (ym X.K c k t ρ)
section
variable {X:Cx}{c:Ct}{k:Kd}{st:Stmt}{sts rest:List Stmt}{t u:FS}{e:Expr}{pos:Pos}
theorem nW {α:Type}{t:α->TS}(h: ∀z,PSs X sts (t z)):PSs X sts (λD σ H=> ∃z,t z D σ H):=λaa s σ H D I ⟨z,q⟩=>h z aa s σ H D I q
theorem vU {α:Type}{t:α->TT}(h: ∀z,PT X e (t z)):PT X e (λD σ H=> ∃z,t z D σ H):=λaa s σ H D I ⟨z,q⟩=>h z aa s σ H D I q
def skip:FS:=λρ=>.nx ρ
def av(t u:FS):FS:=λρ=>match t ρ with
 | .nx ρ'=>u ρ'
 | .rt d ρ'=>.rt d ρ'
 | .bk ρ'=>.bk ρ'
 | .ct ρ'=>.ct ρ'
 | .no=>.no
theorem cq:oJ X c k [] skip:=λρ=>PSs.imp oa λD σ H ⟨hid,sr,q⟩=>q σ H hid sr (Same.refl _)
theorem aD(h:DS X c k st t):oJ X c k [st] t:=λρ=>n9 (h ρ)
theorem ao(h1:DS X c k st t)(h2:oJ X c k rest u):oJ X c k (st::rest) (av t u):=λρ=>
 PSs.imp (lm (h1 ρ) (nW λρ1=>h2 ρ1)) λD σ H hq_=>by
  obtain⟨hid,sr,q⟩:=hq_
  refine⟨hid,sr,?_⟩
  unfold av at q;cases e:t ρ with
  |nx ρ1=>rw[e] at q;exact λσ1 H1 hid1 sr1 v1=>⟨ρ1,hid1,sr1,EndOk.mono q v1⟩
  |rt d ρ1=>rw[e] at q;exact q
  |bk ρ1=>rw[e] at q;exact q
  |ct ρ1=>rw[e] at q;exact q
  |no=>rw[e] at q;exact q
def dL(p:FT)(t u:FS):FS:=λρ=>match p ρ with
 |some true=>t ρ
 |some false=>u ρ
 |none=>.no
theorem eD {p:FT}{a b:List Stmt}(hp:DT X c e p)(ha:oJ X c k a t)(hb:oJ X c k b u):DS X c k (.If e a b pos) (dL p t u):=λρ=>
 PS.imp (uo (vU λhid=>hp hid ρ) (ha ρ) (hb ρ)) λD σ H hq_=>by
  obtain⟨hid,sr,q⟩:=hq_
  cases e1:p ρ with
  |none=>unfold dL at q;rw[e1] at q;exact q.elim
  |some x=>
   refine⟨hid,sr,x,e1,λH1 s1=>?_⟩
   unfold dL at q;rw[e1] at q;cases x with
   |true=>exact mM ⟨hid,sr.ext s1,EndOk.mono q (aH s1)⟩
   |false=>exact m8 ⟨hid,sr.ext s1,EndOk.mono q (aH s1)⟩
def aM(f:FE):FS:=λρ=>match f ρ with
 |some d=>.rt d ρ
 |none=>.no
theorem uk {K:W.Frag}{hid:bv}{ρ':ax}{σ:St}{H H':Hp}{v:V}{d:D}(hk:k≠ .b)(p:PostE K c hid k ρ' σ H H' v d)(h0: ∀b,c.hid₀ b=true->hid b=true):Ret K c k ρ' H' v d:=by
 cases k with
 |b=>exact absurd rfl hk
 |s=>
  obtain⟨_,sr,r⟩:=p
  refine⟨sr.kp,r.mono (e7 sr.h0),λi bs e=>?_⟩
  obtain⟨a,xs,z1,z2,z3,z4,z5⟩:=sr.sl i _ e
  refine⟨a,xs,z4,z2,?_⟩
  show Reps K (vw H' c.hid₀) xs bs;exact z5.mono (e7 sr.h0)
 |n=>
  obtain⟨_,a,xs,ds,rfl,rfl,_,h1,h2,h3,sr,h5,h6⟩:=p
  have le:Same (vw H' (bR hid a)) (vw H' (bR c.hid₀ a)):=e7 λb q=>by
   unfold bR at q⊢;cases e:c.hid₀ b with
   |true=>rw[h0 b e];rfl
   |false=>rw[e] at q;rw[Bool.or_eq_true];right;simpa using q
  refine⟨sr.kp,⟨a,xs,ds,rfl,rfl,h2,h1,h5.mono le⟩,λi bs e=>?_⟩
  obtain⟨a',xs',z1,z2,z3,z4,z5⟩:=sr.sl i _ e
  exact⟨a',xs',z4,z2,z5.mono le⟩
theorem ba {f:FE}(he:DP X c k e f)(hk:k≠ .b:=by decide):DS X c k (.Return (some e) pos) (aM f):=λρ=>PS.imp (qJ (ii λhid=>he hid ρ)) λD σ H hq_=>by
 obtain⟨hid,sr,q⟩:=hq_
 unfold aM at q;cases e1:f ρ with
 |none=>rw[e1] at q;exact q.elim
 |some z=>rw[e1] at q;exact⟨hid,sr,_,e1,λv H' s r=>q v H' (uk hk (sr.post s r hk) sr.h0)⟩
def pS:Option Sl->Option (List D)
 |some (.own ds)=>some ds
 |_=>none
def rY(i:Nat):FS:=λρ=>match pS ρ[i]? with
 |some ds=>.rt (.lst ds) ρ
 |none=>.no
theorem oR {o:Option Sl}{ds:List D}(h:pS o=some ds):o=some (.own ds):=by
 unfold pS at h;split at h
 ·cases h;rfl
 ·cases h
theorem tF(i:Nat){x:Str}{pos':Pos}(hN:X.N[i]? =some x:=by rfl)(hv:oW X.env.scope x:=by first|exact Or.inl rfl|exact Or.inr (Or.inl rfl)|exact Or.inr (Or.inr rfl))(hd:(x==("__debug__":Str))=false:=by decide)
 (hcd:(x==("__classdict__":Str))=false:=by decide):DS X c .n (.Return (some (.Name x pos')) pos) (rY i):=λρ=>PS.imp (qJ (pv i hN hv hd hcd)) λD σ H hq_=>by
 obtain⟨hid,sr,q⟩:=hq_
 unfold rY at q;cases e0:pS ρ[i]? with
 |none=>rw[e0] at q;exact q.elim
 |some ds=>
  rw[e0] at q;have e:=oR e0
  obtain⟨a,xs,z1,z2,z3,z4,z5⟩:=sr.sl i _ e
  have le:Same (vw H hid) (vw H (bR c.hid₀ a)):=e7 λb w=>by
   unfold bR at w;cases e:c.hid₀ b with
   |true=>exact sr.h0 b e
   |false=>
    rw[e] at w;have:b=a:=by simpa using w
    rw[this];exact z3
  refine⟨_,z1,q _ H ⟨sr.kp,⟨a,xs,ds,rfl,rfl,z4,z2,z5.mono le⟩,λj bs e'=>?_⟩⟩
  obtain⟨a',xs',w1,w2,w3,w4,w5⟩:=sr.sl j _ e'
  exact⟨a',xs',w4,w2,w5.mono le⟩
end
section
variable {K:W.Frag}{c:Ct}{hid:bv}{ρ:ax}{σ:St}{H H':Hp}{i:Nat}{a:Addr}{v:V}{d:D}
theorem SR.setV(h:SR K c hid ρ σ H)(r:Rep K (vw H hid) v d)(i:Nat):SR K c hid (ρ.set i (.v d)) (σ.set i (some v)) H:=by
 refine⟨h.tr,h.ht,h.h0,h.kp,h.t0,h.c0,h.m0,by simp[h.len],λj s q=>?_,λj l z n o1 o2 q1 q2=>?_⟩
 ·by_cases e:j=i
  ·subst e
   have lt:j<ρ.length:=by
    have:=(List.getElem?_eq_some_iff.mp q).1
    simpa using this
   rw[List.getElem?_set_self lt] at q;cases q
   exact⟨v,List.getElem?_set_self (by rw[h.len];exact lt),r⟩
  ·rw[List.getElem?_set_ne (Ne.symm e)] at q
   have w:=h.sl j s q
   have es:(σ.set i (some v))[j]? =σ[j]? :=List.getElem?_set_ne (Ne.symm e)
   cases s with
   |no=>trivial
   |v d=>obtain⟨x,h1,h2⟩:=w;exact⟨x,es.trans h1,h2⟩
   |own ds=>obtain⟨a,xs,h1,h2⟩:=w;exact⟨a,xs,es.trans h1,h2⟩
   |arg ds=>obtain⟨a,xs,h1,h2⟩:=w;exact⟨a,xs,es.trans h1,h2⟩
   |ob b=>obtain⟨a,h1,h2⟩:=w;exact⟨a,es.trans h1,h2⟩
 ·have nj: ∀m,Ow (ρ.set i (.v d))[m]? ->m≠i:=λm o e=>by
   subst e
   by_cases lt:m<ρ.length
   ·rw[List.getElem?_set_self lt] at o;exact o
   ·rw[List.getElem?_eq_none (by simpa using lt)] at o;exact o
  have e1:=nj j o1
  have e2:=nj l o2
  rw[List.getElem?_set_ne (Ne.symm e1)] at o1 q1;rw[List.getElem?_set_ne (Ne.symm e2)] at o2 q2;exact h.ap j l z n o1 o2 q1 q2
theorem SR.setO {xs:List V}{ds:List D}(h:SR K c hid ρ σ H)(ha:H a=some (.lst xs))(hh:hid a=true)(h0:c.H₀ a=none)(r:Reps K (vw H hid) xs ds)(no: ∀i:Nat,Ow ρ[i]? ->σ[i]? ≠some (some (.ref a)))(i:Nat):
 SR K c hid (ρ.set i (.own ds)) (σ.set i (some (.ref a))) H:=by
 refine⟨h.tr,h.ht,h.h0,h.kp,h.t0,h.c0,h.m0,by simp[h.len],λj s q=>?_,λj l z n o1 o2 q1 q2=>?_⟩
 ·by_cases e:j=i
  ·subst e
   have lt:j<ρ.length:=by
    have:=(List.getElem?_eq_some_iff.mp q).1
    simpa using this
   rw[List.getElem?_set_self lt] at q;cases q
   exact⟨a,xs,List.getElem?_set_self (by rw[h.len];exact lt),ha,hh,h0,r⟩
  ·rw[List.getElem?_set_ne (Ne.symm e)] at q
   have w:=h.sl j s q
   have es:(σ.set i (some (V.ref a)))[j]? =σ[j]? :=List.getElem?_set_ne (Ne.symm e)
   cases s with
   |no=>trivial
   |v d=>obtain⟨x,h1,h2⟩:=w;exact⟨x,es.trans h1,h2⟩
   |own ds=>obtain⟨a,xs,h1,h2⟩:=w;exact⟨a,xs,es.trans h1,h2⟩
   |arg ds=>obtain⟨a,xs,h1,h2⟩:=w;exact⟨a,xs,es.trans h1,h2⟩
   |ob b=>obtain⟨a,h1,h2⟩:=w;exact⟨a,es.trans h1,h2⟩
 ·by_cases e1:j=i
  ·subst e1
   have e2:l≠j:=λe=>n e.symm
   rw[List.getElem?_set_ne (Ne.symm e2)] at o2 q2
   by_cases lt:j<σ.length
   ·rw[List.getElem?_set_self lt] at q1;cases q1;exact no l o2 q2
   ·rw[List.getElem?_eq_none (by simpa using lt)] at q1;cases q1
  ·rw[List.getElem?_set_ne (Ne.symm e1)] at o1 q1
   by_cases e2:l=i
   ·subst e2
    by_cases lt:l<σ.length
    ·rw[List.getElem?_set_self lt] at q2;cases q2;exact no j o1 q1
    ·rw[List.getElem?_eq_none (by simpa using lt)] at q2;cases q2
   ·rw[List.getElem?_set_ne (Ne.symm e2)] at o2 q2
    exact h.ap j l z n o1 o2 q1 q2
end
section
variable {X:Cx}{c:Ct}{k:Kd}{st:Stmt}{sts rest:List Stmt}{t u:FS}{e:Expr}{es:List Expr}{pos pos':Pos}{x:Str}{i:Nat}
def gg(i:Nat)(f:GE):FS:=λρ=>match f ρ with
 |some (d,ρ')=>.nx (ρ'.set i (.v d))
 |none=>.no
def aU(i:Nat)(f:FE):FS:=λρ=>match f ρ with
 |some d=>.nx (ρ.set i (.v d))
 |none=>.no
def xY:D->Option (List D)
 | .lst ds=>some ds
 |_=>none
def mY(i:Nat)(f:GE):FS:=λρ=>match f ρ with
 |some (d,ρ')=>(match xY d with
  |some ds=>.nx (ρ'.set i (.own ds))
  |none=>.no)
 |none=>.no
def dQ(i:Nat)(f:FE):FS:=λρ=>match f ρ with
 |some d=>(match xY d with
  |some ds=>.nx (ρ.set i (.own ds))
  |none=>.no)
 |none=>.no
theorem iy(i:Nat){f:GE}(hn:X.N.Nodup)(he:DE X c .s e f)(hi:X.N[i]? =some x:=by rfl)(hx:qX X.env.scope x:=by first|exact Or.inl rfl|exact Or.inr rfl)(hs:swapsWith e (some (.Name x pos')) pos.line X.env=pure false:=by rfl)
 (hf:X.fn x=true\/X.env.scope.names.lookup x=some .local:=by first|exact .inl rfl|exact .inr rfl|assumption):DS X c k (.Assign [.Name x pos'] e pos) (gg i f):=λρ=>PS.imp (i6 hn hi hx (ii λhid=>he hid ρ) hs hf) λD σ H hq_=>by
 obtain⟨hid,sr,q⟩:=hq_
 unfold gg at q;cases e1:f ρ with
 |none=>rw[e1] at q;exact q.elim
 |some z=>
  rw[e1] at q;exact⟨hid,sr,z.1,z.2,e1,λv H' ⟨kp,s',r⟩=>q _ H' hid (s'.setV r i) kp.vw⟩
theorem bA(i:Nat){f:FE}(hn:X.N.Nodup)(he:DP X c .s e f)(hi:X.N[i]? =some x:=by rfl)(hx:qX X.env.scope x:=by first|exact Or.inl rfl|exact Or.inr rfl)(hs:swapsWith e (some (.Name x pos')) pos.line X.env=pure false:=by rfl)
 (hf:X.fn x=true\/X.env.scope.names.lookup x=some .local:=by first|exact .inl rfl|exact .inr rfl|assumption):DS X c k (.Assign [.Name x pos'] e pos) (aU i f):=λρ=>PS.imp (i6 hn hi hx (ii λhid=>he hid ρ) hs hf) λD σ H hq_=>by
 obtain⟨hid,sr,q⟩:=hq_
 unfold aU at q;cases e1:f ρ with
 |none=>rw[e1] at q;exact q.elim
 |some z=>
  rw[e1] at q;exact⟨hid,sr,z,e1,λv H' s' r=>q _ H' hid ((sr.ext s').setV r i) (aH s')⟩
theorem vx {K:W.Frag}{hid:bv}{ρ':ax}{σ:St}{H H':Hp}{v:V}{d:D}{D:Ends}(p:PostE K c hid .n ρ' σ H H' v d)(q:EndOk K c k D (vw H hid) (match xY d with
 |some ds=>.nx (ρ'.set i (.own ds))
 |none=>.no)):D.nx (σ.set i (some v)) H':=by
 obtain⟨kp,a,xs,ds,rfl,rfl,hn,h1,h2,h3,h4,h5,h6⟩:=p
 refine q _ H' (bR hid a) (h4.setO h1 eO h2 h5 h6 i) λb o w=>?_
 obtain⟨w1,w2⟩:=vw_some.mp w
 refine vw_some.mpr ⟨?_,kp b o w2 w1⟩
 unfold bR;rw[w1];have:b≠a:=br w2 hn
 simp[this]
theorem tO(i:Nat){f:GE}(hn:X.N.Nodup)(he:DE X c .n e f)(hi:X.N[i]? =some x:=by rfl)(hx:qX X.env.scope x:=by first|exact Or.inl rfl|exact Or.inr rfl)(hs:swapsWith e (some (.Name x pos')) pos.line X.env=pure false:=by rfl)
 (hf:X.fn x=true\/X.env.scope.names.lookup x=some .local:=by first|exact .inl rfl|exact .inr rfl|assumption):DS X c k (.Assign [.Name x pos'] e pos) (mY i f):=λρ=>PS.imp (i6 hn hi hx (ii λhid=>he hid ρ) hs hf) λD σ H hq_=>by
 obtain⟨hid,sr,q⟩:=hq_
 unfold mY at q;cases e1:f ρ with
 |none=>rw[e1] at q;exact q.elim
 |some z=>
  rw[e1] at q;exact⟨hid,sr,z.1,z.2,e1,λv H' p=>vx p q⟩
theorem kU(i:Nat){f:FE}(hn:X.N.Nodup)(he:DP X c .n e f)(hi:X.N[i]? =some x:=by rfl)(hx:qX X.env.scope x:=by first|exact Or.inl rfl|exact Or.inr rfl)(hs:swapsWith e (some (.Name x pos')) pos.line X.env=pure false:=by rfl)
 (hf:X.fn x=true\/X.env.scope.names.lookup x=some .local:=by first|exact .inl rfl|exact .inr rfl|assumption):DS X c k (.Assign [.Name x pos'] e pos) (dQ i f):=λρ=>PS.imp (i6 hn hi hx (ii λhid=>he hid ρ) hs hf) λD σ H hq_=>by
 obtain⟨hid,sr,q⟩:=hq_
 unfold dQ at q;cases e1:f ρ with
 |none=>rw[e1] at q;exact q.elim
 |some z=>
  rw[e1] at q;exact⟨hid,sr,z,e1,λv H' s r=>vx (sr.post s r (by decide)) q⟩
def fh(f:GE):FS:=λρ=>match f ρ with
 |some (_,ρ')=>.nx ρ'
 |none=>.no
theorem ko {f:GE}(he:DE X c .s e f)(hs:swapsWith e none pos.line X.env=pure false:=by rfl):DS X c k (.Expr e pos) (fh f):=λρ=>PS.imp (sD (ii λhid=>he hid ρ) hs) λD σ H hq_=>by
 obtain⟨hid,sr,q⟩:=hq_
 unfold fh at q;cases e1:f ρ with
 |none=>rw[e1] at q;exact q.elim
 |some z=>
  rw[e1] at q;exact⟨hid,sr,z.1,z.2,e1,λv H' ⟨kp,s',_⟩=>q _ H' hid s' kp.vw⟩
def wL(K:W.Frag)(r:V->List V->Hp->VK->Prop)(n:Nat)(M:List D->List D->Option (D×List D)):Prop:= ∀(H:Hp) (hid:bv) (a:Addr) (xs us:List V) (bs ds bs':List D) (d:D) (Q:VK),H a=some (.lst xs)->hid a=true->Reps K (vw H hid) xs bs->Reps K (vw H hid) us ds->
 ds.length=n->M bs ds=some (d,bs')->(∀w xs',Reps K (vw H hid) xs' bs'->Rep K (vw H hid) w d->Q w (aV H a (.lst xs')))->r (.ref a) us H Q
theorem wt {K:W.Frag}{r:V->List V->Hp->VK->Prop}{n:Nat}{M:List D->List D->Option (D×List D)}(hM:wL K r n M){hid:bv}{ρ1:ax}{σ:St}{H H1:Hp}{a:Addr}{us:List V}{bs ds bs':List D}{d:D}{Q:VK}(k1:Kept hid H H1)(s1:SR K c hid ρ1 σ H1)(e2:fo i ρ1=some bs)
 (ha:σ[i]? =some (some (.ref a))) (r1:Reps K (vw H1 hid) us ds) (hn:ds.length=n) (hm:M bs ds=some (d,bs')) (q: ∀v H',PostE K c hid .s (eJ i bs' ρ1) σ H H' v d->Q v H'):r (.ref a) us H1 Q:=by
 obtain⟨a',xs,b1,b2,b3,b4,b5⟩:=s1.held e2
 rw[ha] at b1;cases b1;refine hM H1 hid a xs us bs ds bs' d Q b2 b3 b4 r1 hn hm λw xs' rx rw'=>q w _ ⟨k1.trans λb o z hb=>?_,?_,?_⟩
 ·rw[ar (λe=>by subst e;rw[b3] at hb;cases hb)];exact z
 ·exact s1.put e2 ha (λb o z hb=>by rw[ar hb];exact z) ay (by rw[cL b3];exact rx)
 ·rw[cL b3];exact rw'
variable {n:Nat}{M:List D->List D->Option (D×List D)}{fs:GA}{r:V->List V->Hp->VK->Prop}{y name:Str}{py apos:Pos}{id:String}
theorem iA(i:Nat)(hM:wL X.K r n M)(hm:xl X id r)(slot:Slot "list" name id)(hty:typeOf (.builtin id)=pure (.type "method_descriptor"))(ha:DG X c (e::es) fs)
 (hN:X.N[i]? =some y:=by rfl) (hv:oW X.env.scope y:=by first|exact Or.inl rfl|exact Or.inr (Or.inl rfl)|exact Or.inr (Or.inr rfl)) (hd:(y==("__debug__":Str))=false:=by decide) (hcd:(y==("__classdict__":Str))=false:=by decide)
 (hbase:attributeBase (.Name y py) name X.env (eval (.Name y py) X.env)=eval (.Name y py) X.env:=by rfl)
 (hfew:((backTo pos (starEach (e::es) X.env)).all (λx=> !x.1)&&(backToKw pos (keywordEach [] X.env)).all (λx=>x.1.isSome)
   &&decide ((e::es).length+([]:List Keyword).length+(if([]:List Keyword).isEmpty then 0 else 1)<30))=true:=by rfl)
 (hline:(apos.endLine==pos.line)=true:=by rfl) (hs:starEach (e::es) X.env=(false,eval e X.env)::starEach es X.env:=by rfl) (hplain:(backTo pos (starEach es X.env)).any (·.1)=false:=by rfl):
 DE X c .s (.Call (.Attribute (.Name y py) name apos) (e::es) [] pos) (aK i n M fs):=λhid ρ=>
 PE.imp (wI PySem.F.plainAttrs_list slot hty hm (pv i hN hv hd hcd) (ha hid ρ) hbase hfew hline hs hplain) λσ H Q hq_=>by
  obtain⟨sr,d,ρ',hd',q⟩:=hq_
  obtain⟨bs0,ds,ρ1,bs,bs',e0,e1,e2,e3,e4,rfl⟩:=iT hd'
  obtain⟨a,xs0,a1,a2,a3,_,_⟩:=sr.held e0
  exact⟨.ref a,a1,.inl ⟨rfl,_,SqL.of a2⟩,sr,ds,ρ1,e1,λus H1 k1 s1 r1=>wt hM k1 s1 e2 a1 r1 e3 e4 q⟩
end
section
variable {K:W.Frag}
def lQ:List D->List D->Option (D×List D):=λbs ds=>match ds with
 | [d]=>if bs.length<sizeLine then some (.non,bs++[d]) else none
 |_=>none
theorem oY:wL K nS 1 lQ:=by
 intro H hid a xs us bs ds bs' d Q h1 h2 h3 h4 h5 h6 q;unfold lQ at h6;split at h6
 ·split at h6
  ·cases h6
   cases h4 with
   |cons r t=>
    cases t
    exact⟨a,xs,_,rfl,rfl,h1,by rw[h3.length];assumption,q _ _ (h3.append (.cons r .nil)) .non⟩
  ·cases h6
 ·cases h6
def jv:List D->List D->Option (D×List D):=λbs ds=>match ds with
 | [.int i]=>match (if bs.length<=sizeLine then j4 bs.length i else none) with
   |some j=>(bs[j]?).map λd=>(d,bs.eraseIdx j)
   |none=>none
 |_=>none
theorem vi:wL K p7 1 jv:=by
 intro H hid a xs us bs ds bs' d Q h1 h2 h3 h4 h5 h6 q;unfold jv at h6;split at h6
 ·split at h6
  ·rename_i i _ j e
   cases e1:bs[j]? with
   |none=>rw[e1] at h6;cases h6
   |some z=>
    rw[e1] at h6;cases h6;cases h4 with
    |cons r t=>
     cases t
     cases r
     obtain⟨x,g1,g2⟩:=h3.get e1
     split at e
     ·obtain⟨w1,w2,w3,w4⟩:=kJ e
      have hl:=h3.length
      have l63:=fB
      refine⟨a,xs,i,j,x,rfl,rfl,h1,by omega,by omega,by rw[hl];exact w1,g1,q _ _ (h3.eraseIdx j) g2⟩
     ·cases e
  ·cases h6
 ·cases h6
end
abbrev FG:=D->ax->Option ax
abbrev mO:=List D->ax->Option ax
def OwK(ρ ρ':ax)(σ σ':St):Prop:= ∀i:Nat,Ow ρ'[i]? ->Ow ρ[i]? /\σ'[i]? =σ[i]?
theorem OwK.trans {ρ ρ1 ρ2:ax}{σ σ1 σ2:St}(a:OwK ρ ρ1 σ σ1)(b:OwK ρ1 ρ2 σ1 σ2):OwK ρ ρ2 σ σ2:=λi o=>⟨(a i (b i o).1).1,(b i o).2.trans (a i (b i o).1).2⟩
def xy {ι:Type}(IR:Hp->V->ι->Prop)(K:W.Frag)(c:Ct)(hid:bv)(g:ι->ax->Option ax)(ρ:ax)(d:ι):TG:=λv σ H Q=>SR K c hid ρ σ H/\IR (vw H hid) v d/\ ∃ρ',g d ρ=some ρ'/\ ∀σ',SR K c hid ρ' σ' H->OwK ρ ρ' σ σ'->Q σ' H
def w8 {ι:Type}(IR:Hp->V->ι->Prop)(X:Cx)(c:Ct)(tg:Expr)(g:ι->ax->Option ax):Prop:= ∀hid ρ d,PG X tg (xy IR X.K c hid g ρ d)
abbrev uA(X:Cx)(c:Ct)(tg:Expr)(g:FG):Prop:=w8 (Rep X.K) X c tg g
def xv(K:W.Frag)(c:Ct)(hid:bv)(g:mO)(ρ:ax)(d:List D):qw:=λv σ H Q=>SR K c hid ρ σ H/\Reps K (vw H hid) v d/\ ∃ρ',g d ρ=some ρ'/\ ∀σ',SR K c hid ρ' σ' H->OwK ρ ρ' σ σ'->Q σ' H
def xk(X:Cx)(c:Ct)(tg:List Expr)(g:mO):Prop:= ∀hid ρ d,PGs X tg (xv X.K c hid g ρ d)
theorem PG.imp {X:Cx}{e:Expr}{t t':TG}(h:PG X e t)(i: ∀v σ H Q,t' v σ H Q->t v σ H Q):PG X e t':=λaa s σ H v u Q I r q=>h aa s σ H v u Q I r (i v σ H Q q)
theorem PGs.imp {X:Cx}{e:List Expr}{t t':qw}(h:PGs X e t)(i: ∀v σ H Q,t' v σ H Q->t v σ H Q):PGs X e t':=λaa s σ H v u Q I r q=>h aa s σ H v u Q I r (i v σ H Q q)
theorem qM {X:Cx}{e:Expr}{α:Type}{t:α->TG}(h: ∀z,PG X e (t z)):PG X e (λv σ H Q=> ∃z,t z v σ H Q):=λaa s σ H v u Q I r ⟨z,q⟩=>h z aa s σ H v u Q I r q
theorem nM {X:Cx}{e:List Expr}{α:Type}{t:α->qw}(h: ∀z,PGs X e (t z)):PGs X e (λv σ H Q=> ∃z,t z v σ H Q):=λaa s σ H v u Q I r ⟨z,q⟩=>h z aa s σ H v u Q I r q
section
variable {X:Cx}{c:Ct}{k:Kd}{st:Stmt}{sts body:List Stmt}{t u:FS}{e tg iter:Expr}{es:List Expr}{pos pos':Pos}{x:Str}{i:Nat}
def gN(i:Nat):FG:=λd ρ=>some (ρ.set i (.v d))
theorem aE(i:Nat)(hn:X.N.Nodup)(hi:X.N[i]? =some x:=by rfl)(hx:qX X.env.scope x:=by first|exact Or.inl rfl|exact Or.inr rfl)(hf:X.fn x=true\/X.env.scope.names.lookup x=some .local:=by first|exact .inl rfl|exact .inr rfl|assumption):
 uA X c (.Name x pos) (gN i):=λhid ρ d=>PG.imp (oD (i:=i) hn hi hx hf) λv σ H Q hq_=>by
 obtain⟨sr,r,ρ',e,q⟩:=hq_
 cases e
 refine q _ (sr.setV r i) λj o=>?_
 have ne:j≠i:=λe=>by
  subst e
  by_cases lt:j<ρ.length
  ·rw[List.getElem?_set_self lt] at o;exact o
  ·rw[List.getElem?_eq_none (by simpa using lt)] at o;exact o
 rw[List.getElem?_set_ne (Ne.symm ne)] at o⊢;exact⟨o,rfl⟩
def ik:mO:=λds ρ=>match ds with
 | []=>some ρ
 |_=>none
def dB(g:FG)(gs:mO):mO:=λds ρ=>match ds with
 | []=>none
 |d::r=>(g d ρ).bind λρ'=>gs r ρ'
theorem fE:xk X c [] ik:=λhid ρ d=>PGs.imp oe λv σ H Q hq_=>by
 obtain⟨sr,r,ρ',e,q⟩:=hq_
 unfold ik at e;split at e
 ·cases e;cases r;exact⟨rfl,q σ sr λi o=>⟨o,rfl⟩⟩
 ·cases e
theorem bc {g:FG}{gs:mO}(h1:uA X c e g)(h2:xk X c es gs)(hs:(assignEach (e::es) X.env).map (·.2)=assign e X.env::(assignEach es X.env).map (·.2):=by rfl):xk X c (e::es) (dB g gs):=λhid ρ d=>
 PGs.imp (mv (qM λd=>h1 hid ρ d) (nM λz:ax×List D=>h2 hid z.1 z.2) hs) λv σ H Q hq_=>by
  obtain⟨sr,r,ρ',e,q⟩:=hq_
  cases d with
  |nil=>cases e
  |cons d1 ds=>
   cases r with
   |cons r1 r2=>
    have e:(g d1 ρ).bind (λρ'=>gs ds ρ')=some ρ':=e
    cases e1:g d1 ρ with
    |none=>rw[e1] at e;cases e
    |some ρ1=>
     rw[e1] at e;exact⟨_,_,rfl,d1,sr,r1,ρ1,e1,λσ1 s1 o1=>⟨(ρ1,ds),s1,r2,ρ',e,λσ2 s2 o2=>q σ2 s2 (o1.trans o2)⟩⟩
def gT(n:Nat)(gs:mO):FG:=λd ρ=>match d with
 | .tup ds=>if ds.length=n then gs ds ρ else none
 |_=>none
theorem fH {gs:mO}{kk n:Nat}(hc:X.calm=true)(h:xk X c es gs)(hn:(assignEach es X.env).length=n:=by rfl)(hst:(assignEach es X.env).findIdx? (·.1)=none:=by rfl):uA X c (.Tuple es kk pos) (gT n gs):=λhid ρ d=>
 PG.imp (qC hc (nM λds=>h hid ρ ds) hn hst) λv σ H Q hq_=>by
  obtain⟨sr,r,ρ',e,q⟩:=hq_
  unfold gT at e;split at e
  ·split at e
   ·cases r with
    |tup h1 h2=>exact⟨_,_,rfl,Same.seqT (di _ _) h1,by rw[h2.length];assumption,_,sr,h2,ρ',e,q⟩
   ·cases e
  ·cases e
def vL:Option ax->Out
 |some ρ=>.nx ρ
 |none=>.no
def cA(g:FG)(f:GE):FS:=λρ=>match f ρ with
 |some z=>vL (g z.1 z.2)
 |none=>.no
theorem i0 {g:FG}{f:GE}(he:DE X c .s e f)(hg:uA X c tg g)(hs:swapsWithSole [tg] e pos.line X.env=pure false:=by rfl)(hw:swappedStores [tg] e X.env=pure none:=by rfl)
 (h1:(assignEach [tg] X.env).map (·.2)=[assign tg X.env]:=by rfl):DS X c k (.Assign [tg] e pos) (cA g f):=λρ=>
 PS.imp (rO (ii λhid=>he hid ρ) (qM λz:bv×ax×D=>hg z.1 z.2.1 z.2.2) hs hw h1) λD σ H hq_=>by
  obtain⟨hid,sr,q⟩:=hq_
  unfold cA at q;cases e1:f ρ with
  |none=>rw[e1] at q;exact q.elim
  |some z=>
   rw[e1] at q;cases e2:g z.1 z.2 with
   |none=>dsimp only at q;rw[e2] at q;exact q.elim
   |some ρ2=>
    dsimp only at q;rw[e2] at q;exact⟨hid,sr,z.1,z.2,e1,λv H' ⟨kp,s',r⟩=>⟨(hid,z.2,z.1),s',r,ρ2,e2,λσ' s2 _=>q σ' H' hid s2 kp.vw⟩⟩
def cG(i:Nat)(fi:FE)(d:D)(ρ:ax):Option ax:=match fo i ρ with
 |some bs=>(match fi ρ with
  |some (.int j)=>(match j4 bs.length j with
   |some m=>some (eJ i (bs.set m d) ρ)
   |none=>none)
  |_=>none)
 |none=>none
theorem mW {fi:FE}{d:D}{ρ ρ':ax}(h:cG i fi d ρ=some ρ'): ∃bs j m,fo i ρ=some bs/\fi ρ=some (.int j)/\j4 bs.length j=some m/\ρ'=eJ i (bs.set m d) ρ:=by
 unfold cG at h;split at h
 ·split at h
  ·split at h
   ·cases h;exact⟨_,_,_, ‹_›, ‹_›, ‹_›,rfl⟩
   ·cases h
  ·cases h
 ·cases h
def xO(K:W.Frag)(c:Ct)(hid:bv)(g:FG)(ρ:ax)(d:D):TG:=λv σ H Q=>SR K c hid ρ σ H/\Rep K (vw H hid) v d/\ ∃ρ',g d ρ=some ρ'/\ ∀H',Kept hid H H'->SR K c hid ρ' σ H'->Q σ H'
def xb(X:Cx)(c:Ct)(tg:Expr)(g:FG):Prop:= ∀hid ρ d,PG X tg (xO X.K c hid g ρ d)
theorem gw(i:Nat){y:Str}{py:Pos}{ix:Expr}{fi:FE}{k1:Kd}(hi:DP X c k1 ix fi)(hN:X.N[i]? =some y:=by rfl)(hv:oW X.env.scope y:=by first|exact Or.inl rfl|exact Or.inr (Or.inl rfl)|exact Or.inr (Or.inr rfl))(hd:(y==("__debug__":Str))=false:=by decide)(hcd:(y==("__classdict__":Str))=false:=by decide)
 (ha: ∀v,assign (.Subscript (.Name y py) ix pos) X.env v=(do
   let ov <-holding [v] (eval (.Name y py) X.env)
   let iv <-holding [v,ov] (eval ix X.env)
   standAt pos
   holding [v,ov,iv] (setItem ov iv v)
   release [v,ov,iv] []):=by intro _;rfl):xb X c (.Subscript (.Name y py) ix pos) (cG i fi):=λhid ρ d=>
 PG.imp (uu (pv i hN hv hd hcd) (hi hid ρ) mq ha) λv σ H Q hq_=>by
  obtain⟨sr,r,ρ',e,q⟩:=hq_
  obtain⟨bs,j,m,e1,e2,e3,rfl⟩:=mW e
  obtain⟨a,xs,a1,a2,a3,a4,a5⟩:=sr.held e1
  refine⟨.ref a,a1,sr,_,e2,λw H1 s1 r1=>?_⟩
  have b1:=(RK.b k1 r1 λa n=>sr.fresh n).int
  cases b1
  have a4':=a4.mono (aH (hid:=hid) s1)
  refine⟨a,xs,j,m,rfl,rfl,s1 _ _ a2,by rw[a4.length];exact e3,q _ (λb o z hb=>?_) ?_⟩
  ·rw[ar (λe=>by subst e;rw[a3] at hb;cases hb)];exact s1 _ _ z
  ·exact(sr.ext s1).put e1 a1 (λb o z hb=>by rw[ar hb];exact z) ay (by rw[cL a3];exact Reps.set (r.mono (aH s1)) m a4')
theorem kj {g:FG}{f:GE}(he:DE X c .s e f)(hg:xb X c tg g)(hs:swapsWithSole [tg] e pos.line X.env=pure false:=by rfl)(hw:swappedStores [tg] e X.env=pure none:=by rfl)
 (h1:(assignEach [tg] X.env).map (·.2)=[assign tg X.env]:=by rfl):DS X c k (.Assign [tg] e pos) (cA g f):=λρ=>
 PS.imp (rO (ii λhid=>he hid ρ) (qM λz:bv×ax×D=>hg z.1 z.2.1 z.2.2) hs hw h1) λD σ H hq_=>by
  obtain⟨hid,sr,q⟩:=hq_
  unfold cA at q;cases e1:f ρ with
  |none=>rw[e1] at q;exact q.elim
  |some z=>
   rw[e1] at q;cases e2:g z.1 z.2 with
   |none=>dsimp only at q;rw[e2] at q;exact q.elim
   |some ρ2=>
    dsimp only at q;rw[e2] at q;exact⟨hid,sr,z.1,z.2,e1,λv H' ⟨kp,s',r⟩=>⟨(hid,z.2,z.1),s',r,ρ2,e2,λH2 k2 s2=>q σ H2 hid s2 (kp.trans k2).vw⟩⟩
def xG(K:W.Frag)(c:Ct)(hid:bv)(g:mO)(ρ:ax)(d:List D):qw:=λv σ H Q=>SR K c hid ρ σ H/\Reps K (vw H hid) v d/\ ∃ρ',g d ρ=some ρ'/\ ∀H',Kept hid H H'->SR K c hid ρ' σ H'->Q σ H'
def xm(X:Cx)(c:Ct)(tg:List Expr)(g:mO):Prop:= ∀hid ρ d,PGs X tg (xG X.K c hid g ρ d)
theorem tx:xm X c [] ik:=λhid ρ d=>PGs.imp oe λv σ H Q hq_=>by
 obtain⟨sr,r,ρ',e,q⟩:=hq_
 unfold ik at e;split at e
 ·cases e;cases r;exact⟨rfl,q H (.of (Same.refl _)) sr⟩
 ·cases e
theorem ma {g:FG}{gs:mO}(h1:xb X c e g)(h2:xm X c es gs)(hs:(assignEach (e::es) X.env).map (·.2)=assign e X.env::(assignEach es X.env).map (·.2):=by rfl):xm X c (e::es) (dB g gs):=λhid ρ d=>
 PGs.imp (mv (qM λd=>h1 hid ρ d) (nM λz:ax×List D=>h2 hid z.1 z.2) hs) λv σ H Q hq_=>by
  obtain⟨sr,r,ρ',e,q⟩:=hq_
  cases d with
  |nil=>cases e
  |cons d1 ds=>
   cases r with
   |cons r1 r2=>
    have e:(g d1 ρ).bind (λρ'=>gs ds ρ')=some ρ':=e
    cases e1:g d1 ρ with
    |none=>rw[e1] at e;cases e
    |some ρ1=>
     rw[e1] at e;exact⟨_,_,rfl,d1,sr,r1,ρ1,e1,λH1 k1 s1=>⟨(ρ1,ds),s1,r2.mono k1.vw,ρ',e,λH2 k2 s2=>q H2 (k1.trans k2) s2⟩⟩
theorem sv {gs:mO}{kk n:Nat}(hc:X.calm=true)(h:xm X c es gs)(hn:(assignEach es X.env).length=n:=by rfl)(hst:(assignEach es X.env).findIdx? (·.1)=none:=by rfl):xb X c (.Tuple es kk pos) (gT n gs):=λhid ρ d=>
 PG.imp (qC hc (nM λds=>h hid ρ ds) hn hst) λv σ H Q hq_=>by
  obtain⟨sr,r,ρ',e,q⟩:=hq_
  unfold gT at e;split at e
  ·split at e
   ·cases r with
    |tup h1 h2=>exact⟨_,_,rfl,Same.seqT (di _ _) h1,by rw[h2.length];assumption,_,sr,h2,ρ',e,q⟩
   ·cases e
  ·cases e
def ItOk(K:W.Frag)(W:Hp)(J:It)(ds:List D):Prop:=
 (∀(i:Nat) (d:D) (H:Hp),ds[i]? =some d->Same W H->J.go i H/\ ∀x H',J.yld i H x H'->Same H H'/\ ∀hid:bv,(∀b,hid b=true-> ∃o,H b=some o)->Same W (vw H hid)->Rep K (vw H' hid) x d)/\ ∀H,Same W H->J.stop ds.length H
def yE(K:W.Frag)(c:Ct)(hid:bv)(f:GA)(ρ:ax):TI:=λσ H R=>SR K c hid ρ σ H/\ ∃ds ρ',f ρ=some (ds,ρ')/\ ∀J H',Kept hid H H'->SR K c hid ρ' σ H'->ItOk K (vw H' hid) J ds->R J H'
def DI(X:Cx)(c:Ct)(tg iter:Expr)(f:GA):Prop:= ∀hid ρ,PI X tg iter (yE X.K c hid f ρ)
theorem PI.imp {t t':TI}(h:PI X tg iter t)(i: ∀σ H Q,t' σ H Q->t σ H Q):PI X tg iter t':=λaa s σ H R I q=>h aa s σ H R I (i σ H R q)
theorem xR {α:Type}{t:α->TI}(h: ∀z,PI X tg iter (t z)):PI X tg iter (λσ H R=> ∃z,t z σ H R):=λaa s σ H R I ⟨z,q⟩=>h z aa s σ H R I q
theorem rE {K:W.Frag}{W:Hp}{a:Addr}{xs:List V}{ds:List D}(h:SqT K W a xs)(r:Reps K W xs ds):ItOk K W (xC K a) ds:=by
 refine⟨λi d H e s=>?_,λH s=>⟨xs,Same.seqT s h,by rw[r.length];exact Nat.le_refl _⟩⟩
 obtain⟨x,e1,r1⟩:=r.get e
 refine⟨⟨xs,x,Same.seqT s h,e1⟩,λy H' ⟨e2,e3⟩=>?_⟩
 subst e2;have:=e3 xs (Same.seqT s h)
 rw[e1] at this;cases this;exact⟨Same.refl _,λhid _ sw=>r1.mono sw⟩
def pk(lo:Int)(n:Nat):List D:=(List.range n).map λ(i:Nat)=>D.int (lo+i)
theorem mU {K:W.Frag}{W:Hp}{lo:Int}{n:Nat}:ItOk K W (xa lo n) (pk lo n):=by
 refine⟨λi d H e s=>?_,λH s=>by show n<=(pk lo n).length;simp[pk]⟩
 unfold pk at e;rw[List.getElem?_map] at e;cases e1:(List.range n)[i]? with
 |none=>rw[e1] at e;cases e
 |some j=>
  rw[e1] at e;obtain⟨h1,h2⟩:=List.getElem?_eq_some_iff.mp e1
  simp at h1 h2;subst h2;cases e
  refine⟨h1,λy H' ⟨e2,e3⟩=>?_⟩
  subst e2 e3;exact⟨Same.refl _,λhid _ sw=>.int⟩
def de(g:FG)(b:FS):List D->FS
 | [],ρ=>.nx ρ
 |d::r,ρ=>match g d ρ with
  |none=>.no
  |some ρ1=>match b ρ1 with
   | .nx ρ2=>de g b r ρ2
   | .ct ρ2=>de g b r ρ2
   | .bk ρ2=>.nx ρ2
   | .rt d ρ2=>.rt d ρ2
   | .no=>.no
def cQ(f:GA)(g:FG)(b:FS):FS:=λρ=>match f ρ with
 |some (ds,ρ')=>de g b ds ρ'
 |none=>.no
theorem fA {f:GA}{g:FG}{tb:FS}(hp:PassesOwn (model X.prog X.w) X.A X.env X.xe)(hc:X.calm=true)(hi:DI X c tg iter f)(hg:uA X c tg g)(hb:oJ X c k body tb)
 (hs: ∀x,foldedSetIterable iter X.env x=pure x:=by intro _;rfl):DS X c k (.For tg iter body [] pos) (cQ f g tb):=λρ=>
 PS.imp (uy hp hc (xR λhid=>hi hid ρ) (qM λz:bv×ax×D=>hg z.1 z.2.1 z.2.2) (nW λρ=>hb ρ) hs) λD σ H hq_=>by
  obtain⟨hid,sr,q⟩:=hq_
  unfold cQ at q;cases e1:f ρ with
  |none=>rw[e1] at q;exact q.elim
  |some z=>
   obtain⟨ds,ρ0⟩:=z
   rw[e1] at q;have q':EndOk X.K c k D (vw H hid) (de g tb ds ρ0):=q
   refine⟨hid,sr,ds,ρ0,e1,λJ H1 kp s1 it=>?_⟩
   refine⟨λi m σ H=>m=ds.length-i/\i<=ds.length/\ ∃hid2 ρ2,SR X.K c hid2 ρ2 σ H/\Same (vw H1 hid) (vw H hid2)/\EndOk X.K c k D (vw H hid2) (de g tb (ds.drop i) ρ2),⟨ds.length,by simp,Nat.zero_le _,hid,ρ0,s1,Same.refl _,EndOk.mono q' kp.vw⟩,?_⟩
   rintro i m σ2 H2 ⟨rfl,hi',hid2,ρ2,s2,w2,q2⟩
   have wH:Same (vw H1 hid) H2:=w2.trans (di _ _)
   by_cases hlt:i<ds.length
   ·have hd:ds[i]? =some ds[i]:=List.getElem?_eq_getElem hlt
    have e2:ds.drop i=ds[i]::ds.drop (i+1):=List.drop_eq_getElem_cons hlt
    rw[e2] at q2;unfold de at q2;obtain⟨go,yl⟩:=it.1 i ds[i] H2 hd wH
    refine .inr ⟨go,λσ' H'=> ∃hid3 ρ3,SR X.K c hid3 ρ3 σ' H'/\Same (vw H1 hid) (vw H' hid3)/\EndOk X.K c k D (vw H' hid3) (de g tb (ds.drop (i+1)) ρ3),λσ' H' n3=>⟨ds.length- (i+1),by omega,rfl,hlt,n3⟩,λx H3 y=>?_⟩
    obtain⟨s3,rp⟩:=yl x H3 y
    have rx:=rp hid2 s2.tr w2
    cases e3:g ds[i] ρ2 with
    |none=>rw[e3] at q2;exact q2.elim
    |some ρ3=>
     rw[e3] at q2;refine⟨(hid2,ρ2,ds[i]),s2.ext s3,rx,ρ3,e3,λσ4 s4 _=>⟨ρ3,hid2,s4,?_⟩⟩
     have w3:Same (vw H2 hid2) (vw H3 hid2):=aH s3
     dsimp only at q2;cases e4:tb ρ3 with
     |nx ρ5=>rw[e4] at q2;exact λσ' H' hid' z w=>⟨hid',ρ5,z,(w2.trans w3).trans w,EndOk.mono q2 (w3.trans w)⟩
     |ct ρ5=>rw[e4] at q2;exact λσ' H' hid' z w=>⟨hid',ρ5,z,(w2.trans w3).trans w,EndOk.mono q2 (w3.trans w)⟩
     |bk ρ5=>rw[e4] at q2;exact λσ' H' hid' z w=>q2 σ' H' hid' z (w3.trans w)
     |rt d ρ5=>rw[e4] at q2;exact q2
     |no=>rw[e4] at q2;exact q2.elim
   ·have e:i=ds.length:=by omega
    subst e;rw[List.drop_eq_nil_of_le (Nat.le_refl _)] at q2;exact .inl ⟨it.2 H2 wH,q2 σ2 H2 hid2 s2 (Same.refl _)⟩
def pM(p:FT)(b:FS):Nat->FS
 |0,_=>.no
 |n+1,ρ=>match p ρ with
  |none=>.no
  |some false=>.nx ρ
  |some true=>match b ρ with
   | .nx ρ2=>pM p b n ρ2
   | .ct ρ2=>pM p b n ρ2
   | .bk ρ2=>.nx ρ2
   | .rt d ρ2=>.rt d ρ2
   | .no=>.no
theorem r9(n:Nat){p:FT}{tb:FS}(hp:PassesOwn (model X.prog X.w) X.A X.env X.xe)(hc:DT X c e p)(hb:oJ X c k body tb):DS X c k (.While e body [] pos) (pM p tb n):=λρ=>
 PS.imp (rm hp (vU λz:bv×ax=>hc z.1 z.2) (nW λρ=>hb ρ)) λD σ H hq_=>by
  obtain⟨hid,sr,q⟩:=hq_
  refine⟨λm σ H=> ∃hid2 ρ2,SR X.K c hid2 ρ2 σ H/\EndOk X.K c k D (vw H hid2) (pM p tb m ρ2),⟨n,hid,ρ,sr,q⟩,?_⟩
  rintro m σ2 H2 ⟨hid2,ρ2,s2,q2⟩
  cases m with
  |zero=>exact q2.elim
  |succ m=>
   unfold pM at q2;cases e1:p ρ2 with
   |none=>rw[e1] at q2;exact q2.elim
   |some b=>
    rw[e1] at q2;refine⟨(hid2,ρ2),s2,b,e1,λH3 s3=>?_⟩
    cases b with
    |false=>exact m8 (q2 σ2 H3 hid2 (s2.ext s3) (aH s3))
    |true=>
     refine mM ⟨λσ' H'=> ∃hid3 ρ3,SR X.K c hid3 ρ3 σ' H'/\EndOk X.K c k D (vw H' hid3) (pM p tb m ρ3),λσ' H' n3=>⟨m,Nat.lt_succ_self _,n3⟩,ρ2,hid2,s2.ext s3,?_⟩
     have w3:Same (vw H2 hid2) (vw H3 hid2):=aH s3
     dsimp only at q2;cases e4:tb ρ2 with
     |nx ρ5=>rw[e4] at q2;exact λσ' H' hid' z w=>⟨hid',ρ5,z,EndOk.mono q2 (w3.trans w)⟩
     |ct ρ5=>rw[e4] at q2;exact λσ' H' hid' z w=>⟨hid',ρ5,z,EndOk.mono q2 (w3.trans w)⟩
     |bk ρ5=>rw[e4] at q2;exact λσ' H' hid' z w=>q2 σ' H' hid' z (w3.trans w)
     |rt d ρ5=>rw[e4] at q2;exact q2
     |no=>rw[e4] at q2;exact q2.elim
end
def dN(n:Nat)(ds:List D):ax:=ds.map Sl.v++List.replicate (n-ds.length) .no
def gu(kd:Kd)(n:Nat)(t:FS)(ds:List D):Option D:=match t (dN n ds) with
 | .rt d _=>some d
 | .nx _=>(match kd with
   | .n=>none
   |_=>some .non)
 |_=>none
def kx(n:Nat)(bs ds:List D):ax:=.arg bs::(ds.map Sl.v++List.replicate (n-1-ds.length) .no)
def jo:ax->Option (List D)
 | .arg bs::_=>some bs
 |_=>none
def pA(kd:Kd)(n:Nat)(t:FS)(bs ds:List D):Option (D×List D):=match t (kx n bs ds) with
 | .rt d ρ=>(jo ρ).map λb=>(d,b)
 | .nx ρ=>(match kd with
   | .n=>none
   |_=>(jo ρ).map λb=>(.non,b))
 |_=>none
theorem qr {K:W.Frag}{c:Ct}{hid:bv}{H:Hp}(m:Nat): ∀ {vs:List V} {ds:List D},Reps K (vw H hid) vs ds-> ∀(i:Nat) (s:Sl),(ds.map Sl.v++List.replicate m .no)[i]? =some s->SlOk K c hid (vs.map some++List.replicate m none) H i s:=by
 intro vs ds r i s e;have hl:=r.length
 by_cases hi:i<ds.length
 ·rw[List.getElem?_append_left (by simpa using hi),List.getElem?_map] at e
  have e2:ds[i]? =some ds[i]:=List.getElem?_eq_getElem hi
  rw[e2] at e;cases e
  obtain⟨x,h1,h2⟩:=r.get e2
  exact⟨x,by rw[List.getElem?_append_left (by simp;omega),List.getElem?_map,h1];rfl,h2⟩
 ·rw[List.getElem?_append_right (by simpa using hi),List.getElem?_replicate] at e
  split at e
  ·cases e;trivial
  ·cases e
theorem uD {ds:List D}{m i:Nat}: ¬Ow (ds.map Sl.v++List.replicate m Sl.no)[i]? :=λo=>by
 by_cases hi:i<ds.length
 ·rw[List.getElem?_append_left (by simpa using hi),List.getElem?_map,List.getElem?_eq_getElem hi] at o
  exact o
 ·rw[List.getElem?_append_right (by simpa using hi),List.getElem?_replicate] at o
  split at o<;>exact o
theorem SR.begins {K:W.Frag}{hid:bv}{H:Hp}{N:List Str}{vs:List V}{ds:List D}(tr:vY hid H)(r:Reps K (vw H hid) vs ds):SR K ⟨H,hid,λ_=>false⟩ hid (dN N.length ds) (eL N vs) H:=by
 have hl:=r.length
 unfold eL dN;rw[hl];exact⟨tr.1,tr.2,λ_ h=>h,λ_ _ h _=>h,λb o h=>⟨o,h⟩,tr.1,(λ_ h=>nomatch h),by simp[hl],λi s e=>qr _ r i s e,λi j a _ o=>absurd o uD⟩
section
variable {P:Program}{w:World}{K:W.Frag}{mg:Str->Option Value}{base:Heap}{x qual:Str}{st:Stmt}{f:Addr}{fd:FuncData}{N ps:List Str}{k:Nat}{t:FS}{kd:Kd}
theorem oB(F:Fun K x qual st f fd)(S:FnScope N ps (am st))(hkd:kd≠ .b)
 (body: ∀(cdv:Value) (A:Around) (outer:List Env) (s:Shared) (H:Hp) (hid:bv) (E:XK),Room k (A.deeper (envOfC qual (am st) s.heap.objs.size f cdv))->
   oJ (hV lg P w K mg base N qual (am st) f cdv A outer s H E).nox ⟨H,hid,λ_=>false⟩ kd (aJ st) t):
 FnOk P w K mg base lg (k+1) f fd ps (gB K kd ps.length (gu kd N.length t)):=by
 refine F.ok S (λvs H Q E h=>?_) (λcdv A outer s H vs Q E hr h=>?_)
 ·obtain⟨hid,ds,_,r,hl,_⟩:=h
  rw[r.length,hl]
 ·obtain⟨hid,ds,tr,r,hl,d,hP,q⟩:=h
  refine⟨_,body cdv A outer s H hid E hr (dN N.length ds),hid,SR.begins tr r,?_⟩
  unfold gu at hP;cases e:t (dN N.length ds) with
  |nx ρ=>
   rw[e] at hP;intro σ' H' hid' sr _;have sm:Same H H':=λb o z=>sr.kp b o z rfl
   cases kd with
   |b=>exact absurd rfl hkd
   |s=>cases hP;exact q _ H' sm .non
   |n=>cases hP
  |rt d' ρ=>
   rw[e] at hP;cases hP
   intro v H' R;have sm:Same H H':=λb o z=>R.kp b o z rfl
   cases kd with
   |b=>exact absurd rfl hkd
   |s=>exact q v H' sm R.val
   |n=>exact q v H' sm R.val
  |bk ρ=>rw[e] at hP;cases hP
  |ct ρ=>rw[e] at hP;cases hP
  |no=>rw[e] at hP;cases hP
theorem SR.beginsE {hid:bv}{H:Hp}{a:Addr}{xs us:List V}{bs ds:List D}(tr:vY hid H)(ha:hid a=true)(hx:H a=some (.lst xs))(rb:Reps K (vw H hid) xs bs)(r:Reps K (vw H hid) us ds)(hN:0<N.length):
 SR K ⟨H,hid,λb=>decide (b=a)⟩ hid (kx N.length bs ds) (eL N (.ref a::us)) H:=by
 have hl:=r.length
 have es:eL N (.ref a::us)=some (V.ref a)::(us.map some++List.replicate (N.length-1-ds.length) none):=by
  unfold eL;rw[List.map_cons,List.cons_append,List.length_cons,hl];congr 3
  omega
 rw[es];unfold kx;refine⟨tr.1,tr.2,λ_ h=>h,λ_ _ h _=>h,λb o h=>⟨o,h⟩,tr.1,λb h=>?_,by simp[hl],λi s e=>?_,λi j z n o1 o2 q1 q2=>?_⟩
 ·have:b=a:=by simpa using h
  rw[this];exact ha
 ·cases i with
  |zero=>
   cases e
   exact⟨a,xs,rfl,hx,ha,by simp,rb⟩
  |succ i=>
   have z:=qr (c:=⟨H,hid,λb=>decide (b=a)⟩) (N.length-1-ds.length) r i s (by simpa using e)
   cases s with
   |no=>trivial
   |v d=>obtain⟨x,h1,h2⟩:=z;exact⟨x,by simpa using h1,h2⟩
   |own ds=>obtain⟨x,xs,h1,h2⟩:=z;exact⟨x,xs,by simpa using h1,h2⟩
   |arg ds=>obtain⟨x,xs,h1,h2⟩:=z;exact⟨x,xs,by simpa using h1,h2⟩
   |ob b=>obtain⟨x,h1,h2⟩:=z;exact⟨x,by simpa using h1,h2⟩
 ·cases i with
  |zero=>
   cases j with
   |zero=>exact n rfl
   |succ j=>exact uD (by simpa using o2)
  |succ i=>exact uD (by simpa using o1)
theorem oP {ρ:ax}{b:List D}(h:jo ρ=some b):ρ[0]? =some (.arg b):=by
 unfold jo at h;split at h
 ·cases h;rfl
 ·cases h
theorem vM {n:Nat}(F:Fun K x qual st f fd)(S:FnScope N ps (am st))(hkd:kd≠ .b)(hn:ps.length=n+1)
 (body: ∀(cdv:Value) (A:Around) (outer:List Env) (s:Shared) (H:Hp) (hid:bv) (a:Addr) (E:XK),Room k (A.deeper (envOfC qual (am st) s.heap.objs.size f cdv))->
   oJ (hV lg P w K mg base N qual (am st) f cdv A outer s H E).nox ⟨H,hid,λb=>decide (b=a)⟩ kd (aJ st) t):
 FnOk P w K mg base lg (k+1) f fd ps (oN K kd n (pA kd N.length t)):=by
 refine F.ok S (λvs H Q E h=>?_) (λcdv A outer s H vs Q E hr h=>?_)
 ·obtain⟨hid,a,xs,bs,us,ds,rfl,_,_,_,_,r,hl,_⟩:=h
  rw[List.length_cons,r.length,hl,hn]
 ·obtain⟨hid,a,xs,bs,us,ds,rfl,tr,ha,hx,rb,r,hl,d,bs',hM,q⟩:=h
  have hN:0<N.length:=by have:=congrArg List.length S.pre;rw[List.length_take] at this;omega
  refine⟨_,body cdv A outer s H hid a E hr (kx N.length bs ds),hid,SR.beginsE tr ha hx rb r hN,?_⟩
  have fin: ∀(v:V) (H':Hp) (ρ:ax) (d:D),Ret K ⟨H,hid,λb=>decide (b=a)⟩ kd ρ H' v d->jo ρ=some bs'->(∀v H' xs',(∀b o,H b=some o->b≠a->H' b=some o)->H' a=some (.lst xs')->wz K kd hid H H' v d xs' bs'->Q v H')->Q v H':=by
   intro v H' ρ d R h0 q;obtain⟨a',xs',m1,m2,m3⟩:=R.arg 0 _ (oP h0)
   have:a'=a:=by simpa using m1
   subst this;refine q v H' xs' (λb o z n=>R.kp b o z (by simpa using n)) m2 ?_
   cases kd with
   |b=>exact absurd rfl hkd
   |s=>exact⟨R.val,m3⟩
   |n=>
    obtain⟨p,ys,es,rfl,rfl,h1,h2,h3⟩:=R.val
    exact⟨p,ys,es,rfl,rfl,h1,h2,h3,m3⟩
  unfold pA at hM;cases e:t (kx N.length bs ds) with
  |nx ρ=>
   rw[e] at hM;intro σ' H' hid' sr _;cases kd with
   |b=>exact absurd rfl hkd
   |s=>
    dsimp only at hM;cases e0:jo ρ with
    |none=>rw[e0] at hM;cases hM
    |some b=>
     rw[e0] at hM;cases hM;exact fin .non H' ρ .non (uk (k:=.s) (by decide) (sr.post (k:=.s) (Same.refl _) .non (by decide)) sr.h0) e0 q
   |n=>cases hM
  |rt d' ρ=>
   rw[e] at hM;dsimp only at hM;cases e0:jo ρ with
   |none=>rw[e0] at hM;cases hM
   |some b=>
    rw[e0] at hM;cases hM;intro v H' R;exact fin v H' ρ _ R e0 q
  |bk ρ=>rw[e] at hM;cases hM
  |ct ρ=>rw[e] at hM;cases hM
  |no=>rw[e] at hM;cases hM
end
def nT(K:W.Frag):Sp:=λvs H Q _=> ∃(a:Addr) (ns:List Int),vs=[.ref a]/\SqR K H a (ns.map V.int)/\ns.length<=63/\ ∀H',Q (.bl true) H'
theorem jZ {K:W.Frag}{F:Hp}: ∀ns:List Int,Reps K F (ns.map V.int) (ns.map D.int)
 | []=>.nil
 |_::r=>.cons .int (jZ r)
theorem uS {P:Program}{w:World}{K:W.Frag}{mg:Str->Option Value}{base:Heap}{f:Addr}{fd:FuncData}{x:Str}{k:Nat}{M:List D->Option D}(F:FnOk P w K mg base lg k f fd [x] (gB K .s 1 M))(hM: ∀ns:List Int,ns.length<=63->M [.scr (ns.map D.int)]=some (.bl true)):
 FnOk P w K mg base lg k f fd [x] (nT K):=F.imp λvs H Q E hq_=>by
 obtain⟨a,ns,e,hS,hl,q⟩:=hq_
 subst e;have hv:vw H (λ_=>false)=H:=by funext b;unfold vw;simp
 refine⟨λ_=>false,[.scr (ns.map D.int)],⟨(λb h=>nomatch h),(λb xs h=>nomatch h)⟩,?_,rfl,.bl true,hM ns hl,λv H' _ r=>?_⟩
 ·rw[hv];exact .cons (.scr hS (jZ ns)) .nil
 ·cases r;exact q H'
theorem walkD {l:W.OpenLaw}{k:Nat}{x:Str}{q:Program}{loose:List Str}{XP:(Str->Option Value)->Heap->Prop}{YP:World->Heap->Prop}{d:DefRec}{K:Params->W.Frag}(hn:l.most=some 63)(hdf:d.params.defaults=[])(hr:Room k callerA)
 (hY: ∀(w:World) (h:Heap),YP w h->(K w.params).In h)
 (F: ∀(w:World) (mg:Str->Option Value) (fa:Addr) (h:Heap),(K w.params).In h->h.Ns mainGlobals mg->mg d.name=some (.ref fa)->
   ∃fd:FuncData,(∀(s:Shared) (u:Value),BindsTo s fd ⟨[u],[]⟩ [(x,u)])/\ ∀base:Heap,(K w.params).In base->base.Ns mainGlobals mg->FnOk l.prog w (K w.params) mg base lg k fa fd [x] (nT (K w.params))):
 W.WalkO q loose XP YP l.row.toRowW d [] (λf vs=>PySem.call f vs):=
 L2.walk_of (n:=63) (k:=k) (x:=x) (CX:=λ_=>lg) (sp:=λw=>nT (K w.params)) hn (by decide) hdf hr hY F (λ_ H a ns hl hO hS=>⟨a,ns,rfl,hS.elim (λr=>r.elim (λe=>by rcases hO a with z|⟨o,xs,z⟩<;>rw[z] at e<;>cases e) .inl) .inr,hl,λ_=>rfl⟩) λ_ _ _ _ _ z=>z
def lz(cells:List (Str×Addr)):List (Str×NameKind)->List (Str×Addr)->List (Str×Addr)
 | [],acc=>acc
 |(n,k)::r,acc=>lz cells r (if k== .free then(match cells.lookup n with
  |some c=>(n,c)::acc
  |none=>acc) else acc)
theorem kQ {cells:List (Str×Addr)}: ∀ {names:List (Str×NameKind)} {acc:List (Str×Addr)},(∀p∈acc,cells.lookup p.1=some p.2)-> ∀p∈lz cells names acc,cells.lookup p.1=some p.2
 | [],acc,h,p,hp=>h p hp
 |(n,k)::r,acc,h,p,hp=>by
  refine kQ (names:=r) ?_ p hp
  intro q hq;split at hq
  ·split at hq
   ·rename_i c e
    rcases List.mem_cons.mp hq with rfl|hq
    ·exact e
    ·exact h q hq
   ·exact h q hq
  ·exact h q hq
theorem mC {cells:List (Str×Addr)}: ∀ {names:List (Str×NameKind)} {acc:List (Str×Addr)} (p:Str×Addr),p∈lz cells names acc->p∈acc\/(p.1,NameKind.free)∈names
 | [],acc,p,hp=>.inl hp
 |(n,k)::r,acc,p,hp=>by
  rcases mC (names:=r) p hp with hq|hq
  ·split at hq
   ·rename_i ek
    split at hq
    ·rcases List.mem_cons.mp hq with e|hq
     ·subst e
      have:k=.free:=by simpa using ek
      subst this;exact .inr List.mem_cons_self
     ·exact .inl hq
    ·exact .inl hq
   ·exact .inl hq
  ·exact .inr (List.mem_cons_of_mem _ hq)
theorem ms {cells:List (Str×Addr)}: ∀ {names:List (Str×NameKind)} {acc:List (Str×Addr)} {p:Str×Addr},p∈acc->p∈lz cells names acc
 | [],acc,p,h=>h
 |(n,k)::r,acc,p,h=>by
  refine ms (names:=r) ?_
  split
  ·split
   ·exact List.mem_cons_of_mem _ h
   ·exact h
  ·exact h
theorem nP {cells:List (Str×Addr)}{x:Str}{c:Addr}(hc:cells.lookup x=some c): ∀ {names:List (Str×NameKind)} {acc:List (Str×Addr)},(x,NameKind.free)∈names->(x,c)∈lz cells names acc
 | [],_,h=>nomatch h
 |(n,k)::r,acc,h=>by
  rcases List.mem_cons.mp h with e|h
  ·cases e
   refine ms (names:=r) ?_
   rw[if_pos (by rfl),hc]
   exact List.mem_cons_self
  ·exact nP hc (names:=r) h
theorem jw {l:List (Str×Addr)}{x:Str}{c:Addr}(h:(x,c)∈l)(u: ∀p∈l,p.1=x->p.2=c):l.lookup x=some c:=by
 induction l with
 |nil=>exact nomatch h
 |cons p r ih=>
  obtain⟨n,a⟩:=p
  rw[List.lookup_cons];cases e:x==n with
  |true=>
   have e':x=n:=eq_of_beq e
   have:=u (n,a) List.mem_cons_self e'.symm
   simpa using this
  |false=>
   have ne:x≠n:=λe'=>by rw[e'] at e;simp at e
   rcases List.mem_cons.mp h with e'|h
   ·cases e';exact absurd rfl ne
   ·exact ih h λp hp=>u p (List.mem_cons_of_mem _ hp)
theorem mP {cells:List (Str×Addr)}{names:List (Str×NameKind)}{x:Str}{c:Addr}(h:(lz cells names []).lookup x=some c):cells.lookup x=some c:=
 kQ (names:=names) (acc:=[]) (λ_ z=>nomatch z) (x,c) (PySem.mem_of_lookup h)
theorem ib {cells:List (Str×Addr)}{names:List (Str×NameKind)}{x:Str}{c:Addr}(hc:cells.lookup x=some c)(hf:(x,NameKind.free)∈names):(lz cells names []).lookup x=some c:=
 jw (nP hc hf) λp hp e=>by
  have:=kQ (names:=names) (acc:=[]) (λ_ z=>nomatch z) p hp
  rw[e,hc] at this;exact(Option.some.inj this).symm
theorem fx {scope:Scope}{env:Env}(h: ∀x,(x,NameKind.free)∈scope.names-> ∃c,env.cells.lookup x=some c):closureFor scope env=pure (lz env.cells scope.names []):=by
 unfold closureFor;have key: ∀(names:List (Str×NameKind)) (acc:List (Str×Addr)),(∀x,(x,NameKind.free)∈names-> ∃c,env.cells.lookup x=some c)->
  (forIn names acc (λ(p:Str×NameKind) (r:List (Str×Addr))=>match p with
    |(name,kind)=>if(kind==NameKind.free)=true then do
       let __do_lift <-cellOf env name
       pure (ForInStep.yield ((name,__do_lift)::r)) else pure (ForInStep.yield r)):Sem (List (Str×Addr)))=pure (lz env.cells names acc):=by
  intro names
  induction names with
  |nil=>intro acc _;rfl
  |cons p r ih=>
   intro acc h;obtain⟨n,k⟩:=p
   rw[List.forIn_cons];have hr: ∀x,(x,NameKind.free)∈r-> ∃c,env.cells.lookup x=some c:=λx hx=>h x (List.mem_cons_of_mem _ hx)
   cases e:k==NameKind.free with
   |false=>
    simp only[e,Bool.false_eq_true,if_false,pure_bind];rw[ih acc hr]
    conv=>rhs;unfold lz
    simp[e]
   |true=>
    have ek:k=.free:=by simpa using e
    subst ek;obtain⟨c,hc⟩:=h n List.mem_cons_self
    have ec:cellOf env n=pure c:=by unfold cellOf;rw[hc]
    simp only[beq_self_eq_true,if_true,ec,pure_bind];rw[ih _ hr]
    conv=>rhs;unfold lz
    simp[hc]
 have:=key scope.names [] h
 simp only[this,pure_bind]
theorem eR {sc:Scope}{env:Env}{x:Str}{k:NameKind}(h:(relabel sc env).names.lookup x=some k): ∃k0,sc.names.lookup x=some k0/\(k=k0\/(k0=.free/\k=.cell)):=by
 unfold relabel at h;dsimp only at h
 generalize sc.names=l at h⊢
 induction l with
 |nil=>simp at h
 |cons p r ih=>
  obtain⟨n,k1⟩:=p
  rw[List.map_cons] at h;dsimp only at h;rw[List.lookup_cons];cases hx:x==n with
  |true=>
   refine⟨k1,rfl,?_⟩
   split at h
   ·rename_i hc
    rw[List.lookup_cons] at h;simp only[hx] at h;cases h
    have:k1=.free:=by
     simp only[Bool.and_eq_true] at hc;exact eq_of_beq hc.1.1
    exact .inr ⟨this,rfl⟩
   ·rw[List.lookup_cons] at h
    simp only[hx] at h;cases h
    exact .inl rfl
  |false=>
   split at h
   ·rw[List.lookup_cons] at h;simp only[hx] at h;exact ih h
   ·rw[List.lookup_cons] at h;simp only[hx] at h;exact ih h
def kI(cells:List (Str×Addr))(scope:Scope)(C:Addr):List (Str×Addr):=cellsFrom (C+1) scope.names (lz cells scope.names [])
theorem aW: ∀(names:List (Str×NameKind)) (n:Nat) (acc:List (Str×Addr)),cellsFrom n names acc=cellsFrom n names []++acc
 | [],_,_=>rfl
 |(name,kind)::r,n,acc=>by
  unfold cellsFrom;split
  ·rw[aW r (n+1) ((name,n)::acc),aW r (n+1) [(name,n)],List.append_assoc];rfl
  ·exact aW r n acc
theorem kq: ∀ {names:List (Str×NameKind)} {n:Nat} {p:Str×Addr},p∈cellsFrom n names []->(p.1,NameKind.cell)∈names
 | [],_,_,h=>nomatch h
 |(name,kind)::r,n,p,h=>by
  unfold cellsFrom at h;split at h
  ·rename_i hk
   have hk':kind=.cell:=by simpa using hk
   subst hk';rw[aW] at h;rcases List.mem_append.mp h with h|h
   ·exact List.mem_cons_of_mem _ (kq h)
   ·rw[List.mem_singleton.mp h];exact List.mem_cons_self
  ·exact List.mem_cons_of_mem _ (kq h)
theorem gX: ∀ {names:List (Str×NameKind)} {n:Nat} {x:Str},(x,NameKind.cell)∈names-> ∃c,(x,c)∈cellsFrom n names []
 | [],_,_,h=>nomatch h
 |(name,kind)::r,n,x,h=>by
  unfold cellsFrom;rcases List.mem_cons.mp h with e|h
  ·cases e
   rw[if_pos (by rfl),aW]
   exact⟨n,List.mem_append_right _ List.mem_cons_self⟩
  ·split
   ·obtain⟨c,hc⟩:=gX (n:=n+1) h
    rw[aW];exact⟨c,List.mem_append_left _ hc⟩
   ·exact gX h
theorem m9 {l:List (Str×Addr)}{x:Str}{c:Addr}(h:(x,c)∈l): ∃c',l.lookup x=some c':=by
 induction l with
 |nil=>exact nomatch h
 |cons p r ih=>
  obtain⟨n,a⟩:=p
  rw[List.lookup_cons];cases e:x==n with
  |true=>exact⟨a,rfl⟩
  |false=>
   rcases List.mem_cons.mp h with e'|h
   ·cases e';simp at e
   ·exact ih h
theorem cN {cells:List (Str×Addr)}{sc:Scope}{C:Addr}{x:Str}{c:Addr}(h:(kI cells sc C).lookup x=some c):(x,c)∈cellsFrom (C+1) sc.names []\/(lz cells sc.names []).lookup x=some c:=by
 unfold kI at h;rw[aW,List.lookup_append] at h;cases e:(cellsFrom (C+1) sc.names []).lookup x with
 |none=>rw[e] at h;exact .inr h
 |some c'=>rw[e] at h;cases h;exact .inl (PySem.mem_of_lookup e)
theorem ql {cells:List (Str×Addr)}{sc:Scope}{C:Addr}{x:Str}(h:(x,NameKind.cell)∈sc.names): ∃c,(kI cells sc C).lookup x=some c:=by
 obtain⟨c,hc⟩:=gX (n:=C+1) h
 obtain⟨c',e⟩:=m9 hc
 exact⟨c',by unfold kI;rw[aW,List.lookup_append,e];rfl⟩
theorem mB {cells:List (Str×Addr)}{sc:Scope}{C:Addr}{x:Str}(h:(x,NameKind.cell)∉sc.names):(kI cells sc C).lookup x=(lz cells sc.names []).lookup x:=by
 unfold kI;rw[aW,List.lookup_append];cases e:(cellsFrom (C+1) sc.names []).lookup x with
 |none=>rfl
 |some c'=>exact absurd (kq (PySem.mem_of_lookup e)) h
theorem sM {M:Model}{A:Around}{E:Value->Shared->Prop}{s:Shared}{scope:Scope}{globals:Addr}{closure:List (Str×Addr)}{qual:Str}{outer:Env}{Q:Env->Shared->Prop}
 (hQ: ∀h',h'.Ns s.heap.objs.size (λ_=>none)->(∀b o,s.heap.get? b=some o->h'.get? b=some o)->CellsOk h' (s.heap.objs.size+1) (cellsFrom (s.heap.objs.size+1) scope.names [])->
   Q (newEnv scope s.heap.objs.size globals (cellsFrom (s.heap.objs.size+1) scope.names closure) qual none .none (some outer) builtinsNs) {s with heap:=h',toks:=s.toks}):
 wpAny M A (newFunctionEnv scope globals closure [] qual none .none (some outer)) Q E s:=by
 simp only[newFunctionEnv,Option.isSome_some,if_true];refine wpAny_bind (wpAny_alloc ?_)
 refine wpAny_bind (wpAny_layCells _ (λname kind cells=>by cases hkc:kind==NameKind.cell<;>simp[hkc]) _ _ _ _ ?_)
 have ok:=cellsFrom_ok scope.names (s.heap.push {cls:=.type "dict",data:=.dict #[]}) (s.heap.objs.size+1) [] ⟨λ_ _ hm=>(nomatch hm),List.Pairwise.nil⟩ (by rw[Heap.size_push];exact Nat.le_refl _)
 rw[Heap.size_push] at ok;rw[show({s with heap:=s.heap.push {cls:=.type "dict",data:=.dict #[]}}:Shared).heap.objs.size=s.heap.objs.size+1 from Heap.size_push ..]
 rw[List.forIn_nil];refine wpAny_bind (wpAny_pure (wpAny_pure ?_))
 exact hQ _ ((Heap.Ns.new s.heap (.type "dict")).keeps (pushCells_keeps _ _)) (λb o e=>pushCells_keeps _ _ b o (Heap.get?_push_of_some _ e)) ok
def bi(X:Cx)(N':List Str)(scope:Scope)(C:Addr)(s₀:Shared)(H₀:Hp)(ex:List Addr):Cx where
 prog:=X.prog
 w:=X.w
 K:=X.K
 mg:=X.mg
 base:=X.base
 A:=X.A
 N:=N'
 s₀:=s₀
 H₀:=H₀
 env:=compEnvC scope (kI X.env.cells scope C) C X.env
 outer:=X.stack
 stack:=X.stack
 ex:=ex
 fn:=λx=>scope.names.lookup x==some .local||scope.names.lookup x==some .cell
 calm:=X.calm
 pn:=[]
 xe:=λ_ _=>False
def sK(N N':List Str)(sc:Scope):Bool:=
 decide (N.length<=N'.length)&&((N'.take N.length).zip N).all (λp=>(p.1==p.2&& !(sc.names.lookup p.1==some .local)&& !(sc.names.lookup p.1==some .cell))||(sc.names.lookup p.1).isNone)&&
  (N'.drop N.length).all λx=>sc.names.lookup x==some .local||sc.names.lookup x==some .cell
def so(sc:Scope)(outer:Scope):Bool:=
 sc.names.all λy=>(y.2 != .cell||sc.names.lookup y.1==some .cell)&&(y.2 != .local||sc.names.lookup y.1==some .local)&&(y.2 != .free||(sc.names.lookup y.1==some .free&&(outer.names.lookup y.1==some .cell||outer.names.lookup y.1==some .free)))
theorem mh {sc o:Scope}(h:so sc o=true): ∀y∈sc.names,y.2=.cell->sc.names.lookup y.1=some .cell:=λy hy e=>by
 have:=List.all_eq_true.mp h y hy
 simpa [e] using this
theorem j8 {sc o:Scope}(h:so sc o=true): ∀y∈sc.names,y.2=.local->sc.names.lookup y.1=some .local:=λy hy e=>by
 have:=List.all_eq_true.mp h y hy
 simpa [e] using this
theorem gz {sc o:Scope}(h:so sc o=true): ∀x,(x,NameKind.free)∈sc.names->o.names.lookup x=some .cell\/o.names.lookup x=some .free:=λx hx=>by
 have:=List.all_eq_true.mp h _ hx
 simpa using (by simpa using this:_/\_).2
theorem jW {sc o:Scope}(h:so sc o=true): ∀x,(x,NameKind.free)∈sc.names->sc.names.lookup x=some .free:=λx hx=>by
 have:=List.all_eq_true.mp h _ hx
 simpa using (by simpa using this:_/\_).1
theorem oU {N N':List Str}{sc:Scope}(h:sK N N' sc=true){i:Nat}{x:Str}(hi:i<N.length)(e:N'[i]? =some x)(hv: ∃k,sc.names.lookup x=some k/\(k=.local\/k=.cell\/k=.free)):N[i]? =some x/\sc.names.lookup x=some .free:=by
 unfold sK at h;simp only[Bool.and_eq_true,decide_eq_true_eq] at h;obtain⟨⟨h1,h2⟩,_⟩:=h
 have hN:N[i]? =some N[i]:=List.getElem?_eq_getElem hi
 have e1:(N'.take N.length)[i]? =some x:=by rw[List.getElem?_take_of_lt hi];exact e
 have hm:(x,N[i])∈(N'.take N.length).zip N:=by
  refine List.mem_of_getElem? (i:=i) ?_
  rw[List.getElem?_zip_eq_some];exact⟨e1,hN⟩
 have:=List.all_eq_true.mp h2 _ hm
 obtain⟨k,hk,hk2⟩:=hv
 dsimp only at this;rw[hk] at this;simp only[Option.isNone_some,Bool.or_false,Bool.and_eq_true,Bool.not_eq_true'] at this;obtain⟨⟨t1,t2⟩,t3⟩:=this
 have ex:x=N[i]:=eq_of_beq t1
 rcases hk2 with rfl|rfl|rfl
 ·simp at t2
 ·simp at t3
 ·exact⟨by rw[hN,<-ex],hk⟩
theorem tH {N N':List Str}{sc:Scope}(h:sK N N' sc=true):N.length<=N'.length:=by
 unfold sK at h;simp only[Bool.and_eq_true,decide_eq_true_eq] at h;exact h.1.1
section
variable {X:Cx}{aa:List (Addr×Obj)}{σ:St}{H:Hp}{s:Shared}{scope:Scope}{N':List Str}{fp:List Addr}
theorem ph(I:Inv X aa σ H s){b:Addr}(f:jd X aa H b):b∉fK X.stack:=λz=>by
 rcases List.mem_cons.mp (I.stkSub b z) with e|z
 ·exact f.2.1 e
 ·exact f.2.2.1 z
theorem qd {h':Heap}{tk:Nat}(I:Inv X aa σ H s)(hF: ∀b∈fp,jd X aa H b)(hO: ∀b∈fp,∃o,s.heap.get? b=some o)(hk:scope.kind=.function)(hs:so scope X.env.scope=true)(hn:sK X.N N' scope=true)
 (ns:h'.Ns s.heap.objs.size λ_=>none) (kp: ∀b o,s.heap.get? b=some o->h'.get? b=some o) (oc:CellsOk h' (s.heap.objs.size+1) (cellsFrom (s.heap.objs.size+1) scope.names [])):
 Inv (bi X N' scope s.heap.objs.size s H fp) [] (σ++List.replicate (N'.length-X.N.length) none) H {s with heap:=h',toks:=tk}:=by
 have hlen:=tH hn
 have cl: ∀x c,(lz X.env.cells scope.names []).lookup x=some c->X.env.cells.lookup x=some c:=λx c e=>mP e
 have clt: ∀x c,(lz X.env.cells scope.names []).lookup x=some c->c<s.heap.objs.size:=λx c e=>let⟨_,z⟩:=I.cell x c (cl x c e);z.lt
 have newC:H s.heap.objs.size=none:=I.hok.fresh (Nat.le_refl _)
 refine⟨⟨I.ok.mod,hk,I.ok.glob,I.ok.blt,Nat.le_refl _,λx y c h1 h2=>?_,λx hx=>?_,λx c h1 h2=>?_,I.ok.hd,I.ok.frames,.inl rfl,λb hb=>⟨?_,λx c e=>?_⟩,I.bs,Nat.le_trans I.ok.bsz I.sz,λb o e hb=>?_,λb hb=>ph I (hF b hb),I.stack,I.stkFree⟩,
  rfl,I.bare,Un.kept kp,⟨_,ns,λi x v e1 e2 e3=>?_⟩,λx c e=>?_,newC,λx c e=>?_,λp hp=>absurd (show p∈([]:List (Addr×Obj)) from hp) (by simp),I.hok.kept kp,?_⟩
 ·
  rcases cN h1 with h1|h1<;>rcases cN h2 with h2|h2
  ·exact name_of_addr oc.apart h1 h2
  ·exact absurd (clt y c h2) (Nat.not_lt.mpr (Nat.le_of_succ_le (oc.empty _ _ h1).2))
  ·exact absurd (clt x c h1) (Nat.not_lt.mpr (Nat.le_of_succ_le (oc.empty _ _ h2).2))
  ·exact I.ok.inj x y c (cl x c h1) (cl y c h2)
 ·
  have hx':(relabel scope X.env).names.lookup x=some .cell\/(relabel scope X.env).names.lookup x=some .free:=hx
  have:(x,NameKind.cell)∈scope.names\/(x,NameKind.free)∈scope.names:=by
   rcases hx' with hx'|hx'
   ·obtain⟨k0,e0,e1|⟨e1,_⟩⟩:=eR hx'
    ·subst e1;exact .inl (PySem.mem_of_lookup e0)
    ·subst e1;exact .inr (PySem.mem_of_lookup e0)
   ·obtain⟨k0,e0,e1|⟨_,e1⟩⟩:=eR hx'
    ·subst e1;exact .inr (PySem.mem_of_lookup e0)
    ·cases e1
  rcases this with this|this
  ·exact ql this
  ·have hc:=gz hs x this
   obtain⟨c,e⟩:=I.ok.has x hc
   exact⟨c,(mB λz=>by have z1:=mh hs _ z rfl;have z2:=jW hs x this;rw[z2] at z1;cases z1).trans (ib e this)⟩
 ·
  have h1':scope.names.lookup x=some .local\/scope.names.lookup x=some .cell:=by
   have h1:(scope.names.lookup x==some .local||scope.names.lookup x==some .cell)=true:=h1
   simpa using h1
  rcases cN h2 with h2|h2
  ·exact Nat.le_of_succ_le (oc.empty _ _ h2).2
  ·exfalso
   rcases mC _ (PySem.mem_of_lookup h2) with z|z
   ·exact nomatch z
   ·rw[jW hs x z] at h1';rcases h1' with h1'|h1'<;>cases h1'
 ·obtain⟨o,e⟩:=hO b hb
  exact Nat.ne_of_lt (Heap.lt_size e)
 ·rcases cN e with e|e
  ·obtain⟨o,e'⟩:=hO b hb
   exact λz=>absurd (Heap.lt_size e') (Nat.not_lt.mpr (z▸Nat.le_of_succ_le (oc.empty _ _ e).2))
  ·exact(hF b hb).2.2.2.2.1 x c (cl x c e)
 ·obtain⟨_,_,_,h4,_⟩:=hF b hb
  rcases h4 with h4|h4
  ·exact I.ok.noex b o e h4
  ·exact absurd (Nat.lt_of_lt_of_le (Heap.lt_size e) (Nat.le_trans I.ok.bsz h4)) (Nat.lt_irrefl _)
 ·have hi:i<X.N.length:=by
   by_cases hi:i<σ.length
   ·rw[<-I.len];exact hi
   ·rw[List.getElem?_append_right (by omega),List.getElem?_replicate] at e2
    split at e2<;>cases e2
  rw[List.getElem?_append_left (by rw[I.len];exact hi)] at e2
  have e3':(relabel scope X.env).names.lookup x=some .local\/(relabel scope X.env).names.lookup x=some .cell\/(relabel scope X.env).names.lookup x=some .free:=e3
  have hv: ∃k,scope.names.lookup x=some k/\(k=.local\/k=.cell\/k=.free):=by
   rcases e3' with z|z|z
   all_goals
    obtain⟨k0,q0,q1|⟨q1,q2⟩⟩:=eR z
    ·subst q1;exact⟨_,q0,by simp⟩
    ·subst q1;exact⟨_,q0,by simp⟩
  obtain⟨hN,hf⟩:=oU hn hi e1 hv
  have hfm:=PySem.mem_of_lookup hf
  have hc:=gz hs x hfm
  have nc:(x,NameKind.cell)∉scope.names:=λz=>by have z1:=mh hs _ z rfl;rw[hf] at z1;cases z1
  obtain⟨m,hm,hl⟩:=I.loc
  obtain⟨u,r,l⟩:=hl i x v hN e2 (.inr hc)
  refine⟨u,r,.inr ⟨?_,?_⟩⟩
  ·show(relabel scope X.env).names.lookup x=some .cell\/(relabel scope X.env).names.lookup x=some .free
   rcases e3' with z|z|z
   ·obtain⟨k0,q0,q1|⟨q1,q2⟩⟩:=eR z
    ·subst q1;rw[hf] at q0;cases q0
    ·cases q2
   ·exact .inl z
   ·exact .inr z
  ·rcases l with⟨l,_⟩|⟨_,c,ec,z⟩
   ·have l':X.env.scope.names.lookup x=some .local:=l
    rcases hc with hc|hc<;>rw[hc] at l'<;>cases l'
   ·exact⟨c,(mB nc).trans (ib ec hfm),z.keeps kp⟩
 ·rcases cN e with e|e
  ·exact⟨_,(oc.empty _ _ e).1⟩
  ·obtain⟨v,z⟩:=I.cell x c (cl x c e)
   exact⟨v,z.keeps kp⟩
 ·rcases cN e with e|e
  ·exact I.hok.fresh (Nat.le_of_succ_le (oc.empty _ _ e).2)
  ·exact I.freeC x c (cl x c e)
 ·show(σ++_).length=N'.length
  rw[List.length_append,List.length_replicate,I.len];omega
end
def xz(K:W.Frag)(c:Ct)(hid:bv)(f:FA)(ρ:ax):TI:=λσ H R=>SR K c hid ρ σ H/\ ∃ds,f ρ=some ds/\ ∀J H',Same H H'->ItOk K (vw H' hid) J ds->R J H'
def DIp(X:Cx)(c:Ct)(tg iter:Expr)(f:FA):Prop:= ∀hid ρ,PI X tg iter (xz X.K c hid f ρ)
def wJ {ι:Type}(IR:Hp->V->ι->Prop)(L W:Hp)(J:It)(ds:List ι):Prop:=
 (∀(i:Nat) (d:ι) (H:Hp),ds[i]? =some d->Same L H->Same W H->J.go i H/\ ∀x H',J.yld i H x H'->Same H H'/\ ∀hid:bv,(∀b,hid b=true-> ∃o,H b=some o)->Same W (vw H hid)->IR (vw H' hid) x d)/\ ∀H,Same L H->Same W H->J.stop ds.length H
abbrev yu(K:W.Frag)(L W:Hp)(J:It)(ds:List D):Prop:=wJ (Rep K) L W J ds
theorem ItOk.b {K:W.Frag}{L W:Hp}{J:It}{ds:List D}(h:ItOk K W J ds):yu K L W J ds:=⟨λi d H e _ w=>h.1 i d H e w,λH _ w=>h.2 H w⟩
def yc {ι:Type}(IR:Hp->V->ι->Prop)(K:W.Frag)(c:Ct)(hid:bv)(f:ax->Option (List ι))(ρ:ax):TI:=λσ H R=>SR K c hid ρ σ H/\ ∃ds,f ρ=some ds/\ ∀J H',Same H H'->wJ IR H' (vw H' hid) J ds->R J H'
def xu {ι:Type}(IR:Hp->V->ι->Prop)(X:Cx)(c:Ct)(tg iter:Expr)(f:ax->Option (List ι)):Prop:= ∀hid ρ,PI X tg iter (yc IR X.K c hid f ρ)
abbrev xP(X:Cx)(c:Ct)(tg iter:Expr)(f:FA):Prop:=xu (Rep X.K) X c tg iter f
section
variable {X:Cx}{c:Ct}{k:Kd}{tg iter:Expr}{pos:Pos}
theorem DIp.b {f:FA}(h:DIp X c tg iter f):xP X c tg iter f:=λhid ρ=>PI.imp (h hid ρ) λσ H R ⟨sr,ds,e,q⟩=>⟨sr,ds,e,λJ H' s io=>q J H' s io.b⟩
theorem DIp.e {f:FA}(h:DIp X c tg iter f):DI X c tg iter (cu f):=λhid ρ=>PI.imp (h hid ρ) λσ H R hq_=>by
 obtain⟨sr,ds,ρ',e,q⟩:=hq_
 obtain⟨e1,rfl⟩:=lL e
 exact⟨sr,ds,e1,λJ H' s io=>q J H' (.of s) (sr.ext s) io⟩
def tQ(f:FE):FA:=λρ=>(f ρ).bind λd=>match d with
 | .lst ds=>some ds
 |_=>none
def sY(f:FE):FA:=λρ=>(f ρ).bind λd=>match d with
 | .tup ds=>some ds
 |_=>none
theorem pe {f:FE}{ρ:ax}{ds:List D}(h:tQ f ρ=some ds):f ρ=some (.lst ds):=by
 unfold tQ at h;cases e:f ρ with
 |none=>rw[e] at h;cases h
 |some d=>
  rw[e] at h;cases d with
  |lst z=>cases h;rfl
  |_=>cases h
theorem pd {f:FE}{ρ:ax}{ds:List D}(h:sY f ρ=some ds):f ρ=some (.tup ds):=by
 unfold sY at h;cases e:f ρ with
 |none=>rw[e] at h;cases h
 |some d=>
  rw[e] at h;cases d with
  |tup z=>cases h;rfl
  |_=>cases h
theorem qZ {K:W.Frag}{W:Hp}{a:Addr}{xs:List V}{ds:List D}(h1:SqL K W a xs)(h2:Reps K W xs ds):ItOk K W (xE K a) ds:=by
 refine⟨λi d H e s=>?_,λH s=>⟨_,s.seq h1,by rw[h2.length];exact Nat.le_refl _⟩⟩
 obtain⟨x,e1,r1⟩:=h2.get e
 refine⟨⟨_,x,s.seq h1,e1⟩,λy H' ⟨e2,e3⟩=>?_⟩
 subst e2;have:=e3 _ (s.seq h1)
 rw[e1] at this;cases this;exact⟨Same.refl _,λhid _ sw=>r1.mono sw⟩
theorem qA {f:FE}(h:DP X c .s iter f):DIp X c tg iter (tQ f):=λhid ρ=>PI.imp (nO (h hid ρ)) λσ H R hq_=>by
 obtain⟨sr,ds,e,q⟩:=hq_
 refine⟨sr,_,pe e,λv H' s' r=>?_⟩
 cases r with
 |lst h1 h2=>have h1:=SqL.of (K:=X.K) h1;exact⟨_,rfl,⟨_,(di _ _).seq h1⟩,q _ H' s' (qZ h1 h2)⟩
theorem tW {f:FE}(h:DP X c .s iter f):DIp X c tg iter (sY f):=λhid ρ=>PI.imp (vE (h hid ρ)) λσ H R hq_=>by
 obtain⟨sr,ds,e,q⟩:=hq_
 refine⟨sr,_,pd e,λv H' s' r=>?_⟩
 cases r with
 |tup h1 h2=>exact⟨_,rfl,⟨_,Same.seqT (di _ _) h1⟩,q _ H' s' (rE h1 h2)⟩
def bn(f:FA):FA:=λρ=>(f ρ).bind λds=>match ds with
 | [.int j]=>if j.natAbs<4000000000 then some (pk 0 j.toNat) else none
 |_=>none
theorem bN {a:Expr}{f:FA}{p:Pos}(hm:X.mg "range"=none)(ha:DA X c [a] f)(hg:Gl X "range":=by rfl)(hs:starEach [a] X.env=[(false,eval a X.env)]:=by rfl):DIp X c tg (.Call (.Name "range" p) [a] [] pos) (bn f):=λhid ρ=>
 PI.imp (pF hg hm (ha hid ρ) hs) λσ H R hq_=>by
  obtain⟨sr,ds,e,q⟩:=hq_
  unfold bn at e;cases e1:f ρ with
  |none=>rw[e1] at e;cases e
  |some z=>
   rw[e1] at e;dsimp only[Option.bind] at e;split at e
   ·split at e
    ·cases e
     refine⟨sr,_,e1,λvs H' s' r=>?_⟩
     cases r with
     |cons r t=>cases t;cases r;exact⟨_,rfl,by omega,by omega,q _ H' s' mU⟩
    ·cases e
   ·cases e
def n8(ifs:List Expr)(env:Env):Sem Bool:=forIn ifs true λc r=>if r=true then do let ok <-isTrue c env (eval c env);pure (ForInStep.yield ok) else pure (ForInStep.yield r)
def ve(X:Cx)(c:Ct)(ifs:List Expr)(p:FT):Prop:= ∀hid ρ (aa:List (Addr×Obj)) (s:Shared) (σ:St) (H:Hp) (Q:Bool->Hp->Prop),Inv X aa σ H s->xM X.K c hid p ρ σ H Q->wpAny (model X.prog X.w) X.A (n8 ifs X.env) (TP X aa σ Q) X.xe s
def cI:FT:=λ_=>some true
theorem eQ:ve X c [] cI:=λhid ρ aa s σ H Q I hq_=>by
 obtain⟨sr,d,e,q⟩:=hq_
 cases e
 exact wpAny_tests_nil ⟨H,I,q H (Same.refl _)⟩
theorem tN {e:Expr}{p:FT}(h:DT X c e p):ve X c [e] p:=λhid ρ aa s σ H Q I q=>wpAny_tests_one (h hid ρ aa s σ H Q I q)
end
theorem eS {prog:Program}{w:World}{A:Around}{R:Result->Shared->Prop}{s:Shared}{elt target iter:Expr}{ifs:List Expr}{scope:Scope}{pos:Pos}{it acc:Value}{env:Env}(I:Nat->Shared->Prop)
 (turn: ∀n s,I n s->wpAny (model prog w) A (pyNext it) (λr s₁=>match r with
   |none=>R (.ok .next) s₁
   |some v=>wpAny (model prog w) A (letOwnedTupleGo target it v) (λ_ s₁=>wpAny (model prog w) A (assign target env v) (λ_ s₂=>
     wpAny (model prog w) A (n8 ifs env) (λok s₃=>
      if ok=true then wpAny (model prog w) A (eval elt env) (λx s₄=>
       wpAny (model prog w) A (call (.builtin "list.append") [acc,x]) (λ_ s₅=> ∃m,m<n/\I m s₅) (λ_ _=>False) s₄) (λ_ _=>False) s₃
      else∃m,m<n/\I m s₃) (λ_ _=>False) s₂) (λ_ _=>False) s₁) (λ_ _=>False) s₁) (λ_ _=>False) s)
 (n:Nat) (h:I n s):
 codeAny (model prog w) A (.compLoop (.ListComp elt [⟨target,iter,ifs,0⟩] scope pos) 0 it acc env) R s:=by
 have no: ∀ {E':Value->Shared->Prop} (x:Value) (s:Shared),False->E' x s:=λ_ _ z=>z.elim
 refine codeAny_loop rfl I (λn s hI=>?_) n h
 show wpAny _ A ((compTurn (.ListComp elt [⟨target,iter,ifs,0⟩] scope pos) 0 it acc env).onRaise (λx=>do noteFrame x env;theTreesLotGoes x)) _ _ s
 refine wpAny_noted ?_
 rw[compTurn_list];refine wpAny_bind (wpAny_standAt (wpAny_bind (wpAny_mono (turn n s hI) (λr s₁ h₁=>?_) no)))
 cases r with
 |none=>exact wpAny_pure h₁
 |some v=>
  refine wpAny_bind (wpAny_mono h₁ (λ_ s₁ h₁=>?_) no)
  refine wpAny_bind (wpAny_mono h₁ (λ_ s₂ h₂=>wpAny_bind (wpAny_mono h₂ (λok s₃ h₃=>?_) no)) no)
  cases ok with
  |false=>exact wpAny_pure ⟨rfl,h₃⟩
  |true=>
   exact wpAny_bind (wpAny_bind (wpAny_mono h₃ (λx s₄ h₄=>wpAny_bind (wpAny_mono h₄ (λ_ s₅ h₅=>wpAny_pure (wpAny_pure ⟨rfl,h₅⟩)) no)) no))
def bB {ι:Type}(g:ι->ax->Option ax)(p:FT)(f:FE)(ρ0:ax):List ι->Option (List D)
 | []=>some []
 |d::r=>(g d ρ0).bind λρ1=>(p ρ1).bind λb=>if b=true then(f ρ1).bind λy=>(bB g p f ρ0 r).map (y:: ·) else bB g p f ρ0 r
def bb {ι:Type}(m:Nat)(gi:ax->Option (List ι))(g:ι->ax->Option ax)(p:FT)(f:FE):FE:=λρ=>(gi ρ).bind λds=>if ds.length<=sizeLine then(bB g p f (ρ++List.replicate m .no) ds).map D.lst else none
theorem iK {ι:Type}{m:Nat}{gi:ax->Option (List ι)}{g:ι->ax->Option ax}{p:FT}{f:FE}{ρ:ax}{d:D}(h:bb m gi g p f ρ=some d): ∃ds ys,gi ρ=some ds/\ds.length<=sizeLine/\bB g p f (ρ++List.replicate m .no) ds=some ys/\d=.lst ys:=by
 unfold bb at h;cases e1:gi ρ with
 |none=>rw[e1] at h;cases h
 |some ds=>
  rw[e1] at h;dsimp only[Option.bind] at h;split at h
  ·cases e2:bB g p f (ρ++List.replicate m .no) ds with
   |none=>rw[e2] at h;cases h
   |some ys=>rw[e2] at h;cases h;exact⟨ds,ys,rfl, ‹_›,e2,rfl⟩
  ·cases h
def kO {ι:Type}(n:Nat)(g:ι->ax->Option ax):Prop:= ∀d (ρ0 ρ1:ax),g d ρ0=some ρ1->ρ1.length=ρ0.length/\ ∀i:Nat,i<n->ρ1[i]? =ρ0[i]?
def oq(n:Nat)(g:mO):Prop:= ∀d (ρ0 ρ1:ax),g d ρ0=some ρ1->ρ1.length=ρ0.length/\ ∀i:Nat,i<n->ρ1[i]? =ρ0[i]?
theorem fz {n i:Nat}(h:n<=i):kO n (gN i):=λd ρ0 ρ1 e=>by
 cases e
 exact⟨by simp,λj hj=>List.getElem?_set_ne (by omega)⟩
theorem pi {n:Nat}:oq n ik:=λd ρ0 ρ1 e=>by
 unfold ik at e;split at e
 ·cases e;exact⟨rfl,λ_ _=>rfl⟩
 ·cases e
theorem iE {n:Nat}{g:FG}{gs:mO}(h1:kO n g)(h2:oq n gs):oq n (dB g gs):=λd ρ0 ρ1 e=>by
 cases d with
 |nil=>cases e
 |cons d ds=>
  have e:(g d ρ0).bind (λρ'=>gs ds ρ')=some ρ1:=e
  cases e1:g d ρ0 with
  |none=>rw[e1] at e;cases e
  |some ρ2=>
   rw[e1] at e;obtain⟨a1,a2⟩:=h1 d ρ0 ρ2 e1
   obtain⟨b1,b2⟩:=h2 ds ρ2 ρ1 e
   exact⟨b1.trans a1,λi hi=>(b2 i hi).trans (a2 i hi)⟩
theorem uL {n m:Nat}{gs:mO}(h:oq n gs):kO n (gT m gs):=λd ρ0 ρ1 e=>by
 unfold gT at e;split at e
 ·split at e
  ·exact h _ _ _ e
  ·cases e
 ·cases e
theorem SR.forget {K:W.Frag}{c:Ct}{hid:bv}{ρ0 ρ1:ax}{σ:St}{H:Hp}(h:SR K c hid ρ1 σ H)(hl:ρ1.length=ρ0.length)(hs: ∀(i:Nat) (s:Sl),ρ0[i]? =some s->s=.no\/ρ1[i]? =some s):SR K c hid ρ0 σ H:=by
 have ow: ∀i:Nat,Ow ρ0[i]? ->Ow ρ1[i]? :=λi o=>by
  cases e:ρ0[i]? with
  |none=>rw[e] at o;exact o.elim
  |some s=>
   rcases hs i s e with rfl|z
   ·rw[e] at o;exact o.elim
   ·rw[z,<-e];exact o
 refine⟨h.tr,h.ht,h.h0,h.kp,h.t0,h.c0,h.m0,h.len.trans hl,λi s e=>?_,λi j a n o1 o2=>h.ap i j a n (ow i o1) (ow j o2)⟩
 rcases hs i s e with rfl|z
 ·trivial
 ·exact h.sl i s z
theorem SR.more {K:W.Frag}{c:Ct}{hid:bv}{ρ:ax}{σ:St}{H:Hp}(h:SR K c hid ρ σ H)(m:Nat):SR K c hid (ρ++List.replicate m .no) (σ++List.replicate m none) H:=by
 have lt: ∀ {i:Nat},Ow (ρ++List.replicate m Sl.no)[i]? ->i<ρ.length:=λ{i} o=>by
  by_cases hi:i<ρ.length
  ·exact hi
  ·rw[List.getElem?_append_right (by omega),List.getElem?_replicate] at o
   split at o<;>exact o.elim
 refine⟨h.tr,h.ht,h.h0,h.kp,h.t0,h.c0,h.m0,by simp[h.len],λi s e=>?_,λi j a n o1 o2 q1 q2=>?_⟩
 ·by_cases hi:i<ρ.length
  ·rw[List.getElem?_append_left hi] at e
   have z:=h.sl i s e
   have es:(σ++List.replicate m none)[i]? =σ[i]? :=List.getElem?_append_left (by rw[h.len];exact hi)
   cases s with
   |no=>trivial
   |v d=>obtain⟨x,h1,h2⟩:=z;exact⟨x,es.trans h1,h2⟩
   |own ds=>obtain⟨a,xs,h1,h2⟩:=z;exact⟨a,xs,es.trans h1,h2⟩
   |arg ds=>obtain⟨a,xs,h1,h2⟩:=z;exact⟨a,xs,es.trans h1,h2⟩
   |ob b=>obtain⟨a,h1,h2⟩:=z;exact⟨a,es.trans h1,h2⟩
  ·rw[List.getElem?_append_right (by omega),List.getElem?_replicate] at e
   split at e
   ·cases e;trivial
   ·cases e
 ·have l1:=lt o1
  have l2:=lt o2
  rw[List.getElem?_append_left l1] at o1;rw[List.getElem?_append_left l2] at o2;rw[List.getElem?_append_left (by rw[h.len];exact l1)] at q1
  rw[List.getElem?_append_left (by rw[h.len];exact l2)] at q2
  exact h.ap i j a n o1 o2 q1 q2
section
variable {X:Cx}{c:Ct}{elt tg iter:Expr}{ifs:List Expr}{scope:Scope}{pos:Pos}{N':List Str}{m:Nat}{ι:Type}{IR:Hp->V->ι->Prop}{gi:ax->Option (List ι)}{g:ι->ax->Option ax}{p:FT}{f:FE}
theorem SR.write {K:W.Frag}{hid:bv}{ρ:ax}{σ:St}{H:Hp}{a:Addr}{o':HO}(h:SR K c hid ρ σ H)(hh:hid a=true)(h0:c.H₀ a=none)(na: ∀i:Nat,Ow ρ[i]? ->σ[i]? ≠some (some (.ref a))){o:HO}(ha:H a=some o)(hm: ∀p u,o≠ .nst p u:=by intro _ _ e;cases e)(hn: ∀xs,o'≠ .tup xs:=by intro _ e;cases e):SR K c hid ρ σ (aV H a o'):=by
 have tr': ∀b o,H b=some o-> ∃o2,(aV H a o') b=some o2:=λb o q=>by
  by_cases e:b=a
  ·subst e;exact⟨_,ay⟩
  ·exact⟨o,by rw[ar e];exact q⟩
 refine⟨λb hb=>let⟨o,q⟩:=h.tr b hb;tr' b o q,λb xs hb q=>by
  by_cases e:b=a
  ·subst e;rw[ay] at q;exact hn _ (Option.some.inj q)
  ·rw[ar e] at q;exact h.ht b xs hb q,h.h0,λb o q m=>?_,λb o q=>let⟨o2,q2⟩:=h.t0 b o q;tr' b o2 q2,h.c0,h.m0,h.len,λi s e=>?_,h.ap⟩
 ·rw[ar (br q h0)];exact h.kp b o q m
 ·have z:=h.sl i s e
  have ne: ∀a',Ow ρ[i]? ->σ[i]? =some (some (.ref a'))->a'≠a:=λa' o q w=>by subst w;exact na i o q
  cases s with
  |no=>trivial
  |v d=>obtain⟨x,h1,h2⟩:=z;exact⟨x,h1,by rw[cL hh];exact h2⟩
  |own ds=>obtain⟨a',xs,h1,h2,h3,h4,h5⟩:=z;exact⟨a',xs,h1,by rw[ar (ne a' (by rw[e];trivial) h1)];exact h2,h3,h4,by rw[cL hh];exact h5⟩
  |arg ds=>obtain⟨a',xs,h1,h2,h3,h4,h5⟩:=z;exact⟨a',xs,h1,by rw[ar (ne a' (by rw[e];trivial) h1)];exact h2,h3,h4,by rw[cL hh];exact h5⟩
  |ob b=>obtain⟨a',h1,h2⟩:=z;exact⟨a',h1,h2.mono (λow x hx o q=>by rw[ar (hx.ne (ne a' (by rw[e];exact ow) h1) ha hm)];exact q) (by rw[cL hh];exact Same.refl _) λ_ _ _ q=>q⟩
structure CLI(Y:Cx)(K:W.Frag)(c:Ct)(hid:bv)(ρ0:ax)(H W:Hp)(D0:Addr)(fp:List Addr)(tn:Nat->Heap->Prop){ι:Type}(g:ι->ax->Option ax)(p:FT)(f:FE)(ds:List ι)(ys:List D)(n i:Nat)(xs:List V)(ad:List D)(σ':St)(H':Hp)(s':Shared):Prop where
 e:n=ds.length-i
 hi:i<=ds.length
 I:Inv Y [] σ' H' s'
 st:tn i s'.heap
 fr: ∀b∈fp,H' b=none
 sr:SR K c hid ρ0 σ' H'
 sm:Same H H'
 ac:H' D0=some (.lst xs)
 rp:Reps K (vw H' hid) xs ad
 w:Same W (vw H' hid)
 hl:xs.length<=i
 na: ∀i:Nat,Ow ρ0[i]? ->σ'[i]? ≠some (some (.ref D0))
 go: ∃rest,bB g p f ρ0 (ds.drop i)=some rest/\ad++rest=ys
theorem po(hcalm:X.calm=true)(hT:kO X.N.length g)
 (hg: ∀C s₀ H₀ ex,w8 IR (bi X N' scope C s₀ H₀ ex) c tg g) (hp: ∀C s₀ H₀ ex,ve (bi X N' scope C s₀ H₀ ex) c ifs p) (he: ∀C s₀ H₀ ex,DP (bi X N' scope C s₀ H₀ ex) c .s elt f)
 {σ3:St} {H H3:Hp} {s3 s4:Shared} {hid:bv} {ρ:ax} {J:It} {it D0 C:Addr} {fp:List Addr} {tn:Nat->Heap->Prop} {ds:List ι} {ys:List D} {R:Result->Shared->Prop} {W:Hp} (hρ:ρ.length=X.N.length)
 (I:Inv (bi X N' scope C s3 H3 fp) [] σ3 H3 s4) (sr:SR X.K c hid (ρ++List.replicate m .no) σ3 H3) (hh:hid D0=true) (h00:c.H₀ D0=none) (na: ∀i:Nat,Ow (ρ++List.replicate m Sl.no)[i]? ->σ3[i]? ≠some (some (.ref D0))) (hacc:H3 D0=some (.lst [])) (sm:Same H H3) (nD:H D0=none) (wv:Same W (vw H3 hid)) (T:Turn X.prog X.w X.K tg J fp it tn) (st:tn 0 s4.heap) (hF: ∀b∈fp,H3 b=none)
 (io:wJ IR H W J ds) (hz:ds.length<=sizeLine) (hc:bB g p f (ρ++List.replicate m .no) ds=some ys)
 (hR: ∀(s':Shared) (σ':St) (H':Hp) (xs:List V),Inv (bi X N' scope C s3 H3 fp) [] σ' H' s'->Same H H'->H' D0=some (.lst xs)->Reps X.K (vw H' hid) xs ys->R (.ok .next) s'):
 codeAny (model X.prog X.w) X.A (.compLoop (.ListComp elt [⟨tg,iter,ifs,0⟩] scope pos) 0 (.ref it) (.ref D0) (compEnvC scope (kI X.env.cells scope C) C X.env)) R s4:=by
 have stat: ∀ {aa:List (Addr×Obj)} {H':Hp},(∀q∈aa,q.1∉fp)->(∀b∈fp,H' b=none)-> ∀b∈fp,jd (bi X N' scope C s3 H3 fp) aa H' b:=λ{aa H'} hpn hn b hb=>
  ⟨hn b hb,(I.ok.exf b hb).1,I.ok.exfs b hb,.inl hb,(I.ok.exf b hb).2,λq hq e=>hpn q (by have hq':q∈([]:List (Addr×Obj))++aa:=hq;simpa using hq') (by rw[e];exact hb)⟩
 have no: ∀q∈([]:List (Addr×Obj)),q.1∉fp:=λq hq=>nomatch hq
 refine eS (λn s'=> ∃(i:Nat) (xs:List V) (ad:List D) (σ':St) (H':Hp),CLI (bi X N' scope C s3 H3 fp) X.K c hid (ρ++List.replicate m .no) H W D0 fp tn g p f ds ys n i xs ad σ' H' s') ?_ ds.length
  ⟨0,[],[],σ3,H3,by simp,Nat.zero_le _,I,st,hF,sr,sm,hacc,.nil,wv,Nat.zero_le _,na,ys,by simpa using hc,rfl⟩
 rintro n s5 ⟨i,xs,ad,σ5,H5,rfl,hi,I5,st5,f5,sr5,sm5,ac5,rp5,w5,hl5,na5,rest,hc5,hy5⟩
 have wH:Same W H5:=w5.trans (di _ _)
 by_cases hlt:i<ds.length
 ·have hd:ds[i]? =some ds[i]:=List.getElem?_eq_getElem hlt
  have e2:ds.drop i=ds[i]::ds.drop (i+1):=List.drop_eq_getElem_cons hlt
  rw[e2] at hc5;unfold bB at hc5;obtain⟨go,yl⟩:=io.1 i ds[i] H5 hd sm5 wH
  refine bY (T.item (bi X N' scope C s3 H3 fp) rfl rfl rfl hcalm i [] s5 σ5 H5 (λ_ _=>False) I5 (stat no f5) st5 go) λr s6 hq_=>?_
  obtain⟨u,hr,h6⟩:=hq_
  subst hr;refine bY h6 λ_ s7 hq_=>?_
  obtain⟨x,H7,I7,r7,y7,st7,f7⟩:=hq_
  obtain⟨s7',rp⟩:=yl x H7 y7
  have rx:=rp hid sr5.tr w5
  have I7':=I7.pinned (stat no f7) (T.obj _ _ st7)
  cases e3:g ds[i] (ρ++List.replicate m .no) with
  |none=>rw[e3] at hc5;cases hc5
  |some ρ1=>
   rw[e3] at hc5;have hc5:(p ρ1).bind (λb=>if b=true then(f ρ1).bind λy=>(bB g p f (ρ++List.replicate m .no) (ds.drop (i+1))).map (y:: ·) else bB g p f (ρ++List.replicate m .no) (ds.drop (i+1)))=some rest:=hc5
   obtain⟨tl1,tl2⟩:=hT _ _ _ e3
   have fg: ∀ {σ':St} {H':Hp},SR X.K c hid ρ1 σ' H'->SR X.K c hid (ρ++List.replicate m .no) σ' H':=λ{σ' H'} z=>z.forget tl1 λj s e=>by
    by_cases hj:j<X.N.length
    ·exact .inr ((tl2 j hj).trans e)
    ·refine .inl ?_
     rw[List.getElem?_append_right (by omega),List.getElem?_replicate] at e
     split at e
     ·cases e;rfl
     ·cases e
   have keepT: ∀ {σ':St} {H':Hp} {s':Shared},Inv (bi X N' scope C s3 H3 fp) ([]++iW fp s7.heap) σ' H' s'->tn (i+1) s'.heap/\ ∀b∈fp,H' b=none:=λ{σ' H' s'} J'=>by
    refine⟨T.keep _ _ _ st7 λb hb o e=>(J'.pin (b,o) (List.mem_append_right _ (List.mem_append_right _ (eU hb e)))).1,λb hb=>?_⟩
    obtain⟨o,e,_⟩:=T.obj _ _ st7 b hb
    exact(J'.pin (b,o) (List.mem_append_right _ (List.mem_append_right _ (eU hb e)))).2.1
   refine bY (hg C s3 H3 fp hid _ ds[i] _ s7 σ5 H7 x u (λσ' H'=>H'=H7/\SR X.K c hid ρ1 σ' H7/\OwK (ρ++List.replicate m .no) ρ1 σ5 σ') I7' r7 ⟨sr5.ext s7',rx,ρ1,e3,λσ' z o=>⟨rfl,z,o⟩⟩) λ_ s8 hq_=>?_
   obtain⟨σ8,H8,I8,e8,q8,o8⟩:=hq_
   subst e8;have na8: ∀i:Nat,Ow (ρ++List.replicate m Sl.no)[i]? ->σ8[i]? ≠some (some (.ref D0)):=λj o=>by
    have o1:Ow ρ1[j]? :=by
     by_cases hj:j<X.N.length
     ·rw[tl2 j hj];exact o
     ·exfalso
      rw[List.getElem?_append_right (by omega),List.getElem?_replicate] at o
      split at o<;>exact o.elim
    rw[(o8 j o1).2];exact na5 j o
   cases e4:p ρ1 with
   |none=>rw[e4] at hc5;cases hc5
   |some b=>
    rw[e4] at hc5;have hc5:(if b=true then(f ρ1).bind λy=>(bB g p f (ρ++List.replicate m .no) (ds.drop (i+1))).map (y:: ·) else bB g p f (ρ++List.replicate m .no) (ds.drop (i+1)))=some rest:=hc5
    refine bY (hp C s3 H3 fp hid ρ1 _ s8 σ8 H8 (λb' H'=>b'=b/\Same H8 H') I8 ⟨q8,b,e4,λH' s'=>⟨rfl,s'⟩⟩) λok s9 hq_=>?_
    obtain⟨H9,I9,e9,sm9⟩:=hq_
    subst e9;have w9:Same (vw H5 hid) (vw H9 hid):=aH (s7'.trans sm9)
    cases ok with
    |false=>
     have hc5:bB g p f (ρ++List.replicate m .no) (ds.drop (i+1))=some rest:=hc5
     obtain⟨k1,k2⟩:=keepT I9
     exact⟨ds.length- (i+1),by omega,i+1,xs,ad,σ8,H9,rfl,hlt,I9.unpinned,k1,k2,fg (q8.ext sm9),sm5.trans (s7'.trans sm9),sm9 _ _ (s7' _ _ ac5),rp5.mono w9,w5.trans w9,by omega,na8,rest,hc5,hy5⟩
    |true=>
     have hc5:((f ρ1).bind λy=>(bB g p f (ρ++List.replicate m .no) (ds.drop (i+1))).map (y:: ·))=some rest:=hc5
     cases e5:f ρ1 with
     |none=>rw[e5] at hc5;cases hc5
     |some y=>
      rw[e5] at hc5;have hc5:(bB g p f (ρ++List.replicate m .no) (ds.drop (i+1))).map (y:: ·)=some rest:=hc5
      cases e6:bB g p f (ρ++List.replicate m .no) (ds.drop (i+1)) with
      |none=>rw[e6] at hc5;cases hc5
      |some rest'=>
       rw[e6] at hc5;cases hc5
       show wpAny (model X.prog X.w) X.A (eval elt _) _ _ s9;refine bY (he C s3 H3 fp hid ρ1 _ s9 σ8 H9 (λv H'=>Same H9 H'/\Rep X.K (vw H' hid) v y) I9 ⟨q8.ext sm9,y,e5,λv H' s' r=>⟨s',r⟩⟩) λv s10 hq_=>?_
       obtain⟨z,H10,I10,rz,sm10,rp10⟩:=hq_
       have sm':Same H5 H10:=s7'.trans (sm9.trans sm10)
       have a10:H10 D0=some (.lst xs):=sm' _ _ ac5
       refine bY (jB (X:=bi X N' scope C s3 H3 fp) _ s10 σ8 H10 (.ref D0) [z] (.ref D0) [v] (λ_ H'=>H'=aV H10 D0 (.lst (xs++[z]))) I10 rfl (.cons rz .nil) ⟨D0,xs,z,rfl,rfl,a10,by omega,rfl⟩) λ_ s11 ⟨_,H11,I11,_,e11⟩=>?_
       subst e11;obtain⟨k1,k2⟩:=keepT I11
       have vv:vw (aV H10 D0 (.lst (xs++[z]))) hid=vw H10 hid:=cL hh
       have w10:Same (vw H5 hid) (vw H10 hid):=aH sm'
       refine⟨ds.length- (i+1),by omega,i+1,xs++[z],ad++[y],σ8,_,rfl,hlt,I11.unpinned,k1,k2,?_,λb o e=>?_,ay,?_,?_,by simp;omega,na8,rest',e6,by rw[<-hy5];simp⟩
       ·
        have q10:=fg ((q8.ext sm9).ext sm10)
        exact q10.write hh h00 na8 a10
       ·rw[ar (br e nD)];exact sm' _ _ (sm5 _ _ e)
       ·rw[vv];exact(rp5.mono w10).append (.cons rp10 .nil)
       ·rw[vv];exact w5.trans w10
 ·have e:i=ds.length:=by omega
  subst e;rw[List.drop_eq_nil_of_le (Nat.le_refl _)] at hc5;cases hc5
  rw[List.append_nil] at hy5;subst hy5;refine bY (T.done (bi X N' scope C s3 H3 fp) rfl rfl rfl hcalm ds.length [] s5 σ5 H5 (λ_ _=>False) I5 (stat no f5) st5 (io.2 H5 sm5 wH)) λr s6 hq_=>?_
  obtain⟨hr,I6⟩:=hq_
  subst hr;exact hR s6 σ5 H5 xs I6 sm5 ac5 rp5
theorem jc(hcalm:X.calm=true)(hk:scope.kind=.function)(hs:so scope X.env.scope=true)(hn:sK X.N N' scope=true)(hm:N'.length-X.N.length=m)(hT:kO X.N.length g)
 (hg: ∀C s₀ H₀ ex,w8 IR (bi X N' scope C s₀ H₀ ex) c tg g) (hp: ∀C s₀ H₀ ex,ve (bi X N' scope C s₀ H₀ ex) c ifs p) (he: ∀C s₀ H₀ ex,DP (bi X N' scope C s₀ H₀ ex) c .s elt f)
 {E:Value->Shared->Prop} {aa:List (Addr×Obj)} {σ:St} {H:Hp} {s:Shared} {hid:bv} {ρ:ax} {J:It} {it:Addr} {fp:List Addr} {tn:Nat->Heap->Prop} {ds:List ι} {ys:List D} {RR:Value->Addr->Result->Shared->Prop}
 (I:Inv X aa σ H s) (sr:SR X.K c hid ρ σ H) (T:Turn X.prog X.w X.K tg J fp it tn) (st:tn 0 s.heap) (hF: ∀b∈fp,jd X aa H b) (io:wJ IR H (vw H hid) J ds) (hz:ds.length<=sizeLine) (hc:bB g p f (ρ++List.replicate m .no) ds=some ys)
 (hR: ∀(D C:Addr) (s':Shared) (H':Hp) (xs:List V),s.heap.objs.size<=D->s.heap.objs.size<=C->D≠C->H D=none->Same H H'->H' D=some (.lst xs)->Reps X.K (vw H' (bR hid D)) xs ys->(∃m,s'.heap.Ns C m)->H' C=none->s'.os=s.os->AllBare s'.gens->HOk X.prog X.w H' s'.heap->Un (fK X.stack) fp H H' s.heap s'.heap->RR (.ref D) C (.ok .next) s'):
 wpAny (model X.prog X.w) X.A (newList []) (λacc s₃=>wpAny (model X.prog X.w) X.A (newFunctionEnv scope X.env.globals (lz X.env.cells scope.names []) [] X.env.qual none .none (some X.env)) (λcenv s₄=>
  codeAny (model X.prog X.w) X.A (.compStart (.ListComp elt [⟨tg,iter,ifs,0⟩] scope pos) 0 (.ref it) acc {cenv with scope:=relabel scope X.env}) (RR acc cenv.locals) s₄) E s₃) E s:=by
 refine wpAny_newObj_type (sM λh₁ hns₁ kp1 oc₁=>?_)
 dsimp only at hns₁ kp1 oc₁⊢
 generalize hH2:s.heap.push {cls:=.type "list",dict:=none,data:=.seq ([]:List Value).toArray}=H2 at hns₁ kp1 oc₁⊢
 have hC:H2.objs.size=s.heap.objs.size+1:=by rw[<-hH2,Heap.size_push]
 have hD:H s.heap.objs.size=none:=I.hok.fresh (Nat.le_refl _)
 have I2:Inv X aa σ (aV H s.heap.objs.size (.lst [])) {s with heap:=H2}:=by
  rw[<-hH2];exact I.laid (t':=s.toks) (λb o e=>Heap.get?_push_of_some _ e) (Nat.le_refl _) ⟨Nat.zero_le _,[],0,.nil,Heap.get?_push_size _ rfl⟩
 have fpLt: ∀b∈fp,b<s.heap.objs.size:=λb hb=>let⟨o,e,_⟩:=T.obj 0 s.heap st b hb;Heap.lt_size e
 have hF2: ∀b∈fp,jd X aa (aV H s.heap.objs.size (.lst [])) b:=λb hb=>⟨by rw[ar (Nat.ne_of_lt (fpLt b hb))];exact(hF b hb).1,(hF b hb).2⟩
 have kp0: ∀b o,s.heap.get? b=some o->H2.get? b=some o:=λb o e=>by rw[<-hH2];exact Heap.get?_push_of_some _ e
 have IY:=qd (tk:=s.toks) (N':=N') (fp:=fp) I2 hF2 (λb hb=>let⟨o,e,_⟩:=T.obj 0 s.heap st b hb;⟨o,kp0 b o e⟩) hk hs hn hns₁ kp1 oc₁
 rw[hm] at IY;dsimp only at IY;have sr0:SR X.K c (bR hid s.heap.objs.size) (ρ++List.replicate m .no) (σ++List.replicate m none) (aV H s.heap.objs.size (.lst [])):=(sr.hide (bM hD _) hD ay).more m
 have hρ:ρ.length=X.N.length:=by rw[<-sr.len];exact I.len
 have nf:hid s.heap.objs.size=false:=sr.fresh hD
 have st1:tn 0 h₁:=T.keep _ _ _ st λb hb o e=>kp1 b o (kp0 b o e)
 have na0: ∀i:Nat,Ow (ρ++List.replicate m Sl.no)[i]? ->(σ++List.replicate m none)[i]? ≠some (some (V.ref s.heap.objs.size)):=(sr.more m).notOw nf
 have wv:Same (vw H hid) (vw (aV H s.heap.objs.size (.lst [])) (bR hid s.heap.objs.size)):=by rw[i4 hD];exact Same.refl _
 have loop: ∀s4:Shared,s4={s with heap:=h₁,toks:=s.toks}->
  codeAny (model X.prog X.w) X.A (.compLoop (.ListComp elt [⟨tg,iter,ifs,0⟩] scope pos) 0 (.ref it) (.ref s.heap.objs.size) (compEnvC scope (kI X.env.cells scope H2.objs.size) H2.objs.size X.env)) (RR (.ref s.heap.objs.size) H2.objs.size) s4:=by
  rintro s4 rfl
  refine po (H:=H) (hid:=bR hid s.heap.objs.size) (W:=vw H hid) hcalm hT hg hp he hρ IY sr0 eO (sr.fresh0 hD) na0 ay (bM hD _) hD wv T st1 (λb hb=>(hF2 b hb).1) io hz hc ?_
  intro s' σ' H' xs I' sm' hx' rp';have un1:Un (fK X.stack) fp H (aV H s.heap.objs.size (.lst [])) s.heap H2:=Un.laid (λb o e=>kp0 b o e) (Nat.le_refl _) hD
  refine hR s.heap.objs.size H2.objs.size s' H' xs (Nat.le_refl _) (by rw[hC];exact Nat.le_succ _) (by rw[hC];exact Nat.ne_of_lt (Nat.lt_succ_self _)) hD sm' hx' rp' (let⟨m,hm,_⟩:=I'.loc;⟨m,hm⟩) I'.free I'.os I'.bare I'.hok (un1.trans I'.base)
 exact codeAny_compStart_list (loop _ rfl) (T.self X.A 0 _ _ _ st1 (loop _ rfl))
theorem gj(hcalm:X.calm=true)(hT:kO X.N.length g)(hi:xu IR X c tg iter gi)
 (hg: ∀C s₀ H₀ ex,w8 IR (bi X N' scope C s₀ H₀ ex) c tg g) (hp: ∀C s₀ H₀ ex,ve (bi X N' scope C s₀ H₀ ex) c ifs p) (he: ∀C s₀ H₀ ex,DP (bi X N' scope C s₀ H₀ ex) c .s elt f)
 (hk:scope.kind=.function:=by rfl) (hs:so scope X.env.scope=true:=by kernel_rfl) (hn:sK X.N N' scope=true:=by kernel_rfl) (hm:N'.length-X.N.length=m:=by rfl) (hset: ∀x,foldedSetIterable iter X.env x=pure x:=by intro _;rfl):
 DP X c .n (.ListComp elt [⟨tg,iter,ifs,0⟩] scope pos) (bb m gi g p f):=by
 intro hid ρ aa s σ H Q I hq;obtain⟨sr,d,hd,q⟩:=hq
 obtain⟨ds,ys,e1,hz,hc,rfl⟩:=iK hd
 rw[eval_ListComp];refine wpAny_comprehension_free (use:=none) rfl hset (fx λx hx=>I.ok.has x (gz hs x hx)) hk (j8 hs) ?_
 refine bY (hi hid ρ aa s σ H (λJ H'=>Same H H'/\wJ IR H' (vw H' hid) J ds) I ⟨sr,ds,e1,λJ H' s1 io=>⟨s1,io⟩⟩) λv s1 h1=>bY h1 λitv s2 h2=>?_
 obtain⟨it,fp,tn,J,H2,rfl,I2,T,st2,f2,sm,io⟩:=h2
 refine jc (RR:=λacc C=>compPost (model X.prog X.w) X.A X.xe none (EP X aa σ Q) acc C) hcalm hk hs hn hm hT hg hp he I2 (sr.ext sm) T st2 f2 io hz hc ?_
 intro D C s' H' xs hDge hCge hDC hD sm' hx rp ⟨mm,hns⟩ hC' hos hbare hok hun;refine⟨mm,hns,λh' hsb=>⟨.ref D,H',?_,rfl,q _ H' (sm.trans sm') ⟨D,xs,ys,rfl,rfl,sm.free hD,hx,rp⟩⟩⟩
 have neC: ∀b o,s2.heap.get? b=some o->b≠C:=λb o e z=>by subst z;exact absurd (Heap.lt_size e) (Nat.not_lt.mpr hCge)
 have hun':Un (fK X.stack) fp H2 H' s2.heap h':=⟨λb o e n h1 h2=>(hsb.2 b (neC b o e)).trans (hun.keep b o e n h1 h2),λb o e n h1 h2=>let⟨sl,z⟩:=hun.slot b o e n h1 h2;⟨sl,(hsb.2 b (neC b o e)).trans z⟩,hun.free,λb o e h2=>let⟨o',z⟩:=hun.there b o e h2;⟨o',(hsb.2 b (neC b o e)).trans z⟩,hun.tups,hun.frzs,hun.tbls⟩
 have hok':HOk X.prog X.w H' h':=λb o e=>by
  have nb: ∀b' o',H' b'=some o'->b'≠C:=λb' o' e' z=>by subst z;rw[hC'] at e';cases e'
  refine(hok b o e).stay (λc' u hc' z=>(hsb.2 c' ?_).trans z) (λ_ z=>z) λ_ _ z=>z
  rcases hc' with z'|z'
  ·rw[z'];exact nb b o e
  ·exact nb c' _ z'
 exact I2.call' (s':={s' with heap:=h'}) (ch:=fp) hos hun' hok' hbare λb hb=>⟨(f2 b hb).2.2.2.1,(f2 b hb).2.1,(f2 b hb).2.2.2.2.1,(f2 b hb).2.2.2.2.2⟩
end
section
variable {X:Cx}{c:Ct}{elt tg iter:Expr}{ifs:List Expr}{scope:Scope}{pos spos py:Pos}{N':List Str}{m:Nat}{gi:FA}{g:FG}{p:FT}{f:FE}{y:Str}
theorem sZ(i:Nat)(hcalm:X.calm=true)(hN:X.N.Nodup)(hT:kO X.N.length g)(hi:xP X c tg iter gi)
 (hg: ∀C s₀ H₀ ex,uA (bi X N' scope C s₀ H₀ ex) c tg g) (hp: ∀C s₀ H₀ ex,ve (bi X N' scope C s₀ H₀ ex) c ifs p) (he: ∀C s₀ H₀ ex,DP (bi X N' scope C s₀ H₀ ex) c .s elt f)
 (hsw:swapsWith (.ListComp elt [⟨tg,iter,ifs,0⟩] scope pos) (some (.Name y py)) spos.line X.env=pure true) (hyi:X.N[i]? =some y) (hy:X.env.scope.names.lookup y=some .local)
 (hk:scope.kind=.function) (hs:so scope X.env.scope=true) (hn:sK X.N N' scope=true) (hm:N'.length-X.N.length=m) (hset: ∀x,foldedSetIterable iter X.env x=pure x) (ρ:ax):
 PS X (.Assign [.Name y py] (.ListComp elt [⟨tg,iter,ifs,0⟩] scope pos) spos) (uY (λσ H Q=> ∃hid,sf X.K c hid .n (bb m gi g p f) ρ σ H Q) (qc i)):=by
 intro aa s σ H E I hq;obtain⟨hid,sr,d,hd,q⟩:=hq
 obtain⟨ds,ys,e1,hz,hc,rfl⟩:=iK hd
 rw[exec_Assign_Name_used _ _ _ _ hsw];refine wpAny_bind (wpAny_standAt (wpAny_bind ?_))
 show wpAny _ X.A (do let _ <-comprehension (.ListComp elt [⟨tg,iter,ifs,0⟩] scope pos) scope X.env _ (newList []) false (eval iter X.env) (some (assign (.Name y py) X.env))) _ _ s
 refine wpAny_bind (wpAny_mono (wpAny_comprehension_free (use:=some (assign (.Name y py) X.env)) (Q:=λ_ s'=>SP X aa E .next s') rfl hset (fx λx hx=>I.ok.has x (gz hs x hx)) hk (j8 hs) ?_) (λ_ s' hq=>wpAny_pure (wpAny_pure hq)) λ_ _ e=>e)
 refine bY (hi hid ρ aa s σ H (λJ H'=>Same H H'/\yu X.K H' (vw H' hid) J ds) I ⟨sr,ds,e1,λJ H' s1 io=>⟨s1,io⟩⟩) λv s1 h1=>bY h1 λitv s2 h2=>?_
 obtain⟨it,fp,tn,J,H2,rfl,I2,T,st2,f2,sm,io⟩:=h2
 refine jc (IR:=Rep X.K) (RR:=λacc C=>compPost (model X.prog X.w) X.A X.xe (some (assign (.Name y py) X.env)) (λ_ s'=>SP X aa E .next s') acc C) hcalm hk hs hn hm hT hg hp he I2 (sr.ext sm) T st2 f2 io hz hc ?_
 intro D C s' H' xs hDge hCge hDC hD sm' hx rp ⟨mm,hns⟩ hC' hos hbare hok hun;have I3:Inv X aa σ H' s':=I2.call' (ch:=fp) hos hun hok hbare λb hb=>⟨(f2 b hb).2.2.2.1,(f2 b hb).2.1,(f2 b hb).2.2.2.2.1,(f2 b hb).2.2.2.2.2⟩
 have fin:=q _ H' (sm.trans sm') ⟨D,xs,ys,rfl,rfl,sm.free hD,hx,rp⟩
 have ltC: ∀b o,s2.heap.get? b=some o->b≠C:=λb o e z=>by subst z;exact absurd (Heap.lt_size e) (Nat.not_lt.mpr hCge)
 have hLC:C≠X.env.locals:=λz=>by
  have:=I2.lt
  rw[<-z] at this;exact absurd this (Nat.not_lt.mpr hCge)
 show wpAny _ X.A (assign (.Name y py) X.env (.ref D)) _ _ s';refine wpAny_assign_Name (jO (v:=.ref D) I3 hN hyi (.inl hy) rfl (λs'' I4 hb=>?_) (.inr hy))
 obtain⟨a,hsb,ha⟩:=hb
 have hCa:C≠a:=by
  rcases ha with rfl|ha
  ·exact hLC
  ·obtain⟨w',o,ho,_⟩:=I2.cell y a ha
   exact λz=>ltC a o ho z.symm
 refine⟨mm,hns.sameBut hsb hCa,λh3 hs3=>⟨_,H',?_,fin⟩⟩
 refine I4.turned (t':=s''.toks) (it:=C) (λb o nb e=>(hs3.2 b nb).trans e) hC' hLC (.inr (Nat.le_trans I2.sz hCge)) (λx c' e z=>?_) (λq hq z=>?_)
 ·obtain⟨w',o,ho,_⟩:=I2.cell x c' e
  exact ltC c' o ho z
 ·exact ltC q.1 q.2 (I2.pin q hq).1 z
theorem kT(i:Nat){k:Kd}(hcalm:X.calm=true)(hN:X.N.Nodup)(hT:kO X.N.length g)(hi:xP X c tg iter gi)
 (hg: ∀C s₀ H₀ ex,uA (bi X N' scope C s₀ H₀ ex) c tg g) (hp: ∀C s₀ H₀ ex,ve (bi X N' scope C s₀ H₀ ex) c ifs p) (he: ∀C s₀ H₀ ex,DP (bi X N' scope C s₀ H₀ ex) c .s elt f)
 (hsw:swapsWith (.ListComp elt [⟨tg,iter,ifs,0⟩] scope pos) (some (.Name y py)) spos.line X.env=pure true:=by rfl) (hyi:X.N[i]? =some y:=by rfl) (hy:X.env.scope.names.lookup y=some .local:=by rfl)
 (hk:scope.kind=.function:=by rfl) (hs:so scope X.env.scope=true:=by kernel_rfl) (hn:sK X.N N' scope=true:=by kernel_rfl) (hm:N'.length-X.N.length=m:=by rfl) (hset: ∀x,foldedSetIterable iter X.env x=pure x:=by intro _;rfl):
 DS X c k (.Assign [.Name y py] (.ListComp elt [⟨tg,iter,ifs,0⟩] scope pos) spos) (dQ i (bb m gi g p f)):=λρ=>PS.imp (sZ i hcalm hN hT hi hg hp he hsw hyi hy hk hs hn hm hset ρ) λD σ H hq_=>by
 obtain⟨hid,sr,q⟩:=hq_
 unfold dQ at q;cases e1:bb m gi g p f ρ with
 |none=>rw[e1] at q;exact q.elim
 |some z=>
  rw[e1] at q;exact⟨hid,sr,z,e1,λv H' s r=>vx (sr.post s r (by decide)) q⟩
end
mutual
def df:D->D->Bool
 | .non,.non=>true
 | .bl a,.bl b=>a==b
 | .bl a,.int b=>(if a then 1 else 0)==b
 | .int a,.bl b=>a==(if b then 1 else 0)
 | .int a,.int b=>a==b
 | .str a,.str b=>a==b
 | .tup a,.tup b=>ce a b
 | .lst a,.lst b=>ce a b
 | .lst a,.scr b=>ce a b
 | .scr a,.lst b=>ce a b
 | .scr a,.scr b=>ce a b
 |_,_=>false
def ce:List D->List D->Bool
 | [],[]=>true
 |x::xs,y::ys=>df x y&&ce xs ys
 |_,_=>false
end
mutual
def cO:D->Nat
 | .tup a=>fm a+1
 | .lst a=>fm a+1
 | .scr _=>cLine
 |_=>0
def fm:List D->Nat
 | []=>0
 |x::xs=>max (cO x) (fm xs)
end
theorem mt: ∀ {xs:List D} {i:Nat} {d:D},xs[i]? =some d->cO d<=fm xs
 | [],_,_,h=>by simp at h
 |x::xs,0,d,h=>by simp at h;subst h;unfold fm;exact Nat.le_max_left _ _
 |x::xs,i+1,d,h=>by
  have:=mt (xs:=xs) (i:=i) (d:=d) (by simpa using h)
  unfold fm;exact Nat.le_trans this (Nat.le_max_right _ _)
mutual
theorem gq: ∀x:D,df x x=true
 | .non=>by unfold df;rfl
 | .bl a=>by unfold df;simp
 | .int a=>by unfold df;simp
 | .str a=>by unfold df;simp
 | .tup a=>by unfold df;exact fG a
 | .lst a=>by unfold df;exact fG a
 | .scr a=>by unfold df;exact fG a
theorem fG: ∀x:List D,ce x x=true
 | []=>by unfold ce;rfl
 |x::xs=>by unfold ce;rw[gq x,fG xs];rfl
end
def fO(xs ys:List D)(j:Nat):Bool:=match xs[j]?,ys[j]? with
 |some x,some y=>df x y
 |_,_=>false
theorem jX {xs ys:List D}(h:xs.length=ys.length):(List.range xs.length).all (fO xs ys)=ce xs ys:=by
 induction xs generalizing ys with
 |nil=>
  cases ys with
  |nil=>unfold ce;rfl
  |cons y ys=>simp at h
 |cons x xs ih=>
  cases ys with
  |nil=>simp at h
  |cons y ys=>
   rw[List.length_cons,List.range_succ_eq_map,List.all_cons,List.all_map];have e0:fO (x::xs) (y::ys) 0=df x y:=rfl
   have e1:((fO (x::xs) (y::ys))∘Nat.succ)=fO xs ys:=by funext j;simp[fO]
   rw[e0,e1,ih (by simpa using h)]
   conv=>rhs;unfold ce
theorem iH: ∀ {xs ys:List D},xs.length≠ys.length->ce xs ys=false
 | [],[],h=>absurd rfl h
 | [],_::_,_=>by unfold ce;rfl
 |_::_,[],_=>by unfold ce;rfl
 |x::xs,y::ys,h=>by unfold ce;rw[iH (xs:=xs) (ys:=ys) (by simpa using h)];simp
section
variable {X:Cx}{aa:List (Addr×Obj)}{σ:St}{H:Hp}{s:Shared}
theorem cZ(I:Inv X aa σ H s){a:Addr}{xs ys:List V}(h:SqL X.K H a xs)(h':SqT X.K H a ys):False:=by
 obtain⟨its,_,pl,_⟩:=I.list h
 obtain⟨its',_,pt,_⟩:=I.tuple h'
 exact SeqAt.ne_of_list_tuple pl.isList pt rfl
theorem vV {a b:List D}(h: ∀zs,ce a zs=ce b zs):(∀z,df (.tup a) z=df (.tup b) z)/\(∀z,df (.lst a) z=df (.lst b) z)/\ ∀z,df (.scr a) z=df (.lst b) z:=by
 refine⟨λz=>?_,λz=>?_,λz=>?_⟩<;>cases z<;>unfold df<;>first|exact h _|rfl
theorem wE {b:List D}: ∀z,df (.scr b) z=df (.lst b) z:=(vV λ_=>rfl).2.2
mutual
theorem Rep.eqv(I:Inv X aa σ H s): ∀ {v:V} {x y:D},Rep X.K H v x->Rep X.K H v y-> ∀z,df x z=df y z
 |_,_,_,.non,.non=>λ_=>rfl
 |_,_,_,.bl,.bl=>λ_=>rfl
 |_,_,_,.int,.int=>λ_=>rfl
 |_,_,_,.str,.str=>λ_=>rfl
 |_,_,_,.tup h r,.tup h' r'=>by rw[I.tuple_inj h h'] at r;exact(vV (Reps.eqv I r r')).1
 |_,_,_,.lst h r,.lst h' r'=>by rw[I.list_inj (SqL.of h) (SqL.of h')] at r;exact(vV (Reps.eqv I r r')).2.1
 |_,_,_,.lst h r,.scr h' r'=>by rw[I.list_inj (SqL.of h) h'.seq] at r;exact λz=>((vV (Reps.eqv I r r')).2.1 z).trans (wE z).symm
 |_,_,_,.scr h r,.lst h' r'=>by rw[I.list_inj h.seq (SqL.of h')] at r;exact(vV (Reps.eqv I r r')).2.2
 |_,_,_,.scr h r,.scr h' r'=>by rw[I.list_inj h.seq h'.seq] at r;exact λz=>((vV (Reps.eqv I r r')).2.2 z).trans (wE z).symm
 |_,_,_,.tup h r,.lst h' r'=>(cZ I (SqL.of h') h).elim
 |_,_,_,.lst h r,.tup h' r'=>(cZ I (SqL.of h) h').elim
 |_,_,_,.tup h r,.scr h' r'=>(cZ I h'.seq h).elim
 |_,_,_,.scr h r,.tup h' r'=>(cZ I h.seq h').elim
theorem Reps.eqv(I:Inv X aa σ H s): ∀ {v:List V} {x y:List D},Reps X.K H v x->Reps X.K H v y-> ∀z,ce x z=ce y z
 |_,_,_,.nil,.nil=>λ_=>rfl
 |_,_,_,.cons r t,.cons r' t'=>λz=>by
  cases z with
  |nil=>unfold ce;rfl
  |cons w ws=>unfold ce;rw[Rep.eqv I r r' w,Reps.eqv I t t' ws]
end
theorem aA(I:Inv X aa σ H s){a:Addr}{xs:List V}{ds:List D}(h:SqL X.K H a xs)(r:Reps X.K H xs ds): ∃its:List Value,s.heap.IsList a its.toArray/\its.length=ds.length/\ ∀(j:Nat) (hj:j<its.length),∃(v:V) (d:D),ds[j]? =some d/\RelV v its[j]/\Rep X.K H v d:=by
 obtain⟨its,rv,pl,_⟩:=I.list h
 have h1:=rv.length
 have h2:=r.length
 refine⟨its,pl.isList,by omega,λj hj=>?_⟩
 have e:xs[j]? =some xs[j]:=List.getElem?_eq_getElem (by omega)
 obtain⟨u,e1,r1⟩:=rv.get e
 obtain⟨d,e2,r2⟩:=r.get' e
 have:its[j]=u:=by rw[List.getElem?_eq_getElem hj] at e1;exact Option.some.inj e1
 rw[this];exact⟨xs[j],d,e2,r1,r2⟩
theorem bq(I:Inv X aa σ H s){a:Addr}{xs:List V}{ds:List D}(h:SqT X.K H a xs)(r:Reps X.K H xs ds): ∃its:List Value,s.heap.IsTuple a its.toArray/\its.length=ds.length/\ ∀(j:Nat) (hj:j<its.length),∃(v:V) (d:D),ds[j]? =some d/\RelV v its[j]/\Rep X.K H v d:=by
 obtain⟨its,rv,pl,_⟩:=I.tuple h
 have h1:=rv.length
 have h2:=r.length
 refine⟨its,pl,by omega,λj hj=>?_⟩
 have e:xs[j]? =some xs[j]:=List.getElem?_eq_getElem (by omega)
 obtain⟨u,e1,r1⟩:=rv.get e
 obtain⟨d,e2,r2⟩:=r.get' e
 have:its[j]=u:=by rw[List.getElem?_eq_getElem hj] at e1;exact Option.some.inj e1
 rw[this];exact⟨xs[j],d,e2,r1,r2⟩
end
section
variable {X:Cx}{aa:List (Addr×Obj)}{σ:St}{H:Hp}{s:Shared}
theorem j6(A:Around):A.in1.units=A.units+1:=rfl
theorem ue {A:Around}{n:Nat}(IH: ∀ {x y:D} {v u:V} {a b:Value} {A:Around},cO x<n->A.units+cO x<cLine->RelV v a->RelV u b->Rep X.K H v x->Rep X.K H u y->SeqAt.EqAt A s a b (df x y)){xs ys:List D}{its its2:List Value}(hd:fm xs<n)(hu:A.units+fm xs<cLine)
 (g1: ∀(j:Nat) (hj:j<its.length),∃(v:V) (d:D),xs[j]? =some d/\RelV v its[j]/\Rep X.K H v d) (g2: ∀(j:Nat) (hj:j<its2.length),∃(v:V) (d:D),ys[j]? =some d/\RelV v its2[j]/\Rep X.K H v d):
 ∀j (h1:j<its.toArray.size) (h2:j<its2.toArray.size),SeqAt.EqAt A s its.toArray[j] its2.toArray[j] (fO xs ys j):=λj h1 h2=>by
 obtain⟨v,d,e1,r1,p1⟩:=g1 j (by simpa using h1)
 obtain⟨u,d',e2,r2,p2⟩:=g2 j (by simpa using h2)
 have ez:fO xs ys j=df d d':=by unfold fO;rw[e1,e2]
 rw[ez];have hdd:=mt e1
 exact IH (by omega) (by omega) (by simpa using r1) (by simpa using r2) p1 p2
theorem fF(I:Inv X aa σ H s){A:Around}{n:Nat}(IH: ∀ {x y:D} {v u:V} {a b:Value} {A:Around},cO x<n->A.units+cO x<cLine->RelV v a->RelV u b->Rep X.K H v x->Rep X.K H u y->SeqAt.EqAt A s a b (df x y)){xs ys:List D}{zs ws:List V}{a b:Addr}(hd:fm xs<n)(hu:A.units+(fm xs+1)<cLine)
 (h1:SqL X.K H a zs) (r1:Reps X.K H zs xs) (h2:SqL X.K H b ws) (r2:Reps X.K H ws ys):SeqAt.RcAt A s (.ref a) (.ref b) (ce xs ys)/\SeqAt.RcNeAt A s (.ref a) (.ref b) (!ce xs ys):=by
 obtain⟨its,l1,n1,g1⟩:=aA I h1 r1
 obtain⟨its2,l2,n2,g2⟩:=aA I h2 r2
 by_cases e:xs.length=ys.length
 ·have hsz:its.toArray.size=its2.toArray.size:=by simp;omega
  have he:=ue (A:=A.in1) IH hd (by rw[j6];omega) g1 g2
  have ea:(List.range its.toArray.size).all (fO xs ys)=ce xs ys:=by rw[List.size_toArray,n1];exact jX e
  rw[<-ea];exact⟨SeqAt.RcAt.lists l1 l2 hsz (by omega) he,SeqAt.RcNeAt.lists l1 l2 hsz (by omega) he⟩
 ·rw[iH e]
  have hsz:(its.toArray.size !=its2.toArray.size)=true:=by simp;omega
  exact⟨SeqAt.RcAt.lists_lengths l1 l2 hsz (by omega),SeqAt.RcNeAt.lists_lengths l1 l2 hsz (by omega)⟩
theorem nL(I:Inv X aa σ H s){A:Around}{n:Nat}(IH: ∀ {x y:D} {v u:V} {a b:Value} {A:Around},cO x<n->A.units+cO x<cLine->RelV v a->RelV u b->Rep X.K H v x->Rep X.K H u y->SeqAt.EqAt A s a b (df x y)){xs ys:List D}{zs ws:List V}{a b:Addr}(hd:fm xs<n)(hu:A.units+(fm xs+1)<cLine)
 (h1:SqT X.K H a zs) (r1:Reps X.K H zs xs) (h2:SqT X.K H b ws) (r2:Reps X.K H ws ys):SeqAt.RcAt A s (.ref a) (.ref b) (ce xs ys)/\SeqAt.RcNeAt A s (.ref a) (.ref b) (!ce xs ys):=by
 obtain⟨its,l1,n1,g1⟩:=bq I h1 r1
 obtain⟨its2,l2,n2,g2⟩:=bq I h2 r2
 have he:=ue (A:=A.in1) IH hd (by rw[j6];omega) g1 g2
 have ea:((List.range (min its.toArray.size its2.toArray.size)).all (fO xs ys)&&its.toArray.size==its2.toArray.size)=ce xs ys:=by
  rw[List.size_toArray,List.size_toArray,n1,n2]
  by_cases e:xs.length=ys.length
  ·rw[<-e,Nat.min_self,jX e];simp
  ·rw[iH e];simp[e]
 rw[<-ea];exact⟨SeqAt.RcAt.tuples l1 l2 (by omega) he,SeqAt.RcNeAt.tuples l1 l2 (by omega) he⟩
theorem hU(I:Inv X aa σ H s){A:Around}{a b:Addr}{x y:D}(r1:Rep X.K H (.ref a) x)(r2:Rep X.K H (.ref b) y)(e:a=b):SeqAt.EqAt A s (.ref a) (.ref b) (df x y):=by
 subst e;rw[Rep.eqv I r1 r2,gq];exact SeqAt.EqAt.same _
theorem vR(I:Inv X aa σ H s){n:Nat}(IH: ∀ {x y:D} {v u:V} {a b:Value} {A:Around},cO x<n->A.units+cO x<cLine->RelV v a->RelV u b->Rep X.K H v x->Rep X.K H u y->SeqAt.EqAt A s a b (df x y)){x y:D}{v u:V}{a b:Value}{A:Around}(hd:cO x<n+1)(hu:A.units+cO x<cLine)(hc:A.units<cLine)
 (ra:RelV v a) (rb:RelV u b) (px:Rep X.K H v x) (py:Rep X.K H u y):SeqAt.EqAt A s a b (df x y):=by
 unfold df;cases px with
 |non=>
  cases ra
  cases py with
  |non=>
   cases rb
   exact SeqAt.EqAt.same _
  |bl=>
   cases rb
   exact SeqAt.EqAt.none_bool _
  |int=>
   obtain⟨t2,rfl⟩:=rb
   exact SeqAt.EqAt.none_int _ _
  |str=>
   obtain⟨t2,rfl⟩:=rb
   exact SeqAt.EqAt.none_str _ _
  | @tup a2 _ _ h2 r2=>
    cases rb
    obtain⟨its2,l2,_⟩:=bq I h2 r2
    exact SeqAt.EqAt.none_tuple l2 (by omega)
  | @lst a2 _ _ h2 r2=>
    cases rb
    obtain⟨its2,l2,_⟩:=aA I (SqL.of h2) r2
    exact SeqAt.EqAt.none_list l2 (by omega)
  | @scr a2 _ _ h2 r2=>
    cases rb
    obtain⟨its2,l2,_⟩:=aA I h2.seq r2
    exact SeqAt.EqAt.none_list l2 (by omega)
 |bl=>
  cases ra
  cases py with
  |non=>
   cases rb
   exact SeqAt.EqAt.bool_none _
  |bl=>
   cases rb
   exact SeqAt.EqAt.bool_bool _ _
  |int=>
   obtain⟨t2,rfl⟩:=rb
   exact SeqAt.EqAt.bool_int _ _ _
  |str=>
   obtain⟨t2,rfl⟩:=rb
   exact SeqAt.EqAt.bool_str _ _ _
  | @tup a2 _ _ h2 r2=>
    cases rb
    obtain⟨its2,l2,_⟩:=bq I h2 r2
    exact SeqAt.EqAt.bool_tuple _ l2 (by omega)
  | @lst a2 _ _ h2 r2=>
    cases rb
    obtain⟨its2,l2,_⟩:=aA I (SqL.of h2) r2
    exact SeqAt.EqAt.bool_list _ l2 (by omega)
  | @scr a2 _ _ h2 r2=>
    cases rb
    obtain⟨its2,l2,_⟩:=aA I h2.seq r2
    exact SeqAt.EqAt.bool_list _ l2 (by omega)
 |int=>
  obtain⟨t1,rfl⟩:=ra
  cases py with
  |non=>
   cases rb
   exact SeqAt.EqAt.int_none _ _
  |bl=>
   cases rb
   exact SeqAt.EqAt.int_bool _ _ _
  |int=>
   obtain⟨t2,rfl⟩:=rb
   exact SeqAt.EqAt.int_int _ _ _ _
  |str=>
   obtain⟨t2,rfl⟩:=rb
   exact SeqAt.EqAt.int_str _ _ _ _
  | @tup a2 _ _ h2 r2=>
    cases rb
    obtain⟨its2,l2,_⟩:=bq I h2 r2
    exact SeqAt.EqAt.int_tuple _ _ l2 (by omega)
  | @lst a2 _ _ h2 r2=>
    cases rb
    obtain⟨its2,l2,_⟩:=aA I (SqL.of h2) r2
    exact SeqAt.EqAt.int_list _ _ l2 (by omega)
  | @scr a2 _ _ h2 r2=>
    cases rb
    obtain⟨its2,l2,_⟩:=aA I h2.seq r2
    exact SeqAt.EqAt.int_list _ _ l2 (by omega)
 |str=>
  obtain⟨t1,rfl⟩:=ra
  cases py with
  |non=>
   cases rb
   exact SeqAt.EqAt.str_none _ _
  |bl=>
   cases rb
   exact SeqAt.EqAt.str_bool _ _ _
  |int=>
   obtain⟨t2,rfl⟩:=rb
   exact SeqAt.EqAt.str_int _ _ _ _
  |str=>
   obtain⟨t2,rfl⟩:=rb
   exact SeqAt.EqAt.str_str _ _ _ _
  | @tup a2 _ _ h2 r2=>
    cases rb
    obtain⟨its2,l2,_⟩:=bq I h2 r2
    exact SeqAt.EqAt.str_tuple _ _ l2 (by omega)
  | @lst a2 _ _ h2 r2=>
    cases rb
    obtain⟨its2,l2,_⟩:=aA I (SqL.of h2) r2
    exact SeqAt.EqAt.str_list _ _ l2 (by omega)
  | @scr a2 _ _ h2 r2=>
    cases rb
    obtain⟨its2,l2,_⟩:=aA I h2.seq r2
    exact SeqAt.EqAt.str_list _ _ l2 (by omega)
 | @tup a1 _ _ h1 r1=>
   cases ra
   obtain⟨its,l1,_⟩:=bq I h1 r1
   cases py with
   |non=>
    cases rb
    exact SeqAt.EqAt.tuple_none l1 (by omega)
   |bl=>
    cases rb
    exact SeqAt.EqAt.tuple_bool _ l1 (by omega)
   |int=>
    obtain⟨t2,rfl⟩:=rb
    exact SeqAt.EqAt.tuple_int _ _ l1 (by omega)
   |str=>
    obtain⟨t2,rfl⟩:=rb
    exact SeqAt.EqAt.tuple_str _ _ l1 (by omega)
   | @tup a2 _ _ h2 r2=>
     cases rb
     obtain⟨its2,l2,_⟩:=bq I h2 r2
     by_cases e:a1=a2
     ·exact(hU I (.tup h1 r1) (.tup h2 r2) e)
     ·exact SeqAt.EqAt.of_refs e (nL I IH (by unfold cO at hd;omega) (by unfold cO at hu;omega) h1 r1 h2 r2).1
   | @lst a2 _ _ h2 r2=>
     cases rb
     obtain⟨its2,l2,_⟩:=aA I (SqL.of h2) r2
     exact SeqAt.EqAt.tuple_list l1 l2 (by omega)
   | @scr a2 _ _ h2 r2=>
     cases rb
     obtain⟨its2,l2,_⟩:=aA I h2.seq r2
     exact SeqAt.EqAt.tuple_list l1 l2 (by omega)
 | @scr a1 _ _ h1 r1=>exact absurd hu (by unfold cO;omega)
 | @lst a1 _ _ h1 r1=>
   cases ra
   obtain⟨its,l1,_⟩:=aA I (SqL.of h1) r1
   cases py with
   |non=>
    cases rb
    exact SeqAt.EqAt.list_none l1 (by omega)
   |bl=>
    cases rb
    exact SeqAt.EqAt.list_bool _ l1 (by omega)
   |int=>
    obtain⟨t2,rfl⟩:=rb
    exact SeqAt.EqAt.list_int _ _ l1 (by omega)
   |str=>
    obtain⟨t2,rfl⟩:=rb
    exact SeqAt.EqAt.list_str _ _ l1 (by omega)
   | @tup a2 _ _ h2 r2=>
     cases rb
     obtain⟨its2,l2,_⟩:=bq I h2 r2
     exact SeqAt.EqAt.list_tuple l1 l2 (by omega)
   | @lst a2 _ _ h2 r2=>
     cases rb
     obtain⟨its2,l2,_⟩:=aA I (SqL.of h2) r2
     by_cases e:a1=a2
     ·exact(hU I (.lst h1 r1) (.lst h2 r2) e)
     ·exact SeqAt.EqAt.of_refs e (fF I IH (by unfold cO at hd;omega) (by unfold cO at hu;omega) (SqL.of h1) r1 (SqL.of h2) r2).1
   | @scr a2 _ _ h2 r2=>
     cases rb
     obtain⟨its2,l2,_⟩:=aA I h2.seq r2
     by_cases e:a1=a2
     ·exact(hU I (.lst h1 r1) (.scr h2 r2) e)
     ·exact SeqAt.EqAt.of_refs e (fF I IH (by unfold cO at hd;omega) (by unfold cO at hu;omega) (SqL.of h1) r1 h2.seq r2).1
theorem kW(I:Inv X aa σ H s): ∀(n:Nat) {x y:D} {v u:V} {a b:Value} {A:Around},cO x<n->A.units+cO x<cLine->RelV v a->RelV u b->Rep X.K H v x->Rep X.K H u y->SeqAt.EqAt A s a b (df x y)
 |0,x,y,v,u,a,b,A,hd,hu,ra,rb,px,py=>absurd hd (Nat.not_lt_zero _)
 |n+1,x,y,v,u,a,b,A,hd,hu,ra,rb,px,py=>vR I (λh1 h2 h3 h4 h5 h6=>kW I n h1 h2 h3 h4 h5 h6) hd hu (by omega) ra rb px py
theorem vm(I:Inv X aa σ H s){x y:D}{v u:V}{a b:Value}{A:Around}(hu:A.units+cO x<cLine)(hc:A.units<cLine)(ra:RelV v a)(rb:RelV u b)(px:Rep X.K H v x)(py:Rep X.K H u y):SeqAt.RcAt A s a b (df x y):=by
 have IH:=λ{x y:D} {v u:V} {a b:Value} {A:Around} (n:Nat)=> @kW X aa σ H s I n x y v u a b A
 have IH: ∀ {n:Nat} {x y:D} {v u:V} {a b:Value} {A:Around},cO x<n->A.units+cO x<cLine->RelV v a->RelV u b->Rep X.K H v x->Rep X.K H u y->SeqAt.EqAt A s a b (df x y):=λ{n x y v u a b A}=>kW I n
 unfold df;cases px with
 |non=>
  cases ra
  cases py with
  |non=>
   cases rb
   exact SeqAt.RcAt.none_none
  |bl=>
   cases rb
   exact SeqAt.RcAt.none_bool _
  |int=>
   obtain⟨t2,rfl⟩:=rb
   exact SeqAt.RcAt.none_int _ _
  |str=>
   obtain⟨t2,rfl⟩:=rb
   exact SeqAt.RcAt.none_str _ _
  | @tup a2 _ _ h2 r2=>
    cases rb
    obtain⟨its2,l2,_⟩:=bq I h2 r2
    exact SeqAt.RcAt.none_tuple l2 (by omega)
  | @lst a2 _ _ h2 r2=>
    cases rb
    obtain⟨its2,l2,_⟩:=aA I (SqL.of h2) r2
    exact SeqAt.RcAt.none_list l2 (by omega)
  | @scr a2 _ _ h2 r2=>
    cases rb
    obtain⟨its2,l2,_⟩:=aA I h2.seq r2
    exact SeqAt.RcAt.none_list l2 (by omega)
 |bl=>
  cases ra
  cases py with
  |non=>
   cases rb
   exact SeqAt.RcAt.bool_none _
  |bl=>
   cases rb
   exact SeqAt.RcAt.bool_bool _ _
  |int=>
   obtain⟨t2,rfl⟩:=rb
   exact SeqAt.RcAt.bool_int _ _ _
  |str=>
   obtain⟨t2,rfl⟩:=rb
   exact SeqAt.RcAt.bool_str _ _ _
  | @tup a2 _ _ h2 r2=>
    cases rb
    obtain⟨its2,l2,_⟩:=bq I h2 r2
    exact SeqAt.RcAt.bool_tuple _ l2 (by omega)
  | @lst a2 _ _ h2 r2=>
    cases rb
    obtain⟨its2,l2,_⟩:=aA I (SqL.of h2) r2
    exact SeqAt.RcAt.bool_list _ l2 (by omega)
  | @scr a2 _ _ h2 r2=>
    cases rb
    obtain⟨its2,l2,_⟩:=aA I h2.seq r2
    exact SeqAt.RcAt.bool_list _ l2 (by omega)
 |int=>
  obtain⟨t1,rfl⟩:=ra
  cases py with
  |non=>
   cases rb
   exact SeqAt.RcAt.int_none _ _
  |bl=>
   cases rb
   exact SeqAt.RcAt.int_bool _ _ _
  |int=>
   obtain⟨t2,rfl⟩:=rb
   exact SeqAt.RcAt.int_int _ _ _ _
  |str=>
   obtain⟨t2,rfl⟩:=rb
   exact SeqAt.RcAt.int_str _ _ _ _
  | @tup a2 _ _ h2 r2=>
    cases rb
    obtain⟨its2,l2,_⟩:=bq I h2 r2
    exact SeqAt.RcAt.int_tuple _ _ l2 (by omega)
  | @lst a2 _ _ h2 r2=>
    cases rb
    obtain⟨its2,l2,_⟩:=aA I (SqL.of h2) r2
    exact SeqAt.RcAt.int_list _ _ l2 (by omega)
  | @scr a2 _ _ h2 r2=>
    cases rb
    obtain⟨its2,l2,_⟩:=aA I h2.seq r2
    exact SeqAt.RcAt.int_list _ _ l2 (by omega)
 |str=>
  obtain⟨t1,rfl⟩:=ra
  cases py with
  |non=>
   cases rb
   exact SeqAt.RcAt.str_none _ _
  |bl=>
   cases rb
   exact SeqAt.RcAt.str_bool _ _ _
  |int=>
   obtain⟨t2,rfl⟩:=rb
   exact SeqAt.RcAt.str_int _ _ _ _
  |str=>
   obtain⟨t2,rfl⟩:=rb
   exact SeqAt.RcAt.str_str _ _ _ _
  | @tup a2 _ _ h2 r2=>
    cases rb
    obtain⟨its2,l2,_⟩:=bq I h2 r2
    exact SeqAt.RcAt.str_tuple _ _ l2 (by omega)
  | @lst a2 _ _ h2 r2=>
    cases rb
    obtain⟨its2,l2,_⟩:=aA I (SqL.of h2) r2
    exact SeqAt.RcAt.str_list _ _ l2 (by omega)
  | @scr a2 _ _ h2 r2=>
    cases rb
    obtain⟨its2,l2,_⟩:=aA I h2.seq r2
    exact SeqAt.RcAt.str_list _ _ l2 (by omega)
 | @tup a1 _ _ h1 r1=>
   cases ra
   obtain⟨its,l1,_⟩:=bq I h1 r1
   cases py with
   |non=>
    cases rb
    exact SeqAt.RcAt.tuple_none l1 (by omega)
   |bl=>
    cases rb
    exact SeqAt.RcAt.tuple_bool _ l1 (by omega)
   |int=>
    obtain⟨t2,rfl⟩:=rb
    exact SeqAt.RcAt.tuple_int _ _ l1 (by omega)
   |str=>
    obtain⟨t2,rfl⟩:=rb
    exact SeqAt.RcAt.tuple_str _ _ l1 (by omega)
   | @tup a2 _ _ h2 r2=>
     cases rb
     obtain⟨its2,l2,_⟩:=bq I h2 r2
     exact(nL I IH (Nat.lt_succ_self _) (by unfold cO at hu;omega) h1 r1 h2 r2).1
   | @lst a2 _ _ h2 r2=>
     cases rb
     obtain⟨its2,l2,_⟩:=aA I (SqL.of h2) r2
     exact SeqAt.RcAt.tuple_list l1 l2 (by omega)
   | @scr a2 _ _ h2 r2=>
     cases rb
     obtain⟨its2,l2,_⟩:=aA I h2.seq r2
     exact SeqAt.RcAt.tuple_list l1 l2 (by omega)
 | @scr a1 _ _ h1 r1=>exact absurd hu (by unfold cO;omega)
 | @lst a1 _ _ h1 r1=>
   cases ra
   obtain⟨its,l1,_⟩:=aA I (SqL.of h1) r1
   cases py with
   |non=>
    cases rb
    exact SeqAt.RcAt.list_none l1 (by omega)
   |bl=>
    cases rb
    exact SeqAt.RcAt.list_bool _ l1 (by omega)
   |int=>
    obtain⟨t2,rfl⟩:=rb
    exact SeqAt.RcAt.list_int _ _ l1 (by omega)
   |str=>
    obtain⟨t2,rfl⟩:=rb
    exact SeqAt.RcAt.list_str _ _ l1 (by omega)
   | @tup a2 _ _ h2 r2=>
     cases rb
     obtain⟨its2,l2,_⟩:=bq I h2 r2
     exact SeqAt.RcAt.list_tuple l1 l2 (by omega)
   | @lst a2 _ _ h2 r2=>
     cases rb
     obtain⟨its2,l2,_⟩:=aA I (SqL.of h2) r2
     exact(fF I IH (Nat.lt_succ_self _) (by unfold cO at hu;omega) (SqL.of h1) r1 (SqL.of h2) r2).1
   | @scr a2 _ _ h2 r2=>
     cases rb
     obtain⟨its2,l2,_⟩:=aA I h2.seq r2
     exact(fF I IH (Nat.lt_succ_self _) (by unfold cO at hu;omega) (SqL.of h1) r1 h2.seq r2).1
theorem pQ(I:Inv X aa σ H s){x y:D}{v u:V}{a b:Value}{A:Around}(hu:A.units+cO x<cLine)(hc:A.units<cLine)(ra:RelV v a)(rb:RelV u b)(px:Rep X.K H v x)(py:Rep X.K H u y):SeqAt.RcNeAt A s a b (!df x y):=by
 have IH: ∀ {n:Nat} {x y:D} {v u:V} {a b:Value} {A:Around},cO x<n->A.units+cO x<cLine->RelV v a->RelV u b->Rep X.K H v x->Rep X.K H u y->SeqAt.EqAt A s a b (df x y):=λ{n x y v u a b A}=>kW I n
 unfold df;cases px with
 |non=>
  cases ra
  cases py with
  |non=>
   cases rb
   exact SeqAt.RcNeAt.none_none
  |bl=>
   cases rb
   exact SeqAt.RcNeAt.none_bool _
  |int=>
   obtain⟨t2,rfl⟩:=rb
   exact SeqAt.RcNeAt.none_int _ _
  |str=>
   obtain⟨t2,rfl⟩:=rb
   exact SeqAt.RcNeAt.none_str _ _
  | @tup a2 _ _ h2 r2=>
    cases rb
    obtain⟨its2,l2,_⟩:=bq I h2 r2
    exact SeqAt.RcNeAt.none_tuple l2 (by omega)
  | @lst a2 _ _ h2 r2=>
    cases rb
    obtain⟨its2,l2,_⟩:=aA I (SqL.of h2) r2
    exact SeqAt.RcNeAt.none_list l2 (by omega)
  | @scr a2 _ _ h2 r2=>
    cases rb
    obtain⟨its2,l2,_⟩:=aA I h2.seq r2
    exact SeqAt.RcNeAt.none_list l2 (by omega)
 |bl=>
  cases ra
  cases py with
  |non=>
   cases rb
   exact SeqAt.RcNeAt.bool_none _
  |bl=>
   cases rb
   exact SeqAt.RcNeAt.bool_bool _ _
  |int=>
   obtain⟨t2,rfl⟩:=rb
   exact SeqAt.RcNeAt.bool_int _ _ _
  |str=>
   obtain⟨t2,rfl⟩:=rb
   exact SeqAt.RcNeAt.bool_str _ _ _
  | @tup a2 _ _ h2 r2=>
    cases rb
    obtain⟨its2,l2,_⟩:=bq I h2 r2
    exact SeqAt.RcNeAt.bool_tuple _ l2 (by omega)
  | @lst a2 _ _ h2 r2=>
    cases rb
    obtain⟨its2,l2,_⟩:=aA I (SqL.of h2) r2
    exact SeqAt.RcNeAt.bool_list _ l2 (by omega)
  | @scr a2 _ _ h2 r2=>
    cases rb
    obtain⟨its2,l2,_⟩:=aA I h2.seq r2
    exact SeqAt.RcNeAt.bool_list _ l2 (by omega)
 |int=>
  obtain⟨t1,rfl⟩:=ra
  cases py with
  |non=>
   cases rb
   exact SeqAt.RcNeAt.int_none _ _
  |bl=>
   cases rb
   exact SeqAt.RcNeAt.int_bool _ _ _
  |int=>
   obtain⟨t2,rfl⟩:=rb
   exact SeqAt.RcNeAt.int_int _ _ _ _
  |str=>
   obtain⟨t2,rfl⟩:=rb
   exact SeqAt.RcNeAt.int_str _ _ _ _
  | @tup a2 _ _ h2 r2=>
    cases rb
    obtain⟨its2,l2,_⟩:=bq I h2 r2
    exact SeqAt.RcNeAt.int_tuple _ _ l2 (by omega)
  | @lst a2 _ _ h2 r2=>
    cases rb
    obtain⟨its2,l2,_⟩:=aA I (SqL.of h2) r2
    exact SeqAt.RcNeAt.int_list _ _ l2 (by omega)
  | @scr a2 _ _ h2 r2=>
    cases rb
    obtain⟨its2,l2,_⟩:=aA I h2.seq r2
    exact SeqAt.RcNeAt.int_list _ _ l2 (by omega)
 |str=>
  obtain⟨t1,rfl⟩:=ra
  cases py with
  |non=>
   cases rb
   exact SeqAt.RcNeAt.str_none _ _
  |bl=>
   cases rb
   exact SeqAt.RcNeAt.str_bool _ _ _
  |int=>
   obtain⟨t2,rfl⟩:=rb
   exact SeqAt.RcNeAt.str_int _ _ _ _
  |str=>
   obtain⟨t2,rfl⟩:=rb
   exact SeqAt.RcNeAt.str_str _ _ _ _
  | @tup a2 _ _ h2 r2=>
    cases rb
    obtain⟨its2,l2,_⟩:=bq I h2 r2
    exact SeqAt.RcNeAt.str_tuple _ _ l2 (by omega)
  | @lst a2 _ _ h2 r2=>
    cases rb
    obtain⟨its2,l2,_⟩:=aA I (SqL.of h2) r2
    exact SeqAt.RcNeAt.str_list _ _ l2 (by omega)
  | @scr a2 _ _ h2 r2=>
    cases rb
    obtain⟨its2,l2,_⟩:=aA I h2.seq r2
    exact SeqAt.RcNeAt.str_list _ _ l2 (by omega)
 | @tup a1 _ _ h1 r1=>
   cases ra
   obtain⟨its,l1,_⟩:=bq I h1 r1
   cases py with
   |non=>
    cases rb
    exact SeqAt.RcNeAt.tuple_none l1 (by omega)
   |bl=>
    cases rb
    exact SeqAt.RcNeAt.tuple_bool _ l1 (by omega)
   |int=>
    obtain⟨t2,rfl⟩:=rb
    exact SeqAt.RcNeAt.tuple_int _ _ l1 (by omega)
   |str=>
    obtain⟨t2,rfl⟩:=rb
    exact SeqAt.RcNeAt.tuple_str _ _ l1 (by omega)
   | @tup a2 _ _ h2 r2=>
     cases rb
     obtain⟨its2,l2,_⟩:=bq I h2 r2
     exact(nL I IH (Nat.lt_succ_self _) (by unfold cO at hu;omega) h1 r1 h2 r2).2
   | @lst a2 _ _ h2 r2=>
     cases rb
     obtain⟨its2,l2,_⟩:=aA I (SqL.of h2) r2
     exact SeqAt.RcNeAt.tuple_list l1 l2 (by omega)
   | @scr a2 _ _ h2 r2=>
     cases rb
     obtain⟨its2,l2,_⟩:=aA I h2.seq r2
     exact SeqAt.RcNeAt.tuple_list l1 l2 (by omega)
 | @scr a1 _ _ h1 r1=>exact absurd hu (by unfold cO;omega)
 | @lst a1 _ _ h1 r1=>
   cases ra
   obtain⟨its,l1,_⟩:=aA I (SqL.of h1) r1
   cases py with
   |non=>
    cases rb
    exact SeqAt.RcNeAt.list_none l1 (by omega)
   |bl=>
    cases rb
    exact SeqAt.RcNeAt.list_bool _ l1 (by omega)
   |int=>
    obtain⟨t2,rfl⟩:=rb
    exact SeqAt.RcNeAt.list_int _ _ l1 (by omega)
   |str=>
    obtain⟨t2,rfl⟩:=rb
    exact SeqAt.RcNeAt.list_str _ _ l1 (by omega)
   | @tup a2 _ _ h2 r2=>
     cases rb
     obtain⟨its2,l2,_⟩:=bq I h2 r2
     exact SeqAt.RcNeAt.list_tuple l1 l2 (by omega)
   | @lst a2 _ _ h2 r2=>
     cases rb
     obtain⟨its2,l2,_⟩:=aA I (SqL.of h2) r2
     exact(fF I IH (Nat.lt_succ_self _) (by unfold cO at hu;omega) (SqL.of h1) r1 (SqL.of h2) r2).2
   | @scr a2 _ _ h2 r2=>
     cases rb
     obtain⟨its2,l2,_⟩:=aA I h2.seq r2
     exact(fF I IH (Nat.lt_succ_self _) (by unfold cO at hu;omega) (SqL.of h1) r1 h2.seq r2).2
end
theorem Rep1.full {K:W.Frag}{H:Hp}{hid:bv}{v:V}{d:D}(h:Rep1 K H (vw H hid) v d):Rep K H v d:=by
 rcases h with h|⟨a,xs,ds,rfl,rfl,h1,h2⟩
 ·exact h.mono (di _ _)
 ·exact .lst h1 (h2.mono (di _ _))
def v9(K:W.Frag):R2:=λv u H Q=> ∃x y,Rep K H v x/\Rep K H u y/\cO x<=32/\Q (.bl (df x y)) H
def wU(K:W.Frag):R2:=λv u H Q=> ∃x y,Rep K H v x/\Rep K H u y/\cO x<=32/\Q (.bl (!df x y)) H
theorem eT {X:Cx}(hu:X.A.units+64<cLine):fR X (compareOp .Eq) (v9 X.K):=by
 intro aa s σ H x y v u Q I rx ry h;obtain⟨dx,dy,p1,p2,hd,q⟩:=h
 exact vm I (by omega) (by omega) rx ry p1 p2 X.prog X.w _ _ ⟨.bl _,H,I,rfl,q⟩
theorem g9 {X:Cx}(hu:X.A.units+64<cLine):fR X (compareOp .NotEq) (wU X.K):=by
 intro aa s σ H x y v u Q I rx ry h;obtain⟨dx,dy,p1,p2,hd,q⟩:=h
 exact pQ I (by omega) (by omega) rx ry p1 p2 X.prog X.w _ _ ⟨.bl _,H,I,rfl,q⟩
def gG:D->D->Option D:=λx y=>if cO x<=32 then some (.bl (df x y)) else none
def iX:D->D->Option D:=λx y=>if cO x<=32 then some (.bl (!df x y)) else none
theorem gl {K:W.Frag}:im K .s (v9 K) gG:=by
 intro H hid v u x y d Q hf h r1 r2 q;unfold gG at h;split at h
 ·cases h;exact⟨x,y,r1.full,r2.full, ‹_›,q _ H (Same.refl _) .bl⟩
 ·cases h
theorem jY {K:W.Frag}:im K .s (wU K) iX:=by
 intro H hid v u x y d Q hf h r1 r2 q;unfold iX at h;split at h
 ·cases h;exact⟨x,y,r1.full,r2.full, ‹_›,q _ H (Same.refl _) .bl⟩
 ·cases h
def x6(T:String):D->Bool
 | .non=>T=="NoneType"
 | .bl _=>T=="bool"||T=="int"
 | .int _=>T=="int"
 | .str _=>T=="str"
 | .tup _=>T=="tuple"
 | .lst _=>T=="list"
 | .scr _=>T=="list"
structure KT(T:String):Prop where
 n: ∀K,W.kitOne K (.type "NoneType") (.type T)=some (T=="NoneType")
 b: ∀K,W.kitOne K (.type "bool") (.type T)=some (T=="bool"||T=="int")
 i: ∀K,W.kitOne K (.type "int") (.type T)=some (T=="int")
 s: ∀K,W.kitOne K (.type "str") (.type T)=some (T=="str")
 t: ∀K,W.kitOne K (.type "tuple") (.type T)=some (T=="tuple")
 l: ∀K,W.kitOne K (.type "list") (.type T)=some (T=="list")
theorem tE:KT "bool":=⟨λ_=>by kernel_rfl,λ_=>by kernel_rfl,λ_=>by kernel_rfl,λ_=>by kernel_rfl,λ_=>by kernel_rfl,λ_=>by kernel_rfl⟩
theorem lv:KT "tuple":=⟨λ_=>by kernel_rfl,λ_=>by kernel_rfl,λ_=>by kernel_rfl,λ_=>by kernel_rfl,λ_=>by kernel_rfl,λ_=>by kernel_rfl⟩
section
variable {X:Cx}{c:Ct}{e o:Expr}{k:Kd}{f g:FE}{pos p p2:Pos}
theorem qj {T:String}(kt:KT T):dC X (.builtin "isinstance") (λxs H Q=> ∃v d,xs=[v,.ty T]/\Rep X.K H v d/\Q (.bl (x6 T d)) H):=by
 intro aa s σ H xs us Q I r h;obtain⟨v,d,rfl,rp,q⟩:=h
 obtain⟨u,w',rfl,rx,ry⟩:=qx r
 cases ry
 have fin: ∀tk,EP X aa σ Q (.bool (x6 T d)) {s with toks:=tk}:=λtk=>⟨.bl _,H,I.tok _,rfl,q⟩
 cases rp with
 |non=>cases rx;exact W.kia_one W.kitx_none I.kIn True.intro (kt.n _) (λz=>nomatch z) fin
 |bl=>cases rx;exact W.kia_one W.kitx_bool I.kIn True.intro (kt.b _) (λz=>nomatch z) fin
 |int=>obtain⟨t,rfl⟩:=rx;exact W.kia_one W.kitx_int I.kIn True.intro (kt.i _) (λz=>nomatch z) fin
 |str=>obtain⟨t,rfl⟩:=rx;exact W.kia_one W.kitx_str I.kIn True.intro (kt.s _) (λz=>nomatch z) fin
 |tup h1 h2=>
  cases rx
  obtain⟨⟨ob,ho,hc⟩,_⟩:=I.tupleN h1
  exact W.kia_one W.kitx_tuple I.kIn ⟨ob,ho,hc⟩ (kt.t _) (λz=>nomatch z) fin
 |lst h1 h2=>
  cases rx
  obtain⟨its,_,⟨ob,n,ho,hc,_⟩,_⟩:=I.list (SqL.of h1)
  exact W.kia_one W.kitx_list I.kIn ⟨ob,ho,hc⟩ (kt.l _) (λz=>nomatch z) fin
 |scr h1 h2=>
  cases rx
  obtain⟨its,_,⟨ob,n,ho,hc,_⟩,_⟩:=I.list h1.seq
  exact W.kia_one W.kitx_list I.kIn ⟨ob,ho,hc⟩ (kt.l _) (λz=>nomatch z) fin
def gv(T:String)(f:FE):FE:=λρ=>(f ρ).map λd=>.bl (x6 T d)
theorem nH(T:String){y:Str}(kt:KT T)(he:DP X c k e f)(hm:X.mg "isinstance"=none)(hmT:X.mg y=none)(hg:Gl X "isinstance":=by rfl)(hgT:Gl X y:=by rfl)(hv:bootBuiltins "isinstance"=some (.builtin "isinstance"):=by kernel_rfl)(hvT:bootBuiltins y=some (.type T):=by kernel_rfl)(hn:y≠"__name__":=by decide)(hd:(y==("__debug__":Str))=false:=by decide)
 (hs1:starEach [e,.Name y p2] X.env=(false,eval e X.env)::starEach [.Name y p2] X.env:=by rfl) (hs2:starEach [.Name y p2] X.env=(false,eval (.Name y p2) X.env)::starEach [] X.env:=by rfl) (hpl:(backTo pos (starEach [.Name y p2] X.env)).any (·.1)=false:=by rfl):
 DP X c .s (.Call (.Name "isinstance" p) [e,.Name y p2] [] pos) (gv T f):=λhid ρ=>
 PE.imp (mn (qj kt) hg hm hv (cC (he hid ρ) (cC (tU (v:=.ty T) hgT hmT hvT rfl hn hd) fQ hs2) hs1) (by decide) (by decide) hs1 hpl) λσ H Q hq_=>by
  obtain⟨sr,d,hd,q⟩:=hq_
  unfold gv at hd;cases e1:f ρ with
  |none=>rw[e1] at hd;cases hd
  |some z=>
   rw[e1] at hd;cases hd;exact⟨sr,z,e1,λv H' s' r=>⟨v,z,rfl,(RK.b k r λa n=>sr.fresh n).full,q _ H' s' .bl⟩⟩
def eK:List D->Option (List Bool)
 | []=>some []
 | .bl b::r=>(eK r).map (b:: ·)
 |_=>none
theorem lM: ∀ {ds:List D} {bs:List Bool} {i:Nat} {d:D},eK ds=some bs->ds[i]? =some d-> ∃b,d=.bl b/\bs[i]? =some b
 | [],_,_,_,_,h=>by simp at h
 |x::r,bs,i,d,h,e=>by
  cases x with
  |bl b=>
   unfold eK at h;cases e1:eK r with
   |none=>rw[e1] at h;cases h
   |some rs=>
    rw[e1] at h;cases h;cases i with
    |zero=>simp at e;subst e;exact⟨b,rfl,rfl⟩
    |succ i=>
     obtain⟨b',h1,h2⟩:=lM (i:=i) e1 (by simpa using e)
     exact⟨b',h1,by simpa using h2⟩
  |_=>cases h
theorem ly: ∀ {ds:List D} {bs:List Bool},eK ds=some bs->ds.length=bs.length
 | [],_,h=>by cases h;rfl
 |x::r,bs,h=>by
  cases x with
  |bl b=>
   unfold eK at h;cases e1:eK r with
   |none=>rw[e1] at h;cases h
   |some rs=>rw[e1] at h;cases h;simp[ly e1]
  |_=>cases h
theorem pG(bs:List Bool):(List.range bs.length).any (λi=>bs.getD i false)=bs.any id:=by
 induction bs with
 |nil=>rfl
 |cons b bs ih=>
  rw[List.length_cons,List.range_succ_eq_map,List.any_cons,List.any_map,List.any_cons];rw[show((λi=>(b::bs).getD i false)∘Nat.succ)=λi=>bs.getD i false by funext i;simp[List.getD],ih]
  rfl
theorem nn(bs:List Bool):(List.range bs.length).all (λi=>bs.getD i false)=bs.all id:=by
 induction bs with
 |nil=>rfl
 |cons b bs ih=>
  rw[List.length_cons,List.range_succ_eq_map,List.all_cons,List.all_map,List.all_cons];rw[show((λi=>(b::bs).getD i false)∘Nat.succ)=λi=>bs.getD i false by funext i;simp[List.getD],ih]
  rfl
theorem iJ {aa:List (Addr×Obj)}{σ:St}{H:Hp}{s:Shared}{a:Addr}{xs:List V}{ds:List D}{bs:List Bool}(I:Inv X aa σ H s)(h1:SqL X.K H a xs)(h2:Reps X.K H xs ds)(hb:eK ds=some bs)(hc:X.calm=true){E:Value->Shared->Prop}{R:Value->Shared->Prop}
 (hR: ∀(J:Addr) (s2:Shared) (its:Array Value) (hl:its.size=bs.length),Walks X.prog X.w X.A.in1 J [J,a] [J] its.size (λi v=>its[i]? =some v) (λi h=>h.IsListIter J a i/\h.IsList a its)->s2.heap.IsListIter J a 0->s2.heap.IsList a its->TruthOf X.prog X.w X.A.in1 (λi v=>its[i]? =some v) (λi=>bs.getD i false)->
   (∀h' tk,(∀b o,b∉ [J]->s2.heap.get? b=some o->h'.get? b=some o)->Inv X aa σ H {s2 with heap:=h',toks:=tk})->R (.ref J) s2):wpAny (model X.prog X.w) X.A.in1 (pyIter (.ref a)) R E s:=by
 obtain⟨its,rv,pl,hz⟩:=I.list h1
 have l1:=rv.length
 have l2:=h2.length
 have l3:=ly hb
 have hlt:a<s.heap.objs.size:=by obtain⟨o,n,e,_⟩:=pl;exact Heap.lt_size e
 refine wpAny_pyIter_list pl.isList (hR s.heap.objs.size _ its.toArray (by simp;omega) (Walks.list (A:=X.A.in1) (I.ok.hd hc) _ a (Nat.ne_of_lt hlt) its.toArray) ⟨_,Heap.get?_push_size _ rfl,rfl,rfl⟩ ?_ ?_ ?_)
 ·obtain⟨o,ho,q⟩:=pl.isList
  exact⟨o,Heap.get?_push_of_some _ ho,q⟩
 ·intro i v s' Q E hv hq
  have hv':its[i]? =some v:=by simpa using hv
  have hi:=(List.getElem?_eq_some_iff.mp hv').1
  have ex:xs[i]? =some xs[i]:=List.getElem?_eq_getElem (by omega)
  obtain⟨u,e1,r1⟩:=rv.get ex
  rw[hv'] at e1;cases e1;obtain⟨d,e2,r2⟩:=h2.get' ex
  obtain⟨b,rfl,e3⟩:=lM hb e2
  rcases hx:xs[i] with _|_|_|_|_|_|_|_<;>rw[hx] at r1 r2<;>cases r2
  cases r1
  have:bs.getD i false=b:=by simp[List.getD,e3]
  dsimp only at hq;rw[this] at hq;exact wpAny_truthy_bool hq
 ·intro h' tk hk
  refine I.kept λb o e=>hk b o (λhm=>?_) (Heap.get?_push_of_some _ e)
  have:b=s.heap.objs.size:=by simpa using hm
  exact absurd (this▸Heap.lt_size e) (Nat.lt_irrefl _)
theorem pU(hc:X.calm=true):dC X (.builtin "any") (λxs H Q=> ∃a ys ds bs,xs=[.ref a]/\SqL X.K H a ys/\Reps X.K H ys ds/\eK ds=some bs/\Q (.bl (bs.any id)) H):=by
 intro aa s σ H xs us Q I r h;obtain⟨a,ys,ds,bs,rfl,h1,h2,h3,q⟩:=h
 obtain⟨u,rfl,rx⟩:=gF r
 cases rx
 refine call_any_walk (iJ I h1 h2 h3 hc λJ s2 its hl W st1 st2 tr kp=>?_)
 refine⟨J,_,_,_,_,_,_,rfl,W,⟨st1,st2⟩,tr,λh' tk hk=>⟨.bl _,H,kp h' tk hk,rfl,?_⟩⟩
 rw[hl,pG];exact q
theorem p4(hc:X.calm=true):dC X (.builtin "all") (λxs H Q=> ∃a ys ds bs,xs=[.ref a]/\SqL X.K H a ys/\Reps X.K H ys ds/\eK ds=some bs/\Q (.bl (bs.all id)) H):=by
 intro aa s σ H xs us Q I r h;obtain⟨a,ys,ds,bs,rfl,h1,h2,h3,q⟩:=h
 obtain⟨u,rfl,rx⟩:=gF r
 cases rx
 refine call_all_walk (iJ I h1 h2 h3 hc λJ s2 its hl W st1 st2 tr kp=>?_)
 refine⟨J,_,_,_,_,_,_,rfl,W,⟨st1,st2⟩,tr,λh' tk hk=>⟨.bl _,H,kp h' tk hk,rfl,?_⟩⟩
 rw[hl,nn];exact q
def o5:List D->Option D
 | [.lst ds]=>(eK ds).map λbs=>.bl (bs.any id)
 |_=>none
def r8:List D->Option D
 | [.lst ds]=>(eK ds).map λbs=>.bl (bs.all id)
 |_=>none
theorem u3:fy X.K .s (λxs H Q=> ∃a ys ds bs,xs=[.ref a]/\SqL X.K H a ys/\Reps X.K H ys ds/\eK ds=some bs/\Q (.bl (bs.any id)) H) o5:=by
 intro H hid vs ds d Q hf h r q;unfold o5 at h;split at h
 ·rename_i zs
  cases e1:eK zs with
  |none=>rw[e1] at h;cases h
  |some bs=>
   rw[e1] at h;cases h;obtain⟨x,rfl,r1⟩:=Reps1.one r
   obtain⟨a,xs,rfl,h1,h2⟩:=r1.lst
   exact⟨a,xs,zs,bs,rfl,h1,h2.mono (di _ _),e1,q _ H (Same.refl _) .bl⟩
 ·cases h
theorem vg:fy X.K .s (λxs H Q=> ∃a ys ds bs,xs=[.ref a]/\SqL X.K H a ys/\Reps X.K H ys ds/\eK ds=some bs/\Q (.bl (bs.all id)) H) r8:=by
 intro H hid vs ds d Q hf h r q;unfold r8 at h;split at h
 ·rename_i zs
  cases e1:eK zs with
  |none=>rw[e1] at h;cases h
  |some bs=>
   rw[e1] at h;cases h;obtain⟨x,rfl,r1⟩:=Reps1.one r
   obtain⟨a,xs,rfl,h1,h2⟩:=r1.lst
   exact⟨a,xs,zs,bs,rfl,h1,h2.mono (di _ _),e1,q _ H (Same.refl _) .bl⟩
 ·cases h
end
end L2
namespace PySem.SeqAt
open AutoSeq1 (wpAny_loadPart')
open MeetsSeq MeetsSeq2 MeetsSeq3 SeqRoads2
end PySem.SeqAt
namespace L2
open PySem PySem.Spec PyProof.Rows
section
variable {X:Cx}{c:Ct}{e o:Expr}{k k2:Kd}{f g:FE}{pos p p2 apos:Pos}
theorem pc:dC X (.type "range") (λxs H Q=> ∃j:Int,xs=[.int j]/\ ∀p,H p=none->Q (.ref p) (aV H p (.rng 0 j))):=by
 intro aa s σ H xs us Q I r h;obtain⟨j,rfl,q⟩:=h
 obtain⟨u,rfl,t,rfl⟩:=gF r
 refine call_range_1 ⟨.ref s.heap.objs.size,_,I.laid (λb o e=>Heap.get?_push_of_some _ e) (Nat.le_refl _) ?_,rfl,q _ (I.hok.fresh (Nat.le_refl _))⟩
 exact⟨_,_,_,Heap.get?_push_size _ rfl⟩
theorem wr(lo:Int)(n:Nat): ∀ {K:W.Frag} {F:Hp},Reps K F ((List.range n).map λ(i:Nat)=>V.int (lo+i)) (pk lo n):=by
 intro K F;unfold pk
 generalize List.range n=l
 induction l with
 |nil=>exact .nil
 |cons a l ih=>exact .cons .int ih
theorem jm(hc:X.calm=true):dC X (.type "list") (λxs H Q=> ∃p lo hi,xs=[.ref p]/\H p=some (.rng lo hi)/\ -(2^30)<=lo/\lo<=2^30/\ -(2^30)<=hi/\hi-lo<=1000000/\hi<=2^31/\ ∀l,H l=none->Q (.ref l) (aV H l (.lst ((List.range (hi-lo).toNat).map λ(i:Nat)=>V.int (lo+i))))):=by
 intro aa s σ H xs us Q I r h;obtain⟨p,lo,hi,rfl,hp,b1,b2,b3,b4,b5,q⟩:=h
 obtain⟨u,rfl,rx⟩:=gF r
 cases rx
 obtain⟨t,u,v,hr⟩:=I.hok p _ hp
 have hsz:Builtin.Range.rangeSize lo hi 1=(hi-lo).toNat:=by
  unfold Builtin.Range.rangeSize;rw[if_pos (by decide)]
  split
  ·rw[Int.ediv_one];omega
  ·omega
 refine call_list_range (a:=lo) (b:=hi) (c:=1) (n:=(hi-lo).toNat) (I.ok.hd hc) hr ?_ hsz (by omega) λh' tk acc' c' kp hS hacc=>?_
 ·exact small_one (by omega) (by omega) (by omega) (by omega)
 ·have hz:(hi-lo).toNat<=sizeLine:=by rw[sizeLine_eq];omega
  refine⟨.ref s.heap.objs.size,_,I.laid (t':=tk) kp (Nat.le_refl _) (show ObjOk X.prog X.w _ h' _ (.lst _) from⟨by simpa using hz,acc'.toList,c',?_,by simpa using hS⟩),rfl,q _ (I.hok.fresh (Nat.le_refl _))⟩
  obtain⟨ha,hb⟩:=hacc
  have key: ∀(l:List Value) (k m:Nat),l.length=m->(∀(j:Nat) v,l[j]? =some v-> ∃t,v=.int (lo+((k+j:Nat):Int)*1) t)->Vals ((List.range' k m).map λ(i:Nat)=>V.int (lo+i)) l:=by
   intro l
   induction l with
   |nil=>intro k m hm _;subst hm;exact .nil
   |cons x l ih=>
    intro k m hm hv;subst hm;rw[List.length_cons,List.range'_succ];refine .cons ?_ (ih (k+1) l.length rfl λj v e=>?_)
    ·obtain⟨t,rfl⟩:=hv 0 x rfl
     exact⟨t,by simp⟩
    ·obtain⟨t,rfl⟩:=hv (j+1) v (by simpa using e)
     exact⟨t,by congr 3;omega⟩
  have:=key acc'.toList 0 (hi-lo).toNat (by simpa using ha) λj v e=>by
   have:=hb j v (by simpa using e)
   simpa using this
  rw[List.range_eq_range'];exact this
def tP:D->Option D
 | .int j=>if j.natAbs<=1000000 then some (.lst (pk 0 j.toNat)) else none
 |_=>none
def sg(f:FE):FE:=λρ=>(f ρ).bind tP
theorem fN(hc:X.calm=true)(hml:X.mg "list"=none)(hmr:X.mg "range"=none)(he:DP X c k e f)(hgl:Gl X "list":=by rfl)(hgr:Gl X "range":=by rfl)(hvl:bootBuiltins "list"=some (.type "list"):=by kernel_rfl)(hvr:bootBuiltins "range"=some (.type "range"):=by kernel_rfl)
 (hs1:starEach [e] X.env=(false,eval e X.env)::starEach [] X.env:=by rfl) (hpl1:(backTo pos (starEach [] X.env)).any (·.1)=false:=by rfl) (hpl2:(backTo p2 (starEach [] X.env)).any (·.1)=false:=by rfl) {p3:Pos}
 (hs2:starEach [.Call (.Name "range" p3) [e] [] p2] X.env=(false,eval (.Call (.Name "range" p3) [e] [] p2) X.env)::starEach [] X.env:=by rfl):
 DP X c .n (.Call (.Name "list" p) [.Call (.Name "range" p3) [e] [] p2] [] pos) (sg f):=λhid ρ=>
 PE.imp (gU (jm hc) hgl hml hvl (cC (gU pc hgr hmr hvr (cC (he hid ρ) fQ hs1) (by decide) (by decide) hs1 hpl2) fQ hs2) (by decide) (by decide) hs2 hpl1) λσ H Q hq_=>by
  obtain⟨sr,d,hd,q⟩:=hq_
  unfold sg at hd;cases e1:f ρ with
  |none=>rw[e1] at hd;cases hd
  |some z=>
   rw[e1] at hd;have hd:tP z=some d:=hd
   unfold tP at hd;split at hd
   ·split at hd
    ·rename_i _ j _ _
     cases hd
     refine⟨sr,_,e1,λv H1 s1 r1=>?_⟩
     have b1:=(RK.b k r1 λa n=>sr.fresh n).int
     cases b1
     refine⟨j,rfl,λr hr=>?_⟩
     refine⟨r,0,j,rfl,ay,by omega,by omega,by omega,by omega,by omega,λl hl=>?_⟩
     have s2:Same H (aV H1 r (.rng 0 j)):=s1.trans (bM hr _)
     refine q _ _ (s2.trans (bM hl _)) ?_
     have:=qo (hid:=hid) (K:=X.K) hl s2 (wr 0 (j-0).toNat)
     rw[show(j-0).toNat=j.toNat by omega] at this⊢
     exact this
    ·cases hd
   ·cases hd
def aG:=i2 (λ_ _=>true) λi j=>.int (i+j)
def dX:=i2 (λ_ _=>true) λi j=>.int (i-j)
def bW:=i2 (λi j=>decide (i.natAbs<2^1000)&&decide (j.natAbs<2^1000)) λi j=>.int (i*j)
def bj:=i2 (λ_ j=>decide (0<j)) λi j=>.int (i % j)
def dh:=i2 (λ_ j=>decide (0<j)&&decide (j.natAbs<2^1000)) λi j=>.int (i / j)
def cF:=i2 (λi j=>decide (0<=j)&&decide (j<=1000000)&&decide (i.natAbs<2^64)) λi j=>.int (i^j.toNat)
def ub:=i2 (λ_ _=>true) λi j=>.bl (decide (i<j))
def ml:=i2 (λ_ _=>true) λi j=>.bl (decide (i<=j))
def nu:=i2 (λ_ _=>true) λi j=>.bl (decide (j<i))
def vC:=i2 (λ_ _=>true) λi j=>.bl (decide (j<=i))
theorem ol {i:Int}(h:i.natAbs<2^1000):Builtin.Int.intBits i<=2^20:=by
 unfold Builtin.Int.intBits;split
 ·exact Nat.zero_le _
 ·rename_i hz
  have h0:i.natAbs≠0:=by simp at hz;omega
  have:=(Nat.log2_lt h0).mpr h
  omega
theorem tq:fR X (binaryOp .Mult) (rI IntMulOk λi j=>.int (i*j)):=xc λ_ _ _ _ _ _ _ hc q=>mul_int q hc
variable {a b:Expr}
theorem bC {k1 k2:Kd}(ha:DP X c k1 a f)(hb:DP X c k2 b g):DP X c .s (.BinOp a .Add b pos) (ak aG f g):=jR pN rJ ha hb
theorem gd {k1 k2:Kd}(ha:DP X c k1 a f)(hb:DP X c k2 b g):DP X c .s (.BinOp a .Sub b pos) (ak dX f g):=jR uG rJ ha hb
theorem vo {K:W.Frag}:im K .s (rI IntMulOk λi j=>.int (i*j)) bW:=sW λi j h=>by
 simp only[Bool.and_eq_true,decide_eq_true_eq] at h;exact IntMulOk.of_bits (ol h.1) (ol h.2)
theorem ft {k1 k2:Kd}(ha:DP X c k1 a f)(hb:DP X c k2 b g):DP X c .s (.BinOp a .Mult b pos) (ak bW f g):=jR tq vo ha hb
theorem uX {K:W.Frag}:im K .s (rI (λ_ j=>0<j) λi j=>.int (i % j)) bj:=sW λi j h=>by simpa using h
theorem dg {k1 k2:Kd}(ha:DP X c k1 a f)(hb:DP X c k2 b g):DP X c .s (.BinOp a .Mod b pos) (ak bj f g):=jR uP uX ha hb
theorem qF:fR X (binaryOp .FloorDiv) (rI (λ_ j=>0<j/\j.natAbs<2^1000) λi j=>.int (i / j)):=xc λi j _ _ _ _ _ hc q=>by
 obtain⟨h1,h2⟩:=hc
 refine floordiv_int (by omega) (by rw[Int.fdiv_eq_ediv_of_nonneg i (by omega)];exact q) (.inl (PyProof.noPylong_of_log2 ?_))
 have:=(Nat.log2_lt (n:=j.natAbs) (by omega)).mpr h2
 omega
theorem sq {K:W.Frag}:im K .s (rI (λ_ j=>0<j/\j.natAbs<2^1000) λi j=>.int (i / j)) dh:=sW λi j h=>by
 simp only[Bool.and_eq_true,decide_eq_true_eq] at h;exact⟨h.1,h.2⟩
theorem il {k1 k2:Kd}(ha:DP X c k1 a f)(hb:DP X c k2 b g):DP X c .s (.BinOp a .FloorDiv b pos) (ak dh f g):=jR qF sq ha hb
theorem uE {K:W.Frag}:im K .s (rI wR λi j=>.int (i^j.toNat)) cF:=sW λi j h=>by
 simp only[Bool.and_eq_true,decide_eq_true_eq] at h;exact⟨h.1.1,h.1.2,h.2⟩
theorem gK {k1 k2:Kd}(ha:DP X c k1 a f)(hb:DP X c k2 b g):DP X c .s (.BinOp a .Pow b pos) (ak cF f g):=jR u9 uE ha hb
theorem qm {f g:GE}(ha:DE X c .s a f)(hb:DE X c .s b g):DE X c .s (.BinOp a .Add b pos) (iG aG f g):=v5 pN rJ ha hb
def jl:List D->Option D
 | [.int i]=>some (.int i)
 | [.bl b]=>some (.int (if b then 1 else 0))
 |_=>none
theorem pR:fy X.K .s (λxs H Q=>(∃i,xs=[.int i]/\Q (.int i) H)\/ ∃k,xs=[.bl k]/\Q (.int (if k then 1 else 0)) H) jl:=by
 intro H hid vs ds d Q hf h r q;unfold jl at h;split at h
 ·cases h
  obtain⟨x,rfl,r1⟩:=Reps1.one r
  cases r1.int
  exact .inl ⟨_,rfl,q _ H (Same.refl _) .int⟩
 ·cases h
  obtain⟨x,rfl,r1⟩:=Reps1.one r
  cases r1.bl
  exact .inr ⟨_,rfl,q _ H (Same.refl _) .int⟩
 ·cases h
end
structure Cl(P:Program)(w:World)(K:W.Frag)(mg:Str->Option Value)(base:Heap)(k:Nat)(x:Str)(ps:List Str)(sp:Sp):Prop where
 ex: ∃f fd,FnOk P w K mg base lg k f fd ps sp/\mg x=some (.ref f)/\W.keepIn K (.ref f)=true/\Binds K fd ps []
structure Df(K:W.Frag)(mg:Str->Option Value)(x:Str)(st:Stmt)(ps:List Str):Prop where
 ex: ∃f fd,Fun K x x st f fd/\mg x=some (.ref f)/\Binds K fd ps []
section
variable {P:Program}{w:World}{K:W.Frag}{mg:Str->Option Value}{base:Heap}{x:Str}{st:Stmt}{N ps:List Str}{k n:Nat}{t:FS}{kd:Kd}
theorem cX(F:Df K mg x st ps)(S:FnScope N ps (am st))(hkd:kd≠ .b)(hn:ps.length=n)
 (body: ∀(f:Addr) (cdv:Value) (A:Around) (outer:List Env) (s:Shared) (H:Hp) (hid:bv) (E:XK),Room k (A.deeper (envOfC x (am st) s.heap.objs.size f cdv))->
   oJ (hV lg P w K mg base N x (am st) f cdv A outer s H E).nox ⟨H,hid,λ_=>false⟩ kd (aJ st) t):
 Cl P w K mg base (k+1) x ps (gB K kd n (gu kd N.length t)):=by
 obtain⟨f,fd,F,hm,hb⟩:=F.ex
 subst hn;exact⟨f,fd,oB F S hkd (body f),hm,F.kp,hb⟩
theorem nB(F:Df K mg x st ps)(S:FnScope N ps (am st))(hkd:kd≠ .b)(hn:ps.length=n+1)
 (body: ∀(f:Addr) (cdv:Value) (A:Around) (outer:List Env) (s:Shared) (H:Hp) (hid:bv) (a:Addr) (E:XK),Room k (A.deeper (envOfC x (am st) s.heap.objs.size f cdv))->
   oJ (hV lg P w K mg base N x (am st) f cdv A outer s H E).nox ⟨H,hid,λb=>decide (b=a)⟩ kd (aJ st) t):
 Cl P w K mg base (k+1) x ps (oN K kd n (pA kd N.length t)):=by
 obtain⟨f,fd,F,hm,hb⟩:=F.ex
 exact⟨f,fd,vM F S hkd hn (body f),hm,F.kp,hb⟩
end
section
variable {X:Cx}{c:Ct}{e a b:Expr}{es rest:List Expr}{k:Kd}{pos p:Pos}{x:Str}{ps:List Str}{j n:Nat}
def nF(n:Nat)(P:List D->Option D):List D->Option D:=λds=>if ds.length=n then P ds else none
theorem en {P:List D->Option D}{fs:FA}(C:Cl X.prog X.w X.K X.mg X.base j x ps (gB X.K k n P))(hr:Room j X.A)
 (ha:DA X c (e::es) fs) (hg:Gl X x:=by rfl) (hdb:(x==("__debug__":Str))=false:=by decide) (he:starEach (e::es) X.env=(false,eval e X.env)::starEach es X.env:=by rfl) (hpl:(backTo pos (starEach es X.env)).any (·.1)=false:=by rfl):
 DP X c k (.Call (.Name x p) (e::es) [] pos) (aj (nF n P) fs):=by
 obtain⟨f,fd,F,hm,hk,hb⟩:=C.ex
 exact tz F hr hm hk hb ha hg hdb he hpl
theorem iI(i:Nat){y:Str}{py:Pos}{M:List D->List D->Option (D×List D)}{fs:GA}(C:Cl X.prog X.w X.K X.mg X.base j x ps (oN X.K k n M))(hr:Room j X.A)
 (ha:DG X c es fs) (hkb:k≠ .b:=by decide) (hN:X.N[i]? =some y:=by rfl) (hv:oW X.env.scope y:=by first|exact Or.inl rfl|exact Or.inr (Or.inl rfl)|exact Or.inr (Or.inr rfl)) (hd:(y==("__debug__":Str))=false:=by decide)
 (hcd:(y==("__classdict__":Str))=false:=by decide) (hs:starEach (.Name y py::es) X.env=(false,eval (.Name y py) X.env)::starEach es X.env:=by rfl) (hg:Gl X x:=by rfl) (hdb:(x==("__debug__":Str))=false:=by decide) (hpl:(backTo pos (starEach es X.env)).any (·.1)=false:=by rfl):
 DE X c k (.Call (.Name x p) (.Name y py::es) [] pos) (aK i n M fs):=by
 obtain⟨f,fd,F,hm,hk,hb⟩:=C.ex
 exact qt i F hr hm hk hb ha hkb hN hv hd hcd hs hg hdb hpl
end
open PySem PySem.W PyProof.Rows
open PySem PySem.W PySem.Calls PyProof.Rows
open PySem PySem.W PySem.Spec PyProof.Rows
def xL(k:List Int):D:=.tup (k.map D.int)
end L2
namespace PySem
open Sem (wp)
open AutoSeq1 (wpAny_loadPart')
section
variable {prog:Program}{w:World}{A:Around}{E:Value->Shared->Prop}{s:Shared}
theorem iR {it t:Addr}{i:Nat}{us}{x:Value}{Q:Value->Shared->Prop}(hit:s.heap.IsTupleIter it t i)(ht:s.heap.IsTuple t us)(hx:us[i]? =some x)
 (hQ: ∀g,g.IsTupleIter it t (i+1)->Heap.SameBut it s.heap g->Q x {s with heap:=g}):wpAny (model prog w) A (Builtin.SmallTypes.nextOf (.ref it)) Q E s:=by
 obtain⟨o,ho,hc,hd⟩:=id hit
 obtain⟨ot,hot,_,nt,hdt⟩:=ht
 unfold Builtin.SmallTypes.nextOf;refine wpAny_bind (wpAny_callSpecial?_slot (name:=Str.ofString "__next__") hit.typeIs F.slot_tuple_iterator_next (wpAny_call_entry F.slot_tuple_iterator_next hit.typeIs F.entry_tuple_iterator_next (show wpAny _ _ (field (.ref it) 0>>=_) _ _ s from wpAny_bind (wpAny_field ho hd (x:=.ref t) rfl ?_)) (F.args_tuple_iterator_next_1 _)))
 show wpAny _ _ (if(Value.ref t==Value.none)=true then _ else _) _ _ s
 rw[if_neg (show¬((Value.ref t==Value.none)=true) from Bool.false_ne_true)];refine(show wpAny _ _ (field (.ref it) 1>>=_) _ _ s from wpAny_bind (wpAny_field ho hd (x:=.int i 0) rfl (show wpAny _ _ (seqItems? (.ref t)>>=_) _ _ s from wpAny_bind (wpAny_seqItems hot hdt ?_))))
 simp only[Int.toNat_natCast,hx];exact wpAny_bind (wpAny_setField ho hd (by simp) (wpAny_pure ⟨x,rfl,wpAny_pure (hQ _ ⟨_,Heap.get?_update_self _ ho (Obj.isFreed_of_fields (Obj.data_mapFields hd _)),(Obj.cls_mapFields ..).trans hc,by rw[Obj.data_mapFields hd];simp[rawInt]⟩ (Heap.SameBut.update ..))⟩))
theorem jq {it t:Addr}{i:Nat}{us}{Q:Value->Shared->Prop}(hh:A.handled=none)(hit:s.heap.IsTupleIter it t i)(ht:s.heap.IsTuple t us)(hx:us[i]? =none)
 (hE: ∀g e,Heap.ExtBut it s.heap g->(∃o,g.get? e=some o/\o.cls=.type "StopIteration")->E (.ref e) {s with heap:=g}):wpAny (model prog w) A (Builtin.SmallTypes.nextOf (.ref it)) Q E s:=by
 obtain⟨o,ho,hc,hd⟩:=id hit
 obtain⟨ot,hot,_,nt,hdt⟩:=ht
 unfold Builtin.SmallTypes.nextOf;refine wpAny_bind (wpAny_callSpecial?_slot (name:=Str.ofString "__next__") hit.typeIs F.slot_tuple_iterator_next (wpAny_call_entry F.slot_tuple_iterator_next hit.typeIs F.entry_tuple_iterator_next (show wpAny _ _ (field (.ref it) 0>>=_) _ _ s from wpAny_bind (wpAny_field ho hd (x:=.ref t) rfl ?_)) (F.args_tuple_iterator_next_1 _)))
 show wpAny _ _ (if(Value.ref t==Value.none)=true then _ else _) _ _ s
 rw[if_neg (show¬((Value.ref t==Value.none)=true) from Bool.false_ne_true)];refine(show wpAny _ _ (field (.ref it) 1>>=_) _ _ s from wpAny_bind (wpAny_field ho hd (x:=.int i 0) rfl (show wpAny _ _ (seqItems? (.ref t)>>=_) _ _ s from wpAny_bind (wpAny_seqItems hot hdt ?_))))
 simp only[Int.toNat_natCast,hx];refine wpAny_bind (wpAny_rule (wpAny_bind (wpAny_setField ho hd (by simp) (show wpAny _ _ (newExc (.type "StopIteration") []>>=_) _ _ _ from wpAny_bind ?_))))
 simp only[newExc,newTuple];refine wpAny_bind (wpAny_newObj_type ?_ (by size_fits))
 refine wpAny_bind (m:=firstArgMember _ _) (wpAny_of_eq (a:=Value.none) (by first|rfl|(simp only[firstArgMember];rfl)) (wpAny_newObj_type ?_ (by size_fits)))
 simp only[raiseNew];refine wpAny_bind (wpAny_handled ?_)
 first|rw[show A.in1.handled=none from hh]|rw[hh]
 exact wpAny_bind (wpAny_pure (wpAny_throw (hE _ _ (((Heap.SameBut.update ..).extBut.push _).push _) ⟨_,Heap.get?_push_size _ rfl,rfl⟩)))
theorem kG {e it:Addr}{i:Nat}{x old:Value}{N:Heap->Prop}{Q:Option Value->Shared->Prop}(he:IsEnum s.heap e it i old)(hne:e≠it)(hNk: ∀g g',N g->(∀o,g.get? it=some o->g'.get? it=some o)->N g')
 (nx: ∀(A':Around) (Q':Value->Shared->Prop) (E':Value->Shared->Prop),(∀g,N g->Heap.SameBut it s.heap g->Q' x {s with heap:=g})->wpAny (model prog w) A' (Builtin.SmallTypes.nextOf (.ref it)) Q' E' s)
 (hQ: ∀g,IsEnumOut g e it ((i:Int)+1) x s.heap.objs.size->N g->g.get? s.heap.objs.size=some {cls:=.type "tuple",data:=.seq #[.int i s.toks,x]}->g.objs.size=s.heap.objs.size+1->
   (∀b o,b≠e->b≠it->s.heap.get? b=some o->g.get? b=some o)->Q (some (.ref s.heap.objs.size)) {s with heap:=g,toks:=s.toks+1}):wpAny (model prog w) A (pyNext (.ref e)) Q E s:=by
 have hT:s.TypeIs (.ref e) "enumerate":=⟨_,he,rfl⟩
 unfold pyNext;refine wpAny_bind (wpAny_attempt (wpAny_callSpecial?_slot (name:=Str.ofString "__next__") hT F.slot_enumerate_next (wpAny_call_entry F.slot_enumerate_next hT F.entry_enumerate_next ?_ (F.args_enumerate_next_1 _))))
 obtain⟨hp,gn,dr,tk,os⟩:=s
 refine(show wpAny _ _ (field (.ref e) 2>>=_) _ _ _ from wpAny_bind (wpAny_field he rfl (x:=.ref it) rfl (wpAny_bind (nx _ _ _ λg₁ n₁ b₁=>?_))))
 replace b₁:Heap.SameBut it hp g₁:=b₁
 have e₁:IsEnum g₁ e it i old:=(b₁.2 e hne).trans he
 refine(show wpAny _ _ (field (.ref e) 3>>=_) _ _ ⟨g₁,gn,dr,tk,os⟩ from wpAny_bind (wpAny_field e₁ rfl (x:=rawInt i) rfl ?_))
 refine(show wpAny _ _ (field (.ref e) 4>>=_) _ _ ⟨g₁,gn,dr,tk,os⟩ from wpAny_bind (wpAny_field e₁ rfl (x:=.none) rfl ?_))
 refine(show wpAny _ _ (mkInt i>>=_) _ _ ⟨g₁,gn,dr,tk,os⟩ from wpAny_bind (wpAny_mkInt ?_))
 refine(show wpAny _ _ (setField (.ref e) 3 (rawInt ((i:Int)+1))>>=_) _ _ ⟨g₁,gn,dr,tk+1,os⟩ from wpAny_bind (wpAny_setField_rec e₁ (by simp) λg₂ e₂ b₂=>?_))
 replace b₂:Heap.SameBut e g₁ g₂:=b₂
 replace e₂:IsEnum g₂ e it ((i:Int)+1) old:=e₂
 refine(show wpAny _ _ (setField (.ref e) 4 .none>>=_) _ _ ⟨g₂,gn,dr,tk+1,os⟩ from wpAny_bind (wpAny_setField_rec e₂ (by simp) λg₃ e₃ b₃=>?_))
 replace b₃:Heap.SameBut e g₂ g₃:=b₃
 replace e₃:IsEnum g₃ e it ((i:Int)+1) old:=e₃
 refine(show wpAny _ _ (newTuple [.int i tk,x]>>=_) _ _ ⟨g₃,gn,dr,tk+1,os⟩ from wpAny_bind (wpAny_newTuple ?_))
 have z₃:g₃.objs.size=hp.objs.size:=by rw[b₃.1,b₂.1,b₁.1]
 have le:e<hp.objs.size:=Heap.lt_size he
 have e₄:IsEnum (g₃.push {cls:=.type "tuple",data:=.seq #[.int i tk,x]}) e it ((i:Int)+1) old:=Heap.get?_push_of_some _ e₃
 have n₄:N (g₃.push {cls:=.type "tuple",data:=.seq #[.int i tk,x]}):=hNk _ _ n₁ λo ho=>Heap.get?_push_of_some _ (b₃.extBut _ _ (Ne.symm hne) (b₂.extBut _ _ (Ne.symm hne) ho))
 have t₄:(g₃.push {cls:=.type "tuple",data:=.seq #[.int i tk,x]}).get? hp.objs.size=some {cls:=.type "tuple",data:=.seq #[.int i tk,x]}:=by rw[<-z₃];exact Heap.get?_push_size _ rfl
 have s₄:(g₃.push {cls:=.type "tuple",data:=.seq #[.int i tk,x]}).objs.size=hp.objs.size+1:=by rw[Heap.size_push,z₃]
 have k₄: ∀b o,b≠e->b≠it->hp.get? b=some o->(g₃.push {cls:=.type "tuple",data:=.seq #[.int i tk,x]}).get? b=some o:=λb o h1 h2 h3=>Heap.get?_push_of_some _ (b₃.extBut b o h1 (b₂.extBut b o h1 (b₁.extBut b o h2 h3)))
 generalize g₃.push {cls:=.type "tuple",data:=.seq #[.int i tk,x]}=g₄ at e₄ n₄ t₄ s₄ k₄
 rw[z₃];refine(show wpAny _ _ (Builtin.SmallTypes.ownedTupleIsFree (.ref e)>>=_) _ _ ⟨g₄,gn,dr,tk+1,os⟩ from wpAny_bind ?_)
 unfold Builtin.SmallTypes.ownedTupleIsFree;refine wpAny_bind (wpAny_field e₄ rfl (x:=.none) rfl (wpAny_pure ?_))
 simp only[if_true];refine wpAny_bind (wpAny_rule (wpAny_bind (wpAny_field e₄ rfl (x:=old) rfl (wpAny_bind (wpAny_setField_rec e₄ (by simp) λg₅ e₅ b₅=>?_)))))
 replace b₅:Heap.SameBut e g₄ g₅:=b₅
 replace e₅:IsEnum g₅ e it ((i:Int)+1) x:=e₅
 refine(show wpAny _ _ (Builtin.SmallTypes.ownedTupleHandOut (.ref e) (.ref hp.objs.size)>>=_) _ _ ⟨g₅,gn,dr,tk+1,os⟩ from wpAny_bind ?_)
 unfold Builtin.SmallTypes.ownedTupleHandOut;refine wpAny_bind (wpAny_setField_rec e₅ (by simp) λg₆ e₆ b₆=>?_)
 replace b₆:Heap.SameBut e g₅ g₆:=b₆
 replace e₆:IsEnumOut g₆ e it ((i:Int)+1) x hp.objs.size:=e₆
 refine wpAny_setField_rec e₆ (by simp) λg₇ e₇ b₇=>?_
 replace b₇:Heap.SameBut e g₆ g₇:=b₇
 replace e₇:IsEnumOut g₇ e it ((i:Int)+1) x hp.objs.size:=e₇
 refine wpAny_bind (wpAny_letGo (wpAny_pure ⟨_,rfl,wpAny_pure (hQ g₇ e₇ (hNk _ _ n₄ λo ho=>?_) ?_ ?_ λb o h1 h2 h3=>?_)⟩))
 ·exact b₇.extBut _ _ (Ne.symm hne) (b₆.extBut _ _ (Ne.symm hne) (b₅.extBut _ _ (Ne.symm hne) ho))
 ·exact b₇.extBut _ _ (Nat.ne_of_gt le) (b₆.extBut _ _ (Nat.ne_of_gt le) (b₅.extBut _ _ (Nat.ne_of_gt le) t₄))
 ·rw[b₇.1,b₆.1,b₅.1,s₄]
 ·exact b₇.extBut b o h1 (b₆.extBut b o h1 (b₅.extBut b o h1 (k₄ b o h1 h2 h3)))
theorem ln {e it:Addr}{i:Nat}{old:Value}{Q:Option Value->Shared->Prop}(he:IsEnum s.heap e it i old)
 (nx: ∀(A':Around),A'.handled=A.handled-> ∀(Q':Value->Shared->Prop) (E':Value->Shared->Prop),(∀g x,Heap.ExtBut it s.heap g->(∃o,g.get? x=some o/\o.cls=.type "StopIteration")->E' (.ref x) {s with heap:=g})->wpAny (model prog w) A' (Builtin.SmallTypes.nextOf (.ref it)) Q' E' s)
 (hQ: ∀g,Heap.ExtBut it s.heap g->Q none {s with heap:=g}):wpAny (model prog w) A (pyNext (.ref e)) Q E s:=by
 have hT:s.TypeIs (.ref e) "enumerate":=⟨_,he,rfl⟩
 unfold pyNext;refine wpAny_bind (wpAny_attempt (wpAny_callSpecial?_slot (name:=Str.ofString "__next__") hT F.slot_enumerate_next (wpAny_call_entry F.slot_enumerate_next hT F.entry_enumerate_next (show wpAny _ _ (field (.ref e) 2>>=_) _ _ _ from wpAny_bind (wpAny_field he rfl (x:=.ref it) rfl (wpAny_bind (nx A.in1 rfl _ _ λg x k hx=>?_)))) (F.args_enumerate_next_1 _))))
 obtain⟨o,ho,hc⟩:=hx
 exact wpAny_bind (wpAny_isInstance (T:="StopIteration") (b:=true) ⟨o,ho,hc⟩ isSubtype_stop (wpAny_pure (hQ _ k)))
end
set_option maxHeartbeats 1000000 in
theorem kH(l:Addr)(us:Array Value)(n:Nat)(dct:Option Addr)(sl:Array (Option Value)):
 Meets (Builtin.«enumerate.__new__» ⟨[.type "enumerate",.ref l],[]⟩) (λ_ R s=>s.heap.get? l=some {cls:=.type "tuple",dict:=dct,data:=.seq us n,slots:=sl}/\
  R (.ok (.ret (.ref (s.heap.push {cls:=.type "tuple_iterator",data:=.fields #[.ref l,.int 0 0]}).objs.size)))
   {s with heap:=(s.heap.push {cls:=.type "tuple_iterator",data:=.fields #[.ref l,.int 0 0]}).push {cls:=.type "enumerate",data:=.fields #[.none,.bool false,.ref s.heap.objs.size,rawInt 0,.none,.none]}}):=
 .of_wp λprog w A R s h=>by
  obtain⟨hp,g,d,tk,os⟩:=s;obtain⟨hl,h⟩:=h
  have hsub:=sub_enumerate
  have hL:Heap.IsTuple (Shared.heap ⟨hp,g,d,tk,os⟩) l us:=⟨_,hl,rfl,n,rfl⟩
  wp_walk using wpAny_loadPart' hl
  refine wpAny_stack_any λst=>wpAny_pure ?_
  split
  ·rename_i c _ _ _ _ _
   cases (c==Value.type "enumerate")
   ·wp_walk using wpAny_loadPart' hl,wpAny_pyIter_tuple hL
    exact⟨_,rfl,h⟩
   ·wp_walk using wpAny_loadPart' hl,wpAny_pyIter_tuple hL
    exact⟨_,rfl,h⟩
  ·wp_walk using wpAny_loadPart' hl,wpAny_pyIter_tuple hL
   exact⟨_,rfl,h⟩
section
variable {prog:Program}{w:World}{A:Around}{E:Value->Shared->Prop}{s:Shared}
theorem jr {l:Addr}{us:Array Value}{Q:Value->Shared->Prop}(hL:s.heap.IsTuple l us)
 (h: ∀g,IsEnum g (s.heap.objs.size+1) s.heap.objs.size 0 .none->g.IsTupleIter s.heap.objs.size l 0->g.objs.size=s.heap.objs.size+2->(∀b o,s.heap.get? b=some o->g.get? b=some o)->Q (.ref (s.heap.objs.size+1)) {s with heap:=g}):
 wpAny (model prog w) A (call (.type "enumerate") [.ref l]) Q E s:=by
 obtain⟨⟨cls,dct,dat,sl⟩,ho,hc,n,hd⟩:=hL
 have hc:cls=.type "tuple":=hc
 have hd:dat=.seq us n:=hd
 subst hc hd;refine callType_new F.called_enumerate (by decide) (F.typeCall_enumerate_1 _) (F.newCall_enumerate_1 _) (λobj=>F.args_object_init_2 obj _) F.entry_enumerate_new (kH l us n dct sl) ⟨ho,?_⟩
 have hz:(s.heap.push {cls:=.type "tuple_iterator",data:=.fields #[.ref l,.int 0 0]}).objs.size=s.heap.objs.size+1:=Heap.size_push ..
 show _/\_;rw[hz];have he:IsEnum ((s.heap.push {cls:=.type "tuple_iterator",data:=.fields #[.ref l,.int 0 0]}).push {cls:=.type "enumerate",data:=.fields #[.none,.bool false,.ref s.heap.objs.size,rawInt 0,.none,.none]}) (s.heap.objs.size+1) s.heap.objs.size 0 .none:=by
  have:=Heap.get?_push_size (s.heap.push {cls:=.type "tuple_iterator",data:=.fields #[.ref l,.int 0 0]}) (o:={cls:=.type "enumerate",data:=.fields #[.none,.bool false,.ref s.heap.objs.size,rawInt 0,.none,.none]}) rfl
  rw[hz] at this;exact this
 exact⟨⟨_,he,rfl⟩,h _ he ⟨_,Heap.get?_push_of_some _ (Heap.get?_push_size _ rfl),rfl,rfl⟩ (by rw[Heap.size_push,hz]) λb o x=>Heap.get?_push_of_some _ (Heap.get?_push_of_some _ x)⟩
end
end PySem
namespace L2
open PySem PySem.Spec PyProof.Rows
def yk(K:W.Frag)(a:Addr):It:=
 ⟨λi H=> ∃xs x,SqT K H a xs/\xs[i]? =some x,λi H x H'=> ∃T,x=.ref T/\H T=none/\ ∀xs,SqT K H a xs-> ∃y,xs[i]? =some y/\H'=aV H T (.tup [.int i,y]),λi H=> ∃xs,SqT K H a xs/\xs.length<=i⟩
theorem nC {P:Program}{w:World}{K:W.Frag}{es:List Expr}{x1}{pos:Pos}(a it e:Addr)(hei:e≠it):Turn P w K (.Tuple es x1 pos) (yk K a) [e,it] e (λi h=>(∃old,IsEnum h e it i old)/\h.IsTupleIter it a i) where
 mem:=by simp
 obj:=λi h st b hb=>by
  obtain⟨⟨old,he⟩,o,ho,hc,hd⟩:=st
  rcases List.mem_cons.mp hb with rfl|hb
  ·exact⟨_,he,λv z=>by cases z⟩
  ·have:b=it:=by simpa using hb
   subst this;exact⟨o,ho,λv z=>by rw[hd] at z;cases z⟩
 keep:=λi h h' st k=>by
  obtain⟨⟨old,he⟩,hit⟩:=st
  exact⟨⟨old,k e (by simp) _ he⟩,hit.at λo x=>k it (by simp) o x⟩
 item:=by
  intro X hP hw hK hc i aa s σ H E I hf st hg;subst hP hw hK;obtain⟨xs,x,hq,hx⟩:=hg
  obtain⟨its,rv,p,hz⟩:=I.tuple hq
  obtain⟨u,hu,ru⟩:=rv.get hx
  obtain⟨⟨old,he⟩,hit⟩:=st
  obtain⟨e0,e1,e2,e3,e4,e5⟩:=hf e (by simp)
  obtain⟨f0,f1,f2,f3,f4,f5⟩:=hf it (by simp)
  have ht:s.heap.IsTuple a its.toArray:=p
  refine kG (x:=u) (N:=λg=>g.IsTupleIter it a (i+1)) he hei (λg g' n k=>n.at k) (λA' Q' E' hq'=>iR hit ht (by simpa using hu) λg n b=>hq' g n b) λg hout hit' hT hsz hk=>⟨_,rfl,?_⟩
  refine wpAny_letOwnedTupleGo_enum hout λg' he' hs'=>?_
  have elt:e<s.heap.objs.size:=Heap.lt_size he
  have k2: ∀b o,b≠e->b≠it->s.heap.get? b=some o->g'.get? b=some o:=λb o h1 h2 h3=>(hs'.2 b h1).trans (hk b o h1 h2 h3)
  have hT':g'.get? s.heap.objs.size=some {cls:=.type "tuple",data:=.seq #[.int i s.toks,u]}:=(hs'.2 _ (Nat.ne_of_gt elt)).trans hT
  have hn:H s.heap.objs.size=none:=I.hok.fresh (Nat.le_refl _)
  have I1:Inv X aa σ (aV H s.heap.objs.size (.tup [.int i,x])) {s with heap:=g',toks:=s.toks+1}:=by
   obtain⟨oi,hoi,hci,hdi⟩:=id (show g'.IsTupleIter it a (i+1) from hit'.at λo y=>(hs'.2 it (Ne.symm hei)).trans y)
   obtain⟨os0,hos0,_⟩:=id hit
   have ilt:it<s.heap.objs.size:=Heap.lt_size hos0
   have I0:Inv X aa σ (aV H s.heap.objs.size (.tup [.int i,x])) {s with heap:=s.heap.push {cls:=.type "tuple",data:=.seq #[.int i s.toks,u]},toks:=s.toks+1}:=
    I.laid (t':=s.toks+1) (λb o q=>Heap.get?_push_of_some _ q) (Nat.le_refl _) (show ObjOk X.prog X.w _ _ _ (.tup [.int i,x]) from
     ⟨Nat.le_of_lt (gQ (by simp)),[.int i s.toks,u],.cons ⟨_,rfl⟩ (.cons ru .nil),⟨_,Heap.get?_push_size _ rfl,rfl,_,rfl⟩,_,Heap.get?_push_size _ rfl,rfl⟩)
   have u1:((s.heap.push {cls:=.type "tuple",data:=.seq #[.int i s.toks,u]}).update it λ_=>oi).get? it=some oi:=Heap.get?_update_self (λ_=>oi) (Heap.get?_push_of_some _ hos0) (Obj.isFreed_of_fields hdi)
   have I1:Inv X aa σ (aV H s.heap.objs.size (.tup [.int i,x])) {s with heap:=(s.heap.push {cls:=.type "tuple",data:=.seq #[.int i s.toks,u]}).update it λ_=>oi,toks:=s.toks+1}:=
    I0.turned (t':=s.toks+1) (λb o hb q=>(Heap.get?_update_other _ _ (Ne.symm hb)).trans q) (by rw[ar (Nat.ne_of_lt ilt)];exact f0) f1 f3 f4 f5
   refine I1.turned (t':=s.toks+1) (λb o hb q=>?_) (by rw[ar (Nat.ne_of_lt elt)];exact e0) e1 e3 e4 e5
   by_cases hbi:b=it
   ·subst hbi
    have q':((s.heap.push {cls:=.type "tuple",data:=.seq #[.int i s.toks,u]}).update b λ_=>oi).get? b=some o:=q
    rw[u1] at q';cases q';exact hoi
   ·have q':((s.heap.push {cls:=.type "tuple",data:=.seq #[.int i s.toks,u]}).update it λ_=>oi).get? b=some o:=q
    rw[Heap.get?_update_other _ _ (Ne.symm hbi)] at q'
    by_cases hbT:b=s.heap.objs.size
    ·subst hbT
     rw[Heap.get?_push_size _ rfl] at q';cases q'
     exact hT'
    ·rw[Heap.get?_push_ne _ _ _ hbT] at q'
     exact k2 b o hb hbi q'
  refine⟨.ref s.heap.objs.size,aV H s.heap.objs.size (.tup [.int i,x]),I1,rfl,⟨_,rfl,hn,λys hy=>⟨x,by rw[I.tuple_inj hy hq];exact hx,rfl⟩⟩,⟨⟨u,by simpa using he'⟩,hit'.at λo y=>(hs'.2 it (Ne.symm hei)).trans y⟩,λb hb=>?_⟩
  rcases List.mem_cons.mp hb with rfl|hb
  ·rw[ar (Nat.ne_of_lt elt)];exact e0
  ·have:b=it:=by simpa using hb
   subst this;obtain⟨o,ho,_⟩:=hit
   rw[ar (Nat.ne_of_lt (Heap.lt_size ho))];exact f0
 done:=by
  intro X hP hw hK hc i aa s σ H E I hf st hg;subst hP hw hK;obtain⟨xs,hq,hx⟩:=hg
  obtain⟨its,rv,p,hz⟩:=I.tuple hq
  obtain⟨⟨old,he⟩,hit⟩:=st
  obtain⟨f0,f1,f2,f3,f4,f5⟩:=hf it (by simp)
  have hl:=rv.length
  have hh:=I.ok.hd hc
  refine ln he (λA' hA' Q' E' hq'=>jq (hA'.trans hh) hit (show s.heap.IsTuple a its.toArray from p) (by simp;omega) hq') λg k=>⟨rfl,I.turned (t':=s.toks) (λb o hb z=>k b o hb z) f0 f1 f3 f4 f5⟩
 self:=λ_ _ _ _ _ st h=>let⟨⟨_,he⟩,_⟩:=st;wpAny_pyIter_enum he h
section
variable {X:Cx}{c:Ct}{k:Kd}{es:List Expr}{x1:Nat}{tp pos p:Pos}
def ny(ds:List D):List D:=(List.range ds.length).map λ(i:Nat)=>D.tup [.int i,ds.getD i .non]
def sx(f:FE):FA:=λρ=>(f ρ).bind λd=>match d with
 | .tup ds=>some (ny ds)
 |_=>none
theorem oE {K:W.Frag}{W:Hp}{a:Addr}{xs:List V}{ds:List D}(h1:SqT K W a xs)(h2:Reps K W xs ds):ItOk K W (yk K a) (ny ds):=by
 have l:=h2.length
 have el:(ny ds).length=ds.length:=by simp[ny]
 refine⟨λi d H e s=>?_,λH s=>⟨_,Same.seqT s h1,by rw[el,<-l];exact Nat.le_refl _⟩⟩
 have hi:i<ds.length:=by rw[<-el];exact(List.getElem?_eq_some_iff.mp e).1
 have ex:xs[i]? =some xs[i]:=List.getElem?_eq_getElem (by omega)
 refine⟨⟨_,xs[i],Same.seqT s h1,ex⟩,λy H' ⟨T,e2,hT,e3⟩=>?_⟩
 subst e2;obtain⟨z,e4,e5⟩:=e3 _ (Same.seqT s h1)
 subst e5;refine⟨bM hT _,λhid tr sw=>?_⟩
 have hf:hid T=false:=by
  cases eh:hid T with
  |false=>rfl
  |true=>obtain⟨o,ho⟩:=tr T eh;rw[hT] at ho;cases ho
 obtain⟨d',e6,r6⟩:=h2.get' e4
 have ed:d=.tup [.int i,d']:=by
  unfold ny at e;rw[List.getElem?_map,List.getElem?_range hi] at e;have:ds.getD i .non=d':=by simp[List.getD,e6]
  rw[Option.map_some,this] at e;exact(Option.some.inj e).symm
 rw[ed];exact ja hT hf (.cons .int (.cons (r6.mono sw) .nil))
theorem rD {iter:Expr}{f:FE}(h:DP X c .s iter f)(hm:X.mg "enumerate"=none)(hg:Gl X "enumerate":=by rfl)(hs:starEach [iter] X.env=[(false,eval iter X.env)]:=by rfl):DIp X c (.Tuple es x1 tp) (.Call (.Name "enumerate" p) [iter] [] pos) (sx f):=by
 intro hid ρ aa s σ H R I hq;obtain⟨sr,ds,hd,q⟩:=hq
 unfold sx at hd;cases e1:f ρ with
 |none=>rw[e1] at hd;cases hd
 |some z=>
  rw[e1] at hd;cases z with
  |tup us=>
   cases hd
   refine Call_ (iY (u:=.type "enumerate") I hg hm (by kernel_rfl) (PyProof.Rows.callWith_type1 (bY (cC (h hid ρ) fQ hs pos aa s σ H (λvs H'=> ∃v,vs=[v]/\Same H H'/\Rep X.K (vw H' hid) v (.tup us)) I ⟨sr,_,e1,λv H' s' r=>⟨v,rfl,s',r⟩⟩) λvs s1 ⟨ws,H1,I1,r1,w,e,s',r⟩=>?_) hs rfl))
   subst e;cases r1 with
   |cons ra rb=>
    cases rb
    cases r with
    |tup t1 t2=>
     cases ra
     obtain⟨its,rv,pt,hz⟩:=I1.tuple (Same.seqT (di _ _) t1)
     refine jr (show s1.heap.IsTuple _ its.toArray from pt) λg he hit hsz hk=>?_
     refine wpAny_pyIter_enum he ⟨_,[s1.heap.objs.size+1,s1.heap.objs.size],_,_,H1,rfl,I1.kept (t':=s1.toks) λb o e=>hk b o e,nC _ _ _ (Nat.ne_of_gt (Nat.lt_succ_self _)),⟨⟨_,he⟩,hit⟩,λb hb=>?_,q _ H1 s' (oE t1 t2)⟩
     rcases List.mem_cons.mp hb with rfl|hb
     ·exact I1.fpOk (Nat.le_succ _) (I1.hok.fresh (Nat.le_succ _))
     ·have:b=s1.heap.objs.size:=by simpa using hb
      subst this;exact I1.fpOk (Nat.le_refl _) (I1.hok.fresh (Nat.le_refl _))
  |_=>cases hd
end
open PySem PySem.W PySem.Calls PyProof.Rows
def vD {α:Type}(d:α)(n:Nat):Option α:=if n<=sizeLine then some d else none
def yg {α:Type}(d:α)(n:Nat):Option α:=if n<sizeLine then some d else none
theorem cP {α:Type}{d:α}{n:Nat}(h:n<=1000):vD d n=some d:=if_pos (Nat.le_of_lt (gQ h))
theorem oS {α:Type}{d:α}{n:Nat}(h:n<=1000):yg d n=some d:=if_pos (gQ h)
theorem tS(fs:FA)(ρ:ax):cH fs ρ=(fs ρ).bind λds=>vD (.tup ds) ds.length:=rfl
theorem iB(fs:FA)(ρ:ax):eV fs ρ=(fs ρ).bind λds=>vD (.lst ds) ds.length:=rfl
theorem p8(m:Nat)(gi:FA)(g:FG)(p:FT)(f:FE)(ρ:ax):bb m gi g p f ρ=(gi ρ).bind λds=>(vD () ds.length).bind λ_=>(bB g p f (ρ++List.replicate m .no) ds).map D.lst:=by
 unfold bb vD;congr 1;funext ds
 split<;>rfl
theorem tM(bs:List D)(d:D):lQ bs [d]=yg (.non,bs++[d]) bs.length:=rfl
theorem sV(bs:List D)(i:Int):jv bs [.int i]=(vD () bs.length).bind λ_=>(j4 bs.length i).bind λj=>(bs[j]?).map λd=>(d,bs.eraseIdx j):=by
 unfold jv vD;dsimp only;split
 ·rename_i j e
  split at e
  ·rw[if_pos ‹_›,e];rfl
  ·cases e
 ·rename_i e
  split at e
  ·rw[if_pos ‹_›,e];rfl
  ·rw[if_neg ‹_›];rfl
def wM(ds:List D):Option (List D):=match ds with
 | [.int j]=>if j.natAbs<4000000000 then some (pk 0 j.toNat) else none
 |_=>none
theorem lu(f:FA)(ρ:ax):bn f ρ=(f ρ).bind wM:=rfl
theorem lA {j:Int}(h:j.natAbs<=1000):wM [.int j]=some (pk 0 j.toNat):=by
 show(if j.natAbs<4000000000 then some (pk 0 j.toNat) else none)=_
 rw[if_pos (by omega)]
theorem ci(i j:Int):aG (.int i) (.int j)=some (.int (i+j)):=rfl
theorem gD(i j:Int):dX (.int i) (.int j)=some (.int (i-j)):=rfl
theorem oj(i j:Int):ub (.int i) (.int j)=some (.bl (decide (i<j))):=rfl
theorem t5(i j:Int):nu (.int i) (.int j)=some (.bl (decide (j<i))):=rfl
theorem n6(i j:Int):vC (.int i) (.int j)=some (.bl (decide (j<=i))):=rfl
theorem cD {i j:Int}(h:0<j):bj (.int i) (.int j)=some (.int (i % j)):=by
 unfold bj i2;dsimp only;rw[if_pos (by simpa using h)]
theorem mX {n:Nat}(h:n<10^200):n<2^1000:=Nat.lt_of_lt_of_le h (by decide)
theorem dO {i j:Int}(h1:i.natAbs<10^200)(h2:j.natAbs<10^200):bW (.int i) (.int j)=some (.int (i*j)):=by
 unfold bW i2;dsimp only;rw[if_pos (by rw[decide_eq_true (mX h1),decide_eq_true (mX h2)];rfl)]
theorem gY {i j:Int}(h1:0<j)(h2:j.natAbs<10^200):dh (.int i) (.int j)=some (.int (i / j)):=by
 unfold dh i2;dsimp only;rw[if_pos (by rw[decide_eq_true h1,decide_eq_true (mX h2)];rfl)]
theorem gh {i j:Int}(h0:0<=j)(h1:j<=1000000)(h2:i.natAbs<2^64):cF (.int i) (.int j)=some (.int (i^j.toNat)):=by
 unfold cF i2;dsimp only;rw[if_pos (by rw[decide_eq_true h0,decide_eq_true h1,decide_eq_true h2];rfl)]
theorem fC {x y:D}(h:cO x<=32):gG x y=some (.bl (df x y)):=if_pos h
theorem gJ {x y:D}(h:cO x<=32):iX x y=some (.bl (!df x y)):=if_pos h
theorem gm(i j:Int):df (.int i) (.int j)=decide (i=j):=by
 unfold df;rw[Bool.eq_iff_iff];simp
theorem da(i:Int):cO (.int i)=0:=by unfold cO;rfl
structure Bag(N:Nat)(a b:Int):Prop where
 a0:0<=a
 a1:a.natAbs<10^180
 b0:0<=b
 b1:b<=N
 lo:b≠0->a.natAbs<2147483647
abbrev aP(a b:Int):List D:=[.int a,.int b]
def kP:FS:=
 av (dL (bw (ak ub (ag 1) (aj cf (ae (ag 0) (ah))))) (aM (ak aO (ag 0) (ag 1))) (skip))
 (aM (aq (.int 0)))
def eo:List D->Option D:=gu .s 2 kP
def qE:FS:=
 av (aU 2 (ak bj (aj lS (ae (aj (nF 2 eo) (ae (ag 0) (ae (ag 1) (ah)))) (ah))) (ak bW (ak bW (ak cF (aq (.int 10)) (aq (.int 60))) (ak cF (aq (.int 10)) (aq (.int 60)))) (ak cF (aq (.int 10)) (aq (.int 60))))))
 (av (dL (bw (ak vC (ag 2) (ak cF (aq (.int 10)) (aq (.int 18))))) (aM (eV (ae (ag 2) (ae (aq (.int 0)) (ah))))) (skip))
 (av (aU 3 (ak bj (ak aG (ak aG (ag 2) (ak bW (aq (.int 7919)) (ag 1))) (aq (.int 17))) (aq (.int 2147483647))))
 (av (cQ (cu (bn (ae (aj gC (ae (aj cf (ae (ag 0) (ah))) (ae (aq (.int 9)) (ah)))) (ah)))) (gN 4) (aU 3 (ak bj (ak aG (ak aG (ak cF (ag 3) (aq (.int 5))) (ak bj (ak aO (ag 0) (ag 4)) (aq (.int 2147483629)))) (ak bW (aq (.int 31)) (ag 4))) (aq (.int 2147483647)))))
 (aM (eV (ae (ag 3) (ae (aq (.int 1)) (ah))))))))
def qD:List D->Option D:=gu .n 5 qE
def kh:FS:=
 av (dL (bw (ak gG (ak aO (dl 0) (aq (.int 1))) (aq (.int 0)))) (av (aU 2 (ak bj (ak aO (dl 0) (aq (.int 0))) (ag 1)))
 (av (cA (cG 0 (aq (.int 0))) (pu (ak dh (ak aO (dl 0) (aq (.int 0))) (ag 1))))
 (aM (ag 2)))) (skip))
 (av (cA (cG 0 (aq (.int 0))) (pu (ak bj (ak aG (ak aG (ak cF (ak aO (dl 0) (aq (.int 0))) (aq (.int 5))) (ak bW (aq (.int 48271)) (ak aO (dl 0) (aq (.int 1))))) (aq (.int 11))) (aq (.int 2147483647)))))
 (av (cA (cG 0 (aq (.int 1))) (pu (ak aG (ak aO (dl 0) (aq (.int 1))) (aq (.int 1)))))
 (aM (ak bj (ak dh (ak bj (ak bW (ak aO (dl 0) (aq (.int 0))) (aq (.int 69621))) (aq (.int 2147483629))) (aq (.int 8))) (ag 1)))))
def cw:List D->List D->Option (D×List D):=pA .s 3 kh
def lK:FS:=
 av (dQ 2 (sg (ag 1)))
 (av (dQ 3 (eV (ah)))
 (av (pM (bw (ak iX (dl 2) (eV (ah)))) (fh (aK 3 1 lQ (ei (aK 2 1 jv (ei (aK 0 1 cw (cu (ae (aj cf (ae (dl 2) (ah))) (ah)))) (cu (ah)))) (cu (ah))))) 16)
 (rY 3)))
def eI:List D->List D->Option (D×List D):=pA .n 4 lK
theorem cR {i m:Int}(h:0<m):0<=i % m/\i % m<m:=⟨Int.emod_nonneg _ (by omega),Int.emod_lt_of_pos _ h⟩
theorem iu {N:Nat}{a b m:Int}(B:Bag N a b)(hN:N<=1000000000)(hm:0<m)(hm2:m.natAbs<10^20): ∃d a' b',cw (aP a b) [.int m]=some (.int d,aP a' b')/\Bag (N+1) a' b'/\0<=d/\d<m:=by
 have hm3:m.natAbs<10^200:=Nat.lt_of_lt_of_le hm2 (by decide)
 by_cases hb:b=0
 ·subst hb
  refine⟨a % m,a / m,0,?_,⟨Int.ediv_nonneg B.a0 (by omega),?_,by omega,by omega,λz=>absurd rfl z⟩,cR hm⟩
  ·simp[cw,pA,kh,kx,aP,av,dL,bw,ak,aO,dl,ag,aq,fC,gm,da,lW,jp,j4,aU,cD hm,cA,pu,gY hm hm3,cG,fo,eJ,vL,aM,jo]
  ·have h1:=B.a1
   have:a / m<=a:=Int.ediv_le_self _ B.a0
   have:0<=a / m:=Int.ediv_nonneg B.a0 (by omega)
   omega
 ·have lo:=B.lo hb
  have p1:a.natAbs<2^64:=Nat.lt_trans lo (by decide)
  have p2:b.natAbs<10^200:=Nat.lt_of_lt_of_le (show b.natAbs<10^10 by have:=B.b1;have:=B.b0;omega) (by decide)
  generalize hA:(a^5+48271*b+11) % 2147483647=A
  have hA':0<=A/\A<2147483647:=by rw[<-hA];exact cR (by decide)
  have p3:A.natAbs<10^200:=Nat.lt_of_lt_of_le (show A.natAbs<10^10 by omega) (by decide)
  refine⟨A*69621 % 2147483629 / 8 % m,A,b+1,?_,⟨hA'.1,?_,by have:=B.b0;omega,by have:=B.b1;omega,λ_=>by omega⟩,cR hm⟩
  ·have c1:(48271:Int).natAbs<10^200:=Nat.lt_of_lt_of_le (show(48271:Int).natAbs<10^10 by decide) (by decide)
   have c2:(69621:Int).natAbs<10^200:=Nat.lt_of_lt_of_le (show(69621:Int).natAbs<10^10 by decide) (by decide)
   have c3:(8:Int).natAbs<10^200:=Nat.lt_of_lt_of_le (show(8:Int).natAbs<10^10 by decide) (by decide)
   have e1:cF (.int a) (.int 5)=some (.int (a^5)):=gh (by decide) (by decide) p1
   have e2:bW (.int 48271) (.int b)=some (.int (48271*b)):=dO c1 p2
   have e3: ∀i:Int,bj (.int i) (.int 2147483647)=some (.int (i % 2147483647)):=λi=>cD (by decide)
   have e4: ∀i:Int,bj (.int i) (.int 2147483629)=some (.int (i % 2147483629)):=λi=>cD (by decide)
   have e5:bW (.int A) (.int 69621)=some (.int (A*69621)):=dO p3 c2
   have e6: ∀i:Int,dh (.int i) (.int 8)=some (.int (i / 8)):=λi=>gY (by decide) c3
   simp[cw,pA,kh,kx,aP,av,dL,bw,ak,aO,dl,ag,aq,fC,gm,da,lW,jp,j4,hb,skip,e1,e2,e3,e4,ci,cA,pu,cG,fo,eJ,vL,aM,jo,hA,e5,e6,cD hm]
  ·exact Nat.lt_of_lt_of_le (show A.natAbs<10^10 by omega) (by decide)
theorem aC {t u:FS}{ρ ρ':ax}(h:t ρ=.nx ρ'):av t u ρ=u ρ':=by unfold av;rw[h]
theorem kC {t u:FS}{ρ ρ':ax}{d:D}(h:t ρ=.rt d ρ'):av t u ρ=.rt d ρ':=by unfold av;rw[h]
abbrev nI(i:Nat):D:=.int (i:Int)
abbrev fZ(ns:List Int):D:=.scr (ns.map D.int)
theorem rV(n:Nat):pk 0 n=(List.range n).map nI:=by
 unfold pk;simp
theorem fD {n j:Nat}(h:j<n):j4 n (j:Int)=some j:=by
 unfold j4;rw[if_pos (by omega),if_pos (by omega)];simp
theorem sy(ns:List Int)(k:Nat): ∃c,eo [fZ ns,nI k]=some (.int c):=by
 by_cases h:k<ns.length
 ·refine⟨ns[k],?_⟩
  simp[eo,gu,kP,dN,av,dL,bw,ak,ag,aj,ae,ah,cf,oj,lW,h,aM,aO,jp,fD (show k<(ns.map D.int).length by simpa using h)]
  simp[fD h,h]
 ·refine⟨0,?_⟩
  simp[eo,gu,kP,dN,av,dL,bw,ak,ag,aj,ae,ah,cf,oj,lW,h,aM,skip,aq]
theorem lq(ns:List Int)(k:D)(c:D): ∀(l:List Nat),(∀i∈l,i<ns.length/\i<1000)-> ∀(x:Int) (s4:Sl),0<=x->x<2147483647-> ∃(x':Int) (s4':Sl),0<=x'/\x'<2147483647/\
 de (gN 4) (aU 3 (ak bj (ak aG (ak aG (ak cF (ag 3) (aq (.int 5))) (ak bj (ak aO (ag 0) (ag 4)) (aq (.int 2147483629)))) (ak bW (aq (.int 31)) (ag 4))) (aq (.int 2147483647)))) (l.map nI) [.v (fZ ns),.v k,.v c,.v (.int x),s4]=.nx [.v (fZ ns),.v k,.v c,.v (.int x'),s4']
 | [],_,x,s4,h1,h2=>⟨x,s4,h1,h2,rfl⟩
 |i::l,hl,x,s4,h1,h2=>by
  obtain⟨hi,hi2⟩:=hl i (by simp)
  have e1:cF (.int x) (.int 5)=some (.int (x^5)):=gh (by decide) (by decide) (Nat.lt_of_lt_of_le (show x.natAbs<10^10 by omega) (by decide))
  have e2:bW (.int 31) (nI i)=some (.int (31*i)):=dO (Nat.lt_of_lt_of_le (show(31:Int).natAbs<10^10 by decide) (by decide)) (Nat.lt_of_lt_of_le (show(i:Int).natAbs<10^10 by omega) (by decide))
  have e3: ∀i:Int,bj (.int i) (.int 2147483647)=some (.int (i % 2147483647)):=λi=>cD (by decide)
  have e4: ∀i:Int,bj (.int i) (.int 2147483629)=some (.int (i % 2147483629)):=λi=>cD (by decide)
  obtain⟨y1,y2⟩:=cR (i:=x^5+ns[i] % 2147483629+31*i) (m:=2147483647) (by decide)
  obtain⟨x',s4',g1,g2,g3⟩:=lq ns k c l (λj hj=>hl j (by simp[hj])) _ (.v (nI i)) y1 y2
  refine⟨x',s4',g1,g2,?_⟩
  rw[<-g3];simp[de,gN,aU,ak,ag,aq,e1,e2,e3,e4,aO,jp,fD (show i<(ns.map D.int).length by simpa using hi),fD hi,hi,ci]
theorem vB(ns:List Int)(k:Nat)(hk:k<=1000)(hn:ns.length<=63): ∃a b,qD [fZ ns,nI k]=some (.lst (aP a b))/\Bag 1 a b:=by
 obtain⟨c,hc⟩:=sy ns k
 have p1:cF (.int 10) (.int 60)=some (.int (10^60)):=gh (by decide) (by decide) (by decide)
 have p2:cF (.int 10) (.int 18)=some (.int (10^18)):=gh (by decide) (by decide) (by decide)
 have q60:((10:Int)^60).natAbs<10^200:=by decide
 have q120:((10:Int)^60*10^60).natAbs<10^200:=by decide
 have m1:bW (.int (10^60)) (.int (10^60))=some (.int (10^60*10^60)):=dO q60 q60
 have m2:bW (.int (10^60*10^60)) (.int (10^60))=some (.int (10^60*10^60*10^60)):=dO q120 q60
 have m3:bW (.int 7919) (nI k)=some (.int (7919*k)):=dO (Nat.lt_of_lt_of_le (show(7919:Int).natAbs<10^10 by decide) (by decide)) (Nat.lt_of_lt_of_le (show(k:Int).natAbs<10^10 by omega) (by decide))
 generalize hA:(if c<0 then -c else c) % (10^60*10^60*10^60)=A
 have hA':0<=A/\A<10^60*10^60*10^60:=by rw[<-hA];exact cR (by decide)
 have s1:aU 2 (ak bj (aj lS (ae (aj (nF 2 eo) (ae (ag 0) (ae (ag 1) (ah)))) (ah))) (ak bW (ak bW (ak cF (aq (.int 10)) (aq (.int 60))) (ak cF (aq (.int 10)) (aq (.int 60)))) (ak cF (aq (.int 10)) (aq (.int 60))))) [.v (fZ ns),.v (nI k),.no,.no,.no]=.nx [.v (fZ ns),.v (nI k),.v (.int A),.no,.no]:=by
  have m4: ∀i:Int,bj (.int i) (.int (10^60*10^60*10^60))=some (.int (i % (10^60*10^60*10^60))):=λi=>cD (by decide)
  unfold aU;have:ak bj (aj lS (ae (aj (nF 2 eo) (ae (ag 0) (ae (ag 1) (ah)))) (ah))) (ak bW (ak bW (ak cF (aq (.int 10)) (aq (.int 60))) (ak cF (aq (.int 10)) (aq (.int 60)))) (ak cF (aq (.int 10)) (aq (.int 60)))) [.v (fZ ns),.v (nI k),.no,.no,.no]=some (.int A):=by
   have ec:aj (nF 2 eo) (ae (ag 0) (ae (ag 1) ah)) [.v (fZ ns),.v (nI k),.no,.no,.no]=some (.int c):=hc
   simp only[ak,aj,ae,ah,aq,Option.bind_some,p1,m1,m2,lS];have ec':((ag 0 [.v (fZ ns),.v (nI k),.no,.no,.no]).bind λd=>((ag 1 [.v (fZ ns),.v (nI k),.no,.no,.no]).bind λd=>(some []).map λr=>d::r).map λr=>d::r).bind (nF 2 eo)=some (.int c):=hc
   rw[ec'];simp only[Option.bind_some,Option.map_some,m4,lS,hA]
  rw[this];rfl
 have r0:dN 5 [fZ ns,nI k]=[.v (fZ ns),.v (nI k),.no,.no,.no]:=rfl
 unfold qD gu qE;rw[r0,aC s1];have hA180:A.natAbs<10^180:=by
  have:(10:Int)^60*10^60*10^60=((10^180:Nat):Int):=by decide
  rw[this] at hA';omega
 by_cases hb:(10:Int)^18<=A
 ·refine⟨A,0,?_,⟨hA'.1,hA180,by decide,by decide,λz=>absurd rfl z⟩⟩
  simp only[av,dL,bw,ak,ag,List.getElem?_cons_succ,List.getElem?_cons_zero,Option.bind_some,aq,p2,n6,lW,decide_eq_true hb,aM,iB,ae,ah,Option.map_some];rw[cP (by simp)]
 ·generalize hx:(A+7919*(k:Int)+17) % 2147483647=x
  have hx':0<=x/\x<2147483647:=by rw[<-hx];exact cR (by decide)
  have m4:bj (.int (A+7919*(k:Int)+17)) (.int 2147483647)=some (.int x):=by rw[cD (by decide),hx]
  have hr:bn (ae (aj gC (ae (aj cf (ae (ag 0) (ah))) (ae (aq (.int 9)) (ah)))) (ah)) [.v (fZ ns),.v (nI k),.v (.int A),.v (.int x),.no]=some ((List.range (min ns.length 9)).map nI):=by
   rw[lu];simp only[aj,ae,ah,ag,aq,List.getElem?_cons_zero,Option.bind_some,Option.map_some,cf,gC,List.length_map];have:(if(9:Int)<(ns.length:Int) then(9:Int) else(ns.length:Int))=((min ns.length 9:Nat):Int):=by split<;>omega
   rw[this,lA (by omega),rV,Int.toNat_natCast]
  obtain⟨x',s4',g1,g2,g3⟩:=lq ns (nI k) (.int A) (List.range (min ns.length 9)) (λi hi=>by have:=List.mem_range.mp hi;omega) x .no hx'.1 hx'.2
  refine⟨x',1,?_,⟨g1,Nat.lt_of_lt_of_le (show x'.natAbs<10^10 by omega) (by decide),by decide,by decide,λ_=>by omega⟩⟩
  have f1:cQ (cu (bn (ae (aj gC (ae (aj cf (ae (ag 0) (ah))) (ae (aq (.int 9)) (ah)))) (ah)))) (gN 4) (aU 3 (ak bj (ak aG (ak aG (ak cF (ag 3) (aq (.int 5))) (ak bj (ak aO (ag 0) (ag 4)) (aq (.int 2147483629)))) (ak bW (aq (.int 31)) (ag 4))) (aq (.int 2147483647)))) [.v (fZ ns),.v (nI k),.v (.int A),.v (.int x),.no]=.nx [.v (fZ ns),.v (nI k),.v (.int A),.v (.int x'),s4']:=by
   unfold cQ cu;rw[hr];exact g3
  have i1:dL (bw (ak vC (ag 2) (ak cF (aq (.int 10)) (aq (.int 18))))) (aM (eV (ae (ag 2) (ae (aq (.int 0)) (ah))))) (skip) [.v (fZ ns),.v (nI k),.v (.int A),.no,.no]=.nx [.v (fZ ns),.v (nI k),.v (.int A),.no,.no]:=by
   simp only[dL,bw,ak,ag,List.getElem?_cons_succ,List.getElem?_cons_zero,Option.bind_some,aq,p2,n6,lW,decide_eq_false hb,skip]
  have i2:aU 3 (ak bj (ak aG (ak aG (ag 2) (ak bW (aq (.int 7919)) (ag 1))) (aq (.int 17))) (aq (.int 2147483647))) [.v (fZ ns),.v (nI k),.v (.int A),.no,.no]=.nx [.v (fZ ns),.v (nI k),.v (.int A),.v (.int x),.no]:=by
   simp only[aU,ak,ag,List.getElem?_cons_succ,List.getElem?_cons_zero,Option.bind_some,aq,m3,ci,m4,List.set_cons_succ,List.set_cons_zero]
  rw[aC i1,aC i2,aC f1];simp only[aM,iB,ae,ah,ag,aq,List.getElem?_cons_succ,List.getElem?_cons_zero,Option.bind_some,Option.map_some];rw[cP (by simp)]
theorem cv {i n:Nat}{M:List D->List D->Option (D×List D)}{fs:GA}{ρ ρ1:ax}{b0 bs ds bs':List D}{d:D}(h0:fo i ρ=some b0)(h1:fs ρ=some (ds,ρ1))(h2:fo i ρ1=some bs)(h3:ds.length=n)(h4:M bs ds=some (d,bs')):aK i n M fs ρ=some (d,eJ i bs' ρ1):=by
 unfold aK;rw[h0];dsimp only;rw[h1];dsimp only;rw[h2];dsimp only;rw[if_pos h3,h4]
theorem iS {f:GE}{fs:GA}{ρ ρ1 ρ2:ax}{d:D}{ds:List D}(h1:f ρ=some (d,ρ1))(h2:fs ρ1=some (ds,ρ2)):ei f fs ρ=some (d::ds,ρ2):=by
 unfold ei bE;rw[h1];dsimp only[Option.bind];rw[h2];rfl
theorem cB {f:FA}{ρ:ax}{ds:List D}(h:f ρ=some ds):cu f ρ=some (ds,ρ):=by unfold cu;rw[h];rfl
theorem ia {f:FE}{ρ:ax}{d:D}(h:f ρ=some d):pu f ρ=some (d,ρ):=by unfold pu;rw[h];rfl
theorem jJ {α β:Type}(f:α->β): ∀(l:List α) (j:Nat),(l.map f).eraseIdx j=(l.eraseIdx j).map f
 | [],_=>rfl
 |_::_,0=>rfl
 |x::l,j+1=>by simp[jJ f l j]
theorem iU {α:Type}: ∀(l:List α) (j:Nat) (h:j<l.length),(l[j]::l.eraseIdx j).Perm l
 |_::_,0,_=>.refl _
 |x::l,j+1,h=>by
  have ih:=iU l j (by simpa using h)
  exact(List.Perm.swap _ _ _).trans (ih.cons x)
theorem ke: ∀r:List Nat,fm (r.map nI)=0
 | []=>by simp[fm]
 |a::r=>by
  rw[List.map_cons];unfold fm;rw[ke r];simp[cO]
theorem qI(r:List Nat):cO (.lst (r.map nI))<=32:=by unfold cO;rw[ke];omega
theorem qG(r:List Nat):cO (.tup (r.map nI))<=32:=by unfold cO;rw[ke];omega
abbrev yb:FS->Nat->FS:=λb n=>pM (bw (ak iX (dl 2) (eV (ah)))) b n
abbrev jT:FS:=fh (aK 3 1 lQ (ei (aK 2 1 jv (ei (aK 0 1 cw (cu (ae (aj cf (ae (dl 2) (ah))) (ah)))) (cu (ah)))) (cu (ah))))
theorem wb(n:D)(bg:List D)(left found:List Nat):bw (ak iX (dl 2) (eV (ah))) [.arg bg,.v n,.own (left.map nI),.own (found.map nI)]=some (!left.isEmpty):=by
 have h0:eV ah [.arg bg,.v n,.own (left.map nI),.own (found.map nI)]=some (.lst []):=by
  rw[iB];simp only[ah,Option.bind_some];exact cP (by simp)
 unfold bw ak;rw[h0];simp only[dl,List.getElem?_cons_succ,List.getElem?_cons_zero,Option.bind_some];rw[gJ (qI left)];cases left with
 |nil=>simp[lW,df,ce]
 |cons x r=>simp[lW,df,ce]
theorem pY(n:D){N:Nat}{a b:Int}(B:Bag N a b)(hN:N<=1000000000)(left found:List Nat)(h0:0<left.length)(h1:left.length<=100)(h2:found.length<=100):
 ∃(j:Nat) (hj:j<left.length) (a' b':Int),jT [.arg (aP a b),.v n,.own (left.map nI),.own (found.map nI)]=.nx [.arg (aP a' b'),.v n,.own ((left.eraseIdx j).map nI),.own ((found++[left[j]]).map nI)]/\Bag (N+1) a' b':=by
 obtain⟨d,a',b',e,B',d0,d1⟩:=iu (m:=left.length) B hN (by omega) (Nat.lt_of_lt_of_le (show(left.length:Int).natAbs<10^10 by omega) (by decide))
 obtain⟨j,rfl⟩: ∃j:Nat,d=(j:Int):=⟨d.toNat,by omega⟩
 have hj:j<left.length:=by omega
 refine⟨j,hj,a',b',?_,B'⟩
 have e2:jv (left.map nI) [.int (j:Int)]=some (nI left[j],(left.eraseIdx j).map nI):=by
  rw[sV,cP (by simp;omega)]
  simp only[Option.bind_some];rw[fD (by simpa using hj)]
  simp[hj,jJ]
 have e3:lQ (found.map nI) [nI left[j]]=some (.non,(found++[left[j]]).map nI):=by
  rw[tM,oS (by simp;omega)];simp
 have g:aK 0 1 cw (cu (ae (aj cf (ae (dl 2) (ah))) (ah))) [.arg (aP a b),.v n,.own (left.map nI),.own (found.map nI)]=some (nI j,[.arg (aP a' b'),.v n,.own (left.map nI),.own (found.map nI)]):=by
  simp[aK,fo,cu,ae,aj,dl,ah,cf,e,eJ]
 have g2:aK 2 1 jv (ei (aK 0 1 cw (cu (ae (aj cf (ae (dl 2) (ah))) (ah)))) (cu (ah))) [.arg (aP a b),.v n,.own (left.map nI),.own (found.map nI)]=some (nI left[j],[.arg (aP a' b'),.v n,.own ((left.eraseIdx j).map nI),.own (found.map nI)]):=by
  refine(cv (i:=2) (n:=1) (b0:=left.map nI) (ds:=[nI j]) (ρ1:=[.arg (aP a' b'),.v n,.own (left.map nI),.own (found.map nI)]) rfl (iS g rfl) rfl rfl e2).trans rfl
 have g3:aK 3 1 lQ (ei (aK 2 1 jv (ei (aK 0 1 cw (cu (ae (aj cf (ae (dl 2) (ah))) (ah)))) (cu (ah)))) (cu (ah))) [.arg (aP a b),.v n,.own (left.map nI),.own (found.map nI)]=some (.non,[.arg (aP a' b'),.v n,.own ((left.eraseIdx j).map nI),.own ((found++[left[j]]).map nI)]):=by
  refine(cv (i:=3) (n:=1) (b0:=found.map nI) (ds:=[nI left[j]]) (ρ1:=[.arg (aP a' b'),.v n,.own ((left.eraseIdx j).map nI),.own (found.map nI)]) rfl (iS g2 rfl) rfl rfl e3).trans rfl
 unfold jT fh;rw[g3]
theorem uh(n:D): ∀(f:Nat) (left found:List Nat) (N:Nat) (a b:Int),left.length<f->left.length<=50->found.length+left.length<=100->Bag N a b->N+left.length<=1000000000->
 ∃(o:List Nat) (a' b':Int),yb jT f [.arg (aP a b),.v n,.own (left.map nI),.own (found.map nI)]=.nx [.arg (aP a' b'),.v n,.own [],.own ((found++o).map nI)]/\o.Perm left/\Bag (N+left.length) a' b'
 |0,left,found,N,a,b,h,_,_,_,_=>absurd h (Nat.not_lt_zero _)
 |f+1,left,found,N,a,b,h,h1,h2,B,hN=>by
  unfold yb pM;rw[wb];cases e:left.isEmpty with
  |true=>
   have:left=[]:=by simpa using e
   subst this;exact⟨[],a,b,by simp,.refl _,by simpa using B⟩
  |false=>
   have h0:0<left.length:=by cases left with
    |nil=>cases e
    |cons x r=>simp
   obtain⟨j,hj,a1,b1,e1,B1⟩:=pY n B (by omega) left found h0 (by omega) (by omega)
   have hl:(left.eraseIdx j).length=left.length-1:=by rw[List.length_eraseIdx];simp[hj]
   obtain⟨o,a2,b2,e2,p,B2⟩:=uh n f (left.eraseIdx j) (found++[left[j]]) (N+1) a1 b1 (by omega) (by omega) (by simp;omega) B1 (by omega)
   refine⟨left[j]::o,a2,b2,?_,?_,?_⟩
   ·simp only[Bool.not_false]
    rw[e1];dsimp only;have:pM (bw (ak iX (dl 2) (eV ah))) jT f=yb jT f:=rfl
    rw[this,e2];simp
   ·exact(p.cons _).trans (iU left j hj)
   ·rw[show N+left.length=N+1+(left.eraseIdx j).length by omega];exact B2
structure Ord(n:Nat)(r:List Nat):Prop where
 perm:r.Perm (List.range n)
theorem Ord.len {n:Nat}{r:List Nat}(o:Ord n r):r.length=n:=by rw[o.perm.length_eq];simp
theorem Ord.lt {n:Nat}{r:List Nat}(o:Ord n r){v:Nat}(h:v∈r):v<n:=by simpa using o.perm.mem_iff.mp h
theorem Ord.nd {n:Nat}{r:List Nat}(o:Ord n r):r.Nodup:=o.perm.nodup_iff.mpr List.nodup_range
theorem uc {n:Nat}(h:n<=1000)(f:FE)(ρ:ax)(e:f ρ=some (nI n)):sg f ρ=some (.lst ((List.range n).map nI)):=by
 unfold sg tP;rw[e];simp only[Option.bind_some];rw[if_pos (by omega),rV];rfl
theorem lG {N:Nat}{a b:Int}(B:Bag N a b){n:Nat}(hn:n<=12)(hN:N<=900000000): ∃(o:List Nat) (a' b':Int),eI (aP a b) [nI n]=some (.lst (o.map nI),aP a' b')/\Ord n o/\Bag (N+n) a' b':=by
 obtain⟨o,a',b',e,p,B'⟩:=uh (nI n) 16 (List.range n) [] N a b (by simp;omega) (by simp;omega) (by simp;omega) B (by simp;omega)
 refine⟨o,a',b',?_,⟨p⟩,by simpa using B'⟩
 have r0:kx 4 (aP a b) [nI n]=[.arg (aP a b),.v (nI n),.no,.no]:=rfl
 have s1:dQ 2 (sg (ag 1)) [.arg (aP a b),.v (nI n),.no,.no]=.nx [.arg (aP a b),.v (nI n),.own ((List.range n).map nI),.no]:=by
  unfold dQ;rw[uc (n:=n) (by omega) (ag 1) _ rfl]
  rfl
 have s2:dQ 3 (eV (ah)) [.arg (aP a b),.v (nI n),.own ((List.range n).map nI),.no]=.nx [.arg (aP a b),.v (nI n),.own ((List.range n).map nI),.own []]:=by
  unfold dQ;rw[iB];simp only[ah,Option.bind_some];rw[cP (by simp)]
  rfl
 unfold eI pA lK;rw[r0,aC s1,aC s2];have e':pM (bw (ak iX (dl 2) (eV (ah)))) jT 16 [.arg (aP a b),.v (nI n),.own ((List.range n).map nI),.own []]=.nx [.arg (aP a' b'),.v (nI n),.own [],.own (o.map nI)]:=e
 rw[aC e'];simp[rY,pS,jo]
theorem aB {F:D->D->Option D}{f g:FE}{ρ:ax}{x y:D}(h1:f ρ=some x)(h2:g ρ=some y):ak F f g ρ=F x y:=by unfold ak;rw[h1,Option.bind_some,h2,Option.bind_some]
theorem n5 {F:D->D->Option D}{f g:GE}{ρ ρ1 ρ2:ax}{x y d:D}(h1:f ρ=some (x,ρ1))(h2:g ρ1=some (y,ρ2))(h3:F x y=some d):iG F f g ρ=some (d,ρ2):=by
 unfold iG bE;rw[h1];dsimp only[Option.bind];rw[h2];dsimp only[Option.bind];rw[h3];rfl
theorem ck {i:Nat}{f:FE}{ρ:ax}{d:D}(h:f ρ=some d):aU i f ρ=.nx (ρ.set i (.v d)):=by unfold aU;rw[h]
theorem iw {i:Nat}{f:GE}{ρ ρ1:ax}{d:D}(h:f ρ=some (d,ρ1)):gg i f ρ=.nx (ρ1.set i (.v d)):=by unfold gg;rw[h]
theorem su {i:Nat}{f:GE}{ρ ρ1:ax}{ds:List D}(h:f ρ=some (.lst ds,ρ1)):mY i f ρ=.nx (ρ1.set i (.own ds)):=by unfold mY;rw[h];rfl
theorem iq {i:Nat}{f:FE}{ρ:ax}{ds:List D}(h:f ρ=some (.lst ds)):dQ i f ρ=.nx (ρ.set i (.own ds)):=by unfold dQ;rw[h];rfl
theorem dv {f:FA}{ρ:ax}{ds:List D}(h:f ρ=some ds)(h2:ds.length<=1000):cH f ρ=some (.tup ds):=by
 rw[tS,h,Option.bind_some,cP h2]
theorem au {f:FE}{fs:FA}{ρ:ax}{d:D}{ds:List D}(h1:f ρ=some d)(h2:fs ρ=some ds):ae f fs ρ=some (d::ds):=by unfold ae;rw[h1,h2];rfl
theorem bK {F:List D->Option D}{f:FA}{ρ:ax}{ds:List D}(h:f ρ=some ds):aj F f ρ=F ds:=by unfold aj;rw[h];rfl
theorem rX {r:List Nat}{c:Nat}(h:c<r.length):jp (r.map nI) (c:Int)=some (nI (r.getD c 0)):=sT (by rw[List.getElem?_map,List.getElem?_eq_getElem h];simp[List.getD,h])
theorem rG {r:List Nat}{c:Nat}(h:c<r.length):aO (.lst (r.map nI)) (nI c)=some (nI (r.getD c 0)):=rX h
theorem lN {r:List Nat}{c:Nat}(h:c<r.length):aO (.tup (r.map nI)) (nI c)=some (nI (r.getD c 0)):=rX h
theorem fS(a b:Nat):df (nI a) (nI b)=decide (a=b):=by
 rw[gm];rw[Bool.eq_iff_iff];simp;omega
theorem vp(a b:Nat):aG (nI a) (nI b)=some (nI (a+b)):=by rw[ci];simp
theorem pP(a:Nat):aG (nI a) (.int 1)=some (nI (a+1)):=by rw[ci];simp
theorem vN {a n:Nat}(h:0<n):bj (nI a) (nI n)=some (nI (a % n)):=by rw[cD (by omega)];rfl
theorem mf {i:Nat}{fi:FE}{d:D}{ρ:ax}{bs:List D}{j:Nat}(h1:fo i ρ=some bs)(h2:fi ρ=some (nI j))(h3:j<bs.length):cG i fi d ρ=some (eJ i (bs.set j d) ρ):=by
 unfold cG;rw[h1];dsimp only;rw[h2];dsimp only;rw[fD h3]
theorem qe(x:List Nat)(j v:Nat):(x.map nI).set j (nI v)=(x.set j v).map nI:=by rw[List.map_set]
def mH(n:Nat)(r x:List Nat)(c:Nat):List Nat:=if x.getD c 0=r.getD c 0 then(x.set c (x.getD ((c+1) % n) 0)).set ((c+1) % n) (x.getD c 0) else x
abbrev oz:FS:=av (aU 7 (ak bj (ak aG (ag 6) (aq (.int 1))) (ag 1)))
 (dL (bw (ak gG (ak aO (dl 5) (ag 6)) (ak aO (ag 4) (ag 6)))) (cA (gT 2 (dB (cG 5 (ag 6)) (dB (cG 5 (ag 7)) (ik)))) (pu (cH (ae (ak aO (dl 5) (ag 7)) (ae (ak aO (dl 5) (ag 6)) (ah)))))) (skip))
theorem qg(bg:List D)(p q:D)(n:Nat)(r x:List Nat)(c:Nat)(s7:Sl)(hr:r.length=n)(hx:x.length=n)(hc:c<n):
 oz [.arg bg,.v (nI n),.v p,.v q,.v (.lst (r.map nI)),.own (x.map nI),.v (nI c),s7]=.nx [.arg bg,.v (nI n),.v p,.v q,.v (.lst (r.map nI)),.own ((mH n r x c).map nI),.v (nI c),.v (nI ((c+1) % n))]:=by
 have hd:(c+1) % n<n:=Nat.mod_lt _ (by omega)
 have e1:aU 7 (ak bj (ak aG (ag 6) (aq (.int 1))) (ag 1)) [.arg bg,.v (nI n),.v p,.v q,.v (.lst (r.map nI)),.own (x.map nI),.v (nI c),s7]=.nx [.arg bg,.v (nI n),.v p,.v q,.v (.lst (r.map nI)),.own (x.map nI),.v (nI c),.v (nI ((c+1) % n))]:=
  (ck ((aB (aB (x:=nI c) (y:=.int 1) rfl rfl |>.trans (pP c)) (y:=nI n) rfl).trans (vN (by omega)))).trans rfl
 unfold oz;rw[aC e1];have i1:ak aO (dl 5) (ag 6) [.arg bg,.v (nI n),.v p,.v q,.v (.lst (r.map nI)),.own (x.map nI),.v (nI c),.v (nI ((c+1) % n))]=some (nI (x.getD c 0)):=(aB (x:=.lst (x.map nI)) (y:=nI c) rfl rfl).trans (rG (by omega))
 have i2:ak aO (ag 4) (ag 6) [.arg bg,.v (nI n),.v p,.v q,.v (.lst (r.map nI)),.own (x.map nI),.v (nI c),.v (nI ((c+1) % n))]=some (nI (r.getD c 0)):=(aB (x:=.lst (r.map nI)) (y:=nI c) rfl rfl).trans (rG (by omega))
 have i3:ak aO (dl 5) (ag 7) [.arg bg,.v (nI n),.v p,.v q,.v (.lst (r.map nI)),.own (x.map nI),.v (nI c),.v (nI ((c+1) % n))]=some (nI (x.getD ((c+1) % n) 0)):=(aB (x:=.lst (x.map nI)) (y:=nI ((c+1) % n)) rfl rfl).trans (rG (by omega))
 unfold dL bw;rw[aB i1 i2,fC (by rw[da];omega),fS]
 by_cases e:x.getD c 0=r.getD c 0
 ·rw[decide_eq_true e]
  simp only[lW];unfold cA;rw[ia (dv (au i3 (au i1 rfl)) (by simp))]
  simp only[gT,List.length_cons,List.length_nil,dB];unfold mH;rw[if_pos e];rw[mf (bs:=x.map nI) (j:=c) rfl rfl (by simp;omega)]
  simp only[Option.bind_some];rw[mf (bs:=(x.map nI).set c (nI (x.getD ((c+1) % n) 0))) (j:=(c+1) % n) rfl rfl (by simp;omega)]
  simp only[Option.bind_some,ik,qe];rfl
 ·rw[decide_eq_false e]
  simp only[lW,skip];unfold mH;rw[if_neg e]
theorem swap_perm(x:List Nat)(c d:Nat)(hc:c<x.length)(hd:d<x.length):((x.set c (x.getD d 0)).set d (x.getD c 0)).Perm x:=by
 have e:(x.toArray.swap c d (by simpa using hc) (by simpa using hd)).toList=(x.set c (x.getD d 0)).set d (x.getD c 0):=by
  simp[Array.toList_swap,List.getD,hc,hd]
 rw[<-e];have:=Array.swap_perm (xs:=x.toArray) (i:=c) (j:=d) (by simpa using hc) (by simpa using hd)
 simpa using (Array.perm_iff_toList_perm.mp this)
theorem mT {x:List Nat}(h:x.Nodup){i j:Nat}(hi:i<x.length)(hj:j<x.length)(e:x.getD i 0=x.getD j 0):i=j:=by
 have:x[i]=x[j]:=by simpa [List.getD,hi,hj] using e
 exact(List.getElem_inj h).mp this
theorem Ord.fix {n:Nat}{r x:List Nat}(or:Ord n r)(ox:Ord n x){c:Nat}(hc:c<n)(hn:2<=n):Ord n (mH n r x c)/\((∀i,i<c->x.getD i 0≠r.getD i 0)-> ∀i,i<c+1->(mH n r x c).getD i 0≠r.getD i 0):=by
 have lx:=ox.len
 have lr:=or.len
 have hd:(c+1) % n<n:=Nat.mod_lt _ (by omega)
 have gx: ∀i,i<n->x.getD i 0=x[i]! :=λi hi=>by simp[List.getD,lx,hi]
 unfold mH
 by_cases e:x.getD c 0=r.getD c 0
 ·rw[if_pos e]
  have ne:(c+1) % n≠c:=by
   by_cases h:c+1<n
   ·rw[Nat.mod_eq_of_lt h];omega
   ·rw[show c+1=n by omega,Nat.mod_self];omega
  refine⟨⟨(swap_perm x c _ (by omega) (by omega)).trans ox.perm⟩,λh i hi=>?_⟩
  have g:((x.set c (x.getD ((c+1) % n) 0)).set ((c+1) % n) (x.getD c 0)).getD i 0=if i=(c+1) % n then x.getD c 0 else if i=c then x.getD ((c+1) % n) 0 else x.getD i 0:=by
   simp only[List.getD,List.getElem?_set,List.length_set]
   by_cases h1:(c+1) % n=i
   ·subst h1;simp[lx,hd]
   ·rw[if_neg h1,if_neg (Ne.symm h1)]
    by_cases h2:c=i
    ·subst h2;simp[lx,hc]
    ·rw[if_neg h2,if_neg (Ne.symm h2)]
  rw[g]
  by_cases h1:i=(c+1) % n
  ·rw[if_pos h1,e]
   intro z;have:=mT or.nd (by omega) (by omega) z
   omega
  ·rw[if_neg h1]
   by_cases h2:i=c
   ·rw[if_pos h2,h2,<-e]
    intro z;have:=mT ox.nd (by omega) (by omega) z
    omega
   ·rw[if_neg h2];exact h i (by omega)
 ·rw[if_neg e]
  refine⟨ox,λh i hi=>?_⟩
  by_cases hic:i=c
  ·subst hic;exact e
  ·exact h i (by omega)
theorem uf(bg:List D)(p q:D){n:Nat}{r:List Nat}(or:Ord n r)(hn:2<=n): ∀(k c:Nat) (x:List Nat) (s6 s7:Sl),c+k=n->Ord n x->(∀i,i<c->x.getD i 0≠r.getD i 0)->
 ∃(x':List Nat) (s6' s7':Sl),de (gN 6) oz ((List.range' c k).map nI) [.arg bg,.v (nI n),.v p,.v q,.v (.lst (r.map nI)),.own (x.map nI),s6,s7]=.nx [.arg bg,.v (nI n),.v p,.v q,.v (.lst (r.map nI)),.own (x'.map nI),s6',s7']/\Ord n x'/\ ∀i,i<n->x'.getD i 0≠r.getD i 0
 |0,c,x,s6,s7,h,ox,hi=>⟨x,s6,s7,rfl,ox,λi h'=>hi i (by omega)⟩
 |k+1,c,x,s6,s7,h,ox,hi=>by
  obtain⟨o1,o2⟩:=or.fix ox (c:=c) (by omega) hn
  obtain⟨x',a,b,e,o3,o4⟩:=uf bg p q or hn k (c+1) (mH n r x c) (.v (nI c)) (.v (nI ((c+1) % n))) (by omega) o1 (o2 hi)
  refine⟨x',a,b,?_,o3,o4⟩
  rw[List.range'_succ,List.map_cons];unfold de;have:gN 6 (nI c) [.arg bg,.v (nI n),.v p,.v q,.v (.lst (r.map nI)),.own (x.map nI),s6,s7]=some [.arg bg,.v (nI n),.v p,.v q,.v (.lst (r.map nI)),.own (x.map nI),.v (nI c),s7]:=rfl
  rw[this];dsimp only;rw[qg bg p q n r x c s7 or.len ox.len (by omega)]
  exact e
theorem dA {α:Type}{g:FG}{f:FE}{ρ0:ax}{h o:α->D}: ∀(l:List α),(∀i∈l,∃ρ1,g (h i) ρ0=some ρ1/\f ρ1=some (o i))->bB g cI f ρ0 (l.map h)=some (l.map o)
 | [],_=>rfl
 |a::l,H=>by
  obtain⟨ρ1,h1,h2⟩:=H a (by simp)
  have ih:=dA l λi hi=>H i (by simp[hi])
  rw[List.map_cons];unfold bB;rw[h1,Option.bind_some];simp only[cI,Option.bind_some,if_true,h2,ih];rfl
theorem eC {m:Nat}{gi:FA}{g:FG}{p:FT}{f:FE}{ρ:ax}{ds ys:List D}(h1:gi ρ=some ds)(h2:ds.length<=1000)(h3:bB g p f (ρ++List.replicate m .no) ds=some ys):bb m gi g p f ρ=some (.lst ys):=by
 rw[p8,h1,Option.bind_some,cP h2,Option.bind_some,h3];rfl
theorem sN: ∀n,2<=n->n<=6-> ∀b,1<=b->b<n->Ord n ((List.range n).map λi=>(i+b) % n):=by
 intro n h1 h2 b h3 h4;refine⟨?_⟩
 have: ∀n:_root_.Fin 7,∀b:_root_.Fin 7,((List.range n.val).map λi=>(i+b.val) % n.val).isPerm (List.range n.val)=true\/ ¬(b.val<n.val):=by decide
 rcases this ⟨n,by omega⟩ ⟨b,by omega⟩ with h|h
 ·exact List.isPerm_iff.mp h
 ·exact absurd h4 h
abbrev aN(r:List Nat):D:=.tup (r.map nI)
abbrev bI(r x:List Nat):D:=.tup [aN r,aN x]
structure Sq(n:Nat)(r x:List Nat):Prop where
 hr:Ord n r
 hx:Ord n x
 ne: ∀i,i<n->x.getD i 0≠r.getD i 0
theorem dc {f:FA}{ρ:ax}{n:Nat}(h:f ρ=some [nI n])(hn:n<=1000):bn f ρ=some ((List.range n).map nI):=by
 rw[lu,h,Option.bind_some,lA (by omega),rV];rfl
theorem yG {j:Int}(h:0<=j):D.int j=nI j.toNat:=by show D.int j=D.int (j.toNat:Int);rw[Int.toNat_of_nonneg h]
theorem wZ {n:Nat}{P:List D->Option D}{ds:List D}(h:ds.length=n):nF n P ds=P ds:=if_pos h
theorem iQ {g:FG}{f:GE}{ρ ρ1 ρ2:ax}{d:D}(h1:f ρ=some (d,ρ1))(h2:g d ρ1=some ρ2):cA g f ρ=.nx ρ2:=by unfold cA;rw[h1];dsimp only;rw[h2];rfl
theorem eg {n:Nat}{P:List D->Option D}{fs:FA}{ρ:ax}{ds:List D}(h:fs ρ=some ds)(hl:ds.length=n):aj (nF n P) fs ρ=P ds:=(bK h).trans (wZ hl)
theorem iC {kd:Kd}{n:Nat}{t:FS}{ds:List D}{ρ:ax}{d:D}(h:t (dN n ds)=.rt d ρ):gu kd n t ds=some d:=by unfold gu;rw[h]
theorem bZ {f:FE}{ρ:ax}{d:D}(h:f ρ=some d):aM f ρ=.rt d ρ:=by unfold aM;rw[h]
theorem kA: ∀bs:List Bool,eK (bs.map D.bl)=some bs
 | []=>rfl
 |b::r=>by show(eK (r.map D.bl)).map (b:: ·)=_;rw[kA r];rfl
theorem sA(bs:List Bool):o5 [.lst (bs.map D.bl)]=some (.bl (bs.any id)):=by
 show(eK (bs.map D.bl)).map (λbs=>D.bl (bs.any id))=_
 rw[kA];rfl
theorem tD(bs:List Bool):r8 [.lst (bs.map D.bl)]=some (.bl (bs.all id)):=by
 show(eK (bs.map D.bl)).map (λbs=>D.bl (bs.all id))=_
 rw[kA];rfl
theorem wd {p:FT}{t u:FS}{ρ:ax}(h:p ρ=some false):dL p t u ρ=u ρ:=by unfold dL;rw[h]
theorem mk {p:FT}{t u:FS}{ρ:ax}(h:p ρ=some true):dL p t u ρ=t ρ:=by unfold dL;rw[h]
theorem u0 {p q:FT}{ρ:ax}{b:Bool}(h1:p ρ=some false)(h2:q ρ=some b):jt p q ρ=some b:=by unfold jt;rw[h1];exact h2
theorem wY {p q:FT}{ρ:ax}(h1:p ρ=some true):jt p q ρ=some true:=by unfold jt;rw[h1];rfl
theorem sh {p q:FT}{ρ:ax}{b:Bool}(h1:p ρ=some true)(h2:q ρ=some b):jn p q ρ=some b:=by unfold jn;rw[h1];exact h2
theorem vQ {p q:FT}{ρ:ax}(h1:p ρ=some false):jn p q ρ=some false:=by unfold jn;rw[h1];rfl
theorem si {p q:FT}{ρ:ax}{a b:Bool}(h1:p ρ=some a)(h2:a=true->q ρ=some b)(h3:a=false->b=false):jn p q ρ=some b:=by
 cases a with
 |true=>exact sh h1 (h2 rfl)
 |false=>rw[h3 rfl];exact vQ h1
theorem uO {p:FT}{ρ:ax}{b:Bool}(h:p ρ=some b):vA p ρ=some (.bl b):=by unfold vA;rw[h];rfl
theorem ls {f:GE}{ρ ρ1:ax}{d:D}(h:f ρ=some (d,ρ1)):fh f ρ=.nx ρ1:=by unfold fh;rw[h]
theorem cs {f:FE}{ρ:ax}{b:Bool}(h:f ρ=some (.bl b)):bw f ρ=some b:=by unfold bw;rw[h];rfl
theorem gL {f:FE}{ρ:ax}{b:Bool}(h:f ρ=some (.bl b)):dY f ρ=some b:=by unfold dY;rw[h];rfl
theorem gc {p:FT}{ρ:ax}{b:Bool}(h:p ρ=some b):dM p ρ=some (!b):=by unfold dM;rw[h];rfl
theorem sS {x:D}(h:cO x<=32):gG x x=some (.bl true):=by rw[fC h,gq]
theorem cU {g:FG}{b:FS}{d:D}{r:List D}{ρ ρ1 ρ2:ax}(h1:g d ρ=some ρ1)(h2:b ρ1=.nx ρ2):de g b (d::r) ρ=de g b r ρ2:=by
 show(match g d ρ with
  |none=>Out.no
  |some ρ1=>match b ρ1 with
   | .nx ρ2=>de g b r ρ2
   | .ct ρ2=>de g b r ρ2
   | .bk ρ2=>.nx ρ2
   | .rt d ρ2=>.rt d ρ2
   | .no=>.no)=_
 rw[h1];dsimp only;rw[h2]
theorem iz {f:GA}{g:FG}{b:FS}{ρ ρ1:ax}{ds:List D}(h:f ρ=some (ds,ρ1)):cQ f g b ρ=de g b ds ρ1:=by unfold cQ;rw[h]
theorem gW {kd:Kd}{n:Nat}{t:FS}{ds:List D}{d:D}(h: ∃ρ,t (dN n ds)=.rt d ρ):gu kd n t ds=some d:=let⟨_,h⟩:=h;iC h
theorem uF {t u:FS}{ρ:ax}{d:D}(P:ax->Prop)(h: ∃ρ',t ρ=.nx ρ'/\P ρ')(hu: ∀ρ',P ρ'-> ∃ρ'',u ρ'=.rt d ρ''): ∃ρ'',av t u ρ=.rt d ρ'':=by
 obtain⟨ρ',h1,h2⟩:=h
 obtain⟨ρ'',h3⟩:=hu ρ' h2
 exact⟨ρ'',(aC h1).trans h3⟩
theorem kg {f:GA}{g:FG}{b:FS}{ρ ρ1:ax}{ds:List D}{P:ax->Prop}(h:f ρ=some (ds,ρ1))(hl: ∃ρ',de g b ds ρ1=.nx ρ'/\P ρ'): ∃ρ',cQ f g b ρ=.nx ρ'/\P ρ':=by
 obtain⟨ρ',h1,h2⟩:=hl
 exact⟨ρ',(iz h).trans h1,h2⟩
theorem kK {g:FG}{b:FS}{P:ax->Prop}: ∀(l:List D),(∀d∈l,∀ρ,P ρ-> ∃ρ1 ρ2,g d ρ=some ρ1/\b ρ1=.nx ρ2/\P ρ2)-> ∀ρ,P ρ-> ∃ρ',de g b l ρ=.nx ρ'/\P ρ'
 | [],_,ρ,p=>⟨ρ,rfl,p⟩
 |d::l,h,ρ,p=>by
  obtain⟨ρ1,ρ2,h1,h2,p2⟩:=h d (by simp) ρ p
  obtain⟨ρ',e,p'⟩:=kK l (λd' hd=>h d' (by simp[hd])) ρ2 p2
  exact⟨ρ',(cU h1 h2).trans e,p'⟩
theorem jQ {α:Type}{g:FG}{p:FT}{f:FE}{ρ0:ax}{h o:α->D}{q:α->Bool}: ∀(l:List α),(∀i∈l,∃ρ1,g (h i) ρ0=some ρ1/\p ρ1=some (q i)/\(q i=true->f ρ1=some (o i)))->bB g p f ρ0 (l.map h)=some ((l.filter q).map o)
 | [],_=>rfl
 |a::l,H=>by
  obtain⟨ρ1,h1,h2,h3⟩:=H a (by simp)
  have ih:=jQ l λi hi=>H i (by simp[hi])
  rw[List.map_cons];unfold bB;rw[h1,Option.bind_some,h2,Option.bind_some];cases e:q a with
  |true=>rw[if_pos rfl,h3 e,Option.bind_some,ih];simp[e]
  |false=>rw[if_neg (by simp),ih];simp[e]
theorem fq(r:List Nat)(ρ:ax)(f:FE)(h:f ρ=some (aN r)):aj cf (ae f ah) ρ=some (nI r.length):=by
 rw[bK (au h rfl)];show some (D.int ((r.map nI).length:Int))=_;rw[List.length_map]
theorem xZ(a b:Nat):dX (nI a) (nI b)=some (.int ((a:Int) -b)):=gD _ _
theorem rg: ∀k l:List Int,ce (k.map D.int) (l.map D.int)=decide (k=l)
 | [],[]=>by simp[ce]
 | [],_::_=>by simp[ce]
 |_::_,[]=>by simp[ce]
 |a::k,b::l=>by
  rw[List.map_cons,List.map_cons];unfold ce;rw[rg k l,gm,Bool.eq_iff_iff];simp
theorem tX(k l:List Int):df (xL k) (xL l)=decide (k=l):=by
 unfold xL df;exact rg k l
theorem Ord.get {n:Nat}{o:List Nat}(O:Ord n o){i:Nat}(h:i<n):o.getD i 0<n:=by
 have ho:=O.len
 have:o.getD i 0=o[i]'(by omega):=by simp[List.getD,ho,h]
 rw[this];exact O.lt (List.getElem_mem _)
theorem Ord.inj {n:Nat}{o:List Nat}(O:Ord n o){i j:Nat}(hi:i<n)(hj:j<n)(e:o.getD i 0=o.getD j 0):i=j:=mT O.nd (by rw[O.len];exact hi) (by rw[O.len];exact hj) e
section
variable {X:Cx}{c:Ct}{k:Kd}{pos:Pos}
def rL(i j:Nat)(fs:FA):FS:=λρ=>match fs ρ with
 |some [d1,d2]=>.nx ((ρ.set i (.v d1)).set j (.v d2))
 |_=>.no
theorem uI(i j:Nat){x y:Str}{a b:Expr}{fs:FA}{px py pt:Pos}{kt k2 pt2}(hc:X.calm=true)(hN:X.N.Nodup)(ha:DA X c [a,b] fs)(hi:X.N[i]? =some x:=by rfl)(hj:X.N[j]? =some y:=by rfl)(hij:i≠j:=by decide)
 (hx:X.env.scope.names.lookup x=some .local:=by rfl) (hy:X.env.scope.names.lookup y=some .local:=by rfl)
 (hw:swappedStores [.Tuple [.Name x px,.Name y py] kt pt] (.Tuple [a,b] k2 pt2) X.env=pure (some [x,y]):=by rfl)
 (hs:swapsWithSole [.Tuple [.Name x px,.Name y py] kt pt] (.Tuple [a,b] k2 pt2) pos.line X.env=pure false:=by rfl):
 DS X c k (.Assign [.Tuple [.Name x px,.Name y py] kt pt] (.Tuple [a,b] k2 pt2) pos) (rL i j fs):=λρ=>
 PS.imp (vS hc hN hi hj hij hx hy (wB λhid=>ha hid ρ) hw hs) λD σ H hq_=>by
  obtain⟨hid,sr,q⟩:=hq_
  unfold rL at q;cases e1:fs ρ with
  |none=>rw[e1] at q;exact q.elim
  |some ds=>
   rw[e1] at q
   match ds,e1,q with
   | [],_,q=>exact q.elim
   | [_],_,q=>exact q.elim
   |_::_::_::_,_,q=>exact q.elim
   | [d1,d2],e1,q=>
     refine⟨hid,sr,[d1,d2],e1,λvs H1 s1 r1=>?_⟩
     cases r1 with
     |cons r1 t=>
      cases t with
      |cons r2 t=>
       cases t
       exact⟨_,_,rfl,q _ H1 hid (((sr.ext s1).setV r1 i).setV r2 j) (aH s1)⟩
end
open PySem PySem.W PySem.Spec PyProof.Rows
theorem Reps.insertIdx {K:W.Frag}{F:Hp}{x:V}{u:D}(r:Rep K F x u){xs:List V}{us:List D}(i:Nat)(h:Reps K F xs us):Reps K F (xs.take i++x::xs.drop i) (us.take i++u::us.drop i):=(h.take i).append (.cons r (h.drop i))
def om:V->List V->Hp->VK->Prop:=λx vs H Q=> ∃l xs i y,x=.ref l/\vs=[.int i,y]/\H l=some (.lst xs)/\0<=i/\i<=xs.length/\xs.length<sizeLine/\Q .non (aV H l (.lst (xs.take i.toNat++y::xs.drop i.toNat)))
section
variable {X:Cx}
theorem jU:xl X "list.insert" om:=by
 intro aa s σ H x vs v us Q I rx rv h;obtain⟨l,xs,i,y,rfl,rfl,hH,h1,h2,hz,q⟩:=h
 cases rx
 cases rv with
 |cons r0 r1=>cases r1 with
  |cons r1 r2=>
   cases r2
   obtain⟨t,rfl⟩:=r0
   rename_i w;obtain⟨z,its,n,r,hl,e⟩:=I.lstM hH
   have l63:=fB
   have fit:Builtin.List.listFitsIndex i=true:=by
    have:=fitsIndex_both (k:=i) (by omega) (by omega)
    simpa using this
   refine call_meets F.slot_list_insert ⟨_,e,rfl⟩ F.entry_list_insert (F.args_list_insert_3 _ _ _) (AutoSeq1.list_insert_list_int_val_1 l its.toArray n i t w (by rw[fit];simp) (by rw[List.size_toArray];omega)) ⟨e,?_⟩
   refine⟨.non,_,I.lset (its':=its.take i.toNat++w::its.drop i.toNat) hH e ?_ ((r.take _).append (.cons r1 (r.drop _))) ?_,rfl,q⟩
   ·show(its.toArray.extract 0 (if i<0 then(i+(its.toArray.size:Int)).toNat else min i.toNat its.toArray.size)).push w++its.toArray.extract (if i<0 then(i+(its.toArray.size:Int)).toNat else min i.toNat its.toArray.size)=_
    rw[if_neg (by omega),List.size_toArray,show min i.toNat its.length=i.toNat by omega]
    apply Array.ext'
    have hh:its.length- (i.toNat)+i.toNat=its.length:=by omega
    simp[List.take_of_length_le]
   ·rw[List.length_append,List.length_cons,List.length_take,List.length_drop];omega
end
def mw:List D->List D->Option (D×List D):=λbs ds=>match ds with
 | [.int i,d]=>if 0<=i/\i<=bs.length/\bs.length<sizeLine then some (.non,bs.take i.toNat++d::bs.drop i.toNat) else none
 |_=>none
theorem jF {K:W.Frag}:wL K om 2 mw:=by
 intro H hid a xs us bs ds bs' d Q h1 h2 h3 h4 h5 h6 q;unfold mw at h6;split at h6
 ·split at h6
  ·rename_i hc
   cases h6
   cases h4 with
   |cons r0 t0=>cases t0 with
    |cons r1 t1=>
     cases t1
     cases r0
     exact⟨a,xs,_,_,rfl,rfl,h1,hc.1,by rw[h3.length];exact hc.2.1,by rw[h3.length];exact hc.2.2,q _ _ (h3.insertIdx r1 _) .non⟩
  ·cases h6
 ·cases h6
abbrev sa:List Value:=[.type "ValueError",.type "Exception",.type "BaseException",.type "object"]
structure ExcC(K:W.Frag)(C:Addr):Prop where
 ga:W.findIn K (.ref C) "__getattribute__"=some (some (.builtin "BaseException.__getattribute__"))
 gt:W.findIn K (.ref C) "__getattr__"=some none
 cl:W.findIn K (.ref C) "__class__"=some (some (.builtin "object.__class__"))
 sp:W.specialIn K (.builtin "object.__class__") "__get__"=some (some (.builtin "getset_descriptor.__get__"))
 tk:W.takesIn K (.builtin "object.__class__")=some true
 mo:W.mroIn K C (.type "object")=some true
 mb:W.mroIn K C (.type "BaseException")=some true
def xj(h B:Heap)(e:Addr)(o0:Obj):Prop:=
 ∃vs T oT ts,h.get? e=some {o0 with data:=.fields vs}/\vs[1]? =some (.ref T)/\B.get? T=none/\T≠e/\h.get? T=some oT/\oT.data=.fields ts/\ts[3]? =some .none
def yD(h:Heap)(e:Addr)(o0:Obj):Prop:= ∃vs,h.get? e=some {o0 with data:=.fields vs}/\vs[1]? =some .none
structure InFl(B:Heap)(l:List Env)(e:Addr)(o0:Obj)(h:Heap):Prop where
 st:B.StaysIn h
 ne:B.get? e=none
 ff:h.FunFrames B l
 tr:xj h B e o0\/yD h e o0
section
variable {M:Model}{A:Around}{E:Value->Shared->Prop}{s:Shared}{B:Heap}{env:Env}{outer:List Env}{L e:Addr}{o0:Obj}
theorem lB {vs:Array Value}{head:Value}{hn:Bool}{Q:Unit->Shared->Prop}(hfr:A.frames=some (env::outer))(hl:s.heap.FunFrames B (env::outer))(hf:env.frame=some L)
 (he:s.heap.get? e=some {o0 with data:=.fields vs}) (hsz:1<vs.size) (hB:B.StaysIn s.heap) (ne:B.get? e=none)
 (h: ∀h',InFl B (env::outer) e o0 h'->xj h' B e o0->s.heap.UpToSlots h'->Q () {s with heap:=h'}):
 wpAny M A (do let a <-frameOf env;let pl <-entryPlaceOf L hn;let b <-EntryCells.newEntry head a .none (rawInt L) .none pl;setField (.ref e) 1 b) (λ_ s'=>wpAny M A (setFlight (.ref e) none) Q E s') E s:=by
 have hne:e∉fK (env::outer):=λhm=>by
  obtain⟨_,o,ho,nf⟩:=hl.mem hm
  rw[he] at ho;cases ho;exact nf vs rfl
 refine wpAny_bind (wpAny_frameOf_fun hfr hl hf λh1 k1=>wpAny_bind (wpAny_entryPlaceOf λpl hp=>?_))
 unfold EntryCells.newEntry newFields;refine wpAny_bind (wpAny_newObj_type ?_ (hp.sizeOk5 _ _ _ _ _))
 have e1:h1.get? e=some {o0 with data:=.fields vs}:=(k1.2.1 e hne).trans he
 generalize hten:([head,.ref L,.none,rawInt L,.none]++(if pl.isEmpty then List.replicate 6 Value.none else pl)).toArray=ten
 have tsz:3<ten.size:=by rw[<-hten];simp only[List.size_toArray,List.length_append,List.length_cons,List.length_nil];omega
 generalize hT:h1.objs.size=T
 have Tn:h1.get? T=none:=by rw[<-hT];exact Heap.get?_none_of_le (Nat.le_refl _)
 have Te:T≠e:=λq=>by rw[q,e1] at Tn;cases Tn
 have e2:(h1.push {cls:=.type "traceback",dict:=none,data:=.fields ten}).get? e=some {o0 with data:=.fields vs}:=Heap.get?_push_of_some _ e1
 have t2:(h1.push {cls:=.type "traceback",dict:=none,data:=.fields ten}).get? T=some {cls:=.type "traceback",dict:=none,data:=.fields ten}:=by rw[<-hT];exact Heap.get?_push_size h1 rfl
 refine wpAny_setField e2 rfl hsz ?_
 have e3:=Heap.get?_update_self (Obj.mapFields (·.setIfInBounds 1 (Value.ref T))) e2 (Obj.isFreed_of_fields rfl)
 have t3:=(Heap.get?_update_other (h1.push {cls:=.type "traceback",dict:=none,data:=.fields ten}) (Obj.mapFields (·.setIfInBounds 1 (Value.ref T))) (Ne.symm Te)).trans t2
 unfold setFlight;refine wpAny_bind (wpAny_field e3 rfl (x:=.ref T) (by simp[hsz]) ?_)
 rw[if_pos (by simp:(Value.ref T !=Value.none)=true)]
 refine wpAny_setField t3 rfl tsz ?_
 have kp: ∀b o,b≠e->h1.get? b=some o->(((h1.push {cls:=.type "traceback",dict:=none,data:=.fields ten}).update e (Obj.mapFields (·.setIfInBounds 1 (Value.ref T)))).update T
  (Obj.mapFields (·.setIfInBounds 3 ((none:Option Addr).elim Value.none λf=>rawInt f)))).get? b=some o:=λb o nb hb=>by
  rw[Heap.get?_update_other _ _ (λq=>by rw[<-q,Tn] at hb;cases hb),Heap.get?_update_other _ _ (Ne.symm nb)]
  exact Heap.get?_push_of_some _ hb
 have nr: ∀b o,s.heap.get? b=some o->(∀vs,o.data≠ .fields vs)->b≠e:=λb o hb nf q=>by
  rw[q,he] at hb;cases hb;exact nf vs rfl
 have B1:B.StaysIn h1:=λb o hb=>(k1.2.1 b λhm=>by rw[(hl.mem hm).1] at hb;cases hb).trans (hB b o hb)
 have TB:B.get? T=none:=by
  cases q:B.get? T with
  |none=>rfl
  |some o=>rw[B1 T o q] at Tn;cases Tn
 have tr:xj (((h1.push {cls:=.type "traceback",dict:=none,data:=.fields ten}).update e (Obj.mapFields (·.setIfInBounds 1 (Value.ref T)))).update T
  (Obj.mapFields (·.setIfInBounds 3 ((none:Option Addr).elim Value.none λf=>rawInt f)))) B e o0:=
  ⟨_,T,_,_,(Heap.get?_update_other _ _ Te).trans e3,by simp[hsz],TB,Te,Heap.get?_update_self _ t3 (Obj.isFreed_of_fields rfl),rfl,by simp[tsz]⟩
 refine h _ ⟨λb o hb=>kp b o (λq=>by rw[q,ne] at hb;cases hb) (B1 b o hb),ne,hl.of_keeps λb o hb nf=>?_,.inl tr⟩ tr λb o hb nf=>?_
 ·obtain⟨sl,q⟩:=k1.2.2 b o hb
  exact⟨_,kp b _ (nr b o hb nf) q,rfl⟩
 ·obtain⟨sl,q⟩:=k1.2.2 b o hb
  exact⟨sl,kp b _ (nr b o hb nf) q⟩
theorem sF {Q:Unit->Shared->Prop}(hfr:A.frames=some (env::outer))(hf:env.frame=some L)(x:InFl B (env::outer) e o0 s.heap)
 (h: ∀h',InFl B (env::outer) e o0 h'->xj h' B e o0->s.heap.UpToSlots h'->Q () {s with heap:=h'}):
 wpAny M A (noteFrame (.ref e) env) (λ_ s'=>wpAny M A (setFlight (.ref e) none) Q E s') E s:=by
 obtain⟨st,ne,ff,tr⟩:=x
 unfold noteFrame;simp only[hf];rcases tr with⟨vs,T,oT,ts,he,h1,TB,Te,hT,hd,h3⟩|⟨vs,he,h1⟩
 ·refine wpAny_bind (wpAny_field he rfl h1 ?_)
  rw[if_pos (by simp:(Value.ref T !=Value.none)=true)]
  refine wpAny_bind (wpAny_field hT hd h3 ?_)
  rw[if_neg (by simp[rawInt]: ¬((Value.none==rawInt L)=true))]
  refine wpAny_bind (wpAny_setField hT hd (Array.getElem?_eq_some_iff.mp h3).1 ?_)
  have ot: ∀b,b≠T->(s.heap.update T (Obj.mapFields (·.setIfInBounds 3 Value.none))).get? b=s.heap.get? b:=λb nb=>Heap.get?_update_other _ _ (Ne.symm nb)
  have nr: ∀b o,s.heap.get? b=some o->(∀vs,o.data≠ .fields vs)->b≠T:=λb o hb nf q=>by
   rw[q,hT] at hb;cases hb;exact nf ts hd
  exact lB hfr (ff.of_keeps λb o hb nf=>⟨o,(ot b (nr b o hb nf)).trans hb,rfl⟩) hf ((ot e (Ne.symm Te)).trans he) (Array.getElem?_eq_some_iff.mp h1).1
   (λb o hb=>(ot b λq=>by rw[q,TB] at hb;cases hb).trans (st b o hb)) ne λh' x1 x2 x3=>h h' x1 x2 λb o hb nf=>x3 b o ((ot b (nr b o hb nf)).trans hb) nf
 ·refine wpAny_bind (wpAny_field he rfl h1 ?_)
  rw[if_neg (by decide)]
  exact lB hfr ff hf he (Array.getElem?_eq_some_iff.mp h1).1 st ne h
theorem qz {Q:Unit->Shared->Prop}(hfr:A.frames=some (env::outer))(hf:env.frame=some L)(x:InFl B (env::outer) e o0 s.heap)
 (h: ∀h',InFl B outer e o0 h'->s.heap.UpToSlots h'->Q () {s with heap:=h'}):wpAny M A (leaving env (.ref e)) Q E s:=by
 unfold leaving;exact wpAny_bind (sF hfr hf x λh' x1 _ x3=>h h' ⟨x1.st,x1.ne,x1.ff.2.2,x1.tr⟩ x3)
end
theorem oo {h base g:Heap}{F:List Addr}: ∀ {l:List Env},h.FunFrames base l->(∀b∈fK l,b∈F)->h.FunFrames (W.hideAll g F) l
 | [],_,_=>trivial
 |env::r,⟨hk,⟨L,o,hf,hn,ho,hd⟩,hr⟩,hF=>by
  refine⟨hk,⟨L,o,hf,W.hideAll_none F (hF L ?_),ho,hd⟩,oo hr λb hb=>hF b ?_⟩
  ·unfold fK;rw[List.filterMap_cons,hf];exact List.mem_cons_self
  ·unfold fK;rw[List.filterMap_cons,hf];exact List.mem_cons_of_mem _ hb
def Away(X:Cx)(aa:List (Addr×Obj))(H:Hp)(F:List Addr):Prop:=(∀b∈fK X.stack,b∈F)/\
 ∀b∈F,b∉fK X.stack->X.s₀.heap.objs.size<=b/\H b=none/\b≠X.env.locals/\(∀x c,X.env.cells.lookup x=some c->c≠b)/\ ∀p∈X.pn++aa,p.1≠b
section
variable {X:Cx}{aa:List (Addr×Obj)}{σ:St}{H:Hp}{s:Shared}{F:List Addr}{h':Heap}
theorem Away.free(w:Away X aa H F)(I:Inv X aa σ H s){b:Addr}(hb:b∈F):H b=none:=by
 by_cases q:b∈fK X.stack
 ·exact I.stkFree b q
 ·exact(w.2 b hb q).2.1
end
def XS(X:Cx)(aa:List (Addr×Obj))(σ:St)(H:Hp)(o0:Obj)(ea:Addr)(s':Shared):Prop:=
 ∃(g:Heap) (F:List Addr),Inv X aa σ H {s' with heap:=g}/\Away X aa H F/\InFl (W.hideAll g F) X.stack ea o0 s'.heap/\g.UpToSlots s'.heap/\g.get? ea=none
def xB(P:Program)(w:World)(G:Addr->Obj->Prop):nV:=λouter H s E e s'=>
 ∃(ea:Addr) (o0:Obj) (C:Addr) (g:Heap) (F:List Addr) (H':Hp),e=.ref ea/\o0.cls=.ref C/\G C o0/\s'.os=s.os/\AllBare s'.gens/\Un (fK outer) [] H H' s.heap g/\HOk P w H' g/\
  InFl (W.hideAll g F) outer ea o0 s'.heap/\g.UpToSlots s'.heap/\(∀b∈fK outer,b∈F)/\(∀b∈F,H' b=none/\(b∉fK outer->s.heap.objs.size<=b))/\g.get? ea=none/\E (.ref C) none H'
theorem tR {X:Cx}{aa:List (Addr×Obj)}{σ:St}{H:Hp}{s s':Shared}{G:Addr->Obj->Prop}{E:XK}{e:Value}(I:Inv X aa σ H s)(h:xB X.prog X.w G X.stack H s E e s'):
 ∃ea o0 C H',e=.ref ea/\o0.cls=.ref C/\G C o0/\XS X aa σ H' o0 ea s'/\E (.ref C) none H':=by
 obtain⟨ea,o0,C,g,F,H',rfl,hc,hG,os,bare,un,hok,fl,up,hF,aw,gn,hE⟩:=h
 have J:Inv X aa σ H' {s' with heap:=g}:=I.call' (s':={s' with heap:=g}) (ch:=[]) os un hok bare λb z=>absurd z (by simp)
 refine⟨ea,o0,C,H',rfl,hc,hG,⟨g,F,J,⟨hF,λb hb nb=>?_⟩,fl,up,gn⟩,hE⟩
 have sz:=(aw b hb).2 nb
 have lt: ∀ {c o},s.heap.get? c=some o->c≠b:=λ{c o} q z=>by subst z;exact absurd (Heap.lt_size q) (Nat.not_lt.mpr sz)
 refine⟨Nat.le_trans I.sz sz,(aw b hb).1,λz=>?_,λx c q=>?_,λp hp=>?_⟩
 ·have:=I.lt
  rw[<-z] at this;exact absurd this (Nat.not_lt.mpr sz)
 ·obtain⟨v,o,ho,_⟩:=I.cell x c q
  exact lt ho
 ·exact lt (I.pin p hp).1
theorem qa {CX:nV}{P:Program}{w:World}{K:W.Frag}{mg:Str->Option Value}{base:Heap}{N:List Str}{qual:Str}{scope:Scope}{f:Addr}{cd:Value}{A:Around}{outer:List Env}{s:Shared}{H:Hp}{E:XK}{G:Addr->Obj->Prop}
 {aa:List (Addr×Obj)} {σ:St} {H':Hp} {o0:Obj} {ea C:Addr} {s':Shared} (x:XS (hV CX P w K mg base N qual scope f cd A outer s H E) aa σ H' o0 ea s') (hc:o0.cls=.ref C) (hG:G C o0) (hE:E (.ref C) none H') {Q:Unit->Shared->Prop} {E':Value->Shared->Prop}
 (q: ∀s'',xB P w G outer H s E (.ref ea) s''->Q () s''):wpAny (model P w) (A.deeper (envOfC qual scope s.heap.objs.size f cd)) (leaving (envOfC qual scope s.heap.objs.size f cd) (.ref ea)) Q E' s':=by
 obtain⟨g,F,I,aw,fl,up,gn⟩:=x
 refine qz (L:=s.heap.objs.size) I.ok.frames rfl fl λh' fl' up'=>q _ ?_
 have L:(hV CX P w K mg base N qual scope f cd A outer s H E).stack=envOfC qual scope s.heap.objs.size f cd::outer:=rfl
 have sub: ∀b∈fK outer,b∈fK (envOfC qual scope s.heap.objs.size f cd::outer):=λb hb=>by
  unfold fK;rw[List.filterMap_cons];exact List.mem_cons_of_mem _ hb
 refine⟨ea,o0,C,g,F,H',rfl,hc,hG,I.os,I.bare,I.base,I.hok,fl',up.trans up',λb hb=>aw.1 b (sub b hb),λb hb=>⟨aw.free I hb,λnb=>?_⟩,gn,hE⟩
 by_cases z:b∈fK (envOfC qual scope s.heap.objs.size f cd::outer)
 ·have:b=s.heap.objs.size\/b∈fK outer:=by
   unfold fK at z;rw[List.filterMap_cons] at z;exact List.mem_cons.mp z
  rcases this with rfl|q
  ·exact Nat.le_refl _
  ·exact absurd q nb
 ·exact(aw.2 b hb z).1
structure Ex where
 x:Str
 n:Int
abbrev ug(K:W.Frag)(z:Ex)(C:Addr):Prop:=W.nsIn K mainGlobals z.x=some (some (.ref C))
def G0:Addr->Obj->Prop:=λ_ o0=>o0.dict=none
abbrev xg(P:Program)(w:World):nV:=xB P w G0
def EX(X:Cx)(σ:St):XK:=λv _ H'=> ∀aa ea o0 s',o0.cls=v->o0.dict=none->XS X aa σ H' o0 ea s'->X.xe (.ref ea) s'
section
variable {X:Cx}{c:Ct}{e a b:Expr}{es rest:List Expr}{k:Kd}{pos p:Pos}{x:Str}{f:Addr}{fd:FuncData}{ps:List Str}{j n:Nat}
def vW(K:W.Frag)(k:Kd)(n:Nat)(P:List D->Option (Except Ex D)):Sp:=λvs H Q E=> ∃hid ds,vY hid H/\Reps K (vw H hid) vs ds/\ds.length=n/\ ∃r,P ds=some r/\match r with
 | .ok d=> ∀v H',Same H H'->RK K k H H' hid v d->Q v H'
 | .error z=> ∀C H',Same H H'->ug K z C->E (.ref C) none H'
structure ClX(P:Program)(w:World)(K:W.Frag)(mg:Str->Option Value)(base:Heap)(k:Nat)(x:Str)(ps:List Str)(sp:Sp):Prop where
 ex: ∃f fd,FnOk P w K mg base (xg P w) k f fd ps sp/\mg x=some (.ref f)/\W.keepIn K (.ref f)=true/\Binds K fd ps []
theorem tY {sp:Sp}{aa:List (Addr×Obj)}{σ:St}{H:Hp}{s:Shared}{Q:VK}{us:List Value}{vs:List V}(F:FnOk X.prog X.w X.K X.mg X.base (xg X.prog X.w) j f fd ps sp)(hr:Room j X.A)(hb:Binds X.K fd ps [])
 (I:Inv X aa σ H s) (r:Vals vs us) (h:sp vs H Q (EX X σ)):wpAny (model X.prog X.w) X.A (call (.ref f) us) (EP X aa σ Q) X.xe s:=by
 have hl:(us++[]).length=ps.length:=by rw[List.append_nil,<-r.length];exact F.len _ _ _ _ h
 have hb':=hb s us I.kIn hl
 rw[List.append_nil] at hb';refine wpAny_call (codeAny_mono (F.run X.A X.stack s H ⟨us,[]⟩ us vs Q (EX X σ) hr I.env0 hb' r h) λr s' hq=>?_)
 cases r with
 |error e=>
  obtain⟨ea,o0,C,H',rfl,hc,hG,xs,hE⟩:=tR I hq
  exact hE aa ea o0 s' hc hG xs
 |ok fl=>
  cases fl with
  |ret u=>exact I.after hq
  |next=>exact False.elim hq
  |brk=>exact False.elim hq
  |cont=>exact False.elim hq
theorem qW {sp:Sp}{t:TA}(F:FnOk X.prog X.w X.K X.mg X.base (xg X.prog X.w) j f fd ps sp)(hr:Room j X.A)(hg:Gl X x)(hm:X.mg x=some (.ref f))(hk:W.keepIn X.K (.ref f)=true)(hb:Binds X.K fd ps [])
 (ha:PA X (e::es) t) (hdb:(x==("__debug__":Str))=false:=by decide) (he:starEach (e::es) X.env=(false,eval e X.env)::starEach es X.env:=by rfl) (hpl:(backTo pos (starEach es X.env)).any (·.1)=false:=by rfl):
 PE X (.Call (.Name x p) (e::es) [] pos) (λσ H Q=>t σ H λvs H1=>sp vs H1 Q (EX X σ)):=by
 intro aa s σ H Q I h;refine wpAny_Call_Name_kw (iD I hg hm ?_ hdb)
 refine W.callWith_K (h₀:=X.base) I.ok.mod.kin hk (bY (ha pos aa s σ H _ I h) λus s1 ⟨vs,H1,I1,r,q⟩=>⟨I1.kIn,?_⟩) he hpl
 exact tY F hr hb I1 r q
end
abbrev OX:=Except (Ex×ax) Out
abbrev FX:=ax->OX
def EndX(X:Cx)(c:Ct)(k:Kd)(D:Ends)(W:Hp):OX->Prop
 | .ok o=>EndOk X.K c k D W o
 | .error z=> ∀σ' H' hid' C,SR X.K c hid' z.2 σ' H'->Same W (vw H' hid')->ug X.K z.1 C->EX X σ' (.ref C) none H'
theorem EndX.mono {X:Cx}{c:Ct}{k:Kd}{D:Ends}{W W':Hp}{o:OX}(h:EndX X c k D W o)(s:Same W W'):EndX X c k D W' o:=by
 cases o with
 |ok o=>exact EndOk.mono h s
 |error z=>exact λσ' H' hid' C a b=>h σ' H' hid' C a (s.trans b)
def vZ(X:Cx)(c:Ct)(k:Kd)(t:FX)(ρ:ax):TS:=λD σ H=> ∃hid,SR X.K c hid ρ σ H/\EndX X c k D (vw H hid) (t ρ)
def wa(X:Cx)(c:Ct)(k:Kd)(st:Stmt)(t:FX):Prop:= ∀ρ,PS X st (vZ X c k t ρ)
def lH(X:Cx)(c:Ct)(k:Kd)(st:List Stmt)(t:FX):Prop:= ∀ρ,PSs X st (vZ X c k t ρ)
section
variable {X:Cx}{c:Ct}{k:Kd}{st:Stmt}{sts rest:List Stmt}{t u:FX}{e:Expr}{pos pos' p:Pos}{x:Str}{i:Nat}
theorem PS.nox {t:TS}(h:PS X.nox st t):PS X st t:=λaa s σ H D I hw=>
 wpAny_mono (h aa s σ H D (I.wish _) hw) (λ_ _ q=>q.unwish) λ_ _ z=>False.elim z
def jh(t:FS):FX:=λρ=>.ok (t ρ)
theorem me {t:FS}(h:DS X.nox c k st t):wa X c k st (jh t):=λρ=>PS.nox (h ρ)
theorem jG {t:FS}(h:oJ X.nox c k sts t):lH X c k sts (jh t):=λρ=>PSs.nox (h ρ)
def fJ(t u:FX):FX:=λρ=>match t ρ with
 | .ok (.nx ρ')=>u ρ'
 | .ok o=>.ok o
 | .error z=>.error z
theorem i7(h:wa X c k st t):lH X c k [st] t:=λρ=>n9 (h ρ)
theorem eF(h1:wa X c k st t)(h2:lH X c k rest u):lH X c k (st::rest) (fJ t u):=λρ=>
 PSs.imp (lm (h1 ρ) (nW λρ1=>h2 ρ1)) λD σ H hq_=>by
  obtain⟨hid,sr,q⟩:=hq_
  refine⟨hid,sr,?_⟩
  unfold fJ at q;cases e:t ρ with
  |error z=>rw[e] at q;exact q
  |ok o=>
   rw[e] at q;cases o with
   |nx ρ1=>exact λσ1 H1 hid1 sr1 v1=>⟨ρ1,hid1,sr1,EndX.mono q v1⟩
   |rt d ρ1=>exact q
   |bk ρ1=>exact q
   |ct ρ1=>exact q
   |no=>exact q
def nN(p:FT)(t u:FX):FX:=λρ=>match p ρ with
 |some true=>t ρ
 |some false=>u ρ
 |none=>.ok .no
theorem mL {p:FT}{a b:List Stmt}(hp:DT X c e p)(ha:lH X c k a t)(hb:lH X c k b u):wa X c k (.If e a b pos) (nN p t u):=λρ=>
 PS.imp (uo (vU λhid=>hp hid ρ) (ha ρ) (hb ρ)) λD σ H hq_=>by
  obtain⟨hid,sr,q⟩:=hq_
  cases e1:p ρ with
  |none=>unfold nN at q;rw[e1] at q;exact q.elim
  |some x=>
   refine⟨hid,sr,x,e1,λH1 s1=>?_⟩
   unfold nN at q;rw[e1] at q;cases x with
   |true=>exact mM ⟨hid,sr.ext s1,EndX.mono q (aH s1)⟩
   |false=>exact m8 ⟨hid,sr.ext s1,EndX.mono q (aH s1)⟩
theorem iO:lH X c k [] (jh skip):=λρ=>PSs.imp oa λD σ H ⟨hid,sr,q⟩=>q σ H hid sr (Same.refl _)
theorem DT.nox {p:FT}(h:DT X.nox c e p):DT X c e p:=λhid ρ=>PT.nox (h hid ρ)
end
theorem tj {K:W.Frag}{h:Heap}{C:Addr}{bmB:List Value}{newId:String}(KI:K.In h)(q:W.excIn K C bmB newId=true): ∃bm N nm qn bs hdct sn sub ab col dd k0 k1 k2 k3 k5 mN,
 h.get? C=some (excClassObj nm qn C N bs bm hdct sn sub ab col dd k0 k1 k2 k3 k5 newId)/\h.Ns N mN/\mN "__init__"=none/\OwnTail h bmB bm:=by
 unfold W.excIn at q;split at q
 ·rename_i dd cd sl ho
  split at q
  ·rename_i C' bm k0 k1 k2 k3 n k5 hm hs
   simp only[Bool.and_eq_true,beq_iff_eq,Bool.not_eq_true'] at q;obtain⟨⟨⟨⟨⟨rfl,rfl⟩,fu⟩,ht⟩,hok⟩,hni⟩:=q
   obtain⟨nm,bs,mro,ns,qn,hd,sn,sub,ab,col,del⟩:=cd
   dsimp only at hm fu hok hni;subst hm fu;obtain⟨l⟩:=sl
   simp only at hs;subst hs;exact⟨bm,ns,nm,qn,bs,hd,sn,sub,ab,col,dd,k0,k1,k2,k3,k5,_,KI _ _ ho,.of_isNs (W.isNs_of_in KI hok),W.nsMap_none_of_in KI hok hni,W.tail_of_in KI ht⟩
  ·cases q
 ·cases q
section
variable {X:Cx}{c:Ct}{k:Kd}{e:Expr}{es:List Expr}{pos np cpos:Pos}{x:Str}{C:Addr}
theorem sO {aa:List (Addr×Obj)}{σ:St}{H:Hp}{s:Shared}{h':Heap}{ea:Addr}{vs:List Value}(I:Inv X aa σ H s)(m:Heap.MadeExcOf s.heap h' ea (.ref C) vs):
 XS X aa σ H {cls:=.ref C,data:=.plain} ea {s with heap:=h'}:=by
 obtain⟨t,he,htn,ht⟩:=m.there
 refine⟨s.heap,fK X.stack,I,⟨λ_ q=>q,λb hb nb=>absurd hb nb⟩,⟨λb o q=>m.keeps b o (W.of_hideAll _ q),?_,oo (I.stack.of_keeps λb o q _=>⟨o,m.keeps b o q,rfl⟩) λ_ q=>q,.inr ⟨_,he,rfl⟩⟩,.of_keeps m.keeps,m.new⟩
 cases q:(W.hideAll s.heap (fK X.stack)).get? ea with
 |none=>rfl
 |some o=>have:=W.of_hideAll _ q;rw[m.new] at this;cases this
def lE(z:Ex)(fs:FA):FX:=λρ=>match fs ρ with
 |some ds=>if ds.length<=20 then .error (z,ρ) else .ok .no
 |none=>.ok .no
theorem gS {n:Int}{fs:FA}(hm:X.mg x=some (.ref C))(hN:W.nsIn X.K mainGlobals x=some (some (.ref C)))(ho:W.excIn X.K C sa "ValueError.__new__"=true)(hd:X.A.handled=none)(ha:DA X c (e::es) fs)(hg:Gl X x:=by rfl)(hdb:(x==("__debug__":Str))=false:=by decide)
 (he:starEach (e::es) X.env=(false,eval e X.env)::starEach es X.env:=by rfl) (hpl:(backTo cpos (starEach es X.env)).any (·.1)=false:=by rfl):
 wa X c k (.Raise (some (.Call (.Name x np) (e::es) [] cpos)) none pos) (lE ⟨x,n⟩ fs):=λρ aa s σ H D I hq_=>by
 obtain⟨hid,sr,q⟩:=hq_
 unfold lE at q;cases e1:fs ρ with
 |none=>rw[e1] at q;exact q.elim
 |some ds=>
  rw[e1] at q;dsimp only at q
  by_cases hl:ds.length<=20
  ·rw[if_pos hl] at q
   obtain⟨bm,N,nm,qn,bs,hdct,sn,sub,ab,col,dd,k0,k1,k2,k3,k5,mN,hC,hNs,hni,T⟩:=tj I.mod.kin ho
   refine wpAny_Raise_call_subT (C:=C) (nm:=nm) (q:=qn) (N:=N) (bs:=bs) (bm:=bm) (hdct:=hdct) (sn:=sn) (sub:=sub) (ab:=ab) (col:=col) (dd:=dd) (k0:=k0) (k1:=k1) (k2:=k2) (k3:=k3) (k5:=k5)
    F.excBase_ValueError (mN:=mN) (T.hasType F.excBase_ValueError.hasBase) hd (by rw[he];show(false||(backTo cpos (starEach es X.env)).any (·.1))=false;rw[hpl];rfl) hni (iD I hg hm ⟨rfl,?_⟩ hdb)
   have P:=ha hid ρ cpos aa s σ H (λvs H'=>Same H H'/\Reps X.K (vw H' hid) vs ds) I ⟨sr,ds,e1,λvs H' a b=>⟨a,b⟩⟩
   rw[he] at P⊢;refine Calls.evalArgs_plain (wpAny_mono P (λus s1 ⟨vs,H1,I1,r,sm,rp⟩=>⟨rfl,?_,I1.bk _ _ hC,hNs.keeps I1.bk,T.keeps I1.bk,λh' ea m=>?_⟩) λ_ _ y=>y)
   ·show us.length<=sizeLine
    rw[<-r.length,rp.length];exact Nat.le_trans hl (by decide)
   ·exact q σ H1 hid C (sr.ext sm) (aH sm) hN aa ea _ _ rfl rfl (sO I1 m)
  ·rw[if_neg hl] at q;exact q.elim
end
section
variable {X:Cx}
def yw(neg:Bool):R2:=λx y H Q=>(y=.non\/ ∃b,y=.bl b)/\Q (.bl (if neg then !decide (x=y) else decide (x=y))) H
theorem wV:fR X (compareOp .Is) (yw false):=by
 intro aa s σ H x y v u Q I rx ry h;obtain⟨hy,q⟩:=h
 have key: ∀b:Bool,b=decide (x=y)->EP X aa σ Q (.bool b) s:=λb e=>⟨.bl b,H,I,rfl,by rw[e];exact q⟩
 rcases hy with rfl|⟨b,rfl⟩
 ·cases ry
  exact is_none_gen (key _ rx.none_iff)
 ·cases ry
  cases x with
  |non=>cases rx;exact wpAny_pure (key _ (by simp))
  |bl c=>cases rx;exact wpAny_pure (key _ (by rw[Bool.eq_iff_iff];simp))
  |int _=>obtain⟨t,rfl⟩:=rx;exact wpAny_pure (key _ (by simp))
  |str _=>obtain⟨t,rfl⟩:=rx;exact wpAny_pure (key _ (by simp))
  |byt _=>obtain⟨t,rfl⟩:=rx;exact wpAny_pure (key _ (by simp))
  |flt _=>obtain⟨t,rfl⟩:=rx;exact wpAny_pure (key _ (by simp))
  |ref _=>cases rx;exact wpAny_pure (key _ (by simp))
  |ty _=>cases rx;exact wpAny_pure (key _ (by simp))
end
def lT:D->D->Bool
 | .non,.non=>true
 | .bl a,.bl b=>a==b
 |_,_=>false
def xi(neg:Bool):D->D->Option D:=λx y=>match y with
 | .non=>some (.bl (if neg then !lT x y else lT x y))
 | .bl _=>some (.bl (if neg then !lT x y else lT x y))
 |_=>none
theorem wW {K:W.Frag}(neg:Bool):im K .s (yw neg) (xi neg):=by
 intro H hid v u x y d Q hf h r1 r2 q;have key: ∀ {w:V},Rep1 K H (vw H hid) u y->(u=.non\/ ∃b,u=.bl b)->decide (v=u)=lT x y:=λ{w} _ hu=>by
  cases x with
  |non=>cases r1.non;rcases hu with rfl|⟨b,rfl⟩<;>cases y<;>first|rfl|(cases r2.non;done)|(cases r2.bl;done)|(cases r2.bl;rfl)|(cases r2.int;done)|(cases r2.str;done)|(obtain⟨a,xs,e,_⟩:=r2.tup;cases e;done)|(obtain⟨a,xs,e,_⟩:=r2.lst;cases e;done)|(obtain⟨a,xs,e,_⟩:=r2.scr;cases e;done)
  |bl c=>cases r1.bl;rcases hu with rfl|⟨b,rfl⟩<;>cases y<;>first|rfl|(cases r2.non;done)|(cases r2.bl;show decide (V.bl c=V.bl _)=(c==_);rw[Bool.eq_iff_iff];simp;done)|(cases r2.bl;done)|(cases r2.int;done)|(cases r2.str;done)|(obtain⟨a,xs,e,_⟩:=r2.tup;cases e;done)|(obtain⟨a,xs,e,_⟩:=r2.lst;cases e;done)|(obtain⟨a,xs,e,_⟩:=r2.scr;cases e;done)
  |int i=>cases r1.int;rcases hu with rfl|⟨b,rfl⟩<;>cases y<;>rfl
  |str z=>cases r1.str;rcases hu with rfl|⟨b,rfl⟩<;>cases y<;>rfl
  |tup ds=>obtain⟨a,xs,rfl,_⟩:=r1.tup;rcases hu with rfl|⟨b,rfl⟩<;>cases y<;>rfl
  |lst ds=>obtain⟨a,xs,rfl,_⟩:=r1.lst;rcases hu with rfl|⟨b,rfl⟩<;>cases y<;>rfl
  |scr ds=>obtain⟨a,xs,rfl,_⟩:=r1.scr;rcases hu with rfl|⟨b,rfl⟩<;>cases y<;>rfl
 unfold xi at h;split at h
 ·have hu:u=.non:=r2.non
  cases h
  refine⟨.inl hu,?_⟩
  rw[key (w:=v) r2 (.inl hu)];exact q _ H (Same.refl _) .bl
 ·have hu:=r2.bl
  cases h
  refine⟨.inr ⟨_,hu⟩,?_⟩
  rw[key (w:=v) r2 (.inr ⟨_,hu⟩)];exact q _ H (Same.refl _) .bl
 ·cases h
def rU(kd:Kd)(n:Nat)(t:FX)(ds:List D):Option (Except Ex D):=match t (dN n ds) with
 | .ok (.rt d _)=>some (.ok d)
 | .ok (.nx _)=>(match kd with
   | .n=>none
   |_=>some (.ok .non))
 | .ok _=>none
 | .error z=>some (.error z.1)
section
variable {P:Program}{w:World}{K:W.Frag}{mg:Str->Option Value}{base:Heap}{x:Str}{st:Stmt}{N ps:List Str}{k n:Nat}{kd:Kd}
theorem mx {t:FX}(F:Df K mg x st ps)(S:FnScope N ps (am st))(hkd:kd≠ .b)(hn:ps.length=n)
 (body: ∀(f:Addr) (cdv:Value) (A:Around) (outer:List Env) (s:Shared) (H:Hp) (hid:bv) (E:XK),Room k (A.deeper (envOfC x (am st) s.heap.objs.size f cdv))->
   lH (hV (xg P w) P w K mg base N x (am st) f cdv A outer s H E) ⟨H,hid,λ_=>false⟩ kd (aJ st) t):
 ClX P w K mg base (k+1) x ps (vW K kd n (rU kd N.length t)):=by
 obtain⟨f,fd,F,hm,hb⟩:=F.ex
 subst hn;refine⟨f,fd,?_,hm,F.kp,hb⟩
 obtain⟨oc,od,kV,doc,pm,an,cdv,ct,osl,rfl,lk,hcd⟩:=F.ex
 refine t9 lk hcd S (λvs H Q E h=>?_) λA outer s H vs Q E hr h=>?_
 ·obtain⟨hid,ds,_,r,hl,_⟩:=h
  rw[r.length,hl]
 ·obtain⟨hid,ds,tr,r,hl,r0,hP,q⟩:=h
  refine⟨_,body f cdv A outer s H hid E hr (dN N.length ds),hid,SR.begins tr r,?_⟩
  unfold rU at hP;cases e:t (dN N.length ds) with
  |error z=>
   rw[e] at hP;cases hP
   intro σ' H' hid' C sr _ hn aa ea o0 s' hc hd xs;have sm:Same H H':=λb o z=>sr.kp b o z rfl
   exact qa xs hc hd (q C H' sm hn) λs'' h=>h
  |ok o=>
   rw[e] at hP;cases o with
   |nx ρ=>
    intro σ' H' hid' sr _;have sm:Same H H':=λb o z=>sr.kp b o z rfl
    cases kd with
    |b=>exact absurd rfl hkd
    |s=>cases hP;exact q _ H' sm .non
    |n=>cases hP
   |rt d' ρ=>
    cases hP
    intro v H' R;have sm:Same H H':=λb o z=>R.kp b o z rfl
    cases kd with
    |b=>exact absurd rfl hkd
    |s=>exact q v H' sm R.val
    |n=>exact q v H' sm R.val
   |bk ρ=>cases hP
   |ct ρ=>cases hP
   |no=>cases hP
end
structure ExRow(K:W.Frag)(mg:Str->Option Value)(CR:Addr)(x:Str)(C:Addr):Prop where
 mg:mg x=some (.ref C)
 ns:W.nsIn K mainGlobals x=some (some (.ref C))
 cc:ExcC K C
 ty:W.typeIn K (.ref C)=some (.type "type")
 mr: ∃cd,W.clsIn K C=some cd/\cd.mro=(if C=CR then .ref CR::sa else .ref C:: .ref CR::sa)
structure ExTab(K:W.Frag)(mg:Str->Option Value)(CR:Addr)(tbl:List (Str×Addr)):Prop where
 row: ∀p∈tbl,ExRow K mg CR p.1 p.2
 root:(("RookError":Str),CR)∈tbl
 nd:(tbl.map (·.2)).Nodup
section
variable {X:Cx}{aa pins':List (Addr×Obj)}{σ:St}{H:Hp}{s:Shared}{E:Value->Shared->Prop}{v:Option Value}{a:Addr}
theorem ObjOk.there {P:Program}{w:World}{h:Heap}{o:HO}(x:ObjOk P w H h a o): ∃u,h.get? a=some u:=by
 induction o with
 |lst xs=>obtain⟨_,_,_,_,e⟩:=x;exact⟨_,e⟩
 |tup xs=>obtain⟨_,_,_,⟨_,e,_⟩,_⟩:=x;exact⟨_,e⟩
 |dK kvs=>obtain⟨_,_,_,_,o,_,_,e,_⟩:=x;exact⟨_,e⟩
 |dT kvs=>obtain⟨_,_,_,_,o,_,_,e,_⟩:=x;exact⟨_,e⟩
 |set S n=>obtain⟨o,_,_,_,e,_⟩:=x;exact⟨_,e⟩
 |tst xs=>obtain⟨o,_,_,_,e,_⟩:=x;exact⟨_,e⟩
 |ins C dx fs=>obtain⟨_,_,_,e,_⟩:=x;exact⟨_,e⟩
 |own y=>obtain⟨_,e⟩:=x;exact⟨_,e⟩
 |xd fs=>obtain⟨_,⟨_,_,_,e,_⟩,_⟩:=x;exact⟨_,e⟩
 |rng lo hi=>obtain⟨_,_,_,e⟩:=x;exact⟨_,e⟩
 |frz ob u ih=>obtain⟨e,_⟩:=x;exact⟨_,e⟩
 |nst p u ih=>exact ih x
 |tbl ps=>exact⟨_,show h.get? a=some _ from x⟩
 |met f y=>exact⟨_,show h.get? a=some _ from x⟩
 |ext φ=>obtain⟨_,⟨_,e⟩,_⟩:=x;exact⟨_,e⟩
end
theorem DA.nox {X:Cx}{c:Ct}{es:List Expr}{f:FA}(h:DA X.nox c es f):DA X c es f:=λhid ρ p aa s σ H Q I hw=>
 wpAny_mono (h hid ρ p aa s σ H Q (I.wish _) hw) (λ_ _ ⟨v,H',I',r,q⟩=>⟨v,H',I'.unwish,r,q⟩) λ_ _ z=>False.elim z
theorem qP {X:Cx}{c:Ct}{x:Str}{n:Int}{pos:Pos}(h: ∃tk,X.mg x=some (.int n tk))(hg:Gl X x:=by rfl)(hd:(x==("__debug__":Str))=false:=by decide):DP X c .s (.Name x pos) (aq (.int n)):=λhid ρ=>by
 obtain⟨tk,hm⟩:=h
 exact PE.imp (sJ (v:=.int n) hg hm ⟨tk,rfl⟩ hd) λσ H Q ⟨sr,d,hd,q⟩=>by cases hd;exact q _ H (Same.refl _) .int
theorem qf {α:Type}{P:α->Prop}: ∀q∈([]:List α),P q:=λ_ h=>nomatch h
theorem h8 {α:Type}{P:α->Prop}{r:List α}{a:α}(h:P a)(hr: ∀q∈r,P q): ∀q∈a::r,P q:=λq hq=>(List.mem_cons.mp hq).elim (λe=>by rw[e];exact h) (hr q)
section
variable {X:Cx}{c:Ct}{e:Expr}{es:List Expr}{k:Kd}{pos p:Pos}{x:Str}{ps:List Str}{j n:Nat}
def u4(P:List D->Option (Except Ex D)):List D->Option D:=λds=>match P ds with
 |some (.ok d)=>some d
 |_=>none
theorem qB {P:List D->Option (Except Ex D)}{fs:FA}(F:ClX X.prog X.w X.K X.mg X.base j x ps (vW X.K k n P))(hr:Room j X.A)(ha:DA X c (e::es) fs)
 (hg:Gl X x:=by rfl) (hdb:(x==("__debug__":Str))=false:=by decide) (he:starEach (e::es) X.env=(false,eval e X.env)::starEach es X.env:=by rfl) (hpl:(backTo pos (starEach es X.env)).any (·.1)=false:=by rfl):
 DP X c k (.Call (.Name x p) (e::es) [] pos) (aj (nF n (u4 P)) fs):=λhid ρ=>by
 obtain⟨f,fd,F,hm,hk,hb⟩:=F.ex
 refine PE.imp (qW F hr hg hm hk hb (ha hid ρ) hdb he hpl) λσ H Q hq_=>?_
 obtain⟨sr,d,hd,q⟩:=hq_
 obtain⟨ds,e1,e2⟩:=fT hd
 unfold nF at e2;split at e2
 ·unfold u4 at e2
  split at e2
  ·rename_i e3
   cases e2
   exact⟨sr,ds,e1,λvs H1 s1 r1=>⟨hid,ds,(sr.ext s1).trk,r1, ‹_›,_,e3,λv H' s2 r2=>q v H' (s1.trans s2) (RK.left s1 r2)⟩⟩
  ·cases e2
 ·cases e2
def fj(f:FE):FA:=λρ=>(f ρ).bind λd=>match d with
 | .lst ds=>some ds
 | .tup ds=>some ds
 |_=>none
theorem gA {tg iter:Expr}{f:FE}(h:DP X c .s iter f):DIp X c tg iter (fj f):=λhid ρ aa s σ H R I hq_=>by
 obtain⟨sr,ds,e1,q⟩:=hq_
 unfold fj at e1;cases e2:f ρ with
 |none=>rw[e2] at e1;cases e1
 |some d=>
  rw[e2,Option.bind_some] at e1;cases d with
  |lst xs=>cases e1;exact qA h hid ρ aa s σ H R I ⟨sr,ds,by unfold tQ;rw[e2];rfl,q⟩
  |tup xs=>cases e1;exact tW h hid ρ aa s σ H R I ⟨sr,ds,by unfold sY;rw[e2];rfl,q⟩
  |_=>cases e1
end
theorem qR {a b:Addr}{l:List Addr}(h:(a::l).Nodup)(hb:b∈l): ¬b=a:=λe=>(List.nodup_cons.mp h).1 (e▸hb)
@[elab_as_elim] theorem ar0 {motive:List Value->Prop} (us:List Value) (hl:us.length=0) (h:motive []):motive us:=by
 cases us with
 |nil=>exact h
 |cons a r=>exact absurd hl (Nat.succ_ne_zero _)
@[elab_as_elim] theorem ar1 {motive:List Value->Prop} (us:List Value) (hl:us.length=1) (h: ∀a0,motive [a0]):motive us:=by
 cases us with
 |nil=>exact absurd hl (by decide)
 |cons a0 r=>exact ar0 (motive:=λr=>motive (a0::r)) r (Nat.succ.inj hl) (h a0)
@[elab_as_elim] theorem ar2 {motive:List Value->Prop} (us:List Value) (hl:us.length=2) (h: ∀a0 a1,motive [a0,a1]):motive us:=by
 cases us with
 |nil=>exact absurd hl (by decide)
 |cons a0 r=>exact ar1 (motive:=λr=>motive (a0::r)) r (Nat.succ.inj hl) (h a0)
@[elab_as_elim] theorem ar3 {motive:List Value->Prop} (us:List Value) (hl:us.length=3) (h: ∀a0 a1 a2,motive [a0,a1,a2]):motive us:=by
 cases us with
 |nil=>exact absurd hl (by decide)
 |cons a0 r=>exact ar2 (motive:=λr=>motive (a0::r)) r (Nat.succ.inj hl) (h a0)
@[elab_as_elim] theorem ar4 {motive:List Value->Prop} (us:List Value) (hl:us.length=4) (h: ∀a0 a1 a2 a3,motive [a0,a1,a2,a3]):motive us:=by
 cases us with
 |nil=>exact absurd hl (by decide)
 |cons a0 r=>exact ar3 (motive:=λr=>motive (a0::r)) r (Nat.succ.inj hl) (h a0)
@[elab_as_elim] theorem ar5 {motive:List Value->Prop} (us:List Value) (hl:us.length=5) (h: ∀a0 a1 a2 a3 a4,motive [a0,a1,a2,a3,a4]):motive us:=by
 cases us with
 |nil=>exact absurd hl (by decide)
 |cons a0 r=>exact ar4 (motive:=λr=>motive (a0::r)) r (Nat.succ.inj hl) (h a0)
@[elab_as_elim] theorem ar6 {motive:List Value->Prop} (us:List Value) (hl:us.length=6) (h: ∀a0 a1 a2 a3 a4 a5,motive [a0,a1,a2,a3,a4,a5]):motive us:=by
 cases us with
 |nil=>exact absurd hl (by decide)
 |cons a0 r=>exact ar5 (motive:=λr=>motive (a0::r)) r (Nat.succ.inj hl) (h a0)
section
variable {κ:Type} [DecidableEq κ]
def gk(kvs:List (κ×V))(k:κ):Option V:=(kvs.find? λkv=>decide (kv.1=k)).map (·.2)
def gE(kvs:List (κ×V))(k:κ)(v:V):List (κ×V):=
 if(kvs.any λkv=>decide (kv.1=k))=true then kvs.map (λkv=>if kv.1=k then(kv.1,v) else kv) else kvs++[(k,v)]
theorem gy {p:κ×V}{r:List (κ×V)}{k:κ}(e:p.1=k):gk (p::r) k=some p.2:=by simp[gk,List.find?_cons,e]
theorem gH {p:κ×V}{r:List (κ×V)}{k:κ}(e: ¬p.1=k):gk (p::r) k=gk r k:=by simp[gk,List.find?_cons,e]
theorem lP(k:κ): ∀kvs:List (κ×V),(kvs.any λkv=>decide (kv.1=k))=(gk kvs k).isSome
 | []=>rfl
 |p::r=>by
  rw[List.any_cons]
  by_cases e:p.1=k
  ·simp only[gy e,decide_eq_true e,Bool.true_or,Option.isSome_some]
  ·rw[gH e,decide_eq_false e,Bool.false_or];exact lP k r
theorem h9(kvs:List (κ×V))(k:κ)(v:V):(gE kvs k v).length<=kvs.length+1:=by
 unfold gE;split
 ·rw[List.length_map];omega
 ·rw[List.length_append,List.length_cons,List.length_nil];omega
theorem RelO.isSome_eq {o:Option V}{u:Option Value}(r:RelO o u):o.isSome=u.isSome:=by
 cases o with
 |none=>cases u with
  |none=>rfl
  |some _=>exact(show False from r).elim
 |some _=>cases u with
  |none=>exact(show False from r).elim
  |some _=>rfl
theorem KV.val {kvs:List (κ×V)}{vs:List (κ×Value)}(r:KV kvs vs)(k:κ):RelO (gk kvs k) (valueAt vs k):=by
 unfold KV at r
 induction r with
 |nil=>exact True.intro
 | @cons p q ps qs h t ih=>
   obtain⟨h1,h2⟩:=h
   by_cases e:p.1=k
   ·have e':q.1=k:=h1.symm.trans e
    have b:valueAt (q::qs) k=some q.2:=by simp[valueAt,List.find?_cons,e']
    rw[gy e,b];exact h2
   ·have e': ¬q.1=k:=λz=>e (h1.trans z)
    have b:valueAt (q::qs) k=valueAt qs k:=by simp[valueAt,List.find?_cons,e']
    rw[gH e,b];exact ih
theorem KV.any {kvs:List (κ×V)}{vs:List (κ×Value)}(r:KV kvs vs)(k:κ):(kvs.any λkv=>decide (kv.1=k))=vs.any λkv=>decide (kv.1=k):=by
 unfold KV at r
 induction r with
 |nil=>rfl
 |cons h t ih=>rw[List.any_cons,List.any_cons,ih,h.1]
theorem KV.repl {kvs:List (κ×V)}{vs:List (κ×Value)}(r:KV kvs vs)(k:κ){y:V}{u:Value}(ry:RelV y u):
 KV (kvs.map λkv=>if kv.1=k then(kv.1,y) else kv) (vs.map λkv=>if kv.1=k then(kv.1,u) else kv):=by
 unfold KV at r⊢
 induction r with
 |nil=>exact .nil
 | @cons p q ps qs h t ih=>
   rw[List.map_cons,List.map_cons];refine .cons ?_ ih
   obtain⟨h1,h2⟩:=h
   by_cases e:p.1=k
   ·rw[if_pos e,if_pos (h1.symm.trans e)];exact⟨h1,ry⟩
   ·rw[if_neg e,if_neg (λz=>e (h1.trans z))];exact⟨h1,h2⟩
theorem KV.put {kvs:List (κ×V)}{vs:List (κ×Value)}(r:KV kvs vs)(k:κ){y:V}{u:Value}(ry:RelV y u):KV (gE kvs k y) (stored vs k u):=by
 unfold gE stored;rw[r.any k]
 by_cases e:(vs.any λkv=>decide (kv.1=k))=true
 ·rw[if_pos e,if_pos e];exact r.repl k ry
 ·rw[if_neg e,if_neg e];exact Paired.snoc r ⟨rfl,ry⟩
theorem KV.length {kvs:List (κ×V)}{vs:List (κ×Value)}(r:KV kvs vs):kvs.length=vs.length:=Paired.length r
end
theorem rS {P:Program}{w:World}{k:aT}{u:Value}(r:RelV (kV k) u):(ca P w).is k u=true:=by
 cases k with
 |inl i=>obtain⟨t,e⟩:=(show∃t,u=Value.int i t from r);subst e;exact ll P w i t
 |inr x=>obtain⟨t,e⟩:=(show∃t,u=Value.str x t from r);subst e;exact lX P w x t
theorem jN {P:Program}{w:World}: ∀ {ks:List aT} {us:List Value},Vals (ks.map kV) us->ItemsAre (ca P w) ks us
 | [],_,r=>by rw[List.map_nil] at r;cases r;exact .nil
 |k::ks,_,r=>by
  rw[List.map_cons] at r;cases r with
  |cons h t=>exact .cons (rS h) (jN t)
abbrev KTd(H:Hp):List (List aT×V)->List (List aT×Addr×Value)->Prop:=Paired λp q=>p.1=q.1/\H q.2.1=some (.tup (p.1.map kV))/\RelV p.2 q.2.2
theorem KTd.val {H:Hp}{kvs:List (List aT×V)}{xs:List (List aT×Addr×Value)}(r:KTd H kvs xs)(k:List aT):RelO (gk kvs k) ((atKey xs k).map (·.2)):=by
 induction r with
 |nil=>exact True.intro
 | @cons p q ps qs h t ih=>
   obtain⟨h1,_,h2⟩:=h
   by_cases e:p.1=k
   ·have e':q.1=k:=h1.symm.trans e
    have b:atKey (q::qs) k=some q.2:=by simp[atKey,List.find?_cons,e']
    rw[gy e,b];exact h2
   ·have e': ¬q.1=k:=λz=>e (h1.trans z)
    have b:atKey (q::qs) k=atKey qs k:=by simp[atKey,List.find?_cons,e']
    rw[gH e,b];exact ih
theorem KTd.repl {H:Hp}{kvs:List (List aT×V)}{xs:List (List aT×Addr×Value)}(r:KTd H kvs xs)(k:List aT){y:V}{u:Value}(ry:RelV y u):
 KTd H (kvs.map λkv=>if kv.1=k then(kv.1,y) else kv) (xs.map (putAt k u)):=by
 induction r with
 |nil=>exact .nil
 | @cons p q ps qs h t ih=>
   rw[List.map_cons,List.map_cons];refine .cons ?_ ih
   obtain⟨h1,h2,h3⟩:=h
   unfold putAt
   by_cases e:p.1=k
   ·rw[if_pos e,if_pos (h1.symm.trans e)];exact⟨h1,h2,ry⟩
   ·rw[if_neg e,if_neg (λz=>e (h1.trans z))];exact⟨h1,h2,h3⟩
theorem KTd.put {H:Hp}{kvs:List (List aT×V)}{xs:List (List aT×Addr×Value)}(r:KTd H kvs xs)(k:List aT){b:Addr}{y:V}{u:Value}(hb:H b=some (.tup (k.map kV)))(ry:RelV y u):
 KTd H (gE kvs k y) (storedH xs k b u):=by
 have e:(kvs.any λkv=>decide (kv.1=k))=(atKey xs k).isSome:=by
  rw[lP,(r.val k).isSome_eq,Option.isSome_map]
 unfold gE storedH;rw[e]
 by_cases q:(atKey xs k).isSome=true
 ·rw[if_pos q,if_pos q];exact r.repl k ry
 ·rw[if_neg q,if_neg q];exact Paired.snoc r ⟨rfl,hb,ry⟩
theorem KTd.keeps {H H':Hp}{kvs:List (List aT×V)}{xs:List (List aT×Addr×Value)}(r:KTd H kvs xs)(ht: ∀b ys,H b=some (.tup ys)->H' b=some (.tup ys)):KTd H' kvs xs:=
 Paired.mapP r λ_ _ z=>⟨z.1,ht _ _ z.2.1,z.2.2⟩
section
variable {P:Program}{w:World}{H:Hp}{h:Heap}{a:Addr}
theorem ui {u:HO}(ok:HOk P w H h)(e:Rd H a u):ObjOk P w H h a u:=e.ok ok
theorem rT {kvs:List (aT×V)}(ok:HOk P w H h)(e:Rd H a (.dK kvs)):kvs.length<=sizeLine/\(a==sysModules)=false/\ ∃vs,KV kvs vs/\h.DictOf (ca P w) a vs:=
 show ObjOk P w H h a (.dK kvs) from ui ok e
theorem ww {kvs:List (aT×V)}(ok:HOk P w H h)(e:H a=some (.dK kvs)):kvs.length<=sizeLine/\(a==sysModules)=false/\ ∃vs,KV kvs vs/\h.DictOf (ca P w) a vs:=rT ok (.inl e)
theorem mV {ks:List aT}(ok:HOk P w H h)(e:H a=some (.tup (ks.map kV))):(tupleKind (ca P w)).is h ks a:=by
 obtain⟨_,its,r,⟨o,h1,h2,n,h3⟩,_⟩:=(show ObjOk P w H h a (.tup (ks.map kV)) from ok a _ e)
 exact⟨o,its.toArray,n,h1,h2,h3,by simpa using jN r⟩
theorem rh {kvs:List (List aT×V)}(ok:HOk P w H h)(e:Rd H a (.dT kvs)):kvs.length<=sizeLine/\(a==sysModules)=false/\
 ∃xs,KTd H kvs xs/\h.DictOfH (tupleKind (ca P w)) a xs:=by
 obtain⟨z,y,xs,r,o,es,ep,h1,h2,h3,h4,h5⟩:=(show ObjOk P w H h a (.dT kvs) from ui ok e)
 refine⟨z,y,xs,r,o,es,ep,h1,h2,h3,h4,λx hx=>?_,h5⟩
 have all: ∀ {l:List (List aT×V)} {m:List (List aT×Addr×Value)},KTd H l m-> ∀x∈m,(tupleKind (ca P w)).is h x.1 x.2.1:=by
  intro l m q
  induction q with
  |nil=>intro x hx;exact nomatch hx
  | @cons p q ps qs hq t ih=>
    intro x hx;rcases List.mem_cons.mp hx with e|hx
    ·subst e
     exact mV ok (by rw[<-hq.1];exact hq.2.1)
    ·exact ih x hx
 exact all r x hx
theorem wm {kvs:List (List aT×V)}(ok:HOk P w H h)(e:H a=some (.dT kvs)):kvs.length<=sizeLine/\(a==sysModules)=false/\
 ∃xs,KTd H kvs xs/\h.DictOfH (tupleKind (ca P w)) a xs:=rh ok (.inl e)
end
def u6(H:Hp)(a:Addr)(y:V)(r:Option V):Prop:=
 (∃kvs k,Rd H a (.dK kvs)/\y=kV k/\r=gk kvs k)\/ ∃kvs k b,Rd H a (.dT kvs)/\y=.ref b/\H b=some (.tup (k.map kV))/\r=gk kvs k
def DPut(H:Hp)(a:Addr)(y v:V)(H':Hp):Prop:=
 (∃kvs k,H a=some (.dK kvs)/\y=kV k/\kvs.length<sizeLine/\H'=aV H a (.dK (gE kvs k v)))\/
 ∃kvs k b,H a=some (.dT kvs)/\y=.ref b/\H b=some (.tup (k.map kV))/\kvs.length<sizeLine/\H'=aV H a (.dT (gE kvs k v))
theorem DPut.k {H:Hp}{a:Addr}{kvs:List (aT×V)}{k:aT}{v:V}(e:H a=some (.dK kvs))(hl:kvs.length<sizeLine):DPut H a (kV k) v (aV H a (.dK (gE kvs k v))):=.inl ⟨kvs,k,e,rfl,hl,rfl⟩
section
variable {X:Cx}{aa:List (Addr×Obj)}{σ:St}{H:Hp}{s:Shared}{a:Addr}{y v:V}{u r:Value}{o:Option V}{A:Around}{E:Value->Shared->Prop}
theorem Inv.big(I:Inv X aa σ H s):sysModules<s.heap.objs.size:=by
 have h:mainGlobals<s.heap.objs.size:=(I.mod.glob.keeps I.bk).lt
 exact Nat.lt_trans (by decide) h
theorem pK {Q:Value->Shared->Prop}(hu:A.units+1<cLine)(I:Inv X aa σ H s)(g:u6 H a y (some v))(ry:RelV y u)(h: ∀w' s',Inv X aa σ H s'->RelV v w'->Q w' s'):
 wpAny (model X.prog X.w) A (getItem (.ref a) u) Q E s:=by
 rcases g with⟨kvs,k,e,ey,l⟩|⟨kvs,k,b,e,ey,eb,l⟩
 ·subst ey
  obtain⟨z,hd,vs,rel,dd⟩:=rT I.hok e
  obtain⟨w',hw,rw'⟩:=RelO.some_of (v:=v) (o:=valueAt vs k) (by rw[l];exact rel.val k)
  exact wpAny_getItem_of (rS ry) dd.mapOf hw (h w' _ (I.tok _) rw')
 ·subst ey
  cases (show u=Value.ref b from ry)
  obtain⟨z,hd,xs,rel,dd⟩:=rh I.hok e
  obtain⟨w',hw,rw'⟩:=RelO.some_of (v:=v) (o:=(atKey xs k).map (·.2)) (by rw[l];exact rel.val k)
  obtain⟨p,hp,hp2⟩:=Option.map_eq_some_iff.mp hw
  refine wpAny_getItem_heap (tupleKind_room_in1 hu) (mV I.hok eb) dd hp ?_
  rw[hp2];exact h w' _ (I.tok _) rw'
theorem nY {h':Heap}{t':Nat}{ob:HO}(I:Inv X aa σ H s)(mu:vG (H a))(hs:Heap.SameBut a s.heap h')(he: ∃q,h'.get? a=some q)(new:ObjOk X.prog X.w (aV H a ob) h' a ob):
 Inv X aa σ (aV H a ob) {s with heap:=h',toks:=t'}:=
 I.write (x:=a) (e:=a) mu (.inl rfl) (λb q hb z=>(hs.2 b hb).trans z) he new
theorem uJ {P:Program}{w:World}{H':Hp}{h':Heap}{kvs:List (aT×V)}{vs:List (aT×Value)}(z:kvs.length<=sizeLine)(hd:(a==sysModules)=false)(rel:KV kvs vs)(dd:h'.DictOf (ca P w) a vs):
 ObjOk P w H' h' a (.dK kvs):=⟨z,hd,vs,rel,dd⟩
theorem pq {H':Hp}{Q:Unit->Shared->Prop}(hu:A.units+1<cLine)(I:Inv X aa σ H s)(g:DPut H a y v H')(ry:RelV y u)(rv:RelV v r)(h: ∀s',Inv X aa σ H' s'->Q () s'):
 wpAny (model X.prog X.w) A (setItem (.ref a) u r) Q E s:=by
 rcases g with⟨kvs,k,e,ey,l,eH⟩|⟨kvs,k,b,e,ey,eb,l,eH⟩
 ·subst ey eH
  obtain⟨z,hd,vs,rel,dd⟩:=ww I.hok e
  have hz:vs.length<=sizeLine:=by rw[<-rel.length];exact z
  have hl:(gE kvs k v).length<=sizeLine:=by have:=h9 kvs k v;omega
  refine wpAny_setItem_pairs (hsz:=hz) (rS ry) dd λh' dd' hs=>h _ ?_
  have he: ∃q,h'.get? a=some q:=let⟨q,_,_,hq,_⟩:=dd';⟨q,hq⟩
  exact nY I (by rw[e];exact True.intro) hs he (uJ hl hd (rel.put k rv) dd')
 ·subst ey eH
  cases (show u=Value.ref b from ry)
  obtain⟨z,hd,xs,rel,dd⟩:=wm I.hok e
  have hz:xs.length<=sizeLine:=by rw[<-Paired.length rel];exact z
  have hl:(gE kvs k v).length<=sizeLine:=by have:=h9 kvs k v;omega
  refine wpAny_setItem_heap (hsz:=hz) (tupleKind_room_in1 hu) (mV I.hok eb) dd λh' dd' hs=>h _ ?_
  obtain⟨q,es,ep,hq,h2,h3,h4,_,h5⟩:=dd'
  refine nY I (by rw[e];exact True.intro) hs ⟨q,hq⟩ ⟨hl,hd,_,(rel.put k eb rv).keeps λc ys ec=>?_,q,es,ep,hq,h2,h3,h4,h5⟩
  rw[ar (wf ec e (λz=>nomatch z))]
  exact ec
end
def uB(i:Expr):Prop:= ∀ov iv,subscripted i false ov iv=operate [ov,iv] (getItem ov iv)
theorem tK {prog:Program}{w:World}{A:Around}{E:Value->Shared->Prop}{s:Shared}{env:Env}{value slice:Expr}{pos:Pos}{T id:String}{Q:Value->Shared->Prop}
 (hl:typeLookup (.type T) "__getitem__"=pure (some (.builtin id))) (hs:uB slice)
 (h:wpAny (model prog w) A (eval value env) (λo s₁=>wpAny (model prog w) A (eval slice env) (λi s₂=>s₂.TypeIs o T/\wpAny (model prog w) A (getItem o i) Q E s₂) E s₁) E s):
 wpAny (model prog w) A (eval (.Subscript value slice pos) env) Q E s:=by
 refine Subscript_ (wpAny_mono h (λo s₁ h₁=>wpAny_mono h₁ (λi s₂ h₂=>?_) λ_ _ x=>x) λ_ _ x=>x)
 obtain⟨hT,h₂⟩:=h₂
 unfold subscriptTail;refine wpAny_bind ?_
 rw[getitemInPython_of_ne hT.not_modules];refine wpAny_bind (wpAny_specialOf hT hl ?_)
 have fin:wpAny (model prog w) A (subscripted slice false o i) (λr s₃=>wpAny (model prog w) A (letTemporaryGo value o r>>=λ_=>pure r) Q E s₃) E s₂:=by
  rw[hs o i];exact wpAny_operating (wpAny_mono h₂ (λr s₃ h₃=>wpAny_bind (wpAny_letTemporaryGo (wpAny_pure h₃))) λ_ _ x=>x)
 first
  |exact wpAny_pure (wpAny_bind fin)
  |exact wpAny_bind (wpAny_pure (wpAny_bind fin))
  |exact wpAny_bind fin
theorem my {X:Cx}{aa:List (Addr×Obj)}{σ:St}{H:Hp}{s:Shared}{a:Addr}{y:V}{o:Option V}(I:Inv X aa σ H s)(g:u6 H a y o):s.TypeIs (.ref a) "dict":=by
 rcases g with⟨kvs,k,e,_,_⟩|⟨kvs,k,b,e,_,_,_⟩
 ·obtain⟨_,_,vs,_,dd⟩:=rT I.hok e
  exact dd.typeIs
 ·obtain⟨_,_,xs,_,dd⟩:=rh I.hok e
  exact dd.typeIs
def wG(td ty:TE):TE:=λσ H Q=>td σ H λx H1=>ty σ H1 λy H2=> ∃a v,x=.ref a/\u6 H2 a y (some v)/\Q v H2
section
variable {X:Cx}{o i e value:Expr}{pos pos' tpos:Pos}{td ty tv:TE}
theorem sk(hu:X.A.units+1<cLine)(ho:PE X o td)(hi:PE X i ty)(hs:uB i):PE X (.Subscript o i pos) (wG td ty):=by
 intro aa s σ H Q I h;refine tK PySem.F.slot_dict_getitem.lookup hs (bY (ho aa s σ H _ I h) λu s1 ⟨x,H1,I1,rx,q1⟩=>bY (hi aa s1 σ H1 _ I1 q1) λiv s2 hq_=>?_)
 obtain⟨y,H2,I2,ry,a,v,ex,g,q2⟩:=hq_
 subst ex;obtain rfl:u=Value.ref a:=rx
 exact⟨my I2 g,pK hu I2 g ry λw' s3 I3 rw'=>⟨v,H2,I3,rw',q2⟩⟩
end
theorem rA {P:Program}{w:World}{H:Hp}(h:Heap)(hb:sysModules<h.objs.size):ObjOk P w H (h.push {cls:=.type "dict",data:=.dict #[]}) h.objs.size (.dK []):=
 ⟨Nat.zero_le _,beq_eq_false_iff_ne.mpr (Ne.symm (Nat.ne_of_lt hb)),[],.nil,Heap.DictOf.new h⟩
def uN:TE:=λ_ H Q=> ∀p,H p=none->Q (.ref p) (aV H p (.dK []))
section
variable {X:Cx}{pos:Pos}
theorem lY:PE X (.Dict [] [] pos) uN:=λaa s σ H Q I h=>
 wpAny_Dict_empty ⟨.ref s.heap.objs.size,_,I.laid (a:=s.heap.objs.size) (o:=.dK []) (t':=s.toks) (λ_ _ q=>Heap.get?_push_of_some _ q) (Nat.le_refl _) (rA s.heap I.big),rfl,h _ (I.hok.fresh (Nat.le_refl _))⟩
end
end L2
namespace PySem
open Sem (wp)
end PySem
namespace L2
open PySem PySem.Spec PyProof.Rows
end L2
namespace PySem
end PySem
namespace L2
open PySem PySem.Spec PyProof.Rows
def ou:D->Option aT
 | .int i=>some (.inl i)
 |_=>none
theorem jg {d:D}{k:aT}(h:ou d=some k): ∃i,d=.int i/\k=.inl i:=by
 unfold ou at h;split at h
 ·cases h;exact⟨_,rfl,rfl⟩
 ·cases h
def ee(kvs:List (aT×D))(k:aT):Option D:=(kvs.find? λkv=>decide (kv.1=k)).map (·.2)
def gM(kvs:List (aT×D))(k:aT)(d:D):List (aT×D):=
 if(kvs.any λkv=>decide (kv.1=k))=true then kvs.map (λkv=>if kv.1=k then(kv.1,d) else kv) else kvs++[(k,d)]
def KRl(K:W.Frag)(F:Hp)(us:List (aT×V))(kvs:List (aT×D)):Prop:=us.map (·.1)=kvs.map (·.1)/\Reps K F (us.map (·.2)) (kvs.map (·.2))
theorem KRl.inv {K:W.Frag}{F:Hp}: ∀ {us:List (aT×V)} {kvs:List (aT×D)},KRl K F us kvs->(us=[]/\kvs=[])\/ ∃k v us' d kvs',us=(k,v)::us'/\kvs=(k,d)::kvs'/\Rep K F v d/\KRl K F us' kvs'
 | [],[],_=>.inl ⟨rfl,rfl⟩
 | [],_::_,h=>by cases h.1
 |_::_,[],h=>by cases h.1
 |(k,v)::us,(k',d)::kvs,h=>by
  obtain⟨h1,h2⟩:=h
  rw[List.map_cons,List.map_cons] at h1 h2;injection h1 with e1 e2
  cases h2 with
  |cons r rs=>
   have e1:k=k':=e1
   subst e1;exact .inr ⟨k,v,us,d,kvs,rfl,rfl,r,e2,rs⟩
theorem KRl.val {K:W.Frag}{F:Hp}(k:aT): ∀ {us:List (aT×V)} {kvs:List (aT×D)},KRl K F us kvs->(gk us k=none/\ee kvs k=none)\/ ∃v d,gk us k=some v/\ee kvs k=some d/\Rep K F v d:=by
 intro us
 induction us with
 |nil=>
  intro kvs h;rcases h.inv with⟨_,rfl⟩|⟨_,_,_,_,_,e,_⟩
  ·exact .inl ⟨rfl,rfl⟩
  ·cases e
 |cons p us ih=>
  intro kvs h;rcases h.inv with⟨e,_⟩|⟨k',v,us',d,kvs',e,rfl,r,rs⟩
  ·cases e
  ·cases e
   by_cases ek:k'=k
   ·exact .inr ⟨v,d,gy ek,by simp[ee,List.find?_cons,ek],r⟩
   ·have e1:gk ((k',v)::us) k=gk us k:=gH ek
    have e2:ee ((k',d)::kvs') k=ee kvs' k:=by simp[ee,List.find?_cons,ek]
    rw[e1,e2];exact ih rs
theorem KRl.any {K:W.Frag}{F:Hp}(k:aT){us:List (aT×V)}{kvs:List (aT×D)}(h:KRl K F us kvs):(us.any λkv=>decide (kv.1=k))=kvs.any λkv=>decide (kv.1=k):=by
 have e1:(us.any λkv=>decide (kv.1=k))=(us.map (·.1)).any λx=>decide (x=k):=by rw[List.any_map];rfl
 have e2:(kvs.any λkv=>decide (kv.1=k))=(kvs.map (·.1)).any λx=>decide (x=k):=by rw[List.any_map];rfl
 rw[e1,e2,h.1]
theorem KRl.cons {K:W.Frag}{F:Hp}{k:aT}{v:V}{d:D}{us:List (aT×V)}{kvs:List (aT×D)}(r:Rep K F v d)(h:KRl K F us kvs):KRl K F ((k,v)::us) ((k,d)::kvs):=⟨by rw[List.map_cons,List.map_cons,h.1],.cons r h.2⟩
theorem KRl.repl {K:W.Frag}{F:Hp}(k:aT){v:V}{d:D}(r:Rep K F v d): ∀ {us:List (aT×V)} {kvs:List (aT×D)},KRl K F us kvs->KRl K F (us.map (λkv=>if kv.1=k then(kv.1,v) else kv)) (kvs.map (λkv=>if kv.1=k then(kv.1,d) else kv)):=by
 intro us
 induction us with
 |nil=>
  intro kvs h;rcases h.inv with⟨_,rfl⟩|⟨_,_,_,_,_,e,_⟩
  ·exact h
  ·cases e
 |cons p us ih=>
  intro kvs h;rcases h.inv with⟨e,_⟩|⟨k',v',us',d',kvs',e,rfl,r',rs⟩
  ·cases e
  ·cases e
   rw[List.map_cons,List.map_cons]
   by_cases ek:k'=k
   ·rw[if_pos ek,if_pos ek];exact KRl.cons r (ih rs)
   ·rw[if_neg ek,if_neg ek];exact KRl.cons r' (ih rs)
theorem KRl.put {K:W.Frag}{F:Hp}(k:aT){v:V}{d:D}(r:Rep K F v d){us:List (aT×V)}{kvs:List (aT×D)}(h:KRl K F us kvs):KRl K F (gE us k v) (gM kvs k d):=by
 unfold gE gM;rw[h.any k];split
 ·exact h.repl k r
 ·refine⟨by rw[List.map_append,List.map_append,h.1];rfl,?_⟩
  rw[List.map_append,List.map_append];exact h.2.append (.cons r .nil)
theorem KRl.len {K:W.Frag}{F:Hp}{us:List (aT×V)}{kvs:List (aT×D)}(h:KRl K F us kvs):us.length=kvs.length:=by
 have:=congrArg List.length h.1
 simpa using this
section
variable {K:W.Frag}{c:Ct}{hid:bv}{ρ:ax}{σ:St}{H:Hp}{a:Addr}
theorem SR.setD {b:Ob}(h:SR K c hid ρ σ H)(ho:ObOk K c hid H a b)(no: ∀i:Nat,Ow ρ[i]? ->σ[i]? ≠some (some (.ref a)))(i:Nat):
 SR K c hid (ρ.set i (.ob b)) (σ.set i (some (.ref a))) H:=by
 refine⟨h.tr,h.ht,h.h0,h.kp,h.t0,h.c0,h.m0,by simp[h.len],λj s q=>?_,λj l z n o1 o2 q1 q2=>?_⟩
 ·by_cases e:j=i
  ·subst e
   have lt:j<ρ.length:=by
    have:=(List.getElem?_eq_some_iff.mp q).1
    simpa using this
   rw[List.getElem?_set_self lt] at q;cases q
   exact⟨a,List.getElem?_set_self (by rw[h.len];exact lt),ho⟩
  ·rw[List.getElem?_set_ne (Ne.symm e)] at q
   have w:=h.sl j s q
   have es:(σ.set i (some (V.ref a)))[j]? =σ[j]? :=List.getElem?_set_ne (Ne.symm e)
   cases s with
   |no=>trivial
   |v d=>obtain⟨x,h1,h2⟩:=w;exact⟨x,es.trans h1,h2⟩
   |own ds=>obtain⟨a,xs,h1,h2⟩:=w;exact⟨a,xs,es.trans h1,h2⟩
   |arg ds=>obtain⟨a,xs,h1,h2⟩:=w;exact⟨a,xs,es.trans h1,h2⟩
   |ob b=>obtain⟨a,h1,h2⟩:=w;exact⟨a,es.trans h1,h2⟩
 ·by_cases e1:j=i
  ·subst e1
   have e2:l≠j:=λe=>n e.symm
   rw[List.getElem?_set_ne (Ne.symm e2)] at o2 q2
   by_cases lt:j<σ.length
   ·rw[List.getElem?_set_self lt] at q1;cases q1;exact no l o2 q2
   ·rw[List.getElem?_eq_none (by simpa using lt)] at q1;cases q1
  ·rw[List.getElem?_set_ne (Ne.symm e1)] at o1 q1
   by_cases e2:l=i
   ·subst e2
    by_cases lt:l<σ.length
    ·rw[List.getElem?_set_self lt] at q2;cases q2;exact no j o1 q1
    ·rw[List.getElem?_eq_none (by simpa using lt)] at q2;cases q2
   ·rw[List.getElem?_set_ne (Ne.symm e2)] at o2 q2
    exact h.ap j l z n o1 o2 q1 q2
theorem ObOk.kind {b:Ob}(h:ObOk K c hid H a b)(o:j9 b): ∃u,H a=some u/\ ∀p v,u≠ .nst p v:=by
 cases b with
 |nst us=>obtain⟨_,_,e,_⟩:=h;exact⟨_,e,nofun⟩
 |dR kvs=>exact o.elim
 |dRs l=>exact o.elim
 |exc x n=>exact o.elim
 |dK kvs=>obtain⟨_,_,e,_⟩:=h;exact⟨_,e,nofun⟩
 |dT kvs=>obtain⟨_,_,e,_⟩:=h;exact⟨_,e,nofun⟩
 |set ds=>obtain⟨_,_,e,_⟩:=h;exact⟨_,e,nofun⟩
 |old d=>exact o.elim
 |jnk=>obtain⟨_,_,e⟩:=h;exact⟨_,e,nofun⟩
 |tset ks=>obtain⟨_,_,e,_⟩:=h;exact⟨_,e,nofun⟩
 |dF kvs=>obtain⟨_,_,_,e,_⟩:=h;exact⟨_,e,nofun⟩
theorem SR.putO {x:Addr}{i:Nat}{b b':Ob}{o':HO}(h:SR K c hid ρ σ H)(hg:ρ[i]? =some (.ob b))(ow:j9 b)(ow':j9 b')(ha:σ[i]? =some (some (.ref a)))(hx:At H a x)(h2:hid x=true)(h3:c.H₀ x=none)
 (nt: ∀xs,o'≠ .tup xs) (new:ObOk K c hid (aV H x o') a b'):SR K c hid (ρ.set i (.ob b')) σ (aV H x o'):=by
 have lt:i<ρ.length:=(List.getElem?_eq_some_iff.mp hg).1
 have vv:vw (aV H x o') hid=vw H hid:=cL h2
 have tr': ∀b o,H b=some o-> ∃o2,(aV H x o') b=some o2:=λb o q=>by
  by_cases e:b=x
  ·subst e;exact⟨_,ay⟩
  ·exact⟨o,by rw[ar e];exact q⟩
 have owi:Ow ρ[i]? :=by rw[hg];exact ow
 obtain⟨a2,ha2,kb⟩:=h.sl i _ hg
 rw[ha] at ha2;cases ha2;obtain⟨w,kw,kn⟩:=kb.kind ow
 have ne: ∀(j:Nat) (s:Sl) (a' y:Addr) (w':HO),j≠i->ρ[j]? =some s->Ow (some s)->σ[j]? =some (some (.ref a'))->H a'=some w'->(∀p v,w'≠ .nst p v)->At H a' y->y≠x:=λj s a' y w' n e o q hw wn hy=>by
  have na:a'≠a:=λz=>by subst z;exact h.ap j i a' n (by rw[e];exact o) owi q ha
  rcases hx with rfl|⟨u,hu⟩
  ·exact hy.ne na kw kn
  ·intro z
   subst z;rcases hy with rfl|⟨u',hu'⟩
   ·rw[hw] at hu;exact wn _ _ (Option.some.inj hu)
   ·rw[hu] at hu';cases hu';exact na rfl
 have ows: ∀j:Nat,Ow (ρ.set i (.ob b'))[j]? ->Ow ρ[j]? :=λj o=>by
  by_cases e:j=i
  ·subst e;exact owi
  ·rw[List.getElem?_set_ne (Ne.symm e)] at o;exact o
 refine⟨λb hb=>let⟨o,q⟩:=h.tr b hb;tr' b o q,λb xs hb q=>by
  by_cases e:b=x
  ·subst e;rw[ay] at q;exact nt xs (Option.some.inj q)
  ·rw[ar e] at q;exact h.ht b xs hb q,h.h0,λb o q m=>?_,λb o q=>let⟨o2,q2⟩:=h.t0 b o q;tr' b o2 q2,h.c0,h.m0,by simp[h.len],λj s e=>?_,λj l z n o1 o2=>h.ap j l z n (ows j o1) (ows l o2)⟩
 ·rw[ar (br q h3)];exact h.kp b o q m
 ·by_cases ej:j=i
  ·subst ej
   rw[List.getElem?_set_self lt] at e;cases e
   exact⟨a,ha,new⟩
  ·rw[List.getElem?_set_ne (Ne.symm ej)] at e
   have z:=h.sl j s e
   cases s with
   |no=>trivial
   |v d=>obtain⟨x,h1,h2⟩:=z;exact⟨x,h1,by rw[vv];exact h2⟩
   |own ds=>obtain⟨a',xs,h1,h2,h3,h4,h5⟩:=z;exact⟨a',xs,h1,by rw[ar (ne j _ a' a' _ ej e trivial h1 h2 nofun (.inl rfl))];exact h2,h3,h4,by rw[vv];exact h5⟩
   |arg ds=>obtain⟨a',xs,h1,h2,h3,h4,h5⟩:=z;exact⟨a',xs,h1,by rw[ar (ne j _ a' a' _ ej e trivial h1 h2 nofun (.inl rfl))];exact h2,h3,h4,by rw[vv];exact h5⟩
   |ob b=>
    obtain⟨a',h1,h2⟩:=z
    exact⟨a',h1,h2.mono (λow y hy o q=>by
     obtain⟨w',hw,wn⟩:=h2.kind ow
     rw[ar (ne j _ a' y w' ej e ow h1 hw wn hy)];exact q) (by rw[vv];exact Same.refl _) λ_ _ _ q=>q⟩
end
open PySem PySem.W PySem.Spec PyProof.Rows
set_option maxHeartbeats 4000000
section
variable {X:Cx}{aa:List (Addr×Obj)}{σ:St}{H:Hp}{s:Shared}{d p:Addr}{u u':HO}
theorem Inv.re(I:Inv X aa σ H s)(e:H d=some u)(mu:vG (some u))(t: ∀H',ObjOk X.prog X.w H' s.heap d u->ObjOk X.prog X.w H' s.heap d u'):Inv X aa σ (aV H d u') s:=by
 have nt: ∀b xs,H b=some (.tup xs)->b≠d:=λb xs q z=>by subst z;rw[e] at q;cases q;exact mu
 have no: ∀b y,H b=some (.own y)->b≠d:=λb xs q z=>by subst z;rw[e] at q;cases q;exact mu
 have q:=I.hok d u e
 obtain⟨o,ho⟩:=q.there
 exact I.write (x:=d) (e:=d) (t':=s.toks) (h':=s.heap) (by rw[e];exact mu) (.inl rfl) (λb v _ hv=>hv) ⟨o,ho⟩ (t _ (q.stay (λb v _ h=>h) (λb h=>by rw[ar (no b _ h)];exact h) λb xs h=>by rw[ar (nt b xs h)];exact h))
theorem Inv.nest(I:Inv X aa σ H s)(e:H d=some u)(mu:vG (some u)):Inv X aa σ (aV H d (.nst p u)) s:=I.re e mu λ_ h=>h
theorem Inv.unnest(I:Inv X aa σ H s)(e:H d=some (.nst p u)):Inv X aa σ (aV H d u) s:=I.re e trivial λ_ h=>h
theorem Inv.freeze(I:Inv X aa σ H s)(e:H d=some (.nst p u)): ∃o,Inv X aa σ (aV H d (.frz o u)) s:=by
 obtain⟨o,ho⟩:=(I.hok d _ e).there
 exact⟨o,I.re e trivial λ_ h=>⟨ho,h⟩⟩
end
section
variable {X:Cx}{e o i:Expr}{st:Stmt}{t:TS}{pos pos':Pos}{value:Expr}{td ty tv:TE}
theorem PS.post(h:PS X st t):PS X st (λD σ H=>t {D with nx:=λσ' H'=> ∀aa s,Inv X aa σ' H' s-> ∃H'',Inv X aa σ' H'' s/\D.nx σ' H''} σ H):=by
 intro aa s σ H D I q;refine bY (h aa s σ H _ I q) λf s' z=>?_
 cases f with
 |next=>
  obtain⟨σ',H',I',w⟩:=z
  obtain⟨H'',I'',w'⟩:=w aa s' I'
  exact⟨σ',H'',I'',w'⟩
 |brk=>exact z
 |cont=>exact z
 |ret u=>exact z
def wX:qu:=λo i v H Q=> ∃d p,o=.ref d/\((∃us k,i=kV k/\H d=some (.nst p (.dK us))/\us.length<sizeLine/\Q (aV H d (.nst p (.dK (gE us k v)))))\/
 ∃xs k j,i=.int k/\H d=some (.nst p (.lst xs))/\j4 xs.length k=some j/\Q (aV H d (.nst p (.lst (xs.set j v)))))
theorem qp {H:Hp}{d:Addr}{u u' u'':HO}:aV (aV (aV H d u) d u') d u''=aV H d u'':=by rw[og,og]
theorem tm(hu:X.A.units+1<cLine):sQ X wX:=by
 intro aa s σ H o i v ov iv u Q I ro ri rv h;obtain⟨d,p,rfl,⟨us,k,rfl,hd,hl,q⟩|⟨xs,k,j,rfl,hd,hj,q⟩⟩:=h
 ·cases ro
  refine pq hu (I.unnest hd) (DPut.k (k:=k) ay hl) ri rv λs' I'=>⟨_,I'.nest (p:=p) ay trivial,?_⟩
  rw[qp];exact q
 ·refine bY (mq (X:=X) aa s σ (aV H d (.lst xs)) (.ref d) (.int k) v ov iv u (λH'=>H'=aV (aV H d (.lst xs)) d (.lst (xs.set j v))) (I.unnest hd) ro ri rv ⟨d,xs,k,j,rfl,rfl,ay,hj,rfl⟩) λ_ s' hq_=>?_
  obtain⟨H',I',e'⟩:=hq_
  subst e';refine⟨_,I'.nest (p:=p) ay trivial,?_⟩
  rw[qp];exact q
theorem tu {t:qu}(hp:sQ X t)(ho:PE X o td)(hi:PE X i ty)(hv:PE X value tv)(hs:swapsWith value (some (.Subscript o i pos')) pos.line X.env=pure false):
 PS X (.Assign [.Subscript o i pos'] value pos) (λD σ H=>tv σ H λv H1=>td σ H1 λx H2=>ty σ H2 λy H3=>t x y v H3 λH4=>D.nx σ H4):=by
 intro aa s σ H D I h;refine wpAny_Assign_Subscript (bY (hv aa s σ H _ I h) λr s1 ⟨v,H1,I1,rv,q1⟩=>bY (ho aa s1 σ H1 _ I1 q1) λu s2 ⟨x,H2,I2,rx,q2⟩=>bY (hi aa s2 σ H2 _ I2 q2) λiv s3 ⟨y,H3,I3,ry,q3⟩=>?_) hs
 exact bY (hp aa s3 σ H3 x y v u iv r _ I3 rx ry rv q3) λ_ s4 ⟨H4,I4,q4⟩=>⟨σ,H4,I4,q4⟩
end
def mi(i:Nat)(ρ:ax):Option (List NO):=match ρ[i]? with
 |some (.ob (.nst us))=>some us
 |_=>none
theorem dz {i:Nat}{ρ:ax}{us:List NO}(h:mi i ρ=some us):ρ[i]? =some (.ob (.nst us)):=by
 unfold mi at h;split at h
 ·cases h;assumption
 ·cases h
def qO(k d:D):NO->Option NO
 | .k kvs=>(ou k).bind λkk=>if kvs.length<=1000 then some (.k (gM kvs kk d)) else none
 | .l ds=>match k with
   | .int j=>(j4 ds.length j).map λq=>.l (ds.set q d)
   |_=>none
def pj(us:List NO)(i k d:D):Option (List NO):=match i with
 | .int j=>(j4 us.length j).bind λq=>us[q]?.bind λu=>(qO k d u).map λu'=>us.set q u'
 |_=>none
def dS(i:Nat)(f1 f2 fv:FE):FS:=λρ=>match mi i ρ,fv ρ,f1 ρ,f2 ρ with
 |some us,some d,some j,some k=>(match pj us j k d with
  |some us'=>.nx (ρ.set i (.ob (.nst us')))
  |none=>.no)
 |_,_,_,_=>.no
section
variable {K:W.Frag}{c:Ct}{hid:bv}{ρ:ax}{σ:St}{H:Hp}{a:Addr}
theorem Paired.get {α β:Type}{F:α->β->Prop}: ∀ {l₁:List α} {l₂:List β} {i:Nat} {y:β},Paired F l₁ l₂->l₂[i]? =some y-> ∃x,l₁[i]? =some x/\F x y
 |_,_,_,_,.nil,e=>by simp at e
 |_,_,0,_,.cons r _,e=>by simp at e;subst e;exact⟨_,rfl,r⟩
 |_,_,i+1,y,.cons _ t,e=>by
  obtain⟨u,h1,h2⟩:=Paired.get (i:=i) (y:=y) t (by simpa using e)
  exact⟨u,by simpa using h1,h2⟩
theorem Paired.len {α β:Type}{F:α->β->Prop}: ∀ {l₁:List α} {l₂:List β},Paired F l₁ l₂->l₁.length=l₂.length
 |_,_,.nil=>rfl
 |_,_,.cons _ t=>by simp[Paired.len t]
theorem Paired.setN {F G:Addr->NO->Prop}: ∀ {bs:List Addr} {us:List NO} {i:Nat} {d:Addr} {u':NO},bs.Nodup->Paired F bs us->bs[i]? =some d->G d u'->(∀b u,b≠d->F b u->G b u)->Paired G bs (us.set i u')
 |_,_,_,_,_,_,.nil,e,_,_=>by simp at e
 |_,_,0,d,u',n,.cons r t,e,g,k=>by
  simp at e;subst e;refine .cons g ?_
  have nb:=(List.nodup_cons.mp n).1
  clear r n g
  induction t with
  |nil=>exact .nil
  |cons r' t' ih=>
   rw[List.mem_cons,not_or] at nb;exact .cons (k _ _ (λe=>nb.1 e.symm) r') (ih nb.2)
 |b::bs,_,i+1,d,u',n,.cons r t,e,g,k=>by
  have e':bs[i]? =some d:=by simpa using e
  refine .cons (k _ _ (λz=>?_) r) (Paired.setN (List.nodup_cons.mp n).2 t e' g k)
  subst z;exact(List.nodup_cons.mp n).1 (List.mem_of_getElem? e')
theorem SR.nst(h:SR K c hid ρ σ H){i:Nat}{us:List NO}(e:mi i ρ=some us): ∃a bs,σ[i]? =some (some (.ref a))/\(hid a=true/\c.H₀ a=none)/\H a=some (.lst (bs.map V.ref))/\bs.Nodup/\Paired (NOk K c hid H a) bs us:=by
 obtain⟨a,h1,h2,bs,h3,h4,h5⟩:=h.sl i _ (dz e)
 exact⟨a,bs,h1,h2,h3,h4,h5⟩
theorem NOk.at {b:Addr}{u:NO}(h:NOk K c hid H a b u):(hid b=true/\c.H₀ b=none)/\ ∃o,H b=some (.nst a o):=by
 cases u with
 |l ds=>obtain⟨h1,_,h2,_⟩:=h;exact⟨h1,_,h2⟩
 |k kvs=>obtain⟨h1,_,h2,_⟩:=h;exact⟨h1,_,h2⟩
theorem SR.putN {i q:Nat}{us:List NO}{u':NO}{bs:List Addr}{d:Addr}{o':HO}(h:SR K c hid ρ σ H)(hg:mi i ρ=some us)(ha:σ[i]? =some (some (.ref a)))(hb:H a=some (.lst (bs.map V.ref)))(nd:bs.Nodup)(pr:Paired (NOk K c hid H a) bs us)(hd:bs[q]? =some d)
 (hx: ∃o,H d=some (.nst a o)) (h2:hid d=true) (h3:c.H₀ d=none) (nt: ∀xs,o'≠ .tup xs) (new:NOk K c hid (aV H d o') a d u'):SR K c hid (ρ.set i (.ob (.nst (us.set q u')))) σ (aV H d o'):=by
 obtain⟨a2,g1,g2,_⟩:=h.sl i _ (dz hg)
 rw[ha] at g1;cases g1;obtain⟨o,hx⟩:=hx
 have ne:a≠d:=λe=>by subst e;rw[hb] at hx;cases hx
 refine h.putO (dz hg) trivial trivial ha (.inr ⟨o,hx⟩) h2 h3 nt ⟨g2,bs,by rw[ar ne];exact hb,nd,Paired.setN nd pr hd new λb u n r=>?_⟩
 exact r.mono (λv q=>by rw[ar n];exact q) (by rw[cL h2];exact Same.refl _) λ_=>r.at.1.1
end
section
variable {X:Cx}{c:Ct}{k k1 k2:Kd}{e1 e2 ev:Expr}{f1 f2 fv:FE}{pos pos' py pos2:Pos}{x y:Str}
theorem tJ {bs:List Addr}{j:Int}{q:Nat}{d:Addr}(e:j4 bs.length j=some q)(e2:bs[q]? =some d):jp (bs.map V.ref) j=some (.ref d):=by
 unfold jp;rw[List.length_map,e];show(bs.map V.ref)[q]? =_;rw[List.getElem?_map,e2];rfl
theorem ir(i:Nat)(hu:X.A.units+1<cLine)(h1:DP X c k1 e1 f1)(h2:DP X c k2 e2 f2)(hv:DP X c .s ev fv)(hN:X.N[i]? =some y:=by rfl)(hv':oW X.env.scope y:=by first|exact Or.inl rfl|exact Or.inr (Or.inl rfl)|exact Or.inr (Or.inr rfl))(hd:(y==("__debug__":Str))=false:=by decide)
 (hcd:(y==("__classdict__":Str))=false:=by decide) (hp:kl e1:=by exact λ_ _=>rfl) (hs:swapsWith ev (some (.Subscript (.Subscript (.Name y py) e1 pos2) e2 pos')) pos.line X.env=pure false:=by rfl):
 DS X c k (.Assign [.Subscript (.Subscript (.Name y py) e1 pos2) e2 pos'] ev pos) (dS i f1 f2 fv):=λρ=>PS.imp (tu (tm hu) (uq (aF (X:=X)) (pv i hN hv' hd hcd) (ii λhid=>h1 hid ρ) hp) (ii λhid=>h2 hid ρ) (ii λhid=>hv hid ρ) hs) λD σ H hq_=>by
 obtain⟨hid,sr,q⟩:=hq_
 unfold dS at q;split at q
 ·rename_i us d j kk e0 g1 g2 g3
  split at q
  ·rename_i us' g4
   unfold pj at g4;split at g4
   ·rename_i jj
    obtain⟨qq,g5,g4⟩:=Option.bind_eq_some_iff.mp g4
    obtain⟨u,g6,g4⟩:=Option.bind_eq_some_iff.mp g4
    obtain⟨u',g7,rfl⟩:=Option.map_eq_some_iff.mp g4
    obtain⟨a,bs,a1,a2,a3,a4,a5⟩:=sr.nst e0
    obtain⟨b,b1,b2⟩:=L2.Paired.get a5 g6
    refine⟨hid,sr,d,g1,λv H1 s1 r1=>⟨.ref a,a1,hid,sr.ext s1,_,g2,λz H2 s2 r2=>?_⟩⟩
    have sr2:=(sr.ext s1).ext s2
    have i1:=(RK.b k1 r2 λa n=>(sr.ext s1).fresh n).int
    cases i1
    refine .inl ⟨a,bs.map V.ref,jj,.ref b,rfl,rfl,SqL.of ((s1.trans s2) _ _ a3),tJ (by rw[(L2.Paired.len a5)];exact g5) b1,hid,sr2,_,g3,λw H3 s3 r3=>?_⟩
    have s13:=(s1.trans s2).trans s3
    have sr3:=sr2.ext s3
    have r1':Rep X.K (vw H3 hid) v d:=Rep.mono (aH (s2.trans s3)) r1
    have rk:=RK.b k2 r3 λa n=>sr2.fresh n
    have pr3:Paired (NOk X.K c hid H3 a) bs us:=Paired.mapP a5 λx y z=>z.mono (λ_ w=>s13 _ _ w) (aH s13) λ_=>z.at.1.1
    have bt:=b2.at
    have fin: ∀o',(∀xs,o'≠ .tup xs)->NOk X.K c hid (aV H3 b o') a b u'->D.nx σ (aV H3 b o'):=λo' nt new=>
     q _ _ hid (sr3.putN e0 a1 (s13 _ _ a3) a4 pr3 b1 (let⟨o,ho⟩:=bt.2;⟨o,s13 _ _ ho⟩) bt.1.1 bt.1.2 nt new) (by rw[cL bt.1.1];exact aH s13)
    cases u with
    |k kvs=>
     obtain⟨key,g8,g7⟩:=Option.bind_eq_some_iff.mp g7
     split at g7
     ·rename_i hz
      cases g7
      obtain⟨j2,rfl,rfl⟩:=jg g8
      cases rk.int
      obtain⟨_,vs,w1,w2,w3⟩:=b2
      have kr:KRl X.K (vw H3 hid) vs kvs:=⟨w2,w3.mono (aH s13)⟩
      refine⟨b,a,rfl,.inl ⟨vs,Sum.inl j2,rfl,s13 _ _ w1,by rw[kr.len];exact Nat.lt_of_le_of_lt hz (by decide),fin _ nofun ⟨bt.1,_,ay,?_⟩⟩⟩
      rw[cL bt.1.1];exact KRl.put (Sum.inl j2) r1' kr
     ·cases g7
    |l ds=>
     cases kk with
     |int j2=>
      obtain⟨q2,g8,rfl⟩:=Option.map_eq_some_iff.mp g7
      cases rk.int
      obtain⟨_,xs,w1,w2⟩:=b2
      have w2':=w2.mono (aH s13)
      refine⟨b,a,rfl,.inr ⟨xs,j2,q2,rfl,s13 _ _ w1,by rw[w2'.length];exact g8,fin _ nofun ⟨bt.1,_,ay,?_⟩⟩⟩
      rw[cL bt.1.1];exact Reps.set r1' q2 w2'
     |_=>cases g7
   ·cases g4
  ·exact q.elim
 ·exact q.elim
end
section
variable {K:W.Frag}{c:Ct}{hid:bv}{ρ:ax}{σ:St}{H:Hp}{a x:Addr}
theorem jx {b:Addr}(h:fu hid x b=true):hid b=true/\b≠x:=by
 unfold fu at h;rw[Bool.and_eq_true] at h;exact⟨h.1,by simpa using h.2⟩
theorem eY {b:Addr}(n:b≠x):fu hid x b=hid b:=by unfold fu;simp[n]
theorem hJ {u':HO}(hh:hid x=true):Same (vw H hid) (vw (aV H x u') (fu hid x)):=λb o q=>by
 obtain⟨q1,q2⟩:=vw_some.mp q
 have n:b≠x:=λe=>by subst e;rw[hh] at q1;cases q1
 exact vw_some.mpr ⟨by rw[eY n];exact q1,by rw[ar n];exact q2⟩
theorem uj {u':HO}:vw (aV H x u') (fu hid x) x=some u':=vw_some.mpr ⟨by unfold fu;simp,ay⟩
theorem SR.reveal {u':HO}(h:SR K c hid ρ σ H)(hh:hid x=true)(h0:c.H₀ x=none)(no: ∀(i:Nat) a',Ow ρ[i]? ->σ[i]? =some (some (.ref a'))-> ¬At H a' x):SR K c (fu hid x) ρ σ (aV H x u'):=by
 have sm:Same (vw H hid) (vw (aV H x u') (fu hid x)):=hJ hh
 have n0: ∀b o,c.H₀ b=some o->b≠x:=λb o q e=>by subst e;rw[h0] at q;cases q
 have ne: ∀(i:Nat) (s:Sl) (a' y:Addr),ρ[i]? =some s->Ow (some s)->σ[i]? =some (some (.ref a'))->At H a' y->y≠x:=λi s a' y e o q hy z=>by
  subst z;exact no i a' (by rw[e];exact o) q hy
 refine⟨λb hb=>?_,λb xs hb=>?_,λb hb=>?_,λb o q m=>by rw[ar (n0 b o q)];exact h.kp b o q m,λb o q=>by rw[ar (n0 b o q)];exact h.t0 b o q,h.c0,h.m0,h.len,λi s e=>?_,h.ap⟩
 ·obtain⟨h1,h2⟩:=jx hb
  rw[ar h2];exact h.tr b h1
 ·obtain⟨h1,h2⟩:=jx hb
  rw[ar h2];exact h.ht b xs h1
 ·obtain⟨o,q⟩:=h.c0 b hb
  rw[eY (n0 b o q)];exact h.h0 b hb
 ·have z:=h.sl i s e
  cases s with
  |no=>trivial
  |v d=>obtain⟨x,h1,h2⟩:=z;exact⟨x,h1,h2.mono sm⟩
  |own ds=>
   obtain⟨a',xs,h1,h2,h3,h4,h5⟩:=z
   have n:=ne i _ a' a' e trivial h1 (.inl rfl)
   exact⟨a',xs,h1,by rw[ar n];exact h2,by rw[eY n];exact h3,h4,h5.mono sm⟩
  |arg ds=>
   obtain⟨a',xs,h1,h2,h3,h4,h5⟩:=z
   have n:=ne i _ a' a' e trivial h1 (.inl rfl)
   exact⟨a',xs,h1,by rw[ar n];exact h2,by rw[eY n];exact h3,h4,h5.mono sm⟩
  |ob b=>
   obtain⟨a',h1,h2⟩:=z
   exact⟨a',h1,h2.mono (λow y hy o q=>by rw[ar (ne i _ a' y e ow h1 hy)];exact q) sm λow y hy q=>by rw[eY (ne i _ a' y e ow h1 hy)];exact q⟩
theorem SR.mark {i:Nat}{s:Sl}(h:SR K c hid ρ σ H)(hs:SlOk K c hid σ H i s)(no: ¬Ow (some s)):SR K c hid (ρ.set i s) σ H:=by
 have ow: ∀j:Nat,Ow (ρ.set i s)[j]? ->Ow ρ[j]? :=λj o=>by
  by_cases e:j=i
  ·subst e
   by_cases lt:j<ρ.length
   ·rw[List.getElem?_set_self lt] at o;exact absurd o no
   ·rw[List.getElem?_eq_none (by simpa using lt)] at o;exact o.elim
  ·rw[List.getElem?_set_ne (Ne.symm e)] at o;exact o
 refine⟨h.tr,h.ht,h.h0,h.kp,h.t0,h.c0,h.m0,by simp[h.len],λj s' e=>?_,λj l z n o1 o2=>h.ap j l z n (ow j o1) (ow l o2)⟩
 by_cases ej:j=i
 ·subst ej
  have lt:j<ρ.length:=by
   have:=(List.getElem?_eq_some_iff.mp e).1
   simpa using this
  rw[List.getElem?_set_self lt] at e;cases e
  exact hs
 ·rw[List.getElem?_set_ne (Ne.symm ej)] at e
  exact h.sl j s' e
theorem SR.kind {j:Nat}{s:Sl}(h:SR K c hid ρ σ H)(e:ρ[j]? =some s)(o:Ow (some s))(q:σ[j]? =some (some (.ref a))): ∃u,H a=some u/\ ∀p v,u≠ .nst p v:=by
 have z:=h.sl j s e
 cases s with
 |no=>exact o.elim
 |v d=>exact o.elim
 |own ds=>obtain⟨a',xs,h1,h2,_⟩:=z;rw[q] at h1;cases h1;exact⟨_,h2,nofun⟩
 |arg ds=>obtain⟨a',xs,h1,h2,_⟩:=z;rw[q] at h1;cases h1;exact⟨_,h2,nofun⟩
 |ob b=>obtain⟨a',h1,h2⟩:=z;rw[q] at h1;cases h1;exact h2.kind o
end
def yo:NO->Option (List (aT×D))
 | .k kvs=>some kvs
 |_=>none
theorem Paired.mem {α β:Type}{F:α->β->Prop}: ∀ {l₁:List α} {l₂:List β} {x:α},Paired F l₁ l₂->x∈l₁-> ∃y,F x y
 |_,_,_,.nil,e=>by cases e
 |_,_,_,.cons r t,e=>by
  rcases List.mem_cons.mp e with rfl|e
  ·exact⟨_,r⟩
  ·exact Paired.mem t e
theorem Paired.off {α β:Type}{F G:α->β->Prop}: ∀ {l₁:List α} {l₂:List β},Paired F l₁ l₂->(∀x y,x∈l₁->F x y->G x y)->Paired G l₁ l₂
 |_,_,.nil,_=>.nil
 |_,_,.cons r t,k=>.cons (k _ _ List.mem_cons_self r) (Paired.off t λx y h=>k x y (List.mem_cons_of_mem _ h))
section
variable {X:Cx}{c:Ct}{aa:List (Addr×Obj)}{σ:St}{s:Shared}{a:Addr}{β:Type}{conv:NO->Option β}{R:Hp->Addr->β->Prop}
def qL(X:Cx)(c:Ct)(aa:List (Addr×Obj))(σ:St)(s:Shared)(conv:NO->Option β)(R:Hp->Addr->β->Prop):Prop:=
 (∀W W' b v,Same W W'->R W b v->R W' b v)/\ ∀hid H a b u v,NOk X.K c hid H a b u->conv u=some v->Inv X aa σ H s-> ∃u',(∀p w,u'≠ .nst p w)/\Inv X aa σ (aV H b u') s/\ ∀W,W b=some u'->Same (vw H hid) W->R W b v
theorem tT:qL X c aa σ s yo (DRd X.K):=by
 refine⟨λW W' b v sm h=>h.mono sm,λhid H a b u v n e I=>?_⟩
 cases u with
 |l ds=>cases e
 |k kvs=>
  cases e
  obtain⟨_,us,h1,h2,h3⟩:=n
  obtain⟨o,I'⟩:=I.freeze h1
  exact⟨.frz o (.dK us),nofun,I',λW hW sm=>⟨o,us,hW,h2,h3.mono sm⟩⟩
theorem o9(L:qL X c aa σ s conv R){ρ:ax}: ∀ {bs:List Addr} {us:List NO} {vs:List β} {hid:bv} {H:Hp},Paired (NOk X.K c hid H a) bs us->us.mapM conv=some vs->bs.Nodup->(∀b∈bs,∀(i:Nat) a',Ow ρ[i]? ->σ[i]? =some (some (.ref a'))-> ¬At H a' b)->
 Inv X aa σ H s->SR X.K c hid ρ σ H-> ∃H' hid',Inv X aa σ H' s/\SR X.K c hid' ρ σ H'/\Same (vw H hid) (vw H' hid')/\Paired (R (vw H' hid')) bs vs/\(∀y,y∉bs->H' y=H y/\hid' y=hid y)/\ ∀y p w,H' y=some (.nst p w)->H y=some (.nst p w):=by
 intro bs
 induction bs with
 |nil=>
  intro us vs hid H pr e nd no I sr;cases pr
  cases e
  exact⟨H,hid,I,sr,Same.refl _,.nil,λy _=>⟨rfl,rfl⟩,λ_ _ _ q=>q⟩
 |cons b bs ih=>
  intro us vs hid H pr e nd no I sr;cases pr
  rename_i u us r t;rw[List.mapM_cons] at e;obtain⟨v,e1,e⟩:=Option.bind_eq_some_iff.mp e
  obtain⟨vs',e2,e⟩:=Option.bind_eq_some_iff.mp e
  cases e
  obtain⟨u',n',I1,hR⟩:=L.2 hid H a b u v r e1 I
  have hb:=r.at.1
  have sr1:=sr.reveal (u':=u') hb.1 hb.2 (no b List.mem_cons_self)
  have sm1:Same (vw H hid) (vw (aV H b u') (fu hid b)):=hJ hb.1
  obtain⟨nb,nd'⟩:=List.nodup_cons.mp nd
  have back: ∀y p w,aV H b u' y=some (.nst p w)->H y=some (.nst p w):=λy p w q=>by
   by_cases ey:y=b
   ·subst ey;rw[ay] at q;cases q;exact absurd rfl (n' _ _)
   ·rw[ar ey] at q;exact q
  have t1:Paired (NOk X.K c (fu hid b) (aV H b u') a) bs us:=by
   refine L2.Paired.off t λb2 u2 hb2 r2=>?_
   have n2:b2≠b:=λz=>by subst z;exact nb hb2
   exact r2.mono (λw q=>by rw[ar n2];exact q) sm1 λ_=>by rw[eY n2];exact r2.at.1.1
  obtain⟨H',hid',I2,sr2,sm2,pr2,k2,b2⟩:=ih t1 e2 nd' (λb' hb' i a' o q hat=>no b' (List.mem_cons_of_mem _ hb') i a' o q (hat.imp id λ⟨w,hw⟩=>⟨w,back _ _ _ hw⟩)) I1 sr1
  refine⟨H',hid',I2,sr2,sm1.trans sm2,.cons (L.1 _ _ _ _ sm2 (hR _ uj sm1)) pr2,λy hy=>?_,λy p w q=>back _ _ _ (b2 y p w q)⟩
  rw[List.mem_cons,not_or] at hy;obtain⟨k3,k4⟩:=k2 y hy.2
  exact⟨k3.trans (ar hy.1),k4.trans (eY hy.1)⟩
theorem p5 {H:Hp}{x:Addr}{o:HO}(e:H x=some o):aV H x o=H:=by
 funext b
 by_cases eb:b=x
 ·subst eb;rw[ay,e]
 ·exact ar eb
theorem SR.letgo(L:qL X c aa σ s conv R){ρ:ax}{hid:bv}{H:Hp}{i:Nat}{us:List NO}{vs:List β}(sr:SR X.K c hid ρ σ H)(hg:mi i ρ=some us)(e:us.mapM conv=some vs)(I:Inv X aa σ H s):
 ∃H' hid' bs,Inv X aa σ H' s/\SR X.K c hid' (ρ.set i .no) σ H'/\Same (vw H hid) (vw H' hid')/\Paired (R (vw H' hid')) bs vs/\σ[i]? =some (some (.ref a))/\vw H' hid' a=some (.lst (bs.map V.ref))\/σ[i]? ≠some (some (.ref a)):=by
 by_cases ea:σ[i]? =some (some (.ref a))
 ·obtain⟨a1,bs,h1,h2,h3,h4,h5⟩:=sr.nst hg
  rw[ea] at h1;cases h1;have sr0:SR X.K c hid (ρ.set i .no) σ H:=sr.forget (by simp) λj s' q=>by
   by_cases ej:j=i
   ·subst ej
    rw[List.getElem?_set_self (List.getElem?_eq_some_iff.mp (dz hg)).1] at q;cases q;exact .inl rfl
   ·rw[List.getElem?_set_ne (Ne.symm ej)] at q;exact .inr q
  have nw: ∀(j:Nat) a',Ow (ρ.set i .no)[j]? ->σ[j]? =some (some (.ref a'))->a'≠a/\ ∃u,H a'=some u/\ ∀p v,u≠ .nst p v:=λj a' o q=>by
   have ej:j≠i:=λz=>by
    subst z;rw[List.getElem?_set_self (List.getElem?_eq_some_iff.mp (dz hg)).1] at o;exact o
   rw[List.getElem?_set_ne (Ne.symm ej)] at o;refine⟨λz=>?_,?_⟩
   ·subst z;exact sr.ap j i a' ej o (by rw[dz hg];trivial) q ea
   ·cases w:ρ[j]? with
    |none=>rw[w] at o;exact o.elim
    |some s'=>rw[w] at o;exact sr.kind w o q
  have hn: ∀b∈bs,∃o,H b=some (.nst a o):=λb hb=>let⟨_,r⟩:=L2.Paired.mem h5 hb;r.at.2
  obtain⟨H',hid',I',sr',sm',pr',k',b'⟩:=o9 L h5 e h4 (λb hb j a' o q hat=>by
   obtain⟨n1,w,n2,n3⟩:=nw j a' o q
   obtain⟨ob,hob⟩:=hn b hb
   rcases hat with z|⟨w',hw'⟩
   ·subst z;rw[n2] at hob;exact n3 _ _ (Option.some.inj hob)
   ·rw[hob] at hw';cases hw';exact n1 rfl) I sr0
  have na:a∉bs:=λhb=>by obtain⟨ob,hob⟩:=hn a hb;rw[h3] at hob;cases hob
  obtain⟨k1,k2⟩:=k' a na
  have e3:H' a=some (.lst (bs.map V.ref)):=k1.trans h3
  have hh:hid' a=true:=k2.trans h2.1
  have sr2:=sr'.reveal (u':=.lst (bs.map V.ref)) hh h2.2 λj a' o q hat=>by
   obtain⟨n1,_⟩:=nw j a' o q
   rcases hat with z|⟨w',hw'⟩
   ·exact n1 z.symm
   ·rw[e3] at hw';cases hw'
  have sm2:Same (vw H' hid') (vw (aV H' a (.lst (bs.map V.ref))) (fu hid' a)):=hJ hh
  have at2:vw (aV H' a (.lst (bs.map V.ref))) (fu hid' a) a=some (.lst (bs.map V.ref)):=uj
  rw[p5 e3] at sr2 sm2 at2;exact⟨H',fu hid' a,bs,.inl ⟨I',sr2,sm'.trans sm2,Paired.mapP pr' λb v r=>L.1 _ _ _ _ sm2 r,ea,at2⟩⟩
 ·exact⟨H,hid,[],.inr ea⟩
end
section
variable {X:Cx}{c:Ct}{k:Kd}{st:Stmt}{t:FS}
def wT(i:Nat)(ρ:ax):Option ax:=(mi i ρ).bind λus=>(us.mapM yo).map λl=>ρ.set i (.ob (.dRs l))
def pL(i:Nat)(t:FS):FS:=λρ=>match wT i ρ with
 |some ρ'=>t ρ'
 |none=>.no
theorem tL {ρ:ax}{i:Nat}{a b:Sl}:(ρ.set i a).set i b=ρ.set i b:=by simp
theorem vb(i:Nat)(h:DS X c k st t):DS X c k st (pL i t):=λρ aa s σ H D I hq_=>by
 obtain⟨hid,sr,q⟩:=hq_
 unfold pL at q;split at q
 ·rename_i ρ' e
  obtain⟨us,e0,e⟩:=Option.bind_eq_some_iff.mp e
  obtain⟨l,e1,rfl⟩:=Option.map_eq_some_iff.mp e
  obtain⟨a,_,a1,_⟩:=sr.nst e0
  obtain⟨H',hid',bs,⟨I',sr',sm,pr,_,ha⟩|z⟩:=sr.letgo (a:=a) (tT (X:=X)) e0 e1 I
  ·refine h _ aa s σ H' D I' ⟨hid',?_,q.mono sm⟩
   have:=sr'.mark (i:=i) (s:=.ob (.dRs l)) ⟨a,a1,bs,ha,pr⟩ id
   rwa [tL] at this
  ·exact absurd a1 z
 ·exact q.elim
end
def qi(i:Nat)(ρ:ax):Option (List (aT×D)):=match ρ[i]? with
 |some (.ob (.dR kvs))=>some kvs
 |_=>none
theorem pB {i:Nat}{ρ:ax}{kvs:List (aT×D)}(h:qi i ρ=some kvs):ρ[i]? =some (.ob (.dR kvs)):=by
 unfold qi at h;split at h
 ·cases h;assumption
 ·cases h
def jL(i:Nat)(ρ:ax):Option (List (List (aT×D))):=match ρ[i]? with
 |some (.ob (.dRs l))=>some l
 |_=>none
theorem mJ {i:Nat}{ρ:ax}{kvs:List (List (aT×D))}(h:jL i ρ=some kvs):ρ[i]? =some (.ob (.dRs kvs)):=by
 unfold jL at h;split at h
 ·cases h;assumption
 ·cases h
def yr(K:W.Frag)(W:Hp)(v:V)(kvs:List (aT×D)):Prop:= ∃b,v=.ref b/\DRd K W b kvs
section
variable {X:Cx}{c:Ct}{k1:Kd}{e tg:Expr}{fe:FE}{pos py:Pos}{x y:Str}
def o6(i:Nat)(fk:FE):FE:=λρ=>(qi i ρ).bind λkvs=>((fk ρ).bind ou).bind λk=>ee kvs k
theorem sX(i:Nat)(hu:X.A.units+1<cLine)(he:DP X c k1 e fe)(hs:uB e)(hN:X.N[i]? =some y:=by rfl)(hv':oW X.env.scope y:=by first|exact Or.inl rfl|exact Or.inr (Or.inl rfl)|exact Or.inr (Or.inr rfl))(hd:(y==("__debug__":Str))=false:=by decide)
 (hcd:(y==("__classdict__":Str))=false:=by decide):DP X c .s (.Subscript (.Name y py) e pos) (o6 i fe):=λhid ρ=>
 PE.imp (sk hu (pv i hN hv' hd hcd) (he hid ρ) hs) λσ H Q hq_=>by
  obtain⟨sr,d,hd,q⟩:=hq_
  obtain⟨kvs,e0,hd⟩:=Option.bind_eq_some_iff.mp hd
  obtain⟨kk,e1,hd⟩:=Option.bind_eq_some_iff.mp hd
  obtain⟨dk,e3,e4⟩:=Option.bind_eq_some_iff.mp e1
  obtain⟨j,rfl,rfl⟩:=jg e4
  obtain⟨a,a1,o,us,a2,a3,a4⟩:=sr.sl i _ (pB e0)
  refine⟨.ref a,a1,sr,_,e3,λz H2 s2 r2=>?_⟩
  have i1:=(RK.b k1 r2 λa n=>sr.fresh n).int
  cases i1
  have hh:H2 a=some (.frz o (.dK us)):=s2 _ _ (di _ _ _ _ a2)
  have rr:KRl X.K (vw H2 hid) us kvs:=⟨a3,a4.mono (aH s2)⟩
  rcases rr.val (Sum.inl j) with⟨v1,v2⟩|⟨v,d',v1,v2,v3⟩
  ·rw[v2] at hd;cases hd
  ·rw[v2] at hd;cases hd
   exact⟨a,v,rfl,v1▸ .inl ⟨us,Sum.inl j,.inr ⟨o,hh⟩,rfl,rfl⟩,q _ H2 s2 v3⟩
theorem tf(i:Nat)(hN:X.N[i]? =some y:=by rfl)(hv':oW X.env.scope y:=by first|exact Or.inl rfl|exact Or.inr (Or.inl rfl)|exact Or.inr (Or.inr rfl))(hd:(y==("__debug__":Str))=false:=by decide)
 (hcd:(y==("__classdict__":Str))=false:=by decide):xu (yr X.K) X c tg (.Name y py) (jL i):=λhid ρ=>PI.imp (nO (pv i hN hv' hd hcd)) λσ H R hq_=>by
 obtain⟨sr,ds,e,q⟩:=hq_
 obtain⟨a,a1,bs,a2,a3⟩:=sr.sl i _ (mJ e)
 have h1:SqL X.K (vw H hid) a (bs.map V.ref):=SqL.of a2
 refine⟨.ref a,a1,a,rfl,⟨_,(di _ _).seq h1⟩,q _ H (Same.refl _) ⟨λj d H' e _ w=>?_,λH' _ w=>⟨_,w.seq h1,by rw[List.length_map,(L2.Paired.len a3)];exact Nat.le_refl _⟩⟩⟩
 obtain⟨b,e1,r1⟩:=L2.Paired.get a3 e
 have e1':(bs.map V.ref)[j]? =some (.ref b):=by rw[List.getElem?_map,e1];rfl
 refine⟨⟨_,.ref b,w.seq h1,e1'⟩,λy H2 ⟨e2,e3⟩=>?_⟩
 subst e2;have:=e3 _ (w.seq h1)
 rw[e1'] at this;cases this;exact⟨Same.refl _,λhid' _ sw=>⟨b,rfl,r1.mono sw⟩⟩
def gR(i:Nat):List (aT×D)->ax->Option ax:=λd ρ=>some (ρ.set i (.ob (.dR d)))
theorem uC(i:Nat)(hn:X.N.Nodup)(hi:X.N[i]? =some x:=by rfl)(hx:qX X.env.scope x:=by first|exact Or.inl rfl|exact Or.inr rfl)(hf:X.fn x=true\/X.env.scope.names.lookup x=some .local:=by first|exact .inl rfl|exact .inr rfl|assumption):
 w8 (yr X.K) X c (.Name x pos) (gR i):=λhid ρ d=>PG.imp (oD (i:=i) hn hi hx hf) λv σ H Q hq_=>by
 obtain⟨sr,⟨b,hv,r⟩,ρ',e,q⟩:=hq_
 cases e
 subst hv;have nf:hid b=false:=by obtain⟨_,_,w,_⟩:=r;exact(vw_some.mp w).1
 refine q _ (SR.setD (a:=b) (b:=.dR d) sr r (sr.notOw nf) i) λj o=>?_
 have ne:j≠i:=λe=>by
  subst e
  by_cases lt:j<ρ.length
  ·rw[List.getElem?_set_self lt] at o;exact o
  ·rw[List.getElem?_eq_none (by simpa using lt)] at o;exact o
 rw[List.getElem?_set_ne (Ne.symm ne)] at o⊢;exact⟨o,rfl⟩
theorem uM {n i:Nat}(h:n<=i):kO n (gR i):=λd ρ0 ρ1 e=>by
 cases e
 exact⟨by simp,λj hj=>List.getElem?_set_ne (by omega)⟩
end
section
variable {X:Cx}{c:Ct}{k:Kd}{pos pos' p1 p2 p3:Pos}{x:Str}
def tV(i:Nat):FS:=λρ=>.nx (ρ.set i (.ob (.nst [.k [],.k []])))
theorem vJ(i:Nat)(hn:X.N.Nodup)(hi:X.N[i]? =some x:=by rfl)(hx:qX X.env.scope x:=by first|exact Or.inl rfl|exact Or.inr rfl)(hs:swapsWith (.List [.Dict [] [] p1,.Dict [] [] p2] p3) (some (.Name x pos')) pos.line X.env=pure false:=by rfl)
 (hf:X.fn x=true\/X.env.scope.names.lookup x=some .local:=by first|exact .inl rfl|exact .inr rfl|assumption) (h1:starEach [.Dict [] [] p1,.Dict [] [] p2] X.env=(false,eval (.Dict [] [] p1) X.env)::starEach [.Dict [] [] p2] X.env:=by rfl) (h2:starEach [.Dict [] [] p2] X.env=(false,eval (.Dict [] [] p2) X.env)::starEach [] X.env:=by rfl):
 DS X c k (.Assign [.Name x pos'] (.List [.Dict [] [] p1,.Dict [] [] p2] p3) pos) (tV i):=λρ=>PS.imp (PS.post (i6 hn hi hx (rC (cC lY (cC lY fQ h2) h1)) hs hf)) λD σ H hq_=>by
 obtain⟨hid,sr,q⟩:=hq_
 intro d0 n0 d1 n1;refine⟨Nat.le_of_ble_eq_true rfl,λa na aa s I=>?_⟩
 have e01:d1≠d0:=λz=>by subst z;rw[ay] at n1;cases n1
 have n1':H d1=none:=by rw[ar e01] at n1;exact n1
 have ea1:a≠d1:=λz=>by subst z;rw[ay] at na;cases na
 have na1:=na
 rw[ar ea1] at na1;have ea0:a≠d0:=λz=>by subst z;rw[ay] at na1;cases na1
 have na':H a=none:=by rw[ar ea0] at na1;exact na1
 have I1:=I.nest (d:=d0) (p:=a) (u:=.dK []) (by rw[ar (Ne.symm ea0),ar (Ne.symm e01),ay]) trivial
 have I2:=I1.nest (d:=d1) (p:=a) (u:=.dK []) (by rw[ar e01,ar (Ne.symm ea1),ay]) trivial
 have eH:aV (aV (aV (aV (aV H d0 (.dK [])) d1 (.dK [])) a (.lst [.ref d0,.ref d1])) d0 (.nst a (.dK []))) d1 (.nst a (.dK []))=aV (aV (aV H d0 (.nst a (.dK []))) d1 (.nst a (.dK []))) a (.lst [.ref d0,.ref d1]):=by
  funext b;unfold aV
  by_cases b1:b=d1
  ·subst b1;simp[Ne.symm ea1]
  ·by_cases b0:b=d0
   ·subst b0;simp[b1,Ne.symm ea0]
   ·simp[b1,b0]
 refine⟨_,I2,?_⟩
 rw[eH];have m1:aV H d0 (.nst a (.dK [])) d1=none:=by rw[ar e01];exact n1'
 have m2:aV (aV H d0 (.nst a (.dK []))) d1 (.nst a (.dK [])) a=none:=by rw[ar ea1,ar ea0];exact na'
 have s1:=sr.hide (bM n0 (.nst a (.dK []))) n0 ay
 have s2:=s1.hide (bM m1 (.nst a (.dK []))) m1 ay
 have s3:=s2.hide (bM m2 (.lst [.ref d0,.ref d1])) m2 ay
 refine q _ _ (bR (bR (bR hid d0) d1) a) (SR.setD (a:=a) (b:=.nst [.k [],.k []]) s3 ⟨⟨eO,sr.fresh0 na'⟩,[d0,d1],ay,by simp[Ne.symm e01],.cons ⟨⟨bL (bL eO),sr.fresh0 n0⟩,[],by rw[ar (Ne.symm ea0),ar (Ne.symm e01),ay],rfl,.nil⟩ (.cons ⟨⟨bL eO,sr.fresh0 n1'⟩,[],by rw[ar (Ne.symm ea1),ay],rfl,.nil⟩ .nil)⟩ (sr.notOw (sr.fresh na')) i) ?_
 rw[i4 m2,i4 m1,i4 n0];exact Same.refl _
end
def mD(i:Nat):Stmt:=PySem.Challenge.pw_rookborders_k10_corners_put.main.body.getD i (.Pass ⟨0,0,0,0⟩)
structure Bt(mg:Str->Option Value):Prop where
 b_abs:mg "abs"=none
 b_all:mg "all"=none
 b_any:mg "any"=none
 b_bool:mg "bool"=none
 b_enumerate:mg "enumerate"=none
 b_int:mg "int"=none
 b_isinstance:mg "isinstance"=none
 b_len:mg "len"=none
 b_list:mg "list"=none
 b_max:mg "max"=none
 b_min:mg "min"=none
 b_range:mg "range"=none
 b_tuple:mg "tuple"=none
 g_MANY_WAYS: ∃tk,mg "MANY_WAYS"=some (.int 4 tk)
 g_MOST_SIZE: ∃tk,mg "MOST_SIZE"=some (.int 6 tk)
structure Et(K:W.Frag)(mg:Str->Option Value)(kx0 kx1 kx2:Addr):Prop where
 t:ExTab K mg kx0 [("RookError",kx0),("NoMove",kx1),("TooMany",kx2)]
 o_NoMove:W.excIn K kx1 sa "ValueError.__new__"=true
 o_TooMany:W.excIn K kx2 sa "ValueError.__new__"=true
theorem wu:(["square","c","way","rings","crosses","row","free_column","free_row","full_column","full_row","more_rings","more_crosses","mark"]:List Str).Nodup:=by decide+kernel
theorem wg:(["marks","row","column","at","mark"]:List Str).Nodup:=by decide+kernel
theorem xt:(["_law_bag_here","_law_n","_law_plain","_law_by","_law_rings","_law_crosses","_law_c","_law_d","_law_row"]:List Str).Nodup:=by decide+kernel
theorem x8:(["_law_square_here","_law_c","_law_way","_law_n","_law_r","_law_empty","_law_marks","_law_which","_law_column","_law_row","_law_here","_law_across","_law_some"]:List Str).Nodup:=by decide+kernel
theorem xw:(["_law_square_here","_law_c","_law_way","_law_n","_law_r","_law_empty","_law_marks","_law_which","?_law_column","_law_row","_law_here","_law_across","_law_some","_law_column"]:List Str).Nodup:=by decide+kernel
theorem xN:(["_law_square_here","_law_c","_law_way","_law_found","_law_marks","_law_row"]:List Str).Nodup:=by decide+kernel
theorem xr:(["_law_script","_law_k","_law_bag_here","_law_square_here","_law_c","_law_way"]:List Str).Nodup:=by decide+kernel
section
variable {P:Program}{w:World}{K:W.Frag}{mg:Str->Option Value}{base:Heap}{kx0 kx1 kx2:Addr}
abbrev dH:Stmt:=mD 7
abbrev aY:Stmt:=mD 8
abbrev bT:Stmt:=mD 9
abbrev bS:Stmt:=mD 10
abbrev dW:Stmt:=mD 11
abbrev cS:Stmt:=mD 12
abbrev bH:Stmt:=mD 13
abbrev bo:Stmt:=mD 14
abbrev cx:Stmt:=mD 16
abbrev cM:Stmt:=mD 17
abbrev cy:Stmt:=mD 18
abbrev cj:Stmt:=mD 19
abbrev bP:Stmt:=mD 20
abbrev cT:Stmt:=mD 21
abbrev cz:Stmt:=mD 22
abbrev fM:Stmt:=mD 23
theorem pp:FnScope ["way"] ["way"] (am dH):=⟨rfl,rfl,rfl,by decide+kernel,rfl,by decide+kernel,by decide+kernel⟩
def rM:FS:=
 aM (lZ ml ub (aq (.int 0)) (ag 0) (aq (.int 4)))
def i8:List D->Option D:=gu .s 1 rM
theorem rQ(B:Bt mg)(F:Df K mg "is_way" dH ["way"])(ET:Et K mg kx0 kx1 kx2):Cl P w K mg base 1 "is_way" ["way"] (gB K .s 1 i8):=by
 refine cX (k:=0) F pp (by decide) rfl λ_ cdv A outer s H hid E hr=>?_
 exact(aD (ba (wK jy qV dI dI al (af 0) (qP B.g_MANY_WAYS))))
theorem sc_free_and_full:FnScope ["c","r","way","right","up"] ["c","r","way"] (am aY):=⟨rfl,rfl,rfl,by decide+kernel,rfl,by decide+kernel,by decide+kernel⟩
def ie:FS:=
 av (rL 3 4 (ae (ak bj (ag 2) (aq (.int 2))) (ae (ak dh (ag 2) (aq (.int 2))) (ah))))
 (aM (cH (ae (ak aG (ag 0) (ag 3)) (ae (ak aG (ag 1) (ag 4)) (ae (ak dX (ak aG (ag 0) (aq (.int 1))) (ag 3)) (ae (ak dX (ak aG (ag 1) (aq (.int 1))) (ag 4)) (ah)))))))
def aZ:List D->Option D:=gu .s 5 ie
theorem ij(B:Bt mg)(F:Df K mg "free_and_full" aY ["c","r","way"])(ET:Et K mg kx0 kx1 kx2):Cl P w K mg base 1 "free_and_full" ["c","r","way"] (gB K .s 3 aZ):=by
 refine cX (k:=0) F sc_free_and_full (by decide) rfl λ_ cdv A outer s H hid E hr=>?_
 exact(ao (uI 3 4 rfl sc_free_and_full.nd (ai (dg (af 2) al) (ai (il (af 2) al) az)))
  (aD (ba (eZ (ai (bC (af 0) (af 3)) (ai (bC (af 1) (af 4)) (ai (gd (bC (af 0) al) (af 3)) (ai (gd (bC (af 1) al) (af 4)) az))))))))
theorem ju:FnScope ["mark","row","to"] ["mark","row","to"] (am bT):=⟨rfl,rfl,rfl,by decide+kernel,rfl,by decide+kernel,by decide+kernel⟩
def kY:FS:=
 av (dL (bw (ak gG (ag 0) (ag 1))) (aM (ag 2)) (skip))
 (aM (lj (bw (ak nu (ag 0) (ag 1))) (ak aG (ag 0) (aq (.int 1))) (ag 0)))
def dq:List D->Option D:=gu .s 3 kY
theorem kL(B:Bt mg)(F:Df K mg "row_parted" bT ["mark","row","to"])(ET:Et K mg kx0 kx1 kx2):Cl P w K mg base 1 "row_parted" ["mark","row","to"] (gB K .s 3 dq):=by
 refine cX (k:=0) F ju (by decide) rfl λ_ cdv A outer s H hid E hr=>?_
 exact(ao (eD (bV (eT hr.units) gl (af 0) (af 1) (bu _)) (aD (ba (af 2))) cq)
  (aD (ba (nR (by decide) (bV oy dI (af 0) (af 1) (bu _)) (bC (af 0) al) (af 0)))))
theorem sc_corner_put:FnScope ["square","c","way","rings","crosses","row","free_column","free_row","full_column","full_row","more_rings","more_crosses"] ["square","c","way"] (am bS):=⟨rfl,rfl,rfl,by decide+kernel,rfl,by decide+kernel,by decide+kernel⟩
def kM:FX:=
 fJ (jh (cA (gT 2 (dB (gN 3) (dB (gN 4) (ik)))) (pu (ag 0))))
 (fJ (nN (jt (dM (bw (lZ ml ub (aq (.int 0)) (ag 1) (aj cf (ae (ag 3) (ah)))))) (dM (dY (aj (nF 1 i8) (ae (ag 2) (ah)))))) (lE ⟨"NoMove",0⟩ (ae (aq (.str "there is no such column or way")) (ah))) (jh skip))
 (fJ (nN (bw (ak vC (aj cf (ae (ag 3) (ah))) (aq (.int 6)))) (lE ⟨"TooMany",0⟩ (ae (aq (.str "the square has no room for a corner")) (ah))) (jh skip))
 (jh (av (aU 5 (ak aO (ag 4) (ag 1)))
 (av (cA (gT 4 (dB (gN 6) (dB (gN 7) (dB (gN 8) (dB (gN 9) (ik)))))) (pu (aj (nF 3 aZ) (ae (ag 1) (ae (ag 5) (ae (ag 2) (ah)))))))
 (av (dQ 10 (bb 1 (fj (ag 3)) (gN 12) (cI) (aj (nF 3 dq) (ae (ag 12) (ae (ag 5) (ae (ag 7) (ah)))))))
 (av (dQ 11 (bb 1 (fj (ag 4)) (gN 12) (cI) (aj (nF 3 dq) (ae (ag 12) (ae (ag 5) (ae (ag 9) (ah)))))))
 (av (fh (aK 10 2 mw (cu (ae (ag 8) (ae (ag 9) (ah))))))
 (av (fh (aK 11 2 mw (cu (ae (ag 8) (ae (ag 7) (ah))))))
 (aM (cH (ae (aj bQ (ae (dl 10) (ah))) (ae (aj bQ (ae (dl 11) (ah))) (ah))))))))))))))
def cm:List D->Option (Except Ex D):=rU .s 12 kM
theorem ki(B:Bt mg)(F:Df K mg "corner_put" bS ["square","c","way"])(ET:Et K mg kx0 kx1 kx2)(aL:Cl P w K mg base 1 "free_and_full" ["c","r","way"] (gB K .s 3 aZ))(du:Cl P w K mg base 1 "row_parted" ["mark","row","to"] (gB K .s 3 dq))(i5:Cl P w K mg base 1 "is_way" ["way"] (gB K .s 1 i8)):ClX P w K mg base 2 "corner_put" ["square","c","way"] (vW K .s 3 cm):=by
 refine mx (k:=1) F sc_corner_put (by decide) rfl λ_ cdv A outer s H hid E hr=>?_
 exact(eF (me (i0 (DP.ef (af 0)) (fH (n:=2) rfl (bc (aE 3 sc_corner_put.nd) (bc (aE 4 sc_corner_put.nd) fE)))))
  (eF (mL (DT.nox (DW.dt (lI (fW (qT jy qV dI dI al (af 1) (bp bh eW B.b_len (aI (af 3) bf) (hv:=by kernel_rfl)))) (iP (fW (h7 (en i5 (hr.mono (by decide)) (ai (af 2) az)))))))) (i7 (gS (n:=0) (ET.t.row _ (List.Mem.tail _ (List.Mem.head _))).mg (ET.t.row _ (List.Mem.tail _ (List.Mem.head _))).ns ET.o_NoMove hr.hd (DA.nox (ai mQ az)))) iO)
  (eF (mL (DT.nox (bV ua dI (bp bh eW B.b_len (aI (af 3) bf) (hv:=by kernel_rfl)) (qP B.g_MOST_SIZE) (bu _))) (i7 (gS (n:=0) (ET.t.row _ (List.Mem.tail _ (List.Mem.tail _ (List.Mem.head _)))).mg (ET.t.row _ (List.Mem.tail _ (List.Mem.tail _ (List.Mem.head _)))).ns ET.o_TooMany hr.hd (DA.nox (ai mQ az)))) iO)
  (jG (ao (bA 5 sc_corner_put.nd (aS aF aQ (af 4) (af 1) (λ_ _=>rfl)))
  (ao (i0 (DP.ef (en aL (hr.mono (by decide)) (ai (af 1) (ai (af 5) (ai (af 2) az))))) (fH (n:=4) rfl (bc (aE 6 sc_corner_put.nd) (bc (aE 7 sc_corner_put.nd) (bc (aE 8 sc_corner_put.nd) (bc (aE 9 sc_corner_put.nd) fE))))))
  (ao (kT 10 (N':=["square","c","way","rings","crosses","row","free_column","free_row","full_column","full_row","more_rings","more_crosses","mark"]) rfl sc_corner_put.nd (fz (Nat.le_of_ble_eq_true rfl)) (DIp.b (gA (af 3))) (λ_ _ _ _=>(aE 12 wu)) (λ_ _ _ _=>eQ) (λ_ _ _ _=>(en du (hr.mono (by decide)) (ai (af 12) (ai (af 5) (ai (af 7) az))))))
  (ao (kT 11 (N':=["square","c","way","rings","crosses","row","free_column","free_row","full_column","full_row","more_rings","more_crosses","mark"]) rfl sc_corner_put.nd (fz (Nat.le_of_ble_eq_true rfl)) (DIp.b (gA (af 4))) (λ_ _ _ _=>(aE 12 wu)) (λ_ _ _ _=>eQ) (λ_ _ _ _=>(en du (hr.mono (by decide)) (ai (af 12) (ai (af 5) (ai (af 9) az))))))
  (ao (ko (iA 10 jF jU PySem.F.slot_list_insert PySem.F.type_list_insert (DA.gf (ai (af 8) (ai (af 9) az)))))
  (ao (ko (iA 11 jF jU PySem.F.slot_list_insert PySem.F.type_list_insert (DA.gf (ai (af 8) (ai (af 7) az)))))
  (aD (ba (eZ (ai (cn bF dJ B.b_tuple (aI (dD 10) bf) (hv:=by kernel_rfl)) (ai (cn bF dJ B.b_tuple (aI (dD 11) bf) (hv:=by kernel_rfl)) az)))))))))))))))
theorem sc_is_put:FnScope ["square","c","r","way","rings","crosses","free_column","free_row","full_column","full_row"] ["square","c","r","way"] (am dW):=⟨rfl,rfl,rfl,by decide+kernel,rfl,by decide+kernel,by decide+kernel⟩
def rR:FS:=
 av (cA (gT 2 (dB (gN 4) (dB (gN 5) (ik)))) (pu (ag 0)))
 (av (cA (gT 4 (dB (gN 6) (dB (gN 7) (dB (gN 8) (dB (gN 9) (ik)))))) (pu (aj (nF 3 aZ) (ae (ag 1) (ae (ag 2) (ae (ag 3) (ah)))))))
 (av (dL (bw (ak iX (cH (ae (ak aO (ag 4) (ag 8)) (ae (ak aO (ag 5) (ag 8)) (ah)))) (cH (ae (ag 9) (ae (ag 7) (ah)))))) (aM (aq (.bl false))) (skip))
 (aM (vA (jn (bw (ak gG (ak aO (ag 5) (ag 6)) (ag 9))) (bw (ak iX (ak aO (ag 4) (ag 6)) (ag 7))))))))
def jb:List D->Option D:=gu .s 10 rR
theorem pZ(B:Bt mg)(F:Df K mg "is_put" dW ["square","c","r","way"])(ET:Et K mg kx0 kx1 kx2)(aL:Cl P w K mg base 1 "free_and_full" ["c","r","way"] (gB K .s 3 aZ)):Cl P w K mg base 2 "is_put" ["square","c","r","way"] (gB K .s 4 jb):=by
 refine cX (k:=1) F sc_is_put (by decide) rfl λ_ cdv A outer s H hid E hr=>?_
 exact(ao (i0 (DP.ef (af 0)) (fH (n:=2) rfl (bc (aE 4 sc_is_put.nd) (bc (aE 5 sc_is_put.nd) fE))))
  (ao (i0 (DP.ef (en aL (hr.mono (by decide)) (ai (af 1) (ai (af 2) (ai (af 3) az))))) (fH (n:=4) rfl (bc (aE 6 sc_is_put.nd) (bc (aE 7 sc_is_put.nd) (bc (aE 8 sc_is_put.nd) (bc (aE 9 sc_is_put.nd) fE))))))
  (ao (eD (bV (g9 hr.units) jY (eZ (ai (aS aF aQ (af 4) (af 8) (λ_ _=>rfl)) (ai (aS aF aQ (af 5) (af 8) (λ_ _=>rfl)) az))) (eZ (ai (af 9) (ai (af 7) az))) (bu _)) (aD (ba mz)) cq)
  (aD (ba (vK (iV (eT hr.units) gl (aS aF aQ (af 5) (af 6) (λ_ _=>rfl)) (af 9) (bu _)) (uR (iV (g9 hr.units) jY (aS aF aQ (af 4) (af 6) (λ_ _=>rfl)) (af 7) (bu _)))))))))
theorem sc_way_put:FnScope ["square","c","r","last","way"] ["square","c","r"] (am cS):=⟨rfl,rfl,rfl,by decide+kernel,rfl,by decide+kernel,by decide+kernel⟩
def oI:FS:=
 av (aU 3 (ak dX (aj cf (ae (ak aO (ag 0) (aq (.int 0))) (ah))) (aq (.int 2))))
 (av (dL (jt (dM (bw (lZ ml ml (aq (.int 0)) (ag 1) (ag 3)))) (dM (bw (lZ ml ml (aq (.int 0)) (ag 2) (ag 3))))) (aM (aq .non)) (skip))
 (av (cQ (cu (bn (ae (aq (.int 4)) (ah)))) (gN 4) (dL (dY (aj (nF 4 jb) (ae (ag 0) (ae (ag 1) (ae (ag 2) (ae (ag 4) (ah))))))) (aM (ag 4)) (skip)))
 (aM (aq .non))))
def gV:List D->Option D:=gu .s 5 oI
theorem pC(B:Bt mg)(F:Df K mg "way_put" cS ["square","c","r"])(ET:Et K mg kx0 kx1 kx2)(iZ:Cl P w K mg base 2 "is_put" ["square","c","r","way"] (gB K .s 4 jb)):Cl P w K mg base 3 "way_put" ["square","c","r"] (gB K .s 3 gV):=by
 refine cX (k:=2) F sc_way_put (by decide) rfl λ_ cdv A outer s H hid E hr=>?_
 exact(ao (bA 3 sc_way_put.nd (gd (bp bh eW B.b_len (aI (aS aF aQ (af 0) al (λ_ _=>rfl)) bf) (hv:=by kernel_rfl)) al))
  (ao (eD (DW.dt (lI (fW (qT jy jy dI dI al (af 1) (af 3))) (iP (fW (qT jy jy dI dI al (af 2) (af 3)))))) (aD (ba nv)) cq)
  (ao (fA PassesOwn.never rfl (DIp.e (bN B.b_range (ai (qP B.g_MANY_WAYS) az))) (aE 4 sc_way_put.nd) (aD (eD (h7 (en iZ (hr.mono (by decide)) (ai (af 0) (ai (af 1) (ai (af 2) (ai (af 4) az)))))) (aD (ba (af 4))) cq)))
  (aD (ba nv)))))
theorem je:FnScope ["marks","row","column"] ["marks","row","column"] (am bH):=⟨rfl,rfl,rfl,by decide+kernel,rfl,by decide+kernel,by decide+kernel⟩
def jk:FS:=
 aM (aj bQ (ae (bb 2 (sx (ag 0)) (gT 2 (dB (gN 3) (dB (gN 4) (ik)))) (bw (ak iX (ag 3) (ag 2))) (lj (bw (ak nu (ag 4) (ag 1))) (ak dX (ag 4) (aq (.int 1))) (ag 4))) (ah)))
def cW:List D->Option D:=gu .s 3 jk
theorem js(B:Bt mg)(F:Df K mg "rows_joined" bH ["marks","row","column"])(ET:Et K mg kx0 kx1 kx2):Cl P w K mg base 1 "rows_joined" ["marks","row","column"] (gB K .s 3 cW):=by
 refine cX (k:=0) F je (by decide) rfl λ_ cdv A outer s H hid E hr=>?_
 exact(aD (ba (cn bF dJ B.b_tuple (aI (gj (N':=["marks","row","column","at","mark"]) rfl (uL (iE (fz (Nat.le_of_ble_eq_true rfl)) (iE (fz (Nat.le_of_ble_eq_true rfl)) pi))) (DIp.b (rD (af 0) B.b_enumerate)) (λ_ _ _ _=>(fH (n:=2) rfl (bc (aE 3 wg) (bc (aE 4 wg) fE)))) (λ_ _ _ _=>(tN (bV (g9 hr.units) jY (af 3) (af 2) (bu _)))) (λ_ _ _ _=>(nR (by decide) (bV oy dI (af 4) (af 1) (bu _)) (gd (af 4) al) (af 4)))) bf) (hv:=by kernel_rfl))))
theorem sc_corner_taken:FnScope ["square","c","r","way","rings","crosses","full_column"] ["square","c","r"] (am bo):=⟨rfl,rfl,rfl,by decide+kernel,rfl,by decide+kernel,by decide+kernel⟩
def iN:FX:=
 fJ (jh (aU 3 (aj (nF 3 gV) (ae (ag 0) (ae (ag 1) (ae (ag 2) (ah)))))))
 (fJ (nN (bw (ak (xi false) (ag 3) (aq .non))) (lE ⟨"NoMove",0⟩ (ae (aq (.str "there is no corner to be taken out")) (ah))) (jh skip))
 (jh (av (cA (gT 2 (dB (gN 4) (dB (gN 5) (ik)))) (pu (ag 0)))
 (av (aU 6 (ak aO (aj (nF 3 aZ) (ae (ag 1) (ae (ag 2) (ae (ag 3) (ah))))) (aq (.int 2))))
 (aM (cH (ae (aj (nF 3 cW) (ae (ag 4) (ae (ag 2) (ae (ag 6) (ah))))) (ae (aj (nF 3 cW) (ae (ag 5) (ae (ag 2) (ae (ag 6) (ah))))) (ah)))))))))
def cg:List D->Option (Except Ex D):=rU .s 7 iN
theorem iM(B:Bt mg)(F:Df K mg "corner_taken" bo ["square","c","r"])(ET:Et K mg kx0 kx1 kx2)(hZ:Cl P w K mg base 3 "way_put" ["square","c","r"] (gB K .s 3 gV))(aL:Cl P w K mg base 1 "free_and_full" ["c","r","way"] (gB K .s 3 aZ))(cY:Cl P w K mg base 1 "rows_joined" ["marks","row","column"] (gB K .s 3 cW)):ClX P w K mg base 4 "corner_taken" ["square","c","r"] (vW K .s 3 cg):=by
 refine mx (k:=3) F sc_corner_taken (by decide) rfl λ_ cdv A outer s H hid E hr=>?_
 exact(eF (me (bA 3 sc_corner_taken.nd (en hZ (hr.mono (by decide)) (ai (af 0) (ai (af 1) (ai (af 2) az))))))
  (eF (mL (DT.nox (bV wV (wW false) (af 3) nv (bu _))) (i7 (gS (n:=0) (ET.t.row _ (List.Mem.tail _ (List.Mem.head _))).mg (ET.t.row _ (List.Mem.tail _ (List.Mem.head _))).ns ET.o_NoMove hr.hd (DA.nox (ai mQ az)))) iO)
  (jG (ao (i0 (DP.ef (af 0)) (fH (n:=2) rfl (bc (aE 4 sc_corner_taken.nd) (bc (aE 5 sc_corner_taken.nd) fE))))
  (ao (bA 6 sc_corner_taken.nd (aS aF aQ (en aL (hr.mono (by decide)) (ai (af 1) (ai (af 2) (ai (af 3) az)))) al (λ_ _=>rfl)))
  (aD (ba (eZ (ai (en cY (hr.mono (by decide)) (ai (af 4) (ai (af 2) (ai (af 6) az)))) (ai (en cY (hr.mono (by decide)) (ai (af 5) (ai (af 2) (ai (af 6) az)))) az))))))))))
theorem lD:FnScope ["_law_script","_law_k"] ["_law_script","_law_k"] (am cx):=⟨rfl,rfl,rfl,by decide+kernel,rfl,by decide+kernel,by decide+kernel⟩
def nG:FS:=
 av (dL (bw (ak ub (ag 1) (aj cf (ae (ag 0) (ah))))) (aM (ak aO (ag 0) (ag 1))) (skip))
 (aM (aq (.int 0)))
def ge:List D->Option D:=gu .s 2 nG
theorem mR(B:Bt mg)(F:Df K mg "_law_cell" cx ["_law_script","_law_k"])(ET:Et K mg kx0 kx1 kx2):Cl P w K mg base 1 "_law_cell" ["_law_script","_law_k"] (gB K .s 2 ge):=by
 refine cX (k:=0) F lD (by decide) rfl λ_ cdv A outer s H hid E hr=>?_
 exact(ao (eD (bV qV dI (af 1) (bp bh eW B.b_len (aI (af 0) bf) (hv:=by kernel_rfl)) (bu _)) (aD (ba (aS aF aQ (af 0) (af 1) (λ_ _=>rfl)))) cq)
  (aD (ba al)))
theorem sc_law_bag:FnScope ["_law_script","_law_at","_law_cell_here","_law_mix","_law_k"] ["_law_script","_law_at"] (am cM):=⟨rfl,rfl,rfl,by decide+kernel,rfl,by decide+kernel,by decide+kernel⟩
def pg:FS:=
 av (aU 2 (ak bj (aj lS (ae (aj (nF 2 ge) (ae (ag 0) (ae (ag 1) (ah)))) (ah))) (ak bW (ak bW (ak cF (aq (.int 10)) (aq (.int 60))) (ak cF (aq (.int 10)) (aq (.int 60)))) (ak cF (aq (.int 10)) (aq (.int 60))))))
 (av (dL (bw (ak vC (ag 2) (ak cF (aq (.int 10)) (aq (.int 18))))) (aM (eV (ae (ag 2) (ae (aq (.int 0)) (ah))))) (skip))
 (av (aU 3 (ak bj (ak aG (ak aG (ag 2) (ak bW (aq (.int 7919)) (ag 1))) (aq (.int 17))) (aq (.int 2147483647))))
 (av (cQ (cu (bn (ae (aj gC (ae (aj cf (ae (ag 0) (ah))) (ae (aq (.int 9)) (ah)))) (ah)))) (gN 4) (aU 3 (ak bj (ak aG (ak aG (ak cF (ag 3) (aq (.int 5))) (ak bj (ak aO (ag 0) (ag 4)) (aq (.int 2147483629)))) (ak bW (aq (.int 31)) (ag 4))) (aq (.int 2147483647)))))
 (aM (eV (ae (ag 3) (ae (aq (.int 1)) (ah))))))))
def fI:List D->Option D:=gu .n 5 pg
theorem pz(B:Bt mg)(F:Df K mg "_law_bag" cM ["_law_script","_law_at"])(ET:Et K mg kx0 kx1 kx2)(gb:Cl P w K mg base 1 "_law_cell" ["_law_script","_law_k"] (gB K .s 2 ge)):Cl P w K mg base 2 "_law_bag" ["_law_script","_law_at"] (gB K .n 2 fI):=by
 refine cX (k:=1) F sc_law_bag (by decide) rfl λ_ cdv A outer s H hid E hr=>?_
 exact(ao (bA 2 sc_law_bag.nd (dg (bp rf vk B.b_abs (aI (en gb (hr.mono (by decide)) (ai (af 0) (ai (af 1) az))) bf) (hv:=by kernel_rfl)) (ft (ft (gK al al) (gK al al)) (gK al al))))
  (ao (eD (bV ua dI (af 2) (gK al al) (bu _)) (aD (ba (kf (ai (af 2) (ai al az))))) cq)
  (ao (bA 3 sc_law_bag.nd (dg (bC (bC (af 2) (ft al (af 1))) al) al))
  (ao (fA PassesOwn.never rfl (DIp.e (bN B.b_range (ai (bp (jE rfl) oA B.b_min (aI (bp bh eW B.b_len (aI (af 0) bf) (hv:=by kernel_rfl)) (aI al bf)) (hv:=by kernel_rfl)) az))) (aE 4 sc_law_bag.nd) (aD (bA 3 sc_law_bag.nd (dg (bC (bC (gK (af 3) al) (dg (aS aF aQ (af 0) (af 4) (λ_ _=>rfl)) al)) (ft al (af 4))) al))))
  (aD (ba (kf (ai (af 3) (ai al az)))))))))
theorem sc_law_take:FnScope ["_law_bag_here","_law_many","_law_digit"] ["_law_bag_here","_law_many"] (am cy):=⟨rfl,rfl,rfl,by decide+kernel,rfl,by decide+kernel,by decide+kernel⟩
def nA:FS:=
 av (dL (bw (ak gG (ak aO (dl 0) (aq (.int 1))) (aq (.int 0)))) (av (aU 2 (ak bj (ak aO (dl 0) (aq (.int 0))) (ag 1)))
 (av (cA (cG 0 (aq (.int 0))) (pu (ak dh (ak aO (dl 0) (aq (.int 0))) (ag 1))))
 (aM (ag 2)))) (skip))
 (av (cA (cG 0 (aq (.int 0))) (pu (ak bj (ak aG (ak aG (ak cF (ak aO (dl 0) (aq (.int 0))) (aq (.int 5))) (ak bW (aq (.int 48271)) (ak aO (dl 0) (aq (.int 1))))) (aq (.int 11))) (aq (.int 2147483647)))))
 (av (cA (cG 0 (aq (.int 1))) (pu (ak aG (ak aO (dl 0) (aq (.int 1))) (aq (.int 1)))))
 (aM (ak bj (ak dh (ak bj (ak bW (ak aO (dl 0) (aq (.int 0))) (aq (.int 69621))) (aq (.int 2147483629))) (aq (.int 8))) (ag 1)))))
def bO:List D->List D->Option (D×List D):=pA .s 3 nA
theorem nz(B:Bt mg)(F:Df K mg "_law_take" cy ["_law_bag_here","_law_many"])(ET:Et K mg kx0 kx1 kx2):Cl P w K mg base 1 "_law_take" ["_law_bag_here","_law_many"] (oN K .s 1 bO):=by
 refine nB (k:=0) F sc_law_take (by decide) rfl λ_ cdv A outer s H hid a E hr=>?_
 exact(ao (eD (bV (eT hr.units) gl (aS aF aQ (dD 0) al (λ_ _=>rfl)) al (bu _)) (ao (bA 2 sc_law_take.nd (dg (aS aF aQ (dD 0) al (λ_ _=>rfl)) (af 1)))
  (ao (kj (DP.ef (il (aS aF aQ (dD 0) al (λ_ _=>rfl)) (af 1))) (gw 0 al))
  (aD (ba (af 2))))) cq)
  (ao (kj (DP.ef (dg (bC (bC (gK (aS aF aQ (dD 0) al (λ_ _=>rfl)) al) (ft al (aS aF aQ (dD 0) al (λ_ _=>rfl)))) al) al)) (gw 0 al))
  (ao (kj (DP.ef (bC (aS aF aQ (dD 0) al (λ_ _=>rfl)) al)) (gw 0 al))
  (aD (ba (dg (il (dg (ft (aS aF aQ (dD 0) al (λ_ _=>rfl)) al) al) al) (af 1)))))))
theorem sc_law_order:FnScope ["_law_bag_here","_law_n","_law_left","_law_found"] ["_law_bag_here","_law_n"] (am cj):=⟨rfl,rfl,rfl,by decide+kernel,rfl,by decide+kernel,by decide+kernel⟩
def lV:FS:=
 av (dQ 2 (sg (ag 1)))
 (av (dQ 3 (eV (ah)))
 (av (pM (bw (ak iX (dl 2) (eV (ah)))) (fh (aK 3 1 lQ (ei (aK 2 1 jv (ei (aK 0 1 bO (cu (ae (aj cf (ae (dl 2) (ah))) (ah)))) (cu (ah)))) (cu (ah))))) 16)
 (rY 3)))
def er:List D->List D->Option (D×List D):=pA .n 4 lV
theorem mj(B:Bt mg)(F:Df K mg "_law_order" cj ["_law_bag_here","_law_n"])(ET:Et K mg kx0 kx1 kx2)(bG:Cl P w K mg base 1 "_law_take" ["_law_bag_here","_law_many"] (oN K .s 1 bO)):Cl P w K mg base 2 "_law_order" ["_law_bag_here","_law_n"] (oN K .n 1 er):=by
 refine nB (k:=1) F sc_law_order (by decide) rfl λ_ cdv A outer s H hid a E hr=>?_
 exact(ao (kU 2 sc_law_order.nd (fN rfl B.b_list B.b_range (af 1)))
  (ao (kU 3 sc_law_order.nd (kf az))
  (ao (r9 16 PassesOwn.never (bV (g9 hr.units) jY (dD 2) (kf az) (bu _)) (aD (ko (iA 3 oY jB PySem.F.slot_list_append PySem.F.type_list_append (kX (iA 2 vi rl PySem.F.slot_list_pop PySem.F.type_list_pop (kX (iI 0 bG (hr.mono (by decide)) (DA.gf (ai (bp bh eW B.b_len (aI (dD 2) bf) (hv:=by kernel_rfl)) az))) (DA.gf az))) (DA.gf az))))))
  (aD (tF 3)))))
theorem sc_law_square:FnScope ["_law_bag_here","_law_n","_law_plain","_law_by","_law_rings","_law_crosses","_law_c","_law_d"] ["_law_bag_here","_law_n"] (am bP):=⟨rfl,rfl,rfl,by decide+kernel,rfl,by decide+kernel,by decide+kernel⟩
def kc:FS:=
 av (gg 2 (aK 0 1 bO (cu (ae (aq (.int 4)) (ah)))))
 (av (gg 3 (iG aG (pu (aq (.int 1))) (aK 0 1 bO (cu (ae (ak dX (ag 1) (aq (.int 1))) (ah))))))
 (av (gg 4 (aK 0 1 er (cu (ae (ag 1) (ah)))))
 (av (mY 5 (aK 0 1 er (cu (ae (ag 1) (ah)))))
 (av (dL (bw (ak gG (ag 2) (aq (.int 1)))) (av (aU 4 (sg (ag 1)))
 (dQ 5 (bb 1 (fj (ag 4)) (gN 8) (cI) (ak bj (ak aG (ag 8) (ag 3)) (ag 1))))) (skip))
 (av (cQ (cu (bn (ae (ag 1) (ah)))) (gN 6) (av (aU 7 (ak bj (ak aG (ag 6) (aq (.int 1))) (ag 1)))
 (dL (bw (ak gG (ak aO (dl 5) (ag 6)) (ak aO (ag 4) (ag 6)))) (cA (gT 2 (dB (cG 5 (ag 6)) (dB (cG 5 (ag 7)) (ik)))) (pu (cH (ae (ak aO (dl 5) (ag 7)) (ae (ak aO (dl 5) (ag 6)) (ah)))))) (skip))))
 (aM (cH (ae (aj bQ (ae (ag 4) (ah))) (ae (aj bQ (ae (dl 5) (ah))) (ah))))))))))
def dm:List D->List D->Option (D×List D):=pA .s 8 kc
theorem kD(B:Bt mg)(F:Df K mg "_law_square" bP ["_law_bag_here","_law_n"])(ET:Et K mg kx0 kx1 kx2)(bG:Cl P w K mg base 1 "_law_take" ["_law_bag_here","_law_many"] (oN K .s 1 bO))(em:Cl P w K mg base 2 "_law_order" ["_law_bag_here","_law_n"] (oN K .n 1 er)):Cl P w K mg base 3 "_law_square" ["_law_bag_here","_law_n"] (oN K .s 1 dm):=by
 refine nB (k:=2) F sc_law_square (by decide) rfl λ_ cdv A outer s H hid a E hr=>?_
 exact(ao (iy 2 sc_law_square.nd (iI 0 bG (hr.mono (by decide)) (DA.gf (ai al az))))
  (ao (iy 3 sc_law_square.nd (qm (DP.ef al) (iI 0 bG (hr.mono (by decide)) (DA.gf (ai (gd (af 1) al) az)))))
  (ao (iy 4 sc_law_square.nd (DE.toS (iI 0 em (hr.mono (by decide)) (DA.gf (ai (af 1) az)))))
  (ao (tO 5 sc_law_square.nd (iI 0 em (hr.mono (by decide)) (DA.gf (ai (af 1) az))))
  (ao (eD (bV (eT hr.units) gl (af 2) al (bu _)) (ao (bA 4 sc_law_square.nd (DP.toS (fN rfl B.b_list B.b_range (af 1))))
  (aD (kT 5 (N':=["_law_bag_here","_law_n","_law_plain","_law_by","_law_rings","_law_crosses","_law_c","_law_d","_law_row"]) rfl sc_law_square.nd (fz (Nat.le_of_ble_eq_true rfl)) (DIp.b (gA (af 4))) (λ_ _ _ _=>(aE 8 xt)) (λ_ _ _ _=>eQ) (λ_ _ _ _=>(dg (bC (af 8) (af 3)) (af 1)))))) cq)
  (ao (fA PassesOwn.never rfl (DIp.e (bN B.b_range (ai (af 1) az))) (aE 6 sc_law_square.nd) (ao (bA 7 sc_law_square.nd (dg (bC (af 6) al) (af 1)))
  (aD (eD (bV (eT hr.units) gl (aS aF aQ (dD 5) (af 6) (λ_ _=>rfl)) (aS aF aQ (af 4) (af 6) (λ_ _=>rfl)) (bu _)) (aD (kj (DP.ef (eZ (ai (aS aF aQ (dD 5) (af 7) (λ_ _=>rfl)) (ai (aS aF aQ (dD 5) (af 6) (λ_ _=>rfl)) az)))) (sv (n:=2) rfl (ma (gw 5 (af 6)) (ma (gw 5 (af 7)) tx))))) cq))))
  (aD (ba (eZ (ai (cn bF dJ B.b_tuple (aI (af 4) bf) (hv:=by kernel_rfl)) (ai (cn bF dJ B.b_tuple (aI (dD 5) bf) (hv:=by kernel_rfl)) az)))))))))))
theorem sc_law_put:FnScope ["_law_square_here","_law_c","_law_way","_law_n","_law_r","_law_empty","_law_marks","_law_which","_law_column","_law_row","_law_here","_law_across"] ["_law_square_here","_law_c","_law_way"] (am cT):=⟨rfl,rfl,rfl,by decide+kernel,rfl,by decide+kernel,by decide+kernel⟩
def pf:FS:=
 av (aU 3 (aj cf (ae (ak aO (ag 0) (aq (.int 0))) (ah))))
 (av (aU 4 (ak aO (ak aO (ag 0) (aq (.int 1))) (ag 1)))
 (av (aU 5 (cH (ae (ak aG (ag 1) (ak bj (ag 2) (aq (.int 2)))) (ae (ak aG (ag 4) (ak dh (ag 2) (aq (.int 2)))) (ah)))))
 (av (tV 6)
 (av (cQ (cu (bn (ae (aq (.int 2)) (ah)))) (gN 7) (cQ (cu (bn (ae (ag 3) (ah)))) (gN 8) (av (aU 9 (ak aO (ak aO (ag 0) (ag 7)) (ag 8)))
 (dL (jt (bw (ak gG (ag 7) (aq (.int 0)))) (bw (ak iX (ag 8) (ag 1)))) (av (aU 10 (lj (bw (ak gG (ag 8) (ag 1))) (ak aO (ag 5) (aq (.int 0))) (ak aG (ag 8) (aj jl (ae (ak nu (ag 8) (ag 1)) (ah))))))
 (dS 6 (ag 7) (ag 10) (lj (bw (ak gG (ag 9) (ag 4))) (ak aO (ag 5) (aq (.int 1))) (ak aG (ag 9) (aj jl (ae (ak nu (ag 9) (ag 4)) (ah))))))) (skip)))))
 (av (aU 11 (cH (ae (ak dX (ak aG (ak bW (aq (.int 2)) (ag 1)) (aq (.int 1))) (ak aO (ag 5) (aq (.int 0)))) (ae (ak dX (ak aG (ak bW (aq (.int 2)) (ag 4)) (aq (.int 1))) (ak aO (ag 5) (aq (.int 1)))) (ah)))))
 (av (dS 6 (aq (.int 0)) (ak aO (ag 11) (aq (.int 0))) (ak aO (ag 11) (aq (.int 1))))
 (av (dS 6 (aq (.int 1)) (ak aO (ag 5) (aq (.int 0))) (ak aO (ag 11) (aq (.int 1))))
 (av (dS 6 (aq (.int 1)) (ak aO (ag 11) (aq (.int 0))) (ak aO (ag 5) (aq (.int 1))))
 (pL 6 (aM (aj bQ (ae (bb 1 (jL 6) (gR 12) (cI) (aj bQ (ae (bb 1 (bn (ae (ak aG (ag 3) (aq (.int 1))) (ah))) (gN 13) (cI) (o6 12 (ag 13))) (ah)))) (ah)))))))))))))
def eG:List D->Option D:=gu .s 12 pf
theorem pI(B:Bt mg)(F:Df K mg "_law_put" cT ["_law_square_here","_law_c","_law_way"])(ET:Et K mg kx0 kx1 kx2):Cl P w K mg base 1 "_law_put" ["_law_square_here","_law_c","_law_way"] (gB K .s 3 eG):=by
 refine cX (k:=0) F sc_law_put (by decide) rfl λ_ cdv A outer s H hid E hr=>?_
 exact(ao (bA 3 sc_law_put.nd (bp bh eW B.b_len (aI (aS aF aQ (af 0) al (λ_ _=>rfl)) bf) (hv:=by kernel_rfl)))
  (ao (bA 4 sc_law_put.nd (aS aF aQ (aS aF aQ (af 0) al (λ_ _=>rfl)) (af 1) (λ_ _=>rfl)))
  (ao (bA 5 sc_law_put.nd (eZ (ai (bC (af 1) (dg (af 2) al)) (ai (bC (af 4) (il (af 2) al)) az))))
  (ao (vJ 6 sc_law_put.nd)
  (ao (fA PassesOwn.never rfl (DIp.e (bN B.b_range (ai al az))) (aE 7 sc_law_put.nd) (aD (fA PassesOwn.never rfl (DIp.e (bN B.b_range (ai (af 3) az))) (aE 8 sc_law_put.nd) (ao (bA 9 sc_law_put.nd (aS aF aQ (aS aF aQ (af 0) (af 7) (λ_ _=>rfl)) (af 8) (λ_ _=>rfl)))
  (aD (eD (DW.dt (lI (bV (eT hr.units) gl (af 7) al (bu _)) (iP (bV (g9 hr.units) jY (af 8) (af 1) (bu _))))) (ao (bA 10 sc_law_put.nd (nR (by decide) (bV (eT hr.units) gl (af 8) (af 1) (bu _)) (aS aF aQ (af 5) al (λ_ _=>rfl)) (bC (af 8) (cn jD pR B.b_int (aI (iV oy dI (af 8) (af 1) (bu _)) bf) (hv:=by kernel_rfl)))))
  (aD (ir 6 (lh hr) (af 7) (af 10) (nR (by decide) (bV (eT hr.units) gl (af 9) (af 4) (bu _)) (aS aF aQ (af 5) al (λ_ _=>rfl)) (bC (af 9) (cn jD pR B.b_int (aI (iV oy dI (af 9) (af 4) (bu _)) bf) (hv:=by kernel_rfl))))))) cq))))))
  (ao (bA 11 sc_law_put.nd (eZ (ai (gd (bC (ft al (af 1)) al) (aS aF aQ (af 5) al (λ_ _=>rfl))) (ai (gd (bC (ft al (af 4)) al) (aS aF aQ (af 5) al (λ_ _=>rfl))) az))))
  (ao (ir 6 (lh hr) al (aS aF aQ (af 11) al (λ_ _=>rfl)) (aS aF aQ (af 11) al (λ_ _=>rfl)))
  (ao (ir 6 (lh hr) al (aS aF aQ (af 5) al (λ_ _=>rfl)) (aS aF aQ (af 11) al (λ_ _=>rfl)))
  (ao (ir 6 (lh hr) al (aS aF aQ (af 11) al (λ_ _=>rfl)) (aS aF aQ (af 5) al (λ_ _=>rfl)))
  (aD (vb 6 (ba (cn bF dJ B.b_tuple (aI (gj (N':=["_law_square_here","_law_c","_law_way","_law_n","_law_r","_law_empty","_law_marks","_law_which","_law_column","_law_row","_law_here","_law_across","_law_some"]) rfl (uM (Nat.le_of_ble_eq_true rfl)) (tf 6) (λ_ _ _ _=>(uC 12 x8)) (λ_ _ _ _=>eQ) (λ_ _ _ _=>(cn bF dJ B.b_tuple (aI (gj (N':=["_law_square_here","_law_c","_law_way","_law_n","_law_r","_law_empty","_law_marks","_law_which","?_law_column","_law_row","_law_here","_law_across","_law_some","_law_column"]) rfl (fz (Nat.le_of_ble_eq_true rfl)) (DIp.b (bN B.b_range (ai (bC (af 3) al) az))) (λ_ _ _ _=>(aE 13 xw)) (λ_ _ _ _=>eQ) (λ_ _ _ _=>(sX 12 (lh hr) (af 13) (λ_ _=>rfl)))) bf) (hv:=by kernel_rfl)))) bf) (hv:=by kernel_rfl))))))))))))))
theorem sc_law_good:FnScope ["_law_square_here","_law_c","_law_way","_law_found","_law_marks"] ["_law_square_here","_law_c","_law_way"] (am cz):=⟨rfl,rfl,rfl,by decide+kernel,rfl,by decide+kernel,by decide+kernel⟩
def fV:FS:=
 av (aU 3 (aj (nF 3 (u4 cm)) (ae (ag 0) (ae (ag 1) (ae (ag 2) (ah))))))
 (av (dL (jt (dM (dY (gv "tuple" (ag 3)))) (bw (ak iX (ag 3) (aj (nF 3 eG) (ae (ag 0) (ae (ag 1) (ae (ag 2) (ah)))))))) (aM (aq (.bl false))) (skip))
 (av (cQ (cu (fj (ag 3))) (gN 4) (dL (jt (dM (dY (gv "tuple" (ag 4)))) (dY (aj o5 (ae (bb 1 (fj (ag 4)) (gN 5) (cI) (gv "bool" (ag 5))) (ah))))) (aM (aq (.bl false))) (skip)))
 (aM (ak gG (aj (nF 3 (u4 cg)) (ae (ag 3) (ae (ag 1) (ae (ak aO (ak aO (ag 0) (aq (.int 1))) (ag 1)) (ah))))) (ag 0)))))
def dU:List D->Option D:=gu .s 5 fV
theorem nk(B:Bt mg)(F:Df K mg "_law_good" cz ["_law_square_here","_law_c","_law_way"])(ET:Et K mg kx0 kx1 kx2)(eP:ClX P w K mg base 2 "corner_put" ["square","c","way"] (vW K .s 3 cm))(dP:ClX P w K mg base 4 "corner_taken" ["square","c","r"] (vW K .s 3 cg))(gI:Cl P w K mg base 1 "_law_put" ["_law_square_here","_law_c","_law_way"] (gB K .s 3 eG)):Cl P w K mg base 5 "_law_good" ["_law_square_here","_law_c","_law_way"] (gB K .s 3 dU):=by
 refine cX (k:=4) F sc_law_good (by decide) rfl λ_ cdv A outer s H hid E hr=>?_
 exact(ao (bA 3 sc_law_good.nd (qB eP (hr.mono (by decide)) (ai (af 0) (ai (af 1) (ai (af 2) az)))))
  (ao (eD (DW.dt (lI (fW (h7 (nH "tuple" lv (af 3) B.b_isinstance B.b_tuple))) (iP (bV (g9 hr.units) jY (af 3) (en gI (hr.mono (by decide)) (ai (af 0) (ai (af 1) (ai (af 2) az)))) (bu _))))) (aD (ba mz)) cq)
  (ao (fA PassesOwn.never rfl (DIp.e (gA (af 3))) (aE 4 sc_law_good.nd) (aD (eD (DW.dt (lI (fW (h7 (nH "tuple" lv (af 4) B.b_isinstance B.b_tuple))) (iP (h7 (bp (pU rfl) u3 B.b_any (aI (gj (N':=["_law_square_here","_law_c","_law_way","_law_found","_law_marks","_law_row"]) rfl (fz (Nat.le_of_ble_eq_true rfl)) (DIp.b (gA (af 4))) (λ_ _ _ _=>(aE 5 xN)) (λ_ _ _ _=>eQ) (λ_ _ _ _=>(nH "bool" tE (af 5) B.b_isinstance B.b_bool))) bf) (hv:=by kernel_rfl)))))) (aD (ba mz)) cq)))
  (aD (ba (iV (eT hr.units) gl (qB dP (hr.mono (by decide)) (ai (af 3) (ai (af 1) (ai (aS aF aQ (aS aF aQ (af 0) al (λ_ _=>rfl)) (af 1) (λ_ _=>rfl)) az)))) (af 0) (bu _)))))))
theorem sc_law:FnScope ["_law_script","_law_k","_law_bag_here","_law_square_here","_law_c"] ["_law_script"] (am fM):=⟨rfl,rfl,rfl,by decide+kernel,rfl,by decide+kernel,by decide+kernel⟩
def p6:FS:=
 av (cQ (cu (bn (ae (aj nQ (ae (aq (.int 1)) (ae (aj gC (ae (aq (.int 6)) (ae (aj cf (ae (ag 0) (ah))) (ah)))) (ah)))) (ah)))) (gN 1) (av (dQ 2 (aj (nF 2 fI) (ae (ag 0) (ae (ag 1) (ah)))))
 (av (gg 3 (aK 2 1 dm (ei (iG aG (pu (aq (.int 2))) (aK 2 1 bO (cu (ae (aq (.int 4)) (ah))))) (cu (ah)))))
 (cQ (cu (bn (ae (aj cf (ae (ak aO (ag 3) (aq (.int 0))) (ah))) (ah)))) (gN 4) (dL (dM (dY (aj r8 (ae (bb 1 (bn (ae (aq (.int 4)) (ah))) (gN 5) (cI) (aj (nF 3 dU) (ae (ag 3) (ae (ag 4) (ae (ag 5) (ah)))))) (ah))))) (aM (aq (.bl false))) (skip))))))
 (aM (aq (.bl true)))
def um:List D->Option D:=gu .s 5 p6
theorem vj {f:Addr}{fd:FuncData}(B:Bt mg)(F:Fun K "law" "law" fM f fd)(ET:Et K mg kx0 kx1 kx2)(gZ:Cl P w K mg base 2 "_law_bag" ["_law_script","_law_at"] (gB K .n 2 fI))(fb:Cl P w K mg base 3 "_law_square" ["_law_bag_here","_law_n"] (oN K .s 1 dm))(bG:Cl P w K mg base 1 "_law_take" ["_law_bag_here","_law_many"] (oN K .s 1 bO))(fX:Cl P w K mg base 5 "_law_good" ["_law_square_here","_law_c","_law_way"] (gB K .s 3 dU)):FnOk P w K mg base lg 6 f fd ["_law_script"] (gB K .s 1 um):=by
 refine oB (k:=5) F sc_law (by decide) λcdv A outer s H hid E hr=>?_
 exact(ao (fA PassesOwn.never rfl (DIp.e (bN B.b_range (ai (bp (oM rfl) sI B.b_max (aI al (aI (bp (jE rfl) oA B.b_min (aI al (aI (bp bh eW B.b_len (aI (af 0) bf) (hv:=by kernel_rfl)) bf)) (hv:=by kernel_rfl)) bf)) (hv:=by kernel_rfl)) az))) (aE 1 sc_law.nd) (ao (kU 2 sc_law.nd (en gZ (hr.mono (by decide)) (ai (af 0) (ai (af 1) az))))
  (ao (iy 3 sc_law.nd (iI 2 fb (hr.mono (by decide)) (kX (qm (DP.ef al) (iI 2 bG (hr.mono (by decide)) (DA.gf (ai al az)))) (DA.gf az))))
  (aD (fA PassesOwn.never rfl (DIp.e (bN B.b_range (ai (bp bh eW B.b_len (aI (aS aF aQ (af 3) al (λ_ _=>rfl)) bf) (hv:=by kernel_rfl)) az))) (aE 4 sc_law.nd) (aD (eD (fW (h7 (bp (p4 rfl) vg B.b_all (aI (gj (N':=["_law_script","_law_k","_law_bag_here","_law_square_here","_law_c","_law_way"]) rfl (fz (Nat.le_of_ble_eq_true rfl)) (DIp.b (bN B.b_range (ai al az))) (λ_ _ _ _=>(aE 5 xr)) (λ_ _ _ _=>eQ) (λ_ _ _ _=>(en fX (hr.mono (by decide)) (ai (af 3) (ai (af 4) (ai (af 5) az)))))) bf) (hv:=by kernel_rfl)))) (aD (ba mz)) cq)))))))
  (aD (ba mz)))
end
theorem qS {xs ys:List Nat}(hl:xs.length=ys.length)(h: ∀i,i<xs.length->xs.getD i 0=ys.getD i 0):xs=ys:=by
 refine List.ext_getElem hl λi h1 h2=>?_
 have:=h i h1
 simpa [List.getD,h1,h2] using this
def jI:FS:=
 aM (lZ ml ub (aq (.int 0)) (ag 0) (aq (.int 4)))
def gO:List D->Option D:=gu .s 1 jI
def cK:FS:=
 av (rL 3 4 (ae (ak bj (ag 2) (aq (.int 2))) (ae (ak dh (ag 2) (aq (.int 2))) (ah))))
 (aM (cH (ae (ak aG (ag 0) (ag 3)) (ae (ak aG (ag 1) (ag 4)) (ae (ak dX (ak aG (ag 0) (aq (.int 1))) (ag 3)) (ae (ak dX (ak aG (ag 1) (aq (.int 1))) (ag 4)) (ah)))))))
def bJ:List D->Option D:=gu .s 5 cK
def et:FS:=
 av (dL (bw (ak gG (ag 0) (ag 1))) (aM (ag 2)) (skip))
 (aM (lj (bw (ak nu (ag 0) (ag 1))) (ak aG (ag 0) (aq (.int 1))) (ag 0)))
def cV:List D->Option D:=gu .s 3 et
def bD:FX:=
 fJ (jh (cA (gT 2 (dB (gN 3) (dB (gN 4) (ik)))) (pu (ag 0))))
 (fJ (nN (jt (dM (bw (lZ ml ub (aq (.int 0)) (ag 1) (aj cf (ae (ag 3) (ah)))))) (dM (dY (aj (nF 1 gO) (ae (ag 2) (ah)))))) (lE ⟨"NoMove",0⟩ (ae (aq (.str "there is no such column or way")) (ah))) (jh skip))
 (fJ (nN (bw (ak vC (aj cf (ae (ag 3) (ah))) (aq (.int 6)))) (lE ⟨"TooMany",0⟩ (ae (aq (.str "the square has no room for a corner")) (ah))) (jh skip))
 (jh (av (aU 5 (ak aO (ag 4) (ag 1)))
 (av (cA (gT 4 (dB (gN 6) (dB (gN 7) (dB (gN 8) (dB (gN 9) (ik)))))) (pu (aj (nF 3 bJ) (ae (ag 1) (ae (ag 5) (ae (ag 2) (ah)))))))
 (av (dQ 10 (bb 1 (fj (ag 3)) (gN 12) (cI) (aj (nF 3 cV) (ae (ag 12) (ae (ag 5) (ae (ag 7) (ah)))))))
 (av (dQ 11 (bb 1 (fj (ag 4)) (gN 12) (cI) (aj (nF 3 cV) (ae (ag 12) (ae (ag 5) (ae (ag 9) (ah)))))))
 (av (fh (aK 10 2 mw (cu (ae (ag 8) (ae (ag 9) (ah))))))
 (av (fh (aK 11 2 mw (cu (ae (ag 8) (ae (ag 7) (ah))))))
 (aM (cH (ae (aj bQ (ae (dl 10) (ah))) (ae (aj bQ (ae (dl 11) (ah))) (ah))))))))))))))
def ji:List D->Option (Except Ex D):=rU .s 12 bD
def gP:FS:=
 av (cA (gT 2 (dB (gN 4) (dB (gN 5) (ik)))) (pu (ag 0)))
 (av (cA (gT 4 (dB (gN 6) (dB (gN 7) (dB (gN 8) (dB (gN 9) (ik)))))) (pu (aj (nF 3 bJ) (ae (ag 1) (ae (ag 2) (ae (ag 3) (ah)))))))
 (av (dL (bw (ak iX (cH (ae (ak aO (ag 4) (ag 8)) (ae (ak aO (ag 5) (ag 8)) (ah)))) (cH (ae (ag 9) (ae (ag 7) (ah)))))) (aM (aq (.bl false))) (skip))
 (aM (vA (jn (bw (ak gG (ak aO (ag 5) (ag 6)) (ag 9))) (bw (ak iX (ak aO (ag 4) (ag 6)) (ag 7))))))))
def eN:List D->Option D:=gu .s 10 gP
def fU:FS:=
 av (aU 3 (ak dX (aj cf (ae (ak aO (ag 0) (aq (.int 0))) (ah))) (aq (.int 2))))
 (av (dL (jt (dM (bw (lZ ml ml (aq (.int 0)) (ag 1) (ag 3)))) (dM (bw (lZ ml ml (aq (.int 0)) (ag 2) (ag 3))))) (aM (aq .non)) (skip))
 (av (cQ (cu (bn (ae (aq (.int 4)) (ah)))) (gN 4) (dL (dY (aj (nF 4 eN) (ae (ag 0) (ae (ag 1) (ae (ag 2) (ae (ag 4) (ah))))))) (aM (ag 4)) (skip)))
 (aM (aq .non))))
def fY:List D->Option D:=gu .s 5 fU
def dE:FS:=
 aM (aj bQ (ae (bb 2 (sx (ag 0)) (gT 2 (dB (gN 3) (dB (gN 4) (ik)))) (bw (ak iX (ag 3) (ag 2))) (lj (bw (ak nu (ag 4) (ag 1))) (ak dX (ag 4) (aq (.int 1))) (ag 4))) (ah)))
def dG:List D->Option D:=gu .s 3 dE
def bU:FX:=
 fJ (jh (aU 3 (aj (nF 3 fY) (ae (ag 0) (ae (ag 1) (ae (ag 2) (ah)))))))
 (fJ (nN (bw (ak (xi false) (ag 3) (aq .non))) (lE ⟨"NoMove",0⟩ (ae (aq (.str "there is no corner to be taken out")) (ah))) (jh skip))
 (jh (av (cA (gT 2 (dB (gN 4) (dB (gN 5) (ik)))) (pu (ag 0)))
 (av (aU 6 (ak aO (aj (nF 3 bJ) (ae (ag 1) (ae (ag 2) (ae (ag 3) (ah))))) (aq (.int 2))))
 (aM (cH (ae (aj (nF 3 dG) (ae (ag 4) (ae (ag 2) (ae (ag 6) (ah))))) (ae (aj (nF 3 dG) (ae (ag 5) (ae (ag 2) (ae (ag 6) (ah))))) (ah)))))))))
def ic:List D->Option (Except Ex D):=rU .s 7 bU
theorem dw {t u:FX}{ρ ρ':ax}(h:t ρ=.ok (.nx ρ')):fJ t u ρ=u ρ':=by unfold fJ;rw[h]
theorem km {t u:FX}{ρ:ax}{z:Ex×ax}(h:t ρ=.error z):fJ t u ρ=.error z:=by unfold fJ;rw[h]
theorem kz {t:FS}{ρ:ax}{o:Out}(h:t ρ=o):jh t ρ=.ok o:=by unfold jh;rw[h]
theorem pV {p:FT}{t u:FX}{ρ:ax}(h:p ρ=some true):nN p t u ρ=t ρ:=by unfold nN;rw[h]
theorem wQ {p:FT}{t u:FX}{ρ:ax}(h:p ρ=some false):nN p t u ρ=u ρ:=by unfold nN;rw[h]
theorem lc {p:FT}{t:FX}{ρ:ax}(h:p ρ=some false):nN p t (jh skip) ρ=.ok (.nx ρ):=(wQ h).trans rfl
theorem p9 {kd:Kd}{n:Nat}{t:FX}{ds:List D}{ρ:ax}{d:D}(h:t (dN n ds)=.ok (.rt d ρ)):rU kd n t ds=some (.ok d):=by unfold rU;rw[h]
theorem ux {kd:Kd}{n:Nat}{t:FX}{ds:List D}{z:Ex×ax}(h:t (dN n ds)=.error z):rU kd n t ds=some (.error z.1):=by unfold rU;rw[h]
theorem mE {kd:Kd}{n:Nat}{t:FX}{ds:List D}{z:Ex}(h: ∃ρ,t (dN n ds)=.error (z,ρ)):rU kd n t ds=some (.error z):=by obtain⟨ρ,h⟩:=h;exact ux h
theorem eX {p:FT}{t:FS}{ρ:ax}(h:p ρ=some false):dL p t skip ρ=.nx ρ:=(wd h).trans rfl
theorem kN {F G:D->D->Option D}{f g h:FE}{ρ:ax}{x y z:D}{p q:Bool}(h1:f ρ=some x)(h2:g ρ=some y)(h3:F x y=some (.bl p))(h4:h ρ=some z)(h5:G y z=some (.bl q)):lZ F G f g h ρ=some (.bl (p&&q)):=by
 unfold lZ;rw[h1,Option.bind_some,h2,Option.bind_some,h3];show(if p=true then _ else _)=_
 cases p with
 |true=>rw[if_pos rfl,h4];exact h5
 |false=>rfl
theorem jf {p q:FT}{ρ:ax}{a b:Bool}(h1:p ρ=some a)(h2:q ρ=some b):jt p q ρ=some (a||b):=by
 cases a with
 |true=>exact wY h1
 |false=>exact u0 h1 h2
theorem rj {p:FT}{f g:FE}{ρ:ax}(h:p ρ=some true):lj p f g ρ=f ρ:=by unfold lj;rw[h];rfl
theorem qN {p:FT}{f g:FE}{ρ:ax}(h:p ρ=some false):lj p f g ρ=g ρ:=by unfold lj;rw[h];rfl
theorem ng {f:FE}{ρ:ax}{ds:List D}(h:f ρ=some (.tup ds)):fj f ρ=some ds:=by unfold fj;rw[h];rfl
structure Gd(n:Nat)(r x:List Nat):Prop where
 R:Ord n r
 X:Ord n x
 lo:2<=n
 hi:n<=6
section
variable {n:Nat}{r x:List Nat}(G:Gd n r x)
include G
abbrev yq:Ex:=⟨"NoMove",0⟩
abbrev x4:Ex:=⟨"TooMany",0⟩
end
theorem vI(w:Int):gO [.int w]=some (.bl (decide (0<=w)&&decide (w<4))):=by
 apply iC (kd:=.s) (n:=1) (t:=jI)
 exact bZ (kN (x:=.int 0) (y:=.int w) (z:=.int 4) rfl rfl rfl rfl rfl)
def bX(c w:Nat):Nat:=c+w % 2
def be(r w:Nat):Nat:=r+w / 2
def aR(c w:Nat):Nat:=c+1-w % 2
def bx(r w:Nat):Nat:=r+1-w / 2
theorem m7(c r:Nat){w:Nat}(hw:w<4):bJ [nI c,nI r,nI w]=some (.tup [nI (bX c w),nI (be r w),nI (aR c w),nI (bx r w)]):=by
 apply iC (kd:=.s) (n:=5) (t:=cK)
 unfold cK;have hd:dh (nI w) (.int 2)=some (nI (w / 2)):=by
  rw[gY (by decide) (by decide)];rfl
 have hm:bj (nI w) (.int 2)=some (nI (w % 2)):=vN (n:=2) (by decide)
 have sb: ∀(f:FE) (ρ:ax) (a b:Nat),f ρ=some (nI b)->b<=a-> ∀g:FE,g ρ=some (nI a)->ak dX g f ρ=some (nI (a-b)):=λf ρ a b hf hb g hg=>(aB hg hf).trans (by rw[xZ];show some (D.int _)=some (D.int _);congr 2;omega)
 have m2:w % 2<2:=Nat.mod_lt _ (by decide)
 have d2:w / 2<2:=by omega
 refine(aC (ρ':=[.v (nI c),.v (nI r),.v (nI w),.v (nI (w % 2)),.v (nI (w / 2))]) ?_).trans (bZ (dv (au ((aB (x:=nI c) (y:=nI (w % 2)) rfl rfl).trans (vp _ _)) (au ((aB (x:=nI r) (y:=nI (w / 2)) rfl rfl).trans (vp _ _)) (au (sb _ _ (c+1) (w % 2) rfl (by omega) _ ((aB (x:=nI c) (y:=.int 1) rfl rfl).trans (pP c))) (au (sb _ _ (r+1) (w / 2) rfl (by omega) _ ((aB (x:=nI r) (y:=.int 1) rfl rfl).trans (pP r))) rfl)))) (by simp)))
 unfold rL;rw[au ((aB (x:=nI w) (y:=.int 2) rfl rfl).trans hm) (au ((aB (x:=nI w) (y:=.int 2) rfl rfl).trans hd) (rfl:ah _=some []))];rfl
def eE(row to m:Nat):Nat:=if m=row then to else if row<m then m+1 else m
theorem tB(m row to:Nat):cV [nI m,nI row,nI to]=some (nI (eE row to m)):=by
 apply gW (kd:=.s) (n:=3) (t:=et)
 unfold et eE;have p1:bw (ak gG (ag 0) (ag 1)) (dN 3 [nI m,nI row,nI to])=some (decide (m=row)):=cs ((aB (x:=nI m) (y:=nI row) rfl rfl).trans (by rw[fC (by rw[da];omega),fS]))
 have p2:bw (ak nu (ag 0) (ag 1)) (dN 3 [nI m,nI row,nI to])=some (decide (row<m)):=cs ((aB (x:=nI m) (y:=nI row) rfl rfl).trans (by show some (D.bl (decide ((row:Int)<m)))=_;congr 2;rw[Bool.eq_iff_iff,decide_eq_true_eq,decide_eq_true_eq];omega))
 by_cases h1:m=row
 ·rw[if_pos h1]
  rw[decide_eq_true h1] at p1;exact⟨_,kC ((mk p1).trans (bZ rfl))⟩
 ·rw[if_neg h1]
  rw[decide_eq_false h1] at p1;refine⟨_,(aC (eX p1)).trans (bZ ?_)⟩
  by_cases h2:row<m
  ·rw[if_pos h2]
   rw[decide_eq_true h2] at p2;exact(rj p2).trans ((aB (x:=nI m) (y:=.int 1) rfl rfl).trans (pP m))
  ·rw[if_neg h2]
   rw[decide_eq_false h2] at p2;exact(qN p2).trans rfl
def kR(l:List Nat)(i v:Nat):List Nat:=l.take i++v::l.drop i
theorem rd(l:List Nat)(i v:Nat):(kR l i v).map nI=(l.map nI).take i++nI v::(l.map nI).drop i:=by unfold kR;rw[List.map_append,List.map_cons,List.map_take,List.map_drop]
theorem rZ(l:List Nat)(i v:Nat):(kR l i v).length=l.length+1:=by unfold kR;rw[List.length_append,List.length_cons,List.length_take,List.length_drop];omega
theorem nU {l:List Nat}{i v:Nat}(h:i<=l.length)(hl:l.length<=900):mw (l.map nI) [nI i,nI v]=some (.non,(kR l i v).map nI):=by
 unfold mw;dsimp only;have e:((l.map nI).length<sizeLine):=by rw[List.length_map];exact Nat.lt_of_le_of_lt hl (by decide)
 rw[if_pos ⟨by omega,by rw[List.length_map];omega,e⟩,rd]
 rfl
def cb(l:List Nat)(row to col v:Nat):List Nat:=kR (l.map (eE row to)) col v
theorem Ord.put {n:Nat}{l:List Nat}(O:Ord n l){row to col v:Nat}(hr:row<n)(h:(to=row/\v=row+1)\/(to=row+1/\v=row)):Ord (n+1) (cb l row to col v):=by
 refine⟨?_⟩
 unfold cb kR;refine(List.perm_middle.trans ?_)
 rw[List.take_append_drop];refine((O.perm.map (eE row to)).cons v).trans ?_
 refine(List.perm_ext_iff_of_nodup ?_ List.nodup_range).mpr λk=>?_
 ·rw[List.nodup_cons]
  constructor
  ·intro hm
   obtain⟨i,_,e⟩:=List.mem_map.mp hm
   unfold eE at e;split at e<;>(try split at e)<;>omega
  ·show List.Pairwise (·≠ ·) _
   rw[List.pairwise_map];refine List.Pairwise.imp (λ{i j} hij e=>?_) (List.pairwise_lt_range (n:=n))
   unfold eE at e;split at e<;>(try split at e)<;>(try split at e)<;>(try split at e)<;>omega
 ·rw[List.mem_cons,List.mem_map,List.mem_range]
  constructor
  ·rintro(rfl|⟨i,hi,rfl⟩)
   ·omega
   ·rw[List.mem_range] at hi
    unfold eE;split<;>(try split)<;>omega
  ·intro hk
   by_cases h1:k=v
   ·exact .inl h1
   ·refine .inr ⟨if k<=row then k else k-1,List.mem_range.mpr (by split<;>omega),?_⟩
    unfold eE;split<;>(try split)<;>(try split)<;>omega
section
variable {n:Nat}{r x:List Nat}(G:Gd n r x)
include G
theorem sL(c w:Int):ji [bI r x,.int c,.int w]=some (if(decide (0<=c)&&decide (c<n))=true/\(decide (0<=w)&&decide (w<4))=true then(if n<6 then .ok (bI (cb r (x.getD c.toNat 0) (be (x.getD c.toNat 0) w.toNat) (aR c.toNat w.toNat) (bx (x.getD c.toNat 0) w.toNat)) (cb x (x.getD c.toNat 0) (bx (x.getD c.toNat 0) w.toNat) (aR c.toNat w.toNat) (be (x.getD c.toNat 0) w.toNat))) else .error x4) else .error yq):=by
 have h1:=G.R.len;have h2:=G.X.len;have h3:=G.lo;have h4:=G.hi
 have s1:jh (cA (gT 2 (dB (gN 3) (dB (gN 4) (ik)))) (pu (ag 0))) (dN 12 [bI r x,.int c,.int w])=.ok (.nx [.v (bI r x),.v (.int c),.v (.int w),.v (aN r),.v (aN x),.no,.no,.no,.no,.no,.no,.no]):=kz (iQ (ia rfl) rfl)
 have p1:jt (dM (bw (lZ ml ub (aq (.int 0)) (ag 1) (aj cf (ae (ag 3) (ah)))))) (dM (dY (aj (nF 1 gO) (ae (ag 2) (ah))))) [.v (bI r x),.v (.int c),.v (.int w),.v (aN r),.v (aN x),.no,.no,.no,.no,.no,.no,.no]=some (!(decide (0<=c)&&decide (c<n))|| !(decide (0<=w)&&decide (w<4))):=
  jf (gc (cs (kN (x:=.int 0) (y:=.int c) (z:=nI n) rfl rfl rfl (h1▸fq r _ _ rfl) rfl))) (gc (gL ((eg (ds:=[.int w]) rfl rfl).trans (vI w))))
 by_cases hg:(decide (0<=c)&&decide (c<n))=true/\(decide (0<=w)&&decide (w<4))=true
 ·rw[if_pos hg]
  rw[hg.1,hg.2] at p1;rw[Bool.and_eq_true,Bool.and_eq_true,decide_eq_true_eq,decide_eq_true_eq,decide_eq_true_eq,decide_eq_true_eq] at hg;have p2:bw (ak vC (aj cf (ae (ag 3) (ah))) (aq (.int 6))) [.v (bI r x),.v (.int c),.v (.int w),.v (aN r),.v (aN x),.no,.no,.no,.no,.no,.no,.no]=some (decide (6<=n)):=cs ((aB (h1▸fq r _ _ rfl) (y:=.int 6) rfl).trans (by show some (D.bl (decide ((6:Int)<=n)))=_;congr 2;rw[Bool.eq_iff_iff,decide_eq_true_eq,decide_eq_true_eq];omega))
  by_cases h6:n<6
  ·rw[if_pos h6]
   rw[decide_eq_false (by omega)] at p2
   obtain⟨c,rfl⟩: ∃m:Nat,c=m:=⟨c.toNat,by omega⟩
   obtain⟨w,rfl⟩: ∃m:Nat,w=m:=⟨w.toNat,by omega⟩
   rw[Int.toNat_natCast,Int.toNat_natCast];have hc:c<n:=by omega
   have hw:w<4:=by omega
   generalize hrow:x.getD c 0=row
   have hrow':row<n:=hrow▸G.X.get hc
   refine p9 (kd:=.s) (n:=12) (t:=bD) (ρ:=[.v (bI r x),.v (nI c),.v (nI w),.v (aN r),.v (aN x),.v (nI row),.v (nI (bX c w)),.v (nI (be row w)),.v (nI (aR c w)),.v (nI (bx row w)),.own ((cb r row (be row w) (aR c w) (bx row w)).map nI),.own ((cb x row (bx row w) (aR c w) (be row w)).map nI)]) ?_
   unfold bD;rw[dw s1,dw (lc p1),dw (lc p2)];refine kz ?_
   refine(aC (ρ':=[.v (bI r x),.v (nI c),.v (nI w),.v (aN r),.v (aN x),.v (nI row),.no,.no,.no,.no,.no,.no]) ((ck ((aB (x:=aN x) (y:=nI c) rfl rfl).trans (hrow▸lN (by omega)))).trans rfl)).trans ?_
   refine(aC (ρ':=[.v (bI r x),.v (nI c),.v (nI w),.v (aN r),.v (aN x),.v (nI row),.v (nI (bX c w)),.v (nI (be row w)),.v (nI (aR c w)),.v (nI (bx row w)),.no,.no]) (iQ (ia ((eg (ds:=[nI c,nI row,nI w]) rfl rfl).trans (m7 c row hw))) rfl)).trans ?_
   have cp: ∀(l:List Nat) (f g:FE) (to:Nat) (ρ:ax),l.length=n->f ρ=some (aN l)->(∀v:D,ag 5 ((ρ++List.replicate 1 Sl.no).set 12 (Sl.v v))=some (nI row))->(∀v:D,g ((ρ++List.replicate 1 Sl.no).set 12 (Sl.v v))=some (nI to))->(∀v:D,gN 12 v (ρ++List.replicate 1 Sl.no)=some ((ρ++List.replicate 1 Sl.no).set 12 (Sl.v v)))->(∀v:D,ag 12 ((ρ++List.replicate 1 Sl.no).set 12 (Sl.v v))=some v)->
    bb 1 (fj f) (gN 12) (cI) (aj (nF 3 cV) (ae (ag 12) (ae (ag 5) (ae g (ah))))) ρ=some (.lst ((l.map (eE row to)).map nI)):=λl f g to ρ hl hf h5 hg' hs hn'=>
    eC (ds:=l.map nI) (ng hf) (by rw[List.length_map];omega) ((dA (h:=nI) (o:=λm=>nI (eE row to m)) l λm _=>⟨_,hs _,(eg (ds:=[nI m,nI row,nI to]) (au (hn' _) (au (h5 _) (au (hg' _) rfl))) rfl).trans (tB m row to)⟩).trans (by rw[List.map_map];rfl))
   refine(aC (ρ':=[.v (bI r x),.v (nI c),.v (nI w),.v (aN r),.v (aN x),.v (nI row),.v (nI (bX c w)),.v (nI (be row w)),.v (nI (aR c w)),.v (nI (bx row w)),.own ((r.map (eE row (be row w))).map nI),.no]) ((iq (cp r _ _ (be row w) _ h1 rfl (λ_=>rfl) (λ_=>rfl) (λ_=>rfl) λ_=>rfl)).trans rfl)).trans ?_
   refine(aC (ρ':=[.v (bI r x),.v (nI c),.v (nI w),.v (aN r),.v (aN x),.v (nI row),.v (nI (bX c w)),.v (nI (be row w)),.v (nI (aR c w)),.v (nI (bx row w)),.own ((r.map (eE row (be row w))).map nI),.own ((x.map (eE row (bx row w))).map nI)]) ((iq (cp x _ _ (bx row w) _ h2 rfl (λ_=>rfl) (λ_=>rfl) (λ_=>rfl) λ_=>rfl)).trans rfl)).trans ?_
   have hfc:aR c w<=n:=by unfold aR;omega
   refine(aC (ρ':=[.v (bI r x),.v (nI c),.v (nI w),.v (aN r),.v (aN x),.v (nI row),.v (nI (bX c w)),.v (nI (be row w)),.v (nI (aR c w)),.v (nI (bx row w)),.own ((cb r row (be row w) (aR c w) (bx row w)).map nI),.own ((x.map (eE row (bx row w))).map nI)]) ((ls (cv (b0:=(r.map (eE row (be row w))).map nI) (bs:=(r.map (eE row (be row w))).map nI) (ds:=[nI (aR c w),nI (bx row w)]) rfl (cB rfl) rfl rfl (nU (by rw[List.length_map];omega) (by rw[List.length_map];omega)))).trans rfl)).trans ?_
   refine(aC (ρ':=[.v (bI r x),.v (nI c),.v (nI w),.v (aN r),.v (aN x),.v (nI row),.v (nI (bX c w)),.v (nI (be row w)),.v (nI (aR c w)),.v (nI (bx row w)),.own ((cb r row (be row w) (aR c w) (bx row w)).map nI),.own ((cb x row (bx row w) (aR c w) (be row w)).map nI)]) ((ls (cv (b0:=(x.map (eE row (bx row w))).map nI) (bs:=(x.map (eE row (bx row w))).map nI) (ds:=[nI (aR c w),nI (be row w)]) rfl (cB rfl) rfl rfl (nU (by rw[List.length_map];omega) (by rw[List.length_map];omega)))).trans rfl)).trans ?_
   exact bZ (dv (au ((bK (ds:=[.lst ((cb r row (be row w) (aR c w) (bx row w)).map nI)]) (au rfl rfl)).trans rfl) (au ((bK (ds:=[.lst ((cb x row (bx row w) (aR c w) (be row w)).map nI)]) (au rfl rfl)).trans rfl) rfl)) (by simp))
  ·rw[if_neg h6]
   rw[decide_eq_true (by omega)] at p2
   refine mE (kd:=.s) (n:=12) (t:=bD) ?_
   unfold bD;rw[dw s1,dw (lc p1)];exact⟨_,km ((pV p2).trans rfl)⟩
 ·rw[if_neg hg]
  have:(!(decide (0<=c)&&decide (c<n))|| !(decide (0<=w)&&decide (w<4)))=true:=by
   cases e1:(decide (0<=c)&&decide (c<(n:Int)))<;>cases e2:(decide (0<=w)&&decide (w<4))<;>first|rfl|exact absurd ⟨e1,e2⟩ hg
  rw[this] at p1;refine mE (kd:=.s) (n:=12) (t:=bD) ?_
  unfold bD;rw[dw s1];exact⟨_,km ((pV p1).trans rfl)⟩
theorem Gd.put {c w:Nat}(hc:c<n)(hw:w<4)(h6:n<6):Gd (n+1) (cb r (x.getD c 0) (be (x.getD c 0) w) (aR c w) (bx (x.getD c 0) w)) (cb x (x.getD c 0) (bx (x.getD c 0) w) (aR c w) (be (x.getD c 0) w)):=by
 have h:=G.X.get hc
 have d:w / 2=0\/w / 2=1:=by omega
 refine⟨G.R.put h ?_,G.X.put h ?_,by have:=G.lo;omega,by omega⟩
 ·unfold be bx;rcases d with d|d<;>rw[d]<;>omega
 ·unfold be bx;rcases d with d|d<;>rw[d]<;>omega
end
def cJ(r x:List Nat)(c q w:Nat):Bool:=(decide (r.getD (aR c w) 0=bx q w)&&decide (x.getD (aR c w) 0=be q w))&&(decide (x.getD (bX c w) 0=bx q w)&& !decide (r.getD (bX c w) 0=be q w))
theorem xS(a b c d:Nat):df (.tup [nI a,nI b]) (.tup [nI c,nI d])=(decide (a=c)&&decide (b=d)):=by
 have:=tX [(a:Int),(b:Int)] [(c:Int),(d:Int)]
 refine this.trans ?_
 rw[Bool.eq_iff_iff];simp only[decide_eq_true_eq,Bool.and_eq_true,List.cons.injEq,and_true];omega
theorem vO(a b:Nat):cO (.tup [nI a,nI b])<=32:=qG [a,b]
def fc(l:List Nat)(row col:Nat):List Nat:=((List.range l.length).filter λi=> !decide (i=col)).map λi=>if row<l.getD i 0 then l.getD i 0-1 else l.getD i 0
theorem xn(q:List Nat):ny (q.map nI)=(List.range q.length).map λ(i:Nat)=>D.tup [nI i,nI (q.getD i 0)]:=by
 unfold ny;rw[List.length_map];refine List.map_congr_left λi hi=>?_
 rw[List.mem_range] at hi;congr 3
 rw[List.getD_eq_getElem?_getD,List.getElem?_map,List.getElem?_eq_getElem hi,List.getD_eq_getElem?_getD,List.getElem?_eq_getElem hi];rfl
theorem jV(l:List Nat)(row col:Nat)(hl:l.length<=900):dG [aN l,nI row,nI col]=some (aN (fc l row col)):=by
 apply iC (kd:=.s) (n:=3) (t:=dE)
 unfold dE;refine bZ ((bK (ds:=[.lst ((fc l row col).map nI)]) (au (eC (ds:=(List.range l.length).map λ(i:Nat)=>D.tup [nI i,nI (l.getD i 0)]) ?_ (by rw[List.length_map,List.length_range];omega) ?_) rfl)).trans rfl)
 ·rw[<-xn];rfl
 ·unfold fc
  rw[List.map_map];refine jQ (h:=λ(i:Nat)=>D.tup [nI i,nI (l.getD i 0)]) (q:=λi=> !decide (i=col)) _ λi hi=>⟨_,rfl,?_,λ_=>?_⟩
  ·exact cs ((aB (x:=nI i) (y:=nI col) rfl rfl).trans (by rw[gJ (by rw[da];omega),fS]))
  ·have p:bw (ak nu (ag 4) (ag 1)) [.v (aN l),.v (nI row),.v (nI col),.v (nI i),.v (nI (l.getD i 0))]=some (decide (row<l.getD i 0)):=cs ((aB (x:=nI (l.getD i 0)) (y:=nI row) rfl rfl).trans (by show some (D.bl (decide ((row:Int)<(l.getD i 0:Nat))))=_;congr 2;rw[Bool.eq_iff_iff,decide_eq_true_eq,decide_eq_true_eq];omega))
   show _=some (nI (if row<l.getD i 0 then l.getD i 0-1 else l.getD i 0))
   by_cases h:row<l.getD i 0
   ·rw[if_pos h]
    rw[decide_eq_true h] at p;refine(rj p).trans ((aB (x:=nI (l.getD i 0)) (y:=.int 1) rfl rfl).trans ((gD _ _).trans ?_))
    show some (D.int _)=some (D.int _);congr 2
    omega
   ·rw[if_neg h]
    rw[decide_eq_false h] at p;exact(qN p).trans rfl
theorem tw {g:FG}{b:FS}{d e:D}{r:List D}{ρ ρ1 ρ2:ax}(h1:g d ρ=some ρ1)(h2:b ρ1=.rt e ρ2):de g b (d::r) ρ=.rt e ρ2:=by
 show(match g d ρ with
  |none=>Out.no
  |some ρ1=>match b ρ1 with
   | .nx ρ2=>de g b r ρ2
   | .ct ρ2=>de g b r ρ2
   | .bk ρ2=>.nx ρ2
   | .rt d ρ2=>.rt d ρ2
   | .no=>.no)=_
 rw[h1];dsimp only;rw[h2]
def va(r x:List Nat)(c q:Nat):Option Nat:=(List.range 4).find? (cJ r x c q)
def kS(r x:List Nat)(c q:Int):Option Nat:=if(decide (0<=c)&&decide (c<=(r.length:Int) -2))=true/\(decide (0<=q)&&decide (q<=(r.length:Int) -2))=true then va r x c.toNat q.toNat else none
def wD:Option Nat->D
 |none=>.non
 |some w=>nI w
theorem ut {a b d e:D}{bd:FS}{q:Nat->Bool}: ∀(l:List Nat) (s:Sl),(∀w∈l,bd [.v a,.v b,.v d,.v e,.v (nI w)]=if q w=true then .rt (nI w) [.v a,.v b,.v d,.v e,.v (nI w)] else .nx [.v a,.v b,.v d,.v e,.v (nI w)])->
 (match l.find? q with
 |some w=> ∃ρ,de (gN 4) bd (l.map nI) [.v a,.v b,.v d,.v e,s]=.rt (nI w) ρ
 |none=> ∃s',de (gN 4) bd (l.map nI) [.v a,.v b,.v d,.v e,s]=.nx [.v a,.v b,.v d,.v e,s'])
 | [],s,_=>⟨s,rfl⟩
 |w::l,s,h=>by
  have h0:=h w (List.mem_cons_self ..)
  rw[List.map_cons,List.find?_cons];cases e1:q w with
  |true=>
   rw[e1,if_pos rfl] at h0;exact⟨_,tw (ρ1:=[.v a,.v b,.v d,.v e,.v (nI w)]) rfl h0⟩
  |false=>
   rw[e1,if_neg (by simp)] at h0
   have:=ut l (.v (nI w)) λv hv=>h v (List.mem_cons_of_mem _ hv)
   rw[cU (ρ1:=[.v a,.v b,.v d,.v e,.v (nI w)]) rfl h0];exact this
section
variable {n:Nat}{r x:List Nat}(G:Gd n r x)
include G
theorem rq {c q w:Nat}(hc:c+1<n)(hw:w<4):eN [bI r x,nI c,nI q,nI w]=some (.bl (cJ r x c q w)):=by
 have h1:=G.R.len;have h2:=G.X.len;have h3:=G.lo;have h4:=G.hi
 have f1:bX c w<n:=by unfold bX;omega
 have f2:aR c w<n:=by unfold aR;omega
 apply gW (kd:=.s) (n:=10) (t:=gP)
 unfold gP;rw[aC (ρ':=[.v (bI r x),.v (nI c),.v (nI q),.v (nI w),.v (aN r),.v (aN x),.no,.no,.no,.no]) (iQ (ia rfl) rfl)];have s2:cA (gT 4 (dB (gN 6) (dB (gN 7) (dB (gN 8) (dB (gN 9) (ik)))))) (pu (aj (nF 3 bJ) (ae (ag 1) (ae (ag 2) (ae (ag 3) (ah)))))) [.v (bI r x),.v (nI c),.v (nI q),.v (nI w),.v (aN r),.v (aN x),.no,.no,.no,.no]=.nx [.v (bI r x),.v (nI c),.v (nI q),.v (nI w),.v (aN r),.v (aN x),.v (nI (bX c w)),.v (nI (be q w)),.v (nI (aR c w)),.v (nI (bx q w))]:=iQ (ia ((eg (ds:=[nI c,nI q,nI w]) rfl rfl).trans (m7 c q hw))) rfl
 rw[aC s2];have p1:bw (ak iX (cH (ae (ak aO (ag 4) (ag 8)) (ae (ak aO (ag 5) (ag 8)) (ah)))) (cH (ae (ag 9) (ae (ag 7) (ah))))) [.v (bI r x),.v (nI c),.v (nI q),.v (nI w),.v (aN r),.v (aN x),.v (nI (bX c w)),.v (nI (be q w)),.v (nI (aR c w)),.v (nI (bx q w))]=some (!(decide (r.getD (aR c w) 0=bx q w)&&decide (x.getD (aR c w) 0=be q w))):=
  cs ((aB (dv (au ((aB (x:=aN r) (y:=nI (aR c w)) rfl rfl).trans (lN (by omega))) (au ((aB (x:=aN x) (y:=nI (aR c w)) rfl rfl).trans (lN (by omega))) rfl)) (by simp)) (y:=.tup [nI (bx q w),nI (be q w)]) (dv rfl (by simp))).trans (by rw[gJ (vO _ _),xS]))
 have p2:vA (jn (bw (ak gG (ak aO (ag 5) (ag 6)) (ag 9))) (bw (ak iX (ak aO (ag 4) (ag 6)) (ag 7)))) [.v (bI r x),.v (nI c),.v (nI q),.v (nI w),.v (aN r),.v (aN x),.v (nI (bX c w)),.v (nI (be q w)),.v (nI (aR c w)),.v (nI (bx q w))]=some (.bl (decide (x.getD (bX c w) 0=bx q w)&& !decide (r.getD (bX c w) 0=be q w))):=by
  refine uO (si (a:=decide (x.getD (bX c w) 0=bx q w)) (cs ((aB ((aB (x:=aN x) (y:=nI (bX c w)) rfl rfl).trans (lN (by omega))) (y:=nI (bx q w)) rfl).trans (by rw[fC (by rw[da];omega),fS]))) (λz=>?_) λz=>by rw[z];rfl)
  rw[z,Bool.true_and];exact cs ((aB ((aB (x:=aN r) (y:=nI (bX c w)) rfl rfl).trans (lN (by omega))) (y:=nI (be q w)) rfl).trans (by rw[gJ (by rw[da];omega),fS]))
 unfold cJ;revert p1
 generalize (decide (r.getD (aR c w) 0=bx q w)&&decide (x.getD (aR c w) 0=be q w))=pb
 intro p1;cases pb with
 |true=>exact⟨_,(aC (eX p1)).trans (bZ p2)⟩
 |false=>exact⟨_,kC ((mk p1).trans (bZ rfl))⟩
theorem sG(c q:Int):fY [bI r x,.int c,.int q]=some (wD (kS r x c q)):=by
 have h1:=G.R.len;have h2:=G.X.len;have h3:=G.lo;have h4:=G.hi
 apply gW (kd:=.s) (n:=5) (t:=fU)
 unfold fU;rw[aC (ρ':=[.v (bI r x),.v (.int c),.v (.int q),.v (.int ((r.length:Int) -2)),.no]) ((ck ((aB (fq r _ _ rfl) (y:=.int 2) rfl).trans (gD _ _))).trans rfl)];have p1:jt (dM (bw (lZ ml ml (aq (.int 0)) (ag 1) (ag 3)))) (dM (bw (lZ ml ml (aq (.int 0)) (ag 2) (ag 3)))) [.v (bI r x),.v (.int c),.v (.int q),.v (.int ((r.length:Int) -2)),.no]=some (!(decide (0<=c)&&decide (c<=(r.length:Int) -2))|| !(decide (0<=q)&&decide (q<=(r.length:Int) -2))):=
  jf (gc (cs (kN (x:=.int 0) (y:=.int c) (z:=.int ((r.length:Int) -2)) rfl rfl rfl rfl rfl))) (gc (cs (kN (x:=.int 0) (y:=.int q) (z:=.int ((r.length:Int) -2)) rfl rfl rfl rfl rfl)))
 unfold kS
 by_cases hg:(decide (0<=c)&&decide (c<=(r.length:Int) -2))=true/\(decide (0<=q)&&decide (q<=(r.length:Int) -2))=true
 ·rw[if_pos hg]
  rw[hg.1,hg.2] at p1;rw[Bool.and_eq_true,Bool.and_eq_true,decide_eq_true_eq,decide_eq_true_eq,decide_eq_true_eq,decide_eq_true_eq] at hg;rw[aC (eX p1)];obtain⟨c,rfl⟩: ∃m:Nat,c=m:=⟨c.toNat,by omega⟩
  obtain⟨q,rfl⟩: ∃m:Nat,q=m:=⟨q.toNat,by omega⟩
  rw[Int.toNat_natCast,Int.toNat_natCast];have fw:=ut (a:=bI r x) (b:=nI c) (d:=nI q) (e:=.int ((r.length:Int) -2)) (bd:=dL (dY (aj (nF 4 eN) (ae (ag 0) (ae (ag 1) (ae (ag 2) (ae (ag 4) (ah))))))) (aM (ag 4)) (skip)) (q:=cJ r x c q) (List.range 4) .no λw hw=>by
   rw[List.mem_range] at hw;have:=gL ((eg (ds:=[bI r x,nI c,nI q,nI w]) (fs:=ae (ag 0) (ae (ag 1) (ae (ag 2) (ae (ag 4) (ah))))) (ρ:=[.v (bI r x),.v (nI c),.v (nI q),.v (.int ((r.length:Int) -2)),.v (nI w)]) rfl rfl).trans (rq G (c:=c) (q:=q) (w:=w) (by omega) hw))
   cases e:cJ r x c q w with
   |true=>rw[e] at this;rw[if_pos rfl];exact(mk this).trans (bZ rfl)
   |false=>rw[e] at this;rw[if_neg (by simp)];exact eX this
  unfold va;have fs:cQ (cu (bn (ae (aq (.int 4)) (ah)))) (gN 4) (dL (dY (aj (nF 4 eN) (ae (ag 0) (ae (ag 1) (ae (ag 2) (ae (ag 4) (ah))))))) (aM (ag 4)) (skip)) [.v (bI r x),.v (nI c),.v (nI q),.v (.int ((r.length:Int) -2)),.no]=de (gN 4) (dL (dY (aj (nF 4 eN) (ae (ag 0) (ae (ag 1) (ae (ag 2) (ae (ag 4) (ah))))))) (aM (ag 4)) (skip)) ((List.range 4).map nI) [.v (bI r x),.v (nI c),.v (nI q),.v (.int ((r.length:Int) -2)),.no]:=iz (cB (dc (n:=4) rfl (by omega)))
  cases e:(List.range 4).find? (cJ r x c q) with
  |some w=>
   rw[e] at fw;obtain⟨ρ,h⟩:=fw
   exact⟨_,kC (fs.trans h)⟩
  |none=>
   rw[e] at fw;obtain⟨s,h⟩:=fw
   exact⟨_,(aC (fs.trans h)).trans (bZ rfl)⟩
 ·rw[if_neg hg]
  have:(!(decide (0<=c)&&decide (c<=(r.length:Int) -2))|| !(decide (0<=q)&&decide (q<=(r.length:Int) -2)))=true:=by
   cases e1:(decide (0<=c)&&decide (c<=(r.length:Int) -2))<;>cases e2:(decide (0<=q)&&decide (q<=(r.length:Int) -2))<;>first|rfl|exact absurd ⟨e1,e2⟩ hg
  rw[this] at p1;exact⟨_,kC ((mk p1).trans (bZ rfl))⟩
theorem oX {c q:Int}{w:Nat}(h:kS r x c q=some w): ∃c' q':Nat,c=c'/\q=q'/\c'+1<n/\q'+1<n/\w<4/\cJ r x c' q' w=true:=by
 have h1:=G.R.len
 unfold kS at h;split at h
 ·rename_i hg
  rw[Bool.and_eq_true,Bool.and_eq_true,decide_eq_true_eq,decide_eq_true_eq,decide_eq_true_eq,decide_eq_true_eq] at hg;unfold va at h;have m:=List.mem_of_find?_eq_some h
  rw[List.mem_range] at m;exact⟨c.toNat,q.toNat,by omega,by omega,by omega,by omega,m,List.find?_some h⟩
 ·cases h
def uV(r x:List Nat)(c q:Int):Except Ex D:=match kS r x c q with
 |none=>.error yq
 |some w=>.ok (bI (fc r q.toNat (aR c.toNat w)) (fc x q.toNat (aR c.toNat w)))
theorem sR(c q:Int):ic [bI r x,.int c,.int q]=some (uV r x c q):=by
 have h1:=G.R.len;have h2:=G.X.len;have h3:=G.lo;have h4:=G.hi
 have s1:jh (aU 3 (aj (nF 3 fY) (ae (ag 0) (ae (ag 1) (ae (ag 2) (ah)))))) (dN 7 [bI r x,.int c,.int q])=.ok (.nx [.v (bI r x),.v (.int c),.v (.int q),.v (wD (kS r x c q)),.no,.no,.no]):=kz ((ck ((eg (ds:=[bI r x,.int c,.int q]) rfl rfl).trans (sG G c q))).trans rfl)
 unfold uV;cases e:kS r x c q with
 |none=>
  rw[e] at s1;refine mE (kd:=.s) (n:=7) (t:=bU) ?_
  unfold bU;rw[dw s1];exact⟨_,km ((pV (cs (b:=true) ((aB (x:=.non) (y:=.non) rfl rfl).trans rfl))).trans rfl)⟩
 |some w=>
  rw[e] at s1;obtain⟨c,q,rfl,rfl,hc,hq,hw,_⟩:=oX G e
  rw[Int.toNat_natCast,Int.toNat_natCast];refine p9 (kd:=.s) (n:=7) (t:=bU) (ρ:=[.v (bI r x),.v (nI c),.v (nI q),.v (nI w),.v (aN r),.v (aN x),.v (nI (aR c w))]) ?_
  unfold bU;rw[dw s1,dw (lc (cs (b:=false) ((aB (x:=nI w) (y:=.non) rfl rfl).trans rfl)))];refine kz ?_
  refine(aC (ρ':=[.v (bI r x),.v (nI c),.v (nI q),.v (nI w),.v (aN r),.v (aN x),.no]) (iQ (ia rfl) rfl)).trans ?_
  refine(aC (ρ':=[.v (bI r x),.v (nI c),.v (nI q),.v (nI w),.v (aN r),.v (aN x),.v (nI (aR c w))]) ((ck ((aB ((eg (ds:=[nI c,nI q,nI w]) rfl rfl).trans (m7 c q hw)) (y:=.int 2) rfl).trans rfl)).trans rfl)).trans ?_
  exact bZ (dv (au ((eg (ds:=[aN r,nI q,nI (aR c w)]) rfl rfl).trans (jV r q _ (by omega))) (au ((eg (ds:=[aN x,nI q,nI (aR c w)]) rfl rfl).trans (jV x q _ (by omega))) rfl)) (by simp))
end
structure Gn(n:Nat)(r x:List Nat):Prop where
 g:Gd n r x
 ne: ∀i,i<n->r.getD i 0≠x.getD i 0
theorem lO(l:List Nat)(f:Nat->Nat)(i:Nat)(h:i<l.length):(l.map f).getD i 0=f (l.getD i 0):=by
 rw[List.getD_eq_getElem?_getD,List.getD_eq_getElem?_getD,List.getElem?_map,List.getElem?_eq_getElem h];rfl
theorem qH(l:List Nat)(i v j:Nat)(hi:i<=l.length):(kR l i v).getD j 0=if j<i then l.getD j 0 else if j=i then v else l.getD (j-1) 0:=by
 unfold kR;rw[List.getD_eq_getElem?_getD,List.getElem?_append,List.length_take,Nat.min_eq_left hi]
 by_cases h:j<i
 ·rw[if_pos h,if_pos h,List.getElem?_take_of_lt h,<-List.getD_eq_getElem?_getD]
 ·rw[if_neg h,if_neg h]
  by_cases e:j=i
  ·subst e;rw[if_pos rfl,Nat.sub_self];rfl
  ·rw[if_neg e,show j-i=(j-i-1)+1 by omega,List.getElem?_cons_succ,List.getElem?_drop,<-List.getD_eq_getElem?_getD,show i+(j-i-1)=j-1 by omega]
theorem cE {n:Nat}{l:List Nat}(hl:l.length=n)(row to col v j:Nat)(hc:col<=n)(hj:j<=n):(cb l row to col v).getD j 0=if j=col then v else eE row to (l.getD (if j<col then j else j-1) 0):=by
 unfold cb;rw[qH _ _ _ _ (by rw[List.length_map];omega)]
 by_cases h:j<col
 ·rw[if_pos h,if_neg (by omega),if_pos h,lO _ _ _ (by omega)]
 ·rw[if_neg h]
  by_cases e:j=col
  ·rw[if_pos e,if_pos e]
  ·rw[if_neg e,if_neg e,if_neg h,lO _ _ _ (by omega)]
theorem eu(l:List Nat)(row to col v:Nat):(cb l row to col v).length=l.length+1:=by unfold cb;rw[rZ,List.length_map]
def dn(row v:Nat):Nat:=if row<v then v-1 else v
theorem sE: ∀n,n<=7-> ∀col,col<n->((List.range n).filter λi=> !decide (i=col))=(List.range (n-1)).map λi=>if i<col then i else i+1:=by decide
theorem lw {n:Nat}{l:List Nat}(hl:l.length=n)(hn:n<=7){row col:Nat}(hc:col<n):fc l row col=(List.range (n-1)).map λi=>dn row (l.getD (if i<col then i else i+1) 0):=by
 unfold fc;rw[hl,sE n hn col hc,List.map_map];rfl
theorem j7 {n:Nat}{l:List Nat}(hl:l.length=n)(hn:n<=7){row col:Nat}(hc:col<n):(fc l row col).length=n-1:=by rw[lw hl hn hc,List.length_map,List.length_range]
theorem oO {n:Nat}{l:List Nat}(hl:l.length=n)(hn:n<=7){row col i:Nat}(hc:col<n)(hi:i<n-1):(fc l row col).getD i 0=dn row (l.getD (if i<col then i else i+1) 0):=by
 rw[lw hl hn hc,List.getD_eq_getElem?_getD,List.getElem?_map,List.getElem?_range hi];rfl
theorem lF {n:Nat}{l:List Nat}(O:Ord n l)(hn:n<=6){row to col v:Nat}(hc:col<=n)(h:to=row\/to=row+1):fc (cb l row to col v) row col=l:=by
 have hl:=O.len
 have hp:(cb l row to col v).length=n+1:=by rw[eu,hl]
 refine qS (by rw[j7 hp (by omega) (by omega),hl];omega) λi hi=>?_
 rw[j7 hp (by omega) (by omega)] at hi
 rw[oO hp (by omega) (by omega) hi,cE hl _ _ _ _ _ hc (by split<;>omega)]
 by_cases e:i<col
 ·rw[if_pos e,if_neg (by omega),if_pos e]
  unfold dn eE;split<;>split<;>(try split)<;>omega
 ·rw[if_neg e,if_neg (by omega),if_neg (by omega),Nat.add_sub_cancel]
  unfold dn eE;split<;>split<;>(try split)<;>omega
theorem nK {p:Nat->Bool}{w:Nat}(hw:w<4)(h:p w=true)(u: ∀v,v<4->p v=true->v=w):(List.range 4).find? p=some w:=by
 cases e:(List.range 4).find? p with
 |none=>
  rw[List.find?_eq_none] at e;exact absurd h (by simpa using e w (List.mem_range.mpr hw))
 |some v=>
  have m:=List.mem_of_find?_eq_some e
  rw[u v (List.mem_range.mp m) (List.find?_some e)]
theorem jS(r x:List Nat)(c q w:Nat):cJ r x c q w=true↔(r.getD (aR c w) 0=bx q w/\x.getD (aR c w) 0=be q w)/\x.getD (bX c w) 0=bx q w/\r.getD (bX c w) 0≠be q w:=by
 unfold cJ;simp only[Bool.and_eq_true,decide_eq_true_eq,Bool.not_eq_true',decide_eq_false_iff_not]
theorem pO {r x:List Nat}{c q w v:Nat}(hw:w<4)(hv:v<4)(h:cJ r x c q w=true)(h2:cJ r x c q v=true):v=w:=by
 rw[jS] at h h2;obtain⟨⟨a1,a2⟩,a3,a4⟩:=h
 obtain⟨⟨b1,b2⟩,b3,b4⟩:=h2
 unfold aR bx bX be at*;have:w=0\/w=1\/w=2\/w=3:=by omega
 have:v=0\/v=1\/v=2\/v=3:=by omega
 rcases ‹w=0\/_› with rfl|rfl|rfl|rfl<;>rcases ‹v=0\/_› with rfl|rfl|rfl|rfl<;>simp at* <;>omega
theorem Gn.put {n:Nat}{r x:List Nat}(G:Gn n r x){c w:Nat}(hc:c<n)(hw:w<4)(h6:n<6):Gn (n+1) (cb r (x.getD c 0) (be (x.getD c 0) w) (aR c w) (bx (x.getD c 0) w)) (cb x (x.getD c 0) (bx (x.getD c 0) w) (aR c w) (be (x.getD c 0) w)):=by
 refine⟨G.g.put hc hw h6,λi hi=>?_⟩
 have hf:aR c w<=n:=by unfold aR;omega
 rw[cE G.g.R.len _ _ _ _ _ hf (by omega),cE G.g.X.len _ _ _ _ _ hf (by omega)]
 have d:(be (x.getD c 0) w=x.getD c 0/\bx (x.getD c 0) w=x.getD c 0+1)\/(be (x.getD c 0) w=x.getD c 0+1/\bx (x.getD c 0) w=x.getD c 0):=by
  unfold be bx;have:w / 2=0\/w / 2=1:=by omega
  omega
 by_cases e:i=aR c w
 ·rw[if_pos e,if_pos e];omega
 ·rw[if_neg e,if_neg e]
  have hj:(if i<aR c w then i else i-1)<n:=by split<;>omega
  have q:=G.ne _ hj
  generalize (if i<aR c w then i else i-1)=j at hj q⊢
  unfold eE;split<;>split<;>(try split)<;>(try split)<;>omega
theorem pD {n:Nat}{r x:List Nat}(G:Gn n r x){c w:Nat}(hc:c<n)(hw:w<4):cJ (cb r (x.getD c 0) (be (x.getD c 0) w) (aR c w) (bx (x.getD c 0) w)) (cb x (x.getD c 0) (bx (x.getD c 0) w) (aR c w) (be (x.getD c 0) w)) c (x.getD c 0) w=true:=by
 have hf:aR c w<=n:=by unfold aR;omega
 have hg:bX c w<=n:=by unfold bX;omega
 have hne:bX c w≠aR c w:=by unfold aR bX;omega
 have hback:(if bX c w<aR c w then bX c w else bX c w-1)=c:=by unfold aR bX;split<;>omega
 have d:(be (x.getD c 0) w=x.getD c 0/\bx (x.getD c 0) w=x.getD c 0+1)\/(be (x.getD c 0) w=x.getD c 0+1/\bx (x.getD c 0) w=x.getD c 0):=by
  unfold be bx;have:w / 2=0\/w / 2=1:=by omega
  omega
 rw[jS,cE G.g.R.len _ _ _ _ _ hf hf,cE G.g.X.len _ _ _ _ _ hf hf,cE G.g.R.len _ _ _ _ _ hf hg,cE G.g.X.len _ _ _ _ _ hf hg,if_pos rfl,if_pos rfl,if_neg hne,if_neg hne,hback];have q:=G.ne c hc
 refine⟨⟨rfl,rfl⟩,?_,?_⟩
 ·unfold eE;rw[if_pos rfl]
 ·unfold eE
  split<;>(try split)<;>omega
set_option maxHeartbeats 1000000
def jz:FS:=
 av (gg 2 (aK 0 1 cw (cu (ae (aq (.int 4)) (ah)))))
 (av (gg 3 (iG aG (pu (aq (.int 1))) (aK 0 1 cw (cu (ae (ak dX (ag 1) (aq (.int 1))) (ah))))))
 (av (gg 4 (aK 0 1 eI (cu (ae (ag 1) (ah)))))
 (av (mY 5 (aK 0 1 eI (cu (ae (ag 1) (ah)))))
 (av (dL (bw (ak gG (ag 2) (aq (.int 1)))) (av (aU 4 (sg (ag 1)))
 (dQ 5 (bb 1 (fj (ag 4)) (gN 8) (cI) (ak bj (ak aG (ag 8) (ag 3)) (ag 1))))) (skip))
 (av (cQ (cu (bn (ae (ag 1) (ah)))) (gN 6) (av (aU 7 (ak bj (ak aG (ag 6) (aq (.int 1))) (ag 1)))
 (dL (bw (ak gG (ak aO (dl 5) (ag 6)) (ak aO (ag 4) (ag 6)))) (cA (gT 2 (dB (cG 5 (ag 6)) (dB (cG 5 (ag 7)) (ik)))) (pu (cH (ae (ak aO (dl 5) (ag 7)) (ae (ak aO (dl 5) (ag 6)) (ah)))))) (skip))))
 (aM (cH (ae (aj bQ (ae (ag 4) (ah))) (ae (aj bQ (ae (dl 5) (ah))) (ah))))))))))
def jM:List D->List D->Option (D×List D):=pA .s 8 jz
theorem nJ {N:Nat}{a b:Int}(B:Bag N a b){n:Nat}(h2:2<=n)(h6:n<=6)(hN:N<=800000000): ∃(r x:List Nat) (a' b':Int),jM (aP a b) [nI n]=some (bI r x,aP a' b')/\Sq n r x/\Bag (N+2*n+2) a' b':=by
 obtain⟨p,a1,b1,e1,B1,p0,p1⟩:=iu (m:=4) B (by omega) (by decide) (by decide)
 obtain⟨q,a2,b2,e2,B2,q0,q1⟩:=iu (m:=(n:Int) -1) B1 (by omega) (by omega) (Nat.lt_of_lt_of_le (show((n:Int) -1).natAbs<10^10 by omega) (by decide))
 obtain⟨r,a3,b3,e3,or,B3⟩:=lG B2 (n:=n) (by omega) (by omega)
 obtain⟨x,a4,b4,e4,ox,B4⟩:=lG B3 (n:=n) (by omega) (by omega)
 obtain⟨q',rfl⟩: ∃j:Nat,q=(j:Int):=⟨q.toNat,by omega⟩
 have r0:kx 8 (aP a b) [nI n]=[.arg (aP a b),.v (nI n),.no,.no,.no,.no,.no,.no]:=rfl
 have s1:gg 2 (aK 0 1 cw (cu (ae (aq (.int 4)) (ah)))) [.arg (aP a b),.v (nI n),.no,.no,.no,.no,.no,.no]=.nx [.arg (aP a1 b1),.v (nI n),.v (.int p),.no,.no,.no,.no,.no]:=
  (iw (cv (i:=0) (n:=1) (b0:=aP a b) (ds:=[.int 4]) rfl (cB rfl) rfl rfl e1)).trans rfl
 have s2:gg 3 (iG aG (pu (aq (.int 1))) (aK 0 1 cw (cu (ae (ak dX (ag 1) (aq (.int 1))) (ah))))) [.arg (aP a1 b1),.v (nI n),.v (.int p),.no,.no,.no,.no,.no]=.nx [.arg (aP a2 b2),.v (nI n),.v (.int p),.v (nI (q'+1)),.no,.no,.no,.no]:=
  (iw (n5 (ia rfl) (cv (i:=0) (n:=1) (b0:=aP a1 b1) (ds:=[.int ((n:Int) -1)]) rfl (cB rfl) rfl rfl e2) (show aG (.int 1) (nI q')=some (nI (q'+1)) by rw[ci];simp;omega))).trans rfl
 have s3:gg 4 (aK 0 1 eI (cu (ae (ag 1) (ah)))) [.arg (aP a2 b2),.v (nI n),.v (.int p),.v (nI (q'+1)),.no,.no,.no,.no]=.nx [.arg (aP a3 b3),.v (nI n),.v (.int p),.v (nI (q'+1)),.v (.lst (r.map nI)),.no,.no,.no]:=
  (iw (cv (i:=0) (n:=1) (b0:=aP a2 b2) (ds:=[nI n]) rfl (cB rfl) rfl rfl e3)).trans rfl
 have s4:mY 5 (aK 0 1 eI (cu (ae (ag 1) (ah)))) [.arg (aP a3 b3),.v (nI n),.v (.int p),.v (nI (q'+1)),.v (.lst (r.map nI)),.no,.no,.no]=.nx [.arg (aP a4 b4),.v (nI n),.v (.int p),.v (nI (q'+1)),.v (.lst (r.map nI)),.own (x.map nI),.no,.no]:=
  (su (cv (i:=0) (n:=1) (b0:=aP a3 b3) (ds:=[nI n]) rfl (cB rfl) rfl rfl e4)).trans rfl
 have s5: ∃(r' x':List Nat),dL (bw (ak gG (ag 2) (aq (.int 1)))) (av (aU 4 (sg (ag 1)))
  (dQ 5 (bb 1 (fj (ag 4)) (gN 8) (cI) (ak bj (ak aG (ag 8) (ag 3)) (ag 1))))) (skip) [.arg (aP a4 b4),.v (nI n),.v (.int p),.v (nI (q'+1)),.v (.lst (r.map nI)),.own (x.map nI),.no,.no]=.nx [.arg (aP a4 b4),.v (nI n),.v (.int p),.v (nI (q'+1)),.v (.lst (r'.map nI)),.own (x'.map nI),.no,.no]/\Ord n r'/\Ord n x':=by
  unfold dL bw;rw[aB (x:=.int p) (y:=.int 1) rfl rfl,fC (by rw[da];omega),gm]
  by_cases hp:p=1
  ·refine⟨List.range n,(List.range n).map λi=>(i+(q'+1)) % n,?_,⟨.refl _⟩,sN n h2 h6 (q'+1) (by omega) (by omega)⟩
   rw[decide_eq_true hp];simp only[lW];rw[aC ((ck (uc (n:=n) (by omega) (ag 1) _ rfl)).trans rfl)]
   refine(iq (eC (ds:=(List.range n).map nI) (ys:=(List.range n).map λi=>nI ((i+(q'+1)) % n)) rfl (by simp;omega) (dA _ λi hi=>⟨_,rfl,?_⟩))).trans ?_
   ·exact(aB ((aB (x:=nI i) (y:=nI (q'+1)) rfl rfl).trans (vp _ _)) (y:=nI n) rfl).trans (vN (by omega))
   ·rw[List.map_map];rfl
  ·refine⟨r,x,?_,or,ox⟩
   rw[decide_eq_false hp];simp only[lW,skip]
 obtain⟨r',x',s5,or',ox'⟩:=s5
 obtain⟨x2,t6,t7,lp,ox2,hne⟩:=uf (aP a4 b4) (.int p) (nI (q'+1)) or' h2 n 0 x' .no .no (by omega) ox' (λi h=>absurd h (Nat.not_lt_zero _))
 have s6:cQ (cu (bn (ae (ag 1) (ah)))) (gN 6) oz [.arg (aP a4 b4),.v (nI n),.v (.int p),.v (nI (q'+1)),.v (.lst (r'.map nI)),.own (x'.map nI),.no,.no]=.nx [.arg (aP a4 b4),.v (nI n),.v (.int p),.v (nI (q'+1)),.v (.lst (r'.map nI)),.own (x2.map nI),t6,t7]:=by
  unfold cQ;rw[cB (dc (n:=n) rfl (by omega))]
  dsimp only;rw[List.range_eq_range'];exact lp
 refine⟨r',x2,a4,b4,?_,⟨or',ox2,hne⟩,by rw[show N+2*n+2=N+1+1+n+n by omega];exact B4⟩
 unfold jM pA jz;rw[r0,aC s1,aC s2,aC s3,aC s4,aC s5];rw[aC s6];have s7:aM (cH (ae (aj bQ (ae (ag 4) (ah))) (ae (aj bQ (ae (dl 5) (ah))) (ah)))) [.arg (aP a4 b4),.v (nI n),.v (.int p),.v (nI (q'+1)),.v (.lst (r'.map nI)),.own (x2.map nI),t6,t7]=.rt (bI r' x2) [.arg (aP a4 b4),.v (nI n),.v (.int p),.v (nI (q'+1)),.v (.lst (r'.map nI)),.own (x2.map nI),t6,t7]:=by
  unfold aM;rw[dv (ds:=[aN r',aN x2]) rfl (by simp)]
 rw[s7];rfl
theorem q9(r x:List Nat):cO (bI r x)<=32:=by
 show cO (.tup [.tup (r.map nI),.tup (x.map nI)])<=32;have e: ∀l:List Nat,cO (.tup (l.map nI))=1:=λl=>by unfold cO;rw[ke]
 unfold cO fm fm fm;rw[e,e];omega
set_option maxHeartbeats 4000000
theorem rK(l:List (aT×D))(k:aT)(d:D)(k':aT):ee (l++[(k,d)]) k'=(ee l k').or (if k=k' then some d else none):=by
 unfold ee;rw[List.find?_append];cases e:l.find? λkv=>decide (kv.1=k') with
 |some z=>simp
 |none=>
  by_cases h:k=k'
  ·simp[h]
  ·simp[h]
theorem ss {l:List (aT×D)}{k:aT}(h: ¬(l.any λkv=>decide (kv.1=k))=true):ee l k=none:=by
 unfold ee;have:l.find? (λkv=>decide (kv.1=k))=none:=by
  rw[List.find?_eq_none];intro z hz e;exact h (List.any_eq_true.mpr ⟨z,hz,e⟩)
 rw[this];rfl
theorem lU(k:aT)(d:D)(k':aT): ∀l:List (aT×D),ee (l.map λkv=>if kv.1=k then(kv.1,d) else kv) k'=if k'=k then(if(l.any λkv=>decide (kv.1=k))=true then some d else none) else ee l k'
 | []=>by simp[ee]
 |(k1,d1)::l=>by
  have ih:=lU k d k' l
  have step: ∀(a:aT) (b:D) (t:List (aT×D)),ee ((a,b)::t) k'=if a=k' then some b else ee t k':=λa b t=>by
   unfold ee;rw[List.find?_cons]
   by_cases h:a=k'
   ·simp[h]
   ·simp[h]
  rw[List.map_cons,List.any_cons,step k1 d1 l]
  by_cases h1:k1=k
  ·rw[if_pos h1,step,ih]
   subst h1
   by_cases h2:k'=k1
   ·simp[h2]
   ·simp[h2,Ne.symm h2]
  ·rw[if_neg h1,step,ih]
   by_cases h2:k'=k
   ·subst h2;rw[if_neg h1,if_pos rfl,if_pos rfl,decide_eq_false h1,Bool.false_or]
   ·simp[h1,h2]
theorem qk(l:List (aT×D))(k:aT)(d:D)(k':aT):ee (gM l k d) k'=if k'=k then some d else ee l k':=by
 unfold gM;split
 ·rename_i h
  rw[lU,if_pos h]
 ·rename_i h
  rw[rK]
  by_cases e:k'=k
  ·subst e;rw[if_pos rfl,if_pos rfl,ss h];rfl
  ·rw[if_neg e,if_neg (Ne.symm e),Option.or_none]
theorem rN(l:List (aT×D))(k:aT)(d:D):(gM l k d).length<=l.length+1:=by
 unfold gM;split
 ·rw[List.length_map];omega
 ·rw[List.length_append];exact Nat.le_refl _
structure Dj(kvs:List (aT×D))(f:Nat->Option Nat)(m:Nat):Prop where
 val: ∀j:Nat,ee kvs (.inl (j:Int))=(f j).map nI
 len:kvs.length<=m
theorem Dj.put {kvs:List (aT×D)}{f:Nat->Option Nat}{m:Nat}(h:Dj kvs f m)(j v:Nat):Dj (gM kvs (.inl (j:Int)) (nI v)) (λi=>if i=j then some v else f i) (m+1):=⟨λi=>by
 rw[qk]
 by_cases e:i=j
 ·subst e;rw[if_pos rfl];show _=Option.map nI (if i=i then _ else _);rw[if_pos rfl];rfl
 ·rw[if_neg (λz=>e (by have:=Sum.inl.inj z;omega)),h.val]
  show _=Option.map nI (if i=j then _ else _)
  rw[if_neg e],Nat.le_trans (rN _ _ _) (by have:=h.len;omega)⟩
theorem Dj.nil:Dj [] (λ_=>none) 0:=⟨λ_=>rfl,Nat.le_refl _⟩
def fL(hr vl:Nat->Nat)(ok:Nat->Bool):Nat->Nat->Option Nat
 |0=>λ_=>none
 |k+1=>if ok k=true then λj=>if j=hr k then some (vl k) else fL hr vl ok k j else fL hr vl ok k
theorem ku {hr vl:Nat->Nat}{ok:Nat->Bool}: ∀ {k i:Nat},i<k->ok i=true->(∀a b,a<k->b<k->hr a=hr b->a=b)->fL hr vl ok k (hr i)=some (vl i)
 |0,_,h,_,_=>absurd h (Nat.not_lt_zero _)
 |k+1,i,h,o,inj=>by
  unfold fL
  by_cases e:i=k
  ·subst e;rw[if_pos o];show(if hr i=hr i then _ else _)=_;rw[if_pos rfl]
  ·have ih:=ku (vl:=vl) (k:=k) (i:=i) (by omega) o λa b ha hb=>inj a b (by omega) (by omega)
   split
   ·show(if hr i=hr k then _ else _)=_
    rw[if_neg (λz=>e (inj i k h (by omega) z))];exact ih
   ·exact ih
theorem pX {A B:List (aT×D)}{c v:Nat}(h:A.length<=1000):pj [.k A,.k B] (nI 0) (nI c) (nI v)=some [.k (gM A (.inl (c:Int)) (nI v)),.k B]:=by
 show(qO (nI c) (nI v) (.k A)).map _=_;show(if A.length<=1000 then some (NO.k _) else none).map _=_
 rw[if_pos h];rfl
theorem mS {A B:List (aT×D)}{c v:Nat}(h:B.length<=1000):pj [.k A,.k B] (nI 1) (nI c) (nI v)=some [.k A,.k (gM B (.inl (c:Int)) (nI v))]:=by
 show(qO (nI c) (nI v) (.k B)).map _=_;show(if B.length<=1000 then some (NO.k _) else none).map _=_
 rw[if_pos h];rfl
theorem gp {i:Nat}{f1 f2 fv:FE}{ρ:ax}{us us':List NO}{d j k:D}(h0:mi i ρ=some us)(h1:fv ρ=some d)(h2:f1 ρ=some j)(h3:f2 ρ=some k)(h4:pj us j k d=some us'):dS i f1 f2 fv ρ=.nx (ρ.set i (.ob (.nst us'))):=by
 unfold dS;rw[h0,h1,h2,h3];dsimp only;rw[h4]
def db(c e0 i:Nat):Nat:=if i=c then e0 else if c<i then i+1 else i
theorem ul {f:FE}{g:FE}{ρ:ax}{a b:Nat}(h1:f ρ=some (nI a))(h2:g ρ=some (nI b)):ak aG f (aj jl (ae (ak nu f g) ah)) ρ=some (nI (if b<a then a+1 else a)):=by
 have e:aj jl (ae (ak nu f g) ah) ρ=some (nI (if b<a then 1 else 0)):=by
  refine(bK (au ((aB h1 h2).trans (t5 _ _)) rfl)).trans ?_
  by_cases h:b<a
  ·rw[decide_eq_true (by omega),if_pos h];rfl
  ·rw[decide_eq_false (by omega),if_neg h];rfl
 refine(aB h1 e).trans ((ci _ _).trans ?_)
 show some (D.int _)=some (D.int _);congr 2
 split<;>omega
theorem mG {f g:FE}{ρ:ax}{a b:Nat}(h1:f ρ=some (nI a))(h2:g ρ=some (nI b)):bw (ak gG f g) ρ=some (decide (a=b)):=cs ((aB h1 h2).trans (by rw[fC (by rw[da];omega),fS]))
theorem vP {f g:FE}{ρ:ax}{a b:Nat}(h1:f ρ=some (nI a))(h2:g ρ=some (nI b)):bw (ak iX f g) ρ=some (!decide (a=b)):=cs ((aB h1 h2).trans (by rw[gJ (by rw[da];omega),fS]))
theorem qy {p:FT}{f g:FE}{ρ:ax}{b:Bool}{u v:Nat}(hp:p ρ=some b)(h1:f ρ=some (nI u))(h2:g ρ=some (nI v)):lj p f g ρ=some (nI (if b=true then u else v)):=by
 cases b with
 |true=>exact(rj hp).trans h1
 |false=>exact(qN hp).trans h2
def mF:FS:=(av (aU 9 (ak aO (ak aO (ag 0) (ag 7)) (ag 8)))
 (dL (jt (bw (ak gG (ag 7) (aq (.int 0)))) (bw (ak iX (ag 8) (ag 1)))) (av (aU 10 (lj (bw (ak gG (ag 8) (ag 1))) (ak aO (ag 5) (aq (.int 0))) (ak aG (ag 8) (aj jl (ae (ak nu (ag 8) (ag 1)) (ah))))))
 (dS 6 (ag 7) (ag 10) (lj (bw (ak gG (ag 9) (ag 4))) (ak aO (ag 5) (aq (.int 1))) (ak aG (ag 9) (aj jl (ae (ak nu (ag 9) (ag 4)) (ah))))))) (skip)))
theorem sj {w n s9 s10 s11:Sl}{S:D}{us:List NO}{c q e0 e1 t i v:Nat}(hS:ak aO (ak aO (ag 0) (ag 7)) (ag 8) [.v S,.v (nI c),w,n,.v (nI q),.v (.tup [nI e0,nI e1]),.ob (.nst us),.v (nI t),.v (nI i),s9,s10,s11]=some (nI v)):
 ∃s10',(t≠0/\i=c->mF [.v S,.v (nI c),w,n,.v (nI q),.v (.tup [nI e0,nI e1]),.ob (.nst us),.v (nI t),.v (nI i),s9,s10,s11]=.nx [.v S,.v (nI c),w,n,.v (nI q),.v (.tup [nI e0,nI e1]),.ob (.nst us),.v (nI t),.v (nI i),.v (nI v),s10',s11])/\
 (¬(t≠0/\i=c)-> ∀us',pj us (nI t) (nI (db c e0 i)) (nI (eE q e1 v))=some us'-> ∃s10',mF [.v S,.v (nI c),w,n,.v (nI q),.v (.tup [nI e0,nI e1]),.ob (.nst us),.v (nI t),.v (nI i),s9,s10,s11]=.nx [.v S,.v (nI c),w,n,.v (nI q),.v (.tup [nI e0,nI e1]),.ob (.nst us'),.v (nI t),.v (nI i),.v (nI v),s10',s11]):=by
 have s1:aU 9 (ak aO (ak aO (ag 0) (ag 7)) (ag 8)) [.v S,.v (nI c),w,n,.v (nI q),.v (.tup [nI e0,nI e1]),.ob (.nst us),.v (nI t),.v (nI i),s9,s10,s11]=.nx [.v S,.v (nI c),w,n,.v (nI q),.v (.tup [nI e0,nI e1]),.ob (.nst us),.v (nI t),.v (nI i),.v (nI v),s10,s11]:=(ck hS).trans rfl
 have p1:jt (bw (ak gG (ag 7) (aq (.int 0)))) (bw (ak iX (ag 8) (ag 1))) [.v S,.v (nI c),w,n,.v (nI q),.v (.tup [nI e0,nI e1]),.ob (.nst us),.v (nI t),.v (nI i),.v (nI v),s10,s11]=some (decide (t=0)|| !decide (i=c)):=jf (mG (a:=t) (b:=0) rfl rfl) (vP (a:=i) (b:=c) rfl rfl)
 refine⟨s10,λh=>?_,λh us' hn=>?_⟩
 ·rw[decide_eq_false h.1,decide_eq_true h.2] at p1
  exact(aC s1).trans (eX p1)
 ·have e:(decide (t=0)|| !decide (i=c))=true:=by
   by_cases h0:t=0
   ·rw[decide_eq_true h0];rfl
   ·rw[decide_eq_false h0,decide_eq_false (λz=>h ⟨h0,z⟩)];rfl
  rw[e] at p1;have v1:lj (bw (ak gG (ag 8) (ag 1))) (ak aO (ag 5) (aq (.int 0))) (ak aG (ag 8) (aj jl (ae (ak nu (ag 8) (ag 1)) (ah)))) [.v S,.v (nI c),w,n,.v (nI q),.v (.tup [nI e0,nI e1]),.ob (.nst us),.v (nI t),.v (nI i),.v (nI v),s10,s11]=some (nI (db c e0 i)):=by
   refine(qy (mG (a:=i) (b:=c) rfl rfl) (u:=e0) rfl (ul (a:=i) (b:=c) rfl rfl)).trans ?_
   unfold db
   by_cases h1:i=c
   ·rw[decide_eq_true h1,if_pos rfl,if_pos h1]
   ·rw[decide_eq_false h1,if_neg (by decide),if_neg h1]
  have s2:=(ck (i:=10) v1)
  have v2:lj (bw (ak gG (ag 9) (ag 4))) (ak aO (ag 5) (aq (.int 1))) (ak aG (ag 9) (aj jl (ae (ak nu (ag 9) (ag 4)) (ah)))) [.v S,.v (nI c),w,n,.v (nI q),.v (.tup [nI e0,nI e1]),.ob (.nst us),.v (nI t),.v (nI i),.v (nI v),.v (nI (db c e0 i)),s11]=some (nI (eE q e1 v)):=by
   refine(qy (mG (a:=v) (b:=q) rfl rfl) (u:=e1) rfl (ul (a:=v) (b:=q) rfl rfl)).trans ?_
   unfold eE
   by_cases h1:v=q
   ·rw[decide_eq_true h1,if_pos rfl,if_pos h1]
   ·rw[decide_eq_false h1,if_neg (by decide),if_neg h1]
  exact⟨.v (nI (db c e0 i)),(aC s1).trans ((mk p1).trans ((aC (s2.trans rfl)).trans ((gp (us:=us) rfl v2 (j:=nI t) rfl (k:=nI (db c e0 i)) rfl hn).trans rfl)))⟩
def mI:FS:=
 av (aU 3 (aj cf (ae (ak aO (ag 0) (aq (.int 0))) (ah))))
 (av (aU 4 (ak aO (ak aO (ag 0) (aq (.int 1))) (ag 1)))
 (av (aU 5 (cH (ae (ak aG (ag 1) (ak bj (ag 2) (aq (.int 2)))) (ae (ak aG (ag 4) (ak dh (ag 2) (aq (.int 2)))) (ah)))))
 (av (tV 6)
 (av (cQ (cu (bn (ae (aq (.int 2)) (ah)))) (gN 7) (cQ (cu (bn (ae (ag 3) (ah)))) (gN 8) mF))
 (av (aU 11 (cH (ae (ak dX (ak aG (ak bW (aq (.int 2)) (ag 1)) (aq (.int 1))) (ak aO (ag 5) (aq (.int 0)))) (ae (ak dX (ak aG (ak bW (aq (.int 2)) (ag 4)) (aq (.int 1))) (ak aO (ag 5) (aq (.int 1)))) (ah)))))
 (av (dS 6 (aq (.int 0)) (ak aO (ag 11) (aq (.int 0))) (ak aO (ag 11) (aq (.int 1))))
 (av (dS 6 (aq (.int 1)) (ak aO (ag 5) (aq (.int 0))) (ak aO (ag 11) (aq (.int 1))))
 (av (dS 6 (aq (.int 1)) (ak aO (ag 11) (aq (.int 0))) (ak aO (ag 5) (aq (.int 1))))
 (pL 6 (aM (aj bQ (ae (bb 1 (jL 6) (gR 12) (cI) (aj bQ (ae (bb 1 (bn (ae (ak aG (ag 3) (aq (.int 1))) (ah))) (gN 13) (cI) (o6 12 (ag 13))) (ah)))) (ah)))))))))))))
def uT:List D->Option D:=gu .s 12 mI
theorem lR {g:FG}{b:FS}{P:Nat->ax->Prop}: ∀(k j:Nat),(∀i ρ,j<=i->i<j+k->P i ρ-> ∃ρ1 ρ2,g (nI i) ρ=some ρ1/\b ρ1=.nx ρ2/\P (i+1) ρ2)-> ∀ρ,P j ρ-> ∃ρ',de g b ((List.range' j k).map nI) ρ=.nx ρ'/\P (j+k) ρ'
 |0,j,_,ρ,p=>⟨ρ,rfl,p⟩
 |k+1,j,h,ρ,p=>by
  obtain⟨ρ1,ρ2,h1,h2,p2⟩:=h j ρ (Nat.le_refl _) (by omega) p
  obtain⟨ρ',h3,p3⟩:=lR k (j+1) (λi ρ a b=>h i ρ (by omega) (by omega)) ρ2 p2
  refine⟨ρ',?_,by rwa [show j+(k+1)=j+1+k by omega]⟩
  rw[List.range'_succ,List.map_cons,cU h1 h2];exact h3
theorem nl {ρ:ax}{r x:List Nat}{n:Nat}(hr:r.length=n)(hx:x.length=n)(f g:FE){t i:Nat}{S:Sl}(h0:ag 0 ρ=some (bI r x))(ht:t<2)(hi:i<n)(hf:f ρ=some (nI t))(hg:g ρ=some (nI i)):ak aO (ak aO (ag 0) f) g ρ=some (nI ((if t=0 then r else x).getD i 0)):=by
 have e:ak aO (ag 0) f ρ=some (aN (if t=0 then r else x)):=by
  refine(aB h0 hf).trans ?_
  rcases(by omega:t=0\/t=1) with rfl|rfl<;>rfl
 refine(aB e hg).trans ?_
 show jp ((if t=0 then r else x).map nI) (i:Int)=_
 rw[rX (by split<;>omega)]
theorem qY {hr vl:Nat->Nat}{ok:Nat->Bool}{k:Nat}(h:ok k=true):fL hr vl ok (k+1)=λj=>if j=hr k then some (vl k) else fL hr vl ok k j:=if_pos h
theorem uU {hr vl:Nat->Nat}{ok:Nat->Bool}{k:Nat}(h:ok k=false):fL hr vl ok (k+1)=fL hr vl ok k:=if_neg (by rw[h];decide)
section
variable {n:Nat}{r x:List Nat}{c w:Nat}
theorem uH {L:List Nat}{m:Nat}(h:L.length=m):((List.range m).map λj=>nI (L.getD j 0))=L.map nI:=by
 subst h;apply List.ext_getElem?
 intro i;rw[List.getElem?_map,List.getElem?_map]
 by_cases hi:i<L.length
 ·rw[List.getElem?_range hi,List.getElem?_eq_getElem hi]
  show some (nI _)=some (nI _);rw[List.getD_eq_getElem?_getD,List.getElem?_eq_getElem hi];rfl
 ·rw[List.getElem?_eq_none (by simpa using hi),List.getElem?_eq_none (by simpa using hi)];rfl
theorem yh {A:List (aT×D)}{f:Nat->Option Nat}{m n:Nat}{L:List Nat}(J:Dj A f m)(hL:L.length=n+1)(hn:n<=10)(hf: ∀j,j<=n->f j=some (L.getD j 0))(ρ:ax)(hl:ρ.length=12)(h3:ag 3 ρ=some (nI n)):
 aj bQ (ae (bb 1 (bn (ae (ak aG (ag 3) (aq (.int 1))) (ah))) (gN 13) (cI) (o6 12 (ag 13))) (ah)) (ρ++[.ob (.dR A)])=some (aN L):=by
 have e3:ag 3 (ρ++[.ob (.dR A)])=some (nI n):=by
  unfold ag at h3⊢;rw[List.getElem?_append_left (by omega)];exact h3
 have key:bb 1 (bn (ae (ak aG (ag 3) (aq (.int 1))) (ah))) (gN 13) (cI) (o6 12 (ag 13)) (ρ++[.ob (.dR A)])=some (.lst ((List.range (n+1)).map λj=>nI (L.getD j 0))):=by
  refine eC (ds:=(List.range (n+1)).map nI) (dc (n:=n+1) (au ((aB e3 (y:=.int 1) rfl).trans (pP n)) rfl) (by omega)) (by simp;omega) (dA (h:=nI) (o:=λj=>nI (L.getD j 0)) (List.range (n+1)) λj hj=>⟨_,rfl,?_⟩)
  rw[List.mem_range] at hj;have l13:(ρ++[Sl.ob (.dR A)]).length=13:=by simp[hl]
  have g12:qi 12 (((ρ++[Sl.ob (.dR A)])++List.replicate 1 Sl.no).set 13 (.v (nI j)))=some A:=by
   unfold qi;rw[List.getElem?_set_ne (by omega),List.getElem?_append_left (by omega),List.getElem?_append_right (by omega),hl];rfl
  have g13:ag 13 (((ρ++[Sl.ob (.dR A)])++List.replicate 1 Sl.no).set 13 (.v (nI j)))=some (nI j):=by
   unfold ag;rw[List.getElem?_set_self (by simp[hl])]
  unfold o6;rw[g12,g13];show ee A (.inl (j:Int))=_;rw[J.val,hf j (by omega)];rfl
 rw[bK (au key rfl)];show some (D.tup _)=some (D.tup _);rw[uH hL]
theorem qK {g:List (aT×D)->ax->Option ax}{f:FE}{gi:ax->Option (List (List (aT×D)))}{ρ ρ1 ρ2:ax}{A B:List (aT×D)}{d1 d2:D}(h:gi ρ=some [A,B])(h1:g A (ρ++List.replicate 1 .no)=some ρ1)(e1:f ρ1=some d1)(h2:g B (ρ++List.replicate 1 .no)=some ρ2)(e2:f ρ2=some d2):bb 1 gi g cI f ρ=some (.lst [d1,d2]):=by
 have c1:bB g cI f (ρ++List.replicate 1 .no) [B]=some [d2]:=by
  unfold bB;rw[h2];show((f ρ2).bind λy=>(bB g cI f (ρ++List.replicate 1 .no) []).map (y:: ·))=_
  rw[e2];rfl
 have c2:bB g cI f (ρ++List.replicate 1 .no) [A,B]=some [d1,d2]:=by
  unfold bB;rw[h1];show((f ρ1).bind λy=>(bB g cI f (ρ++List.replicate 1 .no) [B]).map (y:: ·))=_
  rw[e1,c1];rfl
 unfold bb;rw[h,Option.bind_some,if_pos (Nat.le_of_ble_eq_true rfl),c2];rfl
theorem s0 {i:Nat}{t:FS}{ρ ρ':ax}(h:wT i ρ=some ρ'):pL i t ρ=t ρ':=by unfold pL;rw[h]
def dZ(r x:List Nat)(c w q e0 e1 n:Nat)(A B:List (aT×D))(s7 s8 s9 s10 s11:Sl):ax:=[.v (bI r x),.v (nI c),.v (nI w),.v (nI n),.v (nI q),.v (.tup [nI e0,nI e1]),.ob (.nst [.k A,.k B]),s7,s8,s9,s10,s11]
theorem n4(hr:r.length=n)(hx:x.length=n)(hn:n<=10){q e0 e1 t:Nat}(ht:t<2){A B:List (aT×D)}(hA:t=0->A=[])(hB:t=1->B=[])(s8 s9 s10:Sl)(s11:Sl):
 ∃A' B' s8' s9' s10',cQ (cu (bn (ae (ag 3) (ah)))) (gN 8) mF (dZ r x c w q e0 e1 n A B (.v (nI t)) s8 s9 s10 s11)=.nx (dZ r x c w q e0 e1 n A' B' (.v (nI t)) s8' s9' s10' s11)/\
  (t=0->Dj A' (fL (db c e0) (λi=>eE q e1 (r.getD i 0)) (λ_=>true) n) n/\B'=B)/\(t=1->Dj B' (fL (db c e0) (λi=>eE q e1 (x.getD i 0)) (λi=> !decide (i=c)) n) n/\A'=A):=by
 obtain⟨ρ',h1,A',B',s8',s9',s10',rfl,h2,h3⟩:=kg (f:=cu (bn (ae (ag 3) (ah)))) (g:=gN 8) (b:=mF) (ρ:=dZ r x c w q e0 e1 n A B (.v (nI t)) s8 s9 s10 s11) (ds:=(List.range' 0 n).map nI)
  (P:=λρ=> ∃A' B' s8' s9' s10',ρ=dZ r x c w q e0 e1 n A' B' (.v (nI t)) s8' s9' s10' s11/\(t=0->Dj A' (fL (db c e0) (λi=>eE q e1 (r.getD i 0)) (λ_=>true) n) n/\B'=B)/\(t=1->Dj B' (fL (db c e0) (λi=>eE q e1 (x.getD i 0)) (λi=> !decide (i=c)) n) n/\A'=A))
  (cB (by rw[<-List.range_eq_range'];exact dc (n:=n) rfl (by omega))) (by
    have:=lR (g:=gN 8) (b:=mF) (P:=λk ρ=> ∃A' B' s8' s9' s10',ρ=dZ r x c w q e0 e1 n A' B' (.v (nI t)) s8' s9' s10' s11/\(t=0->Dj A' (fL (db c e0) (λi=>eE q e1 (r.getD i 0)) (λ_=>true) k) k/\B'=B)/\(t=1->Dj B' (fL (db c e0) (λi=>eE q e1 (x.getD i 0)) (λi=> !decide (i=c)) k) k/\A'=A)) n 0 (λi ρ _ hi hρ=>?_) (dZ r x c w q e0 e1 n A B (.v (nI t)) s8 s9 s10 s11) ⟨A,B,s8,s9,s10,rfl,λh=>⟨by rw[hA h];exact Dj.nil,rfl⟩,λh=>⟨by rw[hB h];exact Dj.nil,rfl⟩⟩
    ·rwa [Nat.zero_add] at this
    obtain⟨A',B',s8',s9',s10',rfl,g0,g1⟩:=hρ
    rw[Nat.zero_add] at hi;have hS:ak aO (ak aO (ag 0) (ag 7)) (ag 8) (dZ r x c w q e0 e1 n A' B' (.v (nI t)) (.v (nI i)) s9' s10' s11)=some (nI ((if t=0 then r else x).getD i 0)):=nl (S:=.no) hr hx _ _ rfl ht hi rfl rfl
    obtain⟨s10'',k1,k2⟩:=sj (w:=.v (nI w)) (n:=.v (nI n)) (us:=[.k A',.k B']) hS
    refine⟨dZ r x c w q e0 e1 n A' B' (.v (nI t)) (.v (nI i)) s9' s10' s11,?_⟩
    rcases(by omega:t=0\/t=1) with rfl|rfl
    ·obtain⟨J,eB⟩:=g0 rfl
     obtain⟨z,hz⟩:=k2 (λh=>h.1 rfl) _ (pX (by have:=J.len;omega))
     refine⟨_,rfl,hz,_,_,_,_,_,rfl,λ_=>⟨?_,eB⟩,λh=>by cases h⟩
     have:=J.put (db c e0 i) (eE q e1 (r.getD i 0))
     rw[qY rfl];exact this
    ·obtain⟨J,eA⟩:=g1 rfl
     by_cases hic:i=c
     ·refine⟨_,rfl,k1 ⟨by decide,hic⟩,_,_,_,_,_,rfl,λh=>(by cases h),λ_=>⟨?_,eA⟩⟩
      rw[uU (by rw[decide_eq_true hic];rfl)]
      exact⟨J.val,by have:=J.len;omega⟩
     ·obtain⟨z,hz⟩:=k2 (λh=>hic h.2) _ (mS (by have:=J.len;omega))
      refine⟨_,rfl,hz,_,_,_,_,_,rfl,λh=>(by cases h),λ_=>⟨?_,eA⟩⟩
      have:=J.put (db c e0 i) (eE q e1 (x.getD i 0))
      rw[qY (by rw[decide_eq_false hic];rfl)]
      exact this)
 exact⟨A',B',s8',s9',s10',h1,h2,h3⟩
theorem oC {c w:Nat}{n:Nat}: ∀a b,a<n->b<n->db c (bX c w) a=db c (bX c w) b->a=b:=by
 intro a b _ _ h;unfold db bX at h;have:=Nat.mod_lt w (show 0<2 by decide)
 split at h<;>split at h<;>(try split at h)<;>(try split at h)<;>omega
theorem tG(R:Ord n r)(X:Ord n x)(h2:2<=n)(hn:n<=6)(hc:c<n)(hw:w<4):uT [bI r x,nI c,nI w]=some (bI (cb r (x.getD c 0) (be (x.getD c 0) w) (aR c w) (bx (x.getD c 0) w)) (cb x (x.getD c 0) (bx (x.getD c 0) w) (aR c w) (be (x.getD c 0) w))):=by
 have hr:=R.len
 have hx:=X.len
 have hw2:=Nat.mod_lt w (show 0<2 by decide)
 apply gW (kd:=.s) (n:=12) (t:=mI)
 unfold mI;have hqn:x.getD c 0<n:=X.lt (by rw[List.getD_eq_getElem?_getD,List.getElem?_eq_getElem (by omega)];exact List.getElem_mem _)
 generalize hq:x.getD c 0=q at hqn⊢
 have s1:aU 3 (aj cf (ae (ak aO (ag 0) (aq (.int 0))) (ah))) (dN 12 [bI r x,nI c,nI w])=.nx [.v (bI r x),.v (nI c),.v (nI w),.v (nI n),.no,.no,.no,.no,.no,.no,.no,.no]:=(ck (hr▸fq r _ _ rfl)).trans rfl
 have s2:aU 4 (ak aO (ak aO (ag 0) (aq (.int 1))) (ag 1)) [.v (bI r x),.v (nI c),.v (nI w),.v (nI n),.no,.no,.no,.no,.no,.no,.no,.no]=.nx [.v (bI r x),.v (nI c),.v (nI w),.v (nI n),.v (nI q),.no,.no,.no,.no,.no,.no,.no]:=(ck ((nl (S:=.no) hr hx _ _ (t:=1) rfl (by omega) hc rfl rfl).trans (by rw[if_neg (by decide),hq]))).trans rfl
 have md:bj (nI w) (.int 2)=some (nI (w % 2)):=by
  rcases(by omega:w=0\/w=1\/w=2\/w=3) with rfl|rfl|rfl|rfl<;>rfl
 have fd:dh (nI w) (.int 2)=some (nI (w / 2)):=by
  rcases(by omega:w=0\/w=1\/w=2\/w=3) with rfl|rfl|rfl|rfl<;>kernel_rfl
 have s3:aU 5 (cH (ae (ak aG (ag 1) (ak bj (ag 2) (aq (.int 2)))) (ae (ak aG (ag 4) (ak dh (ag 2) (aq (.int 2)))) (ah)))) [.v (bI r x),.v (nI c),.v (nI w),.v (nI n),.v (nI q),.no,.no,.no,.no,.no,.no,.no]=.nx [.v (bI r x),.v (nI c),.v (nI w),.v (nI n),.v (nI q),.v (.tup [nI (bX c w),nI (be q w)]),.no,.no,.no,.no,.no,.no]:=
  (ck (dv (au ((aB (x:=nI c) (y:=nI (w % 2)) rfl ((aB (x:=nI w) (y:=.int 2) rfl rfl).trans md)).trans (ci _ _)) (au ((aB (x:=nI q) (y:=nI (w / 2)) rfl ((aB (x:=nI w) (y:=.int 2) rfl rfl).trans fd)).trans (ci _ _)) rfl)) (by show 2<=1000;omega))).trans rfl
 have s4:tV 6 [.v (bI r x),.v (nI c),.v (nI w),.v (nI n),.v (nI q),.v (.tup [nI (bX c w),nI (be q w)]),.no,.no,.no,.no,.no,.no]=.nx (dZ r x c w q (bX c w) (be q w) n [] [] .no .no .no .no .no):=rfl
 obtain⟨A0,B0,a8,a9,a10,l0,j0,_⟩:=n4 (r:=r) (x:=x) (c:=c) (w:=w) hr hx (by omega) (q:=q) (e0:=bX c w) (e1:=be q w) (t:=0) (by omega) (A:=[]) (B:=[]) (λ_=>rfl) (λ_=>rfl) .no .no .no .no
 obtain⟨J0,eB0⟩:=j0 rfl
 subst eB0;obtain⟨A1,B1,b8,b9,b10,l1,_,j1⟩:=n4 (r:=r) (x:=x) (c:=c) (w:=w) hr hx (by omega) (q:=q) (e0:=bX c w) (e1:=be q w) (t:=1) (by omega) (A:=A0) (B:=[]) (λh=>by cases h) (λ_=>rfl) a8 a9 a10 .no
 obtain⟨J1,eA1⟩:=j1 rfl
 subst eA1;have s5:cQ (cu (bn (ae (aq (.int 2)) (ah)))) (gN 7) (cQ (cu (bn (ae (ag 3) (ah)))) (gN 8) mF) (dZ r x c w q (bX c w) (be q w) n [] [] .no .no .no .no .no)=.nx (dZ r x c w q (bX c w) (be q w) n A1 B1 (.v (nI 1)) b8 b9 b10 .no):=by
  rw[iz (ds:=[nI 0,nI 1]) (ρ1:=dZ r x c w q (bX c w) (be q w) n [] [] .no .no .no .no .no) (cB ((dc (n:=2) rfl (by omega)).trans rfl))]
  rw[cU (ρ1:=dZ r x c w q (bX c w) (be q w) n [] [] (.v (nI 0)) .no .no .no .no) rfl l0,cU (ρ1:=dZ r x c w q (bX c w) (be q w) n A1 [] (.v (nI 1)) a8 a9 a10 .no) rfl l1];rfl
 have f0:2*c+1-bX c w=aR c w:=by unfold bX aR;omega
 have f1:2*q+1-be q w=bx q w:=by unfold be bx;omega
 have ac: ∀(a e f:Nat) (F G:FE) (ρ:ax),F ρ=some (nI a)->G ρ=some (nI e)->2*a+1-e=f->e<=2*a+1->a<100->ak dX (ak aG (ak bW (aq (.int 2)) F) (aq (.int 1))) G ρ=some (nI f):=λa e f F G ρ h1 h2 h3 h4 h5=>by
  have m2:ak bW (aq (.int 2)) F ρ=some (.int (2*a)):=(aB (x:=.int 2) rfl h1).trans (dO (by decide) (Nat.lt_of_lt_of_le (show((a:Int)).natAbs<100 by omega) (by decide)))
  refine(aB ((aB m2 (y:=.int 1) rfl).trans (ci _ _)) h2).trans ((gD _ _).trans ?_)
  show some (D.int _)=some (D.int _);congr 2
  omega
 have s6:aU 11 (cH (ae (ak dX (ak aG (ak bW (aq (.int 2)) (ag 1)) (aq (.int 1))) (ak aO (ag 5) (aq (.int 0)))) (ae (ak dX (ak aG (ak bW (aq (.int 2)) (ag 4)) (aq (.int 1))) (ak aO (ag 5) (aq (.int 1)))) (ah)))) (dZ r x c w q (bX c w) (be q w) n A1 B1 (.v (nI 1)) b8 b9 b10 .no)=.nx (dZ r x c w q (bX c w) (be q w) n A1 B1 (.v (nI 1)) b8 b9 b10 (.v (.tup [nI (aR c w),nI (bx q w)]))):=
  (ck (dv (au (ac c _ _ _ _ _ rfl rfl f0 (by unfold bX;omega) (by omega)) (au (ac q _ _ _ _ _ rfl rfl f1 (by unfold be;omega) (by omega)) rfl)) (by show 2<=1000;omega))).trans rfl
 have J0':=J0.put (aR c w) (bx q w)
 have J1':=(J1.put (bX c w) (bx q w)).put (aR c w) (be q w)
 have la:=J0.len
 have lb:=J1.len
 have lb1:=(J1.put (bX c w) (bx q w)).len
 generalize hA2:gM A1 (.inl ((aR c w:Nat):Int)) (nI (bx q w))=A2 at J0'
 generalize hB2:gM B1 (.inl ((bX c w:Nat):Int)) (nI (bx q w))=B2 at J1' lb1
 generalize hB3:gM B2 (.inl ((aR c w:Nat):Int)) (nI (be q w))=B3 at J1'
 have s7:dS 6 (aq (.int 0)) (ak aO (ag 11) (aq (.int 0))) (ak aO (ag 11) (aq (.int 1))) (dZ r x c w q (bX c w) (be q w) n A1 B1 (.v (nI 1)) b8 b9 b10 (.v (.tup [nI (aR c w),nI (bx q w)])))=.nx (dZ r x c w q (bX c w) (be q w) n A2 B1 (.v (nI 1)) b8 b9 b10 (.v (.tup [nI (aR c w),nI (bx q w)]))):=by
  rw[<-hA2];exact(gp (d:=nI (bx q w)) (j:=nI 0) (k:=nI (aR c w)) rfl rfl rfl rfl (pX (by omega))).trans rfl
 have s8:dS 6 (aq (.int 1)) (ak aO (ag 5) (aq (.int 0))) (ak aO (ag 11) (aq (.int 1))) (dZ r x c w q (bX c w) (be q w) n A2 B1 (.v (nI 1)) b8 b9 b10 (.v (.tup [nI (aR c w),nI (bx q w)])))=.nx (dZ r x c w q (bX c w) (be q w) n A2 B2 (.v (nI 1)) b8 b9 b10 (.v (.tup [nI (aR c w),nI (bx q w)]))):=by
  rw[<-hB2];exact(gp (d:=nI (bx q w)) (j:=nI 1) (k:=nI (bX c w)) rfl rfl rfl rfl (mS (by omega))).trans rfl
 have s9:dS 6 (aq (.int 1)) (ak aO (ag 11) (aq (.int 0))) (ak aO (ag 5) (aq (.int 1))) (dZ r x c w q (bX c w) (be q w) n A2 B2 (.v (nI 1)) b8 b9 b10 (.v (.tup [nI (aR c w),nI (bx q w)])))=.nx (dZ r x c w q (bX c w) (be q w) n A2 B3 (.v (nI 1)) b8 b9 b10 (.v (.tup [nI (aR c w),nI (bx q w)]))):=by
  rw[<-hB3];exact(gp (d:=nI (be q w)) (j:=nI 1) (k:=nI (aR c w)) rfl rfl rfl rfl (mS (by omega))).trans rfl
 have hf:aR c w<=n:=by unfold aR;omega
 have v0: ∀j,j<=n->(if j=aR c w then some (bx q w) else fL (db c (bX c w)) (λi=>eE q (be q w) (r.getD i 0)) (λ_=>true) n j)=some ((cb r q (be q w) (aR c w) (bx q w)).getD j 0):=λj hj=>by
  rw[cE hr _ _ _ _ _ hf hj]
  by_cases e:j=aR c w
  ·rw[if_pos e,if_pos e]
  ·rw[if_neg e,if_neg e]
   have hh:db c (bX c w) (if j<aR c w then j else j-1)=j:=by
    unfold db bX;unfold aR at e⊢;split<;>split<;>(try split)<;>omega
   have:=ku (hr:=db c (bX c w)) (vl:=λi=>eE q (be q w) (r.getD i 0)) (ok:=λ_=>true) (k:=n) (i:=if j<aR c w then j else j-1) (by unfold aR at e⊢;split<;>omega) rfl oC
   rw[hh] at this;exact this
 have v1: ∀j,j<=n->(if j=aR c w then some (be q w) else if j=bX c w then some (bx q w) else fL (db c (bX c w)) (λi=>eE q (be q w) (x.getD i 0)) (λi=> !decide (i=c)) n j)=some ((cb x q (bx q w) (aR c w) (be q w)).getD j 0):=λj hj=>by
  rw[cE hx _ _ _ _ _ hf hj]
  by_cases e:j=aR c w
  ·rw[if_pos e,if_pos e]
  ·rw[if_neg e,if_neg e]
   by_cases e2:j=bX c w
   ·rw[if_pos e2]
    have:(if j<aR c w then j else j-1)=c:=by unfold aR bX at*;split<;>omega
    rw[this,hq];unfold eE;rw[if_pos rfl]
   ·rw[if_neg e2]
    have hh:db c (bX c w) (if j<aR c w then j else j-1)=j:=by
     unfold db bX;unfold aR at e⊢;unfold bX at e2;split<;>split<;>(try split)<;>omega
    have ni:(if j<aR c w then j else j-1)≠c:=λz=>by rw[z] at hh;unfold db at hh;rw[if_pos rfl] at hh;exact e2 hh.symm
    have li:(if j<aR c w then j else j-1)<n:=by unfold aR at e⊢;split<;>omega
    have:=ku (hr:=db c (bX c w)) (vl:=λi=>eE q (be q w) (x.getD i 0)) (ok:=λi=> !decide (i=c)) (k:=n) (i:=if j<aR c w then j else j-1) li (by rw[decide_eq_false ni];rfl) oC
    rw[hh] at this;rw[this];have nq:x.getD (if j<aR c w then j else j-1) 0≠q:=λz=>ni (X.inj li hc (by rw[z,hq]))
    unfold eE;rw[if_neg nq,if_neg nq]
 have fin:=qK (g:=gR 12) (gi:=jL 6) (ρ:=[.v (bI r x),.v (nI c),.v (nI w),.v (nI n),.v (nI q),.v (.tup [nI (bX c w),nI (be q w)]),.ob (.dRs [A2,B3]),.v (nI 1),b8,b9,b10,.v (.tup [nI (aR c w),nI (bx q w)])]) (ρ1:=[.v (bI r x),.v (nI c),.v (nI w),.v (nI n),.v (nI q),.v (.tup [nI (bX c w),nI (be q w)]),.ob (.dRs [A2,B3]),.v (nI 1),b8,b9,b10,.v (.tup [nI (aR c w),nI (bx q w)])]++[.ob (.dR A2)]) (ρ2:=[.v (bI r x),.v (nI c),.v (nI w),.v (nI n),.v (nI q),.v (.tup [nI (bX c w),nI (be q w)]),.ob (.dRs [A2,B3]),.v (nI 1),b8,b9,b10,.v (.tup [nI (aR c w),nI (bx q w)])]++[.ob (.dR B3)]) (A:=A2) (B:=B3) rfl rfl (yh J0' (L:=cb r q (be q w) (aR c w) (bx q w)) (by rw[eu,hr]) (by omega) v0 _ rfl rfl) rfl (yh J1' (L:=cb x q (bx q w) (aR c w) (be q w)) (by rw[eu,hx]) (by omega) v1 _ rfl rfl)
 refine⟨[.v (bI r x),.v (nI c),.v (nI w),.v (nI n),.v (nI q),.v (.tup [nI (bX c w),nI (be q w)]),.ob (.dRs [A2,B3]),.v (nI 1),b8,b9,b10,.v (.tup [nI (aR c w),nI (bx q w)])],(aC s1).trans ((aC s2).trans ((aC s3).trans ((aC s4).trans ((aC s5).trans ((aC s6).trans ((aC s7).trans ((aC s8).trans ((aC s9).trans ?_))))))))⟩
 refine(s0 (ρ':=_) rfl).trans (bZ ((bK (au fin rfl)).trans rfl))
end
theorem vF(ns:List Int)(k:Nat)(hk:1<=k)(ρ:ax)(h:ag 0 ρ=some (fZ ns)): ∃m:Nat,m<=k/\aj nQ (ae (aq (.int 1)) (ae (aj gC (ae (aq (.int k)) (ae (aj cf (ae (ag 0) (ah))) (ah)))) (ah))) ρ=some (nI m):=by
 have e1:aj cf (ae (ag 0) ah) ρ=some (nI ns.length):=by
  rw[bK (au h rfl)];show some (D.int ((ns.map D.int).length:Int))=_;rw[List.length_map]
 refine⟨max 1 (min k ns.length),by omega,?_⟩
 refine(bK (au rfl (au ((bK (au rfl (au e1 rfl))).trans rfl) rfl))).trans ?_
 show some (D.int _)=some (D.int _);congr 2
 split<;>split<;>omega
theorem rB {P:List D->Option (Except Ex D)}{ds:List D}{d:D}(h:P ds=some (.ok d)):u4 P ds=some d:=by unfold u4;rw[h]
section
variable {n:Nat}{r x:List Nat}(G:Gn n r x)
include G
theorem x5 {c w:Nat}(hc:c<n)(hw:w<4)(h6:n<6):cg [bI (cb r (x.getD c 0) (be (x.getD c 0) w) (aR c w) (bx (x.getD c 0) w)) (cb x (x.getD c 0) (bx (x.getD c 0) w) (aR c w) (be (x.getD c 0) w)),nI c,nI (x.getD c 0)]=some (.ok (bI r x)):=by
 have hqn:x.getD c 0<n:=G.g.X.lt (by rw[List.getD_eq_getElem?_getD,List.getElem?_eq_getElem (by have:=G.g.X.len;omega)];exact List.getElem_mem _)
 have Gp:=G.put hc hw h6
 refine(show cg _=_ from sR Gp.g (c:Int) (x.getD c 0:Int)).trans ?_
 have ip:=pD G hc hw
 have wi:kS (cb r (x.getD c 0) (be (x.getD c 0) w) (aR c w) (bx (x.getD c 0) w)) (cb x (x.getD c 0) (bx (x.getD c 0) w) (aR c w) (be (x.getD c 0) w)) (c:Int) (x.getD c 0:Int)=some w:=by
  unfold kS;have hl:(cb r (x.getD c 0) (be (x.getD c 0) w) (aR c w) (bx (x.getD c 0) w)).length=n+1:=by rw[eu,G.g.R.len]
  rw[hl,if_pos ⟨by rw[Bool.and_eq_true,decide_eq_true_eq,decide_eq_true_eq];omega,by rw[Bool.and_eq_true,decide_eq_true_eq,decide_eq_true_eq];omega⟩]
  show(List.range 4).find? (cJ _ _ c (x.getD c 0))=_;exact nK hw ip λv hv h=>pO hw hv ip h
 unfold uV;rw[wi];have hf:aR c w<=n:=by unfold aR;omega
 have hfr:be (x.getD c 0) w=x.getD c 0\/be (x.getD c 0) w=x.getD c 0+1:=by unfold be;omega
 have hfu:bx (x.getD c 0) w=x.getD c 0\/bx (x.getD c 0) w=x.getD c 0+1:=by unfold bx;omega
 have e1:=lF G.g.R G.g.hi (row:=x.getD c 0) (to:=be (x.getD c 0) w) (col:=aR c w) (v:=bx (x.getD c 0) w) hf hfr
 have e2:=lF G.g.X G.g.hi (row:=x.getD c 0) (to:=bx (x.getD c 0) w) (col:=aR c w) (v:=be (x.getD c 0) w) hf hfu
 show some (Except.ok (bI (fc _ (x.getD c 0) (aR c w)) (fc _ (x.getD c 0) (aR c w))))=_;rw[e1,e2]
theorem nZ(l:List Nat)(hl:l.length<=100)(ρ:ax)(h:ag 4 ρ=some (aN l))(h5:ρ.length=5):jt (dM (dY (gv "tuple" (ag 4)))) (dY (aj o5 (ae (bb 1 (fj (ag 4)) (gN 5) (cI) (gv "bool" (ag 5))) (ah)))) ρ=some false:=by
 have i1:gv "tuple" (ag 4) ρ=some (.bl true):=by unfold gv;rw[h];rfl
 have c1:bb 1 (fj (ag 4)) (gN 5) (cI) (gv "bool" (ag 5)) ρ=some (.lst ((l.map λ_=>false).map D.bl)):=by
  refine eC (ds:=l.map nI) (ng h) (by simp;omega) ((dA (h:=nI) (o:=λ_=>D.bl false) l λi _=>⟨_,rfl,?_⟩).trans (by rw[List.map_map];rfl))
  have:ag 5 ((ρ++List.replicate 1 Sl.no).set 5 (.v (nI i)))=some (nI i):=by
   unfold ag;rw[List.getElem?_set_self (by simp[h5])]
  unfold gv;rw[this];rfl
 refine jf (a:=false) (b:=false) (gc (b:=true) (gL i1)) (gL ((bK (au c1 rfl)).trans ((sA _).trans ?_)))
 congr 2
 simp
theorem rn {c w:Nat}(hc:c<n)(hw:w<4)(h6:n<6):dU [bI r x,nI c,nI w]=some (.bl true):=by
 have h1:=G.g.R.len;have h2:=G.g.X.len;have h3:=G.g.lo;have h4:=G.g.hi
 apply gW (kd:=.s) (n:=5) (t:=fV)
 unfold fV
 let R':=cb r (x.getD c 0) (be (x.getD c 0) w) (aR c w) (bx (x.getD c 0) w)
 let X':=cb x (x.getD c 0) (bx (x.getD c 0) w) (aR c w) (be (x.getD c 0) w)
 have hR:R'.length=n+1:=by rw[eu,h1]
 have hX:X'.length=n+1:=by rw[eu,h2]
 have ep:cm [bI r x,nI c,nI w]=some (.ok (bI R' X')):=by
  refine(show cm _=_ from sL G.g (c:Int) (w:Int)).trans ?_
  rw[if_pos ⟨by simp;omega,by simp;omega⟩,if_pos h6];rfl
 have el:eG [bI r x,nI c,nI w]=some (bI R' X'):=tG G.g.R G.g.X h3 (by omega) hc hw
 have s1:aU 3 (aj (nF 3 (u4 cm)) (ae (ag 0) (ae (ag 1) (ae (ag 2) (ah))))) (dN 5 [bI r x,nI c,nI w])=.nx [.v (bI r x),.v (nI c),.v (nI w),.v (bI R' X'),.no]:=(ck ((eg (ds:=[bI r x,nI c,nI w]) rfl rfl).trans (rB ep))).trans rfl
 have p2:jt (dM (dY (gv "tuple" (ag 3)))) (bw (ak iX (ag 3) (aj (nF 3 eG) (ae (ag 0) (ae (ag 1) (ae (ag 2) (ah))))))) [.v (bI r x),.v (nI c),.v (nI w),.v (bI R' X'),.no]=some false:=
  jf (a:=false) (b:=false) (gc (b:=true) (gL rfl)) (cs ((aB (x:=bI R' X') (y:=bI R' X') rfl ((eg (ds:=[bI r x,nI c,nI w]) rfl rfl).trans el)).trans (by rw[gJ (q9 _ _),gq];rfl)))
 have s3:cQ (cu (fj (ag 3))) (gN 4) (dL (jt (dM (dY (gv "tuple" (ag 4)))) (dY (aj o5 (ae (bb 1 (fj (ag 4)) (gN 5) (cI) (gv "bool" (ag 5))) (ah))))) (aM (aq (.bl false))) (skip)) [.v (bI r x),.v (nI c),.v (nI w),.v (bI R' X'),.no]=.nx [.v (bI r x),.v (nI c),.v (nI w),.v (bI R' X'),.v (aN X')]:=by
  rw[iz (ds:=[aN R',aN X']) (cB (ng rfl)),cU (ρ1:=[.v (bI r x),.v (nI c),.v (nI w),.v (bI R' X'),.v (aN R')]) rfl (eX (nZ G R' (by omega) _ rfl rfl)),cU (ρ1:=[.v (bI r x),.v (nI c),.v (nI w),.v (bI R' X'),.v (aN X')]) rfl (eX (nZ G X' (by omega) _ rfl rfl))]
  rfl
 refine⟨_,(aC s1).trans ((aC (eX p2)).trans ((aC s3).trans (bZ ((aB (y:=bI r x) ((eg (ds:=[bI R' X',nI c,nI (x.getD c 0)]) (au rfl (au rfl (au (nl (S:=.no) h1 h2 _ _ (t:=1) rfl (by omega) hc rfl rfl) rfl))) rfl).trans (rB (x5 G hc hw h6))) rfl).trans (sS (q9 _ _))))))⟩
end
theorem uQ(ns:List Int)(hn:ns.length<=63):um [fZ ns]=some (.bl true):=by
 refine gW (kd:=.s) (n:=5) (t:=p6) ?_
 unfold p6;obtain⟨kk,hk1,hk2⟩:=vF ns 6 (by omega) (dN 5 [fZ ns]) rfl
 refine uF (λρ=> ∃s1 s2 s3 s4,ρ=[.v (fZ ns),s1,s2,s3,s4]) (kg (ds:=(List.range kk).map nI) (cB (dc (au hk2 rfl) (by omega))) (kK _ (λd hd ρ hρ=>?_) _ ⟨_,_,_,_,rfl⟩)) λρ' _=>⟨ρ',rfl⟩
 obtain⟨k,hk,rfl⟩:=List.mem_map.mp hd
 rw[List.mem_range] at hk;obtain⟨s1,s2,s3,s4,rfl⟩:=hρ
 obtain⟨a0,b0,eb,B⟩:=vB ns k (by omega) hn
 obtain⟨d1,a3,b3,e3,B3,d10,d11⟩:=iu (m:=4) B (by omega) (by decide) (by decide)
 obtain⟨m,hm,hm1,hm2⟩: ∃m:Nat,aG (.int 2) (.int d1)=some (nI m)/\2<=m/\m<6:=⟨(2+d1).toNat,by rw[ci,yG (by omega)],by omega,by omega⟩
 obtain⟨r,x,a5,b5,e5,S,B5⟩:=nJ B3 (n:=m) hm1 (by omega) (by omega)
 have G:Gn m r x:=⟨⟨S.hr,S.hx,hm1,by omega⟩,λi hi e=>S.ne i hi e.symm⟩
 have q1:dQ 2 (aj (nF 2 fI) (ae (ag 0) (ae (ag 1) (ah)))) [.v (fZ ns),.v (nI k),s2,s3,s4]=.nx [.v (fZ ns),.v (nI k),.own (aP a0 b0),s3,s4]:=(iq ((eg (ds:=[fZ ns,nI k]) rfl rfl).trans eb)).trans rfl
 have q3:gg 3 (aK 2 1 dm (ei (iG aG (pu (aq (.int 2))) (aK 2 1 bO (cu (ae (aq (.int 4)) (ah))))) (cu (ah)))) [.v (fZ ns),.v (nI k),.own (aP a0 b0),s3,s4]=.nx [.v (fZ ns),.v (nI k),.own (aP a5 b5),.v (bI r x),s4]:=
  (iw (cv (i:=2) (n:=1) (b0:=aP a0 b0) (ds:=[nI m]) rfl (iS (n5 (ia rfl) (cv (i:=2) (n:=1) (b0:=aP a0 b0) (ds:=[.int 4]) rfl (cB rfl) rfl rfl e3) hm) rfl) rfl rfl e5)).trans rfl
 obtain⟨ρ1,l1,s4',rfl⟩:=kg (f:=cu (bn (ae (aj cf (ae (ak aO (ag 3) (aq (.int 0))) (ah))) (ah)))) (g:=gN 4) (b:=dL (dM (dY (aj r8 (ae (bb 1 (bn (ae (aq (.int 4)) (ah))) (gN 5) (cI) (aj (nF 3 dU) (ae (ag 3) (ae (ag 4) (ae (ag 5) (ah)))))) (ah))))) (aM (aq (.bl false))) (skip)) (ρ:=[.v (fZ ns),.v (nI k),.own (aP a5 b5),.v (bI r x),s4]) (ds:=(List.range m).map nI) (P:=λρ=> ∃s4,ρ=[.v (fZ ns),.v (nI k),.own (aP a5 b5),.v (bI r x),s4]) (cB (dc (n:=m) (au (S.hr.len▸fq r _ _ rfl) rfl) (by omega))) (kK _ (λd hd ρ hρ=>by
  obtain⟨c,hc,rfl⟩:=List.mem_map.mp hd
  rw[List.mem_range] at hc;obtain⟨s4,rfl⟩:=hρ
  refine⟨_,[.v (fZ ns),.v (nI k),.own (aP a5 b5),.v (bI r x),.v (nI c)],rfl,eX (gc (b:=true) (gL ?_)),⟨_,rfl⟩⟩
  refine(bK (ds:=[.lst (((List.range 4).map λ_=>true).map D.bl)]) (au ?_ rfl)).trans ((tD _).trans (by simp))
  refine eC (ds:=(List.range 4).map nI) (dc (n:=4) rfl (by omega)) (by simp) ((dA (h:=nI) (o:=λ_=>D.bl true) (List.range 4) λw hw=>⟨_,rfl,?_⟩).trans (by rw[List.map_map];rfl))
  rw[List.mem_range] at hw;exact(eg (ds:=[bI r x,nI c,nI w]) rfl rfl).trans (rn G hc hw hm2)) _ ⟨_,rfl⟩)
 exact⟨_,_,rfl,(aC q1).trans ((aC q3).trans l1),⟨_,_,_,_,rfl⟩⟩
theorem all_mk {l:W.OpenLaw}{w:World}{K:W.Frag}{h:Heap}{mg:Str->Option Value}{fa:Addr}{f0:Addr}{od0 an0:Option Addr}{sl0:Array (Option Value)}{oc0 kV0 dc0 pm0 cd0 ct0:Value}{f1:Addr}{od1 an1:Option Addr}{sl1:Array (Option Value)}{oc1 kV1 dc1 pm1 cd1 ct1:Value}{f2:Addr}{od2 an2:Option Addr}{sl2:Array (Option Value)}{oc2 kV2 dc2 pm2 cd2 ct2:Value}{f3:Addr}{od3 an3:Option Addr}{sl3:Array (Option Value)}{oc3 kV3 dc3 pm3 cd3 ct3:Value}{f4:Addr}{od4 an4:Option Addr}{sl4:Array (Option Value)}{oc4 kV4 dc4 pm4 cd4 ct4:Value}{f5:Addr}{od5 an5:Option Addr}{sl5:Array (Option Value)}{oc5 kV5 dc5 pm5 cd5 ct5:Value}{f6:Addr}{od6 an6:Option Addr}{sl6:Array (Option Value)}{oc6 kV6 dc6 pm6 cd6 ct6:Value}{f7:Addr}{od7 an7:Option Addr}{sl7:Array (Option Value)}{oc7 kV7 dc7 pm7 cd7 ct7:Value}{f8:Addr}{od8 an8:Option Addr}{sl8:Array (Option Value)}{oc8 kV8 dc8 pm8 cd8 ct8:Value}{f9:Addr}{od9 an9:Option Addr}{sl9:Array (Option Value)}{oc9 kV9 dc9 pm9 cd9 ct9:Value}{f10:Addr}{od10 an10:Option Addr}{sl10:Array (Option Value)}{oc10 kV10 dc10 pm10 cd10 ct10:Value}{f11:Addr}{od11 an11:Option Addr}{sl11:Array (Option Value)}{oc11 kV11 dc11 pm11 cd11 ct11:Value}{f12:Addr}{od12 an12:Option Addr}{sl12:Array (Option Value)}{oc12 kV12 dc12 pm12 cd12 ct12:Value}{f13:Addr}{od13 an13:Option Addr}{sl13:Array (Option Value)}{oc13 kV13 dc13 pm13 cd13 ct13:Value}{f14:Addr}{od14 an14:Option Addr}{sl14:Array (Option Value)}{oc14 kV14 dc14 pm14 cd14 ct14:Value}{f15:Addr}{od15 an15:Option Addr}{sl15:Array (Option Value)}{oc15 kV15 dc15 pm15 cd15 ct15:Value}{tk_MANY_WAYS:Tok}{tk_MOST_SIZE:Tok}{kx0 kx1 kx2:Addr}{xn0 xq0:Str}{xb0 xu0:List Value}{xs0:Addr}{xd0 xl0 xe0:Bool}{xv0:List Str}{xc0:Option Bool}{xn1 xq1:Str}{xb1 xu1:List Value}{xs1:Addr}{xd1 xl1 xe1:Bool}{xv1:List Str}{xc1:Option Bool}{xn2 xq2:Str}{xb2 xu2:List Value}{xs2:Addr}{xd2 xl2 xe2:Bool}{xv2:List Str}{xc2:Option Bool}(X:K.In h)(G:h.Ns mainGlobals mg)(hfa:mg "law"=some (.ref fa))
 (a0:W.nsIn K mainGlobals "is_way"=some (some (.ref f0))) (l0:K.lookup f0=some ⟨oc0,od0,.func (W.fnOf "is_way" "is_way" (aX dH) (aJ dH) (am dH) .none kV0 dc0 pm0 an0 cd0 ct0),sl0⟩) (c0:W.codeIn K cd0 "is_way"=true) (k0:W.keepIn K (.ref f0)=true)
 (a1:W.nsIn K mainGlobals "free_and_full"=some (some (.ref f1))) (l1:K.lookup f1=some ⟨oc1,od1,.func (W.fnOf "free_and_full" "free_and_full" (aX aY) (aJ aY) (am aY) .none kV1 dc1 pm1 an1 cd1 ct1),sl1⟩) (c1:W.codeIn K cd1 "free_and_full"=true) (k1:W.keepIn K (.ref f1)=true)
 (a2:W.nsIn K mainGlobals "row_parted"=some (some (.ref f2))) (l2:K.lookup f2=some ⟨oc2,od2,.func (W.fnOf "row_parted" "row_parted" (aX bT) (aJ bT) (am bT) .none kV2 dc2 pm2 an2 cd2 ct2),sl2⟩) (c2:W.codeIn K cd2 "row_parted"=true) (k2:W.keepIn K (.ref f2)=true)
 (a3:W.nsIn K mainGlobals "corner_put"=some (some (.ref f3))) (l3:K.lookup f3=some ⟨oc3,od3,.func (W.fnOf "corner_put" "corner_put" (aX bS) (aJ bS) (am bS) .none kV3 dc3 pm3 an3 cd3 ct3),sl3⟩) (c3:W.codeIn K cd3 "corner_put"=true) (k3:W.keepIn K (.ref f3)=true)
 (a4:W.nsIn K mainGlobals "is_put"=some (some (.ref f4))) (l4:K.lookup f4=some ⟨oc4,od4,.func (W.fnOf "is_put" "is_put" (aX dW) (aJ dW) (am dW) .none kV4 dc4 pm4 an4 cd4 ct4),sl4⟩) (c4:W.codeIn K cd4 "is_put"=true) (k4:W.keepIn K (.ref f4)=true)
 (a5:W.nsIn K mainGlobals "way_put"=some (some (.ref f5))) (l5:K.lookup f5=some ⟨oc5,od5,.func (W.fnOf "way_put" "way_put" (aX cS) (aJ cS) (am cS) .none kV5 dc5 pm5 an5 cd5 ct5),sl5⟩) (c5:W.codeIn K cd5 "way_put"=true) (k5:W.keepIn K (.ref f5)=true)
 (a6:W.nsIn K mainGlobals "rows_joined"=some (some (.ref f6))) (l6:K.lookup f6=some ⟨oc6,od6,.func (W.fnOf "rows_joined" "rows_joined" (aX bH) (aJ bH) (am bH) .none kV6 dc6 pm6 an6 cd6 ct6),sl6⟩) (c6:W.codeIn K cd6 "rows_joined"=true) (k6:W.keepIn K (.ref f6)=true)
 (a7:W.nsIn K mainGlobals "corner_taken"=some (some (.ref f7))) (l7:K.lookup f7=some ⟨oc7,od7,.func (W.fnOf "corner_taken" "corner_taken" (aX bo) (aJ bo) (am bo) .none kV7 dc7 pm7 an7 cd7 ct7),sl7⟩) (c7:W.codeIn K cd7 "corner_taken"=true) (k7:W.keepIn K (.ref f7)=true)
 (a8:W.nsIn K mainGlobals "_law_cell"=some (some (.ref f8))) (l8:K.lookup f8=some ⟨oc8,od8,.func (W.fnOf "_law_cell" "_law_cell" (aX cx) (aJ cx) (am cx) .none kV8 dc8 pm8 an8 cd8 ct8),sl8⟩) (c8:W.codeIn K cd8 "_law_cell"=true) (k8:W.keepIn K (.ref f8)=true)
 (a9:W.nsIn K mainGlobals "_law_bag"=some (some (.ref f9))) (l9:K.lookup f9=some ⟨oc9,od9,.func (W.fnOf "_law_bag" "_law_bag" (aX cM) (aJ cM) (am cM) .none kV9 dc9 pm9 an9 cd9 ct9),sl9⟩) (c9:W.codeIn K cd9 "_law_bag"=true) (k9:W.keepIn K (.ref f9)=true)
 (a10:W.nsIn K mainGlobals "_law_take"=some (some (.ref f10))) (l10:K.lookup f10=some ⟨oc10,od10,.func (W.fnOf "_law_take" "_law_take" (aX cy) (aJ cy) (am cy) .none kV10 dc10 pm10 an10 cd10 ct10),sl10⟩) (c10:W.codeIn K cd10 "_law_take"=true) (k10:W.keepIn K (.ref f10)=true)
 (a11:W.nsIn K mainGlobals "_law_order"=some (some (.ref f11))) (l11:K.lookup f11=some ⟨oc11,od11,.func (W.fnOf "_law_order" "_law_order" (aX cj) (aJ cj) (am cj) .none kV11 dc11 pm11 an11 cd11 ct11),sl11⟩) (c11:W.codeIn K cd11 "_law_order"=true) (k11:W.keepIn K (.ref f11)=true)
 (a12:W.nsIn K mainGlobals "_law_square"=some (some (.ref f12))) (l12:K.lookup f12=some ⟨oc12,od12,.func (W.fnOf "_law_square" "_law_square" (aX bP) (aJ bP) (am bP) .none kV12 dc12 pm12 an12 cd12 ct12),sl12⟩) (c12:W.codeIn K cd12 "_law_square"=true) (k12:W.keepIn K (.ref f12)=true)
 (a13:W.nsIn K mainGlobals "_law_put"=some (some (.ref f13))) (l13:K.lookup f13=some ⟨oc13,od13,.func (W.fnOf "_law_put" "_law_put" (aX cT) (aJ cT) (am cT) .none kV13 dc13 pm13 an13 cd13 ct13),sl13⟩) (c13:W.codeIn K cd13 "_law_put"=true) (k13:W.keepIn K (.ref f13)=true)
 (a14:W.nsIn K mainGlobals "_law_good"=some (some (.ref f14))) (l14:K.lookup f14=some ⟨oc14,od14,.func (W.fnOf "_law_good" "_law_good" (aX cz) (aJ cz) (am cz) .none kV14 dc14 pm14 an14 cd14 ct14),sl14⟩) (c14:W.codeIn K cd14 "_law_good"=true) (k14:W.keepIn K (.ref f14)=true)
 (a15:W.nsIn K mainGlobals "law"=some (some (.ref f15))) (l15:K.lookup f15=some ⟨oc15,od15,.func (W.fnOf "law" "law" (aX fM) (aJ fM) (am fM) .none kV15 dc15 pm15 an15 cd15 ct15),sl15⟩) (c15:W.codeIn K cd15 "law"=true) (k15:W.keepIn K (.ref f15)=true)
 (z_abs:W.nsIn K mainGlobals "abs"=some none)
 (z_all:W.nsIn K mainGlobals "all"=some none)
 (z_any:W.nsIn K mainGlobals "any"=some none)
 (z_bool:W.nsIn K mainGlobals "bool"=some none)
 (z_enumerate:W.nsIn K mainGlobals "enumerate"=some none)
 (z_int:W.nsIn K mainGlobals "int"=some none)
 (z_isinstance:W.nsIn K mainGlobals "isinstance"=some none)
 (z_len:W.nsIn K mainGlobals "len"=some none)
 (z_list:W.nsIn K mainGlobals "list"=some none)
 (z_max:W.nsIn K mainGlobals "max"=some none)
 (z_min:W.nsIn K mainGlobals "min"=some none)
 (z_range:W.nsIn K mainGlobals "range"=some none)
 (z_tuple:W.nsIn K mainGlobals "tuple"=some none)
 (g_MANY_WAYS:W.nsIn K mainGlobals "MANY_WAYS"=some (some (.int 4 tk_MANY_WAYS)))
 (g_MOST_SIZE:W.nsIn K mainGlobals "MOST_SIZE"=some (some (.int 6 tk_MOST_SIZE)))
 (ya0:W.nsIn K mainGlobals "RookError"=some (some (.ref kx0)))
 (yb0:W.findIn K (.ref kx0) "__getattribute__"=some (some (.builtin "BaseException.__getattribute__")))
 (yc0:W.findIn K (.ref kx0) "__getattr__"=some none)
 (yd0:W.findIn K (.ref kx0) "__class__"=some (some (.builtin "object.__class__")))
 (yg0:W.mroIn K kx0 (.type "object")=some true)
 (yh0:W.mroIn K kx0 (.type "BaseException")=some true)
 (yt0:W.typeIn K (.ref kx0)=some (.type "type"))
 (ym0:W.clsIn K kx0=some ⟨xn0,xb0,.ref kx0::sa,xs0,xq0,xd0,xv0,xu0,xl0,xc0,xe0⟩)
 (ya1:W.nsIn K mainGlobals "NoMove"=some (some (.ref kx1)))
 (yb1:W.findIn K (.ref kx1) "__getattribute__"=some (some (.builtin "BaseException.__getattribute__")))
 (yc1:W.findIn K (.ref kx1) "__getattr__"=some none)
 (yd1:W.findIn K (.ref kx1) "__class__"=some (some (.builtin "object.__class__")))
 (yg1:W.mroIn K kx1 (.type "object")=some true)
 (yh1:W.mroIn K kx1 (.type "BaseException")=some true)
 (yt1:W.typeIn K (.ref kx1)=some (.type "type"))
 (ym1:W.clsIn K kx1=some ⟨xn1,xb1,.ref kx1:: .ref kx0::sa,xs1,xq1,xd1,xv1,xu1,xl1,xc1,xe1⟩)
 (ya2:W.nsIn K mainGlobals "TooMany"=some (some (.ref kx2)))
 (yb2:W.findIn K (.ref kx2) "__getattribute__"=some (some (.builtin "BaseException.__getattribute__")))
 (yc2:W.findIn K (.ref kx2) "__getattr__"=some none)
 (yd2:W.findIn K (.ref kx2) "__class__"=some (some (.builtin "object.__class__")))
 (yg2:W.mroIn K kx2 (.type "object")=some true)
 (yh2:W.mroIn K kx2 (.type "BaseException")=some true)
 (yt2:W.typeIn K (.ref kx2)=some (.type "type"))
 (ym2:W.clsIn K kx2=some ⟨xn2,xb2,.ref kx2:: .ref kx0::sa,xs2,xq2,xd2,xv2,xu2,xl2,xc2,xe2⟩)
 (ye:W.specialIn K (.builtin "object.__class__") "__get__"=some (some (.builtin "getset_descriptor.__get__")))
 (yf:W.takesIn K (.builtin "object.__class__")=some true)
 (yo_NoMove:W.excIn K kx1 sa "ValueError.__new__"=true)
 (yo_TooMany:W.excIn K kx2 sa "ValueError.__new__"=true)
 (yn:[kx0,kx1,kx2].Nodup):
 ∃fd:FuncData,(∀(s:Shared) (v:Value),BindsTo s fd ⟨[v],[]⟩ [("_law_script",v)])/\ ∀base:Heap,K.In base->base.Ns mainGlobals mg->FnOk l.prog w K mg base lg 6 fa fd ["_law_script"] (nT K):=by
 have e:=hfa.symm.trans (W.mg_of X G a15)
 cases e
 have F0:=cr (st:=dH) l0 c0 k0
 have b0:=F0.binds (ps:=["way"]) λ_ _ _ _ _ _ us hl=>ar1 us hl (λ_=>rfl)
 have d0:Df K mg "is_way" dH ["way"]:=⟨_,_,F0,W.mg_of X G a0,b0⟩
 have F1:=cr (st:=aY) l1 c1 k1
 have b1:=F1.binds (ps:=["c","r","way"]) λ_ _ _ _ _ _ us hl=>ar3 us hl (λ_ _ _=>rfl)
 have d1:Df K mg "free_and_full" aY ["c","r","way"]:=⟨_,_,F1,W.mg_of X G a1,b1⟩
 have F2:=cr (st:=bT) l2 c2 k2
 have b2:=F2.binds (ps:=["mark","row","to"]) λ_ _ _ _ _ _ us hl=>ar3 us hl (λ_ _ _=>rfl)
 have d2:Df K mg "row_parted" bT ["mark","row","to"]:=⟨_,_,F2,W.mg_of X G a2,b2⟩
 have F3:=cr (st:=bS) l3 c3 k3
 have b3:=F3.binds (ps:=["square","c","way"]) λ_ _ _ _ _ _ us hl=>ar3 us hl (λ_ _ _=>rfl)
 have d3:Df K mg "corner_put" bS ["square","c","way"]:=⟨_,_,F3,W.mg_of X G a3,b3⟩
 have F4:=cr (st:=dW) l4 c4 k4
 have b4:=F4.binds (ps:=["square","c","r","way"]) λ_ _ _ _ _ _ us hl=>ar4 us hl (λ_ _ _ _=>rfl)
 have d4:Df K mg "is_put" dW ["square","c","r","way"]:=⟨_,_,F4,W.mg_of X G a4,b4⟩
 have F5:=cr (st:=cS) l5 c5 k5
 have b5:=F5.binds (ps:=["square","c","r"]) λ_ _ _ _ _ _ us hl=>ar3 us hl (λ_ _ _=>rfl)
 have d5:Df K mg "way_put" cS ["square","c","r"]:=⟨_,_,F5,W.mg_of X G a5,b5⟩
 have F6:=cr (st:=bH) l6 c6 k6
 have b6:=F6.binds (ps:=["marks","row","column"]) λ_ _ _ _ _ _ us hl=>ar3 us hl (λ_ _ _=>rfl)
 have d6:Df K mg "rows_joined" bH ["marks","row","column"]:=⟨_,_,F6,W.mg_of X G a6,b6⟩
 have F7:=cr (st:=bo) l7 c7 k7
 have b7:=F7.binds (ps:=["square","c","r"]) λ_ _ _ _ _ _ us hl=>ar3 us hl (λ_ _ _=>rfl)
 have d7:Df K mg "corner_taken" bo ["square","c","r"]:=⟨_,_,F7,W.mg_of X G a7,b7⟩
 have F8:=cr (st:=cx) l8 c8 k8
 have b8:=F8.binds (ps:=["_law_script","_law_k"]) λ_ _ _ _ _ _ us hl=>ar2 us hl (λ_ _=>rfl)
 have d8:Df K mg "_law_cell" cx ["_law_script","_law_k"]:=⟨_,_,F8,W.mg_of X G a8,b8⟩
 have F9:=cr (st:=cM) l9 c9 k9
 have b9:=F9.binds (ps:=["_law_script","_law_at"]) λ_ _ _ _ _ _ us hl=>ar2 us hl (λ_ _=>rfl)
 have d9:Df K mg "_law_bag" cM ["_law_script","_law_at"]:=⟨_,_,F9,W.mg_of X G a9,b9⟩
 have F10:=cr (st:=cy) l10 c10 k10
 have b10:=F10.binds (ps:=["_law_bag_here","_law_many"]) λ_ _ _ _ _ _ us hl=>ar2 us hl (λ_ _=>rfl)
 have d10:Df K mg "_law_take" cy ["_law_bag_here","_law_many"]:=⟨_,_,F10,W.mg_of X G a10,b10⟩
 have F11:=cr (st:=cj) l11 c11 k11
 have b11:=F11.binds (ps:=["_law_bag_here","_law_n"]) λ_ _ _ _ _ _ us hl=>ar2 us hl (λ_ _=>rfl)
 have d11:Df K mg "_law_order" cj ["_law_bag_here","_law_n"]:=⟨_,_,F11,W.mg_of X G a11,b11⟩
 have F12:=cr (st:=bP) l12 c12 k12
 have b12:=F12.binds (ps:=["_law_bag_here","_law_n"]) λ_ _ _ _ _ _ us hl=>ar2 us hl (λ_ _=>rfl)
 have d12:Df K mg "_law_square" bP ["_law_bag_here","_law_n"]:=⟨_,_,F12,W.mg_of X G a12,b12⟩
 have F13:=cr (st:=cT) l13 c13 k13
 have b13:=F13.binds (ps:=["_law_square_here","_law_c","_law_way"]) λ_ _ _ _ _ _ us hl=>ar3 us hl (λ_ _ _=>rfl)
 have d13:Df K mg "_law_put" cT ["_law_square_here","_law_c","_law_way"]:=⟨_,_,F13,W.mg_of X G a13,b13⟩
 have F14:=cr (st:=cz) l14 c14 k14
 have b14:=F14.binds (ps:=["_law_square_here","_law_c","_law_way"]) λ_ _ _ _ _ _ us hl=>ar3 us hl (λ_ _ _=>rfl)
 have d14:Df K mg "_law_good" cz ["_law_square_here","_law_c","_law_way"]:=⟨_,_,F14,W.mg_of X G a14,b14⟩
 have F15:=cr (st:=fM) l15 c15 k15
 have b15:=F15.binds (ps:=["_law_script"]) λ_ _ _ _ _ _ us hl=>ar1 us hl (λ_=>rfl)
 have d15:Df K mg "law" fM ["_law_script"]:=⟨_,_,F15,W.mg_of X G a15,b15⟩
 have B:Bt mg:=⟨W.mg_none_of X G z_abs,W.mg_none_of X G z_all,W.mg_none_of X G z_any,W.mg_none_of X G z_bool,W.mg_none_of X G z_enumerate,W.mg_none_of X G z_int,W.mg_none_of X G z_isinstance,W.mg_none_of X G z_len,W.mg_none_of X G z_list,W.mg_none_of X G z_max,W.mg_none_of X G z_min,W.mg_none_of X G z_range,W.mg_none_of X G z_tuple,⟨_,W.mg_of X G g_MANY_WAYS⟩,⟨_,W.mg_of X G g_MOST_SIZE⟩⟩
 have r0:ExRow K mg kx0 "RookError" kx0:=⟨W.mg_of X G ya0,ya0,⟨yb0,yc0,yd0,ye,yf,yg0,yh0⟩,yt0,_,ym0,(if_pos rfl).symm⟩
 have r1:ExRow K mg kx0 "NoMove" kx1:=⟨W.mg_of X G ya1,ya1,⟨yb1,yc1,yd1,ye,yf,yg1,yh1⟩,yt1,_,ym1,(if_neg (qR yn (List.Mem.head _))).symm⟩
 have r2:ExRow K mg kx0 "TooMany" kx2:=⟨W.mg_of X G ya2,ya2,⟨yb2,yc2,yd2,ye,yf,yg2,yh2⟩,yt2,_,ym2,(if_neg (qR yn (List.Mem.tail _ (List.Mem.head _)))).symm⟩
 have ET:Et K mg kx0 kx1 kx2:=⟨⟨(h8 r0 (h8 r1 (h8 r2 qf))),List.Mem.head _,yn⟩,yo_NoMove,yo_TooMany⟩
 refine⟨W.fnOf "law" "law" (aX fM) (aJ fM) (am fM) .none kV15 dc15 pm15 an15 cd15 ct15,λs v=>.of_eq rfl,λbase _ _=>?_⟩
 have i5:=rQ (P:=l.prog) (w:=w) (base:=base) B d0 ET
 have aL:=ij (P:=l.prog) (w:=w) (base:=base) B d1 ET
 have du:=kL (P:=l.prog) (w:=w) (base:=base) B d2 ET
 have eP:=ki (P:=l.prog) (w:=w) (base:=base) B d3 ET aL du i5
 have iZ:=pZ (P:=l.prog) (w:=w) (base:=base) B d4 ET aL
 have hZ:=pC (P:=l.prog) (w:=w) (base:=base) B d5 ET iZ
 have cY:=js (P:=l.prog) (w:=w) (base:=base) B d6 ET
 have dP:=iM (P:=l.prog) (w:=w) (base:=base) B d7 ET hZ aL cY
 have gb:=mR (P:=l.prog) (w:=w) (base:=base) B d8 ET
 have gZ:=pz (P:=l.prog) (w:=w) (base:=base) B d9 ET gb
 have bG:=nz (P:=l.prog) (w:=w) (base:=base) B d10 ET
 have em:=mj (P:=l.prog) (w:=w) (base:=base) B d11 ET bG
 have fb:=kD (P:=l.prog) (w:=w) (base:=base) B d12 ET bG em
 have gI:=pI (P:=l.prog) (w:=w) (base:=base) B d13 ET
 have fX:=nk (P:=l.prog) (w:=w) (base:=base) B d14 ET eP dP gI
 exact uS (vj (P:=l.prog) (w:=w) (base:=base) B F15 ET gZ fb bG fX) uQ
end L2
theorem PySem.W.Fast.tw13340033333610214465:True:=⟨⟩
theorem PySem.W.Fast.tw15829524844283828276:True:=⟨⟩
theorem PySem.W.Fast.tw5388704374687959484:True:=⟨⟩
theorem PySem.W.Fast.tw1899251184699635045:True:=⟨⟩
theorem PySem.W.Fast.tw5722895209412094758:True:=⟨⟩
theorem PySem.W.Fast.tw1300795628904452862:True:=⟨⟩
theorem PySem.W.Fast.tw10379113317495343898:True:=⟨⟩
theorem PySem.W.Fast.tw5564909800215970435:True:=⟨⟩
theorem PySem.W.Fast.tw3340053806987707492:True:=⟨⟩
theorem PySem.W.Fast.tw4966091036073056085:True:=⟨⟩
theorem PySem.W.Fast.tw10163678365840416527:True:=⟨⟩
theorem PySem.W.Fast.tw14231095125948524136:True:=⟨⟩
theorem PySem.W.Fast.tw6066619676628230596:True:=⟨⟩
theorem PySem.W.Fast.tw10248321638107725075:True:=⟨⟩
theorem PySem.W.Fast.tw12008642675264103018:True:=⟨⟩
theorem PySem.W.Fast.tw18288368587093654630:True:=⟨⟩
open PySem PySem.W PyProof.Rows
set_option maxRecDepth 100000 in
set_option maxHeartbeats 0 in
theorem PySem.Challenge.cw_rookborders_k10_corners_put_holds : PySem.Challenge.rw_rookborders_k10_corners_put.Holds := by
 w_on;o_law;k_head;(case hw=>w_witness2)
 k_fill
 refine L2.walkD (l:=PySem.Challenge.rw_rookborders_k10_corners_put) (k:=6) (x:="_law_script") rfl rfl ⟨rfl,by decide,by decide⟩ (λw h Y=>W.kIn_of Y) ?F
 case F=>
  intro w mg fa h KX G hmg
  refine' L2.all_mk KX G hmg ?a0 ?l0 ?c0 ?k0 ?a1 ?l1 ?c1 ?k1 ?a2 ?l2 ?c2 ?k2 ?a3 ?l3 ?c3 ?k3 ?a4 ?l4 ?c4 ?k4 ?a5 ?l5 ?c5 ?k5 ?a6 ?l6 ?c6 ?k6 ?a7 ?l7 ?c7 ?k7 ?a8 ?l8 ?c8 ?k8 ?a9 ?l9 ?c9 ?k9 ?a10 ?l10 ?c10 ?k10 ?a11 ?l11 ?c11 ?k11 ?a12 ?l12 ?c12 ?k12 ?a13 ?l13 ?c13 ?k13 ?a14 ?l14 ?c14 ?k14 ?a15 ?l15 ?c15 ?k15 ?z_abs ?z_all ?z_any ?z_bool ?z_enumerate ?z_int ?z_isinstance ?z_len ?z_list ?z_max ?z_min ?z_range ?z_tuple ?g_MANY_WAYS ?g_MOST_SIZE ?ya0 ?yb0 ?yc0 ?yd0 ?yg0 ?yh0 ?yt0 ?ym0 ?ya1 ?yb1 ?yc1 ?yd1 ?yg1 ?yh1 ?yt1 ?ym1 ?ya2 ?yb2 ?yc2 ?yd2 ?yg2 ?yh2 ?yt2 ?ym2 ?ye ?yf ?yo_NoMove ?yo_TooMany ?yn
  (case a0=>k_is)
  (case l0=>k_is)
  (case c0=>k_is)
  (case k0=>k_is)
  (case a1=>k_is)
  (case l1=>k_is)
  (case c1=>k_is)
  (case k1=>k_is)
  (case a2=>k_is)
  (case l2=>k_is)
  (case c2=>k_is)
  (case k2=>k_is)
  (case a3=>k_is)
  (case l3=>k_is)
  (case c3=>k_is)
  (case k3=>k_is)
  (case a4=>k_is)
  (case l4=>k_is)
  (case c4=>k_is)
  (case k4=>k_is)
  (case a5=>k_is)
  (case l5=>k_is)
  (case c5=>k_is)
  (case k5=>k_is)
  (case a6=>k_is)
  (case l6=>k_is)
  (case c6=>k_is)
  (case k6=>k_is)
  (case a7=>k_is)
  (case l7=>k_is)
  (case c7=>k_is)
  (case k7=>k_is)
  (case a8=>k_is)
  (case l8=>k_is)
  (case c8=>k_is)
  (case k8=>k_is)
  (case a9=>k_is)
  (case l9=>k_is)
  (case c9=>k_is)
  (case k9=>k_is)
  (case a10=>k_is)
  (case l10=>k_is)
  (case c10=>k_is)
  (case k10=>k_is)
  (case a11=>k_is)
  (case l11=>k_is)
  (case c11=>k_is)
  (case k11=>k_is)
  (case a12=>k_is)
  (case l12=>k_is)
  (case c12=>k_is)
  (case k12=>k_is)
  (case a13=>k_is)
  (case l13=>k_is)
  (case c13=>k_is)
  (case k13=>k_is)
  (case a14=>k_is)
  (case l14=>k_is)
  (case c14=>k_is)
  (case k14=>k_is)
  (case a15=>k_is)
  (case l15=>k_is)
  (case c15=>k_is)
  (case k15=>k_is)
  (case z_abs=>k_is)
  (case z_all=>k_is)
  (case z_any=>k_is)
  (case z_bool=>k_is)
  (case z_enumerate=>k_is)
  (case z_int=>k_is)
  (case z_isinstance=>k_is)
  (case z_len=>k_is)
  (case z_list=>k_is)
  (case z_max=>k_is)
  (case z_min=>k_is)
  (case z_range=>k_is)
  (case z_tuple=>k_is)
  (case g_MANY_WAYS=>k_is)
  (case g_MOST_SIZE=>k_is)
  (case ya0=>k_is)
  (case yb0=>k_is)
  (case yc0=>k_is)
  (case yd0=>k_is)
  (case yg0=>k_is)
  (case yh0=>k_is)
  (case yt0=>k_is)
  (case ym0=>k_is)
  (case ya1=>k_is)
  (case yb1=>k_is)
  (case yc1=>k_is)
  (case yd1=>k_is)
  (case yg1=>k_is)
  (case yh1=>k_is)
  (case yt1=>k_is)
  (case ym1=>k_is)
  (case ya2=>k_is)
  (case yb2=>k_is)
  (case yc2=>k_is)
  (case yd2=>k_is)
  (case yg2=>k_is)
  (case yh2=>k_is)
  (case yt2=>k_is)
  (case ym2=>k_is)
  (case ye=>k_is)
  (case yf=>k_is)
  (case yo_NoMove=>k_exc)
  (case yo_TooMany=>k_exc)
  (case yn=>decide)
