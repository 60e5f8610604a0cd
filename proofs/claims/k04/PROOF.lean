import PyProof.Rows.All
import Wide.All
import OpenK.AllK
import Wide.FinOn
import PyProof.EqAt
import PyProof.EqKinds
import PyProof.TupleCall
import PyProof.NeKinds
import PyProof.FactsAll.tuple_2
import PyProof.FactsAll.tuple_3
import PyProof.ListRange
import KE.KSortTup
import PyProof.EnumMake
import PyProof.AutoSeq1
import PyProof.Rows.SeqMore
import KE.KIsAll
import PyProof.ExcArgsOwn
import PyProof.ExcBaseAll.ValueError
import PyProof.ExcAttrAll.ValueError
import OpenK.KOwn
import PyProof.RulesAs
import PyProof.AutoRange
import PyProof.SeqRoads2
import PyProof.ZipIter
import PyProof.StrCalls2
import KE.KDictSum
import PyProof.SumAny
import KE.KRevIter
import PyProof.Rows.FStr
import PyProof.Rows.FStrParts
import KE.KRevSl
import Lean
import PySem.Challenge.RW_rookborders_k04_twists_and_ties
set_option bootstrap.genMatcherCode false
set_option Elab.async false
set_option linter.all false
set_option maxRecDepth 100000
set_option maxHeartbeats 1000000
namespace L2
open PySem
abbrev Pb:=SetTable.Probe
def D2(mask:Nat)(p:Pb):Pb:=
 if p.more>0 then {p with j:=p.j+1,more:=p.more-1} else
 {p with j:=(SetTable.leap mask p.i p.perturb).1,more:=SetTable.runEnd mask (SetTable.leap mask p.i p.perturb).1- (SetTable.leap mask p.i p.perturb).1,i:=(SetTable.leap mask p.i p.perturb).1,perturb:=(SetTable.leap mask p.i p.perturb).2}
def BC(mask i perturb:Nat)(d:Option Nat):Pb:={j:=i,more:=SetTable.runEnd mask i-i,i:=i,perturb:=perturb,dummy:=d}
def BM(mask:Nat):Nat->Pb->Pb
 |0,p=>p
 |n+1,p=>BM mask n (D2 mask p)
def DZ(mask:Nat)(h:Int)(d:Option Nat):Pb:=BC mask (SetTable.bits h % (mask+1)) (SetTable.bits h) d
def Jx(mask:Nat)(h:Int)(m:Nat):Nat:=(BM mask m (DZ mask h none)).j
def DM(xs:Array Nat):Prop:=xs.toList.Pairwise (·< ·)
structure TOk(t:SetTable)(hs:List Int):Prop where
 pw: ∃k,3<=k/\k<=12/\t.mask+1=2^k
 sz:t.place.size=hs.length
 sp:DM t.place
 sd:DM t.dummies
 lp: ∀j∈t.place.toList,j<=t.mask
 ld: ∀j∈t.dummies.toList,j<=t.mask
 dj: ∀j∈t.dummies.toList,j∉t.place.toList
 fl:t.fill<=t.mask
 rc: ∀x∈hs.zip t.place.toList,∃m,Jx t.mask x.1 m=x.2/\ ∀m',m'<m->Jx t.mask x.1 m'∈t.place.toList\/Jx t.mask x.1 m'∈t.dummies.toList
open PySem PySem.Spec PyProof.Rows
def th(ks:List Int):Int:=reduceHash (Builtin.Tuple.tupleHashOf (ks.map hashInt))
def D4(x:List Int×Addr):Int×Value:=(th x.1,.ref x.2)
abbrev Du:=List (List Int×Addr)
def D5(xs:Du):List Int:=xs.map λx=>th x.1
structure SetAt(w:World)(o:Obj)(es:Array (Int×Value))(ep:Nat)(t:SetTable)(xs:Du):Prop where
 ex:o.ExactSet
 hd:o.data=.set es ep t
 he:es.toList=xs.map D4
 T:TOk t (D5 xs)
 led:t.led= !w.params.followText "set-order"
 pl:t.plain=true
 nd:(xs.map (·.1)).Nodup
structure SetOk(w:World)(o:Obj)(es:Array (Int×Value))(ep:Nat)(t:SetTable)(xs:Du):Prop extends SetAt w o es ep t xs where
 f5:t.fill*5<t.mask*3
abbrev aV:=Sum Int Str
def mR:aV->Value->Bool
 | .inl k,v=>Value.isInt k v
 | .inr x,v=>Value.isStrOf x v
def Dw(w:World):aV->Int
 | .inl k=>hashInt k
 | .inr x=>hashStr w x
theorem bY: ∀ {k:aV} {v:Value},mR k v=true->(∃i t,k=Sum.inl i/\v=Value.int i t)\/(∃x t,k=Sum.inr x/\v=Value.str x t)
 | .inl i,v,h=>by
   obtain⟨t,e⟩:=Value.isInt_shape (k:=i) (v:=v) h
   exact .inl ⟨i,t,rfl,e⟩
 | .inr x,v,h=>by
   obtain⟨t,e⟩:=Value.isStrOf_shape (x:=x) (v:=v) h
   exact .inr ⟨x,t,rfl,e⟩
theorem uj(i:Int)(t:Tok):mR (.inl i) (.int i t)=true:=by simp[mR,Value.isInt]
theorem ur(x:Str)(t:Tok):mR (.inr x) (.str x t)=true:=by simp[mR,Value.isStrOf]
theorem Av(a b:Int):decide ((Sum.inl a:aV)=Sum.inl b)=(a==b):=by
 by_cases e:a=b
 ·subst e;simp
 ·have h: ¬(Sum.inl a:aV)=Sum.inl b:=λq=>e (Sum.inl.inj q)
  rw[decide_eq_false h];exact(beq_eq_false_iff_ne.mpr e).symm
theorem AG(a b:Str):decide ((Sum.inr a:aV)=Sum.inr b)=decide (a=b):=by
 by_cases e:a=b
 ·subst e;simp
 ·have h: ¬(Sum.inr a:aV)=Sum.inr b:=λq=>e (Sum.inr.inj q)
  rw[decide_eq_false h,decide_eq_false e]
theorem z8(a:Int)(b:Str):decide ((Sum.inl a:aV)=Sum.inr b)=false:=decide_eq_false (λq=>nomatch q)
theorem Ai(a:Str)(b:Int):decide ((Sum.inr a:aV)=Sum.inl b)=false:=decide_eq_false (λq=>nomatch q)
def cz(prog:Program)(w:World):PySem.KeyKind prog w aV where
 is:=mR
 hash:=Dw w
 inj:=λv a b ha hb=>by
  rcases bY ha with⟨i,t,rfl,rfl⟩|⟨x,t,rfl,rfl⟩
  ·rcases bY hb with⟨j,u,rfl,e⟩|⟨y,u,rfl,e⟩
   ·injection e with e1 _;rw[e1]
   ·exact nomatch e
  ·rcases bY hb with⟨j,u,rfl,e⟩|⟨y,u,rfl,e⟩
   ·exact nomatch e
   ·injection e with e1 _;rw[e1]
 byValue:=λk v h=>by
  rcases bY h with⟨i,t,rfl,rfl⟩|⟨x,t,rfl,rfl⟩<;>rfl
 pyHash:=λhv h=>by
  rcases bY hv with⟨i,t,rfl,rfl⟩|⟨x,t,rfl,rfl⟩
  ·exact wpAny_pyHash_int h
  ·exact wpAny_pyHash_str h
 eqBool:=λhu hv h=>by
  rcases bY hu with⟨i,t,rfl,rfl⟩|⟨x,t,rfl,rfl⟩
  ·rcases bY hv with⟨j,u,rfl,rfl⟩|⟨y,u,rfl,rfl⟩
   ·rw[Av] at h;exact wpAny_eqBool_int h
   ·rw[z8] at h;exact SeqAt.EqAt.int_str i t y u _ _ _ _ h
  ·rcases bY hv with⟨j,u,rfl,rfl⟩|⟨y,u,rfl,rfl⟩
   ·rw[Ai] at h;exact SeqAt.EqAt.str_int x t j u _ _ _ _ h
   ·rw[AG] at h;exact wpAny_eqBool_str h
 «strs»:=λk x t v h=>by
  rcases bY h with⟨i,u,rfl,e⟩|⟨y,u,rfl,e⟩
  ·exact nomatch e
  ·injection e with e1 _
   subst e1;cases v<;>rfl
theorem oS(prog:Program)(w:World)(i:Int)(t:Tok):(cz prog w).is (.inl i) (.int i t)=true:=uj i t
theorem p5(prog:Program)(w:World)(x:Str)(t:Tok):(cz prog w).is (.inr x) (.str x t)=true:=ur x t
inductive V where
 |non|bl (b:Bool)|int (i:Int)|str (x:Str)|byt (b:Array UInt8)|flt (b:UInt64)|ref (a:Addr)|ty (n:String)
 deriving DecidableEq
def RelV:V->Value->Prop
 | .non,u=>u=Value.none
 | .bl b,u=>u=Value.bool b
 | .int i,u=> ∃t,u=Value.int i t
 | .str x,u=> ∃t,u=Value.str x t
 | .byt b,u=> ∃t,u=Value.bytes b t
 | .flt b,u=> ∃t,u=Value.float b t
 | .ref a,u=>u=Value.ref a
 | .ty n,u=>u=Value.type n
abbrev Vals:List V->List Value->Prop:=Paired RelV
theorem Vals.length {xs:List V}{us:List Value}(r:Vals xs us):xs.length=us.length:=Paired.length r
theorem Vals.get: ∀ {xs:List V} {us:List Value} {i:Nat} {x:V},Vals xs us->xs[i]? =some x-> ∃u,us[i]? =some u/\RelV x u
 |_,_,_,_,.nil,e=>by simp at e
 |_,_,0,_,.cons r _,e=>by simp at e;subst e;exact⟨_,rfl,r⟩
 |_,_,i+1,x,.cons _ t,e=>by
  obtain⟨u,h1,h2⟩:=Vals.get (i:=i) (x:=x) t (by simpa using e)
  exact⟨u,by simpa using h1,h2⟩
theorem Vals.set {x:V}{u:Value}(r:RelV x u): ∀ {xs:List V} {us:List Value} (i:Nat),Vals xs us->Vals (xs.set i x) (us.set i u)
 |_,_,_,.nil=>.nil
 |_,_,0,.cons _ t=>.cons r t
 |_,_,i+1,.cons q t=>.cons q (Vals.set r i t)
theorem Vals.append: ∀ {xs ys:List V} {us ws:List Value},Vals xs us->Vals ys ws->Vals (xs++ys) (us++ws)
 |_,_,_,_,.nil,s=>s
 |_,_,_,_,.cons r t,s=>.cons r (Vals.append t s)
def RelO:Option V->Option Value->Prop
 |some v,some u=>RelV v u
 |none,none=>True
 |_,_=>False
def KV {κ:Type}:List (κ×V)->List (κ×Value)->Prop:=Paired λ(p:κ×V) (q:κ×Value)=>p.1=q.1/\RelV p.2 q.2
def kV:aV->V
 | .inl i=>.int i
 | .inr x=>.str x
inductive HO where
 |lst (xs:List V)
 |tup (xs:List V)
 |dK (kvs:List (aV×V))|dT (kvs:List (List aV×V))
 |set (S:Int->Bool) (n:Nat)
 |tst (xs:List (List Int×Addr))
 |ins (C dx:Addr) (fs:List (Str×V))
 |own (x:Addr)
 |xd (fs:List (Str×V))
 |met (f x:Addr)
 |rng (lo hi:Int)
 |frz (o:Obj) (u:HO)
 |nst (p:Addr) (u:HO)
 |tbl (ps:Array Value)
 |ext (φ:Heap->Prop)
abbrev Hp:=Addr->Option HO
def bd(H:Hp)(a:Addr)(o:HO):Hp:=λb=>if b=a then some o else H b
theorem aE {H:Hp}{a:Addr}{o:HO}:bd H a o a=some o:=by unfold bd;rw[if_pos rfl]
theorem aC {H:Hp}{a b:Addr}{o:HO}(h:b≠a):bd H a o b=H b:=by unfold bd;rw[if_neg h]
theorem ol {H:Hp}{a:Addr}{o u:HO}:bd (bd H a o) a u=bd H a u:=by
 funext b;unfold bd;split<;>rfl
theorem Bz {H:Hp}{a b:Addr}{o u:HO}(h:H a=some o)(h':H b=some u)(d:o≠u):a≠b:=by
 intro e;subst e;rw[h] at h';exact d (Option.some.inj h')
theorem aT {H:Hp}{a b:Addr}{o:HO}(h:H a=some o)(h':H b=none):a≠b:=by
 intro e;subst e;rw[h] at h';cases h'
section
variable(P:Program)(w:World)
def ObjOk(H:Hp)(h:Heap)(a:Addr):HO->Prop
 | .lst xs=>xs.length<=sizeLine/\ ∃(its:List Value) (n:Nat),Vals xs its/\h.get? a=some {cls:=.type "list",data:=.seq its.toArray n}
 | .tup xs=>xs.length<=sizeLine/\ ∃its:List Value,Vals xs its/\IsTup h a its.toArray/\ ∃o,h.get? a=some o/\o.dict=none
 | .dK kvs=>kvs.length<=sizeLine/\(a==sysModules)=false/\ ∃vs,KV kvs vs/\h.DictOf (cz P w) a vs
 | .dT kvs=>kvs.length<=sizeLine/\(a==sysModules)=false/\ ∃xs:List (List aV×Addr×Value),
    Paired (λ(p:List aV×V) (q:List aV×Addr×Value)=>p.1=q.1/\H q.2.1=some (.tup (p.1.map kV))/\RelV p.2 q.2.2) kvs xs/\
    ∃o es ep,h.get? a=some o/\o.ExactDict/\o.data=.dict es ep/\es.toList=xs.map (entryOfKey (tupleKind (cz P w)))/\(xs.map (·.1)).Nodup
 | .set S n=>h.SetOf (intKind P w) a S n
 | .tst xs=> ∃o es ep t,h.get? a=some o/\SetOk w o es ep t xs
 | .ins C dx fs=>H dx=some (.own a)/\fs.length<=1000/\dx≠a/\h.get? a=some (W.instObj C dx)/\
    ∃mA,h.Ns1 dx mA/\(∀f,RelO (fs.lookup f) (mA f))/\PySem.Within mA (fs.map (·.1))
 | .own _=> ∃o,h.get? a=some o
 | .xd fs=> ∃mA,h.Ns1 a mA/\ ∀f,RelO (fs.lookup f) (mA f)
 | .rng lo hi=> ∃t u v,h.get? a=some {cls:=.type "range",data:=.fields #[.int lo t,.int hi u,.int 1 v]}
 | .frz o u=>h.get? a=some o/\ObjOk H h a u
 | .nst _ u=>ObjOk H h a u
 | .tbl ps=>h.get? a=some {cls:=.none,data:=.fields ps}
 | .met f x=>h.get? a=some (W.methodObj (.ref f) (.ref x))
 | .ext φ=>φ h/\(∃o,h.get? a=some o)/\ ∀h1 h2:Heap,φ h1->(∀o,h1.get? a=some o->h2.get? a=some o)->φ h2
def HOk(H:Hp)(h:Heap):Prop:= ∀a o,H a=some o->ObjOk P w H h a o
end
section
variable {P:Program}{w:World}{H H':Hp}{h h':Heap}{a:Addr}{o:HO}
theorem ObjOk.lt(x:ObjOk P w H h a o):a<h.objs.size:=by
 induction o with
 |lst xs=>obtain⟨_,_,_,_,e⟩:=x;exact Heap.lt_size e
 |tup xs=>obtain⟨_,_,_,p,_⟩:=x;exact p.lt
 |dK kvs=>obtain⟨_,_,_,_,o,_,_,e,_⟩:=x;exact Heap.lt_size e
 |dT kvs=>obtain⟨_,_,_,_,o,_,_,e,_⟩:=x;exact Heap.lt_size e
 |set S n=>obtain⟨o,_,_,_,e,_⟩:=x;exact Heap.lt_size e
 |tst xs=>obtain⟨o,_,_,_,e,_⟩:=x;exact Heap.lt_size e
 |ins C dx fs=>obtain⟨_,_,_,e,_⟩:=x;exact Heap.lt_size e
 |own y=>obtain⟨_,e⟩:=x;exact Heap.lt_size e
 |xd fs=>obtain⟨_,⟨_,_,_,e,_⟩,_⟩:=x;exact Heap.lt_size e
 |rng lo hi=>obtain⟨_,_,_,e⟩:=x;exact Heap.lt_size e
 |frz ob u ih=>obtain⟨e,_⟩:=x;exact Heap.lt_size e
 |nst p u ih=>exact ih x
 |tbl ps=>exact Heap.lt_size (show h.get? a=some _ from x)
 |met f y=>exact Heap.lt_size (show h.get? a=some _ from x)
 |ext φ=>obtain⟨_,⟨_,e⟩,_⟩:=x;exact Heap.lt_size e
theorem Paired.mapP {α β:Type}{F G:α->β->Prop}: ∀ {l₁:List α} {l₂:List β},Paired F l₁ l₂->(∀a b,F a b->G a b)->Paired G l₁ l₂
 |_,_,.nil,_=>.nil
 |_,_,.cons r t,f=>.cons (f _ _ r) (Paired.mapP t f)
theorem ObjOk.stay(x:ObjOk P w H h a o)(k: ∀b u,(b=a\/H b=some (.own a))->h.get? b=some u->h'.get? b=some u)
 (ho: ∀b,H b=some (.own a)->H' b=some (.own a)) (ht: ∀b xs,H b=some (.tup xs)->H' b=some (.tup xs)):ObjOk P w H' h' a o:=by
 induction o with
 |lst xs=>obtain⟨z,its,n,r,e⟩:=x;exact⟨z,its,n,r,k _ _ (.inl rfl) e⟩
 |tup xs=>obtain⟨z,its,r,⟨ob,e,c⟩,ob2,e2,c2⟩:=x;exact⟨z,its,r,⟨ob,k _ _ (.inl rfl) e,c⟩,ob2,k _ _ (.inl rfl) e2,c2⟩
 |dK kvs=>obtain⟨z,y,vs,r,ob,es,ep,e,c⟩:=x;exact⟨z,y,vs,r,ob,es,ep,k _ _ (.inl rfl) e,c⟩
 |dT kvs=>
  obtain⟨z,y,xs,r,ob,es,ep,e,c⟩:=x
  exact⟨z,y,xs,Paired.mapP r λp q z=>⟨z.1,ht _ _ z.2.1,z.2.2⟩,ob,es,ep,k _ _ (.inl rfl) e,c⟩
 |set S n=>obtain⟨ob,es,ep,t,e,c⟩:=x;exact⟨ob,es,ep,t,k _ _ (.inl rfl) e,c⟩
 |tst xs=>obtain⟨ob,es,ep,t,e,c⟩:=x;exact⟨ob,es,ep,t,k _ _ (.inl rfl) e,c⟩
 |ins C dx fs=>
  obtain⟨d,z,ne,e,mA,⟨od,es,ep,e2,c⟩,r⟩:=x
  exact⟨ho _ d,z,ne,k _ _ (.inl rfl) e,mA,⟨od,es,ep,k _ _ (.inr d) e2,c⟩,r⟩
 |own y=>obtain⟨ob,e⟩:=x;exact⟨ob,k _ _ (.inl rfl) e⟩
 |xd fs=>obtain⟨mA,⟨od,es,ep,e,c⟩,r⟩:=x;exact⟨mA,⟨od,es,ep,k _ _ (.inl rfl) e,c⟩,r⟩
 |rng lo hi=>obtain⟨t,u,v,e⟩:=x;exact⟨t,u,v,k _ _ (.inl rfl) e⟩
 |frz ob u ih=>obtain⟨e,q⟩:=x;exact⟨k _ _ (.inl rfl) e,ih q⟩
 |nst p u ih=>exact ih x
 |tbl ps=>
  have e:h.get? a=some {cls:=.none,data:=.fields ps}:=x
  show h'.get? a=some {cls:=.none,data:=.fields ps};exact k a _ (.inl rfl) e
 |met f y=>
  have e:h.get? a=some (W.methodObj (.ref f) (.ref y)):=x
  show h'.get? a=some (W.methodObj (.ref f) (.ref y));exact k a _ (.inl rfl) e
 |ext φ=>obtain⟨p,⟨o,e⟩,st⟩:=x;exact⟨st _ _ p λo q=>k _ _ (.inl rfl) q,⟨o,k _ _ (.inl rfl) e⟩,st⟩
theorem HOk.lt(x:HOk P w H h)(e:H a=some o):a<h.objs.size:=(x a o e).lt
theorem HOk.fresh(x:HOk P w H h)(e:h.objs.size<=a):H a=none:=by
 cases q:H a with
 |none=>rfl
 |some u=>exact absurd (Nat.lt_of_lt_of_le (x.lt q) e) (Nat.lt_irrefl _)
theorem HOk.kept(x:HOk P w H h)(k: ∀b u,h.get? b=some u->h'.get? b=some u):HOk P w H h':=λa o e=>
 (x a o e).stay (λb u _ q=>k b u q) (λ_ q=>q) λ_ _ q=>q
theorem HOk.laid(x:HOk P w H h)(k: ∀b u,h.get? b=some u->h'.get? b=some u)(hp:h.objs.size<=a)(new:ObjOk P w (bd H a o) h' a o):HOk P w (bd H a o) h':=λb u e=>by
 have hn:=x.fresh hp
 by_cases hb:b=a
 ·subst hb;rw[aE] at e;cases e;exact new
 ·rw[aC hb] at e
  exact(x b u e).stay (λc v _ q=>k c v q) (λc q=>by rw[aC (aT q hn)];exact q) λc xs q=>by rw[aC (aT q hn)];exact q
end
def Rd(H:Hp)(a:Addr)(u:HO):Prop:=H a=some u\/ ∃o,H a=some (.frz o u)
theorem Rd.ok {P:Program}{w:World}{H:Hp}{h:Heap}{a:Addr}{u:HO}(r:Rd H a u)(x:HOk P w H h):ObjOk P w H h a u:=by
 rcases r with r|⟨o,r⟩
 ·exact x a u r
 ·obtain⟨_,q⟩:=x a _ r
  exact q
def AQ:Option HO->Prop
 |some (.lst _)=>True
 |some (.dK _)=>True
 |some (.dT _)=>True
 |some (.set _ _)=>True
 |some (.tst _)=>True
 |some (.ins _ _ _)=>True
 |some (.ext _)=>True
 |some (.nst _ _)=>True
 |_=>False
section
variable {P:Program}{w:World}{H:Hp}{h h':Heap}{x e:Addr}{o':HO}
theorem HOk.write(ok:HOk P w H h)(mu:AQ (H x))(he:e=x\/H e=some (.own x))(k: ∀b u,b≠e->h.get? b=some u->h'.get? b=some u)(heo: ∃u,h'.get? e=some u)
 (new:ObjOk P w (bd H x o') h' x o'):HOk P w (bd H x o') h':=λb u q=>by
 have nown: ∀c y,H c=some (.own y)->c≠x:=λc y r z=>by subst z;rw[r] at mu;exact mu
 have ntup: ∀c xs,H c=some (.tup xs)->c≠x:=λc xs r z=>by subst z;rw[r] at mu;exact mu
 by_cases hb:b=x
 ·subst hb;rw[aE] at q;cases q;exact new
 ·rw[aC hb] at q
  by_cases hbe:b=e
  ·have q':H b=some (.own x):=by
    rcases he with z|z
    ·exact absurd (hbe.trans z) hb
    ·rw[hbe];exact z
   rw[q] at q';cases q';obtain⟨v,hv⟩:=heo
   exact⟨v,by rw[hbe];exact hv⟩
  ·refine(ok b u q).stay (λc v hc r=>k c v ?_ r) (λc r=>by rw[aC (nown c b r)];exact r) λc xs r=>by rw[aC (ntup c xs r)];exact r
   rcases hc with rfl|hc
   ·exact hbe
   ·rintro rfl
    rcases he with z|z
    ·exact nown c b hc z
    ·rw[hc] at z;cases z;exact hb rfl
end
structure Un(fs ex:List Addr)(H H':Hp)(h h':Heap):Prop where
 keep: ∀b o,h.get? b=some o->H b=none->b∉fs->b∉ex->h'.get? b=some o
 slot: ∀b o,h.get? b=some o->H b=none->b∈fs->b∉ex-> ∃sl,h'.get? b=some {o with slots:=sl}
 free: ∀b o,h.get? b=some o->H b=none->b∉ex->H' b=none
 there: ∀b o,h.get? b=some o->b∉ex-> ∃o',h'.get? b=some o'
 tups: ∀b xs,H b=some (.tup xs)->H' b=some (.tup xs)
 frzs: ∀b o u,H b=some (.frz o u)->H' b=some (.frz o u)
 tbls: ∀b ps,H b=some (.tbl ps)-> ∃more,H' b=some (.tbl (ps++more))
section
variable {fs fs' ex ex':List Addr}{H H1 H2:Hp}{h h1 h2 h':Heap}{a x e:Addr}{o:HO}
theorem Un.any(u:Un fs ex H H1 h h1){b:Addr}{ob:Obj}(q:h.get? b=some ob)(n:H b=none)(hx:b∉ex): ∃sl,h1.get? b=some {ob with slots:=sl}:=by
 by_cases hb:b∈fs
 ·exact u.slot b ob q n hb hx
 ·exact⟨ob.slots,u.keep b ob q n hb hx⟩
theorem Un.trans(a:Un fs ex H H1 h h1)(b:Un fs ex H1 H2 h1 h2):Un fs ex H H2 h h2 where
 keep:=λc ob q n hc hx=>b.keep c ob (a.keep c ob q n hc hx) (a.free c ob q n hx) hc hx
 slot:=λc ob q n hc hx=>by
  obtain⟨sl,e1⟩:=a.slot c ob q n hc hx
  obtain⟨sl',e2⟩:=b.slot c _ e1 (a.free c ob q n hx) hc hx
  exact⟨sl',e2⟩
 free:=λc ob q n hx=>by
  obtain⟨o',e1⟩:=a.there c ob q hx
  exact b.free c o' e1 (a.free c ob q n hx) hx
 there:=λc ob q hx=>by
  obtain⟨o',e1⟩:=a.there c ob q hx
  exact b.there c o' e1 hx
 tups:=λc xs q=>b.tups c xs (a.tups c xs q)
 frzs:=λc ob xs q=>b.frzs c ob xs (a.frzs c ob xs q)
 tbls:=λc ps q=>by
  obtain⟨m1,e1⟩:=a.tbls c ps q
  obtain⟨m2,e2⟩:=b.tbls c _ e1
  exact⟨m1++m2,by rw[e2,Array.append_assoc]⟩
theorem Un.kept(k: ∀b u,h.get? b=some u->h'.get? b=some u):Un fs ex H H h h':=
 ⟨λb ob q _ _ _=>k b ob q,λb ob q _ _ _=>⟨ob.slots,k b ob q⟩,λ_ _ _ n _=>n,λb ob q _=>⟨ob,k b ob q⟩,λ_ _ q=>q,λ_ _ _ q=>q,λ_ ps q=>⟨#[],by rw[q];simp⟩⟩
theorem Un.refl:Un fs ex H H h h:=Un.kept λ_ _ q=>q
theorem Un.laid(k: ∀b u,h.get? b=some u->h'.get? b=some u)(hp:h.objs.size<=a)(hn:H a=none):Un fs ex H (bd H a o) h h' where
 keep:=λb u q _ _ _=>k b u q
 slot:=λb u q _ _ _=>⟨u.slots,k b u q⟩
 free:=λb u q n _=>by rw[aC (Nat.ne_of_lt (Nat.lt_of_lt_of_le (Heap.lt_size q) hp))];exact n
 there:=λb u q _=>⟨u,k b u q⟩
 tups:=λb xs q=>by rw[aC (aT q hn)];exact q
 frzs:=λb u xs q=>by rw[aC (aT q hn)];exact q
 tbls:=λb ps q=>⟨#[],by rw[aC (aT q hn),q];simp⟩
theorem Un.write(mu:AQ (H x))(he:e=x\/H e=some (.own x))(k: ∀b u,b≠e->h.get? b=some u->h'.get? b=some u)(heo: ∃u,h'.get? e=some u):Un fs ex H (bd H x o) h h':=by
 have hx: ∀b,H b=none->b≠x:=λb n z=>by subst z;rw[n] at mu;exact mu
 have hb: ∀b,H b=none->b≠e:=λb n z=>by
  subst z;rcases he with r|r
  ·exact hx b n r
  ·rw[n] at r;cases r
 have hm: ∀b u,H b=some u-> ¬AQ (some u)->b≠x:=λb u q nm z=>by subst z;rw[q] at mu;exact nm mu
 refine⟨λb u q n _ _=>k b u (hb b n) q,λb u q n _ _=>⟨u.slots,k b u (hb b n) q⟩,λb u q n _=>by rw[aC (hx b n)];exact n,λb u q _=>?_,
  λb xs q=>by rw[aC (hm b _ q λz=>z)];exact q,λb u xs q=>by rw[aC (hm b _ q λz=>z)];exact q,λb ps q=>⟨#[],by rw[aC (hm b _ q λz=>z),q];simp⟩⟩
 by_cases hbe:b=e
 ·subst hbe;exact heo
 ·exact⟨u,k b u hbe q⟩
end
def trk(h:Heap)(H:Hp):List Addr:=(List.range h.objs.size).filter λa=>(H a).isSome
def oM(h:Heap)(H:Hp):Heap:=W.hideAll h (trk h H)
theorem tV(h:Heap)(H:Hp):(oM h H).objs.size=h.objs.size:=W.hideAll_size _ _
theorem xl {h:Heap}{H:Hp}{b:Addr}{o:Obj}(e:h.get? b=some o)(n:H b=none):(oM h H).get? b=some o:=
 W.hideAll_get _ e λhm=>by
  have q:(H b).isSome=true:=(List.mem_filter.mp hm).2
  rw[n] at q;simp at q
theorem yY {h:Heap}{H:Hp}{b:Addr}{o:Obj}(e:(oM h H).get? b=some o):h.get? b=some o/\H b=none:=by
 have e':h.get? b=some o:=W.of_hideAll (trk h H) e
 refine⟨e',?_⟩
 cases q:H b with
 |none=>rfl
 |some x=>
  have hm:b∈trk h H:=List.mem_filter.mpr ⟨List.mem_range.mpr (Heap.lt_size e'),by simp[q]⟩
  have z:(oM h H).get? b=none:=W.hideAll_none (trk h H) hm
  rw[z] at e;cases e
structure Mod(K:W.Frag)(mg:Str->Option Value)(base:Heap):Prop where
 kin:K.In base
 glob:base.Ns mainGlobals mg
 blt: ∃mb,base.Ns builtinsNs mb/\ ∀x:Str,x≠"__name__"->mb x=bootBuiltins x
 nolimit:base.NoLimit
structure Cx where
 prog:Program
 w:World
 K:W.Frag
 mg:Str->Option Value
 base:Heap
 A:Around
 N:List Str
 s₀:Shared
 H₀:Hp
 env:Env
 outer:List Env
 stack:List Env
 ex:List Addr
 fn:Str->Bool
 calm:Bool
 pn:List (Addr×Obj)
 xe:Value->Shared->Prop
def mC(l:List Env):List Addr:=l.filterMap (·.frame)
abbrev Cx.fs(X:Cx):List Addr:=mC X.outer
def nT(sc:Scope)(x:Str):Prop:=sc.names.lookup x=some .local\/sc.names.lookup x=some .cell\/sc.names.lookup x=some .free
def sY(sc:Scope)(x:Str):Prop:=sc.names.lookup x=some .local\/sc.names.lookup x=some .cell
def CN(env:Env)(h:Heap)(m:Str->Option Value)(x:Str)(u:Value):Prop:=
 (env.kindOf x=some .local/\m x=some u)\/((env.kindOf x=some .cell\/env.kindOf x=some .free)/\ ∃c,env.cells.lookup x=some c/\h.IsCell c (some u))
structure Cx.Ok(X:Cx):Prop where
 mod:Mod X.K X.mg X.base
 kind:X.env.scope.kind=.function
 glob:X.env.globals=mainGlobals
 blt:X.env.builtins=builtinsNs
 above:X.s₀.heap.objs.size<=X.env.locals
 inj: ∀x y c,X.env.cells.lookup x=some c->X.env.cells.lookup y=some c->x=y
 has: ∀x,(X.env.kindOf x=some .cell\/X.env.kindOf x=some .free)-> ∃c,X.env.cells.lookup x=some c
 cab: ∀x c,X.fn x=true->X.env.cells.lookup x=some c->X.s₀.heap.objs.size<=c
 hd:X.calm=true->X.A.handled=none
 frames:X.A.frames=some X.stack
 stk:X.stack=X.outer\/(X.stack=X.env::X.outer/\X.env.frame=some X.env.locals)
 exf: ∀b∈X.ex,b≠X.env.locals/\ ∀x c,X.env.cells.lookup x=some c->c≠b
 bs: ∀b o,X.base.get? b=some o->X.s₀.heap.get? b=some o/\X.H₀ b=none
 bsz:X.base.objs.size<=X.s₀.heap.objs.size
 noex: ∀b o,X.base.get? b=some o->b∉X.ex
 exfs: ∀b∈X.ex,b∉X.fs
 funs:X.s₀.heap.FunFrames X.base X.outer
 frf: ∀b∈X.fs,X.H₀ b=none
structure Inv(X:Cx)(ae:List (Addr×Obj))(σ:List (Option V))(H:Hp)(s:Shared):Prop where
 ok:X.Ok
 os:s.os=X.s₀.os
 bare:AllBare s.gens
 base:Un X.fs X.ex X.H₀ H X.s₀.heap s.heap
 loc: ∃m,s.heap.Ns X.env.locals m/\ ∀(i:Nat) (x:Str) (v:V),X.N[i]? =some x->σ[i]? =some (some v)->nT X.env.scope x-> ∃u,RelV v u/\CN X.env s.heap m x u
 cell: ∀x c,X.env.cells.lookup x=some c-> ∃v,s.heap.IsCell c v
 free:H X.env.locals=none
 freeC: ∀x c,X.env.cells.lookup x=some c->H c=none
 pin: ∀p∈X.pn++ae,s.heap.get? p.1=some p.2/\H p.1=none/\p.1≠X.env.locals/\p.1∉X.fs/\ ∀v,p.2.data≠ .cell v
 hok:HOk X.prog X.w H s.heap
 len:σ.length=X.N.length
section
variable {X:Cx}{ae:List (Addr×Obj)}{σ:List (Option V)}{H H':Hp}{s:Shared}{h':Heap}
theorem Cx.Ok.nofr(ok:X.Ok){b:Addr}{o:Obj}(e:X.base.get? b=some o):b∉X.fs:=λhb=>by
 have:=(ok.funs.mem hb).1
 rw[e] at this;cases this
theorem Inv.bs(I:Inv X ae σ H s): ∀b o,X.base.get? b=some o->s.heap.get? b=some o/\H b=none:=λb o e=>
 ⟨I.base.keep b o (I.ok.bs b o e).1 (I.ok.bs b o e).2 (I.ok.nofr e) (I.ok.noex b o e),I.base.free b o (I.ok.bs b o e).1 (I.ok.bs b o e).2 (I.ok.noex b o e)⟩
theorem Inv.bk(I:Inv X ae σ H s): ∀b o,X.base.get? b=some o->s.heap.get? b=some o:=λb o e=>(I.bs b o e).1
theorem Inv.mod(I:Inv X ae σ H s):Mod X.K X.mg X.base:=I.ok.mod
theorem Inv.kIn(I:Inv X ae σ H s):X.K.In s.heap:=I.ok.mod.kin.keeps I.bk
theorem Inv.lt(I:Inv X ae σ H s):X.env.locals<s.heap.objs.size:=let⟨_,hn,_⟩:=I.loc;hn.lt
theorem Inv.sz(I:Inv X ae σ H s):X.s₀.heap.objs.size<=s.heap.objs.size:=Nat.le_trans I.ok.above (Nat.le_of_lt I.lt)
theorem Inv.nofs(I:Inv X ae σ H s){a:Addr}(h:s.heap.objs.size<=a):a∉X.fs:=λhb=>by
 obtain⟨_,o,ho,_⟩:=I.ok.funs.mem hb
 exact absurd (Nat.lt_of_lt_of_le (Heap.lt_size ho) (Nat.le_trans I.sz h)) (Nat.lt_irrefl _)
theorem Inv.cne(I:Inv X ae σ H s): ∀x c,X.env.cells.lookup x=some c->c≠X.env.locals:=λx c e z=>by
 obtain⟨v,o,ho,hd⟩:=I.cell x c e
 obtain⟨m,⟨o',es,ep,ho',hd',_⟩,_⟩:=I.loc
 rw[z,ho'] at ho;cases ho;rw[hd'] at hd;cases hd
theorem Inv.funs(I:Inv X ae σ H s):s.heap.FunFrames X.base X.outer:=by
 have all: ∀(l:List Env),(∀b∈mC l,b∈X.fs)->X.s₀.heap.FunFrames X.base l->s.heap.FunFrames X.base l:=by
  intro l
  induction l with
  |nil=>intro _ _;trivial
  |cons env r ih=>
   intro hs hl;obtain⟨hk,⟨L,o,hf,hn,ho,hd⟩,hr⟩:=hl
   have hL:L∈X.fs:=hs L (by unfold mC;rw[List.filterMap_cons,hf];exact List.mem_cons_self)
   obtain⟨sl,e⟩:=I.base.slot L o ho (I.ok.frf L hL) hL λz=>I.ok.exfs L z hL
   exact⟨hk,⟨L,_,hf,hn,e,hd⟩,ih (λb hb=>hs b (by unfold mC;rw[List.filterMap_cons,hf];exact List.mem_cons_of_mem _ hb)) hr⟩
 exact all X.outer (λ_ hb=>hb) I.ok.funs
theorem Inv.stack(I:Inv X ae σ H s):s.heap.FunFrames X.base X.stack:=by
 rcases I.ok.stk with e|⟨e,hf⟩
 ·rw[e];exact I.funs
 ·rw[e]
  obtain⟨m,hn,_⟩:=I.loc
  refine .cons (by rw[I.ok.kind];decide) hf hn ?_ I.funs
  exact Heap.get?_none_of_le (Nat.le_trans I.ok.bsz I.ok.above)
theorem Inv.stkSub(I:Inv X ae σ H s): ∀b∈mC X.stack,b∈X.env.locals::X.fs:=λb hb=>by
 rcases I.ok.stk with e|⟨e,hf⟩
 ·rw[e] at hb;exact List.mem_cons_of_mem _ hb
 ·rw[e] at hb
  unfold mC at hb;rw[List.filterMap_cons,hf] at hb;exact hb
theorem Inv.stkFree(I:Inv X ae σ H s): ∀b∈mC X.stack,H b=none:=λb hb=>by
 rcases List.mem_cons.mp (I.stkSub b hb) with e|hb
 ·rw[e];exact I.free
 ·obtain⟨_,o,ho,_⟩:=I.ok.funs.mem hb
  exact I.base.free b o ho (I.ok.frf b hb) λz=>I.ok.exfs b z hb
theorem Inv.step {g':Array GenState}{t':Nat}{d':Drawn}{ch:List Addr}(I:Inv X ae σ H s)
 (hch: ∀b∈ch,(b∈X.ex\/X.s₀.heap.objs.size<=b)/\b≠X.env.locals/\(∀x c,X.env.cells.lookup x=some c->c≠b)/\ ∀p∈X.pn++ae,p.1≠b)
 (keep: ∀b o,b≠X.env.locals->b∉X.fs->b∉ch->s.heap.get? b=some o->H b=none->h'.get? b=some o)
 (slot: ∀b o,b≠X.env.locals->b∈X.fs->b∉ch->s.heap.get? b=some o->H b=none-> ∃sl,h'.get? b=some {o with slots:=sl}) (free: ∀b o,b∉ch->s.heap.get? b=some o->H b=none->H' b=none)
 (there: ∀b o,b∉ch->s.heap.get? b=some o-> ∃o',h'.get? b=some o')
 (tups: ∀b xs,H b=some (.tup xs)->H' b=some (.tup xs)) (frzs: ∀b o u,H b=some (.frz o u)->H' b=some (.frz o u)) (tbls: ∀b ps,H b=some (.tbl ps)-> ∃more,H' b=some (.tbl (ps++more)))
 (ns: ∀m,s.heap.Ns X.env.locals m->h'.Ns X.env.locals m) (hok:HOk X.prog X.w H' h') (hg:AllBare g'):
 Inv X ae σ H' {s with heap:=h',gens:=g',drawn:=d',toks:=t'}:=by
 have neL: ∀b o,X.s₀.heap.get? b=some o->b≠X.env.locals:=λb o e=>Nat.ne_of_lt (Nat.lt_of_lt_of_le (Heap.lt_size e) I.ok.above)
 have neC: ∀b o,X.s₀.heap.get? b=some o->b∉X.ex->b∉ch:=λb o e hx hb=>by
  rcases(hch b hb).1 with z|z
  ·exact hx z
  ·exact absurd (Nat.lt_of_lt_of_le (Heap.lt_size e) z) (Nat.lt_irrefl _)
 have cellK: ∀x c,X.env.cells.lookup x=some c-> ∀v,s.heap.IsCell c v->h'.IsCell c v:=λx c e v hq_=>by
  obtain⟨o,ho,hd⟩:=hq_
  have nch:c∉ch:=λz=>(hch c z).2.2.1 x c e rfl
  by_cases hc:c∈X.fs
  ·obtain⟨sl,q⟩:=slot c o (I.cne x c e) hc nch ho (I.freeC x c e)
   exact⟨_,q,hd⟩
  ·exact⟨o,keep c o (I.cne x c e) hc nch ho (I.freeC x c e),hd⟩
 refine⟨I.ok,I.os,hg,⟨λb o e n hb hx=>?_,λb o e n hb hx=>?_,λb o e n hx=>?_,λb o e hx=>?_,λb xs e=>tups b xs (I.base.tups b xs e),λb o xs e=>frzs b o xs (I.base.frzs b o xs e),λb ps e=>?_⟩,?_,λx c e=>?_,?_,λx c e=>?_,λp hp=>?_,hok,I.len⟩
 ·exact keep b o (neL b o e) hb (neC b o e hx) (I.base.keep b o e n hb hx) (I.base.free b o e n hx)
 ·obtain⟨sl,e1⟩:=I.base.slot b o e n hb hx
  obtain⟨sl',e2⟩:=slot b _ (neL b o e) hb (neC b o e hx) e1 (I.base.free b o e n hx)
  exact⟨sl',e2⟩
 ·obtain⟨o',e1⟩:=I.base.there b o e hx
  exact free b o' (neC b o e hx) e1 (I.base.free b o e n hx)
 ·obtain⟨o',e1⟩:=I.base.there b o e hx
  exact there b o' (neC b o e hx) e1
 ·obtain⟨m1,e1⟩:=I.base.tbls b ps e
  obtain⟨m2,e2⟩:=tbls b _ e1
  exact⟨m1++m2,by rw[e2,Array.append_assoc]⟩
 ·obtain⟨m,hn,hl⟩:=I.loc
  refine⟨m,ns m hn,λi x v e1 e2 e3=>?_⟩
  obtain⟨u,r,l⟩:=hl i x v e1 e2 e3
  refine⟨u,r,?_⟩
  rcases l with l|⟨k,c,e,z⟩
  ·exact .inl l
  ·exact .inr ⟨k,c,e,cellK x c e _ z⟩
 ·obtain⟨v,z⟩:=I.cell x c e
  exact⟨v,cellK x c e v z⟩
 ·obtain⟨m,⟨o,_,_,ho,_⟩,_⟩:=I.loc
  exact free _ o (λz=>(hch _ z).2.1 rfl) ho I.free
 ·obtain⟨v,o,ho,hd⟩:=I.cell x c e
  exact free c o (λz=>(hch c z).2.2.1 x c e rfl) ho (I.freeC x c e)
 ·obtain⟨e,n,ne,nf,d⟩:=I.pin p hp
  have nch:p.1∉ch:=λz=>(hch p.1 z).2.2.2 p hp rfl
  exact⟨keep p.1 p.2 ne nf nch e n,free p.1 p.2 nch e n,ne,nf,d⟩
theorem Inv.un {t':Nat}(I:Inv X ae σ H s)(u:Un X.fs [] H H' s.heap h')(hok:HOk X.prog X.w H' h'):Inv X ae σ H' {s with heap:=h',toks:=t'}:=by
 obtain⟨m,⟨o,es,ep,ho,r⟩,_⟩:=id I.loc
 obtain⟨sl,hL⟩:=u.any ho I.free (by simp)
 exact I.step (g':=s.gens) (d':=s.drawn) (ch:=[]) (λ_ z=>nomatch z) (λb o _ hb _ e n=>u.keep b o e n hb (by simp)) (λb o _ hb _ e n=>u.slot b o e n hb (by simp)) (λb o _ e n=>u.free b o e n (by simp)) (λb o _ e=>u.there b o e (by simp)) u.tups u.frzs u.tbls (λm' hm=>by
  obtain⟨o',es',ep',ho',r'⟩:=hm
  rw[ho] at ho';cases ho';exact⟨_,es',ep',hL,r'⟩) hok I.bare
theorem Inv.call {g':Array GenState}{t':Nat}{d':Drawn}{ch:List Addr}(I:Inv X ae σ H s)(u:Un (mC X.stack) ch H H' s.heap h')(hok:HOk X.prog X.w H' h')(hg:AllBare g')
 (hch: ∀b∈ch,(b∈X.ex\/X.s₀.heap.objs.size<=b)/\b≠X.env.locals/\(∀x c,X.env.cells.lookup x=some c->c≠b)/\ ∀p∈X.pn++ae,p.1≠b):
 Inv X ae σ H' {s with heap:=h',gens:=g',drawn:=d',toks:=t'}:=by
 obtain⟨m,⟨o,es,ep,ho,r⟩,_⟩:=id I.loc
 obtain⟨sl,hL⟩:=u.any ho I.free λz=>(hch _ z).2.1 rfl
 exact I.step (ch:=ch) hch (λb o hL hb hc e n=>u.keep b o e n (λz=>(List.mem_cons.mp (I.stkSub b z)).elim hL hb) hc) (λb o _ _ hc e n=>u.any e n hc) (λb o hc e n=>u.free b o e n hc) (λb o hc e=>u.there b o e hc) u.tups u.frzs u.tbls (λm' hm=>by
  obtain⟨o',es',ep',ho',r'⟩:=hm
  rw[ho] at ho';cases ho';exact⟨_,es',ep',hL,r'⟩) hok hg
theorem Inv.turned {t':Nat}{it:Addr}(I:Inv X ae σ H s)(k: ∀b o,b≠it->s.heap.get? b=some o->h'.get? b=some o)(hn:H it=none)(hL:it≠X.env.locals)
 (h1:it∈X.ex\/X.s₀.heap.objs.size<=it) (h2: ∀x c,X.env.cells.lookup x=some c->c≠it) (h3: ∀p∈X.pn++ae,p.1≠it):Inv X ae σ H {s with heap:=h',toks:=t'}:=by
 have nit: ∀b u,H b=some u->b≠it:=λb u e z=>by rw[z,hn] at e;cases e
 refine I.step (g':=s.gens) (d':=s.drawn) (ch:=[it]) (λb hb=>?_) (λb o _ _ hc e _=>k b o (λz=>hc (by simp[z])) e) (λb o _ _ hc e _=>⟨o.slots,k b o (λz=>hc (by simp[z])) e⟩) (λ_ _ _ _ n=>n)
  (λb o hc e=>⟨o,k b o (λz=>hc (by simp[z])) e⟩) (λ_ _ e=>e) (λ_ _ _ e=>e) (λb ps e=>⟨#[],by rw[e];simp⟩) (λm hm=>?_) (λb u e=>?_) I.bare
 ·have e:b=it:=by simpa using hb
  subst e;exact⟨h1,hL,h2,h3⟩
 ·obtain⟨o,es,ep,ho,r⟩:=hm
  exact⟨o,es,ep,k _ o (Ne.symm hL) ho,r⟩
 ·refine(I.hok b u e).stay (λc v hc q=>k c v ?_ q) (λ_ q=>q) λ_ _ q=>q
  rcases hc with z|z
  ·rw[z];exact nit b u e
  ·exact nit c _ z
theorem Inv.tok(I:Inv X ae σ H s)(t:Nat):Inv X ae σ H {s with toks:=t}:=I.un (h':=s.heap) (t':=t) Un.refl I.hok
theorem Inv.kept {t':Nat}(I:Inv X ae σ H s)(k: ∀b u,s.heap.get? b=some u->h'.get? b=some u):Inv X ae σ H {s with heap:=h',toks:=t'}:=I.un (Un.kept k) (I.hok.kept k)
theorem Inv.laid {a:Addr}{o:HO}{t':Nat}(I:Inv X ae σ H s)(k: ∀b u,s.heap.get? b=some u->h'.get? b=some u)(hp:s.heap.objs.size<=a)(new:ObjOk X.prog X.w (bd H a o) h' a o):
 Inv X ae σ (bd H a o) {s with heap:=h',toks:=t'}:=I.un (Un.laid k hp (I.hok.fresh hp)) (I.hok.laid k hp new)
theorem Inv.write {x e:Addr}{o:HO}{t':Nat}(I:Inv X ae σ H s)(mu:AQ (H x))(he:e=x\/H e=some (.own x))(k: ∀b u,b≠e->s.heap.get? b=some u->h'.get? b=some u)(heo: ∃u,h'.get? e=some u)
 (new:ObjOk X.prog X.w (bd H x o) h' x o):Inv X ae σ (bd H x o) {s with heap:=h',toks:=t'}:=I.un (Un.write mu he k heo) (I.hok.write mu he k heo new)
theorem Inv.pins_of {pins':List (Addr×Obj)}(I:Inv X ae σ H s)(h: ∀p∈pins',s.heap.get? p.1=some p.2/\H p.1=none/\p.1≠X.env.locals/\p.1∉X.fs/\ ∀v,p.2.data≠ .cell v):Inv X pins' σ H s:=
 ⟨I.ok,I.os,I.bare,I.base,I.loc,I.cell,I.free,I.freeC,λp hp=>(List.mem_append.mp hp).elim (λz=>I.pin p (List.mem_append_left _ z)) (h p),I.hok,I.len⟩
theorem po {N:List Str}(hN:N.Nodup){i j:Nat}{x:Str}(a:N[i]? =some x)(b:N[j]? =some x):i=j:=by
 obtain⟨h1,e1⟩:=List.getElem?_eq_some_iff.mp a
 obtain⟨h2,e2⟩:=List.getElem?_eq_some_iff.mp b
 exact(List.getElem_inj hN).mp (e1.trans e2.symm)
theorem jL {M:Model}{A:Around}{E:Value->Shared->Prop}{i:Nat}{x:Str}{v:V}{u:Value}{Q:Unit->Shared->Prop}(I:Inv X ae σ H s)(hN:X.N.Nodup)(hi:X.N[i]? =some x)(hx:sY X.env.scope x)(r:RelV v u)
 (h: ∀s',Inv X ae (σ.set i (some v)) H s'->(∃a,Heap.SameBut a s.heap s'.heap/\(a=X.env.locals\/X.env.cells.lookup x=some a))->Q () s') (hf:X.fn x=true\/X.env.scope.names.lookup x=some .local:=by first|exact .inl rfl|exact .inr rfl|assumption):wpAny M A (storeName X.env x u) Q E s:=by
 obtain⟨m,hn,hl⟩:=id I.loc
 have hcls:(X.env.scope.kind== .class||(X.env.scope.kind== .module&&X.env.locals !=X.env.globals))=false:=by rw[I.ok.kind];rfl
 have hiσ:i<σ.length:=by rw[I.len];exact(List.getElem?_eq_some_iff.mp hi).1
 have cne:=I.cne
 have tracked: ∀ {a:Addr} {h':Heap},(∃o,s.heap.get? a=some o/\H a=none)->Heap.SameBut a s.heap h'->HOk X.prog X.w H h':=λ{a h'} ha hs b ob e=>by
  obtain⟨_,_,hfree⟩:=ha
  refine(I.hok b ob e).stay (λc w' hc q=>(hs.2 c ?_).trans q) (λ_ q=>q) λ_ _ q=>q
  rintro rfl
  rcases hc with rfl|hc
  ·rw[hfree] at e;cases e
  ·rw[hfree] at hc;cases hc
 rcases hx with hk|hk
 ·refine wpAny_storeName_local hk hn (λh' hn' hs=>?_) hcls
  obtain⟨oL,_,_,hoL,_⟩:=id hn
  refine h _ ⟨I.ok,I.os,I.bare,⟨λb o e n hb hx=>?_,λb o e n hb hx=>?_,I.base.free,λb o e hx=>?_,I.base.tups,I.base.frzs,I.base.tbls⟩,⟨_,hn',λj y v' e1 e2 e3=>?_⟩,λy c e=>?_,I.free,I.freeC,λp hp=>?_,tracked ⟨oL,hoL,I.free⟩ hs,by simpa using I.len⟩ ⟨_,hs,.inl rfl⟩
  ·exact(hs.2 b (Nat.ne_of_lt (Nat.lt_of_lt_of_le (Heap.lt_size e) I.ok.above))).trans (I.base.keep b o e n hb hx)
  ·obtain⟨sl,e1⟩:=I.base.slot b o e n hb hx
   exact⟨sl,(hs.2 b (Nat.ne_of_lt (Nat.lt_of_lt_of_le (Heap.lt_size e) I.ok.above))).trans e1⟩
  ·obtain⟨o',e1⟩:=I.base.there b o e hx
   exact⟨o',(hs.2 b (Nat.ne_of_lt (Nat.lt_of_lt_of_le (Heap.lt_size e) I.ok.above))).trans e1⟩
  ·by_cases hj:j=i
   ·subst hj
    rw[hi] at e1;cases e1;rw[List.getElem?_set_self hiσ] at e2;cases e2
    exact⟨u,r,.inl ⟨hk,by simp⟩⟩
   ·rw[List.getElem?_set_ne (Ne.symm hj)] at e2
    obtain⟨u',r',q⟩:=hl j y v' e1 e2 e3
    refine⟨u',r',?_⟩
    rcases q with⟨k,e⟩|⟨k,c,e,z⟩
    ·refine .inl ⟨k,?_⟩
     have:y≠x:=λe=>hj (po hN e1 (e▸hi))
     simp[this,e]
    ·exact .inr ⟨k,c,e,z.sameBut hs (cne y c e)⟩
  ·obtain⟨w',z⟩:=I.cell y c e
   exact⟨w',z.sameBut hs (cne y c e)⟩
  ·obtain⟨e,n,ne,nf,d⟩:=I.pin p hp
   exact⟨(hs.2 p.1 ne).trans e,n,ne,nf,d⟩
 ·have hfn:X.fn x=true:=by
   rcases hf with z|z
   ·exact z
   ·rw[z] at hk;cases hk
  obtain⟨c,hc⟩:=I.ok.has x (.inl hk)
  obtain⟨w',z⟩:=I.cell x c hc
  refine wpAny_storeName_cell I.ok.kind hk hc z (λh' hc' hs=>?_)
  obtain⟨oc,hoc,hocd⟩:=id z
  refine h {s with heap:=h'} ⟨I.ok,I.os,I.bare,⟨λb o e n hb hx=>?_,λb o e n hb hx=>?_,I.base.free,λb o e hx=>?_,I.base.tups,I.base.frzs,I.base.tbls⟩,⟨m,hn.sameBut hs (Ne.symm (cne x c hc)),λj y v' e1 e2 e3=>?_⟩,λy c' e=>?_,I.free,I.freeC,λp hp=>?_,tracked ⟨oc,hoc,I.freeC x c hc⟩ hs,by simpa using I.len⟩ ⟨c,hs,.inr hc⟩
  ·exact(hs.2 b (Nat.ne_of_lt (Nat.lt_of_lt_of_le (Heap.lt_size e) (I.ok.cab x c hfn hc)))).trans (I.base.keep b o e n hb hx)
  ·obtain⟨sl,e1⟩:=I.base.slot b o e n hb hx
   exact⟨sl,(hs.2 b (Nat.ne_of_lt (Nat.lt_of_lt_of_le (Heap.lt_size e) (I.ok.cab x c hfn hc)))).trans e1⟩
  ·obtain⟨o',e1⟩:=I.base.there b o e hx
   exact⟨o',(hs.2 b (Nat.ne_of_lt (Nat.lt_of_lt_of_le (Heap.lt_size e) (I.ok.cab x c hfn hc)))).trans e1⟩
  ·by_cases hj:j=i
   ·subst hj
    rw[hi] at e1;cases e1;rw[List.getElem?_set_self hiσ] at e2;cases e2
    exact⟨u,r,.inr ⟨.inl hk,c,hc,hc'⟩⟩
   ·rw[List.getElem?_set_ne (Ne.symm hj)] at e2
    obtain⟨u',r',q⟩:=hl j y v' e1 e2 e3
    refine⟨u',r',?_⟩
    rcases q with q|⟨k,c',e,z'⟩
    ·exact .inl q
    ·refine .inr ⟨k,c',e,z'.sameBut hs ?_⟩
     rintro rfl
     exact hj (po hN e1 (I.ok.inj _ _ _ e hc▸hi))
  ·by_cases hcc:c'=c
   ·subst hcc;exact⟨_,hc'⟩
   ·obtain⟨w2,z2⟩:=I.cell y c' e
    exact⟨w2,z2.sameBut hs hcc⟩
  ·obtain⟨e,n,ne,nf,d⟩:=I.pin p hp
   refine⟨(hs.2 p.1 ?_).trans e,n,ne,nf,d⟩
   intro q;rw[q,hoc] at e;have q':oc=p.2:=Option.some.inj e
   exact d w' (by rw[<-q'];exact hocd)
theorem pz {M:Model}{A:Around}{E:Value->Shared->Prop}{i:Nat}{x:Str}{v:V}{u:Value}{Q:Unit->Shared->Prop}(I:Inv X ae σ H s)(hN:X.N.Nodup)(hi:X.N[i]? =some x)(hx:sY X.env.scope x)(r:RelV v u)
 (h: ∀s',Inv X ae (σ.set i (some v)) H s'->Q () s') (hf:X.fn x=true\/X.env.scope.names.lookup x=some .local:=by first|exact .inl rfl|exact .inr rfl|assumption):wpAny M A (storeName X.env x u) Q E s:=
 jL I hN hi hx r (λs' I' _=>h s' I') hf
theorem Inv.call' {s':Shared}{ch:List Addr}(I:Inv X ae σ H s)(ho:s'.os=s.os)(u:Un (mC X.stack) ch H H' s.heap s'.heap)(hok:HOk X.prog X.w H' s'.heap)(hg:AllBare s'.gens)
 (hch: ∀b∈ch,(b∈X.ex\/X.s₀.heap.objs.size<=b)/\b≠X.env.locals/\(∀x c,X.env.cells.lookup x=some c->c≠b)/\ ∀p∈X.pn++ae,p.1≠b):Inv X ae σ H' s':=by
 obtain⟨h',g',d',t',o'⟩:=s'
 have e:o'=s.os:=ho
 subst e;exact I.call (g':=g') (t':=t') (d':=d') u hok hg hch
end
abbrev XK:=Value->Option Addr->Hp->Prop
abbrev St:=List (Option V)
abbrev VK:=V->Hp->Prop
abbrev TE:=St->Hp->VK->Prop
abbrev TT:=St->Hp->(Bool->Hp->Prop)->Prop
abbrev TA:=St->Hp->(List V->Hp->Prop)->Prop
structure Ends where
 nx:St->Hp->Prop
 rt:VK
 bk:St->Hp->Prop:=λ_ _=>False
 ct:St->Hp->Prop:=λ_ _=>False
abbrev TS:=Ends->St->Hp->Prop
def EP(X:Cx)(ae:List (Addr×Obj))(σ:St)(Q:VK)(u:Value)(s':Shared):Prop:= ∃v H',Inv X ae σ H' s'/\RelV v u/\Q v H'
def TP(X:Cx)(ae:List (Addr×Obj))(σ:St)(Q:Bool->Hp->Prop)(b:Bool)(s':Shared):Prop:= ∃H',Inv X ae σ H' s'/\Q b H'
def AP(X:Cx)(ae:List (Addr×Obj))(σ:St)(Q:List V->Hp->Prop)(us:List Value)(s':Shared):Prop:= ∃vs H',Inv X ae σ H' s'/\Vals vs us/\Q vs H'
def SP(X:Cx)(ae:List (Addr×Obj))(D:Ends)(f:Flow)(s':Shared):Prop:=
 match f with
 | .next=> ∃σ' H',Inv X ae σ' H' s'/\D.nx σ' H'
 | .brk=> ∃σ' H',Inv X ae σ' H' s'/\D.bk σ' H'
 | .cont=> ∃σ' H',Inv X ae σ' H' s'/\D.ct σ' H'
 | .ret u=> ∃v σ' H',Inv X ae σ' H' s'/\RelV v u/\D.rt v H'
def PE(X:Cx)(e:Expr)(t:TE):Prop:=
 ∀(ae:List (Addr×Obj)) (s:Shared) (σ:St) (H:Hp) (Q:VK),Inv X ae σ H s->t σ H Q->wpAny (model X.prog X.w) X.A (eval e X.env) (EP X ae σ Q) X.xe s
def PT(X:Cx)(e:Expr)(t:TT):Prop:=
 ∀(ae:List (Addr×Obj)) (s:Shared) (σ:St) (H:Hp) (Q:Bool->Hp->Prop),Inv X ae σ H s->t σ H Q->wpAny (model X.prog X.w) X.A (isTrue e X.env (eval e X.env)) (TP X ae σ Q) X.xe s
def PW(X:Cx)(e:Expr)(t:TT):Prop:=
 ∀(whole:Sem Value) (ae:List (Addr×Obj)) (s:Shared) (σ:St) (H:Hp) (Q:Bool->Hp->Prop),Inv X ae σ H s->t σ H Q->wpAny (model X.prog X.w) X.A (isTrue e X.env whole) (TP X ae σ Q) X.xe s
theorem PW.pt {X:Cx}{e:Expr}{t:TT}(h:PW X e t):PT X e t:=h _
def PA(X:Cx)(es:List Expr)(t:TA):Prop:=
 ∀(pos:Pos) (ae:List (Addr×Obj)) (s:Shared) (σ:St) (H:Hp) (Q:List V->Hp->Prop),Inv X ae σ H s->t σ H Q->wpAny (model X.prog X.w) X.A (spliced (backTo pos (starEach es X.env))) (AP X ae σ Q) X.xe s
def PS(X:Cx)(st:Stmt)(t:TS):Prop:=
 ∀(ae:List (Addr×Obj)) (s:Shared) (σ:St) (H:Hp) (D:Ends),Inv X ae σ H s->t D σ H->wpAny (model X.prog X.w) X.A (exec st X.env) (SP X ae D) X.xe s
def PSs(X:Cx)(st:List Stmt)(t:TS):Prop:=
 ∀(ae:List (Addr×Obj)) (s:Shared) (σ:St) (H:Hp) (D:Ends),Inv X ae σ H s->t D σ H->wpAny (model X.prog X.w) X.A (execs st X.env) (SP X ae D) X.xe s
theorem bq {α:Type}{t:Sem α}{Q Q':α->Shared->Prop}{M:Model}{A:Around}{E:Value->Shared->Prop}{s:Shared}(h:wpAny M A t Q E s)(hQ: ∀a s,Q a s->Q' a s):wpAny M A t Q' E s:=wpAny_mono h hQ λ_ _ x=>x
section
variable {X:Cx}
def Ca(i:Nat):TE:=λσ H Q=> ∃v,σ[i]? =some (some v)/\Q v H
def tC(v:V):TE:=λ_ H Q=>Q v H
theorem AS {i:Nat}{x:Str}{pos:Pos}(hN:X.N[i]? =some x)(hv:nT X.env.scope x)(hd:(x==("__debug__":Str))=false:=by decide)(hcd:(x==("__classdict__":Str))=false:=by decide):PE X (.Name x pos) (Ca i):=by
 intro ae s σ H Q I h;obtain⟨v,e,h⟩:=h
 obtain⟨m,hn,hl⟩:=I.loc
 obtain⟨u,r,l⟩:=hl i x v hN e hv
 have fin:EP X ae σ Q u s:=⟨v,H,I,r,h⟩
 rcases l with⟨hk,hm⟩|⟨hk,c,hc,hcell⟩
 ·exact wpAny_Name (wpAny_loadName_local I.ok.kind hk hn hm fin) hd
 ·rcases hk with hk|hk
  ·exact wpAny_Name (wpAny_loadName_cell I.ok.kind hk hc hcell fin) hd
  ·exact wpAny_Name (wpAny_loadName_free I.ok.kind hk hc hcell fin hcd) hd
theorem AH {i j pos}:PE X (.Constant (.int i) j pos) (tC (.int i)):=λ_ _ _ H _ I h=>wpAny_Constant_int ⟨.int i,H,I.tok _,⟨_,rfl⟩,h⟩
theorem BD {b j pos}:PE X (.Constant (.bool b) j pos) (tC (.bl b)):=λ_ _ _ H _ I h=>Constant_bool ⟨.bl b,H,I,rfl,h⟩
def Gl(X:Cx)(x:Str):Prop:=X.env.kindOf x=some .globalImplicit
theorem yS {E:Value->Shared->Prop}{ae:List (Addr×Obj)}{s:Shared}{σ:St}{H:Hp}{x:Str}{u:Value}{pos:Pos}{Q:Value->Shared->Prop}(I:Inv X ae σ H s)(hg:Gl X x)(hm:X.mg x=some u)(h:Q u s)
 (hd:(x==("__debug__":Str))=false:=by decide):wpAny (model X.prog X.w) X.A (eval (.Name x pos) X.env) Q E s:=
 Calls.Name_function_global I.ok.kind hg (Calls.loadGlobal_global (by rw[I.ok.glob];exact I.mod.glob.keeps I.bk) hm h) hd
theorem jU {E:Value->Shared->Prop}{ae:List (Addr×Obj)}{s:Shared}{σ:St}{H:Hp}{x:Str}{u:Value}{pos:Pos}{Q:Value->Shared->Prop}(I:Inv X ae σ H s)(hg:Gl X x)(hm:X.mg x=none)(hv:bootBuiltins x=some u)(h:Q u s)
 (hn:x≠"__name__":=by decide) (hd:(x==("__debug__":Str))=false:=by decide):wpAny (model X.prog X.w) X.A (eval (.Name x pos) X.env) Q E s:=by
 obtain⟨mb,h1,h2⟩:=I.mod.blt
 exact Calls.Name_function_global I.ok.kind hg (Calls.loadGlobal_builtin (by rw[I.ok.glob];exact I.mod.glob.keeps I.bk) hm (by rw[I.ok.blt];exact h1.keeps I.bk) ((h2 x hn).trans hv) h) hd
theorem yQ {x:Str}{v:V}{u:Value}{pos:Pos}(hg:Gl X x)(hm:X.mg x=none)(hv:bootBuiltins x=some u)(r:RelV v u)(hn:x≠"__name__":=by decide)(hd:(x==("__debug__":Str))=false:=by decide):PE X (.Name x pos) (tC v):=
 λ_ _ _ H _ I h=>jU I hg hm hv ⟨v,H,I,r,h⟩ hn hd
variable {a b:Expr}{ta tb:TE}{pos:Pos}
def PC(X:Cx)(op:CmpOp)(a b:Expr)(t:TE):Prop:=
 ∀(ae:List (Addr×Obj)) (s:Shared) (σ:St) (H:Hp) (Q:VK),Inv X ae σ H s->t σ H Q->
  wpAny (model X.prog X.w) X.A (eval a X.env) (λv s₁=>wpAny (model X.prog X.w) X.A (eval b X.env) (λu s₂=>wpAny (model X.prog X.w) X.A (compareOp op v u) (EP X ae σ Q) X.xe s₂) X.xe s₁) X.xe s
def tB(t:TE):TT:=λσ H Q=>t σ H λx H1=> ∃c,x=.bl c/\Q c H1
theorem Ah {op:CmpOp}{t:TE}(h:PC X op a b t)(h1:behindInMarks op b=false:=by first|exact nobehind _ (by decide) (by decide)|rfl):PT X (.Compare a [op] [b] pos) (tB t):=by
 intro ae s σ H Q I hw;refine wpAny_isTrue_Compare1 (bq (h ae s σ H _ I hw) λv s1 h1=>bq h1 λu s2 h2=>bq h2 λc s3 ⟨x,H1,I1,r1,q1⟩=>?_) h1
 obtain⟨d,rfl,q⟩:=q1
 cases r1
 exact wpAny_truthy_bool ⟨H1,I1,q⟩
variable {tA tB':TT}{rest:List Expr}
def D1(t u:TT):TT:=λσ H Q=>t σ H λc H1=>if c=true then Q true H1 else u σ H1 Q
def Do(t:TT):TT:=λσ H Q=>t σ H λc H1=>Q (!c) H1
theorem pw_or1(ha:PT X a tA):PW X (.BoolOp .Or [a] pos) tA:=by
 intro wh ae s σ H Q I h;refine isTrue_or (bq (ha ae s σ H Q I h) λc s1 e=>?_)
 cases c with
 |false=>exact isTrue_or_nil e
 |true=>exact e
theorem pw_or(ha:PT X a tA)(hb:PW X (.BoolOp .Or (b::rest) pos) tB'):PW X (.BoolOp .Or (a::b::rest) pos) (D1 tA tB'):=by
 intro wh ae s σ H Q I h;refine isTrue_or (bq (ha ae s σ H _ I h) λc s1 hq_=>?_)
 obtain⟨H1,I1,q1⟩:=hq_
 cases c with
 |true=>exact⟨H1,I1,q1⟩
 |false=>exact hb wh ae s1 σ H1 Q I1 q1
theorem zZ(ha:PT X a tA):PT X (.UnaryOp .Not a pos) (Do tA):=by
 intro ae s σ H Q I h;exact isTrue_not (ha ae s σ H (λc H1=>Q (!c) H1) I h)
def BQ(ta tb:TE):TE:=λσ H Q=>ta σ H λx H1=> ∃c,x=.bl c/\if c=true then tb σ H1 Q else Q (.bl false) H1
def Bn(ta:TE):TE:=λσ H Q=>ta σ H λx H1=> ∃c,x=.bl c/\Q (.bl (!c)) H1
theorem Ax {op}{t:TE}(h:PE X a t):PE X (.BoolOp op [a] pos) t:=λae s σ H Q I hw=>BoolOp_one (h ae s σ H Q I hw)
theorem zB(ha:PE X a ta)(hb:PE X (.BoolOp .And (b::rest) pos) tb):PE X (.BoolOp .And (a::b::rest) pos) (BQ ta tb):=by
 intro ae s σ H Q I h;refine BoolOp_and (bq (ha ae s σ H _ I h) λv s1 hq_=>?_)
 obtain⟨x,H1,I1,r1,q1⟩:=hq_
 obtain⟨c,rfl,q1⟩:=q1
 cases r1
 refine wpAny_truthy_bool ?_
 cases c with
 |true=>exact hb ae s1 σ H1 Q I1 q1
 |false=>exact⟨.bl false,H1,I1,rfl,q1⟩
theorem Ag(ha:PE X a ta):PE X (.UnaryOp .Not a pos) (Bn ta):=by
 intro ae s σ H Q I h;refine UnaryOp_ (bq (ha ae s σ H _ I h) λv s1 hq_=>?_)
 obtain⟨x,H1,I1,r1,q1⟩:=hq_
 obtain⟨c,rfl,q1⟩:=q1
 cases r1
 exact not_of (wpAny_truthy_bool ⟨.bl (!c),H1,I1,rfl,q1⟩)
def Eb(t:TT)(ta tb:TE):TE:=λσ H Q=>t σ H λc H1=>if c=true then ta σ H1 Q else tb σ H1 Q
theorem xg {c:Expr}(hc:PT X c tA)(ha:PE X a ta)(hb:PE X b tb):PE X (.IfExp c a b pos) (Eb tA ta tb):=by
 intro ae s σ H Q I h;refine wpAny_IfExp (bq (hc ae s σ H _ I h) λd s1 hq_=>?_)
 obtain⟨H1,I1,q1⟩:=hq_
 cases d with
 |true=>exact ha ae s1 σ H1 Q I1 q1
 |false=>exact hb ae s1 σ H1 Q I1 q1
end
def SqL(K:W.Frag)(H:Hp)(a:Addr)(xs:List V):Prop:=
 Rd H a (.lst xs)\/
  ∃(o:Obj) (its:Array Value) (n:Nat),K.lookup a=some o/\o.cls=.type "list"/\o.dict=none/\o.data=.seq its n/\its.size<=sizeLine/\Vals xs its.toList
def SqT(K:W.Frag)(H:Hp)(a:Addr)(xs:List V):Prop:=
 Rd H a (.tup xs)\/
  ∃(o:Obj) (its:Array Value) (n:Nat),K.lookup a=some o/\o.cls=.type "tuple"/\o.data=.seq its n/\its.size<=sizeLine/\Vals xs its.toList/\o.dict=none
def DF:Value->Option V
 | .none=>some .non
 | .bool b=>some (.bl b)
 | .int i _=>some (.int i)
 | .str x _=>some (.str x)
 | .bytes b _=>some (.byt b)
 | .float b _=>some (.flt b)
 | .ref a=>some (.ref a)
 | .type n=>some (.ty n)
 |_=>none
theorem RelV.abs {x:V}{u:Value}(r:RelV x u):DF u=some x:=by
 cases x with
 |non=>cases r;rfl
 |bl _=>cases r;rfl
 |int _=>obtain⟨t,rfl⟩:=r;rfl
 |str _=>obtain⟨t,rfl⟩:=r;rfl
 |byt _=>obtain⟨t,rfl⟩:=r;rfl
 |flt _=>obtain⟨t,rfl⟩:=r;rfl
 |ref _=>cases r;rfl
 |ty _=>cases r;rfl
theorem RelV.inj {x y:V}{u:Value}(r:RelV x u)(q:RelV y u):x=y:=Option.some.inj (r.abs.symm.trans q.abs)
theorem Vals.inj: ∀ {xs ys:List V} {us:List Value},Vals xs us->Vals ys us->xs=ys
 |_,_,_,.nil,.nil=>rfl
 |_,_,_,.cons r t,.cons r' t'=>by rw[r.inj r',Vals.inj t t']
section
variable {X:Cx}{ae:List (Addr×Obj)}{σ:St}{H:Hp}{s:Shared}{a:Addr}{xs ys:List V}
theorem SqL.of {K:W.Frag}(h:H a=some (.lst xs)):SqL K H a xs:=.inl (.inl h)
theorem SqT.of {K:W.Frag}(h:H a=some (.tup xs)):SqT K H a xs:=.inl (.inl h)
theorem Inv.list(I:Inv X ae σ H s)(h:SqL X.K H a xs): ∃its:List Value,Vals xs its/\PlainL s.heap a its.toArray/\xs.length<=sizeLine:=by
 rcases h with h|⟨o,its,n,hk,hc,hd,hs,hz,r⟩
 ·obtain⟨z,its,n,r,e⟩:=h.ok I.hok
  exact⟨its,r,⟨_,n,e,rfl,rfl,rfl⟩,z⟩
 ·refine⟨its.toList,r,⟨o,n,I.kIn a o hk,hc,hd,by simpa using hs⟩,?_⟩
  have e:=r.length
  simp only[Array.length_toList] at e;omega
theorem Inv.tuple(I:Inv X ae σ H s)(h:SqT X.K H a xs): ∃its:List Value,Vals xs its/\IsTup s.heap a its.toArray/\xs.length<=sizeLine:=by
 rcases h with h|⟨o,its,n,hk,hc,hs,hz,r,_⟩
 ·obtain⟨z,its,r,p,_⟩:=h.ok I.hok
  exact⟨its,r,p,z⟩
 ·refine⟨its.toList,r,⟨o,I.kIn a o hk,hc,n,by simpa using hs⟩,?_⟩
  have e:=r.length
  simp only[Array.length_toList] at e;omega
theorem Inv.tupleN(I:Inv X ae σ H s)(h:SqT X.K H a xs):(∃o,s.heap.get? a=some o/\o.cls=.type "tuple")/\ ∃o,s.heap.get? a=some o/\o.dict=none:=by
 rcases h with h|⟨o,its,n,hk,hc,hs,hz,r,hd⟩
 ·obtain⟨z,its,r,⟨ob,e,c,_⟩,o2,e2,d2⟩:=h.ok I.hok
  exact⟨⟨ob,e,c⟩,o2,e2,d2⟩
 ·exact⟨⟨o,I.kIn a o hk,hc⟩,o,I.kIn a o hk,hd⟩
theorem Inv.list_inj(I:Inv X ae σ H s)(h:SqL X.K H a xs)(h':SqL X.K H a ys):xs=ys:=by
 obtain⟨its,r,⟨o,n,e,_,_,d⟩,_⟩:=I.list h
 obtain⟨its',r',⟨o',n',e',_,_,d'⟩,_⟩:=I.list h'
 rw[e] at e';cases e';rw[d] at d';injection d' with d1 _
 have:its=its':=by simpa using congrArg Array.toList d1
 subst this;exact r.inj r'
theorem Inv.tuple_inj(I:Inv X ae σ H s)(h:SqT X.K H a xs)(h':SqT X.K H a ys):xs=ys:=by
 obtain⟨its,r,⟨o,e,_,n,d⟩,_⟩:=I.tuple h
 obtain⟨its',r',⟨o',e',_,n',d'⟩,_⟩:=I.tuple h'
 rw[e] at e';cases e';rw[d] at d';injection d' with d1 _
 have:its=its':=by simpa using congrArg Array.toList d1
 subst this;exact r.inj r'
end
abbrev Cx.wish(X:Cx)(E:Value->Shared->Prop):Cx:={X with xe:=E}
abbrev Cx.nox(X:Cx):Cx:=X.wish λ_ _=>False
theorem Cx.Ok.wish {X:Cx}(ok:X.Ok)(E:Value->Shared->Prop):(X.wish E).Ok:=
 ⟨ok.mod,ok.kind,ok.glob,ok.blt,ok.above,ok.inj,ok.has,ok.cab,ok.hd,ok.frames,ok.stk,ok.exf,ok.bs,ok.bsz,ok.noex,ok.exfs,ok.funs,ok.frf⟩
theorem Cx.Ok.unwish {X:Cx}{E:Value->Shared->Prop}(ok:(X.wish E).Ok):X.Ok:=
 ⟨ok.mod,ok.kind,ok.glob,ok.blt,ok.above,ok.inj,ok.has,ok.cab,ok.hd,ok.frames,ok.stk,ok.exf,ok.bs,ok.bsz,ok.noex,ok.exfs,ok.funs,ok.frf⟩
section
variable {X:Cx}{ae:List (Addr×Obj)}{σ:St}{H:Hp}{s:Shared}{E:Value->Shared->Prop}
theorem Inv.wish(I:Inv X ae σ H s)(E:Value->Shared->Prop):Inv (X.wish E) ae σ H s:=⟨I.ok.wish E,I.os,I.bare,I.base,I.loc,I.cell,I.free,I.freeC,I.pin,I.hok,I.len⟩
theorem Inv.unwish(I:Inv (X.wish E) ae σ H s):Inv X ae σ H s:=⟨I.ok.unwish,I.os,I.bare,I.base,I.loc,I.cell,I.free,I.freeC,I.pin,I.hok,I.len⟩
theorem SP.unwish {D:Ends}{f:Flow}{s':Shared}(h:SP (X.wish E) ae D f s'):SP X ae D f s':=by
 cases f with
 |next=>obtain⟨σ',H',I,q⟩:=h;exact⟨σ',H',I.unwish,q⟩
 |brk=>obtain⟨σ',H',I,q⟩:=h;exact⟨σ',H',I.unwish,q⟩
 |cont=>obtain⟨σ',H',I,q⟩:=h;exact⟨σ',H',I.unwish,q⟩
 |ret u=>obtain⟨v,σ',H',I,r,q⟩:=h;exact⟨v,σ',H',I.unwish,r,q⟩
theorem PSs.nox {st:List Stmt}{t:TS}(h:PSs X.nox st t):PSs X st t:=λae s σ H D I hw=>
 wpAny_mono (h ae s σ H D (I.wish _) hw) (λ_ _ q=>q.unwish) λ_ _ z=>False.elim z
end
section
variable {X:Cx}{st:Stmt}{rest:List Stmt}{t u:TS}{e:Expr}{te:TE}{pos:Pos}
def Cg:TS:=λD σ H=>D.nx σ H
def Db(t u:TS):TS:=λD σ H=>t {D with nx:=u D} σ H
theorem ye:PSs X [] Cg:=λ_ _ σ H _ I h=>wpAny_execs_nil ⟨σ,H,I,h⟩
theorem oU(h1:PS X st t)(h2:PSs X rest u):PSs X (st::rest) (Db t u):=by
 intro ae s σ H D I h;refine wpAny_execs_cons (bq (h1 ae s σ H {D with nx:=u D} I h) λf s1 q=>?_)
 cases f with
 |next=>
  obtain⟨σ',H',I',q⟩:=q
  exact h2 ae s1 σ' H' D I' q
 |ret v=>exact q
 |brk=>exact q
 |cont=>exact q
theorem sR(h1:PS X st t):PSs X [st] t:=by
 intro ae s σ H D I h;refine wpAny_execs_cons (bq (h1 ae s σ H D I h) λf s1 q=>?_)
 cases f with
 |next=>exact wpAny_execs_nil q
 |ret v=>exact q
 |brk=>exact q
 |cont=>exact q
theorem Inv.quiet {ae:List (Addr×Obj)}{σ:St}{H:Hp}{s:Shared}(I:Inv X ae σ H s):interactive X.env=false:=by simp[interactive,I.ok.kind]
def Bx(te:TE):TS:=λD σ H=>te σ H λ_ H1=>D.nx σ H1
theorem xP(he:PE X e te)(hs:swapsWith e none pos.line X.env=pure false:=by rfl):PS X (.Expr e pos) (Bx te):=by
 intro ae s σ H D I h;exact wpAny_Expr_any (bq (he ae s σ H _ I h) λv s1 ⟨x,H1,I1,r1,q1⟩=>⟨σ,H1,I1,q1⟩) I.quiet hs
def CO(te:TE):TS:=λD σ H=>te σ H D.rt
theorem rg(he:PE X e te):PS X (.Return (some e) pos) (CO te):=by
 intro ae s σ H D I h;exact wpAny_Return_some (bq (he ae s σ H _ I h) λv s1 ⟨x,H1,I1,r1,q1⟩=>⟨x,σ,H1,I1,r1,q1⟩)
def Ds(c:TT)(t u:TS):TS:=λD σ H=>c σ H λb H1=>if b=true then t D σ H1 else u D σ H1
theorem Cf {c:Expr}{a b:List Stmt}{tc:TT}(hc:PT X c tc)(ha:PSs X a t)(hb:PSs X b u):PS X (.If c a b pos) (Ds tc t u):=by
 intro ae s σ H D I h;refine wpAny_If (bq (hc ae s σ H _ I h) λd s1 hq_=>?_)
 obtain⟨H1,I1,q1⟩:=hq_
 cases d with
 |true=>exact ha ae s1 σ H1 D I1 q1
 |false=>exact hb ae s1 σ H1 D I1 q1
end
abbrev TG:=V->St->Hp->(St->Hp->Prop)->Prop
abbrev vX:=List V->St->Hp->(St->Hp->Prop)->Prop
def PG(X:Cx)(target:Expr)(t:TG):Prop:=
 ∀(ae:List (Addr×Obj)) (s:Shared) (σ:St) (H:Hp) (v:V) (u:Value) (Q:St->Hp->Prop),Inv X ae σ H s->RelV v u->t v σ H Q->
  wpAny (model X.prog X.w) X.A (assign target X.env u) (λ_ s'=> ∃σ' H',Inv X ae σ' H' s'/\Q σ' H') X.xe s
def PGs(X:Cx)(ts:List Expr)(t:vX):Prop:=
 ∀(ae:List (Addr×Obj)) (s:Shared) (σ:St) (H:Hp) (vs:List V) (us:List Value) (Q:St->Hp->Prop),Inv X ae σ H s->Vals vs us->t vs σ H Q->
  wpAny (model X.prog X.w) X.A (assignInOrder ((assignEach ts X.env).map (·.2)) us) (λ_ s'=> ∃σ' H',Inv X ae σ' H' s'/\Q σ' H') X.xe s
abbrev vV:=V->V->V->Hp->(Hp->Prop)->Prop
def x9(X:Cx)(t:vV):Prop:=
 ∀(ae:List (Addr×Obj)) (s:Shared) (σ:St) (H:Hp) (o i v:V) (ov iv u:Value) (Q:Hp->Prop),Inv X ae σ H s->RelV o ov->RelV i iv->RelV v u->t o i v H Q->
  wpAny (model X.prog X.w) X.A (setItem ov iv u) (λ_ s'=> ∃H',Inv X ae σ H' s'/\Q H') X.xe s
section
variable {X:Cx}{pos:Pos}
def sE(i:Nat):TG:=λv σ H Q=>Q (σ.set i (some v)) H
theorem oK {i:Nat}{x:Str}(hN:X.N.Nodup)(hi:X.N[i]? =some x)(hx:sY X.env.scope x)(hf:X.fn x=true\/X.env.scope.names.lookup x=some .local:=by first|exact .inl rfl|exact .inr rfl|assumption):PG X (.Name x pos) (sE i):=by
 intro ae s σ H v u Q I r h;exact wpAny_assign_Name (pz I hN hi hx r (λs' I'=>⟨_,H,I',h⟩) hf)
def Dq:vX:=λvs σ H Q=>vs=[]/\Q σ H
def Bi(t:TG)(u:vX):vX:=λvs σ H Q=> ∃v r,vs=v::r/\t v σ H λσ' H'=>u r σ' H' Q
theorem oa:PGs X [] Dq:=by
 intro ae s σ H vs us Q I r h;obtain⟨e,h⟩:=h
 subst e;cases r
 exact assignInOrder_nil ⟨σ,H,I,h⟩
theorem jv {e:Expr}{es:List Expr}{t:TG}{u:vX}(h1:PG X e t)(h2:PGs X es u)
 (hs:(assignEach (e::es) X.env).map (·.2)=assign e X.env::(assignEach es X.env).map (·.2):=by rfl):PGs X (e::es) (Bi t u):=by
 intro ae s σ H vs us Q I r h;obtain⟨v,vr,e1,h⟩:=h
 subst e1;cases r with
 |cons r rr=>
  rw[hs];refine assignInOrder_cons (bq (h1 ae s σ H _ _ _ I r h) λ_ s1 hq_=>?_)
  obtain⟨σ1,H1,I1,q1⟩:=hq_
  exact h2 ae s1 σ1 H1 _ _ Q I1 rr q1
def C9(K:W.Frag)(n:Nat)(t:vX):TG:=λv σ H Q=> ∃a xs,v=.ref a/\SqT K H a xs/\xs.length=n/\t xs σ H Q
theorem qX {es:List Expr}{k:Nat}{t:vX}{n:Nat}(hc:X.calm=true)(h:PGs X es t)
 (hn:(assignEach es X.env).length=n:=by rfl) (hst:(assignEach es X.env).findIdx? (·.1)=none:=by rfl):PG X (.Tuple es k pos) (C9 X.K n t):=by
 intro ae s σ H v u Q I r hw;obtain⟨a,xs,e1,hq,hl,hw⟩:=hw
 subst e1;cases r
 obtain⟨its,rv,ht,hz⟩:=I.tuple hq
 refine assign_Tuple_tuple (I.ok.hd hc) ht (by simp[hn,<-hl,rv.length]) hst λh' hx=>?_
 have I1:Inv X ae σ H {s with heap:=h'}:=I.kept (t':=s.toks) λb o e=>hx b o (Nat.ne_of_lt (Heap.lt_size e)) e
 exact h ae _ σ H xs _ Q I1 (by simpa using rv) hw
def Dj(to ti:TE)(t:vV):TG:=λv σ H Q=>to σ H λo H1=>ti σ H1 λi H2=>t o i v H2 λH3=>Q σ H3
theorem zv {o i:Expr}{to ti:TE}{t:vV}(ho:PE X o to)(hi:PE X i ti)(hs:x9 X t)
 (ha: ∀v,assign (.Subscript o i pos) X.env v=(do
   let ov <-holding [v] (eval o X.env)
   let iv <-holding [v,ov] (eval i X.env)
   standAt pos
   holding [v,ov,iv] (setItem ov iv v)
   release [v,ov,iv] []):=by intro _;rfl):PG X (.Subscript o i pos) (Dj to ti t):=by
 intro ae s σ H v u Q I r h;rw[ha];refine wpAny_bind (wpAny_holding (bq (ho ae s σ H _ I h) λov s1 hq_=>?_))
 obtain⟨x,H1,I1,r1,q1⟩:=hq_
 refine wpAny_bind (wpAny_holding (bq (hi ae s1 σ H1 _ I1 q1) λiv s2 hq_=>?_))
 obtain⟨y,H2,I2,r2,q2⟩:=hq_
 refine wpAny_bind (wpAny_standAt (wpAny_bind (wpAny_holding (bq (hs ae s2 σ H2 x y v ov iv u _ I2 r1 r2 r q2) λ_ s3 hq_=>?_))))
 obtain⟨H3,I3,q3⟩:=hq_
 exact wpAny_release ⟨σ,H3,I3,q3⟩
def yg(te:TE)(g:TG):TS:=λD σ H=>te σ H λx H1=>g x σ H1 D.nx
theorem rT {tg e:Expr}{te:TE}{g:TG}(he:PE X e te)(hg:PG X tg g)(hs:swapsWithSole [tg] e pos.line X.env=pure false:=by rfl)(hw:swappedStores [tg] e X.env=pure none:=by rfl)
 (h1:(assignEach [tg] X.env).map (·.2)=[assign tg X.env]:=by rfl):PS X (.Assign [tg] e pos) (yg te g):=by
 intro ae s σ H D I h;refine wpAny_Assign_stores (bq (he ae s σ H _ I h) λv s1 ⟨x,H1,I1,r1,q1⟩=>?_) hs hw
 rw[h1];exact bq (hg ae s1 σ H1 x v _ I1 r1 q1) λ_ s2 q=>q
theorem jW {i:Nat}{x:Str}{e:Expr}{te:TE}{pos':Pos}(hN:X.N.Nodup)(hi:X.N[i]? =some x)(hx:sY X.env.scope x)(he:PE X e te)(hs:swapsWith e (some (.Name x pos')) pos.line X.env=pure false:=by rfl)(hf:X.fn x=true\/X.env.scope.names.lookup x=some .local:=by first|exact .inl rfl|exact .inr rfl|assumption):
 PS X (.Assign [.Name x pos'] e pos) (yg te (sE i)):=by
 intro ae s σ H D I h;refine wpAny_Assign_Name (bq (he ae s σ H _ I h) λv s1 ⟨y,H1,I1,r1,q1⟩=>?_) hs
 exact pz I1 hN hi hx r1 (λs2 I2=>⟨_,H1,I2,q1⟩) hf
end
section
variable {X:Cx}{pos:Pos}
def Ae(c:TT)(tb:TS):TS:=λD σ H=> ∃W:Nat->St->Hp->Prop,(∃m,W m σ H)/\ ∀m σ H,W m σ H->
 c σ H λb H1=>if b=true then∃N:St->Hp->Prop,(∀σ' H',N σ' H'-> ∃m',m'<m/\W m' σ' H')/\tb {D with nx:=N,ct:=N,bk:=D.nx} σ H1 else D.nx σ H1
theorem wK {c:Expr}{body:List Stmt}{tc:TT}{tb:TS}(hp:PassesOwn (model X.prog X.w) X.A X.env X.xe)(hc:PT X c tc)(hb:PSs X body tb):PS X (.While c body [] pos) (Ae tc tb):=by
 intro ae s σ H D I h;obtain⟨W,⟨m0,w0⟩,turn⟩:=h
 refine wpAny_While (codeAny_whileLoop (λn s'=> ∃σ' H',Inv X ae σ' H' s'/\W n σ' H') ?_ m0 ⟨σ,H,I,w0⟩)
 rintro n s1 ⟨σ1,H1,I1,w1⟩
 refine wpAny_passesOwn hp (bq (hc ae s1 σ1 H1 _ I1 (turn n σ1 H1 w1)) λb s2 hq_=>?_)
 obtain⟨H2,I2,q2⟩:=hq_
 cases b with
 |true=>
  obtain⟨N,hN,q2⟩:=q2
  rw[if_pos rfl];refine wpAny_passesOwn hp (bq (hb ae s2 σ1 H2 _ I2 q2) λf s3 q3=>?_)
  cases f with
  |next=>
   obtain⟨σ3,H3,I3,n3⟩:=q3
   obtain⟨m',hm,w3⟩:=hN σ3 H3 n3
   exact⟨m',hm,σ3,H3,I3,w3⟩
  |cont=>
   obtain⟨σ3,H3,I3,n3⟩:=q3
   obtain⟨m',hm,w3⟩:=hN σ3 H3 n3
   exact⟨m',hm,σ3,H3,I3,w3⟩
  |brk=>exact q3
  |ret v=>exact q3
 |false=>
  rw[if_neg Bool.false_ne_true];exact wpAny_execs_nil ⟨σ1,H2,I2,q2⟩
end
structure It where
 go:Nat->Hp->Prop
 yld:Nat->Hp->V->Hp->Prop
 stop:Nat->Hp->Prop
def gA(X:Cx)(ae:List (Addr×Obj))(H:Hp)(b:Addr):Prop:=
 H b=none/\b≠X.env.locals/\b∉X.fs/\(b∈X.ex\/X.s₀.heap.objs.size<=b)/\(∀x c,X.env.cells.lookup x=some c->c≠b)/\ ∀p∈X.pn++ae,p.1≠b
theorem Inv.fpOk {X:Cx}{ae:List (Addr×Obj)}{σ:St}{H H':Hp}{s:Shared}{b:Addr}(I:Inv X ae σ H s)(hb:s.heap.objs.size<=b)(hn:H' b=none):gA X ae H' b:=by
 refine⟨hn,Nat.ne_of_gt (Nat.lt_of_lt_of_le I.lt hb),I.nofs hb,.inr (Nat.le_trans I.sz hb),λx c e z=>?_,λp hp z=>?_⟩
 ·obtain⟨v,q⟩:=I.cell x c e
  exact absurd (Nat.lt_of_lt_of_le q.lt (by rw[z];exact hb)) (Nat.lt_irrefl _)
 ·exact absurd (Nat.lt_of_lt_of_le (Heap.lt_size (I.pin p hp).1) (by rw[z];exact hb)) (Nat.lt_irrefl _)
structure Turn(P:Program)(w:World)(K:W.Frag)(tg:Expr)(J:It)(fp:List Addr)(it:Addr)(tn:Nat->Heap->Prop):Prop where
 mem:it∈fp
 obj: ∀i h,tn i h-> ∀b∈fp,∃o,h.get? b=some o/\ ∀v,o.data≠ .cell v
 keep: ∀i h h',tn i h->(∀b∈fp,∀o,h.get? b=some o->h'.get? b=some o)->tn i h'
 item: ∀(X:Cx),X.prog=P->X.w=w->X.K=K->X.calm=true-> ∀(i:Nat) (ae:List (Addr×Obj)) (s:Shared) (σ:St) (H:Hp) (E:Value->Shared->Prop),Inv X ae σ H s->(∀b∈fp,gA X ae H b)->tn i s.heap->J.go i H->
  wpAny (model P w) X.A (pyNext (.ref it)) (λr s1=> ∃u,r=some u/\
   wpAny (model P w) X.A (letOwnedTupleGo tg (.ref it) u) (λ_ s2=> ∃x H',Inv X ae σ H' s2/\RelV x u/\J.yld i H x H'/\tn (i+1) s2.heap/\ ∀b∈fp,H' b=none) E s1) E s
 done: ∀(X:Cx),X.prog=P->X.w=w->X.K=K->X.calm=true-> ∀(i:Nat) (ae:List (Addr×Obj)) (s:Shared) (σ:St) (H:Hp) (E:Value->Shared->Prop),Inv X ae σ H s->(∀b∈fp,gA X ae H b)->tn i s.heap->J.stop i H->
  wpAny (model P w) X.A (pyNext (.ref it)) (λr s1=>r=none/\Inv X ae σ H s1) E s
 self: ∀(A:Around) (i:Nat) (s:Shared) (Q:Value->Shared->Prop) (E:Value->Shared->Prop),tn i s.heap->Q (.ref it) s->wpAny (model P w) A (pyIter (.ref it)) Q E s
abbrev TI:=St->Hp->(It->Hp->Prop)->Prop
def DO(X:Cx)(ae:List (Addr×Obj))(σ:St)(tg:Expr)(R:It->Hp->Prop)(itv:Value)(s2:Shared):Prop:=
 ∃(it:Addr) (fp:List Addr) (tn:Nat->Heap->Prop) (J:It) (H':Hp),itv=.ref it/\Inv X ae σ H' s2/\Turn X.prog X.w X.K tg J fp it tn/\tn 0 s2.heap/\(∀b∈fp,gA X ae H' b)/\R J H'
def PI(X:Cx)(tg iter:Expr)(wi:TI):Prop:=
 ∀(ae:List (Addr×Obj)) (s:Shared) (σ:St) (H:Hp) (R:It->Hp->Prop),Inv X ae σ H s->wi σ H R->
  wpAny (model X.prog X.w) X.A (eval iter X.env) (λv s1=>wpAny (model X.prog X.w) X.A (pyIter v) (DO X ae σ tg R) X.xe s1) X.xe s
theorem vu {M:Model}{A:Around}{E:Value->Shared->Prop}{s:Shared}{tg:Expr}{it:Addr}{u:Value}{o:Obj}{n:String}{vs:Array Value}{Q:Unit->Shared->Prop}(ho:s.heap.get? it=some o)(hc:o.cls=.type n)(hd:o.data=.fields vs)
 (hn:["enumerate","zip","dict_itemiterator","dict_reverseitemiterator","odict_iterator","itertools.zip_longest","itertools.pairwise"].contains n=false) (hQ:Q () s):wpAny M A (letOwnedTupleGo tg (.ref it) u) Q E s:=by
 unfold letOwnedTupleGo;cases tg<;>first
  |exact wpAny_pure hQ
  |(cases u<;>first
     |exact wpAny_pure hQ
     |(refine wpAny_bind (wpAny_load ho ?_)
       rw[hc,hd];show wpAny M A (if(["enumerate","zip","dict_itemiterator","dict_reverseitemiterator","odict_iterator","itertools.zip_longest","itertools.pairwise"].contains n&&vs[0]? ==some (rawInt _))=true then _ else _) Q E s
       rw[if_neg (by intro h;rw[hn,Bool.false_and] at h;cases h)]
       exact wpAny_pure hQ))
def C7(K:W.Frag)(a:Addr):It:=
 ⟨λi H=> ∃xs x,SqL K H a xs/\xs[i]? =some x,λi H x H'=>H'=H/\ ∀xs,SqL K H a xs->xs[i]? =some x,λi H=> ∃xs,SqL K H a xs/\xs.length<=i⟩
def C4(K:W.Frag)(a:Addr):It:=
 ⟨λi H=> ∃xs x,SqT K H a xs/\xs[i]? =some x,λi H x H'=>H'=H/\ ∀xs,SqT K H a xs->xs[i]? =some x,λi H=> ∃xs,SqT K H a xs/\xs.length<=i⟩
def Bw(lo:Int)(n:Nat):It:=⟨λi _=>i<n,λi H x H'=>H'=H/\x=.int (lo+i),λi _=>n<=i⟩
theorem ua {P:Program}{w:World}{K:W.Frag}{tg:Expr}(a it:Addr):Turn P w K tg (C7 K a) [it] it (λi h=>h.IsListIter it a i) where
 mem:=by simp
 obj:=λi h st b hb=>by
  have e:b=it:=by simpa using hb
  subst e;obtain⟨o,e,c,d⟩:=st
  exact⟨o,e,λv z=>by rw[d] at z;cases z⟩
 keep:=λi h h' st k=>st.at λo e=>k it (by simp) o e
 item:=by
  intro X hP hw hK hc i ae s σ H E I hf st hg;subst hP hw hK;obtain⟨xs,x,hq,hx⟩:=hg
  obtain⟨its,rv,p,hz⟩:=I.list hq
  obtain⟨u,hu,ru⟩:=rv.get hx
  obtain⟨f0,f1,f2,f3,f4,f5⟩:=hf it (by simp)
  refine wpAny_pyNext_list_item st p.isList (x:=u) (by simpa using hu) λh' st' sb=>?_
  have I1:Inv X ae σ H {s with heap:=h'}:=I.turned (t':=s.toks) (λb o hb e=>(sb.2 b hb).trans e) f0 f1 f3 f4 f5
  obtain⟨o,e,c,d⟩:=id st'
  exact⟨u,rfl,vu (s:={s with heap:=h'}) e c d (by decide) ⟨x,H,I1,ru,⟨rfl,λys hy=>by rw[I.list_inj hy hq];exact hx⟩,st',λb hb=>(hf b hb).1⟩⟩
 done:=by
  intro X hP hw hK hc i ae s σ H E I hf st hg;subst hP hw hK;obtain⟨xs,hq,hx⟩:=hg
  obtain⟨its,rv,p,hz⟩:=I.list hq
  obtain⟨f0,f1,f2,f3,f4,f5⟩:=hf it (by simp)
  have hl:=rv.length
  exact wpAny_pyNext_list_end (I.ok.hd hc) st p.isList (by simp;omega) λh' eb=>⟨rfl,I.turned (t':=s.toks) (λb o hb e=>eb b o hb e) f0 f1 f3 f4 f5⟩
 self:=λ_ _ _ _ _ st h=>wpAny_pyIter_listiter st h
theorem rB {P:Program}{w:World}{K:W.Frag}{tg:Expr}(a it:Addr):Turn P w K tg (C4 K a) [it] it (λi h=>h.IsTupleIter it a i) where
 mem:=by simp
 obj:=λi h st b hb=>by
  have e:b=it:=by simpa using hb
  subst e;obtain⟨o,e,c,d⟩:=st
  exact⟨o,e,λv z=>by rw[d] at z;cases z⟩
 keep:=λi h h' st k=>st.at λo e=>k it (by simp) o e
 item:=by
  intro X hP hw hK hc i ae s σ H E I hf st hg;subst hP hw hK;obtain⟨xs,x,hq,hx⟩:=hg
  obtain⟨its,rv,p,hz⟩:=I.tuple hq
  obtain⟨u,hu,ru⟩:=rv.get hx
  obtain⟨f0,f1,f2,f3,f4,f5⟩:=hf it (by simp)
  refine wpAny_pyNext_tuple_item st (show s.heap.IsTuple a its.toArray from p) (x:=u) (by simpa using hu) λh' st' sb=>?_
  have I1:Inv X ae σ H {s with heap:=h'}:=I.turned (t':=s.toks) (λb o hb e=>(sb.2 b hb).trans e) f0 f1 f3 f4 f5
  obtain⟨o,e,c,d⟩:=id st'
  exact⟨u,rfl,vu (s:={s with heap:=h'}) e c d (by decide) ⟨x,H,I1,ru,⟨rfl,λys hy=>by rw[I.tuple_inj hy hq];exact hx⟩,st',λb hb=>(hf b hb).1⟩⟩
 done:=by
  intro X hP hw hK hc i ae s σ H E I hf st hg;subst hP hw hK;obtain⟨xs,hq,hx⟩:=hg
  obtain⟨its,rv,p,hz⟩:=I.tuple hq
  obtain⟨f0,f1,f2,f3,f4,f5⟩:=hf it (by simp)
  have hl:=rv.length
  exact wpAny_pyNext_tuple_end (I.ok.hd hc) st (show s.heap.IsTuple a its.toArray from p) (by simp;omega) λh' eb=>⟨rfl,I.turned (t':=s.toks) (λb o hb e=>eb b o hb e) f0 f1 f3 f4 f5⟩
 self:=λ_ _ _ _ _ st h=>wpAny_pyIter_tupleiter st h
theorem rQ {P:Program}{w:World}{K:W.Frag}{tg:Expr}(it:Addr)(lo:Int)(n:Nat):Turn P w K tg (Bw lo n) [it] it (λi h=>IsRangeIter h it (lo+(i:Nat)*1) ((n:Int) - (i:Nat)) 1) where
 mem:=by simp
 obj:=λi h st b hb=>by
  have e:b=it:=by simpa using hb
  subst e;exact⟨_,st,λv z=>by
   have z':Data.fields _=Data.cell v:=z
   cases z'⟩
 keep:=λi h h' st k=>k it (by simp) _ st
 item:=by
  intro X hP hw hK hc i ae s σ H E I hf st hg;subst hP hw hK;obtain⟨f0,f1,f2,f3,f4,f5⟩:=hf it (by simp)
  have W:=Walks.range (prog:=X.prog) (w:=X.w) (I.ok.hd hc) it lo 1 n
  refine W.item i s _ _ hg st λv h' tk hv st' kk=>?_
  obtain⟨t,rfl⟩:=hv
  have I1:Inv X ae σ H {s with heap:=h',toks:=tk}:=I.turned (λb o hb e=>kk b o (by simpa using hb) e) f0 f1 f3 f4 f5
  refine⟨_,rfl,vu (s:={s with heap:=h',toks:=tk}) (n:="range_iterator") st' rfl rfl (by decide) ⟨.int (lo+i),H,I1,⟨t,?_⟩,⟨rfl,rfl⟩,st',λb hb=>(hf b hb).1⟩⟩
  rw[Int.mul_one]
 done:=by
  intro X hP hw hK hc i ae s σ H E I hf st hg;subst hP hw hK;obtain⟨f0,f1,f2,f3,f4,f5⟩:=hf it (by simp)
  exact wpAny_pyNext_range_end (I.ok.hd hc) st (by have:n<=i:=hg;omega) λh' eb=>⟨rfl,I.turned (t':=s.toks) (λb o hb e=>eb b o hb e) f0 f1 f3 f4 f5⟩
 self:=λ_ _ _ _ _ st h=>wpAny_pyIter_rangeiter st h
section
variable {X:Cx}{tg:Expr}
def Be(K:W.Frag)(tl:TE):TI:=λσ H R=>tl σ H λx H1=> ∃a,x=.ref a/\(∃xs,SqL K H1 a xs)/\R (C7 K a) H1
def Dx(K:W.Frag)(tl:TE):TI:=λσ H R=>tl σ H λx H1=> ∃a,x=.ref a/\(∃xs,SqT K H1 a xs)/\R (C4 K a) H1
theorem sf {l:Expr}{tl:TE}(hl:PE X l tl):PI X tg l (Be X.K tl):=by
 intro ae s σ H R I h;refine bq (hl ae s σ H _ I h) λv s1 hq_=>?_
 obtain⟨x,H1,I1,r1,q1⟩:=hq_
 obtain⟨a,e,⟨xs,hq⟩,q⟩:=q1
 subst e;cases r1
 obtain⟨its,rv,p,hz⟩:=I1.list hq
 refine wpAny_pyIter_list p.isList ?_
 refine⟨s1.heap.objs.size,[s1.heap.objs.size],_,_,H1,rfl,I1.kept (t':=s1.toks) λb o e=>Heap.get?_push_of_some _ e,ua a _,⟨_,Heap.get?_push_size _ rfl,rfl,rfl⟩,λb hb=>?_,q⟩
 have e:b=s1.heap.objs.size:=by simpa using hb
 subst e;exact I1.fpOk (Nat.le_refl _) (I1.hok.fresh (Nat.le_refl _))
theorem AM {l:Expr}{tl:TE}(hl:PE X l tl):PI X tg l (Dx X.K tl):=by
 intro ae s σ H R I h;refine bq (hl ae s σ H _ I h) λv s1 hq_=>?_
 obtain⟨x,H1,I1,r1,q1⟩:=hq_
 obtain⟨a,e,⟨xs,hq⟩,q⟩:=q1
 subst e;cases r1
 obtain⟨its,rv,p,hz⟩:=I1.tuple hq
 refine wpAny_pyIter_tuple (show s1.heap.IsTuple a its.toArray from p) ?_
 refine⟨s1.heap.objs.size,[s1.heap.objs.size],_,_,H1,rfl,I1.kept (t':=s1.toks) λb o e=>Heap.get?_push_of_some _ e,rB a _,⟨_,Heap.get?_push_size _ rfl,rfl,rfl⟩,λb hb=>?_,q⟩
 have e:b=s1.heap.objs.size:=by simpa using hb
 subst e;exact I1.fpOk (Nat.le_refl _) (I1.hok.fresh (Nat.le_refl _))
theorem oV {ae:List (Addr×Obj)}{σ:St}{H:Hp}{s:Shared}{R:It->Hp->Prop}{E:Value->Shared->Prop}{lo hi:Int}{t u v:Tok}{tk:Nat}(I:Inv X ae σ H s)(h1: -(2^62)<=lo)(h2:lo<2^62)(h3: -(2^62)<=hi)(h4:hi<2^62)
 (q:R (Bw lo (hi-lo).toNat) H):wpAny (model X.prog X.w) X.A (pyIter (.ref s.heap.objs.size)) (DO X ae σ tg R) E {s with heap:=s.heap.push {cls:=.type "range",data:=.fields #[.int lo t,.int hi u,.int 1 v]},toks:=tk}:=by
 refine wpAny_pyIter_range (IsRange.new ..) (small_one h1 h2 h3 h4) ?_
 have I1:Inv X ae σ H {s with heap:=s.heap.push {cls:=.type "range",data:=.fields #[.int lo t,.int hi u,.int 1 v]},toks:=tk}:=I.kept λb o e=>Heap.get?_push_of_some _ e
 refine⟨(s.heap.push {cls:=.type "range",data:=.fields #[.int lo t,.int hi u,.int 1 v]}).objs.size,[(s.heap.push {cls:=.type "range",data:=.fields #[.int lo t,.int hi u,.int 1 v]}).objs.size],_,_,H,rfl,
  I1.kept (t':=tk) λb o e=>Heap.get?_push_of_some _ e,rQ _ lo (hi-lo).toNat,?_,λb hb=>?_,q⟩
 ·have e1:lo+((0:Nat):Int)*1=lo:=by simp
  have e2:(((hi-lo).toNat:Nat):Int) - ((0:Nat):Int)=Builtin.Range.rangeSize lo hi 1:=by rw[rangeSize_one];split<;>omega
  show IsRangeIter _ _ (lo+((0:Nat):Int)*1) ((((hi-lo).toNat:Nat):Int) - ((0:Nat):Int)) 1;rw[e1,e2];exact Heap.get?_push_size _ rfl
 ·have e:b=(s.heap.push {cls:=.type "range",data:=.fields #[.int lo t,.int hi u,.int 1 v]}).objs.size:=by simpa using hb
  subst e;exact I1.fpOk (Nat.le_refl _) (I1.hok.fresh (Nat.le_refl _))
def BE(ta:TA):TI:=λσ H R=>ta σ H λvs H1=> ∃j:Int,vs=[.int j]/\ -(2^62)<=j/\j<2^62/\R (Bw 0 j.toNat) H1
def Cm(ta:TA):TI:=λσ H R=>ta σ H λvs H1=> ∃i j:Int,vs=[.int i,.int j]/\(-(2^62)<=i/\i<2^62/\ -(2^62)<=j/\j<2^62)/\R (Bw i (j-i).toNat) H1
theorem uV {a:Expr}{ta:TA}{p pos:Pos}(hg:Gl X "range")(hm:X.mg "range"=none)(ha:PA X [a] ta)(hs:starEach [a] X.env=[(false,eval a X.env)]:=by rfl):PI X tg (.Call (.Name "range" p) [a] [] pos) (BE ta):=by
 intro ae s σ H R I h;refine Call_ (jU I hg hm boot_range (PyProof.Rows.callWith_type1 (bq (ha pos ae s σ H _ I h) λus s1 ⟨vs,H1,I1,r1,q1⟩=>?_) hs rfl))
 obtain⟨j,e,q1,q2,q⟩:=q1
 subst e;cases r1 with
 |cons r rr=>
  cases rr
  obtain⟨t,rfl⟩:=r
  exact call_range_1 (oV I1 (by omega) (by omega) q1 q2 (by simpa using q))
theorem uP {a b:Expr}{ta:TA}{p pos:Pos}(hg:Gl X "range")(hm:X.mg "range"=none)(ha:PA X [a,b] ta)(hs:starEach [a,b] X.env=[(false,eval a X.env),(false,eval b X.env)]:=by rfl)(hs2:starEach [b] X.env=[(false,eval b X.env)]:=by rfl):
 PI X tg (.Call (.Name "range" p) [a,b] [] pos) (Cm ta):=by
 intro ae s σ H R I h;refine Call_ (jU I hg hm boot_range (PyProof.Rows.callWith_type1 (bq (ha pos ae s σ H _ I h) λus s1 ⟨vs,H1,I1,r1,q1⟩=>?_) (by rw[hs,hs2]) (by rw[hs2];rfl)))
 obtain⟨i,j,e,⟨q1,q2,q3,q4⟩,q⟩:=q1
 subst e;cases r1 with
 |cons r rr=>
  cases rr with
  |cons r' rr=>
   cases rr
   obtain⟨t,rfl⟩:=r
   obtain⟨t',rfl⟩:=r'
   exact call_range_2 (oV I1 q1 q2 q3 q4 q)
def Dd(wi:TI)(g:TG)(tb:TS):TS:=λD σ H=>wi σ H λJ H1=> ∃W:Nat->Nat->St->Hp->Prop,(∃m,W 0 m σ H1)/\ ∀i m σ H,W i m σ H->
 (J.stop i H/\D.nx σ H)\/(J.go i H/\ ∃N:St->Hp->Prop,(∀σ' H',N σ' H'-> ∃m',m'<m/\W (i+1) m' σ' H')/\ ∀x H',J.yld i H x H'->g x σ H' λσ2 H2=>tb {D with nx:=N,ct:=N,bk:=D.nx} σ2 H2)
def i0(fp:List Addr)(h:Heap):List (Addr×Obj):=fp.filterMap λb=>(h.get? b).map λo=>(b,o)
theorem cQ {fp:List Addr}{h:Heap}{b:Addr}{o:Obj}(hb:b∈fp)(e:h.get? b=some o):(b,o)∈i0 fp h:=List.mem_filterMap.mpr ⟨b,hb,by rw[e];rfl⟩
theorem uY {fp:List Addr}{h:Heap}{p:Addr×Obj}(hp:p∈i0 fp h):p.1∈fp/\h.get? p.1=some p.2:=by
 obtain⟨b,hb,e⟩:=List.mem_filterMap.mp hp
 cases q:h.get? b with
 |none=>rw[q] at e;cases e
 |some o=>
  rw[q] at e;have e':(b,o)=p:=Option.some.inj e
  subst e';exact⟨hb,q⟩
theorem Inv.pinned {ae:List (Addr×Obj)}{σ:St}{H:Hp}{s:Shared}{fp:List Addr}(I:Inv X ae σ H s)(hf: ∀b∈fp,gA X ae H b)(ho: ∀b∈fp,∃o,s.heap.get? b=some o/\ ∀v,o.data≠ .cell v):Inv X (ae++i0 fp s.heap) σ H s:=
 I.pins_of λp hp=>(List.mem_append.mp hp).elim (λz=>I.pin p (List.mem_append_right _ z)) λz=>by
  obtain⟨hb,e⟩:=uY z
  obtain⟨f0,f1,f2,_⟩:=hf p.1 hb
  obtain⟨o,e',d⟩:=ho p.1 hb
  rw[e] at e';cases e';exact⟨e,f0,f1,f2,d⟩
theorem Inv.unpinned {ae pl:List (Addr×Obj)}{σ:St}{H:Hp}{s:Shared}(I:Inv X (ae++pl) σ H s):Inv X ae σ H s:=I.pins_of λp hp=>I.pin p (List.mem_append_right _ (List.mem_append_left _ hp))
theorem zA {iter:Expr}{body:List Stmt}{wi:TI}{g:TG}{tb:TS}{pos:Pos}(hp:PassesOwn (model X.prog X.w) X.A X.env X.xe)(hc:X.calm=true)(hi:PI X tg iter wi)(hg:PG X tg g)(hb:PSs X body tb)
 (hs: ∀x,foldedSetIterable iter X.env x=pure x:=by intro _;rfl):PS X (.For tg iter body [] pos) (Dd wi g tb):=by
 intro ae s σ H D I h;refine wpAny_For (bq (hi ae s σ H _ I h) λv s1 h1=>bq h1 λitv s2 h2=>?_) hs
 obtain⟨it,fp,tn,J,H2,e,I2,T,st2,f2,W,⟨m0,w0⟩,turn⟩:=h2
 subst e;have stat: ∀ {H':Hp},(∀b∈fp,H' b=none)-> ∀b∈fp,gA X ae H' b:=λhn b hb=>⟨hn b hb,(f2 b hb).2⟩
 refine codeAny_forLoop_any (λn s'=> ∃i σ' H',Inv X ae σ' H' s'/\tn i s'.heap/\(∀b∈fp,H' b=none)/\W i n σ' H') ?_ m0 ⟨0,σ,H2,I2,st2,λb hb=>(f2 b hb).1,w0⟩
 rintro n s3 ⟨i,σ3,H3,I3,st3,fr3,w3⟩
 rcases turn i n σ3 H3 w3 with⟨stop,qn⟩|⟨go,N,hN,step⟩
 ·refine wpAny_passesOwn hp (bq (T.done X rfl rfl rfl hc i ae s3 σ3 H3 X.xe I3 (stat fr3) st3 stop) λr s4 hq_=>?_)
  obtain⟨hr,I4⟩:=hq_
  subst hr;exact wpAny_execs_nil ⟨σ3,H3,I4,qn⟩
 ·refine wpAny_passesOwn hp (bq (T.item X rfl rfl rfl hc i ae s3 σ3 H3 X.xe I3 (stat fr3) st3 go) λr s4 hq_=>?_)
  obtain⟨u,hr,h4⟩:=hq_
  subst hr;refine wpAny_passesOwn hp (bq h4 λ_ s5 hq_=>?_)
  obtain⟨x,H5,I5,r5,y5,st5,fr5⟩:=hq_
  have I5':=I5.pinned (stat fr5) (T.obj _ _ st5)
  refine wpAny_passesOwn hp (bq (hg _ s5 σ3 H5 x u _ I5' r5 (step x H5 y5)) λ_ s6 hq_=>?_)
  obtain⟨σ6,H6,I6,q6⟩:=hq_
  refine wpAny_passesOwn hp (bq (hb _ s6 σ6 H6 _ I6 q6) λf s7 q7=>?_)
  have again: ∀ {σ7:St} {H7:Hp},Inv X (ae++i0 fp s5.heap) σ7 H7 s7->N σ7 H7-> ∃m,m<n/\ ∃i σ' H',Inv X ae σ' H' s7/\tn i s7.heap/\(∀b∈fp,H' b=none)/\W i m σ' H':=λ{σ7 H7} I7 n7=>by
   obtain⟨m',hm,w7⟩:=hN σ7 H7 n7
   refine⟨m',hm,i+1,σ7,H7,I7.unpinned,T.keep _ _ _ st5 λb hb o e=>(I7.pin (b,o) (List.mem_append_right _ (List.mem_append_right _ (cQ hb e)))).1,λb hb=>?_,w7⟩
   obtain⟨o,e,d⟩:=T.obj _ _ st5 b hb
   exact(I7.pin (b,o) (List.mem_append_right _ (List.mem_append_right _ (cQ hb e)))).2.1
  cases f with
  |next=>obtain⟨σ7,H7,I7,n7⟩:=q7;exact again I7 n7
  |cont=>obtain⟨σ7,H7,I7,n7⟩:=q7;exact again I7 n7
  |brk=>obtain⟨σ7,H7,I7,q7⟩:=q7;exact⟨σ7,H7,I7.unpinned,q7⟩
  |ret v=>obtain⟨x7,σ7,H7,I7,r7,q7⟩:=q7;exact⟨x7,σ7,H7,I7.unpinned,r7,q7⟩
end
abbrev R2:=V->V->Hp->VK->Prop
def jB(X:Cx)(f:Value->Value->Sem Value)(r:R2):Prop:=
 ∀(ae:List (Addr×Obj)) (s:Shared) (σ:St) (H:Hp) (x y:V) (v u:Value) (Q:VK),Inv X ae σ H s->RelV x v->RelV y u->r x y H Q->
  wpAny (model X.prog X.w) X.A (f v u) (EP X ae σ Q) X.xe s
def Dy(X:Cx)(f:Value->Sem Value)(r:V->Hp->VK->Prop):Prop:=
 ∀(ae:List (Addr×Obj)) (s:Shared) (σ:St) (H:Hp) (x:V) (v:Value) (Q:VK),Inv X ae σ H s->RelV x v->r x H Q->
  wpAny (model X.prog X.w) X.A (f v) (EP X ae σ Q) X.xe s
def eB(X:Cx)(f:Value)(r:List V->Hp->VK->Prop):Prop:=
 ∀(ae:List (Addr×Obj)) (s:Shared) (σ:St) (H:Hp) (xs:List V) (us:List Value) (Q:VK),Inv X ae σ H s->Vals xs us->r xs H Q->
  wpAny (model X.prog X.w) X.A (call f us) (EP X ae σ Q) X.xe s
def Dr(X:Cx)(r:V->Hp->(Bool->Hp->Prop)->Prop):Prop:=
 ∀(ae:List (Addr×Obj)) (s:Shared) (σ:St) (H:Hp) (x:V) (v:Value) (Q:Bool->Hp->Prop),Inv X ae σ H s->RelV x v->r x H Q->
  wpAny (model X.prog X.w) X.A (truthy v) (TP X ae σ Q) X.xe s
def Bb(r:R2)(ta tb:TE):TE:=λσ H Q=>ta σ H λx H1=>tb σ H1 λy H2=>r x y H2 Q
def D6(r:V->Hp->VK->Prop)(ta:TE):TE:=λσ H Q=>ta σ H λx H1=>r x H1 Q
def rI(C:Int->Int->Prop)(g:Int->Int->V):R2:=λx y H Q=> ∃i j,x=.int i/\y=.int j/\C i j/\Q (g i j) H
def xX(g:Int->Int->V):R2:=λx y H Q=> ∃i j,x=.int i/\y=.int j/\Q (g i j) H
def rU(g:Int->V):V->Hp->VK->Prop:=λx H Q=> ∃i,x=.int i/\Q (g i) H
section
variable {X:Cx}{a b c:Expr}{ta tb tc:TE}{pos:Pos}
theorem Aq(ha:PE X a ta)(hb:PE X b tb){ae:List (Addr×Obj)}{s:Shared}{σ:St}{H:Hp}{R:V->V->Hp->Prop}(I:Inv X ae σ H s)
 (h:ta σ H λx H1=>tb σ H1 λy H2=>R x y H2) {Q:Value->Shared->Prop} {f:Value->Value->Sem Value}
 (hf: ∀v u s2 x y H2,Inv X ae σ H2 s2->RelV x v->RelV y u->R x y H2->wpAny (model X.prog X.w) X.A (f v u) Q X.xe s2):
 wpAny (model X.prog X.w) X.A (eval a X.env) (λv s₁=>wpAny (model X.prog X.w) X.A (eval b X.env) (λu s₂=>wpAny (model X.prog X.w) X.A (f v u) Q X.xe s₂) X.xe s₁) X.xe s:=by
 refine bq (ha ae s σ H _ I h) λv s1 hq_=>?_
 obtain⟨x,H1,I1,r1,q1⟩:=hq_
 refine bq (hb ae s1 σ H1 _ I1 q1) λu s2 hq_=>?_
 obtain⟨y,H2,I2,r2,q2⟩:=hq_
 exact hf v u s2 x y H2 I2 r1 r2 q2
theorem y0 {op:Operator}{r:R2}(ho:jB X (binaryOp op) r)(ha:PE X a ta)(hb:PE X b tb):PE X (.BinOp a op b pos) (Bb r ta tb):=by
 intro ae s σ H Q I h;exact wpAny_BinOp (Aq ha hb I h λv u s2 x y H2 I2 rx ry q=>ho ae s2 σ H2 x y v u Q I2 rx ry q)
theorem BW {op:UnaryOp}{r:V->Hp->VK->Prop}(ho:Dy X (unaryOp op) r)(ha:PE X a ta):PE X (.UnaryOp op a pos) (D6 r ta):=by
 intro ae s σ H Q I h;exact UnaryOp_ (bq (ha ae s σ H _ I h) λv s1 ⟨x,H1,I1,r1,q1⟩=>ho ae s1 σ H1 x v Q I1 r1 q1)
theorem CA {f:Value->Value->Sem Value}{C:Int->Int->Prop}{g:Int->Int->Int}
 (rule: ∀(i j:Int) (t u:Tok) (s:Shared) (Q:Value->Shared->Prop) (E:Value->Shared->Prop),C i j->Q (.int (g i j) s.toks) {s with toks:=s.toks+1}->wpAny (model X.prog X.w) X.A (f (.int i t) (.int j u)) Q E s):
 jB X f (rI C λi j=>.int (g i j)):=by
 intro ae s σ H x y v u Q I rx ry h;obtain⟨i,j,rfl,rfl,hc,q⟩:=h
 obtain⟨t,rfl⟩:=rx
 obtain⟨t',rfl⟩:=ry
 exact rule i j t t' s _ _ hc ⟨.int (g i j),H,I.tok _,⟨_,rfl⟩,q⟩
theorem Bo {f:Value->Value->Sem Value}{g:Int->Int->Int}
 (rule: ∀(i j:Int) (t u:Tok) (s:Shared) (Q:Value->Shared->Prop) (E:Value->Shared->Prop),Q (.int (g i j) s.toks) {s with toks:=s.toks+1}->wpAny (model X.prog X.w) X.A (f (.int i t) (.int j u)) Q E s):
 jB X f (xX λi j=>.int (g i j)):=by
 intro ae s σ H x y v u Q I rx ry h;obtain⟨i,j,rfl,rfl,q⟩:=h
 obtain⟨t,rfl⟩:=rx
 obtain⟨t',rfl⟩:=ry
 exact rule i j t t' s _ _ ⟨.int (g i j),H,I.tok _,⟨_,rfl⟩,q⟩
theorem A6 {f:Value->Value->Sem Value}{g:Int->Int->Bool}
 (rule: ∀(i j:Int) (t u:Tok) (s:Shared) (Q:Value->Shared->Prop) (E:Value->Shared->Prop),Q (.bool (g i j)) s->wpAny (model X.prog X.w) X.A (f (.int i t) (.int j u)) Q E s):
 jB X f (xX λi j=>.bl (g i j)):=by
 intro ae s σ H x y v u Q I rx ry h;obtain⟨i,j,rfl,rfl,q⟩:=h
 obtain⟨t,rfl⟩:=rx
 obtain⟨t',rfl⟩:=ry
 exact rule i j t t' s _ _ ⟨.bl (g i j),H,I,rfl,q⟩
def Ce(i j:Int):Prop:=0<=j/\j<=1000000/\i.natAbs<2^64
theorem u7:jB X (binaryOp .Add) (xX λi j=>.int (i+j)):=Bo λ_ _ _ _ _ _ _ q=>add_int q
theorem zJ:jB X (binaryOp .Sub) (xX λi j=>.int (i-j)):=Bo λ_ _ _ _ _ _ _ q=>sub_int q
theorem zP:jB X (binaryOp .Mod) (rI (λ_ j=>0<j) λi j=>.int (i % j)):=CA λi j _ _ _ _ _ hc q=>by
 have h1:(0:Int)<j:=hc
 exact mod_int' (by omega) (by rw[Int.fmod_eq_emod_of_nonneg i (by omega)];exact q)
theorem z9:jB X (binaryOp .Pow) (rI Ce λi j=>.int (i^j.toNat)):=CA λ_ _ _ _ _ _ _ hc q=>pow_int_small hc.1 hc.2.1 hc.2.2 q
theorem DY {f:Value->Sem Value}{g:Int->Int}
 (rule: ∀(i:Int) (t:Tok) (s:Shared) (Q:Value->Shared->Prop) (E:Value->Shared->Prop),Q (.int (g i) s.toks) {s with toks:=s.toks+1}->wpAny (model X.prog X.w) X.A (f (.int i t)) Q E s):
 Dy X f (rU λi=>.int (g i)):=by
 intro ae s σ H x v Q I rx h;obtain⟨i,rfl,q⟩:=h
 obtain⟨t,rfl⟩:=rx
 exact rule i t s _ _ ⟨.int (g i),H,I.tok _,⟨_,rfl⟩,q⟩
theorem Ay:Dy X (unaryOp .USub) (rU λi=>.int (-i)):=DY λ_ _ _ _ _ q=>neg_int q
end
section
variable {X:Cx}{a b c:Expr}{ta tb tc:TE}{pos:Pos}
theorem pW:jB X (compareOp .Lt) (xX λi j=>.bl (decide (i<j))):=A6 λ_ _ _ _ _ _ _ q=>lt_int q
theorem zt:jB X (compareOp .Gt) (xX λi j=>.bl (decide (j<i))):=A6 λ_ _ _ _ _ _ _ q=>gt_int q
theorem Bl:jB X (compareOp .GtE) (xX λi j=>.bl (decide (j<=i))):=A6 λ_ _ _ _ _ _ _ q=>ge_int q
theorem bN(b:Expr){op:CmpOp}(h:op≠ .In:=by decide)(h2:op≠ .NotIn:=by decide):behindInMarks op b=false:=by
 have e1:(op==CmpOp.In)=false:=by cases op<;>first|rfl|exact absurd rfl h
 have e2:(op==CmpOp.NotIn)=false:=by cases op<;>first|rfl|exact absurd rfl h2
 cases b<;>simp[behindInMarks,e1,e2]
theorem yi {op:CmpOp}{r:R2}(ho:jB X (compareOp op) r)(ha:PE X a ta)(hb:PE X b tb)(hm:behindInMarks op b=false):PE X (.Compare a [op] [b] pos) (Bb r ta tb):=by
 intro ae s σ H Q I h;exact wpAny_Compare1 (Aq ha hb I h λv u s2 x y H2 I2 rx ry q=>ho ae s2 σ H2 x y v u Q I2 rx ry q) hm
def Cn(t:TE):TT:=λσ H Q=>t σ H λx H'=> ∃k,x=.bl k/\Q k H'
theorem yF {op:CmpOp}{r:R2}(ho:jB X (compareOp op) r)(ha:PE X a ta)(hb:PE X b tb)(hm:behindInMarks op b=false):PT X (.Compare a [op] [b] pos) (Cn (Bb r ta tb)):=by
 intro ae s σ H Q I h;refine wpAny_isTrue_Compare1 (bq (ha ae s σ H _ I h) λv s1 ⟨x,H1,I1,r1,q1⟩=>bq (hb ae s1 σ H1 _ I1 q1) λu s2 ⟨y,H2,I2,r2,q2⟩=>
  bq (ho ae s2 σ H2 x y v u _ I2 r1 r2 q2) λc s3 ⟨z,H3,I3,r3,k,e,q3⟩=>?_) hm
 subst e;cases r3
 exact wpAny_truthy_bool ⟨H3,I3,q3⟩
def v9(r r':R2)(ta tb tc:TE):TE:=λσ H Q=>ta σ H λx H1=>tb σ H1 λy H2=>r x y H2 λz H3=> ∃k,z=.bl k/\
 (if k=true then tc σ H3 λw' H4=>r' y w' H4 Q else Q (.bl false) H3)
theorem vE {op op':CmpOp}{r r':R2}(ho:jB X (compareOp op) r)(ho':jB X (compareOp op') r')(ha:PE X a ta)(hb:PE X b tb)(hc:PE X c tc)
 (hm:lastMarks [op,op'] [b,c]=false:=by with_unfolding_all rfl):PE X (.Compare a [op,op'] [b,c] pos) (v9 r r' ta tb tc):=by
 intro ae s σ H Q I h;refine Compare_chain (bq (ha ae s σ H _ I h) λv s1 ⟨x,H1,I1,r1,q1⟩=>chain_link (bq (hb ae s1 σ H1 _ I1 q1) λu s2 ⟨y,H2,I2,r2,q2⟩=>
  bq (ho ae s2 σ H2 x y v u _ I2 r1 r2 q2) λd s3 ⟨z,H3,I3,r3,k,e,q3⟩=>?_)) hm
 subst e;cases r3
 refine wpAny_truthy_bool ?_
 cases k with
 |false=>exact ite_ff ⟨.bl false,H3,I3,rfl,q3⟩
 |true=>exact ite_tt (chain_last (bq (hc ae s3 σ H3 _ I3 q3) λw' s4 ⟨z',H4,I4,r4,q4⟩=>ho' ae s4 σ H4 y z' u w' Q I4 r2 r4 q4))
def Ac(K:W.Frag)(x:V)(H:Hp)(k:Bool):Prop:=
 match x with
 | .non=>k=false
 | .bl b=>k=b
 | .int i=>k=(i !=0)
 | .str y=>y.length<=sizeLine/\k=((y.length:Int) !=0)
 | .byt y=>y.size<=sizeLine/\k=((y.size:Int) !=0)
 | .ref p=>(∃xs,SqL K H p xs/\k= !xs.isEmpty)\/(∃xs,SqT K H p xs/\k= !xs.isEmpty)\/ ∃kvs,H p=some (.dK kvs)/\k= !kvs.isEmpty
 |_=>False
theorem rj {κ:Type}{kvs:List (κ×V)}{vs:List (κ×Value)}(r:KV kvs vs):(!vs.isEmpty)= !kvs.isEmpty:=by
 cases r<;>rfl
theorem kY {xs:List V}{its:List Value}(r:Vals xs its):(!its.toArray.isEmpty)= !xs.isEmpty:=by
 cases r<;>simp
theorem jb:(sizeLine:Nat)<2^63:=by rw[sizeLine_eq];decide
theorem AA:Dr X (λx H Q=> ∃k,Ac X.K x H k/\Q k H):=by
 intro ae s σ H x v Q I rx h;obtain⟨k,e,q⟩:=h
 have hl:=jb
 have hs:sizeLine=16777216:=sizeLine_eq
 cases x with
 |non=>
  cases rx
  have e':k=false:=e
  subst e';exact truthy_none ⟨H,I,q⟩
 |bl b=>
  cases rx
  have e':k=b:=e
  subst e';exact wpAny_truthy_bool ⟨H,I,q⟩
 |int i=>
  obtain⟨t,rfl⟩:=rx
  have e':k=(i !=0):=e
  subst e';exact PySem.P.truthy_int ⟨H,I,q⟩
 |str y=>
  obtain⟨t,rfl⟩:=rx
  obtain⟨hy,e'⟩:y.length<=sizeLine/\k=((y.length:Int) !=0):=e
  subst e';exact PySem.P.truthy_str (by omega) ⟨H,I.tok _,q⟩
 |byt y=>
  obtain⟨t,rfl⟩:=rx
  obtain⟨hy,e'⟩:y.size<=sizeLine/\k=((y.size:Int) !=0):=e
  subst e';exact W.truthy_bytes (by omega) ⟨H,I.tok _,q⟩
 |ref p=>
  cases rx
  have e':(∃xs,SqL X.K H p xs/\k= !xs.isEmpty)\/(∃xs,SqT X.K H p xs/\k= !xs.isEmpty)\/ ∃kvs,H p=some (.dK kvs)/\k= !kvs.isEmpty:=e
  rcases e' with⟨xs,hx,e'⟩|⟨xs,hx,e'⟩|⟨kvs,hx,e'⟩
  ·subst e'
   obtain⟨its,r,pl,hz⟩:=I.list hx
   have hlen:=r.length
   exact wpAny_truthy_list pl.isList (by simp only[List.size_toArray];omega) ⟨H,I.tok _,by rw[kY r];exact q⟩
  ·subst e'
   obtain⟨its,r,pl,hz⟩:=I.tuple hx
   have hlen:=r.length
   exact truthy_tuple pl (by simp only[List.size_toArray];omega) ⟨H,I.tok _,by rw[kY r];exact q⟩
  ·subst e'
   obtain⟨hz,hS,vs,r,m⟩:kvs.length<=sizeLine/\(p==sysModules)=false/\ ∃vs,KV kvs vs/\s.heap.DictOf (cz X.prog X.w) p vs:=I.hok p _ hx
   have hlen:kvs.length=vs.length:=Paired.length r
   exact wpAny_truthy_dict hS m (by omega) ⟨H,I.tok _,by rw[rj r];exact q⟩
 |_=>exact(show False from e).elim
theorem wT(ha:PE X a ta)(he: ∀whole,isTrue a X.env whole=(do let v <-whole;standAt a.pos;holding [v] (truthy v))):
 PT X a (λσ H Q=>ta σ H λx H'=> ∃k,Ac X.K x H' k/\Q k H'):=by
 intro ae s σ H Q I h;exact isTrue_plain (bq (ha ae s σ H _ I h) λv s1 ⟨x,H1,I1,r1,q1⟩=>AA ae s1 σ H1 x v Q I1 r1 q1) (he _)
theorem gS {x:V}{us:List Value}(r:Vals [x] us): ∃u,us=[u]/\RelV x u:=by
 cases r with
 |cons r1 r2=>cases r2;exact⟨_,rfl,r1⟩
theorem vY {x y:V}{us:List Value}(r:Vals [x,y] us): ∃u w',us=[u,w']/\RelV x u/\RelV y w':=by
 cases r with
 |cons r1 r2=>
  cases r2 with
  |cons r3 r4=>cases r4;exact⟨_,_,rfl,r1,r3⟩
theorem wB:eB X (.builtin "abs") (λxs H Q=> ∃i,xs=[.int i]/\Q (.int (if i<0 then -i else i)) H):=by
 intro ae s σ H xs us Q I r h;obtain⟨i,rfl,q⟩:=h
 obtain⟨u,rfl,t,rfl⟩:=gS r
 exact call_abs_int λu tk=>⟨.int (if i<0 then -i else i),H,I.tok _,⟨_,rfl⟩,q⟩
theorem iz(hc:X.calm=true):eB X (.builtin "max") (λxs H Q=> ∃i j,xs=[.int i,.int j]/\Q (.int (if j>i then j else i)) H):=by
 intro ae s σ H xs us Q I r h;obtain⟨i,j,rfl,q⟩:=h
 obtain⟨u,w',rfl,⟨t,rfl⟩,⟨t',rfl⟩⟩:=vY r
 refine max_two_ints (I.ok.hd hc) λh' tk k=>⟨_,H,I.kept k,?_,q⟩
 by_cases hj:j>i
 ·rw[if_pos hj,if_pos hj];exact⟨_,rfl⟩
 ·rw[if_neg hj,if_neg hj];exact⟨_,rfl⟩
theorem gC(hc:X.calm=true):eB X (.builtin "min") (λxs H Q=> ∃i j,xs=[.int i,.int j]/\Q (.int (if j<i then j else i)) H):=by
 intro ae s σ H xs us Q I r h;obtain⟨i,j,rfl,q⟩:=h
 obtain⟨u,w',rfl,⟨t,rfl⟩,⟨t',rfl⟩⟩:=vY r
 refine min_two_ints (I.ok.hd hc) λh' tk k=>⟨_,H,I.kept k,?_,q⟩
 by_cases hj:j<i
 ·rw[if_pos hj,if_pos hj];exact⟨_,rfl⟩
 ·rw[if_neg hj,if_neg hj];exact⟨_,rfl⟩
theorem jD:eB X (.type "int") (λxs H Q=>(∃i,xs=[.int i]/\Q (.int i) H)\/ ∃k,xs=[.bl k]/\Q (.int (if k then 1 else 0)) H):=by
 intro ae s σ H xs us Q I r h;rcases h with⟨i,rfl,q⟩|⟨k,rfl,q⟩
 ·obtain⟨u,rfl,t,rfl⟩:=gS r
  exact call_int_int ⟨.int i,H,I,⟨_,rfl⟩,q⟩
 ·obtain⟨u,rfl,r1⟩:=gS r
  cases r1
  exact call_int_bool ⟨.int (if k then 1 else 0),H,I.tok _,⟨_,rfl⟩,q⟩
end
theorem RelO.some_of {v:V}{o:Option Value}(r:RelO (some v) o): ∃u,o=some u/\RelV v u:=by
 cases o with
 |none=>exact(show False from r).elim
 |some u=>exact⟨u,rfl,r⟩
structure Room(k:Nat)(A:Around):Prop where
 hd:A.handled=none
 dp:A.depth+3*k+5<recursionLimit
 un:A.units+16*k+200<cLine
theorem Room.mono {j k:Nat}{A:Around}(r:Room k A)(h:j<=k):Room j A:=⟨r.hd,by have:=r.dp;omega,by have:=r.un;omega⟩
theorem Room.deeper {k:Nat}{A:Around}(r:Room (k+1) A)(env:Env):Room k (A.deeper env):=
 ⟨r.hd,by have:=r.dp;show A.depth+1+3*k+5<_;omega,by have:=r.un;show A.units+3+16*k+200<_;omega⟩
theorem Room.depth {k:Nat}{A:Around}(r:Room k A):A.depth<recursionLimit:=by have:=r.dp;omega
theorem Room.units {k:Nat}{A:Around}(r:Room k A):A.units+64<cLine:=by have:=r.un;omega
def Dp:TA:=λ_ H Q=>Q [] H
def B9(ta:TE)(tr:TA):TA:=λσ H Q=>ta σ H λx H1=>tr σ H1 λxs H2=>Q (x::xs) H2
section
variable {X:Cx}{e:Expr}{es:List Expr}{te:TE}{t:TA}{pos:Pos}
theorem gk:PA X [] Dp:=λ_ _ _ _ H Q I h=>Calls.spliced_nil ⟨[],H,I,.nil,h⟩
theorem cH(ha:PE X e te)(hr:PA X es t)(hs:starEach (e::es) X.env=(false,eval e X.env)::starEach es X.env:=by rfl):PA X (e::es) (B9 te t):=by
 intro pos ae s σ H Q I h;rw[hs];show wpAny _ _ (spliced ((false,eval e X.env)::backTo pos (starEach es X.env))) _ _ s;refine Calls.spliced_cons (bq (ha ae s σ H _ I h) λu s1 hq_=>?_)
 obtain⟨x,H1,I1,r1,q1⟩:=hq_
 exact bq (hr pos ae s1 σ H1 _ I1 q1) λus s2 ⟨xs,H2,I2,r2,q2⟩=>⟨x::xs,H2,I2,.cons r1 r2,q2⟩
def CP(t:TA):TE:=λσ H Q=>t σ H λxs H1=>xs.length<=sizeLine/\ ∀p,H1 p=none->Q (.ref p) (bd H1 p (.tup xs))
def CW(t:TA):TE:=λσ H Q=>t σ H λxs H1=>xs.length<=sizeLine/\ ∀p,H1 p=none->Q (.ref p) (bd H1 p (.lst xs))
theorem qY {x1}(h:PA X es t):PE X (.Tuple es x1 pos) (CP t):=by
 intro ae s σ H Q I hq;refine wpAny_Tuple_spliced (bq (h pos ae s σ H _ I hq) λus s1 ⟨xs,H1,I1,r,z,q⟩=>⟨by rw[<-r.length];exact z,?_⟩)
 have hf:H1 s1.heap.objs.size=none:=I1.hok.fresh (Nat.le_refl _)
 refine⟨.ref s1.heap.objs.size,bd H1 s1.heap.objs.size (.tup xs),I1.laid (t':=s1.toks) (λb u e=>Heap.get?_push_of_some _ e) (Nat.le_refl _) ?_,rfl,q _ hf⟩
 exact⟨z,us,r,⟨_,Heap.get?_push_size _ rfl,rfl,_,rfl⟩,_,Heap.get?_push_size _ rfl,rfl⟩
theorem Az(h:PA X es t):PE X (.List es pos) (CW t):=by
 intro ae s σ H Q I hq;refine wpAny_List_spliced (bq (h pos ae s σ H _ I hq) λus s1 ⟨xs,H1,I1,r,z,q⟩=>⟨by rw[<-r.length];exact z,?_⟩)
 have hf:H1 s1.heap.objs.size=none:=I1.hok.fresh (Nat.le_refl _)
 refine⟨.ref s1.heap.objs.size,bd H1 s1.heap.objs.size (.lst xs),I1.laid (t':=s1.toks) (λb u e=>Heap.get?_push_of_some _ e) (Nat.le_refl _) ?_,rfl,q _ hf⟩
 exact⟨z,us,0,r,Heap.get?_push_size _ rfl⟩
end
abbrev Sp:=List V->Hp->VK->XK->Prop
abbrev vz:=List Env->Hp->Shared->XK->Value->Shared->Prop
structure Env0(P:Program)(w:World)(K:W.Frag)(mg:Str->Option Value)(base:Heap)(A:Around)(outer:List Env)(s:Shared)(H:Hp):Prop where
 frames:A.frames=some outer
 mod:Mod K mg base
 bs: ∀b o,base.get? b=some o->s.heap.get? b=some o/\H b=none
 bsz:base.objs.size<=s.heap.objs.size
 funs:s.heap.FunFrames base outer
 frf: ∀b∈mC outer,H b=none
 hok:HOk P w H s.heap
 bare:AllBare s.gens
def CE(outer:List Env)(P:Program)(w:World)(H:Hp)(s:Shared)(Q:VK)(u:Value)(s':Shared):Prop:=
 ∃v H',s'.os=s.os/\AllBare s'.gens/\Un (mC outer) [] H H' s.heap s'.heap/\HOk P w H' s'.heap/\RelV v u/\Q v H'
def CR(CX:vz)(outer:List Env)(P:Program)(w:World)(H:Hp)(s:Shared)(Q:VK)(E:XK)(r:Result)(s':Shared):Prop:=
 match r with
 | .ok (.ret u)=>CE outer P w H s Q u s'
 | .ok _=>False
 | .error e=>CX outer H s E e s'
structure FnOk(P:Program)(w:World)(K:W.Frag)(mg:Str->Option Value)(base:Heap)(CX:vz)(k:Nat)(f:Addr)(fd:FuncData)(ps:List Str)(sp:Sp):Prop where
 len: ∀vs H Q E,sp vs H Q E->vs.length=ps.length
 run: ∀(A:Around) (outer:List Env) (s:Shared) (H:Hp) (args:Args) (us:List Value) (vs:List V) (Q:VK) (E:XK),Room k A->Env0 P w K mg base A outer s H->BindsTo s fd args (ps.zip us)->Vals vs us->sp vs H Q E->
  codeAny (model P w) A (.call (.ref f) args) (CR CX outer P w H s Q E) s
theorem FnOk.imp {P:Program}{w:World}{K:W.Frag}{mg:Str->Option Value}{base:Heap}{CX:vz}{k:Nat}{f:Addr}{fd:FuncData}{ps:List Str}{sp sp':Sp}(F:FnOk P w K mg base CX k f fd ps sp)
 (h: ∀vs H Q E,sp' vs H Q E->sp vs H Q E):FnOk P w K mg base CX k f fd ps sp':=
 ⟨λvs H Q E q=>F.len vs H Q E (h _ _ _ _ q),λA outer s H args us vs Q E hr he hb hv hs=>F.run A outer s H args us vs Q E hr he hb hv (h _ _ _ _ hs)⟩
section
variable {X:Cx}{ae:List (Addr×Obj)}{σ:St}{H:Hp}{s s':Shared}
theorem Inv.env0(I:Inv X ae σ H s):Env0 X.prog X.w X.K X.mg X.base X.A X.stack s H:=
 ⟨I.ok.frames,I.ok.mod,I.bs,Nat.le_trans I.ok.bsz I.sz,I.stack,I.stkFree,I.hok,I.bare⟩
theorem Inv.after {Q:VK}{u:Value}(I:Inv X ae σ H s)(h:CE X.stack X.prog X.w H s Q u s'):EP X ae σ Q u s':=by
 obtain⟨v,H',os,bare,un,hok,r,q⟩:=h
 obtain⟨hh,g,d,t,os'⟩:=s'
 obtain rfl:os'=s.os:=os
 exact⟨v,H',I.call (h':=hh) (g':=g) (d':=d) (t':=t) (ch:=[]) un hok bare (λb z=>absurd z (by simp)),r,q⟩
end
def BV(sp:Sp)(dvs:List V)(E:XK)(t:TA):TE:=λσ H Q=>t σ H λvs H1=>sp (vs++dvs) H1 Q E
def Binds(K:W.Frag)(fd:FuncData)(ps:List Str)(ds:List Value):Prop:=
 ∀(s:Shared) (us:List Value),K.In s.heap->(us++ds).length=ps.length->BindsTo s fd ⟨us,[]⟩ (ps.zip (us++ds))
theorem Binds.all {K:W.Frag}{fd:FuncData}{ps:List Str}(h: ∀us:List Value,us.length=ps.length->bindArgs fd ⟨us,[]⟩=pure (ps.zip us)):Binds K fd ps []:=λs us _ hl=>by
 rw[List.append_nil] at hl⊢;exact .of_eq (h us hl)
def qF(CX:vz)(X:Cx)(E:XK):Prop:= ∀(ae:List (Addr×Obj)) (σ:St) (H:Hp) (s:Shared) (e:Value) (s':Shared),Inv X ae σ H s->CX X.stack H s E e s'->X.xe e s'
section
variable {X:Cx}{CX:vz}{k:Nat}{f C:Addr}{fd:FuncData}{ps:List Str}{sp:Sp}{dvs:List V}{ds:List Value}{E:XK}{x m:Str}{p pos apos:Pos}{e o:Expr}{es:List Expr}{ta:TE}{t:TA}
theorem A5 {ae:List (Addr×Obj)}{σ:St}{H:Hp}{s:Shared}{Q:VK}{us:List Value}{vs:List V}(F:FnOk X.prog X.w X.K X.mg X.base CX k f fd ps sp)(hr:Room k X.A)(hb:Binds X.K fd ps ds)(hd:Vals dvs ds)(hx:qF CX X E)
 (I:Inv X ae σ H s) (r:Vals vs us) (h:sp (vs++dvs) H Q E):wpAny (model X.prog X.w) X.A (call (.ref f) us) (EP X ae σ Q) X.xe s:=by
 have r2:Vals (vs++dvs) (us++ds):=r.append hd
 have hl:(us++ds).length=ps.length:=by rw[<-r2.length];exact F.len _ _ _ _ h
 refine wpAny_call (codeAny_mono (F.run X.A X.stack s H ⟨us,[]⟩ (us++ds) (vs++dvs) Q E hr I.env0 (hb s us I.kIn hl) r2 h) λr s' hq=>?_)
 cases r with
 |error e=>exact hx ae σ H s e s' I hq
 |ok fl=>
  cases fl with
  |ret u=>exact I.after hq
  |next=>exact False.elim hq
  |brk=>exact False.elim hq
  |cont=>exact False.elim hq
theorem oo(F:FnOk X.prog X.w X.K X.mg X.base CX k f fd ps sp)(hr:Room k X.A)(hg:Gl X x)(hm:X.mg x=some (.ref f))(hk:W.keepIn X.K (.ref f)=true)(hb:Binds X.K fd ps ds)(hd:Vals dvs ds)(hx:qF CX X E)
 (ha:PA X (e::es) t) (hdb:(x==("__debug__":Str))=false:=by decide) (he:starEach (e::es) X.env=(false,eval e X.env)::starEach es X.env:=by rfl) (hpl:(backTo pos (starEach es X.env)).any (·.1)=false:=by rfl):
 PE X (.Call (.Name x p) (e::es) [] pos) (BV sp dvs E t):=by
 intro ae s σ H Q I h;refine wpAny_Call_Name_kw (yS I hg hm ?_ hdb)
 refine W.callWith_K (h₀:=X.base) I.ok.mod.kin hk (bq (ha pos ae s σ H _ I h) λus s1 ⟨vs,H1,I1,r,q⟩=>⟨I1.kIn,?_⟩) he hpl
 exact A5 F hr hb hd hx I1 r q
end
structure FnScope(N P:List Str)(sc:Scope):Prop where
 kind:sc.kind=.function
 co:sc.isCoroutine=false
 gen:sc.isGenerator=false
 nd:N.Nodup
 pre:N.take P.length=P
 par: ∀x∈P,sc.names.lookup x=some .local\/sc.names.lookup x=some .cell
 nofree: ∀y∈sc.names,y.2≠ .free
theorem mN {kindOf:Str->Option NameKind}{x:Str}: ∀ {binds:List (Str×Value)} {m:Str->Option Value},(∀v,(x,v)∉binds)->bindL kindOf binds m x=m x
 | [],_,_=>rfl
 |(n,v)::r,m,h=>by
  unfold bindL;rw[mN λw hw=>h w (List.mem_cons_of_mem _ hw)]
  split
  ·have:x≠n:=by rintro rfl;exact h v List.mem_cons_self
   simp[this]
  ·rfl
theorem ny {kindOf:Str->Option NameKind}{x:Str}: ∀ {binds:List (Str×Value)} {m:Str->Option Value},(∀v,(x,v)∉binds)->bindC kindOf binds m x=m x
 | [],_,_=>rfl
 |(n,v)::r,m,h=>by
  unfold bindC;rw[ny λw hw=>h w (List.mem_cons_of_mem _ hw)]
  split
  ·rfl
  ·have:x≠n:=by rintro rfl;exact h v List.mem_cons_self
   simp[this]
theorem m5 {kindOf:Str->Option NameKind}{x:Str}{v:Value}: ∀ {P:List Str} {vs:List Value} {i:Nat} {m:Str->Option Value},P.Nodup->P[i]? =some x->vs[i]? =some v->kindOf x=some .local->
 bindL kindOf (P.zip vs) m x=some v
 | [],_,_,_,_,h,_,_=>by simp at h
 |_::_,[],_,_,_,_,h,_=>by simp at h
 |p::P,w::vs,0,m,nd,h1,h2,hk=>by
  simp at h1 h2;subst h1;subst h2;show bindL kindOf ((p,w)::P.zip vs) m p=_;unfold bindL;rw[mN λv hv=>(List.nodup_cons.mp nd).1 (List.of_mem_zip hv).1,if_pos hk]
  simp
 |p::P,w::vs,i+1,m,nd,h1,h2,hk=>by
  show bindL kindOf ((p,w)::P.zip vs) m x=_;unfold bindL;exact m5 (i:=i) (List.nodup_cons.mp nd).2 (by simpa using h1) (by simpa using h2) hk
theorem nr {kindOf:Str->Option NameKind}{x:Str}{v:Value}: ∀ {P:List Str} {vs:List Value} {i:Nat} {m:Str->Option Value},P.Nodup->P[i]? =some x->vs[i]? =some v->kindOf x≠some .local->
 bindC kindOf (P.zip vs) m x=some v
 | [],_,_,_,_,h,_,_=>by simp at h
 |_::_,[],_,_,_,_,h,_=>by simp at h
 |p::P,w::vs,0,m,nd,h1,h2,hk=>by
  simp at h1 h2;subst h1;subst h2;show bindC kindOf ((p,w)::P.zip vs) m p=_;unfold bindC;rw[ny λv hv=>(List.nodup_cons.mp nd).1 (List.of_mem_zip hv).1,if_neg hk]
  simp
 |p::P,w::vs,i+1,m,nd,h1,h2,hk=>by
  show bindC kindOf ((p,w)::P.zip vs) m x=_;unfold bindC;exact nr (i:=i) (List.nodup_cons.mp nd).2 (by simpa using h1) (by simpa using h2) hk
def start(N:List Str)(vs:List V):St:=vs.map some++List.replicate (N.length-vs.length) none
def mi(CX:vz)(P:Program)(w:World)(K:W.Frag)(mg:Str->Option Value)(base:Heap)(N:List Str)(qual:Str)(scope:Scope)(f:Addr)(cd:Value)(A:Around)(outer:List Env)(s:Shared)(H:Hp)(E:XK):Cx where
 prog:=P
 w:=w
 K:=K
 mg:=mg
 base:=base
 A:=A.deeper (envOfC qual scope s.heap.objs.size f cd)
 N:=N
 s₀:=s
 H₀:=H
 env:=envOfC qual scope s.heap.objs.size f cd
 outer:=outer
 stack:=envOfC qual scope s.heap.objs.size f cd::outer
 ex:=[]
 calm:=true
 fn:=λ_=>true
 pn:=[]
 xe:=λe s'=>wpAny (model P w) (A.deeper (envOfC qual scope s.heap.objs.size f cd)) (leaving (envOfC qual scope s.heap.objs.size f cd) e) (λ_ s''=>CX outer H s E e s'') (λe' s''=>CX outer H s E e' s'') s'
theorem pJ {sc:Scope}{n:Nat}{x:Str}(h:sc.names.lookup x=some .cell): ∃c,(cellsFrom n sc.names []).lookup x=some c:=by
 have q:=W.cellsFrom_some sc.names n [] (.inl h)
 exact Option.isSome_iff_exists.mp q
theorem u4 {CX:vz}{P:Program}{w:World}{K:W.Frag}{mg:Str->Option Value}{base:Heap}{N ps:List Str}{qual:Str}{scope:Scope}{f:Addr}{cd:Value}{A:Around}{outer:List Env}{s s1:Shared}{H:Hp}{E:XK}{us:List Value}{vs:List V}
 (S:FnScope N ps scope) (hd:A.handled=none) (e0:Env0 P w K mg base A outer s H) (hl:vs.length=ps.length) (r:Vals vs us)
 (x:InCallC s s.heap.objs.size (bindL (envOfC qual scope s.heap.objs.size f cd).kindOf (ps.zip us) λ_=>none) (cellsFrom (s.heap.objs.size+1) scope.names []) (bindC (envOfC qual scope s.heap.objs.size f cd).kindOf (ps.zip us) λ_=>none) s1):
 Inv (mi CX P w K mg base N qual scope f cd A outer s H E) [] (start N vs) H s1:=by
 have hpl:ps.length<=N.length:=by have:=congrArg List.length S.pre;rw[List.length_take] at this;omega
 obtain⟨h1,tk,rfl,hk⟩:=x.done
 have noA: ∀b:Addr,b∉(mi CX P w K mg base N qual scope f cd A outer s H E).ex:=λb z=>absurd (show b∈([]:List Addr) from z) (by simp)
 refine⟨⟨e0.mod,S.kind,rfl,rfl,Nat.le_refl _,λy z c h1 h2=>?_,λy hy=>?_,λy c _ h=>?_,λ_=>hd,Around.frames_deeper e0.frames,.inr ⟨rfl,rfl⟩,λb z=>absurd z (noA b),e0.bs,e0.bsz,λb _ _=>noA b,λb z=>absurd z (noA b),e0.funs,e0.frf⟩,
  rfl,e0.bare,Un.kept hk,⟨_,x.toInCall.ns,λi y v h1 h2 h3=>?_⟩,λy c h=>⟨_,x.cell y c h⟩,e0.hok.fresh (Nat.le_refl _),λy c h=>?_,λp hp=>absurd (show p∈([]:List (Addr×Obj)) from hp) (by simp),e0.hok.kept hk,?_⟩
 ·exact name_of_addr x.apart (PySem.mem_of_lookup h1) (PySem.mem_of_lookup h2)
 ·have hy:scope.names.lookup y=some .cell\/scope.names.lookup y=some .free:=hy
  rcases hy with hy|hy
  ·exact pJ hy
  ·exact absurd rfl (S.nofree _ (PySem.mem_of_lookup hy))
 ·exact Nat.le_of_lt (x.above y c (PySem.mem_of_lookup h))
 ·have hi:i<vs.length:=by
   unfold start at h2
   by_cases hi:i<vs.length
   ·exact hi
   ·rw[List.getElem?_append_right (by simpa using hi)] at h2
    rw[List.getElem?_replicate] at h2;split at h2<;>cases h2
  have ha:vs[i]? =some v:=by
   unfold start at h2;rw[List.getElem?_append_left (by simpa using hi),List.getElem?_map] at h2
   cases e:vs[i]? with
   |none=>rw[e] at h2;cases h2
   |some a=>rw[e] at h2;cases h2;rfl
  obtain⟨u,hu,rv⟩:=r.get ha
  have hp:ps[i]? =some y:=by
   rw[<-S.pre,List.getElem?_take_of_lt (by omega)];exact h1
  have ndP:ps.Nodup:=by rw[<-S.pre];exact S.nd.sublist (List.take_sublist _ _)
  refine⟨u,rv,?_⟩
  rcases S.par y (List.mem_of_getElem? hp) with k|k
  ·exact .inl ⟨k,m5 ndP hp hu k⟩
  ·obtain⟨c,e⟩:=pJ (n:=s.heap.objs.size+1) k
   refine .inr ⟨.inl k,c,e,?_⟩
   have q:=x.cell y c e
   rw[nr ndP hp hu (by show scope.names.lookup y≠_;rw[k];decide)] at q
   exact q
 ·exact e0.hok.fresh (Nat.le_of_lt (x.above y c (PySem.mem_of_lookup h)))
 ·unfold start
  show _=N.length;rw[List.length_append,List.length_map,List.length_replicate];omega
theorem Bk {CX:vz}{P:Program}{w:World}{K:W.Frag}{mg:Str->Option Value}{base:Heap}{k:Nat}{f:Addr}{name qual:Str}{params:Arguments}{body:List Stmt}{scope:Scope}{dV kV doc pm cdv ct oc:Value}{an od:Option Addr}
 {osl:Array (Option Value)} {N ps:List Str} {sp:Sp} (lk:K.lookup f=some ⟨oc,od,.func (W.fnOf name qual params body scope dV kV doc pm an cdv ct),osl⟩) (hcd:W.codeIn K cdv qual=true) (S:FnScope N ps scope)
 (len: ∀vs H Q E,sp vs H Q E->vs.length=ps.length)
 (hbody: ∀(A:Around) (outer:List Env) (s:Shared) (H:Hp) (vs:List V) (Q:VK) (E:XK),Room k (A.deeper (envOfC qual scope s.heap.objs.size f cdv))->sp vs H Q E->
   ∃t,PSs (mi CX P w K mg base N qual scope f cdv A outer s H E) body t/\t {nx:=λ_ H'=>Q .non H',rt:=Q} (start N vs) H):
 FnOk P w K mg base CX (k+1) f (W.fnOf name qual params body scope dV kV doc pm an cdv ct) ps sp:=by
 refine⟨len,λA outer s H args us vs Q E hr e0 hb r hsp=>?_⟩
 have hl:=len _ _ _ _ hsp
 have KX:K.In s.heap:=e0.mod.kin.keeps λb o e=>(e0.bs b o e).1
 have lim:s.heap.NoLimit:=e0.mod.nolimit.keeps λb o e=>(e0.bs b o e).1
 have hkind: ∀y∈ps.zip us,scope.names.lookup y.1=some .local\/(scope.names.lookup y.1=some .cell/\((cellsFrom (s.heap.objs.size+1) scope.names []).lookup y.1).isSome=true):=λ⟨n,v⟩ hy=>by
  rcases S.par n (List.of_mem_zip hy).1 with q|q
  ·exact .inl q
  ·exact .inr ⟨q,W.cellsFrom_some _ _ _ (.inl q)⟩
 refine codeAny_call_function hr.depth (KX _ _ lk) rfl S.co S.gen rfl (W.codeRec_of KX hcd) (hb _ _ _ _ ?_)
 refine wpAny_newFunctionEnv_cells S.kind hkind λenv he s1 x=>?_
 subst he;refine⟨lim.keeps x.toInCall.keep,codeAny_func ?_⟩
 obtain⟨t,ht,hq⟩:=hbody A outer s H vs Q E (hr.deeper _) hsp
 have I:Inv (mi CX P w K mg base N qual scope f cdv A outer s H E) [] (start N vs) H s1:=u4 S hr.hd e0 hl r x
 refine wpAny_mono (ht [] s1 (start N vs) H _ I hq) (λfl s' hs=>?_) λe s' hs=>hs
 have fin: ∀ {σ':St} {H':Hp} {v:V} {u:Value},Inv (mi CX P w K mg base N qual scope f cdv A outer s H E) [] σ' H' s'->RelV v u->Q v H'->CE outer P w H s Q u s':=
  λ{σ' H' v u} J rv q=>⟨v,H',J.os,J.bare,J.base,J.hok,rv,q⟩
 cases fl with
 |ret u=>
  obtain⟨v,σ',H',J,rv,q⟩:=hs
  exact fin J rv q
 |next=>
  obtain⟨σ',H',J,q⟩:=hs
  exact fin (v:=V.non) (u:=Value.none) J rfl q
 |brk=>
  obtain⟨_,_,_,q⟩:=hs
  exact False.elim q
 |cont=>
  obtain⟨_,_,_,q⟩:=hs
  exact False.elim q
section
variable {X:Cx}{x:Str}{p pos:Pos}{e:Expr}{es:List Expr}{t:TA}{id T:String}{r:List V->Hp->VK->Prop}
def Dc(r:List V->Hp->VK->Prop)(t:TA):TE:=λσ H Q=>t σ H λvs H1=>r vs H1 Q
theorem lV(hc:eB X (.builtin id) r)(hg:Gl X x)(hm:X.mg x=none)(hv:bootBuiltins x=some (.builtin id))(ha:PA X (e::es) t)(hn:x≠"__name__":=by decide)(hdb:(x==("__debug__":Str))=false:=by decide)
 (he:starEach (e::es) X.env=(false,eval e X.env)::starEach es X.env:=by rfl) (hpl:(backTo pos (starEach es X.env)).any (·.1)=false:=by rfl):PE X (.Call (.Name x p) (e::es) [] pos) (Dc r t):=by
 intro ae s σ H Q I h;refine wpAny_Call_Name_kw (jU I hg hm hv ?_ hn hdb)
 exact PyProof.Rows.callWith_builtin1 (bq (ha pos ae s σ H _ I h) λus s1 ⟨vs,H1,I1,r1,q1⟩=>hc ae s1 σ H1 vs us Q I1 r1 q1) he hpl
theorem jN(hc:eB X (.type T) r)(hg:Gl X x)(hm:X.mg x=none)(hv:bootBuiltins x=some (.type T))(ha:PA X (e::es) t)(hn:x≠"__name__":=by decide)(hdb:(x==("__debug__":Str))=false:=by decide)
 (he:starEach (e::es) X.env=(false,eval e X.env)::starEach es X.env:=by rfl) (hpl:(backTo pos (starEach es X.env)).any (·.1)=false:=by rfl):PE X (.Call (.Name x p) (e::es) [] pos) (Dc r t):=by
 intro ae s σ H Q I h;refine wpAny_Call_Name_kw (jU I hg hm hv ?_ hn hdb)
 exact PyProof.Rows.callWith_type1 (bq (ha pos ae s σ H _ I h) λus s1 ⟨vs,H1,I1,r1,q1⟩=>hc ae s1 σ H1 vs us Q I1 r1 q1) he hpl
end
end L2
namespace HT
open PySem PyProof.Rows
end HT
namespace L2
open PySem PySem.Spec PyProof.Rows
theorem rG {ns:List Int}: ∀ {us:List Value},Vals (ns.map V.int) us->IntsAre us ns:=by
 induction ns with
 |nil=>intro us r;rw[List.map_nil] at r;cases r;exact .nil
 |cons n ns ih=>
  intro us r;rw[List.map_cons] at r;cases r with
  |cons r1 r2=>
   obtain⟨t,e⟩:=r1
   subst e;exact .cons n t (ih r2)
def mn(n:Nat)(i:Int):Option Nat:=if 0<=i then(if i<n then some i.toNat else none) else if -(n:Int)<=i then some (i+n).toNat else none
def kN {α:Type}(xs:List α)(i:Int):Option α:=(mn xs.length i).bind λj=>xs[j]?
theorem oq {n:Nat}{i:Int}{j:Nat}(h:mn n i=some j):seqIndex? i n=some j/\j<n/\ -(n:Int)<=i/\i<n:=by
 unfold mn at h
 by_cases h0:0<=i
 ·rw[if_pos h0] at h
  by_cases h1:i<n
  ·rw[if_pos h1] at h
   have e:i.toNat=j:=Option.some.inj h
   exact⟨by rw[seqIndex_of h0 h1,e],by omega,by omega,h1⟩
  ·rw[if_neg h1] at h;cases h
 ·rw[if_neg h0] at h
  by_cases h1: -(n:Int)<=i
  ·rw[if_pos h1] at h
   have e:(i+n).toNat=j:=Option.some.inj h
   exact⟨by rw[seqIndex_neg (by omega) h1,e],by omega,h1,by omega⟩
  ·rw[if_neg h1] at h;cases h
theorem n6 {α:Type}{xs:List α}{i:Int}{v:α}(h:kN xs i=some v): ∃j,seqIndex? i xs.length=some j/\xs[j]? =some v/\j<xs.length/\ -(xs.length:Int)<=i/\i<xs.length:=by
 unfold kN at h;cases e:mn xs.length i with
 |none=>rw[e] at h;cases h
 |some j=>
  rw[e] at h;obtain⟨h1,h2,h3,h4⟩:=oq e
  exact⟨j,h1,h,h2,h3,h4⟩
theorem jo {α:Type}{xs:List α}{j:Nat}{v:α}(h:xs[j]? =some v):kN xs (j:Int)=some v:=by
 have hj:j<xs.length:=(List.getElem?_eq_some_iff.mp h).1
 have e:mn xs.length (j:Int)=some j:=by
  unfold mn;rw[if_pos (by omega),if_pos (by omega)];simp
 unfold kN;rw[e];exact h
def jh(b:Expr):Prop:= ∀o i,subscripted b false o i=operate [o,i] (getItem o i)
def IxR(X:Cx)(r:R2):Prop:=
 ∀(value slice:Expr) (ae:List (Addr×Obj)) (s:Shared) (σ:St) (H:Hp) (x y:V) (v u:Value) (Q:VK),Inv X ae σ H s->RelV x v->RelV y u->r x y H Q->
  subscripted slice false v u=operate [v,u] (getItem v u)->wpAny (model X.prog X.w) X.A (subscriptTail value slice v u) (EP X ae σ Q) X.xe s
def DX(X:Cx)(id:String)(r:V->List V->Hp->VK->Prop):Prop:=
 ∀(ae:List (Addr×Obj)) (s:Shared) (σ:St) (H:Hp) (x:V) (xs:List V) (v:Value) (us:List Value) (Q:VK),Inv X ae σ H s->RelV x v->Vals xs us->r x xs H Q->
  wpAny (model X.prog X.w) X.A (call (.builtin id) (v::us)) (EP X ae σ Q) X.xe s
section
variable {X:Cx}{a b:Expr}{ta tb:TE}{pos:Pos}
theorem IxR.or {r r':R2}(h:IxR X r)(h':IxR X r'):IxR X (λx y H Q=>r x y H Q\/r' x y H Q):=by
 intro value slice ae s σ H x y v u Q I rx ry q hs;rcases q with q|q
 ·exact h value slice ae s σ H x y v u Q I rx ry q hs
 ·exact h' value slice ae s σ H x y v u Q I rx ry q hs
theorem tM {r:R2}(hr:IxR X r)(ha:PE X a ta)(hb:PE X b tb)(hs:jh b):PE X (.Subscript a b pos) (Bb r ta tb):=by
 intro ae s σ H Q I h;exact Subscript_ (Aq ha hb I h λv u s2 x y H2 I2 rx ry q=>hr a b ae s2 σ H2 x y v u Q I2 rx ry q (hs _ _))
def BG(K:W.Frag):R2:=λx y H Q=> ∃p xs i v,x=.ref p/\y=.int i/\SqL K H p xs/\kN xs i=some v/\Q v H
def Bm(K:W.Frag):R2:=λx y H Q=> ∃p xs i v,x=.ref p/\y=.int i/\SqT K H p xs/\kN xs i=some v/\Q v H
def By:R2:=λx y H Q=> ∃z i c,x=.str z/\y=.int i/\z.length<=sizeLine/\kN z.cps.toList i=some c/\Q (.str ⟨#[c]⟩) H
theorem ix_list:IxR X (BG X.K):=by
 intro value slice ae s σ H x y v u Q I rx ry h hs;obtain⟨p,xs,i,z,rfl,rfl,hq,he,q⟩:=h
 cases rx
 obtain⟨t,rfl⟩:=ry
 obtain⟨its,r,pl,hz⟩:=I.list hq
 obtain⟨j,h1,h2,h3,h4,h5⟩:=n6 he
 obtain⟨w,ew,rw'⟩:=r.get h2
 have hl:=r.length
 have hn:=jb
 have fin:EP X ae σ Q w s:=⟨z,H,I,rw',q⟩
 by_cases h0:0<=i
 ·have hj:i.toNat=j:=by
   rw[seqIndex_of h0 h5] at h1;exact Option.some.inj h1
  exact item_listR pl.isList h0 (by omega) (by rw[hj];simpa using ew) fin hs
 ·have hj:(i+(its.toArray.size:Int)).toNat=j:=by
   rw[seqIndex_neg (by omega) h4] at h1
   rw[List.size_toArray,<-hl];exact Option.some.inj h1
  exact subscriptTail_builtinR (x:=w) pl.isList.typeIs slot_list_getitem.lookup
   (wpAny_getItem_list_neg (Q:=λr s'=>r=w/\EP X ae σ Q r s') pl.isList (by omega) (by rw[List.size_toArray]<;>omega) (by omega) (by rw[hj];simpa using ew) ⟨rfl,fin⟩) hs
theorem ix_tup:IxR X (Bm X.K):=by
 intro value slice ae s σ H x y v u Q I rx ry h hs;obtain⟨p,xs,i,z,rfl,rfl,hq,he,q⟩:=h
 cases rx
 obtain⟨t,rfl⟩:=ry
 obtain⟨its,r,pl,hz⟩:=I.tuple hq
 obtain⟨j,h1,h2,h3,h4,h5⟩:=n6 he
 obtain⟨w,ew,rw'⟩:=r.get h2
 have hl:=r.length
 have hn:=jb
 have fin:EP X ae σ Q w s:=⟨z,H,I,rw',q⟩
 exact subscriptTail_builtinR (x:=w) pl.typeIs slot_tuple_getitem.lookup
  (getItem_tuple (j:=j) (Q:=λr s'=>r=w/\EP X ae σ Q r s') pl (by omega) (by omega) (by rw[List.size_toArray,<-hl];exact h1) (by simpa using ew) ⟨rfl,fin⟩) hs
theorem zw:IxR X By:=by
 intro value slice ae s σ H x y v u Q I rx ry h hs;obtain⟨z,i,c,rfl,rfl,hz,he,q⟩:=h
 obtain⟨t,rfl⟩:=rx
 obtain⟨t',rfl⟩:=ry
 obtain⟨j,h1,h2,h3,h4,h5⟩:=n6 he
 have hl:z.cps.toList.length=z.length:=by simp[Str.length]
 rw[hl] at h1 h4 h5;have hn:=jb
 exact tail_any (typeIs_str s z t) slot_str_getitem.lookup (getItem_str (c:=c) (by
  have e1:decide (i< -(2^63:Int))=false:=decide_eq_false (by omega)
  have e2:decide (i≥2^63)=false:=decide_eq_false (by omega)
  rw[e1,e2,Bool.or_false]) (by rw[h1];simpa using h2) ⟨.str ⟨#[c]⟩,H,I.tok _,⟨_,rfl⟩,q⟩) hs
def DU(K:W.Frag):R2:=λx y H Q=>BG K x y H Q\/Bm K x y H Q\/By x y H Q
theorem aA:IxR X (DU X.K):=ix_list.or (ix_tup.or zw)
theorem rh(its:List Value)(n j:Nat)(u:Value):Obj.mapSeq (·.setIfInBounds j u) {cls:=.type "list",data:=.seq its.toArray n}={cls:=.type "list",data:=.seq (its.set j u).toArray n}:=by
 simp[Obj.mapSeq]
theorem Inv.lst {ae:List (Addr×Obj)}{σ:St}{H:Hp}{s:Shared}{p:Addr}{xs:List V}(I:Inv X ae σ H s)(h:H p=some (.lst xs)):
 ∃(its:List Value) (n:Nat),Vals xs its/\s.heap.get? p=some {cls:=.type "list",data:=.seq its.toArray n}/\xs.length<=sizeLine:=by
 obtain⟨z,its,n,r,e⟩:=I.hok p _ h
 exact⟨its,n,r,e,z⟩
theorem Inv.lstUpd {ae:List (Addr×Obj)}{σ:St}{H:Hp}{s:Shared}{p:Addr}{xs ys:List V}{its its':List Value}{n n':Nat}{f:Obj->Obj}(I:Inv X ae σ H s)(h:H p=some (.lst xs))
 (ho:s.heap.get? p=some {cls:=.type "list",data:=.seq its.toArray n}) (hf:f {cls:=.type "list",data:=.seq its.toArray n}={cls:=.type "list",data:=.seq its'.toArray n'}) (r:Vals ys its') (hz:ys.length<=sizeLine) (t:Nat):
 Inv X ae σ (bd H p (.lst ys)) {s with heap:=s.heap.update p f,toks:=t}:=by
 have e:(s.heap.update p f).get? p=some {cls:=.type "list",data:=.seq its'.toArray n'}:=by
  rw[Heap.get?_update_self f ho (by rw[hf]<;>rfl),hf]
 refine I.write (x:=p) (e:=p) (by rw[h];trivial) (.inl rfl) (λb u hb q=>(Heap.get?_update_other _ _ (Ne.symm hb)).trans q) ⟨_,e⟩ ?_
 exact⟨hz,its',n',r,e⟩
def BJ:V->V->V->Hp->(Hp->Prop)->Prop:=λo i v H Q=> ∃p xs k j,o=.ref p/\i=.int k/\H p=some (.lst xs)/\mn xs.length k=some j/\Q (bd H p (.lst (xs.set j v)))
theorem qe:x9 X BJ:=by
 intro ae s σ H o i v ov iv u Q I ro ri rv h;obtain⟨p,xs,k,j,rfl,rfl,hp,hj,q⟩:=h
 cases ro
 obtain⟨t,rfl⟩:=ri
 obtain⟨its,n,r,ho,hz⟩:=I.lst hp
 obtain⟨h1,h2,h3,h4⟩:=oq hj
 have hl:=r.length
 have hn:=jb
 have I':Inv X ae σ (bd H p (.lst (xs.set j v))) {s with heap:=s.heap.update p (Obj.mapSeq (·.setIfInBounds j u))}:=
  I.lstUpd hp ho (rh its n j u) (r.set rv j) (by rw[List.length_set];exact hz) s.toks
 by_cases h0:0<=k
 ·have hk:k.toNat=j:=by
   rw[seqIndex_of h0 h4] at h1;exact Option.some.inj h1
  exact W.ki_setAt ho h0 (by omega) (by rw[List.size_toArray,<-hl];exact h4) (by rw[hk];exact⟨_,I',q⟩)
 ·have hk:(k+(its.toArray.size:Int)).toNat=j:=by
   rw[seqIndex_neg (by omega) h3] at h1
   rw[List.size_toArray,<-hl];exact Option.some.inj h1
  exact W.ki_setBack ho (by omega) (by rw[List.size_toArray,<-hl];exact h3) (by omega) (by rw[hk];exact⟨_,I',q⟩)
theorem aR:eB X (.builtin "len") (λxs H Q=> ∃p ys,xs=[.ref p]/\(SqL X.K H p ys\/SqT X.K H p ys)/\Q (.int ys.length) H):=by
 intro ae s σ H xs us Q I r h;obtain⟨p,ys,rfl,hq,q⟩:=h
 obtain⟨u,rfl,rx⟩:=gS r
 cases rx
 have hn:=jb
 rcases hq with hq|hq
 ·obtain⟨its,r',pl,hz⟩:=I.list hq
  have hlen:=r'.length
  exact Calls.call_len_list pl.isList (by simp only[List.size_toArray]<;>omega) ⟨.int ys.length,H,I.tok _,⟨s.toks+1,by rw[List.size_toArray,hlen]⟩,q⟩
 ·obtain⟨its,r',pl,hz⟩:=I.tuple hq
  have hlen:=r'.length
  exact len_tuple pl (by simp only[List.size_toArray]<;>omega) ⟨.int ys.length,H,I.tok _,⟨s.toks+1,by rw[List.size_toArray,hlen]⟩,q⟩
theorem iW:eB X (.type "tuple") (λxs H Q=> ∃p ys,xs=[.ref p]/\((SqL X.K H p ys/\ ∀l,H l=none->Q (.ref l) (bd H l (.tup ys)))\/(SqT X.K H p ys/\Q (.ref p) H))):=by
 intro ae s σ H xs us Q I r h;obtain⟨p,ys,rfl,h⟩:=h
 obtain⟨u,rfl,rx⟩:=gS r
 cases rx
 rcases h with⟨hq,q⟩|⟨hq,q⟩
 ·obtain⟨its,r',pl,hz⟩:=I.list hq
  have hlen:=r'.length
  refine call_tuple_list pl.isList (λh' kp=>?_) (by simp only[List.size_toArray]<;>omega)
  have I1:Inv X ae σ H {s with heap:=h'}:=I.kept (t':=s.toks) kp
  have I2:Inv X ae σ (bd H h'.objs.size (.tup ys)) {s with heap:=h'.push {cls:=.type "tuple",data:=.seq its.toArray}}:=
   I1.laid (t':=s.toks) (λb o e=>Heap.get?_push_of_some _ e) (Nat.le_refl _) (show ObjOk X.prog X.w _ _ _ (.tup ys) from⟨hz,its,r',IsTup.new _ _,_,Heap.get?_push_size _ rfl,rfl⟩)
  exact⟨.ref h'.objs.size,_,I2,rfl,q _ (I1.hok.fresh (Nat.le_refl _))⟩
 ·obtain⟨its,r',pl,hz⟩:=I.tuple hq
  exact call_tuple_same pl ⟨.ref p,H,I,rfl,q⟩
def DV(K:W.Frag)(T:String)(x:V)(H:Hp):Prop:=match x with
 | .str _=>T="str"
 | .int _=>T="int"
 | .ref p=>(T="list"/\ ∃xs,SqL K H p xs)\/(T="tuple"/\ ∃xs,SqT K H p xs)\/
    (T="dict"/\((∃kvs,H p=some (.dK kvs))\/ ∃kvs,H p=some (.dT kvs)))\/(T="set"/\ ∃S n,H p=some (.set S n))\/(T="set"/\ ∃xs,H p=some (.tst xs))
 |_=>False
theorem Aj {ae:List (Addr×Obj)}{σ:St}{H:Hp}{s:Shared}{T:String}{x:V}{v:Value}(I:Inv X ae σ H s)(r:RelV x v)(ty:DV X.K T x H):
 s.TypeIs v T/\ ∀a,v=.ref a-> ∃ob,s.heap.get? a=some ob/\ob.dict=none:=by
 cases x with
 |str z=>
  obtain⟨t,rfl⟩:=r
  cases (show T="str" from ty)
  exact⟨typeIs_str s z t,λ_ e=>nomatch e⟩
 |int i=>
  obtain⟨t,rfl⟩:=r
  cases (show T="int" from ty)
  exact⟨typeIs_int s i t,λ_ e=>nomatch e⟩
 |ref p=>
  cases r
  rcases ty with⟨rfl,xs,hq⟩|⟨rfl,xs,hq⟩|⟨rfl,hk⟩|⟨rfl,S,n,hk⟩|⟨rfl,xs,hk⟩
  ·obtain⟨its,_,pl,_⟩:=I.list hq
   refine⟨pl.isList.typeIs,λa e=>?_⟩
   cases e
   obtain⟨o,n,e,c,hd,_⟩:=pl
   exact⟨o,e,hd⟩
  ·obtain⟨⟨ob,ho,hc⟩,o2,h2,hd⟩:=I.tupleN hq
   refine⟨⟨ob,ho,hc⟩,λa e=>?_⟩
   cases e
   exact⟨o2,h2,hd⟩
  ·have z: ∃o,s.heap.get? p=some o/\o.ExactDict:=by
    rcases hk with⟨kvs,hk⟩|⟨kvs,hk⟩
    ·obtain⟨_,_,_,_,o,_,_,e,ex,_⟩:=I.hok p _ hk
     exact⟨o,e,ex⟩
    ·obtain⟨_,_,_,_,o,_,_,e,ex,_⟩:=I.hok p _ hk
     exact⟨o,e,ex⟩
   obtain⟨o,e,ex⟩:=z
   refine⟨⟨o,e,ex.1⟩,λa e2=>?_⟩
   cases e2
   exact⟨o,e,ex.2.1⟩
  ·obtain⟨o,_,_,_,e,ex,_⟩:=I.hok p _ hk
   refine⟨⟨o,e,ex.1⟩,λa e2=>?_⟩
   cases e2
   exact⟨o,e,ex.2.1⟩
  ·obtain⟨o,_,_,_,e,ex⟩:=I.hok p _ hk
   refine⟨⟨o,e,ex.ex.1⟩,λa e2=>?_⟩
   cases e2
   exact⟨o,e,ex.ex.2.1⟩
 |_=>exact False.elim ty
def D8(K:W.Frag)(T:String)(r:V->List V->Hp->VK->Prop)(to:TE)(t:TA):TE:=λσ H Q=>to σ H λx H1=>DV K T x H1/\t σ H1 λxs H2=>r x xs H2 Q
variable {o e:Expr}{es:List Expr}{to:TE}{t:TA}{name:Str}{apos cpos:Pos}{T id:String}{r:V->List V->Hp->VK->Prop}
theorem wu(pa:PlainAttrs T)(slot:Slot T name id)(hty:typeOf (.builtin id)=pure (.type "method_descriptor"))(hm:DX X id r)(ho:PE X o to)(ha:PA X (e::es) t)
 (hbase:attributeBase o name X.env (eval o X.env)=eval o X.env:=by rfl)
 (hfew:((backTo cpos (starEach (e::es) X.env)).all (λx=> !x.1)&&(backToKw cpos (keywordEach [] X.env)).all (λx=>x.1.isSome)
   &&decide ((e::es).length+([]:List Keyword).length+(if([]:List Keyword).isEmpty then 0 else 1)<30))=true:=by rfl)
 (hline:(apos.endLine==cpos.line)=true:=by rfl) (hs:starEach (e::es) X.env=(false,eval e X.env)::starEach es X.env:=by rfl) (hplain:(backTo cpos (starEach es X.env)).any (·.1)=false:=by rfl):
 PE X (.Call (.Attribute o name apos) (e::es) [] cpos) (D8 X.K T r to t):=by
 intro ae s σ H Q I h;refine wpAny_Call_method_late hbase hfew hline rfl (bq (ho ae s σ H _ I h) λv s1 hq_=>?_)
 obtain⟨x,H1,I1,r1,ty,q1⟩:=hq_
 obtain⟨h1,h2⟩:=Aj I1 r1 ty
 refine⟨T,id,pa,slot,hty,h1,h2,?_⟩
 have hA:=ha cpos ae s1 σ H1 _ I1 q1
 rw[hs] at hA⊢;refine Calls.callWith_builtin (by show(false||(backTo cpos (starEach es X.env)).any (·.1))=false;rw[hplain]<;>rfl) (Calls.evalArgs_plain ?_)
 exact bq hA λus s2 ⟨vs,H2,I2,r2,q2⟩=>hm ae s2 σ H2 x vs v us Q I2 r1 r2 q2
end
def Dz(X:Cx)(id:String)(r:V->List V->Hp->VK->Prop):Prop:=
 ∀(ae:List (Addr×Obj)) (s:Shared) (σ:St) (H:Hp) (x:V) (xs:List V) (v:Value) (us:List Value) (Q:VK),Inv X ae σ H s->RelV x v->Vals xs us->r x xs H Q->
  wpAny (model X.prog X.w) X.A (call (.builtin id) (v::us)) (EP X ae σ Q) X.xe s
theorem Vals.one: ∀ {x:V} {us:List Value},Vals [x] us-> ∃u,us=[u]/\RelV x u
 |_,_,.cons r .nil=>⟨_,rfl,r⟩
theorem Vals.eraseIdx: ∀ {xs:List V} {us:List Value} (i:Nat),Vals xs us->Vals (xs.eraseIdx i) (us.eraseIdx i)
 |_,_,_,.nil=>.nil
 |_,_,0,.cons _ t=>t
 |_,_,i+1,.cons r t=>.cons r (Vals.eraseIdx i t)
theorem mU {α:Type}: ∀(l:List α) (i:Nat),(l.eraseIdx i).length<=l.length
 | [],_=>Nat.le_refl _
 |_::_,0=>Nat.le_succ _
 |_::r,i+1=>Nat.succ_le_succ (mU r i)
section
variable {X:Cx}{ae:List (Addr×Obj)}{σ:St}{H:Hp}{s:Shared}{l b:Addr}{xs ys zs:List V}
theorem Inv.lset {its its':List Value}{n:Nat}{f:Array Value->Array Value}{t':Nat}(I:Inv X ae σ H s)(hH:H l=some (.lst xs))
 (e:s.heap.get? l=some {cls:=.type "list",data:=.seq its.toArray n}) (hf:f its.toArray=its'.toArray) (hv:Vals ys its') (hz:ys.length<=sizeLine):
 Inv X ae σ (bd H l (.lst ys)) {s with heap:=s.heap.update l (Obj.mapSeq f),toks:=t'}:=by
 have q:=PySem.IsL.update e f
 rw[hf] at q;refine I.write (x:=l) (e:=l) (by rw[hH];exact trivial) (.inl rfl) (λb' u hb hu=>(Heap.get?_update_other s.heap (Obj.mapSeq f) (Ne.symm hb)).trans hu) ⟨_,q⟩ ?_
 exact⟨hz,its',_,hv,q⟩
theorem Inv.lstM(I:Inv X ae σ H s)(hH:H l=some (.lst xs)):xs.length<=sizeLine/\ ∃(its:List Value) (n:Nat),Vals xs its/\xs.length=its.length/\s.heap.get? l=some {cls:=.type "list",data:=.seq its.toArray n}:=by
 obtain⟨z,its,n,r,e⟩:=I.hok l _ hH
 exact⟨z,its,n,r,r.length,e⟩
end
section
variable {X:Cx}
def sv:V->List V->Hp->VK->Prop:=λx vs H Q=> ∃l xs y,x=.ref l/\vs=[y]/\H l=some (.lst xs)/\xs.length<sizeLine/\Q .non (bd H l (.lst (xs++[y])))
theorem cg:Dz X "list.append" sv:=by
 intro ae s σ H x vs v us Q I rx rv h;obtain⟨l,xs,y,rfl,rfl,hH,hz,q⟩:=h
 cases rx
 obtain⟨u,rfl,ru⟩:=rv.one
 obtain⟨z,its,n,r,hl,e⟩:=I.lstM hH
 refine call_meets F.slot_list_append ⟨_,e,rfl⟩ F.entry_list_append (F.args_list_append_2 _ _) (PySem.list_append l its.toArray n u (by rw[List.size_toArray];omega)) ⟨e,?_⟩
 refine⟨.non,_,I.lset (its':=its++[u]) hH e (by simp) (r.append (.cons ru .nil)) ?_,rfl,q⟩
 rw[List.length_append,List.length_singleton];omega
def vp:V->List V->Hp->VK->Prop:=λx vs H Q=> ∃l xs i k y,x=.ref l/\vs=[.int i]/\H l=some (.lst xs)/\ -(2^63)<=i/\i<2^63/\seqIndex? i xs.length=some k/\xs[k]? =some y/\Q y (bd H l (.lst (xs.eraseIdx k)))
theorem wG:Dz X "list.pop" vp:=by
 intro ae s σ H x vs v us Q I rx rv h;obtain⟨l,xs,i,k,y,rfl,rfl,hH,h1,h2,hk,hy,q⟩:=h
 cases rx
 obtain⟨u,rfl,ru⟩:=rv.one
 obtain⟨t,rfl⟩:=ru
 obtain⟨z,its,n,r,hl,e⟩:=I.lstM hH
 obtain⟨w,hw,rw'⟩:=r.get hy
 refine call_meets F.slot_list_pop ⟨_,e,rfl⟩ F.entry_list_pop (F.args_list_pop_2 _ _)
  (MeetsSeq.list_pop_at l its.toArray n i t k w (fitsIndex_both h1 h2) (by rw[List.size_toArray,<-hl];exact hk) (by rw[<-Array.getElem?_toList];exact hw) (by rw[List.size_toArray];omega)) ⟨e,?_⟩
 refine⟨y,_,I.lset (its':=its.eraseIdx k) hH e ?_ (r.eraseIdx k) ?_,rw',q⟩
 ·show its.toArray.eraseIdxIfInBounds k=(its.eraseIdx k).toArray
  rw[List.eraseIdxIfInBounds_toArray]
 ·have:=mU xs k
  omega
end
end L2
namespace Att
open PySem PySem.W PySem.Calls PyProof.Rows
theorem kB {P:Params}{h:Heap}: ∀(ns:List Int) (vs:List Value),WellAll P h vs (ns.map WData.int)->IntsAre vs ns:=by
 intro ns
 induction ns with
 |nil=>
  intro vs w;rw[List.map_nil] at w;cases w
  exact .nil
 |cons n ns ih=>
  intro vs w;rw[List.map_cons] at w;cases w with
  |cons a b=>
   cases a
   exact .cons _ _ (ih _ b)
theorem uU {l:OpenLaw}{n:Nat}(hn:l.most=some n){P:Params}{h:Heap}{args:List WData}{vals:List Value}
 (hpre:l.row.toRowW.claim.pre args=true) (hwl:WellAll P h vals args):
 ∃a vs ns,vals=[Value.ref a]/\args=[WData.list (ns.map WData.int)]/\h.get? a=some {cls:=.type "list",data:=.seq vs.toArray}/\IntsAre vs ns/\ns.length<=n:=by
 have hsh:WShape.hasAll [] args [.list .int]=true:=(pre_splitW hpre).1
 have hc:l.pre.holds [] {args:=args}=true:=(pre_splitW hpre).2
 obtain⟨d,r,rfl,h1,h2⟩:=hasAllW_cons hsh
 obtain rfl:=hasAllW_nil h2
 obtain⟨xs,rfl,h3⟩:=hasW_list h1
 obtain⟨ns,rfl⟩:=items_int h3
 have hlen:ns.length<=n:=by
  unfold OpenLaw.pre at hc;have h4:(WTm.not (.lt (.lit (.int (n:Int))) (.len (.arg 0)))).holds [] {args:=[.list (ns.map .int)]}=true:=by
   have h4:=(holds_andW hc).1
   rw[hn] at h4;exact h4
  have h5:=condW_of h4 (w_not (w_lt w_lit (w_len_list (w_arg rfl))))
  rw[List.length_map] at h5;refine Nat.le_of_not_lt λq=>?_
  have q':(n:Int)<((ns.length:Nat):Int):=by omega
  first
   |(rw[decide_eq_true q'] at h5;exact absurd h5 (by decide))
   |(simp at h5;omega)
 cases hwl with
 |cons w1 w2=>
  cases w2
  cases w1 with
  |list ho hall=>exact⟨_,_,ns,rfl,rfl,ho,kB ns _ hall,hlen⟩
theorem ud(l:OpenLaw)(args:List WData):l.row.toRowW.claim.post args (.bool true) args=true:=
 postW_of (r:=l.row.toRowW) (X:=(true==true))
  (show WShape.has [] (.bool true) .bool=true by first|rfl|decide|simp[WShape.has,WShape.arms,WShape.armsAll])
  (show(WTm.eq .res (.lit (.bool true))).value [] {args:=args,res:=some (.bool true),after:=args}=some (.bool (true==true)) from w_eq_bool (w_res rfl) w_lit) rfl
theorem attach_call {l:OpenLaw}{n:Nat}{q:Program}{loose:List Str}{XP:(Str->Option Value)->Heap->Prop}{YP:World->Heap->Prop}{d:DefRec}
 (hn:l.most=some n) (hdf:d.params.defaults=[])
 (call: ∀(w:World) (s₀ s₁:Shared) (mg mb:Str->Option Value) (fa:Addr) (o:Obj) (pm cd doc:Value) (a:Addr) (vs:List Value) (ns:List Int),
   Ground q loose [] XP w s₀ mg mb s₁.heap->YP w s₁.heap->
   s₁.heap.get? fa=some o->o.data=.func (docDef d.name d.params d.body d.scope pm cd doc)->s₁.heap.CodeRec cd d.name->mg d.name=some (.ref fa)->
   s₁.heap.get? a=some {cls:=.type "list",data:=.seq vs.toArray}->IntsAre vs ns->ns.length<=n->s₁.gens= #[]->
   codeAny (model l.prog w) callerA (.call (.ref fa) ⟨[.ref a],[]⟩) (λr s'=>r=.ok (.ret (.bool true))/\OldK s₁.heap s'.heap/\s'.os=s₁.os/\AllBare s'.gens) s₁):
 WalkO q loose XP YP l.row.toRowW d [] (λf vs=>PySem.call f vs):=by
 intro w s₀ s₁ mg mb G Y fa o pm cd doc dV kV ho hd hcd hD hmg hg args vals as hpre hlay hrd hwl hlo;obtain rfl:dV=.none:=Dflts.none hD hdf
 obtain rfl:kV=.none:=Dflts.noKw hD
 obtain⟨a,vs,ns,rfl,rfl,hobj,hints,hlen⟩:=uU hn hpre hwl
 refine enter_call (codeAny_mono (call w s₀ s₁ mg mb fa o pm cd doc a vs ns G Y ho (fd_plain hd) hcd hmg hobj hints hlen hg) λr s' hq=>?_)
 obtain⟨rfl,h2,h3,h4⟩:=hq
 exact⟨.inl ⟨.bool true,.bool true,[],rfl,λ_=>rfl,.bool true,ud l _,λ_=>⟨List.Pairwise.nil,λ_ hm=>(nomatch hm)⟩⟩,h2,h3,h4⟩
end Att
namespace L2
open PySem PySem.Spec PyProof.Rows
theorem mJ: ∀ {vs:List Value} {ns:List Int},IntsAre vs ns->Vals (ns.map V.int) vs
 |_,_,.nil=>.nil
 |_,_,.cons n t h=>.cons ⟨t,rfl⟩ (mJ h)
def z7(H:Hp):Prop:= ∀b,H b=none\/ ∃o xs,H b=some (.frz o (.lst xs))
theorem vh {P:Program}{w:World}{K:W.Frag}{mg mb:Str->Option Value}{CX:vz}{k:Nat}{fa a:Addr}{fd:FuncData}{x:Str}{sp:Sp}{s₁:Shared}{vs:List Value}{ns:List Int}
 (KX:K.In s₁.heap) (hns:s₁.heap.Ns mainGlobals mg) (hb:s₁.heap.Ns builtinsNs mb) (hbb: ∀x:Str,x≠"__name__"->mb x=bootBuiltins x) (hlim:s₁.heap.NoLimit) (hg:s₁.gens= #[])
 (ha:s₁.heap.get? a=some {cls:=.type "list",data:=.seq vs.toArray}) (hi:IntsAre vs ns) (hl:ns.length<=sizeLine) (hr:Room k callerA)
 (F: ∀base:Heap,K.In base->base.Ns mainGlobals mg->FnOk P w K mg base CX k fa fd [x] sp) (hbind: ∀(s:Shared) (u:Value),BindsTo s fd ⟨[u],[]⟩ [(x,u)])
 (hsp: ∀H:Hp,z7 H->SqL K H a (ns.map V.int)->sp [.ref a] H (λv _=>v=.bl true) λ_ _ _=>False)
 (hCX: ∀H e s',CX [] H s₁ (λ_ _ _=>False) e s'->False):
 codeAny (model P w) callerA (.call (.ref fa) ⟨[.ref a],[]⟩) (λr s'=>r=.ok (.ret (.bool true))/\OldK s₁.heap s'.heap/\s'.os=s₁.os/\AllBare s'.gens) s₁:=by
 have rv:=mJ hi
 have lenV:=hi.length
 have core: ∀H:Hp,z7 H->SqL K H a (ns.map V.int)->HOk P w H s₁.heap->(∀b,H b≠none->b=a)->(H a≠none->K.lookup a=none)->
  codeAny (model P w) callerA (.call (.ref fa) ⟨[.ref a],[]⟩) (λr s'=>r=.ok (.ret (.bool true))/\OldK s₁.heap s'.heap/\s'.os=s₁.os/\AllBare s'.gens) s₁:=by
  intro H hO hS hok hA hK;have base_of: ∀ {b:Addr} {o:Obj},s₁.heap.get? b=some o->H b=none->(oM s₁.heap H).get? b=some o:=λe n=>xl e n
  have noA: ∀ {b:Addr} {o:Obj} {es:Array DictEntry} {ep:Nat},s₁.heap.get? b=some o->o.data=.dict es ep->H b=none:=λ{b o es ep} e d=>by
   cases q:H b with
   |none=>rfl
   |some u=>
    have e':b=a:=hA b (by rw[q];simp)
    subst e';rw[ha] at e;cases e;have d':Data.seq vs.toArray _=Data.dict es ep:=d
    cases d'
  have nsK: ∀ {b:Addr} {m:Str->Option Value},s₁.heap.Ns b m->(oM s₁.heap H).Ns b m:=λ{b m} ⟨o,es,ep,e,d,r⟩=>⟨o,es,ep,base_of e (noA e d),d,r⟩
  have hKb:K.In (oM s₁.heap H):=λb o e=>base_of (KX b o e) (by
   cases q:H b with
   |none=>rfl
   |some u=>
    have e':b=a:=hA b (by rw[q];simp)
    subst e';rw[hK (by rw[q];simp)] at e;cases e)
  have hM:Mod K mg (oM s₁.heap H):=⟨hKb,nsK hns,⟨mb,nsK hb,hbb⟩,let⟨mc,h1,h2⟩:=hlim;⟨mc,nsK h1,h2⟩⟩
  have e0:Env0 P w K mg (oM s₁.heap H) callerA [] s₁ H:=⟨rfl,hM,λb o e=>yY e,Nat.le_of_eq (tV _ _),trivial,λb hb=>absurd (show b∈([]:List Addr) from hb) (by simp),hok,.of_eq hg⟩
  refine codeAny_mono ((F _ hKb (nsK hns)).run callerA [] s₁ H ⟨[.ref a],[]⟩ [.ref a] [.ref a] _ _ hr e0 (hbind s₁ (.ref a)) (.cons rfl .nil) (hsp H hO hS)) λr s' h=>?_
  cases r with
  |error e=>exact(hCX H e s' h).elim
  |ok fl=>
   cases fl with
   |next=>exact False.elim h
   |brk=>exact False.elim h
   |cont=>exact False.elim h
   |ret u=>
    obtain⟨v,H',os,bare,un,hok',r',q⟩:=h
    have q':v=.bl true:=q
    subst q';obtain rfl:u=Value.bool true:=r'
    refine⟨rfl,OldK.of_keep λb o e=>?_,os,bare⟩
    cases q:H b with
    |none=>exact un.keep b o e q (by intro z;exact absurd (show b∈([]:List Addr) from z) (by simp)) (by simp)
    |some u=>
     rcases hO b with z|⟨ob,xs,z⟩
     ·rw[q] at z;cases z
     ·have z2:=un.frzs b ob _ z
      obtain⟨e1,_⟩:=hok b _ z
      obtain⟨e2,_⟩:=hok' b _ z2
      rw[e] at e1;cases e1;exact e2
 cases hk:K.lookup a with
 |some o=>
  have e:=KX a o hk
  rw[ha] at e;cases e
  refine core (λ_=>none) (λ_=>.inl rfl) (.inr ⟨_,vs.toArray,_,hk,rfl,rfl,rfl,by rw[List.size_toArray,lenV];exact hl,by simpa using rv⟩) (λb u z=>by have z':(none:Option HO)=some u:=z;cases z') (λb z=>absurd rfl z) λz=>absurd rfl z
 |none=>
  refine core (λb=>if b=a then some (.frz {cls:=.type "list",data:=.seq vs.toArray} (.lst (ns.map V.int))) else none) (λb=>?_) (.inl (.inr ⟨{cls:=.type "list",data:=.seq vs.toArray},if_pos rfl⟩)) (λb u z=>?_) (λb z=>?_) λ_=>hk
  ·by_cases hb:b=a
   ·exact .inr ⟨_,_,if_pos hb⟩
   ·exact .inl (if_neg hb)
  ·by_cases hb:b=a
   ·have z':=(if_pos hb).symm.trans z
    cases z'
    subst hb;exact⟨ha,by rw[List.length_map];exact hl,vs,_,rv,ha⟩
   ·have z':=(if_neg hb).symm.trans z
    cases z'
  ·by_cases hb:b=a
   ·exact hb
   ·exact absurd (if_neg hb) z
theorem walk_of {l:W.OpenLaw}{n k:Nat}{q:Program}{loose:List Str}{XP:(Str->Option Value)->Heap->Prop}{YP:World->Heap->Prop}{d:DefRec}{K:Params->W.Frag}{CX:World->vz}{sp:World->Sp}{x:Str}
 (hn:l.most=some n) (hn2:n<=sizeLine) (hdf:d.params.defaults=[]) (hr:Room k callerA)
 (hY: ∀(w:World) (h:Heap),YP w h->(K w.params).In h)
 (F: ∀(w:World) (mg:Str->Option Value) (fa:Addr) (h:Heap),(K w.params).In h->h.Ns mainGlobals mg->mg d.name=some (.ref fa)->
   ∃fd:FuncData,(∀(s:Shared) (u:Value),BindsTo s fd ⟨[u],[]⟩ [(x,u)])/\
    ∀base:Heap,(K w.params).In base->base.Ns mainGlobals mg->FnOk l.prog w (K w.params) mg base (CX w) k fa fd [x] (sp w))
 (hsp: ∀(w:World) (H:Hp) (a:Addr) (ns:List Int),ns.length<=n->z7 H->SqL (K w.params) H a (ns.map V.int)->sp w [.ref a] H (λv _=>v=.bl true) λ_ _ _=>False)
 (hCX: ∀(w:World) (H:Hp) (s:Shared) (e:Value) (s':Shared),CX w [] H s (λ_ _ _=>False) e s'->False):
 W.WalkO q loose XP YP l.row.toRowW d [] (λf vs=>PySem.call f vs):=by
 refine Att.attach_call hn hdf λw s₀ s₁ mg mb fa o pm cd doc a vs ns G Y ho hd hcd hmg hobj hints hlen hg=>?_
 have KX:=hY w _ Y
 obtain⟨fd,hb,hF⟩:=F w mg fa _ KX G.T.g hmg
 exact vh KX G.T.g G.T.b G.T.builtins G.T.nolimit hg hobj hints (Nat.le_trans hlen hn2) hr hF hb (λH hO hS=>hsp w H a ns hlen hO hS) λH e s'=>hCX w H s₁ e s'
def ba(s:Stmt):Arguments:=match s with
 | .FunctionDef _ a _ _ _ _ _ _ _ _=>a
 |_=>{posonlyargs:=[],args:=[],vararg:=none,kwonlyargs:=[],kw_defaults:=[],kwarg:=none,defaults:=[]}
def aQ(s:Stmt):List Stmt:=match s with
 | .FunctionDef _ _ b _ _ _ _ _ _ _=>b
 |_=>[]
def ao(s:Stmt):Scope:=match s with
 | .FunctionDef _ _ _ _ _ _ sc _ _ _=>sc
 |_=>{kind:=.function,names:=[],isGenerator:=false,isCoroutine:=false}
abbrev oB:vz:=λ_ _ _ _ _ _=>False
abbrev E0:XK:=λ_ _ _=>False
theorem vi {X:Cx}:qF oB X E0:=λ_ _ _ _ _ _ _ h=>h.elim
structure Fun(K:W.Frag)(x qual:Str)(st:Stmt)(f:Addr)(fd:FuncData):Prop where
 ex: ∃(oc:Value) (od:Option Addr) (kV doc pm:Value) (an:Option Addr) (cdv ct:Value) (osl:Array (Option Value)),
  fd=W.fnOf x qual (ba st) (aQ st) (ao st) .none kV doc pm an cdv ct/\K.lookup f=some ⟨oc,od,.func fd,osl⟩/\W.codeIn K cdv qual=true
 kp:W.keepIn K (.ref f)=true
section
variable {P:Program}{w:World}{K:W.Frag}{mg:Str->Option Value}{base:Heap}
theorem Fun.ok {x qual:Str}{st:Stmt}{f:Addr}{fd:FuncData}{N ps:List Str}{k:Nat}{sp:Sp}(F:Fun K x qual st f fd)(S:FnScope N ps (ao st))(len: ∀vs H Q E,sp vs H Q E->vs.length=ps.length)
 (hbody: ∀(cdv:Value) (A:Around) (outer:List Env) (s:Shared) (H:Hp) (vs:List V) (Q:VK) (E:XK),Room k (A.deeper (envOfC qual (ao st) s.heap.objs.size f cdv))->sp vs H Q E->
   ∃t,PSs (mi oB P w K mg base N qual (ao st) f cdv A outer s H E).nox (aQ st) t/\t {nx:=λ_ H'=>Q .non H',rt:=Q} (start N vs) H):FnOk P w K mg base oB (k+1) f fd ps sp:=by
 obtain⟨oc,od,kV,doc,pm,an,cdv,ct,osl,rfl,lk,hcd⟩:=F.ex
 refine Bk lk hcd S len λA outer s H vs Q E hr hsp=>?_
 obtain⟨t,h,q⟩:=hbody cdv A outer s H vs Q E hr hsp
 exact⟨t,h.nox,q⟩
theorem Fun.binds {x qual:Str}{st:Stmt}{f:Addr}{fd:FuncData}{ps:List Str}(F:Fun K x qual st f fd)
 (h: ∀(kV doc pm:Value) (an:Option Addr) (cdv ct:Value) (us:List Value),us.length=ps.length->bindArgs (W.fnOf x qual (ba st) (aQ st) (ao st) .none kV doc pm an cdv ct) ⟨us,[]⟩=pure (ps.zip us)):Binds K fd ps []:=by
 obtain⟨oc,od,kV,doc,pm,an,cdv,ct,osl,rfl,lk,hcd⟩:=F.ex
 exact .all (h kV doc pm an cdv ct)
theorem bB {x qual:Str}{st:Stmt}{f:Addr}{oc:Value}{od an:Option Addr}{osl:Array (Option Value)}{kV doc pm cdv ct:Value}(l:K.lookup f=some ⟨oc,od,.func (W.fnOf x qual (ba st) (aQ st) (ao st) .none kV doc pm an cdv ct),osl⟩)
 (c:W.codeIn K cdv qual=true) (k:W.keepIn K (.ref f)=true):Fun K x qual st f (W.fnOf x qual (ba st) (aQ st) (ao st) .none kV doc pm an cdv ct):=⟨⟨oc,od,kV,doc,pm,an,cdv,ct,osl,rfl,l,c⟩,k⟩
end
theorem ka {A:Around}{k:Nat}(hr:Room k A):A.units+1<cLine:=Nat.lt_of_le_of_lt (Nat.add_le_add_left (by decide:1<=64) _) hr.units
theorem iF {n:Nat}(h:n<=1000):n<sizeLine:=Nat.lt_of_le_of_lt h (by decide)
section
variable {X:Cx}
theorem pv(i:Nat){x:Str}{pos:Pos}(hN:X.N[i]? =some x:=by rfl)(hv:nT X.env.scope x:=by first|exact Or.inl rfl|exact Or.inr (Or.inl rfl)|exact Or.inr (Or.inr rfl))(hd:(x==("__debug__":Str))=false:=by decide)
 (hcd:(x==("__classdict__":Str))=false:=by decide):PE X (.Name x pos) (Ca i):=AS hN hv hd hcd
end
theorem uD {A B:Prop}(h:B):if false=true then A else B:=by
 rw[if_neg Bool.false_ne_true];exact h
theorem uh {A B:Prop}(h:A):if true=true then A else B:=by
 rw[if_pos rfl];exact h
def Same(H H':Hp):Prop:= ∀b o,H b=some o->H' b=some o
theorem Same.refl(H:Hp):Same H H:=λ_ _ h=>h
theorem Same.trans {H H1 H2:Hp}(a:Same H H1)(b:Same H1 H2):Same H H2:=λc o h=>b c o (a c o h)
theorem Same.free {H H':Hp}(e:Same H H'){l:Addr}(h:H' l=Option.none):H l=Option.none:=by
 cases q:H l with
 |none=>rfl
 |some o=>
  rw[e l o q] at h;cases h
theorem Same.seq {K:W.Frag}{H H':Hp}{a:Addr}{xs:List V}(e:Same H H')(h:SqL K H a xs):SqL K H' a xs:=by
 rcases h with(h|⟨o,h⟩)|h
 ·exact .inl (.inl (e _ _ h))
 ·exact .inl (.inr ⟨o,e _ _ h⟩)
 ·exact .inr h
inductive D where
 |non|bl (b:Bool)|int (i:Int)|str (x:Str)|tup (ds:List D)|lst (ds:List D)
 |scr (ds:List D)
def SqR(K:W.Frag)(H:Hp)(a:Addr)(xs:List V):Prop:=
 (∃o,H a=some (.frz o (.lst xs)))\/
   ∃(o:Obj) (its:Array Value) (n:Nat),K.lookup a=some o/\o.cls=.type "list"/\o.dict=none/\o.data=.seq its n/\its.size<=sizeLine/\Vals xs its.toList
theorem SqR.seq {K:W.Frag}{H:Hp}{a:Addr}{xs:List V}(h:SqR K H a xs):SqL K H a xs:=h.elim (λh=>.inl (.inr h)) .inr
theorem Same.seqR {K:W.Frag}{H H':Hp}{a:Addr}{xs:List V}(e:Same H H')(h:SqR K H a xs):SqR K H' a xs:=h.elim (λ⟨o,h⟩=>.inl ⟨o,e _ _ h⟩) .inr
mutual
inductive Rep (K:W.Frag) (F:Hp):V->D->Prop
 |non:Rep K F .non .non
 |bl {b:Bool}:Rep K F (.bl b) (.bl b)
 |int {i:Int}:Rep K F (.int i) (.int i)
 |str {x:Str}:Rep K F (.str x) (.str x)
 |tup {a:Addr} {xs:List V} {ds:List D}:SqT K F a xs->Reps K F xs ds->Rep K F (.ref a) (.tup ds)
 |lst {a:Addr} {xs:List V} {ds:List D}:F a=some (.lst xs)->Reps K F xs ds->Rep K F (.ref a) (.lst ds)
 |scr {a:Addr} {xs:List V} {ds:List D}:SqR K F a xs->Reps K F xs ds->Rep K F (.ref a) (.scr ds)
inductive Reps (K:W.Frag) (F:Hp):List V->List D->Prop
 |nil:Reps K F [] []
 |cons {x:V} {d:D} {xs:List V} {ds:List D}:Rep K F x d->Reps K F xs ds->Reps K F (x::xs) (d::ds)
end
theorem Same.seqT {K:W.Frag}{H H':Hp}{a:Addr}{xs:List V}(e:Same H H')(h:SqT K H a xs):SqT K H' a xs:=by
 rcases h with(h|⟨o,h⟩)|h
 ·exact .inl (.inl (e _ _ h))
 ·exact .inl (.inr ⟨o,e _ _ h⟩)
 ·exact .inr h
mutual
theorem Rep.mono {K:W.Frag}{F G:Hp}(s:Same F G): ∀ {v:V} {d:D},Rep K F v d->Rep K G v d
 |_,_,.non=>.non
 |_,_,.bl=>.bl
 |_,_,.int=>.int
 |_,_,.str=>.str
 |_,_,.tup h r=>.tup (Same.seqT s h) (Reps.mono s r)
 |_,_,.lst h r=>.lst (s _ _ h) (Reps.mono s r)
 |_,_,.scr h r=>.scr (Same.seqR s h) (Reps.mono s r)
theorem Reps.mono {K:W.Frag}{F G:Hp}(s:Same F G): ∀ {v:List V} {d:List D},Reps K F v d->Reps K G v d
 |_,_,.nil=>.nil
 |_,_,.cons r t=>.cons (Rep.mono s r) (Reps.mono s t)
end
section
variable {K:W.Frag}{F G H:Hp}
theorem Reps.length: ∀ {xs:List V} {ds:List D},Reps K F xs ds->xs.length=ds.length
 |_,_,.nil=>rfl
 |_,_,.cons _ t=>by simp[t.length]
theorem Reps.get: ∀ {xs:List V} {ds:List D} {i:Nat} {d:D},Reps K F xs ds->ds[i]? =some d-> ∃x,xs[i]? =some x/\Rep K F x d
 |_,_,_,_,.nil,e=>by simp at e
 |_,_,0,_,.cons r _,e=>by simp at e;subst e;exact⟨_,rfl,r⟩
 |_,_,i+1,d,.cons _ t,e=>by
  obtain⟨u,h1,h2⟩:=Reps.get (i:=i) (d:=d) t (by simpa using e)
  exact⟨u,by simpa using h1,h2⟩
theorem Reps.get' {xs:List V}{ds:List D}{i:Nat}{x:V}(r:Reps K F xs ds)(e:xs[i]? =some x): ∃d,ds[i]? =some d/\Rep K F x d:=by
 have hl:=r.length
 have hi:=(List.getElem?_eq_some_iff.mp e).1
 have e2:ds[i]? =some ds[i]:=List.getElem?_eq_getElem (by omega)
 obtain⟨y,h1,h2⟩:=r.get e2
 rw[e] at h1;cases h1;exact⟨_,e2,h2⟩
theorem Reps.append: ∀ {xs ys:List V} {us ws:List D},Reps K F xs us->Reps K F ys ws->Reps K F (xs++ys) (us++ws)
 |_,_,_,_,.nil,s=>s
 |_,_,_,_,.cons r t,s=>.cons r (Reps.append t s)
theorem Reps.set {x:V}{u:D}(r:Rep K F x u): ∀ {xs:List V} {us:List D} (i:Nat),Reps K F xs us->Reps K F (xs.set i x) (us.set i u)
 |_,_,_,.nil=>.nil
 |_,_,0,.cons _ t=>.cons r t
 |_,_,i+1,.cons q t=>.cons q (Reps.set r i t)
theorem Reps.eraseIdx: ∀ {xs:List V} {us:List D} (i:Nat),Reps K F xs us->Reps K F (xs.eraseIdx i) (us.eraseIdx i)
 |_,_,_,.nil=>.nil
 |_,_,0,.cons _ t=>t
 |_,_,i+1,.cons q t=>.cons q (Reps.eraseIdx i t)
end
abbrev bn:=Addr->Bool
def vw(H:Hp)(hid:bn):Hp:=λb=>if hid b=true then none else H b
def bj(hid:bn)(a:Addr):bn:=λb=>hid b||decide (b=a)
def fR(hid:bn)(a:Addr):bn:=λb=>hid b&& !decide (b=a)
theorem vw_some {H:Hp}{hid:bn}{b:Addr}{o:HO}:vw H hid b=some o↔hid b=false/\H b=some o:=by
 unfold vw;cases hb:hid b<;>simp
theorem dE(H:Hp)(hid:bn):Same (vw H hid) H:=λb o h=>(vw_some.mp h).2
theorem aI {H H':Hp}{hid:bn}(s:Same H H'):Same (vw H hid) (vw H' hid):=λb o h=>vw_some.mpr ⟨(vw_some.mp h).1,s _ _ (vw_some.mp h).2⟩
theorem sG {H H':Hp}{hid:bn}(s: ∀b o,H b=some o->hid b=false->H' b=some o):Same (vw H hid) (vw H' hid):=λb o h=>vw_some.mpr ⟨(vw_some.mp h).1,s _ _ (vw_some.mp h).2 (vw_some.mp h).1⟩
theorem cv {H:Hp}{hid:bn}{a:Addr}{o:HO}(h:hid a=true):vw (bd H a o) hid=vw H hid:=by
 funext b;unfold vw bd
 by_cases e:b=a
 ·subst e;simp[h]
 ·simp[e]
theorem fB {H:Hp}{hid hid':bn}(h: ∀b,hid' b=true->hid b=true):Same (vw H hid) (vw H hid'):=λb o q=>by
 obtain⟨q1,q2⟩:=vw_some.mp q
 refine vw_some.mpr ⟨?_,q2⟩
 cases e:hid' b with
 |false=>rfl
 |true=>rw[h b e] at q1;cases q1
theorem oA {H:Hp}{hid:bn}{a:Addr}{o:HO}(h:H a=none):vw (bd H a o) (bj hid a)=vw H hid:=by
 funext b;unfold vw bd bj
 by_cases e:b=a
 ·subst e
  cases hb:hid b<;>simp[h]
 ·simp[e]
inductive NO where
 |l (ds:List D)
 |k (kvs:List (aV×D))
inductive Ob where
 |nst (us:List NO)
 |dR (kvs:List (aV×D))
 |dRs (l:List (List (aV×D)))
 |exc (x:Str) (n:Int)
 |dK (kvs:List (aV×D))
 |dT (kvs:List (List aV×D))
 |set (ds:List D)
 |old (d:D)
 |jnk
 |tset (ks:List (List Int))
 |dF (kvs:List (List aV×D))
inductive Sl where
 |no
 |v (d:D)
 |own (ds:List D)
 |arg (ds:List D)
 |ob (b:Ob)
abbrev aG:=List Sl
structure Ct where
 H₀:Hp
 hid₀:bn
 mu:Addr->Bool
def Cd(K:W.Frag)(x:Str)(n:Int)(a:Addr)(h:Heap):Prop:= ∃C o,W.nsIn K mainGlobals x=some (some (.ref C))/\h.get? a=some o/\o.cls=.ref C/\o.dict=none/\W.notCls o=true
def Cr:Option HO->Bool
 |some (.lst _)=>true
 |_=>false
def fv(c:Ct)(F:Hp):Hp:=λb=>if(c.H₀ b).isSome=true/\Cr (F b)=true then none else F b
def ov(c:Ct)(F:Hp):Hp:=λb=>if(c.H₀ b).isSome=true then F b else none
theorem fv_some {c:Ct}{F:Hp}{b:Addr}{o:HO}:fv c F b=some o↔(Cr (some o)=true->c.H₀ b=none)/\F b=some o:=by
 unfold fv;constructor
 ·intro h
  split at h
  ·cases h
  ·rename_i hn
   refine⟨λq=>?_,h⟩
   rw[h] at hn;cases hb:c.H₀ b with
   |none=>rfl
   |some u=>exact absurd ⟨by rw[hb];rfl,q⟩ hn
 ·rintro⟨h1,h2⟩
  rw[if_neg,h2]
  rintro⟨q1,q2⟩
  rw[h2] at q2;rw[h1 q2] at q1;cases q1
theorem ov_some {c:Ct}{F:Hp}{b:Addr}{o:HO}:ov c F b=some o↔(∃u,c.H₀ b=some u)/\F b=some o:=by
 unfold ov;cases hb:c.H₀ b<;>simp
theorem yv {c:Ct}{F G:Hp}(s:Same F G):Same (fv c F) (fv c G):=λb o h=>fv_some.mpr ⟨(fv_some.mp h).1,s _ _ (fv_some.mp h).2⟩
theorem x8 {c:Ct}{F G:Hp}(s:Same F G):Same (ov c F) (ov c G):=λb o h=>ov_some.mpr ⟨(ov_some.mp h).1,s _ _ (ov_some.mp h).2⟩
def NOk(K:W.Frag)(c:Ct)(hid:bn)(H:Hp)(p a:Addr):NO->Prop
 | .l ds=>(hid a=true/\c.H₀ a=none)/\ ∃xs:List V,H a=some (.nst p (.lst xs))/\Reps K (vw H hid) xs ds
 | .k kvs=>(hid a=true/\c.H₀ a=none)/\ ∃us:List (aV×V),H a=some (.nst p (.dK us))/\us.map (·.1)=kvs.map (·.1)/\Reps K (vw H hid) (us.map (·.2)) (kvs.map (·.2))
theorem NOk.mono {K:W.Frag}{c:Ct}{hid hid':bn}{H H':Hp}{p a:Addr}{b:NO}(h:NOk K c hid H p a b)(k: ∀u,H a=some (.nst p u)->H' a=some (.nst p u))(s:Same (vw H hid) (vw H' hid'))(w:(∃u,H a=some (.nst p u))->hid' a=true):NOk K c hid' H' p a b:=by
 cases b with
 |l ds=>obtain⟨h1,us,h2,h3⟩:=h;exact⟨⟨w ⟨_,h2⟩,h1.2⟩,us,k _ h2,h3.mono s⟩
 |k kvs=>obtain⟨h1,us,h2,h3,h4⟩:=h;exact⟨⟨w ⟨_,h2⟩,h1.2⟩,us,k _ h2,h3,h4.mono s⟩
def DRd(K:W.Frag)(W:Hp)(a:Addr)(kvs:List (aV×D)):Prop:= ∃o us,W a=some (.frz o (.dK us))/\us.map (·.1)=kvs.map (·.1)/\Reps K W (us.map (·.2)) (kvs.map (·.2))
theorem DRd.mono {K:W.Frag}{W W':Hp}{a:Addr}{kvs:List (aV×D)}(h:DRd K W a kvs)(s:Same W W'):DRd K W' a kvs:=by
 obtain⟨o,us,h1,h2,h3⟩:=h
 exact⟨o,us,s _ _ h1,h2,h3.mono s⟩
def ObOk(K:W.Frag)(c:Ct)(hid:bn)(H:Hp)(a:Addr):Ob->Prop
 | .nst us=>(hid a=true/\c.H₀ a=none)/\ ∃bs:List Addr,H a=some (.lst (bs.map V.ref))/\bs.Nodup/\Paired (NOk K c hid H a) bs us
 | .dR kvs=>DRd K (vw H hid) a kvs
 | .dRs l=> ∃bs:List Addr,vw H hid a=some (.lst (bs.map V.ref))/\Paired (DRd K (vw H hid)) bs l
 | .exc x n=> ∃φ,vw H hid a=some (.ext φ)/\ ∀h,φ h->Cd K x n a h
 | .dK kvs=>(hid a=true/\c.H₀ a=none)/\ ∃us:List (aV×V),H a=some (.dK us)/\us.map (·.1)=kvs.map (·.1)/\Reps K (vw H hid) (us.map (·.2)) (kvs.map (·.2))
 | .dT kvs=>(hid a=true/\c.H₀ a=none)/\ ∃us:List (List aV×V),H a=some (.dT us)/\us.map (·.1)=kvs.map (·.1)/\Reps K (vw H hid) (us.map (·.2)) (kvs.map (·.2))
 | .set ds=>(hid a=true/\c.H₀ a=none)/\ ∃xs:List V,H a=some (.lst xs)/\Reps K (fv c (vw H hid)) xs ds
 | .old d=>Rep K (ov c (vw H hid)) (.ref a) d
 | .jnk=>(hid a=true/\c.H₀ a=none)/\ ∃xs:List V,H a=some (.lst xs)
 | .tset ks=>(hid a=true/\c.H₀ a=none)/\ ∃xs:List (List Int×Addr),H a=some (.tst xs)/\(xs.map (·.1)).Perm ks/\Reps K (vw H hid) (xs.map λx=>V.ref x.2) (xs.map λx=>D.tup (x.1.map D.int))
 | .dF kvs=>(hid a=true/\c.H₀ a=none)/\ ∃(o:Obj) (us:List (List aV×V)),H a=some (.frz o (.dT us))/\us.map (·.1)=kvs.map (·.1)/\Reps K (vw H hid) (us.map (·.2)) (kvs.map (·.2))
def nC:Ob->Prop
 | .exc _ _=>False
 | .old _=>False
 | .dR _=>False
 | .dRs _=>False
 |_=>True
def At(H:Hp)(a x:Addr):Prop:=x=a\/ ∃u,H x=some (.nst a u)
theorem At.ne {H:Hp}{a a' x:Addr}{o:HO}(hx:At H a' x)(ne:a'≠a)(ha:H a=some o)(hn: ∀p u,o≠ .nst p u:=by intro _ _ e;cases e):x≠a:=λe=>by
 subst e;rcases hx with rfl|⟨u,hu⟩
 ·exact ne rfl
 ·rw[ha] at hu;cases hu;exact hn _ _ rfl
theorem ObOk.mono {K:W.Frag}{c:Ct}{hid hid':bn}{H H':Hp}{a:Addr}{b:Ob}(h:ObOk K c hid H a b)(k:nC b-> ∀x,At H a x-> ∀o,H x=some o->H' x=some o)(s:Same (vw H hid) (vw H' hid'))(w:nC b-> ∀x,At H a x->hid x=true->hid' x=true):ObOk K c hid' H' a b:=by
 have k1:nC b-> ∀o,H a=some o->H' a=some o:=λo=>k o a (.inl rfl)
 have w1:nC b->hid a=true->hid' a=true:=λo=>w o a (.inl rfl)
 cases b with
 |nst us=>
  obtain⟨h1,bs,h2,h3,h4⟩:=h
  refine⟨⟨w1 trivial h1.1,h1.2⟩,bs,k1 trivial _ h2,h3,Paired.mapP h4 λx y z=>z.mono (λu q=>k trivial x (.inr ⟨u,q⟩) _ q) s λq=>w trivial x (.inr q) ?_⟩
  cases y with
  |l ds=>exact z.1.1
  |k kvs=>exact z.1.1
 |dR kvs=>exact DRd.mono h s
 |dRs l=>obtain⟨bs,h1,h2⟩:=h;exact⟨bs,s _ _ h1,Paired.mapP h2 λ_ _ z=>z.mono s⟩
 |exc x n=>obtain⟨φ,h1,h2⟩:=h;exact⟨φ,s _ _ h1,h2⟩
 |dK kvs=>obtain⟨h1,us,h2,h3,h4⟩:=h;exact⟨⟨w1 trivial h1.1,h1.2⟩,us,k1 trivial _ h2,h3,h4.mono s⟩
 |dT kvs=>obtain⟨h1,us,h2,h3,h4⟩:=h;exact⟨⟨w1 trivial h1.1,h1.2⟩,us,k1 trivial _ h2,h3,h4.mono s⟩
 |set ds=>obtain⟨h1,us,h2,h3⟩:=h;exact⟨⟨w1 trivial h1.1,h1.2⟩,us,k1 trivial _ h2,h3.mono (yv s)⟩
 |old d=>exact Rep.mono (x8 s) h
 |jnk=>obtain⟨h1,us,h2⟩:=h;exact⟨⟨w1 trivial h1.1,h1.2⟩,us,k1 trivial _ h2⟩
 |tset ks=>obtain⟨h1,us,h2,h3,h4⟩:=h;exact⟨⟨w1 trivial h1.1,h1.2⟩,us,k1 trivial _ h2,h3,h4.mono s⟩
 |dF kvs=>obtain⟨h1,o,us,h2,h3,h4⟩:=h;exact⟨⟨w1 trivial h1.1,h1.2⟩,o,us,k1 trivial _ h2,h3,h4.mono s⟩
theorem ObOk.hid {K:W.Frag}{c:Ct}{hid:bn}{H:Hp}{a:Addr}{b:Ob}(h:ObOk K c hid H a b)(o:nC b):hid a=true:=by
 cases b with
 |nst us=>exact h.1.1
 |dR kvs=>exact o.elim
 |dRs l=>exact o.elim
 |exc x n=>exact o.elim
 |dK kvs=>exact h.1.1
 |dT kvs=>exact h.1.1
 |set ds=>exact h.1.1
 |old d=>exact o.elim
 |jnk=>exact h.1.1
 |tset ks=>exact h.1.1
 |dF kvs=>exact h.1.1
def SlOk(K:W.Frag)(c:Ct)(hid:bn)(σ:St)(H:Hp)(i:Nat):Sl->Prop
 | .no=>True
 | .v d=> ∃x,σ[i]? =some (some x)/\Rep K (vw H hid) x d
 | .own ds=> ∃a xs,σ[i]? =some (some (.ref a))/\H a=some (.lst xs)/\hid a=true/\c.H₀ a=none/\Reps K (vw H hid) xs ds
 | .arg ds=> ∃a xs,σ[i]? =some (some (.ref a))/\H a=some (.lst xs)/\hid a=true/\c.mu a=true/\Reps K (vw H hid) xs ds
 | .ob b=> ∃a,σ[i]? =some (some (.ref a))/\ObOk K c hid H a b
def Ow:Option Sl->Prop
 |some (.own _)=>True
 |some (.arg _)=>True
 |some (.ob b)=>nC b
 |_=>False
structure SR(K:W.Frag)(c:Ct)(hid:bn)(ρ:aG)(σ:St)(H:Hp):Prop where
 tr: ∀b,hid b=true-> ∃o,H b=some o
 ht: ∀b xs,hid b=true->H b≠some (.tup xs)
 h0: ∀b,c.hid₀ b=true->hid b=true
 kp: ∀b o,c.H₀ b=some o->c.mu b=false->H b=some o
 t0: ∀b o,c.H₀ b=some o-> ∃o',H b=some o'
 c0: ∀b,c.hid₀ b=true-> ∃o,c.H₀ b=some o
 m0: ∀b,c.mu b=true->c.hid₀ b=true
 len:σ.length=ρ.length
 sl: ∀(i:Nat) (s:Sl),ρ[i]? =some s->SlOk K c hid σ H i s
 ap: ∀(i j:Nat) (a:Addr),i≠j->Ow ρ[i]? ->Ow ρ[j]? ->σ[i]? =some (some (.ref a))->σ[j]? =some (some (.ref a))->False
section
variable {K:W.Frag}{c:Ct}{hid:bn}{ρ:aG}{σ:St}{H H':Hp}{i:Nat}
theorem SlOk.ext {s:Sl}(h:SlOk K c hid σ H i s)(e:Same H H'):SlOk K c hid σ H' i s:=by
 cases s with
 |no=>trivial
 |v d=>obtain⟨x,h1,h2⟩:=h;exact⟨x,h1,h2.mono (aI e)⟩
 |own ds=>obtain⟨a,xs,h1,h2,h3,h4,h5⟩:=h;exact⟨a,xs,h1,e _ _ h2,h3,h4,h5.mono (aI e)⟩
 |arg ds=>obtain⟨a,xs,h1,h2,h3,h4,h5⟩:=h;exact⟨a,xs,h1,e _ _ h2,h3,h4,h5.mono (aI e)⟩
 |ob b=>obtain⟨a,h1,h2⟩:=h;exact⟨a,h1,h2.mono (λ_ x _=>e x) (aI e) λ_ _ _ q=>q⟩
theorem SR.ext(h:SR K c hid ρ σ H)(e:Same H H'):SR K c hid ρ σ H' where
 tr:=λb hb=>let⟨o,q⟩:=h.tr b hb;⟨o,e _ _ q⟩
 ht:=λb xs hb q=>let⟨o,w⟩:=h.tr b hb;by have z:=e _ _ w;rw[q] at z;cases z;exact h.ht b xs hb w
 h0:=h.h0
 kp:=λb o q m=>e _ _ (h.kp b o q m)
 t0:=λb o q=>let⟨o',q'⟩:=h.t0 b o q;⟨o',e _ _ q'⟩
 c0:=h.c0
 m0:=h.m0
 len:=h.len
 sl:=λi s q=>(h.sl i s q).ext e
 ap:=h.ap
def Bd(hid:bn)(H:Hp):Prop:=(∀b,hid b=true-> ∃o,H b=some o)/\ ∀b xs,hid b=true->H b≠some (.tup xs)
theorem SR.trk(h:SR K c hid ρ σ H):Bd hid H:=⟨h.tr,h.ht⟩
theorem SR.fresh(h:SR K c hid ρ σ H){a:Addr}(n:H a=none):hid a=false:=by
 cases e:hid a with
 |false=>rfl
 |true=>obtain⟨o,q⟩:=h.tr a e;rw[n] at q;cases q
theorem SR.fresh0(h:SR K c hid ρ σ H){a:Addr}(n:H a=none):c.H₀ a=none:=by
 cases e:c.H₀ a with
 |none=>rfl
 |some o=>obtain⟨o',q⟩:=h.t0 a o e;rw[n] at q;cases q
end
inductive Kd where
 |b|s|n
 deriving DecidableEq
def Rep1(K:W.Frag)(H W:Hp)(v:V)(d:D):Prop:=Rep K W v d\/ ∃a xs ds,v=.ref a/\d=.lst ds/\H a=some (.lst xs)/\Reps K W xs ds
def RN(K:W.Frag)(H H':Hp)(hid:bn)(v:V)(d:D):Prop:= ∃a xs ds,d=.lst ds/\v=.ref a/\H a=none/\H' a=some (.lst xs)/\Reps K (vw H' (bj hid a)) xs ds
def RK(K:W.Frag)(k:Kd)(H H':Hp)(hid:bn)(v:V)(d:D):Prop:=match k with
 | .b=>Rep1 K H' (vw H' hid) v d
 | .s=>Rep K (vw H' hid) v d
 | .n=>RN K H H' hid v d
section
variable {K:W.Frag}{c:Ct}{hid:bn}{ρ:aG}{σ:St}{H H' H'':Hp}{i:Nat}{v:V}{d:D}
theorem RN.rep(h:RN K H H' hid v d)(hf: ∀a,H a=none->hid a=false):Rep K (vw H' hid) v d:=by
 obtain⟨a,xs,ds,rfl,rfl,h1,h2,h3⟩:=h
 refine .lst (vw_some.mpr ⟨hf a h1,h2⟩) (h3.mono (fB λb q=>?_))
 unfold bj;rw[q];rfl
theorem RK.b(k:Kd)(h:RK K k H H' hid v d)(hf: ∀a,H a=none->hid a=false):Rep1 K H' (vw H' hid) v d:=by
 cases k with
 |b=>exact h
 |s=>exact .inl h
 |n=>exact .inl (RN.rep h hf)
theorem Rep1.ext {hid:bn}(h:Rep1 K H (vw H hid) v d)(e:Same H H'):Rep1 K H' (vw H' hid) v d:=by
 rcases h with h|⟨a,xs,ds,h1,h2,h3,h4⟩
 ·exact .inl (h.mono (aI e))
 ·exact .inr ⟨a,xs,ds,h1,h2,e _ _ h3,h4.mono (aI e)⟩
theorem Rep1.int {i:Int}(h:Rep1 K H (vw H hid) v (.int i)):v=.int i:=by
 rcases h with h|⟨a,xs,ds,h1,h2,_⟩
 ·cases h;rfl
 ·cases h2
theorem Rep1.bl {i:Bool}(h:Rep1 K H (vw H hid) v (.bl i)):v=.bl i:=by
 rcases h with h|⟨a,xs,ds,h1,h2,_⟩
 ·cases h;rfl
 ·cases h2
theorem Rep1.str {i:Str}(h:Rep1 K H (vw H hid) v (.str i)):v=.str i:=by
 rcases h with h|⟨a,xs,ds,h1,h2,_⟩
 ·cases h;rfl
 ·cases h2
theorem Rep1.non(h:Rep1 K H (vw H hid) v .non):v=.non:=by
 rcases h with h|⟨a,xs,ds,h1,h2,_⟩
 ·cases h;rfl
 ·cases h2
theorem Rep1.tup {ds:List D}(h:Rep1 K H (vw H hid) v (.tup ds)): ∃a xs,v=.ref a/\SqT K (vw H hid) a xs/\SqT K H a xs/\Reps K (vw H hid) xs ds:=by
 rcases h with h|⟨a,xs,ds,h1,h2,_⟩
 ·cases h with
  |tup q r=>exact⟨_,_,rfl,q,Same.seqT (dE _ _) q,r⟩
 ·cases h2
theorem Rep1.lst {ds:List D}(h:Rep1 K H (vw H hid) v (.lst ds)): ∃a xs,v=.ref a/\SqL K H a xs/\Reps K (vw H hid) xs ds:=by
 rcases h with h|⟨a,xs,ds,h1,h2,h3,h4⟩
 ·cases h with
  |lst q r=>exact⟨_,_,rfl,SqL.of (dE _ _ _ _ q),r⟩
 ·cases h2
  exact⟨a,xs,h1,SqL.of h3,h4⟩
theorem Rep1.scr {ds:List D}(h:Rep1 K H (vw H hid) v (.scr ds)): ∃a xs,v=.ref a/\SqL K H a xs/\Reps K (vw H hid) xs ds:=by
 rcases h with h|⟨a,xs,ds,h1,h2,h3,h4⟩
 ·cases h with
  |scr q r=>exact⟨_,_,rfl,(dE _ _).seq q.seq,r⟩
 ·cases h2
end
theorem PE.imp {X:Cx}{e:Expr}{t t':TE}(h:PE X e t)(i: ∀σ H Q,t' σ H Q->t σ H Q):PE X e t':=λae s σ H Q I q=>h ae s σ H Q I (i σ H Q q)
theorem PT.imp {X:Cx}{e:Expr}{t t':TT}(h:PT X e t)(i: ∀σ H Q,t' σ H Q->t σ H Q):PT X e t':=λae s σ H Q I q=>h ae s σ H Q I (i σ H Q q)
theorem PW.imp {X:Cx}{e:Expr}{t t':TT}(h:PW X e t)(i: ∀σ H Q,t' σ H Q->t σ H Q):PW X e t':=λwh ae s σ H Q I q=>h wh ae s σ H Q I (i σ H Q q)
theorem PA.imp {X:Cx}{e:List Expr}{t t':TA}(h:PA X e t)(i: ∀σ H Q,t' σ H Q->t σ H Q):PA X e t':=λp ae s σ H Q I q=>h p ae s σ H Q I (i σ H Q q)
theorem PS.imp {X:Cx}{e:Stmt}{t t':TS}(h:PS X e t)(i: ∀D σ H,t' D σ H->t D σ H):PS X e t':=λae s σ H D I q=>h ae s σ H D I (i D σ H q)
theorem PSs.imp {X:Cx}{e:List Stmt}{t t':TS}(h:PSs X e t)(i: ∀D σ H,t' D σ H->t D σ H):PSs X e t':=λae s σ H D I q=>h ae s σ H D I (i D σ H q)
abbrev FE:=aG->Option D
abbrev FT:=aG->Option Bool
abbrev FA:=aG->Option (List D)
def xt(K:W.Frag)(c:Ct)(hid:bn)(k:Kd)(f:FE)(ρ:aG):TE:=λσ H Q=>SR K c hid ρ σ H/\ ∃d,f ρ=some d/\ ∀v H',Same H H'->RK K k H H' hid v d->Q v H'
def De(K:W.Frag)(c:Ct)(hid:bn)(f:FT)(ρ:aG):TT:=λσ H Q=>SR K c hid ρ σ H/\ ∃d,f ρ=some d/\ ∀H',Same H H'->Q d H'
def D3(K:W.Frag)(c:Ct)(hid:bn)(f:FA)(ρ:aG):TA:=λσ H Q=>SR K c hid ρ σ H/\ ∃d,f ρ=some d/\ ∀vs H',Same H H'->Reps K (vw H' hid) vs d->Q vs H'
def DP(X:Cx)(c:Ct)(k:Kd)(e:Expr)(f:FE):Prop:= ∀hid ρ,PE X e (xt X.K c hid k f ρ)
def DT(X:Cx)(c:Ct)(e:Expr)(f:FT):Prop:= ∀hid ρ,PT X e (De X.K c hid f ρ)
def DW(X:Cx)(c:Ct)(e:Expr)(f:FT):Prop:= ∀hid ρ,PW X e (De X.K c hid f ρ)
def DA(X:Cx)(c:Ct)(es:List Expr)(f:FA):Prop:= ∀hid ρ,PA X es (D3 X.K c hid f ρ)
section
variable {X:Cx}{c:Ct}{e a b:Expr}{es:List Expr}{f g:FE}{k:Kd}{pos:Pos}
theorem DP.toS(h:DP X c .n e f):DP X c .s e f:=λhid ρ=>PE.imp (h hid ρ) λσ H Q ⟨sr,d,hd,q⟩=>⟨sr,d,hd,λv H' s r=>q v H' s (RN.rep r λa n=>sr.fresh n)⟩
def ah(i:Nat):FE:=λρ=>match ρ[i]? with
 |some (.v d)=>some d
 |_=>none
def dm(i:Nat):FE:=λρ=>match ρ[i]? with
 |some (.v d)=>some d
 |some (.own ds)=>some (.lst ds)
 |some (.arg ds)=>some (.lst ds)
 |_=>none
theorem af(i:Nat){x:Str}(hN:X.N[i]? =some x:=by rfl)(hv:nT X.env.scope x:=by first|exact Or.inl rfl|exact Or.inr (Or.inl rfl)|exact Or.inr (Or.inr rfl))(hd:(x==("__debug__":Str))=false:=by decide)
 (hcd:(x==("__classdict__":Str))=false:=by decide):DP X c .s (.Name x pos) (ah i):=λhid ρ=>PE.imp (pv i hN hv hd hcd) λσ H Q hq_=>by
 obtain⟨sr,d,hd,q⟩:=hq_
 unfold ah at hd;split at hd
 ·rename_i d' e'
  cases hd
  obtain⟨x,h1,h2⟩:=sr.sl i _ e'
  exact⟨x,h1,q x H (Same.refl _) h2⟩
 ·cases hd
theorem dJ(i:Nat){x:Str}(hN:X.N[i]? =some x:=by rfl)(hv:nT X.env.scope x:=by first|exact Or.inl rfl|exact Or.inr (Or.inl rfl)|exact Or.inr (Or.inr rfl))(hd:(x==("__debug__":Str))=false:=by decide)
 (hcd:(x==("__classdict__":Str))=false:=by decide):DP X c .b (.Name x pos) (dm i):=λhid ρ=>PE.imp (pv i hN hv hd hcd) λσ H Q hq_=>by
 obtain⟨sr,d,hd,q⟩:=hq_
 unfold dm at hd;split at hd
 ·rename_i d' e'
  cases hd
  obtain⟨x,h1,h2⟩:=sr.sl i _ e'
  exact⟨x,h1,q x H (Same.refl _) (.inl h2)⟩
 ·rename_i d' e'
  cases hd
  obtain⟨a,xs,h1,h2,h3,h4,h5⟩:=sr.sl i _ e'
  exact⟨_,h1,q _ H (Same.refl _) (.inr ⟨a,xs,_,rfl,rfl,h2,h5⟩)⟩
 ·rename_i d' e'
  cases hd
  obtain⟨a,xs,h1,h2,h3,h4,h5⟩:=sr.sl i _ e'
  exact⟨_,h1,q _ H (Same.refl _) (.inr ⟨a,xs,_,rfl,rfl,h2,h5⟩)⟩
 ·cases hd
def az(d:D):FE:=λ_=>some d
theorem ak {i:Int}{j pos}:DP X c .s (.Constant (.int i) j pos) (az (.int i)):=λhid ρ=>PE.imp AH λσ H Q hq_=>by
 obtain⟨sr,d,hd,q⟩:=hq_
 cases hd;exact q _ H (Same.refl _) .int
theorem nA {i:Bool}{j pos}:DP X c .s (.Constant (.bool i) j pos) (az (.bl i)):=λhid ρ=>PE.imp BD λσ H Q hq_=>by
 obtain⟨sr,d,hd,q⟩:=hq_
 cases hd;exact q _ H (Same.refl _) .bl
def ar(F:D->D->Option D)(f g:FE):FE:=λρ=>(f ρ).bind λx=>(g ρ).bind λy=>F x y
theorem pQ {F:D->D->Option D}{ρ:aG}{d:D}(h:ar F f g ρ=some d): ∃x y,f ρ=some x/\g ρ=some y/\F x y=some d:=by
 unfold ar at h;cases e1:f ρ with
 |none=>rw[e1] at h;cases h
 |some x=>
  cases e2:g ρ with
  |none=>rw[e1,e2] at h;cases h
  |some y=>rw[e1,e2] at h;exact⟨x,y,rfl,rfl,h⟩
def ml(K:W.Frag)(k:Kd)(r:R2)(F:D->D->Option D):Prop:= ∀(H:Hp) (hid:bn) (v u:V) (x y d:D) (Q:VK),(∀a,H a=none->hid a=false)->F x y=some d->Rep1 K H (vw H hid) v x->Rep1 K H (vw H hid) u y->
 (∀w H',Same H H'->RK K k H H' hid w d->Q w H')->r v u H Q
theorem RK.left {K:W.Frag}{H H1 H':Hp}{hid:bn}{v:V}{d:D}(s:Same H H1)(h:RK K k H1 H' hid v d):RK K k H H' hid v d:=by
 cases k with
 |b=>exact h
 |s=>exact h
 |n=>
  obtain⟨a,xs,ds,h1,h2,h3,h4⟩:=h
  exact⟨a,xs,ds,h1,h2,s.free h3,h4⟩
theorem CB {r:R2}{F:D->D->Option D}{k1 k2:Kd}{hid:bn}{ρ:aG}(hF:ml X.K k r F){σ:St}{H:Hp}{Q:VK}(h:xt X.K c hid k (ar F f g) ρ σ H Q):Bb r (xt X.K c hid k1 f ρ) (xt X.K c hid k2 g ρ) σ H Q:=by
 obtain⟨sr,d,hd,q⟩:=h
 obtain⟨x,y,e1,e2,e3⟩:=pQ hd
 refine⟨sr,x,e1,λv H1 s1 r1=>⟨sr.ext s1,y,e2,λu H2 s2 r2=>?_⟩⟩
 have b1:=(RK.b k1 r1 λa n=>sr.fresh n).ext s2
 have b2:=RK.b k2 r2 λa n=>(sr.ext s1).fresh n
 exact hF H2 hid v u x y d Q (λa n=>((sr.ext s1).ext s2).fresh n) e3 b1 b2 λw H' s3 r3=>q w H' ((s1.trans s2).trans s3) (RK.left (s1.trans s2) r3)
theorem m6 {op:Operator}{r:R2}{F:D->D->Option D}{k1 k2:Kd}(ho:jB X (binaryOp op) r)(hF:ml X.K k r F)(ha:DP X c k1 a f)(hb:DP X c k2 b g):DP X c k (.BinOp a op b pos) (ar F f g):=λhid ρ=>
 PE.imp (y0 ho (ha hid ρ) (hb hid ρ)) λσ H Q h=>CB hF h
theorem jR {op:CmpOp}{r:R2}{F:D->D->Option D}{k1 k2:Kd}(ho:jB X (compareOp op) r)(hF:ml X.K .s r F)(ha:DP X c k1 a f)(hb:DP X c k2 b g)(hm:behindInMarks op b=false):DP X c .s (.Compare a [op] [b] pos) (ar F f g):=λhid ρ=>
 PE.imp (yi ho (ha hid ρ) (hb hid ρ) hm) λσ H Q h=>CB hF h
def pY:Option D->Option Bool
 |some (.bl b)=>some b
 |_=>none
theorem bZ {op:CmpOp}{r:R2}{F:D->D->Option D}{k1 k2:Kd}(ho:jB X (compareOp op) r)(hF:ml X.K .s r F)(ha:DP X c k1 a f)(hb:DP X c k2 b g)(hm:behindInMarks op b=false):DT X c (.Compare a [op] [b] pos) (λρ=>pY (ar F f g ρ)):=λhid ρ=>
 PT.imp (yF ho (ha hid ρ) (hb hid ρ) hm) λσ H Q hq_=>by
  obtain⟨sr,d,hd,q⟩:=hq_
  refine CB (X:=X) (k:=.s) (F:=F) hF ?_
  dsimp only at hd;cases e:ar F f g ρ with
  |none=>rw[e] at hd;cases hd
  |some x=>
   rw[e] at hd;cases x with
   |bl z=>
    cases hd
    refine⟨sr,_,e,λv H' s r=>⟨d,?_,q H' s⟩⟩
    cases r;rfl
   |_=>cases hd
theorem aN {r:R2}{F:D->D->Option D}{k1 k2:Kd}(hr:IxR X r)(hF:ml X.K k r F)(ha:DP X c k1 a f)(hb:DP X c k2 b g)(hs:jh b):DP X c k (.Subscript a b pos) (ar F f g):=λhid ρ=>
 PE.imp (tM hr (ha hid ρ) (hb hid ρ) hs) λσ H Q h=>CB hF h
end
def i2(C:Int->Int->Bool)(G:Int->Int->D):D->D->Option D
 | .int i,.int j=>if C i j=true then some (G i j) else none
 |_,_=>none
section
variable {K:W.Frag}
theorem og {C:Int->Int->Bool}{G:Int->Int->D}{x y d:D}(h:i2 C G x y=some d): ∃i j,x=.int i/\y=.int j/\C i j=true/\d=G i j:=by
 unfold i2 at h;split at h
 ·split at h
  ·cases h;exact⟨_,_,rfl,rfl, ‹_›,rfl⟩
  ·cases h
 ·cases h
theorem ym {C:Int->Int->Prop}{B:Int->Int->Bool}{g:Int->Int->Int}(hC: ∀i j,B i j=true->C i j):ml K .s (rI C λi j=>.int (g i j)) (i2 B λi j=>.int (g i j)):=by
 intro H hid v u x y d Q hf h r1 r2 q;obtain⟨i,j,rfl,rfl,hc,rfl⟩:=og h
 cases r1.int;cases r2.int
 exact⟨i,j,rfl,rfl,hC i j hc,q _ H (Same.refl _) .int⟩
theorem wX {g:Int->Int->Int}:ml K .s (xX λi j=>.int (g i j)) (i2 (λ_ _=>true) λi j=>.int (g i j)):=by
 intro H hid v u x y d Q hf h r1 r2 q;obtain⟨i,j,rfl,rfl,hc,rfl⟩:=og h
 cases r1.int;cases r2.int
 exact⟨i,j,rfl,rfl,q _ H (Same.refl _) .int⟩
theorem kc {g:Int->Int->Bool}:ml K .s (xX λi j=>.bl (g i j)) (i2 (λ_ _=>true) λi j=>.bl (g i j)):=by
 intro H hid v u x y d Q hf h r1 r2 q;obtain⟨i,j,rfl,rfl,hc,rfl⟩:=og h
 cases r1.int;cases r2.int
 exact⟨i,j,rfl,rfl,q _ H (Same.refl _) .bl⟩
end
section
variable {X:Cx}{c:Ct}{e a b:Expr}{es rest:List Expr}{f g:FE}{p q:FT}{k:Kd}{pos:Pos}
def BF:D->Option Bool
 | .non=>some false
 | .bl b=>some b
 | .int i=>some (i !=0)
 | .str y=>if y.length<=sizeLine then some ((y.length:Int) !=0) else none
 | .lst ds=>some (!ds.isEmpty)
 | .tup ds=>some (!ds.isEmpty)
 | .scr ds=>some (!ds.isEmpty)
theorem Reps.isEmpty {K:W.Frag}{F:Hp}{xs:List V}{ds:List D}(r:Reps K F xs ds):xs.isEmpty=ds.isEmpty:=by cases r<;>rfl
theorem zU {K:W.Frag}{H:Hp}{hid:bn}{v:V}{d:D}{b:Bool}(h:BF d=some b)(r:Rep1 K H (vw H hid) v d):Ac K v H b:=by
 cases d with
 |non=>cases r.non;cases h;rfl
 |bl x=>cases r.bl;cases h;rfl
 |int i=>cases r.int;cases h;rfl
 |str y=>
  cases r.str
  have h':(if y.length<=sizeLine then some ((y.length:Int) !=0) else none)=some b:=h
  split at h'
  ·cases h';exact⟨‹_›,rfl⟩
  ·cases h'
 |lst ds=>
  obtain⟨a,xs,rfl,h1,h2⟩:=r.lst
  cases h
  exact .inl ⟨xs,h1,by rw[h2.isEmpty]⟩
 |tup ds=>
  obtain⟨a,xs,rfl,_,h1,h2⟩:=r.tup
  cases h
  exact .inr (.inl ⟨xs,h1,by rw[h2.isEmpty]⟩)
 |scr ds=>
  obtain⟨a,xs,rfl,h1,h2⟩:=r.scr
  cases h
  exact .inl ⟨xs,h1,by rw[h2.isEmpty]⟩
def gD(f:FE):FT:=λρ=>(f ρ).bind BF
theorem iy(ha:DP X c k a f)(he: ∀whole,isTrue a X.env whole=(do let v <-whole;standAt a.pos;holding [v] (truthy v)):=by intro _;rfl):DT X c a (gD f):=λhid ρ=>
 PT.imp (wT (ha hid ρ) he) λσ H Q hq_=>by
  obtain⟨sr,d,hd,q⟩:=hq_
  unfold gD at hd;cases e:f ρ with
  |none=>rw[e] at hd;cases hd
  |some x=>
   rw[e] at hd;exact⟨sr,x,e,λv H' s r=>⟨d,zU hd (RK.b k r λa n=>sr.fresh n),q H' s⟩⟩
def vW(p q:FT):FT:=λρ=>(p ρ).bind λb=>if b=true then q ρ else some false
def xy(p q:FT):FT:=λρ=>(p ρ).bind λb=>if b=true then some true else q ρ
def gp(p:FT):FT:=λρ=>(p ρ).map (!·)
theorem vS(ha:DT X c a p):DW X c (.BoolOp .Or [a] pos) p:=λhid ρ=>pw_or1 (ha hid ρ)
theorem vZ(ha:DT X c a p)(hb:DW X c (.BoolOp .Or (b::rest) pos) q):DW X c (.BoolOp .Or (a::b::rest) pos) (xy p q):=λhid ρ=>
 PW.imp (pw_or (ha hid ρ) (hb hid ρ)) λσ H Q hq_=>by
  obtain⟨sr,d,hd,hq⟩:=hq_
  unfold xy at hd;cases e:p ρ with
  |none=>rw[e] at hd;cases hd
  |some x=>
   rw[e] at hd;refine⟨sr,x,e,λH1 s1=>?_⟩
   cases x with
   |false=>exact uD ⟨sr.ext s1,d,hd,λH2 s2=>hq H2 (s1.trans s2)⟩
   |true=>cases hd;exact uh (hq H1 s1)
theorem DW.dt(h:DW X c e p):DT X c e p:=λhid ρ=>(h hid ρ).pt
theorem jI(ha:DT X c a p):DT X c (.UnaryOp .Not a pos) (gp p):=λhid ρ=>
 PT.imp (zZ (ha hid ρ)) λσ H Q hq_=>by
  obtain⟨sr,d,hd,hq⟩:=hq_
  unfold gp at hd;cases e:p ρ with
  |none=>rw[e] at hd;cases hd
  |some x=>rw[e] at hd;cases hd;exact⟨sr,x,e,λH1 s1=>hq H1 s1⟩
def xv(p:FT):FE:=λρ=>(p ρ).map D.bl
def bF(f:FE):FT:=λρ=>pY (f ρ)
theorem lA {ρ:aG}{b:Bool}(h:bF f ρ=some b):f ρ=some (.bl b):=by
 unfold bF pY at h;split at h
 ·cases h;assumption
 ·cases h
theorem AT(ha:DP X c .s a f)(hb:DP X c .s (.BoolOp .And (b::rest) pos) g):DP X c .s (.BoolOp .And (a::b::rest) pos) (xv (vW (bF f) (bF g))):=λhid ρ=>
 PE.imp (zB (ha hid ρ) (hb hid ρ)) λσ H Q hq_=>by
  obtain⟨sr,d,hd,hq⟩:=hq_
  unfold xv vW at hd;cases e:bF f ρ with
  |none=>rw[e] at hd;cases hd
  |some x=>
   rw[e] at hd;refine⟨sr,_,lA e,λv H1 s1 r=>?_⟩
   cases r
   refine⟨x,rfl,?_⟩
   cases x with
   |true=>
    refine uh ?_
    cases e2:bF g ρ with
    |none=>rw[show(some true:Option Bool).bind (λb=>if b=true then bF g ρ else some false)=bF g ρ from rfl,e2] at hd;cases hd
    |some y=>
     rw[show(some true:Option Bool).bind (λb=>if b=true then bF g ρ else some false)=bF g ρ from rfl,e2] at hd;cases hd
     exact⟨sr.ext s1,_,lA e2,λv2 H2 s2 r2=>hq v2 H2 (s1.trans s2) r2⟩
   |false=>cases hd;exact uD (hq _ H1 s1 .bl)
theorem zR {op}(h:DP X c k a f):DP X c k (.BoolOp op [a] pos) f:=λhid ρ=>Ax (h hid ρ)
theorem Ad(ha:DP X c .s a f):DP X c .s (.UnaryOp .Not a pos) (xv (gp (bF f))):=λhid ρ=>
 PE.imp (Ag (ha hid ρ)) λσ H Q hq_=>by
  obtain⟨sr,d,hd,hq⟩:=hq_
  unfold xv gp at hd;cases e:bF f ρ with
  |none=>rw[e] at hd;cases hd
  |some x=>
   rw[e] at hd;cases hd;refine⟨sr,_,lA e,λv H1 s1 r=>?_⟩
   cases r
   exact⟨x,rfl,hq _ H1 s1 .bl⟩
def zy(p:FT)(f g:FE):FE:=λρ=>(p ρ).bind λb=>if b=true then f ρ else g ρ
theorem Bu {t:Expr}(hk:k≠ .n)(ht:DT X c t p)(ha:DP X c k a f)(hb:DP X c k b g):DP X c k (.IfExp t a b pos) (zy p f g):=λhid ρ=>
 PE.imp (xg (ht hid ρ) (ha hid ρ) (hb hid ρ)) λσ H Q hq_=>by
  obtain⟨sr,d,hd,hq⟩:=hq_
  unfold zy at hd;cases e:p ρ with
  |none=>rw[e] at hd;cases hd
  |some x=>
   rw[e] at hd;refine⟨sr,x,e,λH1 s1=>?_⟩
   have lf: ∀ {v H2},RK X.K k H1 H2 hid v d->RK X.K k H H2 hid v d:=λ{v H2} r=>RK.left s1 r
   cases x with
   |true=>exact uh ⟨sr.ext s1,d,hd,λv H2 s2 r=>hq v H2 (s1.trans s2) (lf r)⟩
   |false=>exact uD ⟨sr.ext s1,d,hd,λv H2 s2 r=>hq v H2 (s1.trans s2) (lf r)⟩
variable {r r':R2}{h:FE}{e3:Expr}
def Al(F G:D->D->Option D)(f g h:FE):FE:=λρ=>(f ρ).bind λx=>(g ρ).bind λy=>(pY (F x y)).bind λk=>if k=true then(h ρ).bind λz=>G y z else some (.bl false)
theorem AI {F G:D->D->Option D}{k1 k2 k3:Kd}{hid:bn}{ρ:aG}(hF:ml X.K .s r F)(hG:ml X.K .s r' G){σ:St}{H:Hp}{Q:VK}(hh:xt X.K c hid .s (Al F G f g h) ρ σ H Q):
 v9 r r' (xt X.K c hid k1 f ρ) (xt X.K c hid k2 g ρ) (xt X.K c hid k3 h ρ) σ H Q:=by
 obtain⟨sr,d,hd,q⟩:=hh
 unfold Al at hd;cases e1:f ρ with
 |none=>rw[e1] at hd;cases hd
 |some x=>
  cases e2:g ρ with
  |none=>rw[e1,e2] at hd;cases hd
  |some y=>
   rw[e1,e2] at hd;have hd':(pY (F x y)).bind (λk=>if k=true then(h ρ).bind λz=>G y z else some (.bl false))=some d:=hd
   cases e3:F x y with
   |none=>rw[e3] at hd';cases hd'
   |some z=>
    cases z with
    |bl kk=>
     rw[e3] at hd';refine⟨sr,x,e1,λv H1 s1 r1=>⟨sr.ext s1,y,e2,λu H2 s2 r2=>?_⟩⟩
     have b1:=(RK.b k1 r1 λa n=>sr.fresh n).ext s2
     have b2:=RK.b k2 r2 λa n=>(sr.ext s1).fresh n
     have fr: ∀a,H2 a=none->hid a=false:=λa n=>((sr.ext s1).ext s2).fresh n
     refine hF H2 hid v u x y _ _ fr e3 b1 b2 λw H3 s3 r3=>?_
     cases r3
     refine⟨kk,rfl,?_⟩
     cases kk with
     |false=>cases hd';exact uD (q _ H3 ((s1.trans s2).trans s3) .bl)
     |true=>
      refine uh ?_
      cases e4:h ρ with
      |none=>rw[e4] at hd';cases hd'
      |some z=>
       rw[e4] at hd';have hd2:G y z=some d:=hd'
       refine⟨((sr.ext s1).ext s2).ext s3,z,e4,λw' H4 s4 r4=>?_⟩
       have b3:=RK.b k3 r4 λa n=>(((sr.ext s1).ext s2).ext s3).fresh n
       exact hG H4 hid u w' y z d Q (λa n=>((((sr.ext s1).ext s2).ext s3).ext s4).fresh n) hd2 ((b2.ext s3).ext s4) b3 λw2 H5 s5 r5=>q w2 H5 ((((s1.trans s2).trans s3).trans s4).trans s5) r5
    |_=>rw[e3] at hd';cases hd'
theorem B0 {op op':CmpOp}{F G:D->D->Option D}{k1 k2 k3:Kd}(ho:jB X (compareOp op) r)(ho':jB X (compareOp op') r')(hF:ml X.K .s r F)(hG:ml X.K .s r' G)(ha:DP X c k1 a f)(hb:DP X c k2 b g)(hc:DP X c k3 e3 h)
 (hm:lastMarks [op,op'] [b,e3]=false:=by with_unfolding_all rfl):DP X c .s (.Compare a [op,op'] [b,e3] pos) (Al F G f g h):=λhid ρ=>
 PE.imp (vE ho ho' (ha hid ρ) (hb hid ρ) (hc hid ρ) hm) λσ H Q hh=>AI hF hG hh
end
section
variable {X:Cx}{c:Ct}{e a b:Expr}{es rest:List Expr}{f g:FE}{fs:FA}{k:Kd}{pos:Pos}
def ag:FA:=λ_=>some []
def ab(f:FE)(fs:FA):FA:=λρ=>(f ρ).bind λd=>(fs ρ).map λr=>d::r
theorem lW {ρ:aG}{ds:List D}(h:ab f fs ρ=some ds): ∃d r,f ρ=some d/\fs ρ=some r/\ds=d::r:=by
 unfold ab at h;cases e1:f ρ with
 |none=>rw[e1] at h;cases h
 |some d=>
  cases e2:fs ρ with
  |none=>rw[e1,e2] at h;cases h
  |some r=>rw[e1,e2] at h;cases h;exact⟨d,r,rfl,rfl,rfl⟩
theorem au:DA X c [] ag:=λhid ρ=>PA.imp gk λσ H Q ⟨sr,d,hd,q⟩=>by cases hd;exact q [] H (Same.refl _) .nil
theorem ai(ha:DP X c .s e f)(hr:DA X c es fs)(hs:starEach (e::es) X.env=(false,eval e X.env)::starEach es X.env:=by rfl):DA X c (e::es) (ab f fs):=λhid ρ=>
 PA.imp (cH (ha hid ρ) (hr hid ρ) hs) λσ H Q hq_=>by
  obtain⟨sr,d,hd,q⟩:=hq_
  obtain⟨d1,r,e1,e2,rfl⟩:=lW hd
  exact⟨sr,d1,e1,λv H1 s1 r1=>⟨sr.ext s1,r,e2,λvs H2 s2 r2=>q _ H2 (s1.trans s2) (.cons (Rep.mono (aI s2) r1) r2)⟩⟩
def df(fs:FA):FE:=λρ=>(fs ρ).bind λds=>if ds.length<=sizeLine then some (.tup ds) else none
def cq(fs:FA):FE:=λρ=>(fs ρ).bind λds=>if ds.length<=sizeLine then some (.lst ds) else none
theorem t9 {ρ:aG}{d:D}(h:df fs ρ=some d): ∃ds,fs ρ=some ds/\ds.length<=sizeLine/\d=.tup ds:=by
 unfold df at h;cases e1:fs ρ with
 |none=>rw[e1] at h;cases h
 |some ds=>
  rw[e1] at h;have h':(if ds.length<=sizeLine then some (D.tup ds) else none)=some d:=h
  split at h'
  ·cases h';exact⟨ds,rfl, ‹_›,rfl⟩
  ·cases h'
theorem tW {ρ:aG}{d:D}(h:cq fs ρ=some d): ∃ds,fs ρ=some ds/\ds.length<=sizeLine/\d=.lst ds:=by
 unfold cq at h;cases e1:fs ρ with
 |none=>rw[e1] at h;cases h
 |some ds=>
  rw[e1] at h;have h':(if ds.length<=sizeLine then some (D.lst ds) else none)=some d:=h
  split at h'
  ·cases h';exact⟨ds,rfl, ‹_›,rfl⟩
  ·cases h'
theorem bh {H:Hp}{p:Addr}(h:H p=none)(o:HO):Same H (bd H p o):=λb u q=>by rw[aC (aT q h)];exact q
theorem lY {K:W.Frag}{H:Hp}{hid:bn}{p:Addr}{xs:List V}{ds:List D}(hn:H p=none)(hf:hid p=false)(r:Reps K (vw H hid) xs ds):Rep K (vw (bd H p (.tup xs)) hid) (.ref p) (.tup ds):=
 .tup (SqT.of (vw_some.mpr ⟨hf,aE⟩)) (r.mono (aI (bh hn _)))
theorem qN {K:W.Frag}{H H0:Hp}{hid:bn}{p:Addr}{xs:List V}{ds:List D}(hn:H p=none)(s:Same H0 H)(r:Reps K (vw H hid) xs ds):RN K H0 (bd H p (.lst xs)) hid (.ref p) (.lst ds):=
 ⟨p,xs,ds,rfl,rfl,s.free hn,aE,by rw[oA hn];exact r⟩
theorem gy {x1}(h:DA X c es fs):DP X c .s (.Tuple es x1 pos) (df fs):=λhid ρ=>PE.imp (qY (h hid ρ)) λσ H Q hq_=>by
 obtain⟨sr,d,hd,q⟩:=hq_
 obtain⟨ds,e1,hz,rfl⟩:=t9 hd
 exact⟨sr,ds,e1,λvs H1 s1 r1=>⟨by rw[r1.length];exact hz,λp hp=>q _ _ (s1.trans (bh hp _)) (lY hp ((sr.ext s1).fresh hp) r1)⟩⟩
theorem dL(h:DA X c es fs):DP X c .n (.List es pos) (cq fs):=λhid ρ=>PE.imp (Az (h hid ρ)) λσ H Q hq_=>by
 obtain⟨sr,d,hd,q⟩:=hq_
 obtain⟨ds,e1,hz,rfl⟩:=tW hd
 exact⟨sr,ds,e1,λvs H1 s1 r1=>⟨by rw[r1.length];exact hz,λp hp=>q _ _ (s1.trans (bh hp _)) (qN hp s1 r1)⟩⟩
abbrev Reps1(K:W.Frag)(H W:Hp):List V->List D->Prop:=Paired (Rep1 K H W)
def DR(K:W.Frag)(c:Ct)(hid:bn)(f:FA)(ρ:aG):TA:=λσ H Q=>SR K c hid ρ σ H/\ ∃d,f ρ=some d/\ ∀vs H',Same H H'->Reps1 K H' (vw H' hid) vs d->Q vs H'
def DB(X:Cx)(c:Ct)(es:List Expr)(f:FA):Prop:= ∀hid ρ,PA X es (DR X.K c hid f ρ)
theorem aX:DB X c [] ag:=λhid ρ=>PA.imp gk λσ H Q ⟨sr,d,hd,q⟩=>by cases hd;exact q [] H (Same.refl _) .nil
theorem aF(ha:DP X c k e f)(hr:DB X c es fs)(hs:starEach (e::es) X.env=(false,eval e X.env)::starEach es X.env:=by rfl):DB X c (e::es) (ab f fs):=λhid ρ=>
 PA.imp (cH (ha hid ρ) (hr hid ρ) hs) λσ H Q hq_=>by
  obtain⟨sr,d,hd,q⟩:=hq_
  obtain⟨d1,r,e1,e2,rfl⟩:=lW hd
  exact⟨sr,d1,e1,λv H1 s1 r1=>⟨sr.ext s1,r,e2,λvs H2 s2 r2=>q _ H2 (s1.trans s2) (.cons ((RK.b k r1 λa n=>sr.fresh n).ext s2) r2)⟩⟩
def gL(K:W.Frag)(k:Kd)(r:List V->Hp->VK->Prop)(F:List D->Option D):Prop:= ∀(H:Hp) (hid:bn) (vs:List V) (ds:List D) (d:D) (Q:VK),(∀a,H a=none->hid a=false)->F ds=some d->Reps1 K H (vw H hid) vs ds->
 (∀w H',Same H H'->RK K k H H' hid w d->Q w H')->r vs H Q
def aj(F:List D->Option D)(fs:FA):FE:=λρ=>(fs ρ).bind F
theorem lq {F:List D->Option D}{ρ:aG}{d:D}(h:aj F fs ρ=some d): ∃ds,fs ρ=some ds/\F ds=some d:=by
 unfold aj at h;cases e1:fs ρ with
 |none=>rw[e1] at h;cases h
 |some ds=>rw[e1] at h;exact⟨ds,rfl,h⟩
theorem BK {r:List V->Hp->VK->Prop}{F:List D->Option D}{hid:bn}{ρ:aG}(hF:gL X.K k r F){σ:St}{H:Hp}{Q:VK}(h:xt X.K c hid k (aj F fs) ρ σ H Q):Dc r (DR X.K c hid fs ρ) σ H Q:=by
 obtain⟨sr,d,hd,q⟩:=h
 obtain⟨ds,e1,e2⟩:=lq hd
 exact⟨sr,ds,e1,λvs H1 s1 r1=>hF H1 hid vs ds d Q (λa n=>(sr.ext s1).fresh n) e2 r1 λw H' s2 r2=>q w H' (s1.trans s2) (RK.left s1 r2)⟩
variable {x:Str}{p:Pos}{id T:String}{r:List V->Hp->VK->Prop}{F:List D->Option D}
theorem aK(hc:eB X (.builtin id) r)(hF:gL X.K k r F)(hm:X.mg x=none)(ha:DB X c (e::es) fs)(hg:Gl X x:=by rfl)(hv:bootBuiltins x=some (.builtin id):=by first|exact PySem.boot_len|rfl|kernel_rfl)(hn:x≠"__name__":=by decide)(hdb:(x==("__debug__":Str))=false:=by decide)
 (he:starEach (e::es) X.env=(false,eval e X.env)::starEach es X.env:=by rfl) (hpl:(backTo pos (starEach es X.env)).any (·.1)=false:=by rfl):DP X c k (.Call (.Name x p) (e::es) [] pos) (aj F fs):=λhid ρ=>
 PE.imp (lV hc hg hm hv (ha hid ρ) hn hdb he hpl) λσ H Q h=>BK hF h
theorem gF(hc:eB X (.type T) r)(hF:gL X.K k r F)(hm:X.mg x=none)(ha:DB X c (e::es) fs)(hg:Gl X x:=by rfl)(hv:bootBuiltins x=some (.type T):=by first|rfl|kernel_rfl)(hn:x≠"__name__":=by decide)(hdb:(x==("__debug__":Str))=false:=by decide)
 (he:starEach (e::es) X.env=(false,eval e X.env)::starEach es X.env:=by rfl) (hpl:(backTo pos (starEach es X.env)).any (·.1)=false:=by rfl):DP X c k (.Call (.Name x p) (e::es) [] pos) (aj F fs):=λhid ρ=>
 PE.imp (jN hc hg hm hv (ha hid ρ) hn hdb he hpl) λσ H Q h=>BK hF h
end
section
variable {K:W.Frag}
theorem Reps1.one {H W:Hp}{v:List V}{d:D}(r:Reps1 K H W v [d]): ∃x,v=[x]/\Rep1 K H W x d:=by
 cases r with
 |cons r t=>cases t;exact⟨_,rfl,r⟩
theorem Reps1.two {H W:Hp}{v:List V}{d d':D}(r:Reps1 K H W v [d,d']): ∃x y,v=[x,y]/\Rep1 K H W x d/\Rep1 K H W y d':=by
 cases r with
 |cons r t=>cases t with
  |cons r' t=>cases t;exact⟨_,_,rfl,r,r'⟩
def br:List D->Option D
 | [.lst ds]=>some (.int ds.length)
 | [.tup ds]=>some (.int ds.length)
 | [.scr ds]=>some (.int ds.length)
 |_=>none
theorem cU:gL K .s (λxs H Q=> ∃p ys,xs=[.ref p]/\(SqL K H p ys\/SqT K H p ys)/\Q (.int ys.length) H) br:=by
 intro H hid vs ds d Q hf h r q;unfold br at h;split at h
 ·cases h
  obtain⟨x,rfl,r1⟩:=Reps1.one r
  obtain⟨a,xs,rfl,h1,h2⟩:=r1.lst
  exact⟨a,xs,rfl,.inl h1,by rw[h2.length];exact q _ H (Same.refl _) .int⟩
 ·cases h
  obtain⟨x,rfl,r1⟩:=Reps1.one r
  obtain⟨a,xs,rfl,_,h1,h2⟩:=r1.tup
  exact⟨a,xs,rfl,.inr h1,by rw[h2.length];exact q _ H (Same.refl _) .int⟩
 ·cases h
  obtain⟨x,rfl,r1⟩:=Reps1.one r
  obtain⟨a,xs,rfl,h1,h2⟩:=r1.scr
  exact⟨a,xs,rfl,.inl h1,by rw[h2.length];exact q _ H (Same.refl _) .int⟩
 ·cases h
def pT:List D->Option D
 | [.int i]=>some (.int (if i<0 then -i else i))
 |_=>none
theorem Ao:gL K .s (λxs H Q=> ∃i,xs=[.int i]/\Q (.int (if i<0 then -i else i)) H) pT:=by
 intro H hid vs ds d Q hf h r q;unfold pT at h;split at h
 ·cases h
  obtain⟨x,rfl,r1⟩:=Reps1.one r
  cases r1.int
  exact⟨_,rfl,q _ H (Same.refl _) .int⟩
 ·cases h
def hX:List D->Option D
 | [.int i,.int j]=>some (.int (if j>i then j else i))
 |_=>none
theorem kJ:gL K .s (λxs H Q=> ∃i j,xs=[.int i,.int j]/\Q (.int (if j>i then j else i)) H) hX:=by
 intro H hid vs ds d Q hf h r q;unfold hX at h;split at h
 ·cases h
  obtain⟨x,y,rfl,r1,r2⟩:=Reps1.two r
  cases r1.int;cases r2.int
  exact⟨_,_,rfl,q _ H (Same.refl _) .int⟩
 ·cases h
def eU:List D->Option D
 | [.int i,.int j]=>some (.int (if j<i then j else i))
 |_=>none
theorem jx:gL K .s (λxs H Q=> ∃i j,xs=[.int i,.int j]/\Q (.int (if j<i then j else i)) H) eU:=by
 intro H hid vs ds d Q hf h r q;unfold eU at h;split at h
 ·cases h
  obtain⟨x,y,rfl,r1,r2⟩:=Reps1.two r
  cases r1.int;cases r2.int
  exact⟨_,_,rfl,q _ H (Same.refl _) .int⟩
 ·cases h
def ii:List D->Option D
 | [.lst ds]=>some (.tup ds)
 | [.tup ds]=>some (.tup ds)
 |_=>none
theorem pG:gL K .s (λxs H Q=> ∃p ys,xs=[.ref p]/\((SqL K H p ys/\ ∀l,H l=none->Q (.ref l) (bd H l (.tup ys)))\/(SqT K H p ys/\Q (.ref p) H))) ii:=by
 intro H hid vs ds d Q hf h r q;unfold ii at h;split at h
 ·cases h
  obtain⟨x,rfl,r1⟩:=Reps1.one r
  obtain⟨a,xs,rfl,h1,h2⟩:=r1.lst
  exact⟨a,xs,rfl,.inl ⟨h1,λl hl=>q _ _ (bh hl _) (lY hl (hf l hl) h2)⟩⟩
 ·cases h
  obtain⟨x,rfl,r1⟩:=Reps1.one r
  obtain⟨a,xs,rfl,h0,h1,h2⟩:=r1.tup
  exact⟨a,xs,rfl,.inr ⟨h1,q _ H (Same.refl _) (.tup h0 h2)⟩⟩
 ·cases h
def aM:D->D->Option D
 | .lst ds,.int i=>kN ds i
 | .tup ds,.int i=>kN ds i
 | .scr ds,.int i=>kN ds i
 |_,_=>none
theorem kK {F:Hp}{xs:List V}{ds:List D}{i:Int}{d:D}(r:Reps K F xs ds)(h:kN ds i=some d): ∃x,kN xs i=some x/\Rep K F x d:=by
 unfold kN at h⊢;rw[r.length];cases e:mn ds.length i with
 |none=>rw[e] at h;cases h
 |some j=>
  rw[e] at h;obtain⟨x,h1,h2⟩:=r.get (i:=j) h
  exact⟨x,h1,h2⟩
theorem aL:ml K .s (DU K) aM:=by
 intro H hid v u x y d Q hf h r1 r2 q;unfold aM at h;split at h
 ·cases r2.int
  obtain⟨a,xs,rfl,h1,h2⟩:=r1.lst
  obtain⟨z,h3,h4⟩:=kK h2 h
  exact .inl ⟨a,xs,_,z,rfl,rfl,h1,h3,q _ H (Same.refl _) h4⟩
 ·cases r2.int
  obtain⟨a,xs,rfl,_,h1,h2⟩:=r1.tup
  obtain⟨z,h3,h4⟩:=kK h2 h
  exact .inr (.inl ⟨a,xs,_,z,rfl,rfl,h1,h3,q _ H (Same.refl _) h4⟩)
 ·cases r2.int
  obtain⟨a,xs,rfl,h1,h2⟩:=r1.scr
  obtain⟨z,h3,h4⟩:=kK h2 h
  exact .inl ⟨a,xs,_,z,rfl,rfl,h1,h3,q _ H (Same.refl _) h4⟩
 ·cases h
end
abbrev GE:=aG->Option (D×aG)
abbrev GA:=aG->Option (List D×aG)
def Kept(hid:bn)(H H':Hp):Prop:= ∀b o,H b=some o->hid b=false->H' b=some o
theorem Kept.of {hid:bn}{H H':Hp}(s:Same H H'):Kept hid H H':=λb o q _=>s b o q
theorem Kept.trans {hid:bn}{H H1 H2:Hp}(a:Kept hid H H1)(b:Kept hid H1 H2):Kept hid H H2:=λc o q h=>b c o (a c o q h) h
theorem Kept.vw {hid:bn}{H H':Hp}(a:Kept hid H H'):Same (vw H hid) (vw H' hid):=sG a
def PostE(K:W.Frag)(c:Ct)(hid:bn)(k:Kd)(ρ':aG)(σ:St)(H H':Hp)(v:V)(d:D):Prop:=Kept hid H H'/\match k with
 | .n=> ∃a xs ds,d=.lst ds/\v=.ref a/\H a=none/\H' a=some (.lst xs)/\c.H₀ a=none/\hid a=false/\SR K c (bj hid a) ρ' σ H'/\Reps K (vw H' (bj hid a)) xs ds/\ ∀i:Nat,Ow ρ'[i]? ->σ[i]? ≠some (some (.ref a))
 |_=>SR K c hid ρ' σ H'/\Rep K (vw H' hid) v d
def CD(K:W.Frag)(c:Ct)(hid:bn)(k:Kd)(f:GE)(ρ:aG):TE:=λσ H Q=>SR K c hid ρ σ H/\ ∃d ρ',f ρ=some (d,ρ')/\ ∀v H',PostE K c hid k ρ' σ H H' v d->Q v H'
def DE(X:Cx)(c:Ct)(k:Kd)(e:Expr)(f:GE):Prop:= ∀hid ρ,PE X e (CD X.K c hid k f ρ)
def pu(f:FE):GE:=λρ=>(f ρ).map λd=>(d,ρ)
theorem xT {f:FE}{ρ ρ':aG}{d:D}(h:pu f ρ=some (d,ρ')):f ρ=some d/\ρ'=ρ:=by
 unfold pu at h;cases e:f ρ with
 |none=>rw[e] at h;cases h
 |some x=>rw[e] at h;cases h;exact⟨rfl,rfl⟩
section
variable {K:W.Frag}{c:Ct}{hid hid':bn}{ρ:aG}{σ:St}{H H':Hp}{i:Nat}{a:Addr}
theorem cE {hid:bn}{a b:Addr}(h:hid b=true):bj hid a b=true:=by unfold bj;rw[h];rfl
theorem bR {hid:bn}{a:Addr}:bj hid a a=true:=by unfold bj;simp
theorem SR.hide(h:SR K c hid ρ σ H)(e:Same H H')(n:H a=none){o:HO}(ho:H' a=some o)(hn: ∀xs,o≠ .tup xs:=by intro _ e;cases e):SR K c (bj hid a) ρ σ H':=by
 have sm:Same (vw H hid) (vw H' (bj hid a)):=λb o q=>by
  obtain⟨q1,q2⟩:=vw_some.mp q
  refine vw_some.mpr ⟨?_,e _ _ q2⟩
  unfold bj;rw[q1];have:b≠a:=aT q2 n
  simp[this]
 refine⟨λb hb=>?_,λb xs hb q=>by
  by_cases eb:b=a
  ·subst eb;rw[ho] at q;exact hn _ (Option.some.inj q)
  ·unfold bj at hb
   exact(h.ext e).ht b xs (by simpa [eb] using hb) q,λb q=>cE (h.h0 b q),(h.ext e).kp,(h.ext e).t0,h.c0,h.m0,h.len,λi s q=>?_,h.ap⟩
 ·by_cases eb:b=a
  ·subst eb;exact⟨_,ho⟩
  ·unfold bj at hb
   have:hid b=true:=by simpa [eb] using hb
   obtain⟨o',q⟩:=h.tr b this
   exact⟨o',e _ _ q⟩
 ·have z:=h.sl i s q
  cases s with
  |no=>trivial
  |v d=>obtain⟨x,h1,h2⟩:=z;exact⟨x,h1,h2.mono sm⟩
  |own ds=>obtain⟨a',xs,h1,h2,h3,h4,h5⟩:=z;exact⟨a',xs,h1,e _ _ h2,cE h3,h4,h5.mono sm⟩
  |arg ds=>obtain⟨a',xs,h1,h2,h3,h4,h5⟩:=z;exact⟨a',xs,h1,e _ _ h2,cE h3,h4,h5.mono sm⟩
  |ob b=>obtain⟨a',h1,h2⟩:=z;exact⟨a',h1,h2.mono (λ_ x _=>e x) sm λ_ _ _=>cE⟩
theorem SR.show (h:SR K c (bj hid a) ρ σ H)(h0: ∀b,c.hid₀ b=true->hid b=true)(no: ∀i:Nat,Ow ρ[i]? ->σ[i]? ≠some (some (.ref a))){o:HO}(ha:H a=some o)(hn: ∀p u,o≠ .nst p u:=by intro _ _ e;cases e):SR K c hid ρ σ H:=by
 have sm:Same (vw H (bj hid a)) (vw H hid):=fB λb q=>cE q
 have un: ∀b,b≠a->bj hid a b=true->hid b=true:=λb nb hb=>by unfold bj at hb;simpa [nb] using hb
 refine⟨λb hb=>h.tr b (cE hb),λb xs hb=>h.ht b xs (cE hb),h0,h.kp,h.t0,h.c0,h.m0,h.len,λi s q=>?_,h.ap⟩
 have z:=h.sl i s q
 cases s with
 |no=>trivial
 |v d=>obtain⟨x,h1,h2⟩:=z;exact⟨x,h1,h2.mono sm⟩
 |own ds=>
  obtain⟨a',xs,h1,h2,h3,h4,h5⟩:=z
  have:a'≠a:=λe=>by subst e;exact no i (by rw[q];trivial) h1
  exact⟨a',xs,h1,h2,un a' this h3,h4,h5.mono sm⟩
 |arg ds=>
  obtain⟨a',xs,h1,h2,h3,h4,h5⟩:=z
  have:a'≠a:=λe=>by subst e;exact no i (by rw[q];trivial) h1
  exact⟨a',xs,h1,h2,un a' this h3,h4,h5.mono sm⟩
 |ob b=>
  obtain⟨a',h1,h2⟩:=z
  exact⟨a',h1,h2.mono (λ_ _ _ _ q=>q) sm λow x hx=>un x (hx.ne (λe=>by subst e;exact no i (by rw[q];exact ow) h1) ha hn)⟩
theorem SR.notOw(h:SR K c hid ρ σ H)(n:hid a=false)(i:Nat)(o:Ow ρ[i]?):σ[i]? ≠some (some (.ref a)):=λe=>by
 cases q:ρ[i]? with
 |none=>rw[q] at o;exact o
 |some s=>
  rw[q] at o;have z:=h.sl i s q
  cases s with
  |no=>exact o
  |v d=>exact o
  |own ds=>obtain⟨a',xs,h1,h2,h3,_⟩:=z;rw[e] at h1;cases h1;rw[n] at h3;cases h3
  |arg ds=>obtain⟨a',xs,h1,h2,h3,_⟩:=z;rw[e] at h1;cases h1;rw[n] at h3;cases h3
  |ob b=>obtain⟨a',h1,h2⟩:=z;rw[e] at h1;cases h1;have:=h2.hid o;rw[n] at this;cases this
theorem SR.post {k:Kd}{v:V}{d:D}(h:SR K c hid ρ σ H)(e:Same H H')(r:RK K k H H' hid v d)(hk:k≠ .b):PostE K c hid k ρ σ H H' v d:=by
 cases k with
 |b=>exact absurd rfl hk
 |s=>exact⟨.of e,h.ext e,r⟩
 |n=>
  obtain⟨a,xs,ds,h1,h2,h3,h4,h5⟩:=r
  exact⟨.of e,a,xs,ds,h1,h2,h3,h4,h.fresh0 h3,h.fresh h3,h.hide e h3 h4,h5,h.notOw (h.fresh h3)⟩
theorem PostE.left {k:Kd}{ρ':aG}{H1:Hp}{v:V}{d:D}(s:Kept hid H H1)(p:PostE K c hid k ρ' σ H1 H' v d):PostE K c hid k ρ' σ H H' v d:=by
 cases k with
 |b=>exact⟨s.trans p.1,p.2⟩
 |s=>exact⟨s.trans p.1,p.2⟩
 |n=>
  obtain⟨kp,a,xs,ds,h1,h2,hn,h3,h4,h5,h6⟩:=p
  refine⟨s.trans kp,a,xs,ds,h1,h2,?_,h3,h4,h5,h6⟩
  cases e:H a with
  |none=>rfl
  |some o=>rw[s a o e h5] at hn;cases hn
theorem PostE.toS {ρ':aG}{v:V}{d:D}(h0: ∀b,c.hid₀ b=true->hid b=true)(p:PostE K c hid .n ρ' σ H H' v d):PostE K c hid .s ρ' σ H H' v d:=by
 obtain⟨kp,a,xs,ds,rfl,rfl,hn,h1,h2,h3,h4,h5,h6⟩:=p
 exact⟨kp,h4.show h0 h6 h1,.lst (vw_some.mpr ⟨h3,h1⟩) (h5.mono (fB λb q=>cE q))⟩
end
section
variable {X:Cx}{c:Ct}{e a b:Expr}{es rest:List Expr}{f g:GE}{k:Kd}{pos:Pos}
theorem DP.ef {f:FE}(h:DP X c k e f)(hk:k≠ .b:=by decide):DE X c k e (pu f):=λhid ρ=>PE.imp (h hid ρ) λσ H Q hq_=>by
 obtain⟨sr,d,ρ',hd,q⟩:=hq_
 obtain⟨h1,rfl⟩:=xT hd
 exact⟨sr,d,h1,λv H' s r=>q v H' (sr.post s r hk)⟩
theorem DE.toS(h:DE X c .n e f):DE X c .s e f:=λhid ρ=>PE.imp (h hid ρ) λσ H Q ⟨sr,d,ρ',hd,q⟩=>⟨sr,d,ρ',hd,λv H' p=>q v H' (p.toS sr.h0)⟩
def bE {α:Type}(f:GE)(g:D->aG->Option α):aG->Option α:=λρ=>(f ρ).bind λp=>g p.1 p.2
theorem nE {α:Type}{g:D->aG->Option α}{ρ:aG}{z:α}(h:bE f g ρ=some z): ∃d ρ',f ρ=some (d,ρ')/\g d ρ'=some z:=by
 unfold bE at h;cases e:f ρ with
 |none=>rw[e] at h;cases h
 |some p=>rw[e] at h;exact⟨p.1,p.2,rfl,h⟩
def lb(F:D->D->Option D)(f g:GE):GE:=bE f λx=>bE g λy ρ=>(F x y).map λd=>(d,ρ)
theorem up {F:D->D->Option D}{ρ ρ':aG}{d:D}(h:lb F f g ρ=some (d,ρ')): ∃x ρ1 y,f ρ=some (x,ρ1)/\g ρ1=some (y,ρ')/\F x y=some d:=by
 obtain⟨x,ρ1,h1,h2⟩:=nE h
 obtain⟨y,ρ2,h3,h4⟩:=nE h2
 cases e:F x y with
 |none=>rw[e] at h4;cases h4
 |some z=>rw[e] at h4;cases h4;exact⟨x,ρ1,y,h1,h3,e⟩
theorem C6 {r:R2}{F:D->D->Option D}{hid:bn}{ρ:aG}(hF:ml X.K k r F)(hk:k≠ .b){σ:St}{H:Hp}{Q:VK}(h:CD X.K c hid k (lb F f g) ρ σ H Q):Bb r (CD X.K c hid .s f ρ) (λσ H Q=> ∃ρ1,CD X.K c hid .s g ρ1 σ H Q) σ H Q:=by
 obtain⟨sr,d,ρ',hd,q⟩:=h
 obtain⟨x,ρ1,y,e1,e2,e3⟩:=up hd
 refine⟨sr,x,ρ1,e1,λv H1 ⟨k1,s1,r1⟩=>⟨ρ1,s1,y,ρ',e2,λu H2 ⟨k2,s2,r2⟩=>?_⟩⟩
 exact hF H2 hid v u x y d Q (λa n=>s2.fresh n) e3 (.inl (r1.mono k2.vw)) (.inl r2) λw H' s3 r3=>q w H' (PostE.left (k1.trans k2) (s2.post s3 r3 hk))
theorem jr {α:Type}{t:α->TE}(h: ∀z,PE X e (t z)):PE X e (λσ H Q=> ∃z,t z σ H Q):=λae s σ H Q I ⟨z,q⟩=>h z ae s σ H Q I q
theorem Bh {op:Operator}{r:R2}{F:D->D->Option D}(ho:jB X (binaryOp op) r)(hF:ml X.K k r F)(ha:DE X c .s a f)(hb:DE X c .s b g)(hk:k≠ .b:=by decide):DE X c k (.BinOp a op b pos) (lb F f g):=λhid ρ=>
 PE.imp (y0 ho (ha hid ρ) (jr λρ1=>hb hid ρ1)) λσ H Q h=>C6 hF hk h
def Ea(K:W.Frag)(c:Ct)(hid:bn)(f:GA)(ρ:aG):TA:=λσ H Q=>SR K c hid ρ σ H/\ ∃d ρ',f ρ=some (d,ρ')/\ ∀vs H',Kept hid H H'->SR K c hid ρ' σ H'->Reps K (vw H' hid) vs d->Q vs H'
def DG(X:Cx)(c:Ct)(es:List Expr)(f:GA):Prop:= ∀hid ρ,PA X es (Ea X.K c hid f ρ)
def cC(f:FA):GA:=λρ=>(f ρ).map λd=>(d,ρ)
theorem pO {f:FA}{ρ ρ':aG}{d:List D}(h:cC f ρ=some (d,ρ')):f ρ=some d/\ρ'=ρ:=by
 unfold cC at h;cases e:f ρ with
 |none=>rw[e] at h;cases h
 |some x=>rw[e] at h;cases h;exact⟨rfl,rfl⟩
theorem DA.gf {f:FA}(h:DA X c es f):DG X c es (cC f):=λhid ρ=>PA.imp (h hid ρ) λσ H Q hq_=>by
 obtain⟨sr,d,ρ',hd,q⟩:=hq_
 obtain⟨h1,rfl⟩:=pO hd
 exact⟨sr,d,h1,λv H' s r=>q v H' (.of s) (sr.ext s) r⟩
def fU(f:GE)(fs:GA):GA:=bE f λd ρ=>(fs ρ).map λp=>(d::p.1,p.2)
theorem zV {α:Type}{t:α->TA}(h: ∀z,PA X es (t z)):PA X es (λσ H Q=> ∃z,t z σ H Q):=λp ae s σ H Q I ⟨z,q⟩=>h z p ae s σ H Q I q
theorem oJ {fs:GA}(ha:DE X c .s e f)(hr:DG X c es fs)(hs:starEach (e::es) X.env=(false,eval e X.env)::starEach es X.env:=by rfl):DG X c (e::es) (fU f fs):=λhid ρ=>
 PA.imp (cH (ha hid ρ) (zV λρ1=>hr hid ρ1) hs) λσ H Q hq_=>by
  obtain⟨sr,d,ρ',hd,q⟩:=hq_
  obtain⟨d1,ρ1,e1,h2⟩:=nE hd
  cases e2:fs ρ1 with
  |none=>rw[e2] at h2;cases h2
  |some p=>
   rw[e2] at h2;obtain⟨ds,ρ2⟩:=p
   cases h2
   exact⟨sr,d1,ρ1,e1,λv H1 ⟨k1,s1,r1⟩=>⟨ρ1,s1,ds,_,e2,λvs H2 k2 s2 r2=>q _ H2 (k1.trans k2) s2 (.cons (r1.mono k2.vw) r2)⟩⟩
end
def fm(K:W.Frag)(k:Kd)(n:Nat)(P:List D->Option D):Sp:=λvs H Q _=> ∃hid ds,Bd hid H/\Reps K (vw H hid) vs ds/\ds.length=n/\ ∃d,P ds=some d/\ ∀v H',Same H H'->RK K k H H' hid v d->Q v H'
def BL(K:W.Frag)(k:Kd)(hid:bn)(H H':Hp)(v:V)(d:D)(xs':List V)(bs':List D):Prop:=match k with
 | .n=> ∃p ys es,d=.lst es/\v=.ref p/\H p=none/\H' p=some (.lst ys)/\Reps K (vw H' (bj hid p)) ys es/\Reps K (vw H' (bj hid p)) xs' bs'
 |_=>Rep K (vw H' hid) v d/\Reps K (vw H' hid) xs' bs'
def ub(K:W.Frag)(k:Kd)(n:Nat)(M:List D->List D->Option (D×List D)):Sp:=λvs H Q _=> ∃hid a xs bs us ds,vs=.ref a::us/\Bd hid H/\hid a=true/\H a=some (.lst xs)/\Reps K (vw H hid) xs bs/\
 Reps K (vw H hid) us ds/\ds.length=n/\ ∃d bs',M bs ds=some (d,bs')/\ ∀v H' xs',(∀b o,H b=some o->b≠a->H' b=some o)->H' a=some (.lst xs')->BL K k hid H H' v d xs' bs'->Q v H'
section
variable {X:Cx}{c:Ct}{e a b:Expr}{es rest:List Expr}{k:Kd}{pos p:Pos}{x:Str}{f:Addr}{fd:FuncData}{ps:List Str}{j n:Nat}
theorem yz {P:List D->Option D}{fs:FA}(F:FnOk X.prog X.w X.K X.mg X.base oB j f fd ps (fm X.K k n P))(hr:Room j X.A)(hm:X.mg x=some (.ref f))(hk:W.keepIn X.K (.ref f)=true)(hb:Binds X.K fd ps [])
 (ha:DA X c (e::es) fs) (hg:Gl X x:=by rfl) (hdb:(x==("__debug__":Str))=false:=by decide) (he:starEach (e::es) X.env=(false,eval e X.env)::starEach es X.env:=by rfl) (hpl:(backTo pos (starEach es X.env)).any (·.1)=false:=by rfl):
 DP X c k (.Call (.Name x p) (e::es) [] pos) (aj (λds=>if ds.length=n then P ds else none) fs):=λhid ρ=>
 PE.imp (oo F hr hg hm hk hb .nil (vi (X:=X)) (ha hid ρ) hdb he hpl) λσ H Q hq_=>by
  obtain⟨sr,d,hd,q⟩:=hq_
  obtain⟨ds,e1,e2⟩:=lq hd
  have e2':(if ds.length=n then P ds else none)=some d:=e2
  split at e2'
  ·refine⟨sr,ds,e1,λvs H1 s1 r1=>?_⟩
   show fm X.K k n P (vs++[]) H1 Q E0;rw[List.append_nil];exact⟨hid,ds,(sr.ext s1).trk,r1, ‹_›,d,e2',λv H' s2 r2=>q v H' (s1.trans s2) (RK.left s1 r2)⟩
  ·cases e2'
def gq(i:Nat)(bs:List D)(ρ:aG):aG:=match ρ[i]? with
 |some (.own _)=>ρ.set i (.own bs)
 |some (.arg _)=>ρ.set i (.arg bs)
 |_=>ρ
def gY(i:Nat)(ρ:aG):Option (List D):=match ρ[i]? with
 |some (.own ds)=>some ds
 |some (.arg ds)=>some ds
 |_=>none
theorem gR {i:Nat}{ρ:aG}{bs:List D}(h:gY i ρ=some bs):ρ[i]? =some (.own bs)\/ρ[i]? =some (.arg bs):=by
 unfold gY at h;split at h
 ·cases h;exact .inl ‹_›
 ·cases h;exact .inr ‹_›
 ·cases h
theorem SR.held {K:W.Frag}{hid:bn}{ρ:aG}{σ:St}{H:Hp}{i:Nat}{bs:List D}(h:SR K c hid ρ σ H)(hg:gY i ρ=some bs): ∃a xs,σ[i]? =some (some (.ref a))/\H a=some (.lst xs)/\hid a=true/\Reps K (vw H hid) xs bs/\(c.mu a=true\/c.H₀ a=none):=by
 rcases gR hg with e|e
 ·obtain⟨a,xs,h1,h2,h3,h4,h5⟩:=h.sl i _ e
  exact⟨a,xs,h1,h2,h3,h5,.inr h4⟩
 ·obtain⟨a,xs,h1,h2,h3,h4,h5⟩:=h.sl i _ e
  exact⟨a,xs,h1,h2,h3,h5,.inl h4⟩
theorem iU {i j:Nat}{ρ:aG}{bs:List D}(h:j≠i):(gq i bs ρ)[j]? =ρ[j]? :=by
 unfold gq;split
 ·rw[List.getElem?_set_ne (Ne.symm h)]
 ·rw[List.getElem?_set_ne (Ne.symm h)]
 ·rfl
theorem wq {i:Nat}{ρ:aG}{bs:List D}:(gq i bs ρ).length=ρ.length:=by
 unfold gq;split
 ·simp
 ·simp
 ·rfl
theorem oe {i j:Nat}{ρ:aG}{bs:List D}(h:Ow (gq i bs ρ)[j]?):Ow ρ[j]? :=by
 by_cases e:j=i
 ·subst e
  unfold gq at h;split at h
  ·rw[‹ρ[j]? =_›];trivial
  ·rw[‹ρ[j]? =_›];trivial
  ·exact h
 ·rw[iU e] at h;exact h
theorem SR.put {K:W.Frag}{hid:bn}{ρ:aG}{σ:St}{H H':Hp}{i:Nat}{bs bs':List D}{a:Addr}{xs':List V}(h:SR K c hid ρ σ H)(hg:gY i ρ=some bs)(ha:σ[i]? =some (some (.ref a)))(kp: ∀b o,H b=some o->b≠a->H' b=some o)
 (hx:H' a=some (.lst xs')) (r:Reps K (vw H' hid) xs' bs'):SR K c hid (gq i bs' ρ) σ H':=by
 obtain⟨a1,xs,h1,h2,h3,h4,h5⟩:=h.held hg
 rw[ha] at h1;cases h1;have sm:Same (vw H hid) (vw H' hid):=sG λb o q hb=>kp b o q (λe=>by subst e;rw[h3] at hb;cases hb)
 have tr': ∀b o,H b=some o-> ∃o',H' b=some o':=λb o q=>by
  by_cases e:b=a
  ·subst e;exact⟨_,hx⟩
  ·exact⟨o,kp b o q e⟩
 refine⟨λb hb=>let⟨o,q⟩:=h.tr b hb;tr' b o q,λb xs hb q=>by
  by_cases e:b=a
  ·subst e;rw[hx] at q;cases q
  ·obtain⟨o,w⟩:=h.tr b hb
   have z:=kp b o w e
   rw[q] at z;cases z;exact h.ht b xs hb w,h.h0,λb o q m=>?_,λb o q=>let⟨o',q'⟩:=h.t0 b o q;tr' b o' q',h.c0,h.m0,by rw[wq];exact h.len,λj s q=>?_,λj l z n o1 o2=>h.ap j l z n (oe o1) (oe o2)⟩
 ·refine kp b o (h.kp b o q m) λe=>?_
  subst e;rcases h5 with h5|h5
  ·rw[h5] at m;cases m
  ·rw[h5] at q;cases q
 ·by_cases e:j=i
  ·subst e
   rcases gR hg with w|w
   ·have lt:=(List.getElem?_eq_some_iff.mp w).1
    unfold gq at q;rw[w] at q;dsimp only at q;rw[List.getElem?_set_self lt] at q;cases q
    obtain⟨a2,xs2,g1,g2,g3,g4,g5⟩:=h.sl j _ w
    rw[ha] at g1;cases g1;exact⟨_,xs',ha,hx,g3,g4,r⟩
   ·have lt:=(List.getElem?_eq_some_iff.mp w).1
    unfold gq at q;rw[w] at q;dsimp only at q;rw[List.getElem?_set_self lt] at q;cases q
    obtain⟨a2,xs2,g1,g2,g3,g4,g5⟩:=h.sl j _ w
    rw[ha] at g1;cases g1;exact⟨_,xs',ha,hx,g3,g4,r⟩
  ·rw[iU e] at q
   have z:=h.sl j s q
   cases s with
   |no=>trivial
   |v d=>obtain⟨x,h1,h2⟩:=z;exact⟨x,h1,h2.mono sm⟩
   |own ds=>
    obtain⟨a',xs,z1,z2,z3,z4,z5⟩:=z
    have ne:a'≠a:=λe'=>by
     subst e';refine h.ap j i a' e (by rw[q];trivial) ?_ z1 ha
     rcases gR hg with w|w<;>rw[w]<;>trivial
    exact⟨a',xs,z1,kp _ _ z2 ne,z3,z4,z5.mono sm⟩
   |arg ds=>
    obtain⟨a',xs,z1,z2,z3,z4,z5⟩:=z
    have ne:a'≠a:=λe'=>by
     subst e';refine h.ap j i a' e (by rw[q];trivial) ?_ z1 ha
     rcases gR hg with w|w<;>rw[w]<;>trivial
    exact⟨a',xs,z1,kp _ _ z2 ne,z3,z4,z5.mono sm⟩
   |ob b=>
    obtain⟨a',z1,z2⟩:=z
    refine⟨a',z1,z2.mono (λow x hx o w=>kp _ _ w (hx.ne (λe'=>?_) h2)) sm λ_ _ _ w=>w⟩
    subst e';refine h.ap j i a' e (by rw[q];exact ow) ?_ z1 ha
    rcases gR hg with w|w<;>rw[w]<;>trivial
def aU(i n:Nat)(M:List D->List D->Option (D×List D))(fs:GA):GE:=λρ=>match gY i ρ with
 |none=>none
 |some _=>match fs ρ with
  |none=>none
  |some (ds,ρ1)=>match gY i ρ1 with
   |none=>none
   |some bs=>if ds.length=n then match M bs ds with
     |none=>none
     |some (d,bs')=>some (d,gq i bs' ρ1) else none
theorem lL {i:Nat}{M:List D->List D->Option (D×List D)}{fs:GA}{ρ ρ':aG}{d:D}(h:aU i n M fs ρ=some (d,ρ')): ∃bs0 ds ρ1 bs bs',gY i ρ=some bs0/\fs ρ=some (ds,ρ1)/\gY i ρ1=some bs/\ds.length=n/\M bs ds=some (d,bs')/\ρ'=gq i bs' ρ1:=by
 unfold aU at h;split at h
 ·cases h
 ·split at h
  ·cases h
  ·split at h
   ·cases h
   ·split at h
    ·split at h
     ·cases h
     ·cases h;exact⟨_,_,_,_,_, ‹_›, ‹_›, ‹_›, ‹_›, ‹_›,rfl⟩
    ·cases h
theorem vT(i:Nat){y:Str}{py:Pos}{M:List D->List D->Option (D×List D)}{fs:GA}(F:FnOk X.prog X.w X.K X.mg X.base oB j f fd ps (ub X.K k n M))(hr:Room j X.A)(hm:X.mg x=some (.ref f))(hk:W.keepIn X.K (.ref f)=true)(hb:Binds X.K fd ps [])
 (ha:DG X c es fs) (hkb:k≠ .b:=by decide) (hN:X.N[i]? =some y:=by rfl) (hv:nT X.env.scope y:=by first|exact Or.inl rfl|exact Or.inr (Or.inl rfl)|exact Or.inr (Or.inr rfl)) (hd:(y==("__debug__":Str))=false:=by decide)
 (hcd:(y==("__classdict__":Str))=false:=by decide) (hs:starEach (.Name y py::es) X.env=(false,eval (.Name y py) X.env)::starEach es X.env:=by rfl) (hg:Gl X x:=by rfl) (hdb:(x==("__debug__":Str))=false:=by decide) (hpl:(backTo pos (starEach es X.env)).any (·.1)=false:=by rfl):
 DE X c k (.Call (.Name x p) (.Name y py::es) [] pos) (aU i n M fs):=λhid ρ=>
 PE.imp (oo F hr hg hm hk hb .nil (vi (X:=X)) (cH (pv i hN hv hd hcd) (ha hid ρ) hs) hdb hs hpl) λσ H Q hq_=>by
  obtain⟨sr,d,ρ',hd',q⟩:=hq_
  obtain⟨bs0,ds,ρ1,bs,bs',e0,e1,e2,e3,e4,rfl⟩:=lL hd'
  obtain⟨a,xs0,a1,_,a3,_,_⟩:=sr.held e0
  refine⟨.ref a,a1,sr,ds,ρ1,e1,λus H1 k1 s1 r1=>?_⟩
  obtain⟨a',xs,b1,b2,b3,b4,b5⟩:=s1.held e2
  rw[a1] at b1;cases b1;show ub X.K k n M ((.ref a::us)++[]) H1 Q E0;rw[List.append_nil];refine⟨hid,a,xs,bs,us,ds,rfl,s1.trk,b3,b2,b4,r1,e3,d,bs',e4,λv H' xs' kp hx hr'=>q v H' ?_⟩
  have kp':Kept hid H1 H':=λb o q hb=>kp b o q λe=>by subst e;rw[b3] at hb;cases hb
  cases k with
  |b=>exact absurd rfl hkb
  |s=>exact⟨k1.trans kp',s1.put e2 a1 kp hx hr'.2,hr'.1⟩
  |n=>
   obtain⟨p',ys,es',rfl,rfl,h1,h2,h3,h4⟩:=hr'
   have np:hid p'=false:=s1.fresh h1
   have na:a≠p':=λe=>by subst e;rw[b2] at h1;cases h1
   have sB:SR X.K c (bj hid p') ρ1 σ (bd H1 p' (.lst ys)):=s1.hide (bh h1 _) h1 aE
   have kp2: ∀b o,(bd H1 p' (.lst ys)) b=some o->b≠a->H' b=some o:=λb o z hb=>by
    by_cases e:b=p'
    ·subst e;rw[aE] at z;cases z;exact h2
    ·rw[aC e] at z;exact kp b o z hb
   have sC:SR X.K c (bj hid p') (gq i bs' ρ1) σ H':=sB.put e2 a1 kp2 hx h4
   have hn:H p'=none:=by
    cases e:H p' with
    |none=>rfl
    |some o=>rw[k1 p' o e np] at h1;cases h1
   refine⟨k1.trans kp',p',ys,es',rfl,rfl,hn,h2,s1.fresh0 h1,np,sC,h3,λm hm hσ=>?_⟩
   have:=s1.notOw np m (oe hm)
   exact this hσ
end
inductive Out where
 |nx (ρ:aG)|rt (d:D) (ρ:aG)|bk (ρ:aG)|ct (ρ:aG)|no
abbrev FS:=aG->Out
def C0(c:Ct)(k:Kd)(v:V):bn:=match k,v with
 | .n,.ref a=>bj c.hid₀ a
 |_,_=>c.hid₀
structure Ret(K:W.Frag)(c:Ct)(k:Kd)(ρ':aG)(H':Hp)(v:V)(d:D):Prop where
 kp: ∀b o,c.H₀ b=some o->c.mu b=false->H' b=some o
 val:match k with
  | .n=> ∃a xs ds,d=.lst ds/\v=.ref a/\c.H₀ a=none/\H' a=some (.lst xs)/\Reps K (vw H' (bj c.hid₀ a)) xs ds
  |_=>Rep K (vw H' c.hid₀) v d
 arg: ∀(i:Nat) (bs:List D),ρ'[i]? =some (Sl.arg bs)-> ∃a xs,c.mu a=true/\H' a=some (.lst xs)/\Reps K (vw H' (C0 c k v)) xs bs
def EndOk(K:W.Frag)(c:Ct)(k:Kd)(D:Ends)(W:Hp):Out->Prop
 | .nx ρ'=> ∀σ' H' hid',SR K c hid' ρ' σ' H'->Same W (vw H' hid')->D.nx σ' H'
 | .rt d ρ'=> ∀v H',Ret K c k ρ' H' v d->D.rt v H'
 | .bk ρ'=> ∀σ' H' hid',SR K c hid' ρ' σ' H'->Same W (vw H' hid')->D.bk σ' H'
 | .ct ρ'=> ∀σ' H' hid',SR K c hid' ρ' σ' H'->Same W (vw H' hid')->D.ct σ' H'
 | .no=>False
theorem EndOk.mono {K:W.Frag}{c:Ct}{k:Kd}{D:Ends}{W W':Hp}{o:Out}(h:EndOk K c k D W o)(s:Same W W'):EndOk K c k D W' o:=by
 cases o with
 |nx ρ=>exact λσ' H' hid' z w=>h σ' H' hid' z (s.trans w)
 |rt d ρ=>exact h
 |bk ρ=>exact λσ' H' hid' z w=>h σ' H' hid' z (s.trans w)
 |ct ρ=>exact λσ' H' hid' z w=>h σ' H' hid' z (s.trans w)
 |no=>exact h
def DQ(K:W.Frag)(c:Ct)(k:Kd)(t:FS)(ρ:aG):TS:=λD σ H=> ∃hid,SR K c hid ρ σ H/\EndOk K c k D (vw H hid) (t ρ)
def DS(X:Cx)(c:Ct)(k:Kd)(st:Stmt)(t:FS):Prop:= ∀ρ,PS X st (DQ X.K c k t ρ)
def sj(X:Cx)(c:Ct)(k:Kd)(st:List Stmt)(t:FS):Prop:= ∀ρ,PSs X st (DQ X.K c k t ρ)
section
variable {X:Cx}{c:Ct}{k:Kd}{st:Stmt}{sts rest:List Stmt}{t u:FS}{e:Expr}{pos:Pos}
theorem sF {α:Type}{t:α->TS}(h: ∀z,PSs X sts (t z)):PSs X sts (λD σ H=> ∃z,t z D σ H):=λae s σ H D I ⟨z,q⟩=>h z ae s σ H D I q
theorem Cu {α:Type}{t:α->TT}(h: ∀z,PT X e (t z)):PT X e (λD σ H=> ∃z,t z D σ H):=λae s σ H D I ⟨z,q⟩=>h z ae s σ H D I q
def skip:FS:=λρ=>.nx ρ
def aB(t u:FS):FS:=λρ=>match t ρ with
 | .nx ρ'=>u ρ'
 | .rt d ρ'=>.rt d ρ'
 | .bk ρ'=>.bk ρ'
 | .ct ρ'=>.ct ρ'
 | .no=>.no
theorem cI:sj X c k [] skip:=λρ=>PSs.imp ye λD σ H ⟨hid,sr,q⟩=>q σ H hid sr (Same.refl _)
theorem aD(h:DS X c k st t):sj X c k [st] t:=λρ=>sR (h ρ)
theorem al(h1:DS X c k st t)(h2:sj X c k rest u):sj X c k (st::rest) (aB t u):=λρ=>
 PSs.imp (oU (h1 ρ) (sF λρ1=>h2 ρ1)) λD σ H hq_=>by
  obtain⟨hid,sr,q⟩:=hq_
  refine⟨hid,sr,?_⟩
  unfold aB at q;cases e:t ρ with
  |nx ρ1=>rw[e] at q;exact λσ1 H1 hid1 sr1 v1=>⟨ρ1,hid1,sr1,EndOk.mono q v1⟩
  |rt d ρ1=>rw[e] at q;exact q
  |bk ρ1=>rw[e] at q;exact q
  |ct ρ1=>rw[e] at q;exact q
  |no=>rw[e] at q;exact q
def fY(p:FT)(t u:FS):FS:=λρ=>match p ρ with
 |some true=>t ρ
 |some false=>u ρ
 |none=>.no
theorem fV {p:FT}{a b:List Stmt}(hp:DT X c e p)(ha:sj X c k a t)(hb:sj X c k b u):DS X c k (.If e a b pos) (fY p t u):=λρ=>
 PS.imp (Cf (Cu λhid=>hp hid ρ) (ha ρ) (hb ρ)) λD σ H hq_=>by
  obtain⟨hid,sr,q⟩:=hq_
  cases e1:p ρ with
  |none=>unfold fY at q;rw[e1] at q;exact q.elim
  |some x=>
   refine⟨hid,sr,x,e1,λH1 s1=>?_⟩
   unfold fY at q;rw[e1] at q;cases x with
   |true=>exact uh ⟨hid,sr.ext s1,EndOk.mono q (aI s1)⟩
   |false=>exact uD ⟨hid,sr.ext s1,EndOk.mono q (aI s1)⟩
def bw(f:FE):FS:=λρ=>match f ρ with
 |some d=>.rt d ρ
 |none=>.no
theorem zj {K:W.Frag}{hid:bn}{ρ':aG}{σ:St}{H H':Hp}{v:V}{d:D}(hk:k≠ .b)(p:PostE K c hid k ρ' σ H H' v d)(h0: ∀b,c.hid₀ b=true->hid b=true):Ret K c k ρ' H' v d:=by
 cases k with
 |b=>exact absurd rfl hk
 |s=>
  obtain⟨_,sr,r⟩:=p
  refine⟨sr.kp,r.mono (fB sr.h0),λi bs e=>?_⟩
  obtain⟨a,xs,z1,z2,z3,z4,z5⟩:=sr.sl i _ e
  refine⟨a,xs,z4,z2,?_⟩
  show Reps K (vw H' c.hid₀) xs bs;exact z5.mono (fB sr.h0)
 |n=>
  obtain⟨_,a,xs,ds,rfl,rfl,_,h1,h2,h3,sr,h5,h6⟩:=p
  have le:Same (vw H' (bj hid a)) (vw H' (bj c.hid₀ a)):=fB λb q=>by
   unfold bj at q⊢;cases e:c.hid₀ b with
   |true=>rw[h0 b e];rfl
   |false=>rw[e] at q;rw[Bool.or_eq_true];right;simpa using q
  refine⟨sr.kp,⟨a,xs,ds,rfl,rfl,h2,h1,h5.mono le⟩,λi bs e=>?_⟩
  obtain⟨a',xs',z1,z2,z3,z4,z5⟩:=sr.sl i _ e
  exact⟨a',xs',z4,z2,z5.mono le⟩
theorem bo {f:FE}(he:DP X c k e f)(hk:k≠ .b:=by decide):DS X c k (.Return (some e) pos) (bw f):=λρ=>PS.imp (rg (jr λhid=>he hid ρ)) λD σ H hq_=>by
 obtain⟨hid,sr,q⟩:=hq_
 unfold bw at q;cases e1:f ρ with
 |none=>rw[e1] at q;exact q.elim
 |some z=>rw[e1] at q;exact⟨hid,sr,_,e1,λv H' s r=>q v H' (zj hk (sr.post s r hk) sr.h0)⟩
def qB:Option Sl->Option (List D)
 |some (.own ds)=>some ds
 |_=>none
def mj(i:Nat):FS:=λρ=>match qB ρ[i]? with
 |some ds=>.rt (.lst ds) ρ
 |none=>.no
theorem mP {o:Option Sl}{ds:List D}(h:qB o=some ds):o=some (.own ds):=by
 unfold qB at h;split at h
 ·cases h;rfl
 ·cases h
theorem jq(i:Nat){x:Str}{pos':Pos}(hN:X.N[i]? =some x:=by rfl)(hv:nT X.env.scope x:=by first|exact Or.inl rfl|exact Or.inr (Or.inl rfl)|exact Or.inr (Or.inr rfl))(hd:(x==("__debug__":Str))=false:=by decide)
 (hcd:(x==("__classdict__":Str))=false:=by decide):DS X c .n (.Return (some (.Name x pos')) pos) (mj i):=λρ=>PS.imp (rg (pv i hN hv hd hcd)) λD σ H hq_=>by
 obtain⟨hid,sr,q⟩:=hq_
 unfold mj at q;cases e0:qB ρ[i]? with
 |none=>rw[e0] at q;exact q.elim
 |some ds=>
  rw[e0] at q;have e:=mP e0
  obtain⟨a,xs,z1,z2,z3,z4,z5⟩:=sr.sl i _ e
  have le:Same (vw H hid) (vw H (bj c.hid₀ a)):=fB λb w=>by
   unfold bj at w;cases e:c.hid₀ b with
   |true=>exact sr.h0 b e
   |false=>
    rw[e] at w;have:b=a:=by simpa using w
    rw[this];exact z3
  refine⟨_,z1,q _ H ⟨sr.kp,⟨a,xs,ds,rfl,rfl,z4,z2,z5.mono le⟩,λj bs e'=>?_⟩⟩
  obtain⟨a',xs',w1,w2,w3,w4,w5⟩:=sr.sl j _ e'
  exact⟨a',xs',w4,w2,w5.mono le⟩
end
section
variable {K:W.Frag}{c:Ct}{hid:bn}{ρ:aG}{σ:St}{H H':Hp}{i:Nat}{a:Addr}{v:V}{d:D}
theorem SR.setV(h:SR K c hid ρ σ H)(r:Rep K (vw H hid) v d)(i:Nat):SR K c hid (ρ.set i (.v d)) (σ.set i (some v)) H:=by
 refine⟨h.tr,h.ht,h.h0,h.kp,h.t0,h.c0,h.m0,by simp[h.len],λj s q=>?_,λj l z n o1 o2 q1 q2=>?_⟩
 ·by_cases e:j=i
  ·subst e
   have lt:j<ρ.length:=by
    have:=(List.getElem?_eq_some_iff.mp q).1
    simpa using this
   rw[List.getElem?_set_self lt] at q;cases q
   exact⟨v,List.getElem?_set_self (by rw[h.len];exact lt),r⟩
  ·rw[List.getElem?_set_ne (Ne.symm e)] at q
   have w:=h.sl j s q
   have es:(σ.set i (some v))[j]? =σ[j]? :=List.getElem?_set_ne (Ne.symm e)
   cases s with
   |no=>trivial
   |v d=>obtain⟨x,h1,h2⟩:=w;exact⟨x,es.trans h1,h2⟩
   |own ds=>obtain⟨a,xs,h1,h2⟩:=w;exact⟨a,xs,es.trans h1,h2⟩
   |arg ds=>obtain⟨a,xs,h1,h2⟩:=w;exact⟨a,xs,es.trans h1,h2⟩
   |ob b=>obtain⟨a,h1,h2⟩:=w;exact⟨a,es.trans h1,h2⟩
 ·have nj: ∀m,Ow (ρ.set i (.v d))[m]? ->m≠i:=λm o e=>by
   subst e
   by_cases lt:m<ρ.length
   ·rw[List.getElem?_set_self lt] at o;exact o
   ·rw[List.getElem?_eq_none (by simpa using lt)] at o;exact o
  have e1:=nj j o1
  have e2:=nj l o2
  rw[List.getElem?_set_ne (Ne.symm e1)] at o1 q1;rw[List.getElem?_set_ne (Ne.symm e2)] at o2 q2;exact h.ap j l z n o1 o2 q1 q2
theorem SR.setO {xs:List V}{ds:List D}(h:SR K c hid ρ σ H)(ha:H a=some (.lst xs))(hh:hid a=true)(h0:c.H₀ a=none)(r:Reps K (vw H hid) xs ds)(no: ∀i:Nat,Ow ρ[i]? ->σ[i]? ≠some (some (.ref a)))(i:Nat):
 SR K c hid (ρ.set i (.own ds)) (σ.set i (some (.ref a))) H:=by
 refine⟨h.tr,h.ht,h.h0,h.kp,h.t0,h.c0,h.m0,by simp[h.len],λj s q=>?_,λj l z n o1 o2 q1 q2=>?_⟩
 ·by_cases e:j=i
  ·subst e
   have lt:j<ρ.length:=by
    have:=(List.getElem?_eq_some_iff.mp q).1
    simpa using this
   rw[List.getElem?_set_self lt] at q;cases q
   exact⟨a,xs,List.getElem?_set_self (by rw[h.len];exact lt),ha,hh,h0,r⟩
  ·rw[List.getElem?_set_ne (Ne.symm e)] at q
   have w:=h.sl j s q
   have es:(σ.set i (some (V.ref a)))[j]? =σ[j]? :=List.getElem?_set_ne (Ne.symm e)
   cases s with
   |no=>trivial
   |v d=>obtain⟨x,h1,h2⟩:=w;exact⟨x,es.trans h1,h2⟩
   |own ds=>obtain⟨a,xs,h1,h2⟩:=w;exact⟨a,xs,es.trans h1,h2⟩
   |arg ds=>obtain⟨a,xs,h1,h2⟩:=w;exact⟨a,xs,es.trans h1,h2⟩
   |ob b=>obtain⟨a,h1,h2⟩:=w;exact⟨a,es.trans h1,h2⟩
 ·by_cases e1:j=i
  ·subst e1
   have e2:l≠j:=λe=>n e.symm
   rw[List.getElem?_set_ne (Ne.symm e2)] at o2 q2
   by_cases lt:j<σ.length
   ·rw[List.getElem?_set_self lt] at q1;cases q1;exact no l o2 q2
   ·rw[List.getElem?_eq_none (by simpa using lt)] at q1;cases q1
  ·rw[List.getElem?_set_ne (Ne.symm e1)] at o1 q1
   by_cases e2:l=i
   ·subst e2
    by_cases lt:l<σ.length
    ·rw[List.getElem?_set_self lt] at q2;cases q2;exact no j o1 q1
    ·rw[List.getElem?_eq_none (by simpa using lt)] at q2;cases q2
   ·rw[List.getElem?_set_ne (Ne.symm e2)] at o2 q2
    exact h.ap j l z n o1 o2 q1 q2
end
section
variable {X:Cx}{c:Ct}{k:Kd}{st:Stmt}{sts rest:List Stmt}{t u:FS}{e:Expr}{es:List Expr}{pos pos':Pos}{x:Str}{i:Nat}
def i9(i:Nat)(f:GE):FS:=λρ=>match f ρ with
 |some (d,ρ')=>.nx (ρ'.set i (.v d))
 |none=>.no
def aY(i:Nat)(f:FE):FS:=λρ=>match f ρ with
 |some d=>.nx (ρ.set i (.v d))
 |none=>.no
def Dt:D->Option (List D)
 | .lst ds=>some ds
 |_=>none
def qW(i:Nat)(f:GE):FS:=λρ=>match f ρ with
 |some (d,ρ')=>(match Dt d with
  |some ds=>.nx (ρ'.set i (.own ds))
  |none=>.no)
 |none=>.no
def dz(i:Nat)(f:FE):FS:=λρ=>match f ρ with
 |some d=>(match Dt d with
  |some ds=>.nx (ρ.set i (.own ds))
  |none=>.no)
 |none=>.no
theorem kR(i:Nat){f:GE}(hn:X.N.Nodup)(he:DE X c .s e f)(hi:X.N[i]? =some x:=by rfl)(hx:sY X.env.scope x:=by first|exact Or.inl rfl|exact Or.inr rfl)(hs:swapsWith e (some (.Name x pos')) pos.line X.env=pure false:=by rfl)
 (hf:X.fn x=true\/X.env.scope.names.lookup x=some .local:=by first|exact .inl rfl|exact .inr rfl|assumption):DS X c k (.Assign [.Name x pos'] e pos) (i9 i f):=λρ=>PS.imp (jW hn hi hx (jr λhid=>he hid ρ) hs hf) λD σ H hq_=>by
 obtain⟨hid,sr,q⟩:=hq_
 unfold i9 at q;cases e1:f ρ with
 |none=>rw[e1] at q;exact q.elim
 |some z=>
  rw[e1] at q;exact⟨hid,sr,z.1,z.2,e1,λv H' ⟨kp,s',r⟩=>q _ H' hid (s'.setV r i) kp.vw⟩
theorem aZ(i:Nat){f:FE}(hn:X.N.Nodup)(he:DP X c .s e f)(hi:X.N[i]? =some x:=by rfl)(hx:sY X.env.scope x:=by first|exact Or.inl rfl|exact Or.inr rfl)(hs:swapsWith e (some (.Name x pos')) pos.line X.env=pure false:=by rfl)
 (hf:X.fn x=true\/X.env.scope.names.lookup x=some .local:=by first|exact .inl rfl|exact .inr rfl|assumption):DS X c k (.Assign [.Name x pos'] e pos) (aY i f):=λρ=>PS.imp (jW hn hi hx (jr λhid=>he hid ρ) hs hf) λD σ H hq_=>by
 obtain⟨hid,sr,q⟩:=hq_
 unfold aY at q;cases e1:f ρ with
 |none=>rw[e1] at q;exact q.elim
 |some z=>
  rw[e1] at q;exact⟨hid,sr,z,e1,λv H' s' r=>q _ H' hid ((sr.ext s').setV r i) (aI s')⟩
theorem AD {K:W.Frag}{hid:bn}{ρ':aG}{σ:St}{H H':Hp}{v:V}{d:D}{D:Ends}(p:PostE K c hid .n ρ' σ H H' v d)(q:EndOk K c k D (vw H hid) (match Dt d with
 |some ds=>.nx (ρ'.set i (.own ds))
 |none=>.no)):D.nx (σ.set i (some v)) H':=by
 obtain⟨kp,a,xs,ds,rfl,rfl,hn,h1,h2,h3,h4,h5,h6⟩:=p
 refine q _ H' (bj hid a) (h4.setO h1 bR h2 h5 h6 i) λb o w=>?_
 obtain⟨w1,w2⟩:=vw_some.mp w
 refine vw_some.mpr ⟨?_,kp b o w2 w1⟩
 unfold bj;rw[w1];have:b≠a:=aT w2 hn
 simp[this]
theorem yN(i:Nat){f:GE}(hn:X.N.Nodup)(he:DE X c .n e f)(hi:X.N[i]? =some x:=by rfl)(hx:sY X.env.scope x:=by first|exact Or.inl rfl|exact Or.inr rfl)(hs:swapsWith e (some (.Name x pos')) pos.line X.env=pure false:=by rfl)
 (hf:X.fn x=true\/X.env.scope.names.lookup x=some .local:=by first|exact .inl rfl|exact .inr rfl|assumption):DS X c k (.Assign [.Name x pos'] e pos) (qW i f):=λρ=>PS.imp (jW hn hi hx (jr λhid=>he hid ρ) hs hf) λD σ H hq_=>by
 obtain⟨hid,sr,q⟩:=hq_
 unfold qW at q;cases e1:f ρ with
 |none=>rw[e1] at q;exact q.elim
 |some z=>
  rw[e1] at q;exact⟨hid,sr,z.1,z.2,e1,λv H' p=>AD p q⟩
theorem fC(i:Nat){f:FE}(hn:X.N.Nodup)(he:DP X c .n e f)(hi:X.N[i]? =some x:=by rfl)(hx:sY X.env.scope x:=by first|exact Or.inl rfl|exact Or.inr rfl)(hs:swapsWith e (some (.Name x pos')) pos.line X.env=pure false:=by rfl)
 (hf:X.fn x=true\/X.env.scope.names.lookup x=some .local:=by first|exact .inl rfl|exact .inr rfl|assumption):DS X c k (.Assign [.Name x pos'] e pos) (dz i f):=λρ=>PS.imp (jW hn hi hx (jr λhid=>he hid ρ) hs hf) λD σ H hq_=>by
 obtain⟨hid,sr,q⟩:=hq_
 unfold dz at q;cases e1:f ρ with
 |none=>rw[e1] at q;exact q.elim
 |some z=>
  rw[e1] at q;exact⟨hid,sr,z,e1,λv H' s r=>AD (sr.post s r (by decide)) q⟩
def uC(i:Nat)(ρ:aG):aG:=match qB ρ[i]? with
 |some ds=>ρ.set i (.v (.lst ds))
 |none=>ρ
theorem SR.freeze {K:W.Frag}{hid:bn}{ρ:aG}{σ:St}{H:Hp}(h:SR K c hid ρ σ H)(i:Nat): ∃hid',SR K c hid' (uC i ρ) σ H/\Same (vw H hid) (vw H hid'):=by
 unfold uC;cases e0:qB ρ[i]? with
 |none=>exact⟨hid,h,Same.refl _⟩
 |some ds=>
  have e:=mP e0
  obtain⟨a,xs,z1,z2,z3,z4,z5⟩:=h.sl i _ e
  have sm:Same (vw H hid) (vw H (fR hid a)):=fB λb w=>by unfold fR at w;rw[Bool.and_eq_true] at w;exact w.1
  have un: ∀b,b≠a->hid b=true->fR hid a b=true:=λb n w=>by unfold fR;rw[w];simp[n]
  have na:c.hid₀ a=false:=by
   cases q:c.hid₀ a with
   |false=>rfl
   |true=>obtain⟨o,w⟩:=h.c0 a q;rw[z4] at w;cases w
  refine⟨fR hid a,⟨λb w=>h.tr b (by unfold fR at w;rw[Bool.and_eq_true] at w;exact w.1),λb xs w=>h.ht b xs (by unfold fR at w;rw[Bool.and_eq_true] at w;exact w.1),λb w=>un b (λe=>by subst e;rw[na] at w;cases w) (h.h0 b w),h.kp,h.t0,h.c0,h.m0,by simp[h.len],λj s q=>?_,λj l z n o1 o2 q1 q2=>?_⟩,sm⟩
  ·by_cases ej:j=i
   ·subst ej
    rw[List.getElem?_set_self (List.getElem?_eq_some_iff.mp e).1] at q;cases q
    exact⟨_,z1,.lst (vw_some.mpr ⟨by unfold fR;simp,z2⟩) (z5.mono sm)⟩
   ·rw[List.getElem?_set_ne (Ne.symm ej)] at q
    have w:=h.sl j s q
    cases s with
    |no=>trivial
    |v d=>obtain⟨x,h1,h2⟩:=w;exact⟨x,h1,h2.mono sm⟩
    |own ds=>
     obtain⟨a',xs,h1,h2,h3,h4,h5⟩:=w
     exact⟨a',xs,h1,h2,un a' (λe'=>by subst e';exact h.ap j i _ ej (by rw[q];trivial) (by rw[e];trivial) h1 z1) h3,h4,h5.mono sm⟩
    |arg ds=>
     obtain⟨a',xs,h1,h2,h3,h4,h5⟩:=w
     exact⟨a',xs,h1,h2,un a' (λe'=>by subst e';exact h.ap j i _ ej (by rw[q];trivial) (by rw[e];trivial) h1 z1) h3,h4,h5.mono sm⟩
    |ob b=>
     obtain⟨a',h1,h2⟩:=w
     exact⟨a',h1,h2.mono (λ_ _ _ _ q=>q) sm λow x hx=>un x (hx.ne (λe'=>by subst e';exact h.ap j i _ ej (by rw[q];exact ow) (by rw[e];trivial) h1 z1) z2)⟩
  ·have nj: ∀m,Ow (ρ.set i (.v (.lst ds)))[m]? ->m≠i:=λm o e'=>by
    subst e'
    by_cases lt:m<ρ.length
    ·rw[List.getElem?_set_self lt] at o;exact o
    ·rw[List.getElem?_eq_none (by simpa using lt)] at o;exact o
   have e1:=nj j o1
   have e2:=nj l o2
   rw[List.getElem?_set_ne (Ne.symm e1)] at o1;rw[List.getElem?_set_ne (Ne.symm e2)] at o2;exact h.ap j l z n o1 o2 q1 q2
theorem A2(i:Nat)(h:DS X c k st t):DS X c k st (λρ=>t (uC i ρ)):=λρ=>PS.imp (h (uC i ρ)) λD σ H hq_=>by
 obtain⟨hid,sr,q⟩:=hq_
 obtain⟨hid',sr',sm⟩:=sr.freeze i
 exact⟨hid',sr',EndOk.mono q sm⟩
def bT(f:GE):FS:=λρ=>match f ρ with
 |some (_,ρ')=>.nx ρ'
 |none=>.no
theorem fx {f:GE}(he:DE X c .s e f)(hs:swapsWith e none pos.line X.env=pure false:=by rfl):DS X c k (.Expr e pos) (bT f):=λρ=>PS.imp (xP (jr λhid=>he hid ρ) hs) λD σ H hq_=>by
 obtain⟨hid,sr,q⟩:=hq_
 unfold bT at q;cases e1:f ρ with
 |none=>rw[e1] at q;exact q.elim
 |some z=>
  rw[e1] at q;exact⟨hid,sr,z.1,z.2,e1,λv H' ⟨kp,s',_⟩=>q _ H' hid s' kp.vw⟩
def CF(K:W.Frag)(r:V->List V->Hp->VK->Prop)(n:Nat)(M:List D->List D->Option (D×List D)):Prop:= ∀(H:Hp) (hid:bn) (a:Addr) (xs us:List V) (bs ds bs':List D) (d:D) (Q:VK),H a=some (.lst xs)->hid a=true->Reps K (vw H hid) xs bs->Reps K (vw H hid) us ds->
 ds.length=n->M bs ds=some (d,bs')->(∀w xs',Reps K (vw H hid) xs' bs'->Rep K (vw H hid) w d->Q w (bd H a (.lst xs')))->r (.ref a) us H Q
theorem BI {K:W.Frag}{r:V->List V->Hp->VK->Prop}{n:Nat}{M:List D->List D->Option (D×List D)}(hM:CF K r n M){hid:bn}{ρ1:aG}{σ:St}{H H1:Hp}{a:Addr}{us:List V}{bs ds bs':List D}{d:D}{Q:VK}(k1:Kept hid H H1)(s1:SR K c hid ρ1 σ H1)(e2:gY i ρ1=some bs)
 (ha:σ[i]? =some (some (.ref a))) (r1:Reps K (vw H1 hid) us ds) (hn:ds.length=n) (hm:M bs ds=some (d,bs')) (q: ∀v H',PostE K c hid .s (gq i bs' ρ1) σ H H' v d->Q v H'):r (.ref a) us H1 Q:=by
 obtain⟨a',xs,b1,b2,b3,b4,b5⟩:=s1.held e2
 rw[ha] at b1;cases b1;refine hM H1 hid a xs us bs ds bs' d Q b2 b3 b4 r1 hn hm λw xs' rx rw'=>q w _ ⟨k1.trans λb o z hb=>?_,?_,?_⟩
 ·rw[aC (λe=>by subst e;rw[b3] at hb;cases hb)];exact z
 ·exact s1.put e2 ha (λb o z hb=>by rw[aC hb];exact z) aE (by rw[cv b3];exact rx)
 ·rw[cv b3];exact rw'
variable {n:Nat}{M:List D->List D->Option (D×List D)}{fs:GA}{r:V->List V->Hp->VK->Prop}{y name:Str}{py apos:Pos}{id:String}
theorem gg(i:Nat)(hM:CF X.K r n M)(hm:Dz X id r)(slot:Slot "list" name id)(hty:typeOf (.builtin id)=pure (.type "method_descriptor"))(ha:DG X c (e::es) fs)
 (hN:X.N[i]? =some y:=by rfl) (hv:nT X.env.scope y:=by first|exact Or.inl rfl|exact Or.inr (Or.inl rfl)|exact Or.inr (Or.inr rfl)) (hd:(y==("__debug__":Str))=false:=by decide) (hcd:(y==("__classdict__":Str))=false:=by decide)
 (hbase:attributeBase (.Name y py) name X.env (eval (.Name y py) X.env)=eval (.Name y py) X.env:=by rfl)
 (hfew:((backTo pos (starEach (e::es) X.env)).all (λx=> !x.1)&&(backToKw pos (keywordEach [] X.env)).all (λx=>x.1.isSome)
   &&decide ((e::es).length+([]:List Keyword).length+(if([]:List Keyword).isEmpty then 0 else 1)<30))=true:=by rfl)
 (hline:(apos.endLine==pos.line)=true:=by rfl) (hs:starEach (e::es) X.env=(false,eval e X.env)::starEach es X.env:=by rfl) (hplain:(backTo pos (starEach es X.env)).any (·.1)=false:=by rfl):
 DE X c .s (.Call (.Attribute (.Name y py) name apos) (e::es) [] pos) (aU i n M fs):=λhid ρ=>
 PE.imp (wu PySem.F.plainAttrs_list slot hty hm (pv i hN hv hd hcd) (ha hid ρ) hbase hfew hline hs hplain) λσ H Q hq_=>by
  obtain⟨sr,d,ρ',hd',q⟩:=hq_
  obtain⟨bs0,ds,ρ1,bs,bs',e0,e1,e2,e3,e4,rfl⟩:=lL hd'
  obtain⟨a,xs0,a1,a2,a3,_,_⟩:=sr.held e0
  exact⟨.ref a,a1,.inl ⟨rfl,_,SqL.of a2⟩,sr,ds,ρ1,e1,λus H1 k1 s1 r1=>BI hM k1 s1 e2 a1 r1 e3 e4 q⟩
end
section
variable {K:W.Frag}
def fL:List D->List D->Option (D×List D):=λbs ds=>match ds with
 | [d]=>if bs.length<sizeLine then some (.non,bs++[d]) else none
 |_=>none
theorem eE:CF K sv 1 fL:=by
 intro H hid a xs us bs ds bs' d Q h1 h2 h3 h4 h5 h6 q;unfold fL at h6;split at h6
 ·split at h6
  ·cases h6
   cases h4 with
   |cons r t=>
    cases t
    exact⟨a,xs,_,rfl,rfl,h1,by rw[h3.length];assumption,q _ _ (h3.append (.cons r .nil)) .non⟩
  ·cases h6
 ·cases h6
def mF:List D->List D->Option (D×List D):=λbs ds=>match ds with
 | [.int i]=>match (if bs.length<=sizeLine then mn bs.length i else none) with
   |some j=>(bs[j]?).map λd=>(d,bs.eraseIdx j)
   |none=>none
 |_=>none
theorem Am:CF K vp 1 mF:=by
 intro H hid a xs us bs ds bs' d Q h1 h2 h3 h4 h5 h6 q;unfold mF at h6;split at h6
 ·split at h6
  ·rename_i i _ j e
   cases e1:bs[j]? with
   |none=>rw[e1] at h6;cases h6
   |some z=>
    rw[e1] at h6;cases h6;cases h4 with
    |cons r t=>
     cases t
     cases r
     obtain⟨x,g1,g2⟩:=h3.get e1
     split at e
     ·obtain⟨w1,w2,w3,w4⟩:=oq e
      have hl:=h3.length
      have l63:=jb
      refine⟨a,xs,i,j,x,rfl,rfl,h1,by omega,by omega,by rw[hl];exact w1,g1,q _ _ (h3.eraseIdx j) g2⟩
     ·cases e
  ·cases h6
 ·cases h6
end
abbrev FG:=D->aG->Option aG
abbrev oN:=List D->aG->Option aG
def OwK(ρ ρ':aG)(σ σ':St):Prop:= ∀i:Nat,Ow ρ'[i]? ->Ow ρ[i]? /\σ'[i]? =σ[i]?
theorem OwK.trans {ρ ρ1 ρ2:aG}{σ σ1 σ2:St}(a:OwK ρ ρ1 σ σ1)(b:OwK ρ1 ρ2 σ1 σ2):OwK ρ ρ2 σ σ2:=λi o=>⟨(a i (b i o).1).1,(b i o).2.trans (a i (b i o).1).2⟩
def CY {ι:Type}(IR:Hp->V->ι->Prop)(K:W.Frag)(c:Ct)(hid:bn)(g:ι->aG->Option aG)(ρ:aG)(d:ι):TG:=λv σ H Q=>SR K c hid ρ σ H/\IR (vw H hid) v d/\ ∃ρ',g d ρ=some ρ'/\ ∀σ',SR K c hid ρ' σ' H->OwK ρ ρ' σ σ'->Q σ' H
def CI {ι:Type}(IR:Hp->V->ι->Prop)(X:Cx)(c:Ct)(tg:Expr)(g:ι->aG->Option aG):Prop:= ∀hid ρ d,PG X tg (CY IR X.K c hid g ρ d)
abbrev kZ(X:Cx)(c:Ct)(tg:Expr)(g:FG):Prop:=CI (Rep X.K) X c tg g
def CV(K:W.Frag)(c:Ct)(hid:bn)(g:oN)(ρ:aG)(d:List D):vX:=λv σ H Q=>SR K c hid ρ σ H/\Reps K (vw H hid) v d/\ ∃ρ',g d ρ=some ρ'/\ ∀σ',SR K c hid ρ' σ' H->OwK ρ ρ' σ σ'->Q σ' H
def CK(X:Cx)(c:Ct)(tg:List Expr)(g:oN):Prop:= ∀hid ρ d,PGs X tg (CV X.K c hid g ρ d)
theorem PG.imp {X:Cx}{e:Expr}{t t':TG}(h:PG X e t)(i: ∀v σ H Q,t' v σ H Q->t v σ H Q):PG X e t':=λae s σ H v u Q I r q=>h ae s σ H v u Q I r (i v σ H Q q)
theorem PGs.imp {X:Cx}{e:List Expr}{t t':vX}(h:PGs X e t)(i: ∀v σ H Q,t' v σ H Q->t v σ H Q):PGs X e t':=λae s σ H v u Q I r q=>h ae s σ H v u Q I r (i v σ H Q q)
theorem wg {X:Cx}{e:Expr}{α:Type}{t:α->TG}(h: ∀z,PG X e (t z)):PG X e (λv σ H Q=> ∃z,t z v σ H Q):=λae s σ H v u Q I r ⟨z,q⟩=>h z ae s σ H v u Q I r q
theorem r9 {X:Cx}{e:List Expr}{α:Type}{t:α->vX}(h: ∀z,PGs X e (t z)):PGs X e (λv σ H Q=> ∃z,t z v σ H Q):=λae s σ H v u Q I r ⟨z,q⟩=>h z ae s σ H v u Q I r q
section
variable {X:Cx}{c:Ct}{k:Kd}{st:Stmt}{sts body:List Stmt}{t u:FS}{e tg iter:Expr}{es:List Expr}{pos pos':Pos}{x:Str}{i:Nat}
def gN(i:Nat):FG:=λd ρ=>some (ρ.set i (.v d))
theorem aw(i:Nat)(hn:X.N.Nodup)(hi:X.N[i]? =some x:=by rfl)(hx:sY X.env.scope x:=by first|exact Or.inl rfl|exact Or.inr rfl)(hf:X.fn x=true\/X.env.scope.names.lookup x=some .local:=by first|exact .inl rfl|exact .inr rfl|assumption):
 kZ X c (.Name x pos) (gN i):=λhid ρ d=>PG.imp (oK (i:=i) hn hi hx hf) λv σ H Q hq_=>by
 obtain⟨sr,r,ρ',e,q⟩:=hq_
 cases e
 refine q _ (sr.setV r i) λj o=>?_
 have ne:j≠i:=λe=>by
  subst e
  by_cases lt:j<ρ.length
  ·rw[List.getElem?_set_self lt] at o;exact o
  ·rw[List.getElem?_eq_none (by simpa using lt)] at o;exact o
 rw[List.getElem?_set_ne (Ne.symm ne)] at o⊢;exact⟨o,rfl⟩
def kG:oN:=λds ρ=>match ds with
 | []=>some ρ
 |_=>none
def gV(g:FG)(gs:oN):oN:=λds ρ=>match ds with
 | []=>none
 |d::r=>(g d ρ).bind λρ'=>gs r ρ'
theorem fT:CK X c [] kG:=λhid ρ d=>PGs.imp oa λv σ H Q hq_=>by
 obtain⟨sr,r,ρ',e,q⟩:=hq_
 unfold kG at e;split at e
 ·cases e;cases r;exact⟨rfl,q σ sr λi o=>⟨o,rfl⟩⟩
 ·cases e
theorem bm {g:FG}{gs:oN}(h1:kZ X c e g)(h2:CK X c es gs)(hs:(assignEach (e::es) X.env).map (·.2)=assign e X.env::(assignEach es X.env).map (·.2):=by rfl):CK X c (e::es) (gV g gs):=λhid ρ d=>
 PGs.imp (jv (wg λd=>h1 hid ρ d) (r9 λz:aG×List D=>h2 hid z.1 z.2) hs) λv σ H Q hq_=>by
  obtain⟨sr,r,ρ',e,q⟩:=hq_
  cases d with
  |nil=>cases e
  |cons d1 ds=>
   cases r with
   |cons r1 r2=>
    have e:(g d1 ρ).bind (λρ'=>gs ds ρ')=some ρ':=e
    cases e1:g d1 ρ with
    |none=>rw[e1] at e;cases e
    |some ρ1=>
     rw[e1] at e;exact⟨_,_,rfl,d1,sr,r1,ρ1,e1,λσ1 s1 o1=>⟨(ρ1,ds),s1,r2,ρ',e,λσ2 s2 o2=>q σ2 s2 (o1.trans o2)⟩⟩
def gT(n:Nat)(gs:oN):FG:=λd ρ=>match d with
 | .tup ds=>if ds.length=n then gs ds ρ else none
 |_=>none
theorem fZ {gs:oN}{kk n:Nat}(hc:X.calm=true)(h:CK X c es gs)(hn:(assignEach es X.env).length=n:=by rfl)(hst:(assignEach es X.env).findIdx? (·.1)=none:=by rfl):kZ X c (.Tuple es kk pos) (gT n gs):=λhid ρ d=>
 PG.imp (qX hc (r9 λds=>h hid ρ ds) hn hst) λv σ H Q hq_=>by
  obtain⟨sr,r,ρ',e,q⟩:=hq_
  unfold gT at e;split at e
  ·split at e
   ·cases r with
    |tup h1 h2=>exact⟨_,_,rfl,Same.seqT (dE _ _) h1,by rw[h2.length];assumption,_,sr,h2,ρ',e,q⟩
   ·cases e
  ·cases e
def AU:Option aG->Out
 |some ρ=>.nx ρ
 |none=>.no
def fS(g:FG)(f:GE):FS:=λρ=>match f ρ with
 |some z=>AU (g z.1 z.2)
 |none=>.no
theorem oz {g:FG}{f:GE}(he:DE X c .s e f)(hg:kZ X c tg g)(hs:swapsWithSole [tg] e pos.line X.env=pure false:=by rfl)(hw:swappedStores [tg] e X.env=pure none:=by rfl)
 (h1:(assignEach [tg] X.env).map (·.2)=[assign tg X.env]:=by rfl):DS X c k (.Assign [tg] e pos) (fS g f):=λρ=>
 PS.imp (rT (jr λhid=>he hid ρ) (wg λz:bn×aG×D=>hg z.1 z.2.1 z.2.2) hs hw h1) λD σ H hq_=>by
  obtain⟨hid,sr,q⟩:=hq_
  unfold fS at q;cases e1:f ρ with
  |none=>rw[e1] at q;exact q.elim
  |some z=>
   rw[e1] at q;cases e2:g z.1 z.2 with
   |none=>dsimp only at q;rw[e2] at q;exact q.elim
   |some ρ2=>
    dsimp only at q;rw[e2] at q;exact⟨hid,sr,z.1,z.2,e1,λv H' ⟨kp,s',r⟩=>⟨(hid,z.2,z.1),s',r,ρ2,e2,λσ' s2 _=>q σ' H' hid s2 kp.vw⟩⟩
def dW(i:Nat)(fi:FE)(d:D)(ρ:aG):Option aG:=match gY i ρ with
 |some bs=>(match fi ρ with
  |some (.int j)=>(match mn bs.length j with
   |some m=>some (gq i (bs.set m d) ρ)
   |none=>none)
  |_=>none)
 |none=>none
theorem qU {fi:FE}{d:D}{ρ ρ':aG}(h:dW i fi d ρ=some ρ'): ∃bs j m,gY i ρ=some bs/\fi ρ=some (.int j)/\mn bs.length j=some m/\ρ'=gq i (bs.set m d) ρ:=by
 unfold dW at h;split at h
 ·split at h
  ·split at h
   ·cases h;exact⟨_,_,_, ‹_›, ‹_›, ‹_›,rfl⟩
   ·cases h
  ·cases h
 ·cases h
def Dh(K:W.Frag)(c:Ct)(hid:bn)(g:FG)(ρ:aG)(d:D):TG:=λv σ H Q=>SR K c hid ρ σ H/\Rep K (vw H hid) v d/\ ∃ρ',g d ρ=some ρ'/\ ∀H',Kept hid H H'->SR K c hid ρ' σ H'->Q σ H'
def Cz(X:Cx)(c:Ct)(tg:Expr)(g:FG):Prop:= ∀hid ρ d,PG X tg (Dh X.K c hid g ρ d)
theorem jn(i:Nat){y:Str}{py:Pos}{ix:Expr}{fi:FE}{k1:Kd}(hi:DP X c k1 ix fi)(hN:X.N[i]? =some y:=by rfl)(hv:nT X.env.scope y:=by first|exact Or.inl rfl|exact Or.inr (Or.inl rfl)|exact Or.inr (Or.inr rfl))(hd:(y==("__debug__":Str))=false:=by decide)(hcd:(y==("__classdict__":Str))=false:=by decide)
 (ha: ∀v,assign (.Subscript (.Name y py) ix pos) X.env v=(do
   let ov <-holding [v] (eval (.Name y py) X.env)
   let iv <-holding [v,ov] (eval ix X.env)
   standAt pos
   holding [v,ov,iv] (setItem ov iv v)
   release [v,ov,iv] []):=by intro _;rfl):Cz X c (.Subscript (.Name y py) ix pos) (dW i fi):=λhid ρ d=>
 PG.imp (zv (pv i hN hv hd hcd) (hi hid ρ) qe ha) λv σ H Q hq_=>by
  obtain⟨sr,r,ρ',e,q⟩:=hq_
  obtain⟨bs,j,m,e1,e2,e3,rfl⟩:=qU e
  obtain⟨a,xs,a1,a2,a3,a4,a5⟩:=sr.held e1
  refine⟨.ref a,a1,sr,_,e2,λw H1 s1 r1=>?_⟩
  have b1:=(RK.b k1 r1 λa n=>sr.fresh n).int
  cases b1
  have a4':=a4.mono (aI (hid:=hid) s1)
  refine⟨a,xs,j,m,rfl,rfl,s1 _ _ a2,by rw[a4.length];exact e3,q _ (λb o z hb=>?_) ?_⟩
  ·rw[aC (λe=>by subst e;rw[a3] at hb;cases hb)];exact s1 _ _ z
  ·exact(sr.ext s1).put e1 a1 (λb o z hb=>by rw[aC hb];exact z) aE (by rw[cv a3];exact Reps.set (r.mono (aI s1)) m a4')
theorem nM {g:FG}{f:GE}(he:DE X c .s e f)(hg:Cz X c tg g)(hs:swapsWithSole [tg] e pos.line X.env=pure false:=by rfl)(hw:swappedStores [tg] e X.env=pure none:=by rfl)
 (h1:(assignEach [tg] X.env).map (·.2)=[assign tg X.env]:=by rfl):DS X c k (.Assign [tg] e pos) (fS g f):=λρ=>
 PS.imp (rT (jr λhid=>he hid ρ) (wg λz:bn×aG×D=>hg z.1 z.2.1 z.2.2) hs hw h1) λD σ H hq_=>by
  obtain⟨hid,sr,q⟩:=hq_
  unfold fS at q;cases e1:f ρ with
  |none=>rw[e1] at q;exact q.elim
  |some z=>
   rw[e1] at q;cases e2:g z.1 z.2 with
   |none=>dsimp only at q;rw[e2] at q;exact q.elim
   |some ρ2=>
    dsimp only at q;rw[e2] at q;exact⟨hid,sr,z.1,z.2,e1,λv H' ⟨kp,s',r⟩=>⟨(hid,z.2,z.1),s',r,ρ2,e2,λH2 k2 s2=>q σ H2 hid s2 (kp.trans k2).vw⟩⟩
def Da(K:W.Frag)(c:Ct)(hid:bn)(g:oN)(ρ:aG)(d:List D):vX:=λv σ H Q=>SR K c hid ρ σ H/\Reps K (vw H hid) v d/\ ∃ρ',g d ρ=some ρ'/\ ∀H',Kept hid H H'->SR K c hid ρ' σ H'->Q σ H'
def CL(X:Cx)(c:Ct)(tg:List Expr)(g:oN):Prop:= ∀hid ρ d,PGs X tg (Da X.K c hid g ρ d)
theorem yy:CL X c [] kG:=λhid ρ d=>PGs.imp oa λv σ H Q hq_=>by
 obtain⟨sr,r,ρ',e,q⟩:=hq_
 unfold kG at e;split at e
 ·cases e;cases r;exact⟨rfl,q H (.of (Same.refl _)) sr⟩
 ·cases e
theorem p6 {g:FG}{gs:oN}(h1:Cz X c e g)(h2:CL X c es gs)(hs:(assignEach (e::es) X.env).map (·.2)=assign e X.env::(assignEach es X.env).map (·.2):=by rfl):CL X c (e::es) (gV g gs):=λhid ρ d=>
 PGs.imp (jv (wg λd=>h1 hid ρ d) (r9 λz:aG×List D=>h2 hid z.1 z.2) hs) λv σ H Q hq_=>by
  obtain⟨sr,r,ρ',e,q⟩:=hq_
  cases d with
  |nil=>cases e
  |cons d1 ds=>
   cases r with
   |cons r1 r2=>
    have e:(g d1 ρ).bind (λρ'=>gs ds ρ')=some ρ':=e
    cases e1:g d1 ρ with
    |none=>rw[e1] at e;cases e
    |some ρ1=>
     rw[e1] at e;exact⟨_,_,rfl,d1,sr,r1,ρ1,e1,λH1 k1 s1=>⟨(ρ1,ds),s1,r2.mono k1.vw,ρ',e,λH2 k2 s2=>q H2 (k1.trans k2) s2⟩⟩
theorem xM {gs:oN}{kk n:Nat}(hc:X.calm=true)(h:CL X c es gs)(hn:(assignEach es X.env).length=n:=by rfl)(hst:(assignEach es X.env).findIdx? (·.1)=none:=by rfl):Cz X c (.Tuple es kk pos) (gT n gs):=λhid ρ d=>
 PG.imp (qX hc (r9 λds=>h hid ρ ds) hn hst) λv σ H Q hq_=>by
  obtain⟨sr,r,ρ',e,q⟩:=hq_
  unfold gT at e;split at e
  ·split at e
   ·cases r with
    |tup h1 h2=>exact⟨_,_,rfl,Same.seqT (dE _ _) h1,by rw[h2.length];assumption,_,sr,h2,ρ',e,q⟩
   ·cases e
  ·cases e
def ItOk(K:W.Frag)(W:Hp)(J:It)(ds:List D):Prop:=
 (∀(i:Nat) (d:D) (H:Hp),ds[i]? =some d->Same W H->J.go i H/\ ∀x H',J.yld i H x H'->Same H H'/\ ∀hid:bn,(∀b,hid b=true-> ∃o,H b=some o)->Same W (vw H hid)->Rep K (vw H' hid) x d)/\ ∀H,Same W H->J.stop ds.length H
def D7(K:W.Frag)(c:Ct)(hid:bn)(f:GA)(ρ:aG):TI:=λσ H R=>SR K c hid ρ σ H/\ ∃ds ρ',f ρ=some (ds,ρ')/\ ∀J H',Kept hid H H'->SR K c hid ρ' σ H'->ItOk K (vw H' hid) J ds->R J H'
def DI(X:Cx)(c:Ct)(tg iter:Expr)(f:GA):Prop:= ∀hid ρ,PI X tg iter (D7 X.K c hid f ρ)
theorem PI.imp {t t':TI}(h:PI X tg iter t)(i: ∀σ H Q,t' σ H Q->t σ H Q):PI X tg iter t':=λae s σ H R I q=>h ae s σ H R I (i σ H R q)
theorem Dm {α:Type}{t:α->TI}(h: ∀z,PI X tg iter (t z)):PI X tg iter (λσ H R=> ∃z,t z σ H R):=λae s σ H R I ⟨z,q⟩=>h z ae s σ H R I q
theorem wS {K:W.Frag}{W:Hp}{a:Addr}{xs:List V}{ds:List D}(h:SqT K W a xs)(r:Reps K W xs ds):ItOk K W (C4 K a) ds:=by
 refine⟨λi d H e s=>?_,λH s=>⟨xs,Same.seqT s h,by rw[r.length];exact Nat.le_refl _⟩⟩
 obtain⟨x,e1,r1⟩:=r.get e
 refine⟨⟨xs,x,Same.seqT s h,e1⟩,λy H' ⟨e2,e3⟩=>?_⟩
 subst e2;have:=e3 xs (Same.seqT s h)
 rw[e1] at this;cases this;exact⟨Same.refl _,λhid _ sw=>r1.mono sw⟩
def pZ(lo:Int)(n:Nat):List D:=(List.range n).map λ(i:Nat)=>D.int (lo+i)
theorem lE {K:W.Frag}{W:Hp}{lo:Int}{n:Nat}:ItOk K W (Bw lo n) (pZ lo n):=by
 refine⟨λi d H e s=>?_,λH s=>by show n<=(pZ lo n).length;simp[pZ]⟩
 unfold pZ at e;rw[List.getElem?_map] at e;cases e1:(List.range n)[i]? with
 |none=>rw[e1] at e;cases e
 |some j=>
  rw[e1] at e;obtain⟨h1,h2⟩:=List.getElem?_eq_some_iff.mp e1
  simp at h1 h2;subst h2;cases e
  refine⟨h1,λy H' ⟨e2,e3⟩=>?_⟩
  subst e2 e3;exact⟨Same.refl _,λhid _ sw=>.int⟩
def fy(g:FG)(b:FS):List D->FS
 | [],ρ=>.nx ρ
 |d::r,ρ=>match g d ρ with
  |none=>.no
  |some ρ1=>match b ρ1 with
   | .nx ρ2=>fy g b r ρ2
   | .ct ρ2=>fy g b r ρ2
   | .bk ρ2=>.nx ρ2
   | .rt d ρ2=>.rt d ρ2
   | .no=>.no
def dI(f:GA)(g:FG)(b:FS):FS:=λρ=>match f ρ with
 |some (ds,ρ')=>fy g b ds ρ'
 |none=>.no
theorem eM {f:GA}{g:FG}{tb:FS}(hp:PassesOwn (model X.prog X.w) X.A X.env X.xe)(hc:X.calm=true)(hi:DI X c tg iter f)(hg:kZ X c tg g)(hb:sj X c k body tb)
 (hs: ∀x,foldedSetIterable iter X.env x=pure x:=by intro _;rfl):DS X c k (.For tg iter body [] pos) (dI f g tb):=λρ=>
 PS.imp (zA hp hc (Dm λhid=>hi hid ρ) (wg λz:bn×aG×D=>hg z.1 z.2.1 z.2.2) (sF λρ=>hb ρ) hs) λD σ H hq_=>by
  obtain⟨hid,sr,q⟩:=hq_
  unfold dI at q;cases e1:f ρ with
  |none=>rw[e1] at q;exact q.elim
  |some z=>
   obtain⟨ds,ρ0⟩:=z
   rw[e1] at q;have q':EndOk X.K c k D (vw H hid) (fy g tb ds ρ0):=q
   refine⟨hid,sr,ds,ρ0,e1,λJ H1 kp s1 it=>?_⟩
   refine⟨λi m σ H=>m=ds.length-i/\i<=ds.length/\ ∃hid2 ρ2,SR X.K c hid2 ρ2 σ H/\Same (vw H1 hid) (vw H hid2)/\EndOk X.K c k D (vw H hid2) (fy g tb (ds.drop i) ρ2),⟨ds.length,by simp,Nat.zero_le _,hid,ρ0,s1,Same.refl _,EndOk.mono q' kp.vw⟩,?_⟩
   rintro i m σ2 H2 ⟨rfl,hi',hid2,ρ2,s2,w2,q2⟩
   have wH:Same (vw H1 hid) H2:=w2.trans (dE _ _)
   by_cases hlt:i<ds.length
   ·have hd:ds[i]? =some ds[i]:=List.getElem?_eq_getElem hlt
    have e2:ds.drop i=ds[i]::ds.drop (i+1):=List.drop_eq_getElem_cons hlt
    rw[e2] at q2;unfold fy at q2;obtain⟨go,yl⟩:=it.1 i ds[i] H2 hd wH
    refine .inr ⟨go,λσ' H'=> ∃hid3 ρ3,SR X.K c hid3 ρ3 σ' H'/\Same (vw H1 hid) (vw H' hid3)/\EndOk X.K c k D (vw H' hid3) (fy g tb (ds.drop (i+1)) ρ3),λσ' H' n3=>⟨ds.length- (i+1),by omega,rfl,hlt,n3⟩,λx H3 y=>?_⟩
    obtain⟨s3,rp⟩:=yl x H3 y
    have rx:=rp hid2 s2.tr w2
    cases e3:g ds[i] ρ2 with
    |none=>rw[e3] at q2;exact q2.elim
    |some ρ3=>
     rw[e3] at q2;refine⟨(hid2,ρ2,ds[i]),s2.ext s3,rx,ρ3,e3,λσ4 s4 _=>⟨ρ3,hid2,s4,?_⟩⟩
     have w3:Same (vw H2 hid2) (vw H3 hid2):=aI s3
     dsimp only at q2;cases e4:tb ρ3 with
     |nx ρ5=>rw[e4] at q2;exact λσ' H' hid' z w=>⟨hid',ρ5,z,(w2.trans w3).trans w,EndOk.mono q2 (w3.trans w)⟩
     |ct ρ5=>rw[e4] at q2;exact λσ' H' hid' z w=>⟨hid',ρ5,z,(w2.trans w3).trans w,EndOk.mono q2 (w3.trans w)⟩
     |bk ρ5=>rw[e4] at q2;exact λσ' H' hid' z w=>q2 σ' H' hid' z (w3.trans w)
     |rt d ρ5=>rw[e4] at q2;exact q2
     |no=>rw[e4] at q2;exact q2.elim
   ·have e:i=ds.length:=by omega
    subst e;rw[List.drop_eq_nil_of_le (Nat.le_refl _)] at q2;exact .inl ⟨it.2 H2 wH,q2 σ2 H2 hid2 s2 (Same.refl _)⟩
def kP(p:FT)(b:FS):Nat->FS
 |0,_=>.no
 |n+1,ρ=>match p ρ with
  |none=>.no
  |some false=>.nx ρ
  |some true=>match b ρ with
   | .nx ρ2=>kP p b n ρ2
   | .ct ρ2=>kP p b n ρ2
   | .bk ρ2=>.nx ρ2
   | .rt d ρ2=>.rt d ρ2
   | .no=>.no
theorem mk(n:Nat){p:FT}{tb:FS}(hp:PassesOwn (model X.prog X.w) X.A X.env X.xe)(hc:DT X c e p)(hb:sj X c k body tb):DS X c k (.While e body [] pos) (kP p tb n):=λρ=>
 PS.imp (wK hp (Cu λz:bn×aG=>hc z.1 z.2) (sF λρ=>hb ρ)) λD σ H hq_=>by
  obtain⟨hid,sr,q⟩:=hq_
  refine⟨λm σ H=> ∃hid2 ρ2,SR X.K c hid2 ρ2 σ H/\EndOk X.K c k D (vw H hid2) (kP p tb m ρ2),⟨n,hid,ρ,sr,q⟩,?_⟩
  rintro m σ2 H2 ⟨hid2,ρ2,s2,q2⟩
  cases m with
  |zero=>exact q2.elim
  |succ m=>
   unfold kP at q2;cases e1:p ρ2 with
   |none=>rw[e1] at q2;exact q2.elim
   |some b=>
    rw[e1] at q2;refine⟨(hid2,ρ2),s2,b,e1,λH3 s3=>?_⟩
    cases b with
    |false=>exact uD (q2 σ2 H3 hid2 (s2.ext s3) (aI s3))
    |true=>
     refine uh ⟨λσ' H'=> ∃hid3 ρ3,SR X.K c hid3 ρ3 σ' H'/\EndOk X.K c k D (vw H' hid3) (kP p tb m ρ3),λσ' H' n3=>⟨m,Nat.lt_succ_self _,n3⟩,ρ2,hid2,s2.ext s3,?_⟩
     have w3:Same (vw H2 hid2) (vw H3 hid2):=aI s3
     dsimp only at q2;cases e4:tb ρ2 with
     |nx ρ5=>rw[e4] at q2;exact λσ' H' hid' z w=>⟨hid',ρ5,z,EndOk.mono q2 (w3.trans w)⟩
     |ct ρ5=>rw[e4] at q2;exact λσ' H' hid' z w=>⟨hid',ρ5,z,EndOk.mono q2 (w3.trans w)⟩
     |bk ρ5=>rw[e4] at q2;exact λσ' H' hid' z w=>q2 σ' H' hid' z (w3.trans w)
     |rt d ρ5=>rw[e4] at q2;exact q2
     |no=>rw[e4] at q2;exact q2.elim
end
def gG(n:Nat)(ds:List D):aG:=ds.map Sl.v++List.replicate (n-ds.length) .no
def iN(kd:Kd)(n:Nat)(t:FS)(ds:List D):Option D:=match t (gG n ds) with
 | .rt d _=>some d
 | .nx _=>(match kd with
   | .n=>none
   |_=>some .non)
 |_=>none
def nU(n:Nat)(bs ds:List D):aG:=.arg bs::(ds.map Sl.v++List.replicate (n-1-ds.length) .no)
def mB:aG->Option (List D)
 | .arg bs::_=>some bs
 |_=>none
def uQ(kd:Kd)(n:Nat)(t:FS)(bs ds:List D):Option (D×List D):=match t (nU n bs ds) with
 | .rt d ρ=>(mB ρ).map λb=>(d,b)
 | .nx ρ=>(match kd with
   | .n=>none
   |_=>(mB ρ).map λb=>(.non,b))
 |_=>none
theorem vO {K:W.Frag}{c:Ct}{hid:bn}{H:Hp}(m:Nat): ∀ {vs:List V} {ds:List D},Reps K (vw H hid) vs ds-> ∀(i:Nat) (s:Sl),(ds.map Sl.v++List.replicate m .no)[i]? =some s->SlOk K c hid (vs.map some++List.replicate m none) H i s:=by
 intro vs ds r i s e;have hl:=r.length
 by_cases hi:i<ds.length
 ·rw[List.getElem?_append_left (by simpa using hi),List.getElem?_map] at e
  have e2:ds[i]? =some ds[i]:=List.getElem?_eq_getElem hi
  rw[e2] at e;cases e
  obtain⟨x,h1,h2⟩:=r.get e2
  exact⟨x,by rw[List.getElem?_append_left (by simp;omega),List.getElem?_map,h1];rfl,h2⟩
 ·rw[List.getElem?_append_right (by simpa using hi),List.getElem?_replicate] at e
  split at e
  ·cases e;trivial
  ·cases e
theorem zC {ds:List D}{m i:Nat}: ¬Ow (ds.map Sl.v++List.replicate m Sl.no)[i]? :=λo=>by
 by_cases hi:i<ds.length
 ·rw[List.getElem?_append_left (by simpa using hi),List.getElem?_map,List.getElem?_eq_getElem hi] at o
  exact o
 ·rw[List.getElem?_append_right (by simpa using hi),List.getElem?_replicate] at o
  split at o<;>exact o
theorem SR.begins {K:W.Frag}{hid:bn}{H:Hp}{N:List Str}{vs:List V}{ds:List D}(tr:Bd hid H)(r:Reps K (vw H hid) vs ds):SR K ⟨H,hid,λ_=>false⟩ hid (gG N.length ds) (start N vs) H:=by
 have hl:=r.length
 unfold start gG;rw[hl];exact⟨tr.1,tr.2,λ_ h=>h,λ_ _ h _=>h,λb o h=>⟨o,h⟩,tr.1,(λ_ h=>nomatch h),by simp[hl],λi s e=>vO _ r i s e,λi j a _ o=>absurd o zC⟩
section
variable {P:Program}{w:World}{K:W.Frag}{mg:Str->Option Value}{base:Heap}{x qual:Str}{st:Stmt}{f:Addr}{fd:FuncData}{N ps:List Str}{k:Nat}{t:FS}{kd:Kd}
theorem tR(F:Fun K x qual st f fd)(S:FnScope N ps (ao st))(hkd:kd≠ .b)
 (body: ∀(cdv:Value) (A:Around) (outer:List Env) (s:Shared) (H:Hp) (hid:bn) (E:XK),Room k (A.deeper (envOfC qual (ao st) s.heap.objs.size f cdv))->
   sj (mi oB P w K mg base N qual (ao st) f cdv A outer s H E).nox ⟨H,hid,λ_=>false⟩ kd (aQ st) t):
 FnOk P w K mg base oB (k+1) f fd ps (fm K kd ps.length (iN kd N.length t)):=by
 refine F.ok S (λvs H Q E h=>?_) (λcdv A outer s H vs Q E hr h=>?_)
 ·obtain⟨hid,ds,_,r,hl,_⟩:=h
  rw[r.length,hl]
 ·obtain⟨hid,ds,tr,r,hl,d,hP,q⟩:=h
  refine⟨_,body cdv A outer s H hid E hr (gG N.length ds),hid,SR.begins tr r,?_⟩
  unfold iN at hP;cases e:t (gG N.length ds) with
  |nx ρ=>
   rw[e] at hP;intro σ' H' hid' sr _;have sm:Same H H':=λb o z=>sr.kp b o z rfl
   cases kd with
   |b=>exact absurd rfl hkd
   |s=>cases hP;exact q _ H' sm .non
   |n=>cases hP
  |rt d' ρ=>
   rw[e] at hP;cases hP
   intro v H' R;have sm:Same H H':=λb o z=>R.kp b o z rfl
   cases kd with
   |b=>exact absurd rfl hkd
   |s=>exact q v H' sm R.val
   |n=>exact q v H' sm R.val
  |bk ρ=>rw[e] at hP;cases hP
  |ct ρ=>rw[e] at hP;cases hP
  |no=>rw[e] at hP;cases hP
theorem SR.beginsE {hid:bn}{H:Hp}{a:Addr}{xs us:List V}{bs ds:List D}(tr:Bd hid H)(ha:hid a=true)(hx:H a=some (.lst xs))(rb:Reps K (vw H hid) xs bs)(r:Reps K (vw H hid) us ds)(hN:0<N.length):
 SR K ⟨H,hid,λb=>decide (b=a)⟩ hid (nU N.length bs ds) (start N (.ref a::us)) H:=by
 have hl:=r.length
 have es:start N (.ref a::us)=some (V.ref a)::(us.map some++List.replicate (N.length-1-ds.length) none):=by
  unfold start;rw[List.map_cons,List.cons_append,List.length_cons,hl];congr 3
  omega
 rw[es];unfold nU;refine⟨tr.1,tr.2,λ_ h=>h,λ_ _ h _=>h,λb o h=>⟨o,h⟩,tr.1,λb h=>?_,by simp[hl],λi s e=>?_,λi j z n o1 o2 q1 q2=>?_⟩
 ·have:b=a:=by simpa using h
  rw[this];exact ha
 ·cases i with
  |zero=>
   cases e
   exact⟨a,xs,rfl,hx,ha,by simp,rb⟩
  |succ i=>
   have z:=vO (c:=⟨H,hid,λb=>decide (b=a)⟩) (N.length-1-ds.length) r i s (by simpa using e)
   cases s with
   |no=>trivial
   |v d=>obtain⟨x,h1,h2⟩:=z;exact⟨x,by simpa using h1,h2⟩
   |own ds=>obtain⟨x,xs,h1,h2⟩:=z;exact⟨x,xs,by simpa using h1,h2⟩
   |arg ds=>obtain⟨x,xs,h1,h2⟩:=z;exact⟨x,xs,by simpa using h1,h2⟩
   |ob b=>obtain⟨x,h1,h2⟩:=z;exact⟨x,by simpa using h1,h2⟩
 ·cases i with
  |zero=>
   cases j with
   |zero=>exact n rfl
   |succ j=>exact zC (by simpa using o2)
  |succ i=>exact zC (by simpa using o1)
theorem uc {ρ:aG}{b:List D}(h:mB ρ=some b):ρ[0]? =some (.arg b):=by
 unfold mB at h;split at h
 ·cases h;rfl
 ·cases h
theorem AX {n:Nat}(F:Fun K x qual st f fd)(S:FnScope N ps (ao st))(hkd:kd≠ .b)(hn:ps.length=n+1)
 (body: ∀(cdv:Value) (A:Around) (outer:List Env) (s:Shared) (H:Hp) (hid:bn) (a:Addr) (E:XK),Room k (A.deeper (envOfC qual (ao st) s.heap.objs.size f cdv))->
   sj (mi oB P w K mg base N qual (ao st) f cdv A outer s H E).nox ⟨H,hid,λb=>decide (b=a)⟩ kd (aQ st) t):
 FnOk P w K mg base oB (k+1) f fd ps (ub K kd n (uQ kd N.length t)):=by
 refine F.ok S (λvs H Q E h=>?_) (λcdv A outer s H vs Q E hr h=>?_)
 ·obtain⟨hid,a,xs,bs,us,ds,rfl,_,_,_,_,r,hl,_⟩:=h
  rw[List.length_cons,r.length,hl,hn]
 ·obtain⟨hid,a,xs,bs,us,ds,rfl,tr,ha,hx,rb,r,hl,d,bs',hM,q⟩:=h
  have hN:0<N.length:=by have:=congrArg List.length S.pre;rw[List.length_take] at this;omega
  refine⟨_,body cdv A outer s H hid a E hr (nU N.length bs ds),hid,SR.beginsE tr ha hx rb r hN,?_⟩
  have fin: ∀(v:V) (H':Hp) (ρ:aG) (d:D),Ret K ⟨H,hid,λb=>decide (b=a)⟩ kd ρ H' v d->mB ρ=some bs'->(∀v H' xs',(∀b o,H b=some o->b≠a->H' b=some o)->H' a=some (.lst xs')->BL K kd hid H H' v d xs' bs'->Q v H')->Q v H':=by
   intro v H' ρ d R h0 q;obtain⟨a',xs',m1,m2,m3⟩:=R.arg 0 _ (uc h0)
   have:a'=a:=by simpa using m1
   subst this;refine q v H' xs' (λb o z n=>R.kp b o z (by simpa using n)) m2 ?_
   cases kd with
   |b=>exact absurd rfl hkd
   |s=>exact⟨R.val,m3⟩
   |n=>
    obtain⟨p,ys,es,rfl,rfl,h1,h2,h3⟩:=R.val
    exact⟨p,ys,es,rfl,rfl,h1,h2,h3,m3⟩
  unfold uQ at hM;cases e:t (nU N.length bs ds) with
  |nx ρ=>
   rw[e] at hM;intro σ' H' hid' sr _;cases kd with
   |b=>exact absurd rfl hkd
   |s=>
    dsimp only at hM;cases e0:mB ρ with
    |none=>rw[e0] at hM;cases hM
    |some b=>
     rw[e0] at hM;cases hM;exact fin .non H' ρ .non (zj (k:=.s) (by decide) (sr.post (k:=.s) (Same.refl _) .non (by decide)) sr.h0) e0 q
   |n=>cases hM
  |rt d' ρ=>
   rw[e] at hM;dsimp only at hM;cases e0:mB ρ with
   |none=>rw[e0] at hM;cases hM
   |some b=>
    rw[e0] at hM;cases hM;intro v H' R;exact fin v H' ρ _ R e0 q
  |bk ρ=>rw[e] at hM;cases hM
  |ct ρ=>rw[e] at hM;cases hM
  |no=>rw[e] at hM;cases hM
end
def sy(K:W.Frag):Sp:=λvs H Q _=> ∃(a:Addr) (ns:List Int),vs=[.ref a]/\SqR K H a (ns.map V.int)/\ns.length<=63/\ ∀H',Q (.bl true) H'
theorem nq {K:W.Frag}{F:Hp}: ∀ns:List Int,Reps K F (ns.map V.int) (ns.map D.int)
 | []=>.nil
 |_::r=>.cons .int (nq r)
theorem zS {P:Program}{w:World}{K:W.Frag}{mg:Str->Option Value}{base:Heap}{f:Addr}{fd:FuncData}{x:Str}{k:Nat}{M:List D->Option D}(F:FnOk P w K mg base oB k f fd [x] (fm K .s 1 M))(hM: ∀ns:List Int,ns.length<=63->M [.scr (ns.map D.int)]=some (.bl true)):
 FnOk P w K mg base oB k f fd [x] (sy K):=F.imp λvs H Q E hq_=>by
 obtain⟨a,ns,e,hS,hl,q⟩:=hq_
 subst e;have hv:vw H (λ_=>false)=H:=by funext b;unfold vw;simp
 refine⟨λ_=>false,[.scr (ns.map D.int)],⟨(λb h=>nomatch h),(λb xs h=>nomatch h)⟩,?_,rfl,.bl true,hM ns hl,λv H' _ r=>?_⟩
 ·rw[hv];exact .cons (.scr hS (nq ns)) .nil
 ·cases r;exact q H'
theorem walkD {l:W.OpenLaw}{k:Nat}{x:Str}{q:Program}{loose:List Str}{XP:(Str->Option Value)->Heap->Prop}{YP:World->Heap->Prop}{d:DefRec}{K:Params->W.Frag}(hn:l.most=some 63)(hdf:d.params.defaults=[])(hr:Room k callerA)
 (hY: ∀(w:World) (h:Heap),YP w h->(K w.params).In h)
 (F: ∀(w:World) (mg:Str->Option Value) (fa:Addr) (h:Heap),(K w.params).In h->h.Ns mainGlobals mg->mg d.name=some (.ref fa)->
   ∃fd:FuncData,(∀(s:Shared) (u:Value),BindsTo s fd ⟨[u],[]⟩ [(x,u)])/\ ∀base:Heap,(K w.params).In base->base.Ns mainGlobals mg->FnOk l.prog w (K w.params) mg base oB k fa fd [x] (sy (K w.params))):
 W.WalkO q loose XP YP l.row.toRowW d [] (λf vs=>PySem.call f vs):=
 L2.walk_of (n:=63) (k:=k) (x:=x) (CX:=λ_=>oB) (sp:=λw=>sy (K w.params)) hn (by decide) hdf hr hY F (λ_ H a ns hl hO hS=>⟨a,ns,rfl,hS.elim (λr=>r.elim (λe=>by rcases hO a with z|⟨o,xs,z⟩<;>rw[z] at e<;>cases e) .inl) .inr,hl,λ_=>rfl⟩) λ_ _ _ _ _ z=>z
def nP(cells:List (Str×Addr)):List (Str×NameKind)->List (Str×Addr)->List (Str×Addr)
 | [],acc=>acc
 |(n,k)::r,acc=>nP cells r (if k== .free then(match cells.lookup n with
  |some c=>(n,c)::acc
  |none=>acc) else acc)
theorem oE {cells:List (Str×Addr)}: ∀ {names:List (Str×NameKind)} {acc:List (Str×Addr)},(∀p∈acc,cells.lookup p.1=some p.2)-> ∀p∈nP cells names acc,cells.lookup p.1=some p.2
 | [],acc,h,p,hp=>h p hp
 |(n,k)::r,acc,h,p,hp=>by
  refine oE (names:=r) ?_ p hp
  intro q hq;split at hq
  ·split at hq
   ·rename_i c e
    rcases List.mem_cons.mp hq with rfl|hq
    ·exact e
    ·exact h q hq
   ·exact h q hq
  ·exact h q hq
theorem qu {cells:List (Str×Addr)}: ∀ {names:List (Str×NameKind)} {acc:List (Str×Addr)} (p:Str×Addr),p∈nP cells names acc->p∈acc\/(p.1,NameKind.free)∈names
 | [],acc,p,hp=>.inl hp
 |(n,k)::r,acc,p,hp=>by
  rcases qu (names:=r) p hp with hq|hq
  ·split at hq
   ·rename_i ek
    split at hq
    ·rcases List.mem_cons.mp hq with e|hq
     ·subst e
      have:k=.free:=by simpa using ek
      subst this;exact .inr List.mem_cons_self
     ·exact .inl hq
    ·exact .inl hq
   ·exact .inl hq
  ·exact .inr (List.mem_cons_of_mem _ hq)
theorem qi {cells:List (Str×Addr)}: ∀ {names:List (Str×NameKind)} {acc:List (Str×Addr)} {p:Str×Addr},p∈acc->p∈nP cells names acc
 | [],acc,p,h=>h
 |(n,k)::r,acc,p,h=>by
  refine qi (names:=r) ?_
  split
  ·split
   ·exact List.mem_cons_of_mem _ h
   ·exact h
  ·exact h
theorem sk {cells:List (Str×Addr)}{x:Str}{c:Addr}(hc:cells.lookup x=some c): ∀ {names:List (Str×NameKind)} {acc:List (Str×Addr)},(x,NameKind.free)∈names->(x,c)∈nP cells names acc
 | [],_,h=>nomatch h
 |(n,k)::r,acc,h=>by
  rcases List.mem_cons.mp h with e|h
  ·cases e
   refine qi (names:=r) ?_
   rw[if_pos (by rfl),hc]
   exact List.mem_cons_self
  ·exact sk hc (names:=r) h
theorem mG {l:List (Str×Addr)}{x:Str}{c:Addr}(h:(x,c)∈l)(u: ∀p∈l,p.1=x->p.2=c):l.lookup x=some c:=by
 induction l with
 |nil=>exact nomatch h
 |cons p r ih=>
  obtain⟨n,a⟩:=p
  rw[List.lookup_cons];cases e:x==n with
  |true=>
   have e':x=n:=eq_of_beq e
   have:=u (n,a) List.mem_cons_self e'.symm
   simpa using this
  |false=>
   have ne:x≠n:=λe'=>by rw[e'] at e;simp at e
   rcases List.mem_cons.mp h with e'|h
   ·cases e';exact absurd rfl ne
   ·exact ih h λp hp=>u p (List.mem_cons_of_mem _ hp)
theorem qK {cells:List (Str×Addr)}{names:List (Str×NameKind)}{x:Str}{c:Addr}(h:(nP cells names []).lookup x=some c):cells.lookup x=some c:=
 oE (names:=names) (acc:=[]) (λ_ z=>nomatch z) (x,c) (PySem.mem_of_lookup h)
theorem kh {cells:List (Str×Addr)}{names:List (Str×NameKind)}{x:Str}{c:Addr}(hc:cells.lookup x=some c)(hf:(x,NameKind.free)∈names):(nP cells names []).lookup x=some c:=
 mG (sk hc hf) λp hp e=>by
  have:=oE (names:=names) (acc:=[]) (λ_ z=>nomatch z) p hp
  rw[e,hc] at this;exact(Option.some.inj this).symm
theorem cT {scope:Scope}{env:Env}(h: ∀x,(x,NameKind.free)∈scope.names-> ∃c,env.cells.lookup x=some c):closureFor scope env=pure (nP env.cells scope.names []):=by
 unfold closureFor;have key: ∀(names:List (Str×NameKind)) (acc:List (Str×Addr)),(∀x,(x,NameKind.free)∈names-> ∃c,env.cells.lookup x=some c)->
  (forIn names acc (λ(p:Str×NameKind) (r:List (Str×Addr))=>match p with
    |(name,kind)=>if(kind==NameKind.free)=true then do
       let __do_lift <-cellOf env name
       pure (ForInStep.yield ((name,__do_lift)::r)) else pure (ForInStep.yield r)):Sem (List (Str×Addr)))=pure (nP env.cells names acc):=by
  intro names
  induction names with
  |nil=>intro acc _;rfl
  |cons p r ih=>
   intro acc h;obtain⟨n,k⟩:=p
   rw[List.forIn_cons];have hr: ∀x,(x,NameKind.free)∈r-> ∃c,env.cells.lookup x=some c:=λx hx=>h x (List.mem_cons_of_mem _ hx)
   cases e:k==NameKind.free with
   |false=>
    simp only[e,Bool.false_eq_true,if_false,pure_bind];rw[ih acc hr]
    conv=>rhs;unfold nP
    simp[e]
   |true=>
    have ek:k=.free:=by simpa using e
    subst ek;obtain⟨c,hc⟩:=h n List.mem_cons_self
    have ec:cellOf env n=pure c:=by unfold cellOf;rw[hc]
    simp only[beq_self_eq_true,if_true,ec,pure_bind];rw[ih _ hr]
    conv=>rhs;unfold nP
    simp[hc]
 have:=key scope.names [] h
 simp only[this,pure_bind]
theorem gW {sc:Scope}{env:Env}{x:Str}{k:NameKind}(h:(relabel sc env).names.lookup x=some k): ∃k0,sc.names.lookup x=some k0/\(k=k0\/(k0=.free/\k=.cell)):=by
 unfold relabel at h;dsimp only at h
 generalize sc.names=l at h⊢
 induction l with
 |nil=>simp at h
 |cons p r ih=>
  obtain⟨n,k1⟩:=p
  rw[List.map_cons] at h;dsimp only at h;rw[List.lookup_cons];cases hx:x==n with
  |true=>
   refine⟨k1,rfl,?_⟩
   split at h
   ·rename_i hc
    rw[List.lookup_cons] at h;simp only[hx] at h;cases h
    have:k1=.free:=by
     simp only[Bool.and_eq_true] at hc;exact eq_of_beq hc.1.1
    exact .inr ⟨this,rfl⟩
   ·rw[List.lookup_cons] at h
    simp only[hx] at h;cases h
    exact .inl rfl
  |false=>
   split at h
   ·rw[List.lookup_cons] at h;simp only[hx] at h;exact ih h
   ·rw[List.lookup_cons] at h;simp only[hx] at h;exact ih h
def jS(cells:List (Str×Addr))(scope:Scope)(C:Addr):List (Str×Addr):=cellsFrom (C+1) scope.names (nP cells scope.names [])
theorem bp: ∀(names:List (Str×NameKind)) (n:Nat) (acc:List (Str×Addr)),cellsFrom n names acc=cellsFrom n names []++acc
 | [],_,_=>rfl
 |(name,kind)::r,n,acc=>by
  unfold cellsFrom;split
  ·rw[bp r (n+1) ((name,n)::acc),bp r (n+1) [(name,n)],List.append_assoc];rfl
  ·exact bp r n acc
theorem nQ: ∀ {names:List (Str×NameKind)} {n:Nat} {p:Str×Addr},p∈cellsFrom n names []->(p.1,NameKind.cell)∈names
 | [],_,_,h=>nomatch h
 |(name,kind)::r,n,p,h=>by
  unfold cellsFrom at h;split at h
  ·rename_i hk
   have hk':kind=.cell:=by simpa using hk
   subst hk';rw[bp] at h;rcases List.mem_append.mp h with h|h
   ·exact List.mem_cons_of_mem _ (nQ h)
   ·rw[List.mem_singleton.mp h];exact List.mem_cons_self
  ·exact List.mem_cons_of_mem _ (nQ h)
theorem jY: ∀ {names:List (Str×NameKind)} {n:Nat} {x:Str},(x,NameKind.cell)∈names-> ∃c,(x,c)∈cellsFrom n names []
 | [],_,_,h=>nomatch h
 |(name,kind)::r,n,x,h=>by
  unfold cellsFrom;rcases List.mem_cons.mp h with e|h
  ·cases e
   rw[if_pos (by rfl),bp]
   exact⟨n,List.mem_append_right _ List.mem_cons_self⟩
  ·split
   ·obtain⟨c,hc⟩:=jY (n:=n+1) h
    rw[bp];exact⟨c,List.mem_append_left _ hc⟩
   ·exact jY h
theorem rq {l:List (Str×Addr)}{x:Str}{c:Addr}(h:(x,c)∈l): ∃c',l.lookup x=some c':=by
 induction l with
 |nil=>exact nomatch h
 |cons p r ih=>
  obtain⟨n,a⟩:=p
  rw[List.lookup_cons];cases e:x==n with
  |true=>exact⟨a,rfl⟩
  |false=>
   rcases List.mem_cons.mp h with e'|h
   ·cases e';simp at e
   ·exact ih h
theorem eG {cells:List (Str×Addr)}{sc:Scope}{C:Addr}{x:Str}{c:Addr}(h:(jS cells sc C).lookup x=some c):(x,c)∈cellsFrom (C+1) sc.names []\/(nP cells sc.names []).lookup x=some c:=by
 unfold jS at h;rw[bp,List.lookup_append] at h;cases e:(cellsFrom (C+1) sc.names []).lookup x with
 |none=>rw[e] at h;exact .inr h
 |some c'=>rw[e] at h;cases h;exact .inl (PySem.mem_of_lookup e)
theorem vH {cells:List (Str×Addr)}{sc:Scope}{C:Addr}{x:Str}(h:(x,NameKind.cell)∈sc.names): ∃c,(jS cells sc C).lookup x=some c:=by
 obtain⟨c,hc⟩:=jY (n:=C+1) h
 obtain⟨c',e⟩:=rq hc
 exact⟨c',by unfold jS;rw[bp,List.lookup_append,e];rfl⟩
theorem qp {cells:List (Str×Addr)}{sc:Scope}{C:Addr}{x:Str}(h:(x,NameKind.cell)∉sc.names):(jS cells sc C).lookup x=(nP cells sc.names []).lookup x:=by
 unfold jS;rw[bp,List.lookup_append];cases e:(cellsFrom (C+1) sc.names []).lookup x with
 |none=>rfl
 |some c'=>exact absurd (nQ (PySem.mem_of_lookup e)) h
theorem nS {M:Model}{A:Around}{E:Value->Shared->Prop}{s:Shared}{scope:Scope}{globals:Addr}{closure:List (Str×Addr)}{qual:Str}{outer:Env}{Q:Env->Shared->Prop}
 (hQ: ∀h',h'.Ns s.heap.objs.size (λ_=>none)->(∀b o,s.heap.get? b=some o->h'.get? b=some o)->CellsOk h' (s.heap.objs.size+1) (cellsFrom (s.heap.objs.size+1) scope.names [])->
   Q (newEnv scope s.heap.objs.size globals (cellsFrom (s.heap.objs.size+1) scope.names closure) qual none .none (some outer) builtinsNs) {s with heap:=h',toks:=s.toks}):
 wpAny M A (newFunctionEnv scope globals closure [] qual none .none (some outer)) Q E s:=by
 simp only[newFunctionEnv,Option.isSome_some,if_true];refine wpAny_bind (wpAny_alloc ?_)
 refine wpAny_bind (wpAny_layCells _ (λname kind cells=>by cases hkc:kind==NameKind.cell<;>simp[hkc]) _ _ _ _ ?_)
 have ok:=cellsFrom_ok scope.names (s.heap.push {cls:=.type "dict",data:=.dict #[]}) (s.heap.objs.size+1) [] ⟨λ_ _ hm=>(nomatch hm),List.Pairwise.nil⟩ (by rw[Heap.size_push];exact Nat.le_refl _)
 rw[Heap.size_push] at ok;rw[show({s with heap:=s.heap.push {cls:=.type "dict",data:=.dict #[]}}:Shared).heap.objs.size=s.heap.objs.size+1 from Heap.size_push ..]
 rw[List.forIn_nil];refine wpAny_bind (wpAny_pure (wpAny_pure ?_))
 exact hQ _ ((Heap.Ns.new s.heap (.type "dict")).keeps (pushCells_keeps _ _)) (λb o e=>pushCells_keeps _ _ b o (Heap.get?_push_of_some _ e)) ok
def av(X:Cx)(N':List Str)(scope:Scope)(C:Addr)(s₀:Shared)(H₀:Hp)(ex:List Addr):Cx where
 prog:=X.prog
 w:=X.w
 K:=X.K
 mg:=X.mg
 base:=X.base
 A:=X.A
 N:=N'
 s₀:=s₀
 H₀:=H₀
 env:=compEnvC scope (jS X.env.cells scope C) C X.env
 outer:=X.stack
 stack:=X.stack
 ex:=ex
 fn:=λx=>scope.names.lookup x==some .local||scope.names.lookup x==some .cell
 calm:=X.calm
 pn:=[]
 xe:=λ_ _=>False
def pk(N N':List Str)(sc:Scope):Bool:=
 decide (N.length<=N'.length)&&((N'.take N.length).zip N).all (λp=>(p.1==p.2&& !(sc.names.lookup p.1==some .local)&& !(sc.names.lookup p.1==some .cell))||(sc.names.lookup p.1).isNone)&&
  (N'.drop N.length).all λx=>sc.names.lookup x==some .local||sc.names.lookup x==some .cell
def oR(sc:Scope)(outer:Scope):Bool:=
 sc.names.all λy=>(y.2 != .cell||sc.names.lookup y.1==some .cell)&&(y.2 != .local||sc.names.lookup y.1==some .local)&&(y.2 != .free||(sc.names.lookup y.1==some .free&&(outer.names.lookup y.1==some .cell||outer.names.lookup y.1==some .free)))
theorem p9 {sc o:Scope}(h:oR sc o=true): ∀y∈sc.names,y.2=.cell->sc.names.lookup y.1=some .cell:=λy hy e=>by
 have:=List.all_eq_true.mp h y hy
 simpa [e] using this
theorem gU {sc o:Scope}(h:oR sc o=true): ∀y∈sc.names,y.2=.local->sc.names.lookup y.1=some .local:=λy hy e=>by
 have:=List.all_eq_true.mp h y hy
 simpa [e] using this
theorem fH {sc o:Scope}(h:oR sc o=true): ∀x,(x,NameKind.free)∈sc.names->o.names.lookup x=some .cell\/o.names.lookup x=some .free:=λx hx=>by
 have:=List.all_eq_true.mp h _ hx
 simpa using (by simpa using this:_/\_).2
theorem nk {sc o:Scope}(h:oR sc o=true): ∀x,(x,NameKind.free)∈sc.names->sc.names.lookup x=some .free:=λx hx=>by
 have:=List.all_eq_true.mp h _ hx
 simpa using (by simpa using this:_/\_).1
theorem ug {N N':List Str}{sc:Scope}(h:pk N N' sc=true){i:Nat}{x:Str}(hi:i<N.length)(e:N'[i]? =some x)(hv: ∃k,sc.names.lookup x=some k/\(k=.local\/k=.cell\/k=.free)):N[i]? =some x/\sc.names.lookup x=some .free:=by
 unfold pk at h;simp only[Bool.and_eq_true,decide_eq_true_eq] at h;obtain⟨⟨h1,h2⟩,_⟩:=h
 have hN:N[i]? =some N[i]:=List.getElem?_eq_getElem hi
 have e1:(N'.take N.length)[i]? =some x:=by rw[List.getElem?_take_of_lt hi];exact e
 have hm:(x,N[i])∈(N'.take N.length).zip N:=by
  refine List.mem_of_getElem? (i:=i) ?_
  rw[List.getElem?_zip_eq_some];exact⟨e1,hN⟩
 have:=List.all_eq_true.mp h2 _ hm
 obtain⟨k,hk,hk2⟩:=hv
 dsimp only at this;rw[hk] at this;simp only[Option.isNone_some,Bool.or_false,Bool.and_eq_true,Bool.not_eq_true'] at this;obtain⟨⟨t1,t2⟩,t3⟩:=this
 have ex:x=N[i]:=eq_of_beq t1
 rcases hk2 with rfl|rfl|rfl
 ·simp at t2
 ·simp at t3
 ·exact⟨by rw[hN,<-ex],hk⟩
theorem yE {N N':List Str}{sc:Scope}(h:pk N N' sc=true):N.length<=N'.length:=by
 unfold pk at h;simp only[Bool.and_eq_true,decide_eq_true_eq] at h;exact h.1.1
section
variable {X:Cx}{ae:List (Addr×Obj)}{σ:St}{H:Hp}{s:Shared}{scope:Scope}{N':List Str}{fp:List Addr}
theorem uz(I:Inv X ae σ H s){b:Addr}(f:gA X ae H b):b∉mC X.stack:=λz=>by
 rcases List.mem_cons.mp (I.stkSub b z) with e|z
 ·exact f.2.1 e
 ·exact f.2.2.1 z
theorem lw {h':Heap}{tk:Nat}(I:Inv X ae σ H s)(hF: ∀b∈fp,gA X ae H b)(hO: ∀b∈fp,∃o,s.heap.get? b=some o)(hk:scope.kind=.function)(hs:oR scope X.env.scope=true)(hn:pk X.N N' scope=true)
 (ns:h'.Ns s.heap.objs.size λ_=>none) (kp: ∀b o,s.heap.get? b=some o->h'.get? b=some o) (oc:CellsOk h' (s.heap.objs.size+1) (cellsFrom (s.heap.objs.size+1) scope.names [])):
 Inv (av X N' scope s.heap.objs.size s H fp) [] (σ++List.replicate (N'.length-X.N.length) none) H {s with heap:=h',toks:=tk}:=by
 have hlen:=yE hn
 have cl: ∀x c,(nP X.env.cells scope.names []).lookup x=some c->X.env.cells.lookup x=some c:=λx c e=>qK e
 have clt: ∀x c,(nP X.env.cells scope.names []).lookup x=some c->c<s.heap.objs.size:=λx c e=>let⟨_,z⟩:=I.cell x c (cl x c e);z.lt
 have newC:H s.heap.objs.size=none:=I.hok.fresh (Nat.le_refl _)
 refine⟨⟨I.ok.mod,hk,I.ok.glob,I.ok.blt,Nat.le_refl _,λx y c h1 h2=>?_,λx hx=>?_,λx c h1 h2=>?_,I.ok.hd,I.ok.frames,.inl rfl,λb hb=>⟨?_,λx c e=>?_⟩,I.bs,Nat.le_trans I.ok.bsz I.sz,λb o e hb=>?_,λb hb=>uz I (hF b hb),I.stack,I.stkFree⟩,
  rfl,I.bare,Un.kept kp,⟨_,ns,λi x v e1 e2 e3=>?_⟩,λx c e=>?_,newC,λx c e=>?_,λp hp=>absurd (show p∈([]:List (Addr×Obj)) from hp) (by simp),I.hok.kept kp,?_⟩
 ·
  rcases eG h1 with h1|h1<;>rcases eG h2 with h2|h2
  ·exact name_of_addr oc.apart h1 h2
  ·exact absurd (clt y c h2) (Nat.not_lt.mpr (Nat.le_of_succ_le (oc.empty _ _ h1).2))
  ·exact absurd (clt x c h1) (Nat.not_lt.mpr (Nat.le_of_succ_le (oc.empty _ _ h2).2))
  ·exact I.ok.inj x y c (cl x c h1) (cl y c h2)
 ·
  have hx':(relabel scope X.env).names.lookup x=some .cell\/(relabel scope X.env).names.lookup x=some .free:=hx
  have:(x,NameKind.cell)∈scope.names\/(x,NameKind.free)∈scope.names:=by
   rcases hx' with hx'|hx'
   ·obtain⟨k0,e0,e1|⟨e1,_⟩⟩:=gW hx'
    ·subst e1;exact .inl (PySem.mem_of_lookup e0)
    ·subst e1;exact .inr (PySem.mem_of_lookup e0)
   ·obtain⟨k0,e0,e1|⟨_,e1⟩⟩:=gW hx'
    ·subst e1;exact .inr (PySem.mem_of_lookup e0)
    ·cases e1
  rcases this with this|this
  ·exact vH this
  ·have hc:=fH hs x this
   obtain⟨c,e⟩:=I.ok.has x hc
   exact⟨c,(qp λz=>by have z1:=p9 hs _ z rfl;have z2:=nk hs x this;rw[z2] at z1;cases z1).trans (kh e this)⟩
 ·
  have h1':scope.names.lookup x=some .local\/scope.names.lookup x=some .cell:=by
   have h1:(scope.names.lookup x==some .local||scope.names.lookup x==some .cell)=true:=h1
   simpa using h1
  rcases eG h2 with h2|h2
  ·exact Nat.le_of_succ_le (oc.empty _ _ h2).2
  ·exfalso
   rcases qu _ (PySem.mem_of_lookup h2) with z|z
   ·exact nomatch z
   ·rw[nk hs x z] at h1';rcases h1' with h1'|h1'<;>cases h1'
 ·obtain⟨o,e⟩:=hO b hb
  exact Nat.ne_of_lt (Heap.lt_size e)
 ·rcases eG e with e|e
  ·obtain⟨o,e'⟩:=hO b hb
   exact λz=>absurd (Heap.lt_size e') (Nat.not_lt.mpr (z▸Nat.le_of_succ_le (oc.empty _ _ e).2))
  ·exact(hF b hb).2.2.2.2.1 x c (cl x c e)
 ·obtain⟨_,_,_,h4,_⟩:=hF b hb
  rcases h4 with h4|h4
  ·exact I.ok.noex b o e h4
  ·exact absurd (Nat.lt_of_lt_of_le (Heap.lt_size e) (Nat.le_trans I.ok.bsz h4)) (Nat.lt_irrefl _)
 ·have hi:i<X.N.length:=by
   by_cases hi:i<σ.length
   ·rw[<-I.len];exact hi
   ·rw[List.getElem?_append_right (by omega),List.getElem?_replicate] at e2
    split at e2<;>cases e2
  rw[List.getElem?_append_left (by rw[I.len];exact hi)] at e2
  have e3':(relabel scope X.env).names.lookup x=some .local\/(relabel scope X.env).names.lookup x=some .cell\/(relabel scope X.env).names.lookup x=some .free:=e3
  have hv: ∃k,scope.names.lookup x=some k/\(k=.local\/k=.cell\/k=.free):=by
   rcases e3' with z|z|z
   all_goals
    obtain⟨k0,q0,q1|⟨q1,q2⟩⟩:=gW z
    ·subst q1;exact⟨_,q0,by simp⟩
    ·subst q1;exact⟨_,q0,by simp⟩
  obtain⟨hN,hf⟩:=ug hn hi e1 hv
  have hfm:=PySem.mem_of_lookup hf
  have hc:=fH hs x hfm
  have nc:(x,NameKind.cell)∉scope.names:=λz=>by have z1:=p9 hs _ z rfl;rw[hf] at z1;cases z1
  obtain⟨m,hm,hl⟩:=I.loc
  obtain⟨u,r,l⟩:=hl i x v hN e2 (.inr hc)
  refine⟨u,r,.inr ⟨?_,?_⟩⟩
  ·show(relabel scope X.env).names.lookup x=some .cell\/(relabel scope X.env).names.lookup x=some .free
   rcases e3' with z|z|z
   ·obtain⟨k0,q0,q1|⟨q1,q2⟩⟩:=gW z
    ·subst q1;rw[hf] at q0;cases q0
    ·cases q2
   ·exact .inl z
   ·exact .inr z
  ·rcases l with⟨l,_⟩|⟨_,c,ec,z⟩
   ·have l':X.env.scope.names.lookup x=some .local:=l
    rcases hc with hc|hc<;>rw[hc] at l'<;>cases l'
   ·exact⟨c,(qp nc).trans (kh ec hfm),z.keeps kp⟩
 ·rcases eG e with e|e
  ·exact⟨_,(oc.empty _ _ e).1⟩
  ·obtain⟨v,z⟩:=I.cell x c (cl x c e)
   exact⟨v,z.keeps kp⟩
 ·rcases eG e with e|e
  ·exact I.hok.fresh (Nat.le_of_succ_le (oc.empty _ _ e).2)
  ·exact I.freeC x c (cl x c e)
 ·show(σ++_).length=N'.length
  rw[List.length_append,List.length_replicate,I.len];omega
end
def CZ(K:W.Frag)(c:Ct)(hid:bn)(f:FA)(ρ:aG):TI:=λσ H R=>SR K c hid ρ σ H/\ ∃ds,f ρ=some ds/\ ∀J H',Same H H'->ItOk K (vw H' hid) J ds->R J H'
def DIp(X:Cx)(c:Ct)(tg iter:Expr)(f:FA):Prop:= ∀hid ρ,PI X tg iter (CZ X.K c hid f ρ)
def BZ {ι:Type}(IR:Hp->V->ι->Prop)(L W:Hp)(J:It)(ds:List ι):Prop:=
 (∀(i:Nat) (d:ι) (H:Hp),ds[i]? =some d->Same L H->Same W H->J.go i H/\ ∀x H',J.yld i H x H'->Same H H'/\ ∀hid:bn,(∀b,hid b=true-> ∃o,H b=some o)->Same W (vw H hid)->IR (vw H' hid) x d)/\ ∀H,Same L H->Same W H->J.stop ds.length H
abbrev yB(K:W.Frag)(L W:Hp)(J:It)(ds:List D):Prop:=BZ (Rep K) L W J ds
theorem ItOk.b {K:W.Frag}{L W:Hp}{J:It}{ds:List D}(h:ItOk K W J ds):yB K L W J ds:=⟨λi d H e _ w=>h.1 i d H e w,λH _ w=>h.2 H w⟩
def DD {ι:Type}(IR:Hp->V->ι->Prop)(K:W.Frag)(c:Ct)(hid:bn)(f:aG->Option (List ι))(ρ:aG):TI:=λσ H R=>SR K c hid ρ σ H/\ ∃ds,f ρ=some ds/\ ∀J H',Same H H'->BZ IR H' (vw H' hid) J ds->R J H'
def DL {ι:Type}(IR:Hp->V->ι->Prop)(X:Cx)(c:Ct)(tg iter:Expr)(f:aG->Option (List ι)):Prop:= ∀hid ρ,PI X tg iter (DD IR X.K c hid f ρ)
abbrev xu(X:Cx)(c:Ct)(tg iter:Expr)(f:FA):Prop:=DL (Rep X.K) X c tg iter f
section
variable {X:Cx}{c:Ct}{k:Kd}{tg iter:Expr}{pos:Pos}
theorem DIp.b {f:FA}(h:DIp X c tg iter f):xu X c tg iter f:=λhid ρ=>PI.imp (h hid ρ) λσ H R ⟨sr,ds,e,q⟩=>⟨sr,ds,e,λJ H' s io=>q J H' s io.b⟩
theorem DIp.e {f:FA}(h:DIp X c tg iter f):DI X c tg iter (cC f):=λhid ρ=>PI.imp (h hid ρ) λσ H R hq_=>by
 obtain⟨sr,ds,ρ',e,q⟩:=hq_
 obtain⟨e1,rfl⟩:=pO e
 exact⟨sr,ds,e1,λJ H' s io=>q J H' (.of s) (sr.ext s) io⟩
def j3(f:FE):FA:=λρ=>(f ρ).bind λd=>match d with
 | .lst ds=>some ds
 |_=>none
def yn(f:FE):FA:=λρ=>(f ρ).bind λd=>match d with
 | .tup ds=>some ds
 |_=>none
theorem mZ {f:FE}{ρ:aG}{ds:List D}(h:j3 f ρ=some ds):f ρ=some (.lst ds):=by
 unfold j3 at h;cases e:f ρ with
 |none=>rw[e] at h;cases h
 |some d=>
  rw[e] at h;cases d with
  |lst z=>cases h;rfl
  |_=>cases h
theorem uw {f:FE}{ρ:aG}{ds:List D}(h:yn f ρ=some ds):f ρ=some (.tup ds):=by
 unfold yn at h;cases e:f ρ with
 |none=>rw[e] at h;cases h
 |some d=>
  rw[e] at h;cases d with
  |tup z=>cases h;rfl
  |_=>cases h
theorem ww {K:W.Frag}{W:Hp}{a:Addr}{xs:List V}{ds:List D}(h1:SqL K W a xs)(h2:Reps K W xs ds):ItOk K W (C7 K a) ds:=by
 refine⟨λi d H e s=>?_,λH s=>⟨_,s.seq h1,by rw[h2.length];exact Nat.le_refl _⟩⟩
 obtain⟨x,e1,r1⟩:=h2.get e
 refine⟨⟨_,x,s.seq h1,e1⟩,λy H' ⟨e2,e3⟩=>?_⟩
 subst e2;have:=e3 _ (s.seq h1)
 rw[e1] at this;cases this;exact⟨Same.refl _,λhid _ sw=>r1.mono sw⟩
theorem v0 {f:FE}(h:DP X c .s iter f):DIp X c tg iter (j3 f):=λhid ρ=>PI.imp (sf (h hid ρ)) λσ H R hq_=>by
 obtain⟨sr,ds,e,q⟩:=hq_
 refine⟨sr,_,mZ e,λv H' s' r=>?_⟩
 cases r with
 |lst h1 h2=>have h1:=SqL.of (K:=X.K) h1;exact⟨_,rfl,⟨_,(dE _ _).seq h1⟩,q _ H' s' (ww h1 h2)⟩
theorem vP {f:FE}(h:DP X c .b iter f):xu X c tg iter (j3 f):=λhid ρ=>PI.imp (sf (h hid ρ)) λσ H R hq_=>by
 obtain⟨sr,ds,e,q⟩:=hq_
 refine⟨sr,_,mZ e,λv H' s' r=>?_⟩
 obtain⟨a,xs,rfl,h1,h2⟩:=Rep1.lst r
 refine⟨a,rfl,⟨_,h1⟩,q _ H' s' ⟨λi d H e s w=>?_,λH s w=>⟨_,s.seq h1,by rw[h2.length];exact Nat.le_refl _⟩⟩⟩
 obtain⟨x,e1,r1⟩:=h2.get e
 refine⟨⟨_,x,s.seq h1,e1⟩,λy H' ⟨e2,e3⟩=>?_⟩
 subst e2;have:=e3 _ (s.seq h1)
 rw[e1] at this;cases this;exact⟨Same.refl _,λhid _ sw=>r1.mono sw⟩
theorem yU {f:FE}(h:DP X c .s iter f):DIp X c tg iter (yn f):=λhid ρ=>PI.imp (AM (h hid ρ)) λσ H R hq_=>by
 obtain⟨sr,ds,e,q⟩:=hq_
 refine⟨sr,_,uw e,λv H' s' r=>?_⟩
 cases r with
 |tup h1 h2=>exact⟨_,rfl,⟨_,Same.seqT (dE _ _) h1⟩,q _ H' s' (wS h1 h2)⟩
def aW(f:FA):FA:=λρ=>(f ρ).bind λds=>match ds with
 | [.int j]=>if j.natAbs<4000000000 then some (pZ 0 j.toNat) else none
 |_=>none
def hZ(f:FA):FA:=λρ=>(f ρ).bind λds=>match ds with
 | [.int i,.int j]=>if i.natAbs<4000000000/\j.natAbs<4000000000 then some (pZ i (j-i).toNat) else none
 |_=>none
theorem aS {a:Expr}{f:FA}{p:Pos}(hm:X.mg "range"=none)(ha:DA X c [a] f)(hg:Gl X "range":=by rfl)(hs:starEach [a] X.env=[(false,eval a X.env)]:=by rfl):DIp X c tg (.Call (.Name "range" p) [a] [] pos) (aW f):=λhid ρ=>
 PI.imp (uV hg hm (ha hid ρ) hs) λσ H R hq_=>by
  obtain⟨sr,ds,e,q⟩:=hq_
  unfold aW at e;cases e1:f ρ with
  |none=>rw[e1] at e;cases e
  |some z=>
   rw[e1] at e;dsimp only[Option.bind] at e;split at e
   ·split at e
    ·cases e
     refine⟨sr,_,e1,λvs H' s' r=>?_⟩
     cases r with
     |cons r t=>cases t;cases r;exact⟨_,rfl,by omega,by omega,q _ H' s' lE⟩
    ·cases e
   ·cases e
theorem gX {a b:Expr}{f:FA}{p:Pos}(hm:X.mg "range"=none)(ha:DA X c [a,b] f)(hg:Gl X "range":=by rfl)(hs:starEach [a,b] X.env=[(false,eval a X.env),(false,eval b X.env)]:=by rfl)(hs2:starEach [b] X.env=[(false,eval b X.env)]:=by rfl):DIp X c tg (.Call (.Name "range" p) [a,b] [] pos) (hZ f):=λhid ρ=>
 PI.imp (uP hg hm (ha hid ρ) hs hs2) λσ H R hq_=>by
  obtain⟨sr,ds,e,q⟩:=hq_
  unfold hZ at e;cases e1:f ρ with
  |none=>rw[e1] at e;cases e
  |some z=>
   rw[e1] at e;dsimp only[Option.bind] at e;split at e
   ·split at e
    ·cases e
     refine⟨sr,_,e1,λvs H' s' r=>?_⟩
     cases r with
     |cons r t=>cases t with
      |cons r' t=>cases t;cases r;cases r';exact⟨_,_,rfl,by omega,q _ H' s' lE⟩
    ·cases e
   ·cases e
def hE(ifs:List Expr)(env:Env):Sem Bool:=forIn ifs true λc r=>if r=true then do let ok <-isTrue c env (eval c env);pure (ForInStep.yield ok) else pure (ForInStep.yield r)
def lP(X:Cx)(c:Ct)(ifs:List Expr)(p:FT):Prop:= ∀hid ρ (ae:List (Addr×Obj)) (s:Shared) (σ:St) (H:Hp) (Q:Bool->Hp->Prop),Inv X ae σ H s->De X.K c hid p ρ σ H Q->wpAny (model X.prog X.w) X.A (hE ifs X.env) (TP X ae σ Q) X.xe s
def cm:FT:=λ_=>some true
theorem cf:lP X c [] cm:=λhid ρ ae s σ H Q I hq_=>by
 obtain⟨sr,d,e,q⟩:=hq_
 cases e
 exact wpAny_tests_nil ⟨H,I,q H (Same.refl _)⟩
theorem fA {e:Expr}{p:FT}(h:DT X c e p):lP X c [e] p:=λhid ρ ae s σ H Q I q=>wpAny_tests_one (h hid ρ ae s σ H Q I q)
end
theorem dO {prog:Program}{w:World}{A:Around}{R:Result->Shared->Prop}{s:Shared}{elt target iter:Expr}{ifs:List Expr}{scope:Scope}{pos:Pos}{it acc:Value}{env:Env}(I:Nat->Shared->Prop)
 (turn: ∀n s,I n s->wpAny (model prog w) A (pyNext it) (λr s₁=>match r with
   |none=>R (.ok .next) s₁
   |some v=>wpAny (model prog w) A (letOwnedTupleGo target it v) (λ_ s₁=>wpAny (model prog w) A (assign target env v) (λ_ s₂=>
     wpAny (model prog w) A (hE ifs env) (λok s₃=>
      if ok=true then wpAny (model prog w) A (eval elt env) (λx s₄=>
       wpAny (model prog w) A (call (.builtin "list.append") [acc,x]) (λ_ s₅=> ∃m,m<n/\I m s₅) (λ_ _=>False) s₄) (λ_ _=>False) s₃
      else∃m,m<n/\I m s₃) (λ_ _=>False) s₂) (λ_ _=>False) s₁) (λ_ _=>False) s₁) (λ_ _=>False) s)
 (n:Nat) (h:I n s):
 codeAny (model prog w) A (.compLoop (.ListComp elt [⟨target,iter,ifs,0⟩] scope pos) 0 it acc env) R s:=by
 have no: ∀ {E':Value->Shared->Prop} (x:Value) (s:Shared),False->E' x s:=λ_ _ z=>z.elim
 refine codeAny_loop rfl I (λn s hI=>?_) n h
 show wpAny _ A ((compTurn (.ListComp elt [⟨target,iter,ifs,0⟩] scope pos) 0 it acc env).onRaise (λx=>do noteFrame x env;theTreesLotGoes x)) _ _ s
 refine wpAny_noted ?_
 rw[compTurn_list];refine wpAny_bind (wpAny_standAt (wpAny_bind (wpAny_mono (turn n s hI) (λr s₁ h₁=>?_) no)))
 cases r with
 |none=>exact wpAny_pure h₁
 |some v=>
  refine wpAny_bind (wpAny_mono h₁ (λ_ s₁ h₁=>?_) no)
  refine wpAny_bind (wpAny_mono h₁ (λ_ s₂ h₂=>wpAny_bind (wpAny_mono h₂ (λok s₃ h₃=>?_) no)) no)
  cases ok with
  |false=>exact wpAny_pure ⟨rfl,h₃⟩
  |true=>
   exact wpAny_bind (wpAny_bind (wpAny_mono h₃ (λx s₄ h₄=>wpAny_bind (wpAny_mono h₄ (λ_ s₅ h₅=>wpAny_pure (wpAny_pure ⟨rfl,h₅⟩)) no)) no))
def db {ι:Type}(g:ι->aG->Option aG)(p:FT)(f:FE)(ρ0:aG):List ι->Option (List D)
 | []=>some []
 |d::r=>(g d ρ0).bind λρ1=>(p ρ1).bind λb=>if b=true then(f ρ1).bind λy=>(db g p f ρ0 r).map (y:: ·) else db g p f ρ0 r
def aO {ι:Type}(m:Nat)(gi:aG->Option (List ι))(g:ι->aG->Option aG)(p:FT)(f:FE):FE:=λρ=>(gi ρ).bind λds=>if ds.length<=sizeLine then(db g p f (ρ++List.replicate m .no) ds).map D.lst else none
theorem lz {ι:Type}{m:Nat}{gi:aG->Option (List ι)}{g:ι->aG->Option aG}{p:FT}{f:FE}{ρ:aG}{d:D}(h:aO m gi g p f ρ=some d): ∃ds ys,gi ρ=some ds/\ds.length<=sizeLine/\db g p f (ρ++List.replicate m .no) ds=some ys/\d=.lst ys:=by
 unfold aO at h;cases e1:gi ρ with
 |none=>rw[e1] at h;cases h
 |some ds=>
  rw[e1] at h;dsimp only[Option.bind] at h;split at h
  ·cases e2:db g p f (ρ++List.replicate m .no) ds with
   |none=>rw[e2] at h;cases h
   |some ys=>rw[e2] at h;cases h;exact⟨ds,ys,rfl, ‹_›,e2,rfl⟩
  ·cases h
def fz {ι:Type}(n:Nat)(g:ι->aG->Option aG):Prop:= ∀d (ρ0 ρ1:aG),g d ρ0=some ρ1->ρ1.length=ρ0.length/\ ∀i:Nat,i<n->ρ1[i]? =ρ0[i]?
def tJ(n:Nat)(g:oN):Prop:= ∀d (ρ0 ρ1:aG),g d ρ0=some ρ1->ρ1.length=ρ0.length/\ ∀i:Nat,i<n->ρ1[i]? =ρ0[i]?
theorem bi {n i:Nat}(h:n<=i):fz n (gN i):=λd ρ0 ρ1 e=>by
 cases e
 exact⟨by simp,λj hj=>List.getElem?_set_ne (by omega)⟩
theorem jP {n:Nat}:tJ n kG:=λd ρ0 ρ1 e=>by
 unfold kG at e;split at e
 ·cases e;exact⟨rfl,λ_ _=>rfl⟩
 ·cases e
theorem cM {n:Nat}{g:FG}{gs:oN}(h1:fz n g)(h2:tJ n gs):tJ n (gV g gs):=λd ρ0 ρ1 e=>by
 cases d with
 |nil=>cases e
 |cons d ds=>
  have e:(g d ρ0).bind (λρ'=>gs ds ρ')=some ρ1:=e
  cases e1:g d ρ0 with
  |none=>rw[e1] at e;cases e
  |some ρ2=>
   rw[e1] at e;obtain⟨a1,a2⟩:=h1 d ρ0 ρ2 e1
   obtain⟨b1,b2⟩:=h2 ds ρ2 ρ1 e
   exact⟨b1.trans a1,λi hi=>(b2 i hi).trans (a2 i hi)⟩
theorem qM {n m:Nat}{gs:oN}(h:tJ n gs):fz n (gT m gs):=λd ρ0 ρ1 e=>by
 unfold gT at e;split at e
 ·split at e
  ·exact h _ _ _ e
  ·cases e
 ·cases e
theorem SR.forget {K:W.Frag}{c:Ct}{hid:bn}{ρ0 ρ1:aG}{σ:St}{H:Hp}(h:SR K c hid ρ1 σ H)(hl:ρ1.length=ρ0.length)(hs: ∀(i:Nat) (s:Sl),ρ0[i]? =some s->s=.no\/ρ1[i]? =some s):SR K c hid ρ0 σ H:=by
 have ow: ∀i:Nat,Ow ρ0[i]? ->Ow ρ1[i]? :=λi o=>by
  cases e:ρ0[i]? with
  |none=>rw[e] at o;exact o.elim
  |some s=>
   rcases hs i s e with rfl|z
   ·rw[e] at o;exact o.elim
   ·rw[z,<-e];exact o
 refine⟨h.tr,h.ht,h.h0,h.kp,h.t0,h.c0,h.m0,h.len.trans hl,λi s e=>?_,λi j a n o1 o2=>h.ap i j a n (ow i o1) (ow j o2)⟩
 rcases hs i s e with rfl|z
 ·trivial
 ·exact h.sl i s z
theorem SR.more {K:W.Frag}{c:Ct}{hid:bn}{ρ:aG}{σ:St}{H:Hp}(h:SR K c hid ρ σ H)(m:Nat):SR K c hid (ρ++List.replicate m .no) (σ++List.replicate m none) H:=by
 have lt: ∀ {i:Nat},Ow (ρ++List.replicate m Sl.no)[i]? ->i<ρ.length:=λ{i} o=>by
  by_cases hi:i<ρ.length
  ·exact hi
  ·rw[List.getElem?_append_right (by omega),List.getElem?_replicate] at o
   split at o<;>exact o.elim
 refine⟨h.tr,h.ht,h.h0,h.kp,h.t0,h.c0,h.m0,by simp[h.len],λi s e=>?_,λi j a n o1 o2 q1 q2=>?_⟩
 ·by_cases hi:i<ρ.length
  ·rw[List.getElem?_append_left hi] at e
   have z:=h.sl i s e
   have es:(σ++List.replicate m none)[i]? =σ[i]? :=List.getElem?_append_left (by rw[h.len];exact hi)
   cases s with
   |no=>trivial
   |v d=>obtain⟨x,h1,h2⟩:=z;exact⟨x,es.trans h1,h2⟩
   |own ds=>obtain⟨a,xs,h1,h2⟩:=z;exact⟨a,xs,es.trans h1,h2⟩
   |arg ds=>obtain⟨a,xs,h1,h2⟩:=z;exact⟨a,xs,es.trans h1,h2⟩
   |ob b=>obtain⟨a,h1,h2⟩:=z;exact⟨a,es.trans h1,h2⟩
  ·rw[List.getElem?_append_right (by omega),List.getElem?_replicate] at e
   split at e
   ·cases e;trivial
   ·cases e
 ·have l1:=lt o1
  have l2:=lt o2
  rw[List.getElem?_append_left l1] at o1;rw[List.getElem?_append_left l2] at o2;rw[List.getElem?_append_left (by rw[h.len];exact l1)] at q1
  rw[List.getElem?_append_left (by rw[h.len];exact l2)] at q2
  exact h.ap i j a n o1 o2 q1 q2
section
variable {X:Cx}{c:Ct}{elt tg iter:Expr}{ifs:List Expr}{scope:Scope}{pos:Pos}{N':List Str}{m:Nat}{ι:Type}{IR:Hp->V->ι->Prop}{gi:aG->Option (List ι)}{g:ι->aG->Option aG}{p:FT}{f:FE}
theorem SR.write {K:W.Frag}{hid:bn}{ρ:aG}{σ:St}{H:Hp}{a:Addr}{o':HO}(h:SR K c hid ρ σ H)(hh:hid a=true)(h0:c.H₀ a=none)(na: ∀i:Nat,Ow ρ[i]? ->σ[i]? ≠some (some (.ref a))){o:HO}(ha:H a=some o)(hm: ∀p u,o≠ .nst p u:=by intro _ _ e;cases e)(hn: ∀xs,o'≠ .tup xs:=by intro _ e;cases e):SR K c hid ρ σ (bd H a o'):=by
 have tr': ∀b o,H b=some o-> ∃o2,(bd H a o') b=some o2:=λb o q=>by
  by_cases e:b=a
  ·subst e;exact⟨_,aE⟩
  ·exact⟨o,by rw[aC e];exact q⟩
 refine⟨λb hb=>let⟨o,q⟩:=h.tr b hb;tr' b o q,λb xs hb q=>by
  by_cases e:b=a
  ·subst e;rw[aE] at q;exact hn _ (Option.some.inj q)
  ·rw[aC e] at q;exact h.ht b xs hb q,h.h0,λb o q m=>?_,λb o q=>let⟨o2,q2⟩:=h.t0 b o q;tr' b o2 q2,h.c0,h.m0,h.len,λi s e=>?_,h.ap⟩
 ·rw[aC (aT q h0)];exact h.kp b o q m
 ·have z:=h.sl i s e
  have ne: ∀a',Ow ρ[i]? ->σ[i]? =some (some (.ref a'))->a'≠a:=λa' o q w=>by subst w;exact na i o q
  cases s with
  |no=>trivial
  |v d=>obtain⟨x,h1,h2⟩:=z;exact⟨x,h1,by rw[cv hh];exact h2⟩
  |own ds=>obtain⟨a',xs,h1,h2,h3,h4,h5⟩:=z;exact⟨a',xs,h1,by rw[aC (ne a' (by rw[e];trivial) h1)];exact h2,h3,h4,by rw[cv hh];exact h5⟩
  |arg ds=>obtain⟨a',xs,h1,h2,h3,h4,h5⟩:=z;exact⟨a',xs,h1,by rw[aC (ne a' (by rw[e];trivial) h1)];exact h2,h3,h4,by rw[cv hh];exact h5⟩
  |ob b=>obtain⟨a',h1,h2⟩:=z;exact⟨a',h1,h2.mono (λow x hx o q=>by rw[aC (hx.ne (ne a' (by rw[e];exact ow) h1) ha hm)];exact q) (by rw[cv hh];exact Same.refl _) λ_ _ _ q=>q⟩
structure CLI(Y:Cx)(K:W.Frag)(c:Ct)(hid:bn)(ρ0:aG)(H W:Hp)(D0:Addr)(fp:List Addr)(tn:Nat->Heap->Prop){ι:Type}(g:ι->aG->Option aG)(p:FT)(f:FE)(ds:List ι)(ys:List D)(n i:Nat)(xs:List V)(ad:List D)(σ':St)(H':Hp)(s':Shared):Prop where
 e:n=ds.length-i
 hi:i<=ds.length
 I:Inv Y [] σ' H' s'
 st:tn i s'.heap
 fr: ∀b∈fp,H' b=none
 sr:SR K c hid ρ0 σ' H'
 sm:Same H H'
 ac:H' D0=some (.lst xs)
 rp:Reps K (vw H' hid) xs ad
 w:Same W (vw H' hid)
 hl:xs.length<=i
 na: ∀i:Nat,Ow ρ0[i]? ->σ'[i]? ≠some (some (.ref D0))
 go: ∃rest,db g p f ρ0 (ds.drop i)=some rest/\ad++rest=ys
theorem uH(hcalm:X.calm=true)(hT:fz X.N.length g)
 (hg: ∀C s₀ H₀ ex,CI IR (av X N' scope C s₀ H₀ ex) c tg g) (hp: ∀C s₀ H₀ ex,lP (av X N' scope C s₀ H₀ ex) c ifs p) (he: ∀C s₀ H₀ ex,DP (av X N' scope C s₀ H₀ ex) c .s elt f)
 {σ3:St} {H H3:Hp} {s3 s4:Shared} {hid:bn} {ρ:aG} {J:It} {it D0 C:Addr} {fp:List Addr} {tn:Nat->Heap->Prop} {ds:List ι} {ys:List D} {R:Result->Shared->Prop} {W:Hp} (hρ:ρ.length=X.N.length)
 (I:Inv (av X N' scope C s3 H3 fp) [] σ3 H3 s4) (sr:SR X.K c hid (ρ++List.replicate m .no) σ3 H3) (hh:hid D0=true) (h00:c.H₀ D0=none) (na: ∀i:Nat,Ow (ρ++List.replicate m Sl.no)[i]? ->σ3[i]? ≠some (some (.ref D0))) (hacc:H3 D0=some (.lst [])) (sm:Same H H3) (nD:H D0=none) (wv:Same W (vw H3 hid)) (T:Turn X.prog X.w X.K tg J fp it tn) (st:tn 0 s4.heap) (hF: ∀b∈fp,H3 b=none)
 (io:BZ IR H W J ds) (hz:ds.length<=sizeLine) (hc:db g p f (ρ++List.replicate m .no) ds=some ys)
 (hR: ∀(s':Shared) (σ':St) (H':Hp) (xs:List V),Inv (av X N' scope C s3 H3 fp) [] σ' H' s'->Same H H'->H' D0=some (.lst xs)->Reps X.K (vw H' hid) xs ys->R (.ok .next) s'):
 codeAny (model X.prog X.w) X.A (.compLoop (.ListComp elt [⟨tg,iter,ifs,0⟩] scope pos) 0 (.ref it) (.ref D0) (compEnvC scope (jS X.env.cells scope C) C X.env)) R s4:=by
 have stat: ∀ {ae:List (Addr×Obj)} {H':Hp},(∀q∈ae,q.1∉fp)->(∀b∈fp,H' b=none)-> ∀b∈fp,gA (av X N' scope C s3 H3 fp) ae H' b:=λ{ae H'} hpn hn b hb=>
  ⟨hn b hb,(I.ok.exf b hb).1,I.ok.exfs b hb,.inl hb,(I.ok.exf b hb).2,λq hq e=>hpn q (by have hq':q∈([]:List (Addr×Obj))++ae:=hq;simpa using hq') (by rw[e];exact hb)⟩
 have no: ∀q∈([]:List (Addr×Obj)),q.1∉fp:=λq hq=>nomatch hq
 refine dO (λn s'=> ∃(i:Nat) (xs:List V) (ad:List D) (σ':St) (H':Hp),CLI (av X N' scope C s3 H3 fp) X.K c hid (ρ++List.replicate m .no) H W D0 fp tn g p f ds ys n i xs ad σ' H' s') ?_ ds.length
  ⟨0,[],[],σ3,H3,by simp,Nat.zero_le _,I,st,hF,sr,sm,hacc,.nil,wv,Nat.zero_le _,na,ys,by simpa using hc,rfl⟩
 rintro n s5 ⟨i,xs,ad,σ5,H5,rfl,hi,I5,st5,f5,sr5,sm5,ac5,rp5,w5,hl5,na5,rest,hc5,hy5⟩
 have wH:Same W H5:=w5.trans (dE _ _)
 by_cases hlt:i<ds.length
 ·have hd:ds[i]? =some ds[i]:=List.getElem?_eq_getElem hlt
  have e2:ds.drop i=ds[i]::ds.drop (i+1):=List.drop_eq_getElem_cons hlt
  rw[e2] at hc5;unfold db at hc5;obtain⟨go,yl⟩:=io.1 i ds[i] H5 hd sm5 wH
  refine bq (T.item (av X N' scope C s3 H3 fp) rfl rfl rfl hcalm i [] s5 σ5 H5 (λ_ _=>False) I5 (stat no f5) st5 go) λr s6 hq_=>?_
  obtain⟨u,hr,h6⟩:=hq_
  subst hr;refine bq h6 λ_ s7 hq_=>?_
  obtain⟨x,H7,I7,r7,y7,st7,f7⟩:=hq_
  obtain⟨s7',rp⟩:=yl x H7 y7
  have rx:=rp hid sr5.tr w5
  have I7':=I7.pinned (stat no f7) (T.obj _ _ st7)
  cases e3:g ds[i] (ρ++List.replicate m .no) with
  |none=>rw[e3] at hc5;cases hc5
  |some ρ1=>
   rw[e3] at hc5;have hc5:(p ρ1).bind (λb=>if b=true then(f ρ1).bind λy=>(db g p f (ρ++List.replicate m .no) (ds.drop (i+1))).map (y:: ·) else db g p f (ρ++List.replicate m .no) (ds.drop (i+1)))=some rest:=hc5
   obtain⟨tl1,tl2⟩:=hT _ _ _ e3
   have fg: ∀ {σ':St} {H':Hp},SR X.K c hid ρ1 σ' H'->SR X.K c hid (ρ++List.replicate m .no) σ' H':=λ{σ' H'} z=>z.forget tl1 λj s e=>by
    by_cases hj:j<X.N.length
    ·exact .inr ((tl2 j hj).trans e)
    ·refine .inl ?_
     rw[List.getElem?_append_right (by omega),List.getElem?_replicate] at e
     split at e
     ·cases e;rfl
     ·cases e
   have keepT: ∀ {σ':St} {H':Hp} {s':Shared},Inv (av X N' scope C s3 H3 fp) ([]++i0 fp s7.heap) σ' H' s'->tn (i+1) s'.heap/\ ∀b∈fp,H' b=none:=λ{σ' H' s'} J'=>by
    refine⟨T.keep _ _ _ st7 λb hb o e=>(J'.pin (b,o) (List.mem_append_right _ (List.mem_append_right _ (cQ hb e)))).1,λb hb=>?_⟩
    obtain⟨o,e,_⟩:=T.obj _ _ st7 b hb
    exact(J'.pin (b,o) (List.mem_append_right _ (List.mem_append_right _ (cQ hb e)))).2.1
   refine bq (hg C s3 H3 fp hid _ ds[i] _ s7 σ5 H7 x u (λσ' H'=>H'=H7/\SR X.K c hid ρ1 σ' H7/\OwK (ρ++List.replicate m .no) ρ1 σ5 σ') I7' r7 ⟨sr5.ext s7',rx,ρ1,e3,λσ' z o=>⟨rfl,z,o⟩⟩) λ_ s8 hq_=>?_
   obtain⟨σ8,H8,I8,e8,q8,o8⟩:=hq_
   subst e8;have na8: ∀i:Nat,Ow (ρ++List.replicate m Sl.no)[i]? ->σ8[i]? ≠some (some (.ref D0)):=λj o=>by
    have o1:Ow ρ1[j]? :=by
     by_cases hj:j<X.N.length
     ·rw[tl2 j hj];exact o
     ·exfalso
      rw[List.getElem?_append_right (by omega),List.getElem?_replicate] at o
      split at o<;>exact o.elim
    rw[(o8 j o1).2];exact na5 j o
   cases e4:p ρ1 with
   |none=>rw[e4] at hc5;cases hc5
   |some b=>
    rw[e4] at hc5;have hc5:(if b=true then(f ρ1).bind λy=>(db g p f (ρ++List.replicate m .no) (ds.drop (i+1))).map (y:: ·) else db g p f (ρ++List.replicate m .no) (ds.drop (i+1)))=some rest:=hc5
    refine bq (hp C s3 H3 fp hid ρ1 _ s8 σ8 H8 (λb' H'=>b'=b/\Same H8 H') I8 ⟨q8,b,e4,λH' s'=>⟨rfl,s'⟩⟩) λok s9 hq_=>?_
    obtain⟨H9,I9,e9,sm9⟩:=hq_
    subst e9;have w9:Same (vw H5 hid) (vw H9 hid):=aI (s7'.trans sm9)
    cases ok with
    |false=>
     have hc5:db g p f (ρ++List.replicate m .no) (ds.drop (i+1))=some rest:=hc5
     obtain⟨k1,k2⟩:=keepT I9
     exact⟨ds.length- (i+1),by omega,i+1,xs,ad,σ8,H9,rfl,hlt,I9.unpinned,k1,k2,fg (q8.ext sm9),sm5.trans (s7'.trans sm9),sm9 _ _ (s7' _ _ ac5),rp5.mono w9,w5.trans w9,by omega,na8,rest,hc5,hy5⟩
    |true=>
     have hc5:((f ρ1).bind λy=>(db g p f (ρ++List.replicate m .no) (ds.drop (i+1))).map (y:: ·))=some rest:=hc5
     cases e5:f ρ1 with
     |none=>rw[e5] at hc5;cases hc5
     |some y=>
      rw[e5] at hc5;have hc5:(db g p f (ρ++List.replicate m .no) (ds.drop (i+1))).map (y:: ·)=some rest:=hc5
      cases e6:db g p f (ρ++List.replicate m .no) (ds.drop (i+1)) with
      |none=>rw[e6] at hc5;cases hc5
      |some rest'=>
       rw[e6] at hc5;cases hc5
       show wpAny (model X.prog X.w) X.A (eval elt _) _ _ s9;refine bq (he C s3 H3 fp hid ρ1 _ s9 σ8 H9 (λv H'=>Same H9 H'/\Rep X.K (vw H' hid) v y) I9 ⟨q8.ext sm9,y,e5,λv H' s' r=>⟨s',r⟩⟩) λv s10 hq_=>?_
       obtain⟨z,H10,I10,rz,sm10,rp10⟩:=hq_
       have sm':Same H5 H10:=s7'.trans (sm9.trans sm10)
       have a10:H10 D0=some (.lst xs):=sm' _ _ ac5
       refine bq (cg (X:=av X N' scope C s3 H3 fp) _ s10 σ8 H10 (.ref D0) [z] (.ref D0) [v] (λ_ H'=>H'=bd H10 D0 (.lst (xs++[z]))) I10 rfl (.cons rz .nil) ⟨D0,xs,z,rfl,rfl,a10,by omega,rfl⟩) λ_ s11 ⟨_,H11,I11,_,e11⟩=>?_
       subst e11;obtain⟨k1,k2⟩:=keepT I11
       have vv:vw (bd H10 D0 (.lst (xs++[z]))) hid=vw H10 hid:=cv hh
       have w10:Same (vw H5 hid) (vw H10 hid):=aI sm'
       refine⟨ds.length- (i+1),by omega,i+1,xs++[z],ad++[y],σ8,_,rfl,hlt,I11.unpinned,k1,k2,?_,λb o e=>?_,aE,?_,?_,by simp;omega,na8,rest',e6,by rw[<-hy5];simp⟩
       ·
        have q10:=fg ((q8.ext sm9).ext sm10)
        exact q10.write hh h00 na8 a10
       ·rw[aC (aT e nD)];exact sm' _ _ (sm5 _ _ e)
       ·rw[vv];exact(rp5.mono w10).append (.cons rp10 .nil)
       ·rw[vv];exact w5.trans w10
 ·have e:i=ds.length:=by omega
  subst e;rw[List.drop_eq_nil_of_le (Nat.le_refl _)] at hc5;cases hc5
  rw[List.append_nil] at hy5;subst hy5;refine bq (T.done (av X N' scope C s3 H3 fp) rfl rfl rfl hcalm ds.length [] s5 σ5 H5 (λ_ _=>False) I5 (stat no f5) st5 (io.2 H5 sm5 wH)) λr s6 hq_=>?_
  obtain⟨hr,I6⟩:=hq_
  subst hr;exact hR s6 σ5 H5 xs I6 sm5 ac5 rp5
theorem ma(hcalm:X.calm=true)(hk:scope.kind=.function)(hs:oR scope X.env.scope=true)(hn:pk X.N N' scope=true)(hm:N'.length-X.N.length=m)(hT:fz X.N.length g)
 (hg: ∀C s₀ H₀ ex,CI IR (av X N' scope C s₀ H₀ ex) c tg g) (hp: ∀C s₀ H₀ ex,lP (av X N' scope C s₀ H₀ ex) c ifs p) (he: ∀C s₀ H₀ ex,DP (av X N' scope C s₀ H₀ ex) c .s elt f)
 {E:Value->Shared->Prop} {ae:List (Addr×Obj)} {σ:St} {H:Hp} {s:Shared} {hid:bn} {ρ:aG} {J:It} {it:Addr} {fp:List Addr} {tn:Nat->Heap->Prop} {ds:List ι} {ys:List D} {RR:Value->Addr->Result->Shared->Prop}
 (I:Inv X ae σ H s) (sr:SR X.K c hid ρ σ H) (T:Turn X.prog X.w X.K tg J fp it tn) (st:tn 0 s.heap) (hF: ∀b∈fp,gA X ae H b) (io:BZ IR H (vw H hid) J ds) (hz:ds.length<=sizeLine) (hc:db g p f (ρ++List.replicate m .no) ds=some ys)
 (hR: ∀(D C:Addr) (s':Shared) (H':Hp) (xs:List V),s.heap.objs.size<=D->s.heap.objs.size<=C->D≠C->H D=none->Same H H'->H' D=some (.lst xs)->Reps X.K (vw H' (bj hid D)) xs ys->(∃m,s'.heap.Ns C m)->H' C=none->s'.os=s.os->AllBare s'.gens->HOk X.prog X.w H' s'.heap->Un (mC X.stack) fp H H' s.heap s'.heap->RR (.ref D) C (.ok .next) s'):
 wpAny (model X.prog X.w) X.A (newList []) (λacc s₃=>wpAny (model X.prog X.w) X.A (newFunctionEnv scope X.env.globals (nP X.env.cells scope.names []) [] X.env.qual none .none (some X.env)) (λcenv s₄=>
  codeAny (model X.prog X.w) X.A (.compStart (.ListComp elt [⟨tg,iter,ifs,0⟩] scope pos) 0 (.ref it) acc {cenv with scope:=relabel scope X.env}) (RR acc cenv.locals) s₄) E s₃) E s:=by
 refine wpAny_newObj_type (nS λh₁ hns₁ kp1 oc₁=>?_)
 dsimp only at hns₁ kp1 oc₁⊢
 generalize hH2:s.heap.push {cls:=.type "list",dict:=none,data:=.seq ([]:List Value).toArray}=H2 at hns₁ kp1 oc₁⊢
 have hC:H2.objs.size=s.heap.objs.size+1:=by rw[<-hH2,Heap.size_push]
 have hD:H s.heap.objs.size=none:=I.hok.fresh (Nat.le_refl _)
 have I2:Inv X ae σ (bd H s.heap.objs.size (.lst [])) {s with heap:=H2}:=by
  rw[<-hH2];exact I.laid (t':=s.toks) (λb o e=>Heap.get?_push_of_some _ e) (Nat.le_refl _) ⟨Nat.zero_le _,[],0,.nil,Heap.get?_push_size _ rfl⟩
 have fpLt: ∀b∈fp,b<s.heap.objs.size:=λb hb=>let⟨o,e,_⟩:=T.obj 0 s.heap st b hb;Heap.lt_size e
 have hF2: ∀b∈fp,gA X ae (bd H s.heap.objs.size (.lst [])) b:=λb hb=>⟨by rw[aC (Nat.ne_of_lt (fpLt b hb))];exact(hF b hb).1,(hF b hb).2⟩
 have kp0: ∀b o,s.heap.get? b=some o->H2.get? b=some o:=λb o e=>by rw[<-hH2];exact Heap.get?_push_of_some _ e
 have IY:=lw (tk:=s.toks) (N':=N') (fp:=fp) I2 hF2 (λb hb=>let⟨o,e,_⟩:=T.obj 0 s.heap st b hb;⟨o,kp0 b o e⟩) hk hs hn hns₁ kp1 oc₁
 rw[hm] at IY;dsimp only at IY;have sr0:SR X.K c (bj hid s.heap.objs.size) (ρ++List.replicate m .no) (σ++List.replicate m none) (bd H s.heap.objs.size (.lst [])):=(sr.hide (bh hD _) hD aE).more m
 have hρ:ρ.length=X.N.length:=by rw[<-sr.len];exact I.len
 have nf:hid s.heap.objs.size=false:=sr.fresh hD
 have st1:tn 0 h₁:=T.keep _ _ _ st λb hb o e=>kp1 b o (kp0 b o e)
 have na0: ∀i:Nat,Ow (ρ++List.replicate m Sl.no)[i]? ->(σ++List.replicate m none)[i]? ≠some (some (V.ref s.heap.objs.size)):=(sr.more m).notOw nf
 have wv:Same (vw H hid) (vw (bd H s.heap.objs.size (.lst [])) (bj hid s.heap.objs.size)):=by rw[oA hD];exact Same.refl _
 have loop: ∀s4:Shared,s4={s with heap:=h₁,toks:=s.toks}->
  codeAny (model X.prog X.w) X.A (.compLoop (.ListComp elt [⟨tg,iter,ifs,0⟩] scope pos) 0 (.ref it) (.ref s.heap.objs.size) (compEnvC scope (jS X.env.cells scope H2.objs.size) H2.objs.size X.env)) (RR (.ref s.heap.objs.size) H2.objs.size) s4:=by
  rintro s4 rfl
  refine uH (H:=H) (hid:=bj hid s.heap.objs.size) (W:=vw H hid) hcalm hT hg hp he hρ IY sr0 bR (sr.fresh0 hD) na0 aE (bh hD _) hD wv T st1 (λb hb=>(hF2 b hb).1) io hz hc ?_
  intro s' σ' H' xs I' sm' hx' rp';have un1:Un (mC X.stack) fp H (bd H s.heap.objs.size (.lst [])) s.heap H2:=Un.laid (λb o e=>kp0 b o e) (Nat.le_refl _) hD
  refine hR s.heap.objs.size H2.objs.size s' H' xs (Nat.le_refl _) (by rw[hC];exact Nat.le_succ _) (by rw[hC];exact Nat.ne_of_lt (Nat.lt_succ_self _)) hD sm' hx' rp' (let⟨m,hm,_⟩:=I'.loc;⟨m,hm⟩) I'.free I'.os I'.bare I'.hok (un1.trans I'.base)
 exact codeAny_compStart_list (loop _ rfl) (T.self X.A 0 _ _ _ st1 (loop _ rfl))
theorem bS(hcalm:X.calm=true)(hT:fz X.N.length g)(hi:DL IR X c tg iter gi)
 (hg: ∀C s₀ H₀ ex,CI IR (av X N' scope C s₀ H₀ ex) c tg g) (hp: ∀C s₀ H₀ ex,lP (av X N' scope C s₀ H₀ ex) c ifs p) (he: ∀C s₀ H₀ ex,DP (av X N' scope C s₀ H₀ ex) c .s elt f)
 (hk:scope.kind=.function:=by rfl) (hs:oR scope X.env.scope=true:=by kernel_rfl) (hn:pk X.N N' scope=true:=by kernel_rfl) (hm:N'.length-X.N.length=m:=by rfl) (hset: ∀x,foldedSetIterable iter X.env x=pure x:=by intro _;rfl):
 DP X c .n (.ListComp elt [⟨tg,iter,ifs,0⟩] scope pos) (aO m gi g p f):=by
 intro hid ρ ae s σ H Q I hq;obtain⟨sr,d,hd,q⟩:=hq
 obtain⟨ds,ys,e1,hz,hc,rfl⟩:=lz hd
 rw[eval_ListComp];refine wpAny_comprehension_free (use:=none) rfl hset (cT λx hx=>I.ok.has x (fH hs x hx)) hk (gU hs) ?_
 refine bq (hi hid ρ ae s σ H (λJ H'=>Same H H'/\BZ IR H' (vw H' hid) J ds) I ⟨sr,ds,e1,λJ H' s1 io=>⟨s1,io⟩⟩) λv s1 h1=>bq h1 λitv s2 h2=>?_
 obtain⟨it,fp,tn,J,H2,rfl,I2,T,st2,f2,sm,io⟩:=h2
 refine ma (RR:=λacc C=>compPost (model X.prog X.w) X.A X.xe none (EP X ae σ Q) acc C) hcalm hk hs hn hm hT hg hp he I2 (sr.ext sm) T st2 f2 io hz hc ?_
 intro D C s' H' xs hDge hCge hDC hD sm' hx rp ⟨mm,hns⟩ hC' hos hbare hok hun;refine⟨mm,hns,λh' hsb=>⟨.ref D,H',?_,rfl,q _ H' (sm.trans sm') ⟨D,xs,ys,rfl,rfl,sm.free hD,hx,rp⟩⟩⟩
 have neC: ∀b o,s2.heap.get? b=some o->b≠C:=λb o e z=>by subst z;exact absurd (Heap.lt_size e) (Nat.not_lt.mpr hCge)
 have hun':Un (mC X.stack) fp H2 H' s2.heap h':=⟨λb o e n h1 h2=>(hsb.2 b (neC b o e)).trans (hun.keep b o e n h1 h2),λb o e n h1 h2=>let⟨sl,z⟩:=hun.slot b o e n h1 h2;⟨sl,(hsb.2 b (neC b o e)).trans z⟩,hun.free,λb o e h2=>let⟨o',z⟩:=hun.there b o e h2;⟨o',(hsb.2 b (neC b o e)).trans z⟩,hun.tups,hun.frzs,hun.tbls⟩
 have hok':HOk X.prog X.w H' h':=λb o e=>by
  have nb: ∀b' o',H' b'=some o'->b'≠C:=λb' o' e' z=>by subst z;rw[hC'] at e';cases e'
  refine(hok b o e).stay (λc' u hc' z=>(hsb.2 c' ?_).trans z) (λ_ z=>z) λ_ _ z=>z
  rcases hc' with z'|z'
  ·rw[z'];exact nb b o e
  ·exact nb c' _ z'
 exact I2.call' (s':={s' with heap:=h'}) (ch:=fp) hos hun' hok' hbare λb hb=>⟨(f2 b hb).2.2.2.1,(f2 b hb).2.1,(f2 b hb).2.2.2.2.1,(f2 b hb).2.2.2.2.2⟩
end
section
variable {X:Cx}{c:Ct}{elt tg iter:Expr}{ifs:List Expr}{scope:Scope}{pos spos py:Pos}{N':List Str}{m:Nat}{gi:FA}{g:FG}{p:FT}{f:FE}{y:Str}
theorem yo(i:Nat)(hcalm:X.calm=true)(hN:X.N.Nodup)(hT:fz X.N.length g)(hi:xu X c tg iter gi)
 (hg: ∀C s₀ H₀ ex,kZ (av X N' scope C s₀ H₀ ex) c tg g) (hp: ∀C s₀ H₀ ex,lP (av X N' scope C s₀ H₀ ex) c ifs p) (he: ∀C s₀ H₀ ex,DP (av X N' scope C s₀ H₀ ex) c .s elt f)
 (hsw:swapsWith (.ListComp elt [⟨tg,iter,ifs,0⟩] scope pos) (some (.Name y py)) spos.line X.env=pure true) (hyi:X.N[i]? =some y) (hy:X.env.scope.names.lookup y=some .local)
 (hk:scope.kind=.function) (hs:oR scope X.env.scope=true) (hn:pk X.N N' scope=true) (hm:N'.length-X.N.length=m) (hset: ∀x,foldedSetIterable iter X.env x=pure x) (ρ:aG):
 PS X (.Assign [.Name y py] (.ListComp elt [⟨tg,iter,ifs,0⟩] scope pos) spos) (yg (λσ H Q=> ∃hid,xt X.K c hid .n (aO m gi g p f) ρ σ H Q) (sE i)):=by
 intro ae s σ H E I hq;obtain⟨hid,sr,d,hd,q⟩:=hq
 obtain⟨ds,ys,e1,hz,hc,rfl⟩:=lz hd
 rw[exec_Assign_Name_used _ _ _ _ hsw];refine wpAny_bind (wpAny_standAt (wpAny_bind ?_))
 show wpAny _ X.A (do let _ <-comprehension (.ListComp elt [⟨tg,iter,ifs,0⟩] scope pos) scope X.env _ (newList []) false (eval iter X.env) (some (assign (.Name y py) X.env))) _ _ s
 refine wpAny_bind (wpAny_mono (wpAny_comprehension_free (use:=some (assign (.Name y py) X.env)) (Q:=λ_ s'=>SP X ae E .next s') rfl hset (cT λx hx=>I.ok.has x (fH hs x hx)) hk (gU hs) ?_) (λ_ s' hq=>wpAny_pure (wpAny_pure hq)) λ_ _ e=>e)
 refine bq (hi hid ρ ae s σ H (λJ H'=>Same H H'/\yB X.K H' (vw H' hid) J ds) I ⟨sr,ds,e1,λJ H' s1 io=>⟨s1,io⟩⟩) λv s1 h1=>bq h1 λitv s2 h2=>?_
 obtain⟨it,fp,tn,J,H2,rfl,I2,T,st2,f2,sm,io⟩:=h2
 refine ma (IR:=Rep X.K) (RR:=λacc C=>compPost (model X.prog X.w) X.A X.xe (some (assign (.Name y py) X.env)) (λ_ s'=>SP X ae E .next s') acc C) hcalm hk hs hn hm hT hg hp he I2 (sr.ext sm) T st2 f2 io hz hc ?_
 intro D C s' H' xs hDge hCge hDC hD sm' hx rp ⟨mm,hns⟩ hC' hos hbare hok hun;have I3:Inv X ae σ H' s':=I2.call' (ch:=fp) hos hun hok hbare λb hb=>⟨(f2 b hb).2.2.2.1,(f2 b hb).2.1,(f2 b hb).2.2.2.2.1,(f2 b hb).2.2.2.2.2⟩
 have fin:=q _ H' (sm.trans sm') ⟨D,xs,ys,rfl,rfl,sm.free hD,hx,rp⟩
 have ltC: ∀b o,s2.heap.get? b=some o->b≠C:=λb o e z=>by subst z;exact absurd (Heap.lt_size e) (Nat.not_lt.mpr hCge)
 have hLC:C≠X.env.locals:=λz=>by
  have:=I2.lt
  rw[<-z] at this;exact absurd this (Nat.not_lt.mpr hCge)
 show wpAny _ X.A (assign (.Name y py) X.env (.ref D)) _ _ s';refine wpAny_assign_Name (jL (v:=.ref D) I3 hN hyi (.inl hy) rfl (λs'' I4 hb=>?_) (.inr hy))
 obtain⟨a,hsb,ha⟩:=hb
 have hCa:C≠a:=by
  rcases ha with rfl|ha
  ·exact hLC
  ·obtain⟨w',o,ho,_⟩:=I2.cell y a ha
   exact λz=>ltC a o ho z.symm
 refine⟨mm,hns.sameBut hsb hCa,λh3 hs3=>⟨_,H',?_,fin⟩⟩
 refine I4.turned (t':=s''.toks) (it:=C) (λb o nb e=>(hs3.2 b nb).trans e) hC' hLC (.inr (Nat.le_trans I2.sz hCge)) (λx c' e z=>?_) (λq hq z=>?_)
 ·obtain⟨w',o,ho,_⟩:=I2.cell x c' e
  exact ltC c' o ho z
 ·exact ltC q.1 q.2 (I2.pin q hq).1 z
theorem yR(i:Nat){k:Kd}(hcalm:X.calm=true)(hN:X.N.Nodup)(hT:fz X.N.length g)(hi:xu X c tg iter gi)
 (hg: ∀C s₀ H₀ ex,kZ (av X N' scope C s₀ H₀ ex) c tg g) (hp: ∀C s₀ H₀ ex,lP (av X N' scope C s₀ H₀ ex) c ifs p) (he: ∀C s₀ H₀ ex,DP (av X N' scope C s₀ H₀ ex) c .s elt f)
 (hsw:swapsWith (.ListComp elt [⟨tg,iter,ifs,0⟩] scope pos) (some (.Name y py)) spos.line X.env=pure true:=by rfl) (hyi:X.N[i]? =some y:=by rfl) (hy:X.env.scope.names.lookup y=some .local:=by rfl)
 (hk:scope.kind=.function:=by rfl) (hs:oR scope X.env.scope=true:=by kernel_rfl) (hn:pk X.N N' scope=true:=by kernel_rfl) (hm:N'.length-X.N.length=m:=by rfl) (hset: ∀x,foldedSetIterable iter X.env x=pure x:=by intro _;rfl):
 DS X c k (.Assign [.Name y py] (.ListComp elt [⟨tg,iter,ifs,0⟩] scope pos) spos) (dz i (aO m gi g p f)):=λρ=>PS.imp (yo i hcalm hN hT hi hg hp he hsw hyi hy hk hs hn hm hset ρ) λD σ H hq_=>by
 obtain⟨hid,sr,q⟩:=hq_
 unfold dz at q;cases e1:aO m gi g p f ρ with
 |none=>rw[e1] at q;exact q.elim
 |some z=>
  rw[e1] at q;exact⟨hid,sr,z,e1,λv H' s r=>AD (sr.post s r (by decide)) q⟩
end
mutual
def cP:D->D->Bool
 | .non,.non=>true
 | .bl a,.bl b=>a==b
 | .bl a,.int b=>(if a then 1 else 0)==b
 | .int a,.bl b=>a==(if b then 1 else 0)
 | .int a,.int b=>a==b
 | .str a,.str b=>a==b
 | .tup a,.tup b=>cL a b
 | .lst a,.lst b=>cL a b
 | .lst a,.scr b=>cL a b
 | .scr a,.lst b=>cL a b
 | .scr a,.scr b=>cL a b
 |_,_=>false
def cL:List D->List D->Bool
 | [],[]=>true
 |x::xs,y::ys=>cP x y&&cL xs ys
 |_,_=>false
end
mutual
def dS:D->Nat
 | .tup a=>cB a+1
 | .lst a=>cB a+1
 | .scr _=>cLine
 |_=>0
def cB:List D->Nat
 | []=>0
 |x::xs=>max (dS x) (cB xs)
end
theorem ju: ∀ {xs:List D} {i:Nat} {d:D},xs[i]? =some d->dS d<=cB xs
 | [],_,_,h=>by simp at h
 |x::xs,0,d,h=>by simp at h;subst h;unfold cB;exact Nat.le_max_left _ _
 |x::xs,i+1,d,h=>by
  have:=ju (xs:=xs) (i:=i) (d:=d) (by simpa using h)
  unfold cB;exact Nat.le_trans this (Nat.le_max_right _ _)
mutual
theorem lD: ∀x:D,cP x x=true
 | .non=>by unfold cP;rfl
 | .bl a=>by unfold cP;simp
 | .int a=>by unfold cP;simp
 | .str a=>by unfold cP;simp
 | .tup a=>by unfold cP;exact iC a
 | .lst a=>by unfold cP;exact iC a
 | .scr a=>by unfold cP;exact iC a
theorem iC: ∀x:List D,cL x x=true
 | []=>by unfold cL;rfl
 |x::xs=>by unfold cL;rw[lD x,iC xs];rfl
end
def iS(xs ys:List D)(j:Nat):Bool:=match xs[j]?,ys[j]? with
 |some x,some y=>cP x y
 |_,_=>false
theorem nl {xs ys:List D}(h:xs.length=ys.length):(List.range xs.length).all (iS xs ys)=cL xs ys:=by
 induction xs generalizing ys with
 |nil=>
  cases ys with
  |nil=>unfold cL;rfl
  |cons y ys=>simp at h
 |cons x xs ih=>
  cases ys with
  |nil=>simp at h
  |cons y ys=>
   rw[List.length_cons,List.range_succ_eq_map,List.all_cons,List.all_map];have e0:iS (x::xs) (y::ys) 0=cP x y:=rfl
   have e1:((iS (x::xs) (y::ys))∘Nat.succ)=iS xs ys:=by funext j;simp[iS]
   rw[e0,e1,ih (by simpa using h)]
   conv=>rhs;unfold cL
theorem lh: ∀ {xs ys:List D},xs.length≠ys.length->cL xs ys=false
 | [],[],h=>absurd rfl h
 | [],_::_,_=>by unfold cL;rfl
 |_::_,[],_=>by unfold cL;rfl
 |x::xs,y::ys,h=>by unfold cL;rw[lh (xs:=xs) (ys:=ys) (by simpa using h)];simp
section
variable {X:Cx}{ae:List (Addr×Obj)}{σ:St}{H:Hp}{s:Shared}
theorem eT(I:Inv X ae σ H s){a:Addr}{xs ys:List V}(h:SqL X.K H a xs)(h':SqT X.K H a ys):False:=by
 obtain⟨its,_,pl,_⟩:=I.list h
 obtain⟨its',_,pt,_⟩:=I.tuple h'
 exact SeqAt.ne_of_list_tuple pl.isList pt rfl
theorem A7 {a b:List D}(h: ∀zs,cL a zs=cL b zs):(∀z,cP (.tup a) z=cP (.tup b) z)/\(∀z,cP (.lst a) z=cP (.lst b) z)/\ ∀z,cP (.scr a) z=cP (.lst b) z:=by
 refine⟨λz=>?_,λz=>?_,λz=>?_⟩<;>cases z<;>unfold cP<;>first|exact h _|rfl
theorem BT {b:List D}: ∀z,cP (.scr b) z=cP (.lst b) z:=(A7 λ_=>rfl).2.2
mutual
theorem Rep.eqv(I:Inv X ae σ H s): ∀ {v:V} {x y:D},Rep X.K H v x->Rep X.K H v y-> ∀z,cP x z=cP y z
 |_,_,_,.non,.non=>λ_=>rfl
 |_,_,_,.bl,.bl=>λ_=>rfl
 |_,_,_,.int,.int=>λ_=>rfl
 |_,_,_,.str,.str=>λ_=>rfl
 |_,_,_,.tup h r,.tup h' r'=>by rw[I.tuple_inj h h'] at r;exact(A7 (Reps.eqv I r r')).1
 |_,_,_,.lst h r,.lst h' r'=>by rw[I.list_inj (SqL.of h) (SqL.of h')] at r;exact(A7 (Reps.eqv I r r')).2.1
 |_,_,_,.lst h r,.scr h' r'=>by rw[I.list_inj (SqL.of h) h'.seq] at r;exact λz=>((A7 (Reps.eqv I r r')).2.1 z).trans (BT z).symm
 |_,_,_,.scr h r,.lst h' r'=>by rw[I.list_inj h.seq (SqL.of h')] at r;exact(A7 (Reps.eqv I r r')).2.2
 |_,_,_,.scr h r,.scr h' r'=>by rw[I.list_inj h.seq h'.seq] at r;exact λz=>((A7 (Reps.eqv I r r')).2.2 z).trans (BT z).symm
 |_,_,_,.tup h r,.lst h' r'=>(eT I (SqL.of h') h).elim
 |_,_,_,.lst h r,.tup h' r'=>(eT I (SqL.of h) h').elim
 |_,_,_,.tup h r,.scr h' r'=>(eT I h'.seq h).elim
 |_,_,_,.scr h r,.tup h' r'=>(eT I h.seq h').elim
theorem Reps.eqv(I:Inv X ae σ H s): ∀ {v:List V} {x y:List D},Reps X.K H v x->Reps X.K H v y-> ∀z,cL x z=cL y z
 |_,_,_,.nil,.nil=>λ_=>rfl
 |_,_,_,.cons r t,.cons r' t'=>λz=>by
  cases z with
  |nil=>unfold cL;rfl
  |cons w ws=>unfold cL;rw[Rep.eqv I r r' w,Reps.eqv I t t' ws]
end
theorem aJ(I:Inv X ae σ H s){a:Addr}{xs:List V}{ds:List D}(h:SqL X.K H a xs)(r:Reps X.K H xs ds): ∃its:List Value,s.heap.IsList a its.toArray/\its.length=ds.length/\ ∀(j:Nat) (hj:j<its.length),∃(v:V) (d:D),ds[j]? =some d/\RelV v its[j]/\Rep X.K H v d:=by
 obtain⟨its,rv,pl,_⟩:=I.list h
 have h1:=rv.length
 have h2:=r.length
 refine⟨its,pl.isList,by omega,λj hj=>?_⟩
 have e:xs[j]? =some xs[j]:=List.getElem?_eq_getElem (by omega)
 obtain⟨u,e1,r1⟩:=rv.get e
 obtain⟨d,e2,r2⟩:=r.get' e
 have:its[j]=u:=by rw[List.getElem?_eq_getElem hj] at e1;exact Option.some.inj e1
 rw[this];exact⟨xs[j],d,e2,r1,r2⟩
theorem bH(I:Inv X ae σ H s){a:Addr}{xs:List V}{ds:List D}(h:SqT X.K H a xs)(r:Reps X.K H xs ds): ∃its:List Value,s.heap.IsTuple a its.toArray/\its.length=ds.length/\ ∀(j:Nat) (hj:j<its.length),∃(v:V) (d:D),ds[j]? =some d/\RelV v its[j]/\Rep X.K H v d:=by
 obtain⟨its,rv,pl,_⟩:=I.tuple h
 have h1:=rv.length
 have h2:=r.length
 refine⟨its,pl,by omega,λj hj=>?_⟩
 have e:xs[j]? =some xs[j]:=List.getElem?_eq_getElem (by omega)
 obtain⟨u,e1,r1⟩:=rv.get e
 obtain⟨d,e2,r2⟩:=r.get' e
 have:its[j]=u:=by rw[List.getElem?_eq_getElem hj] at e1;exact Option.some.inj e1
 rw[this];exact⟨xs[j],d,e2,r1,r2⟩
end
section
variable {X:Cx}{ae:List (Addr×Obj)}{σ:St}{H:Hp}{s:Shared}
theorem dG(A:Around):A.in1.units=A.units+1:=rfl
theorem zb {A:Around}{n:Nat}(IH: ∀ {x y:D} {v u:V} {a b:Value} {A:Around},dS x<n->A.units+dS x<cLine->RelV v a->RelV u b->Rep X.K H v x->Rep X.K H u y->SeqAt.EqAt A s a b (cP x y)){xs ys:List D}{its its2:List Value}(hd:cB xs<n)(hu:A.units+cB xs<cLine)
 (g1: ∀(j:Nat) (hj:j<its.length),∃(v:V) (d:D),xs[j]? =some d/\RelV v its[j]/\Rep X.K H v d) (g2: ∀(j:Nat) (hj:j<its2.length),∃(v:V) (d:D),ys[j]? =some d/\RelV v its2[j]/\Rep X.K H v d):
 ∀j (h1:j<its.toArray.size) (h2:j<its2.toArray.size),SeqAt.EqAt A s its.toArray[j] its2.toArray[j] (iS xs ys j):=λj h1 h2=>by
 obtain⟨v,d,e1,r1,p1⟩:=g1 j (by simpa using h1)
 obtain⟨u,d',e2,r2,p2⟩:=g2 j (by simpa using h2)
 have ez:iS xs ys j=cP d d':=by unfold iS;rw[e1,e2]
 rw[ez];have hdd:=ju e1
 exact IH (by omega) (by omega) (by simpa using r1) (by simpa using r2) p1 p2
theorem iA(I:Inv X ae σ H s){A:Around}{n:Nat}(IH: ∀ {x y:D} {v u:V} {a b:Value} {A:Around},dS x<n->A.units+dS x<cLine->RelV v a->RelV u b->Rep X.K H v x->Rep X.K H u y->SeqAt.EqAt A s a b (cP x y)){xs ys:List D}{zs ws:List V}{a b:Addr}(hd:cB xs<n)(hu:A.units+(cB xs+1)<cLine)
 (h1:SqL X.K H a zs) (r1:Reps X.K H zs xs) (h2:SqL X.K H b ws) (r2:Reps X.K H ws ys):SeqAt.RcAt A s (.ref a) (.ref b) (cL xs ys)/\SeqAt.RcNeAt A s (.ref a) (.ref b) (!cL xs ys):=by
 obtain⟨its,l1,n1,g1⟩:=aJ I h1 r1
 obtain⟨its2,l2,n2,g2⟩:=aJ I h2 r2
 by_cases e:xs.length=ys.length
 ·have hsz:its.toArray.size=its2.toArray.size:=by simp;omega
  have he:=zb (A:=A.in1) IH hd (by rw[dG];omega) g1 g2
  have ea:(List.range its.toArray.size).all (iS xs ys)=cL xs ys:=by rw[List.size_toArray,n1];exact nl e
  rw[<-ea];exact⟨SeqAt.RcAt.lists l1 l2 hsz (by omega) he,SeqAt.RcNeAt.lists l1 l2 hsz (by omega) he⟩
 ·rw[lh e]
  have hsz:(its.toArray.size !=its2.toArray.size)=true:=by simp;omega
  exact⟨SeqAt.RcAt.lists_lengths l1 l2 hsz (by omega),SeqAt.RcNeAt.lists_lengths l1 l2 hsz (by omega)⟩
theorem rZ(I:Inv X ae σ H s){A:Around}{n:Nat}(IH: ∀ {x y:D} {v u:V} {a b:Value} {A:Around},dS x<n->A.units+dS x<cLine->RelV v a->RelV u b->Rep X.K H v x->Rep X.K H u y->SeqAt.EqAt A s a b (cP x y)){xs ys:List D}{zs ws:List V}{a b:Addr}(hd:cB xs<n)(hu:A.units+(cB xs+1)<cLine)
 (h1:SqT X.K H a zs) (r1:Reps X.K H zs xs) (h2:SqT X.K H b ws) (r2:Reps X.K H ws ys):SeqAt.RcAt A s (.ref a) (.ref b) (cL xs ys)/\SeqAt.RcNeAt A s (.ref a) (.ref b) (!cL xs ys):=by
 obtain⟨its,l1,n1,g1⟩:=bH I h1 r1
 obtain⟨its2,l2,n2,g2⟩:=bH I h2 r2
 have he:=zb (A:=A.in1) IH hd (by rw[dG];omega) g1 g2
 have ea:((List.range (min its.toArray.size its2.toArray.size)).all (iS xs ys)&&its.toArray.size==its2.toArray.size)=cL xs ys:=by
  rw[List.size_toArray,List.size_toArray,n1,n2]
  by_cases e:xs.length=ys.length
  ·rw[<-e,Nat.min_self,nl e];simp
  ·rw[lh e];simp[e]
 rw[<-ea];exact⟨SeqAt.RcAt.tuples l1 l2 (by omega) he,SeqAt.RcNeAt.tuples l1 l2 (by omega) he⟩
theorem j9(I:Inv X ae σ H s){A:Around}{a b:Addr}{x y:D}(r1:Rep X.K H (.ref a) x)(r2:Rep X.K H (.ref b) y)(e:a=b):SeqAt.EqAt A s (.ref a) (.ref b) (cP x y):=by
 subst e;rw[Rep.eqv I r1 r2,lD];exact SeqAt.EqAt.same _
theorem A4(I:Inv X ae σ H s){n:Nat}(IH: ∀ {x y:D} {v u:V} {a b:Value} {A:Around},dS x<n->A.units+dS x<cLine->RelV v a->RelV u b->Rep X.K H v x->Rep X.K H u y->SeqAt.EqAt A s a b (cP x y)){x y:D}{v u:V}{a b:Value}{A:Around}(hd:dS x<n+1)(hu:A.units+dS x<cLine)(hc:A.units<cLine)
 (ra:RelV v a) (rb:RelV u b) (px:Rep X.K H v x) (py:Rep X.K H u y):SeqAt.EqAt A s a b (cP x y):=by
 unfold cP;cases px with
 |non=>
  cases ra
  cases py with
  |non=>
   cases rb
   exact SeqAt.EqAt.same _
  |bl=>
   cases rb
   exact SeqAt.EqAt.none_bool _
  |int=>
   obtain⟨t2,rfl⟩:=rb
   exact SeqAt.EqAt.none_int _ _
  |str=>
   obtain⟨t2,rfl⟩:=rb
   exact SeqAt.EqAt.none_str _ _
  | @tup a2 _ _ h2 r2=>
    cases rb
    obtain⟨its2,l2,_⟩:=bH I h2 r2
    exact SeqAt.EqAt.none_tuple l2 (by omega)
  | @lst a2 _ _ h2 r2=>
    cases rb
    obtain⟨its2,l2,_⟩:=aJ I (SqL.of h2) r2
    exact SeqAt.EqAt.none_list l2 (by omega)
  | @scr a2 _ _ h2 r2=>
    cases rb
    obtain⟨its2,l2,_⟩:=aJ I h2.seq r2
    exact SeqAt.EqAt.none_list l2 (by omega)
 |bl=>
  cases ra
  cases py with
  |non=>
   cases rb
   exact SeqAt.EqAt.bool_none _
  |bl=>
   cases rb
   exact SeqAt.EqAt.bool_bool _ _
  |int=>
   obtain⟨t2,rfl⟩:=rb
   exact SeqAt.EqAt.bool_int _ _ _
  |str=>
   obtain⟨t2,rfl⟩:=rb
   exact SeqAt.EqAt.bool_str _ _ _
  | @tup a2 _ _ h2 r2=>
    cases rb
    obtain⟨its2,l2,_⟩:=bH I h2 r2
    exact SeqAt.EqAt.bool_tuple _ l2 (by omega)
  | @lst a2 _ _ h2 r2=>
    cases rb
    obtain⟨its2,l2,_⟩:=aJ I (SqL.of h2) r2
    exact SeqAt.EqAt.bool_list _ l2 (by omega)
  | @scr a2 _ _ h2 r2=>
    cases rb
    obtain⟨its2,l2,_⟩:=aJ I h2.seq r2
    exact SeqAt.EqAt.bool_list _ l2 (by omega)
 |int=>
  obtain⟨t1,rfl⟩:=ra
  cases py with
  |non=>
   cases rb
   exact SeqAt.EqAt.int_none _ _
  |bl=>
   cases rb
   exact SeqAt.EqAt.int_bool _ _ _
  |int=>
   obtain⟨t2,rfl⟩:=rb
   exact SeqAt.EqAt.int_int _ _ _ _
  |str=>
   obtain⟨t2,rfl⟩:=rb
   exact SeqAt.EqAt.int_str _ _ _ _
  | @tup a2 _ _ h2 r2=>
    cases rb
    obtain⟨its2,l2,_⟩:=bH I h2 r2
    exact SeqAt.EqAt.int_tuple _ _ l2 (by omega)
  | @lst a2 _ _ h2 r2=>
    cases rb
    obtain⟨its2,l2,_⟩:=aJ I (SqL.of h2) r2
    exact SeqAt.EqAt.int_list _ _ l2 (by omega)
  | @scr a2 _ _ h2 r2=>
    cases rb
    obtain⟨its2,l2,_⟩:=aJ I h2.seq r2
    exact SeqAt.EqAt.int_list _ _ l2 (by omega)
 |str=>
  obtain⟨t1,rfl⟩:=ra
  cases py with
  |non=>
   cases rb
   exact SeqAt.EqAt.str_none _ _
  |bl=>
   cases rb
   exact SeqAt.EqAt.str_bool _ _ _
  |int=>
   obtain⟨t2,rfl⟩:=rb
   exact SeqAt.EqAt.str_int _ _ _ _
  |str=>
   obtain⟨t2,rfl⟩:=rb
   exact SeqAt.EqAt.str_str _ _ _ _
  | @tup a2 _ _ h2 r2=>
    cases rb
    obtain⟨its2,l2,_⟩:=bH I h2 r2
    exact SeqAt.EqAt.str_tuple _ _ l2 (by omega)
  | @lst a2 _ _ h2 r2=>
    cases rb
    obtain⟨its2,l2,_⟩:=aJ I (SqL.of h2) r2
    exact SeqAt.EqAt.str_list _ _ l2 (by omega)
  | @scr a2 _ _ h2 r2=>
    cases rb
    obtain⟨its2,l2,_⟩:=aJ I h2.seq r2
    exact SeqAt.EqAt.str_list _ _ l2 (by omega)
 | @tup a1 _ _ h1 r1=>
   cases ra
   obtain⟨its,l1,_⟩:=bH I h1 r1
   cases py with
   |non=>
    cases rb
    exact SeqAt.EqAt.tuple_none l1 (by omega)
   |bl=>
    cases rb
    exact SeqAt.EqAt.tuple_bool _ l1 (by omega)
   |int=>
    obtain⟨t2,rfl⟩:=rb
    exact SeqAt.EqAt.tuple_int _ _ l1 (by omega)
   |str=>
    obtain⟨t2,rfl⟩:=rb
    exact SeqAt.EqAt.tuple_str _ _ l1 (by omega)
   | @tup a2 _ _ h2 r2=>
     cases rb
     obtain⟨its2,l2,_⟩:=bH I h2 r2
     by_cases e:a1=a2
     ·exact(j9 I (.tup h1 r1) (.tup h2 r2) e)
     ·exact SeqAt.EqAt.of_refs e (rZ I IH (by unfold dS at hd;omega) (by unfold dS at hu;omega) h1 r1 h2 r2).1
   | @lst a2 _ _ h2 r2=>
     cases rb
     obtain⟨its2,l2,_⟩:=aJ I (SqL.of h2) r2
     exact SeqAt.EqAt.tuple_list l1 l2 (by omega)
   | @scr a2 _ _ h2 r2=>
     cases rb
     obtain⟨its2,l2,_⟩:=aJ I h2.seq r2
     exact SeqAt.EqAt.tuple_list l1 l2 (by omega)
 | @scr a1 _ _ h1 r1=>exact absurd hu (by unfold dS;omega)
 | @lst a1 _ _ h1 r1=>
   cases ra
   obtain⟨its,l1,_⟩:=aJ I (SqL.of h1) r1
   cases py with
   |non=>
    cases rb
    exact SeqAt.EqAt.list_none l1 (by omega)
   |bl=>
    cases rb
    exact SeqAt.EqAt.list_bool _ l1 (by omega)
   |int=>
    obtain⟨t2,rfl⟩:=rb
    exact SeqAt.EqAt.list_int _ _ l1 (by omega)
   |str=>
    obtain⟨t2,rfl⟩:=rb
    exact SeqAt.EqAt.list_str _ _ l1 (by omega)
   | @tup a2 _ _ h2 r2=>
     cases rb
     obtain⟨its2,l2,_⟩:=bH I h2 r2
     exact SeqAt.EqAt.list_tuple l1 l2 (by omega)
   | @lst a2 _ _ h2 r2=>
     cases rb
     obtain⟨its2,l2,_⟩:=aJ I (SqL.of h2) r2
     by_cases e:a1=a2
     ·exact(j9 I (.lst h1 r1) (.lst h2 r2) e)
     ·exact SeqAt.EqAt.of_refs e (iA I IH (by unfold dS at hd;omega) (by unfold dS at hu;omega) (SqL.of h1) r1 (SqL.of h2) r2).1
   | @scr a2 _ _ h2 r2=>
     cases rb
     obtain⟨its2,l2,_⟩:=aJ I h2.seq r2
     by_cases e:a1=a2
     ·exact(j9 I (.lst h1 r1) (.scr h2 r2) e)
     ·exact SeqAt.EqAt.of_refs e (iA I IH (by unfold dS at hd;omega) (by unfold dS at hu;omega) (SqL.of h1) r1 h2.seq r2).1
theorem j8(I:Inv X ae σ H s): ∀(n:Nat) {x y:D} {v u:V} {a b:Value} {A:Around},dS x<n->A.units+dS x<cLine->RelV v a->RelV u b->Rep X.K H v x->Rep X.K H u y->SeqAt.EqAt A s a b (cP x y)
 |0,x,y,v,u,a,b,A,hd,hu,ra,rb,px,py=>absurd hd (Nat.not_lt_zero _)
 |n+1,x,y,v,u,a,b,A,hd,hu,ra,rb,px,py=>A4 I (λh1 h2 h3 h4 h5 h6=>j8 I n h1 h2 h3 h4 h5 h6) hd hu (by omega) ra rb px py
theorem Ap(I:Inv X ae σ H s){x y:D}{v u:V}{a b:Value}{A:Around}(hu:A.units+dS x<cLine)(hc:A.units<cLine)(ra:RelV v a)(rb:RelV u b)(px:Rep X.K H v x)(py:Rep X.K H u y):SeqAt.RcAt A s a b (cP x y):=by
 have IH:=λ{x y:D} {v u:V} {a b:Value} {A:Around} (n:Nat)=> @j8 X ae σ H s I n x y v u a b A
 have IH: ∀ {n:Nat} {x y:D} {v u:V} {a b:Value} {A:Around},dS x<n->A.units+dS x<cLine->RelV v a->RelV u b->Rep X.K H v x->Rep X.K H u y->SeqAt.EqAt A s a b (cP x y):=λ{n x y v u a b A}=>j8 I n
 unfold cP;cases px with
 |non=>
  cases ra
  cases py with
  |non=>
   cases rb
   exact SeqAt.RcAt.none_none
  |bl=>
   cases rb
   exact SeqAt.RcAt.none_bool _
  |int=>
   obtain⟨t2,rfl⟩:=rb
   exact SeqAt.RcAt.none_int _ _
  |str=>
   obtain⟨t2,rfl⟩:=rb
   exact SeqAt.RcAt.none_str _ _
  | @tup a2 _ _ h2 r2=>
    cases rb
    obtain⟨its2,l2,_⟩:=bH I h2 r2
    exact SeqAt.RcAt.none_tuple l2 (by omega)
  | @lst a2 _ _ h2 r2=>
    cases rb
    obtain⟨its2,l2,_⟩:=aJ I (SqL.of h2) r2
    exact SeqAt.RcAt.none_list l2 (by omega)
  | @scr a2 _ _ h2 r2=>
    cases rb
    obtain⟨its2,l2,_⟩:=aJ I h2.seq r2
    exact SeqAt.RcAt.none_list l2 (by omega)
 |bl=>
  cases ra
  cases py with
  |non=>
   cases rb
   exact SeqAt.RcAt.bool_none _
  |bl=>
   cases rb
   exact SeqAt.RcAt.bool_bool _ _
  |int=>
   obtain⟨t2,rfl⟩:=rb
   exact SeqAt.RcAt.bool_int _ _ _
  |str=>
   obtain⟨t2,rfl⟩:=rb
   exact SeqAt.RcAt.bool_str _ _ _
  | @tup a2 _ _ h2 r2=>
    cases rb
    obtain⟨its2,l2,_⟩:=bH I h2 r2
    exact SeqAt.RcAt.bool_tuple _ l2 (by omega)
  | @lst a2 _ _ h2 r2=>
    cases rb
    obtain⟨its2,l2,_⟩:=aJ I (SqL.of h2) r2
    exact SeqAt.RcAt.bool_list _ l2 (by omega)
  | @scr a2 _ _ h2 r2=>
    cases rb
    obtain⟨its2,l2,_⟩:=aJ I h2.seq r2
    exact SeqAt.RcAt.bool_list _ l2 (by omega)
 |int=>
  obtain⟨t1,rfl⟩:=ra
  cases py with
  |non=>
   cases rb
   exact SeqAt.RcAt.int_none _ _
  |bl=>
   cases rb
   exact SeqAt.RcAt.int_bool _ _ _
  |int=>
   obtain⟨t2,rfl⟩:=rb
   exact SeqAt.RcAt.int_int _ _ _ _
  |str=>
   obtain⟨t2,rfl⟩:=rb
   exact SeqAt.RcAt.int_str _ _ _ _
  | @tup a2 _ _ h2 r2=>
    cases rb
    obtain⟨its2,l2,_⟩:=bH I h2 r2
    exact SeqAt.RcAt.int_tuple _ _ l2 (by omega)
  | @lst a2 _ _ h2 r2=>
    cases rb
    obtain⟨its2,l2,_⟩:=aJ I (SqL.of h2) r2
    exact SeqAt.RcAt.int_list _ _ l2 (by omega)
  | @scr a2 _ _ h2 r2=>
    cases rb
    obtain⟨its2,l2,_⟩:=aJ I h2.seq r2
    exact SeqAt.RcAt.int_list _ _ l2 (by omega)
 |str=>
  obtain⟨t1,rfl⟩:=ra
  cases py with
  |non=>
   cases rb
   exact SeqAt.RcAt.str_none _ _
  |bl=>
   cases rb
   exact SeqAt.RcAt.str_bool _ _ _
  |int=>
   obtain⟨t2,rfl⟩:=rb
   exact SeqAt.RcAt.str_int _ _ _ _
  |str=>
   obtain⟨t2,rfl⟩:=rb
   exact SeqAt.RcAt.str_str _ _ _ _
  | @tup a2 _ _ h2 r2=>
    cases rb
    obtain⟨its2,l2,_⟩:=bH I h2 r2
    exact SeqAt.RcAt.str_tuple _ _ l2 (by omega)
  | @lst a2 _ _ h2 r2=>
    cases rb
    obtain⟨its2,l2,_⟩:=aJ I (SqL.of h2) r2
    exact SeqAt.RcAt.str_list _ _ l2 (by omega)
  | @scr a2 _ _ h2 r2=>
    cases rb
    obtain⟨its2,l2,_⟩:=aJ I h2.seq r2
    exact SeqAt.RcAt.str_list _ _ l2 (by omega)
 | @tup a1 _ _ h1 r1=>
   cases ra
   obtain⟨its,l1,_⟩:=bH I h1 r1
   cases py with
   |non=>
    cases rb
    exact SeqAt.RcAt.tuple_none l1 (by omega)
   |bl=>
    cases rb
    exact SeqAt.RcAt.tuple_bool _ l1 (by omega)
   |int=>
    obtain⟨t2,rfl⟩:=rb
    exact SeqAt.RcAt.tuple_int _ _ l1 (by omega)
   |str=>
    obtain⟨t2,rfl⟩:=rb
    exact SeqAt.RcAt.tuple_str _ _ l1 (by omega)
   | @tup a2 _ _ h2 r2=>
     cases rb
     obtain⟨its2,l2,_⟩:=bH I h2 r2
     exact(rZ I IH (Nat.lt_succ_self _) (by unfold dS at hu;omega) h1 r1 h2 r2).1
   | @lst a2 _ _ h2 r2=>
     cases rb
     obtain⟨its2,l2,_⟩:=aJ I (SqL.of h2) r2
     exact SeqAt.RcAt.tuple_list l1 l2 (by omega)
   | @scr a2 _ _ h2 r2=>
     cases rb
     obtain⟨its2,l2,_⟩:=aJ I h2.seq r2
     exact SeqAt.RcAt.tuple_list l1 l2 (by omega)
 | @scr a1 _ _ h1 r1=>exact absurd hu (by unfold dS;omega)
 | @lst a1 _ _ h1 r1=>
   cases ra
   obtain⟨its,l1,_⟩:=aJ I (SqL.of h1) r1
   cases py with
   |non=>
    cases rb
    exact SeqAt.RcAt.list_none l1 (by omega)
   |bl=>
    cases rb
    exact SeqAt.RcAt.list_bool _ l1 (by omega)
   |int=>
    obtain⟨t2,rfl⟩:=rb
    exact SeqAt.RcAt.list_int _ _ l1 (by omega)
   |str=>
    obtain⟨t2,rfl⟩:=rb
    exact SeqAt.RcAt.list_str _ _ l1 (by omega)
   | @tup a2 _ _ h2 r2=>
     cases rb
     obtain⟨its2,l2,_⟩:=bH I h2 r2
     exact SeqAt.RcAt.list_tuple l1 l2 (by omega)
   | @lst a2 _ _ h2 r2=>
     cases rb
     obtain⟨its2,l2,_⟩:=aJ I (SqL.of h2) r2
     exact(iA I IH (Nat.lt_succ_self _) (by unfold dS at hu;omega) (SqL.of h1) r1 (SqL.of h2) r2).1
   | @scr a2 _ _ h2 r2=>
     cases rb
     obtain⟨its2,l2,_⟩:=aJ I h2.seq r2
     exact(iA I IH (Nat.lt_succ_self _) (by unfold dS at hu;omega) (SqL.of h1) r1 h2.seq r2).1
theorem va(I:Inv X ae σ H s){x y:D}{v u:V}{a b:Value}{A:Around}(hu:A.units+dS x<cLine)(hc:A.units<cLine)(ra:RelV v a)(rb:RelV u b)(px:Rep X.K H v x)(py:Rep X.K H u y):SeqAt.RcNeAt A s a b (!cP x y):=by
 have IH: ∀ {n:Nat} {x y:D} {v u:V} {a b:Value} {A:Around},dS x<n->A.units+dS x<cLine->RelV v a->RelV u b->Rep X.K H v x->Rep X.K H u y->SeqAt.EqAt A s a b (cP x y):=λ{n x y v u a b A}=>j8 I n
 unfold cP;cases px with
 |non=>
  cases ra
  cases py with
  |non=>
   cases rb
   exact SeqAt.RcNeAt.none_none
  |bl=>
   cases rb
   exact SeqAt.RcNeAt.none_bool _
  |int=>
   obtain⟨t2,rfl⟩:=rb
   exact SeqAt.RcNeAt.none_int _ _
  |str=>
   obtain⟨t2,rfl⟩:=rb
   exact SeqAt.RcNeAt.none_str _ _
  | @tup a2 _ _ h2 r2=>
    cases rb
    obtain⟨its2,l2,_⟩:=bH I h2 r2
    exact SeqAt.RcNeAt.none_tuple l2 (by omega)
  | @lst a2 _ _ h2 r2=>
    cases rb
    obtain⟨its2,l2,_⟩:=aJ I (SqL.of h2) r2
    exact SeqAt.RcNeAt.none_list l2 (by omega)
  | @scr a2 _ _ h2 r2=>
    cases rb
    obtain⟨its2,l2,_⟩:=aJ I h2.seq r2
    exact SeqAt.RcNeAt.none_list l2 (by omega)
 |bl=>
  cases ra
  cases py with
  |non=>
   cases rb
   exact SeqAt.RcNeAt.bool_none _
  |bl=>
   cases rb
   exact SeqAt.RcNeAt.bool_bool _ _
  |int=>
   obtain⟨t2,rfl⟩:=rb
   exact SeqAt.RcNeAt.bool_int _ _ _
  |str=>
   obtain⟨t2,rfl⟩:=rb
   exact SeqAt.RcNeAt.bool_str _ _ _
  | @tup a2 _ _ h2 r2=>
    cases rb
    obtain⟨its2,l2,_⟩:=bH I h2 r2
    exact SeqAt.RcNeAt.bool_tuple _ l2 (by omega)
  | @lst a2 _ _ h2 r2=>
    cases rb
    obtain⟨its2,l2,_⟩:=aJ I (SqL.of h2) r2
    exact SeqAt.RcNeAt.bool_list _ l2 (by omega)
  | @scr a2 _ _ h2 r2=>
    cases rb
    obtain⟨its2,l2,_⟩:=aJ I h2.seq r2
    exact SeqAt.RcNeAt.bool_list _ l2 (by omega)
 |int=>
  obtain⟨t1,rfl⟩:=ra
  cases py with
  |non=>
   cases rb
   exact SeqAt.RcNeAt.int_none _ _
  |bl=>
   cases rb
   exact SeqAt.RcNeAt.int_bool _ _ _
  |int=>
   obtain⟨t2,rfl⟩:=rb
   exact SeqAt.RcNeAt.int_int _ _ _ _
  |str=>
   obtain⟨t2,rfl⟩:=rb
   exact SeqAt.RcNeAt.int_str _ _ _ _
  | @tup a2 _ _ h2 r2=>
    cases rb
    obtain⟨its2,l2,_⟩:=bH I h2 r2
    exact SeqAt.RcNeAt.int_tuple _ _ l2 (by omega)
  | @lst a2 _ _ h2 r2=>
    cases rb
    obtain⟨its2,l2,_⟩:=aJ I (SqL.of h2) r2
    exact SeqAt.RcNeAt.int_list _ _ l2 (by omega)
  | @scr a2 _ _ h2 r2=>
    cases rb
    obtain⟨its2,l2,_⟩:=aJ I h2.seq r2
    exact SeqAt.RcNeAt.int_list _ _ l2 (by omega)
 |str=>
  obtain⟨t1,rfl⟩:=ra
  cases py with
  |non=>
   cases rb
   exact SeqAt.RcNeAt.str_none _ _
  |bl=>
   cases rb
   exact SeqAt.RcNeAt.str_bool _ _ _
  |int=>
   obtain⟨t2,rfl⟩:=rb
   exact SeqAt.RcNeAt.str_int _ _ _ _
  |str=>
   obtain⟨t2,rfl⟩:=rb
   exact SeqAt.RcNeAt.str_str _ _ _ _
  | @tup a2 _ _ h2 r2=>
    cases rb
    obtain⟨its2,l2,_⟩:=bH I h2 r2
    exact SeqAt.RcNeAt.str_tuple _ _ l2 (by omega)
  | @lst a2 _ _ h2 r2=>
    cases rb
    obtain⟨its2,l2,_⟩:=aJ I (SqL.of h2) r2
    exact SeqAt.RcNeAt.str_list _ _ l2 (by omega)
  | @scr a2 _ _ h2 r2=>
    cases rb
    obtain⟨its2,l2,_⟩:=aJ I h2.seq r2
    exact SeqAt.RcNeAt.str_list _ _ l2 (by omega)
 | @tup a1 _ _ h1 r1=>
   cases ra
   obtain⟨its,l1,_⟩:=bH I h1 r1
   cases py with
   |non=>
    cases rb
    exact SeqAt.RcNeAt.tuple_none l1 (by omega)
   |bl=>
    cases rb
    exact SeqAt.RcNeAt.tuple_bool _ l1 (by omega)
   |int=>
    obtain⟨t2,rfl⟩:=rb
    exact SeqAt.RcNeAt.tuple_int _ _ l1 (by omega)
   |str=>
    obtain⟨t2,rfl⟩:=rb
    exact SeqAt.RcNeAt.tuple_str _ _ l1 (by omega)
   | @tup a2 _ _ h2 r2=>
     cases rb
     obtain⟨its2,l2,_⟩:=bH I h2 r2
     exact(rZ I IH (Nat.lt_succ_self _) (by unfold dS at hu;omega) h1 r1 h2 r2).2
   | @lst a2 _ _ h2 r2=>
     cases rb
     obtain⟨its2,l2,_⟩:=aJ I (SqL.of h2) r2
     exact SeqAt.RcNeAt.tuple_list l1 l2 (by omega)
   | @scr a2 _ _ h2 r2=>
     cases rb
     obtain⟨its2,l2,_⟩:=aJ I h2.seq r2
     exact SeqAt.RcNeAt.tuple_list l1 l2 (by omega)
 | @scr a1 _ _ h1 r1=>exact absurd hu (by unfold dS;omega)
 | @lst a1 _ _ h1 r1=>
   cases ra
   obtain⟨its,l1,_⟩:=aJ I (SqL.of h1) r1
   cases py with
   |non=>
    cases rb
    exact SeqAt.RcNeAt.list_none l1 (by omega)
   |bl=>
    cases rb
    exact SeqAt.RcNeAt.list_bool _ l1 (by omega)
   |int=>
    obtain⟨t2,rfl⟩:=rb
    exact SeqAt.RcNeAt.list_int _ _ l1 (by omega)
   |str=>
    obtain⟨t2,rfl⟩:=rb
    exact SeqAt.RcNeAt.list_str _ _ l1 (by omega)
   | @tup a2 _ _ h2 r2=>
     cases rb
     obtain⟨its2,l2,_⟩:=bH I h2 r2
     exact SeqAt.RcNeAt.list_tuple l1 l2 (by omega)
   | @lst a2 _ _ h2 r2=>
     cases rb
     obtain⟨its2,l2,_⟩:=aJ I (SqL.of h2) r2
     exact(iA I IH (Nat.lt_succ_self _) (by unfold dS at hu;omega) (SqL.of h1) r1 (SqL.of h2) r2).2
   | @scr a2 _ _ h2 r2=>
     cases rb
     obtain⟨its2,l2,_⟩:=aJ I h2.seq r2
     exact(iA I IH (Nat.lt_succ_self _) (by unfold dS at hu;omega) (SqL.of h1) r1 h2.seq r2).2
end
theorem Rep1.full {K:W.Frag}{H:Hp}{hid:bn}{v:V}{d:D}(h:Rep1 K H (vw H hid) v d):Rep K H v d:=by
 rcases h with h|⟨a,xs,ds,rfl,rfl,h1,h2⟩
 ·exact h.mono (dE _ _)
 ·exact .lst h1 (h2.mono (dE _ _))
def Bq(K:W.Frag):R2:=λv u H Q=> ∃x y,Rep K H v x/\Rep K H u y/\dS x<=32/\Q (.bl (cP x y)) H
def Ci(K:W.Frag):R2:=λv u H Q=> ∃x y,Rep K H v x/\Rep K H u y/\dS x<=32/\Q (.bl (!cP x y)) H
theorem hB {X:Cx}(hu:X.A.units+64<cLine):jB X (compareOp .Eq) (Bq X.K):=by
 intro ae s σ H x y v u Q I rx ry h;obtain⟨dx,dy,p1,p2,hd,q⟩:=h
 exact Ap I (by omega) (by omega) rx ry p1 p2 X.prog X.w _ _ ⟨.bl _,H,I,rfl,q⟩
theorem jd {X:Cx}(hu:X.A.units+64<cLine):jB X (compareOp .NotEq) (Ci X.K):=by
 intro ae s σ H x y v u Q I rx ry h;obtain⟨dx,dy,p1,p2,hd,q⟩:=h
 exact va I (by omega) (by omega) rx ry p1 p2 X.prog X.w _ _ ⟨.bl _,H,I,rfl,q⟩
def iu:D->D->Option D:=λx y=>if dS x<=32 then some (.bl (cP x y)) else none
def kA:D->D->Option D:=λx y=>if dS x<=32 then some (.bl (!cP x y)) else none
theorem ji {K:W.Frag}:ml K .s (Bq K) iu:=by
 intro H hid v u x y d Q hf h r1 r2 q;unfold iu at h;split at h
 ·cases h;exact⟨x,y,r1.full,r2.full, ‹_›,q _ H (Same.refl _) .bl⟩
 ·cases h
theorem lX {K:W.Frag}:ml K .s (Ci K) kA:=by
 intro H hid v u x y d Q hf h r1 r2 q;unfold kA at h;split at h
 ·cases h;exact⟨x,y,r1.full,r2.full, ‹_›,q _ H (Same.refl _) .bl⟩
 ·cases h
theorem kH {X:Cx}{ae:List (Addr×Obj)}{σ:St}{H:Hp}{s:Shared}(I:Inv X ae σ H s){x:D}{v:V}{a:Value}{A:Around}(hx:Rep X.K H v x)(ra:RelV v a): ∀ {ds:List D} {xs:List V} {its:List Value},Reps X.K H xs ds->Vals xs its->A.units+cB ds<cLine->
 ∃e:Value->Bool,(∀y,y∈its->SeqAt.EqAt A s y a (e y))/\its.any e=ds.any (λd=>cP d x):=by
 intro ds xs its r rv hu
 classical
 let e:Value->Bool:=λy=>if h: ∃(d:D) (u:V),RelV u y/\Rep X.K H u d then cP h.choose x else false
 have key: ∀y u d,RelV u y->Rep X.K H u d->e y=cP d x:=λy u d h1 h2=>by
  have hex: ∃(d:D) (u:V),RelV u y/\Rep X.K H u d:=⟨d,u,h1,h2⟩
  show(if h: ∃(d:D) (u:V),RelV u y/\Rep X.K H u d then cP h.choose x else false)=cP d x
  rw[dif_pos hex];obtain⟨u',s1,s2⟩:=hex.choose_spec
  have eu:u'=u:=s1.inj h1
  rw[eu] at s2;exact Rep.eqv I s2 h2 x
 refine⟨e,?_,?_⟩
 ·induction rv generalizing ds with
  |nil=>intro y hy;cases hy
  |cons r1 t ih=>
   cases r with
   |cons p1 pt=>
    rename_i d ds;intro y hy;have hm:dS d<=cB (d::ds):=ju (i:=0) rfl
    have hm2:cB ds<=cB (d::ds):=by conv=>rhs;unfold cB
                                   exact Nat.le_max_right _ _
    rcases List.mem_cons.mp hy with rfl|hy
    ·rw[key _ _ _ r1 p1]
     exact j8 I (dS d+1) (Nat.lt_succ_self _) (by omega) r1 ra p1 hx
    ·exact ih pt (by omega) y hy
 ·induction rv generalizing ds with
  |nil=>cases r;rfl
  |cons r1 t ih=>
   cases r with
   |cons p1 pt=>
    rename_i d ds;have hm2:cB ds<=cB (d::ds):=by conv=>rhs;unfold cB
                                                 exact Nat.le_max_right _ _
    rw[List.any_cons,List.any_cons,key _ _ _ r1 p1,ih pt (by omega)]
def z6(K:W.Frag)(neg:Bool):R2:=λv u H Q=> ∃x ds a xs,Rep K H v x/\u=.ref a/\(SqL K H a xs\/SqT K H a xs)/\Reps K H xs ds/\cB ds<=32/\Q (.bl (if neg then !ds.any (λd=>cP d x) else ds.any λd=>cP d x)) H
theorem oI {X:Cx}(hu:X.A.units+64<cLine):jB X (compareOp .In) (z6 X.K false):=by
 intro ae s σ H v w a b Q I rx ry h;obtain⟨x,ds,p,xs,hx,rfl,hq,r,hd,q⟩:=h
 cases ry
 rcases hq with hq|hq
 ·obtain⟨its,rv,pl,hz⟩:=I.list hq
  obtain⟨e,h1,h2⟩:=kH (A:=X.A.in1) I hx rx r rv (by rw[dG];omega)
  refine SeqAt.in_listAt e pl.isList (λy hy=>h1 y (by simpa using hy)) ⟨.bl _,H,I,rfl,?_⟩
  rw[show its.toArray.any e=its.any e by simp,h2]
  exact q
 ·obtain⟨its,rv,pl,hz⟩:=I.tuple hq
  obtain⟨e,h1,h2⟩:=kH (A:=X.A.in1) I hx rx r rv (by rw[dG];omega)
  refine SeqAt.in_tupleAt e pl (λy hy=>h1 y (by simpa using hy)) ⟨.bl _,H,I,rfl,?_⟩
  rw[show its.toArray.any e=its.any e by simp,h2]
  exact q
theorem uA {X:Cx}(hu:X.A.units+64<cLine):jB X (compareOp .NotIn) (z6 X.K true):=by
 intro ae s σ H v w a b Q I rx ry h;obtain⟨x,ds,p,xs,hx,rfl,hq,r,hd,q⟩:=h
 cases ry
 rcases hq with hq|hq
 ·obtain⟨its,rv,pl,hz⟩:=I.list hq
  obtain⟨e,h1,h2⟩:=kH (A:=X.A.in1) I hx rx r rv (by rw[dG];omega)
  refine SeqAt.notIn_listAt e pl.isList (λy hy=>h1 y (by simpa using hy)) ⟨.bl _,H,I,rfl,?_⟩
  rw[show its.toArray.any e=its.any e by simp,h2]
  exact q
 ·obtain⟨its,rv,pl,hz⟩:=I.tuple hq
  obtain⟨e,h1,h2⟩:=kH (A:=X.A.in1) I hx rx r rv (by rw[dG];omega)
  refine SeqAt.notIn_tupleAt e pl (λy hy=>h1 y (by simpa using hy)) ⟨.bl _,H,I,rfl,?_⟩
  rw[show its.toArray.any e=its.any e by simp,h2]
  exact q
def nL:D->Option (List D)
 | .lst ds=>some ds
 | .tup ds=>some ds
 |_=>none
def ki(neg:Bool):D->D->Option D:=λx y=>match nL y with
 |some ds=>if cB ds<=32 then some (.bl (if neg then !ds.any (λd=>cP d x) else ds.any λd=>cP d x)) else none
 |none=>none
theorem ql {K:W.Frag}(neg:Bool):ml K .s (z6 K neg) (ki neg):=by
 intro H hid v u x y d Q hf h r1 r2 q;unfold ki at h;split at h
 ·split at h
  ·rename_i ds e _
   cases h
   cases y with
   |lst zs=>
    cases e
    obtain⟨a,xs,rfl,h1,h2⟩:=r2.lst
    exact⟨x,_,a,xs,r1.full,rfl,.inl h1,h2.mono (dE _ _), ‹_›,q _ H (Same.refl _) .bl⟩
   |tup zs=>
    cases e
    obtain⟨a,xs,rfl,_,h1,h2⟩:=r2.tup
    exact⟨x,_,a,xs,r1.full,rfl,.inr h1,h2.mono (dE _ _), ‹_›,q _ H (Same.refl _) .bl⟩
   |_=>cases e
  ·cases h
 ·cases h
def Dv(T:String):D->Bool
 | .non=>T=="NoneType"
 | .bl _=>T=="bool"||T=="int"
 | .int _=>T=="int"
 | .str _=>T=="str"
 | .tup _=>T=="tuple"
 | .lst _=>T=="list"
 | .scr _=>T=="list"
structure KT(T:String):Prop where
 n: ∀K,W.kitOne K (.type "NoneType") (.type T)=some (T=="NoneType")
 b: ∀K,W.kitOne K (.type "bool") (.type T)=some (T=="bool"||T=="int")
 i: ∀K,W.kitOne K (.type "int") (.type T)=some (T=="int")
 s: ∀K,W.kitOne K (.type "str") (.type T)=some (T=="str")
 t: ∀K,W.kitOne K (.type "tuple") (.type T)=some (T=="tuple")
 l: ∀K,W.kitOne K (.type "list") (.type T)=some (T=="list")
theorem tm:KT "bool":=⟨λ_=>by kernel_rfl,λ_=>by kernel_rfl,λ_=>by kernel_rfl,λ_=>by kernel_rfl,λ_=>by kernel_rfl,λ_=>by kernel_rfl⟩
theorem tF:KT "list":=⟨λ_=>by kernel_rfl,λ_=>by kernel_rfl,λ_=>by kernel_rfl,λ_=>by kernel_rfl,λ_=>by kernel_rfl,λ_=>by kernel_rfl⟩
theorem vC:KT "tuple":=⟨λ_=>by kernel_rfl,λ_=>by kernel_rfl,λ_=>by kernel_rfl,λ_=>by kernel_rfl,λ_=>by kernel_rfl,λ_=>by kernel_rfl⟩
section
variable {X:Cx}{c:Ct}{e o:Expr}{k:Kd}{f g:FE}{pos p p2:Pos}
theorem vF {T:String}(kt:KT T):eB X (.builtin "isinstance") (λxs H Q=> ∃v d,xs=[v,.ty T]/\Rep X.K H v d/\Q (.bl (Dv T d)) H):=by
 intro ae s σ H xs us Q I r h;obtain⟨v,d,rfl,rp,q⟩:=h
 obtain⟨u,w',rfl,rx,ry⟩:=vY r
 cases ry
 have fin: ∀tk,EP X ae σ Q (.bool (Dv T d)) {s with toks:=tk}:=λtk=>⟨.bl _,H,I.tok _,rfl,q⟩
 cases rp with
 |non=>cases rx;exact W.kia_one W.kitx_none I.kIn True.intro (kt.n _) (λz=>nomatch z) fin
 |bl=>cases rx;exact W.kia_one W.kitx_bool I.kIn True.intro (kt.b _) (λz=>nomatch z) fin
 |int=>obtain⟨t,rfl⟩:=rx;exact W.kia_one W.kitx_int I.kIn True.intro (kt.i _) (λz=>nomatch z) fin
 |str=>obtain⟨t,rfl⟩:=rx;exact W.kia_one W.kitx_str I.kIn True.intro (kt.s _) (λz=>nomatch z) fin
 |tup h1 h2=>
  cases rx
  obtain⟨⟨ob,ho,hc⟩,_⟩:=I.tupleN h1
  exact W.kia_one W.kitx_tuple I.kIn ⟨ob,ho,hc⟩ (kt.t _) (λz=>nomatch z) fin
 |lst h1 h2=>
  cases rx
  obtain⟨its,_,⟨ob,n,ho,hc,_⟩,_⟩:=I.list (SqL.of h1)
  exact W.kia_one W.kitx_list I.kIn ⟨ob,ho,hc⟩ (kt.l _) (λz=>nomatch z) fin
 |scr h1 h2=>
  cases rx
  obtain⟨its,_,⟨ob,n,ho,hc,_⟩,_⟩:=I.list h1.seq
  exact W.kia_one W.kitx_list I.kIn ⟨ob,ho,hc⟩ (kt.l _) (λz=>nomatch z) fin
def iO(T:String)(f:FE):FE:=λρ=>(f ρ).map λd=>.bl (Dv T d)
theorem me(T:String){y:Str}(kt:KT T)(he:DP X c k e f)(hm:X.mg "isinstance"=none)(hmT:X.mg y=none)(hg:Gl X "isinstance":=by rfl)(hgT:Gl X y:=by rfl)(hv:bootBuiltins "isinstance"=some (.builtin "isinstance"):=by kernel_rfl)(hvT:bootBuiltins y=some (.type T):=by kernel_rfl)(hn:y≠"__name__":=by decide)(hd:(y==("__debug__":Str))=false:=by decide)
 (hs1:starEach [e,.Name y p2] X.env=(false,eval e X.env)::starEach [.Name y p2] X.env:=by rfl) (hs2:starEach [.Name y p2] X.env=(false,eval (.Name y p2) X.env)::starEach [] X.env:=by rfl) (hpl:(backTo pos (starEach [.Name y p2] X.env)).any (·.1)=false:=by rfl):
 DP X c .s (.Call (.Name "isinstance" p) [e,.Name y p2] [] pos) (iO T f):=λhid ρ=>
 PE.imp (lV (vF kt) hg hm hv (cH (he hid ρ) (cH (yQ (v:=.ty T) hgT hmT hvT rfl hn hd) gk hs2) hs1) (by decide) (by decide) hs1 hpl) λσ H Q hq_=>by
  obtain⟨sr,d,hd,q⟩:=hq_
  unfold iO at hd;cases e1:f ρ with
  |none=>rw[e1] at hd;cases hd
  |some z=>
   rw[e1] at hd;cases hd;exact⟨sr,z,e1,λv H' s' r=>⟨v,z,rfl,(RK.b k r λa n=>sr.fresh n).full,q _ H' s' .bl⟩⟩
def gM:List D->Option (List Bool)
 | []=>some []
 | .bl b::r=>(gM r).map (b:: ·)
 |_=>none
theorem pP: ∀ {ds:List D} {bs:List Bool} {i:Nat} {d:D},gM ds=some bs->ds[i]? =some d-> ∃b,d=.bl b/\bs[i]? =some b
 | [],_,_,_,_,h=>by simp at h
 |x::r,bs,i,d,h,e=>by
  cases x with
  |bl b=>
   unfold gM at h;cases e1:gM r with
   |none=>rw[e1] at h;cases h
   |some rs=>
    rw[e1] at h;cases h;cases i with
    |zero=>simp at e;subst e;exact⟨b,rfl,rfl⟩
    |succ i=>
     obtain⟨b',h1,h2⟩:=pP (i:=i) e1 (by simpa using e)
     exact⟨b',h1,by simpa using h2⟩
  |_=>cases h
theorem pi: ∀ {ds:List D} {bs:List Bool},gM ds=some bs->ds.length=bs.length
 | [],_,h=>by cases h;rfl
 |x::r,bs,h=>by
  cases x with
  |bl b=>
   unfold gM at h;cases e1:gM r with
   |none=>rw[e1] at h;cases h
   |some rs=>rw[e1] at h;cases h;simp[pi e1]
  |_=>cases h
theorem uW(bs:List Bool):(List.range bs.length).any (λi=>bs.getD i false)=bs.any id:=by
 induction bs with
 |nil=>rfl
 |cons b bs ih=>
  rw[List.length_cons,List.range_succ_eq_map,List.any_cons,List.any_map,List.any_cons];rw[show((λi=>(b::bs).getD i false)∘Nat.succ)=λi=>bs.getD i false by funext i;simp[List.getD],ih]
  rfl
theorem rE(bs:List Bool):(List.range bs.length).all (λi=>bs.getD i false)=bs.all id:=by
 induction bs with
 |nil=>rfl
 |cons b bs ih=>
  rw[List.length_cons,List.range_succ_eq_map,List.all_cons,List.all_map,List.all_cons];rw[show((λi=>(b::bs).getD i false)∘Nat.succ)=λi=>bs.getD i false by funext i;simp[List.getD],ih]
  rfl
theorem ls {ae:List (Addr×Obj)}{σ:St}{H:Hp}{s:Shared}{a:Addr}{xs:List V}{ds:List D}{bs:List Bool}(I:Inv X ae σ H s)(h1:SqL X.K H a xs)(h2:Reps X.K H xs ds)(hb:gM ds=some bs)(hc:X.calm=true){E:Value->Shared->Prop}{R:Value->Shared->Prop}
 (hR: ∀(J:Addr) (s2:Shared) (its:Array Value) (hl:its.size=bs.length),Walks X.prog X.w X.A.in1 J [J,a] [J] its.size (λi v=>its[i]? =some v) (λi h=>h.IsListIter J a i/\h.IsList a its)->s2.heap.IsListIter J a 0->s2.heap.IsList a its->TruthOf X.prog X.w X.A.in1 (λi v=>its[i]? =some v) (λi=>bs.getD i false)->
   (∀h' tk,(∀b o,b∉ [J]->s2.heap.get? b=some o->h'.get? b=some o)->Inv X ae σ H {s2 with heap:=h',toks:=tk})->R (.ref J) s2):wpAny (model X.prog X.w) X.A.in1 (pyIter (.ref a)) R E s:=by
 obtain⟨its,rv,pl,hz⟩:=I.list h1
 have l1:=rv.length
 have l2:=h2.length
 have l3:=pi hb
 have hlt:a<s.heap.objs.size:=by obtain⟨o,n,e,_⟩:=pl;exact Heap.lt_size e
 refine wpAny_pyIter_list pl.isList (hR s.heap.objs.size _ its.toArray (by simp;omega) (Walks.list (A:=X.A.in1) (I.ok.hd hc) _ a (Nat.ne_of_lt hlt) its.toArray) ⟨_,Heap.get?_push_size _ rfl,rfl,rfl⟩ ?_ ?_ ?_)
 ·obtain⟨o,ho,q⟩:=pl.isList
  exact⟨o,Heap.get?_push_of_some _ ho,q⟩
 ·intro i v s' Q E hv hq
  have hv':its[i]? =some v:=by simpa using hv
  have hi:=(List.getElem?_eq_some_iff.mp hv').1
  have ex:xs[i]? =some xs[i]:=List.getElem?_eq_getElem (by omega)
  obtain⟨u,e1,r1⟩:=rv.get ex
  rw[hv'] at e1;cases e1;obtain⟨d,e2,r2⟩:=h2.get' ex
  obtain⟨b,rfl,e3⟩:=pP hb e2
  rcases hx:xs[i] with _|_|_|_|_|_|_|_<;>rw[hx] at r1 r2<;>cases r2
  cases r1
  have:bs.getD i false=b:=by simp[List.getD,e3]
  dsimp only at hq;rw[this] at hq;exact wpAny_truthy_bool hq
 ·intro h' tk hk
  refine I.kept λb o e=>hk b o (λhm=>?_) (Heap.get?_push_of_some _ e)
  have:b=s.heap.objs.size:=by simpa using hm
  exact absurd (this▸Heap.lt_size e) (Nat.lt_irrefl _)
theorem oW(hc:X.calm=true):eB X (.builtin "any") (λxs H Q=> ∃a ys ds bs,xs=[.ref a]/\SqL X.K H a ys/\Reps X.K H ys ds/\gM ds=some bs/\Q (.bl (bs.any id)) H):=by
 intro ae s σ H xs us Q I r h;obtain⟨a,ys,ds,bs,rfl,h1,h2,h3,q⟩:=h
 obtain⟨u,rfl,rx⟩:=gS r
 cases rx
 refine call_any_walk (ls I h1 h2 h3 hc λJ s2 its hl W st1 st2 tr kp=>?_)
 refine⟨J,_,_,_,_,_,_,rfl,W,⟨st1,st2⟩,tr,λh' tk hk=>⟨.bl _,H,kp h' tk hk,rfl,?_⟩⟩
 rw[hl,uW];exact q
theorem pd(hc:X.calm=true):eB X (.builtin "all") (λxs H Q=> ∃a ys ds bs,xs=[.ref a]/\SqL X.K H a ys/\Reps X.K H ys ds/\gM ds=some bs/\Q (.bl (bs.all id)) H):=by
 intro ae s σ H xs us Q I r h;obtain⟨a,ys,ds,bs,rfl,h1,h2,h3,q⟩:=h
 obtain⟨u,rfl,rx⟩:=gS r
 cases rx
 refine call_all_walk (ls I h1 h2 h3 hc λJ s2 its hl W st1 st2 tr kp=>?_)
 refine⟨J,_,_,_,_,_,_,rfl,W,⟨st1,st2⟩,tr,λh' tk hk=>⟨.bl _,H,kp h' tk hk,rfl,?_⟩⟩
 rw[hl,rE];exact q
def mw:List D->Option D
 | [.lst ds]=>(gM ds).map λbs=>.bl (bs.any id)
 |_=>none
def xp:List D->Option D
 | [.lst ds]=>(gM ds).map λbs=>.bl (bs.all id)
 |_=>none
theorem wa:gL X.K .s (λxs H Q=> ∃a ys ds bs,xs=[.ref a]/\SqL X.K H a ys/\Reps X.K H ys ds/\gM ds=some bs/\Q (.bl (bs.any id)) H) mw:=by
 intro H hid vs ds d Q hf h r q;unfold mw at h;split at h
 ·rename_i zs
  cases e1:gM zs with
  |none=>rw[e1] at h;cases h
  |some bs=>
   rw[e1] at h;cases h;obtain⟨x,rfl,r1⟩:=Reps1.one r
   obtain⟨a,xs,rfl,h1,h2⟩:=r1.lst
   exact⟨a,xs,zs,bs,rfl,h1,h2.mono (dE _ _),e1,q _ H (Same.refl _) .bl⟩
 ·cases h
theorem wz:gL X.K .s (λxs H Q=> ∃a ys ds bs,xs=[.ref a]/\SqL X.K H a ys/\Reps X.K H ys ds/\gM ds=some bs/\Q (.bl (bs.all id)) H) xp:=by
 intro H hid vs ds d Q hf h r q;unfold xp at h;split at h
 ·rename_i zs
  cases e1:gM zs with
  |none=>rw[e1] at h;cases h
  |some bs=>
   rw[e1] at h;cases h;obtain⟨x,rfl,r1⟩:=Reps1.one r
   obtain⟨a,xs,rfl,h1,h2⟩:=r1.lst
   exact⟨a,xs,zs,bs,rfl,h1,h2.mono (dE _ _),e1,q _ H (Same.refl _) .bl⟩
 ·cases h
def dX:List D->Option (List Int)
 | []=>some []
 | .int b::r=>(dX r).map (b:: ·)
 |_=>none
theorem gP: ∀ {ds:List D} {ns:List Int},dX ds=some ns->ds=ns.map D.int
 | [],_,h=>by cases h;rfl
 |x::r,bs,h=>by
  cases x with
  |int b=>
   unfold dX at h;cases e1:dX r with
   |none=>rw[e1] at h;cases h
   |some rs=>rw[e1] at h;cases h;simp[gP e1]
  |_=>cases h
theorem iV {K:W.Frag}{F:Hp}: ∀ {ns:List Int} {xs:List V},Reps K F xs (ns.map D.int)->xs=ns.map V.int
 | [],_,.nil=>rfl
 |n::ns,_,.cons r t=>by cases r;rw[iV t];rfl
def jT:List Int->Int
 | []=>0
 |a::r=>r.foldl (λm b=>if b<m then b else m) a
theorem pU(r:List Int): ∀a:Int,r.foldl (λm b=>if b<m then b else m) a∈a::r/\ ∀x∈a::r,r.foldl (λm b=>if b<m then b else m) a<=x:=by
 induction r with
 |nil=>intro a;simp
 |cons b r ih=>
  intro a;rw[List.foldl_cons];obtain⟨h1,h2⟩:=ih (if b<a then b else a)
  have h3:=h2 (if b<a then b else a) List.mem_cons_self
  refine⟨?_,λx hx=>?_⟩
  ·rcases List.mem_cons.mp h1 with e|e
   ·rw[e];split<;>simp
   ·exact List.mem_cons_of_mem _ (List.mem_cons_of_mem _ e)
  ·rcases List.mem_cons.mp hx with rfl|hx
   ·split at h3<;>split<;>omega
   ·rcases List.mem_cons.mp hx with rfl|hx
    ·split at h3<;>split<;>omega
    ·exact h2 x (List.mem_cons_of_mem _ hx)
theorem xm: ∀(ns:List Int),ns≠[]->jT ns∈ns/\ ∀a∈ns,jT ns<=a
 | [],h=>absurd rfl h
 |a::r,_=>pU r a
theorem u0 {ns:List Int}{m:Int}(h1:m∈ns)(h2: ∀a∈ns,m<=a):m=jT ns:=by
 obtain⟨g1,g2⟩:=xm ns (by intro e;subst e;simp at h1)
 have:=h2 _ g1
 have:=g2 _ h1
 omega
theorem uo(hc:X.calm=true):eB X (.builtin "min") (λxs H Q=> ∃a ns,xs=[.ref a]/\SqL X.K H a (ns.map V.int)/\ns≠[]/\Q (.int (jT ns)) H):=by
 intro ae s σ H xs us Q I r h;obtain⟨a,ns,rfl,h1,h2,q⟩:=h
 obtain⟨u,rfl,rx⟩:=gS r
 cases rx
 obtain⟨its,rv,pl,hz⟩:=I.list h1
 have hi:IntsAre its ns:=rG rv
 obtain⟨xs,e⟩:=hi.allInts.items
 have hns:ns=xs.toList.map (·.1):=by rw[<-hi.numsOf,<-nums_intItems,<-e]
 have hsz:0<xs.size:=by
  have:0<ns.length:=by cases ns with|nil=>exact absurd rfl h2|cons=>simp
  rw[hns,List.length_map,Array.length_toList] at this;exact this
 have hl:=pl.isList
 rw[e] at hl;refine min_intList (I.ok.hd hc) hl hsz λv h' tk hv hk=>?_
 obtain⟨t,rfl⟩:=intItems_at hv
 obtain⟨g1,g2⟩:=argBest_lt (numAt xs) (xs.size-1)
 have em:numAt xs (argBest (λi j=>decide (numAt xs i<numAt xs j)) (xs.size-1))=jT ns:=by
  refine u0 ?_ λa ha=>?_
  ·rw[hns,numAt_eq];exact getD_mem (by rw[List.length_map,Array.length_toList];omega)
  ·rw[hns] at ha
   obtain⟨j,hj,rfl⟩:=mem_getD ha
   rw[List.length_map,Array.length_toList] at hj;rw[<-numAt_eq];exact g2 j (by omega)
 exact⟨.int (jT ns),H,I.kept hk,⟨t,by rw[<-em]⟩,q⟩
def mW:List D->Option D
 | [.lst ds]=>(dX ds).bind λns=>if ns.isEmpty then none else some (.int (jT ns))
 |_=>none
theorem yM:gL X.K .s (λxs H Q=> ∃a ns,xs=[.ref a]/\SqL X.K H a (ns.map V.int)/\ns≠[]/\Q (.int (jT ns)) H) mW:=by
 intro H hid vs ds d Q hf h r q;unfold mW at h;split at h
 ·rename_i zs
  cases e1:dX zs with
  |none=>rw[e1] at h;cases h
  |some ns=>
   rw[e1] at h;have h:(if ns.isEmpty then none else some (D.int (jT ns)))=some d:=h
   split at h
   ·cases h
   ·cases h
    obtain⟨x,rfl,r1⟩:=Reps1.one r
    obtain⟨a,xs,rfl,h1,h2⟩:=r1.lst
    rw[gP e1] at h2;rw[iV h2] at h1;exact⟨a,ns,rfl,h1,(by intro e;subst e;simp at*),q _ H (Same.refl _) .int⟩
 ·cases h
end
end L2
namespace PySem.SeqAt
open AutoSeq1 (wpAny_loadPart')
open MeetsSeq MeetsSeq2 MeetsSeq3 SeqRoads2
theorem kF {M:Model}{A:Around}{E:Value->Shared->Prop}{s:Shared}{β:Type}(f:Nat->β->Sem (ForInStep β))(I:List Nat->β->Shared->Prop)(Q:β->Shared->Prop)
 (turn: ∀x rest b s,I (x::rest) b s->wpAny M A (f x b) (λr s'=>match r with| .yield b'=>I rest b' s'| .done b'=>Q b' s') E s)
 (fin: ∀b s,I [] b s->Q b s) (a b:Nat) (c:β) (h:I (List.range' a (b-a)) c s):wpAny M A (forIn [a:b] c f) Q E s:=by
 rw[Std.Legacy.Range.forIn_eq_forIn_range'];have hsz:([a:b]:Std.Legacy.Range).size=b-a:=by simp[Std.Legacy.Range.size]
 show wpAny M A (forIn (List.range' a ([a:b]:Std.Legacy.Range).size 1) c f) Q E s;rw[hsz];exact wpAny_forIn_list f I Q turn fin _ c h
theorem tuple_indexAt(l:Addr)(items:Array Value)(n:Nat)(dd:Option Addr)(sl:Array (Option Value))(x:Value)(e:Value->Bool)(j:Nat)(hj:j<items.size)(hit:e items[j]=true)(hno: ∀m (hm:m<items.size),m<j->e items[m]=false):
 Meets (Builtin.«tuple.index» ⟨[.ref l,x],[]⟩)
  (λA R s=>s.heap.get? l=some {cls:=.type "tuple",dict:=dd,data:=.seq items n,slots:=sl}/\(∀y,y∈items->EqAt A.in1 s y x (e y))/\R (.ok (.ret (.int j s.toks))) {s with toks:=s.toks+1}):=
 .of_wp λprog w A R s h=>by
  obtain⟨hp,g,d,tk,os⟩:=s;obtain⟨hl,he,h⟩:=h
  wp_walk using wpAny_loadPart' hl,kF _ (λrest b s'=>b.1=none/\s'=⟨hp,g,d,tk,os⟩/\ ∃i,i<=j/\rest=List.range' i (items.size-i)) _
  case turn=>
   rintro y rest b s' ⟨hb,rfl,i,hij,hz⟩
   have lt:i<items.size:=by omega
   have er:List.range' i (items.size-i)=i::List.range' (i+1) (items.size- (i+1)):=by
    rw[show items.size-i=(items.size- (i+1))+1 by omega];rfl
   rw[er] at hz;injection hz with e1 e2
   subst e1 e2;rw[show items[y]? =some items[y] by simp[lt]]
   refine wpAny_bind (he _ (Array.getElem_mem lt) prog w _ _ ?_)
   by_cases ej:y=j
   ·subst ej
    rw[hit]
    wp_walk
    exact⟨_,rfl,h⟩
   ·rw[hno y lt (by omega)]
    wp_walk
    exact⟨rfl,rfl,y+1,by omega,rfl⟩
  case fin=>
   rintro⟨b1,b2⟩ s' ⟨hb,rfl,i,hij,hz⟩
   have:=congrArg List.length hz
   simp at this;omega
  case h=>
   exact⟨rfl,rfl,0,Nat.zero_le _,by simp⟩
end PySem.SeqAt
namespace L2
open PySem PySem.Spec PyProof.Rows
def pM(ds:List D)(x:D):Option Nat:=ds.findIdx? λd=>cP d x
theorem xW {X:Cx}{ae:List (Addr×Obj)}{σ:St}{H:Hp}{s:Shared}(I:Inv X ae σ H s){x:D}{v:V}{a:Value}{A:Around}(hx:Rep X.K H v x)(ra:RelV v a): ∀ {ds:List D} {xs:List V} {its:List Value},Reps X.K H xs ds->Vals xs its->A.units+cB ds<cLine->
 ∃e:Value->Bool,(∀y,y∈its->SeqAt.EqAt A s y a (e y))/\ ∀(j:Nat) (hj:j<its.length) (d:D),ds[j]? =some d->e its[j]=cP d x:=by
 intro ds xs its r rv hu
 classical
 let e:Value->Bool:=λy=>if h: ∃(d:D) (u:V),RelV u y/\Rep X.K H u d then cP h.choose x else false
 have key: ∀y u d,RelV u y->Rep X.K H u d->e y=cP d x:=λy u d h1 h2=>by
  have hex: ∃(d:D) (u:V),RelV u y/\Rep X.K H u d:=⟨d,u,h1,h2⟩
  show(if h: ∃(d:D) (u:V),RelV u y/\Rep X.K H u d then cP h.choose x else false)=cP d x
  rw[dif_pos hex];obtain⟨u',s1,s2⟩:=hex.choose_spec
  have eu:u'=u:=s1.inj h1
  rw[eu] at s2;exact Rep.eqv I s2 h2 x
 have l1:=rv.length
 have l2:=r.length
 have at': ∀(j:Nat) (hj:j<its.length),∃u d,ds[j]? =some d/\RelV u its[j]/\Rep X.K H u d:=λj hj=>by
  have ex:xs[j]? =some xs[j]:=List.getElem?_eq_getElem (by omega)
  obtain⟨w,e1,r1⟩:=rv.get ex
  obtain⟨d,e2,r2⟩:=r.get' ex
  have:its[j]=w:=by rw[List.getElem?_eq_getElem hj] at e1;exact Option.some.inj e1
  rw[this];exact⟨_,d,e2,r1,r2⟩
 refine⟨e,λy hy=>?_,λj hj d hd=>?_⟩
 ·obtain⟨j,hj,rfl⟩:=List.mem_iff_getElem.mp hy
  obtain⟨u,d,e1,r1,r2⟩:=at' j hj
  rw[key _ _ _ r1 r2];have:=ju e1
  exact j8 I (dS d+1) (Nat.lt_succ_self _) (by omega) r1 ra r2 hx
 ·obtain⟨u,d',e1,r1,r2⟩:=at' j hj
  rw[hd] at e1;cases e1;exact key _ _ _ r1 r2
section
variable {X:Cx}{c:Ct}{e o:Expr}{k k2:Kd}{f g:FE}{pos p p2 apos:Pos}
theorem pS(hu:X.A.units+64<cLine):DX X "tuple.index" (λv vs H Q=> ∃a xs ds x y j,v=.ref a/\vs=[x]/\SqT X.K H a xs/\Reps X.K H xs ds/\Rep X.K H x y/\cB ds<=32/\pM ds y=some j/\Q (.int j) H):=by
 intro ae s σ H v vs u us Q I rv rs h;obtain⟨a,xs,ds,x,y,j,rfl,rfl,h1,h2,h3,h4,h5,q⟩:=h
 cases rv
 obtain⟨w,rfl,rw'⟩:=gS rs
 obtain⟨its,r,pl,hz⟩:=I.tuple h1
 have l1:=r.length
 have l2:=h2.length
 obtain⟨e,g1,g2⟩:=xW (A:=X.A.in1.in1) I h3 rw' h2 r (by rw[dG,dG];omega)
 unfold pM at h5;rw[List.findIdx?_eq_some_iff_getElem] at h5;obtain⟨hj,hp,hno⟩:=h5
 obtain⟨⟨cls,dd,data,sl⟩,ho,hc,n,hd⟩:=id pl
 simp only at hc hd;subst hc hd;have hj':j<its.length:=by omega
 have gt: ∀m (hm:m<its.length) (hm2:m<ds.length),e its[m]=cP ds[m] y:=λm hm hm2=>g2 m hm _ (List.getElem?_eq_getElem hm2)
 refine call_meets PySem.F.slot_tuple_index ⟨_,ho,rfl⟩ PySem.F.entry_tuple_index (PySem.F.args_tuple_index_2 _ _) (SeqAt.tuple_indexAt a its.toArray n dd sl w e j (by simpa using hj') ?_ ?_) ⟨ho,?_,?_⟩
 ·simp only[List.getElem_toArray];rw[gt j hj' hj];exact hp
 ·intro m hm hmj
  simp only[List.getElem_toArray];rw[gt m (by simpa using hm) (by omega)]
  have:=hno m hmj
  simpa using this
 ·intro z hz'
  exact SeqAt.EqAt.of_in1 (g1 z (by simpa using hz'))
 ·exact⟨.int j,H,I.tok _,⟨_,rfl⟩,q⟩
end
section
variable {X:Cx}{c:Ct}{e o:Expr}{k k2:Kd}{f g:FE}{pos p p2 apos:Pos}
def iX:D->D->Option D:=λt x=>match t with
 | .tup ds=>if cB ds<=32 then(pM ds x).map λj=>.int j else none
 |_=>none
theorem dB(hu:X.A.units+64<cLine)(ho:DP X c k o f)(he:DP X c k2 e g)
 (hbase:attributeBase o "index" X.env (eval o X.env)=eval o X.env:=by rfl)
 (hfew:((backTo pos (starEach [e] X.env)).all (λx=> !x.1)&&(backToKw pos (keywordEach [] X.env)).all (λx=>x.1.isSome)
   &&decide (([e]:List Expr).length+([]:List Keyword).length+(if([]:List Keyword).isEmpty then 0 else 1)<30))=true:=by rfl)
 (hline:(apos.endLine==pos.line)=true:=by rfl) (hs:starEach [e] X.env=(false,eval e X.env)::starEach [] X.env:=by rfl) (hplain:(backTo pos (starEach [] X.env)).any (·.1)=false:=by rfl):
 DP X c .s (.Call (.Attribute o "index" apos) [e] [] pos) (ar iX f g):=λhid ρ=>
 PE.imp (wu PySem.F.plainAttrs_tuple PySem.F.slot_tuple_index PySem.F.type_tuple_index (pS hu) (ho hid ρ) (cH (he hid ρ) gk hs) hbase hfew hline hs hplain) λσ H Q hq_=>by
  obtain⟨sr,d,hd,q⟩:=hq_
  obtain⟨x,y,e1,e2,e3⟩:=pQ hd
  unfold iX at e3;split at e3
  ·split at e3
   ·rename_i ds _
    cases e4:pM ds y with
    |none=>rw[e4] at e3;cases e3
    |some j=>
     rw[e4] at e3;cases e3;refine⟨sr,_,e1,λv H1 s1 r1=>?_⟩
     have b1:=RK.b k r1 λa n=>sr.fresh n
     obtain⟨a,xs,rfl,t1,t2,t3⟩:=b1.tup
     refine⟨.inr (.inl ⟨rfl,xs,t2⟩),sr.ext s1,y,e2,λu H2 s2 r2=>?_⟩
     have b2:=RK.b k2 r2 λa n=>(sr.ext s1).fresh n
     exact⟨a,xs,ds,u,y,j,rfl,rfl,Same.seqT s2 t2,(t3.mono (aI s2)).mono (dE _ _),b2.full, ‹_›,e4,q _ H2 (s1.trans s2) .int⟩
   ·cases e3
  ·cases e3
theorem uv:eB X (.type "range") (λxs H Q=> ∃j:Int,xs=[.int j]/\ ∀p,H p=none->Q (.ref p) (bd H p (.rng 0 j))):=by
 intro ae s σ H xs us Q I r h;obtain⟨j,rfl,q⟩:=h
 obtain⟨u,rfl,t,rfl⟩:=gS r
 refine call_range_1 ⟨.ref s.heap.objs.size,_,I.laid (λb o e=>Heap.get?_push_of_some _ e) (Nat.le_refl _) ?_,rfl,q _ (I.hok.fresh (Nat.le_refl _))⟩
 exact⟨_,_,_,Heap.get?_push_size _ rfl⟩
theorem BH(lo:Int)(n:Nat): ∀ {K:W.Frag} {F:Hp},Reps K F ((List.range n).map λ(i:Nat)=>V.int (lo+i)) (pZ lo n):=by
 intro K F;unfold pZ
 generalize List.range n=l
 induction l with
 |nil=>exact .nil
 |cons a l ih=>exact .cons .int ih
theorem mr(hc:X.calm=true):eB X (.type "list") (λxs H Q=> ∃p lo hi,xs=[.ref p]/\H p=some (.rng lo hi)/\ -(2^30)<=lo/\lo<=2^30/\ -(2^30)<=hi/\hi-lo<=1000000/\hi<=2^31/\ ∀l,H l=none->Q (.ref l) (bd H l (.lst ((List.range (hi-lo).toNat).map λ(i:Nat)=>V.int (lo+i))))):=by
 intro ae s σ H xs us Q I r h;obtain⟨p,lo,hi,rfl,hp,b1,b2,b3,b4,b5,q⟩:=h
 obtain⟨u,rfl,rx⟩:=gS r
 cases rx
 obtain⟨t,u,v,hr⟩:=I.hok p _ hp
 have hsz:Builtin.Range.rangeSize lo hi 1=(hi-lo).toNat:=by
  unfold Builtin.Range.rangeSize;rw[if_pos (by decide)]
  split
  ·rw[Int.ediv_one];omega
  ·omega
 refine call_list_range (a:=lo) (b:=hi) (c:=1) (n:=(hi-lo).toNat) (I.ok.hd hc) hr ?_ hsz (by omega) λh' tk acc' c' kp hS hacc=>?_
 ·exact small_one (by omega) (by omega) (by omega) (by omega)
 ·have hz:(hi-lo).toNat<=sizeLine:=by rw[sizeLine_eq];omega
  refine⟨.ref s.heap.objs.size,_,I.laid (t':=tk) kp (Nat.le_refl _) (show ObjOk X.prog X.w _ h' _ (.lst _) from⟨by simpa using hz,acc'.toList,c',?_,by simpa using hS⟩),rfl,q _ (I.hok.fresh (Nat.le_refl _))⟩
  obtain⟨ha,hb⟩:=hacc
  have key: ∀(l:List Value) (k m:Nat),l.length=m->(∀(j:Nat) v,l[j]? =some v-> ∃t,v=.int (lo+((k+j:Nat):Int)*1) t)->Vals ((List.range' k m).map λ(i:Nat)=>V.int (lo+i)) l:=by
   intro l
   induction l with
   |nil=>intro k m hm _;subst hm;exact .nil
   |cons x l ih=>
    intro k m hm hv;subst hm;rw[List.length_cons,List.range'_succ];refine .cons ?_ (ih (k+1) l.length rfl λj v e=>?_)
    ·obtain⟨t,rfl⟩:=hv 0 x rfl
     exact⟨t,by simp⟩
    ·obtain⟨t,rfl⟩:=hv (j+1) v (by simpa using e)
     exact⟨t,by congr 3;omega⟩
  have:=key acc'.toList 0 (hi-lo).toNat (by simpa using ha) λj v e=>by
   have:=hb j v (by simpa using e)
   simpa using this
  rw[List.range_eq_range'];exact this
def yO:D->Option D
 | .int j=>if j.natAbs<=1000000 then some (.lst (pZ 0 j.toNat)) else none
 |_=>none
def xw(f:FE):FE:=λρ=>(f ρ).bind yO
theorem iQ(hc:X.calm=true)(hml:X.mg "list"=none)(hmr:X.mg "range"=none)(he:DP X c k e f)(hgl:Gl X "list":=by rfl)(hgr:Gl X "range":=by rfl)(hvl:bootBuiltins "list"=some (.type "list"):=by kernel_rfl)(hvr:bootBuiltins "range"=some (.type "range"):=by kernel_rfl)
 (hs1:starEach [e] X.env=(false,eval e X.env)::starEach [] X.env:=by rfl) (hpl1:(backTo pos (starEach [] X.env)).any (·.1)=false:=by rfl) (hpl2:(backTo p2 (starEach [] X.env)).any (·.1)=false:=by rfl) {p3:Pos}
 (hs2:starEach [.Call (.Name "range" p3) [e] [] p2] X.env=(false,eval (.Call (.Name "range" p3) [e] [] p2) X.env)::starEach [] X.env:=by rfl):
 DP X c .n (.Call (.Name "list" p) [.Call (.Name "range" p3) [e] [] p2] [] pos) (xw f):=λhid ρ=>
 PE.imp (jN (mr hc) hgl hml hvl (cH (jN uv hgr hmr hvr (cH (he hid ρ) gk hs1) (by decide) (by decide) hs1 hpl2) gk hs2) (by decide) (by decide) hs2 hpl1) λσ H Q hq_=>by
  obtain⟨sr,d,hd,q⟩:=hq_
  unfold xw at hd;cases e1:f ρ with
  |none=>rw[e1] at hd;cases hd
  |some z=>
   rw[e1] at hd;have hd:yO z=some d:=hd
   unfold yO at hd;split at hd
   ·split at hd
    ·rename_i _ j _ _
     cases hd
     refine⟨sr,_,e1,λv H1 s1 r1=>?_⟩
     have b1:=(RK.b k r1 λa n=>sr.fresh n).int
     cases b1
     refine⟨j,rfl,λr hr=>?_⟩
     refine⟨r,0,j,rfl,aE,by omega,by omega,by omega,by omega,by omega,λl hl=>?_⟩
     have s2:Same H (bd H1 r (.rng 0 j)):=s1.trans (bh hr _)
     refine q _ _ (s2.trans (bh hl _)) ?_
     have:=qN (hid:=hid) (K:=X.K) hl s2 (BH 0 (j-0).toNat)
     rw[show(j-0).toNat=j.toNat by omega] at this⊢
     exact this
    ·cases hd
   ·cases hd
def bA:=i2 (λ_ _=>true) λi j=>.int (i+j)
def xN:=i2 (λ_ _=>true) λi j=>.int (i-j)
def dZ:=i2 (λi j=>decide (i.natAbs<2^1000)&&decide (j.natAbs<2^1000)) λi j=>.int (i*j)
def ci:=i2 (λ_ j=>decide (0<j)) λi j=>.int (i % j)
def iR:=i2 (λ_ j=>decide (0<j)&&decide (j.natAbs<2^1000)) λi j=>.int (i / j)
def dQ:=i2 (λi j=>decide (0<=j)&&decide (j<=1000000)&&decide (i.natAbs<2^64)) λi j=>.int (i^j.toNat)
def xE:=i2 (λ_ _=>true) λi j=>.bl (decide (i<j))
def CH:=i2 (λ_ _=>true) λi j=>.bl (decide (j<i))
def CJ:=i2 (λ_ _=>true) λi j=>.bl (decide (j<=i))
theorem tj {i:Int}(h:i.natAbs<2^1000):Builtin.Int.intBits i<=2^20:=by
 unfold Builtin.Int.intBits;split
 ·exact Nat.zero_le _
 ·rename_i hz
  have h0:i.natAbs≠0:=by simp at hz;omega
  have:=(Nat.log2_lt h0).mpr h
  omega
theorem yt:jB X (binaryOp .Mult) (rI IntMulOk λi j=>.int (i*j)):=CA λ_ _ _ _ _ _ _ hc q=>mul_int q hc
variable {a b:Expr}
theorem dP {k1 k2:Kd}(ha:DP X c k1 a f)(hb:DP X c k2 b g):DP X c .s (.BinOp a .Add b pos) (ar bA f g):=m6 u7 wX ha hb
theorem AE {k1 k2:Kd}(ha:DP X c k1 a f)(hb:DP X c k2 b g):DP X c .s (.BinOp a .Sub b pos) (ar xN f g):=m6 zJ wX ha hb
theorem As {K:W.Frag}:ml K .s (rI IntMulOk λi j=>.int (i*j)) dZ:=ym λi j h=>by
 simp only[Bool.and_eq_true,decide_eq_true_eq] at h;exact IntMulOk.of_bits (tj h.1) (tj h.2)
theorem jK {k1 k2:Kd}(ha:DP X c k1 a f)(hb:DP X c k2 b g):DP X c .s (.BinOp a .Mult b pos) (ar dZ f g):=m6 yt As ha hb
theorem zW {K:W.Frag}:ml K .s (rI (λ_ j=>0<j) λi j=>.int (i % j)) ci:=ym λi j h=>by simpa using h
theorem gw {k1 k2:Kd}(ha:DP X c k1 a f)(hb:DP X c k2 b g):DP X c .s (.BinOp a .Mod b pos) (ar ci f g):=m6 zP zW ha hb
theorem wb:jB X (binaryOp .FloorDiv) (rI (λ_ j=>0<j/\j.natAbs<2^1000) λi j=>.int (i / j)):=CA λi j _ _ _ _ _ hc q=>by
 obtain⟨h1,h2⟩:=hc
 refine floordiv_int (by omega) (by rw[Int.fdiv_eq_ediv_of_nonneg i (by omega)];exact q) (.inl (PyProof.noPylong_of_log2 ?_))
 have:=(Nat.log2_lt (n:=j.natAbs) (by omega)).mpr h2
 omega
theorem xG {K:W.Frag}:ml K .s (rI (λ_ j=>0<j/\j.natAbs<2^1000) λi j=>.int (i / j)) iR:=ym λi j h=>by
 simp only[Bool.and_eq_true,decide_eq_true_eq] at h;exact⟨h.1,h.2⟩
theorem nJ {k1 k2:Kd}(ha:DP X c k1 a f)(hb:DP X c k2 b g):DP X c .s (.BinOp a .FloorDiv b pos) (ar iR f g):=m6 wb xG ha hb
theorem zG {K:W.Frag}:ml K .s (rI Ce λi j=>.int (i^j.toNat)) dQ:=ym λi j h=>by
 simp only[Bool.and_eq_true,decide_eq_true_eq] at h;exact⟨h.1.1,h.1.2,h.2⟩
theorem jG {k1 k2:Kd}(ha:DP X c k1 a f)(hb:DP X c k2 b g):DP X c .s (.BinOp a .Pow b pos) (ar dQ f g):=m6 z9 zG ha hb
theorem vL {f g:GE}(ha:DE X c .s a f)(hb:DE X c .s b g):DE X c .s (.BinOp a .Add b pos) (lb bA f g):=Bh u7 wX ha hb
def zx:D->Option D
 | .int i=>some (.int (-i))
 |_=>none
def i4(f:FE):FE:=λρ=>(f ρ).bind zx
theorem iL(ha:DP X c k a f):DP X c .s (.UnaryOp .USub a pos) (i4 f):=λhid ρ=>PE.imp (BW Ay (ha hid ρ)) λσ H Q hq_=>by
 obtain⟨sr,d,hd,q⟩:=hq_
 unfold i4 at hd;cases e1:f ρ with
 |none=>rw[e1] at hd;cases hd
 |some z=>
  rw[e1] at hd;have hd:zx z=some d:=hd
  unfold zx at hd;split at hd
  ·cases hd
   refine⟨sr,_,e1,λv H1 s1 r1=>?_⟩
   cases (RK.b k r1 λa n=>sr.fresh n).int
   exact⟨_,rfl,q _ H1 s1 .int⟩
  ·cases hd
def mq:List D->Option D
 | [.int i]=>some (.int i)
 | [.bl b]=>some (.int (if b then 1 else 0))
 |_=>none
theorem qz:gL X.K .s (λxs H Q=>(∃i,xs=[.int i]/\Q (.int i) H)\/ ∃k,xs=[.bl k]/\Q (.int (if k then 1 else 0)) H) mq:=by
 intro H hid vs ds d Q hf h r q;unfold mq at h;split at h
 ·cases h
  obtain⟨x,rfl,r1⟩:=Reps1.one r
  cases r1.int
  exact .inl ⟨_,rfl,q _ H (Same.refl _) .int⟩
 ·cases h
  obtain⟨x,rfl,r1⟩:=Reps1.one r
  cases r1.bl
  exact .inr ⟨_,rfl,q _ H (Same.refl _) .int⟩
 ·cases h
end
structure Cl(P:Program)(w:World)(K:W.Frag)(mg:Str->Option Value)(base:Heap)(k:Nat)(x:Str)(ps:List Str)(sp:Sp):Prop where
 ex: ∃f fd,FnOk P w K mg base oB k f fd ps sp/\mg x=some (.ref f)/\W.keepIn K (.ref f)=true/\Binds K fd ps []
structure Df(K:W.Frag)(mg:Str->Option Value)(x:Str)(st:Stmt)(ps:List Str):Prop where
 ex: ∃f fd,Fun K x x st f fd/\mg x=some (.ref f)/\Binds K fd ps []
section
variable {P:Program}{w:World}{K:W.Frag}{mg:Str->Option Value}{base:Heap}{x:Str}{st:Stmt}{N ps:List Str}{k n:Nat}{t:FS}{kd:Kd}
theorem bD(F:Df K mg x st ps)(S:FnScope N ps (ao st))(hkd:kd≠ .b)(hn:ps.length=n)
 (body: ∀(f:Addr) (cdv:Value) (A:Around) (outer:List Env) (s:Shared) (H:Hp) (hid:bn) (E:XK),Room k (A.deeper (envOfC x (ao st) s.heap.objs.size f cdv))->
   sj (mi oB P w K mg base N x (ao st) f cdv A outer s H E).nox ⟨H,hid,λ_=>false⟩ kd (aQ st) t):
 Cl P w K mg base (k+1) x ps (fm K kd n (iN kd N.length t)):=by
 obtain⟨f,fd,F,hm,hb⟩:=F.ex
 subst hn;exact⟨f,fd,tR F S hkd (body f),hm,F.kp,hb⟩
theorem rN(F:Df K mg x st ps)(S:FnScope N ps (ao st))(hkd:kd≠ .b)(hn:ps.length=n+1)
 (body: ∀(f:Addr) (cdv:Value) (A:Around) (outer:List Env) (s:Shared) (H:Hp) (hid:bn) (a:Addr) (E:XK),Room k (A.deeper (envOfC x (ao st) s.heap.objs.size f cdv))->
   sj (mi oB P w K mg base N x (ao st) f cdv A outer s H E).nox ⟨H,hid,λb=>decide (b=a)⟩ kd (aQ st) t):
 Cl P w K mg base (k+1) x ps (ub K kd n (uQ kd N.length t)):=by
 obtain⟨f,fd,F,hm,hb⟩:=F.ex
 exact⟨f,fd,AX F S hkd hn (body f),hm,F.kp,hb⟩
end
section
variable {X:Cx}{c:Ct}{e a b:Expr}{es rest:List Expr}{k:Kd}{pos p:Pos}{x:Str}{ps:List Str}{j n:Nat}
def nF(n:Nat)(P:List D->Option D):List D->Option D:=λds=>if ds.length=n then P ds else none
theorem cj {P:List D->Option D}{fs:FA}(C:Cl X.prog X.w X.K X.mg X.base j x ps (fm X.K k n P))(hr:Room j X.A)
 (ha:DA X c (e::es) fs) (hg:Gl X x:=by rfl) (hdb:(x==("__debug__":Str))=false:=by decide) (he:starEach (e::es) X.env=(false,eval e X.env)::starEach es X.env:=by rfl) (hpl:(backTo pos (starEach es X.env)).any (·.1)=false:=by rfl):
 DP X c k (.Call (.Name x p) (e::es) [] pos) (aj (nF n P) fs):=by
 obtain⟨f,fd,F,hm,hk,hb⟩:=C.ex
 exact yz F hr hm hk hb ha hg hdb he hpl
theorem lm(i:Nat){y:Str}{py:Pos}{M:List D->List D->Option (D×List D)}{fs:GA}(C:Cl X.prog X.w X.K X.mg X.base j x ps (ub X.K k n M))(hr:Room j X.A)
 (ha:DG X c es fs) (hkb:k≠ .b:=by decide) (hN:X.N[i]? =some y:=by rfl) (hv:nT X.env.scope y:=by first|exact Or.inl rfl|exact Or.inr (Or.inl rfl)|exact Or.inr (Or.inr rfl)) (hd:(y==("__debug__":Str))=false:=by decide)
 (hcd:(y==("__classdict__":Str))=false:=by decide) (hs:starEach (.Name y py::es) X.env=(false,eval (.Name y py) X.env)::starEach es X.env:=by rfl) (hg:Gl X x:=by rfl) (hdb:(x==("__debug__":Str))=false:=by decide) (hpl:(backTo pos (starEach es X.env)).any (·.1)=false:=by rfl):
 DE X c k (.Call (.Name x p) (.Name y py::es) [] pos) (aU i n M fs):=by
 obtain⟨f,fd,F,hm,hk,hb⟩:=C.ex
 exact vT i F hr hm hk hb ha hkb hN hv hd hcd hs hg hdb hpl
end
open PySem PySem.W PyProof.Rows
structure Od(b:Nat->Nat->Bool):Prop where
 tr: ∀ {i j k:Nat},b j i=false->b k j=false->b k i=false
 as: ∀ {i j:Nat},b i j=true->b j i=false
theorem Od.rf {b:Nat->Nat->Bool}(O:Od b)(i:Nat):b i i=false:=by
 cases h:b i i with
 |false=>rfl
 |true=>have:=O.as h;rw[h] at this;exact this
structure Pm(N:Nat)(p:Array Nat):Prop where
 perm:p.Perm (List.toArray (List.range N))
theorem Pm.size {N:Nat}{p:Array Nat}(h:Pm N p):p.size=N:=by rw[h.perm.size_eq];simp
theorem Pm.lt {N:Nat}{p:Array Nat}(h:Pm N p)(hN:0<N)(k:Nat):p.getD k 0<N:=by
 by_cases hk:k<p.size
 ·have e:p.getD k 0=p[k]:=by simp[Array.getD,hk]
  rw[e];have:p[k]∈(List.toArray (List.range N)):=h.perm.mem_iff.mp (Array.getElem_mem hk)
  simpa using this
 ·have e:p.getD k 0=0:=by simp[Array.getD,hk]
  rw[e];exact hN
theorem pL {p q:Array Nat}{i j:Nat}(h:p[i]? =q[j]?):p.getD i 0=q.getD j 0:=by
 rw[Array.getD_eq_getD_getElem?,Array.getD_eq_getD_getElem?,h]
section
variable {b:Nat->Nat->Bool}{N:Nat}{cmp:Nat->Nat->(Bool->Shared->Prop)->Shared->Prop}{s:Shared}
def Srt(b:Nat->Nat->Bool)(p:Array Nat)(n:Nat):Prop:= ∀i j,i<=j->j<n->b (p.getD j 0) (p.getD i 0)=false
def Fal(b:Nat->Nat->Bool)(p:Array Nat)(n:Nat):Prop:= ∀i j,i<=j->j<n->b (p.getD i 0) (p.getD j 0)=false
theorem Srt.succ(O:Od b){p:Array Nat}{n:Nat}(h:Srt b p n)(hn:1<=n)(e:b (p.getD n 0) (p.getD (n-1) 0)=false):Srt b p (n+1):=λi j hij hj=>by
 by_cases h1:j<n
 ·exact h i j hij h1
 ·have:j=n:=by omega
  subst this
  by_cases h2:i=j
  ·subst h2;exact O.rf _
  ·exact O.tr (h i (j-1) (by omega) (by omega)) e
theorem Fal.succ(O:Od b){p:Array Nat}{n:Nat}(h:Fal b p n)(hn:1<=n)(e:b (p.getD (n-1) 0) (p.getD n 0)=false):Fal b p (n+1):=λi j hij hj=>by
 by_cases h1:j<n
 ·exact h i j hij h1
 ·have:j=n:=by omega
  subst this
  by_cases h2:i=j
  ·subst h2;exact O.rf _
  ·exact O.tr e (h i (j-1) (by omega) (by omega))
theorem Fal.congr(O:Od b){p q:Array Nat}{n:Nat}(h:Fal b p n)(e: ∀k,k<n->b (p.getD k 0) (q.getD k 0)=false/\b (q.getD k 0) (p.getD k 0)=false):Fal b q n:=λi j hij hj=>
 O.tr (O.tr (e j hj).1 (h i j hij hj)) (e i (by omega)).2
theorem xY(O:Od b)(p:Array Nat):Srt b p 1:=λi j hij hj=>by
 have:i=j:=by omega
 subst this;exact O.rf _
theorem xL(O:Od b)(p:Array Nat):Fal b p 1:=λi j hij hj=>by
 have:i=j:=by omega
 subst this;exact O.rf _
theorem jE {p:Array Nat}{i j:Nat}(hj:j<=p.size)(k:Nat):(kas_rev p i j).getD k 0=if i<=k/\k<j then p.getD (i+j-1-k) 0 else p.getD k 0:=by
 have:=getElem?_mirror_all (i:=i) hj k
 unfold kas_rev;split
 ·rename_i h;rw[if_pos h] at this;exact pL this
 ·rename_i h;rw[if_neg h] at this;exact pL this
theorem Pm.rev {p:Array Nat}(h:Pm N p)(i j:Nat):Pm N (kas_rev p i j):=⟨(mirror_perm _ _ _ _).trans h.perm⟩
variable(O:Od b)(hN:0<N)(hc: ∀(i j:Nat) (C:Bool->Shared->Prop),i<N->j<N->C (b i j) s->cmp i j C s)
include O hN hc
theorem qR {p:Array Nat}(P:Pm N p){Q:Nat->Shared->Prop}: ∀(f n:Nat),1<=n->n+f<=N->Srt b p n->
 (∀m,n<=m->m<=n+f->Srt b p m->(m<n+f->b (p.getD m 0) (p.getD (m-1) 0)=true)->Q m s)->(kas_asc p f n).kasWp cmp Q s
 |0,n,h1,h2,hs,q=>q n (Nat.le_refl _) (Nat.le_refl _) hs λz=>absurd z (Nat.lt_irrefl _)
 |f+1,n,h1,h2,hs,q=>by
  unfold kas_asc;refine hc _ _ _ (P.lt hN _) (P.lt hN _) ?_
  cases e:b (p.getD n 0) (p.getD (n-1) 0) with
  |true=>simp only[if_true];exact q n (Nat.le_refl _) (by omega) hs λ_=>e
  |false=>
   simp only[Bool.false_eq_true,if_false];exact qR P f (n+1) (by omega) (by omega) (hs.succ O h1 e) λm a1 a2 a3 a4=>q m (by omega) (by omega) a3 λz=>a4 (by omega)
def Eqs(b:Nat->Nat->Bool)(p:Array Nat)(n q:Nat):Prop:= ∀i,n- (q+1)<=i->i<n->b (p.getD i 0) (p.getD (n-1) 0)=false/\b (p.getD (n-1) 0) (p.getD i 0)=false
omit hN hc in
theorem Eqs.rev {p:Array Nat}{n q:Nat}(hn:n<=p.size)(hq:q<n)(h:Eqs b p n q)(k:Nat):b (p.getD k 0) ((kas_rev p (n- (q+1)) n).getD k 0)=false/\b ((kas_rev p (n- (q+1)) n).getD k 0) (p.getD k 0)=false:=by
 rw[jE hn];split
 ·rename_i hk
  have h1:=h k hk.1 hk.2
  have h2:=h (n- (q+1)+n-1-k) (by omega) (by omega)
  exact⟨O.tr h2.2 h1.1,O.tr h1.2 h2.1⟩
 ·exact⟨O.rf _,O.rf _⟩
theorem kU {Q:Array Nat×Nat×Nat->Shared->Prop}: ∀(f:Nat) (p:Array Nat) (n q:Nat),Pm N p->1<=n->n+f<=N->q<n->Fal b p n->Eqs b p n q->
 (∀p' n' q',Pm N p'->n<=n'->n'<=n+f->q'<n'->Fal b p' n'->Eqs b p' n' q'->Q (p',n',q') s)->(kas_desc f p n q).kasWp cmp Q s
 |0,p,n,q,P,h1,h2,hq,hf,he,k=>k p n q P (Nat.le_refl _) (Nat.le_refl _) hq hf he
 |f+1,p,n,q,P,h1,h2,hq,hf,he,k=>by
  have hz:=P.size
  have e0: ∀p':Array Nat,Eqs b p' (n+1) 0:=λp' i a1 a2=>by
   have:i=n:=by omega
   subst this;exact⟨O.rf _,O.rf _⟩
  unfold kas_desc;refine hc _ _ _ (P.lt hN _) (P.lt hN _) ?_
  cases e:b (p.getD n 0) (p.getD (n-1) 0) with
  |true=>
   simp only[if_true];split
   ·rename_i hq0
    have ev:=he.rev O (by omega) hq
    have hf':Fal b (kas_rev p (n- (q+1)) n) n:=hf.congr O λk _=>ev k
    refine kU f _ (n+1) 0 (P.rev _ _) (by omega) (by omega) (by omega) (hf'.succ O h1 ?_) (e0 _) λp' n' q' a1 a2 a3=>k p' n' q' a1 (by omega) (by omega)
    have e1:(kas_rev p (n- (q+1)) n).getD n 0=p.getD n 0:=by rw[jE (by omega),if_neg (by omega)]
    rw[e1];exact O.tr (O.as e) (ev (n-1)).2
   ·exact kU f p (n+1) 0 P (by omega) (by omega) (by omega) (hf.succ O h1 (O.as e)) (e0 _) λp' n' q' a1 a2 a3=>k p' n' q' a1 (by omega) (by omega)
  |false=>
   simp only[Bool.false_eq_true,if_false];refine hc _ _ _ (P.lt hN _) (P.lt hN _) ?_
   cases e2:b (p.getD (n-1) 0) (p.getD n 0) with
   |true=>simp only[if_true];exact k p n q P (Nat.le_refl _) (by omega) hq hf he
   |false=>
    simp only[Bool.false_eq_true,if_false];refine kU f p (n+1) (q+1) P (by omega) (by omega) (by omega) (hf.succ O h1 e2) (λi a1 a2=>?_) λp' n' q' b1 b2 b3=>k p' n' q' b1 (by omega) (by omega)
    rw[show n+1-1=n by omega]
    by_cases hi:i=n
    ·subst hi;exact⟨O.rf _,O.rf _⟩
    ·have z:=he i (by omega) (by omega)
     exact⟨O.tr e2 z.1,O.tr z.2 e⟩
theorem qh {p:Array Nat}(P:Pm N p){n:Nat}(h1:1<=n)(hn:n<=N)(hf:Fal b p n){Q:Nat×Array Nat->Shared->Prop}(q: ∀m p',Pm N p'->1<=m->m<=N->Srt b p' m->Q (m,p') s):(kas_tail3 n N p).kasWp cmp Q s:=by
 unfold kas_tail3;rw[KasT.kasWp_bind];have hz:=P.size
 have hs:Srt b (kas_rev p 0 n) n:=λi j hij hj=>by
  rw[jE (by omega),jE (by omega),if_pos (by omega),if_pos (by omega)]
  exact hf _ _ (by omega) (by omega)
 exact qR O hN hc (P.rev _ _) (N-n) n h1 (by omega) hs λm a1 a2 a3 _=>q m _ (P.rev _ _) (by omega) (by omega) a3
theorem ke {p:Array Nat}(P:Pm N p){n:Nat}(h1:1<=n)(hn:n+1<=N)(hf:Fal b p (n+1)){Q:Nat×Array Nat->Shared->Prop}(q: ∀m p',Pm N p'->1<=m->m<=N->Srt b p' m->Q (m,p') s):(kas_descPart n N p).kasWp cmp Q s:=by
 unfold kas_descPart;rw[KasT.kasWp_bind];refine kU O hN hc (N- (n+1)) p (n+1) 0 P (by omega) (by omega) (by omega) hf (λi a1 a2=>?_) λp' n' q' a1 a2 a3 a4 a5 a6=>?_
 ·have:i=n:=by omega
  subst this;exact⟨O.rf _,O.rf _⟩
 ·dsimp only
  have hz:=a1.size
  split
  ·exact qh O hN hc (a1.rev _ _) (by omega) (by omega) (a5.congr O λk _=>a6.rev O (by omega) a4 k) q
  ·exact qh O hN hc a1 (by omega) (by omega) a5 q
theorem w6 {p:Array Nat}(P:Pm N p){Q:Nat×Array Nat->Shared->Prop}(q: ∀m p',Pm N p'->1<=m->m<=N->Srt b p' m->Q (m,p') s):(kas_count N p).kasWp cmp Q s:=by
 unfold kas_count;rw[KasT.kasWp_bind];have hz:=P.size
 refine qR O hN hc P (N-1) 1 (Nat.le_refl _) (by omega) (xY O p) λm a1 a2 a3 a4=>?_
 split
 ·exact q m p P a1 (by omega) a3
 ·rename_i hm
  have hm':m≠N:=by simpa using hm
  have lt:=a4 (by omega)
  split
  ·refine hc _ _ _ (P.lt hN _) (P.lt hN _) ?_
   cases e:b (p.getD 0 0) (p.getD (m-1) 0) with
   |true=>simp only[if_true];exact q m p P a1 (by omega) a3
   |false=>
    simp only[Bool.false_eq_true,if_false];have eq: ∀i j,i<m->j<m->b (p.getD i 0) (p.getD j 0)=false:=λi j hi hj=>O.tr (O.tr (a3 j (m-1) (by omega) (by omega)) e) (a3 0 i (by omega) hi)
    have hr: ∀i,i<m->(kas_rev p 0 m).getD i 0=p.getD (0+m-1-i) 0:=λi hi=>by rw[jE (by omega),if_pos (by omega)]
    refine ke O hN hc (P.rev _ _) a1 (by omega) (Fal.succ O (λi j hij hj=>?_) a1 ?_) q
    ·rw[hr i (by omega),hr j hj];exact eq _ _ (by omega) (by omega)
    ·have e1:(kas_rev p 0 m).getD m 0=p.getD m 0:=by rw[jE (by omega),if_neg (by omega)]
     rw[e1,hr (m-1) (by omega)]
     exact O.tr (O.as lt) (eq _ _ (by omega) (by omega))
  ·have:m=1:=by omega
   subst this;exact ke O hN hc P (Nat.le_refl _) (by omega) ((xL O p).succ O (Nat.le_refl _) (O.as lt)) q
theorem kW {p:Array Nat}(P:Pm N p){k:Nat}(hs:Srt b p k){Q:Nat->Shared->Prop}: ∀(f l r:Nat),l<=r->r<=k->r-l<=f->(∀i,i<l->b (p.getD k 0) (p.getD i 0)=false)->(∀i,r<=i->i<k->b (p.getD k 0) (p.getD i 0)=true)->
 (∀m,m<=k->(∀i,i<m->b (p.getD k 0) (p.getD i 0)=false)->(∀i,m<=i->i<k->b (p.getD k 0) (p.getD i 0)=true)->Q m s)->(kas_place p k f l r).kasWp cmp Q s
 |0,l,r,h1,h2,h3,a,c,q=>q l (by omega) a λi z=>c i (by omega)
 |f+1,l,r,h1,h2,h3,a,c,q=>by
  unfold kas_place;split
  ·exact q l (by omega) a λi z=>c i (by omega)
  ·rename_i hlr
   refine hc _ _ _ (P.lt hN _) (P.lt hN _) ?_
   cases e:b (p.getD k 0) (p.getD ((l+r) / 2) 0) with
   |true=>
    simp only[if_true];refine kW P hs f l _ (by omega) (by omega) (by omega) a (λi z1 z2=>?_) q
    cases e2:b (p.getD k 0) (p.getD i 0) with
    |true=>rfl
    |false=>
     have:=O.tr (hs ((l+r) / 2) i z1 z2) e2
     rw[e] at this;exact this.symm
   |false=>
    simp only[Bool.false_eq_true,if_false];exact kW P hs f _ r (by omega) (by omega) (by omega) (λi z=>O.tr (hs i ((l+r) / 2) (by omega) (by omega)) e) c q
omit hN hc in
theorem rm {p:Array Nat}{k m:Nat}(hk:k<p.size)(hs:Srt b p k)(hm:m<=k)(a: ∀i,i<m->b (p.getD k 0) (p.getD i 0)=false)(c: ∀i,m<=i->i<k->b (p.getD k 0) (p.getD i 0)=true):Srt b (bubble p k (k-m)) (k+1):=by
 have g: ∀j,(bubble p k (k-m)).getD j 0=if j=m then p.getD k 0 else if m<j/\j<=k then p.getD (j-1) 0 else p.getD j 0:=λj=>by
  have:=getElem?_bubble hk (k-m) (by omega) j
  rw[show k- (k-m)=m by omega] at this
  by_cases h:j=m
  ·rw[if_pos h] at this⊢;exact pL this
  ·rw[if_neg h] at this⊢
   by_cases h2:m<j/\j<=k
   ·rw[if_pos h2] at this⊢;exact pL this
   ·rw[if_neg h2] at this⊢;exact pL this
 intro i j hij hj;rw[g,g]
 by_cases ej:j=m
 ·rw[if_pos ej]
  by_cases ei:i=m
  ·rw[if_pos ei];exact O.rf _
  ·rw[if_neg ei,if_neg (by omega)];exact a i (by omega)
 ·rw[if_neg ej]
  by_cases ei:i=m
  ·rw[if_pos ei,if_pos (by omega)];exact O.as (c _ (by omega) (by omega))
  ·rw[if_neg ei]
   by_cases hj2:m<j/\j<=k
   ·rw[if_pos hj2]
    by_cases hi2:m<i/\i<=k
    ·rw[if_pos hi2];exact hs _ _ (by omega) (by omega)
    ·rw[if_neg hi2];exact hs _ _ (by omega) (by omega)
   ·rw[if_neg hj2,if_neg (by omega)];exact hs _ _ hij (by omega)
theorem wt {Q:Array Nat->Shared->Prop}: ∀(f:Nat) (p:Array Nat) (k:Nat),Pm N p->1<=k->k+f=N->Srt b p k->(∀p',Pm N p'->Srt b p' N->Q p' s)->(kas_bin f p k).kasWp cmp Q s
 |0,p,k,P,h1,h2,hs,q=>q p P (by rw[<-h2];exact hs)
 |f+1,p,k,P,h1,h2,hs,q=>by
  unfold kas_bin;rw[KasT.kasWp_bind];have hz:=P.size
  refine kW O hN hc P hs k 0 k (Nat.zero_le _) (Nat.le_refl _) (by omega) (λi z=>absurd z (by omega)) (λi z1 z2=>absurd z2 (by omega)) λm a1 a2 a3=>?_
  exact wt f _ (k+1) ⟨(bubble_perm _ _ _).trans P.perm⟩ (by omega) (by omega) (rm O (by omega) hs a1 a2 a3) q
theorem xU {Q:Array Nat->Shared->Prop}(q: ∀p,Pm N p->Srt b p N->Q p s):(kas_sort N).kasWp cmp Q s:=by
 unfold kas_sort;rw[KasT.kasWp_bind];refine w6 O hN hc ⟨Array.Perm.refl _⟩ λm p' P h1 h2 hs=>?_
 dsimp only;split
 ·exact wt O hN hc _ p' _ P (by omega) (by omega) (by rw[show max m 1=m by omega];exact hs) q
 ·have:m=N:=by omega
  subst this;exact q p' P hs
end
open PySem PySem.W PySem.Calls PyProof.Rows
section
variable {prog:Program}{w:World}{A:Around}{E:Value->Shared->Prop}{s:Shared}
theorem rD {a:Addr}{us:List Value}{n:Nat}{P:PySem.Fin->Shared->Prop}(ho:s.heap.get? a=some (seqObj "list" us.toArray n))(hz:us.length<64)
 (few:us.length<2->P (.done (.ret .none)) {s with heap:=sortedHeap s.heap a us us.toArray})
 (many:2<=us.length-> ∀g:Heap,(∀c o,c≠a->s.heap.get? c=some o->g.get? c=some o)->wpAny (model prog w) A (keyKind' us.toArray) (λκ t=>t={s with heap:=g}/\
   (kas_sort us.length).kasWp (kas_ask prog w A κ us) (λp t'=>t'=t/\P (.done (.ret .none)) {s with heap:=sortedHeap s.heap a us (List.toArray (p.toList.map λi=>us.getD i Value.none))}) t) (λ_ _=>False) {s with heap:=g}):
 wpAny (model prog w) A (Builtin.«list.sort» ⟨[.ref a],[]⟩) P E s:=by
 have la:a<s.heap.objs.size:=Heap.lt_size ho
 have z1:us.toArray.size<=sizeLine:=by rw[List.size_toArray,sizeLine_eq];omega
 obtain⟨c1,h1⟩: ∃c,(s.heap.update a (Obj.mapSeq λ_=> #[])).get? a=some (seqObj "list" #[] c):=⟨_,get?_update_seq ho (λ_=> #[])⟩
 have h2:(((s.heap.update a (Obj.mapSeq λ_=> #[])).push (seqObj "tuple" us.toArray 0)).push (seqObj "list" #[] 0)).get? a=some (seqObj "list" #[] c1):=Heap.get?_push_of_some _ (Heap.get?_push_of_some _ h1)
 have kp: ∀c o,c≠a->s.heap.get? c=some o->(((s.heap.update a (Obj.mapSeq λ_=> #[])).push (seqObj "tuple" us.toArray 0)).push (seqObj "list" #[] 0)).get? c=some o:=λc o nc e=>
  Heap.get?_push_of_some _ (Heap.get?_push_of_some _ (by rw[Heap.get?_update_ne _ _ _ _ nc];exact e))
 rw[list_sort_plain];refine wpAny_bind (listItems_at ho rfl (wpAny_bind (listUpdate_at ho rfl ?_ z1 (Nat.zero_le _))))
 refine wpAny_bind (seqEpoch_at h1 rfl (wpAny_bind (wpAny_newTuple ?_ (show us.length<=_ by rw[sizeLine_eq];omega))))
 refine wpAny_bind (wpAny_newList (wpAny_holding ?_) (Nat.zero_le _))
 show wpAny (model prog w) A _ P E {s with heap:=((s.heap.update a (Obj.mapSeq λ_=> #[])).push (seqObj "tuple" us.toArray 0)).push (seqObj "list" #[] 0)}
 dsimp only
 by_cases hs:us.toArray.size<2
 ·rw[if_pos hs,if_pos hs]
  refine wpAny_bind (wpAny_pure ?_)
  rw[StateT.run_pure];refine wpAny_bind (wpAny_pure ?_)
  dsimp only;have ea:Array.map (λx=>x.2) (us.toArray.zip us.toArray)=us.toArray:=by
   apply Array.toList_inj.mp
   simp[List.map_snd_zip]
  refine wpAny_bind (seqEpoch_at h2 rfl (wpAny_bind (listUpdate_at h2 rfl ?_ (Nat.zero_le _) ?_)))
  ·simp only[bne_self_eq_false,Bool.false_eq_true,if_false]
   refine wpAny_pure ?_
   have:=few (by simpa using hs)
   show P _ {s with heap:=sortedHeap s.heap a us (Array.map (λx=>x.2) (us.toArray.zip us.toArray))}
   rw[ea];exact this
  ·show(Array.map (λx=>x.2) (us.toArray.zip us.toArray)).size<=_
   rw[ea];exact Nat.le_succ_of_le z1
 ·rw[if_neg hs,if_neg hs]
  have h2':2<=us.length:=by simpa using hs
  refine wpAny_bind (wpAny_mono (many h2' _ kp) (λκ t ⟨et,ht⟩=>?_) λ_ _ x=>x.elim)
  subst et;refine wpAny_bind (wpAny_mono (kat_run (ks:=us) (vs:=us) (G:=λp t'=>t'=_/\P (.done (.ret .none)) {s with heap:=sortedHeap s.heap a us (List.toArray (p.toList.map λi=>us.getD i Value.none))})
   (Q:=λst t'=>t'=_/\failedOf st=none/\ ∃p:Array Nat,p.size=us.length/\(arrOf st).map (·.2)=List.toArray (p.toList.map λi=>us.getD i Value.none)/\P (.done (.ret .none)) {s with heap:=sortedHeap s.heap a us (List.toArray (p.toList.map λi=>us.getD i Value.none))})
   rfl h2' hz (λp st t' a1 a2 a3 a4=>⟨a4.1,a3,p,a1,kat_snds rfl a2,a4.2⟩) ht) (λr t' hr=>?_) λ_ _ x=>x)
  obtain⟨u,st⟩:=r
  obtain⟨e1,hf,p,hp,ho',hP⟩:=hr
  subst e1;dsimp only at hf ho'⊢;rw[ho',hf];have zz:(List.toArray (p.toList.map λi=>us.getD i Value.none)).size<=sizeLine:=by rw[List.size_toArray,List.length_map,Array.length_toList,hp,sizeLine_eq];omega
  refine wpAny_bind (seqEpoch_at h2 rfl (wpAny_bind (listUpdate_at h2 rfl ?_ (Nat.zero_le _) (Nat.le_succ_of_le zz))))
  simp only[bne_self_eq_false,Bool.false_eq_true,if_false];exact wpAny_pure hP
end
open PySem PySem.W PySem.Spec PyProof.Rows
def cR:List Int->List Int->Bool
 |_,[]=>false
 | [],_::_=>true
 |x::xs,y::ys=>if x=y then cR xs ys else decide (x<y)
structure Lt {α:Type}(lt:α->α->Bool):Prop where
 tr: ∀ {a b c:α},lt b a=false->lt c b=false->lt c a=false
 as: ∀ {a b:α},lt a b=true->lt b a=false
 eq: ∀ {a b:α},lt a b=false->lt b a=false->a=b
theorem r8: ∀ {a b:List Int},cR a b=true->cR b a=false
 | [],[],h=>by simp[cR] at h
 |x::xs,[],h=>by simp[cR] at h
 | [],y::ys,h=>by simp[cR]
 |x::xs,y::ys,h=>by
  unfold cR at h⊢
  by_cases e:x=y
  ·subst e;simp only[if_true] at h⊢;exact r8 h
  ·rw[if_neg e] at h;rw[if_neg (Ne.symm e)];simp only[decide_eq_true_eq,decide_eq_false_iff_not] at*;omega
theorem tP: ∀ {a b:List Int},cR a b=false->cR b a=false->a=b
 | [],[],_,_=>rfl
 |x::xs,[],_,h=>by simp[cR] at h
 | [],y::ys,h,_=>by simp[cR] at h
 |x::xs,y::ys,h,h'=>by
  unfold cR at h h'
  by_cases e:x=y
  ·subst e;simp only[if_true] at h h';rw[tP h h']
  ·rw[if_neg e] at h;rw[if_neg (Ne.symm e)] at h';simp only[decide_eq_false_iff_not] at*;omega
theorem sJ: ∀ {a b c:List Int},cR b a=false->cR c b=false->cR c a=false
 | [],_,_,_,_=>by unfold cR;rfl
 |x::xs,[],_,h,_=>by simp[cR] at h
 |x::xs,y::ys,[],_,h=>by simp[cR] at h
 |x::xs,y::ys,z::zs,h1,h2=>by
  unfold cR at h1 h2⊢
  by_cases e1:y=x
  ·subst e1
   simp only[if_true] at h1
   by_cases e2:z=y
   ·subst e2;simp only[if_true] at h2⊢;exact sJ h1 h2
   ·rw[if_neg e2] at h2⊢;exact h2
  ·rw[if_neg e1] at h1
   by_cases e2:z=y
   ·subst e2;rw[if_neg e1];exact h1
   ·rw[if_neg e2] at h2
    simp only[decide_eq_false_iff_not] at h1 h2;rw[if_neg (by omega)]
    simp only[decide_eq_false_iff_not];omega
theorem Ab:Lt cR:=⟨sJ,r8,tP⟩
def rn {α:Type}(lt:α->α->Bool)(x:α):List α->List α
 | []=>[x]
 |y::r=>if lt x y=true then x::y::r else y::rn lt x r
def gm {α:Type}(lt:α->α->Bool):List α->List α
 | []=>[]
 |x::r=>rn lt x (gm lt r)
section
variable {α:Type}{lt:α->α->Bool}
theorem jQ(x:α): ∀l:List α,(rn lt x l).Perm (x::l)
 | []=>.refl _
 |y::r=>by
  unfold rn;split
  ·exact .refl _
  ·exact((jQ x r).cons y).trans (.swap _ _ _)
theorem ip: ∀l:List α,(gm lt l).Perm l
 | []=>.refl _
 |x::r=>(jQ x _).trans ((ip r).cons x)
theorem tx(O:Lt lt)(x:α): ∀ {l:List α},l.Pairwise (λa b=>lt b a=false)->(rn lt x l).Pairwise (λa b=>lt b a=false)
 | [],_=>by simp[rn]
 |y::r,h=>by
  obtain⟨h1,h2⟩:=List.pairwise_cons.mp h
  unfold rn;split
  ·rename_i e
   refine List.pairwise_cons.mpr ⟨λz hz=>?_,h⟩
   rcases List.mem_cons.mp hz with rfl|hz
   ·exact O.as e
   ·exact O.tr (O.as e) (h1 z hz)
  ·rename_i e
   refine List.pairwise_cons.mpr ⟨λz hz=>?_,tx O x h2⟩
   rcases List.mem_cons.mp ((jQ x r).mem_iff.mp hz) with rfl|hz
   ·simpa using e
   ·exact h1 z hz
theorem mV(O:Lt lt): ∀l:List α,(gm lt l).Pairwise (λa b=>lt b a=false)
 | []=>.nil
 |x::r=>tx O x (mV O r)
theorem nB(O:Lt lt){l l':List α}(p:l'.Perm l)(s:l'.Pairwise (λa b=>lt b a=false)):l'=gm lt l:=
 List.Perm.eq_of_pairwise (λa b _ _ h1 h2=>O.eq h2 h1) s (mV O l) (p.trans (ip l).symm)
theorem lN(ts:List α)(d:α):(List.range ts.length).map (λi=>ts.getD i d)=ts:=List.ext_getElem? λi=>by
 by_cases hi:i<ts.length
 ·simp[hi]
 ·simp[hi]
theorem pq(O:Lt lt){ts:List α}{d:α}{p:Array Nat}(P:Pm ts.length p)(S:Srt (λi j=>lt (ts.getD i d) (ts.getD j d)) p ts.length):p.toList.map (λi=>ts.getD i d)=gm lt ts:=by
 refine nB O ?_ ?_
 ·have h1:p.toList.Perm (List.range ts.length):=by simpa using (Array.perm_iff_toList_perm.mp P.perm)
  have h2:=h1.map (λi=>ts.getD i d)
  rw[lN] at h2;exact h2
 ·rw[List.pairwise_map,List.pairwise_iff_getElem]
  intro i j hi hj hij;have hz:=P.size
  have e:=S i j (by omega) (by simpa [hz] using hj)
  have g: ∀k (hk:k<p.toList.length),p.getD k 0=p.toList[k]:=λk hk=>by
   have:k<p.size:=by simpa using hk
   simp[Array.getD,this]
  rw[g i hi,g j hj] at e;exact e
theorem Cb(O:Lt lt)(f:Nat->α):Od (λi j=>lt (f i) (f j)):=⟨λh1 h2=>O.tr h1 h2,λh=>O.as h⟩
end
def gb(k:List Int):D:=.tup (k.map D.int)
theorem gJ(ns:List Int):dX (ns.map D.int)=some ns:=by
 induction ns with
 |nil=>rfl
 |cons n ns ih=>show(dX (ns.map D.int)).map (n:: ·)=_;rw[ih];rfl
theorem oH {α:Type}{lt:α->α->Bool}{l:List α}(h:l.length<2):gm lt l=l:=by
 match l,h with
 | [],_=>rfl
 | [_],_=>rfl
theorem nn {xs:List V}{us:List Value}(r:Vals xs us)(i:Nat):RelV (xs.getD i .non) (us.getD i Value.none):=by
 cases e:xs[i]? with
 |none=>
  have hl:=r.length
  have:us[i]? =none:=by simp at e⊢;omega
  simp[List.getD,e,this];rfl
 |some x=>
  obtain⟨u,h1,h2⟩:=r.get e
  simp[List.getD,e,h1];exact h2
theorem m7 {xs:List V}{us:List Value}(r:Vals xs us): ∀ix:List Nat,Vals (ix.map λi=>xs.getD i .non) (ix.map λi=>us.getD i Value.none)
 | []=>.nil
 |i::l=>.cons (nn r i) (m7 r l)
def qQ:List Value->List Int->Prop:=Paired λu i=> ∃t,u=Value.int i t
theorem sH {K:W.Frag}{F:Hp}: ∀ {xs:List V} {us:List Value} {ns:List Int},Vals xs us->Reps K F xs (ns.map D.int)->qQ us ns
 |_,_,[],r,p=>by cases p;cases r;exact .nil
 |_,_,n::ns,r,p=>by
  cases p with
  |cons p1 p2=>cases r with
   |cons r1 r2=>cases p1;exact .cons r1 (sH r2 p2)
theorem qb: ∀ {us:List Value} {ns:List Int} {i:Nat} {u:Value},qQ us ns->us[i]? =some u-> ∃n,ns[i]? =some n/\ ∃t,u=Value.int n t
 |_,_,_,_,.nil,e=>by simp at e
 |_,_,0,_,.cons h _,e=>by simp at e;subst e;exact⟨_,rfl,h⟩
 |_,_,i+1,u,.cons _ r,e=>by
  obtain⟨n,h1,h2⟩:=qb (i:=i) (u:=u) r (by simpa using e)
  exact⟨n,by simpa using h1,h2⟩
section
variable {prog:Program}{w:World}{A:Around}{s:Shared}{b fin:Bool}{Q:Bool->Shared->Prop}
theorem tO: ∀ {us ws:List Value} {ns ms:List Int} (i:Nat),qQ us ns->qQ ws ms->fin=decide (ns.length<ms.length)->Q (cR ns ms) s->KatLex prog w A b fin Q (us.zip ws) i s
 |_,_,[],[],i,.nil,.nil,e,q=>by subst e;exact kat_nil q
 |_,_,[],m::ms,i,.nil,.cons _ _,e,q=>by subst e;simp only[List.zip_nil_left];refine kat_nil ?_;simpa [cR] using q
 |_,_,n::ns,[],i,.cons _ _,.nil,e,q=>by subst e;simp only[List.zip_nil_right];refine kat_nil ?_;simpa [cR] using q
 |_,_,n::ns,m::ms,i,.cons h1 r1,.cons h2 r2,e,q=>by
  obtain⟨t,rfl⟩:=h1
  obtain⟨t',rfl⟩:=h2
  rw[List.zip_cons_cons];refine kat_cons (wpAny_eqBool_int (kat_go (λhe=>?_) λhe=>?_))
  ·have:n=m:=by simpa using he
   subst this;refine kat_yes (tO (i+1) r1 r2 (by rw[e];simp) ?_)
   simpa [cR] using q
  ·have:n≠m:=by simpa using he
   have q':Q (decide (n<m)) s:=by simpa [cR,this] using q
   refine kat_no ?_
   cases (b&&i==0) with
   |true=>exact oneLt_int q'
   |false=>exact kat_one _ _ (lt_int q')
end
section
variable {prog:Program}{w:World}{A:Around}{R:Result->Shared->Prop}{s:Shared}{elt t1 t2 i1 i2:Expr}{ifs1 ifs2:List Expr}{scope:Scope}{pos:Pos}{it acc:Value}{env:Env}
theorem yZ:compTurn (.ListComp elt [⟨t1,i1,ifs1,0⟩,⟨t2,i2,ifs2,0⟩] scope pos) 1 it acc env=(do
 standAt i2.pos
 match <-pyNext it with
 |none=>pure (.done .next)
 |some v=>
  letOwnedTupleGo t2 it v
  assign t2 env v
  let ok <-hE ifs2 env
  if ok=true then do(do let _ <-call (.builtin "list.append") [acc,<-eval elt env]);again (.compLoop (.ListComp elt [⟨t1,i1,ifs1,0⟩,⟨t2,i2,ifs2,0⟩] scope pos) 1 it acc env)
  else again (.compLoop (.ListComp elt [⟨t1,i1,ifs1,0⟩,⟨t2,i2,ifs2,0⟩] scope pos) 1 it acc env)):=by rfl
theorem v6:compTurn (.ListComp elt [⟨t1,i1,ifs1,0⟩,⟨t2,i2,ifs2,0⟩] scope pos) 0 it acc env=(do
 standAt i1.pos
 match <-pyNext it with
 |none=>pure (.done .next)
 |some v=>
  letOwnedTupleGo t1 it v
  assign t1 env v
  let ok <-hE ifs1 env
  if ok=true then do
   let x <-eval i2 env
   standAt i2.pos
   let x <-foldedSetIterable i2 env x
   let _ <-runOwn (.compStart (.ListComp elt [⟨t1,i1,ifs1,0⟩,⟨t2,i2,ifs2,0⟩] scope pos) 1 (<-holding [x] (pyIter x)) acc env) env
   again (.compLoop (.ListComp elt [⟨t1,i1,ifs1,0⟩,⟨t2,i2,ifs2,0⟩] scope pos) 0 it acc env)
  else again (.compLoop (.ListComp elt [⟨t1,i1,ifs1,0⟩,⟨t2,i2,ifs2,0⟩] scope pos) 0 it acc env)):=by rfl
abbrev mD:=(Shared->Prop)->Shared->Prop
def ly(prog:Program)(w:World)(A:Around)(elt:Expr)(acc:Value)(env:Env):mD:=λQ s=>
 wpAny (model prog w) A (eval elt env) (λx s₄=>wpAny (model prog w) A (call (.builtin "list.append") [acc,x]) (λ_ s₅=>Q s₅) (λ_ _=>False) s₄) (λ_ _=>False) s
def im(prog:Program)(w:World)(A:Around)(e iter:Expr)(acc:Value)(env:Env):mD:=λQ s=>
 wpAny (model prog w) A (eval iter env) (λx s₄=>wpAny (model prog w) A (pyIter x) (λit s₅=>codeAny (model prog w) A (.compStart e 1 it acc env) (λr s'=>match r with
  | .ok _=>Q s'
  | .error _=>False) s₅) (λ_ _=>False) s₄) (λ_ _=>False) s
def jk(prog:Program)(w:World)(A:Around)(code:Code)(tg:Expr)(ifs:List Expr)(it:Value)(env:Env)(TA:mD)(R:Result->Shared->Prop):Prop:= ∀(I:Nat->Shared->Prop),
 (∀n s,I n s->wpAny (model prog w) A (pyNext it) (λr s₁=>match r with
   |none=>R (.ok .next) s₁
   |some v=>wpAny (model prog w) A (letOwnedTupleGo tg it v) (λ_ s₁=>wpAny (model prog w) A (assign tg env v) (λ_ s₂=>
     wpAny (model prog w) A (hE ifs env) (λok s₃=>
      if ok=true then TA (λs₅=> ∃m,m<n/\I m s₅) s₃
      else∃m,m<n/\I m s₃) (λ_ _=>False) s₂) (λ_ _=>False) s₁) (λ_ _=>False) s₁) (λ_ _=>False) s)->
 ∀(n:Nat) (s:Shared),I n s->codeAny (model prog w) A code R s
theorem xb:jk prog w A (.compLoop (.ListComp elt [⟨t1,i1,ifs1,0⟩,⟨t2,i2,ifs2,0⟩] scope pos) 1 it acc env) t2 ifs2 it env (ly prog w A elt acc env) R:=by
 intro I turn n s h;have no: ∀ {E':Value->Shared->Prop} (x:Value) (s:Shared),False->E' x s:=λ_ _ z=>z.elim
 refine codeAny_loop rfl I (λn s hI=>?_) n h
 show wpAny _ A ((compTurn (.ListComp elt [⟨t1,i1,ifs1,0⟩,⟨t2,i2,ifs2,0⟩] scope pos) 1 it acc env).onRaise (λx=>do noteFrame x env;theTreesLotGoes x)) _ _ s
 refine wpAny_noted ?_
 rw[yZ];refine wpAny_bind (wpAny_standAt (wpAny_bind (wpAny_mono (turn n s hI) (λr s₁ h₁=>?_) no)))
 cases r with
 |none=>exact wpAny_pure h₁
 |some v=>
  refine wpAny_bind (wpAny_mono h₁ (λ_ s₁ h₁=>wpAny_bind (wpAny_mono h₁ (λ_ s₂ h₂=>wpAny_bind (wpAny_mono h₂ (λok s₃ h₃=>?_) no)) no)) no)
  cases ok with
  |false=>exact wpAny_pure ⟨rfl,h₃⟩
  |true=>exact wpAny_bind (wpAny_bind (wpAny_mono h₃ (λx s₄ h₄=>wpAny_bind (wpAny_mono h₄ (λ_ s₅ h₅=>wpAny_pure (wpAny_pure ⟨rfl,h₅⟩)) no)) no))
theorem uf(hset: ∀x,foldedSetIterable i2 env x=pure x):jk prog w A (.compLoop (.ListComp elt [⟨t1,i1,ifs1,0⟩,⟨t2,i2,ifs2,0⟩] scope pos) 0 it acc env) t1 ifs1 it env (im prog w A (.ListComp elt [⟨t1,i1,ifs1,0⟩,⟨t2,i2,ifs2,0⟩] scope pos) i2 acc env) R:=by
 intro I turn n s h;have no: ∀ {E':Value->Shared->Prop} (x:Value) (s:Shared),False->E' x s:=λ_ _ z=>z.elim
 refine codeAny_loop rfl I (λn s hI=>?_) n h
 show wpAny _ A ((compTurn (.ListComp elt [⟨t1,i1,ifs1,0⟩,⟨t2,i2,ifs2,0⟩] scope pos) 0 it acc env).onRaise (λx=>do noteFrame x env;theTreesLotGoes x)) _ _ s
 refine wpAny_noted ?_
 rw[v6];refine wpAny_bind (wpAny_standAt (wpAny_bind (wpAny_mono (turn n s hI) (λr s₁ h₁=>?_) no)))
 cases r with
 |none=>exact wpAny_pure h₁
 |some v=>
  refine wpAny_bind (wpAny_mono h₁ (λ_ s₁ h₁=>wpAny_bind (wpAny_mono h₁ (λ_ s₂ h₂=>wpAny_bind (wpAny_mono h₂ (λok s₃ h₃=>?_) no)) no)) no)
  cases ok with
  |false=>exact wpAny_pure ⟨rfl,h₃⟩
  |true=>
   refine wpAny_bind (wpAny_mono h₃ (λx s₄ h₄=>wpAny_bind (wpAny_standAt (wpAny_bind (wpAny_of_eq (hset x) (wpAny_bind (wpAny_holding (wpAny_mono h₄ (λit2 s₅ h₅=>?_) no))))))) no)
   refine wpAny_bind (wpAny_runOwn (codeAny_mono h₅ λr s' hr=>?_))
   cases r with
   |ok f=>exact wpAny_pure ⟨rfl,hr⟩
   |error e=>exact hr.elim
end
def iq(g:FG)(p:FT)(A:FA)(ρ0:aG):List D->Option (List D)
 | []=>some []
 |d::r=>(g d ρ0).bind λρ1=>(p ρ1).bind λb=>if b=true then(A ρ1).bind λys=>(iq g p A ρ0 r).map (ys++ ·) else iq g p A ρ0 r
def yb(n:Nat)(ρ:aG):Prop:= ∀(i:Nat) (s:Sl),n<=i->ρ[i]? =some s->s=.no
def vQ(Y:Cx)(c:Ct)(hid:bn)(D0:Addr)(L W:Hp)(A:FA)(TA:mD)(ρ1:aG):Prop:= ∀(ae:List (Addr×Obj)) (s:Shared) (σ:St) (H:Hp) (xs:List V) (ad zs:List D) (Q:Shared->Prop),Inv Y ae σ H s->SR Y.K c hid ρ1 σ H->
 H D0=some (.lst xs)->Reps Y.K (vw H hid) xs ad->xs.length+zs.length<=sizeLine->Same L H->Same W (vw H hid)->(∀i:Nat,Ow ρ1[i]? ->σ[i]? ≠some (some (.ref D0)))->A ρ1=some zs->
 (∀(s':Shared) (σ':St) (H':Hp) (xs':List V),Inv Y ae σ' H' s'->SR Y.K c hid ρ1 σ' H'->H' D0=some (.lst xs')->Reps Y.K (vw H' hid) xs' (ad++zs)->Same L H'->Same (vw H hid) (vw H' hid)->(∀i:Nat,Ow ρ1[i]? ->σ'[i]? ≠some (some (.ref D0)))->Q s')->TA Q s
section
variable {Y:Cx}{c:Ct}{tg:Expr}{ifs:List Expr}{g:FG}{p:FT}{A:FA}{TA:mD}{code:Code}
structure CLG(Y:Cx)(ae:List (Addr×Obj))(c:Ct)(hid:bn)(ρ0:aG)(L W H3:Hp)(D0:Addr)(fp:List Addr)(tn:Nat->Heap->Prop)(g:FG)(p:FT)(A:FA)(ds ys ad0:List D)(n i:Nat)(xs:List V)(ad:List D)(σ':St)(H':Hp)(s':Shared):Prop where
 e:n=ds.length-i
 hi:i<=ds.length
 I:Inv Y ae σ' H' s'
 st:tn i s'.heap
 fr: ∀b∈fp,H' b=none
 sr:SR Y.K c hid ρ0 σ' H'
 sm:Same L H'
 ac:H' D0=some (.lst xs)
 rp:Reps Y.K (vw H' hid) xs ad
 w:Same W (vw H' hid)
 v:Same (vw H3 hid) (vw H' hid)
 na: ∀i:Nat,Ow ρ0[i]? ->σ'[i]? ≠some (some (.ref D0))
 go: ∃rest,iq g p A ρ0 (ds.drop i)=some rest/\ad++rest=ad0++ys
theorem o7(hcalm:Y.calm=true)(hxe:Y.xe=λ_ _=>False){n0:Nat}(hT:fz n0 g)(hg:kZ Y c tg g)(hp:lP Y c ifs p)
 {ae:List (Addr×Obj)} {σ3:St} {H3 L W:Hp} {s4:Shared} {hid:bn} {ρ0:aG} {J:It} {it D0:Addr} {fp:List Addr} {tn:Nat->Heap->Prop} {ds ys ad0:List D} {xs0:List V} {R:Result->Shared->Prop}
 (hA: ∀d ρ1,g d ρ0=some ρ1->vQ Y c hid D0 L W A TA ρ1)
 (hN:yb n0 ρ0) (I:Inv Y ae σ3 H3 s4) (sr:SR Y.K c hid ρ0 σ3 H3) (hh:hid D0=true) (na: ∀i:Nat,Ow ρ0[i]? ->σ3[i]? ≠some (some (.ref D0))) (hacc:H3 D0=some (.lst xs0)) (rp0:Reps Y.K (vw H3 hid) xs0 ad0) (sm:Same L H3) (wv:Same W (vw H3 hid)) (T:Turn Y.prog Y.w Y.K tg J fp it tn) (st:tn 0 s4.heap) (hF: ∀b∈fp,gA Y ae H3 b)
 (io:yB Y.K L W J ds) (hz:ad0.length+ys.length<=sizeLine) (hc:iq g p A ρ0 ds=some ys)
 (hTP:jk Y.prog Y.w Y.A code tg ifs (.ref it) Y.env TA R)
 (hR: ∀(s':Shared) (σ':St) (H':Hp) (xs:List V),Inv Y ae σ' H' s'->SR Y.K c hid ρ0 σ' H'->Same L H'->H' D0=some (.lst xs)->Reps Y.K (vw H' hid) xs (ad0++ys)->Same (vw H3 hid) (vw H' hid)->(∀i:Nat,Ow ρ0[i]? ->σ'[i]? ≠some (some (.ref D0)))->R (.ok .next) s'):
 codeAny (model Y.prog Y.w) Y.A code R s4:=by
 have stat: ∀ {H':Hp},(∀b∈fp,H' b=none)-> ∀b∈fp,gA Y ae H' b:=λ{H'} hn b hb=>⟨hn b hb,(hF b hb).2⟩
 refine hTP (λn s'=> ∃(i:Nat) (xs:List V) (ad:List D) (σ':St) (H':Hp),CLG Y ae c hid ρ0 L W H3 D0 fp tn g p A ds ys ad0 n i xs ad σ' H' s') ?_ ds.length s4
  ⟨0,xs0,ad0,σ3,H3,by simp,Nat.zero_le _,I,st,λb hb=>(hF b hb).1,sr,sm,hacc,rp0,wv,Same.refl _,na,ys,by simpa using hc,rfl⟩
 rintro n s5 ⟨i,xs,ad,σ5,H5,rfl,hi,I5,st5,f5,sr5,sm5,ac5,rp5,w5,v5,na5,rest,hc5,hy5⟩
 have wH:Same W H5:=w5.trans (dE _ _)
 by_cases hlt:i<ds.length
 ·have hd:ds[i]? =some ds[i]:=List.getElem?_eq_getElem hlt
  have e2:ds.drop i=ds[i]::ds.drop (i+1):=List.drop_eq_getElem_cons hlt
  rw[e2] at hc5;unfold iq at hc5;obtain⟨go,yl⟩:=io.1 i ds[i] H5 hd sm5 wH
  refine bq (T.item Y rfl rfl rfl hcalm i ae s5 σ5 H5 (λ_ _=>False) I5 (stat f5) st5 go) λr s6 hq_=>?_
  obtain⟨u,hr,h6⟩:=hq_
  subst hr;refine bq h6 λ_ s7 hq_=>?_
  obtain⟨x,H7,I7,r7,y7,st7,f7⟩:=hq_
  obtain⟨s7',rp⟩:=yl x H7 y7
  have rx:=rp hid sr5.tr w5
  have I7':=I7.pinned (stat f7) (T.obj _ _ st7)
  cases e3:g ds[i] ρ0 with
  |none=>rw[e3] at hc5;cases hc5
  |some ρ1=>
   rw[e3] at hc5;have hc5:(p ρ1).bind (λb=>if b=true then(A ρ1).bind λys=>(iq g p A ρ0 (ds.drop (i+1))).map (ys++ ·) else iq g p A ρ0 (ds.drop (i+1)))=some rest:=hc5
   obtain⟨tl1,tl2⟩:=hT _ _ _ e3
   have fg: ∀ {σ':St} {H':Hp},SR Y.K c hid ρ1 σ' H'->SR Y.K c hid ρ0 σ' H':=λ{σ' H'} z=>z.forget tl1 λj s e=>by
    by_cases hj:j<n0
    ·exact .inr ((tl2 j hj).trans e)
    ·exact .inl (hN j s (by omega) e)
   have ow01: ∀j:Nat,Ow ρ0[j]? ->Ow ρ1[j]? :=λj o=>by
    by_cases hj:j<n0
    ·rw[tl2 j hj];exact o
    ·exfalso
     cases e:ρ0[j]? with
     |none=>rw[e] at o;exact o
     |some s=>have:=hN j s (by omega) e;subst this;rw[e] at o;exact o
   have keepT: ∀ {σ':St} {H':Hp} {s':Shared},Inv Y (ae++i0 fp s7.heap) σ' H' s'->tn (i+1) s'.heap/\ ∀b∈fp,H' b=none:=λ{σ' H' s'} J'=>by
    refine⟨T.keep _ _ _ st7 λb hb o e=>(J'.pin (b,o) (List.mem_append_right _ (List.mem_append_right _ (cQ hb e)))).1,λb hb=>?_⟩
    obtain⟨o,e,_⟩:=T.obj _ _ st7 b hb
    exact(J'.pin (b,o) (List.mem_append_right _ (List.mem_append_right _ (cQ hb e)))).2.1
   refine bq (hxe▸hg hid ρ0 ds[i] _ s7 σ5 H7 x u (λσ' H'=>H'=H7/\SR Y.K c hid ρ1 σ' H7/\OwK ρ0 ρ1 σ5 σ') I7' r7 ⟨sr5.ext s7',rx,ρ1,e3,λσ' z o=>⟨rfl,z,o⟩⟩) λ_ s8 hq_=>?_
   obtain⟨σ8,H8,I8,e8,q8,o8⟩:=hq_
   subst e8;have na1: ∀j:Nat,Ow ρ1[j]? ->σ8[j]? ≠some (some (.ref D0)):=λj o=>by
    rw[(o8 j o).2];exact na5 j (o8 j o).1
   cases e4:p ρ1 with
   |none=>rw[e4] at hc5;cases hc5
   |some b=>
    rw[e4] at hc5;have hc5:(if b=true then(A ρ1).bind λys=>(iq g p A ρ0 (ds.drop (i+1))).map (ys++ ·) else iq g p A ρ0 (ds.drop (i+1)))=some rest:=hc5
    refine bq (hxe▸hp hid ρ1 _ s8 σ8 H8 (λb' H'=>b'=b/\Same H8 H') I8 ⟨q8,b,e4,λH' s'=>⟨rfl,s'⟩⟩) λok s9 hq_=>?_
    obtain⟨H9,I9,e9,sm9⟩:=hq_
    subst e9;have w9:Same (vw H5 hid) (vw H9 hid):=aI (s7'.trans sm9)
    cases ok with
    |false=>
     have hc5:iq g p A ρ0 (ds.drop (i+1))=some rest:=hc5
     obtain⟨k1,k2⟩:=keepT I9
     exact⟨ds.length- (i+1),by omega,i+1,xs,ad,σ8,H9,rfl,hlt,I9.unpinned,k1,k2,fg (q8.ext sm9),sm5.trans (s7'.trans sm9),sm9 _ _ (s7' _ _ ac5),rp5.mono w9,w5.trans w9,v5.trans w9,λj o=>na1 j (ow01 j o),rest,hc5,hy5⟩
    |true=>
     have hc5:((A ρ1).bind λys=>(iq g p A ρ0 (ds.drop (i+1))).map (ys++ ·))=some rest:=hc5
     cases e5:A ρ1 with
     |none=>rw[e5] at hc5;cases hc5
     |some zs=>
      rw[e5] at hc5;have hc5:(iq g p A ρ0 (ds.drop (i+1))).map (zs++ ·)=some rest:=hc5
      cases e6:iq g p A ρ0 (ds.drop (i+1)) with
      |none=>rw[e6] at hc5;cases hc5
      |some rest'=>
       rw[e6] at hc5;cases hc5
       have l1:=rp5.length
       have l2:=congrArg List.length hy5
       simp only[List.length_append] at l2;refine hA ds[i] ρ1 e3 _ s9 σ8 H9 xs ad zs _ I9 (q8.ext sm9) (sm9 _ _ (s7' _ _ ac5)) (rp5.mono w9) (by omega) (sm5.trans (s7'.trans sm9)) (w5.trans w9) na1 e5 λs10 σ10 H10 xs' I10 q10 a10 rp10 smL v10 na10=>?_
       obtain⟨k1,k2⟩:=keepT I10
       exact⟨ds.length- (i+1),by omega,i+1,xs',ad++zs,σ10,H10,rfl,hlt,I10.unpinned,k1,k2,fg q10,smL,a10,rp10,(w5.trans w9).trans v10,(v5.trans w9).trans v10,λj o=>na10 j (ow01 j o),rest',e6,by rw[<-hy5];simp⟩
 ·have e:i=ds.length:=by omega
  subst e;rw[List.drop_eq_nil_of_le (Nat.le_refl _)] at hc5;cases hc5
  rw[List.append_nil] at hy5;subst hy5;refine bq (T.done Y rfl rfl rfl hcalm ds.length ae s5 σ5 H5 (λ_ _=>False) I5 (stat f5) st5 (io.2 H5 sm5 wH)) λr s6 hq_=>?_
  obtain⟨hr,I6⟩:=hq_
  subst hr;exact hR s6 σ5 H5 xs I6 sr5 sm5 ac5 rp5 v5 na5
end
def pH(f:FE):FA:=λρ=>(f ρ).map λd=>[d]
def xr(gi:FA)(g:FG)(p:FT)(f:FE):FA:=λρ1=>(gi ρ1).bind λds=>iq g p (pH f) ρ1 ds
def rS(m:Nat)(gi1:FA)(g1:FG)(p1:FT)(gi2:FA)(g2:FG)(p2:FT)(f:FE):FE:=λρ=>(gi1 ρ).bind λds=>(iq g1 p1 (xr gi2 g2 p2 f) (ρ++List.replicate m .no) ds).bind λys=>if ys.length<=sizeLine then some (.lst ys) else none
theorem uR {m:Nat}{gi1 gi2:FA}{g1 g2:FG}{p1 p2:FT}{f:FE}{ρ:aG}{d:D}(h:rS m gi1 g1 p1 gi2 g2 p2 f ρ=some d): ∃ds ys,gi1 ρ=some ds/\iq g1 p1 (xr gi2 g2 p2 f) (ρ++List.replicate m .no) ds=some ys/\ys.length<=sizeLine/\d=.lst ys:=by
 unfold rS at h;cases e1:gi1 ρ with
 |none=>rw[e1] at h;cases h
 |some ds=>
  rw[e1] at h;dsimp only[Option.bind] at h;cases e2:iq g1 p1 (xr gi2 g2 p2 f) (ρ++List.replicate m .no) ds with
  |none=>rw[e2] at h;cases h
  |some ys=>
   rw[e2] at h;dsimp only at h;split at h
   ·cases h;exact⟨ds,ys,rfl,e2, ‹_›,rfl⟩
   ·cases h
def qH(n:Nat)(g:FG):Prop:= ∀d (ρ0 ρ1:aG),g d ρ0=some ρ1-> ∀i:Nat,n<=i->ρ1[i]? =ρ0[i]?
def su(n:Nat)(g:oN):Prop:= ∀d (ρ0 ρ1:aG),g d ρ0=some ρ1-> ∀i:Nat,n<=i->ρ1[i]? =ρ0[i]?
theorem yd {n i:Nat}(h:i<n):qH n (gN i):=λd ρ0 ρ1 e=>by
 cases e
 exact λj hj=>List.getElem?_set_ne (by omega)
theorem xI {n:Nat}:su n kG:=λd ρ0 ρ1 e=>by
 unfold kG at e;split at e
 ·cases e;exact λ_ _=>rfl
 ·cases e
theorem qt {n:Nat}{g:FG}{gs:oN}(h1:qH n g)(h2:su n gs):su n (gV g gs):=λd ρ0 ρ1 e=>by
 cases d with
 |nil=>cases e
 |cons d ds=>
  have e:(g d ρ0).bind (λρ'=>gs ds ρ')=some ρ1:=e
  cases e1:g d ρ0 with
  |none=>rw[e1] at e;cases e
  |some ρ2=>
   rw[e1] at e;exact λi hi=>(h2 ds ρ2 ρ1 e i hi).trans (h1 d ρ0 ρ2 e1 i hi)
theorem CM {n m:Nat}{gs:oN}(h:su n gs):qH n (gT m gs):=λd ρ0 ρ1 e=>by
 unfold gT at e;split at e
 ·split at e
  ·exact h _ _ _ e
  ·cases e
 ·cases e
section
variable {prog:Program}{w:World}{A:Around}{R:Result->Shared->Prop}{s:Shared}{elt t1 t2 i1 i2:Expr}{ifs1 ifs2:List Expr}{scope:Scope}{pos:Pos}{it acc:Value}{env:Env}
theorem vd
 (h0:codeAny (model prog w) A (.compLoop (.ListComp elt [⟨t1,i1,ifs1,0⟩,⟨t2,i2,ifs2,0⟩] scope pos) 1 it acc env) R s)
 (h:wpAny (model prog w) A (pyIter it) (λit' s'=>codeAny (model prog w) A (.compLoop (.ListComp elt [⟨t1,i1,ifs1,0⟩,⟨t2,i2,ifs2,0⟩] scope pos) 1 it' acc env) R s')
   (notedBy (model prog w) A env λx s'=>R (.error x) s') s):
 codeAny (model prog w) A (.compStart (.ListComp elt [⟨t1,i1,ifs1,0⟩,⟨t2,i2,ifs2,0⟩] scope pos) 1 it acc env) R s:=by
 refine codeAny_of_tree (show wpAny _ _ ((compStart (.ListComp elt [⟨t1,i1,ifs1,0⟩,⟨t2,i2,ifs2,0⟩] scope pos) 1 it acc env).onRaise (λx=>do noteFrame x env;standAt theWindowsPlace)) _ _ s from wpAny_notedAt ?_)
 unfold compStart;show wpAny _ _ (ask>>=_) _ _ s;refine wpAny_bind (wpAny_askSetting (wpAny_ite ?_))
 split
 ·first
   |exact wpAny_bind (wpAny_pure (wpAny_pure (And.intro rfl h0)))
   |exact wpAny_pure (And.intro rfl h0)
 ·first
   |exact wpAny_bind (wpAny_rule (wpAny_bind (wpAny_standAt (wpAny_bind (wpAny_mono h (λit' s' h'=>wpAny_pure (And.intro rfl h')) λ_ _ x=>x)))))
   |(refine wpAny_bind (wpAny_rule ?_);show wpAny _ _ (standAt i2.pos>>=_) _ _ s;exact wpAny_bind (wpAny_standAt (wpAny_bind (wpAny_mono h (λit' s' h'=>wpAny_pure (And.intro rfl h')) λ_ _ x=>x))))
end
section
variable {Y:Cx}{c:Ct}{elt t1 t2 i1 i2:Expr}{ifs1 ifs2:List Expr}{scope:Scope}{pos:Pos}{f:FE}{g2:FG}{p2:FT}{gi2:FA}{hid:bn}{D0:Addr}{L W:Hp}{ρ1:aG}
theorem xo(hxe:Y.xe=λ_ _=>False)(he:DP Y c .s elt f)(hh:hid D0=true)(h00:c.H₀ D0=none)(nD:L D0=none):vQ Y c hid D0 L W (pH f) (ly Y.prog Y.w Y.A elt (.ref D0) Y.env) ρ1:=by
 intro ae s σ H xs ad zs Q I sr ac rp hz smL wv na hA hQ;unfold pH at hA;cases e5:f ρ1 with
 |none=>rw[e5] at hA;cases hA
 |some y=>
  rw[e5] at hA;cases hA;unfold ly;refine bq (hxe▸he hid ρ1 _ s σ H (λv H'=>Same H H'/\Rep Y.K (vw H' hid) v y) I ⟨sr,y,e5,λv H' s' r=>⟨s',r⟩⟩) λv s10 hq_=>?_
  obtain⟨z,H10,I10,rz,sm10,rp10⟩:=hq_
  have a10:H10 D0=some (.lst xs):=sm10 _ _ ac
  refine bq (hxe▸cg (X:=Y) _ s10 σ H10 (.ref D0) [z] (.ref D0) [v] (λ_ H'=>H'=bd H10 D0 (.lst (xs++[z]))) I10 rfl (.cons rz .nil) ⟨D0,xs,z,rfl,rfl,a10,by simp at hz;omega,rfl⟩) λ_ s11 ⟨_,H11,I11,_,e11⟩=>?_
  subst e11;have vv:vw (bd H10 D0 (.lst (xs++[z]))) hid=vw H10 hid:=cv hh
  have w10:Same (vw H hid) (vw H10 hid):=aI sm10
  refine hQ s11 σ _ (xs++[z]) I11 ((sr.ext sm10).write hh h00 na a10) aE ?_ (λb o e=>?_) ?_ na
  ·rw[vv];exact(rp.mono w10).append (.cons rp10 .nil)
  ·rw[aC (aT e nD)];exact sm10 _ _ (smL _ _ e)
  ·rw[vv];exact w10
theorem uk(hcalm:Y.calm=true)(hxe:Y.xe=λ_ _=>False){n1:Nat}(hT:fz n1 g2)(hN:yb n1 ρ1)(hi:DIp Y c t2 i2 gi2)(hg:kZ Y c t2 g2)(hp:lP Y c ifs2 p2)(he:DP Y c .s elt f)(hh:hid D0=true)(h00:c.H₀ D0=none)(nD:L D0=none):
 vQ Y c hid D0 L W (xr gi2 g2 p2 f) (im Y.prog Y.w Y.A (.ListComp elt [⟨t1,i1,ifs1,0⟩,⟨t2,i2,ifs2,0⟩] scope pos) i2 (.ref D0) Y.env) ρ1:=by
 intro ae s σ H xs ad zs Q I sr ac rp hz smL wv na hA hQ;unfold xr at hA;cases e5:gi2 ρ1 with
 |none=>rw[e5] at hA;cases hA
 |some ds=>
  rw[e5] at hA;have hA:iq g2 p2 (pH f) ρ1 ds=some zs:=hA
  unfold im;refine bq (hxe▸hi hid ρ1 ae s σ H (λJ H'=>Same H H'/\ItOk Y.K (vw H' hid) J ds) I ⟨sr,ds,e5,λJ H' s1 io=>⟨s1,io⟩⟩) λv s1 h1=>bq h1 λitv s2 h2=>?_
  obtain⟨it,fp,tn,J,H2,rfl,I2,T,st2,f2,sm,io⟩:=h2
  have l1:=rp.length
  have loop:codeAny (model Y.prog Y.w) Y.A (.compLoop (.ListComp elt [⟨t1,i1,ifs1,0⟩,⟨t2,i2,ifs2,0⟩] scope pos) 1 (.ref it) (.ref D0) Y.env) (λr s'=>match r with
   | .ok _=>Q s'
   | .error _=>False) s2:=by
   refine o7 (L:=L) (W:=vw H2 hid) (ad0:=ad) (xs0:=xs) (A:=pH f) (TA:=ly Y.prog Y.w Y.A elt (.ref D0) Y.env) hcalm hxe hT hg hp (λd ρ2 _=>xo hxe he hh h00 nD) hN I2 (sr.ext sm) hh na (sm _ _ ac) (rp.mono (aI sm)) (smL.trans sm) (Same.refl _) T st2 f2 io.b (by omega) hA xb ?_
   intro s' σ' H' xs' I' sr' smL' ac' rp' v' na';exact hQ s' σ' H' xs' I' sr' ac' rp' smL' ((aI sm).trans v') na'
  exact vd loop (T.self Y.A 0 _ _ _ st2 loop)
end
section
variable {X:Cx}{c:Ct}{elt t1 t2 i1 i2:Expr}{ifs1 ifs2:List Expr}{scope:Scope}{pos:Pos}{N':List Str}{m n1:Nat}{gi1 gi2:FA}{g1 g2:FG}{p1 p2:FT}{f:FE}
theorem pN(hcalm:X.calm=true)(hk:scope.kind=.function)(hs:oR scope X.env.scope=true)(hn:pk X.N N' scope=true)(hm:N'.length-X.N.length=m)(hT1:fz X.N.length g1)(hU1:qH n1 g1)(hn1:X.N.length<=n1)(hT2:fz n1 g2)
 (hset: ∀C s₀ H₀ ex,∀x,foldedSetIterable i2 (av X N' scope C s₀ H₀ ex).env x=pure x)
 (hg1: ∀C s₀ H₀ ex,kZ (av X N' scope C s₀ H₀ ex) c t1 g1) (hp1: ∀C s₀ H₀ ex,lP (av X N' scope C s₀ H₀ ex) c ifs1 p1) (hi2: ∀C s₀ H₀ ex,DIp (av X N' scope C s₀ H₀ ex) c t2 i2 gi2)
 (hg2: ∀C s₀ H₀ ex,kZ (av X N' scope C s₀ H₀ ex) c t2 g2) (hp2: ∀C s₀ H₀ ex,lP (av X N' scope C s₀ H₀ ex) c ifs2 p2) (he: ∀C s₀ H₀ ex,DP (av X N' scope C s₀ H₀ ex) c .s elt f)
 {E:Value->Shared->Prop} {ae:List (Addr×Obj)} {σ:St} {H:Hp} {s:Shared} {hid:bn} {ρ:aG} {J:It} {it:Addr} {fp:List Addr} {tn:Nat->Heap->Prop} {ds ys:List D} {RR:Value->Addr->Result->Shared->Prop}
 (I:Inv X ae σ H s) (sr:SR X.K c hid ρ σ H) (T:Turn X.prog X.w X.K t1 J fp it tn) (st:tn 0 s.heap) (hF: ∀b∈fp,gA X ae H b) (io:yB X.K H (vw H hid) J ds) (hz:ys.length<=sizeLine) (hc:iq g1 p1 (xr gi2 g2 p2 f) (ρ++List.replicate m .no) ds=some ys)
 (hR: ∀(D C:Addr) (s':Shared) (H':Hp) (xs:List V),s.heap.objs.size<=D->s.heap.objs.size<=C->D≠C->H D=none->Same H H'->H' D=some (.lst xs)->Reps X.K (vw H' (bj hid D)) xs ys->(∃m,s'.heap.Ns C m)->H' C=none->s'.os=s.os->AllBare s'.gens->HOk X.prog X.w H' s'.heap->Un (mC X.stack) fp H H' s.heap s'.heap->RR (.ref D) C (.ok .next) s'):
 wpAny (model X.prog X.w) X.A (newList []) (λacc s₃=>wpAny (model X.prog X.w) X.A (newFunctionEnv scope X.env.globals (nP X.env.cells scope.names []) [] X.env.qual none .none (some X.env)) (λcenv s₄=>
  codeAny (model X.prog X.w) X.A (.compStart (.ListComp elt [⟨t1,i1,ifs1,0⟩,⟨t2,i2,ifs2,0⟩] scope pos) 0 (.ref it) acc {cenv with scope:=relabel scope X.env}) (RR acc cenv.locals) s₄) E s₃) E s:=by
 refine wpAny_newObj_type (nS λh₁ hns₁ kp1 oc₁=>?_)
 dsimp only at hns₁ kp1 oc₁⊢
 generalize hH2:s.heap.push {cls:=.type "list",dict:=none,data:=.seq ([]:List Value).toArray}=H2 at hns₁ kp1 oc₁⊢
 have hC:H2.objs.size=s.heap.objs.size+1:=by rw[<-hH2,Heap.size_push]
 have hD:H s.heap.objs.size=none:=I.hok.fresh (Nat.le_refl _)
 have I2:Inv X ae σ (bd H s.heap.objs.size (.lst [])) {s with heap:=H2}:=by
  rw[<-hH2];exact I.laid (t':=s.toks) (λb o e=>Heap.get?_push_of_some _ e) (Nat.le_refl _) ⟨Nat.zero_le _,[],0,.nil,Heap.get?_push_size _ rfl⟩
 have fpLt: ∀b∈fp,b<s.heap.objs.size:=λb hb=>let⟨o,e,_⟩:=T.obj 0 s.heap st b hb;Heap.lt_size e
 have hF2: ∀b∈fp,gA X ae (bd H s.heap.objs.size (.lst [])) b:=λb hb=>⟨by rw[aC (Nat.ne_of_lt (fpLt b hb))];exact(hF b hb).1,(hF b hb).2⟩
 have kp0: ∀b o,s.heap.get? b=some o->H2.get? b=some o:=λb o e=>by rw[<-hH2];exact Heap.get?_push_of_some _ e
 have IY:=lw (tk:=s.toks) (N':=N') (fp:=fp) I2 hF2 (λb hb=>let⟨o,e,_⟩:=T.obj 0 s.heap st b hb;⟨o,kp0 b o e⟩) hk hs hn hns₁ kp1 oc₁
 rw[hm] at IY;dsimp only at IY;have sr0:SR X.K c (bj hid s.heap.objs.size) (ρ++List.replicate m .no) (σ++List.replicate m none) (bd H s.heap.objs.size (.lst [])):=(sr.hide (bh hD _) hD aE).more m
 have hρ:ρ.length=X.N.length:=by rw[<-sr.len];exact I.len
 have nf:hid s.heap.objs.size=false:=sr.fresh hD
 have st1:tn 0 h₁:=T.keep _ _ _ st λb hb o e=>kp1 b o (kp0 b o e)
 have na0: ∀i:Nat,Ow (ρ++List.replicate m Sl.no)[i]? ->(σ++List.replicate m none)[i]? ≠some (some (V.ref s.heap.objs.size)):=(sr.more m).notOw nf
 have wv:Same (vw H hid) (vw (bd H s.heap.objs.size (.lst [])) (bj hid s.heap.objs.size)):=by rw[oA hD];exact Same.refl _
 have nos:yb X.N.length (ρ++List.replicate m Sl.no):=λi s hi e=>by
  rw[List.getElem?_append_right (by omega),List.getElem?_replicate] at e
  split at e
  ·cases e;rfl
  ·cases e
 have loop: ∀s4:Shared,s4={s with heap:=h₁,toks:=s.toks}->
  codeAny (model X.prog X.w) X.A (.compLoop (.ListComp elt [⟨t1,i1,ifs1,0⟩,⟨t2,i2,ifs2,0⟩] scope pos) 0 (.ref it) (.ref s.heap.objs.size) (compEnvC scope (jS X.env.cells scope H2.objs.size) H2.objs.size X.env)) (RR (.ref s.heap.objs.size) H2.objs.size) s4:=by
  rintro s4 rfl
  have fpY: ∀b∈fp,gA (av X N' scope H2.objs.size {s with heap:=H2} (bd H s.heap.objs.size (.lst [])) fp) [] (bd H s.heap.objs.size (.lst [])) b:=λb hb=>
   ⟨(hF2 b hb).1,(IY.ok.exf b hb).1,IY.ok.exfs b hb,.inl hb,(IY.ok.exf b hb).2,λq hq=>by have hq':q∈([]:List (Addr×Obj))++[]:=hq;simp at hq'⟩
  refine o7 (Y:=av X N' scope H2.objs.size {s with heap:=H2} (bd H s.heap.objs.size (.lst [])) fp) (L:=H) (hid:=bj hid s.heap.objs.size) (W:=vw H hid) (ad0:=[]) (xs0:=[]) (A:=xr gi2 g2 p2 f) (TA:=im X.prog X.w X.A (.ListComp elt [⟨t1,i1,ifs1,0⟩,⟨t2,i2,ifs2,0⟩] scope pos) i2 (.ref s.heap.objs.size) (compEnvC scope (jS X.env.cells scope H2.objs.size) H2.objs.size X.env))
   hcalm rfl hT1 (hg1 _ _ _ _) (hp1 _ _ _ _) (λd ρ1 e=>uk (Y:=av X N' scope H2.objs.size {s with heap:=H2} (bd H s.heap.objs.size (.lst [])) fp) hcalm rfl hT2 (λi s hi e'=>?_) (hi2 _ _ _ _) (hg2 _ _ _ _) (hp2 _ _ _ _) (he _ _ _ _) bR (sr.fresh0 hD) hD) nos IY sr0 bR na0 aE .nil (bh hD _) wv T st1 fpY io (by simpa using hz) hc (uf (hset H2.objs.size {s with heap:=H2} (bd H s.heap.objs.size (.lst [])) fp)) ?_
  ·rw[hU1 _ _ _ e i hi] at e'
   exact nos i s (by omega) e'
  ·intro s' σ' H' xs I' _ sm' hx' rp' _ _
   have un1:Un (mC X.stack) fp H (bd H s.heap.objs.size (.lst [])) s.heap H2:=Un.laid (λb o e=>kp0 b o e) (Nat.le_refl _) hD
   exact hR s.heap.objs.size H2.objs.size s' H' xs (Nat.le_refl _) (by rw[hC];exact Nat.le_succ _) (by rw[hC];exact Nat.ne_of_lt (Nat.lt_succ_self _)) hD sm' hx' rp' (let⟨m,hm,_⟩:=I'.loc;⟨m,hm⟩) I'.free I'.os I'.bare I'.hok (un1.trans I'.base)
 exact codeAny_compStart_list (loop _ rfl) (T.self X.A 0 _ _ _ st1 (loop _ rfl))
theorem qf(hcalm:X.calm=true)(n1:Nat)(hT1:fz X.N.length g1)(hU1:qH n1 g1)(hT2:fz n1 g2)(hi:xu X c t1 i1 gi1)
 (hg1: ∀C s₀ H₀ ex,kZ (av X N' scope C s₀ H₀ ex) c t1 g1) (hp1: ∀C s₀ H₀ ex,lP (av X N' scope C s₀ H₀ ex) c ifs1 p1) (hi2: ∀C s₀ H₀ ex,DIp (av X N' scope C s₀ H₀ ex) c t2 i2 gi2)
 (hg2: ∀C s₀ H₀ ex,kZ (av X N' scope C s₀ H₀ ex) c t2 g2) (hp2: ∀C s₀ H₀ ex,lP (av X N' scope C s₀ H₀ ex) c ifs2 p2) (he: ∀C s₀ H₀ ex,DP (av X N' scope C s₀ H₀ ex) c .s elt f)
 (hk:scope.kind=.function:=by rfl) (hs:oR scope X.env.scope=true:=by kernel_rfl) (hn:pk X.N N' scope=true:=by kernel_rfl) (hm:N'.length-X.N.length=m:=by rfl) (hn1:X.N.length<=n1:=by exact Nat.le_of_ble_eq_true rfl) (hset: ∀x,foldedSetIterable i1 X.env x=pure x:=by intro _;rfl)
 (hset2: ∀C s₀ H₀ ex,∀x,foldedSetIterable i2 (av X N' scope C s₀ H₀ ex).env x=pure x:=by intros;rfl):
 DP X c .n (.ListComp elt [⟨t1,i1,ifs1,0⟩,⟨t2,i2,ifs2,0⟩] scope pos) (rS m gi1 g1 p1 gi2 g2 p2 f):=by
 intro hid ρ ae s σ H Q I hq;obtain⟨sr,d,hd,q⟩:=hq
 obtain⟨ds,ys,e1,hc,hz,rfl⟩:=uR hd
 rw[eval_ListComp];refine wpAny_comprehension_free (use:=none) rfl hset (cT λx hx=>I.ok.has x (fH hs x hx)) hk (gU hs) ?_
 refine bq (hi hid ρ ae s σ H (λJ H'=>Same H H'/\yB X.K H' (vw H' hid) J ds) I ⟨sr,ds,e1,λJ H' s1 io=>⟨s1,io⟩⟩) λv s1 h1=>bq h1 λitv s2 h2=>?_
 obtain⟨it,fp,tn,J,H2,rfl,I2,T,st2,f2,sm,io⟩:=h2
 refine pN (RR:=λacc C=>compPost (model X.prog X.w) X.A X.xe none (EP X ae σ Q) acc C) hcalm hk hs hn hm hT1 hU1 hn1 hT2 hset2 hg1 hp1 hi2 hg2 hp2 he I2 (sr.ext sm) T st2 f2 io hz hc ?_
 intro D C s' H' xs hDge hCge hDC hD sm' hx rp ⟨mm,hns⟩ hC' hos hbare hok hun;refine⟨mm,hns,λh' hsb=>⟨.ref D,H',?_,rfl,q _ H' (sm.trans sm') ⟨D,xs,ys,rfl,rfl,sm.free hD,hx,rp⟩⟩⟩
 have neC: ∀b o,s2.heap.get? b=some o->b≠C:=λb o e z=>by subst z;exact absurd (Heap.lt_size e) (Nat.not_lt.mpr hCge)
 have hun':Un (mC X.stack) fp H2 H' s2.heap h':=⟨λb o e n h1 h2=>(hsb.2 b (neC b o e)).trans (hun.keep b o e n h1 h2),λb o e n h1 h2=>let⟨sl,z⟩:=hun.slot b o e n h1 h2;⟨sl,(hsb.2 b (neC b o e)).trans z⟩,hun.free,λb o e h2=>let⟨o',z⟩:=hun.there b o e h2;⟨o',(hsb.2 b (neC b o e)).trans z⟩,hun.tups,hun.frzs,hun.tbls⟩
 have hok':HOk X.prog X.w H' h':=λb o e=>by
  have nb: ∀b' o',H' b'=some o'->b'≠C:=λb' o' e' z=>by subst z;rw[hC'] at e';cases e'
  refine(hok b o e).stay (λc' u hc' z=>(hsb.2 c' ?_).trans z) (λ_ z=>z) λ_ _ z=>z
  rcases hc' with z'|z'
  ·rw[z'];exact nb b o e
  ·exact nb c' _ z'
 exact I2.call' (s':={s' with heap:=h'}) (ch:=fp) hos hun' hok' hbare λb hb=>⟨(f2 b hb).2.2.2.1,(f2 b hb).2.1,(f2 b hb).2.2.2.2.1,(f2 b hb).2.2.2.2.2⟩
end
end L2
namespace PySem
open Sem (wp)
open AutoSeq1 (wpAny_loadPart')
end PySem
namespace L2
open PySem PySem.Spec PyProof.Rows
section
variable {X:Cx}{c:Ct}{k:Kd}{es:List Expr}{x1:Nat}{tp pos p:Pos}
def qd(ds:List D):List D:=(List.range ds.length).map λ(i:Nat)=>D.tup [.int i,ds.getD i .non]
end
open PySem PySem.W PySem.Calls PyProof.Rows
def AL {α:Type}(d:α)(n:Nat):Option α:=if n<=sizeLine then some d else none
def DK {α:Type}(d:α)(n:Nat):Option α:=if n<sizeLine then some d else none
theorem dC {α:Type}{d:α}{n:Nat}(h:n<=1000):AL d n=some d:=if_pos (Nat.le_of_lt (iF h))
theorem mQ {α:Type}{d:α}{n:Nat}(h:n<=1000):DK d n=some d:=if_pos (iF h)
theorem yP(fs:FA)(ρ:aG):df fs ρ=(fs ρ).bind λds=>AL (.tup ds) ds.length:=rfl
theorem jw(fs:FA)(ρ:aG):cq fs ρ=(fs ρ).bind λds=>AL (.lst ds) ds.length:=rfl
theorem vq(m:Nat)(gi:FA)(g:FG)(p:FT)(f:FE)(ρ:aG):aO m gi g p f ρ=(gi ρ).bind λds=>(AL () ds.length).bind λ_=>(db g p f (ρ++List.replicate m .no) ds).map D.lst:=by
 unfold aO AL;congr 1;funext ds
 split<;>rfl
theorem tI(bs:List D)(d:D):fL bs [d]=DK (.non,bs++[d]) bs.length:=rfl
theorem yj(bs:List D)(i:Int):mF bs [.int i]=(AL () bs.length).bind λ_=>(mn bs.length i).bind λj=>(bs[j]?).map λd=>(d,bs.eraseIdx j):=by
 unfold mF AL;dsimp only;split
 ·rename_i j e
  split at e
  ·rw[if_pos ‹_›,e];rfl
  ·cases e
 ·rename_i e
  split at e
  ·rw[if_pos ‹_›,e];rfl
  ·rw[if_neg ‹_›];rfl
def B8(ds:List D):Option (List D):=match ds with
 | [.int j]=>if j.natAbs<4000000000 then some (pZ 0 j.toNat) else none
 |_=>none
theorem pf(f:FA)(ρ:aG):aW f ρ=(f ρ).bind B8:=rfl
theorem pj {j:Int}(h:j.natAbs<=1000):B8 [.int j]=some (pZ 0 j.toNat):=by
 show(if j.natAbs<4000000000 then some (pZ 0 j.toNat) else none)=_
 rw[if_pos (by omega)]
theorem cS(i j:Int):bA (.int i) (.int j)=some (.int (i+j)):=rfl
theorem sX(i j:Int):xE (.int i) (.int j)=some (.bl (decide (i<j))):=rfl
theorem sQ(i j:Int):CJ (.int i) (.int j)=some (.bl (decide (j<=i))):=rfl
theorem dM {i j:Int}(h:0<j):ci (.int i) (.int j)=some (.int (i % j)):=by
 unfold ci i2;dsimp only;rw[if_pos (by simpa using h)]
theorem qV {n:Nat}(h:n<10^200):n<2^1000:=Nat.lt_of_lt_of_le h (by decide)
theorem gH {i j:Int}(h1:i.natAbs<10^200)(h2:j.natAbs<10^200):dZ (.int i) (.int j)=some (.int (i*j)):=by
 unfold dZ i2;dsimp only;rw[if_pos (by rw[decide_eq_true (qV h1),decide_eq_true (qV h2)];rfl)]
theorem jZ {i j:Int}(h1:0<j)(h2:j.natAbs<10^200):iR (.int i) (.int j)=some (.int (i / j)):=by
 unfold iR i2;dsimp only;rw[if_pos (by rw[decide_eq_true h1,decide_eq_true (qV h2)];rfl)]
theorem jf {i j:Int}(h0:0<=j)(h1:j<=1000000)(h2:i.natAbs<2^64):dQ (.int i) (.int j)=some (.int (i^j.toNat)):=by
 unfold dQ i2;dsimp only;rw[if_pos (by rw[decide_eq_true h0,decide_eq_true h1,decide_eq_true h2];rfl)]
theorem j5 {x y:D}(h:dS x<=32):iu x y=some (.bl (cP x y)):=if_pos h
theorem lv {x y:D}(h:dS x<=32):kA x y=some (.bl (!cP x y)):=if_pos h
theorem iB(i j:Int):cP (.int i) (.int j)=decide (i=j):=by
 unfold cP;rw[Bool.eq_iff_iff];simp
theorem ge(i:Int):dS (.int i)=0:=by unfold dS;rfl
structure Bag(N:Nat)(a b:Int):Prop where
 a0:0<=a
 a1:a.natAbs<10^180
 b0:0<=b
 b1:b<=N
 lo:b≠0->a.natAbs<2147483647
abbrev be(a b:Int):List D:=[.int a,.int b]
def oD:FS:=
 aB (fY (bF (ar xE (ah 1) (aj br (ab (ah 0) (ag))))) (bw (ar aM (ah 0) (ah 1))) (skip))
 (bw (az (.int 0)))
def gd:List D->Option D:=iN .s 2 oD
def v8:FS:=
 aB (aY 2 (ar ci (aj pT (ab (aj (nF 2 gd) (ab (ah 0) (ab (ah 1) (ag)))) (ag))) (ar dZ (ar dZ (ar dQ (az (.int 10)) (az (.int 60))) (ar dQ (az (.int 10)) (az (.int 60)))) (ar dQ (az (.int 10)) (az (.int 60))))))
 (aB (fY (bF (ar CJ (ah 2) (ar dQ (az (.int 10)) (az (.int 18))))) (bw (cq (ab (ah 2) (ab (az (.int 0)) (ag))))) (skip))
 (aB (aY 3 (ar ci (ar bA (ar bA (ah 2) (ar dZ (az (.int 7919)) (ah 1))) (az (.int 17))) (az (.int 2147483647))))
 (aB (dI (cC (aW (ab (aj eU (ab (aj br (ab (ah 0) (ag))) (ab (az (.int 9)) (ag)))) (ag)))) (gN 4) (aY 3 (ar ci (ar bA (ar bA (ar dQ (ah 3) (az (.int 5))) (ar ci (ar aM (ah 0) (ah 4)) (az (.int 2147483629)))) (ar dZ (az (.int 31)) (ah 4))) (az (.int 2147483647)))))
 (bw (cq (ab (ah 3) (ab (az (.int 1)) (ag))))))))
def v7:List D->Option D:=iN .n 5 v8
def nK:FS:=
 aB (fY (bF (ar iu (ar aM (dm 0) (az (.int 1))) (az (.int 0)))) (aB (aY 2 (ar ci (ar aM (dm 0) (az (.int 0))) (ah 1)))
 (aB (fS (dW 0 (az (.int 0))) (pu (ar iR (ar aM (dm 0) (az (.int 0))) (ah 1))))
 (bw (ah 2)))) (skip))
 (aB (fS (dW 0 (az (.int 0))) (pu (ar ci (ar bA (ar bA (ar dQ (ar aM (dm 0) (az (.int 0))) (az (.int 5))) (ar dZ (az (.int 48271)) (ar aM (dm 0) (az (.int 1))))) (az (.int 11))) (az (.int 2147483647)))))
 (aB (fS (dW 0 (az (.int 1))) (pu (ar bA (ar aM (dm 0) (az (.int 1))) (az (.int 1)))))
 (bw (ar ci (ar iR (ar ci (ar dZ (ar aM (dm 0) (az (.int 0))) (az (.int 69621))) (az (.int 2147483629))) (az (.int 8))) (ah 1)))))
def di:List D->List D->Option (D×List D):=uQ .s 3 nK
def pK:FS:=
 aB (dz 2 (xw (ah 1)))
 (aB (dz 3 (cq (ag)))
 (aB (kP (bF (ar kA (dm 2) (cq (ag)))) (bT (aU 3 1 fL (fU (aU 2 1 mF (fU (aU 0 1 di (cC (ab (aj br (ab (dm 2) (ag))) (ag)))) (cC (ag)))) (cC (ag))))) 16)
 (mj 3)))
def gI:List D->List D->Option (D×List D):=uQ .n 4 pK
theorem eK {i m:Int}(h:0<m):0<=i % m/\i % m<m:=⟨Int.emod_nonneg _ (by omega),Int.emod_lt_of_pos _ h⟩
theorem kM {N:Nat}{a b m:Int}(B:Bag N a b)(hN:N<=1000000000)(hm:0<m)(hm2:m.natAbs<10^20): ∃d a' b',di (be a b) [.int m]=some (.int d,be a' b')/\Bag (N+1) a' b'/\0<=d/\d<m:=by
 have hm3:m.natAbs<10^200:=Nat.lt_of_lt_of_le hm2 (by decide)
 by_cases hb:b=0
 ·subst hb
  refine⟨a % m,a / m,0,?_,⟨Int.ediv_nonneg B.a0 (by omega),?_,by omega,by omega,λz=>absurd rfl z⟩,eK hm⟩
  ·simp[di,uQ,nK,nU,be,aB,fY,bF,ar,aM,dm,ah,az,j5,iB,ge,pY,kN,mn,aY,dM hm,fS,pu,jZ hm hm3,dW,gY,gq,AU,bw,mB]
  ·have h1:=B.a1
   have:a / m<=a:=Int.ediv_le_self _ B.a0
   have:0<=a / m:=Int.ediv_nonneg B.a0 (by omega)
   omega
 ·have lo:=B.lo hb
  have p1:a.natAbs<2^64:=Nat.lt_trans lo (by decide)
  have p2:b.natAbs<10^200:=Nat.lt_of_lt_of_le (show b.natAbs<10^10 by have:=B.b1;have:=B.b0;omega) (by decide)
  generalize hA:(a^5+48271*b+11) % 2147483647=A
  have hA':0<=A/\A<2147483647:=by rw[<-hA];exact eK (by decide)
  have p3:A.natAbs<10^200:=Nat.lt_of_lt_of_le (show A.natAbs<10^10 by omega) (by decide)
  refine⟨A*69621 % 2147483629 / 8 % m,A,b+1,?_,⟨hA'.1,?_,by have:=B.b0;omega,by have:=B.b1;omega,λ_=>by omega⟩,eK hm⟩
  ·have c1:(48271:Int).natAbs<10^200:=Nat.lt_of_lt_of_le (show(48271:Int).natAbs<10^10 by decide) (by decide)
   have c2:(69621:Int).natAbs<10^200:=Nat.lt_of_lt_of_le (show(69621:Int).natAbs<10^10 by decide) (by decide)
   have c3:(8:Int).natAbs<10^200:=Nat.lt_of_lt_of_le (show(8:Int).natAbs<10^10 by decide) (by decide)
   have e1:dQ (.int a) (.int 5)=some (.int (a^5)):=jf (by decide) (by decide) p1
   have e2:dZ (.int 48271) (.int b)=some (.int (48271*b)):=gH c1 p2
   have e3: ∀i:Int,ci (.int i) (.int 2147483647)=some (.int (i % 2147483647)):=λi=>dM (by decide)
   have e4: ∀i:Int,ci (.int i) (.int 2147483629)=some (.int (i % 2147483629)):=λi=>dM (by decide)
   have e5:dZ (.int A) (.int 69621)=some (.int (A*69621)):=gH p3 c2
   have e6: ∀i:Int,iR (.int i) (.int 8)=some (.int (i / 8)):=λi=>jZ (by decide) c3
   simp[di,uQ,nK,nU,be,aB,fY,bF,ar,aM,dm,ah,az,j5,iB,ge,pY,kN,mn,hb,skip,e1,e2,e3,e4,cS,fS,pu,dW,gY,gq,AU,bw,mB,hA,e5,e6,dM hm]
  ·exact Nat.lt_of_lt_of_le (show A.natAbs<10^10 by omega) (by decide)
theorem ay {t u:FS}{ρ ρ':aG}(h:t ρ=.nx ρ'):aB t u ρ=u ρ':=by unfold aB;rw[h]
abbrev nI(i:Nat):D:=.int (i:Int)
abbrev h9(ns:List Int):D:=.scr (ns.map D.int)
theorem xk(n:Nat):pZ 0 n=(List.range n).map nI:=by
 unfold pZ;simp
theorem ft {n j:Nat}(h:j<n):mn n (j:Int)=some j:=by
 unfold mn;rw[if_pos (by omega),if_pos (by omega)];simp
theorem xO(ns:List Int)(k:Nat): ∃c,gd [h9 ns,nI k]=some (.int c):=by
 by_cases h:k<ns.length
 ·refine⟨ns[k],?_⟩
  simp[gd,iN,oD,gG,aB,fY,bF,ar,ah,aj,ab,ag,br,sX,pY,h,bw,aM,kN,ft (show k<(ns.map D.int).length by simpa using h)]
  simp[ft h,h]
 ·refine⟨0,?_⟩
  simp[gd,iN,oD,gG,aB,fY,bF,ar,ah,aj,ab,ag,br,sX,pY,h,bw,skip,az]
theorem pb(ns:List Int)(k:D)(c:D): ∀(l:List Nat),(∀i∈l,i<ns.length/\i<1000)-> ∀(x:Int) (s4:Sl),0<=x->x<2147483647-> ∃(x':Int) (s4':Sl),0<=x'/\x'<2147483647/\
 fy (gN 4) (aY 3 (ar ci (ar bA (ar bA (ar dQ (ah 3) (az (.int 5))) (ar ci (ar aM (ah 0) (ah 4)) (az (.int 2147483629)))) (ar dZ (az (.int 31)) (ah 4))) (az (.int 2147483647)))) (l.map nI) [.v (h9 ns),.v k,.v c,.v (.int x),s4]=.nx [.v (h9 ns),.v k,.v c,.v (.int x'),s4']
 | [],_,x,s4,h1,h2=>⟨x,s4,h1,h2,rfl⟩
 |i::l,hl,x,s4,h1,h2=>by
  obtain⟨hi,hi2⟩:=hl i (by simp)
  have e1:dQ (.int x) (.int 5)=some (.int (x^5)):=jf (by decide) (by decide) (Nat.lt_of_lt_of_le (show x.natAbs<10^10 by omega) (by decide))
  have e2:dZ (.int 31) (nI i)=some (.int (31*i)):=gH (Nat.lt_of_lt_of_le (show(31:Int).natAbs<10^10 by decide) (by decide)) (Nat.lt_of_lt_of_le (show(i:Int).natAbs<10^10 by omega) (by decide))
  have e3: ∀i:Int,ci (.int i) (.int 2147483647)=some (.int (i % 2147483647)):=λi=>dM (by decide)
  have e4: ∀i:Int,ci (.int i) (.int 2147483629)=some (.int (i % 2147483629)):=λi=>dM (by decide)
  obtain⟨y1,y2⟩:=eK (i:=x^5+ns[i] % 2147483629+31*i) (m:=2147483647) (by decide)
  obtain⟨x',s4',g1,g2,g3⟩:=pb ns k c l (λj hj=>hl j (by simp[hj])) _ (.v (nI i)) y1 y2
  refine⟨x',s4',g1,g2,?_⟩
  rw[<-g3];simp[fy,gN,aY,ar,ah,az,e1,e2,e3,e4,aM,kN,ft (show i<(ns.map D.int).length by simpa using hi),ft hi,hi,cS]
theorem AK(ns:List Int)(k:Nat)(hk:k<=1000)(hn:ns.length<=63): ∃a b,v7 [h9 ns,nI k]=some (.lst (be a b))/\Bag 1 a b:=by
 obtain⟨c,hc⟩:=xO ns k
 have p1:dQ (.int 10) (.int 60)=some (.int (10^60)):=jf (by decide) (by decide) (by decide)
 have p2:dQ (.int 10) (.int 18)=some (.int (10^18)):=jf (by decide) (by decide) (by decide)
 have q60:((10:Int)^60).natAbs<10^200:=by decide
 have q120:((10:Int)^60*10^60).natAbs<10^200:=by decide
 have m1:dZ (.int (10^60)) (.int (10^60))=some (.int (10^60*10^60)):=gH q60 q60
 have m2:dZ (.int (10^60*10^60)) (.int (10^60))=some (.int (10^60*10^60*10^60)):=gH q120 q60
 have m3:dZ (.int 7919) (nI k)=some (.int (7919*k)):=gH (Nat.lt_of_lt_of_le (show(7919:Int).natAbs<10^10 by decide) (by decide)) (Nat.lt_of_lt_of_le (show(k:Int).natAbs<10^10 by omega) (by decide))
 generalize hA:(if c<0 then -c else c) % (10^60*10^60*10^60)=A
 have hA':0<=A/\A<10^60*10^60*10^60:=by rw[<-hA];exact eK (by decide)
 have s1:aY 2 (ar ci (aj pT (ab (aj (nF 2 gd) (ab (ah 0) (ab (ah 1) (ag)))) (ag))) (ar dZ (ar dZ (ar dQ (az (.int 10)) (az (.int 60))) (ar dQ (az (.int 10)) (az (.int 60)))) (ar dQ (az (.int 10)) (az (.int 60))))) [.v (h9 ns),.v (nI k),.no,.no,.no]=.nx [.v (h9 ns),.v (nI k),.v (.int A),.no,.no]:=by
  have m4: ∀i:Int,ci (.int i) (.int (10^60*10^60*10^60))=some (.int (i % (10^60*10^60*10^60))):=λi=>dM (by decide)
  unfold aY;have:ar ci (aj pT (ab (aj (nF 2 gd) (ab (ah 0) (ab (ah 1) (ag)))) (ag))) (ar dZ (ar dZ (ar dQ (az (.int 10)) (az (.int 60))) (ar dQ (az (.int 10)) (az (.int 60)))) (ar dQ (az (.int 10)) (az (.int 60)))) [.v (h9 ns),.v (nI k),.no,.no,.no]=some (.int A):=by
   have ec:aj (nF 2 gd) (ab (ah 0) (ab (ah 1) ag)) [.v (h9 ns),.v (nI k),.no,.no,.no]=some (.int c):=hc
   simp only[ar,aj,ab,ag,az,Option.bind_some,p1,m1,m2,pT];have ec':((ah 0 [.v (h9 ns),.v (nI k),.no,.no,.no]).bind λd=>((ah 1 [.v (h9 ns),.v (nI k),.no,.no,.no]).bind λd=>(some []).map λr=>d::r).map λr=>d::r).bind (nF 2 gd)=some (.int c):=hc
   rw[ec'];simp only[Option.bind_some,Option.map_some,m4,pT,hA]
  rw[this];rfl
 have r0:gG 5 [h9 ns,nI k]=[.v (h9 ns),.v (nI k),.no,.no,.no]:=rfl
 unfold v7 iN v8;rw[r0,ay s1];have hA180:A.natAbs<10^180:=by
  have:(10:Int)^60*10^60*10^60=((10^180:Nat):Int):=by decide
  rw[this] at hA';omega
 by_cases hb:(10:Int)^18<=A
 ·refine⟨A,0,?_,⟨hA'.1,hA180,by decide,by decide,λz=>absurd rfl z⟩⟩
  simp only[aB,fY,bF,ar,ah,List.getElem?_cons_succ,List.getElem?_cons_zero,Option.bind_some,az,p2,sQ,pY,decide_eq_true hb,bw,jw,ab,ag,Option.map_some];rw[dC (by simp)]
 ·generalize hx:(A+7919*(k:Int)+17) % 2147483647=x
  have hx':0<=x/\x<2147483647:=by rw[<-hx];exact eK (by decide)
  have m4:ci (.int (A+7919*(k:Int)+17)) (.int 2147483647)=some (.int x):=by rw[dM (by decide),hx]
  have hr:aW (ab (aj eU (ab (aj br (ab (ah 0) (ag))) (ab (az (.int 9)) (ag)))) (ag)) [.v (h9 ns),.v (nI k),.v (.int A),.v (.int x),.no]=some ((List.range (min ns.length 9)).map nI):=by
   rw[pf];simp only[aj,ab,ag,ah,az,List.getElem?_cons_zero,Option.bind_some,Option.map_some,br,eU,List.length_map];have:(if(9:Int)<(ns.length:Int) then(9:Int) else(ns.length:Int))=((min ns.length 9:Nat):Int):=by split<;>omega
   rw[this,pj (by omega),xk,Int.toNat_natCast]
  obtain⟨x',s4',g1,g2,g3⟩:=pb ns (nI k) (.int A) (List.range (min ns.length 9)) (λi hi=>by have:=List.mem_range.mp hi;omega) x .no hx'.1 hx'.2
  refine⟨x',1,?_,⟨g1,Nat.lt_of_lt_of_le (show x'.natAbs<10^10 by omega) (by decide),by decide,by decide,λ_=>by omega⟩⟩
  have f1:dI (cC (aW (ab (aj eU (ab (aj br (ab (ah 0) (ag))) (ab (az (.int 9)) (ag)))) (ag)))) (gN 4) (aY 3 (ar ci (ar bA (ar bA (ar dQ (ah 3) (az (.int 5))) (ar ci (ar aM (ah 0) (ah 4)) (az (.int 2147483629)))) (ar dZ (az (.int 31)) (ah 4))) (az (.int 2147483647)))) [.v (h9 ns),.v (nI k),.v (.int A),.v (.int x),.no]=.nx [.v (h9 ns),.v (nI k),.v (.int A),.v (.int x'),s4']:=by
   unfold dI cC;rw[hr];exact g3
  have i1:fY (bF (ar CJ (ah 2) (ar dQ (az (.int 10)) (az (.int 18))))) (bw (cq (ab (ah 2) (ab (az (.int 0)) (ag))))) (skip) [.v (h9 ns),.v (nI k),.v (.int A),.no,.no]=.nx [.v (h9 ns),.v (nI k),.v (.int A),.no,.no]:=by
   simp only[fY,bF,ar,ah,List.getElem?_cons_succ,List.getElem?_cons_zero,Option.bind_some,az,p2,sQ,pY,decide_eq_false hb,skip]
  have i2:aY 3 (ar ci (ar bA (ar bA (ah 2) (ar dZ (az (.int 7919)) (ah 1))) (az (.int 17))) (az (.int 2147483647))) [.v (h9 ns),.v (nI k),.v (.int A),.no,.no]=.nx [.v (h9 ns),.v (nI k),.v (.int A),.v (.int x),.no]:=by
   simp only[aY,ar,ah,List.getElem?_cons_succ,List.getElem?_cons_zero,Option.bind_some,az,m3,cS,m4,List.set_cons_succ,List.set_cons_zero]
  rw[ay i1,ay i2,ay f1];simp only[bw,jw,ab,ag,ah,az,List.getElem?_cons_succ,List.getElem?_cons_zero,Option.bind_some,Option.map_some];rw[dC (by simp)]
theorem eg {i n:Nat}{M:List D->List D->Option (D×List D)}{fs:GA}{ρ ρ1:aG}{b0 bs ds bs':List D}{d:D}(h0:gY i ρ=some b0)(h1:fs ρ=some (ds,ρ1))(h2:gY i ρ1=some bs)(h3:ds.length=n)(h4:M bs ds=some (d,bs')):aU i n M fs ρ=some (d,gq i bs' ρ1):=by
 unfold aU;rw[h0];dsimp only;rw[h1];dsimp only;rw[h2];dsimp only;rw[if_pos h3,h4]
theorem lI {f:GE}{fs:GA}{ρ ρ1 ρ2:aG}{d:D}{ds:List D}(h1:f ρ=some (d,ρ1))(h2:fs ρ1=some (ds,ρ2)):fU f fs ρ=some (d::ds,ρ2):=by
 unfold fU bE;rw[h1];dsimp only[Option.bind];rw[h2];rfl
theorem bG {f:FA}{ρ:aG}{ds:List D}(h:f ρ=some ds):cC f ρ=some (ds,ρ):=by unfold cC;rw[h];rfl
theorem kf {f:FE}{ρ:aG}{d:D}(h:f ρ=some d):pu f ρ=some (d,ρ):=by unfold pu;rw[h];rfl
theorem mT {α β:Type}(f:α->β): ∀(l:List α) (j:Nat),(l.map f).eraseIdx j=(l.eraseIdx j).map f
 | [],_=>rfl
 |_::_,0=>rfl
 |x::l,j+1=>by simp[mT f l j]
theorem lM {α:Type}: ∀(l:List α) (j:Nat) (h:j<l.length),(l[j]::l.eraseIdx j).Perm l
 |_::_,0,_=>.refl _
 |x::l,j+1,h=>by
  have ih:=lM l j (by simpa using h)
  exact(List.Perm.swap _ _ _).trans (ih.cons x)
theorem jA: ∀r:List Nat,cB (r.map nI)=0
 | []=>by simp[cB]
 |a::r=>by
  rw[List.map_cons];unfold cB;rw[jA r];simp[dS]
theorem wd(r:List Nat):dS (.lst (r.map nI))<=32:=by unfold dS;rw[jA];omega
abbrev DC:FS->Nat->FS:=λb n=>kP (bF (ar kA (dm 2) (cq (ag)))) b n
abbrev m8:FS:=bT (aU 3 1 fL (fU (aU 2 1 mF (fU (aU 0 1 di (cC (ab (aj br (ab (dm 2) (ag))) (ag)))) (cC (ag)))) (cC (ag))))
theorem Bs(n:D)(bg:List D)(left found:List Nat):bF (ar kA (dm 2) (cq (ag))) [.arg bg,.v n,.own (left.map nI),.own (found.map nI)]=some (!left.isEmpty):=by
 have h0:cq ag [.arg bg,.v n,.own (left.map nI),.own (found.map nI)]=some (.lst []):=by
  rw[jw];simp only[ag,Option.bind_some];exact dC (by simp)
 unfold bF ar;rw[h0];simp only[dm,List.getElem?_cons_succ,List.getElem?_cons_zero,Option.bind_some];rw[lv (wd left)];cases left with
 |nil=>simp[pY,cP,cL]
 |cons x r=>simp[pY,cP,cL]
theorem vj(n:D){N:Nat}{a b:Int}(B:Bag N a b)(hN:N<=1000000000)(left found:List Nat)(h0:0<left.length)(h1:left.length<=100)(h2:found.length<=100):
 ∃(j:Nat) (hj:j<left.length) (a' b':Int),m8 [.arg (be a b),.v n,.own (left.map nI),.own (found.map nI)]=.nx [.arg (be a' b'),.v n,.own ((left.eraseIdx j).map nI),.own ((found++[left[j]]).map nI)]/\Bag (N+1) a' b':=by
 obtain⟨d,a',b',e,B',d0,d1⟩:=kM (m:=left.length) B hN (by omega) (Nat.lt_of_lt_of_le (show(left.length:Int).natAbs<10^10 by omega) (by decide))
 obtain⟨j,rfl⟩: ∃j:Nat,d=(j:Int):=⟨d.toNat,by omega⟩
 have hj:j<left.length:=by omega
 refine⟨j,hj,a',b',?_,B'⟩
 have e2:mF (left.map nI) [.int (j:Int)]=some (nI left[j],(left.eraseIdx j).map nI):=by
  rw[yj,dC (by simp;omega)]
  simp only[Option.bind_some];rw[ft (by simpa using hj)]
  simp[hj,mT]
 have e3:fL (found.map nI) [nI left[j]]=some (.non,(found++[left[j]]).map nI):=by
  rw[tI,mQ (by simp;omega)];simp
 have g:aU 0 1 di (cC (ab (aj br (ab (dm 2) (ag))) (ag))) [.arg (be a b),.v n,.own (left.map nI),.own (found.map nI)]=some (nI j,[.arg (be a' b'),.v n,.own (left.map nI),.own (found.map nI)]):=by
  simp[aU,gY,cC,ab,aj,dm,ag,br,e,gq]
 have g2:aU 2 1 mF (fU (aU 0 1 di (cC (ab (aj br (ab (dm 2) (ag))) (ag)))) (cC (ag))) [.arg (be a b),.v n,.own (left.map nI),.own (found.map nI)]=some (nI left[j],[.arg (be a' b'),.v n,.own ((left.eraseIdx j).map nI),.own (found.map nI)]):=by
  refine(eg (i:=2) (n:=1) (b0:=left.map nI) (ds:=[nI j]) (ρ1:=[.arg (be a' b'),.v n,.own (left.map nI),.own (found.map nI)]) rfl (lI g rfl) rfl rfl e2).trans rfl
 have g3:aU 3 1 fL (fU (aU 2 1 mF (fU (aU 0 1 di (cC (ab (aj br (ab (dm 2) (ag))) (ag)))) (cC (ag)))) (cC (ag))) [.arg (be a b),.v n,.own (left.map nI),.own (found.map nI)]=some (.non,[.arg (be a' b'),.v n,.own ((left.eraseIdx j).map nI),.own ((found++[left[j]]).map nI)]):=by
  refine(eg (i:=3) (n:=1) (b0:=found.map nI) (ds:=[nI left[j]]) (ρ1:=[.arg (be a' b'),.v n,.own ((left.eraseIdx j).map nI),.own (found.map nI)]) rfl (lI g2 rfl) rfl rfl e3).trans rfl
 unfold m8 bT;rw[g3]
theorem zg(n:D): ∀(f:Nat) (left found:List Nat) (N:Nat) (a b:Int),left.length<f->left.length<=50->found.length+left.length<=100->Bag N a b->N+left.length<=1000000000->
 ∃(o:List Nat) (a' b':Int),DC m8 f [.arg (be a b),.v n,.own (left.map nI),.own (found.map nI)]=.nx [.arg (be a' b'),.v n,.own [],.own ((found++o).map nI)]/\o.Perm left/\Bag (N+left.length) a' b'
 |0,left,found,N,a,b,h,_,_,_,_=>absurd h (Nat.not_lt_zero _)
 |f+1,left,found,N,a,b,h,h1,h2,B,hN=>by
  unfold DC kP;rw[Bs];cases e:left.isEmpty with
  |true=>
   have:left=[]:=by simpa using e
   subst this;exact⟨[],a,b,by simp,.refl _,by simpa using B⟩
  |false=>
   have h0:0<left.length:=by cases left with
    |nil=>cases e
    |cons x r=>simp
   obtain⟨j,hj,a1,b1,e1,B1⟩:=vj n B (by omega) left found h0 (by omega) (by omega)
   have hl:(left.eraseIdx j).length=left.length-1:=by rw[List.length_eraseIdx];simp[hj]
   obtain⟨o,a2,b2,e2,p,B2⟩:=zg n f (left.eraseIdx j) (found++[left[j]]) (N+1) a1 b1 (by omega) (by omega) (by simp;omega) B1 (by omega)
   refine⟨left[j]::o,a2,b2,?_,?_,?_⟩
   ·simp only[Bool.not_false]
    rw[e1];dsimp only;have:kP (bF (ar kA (dm 2) (cq ag))) m8 f=DC m8 f:=rfl
    rw[this,e2];simp
   ·exact(p.cons _).trans (lM left j hj)
   ·rw[show N+left.length=N+1+(left.eraseIdx j).length by omega];exact B2
structure Ord(n:Nat)(r:List Nat):Prop where
 perm:r.Perm (List.range n)
theorem Ord.len {n:Nat}{r:List Nat}(o:Ord n r):r.length=n:=by rw[o.perm.length_eq];simp
theorem Ord.lt {n:Nat}{r:List Nat}(o:Ord n r){v:Nat}(h:v∈r):v<n:=by simpa using o.perm.mem_iff.mp h
theorem Ord.has {n:Nat}{r:List Nat}(o:Ord n r){v:Nat}(h:v<n):v∈r:=o.perm.mem_iff.mpr (by simpa using h)
theorem Ord.nd {n:Nat}{r:List Nat}(o:Ord n r):r.Nodup:=o.perm.nodup_iff.mpr List.nodup_range
theorem y6 {n:Nat}(h:n<=1000)(f:FE)(ρ:aG)(e:f ρ=some (nI n)):xw f ρ=some (.lst ((List.range n).map nI)):=by
 unfold xw yO;rw[e];simp only[Option.bind_some];rw[if_pos (by omega),xk];rfl
theorem pB {N:Nat}{a b:Int}(B:Bag N a b){n:Nat}(hn:n<=12)(hN:N<=900000000): ∃(o:List Nat) (a' b':Int),gI (be a b) [nI n]=some (.lst (o.map nI),be a' b')/\Ord n o/\Bag (N+n) a' b':=by
 obtain⟨o,a',b',e,p,B'⟩:=zg (nI n) 16 (List.range n) [] N a b (by simp;omega) (by simp;omega) (by simp;omega) B (by simp;omega)
 refine⟨o,a',b',?_,⟨p⟩,by simpa using B'⟩
 have r0:nU 4 (be a b) [nI n]=[.arg (be a b),.v (nI n),.no,.no]:=rfl
 have s1:dz 2 (xw (ah 1)) [.arg (be a b),.v (nI n),.no,.no]=.nx [.arg (be a b),.v (nI n),.own ((List.range n).map nI),.no]:=by
  unfold dz;rw[y6 (n:=n) (by omega) (ah 1) _ rfl]
  rfl
 have s2:dz 3 (cq (ag)) [.arg (be a b),.v (nI n),.own ((List.range n).map nI),.no]=.nx [.arg (be a b),.v (nI n),.own ((List.range n).map nI),.own []]:=by
  unfold dz;rw[jw];simp only[ag,Option.bind_some];rw[dC (by simp)]
  rfl
 unfold gI uQ pK;rw[r0,ay s1,ay s2];have e':kP (bF (ar kA (dm 2) (cq (ag)))) m8 16 [.arg (be a b),.v (nI n),.own ((List.range n).map nI),.own []]=.nx [.arg (be a' b'),.v (nI n),.own [],.own (o.map nI)]:=e
 rw[ay e'];simp[mj,qB,mB]
theorem ax {F:D->D->Option D}{f g:FE}{ρ:aG}{x y:D}(h1:f ρ=some x)(h2:g ρ=some y):ar F f g ρ=F x y:=by unfold ar;rw[h1,Option.bind_some,h2,Option.bind_some]
theorem sN {F:D->D->Option D}{f g:GE}{ρ ρ1 ρ2:aG}{x y d:D}(h1:f ρ=some (x,ρ1))(h2:g ρ1=some (y,ρ2))(h3:F x y=some d):lb F f g ρ=some (d,ρ2):=by
 unfold lb bE;rw[h1];dsimp only[Option.bind];rw[h2];dsimp only[Option.bind];rw[h3];rfl
theorem bc {i:Nat}{f:FE}{ρ:aG}{d:D}(h:f ρ=some d):aY i f ρ=.nx (ρ.set i (.v d)):=by unfold aY;rw[h]
theorem kQ {i:Nat}{f:GE}{ρ ρ1:aG}{d:D}(h:f ρ=some (d,ρ1)):i9 i f ρ=.nx (ρ1.set i (.v d)):=by unfold i9;rw[h]
theorem xK {i:Nat}{f:GE}{ρ ρ1:aG}{ds:List D}(h:f ρ=some (.lst ds,ρ1)):qW i f ρ=.nx (ρ1.set i (.own ds)):=by unfold qW;rw[h];rfl
theorem fW {i:Nat}{f:FE}{ρ:aG}{ds:List D}(h:f ρ=some (.lst ds)):dz i f ρ=.nx (ρ.set i (.own ds)):=by unfold dz;rw[h];rfl
theorem gc {f:FA}{ρ:aG}{ds:List D}(h:f ρ=some ds)(h2:ds.length<=1000):df f ρ=some (.tup ds):=by
 rw[yP,h,Option.bind_some,dC h2]
theorem iJ {f:FA}{ρ:aG}{ds:List D}(h:f ρ=some ds)(h2:ds.length<=1000):cq f ρ=some (.lst ds):=by
 rw[jw,h,Option.bind_some,dC h2]
theorem aq {f:FE}{fs:FA}{ρ:aG}{d:D}{ds:List D}(h1:f ρ=some d)(h2:fs ρ=some ds):ab f fs ρ=some (d::ds):=by unfold ab;rw[h1,h2];rfl
theorem bf {F:List D->Option D}{f:FA}{ρ:aG}{ds:List D}(h:f ρ=some ds):aj F f ρ=F ds:=by unfold aj;rw[h];rfl
theorem zu {r:List Nat}{c:Nat}(h:c<r.length):kN (r.map nI) (c:Int)=some (nI (r.getD c 0)):=jo (by rw[List.getElem?_map,List.getElem?_eq_getElem h];simp[List.getD,h])
theorem tz {r:List Nat}{c:Nat}(h:c<r.length):aM (.lst (r.map nI)) (nI c)=some (nI (r.getD c 0)):=zu h
theorem iT {r:List Nat}{c:Nat}(h:c<r.length):aM (.tup (r.map nI)) (nI c)=some (nI (r.getD c 0)):=zu h
theorem lg(a b:Nat):cP (nI a) (nI b)=decide (a=b):=by
 rw[iB];rw[Bool.eq_iff_iff];simp;omega
theorem Dn(a b:Nat):bA (nI a) (nI b)=some (nI (a+b)):=by rw[cS];simp
theorem CQ(a:Nat):bA (nI a) (.int 1)=some (nI (a+1)):=by rw[cS];simp
theorem Ck {a n:Nat}(h:0<n):ci (nI a) (nI n)=some (nI (a % n)):=by rw[dM (by omega)];rfl
theorem p7 {i:Nat}{fi:FE}{d:D}{ρ:aG}{bs:List D}{j:Nat}(h1:gY i ρ=some bs)(h2:fi ρ=some (nI j))(h3:j<bs.length):dW i fi d ρ=some (gq i (bs.set j d) ρ):=by
 unfold dW;rw[h1];dsimp only;rw[h2];dsimp only;rw[ft h3]
theorem vA(x:List Nat)(j v:Nat):(x.map nI).set j (nI v)=(x.set j v).map nI:=by rw[List.map_set]
def qE(n:Nat)(r x:List Nat)(c:Nat):List Nat:=if x.getD c 0=r.getD c 0 then(x.set c (x.getD ((c+1) % n) 0)).set ((c+1) % n) (x.getD c 0) else x
abbrev tN:FS:=aB (aY 7 (ar ci (ar bA (ah 6) (az (.int 1))) (ah 1)))
 (fY (bF (ar iu (ar aM (dm 5) (ah 6)) (ar aM (ah 4) (ah 6)))) (fS (gT 2 (gV (dW 5 (ah 6)) (gV (dW 5 (ah 7)) (kG)))) (pu (df (ab (ar aM (dm 5) (ah 7)) (ab (ar aM (dm 5) (ah 6)) (ag)))))) (skip))
theorem vB(bg:List D)(p q:D)(n:Nat)(r x:List Nat)(c:Nat)(s7:Sl)(hr:r.length=n)(hx:x.length=n)(hc:c<n):
 tN [.arg bg,.v (nI n),.v p,.v q,.v (.lst (r.map nI)),.own (x.map nI),.v (nI c),s7]=.nx [.arg bg,.v (nI n),.v p,.v q,.v (.lst (r.map nI)),.own ((qE n r x c).map nI),.v (nI c),.v (nI ((c+1) % n))]:=by
 have hd:(c+1) % n<n:=Nat.mod_lt _ (by omega)
 have e1:aY 7 (ar ci (ar bA (ah 6) (az (.int 1))) (ah 1)) [.arg bg,.v (nI n),.v p,.v q,.v (.lst (r.map nI)),.own (x.map nI),.v (nI c),s7]=.nx [.arg bg,.v (nI n),.v p,.v q,.v (.lst (r.map nI)),.own (x.map nI),.v (nI c),.v (nI ((c+1) % n))]:=
  (bc ((ax (ax (x:=nI c) (y:=.int 1) rfl rfl |>.trans (CQ c)) (y:=nI n) rfl).trans (Ck (by omega)))).trans rfl
 unfold tN;rw[ay e1];have i1:ar aM (dm 5) (ah 6) [.arg bg,.v (nI n),.v p,.v q,.v (.lst (r.map nI)),.own (x.map nI),.v (nI c),.v (nI ((c+1) % n))]=some (nI (x.getD c 0)):=(ax (x:=.lst (x.map nI)) (y:=nI c) rfl rfl).trans (tz (by omega))
 have i2:ar aM (ah 4) (ah 6) [.arg bg,.v (nI n),.v p,.v q,.v (.lst (r.map nI)),.own (x.map nI),.v (nI c),.v (nI ((c+1) % n))]=some (nI (r.getD c 0)):=(ax (x:=.lst (r.map nI)) (y:=nI c) rfl rfl).trans (tz (by omega))
 have i3:ar aM (dm 5) (ah 7) [.arg bg,.v (nI n),.v p,.v q,.v (.lst (r.map nI)),.own (x.map nI),.v (nI c),.v (nI ((c+1) % n))]=some (nI (x.getD ((c+1) % n) 0)):=(ax (x:=.lst (x.map nI)) (y:=nI ((c+1) % n)) rfl rfl).trans (tz (by omega))
 unfold fY bF;rw[ax i1 i2,j5 (by rw[ge];omega),lg]
 by_cases e:x.getD c 0=r.getD c 0
 ·rw[decide_eq_true e]
  simp only[pY];unfold fS;rw[kf (gc (aq i3 (aq i1 rfl)) (by simp))]
  simp only[gT,List.length_cons,List.length_nil,gV];unfold qE;rw[if_pos e];rw[p7 (bs:=x.map nI) (j:=c) rfl rfl (by simp;omega)]
  simp only[Option.bind_some];rw[p7 (bs:=(x.map nI).set c (nI (x.getD ((c+1) % n) 0))) (j:=(c+1) % n) rfl rfl (by simp;omega)]
  simp only[Option.bind_some,kG,vA];rfl
 ·rw[decide_eq_false e]
  simp only[pY,skip];unfold qE;rw[if_neg e]
theorem swap_perm(x:List Nat)(c d:Nat)(hc:c<x.length)(hd:d<x.length):((x.set c (x.getD d 0)).set d (x.getD c 0)).Perm x:=by
 have e:(x.toArray.swap c d (by simpa using hc) (by simpa using hd)).toList=(x.set c (x.getD d 0)).set d (x.getD c 0):=by
  simp[Array.toList_swap,List.getD,hc,hd]
 rw[<-e];have:=Array.swap_perm (xs:=x.toArray) (i:=c) (j:=d) (by simpa using hc) (by simpa using hd)
 simpa using (Array.perm_iff_toList_perm.mp this)
theorem nX {x:List Nat}(h:x.Nodup){i j:Nat}(hi:i<x.length)(hj:j<x.length)(e:x.getD i 0=x.getD j 0):i=j:=by
 have:x[i]=x[j]:=by simpa [List.getD,hi,hj] using e
 exact(List.getElem_inj h).mp this
theorem Ord.fix {n:Nat}{r x:List Nat}(or:Ord n r)(ox:Ord n x){c:Nat}(hc:c<n)(hn:2<=n):Ord n (qE n r x c)/\((∀i,i<c->x.getD i 0≠r.getD i 0)-> ∀i,i<c+1->(qE n r x c).getD i 0≠r.getD i 0):=by
 have lx:=ox.len
 have lr:=or.len
 have hd:(c+1) % n<n:=Nat.mod_lt _ (by omega)
 have gx: ∀i,i<n->x.getD i 0=x[i]! :=λi hi=>by simp[List.getD,lx,hi]
 unfold qE
 by_cases e:x.getD c 0=r.getD c 0
 ·rw[if_pos e]
  have ne:(c+1) % n≠c:=by
   by_cases h:c+1<n
   ·rw[Nat.mod_eq_of_lt h];omega
   ·rw[show c+1=n by omega,Nat.mod_self];omega
  refine⟨⟨(swap_perm x c _ (by omega) (by omega)).trans ox.perm⟩,λh i hi=>?_⟩
  have g:((x.set c (x.getD ((c+1) % n) 0)).set ((c+1) % n) (x.getD c 0)).getD i 0=if i=(c+1) % n then x.getD c 0 else if i=c then x.getD ((c+1) % n) 0 else x.getD i 0:=by
   simp only[List.getD,List.getElem?_set,List.length_set]
   by_cases h1:(c+1) % n=i
   ·subst h1;simp[lx,hd]
   ·rw[if_neg h1,if_neg (Ne.symm h1)]
    by_cases h2:c=i
    ·subst h2;simp[lx,hc]
    ·rw[if_neg h2,if_neg (Ne.symm h2)]
  rw[g]
  by_cases h1:i=(c+1) % n
  ·rw[if_pos h1,e]
   intro z;have:=nX or.nd (by omega) (by omega) z
   omega
  ·rw[if_neg h1]
   by_cases h2:i=c
   ·rw[if_pos h2,h2,<-e]
    intro z;have:=nX ox.nd (by omega) (by omega) z
    omega
   ·rw[if_neg h2];exact h i (by omega)
 ·rw[if_neg e]
  refine⟨ox,λh i hi=>?_⟩
  by_cases hic:i=c
  ·subst hic;exact e
  ·exact h i (by omega)
theorem zd(bg:List D)(p q:D){n:Nat}{r:List Nat}(or:Ord n r)(hn:2<=n): ∀(k c:Nat) (x:List Nat) (s6 s7:Sl),c+k=n->Ord n x->(∀i,i<c->x.getD i 0≠r.getD i 0)->
 ∃(x':List Nat) (s6' s7':Sl),fy (gN 6) tN ((List.range' c k).map nI) [.arg bg,.v (nI n),.v p,.v q,.v (.lst (r.map nI)),.own (x.map nI),s6,s7]=.nx [.arg bg,.v (nI n),.v p,.v q,.v (.lst (r.map nI)),.own (x'.map nI),s6',s7']/\Ord n x'/\ ∀i,i<n->x'.getD i 0≠r.getD i 0
 |0,c,x,s6,s7,h,ox,hi=>⟨x,s6,s7,rfl,ox,λi h'=>hi i (by omega)⟩
 |k+1,c,x,s6,s7,h,ox,hi=>by
  obtain⟨o1,o2⟩:=or.fix ox (c:=c) (by omega) hn
  obtain⟨x',a,b,e,o3,o4⟩:=zd bg p q or hn k (c+1) (qE n r x c) (.v (nI c)) (.v (nI ((c+1) % n))) (by omega) o1 (o2 hi)
  refine⟨x',a,b,?_,o3,o4⟩
  rw[List.range'_succ,List.map_cons];unfold fy;have:gN 6 (nI c) [.arg bg,.v (nI n),.v p,.v q,.v (.lst (r.map nI)),.own (x.map nI),s6,s7]=some [.arg bg,.v (nI n),.v p,.v q,.v (.lst (r.map nI)),.own (x.map nI),.v (nI c),s7]:=rfl
  rw[this];dsimp only;rw[vB bg p q n r x c s7 or.len ox.len (by omega)]
  exact e
theorem ck {α:Type}{g:FG}{f:FE}{ρ0:aG}{h o:α->D}: ∀(l:List α),(∀i∈l,∃ρ1,g (h i) ρ0=some ρ1/\f ρ1=some (o i))->db g cm f ρ0 (l.map h)=some (l.map o)
 | [],_=>rfl
 |a::l,H=>by
  obtain⟨ρ1,h1,h2⟩:=H a (by simp)
  have ih:=ck l λi hi=>H i (by simp[hi])
  rw[List.map_cons];unfold db;rw[h1,Option.bind_some];simp only[cm,Option.bind_some,if_true,h2,ih];rfl
theorem bx {m:Nat}{gi:FA}{g:FG}{p:FT}{f:FE}{ρ:aG}{ds ys:List D}(h1:gi ρ=some ds)(h2:ds.length<=1000)(h3:db g p f (ρ++List.replicate m .no) ds=some ys):aO m gi g p f ρ=some (.lst ys):=by
 rw[vq,h1,Option.bind_some,dC h2,Option.bind_some,h3];rfl
theorem x0: ∀n,2<=n->n<=6-> ∀b,1<=b->b<n->Ord n ((List.range n).map λi=>(i+b) % n):=by
 intro n h1 h2 b h3 h4;refine⟨?_⟩
 have: ∀n:_root_.Fin 7,∀b:_root_.Fin 7,((List.range n.val).map λi=>(i+b.val) % n.val).isPerm (List.range n.val)=true\/ ¬(b.val<n.val):=by decide
 rcases this ⟨n,by omega⟩ ⟨b,by omega⟩ with h|h
 ·exact List.isPerm_iff.mp h
 ·exact absurd h4 h
abbrev cG(r:List Nat):D:=.tup (r.map nI)
abbrev aP(r x:List Nat):D:=.tup [cG r,cG x]
structure Sq(n:Nat)(r x:List Nat):Prop where
 hr:Ord n r
 hx:Ord n x
 ne: ∀i,i<n->x.getD i 0≠r.getD i 0
theorem bz {f:FA}{ρ:aG}{n:Nat}(h:f ρ=some [nI n])(hn:n<=1000):aW f ρ=some ((List.range n).map nI):=by
 rw[pf,h,Option.bind_some,pj (by omega),xk];rfl
theorem D9 {j:Int}(h:0<=j):D.int j=nI j.toNat:=by show D.int j=D.int (j.toNat:Int);rw[Int.toNat_of_nonneg h]
theorem Cq {n:Nat}{P:List D->Option D}{ds:List D}(h:ds.length=n):nF n P ds=P ds:=if_pos h
theorem nY {g:FG}{f:GE}{ρ ρ1 ρ2:aG}{d:D}(h1:f ρ=some (d,ρ1))(h2:g d ρ1=some ρ2):fS g f ρ=.nx ρ2:=by unfold fS;rw[h1];dsimp only;rw[h2];rfl
theorem cA {n:Nat}{P:List D->Option D}{fs:FA}{ρ:aG}{ds:List D}(h:fs ρ=some ds)(hl:ds.length=n):aj (nF n P) fs ρ=P ds:=(bf h).trans (Cq hl)
theorem cK {kd:Kd}{n:Nat}{t:FS}{ds:List D}{ρ:aG}{d:D}(h:t (gG n ds)=.rt d ρ):iN kd n t ds=some d:=by unfold iN;rw[h]
theorem cJ {f:FE}{ρ:aG}{d:D}(h:f ρ=some d):bw f ρ=.rt d ρ:=by unfold bw;rw[h]
theorem nW: ∀bs:List Bool,gM (bs.map D.bl)=some bs
 | []=>rfl
 |b::r=>by show(gM (r.map D.bl)).map (b:: ·)=_;rw[nW r];rfl
theorem sx(bs:List Bool):mw [.lst (bs.map D.bl)]=some (.bl (bs.any id)):=by
 show(gM (bs.map D.bl)).map (λbs=>D.bl (bs.any id))=_
 rw[nW];rfl
theorem yA(bs:List Bool):xp [.lst (bs.map D.bl)]=some (.bl (bs.all id)):=by
 show(gM (bs.map D.bl)).map (λbs=>D.bl (bs.all id))=_
 rw[nW];rfl
theorem mL {p:FT}{t u:FS}{ρ:aG}(h:p ρ=some false):fY p t u ρ=u ρ:=by unfold fY;rw[h]
theorem tu {p:FT}{t u:FS}{ρ:aG}(h:p ρ=some true):fY p t u ρ=t ρ:=by unfold fY;rw[h]
theorem qZ {p q:FT}{ρ:aG}{b:Bool}(h1:p ρ=some false)(h2:q ρ=some b):xy p q ρ=some b:=by unfold xy;rw[h1];exact h2
theorem vo {f:GE}{ρ ρ1:aG}{d:D}(h:f ρ=some (d,ρ1)):bT f ρ=.nx ρ1:=by unfold bT;rw[h]
theorem dU {f:FE}{ρ:aG}{b:Bool}(h:f ρ=some (.bl b)):bF f ρ=some b:=by unfold bF;rw[h];rfl
theorem iY {f:FE}{ρ:aG}{b:Bool}(h:f ρ=some (.bl b)):gD f ρ=some b:=by unfold gD;rw[h];rfl
theorem jX {p:FT}{ρ:aG}{b:Bool}(h:p ρ=some b):gp p ρ=some (!b):=by unfold gp;rw[h];rfl
theorem oG {x:D}(h:dS x<=32):kA x x=some (.bl false):=by rw[lv h,lD];rfl
theorem dH {g:FG}{b:FS}{d:D}{r:List D}{ρ ρ1 ρ2:aG}(h1:g d ρ=some ρ1)(h2:b ρ1=.nx ρ2):fy g b (d::r) ρ=fy g b r ρ2:=by
 show(match g d ρ with
  |none=>Out.no
  |some ρ1=>match b ρ1 with
   | .nx ρ2=>fy g b r ρ2
   | .ct ρ2=>fy g b r ρ2
   | .bk ρ2=>.nx ρ2
   | .rt d ρ2=>.rt d ρ2
   | .no=>.no)=_
 rw[h1];dsimp only;rw[h2]
theorem dY {f:GA}{g:FG}{b:FS}{ρ ρ1:aG}{ds:List D}(h:f ρ=some (ds,ρ1)):dI f g b ρ=fy g b ds ρ1:=by unfold dI;rw[h]
theorem xA {f:FE}{ρ:aG}{ds:List D}(h:f ρ=some (.lst ds)):j3 f ρ=some ds:=by unfold j3;rw[h];rfl
theorem lS {kd:Kd}{n:Nat}{t:FS}{ds:List D}{d:D}(h: ∃ρ,t (gG n ds)=.rt d ρ):iN kd n t ds=some d:=let⟨_,h⟩:=h;cK h
theorem zH {t u:FS}{ρ:aG}{d:D}(P:aG->Prop)(h: ∃ρ',t ρ=.nx ρ'/\P ρ')(hu: ∀ρ',P ρ'-> ∃ρ'',u ρ'=.rt d ρ''): ∃ρ'',aB t u ρ=.rt d ρ'':=by
 obtain⟨ρ',h1,h2⟩:=h
 obtain⟨ρ'',h3⟩:=hu ρ' h2
 exact⟨ρ'',(ay h1).trans h3⟩
theorem xF {f:GA}{g:FG}{b:FS}{ρ ρ1:aG}{ds:List D}{P:aG->Prop}(h:f ρ=some (ds,ρ1))(hl: ∃ρ',fy g b ds ρ1=.nx ρ'/\P ρ'): ∃ρ',dI f g b ρ=.nx ρ'/\P ρ':=by
 obtain⟨ρ',h1,h2⟩:=hl
 exact⟨ρ',(dY h).trans h1,h2⟩
theorem sZ {g:FG}{b:FS}{P:aG->Prop}: ∀(l:List D),(∀d∈l,∀ρ,P ρ-> ∃ρ1 ρ2,g d ρ=some ρ1/\b ρ1=.nx ρ2/\P ρ2)-> ∀ρ,P ρ-> ∃ρ',fy g b l ρ=.nx ρ'/\P ρ'
 | [],_,ρ,p=>⟨ρ,rfl,p⟩
 |d::l,h,ρ,p=>by
  obtain⟨ρ1,ρ2,h1,h2,p2⟩:=h d (by simp) ρ p
  obtain⟨ρ',e,p'⟩:=sZ l (λd' hd=>h d' (by simp[hd])) ρ2 p2
  exact⟨ρ',(dH h1 h2).trans e,p'⟩
theorem j4 {i:Nat}{fs:GA}{ρ ρ1:aG}{b0 bs:List D}{d:D}(h0:gY i ρ=some b0)(h1:fs ρ=some ([d],ρ1))(h2:gY i ρ1=some bs)(h3:bs.length<=900):bT (aU i 1 fL fs) ρ=.nx (gq i (bs++[d]) ρ1):=
 vo (eg h0 h1 h2 rfl (by rw[tI,mQ (by omega)]))
theorem eJ {α:Type}{g:FG}{p:FT}{f:FE}{ρ0:aG}{h o:α->D}{q:α->Bool}: ∀(l:List α),(∀i∈l,∃ρ1,g (h i) ρ0=some ρ1/\p ρ1=some (q i)/\(q i=true->f ρ1=some (o i)))->db g p f ρ0 (l.map h)=some ((l.filter q).map o)
 | [],_=>rfl
 |a::l,H=>by
  obtain⟨ρ1,h1,h2,h3⟩:=H a (by simp)
  have ih:=eJ l λi hi=>H i (by simp[hi])
  rw[List.map_cons];unfold db;rw[h1,Option.bind_some,h2,Option.bind_some];cases e:q a with
  |true=>rw[if_pos rfl,h3 e,Option.bind_some,ih];simp[e]
  |false=>rw[if_neg (by simp),ih];simp[e]
theorem gh {α:Type}{g:FG}{p:FT}{A:FA}{ρ0:aG}{h:α->D}{q:α->Bool}{o:α->List D}: ∀(l:List α),(∀i∈l,∃ρ1,g (h i) ρ0=some ρ1/\p ρ1=some (q i)/\(q i=true->A ρ1=some (o i)))->iq g p A ρ0 (l.map h)=some ((l.filter q).flatMap o)
 | [],_=>rfl
 |a::l,H=>by
  obtain⟨ρ1,h1,h2,h3⟩:=H a (by simp)
  have ih:=gh l λi hi=>H i (by simp[hi])
  rw[List.map_cons];unfold iq;rw[h1,Option.bind_some,h2,Option.bind_some];cases e:q a with
  |true=>rw[if_pos rfl,h3 e,Option.bind_some,ih];simp[e]
  |false=>rw[if_neg (by simp),ih];simp[e]
theorem s0 {f:FE}{ρ:aG}{d:D}(h:f ρ=some d):pH f ρ=some [d]:=by unfold pH;rw[h];rfl
theorem sS {m:Nat}{gi1 gi2:FA}{g1 g2:FG}{p1 p2:FT}{f:FE}{ρ:aG}{ds ys:List D}(h1:gi1 ρ=some ds)(h2:iq g1 p1 (xr gi2 g2 p2 f) (ρ++List.replicate m .no) ds=some ys)(h3:ys.length<=1000):rS m gi1 g1 p1 gi2 g2 p2 f ρ=some (.lst ys):=by
 unfold rS;rw[h1,Option.bind_some,h2,Option.bind_some,if_pos (Nat.le_of_lt (iF h3))]
theorem wm {gi:FA}{g:FG}{p:FT}{f:FE}{ρ:aG}{ds ys:List D}(h1:gi ρ=some ds)(h2:iq g p (pH f) ρ ds=some ys):xr gi g p f ρ=some ys:=by
 unfold xr;rw[h1,Option.bind_some,h2]
theorem vl(r:List Nat)(ρ:aG)(f:FE)(h:f ρ=some (.lst (r.map nI))):aj br (ab f ag) ρ=some (nI r.length):=by
 rw[bf (aq h rfl)];show some (D.int ((r.map nI).length:Int))=_;rw[List.length_map]
theorem ij(r:List Nat)(ρ:aG)(f:FE)(h:f ρ=some (cG r)):aj br (ab f ag) ρ=some (nI r.length):=by
 rw[bf (aq h rfl)];show some (D.int ((r.map nI).length:Int))=_;rw[List.length_map]
theorem zf(L:List Nat)(c:Nat):(L.map nI).any (λd=>cP d (nI c))=decide (c∈L):=by
 induction L with
 |nil=>simp
 |cons a L ih=>
  rw[List.map_cons,List.any_cons,ih,lg,Bool.eq_iff_iff];simp only[Bool.or_eq_true,decide_eq_true_eq,List.mem_cons];exact or_congr_left eq_comm
theorem DN(L:List Nat)(c:Nat):ki false (nI c) (.lst (L.map nI))=some (.bl (decide (c∈L))):=by
 unfold ki nL;dsimp only;rw[jA,if_pos (by omega),zf]
 rfl
theorem ie {α β:Type}(f:α->β): ∀l:List α,l.flatMap (λc=>[f c])=l.map f
 | []=>rfl
 |a::l=>by rw[List.flatMap_cons,ie f l];rfl
theorem qO: ∀k:List Int,cB (k.map D.int)=0
 | []=>by simp[cB]
 |a::k=>by rw[List.map_cons];unfold cB;rw[qO k];simp[dS]
theorem yC(k:List Int):dS (gb k)=1:=by unfold gb dS;rw[qO]
theorem qJ: ∀ks:List (List Int),cB (ks.map gb)<=1
 | []=>by simp[cB]
 |k::ks=>by
  rw[List.map_cons];unfold cB;have:=qJ ks
  rw[yC];omega
theorem wC: ∀k l:List Int,cL (k.map D.int) (l.map D.int)=decide (k=l)
 | [],[]=>by simp[cL]
 | [],_::_=>by simp[cL]
 |_::_,[]=>by simp[cL]
 |a::k,b::l=>by
  rw[List.map_cons,List.map_cons];unfold cL;rw[wC k l,iB,Bool.eq_iff_iff];simp
theorem yV(k l:List Int):cP (gb k) (gb l)=decide (k=l):=by
 unfold gb cP;exact wC k l
theorem Ord.get {n:Nat}{o:List Nat}(O:Ord n o){i:Nat}(h:i<n):o.getD i 0<n:=by
 have ho:=O.len
 have:o.getD i 0=o[i]'(by omega):=by simp[List.getD,ho,h]
 rw[this];exact O.lt (List.getElem_mem _)
theorem Ord.inj {n:Nat}{o:List Nat}(O:Ord n o){i j:Nat}(hi:i<n)(hj:j<n)(e:o.getD i 0=o.getD j 0):i=j:=nX O.nd (by rw[O.len];exact hi) (by rw[O.len];exact hj) e
open PySem PySem.W PySem.Spec PyProof.Rows
section
variable {X:Cx}{ae pins':List (Addr×Obj)}{σ:St}{H:Hp}{s:Shared}{E:Value->Shared->Prop}{v:Option Value}{a:Addr}
theorem ObjOk.there {P:Program}{w:World}{h:Heap}{o:HO}(x:ObjOk P w H h a o): ∃u,h.get? a=some u:=by
 induction o with
 |lst xs=>obtain⟨_,_,_,_,e⟩:=x;exact⟨_,e⟩
 |tup xs=>obtain⟨_,_,_,⟨_,e,_⟩,_⟩:=x;exact⟨_,e⟩
 |dK kvs=>obtain⟨_,_,_,_,o,_,_,e,_⟩:=x;exact⟨_,e⟩
 |dT kvs=>obtain⟨_,_,_,_,o,_,_,e,_⟩:=x;exact⟨_,e⟩
 |set S n=>obtain⟨o,_,_,_,e,_⟩:=x;exact⟨_,e⟩
 |tst xs=>obtain⟨o,_,_,_,e,_⟩:=x;exact⟨_,e⟩
 |ins C dx fs=>obtain⟨_,_,_,e,_⟩:=x;exact⟨_,e⟩
 |own y=>obtain⟨_,e⟩:=x;exact⟨_,e⟩
 |xd fs=>obtain⟨_,⟨_,_,_,e,_⟩,_⟩:=x;exact⟨_,e⟩
 |rng lo hi=>obtain⟨_,_,_,e⟩:=x;exact⟨_,e⟩
 |frz ob u ih=>obtain⟨e,_⟩:=x;exact⟨_,e⟩
 |nst p u ih=>exact ih x
 |tbl ps=>exact⟨_,show h.get? a=some _ from x⟩
 |met f y=>exact⟨_,show h.get? a=some _ from x⟩
 |ext φ=>obtain⟨_,⟨_,e⟩,_⟩:=x;exact⟨_,e⟩
end
section
variable {X:Cx}{c:Ct}{e:Expr}{es:List Expr}{k:Kd}{pos p:Pos}{x:Str}{ps:List Str}{j n:Nat}
def dg(f:FE):FA:=λρ=>(f ρ).bind λd=>match d with
 | .lst ds=>some ds
 | .tup ds=>some ds
 |_=>none
theorem dh {tg iter:Expr}{f:FE}(h:DP X c .s iter f):DIp X c tg iter (dg f):=λhid ρ ae s σ H R I hq_=>by
 obtain⟨sr,ds,e1,q⟩:=hq_
 unfold dg at e1;cases e2:f ρ with
 |none=>rw[e2] at e1;cases e1
 |some d=>
  rw[e2,Option.bind_some] at e1;cases d with
  |lst xs=>cases e1;exact v0 h hid ρ ae s σ H R I ⟨sr,ds,by unfold j3;rw[e2];rfl,q⟩
  |tup xs=>cases e1;exact yU h hid ρ ae s σ H R I ⟨sr,ds,by unfold yn;rw[e2];rfl,q⟩
  |_=>cases e1
end
theorem eQ {es rest:List Expr}{x1}{pos:Pos}{env:Env}:starEach (.Tuple es x1 pos::rest) env=(false,eval (.Tuple es x1 pos) env)::starEach rest env:=by rfl
@[elab_as_elim] theorem ar0 {motive:List Value->Prop} (us:List Value) (hl:us.length=0) (h:motive []):motive us:=by
 cases us with
 |nil=>exact h
 |cons a r=>exact absurd hl (Nat.succ_ne_zero _)
@[elab_as_elim] theorem ar1 {motive:List Value->Prop} (us:List Value) (hl:us.length=1) (h: ∀a0,motive [a0]):motive us:=by
 cases us with
 |nil=>exact absurd hl (by decide)
 |cons a0 r=>exact ar0 (motive:=λr=>motive (a0::r)) r (Nat.succ.inj hl) (h a0)
@[elab_as_elim] theorem ar2 {motive:List Value->Prop} (us:List Value) (hl:us.length=2) (h: ∀a0 a1,motive [a0,a1]):motive us:=by
 cases us with
 |nil=>exact absurd hl (by decide)
 |cons a0 r=>exact ar1 (motive:=λr=>motive (a0::r)) r (Nat.succ.inj hl) (h a0)
@[elab_as_elim] theorem ar3 {motive:List Value->Prop} (us:List Value) (hl:us.length=3) (h: ∀a0 a1 a2,motive [a0,a1,a2]):motive us:=by
 cases us with
 |nil=>exact absurd hl (by decide)
 |cons a0 r=>exact ar2 (motive:=λr=>motive (a0::r)) r (Nat.succ.inj hl) (h a0)
@[elab_as_elim] theorem ar4 {motive:List Value->Prop} (us:List Value) (hl:us.length=4) (h: ∀a0 a1 a2 a3,motive [a0,a1,a2,a3]):motive us:=by
 cases us with
 |nil=>exact absurd hl (by decide)
 |cons a0 r=>exact ar3 (motive:=λr=>motive (a0::r)) r (Nat.succ.inj hl) (h a0)
@[elab_as_elim] theorem ar5 {motive:List Value->Prop} (us:List Value) (hl:us.length=5) (h: ∀a0 a1 a2 a3 a4,motive [a0,a1,a2,a3,a4]):motive us:=by
 cases us with
 |nil=>exact absurd hl (by decide)
 |cons a0 r=>exact ar4 (motive:=λr=>motive (a0::r)) r (Nat.succ.inj hl) (h a0)
@[elab_as_elim] theorem ar6 {motive:List Value->Prop} (us:List Value) (hl:us.length=6) (h: ∀a0 a1 a2 a3 a4 a5,motive [a0,a1,a2,a3,a4,a5]):motive us:=by
 cases us with
 |nil=>exact absurd hl (by decide)
 |cons a0 r=>exact ar5 (motive:=λr=>motive (a0::r)) r (Nat.succ.inj hl) (h a0)
@[irreducible] def QP (X:Cx) (c:Ct) (e:Expr) (f:FE):Prop:=DP X c .s e f
@[irreducible] def QA (X:Cx) (c:Ct) (es:List Expr) (f:FA):Prop:=DA X c es f
@[irreducible] def QS (X:Cx) (c:Ct) (k:Kd) (st:Stmt) (t:FS):Prop:=DS X c k st t
@[irreducible] def QSs (X:Cx) (c:Ct) (k:Kd) (st:List Stmt) (t:FS):Prop:=sj X c k st t
section
variable {X:Cx}{c:Ct}{k:Kd}{e a b:Expr}{es:List Expr}{f g:FE}{fs:FA}{pos pos':Pos}{st:Stmt}{rest:List Stmt}{t u:FS}{x:Str}
theorem QP.of(h:DP X c .s e f):QP X c e f:=by unfold QP;exact h
theorem QP.dp(h:QP X c e f):DP X c .s e f:=by unfold QP at h;exact h
theorem QA.da(h:QA X c es fs):DA X c es fs:=by unfold QA at h;exact h
theorem QS.of(h:DS X c k st t):QS X c k st t:=by unfold QS;exact h
theorem QS.ds(h:QS X c k st t):DS X c k st t:=by unfold QS at h;exact h
theorem QSs.to(h:QSs X c k rest t):sj X c k rest t:=by unfold QSs at h;exact h
theorem eP:QA X c [] ag:=by unfold QA;exact au
theorem aH(h:QP X c e f)(hr:QA X c es fs)(hs:starEach (e::es) X.env=(false,eval e X.env)::starEach es X.env:=by rfl):QA X c (e::es) (ab f fs):=by unfold QA;exact ai h.dp hr.da hs
theorem fj {x1}(h:QA X c es fs):QP X c (.Tuple es x1 pos) (df fs):=.of (gy h.da)
theorem zN(h:QA X c es fs):QP X c (.List es pos) (cq fs):=.of (DP.toS (dL h.da))
theorem sD(i:Nat)(hn:X.N.Nodup)(he:QP X c e f)(hi:X.N[i]? =some x:=by rfl)(hx:sY X.env.scope x:=by first|exact Or.inl rfl|exact Or.inr rfl)(hs:swapsWith e (some (.Name x pos')) pos.line X.env=pure false:=by rfl)
 (hf:X.fn x=true\/X.env.scope.names.lookup x=some .local:=by first|exact .inl rfl|exact .inr rfl|assumption):QS X c k (.Assign [.Name x pos'] e pos) (aY i f):=.of (aZ i hn he.dp hi hx hs hf)
theorem lG(h1:QS X c k st t)(h2:QSs X c k rest u):QSs X c k (st::rest) (aB t u):=by unfold QSs;exact al h1.ds h2.to
theorem tG(h:QS X c k st t):QSs X c k [st] t:=by unfold QSs;exact aD h.ds
end
section
variable {κ:Type} [DecidableEq κ]
def fw(kvs:List (κ×V))(k:κ):Option V:=(kvs.find? λkv=>decide (kv.1=k)).map (·.2)
def gO(kvs:List (κ×V))(k:κ)(v:V):List (κ×V):=
 if(kvs.any λkv=>decide (kv.1=k))=true then kvs.map (λkv=>if kv.1=k then(kv.1,v) else kv) else kvs++[(k,v)]
theorem il {p:κ×V}{r:List (κ×V)}{k:κ}(e:p.1=k):fw (p::r) k=some p.2:=by simp[fw,List.find?_cons,e]
theorem iw {p:κ×V}{r:List (κ×V)}{k:κ}(e: ¬p.1=k):fw (p::r) k=fw r k:=by simp[fw,List.find?_cons,e]
theorem pR(k:κ): ∀kvs:List (κ×V),(kvs.any λkv=>decide (kv.1=k))=(fw kvs k).isSome
 | []=>rfl
 |p::r=>by
  rw[List.any_cons]
  by_cases e:p.1=k
  ·simp only[il e,decide_eq_true e,Bool.true_or,Option.isSome_some]
  ·rw[iw e,decide_eq_false e,Bool.false_or];exact pR k r
theorem ir(kvs:List (κ×V))(k:κ)(v:V):(gO kvs k v).length<=kvs.length+1:=by
 unfold gO;split
 ·rw[List.length_map];omega
 ·rw[List.length_append,List.length_cons,List.length_nil];omega
theorem RelO.isSome_eq {o:Option V}{u:Option Value}(r:RelO o u):o.isSome=u.isSome:=by
 cases o with
 |none=>cases u with
  |none=>rfl
  |some _=>exact(show False from r).elim
 |some _=>cases u with
  |none=>exact(show False from r).elim
  |some _=>rfl
theorem KV.val {kvs:List (κ×V)}{vs:List (κ×Value)}(r:KV kvs vs)(k:κ):RelO (fw kvs k) (valueAt vs k):=by
 unfold KV at r
 induction r with
 |nil=>exact True.intro
 | @cons p q ps qs h t ih=>
   obtain⟨h1,h2⟩:=h
   by_cases e:p.1=k
   ·have e':q.1=k:=h1.symm.trans e
    have b:valueAt (q::qs) k=some q.2:=by simp[valueAt,List.find?_cons,e']
    rw[il e,b];exact h2
   ·have e': ¬q.1=k:=λz=>e (h1.trans z)
    have b:valueAt (q::qs) k=valueAt qs k:=by simp[valueAt,List.find?_cons,e']
    rw[iw e,b];exact ih
theorem KV.any {kvs:List (κ×V)}{vs:List (κ×Value)}(r:KV kvs vs)(k:κ):(kvs.any λkv=>decide (kv.1=k))=vs.any λkv=>decide (kv.1=k):=by
 unfold KV at r
 induction r with
 |nil=>rfl
 |cons h t ih=>rw[List.any_cons,List.any_cons,ih,h.1]
theorem KV.repl {kvs:List (κ×V)}{vs:List (κ×Value)}(r:KV kvs vs)(k:κ){y:V}{u:Value}(ry:RelV y u):
 KV (kvs.map λkv=>if kv.1=k then(kv.1,y) else kv) (vs.map λkv=>if kv.1=k then(kv.1,u) else kv):=by
 unfold KV at r⊢
 induction r with
 |nil=>exact .nil
 | @cons p q ps qs h t ih=>
   rw[List.map_cons,List.map_cons];refine .cons ?_ ih
   obtain⟨h1,h2⟩:=h
   by_cases e:p.1=k
   ·rw[if_pos e,if_pos (h1.symm.trans e)];exact⟨h1,ry⟩
   ·rw[if_neg e,if_neg (λz=>e (h1.trans z))];exact⟨h1,h2⟩
theorem KV.put {kvs:List (κ×V)}{vs:List (κ×Value)}(r:KV kvs vs)(k:κ){y:V}{u:Value}(ry:RelV y u):KV (gO kvs k y) (stored vs k u):=by
 unfold gO stored;rw[r.any k]
 by_cases e:(vs.any λkv=>decide (kv.1=k))=true
 ·rw[if_pos e,if_pos e];exact r.repl k ry
 ·rw[if_neg e,if_neg e];exact Paired.snoc r ⟨rfl,ry⟩
theorem KV.length {kvs:List (κ×V)}{vs:List (κ×Value)}(r:KV kvs vs):kvs.length=vs.length:=Paired.length r
end
theorem tS {P:Program}{w:World}{k:aV}{u:Value}(r:RelV (kV k) u):(cz P w).is k u=true:=by
 cases k with
 |inl i=>obtain⟨t,e⟩:=(show∃t,u=Value.int i t from r);subst e;exact oS P w i t
 |inr x=>obtain⟨t,e⟩:=(show∃t,u=Value.str x t from r);subst e;exact p5 P w x t
theorem jJ {P:Program}{w:World}: ∀ {ks:List aV} {us:List Value},Vals (ks.map kV) us->ItemsAre (cz P w) ks us
 | [],_,r=>by rw[List.map_nil] at r;cases r;exact .nil
 |k::ks,_,r=>by
  rw[List.map_cons] at r;cases r with
  |cons h t=>exact .cons (tS h) (jJ t)
abbrev KTd(H:Hp):List (List aV×V)->List (List aV×Addr×Value)->Prop:=Paired λp q=>p.1=q.1/\H q.2.1=some (.tup (p.1.map kV))/\RelV p.2 q.2.2
theorem KTd.val {H:Hp}{kvs:List (List aV×V)}{xs:List (List aV×Addr×Value)}(r:KTd H kvs xs)(k:List aV):RelO (fw kvs k) ((atKey xs k).map (·.2)):=by
 induction r with
 |nil=>exact True.intro
 | @cons p q ps qs h t ih=>
   obtain⟨h1,_,h2⟩:=h
   by_cases e:p.1=k
   ·have e':q.1=k:=h1.symm.trans e
    have b:atKey (q::qs) k=some q.2:=by simp[atKey,List.find?_cons,e']
    rw[il e,b];exact h2
   ·have e': ¬q.1=k:=λz=>e (h1.trans z)
    have b:atKey (q::qs) k=atKey qs k:=by simp[atKey,List.find?_cons,e']
    rw[iw e,b];exact ih
theorem KTd.repl {H:Hp}{kvs:List (List aV×V)}{xs:List (List aV×Addr×Value)}(r:KTd H kvs xs)(k:List aV){y:V}{u:Value}(ry:RelV y u):
 KTd H (kvs.map λkv=>if kv.1=k then(kv.1,y) else kv) (xs.map (putAt k u)):=by
 induction r with
 |nil=>exact .nil
 | @cons p q ps qs h t ih=>
   rw[List.map_cons,List.map_cons];refine .cons ?_ ih
   obtain⟨h1,h2,h3⟩:=h
   unfold putAt
   by_cases e:p.1=k
   ·rw[if_pos e,if_pos (h1.symm.trans e)];exact⟨h1,h2,ry⟩
   ·rw[if_neg e,if_neg (λz=>e (h1.trans z))];exact⟨h1,h2,h3⟩
theorem KTd.put {H:Hp}{kvs:List (List aV×V)}{xs:List (List aV×Addr×Value)}(r:KTd H kvs xs)(k:List aV){b:Addr}{y:V}{u:Value}(hb:H b=some (.tup (k.map kV)))(ry:RelV y u):
 KTd H (gO kvs k y) (storedH xs k b u):=by
 have e:(kvs.any λkv=>decide (kv.1=k))=(atKey xs k).isSome:=by
  rw[pR,(r.val k).isSome_eq,Option.isSome_map]
 unfold gO storedH;rw[e]
 by_cases q:(atKey xs k).isSome=true
 ·rw[if_pos q,if_pos q];exact r.repl k ry
 ·rw[if_neg q,if_neg q];exact Paired.snoc r ⟨rfl,hb,ry⟩
theorem KTd.keeps {H H':Hp}{kvs:List (List aV×V)}{xs:List (List aV×Addr×Value)}(r:KTd H kvs xs)(ht: ∀b ys,H b=some (.tup ys)->H' b=some (.tup ys)):KTd H' kvs xs:=
 Paired.mapP r λ_ _ z=>⟨z.1,ht _ _ z.2.1,z.2.2⟩
section
variable {P:Program}{w:World}{H:Hp}{h:Heap}{a:Addr}
theorem zh {u:HO}(ok:HOk P w H h)(e:Rd H a u):ObjOk P w H h a u:=e.ok ok
theorem xj {kvs:List (aV×V)}(ok:HOk P w H h)(e:Rd H a (.dK kvs)):kvs.length<=sizeLine/\(a==sysModules)=false/\ ∃vs,KV kvs vs/\h.DictOf (cz P w) a vs:=
 show ObjOk P w H h a (.dK kvs) from zh ok e
theorem zc {kvs:List (aV×V)}(ok:HOk P w H h)(e:H a=some (.dK kvs)):kvs.length<=sizeLine/\(a==sysModules)=false/\ ∃vs,KV kvs vs/\h.DictOf (cz P w) a vs:=xj ok (.inl e)
theorem qT {ks:List aV}(ok:HOk P w H h)(e:H a=some (.tup (ks.map kV))):(tupleKind (cz P w)).is h ks a:=by
 obtain⟨_,its,r,⟨o,h1,h2,n,h3⟩,_⟩:=(show ObjOk P w H h a (.tup (ks.map kV)) from ok a _ e)
 exact⟨o,its.toArray,n,h1,h2,h3,by simpa using jJ r⟩
theorem wD {kvs:List (List aV×V)}(ok:HOk P w H h)(e:Rd H a (.dT kvs)):kvs.length<=sizeLine/\(a==sysModules)=false/\
 ∃xs,KTd H kvs xs/\h.DictOfH (tupleKind (cz P w)) a xs:=by
 obtain⟨z,y,xs,r,o,es,ep,h1,h2,h3,h4,h5⟩:=(show ObjOk P w H h a (.dT kvs) from zh ok e)
 refine⟨z,y,xs,r,o,es,ep,h1,h2,h3,h4,λx hx=>?_,h5⟩
 have all: ∀ {l:List (List aV×V)} {m:List (List aV×Addr×Value)},KTd H l m-> ∀x∈m,(tupleKind (cz P w)).is h x.1 x.2.1:=by
  intro l m q
  induction q with
  |nil=>intro x hx;exact nomatch hx
  | @cons p q ps qs hq t ih=>
    intro x hx;rcases List.mem_cons.mp hx with e|hx
    ·subst e
     exact qT ok (by rw[<-hq.1];exact hq.2.1)
    ·exact ih x hx
 exact all r x hx
theorem pg {kvs:List (List aV×V)}(ok:HOk P w H h)(e:H a=some (.dT kvs)):kvs.length<=sizeLine/\(a==sysModules)=false/\
 ∃xs,KTd H kvs xs/\h.DictOfH (tupleKind (cz P w)) a xs:=wD ok (.inl e)
end
def DGet(H:Hp)(a:Addr)(y:V)(r:Option V):Prop:=
 (∃kvs k,Rd H a (.dK kvs)/\y=kV k/\r=fw kvs k)\/ ∃kvs k b,Rd H a (.dT kvs)/\y=.ref b/\H b=some (.tup (k.map kV))/\r=fw kvs k
def DPut(H:Hp)(a:Addr)(y v:V)(H':Hp):Prop:=
 (∃kvs k,H a=some (.dK kvs)/\y=kV k/\kvs.length<sizeLine/\H'=bd H a (.dK (gO kvs k v)))\/
 ∃kvs k b,H a=some (.dT kvs)/\y=.ref b/\H b=some (.tup (k.map kV))/\kvs.length<sizeLine/\H'=bd H a (.dT (gO kvs k v))
theorem DGet.k {H:Hp}{a:Addr}{kvs:List (aV×V)}{k:aV}(e:H a=some (.dK kvs)):DGet H a (kV k) (fw kvs k):=.inl ⟨kvs,k,.inl e,rfl,rfl⟩
theorem DPut.k {H:Hp}{a:Addr}{kvs:List (aV×V)}{k:aV}{v:V}(e:H a=some (.dK kvs))(hl:kvs.length<sizeLine):DPut H a (kV k) v (bd H a (.dK (gO kvs k v))):=.inl ⟨kvs,k,e,rfl,hl,rfl⟩
theorem DPut.t {H:Hp}{a b:Addr}{kvs:List (List aV×V)}{k:List aV}{v:V}(e:H a=some (.dT kvs))(eb:H b=some (.tup (k.map kV)))(hl:kvs.length<sizeLine):
 DPut H a (.ref b) v (bd H a (.dT (gO kvs k v))):=.inr ⟨kvs,k,b,e,rfl,eb,hl,rfl⟩
section
variable {X:Cx}{ae:List (Addr×Obj)}{σ:St}{H:Hp}{s:Shared}{a:Addr}{y v:V}{u r:Value}{o:Option V}{A:Around}{E:Value->Shared->Prop}
theorem Inv.big(I:Inv X ae σ H s):sysModules<s.heap.objs.size:=by
 have h:mainGlobals<s.heap.objs.size:=(I.mod.glob.keeps I.bk).lt
 exact Nat.lt_trans (by decide) h
theorem u5 {Q:Value->Shared->Prop}(hu:A.units+1<cLine)(I:Inv X ae σ H s)(g:DGet H a y (some v))(ry:RelV y u)(h: ∀w' s',Inv X ae σ H s'->RelV v w'->Q w' s'):
 wpAny (model X.prog X.w) A (getItem (.ref a) u) Q E s:=by
 rcases g with⟨kvs,k,e,ey,l⟩|⟨kvs,k,b,e,ey,eb,l⟩
 ·subst ey
  obtain⟨z,hd,vs,rel,dd⟩:=xj I.hok e
  obtain⟨w',hw,rw'⟩:=RelO.some_of (v:=v) (o:=valueAt vs k) (by rw[l];exact rel.val k)
  exact wpAny_getItem_of (tS ry) dd.mapOf hw (h w' _ (I.tok _) rw')
 ·subst ey
  cases (show u=Value.ref b from ry)
  obtain⟨z,hd,xs,rel,dd⟩:=wD I.hok e
  obtain⟨w',hw,rw'⟩:=RelO.some_of (v:=v) (o:=(atKey xs k).map (·.2)) (by rw[l];exact rel.val k)
  obtain⟨p,hp,hp2⟩:=Option.map_eq_some_iff.mp hw
  refine wpAny_getItem_heap (tupleKind_room_in1 hu) (qT I.hok eb) dd hp ?_
  rw[hp2];exact h w' _ (I.tok _) rw'
theorem nO {h':Heap}{t':Nat}{ob:HO}(I:Inv X ae σ H s)(mu:AQ (H a))(hs:Heap.SameBut a s.heap h')(he: ∃q,h'.get? a=some q)(new:ObjOk X.prog X.w (bd H a ob) h' a ob):
 Inv X ae σ (bd H a ob) {s with heap:=h',toks:=t'}:=
 I.write (x:=a) (e:=a) mu (.inl rfl) (λb q hb z=>(hs.2 b hb).trans z) he new
theorem vD {P:Program}{w:World}{H':Hp}{h':Heap}{kvs:List (aV×V)}{vs:List (aV×Value)}(z:kvs.length<=sizeLine)(hd:(a==sysModules)=false)(rel:KV kvs vs)(dd:h'.DictOf (cz P w) a vs):
 ObjOk P w H' h' a (.dK kvs):=⟨z,hd,vs,rel,dd⟩
theorem nh {H':Hp}{Q:Unit->Shared->Prop}(hu:A.units+1<cLine)(I:Inv X ae σ H s)(g:DPut H a y v H')(ry:RelV y u)(rv:RelV v r)(h: ∀s',Inv X ae σ H' s'->Q () s'):
 wpAny (model X.prog X.w) A (setItem (.ref a) u r) Q E s:=by
 rcases g with⟨kvs,k,e,ey,l,eH⟩|⟨kvs,k,b,e,ey,eb,l,eH⟩
 ·subst ey eH
  obtain⟨z,hd,vs,rel,dd⟩:=zc I.hok e
  have hz:vs.length<=sizeLine:=by rw[<-rel.length];exact z
  have hl:(gO kvs k v).length<=sizeLine:=by have:=ir kvs k v;omega
  refine wpAny_setItem_pairs (hsz:=hz) (tS ry) dd λh' dd' hs=>h _ ?_
  have he: ∃q,h'.get? a=some q:=let⟨q,_,_,hq,_⟩:=dd';⟨q,hq⟩
  exact nO I (by rw[e];exact True.intro) hs he (vD hl hd (rel.put k rv) dd')
 ·subst ey eH
  cases (show u=Value.ref b from ry)
  obtain⟨z,hd,xs,rel,dd⟩:=pg I.hok e
  have hz:xs.length<=sizeLine:=by rw[<-Paired.length rel];exact z
  have hl:(gO kvs k v).length<=sizeLine:=by have:=ir kvs k v;omega
  refine wpAny_setItem_heap (hsz:=hz) (tupleKind_room_in1 hu) (qT I.hok eb) dd λh' dd' hs=>h _ ?_
  obtain⟨q,es,ep,hq,h2,h3,h4,_,h5⟩:=dd'
  refine nO I (by rw[e];exact True.intro) hs ⟨q,hq⟩ ⟨hl,hd,_,(rel.put k eb rv).keeps λc ys ec=>?_,q,es,ep,hq,h2,h3,h4,h5⟩
  rw[aC (Bz ec e (λz=>nomatch z))]
  exact ec
end
def vc(i:Expr):Prop:= ∀ov iv,subscripted i false ov iv=operate [ov,iv] (getItem ov iv)
theorem tE {prog:Program}{w:World}{A:Around}{E:Value->Shared->Prop}{s:Shared}{env:Env}{value slice:Expr}{pos:Pos}{T id:String}{Q:Value->Shared->Prop}
 (hl:typeLookup (.type T) "__getitem__"=pure (some (.builtin id))) (hs:vc slice)
 (h:wpAny (model prog w) A (eval value env) (λo s₁=>wpAny (model prog w) A (eval slice env) (λi s₂=>s₂.TypeIs o T/\wpAny (model prog w) A (getItem o i) Q E s₂) E s₁) E s):
 wpAny (model prog w) A (eval (.Subscript value slice pos) env) Q E s:=by
 refine Subscript_ (wpAny_mono h (λo s₁ h₁=>wpAny_mono h₁ (λi s₂ h₂=>?_) λ_ _ x=>x) λ_ _ x=>x)
 obtain⟨hT,h₂⟩:=h₂
 unfold subscriptTail;refine wpAny_bind ?_
 rw[getitemInPython_of_ne hT.not_modules];refine wpAny_bind (wpAny_specialOf hT hl ?_)
 have fin:wpAny (model prog w) A (subscripted slice false o i) (λr s₃=>wpAny (model prog w) A (letTemporaryGo value o r>>=λ_=>pure r) Q E s₃) E s₂:=by
  rw[hs o i];exact wpAny_operating (wpAny_mono h₂ (λr s₃ h₃=>wpAny_bind (wpAny_letTemporaryGo (wpAny_pure h₃))) λ_ _ x=>x)
 first
  |exact wpAny_pure (wpAny_bind fin)
  |exact wpAny_bind (wpAny_pure (wpAny_bind fin))
  |exact wpAny_bind fin
theorem qm {X:Cx}{ae:List (Addr×Obj)}{σ:St}{H:Hp}{s:Shared}{a:Addr}{y:V}{o:Option V}(I:Inv X ae σ H s)(g:DGet H a y o):s.TypeIs (.ref a) "dict":=by
 rcases g with⟨kvs,k,e,_,_⟩|⟨kvs,k,b,e,_,_,_⟩
 ·obtain⟨_,_,vs,_,dd⟩:=xj I.hok e
  exact dd.typeIs
 ·obtain⟨_,_,xs,_,dd⟩:=wD I.hok e
  exact dd.typeIs
def BX(td ty:TE):TE:=λσ H Q=>td σ H λx H1=>ty σ H1 λy H2=> ∃a v,x=.ref a/\DGet H2 a y (some v)/\Q v H2
def BS(td ty tv:TE):TS:=λD σ H=>tv σ H λv H1=>td σ H1 λx H2=>ty σ H2 λy H3=> ∃a H4,x=.ref a/\DPut H3 a y v H4/\D.nx σ H4
section
variable {X:Cx}{o i e value:Expr}{pos pos' tpos:Pos}{td ty tv:TE}
theorem xB(hu:X.A.units+1<cLine)(ho:PE X o td)(hi:PE X i ty)(hs:vc i):PE X (.Subscript o i pos) (BX td ty):=by
 intro ae s σ H Q I h;refine tE PySem.F.slot_dict_getitem.lookup hs (bq (ho ae s σ H _ I h) λu s1 ⟨x,H1,I1,rx,q1⟩=>bq (hi ae s1 σ H1 _ I1 q1) λiv s2 hq_=>?_)
 obtain⟨y,H2,I2,ry,a,v,ex,g,q2⟩:=hq_
 subst ex;obtain rfl:u=Value.ref a:=rx
 exact⟨qm I2 g,u5 hu I2 g ry λw' s3 I3 rw'=>⟨v,H2,I3,rw',q2⟩⟩
theorem yc(hu:X.A.units+1<cLine)(ho:PE X o td)(hi:PE X i ty)(hv:PE X value tv)(hs:swapsWith value (some (.Subscript o i pos')) pos.line X.env=pure false):
 PS X (.Assign [.Subscript o i pos'] value pos) (BS td ty tv):=by
 intro ae s σ H D I h;refine wpAny_Assign_Subscript (bq (hv ae s σ H _ I h) λr s1 ⟨v,H1,I1,rv,q1⟩=>bq (ho ae s1 σ H1 _ I1 q1) λu s2 ⟨x,H2,I2,rx,q2⟩=>bq (hi ae s2 σ H2 _ I2 q2) λiv s3 ⟨y,H3,I3,ry,a,H4,ex,g,q3⟩=>?_) hs
 subst ex;obtain rfl:u=Value.ref a:=rx
 exact nh hu I3 g ry rv λs4 I4=>⟨σ,H4,I4,q3⟩
end
theorem wP {P:Program}{w:World}{H:Hp}(h:Heap)(hb:sysModules<h.objs.size):ObjOk P w H (h.push {cls:=.type "dict",data:=.dict #[]}) h.objs.size (.dK []):=
 ⟨Nat.zero_le _,beq_eq_false_iff_ne.mpr (Ne.symm (Nat.ne_of_lt hb)),[],.nil,Heap.DictOf.new h⟩
theorem vg {P:Program}{w:World}{H:Hp}(h:Heap)(hb:sysModules<h.objs.size):ObjOk P w H (h.push {cls:=.type "dict",data:=.dict #[]}) h.objs.size (.dT []):=
 ⟨Nat.zero_le _,beq_eq_false_iff_ne.mpr (Ne.symm (Nat.ne_of_lt hb)),[],.nil,_, #[],0,Heap.get?_push_size _ rfl,⟨rfl,rfl,rfl⟩,rfl,rfl,List.nodup_nil⟩
def AW:TE:=λ_ H Q=> ∀p,H p=none->Q (.ref p) (bd H p (.dT []))
section
variable {X:Cx}{pos:Pos}
theorem wR:PE X (.Dict [] [] pos) AW:=λae s σ H Q I h=>
 wpAny_Dict_empty ⟨.ref s.heap.objs.size,_,I.laid (a:=s.heap.objs.size) (o:=.dT []) (t':=s.toks) (λ_ _ q=>Heap.get?_push_of_some _ q) (Nat.le_refl _) (vg s.heap I.big),rfl,h _ (I.hok.fresh (Nat.le_refl _))⟩
end
end L2
namespace PySem
open Sem (wp)
end PySem
namespace L2
open PySem PySem.Spec PyProof.Rows
end L2
namespace PySem
end PySem
namespace L2
open PySem PySem.Spec PyProof.Rows
def wN(i:Nat)(ρ:aG):Option (List (aV×D)):=match ρ[i]? with
 |some (.ob (.dK kvs))=>some kvs
 |_=>none
theorem uL {i:Nat}{ρ:aG}{kvs:List (aV×D)}(h:wN i ρ=some kvs):ρ[i]? =some (.ob (.dK kvs)):=by
 unfold wN at h;split at h
 ·cases h;assumption
 ·cases h
def tK:D->Option aV
 | .int i=>some (.inl i)
 |_=>none
theorem mh {d:D}{k:aV}(h:tK d=some k): ∃i,d=.int i/\k=.inl i:=by
 unfold tK at h;split at h
 ·cases h;exact⟨_,rfl,rfl⟩
 ·cases h
def eV(kvs:List (aV×D))(k:aV):Option D:=(kvs.find? λkv=>decide (kv.1=k)).map (·.2)
def mx(kvs:List (aV×D))(k:aV)(d:D):List (aV×D):=
 if(kvs.any λkv=>decide (kv.1=k))=true then kvs.map (λkv=>if kv.1=k then(kv.1,d) else kv) else kvs++[(k,d)]
def KRl(K:W.Frag)(F:Hp)(us:List (aV×V))(kvs:List (aV×D)):Prop:=us.map (·.1)=kvs.map (·.1)/\Reps K F (us.map (·.2)) (kvs.map (·.2))
theorem KRl.inv {K:W.Frag}{F:Hp}: ∀ {us:List (aV×V)} {kvs:List (aV×D)},KRl K F us kvs->(us=[]/\kvs=[])\/ ∃k v us' d kvs',us=(k,v)::us'/\kvs=(k,d)::kvs'/\Rep K F v d/\KRl K F us' kvs'
 | [],[],_=>.inl ⟨rfl,rfl⟩
 | [],_::_,h=>by cases h.1
 |_::_,[],h=>by cases h.1
 |(k,v)::us,(k',d)::kvs,h=>by
  obtain⟨h1,h2⟩:=h
  rw[List.map_cons,List.map_cons] at h1 h2;injection h1 with e1 e2
  cases h2 with
  |cons r rs=>
   have e1:k=k':=e1
   subst e1;exact .inr ⟨k,v,us,d,kvs,rfl,rfl,r,e2,rs⟩
theorem KRl.val {K:W.Frag}{F:Hp}(k:aV): ∀ {us:List (aV×V)} {kvs:List (aV×D)},KRl K F us kvs->(fw us k=none/\eV kvs k=none)\/ ∃v d,fw us k=some v/\eV kvs k=some d/\Rep K F v d:=by
 intro us
 induction us with
 |nil=>
  intro kvs h;rcases h.inv with⟨_,rfl⟩|⟨_,_,_,_,_,e,_⟩
  ·exact .inl ⟨rfl,rfl⟩
  ·cases e
 |cons p us ih=>
  intro kvs h;rcases h.inv with⟨e,_⟩|⟨k',v,us',d,kvs',e,rfl,r,rs⟩
  ·cases e
  ·cases e
   by_cases ek:k'=k
   ·exact .inr ⟨v,d,il ek,by simp[eV,List.find?_cons,ek],r⟩
   ·have e1:fw ((k',v)::us) k=fw us k:=iw ek
    have e2:eV ((k',d)::kvs') k=eV kvs' k:=by simp[eV,List.find?_cons,ek]
    rw[e1,e2];exact ih rs
theorem KRl.any {K:W.Frag}{F:Hp}(k:aV){us:List (aV×V)}{kvs:List (aV×D)}(h:KRl K F us kvs):(us.any λkv=>decide (kv.1=k))=kvs.any λkv=>decide (kv.1=k):=by
 have e1:(us.any λkv=>decide (kv.1=k))=(us.map (·.1)).any λx=>decide (x=k):=by rw[List.any_map];rfl
 have e2:(kvs.any λkv=>decide (kv.1=k))=(kvs.map (·.1)).any λx=>decide (x=k):=by rw[List.any_map];rfl
 rw[e1,e2,h.1]
theorem KRl.cons {K:W.Frag}{F:Hp}{k:aV}{v:V}{d:D}{us:List (aV×V)}{kvs:List (aV×D)}(r:Rep K F v d)(h:KRl K F us kvs):KRl K F ((k,v)::us) ((k,d)::kvs):=⟨by rw[List.map_cons,List.map_cons,h.1],.cons r h.2⟩
theorem KRl.repl {K:W.Frag}{F:Hp}(k:aV){v:V}{d:D}(r:Rep K F v d): ∀ {us:List (aV×V)} {kvs:List (aV×D)},KRl K F us kvs->KRl K F (us.map (λkv=>if kv.1=k then(kv.1,v) else kv)) (kvs.map (λkv=>if kv.1=k then(kv.1,d) else kv)):=by
 intro us
 induction us with
 |nil=>
  intro kvs h;rcases h.inv with⟨_,rfl⟩|⟨_,_,_,_,_,e,_⟩
  ·exact h
  ·cases e
 |cons p us ih=>
  intro kvs h;rcases h.inv with⟨e,_⟩|⟨k',v',us',d',kvs',e,rfl,r',rs⟩
  ·cases e
  ·cases e
   rw[List.map_cons,List.map_cons]
   by_cases ek:k'=k
   ·rw[if_pos ek,if_pos ek];exact KRl.cons r (ih rs)
   ·rw[if_neg ek,if_neg ek];exact KRl.cons r' (ih rs)
theorem KRl.put {K:W.Frag}{F:Hp}(k:aV){v:V}{d:D}(r:Rep K F v d){us:List (aV×V)}{kvs:List (aV×D)}(h:KRl K F us kvs):KRl K F (gO us k v) (mx kvs k d):=by
 unfold gO mx;rw[h.any k];split
 ·exact h.repl k r
 ·refine⟨by rw[List.map_append,List.map_append,h.1];rfl,?_⟩
  rw[List.map_append,List.map_append];exact h.2.append (.cons r .nil)
theorem KRl.len {K:W.Frag}{F:Hp}{us:List (aV×V)}{kvs:List (aV×D)}(h:KRl K F us kvs):us.length=kvs.length:=by
 have:=congrArg List.length h.1
 simpa using this
section
variable {K:W.Frag}{c:Ct}{hid:bn}{ρ:aG}{σ:St}{H:Hp}{a:Addr}
theorem SR.dict(h:SR K c hid ρ σ H){i:Nat}{kvs:List (aV×D)}(e:wN i ρ=some kvs): ∃a us,σ[i]? =some (some (.ref a))/\hid a=true/\c.H₀ a=none/\H a=some (.dK us)/\KRl K (vw H hid) us kvs:=by
 obtain⟨a,h1,⟨h2,h3⟩,us,h4,h5,h6⟩:=h.sl i _ (uL e)
 exact⟨a,us,h1,h2,h3,h4,h5,h6⟩
theorem SR.setD {b:Ob}(h:SR K c hid ρ σ H)(ho:ObOk K c hid H a b)(no: ∀i:Nat,Ow ρ[i]? ->σ[i]? ≠some (some (.ref a)))(i:Nat):
 SR K c hid (ρ.set i (.ob b)) (σ.set i (some (.ref a))) H:=by
 refine⟨h.tr,h.ht,h.h0,h.kp,h.t0,h.c0,h.m0,by simp[h.len],λj s q=>?_,λj l z n o1 o2 q1 q2=>?_⟩
 ·by_cases e:j=i
  ·subst e
   have lt:j<ρ.length:=by
    have:=(List.getElem?_eq_some_iff.mp q).1
    simpa using this
   rw[List.getElem?_set_self lt] at q;cases q
   exact⟨a,List.getElem?_set_self (by rw[h.len];exact lt),ho⟩
  ·rw[List.getElem?_set_ne (Ne.symm e)] at q
   have w:=h.sl j s q
   have es:(σ.set i (some (V.ref a)))[j]? =σ[j]? :=List.getElem?_set_ne (Ne.symm e)
   cases s with
   |no=>trivial
   |v d=>obtain⟨x,h1,h2⟩:=w;exact⟨x,es.trans h1,h2⟩
   |own ds=>obtain⟨a,xs,h1,h2⟩:=w;exact⟨a,xs,es.trans h1,h2⟩
   |arg ds=>obtain⟨a,xs,h1,h2⟩:=w;exact⟨a,xs,es.trans h1,h2⟩
   |ob b=>obtain⟨a,h1,h2⟩:=w;exact⟨a,es.trans h1,h2⟩
 ·by_cases e1:j=i
  ·subst e1
   have e2:l≠j:=λe=>n e.symm
   rw[List.getElem?_set_ne (Ne.symm e2)] at o2 q2
   by_cases lt:j<σ.length
   ·rw[List.getElem?_set_self lt] at q1;cases q1;exact no l o2 q2
   ·rw[List.getElem?_eq_none (by simpa using lt)] at q1;cases q1
  ·rw[List.getElem?_set_ne (Ne.symm e1)] at o1 q1
   by_cases e2:l=i
   ·subst e2
    by_cases lt:l<σ.length
    ·rw[List.getElem?_set_self lt] at q2;cases q2;exact no j o1 q1
    ·rw[List.getElem?_eq_none (by simpa using lt)] at q2;cases q2
   ·rw[List.getElem?_set_ne (Ne.symm e2)] at o2 q2
    exact h.ap j l z n o1 o2 q1 q2
theorem ObOk.kind {b:Ob}(h:ObOk K c hid H a b)(o:nC b): ∃u,H a=some u/\ ∀p v,u≠ .nst p v:=by
 cases b with
 |nst us=>obtain⟨_,_,e,_⟩:=h;exact⟨_,e,nofun⟩
 |dR kvs=>exact o.elim
 |dRs l=>exact o.elim
 |exc x n=>exact o.elim
 |dK kvs=>obtain⟨_,_,e,_⟩:=h;exact⟨_,e,nofun⟩
 |dT kvs=>obtain⟨_,_,e,_⟩:=h;exact⟨_,e,nofun⟩
 |set ds=>obtain⟨_,_,e,_⟩:=h;exact⟨_,e,nofun⟩
 |old d=>exact o.elim
 |jnk=>obtain⟨_,_,e⟩:=h;exact⟨_,e,nofun⟩
 |tset ks=>obtain⟨_,_,e,_⟩:=h;exact⟨_,e,nofun⟩
 |dF kvs=>obtain⟨_,_,_,e,_⟩:=h;exact⟨_,e,nofun⟩
theorem SR.putO {x:Addr}{i:Nat}{b b':Ob}{o':HO}(h:SR K c hid ρ σ H)(hg:ρ[i]? =some (.ob b))(ow:nC b)(ow':nC b')(ha:σ[i]? =some (some (.ref a)))(hx:At H a x)(h2:hid x=true)(h3:c.H₀ x=none)
 (nt: ∀xs,o'≠ .tup xs) (new:ObOk K c hid (bd H x o') a b'):SR K c hid (ρ.set i (.ob b')) σ (bd H x o'):=by
 have lt:i<ρ.length:=(List.getElem?_eq_some_iff.mp hg).1
 have vv:vw (bd H x o') hid=vw H hid:=cv h2
 have tr': ∀b o,H b=some o-> ∃o2,(bd H x o') b=some o2:=λb o q=>by
  by_cases e:b=x
  ·subst e;exact⟨_,aE⟩
  ·exact⟨o,by rw[aC e];exact q⟩
 have owi:Ow ρ[i]? :=by rw[hg];exact ow
 obtain⟨a2,ha2,kb⟩:=h.sl i _ hg
 rw[ha] at ha2;cases ha2;obtain⟨w,kw,kn⟩:=kb.kind ow
 have ne: ∀(j:Nat) (s:Sl) (a' y:Addr) (w':HO),j≠i->ρ[j]? =some s->Ow (some s)->σ[j]? =some (some (.ref a'))->H a'=some w'->(∀p v,w'≠ .nst p v)->At H a' y->y≠x:=λj s a' y w' n e o q hw wn hy=>by
  have na:a'≠a:=λz=>by subst z;exact h.ap j i a' n (by rw[e];exact o) owi q ha
  rcases hx with rfl|⟨u,hu⟩
  ·exact hy.ne na kw kn
  ·intro z
   subst z;rcases hy with rfl|⟨u',hu'⟩
   ·rw[hw] at hu;exact wn _ _ (Option.some.inj hu)
   ·rw[hu] at hu';cases hu';exact na rfl
 have ows: ∀j:Nat,Ow (ρ.set i (.ob b'))[j]? ->Ow ρ[j]? :=λj o=>by
  by_cases e:j=i
  ·subst e;exact owi
  ·rw[List.getElem?_set_ne (Ne.symm e)] at o;exact o
 refine⟨λb hb=>let⟨o,q⟩:=h.tr b hb;tr' b o q,λb xs hb q=>by
  by_cases e:b=x
  ·subst e;rw[aE] at q;exact nt xs (Option.some.inj q)
  ·rw[aC e] at q;exact h.ht b xs hb q,h.h0,λb o q m=>?_,λb o q=>let⟨o2,q2⟩:=h.t0 b o q;tr' b o2 q2,h.c0,h.m0,by simp[h.len],λj s e=>?_,λj l z n o1 o2=>h.ap j l z n (ows j o1) (ows l o2)⟩
 ·rw[aC (aT q h3)];exact h.kp b o q m
 ·by_cases ej:j=i
  ·subst ej
   rw[List.getElem?_set_self lt] at e;cases e
   exact⟨a,ha,new⟩
  ·rw[List.getElem?_set_ne (Ne.symm ej)] at e
   have z:=h.sl j s e
   cases s with
   |no=>trivial
   |v d=>obtain⟨x,h1,h2⟩:=z;exact⟨x,h1,by rw[vv];exact h2⟩
   |own ds=>obtain⟨a',xs,h1,h2,h3,h4,h5⟩:=z;exact⟨a',xs,h1,by rw[aC (ne j _ a' a' _ ej e trivial h1 h2 nofun (.inl rfl))];exact h2,h3,h4,by rw[vv];exact h5⟩
   |arg ds=>obtain⟨a',xs,h1,h2,h3,h4,h5⟩:=z;exact⟨a',xs,h1,by rw[aC (ne j _ a' a' _ ej e trivial h1 h2 nofun (.inl rfl))];exact h2,h3,h4,by rw[vv];exact h5⟩
   |ob b=>
    obtain⟨a',h1,h2⟩:=z
    exact⟨a',h1,h2.mono (λow y hy o q=>by
     obtain⟨w',hw,wn⟩:=h2.kind ow
     rw[aC (ne j _ a' y w' ej e ow h1 hw wn hy)];exact q) (by rw[vv];exact Same.refl _) λ_ _ _ q=>q⟩
end
section
variable {X:Cx}{c:Ct}{k k1 k2:Kd}{e f ek ev:Expr}{fe ff fk fv:FE}{pos pos' py apos cpos p:Pos}{x y:Str}
def yT(i:Nat)(fk:FE):FE:=λρ=>(wN i ρ).bind λkvs=>((fk ρ).bind tK).bind λk=>eV kvs k
theorem xi(i:Nat)(hu:X.A.units+1<cLine)(he:DP X c k1 e fe)(hs:vc e)(hN:X.N[i]? =some y:=by rfl)(hv':nT X.env.scope y:=by first|exact Or.inl rfl|exact Or.inr (Or.inl rfl)|exact Or.inr (Or.inr rfl))(hd:(y==("__debug__":Str))=false:=by decide)
 (hcd:(y==("__classdict__":Str))=false:=by decide):DP X c .s (.Subscript (.Name y py) e pos) (yT i fe):=λhid ρ=>
 PE.imp (xB hu (pv i hN hv' hd hcd) (he hid ρ) hs) λσ H Q hq_=>by
  obtain⟨sr,d,hd,q⟩:=hq_
  obtain⟨kvs,e0,hd⟩:=Option.bind_eq_some_iff.mp hd
  obtain⟨kk,e1,hd⟩:=Option.bind_eq_some_iff.mp hd
  obtain⟨dk,e3,e4⟩:=Option.bind_eq_some_iff.mp e1
  obtain⟨j,rfl,rfl⟩:=mh e4
  obtain⟨a,us,a1,a2,a3,a4,a5⟩:=sr.dict e0
  refine⟨.ref a,a1,sr,_,e3,λz H2 s2 r2=>?_⟩
  have i1:=(RK.b k1 r2 λa n=>sr.fresh n).int
  cases i1
  have hh:H2 a=some (.dK us):=s2 _ _ a4
  have rr:KRl X.K (vw H2 hid) us kvs:=⟨a5.1,a5.2.mono (aI s2)⟩
  rcases rr.val (Sum.inl j) with⟨v1,v2⟩|⟨v,d',v1,v2,v3⟩
  ·rw[v2] at hd;cases hd
  ·rw[v2] at hd;cases hd
   exact⟨a,v,rfl,v1▸DGet.k (k:=Sum.inl j) hh,q _ H2 s2 v3⟩
end
open PySem PySem.W PySem.Spec PyProof.Rows
section
variable {prog:Program}{w:World}{A:Around}{E:Value->Shared->Prop}{s:Shared}
theorem rX {T:String}{r d:Addr}{n:Nat}{P:Nat->Value->Prop}{OK:Heap->Prop}{R:List Value->Shared->Prop}(src:KdlSrc prog w T r d n P OK)(calm:A.handled=none)(good:OK s.heap)(few:n<=sizeLine)
 (q: ∀(g:Heap) (tk:Nat) (us:Array Value),(∀b o,s.heap.get? b=some o->g.get? b=some o)->s.heap.objs.size<g.objs.size->ItemsOf P us n->R us.toList {s with heap:=g,toks:=tk}):wpAny (model prog w) A (collect (.ref r)) R E s:=by
 obtain⟨rl,dl⟩:=src.there _ good
 unfold collect;refine wpAny_bind (wpAny_runValue (codeAny_builtin F.entry_proto_collect ?_))
 rw[Around.under_plainId F.plain_proto_collect _];show wpAny _ A.in1 (newList []>>=λz=>again (.builtin "list.__iadd__" ⟨[z,.ref r],[]⟩)) _ _ s
 refine wpAny_bind (wpAny_newObj_type (wpAny_pure ⟨plainId_quiet F.plain_list_iadd _,codeAny_builtin F.entry_list_iadd ?_⟩))
 rw[Around.under_plainId F.plain_list_iadd _];show wpAny _ A.in1 (Builtin.List.listExtendWith (.ref s.heap.objs.size) (.ref r) (.ref s.heap.objs.size)) _ _ _;have last: ∀(g:Heap) (tk:Nat) (us:Array Value) (m:Nat),(∀b o,s.heap.get? b=some o->g.get? b=some o)->g.get? s.heap.objs.size=some {cls:=.type "list",dict:=none,data:=.seq us m,slots:= #[]}->ItemsOf P us n->
  wpAny (model prog w) A (do
   match (<-load s.heap.objs.size).data with
    |Data.seq xs _=>pure xs.toList
    |_=>unsupported "internal:collect") R E {s with heap:=g,toks:=tk}:=λg tk us m kg hg hi=>wpAny_bind (wpAny_load hg (wpAny_pure (q g tk us kg (Heap.lt_size hg) hi)))
 have ext:=kdl_extend (A:=A) (s:={s with heap:=s.heap.push {cls:=.type "list",data:=.seq ([]:List Value).toArray}})
  (R:=λz t=> ∃(g:Heap) (tk:Nat) (us:Array Value) (m:Nat),z=.ok (.ret (.ref s.heap.objs.size))/\t={s with heap:=g,toks:=tk}/\(∀b o,s.heap.get? b=some o->g.get? b=some o)/\g.get? s.heap.objs.size=some {cls:=.type "list",dict:=none,data:=.seq us m,slots:= #[]}/\ItemsOf P us n)
  src calm (src.keep _ _ good λb _ o e=>Heap.get?_push_of_some _ e) s.heap.objs.size (Nat.ne_of_gt rl) (Nat.ne_of_gt dl) (.ref s.heap.objs.size) 0 (Heap.get?_push_size _ rfl)
  (λg tk us m kg hg hi=>⟨g,tk,us,m,rfl,rfl,λb o e=>kg b o (Nat.ne_of_lt (Heap.lt_size e)) (Heap.get?_push_of_some _ e),hg,hi⟩) few
 refine wpAny_mono ext (λz t h=>?_) λz t h=>by obtain⟨_,_,_,_,e,_⟩:=h;cases e
 cases z with
 |done f=>obtain⟨g,tk,us,m,e,rfl,kg,hg,hi⟩:=h;cases e;exact last g tk us m kg hg hi
 |again c=>exact⟨h.1,codeAny_mono h.2 λz t' hr=>by obtain⟨g,tk,us,m,rfl,rfl,kg,hg,hi⟩:=hr;exact last g tk us m kg hg hi⟩
end
section
variable {X:Cx}{c:Ct}{pos p py:Pos}{x y:Str}
theorem mK {K:W.Frag}{F:Hp}: ∀ms:List Int,Reps K F (ms.map V.int) (ms.map D.int)
 | []=>.nil
 |m::ms=>.cons .int (mK ms)
end
theorem uX(ns:List Int): ∀j,j<=ns.length->preSum (λi=>ns.getD i 0) j=(ns.take j).sum:=by
 intro j
 induction j with
 |zero=>intro _;rfl
 |succ j ih=>
  intro h;have e:ns.take (j+1)=ns.take j++[ns.getD j 0]:=by
   rw[List.take_succ,List.getElem?_eq_getElem (by omega),List.getD_eq_getElem?_getD,List.getElem?_eq_getElem (by omega)];rfl
  rw[e,List.sum_append,<-ih (by omega)]
  show preSum (λi=>ns.getD i 0) j+ns.getD j 0=_
  simp
section
variable {X:Cx}{c:Ct}
theorem vU(hc:X.calm=true):eB X (.builtin "sum") (λxs H Q=> ∃(a:Addr) (ys:List V) (ns:List Int),xs=[.ref a]/\SqL X.K H a ys/\Reps X.K H ys (ns.map D.int)/\Q (.int ns.sum) H):=by
 intro ae s σ H xs us Q I r h;obtain⟨a,ys,ns,rfl,h1,h2,q⟩:=h
 obtain⟨u,rfl,rx⟩:=gS r
 cases rx
 obtain⟨its,rv,pl,hz⟩:=I.list h1
 have hlt:a<s.heap.objs.size:=by obtain⟨o,n,e,_⟩:=pl;exact Heap.lt_size e
 have hv:=sH rv h2
 have l1:=rv.length
 have l2:=h2.length
 rw[List.length_map] at l2;refine call_sum_walkAnyS (wpAny_pyIter_list pl.isList ?_)
 refine⟨s.heap.objs.size,_,_,_,_,_,_,λi=>ns.getD i 0,rfl,(Walks.list (A:=X.A.in1) (I.ok.hd hc) s.heap.objs.size a (Nat.ne_of_lt hlt) its.toArray).toS,⟨⟨_,Heap.get?_push_size _ rfl,rfl,rfl⟩,?_⟩,λb hb=>?_,λi v e=>?_,λs' t' mv=>?_⟩
 ·obtain⟨o,ho,z⟩:=pl.isList
  exact⟨o,Heap.get?_push_of_some _ ho,z⟩
 ·show b<(s.heap.push _).objs.size
  rw[Heap.size_push];simp only[List.mem_cons,List.not_mem_nil,or_false] at hb;rcases hb with rfl|rfl
  ·exact Nat.lt_succ_self _
  ·exact Nat.lt_succ_of_lt hlt
 ·have e:its[i]? =some v:=by simpa using e
  obtain⟨m,e1,t,e2⟩:=qb hv e
  exact⟨t,by rw[e2];simp[List.getD,e1]⟩
 ·have hk: ∀b o,s.heap.get? b=some o->s'.heap.get? b=some o:=λb o e=>mv.heap b o (λhm=>by
   have:b=s.heap.objs.size:=by simpa using hm
   exact absurd (this▸Heap.lt_size e) (Nat.lt_irrefl _)) (Heap.get?_push_of_some _ e)
  have e0:its.toArray.size=ns.length:=by rw[List.size_toArray];omega
  have hs:preSum (λi=>ns.getD i 0) its.toArray.size=ns.sum:=by rw[e0,uX ns _ (Nat.le_refl _),List.take_length]
  rw[hs];have es:s'={s with heap:=s'.heap,toks:=s'.toks}:=by
   obtain⟨_,m2,m3,m4,_⟩:=mv
   cases s'
   simp only at m2 m3 m4;subst m2 m3 m4;rfl
  rw[es];exact⟨.int _,H,I.kept hk,⟨_,rfl⟩,q⟩
def AV:List D->Option D
 | [.lst ds]=>(dX ds).map λns=>.int ns.sum
 |_=>none
theorem Au:gL X.K .s (λxs H Q=> ∃(a:Addr) (ys:List V) (ns:List Int),xs=[.ref a]/\SqL X.K H a ys/\Reps X.K H ys (ns.map D.int)/\Q (.int ns.sum) H) AV:=by
 intro H hid vs ds d Q hf h r q;unfold AV at h;split at h
 ·rename_i zs
  cases e1:dX zs with
  |none=>rw[e1] at h;cases h
  |some ns=>
   rw[e1] at h;cases h;obtain⟨x,rfl,r1⟩:=Reps1.one r
   obtain⟨a,xs,rfl,h1,h2⟩:=r1.lst
   rw[gP e1] at h2;exact⟨a,xs,ns,rfl,h1,h2.mono (dE _ _),q _ H (Same.refl _) .int⟩
 ·cases h
end
def ic(i:Nat)(ρ:aG):Option (List ((List aV)×D)):=match ρ[i]? with
 |some (.ob (.dT kvs))=>some kvs
 |_=>none
theorem iD {i:Nat}{ρ:aG}{kvs:List ((List aV)×D)}(h:ic i ρ=some kvs):ρ[i]? =some (.ob (.dT kvs)):=by
 unfold ic at h;split at h
 ·cases h;assumption
 ·cases h
def fQ(kvs:List ((List aV)×D))(k:List aV):Option D:=(kvs.find? λkv=>decide (kv.1=k)).map (·.2)
def qA(kvs:List ((List aV)×D))(k:List aV)(d:D):List ((List aV)×D):=
 if(kvs.any λkv=>decide (kv.1=k))=true then kvs.map (λkv=>if kv.1=k then(kv.1,d) else kv) else kvs++[(k,d)]
def KRt(K:W.Frag)(F:Hp)(us:List ((List aV)×V))(kvs:List ((List aV)×D)):Prop:=us.map (·.1)=kvs.map (·.1)/\Reps K F (us.map (·.2)) (kvs.map (·.2))
theorem KRt.inv {K:W.Frag}{F:Hp}: ∀ {us:List ((List aV)×V)} {kvs:List ((List aV)×D)},KRt K F us kvs->(us=[]/\kvs=[])\/ ∃k v us' d kvs',us=(k,v)::us'/\kvs=(k,d)::kvs'/\Rep K F v d/\KRt K F us' kvs'
 | [],[],_=>.inl ⟨rfl,rfl⟩
 | [],_::_,h=>by cases h.1
 |_::_,[],h=>by cases h.1
 |(k,v)::us,(k',d)::kvs,h=>by
  obtain⟨h1,h2⟩:=h
  rw[List.map_cons,List.map_cons] at h1 h2;injection h1 with e1 e2
  cases h2 with
  |cons r rs=>
   have e1:k=k':=e1
   subst e1;exact .inr ⟨k,v,us,d,kvs,rfl,rfl,r,e2,rs⟩
theorem KRt.val {K:W.Frag}{F:Hp}(k:List aV): ∀ {us:List ((List aV)×V)} {kvs:List ((List aV)×D)},KRt K F us kvs->(fw us k=none/\fQ kvs k=none)\/ ∃v d,fw us k=some v/\fQ kvs k=some d/\Rep K F v d:=by
 intro us
 induction us with
 |nil=>
  intro kvs h;rcases h.inv with⟨_,rfl⟩|⟨_,_,_,_,_,e,_⟩
  ·exact .inl ⟨rfl,rfl⟩
  ·cases e
 |cons p us ih=>
  intro kvs h;rcases h.inv with⟨e,_⟩|⟨k',v,us',d,kvs',e,rfl,r,rs⟩
  ·cases e
  ·cases e
   by_cases ek:k'=k
   ·exact .inr ⟨v,d,il ek,by simp[fQ,List.find?_cons,ek],r⟩
   ·have e1:fw ((k',v)::us) k=fw us k:=iw ek
    have e2:fQ ((k',d)::kvs') k=fQ kvs' k:=by simp[fQ,List.find?_cons,ek]
    rw[e1,e2];exact ih rs
theorem KRt.any {K:W.Frag}{F:Hp}(k:List aV){us:List ((List aV)×V)}{kvs:List ((List aV)×D)}(h:KRt K F us kvs):(us.any λkv=>decide (kv.1=k))=kvs.any λkv=>decide (kv.1=k):=by
 have e1:(us.any λkv=>decide (kv.1=k))=(us.map (·.1)).any λx=>decide (x=k):=by rw[List.any_map];rfl
 have e2:(kvs.any λkv=>decide (kv.1=k))=(kvs.map (·.1)).any λx=>decide (x=k):=by rw[List.any_map];rfl
 rw[e1,e2,h.1]
theorem KRt.cons {K:W.Frag}{F:Hp}{k:List aV}{v:V}{d:D}{us:List ((List aV)×V)}{kvs:List ((List aV)×D)}(r:Rep K F v d)(h:KRt K F us kvs):KRt K F ((k,v)::us) ((k,d)::kvs):=⟨by rw[List.map_cons,List.map_cons,h.1],.cons r h.2⟩
theorem KRt.repl {K:W.Frag}{F:Hp}(k:List aV){v:V}{d:D}(r:Rep K F v d): ∀ {us:List ((List aV)×V)} {kvs:List ((List aV)×D)},KRt K F us kvs->KRt K F (us.map (λkv=>if kv.1=k then(kv.1,v) else kv)) (kvs.map (λkv=>if kv.1=k then(kv.1,d) else kv)):=by
 intro us
 induction us with
 |nil=>
  intro kvs h;rcases h.inv with⟨_,rfl⟩|⟨_,_,_,_,_,e,_⟩
  ·exact h
  ·cases e
 |cons p us ih=>
  intro kvs h;rcases h.inv with⟨e,_⟩|⟨k',v',us',d',kvs',e,rfl,r',rs⟩
  ·cases e
  ·cases e
   rw[List.map_cons,List.map_cons]
   by_cases ek:k'=k
   ·rw[if_pos ek,if_pos ek];exact KRt.cons r (ih rs)
   ·rw[if_neg ek,if_neg ek];exact KRt.cons r' (ih rs)
theorem KRt.put {K:W.Frag}{F:Hp}(k:List aV){v:V}{d:D}(r:Rep K F v d){us:List ((List aV)×V)}{kvs:List ((List aV)×D)}(h:KRt K F us kvs):KRt K F (gO us k v) (qA kvs k d):=by
 unfold gO qA;rw[h.any k];split
 ·exact h.repl k r
 ·refine⟨by rw[List.map_append,List.map_append,h.1];rfl,?_⟩
  rw[List.map_append,List.map_append];exact h.2.append (.cons r .nil)
theorem KRt.len {K:W.Frag}{F:Hp}{us:List ((List aV)×V)}{kvs:List ((List aV)×D)}(h:KRt K F us kvs):us.length=kvs.length:=by
 have:=congrArg List.length h.1
 simpa using this
section
variable {K:W.Frag}{c:Ct}{hid:bn}{ρ:aG}{σ:St}{H:Hp}{a:Addr}
theorem SR.dictT(h:SR K c hid ρ σ H){i:Nat}{kvs:List ((List aV)×D)}(e:ic i ρ=some kvs): ∃a us,σ[i]? =some (some (.ref a))/\hid a=true/\c.H₀ a=none/\H a=some (.dT us)/\KRt K (vw H hid) us kvs:=by
 obtain⟨a,h1,⟨h2,h3⟩,us,h4,h5,h6⟩:=h.sl i _ (iD e)
 exact⟨a,us,h1,h2,h3,h4,h5,h6⟩
theorem SR.putDT {i:Nat}{kvs kvs':List ((List aV)×D)}{us':List ((List aV)×V)}(h:SR K c hid ρ σ H)(hg:ic i ρ=some kvs)(ha:σ[i]? =some (some (.ref a)))(r:KRt K (vw H hid) us' kvs'):SR K c hid (ρ.set i (.ob (.dT kvs'))) σ (bd H a (.dT us')):=by
 obtain⟨a1,us,h1,h2,h3,h4,h5⟩:=h.dictT hg
 rw[ha] at h1;cases h1;exact h.putO (iD hg) trivial trivial ha (.inl rfl) h2 h3 nofun ⟨⟨h2,h3⟩,us',aE,r.1,by rw[cv h2];exact r.2⟩
end
def vb:D->Option (List Int)
 | .tup ds=>dX ds
 |_=>none
theorem mM {d:D}{ns:List Int}(h:vb d=some ns):d=.tup (ns.map D.int):=by
 unfold vb at h;split at h
 ·rw[gP h]
 ·cases h
theorem lF {K:W.Frag}{F:Hp}: ∀ {xs:List V} {ns:List Int},Reps K F xs (ns.map D.int)->xs=(ns.map Sum.inl).map kV
 |_,[],h=>by cases h;rfl
 |_,n::ns,h=>by
  cases h with
  |cons r rs=>cases r;rw[lF rs];rfl
section
variable {X:Cx}{ae:List (Addr×Obj)}{σ:St}{H:Hp}{s:Shared}{a b:Addr}{A:Around}{E:Value->Shared->Prop}
theorem wY {ks:List aV}(I:Inv X ae σ H s)(h:SqT X.K H b (ks.map kV)):(tupleKind (cz X.prog X.w)).is s.heap ks b:=by
 obtain⟨its,r,⟨o,h1,h2,n,h3⟩,_⟩:=I.tuple h
 exact⟨o,its.toArray,n,h1,h2,h3,by simpa using jJ r⟩
theorem Ar {kvs:List (List aV×V)}{k:List aV}{v:V}{Q:Value->Shared->Prop}(hu:A.units+1<cLine)(I:Inv X ae σ H s)(e:H a=some (.dT kvs))(eb:SqT X.K H b (k.map kV))(l:fw kvs k=some v)
 (h: ∀w' s',Inv X ae σ H s'->RelV v w'->Q w' s'):wpAny (model X.prog X.w) A (getItem (.ref a) (.ref b)) Q E s:=by
 obtain⟨z,hd,xs,rel,dd⟩:=pg I.hok e
 obtain⟨w',hw,rw'⟩:=RelO.some_of (v:=v) (o:=(atKey xs k).map (·.2)) (by rw[<-l];exact rel.val k)
 obtain⟨p,hp,hp2⟩:=Option.map_eq_some_iff.mp hw
 refine wpAny_getItem_heap (tupleKind_room_in1 hu) (wY I eb) dd hp ?_
 rw[hp2];exact h w' _ (I.tok _) rw'
theorem Bv {kvs:List (List aV×V)}{k:List aV}{Q:Value->Shared->Prop}(hu:A.units+1<cLine)(I:Inv X ae σ H s)(e:H a=some (.dT kvs))(eb:SqT X.K H b (k.map kV))
 (h: ∀s',Inv X ae σ H s'->Q (.bool (fw kvs k).isSome) s'):wpAny (model X.prog X.w) A (compareOp .In (.ref b) (.ref a)) Q E s:=by
 obtain⟨z,hd,xs,rel,dd⟩:=pg I.hok e
 refine wpAny_in_heap (tupleKind_room_in1 hu) (wY I eb) hd dd ?_
 have q:=(rel.val k).isSome_eq
 rw[Option.isSome_map] at q;rw[<-q];exact h _ (I.tok _)
end
section
variable {X:Cx}{o i:Expr}{pos:Pos}{td ty:TE}
def CS(K:W.Frag)(td ty:TE):TE:=λσ H Q=>td σ H λx H1=>ty σ H1 λy H2=> ∃a b kvs k v,x=.ref a/\y=.ref b/\H2 a=some (.dT kvs)/\SqT K H2 b (k.map kV)/\fw kvs k=some v/\Q v H2
def C1(K:W.Frag)(ty td:TE):TE:=λσ H Q=>ty σ H λy H1=>td σ H1 λx H2=> ∃a b kvs k,x=.ref a/\y=.ref b/\H2 a=some (.dT kvs)/\SqT K H2 b (k.map kV)/\Q (.bl (fw kvs k).isSome) H2
theorem zK(hu:X.A.units+1<cLine)(ho:PE X o td)(hi:PE X i ty)(hs:vc i):PE X (.Subscript o i pos) (CS X.K td ty):=by
 intro ae s σ H Q I h;refine tE PySem.F.slot_dict_getitem.lookup hs (bq (ho ae s σ H _ I h) λu s1 ⟨x,H1,I1,rx,q1⟩=>bq (hi ae s1 σ H1 _ I1 q1) λiv s2 hq_=>?_)
 obtain⟨y,H2,I2,ry,a,b,kvs,k,v,ex,ey,g1,g2,g3,q2⟩:=hq_
 subst ex ey;obtain rfl:u=Value.ref a:=rx
 obtain rfl:iv=Value.ref b:=ry
 refine⟨?_,Ar hu I2 g1 g2 g3 λw' s3 I3 rw'=>⟨v,H2,I3,rw',q2⟩⟩
 obtain⟨_,_,xs,_,dd⟩:=pg I2.hok g1
 exact dd.typeIs
theorem zO(hu:X.A.units+1<cLine)(hi:PE X i ty)(ho:PE X o td):PC X .In i o (C1 X.K ty td):=by
 intro ae s σ H Q I h;refine bq (hi ae s σ H _ I h) λiv s1 ⟨y,H1,I1,ry,q1⟩=>bq (ho ae s1 σ H1 _ I1 q1) λu s2 hq_=>?_
 obtain⟨x,H2,I2,rx,a,b,kvs,k,ex,ey,g1,g2,q2⟩:=hq_
 subst ex ey;obtain rfl:u=Value.ref a:=rx
 obtain rfl:iv=Value.ref b:=ry
 exact Bv hu I2 g1 g2 λs3 I3=>⟨.bl (fw kvs k).isSome,H2,I3,rfl,q2⟩
end
section
variable {X:Cx}{c:Ct}{k k1 k2:Kd}{e f ev:Expr}{es:List Expr}{fe ff fk fv:FE}{fs:FA}{pos pos' py apos cpos p:Pos}{x y:Str}{x1:_}
def iK(ns:List Int):List aV:=ns.map Sum.inl
def xf(i:Nat):FS:=λρ=>.nx (ρ.set i (.ob (.dT [])))
theorem pF(i:Nat)(hn:X.N.Nodup)(hi:X.N[i]? =some x:=by rfl)(hx:sY X.env.scope x:=by first|exact Or.inl rfl|exact Or.inr rfl)(hs:swapsWith (.Dict [] [] p) (some (.Name x pos')) pos.line X.env=pure false:=by rfl)
 (hf:X.fn x=true\/X.env.scope.names.lookup x=some .local:=by first|exact .inl rfl|exact .inr rfl|assumption):DS X c k (.Assign [.Name x pos'] (.Dict [] [] p) pos) (xf i):=λρ=>PS.imp (jW hn hi hx wR hs hf) λD σ H hq_=>by
 obtain⟨hid,sr,q⟩:=hq_
 intro a ha;have sm:=bh ha (.dT [])
 have nf:=sr.fresh ha
 refine q _ _ (bj hid a) (SR.setD (a:=a) (b:=.dT []) (sr.hide sm ha aE) ⟨⟨bR,sr.fresh0 ha⟩,[],aE,rfl,.nil⟩ (sr.notOw nf) i) λb o w=>?_
 obtain⟨w1,w2⟩:=vw_some.mp w
 refine vw_some.mpr ⟨?_,sm b o w2⟩
 unfold bj;rw[w1];have:b≠a:=aT w2 ha
 simp[this]
def jp(i:Nat)(fs:FA)(fv:FE):FS:=λρ=>match ic i ρ with
 |some kvs=>(match fv ρ with
  |some d=>(match (fs ρ).bind dX with
   |some ns=>if kvs.length<=1000/\ns.length<=1000 then .nx (ρ.set i (.ob (.dT (qA kvs (iK ns) d)))) else .no
   |none=>.no)
  |none=>.no)
 |none=>.no
theorem oZ(i:Nat)(hu:X.A.units+1<cLine)(hk:DA X c es fs)(hv:DP X c .s ev fv)(hN:X.N[i]? =some y:=by rfl)(hv':nT X.env.scope y:=by first|exact Or.inl rfl|exact Or.inr (Or.inl rfl)|exact Or.inr (Or.inr rfl))(hd:(y==("__debug__":Str))=false:=by decide)
 (hcd:(y==("__classdict__":Str))=false:=by decide) (hs:swapsWith ev (some (.Subscript (.Name y py) (.Tuple es x1 p) pos')) pos.line X.env=pure false:=by rfl):
 DS X c k (.Assign [.Subscript (.Name y py) (.Tuple es x1 p) pos'] ev pos) (jp i fs fv):=λρ=>PS.imp (yc hu (pv i hN hv' hd hcd) (qY (zV λhid=>hk hid ρ)) (jr λhid=>hv hid ρ) hs) λD σ H hq_=>by
 obtain⟨hid,sr,q⟩:=hq_
 unfold jp at q;split at q
 ·rename_i kvs e0
  split at q
  ·rename_i d e1
   split at q
   ·rename_i ns e2
    split at q
    ·rename_i hz
     obtain⟨dk,e3,e4⟩:=Option.bind_eq_some_iff.mp e2
     have e5:=gP e4
     subst e5;obtain⟨a,us,a1,a2,a3,a4,a5⟩:=sr.dictT e0
     refine⟨hid,sr,d,e1,λv H1 s1 r1=>⟨.ref a,a1,hid,sr.ext s1,_,e3,λzs H2 s2 r2=>⟨?_,λt ht=>?_⟩⟩⟩
     ·have:=r2.length
      rw[List.length_map] at this;rw[this,sizeLine_eq];omega
     have i1:=lF r2
     subst i1;have s3:=bh ht (.tup ((ns.map Sum.inl).map kV))
     have s13:=(s1.trans s2).trans s3
     have hh:(bd H2 t (.tup ((ns.map Sum.inl).map kV))) a=some (.dT us):=s13 _ _ a4
     refine⟨a,_,rfl,DPut.t (k:=iK ns) hh aE (by rw[a5.len];exact Nat.lt_of_le_of_lt hz.1 (by decide)),?_⟩
     have r1':Rep X.K (vw H1 hid) v d:=r1
     refine q _ _ hid ((sr.ext s13).putDT e0 a1 (KRt.put (iK ns) (r1'.mono (aI (s2.trans s3))) ⟨a5.1,a5.2.mono (aI s13)⟩)) ?_
     rw[cv a2];exact aI s13
    ·exact q.elim
   ·exact q.elim
  ·exact q.elim
 ·exact q.elim
def jV(i:Nat)(fk:FE):FE:=λρ=>(ic i ρ).bind λkvs=>((fk ρ).bind vb).bind λk=>fQ kvs (iK k)
theorem wW {hid:bn}{H':Hp}{z:V}{ns:List Int}(h:Rep1 X.K H' (vw H' hid) z (.tup (ns.map D.int))): ∃b,z=.ref b/\SqT X.K H' b ((iK ns).map kV):=by
 obtain⟨b,xs,rfl,_,h2,h3⟩:=h.tup
 refine⟨b,rfl,?_⟩
 rw[<-show xs=(iK ns).map kV from lF h3];exact h2
theorem sq(i:Nat)(hu:X.A.units+1<cLine)(he:DP X c k1 e fe)(hs:vc e)(hN:X.N[i]? =some y:=by rfl)(hv':nT X.env.scope y:=by first|exact Or.inl rfl|exact Or.inr (Or.inl rfl)|exact Or.inr (Or.inr rfl))(hd:(y==("__debug__":Str))=false:=by decide)
 (hcd:(y==("__classdict__":Str))=false:=by decide):DP X c .s (.Subscript (.Name y py) e pos) (jV i fe):=λhid ρ=>
 PE.imp (zK hu (pv i hN hv' hd hcd) (he hid ρ) hs) λσ H Q hq_=>by
  obtain⟨sr,d,hd,q⟩:=hq_
  obtain⟨kvs,e0,hd⟩:=Option.bind_eq_some_iff.mp hd
  obtain⟨kk,e1,hd⟩:=Option.bind_eq_some_iff.mp hd
  obtain⟨dk,e3,e4⟩:=Option.bind_eq_some_iff.mp e1
  have e5:=mM e4
  subst e5;obtain⟨a,us,a1,a2,a3,a4,a5⟩:=sr.dictT e0
  refine⟨.ref a,a1,sr,_,e3,λz H2 s2 r2=>?_⟩
  obtain⟨b,rfl,hb⟩:=wW (RK.b k1 r2 λa n=>sr.fresh n)
  have hh:H2 a=some (.dT us):=s2 _ _ a4
  have rr:KRt X.K (vw H2 hid) us kvs:=⟨a5.1,a5.2.mono (aI s2)⟩
  rcases rr.val (iK kk) with⟨v1,v2⟩|⟨v,d',v1,v2,v3⟩
  ·rw[v2] at hd;cases hd
  ·rw[v2] at hd;cases hd
   exact⟨a,b,us,iK kk,v,rfl,rfl,hh,hb,v1,q _ H2 s2 v3⟩
def wc(i:Nat)(fk:FE):FT:=λρ=>(ic i ρ).bind λkvs=>((fk ρ).bind vb).map λk=>(fQ kvs (iK k)).isSome
theorem xD(i:Nat)(hu:X.A.units+1<cLine)(he:DP X c k1 e fe)(hN:X.N[i]? =some y:=by rfl)(hv':nT X.env.scope y:=by first|exact Or.inl rfl|exact Or.inr (Or.inl rfl)|exact Or.inr (Or.inr rfl))(hd:(y==("__debug__":Str))=false:=by decide)
 (hcd:(y==("__classdict__":Str))=false:=by decide) (hm:behindInMarks .In (.Name y py)=false:=by rfl):DT X c (.Compare e [.In] [.Name y py] pos) (wc i fe):=λhid ρ=>
 PT.imp (Ah (zO hu (he hid ρ) (pv i hN hv' hd hcd)) hm) λσ H Q hq_=>by
  obtain⟨sr,d,hd,q⟩:=hq_
  obtain⟨kvs,e0,hd⟩:=Option.bind_eq_some_iff.mp hd
  obtain⟨kk,e1,rfl⟩:=Option.map_eq_some_iff.mp hd
  obtain⟨dk,e3,e4⟩:=Option.bind_eq_some_iff.mp e1
  have e5:=mM e4
  subst e5;obtain⟨a,us,a1,a2,a3,a4,a5⟩:=sr.dictT e0
  refine⟨sr,_,e3,λz H2 s2 r2=>⟨.ref a,a1,?_⟩⟩
  obtain⟨b,rfl,hb⟩:=wW (RK.b k1 r2 λa n=>sr.fresh n)
  have hh:H2 a=some (.dT us):=s2 _ _ a4
  have rr:KRt X.K (vw H2 hid) us kvs:=⟨a5.1,a5.2.mono (aI s2)⟩
  refine⟨a,b,us,iK kk,rfl,rfl,hh,hb,_,rfl,?_⟩
  rcases rr.val (iK kk) with⟨v1,v2⟩|⟨v,d',v1,v2,v3⟩
  ·rw[v1];rw[v2] at q;exact q H2 s2
  ·rw[v1];rw[v2] at q;exact q H2 s2
end
def RawAt(h:Heap)(d:Addr)(es:Array DictEntry)(ep:Nat):Prop:= ∃o,h.get? d=some o/\o.ExactDict/\o.data=.dict es ep
section
variable {prog:Program}{w:World}{A:Around}{E:Value->Shared->Prop}{s:Shared}{d it:Addr}{es:Array DictEntry}{ep i:Nat}
theorem RawAt.ty(h:RawAt s.heap d es ep):s.TypeIs (.ref d) "dict":=let⟨o,h1,h2,_⟩:=h;⟨o,h1,h2.1⟩
theorem RawAt.lt {h:Heap}(x:RawAt h d es ep):d<h.objs.size:=let⟨_,h1,_⟩:=x;Heap.lt_size h1
theorem RawAt.to {h h':Heap}(x:RawAt h d es ep)(k: ∀o,h.get? d=some o->h'.get? d=some o):RawAt h' d es ep:=let⟨o,h1,r⟩:=x;⟨o,k o h1,r⟩
theorem w8 {Q:Value->Shared->Prop}(lo:(d==sysModules)=false)(x:RawAt s.heap d es ep)
 (q:Q (.ref s.heap.objs.size) {s with heap:=s.heap.push {cls:=.type "dict_keyiterator",data:=.fields #[.ref d,.int 0 0,.int es.size 0,.int ep 0]}}):wpAny (model prog w) A (pyIter (.ref d)) Q E s:=by
 have ty:=x.ty
 obtain⟨o,g1,g2,g3⟩:=x
 refine wpAny_pyIter_slot ty F.slot_dict_iter (wpAny_call_entry F.slot_dict_iter ty F.entry_dict_iter ?_ (F.args_dict_iter_1 _))
 unfold Builtin.«dict.__iter__»;refine wpAny_bind ?_
 unfold Builtin.Dict.dictSlotNone;refine wpAny_bind (wpAny_notOrdered_dict ty ?_)
 show wpAny _ _ (pure (Value.ref d)) _ _ s;refine wpAny_pure ?_
 show wpAny _ _ (Builtin.Dict.showsAll d>>=_) _ _ s;unfold Builtin.Dict.showsAll;rw[if_neg (by rw[lo];exact Bool.false_ne_true)]
 refine wpAny_bind (wpAny_pure (wpAny_bind (wpAny_dictEntries g1 g3 (wpAny_bind (wpAny_dictEpoch g1 g3 ?_)))))
 refine wpAny_bind (wpAny_newObj_type (wpAny_pure ⟨_,rfl,"dict_keyiterator",_,⟨_,Heap.get?_push_size _ rfl,rfl⟩,F.slot_dict_keyiterator_next.lookup,?_⟩))
 simpa [rawInt] using q
theorem u8 {Q:Option Value->Shared->Prop}(hit:s.heap.IsKeyIter it d i es.size ep)(x:RawAt s.heap d es ep)(hi:i<es.size)
 (q: ∀h',h'.IsKeyIter it d (i+1) es.size ep->Heap.SameBut it s.heap h'->Q (some es[i].key) {s with heap:=h'}):wpAny (model prog w) A (pyNext (.ref it)) Q E s:=by
 obtain⟨o,k1,k2,k3⟩:=id hit
 obtain⟨od,g1,g2,g3⟩:=id x
 unfold pyNext;refine wpAny_bind (wpAny_attempt (wpAny_callSpecial?_slot (name:=Str.ofString "__next__") hit.typeIs F.slot_dict_keyiterator_next (wpAny_call_entry F.slot_dict_keyiterator_next hit.typeIs F.entry_dict_keyiterator_next ?_ (F.args_dict_keyiterator_next_1 _))))
 refine wpAny_bind (wpAny_pure (wpAny_bind (wpAny_bind ?_)))
 first|refine wpAny_bind (wpAny_typeNameOfWhole_keyiter hit.typeIs (wpAny_pure (wpAny_bind (wpAny_fieldsOf k1 k3 ?_))))|refine wpAny_bind (wpAny_typeNameOf_keyiter hit.typeIs (wpAny_pure (wpAny_bind (wpAny_fieldsOf k1 k3 ?_))))
 simp only[show Builtin.Dict_items.ownsTuple "dict_keyiterator"=false by decide,Bool.false_eq_true,if_false]
 show wpAny _ _ (if(Value.ref d==Value.none)=true then _ else _) _ _ s;rw[if_neg (show¬((Value.ref d==Value.none)=true) from Bool.false_ne_true)]
 refine wpAny_bind (wpAny_pure (wpAny_bind (wpAny_dictEntries g1 g3 ?_)))
 rw[if_neg (by simp)]
 refine wpAny_bind (wpAny_pure (wpAny_bind (wpAny_dictEpoch g1 g3 ?_)))
 rw[if_neg (by simp)]
 refine wpAny_pure ?_
 simp only[show¬((i:Int)<0) from by omega,if_false,Int.toNat_natCast,Array.getElem?_eq_getElem hi]
 refine wpAny_bind ?_
 first|refine wpAny_bind (wpAny_typeNameOfWhole_keyiter hit.typeIs (wpAny_pure (wpAny_bind (wpAny_isOneOf_keyiter hit.typeIs ?_))))|refine wpAny_bind (wpAny_typeNameOf_keyiter hit.typeIs (wpAny_pure (wpAny_bind (wpAny_isOneOf_keyiter hit.typeIs ?_))))
 show wpAny _ _ (setField (.ref it) 1 (rawInt ((i:Int)+1))>>=_) _ _ s;refine wpAny_bind (wpAny_setField k1 k3 (by simp) ?_)
 have nx:(s.heap.update it (Obj.mapFields (·.setIfInBounds 1 (rawInt ((i:Int)+1))))).IsKeyIter it d (i+1) es.size ep:=⟨_,Heap.get?_update_self _ k1 (Obj.isFreed_of_fields (Obj.data_mapFields k3 _)),(Obj.cls_mapFields ..).trans k2,by rw[Obj.data_mapFields k3];simp[rawInt]⟩
 refine wpAny_bind (wpAny_holding (wpAny_bind (wpAny_isOneOf_keyiter (s:={s with heap:=s.heap.update it (Obj.mapFields (·.setIfInBounds 1 (rawInt ((i:Int)+1))))}) nx.typeIs ?_)))
 show wpAny _ _ (pure es[i].key) _ _ _;exact wpAny_pure (wpAny_pure ⟨_,rfl,wpAny_pure (q _ nx (Heap.SameBut.update ..))⟩)
theorem yJ {Q:Option Value->Shared->Prop}(calm:A.handled=none)(hit:s.heap.IsKeyIter it d es.size es.size ep)(x:RawAt s.heap d es ep)
 (q: ∀h',Heap.ExtBut it s.heap h'->Q none {s with heap:=h'}):wpAny (model prog w) A (pyNext (.ref it)) Q E s:=by
 obtain⟨o,k1,k2,k3⟩:=id hit
 obtain⟨od,g1,g2,g3⟩:=id x
 unfold pyNext;refine wpAny_bind (wpAny_attempt (wpAny_callSpecial?_slot (name:=Str.ofString "__next__") hit.typeIs F.slot_dict_keyiterator_next (wpAny_call_entry F.slot_dict_keyiterator_next hit.typeIs F.entry_dict_keyiterator_next ?_ (F.args_dict_keyiterator_next_1 _))))
 refine wpAny_bind (wpAny_pure (wpAny_bind (wpAny_bind ?_)))
 first|refine wpAny_bind (wpAny_typeNameOfWhole_keyiter hit.typeIs (wpAny_pure (wpAny_bind (wpAny_fieldsOf k1 k3 ?_))))|refine wpAny_bind (wpAny_typeNameOf_keyiter hit.typeIs (wpAny_pure (wpAny_bind (wpAny_fieldsOf k1 k3 ?_))))
 simp only[show Builtin.Dict_items.ownsTuple "dict_keyiterator"=false by decide,Bool.false_eq_true,if_false]
 show wpAny _ _ (if(Value.ref d==Value.none)=true then _ else _) _ _ s;rw[if_neg (show¬((Value.ref d==Value.none)=true) from Bool.false_ne_true)]
 refine wpAny_bind (wpAny_pure (wpAny_bind (wpAny_dictEntries g1 g3 ?_)))
 rw[if_neg (by simp)]
 refine wpAny_bind (wpAny_pure (wpAny_bind (wpAny_dictEpoch g1 g3 ?_)))
 rw[if_neg (by simp)]
 refine wpAny_pure ?_
 simp only[show¬((es.size:Int)<0) from by omega,if_false,Int.toNat_natCast,Array.getElem?_eq_none (Nat.le_refl es.size)]
 refine wpAny_bind ?_
 first|refine wpAny_bind (wpAny_typeNameOfWhole_keyiter hit.typeIs (wpAny_pure ?_))|refine wpAny_bind (wpAny_typeNameOf_keyiter hit.typeIs (wpAny_pure ?_))
 show wpAny _ _ (setField (.ref it) 0 .none>>=_) _ _ s;refine wpAny_bind (wpAny_setField k1 k3 (by simp) ?_)
 show wpAny _ _ (newExc (.type "StopIteration") []>>=_) _ _ _;refine wpAny_bind ?_
 simp only[newExc,newTuple];refine wpAny_bind (wpAny_newObj_type (wpAny_bind (m:=firstArgMember _ _) (wpAny_of_eq (a:=Value.none) (by first|rfl|(simp only[firstArgMember];rfl)) (wpAny_newObj_type ?_ (by size_fits)))) (by size_fits))
 simp only[raiseNew];refine wpAny_bind (wpAny_handled ?_)
 rw[show A.in1.handled=none from calm];refine wpAny_bind (wpAny_pure (wpAny_throw ?_));refine wpAny_bind (wpAny_isInstance (T:="StopIteration") (b:=true) ⟨_,Heap.get?_push_size _ rfl,rfl⟩ isSubtype_stop ?_)
 exact wpAny_pure (q _ (((Heap.SameBut.update ..).extBut.push _).push _))
theorem uN(calm:A.handled=none)(I:Addr)(ne:d≠I):Walks prog w A I [I,d] [I] es.size (λi v=> ∃e,es[i]? =some e/\v=e.key) (λi h=>h.IsKeyIter I d i es.size ep/\RawAt h d es ep) where
 sub:=λb hb=>by simp at hb;simp[hb]
 frame:=λ_ _ _ st hk=>⟨st.1.at λo e=>hk I (by simp) o e,st.2.to λo e=>hk d (by simp) o e⟩
 item:=λi s Q E hi st hQ=>u8 st.1 st.2 hi λh' it' sb=>hQ _ h' s.toks ⟨_,Array.getElem?_eq_getElem hi,rfl⟩ ⟨it',st.2.to λo e=>sb.extBut d o ne e⟩ λb o hb e=>sb.extBut b o (λh=>hb (by simp[h])) e
 done:=λs Q E st hQ=>yJ calm st.1 st.2 λh' he'=>hQ h' s.toks λb o hb e=>he' b o (λh=>hb (by simp[h])) e
 self:=λ_ _ _ _ st hQ=>wpAny_pyIter_keyiter st.1 hQ
theorem xZ(lo:(d==sysModules)=false):KdlSrc prog w "dict" d d es.size (λi v=> ∃e,es[i]? =some e/\v=e.key) (λh=>RawAt h d es ep) where
 type:=λ_ h=>h.ty
 there:=λ_ h=>⟨h.lt,h.lt⟩
 keep:=λ_ _ h hk=>h.to λo e=>hk d (.inl rfl) o e
 notList:=by decide
 notTuple:=by decide
 hint:=λ_ _ _ _ h hq=>kdl_hint_dict h.ty hq
 iter:=λ_ _ hh h=>⟨_,_,λ_ _ hq=>w8 lo h hq,uN hh _ (Nat.ne_of_lt h.lt),⟨_,Heap.get?_push_size _ rfl,rfl,rfl⟩,h.to λo e=>Heap.get?_push_of_some _ e⟩
theorem qC {T:String}{r:Addr}{us:List Value}{P:Nat->Value->Prop}{OK:Heap->Prop}{Q:Value->Shared->Prop}{G:List Nat->Prop}(src:KdlSrc prog w T r d us.length P OK)(hP: ∀i v,i<us.length->P i v->us[i]? =some v)(calm:A.handled=none)(good:OK s.heap)(hz:us.length<64)
 (few:us.length<2->G (List.range us.length))
 (many:2<=us.length-> ∀(g:Heap) (tk:Nat),(∀c o,s.heap.get? c=some o->g.get? c=some o)->wpAny (model prog w) A.in1.in1 (keyKind' us.toArray) (λκ t=>t={s with heap:=g,toks:=tk}/\
   (kas_sort us.length).kasWp (kas_ask prog w A.in1.in1 κ us) (λp t'=>t'=t/\G p.toList) t) (λ_ _=>False) {s with heap:=g,toks:=tk})
 (fin: ∀(g:Heap) (tk a e:Nat) (ix:List Nat),(∀c o,s.heap.get? c=some o->g.get? c=some o)->s.heap.objs.size<=a->G ix->g.get? a=some (seqObj "list" (List.toArray (ix.map λi=>us.getD i Value.none)) e)->Q (.ref a) {s with heap:=g,toks:=tk}):
 wpAny (model prog w) A (call (.builtin "sorted") [.ref r]) Q E s:=by
 refine Calls.call_function_entry kind_sorted plain_sorted entry_sorted (args_sorted1 _) ?_
 unfold Builtin.«sorted»;refine wpAny_bind (m:=checkCount "sorted" 1 1 _) (wpAny_pure (wpAny_bind (rX (A:=A.in1) src calm good (by rw[sizeLine_eq];omega) λg tk acc kg sg0 hacc=>?_)))
 have hus:acc.toList=us:=List.ext_getElem? λi=>by
  by_cases hi:i<us.length
  ·have h1:i<acc.size:=by rw[hacc.1];exact hi
   have e3:acc[i]? =some acc[i]:=Array.getElem?_eq_getElem h1
   rw[Array.getElem?_toList,e3,hP i _ hi (hacc.2 i _ e3)]
  ·have h1: ¬i<acc.toList.length:=by rw[Array.length_toList,hacc.1];exact hi
   rw[List.getElem?_eq_none (by omega),List.getElem?_eq_none (by omega)]
 rw[hus];have sg:s.heap.objs.size<=g.objs.size:=Nat.le_of_lt sg0
 refine wpAny_bind (wpAny_newList ?_ (by rw[sizeLine_eq];omega))
 have hL:(g.push (seqObj "list" us.toArray 0)).get? g.objs.size=some (seqObj "list" us.toArray 0):=Heap.get?_push_size _ rfl
 show wpAny _ _ _ _ _ {s with heap:=g.push (seqObj "list" us.toArray 0),toks:=tk}
 have end_: ∀ix:List Nat,G ix->Q (.ref g.objs.size) {s with heap:=sortedHeap (g.push (seqObj "list" us.toArray 0)) g.objs.size us (List.toArray (ix.map λi=>us.getD i Value.none)),toks:=tk}:=λix hG=>by
  obtain⟨e,he⟩:=sortedHeap_at (out:=List.toArray (ix.map λi=>us.getD i Value.none)) hL
  refine fin _ tk g.objs.size e ix (λc u hu=>?_) sg hG he
  have lt:=Heap.lt_size (kg c u hu)
  rw[sortedHeap_old (Nat.ne_of_lt lt) (by rw[size_push'];exact Nat.lt_succ_of_lt lt)]
  exact Heap.get?_push_of_some _ (kg c u hu)
 refine wpAny_bind (wpAny_holding (wpAny_call_entry slot_list_sort ⟨_,hL,rfl⟩ entry_list_sort (rD (P:=λf t=> ∃v,f=.done (.ret v)/\wpAny (model prog w) A.in1 (pure (PySem.Fin.done (.ret (Value.ref g.objs.size)))) (λf t=> ∃v,f=.done (.ret v)/\Q v t) E t) hL (by omega) (λh=>?_) (λh g' kg'=>?_)) (args_list_sort _)))
 ·have e:=end_ (List.range us.length) (few h)
  rw[show(List.range us.length).map (λi=>us.getD i Value.none)=us from List.ext_getElem? λi=>by
   by_cases hi:i<us.length
   ·simp[hi]
   ·simp[hi]] at e
  exact⟨_,rfl,wpAny_pure ⟨_,rfl,e⟩⟩
 ·refine wpAny_mono (many h g' tk λc u hu=>kg' c u (Nat.ne_of_lt (Heap.lt_size (kg c u hu))) (Heap.get?_push_of_some _ (kg c u hu))) (λκ t ⟨et,ht⟩=>⟨et,?_⟩) λ_ _ x=>x
  rw[kat_ask_eq rfl] at ht⊢;exact kas_wp_mono ht λp t' ⟨e1,hG⟩=>⟨e1,_,rfl,wpAny_pure ⟨_,rfl,end_ _ hG⟩⟩
end
abbrev A0(H:Hp):List V->List (List Int)->Prop:=Paired λy ks=> ∃b,y=.ref b/\H b=some (.tup (ks.map V.int))
theorem wf {H:Hp}: ∀ {us:List (List aV×V)} {xs:List (List aV×Addr×Value)} {kss:List (List Int)},KTd H us xs->us.map (·.1)=kss.map iK->A0 H (xs.map λx=>V.ref x.2.1) kss
 |_,_,[],r,e=>by
  cases r with
  |nil=>exact .nil
  |cons _ _=>cases e
 |_,_,ks::kss,r,e=>by
  cases r with
  |nil=>cases e
  | @cons p q ps qs h t=>
    rw[List.map_cons,List.map_cons] at e;injection e with e1 e2
    refine .cons ⟨q.2.1,rfl,?_⟩ (wf t e2)
    rw[h.2.1,e1];unfold iK;rw[List.map_map];rfl
theorem oy {H:Hp}: ∀ {ys:List V} {kss:List (List Int)} {i:Nat},A0 H ys kss->i<kss.length-> ∃b,ys.getD i .non=.ref b/\H b=some (.tup ((kss.getD i []).map V.int))
 |_,_,_,.nil,e=>by simp at e
 |_,_,0,.cons h _,e=>by obtain⟨b,h1,h2⟩:=h;exact⟨b,by simpa using h1,by simpa using h2⟩
 |_,_,i+1,.cons _ r,e=>by
  obtain⟨b,h1,h2⟩:=oy (i:=i) r (by simpa using e)
  exact⟨b,by simpa using h1,by simpa using h2⟩
theorem ph {H:Hp}{ys:List V}{kss:List (List Int)}(r:A0 H ys kss): ∀ix:List Nat,(∀i∈ix,i<kss.length)->A0 H (ix.map λi=>ys.getD i .non) (ix.map λi=>kss.getD i [])
 | [],_=>.nil
 |i::l,h=>.cons (oy r (h i List.mem_cons_self)) (ph r l λj hj=>h j (List.mem_cons_of_mem _ hj))
theorem tT {H:Hp}{ys:List V}{kss:List (List Int)}(r:A0 H ys kss):ys.length=kss.length:=Paired.length r
theorem si: ∀xs:List (List aV×Addr×Value),Vals (xs.map λx=>V.ref x.2.1) (xs.map λx=>Value.ref x.2.1)
 | []=>.nil
 |_::xs=>.cons rfl (si xs)
theorem zl: ∀ {ns:List Int} {us:List Value},Vals (ns.map V.int) us->qQ us ns
 | [],_,h=>by cases h;exact .nil
 |_::_,_,h=>by cases h with|cons h1 h2=>exact .cons h1 (zl h2)
section
variable {X:Cx}
theorem nZ(hc:X.calm=true):eB X (.builtin "sorted") (λxs H Q=> ∃a us kss,xs=[.ref a]/\H a=some (.dT us)/\us.map (·.1)=kss.map iK/\kss.length<64/\(∀k∈kss,k≠[])/\
 ∀l ys,H l=none->A0 H ys (gm cR kss)->Q (.ref l) (bd H l (.lst ys))):=by
 intro ae s σ H xs vs Q I r h;obtain⟨a,us,kss,rfl,ha,hk,hz,hne,q⟩:=h
 obtain⟨u,rfl,rx⟩:=gS r
 cases rx
 obtain⟨z,lo,xs,rel,o,es,ep,d1,d2,d3,d4,d5,d6⟩:=pg I.hok ha
 have ky:=wf rel hk
 have lx:xs.length=kss.length:=by
  have:=tT ky
  simpa using this
 obtain⟨its,hits⟩: ∃its,its=xs.map λx=>Value.ref x.2.1:=⟨_,rfl⟩
 have li:its.length=kss.length:=by rw[hits,List.length_map,lx]
 have rv:Vals (xs.map λx=>V.ref x.2.1) its:=by rw[hits];exact si xs
 have sz:es.size=its.length:=by rw[<-Array.length_toList,d4,List.length_map,li,lx]
 have raw:RawAt s.heap a es ep:=⟨o,d1,d2,d3⟩
 have gi: ∀i,i<kss.length-> ∃(b:Addr) (o:Obj) (ts:List Value) (n:Nat),its.getD i Value.none=.ref b/\s.heap.get? b=some o/\o.cls=.type "tuple"/\o.data=.seq ts.toArray n/\qQ ts (kss.getD i []):=λi hi=>by
  obtain⟨b,h1,h2⟩:=oy ky hi
  have r1:=nn rv i
  rw[h1] at r1;obtain⟨ts,r',⟨o,ho,hc,n,hd⟩,_⟩:=I.tuple (.inl (.inl h2))
  exact⟨b,o,ts,n,r1,ho,hc,hd,zl r'⟩
 have kt: ∀(g:Heap),(∀c o,s.heap.get? c=some o->g.get? c=some o)-> ∀(l:List Value) (ms:List (List Int)),l.length=ms.length->(∀i,i<ms.length-> ∃(b:Addr) (o:Obj) (ts:List Value) (n:Nat),l.getD i Value.none=.ref b/\s.heap.get? b=some o/\o.cls=.type "tuple"/\o.data=.seq ts.toArray n/\qQ ts (ms.getD i []))->(∀k∈ms,k≠[])->
  ∃fs,KatTups g l fs/\fs.length=l.length/\ ∀v∈fs,∃i t,v=Value.int i t:=by
  intro g kg l
  induction l with
  |nil=>intro ms _ _ _;exact⟨[],.nil,rfl,λ_ h=>nomatch h⟩
  |cons v l ih=>
   intro ms hl hg hk;cases ms with
   |nil=>cases hl
   |cons m ms=>
    obtain⟨fs,f1,f2,f3⟩:=ih ms (by simpa using hl) (λi hi=>by simpa using hg (i+1) (by simpa using hi)) λk hk'=>hk k (by simp[hk'])
    obtain⟨b,o,ts,n,g1,g2,g3,g4,g5⟩:=hg 0 (by simp)
    simp[List.getD] at g1 g5;subst g1;cases m with
    |nil=>exact absurd rfl (hk [] (by simp))
    |cons x xs=>
     cases g5 with
     |cons y1 y2=>
      obtain⟨t,rfl⟩:=y1
      refine⟨_,KatTups.cons (kg _ _ g2) g3 g4 (by simp;rfl) f1,by simp[f2],λv hv=>?_⟩
      rcases List.mem_cons.mp hv with rfl|hv
      ·exact⟨_,_,rfl⟩
      ·exact f3 v hv
 refine qC (us:=its) (G:=λix=>(∀i∈ix,i<kss.length)/\ix.map (λi=>kss.getD i [])=gm cR kss) (sz▸xZ (es:=es) (ep:=ep) lo) (λi v hi hv=>?_) (I.ok.hd hc) raw (by omega) (λfew=>⟨λi hi=>?_,?_⟩) (λh2 g tk kg=>?_) (λg tk p e ix kg hp hG hg=>?_)
 ·obtain⟨e,h1,rfl⟩:=hv
  rw[<-Array.getElem?_toList,d4,List.getElem?_map] at h1;obtain⟨x,h2,rfl⟩:=Option.map_eq_some_iff.mp h1
  rw[hits,List.getElem?_map,h2];rfl
 ·rw[List.mem_range] at hi;omega
 ·rw[li,lN,oH (by omega)]
 ·obtain⟨fs,f1,f2,f3⟩:=kt g kg its kss li gi hne
  refine kat_kind (T:=.type "int") f1 (by omega) (λv hv=>?_) (by rfl) ⟨rfl,?_⟩
  ·obtain⟨i,t,rfl⟩:=f3 v hv;exact Looks.now
  ·rw[li]
   refine xU (b:=λi j=>cR (kss.getD i []) (kss.getD j [])) (Cb Ab _) (by omega) (λi j C hi hj hC=>?_) λp P S=>⟨rfl,?_,?_⟩
   ·obtain⟨b1,o1,ts1,n1,x1,x2,x3,x4,x5⟩:=gi i hi
    obtain⟨b2,o2,ts2,n2,y1,y2,y3,y4,y5⟩:=gi j hj
    unfold kas_ask;rw[x1,y1];refine kat_lt (kg _ _ x2) x4 (kg _ _ y2) y4 ?_
    refine tO 0 x5 y5 ?_ hC
    have z1:=Paired.length x5
    have z2:=Paired.length y5
    simp[z1,z2]
   ·intro i hi
    have:=P.perm.mem_iff.mp (Array.mem_toList_iff.mp hi)
    simpa using this
   ·exact pq Ab P S
 ·have kp:=ph ky ix hG.1
  rw[hG.2] at kp;have ll:(gm cR kss).length=kss.length:=(ip (lt:=cR) kss).length_eq
  refine⟨.ref p,_,I.laid (t':=tk) kg hp (show ObjOk X.prog X.w _ g _ (.lst (ix.map λi=>(xs.map λx=>V.ref x.2.1).getD i .non)) from⟨?_,_,e,m7 rv ix,hg⟩),rfl,q _ _ (I.hok.fresh hp) kp⟩
  rw[tT kp,ll,sizeLine_eq];omega
def intKs:List (List aV×D)->Option (List (List Int))
 | []=>some []
 |(k,_)::r=>(intK k).bind λns=>(intKs r).map (ns:: ·)
where intK:List aV->Option (List Int)
 | []=>some []
 | .inl i::r=>(intK r).map (i:: ·)
 |_=>none
theorem tf: ∀ {k:List aV} {ns:List Int},intKs.intK k=some ns->k=iK ns
 | [],_,h=>by cases h;rfl
 | .inl i::r,ns,h=>by
   have h:(intKs.intK r).map (i:: ·)=some ns:=h
   obtain⟨t,e,rfl⟩:=Option.map_eq_some_iff.mp h
   rw[tf e];rfl
 | .inr _::_,_,h=>by cases h
theorem qj: ∀ {kvs:List (List aV×D)} {kss:List (List Int)},intKs kvs=some kss->kvs.map (·.1)=kss.map iK
 | [],_,h=>by cases h;rfl
 |(k,d)::r,kss,h=>by
  have h:((intKs.intK k).bind λns=>(intKs r).map (ns:: ·))=some kss:=h
  obtain⟨ns,e1,h⟩:=Option.bind_eq_some_iff.mp h
  obtain⟨t,e,rfl⟩:=Option.map_eq_some_iff.mp h
  rw[List.map_cons,List.map_cons,qj e,<-tf e1]
theorem pI {K:W.Frag}{H:Hp}{hid:bn}(ht: ∀b xs,hid b=true->H b≠some (.tup xs)): ∀ {ys:List V} {kss:List (List Int)},A0 H ys kss->Reps K (vw H hid) ys (kss.map gb)
 |_,[],h=>by cases h;exact .nil
 |_,ks::kss,h=>by
  cases h with
  |cons h1 h2=>
   obtain⟨b,rfl,hb⟩:=h1
   refine .cons (.tup (.inl (.inl (vw_some.mpr ⟨?_,hb⟩))) (mK ks)) (pI ht h2)
   cases e:hid b with
   |false=>rfl
   |true=>exact absurd hb (ht b _ e)
def sA(i:Nat):FE:=λρ=>(ic i ρ).bind λkvs=>(intKs kvs).bind λkss=>if kss.length<64/\ ∀k∈kss,k≠[] then some (.lst ((gm cR kss).map gb)) else none
theorem vt {c:Ct}{pos p py:Pos}{y:Str}(i:Nat)(hcm:X.calm=true)(hm:X.mg "sorted"=none)(hN:X.N[i]? =some y:=by rfl)(hv':nT X.env.scope y:=by first|exact Or.inl rfl|exact Or.inr (Or.inl rfl)|exact Or.inr (Or.inr rfl))(hd:(y==("__debug__":Str))=false:=by decide)
 (hcd:(y==("__classdict__":Str))=false:=by decide) (hg:Gl X "sorted":=by rfl) (hv:bootBuiltins "sorted"=some (.builtin "sorted"):=by kernel_rfl)
 (he:starEach [.Name y py] X.env=(false,eval (.Name y py) X.env)::starEach [] X.env:=by rfl) (hpl:(backTo pos (starEach [] X.env)).any (·.1)=false:=by rfl):DP X c .n (.Call (.Name "sorted" p) [.Name y py] [] pos) (sA i):=λhid ρ=>
 PE.imp (lV (nZ hcm) hg hm hv (cH (pv i hN hv' hd hcd) gk he) (by decide) (by decide) he hpl) λσ H Q hq_=>by
  obtain⟨sr,d,hd,q⟩:=hq_
  obtain⟨kvs,e0,hd⟩:=Option.bind_eq_some_iff.mp hd
  obtain⟨kss,e1,hd⟩:=Option.bind_eq_some_iff.mp hd
  split at hd
  ·rename_i hz
   cases hd
   obtain⟨a,us,a1,a2,a3,a4,a5⟩:=sr.dictT e0
   refine⟨.ref a,a1,a,us,kss,rfl,a4,by rw[a5.1];exact qj e1,hz.1,hz.2,λl ys hl hy=>q _ _ (bh hl _) (qN hl (Same.refl _) (pI sr.ht hy))⟩
  ·cases hd
end
abbrev oY:=List (List aV×D)
structure Two(K:W.Frag)(H0 H':Hp)(hid:bn)(v:V)(t a b:Addr)(us ws:List (List aV×V))(p q:oY):Prop where
 ev:v=.ref t
 ht:H' t=some (.tup [.ref a,.ref b])
 na:H0 a=none
 nb:H0 b=none
 ne:a≠b
 ha:H' a=some (.dT us)
 hb:H' b=some (.dT ws)
 ra:KRt K (vw H' (bj (bj hid a) b)) us p
 rb:KRt K (vw H' (bj (bj hid a) b)) ws q
def wx(K:W.Frag)(n:Nat)(M:List D->Option (oY×oY)):Sp:=λvs H Q _=> ∃hid ds,Bd hid H/\Reps K (vw H hid) vs ds/\ds.length=n/\ ∃p q,M ds=some (p,q)/\ ∀v t a b us ws H',Same H H'->Two K H H' hid v t a b us ws p q->Q v H'
def xq(n i j:Nat)(t:FS):List D->Option (oY×oY):=λds=>match t (gG n ds) with
 | .nx ρ=>(ic i ρ).bind λp=>(ic j ρ).map λq=>(p,q)
 |_=>none
def Cw(X:Cx)(c:Ct)(i j:Nat)(st:List Stmt)(t:FS):Prop:= ∀ρ,PSs X st (λD σ H=> ∃hid,SR X.K c hid ρ σ H/\ ∃ρ' p q,t ρ=.nx ρ'/\ic i ρ'=some p/\ic j ρ'=some q/\
 ∀v t a b us ws H',(∀b o,c.H₀ b=some o->c.mu b=false->H' b=some o)->Two X.K c.H₀ H' c.hid₀ v t a b us ws p q->D.rt v H')
section
variable {X:Cx}{c:Ct}{i j:Nat}{st:Stmt}{rest:List Stmt}{t u:FS}{pos px py pt:Pos}{x y:Str}{x1:_}
theorem jl {k:Kd}(h1:DS X c k st t)(h2:Cw X c i j rest u):Cw X c i j (st::rest) (aB t u):=λρ=>
 PSs.imp (oU (h1 ρ) (sF λρ1=>h2 ρ1)) λD σ H hq_=>by
  obtain⟨hid,sr,ρ',p,q,e,e1,e2,z⟩:=hq_
  refine⟨hid,sr,?_⟩
  unfold aB at e;cases e0:t ρ with
  |nx ρ1=>rw[e0] at e;exact λσ1 H1 hid1 sr1 v1=>⟨ρ1,hid1,sr1,ρ',p,q,e,e1,e2,z⟩
  |rt d ρ1=>rw[e0] at e;cases e
  |bk ρ1=>rw[e0] at e;cases e
  |ct ρ1=>rw[e0] at e;cases e
  |no=>rw[e0] at e;cases e
theorem zE(i j:Nat)(hij:i≠j)(hN:X.N[i]? =some x:=by rfl)(hN':X.N[j]? =some y:=by rfl)(hv:nT X.env.scope x:=by first|exact Or.inl rfl|exact Or.inr (Or.inl rfl)|exact Or.inr (Or.inr rfl))(hv':nT X.env.scope y:=by first|exact Or.inl rfl|exact Or.inr (Or.inl rfl)|exact Or.inr (Or.inr rfl))
 (hd:(x==("__debug__":Str))=false:=by decide) (hcd:(x==("__classdict__":Str))=false:=by decide) (hd':(y==("__debug__":Str))=false:=by decide) (hcd':(y==("__classdict__":Str))=false:=by decide)
 (hs:starEach [.Name x px,.Name y py] X.env=(false,eval (.Name x px) X.env)::starEach [.Name y py] X.env:=by rfl) (hs':starEach [.Name y py] X.env=(false,eval (.Name y py) X.env)::starEach [] X.env:=by rfl):
 Cw X c i j [.Return (some (.Tuple [.Name x px,.Name y py] x1 pt)) pos] skip:=λρ=>
 PSs.imp (sR (rg (qY (cH (pv i hN hv hd hcd) (cH (pv j hN' hv' hd' hcd') gk hs') hs)))) λD σ H hq_=>by
  obtain⟨hid,sr,ρ',p,q,e,e1,e2,z⟩:=hq_
  cases e
  obtain⟨a,us,a1,a2,a3,a4,a5⟩:=sr.dictT e1
  obtain⟨b,ws,b1,b2,b3,b4,b5⟩:=sr.dictT e2
  have ne:a≠b:=λw=>by
   subst w;exact sr.ap i j a hij (by rw[iD e1];trivial) (by rw[iD e2];trivial) a1 b1
  refine⟨_,a1,_,b1,by show 2<=sizeLine;rw[sizeLine_eq];omega,λl hl=>?_⟩
  have sm:=bh hl (.tup [.ref a,.ref b])
  have le:Same (vw H hid) (vw (bd H l (.tup [.ref a,.ref b])) (bj (bj c.hid₀ a) b)):=by
   refine Same.trans (aI sm) (fB λd w=>?_)
   unfold bj at w
   by_cases d1:d=b
   ·subst d1;exact b2
   ·by_cases d2:d=a
    ·subst d2;exact a2
    ·exact sr.h0 d (by simpa [d1,d2] using w)
  exact z _ l a b us ws _ (λd o w m=>sm _ _ (sr.kp d o w m)) ⟨rfl,aE,a3,b3,ne,sm _ _ a4,sm _ _ b4,⟨a5.1,a5.2.mono le⟩,⟨b5.1,b5.2.mono le⟩⟩
end
section
variable {P:Program}{w:World}{K:W.Frag}{mg:Str->Option Value}{base:Heap}{x:Str}{st:Stmt}{N ps:List Str}{k n i j:Nat}{t:FS}
theorem zX(F:Df K mg x st ps)(S:FnScope N ps (ao st))(hn:ps.length=n)
 (body: ∀(f:Addr) (cdv:Value) (A:Around) (outer:List Env) (s:Shared) (H:Hp) (hid:bn) (E:XK),Room k (A.deeper (envOfC x (ao st) s.heap.objs.size f cdv))->
   Cw (mi oB P w K mg base N x (ao st) f cdv A outer s H E).nox ⟨H,hid,λ_=>false⟩ i j (aQ st) t):
 Cl P w K mg base (k+1) x ps (wx K n (xq N.length i j t)):=by
 obtain⟨f,fd,F,hm,hb⟩:=F.ex
 subst hn;refine⟨f,fd,F.ok S (λvs H Q E h=>?_) (λcdv A outer s H vs Q E hr h=>?_),hm,F.kp,hb⟩
 ·obtain⟨hid,ds,_,r,hl,_⟩:=h
  rw[r.length,hl]
 ·obtain⟨hid,ds,tr,r,hl,p,q,hP,z⟩:=h
  unfold xq at hP;cases e:t (gG N.length ds) with
  |nx ρ=>
   rw[e] at hP;obtain⟨p',e1,hP⟩:=Option.bind_eq_some_iff.mp hP
   obtain⟨q',e2,hP⟩:=Option.map_eq_some_iff.mp hP
   cases hP
   exact⟨_,body f cdv A outer s H hid E hr (gG N.length ds),hid,SR.begins tr r,ρ,p,q,e,e1,e2,λv t a b us ws H' kp T=>z v t a b us ws H' (λb o y=>kp b o y rfl) T⟩
  |rt d ρ=>rw[e] at hP;cases hP
  |bk ρ=>rw[e] at hP;cases hP
  |ct ρ=>rw[e] at hP;cases hP
  |no=>rw[e] at hP;cases hP
end
section
variable {X:Cx}{c:Ct}{k:Kd}{e:Expr}{es:List Expr}{pos p px py pt pc:Pos}{x y z:Str}{ps:List Str}{n l:Nat}{x1:_}
def pC(i j n:Nat)(M:List D->Option (oY×oY))(fs:FA):FS:=λρ=>match fs ρ with
 |some ds=>if ds.length=n then(match M ds with
  |some (p,q)=>.nx ((ρ.set i (.ob (.dT p))).set j (.ob (.dT q)))
  |none=>.no) else .no
 |none=>.no
theorem AF(i j:Nat)(hij:i≠j){M:List D->Option (oY×oY)}{fs:FA}(hc:X.calm=true)(hn:X.N.Nodup)(C:Cl X.prog X.w X.K X.mg X.base l z ps (wx X.K n M))(hr:Room l X.A)(ha:DA X c (e::es) fs)
 (hN:X.N[i]? =some x:=by rfl) (hN':X.N[j]? =some y:=by rfl) (hx:sY X.env.scope x:=by first|exact Or.inl rfl|exact Or.inr rfl) (hy:sY X.env.scope y:=by first|exact Or.inl rfl|exact Or.inr rfl)
 (hf:X.fn x=true\/X.env.scope.names.lookup x=some .local:=by first|exact .inl rfl|exact .inr rfl|assumption) (hf':X.fn y=true\/X.env.scope.names.lookup y=some .local:=by first|exact .inl rfl|exact .inr rfl|assumption)
 (hg:Gl X z:=by rfl) (hdb:(z==("__debug__":Str))=false:=by decide) (he:starEach (e::es) X.env=(false,eval e X.env)::starEach es X.env:=by rfl) (hpl:(backTo pc (starEach es X.env)).any (·.1)=false:=by rfl)
 (hs:swapsWithSole [.Tuple [.Name x px,.Name y py] x1 pt] (.Call (.Name z p) (e::es) [] pc) pos.line X.env=pure false:=by rfl) (hw:swappedStores [.Tuple [.Name x px,.Name y py] x1 pt] (.Call (.Name z p) (e::es) [] pc) X.env=pure none:=by rfl)
 (h1:(assignEach [.Tuple [.Name x px,.Name y py] x1 pt] X.env).map (·.2)=[assign (.Tuple [.Name x px,.Name y py] x1 pt) X.env]:=by rfl)
 (h2:(assignEach [.Name x px,.Name y py] X.env).length=2:=by rfl) (h3:(assignEach [.Name x px,.Name y py] X.env).findIdx? (·.1)=none:=by rfl)
 (h4:(assignEach [.Name x px,.Name y py] X.env).map (·.2)=assign (.Name x px) X.env::(assignEach [.Name y py] X.env).map (·.2):=by rfl) (h5:(assignEach [.Name y py] X.env).map (·.2)=assign (.Name y py) X.env::(assignEach [] X.env).map (·.2):=by rfl):
 DS X c k (.Assign [.Tuple [.Name x px,.Name y py] x1 pt] (.Call (.Name z p) (e::es) [] pc) pos) (pC i j n M fs):=λρ=>by
 obtain⟨f,fd,F,hm,hk,hb⟩:=C.ex
 refine PS.imp (rT (oo F hr hg hm hk hb .nil (vi (X:=X)) (zV λhid=>ha hid ρ) hdb he hpl) (qX hc (jv (oK hn hN hx hf) (jv (oK hn hN' hy hf') oa h5) h4) h2 h3) hs hw h1) λD σ H hq_=>?_
 obtain⟨hid,sr,q⟩:=hq_
 unfold pC at q;split at q
 ·rename_i ds e0
  split at q
  ·rename_i hl
   split at q
   ·rename_i kp kq e2
    refine⟨hid,sr,ds,e0,λvs H1 s1 r1=>?_⟩
    show wx X.K n M (vs++[]) H1 _ E0;rw[List.append_nil];refine⟨hid,ds,(sr.ext s1).trk,r1,hl,kp,kq,e2,λv t a b us ws H' sm T=>?_⟩
    obtain⟨rfl,ht,na,nb,ne,hha,hhb,ra,rb⟩:=T
    refine⟨t,[.ref a,.ref b],rfl,.inl (.inl ht),rfl,.ref a,[.ref b],rfl,.ref b,[],rfl,rfl,?_⟩
    have sr1:=sr.ext s1
    have fa:=sr1.fresh na
    have fb:=sr1.fresh nb
    have s2:Same H1 (λd=>if d=b then none else H' d):=λd o w=>by
     have:d≠b:=aT w nb
     show(if d=b then none else H' d)=some o
     rw[if_neg this];exact sm _ _ w
    have s3:Same (λd=>if d=b then none else H' d) H':=λd o w=>by
     have w:(if d=b then none else H' d)=some o:=w
     split at w
     ·cases w
     ·exact w
    have sr2:=sr1.hide s2 na (o:=.dT us) (by show(if a=b then none else H' a)=_;rw[if_neg ne];exact hha)
    have sr3:=sr2.hide s3 (a:=b) (o:=.dT ws) (by show(if b=b then none else H' b)=_;rw[if_pos rfl]) hhb
    have h0a:c.H₀ a=none:=sr1.fresh0 na
    have h0b:c.H₀ b=none:=sr1.fresh0 nb
    have sr4:=SR.setD (a:=a) (b:=.dT kp) sr3 ⟨⟨cE bR,h0a⟩,us,hha,ra.1,ra.2⟩ (sr1.notOw fa) i
    have sr5:=SR.setD (a:=b) (b:=.dT kq) sr4 ⟨⟨bR,h0b⟩,ws,hhb,rb.1,rb.2⟩ (λm o w=>by
     by_cases em:m=i
     ·subst em
      by_cases lt:m<σ.length
      ·rw[List.getElem?_set_self lt] at w;cases w;exact ne rfl
      ·rw[List.getElem?_eq_none (by simpa using lt)] at w;cases w
     ·rw[List.getElem?_set_ne (Ne.symm em)] at w o
      exact sr1.notOw fb m o w) j
    refine q _ H' _ sr5 λd o w=>?_
    obtain⟨w1,w2⟩:=vw_some.mp w
    have w3:=s1 _ _ w2
    refine vw_some.mpr ⟨?_,sm _ _ w3⟩
    unfold bj;have d1:d≠a:=aT w3 na
    have d2:d≠b:=aT w3 nb
    rw[w1];simp[d1,d2]
   ·exact q.elim
  ·exact q.elim
 ·exact q.elim
def jt(g fe:FE):FE:=λρ=>match g ρ with
 |some (.lst ds)=>if ds.length<sizeLine then(fe ρ).map λ_=>.non else none
 |_=>none
theorem tQ {o e:Expr}{g fe:FE}{apos:Pos}(ho:DP X c .n o g)(he:DP X c .s e fe)(slot:Slot "list" "append" "list.append")(hty:typeOf (.builtin "list.append")=pure (.type "method_descriptor"))
 (hbase:attributeBase o "append" X.env (eval o X.env)=eval o X.env:=by rfl)
 (hfew:((backTo pos (starEach [e] X.env)).all (λx=> !x.1)&&(backToKw pos (keywordEach [] X.env)).all (λx=>x.1.isSome)
   &&decide ([e].length+([]:List Keyword).length+(if([]:List Keyword).isEmpty then 0 else 1)<30))=true:=by rfl)
 (hline:(apos.endLine==pos.line)=true:=by rfl) (hs:starEach [e] X.env=(false,eval e X.env)::starEach [] X.env:=by rfl) (hplain:(backTo pos (starEach [] X.env)).any (·.1)=false:=by rfl):
 DP X c .s (.Call (.Attribute o "append" apos) [e] [] pos) (jt g fe):=λhid ρ=>
 PE.imp (wu PySem.F.plainAttrs_list slot hty cg (ho hid ρ) (cH (he hid ρ) gk hs) hbase hfew hline hs hplain) λσ H Q hq_=>by
  obtain⟨sr,d,hd,q⟩:=hq_
  unfold jt at hd;split at hd
  ·rename_i ds e0
   split at hd
   ·rename_i hz
    obtain⟨d',e1,rfl⟩:=Option.map_eq_some_iff.mp hd
    refine⟨sr,_,e0,λv H1 s1 r1=>?_⟩
    obtain⟨l,xs,ds',z,rfl,n1,n2,n3⟩:=r1
    cases z
    refine .inl ⟨rfl,_,SqL.of n2⟩|>λw=>⟨w,sr.ext s1,d',e1,λy H2 s2 r2=>?_⟩
    refine⟨l,xs,y,rfl,rfl,s2 _ _ n2,by rw[n3.length];exact hz,q _ _ (λb o w=>?_) .non⟩
    rw[aC (aT w n1)];exact s2 _ _ (s1 _ _ w)
   ·cases hd
  ·cases hd
end
set_option maxHeartbeats 4000000
section
variable {X:Cx}{ae:List (Addr×Obj)}{σ:St}{H:Hp}{s:Shared}{d p:Addr}{u u':HO}
theorem Inv.re(I:Inv X ae σ H s)(e:H d=some u)(mu:AQ (some u))(t: ∀H',ObjOk X.prog X.w H' s.heap d u->ObjOk X.prog X.w H' s.heap d u'):Inv X ae σ (bd H d u') s:=by
 have nt: ∀b xs,H b=some (.tup xs)->b≠d:=λb xs q z=>by subst z;rw[e] at q;cases q;exact mu
 have no: ∀b y,H b=some (.own y)->b≠d:=λb xs q z=>by subst z;rw[e] at q;cases q;exact mu
 have q:=I.hok d u e
 obtain⟨o,ho⟩:=q.there
 exact I.write (x:=d) (e:=d) (t':=s.toks) (h':=s.heap) (by rw[e];exact mu) (.inl rfl) (λb v _ hv=>hv) ⟨o,ho⟩ (t _ (q.stay (λb v _ h=>h) (λb h=>by rw[aC (no b _ h)];exact h) λb xs h=>by rw[aC (nt b xs h)];exact h))
theorem Inv.nest(I:Inv X ae σ H s)(e:H d=some u)(mu:AQ (some u)):Inv X ae σ (bd H d (.nst p u)) s:=I.re e mu λ_ h=>h
theorem Inv.unnest(I:Inv X ae σ H s)(e:H d=some (.nst p u)):Inv X ae σ (bd H d u) s:=I.re e trivial λ_ h=>h
end
section
variable {X:Cx}{e o i:Expr}{st:Stmt}{t:TS}{pos pos':Pos}{value:Expr}{td ty tv:TE}
theorem PS.post(h:PS X st t):PS X st (λD σ H=>t {D with nx:=λσ' H'=> ∀ae s,Inv X ae σ' H' s-> ∃H'',Inv X ae σ' H'' s/\D.nx σ' H''} σ H):=by
 intro ae s σ H D I q;refine bq (h ae s σ H _ I q) λf s' z=>?_
 cases f with
 |next=>
  obtain⟨σ',H',I',w⟩:=z
  obtain⟨H'',I'',w'⟩:=w ae s' I'
  exact⟨σ',H'',I'',w'⟩
 |brk=>exact z
 |cont=>exact z
 |ret u=>exact z
def Cj:vV:=λo i v H Q=> ∃d p,o=.ref d/\((∃us k,i=kV k/\H d=some (.nst p (.dK us))/\us.length<sizeLine/\Q (bd H d (.nst p (.dK (gO us k v)))))\/
 ∃xs k j,i=.int k/\H d=some (.nst p (.lst xs))/\mn xs.length k=some j/\Q (bd H d (.nst p (.lst (xs.set j v)))))
theorem vM {H:Hp}{d:Addr}{u u' u'':HO}:bd (bd (bd H d u) d u') d u''=bd H d u'':=by rw[ol,ol]
theorem yr(hu:X.A.units+1<cLine):x9 X Cj:=by
 intro ae s σ H o i v ov iv u Q I ro ri rv h;obtain⟨d,p,rfl,⟨us,k,rfl,hd,hl,q⟩|⟨xs,k,j,rfl,hd,hj,q⟩⟩:=h
 ·cases ro
  refine nh hu (I.unnest hd) (DPut.k (k:=k) aE hl) ri rv λs' I'=>⟨_,I'.nest (p:=p) aE trivial,?_⟩
  rw[vM];exact q
 ·refine bq (qe (X:=X) ae s σ (bd H d (.lst xs)) (.ref d) (.int k) v ov iv u (λH'=>H'=bd (bd H d (.lst xs)) d (.lst (xs.set j v))) (I.unnest hd) ro ri rv ⟨d,xs,k,j,rfl,rfl,aE,hj,rfl⟩) λ_ s' hq_=>?_
  obtain⟨H',I',e'⟩:=hq_
  subst e';refine⟨_,I'.nest (p:=p) aE trivial,?_⟩
  rw[vM];exact q
theorem yx {t:vV}(hp:x9 X t)(ho:PE X o td)(hi:PE X i ty)(hv:PE X value tv)(hs:swapsWith value (some (.Subscript o i pos')) pos.line X.env=pure false):
 PS X (.Assign [.Subscript o i pos'] value pos) (λD σ H=>tv σ H λv H1=>td σ H1 λx H2=>ty σ H2 λy H3=>t x y v H3 λH4=>D.nx σ H4):=by
 intro ae s σ H D I h;refine wpAny_Assign_Subscript (bq (hv ae s σ H _ I h) λr s1 ⟨v,H1,I1,rv,q1⟩=>bq (ho ae s1 σ H1 _ I1 q1) λu s2 ⟨x,H2,I2,rx,q2⟩=>bq (hi ae s2 σ H2 _ I2 q2) λiv s3 ⟨y,H3,I3,ry,q3⟩=>?_) hs
 exact bq (hp ae s3 σ H3 x y v u iv r _ I3 rx ry rv q3) λ_ s4 ⟨H4,I4,q4⟩=>⟨σ,H4,I4,q4⟩
end
def lR(i:Nat)(ρ:aG):Option (List NO):=match ρ[i]? with
 |some (.ob (.nst us))=>some us
 |_=>none
theorem fE {i:Nat}{ρ:aG}{us:List NO}(h:lR i ρ=some us):ρ[i]? =some (.ob (.nst us)):=by
 unfold lR at h;split at h
 ·cases h;assumption
 ·cases h
def wk(k d:D):NO->Option NO
 | .k kvs=>(tK k).bind λkk=>if kvs.length<=1000 then some (.k (mx kvs kk d)) else none
 | .l ds=>match k with
   | .int j=>(mn ds.length j).map λq=>.l (ds.set q d)
   |_=>none
def yw(us:List NO)(i k d:D):Option (List NO):=match i with
 | .int j=>(mn us.length j).bind λq=>us[q]?.bind λu=>(wk k d u).map λu'=>us.set q u'
 |_=>none
def nz(i:Nat)(f1 f2 fv:FE):FS:=λρ=>match lR i ρ,fv ρ,f1 ρ,f2 ρ with
 |some us,some d,some j,some k=>(match yw us j k d with
  |some us'=>.nx (ρ.set i (.ob (.nst us')))
  |none=>.no)
 |_,_,_,_=>.no
section
variable {K:W.Frag}{c:Ct}{hid:bn}{ρ:aG}{σ:St}{H:Hp}{a:Addr}
theorem Paired.get {α β:Type}{F:α->β->Prop}: ∀ {l₁:List α} {l₂:List β} {i:Nat} {y:β},Paired F l₁ l₂->l₂[i]? =some y-> ∃x,l₁[i]? =some x/\F x y
 |_,_,_,_,.nil,e=>by simp at e
 |_,_,0,_,.cons r _,e=>by simp at e;subst e;exact⟨_,rfl,r⟩
 |_,_,i+1,y,.cons _ t,e=>by
  obtain⟨u,h1,h2⟩:=Paired.get (i:=i) (y:=y) t (by simpa using e)
  exact⟨u,by simpa using h1,h2⟩
theorem Paired.len {α β:Type}{F:α->β->Prop}: ∀ {l₁:List α} {l₂:List β},Paired F l₁ l₂->l₁.length=l₂.length
 |_,_,.nil=>rfl
 |_,_,.cons _ t=>by simp[Paired.len t]
theorem Paired.setN {F G:Addr->NO->Prop}: ∀ {bs:List Addr} {us:List NO} {i:Nat} {d:Addr} {u':NO},bs.Nodup->Paired F bs us->bs[i]? =some d->G d u'->(∀b u,b≠d->F b u->G b u)->Paired G bs (us.set i u')
 |_,_,_,_,_,_,.nil,e,_,_=>by simp at e
 |_,_,0,d,u',n,.cons r t,e,g,k=>by
  simp at e;subst e;refine .cons g ?_
  have nb:=(List.nodup_cons.mp n).1
  clear r n g
  induction t with
  |nil=>exact .nil
  |cons r' t' ih=>
   rw[List.mem_cons,not_or] at nb;exact .cons (k _ _ (λe=>nb.1 e.symm) r') (ih nb.2)
 |b::bs,_,i+1,d,u',n,.cons r t,e,g,k=>by
  have e':bs[i]? =some d:=by simpa using e
  refine .cons (k _ _ (λz=>?_) r) (Paired.setN (List.nodup_cons.mp n).2 t e' g k)
  subst z;exact(List.nodup_cons.mp n).1 (List.mem_of_getElem? e')
theorem SR.nst(h:SR K c hid ρ σ H){i:Nat}{us:List NO}(e:lR i ρ=some us): ∃a bs,σ[i]? =some (some (.ref a))/\(hid a=true/\c.H₀ a=none)/\H a=some (.lst (bs.map V.ref))/\bs.Nodup/\Paired (NOk K c hid H a) bs us:=by
 obtain⟨a,h1,h2,bs,h3,h4,h5⟩:=h.sl i _ (fE e)
 exact⟨a,bs,h1,h2,h3,h4,h5⟩
theorem NOk.at {b:Addr}{u:NO}(h:NOk K c hid H a b u):(hid b=true/\c.H₀ b=none)/\ ∃o,H b=some (.nst a o):=by
 cases u with
 |l ds=>obtain⟨h1,_,h2,_⟩:=h;exact⟨h1,_,h2⟩
 |k kvs=>obtain⟨h1,_,h2,_⟩:=h;exact⟨h1,_,h2⟩
theorem SR.putN {i q:Nat}{us:List NO}{u':NO}{bs:List Addr}{d:Addr}{o':HO}(h:SR K c hid ρ σ H)(hg:lR i ρ=some us)(ha:σ[i]? =some (some (.ref a)))(hb:H a=some (.lst (bs.map V.ref)))(nd:bs.Nodup)(pr:Paired (NOk K c hid H a) bs us)(hd:bs[q]? =some d)
 (hx: ∃o,H d=some (.nst a o)) (h2:hid d=true) (h3:c.H₀ d=none) (nt: ∀xs,o'≠ .tup xs) (new:NOk K c hid (bd H d o') a d u'):SR K c hid (ρ.set i (.ob (.nst (us.set q u')))) σ (bd H d o'):=by
 obtain⟨a2,g1,g2,_⟩:=h.sl i _ (fE hg)
 rw[ha] at g1;cases g1;obtain⟨o,hx⟩:=hx
 have ne:a≠d:=λe=>by subst e;rw[hb] at hx;cases hx
 refine h.putO (fE hg) trivial trivial ha (.inr ⟨o,hx⟩) h2 h3 nt ⟨g2,bs,by rw[aC ne];exact hb,nd,Paired.setN nd pr hd new λb u n r=>?_⟩
 exact r.mono (λv q=>by rw[aC n];exact q) (by rw[cv h2];exact Same.refl _) λ_=>r.at.1.1
end
section
variable {X:Cx}{c:Ct}{k k1 k2:Kd}{e1 e2 ev:Expr}{f1 f2 fv:FE}{pos pos' py pos2:Pos}{x y:Str}
theorem tD {bs:List Addr}{j:Int}{q:Nat}{d:Addr}(e:mn bs.length j=some q)(e2:bs[q]? =some d):kN (bs.map V.ref) j=some (.ref d):=by
 unfold kN;rw[List.length_map,e];show(bs.map V.ref)[q]? =_;rw[List.getElem?_map,e2];rfl
theorem yh(i:Nat)(hu:X.A.units+1<cLine)(h1:DP X c k1 e1 f1)(h2:DP X c k2 e2 f2)(hv:DP X c .s ev fv)(hN:X.N[i]? =some y:=by rfl)(hv':nT X.env.scope y:=by first|exact Or.inl rfl|exact Or.inr (Or.inl rfl)|exact Or.inr (Or.inr rfl))(hd:(y==("__debug__":Str))=false:=by decide)
 (hcd:(y==("__classdict__":Str))=false:=by decide) (hp:jh e1:=by exact λ_ _=>rfl) (hs:swapsWith ev (some (.Subscript (.Subscript (.Name y py) e1 pos2) e2 pos')) pos.line X.env=pure false:=by rfl):
 DS X c k (.Assign [.Subscript (.Subscript (.Name y py) e1 pos2) e2 pos'] ev pos) (nz i f1 f2 fv):=λρ=>PS.imp (yx (yr hu) (tM (aA (X:=X)) (pv i hN hv' hd hcd) (jr λhid=>h1 hid ρ) hp) (jr λhid=>h2 hid ρ) (jr λhid=>hv hid ρ) hs) λD σ H hq_=>by
 obtain⟨hid,sr,q⟩:=hq_
 unfold nz at q;split at q
 ·rename_i us d j kk e0 g1 g2 g3
  split at q
  ·rename_i us' g4
   unfold yw at g4;split at g4
   ·rename_i jj
    obtain⟨qq,g5,g4⟩:=Option.bind_eq_some_iff.mp g4
    obtain⟨u,g6,g4⟩:=Option.bind_eq_some_iff.mp g4
    obtain⟨u',g7,rfl⟩:=Option.map_eq_some_iff.mp g4
    obtain⟨a,bs,a1,a2,a3,a4,a5⟩:=sr.nst e0
    obtain⟨b,b1,b2⟩:=L2.Paired.get a5 g6
    refine⟨hid,sr,d,g1,λv H1 s1 r1=>⟨.ref a,a1,hid,sr.ext s1,_,g2,λz H2 s2 r2=>?_⟩⟩
    have sr2:=(sr.ext s1).ext s2
    have i1:=(RK.b k1 r2 λa n=>(sr.ext s1).fresh n).int
    cases i1
    refine .inl ⟨a,bs.map V.ref,jj,.ref b,rfl,rfl,SqL.of ((s1.trans s2) _ _ a3),tD (by rw[(L2.Paired.len a5)];exact g5) b1,hid,sr2,_,g3,λw H3 s3 r3=>?_⟩
    have s13:=(s1.trans s2).trans s3
    have sr3:=sr2.ext s3
    have r1':Rep X.K (vw H3 hid) v d:=Rep.mono (aI (s2.trans s3)) r1
    have rk:=RK.b k2 r3 λa n=>sr2.fresh n
    have pr3:Paired (NOk X.K c hid H3 a) bs us:=Paired.mapP a5 λx y z=>z.mono (λ_ w=>s13 _ _ w) (aI s13) λ_=>z.at.1.1
    have bt:=b2.at
    have fin: ∀o',(∀xs,o'≠ .tup xs)->NOk X.K c hid (bd H3 b o') a b u'->D.nx σ (bd H3 b o'):=λo' nt new=>
     q _ _ hid (sr3.putN e0 a1 (s13 _ _ a3) a4 pr3 b1 (let⟨o,ho⟩:=bt.2;⟨o,s13 _ _ ho⟩) bt.1.1 bt.1.2 nt new) (by rw[cv bt.1.1];exact aI s13)
    cases u with
    |k kvs=>
     obtain⟨key,g8,g7⟩:=Option.bind_eq_some_iff.mp g7
     split at g7
     ·rename_i hz
      cases g7
      obtain⟨j2,rfl,rfl⟩:=mh g8
      cases rk.int
      obtain⟨_,vs,w1,w2,w3⟩:=b2
      have kr:KRl X.K (vw H3 hid) vs kvs:=⟨w2,w3.mono (aI s13)⟩
      refine⟨b,a,rfl,.inl ⟨vs,Sum.inl j2,rfl,s13 _ _ w1,by rw[kr.len];exact Nat.lt_of_le_of_lt hz (by decide),fin _ nofun ⟨bt.1,_,aE,?_⟩⟩⟩
      rw[cv bt.1.1];exact KRl.put (Sum.inl j2) r1' kr
     ·cases g7
    |l ds=>
     cases kk with
     |int j2=>
      obtain⟨q2,g8,rfl⟩:=Option.map_eq_some_iff.mp g7
      cases rk.int
      obtain⟨_,xs,w1,w2⟩:=b2
      have w2':=w2.mono (aI s13)
      refine⟨b,a,rfl,.inr ⟨xs,j2,q2,rfl,s13 _ _ w1,by rw[w2'.length];exact g8,fin _ nofun ⟨bt.1,_,aE,?_⟩⟩⟩
      rw[cv bt.1.1];exact Reps.set r1' q2 w2'
     |_=>cases g7
   ·cases g4
  ·exact q.elim
 ·exact q.elim
end
section
variable {K:W.Frag}{c:Ct}{hid:bn}{ρ:aG}{σ:St}{H:Hp}{a x:Addr}
theorem mH {b:Addr}(h:fR hid x b=true):hid b=true/\b≠x:=by
 unfold fR at h;rw[Bool.and_eq_true] at h;exact⟨h.1,by simpa using h.2⟩
theorem hU {b:Addr}(n:b≠x):fR hid x b=hid b:=by unfold fR;simp[n]
theorem j7 {u':HO}(hh:hid x=true):Same (vw H hid) (vw (bd H x u') (fR hid x)):=λb o q=>by
 obtain⟨q1,q2⟩:=vw_some.mp q
 have n:b≠x:=λe=>by subst e;rw[hh] at q1;cases q1
 exact vw_some.mpr ⟨by rw[hU n];exact q1,by rw[aC n];exact q2⟩
theorem zi {u':HO}:vw (bd H x u') (fR hid x) x=some u':=vw_some.mpr ⟨by unfold fR;simp,aE⟩
theorem SR.reveal {u':HO}(h:SR K c hid ρ σ H)(hh:hid x=true)(h0:c.H₀ x=none)(no: ∀(i:Nat) a',Ow ρ[i]? ->σ[i]? =some (some (.ref a'))-> ¬At H a' x):SR K c (fR hid x) ρ σ (bd H x u'):=by
 have sm:Same (vw H hid) (vw (bd H x u') (fR hid x)):=j7 hh
 have n0: ∀b o,c.H₀ b=some o->b≠x:=λb o q e=>by subst e;rw[h0] at q;cases q
 have ne: ∀(i:Nat) (s:Sl) (a' y:Addr),ρ[i]? =some s->Ow (some s)->σ[i]? =some (some (.ref a'))->At H a' y->y≠x:=λi s a' y e o q hy z=>by
  subst z;exact no i a' (by rw[e];exact o) q hy
 refine⟨λb hb=>?_,λb xs hb=>?_,λb hb=>?_,λb o q m=>by rw[aC (n0 b o q)];exact h.kp b o q m,λb o q=>by rw[aC (n0 b o q)];exact h.t0 b o q,h.c0,h.m0,h.len,λi s e=>?_,h.ap⟩
 ·obtain⟨h1,h2⟩:=mH hb
  rw[aC h2];exact h.tr b h1
 ·obtain⟨h1,h2⟩:=mH hb
  rw[aC h2];exact h.ht b xs h1
 ·obtain⟨o,q⟩:=h.c0 b hb
  rw[hU (n0 b o q)];exact h.h0 b hb
 ·have z:=h.sl i s e
  cases s with
  |no=>trivial
  |v d=>obtain⟨x,h1,h2⟩:=z;exact⟨x,h1,h2.mono sm⟩
  |own ds=>
   obtain⟨a',xs,h1,h2,h3,h4,h5⟩:=z
   have n:=ne i _ a' a' e trivial h1 (.inl rfl)
   exact⟨a',xs,h1,by rw[aC n];exact h2,by rw[hU n];exact h3,h4,h5.mono sm⟩
  |arg ds=>
   obtain⟨a',xs,h1,h2,h3,h4,h5⟩:=z
   have n:=ne i _ a' a' e trivial h1 (.inl rfl)
   exact⟨a',xs,h1,by rw[aC n];exact h2,by rw[hU n];exact h3,h4,h5.mono sm⟩
  |ob b=>
   obtain⟨a',h1,h2⟩:=z
   exact⟨a',h1,h2.mono (λow y hy o q=>by rw[aC (ne i _ a' y e ow h1 hy)];exact q) sm λow y hy q=>by rw[hU (ne i _ a' y e ow h1 hy)];exact q⟩
theorem SR.mark {i:Nat}{s:Sl}(h:SR K c hid ρ σ H)(hs:SlOk K c hid σ H i s)(no: ¬Ow (some s)):SR K c hid (ρ.set i s) σ H:=by
 have ow: ∀j:Nat,Ow (ρ.set i s)[j]? ->Ow ρ[j]? :=λj o=>by
  by_cases e:j=i
  ·subst e
   by_cases lt:j<ρ.length
   ·rw[List.getElem?_set_self lt] at o;exact absurd o no
   ·rw[List.getElem?_eq_none (by simpa using lt)] at o;exact o.elim
  ·rw[List.getElem?_set_ne (Ne.symm e)] at o;exact o
 refine⟨h.tr,h.ht,h.h0,h.kp,h.t0,h.c0,h.m0,by simp[h.len],λj s' e=>?_,λj l z n o1 o2=>h.ap j l z n (ow j o1) (ow l o2)⟩
 by_cases ej:j=i
 ·subst ej
  have lt:j<ρ.length:=by
   have:=(List.getElem?_eq_some_iff.mp e).1
   simpa using this
  rw[List.getElem?_set_self lt] at e;cases e
  exact hs
 ·rw[List.getElem?_set_ne (Ne.symm ej)] at e
  exact h.sl j s' e
theorem SR.kind {j:Nat}{s:Sl}(h:SR K c hid ρ σ H)(e:ρ[j]? =some s)(o:Ow (some s))(q:σ[j]? =some (some (.ref a))): ∃u,H a=some u/\ ∀p v,u≠ .nst p v:=by
 have z:=h.sl j s e
 cases s with
 |no=>exact o.elim
 |v d=>exact o.elim
 |own ds=>obtain⟨a',xs,h1,h2,_⟩:=z;rw[q] at h1;cases h1;exact⟨_,h2,nofun⟩
 |arg ds=>obtain⟨a',xs,h1,h2,_⟩:=z;rw[q] at h1;cases h1;exact⟨_,h2,nofun⟩
 |ob b=>obtain⟨a',h1,h2⟩:=z;rw[q] at h1;cases h1;exact h2.kind o
end
def Dk:NO->Option (List D)
 | .l ds=>some ds
 |_=>none
theorem Paired.mem {α β:Type}{F:α->β->Prop}: ∀ {l₁:List α} {l₂:List β} {x:α},Paired F l₁ l₂->x∈l₁-> ∃y,F x y
 |_,_,_,.nil,e=>by cases e
 |_,_,_,.cons r t,e=>by
  rcases List.mem_cons.mp e with rfl|e
  ·exact⟨_,r⟩
  ·exact Paired.mem t e
theorem Paired.off {α β:Type}{F G:α->β->Prop}: ∀ {l₁:List α} {l₂:List β},Paired F l₁ l₂->(∀x y,x∈l₁->F x y->G x y)->Paired G l₁ l₂
 |_,_,.nil,_=>.nil
 |_,_,.cons r t,k=>.cons (k _ _ List.mem_cons_self r) (Paired.off t λx y h=>k x y (List.mem_cons_of_mem _ h))
section
variable {X:Cx}{c:Ct}{ae:List (Addr×Obj)}{σ:St}{s:Shared}{a:Addr}{β:Type}{conv:NO->Option β}{R:Hp->Addr->β->Prop}
def we(X:Cx)(c:Ct)(ae:List (Addr×Obj))(σ:St)(s:Shared)(conv:NO->Option β)(R:Hp->Addr->β->Prop):Prop:=
 (∀W W' b v,Same W W'->R W b v->R W' b v)/\ ∀hid H a b u v,NOk X.K c hid H a b u->conv u=some v->Inv X ae σ H s-> ∃u',(∀p w,u'≠ .nst p w)/\Inv X ae σ (bd H b u') s/\ ∀W,W b=some u'->Same (vw H hid) W->R W b v
theorem ya:we X c ae σ s Dk (λW b ds=>Rep X.K W (.ref b) (.lst ds)):=by
 refine⟨λW W' b v sm h=>h.mono sm,λhid H a b u v n e I=>?_⟩
 cases u with
 |k ds=>cases e
 |l kvs=>
  cases e
  obtain⟨_,us,h1,h2⟩:=n
  exact⟨.lst us,nofun,I.unnest h1,λW hW sm=>.lst hW (h2.mono sm)⟩
theorem uu(L:we X c ae σ s conv R){ρ:aG}: ∀ {bs:List Addr} {us:List NO} {vs:List β} {hid:bn} {H:Hp},Paired (NOk X.K c hid H a) bs us->us.mapM conv=some vs->bs.Nodup->(∀b∈bs,∀(i:Nat) a',Ow ρ[i]? ->σ[i]? =some (some (.ref a'))-> ¬At H a' b)->
 Inv X ae σ H s->SR X.K c hid ρ σ H-> ∃H' hid',Inv X ae σ H' s/\SR X.K c hid' ρ σ H'/\Same (vw H hid) (vw H' hid')/\Paired (R (vw H' hid')) bs vs/\(∀y,y∉bs->H' y=H y/\hid' y=hid y)/\ ∀y p w,H' y=some (.nst p w)->H y=some (.nst p w):=by
 intro bs
 induction bs with
 |nil=>
  intro us vs hid H pr e nd no I sr;cases pr
  cases e
  exact⟨H,hid,I,sr,Same.refl _,.nil,λy _=>⟨rfl,rfl⟩,λ_ _ _ q=>q⟩
 |cons b bs ih=>
  intro us vs hid H pr e nd no I sr;cases pr
  rename_i u us r t;rw[List.mapM_cons] at e;obtain⟨v,e1,e⟩:=Option.bind_eq_some_iff.mp e
  obtain⟨vs',e2,e⟩:=Option.bind_eq_some_iff.mp e
  cases e
  obtain⟨u',n',I1,hR⟩:=L.2 hid H a b u v r e1 I
  have hb:=r.at.1
  have sr1:=sr.reveal (u':=u') hb.1 hb.2 (no b List.mem_cons_self)
  have sm1:Same (vw H hid) (vw (bd H b u') (fR hid b)):=j7 hb.1
  obtain⟨nb,nd'⟩:=List.nodup_cons.mp nd
  have back: ∀y p w,bd H b u' y=some (.nst p w)->H y=some (.nst p w):=λy p w q=>by
   by_cases ey:y=b
   ·subst ey;rw[aE] at q;cases q;exact absurd rfl (n' _ _)
   ·rw[aC ey] at q;exact q
  have t1:Paired (NOk X.K c (fR hid b) (bd H b u') a) bs us:=by
   refine L2.Paired.off t λb2 u2 hb2 r2=>?_
   have n2:b2≠b:=λz=>by subst z;exact nb hb2
   exact r2.mono (λw q=>by rw[aC n2];exact q) sm1 λ_=>by rw[hU n2];exact r2.at.1.1
  obtain⟨H',hid',I2,sr2,sm2,pr2,k2,b2⟩:=ih t1 e2 nd' (λb' hb' i a' o q hat=>no b' (List.mem_cons_of_mem _ hb') i a' o q (hat.imp id λ⟨w,hw⟩=>⟨w,back _ _ _ hw⟩)) I1 sr1
  refine⟨H',hid',I2,sr2,sm1.trans sm2,.cons (L.1 _ _ _ _ sm2 (hR _ zi sm1)) pr2,λy hy=>?_,λy p w q=>back _ _ _ (b2 y p w q)⟩
  rw[List.mem_cons,not_or] at hy;obtain⟨k3,k4⟩:=k2 y hy.2
  exact⟨k3.trans (aC hy.1),k4.trans (hU hy.1)⟩
theorem vk {H:Hp}{x:Addr}{o:HO}(e:H x=some o):bd H x o=H:=by
 funext b
 by_cases eb:b=x
 ·subst eb;rw[aE,e]
 ·exact aC eb
theorem SR.letgo(L:we X c ae σ s conv R){ρ:aG}{hid:bn}{H:Hp}{i:Nat}{us:List NO}{vs:List β}(sr:SR X.K c hid ρ σ H)(hg:lR i ρ=some us)(e:us.mapM conv=some vs)(I:Inv X ae σ H s):
 ∃H' hid' bs,Inv X ae σ H' s/\SR X.K c hid' (ρ.set i .no) σ H'/\Same (vw H hid) (vw H' hid')/\Paired (R (vw H' hid')) bs vs/\σ[i]? =some (some (.ref a))/\vw H' hid' a=some (.lst (bs.map V.ref))\/σ[i]? ≠some (some (.ref a)):=by
 by_cases ea:σ[i]? =some (some (.ref a))
 ·obtain⟨a1,bs,h1,h2,h3,h4,h5⟩:=sr.nst hg
  rw[ea] at h1;cases h1;have sr0:SR X.K c hid (ρ.set i .no) σ H:=sr.forget (by simp) λj s' q=>by
   by_cases ej:j=i
   ·subst ej
    rw[List.getElem?_set_self (List.getElem?_eq_some_iff.mp (fE hg)).1] at q;cases q;exact .inl rfl
   ·rw[List.getElem?_set_ne (Ne.symm ej)] at q;exact .inr q
  have nw: ∀(j:Nat) a',Ow (ρ.set i .no)[j]? ->σ[j]? =some (some (.ref a'))->a'≠a/\ ∃u,H a'=some u/\ ∀p v,u≠ .nst p v:=λj a' o q=>by
   have ej:j≠i:=λz=>by
    subst z;rw[List.getElem?_set_self (List.getElem?_eq_some_iff.mp (fE hg)).1] at o;exact o
   rw[List.getElem?_set_ne (Ne.symm ej)] at o;refine⟨λz=>?_,?_⟩
   ·subst z;exact sr.ap j i a' ej o (by rw[fE hg];trivial) q ea
   ·cases w:ρ[j]? with
    |none=>rw[w] at o;exact o.elim
    |some s'=>rw[w] at o;exact sr.kind w o q
  have hn: ∀b∈bs,∃o,H b=some (.nst a o):=λb hb=>let⟨_,r⟩:=L2.Paired.mem h5 hb;r.at.2
  obtain⟨H',hid',I',sr',sm',pr',k',b'⟩:=uu L h5 e h4 (λb hb j a' o q hat=>by
   obtain⟨n1,w,n2,n3⟩:=nw j a' o q
   obtain⟨ob,hob⟩:=hn b hb
   rcases hat with z|⟨w',hw'⟩
   ·subst z;rw[n2] at hob;exact n3 _ _ (Option.some.inj hob)
   ·rw[hob] at hw';cases hw';exact n1 rfl) I sr0
  have na:a∉bs:=λhb=>by obtain⟨ob,hob⟩:=hn a hb;rw[h3] at hob;cases hob
  obtain⟨k1,k2⟩:=k' a na
  have e3:H' a=some (.lst (bs.map V.ref)):=k1.trans h3
  have hh:hid' a=true:=k2.trans h2.1
  have sr2:=sr'.reveal (u':=.lst (bs.map V.ref)) hh h2.2 λj a' o q hat=>by
   obtain⟨n1,_⟩:=nw j a' o q
   rcases hat with z|⟨w',hw'⟩
   ·exact n1 z.symm
   ·rw[e3] at hw';cases hw'
  have sm2:Same (vw H' hid') (vw (bd H' a (.lst (bs.map V.ref))) (fR hid' a)):=j7 hh
  have at2:vw (bd H' a (.lst (bs.map V.ref))) (fR hid' a) a=some (.lst (bs.map V.ref)):=zi
  rw[vk e3] at sr2 sm2 at2;exact⟨H',fR hid' a,bs,.inl ⟨I',sr2,sm'.trans sm2,Paired.mapP pr' λb v r=>L.1 _ _ _ _ sm2 r,ea,at2⟩⟩
 ·exact⟨H,hid,[],.inr ea⟩
end
section
variable {X:Cx}{c:Ct}{k:Kd}{st:Stmt}{t:FS}
theorem yK {ρ:aG}{i:Nat}{a b:Sl}:(ρ.set i a).set i b=ρ.set i b:=by simp
def Ch(i:Nat)(ρ:aG):Option aG:=(lR i ρ).bind λus=>(us.mapM Dk).map λl=>ρ.set i (.v (.lst (l.map D.lst)))
def qr(i:Nat)(t:FS):FS:=λρ=>match Ch i ρ with
 |some ρ'=>t ρ'
 |none=>.no
theorem m9 {W:Hp}: ∀ {bs:List Addr} {l:List (List D)},Paired (λb ds=>Rep X.K W (.ref b) (.lst ds)) bs l->Reps X.K W (bs.map V.ref) (l.map D.lst)
 |_,_,.nil=>.nil
 |_,_,.cons r t=>.cons r (m9 t)
theorem yI(i:Nat)(h:DS X c k st t):DS X c k st (qr i t):=λρ ae s σ H D I hq_=>by
 obtain⟨hid,sr,q⟩:=hq_
 unfold qr at q;split at q
 ·rename_i ρ' e
  obtain⟨us,e0,e⟩:=Option.bind_eq_some_iff.mp e
  obtain⟨l,e1,rfl⟩:=Option.map_eq_some_iff.mp e
  obtain⟨a,_,a1,_⟩:=sr.nst e0
  obtain⟨H',hid',bs,⟨I',sr',sm,pr,_,ha⟩|z⟩:=sr.letgo (a:=a) (ya (X:=X)) e0 e1 I
  ·refine h _ ae s σ H' D I' ⟨hid',?_,q.mono sm⟩
   have:=sr'.mark (i:=i) (s:=.v (.lst (l.map L2.D.lst))) ⟨_,a1,.lst ha (m9 pr)⟩ id
   rwa [yK] at this
  ·exact absurd a1 z
 ·exact q.elim
end
theorem Paired.app1 {α β:Type}{F:α->β->Prop}{x:α}{y:β}(h:F x y): ∀ {l₁:List α} {l₂:List β},Paired F l₁ l₂->Paired F (l₁++[x]) (l₂++[y])
 |_,_,.nil=>.cons h .nil
 |_,_,.cons r t=>.cons r (Paired.app1 h t)
abbrev xV:=Hp->Hp->HO->List D->Prop
structure ACm(AC:xV):Prop where
 m: ∀ {L W W' o ad},Same W W'->AC L W o ad->AC L W' o ad
 l: ∀ {L L' W o ad},Same L L'->AC L' W o ad->AC L W o ad
def rF(Y:Cx)(c:Ct)(hid:bn)(D0:Addr)(L W:Hp)(AC:xV)(A:FA)(TA:mD)(ρ1:aG):Prop:= ∀(ae:List (Addr×Obj)) (s:Shared) (σ:St) (H:Hp) (o:HO) (ad zs:List D) (Q:Shared->Prop),Inv Y ae σ H s->SR Y.K c hid ρ1 σ H->
 H D0=some o->AC L (vw H hid) o ad->ad.length+zs.length<=sizeLine->Same L H->Same W (vw H hid)->(∀i:Nat,Ow ρ1[i]? ->σ[i]? ≠some (some (.ref D0)))->A ρ1=some zs->
 (∀(s':Shared) (σ':St) (H':Hp) (o':HO),Inv Y ae σ' H' s'->SR Y.K c hid ρ1 σ' H'->H' D0=some o'->AC L (vw H' hid) o' (ad++zs)->Same L H'->Same (vw H hid) (vw H' hid)->(∀i:Nat,Ow ρ1[i]? ->σ'[i]? ≠some (some (.ref D0)))->Q s')->TA Q s
section
variable {Y:Cx}{c:Ct}{tg:Expr}{ifs:List Expr}{g:FG}{p:FT}{A:FA}{TA:mD}{code:Code}{AC:xV}
structure CLA(Y:Cx)(ae:List (Addr×Obj))(c:Ct)(hid:bn)(ρ0:aG)(L W H3:Hp)(D0:Addr)(fp:List Addr)(tn:Nat->Heap->Prop)(AC:xV)(g:FG)(p:FT)(A:FA)(ds ys ad0:List D)(n i:Nat)(o:HO)(ad:List D)(σ':St)(H':Hp)(s':Shared):Prop where
 e:n=ds.length-i
 hi:i<=ds.length
 I:Inv Y ae σ' H' s'
 st:tn i s'.heap
 fr: ∀b∈fp,H' b=none
 sr:SR Y.K c hid ρ0 σ' H'
 sm:Same L H'
 ac:H' D0=some o
 rp:AC L (vw H' hid) o ad
 w:Same W (vw H' hid)
 v:Same (vw H3 hid) (vw H' hid)
 na: ∀i:Nat,Ow ρ0[i]? ->σ'[i]? ≠some (some (.ref D0))
 go: ∃rest,iq g p A ρ0 (ds.drop i)=some rest/\ad++rest=ad0++ys
theorem mS(M:ACm AC)(hcalm:Y.calm=true)(hxe:Y.xe=λ_ _=>False){n0:Nat}(hT:fz n0 g)(hg:kZ Y c tg g)(hp:lP Y c ifs p)
 {ae:List (Addr×Obj)} {σ3:St} {H3 L W:Hp} {s4:Shared} {hid:bn} {ρ0:aG} {J:It} {it D0:Addr} {fp:List Addr} {tn:Nat->Heap->Prop} {ds ys ad0:List D} {o0:HO} {R:Result->Shared->Prop}
 (hA: ∀d ρ1,g d ρ0=some ρ1->rF Y c hid D0 L W AC A TA ρ1)
 (hN:yb n0 ρ0) (I:Inv Y ae σ3 H3 s4) (sr:SR Y.K c hid ρ0 σ3 H3) (hh:hid D0=true) (na: ∀i:Nat,Ow ρ0[i]? ->σ3[i]? ≠some (some (.ref D0))) (hacc:H3 D0=some o0) (rp0:AC L (vw H3 hid) o0 ad0) (sm:Same L H3) (wv:Same W (vw H3 hid)) (T:Turn Y.prog Y.w Y.K tg J fp it tn) (st:tn 0 s4.heap) (hF: ∀b∈fp,gA Y ae H3 b)
 (io:yB Y.K L W J ds) (hz:ad0.length+ys.length<=sizeLine) (hc:iq g p A ρ0 ds=some ys)
 (hTP:jk Y.prog Y.w Y.A code tg ifs (.ref it) Y.env TA R)
 (hR: ∀(s':Shared) (σ':St) (H':Hp) (o:HO),Inv Y ae σ' H' s'->SR Y.K c hid ρ0 σ' H'->Same L H'->H' D0=some o->AC L (vw H' hid) o (ad0++ys)->Same (vw H3 hid) (vw H' hid)->(∀i:Nat,Ow ρ0[i]? ->σ'[i]? ≠some (some (.ref D0)))->R (.ok .next) s'):
 codeAny (model Y.prog Y.w) Y.A code R s4:=by
 have stat: ∀ {H':Hp},(∀b∈fp,H' b=none)-> ∀b∈fp,gA Y ae H' b:=λ{H'} hn b hb=>⟨hn b hb,(hF b hb).2⟩
 refine hTP (λn s'=> ∃(i:Nat) (o:HO) (ad:List D) (σ':St) (H':Hp),CLA Y ae c hid ρ0 L W H3 D0 fp tn AC g p A ds ys ad0 n i o ad σ' H' s') ?_ ds.length s4
  ⟨0,o0,ad0,σ3,H3,by simp,Nat.zero_le _,I,st,λb hb=>(hF b hb).1,sr,sm,hacc,rp0,wv,Same.refl _,na,ys,by simpa using hc,rfl⟩
 rintro n s5 ⟨i,xs,ad,σ5,H5,rfl,hi,I5,st5,f5,sr5,sm5,ac5,rp5,w5,v5,na5,rest,hc5,hy5⟩
 have wH:Same W H5:=w5.trans (dE _ _)
 by_cases hlt:i<ds.length
 ·have hd:ds[i]? =some ds[i]:=List.getElem?_eq_getElem hlt
  have e2:ds.drop i=ds[i]::ds.drop (i+1):=List.drop_eq_getElem_cons hlt
  rw[e2] at hc5;unfold iq at hc5;obtain⟨go,yl⟩:=io.1 i ds[i] H5 hd sm5 wH
  refine bq (T.item Y rfl rfl rfl hcalm i ae s5 σ5 H5 (λ_ _=>False) I5 (stat f5) st5 go) λr s6 hq_=>?_
  obtain⟨u,hr,h6⟩:=hq_
  subst hr;refine bq h6 λ_ s7 hq_=>?_
  obtain⟨x,H7,I7,r7,y7,st7,f7⟩:=hq_
  obtain⟨s7',rp⟩:=yl x H7 y7
  have rx:=rp hid sr5.tr w5
  have I7':=I7.pinned (stat f7) (T.obj _ _ st7)
  obtain⟨ρ1,e3,hc5⟩:=Option.bind_eq_some_iff.mp hc5
  obtain⟨b,e4,hc5⟩:=Option.bind_eq_some_iff.mp hc5
  obtain⟨tl1,tl2⟩:=hT _ _ _ e3
  have fg: ∀ {σ':St} {H':Hp},SR Y.K c hid ρ1 σ' H'->SR Y.K c hid ρ0 σ' H':=λ{σ' H'} z=>z.forget tl1 λj s e=>by
   by_cases hj:j<n0
   ·exact .inr ((tl2 j hj).trans e)
   ·exact .inl (hN j s (by omega) e)
  have ow01: ∀j:Nat,Ow ρ0[j]? ->Ow ρ1[j]? :=λj o=>by
   by_cases hj:j<n0
   ·rw[tl2 j hj];exact o
   ·exfalso
    cases e:ρ0[j]? with
    |none=>rw[e] at o;exact o
    |some s=>have:=hN j s (by omega) e;subst this;rw[e] at o;exact o
  have keepT: ∀ {σ':St} {H':Hp} {s':Shared},Inv Y (ae++i0 fp s7.heap) σ' H' s'->tn (i+1) s'.heap/\ ∀b∈fp,H' b=none:=λ{σ' H' s'} J'=>by
   refine⟨T.keep _ _ _ st7 λb hb o e=>(J'.pin (b,o) (List.mem_append_right _ (List.mem_append_right _ (cQ hb e)))).1,λb hb=>?_⟩
   obtain⟨o,e,_⟩:=T.obj _ _ st7 b hb
   exact(J'.pin (b,o) (List.mem_append_right _ (List.mem_append_right _ (cQ hb e)))).2.1
  refine bq (hxe▸hg hid ρ0 ds[i] _ s7 σ5 H7 x u (λσ' H'=>H'=H7/\SR Y.K c hid ρ1 σ' H7/\OwK ρ0 ρ1 σ5 σ') I7' r7 ⟨sr5.ext s7',rx,ρ1,e3,λσ' z o=>⟨rfl,z,o⟩⟩) λ_ s8 hq_=>?_
  obtain⟨σ8,H8,I8,e8,q8,o8⟩:=hq_
  subst e8;have na1: ∀j:Nat,Ow ρ1[j]? ->σ8[j]? ≠some (some (.ref D0)):=λj o=>by
   rw[(o8 j o).2];exact na5 j (o8 j o).1
  refine bq (hxe▸hp hid ρ1 _ s8 σ8 H8 (λb' H'=>b'=b/\Same H8 H') I8 ⟨q8,b,e4,λH' s'=>⟨rfl,s'⟩⟩) λok s9 hq_=>?_
  obtain⟨H9,I9,e9,sm9⟩:=hq_
  subst e9;have w9:Same (vw H5 hid) (vw H9 hid):=aI (s7'.trans sm9)
  cases ok with
  |false=>
   have hc5:iq g p A ρ0 (ds.drop (i+1))=some rest:=hc5
   obtain⟨k1,k2⟩:=keepT I9
   exact⟨ds.length- (i+1),by omega,i+1,xs,ad,σ8,H9,rfl,hlt,I9.unpinned,k1,k2,fg (q8.ext sm9),sm5.trans (s7'.trans sm9),sm9 _ _ (s7' _ _ ac5),M.m w9 rp5,w5.trans w9,v5.trans w9,λj o=>na1 j (ow01 j o),rest,hc5,hy5⟩
  |true=>
   have hc5:((A ρ1).bind λys=>(iq g p A ρ0 (ds.drop (i+1))).map (ys++ ·))=some rest:=hc5
   obtain⟨zs,e5,hc5⟩:=Option.bind_eq_some_iff.mp hc5
   obtain⟨rest',e6,rfl⟩:=Option.map_eq_some_iff.mp hc5
   have l2:=congrArg List.length hy5
   simp only[List.length_append] at l2;refine hA ds[i] ρ1 e3 _ s9 σ8 H9 xs ad zs _ I9 (q8.ext sm9) (sm9 _ _ (s7' _ _ ac5)) (M.m w9 rp5) (by omega) (sm5.trans (s7'.trans sm9)) (w5.trans w9) na1 e5 λs10 σ10 H10 xs' I10 q10 a10 rp10 smL v10 na10=>?_
   obtain⟨k1,k2⟩:=keepT I10
   exact⟨ds.length- (i+1),by omega,i+1,xs',ad++zs,σ10,H10,rfl,hlt,I10.unpinned,k1,k2,fg q10,smL,a10,rp10,(w5.trans w9).trans v10,(v5.trans w9).trans v10,λj o=>na10 j (ow01 j o),rest',e6,by rw[<-hy5];simp⟩
 ·have e:i=ds.length:=by omega
  subst e;rw[List.drop_eq_nil_of_le (Nat.le_refl _)] at hc5;cases hc5
  rw[List.append_nil] at hy5;subst hy5;refine bq (T.done Y rfl rfl rfl hcalm ds.length ae s5 σ5 H5 (λ_ _=>False) I5 (stat f5) st5 (io.2 H5 sm5 wH)) λr s6 hq_=>?_
  obtain⟨hr,I6⟩:=hq_
  subst hr;exact hR s6 σ5 H5 xs I6 sr5 sm5 ac5 rp5 v5 na5
end
section
variable {X:Cx}{c:Ct}{e t1 i1:Expr}{ifs1:List Expr}{scope:Scope}{pos:Pos}{N':List Str}{m:Nat}{gi1:FA}{g1:FG}{p1:FT}{A:FA}{AC:xV}{make:Sem Value}{ob:Obj}{o0:HO}{TA:Addr->Env->mD}
theorem xh(M:ACm AC)(hmk: ∀ {A:Around} {Q:Value->Shared->Prop} {E:Value->Shared->Prop} {s:Shared},Q (.ref s.heap.objs.size) {s with heap:=s.heap.push ob}->wpAny (model X.prog X.w) A make Q E s)
 (ho0: ∀ {H:Hp} (h:Heap),sysModules<h.objs.size->ObjOk X.prog X.w H (h.push ob) h.objs.size o0) (hnt: ∀xs,o0≠ .tup xs) (ac0: ∀L W,AC L W o0 [])
 (hcalm:X.calm=true) (hk:scope.kind=.function) (hs:oR scope X.env.scope=true) (hn:pk X.N N' scope=true) (hm:N'.length-X.N.length=m) (hT1:fz X.N.length g1)
 (hg1: ∀C s₀ H₀ ex,kZ (av X N' scope C s₀ H₀ ex) c t1 g1) (hp1: ∀C s₀ H₀ ex,lP (av X N' scope C s₀ H₀ ex) c ifs1 p1)
 (hA: ∀C s₀ H₀ ex hid D0 L W ρ0 d ρ1,yb X.N.length ρ0->g1 d ρ0=some ρ1->hid D0=true->c.H₀ D0=none->L D0=none->rF (av X N' scope C s₀ H₀ ex) c hid D0 L W AC A (TA D0 (av X N' scope C s₀ H₀ ex).env) ρ1)
 (hTP: ∀C s₀ H₀ ex D0 it R,jk X.prog X.w X.A (.compLoop e 0 (.ref it) (.ref D0) (av X N' scope C s₀ H₀ ex).env) t1 ifs1 (.ref it) (av X N' scope C s₀ H₀ ex).env (TA D0 (av X N' scope C s₀ H₀ ex).env) R)
 (hst: ∀ {A:Around} {it acc:Value} {env:Env} {R:Result->Shared->Prop} {s:Shared},codeAny (model X.prog X.w) A (.compLoop e 0 it acc env) R s->wpAny (model X.prog X.w) A (pyIter it) (λit' s'=>codeAny (model X.prog X.w) A (.compLoop e 0 it' acc env) R s') (notedBy (model X.prog X.w) A env λx s'=>R (.error x) s') s->codeAny (model X.prog X.w) A (.compStart e 0 it acc env) R s)
 {E:Value->Shared->Prop} {ae:List (Addr×Obj)} {σ:St} {H:Hp} {s:Shared} {hid:bn} {ρ:aG} {J:It} {it:Addr} {fp:List Addr} {tn:Nat->Heap->Prop} {ds ys:List D} {RR:Value->Addr->Result->Shared->Prop}
 (I:Inv X ae σ H s) (sr:SR X.K c hid ρ σ H) (T:Turn X.prog X.w X.K t1 J fp it tn) (st:tn 0 s.heap) (hF: ∀b∈fp,gA X ae H b) (io:yB X.K H (vw H hid) J ds) (hz:ys.length<=sizeLine) (hc:iq g1 p1 A (ρ++List.replicate m .no) ds=some ys)
 (hR: ∀(D C:Addr) (s':Shared) (H':Hp) (o:HO),s.heap.objs.size<=D->s.heap.objs.size<=C->D≠C->H D=none->Same H H'->H' D=some o->AC H (vw H' (bj hid D)) o ys->(∃m,s'.heap.Ns C m)->H' C=none->s'.os=s.os->AllBare s'.gens->HOk X.prog X.w H' s'.heap->Un (mC X.stack) fp H H' s.heap s'.heap->RR (.ref D) C (.ok .next) s'):
 wpAny (model X.prog X.w) X.A make (λacc s₃=>wpAny (model X.prog X.w) X.A (newFunctionEnv scope X.env.globals (nP X.env.cells scope.names []) [] X.env.qual none .none (some X.env)) (λcenv s₄=>
  codeAny (model X.prog X.w) X.A (.compStart e 0 (.ref it) acc {cenv with scope:=relabel scope X.env}) (RR acc cenv.locals) s₄) E s₃) E s:=by
 refine hmk (nS λh₁ hns₁ kp1 oc₁=>?_)
 dsimp only at hns₁ kp1 oc₁⊢
 generalize hH2:s.heap.push ob=H2 at hns₁ kp1 oc₁⊢
 have hC:H2.objs.size=s.heap.objs.size+1:=by rw[<-hH2,Heap.size_push]
 have hD:H s.heap.objs.size=none:=I.hok.fresh (Nat.le_refl _)
 have I2:Inv X ae σ (bd H s.heap.objs.size o0) {s with heap:=H2}:=by
  rw[<-hH2];exact I.laid (t':=s.toks) (λb o e=>Heap.get?_push_of_some _ e) (Nat.le_refl _) (ho0 s.heap I.big)
 have fpLt: ∀b∈fp,b<s.heap.objs.size:=λb hb=>let⟨o,e,_⟩:=T.obj 0 s.heap st b hb;Heap.lt_size e
 have hF2: ∀b∈fp,gA X ae (bd H s.heap.objs.size o0) b:=λb hb=>⟨by rw[aC (Nat.ne_of_lt (fpLt b hb))];exact(hF b hb).1,(hF b hb).2⟩
 have kp0: ∀b o,s.heap.get? b=some o->H2.get? b=some o:=λb o e=>by rw[<-hH2];exact Heap.get?_push_of_some _ e
 have IY:=lw (tk:=s.toks) (N':=N') (fp:=fp) I2 hF2 (λb hb=>let⟨o,e,_⟩:=T.obj 0 s.heap st b hb;⟨o,kp0 b o e⟩) hk hs hn hns₁ kp1 oc₁
 rw[hm] at IY;dsimp only at IY;have sr0:SR X.K c (bj hid s.heap.objs.size) (ρ++List.replicate m .no) (σ++List.replicate m none) (bd H s.heap.objs.size o0):=(sr.hide (bh hD _) hD aE hnt).more m
 have hρ:ρ.length=X.N.length:=by rw[<-sr.len];exact I.len
 have nf:hid s.heap.objs.size=false:=sr.fresh hD
 have st1:tn 0 h₁:=T.keep _ _ _ st λb hb o e=>kp1 b o (kp0 b o e)
 have na0: ∀i:Nat,Ow (ρ++List.replicate m Sl.no)[i]? ->(σ++List.replicate m none)[i]? ≠some (some (V.ref s.heap.objs.size)):=(sr.more m).notOw nf
 have wv:Same (vw H hid) (vw (bd H s.heap.objs.size o0) (bj hid s.heap.objs.size)):=by rw[oA hD];exact Same.refl _
 have nos:yb X.N.length (ρ++List.replicate m Sl.no):=λi s hi e=>by
  rw[List.getElem?_append_right (by omega),List.getElem?_replicate] at e
  split at e
  ·cases e;rfl
  ·cases e
 have loop: ∀s4:Shared,s4={s with heap:=h₁,toks:=s.toks}->
  codeAny (model X.prog X.w) X.A (.compLoop e 0 (.ref it) (.ref s.heap.objs.size) (compEnvC scope (jS X.env.cells scope H2.objs.size) H2.objs.size X.env)) (RR (.ref s.heap.objs.size) H2.objs.size) s4:=by
  rintro s4 rfl
  have fpY: ∀b∈fp,gA (av X N' scope H2.objs.size {s with heap:=H2} (bd H s.heap.objs.size o0) fp) [] (bd H s.heap.objs.size o0) b:=λb hb=>
   ⟨(hF2 b hb).1,(IY.ok.exf b hb).1,IY.ok.exfs b hb,.inl hb,(IY.ok.exf b hb).2,λq hq=>by have hq':q∈([]:List (Addr×Obj))++[]:=hq;simp at hq'⟩
  refine mS (Y:=av X N' scope H2.objs.size {s with heap:=H2} (bd H s.heap.objs.size o0) fp) (L:=H) (hid:=bj hid s.heap.objs.size) (W:=vw H hid) (ad0:=[]) (o0:=o0) (A:=A) (TA:=TA s.heap.objs.size (compEnvC scope (jS X.env.cells scope H2.objs.size) H2.objs.size X.env))
   M hcalm rfl hT1 (hg1 _ _ _ _) (hp1 _ _ _ _) (λd ρ1 e=>hA H2.objs.size {s with heap:=H2} (bd H s.heap.objs.size o0) fp _ _ _ _ _ d ρ1 nos e bR (sr.fresh0 hD) hD) nos IY sr0 bR na0 aE (ac0 _ _) (bh hD _) wv T st1 fpY io (by simpa using hz) hc (hTP H2.objs.size {s with heap:=H2} (bd H s.heap.objs.size o0) fp _ _ _) ?_
  intro s' σ' H' o I' _ sm' hx' rp' _ _;have un1:Un (mC X.stack) fp H (bd H s.heap.objs.size o0) s.heap H2:=Un.laid (λb o e=>kp0 b o e) (Nat.le_refl _) hD
  exact hR s.heap.objs.size H2.objs.size s' H' o (Nat.le_refl _) (by rw[hC];exact Nat.le_succ _) (by rw[hC];exact Nat.ne_of_lt (Nat.lt_succ_self _)) hD sm' hx' rp' (let⟨m,hm,_⟩:=I'.loc;⟨m,hm⟩) I'.free I'.os I'.bare I'.hok (un1.trans I'.base)
 exact hst (loop _ rfl) (T.self X.A 0 _ _ _ st1 (loop _ rfl))
def CT(X:Cx)(c:Ct)(AC:xV)(m:Nat)(gi1:FA)(g1:FG)(p1:FT)(A:FA)(hid:bn)(ρ:aG):TE:=λσ H Q=>SR X.K c hid ρ σ H/\ ∃ds ys,gi1 ρ=some ds/\iq g1 p1 A (ρ++List.replicate m .no) ds=some ys/\ys.length<=sizeLine/\
 ∀(D:Addr) (H':Hp) (o:HO),H D=none->Same H H'->H' D=some o->AC H (vw H' (bj hid D)) o ys->Q (.ref D) H'
theorem A1(M:ACm AC)(hmk: ∀ {A:Around} {Q:Value->Shared->Prop} {E:Value->Shared->Prop} {s:Shared},Q (.ref s.heap.objs.size) {s with heap:=s.heap.push ob}->wpAny (model X.prog X.w) A make Q E s)
 (ho0: ∀ {H:Hp} (h:Heap),sysModules<h.objs.size->ObjOk X.prog X.w H (h.push ob) h.objs.size o0) (hnt: ∀xs,o0≠ .tup xs) (ac0: ∀L W,AC L W o0 [])
 (hcalm:X.calm=true) (hk:scope.kind=.function) (hs:oR scope X.env.scope=true) (hn:pk X.N N' scope=true) (hm:N'.length-X.N.length=m) (hT1:fz X.N.length g1)
 (hg1: ∀C s₀ H₀ ex,kZ (av X N' scope C s₀ H₀ ex) c t1 g1) (hp1: ∀C s₀ H₀ ex,lP (av X N' scope C s₀ H₀ ex) c ifs1 p1)
 (hA: ∀C s₀ H₀ ex hid D0 L W ρ0 d ρ1,yb X.N.length ρ0->g1 d ρ0=some ρ1->hid D0=true->c.H₀ D0=none->L D0=none->rF (av X N' scope C s₀ H₀ ex) c hid D0 L W AC A (TA D0 (av X N' scope C s₀ H₀ ex).env) ρ1)
 (hTP: ∀C s₀ H₀ ex D0 it R,jk X.prog X.w X.A (.compLoop e 0 (.ref it) (.ref D0) (av X N' scope C s₀ H₀ ex).env) t1 ifs1 (.ref it) (av X N' scope C s₀ H₀ ex).env (TA D0 (av X N' scope C s₀ H₀ ex).env) R)
 (hst: ∀ {A:Around} {it acc:Value} {env:Env} {R:Result->Shared->Prop} {s:Shared},codeAny (model X.prog X.w) A (.compLoop e 0 it acc env) R s->wpAny (model X.prog X.w) A (pyIter it) (λit' s'=>codeAny (model X.prog X.w) A (.compLoop e 0 it' acc env) R s') (notedBy (model X.prog X.w) A env λx s'=>R (.error x) s') s->codeAny (model X.prog X.w) A (.compStart e 0 it acc env) R s)
 {gs:List Comprehension} (hcl:clausesOf e=⟨t1,i1,ifs1,0⟩::gs) (hev:eval e X.env=comprehension e scope X.env i1.pos make false (eval i1 X.env)) (hi:xu X c t1 i1 gi1) (hset: ∀x,foldedSetIterable i1 X.env x=pure x) (hid:bn) (ρ:aG):PE X e (CT X c AC m gi1 g1 p1 A hid ρ):=by
 intro ae s σ H Q I hq;obtain⟨sr,ds,ys,e1,hc,hz,q⟩:=hq
 rw[hev];refine wpAny_comprehension_free (use:=none) hcl hset (cT λx hx=>I.ok.has x (fH hs x hx)) hk (gU hs) ?_
 refine bq (hi hid ρ ae s σ H (λJ H'=>Same H H'/\yB X.K H' (vw H' hid) J ds) I ⟨sr,ds,e1,λJ H' s1 io=>⟨s1,io⟩⟩) λv s1 h1=>bq h1 λitv s2 h2=>?_
 obtain⟨it,fp,tn,J,H2,rfl,I2,T,st2,f2,sm,io⟩:=h2
 refine xh (RR:=λacc C=>compPost (model X.prog X.w) X.A X.xe none (EP X ae σ Q) acc C) M hmk ho0 hnt ac0 hcalm hk hs hn hm hT1 hg1 hp1 hA hTP hst I2 (sr.ext sm) T st2 f2 io hz hc ?_
 intro D C s' H' o hDge hCge hDC hD sm' hx rp ⟨mm,hns⟩ hC' hos hbare hok hun;refine⟨mm,hns,λh' hsb=>⟨.ref D,H',?_,rfl,q D H' o (sm.free hD) (sm.trans sm') hx (M.l sm rp)⟩⟩
 have neC: ∀b o,s2.heap.get? b=some o->b≠C:=λb o e z=>by subst z;exact absurd (Heap.lt_size e) (Nat.not_lt.mpr hCge)
 have hun':Un (mC X.stack) fp H2 H' s2.heap h':=⟨λb o e n h1 h2=>(hsb.2 b (neC b o e)).trans (hun.keep b o e n h1 h2),λb o e n h1 h2=>let⟨sl,z⟩:=hun.slot b o e n h1 h2;⟨sl,(hsb.2 b (neC b o e)).trans z⟩,hun.free,λb o e h2=>let⟨o',z⟩:=hun.there b o e h2;⟨o',(hsb.2 b (neC b o e)).trans z⟩,hun.tups,hun.frzs,hun.tbls⟩
 have hok':HOk X.prog X.w H' h':=λb o e=>by
  have nb: ∀b' o',H' b'=some o'->b'≠C:=λb' o' e' z=>by subst z;rw[hC'] at e';cases e'
  refine(hok b o e).stay (λc' u hc' z=>(hsb.2 c' ?_).trans z) (λ_ z=>z) λ_ _ z=>z
  rcases hc' with z'|z'
  ·rw[z'];exact nb b o e
  ·exact nb c' _ z'
 exact I2.call' (s':={s' with heap:=h'}) (ch:=fp) hos hun' hok' hbare λb hb=>⟨(f2 b hb).2.2.2.1,(f2 b hb).2.1,(f2 b hb).2.2.2.2.1,(f2 b hb).2.2.2.2.2⟩
end
section
variable {prog:Program}{w:World}{A:Around}{R:Result->Shared->Prop}{s:Shared}{kx vx t1 t2 i1 i2:Expr}{ifs1 ifs2:List Expr}{scope:Scope}{pos:Pos}{it acc:Value}{env:Env}{D0:Addr}
theorem xn:compTurn (.DictComp kx vx [⟨t1,i1,ifs1,0⟩,⟨t2,i2,ifs2,0⟩] scope pos) 1 it (.ref D0) env=(do
 standAt i2.pos
 match <-pyNext it with
 |none=>pure (.done .next)
 |some v=>
  letOwnedTupleGo t2 it v
  assign t2 env v
  let ok <-hE ifs2 env
  if ok=true then do
   (do
     let kv <-eval kx env
     let vv <-holding [kv] (eval vx env)
     standAt {kx.pos with endLine:=vx.pos.endLine,endCol:=vx.pos.endCol}
     holding [kv,vv] (dictSet D0 kv vv))
   again (.compLoop (.DictComp kx vx [⟨t1,i1,ifs1,0⟩,⟨t2,i2,ifs2,0⟩] scope pos) 1 it (.ref D0) env)
  else again (.compLoop (.DictComp kx vx [⟨t1,i1,ifs1,0⟩,⟨t2,i2,ifs2,0⟩] scope pos) 1 it (.ref D0) env)):=by rfl
theorem uM:compTurn (.DictComp kx vx [⟨t1,i1,ifs1,0⟩,⟨t2,i2,ifs2,0⟩] scope pos) 0 it acc env=(do
 standAt i1.pos
 match <-pyNext it with
 |none=>pure (.done .next)
 |some v=>
  letOwnedTupleGo t1 it v
  assign t1 env v
  let ok <-hE ifs1 env
  if ok=true then do
   let x <-eval i2 env
   standAt i2.pos
   let x <-foldedSetIterable i2 env x
   let _ <-runOwn (.compStart (.DictComp kx vx [⟨t1,i1,ifs1,0⟩,⟨t2,i2,ifs2,0⟩] scope pos) 1 (<-holding [x] (pyIter x)) acc env) env
   again (.compLoop (.DictComp kx vx [⟨t1,i1,ifs1,0⟩,⟨t2,i2,ifs2,0⟩] scope pos) 0 it acc env)
  else again (.compLoop (.DictComp kx vx [⟨t1,i1,ifs1,0⟩,⟨t2,i2,ifs2,0⟩] scope pos) 0 it acc env)):=by rfl
def sO(prog:Program)(w:World)(A:Around)(kx vx:Expr)(D0:Addr)(env:Env):mD:=λQ s=>
 wpAny (model prog w) A (eval kx env) (λx s₄=>wpAny (model prog w) A (eval vx env) (λy s₅=>wpAny (model prog w) A (dictSet D0 x y) (λ_ s₆=>Q s₆) (λ_ _=>False) s₅) (λ_ _=>False) s₄) (λ_ _=>False) s
theorem uT:jk prog w A (.compLoop (.DictComp kx vx [⟨t1,i1,ifs1,0⟩,⟨t2,i2,ifs2,0⟩] scope pos) 1 it (.ref D0) env) t2 ifs2 it env (sO prog w A kx vx D0 env) R:=by
 intro I turn n s h;have no: ∀ {E':Value->Shared->Prop} (x:Value) (s:Shared),False->E' x s:=λ_ _ z=>z.elim
 refine codeAny_loop rfl I (λn s hI=>?_) n h
 show wpAny _ A ((compTurn (.DictComp kx vx [⟨t1,i1,ifs1,0⟩,⟨t2,i2,ifs2,0⟩] scope pos) 1 it (.ref D0) env).onRaise (λx=>do noteFrame x env;theTreesLotGoes x)) _ _ s
 refine wpAny_noted ?_
 rw[xn];refine wpAny_bind (wpAny_standAt (wpAny_bind (wpAny_mono (turn n s hI) (λr s₁ h₁=>?_) no)))
 cases r with
 |none=>exact wpAny_pure h₁
 |some v=>
  refine wpAny_bind (wpAny_mono h₁ (λ_ s₁ h₁=>wpAny_bind (wpAny_mono h₁ (λ_ s₂ h₂=>wpAny_bind (wpAny_mono h₂ (λok s₃ h₃=>?_) no)) no)) no)
  cases ok with
  |false=>exact wpAny_pure ⟨rfl,h₃⟩
  |true=>exact wpAny_bind (wpAny_bind (wpAny_mono h₃ (λx s₄ h₄=>wpAny_bind (wpAny_holding (wpAny_mono h₄ (λy s₅ h₅=>wpAny_bind (wpAny_standAt (wpAny_holding (wpAny_mono h₅ (λ_ s₆ h₆=>wpAny_pure ⟨rfl,h₆⟩) no)))) no))) no))
theorem rA(hset: ∀x,foldedSetIterable i2 env x=pure x):jk prog w A (.compLoop (.DictComp kx vx [⟨t1,i1,ifs1,0⟩,⟨t2,i2,ifs2,0⟩] scope pos) 0 it acc env) t1 ifs1 it env (im prog w A (.DictComp kx vx [⟨t1,i1,ifs1,0⟩,⟨t2,i2,ifs2,0⟩] scope pos) i2 acc env) R:=by
 intro I turn n s h;have no: ∀ {E':Value->Shared->Prop} (x:Value) (s:Shared),False->E' x s:=λ_ _ z=>z.elim
 refine codeAny_loop rfl I (λn s hI=>?_) n h
 show wpAny _ A ((compTurn (.DictComp kx vx [⟨t1,i1,ifs1,0⟩,⟨t2,i2,ifs2,0⟩] scope pos) 0 it acc env).onRaise (λx=>do noteFrame x env;theTreesLotGoes x)) _ _ s
 refine wpAny_noted ?_
 rw[uM];refine wpAny_bind (wpAny_standAt (wpAny_bind (wpAny_mono (turn n s hI) (λr s₁ h₁=>?_) no)))
 cases r with
 |none=>exact wpAny_pure h₁
 |some v=>
  refine wpAny_bind (wpAny_mono h₁ (λ_ s₁ h₁=>wpAny_bind (wpAny_mono h₁ (λ_ s₂ h₂=>wpAny_bind (wpAny_mono h₂ (λok s₃ h₃=>?_) no)) no)) no)
  cases ok with
  |false=>exact wpAny_pure ⟨rfl,h₃⟩
  |true=>
   refine wpAny_bind (wpAny_mono h₃ (λx s₄ h₄=>wpAny_bind (wpAny_standAt (wpAny_bind (wpAny_of_eq (hset x) (wpAny_bind (wpAny_holding (wpAny_mono h₄ (λit2 s₅ h₅=>?_) no))))))) no)
   refine wpAny_bind (wpAny_runOwn (codeAny_mono h₅ λr s' hr=>?_))
   cases r with
   |ok f=>exact wpAny_pure ⟨rfl,hr⟩
   |error e=>exact hr.elim
theorem uF
 (h0:codeAny (model prog w) A (.compLoop (.DictComp kx vx [⟨t1,i1,ifs1,0⟩,⟨t2,i2,ifs2,0⟩] scope pos) 1 it acc env) R s)
 (h:wpAny (model prog w) A (pyIter it) (λit' s'=>codeAny (model prog w) A (.compLoop (.DictComp kx vx [⟨t1,i1,ifs1,0⟩,⟨t2,i2,ifs2,0⟩] scope pos) 1 it' acc env) R s')
   (notedBy (model prog w) A env λx s'=>R (.error x) s') s):
 codeAny (model prog w) A (.compStart (.DictComp kx vx [⟨t1,i1,ifs1,0⟩,⟨t2,i2,ifs2,0⟩] scope pos) 1 it acc env) R s:=by
 refine codeAny_of_tree (show wpAny _ _ ((compStart (.DictComp kx vx [⟨t1,i1,ifs1,0⟩,⟨t2,i2,ifs2,0⟩] scope pos) 1 it acc env).onRaise (λx=>do noteFrame x env;standAt theWindowsPlace)) _ _ s from wpAny_notedAt ?_)
 unfold compStart;show wpAny _ _ (ask>>=_) _ _ s;refine wpAny_bind (wpAny_askSetting (wpAny_ite ?_))
 split
 ·first
   |exact wpAny_bind (wpAny_pure (wpAny_pure (And.intro rfl h0)))
   |exact wpAny_pure (And.intro rfl h0)
 ·first
   |exact wpAny_bind (wpAny_rule (wpAny_bind (wpAny_standAt (wpAny_bind (wpAny_mono h (λit' s' h'=>wpAny_pure (And.intro rfl h')) λ_ _ x=>x)))))
   |(refine wpAny_bind (wpAny_rule ?_);show wpAny _ _ (standAt i2.pos>>=_) _ _ s;exact wpAny_bind (wpAny_standAt (wpAny_bind (wpAny_mono h (λit' s' h'=>wpAny_pure (And.intro rfl h')) λ_ _ x=>x))))
end
theorem uS {X:Cx}{ae:List (Addr×Obj)}{σ:St}{H:Hp}{s:Shared}{a:Addr}{A:Around}{E:Value->Shared->Prop}{u r:Value}{v:V}{k:aV}{kvs:List (aV×V)}{Q:Unit->Shared->Prop}(I:Inv X ae σ H s)(e:H a=some (.dK kvs))(l:kvs.length<sizeLine)(ry:RelV (kV k) u)(rv:RelV v r)(h: ∀s',Inv X ae σ (bd H a (.dK (gO kvs k v))) s'->Q () s'):
 wpAny (model X.prog X.w) A (dictSet a u r) Q E s:=by
 obtain⟨z,hd,vs,rel,dd⟩:=zc I.hok e
 have hz:vs.length<=sizeLine:=by rw[<-rel.length];exact z
 have hl:(gO kvs k v).length<=sizeLine:=by have:=ir kvs k v;omega
 refine wpAny_dictSet_pairs (hsz:=hz) (tS ry) dd λh' dd' hs=>h _ ?_
 have he: ∃q,h'.get? a=some q:=let⟨q,_,_,hq,_⟩:=dd';⟨q,hq⟩
 exact nO I (by rw[e];exact True.intro) hs he (vD hl hd (rel.put k rv) dd')
def qS(kvs:List (aV×D))(d:D):List (aV×D):=match d with
 | .tup [.int i,v]=>mx kvs (.inl i) v
 |_=>kvs
def mo(ad:List D):List (aV×D):=ad.foldl qS []
theorem xa(kvs:List (aV×D))(k:aV)(d:D):(mx kvs k d).length<=kvs.length+1:=by
 unfold mx;split<;>simp
theorem wO(ad:List D):(mo ad).length<=ad.length:=by
 have: ∀(l:List D) (kvs:List (aV×D)),(l.foldl qS kvs).length<=kvs.length+l.length:=by
  intro l
  induction l with
  |nil=>intro kvs;exact Nat.le_refl _
  |cons d l ih=>
   intro kvs;have h1:=ih (qS kvs d)
   have h2:(qS kvs d).length<=kvs.length+1:=by
    unfold qS;split
    ·exact xa _ _ _
    ·exact Nat.le_succ _
   rw[List.foldl_cons,List.length_cons];omega
 unfold mo;simpa using this ad []
def Cv(K:W.Frag):xV:=λ_ W o ad=> ∃us,o=.dK us/\KRl K W us (mo ad)
theorem vK(K:W.Frag):ACm (Cv K):=⟨λs ⟨us,e,r⟩=>⟨us,e,r.1,r.2.mono s⟩,λ_ h=>h⟩
def yG(fk fv:FE):FA:=λρ=>(fk ρ).bind λk=>(fv ρ).bind λv=>match k with
 | .int i=>some [.tup [.int i,v]]
 |_=>none
section
variable {Y:Cx}{c:Ct}{kx vx t1 t2 i1 i2:Expr}{ifs1 ifs2:List Expr}{scope:Scope}{pos:Pos}{fk fv:FE}{k1:Kd}{g2:FG}{p2:FT}{gi2:FA}{hid:bn}{D0:Addr}{L W:Hp}{ρ1:aG}
theorem uJ(hxe:Y.xe=λ_ _=>False)(hk:DP Y c .s kx fk)(hv:DP Y c .s vx fv)(hh:hid D0=true)(h00:c.H₀ D0=none)(nD:L D0=none):rF Y c hid D0 L W (Cv Y.K) (yG fk fv) (sO Y.prog Y.w Y.A kx vx D0 Y.env) ρ1:=by
 intro ae s σ H o ad zs Q I sr ac rp hz smL wv na hA hQ;unfold yG at hA;obtain⟨k,e5,hA⟩:=Option.bind_eq_some_iff.mp hA
 obtain⟨y,e6,hA⟩:=Option.bind_eq_some_iff.mp hA
 cases k with
 |int i=>
  cases hA
  obtain⟨us,rfl,kr⟩:=rp
  unfold sO;refine bq (hxe▸hk hid ρ1 _ s σ H (λv H'=>v=V.int i/\Same H H') I ⟨sr,_,e5,λv H' s' r=>⟨(RK.b .s r λa n=>sr.fresh n).int,s'⟩⟩) λkv s10 hq_=>?_
  obtain⟨z,H10,I10,rz,ez,sm10⟩:=hq_
  subst ez;refine bq (hxe▸hv hid ρ1 _ s10 σ H10 (λv H'=>Same H10 H'/\Rep Y.K (vw H' hid) v y) I10 ⟨sr.ext sm10,y,e6,λv H' s' r=>⟨s',r⟩⟩) λvv s11 hq_=>?_
  obtain⟨z,H11,I11,rz',sm11,rp11⟩:=hq_
  have sm:=sm10.trans sm11
  have a11:H11 D0=some (.dK us):=sm _ _ ac
  have hl:=wO ad
  have w11:Same (vw H hid) (vw H11 hid):=aI sm
  refine uS (k:=.inl i) I11 a11 (by rw[kr.len];rw[List.length_singleton] at hz;omega) rz rz' λs12 I12=>?_
  have vv:vw (bd H11 D0 (.dK (gO us (.inl i) z))) hid=vw H11 hid:=cv hh
  refine hQ s12 σ _ _ I12 ((sr.ext sm).write hh h00 na a11) aE ?_ (λb o e=>?_) ?_ na
  ·rw[vv]
   refine⟨_,rfl,?_⟩
   have:mo (ad++[.tup [.int i,y]])=mx (mo ad) (.inl i) y:=by unfold mo;rw[List.foldl_append];rfl
   rw[this];exact KRl.put (.inl i) rp11 ⟨kr.1,kr.2.mono w11⟩
  ·rw[aC (aT e nD)];exact sm _ _ (smL _ _ e)
  ·rw[vv];exact w11
 |_=>cases hA
def ze(gi:FA)(g:FG)(p:FT)(fk fv:FE):FA:=λρ1=>(gi ρ1).bind λds=>iq g p (yG fk fv) ρ1 ds
theorem qy(hcalm:Y.calm=true)(hxe:Y.xe=λ_ _=>False){n1:Nat}(hT:fz n1 g2)(hN:yb n1 ρ1)(hi:DIp Y c t2 i2 gi2)(hg:kZ Y c t2 g2)(hp:lP Y c ifs2 p2)(hk:DP Y c .s kx fk)(hv:DP Y c .s vx fv)(hh:hid D0=true)(h00:c.H₀ D0=none)(nD:L D0=none):
 rF Y c hid D0 L W (Cv Y.K) (ze gi2 g2 p2 fk fv) (im Y.prog Y.w Y.A (.DictComp kx vx [⟨t1,i1,ifs1,0⟩,⟨t2,i2,ifs2,0⟩] scope pos) i2 (.ref D0) Y.env) ρ1:=by
 intro ae s σ H o ad zs Q I sr ac rp hz smL wv na hA hQ;unfold ze at hA;obtain⟨ds,e5,hA⟩:=Option.bind_eq_some_iff.mp hA
 unfold im;refine bq (hxe▸hi hid ρ1 ae s σ H (λJ H'=>Same H H'/\ItOk Y.K (vw H' hid) J ds) I ⟨sr,ds,e5,λJ H' s1 io=>⟨s1,io⟩⟩) λv s1 h1=>bq h1 λitv s2 h2=>?_
 obtain⟨it,fp,tn,J,H2,rfl,I2,T,st2,f2,sm,io⟩:=h2
 have loop:codeAny (model Y.prog Y.w) Y.A (.compLoop (.DictComp kx vx [⟨t1,i1,ifs1,0⟩,⟨t2,i2,ifs2,0⟩] scope pos) 1 (.ref it) (.ref D0) Y.env) (λr s'=>match r with
  | .ok _=>Q s'
  | .error _=>False) s2:=by
  refine mS (L:=L) (W:=vw H2 hid) (ad0:=ad) (o0:=o) (A:=yG fk fv) (TA:=sO Y.prog Y.w Y.A kx vx D0 Y.env) (vK Y.K) hcalm hxe hT hg hp (λd ρ2 _=>uJ hxe hk hv hh h00 nD) hN I2 (sr.ext sm) hh na (sm _ _ ac) ((vK Y.K).m (aI sm) rp) (smL.trans sm) (Same.refl _) T st2 f2 io.b hz hA uT ?_
  intro s' σ' H' xs' I' sr' smL' ac' rp' v' na';exact hQ s' σ' H' xs' I' sr' ac' rp' smL' ((aI sm).trans v') na'
 exact uF loop (T.self Y.A 0 _ _ _ st2 loop)
end
section
variable {X:Cx}{c:Ct}{kx vx elt t1 t2 i1 i2:Expr}{ifs1 ifs2:List Expr}{scope:Scope}{pos pos' spos:Pos}{N':List Str}{m n1:Nat}{gi1 gi2:FA}{g1 g2:FG}{p1 p2:FT}{f fk fv:FE}{k:Kd}{x:Str}
theorem uG(hcalm:X.calm=true)(n1:Nat)(hT1:fz X.N.length g1)(hU1:qH n1 g1)(hT2:fz n1 g2)(hi:xu X c t1 i1 gi1)
 (hg1: ∀C s₀ H₀ ex,kZ (av X N' scope C s₀ H₀ ex) c t1 g1) (hp1: ∀C s₀ H₀ ex,lP (av X N' scope C s₀ H₀ ex) c ifs1 p1) (hi2: ∀C s₀ H₀ ex,DIp (av X N' scope C s₀ H₀ ex) c t2 i2 gi2)
 (hg2: ∀C s₀ H₀ ex,kZ (av X N' scope C s₀ H₀ ex) c t2 g2) (hp2: ∀C s₀ H₀ ex,lP (av X N' scope C s₀ H₀ ex) c ifs2 p2) (he: ∀C s₀ H₀ ex,DP (av X N' scope C s₀ H₀ ex) c .s kx fk) (hv: ∀C s₀ H₀ ex,DP (av X N' scope C s₀ H₀ ex) c .s vx fv)
 (hk:scope.kind=.function) (hs:oR scope X.env.scope=true) (hn:pk X.N N' scope=true) (hm:N'.length-X.N.length=m) (hn1:X.N.length<=n1) (hset: ∀x,foldedSetIterable i1 X.env x=pure x)
 (hset2: ∀C s₀ H₀ ex,∀x,foldedSetIterable i2 (av X N' scope C s₀ H₀ ex).env x=pure x) (hid:bn) (ρ:aG):
 PE X (.DictComp kx vx [⟨t1,i1,ifs1,0⟩,⟨t2,i2,ifs2,0⟩] scope pos) (CT X c (Cv X.K) m gi1 g1 p1 (ze gi2 g2 p2 fk fv) hid ρ):=
 A1 (make:=newDict) (ob:={cls:=.type "dict",dict:=none,data:=.dict #[]}) (o0:=.dK []) (TA:=λD0 env=>im X.prog X.w X.A (.DictComp kx vx [⟨t1,i1,ifs1,0⟩,⟨t2,i2,ifs2,0⟩] scope pos) i2 (.ref D0) env) (vK X.K) (λh=>wpAny_newObj_type h) (λh hb=>wP h hb) nofun (λL W=>⟨[],rfl,rfl,.nil⟩) hcalm hk hs hn hm hT1 hg1 hp1
  (λC s₀ H₀ ex hid D0 L W ρ0 d ρ1 nos e hh h00 nD=>qy (Y:=av X N' scope C s₀ H₀ ex) hcalm rfl hT2 (λi s hi' e'=>nos i s (by omega) (by rw[<-hU1 _ _ _ e i hi'];exact e')) (hi2 C s₀ H₀ ex) (hg2 C s₀ H₀ ex) (hp2 C s₀ H₀ ex) (he C s₀ H₀ ex) (hv C s₀ H₀ ex) hh h00 nD)
  (λC s₀ H₀ ex D0 it R=>rA (hset2 C s₀ H₀ ex)) codeAny_compStart_dict rfl rfl hi hset hid ρ
def wA(i m:Nat)(gi1:FA)(g1:FG)(p1:FT)(A:FA):FS:=λρ=>match gi1 ρ with
 |some ds=>(match iq g1 p1 A (ρ++List.replicate m .no) ds with
  |some ys=>if ys.length<=1000 then .nx (ρ.set i (.ob (.dK (mo ys)))) else .no
  |none=>.no)
 |none=>.no
theorem tH {H H':Hp}{hid:bn}{a:Addr}(sm:Same H H')(ha:H a=none):Same (vw H hid) (vw H' (bj hid a)):=λb o w=>by
 obtain⟨w1,w2⟩:=vw_some.mp w
 refine vw_some.mpr ⟨?_,sm b o w2⟩
 unfold bj;rw[w1];have:b≠a:=aT w2 ha
 simp[this]
theorem uZ(i:Nat)(hnd:X.N.Nodup)(hcalm:X.calm=true)(n1:Nat)(hT1:fz X.N.length g1)(hU1:qH n1 g1)(hT2:fz n1 g2)(hi:xu X c t1 i1 gi1)
 (hg1: ∀C s₀ H₀ ex,kZ (av X N' scope C s₀ H₀ ex) c t1 g1) (hp1: ∀C s₀ H₀ ex,lP (av X N' scope C s₀ H₀ ex) c ifs1 p1) (hi2: ∀C s₀ H₀ ex,DIp (av X N' scope C s₀ H₀ ex) c t2 i2 gi2)
 (hg2: ∀C s₀ H₀ ex,kZ (av X N' scope C s₀ H₀ ex) c t2 g2) (hp2: ∀C s₀ H₀ ex,lP (av X N' scope C s₀ H₀ ex) c ifs2 p2) (he: ∀C s₀ H₀ ex,DP (av X N' scope C s₀ H₀ ex) c .s kx fk) (hv: ∀C s₀ H₀ ex,DP (av X N' scope C s₀ H₀ ex) c .s vx fv)
 (hk:scope.kind=.function:=by rfl) (hs:oR scope X.env.scope=true:=by kernel_rfl) (hn:pk X.N N' scope=true:=by kernel_rfl) (hm:N'.length-X.N.length=m:=by rfl) (hn1:X.N.length<=n1:=by exact Nat.le_of_ble_eq_true rfl) (hset: ∀x,foldedSetIterable i1 X.env x=pure x:=by intro _;rfl)
 (hset2: ∀C s₀ H₀ ex,∀x,foldedSetIterable i2 (av X N' scope C s₀ H₀ ex).env x=pure x:=by intros;rfl)
 (hi':X.N[i]? =some x:=by rfl) (hx:sY X.env.scope x:=by first|exact Or.inl rfl|exact Or.inr rfl) (hsw:swapsWith (.DictComp kx vx [⟨t1,i1,ifs1,0⟩,⟨t2,i2,ifs2,0⟩] scope pos) (some (.Name x pos')) spos.line X.env=pure false:=by rfl)
 (hf:X.fn x=true\/X.env.scope.names.lookup x=some .local:=by first|exact .inl rfl|exact .inr rfl|assumption):
 DS X c k (.Assign [.Name x pos'] (.DictComp kx vx [⟨t1,i1,ifs1,0⟩,⟨t2,i2,ifs2,0⟩] scope pos) spos) (wA i m gi1 g1 p1 (ze gi2 g2 p2 fk fv)):=λρ=>PS.imp (jW hnd hi' hx (jr λhid=>uG hcalm n1 hT1 hU1 hT2 hi hg1 hp1 hi2 hg2 hp2 he hv hk hs hn hm hn1 hset hset2 hid ρ) hsw hf) λD σ H hq_=>by
 obtain⟨hid,sr,q⟩:=hq_
 unfold wA at q;split at q
 ·rename_i ds e1
  split at q
  ·rename_i ys e2
   split at q
   ·rename_i hz
    refine⟨hid,sr,ds,ys,e1,e2,Nat.le_trans hz (by decide),λa H' o ha sm hx ac=>?_⟩
    obtain⟨us,rfl,kr⟩:=ac
    exact q _ _ (bj hid a) (SR.setD (a:=a) (b:=.dK (mo ys)) (sr.hide sm ha hx) ⟨⟨bR,sr.fresh0 ha⟩,us,hx,kr.1,kr.2⟩ (sr.notOw (sr.fresh ha)) i) (tH sm ha)
   ·exact q.elim
  ·exact q.elim
 ·exact q.elim
end
def Di:xV:=λL W o ad=> ∃bs:List Addr,o=.lst (bs.map V.ref)/\bs.Nodup/\(∀b∈bs,L b=none)/\Paired (λb d=> ∃is:List Int,d=.lst (is.map D.int)/\W b=some (.lst (is.map V.int))) bs ad
theorem B6:ACm Di:=⟨λs ⟨bs,e,n,f,p⟩=>⟨bs,e,n,f,L2.Paired.off p λb d _ ⟨is,e1,e2⟩=>⟨is,e1,s _ _ e2⟩⟩,λs ⟨bs,e,n,f,p⟩=>⟨bs,e,n,λb hb=>s.free (f b hb),p⟩⟩
def u9(f:FE):FA:=λρ=>match f ρ with
 |some (.lst ds)=>(dX ds).map λis=>[.lst (is.map D.int)]
 |_=>none
theorem zq {K:W.Frag}{F:Hp}: ∀ {is:List Int} {xs:List V},Reps K F xs (is.map D.int)->xs=is.map V.int
 | [],_,h=>by cases h;rfl
 |i::is,_,h=>by
  cases h with
  |cons a b=>cases a;rw[zq b];rfl
theorem y9 {K:W.Frag}{F:Hp}: ∀(is:List Int),Reps K F (is.map V.int) (is.map D.int)
 | []=>.nil
 |i::is=>.cons .int (y9 is)
section
variable {Y:Cx}{c:Ct}{elt:Expr}{f:FE}{hid:bn}{D0:Addr}{L W:Hp}{ρ1:aG}
theorem u6(hxe:Y.xe=λ_ _=>False)(he:DP Y c .n elt f)(hh:hid D0=true)(h00:c.H₀ D0=none)(nD:L D0=none):rF Y c hid D0 L W Di (u9 f) (ly Y.prog Y.w Y.A elt (.ref D0) Y.env) ρ1:=by
 intro ae s σ H o ad zs Q I sr ac rp hz smL wv na hA hQ;unfold u9 at hA;split at hA
 ·rename_i ds e5
  obtain⟨is,e6,rfl⟩:=Option.map_eq_some_iff.mp hA
  have e7:=gP e6
  subst e7;obtain⟨bs,rfl,nd,fr,pr⟩:=rp
  unfold ly;refine bq (hxe▸he hid ρ1 _ s σ H (λv H'=>Same H H'/\RN Y.K H H' hid v (.lst (is.map D.int))) I ⟨sr,_,e5,λv H' s' r=>⟨s',r⟩⟩) λv s10 hq_=>?_
  obtain⟨z,H10,I10,rz,sm10,rp10⟩:=hq_
  obtain⟨b,xs,ds',h1,h2,h3,h4,h5⟩:=rp10
  injection h1 with h1
  subst h1 h2;have ex:=zq h5
  subst ex;have a10:H10 D0=some (.lst (bs.map V.ref)):=sm10 _ _ ac
  have hl:=L2.Paired.len pr
  have nb:b≠D0:=λe=>by subst e;rw[ac] at h3;cases h3
  refine bq (hxe▸cg (X:=Y) _ s10 σ H10 (.ref D0) [.ref b] (.ref D0) [v] (λ_ H'=>H'=bd H10 D0 (.lst (bs.map V.ref++[V.ref b]))) I10 rfl (.cons rz .nil) ⟨D0,_,.ref b,rfl,rfl,a10,by rw[List.length_map];rw[List.length_singleton] at hz;omega,rfl⟩) λ_ s11 ⟨_,H11,I11,_,e11⟩=>?_
  subst e11;have vv:vw (bd H10 D0 (.lst (bs.map V.ref++[.ref b]))) hid=vw H10 hid:=cv hh
  have w10:Same (vw H hid) (vw H10 hid):=aI sm10
  refine hQ s11 σ _ _ I11 ((sr.ext sm10).write hh h00 na a10) aE ?_ (λb o e=>?_) ?_ na
  ·rw[vv]
   refine⟨bs++[b],by rw[List.map_append];rfl,?_,λz hz=>?_,L2.Paired.app1 ⟨is,rfl,vw_some.mpr ⟨sr.fresh h3,h4⟩⟩ (L2.Paired.off pr λb d _ ⟨is,q1,q2⟩=>⟨is,q1,w10 _ _ q2⟩)⟩
   ·rw[List.nodup_append]
    refine⟨nd,by simp,λz hz w hw e=>?_⟩
    rw[List.mem_singleton] at hw;subst hw;subst e;obtain⟨_,is',_,q2⟩:=L2.Paired.mem pr hz
    rw[(vw_some.mp q2).2] at h3;cases h3
   ·rcases List.mem_append.mp hz with hz|hz
    ·exact fr z hz
    ·rw[List.mem_singleton] at hz;subst hz;exact smL.free h3
  ·rw[aC (aT e nD)];exact sm10 _ _ (smL _ _ e)
  ·rw[vv];exact w10
 ·cases hA
end
section
variable {K:W.Frag}{c:Ct}{ρ:aG}{σ:St}
theorem pE {H':Hp}: ∀(bs:List Addr) (hid:bn) (H:Hp),SR K c hid ρ σ H->Same H H'->bs.Nodup->(∀b∈bs,H b=none)->(∀b∈bs,∃xs,H' b=some (.lst xs))-> ∃hid':bn,SR K c hid' ρ σ H'/\Same (vw H hid) (vw H' hid')/\(∀b∈bs,hid' b=true)/\ ∀b,hid b=true->hid' b=true
 | [],hid,H,sr,sm,_,_,_=>⟨hid,sr.ext sm,aI sm,λb hb=>absurd hb List.not_mem_nil,λ_ h=>h⟩
 |b::bs,hid,H,sr,sm,nd,fr,ex=>by
  obtain⟨xs,hb⟩:=ex b List.mem_cons_self
  have h0:=fr b List.mem_cons_self
  obtain⟨nb,nd'⟩:=List.nodup_cons.mp nd
  have sm1:Same (bd H b (.lst xs)) H':=λy o q=>by
   by_cases e:y=b
   ·subst e;rw[aE] at q;rw[hb];exact q
   ·rw[aC e] at q;exact sm y o q
  obtain⟨hid',h1,h2,h3,h4⟩:=pE bs (bj hid b) (bd H b (.lst xs)) (sr.hide (bh h0 _) h0 aE) sm1 nd' (λy hy=>by
   have:y≠b:=λe=>by subst e;exact nb hy
   rw[aC this];exact fr y (List.mem_cons_of_mem _ hy)) λy hy=>ex y (List.mem_cons_of_mem _ hy)
  refine⟨hid',h1,(tH (bh h0 _) h0).trans h2,λy hy=>?_,λy hy=>h4 y (cE hy)⟩
  rcases List.mem_cons.mp hy with rfl|hy
  ·exact h4 y bR
  ·exact h3 y hy
theorem oP {X:Cx}{a:Addr}{hid:bn}{σ':St}: ∀(bs:List Addr) (rows:List (List Int)) (H:Hp),Paired (λb (is:List Int)=>H b=some (.lst (is.map V.int))) bs rows->bs.Nodup->(∀b∈bs,hid b=true/\c.H₀ b=none/\ ∀i:Nat,Ow ρ[i]? ->σ[i]? ≠some (some (.ref b)))->SR K c hid ρ σ H->
 ∃H'':Hp,(∀ae s,Inv X ae σ' H s->Inv X ae σ' H'' s)/\SR K c hid ρ σ H''/\vw H'' hid=vw H hid/\Paired (λb (is:List Int)=>H'' b=some (.nst a (.lst (is.map V.int)))) bs rows/\ ∀y,y∉bs->H'' y=H y
 | [],_,H,pr,_,_,sr=>by
   cases pr
   exact⟨H,λ_ _ I=>I,sr,rfl,.nil,λ_ _=>rfl⟩
 |b::bs,_,H,pr,nd,k,sr=>by
  cases pr
  rename_i is rows r t;obtain⟨nb,nd'⟩:=List.nodup_cons.mp nd
  obtain⟨k1,k2,k3⟩:=k b List.mem_cons_self
  have t1:Paired (λy (js:List Int)=>bd H b (.nst a (.lst (is.map V.int))) y=some (.lst (js.map V.int))) bs rows:=L2.Paired.off t λy js hy q=>by
   rw[aC (λe=>by subst e;exact nb hy)];exact q
  obtain⟨H'',h1,h2,h3,h4,h5⟩:=oP bs rows _ t1 nd' (λy hy=>k y (List.mem_cons_of_mem _ hy)) (sr.write (o':=.nst a (.lst (is.map V.int))) k1 k2 k3 r)
  refine⟨H'',λae s I=>h1 ae s (I.nest (p:=a) r trivial),h2,by rw[h3,cv k1],.cons ?_ h4,λy hy=>?_⟩
  ·rw[h5 b nb,aE]
  ·rw[List.mem_cons,not_or] at hy
   rw[h5 y hy.2,aC hy.1]
end
section
variable {X:Cx}{c:Ct}{elt t1 i1:Expr}{ifs1:List Expr}{scope:Scope}{pos pos' spos:Pos}{N':List Str}{m:Nat}{gi1:FA}{g1:FG}{p1:FT}{f:FE}{k:Kd}{x:Str}
def lB:List D->Option (List (List Int))
 | []=>some []
 | .lst ds::r=>(dX ds).bind λis=>(lB r).map (is:: ·)
 |_=>none
def vR(i m:Nat)(gi1:FA)(g1:FG)(p1:FT)(f:FE):FS:=λρ=>match gi1 ρ with
 |some ds=>(match iq g1 p1 (u9 f) (ρ++List.replicate m .no) ds with
  |some ys=>(match lB ys with
   |some rows=>if ys.length<=1000 then .nx (ρ.set i (.ob (.nst (rows.map λis=>.l (is.map D.int))))) else .no
   |none=>.no)
  |none=>.no)
 |none=>.no
theorem mO {W:Hp}: ∀ {bs:List Addr} {ys:List D} {rows:List (List Int)},Paired (λb d=> ∃is:List Int,d=.lst (is.map D.int)/\W b=some (.lst (is.map V.int))) bs ys->lB ys=some rows->Paired (λb (is:List Int)=>W b=some (.lst (is.map V.int))) bs rows
 |_,_,_,.nil,e=>by cases e;exact .nil
 |_,_,_,.cons r t,e=>by
  obtain⟨is,rfl,q⟩:=r
  obtain⟨is',e1,e⟩:=Option.bind_eq_some_iff.mp e
  rw[gJ] at e1;cases e1
  obtain⟨rows',e2,rfl⟩:=Option.map_eq_some_iff.mp e
  exact .cons q (mO t e2)
theorem Paired.mapR {α β γ:Type}{F:α->γ->Prop}{h:β->γ}: ∀ {l₁:List α} {l₂:List β},Paired (λa b=>F a (h b)) l₁ l₂->Paired F l₁ (l₂.map h)
 |_,_,.nil=>.nil
 |_,_,.cons r t=>.cons r (Paired.mapR t)
theorem xz {ae:List (Addr×Obj)}{s:Shared}{σ:St}{H H':Hp}{hid:bn}{ρ:aG}{a:Addr}{o:HO}{ys:List D}{rows:List (List Int)}(sr:SR X.K c hid ρ σ H)(sm:Same H H')(ha:H a=none)(hx:H' a=some o)(ac:Di H (vw H' (bj hid a)) o ys)(e3:lB ys=some rows)(i:Nat)(I:Inv X ae (σ.set i (some (.ref a))) H' s):
 ∃H'' hid',Inv X ae (σ.set i (some (.ref a))) H'' s/\SR X.K c hid' (ρ.set i (.ob (.nst (rows.map λis=>.l (is.map D.int))))) (σ.set i (some (.ref a))) H''/\Same (vw H hid) (vw H'' hid'):=by
 obtain⟨bs,rfl,nd,fr,pr⟩:=ac
 have pr':=mO pr e3
 have na:a∉bs:=λh=>by
  obtain⟨is,q'⟩:=L2.Paired.mem pr' h
  obtain⟨w1,w2⟩:=vw_some.mp q'
  rw[bR] at w1;cases w1
 have hb: ∀b∈bs,∃is:List Int,H' b=some (.lst (is.map V.int)):=λb h=>by
  obtain⟨is,q'⟩:=L2.Paired.mem pr' h
  exact⟨is,(vw_some.mp q').2⟩
 obtain⟨hid',s1,s2,s3,s4⟩:=pE (a::bs) hid H sr sm (List.nodup_cons.mpr ⟨na,nd⟩) (λb h=>by
  rcases List.mem_cons.mp h with rfl|h
  ·exact ha
  ·exact fr b h) λb h=>by
  rcases List.mem_cons.mp h with rfl|h
  ·exact⟨_,hx⟩
  ·obtain⟨is,q'⟩:=hb b h;exact⟨_,q'⟩
 have pr2:Paired (λb (is:List Int)=>H' b=some (.lst (is.map V.int))) bs rows:=L2.Paired.off pr' λb is _ q'=>(vw_some.mp q').2
 obtain⟨H'',n1,n2,n3,n4,n5⟩:=oP (X:=X) (a:=a) (σ':=σ.set i (some (.ref a))) bs rows H' pr2 nd (λb h=>⟨s3 b (List.mem_cons_of_mem _ h),sr.fresh0 (fr b h),sr.notOw (sr.fresh (fr b h))⟩) s1
 exact⟨H'',hid',n1 ae s I,SR.setD (a:=a) (b:=.nst (rows.map λis=>.l (is.map D.int))) n2 ⟨⟨s3 a List.mem_cons_self,sr.fresh0 ha⟩,bs,by rw[n5 a na];exact hx,nd,L2.Paired.mapR (L2.Paired.off n4 λb is h q'=>⟨⟨s3 b (List.mem_cons_of_mem _ h),sr.fresh0 (fr b h)⟩,_,q',y9 is⟩)⟩ (sr.notOw (sr.fresh ha)) i,by rw[n3];exact s2⟩
def C5:R2:=λx y H Q=> ∃d p xs j v,x=.ref d/\y=.int j/\H d=some (.nst p (.lst xs))/\kN xs j=some v/\Q v H
theorem AR:IxR X C5:=by
 intro value slice ae s σ H x y v u Q I rx ry h hs;obtain⟨d,p,xs,j,w,rfl,rfl,hd,hj,q⟩:=h
 refine bq (ix_list (X:=X) value slice ae s σ (bd H d (.lst xs)) (.ref d) (.int j) v u (λz H'=>z=w/\H'=bd H d (.lst xs)) (I.unnest hd) rx ry ⟨d,xs,j,w,rfl,rfl,SqL.of aE,hj,rfl,rfl⟩ hs) λr s' hq_=>?_
 obtain⟨z,H',I',rz,e1,e2⟩:=hq_
 subst e1 e2;have back:bd (bd H d (.lst xs)) d (.nst p (.lst xs))=H:=by
  rw[ol];funext y
  by_cases e:y=d
  ·subst e;rw[aE,hd]
  ·rw[aC e]
 exact⟨z,H,back▸I'.nest (p:=p) aE trivial,rz,q⟩
def uE(i:Nat)(f1 f2:FE):FE:=λρ=>(lR i ρ).bind λus=>(f1 ρ).bind λa=>(f2 ρ).bind λb=>match a,b with
 | .int j,.int q=>(mn us.length j).bind λn=>us[n]?.bind λu=>match u with
   | .l ds=>kN ds q
   |_=>none
 |_,_=>none
variable {k1 k2:Kd}{e1 e2:Expr}{f1 f2:FE}{y:Str}{py pos2:Pos}
theorem A3(i:Nat)(h1:DP X c k1 e1 f1)(h2:DP X c k2 e2 f2)(hN:X.N[i]? =some y:=by rfl)(hv':nT X.env.scope y:=by first|exact Or.inl rfl|exact Or.inr (Or.inl rfl)|exact Or.inr (Or.inr rfl))(hd:(y==("__debug__":Str))=false:=by decide)
 (hcd:(y==("__classdict__":Str))=false:=by decide) (hp:jh e1:=by exact λ_ _=>rfl) (hp2:jh e2:=by exact λ_ _=>rfl):DP X c .s (.Subscript (.Subscript (.Name y py) e1 pos2) e2 pos) (uE i f1 f2):=λhid ρ=>
 PE.imp (tM AR (tM (aA (X:=X)) (pv i hN hv' hd hcd) (h1 hid ρ) hp) (h2 hid ρ) hp2) λσ H Q hq_=>by
  obtain⟨sr,d,hd,q⟩:=hq_
  unfold uE at hd;obtain⟨us,g0,hd⟩:=Option.bind_eq_some_iff.mp hd
  obtain⟨aa,g1,hd⟩:=Option.bind_eq_some_iff.mp hd
  obtain⟨bb,g2,hd⟩:=Option.bind_eq_some_iff.mp hd
  cases aa with
  |int j=>cases bb with
   |int qq=>
    obtain⟨n,g3,hd⟩:=Option.bind_eq_some_iff.mp hd
    obtain⟨u,g4,hd⟩:=Option.bind_eq_some_iff.mp hd
    obtain⟨a,bs,a1,a2,a3,a4,a5⟩:=sr.nst g0
    obtain⟨b,b1,b2⟩:=L2.Paired.get a5 g4
    cases u with
    |l ds=>
     obtain⟨_,xs,w1,w2⟩:=b2
     refine⟨.ref a,a1,sr,_,g1,λz H1 s1 r1=>?_⟩
     have i1:=(RK.b k1 r1 λa n=>sr.fresh n).int
     cases i1
     refine .inl ⟨a,bs.map V.ref,j,.ref b,rfl,rfl,SqL.of (s1 _ _ a3),tD (by rw[(L2.Paired.len a5)];exact g3) b1,sr.ext s1,_,g2,λw H2 s2 r2=>?_⟩
     have i2:=(RK.b k2 r2 λa n=>(sr.ext s1).fresh n).int
     cases i2
     obtain⟨v,v1,v2⟩:=kK w2 hd
     exact⟨b,a,xs,qq,v,rfl,rfl,(s1.trans s2) _ _ w1,v1,q v H2 (s1.trans s2) (v2.mono (aI (s1.trans s2)))⟩
    |_=>cases hd
   |_=>cases hd
  |_=>cases hd
end
end L2
namespace PySem
open PySem PySem.Spec PyProof.Rows
section
variable {prog:Program}{w:World}{A:Around}{E:Value->Shared->Prop}{s:Shared}
theorem mt {l:Addr}{us:Array Value}{n:Nat}{Q:Value->Shared->Prop}(ho:s.heap.get? l=some {cls:=.type "list",data:=.seq us n})
 (h: ∀g,IsEnum g (s.heap.objs.size+1) s.heap.objs.size 0 .none->g.IsListIter s.heap.objs.size l 0->g.objs.size=s.heap.objs.size+2->(∀b o,s.heap.get? b=some o->g.get? b=some o)->Q (.ref (s.heap.objs.size+1)) {s with heap:=g}):
 wpAny (model prog w) A (call (.type "enumerate") [.ref l]) Q E s:=by
 refine callType_new F.called_enumerate (by decide) (F.typeCall_enumerate_1 _) (F.newCall_enumerate_1 _) (λobj=>F.args_object_init_2 obj _) F.entry_enumerate_new (meets_enumerate_new l us n) ⟨ho,?_⟩
 have hz:(s.heap.push {cls:=.type "list_iterator",data:=.fields #[.ref l,.int 0 0]}).objs.size=s.heap.objs.size+1:=Heap.size_push ..
 show _/\_;rw[hz];have he:IsEnum ((s.heap.push {cls:=.type "list_iterator",data:=.fields #[.ref l,.int 0 0]}).push {cls:=.type "enumerate",data:=.fields #[.none,.bool false,.ref s.heap.objs.size,rawInt 0,.none,.none]}) (s.heap.objs.size+1) s.heap.objs.size 0 .none:=by
  have:=Heap.get?_push_size (s.heap.push {cls:=.type "list_iterator",data:=.fields #[.ref l,.int 0 0]}) (o:={cls:=.type "enumerate",data:=.fields #[.none,.bool false,.ref s.heap.objs.size,rawInt 0,.none,.none]}) rfl
  rw[hz] at this;exact this
 exact⟨⟨_,he,rfl⟩,h _ he ⟨_,Heap.get?_push_of_some _ (Heap.get?_push_size _ rfl),rfl,rfl⟩ (by rw[Heap.size_push,hz]) λb o x=>Heap.get?_push_of_some _ (Heap.get?_push_of_some _ x)⟩
end
end PySem
namespace L2
open PySem PySem.Spec PyProof.Rows
def DH(K:W.Frag)(a:Addr):It:=
 ⟨λi H=> ∃xs x,SqL K H a xs/\xs[i]? =some x,λi H x H'=> ∃T,x=.ref T/\H T=none/\ ∀xs,SqL K H a xs-> ∃y,xs[i]? =some y/\H'=bd H T (.tup [.int i,y]),λi H=> ∃xs,SqL K H a xs/\xs.length<=i⟩
theorem rO {P:Program}{w:World}{K:W.Frag}{es:List Expr}{x1}{pos:Pos}(a it e:Addr)(hei:e≠it):Turn P w K (.Tuple es x1 pos) (DH K a) [e,it] e (λi h=>(∃old,IsEnum h e it i old)/\h.IsListIter it a i) where
 mem:=by simp
 obj:=λi h st b hb=>by
  obtain⟨⟨old,he⟩,o,ho,hc,hd⟩:=st
  rcases List.mem_cons.mp hb with rfl|hb
  ·exact⟨_,he,λv z=>by cases z⟩
  ·have:b=it:=by simpa using hb
   subst this;exact⟨o,ho,λv z=>by rw[hd] at z;cases z⟩
 keep:=λi h h' st k=>by
  obtain⟨⟨old,he⟩,hit⟩:=st
  exact⟨⟨old,k e (by simp) _ he⟩,hit.at λo x=>k it (by simp) o x⟩
 item:=by
  intro X hP hw hK hc i ae s σ H E I hf st hg;subst hP hw hK;obtain⟨xs,x,hq,hx⟩:=hg
  obtain⟨its,rv,p,hz⟩:=I.list hq
  obtain⟨u,hu,ru⟩:=rv.get hx
  obtain⟨⟨old,he⟩,hit⟩:=st
  obtain⟨e0,e1,e2,e3,e4,e5⟩:=hf e (by simp)
  obtain⟨f0,f1,f2,f3,f4,f5⟩:=hf it (by simp)
  have ht:=p.isList
  refine wpAny_pyNext_enum_item (x:=u) he hit ht (by simpa using hu) hei λg hout hit' hT hsz hk=>⟨_,rfl,?_⟩
  refine wpAny_letOwnedTupleGo_enum hout λg' he' hs'=>?_
  have elt:e<s.heap.objs.size:=Heap.lt_size he
  have k2: ∀b o,b≠e->b≠it->s.heap.get? b=some o->g'.get? b=some o:=λb o h1 h2 h3=>(hs'.2 b h1).trans (hk b o h1 h2 h3)
  have hT':g'.get? s.heap.objs.size=some {cls:=.type "tuple",data:=.seq #[.int i s.toks,u]}:=(hs'.2 _ (Nat.ne_of_gt elt)).trans hT
  have hn:H s.heap.objs.size=none:=I.hok.fresh (Nat.le_refl _)
  have I1:Inv X ae σ (bd H s.heap.objs.size (.tup [.int i,x])) {s with heap:=g',toks:=s.toks+1}:=by
   obtain⟨oi,hoi,hci,hdi⟩:=id (show g'.IsListIter it a (i+1) from hit'.at λo y=>(hs'.2 it (Ne.symm hei)).trans y)
   obtain⟨os0,hos0,_⟩:=id hit
   have ilt:it<s.heap.objs.size:=Heap.lt_size hos0
   have I0:Inv X ae σ (bd H s.heap.objs.size (.tup [.int i,x])) {s with heap:=s.heap.push {cls:=.type "tuple",data:=.seq #[.int i s.toks,u]},toks:=s.toks+1}:=
    I.laid (t':=s.toks+1) (λb o q=>Heap.get?_push_of_some _ q) (Nat.le_refl _) (show ObjOk X.prog X.w _ _ _ (.tup [.int i,x]) from
     ⟨Nat.le_of_lt (iF (by simp)),[.int i s.toks,u],.cons ⟨_,rfl⟩ (.cons ru .nil),⟨_,Heap.get?_push_size _ rfl,rfl,_,rfl⟩,_,Heap.get?_push_size _ rfl,rfl⟩)
   have u1:((s.heap.push {cls:=.type "tuple",data:=.seq #[.int i s.toks,u]}).update it λ_=>oi).get? it=some oi:=Heap.get?_update_self (λ_=>oi) (Heap.get?_push_of_some _ hos0) (Obj.isFreed_of_fields hdi)
   have I1:Inv X ae σ (bd H s.heap.objs.size (.tup [.int i,x])) {s with heap:=(s.heap.push {cls:=.type "tuple",data:=.seq #[.int i s.toks,u]}).update it λ_=>oi,toks:=s.toks+1}:=
    I0.turned (t':=s.toks+1) (λb o hb q=>(Heap.get?_update_other _ _ (Ne.symm hb)).trans q) (by rw[aC (Nat.ne_of_lt ilt)];exact f0) f1 f3 f4 f5
   refine I1.turned (t':=s.toks+1) (λb o hb q=>?_) (by rw[aC (Nat.ne_of_lt elt)];exact e0) e1 e3 e4 e5
   by_cases hbi:b=it
   ·subst hbi
    have q':((s.heap.push {cls:=.type "tuple",data:=.seq #[.int i s.toks,u]}).update b λ_=>oi).get? b=some o:=q
    rw[u1] at q';cases q';exact hoi
   ·have q':((s.heap.push {cls:=.type "tuple",data:=.seq #[.int i s.toks,u]}).update it λ_=>oi).get? b=some o:=q
    rw[Heap.get?_update_other _ _ (Ne.symm hbi)] at q'
    by_cases hbT:b=s.heap.objs.size
    ·subst hbT
     rw[Heap.get?_push_size _ rfl] at q';cases q'
     exact hT'
    ·rw[Heap.get?_push_ne _ _ _ hbT] at q'
     exact k2 b o hb hbi q'
  refine⟨.ref s.heap.objs.size,bd H s.heap.objs.size (.tup [.int i,x]),I1,rfl,⟨_,rfl,hn,λys hy=>⟨x,by rw[I.list_inj hy hq];exact hx,rfl⟩⟩,⟨⟨u,by simpa using he'⟩,hit'.at λo y=>(hs'.2 it (Ne.symm hei)).trans y⟩,λb hb=>?_⟩
  rcases List.mem_cons.mp hb with rfl|hb
  ·rw[aC (Nat.ne_of_lt elt)];exact e0
  ·have:b=it:=by simpa using hb
   subst this;obtain⟨o,ho,_⟩:=hit
   rw[aC (Nat.ne_of_lt (Heap.lt_size ho))];exact f0
 done:=by
  intro X hP hw hK hc i ae s σ H E I hf st hg;subst hP hw hK;obtain⟨xs,hq,hx⟩:=hg
  obtain⟨its,rv,p,hz⟩:=I.list hq
  obtain⟨⟨old,he⟩,hit⟩:=st
  obtain⟨f0,f1,f2,f3,f4,f5⟩:=hf it (by simp)
  have hl:=rv.length
  have hh:=I.ok.hd hc
  refine wpAny_pyNext_enum_end hh he hit p.isList (by simp;omega) λg k=>⟨rfl,I.turned (t':=s.toks) (λb o hb z=>k b o hb z) f0 f1 f3 f4 f5⟩
 self:=λ_ _ _ _ _ st h=>let⟨⟨_,he⟩,_⟩:=st;wpAny_pyIter_enum he h
section
variable {X:Cx}{c:Ct}{k:Kd}{es:List Expr}{x1:Nat}{tp pos p:Pos}
def vf(f:FE):FA:=λρ=>(f ρ).bind λd=>match d with
 | .lst ds=>some (qd ds)
 |_=>none
theorem rW {K:W.Frag}{W:Hp}{a:Addr}{xs:List V}{ds:List D}(h1:SqL K W a xs)(h2:Reps K W xs ds):ItOk K W (DH K a) (qd ds):=by
 have l:=h2.length
 have el:(qd ds).length=ds.length:=by simp[qd]
 refine⟨λi d H e s=>?_,λH s=>⟨_,Same.seq s h1,by rw[el,<-l];exact Nat.le_refl _⟩⟩
 have hi:i<ds.length:=by rw[<-el];exact(List.getElem?_eq_some_iff.mp e).1
 have ex:xs[i]? =some xs[i]:=List.getElem?_eq_getElem (by omega)
 refine⟨⟨_,xs[i],Same.seq s h1,ex⟩,λy H' ⟨T,e2,hT,e3⟩=>?_⟩
 subst e2;obtain⟨z,e4,e5⟩:=e3 _ (Same.seq s h1)
 subst e5;refine⟨bh hT _,λhid tr sw=>?_⟩
 have hf:hid T=false:=by
  cases eh:hid T with
  |false=>rfl
  |true=>obtain⟨o,ho⟩:=tr T eh;rw[hT] at ho;cases ho
 obtain⟨d',e6,r6⟩:=h2.get' e4
 have ed:d=.tup [.int i,d']:=by
  unfold qd at e;rw[List.getElem?_map,List.getElem?_range hi] at e;have:ds.getD i .non=d':=by simp[List.getD,e6]
  rw[Option.map_some,this] at e;exact(Option.some.inj e).symm
 rw[ed];exact lY hT hf (.cons .int (.cons (r6.mono sw) .nil))
theorem uq {iter:Expr}{f:FE}(h:DP X c .s iter f)(hm:X.mg "enumerate"=none)(hg:Gl X "enumerate":=by rfl)(hs:starEach [iter] X.env=[(false,eval iter X.env)]:=by rfl):DIp X c (.Tuple es x1 tp) (.Call (.Name "enumerate" p) [iter] [] pos) (vf f):=by
 intro hid ρ ae s σ H R I hq;obtain⟨sr,ds,hd,q⟩:=hq
 unfold vf at hd;cases e1:f ρ with
 |none=>rw[e1] at hd;cases hd
 |some z=>
  rw[e1] at hd;cases z with
  |lst us=>
   cases hd
   refine Call_ (jU (u:=.type "enumerate") I hg hm (by kernel_rfl) (PyProof.Rows.callWith_type1 (bq (cH (h hid ρ) gk hs pos ae s σ H (λvs H'=> ∃v,vs=[v]/\Same H H'/\Rep X.K (vw H' hid) v (.lst us)) I ⟨sr,_,e1,λv H' s' r=>⟨v,rfl,s',r⟩⟩) λvs s1 ⟨ws,H1,I1,r1,w,e,s',r⟩=>?_) hs rfl))
   subst e;cases r1 with
   |cons ra rb=>
    cases rb
    cases r with
    |lst t1 t2=>
     cases ra
     have t1':SqL X.K (vw H1 hid) _ _:=SqL.of t1
     obtain⟨its,n,rv,pt,hz⟩:=I1.lst (dE _ _ _ _ t1)
     refine mt pt λg he hit hsz hk=>?_
     refine wpAny_pyIter_enum he ⟨_,[s1.heap.objs.size+1,s1.heap.objs.size],_,_,H1,rfl,I1.kept (t':=s1.toks) λb o e=>hk b o e,rO _ _ _ (Nat.ne_of_gt (Nat.lt_succ_self _)),⟨⟨_,he⟩,hit⟩,λb hb=>?_,q _ H1 s' (rW t1' t2)⟩
     rcases List.mem_cons.mp hb with rfl|hb
     ·exact I1.fpOk (Nat.le_succ _) (I1.hok.fresh (Nat.le_succ _))
     ·have:b=s1.heap.objs.size:=by simpa using hb
      subst this;exact I1.fpOk (Nat.le_refl _) (I1.hok.fresh (Nat.le_refl _))
  |_=>cases hd
end
section
variable {X:Cx}{c:Ct}{e t1 i1:Expr}{ifs1:List Expr}{scope:Scope}{pos spos py:Pos}{N':List Str}{m:Nat}{gi1:FA}{g1:FG}{p1:FT}{A:FA}{AC:xV}{make:Sem Value}{ob:Obj}{o0:HO}{TA:Addr->Env->mD}{y:Str}
theorem z0(i:Nat)(hN:X.N.Nodup)(M:ACm AC)(hmk: ∀ {A:Around} {Q:Value->Shared->Prop} {E:Value->Shared->Prop} {s:Shared},Q (.ref s.heap.objs.size) {s with heap:=s.heap.push ob}->wpAny (model X.prog X.w) A make Q E s)
 (ho0: ∀ {H:Hp} (h:Heap),sysModules<h.objs.size->ObjOk X.prog X.w H (h.push ob) h.objs.size o0) (hnt: ∀xs,o0≠ .tup xs) (ac0: ∀L W,AC L W o0 [])
 (hcalm:X.calm=true) (hk:scope.kind=.function) (hs:oR scope X.env.scope=true) (hn:pk X.N N' scope=true) (hm:N'.length-X.N.length=m) (hT1:fz X.N.length g1)
 (hg1: ∀C s₀ H₀ ex,kZ (av X N' scope C s₀ H₀ ex) c t1 g1) (hp1: ∀C s₀ H₀ ex,lP (av X N' scope C s₀ H₀ ex) c ifs1 p1)
 (hA: ∀C s₀ H₀ ex hid D0 L W ρ0 d ρ1,yb X.N.length ρ0->g1 d ρ0=some ρ1->hid D0=true->c.H₀ D0=none->L D0=none->rF (av X N' scope C s₀ H₀ ex) c hid D0 L W AC A (TA D0 (av X N' scope C s₀ H₀ ex).env) ρ1)
 (hTP: ∀C s₀ H₀ ex D0 it R,jk X.prog X.w X.A (.compLoop e 0 (.ref it) (.ref D0) (av X N' scope C s₀ H₀ ex).env) t1 ifs1 (.ref it) (av X N' scope C s₀ H₀ ex).env (TA D0 (av X N' scope C s₀ H₀ ex).env) R)
 (hst: ∀ {A:Around} {it acc:Value} {env:Env} {R:Result->Shared->Prop} {s:Shared},codeAny (model X.prog X.w) A (.compLoop e 0 it acc env) R s->wpAny (model X.prog X.w) A (pyIter it) (λit' s'=>codeAny (model X.prog X.w) A (.compLoop e 0 it' acc env) R s') (notedBy (model X.prog X.w) A env λx s'=>R (.error x) s') s->codeAny (model X.prog X.w) A (.compStart e 0 it acc env) R s)
 {gs:List Comprehension} (hcl:clausesOf e=⟨t1,i1,ifs1,0⟩::gs) (heu: ∀use,evalThenUse e X.env use=(do let _ <-comprehension e scope X.env i1.pos make false (eval i1 X.env) (some use))) (hi:xu X c t1 i1 gi1) (hset: ∀x,foldedSetIterable i1 X.env x=pure x)
 (hsw:swapsWith e (some (.Name y py)) spos.line X.env=pure true) (hyi:X.N[i]? =some y) (hy:X.env.scope.names.lookup y=some .local) (ρ:aG):
 PS X (.Assign [.Name y py] e spos) (yg (λσ H Q=> ∃hid,CT X c AC m gi1 g1 p1 A hid ρ σ H Q) (sE i)):=by
 intro ae s σ H E I hq;obtain⟨hid,sr,ds,ys,e1,hc,hz,q⟩:=hq
 rw[exec_Assign_Name_used _ _ _ _ hsw];refine wpAny_bind (wpAny_standAt (wpAny_bind ?_))
 rw[heu];refine wpAny_bind (wpAny_mono (wpAny_comprehension_free (use:=some (assign (.Name y py) X.env)) (Q:=λ_ s'=>SP X ae E .next s') hcl hset (cT λx hx=>I.ok.has x (fH hs x hx)) hk (gU hs) ?_) (λ_ s' hq=>wpAny_pure (wpAny_pure hq)) λ_ _ e=>e)
 refine bq (hi hid ρ ae s σ H (λJ H'=>Same H H'/\yB X.K H' (vw H' hid) J ds) I ⟨sr,ds,e1,λJ H' s1 io=>⟨s1,io⟩⟩) λv s1 h1=>bq h1 λitv s2 h2=>?_
 obtain⟨it,fp,tn,J,H2,rfl,I2,T,st2,f2,sm,io⟩:=h2
 refine xh (RR:=λacc C=>compPost (model X.prog X.w) X.A X.xe (some (assign (.Name y py) X.env)) (λ_ s'=>SP X ae E .next s') acc C) M hmk ho0 hnt ac0 hcalm hk hs hn hm hT1 hg1 hp1 hA hTP hst I2 (sr.ext sm) T st2 f2 io hz hc ?_
 intro D C s' H' o hDge hCge hDC hD sm' hx rp ⟨mm,hns⟩ hC' hos hbare hok hun;have I3:Inv X ae σ H' s':=I2.call' (ch:=fp) hos hun hok hbare λb hb=>⟨(f2 b hb).2.2.2.1,(f2 b hb).2.1,(f2 b hb).2.2.2.2.1,(f2 b hb).2.2.2.2.2⟩
 have fin:=q D H' o (sm.free hD) (sm.trans sm') hx (M.l sm rp)
 have ltC: ∀b o,s2.heap.get? b=some o->b≠C:=λb o e z=>by subst z;exact absurd (Heap.lt_size e) (Nat.not_lt.mpr hCge)
 have hLC:C≠X.env.locals:=λz=>by
  have:=I2.lt
  rw[<-z] at this;exact absurd this (Nat.not_lt.mpr hCge)
 show wpAny _ X.A (assign (.Name y py) X.env (.ref D)) _ _ s';refine wpAny_assign_Name (jL (v:=.ref D) I3 hN hyi (.inl hy) rfl (λs'' I4 hb=>?_) (.inr hy))
 obtain⟨a,hsb,ha⟩:=hb
 have hCa:C≠a:=by
  rcases ha with rfl|ha
  ·exact hLC
  ·obtain⟨w',o,ho,_⟩:=I2.cell y a ha
   exact λz=>ltC a o ho z.symm
 refine⟨mm,hns.sameBut hsb hCa,λh3 hs3=>⟨_,H',?_,fin⟩⟩
 refine I4.turned (t':=s''.toks) (it:=C) (λb o nb e=>(hs3.2 b nb).trans e) hC' hLC (.inr (Nat.le_trans I2.sz hCge)) (λx c' e z=>?_) (λq hq z=>?_)
 ·obtain⟨w',o,ho,_⟩:=I2.cell x c' e
  exact ltC c' o ho z
 ·exact ltC q.1 q.2 (I2.pin q hq).1 z
end
section
variable {X:Cx}{c:Ct}{elt t1 i1:Expr}{ifs1:List Expr}{scope:Scope}{pos pos' spos:Pos}{N':List Str}{m:Nat}{gi1:FA}{g1:FG}{p1:FT}{f:FE}{k:Kd}{x:Str}
theorem ux(i:Nat)(hnd:X.N.Nodup)(hcalm:X.calm=true)(hT1:fz X.N.length g1)(hi:xu X c t1 i1 gi1)
 (hg1: ∀C s₀ H₀ ex,kZ (av X N' scope C s₀ H₀ ex) c t1 g1) (hp1: ∀C s₀ H₀ ex,lP (av X N' scope C s₀ H₀ ex) c ifs1 p1) (he: ∀C s₀ H₀ ex,DP (av X N' scope C s₀ H₀ ex) c .n elt f)
 (hk:scope.kind=.function:=by rfl) (hs:oR scope X.env.scope=true:=by kernel_rfl) (hn:pk X.N N' scope=true:=by kernel_rfl) (hm:N'.length-X.N.length=m:=by rfl) (hset: ∀x,foldedSetIterable i1 X.env x=pure x:=by intro _;rfl)
 (hi':X.N[i]? =some x:=by rfl) (hx:X.env.scope.names.lookup x=some .local:=by rfl) (hsw:swapsWith (.ListComp elt [⟨t1,i1,ifs1,0⟩] scope pos) (some (.Name x pos')) spos.line X.env=pure true:=by rfl):
 DS X c k (.Assign [.Name x pos'] (.ListComp elt [⟨t1,i1,ifs1,0⟩] scope pos) spos) (vR i m gi1 g1 p1 f):=λρ=>PS.imp (PS.post (z0 (make:=newList []) (ob:={cls:=.type "list",dict:=none,data:=.seq ([]:List Value).toArray}) (o0:=.lst []) (TA:=λD0 env=>ly X.prog X.w X.A elt (.ref D0) env) i hnd B6 (λh=>wpAny_newObj_type h) (λh hb=>⟨Nat.zero_le _,[],0,.nil,Heap.get?_push_size _ rfl⟩) nofun (λL W=>⟨[],rfl,.nil,λb hb=>absurd hb List.not_mem_nil,.nil⟩) hcalm hk hs hn hm hT1 hg1 hp1
 (λC s₀ H₀ ex hid D0 L W ρ0 d ρ1 nos e hh h00 nD=>u6 (Y:=av X N' scope C s₀ H₀ ex) rfl (he C s₀ H₀ ex) hh h00 nD)
 (λC s₀ H₀ ex D0 it R I turn n s h=>dO I turn n h) codeAny_compStart_list rfl (λ_=>rfl) hi hset hsw hi' hx ρ)) λ_ σ H hq_=>by
 obtain⟨hid,sr,q⟩:=hq_
 unfold vR at q;split at q
 ·rename_i ds e1
  split at q
  ·rename_i ys e2
   split at q
   ·rename_i rows e3
    split at q
    ·rename_i hz
     refine⟨hid,sr,ds,ys,e1,e2,Nat.le_trans hz (by decide),λa H' o ha sm hx ac ae s I=>?_⟩
     obtain⟨H'',hid',I'',n2,sm2⟩:=xz sr sm ha hx ac e3 i I
     exact⟨H'',I'',q _ _ hid' n2 sm2⟩
    ·exact q.elim
   ·exact q.elim
  ·exact q.elim
 ·exact q.elim
end
def kO(i:Nat):Stmt:=PySem.Challenge.pw_rookborders_k04_twists_and_ties.main.body.getD i (.Pass ⟨0,0,0,0⟩)
structure Bt(mg:Str->Option Value):Prop where
 b_abs:mg "abs"=none
 b_all:mg "all"=none
 b_any:mg "any"=none
 b_bool:mg "bool"=none
 b_enumerate:mg "enumerate"=none
 b_int:mg "int"=none
 b_isinstance:mg "isinstance"=none
 b_len:mg "len"=none
 b_list:mg "list"=none
 b_max:mg "max"=none
 b_min:mg "min"=none
 b_range:mg "range"=none
 b_sorted:mg "sorted"=none
 b_sum:mg "sum"=none
 b_tuple:mg "tuple"=none
theorem C2:(["square","rings","crosses","ring"]:List Str).Nodup:=by decide+kernel
theorem BA:(["square","size","column","row"]:List Str).Nodup:=by decide+kernel
theorem zF:(["square","lines","rings","line_at","number","line","column"]:List Str).Nodup:=by decide+kernel
theorem AZ:(["square","lines","rings","line_at","column","row","sign"]:List Str).Nodup:=by decide+kernel
theorem zL:(["meetings","one","other","pairs","over","beneath","sign"]:List Str).Nodup:=by decide+kernel
theorem Dg:(["square","lines","meetings","line"]:List Str).Nodup:=by decide+kernel
theorem Bp:(["square","lines","meetings","one","other"]:List Str).Nodup:=by decide+kernel
theorem Dl:(["_law_bag_here","_law_n","_law_plain","_law_by","_law_rings","_law_crosses","_law_c","_law_d","_law_row"]:List Str).Nodup:=by decide+kernel
theorem BB:(["_law_square_here","_law_n","_law_upright","_law_level","?_law_column","_law_begin","_law_end","_law_row","_law_column"]:List Str).Nodup:=by decide+kernel
theorem CU:(["_law_square_here","_law_begin","_law_found","_law_column","?_law_row","_law_row"]:List Str).Nodup:=by decide+kernel
theorem Br:(["_law_square_here","_law_begin","_law_found","_law_column","_law_row","_law_other"]:List Str).Nodup:=by decide+kernel
theorem Cp:(["_law_square_here","_law_found","_law_column","_law_line_here"]:List Str).Nodup:=by decide+kernel
theorem zk:(["_law_square_here","_law_lines_here","_law_found","_law_column","_law_row","_law_sign","_law_beneath","_law_over","_law_under","_law_other"]:List Str).Nodup:=by decide+kernel
theorem Bj:(["_law_square_here","_law_lines_here","_law_found","_law_column","_law_row","_law_sign","_law_beneath","_law_over","_law_under","_law_other","_law_line_here"]:List Str).Nodup:=by decide+kernel
theorem zm:(["_law_square_here","_law_lines_here","_law_found","_law_column","_law_row","_law_sign","_law_beneath","_law_over","_law_under","_law_k"]:List Str).Nodup:=by decide+kernel
theorem Cs:(["_law_square_here","_law_sums_here","_law_many","_law_twists","_law_due","?_law_k","_law_other","_law_ties","_law_k"]:List Str).Nodup:=by decide+kernel
theorem BY:(["_law_square_here","_law_sums_here","_law_many","_law_twists","_law_due","_law_k","_law_other","_law_ties","_law_twist"]:List Str).Nodup:=by decide+kernel
theorem BR:(["_law_square_here","_law_sums_here","_law_many","_law_twists","_law_due","_law_k","_law_other","_law_ties","_law_tie"]:List Str).Nodup:=by decide+kernel
theorem B5:(["_law_script","_law_k","_law_bag_here","?_law_square_here","_law_some","_law_square_here"]:List Str).Nodup:=by decide+kernel
section
variable {P:Program}{w:World}{K:W.Frag}{mg:Str->Option Value}{base:Heap}
abbrev bJ:Stmt:=kO 1
abbrev dr:Stmt:=kO 3
abbrev bK:Stmt:=kO 5
abbrev eF:Stmt:=kO 6
abbrev cy:Stmt:=kO 7
abbrev cc:Stmt:=kO 8
abbrev eN:Stmt:=kO 9
abbrev bI:Stmt:=kO 10
abbrev cb:Stmt:=kO 11
abbrev bu:Stmt:=kO 12
abbrev cZ:Stmt:=kO 13
abbrev eL:Stmt:=kO 14
abbrev dn:Stmt:=kO 16
abbrev eD:Stmt:=kO 17
abbrev dq:Stmt:=kO 18
abbrev cX:Stmt:=kO 19
abbrev cu:Stmt:=kO 20
abbrev dw:Stmt:=kO 21
abbrev bv:Stmt:=kO 22
abbrev du:Stmt:=kO 23
abbrev cO:Stmt:=kO 24
abbrev dA:Stmt:=kO 25
abbrev dv:Stmt:=kO 26
abbrev iP:Stmt:=kO 27
theorem sc_order_rounds:FnScope ["order","rounds","start","places"] ["order"] (ao bJ):=⟨rfl,rfl,rfl,by decide+kernel,rfl,by decide+kernel,by decide+kernel⟩
def lU:FS:=
 aB (dz 1 (cq (ag)))
 (aB (dI (cC (aW (ab (aj br (ab (ah 0) (ag))) (ag)))) (gN 2) (aB (dz 3 (cq (ab (ah 2) (ag))))
 (aB (kP (bF (ar kA (ar aM (ah 0) (ar aM (dm 3) (i4 (az (.int 1))))) (ah 2))) (bT (aU 3 1 fL (cC (ab (ar aM (ah 0) (ar aM (dm 3) (i4 (az (.int 1))))) (ag))))) 16)
 (fY (bF (ar iu (aj mW (ab (dm 3) (ag))) (ah 2))) ((λρ=>(bT (aU 1 1 fL (cC (ab (ah 3) (ag))))) (uC 3 ρ))) (skip)))))
 (mj 1))
def fO:List D->Option D:=iN .n 4 lU
theorem lj(B:Bt mg)(F:Df K mg "order_rounds" bJ ["order"]):Cl P w K mg base 1 "order_rounds" ["order"] (fm K .n 1 fO):=by
 refine bD (k:=0) F sc_order_rounds (by decide) rfl λ_ cdv A outer s H hid E hr=>?_
 exact(al (fC 1 sc_order_rounds.nd (dL au))
  (al (eM PassesOwn.never rfl (DIp.e (aS B.b_range (ai (aK aR cU B.b_len (aF (af 0) aX) (hv:=by kernel_rfl)) au))) (aw 2 sc_order_rounds.nd) (al (fC 3 sc_order_rounds.nd (dL (ai (af 2) au)))
  (al (mk 16 PassesOwn.never (bZ (jd hr.units) lX (aN aA aL (af 0) (aN aA aL (dJ 3) (iL ak) (λ_ _=>rfl)) (λ_ _=>rfl)) (af 2) (bN _)) (aD (fx (gg 3 eE cg PySem.F.slot_list_append PySem.F.type_list_append (DA.gf (ai (aN aA aL (af 0) (aN aA aL (dJ 3) (iL ak) (λ_ _=>rfl)) (λ_ _=>rfl)) au))))))
  (aD (fV (bZ (hB hr.units) ji (aK (uo rfl) yM B.b_min (aF (dJ 3) aX) (hv:=by kernel_rfl)) (af 2) (bN _)) (aD (A2 3 (fx (gg 1 eE cg PySem.F.slot_list_append PySem.F.type_list_append (DA.gf (ai (af 3) au)))))) cI)))))
  (aD (jq 1))))
theorem sc_lines_of:FnScope ["square","rings","crosses"] ["square"] (ao dr):=⟨rfl,rfl,rfl,by decide+kernel,rfl,by decide+kernel,by decide+kernel⟩
def ja:FS:=
 aB (fS (gT 2 (gV (gN 1) (gV (gN 2) (kG)))) (pu (ah 0)))
 (bw (aj (nF 1 fO) (ab (aO 1 (dg (ah 1)) (gN 3) (cm) (ar iX (ah 2) (ah 3))) (ag))))
def cx:List D->Option D:=iN .n 3 ja
theorem rd(B:Bt mg)(F:Df K mg "lines_of" dr ["square"])(fJ:Cl P w K mg base 1 "order_rounds" ["order"] (fm K .n 1 fO)):Cl P w K mg base 2 "lines_of" ["square"] (fm K .n 1 cx):=by
 refine bD (k:=1) F sc_lines_of (by decide) rfl λ_ cdv A outer s H hid E hr=>?_
 exact(al (oz (DP.ef (af 0)) (fZ (n:=2) rfl (bm (aw 1 sc_lines_of.nd) (bm (aw 2 sc_lines_of.nd) fT))))
  (aD (bo (cj fJ (hr.mono (by decide)) (ai (DP.toS (bS (N':=["square","rings","crosses","ring"]) rfl (bi (Nat.le_of_ble_eq_true rfl)) (DIp.b (dh (af 1))) (λ_ _ _ _=>(aw 3 C2)) (λ_ _ _ _=>cf) (λ_ _ _ _=>(dB hr.units (af 2) (af 3))))) au)))))
theorem kz:FnScope ["at","one","other"] ["at","one","other"] (ao bK):=⟨rfl,rfl,rfl,by decide+kernel,rfl,by decide+kernel,by decide+kernel⟩
def mf:FS:=
 bw (Al xE xE (aj eU (ab (ah 1) (ab (ah 2) (ag)))) (ah 0) (aj hX (ab (ah 1) (ab (ah 2) (ag)))))
def cN:List D->Option D:=iN .s 3 mf
theorem kX(B:Bt mg)(F:Df K mg "lies_between" bK ["at","one","other"]):Cl P w K mg base 1 "lies_between" ["at","one","other"] (fm K .s 3 cN):=by
 refine bD (k:=0) F kz (by decide) rfl λ_ cdv A outer s H hid E hr=>?_
 exact(aD (bo (B0 pW pW kc kc (aK (gC rfl) jx B.b_min (aF (af 1) (aF (af 2) aX)) (hv:=by kernel_rfl)) (af 0) (aK (iz rfl) kJ B.b_max (aF (af 1) (aF (af 2) aX)) (hv:=by kernel_rfl)))))
theorem sc_goes_up:FnScope ["square","column","rings","crosses"] ["square","column"] (ao eF):=⟨rfl,rfl,rfl,by decide+kernel,rfl,by decide+kernel,by decide+kernel⟩
def jy:FS:=
 aB (fS (gT 2 (gV (gN 2) (gV (gN 3) (kG)))) (pu (ah 0)))
 (bw (ar xE (ar aM (ah 3) (ah 1)) (ar aM (ah 2) (ah 1))))
def gQ:List D->Option D:=iN .s 4 jy
theorem uB(B:Bt mg)(F:Df K mg "goes_up" eF ["square","column"]):Cl P w K mg base 1 "goes_up" ["square","column"] (fm K .s 2 gQ):=by
 refine bD (k:=0) F sc_goes_up (by decide) rfl λ_ cdv A outer s H hid E hr=>?_
 exact(al (oz (DP.ef (af 0)) (fZ (n:=2) rfl (bm (aw 2 sc_goes_up.nd) (bm (aw 3 sc_goes_up.nd) fT))))
  (aD (bo (jR pW kc (aN aA aL (af 3) (af 1) (λ_ _=>rfl)) (aN aA aL (af 2) (af 1) (λ_ _=>rfl)) (bN _)))))
theorem sc_goes_right:FnScope ["square","row","rings","crosses"] ["square","row"] (ao cy):=⟨rfl,rfl,rfl,by decide+kernel,rfl,by decide+kernel,by decide+kernel⟩
def hJ:FS:=
 aB (fS (gT 2 (gV (gN 2) (gV (gN 3) (kG)))) (pu (ah 0)))
 (bw (ar xE (ar iX (ah 2) (ah 1)) (ar iX (ah 3) (ah 1))))
def ee:List D->Option D:=iN .s 4 hJ
theorem oC(B:Bt mg)(F:Df K mg "goes_right" cy ["square","row"]):Cl P w K mg base 1 "goes_right" ["square","row"] (fm K .s 2 ee):=by
 refine bD (k:=0) F sc_goes_right (by decide) rfl λ_ cdv A outer s H hid E hr=>?_
 exact(al (oz (DP.ef (af 0)) (fZ (n:=2) rfl (bm (aw 2 sc_goes_right.nd) (bm (aw 3 sc_goes_right.nd) fT))))
  (aD (bo (jR pW kc (dB hr.units (af 2) (af 1)) (dB hr.units (af 3) (af 1)) (bN _)))))
theorem sc_is_crossing:FnScope ["square","column","row","rings","crosses"] ["square","column","row"] (ao cc):=⟨rfl,rfl,rfl,by decide+kernel,rfl,by decide+kernel,by decide+kernel⟩
def gv:FS:=
 aB (fS (gT 2 (gV (gN 3) (gV (gN 4) (kG)))) (pu (ah 0)))
 (aB (fY (gp (gD (aj (nF 3 cN) (ab (ah 2) (ab (ar aM (ah 3) (ah 1)) (ab (ar aM (ah 4) (ah 1)) (ag))))))) (bw (az (.bl false))) (skip))
 (bw (aj (nF 3 cN) (ab (ah 1) (ab (ar iX (ah 3) (ah 2)) (ab (ar iX (ah 4) (ah 2)) (ag)))))))
def eS:List D->Option D:=iN .s 5 gv
theorem mE(B:Bt mg)(F:Df K mg "is_crossing" cc ["square","column","row"])(dN:Cl P w K mg base 1 "lies_between" ["at","one","other"] (fm K .s 3 cN)):Cl P w K mg base 2 "is_crossing" ["square","column","row"] (fm K .s 3 eS):=by
 refine bD (k:=1) F sc_is_crossing (by decide) rfl λ_ cdv A outer s H hid E hr=>?_
 exact(al (oz (DP.ef (af 0)) (fZ (n:=2) rfl (bm (aw 3 sc_is_crossing.nd) (bm (aw 4 sc_is_crossing.nd) fT))))
  (al (fV (jI (iy (cj dN (hr.mono (by decide)) (ai (af 2) (ai (aN aA aL (af 3) (af 1) (λ_ _=>rfl)) (ai (aN aA aL (af 4) (af 1) (λ_ _=>rfl)) au)))))) (aD (bo nA)) cI)
  (aD (bo (cj dN (hr.mono (by decide)) (ai (af 1) (ai (dB hr.units (af 3) (af 2)) (ai (dB hr.units (af 4) (af 2)) au))))))))
theorem q9:FnScope ["square","column","row"] ["square","column","row"] (ao eN):=⟨rfl,rfl,rfl,by decide+kernel,rfl,by decide+kernel,by decide+kernel⟩
def jz:FS:=
 bw (zy (bF (ar kA (aj (nF 2 gQ) (ab (ah 0) (ab (ah 1) (ag)))) (aj (nF 2 ee) (ab (ah 0) (ab (ah 2) (ag)))))) (az (.int 1)) (i4 (az (.int 1))))
def iI:List D->Option D:=iN .s 3 jz
theorem tX(B:Bt mg)(F:Df K mg "sign_at" eN ["square","column","row"])(jC:Cl P w K mg base 1 "goes_up" ["square","column"] (fm K .s 2 gQ))(g9:Cl P w K mg base 1 "goes_right" ["square","row"] (fm K .s 2 ee)):Cl P w K mg base 2 "sign_at" ["square","column","row"] (fm K .s 3 iI):=by
 refine bD (k:=1) F q9 (by decide) rfl λ_ cdv A outer s H hid E hr=>?_
 exact(aD (bo (Bu (by decide) (bZ (jd hr.units) lX (cj jC (hr.mono (by decide)) (ai (af 0) (ai (af 1) au))) (cj g9 (hr.mono (by decide)) (ai (af 0) (ai (af 2) au))) (bN _)) ak (iL ak))))
theorem sc_crossings_of:FnScope ["square","size"] ["square"] (ao bI):=⟨rfl,rfl,rfl,by decide+kernel,rfl,by decide+kernel,by decide+kernel⟩
def fK:FS:=
 aB (aY 1 (aj br (ab (ar aM (ah 0) (az (.int 0))) (ag))))
 (bw (rS 2 (aW (ab (ah 1) (ag))) (gN 2) (cm) (aW (ab (ah 1) (ag))) (gN 3) (gD (aj (nF 3 eS) (ab (ah 0) (ab (ah 2) (ab (ah 3) (ag)))))) (df (ab (ah 2) (ab (ah 3) (ab (aj (nF 3 iI) (ab (ah 0) (ab (ah 2) (ab (ah 3) (ag))))) (ag)))))))
def cV:List D->Option D:=iN .n 2 fK
theorem md(B:Bt mg)(F:Df K mg "crossings_of" bI ["square"])(jM:Cl P w K mg base 2 "sign_at" ["square","column","row"] (fm K .s 3 iI))(gz:Cl P w K mg base 2 "is_crossing" ["square","column","row"] (fm K .s 3 eS)):Cl P w K mg base 3 "crossings_of" ["square"] (fm K .n 1 cV):=by
 refine bD (k:=2) F sc_crossings_of (by decide) rfl λ_ cdv A outer s H hid E hr=>?_
 exact(al (aZ 1 sc_crossings_of.nd (aK aR cU B.b_len (aF (aN aA aL (af 0) ak (λ_ _=>rfl)) aX) (hv:=by kernel_rfl)))
  (aD (bo (qf (N':=["square","size","column","row"]) rfl 3 (bi (Nat.le_of_ble_eq_true rfl)) (yd (Nat.le_of_ble_eq_true rfl)) (bi (Nat.le_of_ble_eq_true rfl)) (DIp.b (aS B.b_range (ai (af 1) au))) (λ_ _ _ _=>(aw 2 BA)) (λ_ _ _ _=>cf) (λ_ _ _ _=>(aS B.b_range (ai (af 1) au))) (λ_ _ _ _=>(aw 3 BA)) (λ_ _ _ _=>(fA (iy (cj gz (hr.mono (by decide)) (ai (af 0) (ai (af 2) (ai (af 3) au))))))) (λ_ _ _ _=>(gy (ai (af 2) (ai (af 3) (ai (cj jM (hr.mono (by decide)) (ai (af 0) (ai (af 2) (ai (af 3) au)))) au)))))))))
theorem sc_meetings_of:FnScope ["square","lines","rings","line_at"] ["square","lines"] (ao cb):=⟨rfl,rfl,rfl,by decide+kernel,rfl,by decide+kernel,by decide+kernel⟩
def gr:FS:=
 aB (aY 2 (ar aM (ah 0) (az (.int 0))))
 (aB (wA 3 3 (vf (ah 1)) (gT 2 (gV (gN 4) (gV (gN 5) (kG)))) (cm) (ze (dg (ah 5)) (gN 6) (cm) (ah 6) (ah 4)))
 (bw (aO 3 (dg (aj (nF 1 cV) (ab (ah 0) (ag)))) (gT 3 (gV (gN 4) (gV (gN 5) (gV (gN 6) (kG))))) (cm) (df (ab (yT 3 (ah 4)) (ab (yT 3 (ar iX (ah 2) (ah 5))) (ab (ah 6) (ag))))))))
def cF:List D->Option D:=iN .n 4 gr
theorem mz(B:Bt mg)(F:Df K mg "meetings_of" cb ["square","lines"])(fP:Cl P w K mg base 3 "crossings_of" ["square"] (fm K .n 1 cV)):Cl P w K mg base 4 "meetings_of" ["square","lines"] (fm K .n 2 cF):=by
 refine bD (k:=3) F sc_meetings_of (by decide) rfl λ_ cdv A outer s H hid E hr=>?_
 exact(al (aZ 2 sc_meetings_of.nd (aN aA aL (af 0) ak (λ_ _=>rfl)))
  (al (uZ 3 (N':=["square","lines","rings","line_at","number","line","column"]) sc_meetings_of.nd rfl 6 (qM (cM (bi (Nat.le_of_ble_eq_true rfl)) (cM (bi (Nat.le_of_ble_eq_true rfl)) jP))) (CM (qt (yd (Nat.le_of_ble_eq_true rfl)) (qt (yd (Nat.le_of_ble_eq_true rfl)) xI))) (bi (Nat.le_of_ble_eq_true rfl)) (DIp.b (uq (af 1) B.b_enumerate)) (λ_ _ _ _=>(fZ (n:=2) rfl (bm (aw 4 zF) (bm (aw 5 zF) fT)))) (λ_ _ _ _=>cf) (λ_ _ _ _=>(dh (af 5))) (λ_ _ _ _=>(aw 6 zF)) (λ_ _ _ _=>cf) (λ_ _ _ _=>(af 6)) (λ_ _ _ _=>(af 4)))
  (aD (bo (bS (N':=["square","lines","rings","line_at","column","row","sign"]) rfl (qM (cM (bi (Nat.le_of_ble_eq_true rfl)) (cM (bi (Nat.le_of_ble_eq_true rfl)) (cM (bi (Nat.le_of_ble_eq_true rfl)) jP)))) (DIp.b (dh (DP.toS (cj fP (hr.mono (by decide)) (ai (af 0) au))))) (λ_ _ _ _=>(fZ (n:=3) rfl (bm (aw 4 AZ) (bm (aw 5 AZ) (bm (aw 6 AZ) fT))))) (λ_ _ _ _=>cf) (λ_ _ _ _=>(gy (ai (xi 3 (ka hr) (af 4) (λ_ _=>rfl)) (ai (xi 3 (ka hr) (dB hr.units (af 2) (af 5)) (λ_ _=>rfl)) (ai (af 6) au))))))))))
theorem sc_signs_between:FnScope ["meetings","one","other","pairs"] ["meetings","one","other"] (ao bu):=⟨rfl,rfl,rfl,by decide+kernel,rfl,by decide+kernel,by decide+kernel⟩
def eY:FS:=
 aB (aY 3 (df (ab (df (ab (ah 1) (ab (ah 2) (ag)))) (ab (df (ab (ah 2) (ab (ah 1) (ag)))) (ag)))))
 (bw (aj AV (ab (aO 3 (dg (ah 0)) (gT 3 (gV (gN 4) (gV (gN 5) (gV (gN 6) (kG))))) (bF (ar (ki false) (df (ab (ah 4) (ab (ah 5) (ag)))) (ah 3))) (ah 6)) (ag))))
def bO:List D->Option D:=iN .s 4 eY
theorem kE(B:Bt mg)(F:Df K mg "signs_between" bu ["meetings","one","other"]):Cl P w K mg base 1 "signs_between" ["meetings","one","other"] (fm K .s 3 bO):=by
 refine bD (k:=0) F sc_signs_between (by decide) rfl λ_ cdv A outer s H hid E hr=>?_
 exact(QSs.to (lG (sD 3 sc_signs_between.nd (fj (aH (fj (aH (QP.of (af 1)) (aH (QP.of (af 2)) eP))) (aH (fj (aH (QP.of (af 2)) (aH (QP.of (af 1)) eP))) eP eQ) eQ)))
  (tG (QS.of (bo (aK (vU rfl) Au B.b_sum (aF (bS (N':=["meetings","one","other","pairs","over","beneath","sign"]) rfl (qM (cM (bi (Nat.le_of_ble_eq_true rfl)) (cM (bi (Nat.le_of_ble_eq_true rfl)) (cM (bi (Nat.le_of_ble_eq_true rfl)) jP)))) (DIp.b (dh (af 0))) (λ_ _ _ _=>(fZ (n:=3) rfl (bm (aw 4 zL) (bm (aw 5 zL) (bm (aw 6 zL) fT))))) (λ_ _ _ _=>(fA (bZ (oI hr.units) (ql false) (gy (ai (af 4) (ai (af 5) au))) (af 3) (by with_unfolding_all rfl)))) (λ_ _ _ _=>(af 6))) aX) (hv:=by kernel_rfl)))))))
theorem sc_twists_of:FnScope ["square","lines","meetings"] ["square"] (ao cZ):=⟨rfl,rfl,rfl,by decide+kernel,rfl,by decide+kernel,by decide+kernel⟩
def ia:FS:=
 aB (aY 1 (aj (nF 1 cx) (ab (ah 0) (ag))))
 (aB (aY 2 (aj (nF 2 cF) (ab (ah 0) (ab (ah 1) (ag)))))
 (bw (aO 1 (aW (ab (aj br (ab (ah 1) (ag))) (ag))) (gN 3) (cm) (aj (nF 3 bO) (ab (ah 2) (ab (ah 3) (ab (ah 3) (ag))))))))
def bV:List D->Option D:=iN .n 3 ia
theorem pD(B:Bt mg)(F:Df K mg "twists_of" cZ ["square"])(eI:Cl P w K mg base 2 "lines_of" ["square"] (fm K .n 1 cx))(cD:Cl P w K mg base 4 "meetings_of" ["square","lines"] (fm K .n 2 cF))(bQ:Cl P w K mg base 1 "signs_between" ["meetings","one","other"] (fm K .s 3 bO)):Cl P w K mg base 5 "twists_of" ["square"] (fm K .n 1 bV):=by
 refine bD (k:=4) F sc_twists_of (by decide) rfl λ_ cdv A outer s H hid E hr=>?_
 exact(al (aZ 1 sc_twists_of.nd (DP.toS (cj eI (hr.mono (by decide)) (ai (af 0) au))))
  (al (aZ 2 sc_twists_of.nd (DP.toS (cj cD (hr.mono (by decide)) (ai (af 0) (ai (af 1) au)))))
  (aD (bo (bS (N':=["square","lines","meetings","line"]) rfl (bi (Nat.le_of_ble_eq_true rfl)) (DIp.b (aS B.b_range (ai (aK aR cU B.b_len (aF (af 1) aX) (hv:=by kernel_rfl)) au))) (λ_ _ _ _=>(aw 3 Dg)) (λ_ _ _ _=>cf) (λ_ _ _ _=>(cj bQ (hr.mono (by decide)) (ai (af 2) (ai (af 3) (ai (af 3) au))))))))))
theorem sc_ties_of:FnScope ["square","lines","meetings"] ["square"] (ao eL):=⟨rfl,rfl,rfl,by decide+kernel,rfl,by decide+kernel,by decide+kernel⟩
def jF:FS:=
 aB (aY 1 (aj (nF 1 cx) (ab (ah 0) (ag))))
 (aB (aY 2 (aj (nF 2 cF) (ab (ah 0) (ab (ah 1) (ag)))))
 (bw (rS 2 (aW (ab (aj br (ab (ah 1) (ag))) (ag))) (gN 3) (cm) (hZ (ab (ar bA (ah 3) (az (.int 1))) (ab (aj br (ab (ah 1) (ag))) (ag)))) (gN 4) (cm) (df (ab (ah 3) (ab (ah 4) (ab (ar iR (aj (nF 3 bO) (ab (ah 2) (ab (ah 3) (ab (ah 4) (ag))))) (az (.int 2))) (ag))))))))
def de:List D->Option D:=iN .n 3 jF
theorem tY(B:Bt mg)(F:Df K mg "ties_of" eL ["square"])(eI:Cl P w K mg base 2 "lines_of" ["square"] (fm K .n 1 cx))(cD:Cl P w K mg base 4 "meetings_of" ["square","lines"] (fm K .n 2 cF))(bQ:Cl P w K mg base 1 "signs_between" ["meetings","one","other"] (fm K .s 3 bO)):Cl P w K mg base 5 "ties_of" ["square"] (fm K .n 1 de):=by
 refine bD (k:=4) F sc_ties_of (by decide) rfl λ_ cdv A outer s H hid E hr=>?_
 exact(al (aZ 1 sc_ties_of.nd (DP.toS (cj eI (hr.mono (by decide)) (ai (af 0) au))))
  (al (aZ 2 sc_ties_of.nd (DP.toS (cj cD (hr.mono (by decide)) (ai (af 0) (ai (af 1) au)))))
  (aD (bo (qf (N':=["square","lines","meetings","one","other"]) rfl 4 (bi (Nat.le_of_ble_eq_true rfl)) (yd (Nat.le_of_ble_eq_true rfl)) (bi (Nat.le_of_ble_eq_true rfl)) (DIp.b (aS B.b_range (ai (aK aR cU B.b_len (aF (af 1) aX) (hv:=by kernel_rfl)) au))) (λ_ _ _ _=>(aw 3 Bp)) (λ_ _ _ _=>cf) (λ_ _ _ _=>(gX B.b_range (ai (dP (af 3) ak) (ai (aK aR cU B.b_len (aF (af 1) aX) (hv:=by kernel_rfl)) au)))) (λ_ _ _ _=>(aw 4 Bp)) (λ_ _ _ _=>cf) (λ_ _ _ _=>(gy (ai (af 3) (ai (af 4) (ai (nJ (cj bQ (hr.mono (by decide)) (ai (af 2) (ai (af 3) (ai (af 4) au)))) ak) au))))))))))
theorem pA:FnScope ["_law_script","_law_k"] ["_law_script","_law_k"] (ao dn):=⟨rfl,rfl,rfl,by decide+kernel,rfl,by decide+kernel,by decide+kernel⟩
def rR:FS:=
 aB (fY (bF (ar xE (ah 1) (aj br (ab (ah 0) (ag))))) (bw (ar aM (ah 0) (ah 1))) (skip))
 (bw (az (.int 0)))
def i8:List D->Option D:=iN .s 2 rR
theorem qL(B:Bt mg)(F:Df K mg "_law_cell" dn ["_law_script","_law_k"]):Cl P w K mg base 1 "_law_cell" ["_law_script","_law_k"] (fm K .s 2 i8):=by
 refine bD (k:=0) F pA (by decide) rfl λ_ cdv A outer s H hid E hr=>?_
 exact(al (fV (bZ pW kc (af 1) (aK aR cU B.b_len (aF (af 0) aX) (hv:=by kernel_rfl)) (bN _)) (aD (bo (aN aA aL (af 0) (af 1) (λ_ _=>rfl)))) cI)
  (aD (bo ak)))
theorem sc_law_bag:FnScope ["_law_script","_law_at","_law_cell_here","_law_mix","_law_k"] ["_law_script","_law_at"] (ao eD):=⟨rfl,rfl,rfl,by decide+kernel,rfl,by decide+kernel,by decide+kernel⟩
def uy:FS:=
 aB (aY 2 (ar ci (aj pT (ab (aj (nF 2 i8) (ab (ah 0) (ab (ah 1) (ag)))) (ag))) (ar dZ (ar dZ (ar dQ (az (.int 10)) (az (.int 60))) (ar dQ (az (.int 10)) (az (.int 60)))) (ar dQ (az (.int 10)) (az (.int 60))))))
 (aB (fY (bF (ar CJ (ah 2) (ar dQ (az (.int 10)) (az (.int 18))))) (bw (cq (ab (ah 2) (ab (az (.int 0)) (ag))))) (skip))
 (aB (aY 3 (ar ci (ar bA (ar bA (ah 2) (ar dZ (az (.int 7919)) (ah 1))) (az (.int 17))) (az (.int 2147483647))))
 (aB (dI (cC (aW (ab (aj eU (ab (aj br (ab (ah 0) (ag))) (ab (az (.int 9)) (ag)))) (ag)))) (gN 4) (aY 3 (ar ci (ar bA (ar bA (ar dQ (ah 3) (az (.int 5))) (ar ci (ar aM (ah 0) (ah 4)) (az (.int 2147483629)))) (ar dZ (az (.int 31)) (ah 4))) (az (.int 2147483647)))))
 (bw (cq (ab (ah 3) (ab (az (.int 1)) (ag))))))))
def iG:List D->Option D:=iN .n 5 uy
theorem uO(B:Bt mg)(F:Df K mg "_law_bag" eD ["_law_script","_law_at"])(i7:Cl P w K mg base 1 "_law_cell" ["_law_script","_law_k"] (fm K .s 2 i8)):Cl P w K mg base 2 "_law_bag" ["_law_script","_law_at"] (fm K .n 2 iG):=by
 refine bD (k:=1) F sc_law_bag (by decide) rfl λ_ cdv A outer s H hid E hr=>?_
 exact(al (aZ 2 sc_law_bag.nd (gw (aK wB Ao B.b_abs (aF (cj i7 (hr.mono (by decide)) (ai (af 0) (ai (af 1) au))) aX) (hv:=by kernel_rfl)) (jK (jK (jG ak ak) (jG ak ak)) (jG ak ak))))
  (al (fV (bZ Bl kc (af 2) (jG ak ak) (bN _)) (aD (bo (dL (ai (af 2) (ai ak au))))) cI)
  (al (aZ 3 sc_law_bag.nd (gw (dP (dP (af 2) (jK ak (af 1))) ak) ak))
  (al (eM PassesOwn.never rfl (DIp.e (aS B.b_range (ai (aK (gC rfl) jx B.b_min (aF (aK aR cU B.b_len (aF (af 0) aX) (hv:=by kernel_rfl)) (aF ak aX)) (hv:=by kernel_rfl)) au))) (aw 4 sc_law_bag.nd) (aD (aZ 3 sc_law_bag.nd (gw (dP (dP (jG (af 3) ak) (gw (aN aA aL (af 0) (af 4) (λ_ _=>rfl)) ak)) (jK ak (af 4))) ak))))
  (aD (bo (dL (ai (af 3) (ai ak au)))))))))
theorem sc_law_take:FnScope ["_law_bag_here","_law_many","_law_digit"] ["_law_bag_here","_law_many"] (ao dq):=⟨rfl,rfl,rfl,by decide+kernel,rfl,by decide+kernel,by decide+kernel⟩
def rM:FS:=
 aB (fY (bF (ar iu (ar aM (dm 0) (az (.int 1))) (az (.int 0)))) (aB (aY 2 (ar ci (ar aM (dm 0) (az (.int 0))) (ah 1)))
 (aB (fS (dW 0 (az (.int 0))) (pu (ar iR (ar aM (dm 0) (az (.int 0))) (ah 1))))
 (bw (ah 2)))) (skip))
 (aB (fS (dW 0 (az (.int 0))) (pu (ar ci (ar bA (ar bA (ar dQ (ar aM (dm 0) (az (.int 0))) (az (.int 5))) (ar dZ (az (.int 48271)) (ar aM (dm 0) (az (.int 1))))) (az (.int 11))) (az (.int 2147483647)))))
 (aB (fS (dW 0 (az (.int 1))) (pu (ar bA (ar aM (dm 0) (az (.int 1))) (az (.int 1)))))
 (bw (ar ci (ar iR (ar ci (ar dZ (ar aM (dm 0) (az (.int 0))) (az (.int 69621))) (az (.int 2147483629))) (az (.int 8))) (ah 1)))))
def cr:List D->List D->Option (D×List D):=uQ .s 3 rM
theorem rK(B:Bt mg)(F:Df K mg "_law_take" dq ["_law_bag_here","_law_many"]):Cl P w K mg base 1 "_law_take" ["_law_bag_here","_law_many"] (ub K .s 1 cr):=by
 refine rN (k:=0) F sc_law_take (by decide) rfl λ_ cdv A outer s H hid a E hr=>?_
 exact(al (fV (bZ (hB hr.units) ji (aN aA aL (dJ 0) ak (λ_ _=>rfl)) ak (bN _)) (al (aZ 2 sc_law_take.nd (gw (aN aA aL (dJ 0) ak (λ_ _=>rfl)) (af 1)))
  (al (nM (DP.ef (nJ (aN aA aL (dJ 0) ak (λ_ _=>rfl)) (af 1))) (jn 0 ak))
  (aD (bo (af 2))))) cI)
  (al (nM (DP.ef (gw (dP (dP (jG (aN aA aL (dJ 0) ak (λ_ _=>rfl)) ak) (jK ak (aN aA aL (dJ 0) ak (λ_ _=>rfl)))) ak) ak)) (jn 0 ak))
  (al (nM (DP.ef (dP (aN aA aL (dJ 0) ak (λ_ _=>rfl)) ak)) (jn 0 ak))
  (aD (bo (gw (nJ (gw (jK (aN aA aL (dJ 0) ak (λ_ _=>rfl)) ak) ak) ak) (af 1)))))))
theorem sc_law_order:FnScope ["_law_bag_here","_law_n","_law_left","_law_found"] ["_law_bag_here","_law_n"] (ao cX):=⟨rfl,rfl,rfl,by decide+kernel,rfl,by decide+kernel,by decide+kernel⟩
def pX:FS:=
 aB (dz 2 (xw (ah 1)))
 (aB (dz 3 (cq (ag)))
 (aB (kP (bF (ar kA (dm 2) (cq (ag)))) (bT (aU 3 1 fL (fU (aU 2 1 mF (fU (aU 0 1 cr (cC (ab (aj br (ab (dm 2) (ag))) (ag)))) (cC (ag)))) (cC (ag))))) 16)
 (mj 3)))
def gj:List D->List D->Option (D×List D):=uQ .n 4 pX
theorem qa(B:Bt mg)(F:Df K mg "_law_order" cX ["_law_bag_here","_law_n"])(ca:Cl P w K mg base 1 "_law_take" ["_law_bag_here","_law_many"] (ub K .s 1 cr)):Cl P w K mg base 2 "_law_order" ["_law_bag_here","_law_n"] (ub K .n 1 gj):=by
 refine rN (k:=1) F sc_law_order (by decide) rfl λ_ cdv A outer s H hid a E hr=>?_
 exact(al (fC 2 sc_law_order.nd (iQ rfl B.b_list B.b_range (af 1)))
  (al (fC 3 sc_law_order.nd (dL au))
  (al (mk 16 PassesOwn.never (bZ (jd hr.units) lX (dJ 2) (dL au) (bN _)) (aD (fx (gg 3 eE cg PySem.F.slot_list_append PySem.F.type_list_append (oJ (gg 2 Am wG PySem.F.slot_list_pop PySem.F.type_list_pop (oJ (lm 0 ca (hr.mono (by decide)) (DA.gf (ai (aK aR cU B.b_len (aF (dJ 2) aX) (hv:=by kernel_rfl)) au))) (DA.gf au))) (DA.gf au))))))
  (aD (jq 3)))))
theorem sc_law_square:FnScope ["_law_bag_here","_law_n","_law_plain","_law_by","_law_rings","_law_crosses","_law_c","_law_d"] ["_law_bag_here","_law_n"] (ao cu):=⟨rfl,rfl,rfl,by decide+kernel,rfl,by decide+kernel,by decide+kernel⟩
def nG:FS:=
 aB (i9 2 (aU 0 1 cr (cC (ab (az (.int 4)) (ag)))))
 (aB (i9 3 (lb bA (pu (az (.int 1))) (aU 0 1 cr (cC (ab (ar xN (ah 1) (az (.int 1))) (ag))))))
 (aB (i9 4 (aU 0 1 gj (cC (ab (ah 1) (ag)))))
 (aB (qW 5 (aU 0 1 gj (cC (ab (ah 1) (ag)))))
 (aB (fY (bF (ar iu (ah 2) (az (.int 1)))) (aB (aY 4 (xw (ah 1)))
 (dz 5 (aO 1 (dg (ah 4)) (gN 8) (cm) (ar ci (ar bA (ah 8) (ah 3)) (ah 1))))) (skip))
 (aB (dI (cC (aW (ab (ah 1) (ag)))) (gN 6) (aB (aY 7 (ar ci (ar bA (ah 6) (az (.int 1))) (ah 1)))
 (fY (bF (ar iu (ar aM (dm 5) (ah 6)) (ar aM (ah 4) (ah 6)))) (fS (gT 2 (gV (dW 5 (ah 6)) (gV (dW 5 (ah 7)) (kG)))) (pu (df (ab (ar aM (dm 5) (ah 7)) (ab (ar aM (dm 5) (ah 6)) (ag)))))) (skip))))
 (bw (df (ab (aj ii (ab (ah 4) (ag))) (ab (aj ii (ab (dm 5) (ag))) (ag))))))))))
def fu:List D->List D->Option (D×List D):=uQ .s 8 nG
theorem n9(B:Bt mg)(F:Df K mg "_law_square" cu ["_law_bag_here","_law_n"])(ca:Cl P w K mg base 1 "_law_take" ["_law_bag_here","_law_many"] (ub K .s 1 cr))(ga:Cl P w K mg base 2 "_law_order" ["_law_bag_here","_law_n"] (ub K .n 1 gj)):Cl P w K mg base 3 "_law_square" ["_law_bag_here","_law_n"] (ub K .s 1 fu):=by
 refine rN (k:=2) F sc_law_square (by decide) rfl λ_ cdv A outer s H hid a E hr=>?_
 exact(al (kR 2 sc_law_square.nd (lm 0 ca (hr.mono (by decide)) (DA.gf (ai ak au))))
  (al (kR 3 sc_law_square.nd (vL (DP.ef ak) (lm 0 ca (hr.mono (by decide)) (DA.gf (ai (AE (af 1) ak) au)))))
  (al (kR 4 sc_law_square.nd (DE.toS (lm 0 ga (hr.mono (by decide)) (DA.gf (ai (af 1) au)))))
  (al (yN 5 sc_law_square.nd (lm 0 ga (hr.mono (by decide)) (DA.gf (ai (af 1) au))))
  (al (fV (bZ (hB hr.units) ji (af 2) ak (bN _)) (al (aZ 4 sc_law_square.nd (DP.toS (iQ rfl B.b_list B.b_range (af 1))))
  (aD (yR 5 (N':=["_law_bag_here","_law_n","_law_plain","_law_by","_law_rings","_law_crosses","_law_c","_law_d","_law_row"]) rfl sc_law_square.nd (bi (Nat.le_of_ble_eq_true rfl)) (DIp.b (dh (af 4))) (λ_ _ _ _=>(aw 8 Dl)) (λ_ _ _ _=>cf) (λ_ _ _ _=>(gw (dP (af 8) (af 3)) (af 1)))))) cI)
  (al (eM PassesOwn.never rfl (DIp.e (aS B.b_range (ai (af 1) au))) (aw 6 sc_law_square.nd) (al (aZ 7 sc_law_square.nd (gw (dP (af 6) ak) (af 1)))
  (aD (fV (bZ (hB hr.units) ji (aN aA aL (dJ 5) (af 6) (λ_ _=>rfl)) (aN aA aL (af 4) (af 6) (λ_ _=>rfl)) (bN _)) (aD (nM (DP.ef (gy (ai (aN aA aL (dJ 5) (af 7) (λ_ _=>rfl)) (ai (aN aA aL (dJ 5) (af 6) (λ_ _=>rfl)) au)))) (xM (n:=2) rfl (p6 (jn 5 (af 6)) (p6 (jn 5 (af 7)) yy))))) cI))))
  (aD (bo (gy (ai (gF iW pG B.b_tuple (aF (af 4) aX) (hv:=by kernel_rfl)) (ai (gF iW pG B.b_tuple (aF (dJ 5) aX) (hv:=by kernel_rfl)) au)))))))))))
theorem sc_law_ways:FnScope ["_law_square_here","_law_n","_law_upright","_law_level","_law_column","_law_begin","_law_end","_law_row"] ["_law_square_here"] (ao dw):=⟨rfl,rfl,rfl,by decide+kernel,rfl,by decide+kernel,by decide+kernel⟩
def gZ:FS:=
 aB (aY 1 (aj br (ab (ar aM (ah 0) (az (.int 0))) (ag))))
 (aB (xf 2)
 (aB (xf 3)
 (aB (dI (cC (aW (ab (ah 1) (ag)))) (gN 4) (aB (aY 5 (ar aM (ar aM (ah 0) (az (.int 1))) (ah 4)))
 (aB (aY 6 (ar aM (ar aM (ah 0) (az (.int 0))) (ah 4)))
 (dI (cC (hZ (ab (ar bA (aj eU (ab (ah 5) (ab (ah 6) (ag)))) (az (.int 1))) (ab (aj hX (ab (ah 5) (ab (ah 6) (ag)))) (ag))))) (gN 7) (jp 2 (ab (ah 4) (ab (ah 7) (ag))) (ar aM (cq (ab (i4 (az (.int 1))) (ab (az (.int 1)) (ag)))) (aj mq (ab (ar CH (ah 6) (ah 5)) (ag)))))))))
 (aB (dI (cC (aW (ab (ah 1) (ag)))) (gN 7) (aB (aY 5 (ar aM (aO 1 (aW (ab (ah 1) (ag))) (gN 8) (bF (ar iu (ar aM (ar aM (ah 0) (az (.int 0))) (ah 8)) (ah 7))) (ah 8)) (az (.int 0))))
 (aB (aY 6 (ar aM (aO 1 (aW (ab (ah 1) (ag))) (gN 8) (bF (ar iu (ar aM (ar aM (ah 0) (az (.int 1))) (ah 8)) (ah 7))) (ah 8)) (az (.int 0))))
 (dI (cC (hZ (ab (ar bA (aj eU (ab (ah 5) (ab (ah 6) (ag)))) (az (.int 1))) (ab (aj hX (ab (ah 5) (ab (ah 6) (ag)))) (ag))))) (gN 4) (jp 3 (ab (ah 4) (ab (ah 7) (ag))) (ar aM (cq (ab (i4 (az (.int 1))) (ab (az (.int 1)) (ag)))) (aj mq (ab (ar CH (ah 6) (ah 5)) (ag)))))))))
 (skip)))))
def eC:List D->Option (oY×oY):=xq 8 2 3 gZ
theorem rP(B:Bt mg)(F:Df K mg "_law_ways" dw ["_law_square_here"]):Cl P w K mg base 1 "_law_ways" ["_law_square_here"] (wx K 1 eC):=by
 refine zX (k:=0) F sc_law_ways rfl λ_ cdv A outer s H hid E hr=>?_
 exact(jl (k:=.s) (aZ 1 sc_law_ways.nd (aK aR cU B.b_len (aF (aN aA aL (af 0) ak (λ_ _=>rfl)) aX) (hv:=by kernel_rfl)))
  (jl (k:=.s) (pF 2 sc_law_ways.nd)
  (jl (k:=.s) (pF 3 sc_law_ways.nd)
  (jl (k:=.s) (eM PassesOwn.never rfl (DIp.e (aS B.b_range (ai (af 1) au))) (aw 4 sc_law_ways.nd) (al (aZ 5 sc_law_ways.nd (aN aA aL (aN aA aL (af 0) ak (λ_ _=>rfl)) (af 4) (λ_ _=>rfl)))
  (al (aZ 6 sc_law_ways.nd (aN aA aL (aN aA aL (af 0) ak (λ_ _=>rfl)) (af 4) (λ_ _=>rfl)))
  (aD (eM PassesOwn.never rfl (DIp.e (gX B.b_range (ai (dP (aK (gC rfl) jx B.b_min (aF (af 5) (aF (af 6) aX)) (hv:=by kernel_rfl)) ak) (ai (aK (iz rfl) kJ B.b_max (aF (af 5) (aF (af 6) aX)) (hv:=by kernel_rfl)) au)))) (aw 7 sc_law_ways.nd) (aD (oZ 2 (ka hr) (ai (af 4) (ai (af 7) au)) (aN aA aL (dL (ai (iL ak) (ai ak au))) (gF jD qz B.b_int (aF (jR zt kc (af 6) (af 5) (bN _)) aX) (hv:=by kernel_rfl)) (λ_ _=>rfl)))))))))
  (jl (k:=.s) (eM PassesOwn.never rfl (DIp.e (aS B.b_range (ai (af 1) au))) (aw 7 sc_law_ways.nd) (al (aZ 5 sc_law_ways.nd (aN aA aL (bS (N':=["_law_square_here","_law_n","_law_upright","_law_level","?_law_column","_law_begin","_law_end","_law_row","_law_column"]) rfl (bi (Nat.le_of_ble_eq_true rfl)) (DIp.b (aS B.b_range (ai (af 1) au))) (λ_ _ _ _=>(aw 8 BB)) (λ_ _ _ _=>(fA (bZ (hB hr.units) ji (aN aA aL (aN aA aL (af 0) ak (λ_ _=>rfl)) (af 8) (λ_ _=>rfl)) (af 7) (bN _)))) (λ_ _ _ _=>(af 8))) ak (λ_ _=>rfl)))
  (al (aZ 6 sc_law_ways.nd (aN aA aL (bS (N':=["_law_square_here","_law_n","_law_upright","_law_level","?_law_column","_law_begin","_law_end","_law_row","_law_column"]) rfl (bi (Nat.le_of_ble_eq_true rfl)) (DIp.b (aS B.b_range (ai (af 1) au))) (λ_ _ _ _=>(aw 8 BB)) (λ_ _ _ _=>(fA (bZ (hB hr.units) ji (aN aA aL (aN aA aL (af 0) ak (λ_ _=>rfl)) (af 8) (λ_ _=>rfl)) (af 7) (bN _)))) (λ_ _ _ _=>(af 8))) ak (λ_ _=>rfl)))
  (aD (eM PassesOwn.never rfl (DIp.e (gX B.b_range (ai (dP (aK (gC rfl) jx B.b_min (aF (af 5) (aF (af 6) aX)) (hv:=by kernel_rfl)) ak) (ai (aK (iz rfl) kJ B.b_max (aF (af 5) (aF (af 6) aX)) (hv:=by kernel_rfl)) au)))) (aw 4 sc_law_ways.nd) (aD (oZ 3 (ka hr) (ai (af 4) (ai (af 7) au)) (aN aA aL (dL (ai (iL ak) (ai ak au))) (gF jD qz B.b_int (aF (jR zt kc (af 6) (af 5) (bN _)) aX) (hv:=by kernel_rfl)) (λ_ _=>rfl)))))))))
  (zE 2 3 (by decide)))))))
theorem sc_law_crossings:FnScope ["_law_square_here","_law_upright","_law_level","_law_found","_law_place"] ["_law_square_here"] (ao bv):=⟨rfl,rfl,rfl,by decide+kernel,rfl,by decide+kernel,by decide+kernel⟩
def eX:FS:=
 aB (pC 1 2 1 eC (ab (ah 0) (ag)))
 (aB (dz 3 (cq (ag)))
 (aB (dI (cC (dg (sA 1))) (gN 4) (fY (wc 2 (ah 4)) (bT (aU 3 1 fL (cC (ab (df (ab (ar aM (ah 4) (az (.int 0))) (ab (ar aM (ah 4) (az (.int 1))) (ab (ar aM (cq (ab (i4 (az (.int 1))) (ab (az (.int 1)) (ag)))) (aj mq (ab (ar kA (jV 1 (ah 4)) (jV 2 (ah 4))) (ag)))) (ag))))) (ag))))) (skip)))
 (mj 3)))
def bP:List D->Option D:=iN .n 5 eX
theorem km(B:Bt mg)(F:Df K mg "_law_crossings" bv ["_law_square_here"])(i6:Cl P w K mg base 1 "_law_ways" ["_law_square_here"] (wx K 1 eC)):Cl P w K mg base 2 "_law_crossings" ["_law_square_here"] (fm K .n 1 bP):=by
 refine bD (k:=1) F sc_law_crossings (by decide) rfl λ_ cdv A outer s H hid E hr=>?_
 exact(al (AF 1 2 (by decide) rfl sc_law_crossings.nd i6 (hr.mono (by decide)) (ai (af 0) au))
  (al (fC 3 sc_law_crossings.nd (dL au))
  (al (eM PassesOwn.never rfl (DIp.e (dh (DP.toS (vt 1 rfl B.b_sorted)))) (aw 4 sc_law_crossings.nd) (aD (fV (xD 2 (ka hr) (af 4)) (aD (fx (gg 3 eE cg PySem.F.slot_list_append PySem.F.type_list_append (DA.gf (ai (gy (ai (aN aA aL (af 4) ak (λ_ _=>rfl)) (ai (aN aA aL (af 4) ak (λ_ _=>rfl)) (ai (aN aA aL (dL (ai (iL ak) (ai ak au))) (gF jD qz B.b_int (aF (jR (jd hr.units) lX (sq 1 (ka hr) (af 4) (λ_ _=>rfl)) (sq 2 (ka hr) (af 4) (λ_ _=>rfl)) (bN _)) aX) (hv:=by kernel_rfl)) (λ_ _=>rfl)) au)))) au eQ))))) cI)))
  (aD (jq 3)))))
theorem sc_law_line:FnScope ["_law_square_here","_law_begin","_law_found","_law_column","_law_row"] ["_law_square_here","_law_begin"] (ao du):=⟨rfl,rfl,rfl,by decide+kernel,rfl,by decide+kernel,by decide+kernel⟩
def i5:FS:=
 aB (dz 2 (cq (ag)))
 (aB (aY 3 (ah 1))
 (aB (kP (bF (ar (ki true) (ah 3) (dm 2))) (aB (bT (aU 2 1 fL (cC (ab (ah 3) (ag)))))
 (aB (aY 4 (ar aM (aO 1 (aW (ab (aj br (ab (ar aM (ah 0) (az (.int 0))) (ag))) (ag))) (gN 5) (bF (ar iu (ar aM (ar aM (ah 0) (az (.int 0))) (ah 3)) (ah 5))) (ah 5)) (az (.int 0))))
 (aY 3 (ar aM (aO 1 (aW (ab (aj br (ab (ar aM (ah 0) (az (.int 0))) (ag))) (ag))) (gN 5) (bF (ar iu (ar aM (ar aM (ah 0) (az (.int 1))) (ah 5)) (ah 4))) (ah 5)) (az (.int 0)))))) 64)
 (mj 2)))
def eO:List D->Option D:=iN .n 5 i5
theorem qG(B:Bt mg)(F:Df K mg "_law_line" du ["_law_square_here","_law_begin"]):Cl P w K mg base 1 "_law_line" ["_law_square_here","_law_begin"] (fm K .n 2 eO):=by
 refine bD (k:=0) F sc_law_line (by decide) rfl λ_ cdv A outer s H hid E hr=>?_
 exact(al (fC 2 sc_law_line.nd (dL au))
  (al (aZ 3 sc_law_line.nd (af 1))
  (al (mk 64 PassesOwn.never (bZ (uA hr.units) (ql true) (af 3) (dJ 2) (by with_unfolding_all rfl)) (al (fx (gg 2 eE cg PySem.F.slot_list_append PySem.F.type_list_append (DA.gf (ai (af 3) au))))
  (al (aZ 4 sc_law_line.nd (aN aA aL (bS (N':=["_law_square_here","_law_begin","_law_found","_law_column","?_law_row","_law_row"]) rfl (bi (Nat.le_of_ble_eq_true rfl)) (DIp.b (aS B.b_range (ai (aK aR cU B.b_len (aF (aN aA aL (af 0) ak (λ_ _=>rfl)) aX) (hv:=by kernel_rfl)) au))) (λ_ _ _ _=>(aw 5 CU)) (λ_ _ _ _=>(fA (bZ (hB hr.units) ji (aN aA aL (aN aA aL (af 0) ak (λ_ _=>rfl)) (af 3) (λ_ _=>rfl)) (af 5) (bN _)))) (λ_ _ _ _=>(af 5))) ak (λ_ _=>rfl)))
  (aD (aZ 3 sc_law_line.nd (aN aA aL (bS (N':=["_law_square_here","_law_begin","_law_found","_law_column","_law_row","_law_other"]) rfl (bi (Nat.le_of_ble_eq_true rfl)) (DIp.b (aS B.b_range (ai (aK aR cU B.b_len (aF (aN aA aL (af 0) ak (λ_ _=>rfl)) aX) (hv:=by kernel_rfl)) au))) (λ_ _ _ _=>(aw 5 Br)) (λ_ _ _ _=>(fA (bZ (hB hr.units) ji (aN aA aL (aN aA aL (af 0) ak (λ_ _=>rfl)) (af 5) (λ_ _=>rfl)) (af 4) (bN _)))) (λ_ _ _ _=>(af 5))) ak (λ_ _=>rfl)))))))
  (aD (jq 2)))))
theorem sc_law_lines:FnScope ["_law_square_here","_law_found","_law_column"] ["_law_square_here"] (ao cO):=⟨rfl,rfl,rfl,by decide+kernel,rfl,by decide+kernel,by decide+kernel⟩
def ib:FS:=
 aB (dz 1 (cq (ag)))
 (aB (dI (cC (aW (ab (aj br (ab (ar aM (ah 0) (az (.int 0))) (ag))) (ag)))) (gN 2) (fY (gp (gD (aj mw (ab (aO 1 (j3 (dm 1)) (gN 3) (cm) (ar (ki false) (ah 2) (ah 3))) (ag))))) (bT (aU 1 1 fL (cC (ab (aj (nF 2 eO) (ab (ah 0) (ab (ah 2) (ag)))) (ag))))) (skip)))
 (mj 1))
def cY:List D->Option D:=iN .n 3 ib
theorem qg(B:Bt mg)(F:Df K mg "_law_lines" cO ["_law_square_here"])(iZ:Cl P w K mg base 1 "_law_line" ["_law_square_here","_law_begin"] (fm K .n 2 eO)):Cl P w K mg base 2 "_law_lines" ["_law_square_here"] (fm K .n 1 cY):=by
 refine bD (k:=1) F sc_law_lines (by decide) rfl λ_ cdv A outer s H hid E hr=>?_
 exact(al (fC 1 sc_law_lines.nd (dL au))
  (al (eM PassesOwn.never rfl (DIp.e (aS B.b_range (ai (aK aR cU B.b_len (aF (aN aA aL (af 0) ak (λ_ _=>rfl)) aX) (hv:=by kernel_rfl)) au))) (aw 2 sc_law_lines.nd) (aD (fV (jI (iy (aK (oW rfl) wa B.b_any (aF (bS (N':=["_law_square_here","_law_found","_law_column","_law_line_here"]) rfl (bi (Nat.le_of_ble_eq_true rfl)) (vP (dJ 1)) (λ_ _ _ _=>(aw 3 Cp)) (λ_ _ _ _=>cf) (λ_ _ _ _=>(jR (oI hr.units) (ql false) (af 2) (af 3) (by with_unfolding_all rfl)))) aX) (hv:=by kernel_rfl)))) (aD (fx (gg 1 eE cg PySem.F.slot_list_append PySem.F.type_list_append (DA.gf (ai (DP.toS (cj iZ (hr.mono (by decide)) (ai (af 0) (ai (af 2) au)))) au))))) cI)))
  (aD (jq 1))))
theorem sc_law_sums:FnScope ["_law_square_here","_law_lines_here","_law_found","_law_column","_law_row","_law_sign","_law_beneath","_law_over","_law_under"] ["_law_square_here"] (ao dA):=⟨rfl,rfl,rfl,by decide+kernel,rfl,by decide+kernel,by decide+kernel⟩
def lT:FS:=
 aB (aY 1 (aj (nF 1 cY) (ab (ah 0) (ag))))
 (aB (vR 2 1 (dg (ah 1)) (gN 9) (cm) (aO 1 (dg (ah 1)) (gN 10) (cm) (az (.int 0))))
 (aB (dI (cC (dg (aj (nF 1 bP) (ab (ah 0) (ag))))) (gT 3 (gV (gN 3) (gV (gN 4) (gV (gN 5) (kG))))) (aB (aY 6 (ar aM (aO 1 (aW (ab (aj br (ab (ar aM (ah 0) (az (.int 0))) (ag))) (ag))) (gN 9) (bF (ar iu (ar aM (ar aM (ah 0) (az (.int 0))) (ah 9)) (ah 4))) (ah 9)) (az (.int 0))))
 (aB (aY 7 (ar aM (aO 1 (aW (ab (aj br (ab (ah 1) (ag))) (ag))) (gN 9) (bF (ar (ki false) (ah 3) (ar aM (ah 1) (ah 9)))) (ah 9)) (az (.int 0))))
 (aB (aY 8 (ar aM (aO 1 (aW (ab (aj br (ab (ah 1) (ag))) (ag))) (gN 9) (bF (ar (ki false) (ah 6) (ar aM (ah 1) (ah 9)))) (ah 9)) (az (.int 0))))
 (nz 2 (ah 7) (ah 8) (ar bA (uE 2 (ah 7) (ah 8)) (ah 5)))))))
 (qr 2 (bw (ah 2)))))
def fF:List D->Option D:=iN .s 9 lT
theorem qI(B:Bt mg)(F:Df K mg "_law_sums" dA ["_law_square_here"])(ig:Cl P w K mg base 2 "_law_lines" ["_law_square_here"] (fm K .n 1 cY))(eW:Cl P w K mg base 2 "_law_crossings" ["_law_square_here"] (fm K .n 1 bP)):Cl P w K mg base 3 "_law_sums" ["_law_square_here"] (fm K .s 1 fF):=by
 refine bD (k:=2) F sc_law_sums (by decide) rfl λ_ cdv A outer s H hid E hr=>?_
 exact(al (aZ 1 sc_law_sums.nd (DP.toS (cj ig (hr.mono (by decide)) (ai (af 0) au))))
  (al (ux 2 (N':=["_law_square_here","_law_lines_here","_law_found","_law_column","_law_row","_law_sign","_law_beneath","_law_over","_law_under","_law_other"]) sc_law_sums.nd rfl (bi (Nat.le_of_ble_eq_true rfl)) (DIp.b (dh (af 1))) (λ_ _ _ _=>(aw 9 zk)) (λ_ _ _ _=>cf) (λ_ _ _ _=>(bS (N':=["_law_square_here","_law_lines_here","_law_found","_law_column","_law_row","_law_sign","_law_beneath","_law_over","_law_under","_law_other","_law_line_here"]) rfl (bi (Nat.le_of_ble_eq_true rfl)) (DIp.b (dh (af 1))) (λ_ _ _ _=>(aw 10 Bj)) (λ_ _ _ _=>cf) (λ_ _ _ _=>ak))))
  (al (eM PassesOwn.never rfl (DIp.e (dh (DP.toS (cj eW (hr.mono (by decide)) (ai (af 0) au))))) (fZ (n:=3) rfl (bm (aw 3 sc_law_sums.nd) (bm (aw 4 sc_law_sums.nd) (bm (aw 5 sc_law_sums.nd) fT)))) (al (aZ 6 sc_law_sums.nd (aN aA aL (bS (N':=["_law_square_here","_law_lines_here","_law_found","_law_column","_law_row","_law_sign","_law_beneath","_law_over","_law_under","_law_other"]) rfl (bi (Nat.le_of_ble_eq_true rfl)) (DIp.b (aS B.b_range (ai (aK aR cU B.b_len (aF (aN aA aL (af 0) ak (λ_ _=>rfl)) aX) (hv:=by kernel_rfl)) au))) (λ_ _ _ _=>(aw 9 zk)) (λ_ _ _ _=>(fA (bZ (hB hr.units) ji (aN aA aL (aN aA aL (af 0) ak (λ_ _=>rfl)) (af 9) (λ_ _=>rfl)) (af 4) (bN _)))) (λ_ _ _ _=>(af 9))) ak (λ_ _=>rfl)))
  (al (aZ 7 sc_law_sums.nd (aN aA aL (bS (N':=["_law_square_here","_law_lines_here","_law_found","_law_column","_law_row","_law_sign","_law_beneath","_law_over","_law_under","_law_k"]) rfl (bi (Nat.le_of_ble_eq_true rfl)) (DIp.b (aS B.b_range (ai (aK aR cU B.b_len (aF (af 1) aX) (hv:=by kernel_rfl)) au))) (λ_ _ _ _=>(aw 9 zm)) (λ_ _ _ _=>(fA (bZ (oI hr.units) (ql false) (af 3) (aN aA aL (af 1) (af 9) (λ_ _=>rfl)) (by with_unfolding_all rfl)))) (λ_ _ _ _=>(af 9))) ak (λ_ _=>rfl)))
  (al (aZ 8 sc_law_sums.nd (aN aA aL (bS (N':=["_law_square_here","_law_lines_here","_law_found","_law_column","_law_row","_law_sign","_law_beneath","_law_over","_law_under","_law_k"]) rfl (bi (Nat.le_of_ble_eq_true rfl)) (DIp.b (aS B.b_range (ai (aK aR cU B.b_len (aF (af 1) aX) (hv:=by kernel_rfl)) au))) (λ_ _ _ _=>(aw 9 zm)) (λ_ _ _ _=>(fA (bZ (oI hr.units) (ql false) (af 6) (aN aA aL (af 1) (af 9) (λ_ _=>rfl)) (by with_unfolding_all rfl)))) (λ_ _ _ _=>(af 9))) ak (λ_ _=>rfl)))
  (aD (yh 2 (ka hr) (af 7) (af 8) (dP (A3 2 (af 7) (af 8)) (af 5))))))))
  (aD (yI 2 (bo (af 2)))))))
theorem sc_law_good:FnScope ["_law_square_here","_law_sums_here","_law_many","_law_twists","_law_due","_law_k","_law_other","_law_ties"] ["_law_square_here"] (ao dv):=⟨rfl,rfl,rfl,by decide+kernel,rfl,by decide+kernel,by decide+kernel⟩
def lH:FS:=
 aB (aY 1 (aj (nF 1 fF) (ab (ah 0) (ag))))
 (aB (aY 2 (aj br (ab (ah 1) (ag))))
 (aB (aY 3 (aj (nF 1 bV) (ab (ah 0) (ag))))
 (aB (fY (xy (gp (gD (iO "list" (ah 3)))) (bF (ar kA (ah 3) (aO 1 (aW (ab (ah 2) (ag))) (gN 8) (cm) (ar aM (ar aM (ah 1) (ah 8)) (ah 8)))))) (bw (az (.bl false))) (skip))
 (aB (dz 4 (cq (ag)))
 (aB (dI (cC (aW (ab (ah 2) (ag)))) (gN 5) (dI (cC (hZ (ab (ar bA (ah 5) (az (.int 1))) (ab (ah 2) (ag))))) (gN 6) (aB (fY (bF (ar kA (ar aM (ar aM (ah 1) (ah 5)) (ah 6)) (ar aM (ar aM (ah 1) (ah 6)) (ah 5)))) (bw (az (.bl false))) (skip))
 (bT (aU 4 1 fL (cC (ab (df (ab (ah 5) (ab (ah 6) (ab (ar aM (ar aM (ah 1) (ah 5)) (ah 6)) (ag))))) (ag))))))))
 (aB (aY 7 (aj (nF 1 de) (ab (ah 0) (ag))))
 (aB (fY (xy (gp (gD (iO "list" (ah 7)))) (xy (bF (ar kA (ah 7) (dm 4))) (gD (aj mw (ab (aO 1 (dg (ah 3)) (gN 8) (cm) (iO "bool" (ah 8))) (ag)))))) (bw (az (.bl false))) (skip))
 (bw (aj xp (ab (aO 1 (dg (ah 7)) (gN 8) (cm) (xv (vW (bF (iO "tuple" (ah 8))) (bF (xv (gp (bF (iO "bool" (ar aM (ah 8) (az (.int 2))))))))))) (ag)))))))))))
def dc:List D->Option D:=iN .s 8 lH
theorem rC(B:Bt mg)(F:Df K mg "_law_good" dv ["_law_square_here"])(jc:Cl P w K mg base 3 "_law_sums" ["_law_square_here"] (fm K .s 1 fF))(dD:Cl P w K mg base 5 "twists_of" ["square"] (fm K .n 1 bV))(fD:Cl P w K mg base 5 "ties_of" ["square"] (fm K .n 1 de)):Cl P w K mg base 6 "_law_good" ["_law_square_here"] (fm K .s 1 dc):=by
 refine bD (k:=5) F sc_law_good (by decide) rfl λ_ cdv A outer s H hid E hr=>?_
 exact(al (aZ 1 sc_law_good.nd (cj jc (hr.mono (by decide)) (ai (af 0) au)))
  (al (aZ 2 sc_law_good.nd (aK aR cU B.b_len (aF (af 1) aX) (hv:=by kernel_rfl)))
  (al (aZ 3 sc_law_good.nd (DP.toS (cj dD (hr.mono (by decide)) (ai (af 0) au))))
  (al (fV (DW.dt (vZ (jI (iy (me "list" tF (af 3) B.b_isinstance B.b_list))) (vS (bZ (jd hr.units) lX (af 3) (bS (N':=["_law_square_here","_law_sums_here","_law_many","_law_twists","_law_due","?_law_k","_law_other","_law_ties","_law_k"]) rfl (bi (Nat.le_of_ble_eq_true rfl)) (DIp.b (aS B.b_range (ai (af 2) au))) (λ_ _ _ _=>(aw 8 Cs)) (λ_ _ _ _=>cf) (λ_ _ _ _=>(aN aA aL (aN aA aL (af 1) (af 8) (λ_ _=>rfl)) (af 8) (λ_ _=>rfl)))) (bN _))))) (aD (bo nA)) cI)
  (al (fC 4 sc_law_good.nd (dL au))
  (al (eM PassesOwn.never rfl (DIp.e (aS B.b_range (ai (af 2) au))) (aw 5 sc_law_good.nd) (aD (eM PassesOwn.never rfl (DIp.e (gX B.b_range (ai (dP (af 5) ak) (ai (af 2) au)))) (aw 6 sc_law_good.nd) (al (fV (bZ (jd hr.units) lX (aN aA aL (aN aA aL (af 1) (af 5) (λ_ _=>rfl)) (af 6) (λ_ _=>rfl)) (aN aA aL (aN aA aL (af 1) (af 6) (λ_ _=>rfl)) (af 5) (λ_ _=>rfl)) (bN _)) (aD (bo nA)) cI)
  (aD (fx (gg 4 eE cg PySem.F.slot_list_append PySem.F.type_list_append (DA.gf (ai (gy (ai (af 5) (ai (af 6) (ai (aN aA aL (aN aA aL (af 1) (af 5) (λ_ _=>rfl)) (af 6) (λ_ _=>rfl)) au)))) au eQ)))))))))
  (al (aZ 7 sc_law_good.nd (DP.toS (cj fD (hr.mono (by decide)) (ai (af 0) au))))
  (al (fV (DW.dt (vZ (jI (iy (me "list" tF (af 7) B.b_isinstance B.b_list))) (vZ (bZ (jd hr.units) lX (af 7) (dJ 4) (bN _)) (vS (iy (aK (oW rfl) wa B.b_any (aF (bS (N':=["_law_square_here","_law_sums_here","_law_many","_law_twists","_law_due","_law_k","_law_other","_law_ties","_law_twist"]) rfl (bi (Nat.le_of_ble_eq_true rfl)) (DIp.b (dh (af 3))) (λ_ _ _ _=>(aw 8 BY)) (λ_ _ _ _=>cf) (λ_ _ _ _=>(me "bool" tm (af 8) B.b_isinstance B.b_bool))) aX) (hv:=by kernel_rfl))))))) (aD (bo nA)) cI)
  (aD (bo (aK (pd rfl) wz B.b_all (aF (bS (N':=["_law_square_here","_law_sums_here","_law_many","_law_twists","_law_due","_law_k","_law_other","_law_ties","_law_tie"]) rfl (bi (Nat.le_of_ble_eq_true rfl)) (DIp.b (dh (af 7))) (λ_ _ _ _=>(aw 8 BR)) (λ_ _ _ _=>cf) (λ_ _ _ _=>(AT (me "tuple" vC (af 8) B.b_isinstance B.b_tuple) (zR (Ad (me "bool" tm (aN aA aL (af 8) ak (λ_ _=>rfl)) B.b_isinstance B.b_bool)))))) aX) (hv:=by kernel_rfl))))))))))))
theorem sc_law:FnScope ["_law_script","_law_k","_law_bag_here","_law_square_here","_law_some"] ["_law_script"] (ao iP):=⟨rfl,rfl,rfl,by decide+kernel,rfl,by decide+kernel,by decide+kernel⟩
def vn:FS:=
 aB (dI (cC (aW (ab (aj hX (ab (az (.int 1)) (ab (aj eU (ab (az (.int 8)) (ab (aj br (ab (ah 0) (ag))) (ag)))) (ag)))) (ag)))) (gN 1) (aB (dz 2 (aj (nF 2 iG) (ab (ah 0) (ab (ah 1) (ag)))))
 (aB (i9 3 (aU 2 1 fu (fU (lb bA (pu (az (.int 2))) (aU 2 1 cr (cC (ab (az (.int 5)) (ag))))) (cC (ag)))))
 (aB (fY (gp (gD (aj (nF 1 dc) (ab (ah 3) (ag))))) (bw (az (.bl false))) (skip))
 (aB (bT (pu (jt (aj (nF 1 bV) (ab (ah 3) (ag))) (az (.int 0)))))
 (aB (bT (pu (jt (aj (nF 1 de) (ab (ah 3) (ag))) (df (ab (az (.int 0)) (ab (az (.int 1)) (ab (az (.int 0)) (ag))))))))
 (fY (gp (gD (aj (nF 1 dc) (ab (ah 3) (ag))))) (bw (az (.bl false))) (skip))))))))
 (aB (aY 4 (cq (ab (df (ab (df (ab (az (.int 0)) (ab (az (.int 1)) (ab (az (.int 2)) (ab (az (.int 3)) (ag)))))) (ab (df (ab (az (.int 2)) (ab (az (.int 3)) (ab (az (.int 0)) (ab (az (.int 1)) (ag)))))) (ag)))) (ab (df (ab (df (ab (az (.int 0)) (ab (az (.int 1)) (ab (az (.int 2)) (ab (az (.int 3)) (ab (az (.int 4)) (ab (az (.int 5)) (ag)))))))) (ab (df (ab (az (.int 3)) (ab (az (.int 4)) (ab (az (.int 5)) (ab (az (.int 0)) (ab (az (.int 1)) (ab (az (.int 2)) (ag)))))))) (ag)))) (ab (df (ab (df (ab (az (.int 0)) (ab (az (.int 1)) (ab (az (.int 2)) (ab (az (.int 3)) (ab (az (.int 4)) (ag))))))) (ab (df (ab (az (.int 2)) (ab (az (.int 3)) (ab (az (.int 4)) (ab (az (.int 0)) (ab (az (.int 1)) (ag))))))) (ag)))) (ag))))))
 (bw (aj xp (ab (aO 1 (dg (ah 4)) (gN 5) (cm) (aj (nF 1 dc) (ab (ah 5) (ag)))) (ag)))))
def zp:List D->Option D:=iN .s 5 vn
theorem An {f:Addr}{fd:FuncData}(B:Bt mg)(F:Fun K "law" "law" iP f fd)(j1:Cl P w K mg base 2 "_law_bag" ["_law_script","_law_at"] (fm K .n 2 iG))(hV:Cl P w K mg base 3 "_law_square" ["_law_bag_here","_law_n"] (ub K .s 1 fu))(fI:Cl P w K mg base 6 "_law_good" ["_law_square_here"] (fm K .s 1 dc))(ca:Cl P w K mg base 1 "_law_take" ["_law_bag_here","_law_many"] (ub K .s 1 cr))(dD:Cl P w K mg base 5 "twists_of" ["square"] (fm K .n 1 bV))(fD:Cl P w K mg base 5 "ties_of" ["square"] (fm K .n 1 de)):FnOk P w K mg base oB 7 f fd ["_law_script"] (fm K .s 1 zp):=by
 refine tR (k:=6) F sc_law (by decide) λcdv A outer s H hid E hr=>?_
 exact(QSs.to (lG (QS.of (eM PassesOwn.never rfl (DIp.e (aS B.b_range (ai (aK (iz rfl) kJ B.b_max (aF ak (aF (aK (gC rfl) jx B.b_min (aF ak (aF (aK aR cU B.b_len (aF (af 0) aX) (hv:=by kernel_rfl)) aX)) (hv:=by kernel_rfl)) aX)) (hv:=by kernel_rfl)) au))) (aw 1 sc_law.nd) (al (fC 2 sc_law.nd (cj j1 (hr.mono (by decide)) (ai (af 0) (ai (af 1) au))))
  (al (kR 3 sc_law.nd (lm 2 hV (hr.mono (by decide)) (oJ (vL (DP.ef ak) (lm 2 ca (hr.mono (by decide)) (DA.gf (ai ak au)))) (DA.gf au))))
  (al (fV (jI (iy (cj fI (hr.mono (by decide)) (ai (af 3) au)))) (aD (bo nA)) cI)
  (al (fx (DP.ef (tQ (cj dD (hr.mono (by decide)) (ai (af 3) au)) ak PySem.F.slot_list_append PySem.F.type_list_append)))
  (al (fx (DP.ef (tQ (cj fD (hr.mono (by decide)) (ai (af 3) au)) (gy (ai ak (ai ak (ai ak au)))) PySem.F.slot_list_append PySem.F.type_list_append)))
  (aD (fV (jI (iy (cj fI (hr.mono (by decide)) (ai (af 3) au)))) (aD (bo nA)) cI)))))))))
  (lG (sD 4 sc_law.nd (zN (aH (fj (aH (fj (aH (QP.of ak) (aH (QP.of ak) (aH (QP.of ak) (aH (QP.of ak) eP))))) (aH (fj (aH (QP.of ak) (aH (QP.of ak) (aH (QP.of ak) (aH (QP.of ak) eP))))) eP eQ) eQ)) (aH (fj (aH (fj (aH (QP.of ak) (aH (QP.of ak) (aH (QP.of ak) (aH (QP.of ak) (aH (QP.of ak) (aH (QP.of ak) eP))))))) (aH (fj (aH (QP.of ak) (aH (QP.of ak) (aH (QP.of ak) (aH (QP.of ak) (aH (QP.of ak) (aH (QP.of ak) eP))))))) eP eQ) eQ)) (aH (fj (aH (fj (aH (QP.of ak) (aH (QP.of ak) (aH (QP.of ak) (aH (QP.of ak) (aH (QP.of ak) eP)))))) (aH (fj (aH (QP.of ak) (aH (QP.of ak) (aH (QP.of ak) (aH (QP.of ak) (aH (QP.of ak) eP)))))) eP eQ) eQ)) eP eQ) eQ) eQ)))
  (tG (QS.of (bo (aK (pd rfl) wz B.b_all (aF (bS (N':=["_law_script","_law_k","_law_bag_here","?_law_square_here","_law_some","_law_square_here"]) rfl (bi (Nat.le_of_ble_eq_true rfl)) (DIp.b (dh (af 4))) (λ_ _ _ _=>(aw 5 B5)) (λ_ _ _ _=>cf) (λ_ _ _ _=>(cj fI (hr.mono (by decide)) (ai (af 5) au)))) aX) (hv:=by kernel_rfl))))))))
end
theorem vN(v:Nat): ∀l:List Nat,v∈l-> ∃j,(l.map nI).findIdx? (λd=>cP d (nI v))=some j/\j<l.length/\l.getD j 0=v
 | [],h=>absurd h List.not_mem_nil
 |y::l,h=>by
  rw[List.map_cons,List.findIdx?_cons,lg]
  by_cases e:y=v
  ·exact⟨0,by simp[e],by simp,by simpa using e⟩
  ·obtain⟨j,h1,h2,h3⟩:=vN v l ((List.mem_cons.mp h).resolve_left (Ne.symm e))
   refine⟨j+1,by simp[e,h1],by simp[h2],by simpa using h3⟩
structure Sg(n:Nat)(r x:List Nat)(S:Nat->Nat):Prop where
 ev: ∀y,y<n->iX (cG x) (nI (r.getD y 0))=some (nI (S y))
 lt: ∀y,y<n->S y<n
 inj: ∀y z,y<n->z<n->S y=S z->y=z
theorem gB {n:Nat}{l:List Nat}(nd:l.Nodup)(h: ∀z∈l,z<n):l.length<=n:=by
 have p:l.Perm ((List.range n).filter λz=>decide (z∈l)):=(List.perm_ext_iff_of_nodup nd (List.Pairwise.filter _ List.nodup_range)).mpr λz=>by
  rw[List.mem_filter,List.mem_range,decide_eq_true_eq];exact⟨λq=>⟨h z q,q⟩,λq=>q.2⟩
 rw[p.length_eq];exact Nat.le_trans (List.length_filter_le _ _) (by simp)
def qv(S:Nat->Nat):Nat->Nat->Nat
 |0,s=>s
 |k+1,s=>S (qv S k s)
def sL(S:Nat->Nat)(s z:Nat):Prop:= ∃k,qv S k s=z
theorem ik(S:Nat->Nat)(s:Nat):sL S s s:=⟨0,rfl⟩
theorem lQ {S:Nat->Nat}{s z:Nat}(h:sL S s z):sL S s (S z):=let⟨k,e⟩:=h;⟨k+1,by show S (qv S k s)=_;rw[e]⟩
theorem sa(S:Nat->Nat)(s m:Nat): ∀k,qv S k (qv S m s)=qv S (k+m) s
 |0=>by rw[Nat.zero_add];rfl
 |k+1=>by rw[Nat.succ_add];show S _=S _;rw[sa S s m k]
theorem iH {S:Nat->Nat}{a b c:Nat}(h1:sL S a b)(h2:sL S b c):sL S a c:=by
 obtain⟨m,rfl⟩:=h1
 obtain⟨k,rfl⟩:=h2
 exact⟨k+m,(sa S a m k).symm⟩
structure Wlk(n:Nat)(S:Nat->Nat)(s:Nat)(W:List Nat)(t:Nat):Prop where
 nd:W.Nodup
 lt: ∀z∈W,z<n
 hs:s∈W
 ht:t∈W
 pre: ∀z∈W,z≠s-> ∃y∈W,y≠t/\S y=z
 nxt: ∀z∈W,z≠t->S z∈W
 on: ∀z∈W,sL S s z
 back: ∀z∈W,sL S z t
structure Cyc(n:Nat)(S:Nat->Nat)(s:Nat)(W:List Nat):Prop where
 lt: ∀z∈W,z<n
 mem: ∀z,z∈W↔sL S s z
 back: ∀z,z∈W->sL S z s
section
variable {n:Nat}{r x:List Nat}{S:Nat->Nat}(H:Sg n r x S)
theorem Wlk.start {s:Nat}(hs:s<n):Wlk n S s [s] s:=
 ⟨by simp,λz hz=>by rw[List.mem_singleton] at hz;rw[hz];exact hs,by simp,by simp,λz hz hn=>absurd (List.mem_singleton.mp hz) hn,λz hz hn=>absurd (List.mem_singleton.mp hz) hn,λz hz=>by rw[List.mem_singleton] at hz;rw[hz];exact ik S s,λz hz=>by rw[List.mem_singleton] at hz;rw[hz];exact ik S s⟩
include H
theorem Wlk.notin {s t:Nat}{W:List Nat}(w:Wlk n S s W t)(h:S t≠s):S t∉W:=λhm=>by
 obtain⟨y,y1,y2,y3⟩:=w.pre _ hm h
 exact y2 (H.inj _ _ (w.lt _ y1) (w.lt _ w.ht) y3)
theorem Wlk.next {s t:Nat}{W:List Nat}(w:Wlk n S s W t)(h:S t≠s):Wlk n S s (W++[S t]) (S t):=by
 have hm:=w.notin H h
 have cs: ∀ {P:Nat->Prop},(∀z∈W,P z)->P (S t)-> ∀z∈W++[S t],P z:=λh1 h2 z hz=>(List.mem_append.mp hz).elim (h1 z) λq=>by rw[List.mem_singleton] at q;rw[q];exact h2
 refine⟨List.nodup_append.mpr ⟨w.nd,by simp,λu hu v hv=>by rw[List.mem_singleton] at hv;subst hv;exact λe=>hm (e▸hu)⟩,cs w.lt (H.lt _ (w.lt _ w.ht)),List.mem_append_left _ w.hs,by simp,cs (λz hz hn=>?_) (λ_=>⟨t,List.mem_append_left _ w.ht,λe=>hm (e▸w.ht),rfl⟩),cs (λz hz hn=>?_) (λq=>absurd rfl q),cs w.on (lQ (w.on _ w.ht)),cs (λz hz=>lQ (w.back z hz)) (ik S _)⟩
 ·obtain⟨y,y1,_,y3⟩:=w.pre z hz hn
  exact⟨y,List.mem_append_left _ y1,λe=>hm (e▸y1),y3⟩
 ·by_cases e:z=t
  ·subst e;simp
  ·exact List.mem_append_left _ (w.nxt z hz e)
omit H in
theorem Wlk.done {s t:Nat}{W:List Nat}(w:Wlk n S s W t)(h:S t=s):Cyc n S s W:=by
 refine⟨w.lt,λz=>⟨w.on z,?_⟩,λz hz=>h▸lQ (w.back z hz)⟩
 rintro⟨k,rfl⟩
 induction k with
 |zero=>exact w.hs
 |succ k ih=>
  show S (qv S k s)∈W
  by_cases e:qv S k s=t
  ·rw[e,h];exact w.hs
  ·exact w.nxt _ ih e
theorem wr {s:Nat}(hs:s<n): ∃W,Cyc n S s W:=by
 have go: ∀(f:Nat) (W:List Nat) (t:Nat),n<f+W.length->Wlk n S s W t-> ∃W,Cyc n S s W:=by
  intro f
  induction f with
  |zero=>intro W t h w;exact absurd (gB w.nd w.lt) (by omega)
  |succ f ih=>
   intro W t h w
   by_cases e:S t=s
   ·exact⟨W,w.done e⟩
   ·exact ih (W++[S t]) (S t) (by rw[List.length_append,List.length_singleton];omega) (w.next H e)
 exact go (n+1) [s] s (by omega) (Wlk.start hs)
theorem pe {s z:Nat}(hs:s<n)(h:sL S s z):sL S z s:=by
 obtain⟨W,c⟩:=wr H hs
 exact c.back z ((c.mem z).mpr h)
end
def led(S:Nat->Nat)(s:Nat):Prop:= ∀z,sL S s z->s<=z
noncomputable def fq(S:Nat->Nat)(s:Nat):Bool:= @decide (led S s) (Classical.propDecidable _)
theorem ledB_iff {S:Nat->Nat}{s:Nat}:fq S s=true↔led S s:=by unfold fq;exact @decide_eq_true_iff _ (Classical.propDecidable _)
def Ba:FT:=bF (ar kA (ar aM (ah 0) (ar aM (dm 3) (i4 (az (.int 1))))) (ah 2))
def A8:FS:=bT (aU 3 1 fL (cC (ab (ar aM (ah 0) (ar aM (dm 3) (i4 (az (.int 1))))) (ag))))
def CC:FS:=fY (bF (ar iu (aj mW (ab (dm 3) (ag))) (ah 2))) ((λρ=>(bT (aU 1 1 fL (cC (ab (ah 3) (ag))))) (uC 3 ρ))) (skip)
def eZ:FS:=
 aB (dz 1 (cq (ag)))
 (aB (dI (cC (aW (ab (aj br (ab (ah 0) (ag))) (ag)))) (gN 2) (aB (dz 3 (cq (ab (ah 2) (ag))))
 (aB (kP Ba A8 16)
 CC)))
 (mj 1))
def kj:List D->Option D:=iN .n 4 eZ
structure Wl(n:Nat)(S:Nat->Nat)(s:Nat)(W:List Nat)(t:Nat):Prop where
 w:Wlk n S s W t
 last:W.getLast?=some t
 eq:W=(List.range W.length).map λi=>qv S i s
structure Cy(n:Nat)(S:Nat->Nat)(s:Nat)(W:List Nat):Prop where
 c:Cyc n S s W
 eq:W=(List.range W.length).map λi=>qv S i s
 per:qv S W.length s=s
 nd:W.Nodup
 pos:0<W.length
structure Sh(n:Nat)(S:Nat->Nat):Prop where
 lt: ∀y,y<n->S y<n
 inj: ∀y z,y<n->z<n->S y=S z->y=z
theorem Sh.sg {n:Nat}{S:Nat->Nat}(H:Sh n S):Sg n ((List.range n).map S) (List.range n) S:=by
 refine⟨λy hy=>?_,H.lt,H.inj⟩
 have e:((List.range n).map S).getD y 0=S y:=by simp[List.getD,hy]
 rw[e];obtain⟨j,h1,h2,h3⟩:=vN (S y) (List.range n) (List.mem_range.mpr (H.lt y hy))
 have:j=S y:=by
  rw[List.length_range] at h2;simpa [List.getD,h2] using h3
 subst this;show(if cB ((List.range n).map nI)<=32 then(pM ((List.range n).map nI) (nI (S y))).map (λj=>D.int j) else none)=_
 rw[if_pos (by rw[jA];omega)]
 unfold pM;rw[h1];rfl
theorem Wl.start {n:Nat}{S:Nat->Nat}{s:Nat}(hs:s<n):Wl n S s [s] s:=⟨Wlk.start hs,rfl,rfl⟩
theorem Wl.tt {n:Nat}{S:Nat->Nat}{s t:Nat}{W:List Nat}(w:Wl n S s W t):S t=qv S W.length s:=by
 have h:=w.last
 have e:=w.eq
 have hp:0<W.length:=by
  cases W with
  |nil=>cases h
  |cons=>simp
 rw[List.getLast?_eq_getElem?] at h;have e2:W[W.length-1]? =some (qv S (W.length-1) s):=by
  have q: ∀k,k<W.length->((List.range W.length).map λi=>qv S i s)[k]? =some (qv S k s):=λk hk=>by rw[List.getElem?_map,List.getElem?_range hk];rfl
  have q2:=q (W.length-1) (by omega)
  rw[<-e] at q2;exact q2
 have e3:=h.symm.trans e2
 injection e3 with e3
 have:W.length=(W.length-1)+1:=by omega
 rw[this];show S t=S (qv S (W.length-1) s);rw[<-e3]
theorem Wl.next {n:Nat}{S:Nat->Nat}(H:Sh n S){s t:Nat}{W:List Nat}(w:Wl n S s W t)(h:S t≠s):Wl n S s (W++[S t]) (S t):=by
 refine⟨w.w.next H.sg h,by simp,?_⟩
 rw[List.length_append,List.length_singleton,List.range_succ,List.map_append,<-w.eq,w.tt];rfl
theorem Wl.done {n:Nat}{S:Nat->Nat}{s t:Nat}{W:List Nat}(w:Wl n S s W t)(h:S t=s):Cy n S s W:=by
 refine⟨w.w.done h,w.eq,by rw[<-w.tt];exact h,w.w.nd,?_⟩
 have:=w.last
 cases W with
 |nil=>cases this
 |cons=>simp
theorem Cy.uniq {n:Nat}{S:Nat->Nat}{s:Nat}{W W':List Nat}(a:Cy n S s W)(b:Cy n S s W'):W=W':=by
 have key: ∀ {W W':List Nat},Cy n S s W->Cy n S s W'-> ¬W.length<W'.length:=λ{W W'} a b h=>by
  have e0:W'[0]? =some s:=by rw[b.eq];simp[b.pos];rfl
  have e1:W'[W.length]? =some s:=by rw[b.eq];simp[h];exact a.per
  have:=(List.getElem?_inj (by exact b.pos) b.nd).mp (e0.trans e1.symm)
  have:=a.pos
  omega
 have:W.length=W'.length:=by have h1:=key a b;have h2:=key b a;omega
 rw[a.eq,b.eq,this]
section
variable {n:Nat}{S:Nat->Nat}(H:Sh n S)(hn:n<=14)
abbrev xx(n:Nat)(S:Nat->Nat)(F:List D)(s:Nat)(W:List Nat):aG:=[.v (.lst (((List.range n).map S).map nI)),.own F,.v (nI s),.own (W.map nI)]
theorem x6 {W:List Nat}{t:Nat}(h:W.getLast?=some t):aM (.lst (W.map nI)) (.int (-1))=some (nI t):=by
 show kN (W.map nI) (-1)=_;have hp:0<W.length:=by
  cases W with
  |nil=>cases h
  |cons=>simp
 unfold kN mn;rw[if_neg (by omega),if_pos (by rw[List.length_map];omega),Option.bind_some]
 have:(-1+((W.map nI).length:Int)).toNat=W.length-1:=by rw[List.length_map];omega
 rw[this,List.getElem?_map,<-List.getLast?_eq_getElem?,h];rfl
theorem AN(ρ:aG):i4 (az (.int 1)) ρ=some (.int (-1)):=rfl
include H in
theorem wE {F:List D}{s t:Nat}{W:List Nat}(w:Wl n S s W t):ar aM (ah 0) (ar aM (dm 3) (i4 (az (.int 1)))) (xx n S F s W)=some (nI (S t)):=by
 refine(ax (x:=.lst (((List.range n).map S).map nI)) (y:=nI t) rfl ((ax (x:=.lst (W.map nI)) rfl (AN _)).trans (x6 w.last))).trans ?_
 have ht:=w.w.lt _ w.w.ht
 refine(tz (by simp[ht])).trans ?_
 congr 2
 simp[List.getD,ht]
include H hn in
theorem nV(F:List D)(s:Nat): ∀(f:Nat) (W:List Nat) (t:Nat),n<f+W.length->Wl n S s W t->
 ∃L,kP Ba A8 f (xx n S F s W)=.nx (xx n S F s L)/\Cy n S s L
 |0,W,t,h,w=>absurd (gB w.w.nd w.w.lt) (by omega)
 |f+1,W,t,h,w=>by
  unfold kP;have tt:Ba (xx n S F s W)=some (!decide (S t=s)):=by
   unfold Ba;refine dU ((ax (x:=nI (S t)) (y:=nI s) (wE H w) rfl).trans ?_)
   rw[lv (by rw[ge];omega),lg]
  rw[tt]
  by_cases e:S t=s
  ·rw[show(!decide (S t=s))=false by simp[e]]
   exact⟨W,rfl,w.done e⟩
  ·rw[show(!decide (S t=s))=true by simp[e]]
   have ll:=gB w.w.nd w.w.lt
   have b:A8 (xx n S F s W)=.nx (xx n S F s (W++[S t])):=by
    unfold A8;refine(j4 (i:=3) (bs:=W.map nI) (d:=nI (S t)) rfl (bG (aq (wE H w) rfl)) rfl (by rw[List.length_map];omega)).trans ?_
    unfold xx;rw[List.map_append];rfl
   obtain⟨L,h1,h2⟩:=nV F s f (W++[S t]) (S t) (by rw[List.length_append,List.length_singleton];omega) (w.next H e)
   refine⟨L,?_,h2⟩
   dsimp only;rw[b];exact h1
theorem xc: ∀l:List Nat,dX (l.map nI)=some (l.map λ(z:Nat)=>(z:Int))
 | []=>rfl
 |z::l=>by rw[List.map_cons];show(dX (l.map nI)).map _=_;rw[xc l];rfl
theorem BP {l:List Nat}{s:Nat}(h:s∈l): ∃v:Int,mW [.lst (l.map nI)]=some (.int v)/\(v=s↔ ∀z∈l,s<=z):=by
 refine⟨jT (l.map λ(z:Nat)=>(z:Int)),?_,?_⟩
 ·show((dX (l.map nI)).bind λns=>if ns.isEmpty=true then none else some (D.int (jT ns)))=_
  rw[xc];cases l with
  |nil=>exact absurd h List.not_mem_nil
  |cons=>rfl
 ·cases l with
  |nil=>exact absurd h List.not_mem_nil
  |cons a l=>
   obtain⟨m1,m2⟩:=pU (l.map λ(z:Nat)=>(z:Int)) (a:Int)
   have m1:jT ((a::l).map λ(z:Nat)=>(z:Int))∈(a::l).map λ(z:Nat)=>(z:Int):=m1
   have m2: ∀x∈(a::l).map (λ(z:Nat)=>(z:Int)),jT ((a::l).map λ(z:Nat)=>(z:Int))<=x:=m2
   constructor
   ·intro e z hz
    have:=m2 z (List.mem_map.mpr ⟨z,hz,rfl⟩)
    omega
   ·intro q
    have h1:=m2 s (List.mem_map.mpr ⟨s,h,rfl⟩)
    obtain⟨z,hz,e⟩:=List.mem_map.mp m1
    have h2:=q z hz
    omega
include H hn in
theorem ko: ∃C:Nat->List Nat,(∀s,s<n->Cy n S s (C s))/\
 kj [.lst (((List.range n).map S).map nI)]=some (.lst (((List.range n).filter (fq S)).map λs=>.lst ((C s).map nI))):=by
 have hC: ∀s,∃L,s<n->Cy n S s L:=λs=>by
  by_cases hs:s<n
  ·obtain⟨L,_,h⟩:=nV H hn [] s 16 [s] s (by simp;omega) (Wl.start hs)
   exact⟨L,λ_=>h⟩
  ·exact⟨[],λh=>absurd h hs⟩
 obtain⟨C,hC⟩:=Classical.skolem.mp hC
 refine⟨C,hC,?_⟩
 have lp: ∀(l:List Nat),(∀s∈l,s<n)-> ∀(F:List D) (s2 s3:Sl),F.length+l.length<=900-> ∃s2' s3',fy (gN 2) (aB (dz 3 (cq (ab (ah 2) (ag)))) (aB (kP Ba A8 16) CC)) (l.map nI) [.v (.lst (((List.range n).map S).map nI)),.own F,s2,s3]
  =.nx [.v (.lst (((List.range n).map S).map nI)),.own (F++(l.filter (fq S)).map λs=>.lst ((C s).map nI)),s2',s3']:=by
  intro l
  induction l with
  |nil=>intro _ F s2 s3 _;exact⟨s2,s3,by simp[fy]⟩
  |cons s l ih=>
   intro hl F s2 s3 hF;rw[List.length_cons] at hF;have hs:=hl s (List.mem_cons_self ..)
   obtain⟨L,hL,K⟩:=nV H hn F s 16 [s] s (by simp;omega) (Wl.start hs)
   cases K.uniq (hC s hs)
   have b1:(aB (dz 3 (cq (ab (ah 2) (ag)))) (aB (kP Ba A8 16) CC)) [.v (.lst (((List.range n).map S).map nI)),.own F,.v (nI s),s3]=CC (xx n S F s (C s)):=
    (ay (ρ':=xx n S F s [s]) ((fW (iJ (ds:=[nI s]) rfl (by simp))).trans rfl)).trans (ay hL)
   obtain⟨v,hv,hv2⟩:=BP ((K.c.mem s).mpr (ik S s))
   have hv3:v=s↔fq S s=true:=hv2.trans ((Iff.intro (λq z hz=>q z ((K.c.mem z).mpr hz)) λq z hz=>q z ((K.c.mem z).mp hz)).trans ledB_iff.symm)
   have ih':=ih λz hz=>hl z (List.mem_cons_of_mem _ hz)
   have tt:bF (ar iu (aj mW (ab (dm 3) (ag))) (ah 2)) (xx n S F s (C s))=some (fq S s):=by
    refine dU ((ax (x:=.int v) (y:=nI s) ((bf (ds:=[.lst ((C s).map nI)]) rfl).trans hv) rfl).trans ?_)
    rw[j5 (by rw[ge];omega),iB]
    congr 2
    rw[Bool.eq_iff_iff,decide_eq_true_eq];exact hv3
   cases e:fq S s
   ·rw[e] at tt
    obtain⟨s2',s3',h⟩:=ih' F (.v (nI s)) (.own ((C s).map nI)) (by omega)
    refine⟨s2',s3',?_⟩
    rw[List.map_cons,List.filter_cons_of_neg (by rw[e];decide),<-h]
    exact dH (ρ1:=[.v (.lst (((List.range n).map S).map nI)),.own F,.v (nI s),s3]) rfl (b1.trans (mL tt))
   ·rw[e] at tt
    obtain⟨s2',s3',h⟩:=ih' (F++[.lst ((C s).map nI)]) (.v (nI s)) (.v (.lst ((C s).map nI))) (by rw[List.length_append,List.length_singleton];omega)
    refine⟨s2',s3',?_⟩
    rw[List.map_cons,List.filter_cons_of_pos e,List.map_cons,List.append_cons,<-h];exact dH (ρ1:=[.v (.lst (((List.range n).map S).map nI)),.own F,.v (nI s),s3]) rfl (b1.trans ((tu tt).trans ((j4 (i:=1) (bs:=F) (d:=.lst ((C s).map nI)) rfl (bG rfl) rfl (by omega)).trans rfl)))
 obtain⟨s2',s3',h⟩:=lp (List.range n) (λs hs=>List.mem_range.mp hs) [] .no .no (by simp;omega)
 apply cK (kd:=.n) (n:=4) (t:=eZ)
 unfold eZ;refine(ay (ρ':=[.v (.lst (((List.range n).map S).map nI)),.own [],.no,.no]) ((fW (iJ (ds:=[]) rfl (by simp))).trans rfl)).trans ?_
 refine(ay ((dY (ds:=(List.range n).map nI) (bG (bz (n:=n) (aq ((vl ((List.range n).map S) _ _ rfl).trans (by simp)) rfl) (by omega)))).trans h)).trans ?_
 rfl
end
theorem ui(r:List Nat):r=(List.range r.length).map λy=>r.getD y 0:=by
 apply List.ext_getElem (by simp)
 intro i h1 h2;simp[List.getD,h1]
theorem cw {n:Nat}{o:List Nat}(O:Ord n o){v:Nat}(hv:v<n):o.idxOf v<n/\o.getD (o.idxOf v) 0=v:=by
 have hi:=List.idxOf_lt_length_of_mem (O.has hv)
 refine⟨by rw[<-O.len];exact hi,?_⟩
 rw[List.getD_eq_getElem?_getD,List.getElem?_eq_getElem hi,List.getElem_idxOf];rfl
theorem fG {n:Nat}{o:List Nat}(O:Ord n o){c:Nat}(hc:c<n):o.idxOf (o.getD c 0)=c:=O.inj (cw O (O.get hc)).1 hc (cw O (O.get hc)).2
def fc:FS:=
 bw (Al xE xE (aj eU (ab (ah 1) (ab (ah 2) (ag)))) (ah 0) (aj hX (ab (ah 1) (ab (ah 2) (ag)))))
def kD:List D->Option D:=iN .s 3 fc
theorem rJ {p:FT}{t:FS}{ρ:aG}(h:p ρ=some false):fY p t skip ρ=.nx ρ:=(mL h).trans rfl
theorem AB {F G:D->D->Option D}{f g h:FE}{ρ:aG}{x y z:D}{p q:Bool}(h1:f ρ=some x)(h2:g ρ=some y)(h3:F x y=some (.bl p))(h4:h ρ=some z)(h5:G y z=some (.bl q)):Al F G f g h ρ=some (.bl (p&&q)):=by
 unfold Al;rw[h1,Option.bind_some,h2,Option.bind_some,h3];show(if p=true then _ else _)=_
 cases p with
 |true=>rw[if_pos rfl,h4];exact h5
 |false=>rfl
theorem B7 {p:FT}{f g:FE}{ρ:aG}(h:p ρ=some true):zy p f g ρ=f ρ:=by unfold zy;rw[h];rfl
theorem BU {p:FT}{f g:FE}{ρ:aG}(h:p ρ=some false):zy p f g ρ=g ρ:=by unfold zy;rw[h];rfl
theorem Af {f:FE}{ρ:aG}{ds:List D}(h:f ρ=some (.tup ds)):dg f ρ=some ds:=by unfold dg;rw[h];rfl
theorem gn {f:FE}{ρ:aG}{ds:List D}(h:f ρ=some (.lst ds)):dg f ρ=some ds:=by unfold dg;rw[h];rfl
structure Gd(n:Nat)(r x:List Nat):Prop where
 R:Ord n r
 X:Ord n x
 lo:2<=n
 hi:n<=6
def jg(v a b:Nat):Bool:=decide (min a b<v)&&decide (v<max a b)
theorem sV(v a b:Nat):kD [nI v,nI a,nI b]=some (.bl (jg v a b)):=by
 apply cK (kd:=.s) (n:=3) (t:=fc)
 unfold fc;refine cJ (AB (x:=nI (min a b)) (y:=nI v) (z:=nI (max a b)) ?_ rfl ?_ ?_ ?_)
 ·refine(bf (ds:=[nI a,nI b]) rfl).trans ?_
  show some (D.int _)=some (D.int _);congr 2
  split<;>omega
 ·show some (D.bl (decide (((min a b:Nat):Int)<v)))=_
  congr 2
  rw[Bool.eq_iff_iff,decide_eq_true_eq,decide_eq_true_eq];omega
 ·refine(bf (ds:=[nI a,nI b]) rfl).trans ?_
  show some (D.int _)=some (D.int _);congr 2
  split<;>omega
 ·show some (D.bl (decide ((v:Int)<((max a b:Nat):Int))))=_
  congr 2
  rw[Bool.eq_iff_iff,decide_eq_true_eq,decide_eq_true_eq];omega
def fo(r x:List Nat)(y:Nat):Nat:=x.idxOf (r.getD y 0)
theorem rY {n:Nat}{r x:List Nat}(R:Ord n r)(X:Ord n x){y:Nat}(hy:y<n):fo r x y<n/\x.getD (fo r x y) 0=r.getD y 0:=cw X (R.get hy)
theorem nv {n:Nat}{r x:List Nat}(R:Ord n r)(X:Ord n x):Sh n (fo r x):=⟨λy hy=>(rY R X hy).1,λy z hy hz e=>by
 have h1:=(rY R X hy).2
 have h2:=(rY R X hz).2
 rw[e] at h1;exact R.inj hy hz (h1.symm.trans h2)⟩
set_option maxHeartbeats 1000000
def mI:FS:=
 aB (i9 2 (aU 0 1 di (cC (ab (az (.int 4)) (ag)))))
 (aB (i9 3 (lb bA (pu (az (.int 1))) (aU 0 1 di (cC (ab (ar xN (ah 1) (az (.int 1))) (ag))))))
 (aB (i9 4 (aU 0 1 gI (cC (ab (ah 1) (ag)))))
 (aB (qW 5 (aU 0 1 gI (cC (ab (ah 1) (ag)))))
 (aB (fY (bF (ar iu (ah 2) (az (.int 1)))) (aB (aY 4 (xw (ah 1)))
 (dz 5 (aO 1 (dg (ah 4)) (gN 8) (cm) (ar ci (ar bA (ah 8) (ah 3)) (ah 1))))) (skip))
 (aB (dI (cC (aW (ab (ah 1) (ag)))) (gN 6) (aB (aY 7 (ar ci (ar bA (ah 6) (az (.int 1))) (ah 1)))
 (fY (bF (ar iu (ar aM (dm 5) (ah 6)) (ar aM (ah 4) (ah 6)))) (fS (gT 2 (gV (dW 5 (ah 6)) (gV (dW 5 (ah 7)) (kG)))) (pu (df (ab (ar aM (dm 5) (ah 7)) (ab (ar aM (dm 5) (ah 6)) (ag)))))) (skip))))
 (bw (df (ab (aj ii (ab (ah 4) (ag))) (ab (aj ii (ab (dm 5) (ag))) (ag))))))))))
def mY:List D->List D->Option (D×List D):=uQ .s 8 mI
theorem rV {N:Nat}{a b:Int}(B:Bag N a b){n:Nat}(h2:2<=n)(h6:n<=6)(hN:N<=800000000): ∃(r x:List Nat) (a' b':Int),mY (be a b) [nI n]=some (aP r x,be a' b')/\Sq n r x/\Bag (N+2*n+2) a' b':=by
 obtain⟨p,a1,b1,e1,B1,p0,p1⟩:=kM (m:=4) B (by omega) (by decide) (by decide)
 obtain⟨q,a2,b2,e2,B2,q0,q1⟩:=kM (m:=(n:Int) -1) B1 (by omega) (by omega) (Nat.lt_of_lt_of_le (show((n:Int) -1).natAbs<10^10 by omega) (by decide))
 obtain⟨r,a3,b3,e3,or,B3⟩:=pB B2 (n:=n) (by omega) (by omega)
 obtain⟨x,a4,b4,e4,ox,B4⟩:=pB B3 (n:=n) (by omega) (by omega)
 obtain⟨q',rfl⟩: ∃j:Nat,q=(j:Int):=⟨q.toNat,by omega⟩
 have r0:nU 8 (be a b) [nI n]=[.arg (be a b),.v (nI n),.no,.no,.no,.no,.no,.no]:=rfl
 have s1:i9 2 (aU 0 1 di (cC (ab (az (.int 4)) (ag)))) [.arg (be a b),.v (nI n),.no,.no,.no,.no,.no,.no]=.nx [.arg (be a1 b1),.v (nI n),.v (.int p),.no,.no,.no,.no,.no]:=
  (kQ (eg (i:=0) (n:=1) (b0:=be a b) (ds:=[.int 4]) rfl (bG rfl) rfl rfl e1)).trans rfl
 have s2:i9 3 (lb bA (pu (az (.int 1))) (aU 0 1 di (cC (ab (ar xN (ah 1) (az (.int 1))) (ag))))) [.arg (be a1 b1),.v (nI n),.v (.int p),.no,.no,.no,.no,.no]=.nx [.arg (be a2 b2),.v (nI n),.v (.int p),.v (nI (q'+1)),.no,.no,.no,.no]:=
  (kQ (sN (kf rfl) (eg (i:=0) (n:=1) (b0:=be a1 b1) (ds:=[.int ((n:Int) -1)]) rfl (bG rfl) rfl rfl e2) (show bA (.int 1) (nI q')=some (nI (q'+1)) by rw[cS];simp;omega))).trans rfl
 have s3:i9 4 (aU 0 1 gI (cC (ab (ah 1) (ag)))) [.arg (be a2 b2),.v (nI n),.v (.int p),.v (nI (q'+1)),.no,.no,.no,.no]=.nx [.arg (be a3 b3),.v (nI n),.v (.int p),.v (nI (q'+1)),.v (.lst (r.map nI)),.no,.no,.no]:=
  (kQ (eg (i:=0) (n:=1) (b0:=be a2 b2) (ds:=[nI n]) rfl (bG rfl) rfl rfl e3)).trans rfl
 have s4:qW 5 (aU 0 1 gI (cC (ab (ah 1) (ag)))) [.arg (be a3 b3),.v (nI n),.v (.int p),.v (nI (q'+1)),.v (.lst (r.map nI)),.no,.no,.no]=.nx [.arg (be a4 b4),.v (nI n),.v (.int p),.v (nI (q'+1)),.v (.lst (r.map nI)),.own (x.map nI),.no,.no]:=
  (xK (eg (i:=0) (n:=1) (b0:=be a3 b3) (ds:=[nI n]) rfl (bG rfl) rfl rfl e4)).trans rfl
 have s5: ∃(r' x':List Nat),fY (bF (ar iu (ah 2) (az (.int 1)))) (aB (aY 4 (xw (ah 1)))
  (dz 5 (aO 1 (dg (ah 4)) (gN 8) (cm) (ar ci (ar bA (ah 8) (ah 3)) (ah 1))))) (skip) [.arg (be a4 b4),.v (nI n),.v (.int p),.v (nI (q'+1)),.v (.lst (r.map nI)),.own (x.map nI),.no,.no]=.nx [.arg (be a4 b4),.v (nI n),.v (.int p),.v (nI (q'+1)),.v (.lst (r'.map nI)),.own (x'.map nI),.no,.no]/\Ord n r'/\Ord n x':=by
  unfold fY bF;rw[ax (x:=.int p) (y:=.int 1) rfl rfl,j5 (by rw[ge];omega),iB]
  by_cases hp:p=1
  ·refine⟨List.range n,(List.range n).map λi=>(i+(q'+1)) % n,?_,⟨.refl _⟩,x0 n h2 h6 (q'+1) (by omega) (by omega)⟩
   rw[decide_eq_true hp];simp only[pY];rw[ay ((bc (y6 (n:=n) (by omega) (ah 1) _ rfl)).trans rfl)]
   refine(fW (bx (ds:=(List.range n).map nI) (ys:=(List.range n).map λi=>nI ((i+(q'+1)) % n)) rfl (by simp;omega) (ck _ λi hi=>⟨_,rfl,?_⟩))).trans ?_
   ·exact(ax ((ax (x:=nI i) (y:=nI (q'+1)) rfl rfl).trans (Dn _ _)) (y:=nI n) rfl).trans (Ck (by omega))
   ·rw[List.map_map];rfl
  ·refine⟨r,x,?_,or,ox⟩
   rw[decide_eq_false hp];simp only[pY,skip]
 obtain⟨r',x',s5,or',ox'⟩:=s5
 obtain⟨x2,t6,t7,lp,ox2,hne⟩:=zd (be a4 b4) (.int p) (nI (q'+1)) or' h2 n 0 x' .no .no (by omega) ox' (λi h=>absurd h (Nat.not_lt_zero _))
 have s6:dI (cC (aW (ab (ah 1) (ag)))) (gN 6) tN [.arg (be a4 b4),.v (nI n),.v (.int p),.v (nI (q'+1)),.v (.lst (r'.map nI)),.own (x'.map nI),.no,.no]=.nx [.arg (be a4 b4),.v (nI n),.v (.int p),.v (nI (q'+1)),.v (.lst (r'.map nI)),.own (x2.map nI),t6,t7]:=by
  unfold dI;rw[bG (bz (n:=n) rfl (by omega))]
  dsimp only;rw[List.range_eq_range'];exact lp
 refine⟨r',x2,a4,b4,?_,⟨or',ox2,hne⟩,by rw[show N+2*n+2=N+1+1+n+n by omega];exact B4⟩
 unfold mY uQ mI;rw[r0,ay s1,ay s2,ay s3,ay s4,ay s5];rw[ay s6];have s7:bw (df (ab (aj ii (ab (ah 4) (ag))) (ab (aj ii (ab (dm 5) (ag))) (ag)))) [.arg (be a4 b4),.v (nI n),.v (.int p),.v (nI (q'+1)),.v (.lst (r'.map nI)),.own (x2.map nI),t6,t7]=.rt (aP r' x2) [.arg (be a4 b4),.v (nI n),.v (.int p),.v (nI (q'+1)),.v (.lst (r'.map nI)),.own (x2.map nI),t6,t7]:=by
  unfold bw;rw[gc (ds:=[cG r',cG x2]) rfl (by simp)]
 rw[s7];rfl
set_option maxHeartbeats 4000000
set_option maxHeartbeats 1000000
theorem iM {n:Nat}{o:List Nat}(O:Ord n o){v:Nat}(hv:v<n):iX (cG o) (nI v)=some (nI (o.idxOf v)):=by
 obtain⟨j,h1,h2,h3⟩:=vN v o (O.has hv)
 show(if cB (o.map nI)<=32 then(pM (o.map nI) (nI v)).map (λj=>D.int j) else none)=_
 rw[if_pos (by rw[jA];omega)]
 unfold pM;rw[h1];have:j=o.idxOf v:=by
  have:=fG O (c:=j) (by rw[<-O.len];exact h2)
  rw[h3] at this;exact this.symm
 rw[<-this];rfl
theorem eR {p:Nat->Bool}{j:Nat}: ∀ {n:Nat},j<n->(∀i,i<n->(p i=true↔i=j))->(List.range n).filter p=[j]
 |0,h,_=>absurd h (Nat.not_lt_zero _)
 |n+1,hj,h=>by
  rw[List.range_succ,List.filter_append]
  by_cases e:j=n
  ·subst e
   have e1:(List.range j).filter p=[]:=List.filter_eq_nil_iff.mpr λa ha q=>by
    rw[List.mem_range] at ha;have:=(h a (by omega)).mp q
    omega
   rw[e1,List.filter_cons_of_pos ((h j (by omega)).mpr rfl)];rfl
  ·rw[eR (n:=n) (by omega) λi hi=>h i (by omega),List.filter_cons_of_neg λq=>e ((h n (by omega)).mp q).symm];rfl
theorem ot(a b:Nat):iu (nI a) (nI b)=some (.bl (decide (a=b))):=by rw[j5 (by rw[ge];omega),lg]
theorem iE {g:FG}{b:FS}{P:Nat->aG->Prop}: ∀(k j:Nat),(∀i ρ,j<=i->i<j+k->P i ρ-> ∃ρ1 ρ2,g (nI i) ρ=some ρ1/\b ρ1=.nx ρ2/\P (i+1) ρ2)-> ∀ρ,P j ρ-> ∃ρ',fy g b ((List.range' j k).map nI) ρ=.nx ρ'/\P (j+k) ρ'
 |0,j,_,ρ,p=>⟨ρ,rfl,p⟩
 |k+1,j,h,ρ,p=>by
  obtain⟨ρ1,ρ2,h1,h2,p2⟩:=h j ρ (Nat.le_refl _) (by omega) p
  obtain⟨ρ',e,p'⟩:=iE k (j+1) (λi ρ a b=>h i ρ (by omega) (by omega)) ρ2 p2
  refine⟨ρ',?_,by rw[show j+(k+1)=j+1+k by omega];exact p'⟩
  rw[List.range'_succ,List.map_cons];exact(dH h1 h2).trans e
theorem Ak(a b:Nat):pZ (a:Int) ((b:Int) -a).toNat=(List.range' a (b-a)).map nI:=by
 unfold pZ;rw[show((b:Int) -a).toNat=b-a by omega,List.range_eq_range',List.range'_eq_map_range,List.range'_eq_map_range,List.map_map,List.map_map]
 refine List.map_congr_left λi _=>?_
 show D.int _=D.int _;congr 1
 simp
theorem lO {f:FA}{ρ:aG}{a b:Nat}(h:f ρ=some [nI a,nI b])(ha:a<=1000)(hb:b<=1000):hZ f ρ=some ((List.range' a (b-a)).map nI):=by
 unfold hZ;rw[h];show(if(a:Int).natAbs<4000000000/\(b:Int).natAbs<4000000000 then some (pZ (a:Int) ((b:Int) -a).toNat) else none)=_
 rw[if_pos ⟨by omega,by omega⟩,Ak]
theorem AO(ns:List Int)(k:Nat)(hk:1<=k)(ρ:aG)(h:ah 0 ρ=some (h9 ns)): ∃m:Nat,m<=k/\aj hX (ab (az (.int 1)) (ab (aj eU (ab (az (.int k)) (ab (aj br (ab (ah 0) (ag))) (ag)))) (ag))) ρ=some (nI m):=by
 have e1:aj br (ab (ah 0) ag) ρ=some (nI ns.length):=by
  rw[bf (aq h rfl)];show some (D.int ((ns.map D.int).length:Int))=_;rw[List.length_map]
 refine⟨max 1 (min k ns.length),by omega,?_⟩
 refine(bf (aq rfl (aq ((bf (aq rfl (aq e1 rfl))).trans rfl) rfl))).trans ?_
 show some (D.int _)=some (D.int _);congr 2
 split<;>split<;>omega
theorem BN {a b:Nat}{f:FA}{ρ:aG}(h:f ρ=some [nI a,nI b]):aj eU f ρ=some (nI (min a b)):=by
 rw[bf h];show some (D.int _)=some (D.int _);congr 2
 split<;>omega
theorem Bf {a b:Nat}{f:FA}{ρ:aG}(h:f ρ=some [nI a,nI b]):aj hX f ρ=some (nI (max a b)):=by
 rw[bf h];show some (D.int _)=some (D.int _);congr 2
 split<;>omega
theorem xS(v a b:Nat):jg v a b=jg v b a:=by unfold jg;rw[Nat.min_comm,Nat.max_comm]
theorem yk {n a k:Nat}(h:a+k<=n):(List.range n).filter (λv=>decide (a<=v)&&decide (v<a+k))=List.range' a k:=by
 obtain⟨m,rfl⟩:=Nat.exists_eq_add_of_le h
 rw[List.range_eq_range',show a+k+m=a+(k+m) by omega,<-List.range'_append_1,<-List.range'_append_1 (s:=0+a),List.filter_append,List.filter_append]
 rw[List.filter_eq_nil_iff.mpr,List.filter_eq_self.mpr,List.filter_eq_nil_iff.mpr]
 ·simp
 ·intro v hv
  rw[List.mem_range'_1] at hv;simp;omega
 ·intro v hv
  rw[List.mem_range'_1] at hv;simp;omega
 ·intro v hv
  rw[List.mem_range'_1] at hv;simp;omega
theorem vm {n a b:Nat}(ha:a<n)(hb:b<n):List.range' (min a b+1) (max a b- (min a b+1))=(List.range n).filter λv=>jg v a b:=by
 rw[<-yk (n:=n) (by omega)]
 refine List.filter_congr λv _=>?_
 unfold jg;rw[Bool.eq_iff_iff];simp only[Bool.and_eq_true,decide_eq_true_eq];omega
theorem kS: ∀ns:List Int,intKs.intK (iK ns)=some ns
 | []=>rfl
 |n::ns=>by
  show(intKs.intK (iK ns)).map (n:: ·)=_
  rw[kS ns];rfl
theorem rH {a b:List Int}(h:iK a=iK b):a=b:=by
 have:=congrArg intKs.intK h
 rw[kS,kS] at this;exact Option.some.inj this
theorem wo(kvs:oY)(k k':List aV)(d:D):fQ (qA kvs k d) k'=if k'=k then some d else fQ kvs k':=by
 unfold qA fQ;split
 ·rename_i h
  induction kvs with
  |nil=>simp at h
  |cons p kvs ih=>
   rw[List.map_cons]
   by_cases e:p.1=k
   ·rw[if_pos e,List.find?_cons]
    by_cases e2:k'=k
    ·rw[if_pos e2,e2];simp[e]
    ·rw[if_neg e2,List.find?_cons]
     have e3:decide (p.1=k')=false:=decide_eq_false λw=>e2 (w.symm.trans e)
     simp only[e3]
     by_cases h':(kvs.any λkv=>decide (kv.1=k))=true
     ·have:=ih h';rw[if_neg e2] at this;exact this
     ·have:kvs.map (λkv=>if kv.1=k then(kv.1,d) else kv)=kvs:=by
       refine(List.map_congr_left λq hq=>?_).trans (List.map_id _)
       rw[if_neg];rfl;intro w;exact h' (List.any_eq_true.mpr ⟨q,hq,decide_eq_true w⟩)
      rw[this]
   ·have h':(kvs.any λkv=>decide (kv.1=k))=true:=by
     rw[List.any_cons,decide_eq_false e,Bool.false_or] at h;exact h
    rw[if_neg e,List.find?_cons,List.find?_cons]
    by_cases e2:p.1=k'
    ·rw[decide_eq_true e2,if_neg (λw=>e (e2.trans w))]
    ·rw[decide_eq_false e2];exact ih h'
 ·rename_i h
  have h: ∀q∈kvs,q.1≠k:=λq hq w=>h (List.any_eq_true.mpr ⟨q,hq,decide_eq_true w⟩)
  rw[List.find?_append]
  by_cases e:k'=k
  ·subst e
   rw[if_pos rfl,List.find?_eq_none.mpr (λq hq=>by simpa using h q hq)]
   simp
  ·rw[if_neg e]
   have:(List.find? (λkv:List aV×D=>decide (kv.1=k')) [(k,d)])=none:=by
    rw[List.find?_cons,decide_eq_false (λw=>e w.symm)];rfl
   rw[this,Option.or_none]
theorem sn {kvs:oY}{k:List aV}(h:fQ kvs k=none)(d:D):qA kvs k d=kvs++[(k,d)]:=by
 unfold qA;rw[if_neg];intro w;obtain⟨q,hq,e⟩:=List.any_eq_true.mp w
 unfold fQ at h;rw[Option.map_eq_none_iff,List.find?_eq_none] at h;exact h q hq e
theorem lK {α:Type}{i:Nat}{g:FG}{fs:FA}{fv:FE}{h:α->D}{key:α->List Int}{v:α->D}{st:oY->Sl->aG}{Q:α->Prop}
 (hg: ∀kvs s a,g (h a) (st kvs s)=some (st kvs (.v (h a)))) (hf: ∀kvs a,Q a->fs (st kvs (.v (h a)))=some ((key a).map D.int)) (hv: ∀kvs a,Q a->fv (st kvs (.v (h a)))=some (v a))
 (ht: ∀kvs s,ic i (st kvs s)=some kvs) (hs: ∀kvs kvs' s,(st kvs s).set i (.ob (.dT kvs'))=st kvs' s) (hk: ∀a,(key a).length<=1000):
 ∀(l:List α) (kvs:oY) (s:Sl),(∀a∈l,Q a)->kvs.length+l.length<=900->(∀a∈l,fQ kvs (iK (key a))=none)->(l.map key).Nodup->
  ∃s',fy g (jp i fs fv) (l.map h) (st kvs s)=.nx (st (kvs++l.map λa=>(iK (key a),v a)) s')
 | [],kvs,s,_,_,_,_=>⟨s,by rw[List.map_nil,List.map_nil,List.append_nil];rfl⟩
 |a::l,kvs,s,hq,hl,hn,nd=>by
  rw[List.map_cons,List.nodup_cons] at nd;rw[List.length_cons] at hl;have e1:jp i fs fv (st kvs (.v (h a)))=.nx (st (kvs++[(iK (key a),v a)]) (.v (h a))):=by
   unfold jp;rw[ht,hv _ _ (hq a List.mem_cons_self),hf _ _ (hq a List.mem_cons_self),Option.bind_some,gJ];dsimp only;rw[if_pos ⟨by omega,hk a⟩,hs,sn (hn a List.mem_cons_self)]
  obtain⟨s',h'⟩:=lK hg hf hv ht hs hk l (kvs++[(iK (key a),v a)]) (.v (h a)) (λb hb=>hq b (List.mem_cons_of_mem _ hb)) (by rw[List.length_append,List.length_singleton];omega) (λb hb=>by
   rw[<-sn (hn a List.mem_cons_self),wo,if_neg λw=>nd.1 ?_]
   ·exact hn b (List.mem_cons_of_mem _ hb)
   ·rw[<-rH w];exact List.mem_map_of_mem hb) nd.2
  refine⟨s',?_⟩
  rw[List.map_cons,List.map_cons];refine(dH (hg _ _ _) e1).trans (h'.trans ?_)
  rw[List.append_assoc];rfl
theorem pp {α:Type}{key:α->List Int}{v:α->D}{l:List α}{a:α}(ha:a∈l)(inj: ∀b∈l,key b=key a->v b=v a):fQ (l.map λa=>(iK (key a),v a)) (iK (key a))=some (v a):=by
 unfold fQ
 induction l with
 |nil=>cases ha
 |cons b l ih=>
  rw[List.map_cons,List.find?_cons]
  by_cases e:key b=key a
  ·dsimp only
   rw[decide_eq_true (by rw[e])]
   show some (v b)=_;rw[inj b List.mem_cons_self e]
  ·dsimp only
   rw[decide_eq_false (λw=>e (rH w))]
   rcases List.mem_cons.mp ha with rfl|ha
   ·exact absurd rfl e
   ·exact ih ha λc hc=>inj c (List.mem_cons_of_mem _ hc)
theorem j6 {α:Type}{key:α->List Int}{v:α->D}{l:List α}{k:List Int}(h: ∀b∈l,key b≠k):fQ (l.map λa=>(iK (key a),v a)) (iK k)=none:=by
 unfold fQ;rw[Option.map_eq_none_iff,List.find?_eq_none];intro q hq;obtain⟨b,hb,rfl⟩:=List.mem_map.mp hq
 simpa using λw=>h b hb (rH w)
theorem oX {α:Type}{key:α->List Int}{v:α->D}: ∀l:List α,intKs (l.map λa=>(iK (key a),v a))=some (l.map key)
 | []=>rfl
 |a::l=>by
  show(intKs.intK (iK (key a))).bind (λns=>(intKs (l.map λa=>(iK (key a),v a))).map (ns:: ·))=_
  rw[kS,oX l];rfl
def qx(r x:List Nat)(c y:Nat):Bool:=jg y (r.getD c 0) (x.getD c 0)&&jg c (r.idxOf y) (x.idxOf y)
def ng(r x:List Nat)(c y:Nat):Int:=if decide (x.getD c 0<r.getD c 0)=decide (r.idxOf y<x.idxOf y) then -1 else 1
def xQ(n:Nat)(r x:List Nat):List (List Int):=(List.range n).flatMap λc=>((List.range n).filter (qx r x c)).map λ(y:Nat)=>[(c:Int),(y:Int),ng r x c y]
theorem sT(n:Nat)(r x:List Nat)(hn:n<=6):(xQ n r x).length<=36:=by
 have: ∀(l:List Nat),(l.flatMap λc=>((List.range n).filter (qx r x c)).map λ(y:Nat)=>[(c:Int),(y:Int),ng r x c y]).length<=l.length*6:=by
  intro l
  induction l with
  |nil=>simp
  |cons c l ih=>
   rw[List.flatMap_cons,List.length_append,List.length_cons,List.length_map];have:=List.length_filter_le (qx r x c) (List.range n)
   rw[List.length_range] at this;omega
 have h:=this (List.range n)
 rw[List.length_range] at h;unfold xQ;omega
def qw(n:Nat)(r x:List Nat)(m:Nat):List (Nat×Nat):=(List.range m).flatMap λc=>((List.range n).filter λy=>jg y (x.getD c 0) (r.getD c 0)).map λy=>(c,y)
def fh(p:Nat×Nat):List Int:=[(p.1:Int),(p.2:Int)]
theorem fN {p q:Nat×Nat}(h:fh p=fh q):p=q:=by
 unfold fh at h;injection h with h1 h2
 injection h2 with h2 _
 exact Prod.ext (by omega) (by omega)
theorem upP_mem {n:Nat}{r x:List Nat}{m:Nat}{p:Nat×Nat}:p∈qw n r x m↔p.1<m/\p.2<n/\jg p.2 (x.getD p.1 0) (r.getD p.1 0)=true:=by
 unfold qw;rw[List.mem_flatMap];constructor
 ·rintro⟨c,hc,h⟩
  obtain⟨y,hy,rfl⟩:=List.mem_map.mp h
  rw[List.mem_filter,List.mem_range] at hy;exact⟨List.mem_range.mp hc,hy.1,hy.2⟩
 ·rintro⟨h1,h2,h3⟩
  exact⟨p.1,List.mem_range.mpr h1,List.mem_map.mpr ⟨p.2,List.mem_filter.mpr ⟨List.mem_range.mpr h2,h3⟩,rfl⟩⟩
theorem oO(n:Nat)(r x:List Nat)(m:Nat):qw n r x (m+1)=qw n r x m++((List.range n).filter λy=>jg y (x.getD m 0) (r.getD m 0)).map λy=>(m,y):=by
 unfold qw;rw[List.range_succ,List.flatMap_append,List.flatMap_singleton]
theorem oF(n:Nat)(r x:List Nat): ∀m,(qw n r x m).length<=m*n
 |0=>by simp[qw]
 |m+1=>by
  rw[oO,List.length_append,List.length_map];have:=oF n r x m
  have h:=List.length_filter_le (λy=>jg y (x.getD m 0) (r.getD m 0)) (List.range n)
  rw[List.length_range] at h;rw[Nat.add_mul,Nat.one_mul];omega
theorem zI(n:Nat)(r x:List Nat)(m:Nat):((qw n r x m).map fh).Pairwise (λa b=>cR b a=false):=by
 unfold qw;rw[List.pairwise_map,List.pairwise_flatMap];refine⟨λc _=>?_,List.pairwise_lt_range.imp λ{c c'} h a ha b hb=>?_⟩
 ·rw[List.pairwise_map]
  refine(List.Pairwise.filter _ List.pairwise_lt_range).imp λ{y y'} h=>?_
  unfold fh cR cR;rw[if_pos rfl,if_neg (by dsimp only;omega)]
  simp only[decide_eq_false_iff_not];omega
 ·obtain⟨y,_,rfl⟩:=List.mem_map.mp ha
  obtain⟨y',_,rfl⟩:=List.mem_map.mp hb
  unfold fh cR;rw[if_neg (by dsimp only;omega)]
  simp only[decide_eq_false_iff_not];omega
def zo(n:Nat)(r x:List Nat)(m:Nat):List (Nat×Nat):=(List.range m).flatMap λy=>((List.range n).filter λc=>jg c (r.idxOf y) (x.idxOf y)).map λc=>(c,y)
theorem lvP_mem {n:Nat}{r x:List Nat}{m:Nat}{p:Nat×Nat}:p∈zo n r x m↔p.2<m/\p.1<n/\jg p.1 (r.idxOf p.2) (x.idxOf p.2)=true:=by
 unfold zo;rw[List.mem_flatMap];constructor
 ·rintro⟨c,hc,h⟩
  obtain⟨y,hy,rfl⟩:=List.mem_map.mp h
  rw[List.mem_filter,List.mem_range] at hy;exact⟨List.mem_range.mp hc,hy.1,hy.2⟩
 ·rintro⟨h1,h2,h3⟩
  exact⟨p.2,List.mem_range.mpr h1,List.mem_map.mpr ⟨p.1,List.mem_filter.mpr ⟨List.mem_range.mpr h2,h3⟩,rfl⟩⟩
theorem o9(n:Nat)(r x:List Nat)(m:Nat):zo n r x (m+1)=zo n r x m++((List.range n).filter λc=>jg c (r.idxOf m) (x.idxOf m)).map λc=>(c,m):=by
 unfold zo;rw[List.range_succ,List.flatMap_append,List.flatMap_singleton]
theorem sP(n:Nat)(r x:List Nat): ∀m,(zo n r x m).length<=m*n
 |0=>by simp[zo]
 |m+1=>by
  rw[o9,List.length_append,List.length_map];have:=sP n r x m
  have h:=List.length_filter_le (λc=>jg c (r.idxOf m) (x.idxOf m)) (List.range n)
  rw[List.length_range] at h;rw[Nat.add_mul,Nat.one_mul];omega
def CG(b:Bool):Int:=if b then 1 else -1
def zY(r x:List Nat)(p:Nat×Nat):D:=.int (CG (decide (x.getD p.1 0<r.getD p.1 0)))
def A9(r x:List Nat)(p:Nat×Nat):D:=.int (CG (decide (r.idxOf p.2<x.idxOf p.2)))
def jm(n:Nat)(r x:List Nat)(m:Nat):oY:=(qw n r x m).map λp=>(iK (fh p),zY r x p)
def jO(n:Nat)(r x:List Nat)(m:Nat):oY:=(zo n r x m).map λp=>(iK (fh p),A9 r x p)
theorem Aa(n:Nat)(r x:List Nat):((qw n r x n).filter λp=>jg p.1 (r.idxOf p.2) (x.idxOf p.2)).map (λp=>[(p.1:Int),(p.2:Int),ng r x p.1 p.2])=xQ n r x:=by
 unfold qw xQ;rw[List.filter_flatMap,List.map_flatMap];congr 1
 funext c;rw[List.filter_map,List.map_map,List.filter_filter];congr 1
 refine List.filter_congr λy _=>?_
 unfold qx;rw[xS y (x.getD c 0),Bool.and_comm];rfl
def sm(n:Nat)(f:Nat->Int):Int:=((List.range n).map f).sum
theorem bX {n:Nat}{f g:Nat->Int}(h: ∀i,i<n->f i=g i):sm n f=sm n g:=by
 unfold sm;rw[List.map_congr_left λi hi=>h i (List.mem_range.mp hi)]
theorem fX(n:Nat)(f:Nat->Int):sm (n+1) f=sm n f+f n:=by
 unfold sm;rw[List.range_succ,List.map_append,List.sum_append];simp
theorem lJ {f g:Nat->Int}: ∀n,sm n (λi=>f i+g i)=sm n f+sm n g
 |0=>rfl
 |n+1=>by rw[fX,fX,fX,lJ n];omega
theorem ou {f:Nat->Int}: ∀n,sm n (λi=> -f i)= -sm n f
 |0=>rfl
 |n+1=>by rw[fX,fX,ou n];omega
theorem lC {f g:Nat->Int}(n:Nat):sm n (λi=>f i-g i)=sm n f-sm n g:=by
 have:=lJ (f:=f) (g:=λi=> -g i) n
 rw[ou] at this;rw[Int.sub_eq_add_neg,<-this];exact bX λi _=>Int.sub_eq_add_neg
theorem oj: ∀n,sm n (λ_=>0)=0
 |0=>rfl
 |n+1=>by rw[fX,oj n];rfl
theorem sM {f:Nat->Nat->Int}(m:Nat): ∀n,sm n (λi=>sm m λj=>f i j)=sm m (λj=>sm n λi=>f i j)
 |0=>by show(0:Int)=sm m λ_=>0;rw[oj]
 |n+1=>by
  rw[fX,sM m n,<-lJ];exact bX λj _=>(fX n λi=>f i j).symm
theorem uK {l m:List Int}(h:l.Perm m):l.sum=m.sum:=by
 induction h with
 |nil=>rfl
 |cons a _ ih=>rw[List.sum_cons,List.sum_cons,ih]
 |swap a b l=>rw[List.sum_cons,List.sum_cons,List.sum_cons,List.sum_cons];omega
 |trans _ _ h1 h2=>exact h1.trans h2
theorem om {n:Nat}{o:List Nat}(O:Ord n o)(F:Nat->Nat->Int):sm n (λy=>F y (o.idxOf y))=sm n (λc=>F (o.getD c 0) c):=by
 unfold sm;have p:=uK (O.perm.map λy=>F y (o.idxOf y)).symm
 rw[p];congr 1
 apply List.ext_getElem?
 intro i;rw[List.getElem?_map,List.getElem?_map]
 by_cases h:i<n
 ·rw[List.getElem?_eq_getElem (by rw[O.len];exact h),List.getElem?_range h]
  have e1:o.getD i 0=o[i]'(by rw[O.len];exact h):=by rw[List.getD_eq_getElem?_getD,List.getElem?_eq_getElem (by rw[O.len];exact h)];rfl
  have e2:=fG O h
  rw[e1] at e2;show some (F _ _)=some (F _ _);rw[e2,e1]
 ·rw[List.getElem?_eq_none (by rw[O.len];omega),List.getElem?_eq_none (by simp;omega)];rfl
def en(p:Prop) [Decidable p]:Int:=if p then 1 else 0
def BO(r x:List Nat)(c y:Nat):Int:=if qx r x c y=true then ng r x c y else 0
def kC(n:Nat)(r x:List Nat)(ln:Nat->Nat)(a b:Nat):Int:=sm n λc=>sm n λy=>en (ln c=a)*(en (ln (r.idxOf y)=b)*BO r x c y)
def uI(r x:List Nat)(c y:Nat):Int:=en (y<r.getD c 0) -en (y<x.getD c 0)
def vI(r x:List Nat)(c y:Nat):Int:=en (c<x.idxOf y) -en (c<r.idxOf y)
theorem Aw {r x:List Nat}{c y:Nat}(h1:y≠r.getD c 0)(h2:y≠x.getD c 0)(h3:c≠r.idxOf y)(h4:c≠x.idxOf y):BO r x c y= -(uI r x c y*vI r x c y):=by
 unfold BO uI vI
 generalize hr:r.getD c 0=p at*
 generalize hx:x.getD c 0=q at*
 generalize hi:r.idxOf y=i at*
 generalize hj:x.idxOf y=j at*
 have e1:qx r x c y=(jg y p q&&jg c i j):=by unfold qx;rw[hr,hx,hi,hj]
 have e2:ng r x c y=if decide (q<p)=decide (i<j) then -1 else 1:=by unfold ng;rw[hr,hx,hi,hj]
 rw[e1,e2];unfold en jg
 by_cases a1:y<p<;>by_cases a2:y<q<;>by_cases a3:c<i<;>by_cases a4:c<j<;>simp[a1,a2,a3,a4]<;>(try omega)<;>(split<;>omega)
def kI(r x:List Nat)(c d:Nat):Int:=uI r x c (x.getD d 0) -uI r x c (r.getD d 0)
section
variable {n:Nat}{r x:List Nat}{ln:Nat->Nat}(R:Ord n r)(X:Ord n x)(hl: ∀c,c<n->ln (fo r x c)=ln c)
include R hl
theorem jH {y:Nat}(hy:y<n):ln (x.idxOf y)=ln (r.idxOf y):=by
 obtain⟨h1,h2⟩:=cw R hy
 have:=hl _ h1
 unfold fo at this;rw[h2] at this;exact this
include X
theorem zr {c d:Nat}(hc:c<n)(hd:d<n)(ne:ln c≠ln d):c≠d/\r.getD c 0≠r.getD d 0/\x.getD c 0≠x.getD d 0/\x.getD c 0≠r.getD d 0/\r.getD c 0≠x.getD d 0:=by
 have n1:c≠d:=λe=>ne (by rw[e])
 refine⟨n1,λe=>n1 (R.inj hc hd e),λe=>n1 (X.inj hc hd e),λe=>?_,λe=>?_⟩
 ·have h1:=fG X hc
  have h2:=fG R hd
  have h3:=jH R hl (y:=x.getD c 0) (X.get hc)
  rw[h1,e,h2] at h3;exact ne h3
 ·have h1:=fG R hc
  have h2:=fG X hd
  have h3:=jH R hl (y:=r.getD c 0) (R.get hc)
  rw[h1,e,h2] at h3;exact ne h3.symm
theorem sK {a b:Nat}(ne:a≠b):kC n r x ln a b= -sm n (λc=>sm n λd=>en (ln c=a)*(en (ln d=b)*(en (c<d)*kI r x c d))):=by
 rw[<-ou];unfold kC;refine bX λc hc=>?_
 have e1:sm n (λy=>en (ln c=a)*(en (ln (r.idxOf y)=b)*BO r x c y))=sm n (λy=>en (ln c=a)*(en (ln (r.idxOf y)=b)*(uI r x c y*en (c<r.idxOf y))) -en (ln c=a)*(en (ln (x.idxOf y)=b)*(uI r x c y*en (c<x.idxOf y)))):=by
  refine bX λy hy=>?_
  rw[jH R hl hy]
  by_cases h1:ln c=a
  ·by_cases h2:ln (r.idxOf y)=b
   ·have hi:=(cw R hy).1
    have z:ln c≠ln (r.idxOf y):=by rw[h1,h2];exact ne
    have hx2:=(cw X hy)
    have hr2:=(cw R hy)
    have:=Aw (r:=r) (x:=x) (c:=c) (y:=y) (λe=>z (by rw[e,fG R hc])) (λe=>z (by
     have h3:=jH R hl hy
     have h4:=fG X hc
     rw[<-e] at h4;rw[h4] at h3;exact h3)) (λe=>z (by rw[<-e])) (λe=>z (by rw[<-jH R hl hy,<-e]))
    rw[this];unfold vI en;rw[if_pos h1,if_pos h2]
    by_cases a1:c<x.idxOf y<;>by_cases a2:c<r.idxOf y<;>simp[a1,a2]<;>omega
   ·have:en (ln (r.idxOf y)=b)=0:=if_neg h2
    rw[this];simp
  ·have:en (ln c=a)=0:=if_neg h1
   rw[this];simp
 rw[e1,lC,om R (λy d=>en (ln c=a)*(en (ln d=b)*(uI r x c y*en (c<d)))),om X (λy d=>en (ln c=a)*(en (ln d=b)*(uI r x c y*en (c<d)))),<-lC,<-ou]
 refine bX λd hd=>?_
 unfold kI
 generalize en (ln c=a)=A
 generalize en (ln d=b)=B
 generalize en (c<d)=J
 rw[<-Int.mul_sub,<-Int.mul_sub,<-Int.sub_mul,<-Int.mul_neg,<-Int.mul_neg,Int.mul_comm _ J,<-Int.mul_neg];congr 3
 omega
theorem yL {c d:Nat}(hc:c<n)(hd:d<n)(ne:ln c≠ln d):kI r x d c= -kI r x c d:=by
 obtain⟨_,h1,h2,h3,h4⟩:=zr R X hl hc hd ne
 unfold kI uI en
 generalize r.getD c 0=p at*
 generalize r.getD d 0=q at*
 generalize x.getD c 0=u at*
 generalize x.getD d 0=v at*
 by_cases a1:u<q<;>by_cases a2:u<v<;>by_cases a3:p<q<;>by_cases a4:p<v<;>by_cases b1:v<p<;>by_cases b2:v<u<;>by_cases b3:q<p<;>by_cases b4:q<u<;>simp[a1,a2,a3,a4,b1,b2,b3,b4]<;>omega
theorem yu {a b:Nat}:sm n (λc=>sm n λd=>en (ln c=a)*(en (ln d=b)*kI r x c d))=0:=by
 rw[<-oj n];refine bX λc hc=>?_
 have e:sm n (λd=>en (ln c=a)*(en (ln d=b)*kI r x c d))=sm n (λd=>en (ln c=a)*(en (ln d=b)*uI r x c (x.getD d 0))) -sm n (λd=>en (ln c=a)*(en (ln d=b)*uI r x c (r.getD d 0))):=by
  rw[<-lC];refine bX λd _=>?_
  unfold kI;rw[Int.mul_sub,Int.mul_sub]
 rw[e,<-om X (λy d=>en (ln c=a)*(en (ln d=b)*uI r x c y)),<-om R (λy d=>en (ln c=a)*(en (ln d=b)*uI r x c y))]
 rw[Int.sub_eq_zero];exact bX λy hy=>by rw[jH R hl hy]
theorem qk(a b:Nat):kC n r x ln a b=kC n r x ln b a:=by
 by_cases ne:a=b
 ·rw[ne]
 ·rw[sK R X hl ne,sK R X hl (Ne.symm ne)]
  congr 1
  rw[sM (f:=λc d=>en (ln c=b)*(en (ln d=a)*(en (c<d)*kI r x c d)))]
  have z:=yu R X hl (a:=a) (b:=b)
  have e:sm n (λc=>sm n λd=>en (ln d=b)*(en (ln c=a)*(en (d<c)*kI r x d c)))=sm n (λc=>sm n λd=>en (ln c=a)*(en (ln d=b)*(en (c<d)*kI r x c d))) -sm n (λc=>sm n λd=>en (ln c=a)*(en (ln d=b)*kI r x c d)):=by
   rw[<-lC];refine bX λc hc=>?_
   rw[<-lC];refine bX λd hd=>?_
   by_cases h1:ln c=a
   ·by_cases h2:ln d=b
    ·have z:ln c≠ln d:=by rw[h1,h2];exact ne
     rw[yL R X hl hc hd z];have n1:=(zr R X hl hc hd z).1
     generalize kI r x c d=K
     unfold en;rw[if_pos h1,if_pos h2]
     by_cases a1:c<d
     ·rw[if_pos a1,if_neg (by omega)];omega
     ·rw[if_neg a1,if_pos (by omega)];omega
    ·have:en (ln d=b)=0:=if_neg h2
     rw[this];simp
   ·have:en (ln c=a)=0:=if_neg h1
    rw[this];simp
  rw[e,z];omega
end
set_option maxHeartbeats 4000000
theorem wF {n:Nat}{r x:List Nat}{S:Nat->Nat}(H:Sg n r x S){y:Nat}(hy:y<n): ∃m,m<n/\led S m/\sL S y m:=by
 obtain⟨W,C⟩:=wr H hy
 have ex: ∀(l:List Nat),l≠[]-> ∃m∈l,∀z∈l,m<=z:=by
  intro l
  induction l with
  |nil=>intro h;exact absurd rfl h
  |cons a l ih=>
   intro _
   by_cases e:l=[]
   ·subst e;exact⟨a,by simp,λz hz=>by rw[List.mem_singleton] at hz;omega⟩
   ·obtain⟨m,hm,h⟩:=ih e
    by_cases am:a<=m
    ·exact⟨a,by simp,λz hz=>(List.mem_cons.mp hz).elim (λe=>by omega) λq=>by have:=h z q;omega⟩
    ·exact⟨m,by simp[hm],λz hz=>(List.mem_cons.mp hz).elim (λe=>by omega) λq=>h z q⟩
 obtain⟨m,hm,h⟩:=ex W (List.ne_nil_of_mem ((C.mem y).mpr (ik S y)))
 exact⟨m,C.lt m hm,λz hz=>h z ((C.mem z).mpr (iH ((C.mem m).mp hm) hz)),(C.mem m).mp hm⟩
set_option maxHeartbeats 1000000
section
variable {n:Nat}{r x:List Nat}(R:Ord n r)(X:Ord n x)(hn:n<=6)
include R X
theorem zT {c:Nat}(hc:c<n):gQ [aP r x,nI c]=some (.bl (decide (x.getD c 0<r.getD c 0))):=by
 apply cK (kd:=.s) (n:=4) (t:=jy)
 unfold jy;refine(ay (ρ':=[.v (aP r x),.v (nI c),.v (cG r),.v (cG x)]) (nY (kf rfl) rfl)).trans (cJ ((ax ((ax (x:=cG x) (y:=nI c) rfl rfl).trans (iT (by rw[X.len];exact hc))) ((ax (x:=cG r) (y:=nI c) rfl rfl).trans (iT (by rw[R.len];exact hc)))).trans ?_))
 show some (D.bl (decide (((x.getD c 0:Nat):Int)<((r.getD c 0:Nat):Int))))=_;congr 2
 simp
theorem wU {y:Nat}(hy:y<n):ee [aP r x,nI y]=some (.bl (decide (r.idxOf y<x.idxOf y))):=by
 apply cK (kd:=.s) (n:=4) (t:=hJ)
 unfold hJ;refine(ay (ρ':=[.v (aP r x),.v (nI y),.v (cG r),.v (cG x)]) (nY (kf rfl) rfl)).trans (cJ ((ax ((ax (x:=cG r) (y:=nI y) rfl rfl).trans (iM R hy)) ((ax (x:=cG x) (y:=nI y) rfl rfl).trans (iM X hy))).trans ?_))
 show some (D.bl (decide (((r.idxOf y:Nat):Int)<((x.idxOf y:Nat):Int))))=_;congr 2
 simp
theorem xC {c y:Nat}(hc:c<n)(hy:y<n):eS [aP r x,nI c,nI y]=some (.bl (qx r x c y)):=by
 refine lS (kd:=.s) (n:=5) (t:=gv) ?_
 unfold gv;have t1:gD (aj (nF 3 cN) (ab (ah 2) (ab (ar aM (ah 3) (ah 1)) (ab (ar aM (ah 4) (ah 1)) (ag))))) [.v (aP r x),.v (nI c),.v (nI y),.v (cG r),.v (cG x)]=some (jg y (r.getD c 0) (x.getD c 0)):=
  iY ((cA (ds:=[nI y,nI (r.getD c 0),nI (x.getD c 0)]) (aq rfl (aq ((ax (x:=cG r) (y:=nI c) rfl rfl).trans (iT (by rw[R.len];exact hc))) (aq ((ax (x:=cG x) (y:=nI c) rfl rfl).trans (iT (by rw[X.len];exact hc))) rfl))) rfl).trans (sV _ _ _))
 refine⟨[.v (aP r x),.v (nI c),.v (nI y),.v (cG r),.v (cG x)],(ay (ρ':=[.v (aP r x),.v (nI c),.v (nI y),.v (cG r),.v (cG x)]) (nY (kf rfl) rfl)).trans ?_⟩
 unfold qx;cases e:jg y (r.getD c 0) (x.getD c 0) with
 |false=>
  rw[e] at t1;unfold aB;rw[tu (jX t1)];rfl
 |true=>
  rw[e] at t1;refine(ay (ρ':=[.v (aP r x),.v (nI c),.v (nI y),.v (cG r),.v (cG x)]) (mL (jX t1))).trans ?_
  rw[Bool.true_and];exact cJ ((cA (ds:=[nI c,nI (r.idxOf y),nI (x.idxOf y)]) (aq rfl (aq ((ax (x:=cG r) (y:=nI y) rfl rfl).trans (iM R hy)) (aq ((ax (x:=cG x) (y:=nI y) rfl rfl).trans (iM X hy)) rfl))) rfl).trans (sV _ _ _))
theorem yH {c y:Nat}(hc:c<n)(hy:y<n):iI [aP r x,nI c,nI y]=some (.int (ng r x c y)):=by
 apply cK (kd:=.s) (n:=3) (t:=jz)
 unfold jz;refine cJ ?_
 have t1:bF (ar kA (aj (nF 2 gQ) (ab (ah 0) (ab (ah 1) (ag)))) (aj (nF 2 ee) (ab (ah 0) (ab (ah 2) (ag))))) (gG 3 [aP r x,nI c,nI y])=some (!(decide (x.getD c 0<r.getD c 0)==decide (r.idxOf y<x.idxOf y))):=by
  refine dU ((ax ((cA (ds:=[aP r x,nI c]) rfl rfl).trans (zT R X hc)) ((cA (ds:=[aP r x,nI y]) rfl rfl).trans (wU R X hy))).trans ?_)
  rw[lv (by unfold dS;omega)]
  unfold cP;rfl
 unfold ng
 by_cases e:decide (x.getD c 0<r.getD c 0)=decide (r.idxOf y<x.idxOf y)
 ·rw[if_pos e]
  rw[e,beq_self_eq_true] at t1;exact(BU t1).trans rfl
 ·rw[if_neg e]
  rw[beq_eq_false_iff_ne.mpr e] at t1;exact(B7 t1).trans rfl
include hn
theorem wL:cV [aP r x]=some (.lst ((xQ n r x).map gb)):=by
 apply cK (kd:=.n) (n:=2) (t:=fK)
 unfold fK;refine(ay (ρ':=[.v (aP r x),.v (nI n)]) ((bc (d:=nI n) ((ij r _ _ ((ax (x:=aP r x) (y:=.int 0) rfl rfl).trans rfl)).trans (by rw[R.len]))).trans rfl)).trans ?_
 refine cJ (sS (ds:=(List.range n).map nI) (bz (n:=n) (aq rfl rfl) (by omega)) ?_ (by rw[List.length_map];have:=sT n r x hn;omega))
 refine(gh (h:=nI) (q:=λ_=>true) (o:=λ(c:Nat)=>((List.range n).filter (qx r x c)).map λ(y:Nat)=>gb [(c:Int),(y:Int),ng r x c y]) (List.range n) λc hc=>⟨_,rfl,rfl,λ_=>?_⟩).trans ?_
 ·have hc:=List.mem_range.mp hc
  refine wm (ds:=(List.range n).map nI) (bz (n:=n) (aq rfl rfl) (by omega)) ?_
  refine(gh (h:=nI) (q:=qx r x c) (o:=λ(y:Nat)=>[gb [(c:Int),(y:Int),ng r x c y]]) (List.range n) λy hy=>⟨_,rfl,?_,λ_=>?_⟩).trans ?_
  ·exact iY ((cA (ds:=[aP r x,nI c,nI y]) rfl rfl).trans (xC R X hc (List.mem_range.mp hy)))
  ·exact s0 (gc (aq rfl (aq rfl (aq ((cA (ds:=[aP r x,nI c,nI y]) rfl rfl).trans (yH R X hc (List.mem_range.mp hy))) rfl))) (by simp))
  ·rw[ie]
 ·rw[List.filter_eq_self.mpr (λ_ _=>rfl)]
  unfold xQ;rw[List.map_flatMap];congr 2
  funext c;rw[List.map_map];rfl
end
def Vs:FE:=ar aM (cq (ab (i4 (az (.int 1))) (ab (az (.int 1)) (ag)))) (aj mq (ab (ar CH (ah 6) (ah 5)) (ag)))
theorem za {ρ:aG}{a b:Nat}(h5:ah 5 ρ=some (nI a))(h6:ah 6 ρ=some (nI b)):Vs ρ=some (.int (CG (decide (a<b)))):=by
 have e1:aj mq (ab (ar CH (ah 6) (ah 5)) (ag)) ρ=some (nI (if a<b then 1 else 0)):=by
  rw[bf (ds:=[.bl (decide (a<b))]) (aq ((ax h6 h5).trans ?_) rfl)]
  ·by_cases e:a<b
   ·rw[decide_eq_true e,if_pos e];rfl
   ·rw[decide_eq_false e,if_neg e];rfl
  ·show some (D.bl (decide ((a:Int)<(b:Int))))=_
   congr 2
   rw[Bool.eq_iff_iff,decide_eq_true_eq,decide_eq_true_eq];omega
 refine(ax (x:=.lst [.int (-1),.int 1]) rfl e1).trans ?_
 unfold CG
 by_cases e:a<b
 ·rw[if_pos e,decide_eq_true e,if_pos rfl];rfl
 ·rw[if_neg e,decide_eq_false e,if_neg (by decide)];rfl
def bU:FS:=aB (aY 5 (ar aM (ar aM (ah 0) (az (.int 1))) (ah 4)))
 (aB (aY 6 (ar aM (ar aM (ah 0) (az (.int 0))) (ah 4)))
 (dI (cC (hZ (ab (ar bA (aj eU (ab (ah 5) (ab (ah 6) (ag)))) (az (.int 1))) (ab (aj hX (ab (ah 5) (ab (ah 6) (ag)))) (ag))))) (gN 7) (jp 2 (ab (ah 4) (ab (ah 7) (ag))) Vs)))
def bL:FS:=aB (aY 5 (ar aM (aO 1 (aW (ab (ah 1) (ag))) (gN 8) (bF (ar iu (ar aM (ar aM (ah 0) (az (.int 0))) (ah 8)) (ah 7))) (ah 8)) (az (.int 0))))
 (aB (aY 6 (ar aM (aO 1 (aW (ab (ah 1) (ag))) (gN 8) (bF (ar iu (ar aM (ar aM (ah 0) (az (.int 1))) (ah 8)) (ah 7))) (ah 8)) (az (.int 0))))
 (dI (cC (hZ (ab (ar bA (aj eU (ab (ah 5) (ab (ah 6) (ag)))) (az (.int 1))) (ab (aj hX (ab (ah 5) (ab (ah 6) (ag)))) (ag))))) (gN 4) (jp 3 (ab (ah 4) (ab (ah 7) (ag))) Vs)))
theorem wy {ρ:aG}{a b:Nat}(h5:ah 5 ρ=some (nI a))(h6:ah 6 ρ=some (nI b))(ha:a<=900)(hb:b<=900):
 hZ (ab (ar bA (aj eU (ab (ah 5) (ab (ah 6) (ag)))) (az (.int 1))) (ab (aj hX (ab (ah 5) (ab (ah 6) (ag)))) (ag))) ρ=some ((List.range' (min a b+1) (max a b- (min a b+1))).map nI):=
 lO (aq ((ax (BN (aq h5 (aq h6 rfl))) (y:=.int 1) rfl).trans (by rw[cS];rfl)) (aq (Bf (aq h5 (aq h6 rfl))) rfl)) (by omega) (by omega)
section
variable {n:Nat}{r x:List Nat}(R:Ord n r)(X:Ord n x)(hn:n<=6)
include R X hn
theorem Cc {c:Nat}(hc:c<n)(d3 s5 s6 s7:Sl): ∃s5' s6' s7',bU [.v (aP r x),.v (nI n),.ob (.dT (jm n r x c)),d3,.v (nI c),s5,s6,s7]=.nx [.v (aP r x),.v (nI n),.ob (.dT (jm n r x (c+1))),d3,.v (nI c),s5',s6',s7']:=by
 have q1: ∀t5,aY 5 (ar aM (ar aM (ah 0) (az (.int 1))) (ah 4)) [.v (aP r x),.v (nI n),.ob (.dT (jm n r x c)),d3,.v (nI c),t5,s6,s7]=.nx [.v (aP r x),.v (nI n),.ob (.dT (jm n r x c)),d3,.v (nI c),.v (nI (x.getD c 0)),s6,s7]:=λt5=>
  (bc ((ax ((ax (x:=aP r x) (y:=.int 1) rfl rfl).trans rfl) (y:=nI c) rfl).trans (iT (by rw[X.len];exact hc)))).trans rfl
 have q2:aY 6 (ar aM (ar aM (ah 0) (az (.int 0))) (ah 4)) [.v (aP r x),.v (nI n),.ob (.dT (jm n r x c)),d3,.v (nI c),.v (nI (x.getD c 0)),s6,s7]=.nx [.v (aP r x),.v (nI n),.ob (.dT (jm n r x c)),d3,.v (nI c),.v (nI (x.getD c 0)),.v (nI (r.getD c 0)),s7]:=
  (bc ((ax ((ax (x:=aP r x) (y:=.int 0) rfl rfl).trans rfl) (y:=nI c) rfl).trans (iT (by rw[R.len];exact hc)))).trans rfl
 have hx:=X.get hc
 have hr:=R.get hc
 obtain⟨s7',q3⟩:=lK (i:=2) (g:=gN 7) (fs:=ab (ah 4) (ab (ah 7) (ag))) (fv:=Vs) (h:=nI) (key:=λy=>fh (c,y)) (v:=λy=>zY r x (c,y)) (Q:=λ_=>True) (st:=λkvs s=>[.v (aP r x),.v (nI n),.ob (.dT kvs),d3,.v (nI c),.v (nI (x.getD c 0)),.v (nI (r.getD c 0)),s])
  (λ_ _ _=>rfl) (λ_ _ _=>rfl) (λ_ _ _=>za (a:=x.getD c 0) (b:=r.getD c 0) rfl rfl) (λ_ _=>rfl) (λ_ _ _=>rfl) (λ_=>by show 2<=1000;omega)
  ((List.range n).filter λy=>jg y (x.getD c 0) (r.getD c 0)) (jm n r x c) s7 (λ_ _=>trivial) (by
    have h1:=oF n r x c
    have h2:=List.length_filter_le (λy=>jg y (x.getD c 0) (r.getD c 0)) (List.range n)
    have h3:c*n<=6*6:=Nat.mul_le_mul (by omega) hn
    rw[List.length_range] at h2;unfold jm;rw[List.length_map];omega)
  (λy _=>j6 λp hp e=>by
    have:=(upP_mem.mp hp).1
    rw[fN e] at this;exact Nat.lt_irrefl _ this)
  (by
    exact List.pairwise_map.mpr ((List.Pairwise.filter _ List.nodup_range).imp λh e=>h (congrArg Prod.snd (fN e))))
 refine⟨.v (nI (x.getD c 0)),.v (nI (r.getD c 0)),s7',?_⟩
 refine(ay (q1 s5)).trans ((ay q2).trans ((dY (bG (wy (a:=x.getD c 0) (b:=r.getD c 0) rfl rfl (by omega) (by omega)))).trans ?_))
 rw[vm hx hr];refine q3.trans ?_
 unfold jm;rw[oO,List.map_append,List.map_map];rfl
theorem Bg {y:Nat}(hy:y<n)(d2 s4 s5 s6:Sl): ∃s4' s5' s6',bL [.v (aP r x),.v (nI n),d2,.ob (.dT (jO n r x y)),s4,s5,s6,.v (nI y)]=.nx [.v (aP r x),.v (nI n),d2,.ob (.dT (jO n r x (y+1))),s4',s5',s6',.v (nI y)]:=by
 have fd: ∀(o:List Nat) (O:Ord n o) (e:FE) (ρ:aG) (_:ah 1 ρ=some (nI n)) (_:ah 7 ρ=some (nI y)) (_:ρ.length=8) (_: ∀ρ',ah 0 (ρ++ρ')=some (aP r x)) (_: ∀ρ',ah 0 ρ'=some (aP r x)->ar aM (ah 0) e ρ'=some (cG o)),
  ar aM (aO 1 (aW (ab (ah 1) (ag))) (gN 8) (bF (ar iu (ar aM (ar aM (ah 0) e) (ah 8)) (ah 7))) (ah 8)) (az (.int 0)) ρ=some (nI (o.idxOf y)):=by
  intro o O e ρ h1 h7 hl h0 h00;have g8: ∀c,gN 8 (nI c) (ρ++List.replicate 1 .no)=some (ρ++[.v (nI c)]):=λc=>by
   show some ((ρ++[Sl.no]).set 8 (.v (nI c)))=_;rw[List.set_append_right _ _ (by omega),hl];rfl
  have n8: ∀c,ah 8 (ρ++[.v (nI c)])=some (nI c):=λc=>by
   unfold ah;rw[List.getElem?_append_right (by omega),hl];rfl
  have n7: ∀c,ah 7 (ρ++[.v (nI c)])=some (nI y):=λc=>by
   have:(ρ++[Sl.v (nI c)])[7]? =ρ[7]? :=List.getElem?_append_left (by omega)
   unfold ah at h7⊢;rw[this];exact h7
  have cp:aO 1 (aW (ab (ah 1) (ag))) (gN 8) (bF (ar iu (ar aM (ar aM (ah 0) e) (ah 8)) (ah 7))) (ah 8) ρ=some (.lst [nI (o.idxOf y)]):=by
   refine bx (ds:=(List.range n).map nI) (bz (aq h1 rfl) (by omega)) (by simp;omega) ?_
   have:=eJ (g:=gN 8) (p:=bF (ar iu (ar aM (ar aM (ah 0) e) (ah 8)) (ah 7))) (f:=ah 8) (ρ0:=ρ++List.replicate 1 .no) (h:=nI) (o:=nI) (q:=λv=>decide (o.getD v 0=y)) (List.range n) λv hv=>⟨_,g8 v,dU ((ax ((ax (h00 _ (h0 _)) (n8 v)).trans (iT (by rw[O.len];exact List.mem_range.mp hv))) (n7 v)).trans (ot _ _)),λ_=>n8 v⟩
   rw[this,eR (cw O hy).1 λi hi=>by
    rw[decide_eq_true_eq];constructor
    ·intro e
     have:=fG O (c:=i) hi
     rw[e] at this;exact this.symm
    ·rintro rfl;exact(cw O hy).2]
   rfl
  exact(ax cp (y:=.int 0) rfl).trans rfl
 have q1:aY 5 (ar aM (aO 1 (aW (ab (ah 1) (ag))) (gN 8) (bF (ar iu (ar aM (ar aM (ah 0) (az (.int 0))) (ah 8)) (ah 7))) (ah 8)) (az (.int 0))) [.v (aP r x),.v (nI n),d2,.ob (.dT (jO n r x y)),s4,s5,s6,.v (nI y)]=.nx [.v (aP r x),.v (nI n),d2,.ob (.dT (jO n r x y)),s4,.v (nI (r.idxOf y)),s6,.v (nI y)]:=
  (bc (fd r R _ _ rfl rfl rfl (λ_=>rfl) λρ' h=>(ax h (y:=.int 0) rfl).trans rfl)).trans rfl
 have q2:aY 6 (ar aM (aO 1 (aW (ab (ah 1) (ag))) (gN 8) (bF (ar iu (ar aM (ar aM (ah 0) (az (.int 1))) (ah 8)) (ah 7))) (ah 8)) (az (.int 0))) [.v (aP r x),.v (nI n),d2,.ob (.dT (jO n r x y)),s4,.v (nI (r.idxOf y)),s6,.v (nI y)]=.nx [.v (aP r x),.v (nI n),d2,.ob (.dT (jO n r x y)),s4,.v (nI (r.idxOf y)),.v (nI (x.idxOf y)),.v (nI y)]:=
  (bc (fd x X _ _ rfl rfl rfl (λ_=>rfl) λρ' h=>(ax h (y:=.int 1) rfl).trans rfl)).trans rfl
 have hr:=(cw R hy).1
 have hx:=(cw X hy).1
 obtain⟨s4',q3⟩:=lK (i:=3) (g:=gN 4) (fs:=ab (ah 4) (ab (ah 7) (ag))) (fv:=Vs) (h:=nI) (key:=λc=>fh (c,y)) (v:=λc=>A9 r x (c,y)) (Q:=λ_=>True) (st:=λkvs s=>[.v (aP r x),.v (nI n),d2,.ob (.dT kvs),s,.v (nI (r.idxOf y)),.v (nI (x.idxOf y)),.v (nI y)])
  (λ_ _ _=>rfl) (λ_ _ _=>rfl) (λ_ _ _=>za (a:=r.idxOf y) (b:=x.idxOf y) rfl rfl) (λ_ _=>rfl) (λ_ _ _=>rfl) (λ_=>by show 2<=1000;omega)
  ((List.range n).filter λc=>jg c (r.idxOf y) (x.idxOf y)) (jO n r x y) s4 (λ_ _=>trivial) (by
    have h1:=sP n r x y
    have h2:=List.length_filter_le (λc=>jg c (r.idxOf y) (x.idxOf y)) (List.range n)
    have h3:y*n<=6*6:=Nat.mul_le_mul (by omega) hn
    rw[List.length_range] at h2;unfold jO;rw[List.length_map];omega)
  (λc _=>j6 λp hp e=>by
    have:=(lvP_mem.mp hp).1
    rw[fN e] at this;exact Nat.lt_irrefl _ this)
  (by
    exact List.pairwise_map.mpr ((List.Pairwise.filter _ List.nodup_range).imp λh e=>h (congrArg Prod.fst (fN e))))
 refine⟨s4',.v (nI (r.idxOf y)),.v (nI (x.idxOf y)),?_⟩
 refine(ay q1).trans ((ay q2).trans ((dY (bG (wy (a:=r.idxOf y) (b:=x.idxOf y) rfl rfl (by omega) (by omega)))).trans ?_))
 rw[vm hr hx];refine q3.trans ?_
 unfold jO;rw[o9,List.map_append,List.map_map];rfl
theorem yq:eC [aP r x]=some (jm n r x n,jO n r x n):=by
 obtain⟨ρ1,h1,s4,s5,s6,s7,rfl⟩:=iE (g:=gN 4) (b:=bU) (P:=λi ρ=> ∃s4 s5 s6 s7,ρ=[.v (aP r x),.v (nI n),.ob (.dT (jm n r x i)),.ob (.dT []),s4,s5,s6,s7]) n 0 (λi ρ _ hi hq_=>by
  obtain⟨s4,s5,s6,s7,e⟩:=hq_
  subst e;rw[Nat.zero_add] at hi;obtain⟨s5',s6',s7',h⟩:=Cc R X hn hi (.ob (.dT [])) s5 s6 s7
  exact⟨_,_,rfl,h,_,_,_,_,rfl⟩) [.v (aP r x),.v (nI n),.ob (.dT []),.ob (.dT []),.no,.no,.no,.no] ⟨.no,.no,.no,.no,rfl⟩
 obtain⟨ρ2,h2,t4,t5,t6,t7,rfl⟩:=iE (g:=gN 7) (b:=bL) (P:=λi ρ=> ∃s4 s5 s6 s7,ρ=[.v (aP r x),.v (nI n),.ob (.dT (jm n r x n)),.ob (.dT (jO n r x i)),s4,s5,s6,s7]) n 0 (λi ρ _ hi hq_=>by
  obtain⟨s4,s5,s6,s7,e⟩:=hq_
  subst e;rw[Nat.zero_add] at hi;obtain⟨s4',s5',s6',h⟩:=Bg R X hn hi (.ob (.dT (jm n r x n))) s4 s5 s6
  exact⟨_,_,rfl,h,_,_,_,_,rfl⟩) [.v (aP r x),.v (nI n),.ob (.dT (jm n r x n)),.ob (.dT []),s4,s5,s6,s7] ⟨s4,s5,s6,s7,rfl⟩
 rw[Nat.zero_add] at h1 h2;have e0:gZ (gG 8 [aP r x])=.nx [.v (aP r x),.v (nI n),.ob (.dT (jm n r x n)),.ob (.dT (jO n r x n)),t4,t5,t6,t7]:=by
  unfold gZ;refine(ay (ρ':=[.v (aP r x),.v (nI n),.no,.no,.no,.no,.no,.no]) ((bc (d:=nI n) ((ij r _ _ ((ax (x:=aP r x) (y:=.int 0) rfl rfl).trans rfl)).trans (by rw[R.len]))).trans rfl)).trans ?_
  refine(ay (ρ':=[.v (aP r x),.v (nI n),.ob (.dT []),.no,.no,.no,.no,.no]) rfl).trans ?_
  refine(ay (ρ':=[.v (aP r x),.v (nI n),.ob (.dT []),.ob (.dT []),.no,.no,.no,.no]) rfl).trans ?_
  refine(ay ((dY (ds:=(List.range n).map nI) (bG (bz (n:=n) (aq rfl rfl) (by omega)))).trans (by rw[List.range_eq_range'];exact h1))).trans ?_
  refine(ay ((dY (ds:=(List.range n).map nI) (bG (bz (n:=n) (aq rfl rfl) (by omega)))).trans (by rw[List.range_eq_range'];exact h2))).trans rfl
 show xq 8 2 3 gZ [aP r x]=_;unfold xq;rw[e0];rfl
def bC:FS:=fY (wc 2 (ah 4)) (bT (aU 3 1 fL (cC (ab (df (ab (ar aM (ah 4) (az (.int 0))) (ab (ar aM (ah 4) (az (.int 1))) (ab (ar aM (cq (ab (i4 (az (.int 1))) (ab (az (.int 1)) (ag)))) (aj mq (ab (ar kA (jV 1 (ah 4)) (jV 2 (ah 4))) (ag)))) (ag))))) (ag))))) (skip)
omit R X in
theorem nR: ∀(l:List (Nat×Nat)) (F:List (List Int)) (s4:Sl),(∀p∈l,p∈qw n r x n)->F.length+l.length<=100->
 ∃s4',fy (gN 4) bC ((l.map fh).map gb) [.v (aP r x),.ob (.dT (jm n r x n)),.ob (.dT (jO n r x n)),.own (F.map gb),s4]=.nx [.v (aP r x),.ob (.dT (jm n r x n)),.ob (.dT (jO n r x n)),.own ((F++(l.filter λp=>jg p.1 (r.idxOf p.2) (x.idxOf p.2)).map (λp=>[(p.1:Int),(p.2:Int),ng r x p.1 p.2])).map gb),s4']
 | [],F,s4,_,_=>⟨s4,by rw[List.filter_nil,List.map_nil,List.map_nil,List.map_nil,List.append_nil];rfl⟩
 |p::l,F,s4,hp,hl=>by
  have hm:=hp p List.mem_cons_self
  have hm':=upP_mem.mp hm
  rw[List.length_cons] at hl
  let st:List (List Int)->aG:=λF=>[.v (aP r x),.ob (.dT (jm n r x n)),.ob (.dT (jO n r x n)),.own (F.map gb),.v (gb (fh p))]
  have ku:fQ (jm n r x n) (iK (fh p))=some (zY r x p):=pp hm λb _ e=>by rw[fN e]
  have fk: ∀F,(ah 4 (st F)).bind vb=some (fh p):=λF=>gJ _
  have din: ∀F,wc 2 (ah 4) (st F)=some (fQ (jO n r x n) (iK (fh p))).isSome:=λF=>by
   unfold wc;rw[show ic 2 (st F)=some (jO n r x n) from rfl,Option.bind_some,fk F];rfl
  rw[List.map_cons,List.map_cons];cases e:jg p.1 (r.idxOf p.2) (x.idxOf p.2) with
  |false=>
   have kl:fQ (jO n r x n) (iK (fh p))=none:=j6 λb hb w=>by
    have:=(lvP_mem.mp hb).2.2
    rw[fN w,e] at this;cases this
   obtain⟨s4',h⟩:=nR l F (.v (gb (fh p))) (λq hq=>hp q (List.mem_cons_of_mem _ hq)) (by omega)
   refine⟨s4',(dH (ρ1:=st F) rfl (ρ2:=st F) ?_).trans (h.trans (by rw[List.filter_cons_of_neg (by rw[e];decide)]))⟩
   exact mL ((din F).trans (by rw[kl];rfl))
  |true=>
   have kl:fQ (jO n r x n) (iK (fh p))=some (A9 r x p):=pp (lvP_mem.mpr ⟨hm'.2.1,hm'.1,e⟩) λb _ e=>by rw[fN e]
   obtain⟨s4',h⟩:=nR l (F++[[(p.1:Int),(p.2:Int),ng r x p.1 p.2]]) (.v (gb (fh p))) (λq hq=>hp q (List.mem_cons_of_mem _ hq)) (by rw[List.length_append,List.length_singleton];omega)
   have ix1:jV 1 (ah 4) (st F)=some (zY r x p):=by
    unfold jV;rw[show ic 1 (st F)=some (jm n r x n) from rfl,Option.bind_some,fk F,Option.bind_some,ku]
   have ix2:jV 2 (ah 4) (st F)=some (A9 r x p):=by
    unfold jV;rw[show ic 2 (st F)=some (jO n r x n) from rfl,Option.bind_some,fk F,Option.bind_some,kl]
   have sg:ar aM (cq (ab (i4 (az (.int 1))) (ab (az (.int 1)) (ag)))) (aj mq (ab (ar kA (jV 1 (ah 4)) (jV 2 (ah 4))) (ag))) (st F)=some (.int (ng r x p.1 p.2)):=by
    have e1:aj mq (ab (ar kA (jV 1 (ah 4)) (jV 2 (ah 4))) (ag)) (st F)=some (nI (if decide (x.getD p.1 0<r.getD p.1 0)=decide (r.idxOf p.2<x.idxOf p.2) then 0 else 1)):=by
     rw[bf (ds:=[.bl (!cP (zY r x p) (A9 r x p))]) (aq ((ax ix1 ix2).trans (lv (by unfold zY dS;omega))) rfl)]
     unfold zY A9;cases decide (x.getD p.1 0<r.getD p.1 0)<;>cases decide (r.idxOf p.2<x.idxOf p.2)<;>unfold cP<;>rfl
    refine(ax (x:=.lst [.int (-1),.int 1]) rfl e1).trans ?_
    unfold ng;split
    ·rfl
    ·rfl
   refine⟨s4',(dH (ρ1:=st F) rfl (ρ2:=st (F++[[(p.1:Int),(p.2:Int),ng r x p.1 p.2]])) ?_).trans (h.trans (by rw[List.filter_cons_of_pos (p:=λp:Nat×Nat=>jg p.1 (r.idxOf p.2) (x.idxOf p.2)) e,List.map_cons,List.append_assoc];rfl))⟩
   refine(tu ((din F).trans (by rw[kl];rfl))).trans ?_
   refine(j4 (i:=3) (b0:=F.map gb) (bs:=F.map gb) (d:=gb [(p.1:Int),(p.2:Int),ng r x p.1 p.2]) rfl (bG (aq (gc (aq ((ax (x:=gb (fh p)) (y:=.int 0) rfl rfl).trans rfl) (aq ((ax (x:=gb (fh p)) (y:=.int 1) rfl rfl).trans rfl) (aq sg rfl))) (by simp)) rfl)) rfl (by rw[List.length_map];omega)).trans ?_
   show Out.nx [.v (aP r x),.ob (.dT (jm n r x n)),.ob (.dT (jO n r x n)),.own (F.map gb++[gb [(p.1:Int),(p.2:Int),ng r x p.1 p.2]]),.v (gb (fh p))]=Out.nx [.v (aP r x),.ob (.dT (jm n r x n)),.ob (.dT (jO n r x n)),.own ((F++[[(p.1:Int),(p.2:Int),ng r x p.1 p.2]]).map gb),.v (gb (fh p))];rw[List.map_append];rfl
theorem tZ:bP [aP r x]=some (.lst ((xQ n r x).map gb)):=by
 have ul:(qw n r x n).length<=36:=Nat.le_trans (oF n r x n) (Nat.mul_le_mul hn hn)
 apply lS (kd:=.n) (n:=5) (t:=eX)
 unfold eX;have q1:pC 1 2 1 eC (ab (ah 0) (ag)) (gG 5 [aP r x])=.nx [.v (aP r x),.ob (.dT (jm n r x n)),.ob (.dT (jO n r x n)),.no,.no]:=by
  unfold pC;rw[show(ab (ah 0) (ag)) (gG 5 [aP r x])=some [aP r x] from rfl];show(if [aP r x].length=1 then(match eC [aP r x] with|some (p,q)=>Out.nx _|none=>Out.no) else Out.no)=_
  rw[if_pos (show [aP r x].length=1 from rfl),yq R X hn];rfl
 have q2:dz 3 (cq (ag)) [.v (aP r x),.ob (.dT (jm n r x n)),.ob (.dT (jO n r x n)),.no,.no]=.nx [.v (aP r x),.ob (.dT (jm n r x n)),.ob (.dT (jO n r x n)),.own [],.no]:=(fW (iJ (ds:=[]) rfl (by simp))).trans rfl
 have q3:sA 1 [.v (aP r x),.ob (.dT (jm n r x n)),.ob (.dT (jO n r x n)),.own [],.no]=some (.lst (((qw n r x n).map fh).map gb)):=by
  unfold sA;rw[show ic 1 [.v (aP r x),.ob (.dT (jm n r x n)),.ob (.dT (jO n r x n)),.own [],.no]=some (jm n r x n) from rfl,Option.bind_some];unfold jm;rw[oX,Option.bind_some,if_pos ⟨by rw[List.length_map];omega,λk hk=>by obtain⟨p,_,rfl⟩:=List.mem_map.mp hk;unfold fh;simp⟩,<-nB Ab (List.Perm.refl _) (zI n r x n)]
 obtain⟨s4,h⟩:=nR (n:=n) (r:=r) (x:=x) hn (qw n r x n) [] .no (λ_ h=>h) (by simp;omega)
 rw[List.nil_append,Aa] at h;exact⟨_,(ay q1).trans ((ay q2).trans ((ay ((dY (bG (gn q3))).trans h)).trans rfl))⟩
end
theorem wJ {n:Nat}{r x:List Nat}(R:Ord n r)(X:Ord n x)(hn:n<=8): ∃C:Nat->List Nat,(∀s,s<n->Cy n (fo r x) s (C s))/\
 cx [aP r x]=some (.lst (((List.range n).filter (fq (fo r x))).map λs=>.lst ((C s).map nI))):=by
 obtain⟨C,hC,h⟩:=ko (nv R X) (by omega)
 refine⟨C,hC,?_⟩
 apply cK (kd:=.n) (n:=3) (t:=ja)
 unfold ja;refine(ay (ρ':=[.v (aP r x),.v (cG r),.v (cG x)]) (nY (kf rfl) rfl)).trans ?_
 refine cJ ((cA (ds:=[.lst (((List.range n).map (fo r x)).map nI)]) (aq ?_ rfl) rfl).trans h)
 refine bx (ds:=r.map nI) (Af rfl) (by rw[List.length_map,R.len];omega) ?_
 have er:r.map nI=(List.range n).map λy=>nI (r.getD y 0):=by
  conv=>lhs;rw[ui r,R.len,List.map_map]
  rfl
 rw[er,List.map_map];refine ck (List.range n) λy hy=>?_
 rw[List.mem_range] at hy;exact⟨_,rfl,(ax (x:=cG x) (y:=nI (r.getD y 0)) rfl rfl).trans (iM X (R.get hy))⟩
theorem wV(L:List Nat)(c:Nat):ki true (nI c) (.lst (L.map nI))=some (.bl (!decide (c∈L))):=by
 unfold ki nL;dsimp only;rw[jA,if_pos (by omega),zf]
 rfl
section
variable {n:Nat}{r x:List Nat}(R:Ord n r)(X:Ord n x)(hn:n<=6)
abbrev qc(r x:List Nat)(s:Nat)(W:List Nat)(c:Nat)(s4:Sl):aG:=[.v (aP r x),.v (nI s),.own (W.map nI),.v (nI c),s4]
def cW:FT:=bF (ar (ki true) (ah 3) (dm 2))
def bW:FS:=aB (bT (aU 2 1 fL (cC (ab (ah 3) (ag)))))
 (aB (aY 4 (ar aM (aO 1 (aW (ab (aj br (ab (ar aM (ah 0) (az (.int 0))) (ag))) (ag))) (gN 5) (bF (ar iu (ar aM (ar aM (ah 0) (az (.int 0))) (ah 3)) (ah 5))) (ah 5)) (az (.int 0))))
 (aY 3 (ar aM (aO 1 (aW (ab (aj br (ab (ar aM (ah 0) (az (.int 0))) (ag))) (ag))) (gN 5) (bF (ar iu (ar aM (ar aM (ah 0) (az (.int 1))) (ah 5)) (ah 4))) (ah 5)) (az (.int 0)))))
include R X hn
theorem y8 {s c:Nat}{W:List Nat}{s4:Sl}(hc:c<n)(hW:W.length<=60):bW (qc r x s W c s4)=.nx (qc r x s (W++[c]) (fo r x c) (.v (nI (r.getD c 0)))):=by
 have ln: ∀W c s4,aW (ab (aj br (ab (ar aM (ah 0) (az (.int 0))) (ag))) (ag)) (qc r x s W c s4)=some ((List.range n).map nI):=λW c s4=>bz (aq ((ij r _ _ ((ax (x:=aP r x) (y:=.int 0) rfl rfl).trans rfl)).trans (by rw[R.len])) rfl) (by omega)
 have q1:bT (aU 2 1 fL (cC (ab (ah 3) (ag)))) (qc r x s W c s4)=.nx (qc r x s (W++[c]) c s4):=by
  refine(j4 (i:=2) (b0:=W.map nI) (bs:=W.map nI) (d:=nI c) rfl (bG (aq rfl rfl)) rfl (by simp;omega)).trans ?_
  show Out.nx [.v (aP r x),.v (nI s),.own (W.map nI++[nI c]),.v (nI c),s4]=_;rw[<-List.map_singleton,<-List.map_append]
 have q2:aY 4 (ar aM (aO 1 (aW (ab (aj br (ab (ar aM (ah 0) (az (.int 0))) (ag))) (ag))) (gN 5) (bF (ar iu (ar aM (ar aM (ah 0) (az (.int 0))) (ah 3)) (ah 5))) (ah 5)) (az (.int 0))) (qc r x s (W++[c]) c s4)=.nx (qc r x s (W++[c]) c (.v (nI (r.getD c 0)))):=by
  refine(bc ((ax (x:=.lst [nI (r.getD c 0)]) (y:=.int 0) (bx (ln _ _ _) (by simp;omega) ?_) rfl).trans rfl)).trans rfl
  have:=eJ (g:=gN 5) (p:=bF (ar iu (ar aM (ar aM (ah 0) (az (.int 0))) (ah 3)) (ah 5))) (f:=ah 5) (ρ0:=qc r x s (W++[c]) c s4++List.replicate 1 .no) (h:=nI) (o:=nI) (q:=λv=>decide (r.getD c 0=v)) (List.range n) λv hv=>⟨_,rfl,dU ((ax ((ax ((ax (x:=aP r x) (y:=.int 0) rfl rfl).trans rfl) (y:=nI c) rfl).trans (iT (by rw[R.len];exact hc))) (y:=nI v) rfl).trans (ot _ _)),λ_=>rfl⟩
  rw[this,eR (R.get hc) λi hi=>by rw[decide_eq_true_eq];exact eq_comm]
  rfl
 have q3:aY 3 (ar aM (aO 1 (aW (ab (aj br (ab (ar aM (ah 0) (az (.int 0))) (ag))) (ag))) (gN 5) (bF (ar iu (ar aM (ar aM (ah 0) (az (.int 1))) (ah 5)) (ah 4))) (ah 5)) (az (.int 0))) (qc r x s (W++[c]) c (.v (nI (r.getD c 0))))=.nx (qc r x s (W++[c]) (fo r x c) (.v (nI (r.getD c 0)))):=by
  refine(bc ((ax (x:=.lst [nI (fo r x c)]) (y:=.int 0) (bx (ln _ _ _) (by simp;omega) ?_) rfl).trans rfl)).trans rfl
  have:=eJ (g:=gN 5) (p:=bF (ar iu (ar aM (ar aM (ah 0) (az (.int 1))) (ah 5)) (ah 4))) (f:=ah 5) (ρ0:=qc r x s (W++[c]) c (.v (nI (r.getD c 0)))++List.replicate 1 .no) (h:=nI) (o:=nI) (q:=λv=>decide (x.getD v 0=r.getD c 0)) (List.range n) λv hv=>⟨_,rfl,dU ((ax ((ax ((ax (x:=aP r x) (y:=.int 1) rfl rfl).trans rfl) (y:=nI v) rfl).trans (iT (by rw[X.len];exact List.mem_range.mp hv))) (y:=nI (r.getD c 0)) rfl).trans (ot _ _)),λ_=>rfl⟩
  rw[this,eR (cw X (R.get hc)).1 λi hi=>by
   rw[decide_eq_true_eq];constructor
   ·intro e
    have:=fG X (c:=i) hi
    rw[e] at this;exact this.symm
   ·rintro rfl;exact(cw X (R.get hc)).2]
  rfl
 exact(ay q1).trans ((ay q2).trans q3)
theorem ue(s:Nat): ∀(f:Nat) (W:List Nat) (t:Nat) (s4:Sl),n<f+W.length->Wl n (fo r x) s W t-> ∃L s3 s4',kP cW bW f (qc r x s W (fo r x t) s4)=.nx [.v (aP r x),.v (nI s),.own (L.map nI),s3,s4']/\Cy n (fo r x) s L:=by
 intro f
 induction f with
 |zero=>intro W t s4 h w;exact absurd (gB w.w.nd w.w.lt) (by omega)
 |succ f ih=>
  intro W t s4 h w;have wl:=gB w.w.nd w.w.lt
  have tst:cW (qc r x s W (fo r x t) s4)=some (!decide (fo r x t∈W)):=dU ((ax (x:=nI (fo r x t)) (y:=.lst (W.map nI)) rfl rfl).trans (wV _ _))
  by_cases e:fo r x t=s
  ·refine⟨W,.v (nI (fo r x t)),s4,?_,w.done e⟩
   unfold kP;rw[tst,e,decide_eq_true w.w.hs];rfl
  ·have ni:=w.w.notin (nv R X).sg e
   obtain⟨L,s3,s4',h1,h2⟩:=ih (W++[fo r x t]) (fo r x t) (.v (nI (r.getD (fo r x t) 0))) (by rw[List.length_append,List.length_singleton];omega) (w.next (nv R X) e)
   refine⟨L,s3,s4',?_,h2⟩
   have tst':cW (qc r x s W (fo r x t) s4)=some true:=by rw[tst,decide_eq_false ni];rfl
   unfold kP;rw[tst'];dsimp only;rw[y8 R X hn ((nv R X).lt t (w.w.lt _ w.w.ht)) (by omega)]
   exact h1
theorem yf {s:Nat}(hs:s<n): ∃L,eO [aP r x,nI s]=some (.lst (L.map nI))/\Cy n (fo r x) s L:=by
 obtain⟨L,s3,s4',h1,h2⟩:=ue R X hn s 63 [s] s (.v (nI (r.getD s 0))) (by simp;omega) (Wl.start hs)
 refine⟨L,?_,h2⟩
 apply cK (kd:=.n) (n:=5) (t:=i5)
 unfold i5;refine(ay (ρ':=[.v (aP r x),.v (nI s),.own [],.no,.no]) ((fW (iJ (ds:=[]) rfl (by simp))).trans rfl)).trans ?_
 refine(ay (ρ':=qc r x s [] s .no) ((bc (d:=nI s) rfl).trans rfl)).trans ?_
 have st:kP cW bW 64 (qc r x s [] s .no)=.nx [.v (aP r x),.v (nI s),.own (L.map nI),s3,s4']:=by
  have tst:cW (qc r x s [] s .no)=some true:=dU ((ax (x:=nI s) (y:=.lst ([].map nI)) rfl rfl).trans (wV [] s))
  unfold kP;rw[tst];dsimp only;rw[y8 R X hn hs (by simp)]
  exact h1
 refine(ay st).trans ?_
 rfl
theorem C8 {C:Nat->List Nat}(hC: ∀s,s<n->Cy n (fo r x) s (C s)){c:Nat}(hc:c<n):((List.range c).filter (fq (fo r x))).any (λs=>decide (c∈C s))= !fq (fo r x) c:=by
 have H:=(nv R X).sg
 rw[Bool.eq_iff_iff,List.any_eq_true,Bool.not_eq_true'];constructor
 ·rintro⟨s,hs,hm⟩
  rw[List.mem_filter,List.mem_range] at hs;rw[decide_eq_true_eq] at hm;have h1:=((hC s (by omega)).c.mem c).mp hm
  have h2:=(hC s (by omega)).c.back c hm
  cases e:fq (fo r x) c with
  |false=>rfl
  |true=>exact absurd (ledB_iff.mp e s h2) (by omega)
 ·intro e
  obtain⟨m,hm1,hm2,hm3⟩:=wF H hc
  have lc: ¬led (fo r x) c:=λh=>by rw[ledB_iff.mpr h] at e;cases e
  have hb:=pe H hc hm3
  have le:m<=c:=hm2 c hb
  have ne:m≠c:=λz=>lc (z▸hm2)
  exact⟨m,List.mem_filter.mpr ⟨List.mem_range.mpr (by omega),ledB_iff.mpr hm2⟩,decide_eq_true (((hC m hm1).c.mem c).mpr hb)⟩
theorem um {C:Nat->List Nat}(hC: ∀s,s<n->Cy n (fo r x) s (C s)):cY [aP r x]=some (.lst (((List.range n).filter (fq (fo r x))).map λs=>.lst ((C s).map nI))):=by
 let G:Nat->List D:=λk=>((List.range k).filter (fq (fo r x))).map λs=>.lst ((C s).map nI)
 have gl: ∀k,(G k).length<=k:=λk=>by
  show(List.map _ _).length<=k;rw[List.length_map];exact Nat.le_trans (List.length_filter_le _ _) (by simp)
 have step: ∀(k:Nat) (s2:Sl),k<n->fY (gp (gD (aj mw (ab (aO 1 (j3 (dm 1)) (gN 3) (cm) (ar (ki false) (ah 2) (ah 3))) (ag))))) (bT (aU 1 1 fL (cC (ab (aj (nF 2 eO) (ab (ah 0) (ab (ah 2) (ag)))) (ag))))) (skip) [.v (aP r x),.own (G k),.v (nI k)]=.nx [.v (aP r x),.own (G (k+1)),.v (nI k)]:=by
  intro k s2 hk;have cp:aO 1 (j3 (dm 1)) (gN 3) (cm) (ar (ki false) (ah 2) (ah 3)) [.v (aP r x),.own (G k),.v (nI k)]=some (.lst ((((List.range k).filter (fq (fo r x))).map λs=>decide (k∈C s)).map D.bl)):=by
   refine bx (xA rfl) (by have:=gl k;omega) ?_
   rw[List.map_map];exact ck (h:=λs=>D.lst ((C s).map nI)) (o:=λs=>D.bl (decide (k∈C s))) _ λs hs=>⟨_,rfl,(ax (x:=nI k) (y:=.lst ((C s).map nI)) rfl rfl).trans (DN _ _)⟩
  have tst:gp (gD (aj mw (ab (aO 1 (j3 (dm 1)) (gN 3) (cm) (ar (ki false) (ah 2) (ah 3))) (ag)))) [.v (aP r x),.own (G k),.v (nI k)]=some (fq (fo r x) k):=by
   have:aj mw (ab (aO 1 (j3 (dm 1)) (gN 3) (cm) (ar (ki false) (ah 2) (ah 3))) (ag)) [.v (aP r x),.own (G k),.v (nI k)]=some (.bl (!fq (fo r x) k)):=by
    rw[bf (aq cp rfl),sx,List.any_map,<-C8 R X hn hC hk];rfl
   have:=jX (iY this)
   rw[Bool.not_not] at this;exact this
  have gs:G (k+1)=G k++(if fq (fo r x) k=true then [D.lst ((C k).map nI)] else []):=by
   show List.map _ _=List.map _ _++_;rw[List.range_succ,List.filter_append,List.map_append];congr 1
   cases e:fq (fo r x) k
   ·rw[List.filter_cons_of_neg (by rw[e];decide)];rfl
   ·rw[List.filter_cons_of_pos e];rfl
  cases e:fq (fo r x) k with
  |false=>
   rw[e] at tst gs;rw[gs,if_neg (by decide),List.append_nil]
   exact mL tst
  |true=>
   rw[e] at tst gs;rw[gs,if_pos rfl];obtain⟨L,hL,hL2⟩:=yf R X hn hk
   cases hL2.uniq (hC k hk)
   exact(tu tst).trans ((j4 (i:=1) (b0:=G k) (bs:=G k) (d:=.lst ((C k).map nI)) rfl (bG (aq ((cA (ds:=[aP r x,nI k]) rfl rfl).trans hL) rfl)) rfl (by have:=gl k;omega)).trans rfl)
 obtain⟨ρ',h,s2',rfl⟩:=iE (g:=gN 2) (b:=fY (gp (gD (aj mw (ab (aO 1 (j3 (dm 1)) (gN 3) (cm) (ar (ki false) (ah 2) (ah 3))) (ag))))) (bT (aU 1 1 fL (cC (ab (aj (nF 2 eO) (ab (ah 0) (ab (ah 2) (ag)))) (ag))))) (skip)) (P:=λi ρ=> ∃s2,ρ=[.v (aP r x),.own (G i),s2]) n 0 (λi ρ _ hi hq_=>by
  obtain⟨s2,e⟩:=hq_
  subst e;rw[Nat.zero_add] at hi;exact⟨_,_,rfl,step i s2 hi,_,rfl⟩) [.v (aP r x),.own [],.no] ⟨.no,rfl⟩
 rw[Nat.zero_add] at h;apply cK (kd:=.n) (n:=3) (t:=ib)
 unfold ib;refine(ay (ρ':=[.v (aP r x),.own [],.no]) ((fW (iJ (ds:=[]) rfl (by simp))).trans rfl)).trans ?_
 refine(ay ((dY (ds:=(List.range n).map nI) (bG (bz (n:=n) (aq ((ij r _ _ ((ax (x:=aP r x) (y:=.int 0) rfl rfl).trans rfl)).trans (by rw[R.len])) rfl) (by omega)))).trans (by rw[List.range_eq_range'];exact h))).trans ?_
 show mj 1 [.v (aP r x),.own (((List.range n).filter (fq (fo r x))).map λs=>.lst ((C s).map nI)),s2']=_
 rfl
end
set_option maxHeartbeats 4000000
theorem wZ(l:List (aV×D))(k:aV)(d:D)(k':aV):eV (l++[(k,d)]) k'=(eV l k').or (if k=k' then some d else none):=by
 unfold eV;rw[List.find?_append];cases e:l.find? λkv=>decide (kv.1=k') with
 |some z=>simp
 |none=>
  by_cases h:k=k'
  ·simp[h]
  ·simp[h]
theorem xH {l:List (aV×D)}{k:aV}(h: ¬(l.any λkv=>decide (kv.1=k))=true):eV l k=none:=by
 unfold eV;have:l.find? (λkv=>decide (kv.1=k))=none:=by
  rw[List.find?_eq_none];intro z hz e;exact h (List.any_eq_true.mpr ⟨z,hz,e⟩)
 rw[this];rfl
theorem pV(k:aV)(d:D)(k':aV): ∀l:List (aV×D),eV (l.map λkv=>if kv.1=k then(kv.1,d) else kv) k'=if k'=k then(if(l.any λkv=>decide (kv.1=k))=true then some d else none) else eV l k'
 | []=>by simp[eV]
 |(k1,d1)::l=>by
  have ih:=pV k d k' l
  have step: ∀(a:aV) (b:D) (t:List (aV×D)),eV ((a,b)::t) k'=if a=k' then some b else eV t k':=λa b t=>by
   unfold eV;rw[List.find?_cons]
   by_cases h:a=k'
   ·simp[h]
   ·simp[h]
  rw[List.map_cons,List.any_cons,step k1 d1 l]
  by_cases h1:k1=k
  ·rw[if_pos h1,step,ih]
   subst h1
   by_cases h2:k'=k1
   ·simp[h2]
   ·simp[h2,Ne.symm h2]
  ·rw[if_neg h1,step,ih]
   by_cases h2:k'=k
   ·subst h2;rw[if_neg h1,if_pos rfl,if_pos rfl,decide_eq_false h1,Bool.false_or]
   ·simp[h1,h2]
theorem vG(l:List (aV×D))(k:aV)(d:D)(k':aV):eV (mx l k d) k'=if k'=k then some d else eV l k':=by
 unfold mx;split
 ·rename_i h
  rw[pV,if_pos h]
 ·rename_i h
  rw[wZ]
  by_cases e:k'=k
  ·subst e;rw[if_pos rfl,if_pos rfl,xH h];rfl
  ·rw[if_neg e,if_neg (Ne.symm e),Option.or_none]
set_option maxHeartbeats 1000000
structure Lns(n:Nat)(S:Nat->Nat)(LL:List (List Nat)):Prop where
 cov: ∀c,c<n-> ∃k,k<LL.length/\c∈LL.getD k []
 uni: ∀k l c,k<LL.length->l<LL.length->c∈LL.getD k []->c∈LL.getD l []->k=l
 lt: ∀k,k<LL.length-> ∀c∈LL.getD k [],c<n
 cl: ∀k,k<LL.length-> ∀c∈LL.getD k [],S c∈LL.getD k []
 len:LL.length<=n
 ll: ∀L∈LL,L.length<=n
def eo(LL:List (List Nat))(c:Nat):Nat:=LL.findIdx λL=>decide (c∈L)
section
variable {n:Nat}{S:Nat->Nat}{LL:List (List Nat)}(h:Lns n S LL)
include h
theorem gE {c:Nat}(hc:c<n):eo LL c<LL.length/\c∈LL.getD (eo LL c) []:=by
 obtain⟨k,hk,hm⟩:=h.cov c hc
 have e:LL.getD k []=LL[k]:=by rw[List.getD_eq_getElem?_getD,List.getElem?_eq_getElem hk];rfl
 have lt:eo LL c<LL.length:=List.findIdx_lt_length_of_exists ⟨LL[k],List.getElem_mem hk,decide_eq_true (e▸hm)⟩
 refine⟨lt,?_⟩
 have:=List.findIdx_getElem (w:=lt) (p:=λL=>decide (c∈L)) (xs:=LL)
 rw[List.getD_eq_getElem?_getD,List.getElem?_eq_getElem lt];exact of_decide_eq_true this
theorem nN {c k:Nat}(hc:c<n)(hk:k<LL.length):c∈LL.getD k []↔k=eo LL c:=by
 obtain⟨h1,h2⟩:=gE h hc
 constructor
 ·intro hm;exact h.uni _ _ c hk h1 hm h2
 ·rintro rfl;exact h2
theorem wI {c:Nat}(hc:c<n):eo LL (S c)=eo LL c:=by
 obtain⟨h1,h2⟩:=gE h hc
 have h3:=h.cl _ h1 c h2
 exact((nN h (h.lt _ h1 _ h3) h1).mp h3).symm
end
theorem AY {n:Nat}{r x:List Nat}(R:Ord n r)(X:Ord n x){C:Nat->List Nat}(hC: ∀s,s<n->Cy n (fo r x) s (C s)):Lns n (fo r x) (((List.range n).filter (fq (fo r x))).map C):=by
 have H:=(nv R X).sg
 generalize hLs:(List.range n).filter (fq (fo r x))=Ls
 have mem: ∀s,s∈Ls↔s<n/\led (fo r x) s:=λs=>by rw[<-hLs,List.mem_filter,List.mem_range,ledB_iff]
 have nd:Ls.Nodup:=by rw[<-hLs];exact List.nodup_range.sublist List.filter_sublist
 have get: ∀k,k<Ls.length->(Ls.map C).getD k []=C (Ls.getD k 0)/\Ls.getD k 0∈Ls:=λk hk=>by
  rw[List.getD_eq_getElem?_getD,List.getElem?_map,List.getElem?_eq_getElem hk,List.getD_eq_getElem?_getD,List.getElem?_eq_getElem hk];exact⟨rfl,List.getElem_mem hk⟩
 refine⟨λc hc=>?_,λk l c hk hl m1 m2=>?_,λk hk c hm=>?_,λk hk c hm=>?_,?_,λL hL=>?_⟩
 ·obtain⟨m,hm1,hm2,hm3⟩:=wF H hc
  have hb:=pe H hc hm3
  obtain⟨k,hk,e⟩:=List.mem_iff_getElem.mp ((mem m).mpr ⟨hm1,hm2⟩)
  refine⟨k,by rw[List.length_map];exact hk,?_⟩
  rw[(get k hk).1];have:Ls.getD k 0=m:=by rw[List.getD_eq_getElem?_getD,List.getElem?_eq_getElem hk];exact e
  rw[this];exact((hC m hm1).c.mem c).mpr hb
 ·rw[List.length_map] at hk hl
  obtain⟨g1,g2⟩:=get k hk
  obtain⟨g3,g4⟩:=get l hl
  rw[g1] at m1;rw[g3] at m2;obtain⟨a1,a2⟩:=(mem _).mp g2
  obtain⟨b1,b2⟩:=(mem _).mp g4
  have p1:=((hC _ a1).c.mem c).mp m1
  have p2:=(hC _ a1).c.back c m1
  have q1:=((hC _ b1).c.mem c).mp m2
  have q2:=(hC _ b1).c.back c m2
  have e1:=a2 _ (iH p1 q2)
  have e2:=b2 _ (iH q1 p2)
  exact nX nd hk hl (by omega)
 ·rw[List.length_map] at hk
  obtain⟨g1,g2⟩:=get k hk
  rw[g1] at hm;exact(hC _ ((mem _).mp g2).1).c.lt c hm
 ·rw[List.length_map] at hk
  obtain⟨g1,g2⟩:=get k hk
  rw[g1] at hm⊢;have hs:=((mem _).mp g2).1
  exact((hC _ hs).c.mem _).mpr (iH (((hC _ hs).c.mem c).mp hm) ⟨1,rfl⟩)
 ·rw[List.length_map,<-hLs]
  exact Nat.le_trans (List.length_filter_le _ _) (by simp)
 ·obtain⟨s,hs,rfl⟩:=List.mem_map.mp hL
  have hs:=((mem _).mp hs).1
  have:=gB (hC s hs).nd (hC s hs).c.lt
  exact this
def je(n:Nat)(r x:List Nat):List (Nat×Nat):=(List.range n).flatMap λc=>((List.range n).filter (qx r x c)).map λy=>(c,y)
theorem wj(n:Nat)(r x:List Nat):xQ n r x=(je n r x).map λp=>[(p.1:Int),(p.2:Int),ng r x p.1 p.2]:=by
 unfold xQ je;rw[List.map_flatMap];congr 1
 funext c;rw[List.map_map];rfl
theorem sh {n:Nat}{r x:List Nat}{p:Nat×Nat}(h:p∈je n r x):p.1<n/\p.2<n:=by
 unfold je at h;obtain⟨c,hc,h⟩:=List.mem_flatMap.mp h
 obtain⟨y,hy,rfl⟩:=List.mem_map.mp h
 exact⟨List.mem_range.mp hc,List.mem_range.mp (List.mem_filter.mp hy).1⟩
theorem ve {α:Type}{b:Nat->Bool}{h:Nat->α}{q:α->Bool}{F:α->Int}: ∀l:List Nat,((((l.filter b).map h).filter q).map F).sum=(l.map λy=>if(b y&&q (h y))=true then F (h y) else 0).sum
 | []=>rfl
 |y::l=>by
  rw[List.map_cons,List.sum_cons,<-ve l];cases e1:b y with
  |false=>rw[List.filter_cons_of_neg (by rw[e1];decide)];simp
  |true=>
   rw[List.filter_cons_of_pos e1,List.map_cons];cases e2:q (h y) with
   |false=>rw[List.filter_cons_of_neg (by rw[e2];decide)];simp
   |true=>rw[List.filter_cons_of_pos e2,List.map_cons,List.sum_cons];simp
theorem sI {α:Type}{g:Nat->List α}{q:α->Bool}{F:α->Int}: ∀l:List Nat,(((l.flatMap g).filter q).map F).sum=(l.map λc=>(((g c).filter q).map F).sum).sum
 | []=>rfl
 |c::l=>by rw[List.flatMap_cons,List.filter_append,List.map_append,List.sum_append,sI l,List.map_cons,List.sum_cons]
theorem kT {n:Nat}{r x:List Nat}{q:Nat×Nat->Bool}{F:Nat×Nat->Int}:(((je n r x).filter q).map F).sum=sm n λc=>sm n λy=>if(qx r x c y&&q (c,y))=true then F (c,y) else 0:=by
 unfold je;rw[sI];unfold sm;congr 1
 refine List.map_congr_left λc _=>?_
 exact ve (List.range n)
def j0(r x:List Nat)(p:Nat×Nat):Int:=ng r x p.1 p.2
def qP(r:List Nat)(ln:Nat->Nat)(a b:Nat)(p:Nat×Nat):Bool:=decide (ln p.1=a)&&decide (ln (r.idxOf p.2)=b)
theorem so {n:Nat}{r x:List Nat}{ln:Nat->Nat}(a b:Nat):(((je n r x).filter (qP r ln a b)).map (j0 r x)).sum=kC n r x ln a b:=by
 rw[kT];unfold kC;refine bX λc _=>bX λy _=>?_
 unfold qP j0 BO en
 by_cases h1:ln c=a<;>by_cases h2:ln (r.idxOf y)=b<;>by_cases h3:qx r x c y=true<;>simp[h1,h2,h3]
theorem yX {n:Nat}{r x:List Nat}{ln:Nat->Nat}{a b:Nat}(ne:a≠b):(((je n r x).filter λp=>qP r ln a b p||qP r ln b a p).map (j0 r x)).sum=kC n r x ln a b+kC n r x ln b a:=by
 rw[<-so,<-so,kT,kT,kT,<-lJ];refine bX λc _=>?_
 rw[<-lJ];refine bX λy _=>?_
 unfold qP j0
 by_cases h1:ln c=a
 ·have h1':ln c≠b:=λe=>ne (h1.symm.trans e)
  by_cases h2:ln (r.idxOf y)=b<;>by_cases h3:qx r x c y=true<;>simp[h1,h1',h2,h3,ne]
 ·by_cases h1':ln c=b
  ·by_cases h2:ln (r.idxOf y)=a<;>by_cases h3:qx r x c y=true<;>simp[h1,h1',h2,h3,ne,Ne.symm ne]
  ·simp[h1,h1']
theorem yW {n:Nat}{r x:List Nat}{ln:Nat->Nat}(a:Nat):(((je n r x).filter λp=>qP r ln a a p||qP r ln a a p).map (j0 r x)).sum=kC n r x ln a a:=by
 rw[<-so];congr 3
 funext p;rw[Bool.or_self]
def AJ(p:Nat×Nat):D:=.tup [nI p.1,nI p.2]
theorem tq {c v:Nat}: ∀(ps:List (Nat×Nat)) (kvs:List (aV×D)),(∀p∈ps,p.1=c->p.2=v)->eV ((ps.map AJ).foldl qS kvs) (.inl c)=if c∈ps.map (·.1) then some (nI v) else eV kvs (.inl c)
 | [],kvs,_=>rfl
 |p::ps,kvs,h=>by
  rw[List.map_cons,List.foldl_cons,tq ps _ λq hq=>h q (List.mem_cons_of_mem _ hq)]
  have e:eV (qS kvs (AJ p)) (.inl (c:Int))=if(c:Int)=p.1 then some (nI p.2) else eV kvs (.inl c):=by
   show eV (mx kvs (.inl (p.1:Int)) (nI p.2)) _=_;rw[vG]
   by_cases e:c=p.1
   ·subst e;simp
   ·have:(c:Int)≠p.1:=by omega
    rw[if_neg this,if_neg (λz=>this (by injection z))]
  rw[e]
  by_cases m:c∈ps.map (·.1)
  ·rw[if_pos m,if_pos (by rw[List.map_cons];exact List.mem_cons_of_mem _ m)]
  ·rw[if_neg m]
   by_cases e:c=p.1
   ·rw[if_pos (by rw[e]),if_pos (by rw[List.map_cons,e];exact List.mem_cons_self),h p List.mem_cons_self e.symm]
   ·rw[if_neg (by omega),if_neg (by rw[List.map_cons,List.mem_cons,not_or];exact⟨e,m⟩)]
def h8(LL:List (List Nat)):D:=.lst (LL.map λL=>.lst (L.map nI))
theorem u3(LL:List (List Nat)):qd (LL.map λL=>D.lst (L.map nI))=(List.range LL.length).map λ(k:Nat)=>D.tup [nI k,.lst ((LL.getD k []).map nI)]:=by
 unfold qd;rw[List.length_map];refine List.map_congr_left λk hk=>?_
 rw[List.mem_range] at hk;congr 3
 rw[List.getD_eq_getElem?_getD,List.getElem?_map,List.getElem?_eq_getElem hk,List.getD_eq_getElem?_getD,List.getElem?_eq_getElem hk];rfl
theorem gK {α β:Type}{f:α->List β}{b:Nat}: ∀(l:List α),(∀a∈l,(f a).length<=b)->(l.flatMap f).length<=l.length*b
 | [],_=>by simp
 |a::l,h=>by
  rw[List.flatMap_cons,List.length_append,List.length_cons,Nat.succ_mul];have h1:=h a List.mem_cons_self
  have h2:=gK l λz hz=>h z (List.mem_cons_of_mem _ hz)
  omega
section
variable {n:Nat}{r x:List Nat}{LL:List (List Nat)}(R:Ord n r)(X:Ord n x)(hn:n<=6)(h:Lns n (fo r x) LL)
include hn h
theorem xJ(q d2:D): ∃kvs,wA 3 3 (vf (ah 1)) (gT 2 (gV (gN 4) (gV (gN 5) (kG)))) (cm) (ze (dg (ah 5)) (gN 6) (cm) (ah 6) (ah 4)) [.v q,.v (h8 LL),.v d2,.no]=.nx [.v q,.v (h8 LL),.v d2,.ob (.dK kvs)]/\ ∀c,c<n->eV kvs (.inl c)=some (nI (eo LL c)):=by
 let ps:List (Nat×Nat):=(List.range LL.length).flatMap λk=>(LL.getD k []).map λc=>(c,k)
 have hl:=h.len
 have e1:vf (ah 1) [.v q,.v (h8 LL),.v d2,.no]=some ((List.range LL.length).map λ(k:Nat)=>D.tup [nI k,.lst ((LL.getD k []).map nI)]):=by
  show some (qd (LL.map λL=>D.lst (L.map nI)))=_
  rw[u3]
 have e2:iq (gT 2 (gV (gN 4) (gV (gN 5) (kG)))) (cm) (ze (dg (ah 5)) (gN 6) (cm) (ah 6) (ah 4)) ([.v q,.v (h8 LL),.v d2,.no]++List.replicate 3 .no) ((List.range LL.length).map λ(k:Nat)=>D.tup [nI k,.lst ((LL.getD k []).map nI)])=some (ps.map AJ):=by
  refine(gh (h:=λ(k:Nat)=>D.tup [nI k,.lst ((LL.getD k []).map nI)]) (q:=λ_=>true) (o:=λk=>(LL.getD k []).map λc=>AJ (c,k)) (List.range LL.length) λk hk=>⟨[.v q,.v (h8 LL),.v d2,.no,.v (nI k),.v (.lst ((LL.getD k []).map nI)),.no],rfl,rfl,λ_=>?_⟩).trans ?_
  ·unfold ze
   rw[show dg (ah 5) [.v q,.v (h8 LL),.v d2,.no,.v (nI k),.v (.lst ((LL.getD k []).map nI)),.no]=some ((LL.getD k []).map nI) from gn rfl,Option.bind_some];refine(gh (h:=nI) (q:=λ_=>true) (o:=λc=>[AJ (c,k)]) (LL.getD k []) λc hc=>⟨[.v q,.v (h8 LL),.v d2,.no,.v (nI k),.v (.lst ((LL.getD k []).map nI)),.v (nI c)],rfl,rfl,λ_=>rfl⟩).trans ?_
   rw[List.filter_eq_self.mpr (λ_ _=>rfl),ie]
  ·rw[List.filter_eq_self.mpr (λ_ _=>rfl)]
   show _=some (List.map AJ (List.flatMap _ _));rw[List.map_flatMap];congr 2
   funext k;rw[List.map_map];rfl
 have mem: ∀p∈ps,p.1<n/\p.2=eo LL p.1:=λp hp=>by
  obtain⟨k,hk,hp⟩:=List.mem_flatMap.mp hp
  obtain⟨c,hc,rfl⟩:=List.mem_map.mp hp
  have hk:=List.mem_range.mp hk
  have lt:=h.lt k hk c hc
  exact⟨lt,(nN h lt hk).mp hc⟩
 refine⟨mo (ps.map AJ),?_,λc hc=>?_⟩
 ·unfold wA
  rw[e1];dsimp only;rw[e2];dsimp only;rw[if_pos]
  ·rfl
  ·rw[List.length_map]
   refine Nat.le_trans (gK (b:=6) _ λk hk=>?_) (by rw[List.length_range];omega)
   rw[List.length_map];have hk:=List.mem_range.mp hk
   have:=h.ll (LL.getD k []) (by rw[List.getD_eq_getElem?_getD,List.getElem?_eq_getElem hk];exact List.getElem_mem hk)
   omega
 ·unfold mo
  rw[tq (c:=c) (v:=eo LL c) ps [] λp hp e=>by rw[(mem p hp).2,e],if_pos]
  obtain⟨h1,h2⟩:=gE h hc
  exact List.mem_map.mpr ⟨(c,eo LL c),List.mem_flatMap.mpr ⟨eo LL c,List.mem_range.mpr h1,List.mem_map.mpr ⟨c,h2,rfl⟩⟩,rfl⟩
def ut(r x:List Nat)(LL:List (List Nat))(p:Nat×Nat):D:=.tup [nI (eo LL p.1),nI (eo LL (r.idxOf p.2)),.int (j0 r x p)]
include R X
theorem sU:(je n r x).length<=36:=by
 have:=sT n r x hn
 rw[wj,List.length_map] at this;exact this
theorem ss:cF [aP r x,h8 LL]=some (.lst ((je n r x).map (ut r x LL))):=by
 obtain⟨kvs,d1,d2⟩:=xJ hn h (aP r x) (cG r)
 apply cK (kd:=.n) (n:=4) (t:=gr)
 unfold gr;refine(ay (ρ':=[.v (aP r x),.v (h8 LL),.v (cG r),.no]) ((bc ((ax (x:=aP r x) (y:=.int 0) rfl rfl).trans rfl)).trans rfl)).trans ((ay d1).trans ?_)
 have ce:aj (nF 1 cV) (ab (ah 0) (ag)) [.v (aP r x),.v (h8 LL),.v (cG r),.ob (.dK kvs)]=some (.lst ((je n r x).map λp=>gb [(p.1:Int),(p.2:Int),j0 r x p])):=by
  refine((cA (ds:=[aP r x]) rfl rfl).trans (wL R X hn)).trans ?_
  rw[wj,List.map_map];rfl
 have hl:=sU R X hn h
 refine cJ (bx (ds:=(je n r x).map λp=>gb [(p.1:Int),(p.2:Int),j0 r x p]) (gn ce) (by rw[List.length_map];omega) ?_)
 refine ck (h:=λp:Nat×Nat=>gb [(p.1:Int),(p.2:Int),j0 r x p]) (o:=ut r x LL) (je n r x) λp hp=>⟨[.v (aP r x),.v (h8 LL),.v (cG r),.ob (.dK kvs),.v (nI p.1),.v (nI p.2),.v (.int (j0 r x p))],rfl,?_⟩
 obtain⟨p1,p2⟩:=sh hp
 have i2:=(cw R p2).1
 refine gc (aq (d:=nI (eo LL p.1)) (d2 p.1 p1) (aq (d:=nI (eo LL (r.idxOf p.2))) ?_ (aq rfl rfl))) (by simp)
 unfold yT;rw[show wN 3 [.v (aP r x),.v (h8 LL),.v (cG r),.ob (.dK kvs),.v (nI p.1),.v (nI p.2),.v (.int (j0 r x p))]=some kvs from rfl,Option.bind_some,(ax (x:=cG r) (y:=nI p.2) rfl rfl).trans (iM R p2),Option.bind_some];exact d2 _ i2
theorem wM(a b:Nat):bO [.lst ((je n r x).map (ut r x LL)),nI a,nI b]=some (.int (((je n r x).filter λp=>qP r (eo LL) a b p||qP r (eo LL) b a p).map (j0 r x)).sum):=by
 have hl:=sU R X hn h
 apply cK (kd:=.s) (n:=4) (t:=eY)
 unfold eY
 let pr:D:=.tup [.tup [nI a,nI b],.tup [nI b,nI a]]
 refine(ay (ρ':=[.v (.lst ((je n r x).map (ut r x LL))),.v (nI a),.v (nI b),.v pr]) ((bc (d:=pr) rfl).trans rfl)).trans ?_
 refine cJ ((bf (aq (bx (ds:=(je n r x).map (ut r x LL)) (ys:=(((je n r x).filter λp=>qP r (eo LL) a b p||qP r (eo LL) b a p).map (j0 r x)).map D.int) (gn rfl) (by rw[List.length_map];omega) ?_) rfl)).trans ?_)
 ·refine(eJ (h:=ut r x LL) (o:=λp=>.int (j0 r x p)) (q:=λp=>qP r (eo LL) a b p||qP r (eo LL) b a p) (je n r x) λp hp=>⟨[.v (.lst ((je n r x).map (ut r x LL))),.v (nI a),.v (nI b),.v pr,.v (nI (eo LL p.1)),.v (nI (eo LL (r.idxOf p.2))),.v (.int (j0 r x p))],rfl,?_,λ_=>rfl⟩).trans (by rw[List.map_map];rfl)
  refine dU ((ax (x:=gb [(eo LL p.1:Int),(eo LL (r.idxOf p.2):Int)]) (y:=pr) rfl rfl).trans ?_)
  show ki false (gb [(eo LL p.1:Int),(eo LL (r.idxOf p.2):Int)]) (.tup [gb [(a:Int),b],gb [(b:Int),a]])=_;unfold ki nL;dsimp only;rw[if_pos (by show cB ([[(a:Int),b],[(b:Int),a]].map gb)<=32;have:=qJ [[(a:Int),b],[(b:Int),a]];omega)]
  unfold qP;simp only[List.any_cons,List.any_nil,yV,Bool.or_false];congr 2
  rw[Bool.eq_iff_iff];simp;constructor
  ·rintro(⟨e1,e2⟩|⟨e1,e2⟩)
   ·exact .inl ⟨by omega,by omega⟩
   ·exact .inr ⟨by omega,by omega⟩
  ·rintro(⟨e1,e2⟩|⟨e1,e2⟩)
   ·exact .inl ⟨by omega,by omega⟩
   ·exact .inr ⟨by omega,by omega⟩
 ·show(dX _).map _=_
  rw[gJ];rfl
end
abbrev SS(n:Nat)(r x:List Nat)(LL:List (List Nat))(a b:Nat):Int:=kC n r x (eo LL) a b
theorem oh(LL:List (List Nat)){f:FE}{ρ:aG}(h:f ρ=some (h8 LL)):aj br (ab f ag) ρ=some (nI LL.length):=by
 refine(bf (aq h rfl)).trans ?_
 show some (D.int ((LL.map λL=>D.lst (L.map nI)).length:Int))=_
 rw[List.length_map]
def lZ(n:Nat)(r x:List Nat)(LL:List (List Nat))(a b:Nat):D:=.tup [nI a,nI b,.int (SS n r x LL a b)]
def eA(n:Nat)(r x:List Nat)(LL:List (List Nat)):List D:=(List.range LL.length).flatMap λa=>(List.range' (a+1) (LL.length- (a+1))).map (lZ n r x LL a)
section
variable {n:Nat}{r x:List Nat}{LL:List (List Nat)}(R:Ord n r)(X:Ord n x)(hn:n<=6)(h:Lns n (fo r x) LL)
include R X hn h
theorem mX(hL:cx [aP r x]=some (h8 LL)):bV [aP r x]=some (.lst (((List.range LL.length).map λk=>SS n r x LL k k).map D.int)):=by
 have hl:=h.len
 apply cK (kd:=.n) (n:=3) (t:=ia)
 unfold ia;refine(ay (ρ':=[.v (aP r x),.v (h8 LL),.no]) ((bc ((cA (ds:=[aP r x]) rfl rfl).trans hL)).trans rfl)).trans ?_
 refine(ay (ρ':=[.v (aP r x),.v (h8 LL),.v (.lst ((je n r x).map (ut r x LL)))]) ((bc ((cA (ds:=[aP r x,h8 LL]) rfl rfl).trans (ss R X hn h))).trans rfl)).trans ?_
 refine cJ (bx (ds:=(List.range LL.length).map nI) (bz (n:=LL.length) (aq (oh LL rfl) rfl) (by omega)) (by simp;omega) ?_)
 rw[List.map_map];refine ck (h:=nI) (o:=λk=>.int (SS n r x LL k k)) (List.range LL.length) λk hk=>⟨_,rfl,((cA (ds:=[.lst ((je n r x).map (ut r x LL)),nI k,nI k]) rfl rfl).trans (wM R X hn h k k)).trans ?_⟩
 rw[yW]
theorem sW(hL:cx [aP r x]=some (h8 LL)):de [aP r x]=some (.lst (eA n r x LL)):=by
 have hl:=h.len
 apply cK (kd:=.n) (n:=3) (t:=jF)
 unfold jF;refine(ay (ρ':=[.v (aP r x),.v (h8 LL),.no]) ((bc ((cA (ds:=[aP r x]) rfl rfl).trans hL)).trans rfl)).trans ?_
 refine(ay (ρ':=[.v (aP r x),.v (h8 LL),.v (.lst ((je n r x).map (ut r x LL)))]) ((bc ((cA (ds:=[aP r x,h8 LL]) rfl rfl).trans (ss R X hn h))).trans rfl)).trans ?_
 refine cJ (sS (ds:=(List.range LL.length).map nI) (bz (n:=LL.length) (aq (oh LL rfl) rfl) (by omega)) ?_ ?_)
 ·refine(gh (h:=nI) (q:=λ_=>true) (o:=λa=>(List.range' (a+1) (LL.length- (a+1))).map (lZ n r x LL a)) (List.range LL.length) λa ha=>⟨[.v (aP r x),.v (h8 LL),.v (.lst ((je n r x).map (ut r x LL))),.v (nI a),.no],rfl,rfl,λ_=>?_⟩).trans (by rw[List.filter_eq_self.mpr (λ_ _=>rfl)];rfl)
  have ha:=List.mem_range.mp ha
  refine wm (ds:=(List.range' (a+1) (LL.length- (a+1))).map nI) (lO (aq ((ax (x:=nI a) (y:=.int 1) rfl rfl).trans (cS _ _)) (aq (oh LL rfl) rfl)) (by omega) (by omega)) ?_
  refine(gh (h:=nI) (q:=λ_=>true) (o:=λb=>[lZ n r x LL a b]) (List.range' (a+1) (LL.length- (a+1))) λb hb=>⟨[.v (aP r x),.v (h8 LL),.v (.lst ((je n r x).map (ut r x LL))),.v (nI a),.v (nI b)],rfl,rfl,λ_=>s0 (gc (aq rfl (aq rfl (aq (d:=.int (SS n r x LL a b)) ?_ rfl))) (by simp))⟩).trans (by rw[List.filter_eq_self.mpr (λ_ _=>rfl),ie])
  have hb:=(List.mem_range'_1.mp hb).1
  refine(ax (((cA (ds:=[.lst ((je n r x).map (ut r x LL)),nI a,nI b]) rfl rfl).trans (wM R X hn h a b)).trans (by rw[yX (by omega)])) (y:=.int 2) rfl).trans ((jZ (by decide) (by decide)).trans ?_)
  rw[qk R X (λc hc=>wI h hc) b a]
  congr 2
  show _=kC n r x (eo LL) a b;omega
 ·refine Nat.le_trans (gK (b:=6) _ λa ha=>?_) (by rw[List.length_range];omega)
  rw[List.length_map,List.length_range'];omega
end
def qD(m:Nat)(T:Nat->Nat->Int):List (List Int):=(List.range m).map λa=>(List.range m).map λb=>T a b
def rL(m:Nat)(T:Nat->Nat->Int):List NO:=(qD m T).map λis=>.l (is.map D.int)
theorem tU {α:Type}(m o:Nat)(f:Nat->α)(v:α):((List.range m).map f).set o v=(List.range m).map λi=>if i=o then v else f i:=by
 apply List.ext_getElem (by simp)
 intro i h1 h2;rw[List.getElem_set]
 by_cases e:o=i
 ·simp[e]
 ·simp[e,Ne.symm e]
theorem vJ(m:Nat)(T:Nat->Nat->Int):rL m T=(List.range m).map λa=>.l (((List.range m).map λb=>T a b).map D.int):=by
 unfold rL qD;rw[List.map_map];rfl
theorem se(m:Nat)(T:Nat->Nat->Int):(rL m T).length=m:=by unfold rL qD;simp
theorem tL {m o:Nat}(T:Nat->Nat->Int)(h:o<m):(rL m T)[o]? =some (.l (((List.range m).map λb=>T o b).map D.int)):=by
 unfold rL qD;rw[List.getElem?_map,List.getElem?_map,List.getElem?_range h];rfl
theorem zM {m i o u:Nat}{T:Nat->Nat->Int}{f1 f2:FE}{ρ:aG}(hg:lR i ρ=some (rL m T))(h1:f1 ρ=some (nI o))(h2:f2 ρ=some (nI u))(ho:o<m)(hu:u<m):uE i f1 f2 ρ=some (.int (T o u)):=by
 unfold uE;rw[hg,Option.bind_some,h1,Option.bind_some,h2,Option.bind_some];dsimp only;rw[se,ft ho,Option.bind_some,tL T ho,Option.bind_some];dsimp only;exact jo (by rw[List.getElem?_map,List.getElem?_map,List.getElem?_range hu];rfl)
def qo(T:Nat->Nat->Int)(o u:Nat)(v:Int)(a b:Nat):Int:=if a=o then(if b=u then v else T o b) else T a b
theorem xR {m i o u:Nat}{T:Nat->Nat->Int}{v:Int}{f1 f2 fv:FE}{ρ:aG}(hg:lR i ρ=some (rL m T))(h1:f1 ρ=some (nI o))(h2:f2 ρ=some (nI u))(h3:fv ρ=some (.int v))(ho:o<m)(hu:u<m):nz i f1 f2 fv ρ=.nx (ρ.set i (.ob (.nst (rL m (qo T o u v))))):=by
 unfold nz;rw[hg,h1,h2,h3];dsimp only;have e:yw (rL m T) (nI o) (nI u) (.int v)=some (rL m (qo T o u v)):=by
  unfold yw;dsimp only;rw[se,ft ho,Option.bind_some,tL T ho,Option.bind_some];have:wk (nI u) (.int v) (.l (((List.range m).map λb=>T o b).map D.int))=some (.l (((List.range m).map λb=>if b=u then v else T o b).map D.int)):=by
   unfold wk;dsimp only;rw[List.length_map,List.length_map,List.length_range,ft hu,Option.map_some,<-List.map_set,tU]
  rw[this,Option.map_some];congr 1
  rw[vJ,vJ,tU];refine List.map_congr_left λa _=>?_
  by_cases ea:a=o
  ·subst ea
   rw[if_pos rfl];congr 2
   refine List.map_congr_left λb _=>?_
   unfold qo;rw[if_pos rfl]
  ·rw[if_neg ea]
   congr 2
   refine List.map_congr_left λb _=>?_
   unfold qo;rw[if_neg ea]
 rw[e]
theorem nu: ∀l:List (List Int),lB (l.map λis=>D.lst (is.map D.int))=some l
 | []=>rfl
 |is::l=>by
  show(dX (is.map D.int)).bind _=_;rw[gJ,Option.bind_some,nu l];rfl
def bM:FS:=(aB (aY 6 (ar aM (aO 1 (aW (ab (aj br (ab (ar aM (ah 0) (az (.int 0))) (ag))) (ag))) (gN 9) (bF (ar iu (ar aM (ar aM (ah 0) (az (.int 0))) (ah 9)) (ah 4))) (ah 9)) (az (.int 0))))
 (aB (aY 7 (ar aM (aO 1 (aW (ab (aj br (ab (ah 1) (ag))) (ag))) (gN 9) (bF (ar (ki false) (ah 3) (ar aM (ah 1) (ah 9)))) (ah 9)) (az (.int 0))))
 (aB (aY 8 (ar aM (aO 1 (aW (ab (aj br (ab (ah 1) (ag))) (ag))) (gN 9) (bF (ar (ki false) (ah 6) (ar aM (ah 1) (ah 9)))) (ah 9)) (az (.int 0))))
 (nz 2 (ah 7) (ah 8) (ar bA (uE 2 (ah 7) (ah 8)) (ah 5))))))
abbrev oQ(r x:List Nat)(LL:List (List Nat))(T:Nat->Nat->Int)(s3 s4 s5 s6 s7 s8:Sl):aG:=[.v (aP r x),.v (h8 LL),.ob (.nst (rL LL.length T)),s3,s4,s5,s6,s7,s8]
section
variable {n:Nat}{r x:List Nat}{LL:List (List Nat)}(R:Ord n r)(X:Ord n x)(hn:n<=6)(h:Lns n (fo r x) LL)
include hn h
theorem v4 {ρ:aG}{j c:Nat}(hj:j<9)(hρ:ρ.length=9)(h1:ah 1 ρ=some (h8 LL))(hc:ah j ρ=some (nI c))(cn:c<n):ar aM (aO 1 (aW (ab (aj br (ab (ah 1) (ag))) (ag))) (gN 9) (bF (ar (ki false) (ah j) (ar aM (ah 1) (ah 9)))) (ah 9)) (az (.int 0)) ρ=some (nI (eo LL c)):=by
 have hl:=h.len
 have cp:aO 1 (aW (ab (aj br (ab (ah 1) (ag))) (ag))) (gN 9) (bF (ar (ki false) (ah j) (ar aM (ah 1) (ah 9)))) (ah 9) ρ=some (.lst [nI (eo LL c)]):=by
  refine bx (ds:=(List.range LL.length).map nI) (bz (n:=LL.length) (aq (oh LL h1) rfl) (by omega)) (by simp;omega) ((eJ (h:=nI) (o:=nI) (q:=λk=>decide (c∈LL.getD k [])) (List.range LL.length) λk hk=>?_).trans ?_)
  ·have hk:=List.mem_range.mp hk
   have kp: ∀j,j<9->ah j ((ρ++List.replicate 1 Sl.no).set 9 (.v (nI k)))=ah j ρ:=λj hj=>by
    unfold ah;rw[List.getElem?_set_ne (by omega),List.getElem?_append_left (by omega)]
   have k9:ah 9 ((ρ++List.replicate 1 Sl.no).set 9 (.v (nI k)))=some (nI k):=by
    unfold ah;rw[List.getElem?_set_self (by simp[hρ])]
   refine⟨_,rfl,dU ((ax ((kp j hj).trans hc) ((ax ((kp 1 (by omega)).trans h1) k9).trans (show aM (h8 LL) (nI k)=some (.lst ((LL.getD k []).map nI)) from jo (by rw[List.getElem?_map,List.getElem?_eq_getElem hk,List.getD_eq_getElem?_getD,List.getElem?_eq_getElem hk];rfl)))).trans (DN _ _)),λ_=>k9⟩
  ·rw[eR (gE h cn).1 λk hk=>by rw[decide_eq_true_eq];exact nN h cn hk]
   rfl
 exact(ax cp (y:=.int 0) rfl).trans rfl
include R
theorem Co {T:Nat->Nat->Int}{c y:Nat}{s:Int}(hc:c<n)(hy:y<n)(s6 s7 s8:Sl): ∃s6' s7' s8',bM (oQ r x LL T (.v (nI c)) (.v (nI y)) (.v (.int s)) s6 s7 s8)=.nx (oQ r x LL (qo T (eo LL c) (eo LL (r.idxOf y)) (T (eo LL c) (eo LL (r.idxOf y))+s)) (.v (nI c)) (.v (nI y)) (.v (.int s)) s6' s7' s8'):=by
 obtain⟨i1,i2⟩:=cw R hy
 have q1:aY 6 (ar aM (aO 1 (aW (ab (aj br (ab (ar aM (ah 0) (az (.int 0))) (ag))) (ag))) (gN 9) (bF (ar iu (ar aM (ar aM (ah 0) (az (.int 0))) (ah 9)) (ah 4))) (ah 9)) (az (.int 0))) (oQ r x LL T (.v (nI c)) (.v (nI y)) (.v (.int s)) s6 s7 s8)=.nx (oQ r x LL T (.v (nI c)) (.v (nI y)) (.v (.int s)) (.v (nI (r.idxOf y))) s7 s8):=by
  refine(bc (d:=nI (r.idxOf y)) ((ax (x:=.lst [nI (r.idxOf y)]) (bx (ds:=(List.range n).map nI) (bz (n:=n) (aq ((ij r _ _ ((ax (x:=aP r x) (y:=.int 0) rfl rfl).trans rfl)).trans (by rw[R.len])) rfl) (by omega)) (by simp;omega) ((eJ (h:=nI) (o:=nI) (q:=λi=>decide (r.getD i 0=y)) (List.range n) λi hi=>⟨_,rfl,dU ((ax ((ax ((ax (x:=aP r x) (y:=.int 0) rfl rfl).trans rfl) (y:=nI i) rfl).trans (iT (by rw[R.len];exact List.mem_range.mp hi))) (y:=nI y) rfl).trans (ot _ _)),λ_=>rfl⟩).trans ?_)) (y:=.int 0) rfl).trans rfl)).trans rfl
  rw[eR i1 λi hi=>by rw[decide_eq_true_eq];exact⟨λe=>by rw[<-e,fG R hi],λe=>by rw[e,i2]⟩]
  rfl
 have l1:=(gE h hc).1
 have l2:=(gE h i1).1
 have q2:aY 7 (ar aM (aO 1 (aW (ab (aj br (ab (ah 1) (ag))) (ag))) (gN 9) (bF (ar (ki false) (ah 3) (ar aM (ah 1) (ah 9)))) (ah 9)) (az (.int 0))) (oQ r x LL T (.v (nI c)) (.v (nI y)) (.v (.int s)) (.v (nI (r.idxOf y))) s7 s8)=.nx (oQ r x LL T (.v (nI c)) (.v (nI y)) (.v (.int s)) (.v (nI (r.idxOf y))) (.v (nI (eo LL c))) s8):=(bc (v4 hn h (j:=3) (by omega) rfl rfl rfl hc)).trans rfl
 have q3:aY 8 (ar aM (aO 1 (aW (ab (aj br (ab (ah 1) (ag))) (ag))) (gN 9) (bF (ar (ki false) (ah 6) (ar aM (ah 1) (ah 9)))) (ah 9)) (az (.int 0))) (oQ r x LL T (.v (nI c)) (.v (nI y)) (.v (.int s)) (.v (nI (r.idxOf y))) (.v (nI (eo LL c))) s8)=.nx (oQ r x LL T (.v (nI c)) (.v (nI y)) (.v (.int s)) (.v (nI (r.idxOf y))) (.v (nI (eo LL c))) (.v (nI (eo LL (r.idxOf y))))):=(bc (v4 hn h (j:=6) (by omega) rfl rfl rfl i1)).trans rfl
 refine⟨_,_,_,(ay q1).trans ((ay q2).trans ((ay q3).trans ((xR (m:=LL.length) (T:=T) rfl rfl rfl ((ax (zM (m:=LL.length) (T:=T) rfl rfl rfl l1 l2) (y:=.int s) rfl).trans (cS _ _)) l1 l2).trans rfl)))⟩
theorem zn: ∀(l:List (Nat×Nat)) (T:Nat->Nat->Int) (s3 s4 s5 s6 s7 s8:Sl),(∀p∈l,p.1<n/\p.2<n)-> ∃s3' s4' s5' s6' s7' s8',fy (gT 3 (gV (gN 3) (gV (gN 4) (gV (gN 5) (kG))))) bM (l.map λp=>gb [(p.1:Int),(p.2:Int),j0 r x p]) (oQ r x LL T s3 s4 s5 s6 s7 s8)=.nx (oQ r x LL (λa b=>T a b+((l.filter (qP r (eo LL) a b)).map (j0 r x)).sum) s3' s4' s5' s6' s7' s8')
 | [],T,s3,s4,s5,s6,s7,s8,_=>⟨s3,s4,s5,s6,s7,s8,by
   have:(λa b=>T a b+((([]:List (Nat×Nat)).filter (qP r (eo LL) a b)).map (j0 r x)).sum)=T:=by funext a b;show T a b+0=_;omega
   rw[this];rfl⟩
 |p::l,T,s3,s4,s5,s6,s7,s8,hp=>by
  obtain⟨h1,h2⟩:=hp p List.mem_cons_self
  obtain⟨s6',s7',s8',e⟩:=Co R hn h (T:=T) (s:=j0 r x p) h1 h2 s6 s7 s8
  obtain⟨t3,t4,t5,t6,t7,t8,e2⟩:=zn l (qo T (eo LL p.1) (eo LL (r.idxOf p.2)) (T (eo LL p.1) (eo LL (r.idxOf p.2))+j0 r x p)) (.v (nI p.1)) (.v (nI p.2)) (.v (.int (j0 r x p))) s6' s7' s8' λq hq=>hp q (List.mem_cons_of_mem _ hq)
  refine⟨t3,t4,t5,t6,t7,t8,?_⟩
  have fe:(λa b=>T a b+(((p::l).filter (qP r (eo LL) a b)).map (j0 r x)).sum)=λa b=>qo T (eo LL p.1) (eo LL (r.idxOf p.2)) (T (eo LL p.1) (eo LL (r.idxOf p.2))+j0 r x p) a b+((l.filter (qP r (eo LL) a b)).map (j0 r x)).sum:=by
   funext a b;unfold qo
   by_cases ea:a=eo LL p.1
   ·by_cases eb:b=eo LL (r.idxOf p.2)
    ·have:qP r (eo LL) a b p=true:=by unfold qP;rw[ea,eb];simp
     rw[List.filter_cons_of_pos this,List.map_cons,List.sum_cons,if_pos ea,if_pos eb,ea,eb];omega
    ·have: ¬qP r (eo LL) a b p=true:=by unfold qP;simp;intro _ z;exact eb z.symm
     rw[List.filter_cons_of_neg this,if_pos ea,if_neg eb,ea]
   ·have: ¬qP r (eo LL) a b p=true:=by unfold qP;simp;intro z;exact absurd z.symm ea
    rw[List.filter_cons_of_neg this,if_neg ea]
  rw[fe,List.map_cons];exact(dH (ρ1:=oQ r x LL T (.v (nI p.1)) (.v (nI p.2)) (.v (.int (j0 r x p))) s6 s7 s8) rfl e).trans e2
include X
theorem yD(hL:cY [aP r x]=some (h8 LL)):fF [aP r x]=some (.lst ((qD LL.length (SS n r x LL)).map λis=>.lst (is.map D.int))):=by
 have hl:=h.len
 apply lS (kd:=.s) (n:=9) (t:=lT)
 have z1:aY 1 (aj (nF 1 cY) (ab (ah 0) (ag))) (gG 9 [aP r x])=.nx [.v (aP r x),.v (h8 LL),.no,.no,.no,.no,.no,.no,.no]:=(bc ((cA (ds:=[aP r x]) rfl rfl).trans hL)).trans rfl
 have z2:vR 2 1 (dg (ah 1)) (gN 9) (cm) (aO 1 (dg (ah 1)) (gN 10) (cm) (az (.int 0))) [.v (aP r x),.v (h8 LL),.no,.no,.no,.no,.no,.no,.no]=.nx (oQ r x LL (λ_ _=>0) .no .no .no .no .no .no):=by
  have c1:iq (gN 9) (cm) (u9 (aO 1 (dg (ah 1)) (gN 10) (cm) (az (.int 0)))) ([.v (aP r x),.v (h8 LL),.no,.no,.no,.no,.no,.no,.no]++List.replicate 1 .no) (LL.map λL=>D.lst (L.map nI))=some ((LL.map λ_=>LL.map λ_=>(0:Int)).map λis=>.lst (is.map D.int)):=by
   refine(gh (h:=λL:List Nat=>D.lst (L.map nI)) (q:=λ_=>true) (o:=λ_=>[.lst ((LL.map λ_=>(0:Int)).map D.int)]) LL λL hL=>⟨[.v (aP r x),.v (h8 LL),.no,.no,.no,.no,.no,.no,.no,.v (.lst (L.map nI))],rfl,rfl,λ_=>?_⟩).trans (by rw[List.filter_eq_self.mpr (λ_ _=>rfl),ie];exact congrArg some (List.map_map (l:=LL) (g:=λis:List Int=>D.lst (is.map D.int)) (f:=λ_=>LL.map λ_=>(0:Int))).symm)
   have:aO 1 (dg (ah 1)) (gN 10) (cm) (az (.int 0)) [.v (aP r x),.v (h8 LL),.no,.no,.no,.no,.no,.no,.no,.v (.lst (L.map nI))]=some (.lst ((LL.map λ_=>(0:Int)).map D.int)):=by
    refine bx (ds:=LL.map λL=>D.lst (L.map nI)) (gn rfl) (by rw[List.length_map];omega) ?_
    rw[List.map_map];exact ck (h:=λL:List Nat=>D.lst (L.map nI)) (o:=λ_=>D.int 0) LL λL hL=>⟨_,rfl,rfl⟩
   unfold u9;rw[this];dsimp only;rw[gJ];rfl
  unfold vR;rw[show dg (ah 1) [.v (aP r x),.v (h8 LL),.no,.no,.no,.no,.no,.no,.no]=some (LL.map λL=>D.lst (L.map nI)) from gn rfl]
  dsimp only;rw[c1];dsimp only;rw[nu];dsimp only;rw[if_pos (by rw[List.length_map,List.length_map];omega)]
  have:(LL.map λ_=>LL.map λ_=>(0:Int))=qD LL.length (λ_ _=>0):=by unfold qD;simp[List.map_const']
  rw[this];rfl
 obtain⟨s3,s4,s5,s6,s7,s8,e⟩:=zn R hn h (je n r x) (λ_ _=>0) .no .no .no .no .no .no λp hp=>sh hp
 have fe:(λa b=>(0:Int)+(((je n r x).filter (qP r (eo LL) a b)).map (j0 r x)).sum)=SS n r x LL:=by
  funext a b;show 0+_=kC n r x (eo LL) a b;rw[so];omega
 rw[fe] at e;have ce:aj (nF 1 bP) (ab (ah 0) (ag)) (oQ r x LL (λ_ _=>0) .no .no .no .no .no .no)=some (.lst ((je n r x).map λp=>gb [(p.1:Int),(p.2:Int),j0 r x p])):=by
  refine((cA (ds:=[aP r x]) rfl rfl).trans (tZ R X hn)).trans ?_
  rw[wj,List.map_map];rfl
 have z3:dI (cC (dg (aj (nF 1 bP) (ab (ah 0) (ag))))) (gT 3 (gV (gN 3) (gV (gN 4) (gV (gN 5) (kG))))) bM (oQ r x LL (λ_ _=>0) .no .no .no .no .no .no)=.nx (oQ r x LL (SS n r x LL) s3 s4 s5 s6 s7 s8):=(dY (bG (gn ce))).trans e
 have z4:qr 2 (bw (ah 2)) (oQ r x LL (SS n r x LL) s3 s4 s5 s6 s7 s8)=.rt (.lst ((qD LL.length (SS n r x LL)).map λis=>.lst (is.map D.int))) [.v (aP r x),.v (h8 LL),.v (.lst ((qD LL.length (SS n r x LL)).map λis=>.lst (is.map D.int))),s3,s4,s5,s6,s7,s8]:=by
  unfold qr Ch;rw[show lR 2 (oQ r x LL (SS n r x LL) s3 s4 s5 s6 s7 s8)=some (rL LL.length (SS n r x LL)) from rfl,Option.bind_some];have:(rL LL.length (SS n r x LL)).mapM Dk=some ((qD LL.length (SS n r x LL)).map λis=>is.map D.int):=by
   unfold rL
   generalize qD LL.length (SS n r x LL)=M
   induction M with
   |nil=>rfl
   |cons a M ih=>rw[List.map_cons,List.mapM_cons,ih];rfl
  rw[this,Option.map_some,List.map_map];exact cJ rfl
 exact⟨_,(ay z1).trans ((ay z2).trans ((ay z3).trans z4))⟩
end
abbrev my(m:Nat)(T:Nat->Nat->Int):D:=.lst ((qD m T).map λis=>.lst (is.map D.int))
theorem nH {m a b:Nat}{T:Nat->Nat->Int}{fM fa fb:FE}{ρ:aG}(h1:fM ρ=some (my m T))(h2:fa ρ=some (nI a))(h3:fb ρ=some (nI b))(ha:a<m)(hb:b<m):ar aM (ar aM fM fa) fb ρ=some (.int (T a b)):=by
 have e1:ar aM fM fa ρ=some (.lst (((List.range m).map λb=>T a b).map D.int)):=(ax h1 h2).trans (jo (by unfold qD;rw[List.getElem?_map,List.getElem?_map,List.getElem?_range ha];rfl))
 exact(ax e1 h3).trans (jo (by rw[List.getElem?_map,List.getElem?_map,List.getElem?_range hb];rfl))
def Bc(m:Nat):List (Nat×Nat):=(List.range m).flatMap λa=>(List.range' (a+1) (m- (a+1))).map λb=>(a,b)
theorem vy(n:Nat)(r x:List Nat)(LL:List (List Nat)):eA n r x LL=(Bc LL.length).map λp=>gb [(p.1:Int),(p.2:Int),SS n r x LL p.1 p.2]:=by
 unfold eA Bc;rw[List.map_flatMap];congr 1
 funext a;rw[List.map_map];rfl
def DJ:FS:=(aB (fY (bF (ar kA (ar aM (ar aM (ah 1) (ah 5)) (ah 6)) (ar aM (ar aM (ah 1) (ah 6)) (ah 5)))) (bw (az (.bl false))) (skip))
 (bT (aU 4 1 fL (cC (ab (df (ab (ah 5) (ab (ah 6) (ab (ar aM (ar aM (ah 1) (ah 5)) (ah 6)) (ag))))) (ag))))))
def C3:FS:=dI (cC (hZ (ab (ar bA (ah 5) (az (.int 1))) (ab (ah 2) (ag))))) (gN 6) DJ
section
variable {n:Nat}{r x:List Nat}{LL:List (List Nat)}(R:Ord n r)(X:Ord n x)(hn:n<=6)(h:Lns n (fo r x) LL)
include R X hn h
theorem zD {a:Nat}(ha:a<LL.length)(tw:D)(F:List D)(hF:F.length<=100)(s6:Sl): ∃s6',C3 [.v (aP r x),.v (my LL.length (SS n r x LL)),.v (nI LL.length),.v tw,.own F,.v (nI a),s6,.no]=.nx [.v (aP r x),.v (my LL.length (SS n r x LL)),.v (nI LL.length),.v tw,.own (F++(List.range' (a+1) (LL.length- (a+1))).map (lZ n r x LL a)),.v (nI a),s6',.no]:=by
 have hl:=h.len
 obtain⟨ρ',e,s6',rfl⟩:=iE (g:=gN 6) (b:=DJ) (P:=λb ρ=> ∃s6,ρ=[.v (aP r x),.v (my LL.length (SS n r x LL)),.v (nI LL.length),.v tw,.own (F++(List.range' (a+1) (b- (a+1))).map (lZ n r x LL a)),.v (nI a),s6,.no]) (LL.length- (a+1)) (a+1) (λb ρ hb1 hb2 hq_=>by
  obtain⟨s6,e⟩:=hq_
  subst e;have hb:b<LL.length:=by omega
  have p1:bF (ar kA (ar aM (ar aM (ah 1) (ah 5)) (ah 6)) (ar aM (ar aM (ah 1) (ah 6)) (ah 5))) [.v (aP r x),.v (my LL.length (SS n r x LL)),.v (nI LL.length),.v tw,.own (F++(List.range' (a+1) (b- (a+1))).map (lZ n r x LL a)),.v (nI a),.v (nI b),.no]=some false:=by
   refine dU ((ax (nH (T:=SS n r x LL) rfl rfl rfl ha hb) (nH (T:=SS n r x LL) rfl rfl rfl hb ha)).trans ?_)
   rw[show SS n r x LL b a=SS n r x LL a b from qk R X (λc hc=>wI h hc) b a]
   exact oG (by rw[ge];omega)
  refine⟨_,_,rfl,(ay (rJ p1)).trans ((j4 (i:=4) (b0:=F++(List.range' (a+1) (b- (a+1))).map (lZ n r x LL a)) (bs:=F++(List.range' (a+1) (b- (a+1))).map (lZ n r x LL a)) (d:=lZ n r x LL a b) rfl (bG (aq (gc (aq rfl (aq rfl (aq (nH (T:=SS n r x LL) rfl rfl rfl ha hb) rfl))) (by simp)) rfl)) rfl (by rw[List.length_append,List.length_map,List.length_range'];omega)).trans rfl),.v (nI b),?_⟩
  have:b+1- (a+1)=b- (a+1)+1:=by omega
  rw[this,List.range'_1_concat,List.map_append,show a+1+(b- (a+1))=b by omega,<-List.append_assoc];rfl) [.v (aP r x),.v (my LL.length (SS n r x LL)),.v (nI LL.length),.v tw,.own F,.v (nI a),s6,.no] ⟨s6,by simp⟩
 refine⟨s6',(dY (ds:=(List.range' (a+1) (LL.length- (a+1))).map nI) (bG (lO (aq ((ax (x:=nI a) (y:=.int 1) rfl rfl).trans (cS _ _)) (aq rfl rfl)) (by omega) (by omega)))).trans (e.trans ?_)⟩
 rw[show a+1+(LL.length- (a+1)) - (a+1)=LL.length- (a+1) by omega]
theorem yp(tw:D): ∃s5 s6,dI (cC (aW (ab (ah 2) (ag)))) (gN 5) C3 [.v (aP r x),.v (my LL.length (SS n r x LL)),.v (nI LL.length),.v tw,.own [],.no,.no,.no]=.nx [.v (aP r x),.v (my LL.length (SS n r x LL)),.v (nI LL.length),.v tw,.own (eA n r x LL),s5,s6,.no]:=by
 have hl:=h.len
 let F:Nat->List D:=λi=>(List.range i).flatMap λa=>(List.range' (a+1) (LL.length- (a+1))).map (lZ n r x LL a)
 have Fl: ∀i,i<=LL.length->(F i).length<=36:=λi hi=>by
  refine Nat.le_trans (gK (b:=6) _ λa _=>?_) (by rw[List.length_range];omega)
  rw[List.length_map,List.length_range'];omega
 obtain⟨ρ',e,s5,s6,rfl⟩:=iE (g:=gN 5) (b:=C3) (P:=λi ρ=> ∃s5 s6,ρ=[.v (aP r x),.v (my LL.length (SS n r x LL)),.v (nI LL.length),.v tw,.own (F i),s5,s6,.no]) LL.length 0 (λi ρ _ hi hq_=>by
  obtain⟨s5,s6,e⟩:=hq_
  subst e;rw[Nat.zero_add] at hi;obtain⟨s6',e'⟩:=zD R X hn h hi tw (F i) (by have:=Fl i (by omega);omega) s6
  refine⟨_,_,rfl,e',.v (nI i),s6',?_⟩
  have:F (i+1)=F i++(List.range' (i+1) (LL.length- (i+1))).map (lZ n r x LL i):=by
   show(List.range (i+1)).flatMap _=_;rw[List.range_succ,List.flatMap_append,List.flatMap_singleton]
  rw[this]) _ ⟨.no,.no,rfl⟩
 rw[Nat.zero_add] at e;exact⟨s5,s6,(dY (ds:=(List.range LL.length).map nI) (bG (bz (n:=LL.length) (aq rfl rfl) (by omega)))).trans (by rw[List.range_eq_range'];exact e)⟩
theorem wQ(hL:cx [aP r x]=some (h8 LL))(hL2:cY [aP r x]=some (h8 LL)):dc [aP r x]=some (.bl true):=by
 have hl:=h.len
 let TW:List Int:=(List.range LL.length).map λk=>SS n r x LL k k
 let tw:D:=.lst (TW.map D.int)
 let M:D:=my LL.length (SS n r x LL)
 obtain⟨s5,s6,due⟩:=yp R X hn h tw
 have tl:(eA n r x LL).length<=36:=by
  unfold eA;refine Nat.le_trans (gK (b:=6) _ λa _=>?_) (by rw[List.length_range];omega)
  rw[List.length_map,List.length_range'];omega
 have q1:aY 1 (aj (nF 1 fF) (ab (ah 0) (ag))) (gG 8 [aP r x])=.nx [.v (aP r x),.v M,.no,.no,.no,.no,.no,.no]:=(bc ((cA (ds:=[aP r x]) rfl rfl).trans (yD R X hn h hL2))).trans rfl
 have q2:aY 2 (aj br (ab (ah 1) (ag))) [.v (aP r x),.v M,.no,.no,.no,.no,.no,.no]=.nx [.v (aP r x),.v M,.v (nI LL.length),.no,.no,.no,.no,.no]:=(bc (d:=nI LL.length) ((bf (ds:=[M]) rfl).trans (by show some (D.int (((qD LL.length (SS n r x LL)).map λis=>D.lst (is.map D.int)).length:Int))=_;rw[List.length_map];unfold qD;rw[List.length_map,List.length_range]))).trans rfl
 have q3:aY 3 (aj (nF 1 bV) (ab (ah 0) (ag))) [.v (aP r x),.v M,.v (nI LL.length),.no,.no,.no,.no,.no]=.nx [.v (aP r x),.v M,.v (nI LL.length),.v tw,.no,.no,.no,.no]:=(bc ((cA (ds:=[aP r x]) rfl rfl).trans (mX R X hn h hL))).trans rfl
 have c4:aO 1 (aW (ab (ah 2) (ag))) (gN 8) (cm) (ar aM (ar aM (ah 1) (ah 8)) (ah 8)) [.v (aP r x),.v M,.v (nI LL.length),.v tw,.no,.no,.no,.no]=some tw:=by
  refine bx (ds:=(List.range LL.length).map nI) (bz (n:=LL.length) (aq rfl rfl) (by omega)) (by simp;omega) ?_
  show _=some (List.map D.int (List.map _ _));rw[List.map_map];exact ck (h:=nI) (o:=λk=>.int (SS n r x LL k k)) (List.range LL.length) λk hk=>⟨_,rfl,nH (T:=SS n r x LL) rfl rfl rfl (List.mem_range.mp hk) (List.mem_range.mp hk)⟩
 have p4:xy (gp (gD (iO "list" (ah 3)))) (bF (ar kA (ah 3) (aO 1 (aW (ab (ah 2) (ag))) (gN 8) (cm) (ar aM (ar aM (ah 1) (ah 8)) (ah 8))))) [.v (aP r x),.v M,.v (nI LL.length),.v tw,.no,.no,.no,.no]=some false:=qZ (jX (b:=true) (iY rfl)) (dU ((ax (x:=tw) rfl c4).trans (oG (by show dS (.lst (TW.map D.int))<=32;unfold dS;rw[qO];omega))))
 have q5:dz 4 (cq (ag)) [.v (aP r x),.v M,.v (nI LL.length),.v tw,.no,.no,.no,.no]=.nx [.v (aP r x),.v M,.v (nI LL.length),.v tw,.own [],.no,.no,.no]:=(fW (iJ rfl (by simp))).trans rfl
 have q7:aY 7 (aj (nF 1 de) (ab (ah 0) (ag))) [.v (aP r x),.v M,.v (nI LL.length),.v tw,.own (eA n r x LL),s5,s6,.no]=.nx [.v (aP r x),.v M,.v (nI LL.length),.v tw,.own (eA n r x LL),s5,s6,.v (.lst (eA n r x LL))]:=(bc ((cA (ds:=[aP r x]) rfl rfl).trans (sW R X hn h hL))).trans rfl
 have dt:dS (.lst (eA n r x LL))<=32:=by
  rw[vy];have:=qJ ((Bc LL.length).map λp=>[(p.1:Int),(p.2:Int),SS n r x LL p.1 p.2])
  rw[List.map_map] at this;unfold dS;have e:cB ((Bc LL.length).map λp=>gb [(p.1:Int),(p.2:Int),SS n r x LL p.1 p.2])<=1:=this
  omega
 have c8:aO 1 (dg (ah 3)) (gN 8) (cm) (iO "bool" (ah 8)) [.v (aP r x),.v M,.v (nI LL.length),.v tw,.own (eA n r x LL),s5,s6,.v (.lst (eA n r x LL))]=some (.lst ((TW.map λ_=>false).map D.bl)):=by
  refine bx (ds:=TW.map D.int) (gn rfl) (by show(List.map D.int (List.map _ _)).length<=1000;simp;omega) ?_
  rw[show(TW.map λ_=>false).map D.bl=TW.map λ_=>D.bl false from List.map_map]
  exact ck (g:=gN 8) (f:=iO "bool" (ah 8)) (ρ0:=[.v (aP r x),.v M,.v (nI LL.length),.v tw,.own (eA n r x LL),s5,s6,.v (.lst (eA n r x LL)),.no]) (h:=D.int) (o:=λ_=>D.bl false) TW λv _=>⟨[.v (aP r x),.v M,.v (nI LL.length),.v tw,.own (eA n r x LL),s5,s6,.v (.lst (eA n r x LL)),.v (.int v)],rfl,rfl⟩
 have p8:xy (gp (gD (iO "list" (ah 7)))) (xy (bF (ar kA (ah 7) (dm 4))) (gD (aj mw (ab (aO 1 (dg (ah 3)) (gN 8) (cm) (iO "bool" (ah 8))) (ag))))) [.v (aP r x),.v M,.v (nI LL.length),.v tw,.own (eA n r x LL),s5,s6,.v (.lst (eA n r x LL))]=some false:=by
  refine qZ (jX (b:=true) (iY rfl)) (qZ (dU ((ax (x:=.lst (eA n r x LL)) (y:=.lst (eA n r x LL)) rfl rfl).trans (oG dt))) (iY ?_))
  rw[bf (aq c8 rfl),sx];congr 2
  rw[List.any_map,List.any_eq_false];intro _ _;simp
 have c9:aO 1 (dg (ah 7)) (gN 8) (cm) (xv (vW (bF (iO "tuple" (ah 8))) (bF (xv (gp (bF (iO "bool" (ar aM (ah 8) (az (.int 2)))))))))) [.v (aP r x),.v M,.v (nI LL.length),.v tw,.own (eA n r x LL),s5,s6,.v (.lst (eA n r x LL))]=some (.lst (((Bc LL.length).map λ_=>true).map D.bl)):=by
  refine bx (ds:=eA n r x LL) (gn rfl) (by omega) ?_
  rw[List.map_map];have:=ck (g:=gN 8) (f:=xv (vW (bF (iO "tuple" (ah 8))) (bF (xv (gp (bF (iO "bool" (ar aM (ah 8) (az (.int 2)))))))))) (ρ0:=[.v (aP r x),.v M,.v (nI LL.length),.v tw,.own (eA n r x LL),s5,s6,.v (.lst (eA n r x LL)),.no]) (h:=λp:Nat×Nat=>gb [(p.1:Int),(p.2:Int),SS n r x LL p.1 p.2]) (o:=λ_=>D.bl true) (Bc LL.length) λp _=>⟨[.v (aP r x),.v M,.v (nI LL.length),.v tw,.own (eA n r x LL),s5,s6,.v (.lst (eA n r x LL)),.v (gb [(p.1:Int),(p.2:Int),SS n r x LL p.1 p.2])],rfl,rfl⟩
  rw[<-vy] at this;exact this
 refine lS (kd:=.s) (n:=8) (t:=lH) ⟨_,(ay q1).trans ((ay q2).trans ((ay q3).trans ((ay (rJ p4)).trans ((ay q5).trans ((ay due).trans ((ay q7).trans ((ay (rJ p8)).trans (cJ ((bf (aq c9 rfl)).trans ((yA _).trans ?_))))))))))⟩
 congr 2
 rw[List.all_map];exact List.all_eq_true.mpr λ_ _=>rfl
end
theorem kL {n:Nat}{r x:List Nat}(R:Ord n r)(X:Ord n x)(h2:2<=n)(hn:n<=6):dc [aP r x]=some (.bl true)/\ ∃t u:List D,bV [aP r x]=some (.lst t)/\de [aP r x]=some (.lst u)/\t.length<=100/\u.length<=100:=by
 obtain⟨C,hC,e1⟩:=wJ R X (by omega)
 have e2:=um R X hn hC
 have L:=AY R X hC
 have e3:(.lst (((List.range n).filter (fq (fo r x))).map λs=>.lst ((C s).map nI)):D)=h8 (((List.range n).filter (fq (fo r x))).map C):=by unfold h8;rw[List.map_map];rfl
 rw[e3] at e1 e2;have hl:=L.len
 refine⟨wQ R X hn L e1 e2,_,_,mX R X hn L e1,sW R X hn L e1,by simp;simp at hl;omega,?_⟩
 unfold eA;refine Nat.le_trans (gK (b:=6) _ λa _=>?_) (by rw[List.length_range];omega)
 rw[List.length_map,List.length_range'];omega
theorem oT {f fe:FE}{ρ:aG}{l:List D}{d:D}(h1:f ρ=some (.lst l))(h2:fe ρ=some d)(hl:l.length<=100):bT (pu (jt f fe)) ρ=.nx ρ:=by
 have:jt f fe ρ=some .non:=by
  unfold jt;rw[h1];dsimp only;rw[if_pos (by rw[sizeLine_eq];omega),h2]
  rfl
 unfold bT;rw[kf this]
theorem zQ(ns:List Int)(hn:ns.length<=63):zp [h9 ns]=some (.bl true):=by
 refine lS (kd:=.s) (n:=5) (t:=vn) ?_
 unfold vn;obtain⟨kk,hk1,hk2⟩:=AO ns 8 (by omega) (gG 5 [h9 ns]) rfl
 refine zH (λρ=> ∃s1 s2 s3,ρ=[.v (h9 ns),s1,s2,s3,.no]) (xF (ds:=(List.range kk).map nI) (bG (bz (aq hk2 rfl) (by omega))) (sZ _ (λd hd ρ hρ=>?_) _ ⟨_,_,_,rfl⟩)) λρ' hρ'=>?_
 ·obtain⟨k,hk,rfl⟩:=List.mem_map.mp hd
  rw[List.mem_range] at hk;obtain⟨s1,s2,s3,rfl⟩:=hρ
  obtain⟨a0,b0,eb,B⟩:=AK ns k (by omega) hn
  obtain⟨d1,a1,b1,et,B1,d10,d11⟩:=kM (m:=5) B (by omega) (by decide) (by decide)
  obtain⟨n,hm,hn1,hn2⟩: ∃m:Nat,bA (.int 2) (.int d1)=some (nI m)/\2<=m/\m<=6:=⟨(2+d1).toNat,by rw[cS,D9 (by omega)],by omega,by omega⟩
  obtain⟨r,x,a2,b2,e2,S,B2⟩:=rV B1 hn1 hn2 (by omega)
  obtain⟨g,t,u,gt,gu,lt,lu⟩:=kL S.hr S.hx hn1 hn2
  have q1:dz 2 (aj (nF 2 iG) (ab (ah 0) (ab (ah 1) (ag)))) [.v (h9 ns),.v (nI k),s2,s3,.no]=.nx [.v (h9 ns),.v (nI k),.own (be a0 b0),s3,.no]:=(fW ((cA (ds:=[h9 ns,nI k]) rfl rfl).trans eb)).trans rfl
  have q2:i9 3 (aU 2 1 fu (fU (lb bA (pu (az (.int 2))) (aU 2 1 cr (cC (ab (az (.int 5)) (ag))))) (cC (ag)))) [.v (h9 ns),.v (nI k),.own (be a0 b0),s3,.no]=.nx [.v (h9 ns),.v (nI k),.own (be a2 b2),.v (aP r x),.no]:=
   (kQ (eg (i:=2) (n:=1) (b0:=be a0 b0) (bs:=be a1 b1) (ds:=[nI n]) rfl (lI (sN (kf rfl) (eg (i:=2) (n:=1) (b0:=be a0 b0) (ds:=[.int 5]) rfl (bG rfl) rfl rfl et) hm) rfl) rfl rfl e2)).trans rfl
  have q3:fY (gp (gD (aj (nF 1 dc) (ab (ah 3) (ag))))) (bw (az (.bl false))) (skip) [.v (h9 ns),.v (nI k),.own (be a2 b2),.v (aP r x),.no]=.nx [.v (h9 ns),.v (nI k),.own (be a2 b2),.v (aP r x),.no]:=
   mL (jX (b:=true) (iY ((cA (ds:=[aP r x]) rfl rfl).trans g)))
  have q4:bT (pu (jt (aj (nF 1 bV) (ab (ah 3) (ag))) (az (.int 0)))) [.v (h9 ns),.v (nI k),.own (be a2 b2),.v (aP r x),.no]=.nx [.v (h9 ns),.v (nI k),.own (be a2 b2),.v (aP r x),.no]:=oT ((cA (ds:=[aP r x]) rfl rfl).trans gt) rfl lt
  have q5:bT (pu (jt (aj (nF 1 de) (ab (ah 3) (ag))) (df (ab (az (.int 0)) (ab (az (.int 1)) (ab (az (.int 0)) (ag))))))) [.v (h9 ns),.v (nI k),.own (be a2 b2),.v (aP r x),.no]=.nx [.v (h9 ns),.v (nI k),.own (be a2 b2),.v (aP r x),.no]:=oT ((cA (ds:=[aP r x]) rfl rfl).trans gu) (gc (ds:=[.int 0,.int 1,.int 0]) rfl (by simp)) lu
  exact⟨_,[.v (h9 ns),.v (nI k),.own (be a2 b2),.v (aP r x),.no],rfl,(ay q1).trans ((ay q2).trans ((ay q3).trans ((ay q4).trans ((ay q5).trans q3)))),⟨_,_,_,rfl⟩⟩
 ·obtain⟨s1,s2,s3,rfl⟩:=hρ'
  have o4:Ord 4 [0,1,2,3]:=⟨List.Perm.refl _⟩
  have o4':Ord 4 [2,3,0,1]:=⟨by decide⟩
  have o6:Ord 6 [0,1,2,3,4,5]:=⟨List.Perm.refl _⟩
  have o6':Ord 6 [3,4,5,0,1,2]:=⟨by decide⟩
  have o5:Ord 5 [0,1,2,3,4]:=⟨List.Perm.refl _⟩
  have o5':Ord 5 [2,3,4,0,1]:=⟨by decide⟩
  refine⟨_,(ay (ρ':=[.v (h9 ns),s1,s2,s3,.v (.lst [aP [0,1,2,3] [2,3,0,1],aP [0,1,2,3,4,5] [3,4,5,0,1,2],aP [0,1,2,3,4] [2,3,4,0,1]])]) ((bc (d:=.lst [aP [0,1,2,3] [2,3,0,1],aP [0,1,2,3,4,5] [3,4,5,0,1,2],aP [0,1,2,3,4] [2,3,4,0,1]]) rfl).trans rfl)).trans (cJ ?_)⟩
  rw[bf (aq (bx (ds:=[([0,1,2,3],[2,3,0,1]),([0,1,2,3,4,5],[3,4,5,0,1,2]),([0,1,2,3,4],[2,3,4,0,1])].map λp:List Nat×List Nat=>aP p.1 p.2) (ys:=([([0,1,2,3],[2,3,0,1]),([0,1,2,3,4,5],[3,4,5,0,1,2]),([0,1,2,3,4],[2,3,4,0,1])].map λp:List Nat×List Nat=>D.bl true)) (gn rfl) (by simp) (ck _ λp hp=>⟨_,rfl,?_⟩)) rfl)]
  ·rfl
  ·refine(cA (ds:=[aP p.1 p.2]) rfl rfl).trans ?_
   rcases List.mem_cons.mp hp with rfl|hp
   ·exact(kL o4 o4' (by omega) (by omega)).1
   rcases List.mem_cons.mp hp with rfl|hp
   ·exact(kL o6 o6' (by omega) (by omega)).1
   rcases List.mem_cons.mp hp with rfl|hp
   ·exact(kL o5 o5' (by omega) (by omega)).1
   cases hp
set_option maxHeartbeats 4000000
theorem all_mk {l:W.OpenLaw}{w:World}{K:W.Frag}{h:Heap}{mg:Str->Option Value}{fa:Addr}{f0:Addr}{od0 an0:Option Addr}{sl0:Array (Option Value)}{oc0 kV0 dc0 pm0 cd0 ct0:Value}{f1:Addr}{od1 an1:Option Addr}{sl1:Array (Option Value)}{oc1 kV1 dc1 pm1 cd1 ct1:Value}{f2:Addr}{od2 an2:Option Addr}{sl2:Array (Option Value)}{oc2 kV2 dc2 pm2 cd2 ct2:Value}{f3:Addr}{od3 an3:Option Addr}{sl3:Array (Option Value)}{oc3 kV3 dc3 pm3 cd3 ct3:Value}{f4:Addr}{od4 an4:Option Addr}{sl4:Array (Option Value)}{oc4 kV4 dc4 pm4 cd4 ct4:Value}{f5:Addr}{od5 an5:Option Addr}{sl5:Array (Option Value)}{oc5 kV5 dc5 pm5 cd5 ct5:Value}{f6:Addr}{od6 an6:Option Addr}{sl6:Array (Option Value)}{oc6 kV6 dc6 pm6 cd6 ct6:Value}{f7:Addr}{od7 an7:Option Addr}{sl7:Array (Option Value)}{oc7 kV7 dc7 pm7 cd7 ct7:Value}{f8:Addr}{od8 an8:Option Addr}{sl8:Array (Option Value)}{oc8 kV8 dc8 pm8 cd8 ct8:Value}{f9:Addr}{od9 an9:Option Addr}{sl9:Array (Option Value)}{oc9 kV9 dc9 pm9 cd9 ct9:Value}{f10:Addr}{od10 an10:Option Addr}{sl10:Array (Option Value)}{oc10 kV10 dc10 pm10 cd10 ct10:Value}{f11:Addr}{od11 an11:Option Addr}{sl11:Array (Option Value)}{oc11 kV11 dc11 pm11 cd11 ct11:Value}{f12:Addr}{od12 an12:Option Addr}{sl12:Array (Option Value)}{oc12 kV12 dc12 pm12 cd12 ct12:Value}{f13:Addr}{od13 an13:Option Addr}{sl13:Array (Option Value)}{oc13 kV13 dc13 pm13 cd13 ct13:Value}{f14:Addr}{od14 an14:Option Addr}{sl14:Array (Option Value)}{oc14 kV14 dc14 pm14 cd14 ct14:Value}{f15:Addr}{od15 an15:Option Addr}{sl15:Array (Option Value)}{oc15 kV15 dc15 pm15 cd15 ct15:Value}{f16:Addr}{od16 an16:Option Addr}{sl16:Array (Option Value)}{oc16 kV16 dc16 pm16 cd16 ct16:Value}{f17:Addr}{od17 an17:Option Addr}{sl17:Array (Option Value)}{oc17 kV17 dc17 pm17 cd17 ct17:Value}{f18:Addr}{od18 an18:Option Addr}{sl18:Array (Option Value)}{oc18 kV18 dc18 pm18 cd18 ct18:Value}{f19:Addr}{od19 an19:Option Addr}{sl19:Array (Option Value)}{oc19 kV19 dc19 pm19 cd19 ct19:Value}{f20:Addr}{od20 an20:Option Addr}{sl20:Array (Option Value)}{oc20 kV20 dc20 pm20 cd20 ct20:Value}{f21:Addr}{od21 an21:Option Addr}{sl21:Array (Option Value)}{oc21 kV21 dc21 pm21 cd21 ct21:Value}{f22:Addr}{od22 an22:Option Addr}{sl22:Array (Option Value)}{oc22 kV22 dc22 pm22 cd22 ct22:Value}{f23:Addr}{od23 an23:Option Addr}{sl23:Array (Option Value)}{oc23 kV23 dc23 pm23 cd23 ct23:Value}(X:K.In h)(G:h.Ns mainGlobals mg)(hfa:mg "law"=some (.ref fa))
 (a0:W.nsIn K mainGlobals "order_rounds"=some (some (.ref f0))) (l0:K.lookup f0=some ⟨oc0,od0,.func (W.fnOf "order_rounds" "order_rounds" (ba bJ) (aQ bJ) (ao bJ) .none kV0 dc0 pm0 an0 cd0 ct0),sl0⟩) (c0:W.codeIn K cd0 "order_rounds"=true) (k0:W.keepIn K (.ref f0)=true)
 (a1:W.nsIn K mainGlobals "lines_of"=some (some (.ref f1))) (l1:K.lookup f1=some ⟨oc1,od1,.func (W.fnOf "lines_of" "lines_of" (ba dr) (aQ dr) (ao dr) .none kV1 dc1 pm1 an1 cd1 ct1),sl1⟩) (c1:W.codeIn K cd1 "lines_of"=true) (k1:W.keepIn K (.ref f1)=true)
 (a2:W.nsIn K mainGlobals "lies_between"=some (some (.ref f2))) (l2:K.lookup f2=some ⟨oc2,od2,.func (W.fnOf "lies_between" "lies_between" (ba bK) (aQ bK) (ao bK) .none kV2 dc2 pm2 an2 cd2 ct2),sl2⟩) (c2:W.codeIn K cd2 "lies_between"=true) (k2:W.keepIn K (.ref f2)=true)
 (a3:W.nsIn K mainGlobals "goes_up"=some (some (.ref f3))) (l3:K.lookup f3=some ⟨oc3,od3,.func (W.fnOf "goes_up" "goes_up" (ba eF) (aQ eF) (ao eF) .none kV3 dc3 pm3 an3 cd3 ct3),sl3⟩) (c3:W.codeIn K cd3 "goes_up"=true) (k3:W.keepIn K (.ref f3)=true)
 (a4:W.nsIn K mainGlobals "goes_right"=some (some (.ref f4))) (l4:K.lookup f4=some ⟨oc4,od4,.func (W.fnOf "goes_right" "goes_right" (ba cy) (aQ cy) (ao cy) .none kV4 dc4 pm4 an4 cd4 ct4),sl4⟩) (c4:W.codeIn K cd4 "goes_right"=true) (k4:W.keepIn K (.ref f4)=true)
 (a5:W.nsIn K mainGlobals "is_crossing"=some (some (.ref f5))) (l5:K.lookup f5=some ⟨oc5,od5,.func (W.fnOf "is_crossing" "is_crossing" (ba cc) (aQ cc) (ao cc) .none kV5 dc5 pm5 an5 cd5 ct5),sl5⟩) (c5:W.codeIn K cd5 "is_crossing"=true) (k5:W.keepIn K (.ref f5)=true)
 (a6:W.nsIn K mainGlobals "sign_at"=some (some (.ref f6))) (l6:K.lookup f6=some ⟨oc6,od6,.func (W.fnOf "sign_at" "sign_at" (ba eN) (aQ eN) (ao eN) .none kV6 dc6 pm6 an6 cd6 ct6),sl6⟩) (c6:W.codeIn K cd6 "sign_at"=true) (k6:W.keepIn K (.ref f6)=true)
 (a7:W.nsIn K mainGlobals "crossings_of"=some (some (.ref f7))) (l7:K.lookup f7=some ⟨oc7,od7,.func (W.fnOf "crossings_of" "crossings_of" (ba bI) (aQ bI) (ao bI) .none kV7 dc7 pm7 an7 cd7 ct7),sl7⟩) (c7:W.codeIn K cd7 "crossings_of"=true) (k7:W.keepIn K (.ref f7)=true)
 (a8:W.nsIn K mainGlobals "meetings_of"=some (some (.ref f8))) (l8:K.lookup f8=some ⟨oc8,od8,.func (W.fnOf "meetings_of" "meetings_of" (ba cb) (aQ cb) (ao cb) .none kV8 dc8 pm8 an8 cd8 ct8),sl8⟩) (c8:W.codeIn K cd8 "meetings_of"=true) (k8:W.keepIn K (.ref f8)=true)
 (a9:W.nsIn K mainGlobals "signs_between"=some (some (.ref f9))) (l9:K.lookup f9=some ⟨oc9,od9,.func (W.fnOf "signs_between" "signs_between" (ba bu) (aQ bu) (ao bu) .none kV9 dc9 pm9 an9 cd9 ct9),sl9⟩) (c9:W.codeIn K cd9 "signs_between"=true) (k9:W.keepIn K (.ref f9)=true)
 (a10:W.nsIn K mainGlobals "twists_of"=some (some (.ref f10))) (l10:K.lookup f10=some ⟨oc10,od10,.func (W.fnOf "twists_of" "twists_of" (ba cZ) (aQ cZ) (ao cZ) .none kV10 dc10 pm10 an10 cd10 ct10),sl10⟩) (c10:W.codeIn K cd10 "twists_of"=true) (k10:W.keepIn K (.ref f10)=true)
 (a11:W.nsIn K mainGlobals "ties_of"=some (some (.ref f11))) (l11:K.lookup f11=some ⟨oc11,od11,.func (W.fnOf "ties_of" "ties_of" (ba eL) (aQ eL) (ao eL) .none kV11 dc11 pm11 an11 cd11 ct11),sl11⟩) (c11:W.codeIn K cd11 "ties_of"=true) (k11:W.keepIn K (.ref f11)=true)
 (a12:W.nsIn K mainGlobals "_law_cell"=some (some (.ref f12))) (l12:K.lookup f12=some ⟨oc12,od12,.func (W.fnOf "_law_cell" "_law_cell" (ba dn) (aQ dn) (ao dn) .none kV12 dc12 pm12 an12 cd12 ct12),sl12⟩) (c12:W.codeIn K cd12 "_law_cell"=true) (k12:W.keepIn K (.ref f12)=true)
 (a13:W.nsIn K mainGlobals "_law_bag"=some (some (.ref f13))) (l13:K.lookup f13=some ⟨oc13,od13,.func (W.fnOf "_law_bag" "_law_bag" (ba eD) (aQ eD) (ao eD) .none kV13 dc13 pm13 an13 cd13 ct13),sl13⟩) (c13:W.codeIn K cd13 "_law_bag"=true) (k13:W.keepIn K (.ref f13)=true)
 (a14:W.nsIn K mainGlobals "_law_take"=some (some (.ref f14))) (l14:K.lookup f14=some ⟨oc14,od14,.func (W.fnOf "_law_take" "_law_take" (ba dq) (aQ dq) (ao dq) .none kV14 dc14 pm14 an14 cd14 ct14),sl14⟩) (c14:W.codeIn K cd14 "_law_take"=true) (k14:W.keepIn K (.ref f14)=true)
 (a15:W.nsIn K mainGlobals "_law_order"=some (some (.ref f15))) (l15:K.lookup f15=some ⟨oc15,od15,.func (W.fnOf "_law_order" "_law_order" (ba cX) (aQ cX) (ao cX) .none kV15 dc15 pm15 an15 cd15 ct15),sl15⟩) (c15:W.codeIn K cd15 "_law_order"=true) (k15:W.keepIn K (.ref f15)=true)
 (a16:W.nsIn K mainGlobals "_law_square"=some (some (.ref f16))) (l16:K.lookup f16=some ⟨oc16,od16,.func (W.fnOf "_law_square" "_law_square" (ba cu) (aQ cu) (ao cu) .none kV16 dc16 pm16 an16 cd16 ct16),sl16⟩) (c16:W.codeIn K cd16 "_law_square"=true) (k16:W.keepIn K (.ref f16)=true)
 (a17:W.nsIn K mainGlobals "_law_ways"=some (some (.ref f17))) (l17:K.lookup f17=some ⟨oc17,od17,.func (W.fnOf "_law_ways" "_law_ways" (ba dw) (aQ dw) (ao dw) .none kV17 dc17 pm17 an17 cd17 ct17),sl17⟩) (c17:W.codeIn K cd17 "_law_ways"=true) (k17:W.keepIn K (.ref f17)=true)
 (a18:W.nsIn K mainGlobals "_law_crossings"=some (some (.ref f18))) (l18:K.lookup f18=some ⟨oc18,od18,.func (W.fnOf "_law_crossings" "_law_crossings" (ba bv) (aQ bv) (ao bv) .none kV18 dc18 pm18 an18 cd18 ct18),sl18⟩) (c18:W.codeIn K cd18 "_law_crossings"=true) (k18:W.keepIn K (.ref f18)=true)
 (a19:W.nsIn K mainGlobals "_law_line"=some (some (.ref f19))) (l19:K.lookup f19=some ⟨oc19,od19,.func (W.fnOf "_law_line" "_law_line" (ba du) (aQ du) (ao du) .none kV19 dc19 pm19 an19 cd19 ct19),sl19⟩) (c19:W.codeIn K cd19 "_law_line"=true) (k19:W.keepIn K (.ref f19)=true)
 (a20:W.nsIn K mainGlobals "_law_lines"=some (some (.ref f20))) (l20:K.lookup f20=some ⟨oc20,od20,.func (W.fnOf "_law_lines" "_law_lines" (ba cO) (aQ cO) (ao cO) .none kV20 dc20 pm20 an20 cd20 ct20),sl20⟩) (c20:W.codeIn K cd20 "_law_lines"=true) (k20:W.keepIn K (.ref f20)=true)
 (a21:W.nsIn K mainGlobals "_law_sums"=some (some (.ref f21))) (l21:K.lookup f21=some ⟨oc21,od21,.func (W.fnOf "_law_sums" "_law_sums" (ba dA) (aQ dA) (ao dA) .none kV21 dc21 pm21 an21 cd21 ct21),sl21⟩) (c21:W.codeIn K cd21 "_law_sums"=true) (k21:W.keepIn K (.ref f21)=true)
 (a22:W.nsIn K mainGlobals "_law_good"=some (some (.ref f22))) (l22:K.lookup f22=some ⟨oc22,od22,.func (W.fnOf "_law_good" "_law_good" (ba dv) (aQ dv) (ao dv) .none kV22 dc22 pm22 an22 cd22 ct22),sl22⟩) (c22:W.codeIn K cd22 "_law_good"=true) (k22:W.keepIn K (.ref f22)=true)
 (a23:W.nsIn K mainGlobals "law"=some (some (.ref f23))) (l23:K.lookup f23=some ⟨oc23,od23,.func (W.fnOf "law" "law" (ba iP) (aQ iP) (ao iP) .none kV23 dc23 pm23 an23 cd23 ct23),sl23⟩) (c23:W.codeIn K cd23 "law"=true) (k23:W.keepIn K (.ref f23)=true)
 (z_abs:W.nsIn K mainGlobals "abs"=some none)
 (z_all:W.nsIn K mainGlobals "all"=some none)
 (z_any:W.nsIn K mainGlobals "any"=some none)
 (z_bool:W.nsIn K mainGlobals "bool"=some none)
 (z_enumerate:W.nsIn K mainGlobals "enumerate"=some none)
 (z_int:W.nsIn K mainGlobals "int"=some none)
 (z_isinstance:W.nsIn K mainGlobals "isinstance"=some none)
 (z_len:W.nsIn K mainGlobals "len"=some none)
 (z_list:W.nsIn K mainGlobals "list"=some none)
 (z_max:W.nsIn K mainGlobals "max"=some none)
 (z_min:W.nsIn K mainGlobals "min"=some none)
 (z_range:W.nsIn K mainGlobals "range"=some none)
 (z_sorted:W.nsIn K mainGlobals "sorted"=some none)
 (z_sum:W.nsIn K mainGlobals "sum"=some none)
 (z_tuple:W.nsIn K mainGlobals "tuple"=some none):
 ∃fd:FuncData,(∀(s:Shared) (v:Value),BindsTo s fd ⟨[v],[]⟩ [("_law_script",v)])/\ ∀base:Heap,K.In base->base.Ns mainGlobals mg->FnOk l.prog w K mg base oB 7 fa fd ["_law_script"] (sy K):=by
 have e:=hfa.symm.trans (W.mg_of X G a23)
 cases e
 have F0:=bB (st:=bJ) l0 c0 k0
 have b0:=F0.binds (ps:=["order"]) λ_ _ _ _ _ _ us hl=>ar1 us hl (λ_=>rfl)
 have d0:Df K mg "order_rounds" bJ ["order"]:=⟨_,_,F0,W.mg_of X G a0,b0⟩
 have F1:=bB (st:=dr) l1 c1 k1
 have b1:=F1.binds (ps:=["square"]) λ_ _ _ _ _ _ us hl=>ar1 us hl (λ_=>rfl)
 have d1:Df K mg "lines_of" dr ["square"]:=⟨_,_,F1,W.mg_of X G a1,b1⟩
 have F2:=bB (st:=bK) l2 c2 k2
 have b2:=F2.binds (ps:=["at","one","other"]) λ_ _ _ _ _ _ us hl=>ar3 us hl (λ_ _ _=>rfl)
 have d2:Df K mg "lies_between" bK ["at","one","other"]:=⟨_,_,F2,W.mg_of X G a2,b2⟩
 have F3:=bB (st:=eF) l3 c3 k3
 have b3:=F3.binds (ps:=["square","column"]) λ_ _ _ _ _ _ us hl=>ar2 us hl (λ_ _=>rfl)
 have d3:Df K mg "goes_up" eF ["square","column"]:=⟨_,_,F3,W.mg_of X G a3,b3⟩
 have F4:=bB (st:=cy) l4 c4 k4
 have b4:=F4.binds (ps:=["square","row"]) λ_ _ _ _ _ _ us hl=>ar2 us hl (λ_ _=>rfl)
 have d4:Df K mg "goes_right" cy ["square","row"]:=⟨_,_,F4,W.mg_of X G a4,b4⟩
 have F5:=bB (st:=cc) l5 c5 k5
 have b5:=F5.binds (ps:=["square","column","row"]) λ_ _ _ _ _ _ us hl=>ar3 us hl (λ_ _ _=>rfl)
 have d5:Df K mg "is_crossing" cc ["square","column","row"]:=⟨_,_,F5,W.mg_of X G a5,b5⟩
 have F6:=bB (st:=eN) l6 c6 k6
 have b6:=F6.binds (ps:=["square","column","row"]) λ_ _ _ _ _ _ us hl=>ar3 us hl (λ_ _ _=>rfl)
 have d6:Df K mg "sign_at" eN ["square","column","row"]:=⟨_,_,F6,W.mg_of X G a6,b6⟩
 have F7:=bB (st:=bI) l7 c7 k7
 have b7:=F7.binds (ps:=["square"]) λ_ _ _ _ _ _ us hl=>ar1 us hl (λ_=>rfl)
 have d7:Df K mg "crossings_of" bI ["square"]:=⟨_,_,F7,W.mg_of X G a7,b7⟩
 have F8:=bB (st:=cb) l8 c8 k8
 have b8:=F8.binds (ps:=["square","lines"]) λ_ _ _ _ _ _ us hl=>ar2 us hl (λ_ _=>rfl)
 have d8:Df K mg "meetings_of" cb ["square","lines"]:=⟨_,_,F8,W.mg_of X G a8,b8⟩
 have F9:=bB (st:=bu) l9 c9 k9
 have b9:=F9.binds (ps:=["meetings","one","other"]) λ_ _ _ _ _ _ us hl=>ar3 us hl (λ_ _ _=>rfl)
 have d9:Df K mg "signs_between" bu ["meetings","one","other"]:=⟨_,_,F9,W.mg_of X G a9,b9⟩
 have F10:=bB (st:=cZ) l10 c10 k10
 have b10:=F10.binds (ps:=["square"]) λ_ _ _ _ _ _ us hl=>ar1 us hl (λ_=>rfl)
 have d10:Df K mg "twists_of" cZ ["square"]:=⟨_,_,F10,W.mg_of X G a10,b10⟩
 have F11:=bB (st:=eL) l11 c11 k11
 have b11:=F11.binds (ps:=["square"]) λ_ _ _ _ _ _ us hl=>ar1 us hl (λ_=>rfl)
 have d11:Df K mg "ties_of" eL ["square"]:=⟨_,_,F11,W.mg_of X G a11,b11⟩
 have F12:=bB (st:=dn) l12 c12 k12
 have b12:=F12.binds (ps:=["_law_script","_law_k"]) λ_ _ _ _ _ _ us hl=>ar2 us hl (λ_ _=>rfl)
 have d12:Df K mg "_law_cell" dn ["_law_script","_law_k"]:=⟨_,_,F12,W.mg_of X G a12,b12⟩
 have F13:=bB (st:=eD) l13 c13 k13
 have b13:=F13.binds (ps:=["_law_script","_law_at"]) λ_ _ _ _ _ _ us hl=>ar2 us hl (λ_ _=>rfl)
 have d13:Df K mg "_law_bag" eD ["_law_script","_law_at"]:=⟨_,_,F13,W.mg_of X G a13,b13⟩
 have F14:=bB (st:=dq) l14 c14 k14
 have b14:=F14.binds (ps:=["_law_bag_here","_law_many"]) λ_ _ _ _ _ _ us hl=>ar2 us hl (λ_ _=>rfl)
 have d14:Df K mg "_law_take" dq ["_law_bag_here","_law_many"]:=⟨_,_,F14,W.mg_of X G a14,b14⟩
 have F15:=bB (st:=cX) l15 c15 k15
 have b15:=F15.binds (ps:=["_law_bag_here","_law_n"]) λ_ _ _ _ _ _ us hl=>ar2 us hl (λ_ _=>rfl)
 have d15:Df K mg "_law_order" cX ["_law_bag_here","_law_n"]:=⟨_,_,F15,W.mg_of X G a15,b15⟩
 have F16:=bB (st:=cu) l16 c16 k16
 have b16:=F16.binds (ps:=["_law_bag_here","_law_n"]) λ_ _ _ _ _ _ us hl=>ar2 us hl (λ_ _=>rfl)
 have d16:Df K mg "_law_square" cu ["_law_bag_here","_law_n"]:=⟨_,_,F16,W.mg_of X G a16,b16⟩
 have F17:=bB (st:=dw) l17 c17 k17
 have b17:=F17.binds (ps:=["_law_square_here"]) λ_ _ _ _ _ _ us hl=>ar1 us hl (λ_=>rfl)
 have d17:Df K mg "_law_ways" dw ["_law_square_here"]:=⟨_,_,F17,W.mg_of X G a17,b17⟩
 have F18:=bB (st:=bv) l18 c18 k18
 have b18:=F18.binds (ps:=["_law_square_here"]) λ_ _ _ _ _ _ us hl=>ar1 us hl (λ_=>rfl)
 have d18:Df K mg "_law_crossings" bv ["_law_square_here"]:=⟨_,_,F18,W.mg_of X G a18,b18⟩
 have F19:=bB (st:=du) l19 c19 k19
 have b19:=F19.binds (ps:=["_law_square_here","_law_begin"]) λ_ _ _ _ _ _ us hl=>ar2 us hl (λ_ _=>rfl)
 have d19:Df K mg "_law_line" du ["_law_square_here","_law_begin"]:=⟨_,_,F19,W.mg_of X G a19,b19⟩
 have F20:=bB (st:=cO) l20 c20 k20
 have b20:=F20.binds (ps:=["_law_square_here"]) λ_ _ _ _ _ _ us hl=>ar1 us hl (λ_=>rfl)
 have d20:Df K mg "_law_lines" cO ["_law_square_here"]:=⟨_,_,F20,W.mg_of X G a20,b20⟩
 have F21:=bB (st:=dA) l21 c21 k21
 have b21:=F21.binds (ps:=["_law_square_here"]) λ_ _ _ _ _ _ us hl=>ar1 us hl (λ_=>rfl)
 have d21:Df K mg "_law_sums" dA ["_law_square_here"]:=⟨_,_,F21,W.mg_of X G a21,b21⟩
 have F22:=bB (st:=dv) l22 c22 k22
 have b22:=F22.binds (ps:=["_law_square_here"]) λ_ _ _ _ _ _ us hl=>ar1 us hl (λ_=>rfl)
 have d22:Df K mg "_law_good" dv ["_law_square_here"]:=⟨_,_,F22,W.mg_of X G a22,b22⟩
 have F23:=bB (st:=iP) l23 c23 k23
 have b23:=F23.binds (ps:=["_law_script"]) λ_ _ _ _ _ _ us hl=>ar1 us hl (λ_=>rfl)
 have d23:Df K mg "law" iP ["_law_script"]:=⟨_,_,F23,W.mg_of X G a23,b23⟩
 have B:Bt mg:=⟨W.mg_none_of X G z_abs,W.mg_none_of X G z_all,W.mg_none_of X G z_any,W.mg_none_of X G z_bool,W.mg_none_of X G z_enumerate,W.mg_none_of X G z_int,W.mg_none_of X G z_isinstance,W.mg_none_of X G z_len,W.mg_none_of X G z_list,W.mg_none_of X G z_max,W.mg_none_of X G z_min,W.mg_none_of X G z_range,W.mg_none_of X G z_sorted,W.mg_none_of X G z_sum,W.mg_none_of X G z_tuple⟩
 refine⟨W.fnOf "law" "law" (ba iP) (aQ iP) (ao iP) .none kV23 dc23 pm23 an23 cd23 ct23,λs v=>.of_eq rfl,λbase _ _=>?_⟩
 have fJ:=lj (P:=l.prog) (w:=w) (base:=base) B d0
 have eI:=rd (P:=l.prog) (w:=w) (base:=base) B d1 fJ
 have dN:=kX (P:=l.prog) (w:=w) (base:=base) B d2
 have jC:=uB (P:=l.prog) (w:=w) (base:=base) B d3
 have g9:=oC (P:=l.prog) (w:=w) (base:=base) B d4
 have gz:=mE (P:=l.prog) (w:=w) (base:=base) B d5 dN
 have jM:=tX (P:=l.prog) (w:=w) (base:=base) B d6 jC g9
 have fP:=md (P:=l.prog) (w:=w) (base:=base) B d7 jM gz
 have cD:=mz (P:=l.prog) (w:=w) (base:=base) B d8 fP
 have bQ:=kE (P:=l.prog) (w:=w) (base:=base) B d9
 have dD:=pD (P:=l.prog) (w:=w) (base:=base) B d10 eI cD bQ
 have fD:=tY (P:=l.prog) (w:=w) (base:=base) B d11 eI cD bQ
 have i7:=qL (P:=l.prog) (w:=w) (base:=base) B d12
 have j1:=uO (P:=l.prog) (w:=w) (base:=base) B d13 i7
 have ca:=rK (P:=l.prog) (w:=w) (base:=base) B d14
 have ga:=qa (P:=l.prog) (w:=w) (base:=base) B d15 ca
 have hV:=n9 (P:=l.prog) (w:=w) (base:=base) B d16 ca ga
 have i6:=rP (P:=l.prog) (w:=w) (base:=base) B d17
 have eW:=km (P:=l.prog) (w:=w) (base:=base) B d18 i6
 have iZ:=qG (P:=l.prog) (w:=w) (base:=base) B d19
 have ig:=qg (P:=l.prog) (w:=w) (base:=base) B d20 iZ
 have jc:=qI (P:=l.prog) (w:=w) (base:=base) B d21 ig eW
 have fI:=rC (P:=l.prog) (w:=w) (base:=base) B d22 jc dD fD
 exact zS (An (P:=l.prog) (w:=w) (base:=base) B F23 j1 hV fI ca dD fD) zQ
end L2
theorem PySem.W.Fast.tw15687289688497450638:True:=⟨⟩
theorem PySem.W.Fast.tw3081533558604767661:True:=⟨⟩
theorem PySem.W.Fast.tw16774125012918844531:True:=⟨⟩
theorem PySem.W.Fast.tw13945459753377172595:True:=⟨⟩
theorem PySem.W.Fast.tw11644651439032988777:True:=⟨⟩
theorem PySem.W.Fast.tw3956842029497095948:True:=⟨⟩
theorem PySem.W.Fast.tw14495665029869439695:True:=⟨⟩
theorem PySem.W.Fast.tw5087317305802817195:True:=⟨⟩
theorem PySem.W.Fast.tw3265866220118219461:True:=⟨⟩
theorem PySem.W.Fast.tw13223432509437977487:True:=⟨⟩
theorem PySem.W.Fast.tw14052497646535941893:True:=⟨⟩
theorem PySem.W.Fast.tw8062694911107062095:True:=⟨⟩
theorem PySem.W.Fast.tw17410306167304148037:True:=⟨⟩
theorem PySem.W.Fast.tw6153522978634497916:True:=⟨⟩
theorem PySem.W.Fast.tw1346506712830208342:True:=⟨⟩
theorem PySem.W.Fast.tw5845574302505351214:True:=⟨⟩
theorem PySem.W.Fast.tw16284246496409051984:True:=⟨⟩
theorem PySem.W.Fast.tw8245808343167425399:True:=⟨⟩
theorem PySem.W.Fast.tw15422012587629455248:True:=⟨⟩
open PySem PySem.W PyProof.Rows
set_option maxRecDepth 100000 in
set_option maxHeartbeats 0 in
theorem PySem.Challenge.cw_rookborders_k04_twists_and_ties_holds : PySem.Challenge.rw_rookborders_k04_twists_and_ties.Holds := by
 w_on;o_law;k_head;(case hw=>w_witness2)
 k_fill
 refine L2.walkD (l:=PySem.Challenge.rw_rookborders_k04_twists_and_ties) (k:=7) (x:="_law_script") rfl rfl ⟨rfl,by decide,by decide⟩ (λw h Y=>W.kIn_of Y) ?F
 case F=>
  intro w mg fa h KX G hmg
  refine' L2.all_mk KX G hmg ?a0 ?l0 ?c0 ?k0 ?a1 ?l1 ?c1 ?k1 ?a2 ?l2 ?c2 ?k2 ?a3 ?l3 ?c3 ?k3 ?a4 ?l4 ?c4 ?k4 ?a5 ?l5 ?c5 ?k5 ?a6 ?l6 ?c6 ?k6 ?a7 ?l7 ?c7 ?k7 ?a8 ?l8 ?c8 ?k8 ?a9 ?l9 ?c9 ?k9 ?a10 ?l10 ?c10 ?k10 ?a11 ?l11 ?c11 ?k11 ?a12 ?l12 ?c12 ?k12 ?a13 ?l13 ?c13 ?k13 ?a14 ?l14 ?c14 ?k14 ?a15 ?l15 ?c15 ?k15 ?a16 ?l16 ?c16 ?k16 ?a17 ?l17 ?c17 ?k17 ?a18 ?l18 ?c18 ?k18 ?a19 ?l19 ?c19 ?k19 ?a20 ?l20 ?c20 ?k20 ?a21 ?l21 ?c21 ?k21 ?a22 ?l22 ?c22 ?k22 ?a23 ?l23 ?c23 ?k23 ?z_abs ?z_all ?z_any ?z_bool ?z_enumerate ?z_int ?z_isinstance ?z_len ?z_list ?z_max ?z_min ?z_range ?z_sorted ?z_sum ?z_tuple
  (case a0=>k_is)
  (case l0=>k_is)
  (case c0=>k_is)
  (case k0=>k_is)
  (case a1=>k_is)
  (case l1=>k_is)
  (case c1=>k_is)
  (case k1=>k_is)
  (case a2=>k_is)
  (case l2=>k_is)
  (case c2=>k_is)
  (case k2=>k_is)
  (case a3=>k_is)
  (case l3=>k_is)
  (case c3=>k_is)
  (case k3=>k_is)
  (case a4=>k_is)
  (case l4=>k_is)
  (case c4=>k_is)
  (case k4=>k_is)
  (case a5=>k_is)
  (case l5=>k_is)
  (case c5=>k_is)
  (case k5=>k_is)
  (case a6=>k_is)
  (case l6=>k_is)
  (case c6=>k_is)
  (case k6=>k_is)
  (case a7=>k_is)
  (case l7=>k_is)
  (case c7=>k_is)
  (case k7=>k_is)
  (case a8=>k_is)
  (case l8=>k_is)
  (case c8=>k_is)
  (case k8=>k_is)
  (case a9=>k_is)
  (case l9=>k_is)
  (case c9=>k_is)
  (case k9=>k_is)
  (case a10=>k_is)
  (case l10=>k_is)
  (case c10=>k_is)
  (case k10=>k_is)
  (case a11=>k_is)
  (case l11=>k_is)
  (case c11=>k_is)
  (case k11=>k_is)
  (case a12=>k_is)
  (case l12=>k_is)
  (case c12=>k_is)
  (case k12=>k_is)
  (case a13=>k_is)
  (case l13=>k_is)
  (case c13=>k_is)
  (case k13=>k_is)
  (case a14=>k_is)
  (case l14=>k_is)
  (case c14=>k_is)
  (case k14=>k_is)
  (case a15=>k_is)
  (case l15=>k_is)
  (case c15=>k_is)
  (case k15=>k_is)
  (case a16=>k_is)
  (case l16=>k_is)
  (case c16=>k_is)
  (case k16=>k_is)
  (case a17=>k_is)
  (case l17=>k_is)
  (case c17=>k_is)
  (case k17=>k_is)
  (case a18=>k_is)
  (case l18=>k_is)
  (case c18=>k_is)
  (case k18=>k_is)
  (case a19=>k_is)
  (case l19=>k_is)
  (case c19=>k_is)
  (case k19=>k_is)
  (case a20=>k_is)
  (case l20=>k_is)
  (case c20=>k_is)
  (case k20=>k_is)
  (case a21=>k_is)
  (case l21=>k_is)
  (case c21=>k_is)
  (case k21=>k_is)
  (case a22=>k_is)
  (case l22=>k_is)
  (case c22=>k_is)
  (case k22=>k_is)
  (case a23=>k_is)
  (case l23=>k_is)
  (case c23=>k_is)
  (case k23=>k_is)
  (case z_abs=>k_is)
  (case z_all=>k_is)
  (case z_any=>k_is)
  (case z_bool=>k_is)
  (case z_enumerate=>k_is)
  (case z_int=>k_is)
  (case z_isinstance=>k_is)
  (case z_len=>k_is)
  (case z_list=>k_is)
  (case z_max=>k_is)
  (case z_min=>k_is)
  (case z_range=>k_is)
  (case z_sorted=>k_is)
  (case z_sum=>k_is)
  (case z_tuple=>k_is)
