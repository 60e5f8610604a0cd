import PyProof.Rows.All
import Wide.All
import OpenK.AllK
import Wide.FinOn
import PyProof.EqAt
import PyProof.EqKinds
import PyProof.TupleCall
import PyProof.NeKinds
import PyProof.FactsAll.tuple_2
import PyProof.FactsAll.tuple_3
import PyProof.ListRange
import KE.KSortTup
import PyProof.EnumMake
import PyProof.AutoSeq1
import PyProof.Rows.SeqMore
import KE.KIsAll
import PyProof.ExcArgsOwn
import PyProof.ExcBaseAll.ValueError
import PyProof.ExcAttrAll.ValueError
import OpenK.KOwn
import PyProof.RulesAs
import PyProof.AutoRange
import PyProof.SeqRoads2
import PyProof.ZipIter
import Lean
import PySem.Challenge.RW_rookborders_k14_whole_there_and_back
set_option bootstrap.genMatcherCode false
set_option Elab.async false
set_option linter.all false
set_option maxRecDepth 100000
set_option maxHeartbeats 1000000
namespace L2
open PySem
abbrev Pb:=SetTable.Probe
def BF(mask:Nat)(p:Pb):Pb:=
 if p.more>0 then {p with j:=p.j+1,more:=p.more-1} else
 {p with j:=(SetTable.leap mask p.i p.perturb).1,more:=SetTable.runEnd mask (SetTable.leap mask p.i p.perturb).1- (SetTable.leap mask p.i p.perturb).1,i:=(SetTable.leap mask p.i p.perturb).1,perturb:=(SetTable.leap mask p.i p.perturb).2}
def zA(mask i perturb:Nat)(d:Option Nat):Pb:={j:=i,more:=SetTable.runEnd mask i-i,i:=i,perturb:=perturb,dummy:=d}
def zL(mask:Nat):Nat->Pb->Pb
 |0,p=>p
 |n+1,p=>zL mask n (BF mask p)
def BD(mask:Nat)(h:Int)(d:Option Nat):Pb:=zA mask (SetTable.bits h % (mask+1)) (SetTable.bits h) d
def Jx(mask:Nat)(h:Int)(m:Nat):Nat:=(zL mask m (BD mask h none)).j
def Bq(xs:Array Nat):Prop:=xs.toList.Pairwise (·< ·)
structure TOk(t:SetTable)(hs:List Int):Prop where
 pw: ∃k,3<=k/\k<=12/\t.mask+1=2^k
 sz:t.place.size=hs.length
 sp:Bq t.place
 sd:Bq t.dummies
 lp: ∀j∈t.place.toList,j<=t.mask
 ld: ∀j∈t.dummies.toList,j<=t.mask
 dj: ∀j∈t.dummies.toList,j∉t.place.toList
 fl:t.fill<=t.mask
 rc: ∀x∈hs.zip t.place.toList,∃m,Jx t.mask x.1 m=x.2/\ ∀m',m'<m->Jx t.mask x.1 m'∈t.place.toList\/Jx t.mask x.1 m'∈t.dummies.toList
open PySem PySem.Spec PyProof.Rows
def th(ks:List Int):Int:=reduceHash (Builtin.Tuple.tupleHashOf (ks.map hashInt))
def BH(x:List Int×Addr):Int×Value:=(th x.1,.ref x.2)
abbrev Bc:=List (List Int×Addr)
def BI(xs:Bc):List Int:=xs.map λx=>th x.1
structure SetAt(w:World)(o:Obj)(es:Array (Int×Value))(ep:Nat)(t:SetTable)(xs:Bc):Prop where
 ex:o.ExactSet
 hd:o.data=.set es ep t
 he:es.toList=xs.map BH
 T:TOk t (BI xs)
 led:t.led= !w.params.followText "set-order"
 pl:t.plain=true
 nd:(xs.map (·.1)).Nodup
structure SetOk(w:World)(o:Obj)(es:Array (Int×Value))(ep:Nat)(t:SetTable)(xs:Bc):Prop extends SetAt w o es ep t xs where
 f5:t.fill*5<t.mask*3
abbrev mF:=Sum Int Str
def xo:mF->Value->Bool
 | .inl k,v=>Value.isInt k v
 | .inr x,v=>Value.isStrOf x v
def Bh(w:World):mF->Int
 | .inl k=>hashInt k
 | .inr x=>hashStr w x
theorem ck: ∀ {k:mF} {v:Value},xo k v=true->(∃i t,k=Sum.inl i/\v=Value.int i t)\/(∃x t,k=Sum.inr x/\v=Value.str x t)
 | .inl i,v,h=>by
   obtain⟨t,e⟩:=Value.isInt_shape (k:=i) (v:=v) h
   exact .inl ⟨i,t,rfl,e⟩
 | .inr x,v,h=>by
   obtain⟨t,e⟩:=Value.isStrOf_shape (x:=x) (v:=v) h
   exact .inr ⟨x,t,rfl,e⟩
theorem yG(a b:Int):decide ((Sum.inl a:mF)=Sum.inl b)=(a==b):=by
 by_cases e:a=b
 ·subst e;simp
 ·have h: ¬(Sum.inl a:mF)=Sum.inl b:=λq=>e (Sum.inl.inj q)
  rw[decide_eq_false h];exact(beq_eq_false_iff_ne.mpr e).symm
theorem yN(a b:Str):decide ((Sum.inr a:mF)=Sum.inr b)=decide (a=b):=by
 by_cases e:a=b
 ·subst e;simp
 ·have h: ¬(Sum.inr a:mF)=Sum.inr b:=λq=>e (Sum.inr.inj q)
  rw[decide_eq_false h,decide_eq_false e]
theorem ym(a:Int)(b:Str):decide ((Sum.inl a:mF)=Sum.inr b)=false:=decide_eq_false (λq=>nomatch q)
theorem yv(a:Str)(b:Int):decide ((Sum.inr a:mF)=Sum.inl b)=false:=decide_eq_false (λq=>nomatch q)
def oR(prog:Program)(w:World):PySem.KeyKind prog w mF where
 is:=xo
 hash:=Bh w
 inj:=λv a b ha hb=>by
  rcases ck ha with⟨i,t,rfl,rfl⟩|⟨x,t,rfl,rfl⟩
  ·rcases ck hb with⟨j,u,rfl,e⟩|⟨y,u,rfl,e⟩
   ·injection e with e1 _;rw[e1]
   ·exact nomatch e
  ·rcases ck hb with⟨j,u,rfl,e⟩|⟨y,u,rfl,e⟩
   ·exact nomatch e
   ·injection e with e1 _;rw[e1]
 byValue:=λk v h=>by
  rcases ck h with⟨i,t,rfl,rfl⟩|⟨x,t,rfl,rfl⟩<;>rfl
 pyHash:=λhv h=>by
  rcases ck hv with⟨i,t,rfl,rfl⟩|⟨x,t,rfl,rfl⟩
  ·exact wpAny_pyHash_int h
  ·exact wpAny_pyHash_str h
 eqBool:=λhu hv h=>by
  rcases ck hu with⟨i,t,rfl,rfl⟩|⟨x,t,rfl,rfl⟩
  ·rcases ck hv with⟨j,u,rfl,rfl⟩|⟨y,u,rfl,rfl⟩
   ·rw[yG] at h;exact wpAny_eqBool_int h
   ·rw[ym] at h;exact SeqAt.EqAt.int_str i t y u _ _ _ _ h
  ·rcases ck hv with⟨j,u,rfl,rfl⟩|⟨y,u,rfl,rfl⟩
   ·rw[yv] at h;exact SeqAt.EqAt.str_int x t j u _ _ _ _ h
   ·rw[yN] at h;exact wpAny_eqBool_str h
 «strs»:=λk x t v h=>by
  rcases ck h with⟨i,u,rfl,e⟩|⟨y,u,rfl,e⟩
  ·exact nomatch e
  ·injection e with e1 _
   subst e1;cases v<;>rfl
inductive V where
 |non|bl (b:Bool)|int (i:Int)|str (x:Str)|byt (b:Array UInt8)|flt (b:UInt64)|ref (a:Addr)|ty (n:String)
 deriving DecidableEq
def RelV:V->Value->Prop
 | .non,u=>u=Value.none
 | .bl b,u=>u=Value.bool b
 | .int i,u=> ∃t,u=Value.int i t
 | .str x,u=> ∃t,u=Value.str x t
 | .byt b,u=> ∃t,u=Value.bytes b t
 | .flt b,u=> ∃t,u=Value.float b t
 | .ref a,u=>u=Value.ref a
 | .ty n,u=>u=Value.type n
abbrev Vals:List V->List Value->Prop:=Paired RelV
theorem Vals.length {xs:List V}{us:List Value}(r:Vals xs us):xs.length=us.length:=Paired.length r
theorem Vals.get: ∀ {xs:List V} {us:List Value} {i:Nat} {x:V},Vals xs us->xs[i]? =some x-> ∃u,us[i]? =some u/\RelV x u
 |_,_,_,_,.nil,e=>by simp at e
 |_,_,0,_,.cons r _,e=>by simp at e;subst e;exact⟨_,rfl,r⟩
 |_,_,i+1,x,.cons _ t,e=>by
  obtain⟨u,h1,h2⟩:=Vals.get (i:=i) (x:=x) t (by simpa using e)
  exact⟨u,by simpa using h1,h2⟩
theorem Vals.set {x:V}{u:Value}(r:RelV x u): ∀ {xs:List V} {us:List Value} (i:Nat),Vals xs us->Vals (xs.set i x) (us.set i u)
 |_,_,_,.nil=>.nil
 |_,_,0,.cons _ t=>.cons r t
 |_,_,i+1,.cons q t=>.cons q (Vals.set r i t)
theorem Vals.append: ∀ {xs ys:List V} {us ws:List Value},Vals xs us->Vals ys ws->Vals (xs++ys) (us++ws)
 |_,_,_,_,.nil,s=>s
 |_,_,_,_,.cons r t,s=>.cons r (Vals.append t s)
theorem Vals.take: ∀ {xs:List V} {us:List Value} (n:Nat),Vals xs us->Vals (xs.take n) (us.take n)
 |_,_,0,_=>.nil
 |_,_,_+1,.nil=>.nil
 |_,_,n+1,.cons r t=>.cons r (Vals.take n t)
theorem Vals.drop: ∀ {xs:List V} {us:List Value} (n:Nat),Vals xs us->Vals (xs.drop n) (us.drop n)
 |_,_,0,r=>r
 |_,_,_+1,.nil=>.nil
 |_,_,n+1,.cons _ t=>Vals.drop n t
def Ad:Option V->Option Value->Prop
 |some v,some u=>RelV v u
 |none,none=>True
 |_,_=>False
def KV {κ:Type}:List (κ×V)->List (κ×Value)->Prop:=Paired λ(p:κ×V) (q:κ×Value)=>p.1=q.1/\RelV p.2 q.2
def kV:mF->V
 | .inl i=>.int i
 | .inr x=>.str x
inductive HO where
 |lst (xs:List V)
 |tup (xs:List V)
 |dK (kvs:List (mF×V))|dT (kvs:List (List mF×V))
 |set (S:Int->Bool) (n:Nat)
 |tst (xs:List (List Int×Addr))
 |ins (C dx:Addr) (fs:List (Str×V))
 |own (x:Addr)
 |xd (fs:List (Str×V))
 |met (f x:Addr)
 |rng (lo hi:Int)
 |frz (o:Obj) (u:HO)
 |tbl (ps:Array Value)
 |ext (φ:Heap->Prop)
abbrev Hp:=Addr->Option HO
def dv(H:Hp)(a:Addr)(o:HO):Hp:=λb=>if b=a then some o else H b
theorem bM {H:Hp}{a:Addr}{o:HO}:dv H a o a=some o:=by unfold dv;rw[if_pos rfl]
theorem aR {H:Hp}{a b:Addr}{o:HO}(h:b≠a):dv H a o b=H b:=by unfold dv;rw[if_neg h]
theorem cu {H:Hp}{a b:Addr}{o:HO}(h:H a=some o)(h':H b=none):a≠b:=by
 intro e;subst e;rw[h] at h';cases h'
section
variable(P:Program)(w:World)
def ObjOk(H:Hp)(h:Heap)(a:Addr):HO->Prop
 | .lst xs=>xs.length<=sizeLine/\ ∃(its:List Value) (n:Nat),Vals xs its/\h.get? a=some {cls:=.type "list",data:=.seq its.toArray n}
 | .tup xs=>xs.length<=sizeLine/\ ∃its:List Value,Vals xs its/\IsTup h a its.toArray/\ ∃o,h.get? a=some o/\o.dict=none
 | .dK kvs=>kvs.length<=sizeLine/\(a==sysModules)=false/\ ∃vs,KV kvs vs/\h.DictOf (oR P w) a vs
 | .dT kvs=>kvs.length<=sizeLine/\(a==sysModules)=false/\ ∃xs:List (List mF×Addr×Value),
    Paired (λ(p:List mF×V) (q:List mF×Addr×Value)=>p.1=q.1/\H q.2.1=some (.tup (p.1.map kV))/\RelV p.2 q.2.2) kvs xs/\
    ∃o es ep,h.get? a=some o/\o.ExactDict/\o.data=.dict es ep/\es.toList=xs.map (entryOfKey (tupleKind (oR P w)))/\(xs.map (·.1)).Nodup
 | .set S n=>h.SetOf (intKind P w) a S n
 | .tst xs=> ∃o es ep t,h.get? a=some o/\SetOk w o es ep t xs
 | .ins C dx fs=>H dx=some (.own a)/\fs.length<=1000/\dx≠a/\h.get? a=some (W.instObj C dx)/\
    ∃mA,h.Ns1 dx mA/\(∀f,Ad (fs.lookup f) (mA f))/\PySem.Within mA (fs.map (·.1))
 | .own _=> ∃o,h.get? a=some o
 | .xd fs=> ∃mA,h.Ns1 a mA/\ ∀f,Ad (fs.lookup f) (mA f)
 | .rng lo hi=> ∃t u v,h.get? a=some {cls:=.type "range",data:=.fields #[.int lo t,.int hi u,.int 1 v]}
 | .frz o u=>h.get? a=some o/\ObjOk H h a u
 | .tbl ps=>h.get? a=some {cls:=.none,data:=.fields ps}
 | .met f x=>h.get? a=some (W.methodObj (.ref f) (.ref x))
 | .ext φ=>φ h/\(∃o,h.get? a=some o)/\ ∀h1 h2:Heap,φ h1->(∀o,h1.get? a=some o->h2.get? a=some o)->φ h2
def HOk(H:Hp)(h:Heap):Prop:= ∀a o,H a=some o->ObjOk P w H h a o
end
section
variable {P:Program}{w:World}{H H':Hp}{h h':Heap}{a:Addr}{o:HO}
theorem ObjOk.lt(x:ObjOk P w H h a o):a<h.objs.size:=by
 cases o with
 |lst xs=>obtain⟨_,_,_,_,e⟩:=x;exact Heap.lt_size e
 |tup xs=>obtain⟨_,_,_,p,_⟩:=x;exact p.lt
 |dK kvs=>obtain⟨_,_,_,_,o,_,_,e,_⟩:=x;exact Heap.lt_size e
 |dT kvs=>obtain⟨_,_,_,_,o,_,_,e,_⟩:=x;exact Heap.lt_size e
 |set S n=>obtain⟨o,_,_,_,e,_⟩:=x;exact Heap.lt_size e
 |tst xs=>obtain⟨o,_,_,_,e,_⟩:=x;exact Heap.lt_size e
 |ins C dx fs=>obtain⟨_,_,_,e,_⟩:=x;exact Heap.lt_size e
 |own y=>obtain⟨_,e⟩:=x;exact Heap.lt_size e
 |xd fs=>obtain⟨_,⟨_,_,_,e,_⟩,_⟩:=x;exact Heap.lt_size e
 |rng lo hi=>obtain⟨_,_,_,e⟩:=x;exact Heap.lt_size e
 |frz ob u=>obtain⟨e,_⟩:=x;exact Heap.lt_size e
 |tbl ps=>exact Heap.lt_size (show h.get? a=some _ from x)
 |met f y=>exact Heap.lt_size (show h.get? a=some _ from x)
 |ext φ=>obtain⟨_,⟨_,e⟩,_⟩:=x;exact Heap.lt_size e
theorem Paired.mapP {α β:Type}{F G:α->β->Prop}: ∀ {l₁:List α} {l₂:List β},Paired F l₁ l₂->(∀a b,F a b->G a b)->Paired G l₁ l₂
 |_,_,.nil,_=>.nil
 |_,_,.cons r t,f=>.cons (f _ _ r) (Paired.mapP t f)
theorem ObjOk.stay(x:ObjOk P w H h a o)(k: ∀b u,(b=a\/H b=some (.own a))->h.get? b=some u->h'.get? b=some u)
 (ho: ∀b,H b=some (.own a)->H' b=some (.own a)) (ht: ∀b xs,H b=some (.tup xs)->H' b=some (.tup xs)):ObjOk P w H' h' a o:=by
 induction o with
 |lst xs=>obtain⟨z,its,n,r,e⟩:=x;exact⟨z,its,n,r,k _ _ (.inl rfl) e⟩
 |tup xs=>obtain⟨z,its,r,⟨ob,e,c⟩,ob2,e2,c2⟩:=x;exact⟨z,its,r,⟨ob,k _ _ (.inl rfl) e,c⟩,ob2,k _ _ (.inl rfl) e2,c2⟩
 |dK kvs=>obtain⟨z,y,vs,r,ob,es,ep,e,c⟩:=x;exact⟨z,y,vs,r,ob,es,ep,k _ _ (.inl rfl) e,c⟩
 |dT kvs=>
  obtain⟨z,y,xs,r,ob,es,ep,e,c⟩:=x
  exact⟨z,y,xs,Paired.mapP r λp q z=>⟨z.1,ht _ _ z.2.1,z.2.2⟩,ob,es,ep,k _ _ (.inl rfl) e,c⟩
 |set S n=>obtain⟨ob,es,ep,t,e,c⟩:=x;exact⟨ob,es,ep,t,k _ _ (.inl rfl) e,c⟩
 |tst xs=>obtain⟨ob,es,ep,t,e,c⟩:=x;exact⟨ob,es,ep,t,k _ _ (.inl rfl) e,c⟩
 |ins C dx fs=>
  obtain⟨d,z,ne,e,mA,⟨od,es,ep,e2,c⟩,r⟩:=x
  exact⟨ho _ d,z,ne,k _ _ (.inl rfl) e,mA,⟨od,es,ep,k _ _ (.inr d) e2,c⟩,r⟩
 |own y=>obtain⟨ob,e⟩:=x;exact⟨ob,k _ _ (.inl rfl) e⟩
 |xd fs=>obtain⟨mA,⟨od,es,ep,e,c⟩,r⟩:=x;exact⟨mA,⟨od,es,ep,k _ _ (.inl rfl) e,c⟩,r⟩
 |rng lo hi=>obtain⟨t,u,v,e⟩:=x;exact⟨t,u,v,k _ _ (.inl rfl) e⟩
 |frz ob u ih=>obtain⟨e,q⟩:=x;exact⟨k _ _ (.inl rfl) e,ih q⟩
 |tbl ps=>
  have e:h.get? a=some {cls:=.none,data:=.fields ps}:=x
  show h'.get? a=some {cls:=.none,data:=.fields ps};exact k a _ (.inl rfl) e
 |met f y=>
  have e:h.get? a=some (W.methodObj (.ref f) (.ref y)):=x
  show h'.get? a=some (W.methodObj (.ref f) (.ref y));exact k a _ (.inl rfl) e
 |ext φ=>obtain⟨p,⟨o,e⟩,st⟩:=x;exact⟨st _ _ p λo q=>k _ _ (.inl rfl) q,⟨o,k _ _ (.inl rfl) e⟩,st⟩
theorem HOk.lt(x:HOk P w H h)(e:H a=some o):a<h.objs.size:=(x a o e).lt
theorem HOk.fresh(x:HOk P w H h)(e:h.objs.size<=a):H a=none:=by
 cases q:H a with
 |none=>rfl
 |some u=>exact absurd (Nat.lt_of_lt_of_le (x.lt q) e) (Nat.lt_irrefl _)
theorem HOk.kept(x:HOk P w H h)(k: ∀b u,h.get? b=some u->h'.get? b=some u):HOk P w H h':=λa o e=>
 (x a o e).stay (λb u _ q=>k b u q) (λ_ q=>q) λ_ _ q=>q
theorem HOk.laid(x:HOk P w H h)(k: ∀b u,h.get? b=some u->h'.get? b=some u)(hp:h.objs.size<=a)(new:ObjOk P w (dv H a o) h' a o):HOk P w (dv H a o) h':=λb u e=>by
 have hn:=x.fresh hp
 by_cases hb:b=a
 ·subst hb;rw[bM] at e;cases e;exact new
 ·rw[aR hb] at e
  exact(x b u e).stay (λc v _ q=>k c v q) (λc q=>by rw[aR (cu q hn)];exact q) λc xs q=>by rw[aR (cu q hn)];exact q
end
def Rd(H:Hp)(a:Addr)(u:HO):Prop:=H a=some u\/ ∃o,H a=some (.frz o u)
theorem Rd.ok {P:Program}{w:World}{H:Hp}{h:Heap}{a:Addr}{u:HO}(r:Rd H a u)(x:HOk P w H h):ObjOk P w H h a u:=by
 rcases r with r|⟨o,r⟩
 ·exact x a u r
 ·obtain⟨_,q⟩:=x a _ r
  exact q
def Ao:Option HO->Prop
 |some (.lst _)=>True
 |some (.dK _)=>True
 |some (.dT _)=>True
 |some (.set _ _)=>True
 |some (.tst _)=>True
 |some (.ins _ _ _)=>True
 |some (.ext _)=>True
 |_=>False
section
variable {P:Program}{w:World}{H:Hp}{h h':Heap}{x e:Addr}{o':HO}
theorem HOk.write(ok:HOk P w H h)(mu:Ao (H x))(he:e=x\/H e=some (.own x))(k: ∀b u,b≠e->h.get? b=some u->h'.get? b=some u)(heo: ∃u,h'.get? e=some u)
 (new:ObjOk P w (dv H x o') h' x o'):HOk P w (dv H x o') h':=λb u q=>by
 have nown: ∀c y,H c=some (.own y)->c≠x:=λc y r z=>by subst z;rw[r] at mu;exact mu
 have ntup: ∀c xs,H c=some (.tup xs)->c≠x:=λc xs r z=>by subst z;rw[r] at mu;exact mu
 by_cases hb:b=x
 ·subst hb;rw[bM] at q;cases q;exact new
 ·rw[aR hb] at q
  by_cases hbe:b=e
  ·have q':H b=some (.own x):=by
    rcases he with z|z
    ·exact absurd (hbe.trans z) hb
    ·rw[hbe];exact z
   rw[q] at q';cases q';obtain⟨v,hv⟩:=heo
   exact⟨v,by rw[hbe];exact hv⟩
  ·refine(ok b u q).stay (λc v hc r=>k c v ?_ r) (λc r=>by rw[aR (nown c b r)];exact r) λc xs r=>by rw[aR (ntup c xs r)];exact r
   rcases hc with rfl|hc
   ·exact hbe
   ·rintro rfl
    rcases he with z|z
    ·exact nown c b hc z
    ·rw[hc] at z;cases z;exact hb rfl
end
structure Un(fs ex:List Addr)(H H':Hp)(h h':Heap):Prop where
 keep: ∀b o,h.get? b=some o->H b=none->b∉fs->b∉ex->h'.get? b=some o
 slot: ∀b o,h.get? b=some o->H b=none->b∈fs->b∉ex-> ∃sl,h'.get? b=some {o with slots:=sl}
 free: ∀b o,h.get? b=some o->H b=none->b∉ex->H' b=none
 there: ∀b o,h.get? b=some o->b∉ex-> ∃o',h'.get? b=some o'
 tups: ∀b xs,H b=some (.tup xs)->H' b=some (.tup xs)
 frzs: ∀b o u,H b=some (.frz o u)->H' b=some (.frz o u)
 tbls: ∀b ps,H b=some (.tbl ps)-> ∃more,H' b=some (.tbl (ps++more))
section
variable {fs fs' ex ex':List Addr}{H H1 H2:Hp}{h h1 h2 h':Heap}{a x e:Addr}{o:HO}
theorem Un.any(u:Un fs ex H H1 h h1){b:Addr}{ob:Obj}(q:h.get? b=some ob)(n:H b=none)(hx:b∉ex): ∃sl,h1.get? b=some {ob with slots:=sl}:=by
 by_cases hb:b∈fs
 ·exact u.slot b ob q n hb hx
 ·exact⟨ob.slots,u.keep b ob q n hb hx⟩
theorem Un.trans(a:Un fs ex H H1 h h1)(b:Un fs ex H1 H2 h1 h2):Un fs ex H H2 h h2 where
 keep:=λc ob q n hc hx=>b.keep c ob (a.keep c ob q n hc hx) (a.free c ob q n hx) hc hx
 slot:=λc ob q n hc hx=>by
  obtain⟨sl,e1⟩:=a.slot c ob q n hc hx
  obtain⟨sl',e2⟩:=b.slot c _ e1 (a.free c ob q n hx) hc hx
  exact⟨sl',e2⟩
 free:=λc ob q n hx=>by
  obtain⟨o',e1⟩:=a.there c ob q hx
  exact b.free c o' e1 (a.free c ob q n hx) hx
 there:=λc ob q hx=>by
  obtain⟨o',e1⟩:=a.there c ob q hx
  exact b.there c o' e1 hx
 tups:=λc xs q=>b.tups c xs (a.tups c xs q)
 frzs:=λc ob xs q=>b.frzs c ob xs (a.frzs c ob xs q)
 tbls:=λc ps q=>by
  obtain⟨m1,e1⟩:=a.tbls c ps q
  obtain⟨m2,e2⟩:=b.tbls c _ e1
  exact⟨m1++m2,by rw[e2,Array.append_assoc]⟩
theorem Un.kept(k: ∀b u,h.get? b=some u->h'.get? b=some u):Un fs ex H H h h':=
 ⟨λb ob q _ _ _=>k b ob q,λb ob q _ _ _=>⟨ob.slots,k b ob q⟩,λ_ _ _ n _=>n,λb ob q _=>⟨ob,k b ob q⟩,λ_ _ q=>q,λ_ _ _ q=>q,λ_ ps q=>⟨#[],by rw[q];simp⟩⟩
theorem Un.refl:Un fs ex H H h h:=Un.kept λ_ _ q=>q
theorem Un.laid(k: ∀b u,h.get? b=some u->h'.get? b=some u)(hp:h.objs.size<=a)(hn:H a=none):Un fs ex H (dv H a o) h h' where
 keep:=λb u q _ _ _=>k b u q
 slot:=λb u q _ _ _=>⟨u.slots,k b u q⟩
 free:=λb u q n _=>by rw[aR (Nat.ne_of_lt (Nat.lt_of_lt_of_le (Heap.lt_size q) hp))];exact n
 there:=λb u q _=>⟨u,k b u q⟩
 tups:=λb xs q=>by rw[aR (cu q hn)];exact q
 frzs:=λb u xs q=>by rw[aR (cu q hn)];exact q
 tbls:=λb ps q=>⟨#[],by rw[aR (cu q hn),q];simp⟩
theorem Un.write(mu:Ao (H x))(he:e=x\/H e=some (.own x))(k: ∀b u,b≠e->h.get? b=some u->h'.get? b=some u)(heo: ∃u,h'.get? e=some u):Un fs ex H (dv H x o) h h':=by
 have hx: ∀b,H b=none->b≠x:=λb n z=>by subst z;rw[n] at mu;exact mu
 have hb: ∀b,H b=none->b≠e:=λb n z=>by
  subst z;rcases he with r|r
  ·exact hx b n r
  ·rw[n] at r;cases r
 have hm: ∀b u,H b=some u-> ¬Ao (some u)->b≠x:=λb u q nm z=>by subst z;rw[q] at mu;exact nm mu
 refine⟨λb u q n _ _=>k b u (hb b n) q,λb u q n _ _=>⟨u.slots,k b u (hb b n) q⟩,λb u q n _=>by rw[aR (hx b n)];exact n,λb u q _=>?_,
  λb xs q=>by rw[aR (hm b _ q λz=>z)];exact q,λb u xs q=>by rw[aR (hm b _ q λz=>z)];exact q,λb ps q=>⟨#[],by rw[aR (hm b _ q λz=>z),q];simp⟩⟩
 by_cases hbe:b=e
 ·subst hbe;exact heo
 ·exact⟨u,k b u hbe q⟩
end
def trk(h:Heap)(H:Hp):List Addr:=(List.range h.objs.size).filter λa=>(H a).isSome
def oQ(h:Heap)(H:Hp):Heap:=W.hideAll h (trk h H)
theorem r9(h:Heap)(H:Hp):(oQ h H).objs.size=h.objs.size:=W.hideAll_size _ _
theorem vf {h:Heap}{H:Hp}{b:Addr}{o:Obj}(e:h.get? b=some o)(n:H b=none):(oQ h H).get? b=some o:=
 W.hideAll_get _ e λhm=>by
  have q:(H b).isSome=true:=(List.mem_filter.mp hm).2
  rw[n] at q;simp at q
theorem xf {h:Heap}{H:Hp}{b:Addr}{o:Obj}(e:(oQ h H).get? b=some o):h.get? b=some o/\H b=none:=by
 have e':h.get? b=some o:=W.of_hideAll (trk h H) e
 refine⟨e',?_⟩
 cases q:H b with
 |none=>rfl
 |some x=>
  have hm:b∈trk h H:=List.mem_filter.mpr ⟨List.mem_range.mpr (Heap.lt_size e'),by simp[q]⟩
  have z:(oQ h H).get? b=none:=W.hideAll_none (trk h H) hm
  rw[z] at e;cases e
structure Mod(K:W.Frag)(mg:Str->Option Value)(base:Heap):Prop where
 kin:K.In base
 glob:base.Ns mainGlobals mg
 blt: ∃mb,base.Ns builtinsNs mb/\ ∀x:Str,x≠"__name__"->mb x=bootBuiltins x
 nolimit:base.NoLimit
structure Cx where
 prog:Program
 w:World
 K:W.Frag
 mg:Str->Option Value
 base:Heap
 A:Around
 N:List Str
 s₀:Shared
 H₀:Hp
 env:Env
 outer:List Env
 stack:List Env
 ex:List Addr
 fn:Str->Bool
 calm:Bool
 pn:List (Addr×Obj)
 xe:Value->Shared->Prop
def iX(l:List Env):List Addr:=l.filterMap (·.frame)
abbrev Cx.fs(X:Cx):List Addr:=iX X.outer
def tX(sc:Scope)(x:Str):Prop:=sc.names.lookup x=some .local\/sc.names.lookup x=some .cell\/sc.names.lookup x=some .free
def vo(sc:Scope)(x:Str):Prop:=sc.names.lookup x=some .local\/sc.names.lookup x=some .cell
def As(env:Env)(h:Heap)(m:Str->Option Value)(x:Str)(u:Value):Prop:=
 (env.kindOf x=some .local/\m x=some u)\/((env.kindOf x=some .cell\/env.kindOf x=some .free)/\ ∃c,env.cells.lookup x=some c/\h.IsCell c (some u))
structure Cx.Ok(X:Cx):Prop where
 mod:Mod X.K X.mg X.base
 kind:X.env.scope.kind=.function
 glob:X.env.globals=mainGlobals
 blt:X.env.builtins=builtinsNs
 above:X.s₀.heap.objs.size<=X.env.locals
 inj: ∀x y c,X.env.cells.lookup x=some c->X.env.cells.lookup y=some c->x=y
 has: ∀x,(X.env.kindOf x=some .cell\/X.env.kindOf x=some .free)-> ∃c,X.env.cells.lookup x=some c
 cab: ∀x c,X.fn x=true->X.env.cells.lookup x=some c->X.s₀.heap.objs.size<=c
 hd:X.calm=true->X.A.handled=none
 frames:X.A.frames=some X.stack
 stk:X.stack=X.outer\/(X.stack=X.env::X.outer/\X.env.frame=some X.env.locals)
 exf: ∀b∈X.ex,b≠X.env.locals/\ ∀x c,X.env.cells.lookup x=some c->c≠b
 bs: ∀b o,X.base.get? b=some o->X.s₀.heap.get? b=some o/\X.H₀ b=none
 bsz:X.base.objs.size<=X.s₀.heap.objs.size
 noex: ∀b o,X.base.get? b=some o->b∉X.ex
 exfs: ∀b∈X.ex,b∉X.fs
 funs:X.s₀.heap.FunFrames X.base X.outer
 frf: ∀b∈X.fs,X.H₀ b=none
structure Inv(X:Cx)(ae:List (Addr×Obj))(σ:List (Option V))(H:Hp)(s:Shared):Prop where
 ok:X.Ok
 os:s.os=X.s₀.os
 bare:AllBare s.gens
 base:Un X.fs X.ex X.H₀ H X.s₀.heap s.heap
 loc: ∃m,s.heap.Ns X.env.locals m/\ ∀(i:Nat) (x:Str) (v:V),X.N[i]? =some x->σ[i]? =some (some v)->tX X.env.scope x-> ∃u,RelV v u/\As X.env s.heap m x u
 cell: ∀x c,X.env.cells.lookup x=some c-> ∃v,s.heap.IsCell c v
 free:H X.env.locals=none
 freeC: ∀x c,X.env.cells.lookup x=some c->H c=none
 pin: ∀p∈X.pn++ae,s.heap.get? p.1=some p.2/\H p.1=none/\p.1≠X.env.locals/\p.1∉X.fs/\ ∀v,p.2.data≠ .cell v
 hok:HOk X.prog X.w H s.heap
 len:σ.length=X.N.length
section
variable {X:Cx}{ae:List (Addr×Obj)}{σ:List (Option V)}{H H':Hp}{s:Shared}{h':Heap}
theorem Cx.Ok.nofr(ok:X.Ok){b:Addr}{o:Obj}(e:X.base.get? b=some o):b∉X.fs:=λhb=>by
 have:=(ok.funs.mem hb).1
 rw[e] at this;cases this
theorem Inv.bs(I:Inv X ae σ H s): ∀b o,X.base.get? b=some o->s.heap.get? b=some o/\H b=none:=λb o e=>
 ⟨I.base.keep b o (I.ok.bs b o e).1 (I.ok.bs b o e).2 (I.ok.nofr e) (I.ok.noex b o e),I.base.free b o (I.ok.bs b o e).1 (I.ok.bs b o e).2 (I.ok.noex b o e)⟩
theorem Inv.bk(I:Inv X ae σ H s): ∀b o,X.base.get? b=some o->s.heap.get? b=some o:=λb o e=>(I.bs b o e).1
theorem Inv.mod(I:Inv X ae σ H s):Mod X.K X.mg X.base:=I.ok.mod
theorem Inv.kIn(I:Inv X ae σ H s):X.K.In s.heap:=I.ok.mod.kin.keeps I.bk
theorem Inv.lt(I:Inv X ae σ H s):X.env.locals<s.heap.objs.size:=let⟨_,hn,_⟩:=I.loc;hn.lt
theorem Inv.sz(I:Inv X ae σ H s):X.s₀.heap.objs.size<=s.heap.objs.size:=Nat.le_trans I.ok.above (Nat.le_of_lt I.lt)
theorem Inv.nofs(I:Inv X ae σ H s){a:Addr}(h:s.heap.objs.size<=a):a∉X.fs:=λhb=>by
 obtain⟨_,o,ho,_⟩:=I.ok.funs.mem hb
 exact absurd (Nat.lt_of_lt_of_le (Heap.lt_size ho) (Nat.le_trans I.sz h)) (Nat.lt_irrefl _)
theorem Inv.cne(I:Inv X ae σ H s): ∀x c,X.env.cells.lookup x=some c->c≠X.env.locals:=λx c e z=>by
 obtain⟨v,o,ho,hd⟩:=I.cell x c e
 obtain⟨m,⟨o',es,ep,ho',hd',_⟩,_⟩:=I.loc
 rw[z,ho'] at ho;cases ho;rw[hd'] at hd;cases hd
theorem Inv.funs(I:Inv X ae σ H s):s.heap.FunFrames X.base X.outer:=by
 have all: ∀(l:List Env),(∀b∈iX l,b∈X.fs)->X.s₀.heap.FunFrames X.base l->s.heap.FunFrames X.base l:=by
  intro l
  induction l with
  |nil=>intro _ _;trivial
  |cons env r ih=>
   intro hs hl;obtain⟨hk,⟨L,o,hf,hn,ho,hd⟩,hr⟩:=hl
   have hL:L∈X.fs:=hs L (by unfold iX;rw[List.filterMap_cons,hf];exact List.mem_cons_self)
   obtain⟨sl,e⟩:=I.base.slot L o ho (I.ok.frf L hL) hL λz=>I.ok.exfs L z hL
   exact⟨hk,⟨L,_,hf,hn,e,hd⟩,ih (λb hb=>hs b (by unfold iX;rw[List.filterMap_cons,hf];exact List.mem_cons_of_mem _ hb)) hr⟩
 exact all X.outer (λ_ hb=>hb) I.ok.funs
theorem Inv.stack(I:Inv X ae σ H s):s.heap.FunFrames X.base X.stack:=by
 rcases I.ok.stk with e|⟨e,hf⟩
 ·rw[e];exact I.funs
 ·rw[e]
  obtain⟨m,hn,_⟩:=I.loc
  refine .cons (by rw[I.ok.kind];decide) hf hn ?_ I.funs
  exact Heap.get?_none_of_le (Nat.le_trans I.ok.bsz I.ok.above)
theorem Inv.stkSub(I:Inv X ae σ H s): ∀b∈iX X.stack,b∈X.env.locals::X.fs:=λb hb=>by
 rcases I.ok.stk with e|⟨e,hf⟩
 ·rw[e] at hb;exact List.mem_cons_of_mem _ hb
 ·rw[e] at hb
  unfold iX at hb;rw[List.filterMap_cons,hf] at hb;exact hb
theorem Inv.stkFree(I:Inv X ae σ H s): ∀b∈iX X.stack,H b=none:=λb hb=>by
 rcases List.mem_cons.mp (I.stkSub b hb) with e|hb
 ·rw[e];exact I.free
 ·obtain⟨_,o,ho,_⟩:=I.ok.funs.mem hb
  exact I.base.free b o ho (I.ok.frf b hb) λz=>I.ok.exfs b z hb
theorem Inv.step {g':Array GenState}{t':Nat}{d':Drawn}{ch:List Addr}(I:Inv X ae σ H s)
 (hch: ∀b∈ch,(b∈X.ex\/X.s₀.heap.objs.size<=b)/\b≠X.env.locals/\(∀x c,X.env.cells.lookup x=some c->c≠b)/\ ∀p∈X.pn++ae,p.1≠b)
 (keep: ∀b o,b≠X.env.locals->b∉X.fs->b∉ch->s.heap.get? b=some o->H b=none->h'.get? b=some o)
 (slot: ∀b o,b≠X.env.locals->b∈X.fs->b∉ch->s.heap.get? b=some o->H b=none-> ∃sl,h'.get? b=some {o with slots:=sl}) (free: ∀b o,b∉ch->s.heap.get? b=some o->H b=none->H' b=none)
 (there: ∀b o,b∉ch->s.heap.get? b=some o-> ∃o',h'.get? b=some o')
 (tups: ∀b xs,H b=some (.tup xs)->H' b=some (.tup xs)) (frzs: ∀b o u,H b=some (.frz o u)->H' b=some (.frz o u)) (tbls: ∀b ps,H b=some (.tbl ps)-> ∃more,H' b=some (.tbl (ps++more)))
 (ns: ∀m,s.heap.Ns X.env.locals m->h'.Ns X.env.locals m) (hok:HOk X.prog X.w H' h') (hg:AllBare g'):
 Inv X ae σ H' {s with heap:=h',gens:=g',drawn:=d',toks:=t'}:=by
 have neL: ∀b o,X.s₀.heap.get? b=some o->b≠X.env.locals:=λb o e=>Nat.ne_of_lt (Nat.lt_of_lt_of_le (Heap.lt_size e) I.ok.above)
 have neC: ∀b o,X.s₀.heap.get? b=some o->b∉X.ex->b∉ch:=λb o e hx hb=>by
  rcases(hch b hb).1 with z|z
  ·exact hx z
  ·exact absurd (Nat.lt_of_lt_of_le (Heap.lt_size e) z) (Nat.lt_irrefl _)
 have cellK: ∀x c,X.env.cells.lookup x=some c-> ∀v,s.heap.IsCell c v->h'.IsCell c v:=λx c e v hq_=>by
  obtain⟨o,ho,hd⟩:=hq_
  have nch:c∉ch:=λz=>(hch c z).2.2.1 x c e rfl
  by_cases hc:c∈X.fs
  ·obtain⟨sl,q⟩:=slot c o (I.cne x c e) hc nch ho (I.freeC x c e)
   exact⟨_,q,hd⟩
  ·exact⟨o,keep c o (I.cne x c e) hc nch ho (I.freeC x c e),hd⟩
 refine⟨I.ok,I.os,hg,⟨λb o e n hb hx=>?_,λb o e n hb hx=>?_,λb o e n hx=>?_,λb o e hx=>?_,λb xs e=>tups b xs (I.base.tups b xs e),λb o xs e=>frzs b o xs (I.base.frzs b o xs e),λb ps e=>?_⟩,?_,λx c e=>?_,?_,λx c e=>?_,λp hp=>?_,hok,I.len⟩
 ·exact keep b o (neL b o e) hb (neC b o e hx) (I.base.keep b o e n hb hx) (I.base.free b o e n hx)
 ·obtain⟨sl,e1⟩:=I.base.slot b o e n hb hx
  obtain⟨sl',e2⟩:=slot b _ (neL b o e) hb (neC b o e hx) e1 (I.base.free b o e n hx)
  exact⟨sl',e2⟩
 ·obtain⟨o',e1⟩:=I.base.there b o e hx
  exact free b o' (neC b o e hx) e1 (I.base.free b o e n hx)
 ·obtain⟨o',e1⟩:=I.base.there b o e hx
  exact there b o' (neC b o e hx) e1
 ·obtain⟨m1,e1⟩:=I.base.tbls b ps e
  obtain⟨m2,e2⟩:=tbls b _ e1
  exact⟨m1++m2,by rw[e2,Array.append_assoc]⟩
 ·obtain⟨m,hn,hl⟩:=I.loc
  refine⟨m,ns m hn,λi x v e1 e2 e3=>?_⟩
  obtain⟨u,r,l⟩:=hl i x v e1 e2 e3
  refine⟨u,r,?_⟩
  rcases l with l|⟨k,c,e,z⟩
  ·exact .inl l
  ·exact .inr ⟨k,c,e,cellK x c e _ z⟩
 ·obtain⟨v,z⟩:=I.cell x c e
  exact⟨v,cellK x c e v z⟩
 ·obtain⟨m,⟨o,_,_,ho,_⟩,_⟩:=I.loc
  exact free _ o (λz=>(hch _ z).2.1 rfl) ho I.free
 ·obtain⟨v,o,ho,hd⟩:=I.cell x c e
  exact free c o (λz=>(hch c z).2.2.1 x c e rfl) ho (I.freeC x c e)
 ·obtain⟨e,n,ne,nf,d⟩:=I.pin p hp
  have nch:p.1∉ch:=λz=>(hch p.1 z).2.2.2 p hp rfl
  exact⟨keep p.1 p.2 ne nf nch e n,free p.1 p.2 nch e n,ne,nf,d⟩
theorem Inv.un {t':Nat}(I:Inv X ae σ H s)(u:Un X.fs [] H H' s.heap h')(hok:HOk X.prog X.w H' h'):Inv X ae σ H' {s with heap:=h',toks:=t'}:=by
 obtain⟨m,⟨o,es,ep,ho,r⟩,_⟩:=id I.loc
 obtain⟨sl,hL⟩:=u.any ho I.free (by simp)
 exact I.step (g':=s.gens) (d':=s.drawn) (ch:=[]) (λ_ z=>nomatch z) (λb o _ hb _ e n=>u.keep b o e n hb (by simp)) (λb o _ hb _ e n=>u.slot b o e n hb (by simp)) (λb o _ e n=>u.free b o e n (by simp)) (λb o _ e=>u.there b o e (by simp)) u.tups u.frzs u.tbls (λm' hm=>by
  obtain⟨o',es',ep',ho',r'⟩:=hm
  rw[ho] at ho';cases ho';exact⟨_,es',ep',hL,r'⟩) hok I.bare
theorem Inv.call {g':Array GenState}{t':Nat}{d':Drawn}{ch:List Addr}(I:Inv X ae σ H s)(u:Un (iX X.stack) ch H H' s.heap h')(hok:HOk X.prog X.w H' h')(hg:AllBare g')
 (hch: ∀b∈ch,(b∈X.ex\/X.s₀.heap.objs.size<=b)/\b≠X.env.locals/\(∀x c,X.env.cells.lookup x=some c->c≠b)/\ ∀p∈X.pn++ae,p.1≠b):
 Inv X ae σ H' {s with heap:=h',gens:=g',drawn:=d',toks:=t'}:=by
 obtain⟨m,⟨o,es,ep,ho,r⟩,_⟩:=id I.loc
 obtain⟨sl,hL⟩:=u.any ho I.free λz=>(hch _ z).2.1 rfl
 exact I.step (ch:=ch) hch (λb o hL hb hc e n=>u.keep b o e n (λz=>(List.mem_cons.mp (I.stkSub b z)).elim hL hb) hc) (λb o _ _ hc e n=>u.any e n hc) (λb o hc e n=>u.free b o e n hc) (λb o hc e=>u.there b o e hc) u.tups u.frzs u.tbls (λm' hm=>by
  obtain⟨o',es',ep',ho',r'⟩:=hm
  rw[ho] at ho';cases ho';exact⟨_,es',ep',hL,r'⟩) hok hg
theorem Inv.turned {t':Nat}{it:Addr}(I:Inv X ae σ H s)(k: ∀b o,b≠it->s.heap.get? b=some o->h'.get? b=some o)(hn:H it=none)(hL:it≠X.env.locals)
 (h1:it∈X.ex\/X.s₀.heap.objs.size<=it) (h2: ∀x c,X.env.cells.lookup x=some c->c≠it) (h3: ∀p∈X.pn++ae,p.1≠it):Inv X ae σ H {s with heap:=h',toks:=t'}:=by
 have nit: ∀b u,H b=some u->b≠it:=λb u e z=>by rw[z,hn] at e;cases e
 refine I.step (g':=s.gens) (d':=s.drawn) (ch:=[it]) (λb hb=>?_) (λb o _ _ hc e _=>k b o (λz=>hc (by simp[z])) e) (λb o _ _ hc e _=>⟨o.slots,k b o (λz=>hc (by simp[z])) e⟩) (λ_ _ _ _ n=>n)
  (λb o hc e=>⟨o,k b o (λz=>hc (by simp[z])) e⟩) (λ_ _ e=>e) (λ_ _ _ e=>e) (λb ps e=>⟨#[],by rw[e];simp⟩) (λm hm=>?_) (λb u e=>?_) I.bare
 ·have e:b=it:=by simpa using hb
  subst e;exact⟨h1,hL,h2,h3⟩
 ·obtain⟨o,es,ep,ho,r⟩:=hm
  exact⟨o,es,ep,k _ o (Ne.symm hL) ho,r⟩
 ·refine(I.hok b u e).stay (λc v hc q=>k c v ?_ q) (λ_ q=>q) λ_ _ q=>q
  rcases hc with z|z
  ·rw[z];exact nit b u e
  ·exact nit c _ z
theorem Inv.tok(I:Inv X ae σ H s)(t:Nat):Inv X ae σ H {s with toks:=t}:=I.un (h':=s.heap) (t':=t) Un.refl I.hok
theorem Inv.kept {t':Nat}(I:Inv X ae σ H s)(k: ∀b u,s.heap.get? b=some u->h'.get? b=some u):Inv X ae σ H {s with heap:=h',toks:=t'}:=I.un (Un.kept k) (I.hok.kept k)
theorem Inv.laid {a:Addr}{o:HO}{t':Nat}(I:Inv X ae σ H s)(k: ∀b u,s.heap.get? b=some u->h'.get? b=some u)(hp:s.heap.objs.size<=a)(new:ObjOk X.prog X.w (dv H a o) h' a o):
 Inv X ae σ (dv H a o) {s with heap:=h',toks:=t'}:=I.un (Un.laid k hp (I.hok.fresh hp)) (I.hok.laid k hp new)
theorem Inv.write {x e:Addr}{o:HO}{t':Nat}(I:Inv X ae σ H s)(mu:Ao (H x))(he:e=x\/H e=some (.own x))(k: ∀b u,b≠e->s.heap.get? b=some u->h'.get? b=some u)(heo: ∃u,h'.get? e=some u)
 (new:ObjOk X.prog X.w (dv H x o) h' x o):Inv X ae σ (dv H x o) {s with heap:=h',toks:=t'}:=I.un (Un.write mu he k heo) (I.hok.write mu he k heo new)
theorem Inv.pins_of {pins':List (Addr×Obj)}(I:Inv X ae σ H s)(h: ∀p∈pins',s.heap.get? p.1=some p.2/\H p.1=none/\p.1≠X.env.locals/\p.1∉X.fs/\ ∀v,p.2.data≠ .cell v):Inv X pins' σ H s:=
 ⟨I.ok,I.os,I.bare,I.base,I.loc,I.cell,I.free,I.freeC,λp hp=>(List.mem_append.mp hp).elim (λz=>I.pin p (List.mem_append_left _ z)) (h p),I.hok,I.len⟩
theorem po {N:List Str}(hN:N.Nodup){i j:Nat}{x:Str}(a:N[i]? =some x)(b:N[j]? =some x):i=j:=by
 obtain⟨h1,e1⟩:=List.getElem?_eq_some_iff.mp a
 obtain⟨h2,e2⟩:=List.getElem?_eq_some_iff.mp b
 exact(List.getElem_inj hN).mp (e1.trans e2.symm)
theorem nu {M:Model}{A:Around}{E:Value->Shared->Prop}{i:Nat}{x:Str}{v:V}{u:Value}{Q:Unit->Shared->Prop}(I:Inv X ae σ H s)(hN:X.N.Nodup)(hi:X.N[i]? =some x)(hx:vo X.env.scope x)(r:RelV v u)
 (h: ∀s',Inv X ae (σ.set i (some v)) H s'->(∃a,Heap.SameBut a s.heap s'.heap/\(a=X.env.locals\/X.env.cells.lookup x=some a))->Q () s') (hf:X.fn x=true\/X.env.scope.names.lookup x=some .local:=by first|exact .inl rfl|exact .inr rfl|assumption):wpAny M A (storeName X.env x u) Q E s:=by
 obtain⟨m,hn,hl⟩:=id I.loc
 have hcls:(X.env.scope.kind== .class||(X.env.scope.kind== .module&&X.env.locals !=X.env.globals))=false:=by rw[I.ok.kind];rfl
 have hiσ:i<σ.length:=by rw[I.len];exact(List.getElem?_eq_some_iff.mp hi).1
 have cne:=I.cne
 have tracked: ∀ {a:Addr} {h':Heap},(∃o,s.heap.get? a=some o/\H a=none)->Heap.SameBut a s.heap h'->HOk X.prog X.w H h':=λ{a h'} ha hs b ob e=>by
  obtain⟨_,_,hfree⟩:=ha
  refine(I.hok b ob e).stay (λc w' hc q=>(hs.2 c ?_).trans q) (λ_ q=>q) λ_ _ q=>q
  rintro rfl
  rcases hc with rfl|hc
  ·rw[hfree] at e;cases e
  ·rw[hfree] at hc;cases hc
 rcases hx with hk|hk
 ·refine wpAny_storeName_local hk hn (λh' hn' hs=>?_) hcls
  obtain⟨oL,_,_,hoL,_⟩:=id hn
  refine h _ ⟨I.ok,I.os,I.bare,⟨λb o e n hb hx=>?_,λb o e n hb hx=>?_,I.base.free,λb o e hx=>?_,I.base.tups,I.base.frzs,I.base.tbls⟩,⟨_,hn',λj y v' e1 e2 e3=>?_⟩,λy c e=>?_,I.free,I.freeC,λp hp=>?_,tracked ⟨oL,hoL,I.free⟩ hs,by simpa using I.len⟩ ⟨_,hs,.inl rfl⟩
  ·exact(hs.2 b (Nat.ne_of_lt (Nat.lt_of_lt_of_le (Heap.lt_size e) I.ok.above))).trans (I.base.keep b o e n hb hx)
  ·obtain⟨sl,e1⟩:=I.base.slot b o e n hb hx
   exact⟨sl,(hs.2 b (Nat.ne_of_lt (Nat.lt_of_lt_of_le (Heap.lt_size e) I.ok.above))).trans e1⟩
  ·obtain⟨o',e1⟩:=I.base.there b o e hx
   exact⟨o',(hs.2 b (Nat.ne_of_lt (Nat.lt_of_lt_of_le (Heap.lt_size e) I.ok.above))).trans e1⟩
  ·by_cases hj:j=i
   ·subst hj
    rw[hi] at e1;cases e1;rw[List.getElem?_set_self hiσ] at e2;cases e2
    exact⟨u,r,.inl ⟨hk,by simp⟩⟩
   ·rw[List.getElem?_set_ne (Ne.symm hj)] at e2
    obtain⟨u',r',q⟩:=hl j y v' e1 e2 e3
    refine⟨u',r',?_⟩
    rcases q with⟨k,e⟩|⟨k,c,e,z⟩
    ·refine .inl ⟨k,?_⟩
     have:y≠x:=λe=>hj (po hN e1 (e▸hi))
     simp[this,e]
    ·exact .inr ⟨k,c,e,z.sameBut hs (cne y c e)⟩
  ·obtain⟨w',z⟩:=I.cell y c e
   exact⟨w',z.sameBut hs (cne y c e)⟩
  ·obtain⟨e,n,ne,nf,d⟩:=I.pin p hp
   exact⟨(hs.2 p.1 ne).trans e,n,ne,nf,d⟩
 ·have hfn:X.fn x=true:=by
   rcases hf with z|z
   ·exact z
   ·rw[z] at hk;cases hk
  obtain⟨c,hc⟩:=I.ok.has x (.inl hk)
  obtain⟨w',z⟩:=I.cell x c hc
  refine wpAny_storeName_cell I.ok.kind hk hc z (λh' hc' hs=>?_)
  obtain⟨oc,hoc,hocd⟩:=id z
  refine h {s with heap:=h'} ⟨I.ok,I.os,I.bare,⟨λb o e n hb hx=>?_,λb o e n hb hx=>?_,I.base.free,λb o e hx=>?_,I.base.tups,I.base.frzs,I.base.tbls⟩,⟨m,hn.sameBut hs (Ne.symm (cne x c hc)),λj y v' e1 e2 e3=>?_⟩,λy c' e=>?_,I.free,I.freeC,λp hp=>?_,tracked ⟨oc,hoc,I.freeC x c hc⟩ hs,by simpa using I.len⟩ ⟨c,hs,.inr hc⟩
  ·exact(hs.2 b (Nat.ne_of_lt (Nat.lt_of_lt_of_le (Heap.lt_size e) (I.ok.cab x c hfn hc)))).trans (I.base.keep b o e n hb hx)
  ·obtain⟨sl,e1⟩:=I.base.slot b o e n hb hx
   exact⟨sl,(hs.2 b (Nat.ne_of_lt (Nat.lt_of_lt_of_le (Heap.lt_size e) (I.ok.cab x c hfn hc)))).trans e1⟩
  ·obtain⟨o',e1⟩:=I.base.there b o e hx
   exact⟨o',(hs.2 b (Nat.ne_of_lt (Nat.lt_of_lt_of_le (Heap.lt_size e) (I.ok.cab x c hfn hc)))).trans e1⟩
  ·by_cases hj:j=i
   ·subst hj
    rw[hi] at e1;cases e1;rw[List.getElem?_set_self hiσ] at e2;cases e2
    exact⟨u,r,.inr ⟨.inl hk,c,hc,hc'⟩⟩
   ·rw[List.getElem?_set_ne (Ne.symm hj)] at e2
    obtain⟨u',r',q⟩:=hl j y v' e1 e2 e3
    refine⟨u',r',?_⟩
    rcases q with q|⟨k,c',e,z'⟩
    ·exact .inl q
    ·refine .inr ⟨k,c',e,z'.sameBut hs ?_⟩
     rintro rfl
     exact hj (po hN e1 (I.ok.inj _ _ _ e hc▸hi))
  ·by_cases hcc:c'=c
   ·subst hcc;exact⟨_,hc'⟩
   ·obtain⟨w2,z2⟩:=I.cell y c' e
    exact⟨w2,z2.sameBut hs hcc⟩
  ·obtain⟨e,n,ne,nf,d⟩:=I.pin p hp
   refine⟨(hs.2 p.1 ?_).trans e,n,ne,nf,d⟩
   intro q;rw[q,hoc] at e;have q':oc=p.2:=Option.some.inj e
   exact d w' (by rw[<-q'];exact hocd)
theorem i6 {M:Model}{A:Around}{E:Value->Shared->Prop}{i:Nat}{x:Str}{v:V}{u:Value}{Q:Unit->Shared->Prop}(I:Inv X ae σ H s)(hN:X.N.Nodup)(hi:X.N[i]? =some x)(hx:vo X.env.scope x)(r:RelV v u)
 (h: ∀s',Inv X ae (σ.set i (some v)) H s'->Q () s') (hf:X.fn x=true\/X.env.scope.names.lookup x=some .local:=by first|exact .inl rfl|exact .inr rfl|assumption):wpAny M A (storeName X.env x u) Q E s:=
 nu I hN hi hx r (λs' I' _=>h s' I') hf
theorem Inv.call' {s':Shared}{ch:List Addr}(I:Inv X ae σ H s)(ho:s'.os=s.os)(u:Un (iX X.stack) ch H H' s.heap s'.heap)(hok:HOk X.prog X.w H' s'.heap)(hg:AllBare s'.gens)
 (hch: ∀b∈ch,(b∈X.ex\/X.s₀.heap.objs.size<=b)/\b≠X.env.locals/\(∀x c,X.env.cells.lookup x=some c->c≠b)/\ ∀p∈X.pn++ae,p.1≠b):Inv X ae σ H' s':=by
 obtain⟨h',g',d',t',o'⟩:=s'
 have e:o'=s.os:=ho
 subst e;exact I.call (g':=g') (t':=t') (d':=d') u hok hg hch
end
abbrev XK:=Value->Option Addr->Hp->Prop
abbrev St:=List (Option V)
abbrev VK:=V->Hp->Prop
abbrev TE:=St->Hp->VK->Prop
abbrev TT:=St->Hp->(Bool->Hp->Prop)->Prop
abbrev TA:=St->Hp->(List V->Hp->Prop)->Prop
structure Ends where
 nx:St->Hp->Prop
 rt:VK
 bk:St->Hp->Prop:=λ_ _=>False
 ct:St->Hp->Prop:=λ_ _=>False
abbrev TS:=Ends->St->Hp->Prop
def EP(X:Cx)(ae:List (Addr×Obj))(σ:St)(Q:VK)(u:Value)(s':Shared):Prop:= ∃v H',Inv X ae σ H' s'/\RelV v u/\Q v H'
def TP(X:Cx)(ae:List (Addr×Obj))(σ:St)(Q:Bool->Hp->Prop)(b:Bool)(s':Shared):Prop:= ∃H',Inv X ae σ H' s'/\Q b H'
def AP(X:Cx)(ae:List (Addr×Obj))(σ:St)(Q:List V->Hp->Prop)(us:List Value)(s':Shared):Prop:= ∃vs H',Inv X ae σ H' s'/\Vals vs us/\Q vs H'
def SP(X:Cx)(ae:List (Addr×Obj))(D:Ends)(f:Flow)(s':Shared):Prop:=
 match f with
 | .next=> ∃σ' H',Inv X ae σ' H' s'/\D.nx σ' H'
 | .brk=> ∃σ' H',Inv X ae σ' H' s'/\D.bk σ' H'
 | .cont=> ∃σ' H',Inv X ae σ' H' s'/\D.ct σ' H'
 | .ret u=> ∃v σ' H',Inv X ae σ' H' s'/\RelV v u/\D.rt v H'
def PE(X:Cx)(e:Expr)(t:TE):Prop:=
 ∀(ae:List (Addr×Obj)) (s:Shared) (σ:St) (H:Hp) (Q:VK),Inv X ae σ H s->t σ H Q->wpAny (model X.prog X.w) X.A (eval e X.env) (EP X ae σ Q) X.xe s
def PT(X:Cx)(e:Expr)(t:TT):Prop:=
 ∀(ae:List (Addr×Obj)) (s:Shared) (σ:St) (H:Hp) (Q:Bool->Hp->Prop),Inv X ae σ H s->t σ H Q->wpAny (model X.prog X.w) X.A (isTrue e X.env (eval e X.env)) (TP X ae σ Q) X.xe s
def PW(X:Cx)(e:Expr)(t:TT):Prop:=
 ∀(whole:Sem Value) (ae:List (Addr×Obj)) (s:Shared) (σ:St) (H:Hp) (Q:Bool->Hp->Prop),Inv X ae σ H s->t σ H Q->wpAny (model X.prog X.w) X.A (isTrue e X.env whole) (TP X ae σ Q) X.xe s
theorem PW.pt {X:Cx}{e:Expr}{t:TT}(h:PW X e t):PT X e t:=h _
def PA(X:Cx)(es:List Expr)(t:TA):Prop:=
 ∀(pos:Pos) (ae:List (Addr×Obj)) (s:Shared) (σ:St) (H:Hp) (Q:List V->Hp->Prop),Inv X ae σ H s->t σ H Q->wpAny (model X.prog X.w) X.A (spliced (backTo pos (starEach es X.env))) (AP X ae σ Q) X.xe s
def PS(X:Cx)(st:Stmt)(t:TS):Prop:=
 ∀(ae:List (Addr×Obj)) (s:Shared) (σ:St) (H:Hp) (D:Ends),Inv X ae σ H s->t D σ H->wpAny (model X.prog X.w) X.A (exec st X.env) (SP X ae D) X.xe s
def PSs(X:Cx)(st:List Stmt)(t:TS):Prop:=
 ∀(ae:List (Addr×Obj)) (s:Shared) (σ:St) (H:Hp) (D:Ends),Inv X ae σ H s->t D σ H->wpAny (model X.prog X.w) X.A (execs st X.env) (SP X ae D) X.xe s
theorem cP {α:Type}{t:Sem α}{Q Q':α->Shared->Prop}{M:Model}{A:Around}{E:Value->Shared->Prop}{s:Shared}(h:wpAny M A t Q E s)(hQ: ∀a s,Q a s->Q' a s):wpAny M A t Q' E s:=wpAny_mono h hQ λ_ _ x=>x
section
variable {X:Cx}
def z0(i:Nat):TE:=λσ H Q=> ∃v,σ[i]? =some (some v)/\Q v H
def tC(v:V):TE:=λ_ H Q=>Q v H
theorem yU {i:Nat}{x:Str}{pos:Pos}(hN:X.N[i]? =some x)(hv:tX X.env.scope x)(hd:(x==("__debug__":Str))=false:=by decide)(hcd:(x==("__classdict__":Str))=false:=by decide):PE X (.Name x pos) (z0 i):=by
 intro ae s σ H Q I h;obtain⟨v,e,h⟩:=h
 obtain⟨m,hn,hl⟩:=I.loc
 obtain⟨u,r,l⟩:=hl i x v hN e hv
 have fin:EP X ae σ Q u s:=⟨v,H,I,r,h⟩
 rcases l with⟨hk,hm⟩|⟨hk,c,hc,hcell⟩
 ·exact wpAny_Name (wpAny_loadName_local I.ok.kind hk hn hm fin) hd
 ·rcases hk with hk|hk
  ·exact wpAny_Name (wpAny_loadName_cell I.ok.kind hk hc hcell fin) hd
  ·exact wpAny_Name (wpAny_loadName_free I.ok.kind hk hc hcell fin hcd) hd
theorem yO {i j pos}:PE X (.Constant (.int i) j pos) (tC (.int i)):=λ_ _ _ H _ I h=>wpAny_Constant_int ⟨.int i,H,I.tok _,⟨_,rfl⟩,h⟩
theorem zB {b j pos}:PE X (.Constant (.bool b) j pos) (tC (.bl b)):=λ_ _ _ H _ I h=>Constant_bool ⟨.bl b,H,I,rfl,h⟩
theorem x5 {j pos}:PE X (.Constant .none j pos) (tC .non):=λ_ _ _ H _ I h=>Constant_none ⟨.non,H,I,rfl,h⟩
theorem xK {x j pos}:PE X (.Constant (.str x) j pos) (tC (.str x)):=λ_ _ _ H _ I h=>Calls.Constant_str ⟨.str x,H,I.tok _,⟨_,rfl⟩,h⟩
def Gl(X:Cx)(x:Str):Prop:=X.env.kindOf x=some .globalImplicit
theorem jq {E:Value->Shared->Prop}{ae:List (Addr×Obj)}{s:Shared}{σ:St}{H:Hp}{x:Str}{u:Value}{pos:Pos}{Q:Value->Shared->Prop}(I:Inv X ae σ H s)(hg:Gl X x)(hm:X.mg x=some u)(h:Q u s)
 (hd:(x==("__debug__":Str))=false:=by decide):wpAny (model X.prog X.w) X.A (eval (.Name x pos) X.env) Q E s:=
 Calls.Name_function_global I.ok.kind hg (Calls.loadGlobal_global (by rw[I.ok.glob];exact I.mod.glob.keeps I.bk) hm h) hd
theorem lZ {E:Value->Shared->Prop}{ae:List (Addr×Obj)}{s:Shared}{σ:St}{H:Hp}{x:Str}{u:Value}{pos:Pos}{Q:Value->Shared->Prop}(I:Inv X ae σ H s)(hg:Gl X x)(hm:X.mg x=none)(hv:bootBuiltins x=some u)(h:Q u s)
 (hn:x≠"__name__":=by decide) (hd:(x==("__debug__":Str))=false:=by decide):wpAny (model X.prog X.w) X.A (eval (.Name x pos) X.env) Q E s:=by
 obtain⟨mb,h1,h2⟩:=I.mod.blt
 exact Calls.Name_function_global I.ok.kind hg (Calls.loadGlobal_builtin (by rw[I.ok.glob];exact I.mod.glob.keeps I.bk) hm (by rw[I.ok.blt];exact h1.keeps I.bk) ((h2 x hn).trans hv) h) hd
theorem v0 {x:Str}{v:V}{u:Value}{pos:Pos}(hg:Gl X x)(hm:X.mg x=some u)(r:RelV v u)(hd:(x==("__debug__":Str))=false:=by decide):PE X (.Name x pos) (tC v):=
 λ_ _ _ H _ I h=>jq I hg hm ⟨v,H,I,r,h⟩ hd
theorem wW {x:Str}{v:V}{u:Value}{pos:Pos}(hg:Gl X x)(hm:X.mg x=none)(hv:bootBuiltins x=some u)(r:RelV v u)(hn:x≠"__name__":=by decide)(hd:(x==("__debug__":Str))=false:=by decide):PE X (.Name x pos) (tC v):=
 λ_ _ _ H _ I h=>lZ I hg hm hv ⟨v,H,I,r,h⟩ hn hd
variable {a b:Expr}{ta tb:TE}{pos:Pos}
theorem RelV.none_iff {x:V}{v:Value}(r:RelV x v):(v==Value.none)=decide (x=.non):=by
 cases x with
 |non=>cases r;rfl
 |bl _=>cases r;rfl
 |int _=>obtain⟨t,rfl⟩:=r;rfl
 |str _=>obtain⟨t,rfl⟩:=r;rfl
 |byt _=>obtain⟨t,rfl⟩:=r;rfl
 |flt _=>obtain⟨t,rfl⟩:=r;rfl
 |ref _=>cases r;rfl
 |ty _=>cases r;rfl
variable {tA tB':TT}{rest:List Expr}
def At(t u:TT):TT:=λσ H Q=>t σ H λc H1=>if c=true then u σ H1 Q else Q false H1
def BE(t u:TT):TT:=λσ H Q=>t σ H λc H1=>if c=true then Q true H1 else u σ H1 Q
def A4(t:TT):TT:=λσ H Q=>t σ H λc H1=>Q (!c) H1
theorem pw_and1(ha:PT X a tA):PW X (.BoolOp .And [a] pos) tA:=by
 intro wh ae s σ H Q I h;refine isTrue_and (cP (ha ae s σ H Q I h) λc s1 e=>?_)
 cases c with
 |true=>exact isTrue_and_nil e
 |false=>exact e
theorem pw_or1(ha:PT X a tA):PW X (.BoolOp .Or [a] pos) tA:=by
 intro wh ae s σ H Q I h;refine isTrue_or (cP (ha ae s σ H Q I h) λc s1 e=>?_)
 cases c with
 |false=>exact isTrue_or_nil e
 |true=>exact e
theorem pw_and(ha:PT X a tA)(hb:PW X (.BoolOp .And (b::rest) pos) tB'):PW X (.BoolOp .And (a::b::rest) pos) (At tA tB'):=by
 intro wh ae s σ H Q I h;refine isTrue_and (cP (ha ae s σ H _ I h) λc s1 hq_=>?_)
 obtain⟨H1,I1,q1⟩:=hq_
 cases c with
 |true=>exact hb wh ae s1 σ H1 Q I1 q1
 |false=>exact⟨H1,I1,q1⟩
theorem pw_or(ha:PT X a tA)(hb:PW X (.BoolOp .Or (b::rest) pos) tB'):PW X (.BoolOp .Or (a::b::rest) pos) (BE tA tB'):=by
 intro wh ae s σ H Q I h;refine isTrue_or (cP (ha ae s σ H _ I h) λc s1 hq_=>?_)
 obtain⟨H1,I1,q1⟩:=hq_
 cases c with
 |true=>exact⟨H1,I1,q1⟩
 |false=>exact hb wh ae s1 σ H1 Q I1 q1
theorem uq(ha:PT X a tA):PT X (.UnaryOp .Not a pos) (A4 tA):=by
 intro ae s σ H Q I h;exact isTrue_not (ha ae s σ H (λc H1=>Q (!c) H1) I h)
def zP(ta tb:TE):TE:=λσ H Q=>ta σ H λx H1=> ∃c,x=.bl c/\if c=true then tb σ H1 Q else Q (.bl false) H1
def zp(ta:TE):TE:=λσ H Q=>ta σ H λx H1=> ∃c,x=.bl c/\Q (.bl (!c)) H1
theorem yH {op}{t:TE}(h:PE X a t):PE X (.BoolOp op [a] pos) t:=λae s σ H Q I hw=>BoolOp_one (h ae s σ H Q I hw)
theorem xP(ha:PE X a ta)(hb:PE X (.BoolOp .And (b::rest) pos) tb):PE X (.BoolOp .And (a::b::rest) pos) (zP ta tb):=by
 intro ae s σ H Q I h;refine BoolOp_and (cP (ha ae s σ H _ I h) λv s1 hq_=>?_)
 obtain⟨x,H1,I1,r1,q1⟩:=hq_
 obtain⟨c,rfl,q1⟩:=q1
 cases r1
 refine wpAny_truthy_bool ?_
 cases c with
 |true=>exact hb ae s1 σ H1 Q I1 q1
 |false=>exact⟨.bl false,H1,I1,rfl,q1⟩
theorem yu(ha:PE X a ta):PE X (.UnaryOp .Not a pos) (zp ta):=by
 intro ae s σ H Q I h;refine UnaryOp_ (cP (ha ae s σ H _ I h) λv s1 hq_=>?_)
 obtain⟨x,H1,I1,r1,q1⟩:=hq_
 obtain⟨c,rfl,q1⟩:=q1
 cases r1
 exact not_of (wpAny_truthy_bool ⟨.bl (!c),H1,I1,rfl,q1⟩)
def BQ(t:TT)(ta tb:TE):TE:=λσ H Q=>t σ H λc H1=>if c=true then ta σ H1 Q else tb σ H1 Q
theorem va {c:Expr}(hc:PT X c tA)(ha:PE X a ta)(hb:PE X b tb):PE X (.IfExp c a b pos) (BQ tA ta tb):=by
 intro ae s σ H Q I h;refine wpAny_IfExp (cP (hc ae s σ H _ I h) λd s1 hq_=>?_)
 obtain⟨H1,I1,q1⟩:=hq_
 cases d with
 |true=>exact ha ae s1 σ H1 Q I1 q1
 |false=>exact hb ae s1 σ H1 Q I1 q1
end
def SqL(K:W.Frag)(H:Hp)(a:Addr)(xs:List V):Prop:=
 Rd H a (.lst xs)\/
  ∃(o:Obj) (its:Array Value) (n:Nat),K.lookup a=some o/\o.cls=.type "list"/\o.dict=none/\o.data=.seq its n/\its.size<=sizeLine/\Vals xs its.toList
def SqT(K:W.Frag)(H:Hp)(a:Addr)(xs:List V):Prop:=
 Rd H a (.tup xs)\/
  ∃(o:Obj) (its:Array Value) (n:Nat),K.lookup a=some o/\o.cls=.type "tuple"/\o.data=.seq its n/\its.size<=sizeLine/\Vals xs its.toList/\o.dict=none
def Bo:Value->Option V
 | .none=>some .non
 | .bool b=>some (.bl b)
 | .int i _=>some (.int i)
 | .str x _=>some (.str x)
 | .bytes b _=>some (.byt b)
 | .float b _=>some (.flt b)
 | .ref a=>some (.ref a)
 | .type n=>some (.ty n)
 |_=>none
theorem RelV.abs {x:V}{u:Value}(r:RelV x u):Bo u=some x:=by
 cases x with
 |non=>cases r;rfl
 |bl _=>cases r;rfl
 |int _=>obtain⟨t,rfl⟩:=r;rfl
 |str _=>obtain⟨t,rfl⟩:=r;rfl
 |byt _=>obtain⟨t,rfl⟩:=r;rfl
 |flt _=>obtain⟨t,rfl⟩:=r;rfl
 |ref _=>cases r;rfl
 |ty _=>cases r;rfl
theorem RelV.inj {x y:V}{u:Value}(r:RelV x u)(q:RelV y u):x=y:=Option.some.inj (r.abs.symm.trans q.abs)
theorem Vals.inj: ∀ {xs ys:List V} {us:List Value},Vals xs us->Vals ys us->xs=ys
 |_,_,_,.nil,.nil=>rfl
 |_,_,_,.cons r t,.cons r' t'=>by rw[r.inj r',Vals.inj t t']
section
variable {X:Cx}{ae:List (Addr×Obj)}{σ:St}{H:Hp}{s:Shared}{a:Addr}{xs ys:List V}
theorem SqL.of {K:W.Frag}(h:H a=some (.lst xs)):SqL K H a xs:=.inl (.inl h)
theorem SqT.of {K:W.Frag}(h:H a=some (.tup xs)):SqT K H a xs:=.inl (.inl h)
theorem Inv.list(I:Inv X ae σ H s)(h:SqL X.K H a xs): ∃its:List Value,Vals xs its/\PlainL s.heap a its.toArray/\xs.length<=sizeLine:=by
 rcases h with h|⟨o,its,n,hk,hc,hd,hs,hz,r⟩
 ·obtain⟨z,its,n,r,e⟩:=h.ok I.hok
  exact⟨its,r,⟨_,n,e,rfl,rfl,rfl⟩,z⟩
 ·refine⟨its.toList,r,⟨o,n,I.kIn a o hk,hc,hd,by simpa using hs⟩,?_⟩
  have e:=r.length
  simp only[Array.length_toList] at e;omega
theorem Inv.tuple(I:Inv X ae σ H s)(h:SqT X.K H a xs): ∃its:List Value,Vals xs its/\IsTup s.heap a its.toArray/\xs.length<=sizeLine:=by
 rcases h with h|⟨o,its,n,hk,hc,hs,hz,r,_⟩
 ·obtain⟨z,its,r,p,_⟩:=h.ok I.hok
  exact⟨its,r,p,z⟩
 ·refine⟨its.toList,r,⟨o,I.kIn a o hk,hc,n,by simpa using hs⟩,?_⟩
  have e:=r.length
  simp only[Array.length_toList] at e;omega
theorem Inv.tupleN(I:Inv X ae σ H s)(h:SqT X.K H a xs):(∃o,s.heap.get? a=some o/\o.cls=.type "tuple")/\ ∃o,s.heap.get? a=some o/\o.dict=none:=by
 rcases h with h|⟨o,its,n,hk,hc,hs,hz,r,hd⟩
 ·obtain⟨z,its,r,⟨ob,e,c,_⟩,o2,e2,d2⟩:=h.ok I.hok
  exact⟨⟨ob,e,c⟩,o2,e2,d2⟩
 ·exact⟨⟨o,I.kIn a o hk,hc⟩,o,I.kIn a o hk,hd⟩
theorem Inv.list_inj(I:Inv X ae σ H s)(h:SqL X.K H a xs)(h':SqL X.K H a ys):xs=ys:=by
 obtain⟨its,r,⟨o,n,e,_,_,d⟩,_⟩:=I.list h
 obtain⟨its',r',⟨o',n',e',_,_,d'⟩,_⟩:=I.list h'
 rw[e] at e';cases e';rw[d] at d';injection d' with d1 _
 have:its=its':=by simpa using congrArg Array.toList d1
 subst this;exact r.inj r'
theorem Inv.tuple_inj(I:Inv X ae σ H s)(h:SqT X.K H a xs)(h':SqT X.K H a ys):xs=ys:=by
 obtain⟨its,r,⟨o,e,_,n,d⟩,_⟩:=I.tuple h
 obtain⟨its',r',⟨o',e',_,n',d'⟩,_⟩:=I.tuple h'
 rw[e] at e';cases e';rw[d] at d';injection d' with d1 _
 have:its=its':=by simpa using congrArg Array.toList d1
 subst this;exact r.inj r'
end
abbrev Cx.wish(X:Cx)(E:Value->Shared->Prop):Cx:={X with xe:=E}
abbrev Cx.nox(X:Cx):Cx:=X.wish λ_ _=>False
theorem Cx.Ok.wish {X:Cx}(ok:X.Ok)(E:Value->Shared->Prop):(X.wish E).Ok:=
 ⟨ok.mod,ok.kind,ok.glob,ok.blt,ok.above,ok.inj,ok.has,ok.cab,ok.hd,ok.frames,ok.stk,ok.exf,ok.bs,ok.bsz,ok.noex,ok.exfs,ok.funs,ok.frf⟩
theorem Cx.Ok.unwish {X:Cx}{E:Value->Shared->Prop}(ok:(X.wish E).Ok):X.Ok:=
 ⟨ok.mod,ok.kind,ok.glob,ok.blt,ok.above,ok.inj,ok.has,ok.cab,ok.hd,ok.frames,ok.stk,ok.exf,ok.bs,ok.bsz,ok.noex,ok.exfs,ok.funs,ok.frf⟩
section
variable {X:Cx}{ae:List (Addr×Obj)}{σ:St}{H:Hp}{s:Shared}{E:Value->Shared->Prop}
theorem Inv.wish(I:Inv X ae σ H s)(E:Value->Shared->Prop):Inv (X.wish E) ae σ H s:=⟨I.ok.wish E,I.os,I.bare,I.base,I.loc,I.cell,I.free,I.freeC,I.pin,I.hok,I.len⟩
theorem Inv.unwish(I:Inv (X.wish E) ae σ H s):Inv X ae σ H s:=⟨I.ok.unwish,I.os,I.bare,I.base,I.loc,I.cell,I.free,I.freeC,I.pin,I.hok,I.len⟩
theorem SP.unwish {D:Ends}{f:Flow}{s':Shared}(h:SP (X.wish E) ae D f s'):SP X ae D f s':=by
 cases f with
 |next=>obtain⟨σ',H',I,q⟩:=h;exact⟨σ',H',I.unwish,q⟩
 |brk=>obtain⟨σ',H',I,q⟩:=h;exact⟨σ',H',I.unwish,q⟩
 |cont=>obtain⟨σ',H',I,q⟩:=h;exact⟨σ',H',I.unwish,q⟩
 |ret u=>obtain⟨v,σ',H',I,r,q⟩:=h;exact⟨v,σ',H',I.unwish,r,q⟩
theorem PT.nox {e:Expr}{t:TT}(h:PT X.nox e t):PT X e t:=λae s σ H Q I hw=>
 wpAny_mono (h ae s σ H Q (I.wish _) hw) (λ_ _ ⟨H',I',q⟩=>⟨H',I'.unwish,q⟩) λ_ _ z=>False.elim z
theorem PSs.nox {st:List Stmt}{t:TS}(h:PSs X.nox st t):PSs X st t:=λae s σ H D I hw=>
 wpAny_mono (h ae s σ H D (I.wish _) hw) (λ_ _ q=>q.unwish) λ_ _ z=>False.elim z
end
section
variable {X:Cx}{st:Stmt}{rest:List Stmt}{t u:TS}{e:Expr}{te:TE}{pos:Pos}
def z8:TS:=λD σ H=>D.nx σ H
def AR(t u:TS):TS:=λD σ H=>t {D with nx:=u D} σ H
theorem rE:PSs X [] z8:=λ_ _ σ H _ I h=>wpAny_execs_nil ⟨σ,H,I,h⟩
theorem oY(h1:PS X st t)(h2:PSs X rest u):PSs X (st::rest) (AR t u):=by
 intro ae s σ H D I h;refine wpAny_execs_cons (cP (h1 ae s σ H {D with nx:=u D} I h) λf s1 q=>?_)
 cases f with
 |next=>
  obtain⟨σ',H',I',q⟩:=q
  exact h2 ae s1 σ' H' D I' q
 |ret v=>exact q
 |brk=>exact q
 |cont=>exact q
theorem rC(h1:PS X st t):PSs X [st] t:=by
 intro ae s σ H D I h;refine wpAny_execs_cons (cP (h1 ae s σ H D I h) λf s1 q=>?_)
 cases f with
 |next=>exact wpAny_execs_nil q
 |ret v=>exact q
 |brk=>exact q
 |cont=>exact q
theorem Inv.quiet {ae:List (Addr×Obj)}{σ:St}{H:Hp}{s:Shared}(I:Inv X ae σ H s):interactive X.env=false:=by simp[interactive,I.ok.kind]
def zu(te:TE):TS:=λD σ H=>te σ H λ_ H1=>D.nx σ H1
theorem vQ(he:PE X e te)(hs:swapsWith e none pos.line X.env=pure false:=by rfl):PS X (.Expr e pos) (zu te):=by
 intro ae s σ H D I h;exact wpAny_Expr_any (cP (he ae s σ H _ I h) λv s1 ⟨x,H1,I1,r1,q1⟩=>⟨σ,H1,I1,q1⟩) I.quiet hs
def Au(te:TE):TS:=λD σ H=>te σ H D.rt
theorem qw(he:PE X e te):PS X (.Return (some e) pos) (Au te):=by
 intro ae s σ H D I h;exact wpAny_Return_some (cP (he ae s σ H _ I h) λv s1 ⟨x,H1,I1,r1,q1⟩=>⟨x,σ,H1,I1,r1,q1⟩)
def A9(c:TT)(t u:TS):TS:=λD σ H=>c σ H λb H1=>if b=true then t D σ H1 else u D σ H1
theorem uR {c:Expr}{a b:List Stmt}{tc:TT}(hc:PT X c tc)(ha:PSs X a t)(hb:PSs X b u):PS X (.If c a b pos) (A9 tc t u):=by
 intro ae s σ H D I h;refine wpAny_If (cP (hc ae s σ H _ I h) λd s1 hq_=>?_)
 obtain⟨H1,I1,q1⟩:=hq_
 cases d with
 |true=>exact ha ae s1 σ H1 D I1 q1
 |false=>exact hb ae s1 σ H1 D I1 q1
end
abbrev TG:=V->St->Hp->(St->Hp->Prop)->Prop
abbrev ua:=List V->St->Hp->(St->Hp->Prop)->Prop
def PG(X:Cx)(target:Expr)(t:TG):Prop:=
 ∀(ae:List (Addr×Obj)) (s:Shared) (σ:St) (H:Hp) (v:V) (u:Value) (Q:St->Hp->Prop),Inv X ae σ H s->RelV v u->t v σ H Q->
  wpAny (model X.prog X.w) X.A (assign target X.env u) (λ_ s'=> ∃σ' H',Inv X ae σ' H' s'/\Q σ' H') X.xe s
def PGs(X:Cx)(ts:List Expr)(t:ua):Prop:=
 ∀(ae:List (Addr×Obj)) (s:Shared) (σ:St) (H:Hp) (vs:List V) (us:List Value) (Q:St->Hp->Prop),Inv X ae σ H s->Vals vs us->t vs σ H Q->
  wpAny (model X.prog X.w) X.A (assignInOrder ((assignEach ts X.env).map (·.2)) us) (λ_ s'=> ∃σ' H',Inv X ae σ' H' s'/\Q σ' H') X.xe s
abbrev yb:=V->V->V->Hp->(Hp->Prop)->Prop
def zM(X:Cx)(t:yb):Prop:=
 ∀(ae:List (Addr×Obj)) (s:Shared) (σ:St) (H:Hp) (o i v:V) (ov iv u:Value) (Q:Hp->Prop),Inv X ae σ H s->RelV o ov->RelV i iv->RelV v u->t o i v H Q->
  wpAny (model X.prog X.w) X.A (setItem ov iv u) (λ_ s'=> ∃H',Inv X ae σ H' s'/\Q H') X.xe s
section
variable {X:Cx}{pos:Pos}
def tP(i:Nat):TG:=λv σ H Q=>Q (σ.set i (some v)) H
theorem xb {i:Nat}{x:Str}(hN:X.N.Nodup)(hi:X.N[i]? =some x)(hx:vo X.env.scope x)(hf:X.fn x=true\/X.env.scope.names.lookup x=some .local:=by first|exact .inl rfl|exact .inr rfl|assumption):PG X (.Name x pos) (tP i):=by
 intro ae s σ H v u Q I r h;exact wpAny_assign_Name (i6 I hN hi hx r (λs' I'=>⟨_,H,I',h⟩) hf)
def A7:ua:=λvs σ H Q=>vs=[]/\Q σ H
def zn(t:TG)(u:ua):ua:=λvs σ H Q=> ∃v r,vs=v::r/\t v σ H λσ' H'=>u r σ' H' Q
theorem rF:PGs X [] A7:=by
 intro ae s σ H vs us Q I r h;obtain⟨e,h⟩:=h
 subst e;cases r
 exact assignInOrder_nil ⟨σ,H,I,h⟩
theorem pY {e:Expr}{es:List Expr}{t:TG}{u:ua}(h1:PG X e t)(h2:PGs X es u)
 (hs:(assignEach (e::es) X.env).map (·.2)=assign e X.env::(assignEach es X.env).map (·.2):=by rfl):PGs X (e::es) (zn t u):=by
 intro ae s σ H vs us Q I r h;obtain⟨v,vr,e1,h⟩:=h
 subst e1;cases r with
 |cons r rr=>
  rw[hs];refine assignInOrder_cons (cP (h1 ae s σ H _ _ _ I r h) λ_ s1 hq_=>?_)
  obtain⟨σ1,H1,I1,q1⟩:=hq_
  exact h2 ae s1 σ1 H1 _ _ Q I1 rr q1
def AN(K:W.Frag)(n:Nat)(t:ua):TG:=λv σ H Q=> ∃a xs,v=.ref a/\SqT K H a xs/\xs.length=n/\t xs σ H Q
theorem ui {es:List Expr}{k:Nat}{t:ua}{n:Nat}(hc:X.calm=true)(h:PGs X es t)
 (hn:(assignEach es X.env).length=n:=by rfl) (hst:(assignEach es X.env).findIdx? (·.1)=none:=by rfl):PG X (.Tuple es k pos) (AN X.K n t):=by
 intro ae s σ H v u Q I r hw;obtain⟨a,xs,e1,hq,hl,hw⟩:=hw
 subst e1;cases r
 obtain⟨its,rv,ht,hz⟩:=I.tuple hq
 refine assign_Tuple_tuple (I.ok.hd hc) ht (by simp[hn,<-hl,rv.length]) hst λh' hx=>?_
 have I1:Inv X ae σ H {s with heap:=h'}:=I.kept (t':=s.toks) λb o e=>hx b o (Nat.ne_of_lt (Heap.lt_size e)) e
 exact h ae _ σ H xs _ Q I1 (by simpa using rv) hw
def AY(to ti:TE)(t:yb):TG:=λv σ H Q=>to σ H λo H1=>ti σ H1 λi H2=>t o i v H2 λH3=>Q σ H3
theorem xJ {o i:Expr}{to ti:TE}{t:yb}(ho:PE X o to)(hi:PE X i ti)(hs:zM X t)
 (ha: ∀v,assign (.Subscript o i pos) X.env v=(do
   let ov <-holding [v] (eval o X.env)
   let iv <-holding [v,ov] (eval i X.env)
   standAt pos
   holding [v,ov,iv] (setItem ov iv v)
   release [v,ov,iv] []):=by intro _;rfl):PG X (.Subscript o i pos) (AY to ti t):=by
 intro ae s σ H v u Q I r h;rw[ha];refine wpAny_bind (wpAny_holding (cP (ho ae s σ H _ I h) λov s1 hq_=>?_))
 obtain⟨x,H1,I1,r1,q1⟩:=hq_
 refine wpAny_bind (wpAny_holding (cP (hi ae s1 σ H1 _ I1 q1) λiv s2 hq_=>?_))
 obtain⟨y,H2,I2,r2,q2⟩:=hq_
 refine wpAny_bind (wpAny_standAt (wpAny_bind (wpAny_holding (cP (hs ae s2 σ H2 x y v ov iv u _ I2 r1 r2 r q2) λ_ s3 hq_=>?_))))
 obtain⟨H3,I3,q3⟩:=hq_
 exact wpAny_release ⟨σ,H3,I3,q3⟩
def yg(te:TE)(g:TG):TS:=λD σ H=>te σ H λx H1=>g x σ H1 D.nx
theorem u9 {tg e:Expr}{te:TE}{g:TG}(he:PE X e te)(hg:PG X tg g)(hs:swapsWithSole [tg] e pos.line X.env=pure false:=by rfl)(hw:swappedStores [tg] e X.env=pure none:=by rfl)
 (h1:(assignEach [tg] X.env).map (·.2)=[assign tg X.env]:=by rfl):PS X (.Assign [tg] e pos) (yg te g):=by
 intro ae s σ H D I h;refine wpAny_Assign_stores (cP (he ae s σ H _ I h) λv s1 ⟨x,H1,I1,r1,q1⟩=>?_) hs hw
 rw[h1];exact cP (hg ae s1 σ H1 x v _ I1 r1 q1) λ_ s2 q=>q
theorem oC {i:Nat}{x:Str}{e:Expr}{te:TE}{pos':Pos}(hN:X.N.Nodup)(hi:X.N[i]? =some x)(hx:vo X.env.scope x)(he:PE X e te)(hs:swapsWith e (some (.Name x pos')) pos.line X.env=pure false:=by rfl)(hf:X.fn x=true\/X.env.scope.names.lookup x=some .local:=by first|exact .inl rfl|exact .inr rfl|assumption):
 PS X (.Assign [.Name x pos'] e pos) (yg te (tP i)):=by
 intro ae s σ H D I h;refine wpAny_Assign_Name (cP (he ae s σ H _ I h) λv s1 ⟨y,H1,I1,r1,q1⟩=>?_) hs
 exact i6 I1 hN hi hx r1 (λs2 I2=>⟨_,H1,I2,q1⟩) hf
def AS(i j:Nat)(ta:TA):TS:=λD σ H=>ta σ H λvs H1=> ∃v w,vs=[v,w]/\D.nx ((σ.set i (some v)).set j (some w)) H1
theorem za {i j:Nat}{x y:Str}{a b:Expr}{ta:TA}{px py pt:Pos}{kt k2 pt2}(hc:X.calm=true)(hN:X.N.Nodup)(hi:X.N[i]? =some x)(hj:X.N[j]? =some y)(hij:i≠j)
 (hx:X.env.scope.names.lookup x=some .local) (hy:X.env.scope.names.lookup y=some .local) (ha:PA X [a,b] ta)
 (hw:swappedStores [.Tuple [.Name x px,.Name y py] kt pt] (.Tuple [a,b] k2 pt2) X.env=pure (some [x,y]))
 (hs:swapsWithSole [.Tuple [.Name x px,.Name y py] kt pt] (.Tuple [a,b] k2 pt2) pos.line X.env=pure false:=by rfl):
 PS X (.Assign [.Tuple [.Name x px,.Name y py] kt pt] (.Tuple [a,b] k2 pt2) pos) (AS i j ta):=by
 intro ae s σ H D I h;rw[exec_Assign_arm];refine wpAny_bind (wpAny_standAt ?_)
 rw[hs];refine wpAny_bind (wpAny_pure ?_)
 rw[if_neg (by decide)]
 refine wpAny_bind (Tuple_ (cP (ha _ ae s σ H _ I h) λus s1 hq_=>?_))
 obtain⟨vs,H1,I1,r1,q1⟩:=hq_
 obtain⟨v,w,e1,q1⟩:=q1
 subst e1;obtain⟨u1,u2,rfl,rv,rw'⟩: ∃u1 u2,us=[u1,u2]/\RelV v u1/\RelV w u2:=by
  cases r1 with
  |cons p q=>
   cases q with
   |cons p' q'=>
    cases q'
    exact⟨_,_,rfl,p,p'⟩
 refine wpAny_newObj_type ?_ (by show 2<=sizeLine;decide)
 have I2:Inv X ae σ H1 {s1 with heap:=s1.heap.push {cls:=.type "tuple",data:=.seq [u1,u2].toArray}}:=I1.kept (t':=s1.toks) λb o e=>Heap.get?_push_of_some _ e
 rw[hw];refine wpAny_bind (wpAny_pure ?_)
 show wpAny (model X.prog X.w) X.A (do rule "assign.swapped-stores";let items <-unpackItems (.ref s1.heap.objs.size) 2 none;assignInOrder [λv=>bindName X.env y v,λv=>bindName X.env x v] items.reverse;pure Flow.next) _ _ _
 refine wpAny_bind (wpAny_rule (wpAny_bind (unpackItems_tuple (items:= #[u1,u2]) (I.ok.hd hc) (IsTup.new s1.heap _) λh' hx'=>?_)))
 have I3:=I2.kept (h':=h') (t':=s1.toks) λb o e=>hx' b o (Nat.ne_of_lt (Heap.lt_size e)) e
 show wpAny _ _ (assignInOrder [λv=>bindName X.env y v,λv=>bindName X.env x v] [u2,u1]>>=λ_=>pure Flow.next) _ _ _
 refine wpAny_bind (assignInOrder_cons (wpAny_bindName (i6 I3 hN hj (.inl hy) rw' (λs2 I4=>?_) (.inr hy))))
 refine assignInOrder_cons (wpAny_bindName (i6 I4 hN hi (.inl hx) rv (λs3 I5=>assignInOrder_nil (wpAny_pure ?_)) (.inr hx)))
 rw[List.set_comm _ _ (Ne.symm hij)] at I5;exact⟨_,H1,I5,q1⟩
end
section
variable {X:Cx}{pos:Pos}
def yt(c:TT)(tb:TS):TS:=λD σ H=> ∃W:Nat->St->Hp->Prop,(∃m,W m σ H)/\ ∀m σ H,W m σ H->
 c σ H λb H1=>if b=true then∃N:St->Hp->Prop,(∀σ' H',N σ' H'-> ∃m',m'<m/\W m' σ' H')/\tb {D with nx:=N,ct:=N,bk:=D.nx} σ H1 else D.nx σ H1
theorem uJ {c:Expr}{body:List Stmt}{tc:TT}{tb:TS}(hp:PassesOwn (model X.prog X.w) X.A X.env X.xe)(hc:PT X c tc)(hb:PSs X body tb):PS X (.While c body [] pos) (yt tc tb):=by
 intro ae s σ H D I h;obtain⟨W,⟨m0,w0⟩,turn⟩:=h
 refine wpAny_While (codeAny_whileLoop (λn s'=> ∃σ' H',Inv X ae σ' H' s'/\W n σ' H') ?_ m0 ⟨σ,H,I,w0⟩)
 rintro n s1 ⟨σ1,H1,I1,w1⟩
 refine wpAny_passesOwn hp (cP (hc ae s1 σ1 H1 _ I1 (turn n σ1 H1 w1)) λb s2 hq_=>?_)
 obtain⟨H2,I2,q2⟩:=hq_
 cases b with
 |true=>
  obtain⟨N,hN,q2⟩:=q2
  rw[if_pos rfl];refine wpAny_passesOwn hp (cP (hb ae s2 σ1 H2 _ I2 q2) λf s3 q3=>?_)
  cases f with
  |next=>
   obtain⟨σ3,H3,I3,n3⟩:=q3
   obtain⟨m',hm,w3⟩:=hN σ3 H3 n3
   exact⟨m',hm,σ3,H3,I3,w3⟩
  |cont=>
   obtain⟨σ3,H3,I3,n3⟩:=q3
   obtain⟨m',hm,w3⟩:=hN σ3 H3 n3
   exact⟨m',hm,σ3,H3,I3,w3⟩
  |brk=>exact q3
  |ret v=>exact q3
 |false=>
  rw[if_neg Bool.false_ne_true];exact wpAny_execs_nil ⟨σ1,H2,I2,q2⟩
end
structure It where
 go:Nat->Hp->Prop
 yld:Nat->Hp->V->Hp->Prop
 stop:Nat->Hp->Prop
def mx(X:Cx)(ae:List (Addr×Obj))(H:Hp)(b:Addr):Prop:=
 H b=none/\b≠X.env.locals/\b∉X.fs/\(b∈X.ex\/X.s₀.heap.objs.size<=b)/\(∀x c,X.env.cells.lookup x=some c->c≠b)/\ ∀p∈X.pn++ae,p.1≠b
theorem Inv.fpOk {X:Cx}{ae:List (Addr×Obj)}{σ:St}{H H':Hp}{s:Shared}{b:Addr}(I:Inv X ae σ H s)(hb:s.heap.objs.size<=b)(hn:H' b=none):mx X ae H' b:=by
 refine⟨hn,Nat.ne_of_gt (Nat.lt_of_lt_of_le I.lt hb),I.nofs hb,.inr (Nat.le_trans I.sz hb),λx c e z=>?_,λp hp z=>?_⟩
 ·obtain⟨v,q⟩:=I.cell x c e
  exact absurd (Nat.lt_of_lt_of_le q.lt (by rw[z];exact hb)) (Nat.lt_irrefl _)
 ·exact absurd (Nat.lt_of_lt_of_le (Heap.lt_size (I.pin p hp).1) (by rw[z];exact hb)) (Nat.lt_irrefl _)
structure Turn(P:Program)(w:World)(K:W.Frag)(tg:Expr)(J:It)(fp:List Addr)(it:Addr)(tn:Nat->Heap->Prop):Prop where
 mem:it∈fp
 obj: ∀i h,tn i h-> ∀b∈fp,∃o,h.get? b=some o/\ ∀v,o.data≠ .cell v
 keep: ∀i h h',tn i h->(∀b∈fp,∀o,h.get? b=some o->h'.get? b=some o)->tn i h'
 item: ∀(X:Cx),X.prog=P->X.w=w->X.K=K->X.calm=true-> ∀(i:Nat) (ae:List (Addr×Obj)) (s:Shared) (σ:St) (H:Hp) (E:Value->Shared->Prop),Inv X ae σ H s->(∀b∈fp,mx X ae H b)->tn i s.heap->J.go i H->
  wpAny (model P w) X.A (pyNext (.ref it)) (λr s1=> ∃u,r=some u/\
   wpAny (model P w) X.A (letOwnedTupleGo tg (.ref it) u) (λ_ s2=> ∃x H',Inv X ae σ H' s2/\RelV x u/\J.yld i H x H'/\tn (i+1) s2.heap/\ ∀b∈fp,H' b=none) E s1) E s
 done: ∀(X:Cx),X.prog=P->X.w=w->X.K=K->X.calm=true-> ∀(i:Nat) (ae:List (Addr×Obj)) (s:Shared) (σ:St) (H:Hp) (E:Value->Shared->Prop),Inv X ae σ H s->(∀b∈fp,mx X ae H b)->tn i s.heap->J.stop i H->
  wpAny (model P w) X.A (pyNext (.ref it)) (λr s1=>r=none/\Inv X ae σ H s1) E s
 self: ∀(A:Around) (i:Nat) (s:Shared) (Q:Value->Shared->Prop) (E:Value->Shared->Prop),tn i s.heap->Q (.ref it) s->wpAny (model P w) A (pyIter (.ref it)) Q E s
abbrev TI:=St->Hp->(It->Hp->Prop)->Prop
def Br(X:Cx)(ae:List (Addr×Obj))(σ:St)(tg:Expr)(R:It->Hp->Prop)(itv:Value)(s2:Shared):Prop:=
 ∃(it:Addr) (fp:List Addr) (tn:Nat->Heap->Prop) (J:It) (H':Hp),itv=.ref it/\Inv X ae σ H' s2/\Turn X.prog X.w X.K tg J fp it tn/\tn 0 s2.heap/\(∀b∈fp,mx X ae H' b)/\R J H'
def PI(X:Cx)(tg iter:Expr)(wi:TI):Prop:=
 ∀(ae:List (Addr×Obj)) (s:Shared) (σ:St) (H:Hp) (R:It->Hp->Prop),Inv X ae σ H s->wi σ H R->
  wpAny (model X.prog X.w) X.A (eval iter X.env) (λv s1=>wpAny (model X.prog X.w) X.A (pyIter v) (Br X ae σ tg R) X.xe s1) X.xe s
theorem tO {M:Model}{A:Around}{E:Value->Shared->Prop}{s:Shared}{tg:Expr}{it:Addr}{u:Value}{o:Obj}{n:String}{vs:Array Value}{Q:Unit->Shared->Prop}(ho:s.heap.get? it=some o)(hc:o.cls=.type n)(hd:o.data=.fields vs)
 (hn:["enumerate","zip","dict_itemiterator","dict_reverseitemiterator","odict_iterator","itertools.zip_longest","itertools.pairwise"].contains n=false) (hQ:Q () s):wpAny M A (letOwnedTupleGo tg (.ref it) u) Q E s:=by
 unfold letOwnedTupleGo;cases tg<;>first
  |exact wpAny_pure hQ
  |(cases u<;>first
     |exact wpAny_pure hQ
     |(refine wpAny_bind (wpAny_load ho ?_)
       rw[hc,hd];show wpAny M A (if(["enumerate","zip","dict_itemiterator","dict_reverseitemiterator","odict_iterator","itertools.zip_longest","itertools.pairwise"].contains n&&vs[0]? ==some (rawInt _))=true then _ else _) Q E s
       rw[if_neg (by intro h;rw[hn,Bool.false_and] at h;cases h)]
       exact wpAny_pure hQ))
def AL(K:W.Frag)(a:Addr):It:=
 ⟨λi H=> ∃xs x,SqL K H a xs/\xs[i]? =some x,λi H x H'=>H'=H/\ ∀xs,SqL K H a xs->xs[i]? =some x,λi H=> ∃xs,SqL K H a xs/\xs.length<=i⟩
def AJ(K:W.Frag)(a:Addr):It:=
 ⟨λi H=> ∃xs x,SqT K H a xs/\xs[i]? =some x,λi H x H'=>H'=H/\ ∀xs,SqT K H a xs->xs[i]? =some x,λi H=> ∃xs,SqT K H a xs/\xs.length<=i⟩
def Ah(lo:Int)(n:Nat):It:=⟨λi _=>i<n,λi H x H'=>H'=H/\x=.int (lo+i),λi _=>n<=i⟩
theorem so {P:Program}{w:World}{K:W.Frag}{tg:Expr}(a it:Addr):Turn P w K tg (AL K a) [it] it (λi h=>h.IsListIter it a i) where
 mem:=by simp
 obj:=λi h st b hb=>by
  have e:b=it:=by simpa using hb
  subst e;obtain⟨o,e,c,d⟩:=st
  exact⟨o,e,λv z=>by rw[d] at z;cases z⟩
 keep:=λi h h' st k=>st.at λo e=>k it (by simp) o e
 item:=by
  intro X hP hw hK hc i ae s σ H E I hf st hg;subst hP hw hK;obtain⟨xs,x,hq,hx⟩:=hg
  obtain⟨its,rv,p,hz⟩:=I.list hq
  obtain⟨u,hu,ru⟩:=rv.get hx
  obtain⟨f0,f1,f2,f3,f4,f5⟩:=hf it (by simp)
  refine wpAny_pyNext_list_item st p.isList (x:=u) (by simpa using hu) λh' st' sb=>?_
  have I1:Inv X ae σ H {s with heap:=h'}:=I.turned (t':=s.toks) (λb o hb e=>(sb.2 b hb).trans e) f0 f1 f3 f4 f5
  obtain⟨o,e,c,d⟩:=id st'
  exact⟨u,rfl,tO (s:={s with heap:=h'}) e c d (by decide) ⟨x,H,I1,ru,⟨rfl,λys hy=>by rw[I.list_inj hy hq];exact hx⟩,st',λb hb=>(hf b hb).1⟩⟩
 done:=by
  intro X hP hw hK hc i ae s σ H E I hf st hg;subst hP hw hK;obtain⟨xs,hq,hx⟩:=hg
  obtain⟨its,rv,p,hz⟩:=I.list hq
  obtain⟨f0,f1,f2,f3,f4,f5⟩:=hf it (by simp)
  have hl:=rv.length
  exact wpAny_pyNext_list_end (I.ok.hd hc) st p.isList (by simp;omega) λh' eb=>⟨rfl,I.turned (t':=s.toks) (λb o hb e=>eb b o hb e) f0 f1 f3 f4 f5⟩
 self:=λ_ _ _ _ _ st h=>wpAny_pyIter_listiter st h
theorem qD {P:Program}{w:World}{K:W.Frag}{tg:Expr}(a it:Addr):Turn P w K tg (AJ K a) [it] it (λi h=>h.IsTupleIter it a i) where
 mem:=by simp
 obj:=λi h st b hb=>by
  have e:b=it:=by simpa using hb
  subst e;obtain⟨o,e,c,d⟩:=st
  exact⟨o,e,λv z=>by rw[d] at z;cases z⟩
 keep:=λi h h' st k=>st.at λo e=>k it (by simp) o e
 item:=by
  intro X hP hw hK hc i ae s σ H E I hf st hg;subst hP hw hK;obtain⟨xs,x,hq,hx⟩:=hg
  obtain⟨its,rv,p,hz⟩:=I.tuple hq
  obtain⟨u,hu,ru⟩:=rv.get hx
  obtain⟨f0,f1,f2,f3,f4,f5⟩:=hf it (by simp)
  refine wpAny_pyNext_tuple_item st (show s.heap.IsTuple a its.toArray from p) (x:=u) (by simpa using hu) λh' st' sb=>?_
  have I1:Inv X ae σ H {s with heap:=h'}:=I.turned (t':=s.toks) (λb o hb e=>(sb.2 b hb).trans e) f0 f1 f3 f4 f5
  obtain⟨o,e,c,d⟩:=id st'
  exact⟨u,rfl,tO (s:={s with heap:=h'}) e c d (by decide) ⟨x,H,I1,ru,⟨rfl,λys hy=>by rw[I.tuple_inj hy hq];exact hx⟩,st',λb hb=>(hf b hb).1⟩⟩
 done:=by
  intro X hP hw hK hc i ae s σ H E I hf st hg;subst hP hw hK;obtain⟨xs,hq,hx⟩:=hg
  obtain⟨its,rv,p,hz⟩:=I.tuple hq
  obtain⟨f0,f1,f2,f3,f4,f5⟩:=hf it (by simp)
  have hl:=rv.length
  exact wpAny_pyNext_tuple_end (I.ok.hd hc) st (show s.heap.IsTuple a its.toArray from p) (by simp;omega) λh' eb=>⟨rfl,I.turned (t':=s.toks) (λb o hb e=>eb b o hb e) f0 f1 f3 f4 f5⟩
 self:=λ_ _ _ _ _ st h=>wpAny_pyIter_tupleiter st h
theorem qM {P:Program}{w:World}{K:W.Frag}{tg:Expr}(it:Addr)(lo:Int)(n:Nat):Turn P w K tg (Ah lo n) [it] it (λi h=>IsRangeIter h it (lo+(i:Nat)*1) ((n:Int) - (i:Nat)) 1) where
 mem:=by simp
 obj:=λi h st b hb=>by
  have e:b=it:=by simpa using hb
  subst e;exact⟨_,st,λv z=>by
   have z':Data.fields _=Data.cell v:=z
   cases z'⟩
 keep:=λi h h' st k=>k it (by simp) _ st
 item:=by
  intro X hP hw hK hc i ae s σ H E I hf st hg;subst hP hw hK;obtain⟨f0,f1,f2,f3,f4,f5⟩:=hf it (by simp)
  have W:=Walks.range (prog:=X.prog) (w:=X.w) (I.ok.hd hc) it lo 1 n
  refine W.item i s _ _ hg st λv h' tk hv st' kk=>?_
  obtain⟨t,rfl⟩:=hv
  have I1:Inv X ae σ H {s with heap:=h',toks:=tk}:=I.turned (λb o hb e=>kk b o (by simpa using hb) e) f0 f1 f3 f4 f5
  refine⟨_,rfl,tO (s:={s with heap:=h',toks:=tk}) (n:="range_iterator") st' rfl rfl (by decide) ⟨.int (lo+i),H,I1,⟨t,?_⟩,⟨rfl,rfl⟩,st',λb hb=>(hf b hb).1⟩⟩
  rw[Int.mul_one]
 done:=by
  intro X hP hw hK hc i ae s σ H E I hf st hg;subst hP hw hK;obtain⟨f0,f1,f2,f3,f4,f5⟩:=hf it (by simp)
  exact wpAny_pyNext_range_end (I.ok.hd hc) st (by have:n<=i:=hg;omega) λh' eb=>⟨rfl,I.turned (t':=s.toks) (λb o hb e=>eb b o hb e) f0 f1 f3 f4 f5⟩
 self:=λ_ _ _ _ _ st h=>wpAny_pyIter_rangeiter st h
section
variable {X:Cx}{tg:Expr}
def zl(K:W.Frag)(tl:TE):TI:=λσ H R=>tl σ H λx H1=> ∃a,x=.ref a/\(∃xs,SqL K H1 a xs)/\R (AL K a) H1
def Bj(K:W.Frag)(tl:TE):TI:=λσ H R=>tl σ H λx H1=> ∃a,x=.ref a/\(∃xs,SqT K H1 a xs)/\R (AJ K a) H1
theorem vB {l:Expr}{tl:TE}(hl:PE X l tl):PI X tg l (zl X.K tl):=by
 intro ae s σ H R I h;refine cP (hl ae s σ H _ I h) λv s1 hq_=>?_
 obtain⟨x,H1,I1,r1,q1⟩:=hq_
 obtain⟨a,e,⟨xs,hq⟩,q⟩:=q1
 subst e;cases r1
 obtain⟨its,rv,p,hz⟩:=I1.list hq
 refine wpAny_pyIter_list p.isList ?_
 refine⟨s1.heap.objs.size,[s1.heap.objs.size],_,_,H1,rfl,I1.kept (t':=s1.toks) λb o e=>Heap.get?_push_of_some _ e,so a _,⟨_,Heap.get?_push_size _ rfl,rfl,rfl⟩,λb hb=>?_,q⟩
 have e:b=s1.heap.objs.size:=by simpa using hb
 subst e;exact I1.fpOk (Nat.le_refl _) (I1.hok.fresh (Nat.le_refl _))
theorem yS {l:Expr}{tl:TE}(hl:PE X l tl):PI X tg l (Bj X.K tl):=by
 intro ae s σ H R I h;refine cP (hl ae s σ H _ I h) λv s1 hq_=>?_
 obtain⟨x,H1,I1,r1,q1⟩:=hq_
 obtain⟨a,e,⟨xs,hq⟩,q⟩:=q1
 subst e;cases r1
 obtain⟨its,rv,p,hz⟩:=I1.tuple hq
 refine wpAny_pyIter_tuple (show s1.heap.IsTuple a its.toArray from p) ?_
 refine⟨s1.heap.objs.size,[s1.heap.objs.size],_,_,H1,rfl,I1.kept (t':=s1.toks) λb o e=>Heap.get?_push_of_some _ e,qD a _,⟨_,Heap.get?_push_size _ rfl,rfl,rfl⟩,λb hb=>?_,q⟩
 have e:b=s1.heap.objs.size:=by simpa using hb
 subst e;exact I1.fpOk (Nat.le_refl _) (I1.hok.fresh (Nat.le_refl _))
theorem tt {ae:List (Addr×Obj)}{σ:St}{H:Hp}{s:Shared}{R:It->Hp->Prop}{E:Value->Shared->Prop}{lo hi:Int}{t u v:Tok}{tk:Nat}(I:Inv X ae σ H s)(h1: -(2^62)<=lo)(h2:lo<2^62)(h3: -(2^62)<=hi)(h4:hi<2^62)
 (q:R (Ah lo (hi-lo).toNat) H):wpAny (model X.prog X.w) X.A (pyIter (.ref s.heap.objs.size)) (Br X ae σ tg R) E {s with heap:=s.heap.push {cls:=.type "range",data:=.fields #[.int lo t,.int hi u,.int 1 v]},toks:=tk}:=by
 refine wpAny_pyIter_range (IsRange.new ..) (small_one h1 h2 h3 h4) ?_
 have I1:Inv X ae σ H {s with heap:=s.heap.push {cls:=.type "range",data:=.fields #[.int lo t,.int hi u,.int 1 v]},toks:=tk}:=I.kept λb o e=>Heap.get?_push_of_some _ e
 refine⟨(s.heap.push {cls:=.type "range",data:=.fields #[.int lo t,.int hi u,.int 1 v]}).objs.size,[(s.heap.push {cls:=.type "range",data:=.fields #[.int lo t,.int hi u,.int 1 v]}).objs.size],_,_,H,rfl,
  I1.kept (t':=tk) λb o e=>Heap.get?_push_of_some _ e,qM _ lo (hi-lo).toNat,?_,λb hb=>?_,q⟩
 ·have e1:lo+((0:Nat):Int)*1=lo:=by simp
  have e2:(((hi-lo).toNat:Nat):Int) - ((0:Nat):Int)=Builtin.Range.rangeSize lo hi 1:=by rw[rangeSize_one];split<;>omega
  show IsRangeIter _ _ (lo+((0:Nat):Int)*1) ((((hi-lo).toNat:Nat):Int) - ((0:Nat):Int)) 1;rw[e1,e2];exact Heap.get?_push_size _ rfl
 ·have e:b=(s.heap.push {cls:=.type "range",data:=.fields #[.int lo t,.int hi u,.int 1 v]}).objs.size:=by simpa using hb
  subst e;exact I1.fpOk (Nat.le_refl _) (I1.hok.fresh (Nat.le_refl _))
def zC(ta:TA):TI:=λσ H R=>ta σ H λvs H1=> ∃j:Int,vs=[.int j]/\ -(2^62)<=j/\j<2^62/\R (Ah 0 j.toNat) H1
theorem sQ {a:Expr}{ta:TA}{p pos:Pos}(hg:Gl X "range")(hm:X.mg "range"=none)(ha:PA X [a] ta)(hs:starEach [a] X.env=[(false,eval a X.env)]:=by rfl):PI X tg (.Call (.Name "range" p) [a] [] pos) (zC ta):=by
 intro ae s σ H R I h;refine Call_ (lZ I hg hm boot_range (PyProof.Rows.callWith_type1 (cP (ha pos ae s σ H _ I h) λus s1 ⟨vs,H1,I1,r1,q1⟩=>?_) hs rfl))
 obtain⟨j,e,q1,q2,q⟩:=q1
 subst e;cases r1 with
 |cons r rr=>
  cases rr
  obtain⟨t,rfl⟩:=r
  exact call_range_1 (tt I1 (by omega) (by omega) q1 q2 (by simpa using q))
def AU(wi:TI)(g:TG)(tb:TS):TS:=λD σ H=>wi σ H λJ H1=> ∃W:Nat->Nat->St->Hp->Prop,(∃m,W 0 m σ H1)/\ ∀i m σ H,W i m σ H->
 (J.stop i H/\D.nx σ H)\/(J.go i H/\ ∃N:St->Hp->Prop,(∀σ' H',N σ' H'-> ∃m',m'<m/\W (i+1) m' σ' H')/\ ∀x H',J.yld i H x H'->g x σ H' λσ2 H2=>tb {D with nx:=N,ct:=N,bk:=D.nx} σ2 H2)
def lV(fp:List Addr)(h:Heap):List (Addr×Obj):=fp.filterMap λb=>(h.get? b).map λo=>(b,o)
theorem iH {fp:List Addr}{h:Heap}{b:Addr}{o:Obj}(hb:b∈fp)(e:h.get? b=some o):(b,o)∈lV fp h:=List.mem_filterMap.mpr ⟨b,hb,by rw[e];rfl⟩
theorem sR {fp:List Addr}{h:Heap}{p:Addr×Obj}(hp:p∈lV fp h):p.1∈fp/\h.get? p.1=some p.2:=by
 obtain⟨b,hb,e⟩:=List.mem_filterMap.mp hp
 cases q:h.get? b with
 |none=>rw[q] at e;cases e
 |some o=>
  rw[q] at e;have e':(b,o)=p:=Option.some.inj e
  subst e';exact⟨hb,q⟩
theorem Inv.pinned {ae:List (Addr×Obj)}{σ:St}{H:Hp}{s:Shared}{fp:List Addr}(I:Inv X ae σ H s)(hf: ∀b∈fp,mx X ae H b)(ho: ∀b∈fp,∃o,s.heap.get? b=some o/\ ∀v,o.data≠ .cell v):Inv X (ae++lV fp s.heap) σ H s:=
 I.pins_of λp hp=>(List.mem_append.mp hp).elim (λz=>I.pin p (List.mem_append_right _ z)) λz=>by
  obtain⟨hb,e⟩:=sR z
  obtain⟨f0,f1,f2,_⟩:=hf p.1 hb
  obtain⟨o,e',d⟩:=ho p.1 hb
  rw[e] at e';cases e';exact⟨e,f0,f1,f2,d⟩
theorem Inv.unpinned {ae pl:List (Addr×Obj)}{σ:St}{H:Hp}{s:Shared}(I:Inv X (ae++pl) σ H s):Inv X ae σ H s:=I.pins_of λp hp=>I.pin p (List.mem_append_right _ (List.mem_append_left _ hp))
theorem xN {iter:Expr}{body:List Stmt}{wi:TI}{g:TG}{tb:TS}{pos:Pos}(hp:PassesOwn (model X.prog X.w) X.A X.env X.xe)(hc:X.calm=true)(hi:PI X tg iter wi)(hg:PG X tg g)(hb:PSs X body tb)
 (hs: ∀x,foldedSetIterable iter X.env x=pure x:=by intro _;rfl):PS X (.For tg iter body [] pos) (AU wi g tb):=by
 intro ae s σ H D I h;refine wpAny_For (cP (hi ae s σ H _ I h) λv s1 h1=>cP h1 λitv s2 h2=>?_) hs
 obtain⟨it,fp,tn,J,H2,e,I2,T,st2,f2,W,⟨m0,w0⟩,turn⟩:=h2
 subst e;have stat: ∀ {H':Hp},(∀b∈fp,H' b=none)-> ∀b∈fp,mx X ae H' b:=λhn b hb=>⟨hn b hb,(f2 b hb).2⟩
 refine codeAny_forLoop_any (λn s'=> ∃i σ' H',Inv X ae σ' H' s'/\tn i s'.heap/\(∀b∈fp,H' b=none)/\W i n σ' H') ?_ m0 ⟨0,σ,H2,I2,st2,λb hb=>(f2 b hb).1,w0⟩
 rintro n s3 ⟨i,σ3,H3,I3,st3,fr3,w3⟩
 rcases turn i n σ3 H3 w3 with⟨stop,qn⟩|⟨go,N,hN,step⟩
 ·refine wpAny_passesOwn hp (cP (T.done X rfl rfl rfl hc i ae s3 σ3 H3 X.xe I3 (stat fr3) st3 stop) λr s4 hq_=>?_)
  obtain⟨hr,I4⟩:=hq_
  subst hr;exact wpAny_execs_nil ⟨σ3,H3,I4,qn⟩
 ·refine wpAny_passesOwn hp (cP (T.item X rfl rfl rfl hc i ae s3 σ3 H3 X.xe I3 (stat fr3) st3 go) λr s4 hq_=>?_)
  obtain⟨u,hr,h4⟩:=hq_
  subst hr;refine wpAny_passesOwn hp (cP h4 λ_ s5 hq_=>?_)
  obtain⟨x,H5,I5,r5,y5,st5,fr5⟩:=hq_
  have I5':=I5.pinned (stat fr5) (T.obj _ _ st5)
  refine wpAny_passesOwn hp (cP (hg _ s5 σ3 H5 x u _ I5' r5 (step x H5 y5)) λ_ s6 hq_=>?_)
  obtain⟨σ6,H6,I6,q6⟩:=hq_
  refine wpAny_passesOwn hp (cP (hb _ s6 σ6 H6 _ I6 q6) λf s7 q7=>?_)
  have again: ∀ {σ7:St} {H7:Hp},Inv X (ae++lV fp s5.heap) σ7 H7 s7->N σ7 H7-> ∃m,m<n/\ ∃i σ' H',Inv X ae σ' H' s7/\tn i s7.heap/\(∀b∈fp,H' b=none)/\W i m σ' H':=λ{σ7 H7} I7 n7=>by
   obtain⟨m',hm,w7⟩:=hN σ7 H7 n7
   refine⟨m',hm,i+1,σ7,H7,I7.unpinned,T.keep _ _ _ st5 λb hb o e=>(I7.pin (b,o) (List.mem_append_right _ (List.mem_append_right _ (iH hb e)))).1,λb hb=>?_,w7⟩
   obtain⟨o,e,d⟩:=T.obj _ _ st5 b hb
   exact(I7.pin (b,o) (List.mem_append_right _ (List.mem_append_right _ (iH hb e)))).2.1
  cases f with
  |next=>obtain⟨σ7,H7,I7,n7⟩:=q7;exact again I7 n7
  |cont=>obtain⟨σ7,H7,I7,n7⟩:=q7;exact again I7 n7
  |brk=>obtain⟨σ7,H7,I7,q7⟩:=q7;exact⟨σ7,H7,I7.unpinned,q7⟩
  |ret v=>obtain⟨x7,σ7,H7,I7,r7,q7⟩:=q7;exact⟨x7,σ7,H7,I7.unpinned,r7,q7⟩
end
abbrev R2:=V->V->Hp->VK->Prop
def jd(X:Cx)(f:Value->Value->Sem Value)(r:R2):Prop:=
 ∀(ae:List (Addr×Obj)) (s:Shared) (σ:St) (H:Hp) (x y:V) (v u:Value) (Q:VK),Inv X ae σ H s->RelV x v->RelV y u->r x y H Q->
  wpAny (model X.prog X.w) X.A (f v u) (EP X ae σ Q) X.xe s
def Bk(X:Cx)(f:Value->Sem Value)(r:V->Hp->VK->Prop):Prop:=
 ∀(ae:List (Addr×Obj)) (s:Shared) (σ:St) (H:Hp) (x:V) (v:Value) (Q:VK),Inv X ae σ H s->RelV x v->r x H Q->
  wpAny (model X.prog X.w) X.A (f v) (EP X ae σ Q) X.xe s
def gB(X:Cx)(f:Value)(r:List V->Hp->VK->Prop):Prop:=
 ∀(ae:List (Addr×Obj)) (s:Shared) (σ:St) (H:Hp) (xs:List V) (us:List Value) (Q:VK),Inv X ae σ H s->Vals xs us->r xs H Q->
  wpAny (model X.prog X.w) X.A (call f us) (EP X ae σ Q) X.xe s
def A8(X:Cx)(r:V->Hp->(Bool->Hp->Prop)->Prop):Prop:=
 ∀(ae:List (Addr×Obj)) (s:Shared) (σ:St) (H:Hp) (x:V) (v:Value) (Q:Bool->Hp->Prop),Inv X ae σ H s->RelV x v->r x H Q->
  wpAny (model X.prog X.w) X.A (truthy v) (TP X ae σ Q) X.xe s
def zf(r:R2)(ta tb:TE):TE:=λσ H Q=>ta σ H λx H1=>tb σ H1 λy H2=>r x y H2 Q
def BL(r:V->Hp->VK->Prop)(ta:TE):TE:=λσ H Q=>ta σ H λx H1=>r x H1 Q
def rI(C:Int->Int->Prop)(g:Int->Int->V):R2:=λx y H Q=> ∃i j,x=.int i/\y=.int j/\C i j/\Q (g i j) H
def vj(g:Int->Int->V):R2:=λx y H Q=> ∃i j,x=.int i/\y=.int j/\Q (g i j) H
def rU(g:Int->V):V->Hp->VK->Prop:=λx H Q=> ∃i,x=.int i/\Q (g i) H
section
variable {X:Cx}{a b c:Expr}{ta tb tc:TE}{pos:Pos}
theorem yD(ha:PE X a ta)(hb:PE X b tb){ae:List (Addr×Obj)}{s:Shared}{σ:St}{H:Hp}{R:V->V->Hp->Prop}(I:Inv X ae σ H s)
 (h:ta σ H λx H1=>tb σ H1 λy H2=>R x y H2) {Q:Value->Shared->Prop} {f:Value->Value->Sem Value}
 (hf: ∀v u s2 x y H2,Inv X ae σ H2 s2->RelV x v->RelV y u->R x y H2->wpAny (model X.prog X.w) X.A (f v u) Q X.xe s2):
 wpAny (model X.prog X.w) X.A (eval a X.env) (λv s₁=>wpAny (model X.prog X.w) X.A (eval b X.env) (λu s₂=>wpAny (model X.prog X.w) X.A (f v u) Q X.xe s₂) X.xe s₁) X.xe s:=by
 refine cP (ha ae s σ H _ I h) λv s1 hq_=>?_
 obtain⟨x,H1,I1,r1,q1⟩:=hq_
 refine cP (hb ae s1 σ H1 _ I1 q1) λu s2 hq_=>?_
 obtain⟨y,H2,I2,r2,q2⟩:=hq_
 exact hf v u s2 x y H2 I2 r1 r2 q2
theorem xi {op:Operator}{r:R2}(ho:jd X (binaryOp op) r)(ha:PE X a ta)(hb:PE X b tb):PE X (.BinOp a op b pos) (zf r ta tb):=by
 intro ae s σ H Q I h;exact wpAny_BinOp (yD ha hb I h λv u s2 x y H2 I2 rx ry q=>ho ae s2 σ H2 x y v u Q I2 rx ry q)
theorem zT {op:UnaryOp}{r:V->Hp->VK->Prop}(ho:Bk X (unaryOp op) r)(ha:PE X a ta):PE X (.UnaryOp op a pos) (BL r ta):=by
 intro ae s σ H Q I h;exact UnaryOp_ (cP (ha ae s σ H _ I h) λv s1 ⟨x,H1,I1,r1,q1⟩=>ho ae s1 σ H1 x v Q I1 r1 q1)
theorem Aj {f:Value->Value->Sem Value}{C:Int->Int->Prop}{g:Int->Int->Int}
 (rule: ∀(i j:Int) (t u:Tok) (s:Shared) (Q:Value->Shared->Prop) (E:Value->Shared->Prop),C i j->Q (.int (g i j) s.toks) {s with toks:=s.toks+1}->wpAny (model X.prog X.w) X.A (f (.int i t) (.int j u)) Q E s):
 jd X f (rI C λi j=>.int (g i j)):=by
 intro ae s σ H x y v u Q I rx ry h;obtain⟨i,j,rfl,rfl,hc,q⟩:=h
 obtain⟨t,rfl⟩:=rx
 obtain⟨t',rfl⟩:=ry
 exact rule i j t t' s _ _ hc ⟨.int (g i j),H,I.tok _,⟨_,rfl⟩,q⟩
theorem zq {f:Value->Value->Sem Value}{g:Int->Int->Int}
 (rule: ∀(i j:Int) (t u:Tok) (s:Shared) (Q:Value->Shared->Prop) (E:Value->Shared->Prop),Q (.int (g i j) s.toks) {s with toks:=s.toks+1}->wpAny (model X.prog X.w) X.A (f (.int i t) (.int j u)) Q E s):
 jd X f (vj λi j=>.int (g i j)):=by
 intro ae s σ H x y v u Q I rx ry h;obtain⟨i,j,rfl,rfl,q⟩:=h
 obtain⟨t,rfl⟩:=rx
 obtain⟨t',rfl⟩:=ry
 exact rule i j t t' s _ _ ⟨.int (g i j),H,I.tok _,⟨_,rfl⟩,q⟩
theorem xg {f:Value->Value->Sem Value}{g:Int->Int->Bool}
 (rule: ∀(i j:Int) (t u:Tok) (s:Shared) (Q:Value->Shared->Prop) (E:Value->Shared->Prop),Q (.bool (g i j)) s->wpAny (model X.prog X.w) X.A (f (.int i t) (.int j u)) Q E s):
 jd X f (vj λi j=>.bl (g i j)):=by
 intro ae s σ H x y v u Q I rx ry h;obtain⟨i,j,rfl,rfl,q⟩:=h
 obtain⟨t,rfl⟩:=rx
 obtain⟨t',rfl⟩:=ry
 exact rule i j t t' s _ _ ⟨.bl (g i j),H,I,rfl,q⟩
def z7(i j:Int):Prop:=0<=j/\j<=1000000/\i.natAbs<2^64
theorem sU:jd X (binaryOp .Add) (vj λi j=>.int (i+j)):=zq λ_ _ _ _ _ _ _ q=>add_int q
theorem xU:jd X (binaryOp .Sub) (vj λi j=>.int (i-j)):=zq λ_ _ _ _ _ _ _ q=>sub_int q
theorem x9:jd X (binaryOp .Mod) (rI (λ_ j=>0<j) λi j=>.int (i % j)):=Aj λi j _ _ _ _ _ hc q=>by
 have h1:(0:Int)<j:=hc
 exact mod_int' (by omega) (by rw[Int.fmod_eq_emod_of_nonneg i (by omega)];exact q)
theorem yo:jd X (binaryOp .Pow) (rI z7 λi j=>.int (i^j.toNat)):=Aj λ_ _ _ _ _ _ _ hc q=>pow_int_small hc.1 hc.2.1 hc.2.2 q
theorem BC {f:Value->Sem Value}{g:Int->Int}
 (rule: ∀(i:Int) (t:Tok) (s:Shared) (Q:Value->Shared->Prop) (E:Value->Shared->Prop),Q (.int (g i) s.toks) {s with toks:=s.toks+1}->wpAny (model X.prog X.w) X.A (f (.int i t)) Q E s):
 Bk X f (rU λi=>.int (g i)):=by
 intro ae s σ H x v Q I rx h;obtain⟨i,rfl,q⟩:=h
 obtain⟨t,rfl⟩:=rx
 exact rule i t s _ _ ⟨.int (g i),H,I.tok _,⟨_,rfl⟩,q⟩
theorem yI:Bk X (unaryOp .USub) (rU λi=>.int (-i)):=BC λ_ _ _ _ _ q=>neg_int q
end
section
variable {X:Cx}{a b c:Expr}{ta tb tc:TE}{pos:Pos}
theorem nz:jd X (compareOp .Lt) (vj λi j=>.bl (decide (i<j))):=xg λ_ _ _ _ _ _ _ q=>lt_int q
theorem kT:jd X (compareOp .LtE) (vj λi j=>.bl (decide (i<=j))):=xg λ_ _ _ _ _ _ _ q=>le_int q
theorem u3:jd X (compareOp .Gt) (vj λi j=>.bl (decide (j<i))):=xg λ_ _ _ _ _ _ _ q=>gt_int q
theorem xk:jd X (compareOp .GtE) (vj λi j=>.bl (decide (j<=i))):=xg λ_ _ _ _ _ _ _ q=>ge_int q
theorem bb(b:Expr){op:CmpOp}(h:op≠ .In:=by decide)(h2:op≠ .NotIn:=by decide):behindInMarks op b=false:=by
 have e1:(op==CmpOp.In)=false:=by cases op<;>first|rfl|exact absurd rfl h
 have e2:(op==CmpOp.NotIn)=false:=by cases op<;>first|rfl|exact absurd rfl h2
 cases b<;>simp[behindInMarks,e1,e2]
theorem wf {op:CmpOp}{r:R2}(ho:jd X (compareOp op) r)(ha:PE X a ta)(hb:PE X b tb)(hm:behindInMarks op b=false):PE X (.Compare a [op] [b] pos) (zf r ta tb):=by
 intro ae s σ H Q I h;exact wpAny_Compare1 (yD ha hb I h λv u s2 x y H2 I2 rx ry q=>ho ae s2 σ H2 x y v u Q I2 rx ry q) hm
def xF(t:TE):TT:=λσ H Q=>t σ H λx H'=> ∃k,x=.bl k/\Q k H'
theorem wI {op:CmpOp}{r:R2}(ho:jd X (compareOp op) r)(ha:PE X a ta)(hb:PE X b tb)(hm:behindInMarks op b=false):PT X (.Compare a [op] [b] pos) (xF (zf r ta tb)):=by
 intro ae s σ H Q I h;refine wpAny_isTrue_Compare1 (cP (ha ae s σ H _ I h) λv s1 ⟨x,H1,I1,r1,q1⟩=>cP (hb ae s1 σ H1 _ I1 q1) λu s2 ⟨y,H2,I2,r2,q2⟩=>
  cP (ho ae s2 σ H2 x y v u _ I2 r1 r2 q2) λc s3 ⟨z,H3,I3,r3,k,e,q3⟩=>?_) hm
 subst e;cases r3
 exact wpAny_truthy_bool ⟨H3,I3,q3⟩
def qs(r r':R2)(ta tb tc:TE):TE:=λσ H Q=>ta σ H λx H1=>tb σ H1 λy H2=>r x y H2 λz H3=> ∃k,z=.bl k/\
 (if k=true then tc σ H3 λw' H4=>r' y w' H4 Q else Q (.bl false) H3)
theorem tU {op op':CmpOp}{r r':R2}(ho:jd X (compareOp op) r)(ho':jd X (compareOp op') r')(ha:PE X a ta)(hb:PE X b tb)(hc:PE X c tc)
 (hm:lastMarks [op,op'] [b,c]=false:=by with_unfolding_all rfl):PE X (.Compare a [op,op'] [b,c] pos) (qs r r' ta tb tc):=by
 intro ae s σ H Q I h;refine Compare_chain (cP (ha ae s σ H _ I h) λv s1 ⟨x,H1,I1,r1,q1⟩=>chain_link (cP (hb ae s1 σ H1 _ I1 q1) λu s2 ⟨y,H2,I2,r2,q2⟩=>
  cP (ho ae s2 σ H2 x y v u _ I2 r1 r2 q2) λd s3 ⟨z,H3,I3,r3,k,e,q3⟩=>?_)) hm
 subst e;cases r3
 refine wpAny_truthy_bool ?_
 cases k with
 |false=>exact ite_ff ⟨.bl false,H3,I3,rfl,q3⟩
 |true=>exact ite_tt (chain_last (cP (hc ae s3 σ H3 _ I3 q3) λw' s4 ⟨z',H4,I4,r4,q4⟩=>ho' ae s4 σ H4 y z' u w' Q I4 r2 r4 q4))
theorem t8 {op op':CmpOp}{r r':R2}(ho:jd X (compareOp op) r)(ho':jd X (compareOp op') r')(ha:PE X a ta)(hb:PE X b tb)(hc:PE X c tc)
 (hm:lastMarks [op,op'] [b,c]=false:=by with_unfolding_all rfl):PT X (.Compare a [op,op'] [b,c] pos) (xF (qs r r' ta tb tc)):=by
 intro ae s σ H Q I h;refine isTrue_chain (cP (ha ae s σ H _ I h) λv s1 ⟨x,H1,I1,r1,q1⟩=>test_link (cP (hb ae s1 σ H1 _ I1 q1) λu s2 ⟨y,H2,I2,r2,q2⟩=>
  cP (ho ae s2 σ H2 x y v u _ I2 r1 r2 q2) λd s3 ⟨z,H3,I3,r3,k,e,q3⟩=>?_)) hm
 subst e;cases r3
 refine wpAny_truthy_bool ?_
 cases k with
 |false=>
  obtain⟨k',e',q'⟩:=q3
  cases e'
  exact ite_ff ⟨H3,I3,q'⟩
 |true=>
  refine ite_tt (test_last (cP (hc ae s3 σ H3 _ I3 q3) λw' s4 ⟨z',H4,I4,r4,q4⟩=>cP (ho' ae s4 σ H4 y z' u w' _ I4 r2 r4 q4) λd' s5 hq_=>?_))
  obtain⟨z2,H5,I5,r5,k2,e2,q5⟩:=hq_
  subst e2;cases r5
  exact wpAny_truthy_bool ⟨H5,I5,q5⟩
def yq(K:W.Frag)(x:V)(H:Hp)(k:Bool):Prop:=
 match x with
 | .non=>k=false
 | .bl b=>k=b
 | .int i=>k=(i !=0)
 | .str y=>y.length<=sizeLine/\k=((y.length:Int) !=0)
 | .byt y=>y.size<=sizeLine/\k=((y.size:Int) !=0)
 | .ref p=>(∃xs,SqL K H p xs/\k= !xs.isEmpty)\/(∃xs,SqT K H p xs/\k= !xs.isEmpty)\/ ∃kvs,H p=some (.dK kvs)/\k= !kvs.isEmpty
 |_=>False
theorem qy {κ:Type}{kvs:List (κ×V)}{vs:List (κ×Value)}(r:KV kvs vs):(!vs.isEmpty)= !kvs.isEmpty:=by
 cases r<;>rfl
theorem lD {xs:List V}{its:List Value}(r:Vals xs its):(!its.toArray.isEmpty)= !xs.isEmpty:=by
 cases r<;>simp
theorem i9:(sizeLine:Nat)<2^63:=by rw[sizeLine_eq];decide
theorem yK:A8 X (λx H Q=> ∃k,yq X.K x H k/\Q k H):=by
 intro ae s σ H x v Q I rx h;obtain⟨k,e,q⟩:=h
 have hl:=i9
 have hs:sizeLine=16777216:=sizeLine_eq
 cases x with
 |non=>
  cases rx
  have e':k=false:=e
  subst e';exact truthy_none ⟨H,I,q⟩
 |bl b=>
  cases rx
  have e':k=b:=e
  subst e';exact wpAny_truthy_bool ⟨H,I,q⟩
 |int i=>
  obtain⟨t,rfl⟩:=rx
  have e':k=(i !=0):=e
  subst e';exact PySem.P.truthy_int ⟨H,I,q⟩
 |str y=>
  obtain⟨t,rfl⟩:=rx
  obtain⟨hy,e'⟩:y.length<=sizeLine/\k=((y.length:Int) !=0):=e
  subst e';exact PySem.P.truthy_str (by omega) ⟨H,I.tok _,q⟩
 |byt y=>
  obtain⟨t,rfl⟩:=rx
  obtain⟨hy,e'⟩:y.size<=sizeLine/\k=((y.size:Int) !=0):=e
  subst e';exact W.truthy_bytes (by omega) ⟨H,I.tok _,q⟩
 |ref p=>
  cases rx
  have e':(∃xs,SqL X.K H p xs/\k= !xs.isEmpty)\/(∃xs,SqT X.K H p xs/\k= !xs.isEmpty)\/ ∃kvs,H p=some (.dK kvs)/\k= !kvs.isEmpty:=e
  rcases e' with⟨xs,hx,e'⟩|⟨xs,hx,e'⟩|⟨kvs,hx,e'⟩
  ·subst e'
   obtain⟨its,r,pl,hz⟩:=I.list hx
   have hlen:=r.length
   exact wpAny_truthy_list pl.isList (by simp only[List.size_toArray];omega) ⟨H,I.tok _,by rw[lD r];exact q⟩
  ·subst e'
   obtain⟨its,r,pl,hz⟩:=I.tuple hx
   have hlen:=r.length
   exact truthy_tuple pl (by simp only[List.size_toArray];omega) ⟨H,I.tok _,by rw[lD r];exact q⟩
  ·subst e'
   obtain⟨hz,hS,vs,r,m⟩:kvs.length<=sizeLine/\(p==sysModules)=false/\ ∃vs,KV kvs vs/\s.heap.DictOf (oR X.prog X.w) p vs:=I.hok p _ hx
   have hlen:kvs.length=vs.length:=Paired.length r
   exact wpAny_truthy_dict hS m (by omega) ⟨H,I.tok _,by rw[qy r];exact q⟩
 |_=>exact(show False from e).elim
theorem pT(ha:PE X a ta)(he: ∀whole,isTrue a X.env whole=(do let v <-whole;standAt a.pos;holding [v] (truthy v))):
 PT X a (λσ H Q=>ta σ H λx H'=> ∃k,yq X.K x H' k/\Q k H'):=by
 intro ae s σ H Q I h;exact isTrue_plain (cP (ha ae s σ H _ I h) λv s1 ⟨x,H1,I1,r1,q1⟩=>yK ae s1 σ H1 x v Q I1 r1 q1) (he _)
theorem lb {x:V}{us:List Value}(r:Vals [x] us): ∃u,us=[u]/\RelV x u:=by
 cases r with
 |cons r1 r2=>cases r2;exact⟨_,rfl,r1⟩
theorem ub {x y:V}{us:List Value}(r:Vals [x,y] us): ∃u w',us=[u,w']/\RelV x u/\RelV y w':=by
 cases r with
 |cons r1 r2=>
  cases r2 with
  |cons r3 r4=>cases r4;exact⟨_,_,rfl,r1,r3⟩
theorem uG:gB X (.builtin "abs") (λxs H Q=> ∃i,xs=[.int i]/\Q (.int (if i<0 then -i else i)) H):=by
 intro ae s σ H xs us Q I r h;obtain⟨i,rfl,q⟩:=h
 obtain⟨u,rfl,t,rfl⟩:=lb r
 exact call_abs_int λu tk=>⟨.int (if i<0 then -i else i),H,I.tok _,⟨_,rfl⟩,q⟩
theorem g0(hc:X.calm=true):gB X (.builtin "max") (λxs H Q=> ∃i j,xs=[.int i,.int j]/\Q (.int (if j>i then j else i)) H):=by
 intro ae s σ H xs us Q I r h;obtain⟨i,j,rfl,q⟩:=h
 obtain⟨u,w',rfl,⟨t,rfl⟩,⟨t',rfl⟩⟩:=ub r
 refine max_two_ints (I.ok.hd hc) λh' tk k=>⟨_,H,I.kept k,?_,q⟩
 by_cases hj:j>i
 ·rw[if_pos hj,if_pos hj];exact⟨_,rfl⟩
 ·rw[if_neg hj,if_neg hj];exact⟨_,rfl⟩
theorem km(hc:X.calm=true):gB X (.builtin "min") (λxs H Q=> ∃i j,xs=[.int i,.int j]/\Q (.int (if j<i then j else i)) H):=by
 intro ae s σ H xs us Q I r h;obtain⟨i,j,rfl,q⟩:=h
 obtain⟨u,w',rfl,⟨t,rfl⟩,⟨t',rfl⟩⟩:=ub r
 refine min_two_ints (I.ok.hd hc) λh' tk k=>⟨_,H,I.kept k,?_,q⟩
 by_cases hj:j<i
 ·rw[if_pos hj,if_pos hj];exact⟨_,rfl⟩
 ·rw[if_neg hj,if_neg hj];exact⟨_,rfl⟩
end
structure Room(k:Nat)(A:Around):Prop where
 hd:A.handled=none
 dp:A.depth+3*k+5<recursionLimit
 un:A.units+16*k+200<cLine
theorem Room.mono {j k:Nat}{A:Around}(r:Room k A)(h:j<=k):Room j A:=⟨r.hd,by have:=r.dp;omega,by have:=r.un;omega⟩
theorem Room.deeper {k:Nat}{A:Around}(r:Room (k+1) A)(env:Env):Room k (A.deeper env):=
 ⟨r.hd,by have:=r.dp;show A.depth+1+3*k+5<_;omega,by have:=r.un;show A.units+3+16*k+200<_;omega⟩
theorem Room.depth {k:Nat}{A:Around}(r:Room k A):A.depth<recursionLimit:=by have:=r.dp;omega
theorem Room.units {k:Nat}{A:Around}(r:Room k A):A.units+64<cLine:=by have:=r.un;omega
def A5:TA:=λ_ H Q=>Q [] H
def zZ(ta:TE)(tr:TA):TA:=λσ H Q=>ta σ H λx H1=>tr σ H1 λxs H2=>Q (x::xs) H2
section
variable {X:Cx}{e:Expr}{es:List Expr}{te:TE}{t:TA}{pos:Pos}
theorem jD:PA X [] A5:=λ_ _ _ _ H Q I h=>Calls.spliced_nil ⟨[],H,I,.nil,h⟩
theorem dZ(ha:PE X e te)(hr:PA X es t)(hs:starEach (e::es) X.env=(false,eval e X.env)::starEach es X.env:=by rfl):PA X (e::es) (zZ te t):=by
 intro pos ae s σ H Q I h;rw[hs];show wpAny _ _ (spliced ((false,eval e X.env)::backTo pos (starEach es X.env))) _ _ s;refine Calls.spliced_cons (cP (ha ae s σ H _ I h) λu s1 hq_=>?_)
 obtain⟨x,H1,I1,r1,q1⟩:=hq_
 exact cP (hr pos ae s1 σ H1 _ I1 q1) λus s2 ⟨xs,H2,I2,r2,q2⟩=>⟨x::xs,H2,I2,.cons r1 r2,q2⟩
def Av(t:TA):TE:=λσ H Q=>t σ H λxs H1=>xs.length<=sizeLine/\ ∀p,H1 p=none->Q (.ref p) (dv H1 p (.tup xs))
def AC(t:TA):TE:=λσ H Q=>t σ H λxs H1=>xs.length<=sizeLine/\ ∀p,H1 p=none->Q (.ref p) (dv H1 p (.lst xs))
theorem yh {x1}(h:PA X es t):PE X (.Tuple es x1 pos) (Av t):=by
 intro ae s σ H Q I hq;refine wpAny_Tuple_spliced (cP (h pos ae s σ H _ I hq) λus s1 ⟨xs,H1,I1,r,z,q⟩=>⟨by rw[<-r.length];exact z,?_⟩)
 have hf:H1 s1.heap.objs.size=none:=I1.hok.fresh (Nat.le_refl _)
 refine⟨.ref s1.heap.objs.size,dv H1 s1.heap.objs.size (.tup xs),I1.laid (t':=s1.toks) (λb u e=>Heap.get?_push_of_some _ e) (Nat.le_refl _) ?_,rfl,q _ hf⟩
 exact⟨z,us,r,⟨_,Heap.get?_push_size _ rfl,rfl,_,rfl⟩,_,Heap.get?_push_size _ rfl,rfl⟩
theorem yJ(h:PA X es t):PE X (.List es pos) (AC t):=by
 intro ae s σ H Q I hq;refine wpAny_List_spliced (cP (h pos ae s σ H _ I hq) λus s1 ⟨xs,H1,I1,r,z,q⟩=>⟨by rw[<-r.length];exact z,?_⟩)
 have hf:H1 s1.heap.objs.size=none:=I1.hok.fresh (Nat.le_refl _)
 refine⟨.ref s1.heap.objs.size,dv H1 s1.heap.objs.size (.lst xs),I1.laid (t':=s1.toks) (λb u e=>Heap.get?_push_of_some _ e) (Nat.le_refl _) ?_,rfl,q _ hf⟩
 exact⟨z,us,0,r,Heap.get?_push_size _ rfl⟩
end
abbrev Sp:=List V->Hp->VK->XK->Prop
abbrev rg:=List Env->Hp->Shared->XK->Value->Shared->Prop
structure Env0(P:Program)(w:World)(K:W.Frag)(mg:Str->Option Value)(base:Heap)(A:Around)(outer:List Env)(s:Shared)(H:Hp):Prop where
 frames:A.frames=some outer
 mod:Mod K mg base
 bs: ∀b o,base.get? b=some o->s.heap.get? b=some o/\H b=none
 bsz:base.objs.size<=s.heap.objs.size
 funs:s.heap.FunFrames base outer
 frf: ∀b∈iX outer,H b=none
 hok:HOk P w H s.heap
 bare:AllBare s.gens
def CE(outer:List Env)(P:Program)(w:World)(H:Hp)(s:Shared)(Q:VK)(u:Value)(s':Shared):Prop:=
 ∃v H',s'.os=s.os/\AllBare s'.gens/\Un (iX outer) [] H H' s.heap s'.heap/\HOk P w H' s'.heap/\RelV v u/\Q v H'
def CR(CX:rg)(outer:List Env)(P:Program)(w:World)(H:Hp)(s:Shared)(Q:VK)(E:XK)(r:Result)(s':Shared):Prop:=
 match r with
 | .ok (.ret u)=>CE outer P w H s Q u s'
 | .ok _=>False
 | .error e=>CX outer H s E e s'
structure FnOk(P:Program)(w:World)(K:W.Frag)(mg:Str->Option Value)(base:Heap)(CX:rg)(k:Nat)(f:Addr)(fd:FuncData)(ps:List Str)(sp:Sp):Prop where
 len: ∀vs H Q E,sp vs H Q E->vs.length=ps.length
 run: ∀(A:Around) (outer:List Env) (s:Shared) (H:Hp) (args:Args) (us:List Value) (vs:List V) (Q:VK) (E:XK),Room k A->Env0 P w K mg base A outer s H->BindsTo s fd args (ps.zip us)->Vals vs us->sp vs H Q E->
  codeAny (model P w) A (.call (.ref f) args) (CR CX outer P w H s Q E) s
theorem FnOk.imp {P:Program}{w:World}{K:W.Frag}{mg:Str->Option Value}{base:Heap}{CX:rg}{k:Nat}{f:Addr}{fd:FuncData}{ps:List Str}{sp sp':Sp}(F:FnOk P w K mg base CX k f fd ps sp)
 (h: ∀vs H Q E,sp' vs H Q E->sp vs H Q E):FnOk P w K mg base CX k f fd ps sp':=
 ⟨λvs H Q E q=>F.len vs H Q E (h _ _ _ _ q),λA outer s H args us vs Q E hr he hb hv hs=>F.run A outer s H args us vs Q E hr he hb hv (h _ _ _ _ hs)⟩
section
variable {X:Cx}{ae:List (Addr×Obj)}{σ:St}{H:Hp}{s s':Shared}
theorem Inv.env0(I:Inv X ae σ H s):Env0 X.prog X.w X.K X.mg X.base X.A X.stack s H:=
 ⟨I.ok.frames,I.ok.mod,I.bs,Nat.le_trans I.ok.bsz I.sz,I.stack,I.stkFree,I.hok,I.bare⟩
theorem Inv.after {Q:VK}{u:Value}(I:Inv X ae σ H s)(h:CE X.stack X.prog X.w H s Q u s'):EP X ae σ Q u s':=by
 obtain⟨v,H',os,bare,un,hok,r,q⟩:=h
 obtain⟨hh,g,d,t,os'⟩:=s'
 obtain rfl:os'=s.os:=os
 exact⟨v,H',I.call (h':=hh) (g':=g) (d':=d) (t':=t) (ch:=[]) un hok bare (λb z=>absurd z (by simp)),r,q⟩
end
def zS(sp:Sp)(dvs:List V)(E:XK)(t:TA):TE:=λσ H Q=>t σ H λvs H1=>sp (vs++dvs) H1 Q E
def Binds(K:W.Frag)(fd:FuncData)(ps:List Str)(ds:List Value):Prop:=
 ∀(s:Shared) (us:List Value),K.In s.heap->(us++ds).length=ps.length->BindsTo s fd ⟨us,[]⟩ (ps.zip (us++ds))
theorem Binds.all {K:W.Frag}{fd:FuncData}{ps:List Str}(h: ∀us:List Value,us.length=ps.length->bindArgs fd ⟨us,[]⟩=pure (ps.zip us)):Binds K fd ps []:=λs us _ hl=>by
 rw[List.append_nil] at hl⊢;exact .of_eq (h us hl)
def qc(CX:rg)(X:Cx)(E:XK):Prop:= ∀(ae:List (Addr×Obj)) (σ:St) (H:Hp) (s:Shared) (e:Value) (s':Shared),Inv X ae σ H s->CX X.stack H s E e s'->X.xe e s'
section
variable {X:Cx}{CX:rg}{k:Nat}{f C:Addr}{fd:FuncData}{ps:List Str}{sp:Sp}{dvs:List V}{ds:List Value}{E:XK}{x m:Str}{p pos apos:Pos}{e o:Expr}{es:List Expr}{ta:TE}{t:TA}
theorem zc {ae:List (Addr×Obj)}{σ:St}{H:Hp}{s:Shared}{Q:VK}{us:List Value}{vs:List V}(F:FnOk X.prog X.w X.K X.mg X.base CX k f fd ps sp)(hr:Room k X.A)(hb:Binds X.K fd ps ds)(hd:Vals dvs ds)(hx:qc CX X E)
 (I:Inv X ae σ H s) (r:Vals vs us) (h:sp (vs++dvs) H Q E):wpAny (model X.prog X.w) X.A (call (.ref f) us) (EP X ae σ Q) X.xe s:=by
 have r2:Vals (vs++dvs) (us++ds):=r.append hd
 have hl:(us++ds).length=ps.length:=by rw[<-r2.length];exact F.len _ _ _ _ h
 refine wpAny_call (codeAny_mono (F.run X.A X.stack s H ⟨us,[]⟩ (us++ds) (vs++dvs) Q E hr I.env0 (hb s us I.kIn hl) r2 h) λr s' hq=>?_)
 cases r with
 |error e=>exact hx ae σ H s e s' I hq
 |ok fl=>
  cases fl with
  |ret u=>exact I.after hq
  |next=>exact False.elim hq
  |brk=>exact False.elim hq
  |cont=>exact False.elim hq
theorem ou(F:FnOk X.prog X.w X.K X.mg X.base CX k f fd ps sp)(hr:Room k X.A)(hg:Gl X x)(hm:X.mg x=some (.ref f))(hk:W.keepIn X.K (.ref f)=true)(hb:Binds X.K fd ps ds)(hd:Vals dvs ds)(hx:qc CX X E)
 (ha:PA X (e::es) t) (hdb:(x==("__debug__":Str))=false:=by decide) (he:starEach (e::es) X.env=(false,eval e X.env)::starEach es X.env:=by rfl) (hpl:(backTo pos (starEach es X.env)).any (·.1)=false:=by rfl):
 PE X (.Call (.Name x p) (e::es) [] pos) (zS sp dvs E t):=by
 intro ae s σ H Q I h;refine wpAny_Call_Name_kw (jq I hg hm ?_ hdb)
 refine W.callWith_K (h₀:=X.base) I.ok.mod.kin hk (cP (ha pos ae s σ H _ I h) λus s1 ⟨vs,H1,I1,r,q⟩=>⟨I1.kIn,?_⟩) he hpl
 exact zc F hr hb hd hx I1 r q
end
structure FnScope(N P:List Str)(sc:Scope):Prop where
 kind:sc.kind=.function
 co:sc.isCoroutine=false
 gen:sc.isGenerator=false
 nd:N.Nodup
 pre:N.take P.length=P
 par: ∀x∈P,sc.names.lookup x=some .local\/sc.names.lookup x=some .cell
 nofree: ∀y∈sc.names,y.2≠ .free
theorem m5 {kindOf:Str->Option NameKind}{x:Str}: ∀ {binds:List (Str×Value)} {m:Str->Option Value},(∀v,(x,v)∉binds)->bindL kindOf binds m x=m x
 | [],_,_=>rfl
 |(n,v)::r,m,h=>by
  unfold bindL;rw[m5 λw hw=>h w (List.mem_cons_of_mem _ hw)]
  split
  ·have:x≠n:=by rintro rfl;exact h v List.mem_cons_self
   simp[this]
  ·rfl
theorem nM {kindOf:Str->Option NameKind}{x:Str}: ∀ {binds:List (Str×Value)} {m:Str->Option Value},(∀v,(x,v)∉binds)->bindC kindOf binds m x=m x
 | [],_,_=>rfl
 |(n,v)::r,m,h=>by
  unfold bindC;rw[nM λw hw=>h w (List.mem_cons_of_mem _ hw)]
  split
  ·rfl
  ·have:x≠n:=by rintro rfl;exact h v List.mem_cons_self
   simp[this]
theorem nv {kindOf:Str->Option NameKind}{x:Str}{v:Value}: ∀ {P:List Str} {vs:List Value} {i:Nat} {m:Str->Option Value},P.Nodup->P[i]? =some x->vs[i]? =some v->kindOf x=some .local->
 bindL kindOf (P.zip vs) m x=some v
 | [],_,_,_,_,h,_,_=>by simp at h
 |_::_,[],_,_,_,_,h,_=>by simp at h
 |p::P,w::vs,0,m,nd,h1,h2,hk=>by
  simp at h1 h2;subst h1;subst h2;show bindL kindOf ((p,w)::P.zip vs) m p=_;unfold bindL;rw[m5 λv hv=>(List.nodup_cons.mp nd).1 (List.of_mem_zip hv).1,if_pos hk]
  simp
 |p::P,w::vs,i+1,m,nd,h1,h2,hk=>by
  show bindL kindOf ((p,w)::P.zip vs) m x=_;unfold bindL;exact nv (i:=i) (List.nodup_cons.mp nd).2 (by simpa using h1) (by simpa using h2) hk
theorem nK {kindOf:Str->Option NameKind}{x:Str}{v:Value}: ∀ {P:List Str} {vs:List Value} {i:Nat} {m:Str->Option Value},P.Nodup->P[i]? =some x->vs[i]? =some v->kindOf x≠some .local->
 bindC kindOf (P.zip vs) m x=some v
 | [],_,_,_,_,h,_,_=>by simp at h
 |_::_,[],_,_,_,_,h,_=>by simp at h
 |p::P,w::vs,0,m,nd,h1,h2,hk=>by
  simp at h1 h2;subst h1;subst h2;show bindC kindOf ((p,w)::P.zip vs) m p=_;unfold bindC;rw[nM λv hv=>(List.nodup_cons.mp nd).1 (List.of_mem_zip hv).1,if_neg hk]
  simp
 |p::P,w::vs,i+1,m,nd,h1,h2,hk=>by
  show bindC kindOf ((p,w)::P.zip vs) m x=_;unfold bindC;exact nK (i:=i) (List.nodup_cons.mp nd).2 (by simpa using h1) (by simpa using h2) hk
def ig(N:List Str)(vs:List V):St:=vs.map some++List.replicate (N.length-vs.length) none
def kR(CX:rg)(P:Program)(w:World)(K:W.Frag)(mg:Str->Option Value)(base:Heap)(N:List Str)(qual:Str)(scope:Scope)(f:Addr)(cd:Value)(A:Around)(outer:List Env)(s:Shared)(H:Hp)(E:XK):Cx where
 prog:=P
 w:=w
 K:=K
 mg:=mg
 base:=base
 A:=A.deeper (envOfC qual scope s.heap.objs.size f cd)
 N:=N
 s₀:=s
 H₀:=H
 env:=envOfC qual scope s.heap.objs.size f cd
 outer:=outer
 stack:=envOfC qual scope s.heap.objs.size f cd::outer
 ex:=[]
 calm:=true
 fn:=λ_=>true
 pn:=[]
 xe:=λe s'=>wpAny (model P w) (A.deeper (envOfC qual scope s.heap.objs.size f cd)) (leaving (envOfC qual scope s.heap.objs.size f cd) e) (λ_ s''=>CX outer H s E e s'') (λe' s''=>CX outer H s E e' s'') s'
theorem pC {sc:Scope}{n:Nat}{x:Str}(h:sc.names.lookup x=some .cell): ∃c,(cellsFrom n sc.names []).lookup x=some c:=by
 have q:=W.cellsFrom_some sc.names n [] (.inl h)
 exact Option.isSome_iff_exists.mp q
theorem sS {CX:rg}{P:Program}{w:World}{K:W.Frag}{mg:Str->Option Value}{base:Heap}{N ps:List Str}{qual:Str}{scope:Scope}{f:Addr}{cd:Value}{A:Around}{outer:List Env}{s s1:Shared}{H:Hp}{E:XK}{us:List Value}{vs:List V}
 (S:FnScope N ps scope) (hd:A.handled=none) (e0:Env0 P w K mg base A outer s H) (hl:vs.length=ps.length) (r:Vals vs us)
 (x:InCallC s s.heap.objs.size (bindL (envOfC qual scope s.heap.objs.size f cd).kindOf (ps.zip us) λ_=>none) (cellsFrom (s.heap.objs.size+1) scope.names []) (bindC (envOfC qual scope s.heap.objs.size f cd).kindOf (ps.zip us) λ_=>none) s1):
 Inv (kR CX P w K mg base N qual scope f cd A outer s H E) [] (ig N vs) H s1:=by
 have hpl:ps.length<=N.length:=by have:=congrArg List.length S.pre;rw[List.length_take] at this;omega
 obtain⟨h1,tk,rfl,hk⟩:=x.done
 have noA: ∀b:Addr,b∉(kR CX P w K mg base N qual scope f cd A outer s H E).ex:=λb z=>absurd (show b∈([]:List Addr) from z) (by simp)
 refine⟨⟨e0.mod,S.kind,rfl,rfl,Nat.le_refl _,λy z c h1 h2=>?_,λy hy=>?_,λy c _ h=>?_,λ_=>hd,Around.frames_deeper e0.frames,.inr ⟨rfl,rfl⟩,λb z=>absurd z (noA b),e0.bs,e0.bsz,λb _ _=>noA b,λb z=>absurd z (noA b),e0.funs,e0.frf⟩,
  rfl,e0.bare,Un.kept hk,⟨_,x.toInCall.ns,λi y v h1 h2 h3=>?_⟩,λy c h=>⟨_,x.cell y c h⟩,e0.hok.fresh (Nat.le_refl _),λy c h=>?_,λp hp=>absurd (show p∈([]:List (Addr×Obj)) from hp) (by simp),e0.hok.kept hk,?_⟩
 ·exact name_of_addr x.apart (PySem.mem_of_lookup h1) (PySem.mem_of_lookup h2)
 ·have hy:scope.names.lookup y=some .cell\/scope.names.lookup y=some .free:=hy
  rcases hy with hy|hy
  ·exact pC hy
  ·exact absurd rfl (S.nofree _ (PySem.mem_of_lookup hy))
 ·exact Nat.le_of_lt (x.above y c (PySem.mem_of_lookup h))
 ·have hi:i<vs.length:=by
   unfold ig at h2
   by_cases hi:i<vs.length
   ·exact hi
   ·rw[List.getElem?_append_right (by simpa using hi)] at h2
    rw[List.getElem?_replicate] at h2;split at h2<;>cases h2
  have ha:vs[i]? =some v:=by
   unfold ig at h2;rw[List.getElem?_append_left (by simpa using hi),List.getElem?_map] at h2
   cases e:vs[i]? with
   |none=>rw[e] at h2;cases h2
   |some a=>rw[e] at h2;cases h2;rfl
  obtain⟨u,hu,rv⟩:=r.get ha
  have hp:ps[i]? =some y:=by
   rw[<-S.pre,List.getElem?_take_of_lt (by omega)];exact h1
  have ndP:ps.Nodup:=by rw[<-S.pre];exact S.nd.sublist (List.take_sublist _ _)
  refine⟨u,rv,?_⟩
  rcases S.par y (List.mem_of_getElem? hp) with k|k
  ·exact .inl ⟨k,nv ndP hp hu k⟩
  ·obtain⟨c,e⟩:=pC (n:=s.heap.objs.size+1) k
   refine .inr ⟨.inl k,c,e,?_⟩
   have q:=x.cell y c e
   rw[nK ndP hp hu (by show scope.names.lookup y≠_;rw[k];decide)] at q
   exact q
 ·exact e0.hok.fresh (Nat.le_of_lt (x.above y c (PySem.mem_of_lookup h)))
 ·unfold ig
  show _=N.length;rw[List.length_append,List.length_map,List.length_replicate];omega
theorem xj {CX:rg}{P:Program}{w:World}{K:W.Frag}{mg:Str->Option Value}{base:Heap}{k:Nat}{f:Addr}{name qual:Str}{params:Arguments}{body:List Stmt}{scope:Scope}{dV kV doc pm cdv ct oc:Value}{an od:Option Addr}
 {osl:Array (Option Value)} {N ps:List Str} {sp:Sp} (lk:K.lookup f=some ⟨oc,od,.func (W.fnOf name qual params body scope dV kV doc pm an cdv ct),osl⟩) (hcd:W.codeIn K cdv qual=true) (S:FnScope N ps scope)
 (len: ∀vs H Q E,sp vs H Q E->vs.length=ps.length)
 (hbody: ∀(A:Around) (outer:List Env) (s:Shared) (H:Hp) (vs:List V) (Q:VK) (E:XK),Room k (A.deeper (envOfC qual scope s.heap.objs.size f cdv))->sp vs H Q E->
   ∃t,PSs (kR CX P w K mg base N qual scope f cdv A outer s H E) body t/\t {nx:=λ_ H'=>Q .non H',rt:=Q} (ig N vs) H):
 FnOk P w K mg base CX (k+1) f (W.fnOf name qual params body scope dV kV doc pm an cdv ct) ps sp:=by
 refine⟨len,λA outer s H args us vs Q E hr e0 hb r hsp=>?_⟩
 have hl:=len _ _ _ _ hsp
 have KX:K.In s.heap:=e0.mod.kin.keeps λb o e=>(e0.bs b o e).1
 have lim:s.heap.NoLimit:=e0.mod.nolimit.keeps λb o e=>(e0.bs b o e).1
 have hkind: ∀y∈ps.zip us,scope.names.lookup y.1=some .local\/(scope.names.lookup y.1=some .cell/\((cellsFrom (s.heap.objs.size+1) scope.names []).lookup y.1).isSome=true):=λ⟨n,v⟩ hy=>by
  rcases S.par n (List.of_mem_zip hy).1 with q|q
  ·exact .inl q
  ·exact .inr ⟨q,W.cellsFrom_some _ _ _ (.inl q)⟩
 refine codeAny_call_function hr.depth (KX _ _ lk) rfl S.co S.gen rfl (W.codeRec_of KX hcd) (hb _ _ _ _ ?_)
 refine wpAny_newFunctionEnv_cells S.kind hkind λenv he s1 x=>?_
 subst he;refine⟨lim.keeps x.toInCall.keep,codeAny_func ?_⟩
 obtain⟨t,ht,hq⟩:=hbody A outer s H vs Q E (hr.deeper _) hsp
 have I:Inv (kR CX P w K mg base N qual scope f cdv A outer s H E) [] (ig N vs) H s1:=sS S hr.hd e0 hl r x
 refine wpAny_mono (ht [] s1 (ig N vs) H _ I hq) (λfl s' hs=>?_) λe s' hs=>hs
 have fin: ∀ {σ':St} {H':Hp} {v:V} {u:Value},Inv (kR CX P w K mg base N qual scope f cdv A outer s H E) [] σ' H' s'->RelV v u->Q v H'->CE outer P w H s Q u s':=
  λ{σ' H' v u} J rv q=>⟨v,H',J.os,J.bare,J.base,J.hok,rv,q⟩
 cases fl with
 |ret u=>
  obtain⟨v,σ',H',J,rv,q⟩:=hs
  exact fin J rv q
 |next=>
  obtain⟨σ',H',J,q⟩:=hs
  exact fin (v:=V.non) (u:=Value.none) J rfl q
 |brk=>
  obtain⟨_,_,_,q⟩:=hs
  exact False.elim q
 |cont=>
  obtain⟨_,_,_,q⟩:=hs
  exact False.elim q
section
variable {X:Cx}{x:Str}{p pos:Pos}{e:Expr}{es:List Expr}{t:TA}{id T:String}{r:List V->Hp->VK->Prop}
def AT(r:List V->Hp->VK->Prop)(t:TA):TE:=λσ H Q=>t σ H λvs H1=>r vs H1 Q
theorem pU(hc:gB X (.builtin id) r)(hg:Gl X x)(hm:X.mg x=none)(hv:bootBuiltins x=some (.builtin id))(ha:PA X (e::es) t)(hn:x≠"__name__":=by decide)(hdb:(x==("__debug__":Str))=false:=by decide)
 (he:starEach (e::es) X.env=(false,eval e X.env)::starEach es X.env:=by rfl) (hpl:(backTo pos (starEach es X.env)).any (·.1)=false:=by rfl):PE X (.Call (.Name x p) (e::es) [] pos) (AT r t):=by
 intro ae s σ H Q I h;refine wpAny_Call_Name_kw (lZ I hg hm hv ?_ hn hdb)
 exact PyProof.Rows.callWith_builtin1 (cP (ha pos ae s σ H _ I h) λus s1 ⟨vs,H1,I1,r1,q1⟩=>hc ae s1 σ H1 vs us Q I1 r1 q1) he hpl
theorem kB(hc:gB X (.type T) r)(hg:Gl X x)(hm:X.mg x=none)(hv:bootBuiltins x=some (.type T))(ha:PA X (e::es) t)(hn:x≠"__name__":=by decide)(hdb:(x==("__debug__":Str))=false:=by decide)
 (he:starEach (e::es) X.env=(false,eval e X.env)::starEach es X.env:=by rfl) (hpl:(backTo pos (starEach es X.env)).any (·.1)=false:=by rfl):PE X (.Call (.Name x p) (e::es) [] pos) (AT r t):=by
 intro ae s σ H Q I h;refine wpAny_Call_Name_kw (lZ I hg hm hv ?_ hn hdb)
 exact PyProof.Rows.callWith_type1 (cP (ha pos ae s σ H _ I h) λus s1 ⟨vs,H1,I1,r1,q1⟩=>hc ae s1 σ H1 vs us Q I1 r1 q1) he hpl
end
end L2
namespace HT
open PySem PyProof.Rows
section
variable {prog:Program}{w:World}{A:Around}{E:Value->Shared->Prop}{s:Shared}
def sIx(n d:Nat):Option Int->Nat
 |none=>d
 |some v=>if v<0 then(v+(n:Int)).toNat else min v.toNat n
theorem y4(n d:Nat)(hd:d<=n)(o:Option Int):sIx n d o<=n:=by
 cases o with
 |none=>exact hd
 |some v=>
  show(if v<0 then(v+(n:Int)).toNat else min v.toNat n)<=n
  by_cases hv:v<0
  ·rw[if_pos hv];omega
  ·rw[if_neg hv];exact Nat.min_le_right _ _
theorem rl(v:Int)(n d:Nat):(if v<0 then max (v+(n:Int)) 0 else min v (n:Int))=((sIx n d (some v):Nat):Int):=by
 show(if v<0 then max (v+(n:Int)) 0 else min v (n:Int))=(((if v<0 then(v+(n:Int)).toNat else min v.toNat n):Nat):Int)
 by_cases hv:v<0
 ·simp only[if_pos hv];omega
 ·simp only[if_neg hv];omega
theorem qG(lo hi:Option Int)(n:Nat):Builtin.Slice.sliceAdjust lo hi 1 (n:Int)=(((sIx n 0 lo:Nat):Int),((sIx n n hi:Nat):Int)):=by
 have h1: ¬((1:Int)<0):=by omega
 unfold Builtin.Slice.sliceAdjust;simp only[h1,if_false];refine Prod.ext ?_ ?_
 ·cases lo with
  |none=>rfl
  |some v=>exact rl v n 0
 ·cases hi with
  |none=>rfl
  |some v=>exact rl v n n
theorem qk(i j:Nat):Builtin.Slice.slicePlaces (i:Int) (j:Int) 1=j-i:=by
 unfold Builtin.Slice.slicePlaces;have h1:(1:Int)>0:=by omega
 simp only[h1,if_true,Int.ediv_one];split<;>omega
theorem me {v:Value}{o:Option Int}{Q:Option Int->Shared->Prop}(p:IsPart v o)(h:Q o s):wpAny (model prog w) A (Builtin.Slice.slicePartIndex v) Q E s:=by
 cases p with
 |none=>exact slicePart_none h
 |int i t=>exact slicePart_int h
theorem kD {sl:Addr}{vl vu:Value}{lo hi:Option Int}{n:Nat}{Q:Int×Int×Nat->Shared->Prop}(hs:s.heap.IsSliceOf sl vl vu .none)(pl:IsPart vl lo)(pu:IsPart vu hi)
 (h:Q (((sIx n 0 lo:Nat):Int),1,sIx n n hi-sIx n 0 lo) s):wpAny (model prog w) A (Builtin.Slice.sliceApplied (.ref sl) (pure (n:Int))) Q E s:=by
 obtain⟨os,hos,hcs,hds⟩:=id hs
 unfold Builtin.Slice.sliceApplied Builtin.Slice.sliceFields;refine wpAny_bind (wpAny_bind (wpAny_field hos hds (x:=vl) rfl (wpAny_bind (wpAny_field hos hds (x:=vu) rfl (wpAny_bind (wpAny_field hos hds (x:=.none) rfl (wpAny_pure ?_)))))))
 refine wpAny_bind (slicePart_none ?_)
 show wpAny _ _ (if((1:Int)==0)=true then _ else _) _ _ s
 rw[if_neg (by decide)]
 refine wpAny_bind (me pl (wpAny_bind (me pu (wpAny_bind (wpAny_pure ?_)))))
 show wpAny _ _ (match Builtin.Slice.sliceAdjust lo hi 1 (n:Int) with|(lo,hi)=>pure (lo,(1:Int),Builtin.Slice.slicePlaces lo hi 1)) _ _ s
 rw[qG lo hi n];show wpAny _ _ (pure (((sIx n 0 lo:Nat):Int),(1:Int),Builtin.Slice.slicePlaces ((sIx n 0 lo:Nat):Int) ((sIx n n hi:Nat):Int) 1)) _ _ s;rw[qk];exact wpAny_pure h
theorem tH(xs:Array Value)(i k:Nat):((List.range k).filterMap λ(m:Nat)=>xs[((i:Int)+(m:Int)*1).toNat]?).toArray=((xs.toList.drop i).take k).toArray:=by
 have e:(λ(m:Nat)=>xs[((i:Int)+(m:Int)*1).toNat]?)=λm=>xs[i+m]? :=by
  funext m;have:((i:Int)+(m:Int)*1).toNat=i+m:=by omega
  rw[this]
 rw[e];have:=pick_run xs i k
 rw[List.filterMap_map] at this;have e2:((λx=>xs[x]?)∘λx=>i+x)=λm=>xs[i+m]? :=rfl
 rw[e2] at this;rw[this]
theorem getItem_tuple_cut {t sl:Addr}{items:Array Value}{vl vu:Value}{lo hi:Option Int}{Q:Value->Shared->Prop}(ht:IsTup s.heap t items)(hs:s.heap.IsSliceOf sl vl vu .none)(pl:IsPart vl lo)(pu:IsPart vu hi)
 (hw: ¬(sIx items.size 0 lo=0/\sIx items.size items.size hi=items.size))
 (h:Q (.ref s.heap.objs.size) {s with heap:=s.heap.push {cls:=.type "tuple",data:=.seq ((items.toList.drop (sIx items.size 0 lo)).take (sIx items.size items.size hi-sIx items.size 0 lo)).toArray}})
 (hsz:items.size<=sizeLine):wpAny (model prog w) A (getItem (.ref t) (.ref sl)) Q E s:=by
 have htake:sizeOk (.seq ((items.toList.drop (sIx items.size 0 lo)).take (sIx items.size items.size hi-sIx items.size 0 lo)).toArray):=by
  show((items.toList.drop (sIx items.size 0 lo)).take (sIx items.size items.size hi-sIx items.size 0 lo)).toArray.size<=sizeLine;rw[List.size_toArray,List.length_take,List.length_drop,Array.length_toList];omega
 have hj:sIx items.size items.size hi<=items.size:=y4 _ _ (Nat.le_refl _) hi
 obtain⟨os,hos,hcs,hds⟩:=id hs
 have hTs:s.TypeIs (.ref sl) "slice":=⟨os,hos,hcs⟩
 unfold getItem
 try with_reducible refine wpAny_holding ?_
 first|refine wpAny_bind (wpAny_pure ?_)|skip
 refine wpAny_bind (wpAny_sequenceKey ht.typeIs (by decide) ?_)
 refine wpAny_bind (wpAny_callSpecial?_slot (name:=Str.ofString "__getitem__") ht.typeIs PyProof.Rows.slot_tuple_getitem
  (wpAny_call_entry PyProof.Rows.slot_tuple_getitem ht.typeIs entry_tuple_getitem ?_ (args_tuple_getitem _ _)))
 show wpAny _ _ (Builtin.Tuple.tupleItemsOf (.ref t)>>=_) _ _ s;refine wpAny_bind (tupleItemsOf_ ht ?_)
 refine wpAny_bind (wpAny_typeOf hTs ?_)
 rw[if_pos (by decide)]
 refine wpAny_bind (kD hs pl pu ?_)
 have hno: ¬((((sIx items.size 0 lo:Nat):Int)==0&&(1:Int)==1&&(sIx items.size items.size hi-sIx items.size 0 lo)==items.size)=true):=by
  intro q;rw[Bool.and_eq_true,Bool.and_eq_true] at q;have q1:((sIx items.size 0 lo:Nat):Int)=0:=eq_of_beq q.1.1
  have q2:sIx items.size items.size hi-sIx items.size 0 lo=items.size:=eq_of_beq q.2
  exact hw ⟨by omega,by omega⟩
 show wpAny _ _ (if(((sIx items.size 0 lo:Nat):Int)==0&&(1:Int)==1&&(sIx items.size items.size hi-sIx items.size 0 lo)==items.size)=true then _ else _) _ _ s
 rw[if_neg hno,tH]
 first
  |exact wpAny_bind (m:=Builtin.Tuple.tupleExact _) (wpAny_newObj_type (wpAny_pure ⟨_,rfl,wpAny_pure h⟩) htake)
  |exact wpAny_bind (m:=Builtin.Tuple.tupleExact _) (wpAny_newObj_type (wpAny_bind (wpAny_pure (wpAny_pure ⟨_,rfl,wpAny_pure h⟩))) htake)
  |exact wpAny_bind (wpAny_bind (m:=Builtin.Tuple.tupleExact _) (wpAny_newObj_type (wpAny_pure (wpAny_pure ⟨_,rfl,wpAny_pure h⟩)) htake))
  |exact wpAny_bind (wpAny_bind (m:=Builtin.Tuple.tupleExact _) (wpAny_newObj_type (wpAny_pure ⟨_,rfl,wpAny_pure h⟩) htake))
end
end HT
namespace L2
open PySem PySem.Spec PyProof.Rows
abbrev TO:=St->Hp->(Option Int->Hp->Prop)->Prop
def PO(X:Cx)(e:Option Expr)(t:TO):Prop:=
 ∀(ae:List (Addr×Obj)) (s:Shared) (σ:St) (H:Hp) (Q:Option Int->Hp->Prop),Inv X ae σ H s->t σ H Q->
  wpAny (model X.prog X.w) X.A (evalPart e X.env) (λu s'=> ∃o H',Inv X ae σ H' s'/\IsPart u o/\Q o H') X.xe s
def ww:TO:=λ_ H Q=>Q none H
def zV(t:TE):TO:=λσ H Q=>t σ H λx H1=> ∃i,x=.int i/\Q (some i) H1
section
variable {X:Cx}{e:Expr}{te:TE}{lo hi:Option Expr}{tl th:TO}{pos p2:Pos}
theorem wL:PO X none ww:=by
 intro ae s σ H Q I h;rw[evalPart_none];exact wpAny_pure ⟨none,H,I,.none,h⟩
theorem vS(h:PE X e te):PO X (some e) (zV te):=by
 intro ae s σ H Q I hw;rw[evalPart_some];refine cP (h ae s σ H _ I hw) λu s1 hq_=>?_
 obtain⟨x,H1,I1,r1,q1⟩:=hq_
 obtain⟨i,rfl,q⟩:=q1
 obtain⟨t,rfl⟩:=r1
 exact⟨some i,H1,I1,.int i t,q⟩
def Bz(X:Cx)(r:V->Option Int->Option Int->Hp->VK->Prop):Prop:=
 ∀(ae:List (Addr×Obj)) (s:Shared) (σ:St) (H:Hp) (x:V) (v vl vu:Value) (lo hi:Option Int) (sl:Addr) (Q:VK),Inv X ae σ H s->RelV x v->s.heap.IsSliceOf sl vl vu .none->IsPart vl lo->IsPart vu hi->r x lo hi H Q->
  ∃T id,typeLookup (.type T) "__getitem__"=pure (some (.builtin id))/\s.TypeIs v T/\wpAny (model X.prog X.w) X.A (getItem v (.ref sl)) (EP X ae σ Q) X.xe s
def BJ(r:V->Option Int->Option Int->Hp->VK->Prop)(te:TE)(tl th:TO):TE:=λσ H Q=>te σ H λx H1=>tl σ H1 λl H2=>th σ H2 λu H3=>r x l u H3 Q
theorem sY {r:V->Option Int->Option Int->Hp->VK->Prop}(hr:Bz X r)(he:PE X e te)(hl:PO X lo tl)(hu:PO X hi th):PE X (.Subscript e (.Slice lo hi none p2) pos) (BJ r te tl th):=by
 intro ae s σ H Q I h;refine Subscript_ (cP (he ae s σ H _ I h) λv s1 hq_=>?_)
 obtain⟨x,H1,I1,r1,q1⟩:=hq_
 refine wpAny_Slice (cP (hl ae s1 σ H1 _ I1 q1) λvl s2 ⟨l,H2,I2,pl,q2⟩=>cP (hu ae s2 σ H2 _ I2 q2) λvu s3 hq_=>?_)
 obtain⟨u,H3,I3,pu,q3⟩:=hq_
 rw[evalPart_none];refine wpAny_pure ?_
 have I4:Inv X ae σ H3 {s3 with heap:=s3.heap.push {cls:=.type "slice",data:=.fields #[vl,vu,.none]}}:=I3.kept (t':=s3.toks) λb ob q=>Heap.get?_push_of_some _ q
 obtain⟨T,id,hT,ht,hg⟩:=hr ae {s3 with heap:=s3.heap.push {cls:=.type "slice",data:=.fields #[vl,vu,.none]}} σ H3 x v vl vu l u s3.heap.objs.size Q I4 r1 (Heap.IsSliceOf.new ..) pl pu q3
 show wpAny (model X.prog X.w) X.A (subscriptTail e (.Slice lo hi none p2) v (.ref s3.heap.objs.size)) (EP X ae σ Q) X.xe {s3 with heap:=s3.heap.push {cls:=.type "slice",data:=.fields #[vl,vu,.none]}}
 exact tail_any (ops:=[.ref s3.heap.objs.size,v]) ht hT hg (by with_unfolding_all rfl)
def sF(xs:List V)(lo hi:Option Int):List V:=(xs.drop (HT.sIx xs.length 0 lo)).take (HT.sIx xs.length xs.length hi-HT.sIx xs.length 0 lo)
theorem pp(xs:List V)(lo hi:Option Int):(sF xs lo hi).length<=xs.length:=by
 unfold sF;rw[List.length_take,List.length_drop];omega
def AM(K:W.Frag):V->Option Int->Option Int->Hp->VK->Prop:=λx lo hi H Q=> ∃a xs,x=.ref a/\SqT K H a xs/\
 ¬(HT.sIx xs.length 0 lo=0/\HT.sIx xs.length xs.length hi=xs.length)/\ ∀p,H p=none->Q (.ref p) (dv H p (.tup (sF xs lo hi)))
theorem yL:Bz X (AM X.K):=by
 intro ae s σ H x v vl vu lo hi sl Q I rx hs pl pu h;obtain⟨a,xs,rfl,hx,hw,q⟩:=h
 cases rx
 obtain⟨its,r,ht,hz⟩:=I.tuple hx
 have hlen:its.toArray.size=xs.length:=by rw[List.size_toArray];exact r.length.symm
 refine⟨"tuple",_,PyProof.Rows.slot_tuple_getitem.lookup,ht.typeIs,?_⟩
 refine HT.getItem_tuple_cut ht hs pl pu (by rw[hlen];exact hw) ?_ (by rw[hlen];exact hz)
 rw[hlen];refine⟨.ref s.heap.objs.size,_,I.laid (t':=s.toks) (o:=.tup (sF xs lo hi)) (λb ob q=>Heap.get?_push_of_some _ q) (Nat.le_refl _) ?_,rfl,q _ (I.hok.fresh (Nat.le_refl _))⟩
 exact⟨Nat.le_trans (pp xs lo hi) hz,_,(r.drop (HT.sIx xs.length 0 lo)).take (HT.sIx xs.length xs.length hi-HT.sIx xs.length 0 lo),IsTup.new _ _,_,Heap.get?_push_size _ rfl,rfl⟩
end
def pX(n:Nat)(i:Int):Option Nat:=if 0<=i then(if i<n then some i.toNat else none) else if -(n:Int)<=i then some (i+n).toNat else none
def nw {α:Type}(xs:List α)(i:Int):Option α:=(pX xs.length i).bind λj=>xs[j]?
theorem oy {n:Nat}{i:Int}{j:Nat}(h:pX n i=some j):seqIndex? i n=some j/\j<n/\ -(n:Int)<=i/\i<n:=by
 unfold pX at h
 by_cases h0:0<=i
 ·rw[if_pos h0] at h
  by_cases h1:i<n
  ·rw[if_pos h1] at h
   have e:i.toNat=j:=Option.some.inj h
   exact⟨by rw[seqIndex_of h0 h1,e],by omega,by omega,h1⟩
  ·rw[if_neg h1] at h;cases h
 ·rw[if_neg h0] at h
  by_cases h1: -(n:Int)<=i
  ·rw[if_pos h1] at h
   have e:(i+n).toNat=j:=Option.some.inj h
   exact⟨by rw[seqIndex_neg (by omega) h1,e],by omega,h1,by omega⟩
  ·rw[if_neg h1] at h;cases h
theorem n5 {α:Type}{xs:List α}{i:Int}{v:α}(h:nw xs i=some v): ∃j,seqIndex? i xs.length=some j/\xs[j]? =some v/\j<xs.length/\ -(xs.length:Int)<=i/\i<xs.length:=by
 unfold nw at h;cases e:pX xs.length i with
 |none=>rw[e] at h;cases h
 |some j=>
  rw[e] at h;obtain⟨h1,h2,h3,h4⟩:=oy e
  exact⟨j,h1,h,h2,h3,h4⟩
theorem wd {α:Type}{xs:List α}{j:Nat}{v:α}(h:xs[j]? =some v):nw xs (j:Int)=some v:=by
 have hj:j<xs.length:=(List.getElem?_eq_some_iff.mp h).1
 have e:pX xs.length (j:Int)=some j:=by
  unfold pX;rw[if_pos (by omega),if_pos (by omega)];simp
 unfold nw;rw[e];exact h
def qZ(b:Expr):Prop:= ∀o i,subscripted b false o i=operate [o,i] (getItem o i)
def IxR(X:Cx)(r:R2):Prop:=
 ∀(value slice:Expr) (ae:List (Addr×Obj)) (s:Shared) (σ:St) (H:Hp) (x y:V) (v u:Value) (Q:VK),Inv X ae σ H s->RelV x v->RelV y u->r x y H Q->
  subscripted slice false v u=operate [v,u] (getItem v u)->wpAny (model X.prog X.w) X.A (subscriptTail value slice v u) (EP X ae σ Q) X.xe s
def Bn(X:Cx)(id:String)(r:V->List V->Hp->VK->Prop):Prop:=
 ∀(ae:List (Addr×Obj)) (s:Shared) (σ:St) (H:Hp) (x:V) (xs:List V) (v:Value) (us:List Value) (Q:VK),Inv X ae σ H s->RelV x v->Vals xs us->r x xs H Q->
  wpAny (model X.prog X.w) X.A (call (.builtin id) (v::us)) (EP X ae σ Q) X.xe s
section
variable {X:Cx}{a b:Expr}{ta tb:TE}{pos:Pos}
theorem IxR.or {r r':R2}(h:IxR X r)(h':IxR X r'):IxR X (λx y H Q=>r x y H Q\/r' x y H Q):=by
 intro value slice ae s σ H x y v u Q I rx ry q hs;rcases q with q|q
 ·exact h value slice ae s σ H x y v u Q I rx ry q hs
 ·exact h' value slice ae s σ H x y v u Q I rx ry q hs
theorem Aa {r:R2}(hr:IxR X r)(ha:PE X a ta)(hb:PE X b tb)(hs:qZ b):PE X (.Subscript a b pos) (zf r ta tb):=by
 intro ae s σ H Q I h;exact Subscript_ (yD ha hb I h λv u s2 x y H2 I2 rx ry q=>hr a b ae s2 σ H2 x y v u Q I2 rx ry q (hs _ _))
def zE(K:W.Frag):R2:=λx y H Q=> ∃p xs i v,x=.ref p/\y=.int i/\SqL K H p xs/\nw xs i=some v/\Q v H
def zo(K:W.Frag):R2:=λx y H Q=> ∃p xs i v,x=.ref p/\y=.int i/\SqT K H p xs/\nw xs i=some v/\Q v H
def zx:R2:=λx y H Q=> ∃z i c,x=.str z/\y=.int i/\z.length<=sizeLine/\nw z.cps.toList i=some c/\Q (.str ⟨#[c]⟩) H
theorem ix_list:IxR X (zE X.K):=by
 intro value slice ae s σ H x y v u Q I rx ry h hs;obtain⟨p,xs,i,z,rfl,rfl,hq,he,q⟩:=h
 cases rx
 obtain⟨t,rfl⟩:=ry
 obtain⟨its,r,pl,hz⟩:=I.list hq
 obtain⟨j,h1,h2,h3,h4,h5⟩:=n5 he
 obtain⟨w,ew,rw'⟩:=r.get h2
 have hl:=r.length
 have hn:=i9
 have fin:EP X ae σ Q w s:=⟨z,H,I,rw',q⟩
 by_cases h0:0<=i
 ·have hj:i.toNat=j:=by
   rw[seqIndex_of h0 h5] at h1;exact Option.some.inj h1
  exact item_listR pl.isList h0 (by omega) (by rw[hj];simpa using ew) fin hs
 ·have hj:(i+(its.toArray.size:Int)).toNat=j:=by
   rw[seqIndex_neg (by omega) h4] at h1
   rw[List.size_toArray,<-hl];exact Option.some.inj h1
  exact subscriptTail_builtinR (x:=w) pl.isList.typeIs slot_list_getitem.lookup
   (wpAny_getItem_list_neg (Q:=λr s'=>r=w/\EP X ae σ Q r s') pl.isList (by omega) (by rw[List.size_toArray]<;>omega) (by omega) (by rw[hj];simpa using ew) ⟨rfl,fin⟩) hs
theorem ix_tup:IxR X (zo X.K):=by
 intro value slice ae s σ H x y v u Q I rx ry h hs;obtain⟨p,xs,i,z,rfl,rfl,hq,he,q⟩:=h
 cases rx
 obtain⟨t,rfl⟩:=ry
 obtain⟨its,r,pl,hz⟩:=I.tuple hq
 obtain⟨j,h1,h2,h3,h4,h5⟩:=n5 he
 obtain⟨w,ew,rw'⟩:=r.get h2
 have hl:=r.length
 have hn:=i9
 have fin:EP X ae σ Q w s:=⟨z,H,I,rw',q⟩
 exact subscriptTail_builtinR (x:=w) pl.typeIs slot_tuple_getitem.lookup
  (getItem_tuple (j:=j) (Q:=λr s'=>r=w/\EP X ae σ Q r s') pl (by omega) (by omega) (by rw[List.size_toArray,<-hl];exact h1) (by simpa using ew) ⟨rfl,fin⟩) hs
theorem xL:IxR X zx:=by
 intro value slice ae s σ H x y v u Q I rx ry h hs;obtain⟨z,i,c,rfl,rfl,hz,he,q⟩:=h
 obtain⟨t,rfl⟩:=rx
 obtain⟨t',rfl⟩:=ry
 obtain⟨j,h1,h2,h3,h4,h5⟩:=n5 he
 have hl:z.cps.toList.length=z.length:=by simp[Str.length]
 rw[hl] at h1 h4 h5;have hn:=i9
 exact tail_any (typeIs_str s z t) slot_str_getitem.lookup (getItem_str (c:=c) (by
  have e1:decide (i< -(2^63:Int))=false:=decide_eq_false (by omega)
  have e2:decide (i≥2^63)=false:=decide_eq_false (by omega)
  rw[e1,e2,Bool.or_false]) (by rw[h1];simpa using h2) ⟨.str ⟨#[c]⟩,H,I.tok _,⟨_,rfl⟩,q⟩) hs
def Bw(K:W.Frag):R2:=λx y H Q=>zE K x y H Q\/zo K x y H Q\/zx x y H Q
theorem ax:IxR X (Bw X.K):=ix_list.or (ix_tup.or xL)
theorem qx(its:List Value)(n j:Nat)(u:Value):Obj.mapSeq (·.setIfInBounds j u) {cls:=.type "list",data:=.seq its.toArray n}={cls:=.type "list",data:=.seq (its.set j u).toArray n}:=by
 simp[Obj.mapSeq]
theorem Inv.lst {ae:List (Addr×Obj)}{σ:St}{H:Hp}{s:Shared}{p:Addr}{xs:List V}(I:Inv X ae σ H s)(h:H p=some (.lst xs)):
 ∃(its:List Value) (n:Nat),Vals xs its/\s.heap.get? p=some {cls:=.type "list",data:=.seq its.toArray n}/\xs.length<=sizeLine:=by
 obtain⟨z,its,n,r,e⟩:=I.hok p _ h
 exact⟨its,n,r,e,z⟩
theorem Inv.lstUpd {ae:List (Addr×Obj)}{σ:St}{H:Hp}{s:Shared}{p:Addr}{xs ys:List V}{its its':List Value}{n n':Nat}{f:Obj->Obj}(I:Inv X ae σ H s)(h:H p=some (.lst xs))
 (ho:s.heap.get? p=some {cls:=.type "list",data:=.seq its.toArray n}) (hf:f {cls:=.type "list",data:=.seq its.toArray n}={cls:=.type "list",data:=.seq its'.toArray n'}) (r:Vals ys its') (hz:ys.length<=sizeLine) (t:Nat):
 Inv X ae σ (dv H p (.lst ys)) {s with heap:=s.heap.update p f,toks:=t}:=by
 have e:(s.heap.update p f).get? p=some {cls:=.type "list",data:=.seq its'.toArray n'}:=by
  rw[Heap.get?_update_self f ho (by rw[hf]<;>rfl),hf]
 refine I.write (x:=p) (e:=p) (by rw[h];trivial) (.inl rfl) (λb u hb q=>(Heap.get?_update_other _ _ (Ne.symm hb)).trans q) ⟨_,e⟩ ?_
 exact⟨hz,its',n',r,e⟩
def zG:V->V->V->Hp->(Hp->Prop)->Prop:=λo i v H Q=> ∃p xs k j,o=.ref p/\i=.int k/\H p=some (.lst xs)/\pX xs.length k=some j/\Q (dv H p (.lst (xs.set j v)))
theorem uV:zM X zG:=by
 intro ae s σ H o i v ov iv u Q I ro ri rv h;obtain⟨p,xs,k,j,rfl,rfl,hp,hj,q⟩:=h
 cases ro
 obtain⟨t,rfl⟩:=ri
 obtain⟨its,n,r,ho,hz⟩:=I.lst hp
 obtain⟨h1,h2,h3,h4⟩:=oy hj
 have hl:=r.length
 have hn:=i9
 have I':Inv X ae σ (dv H p (.lst (xs.set j v))) {s with heap:=s.heap.update p (Obj.mapSeq (·.setIfInBounds j u))}:=
  I.lstUpd hp ho (qx its n j u) (r.set rv j) (by rw[List.length_set];exact hz) s.toks
 by_cases h0:0<=k
 ·have hk:k.toNat=j:=by
   rw[seqIndex_of h0 h4] at h1;exact Option.some.inj h1
  exact W.ki_setAt ho h0 (by omega) (by rw[List.size_toArray,<-hl];exact h4) (by rw[hk];exact⟨_,I',q⟩)
 ·have hk:(k+(its.toArray.size:Int)).toNat=j:=by
   rw[seqIndex_neg (by omega) h3] at h1
   rw[List.size_toArray,<-hl];exact Option.some.inj h1
  exact W.ki_setBack ho (by omega) (by rw[List.size_toArray,<-hl];exact h3) (by omega) (by rw[hk];exact⟨_,I',q⟩)
theorem aS:gB X (.builtin "len") (λxs H Q=> ∃p ys,xs=[.ref p]/\(SqL X.K H p ys\/SqT X.K H p ys)/\Q (.int ys.length) H):=by
 intro ae s σ H xs us Q I r h;obtain⟨p,ys,rfl,hq,q⟩:=h
 obtain⟨u,rfl,rx⟩:=lb r
 cases rx
 have hn:=i9
 rcases hq with hq|hq
 ·obtain⟨its,r',pl,hz⟩:=I.list hq
  have hlen:=r'.length
  exact Calls.call_len_list pl.isList (by simp only[List.size_toArray]<;>omega) ⟨.int ys.length,H,I.tok _,⟨s.toks+1,by rw[List.size_toArray,hlen]⟩,q⟩
 ·obtain⟨its,r',pl,hz⟩:=I.tuple hq
  have hlen:=r'.length
  exact len_tuple pl (by simp only[List.size_toArray]<;>omega) ⟨.int ys.length,H,I.tok _,⟨s.toks+1,by rw[List.size_toArray,hlen]⟩,q⟩
theorem oK:gB X (.type "list") (λxs H Q=> ∃p ys,xs=[.ref p]/\(SqL X.K H p ys\/SqT X.K H p ys)/\ ∀l,H l=none->Q (.ref l) (dv H l (.lst ys))):=by
 intro ae s σ H xs us Q I r h;obtain⟨p,ys,rfl,hq,q⟩:=h
 obtain⟨u,rfl,rx⟩:=lb r
 cases rx
 have fin: ∀(its:List Value),Vals ys its->ys.length<=sizeLine-> ∀(h':Heap) (c':Nat),(∀b o',s.heap.get? b=some o'->h'.get? b=some o')->
  h'.get? s.heap.objs.size=some {cls:=.type "list",dict:=none,data:=.seq its.toArray c',slots:= #[]}->EP X ae σ Q (.ref s.heap.objs.size) {s with heap:=h'}:=λits r' hz h' c' kp e=>
  ⟨.ref s.heap.objs.size,_,I.laid (t':=s.toks) kp (Nat.le_refl _) (show ObjOk X.prog X.w _ h' _ (.lst ys) from⟨hz,its,c',r',e⟩),rfl,q _ (I.hok.fresh (Nat.le_refl _))⟩
 rcases hq with hq|hq
 ·obtain⟨its,r',pl,hz⟩:=I.list hq
  have hlen:=r'.length
  obtain⟨o,ho,hc,n,hd⟩:=pl.isList
  exact call_list_seq p (.inl rfl) ho hc hd (λh' c' kp e=>fin its r' hz h' c' kp e) (by simp only[List.size_toArray]<;>omega)
 ·obtain⟨its,r',pl,hz⟩:=I.tuple hq
  have hlen:=r'.length
  obtain⟨o,ho,hc,n,hd⟩:=pl
  exact call_list_seq p (.inr rfl) ho hc hd (λh' c' kp e=>fin its r' hz h' c' kp e) (by simp only[List.size_toArray]<;>omega)
theorem bD:gB X (.type "tuple") (λxs H Q=> ∃p ys,xs=[.ref p]/\((SqL X.K H p ys/\ ∀l,H l=none->Q (.ref l) (dv H l (.tup ys)))\/(SqT X.K H p ys/\Q (.ref p) H))):=by
 intro ae s σ H xs us Q I r h;obtain⟨p,ys,rfl,h⟩:=h
 obtain⟨u,rfl,rx⟩:=lb r
 cases rx
 rcases h with⟨hq,q⟩|⟨hq,q⟩
 ·obtain⟨its,r',pl,hz⟩:=I.list hq
  have hlen:=r'.length
  refine call_tuple_list pl.isList (λh' kp=>?_) (by simp only[List.size_toArray]<;>omega)
  have I1:Inv X ae σ H {s with heap:=h'}:=I.kept (t':=s.toks) kp
  have I2:Inv X ae σ (dv H h'.objs.size (.tup ys)) {s with heap:=h'.push {cls:=.type "tuple",data:=.seq its.toArray}}:=
   I1.laid (t':=s.toks) (λb o e=>Heap.get?_push_of_some _ e) (Nat.le_refl _) (show ObjOk X.prog X.w _ _ _ (.tup ys) from⟨hz,its,r',IsTup.new _ _,_,Heap.get?_push_size _ rfl,rfl⟩)
  exact⟨.ref h'.objs.size,_,I2,rfl,q _ (I1.hok.fresh (Nat.le_refl _))⟩
 ·obtain⟨its,r',pl,hz⟩:=I.tuple hq
  exact call_tuple_same pl ⟨.ref p,H,I,rfl,q⟩
def Bd(K:W.Frag)(T:String)(x:V)(H:Hp):Prop:=match x with
 | .str _=>T="str"
 | .int _=>T="int"
 | .ref p=>(T="list"/\ ∃xs,SqL K H p xs)\/(T="tuple"/\ ∃xs,SqT K H p xs)\/
    (T="dict"/\((∃kvs,H p=some (.dK kvs))\/ ∃kvs,H p=some (.dT kvs)))\/(T="set"/\ ∃S n,H p=some (.set S n))\/(T="set"/\ ∃xs,H p=some (.tst xs))
 |_=>False
theorem uF {ae:List (Addr×Obj)}{σ:St}{H:Hp}{s:Shared}{T:String}{x:V}{v:Value}(I:Inv X ae σ H s)(r:RelV x v)(ty:Bd X.K T x H):
 s.TypeIs v T/\ ∀a,v=.ref a-> ∃ob,s.heap.get? a=some ob/\ob.dict=none:=by
 cases x with
 |str z=>
  obtain⟨t,rfl⟩:=r
  cases (show T="str" from ty)
  exact⟨typeIs_str s z t,λ_ e=>nomatch e⟩
 |int i=>
  obtain⟨t,rfl⟩:=r
  cases (show T="int" from ty)
  exact⟨typeIs_int s i t,λ_ e=>nomatch e⟩
 |ref p=>
  cases r
  rcases ty with⟨rfl,xs,hq⟩|⟨rfl,xs,hq⟩|⟨rfl,hk⟩|⟨rfl,S,n,hk⟩|⟨rfl,xs,hk⟩
  ·obtain⟨its,_,pl,_⟩:=I.list hq
   refine⟨pl.isList.typeIs,λa e=>?_⟩
   cases e
   obtain⟨o,n,e,c,hd,_⟩:=pl
   exact⟨o,e,hd⟩
  ·obtain⟨⟨ob,ho,hc⟩,o2,h2,hd⟩:=I.tupleN hq
   refine⟨⟨ob,ho,hc⟩,λa e=>?_⟩
   cases e
   exact⟨o2,h2,hd⟩
  ·have z: ∃o,s.heap.get? p=some o/\o.ExactDict:=by
    rcases hk with⟨kvs,hk⟩|⟨kvs,hk⟩
    ·obtain⟨_,_,_,_,o,_,_,e,ex,_⟩:=I.hok p _ hk
     exact⟨o,e,ex⟩
    ·obtain⟨_,_,_,_,o,_,_,e,ex,_⟩:=I.hok p _ hk
     exact⟨o,e,ex⟩
   obtain⟨o,e,ex⟩:=z
   refine⟨⟨o,e,ex.1⟩,λa e2=>?_⟩
   cases e2
   exact⟨o,e,ex.2.1⟩
  ·obtain⟨o,_,_,_,e,ex,_⟩:=I.hok p _ hk
   refine⟨⟨o,e,ex.1⟩,λa e2=>?_⟩
   cases e2
   exact⟨o,e,ex.2.1⟩
  ·obtain⟨o,_,_,_,e,ex⟩:=I.hok p _ hk
   refine⟨⟨o,e,ex.ex.1⟩,λa e2=>?_⟩
   cases e2
   exact⟨o,e,ex.ex.2.1⟩
 |_=>exact False.elim ty
def AO(K:W.Frag)(T:String)(r:V->List V->Hp->VK->Prop)(to:TE):TE:=λσ H Q=>to σ H λx H1=>Bd K T x H1/\r x [] H1 Q
def BN(K:W.Frag)(T:String)(r:V->List V->Hp->VK->Prop)(to:TE)(t:TA):TE:=λσ H Q=>to σ H λx H1=>Bd K T x H1/\t σ H1 λxs H2=>r x xs H2 Q
variable {o e:Expr}{es:List Expr}{to:TE}{t:TA}{name:Str}{apos cpos:Pos}{T id:String}{r:V->List V->Hp->VK->Prop}
theorem yp(pa:PlainAttrs T)(slot:Slot T name id)(hty:typeOf (.builtin id)=pure (.type "method_descriptor"))(hm:Bn X id r)(ho:PE X o to)
 (hbase:attributeBase o name X.env (eval o X.env)=eval o X.env:=by rfl) (hline:(apos.endLine==cpos.line)=true:=by rfl):PE X (.Call (.Attribute o name apos) [] [] cpos) (AO X.K T r to):=by
 intro ae s σ H Q I h;refine wpAny_Call_method0_late hbase hline (cP (ho ae s σ H _ I h) λv s1 hq_=>?_)
 obtain⟨x,H1,I1,r1,ty,q1⟩:=hq_
 obtain⟨h1,h2⟩:=uF I1 r1 ty
 exact⟨T,id,pa,slot,hty,h1,h2,Calls.callWith_builtin rfl (PySem.evalArgs_none (hm ae s1 σ H1 x [] v [] Q I1 r1 .nil q1))⟩
theorem xw(pa:PlainAttrs T)(slot:Slot T name id)(hty:typeOf (.builtin id)=pure (.type "method_descriptor"))(hm:Bn X id r)(ho:PE X o to)(ha:PA X (e::es) t)
 (hbase:attributeBase o name X.env (eval o X.env)=eval o X.env:=by rfl)
 (hfew:((backTo cpos (starEach (e::es) X.env)).all (λx=> !x.1)&&(backToKw cpos (keywordEach [] X.env)).all (λx=>x.1.isSome)
   &&decide ((e::es).length+([]:List Keyword).length+(if([]:List Keyword).isEmpty then 0 else 1)<30))=true:=by rfl)
 (hline:(apos.endLine==cpos.line)=true:=by rfl) (hs:starEach (e::es) X.env=(false,eval e X.env)::starEach es X.env:=by rfl) (hplain:(backTo cpos (starEach es X.env)).any (·.1)=false:=by rfl):
 PE X (.Call (.Attribute o name apos) (e::es) [] cpos) (BN X.K T r to t):=by
 intro ae s σ H Q I h;refine wpAny_Call_method_late hbase hfew hline rfl (cP (ho ae s σ H _ I h) λv s1 hq_=>?_)
 obtain⟨x,H1,I1,r1,ty,q1⟩:=hq_
 obtain⟨h1,h2⟩:=uF I1 r1 ty
 refine⟨T,id,pa,slot,hty,h1,h2,?_⟩
 have hA:=ha cpos ae s1 σ H1 _ I1 q1
 rw[hs] at hA⊢;refine Calls.callWith_builtin (by show(false||(backTo cpos (starEach es X.env)).any (·.1))=false;rw[hplain]<;>rfl) (Calls.evalArgs_plain ?_)
 exact cP hA λus s2 ⟨vs,H2,I2,r2,q2⟩=>hm ae s2 σ H2 x vs v us Q I2 r1 r2 q2
end
def zj(X:Cx)(id:String)(r:V->List V->Hp->VK->Prop):Prop:=
 ∀(ae:List (Addr×Obj)) (s:Shared) (σ:St) (H:Hp) (x:V) (xs:List V) (v:Value) (us:List Value) (Q:VK),Inv X ae σ H s->RelV x v->Vals xs us->r x xs H Q->
  wpAny (model X.prog X.w) X.A (call (.builtin id) (v::us)) (EP X ae σ Q) X.xe s
theorem Vals.one: ∀ {x:V} {us:List Value},Vals [x] us-> ∃u,us=[u]/\RelV x u
 |_,_,.cons r .nil=>⟨_,rfl,r⟩
theorem Vals.zero: ∀ {us:List Value},Vals [] us->us=[]
 |_,.nil=>rfl
theorem Vals.dropLast {xs:List V}{us:List Value}(h:Vals xs us):Vals xs.dropLast us.dropLast:=by
 induction h with
 |nil=>exact .nil
 |cons r t ih=>
  cases t with
  |nil=>exact .nil
  |cons q t'=>exact .cons r ih
theorem Vals.eraseIdx: ∀ {xs:List V} {us:List Value} (i:Nat),Vals xs us->Vals (xs.eraseIdx i) (us.eraseIdx i)
 |_,_,_,.nil=>.nil
 |_,_,0,.cons _ t=>t
 |_,_,i+1,.cons r t=>.cons r (Vals.eraseIdx i t)
theorem qu {α:Type}(l:List α):l.eraseIdx (l.length-1)=l.dropLast:=by
 induction l with
 |nil=>rfl
 |cons a r ih=>
  cases r with
  |nil=>rfl
  |cons b r=>
   have e:(a::b::r).length-1=((b::r).length-1)+1:=by
    have h1:(a::b::r).length=r.length+2:=rfl
    have h2:(b::r).length=r.length+1:=rfl
    omega
   rw[e,List.eraseIdx_cons_succ,ih]
   all_goals rfl
theorem nk {α:Type}: ∀(l:List α) (i:Nat),(l.eraseIdx i).length<=l.length
 | [],_=>Nat.le_refl _
 |_::_,0=>Nat.le_succ _
 |_::r,i+1=>Nat.succ_le_succ (nk r i)
section
variable {X:Cx}{ae:List (Addr×Obj)}{σ:St}{H:Hp}{s:Shared}{l b:Addr}{xs ys zs:List V}
theorem Inv.lset {its its':List Value}{n:Nat}{f:Array Value->Array Value}{t':Nat}(I:Inv X ae σ H s)(hH:H l=some (.lst xs))
 (e:s.heap.get? l=some {cls:=.type "list",data:=.seq its.toArray n}) (hf:f its.toArray=its'.toArray) (hv:Vals ys its') (hz:ys.length<=sizeLine):
 Inv X ae σ (dv H l (.lst ys)) {s with heap:=s.heap.update l (Obj.mapSeq f),toks:=t'}:=by
 have q:=PySem.IsL.update e f
 rw[hf] at q;refine I.write (x:=l) (e:=l) (by rw[hH];exact trivial) (.inl rfl) (λb' u hb hu=>(Heap.get?_update_other s.heap (Obj.mapSeq f) (Ne.symm hb)).trans hu) ⟨_,q⟩ ?_
 exact⟨hz,its',_,hv,q⟩
theorem Inv.lnew {its:List Value}{t':Nat}(I:Inv X ae σ H s)(hv:Vals ys its)(hz:ys.length<=sizeLine):
 Inv X ae σ (dv H s.heap.objs.size (.lst ys)) {s with heap:=s.heap.push {cls:=.type "list",data:=.seq its.toArray},toks:=t'}:=
 I.laid (λ_ _ q=>Heap.get?_push_of_some _ q) (Nat.le_refl _) ⟨hz,its,0,hv,Heap.get?_push_size _ rfl⟩
theorem Inv.fresh(I:Inv X ae σ H s):H s.heap.objs.size=none:=I.hok.fresh (Nat.le_refl _)
theorem Inv.lstM(I:Inv X ae σ H s)(hH:H l=some (.lst xs)):xs.length<=sizeLine/\ ∃(its:List Value) (n:Nat),Vals xs its/\xs.length=its.length/\s.heap.get? l=some {cls:=.type "list",data:=.seq its.toArray n}:=by
 obtain⟨z,its,n,r,e⟩:=I.hok l _ hH
 exact⟨z,its,n,r,r.length,e⟩
end
section
variable {X:Cx}
def qY:V->List V->Hp->VK->Prop:=λx vs H Q=> ∃l xs y,x=.ref l/\vs=[y]/\H l=some (.lst xs)/\xs.length<sizeLine/\Q .non (dv H l (.lst (xs++[y])))
theorem je:zj X "list.append" qY:=by
 intro ae s σ H x vs v us Q I rx rv h;obtain⟨l,xs,y,rfl,rfl,hH,hz,q⟩:=h
 cases rx
 obtain⟨u,rfl,ru⟩:=rv.one
 obtain⟨z,its,n,r,hl,e⟩:=I.lstM hH
 refine call_meets F.slot_list_append ⟨_,e,rfl⟩ F.entry_list_append (F.args_list_append_2 _ _) (PySem.list_append l its.toArray n u (by rw[List.size_toArray];omega)) ⟨e,?_⟩
 refine⟨.non,_,I.lset (its':=its++[u]) hH e (by simp) (r.append (.cons ru .nil)) ?_,rfl,q⟩
 rw[List.length_append,List.length_singleton];omega
def zD:V->List V->Hp->VK->Prop:=λx vs H Q=> ∃l xs y,x=.ref l/\vs=[]/\H l=some (.lst xs)/\xs[xs.length-1]? =some y/\Q y (dv H l (.lst xs.dropLast))
theorem uX:zj X "list.pop" zD:=by
 intro ae s σ H x vs v us Q I rx rv h;obtain⟨l,xs,y,rfl,rfl,hH,hy,q⟩:=h
 cases rx
 have hus:=rv.zero
 subst hus;obtain⟨z,its,n,r,hl,e⟩:=I.lstM hH
 obtain⟨u,hu,ru⟩:=r.get hy
 have hy':its.toArray[its.toArray.size-1]? =some u:=by
  show its.toArray[its.length-1]? =some u;rw[<-Array.getElem?_toList,<-hl];exact hu
 refine call_meets F.slot_list_pop ⟨_,e,rfl⟩ F.entry_list_pop (F.args_list_pop_1 _) (MeetsSeq.list_pop_last l its.toArray n u hy' (by rw[List.size_toArray];omega)) ⟨e,?_⟩
 refine⟨y,_,I.lset (its':=its.dropLast) hH e ?_ r.dropLast ?_,ru,q⟩
 ·show its.toArray.eraseIdxIfInBounds (its.toArray.size-1)=its.dropLast.toArray
  rw[List.size_toArray,List.eraseIdxIfInBounds_toArray,qu]
 ·rw[List.length_dropLast]
  omega
def tJ:V->List V->Hp->VK->Prop:=λx vs H Q=> ∃l xs i k y,x=.ref l/\vs=[.int i]/\H l=some (.lst xs)/\ -(2^63)<=i/\i<2^63/\seqIndex? i xs.length=some k/\xs[k]? =some y/\Q y (dv H l (.lst (xs.eraseIdx k)))
theorem uI:zj X "list.pop" tJ:=by
 intro ae s σ H x vs v us Q I rx rv h;obtain⟨l,xs,i,k,y,rfl,rfl,hH,h1,h2,hk,hy,q⟩:=h
 cases rx
 obtain⟨u,rfl,ru⟩:=rv.one
 obtain⟨t,rfl⟩:=ru
 obtain⟨z,its,n,r,hl,e⟩:=I.lstM hH
 obtain⟨w,hw,rw'⟩:=r.get hy
 refine call_meets F.slot_list_pop ⟨_,e,rfl⟩ F.entry_list_pop (F.args_list_pop_2 _ _)
  (MeetsSeq.list_pop_at l its.toArray n i t k w (fitsIndex_both h1 h2) (by rw[List.size_toArray,<-hl];exact hk) (by rw[<-Array.getElem?_toList];exact hw) (by rw[List.size_toArray];omega)) ⟨e,?_⟩
 refine⟨y,_,I.lset (its':=its.eraseIdx k) hH e ?_ (r.eraseIdx k) ?_,rw',q⟩
 ·show its.toArray.eraseIdxIfInBounds k=(its.eraseIdx k).toArray
  rw[List.eraseIdxIfInBounds_toArray]
 ·have:=nk xs k
  omega
end
end L2
namespace Att
open PySem PySem.W PySem.Calls PyProof.Rows
theorem ln {P:Params}{h:Heap}: ∀(ns:List Int) (vs:List Value),WellAll P h vs (ns.map WData.int)->IntsAre vs ns:=by
 intro ns
 induction ns with
 |nil=>
  intro vs w;rw[List.map_nil] at w;cases w
  exact .nil
 |cons n ns ih=>
  intro vs w;rw[List.map_cons] at w;cases w with
  |cons a b=>
   cases a
   exact .cons _ _ (ih _ b)
theorem sP {l:OpenLaw}{n:Nat}(hn:l.most=some n){P:Params}{h:Heap}{args:List WData}{vals:List Value}
 (hpre:l.row.toRowW.claim.pre args=true) (hwl:WellAll P h vals args):
 ∃a vs ns,vals=[Value.ref a]/\args=[WData.list (ns.map WData.int)]/\h.get? a=some {cls:=.type "list",data:=.seq vs.toArray}/\IntsAre vs ns/\ns.length<=n:=by
 have hsh:WShape.hasAll [] args [.list .int]=true:=(pre_splitW hpre).1
 have hc:l.pre.holds [] {args:=args}=true:=(pre_splitW hpre).2
 obtain⟨d,r,rfl,h1,h2⟩:=hasAllW_cons hsh
 obtain rfl:=hasAllW_nil h2
 obtain⟨xs,rfl,h3⟩:=hasW_list h1
 obtain⟨ns,rfl⟩:=items_int h3
 have hlen:ns.length<=n:=by
  unfold OpenLaw.pre at hc;have h4:(WTm.not (.lt (.lit (.int (n:Int))) (.len (.arg 0)))).holds [] {args:=[.list (ns.map .int)]}=true:=by
   have h4:=(holds_andW hc).1
   rw[hn] at h4;exact h4
  have h5:=condW_of h4 (w_not (w_lt w_lit (w_len_list (w_arg rfl))))
  rw[List.length_map] at h5;refine Nat.le_of_not_lt λq=>?_
  have q':(n:Int)<((ns.length:Nat):Int):=by omega
  first
   |(rw[decide_eq_true q'] at h5;exact absurd h5 (by decide))
   |(simp at h5;omega)
 cases hwl with
 |cons w1 w2=>
  cases w2
  cases w1 with
  |list ho hall=>exact⟨_,_,ns,rfl,rfl,ho,ln ns _ hall,hlen⟩
theorem ss(l:OpenLaw)(args:List WData):l.row.toRowW.claim.post args (.bool true) args=true:=
 postW_of (r:=l.row.toRowW) (X:=(true==true))
  (show WShape.has [] (.bool true) .bool=true by first|rfl|decide|simp[WShape.has,WShape.arms,WShape.armsAll])
  (show(WTm.eq .res (.lit (.bool true))).value [] {args:=args,res:=some (.bool true),after:=args}=some (.bool (true==true)) from w_eq_bool (w_res rfl) w_lit) rfl
theorem attach_call {l:OpenLaw}{n:Nat}{q:Program}{loose:List Str}{XP:(Str->Option Value)->Heap->Prop}{YP:World->Heap->Prop}{d:DefRec}
 (hn:l.most=some n) (hdf:d.params.defaults=[])
 (call: ∀(w:World) (s₀ s₁:Shared) (mg mb:Str->Option Value) (fa:Addr) (o:Obj) (pm cd doc:Value) (a:Addr) (vs:List Value) (ns:List Int),
   Ground q loose [] XP w s₀ mg mb s₁.heap->YP w s₁.heap->
   s₁.heap.get? fa=some o->o.data=.func (docDef d.name d.params d.body d.scope pm cd doc)->s₁.heap.CodeRec cd d.name->mg d.name=some (.ref fa)->
   s₁.heap.get? a=some {cls:=.type "list",data:=.seq vs.toArray}->IntsAre vs ns->ns.length<=n->s₁.gens= #[]->
   codeAny (model l.prog w) callerA (.call (.ref fa) ⟨[.ref a],[]⟩) (λr s'=>r=.ok (.ret (.bool true))/\OldK s₁.heap s'.heap/\s'.os=s₁.os/\AllBare s'.gens) s₁):
 WalkO q loose XP YP l.row.toRowW d [] (λf vs=>PySem.call f vs):=by
 intro w s₀ s₁ mg mb G Y fa o pm cd doc dV kV ho hd hcd hD hmg hg args vals as hpre hlay hrd hwl hlo;obtain rfl:dV=.none:=Dflts.none hD hdf
 obtain rfl:kV=.none:=Dflts.noKw hD
 obtain⟨a,vs,ns,rfl,rfl,hobj,hints,hlen⟩:=sP hn hpre hwl
 refine enter_call (codeAny_mono (call w s₀ s₁ mg mb fa o pm cd doc a vs ns G Y ho (fd_plain hd) hcd hmg hobj hints hlen hg) λr s' hq=>?_)
 obtain⟨rfl,h2,h3,h4⟩:=hq
 exact⟨.inl ⟨.bool true,.bool true,[],rfl,λ_=>rfl,.bool true,ss l _,λ_=>⟨List.Pairwise.nil,λ_ hm=>(nomatch hm)⟩⟩,h2,h3,h4⟩
end Att
namespace L2
open PySem PySem.Spec PyProof.Rows
theorem mZ: ∀ {vs:List Value} {ns:List Int},IntsAre vs ns->Vals (ns.map V.int) vs
 |_,_,.nil=>.nil
 |_,_,.cons n t h=>.cons ⟨t,rfl⟩ (mZ h)
def yk(H:Hp):Prop:= ∀b,H b=none\/ ∃o xs,H b=some (.frz o (.lst xs))
theorem tu {P:Program}{w:World}{K:W.Frag}{mg mb:Str->Option Value}{CX:rg}{k:Nat}{fa a:Addr}{fd:FuncData}{x:Str}{sp:Sp}{s₁:Shared}{vs:List Value}{ns:List Int}
 (KX:K.In s₁.heap) (hns:s₁.heap.Ns mainGlobals mg) (hb:s₁.heap.Ns builtinsNs mb) (hbb: ∀x:Str,x≠"__name__"->mb x=bootBuiltins x) (hlim:s₁.heap.NoLimit) (hg:s₁.gens= #[])
 (ha:s₁.heap.get? a=some {cls:=.type "list",data:=.seq vs.toArray}) (hi:IntsAre vs ns) (hl:ns.length<=sizeLine) (hr:Room k callerA)
 (F: ∀base:Heap,K.In base->base.Ns mainGlobals mg->FnOk P w K mg base CX k fa fd [x] sp) (hbind: ∀(s:Shared) (u:Value),BindsTo s fd ⟨[u],[]⟩ [(x,u)])
 (hsp: ∀H:Hp,yk H->SqL K H a (ns.map V.int)->sp [.ref a] H (λv _=>v=.bl true) λ_ _ _=>False)
 (hCX: ∀H e s',CX [] H s₁ (λ_ _ _=>False) e s'->False):
 codeAny (model P w) callerA (.call (.ref fa) ⟨[.ref a],[]⟩) (λr s'=>r=.ok (.ret (.bool true))/\OldK s₁.heap s'.heap/\s'.os=s₁.os/\AllBare s'.gens) s₁:=by
 have rv:=mZ hi
 have lenV:=hi.length
 have core: ∀H:Hp,yk H->SqL K H a (ns.map V.int)->HOk P w H s₁.heap->(∀b,H b≠none->b=a)->(H a≠none->K.lookup a=none)->
  codeAny (model P w) callerA (.call (.ref fa) ⟨[.ref a],[]⟩) (λr s'=>r=.ok (.ret (.bool true))/\OldK s₁.heap s'.heap/\s'.os=s₁.os/\AllBare s'.gens) s₁:=by
  intro H hO hS hok hA hK;have base_of: ∀ {b:Addr} {o:Obj},s₁.heap.get? b=some o->H b=none->(oQ s₁.heap H).get? b=some o:=λe n=>vf e n
  have noA: ∀ {b:Addr} {o:Obj} {es:Array DictEntry} {ep:Nat},s₁.heap.get? b=some o->o.data=.dict es ep->H b=none:=λ{b o es ep} e d=>by
   cases q:H b with
   |none=>rfl
   |some u=>
    have e':b=a:=hA b (by rw[q];simp)
    subst e';rw[ha] at e;cases e;have d':Data.seq vs.toArray _=Data.dict es ep:=d
    cases d'
  have nsK: ∀ {b:Addr} {m:Str->Option Value},s₁.heap.Ns b m->(oQ s₁.heap H).Ns b m:=λ{b m} ⟨o,es,ep,e,d,r⟩=>⟨o,es,ep,base_of e (noA e d),d,r⟩
  have hKb:K.In (oQ s₁.heap H):=λb o e=>base_of (KX b o e) (by
   cases q:H b with
   |none=>rfl
   |some u=>
    have e':b=a:=hA b (by rw[q];simp)
    subst e';rw[hK (by rw[q];simp)] at e;cases e)
  have hM:Mod K mg (oQ s₁.heap H):=⟨hKb,nsK hns,⟨mb,nsK hb,hbb⟩,let⟨mc,h1,h2⟩:=hlim;⟨mc,nsK h1,h2⟩⟩
  have e0:Env0 P w K mg (oQ s₁.heap H) callerA [] s₁ H:=⟨rfl,hM,λb o e=>xf e,Nat.le_of_eq (r9 _ _),trivial,λb hb=>absurd (show b∈([]:List Addr) from hb) (by simp),hok,.of_eq hg⟩
  refine codeAny_mono ((F _ hKb (nsK hns)).run callerA [] s₁ H ⟨[.ref a],[]⟩ [.ref a] [.ref a] _ _ hr e0 (hbind s₁ (.ref a)) (.cons rfl .nil) (hsp H hO hS)) λr s' h=>?_
  cases r with
  |error e=>exact(hCX H e s' h).elim
  |ok fl=>
   cases fl with
   |next=>exact False.elim h
   |brk=>exact False.elim h
   |cont=>exact False.elim h
   |ret u=>
    obtain⟨v,H',os,bare,un,hok',r',q⟩:=h
    have q':v=.bl true:=q
    subst q';obtain rfl:u=Value.bool true:=r'
    refine⟨rfl,OldK.of_keep λb o e=>?_,os,bare⟩
    cases q:H b with
    |none=>exact un.keep b o e q (by intro z;exact absurd (show b∈([]:List Addr) from z) (by simp)) (by simp)
    |some u=>
     rcases hO b with z|⟨ob,xs,z⟩
     ·rw[q] at z;cases z
     ·have z2:=un.frzs b ob _ z
      obtain⟨e1,_⟩:=hok b _ z
      obtain⟨e2,_⟩:=hok' b _ z2
      rw[e] at e1;cases e1;exact e2
 cases hk:K.lookup a with
 |some o=>
  have e:=KX a o hk
  rw[ha] at e;cases e
  refine core (λ_=>none) (λ_=>.inl rfl) (.inr ⟨_,vs.toArray,_,hk,rfl,rfl,rfl,by rw[List.size_toArray,lenV];exact hl,by simpa using rv⟩) (λb u z=>by have z':(none:Option HO)=some u:=z;cases z') (λb z=>absurd rfl z) λz=>absurd rfl z
 |none=>
  refine core (λb=>if b=a then some (.frz {cls:=.type "list",data:=.seq vs.toArray} (.lst (ns.map V.int))) else none) (λb=>?_) (.inl (.inr ⟨{cls:=.type "list",data:=.seq vs.toArray},if_pos rfl⟩)) (λb u z=>?_) (λb z=>?_) λ_=>hk
  ·by_cases hb:b=a
   ·exact .inr ⟨_,_,if_pos hb⟩
   ·exact .inl (if_neg hb)
  ·by_cases hb:b=a
   ·have z':=(if_pos hb).symm.trans z
    cases z'
    subst hb;exact⟨ha,by rw[List.length_map];exact hl,vs,_,rv,ha⟩
   ·have z':=(if_neg hb).symm.trans z
    cases z'
  ·by_cases hb:b=a
   ·exact hb
   ·exact absurd (if_neg hb) z
theorem walk_of {l:W.OpenLaw}{n k:Nat}{q:Program}{loose:List Str}{XP:(Str->Option Value)->Heap->Prop}{YP:World->Heap->Prop}{d:DefRec}{K:Params->W.Frag}{CX:World->rg}{sp:World->Sp}{x:Str}
 (hn:l.most=some n) (hn2:n<=sizeLine) (hdf:d.params.defaults=[]) (hr:Room k callerA)
 (hY: ∀(w:World) (h:Heap),YP w h->(K w.params).In h)
 (F: ∀(w:World) (mg:Str->Option Value) (fa:Addr) (h:Heap),(K w.params).In h->h.Ns mainGlobals mg->mg d.name=some (.ref fa)->
   ∃fd:FuncData,(∀(s:Shared) (u:Value),BindsTo s fd ⟨[u],[]⟩ [(x,u)])/\
    ∀base:Heap,(K w.params).In base->base.Ns mainGlobals mg->FnOk l.prog w (K w.params) mg base (CX w) k fa fd [x] (sp w))
 (hsp: ∀(w:World) (H:Hp) (a:Addr) (ns:List Int),ns.length<=n->yk H->SqL (K w.params) H a (ns.map V.int)->sp w [.ref a] H (λv _=>v=.bl true) λ_ _ _=>False)
 (hCX: ∀(w:World) (H:Hp) (s:Shared) (e:Value) (s':Shared),CX w [] H s (λ_ _ _=>False) e s'->False):
 W.WalkO q loose XP YP l.row.toRowW d [] (λf vs=>PySem.call f vs):=by
 refine Att.attach_call hn hdf λw s₀ s₁ mg mb fa o pm cd doc a vs ns G Y ho hd hcd hmg hobj hints hlen hg=>?_
 have KX:=hY w _ Y
 obtain⟨fd,hb,hF⟩:=F w mg fa _ KX G.T.g hmg
 exact tu KX G.T.g G.T.b G.T.builtins G.T.nolimit hg hobj hints (Nat.le_trans hlen hn2) hr hF hb (λH hO hS=>hsp w H a ns hlen hO hS) λH e s'=>hCX w H s₁ e s'
def aP(s:Stmt):Arguments:=match s with
 | .FunctionDef _ a _ _ _ _ _ _ _ _=>a
 |_=>{posonlyargs:=[],args:=[],vararg:=none,kwonlyargs:=[],kw_defaults:=[],kwarg:=none,defaults:=[]}
def aG(s:Stmt):List Stmt:=match s with
 | .FunctionDef _ _ b _ _ _ _ _ _ _=>b
 |_=>[]
def ak(s:Stmt):Scope:=match s with
 | .FunctionDef _ _ _ _ _ _ sc _ _ _=>sc
 |_=>{kind:=.function,names:=[],isGenerator:=false,isCoroutine:=false}
abbrev oV:rg:=λ_ _ _ _ _ _=>False
abbrev E0:XK:=λ_ _ _=>False
theorem tw {X:Cx}:qc oV X E0:=λ_ _ _ _ _ _ _ h=>h.elim
structure Fun(K:W.Frag)(x qual:Str)(st:Stmt)(f:Addr)(fd:FuncData):Prop where
 ex: ∃(oc:Value) (od:Option Addr) (kV doc pm:Value) (an:Option Addr) (cdv ct:Value) (osl:Array (Option Value)),
  fd=W.fnOf x qual (aP st) (aG st) (ak st) .none kV doc pm an cdv ct/\K.lookup f=some ⟨oc,od,.func fd,osl⟩/\W.codeIn K cdv qual=true
 kp:W.keepIn K (.ref f)=true
section
variable {P:Program}{w:World}{K:W.Frag}{mg:Str->Option Value}{base:Heap}
theorem Fun.ok {x qual:Str}{st:Stmt}{f:Addr}{fd:FuncData}{N ps:List Str}{k:Nat}{sp:Sp}(F:Fun K x qual st f fd)(S:FnScope N ps (ak st))(len: ∀vs H Q E,sp vs H Q E->vs.length=ps.length)
 (hbody: ∀(cdv:Value) (A:Around) (outer:List Env) (s:Shared) (H:Hp) (vs:List V) (Q:VK) (E:XK),Room k (A.deeper (envOfC qual (ak st) s.heap.objs.size f cdv))->sp vs H Q E->
   ∃t,PSs (kR oV P w K mg base N qual (ak st) f cdv A outer s H E).nox (aG st) t/\t {nx:=λ_ H'=>Q .non H',rt:=Q} (ig N vs) H):FnOk P w K mg base oV (k+1) f fd ps sp:=by
 obtain⟨oc,od,kV,doc,pm,an,cdv,ct,osl,rfl,lk,hcd⟩:=F.ex
 refine xj lk hcd S len λA outer s H vs Q E hr hsp=>?_
 obtain⟨t,h,q⟩:=hbody cdv A outer s H vs Q E hr hsp
 exact⟨t,h.nox,q⟩
theorem Fun.binds {x qual:Str}{st:Stmt}{f:Addr}{fd:FuncData}{ps:List Str}(F:Fun K x qual st f fd)
 (h: ∀(kV doc pm:Value) (an:Option Addr) (cdv ct:Value) (us:List Value),us.length=ps.length->bindArgs (W.fnOf x qual (aP st) (aG st) (ak st) .none kV doc pm an cdv ct) ⟨us,[]⟩=pure (ps.zip us)):Binds K fd ps []:=by
 obtain⟨oc,od,kV,doc,pm,an,cdv,ct,osl,rfl,lk,hcd⟩:=F.ex
 exact .all (h kV doc pm an cdv ct)
theorem bi {x qual:Str}{st:Stmt}{f:Addr}{oc:Value}{od an:Option Addr}{osl:Array (Option Value)}{kV doc pm cdv ct:Value}(l:K.lookup f=some ⟨oc,od,.func (W.fnOf x qual (aP st) (aG st) (ak st) .none kV doc pm an cdv ct),osl⟩)
 (c:W.codeIn K cdv qual=true) (k:W.keepIn K (.ref f)=true):Fun K x qual st f (W.fnOf x qual (aP st) (aG st) (ak st) .none kV doc pm an cdv ct):=⟨⟨oc,od,kV,doc,pm,an,cdv,ct,osl,rfl,l,c⟩,k⟩
end
theorem ky {n:Nat}(h:n<=1000):n<sizeLine:=Nat.lt_of_le_of_lt h (by decide)
section
variable {X:Cx}
theorem pv(i:Nat){x:Str}{pos:Pos}(hN:X.N[i]? =some x:=by rfl)(hv:tX X.env.scope x:=by first|exact Or.inl rfl|exact Or.inr (Or.inl rfl)|exact Or.inr (Or.inr rfl))(hd:(x==("__debug__":Str))=false:=by decide)
 (hcd:(x==("__classdict__":Str))=false:=by decide):PE X (.Name x pos) (z0 i):=yU hN hv hd hcd
end
theorem om {A B:Prop}(h:B):if false=true then A else B:=by
 rw[if_neg Bool.false_ne_true];exact h
theorem nW {A B:Prop}(h:A):if true=true then A else B:=by
 rw[if_pos rfl];exact h
def Same(H H':Hp):Prop:= ∀b o,H b=some o->H' b=some o
theorem Same.refl(H:Hp):Same H H:=λ_ _ h=>h
theorem Same.trans {H H1 H2:Hp}(a:Same H H1)(b:Same H1 H2):Same H H2:=λc o h=>b c o (a c o h)
theorem Same.free {H H':Hp}(e:Same H H'){l:Addr}(h:H' l=Option.none):H l=Option.none:=by
 cases q:H l with
 |none=>rfl
 |some o=>
  rw[e l o q] at h;cases h
theorem Same.seq {K:W.Frag}{H H':Hp}{a:Addr}{xs:List V}(e:Same H H')(h:SqL K H a xs):SqL K H' a xs:=by
 rcases h with(h|⟨o,h⟩)|h
 ·exact .inl (.inl (e _ _ h))
 ·exact .inl (.inr ⟨o,e _ _ h⟩)
 ·exact .inr h
inductive D where
 |non|bl (b:Bool)|int (i:Int)|str (x:Str)|tup (ds:List D)|lst (ds:List D)
 |scr (ds:List D)
def SqR(K:W.Frag)(H:Hp)(a:Addr)(xs:List V):Prop:=
 (∃o,H a=some (.frz o (.lst xs)))\/
   ∃(o:Obj) (its:Array Value) (n:Nat),K.lookup a=some o/\o.cls=.type "list"/\o.dict=none/\o.data=.seq its n/\its.size<=sizeLine/\Vals xs its.toList
theorem SqR.seq {K:W.Frag}{H:Hp}{a:Addr}{xs:List V}(h:SqR K H a xs):SqL K H a xs:=h.elim (λh=>.inl (.inr h)) .inr
theorem Same.seqR {K:W.Frag}{H H':Hp}{a:Addr}{xs:List V}(e:Same H H')(h:SqR K H a xs):SqR K H' a xs:=h.elim (λ⟨o,h⟩=>.inl ⟨o,e _ _ h⟩) .inr
mutual
inductive Rep (K:W.Frag) (F:Hp):V->D->Prop
 |non:Rep K F .non .non
 |bl {b:Bool}:Rep K F (.bl b) (.bl b)
 |int {i:Int}:Rep K F (.int i) (.int i)
 |str {x:Str}:Rep K F (.str x) (.str x)
 |tup {a:Addr} {xs:List V} {ds:List D}:SqT K F a xs->Reps K F xs ds->Rep K F (.ref a) (.tup ds)
 |lst {a:Addr} {xs:List V} {ds:List D}:F a=some (.lst xs)->Reps K F xs ds->Rep K F (.ref a) (.lst ds)
 |scr {a:Addr} {xs:List V} {ds:List D}:SqR K F a xs->Reps K F xs ds->Rep K F (.ref a) (.scr ds)
inductive Reps (K:W.Frag) (F:Hp):List V->List D->Prop
 |nil:Reps K F [] []
 |cons {x:V} {d:D} {xs:List V} {ds:List D}:Rep K F x d->Reps K F xs ds->Reps K F (x::xs) (d::ds)
end
theorem Same.seqT {K:W.Frag}{H H':Hp}{a:Addr}{xs:List V}(e:Same H H')(h:SqT K H a xs):SqT K H' a xs:=by
 rcases h with(h|⟨o,h⟩)|h
 ·exact .inl (.inl (e _ _ h))
 ·exact .inl (.inr ⟨o,e _ _ h⟩)
 ·exact .inr h
mutual
theorem Rep.mono {K:W.Frag}{F G:Hp}(s:Same F G): ∀ {v:V} {d:D},Rep K F v d->Rep K G v d
 |_,_,.non=>.non
 |_,_,.bl=>.bl
 |_,_,.int=>.int
 |_,_,.str=>.str
 |_,_,.tup h r=>.tup (Same.seqT s h) (Reps.mono s r)
 |_,_,.lst h r=>.lst (s _ _ h) (Reps.mono s r)
 |_,_,.scr h r=>.scr (Same.seqR s h) (Reps.mono s r)
theorem Reps.mono {K:W.Frag}{F G:Hp}(s:Same F G): ∀ {v:List V} {d:List D},Reps K F v d->Reps K G v d
 |_,_,.nil=>.nil
 |_,_,.cons r t=>.cons (Rep.mono s r) (Reps.mono s t)
end
section
variable {K:W.Frag}{F G H:Hp}
theorem Reps.length: ∀ {xs:List V} {ds:List D},Reps K F xs ds->xs.length=ds.length
 |_,_,.nil=>rfl
 |_,_,.cons _ t=>by simp[t.length]
theorem Reps.get: ∀ {xs:List V} {ds:List D} {i:Nat} {d:D},Reps K F xs ds->ds[i]? =some d-> ∃x,xs[i]? =some x/\Rep K F x d
 |_,_,_,_,.nil,e=>by simp at e
 |_,_,0,_,.cons r _,e=>by simp at e;subst e;exact⟨_,rfl,r⟩
 |_,_,i+1,d,.cons _ t,e=>by
  obtain⟨u,h1,h2⟩:=Reps.get (i:=i) (d:=d) t (by simpa using e)
  exact⟨u,by simpa using h1,h2⟩
theorem Reps.get' {xs:List V}{ds:List D}{i:Nat}{x:V}(r:Reps K F xs ds)(e:xs[i]? =some x): ∃d,ds[i]? =some d/\Rep K F x d:=by
 have hl:=r.length
 have hi:=(List.getElem?_eq_some_iff.mp e).1
 have e2:ds[i]? =some ds[i]:=List.getElem?_eq_getElem (by omega)
 obtain⟨y,h1,h2⟩:=r.get e2
 rw[e] at h1;cases h1;exact⟨_,e2,h2⟩
theorem Reps.append: ∀ {xs ys:List V} {us ws:List D},Reps K F xs us->Reps K F ys ws->Reps K F (xs++ys) (us++ws)
 |_,_,_,_,.nil,s=>s
 |_,_,_,_,.cons r t,s=>.cons r (Reps.append t s)
theorem Reps.set {x:V}{u:D}(r:Rep K F x u): ∀ {xs:List V} {us:List D} (i:Nat),Reps K F xs us->Reps K F (xs.set i x) (us.set i u)
 |_,_,_,.nil=>.nil
 |_,_,0,.cons _ t=>.cons r t
 |_,_,i+1,.cons q t=>.cons q (Reps.set r i t)
theorem Reps.eraseIdx: ∀ {xs:List V} {us:List D} (i:Nat),Reps K F xs us->Reps K F (xs.eraseIdx i) (us.eraseIdx i)
 |_,_,_,.nil=>.nil
 |_,_,0,.cons _ t=>t
 |_,_,i+1,.cons q t=>.cons q (Reps.eraseIdx i t)
theorem Reps.take: ∀ {xs:List V} {us:List D} (n:Nat),Reps K F xs us->Reps K F (xs.take n) (us.take n)
 |_,_,0,_=>.nil
 |_,_,_+1,.nil=>.nil
 |_,_,n+1,.cons r t=>.cons r (Reps.take n t)
theorem Reps.drop: ∀ {xs:List V} {us:List D} (n:Nat),Reps K F xs us->Reps K F (xs.drop n) (us.drop n)
 |_,_,0,r=>r
 |_,_,_+1,.nil=>.nil
 |_,_,n+1,.cons _ t=>Reps.drop n t
end
abbrev cn:=Addr->Bool
def vw(H:Hp)(hid:cn):Hp:=λb=>if hid b=true then none else H b
def cU(hid:cn)(a:Addr):cn:=λb=>hid b||decide (b=a)
theorem vw_some {H:Hp}{hid:cn}{b:Addr}{o:HO}:vw H hid b=some o↔hid b=false/\H b=some o:=by
 unfold vw;cases hb:hid b<;>simp
theorem fH(H:Hp)(hid:cn):Same (vw H hid) H:=λb o h=>(vw_some.mp h).2
theorem bc {H H':Hp}{hid:cn}(s:Same H H'):Same (vw H hid) (vw H' hid):=λb o h=>vw_some.mpr ⟨(vw_some.mp h).1,s _ _ (vw_some.mp h).2⟩
theorem rj {H H':Hp}{hid:cn}(s: ∀b o,H b=some o->hid b=false->H' b=some o):Same (vw H hid) (vw H' hid):=λb o h=>vw_some.mpr ⟨(vw_some.mp h).1,s _ _ (vw_some.mp h).2 (vw_some.mp h).1⟩
theorem i5 {H:Hp}{hid:cn}{a:Addr}{o:HO}(h:hid a=true):vw (dv H a o) hid=vw H hid:=by
 funext b;unfold vw dv
 by_cases e:b=a
 ·subst e;simp[h]
 ·simp[e]
theorem iN {H:Hp}{hid hid':cn}(h: ∀b,hid' b=true->hid b=true):Same (vw H hid) (vw H hid'):=λb o q=>by
 obtain⟨q1,q2⟩:=vw_some.mp q
 refine vw_some.mpr ⟨?_,q2⟩
 cases e:hid' b with
 |false=>rfl
 |true=>rw[h b e] at q1;cases q1
theorem uL {H:Hp}{hid:cn}{a:Addr}{o:HO}(h:H a=none):vw (dv H a o) (cU hid a)=vw H hid:=by
 funext b;unfold vw dv cU
 by_cases e:b=a
 ·subst e
  cases hb:hid b<;>simp[h]
 ·simp[e]
inductive Ob where
 |exc (x:Str) (n:Int)
 |dK (kvs:List (mF×D))
 |dT (kvs:List (List mF×D))
 |set (ds:List D)
 |old (d:D)
 |jnk
 |tset (ks:List (List Int))
 |dF (kvs:List (List mF×D))
inductive Sl where
 |no
 |v (d:D)
 |own (ds:List D)
 |arg (ds:List D)
 |ob (b:Ob)
abbrev aL:=List Sl
structure Ct where
 H₀:Hp
 hid₀:cn
 mu:Addr->Bool
def pR(K:W.Frag)(x:Str)(n:Int)(a:Addr)(h:Heap):Prop:= ∃C o,W.nsIn K mainGlobals x=some (some (.ref C))/\h.get? a=some o/\o.cls=.ref C/\o.dict=none/\W.notCls o=true
def Af:Option HO->Bool
 |some (.lst _)=>true
 |_=>false
def fv(c:Ct)(F:Hp):Hp:=λb=>if(c.H₀ b).isSome=true/\Af (F b)=true then none else F b
def ov(c:Ct)(F:Hp):Hp:=λb=>if(c.H₀ b).isSome=true then F b else none
theorem fv_some {c:Ct}{F:Hp}{b:Addr}{o:HO}:fv c F b=some o↔(Af (some o)=true->c.H₀ b=none)/\F b=some o:=by
 unfold fv;constructor
 ·intro h
  split at h
  ·cases h
  ·rename_i hn
   refine⟨λq=>?_,h⟩
   rw[h] at hn;cases hb:c.H₀ b with
   |none=>rfl
   |some u=>exact absurd ⟨by rw[hb];rfl,q⟩ hn
 ·rintro⟨h1,h2⟩
  rw[if_neg,h2]
  rintro⟨q1,q2⟩
  rw[h2] at q2;rw[h1 q2] at q1;cases q1
theorem ov_some {c:Ct}{F:Hp}{b:Addr}{o:HO}:ov c F b=some o↔(∃u,c.H₀ b=some u)/\F b=some o:=by
 unfold ov;cases hb:c.H₀ b<;>simp
theorem wr {c:Ct}{F G:Hp}(s:Same F G):Same (fv c F) (fv c G):=λb o h=>fv_some.mpr ⟨(fv_some.mp h).1,s _ _ (fv_some.mp h).2⟩
theorem v9 {c:Ct}{F G:Hp}(s:Same F G):Same (ov c F) (ov c G):=λb o h=>ov_some.mpr ⟨(ov_some.mp h).1,s _ _ (ov_some.mp h).2⟩
def ObOk(K:W.Frag)(c:Ct)(hid:cn)(H:Hp)(a:Addr):Ob->Prop
 | .exc x n=> ∃φ,vw H hid a=some (.ext φ)/\ ∀h,φ h->pR K x n a h
 | .dK kvs=>(hid a=true/\c.H₀ a=none)/\ ∃us:List (mF×V),H a=some (.dK us)/\us.map (·.1)=kvs.map (·.1)/\Reps K (vw H hid) (us.map (·.2)) (kvs.map (·.2))
 | .dT kvs=>(hid a=true/\c.H₀ a=none)/\ ∃us:List (List mF×V),H a=some (.dT us)/\us.map (·.1)=kvs.map (·.1)/\Reps K (vw H hid) (us.map (·.2)) (kvs.map (·.2))
 | .set ds=>(hid a=true/\c.H₀ a=none)/\ ∃xs:List V,H a=some (.lst xs)/\Reps K (fv c (vw H hid)) xs ds
 | .old d=>Rep K (ov c (vw H hid)) (.ref a) d
 | .jnk=>(hid a=true/\c.H₀ a=none)/\ ∃xs:List V,H a=some (.lst xs)
 | .tset ks=>(hid a=true/\c.H₀ a=none)/\ ∃xs:List (List Int×Addr),H a=some (.tst xs)/\(xs.map (·.1)).Perm ks/\Reps K (vw H hid) (xs.map λx=>V.ref x.2) (xs.map λx=>D.tup (x.1.map D.int))
 | .dF kvs=>(hid a=true/\c.H₀ a=none)/\ ∃(o:Obj) (us:List (List mF×V)),H a=some (.frz o (.dT us))/\us.map (·.1)=kvs.map (·.1)/\Reps K (vw H hid) (us.map (·.2)) (kvs.map (·.2))
def vx:Ob->Prop
 | .exc _ _=>False
 | .old _=>False
 |_=>True
theorem ObOk.mono {K:W.Frag}{c:Ct}{hid hid':cn}{H H':Hp}{a:Addr}{b:Ob}(h:ObOk K c hid H a b)(k:vx b-> ∀o,H a=some o->H' a=some o)(s:Same (vw H hid) (vw H' hid'))(w:vx b->hid a=true->hid' a=true):ObOk K c hid' H' a b:=by
 cases b with
 |exc x n=>obtain⟨φ,h1,h2⟩:=h;exact⟨φ,s _ _ h1,h2⟩
 |dK kvs=>obtain⟨h1,us,h2,h3,h4⟩:=h;exact⟨⟨w trivial h1.1,h1.2⟩,us,k trivial _ h2,h3,h4.mono s⟩
 |dT kvs=>obtain⟨h1,us,h2,h3,h4⟩:=h;exact⟨⟨w trivial h1.1,h1.2⟩,us,k trivial _ h2,h3,h4.mono s⟩
 |set ds=>obtain⟨h1,us,h2,h3⟩:=h;exact⟨⟨w trivial h1.1,h1.2⟩,us,k trivial _ h2,h3.mono (wr s)⟩
 |old d=>exact Rep.mono (v9 s) h
 |jnk=>obtain⟨h1,us,h2⟩:=h;exact⟨⟨w trivial h1.1,h1.2⟩,us,k trivial _ h2⟩
 |tset ks=>obtain⟨h1,us,h2,h3,h4⟩:=h;exact⟨⟨w trivial h1.1,h1.2⟩,us,k trivial _ h2,h3,h4.mono s⟩
 |dF kvs=>obtain⟨h1,o,us,h2,h3,h4⟩:=h;exact⟨⟨w trivial h1.1,h1.2⟩,o,us,k trivial _ h2,h3,h4.mono s⟩
theorem ObOk.hid {K:W.Frag}{c:Ct}{hid:cn}{H:Hp}{a:Addr}{b:Ob}(h:ObOk K c hid H a b)(o:vx b):hid a=true:=by
 cases b with
 |exc x n=>exact o.elim
 |dK kvs=>exact h.1.1
 |dT kvs=>exact h.1.1
 |set ds=>exact h.1.1
 |old d=>exact o.elim
 |jnk=>exact h.1.1
 |tset ks=>exact h.1.1
 |dF kvs=>exact h.1.1
def SlOk(K:W.Frag)(c:Ct)(hid:cn)(σ:St)(H:Hp)(i:Nat):Sl->Prop
 | .no=>True
 | .v d=> ∃x,σ[i]? =some (some x)/\Rep K (vw H hid) x d
 | .own ds=> ∃a xs,σ[i]? =some (some (.ref a))/\H a=some (.lst xs)/\hid a=true/\c.H₀ a=none/\Reps K (vw H hid) xs ds
 | .arg ds=> ∃a xs,σ[i]? =some (some (.ref a))/\H a=some (.lst xs)/\hid a=true/\c.mu a=true/\Reps K (vw H hid) xs ds
 | .ob b=> ∃a,σ[i]? =some (some (.ref a))/\ObOk K c hid H a b
def Ow:Option Sl->Prop
 |some (.own _)=>True
 |some (.arg _)=>True
 |some (.ob b)=>vx b
 |_=>False
structure SR(K:W.Frag)(c:Ct)(hid:cn)(ρ:aL)(σ:St)(H:Hp):Prop where
 tr: ∀b,hid b=true-> ∃o,H b=some o
 ht: ∀b xs,hid b=true->H b≠some (.tup xs)
 h0: ∀b,c.hid₀ b=true->hid b=true
 kp: ∀b o,c.H₀ b=some o->c.mu b=false->H b=some o
 t0: ∀b o,c.H₀ b=some o-> ∃o',H b=some o'
 c0: ∀b,c.hid₀ b=true-> ∃o,c.H₀ b=some o
 m0: ∀b,c.mu b=true->c.hid₀ b=true
 len:σ.length=ρ.length
 sl: ∀(i:Nat) (s:Sl),ρ[i]? =some s->SlOk K c hid σ H i s
 ap: ∀(i j:Nat) (a:Addr),i≠j->Ow ρ[i]? ->Ow ρ[j]? ->σ[i]? =some (some (.ref a))->σ[j]? =some (some (.ref a))->False
section
variable {K:W.Frag}{c:Ct}{hid:cn}{ρ:aL}{σ:St}{H H':Hp}{i:Nat}
theorem SlOk.ext {s:Sl}(h:SlOk K c hid σ H i s)(e:Same H H'):SlOk K c hid σ H' i s:=by
 cases s with
 |no=>trivial
 |v d=>obtain⟨x,h1,h2⟩:=h;exact⟨x,h1,h2.mono (bc e)⟩
 |own ds=>obtain⟨a,xs,h1,h2,h3,h4,h5⟩:=h;exact⟨a,xs,h1,e _ _ h2,h3,h4,h5.mono (bc e)⟩
 |arg ds=>obtain⟨a,xs,h1,h2,h3,h4,h5⟩:=h;exact⟨a,xs,h1,e _ _ h2,h3,h4,h5.mono (bc e)⟩
 |ob b=>obtain⟨a,h1,h2⟩:=h;exact⟨a,h1,h2.mono (λ_=>e a) (bc e) λ_ q=>q⟩
theorem SR.ext(h:SR K c hid ρ σ H)(e:Same H H'):SR K c hid ρ σ H' where
 tr:=λb hb=>let⟨o,q⟩:=h.tr b hb;⟨o,e _ _ q⟩
 ht:=λb xs hb q=>let⟨o,w⟩:=h.tr b hb;by have z:=e _ _ w;rw[q] at z;cases z;exact h.ht b xs hb w
 h0:=h.h0
 kp:=λb o q m=>e _ _ (h.kp b o q m)
 t0:=λb o q=>let⟨o',q'⟩:=h.t0 b o q;⟨o',e _ _ q'⟩
 c0:=h.c0
 m0:=h.m0
 len:=h.len
 sl:=λi s q=>(h.sl i s q).ext e
 ap:=h.ap
def zi(hid:cn)(H:Hp):Prop:=(∀b,hid b=true-> ∃o,H b=some o)/\ ∀b xs,hid b=true->H b≠some (.tup xs)
theorem SR.trk(h:SR K c hid ρ σ H):zi hid H:=⟨h.tr,h.ht⟩
theorem SR.fresh(h:SR K c hid ρ σ H){a:Addr}(n:H a=none):hid a=false:=by
 cases e:hid a with
 |false=>rfl
 |true=>obtain⟨o,q⟩:=h.tr a e;rw[n] at q;cases q
theorem SR.fresh0(h:SR K c hid ρ σ H){a:Addr}(n:H a=none):c.H₀ a=none:=by
 cases e:c.H₀ a with
 |none=>rfl
 |some o=>obtain⟨o',q⟩:=h.t0 a o e;rw[n] at q;cases q
end
inductive Kd where
 |b|s|n
 deriving DecidableEq
def Rep1(K:W.Frag)(H W:Hp)(v:V)(d:D):Prop:=Rep K W v d\/ ∃a xs ds,v=.ref a/\d=.lst ds/\H a=some (.lst xs)/\Reps K W xs ds
def RN(K:W.Frag)(H H':Hp)(hid:cn)(v:V)(d:D):Prop:= ∃a xs ds,d=.lst ds/\v=.ref a/\H a=none/\H' a=some (.lst xs)/\Reps K (vw H' (cU hid a)) xs ds
def RK(K:W.Frag)(k:Kd)(H H':Hp)(hid:cn)(v:V)(d:D):Prop:=match k with
 | .b=>Rep1 K H' (vw H' hid) v d
 | .s=>Rep K (vw H' hid) v d
 | .n=>RN K H H' hid v d
section
variable {K:W.Frag}{c:Ct}{hid:cn}{ρ:aL}{σ:St}{H H' H'':Hp}{i:Nat}{v:V}{d:D}
theorem RN.rep(h:RN K H H' hid v d)(hf: ∀a,H a=none->hid a=false):Rep K (vw H' hid) v d:=by
 obtain⟨a,xs,ds,rfl,rfl,h1,h2,h3⟩:=h
 refine .lst (vw_some.mpr ⟨hf a h1,h2⟩) (h3.mono (iN λb q=>?_))
 unfold cU;rw[q];rfl
theorem RK.b(k:Kd)(h:RK K k H H' hid v d)(hf: ∀a,H a=none->hid a=false):Rep1 K H' (vw H' hid) v d:=by
 cases k with
 |b=>exact h
 |s=>exact .inl h
 |n=>exact .inl (RN.rep h hf)
theorem Rep1.ext {hid:cn}(h:Rep1 K H (vw H hid) v d)(e:Same H H'):Rep1 K H' (vw H' hid) v d:=by
 rcases h with h|⟨a,xs,ds,h1,h2,h3,h4⟩
 ·exact .inl (h.mono (bc e))
 ·exact .inr ⟨a,xs,ds,h1,h2,e _ _ h3,h4.mono (bc e)⟩
theorem Rep1.int {i:Int}(h:Rep1 K H (vw H hid) v (.int i)):v=.int i:=by
 rcases h with h|⟨a,xs,ds,h1,h2,_⟩
 ·cases h;rfl
 ·cases h2
theorem Rep1.bl {i:Bool}(h:Rep1 K H (vw H hid) v (.bl i)):v=.bl i:=by
 rcases h with h|⟨a,xs,ds,h1,h2,_⟩
 ·cases h;rfl
 ·cases h2
theorem Rep1.str {i:Str}(h:Rep1 K H (vw H hid) v (.str i)):v=.str i:=by
 rcases h with h|⟨a,xs,ds,h1,h2,_⟩
 ·cases h;rfl
 ·cases h2
theorem Rep1.non(h:Rep1 K H (vw H hid) v .non):v=.non:=by
 rcases h with h|⟨a,xs,ds,h1,h2,_⟩
 ·cases h;rfl
 ·cases h2
theorem Rep1.tup {ds:List D}(h:Rep1 K H (vw H hid) v (.tup ds)): ∃a xs,v=.ref a/\SqT K (vw H hid) a xs/\SqT K H a xs/\Reps K (vw H hid) xs ds:=by
 rcases h with h|⟨a,xs,ds,h1,h2,_⟩
 ·cases h with
  |tup q r=>exact⟨_,_,rfl,q,Same.seqT (fH _ _) q,r⟩
 ·cases h2
theorem Rep1.lst {ds:List D}(h:Rep1 K H (vw H hid) v (.lst ds)): ∃a xs,v=.ref a/\SqL K H a xs/\Reps K (vw H hid) xs ds:=by
 rcases h with h|⟨a,xs,ds,h1,h2,h3,h4⟩
 ·cases h with
  |lst q r=>exact⟨_,_,rfl,SqL.of (fH _ _ _ _ q),r⟩
 ·cases h2
  exact⟨a,xs,h1,SqL.of h3,h4⟩
theorem Rep1.scr {ds:List D}(h:Rep1 K H (vw H hid) v (.scr ds)): ∃a xs,v=.ref a/\SqL K H a xs/\Reps K (vw H hid) xs ds:=by
 rcases h with h|⟨a,xs,ds,h1,h2,h3,h4⟩
 ·cases h with
  |scr q r=>exact⟨_,_,rfl,(fH _ _).seq q.seq,r⟩
 ·cases h2
end
theorem PE.imp {X:Cx}{e:Expr}{t t':TE}(h:PE X e t)(i: ∀σ H Q,t' σ H Q->t σ H Q):PE X e t':=λae s σ H Q I q=>h ae s σ H Q I (i σ H Q q)
theorem PT.imp {X:Cx}{e:Expr}{t t':TT}(h:PT X e t)(i: ∀σ H Q,t' σ H Q->t σ H Q):PT X e t':=λae s σ H Q I q=>h ae s σ H Q I (i σ H Q q)
theorem PW.imp {X:Cx}{e:Expr}{t t':TT}(h:PW X e t)(i: ∀σ H Q,t' σ H Q->t σ H Q):PW X e t':=λwh ae s σ H Q I q=>h wh ae s σ H Q I (i σ H Q q)
theorem PA.imp {X:Cx}{e:List Expr}{t t':TA}(h:PA X e t)(i: ∀σ H Q,t' σ H Q->t σ H Q):PA X e t':=λp ae s σ H Q I q=>h p ae s σ H Q I (i σ H Q q)
theorem PS.imp {X:Cx}{e:Stmt}{t t':TS}(h:PS X e t)(i: ∀D σ H,t' D σ H->t D σ H):PS X e t':=λae s σ H D I q=>h ae s σ H D I (i D σ H q)
theorem PSs.imp {X:Cx}{e:List Stmt}{t t':TS}(h:PSs X e t)(i: ∀D σ H,t' D σ H->t D σ H):PSs X e t':=λae s σ H D I q=>h ae s σ H D I (i D σ H q)
abbrev FE:=aL->Option D
abbrev FT:=aL->Option Bool
abbrev FA:=aL->Option (List D)
def vn(K:W.Frag)(c:Ct)(hid:cn)(k:Kd)(f:FE)(ρ:aL):TE:=λσ H Q=>SR K c hid ρ σ H/\ ∃d,f ρ=some d/\ ∀v H',Same H H'->RK K k H H' hid v d->Q v H'
def AW(K:W.Frag)(c:Ct)(hid:cn)(f:FT)(ρ:aL):TT:=λσ H Q=>SR K c hid ρ σ H/\ ∃d,f ρ=some d/\ ∀H',Same H H'->Q d H'
def BG(K:W.Frag)(c:Ct)(hid:cn)(f:FA)(ρ:aL):TA:=λσ H Q=>SR K c hid ρ σ H/\ ∃d,f ρ=some d/\ ∀vs H',Same H H'->Reps K (vw H' hid) vs d->Q vs H'
def DP(X:Cx)(c:Ct)(k:Kd)(e:Expr)(f:FE):Prop:= ∀hid ρ,PE X e (vn X.K c hid k f ρ)
def DT(X:Cx)(c:Ct)(e:Expr)(f:FT):Prop:= ∀hid ρ,PT X e (AW X.K c hid f ρ)
def DW(X:Cx)(c:Ct)(e:Expr)(f:FT):Prop:= ∀hid ρ,PW X e (AW X.K c hid f ρ)
def DA(X:Cx)(c:Ct)(es:List Expr)(f:FA):Prop:= ∀hid ρ,PA X es (BG X.K c hid f ρ)
section
variable {X:Cx}{c:Ct}{e a b:Expr}{es:List Expr}{f g:FE}{k:Kd}{pos:Pos}
theorem DP.toS(h:DP X c .n e f):DP X c .s e f:=λhid ρ=>PE.imp (h hid ρ) λσ H Q ⟨sr,d,hd,q⟩=>⟨sr,d,hd,λv H' s r=>q v H' s (RN.rep r λa n=>sr.fresh n)⟩
def ai(i:Nat):FE:=λρ=>match ρ[i]? with
 |some (.v d)=>some d
 |_=>none
def cV(i:Nat):FE:=λρ=>match ρ[i]? with
 |some (.v d)=>some d
 |some (.own ds)=>some (.lst ds)
 |some (.arg ds)=>some (.lst ds)
 |_=>none
theorem ag(i:Nat){x:Str}(hN:X.N[i]? =some x:=by rfl)(hv:tX X.env.scope x:=by first|exact Or.inl rfl|exact Or.inr (Or.inl rfl)|exact Or.inr (Or.inr rfl))(hd:(x==("__debug__":Str))=false:=by decide)
 (hcd:(x==("__classdict__":Str))=false:=by decide):DP X c .s (.Name x pos) (ai i):=λhid ρ=>PE.imp (pv i hN hv hd hcd) λσ H Q hq_=>by
 obtain⟨sr,d,hd,q⟩:=hq_
 unfold ai at hd;split at hd
 ·rename_i d' e'
  cases hd
  obtain⟨x,h1,h2⟩:=sr.sl i _ e'
  exact⟨x,h1,q x H (Same.refl _) h2⟩
 ·cases hd
theorem cX(i:Nat){x:Str}(hN:X.N[i]? =some x:=by rfl)(hv:tX X.env.scope x:=by first|exact Or.inl rfl|exact Or.inr (Or.inl rfl)|exact Or.inr (Or.inr rfl))(hd:(x==("__debug__":Str))=false:=by decide)
 (hcd:(x==("__classdict__":Str))=false:=by decide):DP X c .b (.Name x pos) (cV i):=λhid ρ=>PE.imp (pv i hN hv hd hcd) λσ H Q hq_=>by
 obtain⟨sr,d,hd,q⟩:=hq_
 unfold cV at hd;split at hd
 ·rename_i d' e'
  cases hd
  obtain⟨x,h1,h2⟩:=sr.sl i _ e'
  exact⟨x,h1,q x H (Same.refl _) (.inl h2)⟩
 ·rename_i d' e'
  cases hd
  obtain⟨a,xs,h1,h2,h3,h4,h5⟩:=sr.sl i _ e'
  exact⟨_,h1,q _ H (Same.refl _) (.inr ⟨a,xs,_,rfl,rfl,h2,h5⟩)⟩
 ·rename_i d' e'
  cases hd
  obtain⟨a,xs,h1,h2,h3,h4,h5⟩:=sr.sl i _ e'
  exact⟨_,h1,q _ H (Same.refl _) (.inr ⟨a,xs,_,rfl,rfl,h2,h5⟩)⟩
 ·cases hd
def au(d:D):FE:=λ_=>some d
theorem al {i:Int}{j pos}:DP X c .s (.Constant (.int i) j pos) (au (.int i)):=λhid ρ=>PE.imp yO λσ H Q hq_=>by
 obtain⟨sr,d,hd,q⟩:=hq_
 cases hd;exact q _ H (Same.refl _) .int
theorem lg {i:Bool}{j pos}:DP X c .s (.Constant (.bool i) j pos) (au (.bl i)):=λhid ρ=>PE.imp zB λσ H Q hq_=>by
 obtain⟨sr,d,hd,q⟩:=hq_
 cases hd;exact q _ H (Same.refl _) .bl
theorem be {i:Str}{j pos}:DP X c .s (.Constant (.str i) j pos) (au (.str i)):=λhid ρ=>PE.imp xK λσ H Q hq_=>by
 obtain⟨sr,d,hd,q⟩:=hq_
 cases hd;exact q _ H (Same.refl _) .str
theorem kE {j pos}:DP X c .s (.Constant .none j pos) (au .non):=λhid ρ=>PE.imp x5 λσ H Q hq_=>by
 obtain⟨sr,d,hd,q⟩:=hq_
 cases hd;exact q _ H (Same.refl _) .non
def ao(F:D->D->Option D)(f g:FE):FE:=λρ=>(f ρ).bind λx=>(g ρ).bind λy=>F x y
theorem pH {F:D->D->Option D}{ρ:aL}{d:D}(h:ao F f g ρ=some d): ∃x y,f ρ=some x/\g ρ=some y/\F x y=some d:=by
 unfold ao at h;cases e1:f ρ with
 |none=>rw[e1] at h;cases h
 |some x=>
  cases e2:g ρ with
  |none=>rw[e1,e2] at h;cases h
  |some y=>rw[e1,e2] at h;exact⟨x,y,rfl,rfl,h⟩
def kW(K:W.Frag)(k:Kd)(r:R2)(F:D->D->Option D):Prop:= ∀(H:Hp) (hid:cn) (v u:V) (x y d:D) (Q:VK),(∀a,H a=none->hid a=false)->F x y=some d->Rep1 K H (vw H hid) v x->Rep1 K H (vw H hid) u y->
 (∀w H',Same H H'->RK K k H H' hid w d->Q w H')->r v u H Q
theorem RK.left {K:W.Frag}{H H1 H':Hp}{hid:cn}{v:V}{d:D}(s:Same H H1)(h:RK K k H1 H' hid v d):RK K k H H' hid v d:=by
 cases k with
 |b=>exact h
 |s=>exact h
 |n=>
  obtain⟨a,xs,ds,h1,h2,h3,h4⟩:=h
  exact⟨a,xs,ds,h1,h2,s.free h3,h4⟩
theorem Ak {r:R2}{F:D->D->Option D}{k1 k2:Kd}{hid:cn}{ρ:aL}(hF:kW X.K k r F){σ:St}{H:Hp}{Q:VK}(h:vn X.K c hid k (ao F f g) ρ σ H Q):zf r (vn X.K c hid k1 f ρ) (vn X.K c hid k2 g ρ) σ H Q:=by
 obtain⟨sr,d,hd,q⟩:=h
 obtain⟨x,y,e1,e2,e3⟩:=pH hd
 refine⟨sr,x,e1,λv H1 s1 r1=>⟨sr.ext s1,y,e2,λu H2 s2 r2=>?_⟩⟩
 have b1:=(RK.b k1 r1 λa n=>sr.fresh n).ext s2
 have b2:=RK.b k2 r2 λa n=>(sr.ext s1).fresh n
 exact hF H2 hid v u x y d Q (λa n=>((sr.ext s1).ext s2).fresh n) e3 b1 b2 λw H' s3 r3=>q w H' ((s1.trans s2).trans s3) (RK.left (s1.trans s2) r3)
theorem lT {op:Operator}{r:R2}{F:D->D->Option D}{k1 k2:Kd}(ho:jd X (binaryOp op) r)(hF:kW X.K k r F)(ha:DP X c k1 a f)(hb:DP X c k2 b g):DP X c k (.BinOp a op b pos) (ao F f g):=λhid ρ=>
 PE.imp (xi ho (ha hid ρ) (hb hid ρ)) λσ H Q h=>Ak hF h
theorem oj {op:CmpOp}{r:R2}{F:D->D->Option D}{k1 k2:Kd}(ho:jd X (compareOp op) r)(hF:kW X.K .s r F)(ha:DP X c k1 a f)(hb:DP X c k2 b g)(hm:behindInMarks op b=false):DP X c .s (.Compare a [op] [b] pos) (ao F f g):=λhid ρ=>
 PE.imp (wf ho (ha hid ρ) (hb hid ρ) hm) λσ H Q h=>Ak hF h
def pN:Option D->Option Bool
 |some (.bl b)=>some b
 |_=>none
theorem aY {op:CmpOp}{r:R2}{F:D->D->Option D}{k1 k2:Kd}(ho:jd X (compareOp op) r)(hF:kW X.K .s r F)(ha:DP X c k1 a f)(hb:DP X c k2 b g)(hm:behindInMarks op b=false):DT X c (.Compare a [op] [b] pos) (λρ=>pN (ao F f g ρ)):=λhid ρ=>
 PT.imp (wI ho (ha hid ρ) (hb hid ρ) hm) λσ H Q hq_=>by
  obtain⟨sr,d,hd,q⟩:=hq_
  refine Ak (X:=X) (k:=.s) (F:=F) hF ?_
  dsimp only at hd;cases e:ao F f g ρ with
  |none=>rw[e] at hd;cases hd
  |some x=>
   rw[e] at hd;cases x with
   |bl z=>
    cases hd
    refine⟨sr,_,e,λv H' s r=>⟨d,?_,q H' s⟩⟩
    cases r;rfl
   |_=>cases hd
theorem aE {r:R2}{F:D->D->Option D}{k1 k2:Kd}(hr:IxR X r)(hF:kW X.K k r F)(ha:DP X c k1 a f)(hb:DP X c k2 b g)(hs:qZ b):DP X c k (.Subscript a b pos) (ao F f g):=λhid ρ=>
 PE.imp (Aa hr (ha hid ρ) (hb hid ρ) hs) λσ H Q h=>Ak hF h
end
def i2(C:Int->Int->Bool)(G:Int->Int->D):D->D->Option D
 | .int i,.int j=>if C i j=true then some (G i j) else none
 |_,_=>none
section
variable {K:W.Frag}
theorem oe {C:Int->Int->Bool}{G:Int->Int->D}{x y d:D}(h:i2 C G x y=some d): ∃i j,x=.int i/\y=.int j/\C i j=true/\d=G i j:=by
 unfold i2 at h;split at h
 ·split at h
  ·cases h;exact⟨_,_,rfl,rfl, ‹_›,rfl⟩
  ·cases h
 ·cases h
theorem wj {C:Int->Int->Prop}{B:Int->Int->Bool}{g:Int->Int->Int}(hC: ∀i j,B i j=true->C i j):kW K .s (rI C λi j=>.int (g i j)) (i2 B λi j=>.int (g i j)):=by
 intro H hid v u x y d Q hf h r1 r2 q;obtain⟨i,j,rfl,rfl,hc,rfl⟩:=oe h
 cases r1.int;cases r2.int
 exact⟨i,j,rfl,rfl,hC i j hc,q _ H (Same.refl _) .int⟩
theorem uW {g:Int->Int->Int}:kW K .s (vj λi j=>.int (g i j)) (i2 (λ_ _=>true) λi j=>.int (g i j)):=by
 intro H hid v u x y d Q hf h r1 r2 q;obtain⟨i,j,rfl,rfl,hc,rfl⟩:=oe h
 cases r1.int;cases r2.int
 exact⟨i,j,rfl,rfl,q _ H (Same.refl _) .int⟩
theorem eg {g:Int->Int->Bool}:kW K .s (vj λi j=>.bl (g i j)) (i2 (λ_ _=>true) λi j=>.bl (g i j)):=by
 intro H hid v u x y d Q hf h r1 r2 q;obtain⟨i,j,rfl,rfl,hc,rfl⟩:=oe h
 cases r1.int;cases r2.int
 exact⟨i,j,rfl,rfl,q _ H (Same.refl _) .bl⟩
end
section
variable {X:Cx}{c:Ct}{e a b:Expr}{es rest:List Expr}{f g:FE}{p q:FT}{k:Kd}{pos:Pos}
def vX:D->Option Bool
 | .non=>some false
 | .bl b=>some b
 | .int i=>some (i !=0)
 | .str y=>if y.length<=sizeLine then some ((y.length:Int) !=0) else none
 | .lst ds=>some (!ds.isEmpty)
 | .tup ds=>some (!ds.isEmpty)
 | .scr ds=>some (!ds.isEmpty)
theorem Reps.isEmpty {K:W.Frag}{F:Hp}{xs:List V}{ds:List D}(r:Reps K F xs ds):xs.isEmpty=ds.isEmpty:=by cases r<;>rfl
theorem uc {K:W.Frag}{H:Hp}{hid:cn}{v:V}{d:D}{b:Bool}(h:vX d=some b)(r:Rep1 K H (vw H hid) v d):yq K v H b:=by
 cases d with
 |non=>cases r.non;cases h;rfl
 |bl x=>cases r.bl;cases h;rfl
 |int i=>cases r.int;cases h;rfl
 |str y=>
  cases r.str
  have h':(if y.length<=sizeLine then some ((y.length:Int) !=0) else none)=some b:=h
  split at h'
  ·cases h';exact⟨‹_›,rfl⟩
  ·cases h'
 |lst ds=>
  obtain⟨a,xs,rfl,h1,h2⟩:=r.lst
  cases h
  exact .inl ⟨xs,h1,by rw[h2.isEmpty]⟩
 |tup ds=>
  obtain⟨a,xs,rfl,_,h1,h2⟩:=r.tup
  cases h
  exact .inr (.inl ⟨xs,h1,by rw[h2.isEmpty]⟩)
 |scr ds=>
  obtain⟨a,xs,rfl,h1,h2⟩:=r.scr
  cases h
  exact .inl ⟨xs,h1,by rw[h2.isEmpty]⟩
def fx(f:FE):FT:=λρ=>(f ρ).bind vX
theorem jS(ha:DP X c k a f)(he: ∀whole,isTrue a X.env whole=(do let v <-whole;standAt a.pos;holding [v] (truthy v)):=by intro _;rfl):DT X c a (fx f):=λhid ρ=>
 PT.imp (pT (ha hid ρ) he) λσ H Q hq_=>by
  obtain⟨sr,d,hd,q⟩:=hq_
  unfold fx at hd;cases e:f ρ with
  |none=>rw[e] at hd;cases hd
  |some x=>
   rw[e] at hd;exact⟨sr,x,e,λv H' s r=>⟨d,uc hd (RK.b k r λa n=>sr.fresh n),q H' s⟩⟩
def j5(p q:FT):FT:=λρ=>(p ρ).bind λb=>if b=true then q ρ else some false
def mT(p q:FT):FT:=λρ=>(p ρ).bind λb=>if b=true then some true else q ρ
def dz(p:FT):FT:=λρ=>(p ρ).map (!·)
theorem vJ(ha:DT X c a p):DW X c (.BoolOp .And [a] pos) p:=λhid ρ=>pw_and1 (ha hid ρ)
theorem lP(ha:DT X c a p):DW X c (.BoolOp .Or [a] pos) p:=λhid ρ=>pw_or1 (ha hid ρ)
theorem yX(ha:DT X c a p)(hb:DW X c (.BoolOp .And (b::rest) pos) q):DW X c (.BoolOp .And (a::b::rest) pos) (j5 p q):=λhid ρ=>
 PW.imp (pw_and (ha hid ρ) (hb hid ρ)) λσ H Q hq_=>by
  obtain⟨sr,d,hd,hq⟩:=hq_
  unfold j5 at hd;cases e:p ρ with
  |none=>rw[e] at hd;cases hd
  |some x=>
   rw[e] at hd;refine⟨sr,x,e,λH1 s1=>?_⟩
   cases x with
   |true=>exact nW ⟨sr.ext s1,d,hd,λH2 s2=>hq H2 (s1.trans s2)⟩
   |false=>cases hd;exact om (hq H1 s1)
theorem nl(ha:DT X c a p)(hb:DW X c (.BoolOp .Or (b::rest) pos) q):DW X c (.BoolOp .Or (a::b::rest) pos) (mT p q):=λhid ρ=>
 PW.imp (pw_or (ha hid ρ) (hb hid ρ)) λσ H Q hq_=>by
  obtain⟨sr,d,hd,hq⟩:=hq_
  unfold mT at hd;cases e:p ρ with
  |none=>rw[e] at hd;cases hd
  |some x=>
   rw[e] at hd;refine⟨sr,x,e,λH1 s1=>?_⟩
   cases x with
   |false=>exact om ⟨sr.ext s1,d,hd,λH2 s2=>hq H2 (s1.trans s2)⟩
   |true=>cases hd;exact nW (hq H1 s1)
theorem DW.dt(h:DW X c e p):DT X c e p:=λhid ρ=>(h hid ρ).pt
theorem iG(ha:DT X c a p):DT X c (.UnaryOp .Not a pos) (dz p):=λhid ρ=>
 PT.imp (uq (ha hid ρ)) λσ H Q hq_=>by
  obtain⟨sr,d,hd,hq⟩:=hq_
  unfold dz at hd;cases e:p ρ with
  |none=>rw[e] at hd;cases hd
  |some x=>rw[e] at hd;cases hd;exact⟨sr,x,e,λH1 s1=>hq H1 s1⟩
def uT(p:FT):FE:=λρ=>(p ρ).map D.bl
def bq(f:FE):FT:=λρ=>pN (f ρ)
theorem j3 {ρ:aL}{b:Bool}(h:bq f ρ=some b):f ρ=some (.bl b):=by
 unfold bq pN at h;split at h
 ·cases h;assumption
 ·cases h
theorem u0(ha:DP X c .s a f)(hb:DP X c .s (.BoolOp .And (b::rest) pos) g):DP X c .s (.BoolOp .And (a::b::rest) pos) (uT (j5 (bq f) (bq g))):=λhid ρ=>
 PE.imp (xP (ha hid ρ) (hb hid ρ)) λσ H Q hq_=>by
  obtain⟨sr,d,hd,hq⟩:=hq_
  unfold uT j5 at hd;cases e:bq f ρ with
  |none=>rw[e] at hd;cases hd
  |some x=>
   rw[e] at hd;refine⟨sr,_,j3 e,λv H1 s1 r=>?_⟩
   cases r
   refine⟨x,rfl,?_⟩
   cases x with
   |true=>
    refine nW ?_
    cases e2:bq g ρ with
    |none=>rw[show(some true:Option Bool).bind (λb=>if b=true then bq g ρ else some false)=bq g ρ from rfl,e2] at hd;cases hd
    |some y=>
     rw[show(some true:Option Bool).bind (λb=>if b=true then bq g ρ else some false)=bq g ρ from rfl,e2] at hd;cases hd
     exact⟨sr.ext s1,_,j3 e2,λv2 H2 s2 r2=>hq v2 H2 (s1.trans s2) r2⟩
   |false=>cases hd;exact om (hq _ H1 s1 .bl)
theorem t5 {op}(h:DP X c k a f):DP X c k (.BoolOp op [a] pos) f:=λhid ρ=>yH (h hid ρ)
theorem yr(ha:DP X c .s a f):DP X c .s (.UnaryOp .Not a pos) (uT (dz (bq f))):=λhid ρ=>
 PE.imp (yu (ha hid ρ)) λσ H Q hq_=>by
  obtain⟨sr,d,hd,hq⟩:=hq_
  unfold uT dz at hd;cases e:bq f ρ with
  |none=>rw[e] at hd;cases hd
  |some x=>
   rw[e] at hd;cases hd;refine⟨sr,_,j3 e,λv H1 s1 r=>?_⟩
   cases r
   exact⟨x,rfl,hq _ H1 s1 .bl⟩
def sZ(p:FT)(f g:FE):FE:=λρ=>(p ρ).bind λb=>if b=true then f ρ else g ρ
theorem tv {t:Expr}(hk:k≠ .n)(ht:DT X c t p)(ha:DP X c k a f)(hb:DP X c k b g):DP X c k (.IfExp t a b pos) (sZ p f g):=λhid ρ=>
 PE.imp (va (ht hid ρ) (ha hid ρ) (hb hid ρ)) λσ H Q hq_=>by
  obtain⟨sr,d,hd,hq⟩:=hq_
  unfold sZ at hd;cases e:p ρ with
  |none=>rw[e] at hd;cases hd
  |some x=>
   rw[e] at hd;refine⟨sr,x,e,λH1 s1=>?_⟩
   have lf: ∀ {v H2},RK X.K k H1 H2 hid v d->RK X.K k H H2 hid v d:=λ{v H2} r=>RK.left s1 r
   cases x with
   |true=>exact nW ⟨sr.ext s1,d,hd,λv H2 s2 r=>hq v H2 (s1.trans s2) (lf r)⟩
   |false=>exact om ⟨sr.ext s1,d,hd,λv H2 s2 r=>hq v H2 (s1.trans s2) (lf r)⟩
variable {r r':R2}{h:FE}{e3:Expr}
def mG(F G:D->D->Option D)(f g h:FE):FE:=λρ=>(f ρ).bind λx=>(g ρ).bind λy=>(pN (F x y)).bind λk=>if k=true then(h ρ).bind λz=>G y z else some (.bl false)
theorem uU {F G:D->D->Option D}{k1 k2 k3:Kd}{hid:cn}{ρ:aL}(hF:kW X.K .s r F)(hG:kW X.K .s r' G){σ:St}{H:Hp}{Q:VK}(hh:vn X.K c hid .s (mG F G f g h) ρ σ H Q):
 qs r r' (vn X.K c hid k1 f ρ) (vn X.K c hid k2 g ρ) (vn X.K c hid k3 h ρ) σ H Q:=by
 obtain⟨sr,d,hd,q⟩:=hh
 unfold mG at hd;cases e1:f ρ with
 |none=>rw[e1] at hd;cases hd
 |some x=>
  cases e2:g ρ with
  |none=>rw[e1,e2] at hd;cases hd
  |some y=>
   rw[e1,e2] at hd;have hd':(pN (F x y)).bind (λk=>if k=true then(h ρ).bind λz=>G y z else some (.bl false))=some d:=hd
   cases e3:F x y with
   |none=>rw[e3] at hd';cases hd'
   |some z=>
    cases z with
    |bl kk=>
     rw[e3] at hd';refine⟨sr,x,e1,λv H1 s1 r1=>⟨sr.ext s1,y,e2,λu H2 s2 r2=>?_⟩⟩
     have b1:=(RK.b k1 r1 λa n=>sr.fresh n).ext s2
     have b2:=RK.b k2 r2 λa n=>(sr.ext s1).fresh n
     have fr: ∀a,H2 a=none->hid a=false:=λa n=>((sr.ext s1).ext s2).fresh n
     refine hF H2 hid v u x y _ _ fr e3 b1 b2 λw H3 s3 r3=>?_
     cases r3
     refine⟨kk,rfl,?_⟩
     cases kk with
     |false=>cases hd';exact om (q _ H3 ((s1.trans s2).trans s3) .bl)
     |true=>
      refine nW ?_
      cases e4:h ρ with
      |none=>rw[e4] at hd';cases hd'
      |some z=>
       rw[e4] at hd';have hd2:G y z=some d:=hd'
       refine⟨((sr.ext s1).ext s2).ext s3,z,e4,λw' H4 s4 r4=>?_⟩
       have b3:=RK.b k3 r4 λa n=>(((sr.ext s1).ext s2).ext s3).fresh n
       exact hG H4 hid u w' y z d Q (λa n=>((((sr.ext s1).ext s2).ext s3).ext s4).fresh n) hd2 ((b2.ext s3).ext s4) b3 λw2 H5 s5 r5=>q w2 H5 ((((s1.trans s2).trans s3).trans s4).trans s5) r5
    |_=>rw[e3] at hd';cases hd'
theorem xy {op op':CmpOp}{F G:D->D->Option D}{k1 k2 k3:Kd}(ho:jd X (compareOp op) r)(ho':jd X (compareOp op') r')(hF:kW X.K .s r F)(hG:kW X.K .s r' G)(ha:DP X c k1 a f)(hb:DP X c k2 b g)(hc:DP X c k3 e3 h)
 (hm:lastMarks [op,op'] [b,e3]=false:=by with_unfolding_all rfl):DP X c .s (.Compare a [op,op'] [b,e3] pos) (mG F G f g h):=λhid ρ=>
 PE.imp (tU ho ho' (ha hid ρ) (hb hid ρ) (hc hid ρ) hm) λσ H Q hh=>uU hF hG hh
theorem rH {op op':CmpOp}{F G:D->D->Option D}{k1 k2 k3:Kd}(ho:jd X (compareOp op) r)(ho':jd X (compareOp op') r')(hF:kW X.K .s r F)(hG:kW X.K .s r' G)(ha:DP X c k1 a f)(hb:DP X c k2 b g)(hc:DP X c k3 e3 h)
 (hm:lastMarks [op,op'] [b,e3]=false:=by with_unfolding_all rfl):DT X c (.Compare a [op,op'] [b,e3] pos) (bq (mG F G f g h)):=λhid ρ=>
 PT.imp (t8 ho ho' (ha hid ρ) (hb hid ρ) (hc hid ρ) hm) λσ H Q hq_=>by
  obtain⟨sr,d,hd,q⟩:=hq_
  refine uU (X:=X) (F:=F) (G:=G) hF hG ⟨sr,_,j3 hd,λv H' s r=>⟨d,?_,q H' s⟩⟩
  cases r;rfl
end
section
variable {X:Cx}{c:Ct}{e a b:Expr}{es rest:List Expr}{f g:FE}{fs:FA}{k:Kd}{pos:Pos}
def ah:FA:=λ_=>some []
def aa(f:FE)(fs:FA):FA:=λρ=>(f ρ).bind λd=>(fs ρ).map λr=>d::r
theorem mj {ρ:aL}{ds:List D}(h:aa f fs ρ=some ds): ∃d r,f ρ=some d/\fs ρ=some r/\ds=d::r:=by
 unfold aa at h;cases e1:f ρ with
 |none=>rw[e1] at h;cases h
 |some d=>
  cases e2:fs ρ with
  |none=>rw[e1,e2] at h;cases h
  |some r=>rw[e1,e2] at h;cases h;exact⟨d,r,rfl,rfl,rfl⟩
theorem ar:DA X c [] ah:=λhid ρ=>PA.imp jD λσ H Q ⟨sr,d,hd,q⟩=>by cases hd;exact q [] H (Same.refl _) .nil
theorem af(ha:DP X c .s e f)(hr:DA X c es fs)(hs:starEach (e::es) X.env=(false,eval e X.env)::starEach es X.env:=by rfl):DA X c (e::es) (aa f fs):=λhid ρ=>
 PA.imp (dZ (ha hid ρ) (hr hid ρ) hs) λσ H Q hq_=>by
  obtain⟨sr,d,hd,q⟩:=hq_
  obtain⟨d1,r,e1,e2,rfl⟩:=mj hd
  exact⟨sr,d1,e1,λv H1 s1 r1=>⟨sr.ext s1,r,e2,λvs H2 s2 r2=>q _ H2 (s1.trans s2) (.cons (Rep.mono (bc s2) r1) r2)⟩⟩
def aZ(fs:FA):FE:=λρ=>(fs ρ).bind λds=>if ds.length<=sizeLine then some (.tup ds) else none
def eG(fs:FA):FE:=λρ=>(fs ρ).bind λds=>if ds.length<=sizeLine then some (.lst ds) else none
theorem sh {ρ:aL}{d:D}(h:aZ fs ρ=some d): ∃ds,fs ρ=some ds/\ds.length<=sizeLine/\d=.tup ds:=by
 unfold aZ at h;cases e1:fs ρ with
 |none=>rw[e1] at h;cases h
 |some ds=>
  rw[e1] at h;have h':(if ds.length<=sizeLine then some (D.tup ds) else none)=some d:=h
  split at h'
  ·cases h';exact⟨ds,rfl, ‹_›,rfl⟩
  ·cases h'
theorem sa {ρ:aL}{d:D}(h:eG fs ρ=some d): ∃ds,fs ρ=some ds/\ds.length<=sizeLine/\d=.lst ds:=by
 unfold eG at h;cases e1:fs ρ with
 |none=>rw[e1] at h;cases h
 |some ds=>
  rw[e1] at h;have h':(if ds.length<=sizeLine then some (D.lst ds) else none)=some d:=h
  split at h'
  ·cases h';exact⟨ds,rfl, ‹_›,rfl⟩
  ·cases h'
theorem ca {H:Hp}{p:Addr}(h:H p=none)(o:HO):Same H (dv H p o):=λb u q=>by rw[aR (cu q h)];exact q
theorem kc {K:W.Frag}{H:Hp}{hid:cn}{p:Addr}{xs:List V}{ds:List D}(hn:H p=none)(hf:hid p=false)(r:Reps K (vw H hid) xs ds):Rep K (vw (dv H p (.tup xs)) hid) (.ref p) (.tup ds):=
 .tup (SqT.of (vw_some.mpr ⟨hf,bM⟩)) (r.mono (bc (ca hn _)))
theorem lN {K:W.Frag}{H H0:Hp}{hid:cn}{p:Addr}{xs:List V}{ds:List D}(hn:H p=none)(s:Same H0 H)(r:Reps K (vw H hid) xs ds):RN K H0 (dv H p (.lst xs)) hid (.ref p) (.lst ds):=
 ⟨p,xs,ds,rfl,rfl,s.free hn,bM,by rw[uL hn];exact r⟩
theorem bK {x1}(h:DA X c es fs):DP X c .s (.Tuple es x1 pos) (aZ fs):=λhid ρ=>PE.imp (yh (h hid ρ)) λσ H Q hq_=>by
 obtain⟨sr,d,hd,q⟩:=hq_
 obtain⟨ds,e1,hz,rfl⟩:=sh hd
 exact⟨sr,ds,e1,λvs H1 s1 r1=>⟨by rw[r1.length];exact hz,λp hp=>q _ _ (s1.trans (ca hp _)) (kc hp ((sr.ext s1).fresh hp) r1)⟩⟩
theorem iq(h:DA X c es fs):DP X c .n (.List es pos) (eG fs):=λhid ρ=>PE.imp (yJ (h hid ρ)) λσ H Q hq_=>by
 obtain⟨sr,d,hd,q⟩:=hq_
 obtain⟨ds,e1,hz,rfl⟩:=sa hd
 exact⟨sr,ds,e1,λvs H1 s1 r1=>⟨by rw[r1.length];exact hz,λp hp=>q _ _ (s1.trans (ca hp _)) (lN hp s1 r1)⟩⟩
abbrev Reps1(K:W.Frag)(H W:Hp):List V->List D->Prop:=Paired (Rep1 K H W)
def Bv(K:W.Frag)(c:Ct)(hid:cn)(f:FA)(ρ:aL):TA:=λσ H Q=>SR K c hid ρ σ H/\ ∃d,f ρ=some d/\ ∀vs H',Same H H'->Reps1 K H' (vw H' hid) vs d->Q vs H'
def DB(X:Cx)(c:Ct)(es:List Expr)(f:FA):Prop:= ∀hid ρ,PA X es (Bv X.K c hid f ρ)
theorem aX:DB X c [] ah:=λhid ρ=>PA.imp jD λσ H Q ⟨sr,d,hd,q⟩=>by cases hd;exact q [] H (Same.refl _) .nil
theorem aF(ha:DP X c k e f)(hr:DB X c es fs)(hs:starEach (e::es) X.env=(false,eval e X.env)::starEach es X.env:=by rfl):DB X c (e::es) (aa f fs):=λhid ρ=>
 PA.imp (dZ (ha hid ρ) (hr hid ρ) hs) λσ H Q hq_=>by
  obtain⟨sr,d,hd,q⟩:=hq_
  obtain⟨d1,r,e1,e2,rfl⟩:=mj hd
  exact⟨sr,d1,e1,λv H1 s1 r1=>⟨sr.ext s1,r,e2,λvs H2 s2 r2=>q _ H2 (s1.trans s2) (.cons ((RK.b k r1 λa n=>sr.fresh n).ext s2) r2)⟩⟩
def jC(K:W.Frag)(k:Kd)(r:List V->Hp->VK->Prop)(F:List D->Option D):Prop:= ∀(H:Hp) (hid:cn) (vs:List V) (ds:List D) (d:D) (Q:VK),(∀a,H a=none->hid a=false)->F ds=some d->Reps1 K H (vw H hid) vs ds->
 (∀w H',Same H H'->RK K k H H' hid w d->Q w H')->r vs H Q
def aj(F:List D->Option D)(fs:FA):FE:=λρ=>(fs ρ).bind F
theorem lH {F:List D->Option D}{ρ:aL}{d:D}(h:aj F fs ρ=some d): ∃ds,fs ρ=some ds/\F ds=some d:=by
 unfold aj at h;cases e1:fs ρ with
 |none=>rw[e1] at h;cases h
 |some ds=>rw[e1] at h;exact⟨ds,rfl,h⟩
theorem zH {r:List V->Hp->VK->Prop}{F:List D->Option D}{hid:cn}{ρ:aL}(hF:jC X.K k r F){σ:St}{H:Hp}{Q:VK}(h:vn X.K c hid k (aj F fs) ρ σ H Q):AT r (Bv X.K c hid fs ρ) σ H Q:=by
 obtain⟨sr,d,hd,q⟩:=h
 obtain⟨ds,e1,e2⟩:=lH hd
 exact⟨sr,ds,e1,λvs H1 s1 r1=>hF H1 hid vs ds d Q (λa n=>(sr.ext s1).fresh n) e2 r1 λw H' s2 r2=>q w H' (s1.trans s2) (RK.left s1 r2)⟩
variable {x:Str}{p:Pos}{id T:String}{r:List V->Hp->VK->Prop}{F:List D->Option D}
theorem aT(hc:gB X (.builtin id) r)(hF:jC X.K k r F)(hm:X.mg x=none)(ha:DB X c (e::es) fs)(hg:Gl X x:=by rfl)(hv:bootBuiltins x=some (.builtin id):=by first|exact PySem.boot_len|rfl|kernel_rfl)(hn:x≠"__name__":=by decide)(hdb:(x==("__debug__":Str))=false:=by decide)
 (he:starEach (e::es) X.env=(false,eval e X.env)::starEach es X.env:=by rfl) (hpl:(backTo pos (starEach es X.env)).any (·.1)=false:=by rfl):DP X c k (.Call (.Name x p) (e::es) [] pos) (aj F fs):=λhid ρ=>
 PE.imp (pU hc hg hm hv (ha hid ρ) hn hdb he hpl) λσ H Q h=>zH hF h
theorem cO(hc:gB X (.type T) r)(hF:jC X.K k r F)(hm:X.mg x=none)(ha:DB X c (e::es) fs)(hg:Gl X x:=by rfl)(hv:bootBuiltins x=some (.type T):=by first|rfl|kernel_rfl)(hn:x≠"__name__":=by decide)(hdb:(x==("__debug__":Str))=false:=by decide)
 (he:starEach (e::es) X.env=(false,eval e X.env)::starEach es X.env:=by rfl) (hpl:(backTo pos (starEach es X.env)).any (·.1)=false:=by rfl):DP X c k (.Call (.Name x p) (e::es) [] pos) (aj F fs):=λhid ρ=>
 PE.imp (kB hc hg hm hv (ha hid ρ) hn hdb he hpl) λσ H Q h=>zH hF h
end
section
variable {K:W.Frag}
theorem Reps1.one {H W:Hp}{v:List V}{d:D}(r:Reps1 K H W v [d]): ∃x,v=[x]/\Rep1 K H W x d:=by
 cases r with
 |cons r t=>cases t;exact⟨_,rfl,r⟩
theorem Reps1.two {H W:Hp}{v:List V}{d d':D}(r:Reps1 K H W v [d,d']): ∃x y,v=[x,y]/\Rep1 K H W x d/\Rep1 K H W y d':=by
 cases r with
 |cons r t=>cases t with
  |cons r' t=>cases t;exact⟨_,_,rfl,r,r'⟩
def bR:List D->Option D
 | [.lst ds]=>some (.int ds.length)
 | [.tup ds]=>some (.int ds.length)
 | [.scr ds]=>some (.int ds.length)
 |_=>none
theorem dq:jC K .s (λxs H Q=> ∃p ys,xs=[.ref p]/\(SqL K H p ys\/SqT K H p ys)/\Q (.int ys.length) H) bR:=by
 intro H hid vs ds d Q hf h r q;unfold bR at h;split at h
 ·cases h
  obtain⟨x,rfl,r1⟩:=Reps1.one r
  obtain⟨a,xs,rfl,h1,h2⟩:=r1.lst
  exact⟨a,xs,rfl,.inl h1,by rw[h2.length];exact q _ H (Same.refl _) .int⟩
 ·cases h
  obtain⟨x,rfl,r1⟩:=Reps1.one r
  obtain⟨a,xs,rfl,_,h1,h2⟩:=r1.tup
  exact⟨a,xs,rfl,.inr h1,by rw[h2.length];exact q _ H (Same.refl _) .int⟩
 ·cases h
  obtain⟨x,rfl,r1⟩:=Reps1.one r
  obtain⟨a,xs,rfl,h1,h2⟩:=r1.scr
  exact⟨a,xs,rfl,.inl h1,by rw[h2.length];exact q _ H (Same.refl _) .int⟩
 ·cases h
def pJ:List D->Option D
 | [.int i]=>some (.int (if i<0 then -i else i))
 |_=>none
theorem yB:jC K .s (λxs H Q=> ∃i,xs=[.int i]/\Q (.int (if i<0 then -i else i)) H) pJ:=by
 intro H hid vs ds d Q hf h r q;unfold pJ at h;split at h
 ·cases h
  obtain⟨x,rfl,r1⟩:=Reps1.one r
  cases r1.int
  exact⟨_,rfl,q _ H (Same.refl _) .int⟩
 ·cases h
def fW:List D->Option D
 | [.int i,.int j]=>some (.int (if j>i then j else i))
 |_=>none
theorem j2:jC K .s (λxs H Q=> ∃i j,xs=[.int i,.int j]/\Q (.int (if j>i then j else i)) H) fW:=by
 intro H hid vs ds d Q hf h r q;unfold fW at h;split at h
 ·cases h
  obtain⟨x,y,rfl,r1,r2⟩:=Reps1.two r
  cases r1.int;cases r2.int
  exact⟨_,_,rfl,q _ H (Same.refl _) .int⟩
 ·cases h
def i7:List D->Option D
 | [.int i,.int j]=>some (.int (if j<i then j else i))
 |_=>none
theorem oM:jC K .s (λxs H Q=> ∃i j,xs=[.int i,.int j]/\Q (.int (if j<i then j else i)) H) i7:=by
 intro H hid vs ds d Q hf h r q;unfold i7 at h;split at h
 ·cases h
  obtain⟨x,y,rfl,r1,r2⟩:=Reps1.two r
  cases r1.int;cases r2.int
  exact⟨_,_,rfl,q _ H (Same.refl _) .int⟩
 ·cases h
def rQ:List D->Option D
 | [.lst ds]=>some (.lst ds)
 | [.tup ds]=>some (.lst ds)
 |_=>none
theorem vW:jC K .n (λxs H Q=> ∃p ys,xs=[.ref p]/\(SqL K H p ys\/SqT K H p ys)/\ ∀l,H l=none->Q (.ref l) (dv H l (.lst ys))) rQ:=by
 intro H hid vs ds d Q hf h r q;unfold rQ at h;split at h
 ·cases h
  obtain⟨x,rfl,r1⟩:=Reps1.one r
  obtain⟨a,xs,rfl,h1,h2⟩:=r1.lst
  exact⟨a,xs,rfl,.inl h1,λl hl=>q _ _ (ca hl _) (lN hl (Same.refl _) h2)⟩
 ·cases h
  obtain⟨x,rfl,r1⟩:=Reps1.one r
  obtain⟨a,xs,rfl,_,h1,h2⟩:=r1.tup
  exact⟨a,xs,rfl,.inr h1,λl hl=>q _ _ (ca hl _) (lN hl (Same.refl _) h2)⟩
 ·cases h
def cj:List D->Option D
 | [.lst ds]=>some (.tup ds)
 | [.tup ds]=>some (.tup ds)
 |_=>none
theorem et:jC K .s (λxs H Q=> ∃p ys,xs=[.ref p]/\((SqL K H p ys/\ ∀l,H l=none->Q (.ref l) (dv H l (.tup ys)))\/(SqT K H p ys/\Q (.ref p) H))) cj:=by
 intro H hid vs ds d Q hf h r q;unfold cj at h;split at h
 ·cases h
  obtain⟨x,rfl,r1⟩:=Reps1.one r
  obtain⟨a,xs,rfl,h1,h2⟩:=r1.lst
  exact⟨a,xs,rfl,.inl ⟨h1,λl hl=>q _ _ (ca hl _) (kc hl (hf l hl) h2)⟩⟩
 ·cases h
  obtain⟨x,rfl,r1⟩:=Reps1.one r
  obtain⟨a,xs,rfl,h0,h1,h2⟩:=r1.tup
  exact⟨a,xs,rfl,.inr ⟨h1,q _ H (Same.refl _) (.tup h0 h2)⟩⟩
 ·cases h
def aQ:D->D->Option D
 | .lst ds,.int i=>nw ds i
 | .tup ds,.int i=>nw ds i
 | .scr ds,.int i=>nw ds i
 |_,_=>none
theorem nZ {F:Hp}{xs:List V}{ds:List D}{i:Int}{d:D}(r:Reps K F xs ds)(h:nw ds i=some d): ∃x,nw xs i=some x/\Rep K F x d:=by
 unfold nw at h⊢;rw[r.length];cases e:pX ds.length i with
 |none=>rw[e] at h;cases h
 |some j=>
  rw[e] at h;obtain⟨x,h1,h2⟩:=r.get (i:=j) h
  exact⟨x,h1,h2⟩
theorem aD:kW K .s (Bw K) aQ:=by
 intro H hid v u x y d Q hf h r1 r2 q;unfold aQ at h;split at h
 ·cases r2.int
  obtain⟨a,xs,rfl,h1,h2⟩:=r1.lst
  obtain⟨z,h3,h4⟩:=nZ h2 h
  exact .inl ⟨a,xs,_,z,rfl,rfl,h1,h3,q _ H (Same.refl _) h4⟩
 ·cases r2.int
  obtain⟨a,xs,rfl,_,h1,h2⟩:=r1.tup
  obtain⟨z,h3,h4⟩:=nZ h2 h
  exact .inr (.inl ⟨a,xs,_,z,rfl,rfl,h1,h3,q _ H (Same.refl _) h4⟩)
 ·cases r2.int
  obtain⟨a,xs,rfl,h1,h2⟩:=r1.scr
  obtain⟨z,h3,h4⟩:=nZ h2 h
  exact .inl ⟨a,xs,_,z,rfl,rfl,h1,h3,q _ H (Same.refl _) h4⟩
 ·cases h
end
abbrev GE:=aL->Option (D×aL)
abbrev GA:=aL->Option (List D×aL)
def Kept(hid:cn)(H H':Hp):Prop:= ∀b o,H b=some o->hid b=false->H' b=some o
theorem Kept.of {hid:cn}{H H':Hp}(s:Same H H'):Kept hid H H':=λb o q _=>s b o q
theorem Kept.trans {hid:cn}{H H1 H2:Hp}(a:Kept hid H H1)(b:Kept hid H1 H2):Kept hid H H2:=λc o q h=>b c o (a c o q h) h
theorem Kept.vw {hid:cn}{H H':Hp}(a:Kept hid H H'):Same (vw H hid) (vw H' hid):=rj a
def PostE(K:W.Frag)(c:Ct)(hid:cn)(k:Kd)(ρ':aL)(σ:St)(H H':Hp)(v:V)(d:D):Prop:=Kept hid H H'/\match k with
 | .n=> ∃a xs ds,d=.lst ds/\v=.ref a/\H a=none/\H' a=some (.lst xs)/\c.H₀ a=none/\hid a=false/\SR K c (cU hid a) ρ' σ H'/\Reps K (vw H' (cU hid a)) xs ds/\ ∀i:Nat,Ow ρ'[i]? ->σ[i]? ≠some (some (.ref a))
 |_=>SR K c hid ρ' σ H'/\Rep K (vw H' hid) v d
def Am(K:W.Frag)(c:Ct)(hid:cn)(k:Kd)(f:GE)(ρ:aL):TE:=λσ H Q=>SR K c hid ρ σ H/\ ∃d ρ',f ρ=some (d,ρ')/\ ∀v H',PostE K c hid k ρ' σ H H' v d->Q v H'
def DE(X:Cx)(c:Ct)(k:Kd)(e:Expr)(f:GE):Prop:= ∀hid ρ,PE X e (Am X.K c hid k f ρ)
def pu(f:FE):GE:=λρ=>(f ρ).map λd=>(d,ρ)
theorem vY {f:FE}{ρ ρ':aL}{d:D}(h:pu f ρ=some (d,ρ')):f ρ=some d/\ρ'=ρ:=by
 unfold pu at h;cases e:f ρ with
 |none=>rw[e] at h;cases h
 |some x=>rw[e] at h;cases h;exact⟨rfl,rfl⟩
section
variable {K:W.Frag}{c:Ct}{hid hid':cn}{ρ:aL}{σ:St}{H H':Hp}{i:Nat}{a:Addr}
theorem dU {hid:cn}{a b:Addr}(h:hid b=true):cU hid a b=true:=by unfold cU;rw[h];rfl
theorem nL {hid:cn}{a:Addr}:cU hid a a=true:=by unfold cU;simp
theorem SR.hide(h:SR K c hid ρ σ H)(e:Same H H')(n:H a=none){o:HO}(ho:H' a=some o)(hn: ∀xs,o≠ .tup xs:=by intro _ e;cases e):SR K c (cU hid a) ρ σ H':=by
 have sm:Same (vw H hid) (vw H' (cU hid a)):=λb o q=>by
  obtain⟨q1,q2⟩:=vw_some.mp q
  refine vw_some.mpr ⟨?_,e _ _ q2⟩
  unfold cU;rw[q1];have:b≠a:=cu q2 n
  simp[this]
 refine⟨λb hb=>?_,λb xs hb q=>by
  by_cases eb:b=a
  ·subst eb;rw[ho] at q;exact hn _ (Option.some.inj q)
  ·unfold cU at hb
   exact(h.ext e).ht b xs (by simpa [eb] using hb) q,λb q=>dU (h.h0 b q),(h.ext e).kp,(h.ext e).t0,h.c0,h.m0,h.len,λi s q=>?_,h.ap⟩
 ·by_cases eb:b=a
  ·subst eb;exact⟨_,ho⟩
  ·unfold cU at hb
   have:hid b=true:=by simpa [eb] using hb
   obtain⟨o',q⟩:=h.tr b this
   exact⟨o',e _ _ q⟩
 ·have z:=h.sl i s q
  cases s with
  |no=>trivial
  |v d=>obtain⟨x,h1,h2⟩:=z;exact⟨x,h1,h2.mono sm⟩
  |own ds=>obtain⟨a',xs,h1,h2,h3,h4,h5⟩:=z;exact⟨a',xs,h1,e _ _ h2,dU h3,h4,h5.mono sm⟩
  |arg ds=>obtain⟨a',xs,h1,h2,h3,h4,h5⟩:=z;exact⟨a',xs,h1,e _ _ h2,dU h3,h4,h5.mono sm⟩
  |ob b=>obtain⟨a',h1,h2⟩:=z;exact⟨a',h1,h2.mono (λ_=>e a') sm λ_=>dU⟩
theorem SR.show(h:SR K c (cU hid a) ρ σ H)(h0: ∀b,c.hid₀ b=true->hid b=true)(no: ∀i:Nat,Ow ρ[i]? ->σ[i]? ≠some (some (.ref a))):SR K c hid ρ σ H:=by
 have sm:Same (vw H (cU hid a)) (vw H hid):=iN λb q=>dU q
 have un: ∀b,b≠a->cU hid a b=true->hid b=true:=λb nb hb=>by unfold cU at hb;simpa [nb] using hb
 refine⟨λb hb=>h.tr b (dU hb),λb xs hb=>h.ht b xs (dU hb),h0,h.kp,h.t0,h.c0,h.m0,h.len,λi s q=>?_,h.ap⟩
 have z:=h.sl i s q
 cases s with
 |no=>trivial
 |v d=>obtain⟨x,h1,h2⟩:=z;exact⟨x,h1,h2.mono sm⟩
 |own ds=>
  obtain⟨a',xs,h1,h2,h3,h4,h5⟩:=z
  have:a'≠a:=λe=>by subst e;exact no i (by rw[q];trivial) h1
  exact⟨a',xs,h1,h2,un a' this h3,h4,h5.mono sm⟩
 |arg ds=>
  obtain⟨a',xs,h1,h2,h3,h4,h5⟩:=z
  have:a'≠a:=λe=>by subst e;exact no i (by rw[q];trivial) h1
  exact⟨a',xs,h1,h2,un a' this h3,h4,h5.mono sm⟩
 |ob b=>
  obtain⟨a',h1,h2⟩:=z
  exact⟨a',h1,h2.mono (λ_ _ q=>q) sm λow=>un a' λe=>by subst e;exact no i (by rw[q];exact ow) h1⟩
theorem SR.notOw(h:SR K c hid ρ σ H)(n:hid a=false)(i:Nat)(o:Ow ρ[i]?):σ[i]? ≠some (some (.ref a)):=λe=>by
 cases q:ρ[i]? with
 |none=>rw[q] at o;exact o
 |some s=>
  rw[q] at o;have z:=h.sl i s q
  cases s with
  |no=>exact o
  |v d=>exact o
  |own ds=>obtain⟨a',xs,h1,h2,h3,_⟩:=z;rw[e] at h1;cases h1;rw[n] at h3;cases h3
  |arg ds=>obtain⟨a',xs,h1,h2,h3,_⟩:=z;rw[e] at h1;cases h1;rw[n] at h3;cases h3
  |ob b=>obtain⟨a',h1,h2⟩:=z;rw[e] at h1;cases h1;have:=h2.hid o;rw[n] at this;cases this
theorem SR.post {k:Kd}{v:V}{d:D}(h:SR K c hid ρ σ H)(e:Same H H')(r:RK K k H H' hid v d)(hk:k≠ .b):PostE K c hid k ρ σ H H' v d:=by
 cases k with
 |b=>exact absurd rfl hk
 |s=>exact⟨.of e,h.ext e,r⟩
 |n=>
  obtain⟨a,xs,ds,h1,h2,h3,h4,h5⟩:=r
  exact⟨.of e,a,xs,ds,h1,h2,h3,h4,h.fresh0 h3,h.fresh h3,h.hide e h3 h4,h5,h.notOw (h.fresh h3)⟩
theorem PostE.left {k:Kd}{ρ':aL}{H1:Hp}{v:V}{d:D}(s:Kept hid H H1)(p:PostE K c hid k ρ' σ H1 H' v d):PostE K c hid k ρ' σ H H' v d:=by
 cases k with
 |b=>exact⟨s.trans p.1,p.2⟩
 |s=>exact⟨s.trans p.1,p.2⟩
 |n=>
  obtain⟨kp,a,xs,ds,h1,h2,hn,h3,h4,h5,h6⟩:=p
  refine⟨s.trans kp,a,xs,ds,h1,h2,?_,h3,h4,h5,h6⟩
  cases e:H a with
  |none=>rfl
  |some o=>rw[s a o e h5] at hn;cases hn
theorem PostE.toS {ρ':aL}{v:V}{d:D}(h0: ∀b,c.hid₀ b=true->hid b=true)(p:PostE K c hid .n ρ' σ H H' v d):PostE K c hid .s ρ' σ H H' v d:=by
 obtain⟨kp,a,xs,ds,rfl,rfl,hn,h1,h2,h3,h4,h5,h6⟩:=p
 exact⟨kp,h4.show h0 h6,.lst (vw_some.mpr ⟨h3,h1⟩) (h5.mono (iN λb q=>dU q))⟩
end
section
variable {X:Cx}{c:Ct}{e a b:Expr}{es rest:List Expr}{f g:GE}{k:Kd}{pos:Pos}
theorem DP.ef {f:FE}(h:DP X c k e f)(hk:k≠ .b:=by decide):DE X c k e (pu f):=λhid ρ=>PE.imp (h hid ρ) λσ H Q hq_=>by
 obtain⟨sr,d,ρ',hd,q⟩:=hq_
 obtain⟨h1,rfl⟩:=vY hd
 exact⟨sr,d,h1,λv H' s r=>q v H' (sr.post s r hk)⟩
theorem DE.toS(h:DE X c .n e f):DE X c .s e f:=λhid ρ=>PE.imp (h hid ρ) λσ H Q ⟨sr,d,ρ',hd,q⟩=>⟨sr,d,ρ',hd,λv H' p=>q v H' (p.toS sr.h0)⟩
def bE {α:Type}(f:GE)(g:D->aL->Option α):aL->Option α:=λρ=>(f ρ).bind λp=>g p.1 p.2
theorem nO {α:Type}{g:D->aL->Option α}{ρ:aL}{z:α}(h:bE f g ρ=some z): ∃d ρ',f ρ=some (d,ρ')/\g d ρ'=some z:=by
 unfold bE at h;cases e:f ρ with
 |none=>rw[e] at h;cases h
 |some p=>rw[e] at h;exact⟨p.1,p.2,rfl,h⟩
def lE(F:D->D->Option D)(f g:GE):GE:=bE f λx=>bE g λy ρ=>(F x y).map λd=>(d,ρ)
theorem sx {F:D->D->Option D}{ρ ρ':aL}{d:D}(h:lE F f g ρ=some (d,ρ')): ∃x ρ1 y,f ρ=some (x,ρ1)/\g ρ1=some (y,ρ')/\F x y=some d:=by
 obtain⟨x,ρ1,h1,h2⟩:=nO h
 obtain⟨y,ρ2,h3,h4⟩:=nO h2
 cases e:F x y with
 |none=>rw[e] at h4;cases h4
 |some z=>rw[e] at h4;cases h4;exact⟨x,ρ1,y,h1,h3,e⟩
theorem AK {r:R2}{F:D->D->Option D}{hid:cn}{ρ:aL}(hF:kW X.K k r F)(hk:k≠ .b){σ:St}{H:Hp}{Q:VK}(h:Am X.K c hid k (lE F f g) ρ σ H Q):zf r (Am X.K c hid .s f ρ) (λσ H Q=> ∃ρ1,Am X.K c hid .s g ρ1 σ H Q) σ H Q:=by
 obtain⟨sr,d,ρ',hd,q⟩:=h
 obtain⟨x,ρ1,y,e1,e2,e3⟩:=sx hd
 refine⟨sr,x,ρ1,e1,λv H1 ⟨k1,s1,r1⟩=>⟨ρ1,s1,y,ρ',e2,λu H2 ⟨k2,s2,r2⟩=>?_⟩⟩
 exact hF H2 hid v u x y d Q (λa n=>s2.fresh n) e3 (.inl (r1.mono k2.vw)) (.inl r2) λw H' s3 r3=>q w H' (PostE.left (k1.trans k2) (s2.post s3 r3 hk))
theorem mR {α:Type}{t:α->TE}(h: ∀z,PE X e (t z)):PE X e (λσ H Q=> ∃z,t z σ H Q):=λae s σ H Q I ⟨z,q⟩=>h z ae s σ H Q I q
theorem zm {op:Operator}{r:R2}{F:D->D->Option D}(ho:jd X (binaryOp op) r)(hF:kW X.K k r F)(ha:DE X c .s a f)(hb:DE X c .s b g)(hk:k≠ .b:=by decide):DE X c k (.BinOp a op b pos) (lE F f g):=λhid ρ=>
 PE.imp (xi ho (ha hid ρ) (mR λρ1=>hb hid ρ1)) λσ H Q h=>AK hF hk h
def BO(K:W.Frag)(c:Ct)(hid:cn)(f:GA)(ρ:aL):TA:=λσ H Q=>SR K c hid ρ σ H/\ ∃d ρ',f ρ=some (d,ρ')/\ ∀vs H',Kept hid H H'->SR K c hid ρ' σ H'->Reps K (vw H' hid) vs d->Q vs H'
def DG(X:Cx)(c:Ct)(es:List Expr)(f:GA):Prop:= ∀hid ρ,PA X es (BO X.K c hid f ρ)
def cL(f:FA):GA:=λρ=>(f ρ).map λd=>(d,ρ)
theorem lR {f:FA}{ρ ρ':aL}{d:List D}(h:cL f ρ=some (d,ρ')):f ρ=some d/\ρ'=ρ:=by
 unfold cL at h;cases e:f ρ with
 |none=>rw[e] at h;cases h
 |some x=>rw[e] at h;cases h;exact⟨rfl,rfl⟩
theorem DA.gf {f:FA}(h:DA X c es f):DG X c es (cL f):=λhid ρ=>PA.imp (h hid ρ) λσ H Q hq_=>by
 obtain⟨sr,d,ρ',hd,q⟩:=hq_
 obtain⟨h1,rfl⟩:=lR hd
 exact⟨sr,d,h1,λv H' s r=>q v H' (.of s) (sr.ext s) r⟩
def dl(f:GE)(fs:GA):GA:=bE f λd ρ=>(fs ρ).map λp=>(d::p.1,p.2)
theorem zO {α:Type}{t:α->TA}(h: ∀z,PA X es (t z)):PA X es (λσ H Q=> ∃z,t z σ H Q):=λp ae s σ H Q I ⟨z,q⟩=>h z p ae s σ H Q I q
theorem js {fs:GA}(ha:DE X c .s e f)(hr:DG X c es fs)(hs:starEach (e::es) X.env=(false,eval e X.env)::starEach es X.env:=by rfl):DG X c (e::es) (dl f fs):=λhid ρ=>
 PA.imp (dZ (ha hid ρ) (zO λρ1=>hr hid ρ1) hs) λσ H Q hq_=>by
  obtain⟨sr,d,ρ',hd,q⟩:=hq_
  obtain⟨d1,ρ1,e1,h2⟩:=nO hd
  cases e2:fs ρ1 with
  |none=>rw[e2] at h2;cases h2
  |some p=>
   rw[e2] at h2;obtain⟨ds,ρ2⟩:=p
   cases h2
   exact⟨sr,d1,ρ1,e1,λv H1 ⟨k1,s1,r1⟩=>⟨ρ1,s1,ds,_,e2,λvs H2 k2 s2 r2=>q _ H2 (k1.trans k2) s2 (.cons (r1.mono k2.vw) r2)⟩⟩
end
def eP(K:W.Frag)(k:Kd)(n:Nat)(P:List D->Option D):Sp:=λvs H Q _=> ∃hid ds,zi hid H/\Reps K (vw H hid) vs ds/\ds.length=n/\ ∃d,P ds=some d/\ ∀v H',Same H H'->RK K k H H' hid v d->Q v H'
def zK(K:W.Frag)(k:Kd)(hid:cn)(H H':Hp)(v:V)(d:D)(xs':List V)(bs':List D):Prop:=match k with
 | .n=> ∃p ys es,d=.lst es/\v=.ref p/\H p=none/\H' p=some (.lst ys)/\Reps K (vw H' (cU hid p)) ys es/\Reps K (vw H' (cU hid p)) xs' bs'
 |_=>Rep K (vw H' hid) v d/\Reps K (vw H' hid) xs' bs'
def oU(K:W.Frag)(k:Kd)(n:Nat)(M:List D->List D->Option (D×List D)):Sp:=λvs H Q _=> ∃hid a xs bs us ds,vs=.ref a::us/\zi hid H/\hid a=true/\H a=some (.lst xs)/\Reps K (vw H hid) xs bs/\
 Reps K (vw H hid) us ds/\ds.length=n/\ ∃d bs',M bs ds=some (d,bs')/\ ∀v H' xs',(∀b o,H b=some o->b≠a->H' b=some o)->H' a=some (.lst xs')->zK K k hid H H' v d xs' bs'->Q v H'
section
variable {X:Cx}{c:Ct}{e a b:Expr}{es rest:List Expr}{k:Kd}{pos p:Pos}{x:Str}{f:Addr}{fd:FuncData}{ps:List Str}{j n:Nat}
theorem wx {P:List D->Option D}{fs:FA}(F:FnOk X.prog X.w X.K X.mg X.base oV j f fd ps (eP X.K k n P))(hr:Room j X.A)(hm:X.mg x=some (.ref f))(hk:W.keepIn X.K (.ref f)=true)(hb:Binds X.K fd ps [])
 (ha:DA X c (e::es) fs) (hg:Gl X x:=by rfl) (hdb:(x==("__debug__":Str))=false:=by decide) (he:starEach (e::es) X.env=(false,eval e X.env)::starEach es X.env:=by rfl) (hpl:(backTo pos (starEach es X.env)).any (·.1)=false:=by rfl):
 DP X c k (.Call (.Name x p) (e::es) [] pos) (aj (λds=>if ds.length=n then P ds else none) fs):=λhid ρ=>
 PE.imp (ou F hr hg hm hk hb .nil (tw (X:=X)) (ha hid ρ) hdb he hpl) λσ H Q hq_=>by
  obtain⟨sr,d,hd,q⟩:=hq_
  obtain⟨ds,e1,e2⟩:=lH hd
  have e2':(if ds.length=n then P ds else none)=some d:=e2
  split at e2'
  ·refine⟨sr,ds,e1,λvs H1 s1 r1=>?_⟩
   show eP X.K k n P (vs++[]) H1 Q E0;rw[List.append_nil];exact⟨hid,ds,(sr.ext s1).trk,r1, ‹_›,d,e2',λv H' s2 r2=>q v H' (s1.trans s2) (RK.left s1 r2)⟩
  ·cases e2'
def h9(i:Nat)(bs:List D)(ρ:aL):aL:=match ρ[i]? with
 |some (.own _)=>ρ.set i (.own bs)
 |some (.arg _)=>ρ.set i (.arg bs)
 |_=>ρ
def i4(i:Nat)(ρ:aL):Option (List D):=match ρ[i]? with
 |some (.own ds)=>some ds
 |some (.arg ds)=>some ds
 |_=>none
theorem ii {i:Nat}{ρ:aL}{bs:List D}(h:i4 i ρ=some bs):ρ[i]? =some (.own bs)\/ρ[i]? =some (.arg bs):=by
 unfold i4 at h;split at h
 ·cases h;exact .inl ‹_›
 ·cases h;exact .inr ‹_›
 ·cases h
theorem SR.held {K:W.Frag}{hid:cn}{ρ:aL}{σ:St}{H:Hp}{i:Nat}{bs:List D}(h:SR K c hid ρ σ H)(hg:i4 i ρ=some bs): ∃a xs,σ[i]? =some (some (.ref a))/\H a=some (.lst xs)/\hid a=true/\Reps K (vw H hid) xs bs/\(c.mu a=true\/c.H₀ a=none):=by
 rcases ii hg with e|e
 ·obtain⟨a,xs,h1,h2,h3,h4,h5⟩:=h.sl i _ e
  exact⟨a,xs,h1,h2,h3,h5,.inr h4⟩
 ·obtain⟨a,xs,h1,h2,h3,h4,h5⟩:=h.sl i _ e
  exact⟨a,xs,h1,h2,h3,h5,.inl h4⟩
theorem jA {i j:Nat}{ρ:aL}{bs:List D}(h:j≠i):(h9 i bs ρ)[j]? =ρ[j]? :=by
 unfold h9;split
 ·rw[List.getElem?_set_ne (Ne.symm h)]
 ·rw[List.getElem?_set_ne (Ne.symm h)]
 ·rfl
theorem uz {i:Nat}{ρ:aL}{bs:List D}:(h9 i bs ρ).length=ρ.length:=by
 unfold h9;split
 ·simp
 ·simp
 ·rfl
theorem n9 {i j:Nat}{ρ:aL}{bs:List D}(h:Ow (h9 i bs ρ)[j]?):Ow ρ[j]? :=by
 by_cases e:j=i
 ·subst e
  unfold h9 at h;split at h
  ·rw[‹ρ[j]? =_›];trivial
  ·rw[‹ρ[j]? =_›];trivial
  ·exact h
 ·rw[jA e] at h;exact h
theorem SR.put {K:W.Frag}{hid:cn}{ρ:aL}{σ:St}{H H':Hp}{i:Nat}{bs bs':List D}{a:Addr}{xs':List V}(h:SR K c hid ρ σ H)(hg:i4 i ρ=some bs)(ha:σ[i]? =some (some (.ref a)))(kp: ∀b o,H b=some o->b≠a->H' b=some o)
 (hx:H' a=some (.lst xs')) (r:Reps K (vw H' hid) xs' bs'):SR K c hid (h9 i bs' ρ) σ H':=by
 obtain⟨a1,xs,h1,h2,h3,h4,h5⟩:=h.held hg
 rw[ha] at h1;cases h1;have sm:Same (vw H hid) (vw H' hid):=rj λb o q hb=>kp b o q (λe=>by subst e;rw[h3] at hb;cases hb)
 have tr': ∀b o,H b=some o-> ∃o',H' b=some o':=λb o q=>by
  by_cases e:b=a
  ·subst e;exact⟨_,hx⟩
  ·exact⟨o,kp b o q e⟩
 refine⟨λb hb=>let⟨o,q⟩:=h.tr b hb;tr' b o q,λb xs hb q=>by
  by_cases e:b=a
  ·subst e;rw[hx] at q;cases q
  ·obtain⟨o,w⟩:=h.tr b hb
   have z:=kp b o w e
   rw[q] at z;cases z;exact h.ht b xs hb w,h.h0,λb o q m=>?_,λb o q=>let⟨o',q'⟩:=h.t0 b o q;tr' b o' q',h.c0,h.m0,by rw[uz];exact h.len,λj s q=>?_,λj l z n o1 o2=>h.ap j l z n (n9 o1) (n9 o2)⟩
 ·refine kp b o (h.kp b o q m) λe=>?_
  subst e;rcases h5 with h5|h5
  ·rw[h5] at m;cases m
  ·rw[h5] at q;cases q
 ·by_cases e:j=i
  ·subst e
   rcases ii hg with w|w
   ·have lt:=(List.getElem?_eq_some_iff.mp w).1
    unfold h9 at q;rw[w] at q;dsimp only at q;rw[List.getElem?_set_self lt] at q;cases q
    obtain⟨a2,xs2,g1,g2,g3,g4,g5⟩:=h.sl j _ w
    rw[ha] at g1;cases g1;exact⟨_,xs',ha,hx,g3,g4,r⟩
   ·have lt:=(List.getElem?_eq_some_iff.mp w).1
    unfold h9 at q;rw[w] at q;dsimp only at q;rw[List.getElem?_set_self lt] at q;cases q
    obtain⟨a2,xs2,g1,g2,g3,g4,g5⟩:=h.sl j _ w
    rw[ha] at g1;cases g1;exact⟨_,xs',ha,hx,g3,g4,r⟩
  ·rw[jA e] at q
   have z:=h.sl j s q
   cases s with
   |no=>trivial
   |v d=>obtain⟨x,h1,h2⟩:=z;exact⟨x,h1,h2.mono sm⟩
   |own ds=>
    obtain⟨a',xs,z1,z2,z3,z4,z5⟩:=z
    have ne:a'≠a:=λe'=>by
     subst e';refine h.ap j i a' e (by rw[q];trivial) ?_ z1 ha
     rcases ii hg with w|w<;>rw[w]<;>trivial
    exact⟨a',xs,z1,kp _ _ z2 ne,z3,z4,z5.mono sm⟩
   |arg ds=>
    obtain⟨a',xs,z1,z2,z3,z4,z5⟩:=z
    have ne:a'≠a:=λe'=>by
     subst e';refine h.ap j i a' e (by rw[q];trivial) ?_ z1 ha
     rcases ii hg with w|w<;>rw[w]<;>trivial
    exact⟨a',xs,z1,kp _ _ z2 ne,z3,z4,z5.mono sm⟩
   |ob b=>
    obtain⟨a',z1,z2⟩:=z
    refine⟨a',z1,z2.mono (λow o w=>kp _ _ w λe'=>?_) sm λ_ w=>w⟩
    subst e';refine h.ap j i a' e (by rw[q];exact ow) ?_ z1 ha
    rcases ii hg with w|w<;>rw[w]<;>trivial
def aN(i n:Nat)(M:List D->List D->Option (D×List D))(fs:GA):GE:=λρ=>match i4 i ρ with
 |none=>none
 |some _=>match fs ρ with
  |none=>none
  |some (ds,ρ1)=>match i4 i ρ1 with
   |none=>none
   |some bs=>if ds.length=n then match M bs ds with
     |none=>none
     |some (d,bs')=>some (d,h9 i bs' ρ1) else none
theorem jH {i:Nat}{M:List D->List D->Option (D×List D)}{fs:GA}{ρ ρ':aL}{d:D}(h:aN i n M fs ρ=some (d,ρ')): ∃bs0 ds ρ1 bs bs',i4 i ρ=some bs0/\fs ρ=some (ds,ρ1)/\i4 i ρ1=some bs/\ds.length=n/\M bs ds=some (d,bs')/\ρ'=h9 i bs' ρ1:=by
 unfold aN at h;split at h
 ·cases h
 ·split at h
  ·cases h
  ·split at h
   ·cases h
   ·split at h
    ·split at h
     ·cases h
     ·cases h;exact⟨_,_,_,_,_, ‹_›, ‹_›, ‹_›, ‹_›, ‹_›,rfl⟩
    ·cases h
theorem t4(i:Nat){y:Str}{py:Pos}{M:List D->List D->Option (D×List D)}{fs:GA}(F:FnOk X.prog X.w X.K X.mg X.base oV j f fd ps (oU X.K k n M))(hr:Room j X.A)(hm:X.mg x=some (.ref f))(hk:W.keepIn X.K (.ref f)=true)(hb:Binds X.K fd ps [])
 (ha:DG X c es fs) (hkb:k≠ .b:=by decide) (hN:X.N[i]? =some y:=by rfl) (hv:tX X.env.scope y:=by first|exact Or.inl rfl|exact Or.inr (Or.inl rfl)|exact Or.inr (Or.inr rfl)) (hd:(y==("__debug__":Str))=false:=by decide)
 (hcd:(y==("__classdict__":Str))=false:=by decide) (hs:starEach (.Name y py::es) X.env=(false,eval (.Name y py) X.env)::starEach es X.env:=by rfl) (hg:Gl X x:=by rfl) (hdb:(x==("__debug__":Str))=false:=by decide) (hpl:(backTo pos (starEach es X.env)).any (·.1)=false:=by rfl):
 DE X c k (.Call (.Name x p) (.Name y py::es) [] pos) (aN i n M fs):=λhid ρ=>
 PE.imp (ou F hr hg hm hk hb .nil (tw (X:=X)) (dZ (pv i hN hv hd hcd) (ha hid ρ) hs) hdb hs hpl) λσ H Q hq_=>by
  obtain⟨sr,d,ρ',hd',q⟩:=hq_
  obtain⟨bs0,ds,ρ1,bs,bs',e0,e1,e2,e3,e4,rfl⟩:=jH hd'
  obtain⟨a,xs0,a1,_,a3,_,_⟩:=sr.held e0
  refine⟨.ref a,a1,sr,ds,ρ1,e1,λus H1 k1 s1 r1=>?_⟩
  obtain⟨a',xs,b1,b2,b3,b4,b5⟩:=s1.held e2
  rw[a1] at b1;cases b1;show oU X.K k n M ((.ref a::us)++[]) H1 Q E0;rw[List.append_nil];refine⟨hid,a,xs,bs,us,ds,rfl,s1.trk,b3,b2,b4,r1,e3,d,bs',e4,λv H' xs' kp hx hr'=>q v H' ?_⟩
  have kp':Kept hid H1 H':=λb o q hb=>kp b o q λe=>by subst e;rw[b3] at hb;cases hb
  cases k with
  |b=>exact absurd rfl hkb
  |s=>exact⟨k1.trans kp',s1.put e2 a1 kp hx hr'.2,hr'.1⟩
  |n=>
   obtain⟨p',ys,es',rfl,rfl,h1,h2,h3,h4⟩:=hr'
   have np:hid p'=false:=s1.fresh h1
   have na:a≠p':=λe=>by subst e;rw[b2] at h1;cases h1
   have sB:SR X.K c (cU hid p') ρ1 σ (dv H1 p' (.lst ys)):=s1.hide (ca h1 _) h1 bM
   have kp2: ∀b o,(dv H1 p' (.lst ys)) b=some o->b≠a->H' b=some o:=λb o z hb=>by
    by_cases e:b=p'
    ·subst e;rw[bM] at z;cases z;exact h2
    ·rw[aR e] at z;exact kp b o z hb
   have sC:SR X.K c (cU hid p') (h9 i bs' ρ1) σ H':=sB.put e2 a1 kp2 hx h4
   have hn:H p'=none:=by
    cases e:H p' with
    |none=>rfl
    |some o=>rw[k1 p' o e np] at h1;cases h1
   refine⟨k1.trans kp',p',ys,es',rfl,rfl,hn,h2,s1.fresh0 h1,np,sC,h3,λm hm hσ=>?_⟩
   have:=s1.notOw np m (n9 hm)
   exact this hσ
end
inductive Out where
 |nx (ρ:aL)|rt (d:D) (ρ:aL)|bk (ρ:aL)|ct (ρ:aL)|no
abbrev FS:=aL->Out
def AG(c:Ct)(k:Kd)(v:V):cn:=match k,v with
 | .n,.ref a=>cU c.hid₀ a
 |_,_=>c.hid₀
structure Ret(K:W.Frag)(c:Ct)(k:Kd)(ρ':aL)(H':Hp)(v:V)(d:D):Prop where
 kp: ∀b o,c.H₀ b=some o->c.mu b=false->H' b=some o
 val:match k with
  | .n=> ∃a xs ds,d=.lst ds/\v=.ref a/\c.H₀ a=none/\H' a=some (.lst xs)/\Reps K (vw H' (cU c.hid₀ a)) xs ds
  |_=>Rep K (vw H' c.hid₀) v d
 arg: ∀(i:Nat) (bs:List D),ρ'[i]? =some (Sl.arg bs)-> ∃a xs,c.mu a=true/\H' a=some (.lst xs)/\Reps K (vw H' (AG c k v)) xs bs
def EndOk(K:W.Frag)(c:Ct)(k:Kd)(D:Ends)(W:Hp):Out->Prop
 | .nx ρ'=> ∀σ' H' hid',SR K c hid' ρ' σ' H'->Same W (vw H' hid')->D.nx σ' H'
 | .rt d ρ'=> ∀v H',Ret K c k ρ' H' v d->D.rt v H'
 | .bk ρ'=> ∀σ' H' hid',SR K c hid' ρ' σ' H'->Same W (vw H' hid')->D.bk σ' H'
 | .ct ρ'=> ∀σ' H' hid',SR K c hid' ρ' σ' H'->Same W (vw H' hid')->D.ct σ' H'
 | .no=>False
theorem EndOk.mono {K:W.Frag}{c:Ct}{k:Kd}{D:Ends}{W W':Hp}{o:Out}(h:EndOk K c k D W o)(s:Same W W'):EndOk K c k D W' o:=by
 cases o with
 |nx ρ=>exact λσ' H' hid' z w=>h σ' H' hid' z (s.trans w)
 |rt d ρ=>exact h
 |bk ρ=>exact λσ' H' hid' z w=>h σ' H' hid' z (s.trans w)
 |ct ρ=>exact λσ' H' hid' z w=>h σ' H' hid' z (s.trans w)
 |no=>exact h
def Bu(K:W.Frag)(c:Ct)(k:Kd)(t:FS)(ρ:aL):TS:=λD σ H=> ∃hid,SR K c hid ρ σ H/\EndOk K c k D (vw H hid) (t ρ)
def DS(X:Cx)(c:Ct)(k:Kd)(st:Stmt)(t:FS):Prop:= ∀ρ,PS X st (Bu X.K c k t ρ)
def oS(X:Cx)(c:Ct)(k:Kd)(st:List Stmt)(t:FS):Prop:= ∀ρ,PSs X st (Bu X.K c k t ρ)
section
variable {X:Cx}{c:Ct}{k:Kd}{st:Stmt}{sts rest:List Stmt}{t u:FS}{e:Expr}{pos:Pos}
theorem ng {α:Type}{t:α->TS}(h: ∀z,PSs X sts (t z)):PSs X sts (λD σ H=> ∃z,t z D σ H):=λae s σ H D I ⟨z,q⟩=>h z ae s σ H D I q
theorem xh {α:Type}{t:α->TT}(h: ∀z,PT X e (t z)):PT X e (λD σ H=> ∃z,t z D σ H):=λae s σ H D I ⟨z,q⟩=>h z ae s σ H D I q
def skip:FS:=λρ=>.nx ρ
def ay(t u:FS):FS:=λρ=>match t ρ with
 | .nx ρ'=>u ρ'
 | .rt d ρ'=>.rt d ρ'
 | .bk ρ'=>.bk ρ'
 | .ct ρ'=>.ct ρ'
 | .no=>.no
theorem bj:oS X c k [] skip:=λρ=>PSs.imp rE λD σ H ⟨hid,sr,q⟩=>q σ H hid sr (Same.refl _)
theorem av(h:DS X c k st t):oS X c k [st] t:=λρ=>rC (h ρ)
theorem aq(h1:DS X c k st t)(h2:oS X c k rest u):oS X c k (st::rest) (ay t u):=λρ=>
 PSs.imp (oY (h1 ρ) (ng λρ1=>h2 ρ1)) λD σ H hq_=>by
  obtain⟨hid,sr,q⟩:=hq_
  refine⟨hid,sr,?_⟩
  unfold ay at q;cases e:t ρ with
  |nx ρ1=>rw[e] at q;exact λσ1 H1 hid1 sr1 v1=>⟨ρ1,hid1,sr1,EndOk.mono q v1⟩
  |rt d ρ1=>rw[e] at q;exact q
  |bk ρ1=>rw[e] at q;exact q
  |ct ρ1=>rw[e] at q;exact q
  |no=>rw[e] at q;exact q
def dC(p:FT)(t u:FS):FS:=λρ=>match p ρ with
 |some true=>t ρ
 |some false=>u ρ
 |none=>.no
theorem cR {p:FT}{a b:List Stmt}(hp:DT X c e p)(ha:oS X c k a t)(hb:oS X c k b u):DS X c k (.If e a b pos) (dC p t u):=λρ=>
 PS.imp (uR (xh λhid=>hp hid ρ) (ha ρ) (hb ρ)) λD σ H hq_=>by
  obtain⟨hid,sr,q⟩:=hq_
  cases e1:p ρ with
  |none=>unfold dC at q;rw[e1] at q;exact q.elim
  |some x=>
   refine⟨hid,sr,x,e1,λH1 s1=>?_⟩
   unfold dC at q;rw[e1] at q;cases x with
   |true=>exact nW ⟨hid,sr.ext s1,EndOk.mono q (bc s1)⟩
   |false=>exact om ⟨hid,sr.ext s1,EndOk.mono q (bc s1)⟩
def aI(f:FE):FS:=λρ=>match f ρ with
 |some d=>.rt d ρ
 |none=>.no
theorem uv {K:W.Frag}{hid:cn}{ρ':aL}{σ:St}{H H':Hp}{v:V}{d:D}(hk:k≠ .b)(p:PostE K c hid k ρ' σ H H' v d)(h0: ∀b,c.hid₀ b=true->hid b=true):Ret K c k ρ' H' v d:=by
 cases k with
 |b=>exact absurd rfl hk
 |s=>
  obtain⟨_,sr,r⟩:=p
  refine⟨sr.kp,r.mono (iN sr.h0),λi bs e=>?_⟩
  obtain⟨a,xs,z1,z2,z3,z4,z5⟩:=sr.sl i _ e
  refine⟨a,xs,z4,z2,?_⟩
  show Reps K (vw H' c.hid₀) xs bs;exact z5.mono (iN sr.h0)
 |n=>
  obtain⟨_,a,xs,ds,rfl,rfl,_,h1,h2,h3,sr,h5,h6⟩:=p
  have le:Same (vw H' (cU hid a)) (vw H' (cU c.hid₀ a)):=iN λb q=>by
   unfold cU at q⊢;cases e:c.hid₀ b with
   |true=>rw[h0 b e];rfl
   |false=>rw[e] at q;rw[Bool.or_eq_true];right;simpa using q
  refine⟨sr.kp,⟨a,xs,ds,rfl,rfl,h2,h1,h5.mono le⟩,λi bs e=>?_⟩
  obtain⟨a',xs',z1,z2,z3,z4,z5⟩:=sr.sl i _ e
  exact⟨a',xs',z4,z2,z5.mono le⟩
theorem aK {f:FE}(he:DP X c k e f)(hk:k≠ .b:=by decide):DS X c k (.Return (some e) pos) (aI f):=λρ=>PS.imp (qw (mR λhid=>he hid ρ)) λD σ H hq_=>by
 obtain⟨hid,sr,q⟩:=hq_
 unfold aI at q;cases e1:f ρ with
 |none=>rw[e1] at q;exact q.elim
 |some z=>rw[e1] at q;exact⟨hid,sr,_,e1,λv H' s r=>q v H' (uv hk (sr.post s r hk) sr.h0)⟩
def tq:Option Sl->Option (List D)
 |some (.own ds)=>some ds
 |_=>none
def vg(i:Nat):FS:=λρ=>match tq ρ[i]? with
 |some ds=>.rt (.lst ds) ρ
 |none=>.no
theorem su {o:Option Sl}{ds:List D}(h:tq o=some ds):o=some (.own ds):=by
 unfold tq at h;split at h
 ·cases h;rfl
 ·cases h
theorem wF(i:Nat){x:Str}{pos':Pos}(hN:X.N[i]? =some x:=by rfl)(hv:tX X.env.scope x:=by first|exact Or.inl rfl|exact Or.inr (Or.inl rfl)|exact Or.inr (Or.inr rfl))(hd:(x==("__debug__":Str))=false:=by decide)
 (hcd:(x==("__classdict__":Str))=false:=by decide):DS X c .n (.Return (some (.Name x pos')) pos) (vg i):=λρ=>PS.imp (qw (pv i hN hv hd hcd)) λD σ H hq_=>by
 obtain⟨hid,sr,q⟩:=hq_
 unfold vg at q;cases e0:tq ρ[i]? with
 |none=>rw[e0] at q;exact q.elim
 |some ds=>
  rw[e0] at q;have e:=su e0
  obtain⟨a,xs,z1,z2,z3,z4,z5⟩:=sr.sl i _ e
  have le:Same (vw H hid) (vw H (cU c.hid₀ a)):=iN λb w=>by
   unfold cU at w;cases e:c.hid₀ b with
   |true=>exact sr.h0 b e
   |false=>
    rw[e] at w;have:b=a:=by simpa using w
    rw[this];exact z3
  refine⟨_,z1,q _ H ⟨sr.kp,⟨a,xs,ds,rfl,rfl,z4,z2,z5.mono le⟩,λj bs e'=>?_⟩⟩
  obtain⟨a',xs',w1,w2,w3,w4,w5⟩:=sr.sl j _ e'
  exact⟨a',xs',w4,w2,w5.mono le⟩
end
section
variable {K:W.Frag}{c:Ct}{hid:cn}{ρ:aL}{σ:St}{H H':Hp}{i:Nat}{a:Addr}{v:V}{d:D}
theorem SR.setV(h:SR K c hid ρ σ H)(r:Rep K (vw H hid) v d)(i:Nat):SR K c hid (ρ.set i (.v d)) (σ.set i (some v)) H:=by
 refine⟨h.tr,h.ht,h.h0,h.kp,h.t0,h.c0,h.m0,by simp[h.len],λj s q=>?_,λj l z n o1 o2 q1 q2=>?_⟩
 ·by_cases e:j=i
  ·subst e
   have lt:j<ρ.length:=by
    have:=(List.getElem?_eq_some_iff.mp q).1
    simpa using this
   rw[List.getElem?_set_self lt] at q;cases q
   exact⟨v,List.getElem?_set_self (by rw[h.len];exact lt),r⟩
  ·rw[List.getElem?_set_ne (Ne.symm e)] at q
   have w:=h.sl j s q
   have es:(σ.set i (some v))[j]? =σ[j]? :=List.getElem?_set_ne (Ne.symm e)
   cases s with
   |no=>trivial
   |v d=>obtain⟨x,h1,h2⟩:=w;exact⟨x,es.trans h1,h2⟩
   |own ds=>obtain⟨a,xs,h1,h2⟩:=w;exact⟨a,xs,es.trans h1,h2⟩
   |arg ds=>obtain⟨a,xs,h1,h2⟩:=w;exact⟨a,xs,es.trans h1,h2⟩
   |ob b=>obtain⟨a,h1,h2⟩:=w;exact⟨a,es.trans h1,h2⟩
 ·have nj: ∀m,Ow (ρ.set i (.v d))[m]? ->m≠i:=λm o e=>by
   subst e
   by_cases lt:m<ρ.length
   ·rw[List.getElem?_set_self lt] at o;exact o
   ·rw[List.getElem?_eq_none (by simpa using lt)] at o;exact o
  have e1:=nj j o1
  have e2:=nj l o2
  rw[List.getElem?_set_ne (Ne.symm e1)] at o1 q1;rw[List.getElem?_set_ne (Ne.symm e2)] at o2 q2;exact h.ap j l z n o1 o2 q1 q2
theorem SR.setO {xs:List V}{ds:List D}(h:SR K c hid ρ σ H)(ha:H a=some (.lst xs))(hh:hid a=true)(h0:c.H₀ a=none)(r:Reps K (vw H hid) xs ds)(no: ∀i:Nat,Ow ρ[i]? ->σ[i]? ≠some (some (.ref a)))(i:Nat):
 SR K c hid (ρ.set i (.own ds)) (σ.set i (some (.ref a))) H:=by
 refine⟨h.tr,h.ht,h.h0,h.kp,h.t0,h.c0,h.m0,by simp[h.len],λj s q=>?_,λj l z n o1 o2 q1 q2=>?_⟩
 ·by_cases e:j=i
  ·subst e
   have lt:j<ρ.length:=by
    have:=(List.getElem?_eq_some_iff.mp q).1
    simpa using this
   rw[List.getElem?_set_self lt] at q;cases q
   exact⟨a,xs,List.getElem?_set_self (by rw[h.len];exact lt),ha,hh,h0,r⟩
  ·rw[List.getElem?_set_ne (Ne.symm e)] at q
   have w:=h.sl j s q
   have es:(σ.set i (some (V.ref a)))[j]? =σ[j]? :=List.getElem?_set_ne (Ne.symm e)
   cases s with
   |no=>trivial
   |v d=>obtain⟨x,h1,h2⟩:=w;exact⟨x,es.trans h1,h2⟩
   |own ds=>obtain⟨a,xs,h1,h2⟩:=w;exact⟨a,xs,es.trans h1,h2⟩
   |arg ds=>obtain⟨a,xs,h1,h2⟩:=w;exact⟨a,xs,es.trans h1,h2⟩
   |ob b=>obtain⟨a,h1,h2⟩:=w;exact⟨a,es.trans h1,h2⟩
 ·by_cases e1:j=i
  ·subst e1
   have e2:l≠j:=λe=>n e.symm
   rw[List.getElem?_set_ne (Ne.symm e2)] at o2 q2
   by_cases lt:j<σ.length
   ·rw[List.getElem?_set_self lt] at q1;cases q1;exact no l o2 q2
   ·rw[List.getElem?_eq_none (by simpa using lt)] at q1;cases q1
  ·rw[List.getElem?_set_ne (Ne.symm e1)] at o1 q1
   by_cases e2:l=i
   ·subst e2
    by_cases lt:l<σ.length
    ·rw[List.getElem?_set_self lt] at q2;cases q2;exact no j o1 q1
    ·rw[List.getElem?_eq_none (by simpa using lt)] at q2;cases q2
   ·rw[List.getElem?_set_ne (Ne.symm e2)] at o2 q2
    exact h.ap j l z n o1 o2 q1 q2
end
section
variable {X:Cx}{c:Ct}{k:Kd}{st:Stmt}{sts rest:List Stmt}{t u:FS}{e:Expr}{es:List Expr}{pos pos':Pos}{x:Str}{i:Nat}
def gA(i:Nat)(f:GE):FS:=λρ=>match f ρ with
 |some (d,ρ')=>.nx (ρ'.set i (.v d))
 |none=>.no
def ba(i:Nat)(f:FE):FS:=λρ=>match f ρ with
 |some d=>.nx (ρ.set i (.v d))
 |none=>.no
def Ba:D->Option (List D)
 | .lst ds=>some ds
 |_=>none
def qr(i:Nat)(f:GE):FS:=λρ=>match f ρ with
 |some (d,ρ')=>(match Ba d with
  |some ds=>.nx (ρ'.set i (.own ds))
  |none=>.no)
 |none=>.no
def eS(i:Nat)(f:FE):FS:=λρ=>match f ρ with
 |some d=>(match Ba d with
  |some ds=>.nx (ρ.set i (.own ds))
  |none=>.no)
 |none=>.no
theorem gH(i:Nat){f:GE}(hn:X.N.Nodup)(he:DE X c .s e f)(hi:X.N[i]? =some x:=by rfl)(hx:vo X.env.scope x:=by first|exact Or.inl rfl|exact Or.inr rfl)(hs:swapsWith e (some (.Name x pos')) pos.line X.env=pure false:=by rfl)
 (hf:X.fn x=true\/X.env.scope.names.lookup x=some .local:=by first|exact .inl rfl|exact .inr rfl|assumption):DS X c k (.Assign [.Name x pos'] e pos) (gA i f):=λρ=>PS.imp (oC hn hi hx (mR λhid=>he hid ρ) hs hf) λD σ H hq_=>by
 obtain⟨hid,sr,q⟩:=hq_
 unfold gA at q;cases e1:f ρ with
 |none=>rw[e1] at q;exact q.elim
 |some z=>
  rw[e1] at q;exact⟨hid,sr,z.1,z.2,e1,λv H' ⟨kp,s',r⟩=>q _ H' hid (s'.setV r i) kp.vw⟩
theorem bG(i:Nat){f:FE}(hn:X.N.Nodup)(he:DP X c .s e f)(hi:X.N[i]? =some x:=by rfl)(hx:vo X.env.scope x:=by first|exact Or.inl rfl|exact Or.inr rfl)(hs:swapsWith e (some (.Name x pos')) pos.line X.env=pure false:=by rfl)
 (hf:X.fn x=true\/X.env.scope.names.lookup x=some .local:=by first|exact .inl rfl|exact .inr rfl|assumption):DS X c k (.Assign [.Name x pos'] e pos) (ba i f):=λρ=>PS.imp (oC hn hi hx (mR λhid=>he hid ρ) hs hf) λD σ H hq_=>by
 obtain⟨hid,sr,q⟩:=hq_
 unfold ba at q;cases e1:f ρ with
 |none=>rw[e1] at q;exact q.elim
 |some z=>
  rw[e1] at q;exact⟨hid,sr,z,e1,λv H' s' r=>q _ H' hid ((sr.ext s').setV r i) (bc s')⟩
theorem yM {K:W.Frag}{hid:cn}{ρ':aL}{σ:St}{H H':Hp}{v:V}{d:D}{D:Ends}(p:PostE K c hid .n ρ' σ H H' v d)(q:EndOk K c k D (vw H hid) (match Ba d with
 |some ds=>.nx (ρ'.set i (.own ds))
 |none=>.no)):D.nx (σ.set i (some v)) H':=by
 obtain⟨kp,a,xs,ds,rfl,rfl,hn,h1,h2,h3,h4,h5,h6⟩:=p
 refine q _ H' (cU hid a) (h4.setO h1 nL h2 h5 h6 i) λb o w=>?_
 obtain⟨w1,w2⟩:=vw_some.mp w
 refine vw_some.mpr ⟨?_,kp b o w2 w1⟩
 unfold cU;rw[w1];have:b≠a:=cu w2 hn
 simp[this]
theorem wN(i:Nat){f:GE}(hn:X.N.Nodup)(he:DE X c .n e f)(hi:X.N[i]? =some x:=by rfl)(hx:vo X.env.scope x:=by first|exact Or.inl rfl|exact Or.inr rfl)(hs:swapsWith e (some (.Name x pos')) pos.line X.env=pure false:=by rfl)
 (hf:X.fn x=true\/X.env.scope.names.lookup x=some .local:=by first|exact .inl rfl|exact .inr rfl|assumption):DS X c k (.Assign [.Name x pos'] e pos) (qr i f):=λρ=>PS.imp (oC hn hi hx (mR λhid=>he hid ρ) hs hf) λD σ H hq_=>by
 obtain⟨hid,sr,q⟩:=hq_
 unfold qr at q;cases e1:f ρ with
 |none=>rw[e1] at q;exact q.elim
 |some z=>
  rw[e1] at q;exact⟨hid,sr,z.1,z.2,e1,λv H' p=>yM p q⟩
theorem jr(i:Nat){f:FE}(hn:X.N.Nodup)(he:DP X c .n e f)(hi:X.N[i]? =some x:=by rfl)(hx:vo X.env.scope x:=by first|exact Or.inl rfl|exact Or.inr rfl)(hs:swapsWith e (some (.Name x pos')) pos.line X.env=pure false:=by rfl)
 (hf:X.fn x=true\/X.env.scope.names.lookup x=some .local:=by first|exact .inl rfl|exact .inr rfl|assumption):DS X c k (.Assign [.Name x pos'] e pos) (eS i f):=λρ=>PS.imp (oC hn hi hx (mR λhid=>he hid ρ) hs hf) λD σ H hq_=>by
 obtain⟨hid,sr,q⟩:=hq_
 unfold eS at q;cases e1:f ρ with
 |none=>rw[e1] at q;exact q.elim
 |some z=>
  rw[e1] at q;exact⟨hid,sr,z,e1,λv H' s r=>yM (sr.post s r (by decide)) q⟩
def eL(f:GE):FS:=λρ=>match f ρ with
 |some (_,ρ')=>.nx ρ'
 |none=>.no
theorem j0 {f:GE}(he:DE X c .s e f)(hs:swapsWith e none pos.line X.env=pure false:=by rfl):DS X c k (.Expr e pos) (eL f):=λρ=>PS.imp (vQ (mR λhid=>he hid ρ) hs) λD σ H hq_=>by
 obtain⟨hid,sr,q⟩:=hq_
 unfold eL at q;cases e1:f ρ with
 |none=>rw[e1] at q;exact q.elim
 |some z=>
  rw[e1] at q;exact⟨hid,sr,z.1,z.2,e1,λv H' ⟨kp,s',_⟩=>q _ H' hid s' kp.vw⟩
def yy(K:W.Frag)(r:V->List V->Hp->VK->Prop)(n:Nat)(M:List D->List D->Option (D×List D)):Prop:= ∀(H:Hp) (hid:cn) (a:Addr) (xs us:List V) (bs ds bs':List D) (d:D) (Q:VK),H a=some (.lst xs)->hid a=true->Reps K (vw H hid) xs bs->Reps K (vw H hid) us ds->
 ds.length=n->M bs ds=some (d,bs')->(∀w xs',Reps K (vw H hid) xs' bs'->Rep K (vw H hid) w d->Q w (dv H a (.lst xs')))->r (.ref a) us H Q
theorem xp {K:W.Frag}{r:V->List V->Hp->VK->Prop}{n:Nat}{M:List D->List D->Option (D×List D)}(hM:yy K r n M){hid:cn}{ρ1:aL}{σ:St}{H H1:Hp}{a:Addr}{us:List V}{bs ds bs':List D}{d:D}{Q:VK}(k1:Kept hid H H1)(s1:SR K c hid ρ1 σ H1)(e2:i4 i ρ1=some bs)
 (ha:σ[i]? =some (some (.ref a))) (r1:Reps K (vw H1 hid) us ds) (hn:ds.length=n) (hm:M bs ds=some (d,bs')) (q: ∀v H',PostE K c hid .s (h9 i bs' ρ1) σ H H' v d->Q v H'):r (.ref a) us H1 Q:=by
 obtain⟨a',xs,b1,b2,b3,b4,b5⟩:=s1.held e2
 rw[ha] at b1;cases b1;refine hM H1 hid a xs us bs ds bs' d Q b2 b3 b4 r1 hn hm λw xs' rx rw'=>q w _ ⟨k1.trans λb o z hb=>?_,?_,?_⟩
 ·rw[aR (λe=>by subst e;rw[b3] at hb;cases hb)];exact z
 ·exact s1.put e2 ha (λb o z hb=>by rw[aR hb];exact z) bM (by rw[i5 b3];exact rx)
 ·rw[i5 b3];exact rw'
variable {n:Nat}{M:List D->List D->Option (D×List D)}{fs:GA}{r:V->List V->Hp->VK->Prop}{y name:Str}{py apos:Pos}{id:String}
theorem jp(i:Nat)(hM:yy X.K r n M)(hm:zj X id r)(slot:Slot "list" name id)(hty:typeOf (.builtin id)=pure (.type "method_descriptor"))(ha:DG X c (e::es) fs)
 (hN:X.N[i]? =some y:=by rfl) (hv:tX X.env.scope y:=by first|exact Or.inl rfl|exact Or.inr (Or.inl rfl)|exact Or.inr (Or.inr rfl)) (hd:(y==("__debug__":Str))=false:=by decide) (hcd:(y==("__classdict__":Str))=false:=by decide)
 (hbase:attributeBase (.Name y py) name X.env (eval (.Name y py) X.env)=eval (.Name y py) X.env:=by rfl)
 (hfew:((backTo pos (starEach (e::es) X.env)).all (λx=> !x.1)&&(backToKw pos (keywordEach [] X.env)).all (λx=>x.1.isSome)
   &&decide ((e::es).length+([]:List Keyword).length+(if([]:List Keyword).isEmpty then 0 else 1)<30))=true:=by rfl)
 (hline:(apos.endLine==pos.line)=true:=by rfl) (hs:starEach (e::es) X.env=(false,eval e X.env)::starEach es X.env:=by rfl) (hplain:(backTo pos (starEach es X.env)).any (·.1)=false:=by rfl):
 DE X c .s (.Call (.Attribute (.Name y py) name apos) (e::es) [] pos) (aN i n M fs):=λhid ρ=>
 PE.imp (xw PySem.F.plainAttrs_list slot hty hm (pv i hN hv hd hcd) (ha hid ρ) hbase hfew hline hs hplain) λσ H Q hq_=>by
  obtain⟨sr,d,ρ',hd',q⟩:=hq_
  obtain⟨bs0,ds,ρ1,bs,bs',e0,e1,e2,e3,e4,rfl⟩:=jH hd'
  obtain⟨a,xs0,a1,a2,a3,_,_⟩:=sr.held e0
  exact⟨.ref a,a1,.inl ⟨rfl,_,SqL.of a2⟩,sr,ds,ρ1,e1,λus H1 k1 s1 r1=>xp hM k1 s1 e2 a1 r1 e3 e4 q⟩
theorem pq(i:Nat)(hM:yy X.K r 0 M)(hm:zj X id r)(slot:Slot "list" name id)(hty:typeOf (.builtin id)=pure (.type "method_descriptor"))
 (hN:X.N[i]? =some y:=by rfl) (hv:tX X.env.scope y:=by first|exact Or.inl rfl|exact Or.inr (Or.inl rfl)|exact Or.inr (Or.inr rfl)) (hd:(y==("__debug__":Str))=false:=by decide) (hcd:(y==("__classdict__":Str))=false:=by decide)
 (hbase:attributeBase (.Name y py) name X.env (eval (.Name y py) X.env)=eval (.Name y py) X.env:=by rfl) (hline:(apos.endLine==pos.line)=true:=by rfl):
 DE X c .s (.Call (.Attribute (.Name y py) name apos) [] [] pos) (aN i 0 M (cL ah)):=λhid ρ=>
 PE.imp (yp PySem.F.plainAttrs_list slot hty hm (pv i hN hv hd hcd) hbase hline) λσ H Q hq_=>by
  obtain⟨sr,d,ρ',hd',q⟩:=hq_
  obtain⟨bs0,ds,ρ1,bs,bs',e0,e1,e2,e3,e4,rfl⟩:=jH hd'
  obtain⟨e5,rfl⟩:=lR e1
  cases e5
  obtain⟨a,xs0,a1,a2,a3,_,_⟩:=sr.held e0
  exact⟨.ref a,a1,.inl ⟨rfl,_,SqL.of a2⟩,xp hM (.of (Same.refl _)) sr e2 a1 .nil e3 e4 q⟩
end
section
variable {K:W.Frag}
def jI:List D->List D->Option (D×List D):=λbs ds=>match ds with
 | [d]=>if bs.length<sizeLine then some (.non,bs++[d]) else none
 |_=>none
theorem kv:yy K qY 1 jI:=by
 intro H hid a xs us bs ds bs' d Q h1 h2 h3 h4 h5 h6 q;unfold jI at h6;split at h6
 ·split at h6
  ·cases h6
   cases h4 with
   |cons r t=>
    cases t
    exact⟨a,xs,_,rfl,rfl,h1,by rw[h3.length];assumption,q _ _ (h3.append (.cons r .nil)) .non⟩
  ·cases h6
 ·cases h6
def mW:List D->List D->Option (D×List D):=λbs ds=>match ds with
 | [.int i]=>match (if bs.length<=sizeLine then pX bs.length i else none) with
   |some j=>(bs[j]?).map λd=>(d,bs.eraseIdx j)
   |none=>none
 |_=>none
theorem yz:yy K tJ 1 mW:=by
 intro H hid a xs us bs ds bs' d Q h1 h2 h3 h4 h5 h6 q;unfold mW at h6;split at h6
 ·split at h6
  ·rename_i i _ j e
   cases e1:bs[j]? with
   |none=>rw[e1] at h6;cases h6
   |some z=>
    rw[e1] at h6;cases h6;cases h4 with
    |cons r t=>
     cases t
     cases r
     obtain⟨x,g1,g2⟩:=h3.get e1
     split at e
     ·obtain⟨w1,w2,w3,w4⟩:=oy e
      have hl:=h3.length
      have l63:=i9
      refine⟨a,xs,i,j,x,rfl,rfl,h1,by omega,by omega,by rw[hl];exact w1,g1,q _ _ (h3.eraseIdx j) g2⟩
     ·cases e
  ·cases h6
 ·cases h6
end
abbrev FG:=D->aL->Option aL
abbrev qg:=List D->aL->Option aL
def OwK(ρ ρ':aL)(σ σ':St):Prop:= ∀i:Nat,Ow ρ'[i]? ->Ow ρ[i]? /\σ'[i]? =σ[i]?
theorem OwK.trans {ρ ρ1 ρ2:aL}{σ σ1 σ2:St}(a:OwK ρ ρ1 σ σ1)(b:OwK ρ1 ρ2 σ1 σ2):OwK ρ ρ2 σ σ2:=λi o=>⟨(a i (b i o).1).1,(b i o).2.trans (a i (b i o).1).2⟩
def AD(K:W.Frag)(c:Ct)(hid:cn)(g:FG)(ρ:aL)(d:D):TG:=λv σ H Q=>SR K c hid ρ σ H/\Rep K (vw H hid) v d/\ ∃ρ',g d ρ=some ρ'/\ ∀σ',SR K c hid ρ' σ' H->OwK ρ ρ' σ σ'->Q σ' H
def tm(X:Cx)(c:Ct)(tg:Expr)(g:FG):Prop:= ∀hid ρ d,PG X tg (AD X.K c hid g ρ d)
def AA(K:W.Frag)(c:Ct)(hid:cn)(g:qg)(ρ:aL)(d:List D):ua:=λv σ H Q=>SR K c hid ρ σ H/\Reps K (vw H hid) v d/\ ∃ρ',g d ρ=some ρ'/\ ∀σ',SR K c hid ρ' σ' H->OwK ρ ρ' σ σ'->Q σ' H
def Ap(X:Cx)(c:Ct)(tg:List Expr)(g:qg):Prop:= ∀hid ρ d,PGs X tg (AA X.K c hid g ρ d)
theorem PG.imp {X:Cx}{e:Expr}{t t':TG}(h:PG X e t)(i: ∀v σ H Q,t' v σ H Q->t v σ H Q):PG X e t':=λae s σ H v u Q I r q=>h ae s σ H v u Q I r (i v σ H Q q)
theorem PGs.imp {X:Cx}{e:List Expr}{t t':ua}(h:PGs X e t)(i: ∀v σ H Q,t' v σ H Q->t v σ H Q):PGs X e t':=λae s σ H v u Q I r q=>h ae s σ H v u Q I r (i v σ H Q q)
theorem uw {X:Cx}{e:Expr}{α:Type}{t:α->TG}(h: ∀z,PG X e (t z)):PG X e (λv σ H Q=> ∃z,t z v σ H Q):=λae s σ H v u Q I r ⟨z,q⟩=>h z ae s σ H v u Q I r q
theorem qR {X:Cx}{e:List Expr}{α:Type}{t:α->ua}(h: ∀z,PGs X e (t z)):PGs X e (λv σ H Q=> ∃z,t z v σ H Q):=λae s σ H v u Q I r ⟨z,q⟩=>h z ae s σ H v u Q I r q
section
variable {X:Cx}{c:Ct}{k:Kd}{st:Stmt}{sts body:List Stmt}{t u:FS}{e tg iter:Expr}{es:List Expr}{pos pos':Pos}{x:Str}{i:Nat}
def gN(i:Nat):FG:=λd ρ=>some (ρ.set i (.v d))
theorem aB(i:Nat)(hn:X.N.Nodup)(hi:X.N[i]? =some x:=by rfl)(hx:vo X.env.scope x:=by first|exact Or.inl rfl|exact Or.inr rfl)(hf:X.fn x=true\/X.env.scope.names.lookup x=some .local:=by first|exact .inl rfl|exact .inr rfl|assumption):
 tm X c (.Name x pos) (gN i):=λhid ρ d=>PG.imp (xb (i:=i) hn hi hx hf) λv σ H Q hq_=>by
 obtain⟨sr,r,ρ',e,q⟩:=hq_
 cases e
 refine q _ (sr.setV r i) λj o=>?_
 have ne:j≠i:=λe=>by
  subst e
  by_cases lt:j<ρ.length
  ·rw[List.getElem?_set_self lt] at o;exact o
  ·rw[List.getElem?_eq_none (by simpa using lt)] at o;exact o
 rw[List.getElem?_set_ne (Ne.symm ne)] at o⊢;exact⟨o,rfl⟩
def iQ:qg:=λds ρ=>match ds with
 | []=>some ρ
 |_=>none
def cQ(g:FG)(gs:qg):qg:=λds ρ=>match ds with
 | []=>none
 |d::r=>(g d ρ).bind λρ'=>gs r ρ'
theorem ee:Ap X c [] iQ:=λhid ρ d=>PGs.imp rF λv σ H Q hq_=>by
 obtain⟨sr,r,ρ',e,q⟩:=hq_
 unfold iQ at e;split at e
 ·cases e;cases r;exact⟨rfl,q σ sr λi o=>⟨o,rfl⟩⟩
 ·cases e
theorem aU {g:FG}{gs:qg}(h1:tm X c e g)(h2:Ap X c es gs)(hs:(assignEach (e::es) X.env).map (·.2)=assign e X.env::(assignEach es X.env).map (·.2):=by rfl):Ap X c (e::es) (cQ g gs):=λhid ρ d=>
 PGs.imp (pY (uw λd=>h1 hid ρ d) (qR λz:aL×List D=>h2 hid z.1 z.2) hs) λv σ H Q hq_=>by
  obtain⟨sr,r,ρ',e,q⟩:=hq_
  cases d with
  |nil=>cases e
  |cons d1 ds=>
   cases r with
   |cons r1 r2=>
    have e:(g d1 ρ).bind (λρ'=>gs ds ρ')=some ρ':=e
    cases e1:g d1 ρ with
    |none=>rw[e1] at e;cases e
    |some ρ1=>
     rw[e1] at e;exact⟨_,_,rfl,d1,sr,r1,ρ1,e1,λσ1 s1 o1=>⟨(ρ1,ds),s1,r2,ρ',e,λσ2 s2 o2=>q σ2 s2 (o1.trans o2)⟩⟩
def gT(n:Nat)(gs:qg):FG:=λd ρ=>match d with
 | .tup ds=>if ds.length=n then gs ds ρ else none
 |_=>none
theorem eA {gs:qg}{kk n:Nat}(hc:X.calm=true)(h:Ap X c es gs)(hn:(assignEach es X.env).length=n:=by rfl)(hst:(assignEach es X.env).findIdx? (·.1)=none:=by rfl):tm X c (.Tuple es kk pos) (gT n gs):=λhid ρ d=>
 PG.imp (ui hc (qR λds=>h hid ρ ds) hn hst) λv σ H Q hq_=>by
  obtain⟨sr,r,ρ',e,q⟩:=hq_
  unfold gT at e;split at e
  ·split at e
   ·cases r with
    |tup h1 h2=>exact⟨_,_,rfl,Same.seqT (fH _ _) h1,by rw[h2.length];assumption,_,sr,h2,ρ',e,q⟩
   ·cases e
  ·cases e
def yY:Option aL->Out
 |some ρ=>.nx ρ
 |none=>.no
def cr(g:FG)(f:GE):FS:=λρ=>match f ρ with
 |some z=>yY (g z.1 z.2)
 |none=>.no
theorem gS {g:FG}{f:GE}(he:DE X c .s e f)(hg:tm X c tg g)(hs:swapsWithSole [tg] e pos.line X.env=pure false:=by rfl)(hw:swappedStores [tg] e X.env=pure none:=by rfl)
 (h1:(assignEach [tg] X.env).map (·.2)=[assign tg X.env]:=by rfl):DS X c k (.Assign [tg] e pos) (cr g f):=λρ=>
 PS.imp (u9 (mR λhid=>he hid ρ) (uw λz:cn×aL×D=>hg z.1 z.2.1 z.2.2) hs hw h1) λD σ H hq_=>by
  obtain⟨hid,sr,q⟩:=hq_
  unfold cr at q;cases e1:f ρ with
  |none=>rw[e1] at q;exact q.elim
  |some z=>
   rw[e1] at q;cases e2:g z.1 z.2 with
   |none=>dsimp only at q;rw[e2] at q;exact q.elim
   |some ρ2=>
    dsimp only at q;rw[e2] at q;exact⟨hid,sr,z.1,z.2,e1,λv H' ⟨kp,s',r⟩=>⟨(hid,z.2,z.1),s',r,ρ2,e2,λσ' s2 _=>q σ' H' hid s2 kp.vw⟩⟩
def db(i:Nat)(fi:FE)(d:D)(ρ:aL):Option aL:=match i4 i ρ with
 |some bs=>(match fi ρ with
  |some (.int j)=>(match pX bs.length j with
   |some m=>some (h9 i (bs.set m d) ρ)
   |none=>none)
  |_=>none)
 |none=>none
theorem qp {fi:FE}{d:D}{ρ ρ':aL}(h:db i fi d ρ=some ρ'): ∃bs j m,i4 i ρ=some bs/\fi ρ=some (.int j)/\pX bs.length j=some m/\ρ'=h9 i (bs.set m d) ρ:=by
 unfold db at h;split at h
 ·split at h
  ·split at h
   ·cases h;exact⟨_,_,_, ‹_›, ‹_›, ‹_›,rfl⟩
   ·cases h
  ·cases h
 ·cases h
def AX(K:W.Frag)(c:Ct)(hid:cn)(g:FG)(ρ:aL)(d:D):TG:=λv σ H Q=>SR K c hid ρ σ H/\Rep K (vw H hid) v d/\ ∃ρ',g d ρ=some ρ'/\ ∀H',Kept hid H H'->SR K c hid ρ' σ H'->Q σ H'
def Ai(X:Cx)(c:Ct)(tg:Expr)(g:FG):Prop:= ∀hid ρ d,PG X tg (AX X.K c hid g ρ d)
theorem iB(i:Nat){y:Str}{py:Pos}{ix:Expr}{fi:FE}{k1:Kd}(hi:DP X c k1 ix fi)(hN:X.N[i]? =some y:=by rfl)(hv:tX X.env.scope y:=by first|exact Or.inl rfl|exact Or.inr (Or.inl rfl)|exact Or.inr (Or.inr rfl))(hd:(y==("__debug__":Str))=false:=by decide)(hcd:(y==("__classdict__":Str))=false:=by decide)
 (ha: ∀v,assign (.Subscript (.Name y py) ix pos) X.env v=(do
   let ov <-holding [v] (eval (.Name y py) X.env)
   let iv <-holding [v,ov] (eval ix X.env)
   standAt pos
   holding [v,ov,iv] (setItem ov iv v)
   release [v,ov,iv] []):=by intro _;rfl):Ai X c (.Subscript (.Name y py) ix pos) (db i fi):=λhid ρ d=>
 PG.imp (xJ (pv i hN hv hd hcd) (hi hid ρ) uV ha) λv σ H Q hq_=>by
  obtain⟨sr,r,ρ',e,q⟩:=hq_
  obtain⟨bs,j,m,e1,e2,e3,rfl⟩:=qp e
  obtain⟨a,xs,a1,a2,a3,a4,a5⟩:=sr.held e1
  refine⟨.ref a,a1,sr,_,e2,λw H1 s1 r1=>?_⟩
  have b1:=(RK.b k1 r1 λa n=>sr.fresh n).int
  cases b1
  have a4':=a4.mono (bc (hid:=hid) s1)
  refine⟨a,xs,j,m,rfl,rfl,s1 _ _ a2,by rw[a4.length];exact e3,q _ (λb o z hb=>?_) ?_⟩
  ·rw[aR (λe=>by subst e;rw[a3] at hb;cases hb)];exact s1 _ _ z
  ·exact(sr.ext s1).put e1 a1 (λb o z hb=>by rw[aR hb];exact z) bM (by rw[i5 a3];exact Reps.set (r.mono (bc s1)) m a4')
theorem lG {g:FG}{f:GE}(he:DE X c .s e f)(hg:Ai X c tg g)(hs:swapsWithSole [tg] e pos.line X.env=pure false:=by rfl)(hw:swappedStores [tg] e X.env=pure none:=by rfl)
 (h1:(assignEach [tg] X.env).map (·.2)=[assign tg X.env]:=by rfl):DS X c k (.Assign [tg] e pos) (cr g f):=λρ=>
 PS.imp (u9 (mR λhid=>he hid ρ) (uw λz:cn×aL×D=>hg z.1 z.2.1 z.2.2) hs hw h1) λD σ H hq_=>by
  obtain⟨hid,sr,q⟩:=hq_
  unfold cr at q;cases e1:f ρ with
  |none=>rw[e1] at q;exact q.elim
  |some z=>
   rw[e1] at q;cases e2:g z.1 z.2 with
   |none=>dsimp only at q;rw[e2] at q;exact q.elim
   |some ρ2=>
    dsimp only at q;rw[e2] at q;exact⟨hid,sr,z.1,z.2,e1,λv H' ⟨kp,s',r⟩=>⟨(hid,z.2,z.1),s',r,ρ2,e2,λH2 k2 s2=>q σ H2 hid s2 (kp.trans k2).vw⟩⟩
def AQ(K:W.Frag)(c:Ct)(hid:cn)(g:qg)(ρ:aL)(d:List D):ua:=λv σ H Q=>SR K c hid ρ σ H/\Reps K (vw H hid) v d/\ ∃ρ',g d ρ=some ρ'/\ ∀H',Kept hid H H'->SR K c hid ρ' σ H'->Q σ H'
def Aq(X:Cx)(c:Ct)(tg:List Expr)(g:qg):Prop:= ∀hid ρ d,PGs X tg (AQ X.K c hid g ρ d)
theorem rM:Aq X c [] iQ:=λhid ρ d=>PGs.imp rF λv σ H Q hq_=>by
 obtain⟨sr,r,ρ',e,q⟩:=hq_
 unfold iQ at e;split at e
 ·cases e;cases r;exact⟨rfl,q H (.of (Same.refl _)) sr⟩
 ·cases e
theorem j8 {g:FG}{gs:qg}(h1:Ai X c e g)(h2:Aq X c es gs)(hs:(assignEach (e::es) X.env).map (·.2)=assign e X.env::(assignEach es X.env).map (·.2):=by rfl):Aq X c (e::es) (cQ g gs):=λhid ρ d=>
 PGs.imp (pY (uw λd=>h1 hid ρ d) (qR λz:aL×List D=>h2 hid z.1 z.2) hs) λv σ H Q hq_=>by
  obtain⟨sr,r,ρ',e,q⟩:=hq_
  cases d with
  |nil=>cases e
  |cons d1 ds=>
   cases r with
   |cons r1 r2=>
    have e:(g d1 ρ).bind (λρ'=>gs ds ρ')=some ρ':=e
    cases e1:g d1 ρ with
    |none=>rw[e1] at e;cases e
    |some ρ1=>
     rw[e1] at e;exact⟨_,_,rfl,d1,sr,r1,ρ1,e1,λH1 k1 s1=>⟨(ρ1,ds),s1,r2.mono k1.vw,ρ',e,λH2 k2 s2=>q H2 (k1.trans k2) s2⟩⟩
theorem qU {gs:qg}{kk n:Nat}(hc:X.calm=true)(h:Aq X c es gs)(hn:(assignEach es X.env).length=n:=by rfl)(hst:(assignEach es X.env).findIdx? (·.1)=none:=by rfl):Ai X c (.Tuple es kk pos) (gT n gs):=λhid ρ d=>
 PG.imp (ui hc (qR λds=>h hid ρ ds) hn hst) λv σ H Q hq_=>by
  obtain⟨sr,r,ρ',e,q⟩:=hq_
  unfold gT at e;split at e
  ·split at e
   ·cases r with
    |tup h1 h2=>exact⟨_,_,rfl,Same.seqT (fH _ _) h1,by rw[h2.length];assumption,_,sr,h2,ρ',e,q⟩
   ·cases e
  ·cases e
def ItOk(K:W.Frag)(W:Hp)(J:It)(ds:List D):Prop:=
 (∀(i:Nat) (d:D) (H:Hp),ds[i]? =some d->Same W H->J.go i H/\ ∀x H',J.yld i H x H'->Same H H'/\ ∀hid:cn,(∀b,hid b=true-> ∃o,H b=some o)->Same W (vw H hid)->Rep K (vw H' hid) x d)/\ ∀H,Same W H->J.stop ds.length H
def BM(K:W.Frag)(c:Ct)(hid:cn)(f:GA)(ρ:aL):TI:=λσ H R=>SR K c hid ρ σ H/\ ∃ds ρ',f ρ=some (ds,ρ')/\ ∀J H',Kept hid H H'->SR K c hid ρ' σ H'->ItOk K (vw H' hid) J ds->R J H'
def DI(X:Cx)(c:Ct)(tg iter:Expr)(f:GA):Prop:= ∀hid ρ,PI X tg iter (BM X.K c hid f ρ)
theorem PI.imp {t t':TI}(h:PI X tg iter t)(i: ∀σ H Q,t' σ H Q->t σ H Q):PI X tg iter t':=λae s σ H R I q=>h ae s σ H R I (i σ H R q)
theorem A1 {α:Type}{t:α->TI}(h: ∀z,PI X tg iter (t z)):PI X tg iter (λσ H R=> ∃z,t z σ H R):=λae s σ H R I ⟨z,q⟩=>h z ae s σ H R I q
theorem uQ {K:W.Frag}{W:Hp}{a:Addr}{xs:List V}{ds:List D}(h:SqT K W a xs)(r:Reps K W xs ds):ItOk K W (AJ K a) ds:=by
 refine⟨λi d H e s=>?_,λH s=>⟨xs,Same.seqT s h,by rw[r.length];exact Nat.le_refl _⟩⟩
 obtain⟨x,e1,r1⟩:=r.get e
 refine⟨⟨xs,x,Same.seqT s h,e1⟩,λy H' ⟨e2,e3⟩=>?_⟩
 subst e2;have:=e3 xs (Same.seqT s h)
 rw[e1] at this;cases this;exact⟨Same.refl _,λhid _ sw=>r1.mono sw⟩
def sK(lo:Int)(n:Nat):List D:=(List.range n).map λ(i:Nat)=>D.int (lo+i)
theorem qo {K:W.Frag}{W:Hp}{lo:Int}{n:Nat}:ItOk K W (Ah lo n) (sK lo n):=by
 refine⟨λi d H e s=>?_,λH s=>by show n<=(sK lo n).length;simp[sK]⟩
 unfold sK at e;rw[List.getElem?_map] at e;cases e1:(List.range n)[i]? with
 |none=>rw[e1] at e;cases e
 |some j=>
  rw[e1] at e;obtain⟨h1,h2⟩:=List.getElem?_eq_some_iff.mp e1
  simp at h1 h2;subst h2;cases e
  refine⟨h1,λy H' ⟨e2,e3⟩=>?_⟩
  subst e2 e3;exact⟨Same.refl _,λhid _ sw=>.int⟩
def fz(g:FG)(b:FS):List D->FS
 | [],ρ=>.nx ρ
 |d::r,ρ=>match g d ρ with
  |none=>.no
  |some ρ1=>match b ρ1 with
   | .nx ρ2=>fz g b r ρ2
   | .ct ρ2=>fz g b r ρ2
   | .bk ρ2=>.nx ρ2
   | .rt d ρ2=>.rt d ρ2
   | .no=>.no
def iK(f:GA)(g:FG)(b:FS):FS:=λρ=>match f ρ with
 |some (ds,ρ')=>fz g b ds ρ'
 |none=>.no
theorem ms {f:GA}{g:FG}{tb:FS}(hp:PassesOwn (model X.prog X.w) X.A X.env X.xe)(hc:X.calm=true)(hi:DI X c tg iter f)(hg:tm X c tg g)(hb:oS X c k body tb)
 (hs: ∀x,foldedSetIterable iter X.env x=pure x:=by intro _;rfl):DS X c k (.For tg iter body [] pos) (iK f g tb):=λρ=>
 PS.imp (xN hp hc (A1 λhid=>hi hid ρ) (uw λz:cn×aL×D=>hg z.1 z.2.1 z.2.2) (ng λρ=>hb ρ) hs) λD σ H hq_=>by
  obtain⟨hid,sr,q⟩:=hq_
  unfold iK at q;cases e1:f ρ with
  |none=>rw[e1] at q;exact q.elim
  |some z=>
   obtain⟨ds,ρ0⟩:=z
   rw[e1] at q;have q':EndOk X.K c k D (vw H hid) (fz g tb ds ρ0):=q
   refine⟨hid,sr,ds,ρ0,e1,λJ H1 kp s1 it=>?_⟩
   refine⟨λi m σ H=>m=ds.length-i/\i<=ds.length/\ ∃hid2 ρ2,SR X.K c hid2 ρ2 σ H/\Same (vw H1 hid) (vw H hid2)/\EndOk X.K c k D (vw H hid2) (fz g tb (ds.drop i) ρ2),⟨ds.length,by simp,Nat.zero_le _,hid,ρ0,s1,Same.refl _,EndOk.mono q' kp.vw⟩,?_⟩
   rintro i m σ2 H2 ⟨rfl,hi',hid2,ρ2,s2,w2,q2⟩
   have wH:Same (vw H1 hid) H2:=w2.trans (fH _ _)
   by_cases hlt:i<ds.length
   ·have hd:ds[i]? =some ds[i]:=List.getElem?_eq_getElem hlt
    have e2:ds.drop i=ds[i]::ds.drop (i+1):=List.drop_eq_getElem_cons hlt
    rw[e2] at q2;unfold fz at q2;obtain⟨go,yl⟩:=it.1 i ds[i] H2 hd wH
    refine .inr ⟨go,λσ' H'=> ∃hid3 ρ3,SR X.K c hid3 ρ3 σ' H'/\Same (vw H1 hid) (vw H' hid3)/\EndOk X.K c k D (vw H' hid3) (fz g tb (ds.drop (i+1)) ρ3),λσ' H' n3=>⟨ds.length- (i+1),by omega,rfl,hlt,n3⟩,λx H3 y=>?_⟩
    obtain⟨s3,rp⟩:=yl x H3 y
    have rx:=rp hid2 s2.tr w2
    cases e3:g ds[i] ρ2 with
    |none=>rw[e3] at q2;exact q2.elim
    |some ρ3=>
     rw[e3] at q2;refine⟨(hid2,ρ2,ds[i]),s2.ext s3,rx,ρ3,e3,λσ4 s4 _=>⟨ρ3,hid2,s4,?_⟩⟩
     have w3:Same (vw H2 hid2) (vw H3 hid2):=bc s3
     dsimp only at q2;cases e4:tb ρ3 with
     |nx ρ5=>rw[e4] at q2;exact λσ' H' hid' z w=>⟨hid',ρ5,z,(w2.trans w3).trans w,EndOk.mono q2 (w3.trans w)⟩
     |ct ρ5=>rw[e4] at q2;exact λσ' H' hid' z w=>⟨hid',ρ5,z,(w2.trans w3).trans w,EndOk.mono q2 (w3.trans w)⟩
     |bk ρ5=>rw[e4] at q2;exact λσ' H' hid' z w=>q2 σ' H' hid' z (w3.trans w)
     |rt d ρ5=>rw[e4] at q2;exact q2
     |no=>rw[e4] at q2;exact q2.elim
   ·have e:i=ds.length:=by omega
    subst e;rw[List.drop_eq_nil_of_le (Nat.le_refl _)] at q2;exact .inl ⟨it.2 H2 wH,q2 σ2 H2 hid2 s2 (Same.refl _)⟩
def oh(p:FT)(b:FS):Nat->FS
 |0,_=>.no
 |n+1,ρ=>match p ρ with
  |none=>.no
  |some false=>.nx ρ
  |some true=>match b ρ with
   | .nx ρ2=>oh p b n ρ2
   | .ct ρ2=>oh p b n ρ2
   | .bk ρ2=>.nx ρ2
   | .rt d ρ2=>.rt d ρ2
   | .no=>.no
theorem p7(n:Nat){p:FT}{tb:FS}(hp:PassesOwn (model X.prog X.w) X.A X.env X.xe)(hc:DT X c e p)(hb:oS X c k body tb):DS X c k (.While e body [] pos) (oh p tb n):=λρ=>
 PS.imp (uJ hp (xh λz:cn×aL=>hc z.1 z.2) (ng λρ=>hb ρ)) λD σ H hq_=>by
  obtain⟨hid,sr,q⟩:=hq_
  refine⟨λm σ H=> ∃hid2 ρ2,SR X.K c hid2 ρ2 σ H/\EndOk X.K c k D (vw H hid2) (oh p tb m ρ2),⟨n,hid,ρ,sr,q⟩,?_⟩
  rintro m σ2 H2 ⟨hid2,ρ2,s2,q2⟩
  cases m with
  |zero=>exact q2.elim
  |succ m=>
   unfold oh at q2;cases e1:p ρ2 with
   |none=>rw[e1] at q2;exact q2.elim
   |some b=>
    rw[e1] at q2;refine⟨(hid2,ρ2),s2,b,e1,λH3 s3=>?_⟩
    cases b with
    |false=>exact om (q2 σ2 H3 hid2 (s2.ext s3) (bc s3))
    |true=>
     refine nW ⟨λσ' H'=> ∃hid3 ρ3,SR X.K c hid3 ρ3 σ' H'/\EndOk X.K c k D (vw H' hid3) (oh p tb m ρ3),λσ' H' n3=>⟨m,Nat.lt_succ_self _,n3⟩,ρ2,hid2,s2.ext s3,?_⟩
     have w3:Same (vw H2 hid2) (vw H3 hid2):=bc s3
     dsimp only at q2;cases e4:tb ρ2 with
     |nx ρ5=>rw[e4] at q2;exact λσ' H' hid' z w=>⟨hid',ρ5,z,EndOk.mono q2 (w3.trans w)⟩
     |ct ρ5=>rw[e4] at q2;exact λσ' H' hid' z w=>⟨hid',ρ5,z,EndOk.mono q2 (w3.trans w)⟩
     |bk ρ5=>rw[e4] at q2;exact λσ' H' hid' z w=>q2 σ' H' hid' z (w3.trans w)
     |rt d ρ5=>rw[e4] at q2;exact q2
     |no=>rw[e4] at q2;exact q2.elim
end
def dX(n:Nat)(ds:List D):aL:=ds.map Sl.v++List.replicate (n-ds.length) .no
def fO(kd:Kd)(n:Nat)(t:FS)(ds:List D):Option D:=match t (dX n ds) with
 | .rt d _=>some d
 | .nx _=>(match kd with
   | .n=>none
   |_=>some .non)
 |_=>none
def mJ(n:Nat)(bs ds:List D):aL:=.arg bs::(ds.map Sl.v++List.replicate (n-1-ds.length) .no)
def lS:aL->Option (List D)
 | .arg bs::_=>some bs
 |_=>none
def pS(kd:Kd)(n:Nat)(t:FS)(bs ds:List D):Option (D×List D):=match t (mJ n bs ds) with
 | .rt d ρ=>(lS ρ).map λb=>(d,b)
 | .nx ρ=>(match kd with
   | .n=>none
   |_=>(lS ρ).map λb=>(.non,b))
 |_=>none
theorem tZ {K:W.Frag}{c:Ct}{hid:cn}{H:Hp}(m:Nat): ∀ {vs:List V} {ds:List D},Reps K (vw H hid) vs ds-> ∀(i:Nat) (s:Sl),(ds.map Sl.v++List.replicate m .no)[i]? =some s->SlOk K c hid (vs.map some++List.replicate m none) H i s:=by
 intro vs ds r i s e;have hl:=r.length
 by_cases hi:i<ds.length
 ·rw[List.getElem?_append_left (by simpa using hi),List.getElem?_map] at e
  have e2:ds[i]? =some ds[i]:=List.getElem?_eq_getElem hi
  rw[e2] at e;cases e
  obtain⟨x,h1,h2⟩:=r.get e2
  exact⟨x,by rw[List.getElem?_append_left (by simp;omega),List.getElem?_map,h1];rfl,h2⟩
 ·rw[List.getElem?_append_right (by simpa using hi),List.getElem?_replicate] at e
  split at e
  ·cases e;trivial
  ·cases e
theorem xQ {ds:List D}{m i:Nat}: ¬Ow (ds.map Sl.v++List.replicate m Sl.no)[i]? :=λo=>by
 by_cases hi:i<ds.length
 ·rw[List.getElem?_append_left (by simpa using hi),List.getElem?_map,List.getElem?_eq_getElem hi] at o
  exact o
 ·rw[List.getElem?_append_right (by simpa using hi),List.getElem?_replicate] at o
  split at o<;>exact o
theorem SR.begins {K:W.Frag}{hid:cn}{H:Hp}{N:List Str}{vs:List V}{ds:List D}(tr:zi hid H)(r:Reps K (vw H hid) vs ds):SR K ⟨H,hid,λ_=>false⟩ hid (dX N.length ds) (ig N vs) H:=by
 have hl:=r.length
 unfold ig dX;rw[hl];exact⟨tr.1,tr.2,λ_ h=>h,λ_ _ h _=>h,λb o h=>⟨o,h⟩,tr.1,(λ_ h=>nomatch h),by simp[hl],λi s e=>tZ _ r i s e,λi j a _ o=>absurd o xQ⟩
section
variable {P:Program}{w:World}{K:W.Frag}{mg:Str->Option Value}{base:Heap}{x qual:Str}{st:Stmt}{f:Addr}{fd:FuncData}{N ps:List Str}{k:Nat}{t:FS}{kd:Kd}
theorem rZ(F:Fun K x qual st f fd)(S:FnScope N ps (ak st))(hkd:kd≠ .b)
 (body: ∀(cdv:Value) (A:Around) (outer:List Env) (s:Shared) (H:Hp) (hid:cn) (E:XK),Room k (A.deeper (envOfC qual (ak st) s.heap.objs.size f cdv))->
   oS (kR oV P w K mg base N qual (ak st) f cdv A outer s H E).nox ⟨H,hid,λ_=>false⟩ kd (aG st) t):
 FnOk P w K mg base oV (k+1) f fd ps (eP K kd ps.length (fO kd N.length t)):=by
 refine F.ok S (λvs H Q E h=>?_) (λcdv A outer s H vs Q E hr h=>?_)
 ·obtain⟨hid,ds,_,r,hl,_⟩:=h
  rw[r.length,hl]
 ·obtain⟨hid,ds,tr,r,hl,d,hP,q⟩:=h
  refine⟨_,body cdv A outer s H hid E hr (dX N.length ds),hid,SR.begins tr r,?_⟩
  unfold fO at hP;cases e:t (dX N.length ds) with
  |nx ρ=>
   rw[e] at hP;intro σ' H' hid' sr _;have sm:Same H H':=λb o z=>sr.kp b o z rfl
   cases kd with
   |b=>exact absurd rfl hkd
   |s=>cases hP;exact q _ H' sm .non
   |n=>cases hP
  |rt d' ρ=>
   rw[e] at hP;cases hP
   intro v H' R;have sm:Same H H':=λb o z=>R.kp b o z rfl
   cases kd with
   |b=>exact absurd rfl hkd
   |s=>exact q v H' sm R.val
   |n=>exact q v H' sm R.val
  |bk ρ=>rw[e] at hP;cases hP
  |ct ρ=>rw[e] at hP;cases hP
  |no=>rw[e] at hP;cases hP
theorem SR.beginsE {hid:cn}{H:Hp}{a:Addr}{xs us:List V}{bs ds:List D}(tr:zi hid H)(ha:hid a=true)(hx:H a=some (.lst xs))(rb:Reps K (vw H hid) xs bs)(r:Reps K (vw H hid) us ds)(hN:0<N.length):
 SR K ⟨H,hid,λb=>decide (b=a)⟩ hid (mJ N.length bs ds) (ig N (.ref a::us)) H:=by
 have hl:=r.length
 have es:ig N (.ref a::us)=some (V.ref a)::(us.map some++List.replicate (N.length-1-ds.length) none):=by
  unfold ig;rw[List.map_cons,List.cons_append,List.length_cons,hl];congr 3
  omega
 rw[es];unfold mJ;refine⟨tr.1,tr.2,λ_ h=>h,λ_ _ h _=>h,λb o h=>⟨o,h⟩,tr.1,λb h=>?_,by simp[hl],λi s e=>?_,λi j z n o1 o2 q1 q2=>?_⟩
 ·have:b=a:=by simpa using h
  rw[this];exact ha
 ·cases i with
  |zero=>
   cases e
   exact⟨a,xs,rfl,hx,ha,by simp,rb⟩
  |succ i=>
   have z:=tZ (c:=⟨H,hid,λb=>decide (b=a)⟩) (N.length-1-ds.length) r i s (by simpa using e)
   cases s with
   |no=>trivial
   |v d=>obtain⟨x,h1,h2⟩:=z;exact⟨x,by simpa using h1,h2⟩
   |own ds=>obtain⟨x,xs,h1,h2⟩:=z;exact⟨x,xs,by simpa using h1,h2⟩
   |arg ds=>obtain⟨x,xs,h1,h2⟩:=z;exact⟨x,xs,by simpa using h1,h2⟩
   |ob b=>obtain⟨x,h1,h2⟩:=z;exact⟨x,by simpa using h1,h2⟩
 ·cases i with
  |zero=>
   cases j with
   |zero=>exact n rfl
   |succ j=>exact xQ (by simpa using o2)
  |succ i=>exact xQ (by simpa using o1)
theorem sq {ρ:aL}{b:List D}(h:lS ρ=some b):ρ[0]? =some (.arg b):=by
 unfold lS at h;split at h
 ·cases h;rfl
 ·cases h
theorem yZ {n:Nat}(F:Fun K x qual st f fd)(S:FnScope N ps (ak st))(hkd:kd≠ .b)(hn:ps.length=n+1)
 (body: ∀(cdv:Value) (A:Around) (outer:List Env) (s:Shared) (H:Hp) (hid:cn) (a:Addr) (E:XK),Room k (A.deeper (envOfC qual (ak st) s.heap.objs.size f cdv))->
   oS (kR oV P w K mg base N qual (ak st) f cdv A outer s H E).nox ⟨H,hid,λb=>decide (b=a)⟩ kd (aG st) t):
 FnOk P w K mg base oV (k+1) f fd ps (oU K kd n (pS kd N.length t)):=by
 refine F.ok S (λvs H Q E h=>?_) (λcdv A outer s H vs Q E hr h=>?_)
 ·obtain⟨hid,a,xs,bs,us,ds,rfl,_,_,_,_,r,hl,_⟩:=h
  rw[List.length_cons,r.length,hl,hn]
 ·obtain⟨hid,a,xs,bs,us,ds,rfl,tr,ha,hx,rb,r,hl,d,bs',hM,q⟩:=h
  have hN:0<N.length:=by have:=congrArg List.length S.pre;rw[List.length_take] at this;omega
  refine⟨_,body cdv A outer s H hid a E hr (mJ N.length bs ds),hid,SR.beginsE tr ha hx rb r hN,?_⟩
  have fin: ∀(v:V) (H':Hp) (ρ:aL) (d:D),Ret K ⟨H,hid,λb=>decide (b=a)⟩ kd ρ H' v d->lS ρ=some bs'->(∀v H' xs',(∀b o,H b=some o->b≠a->H' b=some o)->H' a=some (.lst xs')->zK K kd hid H H' v d xs' bs'->Q v H')->Q v H':=by
   intro v H' ρ d R h0 q;obtain⟨a',xs',m1,m2,m3⟩:=R.arg 0 _ (sq h0)
   have:a'=a:=by simpa using m1
   subst this;refine q v H' xs' (λb o z n=>R.kp b o z (by simpa using n)) m2 ?_
   cases kd with
   |b=>exact absurd rfl hkd
   |s=>exact⟨R.val,m3⟩
   |n=>
    obtain⟨p,ys,es,rfl,rfl,h1,h2,h3⟩:=R.val
    exact⟨p,ys,es,rfl,rfl,h1,h2,h3,m3⟩
  unfold pS at hM;cases e:t (mJ N.length bs ds) with
  |nx ρ=>
   rw[e] at hM;intro σ' H' hid' sr _;cases kd with
   |b=>exact absurd rfl hkd
   |s=>
    dsimp only at hM;cases e0:lS ρ with
    |none=>rw[e0] at hM;cases hM
    |some b=>
     rw[e0] at hM;cases hM;exact fin .non H' ρ .non (uv (k:=.s) (by decide) (sr.post (k:=.s) (Same.refl _) .non (by decide)) sr.h0) e0 q
   |n=>cases hM
  |rt d' ρ=>
   rw[e] at hM;dsimp only at hM;cases e0:lS ρ with
   |none=>rw[e0] at hM;cases hM
   |some b=>
    rw[e0] at hM;cases hM;intro v H' R;exact fin v H' ρ _ R e0 q
  |bk ρ=>rw[e] at hM;cases hM
  |ct ρ=>rw[e] at hM;cases hM
  |no=>rw[e] at hM;cases hM
end
def q9(K:W.Frag):Sp:=λvs H Q _=> ∃(a:Addr) (ns:List Int),vs=[.ref a]/\SqR K H a (ns.map V.int)/\ns.length<=63/\ ∀H',Q (.bl true) H'
theorem nH {K:W.Frag}{F:Hp}: ∀ns:List Int,Reps K F (ns.map V.int) (ns.map D.int)
 | []=>.nil
 |_::r=>.cons .int (nH r)
theorem yc {P:Program}{w:World}{K:W.Frag}{mg:Str->Option Value}{base:Heap}{f:Addr}{fd:FuncData}{x:Str}{k:Nat}{M:List D->Option D}(F:FnOk P w K mg base oV k f fd [x] (eP K .s 1 M))(hM: ∀ns:List Int,ns.length<=63->M [.scr (ns.map D.int)]=some (.bl true)):
 FnOk P w K mg base oV k f fd [x] (q9 K):=F.imp λvs H Q E hq_=>by
 obtain⟨a,ns,e,hS,hl,q⟩:=hq_
 subst e;have hv:vw H (λ_=>false)=H:=by funext b;unfold vw;simp
 refine⟨λ_=>false,[.scr (ns.map D.int)],⟨(λb h=>nomatch h),(λb xs h=>nomatch h)⟩,?_,rfl,.bl true,hM ns hl,λv H' _ r=>?_⟩
 ·rw[hv];exact .cons (.scr hS (nH ns)) .nil
 ·cases r;exact q H'
theorem walkD {l:W.OpenLaw}{k:Nat}{x:Str}{q:Program}{loose:List Str}{XP:(Str->Option Value)->Heap->Prop}{YP:World->Heap->Prop}{d:DefRec}{K:Params->W.Frag}(hn:l.most=some 63)(hdf:d.params.defaults=[])(hr:Room k callerA)
 (hY: ∀(w:World) (h:Heap),YP w h->(K w.params).In h)
 (F: ∀(w:World) (mg:Str->Option Value) (fa:Addr) (h:Heap),(K w.params).In h->h.Ns mainGlobals mg->mg d.name=some (.ref fa)->
   ∃fd:FuncData,(∀(s:Shared) (u:Value),BindsTo s fd ⟨[u],[]⟩ [(x,u)])/\ ∀base:Heap,(K w.params).In base->base.Ns mainGlobals mg->FnOk l.prog w (K w.params) mg base oV k fa fd [x] (q9 (K w.params))):
 W.WalkO q loose XP YP l.row.toRowW d [] (λf vs=>PySem.call f vs):=
 L2.walk_of (n:=63) (k:=k) (x:=x) (CX:=λ_=>oV) (sp:=λw=>q9 (K w.params)) hn (by decide) hdf hr hY F (λ_ H a ns hl hO hS=>⟨a,ns,rfl,hS.elim (λr=>r.elim (λe=>by rcases hO a with z|⟨o,xs,z⟩<;>rw[z] at e<;>cases e) .inl) .inr,hl,λ_=>rfl⟩) λ_ _ _ _ _ z=>z
def ph(cells:List (Str×Addr)):List (Str×NameKind)->List (Str×Addr)->List (Str×Addr)
 | [],acc=>acc
 |(n,k)::r,acc=>ph cells r (if k== .free then(match cells.lookup n with
  |some c=>(n,c)::acc
  |none=>acc) else acc)
theorem oH {cells:List (Str×Addr)}: ∀ {names:List (Str×NameKind)} {acc:List (Str×Addr)},(∀p∈acc,cells.lookup p.1=some p.2)-> ∀p∈ph cells names acc,cells.lookup p.1=some p.2
 | [],acc,h,p,hp=>h p hp
 |(n,k)::r,acc,h,p,hp=>by
  refine oH (names:=r) ?_ p hp
  intro q hq;split at hq
  ·split at hq
   ·rename_i c e
    rcases List.mem_cons.mp hq with rfl|hq
    ·exact e
    ·exact h q hq
   ·exact h q hq
  ·exact h q hq
theorem p8 {cells:List (Str×Addr)}: ∀ {names:List (Str×NameKind)} {acc:List (Str×Addr)} (p:Str×Addr),p∈ph cells names acc->p∈acc\/(p.1,NameKind.free)∈names
 | [],acc,p,hp=>.inl hp
 |(n,k)::r,acc,p,hp=>by
  rcases p8 (names:=r) p hp with hq|hq
  ·split at hq
   ·rename_i ek
    split at hq
    ·rcases List.mem_cons.mp hq with e|hq
     ·subst e
      have:k=.free:=by simpa using ek
      subst this;exact .inr List.mem_cons_self
     ·exact .inl hq
    ·exact .inl hq
   ·exact .inl hq
  ·exact .inr (List.mem_cons_of_mem _ hq)
theorem pW {cells:List (Str×Addr)}: ∀ {names:List (Str×NameKind)} {acc:List (Str×Addr)} {p:Str×Addr},p∈acc->p∈ph cells names acc
 | [],acc,p,h=>h
 |(n,k)::r,acc,p,h=>by
  refine pW (names:=r) ?_
  split
  ·split
   ·exact List.mem_cons_of_mem _ h
   ·exact h
  ·exact h
theorem qT {cells:List (Str×Addr)}{x:Str}{c:Addr}(hc:cells.lookup x=some c): ∀ {names:List (Str×NameKind)} {acc:List (Str×Addr)},(x,NameKind.free)∈names->(x,c)∈ph cells names acc
 | [],_,h=>nomatch h
 |(n,k)::r,acc,h=>by
  rcases List.mem_cons.mp h with e|h
  ·cases e
   refine pW (names:=r) ?_
   rw[if_pos (by rfl),hc]
   exact List.mem_cons_self
  ·exact qT hc (names:=r) h
theorem mX {l:List (Str×Addr)}{x:Str}{c:Addr}(h:(x,c)∈l)(u: ∀p∈l,p.1=x->p.2=c):l.lookup x=some c:=by
 induction l with
 |nil=>exact nomatch h
 |cons p r ih=>
  obtain⟨n,a⟩:=p
  rw[List.lookup_cons];cases e:x==n with
  |true=>
   have e':x=n:=eq_of_beq e
   have:=u (n,a) List.mem_cons_self e'.symm
   simpa using this
  |false=>
   have ne:x≠n:=λe'=>by rw[e'] at e;simp at e
   rcases List.mem_cons.mp h with e'|h
   ·cases e';exact absurd rfl ne
   ·exact ih h λp hp=>u p (List.mem_cons_of_mem _ hp)
theorem qh {cells:List (Str×Addr)}{names:List (Str×NameKind)}{x:Str}{c:Addr}(h:(ph cells names []).lookup x=some c):cells.lookup x=some c:=
 oH (names:=names) (acc:=[]) (λ_ z=>nomatch z) (x,c) (PySem.mem_of_lookup h)
theorem lc {cells:List (Str×Addr)}{names:List (Str×NameKind)}{x:Str}{c:Addr}(hc:cells.lookup x=some c)(hf:(x,NameKind.free)∈names):(ph cells names []).lookup x=some c:=
 mX (qT hc hf) λp hp e=>by
  have:=oH (names:=names) (acc:=[]) (λ_ z=>nomatch z) p hp
  rw[e,hc] at this;exact(Option.some.inj this).symm
theorem i8 {scope:Scope}{env:Env}(h: ∀x,(x,NameKind.free)∈scope.names-> ∃c,env.cells.lookup x=some c):closureFor scope env=pure (ph env.cells scope.names []):=by
 unfold closureFor;have key: ∀(names:List (Str×NameKind)) (acc:List (Str×Addr)),(∀x,(x,NameKind.free)∈names-> ∃c,env.cells.lookup x=some c)->
  (forIn names acc (λ(p:Str×NameKind) (r:List (Str×Addr))=>match p with
    |(name,kind)=>if(kind==NameKind.free)=true then do
       let __do_lift <-cellOf env name
       pure (ForInStep.yield ((name,__do_lift)::r)) else pure (ForInStep.yield r)):Sem (List (Str×Addr)))=pure (ph env.cells names acc):=by
  intro names
  induction names with
  |nil=>intro acc _;rfl
  |cons p r ih=>
   intro acc h;obtain⟨n,k⟩:=p
   rw[List.forIn_cons];have hr: ∀x,(x,NameKind.free)∈r-> ∃c,env.cells.lookup x=some c:=λx hx=>h x (List.mem_cons_of_mem _ hx)
   cases e:k==NameKind.free with
   |false=>
    simp only[e,Bool.false_eq_true,if_false,pure_bind];rw[ih acc hr]
    conv=>rhs;unfold ph
    simp[e]
   |true=>
    have ek:k=.free:=by simpa using e
    subst ek;obtain⟨c,hc⟩:=h n List.mem_cons_self
    have ec:cellOf env n=pure c:=by unfold cellOf;rw[hc]
    simp only[beq_self_eq_true,if_true,ec,pure_bind];rw[ih _ hr]
    conv=>rhs;unfold ph
    simp[hc]
 have:=key scope.names [] h
 simp only[this,pure_bind]
theorem iw {sc:Scope}{env:Env}{x:Str}{k:NameKind}(h:(relabel sc env).names.lookup x=some k): ∃k0,sc.names.lookup x=some k0/\(k=k0\/(k0=.free/\k=.cell)):=by
 unfold relabel at h;dsimp only at h
 generalize sc.names=l at h⊢
 induction l with
 |nil=>simp at h
 |cons p r ih=>
  obtain⟨n,k1⟩:=p
  rw[List.map_cons] at h;dsimp only at h;rw[List.lookup_cons];cases hx:x==n with
  |true=>
   refine⟨k1,rfl,?_⟩
   split at h
   ·rename_i hc
    rw[List.lookup_cons] at h;simp only[hx] at h;cases h
    have:k1=.free:=by
     simp only[Bool.and_eq_true] at hc;exact eq_of_beq hc.1.1
    exact .inr ⟨this,rfl⟩
   ·rw[List.lookup_cons] at h
    simp only[hx] at h;cases h
    exact .inl rfl
  |false=>
   split at h
   ·rw[List.lookup_cons] at h;simp only[hx] at h;exact ih h
   ·rw[List.lookup_cons] at h;simp only[hx] at h;exact ih h
def oq(cells:List (Str×Addr))(scope:Scope)(C:Addr):List (Str×Addr):=cellsFrom (C+1) scope.names (ph cells scope.names [])
theorem bC: ∀(names:List (Str×NameKind)) (n:Nat) (acc:List (Str×Addr)),cellsFrom n names acc=cellsFrom n names []++acc
 | [],_,_=>rfl
 |(name,kind)::r,n,acc=>by
  unfold cellsFrom;split
  ·rw[bC r (n+1) ((name,n)::acc),bC r (n+1) [(name,n)],List.append_assoc];rfl
  ·exact bC r n acc
theorem nY: ∀ {names:List (Str×NameKind)} {n:Nat} {p:Str×Addr},p∈cellsFrom n names []->(p.1,NameKind.cell)∈names
 | [],_,_,h=>nomatch h
 |(name,kind)::r,n,p,h=>by
  unfold cellsFrom at h;split at h
  ·rename_i hk
   have hk':kind=.cell:=by simpa using hk
   subst hk';rw[bC] at h;rcases List.mem_append.mp h with h|h
   ·exact List.mem_cons_of_mem _ (nY h)
   ·rw[List.mem_singleton.mp h];exact List.mem_cons_self
  ·exact List.mem_cons_of_mem _ (nY h)
theorem kI: ∀ {names:List (Str×NameKind)} {n:Nat} {x:Str},(x,NameKind.cell)∈names-> ∃c,(x,c)∈cellsFrom n names []
 | [],_,_,h=>nomatch h
 |(name,kind)::r,n,x,h=>by
  unfold cellsFrom;rcases List.mem_cons.mp h with e|h
  ·cases e
   rw[if_pos (by rfl),bC]
   exact⟨n,List.mem_append_right _ List.mem_cons_self⟩
  ·split
   ·obtain⟨c,hc⟩:=kI (n:=n+1) h
    rw[bC];exact⟨c,List.mem_append_left _ hc⟩
   ·exact kI h
theorem qB {l:List (Str×Addr)}{x:Str}{c:Addr}(h:(x,c)∈l): ∃c',l.lookup x=some c':=by
 induction l with
 |nil=>exact nomatch h
 |cons p r ih=>
  obtain⟨n,a⟩:=p
  rw[List.lookup_cons];cases e:x==n with
  |true=>exact⟨a,rfl⟩
  |false=>
   rcases List.mem_cons.mp h with e'|h
   ·cases e';simp at e
   ·exact ih h
theorem eQ {cells:List (Str×Addr)}{sc:Scope}{C:Addr}{x:Str}{c:Addr}(h:(oq cells sc C).lookup x=some c):(x,c)∈cellsFrom (C+1) sc.names []\/(ph cells sc.names []).lookup x=some c:=by
 unfold oq at h;rw[bC,List.lookup_append] at h;cases e:(cellsFrom (C+1) sc.names []).lookup x with
 |none=>rw[e] at h;exact .inr h
 |some c'=>rw[e] at h;cases h;exact .inl (PySem.mem_of_lookup e)
theorem tW {cells:List (Str×Addr)}{sc:Scope}{C:Addr}{x:Str}(h:(x,NameKind.cell)∈sc.names): ∃c,(oq cells sc C).lookup x=some c:=by
 obtain⟨c,hc⟩:=kI (n:=C+1) h
 obtain⟨c',e⟩:=qB hc
 exact⟨c',by unfold oq;rw[bC,List.lookup_append,e];rfl⟩
theorem p6 {cells:List (Str×Addr)}{sc:Scope}{C:Addr}{x:Str}(h:(x,NameKind.cell)∉sc.names):(oq cells sc C).lookup x=(ph cells sc.names []).lookup x:=by
 unfold oq;rw[bC,List.lookup_append];cases e:(cellsFrom (C+1) sc.names []).lookup x with
 |none=>rfl
 |some c'=>exact absurd (nY (PySem.mem_of_lookup e)) h
theorem v4 {M:Model}{A:Around}{E:Value->Shared->Prop}{s:Shared}{scope:Scope}{globals:Addr}{closure:List (Str×Addr)}{qual:Str}{outer:Env}{Q:Env->Shared->Prop}
 (hQ: ∀h',h'.Ns s.heap.objs.size (λ_=>none)->(∀b o,s.heap.get? b=some o->h'.get? b=some o)->CellsOk h' (s.heap.objs.size+1) (cellsFrom (s.heap.objs.size+1) scope.names [])->
   Q (newEnv scope s.heap.objs.size globals (cellsFrom (s.heap.objs.size+1) scope.names closure) qual none .none (some outer) builtinsNs) {s with heap:=h',toks:=s.toks}):
 wpAny M A (newFunctionEnv scope globals closure [] qual none .none (some outer)) Q E s:=by
 simp only[newFunctionEnv,Option.isSome_some,if_true];refine wpAny_bind (wpAny_alloc ?_)
 refine wpAny_bind (wpAny_layCells _ (λname kind cells=>by cases hkc:kind==NameKind.cell<;>simp[hkc]) _ _ _ _ ?_)
 have ok:=cellsFrom_ok scope.names (s.heap.push {cls:=.type "dict",data:=.dict #[]}) (s.heap.objs.size+1) [] ⟨λ_ _ hm=>(nomatch hm),List.Pairwise.nil⟩ (by rw[Heap.size_push];exact Nat.le_refl _)
 rw[Heap.size_push] at ok;rw[show({s with heap:=s.heap.push {cls:=.type "dict",data:=.dict #[]}}:Shared).heap.objs.size=s.heap.objs.size+1 from Heap.size_push ..]
 rw[List.forIn_nil];refine wpAny_bind (wpAny_pure (wpAny_pure ?_))
 exact hQ _ ((Heap.Ns.new s.heap (.type "dict")).keeps (pushCells_keeps _ _)) (λb o e=>pushCells_keeps _ _ b o (Heap.get?_push_of_some _ e)) ok
def bB(X:Cx)(N':List Str)(scope:Scope)(C:Addr)(s₀:Shared)(H₀:Hp)(ex:List Addr):Cx where
 prog:=X.prog
 w:=X.w
 K:=X.K
 mg:=X.mg
 base:=X.base
 A:=X.A
 N:=N'
 s₀:=s₀
 H₀:=H₀
 env:=compEnvC scope (oq X.env.cells scope C) C X.env
 outer:=X.stack
 stack:=X.stack
 ex:=ex
 fn:=λx=>scope.names.lookup x==some .local||scope.names.lookup x==some .cell
 calm:=X.calm
 pn:=[]
 xe:=λ_ _=>False
def vk(N N':List Str)(sc:Scope):Bool:=
 decide (N.length<=N'.length)&&((N'.take N.length).zip N).all (λp=>(p.1==p.2&& !(sc.names.lookup p.1==some .local)&& !(sc.names.lookup p.1==some .cell))||(sc.names.lookup p.1).isNone)&&
  (N'.drop N.length).all λx=>sc.names.lookup x==some .local||sc.names.lookup x==some .cell
def vi(sc:Scope)(outer:Scope):Bool:=
 sc.names.all λy=>(y.2 != .cell||sc.names.lookup y.1==some .cell)&&(y.2 != .local||sc.names.lookup y.1==some .local)&&(y.2 != .free||(sc.names.lookup y.1==some .free&&(outer.names.lookup y.1==some .cell||outer.names.lookup y.1==some .free)))
theorem pP {sc o:Scope}(h:vi sc o=true): ∀y∈sc.names,y.2=.cell->sc.names.lookup y.1=some .cell:=λy hy e=>by
 have:=List.all_eq_true.mp h y hy
 simpa [e] using this
theorem nN {sc o:Scope}(h:vi sc o=true): ∀y∈sc.names,y.2=.local->sc.names.lookup y.1=some .local:=λy hy e=>by
 have:=List.all_eq_true.mp h y hy
 simpa [e] using this
theorem j6 {sc o:Scope}(h:vi sc o=true): ∀x,(x,NameKind.free)∈sc.names->o.names.lookup x=some .cell\/o.names.lookup x=some .free:=λx hx=>by
 have:=List.all_eq_true.mp h _ hx
 simpa using (by simpa using this:_/\_).2
theorem nC {sc o:Scope}(h:vi sc o=true): ∀x,(x,NameKind.free)∈sc.names->sc.names.lookup x=some .free:=λx hx=>by
 have:=List.all_eq_true.mp h _ hx
 simpa using (by simpa using this:_/\_).1
theorem sv {N N':List Str}{sc:Scope}(h:vk N N' sc=true){i:Nat}{x:Str}(hi:i<N.length)(e:N'[i]? =some x)(hv: ∃k,sc.names.lookup x=some k/\(k=.local\/k=.cell\/k=.free)):N[i]? =some x/\sc.names.lookup x=some .free:=by
 unfold vk at h;simp only[Bool.and_eq_true,decide_eq_true_eq] at h;obtain⟨⟨h1,h2⟩,_⟩:=h
 have hN:N[i]? =some N[i]:=List.getElem?_eq_getElem hi
 have e1:(N'.take N.length)[i]? =some x:=by rw[List.getElem?_take_of_lt hi];exact e
 have hm:(x,N[i])∈(N'.take N.length).zip N:=by
  refine List.mem_of_getElem? (i:=i) ?_
  rw[List.getElem?_zip_eq_some];exact⟨e1,hN⟩
 have:=List.all_eq_true.mp h2 _ hm
 obtain⟨k,hk,hk2⟩:=hv
 dsimp only at this;rw[hk] at this;simp only[Option.isNone_some,Bool.or_false,Bool.and_eq_true,Bool.not_eq_true'] at this;obtain⟨⟨t1,t2⟩,t3⟩:=this
 have ex:x=N[i]:=eq_of_beq t1
 rcases hk2 with rfl|rfl|rfl
 ·simp at t2
 ·simp at t3
 ·exact⟨by rw[hN,<-ex],hk⟩
theorem wG {N N':List Str}{sc:Scope}(h:vk N N' sc=true):N.length<=N'.length:=by
 unfold vk at h;simp only[Bool.and_eq_true,decide_eq_true_eq] at h;exact h.1.1
section
variable {X:Cx}{ae:List (Addr×Obj)}{σ:St}{H:Hp}{s:Shared}{scope:Scope}{N':List Str}{fp:List Addr}
theorem sI(I:Inv X ae σ H s){b:Addr}(f:mx X ae H b):b∉iX X.stack:=λz=>by
 rcases List.mem_cons.mp (I.stkSub b z) with e|z
 ·exact f.2.1 e
 ·exact f.2.2.1 z
theorem tQ {h':Heap}{tk:Nat}(I:Inv X ae σ H s)(hF: ∀b∈fp,mx X ae H b)(hO: ∀b∈fp,∃o,s.heap.get? b=some o)(hk:scope.kind=.function)(hs:vi scope X.env.scope=true)(hn:vk X.N N' scope=true)
 (ns:h'.Ns s.heap.objs.size λ_=>none) (kp: ∀b o,s.heap.get? b=some o->h'.get? b=some o) (oc:CellsOk h' (s.heap.objs.size+1) (cellsFrom (s.heap.objs.size+1) scope.names [])):
 Inv (bB X N' scope s.heap.objs.size s H fp) [] (σ++List.replicate (N'.length-X.N.length) none) H {s with heap:=h',toks:=tk}:=by
 have hlen:=wG hn
 have cl: ∀x c,(ph X.env.cells scope.names []).lookup x=some c->X.env.cells.lookup x=some c:=λx c e=>qh e
 have clt: ∀x c,(ph X.env.cells scope.names []).lookup x=some c->c<s.heap.objs.size:=λx c e=>let⟨_,z⟩:=I.cell x c (cl x c e);z.lt
 have newC:H s.heap.objs.size=none:=I.hok.fresh (Nat.le_refl _)
 refine⟨⟨I.ok.mod,hk,I.ok.glob,I.ok.blt,Nat.le_refl _,λx y c h1 h2=>?_,λx hx=>?_,λx c h1 h2=>?_,I.ok.hd,I.ok.frames,.inl rfl,λb hb=>⟨?_,λx c e=>?_⟩,I.bs,Nat.le_trans I.ok.bsz I.sz,λb o e hb=>?_,λb hb=>sI I (hF b hb),I.stack,I.stkFree⟩,
  rfl,I.bare,Un.kept kp,⟨_,ns,λi x v e1 e2 e3=>?_⟩,λx c e=>?_,newC,λx c e=>?_,λp hp=>absurd (show p∈([]:List (Addr×Obj)) from hp) (by simp),I.hok.kept kp,?_⟩
 ·
  rcases eQ h1 with h1|h1<;>rcases eQ h2 with h2|h2
  ·exact name_of_addr oc.apart h1 h2
  ·exact absurd (clt y c h2) (Nat.not_lt.mpr (Nat.le_of_succ_le (oc.empty _ _ h1).2))
  ·exact absurd (clt x c h1) (Nat.not_lt.mpr (Nat.le_of_succ_le (oc.empty _ _ h2).2))
  ·exact I.ok.inj x y c (cl x c h1) (cl y c h2)
 ·
  have hx':(relabel scope X.env).names.lookup x=some .cell\/(relabel scope X.env).names.lookup x=some .free:=hx
  have:(x,NameKind.cell)∈scope.names\/(x,NameKind.free)∈scope.names:=by
   rcases hx' with hx'|hx'
   ·obtain⟨k0,e0,e1|⟨e1,_⟩⟩:=iw hx'
    ·subst e1;exact .inl (PySem.mem_of_lookup e0)
    ·subst e1;exact .inr (PySem.mem_of_lookup e0)
   ·obtain⟨k0,e0,e1|⟨_,e1⟩⟩:=iw hx'
    ·subst e1;exact .inr (PySem.mem_of_lookup e0)
    ·cases e1
  rcases this with this|this
  ·exact tW this
  ·have hc:=j6 hs x this
   obtain⟨c,e⟩:=I.ok.has x hc
   exact⟨c,(p6 λz=>by have z1:=pP hs _ z rfl;have z2:=nC hs x this;rw[z2] at z1;cases z1).trans (lc e this)⟩
 ·
  have h1':scope.names.lookup x=some .local\/scope.names.lookup x=some .cell:=by
   have h1:(scope.names.lookup x==some .local||scope.names.lookup x==some .cell)=true:=h1
   simpa using h1
  rcases eQ h2 with h2|h2
  ·exact Nat.le_of_succ_le (oc.empty _ _ h2).2
  ·exfalso
   rcases p8 _ (PySem.mem_of_lookup h2) with z|z
   ·exact nomatch z
   ·rw[nC hs x z] at h1';rcases h1' with h1'|h1'<;>cases h1'
 ·obtain⟨o,e⟩:=hO b hb
  exact Nat.ne_of_lt (Heap.lt_size e)
 ·rcases eQ e with e|e
  ·obtain⟨o,e'⟩:=hO b hb
   exact λz=>absurd (Heap.lt_size e') (Nat.not_lt.mpr (z▸Nat.le_of_succ_le (oc.empty _ _ e).2))
  ·exact(hF b hb).2.2.2.2.1 x c (cl x c e)
 ·obtain⟨_,_,_,h4,_⟩:=hF b hb
  rcases h4 with h4|h4
  ·exact I.ok.noex b o e h4
  ·exact absurd (Nat.lt_of_lt_of_le (Heap.lt_size e) (Nat.le_trans I.ok.bsz h4)) (Nat.lt_irrefl _)
 ·have hi:i<X.N.length:=by
   by_cases hi:i<σ.length
   ·rw[<-I.len];exact hi
   ·rw[List.getElem?_append_right (by omega),List.getElem?_replicate] at e2
    split at e2<;>cases e2
  rw[List.getElem?_append_left (by rw[I.len];exact hi)] at e2
  have e3':(relabel scope X.env).names.lookup x=some .local\/(relabel scope X.env).names.lookup x=some .cell\/(relabel scope X.env).names.lookup x=some .free:=e3
  have hv: ∃k,scope.names.lookup x=some k/\(k=.local\/k=.cell\/k=.free):=by
   rcases e3' with z|z|z
   all_goals
    obtain⟨k0,q0,q1|⟨q1,q2⟩⟩:=iw z
    ·subst q1;exact⟨_,q0,by simp⟩
    ·subst q1;exact⟨_,q0,by simp⟩
  obtain⟨hN,hf⟩:=sv hn hi e1 hv
  have hfm:=PySem.mem_of_lookup hf
  have hc:=j6 hs x hfm
  have nc:(x,NameKind.cell)∉scope.names:=λz=>by have z1:=pP hs _ z rfl;rw[hf] at z1;cases z1
  obtain⟨m,hm,hl⟩:=I.loc
  obtain⟨u,r,l⟩:=hl i x v hN e2 (.inr hc)
  refine⟨u,r,.inr ⟨?_,?_⟩⟩
  ·show(relabel scope X.env).names.lookup x=some .cell\/(relabel scope X.env).names.lookup x=some .free
   rcases e3' with z|z|z
   ·obtain⟨k0,q0,q1|⟨q1,q2⟩⟩:=iw z
    ·subst q1;rw[hf] at q0;cases q0
    ·cases q2
   ·exact .inl z
   ·exact .inr z
  ·rcases l with⟨l,_⟩|⟨_,c,ec,z⟩
   ·have l':X.env.scope.names.lookup x=some .local:=l
    rcases hc with hc|hc<;>rw[hc] at l'<;>cases l'
   ·exact⟨c,(p6 nc).trans (lc ec hfm),z.keeps kp⟩
 ·rcases eQ e with e|e
  ·exact⟨_,(oc.empty _ _ e).1⟩
  ·obtain⟨v,z⟩:=I.cell x c (cl x c e)
   exact⟨v,z.keeps kp⟩
 ·rcases eQ e with e|e
  ·exact I.hok.fresh (Nat.le_of_succ_le (oc.empty _ _ e).2)
  ·exact I.freeC x c (cl x c e)
 ·show(σ++_).length=N'.length
  rw[List.length_append,List.length_replicate,I.len];omega
end
def AE(K:W.Frag)(c:Ct)(hid:cn)(f:FA)(ρ:aL):TI:=λσ H R=>SR K c hid ρ σ H/\ ∃ds,f ρ=some ds/\ ∀J H',Same H H'->ItOk K (vw H' hid) J ds->R J H'
def DIp(X:Cx)(c:Ct)(tg iter:Expr)(f:FA):Prop:= ∀hid ρ,PI X tg iter (AE X.K c hid f ρ)
def zg(K:W.Frag)(L W:Hp)(J:It)(ds:List D):Prop:=
 (∀(i:Nat) (d:D) (H:Hp),ds[i]? =some d->Same L H->Same W H->J.go i H/\ ∀x H',J.yld i H x H'->Same H H'/\ ∀hid:cn,(∀b,hid b=true-> ∃o,H b=some o)->Same W (vw H hid)->Rep K (vw H' hid) x d)/\ ∀H,Same L H->Same W H->J.stop ds.length H
theorem ItOk.b {K:W.Frag}{L W:Hp}{J:It}{ds:List D}(h:ItOk K W J ds):zg K L W J ds:=⟨λi d H e _ w=>h.1 i d H e w,λH _ w=>h.2 H w⟩
def Bm(K:W.Frag)(c:Ct)(hid:cn)(f:FA)(ρ:aL):TI:=λσ H R=>SR K c hid ρ σ H/\ ∃ds,f ρ=some ds/\ ∀J H',Same H H'->zg K H' (vw H' hid) J ds->R J H'
def zX(X:Cx)(c:Ct)(tg iter:Expr)(f:FA):Prop:= ∀hid ρ,PI X tg iter (Bm X.K c hid f ρ)
section
variable {X:Cx}{c:Ct}{k:Kd}{tg iter:Expr}{pos:Pos}
theorem DIp.b {f:FA}(h:DIp X c tg iter f):zX X c tg iter f:=λhid ρ=>PI.imp (h hid ρ) λσ H R ⟨sr,ds,e,q⟩=>⟨sr,ds,e,λJ H' s io=>q J H' s io.b⟩
theorem DIp.e {f:FA}(h:DIp X c tg iter f):DI X c tg iter (cL f):=λhid ρ=>PI.imp (h hid ρ) λσ H R hq_=>by
 obtain⟨sr,ds,ρ',e,q⟩:=hq_
 obtain⟨e1,rfl⟩:=lR e
 exact⟨sr,ds,e1,λJ H' s io=>q J H' (.of s) (sr.ext s) io⟩
def wR(f:FE):FA:=λρ=>(f ρ).bind λd=>match d with
 | .lst ds=>some ds
 |_=>none
def wk(f:FE):FA:=λρ=>(f ρ).bind λd=>match d with
 | .tup ds=>some ds
 |_=>none
theorem sE {f:FE}{ρ:aL}{ds:List D}(h:wR f ρ=some ds):f ρ=some (.lst ds):=by
 unfold wR at h;cases e:f ρ with
 |none=>rw[e] at h;cases h
 |some d=>
  rw[e] at h;cases d with
  |lst z=>cases h;rfl
  |_=>cases h
theorem sD {f:FE}{ρ:aL}{ds:List D}(h:wk f ρ=some ds):f ρ=some (.tup ds):=by
 unfold wk at h;cases e:f ρ with
 |none=>rw[e] at h;cases h
 |some d=>
  rw[e] at h;cases d with
  |tup z=>cases h;rfl
  |_=>cases h
theorem uB {K:W.Frag}{W:Hp}{a:Addr}{xs:List V}{ds:List D}(h1:SqL K W a xs)(h2:Reps K W xs ds):ItOk K W (AL K a) ds:=by
 refine⟨λi d H e s=>?_,λH s=>⟨_,s.seq h1,by rw[h2.length];exact Nat.le_refl _⟩⟩
 obtain⟨x,e1,r1⟩:=h2.get e
 refine⟨⟨_,x,s.seq h1,e1⟩,λy H' ⟨e2,e3⟩=>?_⟩
 subst e2;have:=e3 _ (s.seq h1)
 rw[e1] at this;cases this;exact⟨Same.refl _,λhid _ sw=>r1.mono sw⟩
theorem ug {f:FE}(h:DP X c .s iter f):DIp X c tg iter (wR f):=λhid ρ=>PI.imp (vB (h hid ρ)) λσ H R hq_=>by
 obtain⟨sr,ds,e,q⟩:=hq_
 refine⟨sr,_,sE e,λv H' s' r=>?_⟩
 cases r with
 |lst h1 h2=>have h1:=SqL.of (K:=X.K) h1;exact⟨_,rfl,⟨_,(fH _ _).seq h1⟩,q _ H' s' (uB h1 h2)⟩
theorem wY {f:FE}(h:DP X c .s iter f):DIp X c tg iter (wk f):=λhid ρ=>PI.imp (yS (h hid ρ)) λσ H R hq_=>by
 obtain⟨sr,ds,e,q⟩:=hq_
 refine⟨sr,_,sD e,λv H' s' r=>?_⟩
 cases r with
 |tup h1 h2=>exact⟨_,rfl,⟨_,Same.seqT (fH _ _) h1⟩,q _ H' s' (uQ h1 h2)⟩
def dR(f:FA):FA:=λρ=>(f ρ).bind λds=>match ds with
 | [.int j]=>if j.natAbs<4000000000 then some (sK 0 j.toNat) else none
 |_=>none
theorem dL {a:Expr}{f:FA}{p:Pos}(hm:X.mg "range"=none)(ha:DA X c [a] f)(hg:Gl X "range":=by rfl)(hs:starEach [a] X.env=[(false,eval a X.env)]:=by rfl):DIp X c tg (.Call (.Name "range" p) [a] [] pos) (dR f):=λhid ρ=>
 PI.imp (sQ hg hm (ha hid ρ) hs) λσ H R hq_=>by
  obtain⟨sr,ds,e,q⟩:=hq_
  unfold dR at e;cases e1:f ρ with
  |none=>rw[e1] at e;cases e
  |some z=>
   rw[e1] at e;dsimp only[Option.bind] at e;split at e
   ·split at e
    ·cases e
     refine⟨sr,_,e1,λvs H' s' r=>?_⟩
     cases r with
     |cons r t=>cases t;cases r;exact⟨_,rfl,by omega,by omega,q _ H' s' qo⟩
    ·cases e
   ·cases e
def rB(ifs:List Expr)(env:Env):Sem Bool:=forIn ifs true λc r=>if r=true then do let ok <-isTrue c env (eval c env);pure (ForInStep.yield ok) else pure (ForInStep.yield r)
def xx(X:Cx)(c:Ct)(ifs:List Expr)(p:FT):Prop:= ∀hid ρ (ae:List (Addr×Obj)) (s:Shared) (σ:St) (H:Hp) (Q:Bool->Hp->Prop),Inv X ae σ H s->AW X.K c hid p ρ σ H Q->wpAny (model X.prog X.w) X.A (rB ifs X.env) (TP X ae σ Q) X.xe s
def iV:FT:=λ_=>some true
theorem iu:xx X c [] iV:=λhid ρ ae s σ H Q I hq_=>by
 obtain⟨sr,d,e,q⟩:=hq_
 cases e
 exact wpAny_tests_nil ⟨H,I,q H (Same.refl _)⟩
theorem rW {e:Expr}{p:FT}(h:DT X c e p):xx X c [e] p:=λhid ρ ae s σ H Q I q=>wpAny_tests_one (h hid ρ ae s σ H Q I q)
end
theorem iz {prog:Program}{w:World}{A:Around}{R:Result->Shared->Prop}{s:Shared}{elt target iter:Expr}{ifs:List Expr}{scope:Scope}{pos:Pos}{it acc:Value}{env:Env}(I:Nat->Shared->Prop)
 (turn: ∀n s,I n s->wpAny (model prog w) A (pyNext it) (λr s₁=>match r with
   |none=>R (.ok .next) s₁
   |some v=>wpAny (model prog w) A (letOwnedTupleGo target it v) (λ_ s₁=>wpAny (model prog w) A (assign target env v) (λ_ s₂=>
     wpAny (model prog w) A (rB ifs env) (λok s₃=>
      if ok=true then wpAny (model prog w) A (eval elt env) (λx s₄=>
       wpAny (model prog w) A (call (.builtin "list.append") [acc,x]) (λ_ s₅=> ∃m,m<n/\I m s₅) (λ_ _=>False) s₄) (λ_ _=>False) s₃
      else∃m,m<n/\I m s₃) (λ_ _=>False) s₂) (λ_ _=>False) s₁) (λ_ _=>False) s₁) (λ_ _=>False) s)
 (n:Nat) (h:I n s):
 codeAny (model prog w) A (.compLoop (.ListComp elt [⟨target,iter,ifs,0⟩] scope pos) 0 it acc env) R s:=by
 have no: ∀ {E':Value->Shared->Prop} (x:Value) (s:Shared),False->E' x s:=λ_ _ z=>z.elim
 refine codeAny_loop rfl I (λn s hI=>?_) n h
 show wpAny _ A ((compTurn (.ListComp elt [⟨target,iter,ifs,0⟩] scope pos) 0 it acc env).onRaise (λx=>do noteFrame x env;theTreesLotGoes x)) _ _ s
 refine wpAny_noted ?_
 rw[compTurn_list];refine wpAny_bind (wpAny_standAt (wpAny_bind (wpAny_mono (turn n s hI) (λr s₁ h₁=>?_) no)))
 cases r with
 |none=>exact wpAny_pure h₁
 |some v=>
  refine wpAny_bind (wpAny_mono h₁ (λ_ s₁ h₁=>?_) no)
  refine wpAny_bind (wpAny_mono h₁ (λ_ s₂ h₂=>wpAny_bind (wpAny_mono h₂ (λok s₃ h₃=>?_) no)) no)
  cases ok with
  |false=>exact wpAny_pure ⟨rfl,h₃⟩
  |true=>
   exact wpAny_bind (wpAny_bind (wpAny_mono h₃ (λx s₄ h₄=>wpAny_bind (wpAny_mono h₄ (λ_ s₅ h₅=>wpAny_pure (wpAny_pure ⟨rfl,h₅⟩)) no)) no))
def dg(g:FG)(p:FT)(f:FE)(ρ0:aL):List D->Option (List D)
 | []=>some []
 |d::r=>(g d ρ0).bind λρ1=>(p ρ1).bind λb=>if b=true then(f ρ1).bind λy=>(dg g p f ρ0 r).map (y:: ·) else dg g p f ρ0 r
def bT(m:Nat)(gi:FA)(g:FG)(p:FT)(f:FE):FE:=λρ=>(gi ρ).bind λds=>if ds.length<=sizeLine then(dg g p f (ρ++List.replicate m .no) ds).map D.lst else none
theorem lJ {m:Nat}{gi:FA}{g:FG}{p:FT}{f:FE}{ρ:aL}{d:D}(h:bT m gi g p f ρ=some d): ∃ds ys,gi ρ=some ds/\ds.length<=sizeLine/\dg g p f (ρ++List.replicate m .no) ds=some ys/\d=.lst ys:=by
 unfold bT at h;cases e1:gi ρ with
 |none=>rw[e1] at h;cases h
 |some ds=>
  rw[e1] at h;dsimp only[Option.bind] at h;split at h
  ·cases e2:dg g p f (ρ++List.replicate m .no) ds with
   |none=>rw[e2] at h;cases h
   |some ys=>rw[e2] at h;cases h;exact⟨ds,ys,rfl, ‹_›,e2,rfl⟩
  ·cases h
def oE(n:Nat)(g:FG):Prop:= ∀d (ρ0 ρ1:aL),g d ρ0=some ρ1->ρ1.length=ρ0.length/\ ∀i:Nat,i<n->ρ1[i]? =ρ0[i]?
def rX(n:Nat)(g:qg):Prop:= ∀d (ρ0 ρ1:aL),g d ρ0=some ρ1->ρ1.length=ρ0.length/\ ∀i:Nat,i<n->ρ1[i]? =ρ0[i]?
theorem gU {n i:Nat}(h:n<=i):oE n (gN i):=λd ρ0 ρ1 e=>by
 cases e
 exact⟨by simp,λj hj=>List.getElem?_set_ne (by omega)⟩
theorem sJ {n:Nat}:rX n iQ:=λd ρ0 ρ1 e=>by
 unfold iQ at e;split at e
 ·cases e;exact⟨rfl,λ_ _=>rfl⟩
 ·cases e
theorem lC {n:Nat}{g:FG}{gs:qg}(h1:oE n g)(h2:rX n gs):rX n (cQ g gs):=λd ρ0 ρ1 e=>by
 cases d with
 |nil=>cases e
 |cons d ds=>
  have e:(g d ρ0).bind (λρ'=>gs ds ρ')=some ρ1:=e
  cases e1:g d ρ0 with
  |none=>rw[e1] at e;cases e
  |some ρ2=>
   rw[e1] at e;obtain⟨a1,a2⟩:=h1 d ρ0 ρ2 e1
   obtain⟨b1,b2⟩:=h2 ds ρ2 ρ1 e
   exact⟨b1.trans a1,λi hi=>(b2 i hi).trans (a2 i hi)⟩
theorem x6 {n m:Nat}{gs:qg}(h:rX n gs):oE n (gT m gs):=λd ρ0 ρ1 e=>by
 unfold gT at e;split at e
 ·split at e
  ·exact h _ _ _ e
  ·cases e
 ·cases e
theorem SR.forget {K:W.Frag}{c:Ct}{hid:cn}{ρ0 ρ1:aL}{σ:St}{H:Hp}(h:SR K c hid ρ1 σ H)(hl:ρ1.length=ρ0.length)(hs: ∀(i:Nat) (s:Sl),ρ0[i]? =some s->s=.no\/ρ1[i]? =some s):SR K c hid ρ0 σ H:=by
 have ow: ∀i:Nat,Ow ρ0[i]? ->Ow ρ1[i]? :=λi o=>by
  cases e:ρ0[i]? with
  |none=>rw[e] at o;exact o.elim
  |some s=>
   rcases hs i s e with rfl|z
   ·rw[e] at o;exact o.elim
   ·rw[z,<-e];exact o
 refine⟨h.tr,h.ht,h.h0,h.kp,h.t0,h.c0,h.m0,h.len.trans hl,λi s e=>?_,λi j a n o1 o2=>h.ap i j a n (ow i o1) (ow j o2)⟩
 rcases hs i s e with rfl|z
 ·trivial
 ·exact h.sl i s z
theorem SR.more {K:W.Frag}{c:Ct}{hid:cn}{ρ:aL}{σ:St}{H:Hp}(h:SR K c hid ρ σ H)(m:Nat):SR K c hid (ρ++List.replicate m .no) (σ++List.replicate m none) H:=by
 have lt: ∀ {i:Nat},Ow (ρ++List.replicate m Sl.no)[i]? ->i<ρ.length:=λ{i} o=>by
  by_cases hi:i<ρ.length
  ·exact hi
  ·rw[List.getElem?_append_right (by omega),List.getElem?_replicate] at o
   split at o<;>exact o.elim
 refine⟨h.tr,h.ht,h.h0,h.kp,h.t0,h.c0,h.m0,by simp[h.len],λi s e=>?_,λi j a n o1 o2 q1 q2=>?_⟩
 ·by_cases hi:i<ρ.length
  ·rw[List.getElem?_append_left hi] at e
   have z:=h.sl i s e
   have es:(σ++List.replicate m none)[i]? =σ[i]? :=List.getElem?_append_left (by rw[h.len];exact hi)
   cases s with
   |no=>trivial
   |v d=>obtain⟨x,h1,h2⟩:=z;exact⟨x,es.trans h1,h2⟩
   |own ds=>obtain⟨a,xs,h1,h2⟩:=z;exact⟨a,xs,es.trans h1,h2⟩
   |arg ds=>obtain⟨a,xs,h1,h2⟩:=z;exact⟨a,xs,es.trans h1,h2⟩
   |ob b=>obtain⟨a,h1,h2⟩:=z;exact⟨a,es.trans h1,h2⟩
  ·rw[List.getElem?_append_right (by omega),List.getElem?_replicate] at e
   split at e
   ·cases e;trivial
   ·cases e
 ·have l1:=lt o1
  have l2:=lt o2
  rw[List.getElem?_append_left l1] at o1;rw[List.getElem?_append_left l2] at o2;rw[List.getElem?_append_left (by rw[h.len];exact l1)] at q1
  rw[List.getElem?_append_left (by rw[h.len];exact l2)] at q2
  exact h.ap i j a n o1 o2 q1 q2
section
variable {X:Cx}{c:Ct}{elt tg iter:Expr}{ifs:List Expr}{scope:Scope}{pos:Pos}{N':List Str}{m:Nat}{gi:FA}{g:FG}{p:FT}{f:FE}
theorem SR.write {K:W.Frag}{hid:cn}{ρ:aL}{σ:St}{H:Hp}{a:Addr}{o':HO}(h:SR K c hid ρ σ H)(hh:hid a=true)(h0:c.H₀ a=none)(na: ∀i:Nat,Ow ρ[i]? ->σ[i]? ≠some (some (.ref a)))(hn: ∀xs,o'≠ .tup xs:=by intro _ e;cases e):SR K c hid ρ σ (dv H a o'):=by
 have tr': ∀b o,H b=some o-> ∃o2,(dv H a o') b=some o2:=λb o q=>by
  by_cases e:b=a
  ·subst e;exact⟨_,bM⟩
  ·exact⟨o,by rw[aR e];exact q⟩
 refine⟨λb hb=>let⟨o,q⟩:=h.tr b hb;tr' b o q,λb xs hb q=>by
  by_cases e:b=a
  ·subst e;rw[bM] at q;exact hn _ (Option.some.inj q)
  ·rw[aR e] at q;exact h.ht b xs hb q,h.h0,λb o q m=>?_,λb o q=>let⟨o2,q2⟩:=h.t0 b o q;tr' b o2 q2,h.c0,h.m0,h.len,λi s e=>?_,h.ap⟩
 ·rw[aR (cu q h0)];exact h.kp b o q m
 ·have z:=h.sl i s e
  have ne: ∀a',Ow ρ[i]? ->σ[i]? =some (some (.ref a'))->a'≠a:=λa' o q w=>by subst w;exact na i o q
  cases s with
  |no=>trivial
  |v d=>obtain⟨x,h1,h2⟩:=z;exact⟨x,h1,by rw[i5 hh];exact h2⟩
  |own ds=>obtain⟨a',xs,h1,h2,h3,h4,h5⟩:=z;exact⟨a',xs,h1,by rw[aR (ne a' (by rw[e];trivial) h1)];exact h2,h3,h4,by rw[i5 hh];exact h5⟩
  |arg ds=>obtain⟨a',xs,h1,h2,h3,h4,h5⟩:=z;exact⟨a',xs,h1,by rw[aR (ne a' (by rw[e];trivial) h1)];exact h2,h3,h4,by rw[i5 hh];exact h5⟩
  |ob b=>obtain⟨a',h1,h2⟩:=z;exact⟨a',h1,h2.mono (λow o q=>by rw[aR (ne a' (by rw[e];exact ow) h1)];exact q) (by rw[i5 hh];exact Same.refl _) λ_ q=>q⟩
structure CLI(Y:Cx)(K:W.Frag)(c:Ct)(hid:cn)(ρ0:aL)(H W:Hp)(D0:Addr)(fp:List Addr)(tn:Nat->Heap->Prop)(g:FG)(p:FT)(f:FE)(ds ys:List D)(n i:Nat)(xs:List V)(ad:List D)(σ':St)(H':Hp)(s':Shared):Prop where
 e:n=ds.length-i
 hi:i<=ds.length
 I:Inv Y [] σ' H' s'
 st:tn i s'.heap
 fr: ∀b∈fp,H' b=none
 sr:SR K c hid ρ0 σ' H'
 sm:Same H H'
 ac:H' D0=some (.lst xs)
 rp:Reps K (vw H' hid) xs ad
 w:Same W (vw H' hid)
 hl:xs.length<=i
 na: ∀i:Nat,Ow ρ0[i]? ->σ'[i]? ≠some (some (.ref D0))
 go: ∃rest,dg g p f ρ0 (ds.drop i)=some rest/\ad++rest=ys
theorem sL(hcalm:X.calm=true)(hT:oE X.N.length g)
 (hg: ∀C s₀ H₀ ex,tm (bB X N' scope C s₀ H₀ ex) c tg g) (hp: ∀C s₀ H₀ ex,xx (bB X N' scope C s₀ H₀ ex) c ifs p) (he: ∀C s₀ H₀ ex,DP (bB X N' scope C s₀ H₀ ex) c .s elt f)
 {σ3:St} {H H3:Hp} {s3 s4:Shared} {hid:cn} {ρ:aL} {J:It} {it D0 C:Addr} {fp:List Addr} {tn:Nat->Heap->Prop} {ds ys:List D} {R:Result->Shared->Prop} {W:Hp} (hρ:ρ.length=X.N.length)
 (I:Inv (bB X N' scope C s3 H3 fp) [] σ3 H3 s4) (sr:SR X.K c hid (ρ++List.replicate m .no) σ3 H3) (hh:hid D0=true) (h00:c.H₀ D0=none) (na: ∀i:Nat,Ow (ρ++List.replicate m Sl.no)[i]? ->σ3[i]? ≠some (some (.ref D0))) (hacc:H3 D0=some (.lst [])) (sm:Same H H3) (nD:H D0=none) (wv:Same W (vw H3 hid)) (T:Turn X.prog X.w X.K tg J fp it tn) (st:tn 0 s4.heap) (hF: ∀b∈fp,H3 b=none)
 (io:zg X.K H W J ds) (hz:ds.length<=sizeLine) (hc:dg g p f (ρ++List.replicate m .no) ds=some ys)
 (hR: ∀(s':Shared) (σ':St) (H':Hp) (xs:List V),Inv (bB X N' scope C s3 H3 fp) [] σ' H' s'->Same H H'->H' D0=some (.lst xs)->Reps X.K (vw H' hid) xs ys->R (.ok .next) s'):
 codeAny (model X.prog X.w) X.A (.compLoop (.ListComp elt [⟨tg,iter,ifs,0⟩] scope pos) 0 (.ref it) (.ref D0) (compEnvC scope (oq X.env.cells scope C) C X.env)) R s4:=by
 have stat: ∀ {ae:List (Addr×Obj)} {H':Hp},(∀q∈ae,q.1∉fp)->(∀b∈fp,H' b=none)-> ∀b∈fp,mx (bB X N' scope C s3 H3 fp) ae H' b:=λ{ae H'} hpn hn b hb=>
  ⟨hn b hb,(I.ok.exf b hb).1,I.ok.exfs b hb,.inl hb,(I.ok.exf b hb).2,λq hq e=>hpn q (by have hq':q∈([]:List (Addr×Obj))++ae:=hq;simpa using hq') (by rw[e];exact hb)⟩
 have no: ∀q∈([]:List (Addr×Obj)),q.1∉fp:=λq hq=>nomatch hq
 refine iz (λn s'=> ∃(i:Nat) (xs:List V) (ad:List D) (σ':St) (H':Hp),CLI (bB X N' scope C s3 H3 fp) X.K c hid (ρ++List.replicate m .no) H W D0 fp tn g p f ds ys n i xs ad σ' H' s') ?_ ds.length
  ⟨0,[],[],σ3,H3,by simp,Nat.zero_le _,I,st,hF,sr,sm,hacc,.nil,wv,Nat.zero_le _,na,ys,by simpa using hc,rfl⟩
 rintro n s5 ⟨i,xs,ad,σ5,H5,rfl,hi,I5,st5,f5,sr5,sm5,ac5,rp5,w5,hl5,na5,rest,hc5,hy5⟩
 have wH:Same W H5:=w5.trans (fH _ _)
 by_cases hlt:i<ds.length
 ·have hd:ds[i]? =some ds[i]:=List.getElem?_eq_getElem hlt
  have e2:ds.drop i=ds[i]::ds.drop (i+1):=List.drop_eq_getElem_cons hlt
  rw[e2] at hc5;unfold dg at hc5;obtain⟨go,yl⟩:=io.1 i ds[i] H5 hd sm5 wH
  refine cP (T.item (bB X N' scope C s3 H3 fp) rfl rfl rfl hcalm i [] s5 σ5 H5 (λ_ _=>False) I5 (stat no f5) st5 go) λr s6 hq_=>?_
  obtain⟨u,hr,h6⟩:=hq_
  subst hr;refine cP h6 λ_ s7 hq_=>?_
  obtain⟨x,H7,I7,r7,y7,st7,f7⟩:=hq_
  obtain⟨s7',rp⟩:=yl x H7 y7
  have rx:=rp hid sr5.tr w5
  have I7':=I7.pinned (stat no f7) (T.obj _ _ st7)
  cases e3:g ds[i] (ρ++List.replicate m .no) with
  |none=>rw[e3] at hc5;cases hc5
  |some ρ1=>
   rw[e3] at hc5;have hc5:(p ρ1).bind (λb=>if b=true then(f ρ1).bind λy=>(dg g p f (ρ++List.replicate m .no) (ds.drop (i+1))).map (y:: ·) else dg g p f (ρ++List.replicate m .no) (ds.drop (i+1)))=some rest:=hc5
   obtain⟨tl1,tl2⟩:=hT _ _ _ e3
   have fg: ∀ {σ':St} {H':Hp},SR X.K c hid ρ1 σ' H'->SR X.K c hid (ρ++List.replicate m .no) σ' H':=λ{σ' H'} z=>z.forget tl1 λj s e=>by
    by_cases hj:j<X.N.length
    ·exact .inr ((tl2 j hj).trans e)
    ·refine .inl ?_
     rw[List.getElem?_append_right (by omega),List.getElem?_replicate] at e
     split at e
     ·cases e;rfl
     ·cases e
   have keepT: ∀ {σ':St} {H':Hp} {s':Shared},Inv (bB X N' scope C s3 H3 fp) ([]++lV fp s7.heap) σ' H' s'->tn (i+1) s'.heap/\ ∀b∈fp,H' b=none:=λ{σ' H' s'} J'=>by
    refine⟨T.keep _ _ _ st7 λb hb o e=>(J'.pin (b,o) (List.mem_append_right _ (List.mem_append_right _ (iH hb e)))).1,λb hb=>?_⟩
    obtain⟨o,e,_⟩:=T.obj _ _ st7 b hb
    exact(J'.pin (b,o) (List.mem_append_right _ (List.mem_append_right _ (iH hb e)))).2.1
   refine cP (hg C s3 H3 fp hid _ ds[i] _ s7 σ5 H7 x u (λσ' H'=>H'=H7/\SR X.K c hid ρ1 σ' H7/\OwK (ρ++List.replicate m .no) ρ1 σ5 σ') I7' r7 ⟨sr5.ext s7',rx,ρ1,e3,λσ' z o=>⟨rfl,z,o⟩⟩) λ_ s8 hq_=>?_
   obtain⟨σ8,H8,I8,e8,q8,o8⟩:=hq_
   subst e8;have na8: ∀i:Nat,Ow (ρ++List.replicate m Sl.no)[i]? ->σ8[i]? ≠some (some (.ref D0)):=λj o=>by
    have o1:Ow ρ1[j]? :=by
     by_cases hj:j<X.N.length
     ·rw[tl2 j hj];exact o
     ·exfalso
      rw[List.getElem?_append_right (by omega),List.getElem?_replicate] at o
      split at o<;>exact o.elim
    rw[(o8 j o1).2];exact na5 j o
   cases e4:p ρ1 with
   |none=>rw[e4] at hc5;cases hc5
   |some b=>
    rw[e4] at hc5;have hc5:(if b=true then(f ρ1).bind λy=>(dg g p f (ρ++List.replicate m .no) (ds.drop (i+1))).map (y:: ·) else dg g p f (ρ++List.replicate m .no) (ds.drop (i+1)))=some rest:=hc5
    refine cP (hp C s3 H3 fp hid ρ1 _ s8 σ8 H8 (λb' H'=>b'=b/\Same H8 H') I8 ⟨q8,b,e4,λH' s'=>⟨rfl,s'⟩⟩) λok s9 hq_=>?_
    obtain⟨H9,I9,e9,sm9⟩:=hq_
    subst e9;have w9:Same (vw H5 hid) (vw H9 hid):=bc (s7'.trans sm9)
    cases ok with
    |false=>
     have hc5:dg g p f (ρ++List.replicate m .no) (ds.drop (i+1))=some rest:=hc5
     obtain⟨k1,k2⟩:=keepT I9
     exact⟨ds.length- (i+1),by omega,i+1,xs,ad,σ8,H9,rfl,hlt,I9.unpinned,k1,k2,fg (q8.ext sm9),sm5.trans (s7'.trans sm9),sm9 _ _ (s7' _ _ ac5),rp5.mono w9,w5.trans w9,by omega,na8,rest,hc5,hy5⟩
    |true=>
     have hc5:((f ρ1).bind λy=>(dg g p f (ρ++List.replicate m .no) (ds.drop (i+1))).map (y:: ·))=some rest:=hc5
     cases e5:f ρ1 with
     |none=>rw[e5] at hc5;cases hc5
     |some y=>
      rw[e5] at hc5;have hc5:(dg g p f (ρ++List.replicate m .no) (ds.drop (i+1))).map (y:: ·)=some rest:=hc5
      cases e6:dg g p f (ρ++List.replicate m .no) (ds.drop (i+1)) with
      |none=>rw[e6] at hc5;cases hc5
      |some rest'=>
       rw[e6] at hc5;cases hc5
       show wpAny (model X.prog X.w) X.A (eval elt _) _ _ s9;refine cP (he C s3 H3 fp hid ρ1 _ s9 σ8 H9 (λv H'=>Same H9 H'/\Rep X.K (vw H' hid) v y) I9 ⟨q8.ext sm9,y,e5,λv H' s' r=>⟨s',r⟩⟩) λv s10 hq_=>?_
       obtain⟨z,H10,I10,rz,sm10,rp10⟩:=hq_
       have sm':Same H5 H10:=s7'.trans (sm9.trans sm10)
       have a10:H10 D0=some (.lst xs):=sm' _ _ ac5
       refine cP (je (X:=bB X N' scope C s3 H3 fp) _ s10 σ8 H10 (.ref D0) [z] (.ref D0) [v] (λ_ H'=>H'=dv H10 D0 (.lst (xs++[z]))) I10 rfl (.cons rz .nil) ⟨D0,xs,z,rfl,rfl,a10,by omega,rfl⟩) λ_ s11 ⟨_,H11,I11,_,e11⟩=>?_
       subst e11;obtain⟨k1,k2⟩:=keepT I11
       have vv:vw (dv H10 D0 (.lst (xs++[z]))) hid=vw H10 hid:=i5 hh
       have w10:Same (vw H5 hid) (vw H10 hid):=bc sm'
       refine⟨ds.length- (i+1),by omega,i+1,xs++[z],ad++[y],σ8,_,rfl,hlt,I11.unpinned,k1,k2,?_,λb o e=>?_,bM,?_,?_,by simp;omega,na8,rest',e6,by rw[<-hy5];simp⟩
       ·
        have q10:=fg ((q8.ext sm9).ext sm10)
        exact q10.write hh h00 na8
       ·rw[aR (cu e nD)];exact sm' _ _ (sm5 _ _ e)
       ·rw[vv];exact(rp5.mono w10).append (.cons rp10 .nil)
       ·rw[vv];exact w5.trans w10
 ·have e:i=ds.length:=by omega
  subst e;rw[List.drop_eq_nil_of_le (Nat.le_refl _)] at hc5;cases hc5
  rw[List.append_nil] at hy5;subst hy5;refine cP (T.done (bB X N' scope C s3 H3 fp) rfl rfl rfl hcalm ds.length [] s5 σ5 H5 (λ_ _=>False) I5 (stat no f5) st5 (io.2 H5 sm5 wH)) λr s6 hq_=>?_
  obtain⟨hr,I6⟩:=hq_
  subst hr;exact hR s6 σ5 H5 xs I6 sm5 ac5 rp5
theorem mw(hcalm:X.calm=true)(hk:scope.kind=.function)(hs:vi scope X.env.scope=true)(hn:vk X.N N' scope=true)(hm:N'.length-X.N.length=m)(hT:oE X.N.length g)
 (hg: ∀C s₀ H₀ ex,tm (bB X N' scope C s₀ H₀ ex) c tg g) (hp: ∀C s₀ H₀ ex,xx (bB X N' scope C s₀ H₀ ex) c ifs p) (he: ∀C s₀ H₀ ex,DP (bB X N' scope C s₀ H₀ ex) c .s elt f)
 {E:Value->Shared->Prop} {ae:List (Addr×Obj)} {σ:St} {H:Hp} {s:Shared} {hid:cn} {ρ:aL} {J:It} {it:Addr} {fp:List Addr} {tn:Nat->Heap->Prop} {ds ys:List D} {RR:Value->Addr->Result->Shared->Prop}
 (I:Inv X ae σ H s) (sr:SR X.K c hid ρ σ H) (T:Turn X.prog X.w X.K tg J fp it tn) (st:tn 0 s.heap) (hF: ∀b∈fp,mx X ae H b) (io:zg X.K H (vw H hid) J ds) (hz:ds.length<=sizeLine) (hc:dg g p f (ρ++List.replicate m .no) ds=some ys)
 (hR: ∀(D C:Addr) (s':Shared) (H':Hp) (xs:List V),s.heap.objs.size<=D->s.heap.objs.size<=C->D≠C->H D=none->Same H H'->H' D=some (.lst xs)->Reps X.K (vw H' (cU hid D)) xs ys->(∃m,s'.heap.Ns C m)->H' C=none->s'.os=s.os->AllBare s'.gens->HOk X.prog X.w H' s'.heap->Un (iX X.stack) fp H H' s.heap s'.heap->RR (.ref D) C (.ok .next) s'):
 wpAny (model X.prog X.w) X.A (newList []) (λacc s₃=>wpAny (model X.prog X.w) X.A (newFunctionEnv scope X.env.globals (ph X.env.cells scope.names []) [] X.env.qual none .none (some X.env)) (λcenv s₄=>
  codeAny (model X.prog X.w) X.A (.compStart (.ListComp elt [⟨tg,iter,ifs,0⟩] scope pos) 0 (.ref it) acc {cenv with scope:=relabel scope X.env}) (RR acc cenv.locals) s₄) E s₃) E s:=by
 refine wpAny_newObj_type (v4 λh₁ hns₁ kp1 oc₁=>?_)
 dsimp only at hns₁ kp1 oc₁⊢
 generalize hH2:s.heap.push {cls:=.type "list",dict:=none,data:=.seq ([]:List Value).toArray}=H2 at hns₁ kp1 oc₁⊢
 have hC:H2.objs.size=s.heap.objs.size+1:=by rw[<-hH2,Heap.size_push]
 have hD:H s.heap.objs.size=none:=I.hok.fresh (Nat.le_refl _)
 have I2:Inv X ae σ (dv H s.heap.objs.size (.lst [])) {s with heap:=H2}:=by
  rw[<-hH2];exact I.laid (t':=s.toks) (λb o e=>Heap.get?_push_of_some _ e) (Nat.le_refl _) ⟨Nat.zero_le _,[],0,.nil,Heap.get?_push_size _ rfl⟩
 have fpLt: ∀b∈fp,b<s.heap.objs.size:=λb hb=>let⟨o,e,_⟩:=T.obj 0 s.heap st b hb;Heap.lt_size e
 have hF2: ∀b∈fp,mx X ae (dv H s.heap.objs.size (.lst [])) b:=λb hb=>⟨by rw[aR (Nat.ne_of_lt (fpLt b hb))];exact(hF b hb).1,(hF b hb).2⟩
 have kp0: ∀b o,s.heap.get? b=some o->H2.get? b=some o:=λb o e=>by rw[<-hH2];exact Heap.get?_push_of_some _ e
 have IY:=tQ (tk:=s.toks) (N':=N') (fp:=fp) I2 hF2 (λb hb=>let⟨o,e,_⟩:=T.obj 0 s.heap st b hb;⟨o,kp0 b o e⟩) hk hs hn hns₁ kp1 oc₁
 rw[hm] at IY;dsimp only at IY;have sr0:SR X.K c (cU hid s.heap.objs.size) (ρ++List.replicate m .no) (σ++List.replicate m none) (dv H s.heap.objs.size (.lst [])):=(sr.hide (ca hD _) hD bM).more m
 have hρ:ρ.length=X.N.length:=by rw[<-sr.len];exact I.len
 have nf:hid s.heap.objs.size=false:=sr.fresh hD
 have st1:tn 0 h₁:=T.keep _ _ _ st λb hb o e=>kp1 b o (kp0 b o e)
 have na0: ∀i:Nat,Ow (ρ++List.replicate m Sl.no)[i]? ->(σ++List.replicate m none)[i]? ≠some (some (V.ref s.heap.objs.size)):=(sr.more m).notOw nf
 have wv:Same (vw H hid) (vw (dv H s.heap.objs.size (.lst [])) (cU hid s.heap.objs.size)):=by rw[uL hD];exact Same.refl _
 have loop: ∀s4:Shared,s4={s with heap:=h₁,toks:=s.toks}->
  codeAny (model X.prog X.w) X.A (.compLoop (.ListComp elt [⟨tg,iter,ifs,0⟩] scope pos) 0 (.ref it) (.ref s.heap.objs.size) (compEnvC scope (oq X.env.cells scope H2.objs.size) H2.objs.size X.env)) (RR (.ref s.heap.objs.size) H2.objs.size) s4:=by
  rintro s4 rfl
  refine sL (H:=H) (hid:=cU hid s.heap.objs.size) (W:=vw H hid) hcalm hT hg hp he hρ IY sr0 nL (sr.fresh0 hD) na0 bM (ca hD _) hD wv T st1 (λb hb=>(hF2 b hb).1) io hz hc ?_
  intro s' σ' H' xs I' sm' hx' rp';have un1:Un (iX X.stack) fp H (dv H s.heap.objs.size (.lst [])) s.heap H2:=Un.laid (λb o e=>kp0 b o e) (Nat.le_refl _) hD
  refine hR s.heap.objs.size H2.objs.size s' H' xs (Nat.le_refl _) (by rw[hC];exact Nat.le_succ _) (by rw[hC];exact Nat.ne_of_lt (Nat.lt_succ_self _)) hD sm' hx' rp' (let⟨m,hm,_⟩:=I'.loc;⟨m,hm⟩) I'.free I'.os I'.bare I'.hok (un1.trans I'.base)
 exact codeAny_compStart_list (loop _ rfl) (T.self X.A 0 _ _ _ st1 (loop _ rfl))
theorem jU(hcalm:X.calm=true)(hT:oE X.N.length g)(hi:zX X c tg iter gi)
 (hg: ∀C s₀ H₀ ex,tm (bB X N' scope C s₀ H₀ ex) c tg g) (hp: ∀C s₀ H₀ ex,xx (bB X N' scope C s₀ H₀ ex) c ifs p) (he: ∀C s₀ H₀ ex,DP (bB X N' scope C s₀ H₀ ex) c .s elt f)
 (hk:scope.kind=.function:=by rfl) (hs:vi scope X.env.scope=true:=by kernel_rfl) (hn:vk X.N N' scope=true:=by kernel_rfl) (hm:N'.length-X.N.length=m:=by rfl) (hset: ∀x,foldedSetIterable iter X.env x=pure x:=by intro _;rfl):
 DP X c .n (.ListComp elt [⟨tg,iter,ifs,0⟩] scope pos) (bT m gi g p f):=by
 intro hid ρ ae s σ H Q I hq;obtain⟨sr,d,hd,q⟩:=hq
 obtain⟨ds,ys,e1,hz,hc,rfl⟩:=lJ hd
 rw[eval_ListComp];refine wpAny_comprehension_free (use:=none) rfl hset (i8 λx hx=>I.ok.has x (j6 hs x hx)) hk (nN hs) ?_
 refine cP (hi hid ρ ae s σ H (λJ H'=>Same H H'/\zg X.K H' (vw H' hid) J ds) I ⟨sr,ds,e1,λJ H' s1 io=>⟨s1,io⟩⟩) λv s1 h1=>cP h1 λitv s2 h2=>?_
 obtain⟨it,fp,tn,J,H2,rfl,I2,T,st2,f2,sm,io⟩:=h2
 refine mw (RR:=λacc C=>compPost (model X.prog X.w) X.A X.xe none (EP X ae σ Q) acc C) hcalm hk hs hn hm hT hg hp he I2 (sr.ext sm) T st2 f2 io hz hc ?_
 intro D C s' H' xs hDge hCge hDC hD sm' hx rp ⟨mm,hns⟩ hC' hos hbare hok hun;refine⟨mm,hns,λh' hsb=>⟨.ref D,H',?_,rfl,q _ H' (sm.trans sm') ⟨D,xs,ys,rfl,rfl,sm.free hD,hx,rp⟩⟩⟩
 have neC: ∀b o,s2.heap.get? b=some o->b≠C:=λb o e z=>by subst z;exact absurd (Heap.lt_size e) (Nat.not_lt.mpr hCge)
 have hun':Un (iX X.stack) fp H2 H' s2.heap h':=⟨λb o e n h1 h2=>(hsb.2 b (neC b o e)).trans (hun.keep b o e n h1 h2),λb o e n h1 h2=>let⟨sl,z⟩:=hun.slot b o e n h1 h2;⟨sl,(hsb.2 b (neC b o e)).trans z⟩,hun.free,λb o e h2=>let⟨o',z⟩:=hun.there b o e h2;⟨o',(hsb.2 b (neC b o e)).trans z⟩,hun.tups,hun.frzs,hun.tbls⟩
 have hok':HOk X.prog X.w H' h':=λb o e=>by
  have nb: ∀b' o',H' b'=some o'->b'≠C:=λb' o' e' z=>by subst z;rw[hC'] at e';cases e'
  refine(hok b o e).stay (λc' u hc' z=>(hsb.2 c' ?_).trans z) (λ_ z=>z) λ_ _ z=>z
  rcases hc' with z'|z'
  ·rw[z'];exact nb b o e
  ·exact nb c' _ z'
 exact I2.call' (s':={s' with heap:=h'}) (ch:=fp) hos hun' hok' hbare λb hb=>⟨(f2 b hb).2.2.2.1,(f2 b hb).2.1,(f2 b hb).2.2.2.2.1,(f2 b hb).2.2.2.2.2⟩
end
section
variable {X:Cx}{c:Ct}{elt tg iter:Expr}{ifs:List Expr}{scope:Scope}{pos spos py:Pos}{N':List Str}{m:Nat}{gi:FA}{g:FG}{p:FT}{f:FE}{y:Str}
theorem rG(i:Nat)(hcalm:X.calm=true)(hN:X.N.Nodup)(hT:oE X.N.length g)(hi:zX X c tg iter gi)
 (hg: ∀C s₀ H₀ ex,tm (bB X N' scope C s₀ H₀ ex) c tg g) (hp: ∀C s₀ H₀ ex,xx (bB X N' scope C s₀ H₀ ex) c ifs p) (he: ∀C s₀ H₀ ex,DP (bB X N' scope C s₀ H₀ ex) c .s elt f)
 (hsw:swapsWith (.ListComp elt [⟨tg,iter,ifs,0⟩] scope pos) (some (.Name y py)) spos.line X.env=pure true) (hyi:X.N[i]? =some y) (hy:X.env.scope.names.lookup y=some .local)
 (hk:scope.kind=.function) (hs:vi scope X.env.scope=true) (hn:vk X.N N' scope=true) (hm:N'.length-X.N.length=m) (hset: ∀x,foldedSetIterable iter X.env x=pure x) (ρ:aL):
 PS X (.Assign [.Name y py] (.ListComp elt [⟨tg,iter,ifs,0⟩] scope pos) spos) (yg (λσ H Q=> ∃hid,vn X.K c hid .n (bT m gi g p f) ρ σ H Q) (tP i)):=by
 intro ae s σ H E I hq;obtain⟨hid,sr,d,hd,q⟩:=hq
 obtain⟨ds,ys,e1,hz,hc,rfl⟩:=lJ hd
 rw[exec_Assign_Name_used _ _ _ _ hsw];refine wpAny_bind (wpAny_standAt (wpAny_bind ?_))
 show wpAny _ X.A (do let _ <-comprehension (.ListComp elt [⟨tg,iter,ifs,0⟩] scope pos) scope X.env _ (newList []) false (eval iter X.env) (some (assign (.Name y py) X.env))) _ _ s
 refine wpAny_bind (wpAny_mono (wpAny_comprehension_free (use:=some (assign (.Name y py) X.env)) (Q:=λ_ s'=>SP X ae E .next s') rfl hset (i8 λx hx=>I.ok.has x (j6 hs x hx)) hk (nN hs) ?_) (λ_ s' hq=>wpAny_pure (wpAny_pure hq)) λ_ _ e=>e)
 refine cP (hi hid ρ ae s σ H (λJ H'=>Same H H'/\zg X.K H' (vw H' hid) J ds) I ⟨sr,ds,e1,λJ H' s1 io=>⟨s1,io⟩⟩) λv s1 h1=>cP h1 λitv s2 h2=>?_
 obtain⟨it,fp,tn,J,H2,rfl,I2,T,st2,f2,sm,io⟩:=h2
 refine mw (RR:=λacc C=>compPost (model X.prog X.w) X.A X.xe (some (assign (.Name y py) X.env)) (λ_ s'=>SP X ae E .next s') acc C) hcalm hk hs hn hm hT hg hp he I2 (sr.ext sm) T st2 f2 io hz hc ?_
 intro D C s' H' xs hDge hCge hDC hD sm' hx rp ⟨mm,hns⟩ hC' hos hbare hok hun;have I3:Inv X ae σ H' s':=I2.call' (ch:=fp) hos hun hok hbare λb hb=>⟨(f2 b hb).2.2.2.1,(f2 b hb).2.1,(f2 b hb).2.2.2.2.1,(f2 b hb).2.2.2.2.2⟩
 have fin:=q _ H' (sm.trans sm') ⟨D,xs,ys,rfl,rfl,sm.free hD,hx,rp⟩
 have ltC: ∀b o,s2.heap.get? b=some o->b≠C:=λb o e z=>by subst z;exact absurd (Heap.lt_size e) (Nat.not_lt.mpr hCge)
 have hLC:C≠X.env.locals:=λz=>by
  have:=I2.lt
  rw[<-z] at this;exact absurd this (Nat.not_lt.mpr hCge)
 show wpAny _ X.A (assign (.Name y py) X.env (.ref D)) _ _ s';refine wpAny_assign_Name (nu (v:=.ref D) I3 hN hyi (.inl hy) rfl (λs'' I4 hb=>?_) (.inr hy))
 obtain⟨a,hsb,ha⟩:=hb
 have hCa:C≠a:=by
  rcases ha with rfl|ha
  ·exact hLC
  ·obtain⟨w',o,ho,_⟩:=I2.cell y a ha
   exact λz=>ltC a o ho z.symm
 refine⟨mm,hns.sameBut hsb hCa,λh3 hs3=>⟨_,H',?_,fin⟩⟩
 refine I4.turned (t':=s''.toks) (it:=C) (λb o nb e=>(hs3.2 b nb).trans e) hC' hLC (.inr (Nat.le_trans I2.sz hCge)) (λx c' e z=>?_) (λq hq z=>?_)
 ·obtain⟨w',o,ho,_⟩:=I2.cell x c' e
  exact ltC c' o ho z
 ·exact ltC q.1 q.2 (I2.pin q hq).1 z
theorem oJ(i:Nat){k:Kd}(hcalm:X.calm=true)(hN:X.N.Nodup)(hT:oE X.N.length g)(hi:zX X c tg iter gi)
 (hg: ∀C s₀ H₀ ex,tm (bB X N' scope C s₀ H₀ ex) c tg g) (hp: ∀C s₀ H₀ ex,xx (bB X N' scope C s₀ H₀ ex) c ifs p) (he: ∀C s₀ H₀ ex,DP (bB X N' scope C s₀ H₀ ex) c .s elt f)
 (hsw:swapsWith (.ListComp elt [⟨tg,iter,ifs,0⟩] scope pos) (some (.Name y py)) spos.line X.env=pure true:=by rfl) (hyi:X.N[i]? =some y:=by rfl) (hy:X.env.scope.names.lookup y=some .local:=by rfl)
 (hk:scope.kind=.function:=by rfl) (hs:vi scope X.env.scope=true:=by kernel_rfl) (hn:vk X.N N' scope=true:=by kernel_rfl) (hm:N'.length-X.N.length=m:=by rfl) (hset: ∀x,foldedSetIterable iter X.env x=pure x:=by intro _;rfl):
 DS X c k (.Assign [.Name y py] (.ListComp elt [⟨tg,iter,ifs,0⟩] scope pos) spos) (eS i (bT m gi g p f)):=λρ=>PS.imp (rG i hcalm hN hT hi hg hp he hsw hyi hy hk hs hn hm hset ρ) λD σ H hq_=>by
 obtain⟨hid,sr,q⟩:=hq_
 unfold eS at q;cases e1:bT m gi g p f ρ with
 |none=>rw[e1] at q;exact q.elim
 |some z=>
  rw[e1] at q;exact⟨hid,sr,z,e1,λv H' s r=>yM (sr.post s r (by decide)) q⟩
theorem vL(i:Nat){k:Kd}(hcalm:X.calm=true)(hN:X.N.Nodup)(hT:oE X.N.length g)(hi:zX X c tg iter gi)
 (hg: ∀C s₀ H₀ ex,tm (bB X N' scope C s₀ H₀ ex) c tg g) (hp: ∀C s₀ H₀ ex,xx (bB X N' scope C s₀ H₀ ex) c ifs p) (he: ∀C s₀ H₀ ex,DP (bB X N' scope C s₀ H₀ ex) c .s elt f)
 (hsw:swapsWith (.ListComp elt [⟨tg,iter,ifs,0⟩] scope pos) (some (.Name y py)) spos.line X.env=pure true:=by rfl) (hyi:X.N[i]? =some y:=by rfl) (hy:X.env.scope.names.lookup y=some .local:=by rfl)
 (hk:scope.kind=.function:=by rfl) (hs:vi scope X.env.scope=true:=by kernel_rfl) (hn:vk X.N N' scope=true:=by kernel_rfl) (hm:N'.length-X.N.length=m:=by rfl) (hset: ∀x,foldedSetIterable iter X.env x=pure x:=by intro _;rfl):
 DS X c k (.Assign [.Name y py] (.ListComp elt [⟨tg,iter,ifs,0⟩] scope pos) spos) (ba i (bT m gi g p f)):=λρ=>PS.imp (rG i hcalm hN hT hi hg hp he hsw hyi hy hk hs hn hm hset ρ) λD σ H hq_=>by
 obtain⟨hid,sr,q⟩:=hq_
 unfold ba at q;cases e1:bT m gi g p f ρ with
 |none=>rw[e1] at q;exact q.elim
 |some z=>
  rw[e1] at q;exact⟨hid,sr,z,e1,λv H' s r=>q _ H' hid ((sr.ext s).setV (RN.rep r λa n=>sr.fresh n) i) (bc s)⟩
end
mutual
def di:D->D->Bool
 | .non,.non=>true
 | .bl a,.bl b=>a==b
 | .bl a,.int b=>(if a then 1 else 0)==b
 | .int a,.bl b=>a==(if b then 1 else 0)
 | .int a,.int b=>a==b
 | .str a,.str b=>a==b
 | .tup a,.tup b=>cW a b
 | .lst a,.lst b=>cW a b
 | .lst a,.scr b=>cW a b
 | .scr a,.lst b=>cW a b
 | .scr a,.scr b=>cW a b
 |_,_=>false
def cW:List D->List D->Bool
 | [],[]=>true
 |x::xs,y::ys=>di x y&&cW xs ys
 |_,_=>false
end
mutual
def dw:D->Nat
 | .tup a=>dh a+1
 | .lst a=>dh a+1
 | .scr _=>cLine
 |_=>0
def dh:List D->Nat
 | []=>0
 |x::xs=>max (dw x) (dh xs)
end
theorem ke: ∀ {xs:List D} {i:Nat} {d:D},xs[i]? =some d->dw d<=dh xs
 | [],_,_,h=>by simp at h
 |x::xs,0,d,h=>by simp at h;subst h;unfold dh;exact Nat.le_max_left _ _
 |x::xs,i+1,d,h=>by
  have:=ke (xs:=xs) (i:=i) (d:=d) (by simpa using h)
  unfold dh;exact Nat.le_trans this (Nat.le_max_right _ _)
mutual
theorem j4: ∀x:D,di x x=true
 | .non=>by unfold di;rfl
 | .bl a=>by unfold di;simp
 | .int a=>by unfold di;simp
 | .str a=>by unfold di;simp
 | .tup a=>by unfold di;exact ji a
 | .lst a=>by unfold di;exact ji a
 | .scr a=>by unfold di;exact ji a
theorem ji: ∀x:List D,cW x x=true
 | []=>by unfold cW;rfl
 |x::xs=>by unfold cW;rw[j4 x,ji xs];rfl
end
def jy(xs ys:List D)(j:Nat):Bool:=match xs[j]?,ys[j]? with
 |some x,some y=>di x y
 |_,_=>false
theorem nE {xs ys:List D}(h:xs.length=ys.length):(List.range xs.length).all (jy xs ys)=cW xs ys:=by
 induction xs generalizing ys with
 |nil=>
  cases ys with
  |nil=>unfold cW;rfl
  |cons y ys=>simp at h
 |cons x xs ih=>
  cases ys with
  |nil=>simp at h
  |cons y ys=>
   rw[List.length_cons,List.range_succ_eq_map,List.all_cons,List.all_map];have e0:jy (x::xs) (y::ys) 0=di x y:=rfl
   have e1:((jy (x::xs) (y::ys))∘Nat.succ)=jy xs ys:=by funext j;simp[jy]
   rw[e0,e1,ih (by simpa using h)]
   conv=>rhs;unfold cW
theorem lF: ∀ {xs ys:List D},xs.length≠ys.length->cW xs ys=false
 | [],[],h=>absurd rfl h
 | [],_::_,_=>by unfold cW;rfl
 |_::_,[],_=>by unfold cW;rfl
 |x::xs,y::ys,h=>by unfold cW;rw[lF (xs:=xs) (ys:=ys) (by simpa using h)];simp
section
variable {X:Cx}{ae:List (Addr×Obj)}{σ:St}{H:Hp}{s:Shared}
theorem fb(I:Inv X ae σ H s){a:Addr}{xs ys:List V}(h:SqL X.K H a xs)(h':SqT X.K H a ys):False:=by
 obtain⟨its,_,pl,_⟩:=I.list h
 obtain⟨its',_,pt,_⟩:=I.tuple h'
 exact SeqAt.ne_of_list_tuple pl.isList pt rfl
theorem zd {a b:List D}(h: ∀zs,cW a zs=cW b zs):(∀z,di (.tup a) z=di (.tup b) z)/\(∀z,di (.lst a) z=di (.lst b) z)/\ ∀z,di (.scr a) z=di (.lst b) z:=by
 refine⟨λz=>?_,λz=>?_,λz=>?_⟩<;>cases z<;>unfold di<;>first|exact h _|rfl
theorem zR {b:List D}: ∀z,di (.scr b) z=di (.lst b) z:=(zd λ_=>rfl).2.2
mutual
theorem Rep.eqv(I:Inv X ae σ H s): ∀ {v:V} {x y:D},Rep X.K H v x->Rep X.K H v y-> ∀z,di x z=di y z
 |_,_,_,.non,.non=>λ_=>rfl
 |_,_,_,.bl,.bl=>λ_=>rfl
 |_,_,_,.int,.int=>λ_=>rfl
 |_,_,_,.str,.str=>λ_=>rfl
 |_,_,_,.tup h r,.tup h' r'=>by rw[I.tuple_inj h h'] at r;exact(zd (Reps.eqv I r r')).1
 |_,_,_,.lst h r,.lst h' r'=>by rw[I.list_inj (SqL.of h) (SqL.of h')] at r;exact(zd (Reps.eqv I r r')).2.1
 |_,_,_,.lst h r,.scr h' r'=>by rw[I.list_inj (SqL.of h) h'.seq] at r;exact λz=>((zd (Reps.eqv I r r')).2.1 z).trans (zR z).symm
 |_,_,_,.scr h r,.lst h' r'=>by rw[I.list_inj h.seq (SqL.of h')] at r;exact(zd (Reps.eqv I r r')).2.2
 |_,_,_,.scr h r,.scr h' r'=>by rw[I.list_inj h.seq h'.seq] at r;exact λz=>((zd (Reps.eqv I r r')).2.2 z).trans (zR z).symm
 |_,_,_,.tup h r,.lst h' r'=>(fb I (SqL.of h') h).elim
 |_,_,_,.lst h r,.tup h' r'=>(fb I (SqL.of h) h').elim
 |_,_,_,.tup h r,.scr h' r'=>(fb I h'.seq h).elim
 |_,_,_,.scr h r,.tup h' r'=>(fb I h.seq h').elim
theorem Reps.eqv(I:Inv X ae σ H s): ∀ {v:List V} {x y:List D},Reps X.K H v x->Reps X.K H v y-> ∀z,cW x z=cW y z
 |_,_,_,.nil,.nil=>λ_=>rfl
 |_,_,_,.cons r t,.cons r' t'=>λz=>by
  cases z with
  |nil=>unfold cW;rfl
  |cons w ws=>unfold cW;rw[Rep.eqv I r r' w,Reps.eqv I t t' ws]
end
theorem aJ(I:Inv X ae σ H s){a:Addr}{xs:List V}{ds:List D}(h:SqL X.K H a xs)(r:Reps X.K H xs ds): ∃its:List Value,s.heap.IsList a its.toArray/\its.length=ds.length/\ ∀(j:Nat) (hj:j<its.length),∃(v:V) (d:D),ds[j]? =some d/\RelV v its[j]/\Rep X.K H v d:=by
 obtain⟨its,rv,pl,_⟩:=I.list h
 have h1:=rv.length
 have h2:=r.length
 refine⟨its,pl.isList,by omega,λj hj=>?_⟩
 have e:xs[j]? =some xs[j]:=List.getElem?_eq_getElem (by omega)
 obtain⟨u,e1,r1⟩:=rv.get e
 obtain⟨d,e2,r2⟩:=r.get' e
 have:its[j]=u:=by rw[List.getElem?_eq_getElem hj] at e1;exact Option.some.inj e1
 rw[this];exact⟨xs[j],d,e2,r1,r2⟩
theorem bW(I:Inv X ae σ H s){a:Addr}{xs:List V}{ds:List D}(h:SqT X.K H a xs)(r:Reps X.K H xs ds): ∃its:List Value,s.heap.IsTuple a its.toArray/\its.length=ds.length/\ ∀(j:Nat) (hj:j<its.length),∃(v:V) (d:D),ds[j]? =some d/\RelV v its[j]/\Rep X.K H v d:=by
 obtain⟨its,rv,pl,_⟩:=I.tuple h
 have h1:=rv.length
 have h2:=r.length
 refine⟨its,pl,by omega,λj hj=>?_⟩
 have e:xs[j]? =some xs[j]:=List.getElem?_eq_getElem (by omega)
 obtain⟨u,e1,r1⟩:=rv.get e
 obtain⟨d,e2,r2⟩:=r.get' e
 have:its[j]=u:=by rw[List.getElem?_eq_getElem hj] at e1;exact Option.some.inj e1
 rw[this];exact⟨xs[j],d,e2,r1,r2⟩
end
section
variable {X:Cx}{ae:List (Addr×Obj)}{σ:St}{H:Hp}{s:Shared}
theorem fR(A:Around):A.in1.units=A.units+1:=rfl
theorem xq {A:Around}{n:Nat}(IH: ∀ {x y:D} {v u:V} {a b:Value} {A:Around},dw x<n->A.units+dw x<cLine->RelV v a->RelV u b->Rep X.K H v x->Rep X.K H u y->SeqAt.EqAt A s a b (di x y)){xs ys:List D}{its its2:List Value}(hd:dh xs<n)(hu:A.units+dh xs<cLine)
 (g1: ∀(j:Nat) (hj:j<its.length),∃(v:V) (d:D),xs[j]? =some d/\RelV v its[j]/\Rep X.K H v d) (g2: ∀(j:Nat) (hj:j<its2.length),∃(v:V) (d:D),ys[j]? =some d/\RelV v its2[j]/\Rep X.K H v d):
 ∀j (h1:j<its.toArray.size) (h2:j<its2.toArray.size),SeqAt.EqAt A s its.toArray[j] its2.toArray[j] (jy xs ys j):=λj h1 h2=>by
 obtain⟨v,d,e1,r1,p1⟩:=g1 j (by simpa using h1)
 obtain⟨u,d',e2,r2,p2⟩:=g2 j (by simpa using h2)
 have ez:jy xs ys j=di d d':=by unfold jy;rw[e1,e2]
 rw[ez];have hdd:=ke e1
 exact IH (by omega) (by omega) (by simpa using r1) (by simpa using r2) p1 p2
theorem jf(I:Inv X ae σ H s){A:Around}{n:Nat}(IH: ∀ {x y:D} {v u:V} {a b:Value} {A:Around},dw x<n->A.units+dw x<cLine->RelV v a->RelV u b->Rep X.K H v x->Rep X.K H u y->SeqAt.EqAt A s a b (di x y)){xs ys:List D}{zs ws:List V}{a b:Addr}(hd:dh xs<n)(hu:A.units+(dh xs+1)<cLine)
 (h1:SqL X.K H a zs) (r1:Reps X.K H zs xs) (h2:SqL X.K H b ws) (r2:Reps X.K H ws ys):SeqAt.RcAt A s (.ref a) (.ref b) (cW xs ys)/\SeqAt.RcNeAt A s (.ref a) (.ref b) (!cW xs ys):=by
 obtain⟨its,l1,n1,g1⟩:=aJ I h1 r1
 obtain⟨its2,l2,n2,g2⟩:=aJ I h2 r2
 by_cases e:xs.length=ys.length
 ·have hsz:its.toArray.size=its2.toArray.size:=by simp;omega
  have he:=xq (A:=A.in1) IH hd (by rw[fR];omega) g1 g2
  have ea:(List.range its.toArray.size).all (jy xs ys)=cW xs ys:=by rw[List.size_toArray,n1];exact nE e
  rw[<-ea];exact⟨SeqAt.RcAt.lists l1 l2 hsz (by omega) he,SeqAt.RcNeAt.lists l1 l2 hsz (by omega) he⟩
 ·rw[lF e]
  have hsz:(its.toArray.size !=its2.toArray.size)=true:=by simp;omega
  exact⟨SeqAt.RcAt.lists_lengths l1 l2 hsz (by omega),SeqAt.RcNeAt.lists_lengths l1 l2 hsz (by omega)⟩
theorem qQ(I:Inv X ae σ H s){A:Around}{n:Nat}(IH: ∀ {x y:D} {v u:V} {a b:Value} {A:Around},dw x<n->A.units+dw x<cLine->RelV v a->RelV u b->Rep X.K H v x->Rep X.K H u y->SeqAt.EqAt A s a b (di x y)){xs ys:List D}{zs ws:List V}{a b:Addr}(hd:dh xs<n)(hu:A.units+(dh xs+1)<cLine)
 (h1:SqT X.K H a zs) (r1:Reps X.K H zs xs) (h2:SqT X.K H b ws) (r2:Reps X.K H ws ys):SeqAt.RcAt A s (.ref a) (.ref b) (cW xs ys)/\SeqAt.RcNeAt A s (.ref a) (.ref b) (!cW xs ys):=by
 obtain⟨its,l1,n1,g1⟩:=bW I h1 r1
 obtain⟨its2,l2,n2,g2⟩:=bW I h2 r2
 have he:=xq (A:=A.in1) IH hd (by rw[fR];omega) g1 g2
 have ea:((List.range (min its.toArray.size its2.toArray.size)).all (jy xs ys)&&its.toArray.size==its2.toArray.size)=cW xs ys:=by
  rw[List.size_toArray,List.size_toArray,n1,n2]
  by_cases e:xs.length=ys.length
  ·rw[<-e,Nat.min_self,nE e];simp
  ·rw[lF e];simp[e]
 rw[<-ea];exact⟨SeqAt.RcAt.tuples l1 l2 (by omega) he,SeqAt.RcNeAt.tuples l1 l2 (by omega) he⟩
theorem kO(I:Inv X ae σ H s){A:Around}{a b:Addr}{x y:D}(r1:Rep X.K H (.ref a) x)(r2:Rep X.K H (.ref b) y)(e:a=b):SeqAt.EqAt A s (.ref a) (.ref b) (di x y):=by
 subst e;rw[Rep.eqv I r1 r2,j4];exact SeqAt.EqAt.same _
theorem y9(I:Inv X ae σ H s){n:Nat}(IH: ∀ {x y:D} {v u:V} {a b:Value} {A:Around},dw x<n->A.units+dw x<cLine->RelV v a->RelV u b->Rep X.K H v x->Rep X.K H u y->SeqAt.EqAt A s a b (di x y)){x y:D}{v u:V}{a b:Value}{A:Around}(hd:dw x<n+1)(hu:A.units+dw x<cLine)(hc:A.units<cLine)
 (ra:RelV v a) (rb:RelV u b) (px:Rep X.K H v x) (py:Rep X.K H u y):SeqAt.EqAt A s a b (di x y):=by
 unfold di;cases px with
 |non=>
  cases ra
  cases py with
  |non=>
   cases rb
   exact SeqAt.EqAt.same _
  |bl=>
   cases rb
   exact SeqAt.EqAt.none_bool _
  |int=>
   obtain⟨t2,rfl⟩:=rb
   exact SeqAt.EqAt.none_int _ _
  |str=>
   obtain⟨t2,rfl⟩:=rb
   exact SeqAt.EqAt.none_str _ _
  | @tup a2 _ _ h2 r2=>
    cases rb
    obtain⟨its2,l2,_⟩:=bW I h2 r2
    exact SeqAt.EqAt.none_tuple l2 (by omega)
  | @lst a2 _ _ h2 r2=>
    cases rb
    obtain⟨its2,l2,_⟩:=aJ I (SqL.of h2) r2
    exact SeqAt.EqAt.none_list l2 (by omega)
  | @scr a2 _ _ h2 r2=>
    cases rb
    obtain⟨its2,l2,_⟩:=aJ I h2.seq r2
    exact SeqAt.EqAt.none_list l2 (by omega)
 |bl=>
  cases ra
  cases py with
  |non=>
   cases rb
   exact SeqAt.EqAt.bool_none _
  |bl=>
   cases rb
   exact SeqAt.EqAt.bool_bool _ _
  |int=>
   obtain⟨t2,rfl⟩:=rb
   exact SeqAt.EqAt.bool_int _ _ _
  |str=>
   obtain⟨t2,rfl⟩:=rb
   exact SeqAt.EqAt.bool_str _ _ _
  | @tup a2 _ _ h2 r2=>
    cases rb
    obtain⟨its2,l2,_⟩:=bW I h2 r2
    exact SeqAt.EqAt.bool_tuple _ l2 (by omega)
  | @lst a2 _ _ h2 r2=>
    cases rb
    obtain⟨its2,l2,_⟩:=aJ I (SqL.of h2) r2
    exact SeqAt.EqAt.bool_list _ l2 (by omega)
  | @scr a2 _ _ h2 r2=>
    cases rb
    obtain⟨its2,l2,_⟩:=aJ I h2.seq r2
    exact SeqAt.EqAt.bool_list _ l2 (by omega)
 |int=>
  obtain⟨t1,rfl⟩:=ra
  cases py with
  |non=>
   cases rb
   exact SeqAt.EqAt.int_none _ _
  |bl=>
   cases rb
   exact SeqAt.EqAt.int_bool _ _ _
  |int=>
   obtain⟨t2,rfl⟩:=rb
   exact SeqAt.EqAt.int_int _ _ _ _
  |str=>
   obtain⟨t2,rfl⟩:=rb
   exact SeqAt.EqAt.int_str _ _ _ _
  | @tup a2 _ _ h2 r2=>
    cases rb
    obtain⟨its2,l2,_⟩:=bW I h2 r2
    exact SeqAt.EqAt.int_tuple _ _ l2 (by omega)
  | @lst a2 _ _ h2 r2=>
    cases rb
    obtain⟨its2,l2,_⟩:=aJ I (SqL.of h2) r2
    exact SeqAt.EqAt.int_list _ _ l2 (by omega)
  | @scr a2 _ _ h2 r2=>
    cases rb
    obtain⟨its2,l2,_⟩:=aJ I h2.seq r2
    exact SeqAt.EqAt.int_list _ _ l2 (by omega)
 |str=>
  obtain⟨t1,rfl⟩:=ra
  cases py with
  |non=>
   cases rb
   exact SeqAt.EqAt.str_none _ _
  |bl=>
   cases rb
   exact SeqAt.EqAt.str_bool _ _ _
  |int=>
   obtain⟨t2,rfl⟩:=rb
   exact SeqAt.EqAt.str_int _ _ _ _
  |str=>
   obtain⟨t2,rfl⟩:=rb
   exact SeqAt.EqAt.str_str _ _ _ _
  | @tup a2 _ _ h2 r2=>
    cases rb
    obtain⟨its2,l2,_⟩:=bW I h2 r2
    exact SeqAt.EqAt.str_tuple _ _ l2 (by omega)
  | @lst a2 _ _ h2 r2=>
    cases rb
    obtain⟨its2,l2,_⟩:=aJ I (SqL.of h2) r2
    exact SeqAt.EqAt.str_list _ _ l2 (by omega)
  | @scr a2 _ _ h2 r2=>
    cases rb
    obtain⟨its2,l2,_⟩:=aJ I h2.seq r2
    exact SeqAt.EqAt.str_list _ _ l2 (by omega)
 | @tup a1 _ _ h1 r1=>
   cases ra
   obtain⟨its,l1,_⟩:=bW I h1 r1
   cases py with
   |non=>
    cases rb
    exact SeqAt.EqAt.tuple_none l1 (by omega)
   |bl=>
    cases rb
    exact SeqAt.EqAt.tuple_bool _ l1 (by omega)
   |int=>
    obtain⟨t2,rfl⟩:=rb
    exact SeqAt.EqAt.tuple_int _ _ l1 (by omega)
   |str=>
    obtain⟨t2,rfl⟩:=rb
    exact SeqAt.EqAt.tuple_str _ _ l1 (by omega)
   | @tup a2 _ _ h2 r2=>
     cases rb
     obtain⟨its2,l2,_⟩:=bW I h2 r2
     by_cases e:a1=a2
     ·exact(kO I (.tup h1 r1) (.tup h2 r2) e)
     ·exact SeqAt.EqAt.of_refs e (qQ I IH (by unfold dw at hd;omega) (by unfold dw at hu;omega) h1 r1 h2 r2).1
   | @lst a2 _ _ h2 r2=>
     cases rb
     obtain⟨its2,l2,_⟩:=aJ I (SqL.of h2) r2
     exact SeqAt.EqAt.tuple_list l1 l2 (by omega)
   | @scr a2 _ _ h2 r2=>
     cases rb
     obtain⟨its2,l2,_⟩:=aJ I h2.seq r2
     exact SeqAt.EqAt.tuple_list l1 l2 (by omega)
 | @scr a1 _ _ h1 r1=>exact absurd hu (by unfold dw;omega)
 | @lst a1 _ _ h1 r1=>
   cases ra
   obtain⟨its,l1,_⟩:=aJ I (SqL.of h1) r1
   cases py with
   |non=>
    cases rb
    exact SeqAt.EqAt.list_none l1 (by omega)
   |bl=>
    cases rb
    exact SeqAt.EqAt.list_bool _ l1 (by omega)
   |int=>
    obtain⟨t2,rfl⟩:=rb
    exact SeqAt.EqAt.list_int _ _ l1 (by omega)
   |str=>
    obtain⟨t2,rfl⟩:=rb
    exact SeqAt.EqAt.list_str _ _ l1 (by omega)
   | @tup a2 _ _ h2 r2=>
     cases rb
     obtain⟨its2,l2,_⟩:=bW I h2 r2
     exact SeqAt.EqAt.list_tuple l1 l2 (by omega)
   | @lst a2 _ _ h2 r2=>
     cases rb
     obtain⟨its2,l2,_⟩:=aJ I (SqL.of h2) r2
     by_cases e:a1=a2
     ·exact(kO I (.lst h1 r1) (.lst h2 r2) e)
     ·exact SeqAt.EqAt.of_refs e (jf I IH (by unfold dw at hd;omega) (by unfold dw at hu;omega) (SqL.of h1) r1 (SqL.of h2) r2).1
   | @scr a2 _ _ h2 r2=>
     cases rb
     obtain⟨its2,l2,_⟩:=aJ I h2.seq r2
     by_cases e:a1=a2
     ·exact(kO I (.lst h1 r1) (.scr h2 r2) e)
     ·exact SeqAt.EqAt.of_refs e (jf I IH (by unfold dw at hd;omega) (by unfold dw at hu;omega) (SqL.of h1) r1 h2.seq r2).1
theorem kN(I:Inv X ae σ H s): ∀(n:Nat) {x y:D} {v u:V} {a b:Value} {A:Around},dw x<n->A.units+dw x<cLine->RelV v a->RelV u b->Rep X.K H v x->Rep X.K H u y->SeqAt.EqAt A s a b (di x y)
 |0,x,y,v,u,a,b,A,hd,hu,ra,rb,px,py=>absurd hd (Nat.not_lt_zero _)
 |n+1,x,y,v,u,a,b,A,hd,hu,ra,rb,px,py=>y9 I (λh1 h2 h3 h4 h5 h6=>kN I n h1 h2 h3 h4 h5 h6) hd hu (by omega) ra rb px py
theorem yC(I:Inv X ae σ H s){x y:D}{v u:V}{a b:Value}{A:Around}(hu:A.units+dw x<cLine)(hc:A.units<cLine)(ra:RelV v a)(rb:RelV u b)(px:Rep X.K H v x)(py:Rep X.K H u y):SeqAt.RcAt A s a b (di x y):=by
 have IH:=λ{x y:D} {v u:V} {a b:Value} {A:Around} (n:Nat)=> @kN X ae σ H s I n x y v u a b A
 have IH: ∀ {n:Nat} {x y:D} {v u:V} {a b:Value} {A:Around},dw x<n->A.units+dw x<cLine->RelV v a->RelV u b->Rep X.K H v x->Rep X.K H u y->SeqAt.EqAt A s a b (di x y):=λ{n x y v u a b A}=>kN I n
 unfold di;cases px with
 |non=>
  cases ra
  cases py with
  |non=>
   cases rb
   exact SeqAt.RcAt.none_none
  |bl=>
   cases rb
   exact SeqAt.RcAt.none_bool _
  |int=>
   obtain⟨t2,rfl⟩:=rb
   exact SeqAt.RcAt.none_int _ _
  |str=>
   obtain⟨t2,rfl⟩:=rb
   exact SeqAt.RcAt.none_str _ _
  | @tup a2 _ _ h2 r2=>
    cases rb
    obtain⟨its2,l2,_⟩:=bW I h2 r2
    exact SeqAt.RcAt.none_tuple l2 (by omega)
  | @lst a2 _ _ h2 r2=>
    cases rb
    obtain⟨its2,l2,_⟩:=aJ I (SqL.of h2) r2
    exact SeqAt.RcAt.none_list l2 (by omega)
  | @scr a2 _ _ h2 r2=>
    cases rb
    obtain⟨its2,l2,_⟩:=aJ I h2.seq r2
    exact SeqAt.RcAt.none_list l2 (by omega)
 |bl=>
  cases ra
  cases py with
  |non=>
   cases rb
   exact SeqAt.RcAt.bool_none _
  |bl=>
   cases rb
   exact SeqAt.RcAt.bool_bool _ _
  |int=>
   obtain⟨t2,rfl⟩:=rb
   exact SeqAt.RcAt.bool_int _ _ _
  |str=>
   obtain⟨t2,rfl⟩:=rb
   exact SeqAt.RcAt.bool_str _ _ _
  | @tup a2 _ _ h2 r2=>
    cases rb
    obtain⟨its2,l2,_⟩:=bW I h2 r2
    exact SeqAt.RcAt.bool_tuple _ l2 (by omega)
  | @lst a2 _ _ h2 r2=>
    cases rb
    obtain⟨its2,l2,_⟩:=aJ I (SqL.of h2) r2
    exact SeqAt.RcAt.bool_list _ l2 (by omega)
  | @scr a2 _ _ h2 r2=>
    cases rb
    obtain⟨its2,l2,_⟩:=aJ I h2.seq r2
    exact SeqAt.RcAt.bool_list _ l2 (by omega)
 |int=>
  obtain⟨t1,rfl⟩:=ra
  cases py with
  |non=>
   cases rb
   exact SeqAt.RcAt.int_none _ _
  |bl=>
   cases rb
   exact SeqAt.RcAt.int_bool _ _ _
  |int=>
   obtain⟨t2,rfl⟩:=rb
   exact SeqAt.RcAt.int_int _ _ _ _
  |str=>
   obtain⟨t2,rfl⟩:=rb
   exact SeqAt.RcAt.int_str _ _ _ _
  | @tup a2 _ _ h2 r2=>
    cases rb
    obtain⟨its2,l2,_⟩:=bW I h2 r2
    exact SeqAt.RcAt.int_tuple _ _ l2 (by omega)
  | @lst a2 _ _ h2 r2=>
    cases rb
    obtain⟨its2,l2,_⟩:=aJ I (SqL.of h2) r2
    exact SeqAt.RcAt.int_list _ _ l2 (by omega)
  | @scr a2 _ _ h2 r2=>
    cases rb
    obtain⟨its2,l2,_⟩:=aJ I h2.seq r2
    exact SeqAt.RcAt.int_list _ _ l2 (by omega)
 |str=>
  obtain⟨t1,rfl⟩:=ra
  cases py with
  |non=>
   cases rb
   exact SeqAt.RcAt.str_none _ _
  |bl=>
   cases rb
   exact SeqAt.RcAt.str_bool _ _ _
  |int=>
   obtain⟨t2,rfl⟩:=rb
   exact SeqAt.RcAt.str_int _ _ _ _
  |str=>
   obtain⟨t2,rfl⟩:=rb
   exact SeqAt.RcAt.str_str _ _ _ _
  | @tup a2 _ _ h2 r2=>
    cases rb
    obtain⟨its2,l2,_⟩:=bW I h2 r2
    exact SeqAt.RcAt.str_tuple _ _ l2 (by omega)
  | @lst a2 _ _ h2 r2=>
    cases rb
    obtain⟨its2,l2,_⟩:=aJ I (SqL.of h2) r2
    exact SeqAt.RcAt.str_list _ _ l2 (by omega)
  | @scr a2 _ _ h2 r2=>
    cases rb
    obtain⟨its2,l2,_⟩:=aJ I h2.seq r2
    exact SeqAt.RcAt.str_list _ _ l2 (by omega)
 | @tup a1 _ _ h1 r1=>
   cases ra
   obtain⟨its,l1,_⟩:=bW I h1 r1
   cases py with
   |non=>
    cases rb
    exact SeqAt.RcAt.tuple_none l1 (by omega)
   |bl=>
    cases rb
    exact SeqAt.RcAt.tuple_bool _ l1 (by omega)
   |int=>
    obtain⟨t2,rfl⟩:=rb
    exact SeqAt.RcAt.tuple_int _ _ l1 (by omega)
   |str=>
    obtain⟨t2,rfl⟩:=rb
    exact SeqAt.RcAt.tuple_str _ _ l1 (by omega)
   | @tup a2 _ _ h2 r2=>
     cases rb
     obtain⟨its2,l2,_⟩:=bW I h2 r2
     exact(qQ I IH (Nat.lt_succ_self _) (by unfold dw at hu;omega) h1 r1 h2 r2).1
   | @lst a2 _ _ h2 r2=>
     cases rb
     obtain⟨its2,l2,_⟩:=aJ I (SqL.of h2) r2
     exact SeqAt.RcAt.tuple_list l1 l2 (by omega)
   | @scr a2 _ _ h2 r2=>
     cases rb
     obtain⟨its2,l2,_⟩:=aJ I h2.seq r2
     exact SeqAt.RcAt.tuple_list l1 l2 (by omega)
 | @scr a1 _ _ h1 r1=>exact absurd hu (by unfold dw;omega)
 | @lst a1 _ _ h1 r1=>
   cases ra
   obtain⟨its,l1,_⟩:=aJ I (SqL.of h1) r1
   cases py with
   |non=>
    cases rb
    exact SeqAt.RcAt.list_none l1 (by omega)
   |bl=>
    cases rb
    exact SeqAt.RcAt.list_bool _ l1 (by omega)
   |int=>
    obtain⟨t2,rfl⟩:=rb
    exact SeqAt.RcAt.list_int _ _ l1 (by omega)
   |str=>
    obtain⟨t2,rfl⟩:=rb
    exact SeqAt.RcAt.list_str _ _ l1 (by omega)
   | @tup a2 _ _ h2 r2=>
     cases rb
     obtain⟨its2,l2,_⟩:=bW I h2 r2
     exact SeqAt.RcAt.list_tuple l1 l2 (by omega)
   | @lst a2 _ _ h2 r2=>
     cases rb
     obtain⟨its2,l2,_⟩:=aJ I (SqL.of h2) r2
     exact(jf I IH (Nat.lt_succ_self _) (by unfold dw at hu;omega) (SqL.of h1) r1 (SqL.of h2) r2).1
   | @scr a2 _ _ h2 r2=>
     cases rb
     obtain⟨its2,l2,_⟩:=aJ I h2.seq r2
     exact(jf I IH (Nat.lt_succ_self _) (by unfold dw at hu;omega) (SqL.of h1) r1 h2.seq r2).1
theorem tf(I:Inv X ae σ H s){x y:D}{v u:V}{a b:Value}{A:Around}(hu:A.units+dw x<cLine)(hc:A.units<cLine)(ra:RelV v a)(rb:RelV u b)(px:Rep X.K H v x)(py:Rep X.K H u y):SeqAt.RcNeAt A s a b (!di x y):=by
 have IH: ∀ {n:Nat} {x y:D} {v u:V} {a b:Value} {A:Around},dw x<n->A.units+dw x<cLine->RelV v a->RelV u b->Rep X.K H v x->Rep X.K H u y->SeqAt.EqAt A s a b (di x y):=λ{n x y v u a b A}=>kN I n
 unfold di;cases px with
 |non=>
  cases ra
  cases py with
  |non=>
   cases rb
   exact SeqAt.RcNeAt.none_none
  |bl=>
   cases rb
   exact SeqAt.RcNeAt.none_bool _
  |int=>
   obtain⟨t2,rfl⟩:=rb
   exact SeqAt.RcNeAt.none_int _ _
  |str=>
   obtain⟨t2,rfl⟩:=rb
   exact SeqAt.RcNeAt.none_str _ _
  | @tup a2 _ _ h2 r2=>
    cases rb
    obtain⟨its2,l2,_⟩:=bW I h2 r2
    exact SeqAt.RcNeAt.none_tuple l2 (by omega)
  | @lst a2 _ _ h2 r2=>
    cases rb
    obtain⟨its2,l2,_⟩:=aJ I (SqL.of h2) r2
    exact SeqAt.RcNeAt.none_list l2 (by omega)
  | @scr a2 _ _ h2 r2=>
    cases rb
    obtain⟨its2,l2,_⟩:=aJ I h2.seq r2
    exact SeqAt.RcNeAt.none_list l2 (by omega)
 |bl=>
  cases ra
  cases py with
  |non=>
   cases rb
   exact SeqAt.RcNeAt.bool_none _
  |bl=>
   cases rb
   exact SeqAt.RcNeAt.bool_bool _ _
  |int=>
   obtain⟨t2,rfl⟩:=rb
   exact SeqAt.RcNeAt.bool_int _ _ _
  |str=>
   obtain⟨t2,rfl⟩:=rb
   exact SeqAt.RcNeAt.bool_str _ _ _
  | @tup a2 _ _ h2 r2=>
    cases rb
    obtain⟨its2,l2,_⟩:=bW I h2 r2
    exact SeqAt.RcNeAt.bool_tuple _ l2 (by omega)
  | @lst a2 _ _ h2 r2=>
    cases rb
    obtain⟨its2,l2,_⟩:=aJ I (SqL.of h2) r2
    exact SeqAt.RcNeAt.bool_list _ l2 (by omega)
  | @scr a2 _ _ h2 r2=>
    cases rb
    obtain⟨its2,l2,_⟩:=aJ I h2.seq r2
    exact SeqAt.RcNeAt.bool_list _ l2 (by omega)
 |int=>
  obtain⟨t1,rfl⟩:=ra
  cases py with
  |non=>
   cases rb
   exact SeqAt.RcNeAt.int_none _ _
  |bl=>
   cases rb
   exact SeqAt.RcNeAt.int_bool _ _ _
  |int=>
   obtain⟨t2,rfl⟩:=rb
   exact SeqAt.RcNeAt.int_int _ _ _ _
  |str=>
   obtain⟨t2,rfl⟩:=rb
   exact SeqAt.RcNeAt.int_str _ _ _ _
  | @tup a2 _ _ h2 r2=>
    cases rb
    obtain⟨its2,l2,_⟩:=bW I h2 r2
    exact SeqAt.RcNeAt.int_tuple _ _ l2 (by omega)
  | @lst a2 _ _ h2 r2=>
    cases rb
    obtain⟨its2,l2,_⟩:=aJ I (SqL.of h2) r2
    exact SeqAt.RcNeAt.int_list _ _ l2 (by omega)
  | @scr a2 _ _ h2 r2=>
    cases rb
    obtain⟨its2,l2,_⟩:=aJ I h2.seq r2
    exact SeqAt.RcNeAt.int_list _ _ l2 (by omega)
 |str=>
  obtain⟨t1,rfl⟩:=ra
  cases py with
  |non=>
   cases rb
   exact SeqAt.RcNeAt.str_none _ _
  |bl=>
   cases rb
   exact SeqAt.RcNeAt.str_bool _ _ _
  |int=>
   obtain⟨t2,rfl⟩:=rb
   exact SeqAt.RcNeAt.str_int _ _ _ _
  |str=>
   obtain⟨t2,rfl⟩:=rb
   exact SeqAt.RcNeAt.str_str _ _ _ _
  | @tup a2 _ _ h2 r2=>
    cases rb
    obtain⟨its2,l2,_⟩:=bW I h2 r2
    exact SeqAt.RcNeAt.str_tuple _ _ l2 (by omega)
  | @lst a2 _ _ h2 r2=>
    cases rb
    obtain⟨its2,l2,_⟩:=aJ I (SqL.of h2) r2
    exact SeqAt.RcNeAt.str_list _ _ l2 (by omega)
  | @scr a2 _ _ h2 r2=>
    cases rb
    obtain⟨its2,l2,_⟩:=aJ I h2.seq r2
    exact SeqAt.RcNeAt.str_list _ _ l2 (by omega)
 | @tup a1 _ _ h1 r1=>
   cases ra
   obtain⟨its,l1,_⟩:=bW I h1 r1
   cases py with
   |non=>
    cases rb
    exact SeqAt.RcNeAt.tuple_none l1 (by omega)
   |bl=>
    cases rb
    exact SeqAt.RcNeAt.tuple_bool _ l1 (by omega)
   |int=>
    obtain⟨t2,rfl⟩:=rb
    exact SeqAt.RcNeAt.tuple_int _ _ l1 (by omega)
   |str=>
    obtain⟨t2,rfl⟩:=rb
    exact SeqAt.RcNeAt.tuple_str _ _ l1 (by omega)
   | @tup a2 _ _ h2 r2=>
     cases rb
     obtain⟨its2,l2,_⟩:=bW I h2 r2
     exact(qQ I IH (Nat.lt_succ_self _) (by unfold dw at hu;omega) h1 r1 h2 r2).2
   | @lst a2 _ _ h2 r2=>
     cases rb
     obtain⟨its2,l2,_⟩:=aJ I (SqL.of h2) r2
     exact SeqAt.RcNeAt.tuple_list l1 l2 (by omega)
   | @scr a2 _ _ h2 r2=>
     cases rb
     obtain⟨its2,l2,_⟩:=aJ I h2.seq r2
     exact SeqAt.RcNeAt.tuple_list l1 l2 (by omega)
 | @scr a1 _ _ h1 r1=>exact absurd hu (by unfold dw;omega)
 | @lst a1 _ _ h1 r1=>
   cases ra
   obtain⟨its,l1,_⟩:=aJ I (SqL.of h1) r1
   cases py with
   |non=>
    cases rb
    exact SeqAt.RcNeAt.list_none l1 (by omega)
   |bl=>
    cases rb
    exact SeqAt.RcNeAt.list_bool _ l1 (by omega)
   |int=>
    obtain⟨t2,rfl⟩:=rb
    exact SeqAt.RcNeAt.list_int _ _ l1 (by omega)
   |str=>
    obtain⟨t2,rfl⟩:=rb
    exact SeqAt.RcNeAt.list_str _ _ l1 (by omega)
   | @tup a2 _ _ h2 r2=>
     cases rb
     obtain⟨its2,l2,_⟩:=bW I h2 r2
     exact SeqAt.RcNeAt.list_tuple l1 l2 (by omega)
   | @lst a2 _ _ h2 r2=>
     cases rb
     obtain⟨its2,l2,_⟩:=aJ I (SqL.of h2) r2
     exact(jf I IH (Nat.lt_succ_self _) (by unfold dw at hu;omega) (SqL.of h1) r1 (SqL.of h2) r2).2
   | @scr a2 _ _ h2 r2=>
     cases rb
     obtain⟨its2,l2,_⟩:=aJ I h2.seq r2
     exact(jf I IH (Nat.lt_succ_self _) (by unfold dw at hu;omega) (SqL.of h1) r1 h2.seq r2).2
end
theorem Rep1.full {K:W.Frag}{H:Hp}{hid:cn}{v:V}{d:D}(h:Rep1 K H (vw H hid) v d):Rep K H v d:=by
 rcases h with h|⟨a,xs,ds,rfl,rfl,h1,h2⟩
 ·exact h.mono (fH _ _)
 ·exact .lst h1 (h2.mono (fH _ _))
def zr(K:W.Frag):R2:=λv u H Q=> ∃x y,Rep K H v x/\Rep K H u y/\dw x<=32/\Q (.bl (di x y)) H
def z9(K:W.Frag):R2:=λv u H Q=> ∃x y,Rep K H v x/\Rep K H u y/\dw x<=32/\Q (.bl (!di x y)) H
theorem cZ {X:Cx}(hu:X.A.units+64<cLine):jd X (compareOp .Eq) (zr X.K):=by
 intro ae s σ H x y v u Q I rx ry h;obtain⟨dx,dy,p1,p2,hd,q⟩:=h
 exact yC I (by omega) (by omega) rx ry p1 p2 X.prog X.w _ _ ⟨.bl _,H,I,rfl,q⟩
theorem jQ {X:Cx}(hu:X.A.units+64<cLine):jd X (compareOp .NotEq) (z9 X.K):=by
 intro ae s σ H x y v u Q I rx ry h;obtain⟨dx,dy,p1,p2,hd,q⟩:=h
 exact tf I (by omega) (by omega) rx ry p1 p2 X.prog X.w _ _ ⟨.bl _,H,I,rfl,q⟩
def iU:D->D->Option D:=λx y=>if dw x<=32 then some (.bl (di x y)) else none
def kZ:D->D->Option D:=λx y=>if dw x<=32 then some (.bl (!di x y)) else none
theorem fc {K:W.Frag}:kW K .s (zr K) iU:=by
 intro H hid v u x y d Q hf h r1 r2 q;unfold iU at h;split at h
 ·cases h;exact⟨x,y,r1.full,r2.full, ‹_›,q _ H (Same.refl _) .bl⟩
 ·cases h
theorem ml {K:W.Frag}:kW K .s (z9 K) kZ:=by
 intro H hid v u x y d Q hf h r1 r2 q;unfold kZ at h;split at h
 ·cases h;exact⟨x,y,r1.full,r2.full, ‹_›,q _ H (Same.refl _) .bl⟩
 ·cases h
theorem qW {X:Cx}{ae:List (Addr×Obj)}{σ:St}{H:Hp}{s:Shared}(I:Inv X ae σ H s){x:D}{v:V}{a:Value}{A:Around}(hx:Rep X.K H v x)(ra:RelV v a): ∀ {ds:List D} {xs:List V} {its:List Value},Reps X.K H xs ds->Vals xs its->A.units+dh ds<cLine->
 ∃e:Value->Bool,(∀y,y∈its->SeqAt.EqAt A s y a (e y))/\its.any e=ds.any (λd=>di d x):=by
 intro ds xs its r rv hu
 classical
 let e:Value->Bool:=λy=>if h: ∃(d:D) (u:V),RelV u y/\Rep X.K H u d then di h.choose x else false
 have key: ∀y u d,RelV u y->Rep X.K H u d->e y=di d x:=λy u d h1 h2=>by
  have hex: ∃(d:D) (u:V),RelV u y/\Rep X.K H u d:=⟨d,u,h1,h2⟩
  show(if h: ∃(d:D) (u:V),RelV u y/\Rep X.K H u d then di h.choose x else false)=di d x
  rw[dif_pos hex];obtain⟨u',s1,s2⟩:=hex.choose_spec
  have eu:u'=u:=s1.inj h1
  rw[eu] at s2;exact Rep.eqv I s2 h2 x
 refine⟨e,?_,?_⟩
 ·induction rv generalizing ds with
  |nil=>intro y hy;cases hy
  |cons r1 t ih=>
   cases r with
   |cons p1 pt=>
    rename_i d ds;intro y hy;have hm:dw d<=dh (d::ds):=ke (i:=0) rfl
    have hm2:dh ds<=dh (d::ds):=by conv=>rhs;unfold dh
                                   exact Nat.le_max_right _ _
    rcases List.mem_cons.mp hy with rfl|hy
    ·rw[key _ _ _ r1 p1]
     exact kN I (dw d+1) (Nat.lt_succ_self _) (by omega) r1 ra p1 hx
    ·exact ih pt (by omega) y hy
 ·induction rv generalizing ds with
  |nil=>cases r;rfl
  |cons r1 t ih=>
   cases r with
   |cons p1 pt=>
    rename_i d ds;have hm2:dh ds<=dh (d::ds):=by conv=>rhs;unfold dh
                                                 exact Nat.le_max_right _ _
    rw[List.any_cons,List.any_cons,key _ _ _ r1 p1,ih pt (by omega)]
def zQ(K:W.Frag)(neg:Bool):R2:=λv u H Q=> ∃x ds a xs,Rep K H v x/\u=.ref a/\(SqL K H a xs\/SqT K H a xs)/\Reps K H xs ds/\dh ds<=32/\Q (.bl (if neg then !ds.any (λd=>di d x) else ds.any λd=>di d x)) H
theorem mt {X:Cx}(hu:X.A.units+64<cLine):jd X (compareOp .In) (zQ X.K false):=by
 intro ae s σ H v w a b Q I rx ry h;obtain⟨x,ds,p,xs,hx,rfl,hq,r,hd,q⟩:=h
 cases ry
 rcases hq with hq|hq
 ·obtain⟨its,rv,pl,hz⟩:=I.list hq
  obtain⟨e,h1,h2⟩:=qW (A:=X.A.in1) I hx rx r rv (by rw[fR];omega)
  refine SeqAt.in_listAt e pl.isList (λy hy=>h1 y (by simpa using hy)) ⟨.bl _,H,I,rfl,?_⟩
  rw[show its.toArray.any e=its.any e by simp,h2]
  exact q
 ·obtain⟨its,rv,pl,hz⟩:=I.tuple hq
  obtain⟨e,h1,h2⟩:=qW (A:=X.A.in1) I hx rx r rv (by rw[fR];omega)
  refine SeqAt.in_tupleAt e pl (λy hy=>h1 y (by simpa using hy)) ⟨.bl _,H,I,rfl,?_⟩
  rw[show its.toArray.any e=its.any e by simp,h2]
  exact q
def tB:D->Option (List D)
 | .lst ds=>some ds
 | .tup ds=>some ds
 |_=>none
def sj(neg:Bool):D->D->Option D:=λx y=>match tB y with
 |some ds=>if dh ds<=32 then some (.bl (if neg then !ds.any (λd=>di d x) else ds.any λd=>di d x)) else none
 |none=>none
theorem p4 {K:W.Frag}(neg:Bool):kW K .s (zQ K neg) (sj neg):=by
 intro H hid v u x y d Q hf h r1 r2 q;unfold sj at h;split at h
 ·split at h
  ·rename_i ds e _
   cases h
   cases y with
   |lst zs=>
    cases e
    obtain⟨a,xs,rfl,h1,h2⟩:=r2.lst
    exact⟨x,_,a,xs,r1.full,rfl,.inl h1,h2.mono (fH _ _), ‹_›,q _ H (Same.refl _) .bl⟩
   |tup zs=>
    cases e
    obtain⟨a,xs,rfl,_,h1,h2⟩:=r2.tup
    exact⟨x,_,a,xs,r1.full,rfl,.inr h1,h2.mono (fH _ _), ‹_›,q _ H (Same.refl _) .bl⟩
   |_=>cases e
  ·cases h
 ·cases h
def Bf(T:String):D->Bool
 | .non=>T=="NoneType"
 | .bl _=>T=="bool"||T=="int"
 | .int _=>T=="int"
 | .str _=>T=="str"
 | .tup _=>T=="tuple"
 | .lst _=>T=="list"
 | .scr _=>T=="list"
structure KT(T:String):Prop where
 n: ∀K,W.kitOne K (.type "NoneType") (.type T)=some (T=="NoneType")
 b: ∀K,W.kitOne K (.type "bool") (.type T)=some (T=="bool"||T=="int")
 i: ∀K,W.kitOne K (.type "int") (.type T)=some (T=="int")
 s: ∀K,W.kitOne K (.type "str") (.type T)=some (T=="str")
 t: ∀K,W.kitOne K (.type "tuple") (.type T)=some (T=="tuple")
 l: ∀K,W.kitOne K (.type "list") (.type T)=some (T=="list")
theorem xX:KT "int":=⟨λ_=>by kernel_rfl,λ_=>by kernel_rfl,λ_=>by kernel_rfl,λ_=>by kernel_rfl,λ_=>by kernel_rfl,λ_=>by kernel_rfl⟩
theorem wB:KT "bool":=⟨λ_=>by kernel_rfl,λ_=>by kernel_rfl,λ_=>by kernel_rfl,λ_=>by kernel_rfl,λ_=>by kernel_rfl,λ_=>by kernel_rfl⟩
theorem tT:KT "tuple":=⟨λ_=>by kernel_rfl,λ_=>by kernel_rfl,λ_=>by kernel_rfl,λ_=>by kernel_rfl,λ_=>by kernel_rfl,λ_=>by kernel_rfl⟩
theorem y3:KT "str":=⟨λ_=>by kernel_rfl,λ_=>by kernel_rfl,λ_=>by kernel_rfl,λ_=>by kernel_rfl,λ_=>by kernel_rfl,λ_=>by kernel_rfl⟩
section
variable {X:Cx}{c:Ct}{e o:Expr}{k:Kd}{f g:FE}{pos p p2:Pos}
theorem tV {T:String}(kt:KT T):gB X (.builtin "isinstance") (λxs H Q=> ∃v d,xs=[v,.ty T]/\Rep X.K H v d/\Q (.bl (Bf T d)) H):=by
 intro ae s σ H xs us Q I r h;obtain⟨v,d,rfl,rp,q⟩:=h
 obtain⟨u,w',rfl,rx,ry⟩:=ub r
 cases ry
 have fin: ∀tk,EP X ae σ Q (.bool (Bf T d)) {s with toks:=tk}:=λtk=>⟨.bl _,H,I.tok _,rfl,q⟩
 cases rp with
 |non=>cases rx;exact W.kia_one W.kitx_none I.kIn True.intro (kt.n _) (λz=>nomatch z) fin
 |bl=>cases rx;exact W.kia_one W.kitx_bool I.kIn True.intro (kt.b _) (λz=>nomatch z) fin
 |int=>obtain⟨t,rfl⟩:=rx;exact W.kia_one W.kitx_int I.kIn True.intro (kt.i _) (λz=>nomatch z) fin
 |str=>obtain⟨t,rfl⟩:=rx;exact W.kia_one W.kitx_str I.kIn True.intro (kt.s _) (λz=>nomatch z) fin
 |tup h1 h2=>
  cases rx
  obtain⟨⟨ob,ho,hc⟩,_⟩:=I.tupleN h1
  exact W.kia_one W.kitx_tuple I.kIn ⟨ob,ho,hc⟩ (kt.t _) (λz=>nomatch z) fin
 |lst h1 h2=>
  cases rx
  obtain⟨its,_,⟨ob,n,ho,hc,_⟩,_⟩:=I.list (SqL.of h1)
  exact W.kia_one W.kitx_list I.kIn ⟨ob,ho,hc⟩ (kt.l _) (λz=>nomatch z) fin
 |scr h1 h2=>
  cases rx
  obtain⟨its,_,⟨ob,n,ho,hc,_⟩,_⟩:=I.list h1.seq
  exact W.kia_one W.kitx_list I.kIn ⟨ob,ho,hc⟩ (kt.l _) (λz=>nomatch z) fin
def sy(T:String)(f:FE):FE:=λρ=>(f ρ).map λd=>.bl (Bf T d)
theorem oN(T:String){y:Str}(kt:KT T)(he:DP X c k e f)(hm:X.mg "isinstance"=none)(hmT:X.mg y=none)(hg:Gl X "isinstance":=by rfl)(hgT:Gl X y:=by rfl)(hv:bootBuiltins "isinstance"=some (.builtin "isinstance"):=by kernel_rfl)(hvT:bootBuiltins y=some (.type T):=by kernel_rfl)(hn:y≠"__name__":=by decide)(hd:(y==("__debug__":Str))=false:=by decide)
 (hs1:starEach [e,.Name y p2] X.env=(false,eval e X.env)::starEach [.Name y p2] X.env:=by rfl) (hs2:starEach [.Name y p2] X.env=(false,eval (.Name y p2) X.env)::starEach [] X.env:=by rfl) (hpl:(backTo pos (starEach [.Name y p2] X.env)).any (·.1)=false:=by rfl):
 DP X c .s (.Call (.Name "isinstance" p) [e,.Name y p2] [] pos) (sy T f):=λhid ρ=>
 PE.imp (pU (tV kt) hg hm hv (dZ (he hid ρ) (dZ (wW (v:=.ty T) hgT hmT hvT rfl hn hd) jD hs2) hs1) (by decide) (by decide) hs1 hpl) λσ H Q hq_=>by
  obtain⟨sr,d,hd,q⟩:=hq_
  unfold sy at hd;cases e1:f ρ with
  |none=>rw[e1] at hd;cases hd
  |some z=>
   rw[e1] at hd;cases hd;exact⟨sr,z,e1,λv H' s' r=>⟨v,z,rfl,(RK.b k r λa n=>sr.fresh n).full,q _ H' s' .bl⟩⟩
def ls:List D->Option (List Bool)
 | []=>some []
 | .bl b::r=>(ls r).map (b:: ·)
 |_=>none
theorem pE: ∀ {ds:List D} {bs:List Bool} {i:Nat} {d:D},ls ds=some bs->ds[i]? =some d-> ∃b,d=.bl b/\bs[i]? =some b
 | [],_,_,_,_,h=>by simp at h
 |x::r,bs,i,d,h,e=>by
  cases x with
  |bl b=>
   unfold ls at h;cases e1:ls r with
   |none=>rw[e1] at h;cases h
   |some rs=>
    rw[e1] at h;cases h;cases i with
    |zero=>simp at e;subst e;exact⟨b,rfl,rfl⟩
    |succ i=>
     obtain⟨b',h1,h2⟩:=pE (i:=i) e1 (by simpa using e)
     exact⟨b',h1,by simpa using h2⟩
  |_=>cases h
theorem pf: ∀ {ds:List D} {bs:List Bool},ls ds=some bs->ds.length=bs.length
 | [],_,h=>by cases h;rfl
 |x::r,bs,h=>by
  cases x with
  |bl b=>
   unfold ls at h;cases e1:ls r with
   |none=>rw[e1] at h;cases h
   |some rs=>rw[e1] at h;cases h;simp[pf e1]
  |_=>cases h
theorem qF(bs:List Bool):(List.range bs.length).all (λi=>bs.getD i false)=bs.all id:=by
 induction bs with
 |nil=>rfl
 |cons b bs ih=>
  rw[List.length_cons,List.range_succ_eq_map,List.all_cons,List.all_map,List.all_cons];rw[show((λi=>(b::bs).getD i false)∘Nat.succ)=λi=>bs.getD i false by funext i;simp[List.getD],ih]
  rfl
theorem qd {ae:List (Addr×Obj)}{σ:St}{H:Hp}{s:Shared}{a:Addr}{xs:List V}{ds:List D}{bs:List Bool}(I:Inv X ae σ H s)(h1:SqL X.K H a xs)(h2:Reps X.K H xs ds)(hb:ls ds=some bs)(hc:X.calm=true){E:Value->Shared->Prop}{R:Value->Shared->Prop}
 (hR: ∀(J:Addr) (s2:Shared) (its:Array Value) (hl:its.size=bs.length),Walks X.prog X.w X.A.in1 J [J,a] [J] its.size (λi v=>its[i]? =some v) (λi h=>h.IsListIter J a i/\h.IsList a its)->s2.heap.IsListIter J a 0->s2.heap.IsList a its->TruthOf X.prog X.w X.A.in1 (λi v=>its[i]? =some v) (λi=>bs.getD i false)->
   (∀h' tk,(∀b o,b∉ [J]->s2.heap.get? b=some o->h'.get? b=some o)->Inv X ae σ H {s2 with heap:=h',toks:=tk})->R (.ref J) s2):wpAny (model X.prog X.w) X.A.in1 (pyIter (.ref a)) R E s:=by
 obtain⟨its,rv,pl,hz⟩:=I.list h1
 have l1:=rv.length
 have l2:=h2.length
 have l3:=pf hb
 have hlt:a<s.heap.objs.size:=by obtain⟨o,n,e,_⟩:=pl;exact Heap.lt_size e
 refine wpAny_pyIter_list pl.isList (hR s.heap.objs.size _ its.toArray (by simp;omega) (Walks.list (A:=X.A.in1) (I.ok.hd hc) _ a (Nat.ne_of_lt hlt) its.toArray) ⟨_,Heap.get?_push_size _ rfl,rfl,rfl⟩ ?_ ?_ ?_)
 ·obtain⟨o,ho,q⟩:=pl.isList
  exact⟨o,Heap.get?_push_of_some _ ho,q⟩
 ·intro i v s' Q E hv hq
  have hv':its[i]? =some v:=by simpa using hv
  have hi:=(List.getElem?_eq_some_iff.mp hv').1
  have ex:xs[i]? =some xs[i]:=List.getElem?_eq_getElem (by omega)
  obtain⟨u,e1,r1⟩:=rv.get ex
  rw[hv'] at e1;cases e1;obtain⟨d,e2,r2⟩:=h2.get' ex
  obtain⟨b,rfl,e3⟩:=pE hb e2
  rcases hx:xs[i] with _|_|_|_|_|_|_|_<;>rw[hx] at r1 r2<;>cases r2
  cases r1
  have:bs.getD i false=b:=by simp[List.getD,e3]
  dsimp only at hq;rw[this] at hq;exact wpAny_truthy_bool hq
 ·intro h' tk hk
  refine I.kept λb o e=>hk b o (λhm=>?_) (Heap.get?_push_of_some _ e)
  have:b=s.heap.objs.size:=by simpa using hm
  exact absurd (this▸Heap.lt_size e) (Nat.lt_irrefl _)
theorem tF(hc:X.calm=true):gB X (.builtin "all") (λxs H Q=> ∃a ys ds bs,xs=[.ref a]/\SqL X.K H a ys/\Reps X.K H ys ds/\ls ds=some bs/\Q (.bl (bs.all id)) H):=by
 intro ae s σ H xs us Q I r h;obtain⟨a,ys,ds,bs,rfl,h1,h2,h3,q⟩:=h
 obtain⟨u,rfl,rx⟩:=lb r
 cases rx
 refine call_all_walk (qd I h1 h2 h3 hc λJ s2 its hl W st1 st2 tr kp=>?_)
 refine⟨J,_,_,_,_,_,_,rfl,W,⟨st1,st2⟩,tr,λh' tk hk=>⟨.bl _,H,kp h' tk hk,rfl,?_⟩⟩
 rw[hl,qF];exact q
def zb:List D->Option D
 | [.lst ds]=>(ls ds).map λbs=>.bl (bs.all id)
 |_=>none
theorem yx:jC X.K .s (λxs H Q=> ∃a ys ds bs,xs=[.ref a]/\SqL X.K H a ys/\Reps X.K H ys ds/\ls ds=some bs/\Q (.bl (bs.all id)) H) zb:=by
 intro H hid vs ds d Q hf h r q;unfold zb at h;split at h
 ·rename_i zs
  cases e1:ls zs with
  |none=>rw[e1] at h;cases h
  |some bs=>
   rw[e1] at h;cases h;obtain⟨x,rfl,r1⟩:=Reps1.one r
   obtain⟨a,xs,rfl,h1,h2⟩:=r1.lst
   exact⟨a,xs,zs,bs,rfl,h1,h2.mono (fH _ _),e1,q _ H (Same.refl _) .bl⟩
 ·cases h
end
end L2
namespace PySem.SeqAt
open AutoSeq1 (wpAny_loadPart')
open MeetsSeq MeetsSeq2 MeetsSeq3 SeqRoads2
theorem lw {M:Model}{A:Around}{E:Value->Shared->Prop}{s:Shared}{β:Type}(f:Nat->β->Sem (ForInStep β))(I:List Nat->β->Shared->Prop)(Q:β->Shared->Prop)
 (turn: ∀x rest b s,I (x::rest) b s->wpAny M A (f x b) (λr s'=>match r with| .yield b'=>I rest b' s'| .done b'=>Q b' s') E s)
 (fin: ∀b s,I [] b s->Q b s) (a b:Nat) (c:β) (h:I (List.range' a (b-a)) c s):wpAny M A (forIn [a:b] c f) Q E s:=by
 rw[Std.Legacy.Range.forIn_eq_forIn_range'];have hsz:([a:b]:Std.Legacy.Range).size=b-a:=by simp[Std.Legacy.Range.size]
 show wpAny M A (forIn (List.range' a ([a:b]:Std.Legacy.Range).size 1) c f) Q E s;rw[hsz];exact wpAny_forIn_list f I Q turn fin _ c h
theorem tuple_indexAt(l:Addr)(items:Array Value)(n:Nat)(dd:Option Addr)(sl:Array (Option Value))(x:Value)(e:Value->Bool)(j:Nat)(hj:j<items.size)(hit:e items[j]=true)(hno: ∀m (hm:m<items.size),m<j->e items[m]=false):
 Meets (Builtin.«tuple.index» ⟨[.ref l,x],[]⟩)
  (λA R s=>s.heap.get? l=some {cls:=.type "tuple",dict:=dd,data:=.seq items n,slots:=sl}/\(∀y,y∈items->EqAt A.in1 s y x (e y))/\R (.ok (.ret (.int j s.toks))) {s with toks:=s.toks+1}):=
 .of_wp λprog w A R s h=>by
  obtain⟨hp,g,d,tk,os⟩:=s;obtain⟨hl,he,h⟩:=h
  wp_walk using wpAny_loadPart' hl,lw _ (λrest b s'=>b.1=none/\s'=⟨hp,g,d,tk,os⟩/\ ∃i,i<=j/\rest=List.range' i (items.size-i)) _
  case turn=>
   rintro y rest b s' ⟨hb,rfl,i,hij,hz⟩
   have lt:i<items.size:=by omega
   have er:List.range' i (items.size-i)=i::List.range' (i+1) (items.size- (i+1)):=by
    rw[show items.size-i=(items.size- (i+1))+1 by omega];rfl
   rw[er] at hz;injection hz with e1 e2
   subst e1 e2;rw[show items[y]? =some items[y] by simp[lt]]
   refine wpAny_bind (he _ (Array.getElem_mem lt) prog w _ _ ?_)
   by_cases ej:y=j
   ·subst ej
    rw[hit]
    wp_walk
    exact⟨_,rfl,h⟩
   ·rw[hno y lt (by omega)]
    wp_walk
    exact⟨rfl,rfl,y+1,by omega,rfl⟩
  case fin=>
   rintro⟨b1,b2⟩ s' ⟨hb,rfl,i,hij,hz⟩
   have:=congrArg List.length hz
   simp at this;omega
  case h=>
   exact⟨rfl,rfl,0,Nat.zero_le _,by simp⟩
end PySem.SeqAt
namespace L2
open PySem PySem.Spec PyProof.Rows
def sG(ds:List D)(x:D):Option Nat:=ds.findIdx? λd=>di d x
theorem vZ {X:Cx}{ae:List (Addr×Obj)}{σ:St}{H:Hp}{s:Shared}(I:Inv X ae σ H s){x:D}{v:V}{a:Value}{A:Around}(hx:Rep X.K H v x)(ra:RelV v a): ∀ {ds:List D} {xs:List V} {its:List Value},Reps X.K H xs ds->Vals xs its->A.units+dh ds<cLine->
 ∃e:Value->Bool,(∀y,y∈its->SeqAt.EqAt A s y a (e y))/\ ∀(j:Nat) (hj:j<its.length) (d:D),ds[j]? =some d->e its[j]=di d x:=by
 intro ds xs its r rv hu
 classical
 let e:Value->Bool:=λy=>if h: ∃(d:D) (u:V),RelV u y/\Rep X.K H u d then di h.choose x else false
 have key: ∀y u d,RelV u y->Rep X.K H u d->e y=di d x:=λy u d h1 h2=>by
  have hex: ∃(d:D) (u:V),RelV u y/\Rep X.K H u d:=⟨d,u,h1,h2⟩
  show(if h: ∃(d:D) (u:V),RelV u y/\Rep X.K H u d then di h.choose x else false)=di d x
  rw[dif_pos hex];obtain⟨u',s1,s2⟩:=hex.choose_spec
  have eu:u'=u:=s1.inj h1
  rw[eu] at s2;exact Rep.eqv I s2 h2 x
 have l1:=rv.length
 have l2:=r.length
 have at': ∀(j:Nat) (hj:j<its.length),∃u d,ds[j]? =some d/\RelV u its[j]/\Rep X.K H u d:=λj hj=>by
  have ex:xs[j]? =some xs[j]:=List.getElem?_eq_getElem (by omega)
  obtain⟨w,e1,r1⟩:=rv.get ex
  obtain⟨d,e2,r2⟩:=r.get' ex
  have:its[j]=w:=by rw[List.getElem?_eq_getElem hj] at e1;exact Option.some.inj e1
  rw[this];exact⟨_,d,e2,r1,r2⟩
 refine⟨e,λy hy=>?_,λj hj d hd=>?_⟩
 ·obtain⟨j,hj,rfl⟩:=List.mem_iff_getElem.mp hy
  obtain⟨u,d,e1,r1,r2⟩:=at' j hj
  rw[key _ _ _ r1 r2];have:=ke e1
  exact kN I (dw d+1) (Nat.lt_succ_self _) (by omega) r1 ra r2 hx
 ·obtain⟨u,d',e1,r1,r2⟩:=at' j hj
  rw[hd] at e1;cases e1;exact key _ _ _ r1 r2
section
variable {X:Cx}{c:Ct}{e o:Expr}{k k2:Kd}{f g:FE}{pos p p2 apos:Pos}
theorem pI(hu:X.A.units+64<cLine):Bn X "tuple.index" (λv vs H Q=> ∃a xs ds x y j,v=.ref a/\vs=[x]/\SqT X.K H a xs/\Reps X.K H xs ds/\Rep X.K H x y/\dh ds<=32/\sG ds y=some j/\Q (.int j) H):=by
 intro ae s σ H v vs u us Q I rv rs h;obtain⟨a,xs,ds,x,y,j,rfl,rfl,h1,h2,h3,h4,h5,q⟩:=h
 cases rv
 obtain⟨w,rfl,rw'⟩:=lb rs
 obtain⟨its,r,pl,hz⟩:=I.tuple h1
 have l1:=r.length
 have l2:=h2.length
 obtain⟨e,g1,g2⟩:=vZ (A:=X.A.in1.in1) I h3 rw' h2 r (by rw[fR,fR];omega)
 unfold sG at h5;rw[List.findIdx?_eq_some_iff_getElem] at h5;obtain⟨hj,hp,hno⟩:=h5
 obtain⟨⟨cls,dd,data,sl⟩,ho,hc,n,hd⟩:=id pl
 simp only at hc hd;subst hc hd;have hj':j<its.length:=by omega
 have gt: ∀m (hm:m<its.length) (hm2:m<ds.length),e its[m]=di ds[m] y:=λm hm hm2=>g2 m hm _ (List.getElem?_eq_getElem hm2)
 refine call_meets PySem.F.slot_tuple_index ⟨_,ho,rfl⟩ PySem.F.entry_tuple_index (PySem.F.args_tuple_index_2 _ _) (SeqAt.tuple_indexAt a its.toArray n dd sl w e j (by simpa using hj') ?_ ?_) ⟨ho,?_,?_⟩
 ·simp only[List.getElem_toArray];rw[gt j hj' hj];exact hp
 ·intro m hm hmj
  simp only[List.getElem_toArray];rw[gt m (by simpa using hm) (by omega)]
  have:=hno m hmj
  simpa using this
 ·intro z hz'
  exact SeqAt.EqAt.of_in1 (g1 z (by simpa using hz'))
 ·exact⟨.int j,H,I.tok _,⟨_,rfl⟩,q⟩
end
section
variable {X:Cx}{c:Ct}{e o:Expr}{k k2:Kd}{f g:FE}{pos p p2 apos:Pos}
def rK:D->D->Option D:=λt x=>match t with
 | .tup ds=>if dh ds<=32 then(sG ds x).map λj=>.int j else none
 |_=>none
theorem pg(hu:X.A.units+64<cLine)(ho:DP X c k o f)(he:DP X c k2 e g)
 (hbase:attributeBase o "index" X.env (eval o X.env)=eval o X.env:=by rfl)
 (hfew:((backTo pos (starEach [e] X.env)).all (λx=> !x.1)&&(backToKw pos (keywordEach [] X.env)).all (λx=>x.1.isSome)
   &&decide (([e]:List Expr).length+([]:List Keyword).length+(if([]:List Keyword).isEmpty then 0 else 1)<30))=true:=by rfl)
 (hline:(apos.endLine==pos.line)=true:=by rfl) (hs:starEach [e] X.env=(false,eval e X.env)::starEach [] X.env:=by rfl) (hplain:(backTo pos (starEach [] X.env)).any (·.1)=false:=by rfl):
 DP X c .s (.Call (.Attribute o "index" apos) [e] [] pos) (ao rK f g):=λhid ρ=>
 PE.imp (xw PySem.F.plainAttrs_tuple PySem.F.slot_tuple_index PySem.F.type_tuple_index (pI hu) (ho hid ρ) (dZ (he hid ρ) jD hs) hbase hfew hline hs hplain) λσ H Q hq_=>by
  obtain⟨sr,d,hd,q⟩:=hq_
  obtain⟨x,y,e1,e2,e3⟩:=pH hd
  unfold rK at e3;split at e3
  ·split at e3
   ·rename_i ds _
    cases e4:sG ds y with
    |none=>rw[e4] at e3;cases e3
    |some j=>
     rw[e4] at e3;cases e3;refine⟨sr,_,e1,λv H1 s1 r1=>?_⟩
     have b1:=RK.b k r1 λa n=>sr.fresh n
     obtain⟨a,xs,rfl,t1,t2,t3⟩:=b1.tup
     refine⟨.inr (.inl ⟨rfl,xs,t2⟩),sr.ext s1,y,e2,λu H2 s2 r2=>?_⟩
     have b2:=RK.b k2 r2 λa n=>(sr.ext s1).fresh n
     exact⟨a,xs,ds,u,y,j,rfl,rfl,Same.seqT s2 t2,(t3.mono (bc s2)).mono (fH _ _),b2.full, ‹_›,e4,q _ H2 (s1.trans s2) .int⟩
   ·cases e3
  ·cases e3
theorem sA:gB X (.type "range") (λxs H Q=> ∃j:Int,xs=[.int j]/\ ∀p,H p=none->Q (.ref p) (dv H p (.rng 0 j))):=by
 intro ae s σ H xs us Q I r h;obtain⟨j,rfl,q⟩:=h
 obtain⟨u,rfl,t,rfl⟩:=lb r
 refine call_range_1 ⟨.ref s.heap.objs.size,_,I.laid (λb o e=>Heap.get?_push_of_some _ e) (Nat.le_refl _) ?_,rfl,q _ (I.hok.fresh (Nat.le_refl _))⟩
 exact⟨_,_,_,Heap.get?_push_size _ rfl⟩
theorem zF(lo:Int)(n:Nat): ∀ {K:W.Frag} {F:Hp},Reps K F ((List.range n).map λ(i:Nat)=>V.int (lo+i)) (sK lo n):=by
 intro K F;unfold sK
 generalize List.range n=l
 induction l with
 |nil=>exact .nil
 |cons a l ih=>exact .cons .int ih
theorem mL(hc:X.calm=true):gB X (.type "list") (λxs H Q=> ∃p lo hi,xs=[.ref p]/\H p=some (.rng lo hi)/\ -(2^30)<=lo/\lo<=2^30/\ -(2^30)<=hi/\hi-lo<=1000000/\hi<=2^31/\ ∀l,H l=none->Q (.ref l) (dv H l (.lst ((List.range (hi-lo).toNat).map λ(i:Nat)=>V.int (lo+i))))):=by
 intro ae s σ H xs us Q I r h;obtain⟨p,lo,hi,rfl,hp,b1,b2,b3,b4,b5,q⟩:=h
 obtain⟨u,rfl,rx⟩:=lb r
 cases rx
 obtain⟨t,u,v,hr⟩:=I.hok p _ hp
 have hsz:Builtin.Range.rangeSize lo hi 1=(hi-lo).toNat:=by
  unfold Builtin.Range.rangeSize;rw[if_pos (by decide)]
  split
  ·rw[Int.ediv_one];omega
  ·omega
 refine call_list_range (a:=lo) (b:=hi) (c:=1) (n:=(hi-lo).toNat) (I.ok.hd hc) hr ?_ hsz (by omega) λh' tk acc' c' kp hS hacc=>?_
 ·exact small_one (by omega) (by omega) (by omega) (by omega)
 ·have hz:(hi-lo).toNat<=sizeLine:=by rw[sizeLine_eq];omega
  refine⟨.ref s.heap.objs.size,_,I.laid (t':=tk) kp (Nat.le_refl _) (show ObjOk X.prog X.w _ h' _ (.lst _) from⟨by simpa using hz,acc'.toList,c',?_,by simpa using hS⟩),rfl,q _ (I.hok.fresh (Nat.le_refl _))⟩
  obtain⟨ha,hb⟩:=hacc
  have key: ∀(l:List Value) (k m:Nat),l.length=m->(∀(j:Nat) v,l[j]? =some v-> ∃t,v=.int (lo+((k+j:Nat):Int)*1) t)->Vals ((List.range' k m).map λ(i:Nat)=>V.int (lo+i)) l:=by
   intro l
   induction l with
   |nil=>intro k m hm _;subst hm;exact .nil
   |cons x l ih=>
    intro k m hm hv;subst hm;rw[List.length_cons,List.range'_succ];refine .cons ?_ (ih (k+1) l.length rfl λj v e=>?_)
    ·obtain⟨t,rfl⟩:=hv 0 x rfl
     exact⟨t,by simp⟩
    ·obtain⟨t,rfl⟩:=hv (j+1) v (by simpa using e)
     exact⟨t,by congr 3;omega⟩
  have:=key acc'.toList 0 (hi-lo).toNat (by simpa using ha) λj v e=>by
   have:=hb j v (by simpa using e)
   simpa using this
  rw[List.range_eq_range'];exact this
def wQ:D->Option D
 | .int j=>if j.natAbs<=1000000 then some (.lst (sK 0 j.toNat)) else none
 |_=>none
def vt(f:FE):FE:=λρ=>(f ρ).bind wQ
theorem jw(hc:X.calm=true)(hml:X.mg "list"=none)(hmr:X.mg "range"=none)(he:DP X c k e f)(hgl:Gl X "list":=by rfl)(hgr:Gl X "range":=by rfl)(hvl:bootBuiltins "list"=some (.type "list"):=by kernel_rfl)(hvr:bootBuiltins "range"=some (.type "range"):=by kernel_rfl)
 (hs1:starEach [e] X.env=(false,eval e X.env)::starEach [] X.env:=by rfl) (hpl1:(backTo pos (starEach [] X.env)).any (·.1)=false:=by rfl) (hpl2:(backTo p2 (starEach [] X.env)).any (·.1)=false:=by rfl) {p3:Pos}
 (hs2:starEach [.Call (.Name "range" p3) [e] [] p2] X.env=(false,eval (.Call (.Name "range" p3) [e] [] p2) X.env)::starEach [] X.env:=by rfl):
 DP X c .n (.Call (.Name "list" p) [.Call (.Name "range" p3) [e] [] p2] [] pos) (vt f):=λhid ρ=>
 PE.imp (kB (mL hc) hgl hml hvl (dZ (kB sA hgr hmr hvr (dZ (he hid ρ) jD hs1) (by decide) (by decide) hs1 hpl2) jD hs2) (by decide) (by decide) hs2 hpl1) λσ H Q hq_=>by
  obtain⟨sr,d,hd,q⟩:=hq_
  unfold vt at hd;cases e1:f ρ with
  |none=>rw[e1] at hd;cases hd
  |some z=>
   rw[e1] at hd;have hd:wQ z=some d:=hd
   unfold wQ at hd;split at hd
   ·split at hd
    ·rename_i _ j _ _
     cases hd
     refine⟨sr,_,e1,λv H1 s1 r1=>?_⟩
     have b1:=(RK.b k r1 λa n=>sr.fresh n).int
     cases b1
     refine⟨j,rfl,λr hr=>?_⟩
     refine⟨r,0,j,rfl,bM,by omega,by omega,by omega,by omega,by omega,λl hl=>?_⟩
     have s2:Same H (dv H1 r (.rng 0 j)):=s1.trans (ca hr _)
     refine q _ _ (s2.trans (ca hl _)) ?_
     have:=lN (hid:=hid) (K:=X.K) hl s2 (zF 0 (j-0).toNat)
     rw[show(j-0).toNat=j.toNat by omega] at this⊢
     exact this
    ·cases hd
   ·cases hd
def bp:=i2 (λ_ _=>true) λi j=>.int (i+j)
def dM:=i2 (λ_ _=>true) λi j=>.int (i-j)
def eI:=i2 (λi j=>decide (i.natAbs<2^1000)&&decide (j.natAbs<2^1000)) λi j=>.int (i*j)
def bv:=i2 (λ_ j=>decide (0<j)) λi j=>.int (i % j)
def iS:=i2 (λ_ j=>decide (0<j)&&decide (j.natAbs<2^1000)) λi j=>.int (i / j)
def eC:=i2 (λi j=>decide (0<=j)&&decide (j<=1000000)&&decide (i.natAbs<2^64)) λi j=>.int (i^j.toNat)
def sg:=i2 (λ_ _=>true) λi j=>.bl (decide (i<j))
def mh:=i2 (λ_ _=>true) λi j=>.bl (decide (i<=j))
def wE:=i2 (λ_ _=>true) λi j=>.bl (decide (j<i))
def yQ:=i2 (λ_ _=>true) λi j=>.bl (decide (j<=i))
theorem rO {i:Int}(h:i.natAbs<2^1000):Builtin.Int.intBits i<=2^20:=by
 unfold Builtin.Int.intBits;split
 ·exact Nat.zero_le _
 ·rename_i hz
  have h0:i.natAbs≠0:=by simp at hz;omega
  have:=(Nat.log2_lt h0).mpr h
  omega
theorem wq:jd X (binaryOp .Mult) (rI IntMulOk λi j=>.int (i*j)):=Aj λ_ _ _ _ _ _ _ hc q=>mul_int q hc
variable {a b:Expr}
theorem cF {k1 k2:Kd}(ha:DP X c k1 a f)(hb:DP X c k2 b g):DP X c .s (.BinOp a .Add b pos) (ao bp f g):=lT sU uW ha hb
theorem eT {k1 k2:Kd}(ha:DP X c k1 a f)(hb:DP X c k2 b g):DP X c .s (.BinOp a .Sub b pos) (ao dM f g):=lT xU uW ha hb
theorem yE {K:W.Frag}:kW K .s (rI IntMulOk λi j=>.int (i*j)) eI:=wj λi j h=>by
 simp only[Bool.and_eq_true,decide_eq_true_eq] at h;exact IntMulOk.of_bits (rO h.1) (rO h.2)
theorem kA {k1 k2:Kd}(ha:DP X c k1 a f)(hb:DP X c k2 b g):DP X c .s (.BinOp a .Mult b pos) (ao eI f g):=lT wq yE ha hb
theorem yd {K:W.Frag}:kW K .s (rI (λ_ j=>0<j) λi j=>.int (i % j)) bv:=wj λi j h=>by simpa using h
theorem dm {k1 k2:Kd}(ha:DP X c k1 a f)(hb:DP X c k2 b g):DP X c .s (.BinOp a .Mod b pos) (ao bv f g):=lT x9 yd ha hb
theorem ul:jd X (binaryOp .FloorDiv) (rI (λ_ j=>0<j/\j.natAbs<2^1000) λi j=>.int (i / j)):=Aj λi j _ _ _ _ _ hc q=>by
 obtain⟨h1,h2⟩:=hc
 refine floordiv_int (by omega) (by rw[Int.fdiv_eq_ediv_of_nonneg i (by omega)];exact q) (.inl (PyProof.noPylong_of_log2 ?_))
 have:=(Nat.log2_lt (n:=j.natAbs) (by omega)).mpr h2
 omega
theorem vD {K:W.Frag}:kW K .s (rI (λ_ j=>0<j/\j.natAbs<2^1000) λi j=>.int (i / j)) iS:=wj λi j h=>by
 simp only[Bool.and_eq_true,decide_eq_true_eq] at h;exact⟨h.1,h.2⟩
theorem nR {k1 k2:Kd}(ha:DP X c k1 a f)(hb:DP X c k2 b g):DP X c .s (.BinOp a .FloorDiv b pos) (ao iS f g):=lT ul vD ha hb
theorem xS {K:W.Frag}:kW K .s (rI z7 λi j=>.int (i^j.toNat)) eC:=wj λi j h=>by
 simp only[Bool.and_eq_true,decide_eq_true_eq] at h;exact⟨h.1.1,h.1.2,h.2⟩
theorem kr {k1 k2:Kd}(ha:DP X c k1 a f)(hb:DP X c k2 b g):DP X c .s (.BinOp a .Pow b pos) (ao eC f g):=lT yo xS ha hb
theorem tY {f g:GE}(ha:DE X c .s a f)(hb:DE X c .s b g):DE X c .s (.BinOp a .Add b pos) (lE bp f g):=zm sU uW ha hb
def xM:D->Option D
 | .int i=>some (.int (-i))
 |_=>none
def hX(f:FE):FE:=λρ=>(f ρ).bind xM
theorem jo(ha:DP X c k a f):DP X c .s (.UnaryOp .USub a pos) (hX f):=λhid ρ=>PE.imp (zT yI (ha hid ρ)) λσ H Q hq_=>by
 obtain⟨sr,d,hd,q⟩:=hq_
 unfold hX at hd;cases e1:f ρ with
 |none=>rw[e1] at hd;cases hd
 |some z=>
  rw[e1] at hd;have hd:xM z=some d:=hd
  unfold xM at hd;split at hd
  ·cases hd
   refine⟨sr,_,e1,λv H1 s1 r1=>?_⟩
   cases (RK.b k r1 λa n=>sr.fresh n).int
   exact⟨_,rfl,q _ H1 s1 .int⟩
  ·cases hd
end
structure Cl(P:Program)(w:World)(K:W.Frag)(mg:Str->Option Value)(base:Heap)(k:Nat)(x:Str)(ps:List Str)(sp:Sp):Prop where
 ex: ∃f fd,FnOk P w K mg base oV k f fd ps sp/\mg x=some (.ref f)/\W.keepIn K (.ref f)=true/\Binds K fd ps []
structure Df(K:W.Frag)(mg:Str->Option Value)(x:Str)(st:Stmt)(ps:List Str):Prop where
 ex: ∃f fd,Fun K x x st f fd/\mg x=some (.ref f)/\Binds K fd ps []
section
variable {P:Program}{w:World}{K:W.Frag}{mg:Str->Option Value}{base:Heap}{x:Str}{st:Stmt}{N ps:List Str}{k n:Nat}{t:FS}{kd:Kd}
theorem bF(F:Df K mg x st ps)(S:FnScope N ps (ak st))(hkd:kd≠ .b)(hn:ps.length=n)
 (body: ∀(f:Addr) (cdv:Value) (A:Around) (outer:List Env) (s:Shared) (H:Hp) (hid:cn) (E:XK),Room k (A.deeper (envOfC x (ak st) s.heap.objs.size f cdv))->
   oS (kR oV P w K mg base N x (ak st) f cdv A outer s H E).nox ⟨H,hid,λ_=>false⟩ kd (aG st) t):
 Cl P w K mg base (k+1) x ps (eP K kd n (fO kd N.length t)):=by
 obtain⟨f,fd,F,hm,hb⟩:=F.ex
 subst hn;exact⟨f,fd,rZ F S hkd (body f),hm,F.kp,hb⟩
theorem mk(F:Df K mg x st ps)(S:FnScope N ps (ak st))(hkd:kd≠ .b)(hn:ps.length=n+1)
 (body: ∀(f:Addr) (cdv:Value) (A:Around) (outer:List Env) (s:Shared) (H:Hp) (hid:cn) (a:Addr) (E:XK),Room k (A.deeper (envOfC x (ak st) s.heap.objs.size f cdv))->
   oS (kR oV P w K mg base N x (ak st) f cdv A outer s H E).nox ⟨H,hid,λb=>decide (b=a)⟩ kd (aG st) t):
 Cl P w K mg base (k+1) x ps (oU K kd n (pS kd N.length t)):=by
 obtain⟨f,fd,F,hm,hb⟩:=F.ex
 exact⟨f,fd,yZ F S hkd hn (body f),hm,F.kp,hb⟩
end
section
variable {X:Cx}{c:Ct}{e a b:Expr}{es rest:List Expr}{k:Kd}{pos p:Pos}{x:Str}{ps:List Str}{j n:Nat}
def nF(n:Nat)(P:List D->Option D):List D->Option D:=λds=>if ds.length=n then P ds else none
theorem bY {P:List D->Option D}{fs:FA}(C:Cl X.prog X.w X.K X.mg X.base j x ps (eP X.K k n P))(hr:Room j X.A)
 (ha:DA X c (e::es) fs) (hg:Gl X x:=by rfl) (hdb:(x==("__debug__":Str))=false:=by decide) (he:starEach (e::es) X.env=(false,eval e X.env)::starEach es X.env:=by rfl) (hpl:(backTo pos (starEach es X.env)).any (·.1)=false:=by rfl):
 DP X c k (.Call (.Name x p) (e::es) [] pos) (aj (nF n P) fs):=by
 obtain⟨f,fd,F,hm,hk,hb⟩:=C.ex
 exact wx F hr hm hk hb ha hg hdb he hpl
theorem iR(i:Nat){y:Str}{py:Pos}{M:List D->List D->Option (D×List D)}{fs:GA}(C:Cl X.prog X.w X.K X.mg X.base j x ps (oU X.K k n M))(hr:Room j X.A)
 (ha:DG X c es fs) (hkb:k≠ .b:=by decide) (hN:X.N[i]? =some y:=by rfl) (hv:tX X.env.scope y:=by first|exact Or.inl rfl|exact Or.inr (Or.inl rfl)|exact Or.inr (Or.inr rfl)) (hd:(y==("__debug__":Str))=false:=by decide)
 (hcd:(y==("__classdict__":Str))=false:=by decide) (hs:starEach (.Name y py::es) X.env=(false,eval (.Name y py) X.env)::starEach es X.env:=by rfl) (hg:Gl X x:=by rfl) (hdb:(x==("__debug__":Str))=false:=by decide) (hpl:(backTo pos (starEach es X.env)).any (·.1)=false:=by rfl):
 DE X c k (.Call (.Name x p) (.Name y py::es) [] pos) (aN i n M fs):=by
 obtain⟨f,fd,F,hm,hk,hb⟩:=C.ex
 exact t4 i F hr hm hk hb ha hkb hN hv hd hcd hs hg hdb hpl
end
open PySem PySem.W PyProof.Rows
open PySem PySem.W PySem.Calls PyProof.Rows
open PySem PySem.W PySem.Spec PyProof.Rows
def AV(k:List Int):D:=.tup (k.map D.int)
section
variable {X:Cx}{c:Ct}{e a b:Expr}{es rest:List Expr}{f g:GE}{fs:GA}{k:Kd}{pos p:Pos}{x:Str}{id T:String}{r:List V->Hp->VK->Prop}{F:List D->Option D}{ps:List Str}{j n:Nat}
def kU(F:List D->Option D)(fs:GA):GE:=λρ=>(fs ρ).bind λq=>(F q.1).map λd=>(d,q.2)
theorem qj {F:List D->Option D}{ρ ρ':aL}{d:D}(h:kU F fs ρ=some (d,ρ')): ∃ds,fs ρ=some (ds,ρ')/\F ds=some d:=by
 unfold kU at h;cases e:fs ρ with
 |none=>rw[e] at h;cases h
 |some q=>
  rw[e] at h;dsimp only[Option.bind] at h;cases e2:F q.1 with
  |none=>rw[e2] at h;cases h
  |some z=>rw[e2] at h;cases h;exact⟨q.1,rfl,e2⟩
abbrev GT:=aL->Option (Bool×aL)
def Az(K:W.Frag)(c:Ct)(hid:cn)(f:GT)(ρ:aL):TT:=λσ H Q=>SR K c hid ρ σ H/\ ∃d ρ',f ρ=some (d,ρ')/\ ∀H',Kept hid H H'->SR K c hid ρ' σ H'->Q d H'
def An(X:Cx)(c:Ct)(e:Expr)(f:GT):Prop:= ∀hid ρ,PT X e (Az X.K c hid f ρ)
def vT(f:GE):GT:=λρ=>(f ρ).bind λq=>(vX q.1).map λd=>(d,q.2)
theorem vP(ha:DE X c .s a f)(he: ∀whole,isTrue a X.env whole=(do let v <-whole;standAt a.pos;holding [v] (truthy v)):=by intro _;rfl):An X c a (vT f):=λhid ρ=>
 PT.imp (pT (ha hid ρ) he) λσ H Q hq_=>by
  obtain⟨sr,d,ρ',hd,q⟩:=hq_
  unfold vT at hd;cases e:f ρ with
  |none=>rw[e] at hd;cases hd
  |some z=>
   rw[e] at hd;dsimp only[Option.bind] at hd;cases e2:vX z.1 with
   |none=>rw[e2] at hd;cases hd
   |some y=>
    rw[e2] at hd;cases hd;exact⟨sr,z.1,z.2,e,λv H' ⟨k1,s1,r1⟩=>⟨d,uc e2 (.inl r1),q H' k1 s1⟩⟩
def v8(f:GT):GT:=λρ=>(f ρ).map λq=>(!q.1,q.2)
theorem wt {f:GT}(ha:An X c a f):An X c (.UnaryOp .Not a pos) (v8 f):=λhid ρ=>
 PT.imp (uq (ha hid ρ)) λσ H Q hq_=>by
  obtain⟨sr,d,ρ',hd,hq⟩:=hq_
  unfold v8 at hd;cases e:f ρ with
  |none=>rw[e] at hd;cases hd
  |some z=>rw[e] at hd;cases hd;exact⟨sr,z.1,z.2,e,λH1 k1 s1=>hq H1 k1 s1⟩
end
section
variable {X:Cx}{c:Ct}{k:Kd}{t u:FS}{e:Expr}{pos:Pos}
def zW(p:GT)(t u:FS):FS:=λρ=>match p ρ with
 |some (true,ρ')=>t ρ'
 |some (false,ρ')=>u ρ'
 |none=>.no
theorem xR {p:GT}{a b:List Stmt}(hp:An X c e p)(ha:oS X c k a t)(hb:oS X c k b u):DS X c k (.If e a b pos) (zW p t u):=λρ=>
 PS.imp (uR (xh λhid=>hp hid ρ) (ng λρ1=>ha ρ1) (ng λρ1=>hb ρ1)) λD σ H hq_=>by
  obtain⟨hid,sr,q⟩:=hq_
  cases e1:p ρ with
  |none=>unfold zW at q;rw[e1] at q;exact q.elim
  |some z=>
   obtain⟨x,ρ1⟩:=z
   refine⟨hid,sr,x,ρ1,e1,λH1 k1 s1=>?_⟩
   unfold zW at q;rw[e1] at q;cases x with
   |true=>exact nW ⟨ρ1,hid,s1,EndOk.mono q k1.vw⟩
   |false=>exact om ⟨ρ1,hid,s1,EndOk.mono q k1.vw⟩
end
def uN(ds:List D)(lo hi:Option Int):List D:=(ds.drop (HT.sIx ds.length 0 lo)).take (HT.sIx ds.length ds.length hi-HT.sIx ds.length 0 lo)
theorem uD {K:W.Frag}{F:Hp}{xs:List V}{ds:List D}(r:Reps K F xs ds)(lo hi:Option Int):Reps K F (sF xs lo hi) (uN ds lo hi):=by
 unfold sF uN;rw[r.length];exact(r.drop _).take _
abbrev FO:=aL->Option (Option Int)
def BB(K:W.Frag)(c:Ct)(hid:cn)(f:FO)(ρ:aL):TO:=λσ H Q=>SR K c hid ρ σ H/\ ∃o,f ρ=some o/\ ∀H',Same H H'->Q o H'
def DO(X:Cx)(c:Ct)(e:Option Expr)(f:FO):Prop:= ∀hid ρ,PO X e (BB X.K c hid f ρ)
theorem PO.imp {X:Cx}{e:Option Expr}{t t':TO}(h:PO X e t)(i: ∀σ H Q,t' σ H Q->t σ H Q):PO X e t':=λae s σ H Q I q=>h ae s σ H Q I (i σ H Q q)
section
variable {X:Cx}{c:Ct}{e a b:Expr}{f g:FE}{k:Kd}{pos p2:Pos}{lo hi:Option Expr}{l u:FO}
def Bx:FO:=λ_=>some none
def A6(f:FE):FO:=λρ=>(f ρ).bind λd=>match d with
 | .int i=>some (some i)
 |_=>none
theorem vA:DO X c none Bx:=λhid ρ=>PO.imp wL λσ H Q ⟨sr,o,e,q⟩=>by cases e;exact q H (Same.refl _)
theorem vU(h:DP X c k e f):DO X c (some e) (A6 f):=λhid ρ=>PO.imp (vS (h hid ρ)) λσ H Q hq_=>by
 obtain⟨sr,o,e,q⟩:=hq_
 unfold A6 at e;cases e1:f ρ with
 |none=>rw[e1] at e;cases e
 |some d=>
  rw[e1] at e;cases d with
  |int i=>
   cases e
   refine⟨sr,_,e1,λv H' s r=>⟨i,?_,q H' s⟩⟩
   exact(RK.b k r λa n=>sr.fresh n).int
  |_=>cases e
def nV(ds:List D)(lo hi:Option Int):Bool:=decide (HT.sIx ds.length 0 lo=0)&&decide (HT.sIx ds.length ds.length hi=ds.length)
def x4(f:FE)(l u:FO):FE:=λρ=>(f ρ).bind λd=>match d with
 | .tup ds=>(l ρ).bind λlo=>(u ρ).bind λhi=>if nV ds lo hi=false then some (.tup (uN ds lo hi)) else none
 |_=>none
theorem y0(he:DP X c k e f)(hl:DO X c lo l)(hu:DO X c hi u):DP X c .s (.Subscript e (.Slice lo hi none p2) pos) (x4 f l u):=λhid ρ=>
 PE.imp (sY yL (he hid ρ) (hl hid ρ) (hu hid ρ)) λσ H Q hq_=>by
  obtain⟨sr,d,hd,q⟩:=hq_
  unfold x4 at hd;cases e1:f ρ with
  |none=>rw[e1] at hd;cases hd
  |some z=>
   rw[e1] at hd;cases z with
   |tup ds=>
    have hd:((l ρ).bind λlo=>(u ρ).bind λhi=>if nV ds lo hi=false then some (D.tup (uN ds lo hi)) else none)=some d:=hd
    cases e2:l ρ with
    |none=>rw[e2] at hd;cases hd
    |some o1=>
     rw[e2] at hd;cases e3:u ρ with
     |none=>rw[e3] at hd;cases hd
     |some o2=>
      rw[e3] at hd;have hd:(if nV ds o1 o2=false then some (D.tup (uN ds o1 o2)) else none)=some d:=hd
      split at hd
      ·rename_i hw
       cases hd
       refine⟨sr,_,e1,λv H1 s1 r1=>⟨sr.ext s1,o1,e2,λH2 s2=>⟨(sr.ext s1).ext s2,o2,e3,λH3 s3=>?_⟩⟩⟩
       obtain⟨a,xs,rfl,_,h1,h2⟩:=((RK.b k r1 λa n=>sr.fresh n).ext (s2.trans s3)).tup
       refine⟨a,xs,rfl,h1,λ⟨w1,w2⟩=>?_,λp hp=>q _ _ ((s1.trans (s2.trans s3)).trans (ca hp _)) (kc hp ((((sr.ext s1).ext s2).ext s3).fresh hp) (uD h2 o1 o2))⟩
       rw[h2.length] at w1 w2;unfold nV at hw;rw[w1,w2] at hw;simp at hw
      ·cases hd
   |_=>cases hd
end
end L2
namespace PySem
open Sem (wp)
open AutoSeq1 (wpAny_loadPart')
section
variable {prog:Program}{w:World}{A:Around}{E:Value->Shared->Prop}{s:Shared}
theorem lQ {it t:Addr}{i:Nat}{us}{x:Value}{Q:Value->Shared->Prop}(hit:s.heap.IsTupleIter it t i)(ht:s.heap.IsTuple t us)(hx:us[i]? =some x)
 (hQ: ∀g,g.IsTupleIter it t (i+1)->Heap.SameBut it s.heap g->Q x {s with heap:=g}):wpAny (model prog w) A (Builtin.SmallTypes.nextOf (.ref it)) Q E s:=by
 obtain⟨o,ho,hc,hd⟩:=id hit
 obtain⟨ot,hot,_,nt,hdt⟩:=ht
 unfold Builtin.SmallTypes.nextOf;refine wpAny_bind (wpAny_callSpecial?_slot (name:=Str.ofString "__next__") hit.typeIs F.slot_tuple_iterator_next (wpAny_call_entry F.slot_tuple_iterator_next hit.typeIs F.entry_tuple_iterator_next (show wpAny _ _ (field (.ref it) 0>>=_) _ _ s from wpAny_bind (wpAny_field ho hd (x:=.ref t) rfl ?_)) (F.args_tuple_iterator_next_1 _)))
 show wpAny _ _ (if(Value.ref t==Value.none)=true then _ else _) _ _ s
 rw[if_neg (show¬((Value.ref t==Value.none)=true) from Bool.false_ne_true)];refine(show wpAny _ _ (field (.ref it) 1>>=_) _ _ s from wpAny_bind (wpAny_field ho hd (x:=.int i 0) rfl (show wpAny _ _ (seqItems? (.ref t)>>=_) _ _ s from wpAny_bind (wpAny_seqItems hot hdt ?_))))
 simp only[Int.toNat_natCast,hx];exact wpAny_bind (wpAny_setField ho hd (by simp) (wpAny_pure ⟨x,rfl,wpAny_pure (hQ _ ⟨_,Heap.get?_update_self _ ho (Obj.isFreed_of_fields (Obj.data_mapFields hd _)),(Obj.cls_mapFields ..).trans hc,by rw[Obj.data_mapFields hd];simp[rawInt]⟩ (Heap.SameBut.update ..))⟩))
theorem mM {it t:Addr}{i:Nat}{us}{Q:Value->Shared->Prop}(hh:A.handled=none)(hit:s.heap.IsTupleIter it t i)(ht:s.heap.IsTuple t us)(hx:us[i]? =none)
 (hE: ∀g e,Heap.ExtBut it s.heap g->(∃o,g.get? e=some o/\o.cls=.type "StopIteration")->E (.ref e) {s with heap:=g}):wpAny (model prog w) A (Builtin.SmallTypes.nextOf (.ref it)) Q E s:=by
 obtain⟨o,ho,hc,hd⟩:=id hit
 obtain⟨ot,hot,_,nt,hdt⟩:=ht
 unfold Builtin.SmallTypes.nextOf;refine wpAny_bind (wpAny_callSpecial?_slot (name:=Str.ofString "__next__") hit.typeIs F.slot_tuple_iterator_next (wpAny_call_entry F.slot_tuple_iterator_next hit.typeIs F.entry_tuple_iterator_next (show wpAny _ _ (field (.ref it) 0>>=_) _ _ s from wpAny_bind (wpAny_field ho hd (x:=.ref t) rfl ?_)) (F.args_tuple_iterator_next_1 _)))
 show wpAny _ _ (if(Value.ref t==Value.none)=true then _ else _) _ _ s
 rw[if_neg (show¬((Value.ref t==Value.none)=true) from Bool.false_ne_true)];refine(show wpAny _ _ (field (.ref it) 1>>=_) _ _ s from wpAny_bind (wpAny_field ho hd (x:=.int i 0) rfl (show wpAny _ _ (seqItems? (.ref t)>>=_) _ _ s from wpAny_bind (wpAny_seqItems hot hdt ?_))))
 simp only[Int.toNat_natCast,hx];refine wpAny_bind (wpAny_rule (wpAny_bind (wpAny_setField ho hd (by simp) (show wpAny _ _ (newExc (.type "StopIteration") []>>=_) _ _ _ from wpAny_bind ?_))))
 simp only[newExc,newTuple];refine wpAny_bind (wpAny_newObj_type ?_ (by size_fits))
 refine wpAny_bind (m:=firstArgMember _ _) (wpAny_of_eq (a:=Value.none) (by first|rfl|(simp only[firstArgMember];rfl)) (wpAny_newObj_type ?_ (by size_fits)))
 simp only[raiseNew];refine wpAny_bind (wpAny_handled ?_)
 first|rw[show A.in1.handled=none from hh]|rw[hh]
 exact wpAny_bind (wpAny_pure (wpAny_throw (hE _ _ (((Heap.SameBut.update ..).extBut.push _).push _) ⟨_,Heap.get?_push_size _ rfl,rfl⟩)))
theorem ol {e it:Addr}{i:Nat}{x old:Value}{N:Heap->Prop}{Q:Option Value->Shared->Prop}(he:IsEnum s.heap e it i old)(hne:e≠it)(hNk: ∀g g',N g->(∀o,g.get? it=some o->g'.get? it=some o)->N g')
 (nx: ∀(A':Around) (Q':Value->Shared->Prop) (E':Value->Shared->Prop),(∀g,N g->Heap.SameBut it s.heap g->Q' x {s with heap:=g})->wpAny (model prog w) A' (Builtin.SmallTypes.nextOf (.ref it)) Q' E' s)
 (hQ: ∀g,IsEnumOut g e it ((i:Int)+1) x s.heap.objs.size->N g->g.get? s.heap.objs.size=some {cls:=.type "tuple",data:=.seq #[.int i s.toks,x]}->g.objs.size=s.heap.objs.size+1->
   (∀b o,b≠e->b≠it->s.heap.get? b=some o->g.get? b=some o)->Q (some (.ref s.heap.objs.size)) {s with heap:=g,toks:=s.toks+1}):wpAny (model prog w) A (pyNext (.ref e)) Q E s:=by
 have hT:s.TypeIs (.ref e) "enumerate":=⟨_,he,rfl⟩
 unfold pyNext;refine wpAny_bind (wpAny_attempt (wpAny_callSpecial?_slot (name:=Str.ofString "__next__") hT F.slot_enumerate_next (wpAny_call_entry F.slot_enumerate_next hT F.entry_enumerate_next ?_ (F.args_enumerate_next_1 _))))
 obtain⟨hp,gn,dr,tk,os⟩:=s
 refine(show wpAny _ _ (field (.ref e) 2>>=_) _ _ _ from wpAny_bind (wpAny_field he rfl (x:=.ref it) rfl (wpAny_bind (nx _ _ _ λg₁ n₁ b₁=>?_))))
 replace b₁:Heap.SameBut it hp g₁:=b₁
 have e₁:IsEnum g₁ e it i old:=(b₁.2 e hne).trans he
 refine(show wpAny _ _ (field (.ref e) 3>>=_) _ _ ⟨g₁,gn,dr,tk,os⟩ from wpAny_bind (wpAny_field e₁ rfl (x:=rawInt i) rfl ?_))
 refine(show wpAny _ _ (field (.ref e) 4>>=_) _ _ ⟨g₁,gn,dr,tk,os⟩ from wpAny_bind (wpAny_field e₁ rfl (x:=.none) rfl ?_))
 refine(show wpAny _ _ (mkInt i>>=_) _ _ ⟨g₁,gn,dr,tk,os⟩ from wpAny_bind (wpAny_mkInt ?_))
 refine(show wpAny _ _ (setField (.ref e) 3 (rawInt ((i:Int)+1))>>=_) _ _ ⟨g₁,gn,dr,tk+1,os⟩ from wpAny_bind (wpAny_setField_rec e₁ (by simp) λg₂ e₂ b₂=>?_))
 replace b₂:Heap.SameBut e g₁ g₂:=b₂
 replace e₂:IsEnum g₂ e it ((i:Int)+1) old:=e₂
 refine(show wpAny _ _ (setField (.ref e) 4 .none>>=_) _ _ ⟨g₂,gn,dr,tk+1,os⟩ from wpAny_bind (wpAny_setField_rec e₂ (by simp) λg₃ e₃ b₃=>?_))
 replace b₃:Heap.SameBut e g₂ g₃:=b₃
 replace e₃:IsEnum g₃ e it ((i:Int)+1) old:=e₃
 refine(show wpAny _ _ (newTuple [.int i tk,x]>>=_) _ _ ⟨g₃,gn,dr,tk+1,os⟩ from wpAny_bind (wpAny_newTuple ?_))
 have z₃:g₃.objs.size=hp.objs.size:=by rw[b₃.1,b₂.1,b₁.1]
 have le:e<hp.objs.size:=Heap.lt_size he
 have e₄:IsEnum (g₃.push {cls:=.type "tuple",data:=.seq #[.int i tk,x]}) e it ((i:Int)+1) old:=Heap.get?_push_of_some _ e₃
 have n₄:N (g₃.push {cls:=.type "tuple",data:=.seq #[.int i tk,x]}):=hNk _ _ n₁ λo ho=>Heap.get?_push_of_some _ (b₃.extBut _ _ (Ne.symm hne) (b₂.extBut _ _ (Ne.symm hne) ho))
 have t₄:(g₃.push {cls:=.type "tuple",data:=.seq #[.int i tk,x]}).get? hp.objs.size=some {cls:=.type "tuple",data:=.seq #[.int i tk,x]}:=by rw[<-z₃];exact Heap.get?_push_size _ rfl
 have s₄:(g₃.push {cls:=.type "tuple",data:=.seq #[.int i tk,x]}).objs.size=hp.objs.size+1:=by rw[Heap.size_push,z₃]
 have k₄: ∀b o,b≠e->b≠it->hp.get? b=some o->(g₃.push {cls:=.type "tuple",data:=.seq #[.int i tk,x]}).get? b=some o:=λb o h1 h2 h3=>Heap.get?_push_of_some _ (b₃.extBut b o h1 (b₂.extBut b o h1 (b₁.extBut b o h2 h3)))
 generalize g₃.push {cls:=.type "tuple",data:=.seq #[.int i tk,x]}=g₄ at e₄ n₄ t₄ s₄ k₄
 rw[z₃];refine(show wpAny _ _ (Builtin.SmallTypes.ownedTupleIsFree (.ref e)>>=_) _ _ ⟨g₄,gn,dr,tk+1,os⟩ from wpAny_bind ?_)
 unfold Builtin.SmallTypes.ownedTupleIsFree;refine wpAny_bind (wpAny_field e₄ rfl (x:=.none) rfl (wpAny_pure ?_))
 simp only[if_true];refine wpAny_bind (wpAny_rule (wpAny_bind (wpAny_field e₄ rfl (x:=old) rfl (wpAny_bind (wpAny_setField_rec e₄ (by simp) λg₅ e₅ b₅=>?_)))))
 replace b₅:Heap.SameBut e g₄ g₅:=b₅
 replace e₅:IsEnum g₅ e it ((i:Int)+1) x:=e₅
 refine(show wpAny _ _ (Builtin.SmallTypes.ownedTupleHandOut (.ref e) (.ref hp.objs.size)>>=_) _ _ ⟨g₅,gn,dr,tk+1,os⟩ from wpAny_bind ?_)
 unfold Builtin.SmallTypes.ownedTupleHandOut;refine wpAny_bind (wpAny_setField_rec e₅ (by simp) λg₆ e₆ b₆=>?_)
 replace b₆:Heap.SameBut e g₅ g₆:=b₆
 replace e₆:IsEnumOut g₆ e it ((i:Int)+1) x hp.objs.size:=e₆
 refine wpAny_setField_rec e₆ (by simp) λg₇ e₇ b₇=>?_
 replace b₇:Heap.SameBut e g₆ g₇:=b₇
 replace e₇:IsEnumOut g₇ e it ((i:Int)+1) x hp.objs.size:=e₇
 refine wpAny_bind (wpAny_letGo (wpAny_pure ⟨_,rfl,wpAny_pure (hQ g₇ e₇ (hNk _ _ n₄ λo ho=>?_) ?_ ?_ λb o h1 h2 h3=>?_)⟩))
 ·exact b₇.extBut _ _ (Ne.symm hne) (b₆.extBut _ _ (Ne.symm hne) (b₅.extBut _ _ (Ne.symm hne) ho))
 ·exact b₇.extBut _ _ (Nat.ne_of_gt le) (b₆.extBut _ _ (Nat.ne_of_gt le) (b₅.extBut _ _ (Nat.ne_of_gt le) t₄))
 ·rw[b₇.1,b₆.1,b₅.1,s₄]
 ·exact b₇.extBut b o h1 (b₆.extBut b o h1 (b₅.extBut b o h1 (k₄ b o h1 h2 h3)))
theorem o6 {e it:Addr}{i:Nat}{old:Value}{Q:Option Value->Shared->Prop}(he:IsEnum s.heap e it i old)
 (nx: ∀(A':Around),A'.handled=A.handled-> ∀(Q':Value->Shared->Prop) (E':Value->Shared->Prop),(∀g x,Heap.ExtBut it s.heap g->(∃o,g.get? x=some o/\o.cls=.type "StopIteration")->E' (.ref x) {s with heap:=g})->wpAny (model prog w) A' (Builtin.SmallTypes.nextOf (.ref it)) Q' E' s)
 (hQ: ∀g,Heap.ExtBut it s.heap g->Q none {s with heap:=g}):wpAny (model prog w) A (pyNext (.ref e)) Q E s:=by
 have hT:s.TypeIs (.ref e) "enumerate":=⟨_,he,rfl⟩
 unfold pyNext;refine wpAny_bind (wpAny_attempt (wpAny_callSpecial?_slot (name:=Str.ofString "__next__") hT F.slot_enumerate_next (wpAny_call_entry F.slot_enumerate_next hT F.entry_enumerate_next (show wpAny _ _ (field (.ref e) 2>>=_) _ _ _ from wpAny_bind (wpAny_field he rfl (x:=.ref it) rfl (wpAny_bind (nx A.in1 rfl _ _ λg x k hx=>?_)))) (F.args_enumerate_next_1 _))))
 obtain⟨o,ho,hc⟩:=hx
 exact wpAny_bind (wpAny_isInstance (T:="StopIteration") (b:=true) ⟨o,ho,hc⟩ isSubtype_stop (wpAny_pure (hQ _ k)))
end
set_option maxHeartbeats 1000000 in
theorem oo(l:Addr)(us:Array Value)(n:Nat)(dct:Option Addr)(sl:Array (Option Value)):
 Meets (Builtin.«enumerate.__new__» ⟨[.type "enumerate",.ref l],[]⟩) (λ_ R s=>s.heap.get? l=some {cls:=.type "tuple",dict:=dct,data:=.seq us n,slots:=sl}/\
  R (.ok (.ret (.ref (s.heap.push {cls:=.type "tuple_iterator",data:=.fields #[.ref l,.int 0 0]}).objs.size)))
   {s with heap:=(s.heap.push {cls:=.type "tuple_iterator",data:=.fields #[.ref l,.int 0 0]}).push {cls:=.type "enumerate",data:=.fields #[.none,.bool false,.ref s.heap.objs.size,rawInt 0,.none,.none]}}):=
 .of_wp λprog w A R s h=>by
  obtain⟨hp,g,d,tk,os⟩:=s;obtain⟨hl,h⟩:=h
  have hsub:=sub_enumerate
  have hL:Heap.IsTuple (Shared.heap ⟨hp,g,d,tk,os⟩) l us:=⟨_,hl,rfl,n,rfl⟩
  wp_walk using wpAny_loadPart' hl
  refine wpAny_stack_any λst=>wpAny_pure ?_
  split
  ·rename_i c _ _ _ _ _
   cases (c==Value.type "enumerate")
   ·wp_walk using wpAny_loadPart' hl,wpAny_pyIter_tuple hL
    exact⟨_,rfl,h⟩
   ·wp_walk using wpAny_loadPart' hl,wpAny_pyIter_tuple hL
    exact⟨_,rfl,h⟩
  ·wp_walk using wpAny_loadPart' hl,wpAny_pyIter_tuple hL
   exact⟨_,rfl,h⟩
section
variable {prog:Program}{w:World}{A:Around}{E:Value->Shared->Prop}{s:Shared}
theorem mQ {l:Addr}{us:Array Value}{Q:Value->Shared->Prop}(hL:s.heap.IsTuple l us)
 (h: ∀g,IsEnum g (s.heap.objs.size+1) s.heap.objs.size 0 .none->g.IsTupleIter s.heap.objs.size l 0->g.objs.size=s.heap.objs.size+2->(∀b o,s.heap.get? b=some o->g.get? b=some o)->Q (.ref (s.heap.objs.size+1)) {s with heap:=g}):
 wpAny (model prog w) A (call (.type "enumerate") [.ref l]) Q E s:=by
 obtain⟨⟨cls,dct,dat,sl⟩,ho,hc,n,hd⟩:=hL
 have hc:cls=.type "tuple":=hc
 have hd:dat=.seq us n:=hd
 subst hc hd;refine callType_new F.called_enumerate (by decide) (F.typeCall_enumerate_1 _) (F.newCall_enumerate_1 _) (λobj=>F.args_object_init_2 obj _) F.entry_enumerate_new (oo l us n dct sl) ⟨ho,?_⟩
 have hz:(s.heap.push {cls:=.type "tuple_iterator",data:=.fields #[.ref l,.int 0 0]}).objs.size=s.heap.objs.size+1:=Heap.size_push ..
 show _/\_;rw[hz];have he:IsEnum ((s.heap.push {cls:=.type "tuple_iterator",data:=.fields #[.ref l,.int 0 0]}).push {cls:=.type "enumerate",data:=.fields #[.none,.bool false,.ref s.heap.objs.size,rawInt 0,.none,.none]}) (s.heap.objs.size+1) s.heap.objs.size 0 .none:=by
  have:=Heap.get?_push_size (s.heap.push {cls:=.type "tuple_iterator",data:=.fields #[.ref l,.int 0 0]}) (o:={cls:=.type "enumerate",data:=.fields #[.none,.bool false,.ref s.heap.objs.size,rawInt 0,.none,.none]}) rfl
  rw[hz] at this;exact this
 exact⟨⟨_,he,rfl⟩,h _ he ⟨_,Heap.get?_push_of_some _ (Heap.get?_push_size _ rfl),rfl,rfl⟩ (by rw[Heap.size_push,hz]) λb o x=>Heap.get?_push_of_some _ (Heap.get?_push_of_some _ x)⟩
end
end PySem
namespace L2
open PySem PySem.Spec PyProof.Rows
def Bs(K:W.Frag)(a:Addr):It:=
 ⟨λi H=> ∃xs x,SqT K H a xs/\xs[i]? =some x,λi H x H'=> ∃T,x=.ref T/\H T=none/\ ∀xs,SqT K H a xs-> ∃y,xs[i]? =some y/\H'=dv H T (.tup [.int i,y]),λi H=> ∃xs,SqT K H a xs/\xs.length<=i⟩
theorem qL {P:Program}{w:World}{K:W.Frag}{es:List Expr}{x1}{pos:Pos}(a it e:Addr)(hei:e≠it):Turn P w K (.Tuple es x1 pos) (Bs K a) [e,it] e (λi h=>(∃old,IsEnum h e it i old)/\h.IsTupleIter it a i) where
 mem:=by simp
 obj:=λi h st b hb=>by
  obtain⟨⟨old,he⟩,o,ho,hc,hd⟩:=st
  rcases List.mem_cons.mp hb with rfl|hb
  ·exact⟨_,he,λv z=>by cases z⟩
  ·have:b=it:=by simpa using hb
   subst this;exact⟨o,ho,λv z=>by rw[hd] at z;cases z⟩
 keep:=λi h h' st k=>by
  obtain⟨⟨old,he⟩,hit⟩:=st
  exact⟨⟨old,k e (by simp) _ he⟩,hit.at λo x=>k it (by simp) o x⟩
 item:=by
  intro X hP hw hK hc i ae s σ H E I hf st hg;subst hP hw hK;obtain⟨xs,x,hq,hx⟩:=hg
  obtain⟨its,rv,p,hz⟩:=I.tuple hq
  obtain⟨u,hu,ru⟩:=rv.get hx
  obtain⟨⟨old,he⟩,hit⟩:=st
  obtain⟨e0,e1,e2,e3,e4,e5⟩:=hf e (by simp)
  obtain⟨f0,f1,f2,f3,f4,f5⟩:=hf it (by simp)
  have ht:s.heap.IsTuple a its.toArray:=p
  refine ol (x:=u) (N:=λg=>g.IsTupleIter it a (i+1)) he hei (λg g' n k=>n.at k) (λA' Q' E' hq'=>lQ hit ht (by simpa using hu) λg n b=>hq' g n b) λg hout hit' hT hsz hk=>⟨_,rfl,?_⟩
  refine wpAny_letOwnedTupleGo_enum hout λg' he' hs'=>?_
  have elt:e<s.heap.objs.size:=Heap.lt_size he
  have k2: ∀b o,b≠e->b≠it->s.heap.get? b=some o->g'.get? b=some o:=λb o h1 h2 h3=>(hs'.2 b h1).trans (hk b o h1 h2 h3)
  have hT':g'.get? s.heap.objs.size=some {cls:=.type "tuple",data:=.seq #[.int i s.toks,u]}:=(hs'.2 _ (Nat.ne_of_gt elt)).trans hT
  have hn:H s.heap.objs.size=none:=I.hok.fresh (Nat.le_refl _)
  have I1:Inv X ae σ (dv H s.heap.objs.size (.tup [.int i,x])) {s with heap:=g',toks:=s.toks+1}:=by
   obtain⟨oi,hoi,hci,hdi⟩:=id (show g'.IsTupleIter it a (i+1) from hit'.at λo y=>(hs'.2 it (Ne.symm hei)).trans y)
   obtain⟨os0,hos0,_⟩:=id hit
   have ilt:it<s.heap.objs.size:=Heap.lt_size hos0
   have I0:Inv X ae σ (dv H s.heap.objs.size (.tup [.int i,x])) {s with heap:=s.heap.push {cls:=.type "tuple",data:=.seq #[.int i s.toks,u]},toks:=s.toks+1}:=
    I.laid (t':=s.toks+1) (λb o q=>Heap.get?_push_of_some _ q) (Nat.le_refl _) (show ObjOk X.prog X.w _ _ _ (.tup [.int i,x]) from
     ⟨Nat.le_of_lt (ky (by simp)),[.int i s.toks,u],.cons ⟨_,rfl⟩ (.cons ru .nil),⟨_,Heap.get?_push_size _ rfl,rfl,_,rfl⟩,_,Heap.get?_push_size _ rfl,rfl⟩)
   have u1:((s.heap.push {cls:=.type "tuple",data:=.seq #[.int i s.toks,u]}).update it λ_=>oi).get? it=some oi:=Heap.get?_update_self (λ_=>oi) (Heap.get?_push_of_some _ hos0) (Obj.isFreed_of_fields hdi)
   have I1:Inv X ae σ (dv H s.heap.objs.size (.tup [.int i,x])) {s with heap:=(s.heap.push {cls:=.type "tuple",data:=.seq #[.int i s.toks,u]}).update it λ_=>oi,toks:=s.toks+1}:=
    I0.turned (t':=s.toks+1) (λb o hb q=>(Heap.get?_update_other _ _ (Ne.symm hb)).trans q) (by rw[aR (Nat.ne_of_lt ilt)];exact f0) f1 f3 f4 f5
   refine I1.turned (t':=s.toks+1) (λb o hb q=>?_) (by rw[aR (Nat.ne_of_lt elt)];exact e0) e1 e3 e4 e5
   by_cases hbi:b=it
   ·subst hbi
    have q':((s.heap.push {cls:=.type "tuple",data:=.seq #[.int i s.toks,u]}).update b λ_=>oi).get? b=some o:=q
    rw[u1] at q';cases q';exact hoi
   ·have q':((s.heap.push {cls:=.type "tuple",data:=.seq #[.int i s.toks,u]}).update it λ_=>oi).get? b=some o:=q
    rw[Heap.get?_update_other _ _ (Ne.symm hbi)] at q'
    by_cases hbT:b=s.heap.objs.size
    ·subst hbT
     rw[Heap.get?_push_size _ rfl] at q';cases q'
     exact hT'
    ·rw[Heap.get?_push_ne _ _ _ hbT] at q'
     exact k2 b o hb hbi q'
  refine⟨.ref s.heap.objs.size,dv H s.heap.objs.size (.tup [.int i,x]),I1,rfl,⟨_,rfl,hn,λys hy=>⟨x,by rw[I.tuple_inj hy hq];exact hx,rfl⟩⟩,⟨⟨u,by simpa using he'⟩,hit'.at λo y=>(hs'.2 it (Ne.symm hei)).trans y⟩,λb hb=>?_⟩
  rcases List.mem_cons.mp hb with rfl|hb
  ·rw[aR (Nat.ne_of_lt elt)];exact e0
  ·have:b=it:=by simpa using hb
   subst this;obtain⟨o,ho,_⟩:=hit
   rw[aR (Nat.ne_of_lt (Heap.lt_size ho))];exact f0
 done:=by
  intro X hP hw hK hc i ae s σ H E I hf st hg;subst hP hw hK;obtain⟨xs,hq,hx⟩:=hg
  obtain⟨its,rv,p,hz⟩:=I.tuple hq
  obtain⟨⟨old,he⟩,hit⟩:=st
  obtain⟨f0,f1,f2,f3,f4,f5⟩:=hf it (by simp)
  have hl:=rv.length
  have hh:=I.ok.hd hc
  refine o6 he (λA' hA' Q' E' hq'=>mM (hA'.trans hh) hit (show s.heap.IsTuple a its.toArray from p) (by simp;omega) hq') λg k=>⟨rfl,I.turned (t':=s.toks) (λb o hb z=>k b o hb z) f0 f1 f3 f4 f5⟩
 self:=λ_ _ _ _ _ st h=>let⟨⟨_,he⟩,_⟩:=st;wpAny_pyIter_enum he h
section
variable {X:Cx}{c:Ct}{k:Kd}{es:List Expr}{x1:Nat}{tp pos p:Pos}
def qH(ds:List D):List D:=(List.range ds.length).map λ(i:Nat)=>D.tup [.int i,ds.getD i .non]
def vK(f:FE):FA:=λρ=>(f ρ).bind λd=>match d with
 | .tup ds=>some (qH ds)
 |_=>none
theorem r8 {K:W.Frag}{W:Hp}{a:Addr}{xs:List V}{ds:List D}(h1:SqT K W a xs)(h2:Reps K W xs ds):ItOk K W (Bs K a) (qH ds):=by
 have l:=h2.length
 have el:(qH ds).length=ds.length:=by simp[qH]
 refine⟨λi d H e s=>?_,λH s=>⟨_,Same.seqT s h1,by rw[el,<-l];exact Nat.le_refl _⟩⟩
 have hi:i<ds.length:=by rw[<-el];exact(List.getElem?_eq_some_iff.mp e).1
 have ex:xs[i]? =some xs[i]:=List.getElem?_eq_getElem (by omega)
 refine⟨⟨_,xs[i],Same.seqT s h1,ex⟩,λy H' ⟨T,e2,hT,e3⟩=>?_⟩
 subst e2;obtain⟨z,e4,e5⟩:=e3 _ (Same.seqT s h1)
 subst e5;refine⟨ca hT _,λhid tr sw=>?_⟩
 have hf:hid T=false:=by
  cases eh:hid T with
  |false=>rfl
  |true=>obtain⟨o,ho⟩:=tr T eh;rw[hT] at ho;cases ho
 obtain⟨d',e6,r6⟩:=h2.get' e4
 have ed:d=.tup [.int i,d']:=by
  unfold qH at e;rw[List.getElem?_map,List.getElem?_range hi] at e;have:ds.getD i .non=d':=by simp[List.getD,e6]
  rw[Option.map_some,this] at e;exact(Option.some.inj e).symm
 rw[ed];exact kc hT hf (.cons .int (.cons (r6.mono sw) .nil))
theorem uP {iter:Expr}{f:FE}(h:DP X c .s iter f)(hm:X.mg "enumerate"=none)(hg:Gl X "enumerate":=by rfl)(hs:starEach [iter] X.env=[(false,eval iter X.env)]:=by rfl):DIp X c (.Tuple es x1 tp) (.Call (.Name "enumerate" p) [iter] [] pos) (vK f):=by
 intro hid ρ ae s σ H R I hq;obtain⟨sr,ds,hd,q⟩:=hq
 unfold vK at hd;cases e1:f ρ with
 |none=>rw[e1] at hd;cases hd
 |some z=>
  rw[e1] at hd;cases z with
  |tup us=>
   cases hd
   refine Call_ (lZ (u:=.type "enumerate") I hg hm (by kernel_rfl) (PyProof.Rows.callWith_type1 (cP (dZ (h hid ρ) jD hs pos ae s σ H (λvs H'=> ∃v,vs=[v]/\Same H H'/\Rep X.K (vw H' hid) v (.tup us)) I ⟨sr,_,e1,λv H' s' r=>⟨v,rfl,s',r⟩⟩) λvs s1 ⟨ws,H1,I1,r1,w,e,s',r⟩=>?_) hs rfl))
   subst e;cases r1 with
   |cons ra rb=>
    cases rb
    cases r with
    |tup t1 t2=>
     cases ra
     obtain⟨its,rv,pt,hz⟩:=I1.tuple (Same.seqT (fH _ _) t1)
     refine mQ (show s1.heap.IsTuple _ its.toArray from pt) λg he hit hsz hk=>?_
     refine wpAny_pyIter_enum he ⟨_,[s1.heap.objs.size+1,s1.heap.objs.size],_,_,H1,rfl,I1.kept (t':=s1.toks) λb o e=>hk b o e,qL _ _ _ (Nat.ne_of_gt (Nat.lt_succ_self _)),⟨⟨_,he⟩,hit⟩,λb hb=>?_,q _ H1 s' (r8 t1 t2)⟩
     rcases List.mem_cons.mp hb with rfl|hb
     ·exact I1.fpOk (Nat.le_succ _) (I1.hok.fresh (Nat.le_succ _))
     ·have:b=s1.heap.objs.size:=by simpa using hb
      subst this;exact I1.fpOk (Nat.le_refl _) (I1.hok.fresh (Nat.le_refl _))
  |_=>cases hd
end
open PySem PySem.W PySem.Calls PyProof.Rows
def yR {α:Type}(d:α)(n:Nat):Option α:=if n<=sizeLine then some d else none
def Bp {α:Type}(d:α)(n:Nat):Option α:=if n<sizeLine then some d else none
theorem dW {α:Type}{d:α}{n:Nat}(h:n<=1000):yR d n=some d:=if_pos (Nat.le_of_lt (ky h))
theorem m8 {α:Type}{d:α}{n:Nat}(h:n<=1000):Bp d n=some d:=if_pos (ky h)
theorem wU(fs:FA)(ρ:aL):aZ fs ρ=(fs ρ).bind λds=>yR (.tup ds) ds.length:=rfl
theorem kf(fs:FA)(ρ:aL):eG fs ρ=(fs ρ).bind λds=>yR (.lst ds) ds.length:=rfl
theorem tK(m:Nat)(gi:FA)(g:FG)(p:FT)(f:FE)(ρ:aL):bT m gi g p f ρ=(gi ρ).bind λds=>(yR () ds.length).bind λ_=>(dg g p f (ρ++List.replicate m .no) ds).map D.lst:=by
 unfold bT yR;congr 1;funext ds
 split<;>rfl
theorem rT(bs:List D)(d:D):jI bs [d]=Bp (.non,bs++[d]) bs.length:=rfl
theorem wg(bs:List D)(i:Int):mW bs [.int i]=(yR () bs.length).bind λ_=>(pX bs.length i).bind λj=>(bs[j]?).map λd=>(d,bs.eraseIdx j):=by
 unfold mW yR;dsimp only;split
 ·rename_i j e
  split at e
  ·rw[if_pos ‹_›,e];rfl
  ·cases e
 ·rename_i e
  split at e
  ·rw[if_pos ‹_›,e];rfl
  ·rw[if_neg ‹_›];rfl
def zY(ds:List D):Option (List D):=match ds with
 | [.int j]=>if j.natAbs<4000000000 then some (sK 0 j.toNat) else none
 |_=>none
theorem pc(f:FA)(ρ:aL):dR f ρ=(f ρ).bind zY:=rfl
theorem pj {j:Int}(h:j.natAbs<=1000):zY [.int j]=some (sK 0 j.toNat):=by
 show(if j.natAbs<4000000000 then some (sK 0 j.toNat) else none)=_
 rw[if_pos (by omega)]
theorem fk(i j:Int):bp (.int i) (.int j)=some (.int (i+j)):=rfl
theorem fm(i j:Int):dM (.int i) (.int j)=some (.int (i-j)):=rfl
theorem rL(i j:Int):sg (.int i) (.int j)=some (.bl (decide (i<j))):=rfl
theorem rA(i j:Int):yQ (.int i) (.int j)=some (.bl (decide (j<=i))):=rfl
theorem cY {i j:Int}(h:0<j):bv (.int i) (.int j)=some (.int (i % j)):=by
 unfold bv i2;dsimp only;rw[if_pos (by simpa using h)]
theorem qq {n:Nat}(h:n<10^200):n<2^1000:=Nat.lt_of_lt_of_le h (by decide)
theorem hZ {i j:Int}(h1:i.natAbs<10^200)(h2:j.natAbs<10^200):eI (.int i) (.int j)=some (.int (i*j)):=by
 unfold eI i2;dsimp only;rw[if_pos (by rw[decide_eq_true (qq h1),decide_eq_true (qq h2)];rfl)]
theorem kJ {i j:Int}(h1:0<j)(h2:j.natAbs<10^200):iS (.int i) (.int j)=some (.int (i / j)):=by
 unfold iS i2;dsimp only;rw[if_pos (by rw[decide_eq_true h1,decide_eq_true (qq h2)];rfl)]
theorem jT {i j:Int}(h0:0<=j)(h1:j<=1000000)(h2:i.natAbs<2^64):eC (.int i) (.int j)=some (.int (i^j.toNat)):=by
 unfold eC i2;dsimp only;rw[if_pos (by rw[decide_eq_true h0,decide_eq_true h1,decide_eq_true h2];rfl)]
theorem ja {x y:D}(h:dw x<=32):iU x y=some (.bl (di x y)):=if_pos h
theorem kn {x y:D}(h:dw x<=32):kZ x y=some (.bl (!di x y)):=if_pos h
theorem jh(i j:Int):di (.int i) (.int j)=decide (i=j):=by
 unfold di;rw[Bool.eq_iff_iff];simp
theorem fM(i:Int):dw (.int i)=0:=by unfold dw;rfl
structure Bag(N:Nat)(a b:Int):Prop where
 a0:0<=a
 a1:a.natAbs<10^180
 b0:0<=b
 b1:b<=N
 lo:b≠0->a.natAbs<2147483647
abbrev aM(a b:Int):List D:=[.int a,.int b]
def oF:FS:=
 ay (dC (bq (ao sg (ai 1) (aj bR (aa (ai 0) (ah))))) (aI (ao aQ (ai 0) (ai 1))) (skip))
 (aI (au (.int 0)))
def gI:List D->Option D:=fO .s 2 oF
def uk:FS:=
 ay (ba 2 (ao bv (aj pJ (aa (aj (nF 2 gI) (aa (ai 0) (aa (ai 1) (ah)))) (ah))) (ao eI (ao eI (ao eC (au (.int 10)) (au (.int 60))) (ao eC (au (.int 10)) (au (.int 60)))) (ao eC (au (.int 10)) (au (.int 60))))))
 (ay (dC (bq (ao yQ (ai 2) (ao eC (au (.int 10)) (au (.int 18))))) (aI (eG (aa (ai 2) (aa (au (.int 0)) (ah))))) (skip))
 (ay (ba 3 (ao bv (ao bp (ao bp (ai 2) (ao eI (au (.int 7919)) (ai 1))) (au (.int 17))) (au (.int 2147483647))))
 (ay (iK (cL (dR (aa (aj i7 (aa (aj bR (aa (ai 0) (ah))) (aa (au (.int 9)) (ah)))) (ah)))) (gN 4) (ba 3 (ao bv (ao bp (ao bp (ao eC (ai 3) (au (.int 5))) (ao bv (ao aQ (ai 0) (ai 4)) (au (.int 2147483629)))) (ao eI (au (.int 31)) (ai 4))) (au (.int 2147483647)))))
 (aI (eG (aa (ai 3) (aa (au (.int 1)) (ah))))))))
def uj:List D->Option D:=fO .n 5 uk
def nS:FS:=
 ay (dC (bq (ao iU (ao aQ (cV 0) (au (.int 1))) (au (.int 0)))) (ay (ba 2 (ao bv (ao aQ (cV 0) (au (.int 0))) (ai 1)))
 (ay (cr (db 0 (au (.int 0))) (pu (ao iS (ao aQ (cV 0) (au (.int 0))) (ai 1))))
 (aI (ai 2)))) (skip))
 (ay (cr (db 0 (au (.int 0))) (pu (ao bv (ao bp (ao bp (ao eC (ao aQ (cV 0) (au (.int 0))) (au (.int 5))) (ao eI (au (.int 48271)) (ao aQ (cV 0) (au (.int 1))))) (au (.int 11))) (au (.int 2147483647)))))
 (ay (cr (db 0 (au (.int 1))) (pu (ao bp (ao aQ (cV 0) (au (.int 1))) (au (.int 1)))))
 (aI (ao bv (ao iS (ao bv (ao eI (ao aQ (cV 0) (au (.int 0))) (au (.int 69621))) (au (.int 2147483629))) (au (.int 8))) (ai 1)))))
def dE:List D->List D->Option (D×List D):=pS .s 3 nS
def pD:FS:=
 ay (eS 2 (vt (ai 1)))
 (ay (eS 3 (eG (ah)))
 (ay (oh (bq (ao kZ (cV 2) (eG (ah)))) (eL (aN 3 1 jI (dl (aN 2 1 mW (dl (aN 0 1 dE (cL (aa (aj bR (aa (cV 2) (ah))) (ah)))) (cL (ah)))) (cL (ah))))) 16)
 (vg 3)))
def h8:List D->List D->Option (D×List D):=pS .n 4 pD
theorem cG {i m:Int}(h:0<m):0<=i % m/\i % m<m:=⟨Int.emod_nonneg _ (by omega),Int.emod_lt_of_pos _ h⟩
theorem iI {N:Nat}{a b m:Int}(B:Bag N a b)(hN:N<=1000000000)(hm:0<m)(hm2:m.natAbs<10^20): ∃d a' b',dE (aM a b) [.int m]=some (.int d,aM a' b')/\Bag (N+1) a' b'/\0<=d/\d<m:=by
 have hm3:m.natAbs<10^200:=Nat.lt_of_lt_of_le hm2 (by decide)
 by_cases hb:b=0
 ·subst hb
  refine⟨a % m,a / m,0,?_,⟨Int.ediv_nonneg B.a0 (by omega),?_,by omega,by omega,λz=>absurd rfl z⟩,cG hm⟩
  ·simp[dE,pS,nS,mJ,aM,ay,dC,bq,ao,aQ,cV,ai,au,ja,jh,fM,pN,nw,pX,ba,cY hm,cr,pu,kJ hm hm3,db,i4,h9,yY,aI,lS]
  ·have h1:=B.a1
   have:a / m<=a:=Int.ediv_le_self _ B.a0
   have:0<=a / m:=Int.ediv_nonneg B.a0 (by omega)
   omega
 ·have lo:=B.lo hb
  have p1:a.natAbs<2^64:=Nat.lt_trans lo (by decide)
  have p2:b.natAbs<10^200:=Nat.lt_of_lt_of_le (show b.natAbs<10^10 by have:=B.b1;have:=B.b0;omega) (by decide)
  generalize hA:(a^5+48271*b+11) % 2147483647=A
  have hA':0<=A/\A<2147483647:=by rw[<-hA];exact cG (by decide)
  have p3:A.natAbs<10^200:=Nat.lt_of_lt_of_le (show A.natAbs<10^10 by omega) (by decide)
  refine⟨A*69621 % 2147483629 / 8 % m,A,b+1,?_,⟨hA'.1,?_,by have:=B.b0;omega,by have:=B.b1;omega,λ_=>by omega⟩,cG hm⟩
  ·have c1:(48271:Int).natAbs<10^200:=Nat.lt_of_lt_of_le (show(48271:Int).natAbs<10^10 by decide) (by decide)
   have c2:(69621:Int).natAbs<10^200:=Nat.lt_of_lt_of_le (show(69621:Int).natAbs<10^10 by decide) (by decide)
   have c3:(8:Int).natAbs<10^200:=Nat.lt_of_lt_of_le (show(8:Int).natAbs<10^10 by decide) (by decide)
   have e1:eC (.int a) (.int 5)=some (.int (a^5)):=jT (by decide) (by decide) p1
   have e2:eI (.int 48271) (.int b)=some (.int (48271*b)):=hZ c1 p2
   have e3: ∀i:Int,bv (.int i) (.int 2147483647)=some (.int (i % 2147483647)):=λi=>cY (by decide)
   have e4: ∀i:Int,bv (.int i) (.int 2147483629)=some (.int (i % 2147483629)):=λi=>cY (by decide)
   have e5:eI (.int A) (.int 69621)=some (.int (A*69621)):=hZ p3 c2
   have e6: ∀i:Int,iS (.int i) (.int 8)=some (.int (i / 8)):=λi=>kJ (by decide) c3
   simp[dE,pS,nS,mJ,aM,ay,dC,bq,ao,aQ,cV,ai,au,ja,jh,fM,pN,nw,pX,hb,skip,e1,e2,e3,e4,fk,cr,pu,db,i4,h9,yY,aI,lS,hA,e5,e6,cY hm]
  ·exact Nat.lt_of_lt_of_le (show A.natAbs<10^10 by omega) (by decide)
theorem aA {t u:FS}{ρ ρ':aL}(h:t ρ=.nx ρ'):ay t u ρ=u ρ':=by unfold ay;rw[h]
theorem iD {t u:FS}{ρ ρ':aL}{d:D}(h:t ρ=.rt d ρ'):ay t u ρ=.rt d ρ':=by unfold ay;rw[h]
abbrev nI(i:Nat):D:=.int (i:Int)
abbrev jN(ns:List Int):D:=.scr (ns.map D.int)
theorem ve(n:Nat):sK 0 n=(List.range n).map nI:=by
 unfold sK;simp
theorem jc {n j:Nat}(h:j<n):pX n (j:Int)=some j:=by
 unfold pX;rw[if_pos (by omega),if_pos (by omega)];simp
theorem vO(ns:List Int)(k:Nat): ∃c,gI [jN ns,nI k]=some (.int c):=by
 by_cases h:k<ns.length
 ·refine⟨ns[k],?_⟩
  simp[gI,fO,oF,dX,ay,dC,bq,ao,ai,aj,aa,ah,bR,rL,pN,h,aI,aQ,nw,jc (show k<(ns.map D.int).length by simpa using h)]
  simp[jc h,h]
 ·refine⟨0,?_⟩
  simp[gI,fO,oF,dX,ay,dC,bq,ao,ai,aj,aa,ah,bR,rL,pN,h,aI,skip,au]
theorem o7(ns:List Int)(k:D)(c:D): ∀(l:List Nat),(∀i∈l,i<ns.length/\i<1000)-> ∀(x:Int) (s4:Sl),0<=x->x<2147483647-> ∃(x':Int) (s4':Sl),0<=x'/\x'<2147483647/\
 fz (gN 4) (ba 3 (ao bv (ao bp (ao bp (ao eC (ai 3) (au (.int 5))) (ao bv (ao aQ (ai 0) (ai 4)) (au (.int 2147483629)))) (ao eI (au (.int 31)) (ai 4))) (au (.int 2147483647)))) (l.map nI) [.v (jN ns),.v k,.v c,.v (.int x),s4]=.nx [.v (jN ns),.v k,.v c,.v (.int x'),s4']
 | [],_,x,s4,h1,h2=>⟨x,s4,h1,h2,rfl⟩
 |i::l,hl,x,s4,h1,h2=>by
  obtain⟨hi,hi2⟩:=hl i (by simp)
  have e1:eC (.int x) (.int 5)=some (.int (x^5)):=jT (by decide) (by decide) (Nat.lt_of_lt_of_le (show x.natAbs<10^10 by omega) (by decide))
  have e2:eI (.int 31) (nI i)=some (.int (31*i)):=hZ (Nat.lt_of_lt_of_le (show(31:Int).natAbs<10^10 by decide) (by decide)) (Nat.lt_of_lt_of_le (show(i:Int).natAbs<10^10 by omega) (by decide))
  have e3: ∀i:Int,bv (.int i) (.int 2147483647)=some (.int (i % 2147483647)):=λi=>cY (by decide)
  have e4: ∀i:Int,bv (.int i) (.int 2147483629)=some (.int (i % 2147483629)):=λi=>cY (by decide)
  obtain⟨y1,y2⟩:=cG (i:=x^5+ns[i] % 2147483629+31*i) (m:=2147483647) (by decide)
  obtain⟨x',s4',g1,g2,g3⟩:=o7 ns k c l (λj hj=>hl j (by simp[hj])) _ (.v (nI i)) y1 y2
  refine⟨x',s4',g1,g2,?_⟩
  rw[<-g3];simp[fz,gN,ba,ao,ai,au,e1,e2,e3,e4,aQ,nw,jc (show i<(ns.map D.int).length by simpa using hi),jc hi,hi,fk]
theorem yP(ns:List Int)(k:Nat)(hk:k<=1000)(hn:ns.length<=63): ∃a b,uj [jN ns,nI k]=some (.lst (aM a b))/\Bag 1 a b:=by
 obtain⟨c,hc⟩:=vO ns k
 have p1:eC (.int 10) (.int 60)=some (.int (10^60)):=jT (by decide) (by decide) (by decide)
 have p2:eC (.int 10) (.int 18)=some (.int (10^18)):=jT (by decide) (by decide) (by decide)
 have q60:((10:Int)^60).natAbs<10^200:=by decide
 have q120:((10:Int)^60*10^60).natAbs<10^200:=by decide
 have m1:eI (.int (10^60)) (.int (10^60))=some (.int (10^60*10^60)):=hZ q60 q60
 have m2:eI (.int (10^60*10^60)) (.int (10^60))=some (.int (10^60*10^60*10^60)):=hZ q120 q60
 have m3:eI (.int 7919) (nI k)=some (.int (7919*k)):=hZ (Nat.lt_of_lt_of_le (show(7919:Int).natAbs<10^10 by decide) (by decide)) (Nat.lt_of_lt_of_le (show(k:Int).natAbs<10^10 by omega) (by decide))
 generalize hA:(if c<0 then -c else c) % (10^60*10^60*10^60)=A
 have hA':0<=A/\A<10^60*10^60*10^60:=by rw[<-hA];exact cG (by decide)
 have s1:ba 2 (ao bv (aj pJ (aa (aj (nF 2 gI) (aa (ai 0) (aa (ai 1) (ah)))) (ah))) (ao eI (ao eI (ao eC (au (.int 10)) (au (.int 60))) (ao eC (au (.int 10)) (au (.int 60)))) (ao eC (au (.int 10)) (au (.int 60))))) [.v (jN ns),.v (nI k),.no,.no,.no]=.nx [.v (jN ns),.v (nI k),.v (.int A),.no,.no]:=by
  have m4: ∀i:Int,bv (.int i) (.int (10^60*10^60*10^60))=some (.int (i % (10^60*10^60*10^60))):=λi=>cY (by decide)
  unfold ba;have:ao bv (aj pJ (aa (aj (nF 2 gI) (aa (ai 0) (aa (ai 1) (ah)))) (ah))) (ao eI (ao eI (ao eC (au (.int 10)) (au (.int 60))) (ao eC (au (.int 10)) (au (.int 60)))) (ao eC (au (.int 10)) (au (.int 60)))) [.v (jN ns),.v (nI k),.no,.no,.no]=some (.int A):=by
   have ec:aj (nF 2 gI) (aa (ai 0) (aa (ai 1) ah)) [.v (jN ns),.v (nI k),.no,.no,.no]=some (.int c):=hc
   simp only[ao,aj,aa,ah,au,Option.bind_some,p1,m1,m2,pJ];have ec':((ai 0 [.v (jN ns),.v (nI k),.no,.no,.no]).bind λd=>((ai 1 [.v (jN ns),.v (nI k),.no,.no,.no]).bind λd=>(some []).map λr=>d::r).map λr=>d::r).bind (nF 2 gI)=some (.int c):=hc
   rw[ec'];simp only[Option.bind_some,Option.map_some,m4,pJ,hA]
  rw[this];rfl
 have r0:dX 5 [jN ns,nI k]=[.v (jN ns),.v (nI k),.no,.no,.no]:=rfl
 unfold uj fO uk;rw[r0,aA s1];have hA180:A.natAbs<10^180:=by
  have:(10:Int)^60*10^60*10^60=((10^180:Nat):Int):=by decide
  rw[this] at hA';omega
 by_cases hb:(10:Int)^18<=A
 ·refine⟨A,0,?_,⟨hA'.1,hA180,by decide,by decide,λz=>absurd rfl z⟩⟩
  simp only[ay,dC,bq,ao,ai,List.getElem?_cons_succ,List.getElem?_cons_zero,Option.bind_some,au,p2,rA,pN,decide_eq_true hb,aI,kf,aa,ah,Option.map_some];rw[dW (by simp)]
 ·generalize hx:(A+7919*(k:Int)+17) % 2147483647=x
  have hx':0<=x/\x<2147483647:=by rw[<-hx];exact cG (by decide)
  have m4:bv (.int (A+7919*(k:Int)+17)) (.int 2147483647)=some (.int x):=by rw[cY (by decide),hx]
  have hr:dR (aa (aj i7 (aa (aj bR (aa (ai 0) (ah))) (aa (au (.int 9)) (ah)))) (ah)) [.v (jN ns),.v (nI k),.v (.int A),.v (.int x),.no]=some ((List.range (min ns.length 9)).map nI):=by
   rw[pc];simp only[aj,aa,ah,ai,au,List.getElem?_cons_zero,Option.bind_some,Option.map_some,bR,i7,List.length_map];have:(if(9:Int)<(ns.length:Int) then(9:Int) else(ns.length:Int))=((min ns.length 9:Nat):Int):=by split<;>omega
   rw[this,pj (by omega),ve,Int.toNat_natCast]
  obtain⟨x',s4',g1,g2,g3⟩:=o7 ns (nI k) (.int A) (List.range (min ns.length 9)) (λi hi=>by have:=List.mem_range.mp hi;omega) x .no hx'.1 hx'.2
  refine⟨x',1,?_,⟨g1,Nat.lt_of_lt_of_le (show x'.natAbs<10^10 by omega) (by decide),by decide,by decide,λ_=>by omega⟩⟩
  have f1:iK (cL (dR (aa (aj i7 (aa (aj bR (aa (ai 0) (ah))) (aa (au (.int 9)) (ah)))) (ah)))) (gN 4) (ba 3 (ao bv (ao bp (ao bp (ao eC (ai 3) (au (.int 5))) (ao bv (ao aQ (ai 0) (ai 4)) (au (.int 2147483629)))) (ao eI (au (.int 31)) (ai 4))) (au (.int 2147483647)))) [.v (jN ns),.v (nI k),.v (.int A),.v (.int x),.no]=.nx [.v (jN ns),.v (nI k),.v (.int A),.v (.int x'),s4']:=by
   unfold iK cL;rw[hr];exact g3
  have i1:dC (bq (ao yQ (ai 2) (ao eC (au (.int 10)) (au (.int 18))))) (aI (eG (aa (ai 2) (aa (au (.int 0)) (ah))))) (skip) [.v (jN ns),.v (nI k),.v (.int A),.no,.no]=.nx [.v (jN ns),.v (nI k),.v (.int A),.no,.no]:=by
   simp only[dC,bq,ao,ai,List.getElem?_cons_succ,List.getElem?_cons_zero,Option.bind_some,au,p2,rA,pN,decide_eq_false hb,skip]
  have i2:ba 3 (ao bv (ao bp (ao bp (ai 2) (ao eI (au (.int 7919)) (ai 1))) (au (.int 17))) (au (.int 2147483647))) [.v (jN ns),.v (nI k),.v (.int A),.no,.no]=.nx [.v (jN ns),.v (nI k),.v (.int A),.v (.int x),.no]:=by
   simp only[ba,ao,ai,List.getElem?_cons_succ,List.getElem?_cons_zero,Option.bind_some,au,m3,fk,m4,List.set_cons_succ,List.set_cons_zero]
  rw[aA i1,aA i2,aA f1];simp only[aI,kf,aa,ah,ai,au,List.getElem?_cons_succ,List.getElem?_cons_zero,Option.bind_some,Option.map_some];rw[dW (by simp)]
theorem bu {i n:Nat}{M:List D->List D->Option (D×List D)}{fs:GA}{ρ ρ1:aL}{b0 bs ds bs':List D}{d:D}(h0:i4 i ρ=some b0)(h1:fs ρ=some (ds,ρ1))(h2:i4 i ρ1=some bs)(h3:ds.length=n)(h4:M bs ds=some (d,bs')):aN i n M fs ρ=some (d,h9 i bs' ρ1):=by
 unfold aN;rw[h0];dsimp only;rw[h1];dsimp only;rw[h2];dsimp only;rw[if_pos h3,h4]
theorem g9 {f:GE}{fs:GA}{ρ ρ1 ρ2:aL}{d:D}{ds:List D}(h1:f ρ=some (d,ρ1))(h2:fs ρ1=some (ds,ρ2)):dl f fs ρ=some (d::ds,ρ2):=by
 unfold dl bE;rw[h1];dsimp only[Option.bind];rw[h2];rfl
theorem cC {f:FA}{ρ:aL}{ds:List D}(h:f ρ=some ds):cL f ρ=some (ds,ρ):=by unfold cL;rw[h];rfl
theorem gK {f:FE}{ρ:aL}{d:D}(h:f ρ=some d):pu f ρ=some (d,ρ):=by unfold pu;rw[h];rfl
theorem ni {α β:Type}(f:α->β): ∀(l:List α) (j:Nat),(l.map f).eraseIdx j=(l.eraseIdx j).map f
 | [],_=>rfl
 |_::_,0=>rfl
 |x::l,j+1=>by simp[ni f l j]
theorem lU {α:Type}: ∀(l:List α) (j:Nat) (h:j<l.length),(l[j]::l.eraseIdx j).Perm l
 |_::_,0,_=>.refl _
 |x::l,j+1,h=>by
  have ih:=lU l j (by simpa using h)
  exact(List.Perm.swap _ _ _).trans (ih.cons x)
theorem jE: ∀r:List Nat,dh (r.map nI)=0
 | []=>by simp[dh]
 |a::r=>by
  rw[List.map_cons];unfold dh;rw[jE r];simp[dw]
theorem ur(r:List Nat):dw (.lst (r.map nI))<=32:=by unfold dw;rw[jE];omega
theorem um(r:List Nat):dw (.tup (r.map nI))<=32:=by unfold dw;rw[jE];omega
abbrev Bl:FS->Nat->FS:=λb n=>oh (bq (ao kZ (cV 2) (eG (ah)))) b n
abbrev ny:FS:=eL (aN 3 1 jI (dl (aN 2 1 mW (dl (aN 0 1 dE (cL (aa (aj bR (aa (cV 2) (ah))) (ah)))) (cL (ah)))) (cL (ah))))
theorem zt(n:D)(bg:List D)(left found:List Nat):bq (ao kZ (cV 2) (eG (ah))) [.arg bg,.v n,.own (left.map nI),.own (found.map nI)]=some (!left.isEmpty):=by
 have h0:eG ah [.arg bg,.v n,.own (left.map nI),.own (found.map nI)]=some (.lst []):=by
  rw[kf];simp only[ah,Option.bind_some];exact dW (by simp)
 unfold bq ao;rw[h0];simp only[cV,List.getElem?_cons_succ,List.getElem?_cons_zero,Option.bind_some];rw[kn (ur left)];cases left with
 |nil=>simp[pN,di,cW]
 |cons x r=>simp[pN,di,cW]
theorem tz(n:D){N:Nat}{a b:Int}(B:Bag N a b)(hN:N<=1000000000)(left found:List Nat)(h0:0<left.length)(h1:left.length<=100)(h2:found.length<=100):
 ∃(j:Nat) (hj:j<left.length) (a' b':Int),ny [.arg (aM a b),.v n,.own (left.map nI),.own (found.map nI)]=.nx [.arg (aM a' b'),.v n,.own ((left.eraseIdx j).map nI),.own ((found++[left[j]]).map nI)]/\Bag (N+1) a' b':=by
 obtain⟨d,a',b',e,B',d0,d1⟩:=iI (m:=left.length) B hN (by omega) (Nat.lt_of_lt_of_le (show(left.length:Int).natAbs<10^10 by omega) (by decide))
 obtain⟨j,rfl⟩: ∃j:Nat,d=(j:Int):=⟨d.toNat,by omega⟩
 have hj:j<left.length:=by omega
 refine⟨j,hj,a',b',?_,B'⟩
 have e2:mW (left.map nI) [.int (j:Int)]=some (nI left[j],(left.eraseIdx j).map nI):=by
  rw[wg,dW (by simp;omega)]
  simp only[Option.bind_some];rw[jc (by simpa using hj)]
  simp[hj,ni]
 have e3:jI (found.map nI) [nI left[j]]=some (.non,(found++[left[j]]).map nI):=by
  rw[rT,m8 (by simp;omega)];simp
 have g:aN 0 1 dE (cL (aa (aj bR (aa (cV 2) (ah))) (ah))) [.arg (aM a b),.v n,.own (left.map nI),.own (found.map nI)]=some (nI j,[.arg (aM a' b'),.v n,.own (left.map nI),.own (found.map nI)]):=by
  simp[aN,i4,cL,aa,aj,cV,ah,bR,e,h9]
 have g2:aN 2 1 mW (dl (aN 0 1 dE (cL (aa (aj bR (aa (cV 2) (ah))) (ah)))) (cL (ah))) [.arg (aM a b),.v n,.own (left.map nI),.own (found.map nI)]=some (nI left[j],[.arg (aM a' b'),.v n,.own ((left.eraseIdx j).map nI),.own (found.map nI)]):=by
  refine(bu (i:=2) (n:=1) (b0:=left.map nI) (ds:=[nI j]) (ρ1:=[.arg (aM a' b'),.v n,.own (left.map nI),.own (found.map nI)]) rfl (g9 g rfl) rfl rfl e2).trans rfl
 have g3:aN 3 1 jI (dl (aN 2 1 mW (dl (aN 0 1 dE (cL (aa (aj bR (aa (cV 2) (ah))) (ah)))) (cL (ah)))) (cL (ah))) [.arg (aM a b),.v n,.own (left.map nI),.own (found.map nI)]=some (.non,[.arg (aM a' b'),.v n,.own ((left.eraseIdx j).map nI),.own ((found++[left[j]]).map nI)]):=by
  refine(bu (i:=3) (n:=1) (b0:=found.map nI) (ds:=[nI left[j]]) (ρ1:=[.arg (aM a' b'),.v n,.own ((left.eraseIdx j).map nI),.own (found.map nI)]) rfl (g9 g2 rfl) rfl rfl e3).trans rfl
 unfold ny eL;rw[g3]
theorem xu(n:D): ∀(f:Nat) (left found:List Nat) (N:Nat) (a b:Int),left.length<f->left.length<=50->found.length+left.length<=100->Bag N a b->N+left.length<=1000000000->
 ∃(o:List Nat) (a' b':Int),Bl ny f [.arg (aM a b),.v n,.own (left.map nI),.own (found.map nI)]=.nx [.arg (aM a' b'),.v n,.own [],.own ((found++o).map nI)]/\o.Perm left/\Bag (N+left.length) a' b'
 |0,left,found,N,a,b,h,_,_,_,_=>absurd h (Nat.not_lt_zero _)
 |f+1,left,found,N,a,b,h,h1,h2,B,hN=>by
  unfold Bl oh;rw[zt];cases e:left.isEmpty with
  |true=>
   have:left=[]:=by simpa using e
   subst this;exact⟨[],a,b,by simp,.refl _,by simpa using B⟩
  |false=>
   have h0:0<left.length:=by cases left with
    |nil=>cases e
    |cons x r=>simp
   obtain⟨j,hj,a1,b1,e1,B1⟩:=tz n B (by omega) left found h0 (by omega) (by omega)
   have hl:(left.eraseIdx j).length=left.length-1:=by rw[List.length_eraseIdx];simp[hj]
   obtain⟨o,a2,b2,e2,p,B2⟩:=xu n f (left.eraseIdx j) (found++[left[j]]) (N+1) a1 b1 (by omega) (by omega) (by simp;omega) B1 (by omega)
   refine⟨left[j]::o,a2,b2,?_,?_,?_⟩
   ·simp only[Bool.not_false]
    rw[e1];dsimp only;have:oh (bq (ao kZ (cV 2) (eG ah))) ny f=Bl ny f:=rfl
    rw[this,e2];simp
   ·exact(p.cons _).trans (lU left j hj)
   ·rw[show N+left.length=N+1+(left.eraseIdx j).length by omega];exact B2
structure Ord(n:Nat)(r:List Nat):Prop where
 perm:r.Perm (List.range n)
theorem Ord.len {n:Nat}{r:List Nat}(o:Ord n r):r.length=n:=by rw[o.perm.length_eq];simp
theorem Ord.lt {n:Nat}{r:List Nat}(o:Ord n r){v:Nat}(h:v∈r):v<n:=by simpa using o.perm.mem_iff.mp h
theorem Ord.has {n:Nat}{r:List Nat}(o:Ord n r){v:Nat}(h:v<n):v∈r:=o.perm.mem_iff.mpr (by simpa using h)
theorem Ord.nd {n:Nat}{r:List Nat}(o:Ord n r):r.Nodup:=o.perm.nodup_iff.mpr List.nodup_range
theorem xl {n:Nat}(h:n<=1000)(f:FE)(ρ:aL)(e:f ρ=some (nI n)):vt f ρ=some (.lst ((List.range n).map nI)):=by
 unfold vt wQ;rw[e];simp only[Option.bind_some];rw[if_pos (by omega),ve];rfl
theorem pA {N:Nat}{a b:Int}(B:Bag N a b){n:Nat}(hn:n<=12)(hN:N<=900000000): ∃(o:List Nat) (a' b':Int),h8 (aM a b) [nI n]=some (.lst (o.map nI),aM a' b')/\Ord n o/\Bag (N+n) a' b':=by
 obtain⟨o,a',b',e,p,B'⟩:=xu (nI n) 16 (List.range n) [] N a b (by simp;omega) (by simp;omega) (by simp;omega) B (by simp;omega)
 refine⟨o,a',b',?_,⟨p⟩,by simpa using B'⟩
 have r0:mJ 4 (aM a b) [nI n]=[.arg (aM a b),.v (nI n),.no,.no]:=rfl
 have s1:eS 2 (vt (ai 1)) [.arg (aM a b),.v (nI n),.no,.no]=.nx [.arg (aM a b),.v (nI n),.own ((List.range n).map nI),.no]:=by
  unfold eS;rw[xl (n:=n) (by omega) (ai 1) _ rfl]
  rfl
 have s2:eS 3 (eG (ah)) [.arg (aM a b),.v (nI n),.own ((List.range n).map nI),.no]=.nx [.arg (aM a b),.v (nI n),.own ((List.range n).map nI),.own []]:=by
  unfold eS;rw[kf];simp only[ah,Option.bind_some];rw[dW (by simp)]
  rfl
 unfold h8 pS pD;rw[r0,aA s1,aA s2];have e':oh (bq (ao kZ (cV 2) (eG (ah)))) ny 16 [.arg (aM a b),.v (nI n),.own ((List.range n).map nI),.own []]=.nx [.arg (aM a' b'),.v (nI n),.own [],.own (o.map nI)]:=e
 rw[aA e'];simp[vg,tq,lS]
theorem az {F:D->D->Option D}{f g:FE}{ρ:aL}{x y:D}(h1:f ρ=some x)(h2:g ρ=some y):ao F f g ρ=F x y:=by unfold ao;rw[h1,Option.bind_some,h2,Option.bind_some]
theorem rn {F:D->D->Option D}{f g:GE}{ρ ρ1 ρ2:aL}{x y d:D}(h1:f ρ=some (x,ρ1))(h2:g ρ1=some (y,ρ2))(h3:F x y=some d):lE F f g ρ=some (d,ρ2):=by
 unfold lE bE;rw[h1];dsimp only[Option.bind];rw[h2];dsimp only[Option.bind];rw[h3];rfl
theorem cg {i:Nat}{f:FE}{ρ:aL}{d:D}(h:f ρ=some d):ba i f ρ=.nx (ρ.set i (.v d)):=by unfold ba;rw[h]
theorem gG {i:Nat}{f:GE}{ρ ρ1:aL}{d:D}(h:f ρ=some (d,ρ1)):gA i f ρ=.nx (ρ1.set i (.v d)):=by unfold gA;rw[h]
theorem vH {i:Nat}{f:GE}{ρ ρ1:aL}{ds:List D}(h:f ρ=some (.lst ds,ρ1)):qr i f ρ=.nx (ρ1.set i (.own ds)):=by unfold qr;rw[h];rfl
theorem jZ {i:Nat}{f:FE}{ρ:aL}{ds:List D}(h:f ρ=some (.lst ds)):eS i f ρ=.nx (ρ.set i (.own ds)):=by unfold eS;rw[h];rfl
theorem bO {f:FA}{ρ:aL}{ds:List D}(h:f ρ=some ds)(h2:ds.length<=1000):aZ f ρ=some (.tup ds):=by
 rw[wU,h,Option.bind_some,dW h2]
theorem oG {f:FA}{ρ:aL}{ds:List D}(h:f ρ=some ds)(h2:ds.length<=1000):eG f ρ=some (.lst ds):=by
 rw[kf,h,Option.bind_some,dW h2]
theorem am {f:FE}{fs:FA}{ρ:aL}{d:D}{ds:List D}(h1:f ρ=some d)(h2:fs ρ=some ds):aa f fs ρ=some (d::ds):=by unfold aa;rw[h1,h2];rfl
theorem bL {F:List D->Option D}{f:FA}{ρ:aL}{ds:List D}(h:f ρ=some ds):aj F f ρ=F ds:=by unfold aj;rw[h];rfl
theorem xH {r:List Nat}{c:Nat}(h:c<r.length):nw (r.map nI) (c:Int)=some (nI (r.getD c 0)):=wd (by rw[List.getElem?_map,List.getElem?_eq_getElem h];simp[List.getD,h])
theorem uS {r:List Nat}{c:Nat}(h:c<r.length):aQ (.lst (r.map nI)) (nI c)=some (nI (r.getD c 0)):=xH h
theorem fG {r:List Nat}{c:Nat}(h:c<r.length):aQ (.tup (r.map nI)) (nI c)=some (nI (r.getD c 0)):=xH h
theorem i0(a b:Nat):di (nI a) (nI b)=decide (a=b):=by
 rw[jh];rw[Bool.eq_iff_iff];simp;omega
theorem yF(a b:Nat):bp (nI a) (nI b)=some (nI (a+b)):=by rw[fk];simp
theorem sf(a:Nat):bp (nI a) (.int 1)=some (nI (a+1)):=by rw[fk];simp
theorem u8 {a n:Nat}(h:0<n):bv (nI a) (nI n)=some (nI (a % n)):=by rw[cY (by omega)];rfl
theorem j9 {i:Nat}{fi:FE}{d:D}{ρ:aL}{bs:List D}{j:Nat}(h1:i4 i ρ=some bs)(h2:fi ρ=some (nI j))(h3:j<bs.length):db i fi d ρ=some (h9 i (bs.set j d) ρ):=by
 unfold db;rw[h1];dsimp only;rw[h2];dsimp only;rw[jc h3]
theorem pd(x:List Nat)(j v:Nat):(x.map nI).set j (nI v)=(x.set j v).map nI:=by rw[List.map_set]
def qb(n:Nat)(r x:List Nat)(c:Nat):List Nat:=if x.getD c 0=r.getD c 0 then(x.set c (x.getD ((c+1) % n) 0)).set ((c+1) % n) (x.getD c 0) else x
abbrev rY:FS:=ay (ba 7 (ao bv (ao bp (ai 6) (au (.int 1))) (ai 1)))
 (dC (bq (ao iU (ao aQ (cV 5) (ai 6)) (ao aQ (ai 4) (ai 6)))) (cr (gT 2 (cQ (db 5 (ai 6)) (cQ (db 5 (ai 7)) (iQ)))) (pu (aZ (aa (ao aQ (cV 5) (ai 7)) (aa (ao aQ (cV 5) (ai 6)) (ah)))))) (skip))
theorem tS(bg:List D)(p q:D)(n:Nat)(r x:List Nat)(c:Nat)(s7:Sl)(hr:r.length=n)(hx:x.length=n)(hc:c<n):
 rY [.arg bg,.v (nI n),.v p,.v q,.v (.lst (r.map nI)),.own (x.map nI),.v (nI c),s7]=.nx [.arg bg,.v (nI n),.v p,.v q,.v (.lst (r.map nI)),.own ((qb n r x c).map nI),.v (nI c),.v (nI ((c+1) % n))]:=by
 have hd:(c+1) % n<n:=Nat.mod_lt _ (by omega)
 have e1:ba 7 (ao bv (ao bp (ai 6) (au (.int 1))) (ai 1)) [.arg bg,.v (nI n),.v p,.v q,.v (.lst (r.map nI)),.own (x.map nI),.v (nI c),s7]=.nx [.arg bg,.v (nI n),.v p,.v q,.v (.lst (r.map nI)),.own (x.map nI),.v (nI c),.v (nI ((c+1) % n))]:=
  (cg ((az (az (x:=nI c) (y:=.int 1) rfl rfl |>.trans (sf c)) (y:=nI n) rfl).trans (u8 (by omega)))).trans rfl
 unfold rY;rw[aA e1];have i1:ao aQ (cV 5) (ai 6) [.arg bg,.v (nI n),.v p,.v q,.v (.lst (r.map nI)),.own (x.map nI),.v (nI c),.v (nI ((c+1) % n))]=some (nI (x.getD c 0)):=(az (x:=.lst (x.map nI)) (y:=nI c) rfl rfl).trans (uS (by omega))
 have i2:ao aQ (ai 4) (ai 6) [.arg bg,.v (nI n),.v p,.v q,.v (.lst (r.map nI)),.own (x.map nI),.v (nI c),.v (nI ((c+1) % n))]=some (nI (r.getD c 0)):=(az (x:=.lst (r.map nI)) (y:=nI c) rfl rfl).trans (uS (by omega))
 have i3:ao aQ (cV 5) (ai 7) [.arg bg,.v (nI n),.v p,.v q,.v (.lst (r.map nI)),.own (x.map nI),.v (nI c),.v (nI ((c+1) % n))]=some (nI (x.getD ((c+1) % n) 0)):=(az (x:=.lst (x.map nI)) (y:=nI ((c+1) % n)) rfl rfl).trans (uS (by omega))
 unfold dC bq;rw[az i1 i2,ja (by rw[fM];omega),i0]
 by_cases e:x.getD c 0=r.getD c 0
 ·rw[decide_eq_true e]
  simp only[pN];unfold cr;rw[gK (bO (am i3 (am i1 rfl)) (by simp))]
  simp only[gT,List.length_cons,List.length_nil,cQ];unfold qb;rw[if_pos e];rw[j9 (bs:=x.map nI) (j:=c) rfl rfl (by simp;omega)]
  simp only[Option.bind_some];rw[j9 (bs:=(x.map nI).set c (nI (x.getD ((c+1) % n) 0))) (j:=(c+1) % n) rfl rfl (by simp;omega)]
  simp only[Option.bind_some,iQ,pd];rfl
 ·rw[decide_eq_false e]
  simp only[pN,skip];unfold qb;rw[if_neg e]
theorem swap_perm(x:List Nat)(c d:Nat)(hc:c<x.length)(hd:d<x.length):((x.set c (x.getD d 0)).set d (x.getD c 0)).Perm x:=by
 have e:(x.toArray.swap c d (by simpa using hc) (by simpa using hd)).toList=(x.set c (x.getD d 0)).set d (x.getD c 0):=by
  simp[Array.toList_swap,List.getD,hc,hd]
 rw[<-e];have:=Array.swap_perm (xs:=x.toArray) (i:=c) (j:=d) (by simpa using hc) (by simpa using hd)
 simpa using (Array.perm_iff_toList_perm.mp this)
theorem ql {x:List Nat}(h:x.Nodup){i j:Nat}(hi:i<x.length)(hj:j<x.length)(e:x.getD i 0=x.getD j 0):i=j:=by
 have:x[i]=x[j]:=by simpa [List.getD,hi,hj] using e
 exact(List.getElem_inj h).mp this
theorem Ord.fix {n:Nat}{r x:List Nat}(or:Ord n r)(ox:Ord n x){c:Nat}(hc:c<n)(hn:2<=n):Ord n (qb n r x c)/\((∀i,i<c->x.getD i 0≠r.getD i 0)-> ∀i,i<c+1->(qb n r x c).getD i 0≠r.getD i 0):=by
 have lx:=ox.len
 have lr:=or.len
 have hd:(c+1) % n<n:=Nat.mod_lt _ (by omega)
 have gx: ∀i,i<n->x.getD i 0=x[i]! :=λi hi=>by simp[List.getD,lx,hi]
 unfold qb
 by_cases e:x.getD c 0=r.getD c 0
 ·rw[if_pos e]
  have ne:(c+1) % n≠c:=by
   by_cases h:c+1<n
   ·rw[Nat.mod_eq_of_lt h];omega
   ·rw[show c+1=n by omega,Nat.mod_self];omega
  refine⟨⟨(swap_perm x c _ (by omega) (by omega)).trans ox.perm⟩,λh i hi=>?_⟩
  have g:((x.set c (x.getD ((c+1) % n) 0)).set ((c+1) % n) (x.getD c 0)).getD i 0=if i=(c+1) % n then x.getD c 0 else if i=c then x.getD ((c+1) % n) 0 else x.getD i 0:=by
   simp only[List.getD,List.getElem?_set,List.length_set]
   by_cases h1:(c+1) % n=i
   ·subst h1;simp[lx,hd]
   ·rw[if_neg h1,if_neg (Ne.symm h1)]
    by_cases h2:c=i
    ·subst h2;simp[lx,hc]
    ·rw[if_neg h2,if_neg (Ne.symm h2)]
  rw[g]
  by_cases h1:i=(c+1) % n
  ·rw[if_pos h1,e]
   intro z;have:=ql or.nd (by omega) (by omega) z
   omega
  ·rw[if_neg h1]
   by_cases h2:i=c
   ·rw[if_pos h2,h2,<-e]
    intro z;have:=ql ox.nd (by omega) (by omega) z
    omega
   ·rw[if_neg h2];exact h i (by omega)
 ·rw[if_neg e]
  refine⟨ox,λh i hi=>?_⟩
  by_cases hic:i=c
  ·subst hic;exact e
  ·exact h i (by omega)
theorem xr(bg:List D)(p q:D){n:Nat}{r:List Nat}(or:Ord n r)(hn:2<=n): ∀(k c:Nat) (x:List Nat) (s6 s7:Sl),c+k=n->Ord n x->(∀i,i<c->x.getD i 0≠r.getD i 0)->
 ∃(x':List Nat) (s6' s7':Sl),fz (gN 6) rY ((List.range' c k).map nI) [.arg bg,.v (nI n),.v p,.v q,.v (.lst (r.map nI)),.own (x.map nI),s6,s7]=.nx [.arg bg,.v (nI n),.v p,.v q,.v (.lst (r.map nI)),.own (x'.map nI),s6',s7']/\Ord n x'/\ ∀i,i<n->x'.getD i 0≠r.getD i 0
 |0,c,x,s6,s7,h,ox,hi=>⟨x,s6,s7,rfl,ox,λi h'=>hi i (by omega)⟩
 |k+1,c,x,s6,s7,h,ox,hi=>by
  obtain⟨o1,o2⟩:=or.fix ox (c:=c) (by omega) hn
  obtain⟨x',a,b,e,o3,o4⟩:=xr bg p q or hn k (c+1) (qb n r x c) (.v (nI c)) (.v (nI ((c+1) % n))) (by omega) o1 (o2 hi)
  refine⟨x',a,b,?_,o3,o4⟩
  rw[List.range'_succ,List.map_cons];unfold fz;have:gN 6 (nI c) [.arg bg,.v (nI n),.v p,.v q,.v (.lst (r.map nI)),.own (x.map nI),s6,s7]=some [.arg bg,.v (nI n),.v p,.v q,.v (.lst (r.map nI)),.own (x.map nI),.v (nI c),s7]:=rfl
  rw[this];dsimp only;rw[tS bg p q n r x c s7 or.len ox.len (by omega)]
  exact e
theorem fQ {α:Type}{g:FG}{f:FE}{ρ0:aL}{h o:α->D}: ∀(l:List α),(∀i∈l,∃ρ1,g (h i) ρ0=some ρ1/\f ρ1=some (o i))->dg g iV f ρ0 (l.map h)=some (l.map o)
 | [],_=>rfl
 |a::l,H=>by
  obtain⟨ρ1,h1,h2⟩:=H a (by simp)
  have ih:=fQ l λi hi=>H i (by simp[hi])
  rw[List.map_cons];unfold dg;rw[h1,Option.bind_some];simp only[iV,Option.bind_some,if_true,h2,ih];rfl
theorem fY {m:Nat}{gi:FA}{g:FG}{p:FT}{f:FE}{ρ:aL}{ds ys:List D}(h1:gi ρ=some ds)(h2:ds.length<=1000)(h3:dg g p f (ρ++List.replicate m .no) ds=some ys):bT m gi g p f ρ=some (.lst ys):=by
 rw[tK,h1,Option.bind_some,dW h2,Option.bind_some,h3];rfl
theorem v5: ∀n,2<=n->n<=6-> ∀b,1<=b->b<n->Ord n ((List.range n).map λi=>(i+b) % n):=by
 intro n h1 h2 b h3 h4;refine⟨?_⟩
 have: ∀n:_root_.Fin 7,∀b:_root_.Fin 7,((List.range n.val).map λi=>(i+b.val) % n.val).isPerm (List.range n.val)=true\/ ¬(b.val<n.val):=by decide
 rcases this ⟨n,by omega⟩ ⟨b,by omega⟩ with h|h
 ·exact List.isPerm_iff.mp h
 ·exact absurd h4 h
abbrev aH(r:List Nat):D:=.tup (r.map nI)
abbrev aC(r x:List Nat):D:=.tup [aH r,aH x]
structure Sq(n:Nat)(r x:List Nat):Prop where
 hr:Ord n r
 hx:Ord n x
 ne: ∀i,i<n->x.getD i 0≠r.getD i 0
theorem im {f:FA}{ρ:aL}{n:Nat}(h:f ρ=some [nI n])(hn:n<=1000):dR f ρ=some ((List.range n).map nI):=by
 rw[pc,h,Option.bind_some,pj (by omega),ve];rfl
theorem AZ {j:Int}(h:0<=j):D.int j=nI j.toNat:=by show D.int j=D.int (j.toNat:Int);rw[Int.toNat_of_nonneg h]
theorem Ae {n:Nat}{P:List D->Option D}{ds:List D}(h:ds.length=n):nF n P ds=P ds:=if_pos h
theorem gh {g:FG}{f:GE}{ρ ρ1 ρ2:aL}{d:D}(h1:f ρ=some (d,ρ1))(h2:g d ρ1=some ρ2):cr g f ρ=.nx ρ2:=by unfold cr;rw[h1];dsimp only;rw[h2];rfl
theorem ci {n:Nat}{P:List D->Option D}{fs:FA}{ρ:aL}{ds:List D}(h:fs ρ=some ds)(hl:ds.length=n):aj (nF n P) fs ρ=P ds:=(bL h).trans (Ae hl)
theorem td {F:List D->Option D}{fs:GA}{ρ ρ1:aL}{ds:List D}{d:D}(h:fs ρ=some (ds,ρ1))(h2:F ds=some d):kU F fs ρ=some (d,ρ1):=by unfold kU;rw[h];dsimp only[Option.bind];rw[h2];rfl
theorem cI {kd:Kd}{n:Nat}{t:FS}{ds:List D}{ρ:aL}{d:D}(h:t (dX n ds)=.rt d ρ):fO kd n t ds=some d:=by unfold fO;rw[h]
theorem aV {f:FE}{ρ:aL}{d:D}(h:f ρ=some d):aI f ρ=.rt d ρ:=by unfold aI;rw[h]
theorem zv {p:FT}{t u:FS}{ρ:aL}(h:p ρ=some false):dC p t u ρ=u ρ:=by unfold dC;rw[h]
theorem ie {p:FT}{t u:FS}{ρ:aL}(h:p ρ=some true):dC p t u ρ=t ρ:=by unfold dC;rw[h]
theorem yi {p q:FT}{ρ:aL}{b:Bool}(h1:p ρ=some false)(h2:q ρ=some b):mT p q ρ=some b:=by unfold mT;rw[h1];exact h2
theorem Ac {p q:FT}{ρ:aL}(h1:p ρ=some true):mT p q ρ=some true:=by unfold mT;rw[h1];rfl
theorem vy {p q:FT}{ρ:aL}{b:Bool}(h1:p ρ=some true)(h2:q ρ=some b):j5 p q ρ=some b:=by unfold j5;rw[h1];exact h2
theorem y8 {p q:FT}{ρ:aL}(h1:p ρ=some false):j5 p q ρ=some false:=by unfold j5;rw[h1];rfl
theorem vz {p q:FT}{ρ:aL}{a b:Bool}(h1:p ρ=some a)(h2:a=true->q ρ=some b)(h3:a=false->b=false):j5 p q ρ=some b:=by
 cases a with
 |true=>exact vy h1 (h2 rfl)
 |false=>rw[h3 rfl];exact y8 h1
theorem x8 {p:FT}{ρ:aL}{b:Bool}(h:p ρ=some b):uT p ρ=some (.bl b):=by unfold uT;rw[h];rfl
theorem jY {f:GE}{ρ ρ1:aL}{d:D}(h:f ρ=some (d,ρ1)):eL f ρ=.nx ρ1:=by unfold eL;rw[h]
theorem cA {f:FE}{ρ:aL}{b:Bool}(h:f ρ=some (.bl b)):bq f ρ=some b:=by unfold bq;rw[h];rfl
theorem lO {f:FE}{ρ:aL}{b:Bool}(h:f ρ=some (.bl b)):fx f ρ=some b:=by unfold fx;rw[h];rfl
theorem kG {p:FT}{ρ:aL}{b:Bool}(h:p ρ=some b):dz p ρ=some (!b):=by unfold dz;rw[h];rfl
theorem rV {x:D}(h:dw x<=32):kZ x x=some (.bl false):=by rw[kn h,j4];rfl
theorem wc {x:D}(h:dw x<=32):iU x x=some (.bl true):=by rw[ja h,j4]
theorem kP {g:FG}{b:FS}{d:D}{r:List D}{ρ ρ1 ρ2:aL}(h1:g d ρ=some ρ1)(h2:b ρ1=.nx ρ2):fz g b (d::r) ρ=fz g b r ρ2:=by
 show(match g d ρ with
  |none=>Out.no
  |some ρ1=>match b ρ1 with
   | .nx ρ2=>fz g b r ρ2
   | .ct ρ2=>fz g b r ρ2
   | .bk ρ2=>.nx ρ2
   | .rt d ρ2=>.rt d ρ2
   | .no=>.no)=_
 rw[h1];dsimp only;rw[h2]
theorem oD {f:GA}{g:FG}{b:FS}{ρ ρ1:aL}{ds:List D}(h:f ρ=some (ds,ρ1)):iK f g b ρ=fz g b ds ρ1:=by unfold iK;rw[h]
theorem jM {kd:Kd}{n:Nat}{t:FS}{ds:List D}{d:D}(h: ∃ρ,t (dX n ds)=.rt d ρ):fO kd n t ds=some d:=let⟨_,h⟩:=h;cI h
theorem xT {t u:FS}{ρ:aL}{d:D}(P:aL->Prop)(h: ∃ρ',t ρ=.nx ρ'/\P ρ')(hu: ∀ρ',P ρ'-> ∃ρ'',u ρ'=.rt d ρ''): ∃ρ'',ay t u ρ=.rt d ρ'':=by
 obtain⟨ρ',h1,h2⟩:=h
 obtain⟨ρ'',h3⟩:=hu ρ' h2
 exact⟨ρ'',(aA h1).trans h3⟩
theorem vC {f:GA}{g:FG}{b:FS}{ρ ρ1:aL}{ds:List D}{P:aL->Prop}(h:f ρ=some (ds,ρ1))(hl: ∃ρ',fz g b ds ρ1=.nx ρ'/\P ρ'): ∃ρ',iK f g b ρ=.nx ρ'/\P ρ':=by
 obtain⟨ρ',h1,h2⟩:=hl
 exact⟨ρ',(oD h).trans h1,h2⟩
theorem rN {g:FG}{b:FS}{P:aL->Prop}: ∀(l:List D),(∀d∈l,∀ρ,P ρ-> ∃ρ1 ρ2,g d ρ=some ρ1/\b ρ1=.nx ρ2/\P ρ2)-> ∀ρ,P ρ-> ∃ρ',fz g b l ρ=.nx ρ'/\P ρ'
 | [],_,ρ,p=>⟨ρ,rfl,p⟩
 |d::l,h,ρ,p=>by
  obtain⟨ρ1,ρ2,h1,h2,p2⟩:=h d (by simp) ρ p
  obtain⟨ρ',e,p'⟩:=rN l (λd' hd=>h d' (by simp[hd])) ρ2 p2
  exact⟨ρ',(kP h1 h2).trans e,p'⟩
theorem vp(i:Int){n:Nat}(h:0<n):(i % (n:Int)).toNat<n/\(((i % (n:Int)).toNat:Nat):Int)=i % n:=by
 have:=cG (i:=i) (m:=n) (by omega)
 omega
theorem kC {α:Type}{g:FG}{p:FT}{f:FE}{ρ0:aL}{h o:α->D}{q:α->Bool}: ∀(l:List α),(∀i∈l,∃ρ1,g (h i) ρ0=some ρ1/\p ρ1=some (q i)/\(q i=true->f ρ1=some (o i)))->dg g p f ρ0 (l.map h)=some ((l.filter q).map o)
 | [],_=>rfl
 |a::l,H=>by
  obtain⟨ρ1,h1,h2,h3⟩:=H a (by simp)
  have ih:=kC l λi hi=>H i (by simp[hi])
  rw[List.map_cons];unfold dg;rw[h1,Option.bind_some,h2,Option.bind_some];cases e:q a with
  |true=>rw[if_pos rfl,h3 e,Option.bind_some,ih];simp[e]
  |false=>rw[if_neg (by simp),ih];simp[e]
theorem tG(r:List Nat)(ρ:aL)(f:FE)(h:f ρ=some (.lst (r.map nI))):aj bR (aa f ah) ρ=some (nI r.length):=by
 rw[bL (am h rfl)];show some (D.int ((r.map nI).length:Int))=_;rw[List.length_map]
theorem fe(r:List Nat)(ρ:aL)(f:FE)(h:f ρ=some (aH r)):aj bR (aa f ah) ρ=some (nI r.length):=by
 rw[bL (am h rfl)];show some (D.int ((r.map nI).length:Int))=_;rw[List.length_map]
theorem Bb(a b:Nat):dM (nI a) (nI b)=some (.int ((a:Int) -b)):=fm _ _
def dN:FS:=
 ay (eS 3 (aj rQ (aa (ai 0) (ah))))
 (ay (cr (gT 2 (cQ (db 3 (ai 1)) (cQ (db 3 (ai 2)) (iQ)))) (pu (aZ (aa (ao aQ (ai 0) (ai 2)) (aa (ao aQ (ai 0) (ai 1)) (ah))))))
 (aI (aj cj (aa (cV 3) (ah)))))
def dP:List D->Option D:=fO .s 4 dN
def AF(n s e x:Nat):Bool:=decide (((x:Int) -s) % n<((e:Int) -s) % n)
def ki(o:List Nat)(a b:Nat):List Nat:=(o.set a (o.getD b 0)).set b (o.getD a 0)
theorem qX {n:Nat}{o:List Nat}(ho:o.length=n){a b:Nat}(ha:a<n)(hb:b<n):dP [aH o,nI a,nI b]=some (aH (ki o a b)):=by
 apply cI (kd:=.s) (n:=4) (t:=dN)
 unfold dN;refine(aA (ρ':=[.v (aH o),.v (nI a),.v (nI b),.own (o.map nI)]) ((jZ (ds:=o.map nI) rfl).trans rfl)).trans ?_
 refine(aA (ρ':=[.v (aH o),.v (nI a),.v (nI b),.own ((ki o a b).map nI)]) (gh (gK (bO (am ((az (x:=aH o) (y:=nI b) rfl rfl).trans (fG (by omega))) (am ((az (x:=aH o) (y:=nI a) rfl rfl).trans (fG (by omega))) rfl)) (by simp))) ?_)).trans (aV rfl)
 simp only[gT,List.length_cons,List.length_nil,cQ];rw[j9 (bs:=o.map nI) (j:=a) rfl rfl (by simp;omega)]
 simp only[Option.bind_some];rw[j9 (bs:=(o.map nI).set a (nI (o.getD b 0))) (j:=b) rfl rfl (by simp;omega)]
 simp only[Option.bind_some,iQ,pd];rfl
theorem uH: ∀k l:List Int,cW (k.map D.int) (l.map D.int)=decide (k=l)
 | [],[]=>by simp[cW]
 | [],_::_=>by simp[cW]
 |_::_,[]=>by simp[cW]
 |a::k,b::l=>by
  rw[List.map_cons,List.map_cons];unfold cW;rw[uH k l,jh,Bool.eq_iff_iff];simp
theorem wZ(k l:List Int):di (AV k) (AV l)=decide (k=l):=by
 unfold AV di;exact uH k l
theorem Ord.get {n:Nat}{o:List Nat}(O:Ord n o){i:Nat}(h:i<n):o.getD i 0<n:=by
 have ho:=O.len
 have:o.getD i 0=o[i]'(by omega):=by simp[List.getD,ho,h]
 rw[this];exact O.lt (List.getElem_mem _)
theorem Ord.inj {n:Nat}{o:List Nat}(O:Ord n o){i j:Nat}(hi:i<n)(hj:j<n)(e:o.getD i 0=o.getD j 0):i=j:=ql O.nd (by rw[O.len];exact hi) (by rw[O.len];exact hj) e
section
variable {X:Cx}{c:Ct}{k:Kd}{pos:Pos}
def uZ(i j:Nat)(fs:FA):FS:=λρ=>match fs ρ with
 |some [d1,d2]=>.nx ((ρ.set i (.v d1)).set j (.v d2))
 |_=>.no
theorem xY(i j:Nat){x y:Str}{a b:Expr}{fs:FA}{px py pt:Pos}{kt k2 pt2}(hc:X.calm=true)(hN:X.N.Nodup)(ha:DA X c [a,b] fs)(hi:X.N[i]? =some x:=by rfl)(hj:X.N[j]? =some y:=by rfl)(hij:i≠j:=by decide)
 (hx:X.env.scope.names.lookup x=some .local:=by rfl) (hy:X.env.scope.names.lookup y=some .local:=by rfl)
 (hw:swappedStores [.Tuple [.Name x px,.Name y py] kt pt] (.Tuple [a,b] k2 pt2) X.env=pure (some [x,y]):=by rfl)
 (hs:swapsWithSole [.Tuple [.Name x px,.Name y py] kt pt] (.Tuple [a,b] k2 pt2) pos.line X.env=pure false:=by rfl):
 DS X c k (.Assign [.Tuple [.Name x px,.Name y py] kt pt] (.Tuple [a,b] k2 pt2) pos) (uZ i j fs):=λρ=>
 PS.imp (za hc hN hi hj hij hx hy (zO λhid=>ha hid ρ) hw hs) λD σ H hq_=>by
  obtain⟨hid,sr,q⟩:=hq_
  unfold uZ at q;cases e1:fs ρ with
  |none=>rw[e1] at q;exact q.elim
  |some ds=>
   rw[e1] at q
   match ds,e1,q with
   | [],_,q=>exact q.elim
   | [_],_,q=>exact q.elim
   |_::_::_::_,_,q=>exact q.elim
   | [d1,d2],e1,q=>
     refine⟨hid,sr,[d1,d2],e1,λvs H1 s1 r1=>?_⟩
     cases r1 with
     |cons r1 t=>
      cases t with
      |cons r2 t=>
       cases t
       exact⟨_,_,rfl,q _ H1 hid (((sr.ext s1).setV r1 i).setV r2 j) (bc s1)⟩
end
open PySem PySem.W PySem.Spec PyProof.Rows
theorem Reps.insertIdx {K:W.Frag}{F:Hp}{x:V}{u:D}(r:Rep K F x u){xs:List V}{us:List D}(i:Nat)(h:Reps K F xs us):Reps K F (xs.take i++x::xs.drop i) (us.take i++u::us.drop i):=(h.take i).append (.cons r (h.drop i))
def rR:V->List V->Hp->VK->Prop:=λx vs H Q=> ∃l xs i y,x=.ref l/\vs=[.int i,y]/\H l=some (.lst xs)/\0<=i/\i<=xs.length/\xs.length<sizeLine/\Q .non (dv H l (.lst (xs.take i.toNat++y::xs.drop i.toNat)))
section
variable {X:Cx}
theorem nA:zj X "list.insert" rR:=by
 intro ae s σ H x vs v us Q I rx rv h;obtain⟨l,xs,i,y,rfl,rfl,hH,h1,h2,hz,q⟩:=h
 cases rx
 cases rv with
 |cons r0 r1=>cases r1 with
  |cons r1 r2=>
   cases r2
   obtain⟨t,rfl⟩:=r0
   rename_i w;obtain⟨z,its,n,r,hl,e⟩:=I.lstM hH
   have l63:=i9
   have fit:Builtin.List.listFitsIndex i=true:=by
    have:=fitsIndex_both (k:=i) (by omega) (by omega)
    simpa using this
   refine call_meets F.slot_list_insert ⟨_,e,rfl⟩ F.entry_list_insert (F.args_list_insert_3 _ _ _) (AutoSeq1.list_insert_list_int_val_1 l its.toArray n i t w (by rw[fit];simp) (by rw[List.size_toArray];omega)) ⟨e,?_⟩
   refine⟨.non,_,I.lset (its':=its.take i.toNat++w::its.drop i.toNat) hH e ?_ ((r.take _).append (.cons r1 (r.drop _))) ?_,rfl,q⟩
   ·show(its.toArray.extract 0 (if i<0 then(i+(its.toArray.size:Int)).toNat else min i.toNat its.toArray.size)).push w++its.toArray.extract (if i<0 then(i+(its.toArray.size:Int)).toNat else min i.toNat its.toArray.size)=_
    rw[if_neg (by omega),List.size_toArray,show min i.toNat its.length=i.toNat by omega]
    apply Array.ext'
    have hh:its.length- (i.toNat)+i.toNat=its.length:=by omega
    simp[List.take_of_length_le]
   ·rw[List.length_append,List.length_cons,List.length_take,List.length_drop];omega
end
def pZ:List D->List D->Option (D×List D):=λbs ds=>match ds with
 | [.int i,d]=>if 0<=i/\i<=bs.length/\bs.length<sizeLine then some (.non,bs.take i.toNat++d::bs.drop i.toNat) else none
 |_=>none
theorem m9 {K:W.Frag}:yy K rR 2 pZ:=by
 intro H hid a xs us bs ds bs' d Q h1 h2 h3 h4 h5 h6 q;unfold pZ at h6;split at h6
 ·split at h6
  ·rename_i hc
   cases h6
   cases h4 with
   |cons r0 t0=>cases t0 with
    |cons r1 t1=>
     cases t1
     cases r0
     exact⟨a,xs,_,_,rfl,rfl,h1,hc.1,by rw[h3.length];exact hc.2.1,by rw[h3.length];exact hc.2.2,q _ _ (h3.insertIdx r1 _) .non⟩
  ·cases h6
 ·cases h6
def jB:List D->List D->Option (D×List D):=λbs ds=>match ds with
 | []=>(bs[bs.length-1]?).map λd=>(d,bs.dropLast)
 |_=>none
theorem Reps.dropLast {K:W.Frag}{F:Hp}{xs:List V}{us:List D}(h:Reps K F xs us):Reps K F xs.dropLast us.dropLast:=by
 rw[List.dropLast_eq_take,List.dropLast_eq_take,h.length];exact h.take _
theorem rJ {K:W.Frag}:yy K zD 0 jB:=by
 intro H hid a xs us bs ds bs' d Q h1 h2 h3 h4 h5 h6 q;unfold jB at h6;split at h6
 ·cases e:bs[bs.length-1]? with
  |none=>rw[e] at h6;cases h6
  |some z=>
   rw[e] at h6;cases h6;cases h4
   obtain⟨x,g1,g2⟩:=h3.get e
   exact⟨a,xs,x,rfl,rfl,h1,by rw[h3.length];exact g1,q _ _ h3.dropLast g2⟩
 ·cases h6
section
variable {X:Cx}{c:Ct}{a b e:Expr}{f g:FE}{pos p p2 p3:Pos}{k:Kd}
def xI(K:W.Frag):R2:=λx y H Q=> ∃l b xs zs,x=.ref l/\y=.ref b/\SqL K H l xs/\SqL K H b zs/\xs.length+zs.length<=sizeLine/\ ∀p,H p=none->Q (.ref p) (dv H p (.lst (xs++zs)))
theorem vF:jd X (binaryOp .Add) (xI X.K):=by
 intro ae s σ H x y v u Q I rx ry h;obtain⟨l,b,xs,zs,rfl,rfl,hL,hB,hz,q⟩:=h
 cases rx
 cases ry
 obtain⟨its,r,⟨o,n,e,c1,d1,t1⟩,z1⟩:=I.list hL
 obtain⟨its2,r2,⟨o2,n2,e2,c2,d2,t2⟩,z2⟩:=I.list hB
 obtain⟨oc,od,ot,sl⟩:=o
 obtain⟨oc2,od2,ot2,sl2⟩:=o2
 dsimp only at c1 d1 t1 c2 d2 t2;subst c1 d1 t1 c2 d2 t2;have hl:=r.length
 have hl2:=r2.length
 refine concat_meets ⟨_,e,rfl⟩ ⟨_,e2,rfl⟩ noFill_list_add seq_list_add PySem.F.slot_list_add PySem.F.entry_list_add (PySem.F.args_list_add_2 _ _) (list_addW l b its.toArray its2.toArray n n2 none none sl sl2 (by rw[List.size_toArray,List.size_toArray];omega)) ⟨e,e2,?_⟩
 have ea:its.toArray++its2.toArray=(its++its2).toArray:=by simp
 rw[ea];exact⟨.ref _,_,I.lnew (t':=s.toks) (r.append r2) (by rw[List.length_append];omega),rfl,q _ I.fresh⟩
def kY:D->D->Option D
 | .lst xs,.lst ys=>if xs.length+ys.length<=sizeLine then some (.lst (xs++ys)) else none
 |_,_=>none
theorem wX {K:W.Frag}:kW K .n (xI K) kY:=by
 intro H hid v u x y d Q hf h r1 r2 q;unfold kY at h;split at h
 ·split at h
  ·rename_i hz
   cases h
   obtain⟨a,xs,rfl,h1,h2⟩:=r1.lst
   obtain⟨b,ys,rfl,h3,h4⟩:=r2.lst
   exact⟨a,b,xs,ys,rfl,rfl,h1,h3,by rw[h2.length,h4.length];exact hz,λp hp=>q _ _ (ca hp _) (lN hp (Same.refl _) (h2.append h4))⟩
  ·cases h
 ·cases h
theorem rk {k1 k2:Kd}(ha:DP X c k1 a f)(hb:DP X c k2 b g):DP X c .n (.BinOp a .Add b pos) (ao kY f g):=lT vF wX ha hb
end
abbrev sT:List Value:=[.type "ValueError",.type "Exception",.type "BaseException",.type "object"]
structure ExcC(K:W.Frag)(C:Addr):Prop where
 ga:W.findIn K (.ref C) "__getattribute__"=some (some (.builtin "BaseException.__getattribute__"))
 gt:W.findIn K (.ref C) "__getattr__"=some none
 cl:W.findIn K (.ref C) "__class__"=some (some (.builtin "object.__class__"))
 sp:W.specialIn K (.builtin "object.__class__") "__get__"=some (some (.builtin "getset_descriptor.__get__"))
 tk:W.takesIn K (.builtin "object.__class__")=some true
 mo:W.mroIn K C (.type "object")=some true
 mb:W.mroIn K C (.type "BaseException")=some true
section
variable {K:W.Frag}{C:Addr}{prog:Program}{w:World}{A:Around}{E:Value->Shared->Prop}{s:Shared}{a:Addr}{o:Obj}
theorem ExcC.cls(X:ExcC K C): ∃cd,W.clsIn K C=some cd:=by
 obtain⟨cd,h,_⟩:=Option.bind_eq_some_iff.mp X.mo
 exact⟨cd,h⟩
end
def Trc(h B:Heap)(e:Addr)(o0:Obj):Prop:=
 ∃vs T oT ts,h.get? e=some {o0 with data:=.fields vs}/\vs[1]? =some (.ref T)/\B.get? T=none/\T≠e/\h.get? T=some oT/\oT.data=.fields ts/\ts[3]? =some .none
def BK(h:Heap)(e:Addr)(o0:Obj):Prop:= ∃vs,h.get? e=some {o0 with data:=.fields vs}/\vs[1]? =some .none
structure InFl(B:Heap)(l:List Env)(e:Addr)(o0:Obj)(h:Heap):Prop where
 st:B.StaysIn h
 ne:B.get? e=none
 ff:h.FunFrames B l
 tr:Trc h B e o0\/BK h e o0
section
variable {M:Model}{A:Around}{E:Value->Shared->Prop}{s:Shared}{B:Heap}{env:Env}{outer:List Env}{L e:Addr}{o0:Obj}
theorem pk {vs:Array Value}{head:Value}{hn:Bool}{Q:Unit->Shared->Prop}(hfr:A.frames=some (env::outer))(hl:s.heap.FunFrames B (env::outer))(hf:env.frame=some L)
 (he:s.heap.get? e=some {o0 with data:=.fields vs}) (hsz:1<vs.size) (hB:B.StaysIn s.heap) (ne:B.get? e=none)
 (h: ∀h',InFl B (env::outer) e o0 h'->Trc h' B e o0->s.heap.UpToSlots h'->Q () {s with heap:=h'}):
 wpAny M A (do let a <-frameOf env;let pl <-entryPlaceOf L hn;let b <-EntryCells.newEntry head a .none (rawInt L) .none pl;setField (.ref e) 1 b) (λ_ s'=>wpAny M A (setFlight (.ref e) none) Q E s') E s:=by
 have hne:e∉iX (env::outer):=λhm=>by
  obtain⟨_,o,ho,nf⟩:=hl.mem hm
  rw[he] at ho;cases ho;exact nf vs rfl
 refine wpAny_bind (wpAny_frameOf_fun hfr hl hf λh1 k1=>wpAny_bind (wpAny_entryPlaceOf λpl hp=>?_))
 unfold EntryCells.newEntry newFields;refine wpAny_bind (wpAny_newObj_type ?_ (hp.sizeOk5 _ _ _ _ _))
 have e1:h1.get? e=some {o0 with data:=.fields vs}:=(k1.2.1 e hne).trans he
 generalize hten:([head,.ref L,.none,rawInt L,.none]++(if pl.isEmpty then List.replicate 6 Value.none else pl)).toArray=ten
 have tsz:3<ten.size:=by rw[<-hten];simp only[List.size_toArray,List.length_append,List.length_cons,List.length_nil];omega
 generalize hT:h1.objs.size=T
 have Tn:h1.get? T=none:=by rw[<-hT];exact Heap.get?_none_of_le (Nat.le_refl _)
 have Te:T≠e:=λq=>by rw[q,e1] at Tn;cases Tn
 have e2:(h1.push {cls:=.type "traceback",dict:=none,data:=.fields ten}).get? e=some {o0 with data:=.fields vs}:=Heap.get?_push_of_some _ e1
 have t2:(h1.push {cls:=.type "traceback",dict:=none,data:=.fields ten}).get? T=some {cls:=.type "traceback",dict:=none,data:=.fields ten}:=by rw[<-hT];exact Heap.get?_push_size h1 rfl
 refine wpAny_setField e2 rfl hsz ?_
 have e3:=Heap.get?_update_self (Obj.mapFields (·.setIfInBounds 1 (Value.ref T))) e2 (Obj.isFreed_of_fields rfl)
 have t3:=(Heap.get?_update_other (h1.push {cls:=.type "traceback",dict:=none,data:=.fields ten}) (Obj.mapFields (·.setIfInBounds 1 (Value.ref T))) (Ne.symm Te)).trans t2
 unfold setFlight;refine wpAny_bind (wpAny_field e3 rfl (x:=.ref T) (by simp[hsz]) ?_)
 rw[if_pos (by simp:(Value.ref T !=Value.none)=true)]
 refine wpAny_setField t3 rfl tsz ?_
 have kp: ∀b o,b≠e->h1.get? b=some o->(((h1.push {cls:=.type "traceback",dict:=none,data:=.fields ten}).update e (Obj.mapFields (·.setIfInBounds 1 (Value.ref T)))).update T
  (Obj.mapFields (·.setIfInBounds 3 ((none:Option Addr).elim Value.none λf=>rawInt f)))).get? b=some o:=λb o nb hb=>by
  rw[Heap.get?_update_other _ _ (λq=>by rw[<-q,Tn] at hb;cases hb),Heap.get?_update_other _ _ (Ne.symm nb)]
  exact Heap.get?_push_of_some _ hb
 have nr: ∀b o,s.heap.get? b=some o->(∀vs,o.data≠ .fields vs)->b≠e:=λb o hb nf q=>by
  rw[q,he] at hb;cases hb;exact nf vs rfl
 have B1:B.StaysIn h1:=λb o hb=>(k1.2.1 b λhm=>by rw[(hl.mem hm).1] at hb;cases hb).trans (hB b o hb)
 have TB:B.get? T=none:=by
  cases q:B.get? T with
  |none=>rfl
  |some o=>rw[B1 T o q] at Tn;cases Tn
 have tr:Trc (((h1.push {cls:=.type "traceback",dict:=none,data:=.fields ten}).update e (Obj.mapFields (·.setIfInBounds 1 (Value.ref T)))).update T
  (Obj.mapFields (·.setIfInBounds 3 ((none:Option Addr).elim Value.none λf=>rawInt f)))) B e o0:=
  ⟨_,T,_,_,(Heap.get?_update_other _ _ Te).trans e3,by simp[hsz],TB,Te,Heap.get?_update_self _ t3 (Obj.isFreed_of_fields rfl),rfl,by simp[tsz]⟩
 refine h _ ⟨λb o hb=>kp b o (λq=>by rw[q,ne] at hb;cases hb) (B1 b o hb),ne,hl.of_keeps λb o hb nf=>?_,.inl tr⟩ tr λb o hb nf=>?_
 ·obtain⟨sl,q⟩:=k1.2.2 b o hb
  exact⟨_,kp b _ (nr b o hb nf) q,rfl⟩
 ·obtain⟨sl,q⟩:=k1.2.2 b o hb
  exact⟨sl,kp b _ (nr b o hb nf) q⟩
theorem rf {Q:Unit->Shared->Prop}(hfr:A.frames=some (env::outer))(hf:env.frame=some L)(x:InFl B (env::outer) e o0 s.heap)
 (h: ∀h',InFl B (env::outer) e o0 h'->Trc h' B e o0->s.heap.UpToSlots h'->Q () {s with heap:=h'}):
 wpAny M A (noteFrame (.ref e) env) (λ_ s'=>wpAny M A (setFlight (.ref e) none) Q E s') E s:=by
 obtain⟨st,ne,ff,tr⟩:=x
 unfold noteFrame;simp only[hf];rcases tr with⟨vs,T,oT,ts,he,h1,TB,Te,hT,hd,h3⟩|⟨vs,he,h1⟩
 ·refine wpAny_bind (wpAny_field he rfl h1 ?_)
  rw[if_pos (by simp:(Value.ref T !=Value.none)=true)]
  refine wpAny_bind (wpAny_field hT hd h3 ?_)
  rw[if_neg (by simp[rawInt]: ¬((Value.none==rawInt L)=true))]
  refine wpAny_bind (wpAny_setField hT hd (Array.getElem?_eq_some_iff.mp h3).1 ?_)
  have ot: ∀b,b≠T->(s.heap.update T (Obj.mapFields (·.setIfInBounds 3 Value.none))).get? b=s.heap.get? b:=λb nb=>Heap.get?_update_other _ _ (Ne.symm nb)
  have nr: ∀b o,s.heap.get? b=some o->(∀vs,o.data≠ .fields vs)->b≠T:=λb o hb nf q=>by
   rw[q,hT] at hb;cases hb;exact nf ts hd
  exact pk hfr (ff.of_keeps λb o hb nf=>⟨o,(ot b (nr b o hb nf)).trans hb,rfl⟩) hf ((ot e (Ne.symm Te)).trans he) (Array.getElem?_eq_some_iff.mp h1).1
   (λb o hb=>(ot b λq=>by rw[q,TB] at hb;cases hb).trans (st b o hb)) ne λh' x1 x2 x3=>h h' x1 x2 λb o hb nf=>x3 b o ((ot b (nr b o hb nf)).trans hb) nf
 ·refine wpAny_bind (wpAny_field he rfl h1 ?_)
  rw[if_neg (by decide)]
  exact pk hfr ff hf he (Array.getElem?_eq_some_iff.mp h1).1 st ne h
theorem ud {Q:Unit->Shared->Prop}(hfr:A.frames=some (env::outer))(hf:env.frame=some L)(x:InFl B (env::outer) e o0 s.heap)
 (h: ∀h',InFl B outer e o0 h'->s.heap.UpToSlots h'->Q () {s with heap:=h'}):wpAny M A (leaving env (.ref e)) Q E s:=by
 unfold leaving;exact wpAny_bind (rf hfr hf x λh' x1 _ x3=>h h' ⟨x1.st,x1.ne,x1.ff.2.2,x1.tr⟩ x3)
theorem wV {Q:Unit->Shared->Prop}{l:List Env}(x:InFl B l e o0 s.heap)(t:Trc s.heap B e o0)
 (h: ∀h',InFl B l e o0 h'->Trc h' B e o0->s.heap.UpToSlots h'->Q () {s with heap:=h'}):wpAny M A (setFlight (.ref e) none) Q E s:=by
 obtain⟨vs,T,oT,ts,he,h1,TB,Te,hT,hd,h3⟩:=t
 have sz:=(Array.getElem?_eq_some_iff.mp h3).1
 unfold setFlight;refine wpAny_bind (wpAny_field he rfl h1 ?_)
 rw[if_pos (by simp:(Value.ref T !=Value.none)=true)]
 refine wpAny_setField hT hd sz ?_
 have ot: ∀b,b≠T->(s.heap.update T (Obj.mapFields (·.setIfInBounds 3 ((none:Option Addr).elim Value.none λf=>rawInt f)))).get? b=s.heap.get? b:=λb nb=>Heap.get?_update_other _ _ (Ne.symm nb)
 have nr: ∀b o,s.heap.get? b=some o->(∀vs,o.data≠ .fields vs)->b≠T:=λb o hb nf q=>by
  rw[q,hT] at hb;cases hb;exact nf ts hd
 have tr:Trc (s.heap.update T (Obj.mapFields (·.setIfInBounds 3 ((none:Option Addr).elim Value.none λf=>rawInt f)))) B e o0:=
  ⟨vs,T,_,_,(ot e (Ne.symm Te)).trans he,h1,TB,Te,Heap.get?_update_self _ hT (Obj.isFreed_of_fields (Obj.data_mapFields hd _)),Obj.data_mapFields hd _,by simp[sz]⟩
 exact h _ ⟨λb o hb=>(ot b λq=>by rw[q,TB] at hb;cases hb).trans (x.st b o hb),x.ne,x.ff.of_keeps λb o hb nf=>⟨o,(ot b (nr b o hb nf)).trans hb,rfl⟩,.inl tr⟩ tr λb o hb nf=>⟨o.slots,(ot b (nr b o hb nf)).trans hb⟩
end
theorem rS {h base g:Heap}{F:List Addr}: ∀ {l:List Env},h.FunFrames base l->(∀b∈iX l,b∈F)->h.FunFrames (W.hideAll g F) l
 | [],_,_=>trivial
 |env::r,⟨hk,⟨L,o,hf,hn,ho,hd⟩,hr⟩,hF=>by
  refine⟨hk,⟨L,o,hf,W.hideAll_none F (hF L ?_),ho,hd⟩,rS hr λb hb=>hF b ?_⟩
  ·unfold iX;rw[List.filterMap_cons,hf];exact List.mem_cons_self
  ·unfold iX;rw[List.filterMap_cons,hf];exact List.mem_cons_of_mem _ hb
def Away(X:Cx)(ae:List (Addr×Obj))(H:Hp)(F:List Addr):Prop:=(∀b∈iX X.stack,b∈F)/\
 ∀b∈F,b∉iX X.stack->X.s₀.heap.objs.size<=b/\H b=none/\b≠X.env.locals/\(∀x c,X.env.cells.lookup x=some c->c≠b)/\ ∀p∈X.pn++ae,p.1≠b
section
variable {X:Cx}{ae:List (Addr×Obj)}{σ:St}{H:Hp}{s:Shared}{F:List Addr}{h':Heap}
theorem Away.free(w:Away X ae H F)(I:Inv X ae σ H s){b:Addr}(hb:b∈F):H b=none:=by
 by_cases q:b∈iX X.stack
 ·exact I.stkFree b q
 ·exact(w.2 b hb q).2.1
theorem Inv.flown(I:Inv X ae σ H s)(w:Away X ae H F)(st:(W.hideAll s.heap F).StaysIn h')(up:s.heap.UpToSlots h'):Inv X ae σ H {s with heap:=h'}:=by
 have kp: ∀b o,s.heap.get? b=some o->b∉F->h'.get? b=some o:=λb o e n=>st b o (W.hideAll_get _ e n)
 have fr: ∀b∈iX X.stack,∃o,s.heap.get? b=some o/\ ∀vs,o.data≠ .fields vs:=λb hb=>(I.stack.mem hb).2
 refine I.call' (s':={s with heap:=h'}) (ch:=F.filter λb=>decide (b∉iX X.stack)) rfl ⟨?_,?_,λ_ _ _ n _=>n,?_,λ_ _ q=>q,λ_ _ _ q=>q,λ_ ps q=>⟨#[],by rw[q];simp⟩⟩ ?_ I.bare ?_
 ·intro b o e n hb hc
  refine kp b o e λhF=>hc ?_
  rw[List.mem_filter,decide_eq_true_eq];exact⟨hF,hb⟩
 ·intro b o e n hb hc
  obtain⟨o',e',nf⟩:=fr b hb
  rw[e] at e';cases e';exact up b o e nf
 ·intro b o e hc
  by_cases hF:b∈F
  ·by_cases hs:b∈iX X.stack
   ·obtain⟨o',e',nf⟩:=fr b hs
    obtain⟨sl,q⟩:=up b o' e' nf
    exact⟨_,q⟩
   ·exact absurd (by rw[List.mem_filter,decide_eq_true_eq];exact⟨hF,hs⟩) hc
  ·exact⟨o,kp b o e hF⟩
 ·intro a o e
  refine(I.hok a o e).stay (λb u hb q=>kp b u q λhF=>?_) (λ_ q=>q) λ_ _ q=>q
  have:=w.free I hF
  rcases hb with rfl|hb
  ·rw[e] at this;cases this
  ·rw[hb] at this;cases this
 ·intro b hb
  rw[List.mem_filter,decide_eq_true_eq] at hb;obtain⟨q1,q2,q3,q4,q5⟩:=w.2 b hb.1 hb.2
  exact⟨.inr q1,q3,q4,q5⟩
end
def XS(X:Cx)(ae:List (Addr×Obj))(σ:St)(H:Hp)(o0:Obj)(ea:Addr)(s':Shared):Prop:=
 ∃(g:Heap) (F:List Addr),Inv X ae σ H {s' with heap:=g}/\Away X ae H F/\InFl (W.hideAll g F) X.stack ea o0 s'.heap/\g.UpToSlots s'.heap/\g.get? ea=none
theorem XS.inv {X:Cx}{ae:List (Addr×Obj)}{σ:St}{H:Hp}{o0:Obj}{ea:Addr}{s':Shared}(x:XS X ae σ H o0 ea s'):Inv X ae σ H s':=by
 obtain⟨g,F,I,w,fl,up,_⟩:=x
 exact I.flown (s:={s' with heap:=g}) w fl.st up
def AI(P:Program)(w:World)(G:Addr->Obj->Prop):rg:=λouter H s E e s'=>
 ∃(ea:Addr) (o0:Obj) (C:Addr) (g:Heap) (F:List Addr) (H':Hp),e=.ref ea/\o0.cls=.ref C/\G C o0/\s'.os=s.os/\AllBare s'.gens/\Un (iX outer) [] H H' s.heap g/\HOk P w H' g/\
  InFl (W.hideAll g F) outer ea o0 s'.heap/\g.UpToSlots s'.heap/\(∀b∈iX outer,b∈F)/\(∀b∈F,H' b=none/\(b∉iX outer->s.heap.objs.size<=b))/\g.get? ea=none/\E (.ref C) none H'
theorem wS {X:Cx}{ae:List (Addr×Obj)}{σ:St}{H:Hp}{s s':Shared}{G:Addr->Obj->Prop}{E:XK}{e:Value}(I:Inv X ae σ H s)(h:AI X.prog X.w G X.stack H s E e s'):
 ∃ea o0 C H',e=.ref ea/\o0.cls=.ref C/\G C o0/\XS X ae σ H' o0 ea s'/\E (.ref C) none H':=by
 obtain⟨ea,o0,C,g,F,H',rfl,hc,hG,os,bare,un,hok,fl,up,hF,aw,gn,hE⟩:=h
 have J:Inv X ae σ H' {s' with heap:=g}:=I.call' (s':={s' with heap:=g}) (ch:=[]) os un hok bare λb z=>absurd z (by simp)
 refine⟨ea,o0,C,H',rfl,hc,hG,⟨g,F,J,⟨hF,λb hb nb=>?_⟩,fl,up,gn⟩,hE⟩
 have sz:=(aw b hb).2 nb
 have lt: ∀ {c o},s.heap.get? c=some o->c≠b:=λ{c o} q z=>by subst z;exact absurd (Heap.lt_size q) (Nat.not_lt.mpr sz)
 refine⟨Nat.le_trans I.sz sz,(aw b hb).1,λz=>?_,λx c q=>?_,λp hp=>?_⟩
 ·have:=I.lt
  rw[<-z] at this;exact absurd this (Nat.not_lt.mpr sz)
 ·obtain⟨v,o,ho,_⟩:=I.cell x c q
  exact lt ho
 ·exact lt (I.pin p hp).1
theorem tM {CX:rg}{P:Program}{w:World}{K:W.Frag}{mg:Str->Option Value}{base:Heap}{N:List Str}{qual:Str}{scope:Scope}{f:Addr}{cd:Value}{A:Around}{outer:List Env}{s:Shared}{H:Hp}{E:XK}{G:Addr->Obj->Prop}
 {ae:List (Addr×Obj)} {σ:St} {H':Hp} {o0:Obj} {ea C:Addr} {s':Shared} (x:XS (kR CX P w K mg base N qual scope f cd A outer s H E) ae σ H' o0 ea s') (hc:o0.cls=.ref C) (hG:G C o0) (hE:E (.ref C) none H') {Q:Unit->Shared->Prop} {E':Value->Shared->Prop}
 (q: ∀s'',AI P w G outer H s E (.ref ea) s''->Q () s''):wpAny (model P w) (A.deeper (envOfC qual scope s.heap.objs.size f cd)) (leaving (envOfC qual scope s.heap.objs.size f cd) (.ref ea)) Q E' s':=by
 obtain⟨g,F,I,aw,fl,up,gn⟩:=x
 refine ud (L:=s.heap.objs.size) I.ok.frames rfl fl λh' fl' up'=>q _ ?_
 have L:(kR CX P w K mg base N qual scope f cd A outer s H E).stack=envOfC qual scope s.heap.objs.size f cd::outer:=rfl
 have sub: ∀b∈iX outer,b∈iX (envOfC qual scope s.heap.objs.size f cd::outer):=λb hb=>by
  unfold iX;rw[List.filterMap_cons];exact List.mem_cons_of_mem _ hb
 refine⟨ea,o0,C,g,F,H',rfl,hc,hG,I.os,I.bare,I.base,I.hok,fl',up.trans up',λb hb=>aw.1 b (sub b hb),λb hb=>⟨aw.free I hb,λnb=>?_⟩,gn,hE⟩
 by_cases z:b∈iX (envOfC qual scope s.heap.objs.size f cd::outer)
 ·have:b=s.heap.objs.size\/b∈iX outer:=by
   unfold iX at z;rw[List.filterMap_cons] at z;exact List.mem_cons.mp z
  rcases this with rfl|q
  ·exact Nat.le_refl _
  ·exact absurd q nb
 ·exact(aw.2 b hb z).1
structure Ex where
 x:Str
 n:Int
abbrev rD(K:W.Frag)(z:Ex)(C:Addr):Prop:=W.nsIn K mainGlobals z.x=some (some (.ref C))
def G0:Addr->Obj->Prop:=λ_ o0=>o0.dict=none
abbrev Al(P:Program)(w:World):rg:=AI P w G0
def EX(X:Cx)(σ:St):XK:=λv _ H'=> ∀ae ea o0 s',o0.cls=v->o0.dict=none->XS X ae σ H' o0 ea s'->X.xe (.ref ea) s'
abbrev RE:=aL->Option (Except Ex D)
abbrev RA:=aL->Option (Except Ex (List D))
def BA(X:Cx)(c:Ct)(hid:cn)(k:Kd)(f:RE)(ρ:aL):TE:=λσ H Q=>SR X.K c hid ρ σ H/\ ∃r,f ρ=some r/\match r with
 | .ok d=> ∀v H',Same H H'->RK X.K k H H' hid v d->Q v H'
 | .error z=> ∀C H',Same H H'->rD X.K z C->EX X σ (.ref C) none H'
def DR(X:Cx)(c:Ct)(k:Kd)(e:Expr)(f:RE):Prop:= ∀hid ρ,PE X e (BA X c hid k f ρ)
def Be(X:Cx)(c:Ct)(hid:cn)(f:RA)(ρ:aL):TA:=λσ H Q=>SR X.K c hid ρ σ H/\ ∃r,f ρ=some r/\match r with
 | .ok ds=> ∀vs H',Same H H'->Reps X.K (vw H' hid) vs ds->Q vs H'
 | .error z=> ∀C H',Same H H'->rD X.K z C->EX X σ (.ref C) none H'
def Ag(X:Cx)(c:Ct)(es:List Expr)(f:RA):Prop:= ∀hid ρ,PA X es (Be X c hid f ρ)
section
variable {X:Cx}{c:Ct}{e a b:Expr}{es rest:List Expr}{k:Kd}{pos p:Pos}{x:Str}{f:Addr}{fd:FuncData}{ps:List Str}{j n:Nat}
def fE(f:FA):RA:=λρ=>(f ρ).map .ok
theorem DA.rr {f:FA}(h:DA X c es f):Ag X c es (fE f):=λhid ρ=>PA.imp (h hid ρ) λσ H Q hq_=>by
 obtain⟨sr,r,hr,q⟩:=hq_
 unfold fE at hr;cases e1:f ρ with
 |none=>rw[e1] at hr;cases hr
 |some d=>rw[e1] at hr;cases hr;exact⟨sr,d,e1,q⟩
def kX(f:RE)(fs:RA):RA:=λρ=>(f ρ).bind λr=>match r with
 | .error z=>some (.error z)
 | .ok d=>(fs ρ).map λq=>match q with
   | .error z=>.error z
   | .ok ds=>.ok (d::ds)
theorem tE {f:RE}{fs:RA}(ha:DR X c .s e f)(hr:Ag X c es fs)(hs:starEach (e::es) X.env=(false,eval e X.env)::starEach es X.env:=by rfl):Ag X c (e::es) (kX f fs):=λhid ρ=>
 PA.imp (dZ (ha hid ρ) (hr hid ρ) hs) λσ H Q hq_=>by
  obtain⟨sr,r,h,q⟩:=hq_
  unfold kX at h;cases e1:f ρ with
  |none=>rw[e1] at h;cases h
  |some r1=>
   rw[e1] at h;refine⟨sr,r1,e1,?_⟩
   cases r1 with
   |error z=>cases h;exact q
   |ok d=>
    have h:(fs ρ).map (λq=>match q with
     | .error z=>Except.error z
     | .ok ds=>.ok (d::ds))=some r:=h
    intro v H1 s1 r1;cases e2:fs ρ with
    |none=>rw[e2] at h;cases h
    |some r2=>
     rw[e2] at h;refine⟨sr.ext s1,r2,e2,?_⟩
     cases r2 with
     |error z=>cases h;exact λC H' s2=>q C H' (s1.trans s2)
     |ok ds=>cases h;exact λvs H2 s2 r2=>q _ H2 (s1.trans s2) (.cons (r1.mono (bc s2)) r2)
def qe(K:W.Frag)(k:Kd)(n:Nat)(P:List D->Option (Except Ex D)):Sp:=λvs H Q E=> ∃hid ds,zi hid H/\Reps K (vw H hid) vs ds/\ds.length=n/\ ∃r,P ds=some r/\match r with
 | .ok d=> ∀v H',Same H H'->RK K k H H' hid v d->Q v H'
 | .error z=> ∀C H',Same H H'->rD K z C->E (.ref C) none H'
structure ClX(P:Program)(w:World)(K:W.Frag)(mg:Str->Option Value)(base:Heap)(k:Nat)(x:Str)(ps:List Str)(sp:Sp):Prop where
 ex: ∃f fd,FnOk P w K mg base (Al P w) k f fd ps sp/\mg x=some (.ref f)/\W.keepIn K (.ref f)=true/\Binds K fd ps []
theorem w6 {sp:Sp}{ae:List (Addr×Obj)}{σ:St}{H:Hp}{s:Shared}{Q:VK}{us:List Value}{vs:List V}(F:FnOk X.prog X.w X.K X.mg X.base (Al X.prog X.w) j f fd ps sp)(hr:Room j X.A)(hb:Binds X.K fd ps [])
 (I:Inv X ae σ H s) (r:Vals vs us) (h:sp vs H Q (EX X σ)):wpAny (model X.prog X.w) X.A (call (.ref f) us) (EP X ae σ Q) X.xe s:=by
 have hl:(us++[]).length=ps.length:=by rw[List.append_nil,<-r.length];exact F.len _ _ _ _ h
 have hb':=hb s us I.kIn hl
 rw[List.append_nil] at hb';refine wpAny_call (codeAny_mono (F.run X.A X.stack s H ⟨us,[]⟩ us vs Q (EX X σ) hr I.env0 hb' r h) λr s' hq=>?_)
 cases r with
 |error e=>
  obtain⟨ea,o0,C,H',rfl,hc,hG,xs,hE⟩:=wS I hq
  exact hE ae ea o0 s' hc hG xs
 |ok fl=>
  cases fl with
  |ret u=>exact I.after hq
  |next=>exact False.elim hq
  |brk=>exact False.elim hq
  |cont=>exact False.elim hq
theorem pL {sp:Sp}{t:TA}(F:FnOk X.prog X.w X.K X.mg X.base (Al X.prog X.w) j f fd ps sp)(hr:Room j X.A)(hg:Gl X x)(hm:X.mg x=some (.ref f))(hk:W.keepIn X.K (.ref f)=true)(hb:Binds X.K fd ps [])
 (ha:PA X (e::es) t) (hdb:(x==("__debug__":Str))=false:=by decide) (he:starEach (e::es) X.env=(false,eval e X.env)::starEach es X.env:=by rfl) (hpl:(backTo pos (starEach es X.env)).any (·.1)=false:=by rfl):
 PE X (.Call (.Name x p) (e::es) [] pos) (λσ H Q=>t σ H λvs H1=>sp vs H1 Q (EX X σ)):=by
 intro ae s σ H Q I h;refine wpAny_Call_Name_kw (jq I hg hm ?_ hdb)
 refine W.callWith_K (h₀:=X.base) I.ok.mod.kin hk (cP (ha pos ae s σ H _ I h) λus s1 ⟨vs,H1,I1,r,q⟩=>⟨I1.kIn,?_⟩) he hpl
 exact w6 F hr hb I1 r q
def cB(n:Nat)(P:List D->Option (Except Ex D))(fs:RA):RE:=λρ=>(fs ρ).bind λq=>match q with
 | .error z=>some (.error z)
 | .ok ds=>if ds.length=n then P ds else none
theorem nJ {P:List D->Option (Except Ex D)}{fs:RA}(F:ClX X.prog X.w X.K X.mg X.base j x ps (qe X.K k n P))(hr:Room j X.A)(ha:Ag X c (e::es) fs)
 (hg:Gl X x:=by rfl) (hdb:(x==("__debug__":Str))=false:=by decide) (he:starEach (e::es) X.env=(false,eval e X.env)::starEach es X.env:=by rfl) (hpl:(backTo pos (starEach es X.env)).any (·.1)=false:=by rfl):
 DR X c k (.Call (.Name x p) (e::es) [] pos) (cB n P fs):=λhid ρ=>by
 obtain⟨f,fd,F,hm,hk,hb⟩:=F.ex
 refine PE.imp (pL F hr hg hm hk hb (ha hid ρ) hdb he hpl) λσ H Q hq_=>?_
 obtain⟨sr,r,h,q⟩:=hq_
 unfold cB at h;cases e1:fs ρ with
 |none=>rw[e1] at h;cases h
 |some r1=>
  rw[e1] at h;refine⟨sr,r1,e1,?_⟩
  cases r1 with
  |error z=>cases h;exact q
  |ok ds=>
   have h:(if ds.length=n then P ds else none)=some r:=h
   split at h
   ·intro vs H1 s1 r1
    refine⟨hid,ds,(sr.ext s1).trk,r1, ‹_›,r,h,?_⟩
    cases r with
    |ok d=>exact λv H' s2 r2=>q v H' (s1.trans s2) (RK.left s1 r2)
    |error z=>exact λC H' s2=>q C H' (s1.trans s2)
   ·cases h
def nX(n:Nat)(P:List D->Option D)(fs:RA):RE:=cB n (λds=>(P ds).map .ok) fs
theorem xV {P:List D->Option D}{fs:RA}(C:Cl X.prog X.w X.K X.mg X.base j x ps (eP X.K k n P))(hr:Room j X.A)(ha:Ag X c (e::es) fs)
 (hg:Gl X x:=by rfl) (hdb:(x==("__debug__":Str))=false:=by decide) (he:starEach (e::es) X.env=(false,eval e X.env)::starEach es X.env:=by rfl) (hpl:(backTo pos (starEach es X.env)).any (·.1)=false:=by rfl):
 DR X c k (.Call (.Name x p) (e::es) [] pos) (nX n P fs):=λhid ρ=>by
 obtain⟨f,fd,F,hm,hk,hb⟩:=C.ex
 refine PE.imp (ou F hr hg hm hk hb .nil (tw (X:=X)) (ha hid ρ) hdb he hpl) λσ H Q hq_=>?_
 obtain⟨sr,r,h,q⟩:=hq_
 unfold nX cB at h;cases e1:fs ρ with
 |none=>rw[e1] at h;cases h
 |some r1=>
  rw[e1] at h;refine⟨sr,r1,e1,?_⟩
  cases r1 with
  |error z=>cases h;exact q
  |ok ds=>
   have h:(if ds.length=n then(P ds).map Except.ok else none)=some r:=h
   split at h
   ·cases e2:P ds with
    |none=>rw[e2] at h;cases h
    |some d=>
     rw[e2] at h;cases h;intro vs H1 s1 r1;show eP X.K k n P (vs++[]) H1 Q E0;rw[List.append_nil];exact⟨hid,ds,(sr.ext s1).trk,r1, ‹_›,d,e2,λv H' s2 r2=>q v H' (s1.trans s2) (RK.left s1 r2)⟩
   ·cases h
end
abbrev OX:=Except (Ex×aL) Out
abbrev FX:=aL->OX
def EndX(X:Cx)(c:Ct)(k:Kd)(D:Ends)(W:Hp):OX->Prop
 | .ok o=>EndOk X.K c k D W o
 | .error z=> ∀σ' H' hid' C,SR X.K c hid' z.2 σ' H'->Same W (vw H' hid')->rD X.K z.1 C->EX X σ' (.ref C) none H'
theorem EndX.mono {X:Cx}{c:Ct}{k:Kd}{D:Ends}{W W':Hp}{o:OX}(h:EndX X c k D W o)(s:Same W W'):EndX X c k D W' o:=by
 cases o with
 |ok o=>exact EndOk.mono h s
 |error z=>exact λσ' H' hid' C a b=>h σ' H' hid' C a (s.trans b)
def zk(X:Cx)(c:Ct)(k:Kd)(t:FX)(ρ:aL):TS:=λD σ H=> ∃hid,SR X.K c hid ρ σ H/\EndX X c k D (vw H hid) (t ρ)
def ze(X:Cx)(c:Ct)(k:Kd)(st:Stmt)(t:FX):Prop:= ∀ρ,PS X st (zk X c k t ρ)
def n4(X:Cx)(c:Ct)(k:Kd)(st:List Stmt)(t:FX):Prop:= ∀ρ,PSs X st (zk X c k t ρ)
section
variable {X:Cx}{c:Ct}{k:Kd}{st:Stmt}{sts rest:List Stmt}{t u:FX}{e:Expr}{pos pos' p:Pos}{x:Str}{i:Nat}
theorem PS.nox {t:TS}(h:PS X.nox st t):PS X st t:=λae s σ H D I hw=>
 wpAny_mono (h ae s σ H D (I.wish _) hw) (λ_ _ q=>q.unwish) λ_ _ z=>False.elim z
def ic(t:FS):FX:=λρ=>.ok (t ρ)
theorem ib {t:FS}(h:DS X.nox c k st t):ze X c k st (ic t):=λρ=>PS.nox (h ρ)
theorem ko {t:FS}(h:oS X.nox c k sts t):n4 X c k sts (ic t):=λρ=>PSs.nox (h ρ)
def cM(t u:FX):FX:=λρ=>match t ρ with
 | .ok (.nx ρ')=>u ρ'
 | .ok o=>.ok o
 | .error z=>.error z
theorem dA(h:ze X c k st t):n4 X c k [st] t:=λρ=>rC (h ρ)
theorem bS(h1:ze X c k st t)(h2:n4 X c k rest u):n4 X c k (st::rest) (cM t u):=λρ=>
 PSs.imp (oY (h1 ρ) (ng λρ1=>h2 ρ1)) λD σ H hq_=>by
  obtain⟨hid,sr,q⟩:=hq_
  refine⟨hid,sr,?_⟩
  unfold cM at q;cases e:t ρ with
  |error z=>rw[e] at q;exact q
  |ok o=>
   rw[e] at q;cases o with
   |nx ρ1=>exact λσ1 H1 hid1 sr1 v1=>⟨ρ1,hid1,sr1,EndX.mono q v1⟩
   |rt d ρ1=>exact q
   |bk ρ1=>exact q
   |ct ρ1=>exact q
   |no=>exact q
def mE(p:FT)(t u:FX):FX:=λρ=>match p ρ with
 |some true=>t ρ
 |some false=>u ρ
 |none=>.ok .no
theorem jF {p:FT}{a b:List Stmt}(hp:DT X c e p)(ha:n4 X c k a t)(hb:n4 X c k b u):ze X c k (.If e a b pos) (mE p t u):=λρ=>
 PS.imp (uR (xh λhid=>hp hid ρ) (ha ρ) (hb ρ)) λD σ H hq_=>by
  obtain⟨hid,sr,q⟩:=hq_
  cases e1:p ρ with
  |none=>unfold mE at q;rw[e1] at q;exact q.elim
  |some x=>
   refine⟨hid,sr,x,e1,λH1 s1=>?_⟩
   unfold mE at q;rw[e1] at q;cases x with
   |true=>exact nW ⟨hid,sr.ext s1,EndX.mono q (bc s1)⟩
   |false=>exact om ⟨hid,sr.ext s1,EndX.mono q (bc s1)⟩
theorem gg:n4 X c k [] (ic skip):=λρ=>PSs.imp rE λD σ H ⟨hid,sr,q⟩=>q σ H hid sr (Same.refl _)
theorem DT.nox {p:FT}(h:DT X.nox c e p):DT X c e p:=λhid ρ=>PT.nox (h hid ρ)
def gQ(f:RE):FX:=λρ=>match f ρ with
 |some (.ok d)=>.ok (.rt d ρ)
 |some (.error z)=>.error (z,ρ)
 |none=>.ok .no
theorem jj {f:RE}(he:DR X c k e f)(hk:k≠ .b:=by decide):ze X c k (.Return (some e) pos) (gQ f):=λρ=>PS.imp (qw (mR λhid=>he hid ρ)) λD σ H hq_=>by
 obtain⟨hid,sr,q⟩:=hq_
 unfold gQ at q;cases e1:f ρ with
 |none=>rw[e1] at q;exact q.elim
 |some r=>
  rw[e1] at q;refine⟨hid,sr,r,e1,?_⟩
  cases r with
  |ok d=>exact λv H' s r=>q v H' (uv hk (sr.post s r hk) sr.h0)
  |error z=>exact λC H' s hn=>q σ H' hid C (sr.ext s) (bc s) hn
end
theorem wm {K:W.Frag}{h:Heap}{C:Addr}{bmB:List Value}{newId:String}(KI:K.In h)(q:W.excIn K C bmB newId=true): ∃bm N nm qn bs hdct sn sub ab col dd k0 k1 k2 k3 k5 mN,
 h.get? C=some (excClassObj nm qn C N bs bm hdct sn sub ab col dd k0 k1 k2 k3 k5 newId)/\h.Ns N mN/\mN "__init__"=none/\OwnTail h bmB bm:=by
 unfold W.excIn at q;split at q
 ·rename_i dd cd sl ho
  split at q
  ·rename_i C' bm k0 k1 k2 k3 n k5 hm hs
   simp only[Bool.and_eq_true,beq_iff_eq,Bool.not_eq_true'] at q;obtain⟨⟨⟨⟨⟨rfl,rfl⟩,hdel⟩,ht⟩,hok⟩,hni⟩:=q
   obtain⟨nm,bs,mro,ns,qn,hd,sn,sub,ab,col,del⟩:=cd
   dsimp only at hm hdel hok hni;subst hm hdel;obtain⟨l⟩:=sl
   simp only at hs;subst hs;exact⟨bm,ns,nm,qn,bs,hd,sn,sub,ab,col,dd,k0,k1,k2,k3,k5,_,KI _ _ ho,.of_isNs (W.isNs_of_in KI hok),W.nsMap_none_of_in KI hok hni,W.tail_of_in KI ht⟩
  ·cases q
 ·cases q
section
variable {X:Cx}{c:Ct}{k:Kd}{e:Expr}{es:List Expr}{pos np cpos:Pos}{x:Str}{C:Addr}
theorem v7 {ae:List (Addr×Obj)}{σ:St}{H:Hp}{s:Shared}{h':Heap}{ea:Addr}{vs:List Value}(I:Inv X ae σ H s)(m:Heap.MadeExcOf s.heap h' ea (.ref C) vs):
 XS X ae σ H {cls:=.ref C,data:=.plain} ea {s with heap:=h'}:=by
 obtain⟨t,he,htn,ht⟩:=m.there
 refine⟨s.heap,iX X.stack,I,⟨λ_ q=>q,λb hb nb=>absurd hb nb⟩,⟨λb o q=>m.keeps b o (W.of_hideAll _ q),?_,rS (I.stack.of_keeps λb o q _=>⟨o,m.keeps b o q,rfl⟩) λ_ q=>q,.inr ⟨_,he,rfl⟩⟩,.of_keeps m.keeps,m.new⟩
 cases q:(W.hideAll s.heap (iX X.stack)).get? ea with
 |none=>rfl
 |some o=>have:=W.of_hideAll _ q;rw[m.new] at this;cases this
def mK(z:Ex)(fs:FA):FX:=λρ=>match fs ρ with
 |some ds=>if ds.length<=20 then .error (z,ρ) else .ok .no
 |none=>.ok .no
theorem jk {n:Int}{fs:FA}(hm:X.mg x=some (.ref C))(hN:W.nsIn X.K mainGlobals x=some (some (.ref C)))(ho:W.excIn X.K C sT "ValueError.__new__"=true)(hd:X.A.handled=none)(ha:DA X c (e::es) fs)(hg:Gl X x:=by rfl)(hdb:(x==("__debug__":Str))=false:=by decide)
 (he:starEach (e::es) X.env=(false,eval e X.env)::starEach es X.env:=by rfl) (hpl:(backTo cpos (starEach es X.env)).any (·.1)=false:=by rfl):
 ze X c k (.Raise (some (.Call (.Name x np) (e::es) [] cpos)) none pos) (mK ⟨x,n⟩ fs):=λρ ae s σ H D I hq_=>by
 obtain⟨hid,sr,q⟩:=hq_
 unfold mK at q;cases e1:fs ρ with
 |none=>rw[e1] at q;exact q.elim
 |some ds=>
  rw[e1] at q;dsimp only at q
  by_cases hl:ds.length<=20
  ·rw[if_pos hl] at q
   obtain⟨bm,N,nm,qn,bs,hdct,sn,sub,ab,col,dd,k0,k1,k2,k3,k5,mN,hC,hNs,hni,T⟩:=wm I.mod.kin ho
   refine wpAny_Raise_call_subT (C:=C) (nm:=nm) (q:=qn) (N:=N) (bs:=bs) (bm:=bm) (hdct:=hdct) (sn:=sn) (sub:=sub) (ab:=ab) (col:=col) (dd:=dd) (k0:=k0) (k1:=k1) (k2:=k2) (k3:=k3) (k5:=k5)
    F.excBase_ValueError (mN:=mN) (T.hasType F.excBase_ValueError.hasBase) hd (by rw[he];show(false||(backTo cpos (starEach es X.env)).any (·.1))=false;rw[hpl];rfl) hni (jq I hg hm ⟨rfl,?_⟩ hdb)
   have P:=ha hid ρ cpos ae s σ H (λvs H'=>Same H H'/\Reps X.K (vw H' hid) vs ds) I ⟨sr,ds,e1,λvs H' a b=>⟨a,b⟩⟩
   rw[he] at P⊢;refine Calls.evalArgs_plain (wpAny_mono P (λus s1 ⟨vs,H1,I1,r,sm,rp⟩=>⟨rfl,?_,I1.bk _ _ hC,hNs.keeps I1.bk,T.keeps I1.bk,λh' ea m=>?_⟩) λ_ _ y=>y)
   ·show us.length<=sizeLine
    rw[<-r.length,rp.length];exact Nat.le_trans hl (by decide)
   ·exact q σ H1 hid C (sr.ext sm) (bc sm) hN ae ea _ _ rfl rfl (v7 I1 m)
  ·rw[if_neg hl] at q;exact q.elim
end
section
variable {X:Cx}
def Bi(neg:Bool):R2:=λx y H Q=>(y=.non\/ ∃b,y=.bl b)/\Q (.bl (if neg then !decide (x=y) else decide (x=y))) H
theorem Ab:jd X (compareOp .Is) (Bi false):=by
 intro ae s σ H x y v u Q I rx ry h;obtain⟨hy,q⟩:=h
 have key: ∀b:Bool,b=decide (x=y)->EP X ae σ Q (.bool b) s:=λb e=>⟨.bl b,H,I,rfl,by rw[e];exact q⟩
 rcases hy with rfl|⟨b,rfl⟩
 ·cases ry
  exact is_none_gen (key _ rx.none_iff)
 ·cases ry
  cases x with
  |non=>cases rx;exact wpAny_pure (key _ (by simp))
  |bl c=>cases rx;exact wpAny_pure (key _ (by rw[Bool.eq_iff_iff];simp))
  |int _=>obtain⟨t,rfl⟩:=rx;exact wpAny_pure (key _ (by simp))
  |str _=>obtain⟨t,rfl⟩:=rx;exact wpAny_pure (key _ (by simp))
  |byt _=>obtain⟨t,rfl⟩:=rx;exact wpAny_pure (key _ (by simp))
  |flt _=>obtain⟨t,rfl⟩:=rx;exact wpAny_pure (key _ (by simp))
  |ref _=>cases rx;exact wpAny_pure (key _ (by simp))
  |ty _=>cases rx;exact wpAny_pure (key _ (by simp))
theorem ut:jd X (compareOp .IsNot) (Bi true):=by
 intro ae s σ H x y v u Q I rx ry h;obtain⟨hy,q⟩:=h
 have key: ∀b:Bool,b= !decide (x=y)->EP X ae σ Q (.bool b) s:=λb e=>⟨.bl b,H,I,rfl,by rw[e];exact q⟩
 rcases hy with rfl|⟨b,rfl⟩
 ·cases ry
  exact isnot_none_gen (key _ (by rw[rx.none_iff]))
 ·cases ry
  cases x with
  |non=>cases rx;exact wpAny_pure (key _ (by simp))
  |bl c=>cases rx;exact wpAny_pure (key _ (by rw[Bool.eq_iff_iff];simp))
  |int _=>obtain⟨t,rfl⟩:=rx;exact wpAny_pure (key _ (by simp))
  |str _=>obtain⟨t,rfl⟩:=rx;exact wpAny_pure (key _ (by simp))
  |byt _=>obtain⟨t,rfl⟩:=rx;exact wpAny_pure (key _ (by simp))
  |flt _=>obtain⟨t,rfl⟩:=rx;exact wpAny_pure (key _ (by simp))
  |ref _=>cases rx;exact wpAny_pure (key _ (by simp))
  |ty _=>cases rx;exact wpAny_pure (key _ (by simp))
end
def pK:D->D->Bool
 | .non,.non=>true
 | .bl a,.bl b=>a==b
 |_,_=>false
def zh(neg:Bool):D->D->Option D:=λx y=>match y with
 | .non=>some (.bl (if neg then !pK x y else pK x y))
 | .bl _=>some (.bl (if neg then !pK x y else pK x y))
 |_=>none
theorem xE {K:W.Frag}(neg:Bool):kW K .s (Bi neg) (zh neg):=by
 intro H hid v u x y d Q hf h r1 r2 q;have key: ∀ {w:V},Rep1 K H (vw H hid) u y->(u=.non\/ ∃b,u=.bl b)->decide (v=u)=pK x y:=λ{w} _ hu=>by
  cases x with
  |non=>cases r1.non;rcases hu with rfl|⟨b,rfl⟩<;>cases y<;>first|rfl|(cases r2.non;done)|(cases r2.bl;done)|(cases r2.bl;rfl)|(cases r2.int;done)|(cases r2.str;done)|(obtain⟨a,xs,e,_⟩:=r2.tup;cases e;done)|(obtain⟨a,xs,e,_⟩:=r2.lst;cases e;done)|(obtain⟨a,xs,e,_⟩:=r2.scr;cases e;done)
  |bl c=>cases r1.bl;rcases hu with rfl|⟨b,rfl⟩<;>cases y<;>first|rfl|(cases r2.non;done)|(cases r2.bl;show decide (V.bl c=V.bl _)=(c==_);rw[Bool.eq_iff_iff];simp;done)|(cases r2.bl;done)|(cases r2.int;done)|(cases r2.str;done)|(obtain⟨a,xs,e,_⟩:=r2.tup;cases e;done)|(obtain⟨a,xs,e,_⟩:=r2.lst;cases e;done)|(obtain⟨a,xs,e,_⟩:=r2.scr;cases e;done)
  |int i=>cases r1.int;rcases hu with rfl|⟨b,rfl⟩<;>cases y<;>rfl
  |str z=>cases r1.str;rcases hu with rfl|⟨b,rfl⟩<;>cases y<;>rfl
  |tup ds=>obtain⟨a,xs,rfl,_⟩:=r1.tup;rcases hu with rfl|⟨b,rfl⟩<;>cases y<;>rfl
  |lst ds=>obtain⟨a,xs,rfl,_⟩:=r1.lst;rcases hu with rfl|⟨b,rfl⟩<;>cases y<;>rfl
  |scr ds=>obtain⟨a,xs,rfl,_⟩:=r1.scr;rcases hu with rfl|⟨b,rfl⟩<;>cases y<;>rfl
 unfold zh at h;split at h
 ·have hu:u=.non:=r2.non
  cases h
  refine⟨.inl hu,?_⟩
  rw[key (w:=v) r2 (.inl hu)];exact q _ H (Same.refl _) .bl
 ·have hu:=r2.bl
  cases h
  refine⟨.inr ⟨_,hu⟩,?_⟩
  rw[key (w:=v) r2 (.inr ⟨_,hu⟩)];exact q _ H (Same.refl _) .bl
 ·cases h
def oW(kd:Kd)(n:Nat)(t:FX)(ds:List D):Option (Except Ex D):=match t (dX n ds) with
 | .ok (.rt d _)=>some (.ok d)
 | .ok (.nx _)=>(match kd with
   | .n=>none
   |_=>some (.ok .non))
 | .ok _=>none
 | .error z=>some (.error z.1)
section
variable {P:Program}{w:World}{K:W.Frag}{mg:Str->Option Value}{base:Heap}{x:Str}{st:Stmt}{N ps:List Str}{k n:Nat}{kd:Kd}
theorem jb {t:FX}(F:Df K mg x st ps)(S:FnScope N ps (ak st))(hkd:kd≠ .b)(hn:ps.length=n)
 (body: ∀(f:Addr) (cdv:Value) (A:Around) (outer:List Env) (s:Shared) (H:Hp) (hid:cn) (E:XK),Room k (A.deeper (envOfC x (ak st) s.heap.objs.size f cdv))->
   n4 (kR (Al P w) P w K mg base N x (ak st) f cdv A outer s H E) ⟨H,hid,λ_=>false⟩ kd (aG st) t):
 ClX P w K mg base (k+1) x ps (qe K kd n (oW kd N.length t)):=by
 obtain⟨f,fd,F,hm,hb⟩:=F.ex
 subst hn;refine⟨f,fd,?_,hm,F.kp,hb⟩
 obtain⟨oc,od,kV,doc,pm,an,cdv,ct,osl,rfl,lk,hcd⟩:=F.ex
 refine xj lk hcd S (λvs H Q E h=>?_) λA outer s H vs Q E hr h=>?_
 ·obtain⟨hid,ds,_,r,hl,_⟩:=h
  rw[r.length,hl]
 ·obtain⟨hid,ds,tr,r,hl,r0,hP,q⟩:=h
  refine⟨_,body f cdv A outer s H hid E hr (dX N.length ds),hid,SR.begins tr r,?_⟩
  unfold oW at hP;cases e:t (dX N.length ds) with
  |error z=>
   rw[e] at hP;cases hP
   intro σ' H' hid' C sr _ hn ae ea o0 s' hc hd xs;have sm:Same H H':=λb o z=>sr.kp b o z rfl
   exact tM xs hc hd (q C H' sm hn) λs'' h=>h
  |ok o=>
   rw[e] at hP;cases o with
   |nx ρ=>
    intro σ' H' hid' sr _;have sm:Same H H':=λb o z=>sr.kp b o z rfl
    cases kd with
    |b=>exact absurd rfl hkd
    |s=>cases hP;exact q _ H' sm .non
    |n=>cases hP
   |rt d' ρ=>
    cases hP
    intro v H' R;have sm:Same H H':=λb o z=>R.kp b o z rfl
    cases kd with
    |b=>exact absurd rfl hkd
    |s=>exact q v H' sm R.val
    |n=>exact q v H' sm R.val
   |bk ρ=>cases hP
   |ct ρ=>cases hP
   |no=>cases hP
end
def lq(x y:Str):Bool:=x==y||y==("RookError":Str)
structure ExRow(K:W.Frag)(mg:Str->Option Value)(CR:Addr)(x:Str)(C:Addr):Prop where
 mg:mg x=some (.ref C)
 ns:W.nsIn K mainGlobals x=some (some (.ref C))
 cc:ExcC K C
 ty:W.typeIn K (.ref C)=some (.type "type")
 mr: ∃cd,W.clsIn K C=some cd/\cd.mro=(if C=CR then .ref CR::sT else .ref C:: .ref CR::sT)
structure ExTab(K:W.Frag)(mg:Str->Option Value)(CR:Addr)(tbl:List (Str×Addr)):Prop where
 row: ∀p∈tbl,ExRow K mg CR p.1 p.2
 root:(("RookError":Str),CR)∈tbl
 nd:(tbl.map (·.2)).Nodup
section
variable {K:W.Frag}{mg:Str->Option Value}{CR:Addr}{tbl:List (Str×Addr)}
theorem jt: ∀ {l:List (Str×Addr)},(l.map (·.2)).Nodup-> ∀ {p q:Str×Addr},p∈l->q∈l->p.2=q.2->p=q
 | [],_,_,_,h,_,_=>nomatch h
 |a::l,nd,p,q,hp,hq,e=>by
  rw[List.map_cons,List.nodup_cons] at nd;rcases List.mem_cons.mp hp with ep|ep
  ·rcases List.mem_cons.mp hq with eq|eq
   ·rw[ep,eq]
   ·exact absurd (List.mem_map.mpr ⟨q,eq,by rw[<-e,ep]⟩) nd.1
  ·rcases List.mem_cons.mp hq with eq|eq
   ·exact absurd (List.mem_map.mpr ⟨p,ep,by rw[e,eq]⟩) nd.1
   ·exact jt nd.2 ep eq e
theorem ExTab.addr(T:ExTab K mg CR tbl){p q:Str×Addr}(hp:p∈tbl)(hq:q∈tbl)(e:p.1=q.1):p.2=q.2:=by
 have h1:=(T.row p hp).ns
 have h2:=(T.row q hq).ns
 rw[e,h2] at h1;injection h1 with h1
 injection h1 with h1
 exact(Value.ref.inj h1).symm
theorem ExTab.mro(T:ExTab K mg CR tbl){p q:Str×Addr}(hp:p∈tbl)(hq:q∈tbl):W.mroIn K p.2 (.ref q.2)=some (lq p.1 q.1):=by
 obtain⟨cd,h1,h2⟩:=(T.row p hp).mr
 unfold W.mroIn;rw[h1,Option.bind_some,h2];have hr:q.2=CR↔q.1=("RookError":Str):=⟨λe=>by rw[jt T.nd hq T.root e],λe=>T.addr hq T.root e⟩
 have hs:p.2=q.2↔p.1=q.1:=⟨λe=>by rw[jt T.nd hp hq e],T.addr hp hq⟩
 have ev:lq p.1 q.1=(decide (p.2=q.2)||decide (q.2=CR)):=by
  unfold lq;congr 1
  ·rw[Bool.eq_iff_iff,beq_iff_eq,decide_eq_true_eq];exact hs.symm
  ·rw[Bool.eq_iff_iff,beq_iff_eq,decide_eq_true_eq];exact hr.symm
 rw[ev]
 by_cases e:p.2=CR
 ·rw[if_pos e,if_neg (by simp)]
  congr 1
  rw[e,Bool.eq_iff_iff,List.contains_iff_mem,Bool.or_eq_true,decide_eq_true_eq,decide_eq_true_eq,List.mem_cons];exact⟨λh=>h.elim (λh=>.inl (Value.ref.inj h).symm) λh=>by simp[sT] at h,λh=>.inl (h.elim (λh=>by rw[h]) λh=>by rw[h])⟩
 ·rw[if_neg e,if_neg (by simp)]
  congr 1
  rw[Bool.eq_iff_iff,List.contains_iff_mem,Bool.or_eq_true,decide_eq_true_eq,decide_eq_true_eq,List.mem_cons,List.mem_cons];exact⟨λh=>h.elim (λh=>.inl (Value.ref.inj h).symm) λh=>h.elim (λh=>.inr (Value.ref.inj h)) λh=>by simp[sT] at h,λh=>h.elim (λh=>.inl (by rw[h])) λh=>.inr (.inl (by rw[h]))⟩
end
section
variable {X:Cx}{c:Ct}{k:Kd}{e:Expr}{pos p p1 p2 p3 py:Pos}{x y z:Str}{i:Nat}{CR C:Addr}{tbl:List (Str×Addr)}
theorem wM {ns:List Str}{tbl:List (Str×Addr)}(e:tbl.map (·.1)=ns){x:Str}(h:ns.contains x=true): ∃C,(x,C)∈tbl:=by
 rw[<-e,List.contains_iff_mem] at h;obtain⟨q,h1,h2⟩:=List.mem_map.mp h
 exact⟨q.2,by rw[<-h2];exact h1⟩
variable(T:ExTab X.K X.mg CR tbl)
include T
end
abbrev Cx.inTry(X:Cx)(pn:List (Addr×Obj))(E:Value->Shared->Prop):Cx:={X with pn:=pn,xe:=E}
abbrev Cx.caught(X:Cx)(v:Option Value):Cx:={X with A:=X.A.mark v,calm:=false,xe:=λ_ _=>False}
section
variable {X:Cx}{ae pins':List (Addr×Obj)}{σ:St}{H:Hp}{s:Shared}{E:Value->Shared->Prop}{v:Option Value}{a:Addr}
theorem Cx.Ok.inTry {pn:List (Addr×Obj)}(ok:X.Ok):(X.inTry pn E).Ok:=⟨ok.mod,ok.kind,ok.glob,ok.blt,ok.above,ok.inj,ok.has,ok.cab,ok.hd,ok.frames,ok.stk,ok.exf,ok.bs,ok.bsz,ok.noex,ok.exfs,ok.funs,ok.frf⟩
theorem Cx.Ok.outTry {pn:List (Addr×Obj)}(ok:(X.inTry pn E).Ok):X.Ok:=⟨ok.mod,ok.kind,ok.glob,ok.blt,ok.above,ok.inj,ok.has,ok.cab,ok.hd,ok.frames,ok.stk,ok.exf,ok.bs,ok.bsz,ok.noex,ok.exfs,ok.funs,ok.frf⟩
theorem Inv.inTry(I:Inv X ae σ H s):Inv (X.inTry (X.pn++ae) E) [] σ H s:=
 ⟨I.ok.inTry,I.os,I.bare,I.base,I.loc,I.cell,I.free,I.freeC,λp hp=>I.pin p (by rw[List.append_nil] at hp;exact hp),I.hok,I.len⟩
theorem Inv.outTry(I:Inv (X.inTry (X.pn++ae) E) pins' σ H s):Inv X ae σ H s:=
 ⟨I.ok.outTry,I.os,I.bare,I.base,I.loc,I.cell,I.free,I.freeC,λp hp=>I.pin p (List.mem_append_left _ hp),I.hok,I.len⟩
theorem Inv.caught(I:Inv X ae σ H s):Inv (X.caught v) ae σ H s:=
 ⟨⟨I.ok.mod,I.ok.kind,I.ok.glob,I.ok.blt,I.ok.above,I.ok.inj,I.ok.has,I.ok.cab,(λq=>nomatch q),I.ok.frames,I.ok.stk,I.ok.exf,I.ok.bs,I.ok.bsz,I.ok.noex,I.ok.exfs,I.ok.funs,I.ok.frf⟩,I.os,I.bare,I.base,I.loc,I.cell,I.free,I.freeC,I.pin,I.hok,I.len⟩
theorem Inv.uncaught(ok:X.Ok)(I:Inv (X.caught v) ae σ H s):Inv X ae σ H s:=⟨ok,I.os,I.bare,I.base,I.loc,I.cell,I.free,I.freeC,I.pin,I.hok,I.len⟩
theorem SP.outTry {D:Ends}{f:Flow}(h:SP (X.inTry (X.pn++ae) E) pins' D f s):SP X ae D f s:=by
 cases f with
 |next=>obtain⟨σ',H',I,q⟩:=h;exact⟨σ',H',I.outTry,q⟩
 |brk=>obtain⟨σ',H',I,q⟩:=h;exact⟨σ',H',I.outTry,q⟩
 |cont=>obtain⟨σ',H',I,q⟩:=h;exact⟨σ',H',I.outTry,q⟩
 |ret u=>obtain⟨v,σ',H',I,r,q⟩:=h;exact⟨v,σ',H',I.outTry,r,q⟩
theorem XS.outTry {o0:Obj}{ea:Addr}(x:XS (X.inTry (X.pn++ae) E) pins' σ H o0 ea s):XS X ae σ H o0 ea s:=by
 obtain⟨g,F,I,aw,fl,up,gn⟩:=x
 exact⟨g,F,I.outTry,⟨aw.1,λb hb nb=>⟨(aw.2 b hb nb).1,(aw.2 b hb nb).2.1,(aw.2 b hb nb).2.2.1,(aw.2 b hb nb).2.2.2.1,λp hp=>(aw.2 b hb nb).2.2.2.2 p (List.mem_append_left _ hp)⟩⟩,fl,up,gn⟩
theorem ObjOk.there {P:Program}{w:World}{h:Heap}{o:HO}(x:ObjOk P w H h a o): ∃u,h.get? a=some u:=by
 cases o with
 |lst xs=>obtain⟨_,_,_,_,e⟩:=x;exact⟨_,e⟩
 |tup xs=>obtain⟨_,_,_,⟨_,e,_⟩,_⟩:=x;exact⟨_,e⟩
 |dK kvs=>obtain⟨_,_,_,_,o,_,_,e,_⟩:=x;exact⟨_,e⟩
 |dT kvs=>obtain⟨_,_,_,_,o,_,_,e,_⟩:=x;exact⟨_,e⟩
 |set S n=>obtain⟨o,_,_,_,e,_⟩:=x;exact⟨_,e⟩
 |tst xs=>obtain⟨o,_,_,_,e,_⟩:=x;exact⟨_,e⟩
 |ins C dx fs=>obtain⟨_,_,_,e,_⟩:=x;exact⟨_,e⟩
 |own y=>obtain⟨_,e⟩:=x;exact⟨_,e⟩
 |xd fs=>obtain⟨_,⟨_,_,_,e,_⟩,_⟩:=x;exact⟨_,e⟩
 |rng lo hi=>obtain⟨_,_,_,e⟩:=x;exact⟨_,e⟩
 |frz ob u=>obtain⟨e,_⟩:=x;exact⟨_,e⟩
 |tbl ps=>exact⟨_,show h.get? a=some _ from x⟩
 |met f y=>exact⟨_,show h.get? a=some _ from x⟩
 |ext φ=>obtain⟨_,⟨_,e⟩,_⟩:=x;exact⟨_,e⟩
theorem Inv.newer {g:Heap}(Ig:Inv X ae σ H {s with heap:=g})(gn:g.get? a=none):H a=none:=by
 cases q:H a with
 |none=>rfl
 |some u=>
  obtain⟨o,e⟩:=(Ig.hok a u q).there
  rw[show g.get? a=some o from e] at gn;cases gn
theorem Inv.track {g:Heap}{o:Obj}{φ:Heap->Prop}(I:Inv X ae σ H s)(Ig:Inv X ae σ H {s with heap:=g})(gn:g.get? a=none)(ho:s.heap.get? a=some o)(hφ:φ s.heap)
 (hst: ∀h1 h2:Heap,φ h1->(∀o,h1.get? a=some o->h2.get? a=some o)->φ h2):Inv X ae σ (dv H a (.ext φ)) s:=by
 have Ha:=Ig.newer gn
 have ne: ∀ {b o},g.get? b=some o->b≠a:=λ{b o} e z=>by rw[z,gn] at e;cases e
 have nt: ∀ {b u},H b=some u->b≠a:=λ{b u} e z=>by rw[z,Ha] at e;cases e
 have hL:X.env.locals≠a:=by
  obtain⟨m,⟨o',es,ep,e,_⟩,_⟩:=Ig.loc
  exact ne e
 refine⟨I.ok,I.os,I.bare,⟨I.base.keep,I.base.slot,λb ob e n hx=>?_,I.base.there,λb xs e=>?_,λb ob u e=>?_,λb ps e=>?_⟩,I.loc,I.cell,?_,λx c e=>?_,λp hp=>?_,λb u e=>?_,I.len⟩
 ·obtain⟨o',e'⟩:=Ig.base.there b ob e hx
  rw[aR (ne e')];exact I.base.free b ob e n hx
 ·have:=I.base.tups b xs e
  rw[aR (nt this)];exact this
 ·have:=I.base.frzs b ob u e
  rw[aR (nt this)];exact this
 ·obtain⟨m,e'⟩:=I.base.tbls b ps e
  exact⟨m,by rw[aR (nt e')];exact e'⟩
 ·rw[aR hL];exact I.free
 ·obtain⟨w,o',e',_⟩:=Ig.cell x c e
  rw[aR (ne e')];exact I.freeC x c e
 ·obtain⟨h1,h2,h3⟩:=I.pin p hp
  exact⟨h1,by rw[aR (ne (Ig.pin p hp).1)];exact h2,h3⟩
 ·by_cases z:b=a
  ·subst z
   rw[bM] at e;cases e
   exact⟨hφ,⟨o,ho⟩,hst⟩
  ·rw[aR z] at e
   exact(I.hok b u e).stay (λ_ _ _ q=>q) (λc q=>by rw[aR (nt q)];exact q) λc xs q=>by rw[aR (nt q)];exact q
theorem Inv.blind {h':Heap}{t':Nat}{m':Str->Option Value}(I:Inv X ae σ H s)(hn:h'.Ns X.env.locals m')(sb:Heap.SameBut X.env.locals s.heap h'):Inv X ae (List.replicate X.N.length none) H {s with heap:=h',toks:=t'}:=by
 have kp: ∀b o,b≠X.env.locals->s.heap.get? b=some o->h'.get? b=some o:=λb o n e=>(sb.2 b n).trans e
 have n0: ∀ {b o},X.s₀.heap.get? b=some o->b≠X.env.locals:=λ{b o} e z=>by
  have:=Heap.lt_size e
  rw[z] at this;exact absurd this (Nat.not_lt.mpr I.ok.above)
 refine⟨I.ok,I.os,I.bare,⟨λb o e n hf hx=>kp b o (n0 e) (I.base.keep b o e n hf hx),λb o e n hf hx=>?_,I.base.free,λb o e hx=>?_,I.base.tups,I.base.frzs,I.base.tbls⟩,⟨m',hn,λi x v _ e=>?_⟩,λx c e=>?_,I.free,I.freeC,λp hp=>?_,λb u e=>?_,by simp⟩
 ·obtain⟨sl,q⟩:=I.base.slot b o e n hf hx
  exact⟨sl,kp b _ (n0 e) q⟩
 ·obtain⟨o',q⟩:=I.base.there b o e hx
  exact⟨o',kp b _ (n0 e) q⟩
 ·rw[List.getElem?_replicate] at e
  split at e<;>cases e
 ·obtain⟨v,o,q,r⟩:=I.cell x c e
  exact⟨v,o,kp c o (I.cne x c e) q,r⟩
 ·obtain⟨h1,h2,h3,h4⟩:=I.pin p hp
  exact⟨kp _ _ h3 h1,h2,h3,h4⟩
 ·refine(I.hok b u e).stay (λc o hc q=>kp c o (λz=>?_) q) (λ_ q=>q) λ_ _ q=>q
  have:=I.free
  rw[<-z] at this;rcases hc with rfl|hc
  ·rw[e] at this;cases this
  ·rw[hc] at this;cases this
end
section
variable {K:W.Frag}{c:Ct}{hid:cn}{ρ:aL}{σ:St}{H:Hp}{a:Addr}{x:Str}{n:Int}
theorem SR.setEx(h:SR K c hid ρ σ H)(ho:ObOk K c hid H a (.exc x n))(i:Nat):SR K c hid (ρ.set i (.ob (.exc x n))) (σ.set i (some (.ref a))) H:=by
 have nj: ∀m,Ow (ρ.set i (.ob (.exc x n)))[m]? ->m≠i:=λm o e=>by
  subst e
  by_cases lt:m<ρ.length
  ·rw[List.getElem?_set_self lt] at o;exact o
  ·rw[List.getElem?_eq_none (by simpa using lt)] at o;exact o
 refine⟨h.tr,h.ht,h.h0,h.kp,h.t0,h.c0,h.m0,by simp[h.len],λj s q=>?_,λj l z ne o1 o2 q1 q2=>?_⟩
 ·by_cases e:j=i
  ·subst e
   have lt:j<ρ.length:=by
    have:=(List.getElem?_eq_some_iff.mp q).1
    simpa using this
   rw[List.getElem?_set_self lt] at q;cases q
   exact⟨a,List.getElem?_set_self (by rw[h.len];exact lt),ho⟩
  ·rw[List.getElem?_set_ne (Ne.symm e)] at q
   have w:=h.sl j s q
   have es:(σ.set i (some (V.ref a)))[j]? =σ[j]? :=List.getElem?_set_ne (Ne.symm e)
   cases s with
   |no=>trivial
   |v d=>obtain⟨x,h1,h2⟩:=w;exact⟨x,es.trans h1,h2⟩
   |own ds=>obtain⟨a,xs,h1,h2⟩:=w;exact⟨a,xs,es.trans h1,h2⟩
   |arg ds=>obtain⟨a,xs,h1,h2⟩:=w;exact⟨a,xs,es.trans h1,h2⟩
   |ob b=>obtain⟨a,h1,h2⟩:=w;exact⟨a,es.trans h1,h2⟩
 ·have e1:=nj j o1
  have e2:=nj l o2
  rw[List.getElem?_set_ne (Ne.symm e1)] at o1 q1;rw[List.getElem?_set_ne (Ne.symm e2)] at o2 q2;exact h.ap j l z ne o1 o2 q1 q2
end
theorem InFl.keeps {B:Heap}{l:List Env}{e:Addr}{o0:Obj}{h h':Heap}(x:InFl B l e o0 h)(k: ∀b o,h.get? b=some o->h'.get? b=some o):InFl B l e o0 h':=by
 refine⟨λb o q=>k b o (x.st b o q),x.ne,x.ff.of_keeps λb o q _=>⟨o,k b o q,rfl⟩,?_⟩
 rcases x.tr with⟨vs,T,oT,ts,h1,h2,h3,h4,h5,h6⟩|⟨vs,h1,h2⟩
 ·exact .inl ⟨vs,T,oT,ts,k _ _ h1,h2,h3,h4,k _ _ h5,h6⟩
 ·exact .inr ⟨vs,k _ _ h1,h2⟩
theorem Trc.keeps {B:Heap}{e:Addr}{o0:Obj}{h h':Heap}(x:Trc h B e o0)(k: ∀b o,h.get? b=some o->h'.get? b=some o):Trc h' B e o0:=by
 obtain⟨vs,T,oT,ts,h1,h2,h3,h4,h5,h6⟩:=x
 exact⟨vs,T,oT,ts,k _ _ h1,h2,h3,h4,k _ _ h5,h6⟩
section
variable {K:W.Frag}{M:Model}{A:Around}{E:Value->Shared->Prop}{s:Shared}{ea C D:Addr}{o:Obj}{b:Bool}
theorem ExcC.isExc(X:ExcC K D){h:Heap}(KI:K.In h):W.Looks M h (isExcClass (.ref D)) true:=by
 have L:W.Looks M h (isType (.ref D)) true:=by
  obtain⟨cd,hc⟩:=X.cls
  unfold W.clsIn at hc;split at hc
  ·rename_i c' d' cd' sl' ho
   intro A' Q' E' s' k q;unfold isType loadHead;exact wpAny_bind (wpAny_loadPart (k _ _ (KI _ _ ho)) (wpAny_pure q))
  ·cases hc
 unfold isExcClass;refine L.andThen ?_
 exact W.looks_mroIn KI X.mb
end
section
variable {K:W.Frag}{M:Model}{A:Around}{E:Value->Shared->Prop}{s:Shared}{ea C:Addr}{o:Obj}
theorem wT:isSubtype (.type "tuple") (.type "tuple")=pure true:=by rw[isSubtype_type];kernel_rfl
theorem qV {h:Heap}{Q:PUnit->Shared->Prop}: ∀(ds:List Addr),(∀D∈ds,W.Looks M h (isExcClass (.ref D)) true)->s.heap=h->Q ⟨⟩ s->
 wpAny M A (forIn (ds.map Value.ref) PUnit.unit λc r=>do
  if(!(<-isExcClass c))=true then do
   rule "try.except-non-exception-class"
   raiseError "TypeError" "catching classes that do not inherit from BaseException is not allowed"
   pure (ForInStep.yield PUnit.unit)
  else pure (ForInStep.yield PUnit.unit)) Q E s
 | [],_,_,q=>wpAny_pure q
 |D::ds,h1,hs,q=>by
  rw[List.map_cons,List.forIn_cons];refine wpAny_bind (wpAny_bind ((h1 D List.mem_cons_self) A _ E s (λb o e=>by rw[hs];exact e) ?_))
  simp only[Bool.not_true,Bool.false_eq_true,if_false];exact wpAny_pure (qV ds (λD hD=>h1 D (List.mem_cons_of_mem _ hD)) hs q)
theorem rq {h:Heap}{te:Value}{Q:Option Bool×PUnit->Shared->Prop}(f:Addr->Bool): ∀(ds:List Addr),(∀D∈ds,W.Looks M h (isSubtype te (.ref D)) (f D))->s.heap=h->Q (if ds.any f=true then some true else none,⟨⟩) s->
 wpAny M A (forIn (ds.map Value.ref) ((none:Option Bool),PUnit.unit) λc r=>do
  if(<-isSubtype te c)=true then pure (ForInStep.done (some true,PUnit.unit))
  else pure (ForInStep.yield (none,PUnit.unit))) Q E s
 | [],_,_,q=>wpAny_pure q
 |D::ds,h1,hs,q=>by
  rw[List.map_cons,List.forIn_cons];refine wpAny_bind (wpAny_bind ((h1 D List.mem_cons_self) A _ E s (λb o e=>by rw[hs];exact e) ?_))
  rw[List.any_cons] at q;cases e:f D with
  |true=>rw[e] at q;simp only[if_true];exact wpAny_pure (wpAny_pure q)
  |false=>
   rw[e,Bool.false_or] at q;simp only[Bool.false_eq_true,if_false];exact wpAny_pure (rq f ds (λD hD=>h1 D (List.mem_cons_of_mem _ hD)) hs q)
theorem wO {Q:Bool->Shared->Prop}{tp:Addr}{ot:Obj}{nn:Nat}{ds:List Addr}{f:Addr->Bool}(KI:K.In s.heap)(I:W.InstAt s.heap ea o C none)(ht:s.heap.get? tp=some ot)(hc:ot.cls=.type "tuple")(hd:ot.data=.seq (ds.map Value.ref).toArray nn)
 (X: ∀D∈ds,ExcC K D) (hm: ∀D∈ds,W.mroIn K C (.ref D)=some (f D)) (q:Q (ds.any f) s):wpAny M A (excMatches (.ref ea) (.ref tp)) Q E s:=by
 obtain⟨hh,g,d,t,os⟩:=s
 have T:W.Looks M hh (typeOf (.ref tp)) (.type "tuple"):=hc▸(W.Looks.ld (M:=M) ht).andThen .now
 have L0:W.Looks M hh (isInstance (.ref tp) (.type "tuple")) true:=T.andThen (W.Looks.of_pure wT)
 have L2:=I.type (M:=M)
 obtain⟨oc,od,dt,sl⟩:=ot
 dsimp only at hc hd;subst hc hd;have LS:W.Looks M hh (seqItems? (.ref tp)) (some (ds.map Value.ref).toArray):=by
  unfold seqItems?
  first
   |exact(W.Looks.ld (M:=M) ht).andThen .now
   |(intro A' Q' E' s' k q;exact wpAny_bind (wpAny_loadPart (k _ _ ht) (wpAny_pure q)))
 unfold excMatches;refine wpAny_bind (L0.at ?_)
 simp only[if_true];refine wpAny_bind (LS.at ?_)
 refine wpAny_bind (wpAny_pure ?_)
 simp only[Option.getD_some,List.toList_toArray];refine wpAny_bind (qV ds (λD hD=>(X D hD).isExc KI) rfl ?_)
 refine wpAny_bind (L2.at ?_)
 refine wpAny_bind (rq f ds (λD hD=>W.looks_mroIn KI (hm D hD)) rfl ?_)
 cases e:ds.any f with
 |true=>rw[e] at q;exact wpAny_pure q
 |false=>rw[e] at q;exact wpAny_pure q
end
def By(X:Cx)(te:Expr)(ns ys:List Str):Prop:= ∀(v:Option Value) (ae:List (Addr×Obj)) (s:Shared) (σ:St) (H:Hp) (ea:Addr) (x:Str) (C:Addr) (o:Obj) (Q:Bool->Shared->Prop),Inv (X.caught v) ae σ H s->ns.contains x=true->
 W.nsIn X.K mainGlobals x=some (some (.ref C))->W.InstAt s.heap ea o C none->(∀s1 H1,Inv (X.caught v) ae σ H1 s1->Same H H1->(∀b o,s.heap.get? b=some o->s1.heap.get? b=some o)->s1.os=s.os->s1.gens=s.gens->Q (ys.any λy=>lq x y) s1)->
 wpAny (model X.prog X.w) (X.A.mark v) (eval te X.env) (λc s₁=>wpAny (model X.prog X.w) (X.A.mark v) (excMatches (.ref ea) c) Q (λ_ _=>False) s₁) (λ_ _=>False) s
theorem DA.nox {X:Cx}{c:Ct}{es:List Expr}{f:FA}(h:DA X.nox c es f):DA X c es f:=λhid ρ p ae s σ H Q I hw=>
 wpAny_mono (h hid ρ p ae s σ H Q (I.wish _) hw) (λ_ _ ⟨v,H',I',r,q⟩=>⟨v,H',I'.unwish,r,q⟩) λ_ _ z=>False.elim z
theorem ux {X:Cx}{c:Ct}{x:Str}{n:Int}{pos:Pos}(h: ∃tk,X.mg x=some (.int n tk))(hg:Gl X x:=by rfl)(hd:(x==("__debug__":Str))=false:=by decide):DP X c .s (.Name x pos) (au (.int n)):=λhid ρ=>by
 obtain⟨tk,hm⟩:=h
 exact PE.imp (v0 (v:=.int n) hg hm ⟨tk,rfl⟩ hd) λσ H Q ⟨sr,d,hd,q⟩=>by cases hd;exact q _ H (Same.refl _) .int
theorem tR {α:Type}{P:α->Prop}: ∀q∈([]:List α),P q:=λ_ h=>nomatch h
theorem kS {α:Type}{P:α->Prop}{r:List α}{a:α}(h:P a)(hr: ∀q∈r,P q): ∀q∈a::r,P q:=λq hq=>(List.mem_cons.mp hq).elim (λe=>by rw[e];exact h) (hr q)
abbrev BP(X:Cx):Prop:=X.stack=X.env::X.outer/\X.env.frame=some X.env.locals
def qE(i:Nat)(ns ys:List Str)(t:FX)(u:FS):FS:=λρ=>match t ρ with
 | .ok o=>o
 | .error z=>if ns.contains z.1.x=true/\(ys.any λy=>lq z.1.x y)=true then(match u (z.2.set i (.ob (.exc z.1.x z.1.n))) with
    | .rt d ρ2=>.rt d ρ2
    |_=>.no) else .no
section
variable {X:Cx}{c:Ct}{k:Kd}{body suite:List Stmt}{b0:Stmt}{te:Expr}{n:Str}{hpos pos:Pos}{t:FX}{u:FS}{ns ys:List Str}{i:Nat}
theorem tx(i:Nat)(hN:X.N.Nodup)(hf:BP X)(hb: ∀pn E,n4 (X.inTry pn E) c k body t)(hc:By X te ns ys)(hs: ∀v,oS (X.caught v) c k (b0::suite) u)(hi:X.N[i]? =some n:=by rfl)(hl:X.env.scope.names.lookup n=some .local:=by rfl):
 DS X c k (.Try body [.ExceptHandler (some te) (some n) (b0::suite) hpos] [] [] pos) (qE i ns ys t u):=λρ ae s σ H D I hq_=>by
 obtain⟨hid,sr,q⟩:=hq_
 unfold qE at q;refine wpAny_Try_except (wpAny_mono (hb (X.pn++ae) (λe s₁=>wpAny (model X.prog X.w) X.A (noteFrame e X.env) (λ_ s₂=>wpAny (model X.prog X.w) X.A (setFlight e none) (λ_ s₃=>
  wpAny (model X.prog X.w) X.A (handleBy e X.env [.ExceptHandler (some te) (some n) (b0::suite) hpos]) (SP X ae D) X.xe s₃) X.xe s₂) X.xe s₁) ρ [] s σ H D I.inTry ⟨hid,sr,?_⟩) (λf s₁ h₁=>?_) λe s₁ h=>h)
 ·cases e:t ρ with
  |ok o=>rw[e] at q;exact q
  |error zz=>
   obtain⟨z,ρ'⟩:=zz
   rw[e] at q;dsimp only at q;intro σ' H' hid' C sr' sm hn pins' ea o0 s' hcls hdict xs;obtain⟨g,F,Ig,aw,fl,up,gn⟩:=xs.outTry
   split at q
   ·rename_i hz
    obtain⟨stk,frm⟩:=hf
    have hfr:X.A.frames=some (X.env::X.outer):=by rw[<-stk];exact I.ok.frames
    have fl0:InFl (W.hideAll g F) (X.env::X.outer) ea o0 s'.heap:=by rw[<-stk];exact fl
    refine rf hfr frm fl0 λh1 fl1 tr1 up1=>?_
    have I1:Inv X ae σ' H' {s' with heap:=h1}:=XS.inv (s':={s' with heap:=h1}) ⟨g,F,Ig,aw,by rw[stk];exact fl1,up.trans up1,gn⟩
    have inst: ∀ {h:Heap},Trc h (W.hideAll g F) ea o0-> ∃o,W.InstAt h ea o C none:=λ{h} tr=>by
     obtain⟨vs,_,_,_,he,_⟩:=tr
     exact⟨_,he,hcls,rfl,by show(match o0.dict,none with|some dx,some o=>h.get? dx=some o|none,none=>True|_,_=>False);rw[hdict];trivial⟩
    obtain⟨o1,io⟩:=inst tr1
    refine wpAny_handleBy_cons (codeAny_handlers_test ?_) (by intro q;cases q)
    refine wpAny_mono (hc (some (.ref ea)) ae _ σ' H' ea z.x C o1 _ I1.caught hz.1 hn io λs2 H2 I2 sm2 kp2 os2 gs2=>?_) (λcl s₂ h₂=>wpAny_mono h₂ (λ_ _ z=>z) λ_ _ z=>z.elim) λ_ _ z=>z.elim
    rw[hz.2];simp only[if_true];refine codeAny_handlers_suite_as ?_
    have I2':Inv X ae σ' H2 s2:=I2.uncaught I.ok
    have fl2:=fl1.keeps kp2
    have tr2:=tr1.keeps kp2
    refine wV fl2 tr2 λh3 fl3 tr3 up3=>?_
    have gk: ∀b o,g.get? b=some o->b∉F->s2.heap.get? b=some o:=λb o e nF=>fl2.st b o (W.hideAll_get _ e nF)
    have I3:Inv X ae σ' H' {s2 with heap:=h3}:=XS.inv (s':={s2 with heap:=h3}) ⟨g,F,by
     have:=Ig
     exact⟨this.ok,by show s2.os=_;rw[os2];exact this.os,by show AllBare s2.gens;rw[gs2];exact this.bare,this.base,this.loc,this.cell,this.free,this.freeC,this.pin,this.hok,this.len⟩,aw,by rw[stk];exact fl3,(up.trans up1).trans ((Heap.UpToSlots.of_keeps kp2).trans up3),gn⟩
    obtain⟨o3,io3⟩:=inst tr3
    have Ig':Inv X ae σ' H' {s2 with heap:=g}:=⟨Ig.ok,by show s2.os=_;rw[os2];exact Ig.os,by show AllBare s2.gens;rw[gs2];exact Ig.bare,Ig.base,Ig.loc,Ig.cell,Ig.free,Ig.freeC,Ig.pin,Ig.hok,Ig.len⟩
    have exat: ∀ {h:Heap},(∃o,W.InstAt h ea o C none)->pR X.K z.x z.n ea h:=λ{h} ⟨o,io⟩=>⟨C,o,hn,io.at_,io.cls,by have:=io.dict;cases hd:o.dict with|none=>rfl|some dx=>rw[hd] at this;exact this.elim,io.no⟩
    have I4:Inv X ae σ' (dv H' ea (.ext (pR X.K z.x z.n ea))) {s2 with heap:=h3}:=I3.track (g:=g) Ig' gn io3.at_ (exat ⟨o3,io3⟩) λk1 k2 ⟨C',o',w1,w2,w3⟩ kk=>⟨C',o',w1,kk _ w2,w3⟩
    have Hn:H' ea=none:=Ig.newer gn
    have sr4:SR X.K c hid' ρ' σ' (dv H' ea (.ext (pR X.K z.x z.n ea))):=sr'.ext (ca Hn _)
    have ob4:ObOk X.K c hid' (dv H' ea (.ext (pR X.K z.x z.n ea))) ea (.exc z.x z.n):=⟨_,vw_some.mpr ⟨sr'.fresh Hn,bM⟩,λh q=>q⟩
    refine i6 (v:=.ref ea) I4 hN hi (.inl hl) rfl (λs5 I5=>?_) (.inr hl)
    have sr5:=sr4.setEx ob4 i
    cases eu:u (ρ'.set i (.ob (.exc z.x z.n))) with
    |rt d ρ2=>
     rw[eu] at q;refine wpAny_mono (hs (some (.ref ea)) (ρ'.set i (.ob (.exc z.x z.n))) ae s5 _ _ {nx:=λ_ _=>False,rt:=D.rt} I5.caught ⟨hid',sr5,by rw[eu];exact q⟩) (λf s6 h6=>?_) λ_ _ z=>z.elim
     cases f with
     |next=>obtain⟨_,_,_,z⟩:=h6;exact z.elim
     |brk=>obtain⟨_,_,_,z⟩:=h6;exact z.elim
     |cont=>obtain⟨_,_,_,z⟩:=h6;exact z.elim
     |ret u6=>
      obtain⟨v6,σ6,H6,I6,r6,q6⟩:=h6
      have J6:=I6.uncaught I.ok
      obtain⟨m6,n6,_⟩:=J6.loc
      exact wpAny_nameGoes hl n6 (by rw[J6.ok.kind];rfl) λh7 m7 n7 sb7=>⟨v6,_,H6,J6.blind n7 sb7,r6,q6⟩
    |nx ρ2=>rw[eu] at q;exact q.elim
    |bk ρ2=>rw[eu] at q;exact q.elim
    |ct ρ2=>rw[eu] at q;exact q.elim
    |no=>rw[eu] at q;exact q.elim
   ·exact q.elim
 ·cases f with
  |next=>exact wpAny_execs_nil (SP.outTry h₁)
  |brk=>exact SP.outTry h₁
  |cont=>exact SP.outTry h₁
  |ret u=>exact SP.outTry h₁
end
section
variable {X:Cx}{y1 y2:Str}{x1:Nat}{p1 p2 p3:Pos}{CR D1 D2:Addr}{tbl:List (Str×Addr)}{ns:List Str}(T:ExTab X.K X.mg CR tbl)
include T
theorem wC(hT:tbl.map (·.1)=ns)(h1:(y1,D1)∈tbl)(h2:(y2,D2)∈tbl)(hg1:Gl X y1:=by rfl)(hd1:(y1==("__debug__":Str))=false:=by decide)(hg2:Gl X y2:=by rfl)(hd2:(y2==("__debug__":Str))=false:=by decide)
 (hs1:starEach [.Name y1 p1,.Name y2 p2] X.env=(false,eval (.Name y1 p1) X.env)::starEach [.Name y2 p2] X.env:=by rfl) (hs2:starEach [.Name y2 p2] X.env=(false,eval (.Name y2 p2) X.env)::starEach [] X.env:=by rfl):By X (.Tuple [.Name y1 p1,.Name y2 p2] x1 p3) ns [y1,y2]:=by
 intro v ae s σ H ea x C o Q I hx hC io q;obtain⟨C',hC'⟩:=wM hT hx
 have:C'=C:=by
  have:=(T.row _ hC').ns
  rw[hC] at this;injection this with this;injection this with this
  exact(Value.ref.inj this).symm
 subst this;refine wpAny_Tuple_spliced ?_
 rw[hs1];refine Calls.spliced_cons (jq (X:=X.caught v) I hg1 (T.row _ h1).mg ?_ hd1)
 rw[hs2];refine Calls.spliced_cons (jq (X:=X.caught v) I hg2 (T.row _ h2).mg ?_ hd2)
 refine Calls.spliced_nil ⟨by show 2<=sizeLine;decide,?_⟩
 have kp: ∀b u,s.heap.get? b=some u->(s.heap.push {cls:=.type "tuple",dict:=none,data:=.seq ([Value.ref D1,Value.ref D2]:List Value).toArray 0}).get? b=some u:=λb u e=>Heap.get?_push_of_some _ e
 have I2:Inv (X.caught v) ae σ H {s with heap:=s.heap.push {cls:=.type "tuple",dict:=none,data:=.seq ([Value.ref D1,Value.ref D2]:List Value).toArray 0}}:=I.kept (t':=s.toks) kp
 refine wO (ds:=[D1,D2]) (f:=λD=>if D=D1 then lq x y1 else lq x y2) I2.kIn (C:=C') (o:=o) ⟨kp _ _ io.at_,io.cls,io.no,?_⟩ (Heap.get?_push_size _ rfl) rfl rfl (λD hD=>?_) (λD hD=>?_) ?_
 ·have:=io.dict
  cases hd:o.dict with
  |none=>trivial
  |some dx=>rw[hd] at this;exact this.elim
 ·rcases List.mem_cons.mp hD with rfl|hD
  ·exact(T.row _ h1).cc
  ·rw[List.mem_singleton] at hD;subst hD;exact(T.row _ h2).cc
 ·rcases List.mem_cons.mp hD with rfl|hD
  ·rw[if_pos rfl];exact T.mro hC' h1
  ·rw[List.mem_singleton] at hD;subst hD
   by_cases e:D=D1
   ·subst e
    rw[if_pos rfl];exact T.mro hC' h1
   ·rw[if_neg e];exact T.mro hC' h2
 ·have:=q _ H I2 (Same.refl _) kp rfl rfl
  have ev:([D1,D2].any λD=>if D=D1 then lq x y1 else lq x y2)=([y1,y2].any λy=>lq x y):=by
   simp only[List.any_cons,List.any_nil,Bool.or_false,if_true]
   by_cases e:D2=D1
   ·have:=jt T.nd h2 h1 e
    injection this with e1 e2
    rw[e,if_pos rfl,e1]
   ·rw[if_neg e]
  rw[ev];exact this
end
section
variable {X:Cx}{c:Ct}{e:Expr}{es:List Expr}{k:Kd}{pos p:Pos}{x:Str}{ps:List Str}{j n:Nat}
def yj(P:List D->Option (Except Ex D)):List D->Option D:=λds=>match P ds with
 |some (.ok d)=>some d
 |_=>none
def iW(f:FE):FA:=λρ=>(f ρ).bind λd=>match d with
 | .lst ds=>some ds
 | .tup ds=>some ds
 |_=>none
theorem jl {tg iter:Expr}{f:FE}(h:DP X c .s iter f):DIp X c tg iter (iW f):=λhid ρ ae s σ H R I hq_=>by
 obtain⟨sr,ds,e1,q⟩:=hq_
 unfold iW at e1;cases e2:f ρ with
 |none=>rw[e2] at e1;cases e1
 |some d=>
  rw[e2,Option.bind_some] at e1;cases d with
  |lst xs=>cases e1;exact ug h hid ρ ae s σ H R I ⟨sr,ds,by unfold wR;rw[e2];rfl,q⟩
  |tup xs=>cases e1;exact wY h hid ρ ae s σ H R I ⟨sr,ds,by unfold wk;rw[e2];rfl,q⟩
  |_=>cases e1
end
theorem uy {a b:Addr}{l:List Addr}(h:(a::l).Nodup)(hb:b∈l): ¬b=a:=λe=>(List.nodup_cons.mp h).1 (e▸hb)
theorem gX {es rest:List Expr}{x1}{pos:Pos}{env:Env}:starEach (.Tuple es x1 pos::rest) env=(false,eval (.Tuple es x1 pos) env)::starEach rest env:=by rfl
@[elab_as_elim] theorem ar0 {motive:List Value->Prop} (us:List Value) (hl:us.length=0) (h:motive []):motive us:=by
 cases us with
 |nil=>exact h
 |cons a r=>exact absurd hl (Nat.succ_ne_zero _)
@[elab_as_elim] theorem ar1 {motive:List Value->Prop} (us:List Value) (hl:us.length=1) (h: ∀a0,motive [a0]):motive us:=by
 cases us with
 |nil=>exact absurd hl (by decide)
 |cons a0 r=>exact ar0 (motive:=λr=>motive (a0::r)) r (Nat.succ.inj hl) (h a0)
@[elab_as_elim] theorem ar2 {motive:List Value->Prop} (us:List Value) (hl:us.length=2) (h: ∀a0 a1,motive [a0,a1]):motive us:=by
 cases us with
 |nil=>exact absurd hl (by decide)
 |cons a0 r=>exact ar1 (motive:=λr=>motive (a0::r)) r (Nat.succ.inj hl) (h a0)
@[elab_as_elim] theorem ar3 {motive:List Value->Prop} (us:List Value) (hl:us.length=3) (h: ∀a0 a1 a2,motive [a0,a1,a2]):motive us:=by
 cases us with
 |nil=>exact absurd hl (by decide)
 |cons a0 r=>exact ar2 (motive:=λr=>motive (a0::r)) r (Nat.succ.inj hl) (h a0)
@[elab_as_elim] theorem ar4 {motive:List Value->Prop} (us:List Value) (hl:us.length=4) (h: ∀a0 a1 a2 a3,motive [a0,a1,a2,a3]):motive us:=by
 cases us with
 |nil=>exact absurd hl (by decide)
 |cons a0 r=>exact ar3 (motive:=λr=>motive (a0::r)) r (Nat.succ.inj hl) (h a0)
@[elab_as_elim] theorem ar5 {motive:List Value->Prop} (us:List Value) (hl:us.length=5) (h: ∀a0 a1 a2 a3 a4,motive [a0,a1,a2,a3,a4]):motive us:=by
 cases us with
 |nil=>exact absurd hl (by decide)
 |cons a0 r=>exact ar4 (motive:=λr=>motive (a0::r)) r (Nat.succ.inj hl) (h a0)
@[elab_as_elim] theorem ar6 {motive:List Value->Prop} (us:List Value) (hl:us.length=6) (h: ∀a0 a1 a2 a3 a4 a5,motive [a0,a1,a2,a3,a4,a5]):motive us:=by
 cases us with
 |nil=>exact absurd hl (by decide)
 |cons a0 r=>exact ar5 (motive:=λr=>motive (a0::r)) r (Nat.succ.inj hl) (h a0)
@[irreducible] def QP (X:Cx) (c:Ct) (e:Expr) (f:FE):Prop:=DP X c .s e f
@[irreducible] def QA (X:Cx) (c:Ct) (es:List Expr) (f:FA):Prop:=DA X c es f
@[irreducible] def QS (X:Cx) (c:Ct) (k:Kd) (st:Stmt) (t:FS):Prop:=DS X c k st t
@[irreducible] def QSs (X:Cx) (c:Ct) (k:Kd) (st:List Stmt) (t:FS):Prop:=oS X c k st t
section
variable {X:Cx}{c:Ct}{k:Kd}{e a b:Expr}{es:List Expr}{f g:FE}{fs:FA}{pos pos':Pos}{st:Stmt}{rest:List Stmt}{t u:FS}{x:Str}
theorem QP.of(h:DP X c .s e f):QP X c e f:=by unfold QP;exact h
theorem QP.dp(h:QP X c e f):DP X c .s e f:=by unfold QP at h;exact h
theorem QA.da(h:QA X c es fs):DA X c es fs:=by unfold QA at h;exact h
theorem QS.of(h:DS X c k st t):QS X c k st t:=by unfold QS;exact h
theorem QS.ds(h:QS X c k st t):DS X c k st t:=by unfold QS at h;exact h
theorem QSs.to(h:QSs X c k rest t):oS X c k rest t:=by unfold QSs at h;exact h
theorem gw:QA X c [] ah:=by unfold QA;exact ar
theorem aW(h:QP X c e f)(hr:QA X c es fs)(hs:starEach (e::es) X.env=(false,eval e X.env)::starEach es X.env:=by rfl):QA X c (e::es) (aa f fs):=by unfold QA;exact af h.dp hr.da hs
theorem iL {x1}(h:QA X c es fs):QP X c (.Tuple es x1 pos) (aZ fs):=.of (bK h.da)
theorem tN(h:QA X c es fs):QP X c (.List es pos) (eG fs):=.of (DP.toS (iq h.da))
theorem xW(h1:QP X c a f)(h2:QP X c b g):QP X c (.BinOp a .Add b pos) (ao kY f g):=.of (DP.toS (rk h1.dp h2.dp))
theorem re(i:Nat)(hn:X.N.Nodup)(he:QP X c e f)(hi:X.N[i]? =some x:=by rfl)(hx:vo X.env.scope x:=by first|exact Or.inl rfl|exact Or.inr rfl)(hs:swapsWith e (some (.Name x pos')) pos.line X.env=pure false:=by rfl)
 (hf:X.fn x=true\/X.env.scope.names.lookup x=some .local:=by first|exact .inl rfl|exact .inr rfl|assumption):QS X c k (.Assign [.Name x pos'] e pos) (ba i f):=.of (bG i hn he.dp hi hx hs hf)
theorem g8(h1:QS X c k st t)(h2:QSs X c k rest u):QSs X c k (st::rest) (ay t u):=by unfold QSs;exact aq h1.ds h2.to
theorem wK(h:QS X c k st t):QSs X c k [st] t:=by unfold QSs;exact av h.ds
end
end L2
namespace PySem
open Sem (wp)
end PySem
namespace L2
open PySem PySem.Spec PyProof.Rows
end L2
namespace PySem
end PySem
namespace L2
open PySem PySem.Spec PyProof.Rows
variable {X:Cx}{c:Ct}
theorem vG {P:List D->Option (Except Ex D)}{fs:GA}(F:ClX X.prog X.w X.K X.mg X.base j x ps (qe X.K k n P))(hr:Room j X.A)(ha:DG X c (e::es) fs)(hkb:k≠ .b:=by decide)
 (hg:Gl X x:=by rfl) (hdb:(x==("__debug__":Str))=false:=by decide) (he:starEach (e::es) X.env=(false,eval e X.env)::starEach es X.env:=by rfl) (hpl:(backTo pos (starEach es X.env)).any (·.1)=false:=by rfl):
 DE X c k (.Call (.Name x p) (e::es) [] pos) (kU (nF n (yj P)) fs):=λhid ρ=>by
 obtain⟨f,fd,F,hm,hk,hb⟩:=F.ex
 refine PE.imp (pL F hr hg hm hk hb (ha hid ρ) hdb he hpl) λσ H Q hq_=>?_
 obtain⟨sr,d,ρ',hd,q⟩:=hq_
 obtain⟨ds,e1,e2⟩:=qj hd
 unfold nF at e2;split at e2
 ·unfold yj at e2
  split at e2
  ·rename_i e3
   cases e2
   exact⟨sr,ds,ρ',e1,λvs H1 k1 s1 r1=>⟨hid,ds,s1.trk,r1, ‹_›,_,e3,λv H' s2 r2=>q v H' (PostE.left k1 (s1.post s2 r2 hkb))⟩⟩
  ·cases e2
 ·cases e2
set_option maxHeartbeats 4000000
def jz(i:Nat):Stmt:=PySem.Challenge.pw_rookborders_k14_whole_there_and_back.main.body.getD i (.Pass ⟨0,0,0,0⟩)
structure Bt(mg:Str->Option Value):Prop where
 b_abs:mg "abs"=none
 b_all:mg "all"=none
 b_bool:mg "bool"=none
 b_enumerate:mg "enumerate"=none
 b_int:mg "int"=none
 b_isinstance:mg "isinstance"=none
 b_len:mg "len"=none
 b_list:mg "list"=none
 b_max:mg "max"=none
 b_min:mg "min"=none
 b_range:mg "range"=none
 b_str:mg "str"=none
 b_tuple:mg "tuple"=none
 g_MANY_WAYS: ∃tk,mg "MANY_WAYS"=some (.int 4 tk)
 g_MOST_SIZE: ∃tk,mg "MOST_SIZE"=some (.int 6 tk)
def exN:List Str:=["RookError","NoMove","TooMany"]
structure Et(K:W.Frag)(mg:Str->Option Value)(kx0 kx1 kx2:Addr):Prop where
 t:ExTab K mg kx0 [("RookError",kx0),("NoMove",kx1),("TooMany",kx2)]
 o_NoMove:W.excIn K kx1 sT "ValueError.__new__"=true
 o_TooMany:W.excIn K kx2 sT "ValueError.__new__"=true
theorem AH:(["order","k","size","place"]:List Str).Nodup:=by decide+kernel
theorem AB:(["order","k","size","number"]:List Str).Nodup:=by decide+kernel
theorem Ax:(["order","number"]:List Str).Nodup:=by decide+kernel
theorem Bg:(["square","c","rings","crosses","one","other","between","row"]:List Str).Nodup:=by decide+kernel
theorem zy:(["square","c","way","rings","crosses","row","free_column","free_row","full_column","full_row","more_rings","more_crosses","mark"]:List Str).Nodup:=by decide+kernel
theorem zU:(["marks","row","column","at","mark"]:List Str).Nodup:=by decide+kernel
theorem Aw:(["_law_bag_here","_law_n","_law_plain","_law_by","_law_rings","_law_crosses","_law_c","_law_d","_law_row"]:List Str).Nodup:=by decide+kernel
theorem A0:(["_law_move_here","_law_number"]:List Str).Nodup:=by decide+kernel
section
variable {P:Program}{w:World}{K:W.Frag}{mg:Str->Option Value}{base:Heap}{kx0 kx1 kx2:Addr}
abbrev bX:Stmt:=jz 5
abbrev ce:Stmt:=jz 6
abbrev cf:Stmt:=jz 7
abbrev br:Stmt:=jz 8
abbrev bZ:Stmt:=jz 11
abbrev bx:Stmt:=jz 14
abbrev cx:Stmt:=jz 15
abbrev fU:Stmt:=jz 16
abbrev cD:Stmt:=jz 17
abbrev bt:Stmt:=jz 18
abbrev bU:Stmt:=jz 19
abbrev gb:Stmt:=jz 20
abbrev bI:Stmt:=jz 21
abbrev cJ:Stmt:=jz 22
abbrev cH:Stmt:=jz 23
abbrev gy:Stmt:=jz 24
abbrev eU:Stmt:=jz 25
abbrev cw:Stmt:=jz 26
abbrev bV:Stmt:=jz 27
abbrev iP:Stmt:=jz 28
abbrev dc:Stmt:=jz 29
abbrev dI:Stmt:=jz 31
abbrev eN:Stmt:=jz 32
abbrev dJ:Stmt:=jz 33
abbrev de:Stmt:=jz 34
abbrev cE:Stmt:=jz 35
abbrev dQ:Stmt:=jz 36
abbrev cK:Stmt:=jz 37
abbrev eO:Stmt:=jz 38
abbrev cq:Stmt:=jz 39
abbrev dO:Stmt:=jz 40
abbrev jv:Stmt:=jz 41
theorem sc_order_turned:FnScope ["order","k","size"] ["order","k"] (ak bX):=⟨rfl,rfl,rfl,by decide+kernel,rfl,by decide+kernel,by decide+kernel⟩
def lI:FS:=
 ay (ba 2 (aj bR (aa (ai 0) (ah))))
 (aI (aj cj (aa (bT 1 (dR (aa (ai 2) (ah))) (gN 3) (iV) (ao aQ (ai 0) (ao bv (ao dM (ai 3) (ai 1)) (ai 2)))) (ah))))
def eJ:List D->Option D:=fO .s 3 lI
theorem lX(B:Bt mg)(F:Df K mg "order_turned" bX ["order","k"])(ET:Et K mg kx0 kx1 kx2):Cl P w K mg base 1 "order_turned" ["order","k"] (eP K .s 2 eJ):=by
 refine bF (k:=0) F sc_order_turned (by decide) rfl λ_ cdv A outer s H hid E hr=>?_
 exact(aq (bG 2 sc_order_turned.nd (aT aS dq B.b_len (aF (ag 0) aX) (hv:=by kernel_rfl)))
  (av (aK (cO bD et B.b_tuple (aF (jU (N':=["order","k","size","place"]) rfl (gU (Nat.le_of_ble_eq_true rfl)) (DIp.b (dL B.b_range (af (ag 2) ar))) (λ_ _ _ _=>(aB 3 AH)) (λ_ _ _ _=>iu) (λ_ _ _ _=>(aE ax aD (ag 0) (dm (eT (ag 3) (ag 1)) (ag 2)) (λ_ _=>rfl)))) aX) (hv:=by kernel_rfl)))))
theorem sc_order_raised:FnScope ["order","k","size"] ["order","k"] (ak ce):=⟨rfl,rfl,rfl,by decide+kernel,rfl,by decide+kernel,by decide+kernel⟩
def lY:FS:=
 ay (ba 2 (aj bR (aa (ai 0) (ah))))
 (aI (aj cj (aa (bT 1 (iW (ai 0)) (gN 3) (iV) (ao bv (ao bp (ai 3) (ai 1)) (ai 2))) (ah))))
def eo:List D->Option D:=fO .s 3 lY
theorem lA(B:Bt mg)(F:Df K mg "order_raised" ce ["order","k"])(ET:Et K mg kx0 kx1 kx2):Cl P w K mg base 1 "order_raised" ["order","k"] (eP K .s 2 eo):=by
 refine bF (k:=0) F sc_order_raised (by decide) rfl λ_ cdv A outer s H hid E hr=>?_
 exact(aq (bG 2 sc_order_raised.nd (aT aS dq B.b_len (aF (ag 0) aX) (hv:=by kernel_rfl)))
  (av (aK (cO bD et B.b_tuple (aF (jU (N':=["order","k","size","number"]) rfl (gU (Nat.le_of_ble_eq_true rfl)) (DIp.b (jl (ag 0))) (λ_ _ _ _=>(aB 3 AB)) (λ_ _ _ _=>iu) (λ_ _ _ _=>(dm (cF (ag 3) (ag 1)) (ag 2)))) aX) (hv:=by kernel_rfl)))))
theorem lu:FnScope ["order"] ["order"] (ak cf):=⟨rfl,rfl,rfl,by decide+kernel,rfl,by decide+kernel,by decide+kernel⟩
def mC:FS:=
 aI (aj cj (aa (bT 1 (dR (aa (aj bR (aa (ai 0) (ah))) (ah))) (gN 1) (iV) (ao rK (ai 0) (ai 1))) (ah)))
def ey:List D->Option D:=fO .s 1 mC
theorem mn(B:Bt mg)(F:Df K mg "order_tipped" cf ["order"])(ET:Et K mg kx0 kx1 kx2):Cl P w K mg base 1 "order_tipped" ["order"] (eP K .s 1 ey):=by
 refine bF (k:=0) F lu (by decide) rfl λ_ cdv A outer s H hid E hr=>?_
 exact(av (aK (cO bD et B.b_tuple (aF (jU (N':=["order","number"]) rfl (gU (Nat.le_of_ble_eq_true rfl)) (DIp.b (dL B.b_range (af (aT aS dq B.b_len (aF (ag 0) aX) (hv:=by kernel_rfl)) ar))) (λ_ _ _ _=>(aB 1 Ax)) (λ_ _ _ _=>iu) (λ_ _ _ _=>(pg hr.units (ag 0) (ag 1)))) aX) (hv:=by kernel_rfl))))
theorem sc_order_exchanged:FnScope ["order","one","other","numbers"] ["order","one","other"] (ak br):=⟨rfl,rfl,rfl,by decide+kernel,rfl,by decide+kernel,by decide+kernel⟩
def j7:FS:=
 ay (eS 3 (aj rQ (aa (ai 0) (ah))))
 (ay (cr (gT 2 (cQ (db 3 (ai 1)) (cQ (db 3 (ai 2)) (iQ)))) (pu (aZ (aa (ao aQ (ai 0) (ai 2)) (aa (ao aQ (ai 0) (ai 1)) (ah))))))
 (aI (aj cj (aa (cV 3) (ah)))))
def cS:List D->Option D:=fO .s 4 j7
theorem kh(B:Bt mg)(F:Df K mg "order_exchanged" br ["order","one","other"])(ET:Et K mg kx0 kx1 kx2):Cl P w K mg base 1 "order_exchanged" ["order","one","other"] (eP K .s 3 cS):=by
 refine bF (k:=0) F sc_order_exchanged (by decide) rfl λ_ cdv A outer s H hid E hr=>?_
 exact(aq (jr 3 sc_order_exchanged.nd (cO oK vW B.b_list (aF (ag 0) aX) (hv:=by kernel_rfl)))
  (aq (lG (DP.ef (bK (af (aE ax aD (ag 0) (ag 2) (λ_ _=>rfl)) (af (aE ax aD (ag 0) (ag 1) (λ_ _=>rfl)) ar)))) (qU (n:=2) rfl (j8 (iB 3 (ag 1)) (j8 (iB 3 (ag 2)) rM))))
  (av (aK (cO bD et B.b_tuple (aF (cX 3) aX) (hv:=by kernel_rfl))))))
theorem lm:FnScope ["at","one","other"] ["at","one","other"] (ak bZ):=⟨rfl,rfl,rfl,by decide+kernel,rfl,by decide+kernel,by decide+kernel⟩
def mB:FS:=
 aI (mG sg sg (aj i7 (aa (ai 1) (aa (ai 2) (ah)))) (ai 0) (aj fW (aa (ai 1) (aa (ai 2) (ah)))))
def gc:List D->Option D:=fO .s 3 mB
theorem lB(B:Bt mg)(F:Df K mg "lies_between" bZ ["at","one","other"])(ET:Et K mg kx0 kx1 kx2):Cl P w K mg base 1 "lies_between" ["at","one","other"] (eP K .s 3 gc):=by
 refine bF (k:=0) F lm (by decide) rfl λ_ cdv A outer s H hid E hr=>?_
 exact(av (aK (xy nz nz eg eg (aT (km rfl) oM B.b_min (aF (ag 1) (aF (ag 2) aX)) (hv:=by kernel_rfl)) (ag 0) (aT (g0 rfl) j2 B.b_max (aF (ag 1) (aF (ag 2) aX)) (hv:=by kernel_rfl)))))
theorem sc_columns_turned:FnScope ["square","k","rings","crosses"] ["square","k"] (ak bx):=⟨rfl,rfl,rfl,by decide+kernel,rfl,by decide+kernel,by decide+kernel⟩
def kK:FS:=
 ay (cr (gT 2 (cQ (gN 2) (cQ (gN 3) (iQ)))) (pu (ai 0)))
 (aI (aZ (aa (aj (nF 2 eJ) (aa (ai 2) (aa (ai 1) (ah)))) (aa (aj (nF 2 eJ) (aa (ai 3) (aa (ai 1) (ah)))) (ah)))))
def eW:List D->Option D:=fO .s 4 kK
theorem kq(B:Bt mg)(F:Df K mg "columns_turned" bx ["square","k"])(ET:Et K mg kx0 kx1 kx2)(eD:Cl P w K mg base 1 "order_turned" ["order","k"] (eP K .s 2 eJ)):Cl P w K mg base 2 "columns_turned" ["square","k"] (eP K .s 2 eW):=by
 refine bF (k:=1) F sc_columns_turned (by decide) rfl λ_ cdv A outer s H hid E hr=>?_
 exact(aq (gS (DP.ef (ag 0)) (eA (n:=2) rfl (aU (aB 2 sc_columns_turned.nd) (aU (aB 3 sc_columns_turned.nd) ee))))
  (av (aK (bK (af (bY eD (hr.mono (by decide)) (af (ag 2) (af (ag 1) ar))) (af (bY eD (hr.mono (by decide)) (af (ag 3) (af (ag 1) ar))) ar))))))
theorem sc_rows_turned:FnScope ["square","k","rings","crosses"] ["square","k"] (ak cx):=⟨rfl,rfl,rfl,by decide+kernel,rfl,by decide+kernel,by decide+kernel⟩
def mH:FS:=
 ay (cr (gT 2 (cQ (gN 2) (cQ (gN 3) (iQ)))) (pu (ai 0)))
 (aI (aZ (aa (aj (nF 2 eo) (aa (ai 2) (aa (ai 1) (ah)))) (aa (aj (nF 2 eo) (aa (ai 3) (aa (ai 1) (ah)))) (ah)))))
def gR:List D->Option D:=fO .s 4 mH
theorem mP(B:Bt mg)(F:Df K mg "rows_turned" cx ["square","k"])(ET:Et K mg kx0 kx1 kx2)(eF:Cl P w K mg base 1 "order_raised" ["order","k"] (eP K .s 2 eo)):Cl P w K mg base 2 "rows_turned" ["square","k"] (eP K .s 2 gR):=by
 refine bF (k:=1) F sc_rows_turned (by decide) rfl λ_ cdv A outer s H hid E hr=>?_
 exact(aq (gS (DP.ef (ag 0)) (eA (n:=2) rfl (aU (aB 2 sc_rows_turned.nd) (aU (aB 3 sc_rows_turned.nd) ee))))
  (av (aK (bK (af (bY eF (hr.mono (by decide)) (af (ag 2) (af (ag 1) ar))) (af (bY eF (hr.mono (by decide)) (af (ag 3) (af (ag 1) ar))) ar))))))
theorem sc_tipped:FnScope ["square","rings","crosses"] ["square"] (ak fU):=⟨rfl,rfl,rfl,by decide+kernel,rfl,by decide+kernel,by decide+kernel⟩
def sW:FS:=
 ay (cr (gT 2 (cQ (gN 1) (cQ (gN 2) (iQ)))) (pu (ai 0)))
 (aI (aZ (aa (aj (nF 1 ey) (aa (ai 1) (ah))) (aa (aj (nF 1 ey) (aa (ai 2) (ah))) (ah)))))
def ip:List D->Option D:=fO .s 3 sW
theorem uu(B:Bt mg)(F:Df K mg "tipped" fU ["square"])(ET:Et K mg kx0 kx1 kx2)(eE:Cl P w K mg base 1 "order_tipped" ["order"] (eP K .s 1 ey)):Cl P w K mg base 2 "tipped" ["square"] (eP K .s 1 ip):=by
 refine bF (k:=1) F sc_tipped (by decide) rfl λ_ cdv A outer s H hid E hr=>?_
 exact(aq (gS (DP.ef (ag 0)) (eA (n:=2) rfl (aU (aB 1 sc_tipped.nd) (aU (aB 2 sc_tipped.nd) ee))))
  (av (aK (bK (af (bY eE (hr.mono (by decide)) (af (ag 1) ar)) (af (bY eE (hr.mono (by decide)) (af (ag 2) ar)) ar))))))
theorem sc_may_change:FnScope ["square","c","rings","crosses","one","other","between"] ["square","c"] (ak cD):=⟨rfl,rfl,rfl,by decide+kernel,rfl,by decide+kernel,by decide+kernel⟩
def oa:FS:=
 ay (cr (gT 2 (cQ (gN 2) (cQ (gN 3) (iQ)))) (pu (ai 0)))
 (ay (dC (dz (bq (mG mh mh (au (.int 0)) (ai 1) (ao dM (aj bR (aa (ai 2) (ah))) (au (.int 2)))))) (aI (au (.bl false))) (skip))
 (ay (ba 4 (aZ (aa (ao aQ (ai 2) (ai 1)) (aa (ao aQ (ai 3) (ai 1)) (ah)))))
 (ay (ba 5 (aZ (aa (ao aQ (ai 2) (ao bp (ai 1) (au (.int 1)))) (aa (ao aQ (ai 3) (ao bp (ai 1) (au (.int 1)))) (ah)))))
 (ay (dC (mT (bq (ao (sj false) (ao aQ (ai 4) (au (.int 0))) (ai 5))) (bq (ao (sj false) (ao aQ (ai 4) (au (.int 1))) (ai 5)))) (aI (au (.bl false))) (skip))
 (ay (ba 6 (bT 1 (iW (ai 5)) (gN 7) (fx (aj (nF 3 gc) (aa (ai 7) (aa (ao aQ (ai 4) (au (.int 0))) (aa (ao aQ (ai 4) (au (.int 1))) (ah)))))) (ai 7)))
 (aI (ao kZ (aj bR (aa (ai 6) (ah))) (au (.int 1)))))))))
def iJ:List D->Option D:=fO .s 7 oa
theorem nQ(B:Bt mg)(F:Df K mg "may_change" cD ["square","c"])(ET:Et K mg kx0 kx1 kx2)(ge:Cl P w K mg base 1 "lies_between" ["at","one","other"] (eP K .s 3 gc)):Cl P w K mg base 2 "may_change" ["square","c"] (eP K .s 2 iJ):=by
 refine bF (k:=1) F sc_may_change (by decide) rfl λ_ cdv A outer s H hid E hr=>?_
 exact(aq (gS (DP.ef (ag 0)) (eA (n:=2) rfl (aU (aB 2 sc_may_change.nd) (aU (aB 3 sc_may_change.nd) ee))))
  (aq (cR (iG (rH kT kT eg eg al (ag 1) (eT (aT aS dq B.b_len (aF (ag 2) aX) (hv:=by kernel_rfl)) al))) (av (aK lg)) bj)
  (aq (bG 4 sc_may_change.nd (bK (af (aE ax aD (ag 2) (ag 1) (λ_ _=>rfl)) (af (aE ax aD (ag 3) (ag 1) (λ_ _=>rfl)) ar))))
  (aq (bG 5 sc_may_change.nd (bK (af (aE ax aD (ag 2) (cF (ag 1) al) (λ_ _=>rfl)) (af (aE ax aD (ag 3) (cF (ag 1) al) (λ_ _=>rfl)) ar))))
  (aq (cR (DW.dt (nl (aY (mt hr.units) (p4 false) (aE ax aD (ag 4) al (λ_ _=>rfl)) (ag 5) (by with_unfolding_all rfl)) (lP (aY (mt hr.units) (p4 false) (aE ax aD (ag 4) al (λ_ _=>rfl)) (ag 5) (by with_unfolding_all rfl))))) (av (aK lg)) bj)
  (aq (vL 6 (N':=["square","c","rings","crosses","one","other","between","row"]) rfl sc_may_change.nd (gU (Nat.le_of_ble_eq_true rfl)) (DIp.b (jl (ag 5))) (λ_ _ _ _=>(aB 7 Bg)) (λ_ _ _ _=>(rW (jS (bY ge (hr.mono (by decide)) (af (ag 7) (af (aE ax aD (ag 4) al (λ_ _=>rfl)) (af (aE ax aD (ag 4) al (λ_ _=>rfl)) ar))))))) (λ_ _ _ _=>(ag 7)))
  (av (aK (oj (jQ hr.units) ml (aT aS dq B.b_len (aF (ag 6) aX) (hv:=by kernel_rfl)) al (bb _))))))))))
theorem sc_columns_changed:FnScope ["square","c","rings","crosses"] ["square","c"] (ak bt):=⟨rfl,rfl,rfl,by decide+kernel,rfl,by decide+kernel,by decide+kernel⟩
def jV:FX:=
 cM (mE (dz (fx (aj (nF 2 iJ) (aa (ai 0) (aa (ai 1) (ah)))))) (mK ⟨"NoMove",0⟩ (aa (au (.str "these columns may not be exchanged")) (ah))) (ic skip))
 (ic (ay (cr (gT 2 (cQ (gN 2) (cQ (gN 3) (iQ)))) (pu (ai 0)))
 (aI (aZ (aa (aj (nF 3 cS) (aa (ai 2) (aa (ai 1) (aa (ao bp (ai 1) (au (.int 1))) (ah))))) (aa (aj (nF 3 cS) (aa (ai 3) (aa (ai 1) (aa (ao bp (ai 1) (au (.int 1))) (ah))))) (ah)))))))
def cm:List D->Option (Except Ex D):=oW .s 4 jV
theorem ka(B:Bt mg)(F:Df K mg "columns_changed" bt ["square","c"])(ET:Et K mg kx0 kx1 kx2)(iM:Cl P w K mg base 2 "may_change" ["square","c"] (eP K .s 2 iJ))(cT:Cl P w K mg base 1 "order_exchanged" ["order","one","other"] (eP K .s 3 cS)):ClX P w K mg base 3 "columns_changed" ["square","c"] (qe K .s 2 cm):=by
 refine jb (k:=2) F sc_columns_changed (by decide) rfl λ_ cdv A outer s H hid E hr=>?_
 exact(bS (jF (DT.nox (iG (jS (bY iM (hr.mono (by decide)) (af (ag 0) (af (ag 1) ar)))))) (dA (jk (n:=0) (ET.t.row _ (List.Mem.tail _ (List.Mem.head _))).mg (ET.t.row _ (List.Mem.tail _ (List.Mem.head _))).ns ET.o_NoMove hr.hd (DA.nox (af be ar)))) gg)
  (ko (aq (gS (DP.ef (ag 0)) (eA (n:=2) rfl (aU (aB 2 sc_columns_changed.nd) (aU (aB 3 sc_columns_changed.nd) ee))))
  (av (aK (bK (af (bY cT (hr.mono (by decide)) (af (ag 2) (af (ag 1) (af (cF (ag 1) al) ar)))) (af (bY cT (hr.mono (by decide)) (af (ag 3) (af (ag 1) (af (cF (ag 1) al) ar)))) ar))))))))
theorem ll:FnScope ["square","r"] ["square","r"] (ak bU):=⟨rfl,rfl,rfl,by decide+kernel,rfl,by decide+kernel,by decide+kernel⟩
def mD:FX:=
 gQ (nX 1 ip (kX (cB 2 cm (fE (aa (aj (nF 1 ip) (aa (ai 0) (ah))) (aa (ai 1) (ah))))) (fE (ah))))
def gu:List D->Option (Except Ex D):=oW .s 2 mD
theorem lW(B:Bt mg)(F:Df K mg "rows_changed" bU ["square","r"])(ET:Et K mg kx0 kx1 kx2)(gr:Cl P w K mg base 2 "tipped" ["square"] (eP K .s 1 ip))(bH:ClX P w K mg base 3 "columns_changed" ["square","c"] (qe K .s 2 cm)):ClX P w K mg base 4 "rows_changed" ["square","r"] (qe K .s 2 gu):=by
 refine jb (k:=3) F ll (by decide) rfl λ_ cdv A outer s H hid E hr=>?_
 exact(dA (jj (xV gr (hr.mono (by decide)) (tE (nJ bH (hr.mono (by decide)) (DA.rr (DA.nox (af (bY gr (hr.mono (by decide)) (af (ag 0) ar)) (af (ag 1) ar))))) (DA.rr (DA.nox ar))))))
theorem sM:FnScope ["way"] ["way"] (ak gb):=⟨rfl,rfl,rfl,by decide+kernel,rfl,by decide+kernel,by decide+kernel⟩
def u4:FS:=
 aI (mG mh sg (au (.int 0)) (ai 0) (au (.int 4)))
def mi:List D->Option D:=fO .s 1 u4
theorem vc(B:Bt mg)(F:Df K mg "is_way" gb ["way"])(ET:Et K mg kx0 kx1 kx2):Cl P w K mg base 1 "is_way" ["way"] (eP K .s 1 mi):=by
 refine bF (k:=0) F sM (by decide) rfl λ_ cdv A outer s H hid E hr=>?_
 exact(av (aK (xy kT nz eg eg al (ag 0) (ux B.g_MANY_WAYS))))
theorem sc_free_and_full:FnScope ["c","r","way","right","up"] ["c","r","way"] (ak bI):=⟨rfl,rfl,rfl,by decide+kernel,rfl,by decide+kernel,by decide+kernel⟩
def lj:FS:=
 ay (uZ 3 4 (aa (ao bv (ai 2) (au (.int 2))) (aa (ao iS (ai 2) (au (.int 2))) (ah))))
 (aI (aZ (aa (ao bp (ai 0) (ai 3)) (aa (ao bp (ai 1) (ai 4)) (aa (ao dM (ao bp (ai 0) (au (.int 1))) (ai 3)) (aa (ao dM (ao bp (ai 1) (au (.int 1))) (ai 4)) (ah)))))))
def bJ:List D->Option D:=fO .s 5 lj
theorem lv(B:Bt mg)(F:Df K mg "free_and_full" bI ["c","r","way"])(ET:Et K mg kx0 kx1 kx2):Cl P w K mg base 1 "free_and_full" ["c","r","way"] (eP K .s 3 bJ):=by
 refine bF (k:=0) F sc_free_and_full (by decide) rfl λ_ cdv A outer s H hid E hr=>?_
 exact(aq (xY 3 4 rfl sc_free_and_full.nd (af (dm (ag 2) al) (af (nR (ag 2) al) ar)))
  (av (aK (bK (af (cF (ag 0) (ag 3)) (af (cF (ag 1) (ag 4)) (af (eT (cF (ag 0) al) (ag 3)) (af (eT (cF (ag 1) al) (ag 4)) ar))))))))
theorem mV:FnScope ["mark","row","to"] ["mark","row","to"] (ak cJ):=⟨rfl,rfl,rfl,by decide+kernel,rfl,by decide+kernel,by decide+kernel⟩
def oO:FS:=
 ay (dC (bq (ao iU (ai 0) (ai 1))) (aI (ai 2)) (skip))
 (aI (sZ (bq (ao wE (ai 0) (ai 1))) (ao bp (ai 0) (au (.int 1))) (ai 0)))
def fK:List D->Option D:=fO .s 3 oO
theorem oA(B:Bt mg)(F:Df K mg "row_parted" cJ ["mark","row","to"])(ET:Et K mg kx0 kx1 kx2):Cl P w K mg base 1 "row_parted" ["mark","row","to"] (eP K .s 3 fK):=by
 refine bF (k:=0) F mV (by decide) rfl λ_ cdv A outer s H hid E hr=>?_
 exact(aq (cR (aY (cZ hr.units) fc (ag 0) (ag 1) (bb _)) (av (aK (ag 2))) bj)
  (av (aK (tv (by decide) (aY u3 eg (ag 0) (ag 1) (bb _)) (cF (ag 0) al) (ag 0)))))
theorem sc_corner_put:FnScope ["square","c","way","rings","crosses","row","free_column","free_row","full_column","full_row","more_rings","more_crosses"] ["square","c","way"] (ak cH):=⟨rfl,rfl,rfl,by decide+kernel,rfl,by decide+kernel,by decide+kernel⟩
def oB:FX:=
 cM (ic (cr (gT 2 (cQ (gN 3) (cQ (gN 4) (iQ)))) (pu (ai 0))))
 (cM (mE (mT (dz (bq (mG mh sg (au (.int 0)) (ai 1) (aj bR (aa (ai 3) (ah)))))) (dz (fx (aj (nF 1 mi) (aa (ai 2) (ah)))))) (mK ⟨"NoMove",0⟩ (aa (au (.str "there is no such column or way")) (ah))) (ic skip))
 (cM (mE (bq (ao yQ (aj bR (aa (ai 3) (ah))) (au (.int 6)))) (mK ⟨"TooMany",0⟩ (aa (au (.str "the square has no room for a corner")) (ah))) (ic skip))
 (ic (ay (ba 5 (ao aQ (ai 4) (ai 1)))
 (ay (cr (gT 4 (cQ (gN 6) (cQ (gN 7) (cQ (gN 8) (cQ (gN 9) (iQ)))))) (pu (aj (nF 3 bJ) (aa (ai 1) (aa (ai 5) (aa (ai 2) (ah)))))))
 (ay (eS 10 (bT 1 (iW (ai 3)) (gN 12) (iV) (aj (nF 3 fK) (aa (ai 12) (aa (ai 5) (aa (ai 7) (ah)))))))
 (ay (eS 11 (bT 1 (iW (ai 4)) (gN 12) (iV) (aj (nF 3 fK) (aa (ai 12) (aa (ai 5) (aa (ai 9) (ah)))))))
 (ay (eL (aN 10 2 pZ (cL (aa (ai 8) (aa (ai 9) (ah))))))
 (ay (eL (aN 11 2 pZ (cL (aa (ai 8) (aa (ai 7) (ah))))))
 (aI (aZ (aa (aj cj (aa (cV 10) (ah))) (aa (aj cj (aa (cV 11) (ah))) (ah))))))))))))))
def iA:List D->Option (Except Ex D):=oW .s 12 oB
theorem nT(B:Bt mg)(F:Df K mg "corner_put" cH ["square","c","way"])(ET:Et K mg kx0 kx1 kx2)(bn:Cl P w K mg base 1 "free_and_full" ["c","r","way"] (eP K .s 3 bJ))(fL:Cl P w K mg base 1 "row_parted" ["mark","row","to"] (eP K .s 3 fK))(mf:Cl P w K mg base 1 "is_way" ["way"] (eP K .s 1 mi)):ClX P w K mg base 2 "corner_put" ["square","c","way"] (qe K .s 3 iA):=by
 refine jb (k:=1) F sc_corner_put (by decide) rfl λ_ cdv A outer s H hid E hr=>?_
 exact(bS (ib (gS (DP.ef (ag 0)) (eA (n:=2) rfl (aU (aB 3 sc_corner_put.nd) (aU (aB 4 sc_corner_put.nd) ee)))))
  (bS (jF (DT.nox (DW.dt (nl (iG (rH kT nz eg eg al (ag 1) (aT aS dq B.b_len (aF (ag 3) aX) (hv:=by kernel_rfl)))) (lP (iG (jS (bY mf (hr.mono (by decide)) (af (ag 2) ar)))))))) (dA (jk (n:=0) (ET.t.row _ (List.Mem.tail _ (List.Mem.head _))).mg (ET.t.row _ (List.Mem.tail _ (List.Mem.head _))).ns ET.o_NoMove hr.hd (DA.nox (af be ar)))) gg)
  (bS (jF (DT.nox (aY xk eg (aT aS dq B.b_len (aF (ag 3) aX) (hv:=by kernel_rfl)) (ux B.g_MOST_SIZE) (bb _))) (dA (jk (n:=0) (ET.t.row _ (List.Mem.tail _ (List.Mem.tail _ (List.Mem.head _)))).mg (ET.t.row _ (List.Mem.tail _ (List.Mem.tail _ (List.Mem.head _)))).ns ET.o_TooMany hr.hd (DA.nox (af be ar)))) gg)
  (ko (aq (bG 5 sc_corner_put.nd (aE ax aD (ag 4) (ag 1) (λ_ _=>rfl)))
  (aq (gS (DP.ef (bY bn (hr.mono (by decide)) (af (ag 1) (af (ag 5) (af (ag 2) ar))))) (eA (n:=4) rfl (aU (aB 6 sc_corner_put.nd) (aU (aB 7 sc_corner_put.nd) (aU (aB 8 sc_corner_put.nd) (aU (aB 9 sc_corner_put.nd) ee))))))
  (aq (oJ 10 (N':=["square","c","way","rings","crosses","row","free_column","free_row","full_column","full_row","more_rings","more_crosses","mark"]) rfl sc_corner_put.nd (gU (Nat.le_of_ble_eq_true rfl)) (DIp.b (jl (ag 3))) (λ_ _ _ _=>(aB 12 zy)) (λ_ _ _ _=>iu) (λ_ _ _ _=>(bY fL (hr.mono (by decide)) (af (ag 12) (af (ag 5) (af (ag 7) ar))))))
  (aq (oJ 11 (N':=["square","c","way","rings","crosses","row","free_column","free_row","full_column","full_row","more_rings","more_crosses","mark"]) rfl sc_corner_put.nd (gU (Nat.le_of_ble_eq_true rfl)) (DIp.b (jl (ag 4))) (λ_ _ _ _=>(aB 12 zy)) (λ_ _ _ _=>iu) (λ_ _ _ _=>(bY fL (hr.mono (by decide)) (af (ag 12) (af (ag 5) (af (ag 9) ar))))))
  (aq (j0 (jp 10 m9 nA PySem.F.slot_list_insert PySem.F.type_list_insert (DA.gf (af (ag 8) (af (ag 9) ar)))))
  (aq (j0 (jp 11 m9 nA PySem.F.slot_list_insert PySem.F.type_list_insert (DA.gf (af (ag 8) (af (ag 7) ar)))))
  (av (aK (bK (af (cO bD et B.b_tuple (aF (cX 10) aX) (hv:=by kernel_rfl)) (af (cO bD et B.b_tuple (aF (cX 11) aX) (hv:=by kernel_rfl)) ar)))))))))))))))
theorem sc_is_put:FnScope ["square","c","r","way","rings","crosses","free_column","free_row","full_column","full_row"] ["square","c","r","way"] (ak gy):=⟨rfl,rfl,rfl,by decide+kernel,rfl,by decide+kernel,by decide+kernel⟩
def vd:FS:=
 ay (cr (gT 2 (cQ (gN 4) (cQ (gN 5) (iQ)))) (pu (ai 0)))
 (ay (cr (gT 4 (cQ (gN 6) (cQ (gN 7) (cQ (gN 8) (cQ (gN 9) (iQ)))))) (pu (aj (nF 3 bJ) (aa (ai 1) (aa (ai 2) (aa (ai 3) (ah)))))))
 (ay (dC (bq (ao kZ (aZ (aa (ao aQ (ai 4) (ai 8)) (aa (ao aQ (ai 5) (ai 8)) (ah)))) (aZ (aa (ai 9) (aa (ai 7) (ah)))))) (aI (au (.bl false))) (skip))
 (aI (uT (j5 (bq (ao iU (ao aQ (ai 5) (ai 6)) (ai 9))) (bq (ao kZ (ao aQ (ai 4) (ai 6)) (ai 7))))))))
def mq:List D->Option D:=fO .s 10 vd
theorem tD(B:Bt mg)(F:Df K mg "is_put" gy ["square","c","r","way"])(ET:Et K mg kx0 kx1 kx2)(bn:Cl P w K mg base 1 "free_and_full" ["c","r","way"] (eP K .s 3 bJ)):Cl P w K mg base 2 "is_put" ["square","c","r","way"] (eP K .s 4 mq):=by
 refine bF (k:=1) F sc_is_put (by decide) rfl λ_ cdv A outer s H hid E hr=>?_
 exact(aq (gS (DP.ef (ag 0)) (eA (n:=2) rfl (aU (aB 4 sc_is_put.nd) (aU (aB 5 sc_is_put.nd) ee))))
  (aq (gS (DP.ef (bY bn (hr.mono (by decide)) (af (ag 1) (af (ag 2) (af (ag 3) ar))))) (eA (n:=4) rfl (aU (aB 6 sc_is_put.nd) (aU (aB 7 sc_is_put.nd) (aU (aB 8 sc_is_put.nd) (aU (aB 9 sc_is_put.nd) ee))))))
  (aq (cR (aY (jQ hr.units) ml (bK (af (aE ax aD (ag 4) (ag 8) (λ_ _=>rfl)) (af (aE ax aD (ag 5) (ag 8) (λ_ _=>rfl)) ar))) (bK (af (ag 9) (af (ag 7) ar))) (bb _)) (av (aK lg)) bj)
  (av (aK (u0 (oj (cZ hr.units) fc (aE ax aD (ag 5) (ag 6) (λ_ _=>rfl)) (ag 9) (bb _)) (t5 (oj (jQ hr.units) ml (aE ax aD (ag 4) (ag 6) (λ_ _=>rfl)) (ag 7) (bb _)))))))))
theorem sc_way_put:FnScope ["square","c","r","last","way"] ["square","c","r"] (ak eU):=⟨rfl,rfl,rfl,by decide+kernel,rfl,by decide+kernel,by decide+kernel⟩
def si:FS:=
 ay (ba 3 (ao dM (aj bR (aa (ao aQ (ai 0) (au (.int 0))) (ah))) (au (.int 2))))
 (ay (dC (mT (dz (bq (mG mh mh (au (.int 0)) (ai 1) (ai 3)))) (dz (bq (mG mh mh (au (.int 0)) (ai 2) (ai 3))))) (aI (au .non)) (skip))
 (ay (iK (cL (dR (aa (au (.int 4)) (ah)))) (gN 4) (dC (fx (aj (nF 4 mq) (aa (ai 0) (aa (ai 1) (aa (ai 2) (aa (ai 4) (ah))))))) (aI (ai 4)) (skip)))
 (aI (au .non))))
def fP:List D->Option D:=fO .s 5 si
theorem sO(B:Bt mg)(F:Df K mg "way_put" eU ["square","c","r"])(ET:Et K mg kx0 kx1 kx2)(md:Cl P w K mg base 2 "is_put" ["square","c","r","way"] (eP K .s 4 mq)):Cl P w K mg base 3 "way_put" ["square","c","r"] (eP K .s 3 fP):=by
 refine bF (k:=2) F sc_way_put (by decide) rfl λ_ cdv A outer s H hid E hr=>?_
 exact(aq (bG 3 sc_way_put.nd (eT (aT aS dq B.b_len (aF (aE ax aD (ag 0) al (λ_ _=>rfl)) aX) (hv:=by kernel_rfl)) al))
  (aq (cR (DW.dt (nl (iG (rH kT kT eg eg al (ag 1) (ag 3))) (lP (iG (rH kT kT eg eg al (ag 2) (ag 3)))))) (av (aK kE)) bj)
  (aq (ms PassesOwn.never rfl (DIp.e (dL B.b_range (af (ux B.g_MANY_WAYS) ar))) (aB 4 sc_way_put.nd) (av (cR (jS (bY md (hr.mono (by decide)) (af (ag 0) (af (ag 1) (af (ag 2) (af (ag 4) ar)))))) (av (aK (ag 4))) bj)))
  (av (aK kE)))))
theorem mz:FnScope ["marks","row","column"] ["marks","row","column"] (ak cw):=⟨rfl,rfl,rfl,by decide+kernel,rfl,by decide+kernel,by decide+kernel⟩
def mI:FS:=
 aI (aj cj (aa (bT 2 (vK (ai 0)) (gT 2 (cQ (gN 3) (cQ (gN 4) (iQ)))) (bq (ao kZ (ai 3) (ai 2))) (sZ (bq (ao wE (ai 4) (ai 1))) (ao dM (ai 4) (au (.int 1))) (ai 4))) (ah)))
def eZ:List D->Option D:=fO .s 3 mI
theorem mS(B:Bt mg)(F:Df K mg "rows_joined" cw ["marks","row","column"])(ET:Et K mg kx0 kx1 kx2):Cl P w K mg base 1 "rows_joined" ["marks","row","column"] (eP K .s 3 eZ):=by
 refine bF (k:=0) F mz (by decide) rfl λ_ cdv A outer s H hid E hr=>?_
 exact(av (aK (cO bD et B.b_tuple (aF (jU (N':=["marks","row","column","at","mark"]) rfl (x6 (lC (gU (Nat.le_of_ble_eq_true rfl)) (lC (gU (Nat.le_of_ble_eq_true rfl)) sJ))) (DIp.b (uP (ag 0) B.b_enumerate)) (λ_ _ _ _=>(eA (n:=2) rfl (aU (aB 3 zU) (aU (aB 4 zU) ee)))) (λ_ _ _ _=>(rW (aY (jQ hr.units) ml (ag 3) (ag 2) (bb _)))) (λ_ _ _ _=>(tv (by decide) (aY u3 eg (ag 4) (ag 1) (bb _)) (eT (ag 4) al) (ag 4)))) aX) (hv:=by kernel_rfl))))
theorem sc_corner_taken:FnScope ["square","c","r","way","rings","crosses","full_column"] ["square","c","r"] (ak bV):=⟨rfl,rfl,rfl,by decide+kernel,rfl,by decide+kernel,by decide+kernel⟩
def lM:FX:=
 cM (ic (ba 3 (aj (nF 3 fP) (aa (ai 0) (aa (ai 1) (aa (ai 2) (ah)))))))
 (cM (mE (bq (ao (zh false) (ai 3) (au .non))) (mK ⟨"NoMove",0⟩ (aa (au (.str "there is no corner to be taken out")) (ah))) (ic skip))
 (ic (ay (cr (gT 2 (cQ (gN 4) (cQ (gN 5) (iQ)))) (pu (ai 0)))
 (ay (ba 6 (ao aQ (aj (nF 3 bJ) (aa (ai 1) (aa (ai 2) (aa (ai 3) (ah))))) (au (.int 2))))
 (aI (aZ (aa (aj (nF 3 eZ) (aa (ai 4) (aa (ai 2) (aa (ai 6) (ah))))) (aa (aj (nF 3 eZ) (aa (ai 5) (aa (ai 2) (aa (ai 6) (ah))))) (ah)))))))))
def gj:List D->Option (Except Ex D):=oW .s 7 lM
theorem lK(B:Bt mg)(F:Df K mg "corner_taken" bV ["square","c","r"])(ET:Et K mg kx0 kx1 kx2)(fS:Cl P w K mg base 3 "way_put" ["square","c","r"] (eP K .s 3 fP))(bn:Cl P w K mg base 1 "free_and_full" ["c","r","way"] (eP K .s 3 bJ))(e7:Cl P w K mg base 1 "rows_joined" ["marks","row","column"] (eP K .s 3 eZ)):ClX P w K mg base 4 "corner_taken" ["square","c","r"] (qe K .s 3 gj):=by
 refine jb (k:=3) F sc_corner_taken (by decide) rfl λ_ cdv A outer s H hid E hr=>?_
 exact(bS (ib (bG 3 sc_corner_taken.nd (bY fS (hr.mono (by decide)) (af (ag 0) (af (ag 1) (af (ag 2) ar))))))
  (bS (jF (DT.nox (aY Ab (xE false) (ag 3) kE (bb _))) (dA (jk (n:=0) (ET.t.row _ (List.Mem.tail _ (List.Mem.head _))).mg (ET.t.row _ (List.Mem.tail _ (List.Mem.head _))).ns ET.o_NoMove hr.hd (DA.nox (af be ar)))) gg)
  (ko (aq (gS (DP.ef (ag 0)) (eA (n:=2) rfl (aU (aB 4 sc_corner_taken.nd) (aU (aB 5 sc_corner_taken.nd) ee))))
  (aq (bG 6 sc_corner_taken.nd (aE ax aD (bY bn (hr.mono (by decide)) (af (ag 1) (af (ag 2) (af (ag 3) ar)))) al (λ_ _=>rfl)))
  (av (aK (bK (af (bY e7 (hr.mono (by decide)) (af (ag 4) (af (ag 2) (af (ag 6) ar)))) (af (bY e7 (hr.mono (by decide)) (af (ag 5) (af (ag 2) (af (ag 6) ar)))) ar))))))))))
theorem sc_moved:FnScope ["square","move","kind"] ["square","move"] (ak iP):=⟨rfl,rfl,rfl,by decide+kernel,rfl,by decide+kernel,by decide+kernel⟩
def vM:FX:=
 cM (ic (ba 2 (ao aQ (ai 1) (au (.int 0)))))
 (cM (ic (dC (bq (ao iU (ai 2) (au (.str "columns")))) (aI (aj (nF 2 eW) (aa (ai 0) (aa (ao aQ (ai 1) (au (.int 1))) (ah))))) (skip)))
 (cM (ic (dC (bq (ao iU (ai 2) (au (.str "rows")))) (aI (aj (nF 2 gR) (aa (ai 0) (aa (ao aQ (ai 1) (au (.int 1))) (ah))))) (skip)))
 (cM (ic (dC (bq (ao iU (ai 2) (au (.str "tip")))) (aI (aj (nF 1 ip) (aa (ai 0) (ah)))) (skip)))
 (cM (mE (bq (ao iU (ai 2) (au (.str "swap")))) (gQ (cB 2 cm (fE (aa (ai 0) (aa (ao aQ (ai 1) (au (.int 1))) (ah)))))) (ic skip))
 (cM (mE (bq (ao iU (ai 2) (au (.str "cross")))) (gQ (cB 2 gu (fE (aa (ai 0) (aa (ao aQ (ai 1) (au (.int 1))) (ah)))))) (ic skip))
 (cM (mE (bq (ao iU (ai 2) (au (.str "put")))) (gQ (cB 3 iA (fE (aa (ai 0) (aa (ao aQ (ai 1) (au (.int 1))) (aa (ao aQ (ai 1) (au (.int 2))) (ah))))))) (ic skip))
 (gQ (cB 3 gj (fE (aa (ai 0) (aa (ao aQ (ai 1) (au (.int 1))) (aa (ao aQ (ai 1) (au (.int 2))) (ah)))))))))))))
def fI:List D->Option (Except Ex D):=oW .s 3 vM
theorem vV(B:Bt mg)(F:Df K mg "moved" iP ["square","move"])(ET:Et K mg kx0 kx1 kx2)(gp:ClX P w K mg base 4 "corner_taken" ["square","c","r"] (qe K .s 3 gj))(eR:Cl P w K mg base 2 "columns_turned" ["square","k"] (eP K .s 2 eW))(gY:Cl P w K mg base 2 "rows_turned" ["square","k"] (eP K .s 2 gR))(gr:Cl P w K mg base 2 "tipped" ["square"] (eP K .s 1 ip))(bH:ClX P w K mg base 3 "columns_changed" ["square","c"] (qe K .s 2 cm))(fX:ClX P w K mg base 4 "rows_changed" ["square","r"] (qe K .s 2 gu))(ir:ClX P w K mg base 2 "corner_put" ["square","c","way"] (qe K .s 3 iA)):ClX P w K mg base 5 "moved" ["square","move"] (qe K .s 2 fI):=by
 refine jb (k:=4) F sc_moved (by decide) rfl λ_ cdv A outer s H hid E hr=>?_
 exact(bS (ib (bG 2 sc_moved.nd (aE ax aD (ag 1) al (λ_ _=>rfl))))
  (bS (ib (cR (aY (cZ hr.units) fc (ag 2) be (bb _)) (av (aK (bY eR (hr.mono (by decide)) (af (ag 0) (af (aE ax aD (ag 1) al (λ_ _=>rfl)) ar))))) bj))
  (bS (ib (cR (aY (cZ hr.units) fc (ag 2) be (bb _)) (av (aK (bY gY (hr.mono (by decide)) (af (ag 0) (af (aE ax aD (ag 1) al (λ_ _=>rfl)) ar))))) bj))
  (bS (ib (cR (aY (cZ hr.units) fc (ag 2) be (bb _)) (av (aK (bY gr (hr.mono (by decide)) (af (ag 0) ar)))) bj))
  (bS (jF (DT.nox (aY (cZ hr.units) fc (ag 2) be (bb _))) (dA (jj (nJ bH (hr.mono (by decide)) (DA.rr (DA.nox (af (ag 0) (af (aE ax aD (ag 1) al (λ_ _=>rfl)) ar))))))) gg)
  (bS (jF (DT.nox (aY (cZ hr.units) fc (ag 2) be (bb _))) (dA (jj (nJ fX (hr.mono (by decide)) (DA.rr (DA.nox (af (ag 0) (af (aE ax aD (ag 1) al (λ_ _=>rfl)) ar))))))) gg)
  (bS (jF (DT.nox (aY (cZ hr.units) fc (ag 2) be (bb _))) (dA (jj (nJ ir (hr.mono (by decide)) (DA.rr (DA.nox (af (ag 0) (af (aE ax aD (ag 1) al (λ_ _=>rfl)) (af (aE ax aD (ag 1) al (λ_ _=>rfl)) ar)))))))) gg)
  (dA (jj (nJ gp (hr.mono (by decide)) (DA.rr (DA.nox (af (ag 0) (af (aE ax aD (ag 1) al (λ_ _=>rfl)) (af (aE ax aD (ag 1) al (λ_ _=>rfl)) ar)))))))))))))))
theorem sc_move_back:FnScope ["square","move","kind","crosses"] ["square","move"] (ak dc):=⟨rfl,rfl,rfl,by decide+kernel,rfl,by decide+kernel,by decide+kernel⟩
def fo:FS:=
 ay (ba 2 (ao aQ (ai 1) (au (.int 0))))
 (ay (dC (bq (ao (sj false) (ai 2) (aZ (aa (au (.str "columns")) (aa (au (.str "rows")) (ah)))))) (aI (aZ (aa (ai 2) (aa (hX (ao aQ (ai 1) (au (.int 1)))) (ah))))) (skip))
 (ay (dC (bq (ao iU (ai 2) (au (.str "put")))) (ay (ba 3 (ao aQ (ai 0) (au (.int 1))))
 (aI (aZ (aa (au (.str "take")) (aa (ao aQ (ai 1) (au (.int 1))) (aa (ao aQ (ai 3) (ao aQ (ai 1) (au (.int 1)))) (ah))))))) (skip))
 (ay (dC (bq (ao iU (ai 2) (au (.str "take")))) (aI (aZ (aa (au (.str "put")) (aa (ao aQ (ai 1) (au (.int 1))) (aa (aj (nF 3 fP) (aa (ai 0) (aa (ao aQ (ai 1) (au (.int 1))) (aa (ao aQ (ai 1) (au (.int 2))) (ah))))) (ah)))))) (skip))
 (aI (ai 1)))))
def dS:List D->Option D:=fO .s 4 fo
theorem o9(B:Bt mg)(F:Df K mg "move_back" dc ["square","move"])(ET:Et K mg kx0 kx1 kx2)(fS:Cl P w K mg base 3 "way_put" ["square","c","r"] (eP K .s 3 fP)):Cl P w K mg base 4 "move_back" ["square","move"] (eP K .s 2 dS):=by
 refine bF (k:=3) F sc_move_back (by decide) rfl λ_ cdv A outer s H hid E hr=>?_
 exact(aq (bG 2 sc_move_back.nd (aE ax aD (ag 1) al (λ_ _=>rfl)))
  (aq (cR (aY (mt hr.units) (p4 false) (ag 2) (bK (af be (af be ar))) (by with_unfolding_all rfl)) (av (aK (bK (af (ag 2) (af (jo (aE ax aD (ag 1) al (λ_ _=>rfl))) ar))))) bj)
  (aq (cR (aY (cZ hr.units) fc (ag 2) be (bb _)) (aq (bG 3 sc_move_back.nd (aE ax aD (ag 0) al (λ_ _=>rfl)))
  (av (aK (bK (af be (af (aE ax aD (ag 1) al (λ_ _=>rfl)) (af (aE ax aD (ag 3) (aE ax aD (ag 1) al (λ_ _=>rfl)) (λ_ _=>rfl)) ar))))))) bj)
  (aq (cR (aY (cZ hr.units) fc (ag 2) be (bb _)) (av (aK (bK (af be (af (aE ax aD (ag 1) al (λ_ _=>rfl)) (af (bY fS (hr.mono (by decide)) (af (ag 0) (af (aE ax aD (ag 1) al (λ_ _=>rfl)) (af (aE ax aD (ag 1) al (λ_ _=>rfl)) ar)))) ar)))))) bj)
  (av (aK (ag 1)))))))
theorem pr:FnScope ["_law_script","_law_k"] ["_law_script","_law_k"] (ak dI):=⟨rfl,rfl,rfl,by decide+kernel,rfl,by decide+kernel,by decide+kernel⟩
def qN:FS:=
 ay (dC (bq (ao sg (ai 1) (aj bR (aa (ai 0) (ah))))) (aI (ao aQ (ai 0) (ai 1))) (skip))
 (aI (au (.int 0)))
def jP:List D->Option D:=fO .s 2 qN
theorem qi(B:Bt mg)(F:Df K mg "_law_cell" dI ["_law_script","_law_k"])(ET:Et K mg kx0 kx1 kx2):Cl P w K mg base 1 "_law_cell" ["_law_script","_law_k"] (eP K .s 2 jP):=by
 refine bF (k:=0) F pr (by decide) rfl λ_ cdv A outer s H hid E hr=>?_
 exact(aq (cR (aY nz eg (ag 1) (aT aS dq B.b_len (aF (ag 0) aX) (hv:=by kernel_rfl)) (bb _)) (av (aK (aE ax aD (ag 0) (ag 1) (λ_ _=>rfl)))) bj)
  (av (aK al)))
theorem sc_law_bag:FnScope ["_law_script","_law_at","_law_cell_here","_law_mix","_law_k"] ["_law_script","_law_at"] (ak eN):=⟨rfl,rfl,rfl,by decide+kernel,rfl,by decide+kernel,by decide+kernel⟩
def sH:FS:=
 ay (ba 2 (ao bv (aj pJ (aa (aj (nF 2 jP) (aa (ai 0) (aa (ai 1) (ah)))) (ah))) (ao eI (ao eI (ao eC (au (.int 10)) (au (.int 60))) (ao eC (au (.int 10)) (au (.int 60)))) (ao eC (au (.int 10)) (au (.int 60))))))
 (ay (dC (bq (ao yQ (ai 2) (ao eC (au (.int 10)) (au (.int 18))))) (aI (eG (aa (ai 2) (aa (au (.int 0)) (ah))))) (skip))
 (ay (ba 3 (ao bv (ao bp (ao bp (ai 2) (ao eI (au (.int 7919)) (ai 1))) (au (.int 17))) (au (.int 2147483647))))
 (ay (iK (cL (dR (aa (aj i7 (aa (aj bR (aa (ai 0) (ah))) (aa (au (.int 9)) (ah)))) (ah)))) (gN 4) (ba 3 (ao bv (ao bp (ao bp (ao eC (ai 3) (au (.int 5))) (ao bv (ao aQ (ai 0) (ai 4)) (au (.int 2147483629)))) (ao eI (au (.int 31)) (ai 4))) (au (.int 2147483647)))))
 (aI (eG (aa (ai 3) (aa (au (.int 1)) (ah))))))))
def jm:List D->Option D:=fO .n 5 sH
theorem sN(B:Bt mg)(F:Df K mg "_law_bag" eN ["_law_script","_law_at"])(ET:Et K mg kx0 kx1 kx2)(jO:Cl P w K mg base 1 "_law_cell" ["_law_script","_law_k"] (eP K .s 2 jP)):Cl P w K mg base 2 "_law_bag" ["_law_script","_law_at"] (eP K .n 2 jm):=by
 refine bF (k:=1) F sc_law_bag (by decide) rfl λ_ cdv A outer s H hid E hr=>?_
 exact(aq (bG 2 sc_law_bag.nd (dm (aT uG yB B.b_abs (aF (bY jO (hr.mono (by decide)) (af (ag 0) (af (ag 1) ar))) aX) (hv:=by kernel_rfl)) (kA (kA (kr al al) (kr al al)) (kr al al))))
  (aq (cR (aY xk eg (ag 2) (kr al al) (bb _)) (av (aK (iq (af (ag 2) (af al ar))))) bj)
  (aq (bG 3 sc_law_bag.nd (dm (cF (cF (ag 2) (kA al (ag 1))) al) al))
  (aq (ms PassesOwn.never rfl (DIp.e (dL B.b_range (af (aT (km rfl) oM B.b_min (aF (aT aS dq B.b_len (aF (ag 0) aX) (hv:=by kernel_rfl)) (aF al aX)) (hv:=by kernel_rfl)) ar))) (aB 4 sc_law_bag.nd) (av (bG 3 sc_law_bag.nd (dm (cF (cF (kr (ag 3) al) (dm (aE ax aD (ag 0) (ag 4) (λ_ _=>rfl)) al)) (kA al (ag 4))) al))))
  (av (aK (iq (af (ag 3) (af al ar)))))))))
theorem sc_law_take:FnScope ["_law_bag_here","_law_many","_law_digit"] ["_law_bag_here","_law_many"] (ak dJ):=⟨rfl,rfl,rfl,by decide+kernel,rfl,by decide+kernel,by decide+kernel⟩
def qJ:FS:=
 ay (dC (bq (ao iU (ao aQ (cV 0) (au (.int 1))) (au (.int 0)))) (ay (ba 2 (ao bv (ao aQ (cV 0) (au (.int 0))) (ai 1)))
 (ay (cr (db 0 (au (.int 0))) (pu (ao iS (ao aQ (cV 0) (au (.int 0))) (ai 1))))
 (aI (ai 2)))) (skip))
 (ay (cr (db 0 (au (.int 0))) (pu (ao bv (ao bp (ao bp (ao eC (ao aQ (cV 0) (au (.int 0))) (au (.int 5))) (ao eI (au (.int 48271)) (ao aQ (cV 0) (au (.int 1))))) (au (.int 11))) (au (.int 2147483647)))))
 (ay (cr (db 0 (au (.int 1))) (pu (ao bp (ao aQ (cV 0) (au (.int 1))) (au (.int 1)))))
 (aI (ao bv (ao iS (ao bv (ao eI (ao aQ (cV 0) (au (.int 0))) (au (.int 69621))) (au (.int 2147483629))) (au (.int 8))) (ai 1)))))
def bz:List D->List D->Option (D×List D):=pS .s 3 qJ
theorem qI(B:Bt mg)(F:Df K mg "_law_take" dJ ["_law_bag_here","_law_many"])(ET:Et K mg kx0 kx1 kx2):Cl P w K mg base 1 "_law_take" ["_law_bag_here","_law_many"] (oU K .s 1 bz):=by
 refine mk (k:=0) F sc_law_take (by decide) rfl λ_ cdv A outer s H hid a E hr=>?_
 exact(aq (cR (aY (cZ hr.units) fc (aE ax aD (cX 0) al (λ_ _=>rfl)) al (bb _)) (aq (bG 2 sc_law_take.nd (dm (aE ax aD (cX 0) al (λ_ _=>rfl)) (ag 1)))
  (aq (lG (DP.ef (nR (aE ax aD (cX 0) al (λ_ _=>rfl)) (ag 1))) (iB 0 al))
  (av (aK (ag 2))))) bj)
  (aq (lG (DP.ef (dm (cF (cF (kr (aE ax aD (cX 0) al (λ_ _=>rfl)) al) (kA al (aE ax aD (cX 0) al (λ_ _=>rfl)))) al) al)) (iB 0 al))
  (aq (lG (DP.ef (cF (aE ax aD (cX 0) al (λ_ _=>rfl)) al)) (iB 0 al))
  (av (aK (dm (nR (dm (kA (aE ax aD (cX 0) al (λ_ _=>rfl)) al) al) al) (ag 1)))))))
theorem sc_law_order:FnScope ["_law_bag_here","_law_n","_law_left","_law_found"] ["_law_bag_here","_law_n"] (ak de):=⟨rfl,rfl,rfl,by decide+kernel,rfl,by decide+kernel,by decide+kernel⟩
def pM:FS:=
 ay (eS 2 (vt (ai 1)))
 (ay (eS 3 (eG (ah)))
 (ay (oh (bq (ao kZ (cV 2) (eG (ah)))) (eL (aN 3 1 jI (dl (aN 2 1 mW (dl (aN 0 1 bz (cL (aa (aj bR (aa (cV 2) (ah))) (ah)))) (cL (ah)))) (cL (ah))))) 16)
 (vg 3)))
def gL:List D->List D->Option (D×List D):=pS .n 4 pM
theorem pQ(B:Bt mg)(F:Df K mg "_law_order" de ["_law_bag_here","_law_n"])(ET:Et K mg kx0 kx1 kx2)(bo:Cl P w K mg base 1 "_law_take" ["_law_bag_here","_law_many"] (oU K .s 1 bz)):Cl P w K mg base 2 "_law_order" ["_law_bag_here","_law_n"] (oU K .n 1 gL):=by
 refine mk (k:=1) F sc_law_order (by decide) rfl λ_ cdv A outer s H hid a E hr=>?_
 exact(aq (jr 2 sc_law_order.nd (jw rfl B.b_list B.b_range (ag 1)))
  (aq (jr 3 sc_law_order.nd (iq ar))
  (aq (p7 16 PassesOwn.never (aY (jQ hr.units) ml (cX 2) (iq ar) (bb _)) (av (j0 (jp 3 kv je PySem.F.slot_list_append PySem.F.type_list_append (js (jp 2 yz uI PySem.F.slot_list_pop PySem.F.type_list_pop (js (iR 0 bo (hr.mono (by decide)) (DA.gf (af (aT aS dq B.b_len (aF (cX 2) aX) (hv:=by kernel_rfl)) ar))) (DA.gf ar))) (DA.gf ar))))))
  (av (wF 3)))))
theorem sc_law_square:FnScope ["_law_bag_here","_law_n","_law_plain","_law_by","_law_rings","_law_crosses","_law_c","_law_d"] ["_law_bag_here","_law_n"] (ak cE):=⟨rfl,rfl,rfl,by decide+kernel,rfl,by decide+kernel,by decide+kernel⟩
def nP:FS:=
 ay (gA 2 (aN 0 1 bz (cL (aa (au (.int 4)) (ah)))))
 (ay (gA 3 (lE bp (pu (au (.int 1))) (aN 0 1 bz (cL (aa (ao dM (ai 1) (au (.int 1))) (ah))))))
 (ay (gA 4 (aN 0 1 gL (cL (aa (ai 1) (ah)))))
 (ay (qr 5 (aN 0 1 gL (cL (aa (ai 1) (ah)))))
 (ay (dC (bq (ao iU (ai 2) (au (.int 1)))) (ay (ba 4 (vt (ai 1)))
 (eS 5 (bT 1 (iW (ai 4)) (gN 8) (iV) (ao bv (ao bp (ai 8) (ai 3)) (ai 1))))) (skip))
 (ay (iK (cL (dR (aa (ai 1) (ah)))) (gN 6) (ay (ba 7 (ao bv (ao bp (ai 6) (au (.int 1))) (ai 1)))
 (dC (bq (ao iU (ao aQ (cV 5) (ai 6)) (ao aQ (ai 4) (ai 6)))) (cr (gT 2 (cQ (db 5 (ai 6)) (cQ (db 5 (ai 7)) (iQ)))) (pu (aZ (aa (ao aQ (cV 5) (ai 7)) (aa (ao aQ (cV 5) (ai 6)) (ah)))))) (skip))))
 (aI (aZ (aa (aj cj (aa (ai 4) (ah))) (aa (aj cj (aa (cV 5) (ah))) (ah))))))))))
def fJ:List D->List D->Option (D×List D):=pS .s 8 nP
theorem n8(B:Bt mg)(F:Df K mg "_law_square" cE ["_law_bag_here","_law_n"])(ET:Et K mg kx0 kx1 kx2)(bo:Cl P w K mg base 1 "_law_take" ["_law_bag_here","_law_many"] (oU K .s 1 bz))(gF:Cl P w K mg base 2 "_law_order" ["_law_bag_here","_law_n"] (oU K .n 1 gL)):Cl P w K mg base 3 "_law_square" ["_law_bag_here","_law_n"] (oU K .s 1 fJ):=by
 refine mk (k:=2) F sc_law_square (by decide) rfl λ_ cdv A outer s H hid a E hr=>?_
 exact(aq (gH 2 sc_law_square.nd (iR 0 bo (hr.mono (by decide)) (DA.gf (af al ar))))
  (aq (gH 3 sc_law_square.nd (tY (DP.ef al) (iR 0 bo (hr.mono (by decide)) (DA.gf (af (eT (ag 1) al) ar)))))
  (aq (gH 4 sc_law_square.nd (DE.toS (iR 0 gF (hr.mono (by decide)) (DA.gf (af (ag 1) ar)))))
  (aq (wN 5 sc_law_square.nd (iR 0 gF (hr.mono (by decide)) (DA.gf (af (ag 1) ar))))
  (aq (cR (aY (cZ hr.units) fc (ag 2) al (bb _)) (aq (bG 4 sc_law_square.nd (DP.toS (jw rfl B.b_list B.b_range (ag 1))))
  (av (oJ 5 (N':=["_law_bag_here","_law_n","_law_plain","_law_by","_law_rings","_law_crosses","_law_c","_law_d","_law_row"]) rfl sc_law_square.nd (gU (Nat.le_of_ble_eq_true rfl)) (DIp.b (jl (ag 4))) (λ_ _ _ _=>(aB 8 Aw)) (λ_ _ _ _=>iu) (λ_ _ _ _=>(dm (cF (ag 8) (ag 3)) (ag 1)))))) bj)
  (aq (ms PassesOwn.never rfl (DIp.e (dL B.b_range (af (ag 1) ar))) (aB 6 sc_law_square.nd) (aq (bG 7 sc_law_square.nd (dm (cF (ag 6) al) (ag 1)))
  (av (cR (aY (cZ hr.units) fc (aE ax aD (cX 5) (ag 6) (λ_ _=>rfl)) (aE ax aD (ag 4) (ag 6) (λ_ _=>rfl)) (bb _)) (av (lG (DP.ef (bK (af (aE ax aD (cX 5) (ag 7) (λ_ _=>rfl)) (af (aE ax aD (cX 5) (ag 6) (λ_ _=>rfl)) ar)))) (qU (n:=2) rfl (j8 (iB 5 (ag 6)) (j8 (iB 5 (ag 7)) rM))))) bj))))
  (av (aK (bK (af (cO bD et B.b_tuple (aF (ag 4) aX) (hv:=by kernel_rfl)) (af (cO bD et B.b_tuple (aF (cX 5) aX) (hv:=by kernel_rfl)) ar)))))))))))
theorem sc_law_move:FnScope ["_law_bag_here","_law_square_here","_law_n","_law_way","_law_c","_law_r","_law_some"] ["_law_bag_here","_law_square_here"] (ak dQ):=⟨rfl,rfl,rfl,by decide+kernel,rfl,by decide+kernel,by decide+kernel⟩
def jJ:FS:=
 ay (ba 2 (aj bR (aa (ao aQ (ai 1) (au (.int 0))) (ah))))
 (ay (gA 3 (aN 0 1 bz (cL (aa (au (.int 10)) (ah)))))
 (ay (gA 4 (aN 0 1 bz (cL (aa (ai 2) (ah)))))
 (ay (gA 5 (aN 0 1 bz (cL (aa (ai 2) (ah)))))
 (ay (ba 6 (eG (aa (aZ (aa (au (.str "columns")) (aa (ao dM (ai 4) (au (.int 2))) (ah)))) (aa (aZ (aa (au (.str "rows")) (aa (ao dM (ai 5) (au (.int 2))) (ah)))) (aa (aZ (aa (au (.str "tip")) (ah))) (aa (aZ (aa (au (.str "swap")) (aa (ai 4) (ah)))) (aa (aZ (aa (au (.str "cross")) (aa (ai 5) (ah)))) (aa (aZ (aa (au (.str "swap")) (aa (ai 5) (ah)))) (aa (aZ (aa (au (.str "put")) (aa (ai 4) (aa (ao bv (ai 5) (au (.int 4))) (ah))))) (ah))))))))))
 (ay (ba 6 (ao kY (ai 6) (eG (aa (aZ (aa (au (.str "take")) (aa (ai 4) (aa (aj fW (aa (au (.int 0)) (aa (ao dM (ao aQ (ao aQ (ai 1) (au (.int 1))) (ai 4)) (ao bv (ai 5) (au (.int 2)))) (ah)))) (ah))))) (aa (aZ (aa (au (.str "take")) (aa (aj fW (aa (au (.int 0)) (aa (ao dM (ai 4) (ao bv (ai 5) (au (.int 2)))) (ah)))) (aa (aj fW (aa (au (.int 0)) (aa (ao dM (ao aQ (ao aQ (ai 1) (au (.int 1))) (ai 4)) (au (.int 1))) (ah)))) (ah))))) (ah))))))
 (aI (ao aQ (ao kY (ai 6) (eG (aa (aZ (aa (au (.str "take")) (aa (ai 4) (aa (ao aQ (ao aQ (ai 1) (au (.int 0))) (ai 4)) (ah))))) (ah)))) (ai 3))))))))
def eV:List D->List D->Option (D×List D):=pS .s 7 jJ
theorem qt(B:Bt mg)(F:Df K mg "_law_move" dQ ["_law_bag_here","_law_square_here"])(ET:Et K mg kx0 kx1 kx2)(bo:Cl P w K mg base 1 "_law_take" ["_law_bag_here","_law_many"] (oU K .s 1 bz)):Cl P w K mg base 2 "_law_move" ["_law_bag_here","_law_square_here"] (oU K .s 1 eV):=by
 refine mk (k:=1) F sc_law_move (by decide) rfl λ_ cdv A outer s H hid a E hr=>?_
 exact(QSs.to (g8 (QS.of (bG 2 sc_law_move.nd (aT aS dq B.b_len (aF (aE ax aD (ag 1) al (λ_ _=>rfl)) aX) (hv:=by kernel_rfl))))
  (g8 (QS.of (gH 3 sc_law_move.nd (iR 0 bo (hr.mono (by decide)) (DA.gf (af al ar)))))
  (g8 (QS.of (gH 4 sc_law_move.nd (iR 0 bo (hr.mono (by decide)) (DA.gf (af (ag 2) ar)))))
  (g8 (QS.of (gH 5 sc_law_move.nd (iR 0 bo (hr.mono (by decide)) (DA.gf (af (ag 2) ar)))))
  (g8 (re 6 sc_law_move.nd (tN (aW (iL (aW (QP.of be) (aW (QP.of (eT (ag 4) al)) gw))) (aW (iL (aW (QP.of be) (aW (QP.of (eT (ag 5) al)) gw))) (aW (iL (aW (QP.of be) gw)) (aW (iL (aW (QP.of be) (aW (QP.of (ag 4)) gw))) (aW (iL (aW (QP.of be) (aW (QP.of (ag 5)) gw))) (aW (iL (aW (QP.of be) (aW (QP.of (ag 5)) gw))) (aW (iL (aW (QP.of be) (aW (QP.of (ag 4)) (aW (QP.of (dm (ag 5) al)) gw)))) gw gX) gX) gX) gX) gX) gX) gX)))
  (g8 (re 6 sc_law_move.nd (xW (QP.of (ag 6)) (tN (aW (iL (aW (QP.of be) (aW (QP.of (ag 4)) (aW (QP.of (aT (g0 rfl) j2 B.b_max (aF al (aF (eT (aE ax aD (aE ax aD (ag 1) al (λ_ _=>rfl)) (ag 4) (λ_ _=>rfl)) (dm (ag 5) al)) aX)) (hv:=by kernel_rfl))) gw)))) (aW (iL (aW (QP.of be) (aW (QP.of (aT (g0 rfl) j2 B.b_max (aF al (aF (eT (ag 4) (dm (ag 5) al)) aX)) (hv:=by kernel_rfl))) (aW (QP.of (aT (g0 rfl) j2 B.b_max (aF al (aF (eT (aE ax aD (aE ax aD (ag 1) al (λ_ _=>rfl)) (ag 4) (λ_ _=>rfl)) al) aX)) (hv:=by kernel_rfl))) gw)))) gw gX) gX))))
  (wK (QS.of (aK (aE ax aD (rk (ag 6) (iq (af (bK (af be (af (ag 4) (af (aE ax aD (aE ax aD (ag 1) al (λ_ _=>rfl)) (ag 4) (λ_ _=>rfl)) ar)))) ar gX))) (ag 3) (λ_ _=>rfl))))))))))))
theorem sc_law_behind:FnScope ["_law_square_here","_law_move_here","e"] ["_law_square_here","_law_move_here"] (ak cK):=⟨rfl,rfl,rfl,by decide+kernel,rfl,by decide+kernel,by decide+kernel⟩
def iy:FS:=
 qE 2 exN ["NoMove","TooMany"] (gQ (cB 2 fI (fE (aa (ai 0) (aa (ai 1) (ah)))))) (aI (au .non))
def bP:List D->Option D:=fO .s 3 iy
theorem nU(B:Bt mg)(F:Df K mg "_law_behind" cK ["_law_square_here","_law_move_here"])(ET:Et K mg kx0 kx1 kx2)(jg:ClX P w K mg base 5 "moved" ["square","move"] (qe K .s 2 fI)):Cl P w K mg base 6 "_law_behind" ["_law_square_here","_law_move_here"] (eP K .s 2 bP):=by
 refine bF (k:=5) F sc_law_behind (by decide) rfl λ_ cdv A outer s H hid E hr=>?_
 exact(av (tx 2 sc_law_behind.nd ⟨rfl,rfl⟩ (λ_ _=>(dA (jj (nJ jg (hr.mono (by decide)) (DA.rr (DA.nox (af (ag 0) (af (ag 1) ar)))))))) (wC ET.t rfl (List.Mem.tail _ (List.Mem.head _)) (List.Mem.tail _ (List.Mem.tail _ (List.Mem.head _)))) (λ_=>(av (aK kE)))))
theorem qA:FnScope ["_law_square_here","_law_move_here","_law_back"] ["_law_square_here","_law_move_here","_law_back"] (ak eO):=⟨rfl,rfl,rfl,by decide+kernel,rfl,by decide+kernel,by decide+kernel⟩
def kz:FS:=
 ay (dC (bq (ao (sj false) (ao aQ (ai 1) (au (.int 0))) (aZ (aa (au (.str "columns")) (aa (au (.str "rows")) (ah)))))) (aI (aZ (aa (ao aQ (ai 1) (au (.int 0))) (aa (ao dM (au (.int 0)) (ao aQ (ai 1) (au (.int 1)))) (ah))))) (skip))
 (ay (dC (bq (ao iU (ao aQ (ai 1) (au (.int 0))) (au (.str "put")))) (aI (aZ (aa (au (.str "take")) (aa (ao aQ (ai 1) (au (.int 1))) (aa (ao aQ (ao aQ (ai 0) (au (.int 1))) (ao aQ (ai 1) (au (.int 1)))) (ah)))))) (skip))
 (ay (dC (bq (ao iU (ao aQ (ai 1) (au (.int 0))) (au (.str "take")))) (aI (sZ (j5 (bq (ao iU (aj bR (aa (ai 2) (ah))) (au (.int 3)))) (bq (ao (sj false) (ao aQ (ai 2) (au (.int 2))) (aZ (aa (au (.int 0)) (aa (au (.int 1)) (aa (au (.int 2)) (aa (au (.int 3)) (ah))))))))) (aZ (aa (au (.str "put")) (aa (ao aQ (ai 1) (au (.int 1))) (aa (ao aQ (ai 2) (au (.int 2))) (ah))))) (au .non))) (skip))
 (aI (ai 1))))
def fN:List D->Option D:=fO .s 3 kz
theorem se(B:Bt mg)(F:Df K mg "_law_due" eO ["_law_square_here","_law_move_here","_law_back"])(ET:Et K mg kx0 kx1 kx2):Cl P w K mg base 1 "_law_due" ["_law_square_here","_law_move_here","_law_back"] (eP K .s 3 fN):=by
 refine bF (k:=0) F qA (by decide) rfl λ_ cdv A outer s H hid E hr=>?_
 exact(aq (cR (aY (mt hr.units) (p4 false) (aE ax aD (ag 1) al (λ_ _=>rfl)) (bK (af be (af be ar))) (by with_unfolding_all rfl)) (av (aK (bK (af (aE ax aD (ag 1) al (λ_ _=>rfl)) (af (eT al (aE ax aD (ag 1) al (λ_ _=>rfl))) ar))))) bj)
  (aq (cR (aY (cZ hr.units) fc (aE ax aD (ag 1) al (λ_ _=>rfl)) be (bb _)) (av (aK (bK (af be (af (aE ax aD (ag 1) al (λ_ _=>rfl)) (af (aE ax aD (aE ax aD (ag 0) al (λ_ _=>rfl)) (aE ax aD (ag 1) al (λ_ _=>rfl)) (λ_ _=>rfl)) ar)))))) bj)
  (aq (cR (aY (cZ hr.units) fc (aE ax aD (ag 1) al (λ_ _=>rfl)) be (bb _)) (av (aK (tv (by decide) (DW.dt (yX (aY (cZ hr.units) fc (aT aS dq B.b_len (aF (ag 2) aX) (hv:=by kernel_rfl)) al (bb _)) (vJ (aY (mt hr.units) (p4 false) (aE ax aD (ag 2) al (λ_ _=>rfl)) (bK (af al (af al (af al (af al ar))))) (by with_unfolding_all rfl))))) (bK (af be (af (aE ax aD (ag 1) al (λ_ _=>rfl)) (af (aE ax aD (ag 2) al (λ_ _=>rfl)) ar)))) kE))) bj)
  (av (aK (ag 1))))))
theorem lL:FnScope ["_law_move_here"] ["_law_move_here"] (ak cq):=⟨rfl,rfl,rfl,by decide+kernel,rfl,by decide+kernel,by decide+kernel⟩
def mO:FS:=
 ay (dC (mT (dz (fx (sy "tuple" (ai 0)))) (mT (bq (ao sg (aj bR (aa (ai 0) (ah))) (au (.int 1)))) (dz (fx (sy "str" (ao aQ (ai 0) (au (.int 0)))))))) (aI (au (.bl false))) (skip))
 (aI (aj zb (aa (bT 1 (iW (x4 (ai 0) (A6 (au (.int 1))) Bx)) (gN 1) (iV) (uT (j5 (bq (sy "int" (ai 1))) (bq (uT (dz (bq (sy "bool" (ai 1))))))))) (ah))))
def bQ:List D->Option D:=fO .s 1 mO
theorem mU(B:Bt mg)(F:Df K mg "_law_is_move" cq ["_law_move_here"])(ET:Et K mg kx0 kx1 kx2):Cl P w K mg base 1 "_law_is_move" ["_law_move_here"] (eP K .s 1 bQ):=by
 refine bF (k:=0) F lL (by decide) rfl λ_ cdv A outer s H hid E hr=>?_
 exact(aq (cR (DW.dt (nl (iG (jS (oN "tuple" tT (ag 0) B.b_isinstance B.b_tuple))) (nl (aY nz eg (aT aS dq B.b_len (aF (ag 0) aX) (hv:=by kernel_rfl)) al (bb _)) (lP (iG (jS (oN "str" y3 (aE ax aD (ag 0) al (λ_ _=>rfl)) B.b_isinstance B.b_str))))))) (av (aK lg)) bj)
  (av (aK (aT (tF rfl) yx B.b_all (aF (jU (N':=["_law_move_here","_law_number"]) rfl (gU (Nat.le_of_ble_eq_true rfl)) (DIp.b (jl (y0 (ag 0) (vU al) vA))) (λ_ _ _ _=>(aB 1 A0)) (λ_ _ _ _=>iu) (λ_ _ _ _=>(u0 (oN "int" xX (ag 1) B.b_isinstance B.b_int) (t5 (yr (oN "bool" wB (ag 1) B.b_isinstance B.b_bool)))))) aX) (hv:=by kernel_rfl)))))
theorem sc_law_walk:FnScope ["_law_bag_here","_law_square_here","_law_squares","_law_backs","_law_turn","_law_move_here","_law_there","_law_back"] ["_law_bag_here","_law_square_here"] (ak dO):=⟨rfl,rfl,rfl,by decide+kernel,rfl,by decide+kernel,by decide+kernel⟩
def jL:FS:=
 ay (eS 2 (eG (aa (ai 1) (ah))))
 (ay (eS 3 (eG (ah)))
 (ay (iK (cL (dR (aa (au (.int 30)) (ah)))) (gN 4) (ay (gA 5 (aN 0 1 eV (cL (aa (ao aQ (cV 2) (hX (au (.int 1)))) (ah)))))
 (ay (ba 6 (aj (nF 2 bP) (aa (ao aQ (cV 2) (hX (au (.int 1)))) (aa (ai 5) (ah)))))
 (dC (bq (ao (zh true) (ai 6) (au .non))) (ay (ba 7 (aj (nF 2 dS) (aa (ao aQ (cV 2) (hX (au (.int 1)))) (aa (ai 5) (ah)))))
 (ay (dC (mT (dz (fx (aj (nF 1 bQ) (aa (ai 7) (ah))))) (bq (ao kZ (ai 7) (aj (nF 3 fN) (aa (ao aQ (cV 2) (hX (au (.int 1)))) (aa (ai 5) (aa (ai 7) (ah)))))))) (aI (au (.bl false))) (skip))
 (ay (eL (aN 3 1 jI (cL (aa (ai 7) (ah)))))
 (eL (aN 2 1 jI (cL (aa (ai 6) (ah)))))))) (skip)))))
 (ay (oh (bq (ao wE (aj bR (aa (cV 3) (ah))) (au (.int 0)))) (ay (gA 6 (kU (nF 2 (yj fI)) (dl (aN 2 0 jB (cL ah)) (dl (aN 3 0 jB (cL ah)) (cL (ah))))))
 (dC (bq (ao kZ (ai 6) (ao aQ (cV 2) (hX (au (.int 1)))))) (aI (au (.bl false))) (skip))) 40)
 (aI (ao iU (cV 2) (eG (aa (ai 1) (ah))))))))
def fT:List D->List D->Option (D×List D):=pS .s 8 jL
theorem qC(B:Bt mg)(F:Df K mg "_law_walk" dO ["_law_bag_here","_law_square_here"])(ET:Et K mg kx0 kx1 kx2)(jR:Cl P w K mg base 2 "_law_move" ["_law_bag_here","_law_square_here"] (oU K .s 1 eV))(iF:Cl P w K mg base 6 "_law_behind" ["_law_square_here","_law_move_here"] (eP K .s 2 bP))(jg:ClX P w K mg base 5 "moved" ["square","move"] (qe K .s 2 fI))(iZ:Cl P w K mg base 4 "move_back" ["square","move"] (eP K .s 2 dS))(gV:Cl P w K mg base 1 "_law_is_move" ["_law_move_here"] (eP K .s 1 bQ))(kF:Cl P w K mg base 1 "_law_due" ["_law_square_here","_law_move_here","_law_back"] (eP K .s 3 fN)):Cl P w K mg base 7 "_law_walk" ["_law_bag_here","_law_square_here"] (oU K .s 1 fT):=by
 refine mk (k:=6) F sc_law_walk (by decide) rfl λ_ cdv A outer s H hid a E hr=>?_
 exact(aq (jr 2 sc_law_walk.nd (iq (af (ag 1) ar)))
  (aq (jr 3 sc_law_walk.nd (iq ar))
  (aq (ms PassesOwn.never rfl (DIp.e (dL B.b_range (af al ar))) (aB 4 sc_law_walk.nd) (aq (gH 5 sc_law_walk.nd (iR 0 jR (hr.mono (by decide)) (DA.gf (af (aE ax aD (cX 2) (jo al) (λ_ _=>rfl)) ar))))
  (aq (bG 6 sc_law_walk.nd (bY iF (hr.mono (by decide)) (af (aE ax aD (cX 2) (jo al) (λ_ _=>rfl)) (af (ag 5) ar))))
  (av (cR (aY ut (xE true) (ag 6) kE (bb _)) (aq (bG 7 sc_law_walk.nd (bY iZ (hr.mono (by decide)) (af (aE ax aD (cX 2) (jo al) (λ_ _=>rfl)) (af (ag 5) ar))))
  (aq (cR (DW.dt (nl (iG (jS (bY gV (hr.mono (by decide)) (af (ag 7) ar)))) (lP (aY (jQ hr.units) ml (ag 7) (bY kF (hr.mono (by decide)) (af (aE ax aD (cX 2) (jo al) (λ_ _=>rfl)) (af (ag 5) (af (ag 7) ar)))) (bb _))))) (av (aK lg)) bj)
  (aq (j0 (jp 3 kv je PySem.F.slot_list_append PySem.F.type_list_append (DA.gf (af (ag 7) ar))))
  (av (j0 (jp 2 kv je PySem.F.slot_list_append PySem.F.type_list_append (DA.gf (af (ag 6) ar)))))))) bj)))))
  (aq (p7 40 PassesOwn.never (aY u3 eg (aT aS dq B.b_len (aF (cX 3) aX) (hv:=by kernel_rfl)) al (bb _)) (aq (gH 6 sc_law_walk.nd (vG jg (hr.mono (by decide)) (js (pq 2 rJ uX PySem.F.slot_list_pop PySem.F.type_list_pop) (js (pq 3 rJ uX PySem.F.slot_list_pop PySem.F.type_list_pop) (DA.gf ar)))))
  (av (cR (aY (jQ hr.units) ml (ag 6) (aE ax aD (cX 2) (jo al) (λ_ _=>rfl)) (bb _)) (av (aK lg)) bj))))
  (av (aK (oj (cZ hr.units) fc (cX 2) (iq (af (ag 1) ar)) (bb _))))))))
theorem sc_law:FnScope ["_law_script","_law_k","_law_bag_here"] ["_law_script"] (ak jv):=⟨rfl,rfl,rfl,by decide+kernel,rfl,by decide+kernel,by decide+kernel⟩
def tI:FS:=
 ay (iK (cL (dR (aa (aj fW (aa (au (.int 1)) (aa (aj i7 (aa (au (.int 3)) (aa (aj bR (aa (ai 0) (ah))) (ah)))) (ah)))) (ah)))) (gN 1) (ay (eS 2 (aj (nF 2 jm) (aa (ai 0) (aa (ai 1) (ah)))))
 (zW (v8 (vT (aN 2 1 fT (dl (aN 2 1 fJ (dl (lE bp (pu (au (.int 2))) (aN 2 1 bz (cL (aa (au (.int 5)) (ah))))) (cL (ah)))) (cL (ah)))))) (aI (au (.bl false))) (skip))))
 (aI (au (.bl true)))
def xA:List D->Option D:=fO .s 3 tI
theorem yA {f:Addr}{fd:FuncData}(B:Bt mg)(F:Fun K "law" "law" jv f fd)(ET:Et K mg kx0 kx1 kx2)(kL:Cl P w K mg base 2 "_law_bag" ["_law_script","_law_at"] (eP K .n 2 jm))(jK:Cl P w K mg base 7 "_law_walk" ["_law_bag_here","_law_square_here"] (oU K .s 1 fT))(iO:Cl P w K mg base 3 "_law_square" ["_law_bag_here","_law_n"] (oU K .s 1 fJ))(bo:Cl P w K mg base 1 "_law_take" ["_law_bag_here","_law_many"] (oU K .s 1 bz)):FnOk P w K mg base oV 8 f fd ["_law_script"] (eP K .s 1 xA):=by
 refine rZ (k:=7) F sc_law (by decide) λcdv A outer s H hid E hr=>?_
 exact(aq (ms PassesOwn.never rfl (DIp.e (dL B.b_range (af (aT (g0 rfl) j2 B.b_max (aF al (aF (aT (km rfl) oM B.b_min (aF al (aF (aT aS dq B.b_len (aF (ag 0) aX) (hv:=by kernel_rfl)) aX)) (hv:=by kernel_rfl)) aX)) (hv:=by kernel_rfl)) ar))) (aB 1 sc_law.nd) (aq (jr 2 sc_law.nd (bY kL (hr.mono (by decide)) (af (ag 0) (af (ag 1) ar))))
  (av (xR (wt (vP (iR 2 jK (hr.mono (by decide)) (js (iR 2 iO (hr.mono (by decide)) (js (tY (DP.ef al) (iR 2 bo (hr.mono (by decide)) (DA.gf (af al ar)))) (DA.gf ar))) (DA.gf ar))))) (av (aK lg)) bj))))
  (av (aK lg)))
end
theorem gC {o:List Nat}{a b:Nat}(ha:a<o.length)(hb:b<o.length)(i:Nat):(ki o a b).getD i 0=if i=b then o.getD a 0 else if i=a then o.getD b 0 else o.getD i 0:=by
 unfold ki;simp only[List.getD_eq_getElem?_getD,List.getElem?_set]
 by_cases e:i=b
 ·subst e;rw[if_pos rfl,if_pos (by rw[List.length_set];exact hb),if_pos rfl];rfl
 ·rw[if_neg (Ne.symm e),if_neg e]
  by_cases e2:i=a
  ·subst e2;rw[if_pos rfl,if_pos ha,if_pos rfl];rfl
  ·rw[if_neg (Ne.symm e2),if_neg e2]
def gv(xs:List Nat)(k:Int):List Nat:=(List.range xs.length).map λ(i:Nat)=>xs.getD (((i:Int) -k) % xs.length).toNat 0
def gl(xs:List Nat)(k:Int):List Nat:=xs.map λ(v:Nat)=>(((v:Int)+k) % xs.length).toNat
theorem gd(xs:List Nat)(k:Int):(gv xs k).length=xs.length:=by simp[gv]
theorem ia(xs:List Nat)(k:Int):(gl xs k).length=xs.length:=by simp[gl]
theorem jX(xs:List Nat)(k:Int){i:Nat}(h:i<xs.length):(gv xs k).getD i 0=xs.getD (((i:Int) -k) % xs.length).toNat 0:=by
 simp[gv,List.getD,h]
theorem ue(xs:List Nat)(k:Int){i:Nat}(h:i<xs.length):(gl xs k).getD i 0=((((xs.getD i 0:Nat):Int)+k) % xs.length).toNat:=by
 simp[gl,List.getD,h]
theorem hW {xs ys:List Nat}(hl:xs.length=ys.length)(h: ∀i,i<xs.length->xs.getD i 0=ys.getD i 0):xs=ys:=by
 refine List.ext_getElem hl λi h1 h2=>?_
 have:=h i h1
 simpa [List.getD,h1,h2] using this
theorem qv {n:Nat}(h:0<n)(a:Int):((List.range n).map λ(i:Nat)=>(((i:Int)+a) % n).toNat).Perm (List.range n):=by
 refine(List.perm_ext_iff_of_nodup ?_ List.nodup_range).mpr λj=>?_
 ·show List.Pairwise (·≠ ·) _
  rw[List.pairwise_map];refine List.Pairwise.imp_of_mem (λ{i j} hi hj hlt e=>?_) List.pairwise_lt_range
  rw[List.mem_range] at hi hj;have m1:=vp ((i:Int)+a) h
  have m2:=vp ((j:Int)+a) h
  have:((i:Int)+a) % n=((j:Int)+a) % n:=by omega
  rw[Int.emod_add_cancel_right,Int.emod_eq_of_lt (by omega) (by omega),Int.emod_eq_of_lt (by omega) (by omega)] at this
  omega
 ·rw[List.mem_map,List.mem_range]
  constructor
  ·rintro⟨i,_,rfl⟩;exact(vp _ h).1
  ·intro hj
   have m:=vp ((j:Int) -a) h
   refine⟨(((j:Int) -a) % n).toNat,by rw[List.mem_range];exact m.1,?_⟩
   rw[m.2,Int.emod_add_emod,show(j:Int) -a+a=j by omega,Int.emod_eq_of_lt (by omega) (by omega)]
   rfl
def vq(n:Nat)(k:Int)(v:Nat):Nat:=(((v:Int)+k) % n).toNat
structure Mv(n:Nat)(t:Nat->Nat):Prop where
 lt: ∀c,c<n->t c<n
 inj: ∀c d,c<n->d<n->t c=t d->c=d
 sur: ∀c,c<n-> ∃d,d<n/\t d=c
 inb: ∀s e v,s<n->e<n->v<n->AF n (t s) (t e) (t v)=AF n s e v
theorem xC(n:Nat):Mv n id:=⟨λ_ h=>h,λ_ _ _ _ h=>h,λc h=>⟨c,h,rfl⟩,λ_ _ _ _ _ _=>rfl⟩
theorem t9 {n:Nat}(h:0<n)(k:Int):Mv n (vq n k):=by
 have cast: ∀v:Nat,((vq n k v:Nat):Int)=((v:Int)+k) % n:=λv=>(vp _ h).2
 have df: ∀u v:Nat,((vq n k u:Int) -vq n k v) % n=((u:Int) -v) % n:=λu v=>by
  rw[cast,cast,<-Int.sub_emod,show(u:Int)+k- (v+k)=u-v by omega]
 refine⟨λc _=>(vp _ h).1,λc d hc hd e=>?_,λc hc=>?_,λs e v _ _ _=>?_⟩
 ·have:=df c d
  rw[e,Int.sub_self,Int.zero_emod] at this;obtain⟨m,hm⟩:=Int.dvd_of_emod_eq_zero this.symm
  have:m=0:=by
   rcases Int.lt_trichotomy m 0 with q|q|q
   ·have:(n:Int)*m<=n*(-1):=Int.mul_le_mul_of_nonneg_left (by omega) (by omega)
    omega
   ·exact q
   ·have:(n:Int)*1<=n*m:=Int.mul_le_mul_of_nonneg_left (by omega) (by omega)
    omega
  rw[this] at hm;omega
 ·have:=(qv h k).mem_iff.mpr (List.mem_range.mpr hc)
  obtain⟨d,hd,e⟩:=List.mem_map.mp this
  exact⟨d,List.mem_range.mp hd,e⟩
 ·unfold AF
  rw[df,df]
theorem uh {n:Nat}{o:List Nat}(hl:o.length=n)(lt: ∀c,c<n->o.getD c 0<n)(inj: ∀c d,c<n->d<n->o.getD c 0=o.getD d 0->c=d)(sur: ∀v,v<n-> ∃c,c<n/\o.getD c 0=v):Ord n o:=by
 refine⟨(List.perm_ext_iff_of_nodup ?_ List.nodup_range).mpr λv=>?_⟩
 ·rw[List.Nodup,List.pairwise_iff_getElem]
  intro i j hi hj ij e;have:=inj i j (by omega) (by omega) (by rw[List.getD_eq_getElem?_getD,List.getElem?_eq_getElem hi,List.getD_eq_getElem?_getD,List.getElem?_eq_getElem hj];exact e)
  omega
 ·rw[List.mem_range]
  constructor
  ·intro h
   obtain⟨i,hi,rfl⟩:=List.getElem_of_mem h
   have:=lt i (by omega)
   rw[List.getD_eq_getElem?_getD,List.getElem?_eq_getElem hi] at this;exact this
  ·intro h
   obtain⟨c,hc,e⟩:=sur v h
   rw[List.getD_eq_getElem?_getD,List.getElem?_eq_getElem (by omega)] at e
   have e:o[c]=v:=e
   exact e▸List.getElem_mem _
theorem uC {n:Nat}{o:List Nat}(hl:o.length=n)(h:0<n)(k:Int){c:Nat}(hc:c<n):(gv o k).getD (vq n k c) 0=o.getD c 0:=by
 rw[jX o k (by rw[hl];exact(vp _ h).1),hl]
 have:(((vq n k c:Nat):Int) -k) % n=c:=by
  rw[show((vq n k c:Nat):Int)=((c:Int)+k) % n from(vp _ h).2,Int.sub_emod,Int.emod_emod,<-Int.sub_emod,show(c:Int)+k-k=c by omega]
  exact Int.emod_eq_of_lt (by omega) (by omega)
 rw[this];rfl
theorem ma {n:Nat}{o:List Nat}(hl:o.length=n)(k:Int){c:Nat}(hc:c<n):(gl o k).getD c 0=vq n k (o.getD c 0):=by
 rw[ue o k (by omega),hl];rfl
theorem Ord.mv {n:Nat}{o o':List Nat}{t u:Nat->Nat}(O:Ord n o)(T:Mv n t)(U:Mv n u)(hl:o'.length=n)(h: ∀c,c<n->o'.getD (t c) 0=u (o.getD c 0)):Ord n o':=by
 refine uh hl (λc hc=>?_) (λc d hc hd e=>?_) λv hv=>?_
 ·obtain⟨c',hc',rfl⟩:=T.sur c hc
  rw[h c' hc'];exact U.lt _ (O.get hc')
 ·obtain⟨c',hc',rfl⟩:=T.sur c hc
  obtain⟨d',hd',rfl⟩:=T.sur d hd
  rw[h c' hc',h d' hd'] at e;rw[O.inj hc' hd' (U.inj _ _ (O.get hc') (O.get hd') e)]
 ·obtain⟨w,hw,rfl⟩:=U.sur v hv
  obtain⟨c,hc,e⟩: ∃c,c<n/\o.getD c 0=w:=by
   obtain⟨i,hi,e⟩:=List.getElem_of_mem (O.has hw)
   exact⟨i,by rw[<-O.len];exact hi,by rw[List.getD_eq_getElem?_getD,List.getElem?_eq_getElem hi];exact e⟩
  exact⟨t c,T.lt c hc,by rw[h c hc,e]⟩
def cz(o:List Nat):List Nat:=(List.range o.length).map λv=>o.idxOf v
theorem gD {n:Nat}{o:List Nat}(O:Ord n o){v:Nat}(hv:v<n):o.idxOf v<n/\o.getD (o.idxOf v) 0=v:=by
 have hi:=List.idxOf_lt_length_of_mem (O.has hv)
 refine⟨by rw[<-O.len];exact hi,?_⟩
 rw[List.getD_eq_getElem?_getD,List.getElem?_eq_getElem hi,List.getElem_idxOf];rfl
theorem qm {n:Nat}{o:List Nat}(O:Ord n o){c:Nat}(hc:c<n):o.idxOf (o.getD c 0)=c:=O.inj (gD O (O.get hc)).1 hc (gD O (O.get hc)).2
theorem kg(o:List Nat):(cz o).length=o.length:=by simp[cz]
theorem iE {n:Nat}{o:List Nat}(O:Ord n o){v:Nat}(hv:v<n):(cz o).getD v 0=o.idxOf v:=by
 unfold cz;rw[List.getD_eq_getElem?_getD,List.getElem?_map,List.getElem?_range (by rw[O.len];exact hv)];rfl
theorem u5 {n:Nat}{o:List Nat}(O:Ord n o){c:Nat}(hc:c<n):(cz o).getD (o.getD c 0) 0=c:=by rw[iE O (O.get hc),qm O hc]
theorem Ord.tip {n:Nat}{o:List Nat}(O:Ord n o):Ord n (cz o):=by
 refine uh (by rw[kg,O.len]) (λv hv=>?_) (λv w hv hw e=>?_) λc hc=>⟨o.getD c 0,O.get hc,u5 O hc⟩
 ·rw[iE O hv];exact(gD O hv).1
 ·rw[iE O hv,iE O hw] at e
  rw[<-(gD O hv).2,e,(gD O hw).2]
theorem xt(v:Nat): ∀l:List Nat,v∈l-> ∃j,(l.map nI).findIdx? (λd=>di d (nI v))=some j/\j<l.length/\l.getD j 0=v
 | [],h=>absurd h List.not_mem_nil
 |y::l,h=>by
  rw[List.map_cons,List.findIdx?_cons,i0]
  by_cases e:y=v
  ·exact⟨0,by simp[e],by simp,by simpa using e⟩
  ·obtain⟨j,h1,h2,h3⟩:=xt v l ((List.mem_cons.mp h).resolve_left (Ne.symm e))
   refine⟨j+1,by simp[e,h1],by simp[h2],by simpa using h3⟩
def fy:FS:=
 ay (ba 2 (aj bR (aa (ai 0) (ah))))
 (aI (aj cj (aa (bT 1 (dR (aa (ai 2) (ah))) (gN 3) (iV) (ao aQ (ai 0) (ao bv (ao dM (ai 3) (ai 1)) (ai 2)))) (ah))))
def fC:List D->Option D:=fO .s 3 fy
def fu:FS:=
 ay (ba 2 (aj bR (aa (ai 0) (ah))))
 (aI (aj cj (aa (bT 1 (iW (ai 0)) (gN 3) (iV) (ao bv (ao bp (ai 3) (ai 1)) (ai 2))) (ah))))
def fq:List D->Option D:=fO .s 3 fu
def fF:FS:=
 aI (aj cj (aa (bT 1 (dR (aa (aj bR (aa (ai 0) (ah))) (ah))) (gN 1) (iV) (ao rK (ai 0) (ai 1))) (ah)))
def fA:List D->Option D:=fO .s 1 fF
def fB:FS:=
 aI (mG sg sg (aj i7 (aa (ai 1) (aa (ai 2) (ah)))) (ai 0) (aj fW (aa (ai 1) (aa (ai 2) (ah)))))
def fD:List D->Option D:=fO .s 3 fB
def eH:FS:=
 ay (cr (gT 2 (cQ (gN 2) (cQ (gN 3) (iQ)))) (pu (ai 0)))
 (aI (aZ (aa (aj (nF 2 fC) (aa (ai 2) (aa (ai 1) (ah)))) (aa (aj (nF 2 fC) (aa (ai 3) (aa (ai 1) (ah)))) (ah)))))
def gJ:List D->Option D:=fO .s 4 eH
def gq:FS:=
 ay (cr (gT 2 (cQ (gN 2) (cQ (gN 3) (iQ)))) (pu (ai 0)))
 (aI (aZ (aa (aj (nF 2 fq) (aa (ai 2) (aa (ai 1) (ah)))) (aa (aj (nF 2 fq) (aa (ai 3) (aa (ai 1) (ah)))) (ah)))))
def iY:List D->Option D:=fO .s 4 gq
def kl:FS:=
 ay (cr (gT 2 (cQ (gN 1) (cQ (gN 2) (iQ)))) (pu (ai 0)))
 (aI (aZ (aa (aj (nF 1 fA) (aa (ai 1) (ah))) (aa (aj (nF 1 fA) (aa (ai 2) (ah))) (ah)))))
def il:List D->Option D:=fO .s 3 kl
def gW:FS:=
 ay (cr (gT 2 (cQ (gN 2) (cQ (gN 3) (iQ)))) (pu (ai 0)))
 (ay (dC (dz (bq (mG mh mh (au (.int 0)) (ai 1) (ao dM (aj bR (aa (ai 2) (ah))) (au (.int 2)))))) (aI (au (.bl false))) (skip))
 (ay (ba 4 (aZ (aa (ao aQ (ai 2) (ai 1)) (aa (ao aQ (ai 3) (ai 1)) (ah)))))
 (ay (ba 5 (aZ (aa (ao aQ (ai 2) (ao bp (ai 1) (au (.int 1)))) (aa (ao aQ (ai 3) (ao bp (ai 1) (au (.int 1)))) (ah)))))
 (ay (dC (mT (bq (ao (sj false) (ao aQ (ai 4) (au (.int 0))) (ai 5))) (bq (ao (sj false) (ao aQ (ai 4) (au (.int 1))) (ai 5)))) (aI (au (.bl false))) (skip))
 (ay (ba 6 (bT 1 (iW (ai 5)) (gN 7) (fx (aj (nF 3 fD) (aa (ai 7) (aa (ao aQ (ai 4) (au (.int 0))) (aa (ao aQ (ai 4) (au (.int 1))) (ah)))))) (ai 7)))
 (aI (ao kZ (aj bR (aa (ai 6) (ah))) (au (.int 1)))))))))
def gP:List D->Option D:=fO .s 7 gW
def cb:FX:=
 cM (mE (dz (fx (aj (nF 2 gP) (aa (ai 0) (aa (ai 1) (ah)))))) (mK ⟨"NoMove",0⟩ (aa (au (.str "these columns may not be exchanged")) (ah))) (ic skip))
 (ic (ay (cr (gT 2 (cQ (gN 2) (cQ (gN 3) (iQ)))) (pu (ai 0)))
 (aI (aZ (aa (aj (nF 3 dP) (aa (ai 2) (aa (ai 1) (aa (ao bp (ai 1) (au (.int 1))) (ah))))) (aa (aj (nF 3 dP) (aa (ai 3) (aa (ai 1) (aa (ao bp (ai 1) (au (.int 1))) (ah))))) (ah)))))))
def bA:List D->Option (Except Ex D):=oW .s 4 cb
def iT:FX:=
 gQ (nX 1 il (kX (cB 2 bA (fE (aa (aj (nF 1 il) (aa (ai 0) (ah))) (aa (ai 1) (ah))))) (fE (ah))))
def dG:List D->Option (Except Ex D):=oW .s 2 iT
def nh:FS:=
 aI (mG mh sg (au (.int 0)) (ai 0) (au (.int 4)))
def kw:List D->Option D:=fO .s 1 nh
def eM:FS:=
 ay (uZ 3 4 (aa (ao bv (ai 2) (au (.int 2))) (aa (ao iS (ai 2) (au (.int 2))) (ah))))
 (aI (aZ (aa (ao bp (ai 0) (ai 3)) (aa (ao bp (ai 1) (ai 4)) (aa (ao dM (ao bp (ai 0) (au (.int 1))) (ai 3)) (aa (ao dM (ao bp (ai 1) (au (.int 1))) (ai 4)) (ah)))))))
def cy:List D->Option D:=fO .s 5 eM
def gM:FS:=
 ay (dC (bq (ao iU (ai 0) (ai 1))) (aI (ai 2)) (skip))
 (aI (sZ (bq (ao wE (ai 0) (ai 1))) (ao bp (ai 0) (au (.int 1))) (ai 0)))
def eY:List D->Option D:=fO .s 3 gM
def cs:FX:=
 cM (ic (cr (gT 2 (cQ (gN 3) (cQ (gN 4) (iQ)))) (pu (ai 0))))
 (cM (mE (mT (dz (bq (mG mh sg (au (.int 0)) (ai 1) (aj bR (aa (ai 3) (ah)))))) (dz (fx (aj (nF 1 kw) (aa (ai 2) (ah)))))) (mK ⟨"NoMove",0⟩ (aa (au (.str "there is no such column or way")) (ah))) (ic skip))
 (cM (mE (bq (ao yQ (aj bR (aa (ai 3) (ah))) (au (.int 6)))) (mK ⟨"TooMany",0⟩ (aa (au (.str "the square has no room for a corner")) (ah))) (ic skip))
 (ic (ay (ba 5 (ao aQ (ai 4) (ai 1)))
 (ay (cr (gT 4 (cQ (gN 6) (cQ (gN 7) (cQ (gN 8) (cQ (gN 9) (iQ)))))) (pu (aj (nF 3 cy) (aa (ai 1) (aa (ai 5) (aa (ai 2) (ah)))))))
 (ay (eS 10 (bT 1 (iW (ai 3)) (gN 12) (iV) (aj (nF 3 eY) (aa (ai 12) (aa (ai 5) (aa (ai 7) (ah)))))))
 (ay (eS 11 (bT 1 (iW (ai 4)) (gN 12) (iV) (aj (nF 3 eY) (aa (ai 12) (aa (ai 5) (aa (ai 9) (ah)))))))
 (ay (eL (aN 10 2 pZ (cL (aa (ai 8) (aa (ai 9) (ah))))))
 (ay (eL (aN 11 2 pZ (cL (aa (ai 8) (aa (ai 7) (ah))))))
 (aI (aZ (aa (aj cj (aa (cV 10) (ah))) (aa (aj cj (aa (cV 11) (ah))) (ah))))))))))))))
def eX:List D->Option (Except Ex D):=oW .s 12 cs
def kx:FS:=
 ay (cr (gT 2 (cQ (gN 4) (cQ (gN 5) (iQ)))) (pu (ai 0)))
 (ay (cr (gT 4 (cQ (gN 6) (cQ (gN 7) (cQ (gN 8) (cQ (gN 9) (iQ)))))) (pu (aj (nF 3 cy) (aa (ai 1) (aa (ai 2) (aa (ai 3) (ah)))))))
 (ay (dC (bq (ao kZ (aZ (aa (ao aQ (ai 4) (ai 8)) (aa (ao aQ (ai 5) (ai 8)) (ah)))) (aZ (aa (ai 9) (aa (ai 7) (ah)))))) (aI (au (.bl false))) (skip))
 (aI (uT (j5 (bq (ao iU (ao aQ (ai 5) (ai 6)) (ai 9))) (bq (ao kZ (ao aQ (ai 4) (ai 6)) (ai 7))))))))
def ik:List D->Option D:=fO .s 10 kx
def jG:FS:=
 ay (ba 3 (ao dM (aj bR (aa (ao aQ (ai 0) (au (.int 0))) (ah))) (au (.int 2))))
 (ay (dC (mT (dz (bq (mG mh mh (au (.int 0)) (ai 1) (ai 3)))) (dz (bq (mG mh mh (au (.int 0)) (ai 2) (ai 3))))) (aI (au .non)) (skip))
 (ay (iK (cL (dR (aa (au (.int 4)) (ah)))) (gN 4) (dC (fx (aj (nF 4 ik) (aa (ai 0) (aa (ai 1) (aa (ai 2) (aa (ai 4) (ah))))))) (aI (ai 4)) (skip)))
 (aI (au .non))))
def gm:List D->Option D:=fO .s 5 jG
def fV:FS:=
 aI (aj cj (aa (bT 2 (vK (ai 0)) (gT 2 (cQ (gN 3) (cQ (gN 4) (iQ)))) (bq (ao kZ (ai 3) (ai 2))) (sZ (bq (ao wE (ai 4) (ai 1))) (ao dM (ai 4) (au (.int 1))) (ai 4))) (ah)))
def fZ:List D->Option D:=fO .s 3 fV
def cN:FX:=
 cM (ic (ba 3 (aj (nF 3 gm) (aa (ai 0) (aa (ai 1) (aa (ai 2) (ah)))))))
 (cM (mE (bq (ao (zh false) (ai 3) (au .non))) (mK ⟨"NoMove",0⟩ (aa (au (.str "there is no corner to be taken out")) (ah))) (ic skip))
 (ic (ay (cr (gT 2 (cQ (gN 4) (cQ (gN 5) (iQ)))) (pu (ai 0)))
 (ay (ba 6 (ao aQ (aj (nF 3 cy) (aa (ai 1) (aa (ai 2) (aa (ai 3) (ah))))) (au (.int 2))))
 (aI (aZ (aa (aj (nF 3 fZ) (aa (ai 4) (aa (ai 2) (aa (ai 6) (ah))))) (aa (aj (nF 3 fZ) (aa (ai 5) (aa (ai 2) (aa (ai 6) (ah))))) (ah)))))))))
def ft:List D->Option (Except Ex D):=oW .s 7 cN
def bf:FX:=
 cM (ic (ba 2 (ao aQ (ai 1) (au (.int 0)))))
 (cM (ic (dC (bq (ao iU (ai 2) (au (.str "columns")))) (aI (aj (nF 2 gJ) (aa (ai 0) (aa (ao aQ (ai 1) (au (.int 1))) (ah))))) (skip)))
 (cM (ic (dC (bq (ao iU (ai 2) (au (.str "rows")))) (aI (aj (nF 2 iY) (aa (ai 0) (aa (ao aQ (ai 1) (au (.int 1))) (ah))))) (skip)))
 (cM (ic (dC (bq (ao iU (ai 2) (au (.str "tip")))) (aI (aj (nF 1 il) (aa (ai 0) (ah)))) (skip)))
 (cM (mE (bq (ao iU (ai 2) (au (.str "swap")))) (gQ (cB 2 bA (fE (aa (ai 0) (aa (ao aQ (ai 1) (au (.int 1))) (ah)))))) (ic skip))
 (cM (mE (bq (ao iU (ai 2) (au (.str "cross")))) (gQ (cB 2 dG (fE (aa (ai 0) (aa (ao aQ (ai 1) (au (.int 1))) (ah)))))) (ic skip))
 (cM (mE (bq (ao iU (ai 2) (au (.str "put")))) (gQ (cB 3 eX (fE (aa (ai 0) (aa (ao aQ (ai 1) (au (.int 1))) (aa (ao aQ (ai 1) (au (.int 2))) (ah))))))) (ic skip))
 (gQ (cB 3 ft (fE (aa (ai 0) (aa (ao aQ (ai 1) (au (.int 1))) (aa (ao aQ (ai 1) (au (.int 2))) (ah)))))))))))))
def pV:List D->Option (Except Ex D):=oW .s 3 bf
theorem aO {t u:FX}{ρ ρ':aL}(h:t ρ=.ok (.nx ρ')):cM t u ρ=u ρ':=by unfold cM;rw[h]
theorem dD {t u:FX}{ρ ρ':aL}{d:D}(h:t ρ=.ok (.rt d ρ')):cM t u ρ=.ok (.rt d ρ'):=by unfold cM;rw[h]
theorem dk {t u:FX}{ρ:aL}{z:Ex×aL}(h:t ρ=.error z):cM t u ρ=.error z:=by unfold cM;rw[h]
theorem bN {t:FS}{ρ:aL}{o:Out}(h:t ρ=o):ic t ρ=.ok o:=by unfold ic;rw[h]
theorem jx {p:FT}{t u:FX}{ρ:aL}(h:p ρ=some true):mE p t u ρ=t ρ:=by unfold mE;rw[h]
theorem z6 {p:FT}{t u:FX}{ρ:aL}(h:p ρ=some false):mE p t u ρ=u ρ:=by unfold mE;rw[h]
theorem gz {p:FT}{t:FX}{ρ:aL}(h:p ρ=some false):mE p t (ic skip) ρ=.ok (.nx ρ):=(z6 h).trans rfl
theorem en {f:RE}{ρ:aL}{d:D}(h:f ρ=some (.ok d)):gQ f ρ=.ok (.rt d ρ):=by unfold gQ;rw[h]
theorem eB {f:RE}{ρ:aL}{z:Ex}(h:f ρ=some (.error z)):gQ f ρ=.error (z,ρ):=by unfold gQ;rw[h]
theorem gO {kd:Kd}{n:Nat}{t:FX}{ds:List D}{ρ:aL}{d:D}(h:t (dX n ds)=.ok (.rt d ρ)):oW kd n t ds=some (.ok d):=by unfold oW;rw[h]
theorem kj {kd:Kd}{n:Nat}{t:FX}{ds:List D}{z:Ex×aL}(h:t (dX n ds)=.error z):oW kd n t ds=some (.error z.1):=by unfold oW;rw[h]
theorem qa {kd:Kd}{n:Nat}{t:FX}{ds:List D}{z:Ex}(h: ∃ρ,t (dX n ds)=.error (z,ρ)):oW kd n t ds=some (.error z):=by obtain⟨ρ,h⟩:=h;exact kj h
theorem fj {n:Nat}{P:List D->Option (Except Ex D)}{fs:RA}{ρ:aL}{ds:List D}(h:fs ρ=some (.ok ds))(hl:ds.length=n):cB n P fs ρ=P ds:=by unfold cB;rw[h];exact if_pos hl
theorem uf {n:Nat}{P:List D->Option (Except Ex D)}{fs:RA}{ρ:aL}{z:Ex}(h:fs ρ=some (.error z)):cB n P fs ρ=some (.error z):=by unfold cB;rw[h];rfl
theorem gE {f:FA}{ρ:aL}{ds:List D}(h:f ρ=some ds):fE f ρ=some (.ok ds):=by unfold fE;rw[h];rfl
theorem tj {f:RE}{fs:RA}{ρ:aL}{d:D}{ds:List D}(h:f ρ=some (.ok d))(h2:fs ρ=some (.ok ds)):kX f fs ρ=some (.ok (d::ds)):=by unfold kX;rw[h];dsimp only[Option.bind];rw[h2];rfl
theorem tL {f:RE}{fs:RA}{ρ:aL}{z:Ex}(h:f ρ=some (.error z)):kX f fs ρ=some (.error z):=by unfold kX;rw[h];rfl
theorem xn {kd:Kd}{n:Nat}{t:FX}{ds:List D}{ρ:aL}{f:RE}{r:Except Ex D}(h:t (dX n ds)=gQ f ρ)(h2:f ρ=some r):oW kd n t ds=some r:=by
 cases r with
 |ok d=>exact gO (h.trans (en h2))
 |error z=>exact kj (h.trans (eB h2))
theorem bw {p:FT}{t:FS}{ρ:aL}(h:p ρ=some false):dC p t skip ρ=.nx ρ:=(zv h).trans rfl
theorem kH {F G:D->D->Option D}{f g h:FE}{ρ:aL}{x y z:D}{p q:Bool}(h1:f ρ=some x)(h2:g ρ=some y)(h3:F x y=some (.bl p))(h4:h ρ=some z)(h5:G y z=some (.bl q)):mG F G f g h ρ=some (.bl (p&&q)):=by
 unfold mG;rw[h1,Option.bind_some,h2,Option.bind_some,h3];show(if p=true then _ else _)=_
 cases p with
 |true=>rw[if_pos rfl,h4];exact h5
 |false=>rfl
theorem oP {p q:FT}{ρ:aL}{a b:Bool}(h1:p ρ=some a)(h2:q ρ=some b):mT p q ρ=some (a||b):=by
 cases a with
 |true=>exact Ac h1
 |false=>exact yi h1 h2
theorem xz {p:FT}{f g:FE}{ρ:aL}(h:p ρ=some true):sZ p f g ρ=f ρ:=by unfold sZ;rw[h];rfl
theorem xv {p:FT}{f g:FE}{ρ:aL}(h:p ρ=some false):sZ p f g ρ=g ρ:=by unfold sZ;rw[h];rfl
theorem uA {f:FE}{ρ:aL}{ds:List D}(h:f ρ=some (.tup ds)):iW f ρ=some ds:=by unfold iW;rw[h];rfl
theorem Ord.exM {n:Nat}{o:List Nat}(O:Ord n o){a b:Nat}(ha:a<n)(hb:b<n):Ord n (ki o a b):=⟨(swap_perm o a b (by rw[O.len];exact ha) (by rw[O.len];exact hb)).trans O.perm⟩
theorem Ord.rot {n:Nat}{o:List Nat}(O:Ord n o)(h:0<n)(k:Int):Ord n (gv o k):=O.mv (t9 h k) (xC n) (by rw[gd,O.len]) λc hc=>uC O.len h k hc
theorem Ord.rai {n:Nat}{o:List Nat}(O:Ord n o)(h:0<n)(k:Int):Ord n (gl o k):=O.mv (xC n) (t9 h k) (by rw[ia,O.len]) λc hc=>ma O.len k hc
theorem zN(v a b:Nat):sj false (nI v) (.tup [nI a,nI b])=some (.bl (decide (v=a)||decide (v=b))):=by
 unfold sj tB;dsimp only;rw[show dh [nI a,nI b]=0 from jE [a,b],if_pos (by omega)]
 show some (D.bl _)=_;congr 2
 rw[List.any_cons,List.any_cons,List.any_nil,i0,i0,Bool.or_false,Bool.eq_iff_iff];simp only[Bool.or_eq_true,decide_eq_true_eq,Bool.false_eq_true,if_false];omega
theorem pB(xs:List Nat)(k:Int)(h1:0<xs.length)(h2:xs.length<=100):fC [aH xs,.int k]=some (aH (gv xs k)):=by
 apply cI (kd:=.s) (n:=3) (t:=fy)
 unfold fy;refine(aA (ρ':=[.v (aH xs),.v (.int k),.v (nI xs.length)]) ((cg (fe xs _ _ rfl)).trans rfl)).trans ?_
 refine aV ((bL (ds:=[.lst ((gv xs k).map nI)]) (am ?_ rfl)).trans rfl)
 refine fY (ds:=(List.range xs.length).map nI) (im rfl (by omega)) (by simp;omega) ?_
 refine(fQ (h:=nI) (o:=λ(i:Nat)=>nI (xs.getD (((i:Int) -k) % xs.length).toNat 0)) (List.range xs.length) λi hi=>⟨_,rfl,?_⟩).trans (by unfold gv;rw[List.map_map];rfl)
 have hm:=cG (i:=(i:Int) -k) (m:=xs.length) (by omega)
 refine(az (x:=aH xs) rfl ((az ((az (x:=nI i) (y:=.int k) rfl rfl).trans (fm _ _)) (y:=nI xs.length) rfl).trans (cY (by omega)))).trans ?_
 rw[AZ hm.1];exact fG (by omega)
theorem oZ(xs:List Nat)(k:Int)(h1:0<xs.length)(h2:xs.length<=100):fq [aH xs,.int k]=some (aH (gl xs k)):=by
 apply cI (kd:=.s) (n:=3) (t:=fu)
 unfold fu;refine(aA (ρ':=[.v (aH xs),.v (.int k),.v (nI xs.length)]) ((cg (fe xs _ _ rfl)).trans rfl)).trans ?_
 refine aV ((bL (ds:=[.lst ((gl xs k).map nI)]) (am ?_ rfl)).trans rfl)
 refine fY (ds:=xs.map nI) rfl (by simp;omega) ?_
 refine(fQ (h:=nI) (o:=λ(v:Nat)=>nI (((v:Int)+k) % xs.length).toNat) xs λi hi=>⟨_,rfl,?_⟩).trans (by unfold gl;rw[List.map_map];rfl)
 have hm:=cG (i:=(i:Int)+k) (m:=xs.length) (by omega)
 refine(az ((az (x:=nI i) (y:=.int k) rfl rfl).trans (fk _ _)) (y:=nI xs.length) rfl).trans ((cY (by omega)).trans ?_)
 rw[AZ hm.1]
theorem rm {n:Nat}{o:List Nat}(O:Ord n o)(hn:n<=100):fA [aH o]=some (aH (cz o)):=by
 apply cI (kd:=.s) (n:=1) (t:=fF)
 unfold fF;refine aV ((bL (ds:=[.lst ((cz o).map nI)]) (am (fY (ds:=(List.range n).map nI) (im (n:=n) (am (O.len▸fe o _ _ rfl) rfl) (by omega)) (by simp;omega) ?_) rfl)).trans rfl)
 unfold cz;rw[List.map_map,O.len];refine fQ (h:=nI) (o:=λv=>nI (o.idxOf v)) _ λv hv=>⟨_,rfl,?_⟩
 rw[List.mem_range] at hv;refine(az (x:=aH o) (y:=nI v) rfl rfl).trans ?_
 obtain⟨j,h1,h2,h3⟩:=xt v o (O.has hv)
 show(if dh (o.map nI)<=32 then(sG (o.map nI) (nI v)).map (λj=>D.int j) else none)=_
 rw[if_pos (by rw[jE];omega)]
 unfold sG;rw[h1];have:j=o.idxOf v:=by
  have:=qm O (c:=j) (by rw[<-O.len];exact h2)
  rw[h3] at this;exact this.symm
 rw[<-this];rfl
structure Gd(n:Nat)(r x:List Nat):Prop where
 R:Ord n r
 X:Ord n x
 lo:2<=n
 hi:n<=6
section
variable {n:Nat}{r x:List Nat}(G:Gd n r x)
include G
theorem uO(k:Int):gJ [aC r x,.int k]=some (aC (gv r k) (gv x k)):=by
 have h1:=G.R.len;have h2:=G.X.len;have h3:=G.lo;have h4:=G.hi
 apply cI (kd:=.s) (n:=4) (t:=eH)
 unfold eH;refine(aA (ρ':=[.v (aC r x),.v (.int k),.v (aH r),.v (aH x)]) (gh (gK rfl) rfl)).trans (aV (bO (am ((ci (ds:=[aH r,.int k]) rfl rfl).trans (pB r k (by omega) (by omega))) (am ((ci (ds:=[aH x,.int k]) rfl rfl).trans (pB x k (by omega) (by omega))) rfl)) (by simp)))
theorem sX(k:Int):iY [aC r x,.int k]=some (aC (gl r k) (gl x k)):=by
 have h1:=G.R.len;have h2:=G.X.len;have h3:=G.lo;have h4:=G.hi
 apply cI (kd:=.s) (n:=4) (t:=gq)
 unfold gq;refine(aA (ρ':=[.v (aC r x),.v (.int k),.v (aH r),.v (aH x)]) (gh (gK rfl) rfl)).trans (aV (bO (am ((ci (ds:=[aH r,.int k]) rfl rfl).trans (oZ r k (by omega) (by omega))) (am ((ci (ds:=[aH x,.int k]) rfl rfl).trans (oZ x k (by omega) (by omega))) rfl)) (by simp)))
theorem my:il [aC r x]=some (aC (cz r) (cz x)):=by
 have h4:=G.hi
 apply cI (kd:=.s) (n:=3) (t:=kl)
 unfold kl;exact(aA (ρ':=[.v (aC r x),.v (aH r),.v (aH x)]) (gh (gK rfl) rfl)).trans (aV (bO (am ((ci (ds:=[aH r]) rfl rfl).trans (rm G.R (by omega))) (am ((ci (ds:=[aH x]) rfl rfl).trans (rm G.X (by omega))) rfl)) (by simp)))
theorem Gd.rot(k:Int):Gd n (gv r k) (gv x k):=⟨G.R.rot (by have:=G.lo;omega) k,G.X.rot (by have:=G.lo;omega) k,G.lo,G.hi⟩
theorem Gd.rai(k:Int):Gd n (gl r k) (gl x k):=⟨G.R.rai (by have:=G.lo;omega) k,G.X.rai (by have:=G.lo;omega) k,G.lo,G.hi⟩
theorem Gd.tip:Gd n (cz r) (cz x):=⟨G.R.tip,G.X.tip,G.lo,G.hi⟩
end
def vI(v a b:Nat):Bool:=decide (min a b<v)&&decide (v<max a b)
theorem wl(v a b:Nat):fD [nI v,nI a,nI b]=some (.bl (vI v a b)):=by
 apply cI (kd:=.s) (n:=3) (t:=fB)
 unfold fB;refine aV (kH (x:=nI (min a b)) (y:=nI v) (z:=nI (max a b)) ?_ rfl ?_ ?_ ?_)
 ·refine(bL (ds:=[nI a,nI b]) rfl).trans ?_
  show some (D.int _)=some (D.int _);congr 2
  split<;>omega
 ·show some (D.bl (decide (((min a b:Nat):Int)<v)))=_
  congr 2
  rw[Bool.eq_iff_iff,decide_eq_true_eq,decide_eq_true_eq];omega
 ·refine(bL (ds:=[nI a,nI b]) rfl).trans ?_
  show some (D.int _)=some (D.int _);congr 2
  split<;>omega
 ·show some (D.bl (decide ((v:Int)<((max a b:Nat):Int))))=_
  congr 2
  rw[Bool.eq_iff_iff,decide_eq_true_eq,decide_eq_true_eq];omega
def qK(r x:List Nat)(c:Nat):Bool:= !((decide (r.getD c 0=r.getD (c+1) 0)||decide (r.getD c 0=x.getD (c+1) 0))||(decide (x.getD c 0=r.getD (c+1) 0)||decide (x.getD c 0=x.getD (c+1) 0)))&&(vI (r.getD (c+1) 0) (r.getD c 0) (x.getD c 0)==vI (x.getD (c+1) 0) (r.getD c 0) (x.getD c 0))
def iC(r x:List Nat)(c:Int):Bool:=(decide (0<=c)&&decide (c<=(r.length:Int) -2))&&qK r x c.toNat
section
variable {n:Nat}{r x:List Nat}(G:Gd n r x)
include G
theorem vE(c:Int):gP [aC r x,.int c]=some (.bl (iC r x c)):=by
 have h1:=G.R.len;have h2:=G.X.len;have h3:=G.lo;have h4:=G.hi
 apply jM (kd:=.s) (n:=7) (t:=gW)
 unfold gW iC;have s1:cr (gT 2 (cQ (gN 2) (cQ (gN 3) (iQ)))) (pu (ai 0)) (dX 7 [aC r x,.int c])=.nx [.v (aC r x),.v (.int c),.v (aH r),.v (aH x),.no,.no,.no]:=gh (gK rfl) rfl
 rw[aA s1];have p1:dz (bq (mG mh mh (au (.int 0)) (ai 1) (ao dM (aj bR (aa (ai 2) (ah))) (au (.int 2))))) [.v (aC r x),.v (.int c),.v (aH r),.v (aH x),.no,.no,.no]=some (!(decide (0<=c)&&decide (c<=(r.length:Int) -2))):=
  kG (cA (kH (x:=.int 0) (y:=.int c) (z:=.int ((r.length:Int) -2)) rfl rfl rfl ((az (fe r _ _ rfl) (y:=.int 2) rfl).trans (fm _ _)) rfl))
 by_cases hc:0<=c/\c<=(r.length:Int) -2
 ·have e:(decide (0<=c)&&decide (c<=(r.length:Int) -2))=true:=by rw[Bool.and_eq_true,decide_eq_true_eq,decide_eq_true_eq];exact hc
  rw[e] at p1⊢;rw[Bool.true_and];rw[aA (bw p1)];obtain⟨c,rfl⟩: ∃m:Nat,c=m:=⟨c.toNat,by omega⟩
  rw[Int.toNat_natCast];have i1:r.getD c 0<n:=G.R.get (by omega)
  have ad: ∀ρ:aL,ai 1 ρ=some (nI c)->ao bp (ai 1) (au (.int 1)) ρ=some (nI (c+1)):=λρ h=>(az h (y:=.int 1) rfl).trans (sf c)
  rw[aA (ρ':=[.v (aC r x),.v (.int c),.v (aH r),.v (aH x),.v (.tup [nI (r.getD c 0),nI (x.getD c 0)]),.no,.no]) ((cg (bO (am ((az (x:=aH r) (y:=nI c) rfl rfl).trans (fG (by omega))) (am ((az (x:=aH x) (y:=nI c) rfl rfl).trans (fG (by omega))) rfl)) (by simp))).trans rfl)]
  rw[aA (ρ':=[.v (aC r x),.v (.int c),.v (aH r),.v (aH x),.v (.tup [nI (r.getD c 0),nI (x.getD c 0)]),.v (.tup [nI (r.getD (c+1) 0),nI (x.getD (c+1) 0)]),.no]) ((cg (bO (am ((az (x:=aH r) rfl (ad _ rfl)).trans (fG (by omega))) (am ((az (x:=aH x) rfl (ad _ rfl)).trans (fG (by omega))) rfl)) (by simp))).trans rfl)]
  have p2:mT (bq (ao (sj false) (ao aQ (ai 4) (au (.int 0))) (ai 5))) (bq (ao (sj false) (ao aQ (ai 4) (au (.int 1))) (ai 5))) [.v (aC r x),.v (.int c),.v (aH r),.v (aH x),.v (.tup [nI (r.getD c 0),nI (x.getD c 0)]),.v (.tup [nI (r.getD (c+1) 0),nI (x.getD (c+1) 0)]),.no]=some ((decide (r.getD c 0=r.getD (c+1) 0)||decide (r.getD c 0=x.getD (c+1) 0))||(decide (x.getD c 0=r.getD (c+1) 0)||decide (x.getD c 0=x.getD (c+1) 0))):=
   oP (cA ((az (x:=nI (r.getD c 0)) (y:=.tup [nI (r.getD (c+1) 0),nI (x.getD (c+1) 0)]) rfl rfl).trans (zN _ _ _))) (cA ((az (x:=nI (x.getD c 0)) (y:=.tup [nI (r.getD (c+1) 0),nI (x.getD (c+1) 0)]) rfl rfl).trans (zN _ _ _)))
  unfold qK;revert p2
  generalize ((decide (r.getD c 0=r.getD (c+1) 0)||decide (r.getD c 0=x.getD (c+1) 0))||(decide (x.getD c 0=r.getD (c+1) 0)||decide (x.getD c 0=x.getD (c+1) 0)))=pb
  intro p2;cases pb with
  |true=>
   exact⟨_,iD ((ie p2).trans rfl)⟩
  |false=>
   rw[aA (bw p2)]
   generalize hA:r.getD (c+1) 0=A
   generalize hB:x.getD (c+1) 0=B
   generalize hU:r.getD c 0=U
   generalize hV:x.getD c 0=V
   have cp:bT 1 (iW (ai 5)) (gN 7) (fx (aj (nF 3 fD) (aa (ai 7) (aa (ao aQ (ai 4) (au (.int 0))) (aa (ao aQ (ai 4) (au (.int 1))) (ah)))))) (ai 7) [.v (aC r x),.v (.int c),.v (aH r),.v (aH x),.v (.tup [nI U,nI V]),.v (.tup [nI A,nI B]),.no]=some (.lst ((([A,B]:List Nat).filter λv=>vI v U V).map nI)):=
    fY (ds:=([A,B]:List Nat).map nI) (uA rfl) (by simp) (kC (h:=nI) (o:=nI) (q:=λv=>vI v U V) ([A,B]:List Nat) λv _=>⟨_,rfl,lO ((ci (ds:=[nI v,nI U,nI V]) rfl rfl).trans (wl v U V)),λ_=>rfl⟩)
   refine⟨_,(aA ((cg cp).trans rfl)).trans (aV ?_)⟩
   refine(az (tG _ _ _ rfl) (y:=.int 1) rfl).trans ?_
   rw[kn (by rw[fM];omega),jh]
   congr 2
   cases e1:vI A U V<;>cases e2:vI B U V<;>simp[List.filter,e1,e2]
 ·have e:(decide (0<=c)&&decide (c<=(r.length:Int) -2))=false:=by rw[Bool.eq_false_iff,Ne,Bool.and_eq_true,decide_eq_true_eq,decide_eq_true_eq];exact hc
  rw[e] at p1⊢;exact⟨_,iD ((ie p1).trans rfl)⟩
abbrev vm:Ex:=⟨"NoMove",0⟩
abbrev wP:Ex:=⟨"TooMany",0⟩
theorem qS(c:Int):bA [aC r x,.int c]=some (if iC r x c=true then .ok (aC (ki r c.toNat (c.toNat+1)) (ki x c.toNat (c.toNat+1))) else .error vm):=by
 have h1:=G.R.len;have h2:=G.X.len;have h3:=G.lo;have h4:=G.hi
 have p1:dz (fx (aj (nF 2 gP) (aa (ai 0) (aa (ai 1) (ah))))) (dX 4 [aC r x,.int c])=some (!iC r x c):=kG (lO ((ci (ds:=[aC r x,.int c]) rfl rfl).trans (vE G c)))
 by_cases hm:iC r x c=true
 ·rw[if_pos hm]
  rw[hm] at p1;apply gO (kd:=.s) (n:=4) (t:=cb) (ρ:=[.v (aC r x),.v (.int c),.v (aH r),.v (aH x)])
  unfold cb;rw[aO (gz p1)];have hc:0<=c/\c<=(r.length:Int) -2:=by
   unfold iC at hm;rw[Bool.and_eq_true,Bool.and_eq_true,decide_eq_true_eq,decide_eq_true_eq] at hm;exact hm.1
  obtain⟨c,rfl⟩: ∃m:Nat,c=m:=⟨c.toNat,by omega⟩
  rw[Int.toNat_natCast];have ad: ∀ρ:aL,ai 1 ρ=some (nI c)->ao bp (ai 1) (au (.int 1)) ρ=some (nI (c+1)):=λρ h=>(az h (y:=.int 1) rfl).trans (sf c)
  refine bN ((aA (ρ':=[.v (aC r x),.v (.int c),.v (aH r),.v (aH x)]) (gh (gK rfl) rfl)).trans (aV (bO (am ((ci (ds:=[aH r,nI c,nI (c+1)]) (am rfl (am rfl (am (ad _ rfl) rfl))) rfl).trans (qX h1 (by omega) (by omega))) (am ((ci (ds:=[aH x,nI c,nI (c+1)]) (am rfl (am rfl (am (ad _ rfl) rfl))) rfl).trans (qX h2 (by omega) (by omega))) rfl)) (by simp))))
 ·rw[if_neg hm]
  rw[Bool.not_eq_true] at hm;rw[hm] at p1;refine kj (kd:=.s) (n:=4) (t:=cb) (z:=(vm,dX 4 [aC r x,.int c])) ?_
  unfold cb;exact dk ((jx p1).trans rfl)
theorem Gd.chg {c:Int}(h:iC r x c=true):Gd n (ki r c.toNat (c.toNat+1)) (ki x c.toNat (c.toNat+1)):=by
 have h1:=G.R.len
 have hc:0<=c/\c<=(r.length:Int) -2:=by
  unfold iC at h;rw[Bool.and_eq_true,Bool.and_eq_true,decide_eq_true_eq,decide_eq_true_eq] at h;exact h.1
 exact⟨G.R.exM (by omega) (by omega),G.X.exM (by omega) (by omega),G.lo,G.hi⟩
theorem u7(c:Int):dG [aC r x,.int c]=some (if iC (cz r) (cz x) c=true then .ok (aC (cz (ki (cz r) c.toNat (c.toNat+1))) (cz (ki (cz x) c.toNat (c.toNat+1)))) else .error vm):=by
 refine xn (kd:=.s) (n:=2) (t:=iT) rfl ?_
 have e1:cB 2 bA (fE (aa (aj (nF 1 il) (aa (ai 0) (ah))) (aa (ai 1) (ah)))) (dX 2 [aC r x,.int c])=_:=(fj (ds:=[aC (cz r) (cz x),.int c]) (gE (am ((ci (ds:=[aC r x]) rfl rfl).trans (my G)) rfl)) rfl).trans (qS G.tip c)
 by_cases hm:iC (cz r) (cz x) c=true
 ·rw[if_pos hm] at e1⊢
  refine(fj (tj e1 (gE (f:=ah) (ds:=[]) rfl)) rfl).trans ?_
  rw[my (G.tip.chg hm)];rfl
 ·rw[if_neg hm] at e1⊢
  exact uf (tL e1)
end
theorem yW(w:Int):kw [.int w]=some (.bl (decide (0<=w)&&decide (w<4))):=by
 apply cI (kd:=.s) (n:=1) (t:=nh)
 exact aV (kH (x:=.int 0) (y:=.int w) (z:=.int 4) rfl rfl rfl rfl rfl)
def gZ(c w:Nat):Nat:=c+w % 2
def dB(r w:Nat):Nat:=r+w / 2
def cv(c w:Nat):Nat:=c+1-w % 2
def du(r w:Nat):Nat:=r+1-w / 2
theorem qz(c r:Nat){w:Nat}(hw:w<4):cy [nI c,nI r,nI w]=some (.tup [nI (gZ c w),nI (dB r w),nI (cv c w),nI (du r w)]):=by
 apply cI (kd:=.s) (n:=5) (t:=eM)
 unfold eM;have hd:iS (nI w) (.int 2)=some (nI (w / 2)):=by
  rw[kJ (by decide) (by decide)];rfl
 have hm:bv (nI w) (.int 2)=some (nI (w % 2)):=u8 (n:=2) (by decide)
 have sb: ∀(f:FE) (ρ:aL) (a b:Nat),f ρ=some (nI b)->b<=a-> ∀g:FE,g ρ=some (nI a)->ao dM g f ρ=some (nI (a-b)):=λf ρ a b hf hb g hg=>(az hg hf).trans (by rw[Bb];show some (D.int _)=some (D.int _);congr 2;omega)
 have m2:w % 2<2:=Nat.mod_lt _ (by decide)
 have d2:w / 2<2:=by omega
 refine(aA (ρ':=[.v (nI c),.v (nI r),.v (nI w),.v (nI (w % 2)),.v (nI (w / 2))]) ?_).trans (aV (bO (am ((az (x:=nI c) (y:=nI (w % 2)) rfl rfl).trans (yF _ _)) (am ((az (x:=nI r) (y:=nI (w / 2)) rfl rfl).trans (yF _ _)) (am (sb _ _ (c+1) (w % 2) rfl (by omega) _ ((az (x:=nI c) (y:=.int 1) rfl rfl).trans (sf c))) (am (sb _ _ (r+1) (w / 2) rfl (by omega) _ ((az (x:=nI r) (y:=.int 1) rfl rfl).trans (sf r))) rfl)))) (by simp)))
 unfold uZ;rw[am ((az (x:=nI w) (y:=.int 2) rfl rfl).trans hm) (am ((az (x:=nI w) (y:=.int 2) rfl rfl).trans hd) (rfl:ah _=some []))];rfl
def lh(row to m:Nat):Nat:=if m=row then to else if row<m then m+1 else m
theorem wz(m row to:Nat):eY [nI m,nI row,nI to]=some (nI (lh row to m)):=by
 apply jM (kd:=.s) (n:=3) (t:=gM)
 unfold gM lh;have p1:bq (ao iU (ai 0) (ai 1)) (dX 3 [nI m,nI row,nI to])=some (decide (m=row)):=cA ((az (x:=nI m) (y:=nI row) rfl rfl).trans (by rw[ja (by rw[fM];omega),i0]))
 have p2:bq (ao wE (ai 0) (ai 1)) (dX 3 [nI m,nI row,nI to])=some (decide (row<m)):=cA ((az (x:=nI m) (y:=nI row) rfl rfl).trans (by show some (D.bl (decide ((row:Int)<m)))=_;congr 2;rw[Bool.eq_iff_iff,decide_eq_true_eq,decide_eq_true_eq];omega))
 by_cases h1:m=row
 ·rw[if_pos h1]
  rw[decide_eq_true h1] at p1;exact⟨_,iD ((ie p1).trans (aV rfl))⟩
 ·rw[if_neg h1]
  rw[decide_eq_false h1] at p1;refine⟨_,(aA (bw p1)).trans (aV ?_)⟩
  by_cases h2:row<m
  ·rw[if_pos h2]
   rw[decide_eq_true h2] at p2;exact(xz p2).trans ((az (x:=nI m) (y:=.int 1) rfl rfl).trans (sf m))
  ·rw[if_neg h2]
   rw[decide_eq_false h2] at p2;exact(xv p2).trans rfl
def oI(l:List Nat)(i v:Nat):List Nat:=l.take i++v::l.drop i
theorem uE(l:List Nat)(i v:Nat):(oI l i v).map nI=(l.map nI).take i++nI v::(l.map nI).drop i:=by unfold oI;rw[List.map_append,List.map_cons,List.map_take,List.map_drop]
theorem vh(l:List Nat)(i v:Nat):(oI l i v).length=l.length+1:=by unfold oI;rw[List.length_append,List.length_cons,List.length_take,List.length_drop];omega
theorem rd {l:List Nat}{i v:Nat}(h:i<=l.length)(hl:l.length<=900):pZ (l.map nI) [nI i,nI v]=some (.non,(oI l i v).map nI):=by
 unfold pZ;dsimp only;have e:((l.map nI).length<sizeLine):=by rw[List.length_map];exact Nat.lt_of_le_of_lt hl (by decide)
 rw[if_pos ⟨by omega,by rw[List.length_map];omega,e⟩,uE]
 rfl
def eK(l:List Nat)(row to col v:Nat):List Nat:=oI (l.map (lh row to)) col v
theorem Ord.put {n:Nat}{l:List Nat}(O:Ord n l){row to col v:Nat}(hr:row<n)(h:(to=row/\v=row+1)\/(to=row+1/\v=row)):Ord (n+1) (eK l row to col v):=by
 refine⟨?_⟩
 unfold eK oI;refine(List.perm_middle.trans ?_)
 rw[List.take_append_drop];refine((O.perm.map (lh row to)).cons v).trans ?_
 refine(List.perm_ext_iff_of_nodup ?_ List.nodup_range).mpr λk=>?_
 ·rw[List.nodup_cons]
  constructor
  ·intro hm
   obtain⟨i,_,e⟩:=List.mem_map.mp hm
   unfold lh at e;split at e<;>(try split at e)<;>omega
  ·show List.Pairwise (·≠ ·) _
   rw[List.pairwise_map];refine List.Pairwise.imp (λ{i j} hij e=>?_) (List.pairwise_lt_range (n:=n))
   unfold lh at e;split at e<;>(try split at e)<;>(try split at e)<;>(try split at e)<;>omega
 ·rw[List.mem_cons,List.mem_map,List.mem_range]
  constructor
  ·rintro(rfl|⟨i,hi,rfl⟩)
   ·omega
   ·rw[List.mem_range] at hi
    unfold lh;split<;>(try split)<;>omega
  ·intro hk
   by_cases h1:k=v
   ·exact .inl h1
   ·refine .inr ⟨if k<=row then k else k-1,List.mem_range.mpr (by split<;>omega),?_⟩
    unfold lh;split<;>(try split)<;>(try split)<;>omega
section
variable {n:Nat}{r x:List Nat}(G:Gd n r x)
include G
theorem v3(c w:Int):eX [aC r x,.int c,.int w]=some (if(decide (0<=c)&&decide (c<n))=true/\(decide (0<=w)&&decide (w<4))=true then(if n<6 then .ok (aC (eK r (x.getD c.toNat 0) (dB (x.getD c.toNat 0) w.toNat) (cv c.toNat w.toNat) (du (x.getD c.toNat 0) w.toNat)) (eK x (x.getD c.toNat 0) (du (x.getD c.toNat 0) w.toNat) (cv c.toNat w.toNat) (dB (x.getD c.toNat 0) w.toNat))) else .error wP) else .error vm):=by
 have h1:=G.R.len;have h2:=G.X.len;have h3:=G.lo;have h4:=G.hi
 have s1:ic (cr (gT 2 (cQ (gN 3) (cQ (gN 4) (iQ)))) (pu (ai 0))) (dX 12 [aC r x,.int c,.int w])=.ok (.nx [.v (aC r x),.v (.int c),.v (.int w),.v (aH r),.v (aH x),.no,.no,.no,.no,.no,.no,.no]):=bN (gh (gK rfl) rfl)
 have p1:mT (dz (bq (mG mh sg (au (.int 0)) (ai 1) (aj bR (aa (ai 3) (ah)))))) (dz (fx (aj (nF 1 kw) (aa (ai 2) (ah))))) [.v (aC r x),.v (.int c),.v (.int w),.v (aH r),.v (aH x),.no,.no,.no,.no,.no,.no,.no]=some (!(decide (0<=c)&&decide (c<n))|| !(decide (0<=w)&&decide (w<4))):=
  oP (kG (cA (kH (x:=.int 0) (y:=.int c) (z:=nI n) rfl rfl rfl (h1▸fe r _ _ rfl) rfl))) (kG (lO ((ci (ds:=[.int w]) rfl rfl).trans (yW w))))
 by_cases hg:(decide (0<=c)&&decide (c<n))=true/\(decide (0<=w)&&decide (w<4))=true
 ·rw[if_pos hg]
  rw[hg.1,hg.2] at p1;rw[Bool.and_eq_true,Bool.and_eq_true,decide_eq_true_eq,decide_eq_true_eq,decide_eq_true_eq,decide_eq_true_eq] at hg;have p2:bq (ao yQ (aj bR (aa (ai 3) (ah))) (au (.int 6))) [.v (aC r x),.v (.int c),.v (.int w),.v (aH r),.v (aH x),.no,.no,.no,.no,.no,.no,.no]=some (decide (6<=n)):=cA ((az (h1▸fe r _ _ rfl) (y:=.int 6) rfl).trans (by show some (D.bl (decide ((6:Int)<=n)))=_;congr 2;rw[Bool.eq_iff_iff,decide_eq_true_eq,decide_eq_true_eq];omega))
  by_cases h6:n<6
  ·rw[if_pos h6]
   rw[decide_eq_false (by omega)] at p2
   obtain⟨c,rfl⟩: ∃m:Nat,c=m:=⟨c.toNat,by omega⟩
   obtain⟨w,rfl⟩: ∃m:Nat,w=m:=⟨w.toNat,by omega⟩
   rw[Int.toNat_natCast,Int.toNat_natCast];have hc:c<n:=by omega
   have hw:w<4:=by omega
   generalize hrow:x.getD c 0=row
   have hrow':row<n:=hrow▸G.X.get hc
   refine gO (kd:=.s) (n:=12) (t:=cs) (ρ:=[.v (aC r x),.v (nI c),.v (nI w),.v (aH r),.v (aH x),.v (nI row),.v (nI (gZ c w)),.v (nI (dB row w)),.v (nI (cv c w)),.v (nI (du row w)),.own ((eK r row (dB row w) (cv c w) (du row w)).map nI),.own ((eK x row (du row w) (cv c w) (dB row w)).map nI)]) ?_
   unfold cs;rw[aO s1,aO (gz p1),aO (gz p2)];refine bN ?_
   refine(aA (ρ':=[.v (aC r x),.v (nI c),.v (nI w),.v (aH r),.v (aH x),.v (nI row),.no,.no,.no,.no,.no,.no]) ((cg ((az (x:=aH x) (y:=nI c) rfl rfl).trans (hrow▸fG (by omega)))).trans rfl)).trans ?_
   refine(aA (ρ':=[.v (aC r x),.v (nI c),.v (nI w),.v (aH r),.v (aH x),.v (nI row),.v (nI (gZ c w)),.v (nI (dB row w)),.v (nI (cv c w)),.v (nI (du row w)),.no,.no]) (gh (gK ((ci (ds:=[nI c,nI row,nI w]) rfl rfl).trans (qz c row hw))) rfl)).trans ?_
   have cp: ∀(l:List Nat) (f g:FE) (to:Nat) (ρ:aL),l.length=n->f ρ=some (aH l)->(∀v:D,ai 5 ((ρ++List.replicate 1 Sl.no).set 12 (Sl.v v))=some (nI row))->(∀v:D,g ((ρ++List.replicate 1 Sl.no).set 12 (Sl.v v))=some (nI to))->(∀v:D,gN 12 v (ρ++List.replicate 1 Sl.no)=some ((ρ++List.replicate 1 Sl.no).set 12 (Sl.v v)))->(∀v:D,ai 12 ((ρ++List.replicate 1 Sl.no).set 12 (Sl.v v))=some v)->
    bT 1 (iW f) (gN 12) (iV) (aj (nF 3 eY) (aa (ai 12) (aa (ai 5) (aa g (ah))))) ρ=some (.lst ((l.map (lh row to)).map nI)):=λl f g to ρ hl hf h5 hg' hs hn'=>
    fY (ds:=l.map nI) (uA hf) (by rw[List.length_map];omega) ((fQ (h:=nI) (o:=λm=>nI (lh row to m)) l λm _=>⟨_,hs _,(ci (ds:=[nI m,nI row,nI to]) (am (hn' _) (am (h5 _) (am (hg' _) rfl))) rfl).trans (wz m row to)⟩).trans (by rw[List.map_map];rfl))
   refine(aA (ρ':=[.v (aC r x),.v (nI c),.v (nI w),.v (aH r),.v (aH x),.v (nI row),.v (nI (gZ c w)),.v (nI (dB row w)),.v (nI (cv c w)),.v (nI (du row w)),.own ((r.map (lh row (dB row w))).map nI),.no]) ((jZ (cp r _ _ (dB row w) _ h1 rfl (λ_=>rfl) (λ_=>rfl) (λ_=>rfl) λ_=>rfl)).trans rfl)).trans ?_
   refine(aA (ρ':=[.v (aC r x),.v (nI c),.v (nI w),.v (aH r),.v (aH x),.v (nI row),.v (nI (gZ c w)),.v (nI (dB row w)),.v (nI (cv c w)),.v (nI (du row w)),.own ((r.map (lh row (dB row w))).map nI),.own ((x.map (lh row (du row w))).map nI)]) ((jZ (cp x _ _ (du row w) _ h2 rfl (λ_=>rfl) (λ_=>rfl) (λ_=>rfl) λ_=>rfl)).trans rfl)).trans ?_
   have hfc:cv c w<=n:=by unfold cv;omega
   refine(aA (ρ':=[.v (aC r x),.v (nI c),.v (nI w),.v (aH r),.v (aH x),.v (nI row),.v (nI (gZ c w)),.v (nI (dB row w)),.v (nI (cv c w)),.v (nI (du row w)),.own ((eK r row (dB row w) (cv c w) (du row w)).map nI),.own ((x.map (lh row (du row w))).map nI)]) ((jY (bu (b0:=(r.map (lh row (dB row w))).map nI) (bs:=(r.map (lh row (dB row w))).map nI) (ds:=[nI (cv c w),nI (du row w)]) rfl (cC rfl) rfl rfl (rd (by rw[List.length_map];omega) (by rw[List.length_map];omega)))).trans rfl)).trans ?_
   refine(aA (ρ':=[.v (aC r x),.v (nI c),.v (nI w),.v (aH r),.v (aH x),.v (nI row),.v (nI (gZ c w)),.v (nI (dB row w)),.v (nI (cv c w)),.v (nI (du row w)),.own ((eK r row (dB row w) (cv c w) (du row w)).map nI),.own ((eK x row (du row w) (cv c w) (dB row w)).map nI)]) ((jY (bu (b0:=(x.map (lh row (du row w))).map nI) (bs:=(x.map (lh row (du row w))).map nI) (ds:=[nI (cv c w),nI (dB row w)]) rfl (cC rfl) rfl rfl (rd (by rw[List.length_map];omega) (by rw[List.length_map];omega)))).trans rfl)).trans ?_
   exact aV (bO (am ((bL (ds:=[.lst ((eK r row (dB row w) (cv c w) (du row w)).map nI)]) (am rfl rfl)).trans rfl) (am ((bL (ds:=[.lst ((eK x row (du row w) (cv c w) (dB row w)).map nI)]) (am rfl rfl)).trans rfl) rfl)) (by simp))
  ·rw[if_neg h6]
   rw[decide_eq_true (by omega)] at p2
   refine qa (kd:=.s) (n:=12) (t:=cs) ?_
   unfold cs;rw[aO s1,aO (gz p1)];exact⟨_,dk ((jx p2).trans rfl)⟩
 ·rw[if_neg hg]
  have:(!(decide (0<=c)&&decide (c<n))|| !(decide (0<=w)&&decide (w<4)))=true:=by
   cases e1:(decide (0<=c)&&decide (c<(n:Int)))<;>cases e2:(decide (0<=w)&&decide (w<4))<;>first|rfl|exact absurd ⟨e1,e2⟩ hg
  rw[this] at p1;refine qa (kd:=.s) (n:=12) (t:=cs) ?_
  unfold cs;rw[aO s1];exact⟨_,dk ((jx p1).trans rfl)⟩
theorem Gd.put {c w:Nat}(hc:c<n)(hw:w<4)(h6:n<6):Gd (n+1) (eK r (x.getD c 0) (dB (x.getD c 0) w) (cv c w) (du (x.getD c 0) w)) (eK x (x.getD c 0) (du (x.getD c 0) w) (cv c w) (dB (x.getD c 0) w)):=by
 have h:=G.X.get hc
 have d:w / 2=0\/w / 2=1:=by omega
 refine⟨G.R.put h ?_,G.X.put h ?_,by have:=G.lo;omega,by omega⟩
 ·unfold dB du;rcases d with d|d<;>rw[d]<;>omega
 ·unfold dB du;rcases d with d|d<;>rw[d]<;>omega
end
def dH(r x:List Nat)(c q w:Nat):Bool:=(decide (r.getD (cv c w) 0=du q w)&&decide (x.getD (cv c w) 0=dB q w))&&(decide (x.getD (gZ c w) 0=du q w)&& !decide (r.getD (gZ c w) 0=dB q w))
theorem A3(a b c d:Nat):di (.tup [nI a,nI b]) (.tup [nI c,nI d])=(decide (a=c)&&decide (b=d)):=by
 have:=wZ [(a:Int),(b:Int)] [(c:Int),(d:Int)]
 refine this.trans ?_
 rw[Bool.eq_iff_iff];simp only[decide_eq_true_eq,Bool.and_eq_true,List.cons.injEq,and_true];omega
theorem y6(a b:Nat):dw (.tup [nI a,nI b])<=32:=um [a,b]
def dY(l:List Nat)(row col:Nat):List Nat:=((List.range l.length).filter λi=> !decide (i=col)).map λi=>if row<l.getD i 0 then l.getD i 0-1 else l.getD i 0
theorem Ar(q:List Nat):qH (q.map nI)=(List.range q.length).map λ(i:Nat)=>D.tup [nI i,nI (q.getD i 0)]:=by
 unfold qH;rw[List.length_map];refine List.map_congr_left λi hi=>?_
 rw[List.mem_range] at hi;congr 3
 rw[List.getD_eq_getElem?_getD,List.getElem?_map,List.getElem?_eq_getElem hi,List.getD_eq_getElem?_getD,List.getElem?_eq_getElem hi];rfl
theorem nB(l:List Nat)(row col:Nat)(hl:l.length<=900):fZ [aH l,nI row,nI col]=some (aH (dY l row col)):=by
 apply cI (kd:=.s) (n:=3) (t:=fV)
 unfold fV;refine aV ((bL (ds:=[.lst ((dY l row col).map nI)]) (am (fY (ds:=(List.range l.length).map λ(i:Nat)=>D.tup [nI i,nI (l.getD i 0)]) ?_ (by rw[List.length_map,List.length_range];omega) ?_) rfl)).trans rfl)
 ·rw[<-Ar];rfl
 ·unfold dY
  rw[List.map_map];refine kC (h:=λ(i:Nat)=>D.tup [nI i,nI (l.getD i 0)]) (q:=λi=> !decide (i=col)) _ λi hi=>⟨_,rfl,?_,λ_=>?_⟩
  ·exact cA ((az (x:=nI i) (y:=nI col) rfl rfl).trans (by rw[kn (by rw[fM];omega),i0]))
  ·have p:bq (ao wE (ai 4) (ai 1)) [.v (aH l),.v (nI row),.v (nI col),.v (nI i),.v (nI (l.getD i 0))]=some (decide (row<l.getD i 0)):=cA ((az (x:=nI (l.getD i 0)) (y:=nI row) rfl rfl).trans (by show some (D.bl (decide ((row:Int)<(l.getD i 0:Nat))))=_;congr 2;rw[Bool.eq_iff_iff,decide_eq_true_eq,decide_eq_true_eq];omega))
   show _=some (nI (if row<l.getD i 0 then l.getD i 0-1 else l.getD i 0))
   by_cases h:row<l.getD i 0
   ·rw[if_pos h]
    rw[decide_eq_true h] at p;refine(xz p).trans ((az (x:=nI (l.getD i 0)) (y:=.int 1) rfl rfl).trans ((fm _ _).trans ?_))
    show some (D.int _)=some (D.int _);congr 2
    omega
   ·rw[if_neg h]
    rw[decide_eq_false h] at p;exact(xv p).trans rfl
theorem Ord.join {n:Nat}{l:List Nat}(O:Ord n l){row col:Nat}(hr:row+1<n)(hc:col<n)(h:l.getD col 0=row\/l.getD col 0=row+1):Ord (n-1) (dY l row col):=by
 have hl:=O.len
 refine⟨(List.perm_ext_iff_of_nodup ?_ List.nodup_range).mpr λk=>?_⟩
 ·unfold dY
  show List.Pairwise (·≠ ·) _
  rw[List.pairwise_map,hl];refine List.Pairwise.imp_of_mem (λ{i j} hi hj hij e=>?_) (List.Pairwise.filter _ (List.pairwise_lt_range (n:=n)))
  rw[List.mem_filter,List.mem_range] at hi hj;have i1:i≠col:=by simpa using hi.2
  have j1:j≠col:=by simpa using hj.2
  have n1:l.getD i 0≠l.getD j 0:=λz=>by have:=O.inj hi.1 hj.1 z;omega
  have n2:l.getD i 0≠l.getD col 0:=λz=>i1 (O.inj hi.1 hc z)
  have n3:l.getD j 0≠l.getD col 0:=λz=>j1 (O.inj hj.1 hc z)
  split at e<;>split at e<;>omega
 ·unfold dY
  rw[List.mem_map,List.mem_range,hl];constructor
  ·rintro⟨i,hi,rfl⟩
   rw[List.mem_filter,List.mem_range] at hi;have i1:i≠col:=by simpa using hi.2
   have:=O.get hi.1
   have n2:l.getD i 0≠l.getD col 0:=λz=>i1 (O.inj hi.1 hc z)
   split<;>omega
  ·intro hk
   have key: ∀v,v<n->v≠l.getD col 0-> ∃i,i∈(List.range n).filter (λi=> !decide (i=col))/\l.getD i 0=v:=λv hv hv2=>by
    obtain⟨i1,i2⟩:=gD O hv
    refine⟨l.idxOf v,?_,i2⟩
    rw[List.mem_filter,List.mem_range];refine⟨i1,?_⟩
    simp only[Bool.not_eq_true',decide_eq_false_iff_not];intro z;rw[z] at i2;exact hv2 i2.symm
   by_cases h1:k<row
   ·obtain⟨i,hi,e⟩:=key k (by omega) (by omega)
    exact⟨i,hi,by rw[e,if_neg (by omega)]⟩
   ·by_cases h2:k=row
    ·by_cases h3:l.getD col 0=row
     ·obtain⟨i,hi,e⟩:=key (row+1) (by omega) (by omega)
      exact⟨i,hi,by rw[e,if_pos (by omega)];omega⟩
     ·obtain⟨i,hi,e⟩:=key row (by omega) (by omega)
      exact⟨i,hi,by rw[e,if_neg (by omega)];omega⟩
    ·obtain⟨i,hi,e⟩:=key (k+1) (by omega) (by omega)
     exact⟨i,hi,by rw[e,if_pos (by omega)];omega⟩
theorem wu {g:FG}{b:FS}{d e:D}{r:List D}{ρ ρ1 ρ2:aL}(h1:g d ρ=some ρ1)(h2:b ρ1=.rt e ρ2):fz g b (d::r) ρ=.rt e ρ2:=by
 show(match g d ρ with
  |none=>Out.no
  |some ρ1=>match b ρ1 with
   | .nx ρ2=>fz g b r ρ2
   | .ct ρ2=>fz g b r ρ2
   | .bk ρ2=>.nx ρ2
   | .rt d ρ2=>.rt d ρ2
   | .no=>.no)=_
 rw[h1];dsimp only;rw[h2]
def wo(r x:List Nat)(c q:Nat):Option Nat:=(List.range 4).find? (dH r x c q)
def ju(r x:List Nat)(c q:Int):Option Nat:=if(decide (0<=c)&&decide (c<=(r.length:Int) -2))=true/\(decide (0<=q)&&decide (q<=(r.length:Int) -2))=true then wo r x c.toNat q.toNat else none
def wD:Option Nat->D
 |none=>.non
 |some w=>nI w
theorem xG {a b d e:D}{bd:FS}{q:Nat->Bool}: ∀(l:List Nat) (s:Sl),(∀w∈l,bd [.v a,.v b,.v d,.v e,.v (nI w)]=if q w=true then .rt (nI w) [.v a,.v b,.v d,.v e,.v (nI w)] else .nx [.v a,.v b,.v d,.v e,.v (nI w)])->
 (match l.find? q with
 |some w=> ∃ρ,fz (gN 4) bd (l.map nI) [.v a,.v b,.v d,.v e,s]=.rt (nI w) ρ
 |none=> ∃s',fz (gN 4) bd (l.map nI) [.v a,.v b,.v d,.v e,s]=.nx [.v a,.v b,.v d,.v e,s'])
 | [],s,_=>⟨s,rfl⟩
 |w::l,s,h=>by
  have h0:=h w (List.mem_cons_self ..)
  rw[List.map_cons,List.find?_cons];cases e1:q w with
  |true=>
   rw[e1,if_pos rfl] at h0;exact⟨_,wu (ρ1:=[.v a,.v b,.v d,.v e,.v (nI w)]) rfl h0⟩
  |false=>
   rw[e1,if_neg (by simp)] at h0
   have:=xG l (.v (nI w)) λv hv=>h v (List.mem_cons_of_mem _ hv)
   rw[kP (ρ1:=[.v a,.v b,.v d,.v e,.v (nI w)]) rfl h0];exact this
section
variable {n:Nat}{r x:List Nat}(G:Gd n r x)
include G
theorem uM {c q w:Nat}(hc:c+1<n)(hw:w<4):ik [aC r x,nI c,nI q,nI w]=some (.bl (dH r x c q w)):=by
 have h1:=G.R.len;have h2:=G.X.len;have h3:=G.lo;have h4:=G.hi
 have f1:gZ c w<n:=by unfold gZ;omega
 have f2:cv c w<n:=by unfold cv;omega
 apply jM (kd:=.s) (n:=10) (t:=kx)
 unfold kx;rw[aA (ρ':=[.v (aC r x),.v (nI c),.v (nI q),.v (nI w),.v (aH r),.v (aH x),.no,.no,.no,.no]) (gh (gK rfl) rfl)];have s2:cr (gT 4 (cQ (gN 6) (cQ (gN 7) (cQ (gN 8) (cQ (gN 9) (iQ)))))) (pu (aj (nF 3 cy) (aa (ai 1) (aa (ai 2) (aa (ai 3) (ah)))))) [.v (aC r x),.v (nI c),.v (nI q),.v (nI w),.v (aH r),.v (aH x),.no,.no,.no,.no]=.nx [.v (aC r x),.v (nI c),.v (nI q),.v (nI w),.v (aH r),.v (aH x),.v (nI (gZ c w)),.v (nI (dB q w)),.v (nI (cv c w)),.v (nI (du q w))]:=gh (gK ((ci (ds:=[nI c,nI q,nI w]) rfl rfl).trans (qz c q hw))) rfl
 rw[aA s2];have p1:bq (ao kZ (aZ (aa (ao aQ (ai 4) (ai 8)) (aa (ao aQ (ai 5) (ai 8)) (ah)))) (aZ (aa (ai 9) (aa (ai 7) (ah))))) [.v (aC r x),.v (nI c),.v (nI q),.v (nI w),.v (aH r),.v (aH x),.v (nI (gZ c w)),.v (nI (dB q w)),.v (nI (cv c w)),.v (nI (du q w))]=some (!(decide (r.getD (cv c w) 0=du q w)&&decide (x.getD (cv c w) 0=dB q w))):=
  cA ((az (bO (am ((az (x:=aH r) (y:=nI (cv c w)) rfl rfl).trans (fG (by omega))) (am ((az (x:=aH x) (y:=nI (cv c w)) rfl rfl).trans (fG (by omega))) rfl)) (by simp)) (y:=.tup [nI (du q w),nI (dB q w)]) (bO rfl (by simp))).trans (by rw[kn (y6 _ _),A3]))
 have p2:uT (j5 (bq (ao iU (ao aQ (ai 5) (ai 6)) (ai 9))) (bq (ao kZ (ao aQ (ai 4) (ai 6)) (ai 7)))) [.v (aC r x),.v (nI c),.v (nI q),.v (nI w),.v (aH r),.v (aH x),.v (nI (gZ c w)),.v (nI (dB q w)),.v (nI (cv c w)),.v (nI (du q w))]=some (.bl (decide (x.getD (gZ c w) 0=du q w)&& !decide (r.getD (gZ c w) 0=dB q w))):=by
  refine x8 (vz (a:=decide (x.getD (gZ c w) 0=du q w)) (cA ((az ((az (x:=aH x) (y:=nI (gZ c w)) rfl rfl).trans (fG (by omega))) (y:=nI (du q w)) rfl).trans (by rw[ja (by rw[fM];omega),i0]))) (λz=>?_) λz=>by rw[z];rfl)
  rw[z,Bool.true_and];exact cA ((az ((az (x:=aH r) (y:=nI (gZ c w)) rfl rfl).trans (fG (by omega))) (y:=nI (dB q w)) rfl).trans (by rw[kn (by rw[fM];omega),i0]))
 unfold dH;revert p1
 generalize (decide (r.getD (cv c w) 0=du q w)&&decide (x.getD (cv c w) 0=dB q w))=pb
 intro p1;cases pb with
 |true=>exact⟨_,(aA (bw p1)).trans (aV p2)⟩
 |false=>exact⟨_,iD ((ie p1).trans (aV rfl))⟩
theorem rh(c q:Int):gm [aC r x,.int c,.int q]=some (wD (ju r x c q)):=by
 have h1:=G.R.len;have h2:=G.X.len;have h3:=G.lo;have h4:=G.hi
 apply jM (kd:=.s) (n:=5) (t:=jG)
 unfold jG;rw[aA (ρ':=[.v (aC r x),.v (.int c),.v (.int q),.v (.int ((r.length:Int) -2)),.no]) ((cg ((az (fe r _ _ rfl) (y:=.int 2) rfl).trans (fm _ _))).trans rfl)];have p1:mT (dz (bq (mG mh mh (au (.int 0)) (ai 1) (ai 3)))) (dz (bq (mG mh mh (au (.int 0)) (ai 2) (ai 3)))) [.v (aC r x),.v (.int c),.v (.int q),.v (.int ((r.length:Int) -2)),.no]=some (!(decide (0<=c)&&decide (c<=(r.length:Int) -2))|| !(decide (0<=q)&&decide (q<=(r.length:Int) -2))):=
  oP (kG (cA (kH (x:=.int 0) (y:=.int c) (z:=.int ((r.length:Int) -2)) rfl rfl rfl rfl rfl))) (kG (cA (kH (x:=.int 0) (y:=.int q) (z:=.int ((r.length:Int) -2)) rfl rfl rfl rfl rfl)))
 unfold ju
 by_cases hg:(decide (0<=c)&&decide (c<=(r.length:Int) -2))=true/\(decide (0<=q)&&decide (q<=(r.length:Int) -2))=true
 ·rw[if_pos hg]
  rw[hg.1,hg.2] at p1;rw[Bool.and_eq_true,Bool.and_eq_true,decide_eq_true_eq,decide_eq_true_eq,decide_eq_true_eq,decide_eq_true_eq] at hg;rw[aA (bw p1)];obtain⟨c,rfl⟩: ∃m:Nat,c=m:=⟨c.toNat,by omega⟩
  obtain⟨q,rfl⟩: ∃m:Nat,q=m:=⟨q.toNat,by omega⟩
  rw[Int.toNat_natCast,Int.toNat_natCast];have fw:=xG (a:=aC r x) (b:=nI c) (d:=nI q) (e:=.int ((r.length:Int) -2)) (bd:=dC (fx (aj (nF 4 ik) (aa (ai 0) (aa (ai 1) (aa (ai 2) (aa (ai 4) (ah))))))) (aI (ai 4)) (skip)) (q:=dH r x c q) (List.range 4) .no λw hw=>by
   rw[List.mem_range] at hw;have:=lO ((ci (ds:=[aC r x,nI c,nI q,nI w]) (fs:=aa (ai 0) (aa (ai 1) (aa (ai 2) (aa (ai 4) (ah))))) (ρ:=[.v (aC r x),.v (nI c),.v (nI q),.v (.int ((r.length:Int) -2)),.v (nI w)]) rfl rfl).trans (uM G (c:=c) (q:=q) (w:=w) (by omega) hw))
   cases e:dH r x c q w with
   |true=>rw[e] at this;rw[if_pos rfl];exact(ie this).trans (aV rfl)
   |false=>rw[e] at this;rw[if_neg (by simp)];exact bw this
  unfold wo;have fs:iK (cL (dR (aa (au (.int 4)) (ah)))) (gN 4) (dC (fx (aj (nF 4 ik) (aa (ai 0) (aa (ai 1) (aa (ai 2) (aa (ai 4) (ah))))))) (aI (ai 4)) (skip)) [.v (aC r x),.v (nI c),.v (nI q),.v (.int ((r.length:Int) -2)),.no]=fz (gN 4) (dC (fx (aj (nF 4 ik) (aa (ai 0) (aa (ai 1) (aa (ai 2) (aa (ai 4) (ah))))))) (aI (ai 4)) (skip)) ((List.range 4).map nI) [.v (aC r x),.v (nI c),.v (nI q),.v (.int ((r.length:Int) -2)),.no]:=oD (cC (im (n:=4) rfl (by omega)))
  cases e:(List.range 4).find? (dH r x c q) with
  |some w=>
   rw[e] at fw;obtain⟨ρ,h⟩:=fw
   exact⟨_,iD (fs.trans h)⟩
  |none=>
   rw[e] at fw;obtain⟨s,h⟩:=fw
   exact⟨_,(aA (fs.trans h)).trans (aV rfl)⟩
 ·rw[if_neg hg]
  have:(!(decide (0<=c)&&decide (c<=(r.length:Int) -2))|| !(decide (0<=q)&&decide (q<=(r.length:Int) -2)))=true:=by
   cases e1:(decide (0<=c)&&decide (c<=(r.length:Int) -2))<;>cases e2:(decide (0<=q)&&decide (q<=(r.length:Int) -2))<;>first|rfl|exact absurd ⟨e1,e2⟩ hg
  rw[this] at p1;exact⟨_,iD ((ie p1).trans (aV rfl))⟩
theorem ku {c q:Int}{w:Nat}(h:ju r x c q=some w): ∃c' q':Nat,c=c'/\q=q'/\c'+1<n/\q'+1<n/\w<4/\dH r x c' q' w=true:=by
 have h1:=G.R.len
 unfold ju at h;split at h
 ·rename_i hg
  rw[Bool.and_eq_true,Bool.and_eq_true,decide_eq_true_eq,decide_eq_true_eq,decide_eq_true_eq,decide_eq_true_eq] at hg;unfold wo at h;have m:=List.mem_of_find?_eq_some h
  rw[List.mem_range] at m;exact⟨c.toNat,q.toNat,by omega,by omega,by omega,by omega,m,List.find?_some h⟩
 ·cases h
def li(r x:List Nat)(c q:Int):Except Ex D:=match ju r x c q with
 |none=>.error vm
 |some w=>.ok (aC (dY r q.toNat (cv c.toNat w)) (dY x q.toNat (cv c.toNat w)))
theorem wa(c q:Int):ft [aC r x,.int c,.int q]=some (li r x c q):=by
 have h1:=G.R.len;have h2:=G.X.len;have h3:=G.lo;have h4:=G.hi
 have s1:ic (ba 3 (aj (nF 3 gm) (aa (ai 0) (aa (ai 1) (aa (ai 2) (ah)))))) (dX 7 [aC r x,.int c,.int q])=.ok (.nx [.v (aC r x),.v (.int c),.v (.int q),.v (wD (ju r x c q)),.no,.no,.no]):=bN ((cg ((ci (ds:=[aC r x,.int c,.int q]) rfl rfl).trans (rh G c q))).trans rfl)
 unfold li;cases e:ju r x c q with
 |none=>
  rw[e] at s1;refine qa (kd:=.s) (n:=7) (t:=cN) ?_
  unfold cN;rw[aO s1];exact⟨_,dk ((jx (cA (b:=true) ((az (x:=.non) (y:=.non) rfl rfl).trans rfl))).trans rfl)⟩
 |some w=>
  rw[e] at s1;obtain⟨c,q,rfl,rfl,hc,hq,hw,_⟩:=ku G e
  rw[Int.toNat_natCast,Int.toNat_natCast];refine gO (kd:=.s) (n:=7) (t:=cN) (ρ:=[.v (aC r x),.v (nI c),.v (nI q),.v (nI w),.v (aH r),.v (aH x),.v (nI (cv c w))]) ?_
  unfold cN;rw[aO s1,aO (gz (cA (b:=false) ((az (x:=nI w) (y:=.non) rfl rfl).trans rfl)))];refine bN ?_
  refine(aA (ρ':=[.v (aC r x),.v (nI c),.v (nI q),.v (nI w),.v (aH r),.v (aH x),.no]) (gh (gK rfl) rfl)).trans ?_
  refine(aA (ρ':=[.v (aC r x),.v (nI c),.v (nI q),.v (nI w),.v (aH r),.v (aH x),.v (nI (cv c w))]) ((cg ((az ((ci (ds:=[nI c,nI q,nI w]) rfl rfl).trans (qz c q hw)) (y:=.int 2) rfl).trans rfl)).trans rfl)).trans ?_
  exact aV (bO (am ((ci (ds:=[aH r,nI q,nI (cv c w)]) rfl rfl).trans (nB r q _ (by omega))) (am ((ci (ds:=[aH x,nI q,nI (cv c w)]) rfl rfl).trans (nB x q _ (by omega))) rfl)) (by simp))
theorem Gd.tkn {c q w:Nat}(hc:c+1<n)(hq:q+1<n)(hw:w<4)(h:dH r x c q w=true):Gd (n-1) (dY r q (cv c w)) (dY x q (cv c w)):=by
 unfold dH at h;simp only[Bool.and_eq_true,decide_eq_true_eq,Bool.not_eq_true',decide_eq_false_iff_not] at h;obtain⟨⟨a1,a2⟩,a3,a4⟩:=h
 have d:w / 2=0\/w / 2=1:=by omega
 have hf:cv c w<n:=by unfold cv;omega
 have hf2:gZ c w<n:=by unfold gZ;omega
 have hne:cv c w≠gZ c w:=by unfold cv gZ;omega
 refine⟨G.R.join hq hf ?_,G.X.join hq hf ?_,?_,by have:=G.hi;omega⟩
 ·rw[a1];unfold du;rcases d with d|d<;>rw[d]<;>omega
 ·rw[a2];unfold dB;rcases d with d|d<;>rw[d]<;>omega
 ·have h3:=G.lo
  refine Nat.le_sub_of_add_le ?_
  by_cases e:n=2
  ·exfalso
   subst e;have g1:=G.R.get hf2
   have g2:r.getD (gZ c w) 0≠r.getD (cv c w) 0:=λz=>hne (G.R.inj hf2 hf z).symm
   apply a4
   rw[a1] at g2;unfold du at g2;unfold dB;rcases d with d|d<;>rw[d] at g2⊢ <;>omega
  ·omega
end
inductive Mo
 |cols (k:Int)|rows (k:Int)|tip|swap (c:Int)|cross (c:Int)|put (c w:Int)|take (c q:Int)
def Mo.d:Mo->D
 | .cols k=>.tup [.str "columns",.int k]
 | .rows k=>.tup [.str "rows",.int k]
 | .tip=>.tup [.str "tip"]
 | .swap c=>.tup [.str "swap",.int c]
 | .cross c=>.tup [.str "cross",.int c]
 | .put c w=>.tup [.str "put",.int c,.int w]
 | .take c q=>.tup [.str "take",.int c,.int q]
def kM(n:Nat)(r x:List Nat)(c w:Int):Except Ex D:=if(decide (0<=c)&&decide (c<n))=true/\(decide (0<=w)&&decide (w<4))=true then(if n<6 then .ok (aC (eK r (x.getD c.toNat 0) (dB (x.getD c.toNat 0) w.toNat) (cv c.toNat w.toNat) (du (x.getD c.toNat 0) w.toNat)) (eK x (x.getD c.toNat 0) (du (x.getD c.toNat 0) w.toNat) (cv c.toNat w.toNat) (dB (x.getD c.toNat 0) w.toNat))) else .error wP) else .error vm
def oz(r x:List Nat)(c:Int):Except Ex D:=if iC r x c=true then .ok (aC (ki r c.toNat (c.toNat+1)) (ki x c.toNat (c.toNat+1))) else .error vm
def og(r x:List Nat)(c:Int):Except Ex D:=if iC (cz r) (cz x) c=true then .ok (aC (cz (ki (cz r) c.toNat (c.toNat+1))) (cz (ki (cz x) c.toNat (c.toNat+1)))) else .error vm
def Mo.e(n:Nat)(r x:List Nat):Mo->Except Ex D
 | .cols k=>.ok (aC (gv r k) (gv x k))
 | .rows k=>.ok (aC (gl r k) (gl x k))
 | .tip=>.ok (aC (cz r) (cz x))
 | .swap c=>oz r x c
 | .cross c=>og r x c
 | .put c w=>kM n r x c w
 | .take c q=>li r x c q
theorem zI(s t:Str):iU (.str s) (.str t)=some (.bl (di (.str s) (.str t))):=ja (show dw (.str s)<=32 by unfold dw;omega)
theorem pF {n:Nat}{r x:List Nat}(G:Gd n r x)(m:Mo):pV [aC r x,m.d]=some (m.e n r x):=by
 have no: ∀(ρ:aL) (s t:Str) (b:Bool),ai 2 ρ=some (.str s)->di (.str s) (.str t)=b->bq (ao iU (ai 2) (au (.str t))) ρ=some b:=λρ s t b h e=>cA ((az h (y:=.str t) rfl).trans ((zI s t).trans (by rw[e])))
 have s1: ∀(s:Str) (d:D),aQ d (.int 0)=some (.str s)->ic (ba 2 (ao aQ (ai 1) (au (.int 0)))) (dX 3 [aC r x,d])=.ok (.nx [.v (aC r x),.v d,.v (.str s)]):=λs d h=>bN ((cg ((az (x:=d) (y:=.int 0) rfl rfl).trans h)).trans rfl)
 cases m with
 |cols k=>
  refine gO (kd:=.s) (n:=3) (t:=bf) (ρ:=[.v (aC r x),.v (Mo.cols k).d,.v (.str "columns")]) ?_
  unfold bf;rw[aO (s1 "columns" _ rfl)];exact dD (bN ((ie (no _ "columns" _ true rfl rfl)).trans (aV ((ci (ds:=[aC r x,.int k]) rfl rfl).trans (uO G k)))))
 |rows k=>
  refine gO (kd:=.s) (n:=3) (t:=bf) (ρ:=[.v (aC r x),.v (Mo.rows k).d,.v (.str "rows")]) ?_
  unfold bf;rw[aO (s1 "rows" _ rfl),aO (bN (bw (no _ "rows" _ false rfl rfl)))];exact dD (bN ((ie (no _ "rows" _ true rfl rfl)).trans (aV ((ci (ds:=[aC r x,.int k]) rfl rfl).trans (sX G k)))))
 |tip=>
  refine gO (kd:=.s) (n:=3) (t:=bf) (ρ:=[.v (aC r x),.v (Mo.tip).d,.v (.str "tip")]) ?_
  unfold bf;rw[aO (s1 "tip" _ rfl),aO (bN (bw (no _ "tip" _ false rfl rfl))),aO (bN (bw (no _ "tip" _ false rfl rfl)))];exact dD (bN ((ie (no _ "tip" _ true rfl rfl)).trans (aV ((ci (ds:=[aC r x]) rfl rfl).trans (my G)))))
 |swap c=>
  have e1:cB 2 bA (fE (aa (ai 0) (aa (ao aQ (ai 1) (au (.int 1))) (ah)))) [.v (aC r x),.v (Mo.swap c).d,.v (.str "swap")]=some (oz r x c):=(fj (ds:=[aC r x,.int c]) (gE rfl) rfl).trans (qS G c)
  have e2:bf (dX 3 [aC r x,(Mo.swap c).d])=cM (gQ (cB 2 bA (fE (aa (ai 0) (aa (ao aQ (ai 1) (au (.int 1))) (ah)))))) (λ_=>.ok .no) [.v (aC r x),.v (Mo.swap c).d,.v (.str "swap")]:=by
   unfold bf;rw[aO (s1 "swap" _ rfl),aO (bN (bw (no _ "swap" _ false rfl rfl))),aO (bN (bw (no _ "swap" _ false rfl rfl))),aO (bN (bw (no _ "swap" _ false rfl rfl)))];show cM _ _ _=_;cases e:oz r x c with
   |ok d=>rw[e] at e1;rw[dD ((jx (no _ "swap" _ true rfl rfl)).trans (en e1)),dD (en e1)]
   |error z=>rw[e] at e1;rw[dk ((jx (no _ "swap" _ true rfl rfl)).trans (eB e1)),dk (eB e1)]
  show _=some (oz r x c);cases e:oz r x c with
  |ok d=>rw[e] at e1;exact gO (kd:=.s) (n:=3) (t:=bf) (e2.trans (dD (en e1)))
  |error z=>rw[e] at e1;exact kj (kd:=.s) (n:=3) (t:=bf) (e2.trans (dk (eB e1)))
 |cross c=>
  have e1:cB 2 dG (fE (aa (ai 0) (aa (ao aQ (ai 1) (au (.int 1))) (ah)))) [.v (aC r x),.v (Mo.cross c).d,.v (.str "cross")]=some (og r x c):=(fj (ds:=[aC r x,.int c]) (gE rfl) rfl).trans (u7 G c)
  have e2:bf (dX 3 [aC r x,(Mo.cross c).d])=cM (gQ (cB 2 dG (fE (aa (ai 0) (aa (ao aQ (ai 1) (au (.int 1))) (ah)))))) (λ_=>.ok .no) [.v (aC r x),.v (Mo.cross c).d,.v (.str "cross")]:=by
   unfold bf;rw[aO (s1 "cross" _ rfl),aO (bN (bw (no _ "cross" _ false rfl rfl))),aO (bN (bw (no _ "cross" _ false rfl rfl))),aO (bN (bw (no _ "cross" _ false rfl rfl))),aO (gz (no _ "cross" _ false rfl rfl))];cases e:og r x c with
   |ok d=>rw[e] at e1;rw[dD ((jx (no _ "cross" _ true rfl rfl)).trans (en e1)),dD (en e1)]
   |error z=>rw[e] at e1;rw[dk ((jx (no _ "cross" _ true rfl rfl)).trans (eB e1)),dk (eB e1)]
  show _=some (og r x c);cases e:og r x c with
  |ok d=>rw[e] at e1;exact gO (kd:=.s) (n:=3) (t:=bf) (e2.trans (dD (en e1)))
  |error z=>rw[e] at e1;exact kj (kd:=.s) (n:=3) (t:=bf) (e2.trans (dk (eB e1)))
 |put c w=>
  have e1:cB 3 eX (fE (aa (ai 0) (aa (ao aQ (ai 1) (au (.int 1))) (aa (ao aQ (ai 1) (au (.int 2))) (ah))))) [.v (aC r x),.v (Mo.put c w).d,.v (.str "put")]=some (kM n r x c w):=(fj (ds:=[aC r x,.int c,.int w]) (gE rfl) rfl).trans (v3 G c w)
  have e2:bf (dX 3 [aC r x,(Mo.put c w).d])=cM (gQ (cB 3 eX (fE (aa (ai 0) (aa (ao aQ (ai 1) (au (.int 1))) (aa (ao aQ (ai 1) (au (.int 2))) (ah))))))) (λ_=>.ok .no) [.v (aC r x),.v (Mo.put c w).d,.v (.str "put")]:=by
   unfold bf;rw[aO (s1 "put" _ rfl),aO (bN (bw (no _ "put" _ false rfl rfl))),aO (bN (bw (no _ "put" _ false rfl rfl))),aO (bN (bw (no _ "put" _ false rfl rfl))),aO (gz (no _ "put" _ false rfl rfl)),aO (gz (no _ "put" _ false rfl rfl))];cases e:kM n r x c w with
   |ok d=>rw[e] at e1;rw[dD ((jx (no _ "put" _ true rfl rfl)).trans (en e1)),dD (en e1)]
   |error z=>rw[e] at e1;rw[dk ((jx (no _ "put" _ true rfl rfl)).trans (eB e1)),dk (eB e1)]
  show _=some (kM n r x c w);cases e:kM n r x c w with
  |ok d=>rw[e] at e1;exact gO (kd:=.s) (n:=3) (t:=bf) (e2.trans (dD (en e1)))
  |error z=>rw[e] at e1;exact kj (kd:=.s) (n:=3) (t:=bf) (e2.trans (dk (eB e1)))
 |take c q=>
  have e1:cB 3 ft (fE (aa (ai 0) (aa (ao aQ (ai 1) (au (.int 1))) (aa (ao aQ (ai 1) (au (.int 2))) (ah))))) [.v (aC r x),.v (Mo.take c q).d,.v (.str "take")]=some (li r x c q):=(fj (ds:=[aC r x,.int c,.int q]) (gE rfl) rfl).trans (wa G c q)
  refine xn (kd:=.s) (n:=3) (t:=bf) ?_ e1
  unfold bf;rw[aO (s1 "take" _ rfl),aO (bN (bw (no _ "take" _ false rfl rfl))),aO (bN (bw (no _ "take" _ false rfl rfl))),aO (bN (bw (no _ "take" _ false rfl rfl))),aO (gz (no _ "take" _ false rfl rfl)),aO (gz (no _ "take" _ false rfl rfl)),aO (gz (no _ "take" _ false rfl rfl))]
theorem we {i:Nat}{ns ys:List Str}{t:FX}{u:FS}{ρ:aL}{o:Out}(h:t ρ=.ok o):qE i ns ys t u ρ=o:=by unfold qE;rw[h]
theorem xa {i:Nat}{ns ys:List Str}{t:FX}{u:FS}{ρ ρ' ρ2:aL}{z:Ex}{d:D}(h:t ρ=.error (z,ρ'))(h1:ns.contains z.x=true)(h2:(ys.any λy=>lq z.x y)=true)(h3:u (ρ'.set i (.ob (.exc z.x z.n)))=.rt d ρ2):qE i ns ys t u ρ=.rt d ρ2:=by
 unfold qE;rw[h];dsimp only;rw[if_pos ⟨h1,h2⟩,h3]
theorem ly(v u w:Nat):vI v u w=true↔(u<v/\v<w)\/(w<v/\v<u):=by
 unfold vI;rw[Bool.and_eq_true,decide_eq_true_eq,decide_eq_true_eq];omega
theorem oX(a b:Bool):(a==b)=true↔(a=true↔b=true):=by cases a<;>cases b<;>simp
theorem pO {n:Nat}{r x:List Nat}(G:Gd n r x){c:Nat}(hc:c+1<n):qK (ki r c (c+1)) (ki x c (c+1)) c=qK r x c:=by
 have h1:=G.R.len;have h2:=G.X.len
 unfold qK;have g1: ∀o:List Nat,o.length=n->(ki o c (c+1)).getD c 0=o.getD (c+1) 0:=λo ho=>by rw[gC (by omega) (by omega),if_neg (by omega),if_pos rfl]
 have g2: ∀o:List Nat,o.length=n->(ki o c (c+1)).getD (c+1) 0=o.getD c 0:=λo ho=>by rw[gC (by omega) (by omega),if_pos rfl]
 rw[g1 r h1,g1 x h2,g2 r h1,g2 x h2]
 generalize r.getD (c+1) 0=A
 generalize x.getD (c+1) 0=B
 generalize r.getD c 0=U
 generalize x.getD c 0=V
 rw[Bool.eq_iff_iff,Bool.and_eq_true,Bool.and_eq_true,oX,oX,ly,ly,ly,ly];simp only[Bool.not_eq_true',Bool.or_eq_false_iff,decide_eq_false_iff_not];omega
theorem lz {n:Nat}{o:List Nat}(ho:o.length=n){c:Nat}(hc:c+1<n):ki (ki o c (c+1)) c (c+1)=o:=by
 have l1:(ki o c (c+1)).length=n:=by unfold ki;simp[ho]
 refine hW (by unfold ki;simp) λi hi=>?_
 rw[gC (by omega) (by omega),gC (by omega) (by omega),gC (by omega) (by omega),gC (by omega) (by omega)]
 by_cases e1:i=c+1
 ·subst e1;simp
 ·by_cases e2:i=c
  ·subst e2;simp
  ·simp[e1,e2]
theorem hJ {n:Nat}{o:List Nat}(O:Ord n o):cz (cz o)=o:=hW (by rw[kg,kg]) λc hc=>by
 have hc:c<n:=by rw[kg,kg,O.len] at hc;exact hc
 rw[iE O.tip hc];have:=qm O.tip (c:=o.getD c 0) (O.get hc)
 rw[u5 O hc] at this;exact this
theorem p9 {n:Nat}{o:List Nat}(O:Ord n o)(h0:0<n)(k:Int):gv (gv o k) (-k)=o:=hW (by rw[gd,gd]) λc hc=>by
 have ho:=O.len
 rw[gd,gd,ho] at hc;rw[jX _ _ (by rw[gd,ho];exact hc),gd,ho,show(c:Int) - (-k)=c+k by omega]
 exact uC ho h0 k hc
theorem pi {n:Nat}{o:List Nat}(O:Ord n o)(h0:0<n)(k:Int):gl (gl o k) (-k)=o:=hW (by rw[ia,ia]) λc hc=>by
 have ho:=O.len
 rw[ia,ia,ho] at hc;rw[ma (by rw[ia,ho]) _ hc,ma ho k hc]
 have:=O.get hc
 show((((vq n k (o.getD c 0):Nat):Int)+(-k)) % n).toNat=_;rw[show((vq n k (o.getD c 0):Nat):Int)=((o.getD c 0:Int)+k) % n from(vp _ h0).2,Int.emod_add_emod,show(o.getD c 0:Int)+k+(-k)=o.getD c 0 by omega,Int.emod_eq_of_lt (by omega) (by omega)]
 rfl
structure Gn(n:Nat)(r x:List Nat):Prop where
 g:Gd n r x
 ne: ∀i,i<n->r.getD i 0≠x.getD i 0
theorem pG(l:List Nat)(f:Nat->Nat)(i:Nat)(h:i<l.length):(l.map f).getD i 0=f (l.getD i 0):=by
 rw[List.getD_eq_getElem?_getD,List.getD_eq_getElem?_getD,List.getElem?_map,List.getElem?_eq_getElem h];rfl
theorem uo(l:List Nat)(i v j:Nat)(hi:i<=l.length):(oI l i v).getD j 0=if j<i then l.getD j 0 else if j=i then v else l.getD (j-1) 0:=by
 unfold oI;rw[List.getD_eq_getElem?_getD,List.getElem?_append,List.length_take,Nat.min_eq_left hi]
 by_cases h:j<i
 ·rw[if_pos h,if_pos h,List.getElem?_take_of_lt h,<-List.getD_eq_getElem?_getD]
 ·rw[if_neg h,if_neg h]
  by_cases e:j=i
  ·subst e;rw[if_pos rfl,Nat.sub_self];rfl
  ·rw[if_neg e,show j-i=(j-i-1)+1 by omega,List.getElem?_cons_succ,List.getElem?_drop,<-List.getD_eq_getElem?_getD,show i+(j-i-1)=j-1 by omega]
theorem fh {n:Nat}{l:List Nat}(hl:l.length=n)(row to col v j:Nat)(hc:col<=n)(hj:j<=n):(eK l row to col v).getD j 0=if j=col then v else lh row to (l.getD (if j<col then j else j-1) 0):=by
 unfold eK;rw[uo _ _ _ _ (by rw[List.length_map];omega)]
 by_cases h:j<col
 ·rw[if_pos h,if_neg (by omega),if_pos h,pG _ _ _ (by omega)]
 ·rw[if_neg h]
  by_cases e:j=col
  ·rw[if_pos e,if_pos e]
  ·rw[if_neg e,if_neg e,if_neg h,pG _ _ _ (by omega)]
theorem jW(l:List Nat)(row to col v:Nat):(eK l row to col v).length=l.length+1:=by unfold eK;rw[vh,List.length_map]
def dn(row v:Nat):Nat:=if row<v then v-1 else v
theorem vR: ∀n,n<=7-> ∀col,col<n->((List.range n).filter λi=> !decide (i=col))=(List.range (n-1)).map λi=>if i<col then i else i+1:=by decide
theorem pe {n:Nat}{l:List Nat}(hl:l.length=n)(hn:n<=7){row col:Nat}(hc:col<n):dY l row col=(List.range (n-1)).map λi=>dn row (l.getD (if i<col then i else i+1) 0):=by
 unfold dY;rw[hl,vR n hn col hc,List.map_map];rfl
theorem kQ {n:Nat}{l:List Nat}(hl:l.length=n)(hn:n<=7){row col:Nat}(hc:col<n):(dY l row col).length=n-1:=by rw[pe hl hn hc,List.length_map,List.length_range]
theorem g7 {n:Nat}{l:List Nat}(hl:l.length=n)(hn:n<=7){row col i:Nat}(hc:col<n)(hi:i<n-1):(dY l row col).getD i 0=dn row (l.getD (if i<col then i else i+1) 0):=by
 rw[pe hl hn hc,List.getD_eq_getElem?_getD,List.getElem?_map,List.getElem?_range hi];rfl
theorem pz {n:Nat}{l:List Nat}(O:Ord n l)(hn:n<=6){row to col v:Nat}(hc:col<=n)(h:to=row\/to=row+1):dY (eK l row to col v) row col=l:=by
 have hl:=O.len
 have hp:(eK l row to col v).length=n+1:=by rw[jW,hl]
 refine hW (by rw[kQ hp (by omega) (by omega),hl];omega) λi hi=>?_
 rw[kQ hp (by omega) (by omega)] at hi
 rw[g7 hp (by omega) (by omega) hi,fh hl _ _ _ _ _ hc (by split<;>omega)]
 by_cases e:i<col
 ·rw[if_pos e,if_neg (by omega),if_pos e]
  unfold dn lh;split<;>split<;>(try split)<;>omega
 ·rw[if_neg e,if_neg (by omega),if_neg (by omega),Nat.add_sub_cancel]
  unfold dn lh;split<;>split<;>(try split)<;>omega
theorem p5 {n:Nat}{l:List Nat}(O:Ord n l)(hn:n<=6){row to col v:Nat}(hc:col<n)(h:(to=row/\v=row+1)\/(to=row+1/\v=row))(hv:l.getD col 0=v):eK (dY l row col) row to col v=l:=by
 have hl:=O.len
 have hj:=kQ hl (show n<=7 by omega) (row:=row) hc
 refine hW (by rw[jW,hj,hl];omega) λi hi=>?_
 rw[jW,hj] at hi;rw[fh hj _ _ _ _ _ (by omega) (by omega)]
 by_cases e:i=col
 ·rw[if_pos e,e,hv]
 ·rw[if_neg e]
  have hne:l.getD i 0≠v:=λz=>e (O.inj (by omega) hc (z.trans hv.symm))
  have key:l.getD (if(if i<col then i else i-1)<col then(if i<col then i else i-1) else(if i<col then i else i-1)+1) 0=l.getD i 0:=by
   by_cases e2:i<col
   ·rw[if_pos e2,if_pos e2]
   ·rw[if_neg e2,if_neg (by omega),show i-1+1=i by omega]
  rw[g7 hl (by omega) hc (by split<;>omega),key]
  unfold dn lh;split<;>split<;>(try split)<;>omega
theorem qP {p:Nat->Bool}{w:Nat}(hw:w<4)(h:p w=true)(u: ∀v,v<4->p v=true->v=w):(List.range 4).find? p=some w:=by
 cases e:(List.range 4).find? p with
 |none=>
  rw[List.find?_eq_none] at e;exact absurd h (by simpa using e w (List.mem_range.mpr hw))
 |some v=>
  have m:=List.mem_of_find?_eq_some e
  rw[u v (List.mem_range.mp m) (List.find?_some e)]
theorem jn(r x:List Nat)(c q w:Nat):dH r x c q w=true↔(r.getD (cv c w) 0=du q w/\x.getD (cv c w) 0=dB q w)/\x.getD (gZ c w) 0=du q w/\r.getD (gZ c w) 0≠dB q w:=by
 unfold dH;simp only[Bool.and_eq_true,decide_eq_true_eq,Bool.not_eq_true',decide_eq_false_iff_not]
theorem sV {r x:List Nat}{c q w v:Nat}(hw:w<4)(hv:v<4)(h:dH r x c q w=true)(h2:dH r x c q v=true):v=w:=by
 rw[jn] at h h2;obtain⟨⟨a1,a2⟩,a3,a4⟩:=h
 obtain⟨⟨b1,b2⟩,b3,b4⟩:=h2
 unfold cv du gZ dB at*;have:w=0\/w=1\/w=2\/w=3:=by omega
 have:v=0\/v=1\/v=2\/v=3:=by omega
 rcases ‹w=0\/_› with rfl|rfl|rfl|rfl<;>rcases ‹v=0\/_› with rfl|rfl|rfl|rfl<;>simp at* <;>omega
theorem Gn.put {n:Nat}{r x:List Nat}(G:Gn n r x){c w:Nat}(hc:c<n)(hw:w<4)(h6:n<6):Gn (n+1) (eK r (x.getD c 0) (dB (x.getD c 0) w) (cv c w) (du (x.getD c 0) w)) (eK x (x.getD c 0) (du (x.getD c 0) w) (cv c w) (dB (x.getD c 0) w)):=by
 refine⟨G.g.put hc hw h6,λi hi=>?_⟩
 have hf:cv c w<=n:=by unfold cv;omega
 rw[fh G.g.R.len _ _ _ _ _ hf (by omega),fh G.g.X.len _ _ _ _ _ hf (by omega)]
 have d:(dB (x.getD c 0) w=x.getD c 0/\du (x.getD c 0) w=x.getD c 0+1)\/(dB (x.getD c 0) w=x.getD c 0+1/\du (x.getD c 0) w=x.getD c 0):=by
  unfold dB du;have:w / 2=0\/w / 2=1:=by omega
  omega
 by_cases e:i=cv c w
 ·rw[if_pos e,if_pos e];omega
 ·rw[if_neg e,if_neg e]
  have hj:(if i<cv c w then i else i-1)<n:=by split<;>omega
  have q:=G.ne _ hj
  generalize (if i<cv c w then i else i-1)=j at hj q⊢
  unfold lh;split<;>split<;>(try split)<;>(try split)<;>omega
theorem nG {n:Nat}{r x:List Nat}(G:Gn n r x){c w:Nat}(hc:c<n)(hw:w<4):dH (eK r (x.getD c 0) (dB (x.getD c 0) w) (cv c w) (du (x.getD c 0) w)) (eK x (x.getD c 0) (du (x.getD c 0) w) (cv c w) (dB (x.getD c 0) w)) c (x.getD c 0) w=true:=by
 have hf:cv c w<=n:=by unfold cv;omega
 have hg:gZ c w<=n:=by unfold gZ;omega
 have hne:gZ c w≠cv c w:=by unfold cv gZ;omega
 have hback:(if gZ c w<cv c w then gZ c w else gZ c w-1)=c:=by unfold cv gZ;split<;>omega
 have d:(dB (x.getD c 0) w=x.getD c 0/\du (x.getD c 0) w=x.getD c 0+1)\/(dB (x.getD c 0) w=x.getD c 0+1/\du (x.getD c 0) w=x.getD c 0):=by
  unfold dB du;have:w / 2=0\/w / 2=1:=by omega
  omega
 rw[jn,fh G.g.R.len _ _ _ _ _ hf hf,fh G.g.X.len _ _ _ _ _ hf hf,fh G.g.R.len _ _ _ _ _ hf hg,fh G.g.X.len _ _ _ _ _ hf hg,if_pos rfl,if_pos rfl,if_neg hne,if_neg hne,hback];have q:=G.ne c hc
 refine⟨⟨rfl,rfl⟩,?_,?_⟩
 ·unfold lh;rw[if_pos rfl]
 ·unfold lh
  split<;>(try split)<;>omega
theorem Gn.tkn {n:Nat}{r x:List Nat}(G:Gn n r x){c q w:Nat}(hc:c+1<n)(hq:q+1<n)(hw:w<4)(h:dH r x c q w=true):Gn (n-1) (dY r q (cv c w)) (dY x q (cv c w)):=by
 refine⟨G.g.tkn hc hq hw h,λi hi=>?_⟩
 have hn:=G.g.hi
 have hf:cv c w<n:=by unfold cv;omega
 have hg:gZ c w<n:=by unfold gZ;omega
 have hne:gZ c w≠cv c w:=by unfold cv gZ;omega
 rw[jn] at h;obtain⟨⟨a1,a2⟩,a3,a4⟩:=h
 rw[g7 G.g.R.len (by omega) hf hi,g7 G.g.X.len (by omega) hf hi]
 have hj:(if i<cv c w then i else i+1)<n:=by split<;>omega
 have hjn:(if i<cv c w then i else i+1)≠cv c w:=by split<;>omega
 generalize (if i<cv c w then i else i+1)=j at hj hjn
 have q0:=G.ne j hj
 have x1:x.getD j 0≠dB q w:=λz=>hjn (G.g.X.inj hj hf (z.trans a2.symm))
 have r1:r.getD j 0≠du q w:=λz=>hjn (G.g.R.inj hj hf (z.trans a1.symm))
 have d:(dB q w=q/\du q w=q+1)\/(dB q w=q+1/\du q w=q):=by
  unfold dB du;have:w / 2=0\/w / 2=1:=by omega
  omega
 by_cases e:j=gZ c w
 ·subst e
  unfold dn;split<;>split<;>omega
 ·have x2:x.getD j 0≠du q w:=λz=>e (G.g.X.inj hj hg (z.trans a3.symm))
  unfold dn;split<;>split<;>omega
theorem Gn.rot {n:Nat}{r x:List Nat}(G:Gn n r x)(k:Int):Gn n (gv r k) (gv x k):=⟨G.g.rot k,λi hi=>by
 have h0:0<n:=by omega
 rw[jX _ _ (by rw[G.g.R.len];exact hi),jX _ _ (by rw[G.g.X.len];exact hi),G.g.R.len,G.g.X.len]
 exact G.ne _ (vp _ h0).1⟩
theorem Gn.rai {n:Nat}{r x:List Nat}(G:Gn n r x)(k:Int):Gn n (gl r k) (gl x k):=⟨G.g.rai k,λi hi e=>by
 have h0:0<n:=by omega
 rw[ma G.g.R.len k hi,ma G.g.X.len k hi] at e;exact G.ne i hi ((t9 h0 k).inj _ _ (G.g.R.get hi) (G.g.X.get hi) e)⟩
theorem Gn.tip {n:Nat}{r x:List Nat}(G:Gn n r x):Gn n (cz r) (cz x):=⟨G.g.tip,λi hi e=>by
 rw[iE G.g.R hi,iE G.g.X hi] at e;have a:=gD G.g.R hi
 have b:=gD G.g.X hi
 refine G.ne _ a.1 ?_
 rw[a.2,e,b.2]⟩
theorem yV {n:Nat}{r x:List Nat}(hr:r.length=n)(hx:x.length=n)(h: ∀i,i<n->r.getD i 0≠x.getD i 0){c:Nat}(hc:c+1<n): ∀i,i<n->(ki r c (c+1)).getD i 0≠(ki x c (c+1)).getD i 0:=λi hi=>by
 rw[gC (by omega) (by omega),gC (by omega) (by omega)]
 split
 ·exact h _ (by omega)
 ·split
  ·exact h _ (by omega)
  ·exact h _ hi
theorem qf {n:Nat}{r x:List Nat}(hr:r.length=n){c:Int}(h:iC r x c=true): ∃c':Nat,c=c'/\c'+1<n/\qK r x c'=true:=by
 unfold iC at h;rw[Bool.and_eq_true,Bool.and_eq_true,decide_eq_true_eq,decide_eq_true_eq] at h;exact⟨c.toNat,by omega,by omega,h.2⟩
theorem s0 {n:Nat}{r x:List Nat}(hr:r.length=n){c:Nat}(hc:c+1<n)(h:qK r x c=true):iC r x c=true:=by
 unfold iC;rw[Bool.and_eq_true,Bool.and_eq_true,decide_eq_true_eq,decide_eq_true_eq];exact⟨⟨by omega,by omega⟩,by rw[Int.toNat_natCast];exact h⟩
theorem Gn.chg {n:Nat}{r x:List Nat}(G:Gn n r x){c:Int}(h:iC r x c=true):Gn n (ki r c.toNat (c.toNat+1)) (ki x c.toNat (c.toNat+1)):=by
 obtain⟨c,rfl,hc,hm⟩:=qf G.g.R.len h
 rw[Int.toNat_natCast];refine⟨?_,yV G.g.R.len G.g.X.len G.ne hc⟩
 have:=G.g.chg h
 rw[Int.toNat_natCast] at this;exact this
def Mo.bk(r x:List Nat):Mo->Mo
 | .cols k=>.cols (-k)
 | .rows k=>.rows (-k)
 | .tip=>.tip
 | .swap c=>.swap c
 | .cross c=>.cross c
 | .put c w=>.take c (x.getD c.toNat 0:Nat)
 | .take c q=>.put c ((ju r x c q).getD 0:Nat)
inductive Lad (r x:List Nat) (b:Mo) (o:Except Ex D):Prop
 |ok {n:Nat} {r' x':List Nat} (G:Gn n r' x') (e:o=.ok (aC r' x')) (k:b.e n r' x'=.ok (aC r x))
 |no (e:o=.error vm)
 |too (e:o=.error wP)
theorem Ay {n:Nat}{r x:List Nat}(G:Gn n r x)(m:Mo):Lad r x (m.bk r x) (m.e n r x):=by
 have h0:0<n:=by have:=G.g.lo;omega
 have hn:=G.g.hi
 have hr:=G.g.R.len
 have hx:=G.g.X.len
 cases m with
 |cols k=>
  refine .ok (G.rot k) rfl ?_
  show Except.ok (aC (gv (gv r k) (-k)) (gv (gv x k) (-k)))=_;rw[p9 G.g.R h0,p9 G.g.X h0]
 |rows k=>
  refine .ok (G.rai k) rfl ?_
  show Except.ok (aC (gl (gl r k) (-k)) (gl (gl x k) (-k)))=_;rw[pi G.g.R h0,pi G.g.X h0]
 |tip=>
  refine .ok G.tip rfl ?_
  show Except.ok (aC (cz (cz r)) (cz (cz x)))=_;rw[hJ G.g.R,hJ G.g.X]
 |swap c=>
  show Lad r x (.swap c) (oz r x c);unfold oz
  by_cases h:iC r x c=true
  ·refine .ok (G.chg h) (if_pos h) ?_
   obtain⟨c,rfl,hc,hm⟩:=qf hr h
   show oz _ _ _=_;unfold oz;rw[Int.toNat_natCast,if_pos (s0 (G.g.R.exM (a:=c) (b:=c+1) (by omega) hc).len hc ((pO G.g hc).trans hm)),lz hr hc,lz hx hc]
  ·exact .no (if_neg h)
 |cross c=>
  show Lad r x (.cross c) (og r x c);unfold og
  by_cases h:iC (cz r) (cz x) c=true
  ·have T:=G.tip
   refine .ok (T.chg h).tip (if_pos h) ?_
   obtain⟨c,rfl,hc,hm⟩:=qf T.g.R.len h
   have E:=T.chg h
   rw[Int.toNat_natCast] at E;show og _ _ _=_;unfold og;rw[Int.toNat_natCast,hJ E.g.R,hJ E.g.X,if_pos (s0 E.g.R.len hc ((pO T.g hc).trans hm)),lz T.g.R.len hc,lz T.g.X.len hc,hJ G.g.R,hJ G.g.X]
  ·exact .no (if_neg h)
 |put c w=>
  show Lad r x _ (kM n r x c w);unfold kM
  by_cases hg:(decide (0<=c)&&decide (c<n))=true/\(decide (0<=w)&&decide (w<4))=true
  ·rw[if_pos hg]
   rw[Bool.and_eq_true,Bool.and_eq_true,decide_eq_true_eq,decide_eq_true_eq,decide_eq_true_eq,decide_eq_true_eq] at hg
   by_cases h6:n<6
   ·obtain⟨c,rfl⟩: ∃c':Nat,c=c':=⟨c.toNat,by omega⟩
    obtain⟨w,rfl⟩: ∃w':Nat,w=w':=⟨w.toNat,by omega⟩
    have hc:c<n:=by omega
    have hw:w<4:=by omega
    rw[Int.toNat_natCast,Int.toNat_natCast];have P:=G.put hc hw h6
    refine .ok P (if_pos h6) ?_
    show li _ _ (c:Int) ((x.getD (c:Int).toNat 0:Nat):Int)=_;have hq:=G.g.X.get hc
    have wy:ju (eK r (x.getD c 0) (dB (x.getD c 0) w) (cv c w) (du (x.getD c 0) w)) (eK x (x.getD c 0) (du (x.getD c 0) w) (cv c w) (dB (x.getD c 0) w)) (c:Int) ((x.getD c 0:Nat):Int)=some w:=by
     unfold ju wo;rw[if_pos ?_]
     ·rw[Int.toNat_natCast,Int.toNat_natCast]
      exact qP hw (nG G hc hw) λv hv h=>sV hw hv (nG G hc hw) h
     ·rw[Bool.and_eq_true,Bool.and_eq_true,decide_eq_true_eq,decide_eq_true_eq,decide_eq_true_eq,decide_eq_true_eq,jW,hr]
      omega
    unfold li;rw[Int.toNat_natCast,wy];dsimp only;rw[Int.toNat_natCast];have d:(dB (x.getD c 0) w=x.getD c 0/\du (x.getD c 0) w=x.getD c 0+1)\/(dB (x.getD c 0) w=x.getD c 0+1/\du (x.getD c 0) w=x.getD c 0):=by
     unfold dB du;have:w / 2=0\/w / 2=1:=by omega
     omega
    have hf:cv c w<=n:=by unfold cv;omega
    rw[pz G.g.R (by omega) hf (by omega),pz G.g.X (by omega) hf (by omega)]
   ·exact .too (if_neg h6)
  ·exact .no (if_neg hg)
 |take c q=>
  show Lad r x (.put c ((ju r x c q).getD 0:Nat)) (li r x c q);unfold li;cases e:ju r x c q with
  |none=>exact .no rfl
  |some w=>
   obtain⟨c,q,rfl,rfl,hc,hq,hw,h⟩:=ku G.g e
   rw[Int.toNat_natCast,Int.toNat_natCast];refine .ok (G.tkn hc hq hw h) rfl ?_
   rw[jn] at h;obtain⟨⟨a1,a2⟩,a3,a4⟩:=h
   have hf:cv c w<n:=by unfold cv;omega
   have d:(dB q w=q/\du q w=q+1)\/(dB q w=q+1/\du q w=q):=by
    unfold dB du;have:w / 2=0\/w / 2=1:=by omega
    omega
   have xc:(dY x q (cv c w)).getD c 0=q:=by
    rw[g7 hx (by omega) hf (by omega),show(if c<cv c w then c else c+1)=gZ c w by unfold cv gZ;split<;>omega,a3]
    unfold dn;split<;>omega
   show kM (n-1) _ _ (c:Int) (w:Int)=_;unfold kM;rw[if_pos ⟨by rw[Bool.and_eq_true,decide_eq_true_eq,decide_eq_true_eq];omega,by rw[Bool.and_eq_true,decide_eq_true_eq,decide_eq_true_eq];omega⟩,if_pos (by omega),Int.toNat_natCast,Int.toNat_natCast,xc,p5 G.g.R (by omega) hf (by omega) a1,p5 G.g.X (by omega) hf (by omega) a2]
set_option maxHeartbeats 1000000
def mY:FS:=
 ay (gA 2 (aN 0 1 dE (cL (aa (au (.int 4)) (ah)))))
 (ay (gA 3 (lE bp (pu (au (.int 1))) (aN 0 1 dE (cL (aa (ao dM (ai 1) (au (.int 1))) (ah))))))
 (ay (gA 4 (aN 0 1 h8 (cL (aa (ai 1) (ah)))))
 (ay (qr 5 (aN 0 1 h8 (cL (aa (ai 1) (ah)))))
 (ay (dC (bq (ao iU (ai 2) (au (.int 1)))) (ay (ba 4 (vt (ai 1)))
 (eS 5 (bT 1 (iW (ai 4)) (gN 8) (iV) (ao bv (ao bp (ai 8) (ai 3)) (ai 1))))) (skip))
 (ay (iK (cL (dR (aa (ai 1) (ah)))) (gN 6) (ay (ba 7 (ao bv (ao bp (ai 6) (au (.int 1))) (ai 1)))
 (dC (bq (ao iU (ao aQ (cV 5) (ai 6)) (ao aQ (ai 4) (ai 6)))) (cr (gT 2 (cQ (db 5 (ai 6)) (cQ (db 5 (ai 7)) (iQ)))) (pu (aZ (aa (ao aQ (cV 5) (ai 7)) (aa (ao aQ (cV 5) (ai 6)) (ah)))))) (skip))))
 (aI (aZ (aa (aj cj (aa (ai 4) (ah))) (aa (aj cj (aa (cV 5) (ah))) (ah))))))))))
def nq:List D->List D->Option (D×List D):=pS .s 8 mY
theorem qO {N:Nat}{a b:Int}(B:Bag N a b){n:Nat}(h2:2<=n)(h6:n<=6)(hN:N<=800000000): ∃(r x:List Nat) (a' b':Int),nq (aM a b) [nI n]=some (aC r x,aM a' b')/\Sq n r x/\Bag (N+2*n+2) a' b':=by
 obtain⟨p,a1,b1,e1,B1,p0,p1⟩:=iI (m:=4) B (by omega) (by decide) (by decide)
 obtain⟨q,a2,b2,e2,B2,q0,q1⟩:=iI (m:=(n:Int) -1) B1 (by omega) (by omega) (Nat.lt_of_lt_of_le (show((n:Int) -1).natAbs<10^10 by omega) (by decide))
 obtain⟨r,a3,b3,e3,or,B3⟩:=pA B2 (n:=n) (by omega) (by omega)
 obtain⟨x,a4,b4,e4,ox,B4⟩:=pA B3 (n:=n) (by omega) (by omega)
 obtain⟨q',rfl⟩: ∃j:Nat,q=(j:Int):=⟨q.toNat,by omega⟩
 have r0:mJ 8 (aM a b) [nI n]=[.arg (aM a b),.v (nI n),.no,.no,.no,.no,.no,.no]:=rfl
 have s1:gA 2 (aN 0 1 dE (cL (aa (au (.int 4)) (ah)))) [.arg (aM a b),.v (nI n),.no,.no,.no,.no,.no,.no]=.nx [.arg (aM a1 b1),.v (nI n),.v (.int p),.no,.no,.no,.no,.no]:=
  (gG (bu (i:=0) (n:=1) (b0:=aM a b) (ds:=[.int 4]) rfl (cC rfl) rfl rfl e1)).trans rfl
 have s2:gA 3 (lE bp (pu (au (.int 1))) (aN 0 1 dE (cL (aa (ao dM (ai 1) (au (.int 1))) (ah))))) [.arg (aM a1 b1),.v (nI n),.v (.int p),.no,.no,.no,.no,.no]=.nx [.arg (aM a2 b2),.v (nI n),.v (.int p),.v (nI (q'+1)),.no,.no,.no,.no]:=
  (gG (rn (gK rfl) (bu (i:=0) (n:=1) (b0:=aM a1 b1) (ds:=[.int ((n:Int) -1)]) rfl (cC rfl) rfl rfl e2) (show bp (.int 1) (nI q')=some (nI (q'+1)) by rw[fk];simp;omega))).trans rfl
 have s3:gA 4 (aN 0 1 h8 (cL (aa (ai 1) (ah)))) [.arg (aM a2 b2),.v (nI n),.v (.int p),.v (nI (q'+1)),.no,.no,.no,.no]=.nx [.arg (aM a3 b3),.v (nI n),.v (.int p),.v (nI (q'+1)),.v (.lst (r.map nI)),.no,.no,.no]:=
  (gG (bu (i:=0) (n:=1) (b0:=aM a2 b2) (ds:=[nI n]) rfl (cC rfl) rfl rfl e3)).trans rfl
 have s4:qr 5 (aN 0 1 h8 (cL (aa (ai 1) (ah)))) [.arg (aM a3 b3),.v (nI n),.v (.int p),.v (nI (q'+1)),.v (.lst (r.map nI)),.no,.no,.no]=.nx [.arg (aM a4 b4),.v (nI n),.v (.int p),.v (nI (q'+1)),.v (.lst (r.map nI)),.own (x.map nI),.no,.no]:=
  (vH (bu (i:=0) (n:=1) (b0:=aM a3 b3) (ds:=[nI n]) rfl (cC rfl) rfl rfl e4)).trans rfl
 have s5: ∃(r' x':List Nat),dC (bq (ao iU (ai 2) (au (.int 1)))) (ay (ba 4 (vt (ai 1)))
  (eS 5 (bT 1 (iW (ai 4)) (gN 8) (iV) (ao bv (ao bp (ai 8) (ai 3)) (ai 1))))) (skip) [.arg (aM a4 b4),.v (nI n),.v (.int p),.v (nI (q'+1)),.v (.lst (r.map nI)),.own (x.map nI),.no,.no]=.nx [.arg (aM a4 b4),.v (nI n),.v (.int p),.v (nI (q'+1)),.v (.lst (r'.map nI)),.own (x'.map nI),.no,.no]/\Ord n r'/\Ord n x':=by
  unfold dC bq;rw[az (x:=.int p) (y:=.int 1) rfl rfl,ja (by rw[fM];omega),jh]
  by_cases hp:p=1
  ·refine⟨List.range n,(List.range n).map λi=>(i+(q'+1)) % n,?_,⟨.refl _⟩,v5 n h2 h6 (q'+1) (by omega) (by omega)⟩
   rw[decide_eq_true hp];simp only[pN];rw[aA ((cg (xl (n:=n) (by omega) (ai 1) _ rfl)).trans rfl)]
   refine(jZ (fY (ds:=(List.range n).map nI) (ys:=(List.range n).map λi=>nI ((i+(q'+1)) % n)) rfl (by simp;omega) (fQ _ λi hi=>⟨_,rfl,?_⟩))).trans ?_
   ·exact(az ((az (x:=nI i) (y:=nI (q'+1)) rfl rfl).trans (yF _ _)) (y:=nI n) rfl).trans (u8 (by omega))
   ·rw[List.map_map];rfl
  ·refine⟨r,x,?_,or,ox⟩
   rw[decide_eq_false hp];simp only[pN,skip]
 obtain⟨r',x',s5,or',ox'⟩:=s5
 obtain⟨x2,t6,t7,lp,ox2,hne⟩:=xr (aM a4 b4) (.int p) (nI (q'+1)) or' h2 n 0 x' .no .no (by omega) ox' (λi h=>absurd h (Nat.not_lt_zero _))
 have s6:iK (cL (dR (aa (ai 1) (ah)))) (gN 6) rY [.arg (aM a4 b4),.v (nI n),.v (.int p),.v (nI (q'+1)),.v (.lst (r'.map nI)),.own (x'.map nI),.no,.no]=.nx [.arg (aM a4 b4),.v (nI n),.v (.int p),.v (nI (q'+1)),.v (.lst (r'.map nI)),.own (x2.map nI),t6,t7]:=by
  unfold iK;rw[cC (im (n:=n) rfl (by omega))]
  dsimp only;rw[List.range_eq_range'];exact lp
 refine⟨r',x2,a4,b4,?_,⟨or',ox2,hne⟩,by rw[show N+2*n+2=N+1+1+n+n by omega];exact B4⟩
 unfold nq pS mY;rw[r0,aA s1,aA s2,aA s3,aA s4,aA s5];rw[aA s6];have s7:aI (aZ (aa (aj cj (aa (ai 4) (ah))) (aa (aj cj (aa (cV 5) (ah))) (ah)))) [.arg (aM a4 b4),.v (nI n),.v (.int p),.v (nI (q'+1)),.v (.lst (r'.map nI)),.own (x2.map nI),t6,t7]=.rt (aC r' x2) [.arg (aM a4 b4),.v (nI n),.v (.int p),.v (nI (q'+1)),.v (.lst (r'.map nI)),.own (x2.map nI),t6,t7]:=by
  unfold aI;rw[bO (ds:=[aH r',aH x2]) rfl (by simp)]
 rw[s7];rfl
theorem vb {kd:Kd}{n:Nat}{t:FS}{bs ds b':List D}{d:D}{ρ:aL}(h:t (mJ n bs ds)=.rt d ρ)(h2:lS ρ=some b'):pS kd n t bs ds=some (d,b'):=by unfold pS;rw[h];dsimp only;rw[h2];rfl
theorem o5 {g:FG}{b:FS}{P:Nat->aL->Prop}: ∀(l:List D) (j:Nat),(∀d∈l,∀i ρ,i<j+l.length->P i ρ-> ∃ρ1 ρ2,g d ρ=some ρ1/\b ρ1=.nx ρ2/\P (i+1) ρ2)-> ∀ρ,P j ρ-> ∃ρ',fz g b l ρ=.nx ρ'/\P (j+l.length) ρ'
 | [],j,_,ρ,p=>⟨ρ,rfl,p⟩
 |d::l,j,h,ρ,p=>by
  obtain⟨ρ1,ρ2,h1,h2,p2⟩:=h d (List.mem_cons_self ..) j ρ (by rw[List.length_cons];omega) p
  obtain⟨ρ',e,p'⟩:=o5 l (j+1) (λd' hd i ρ hi=>h d' (List.mem_cons_of_mem _ hd) i ρ (by rw[List.length_cons];omega)) ρ2 p2
  exact⟨ρ',(kP h1 h2).trans e,by rw[List.length_cons,Nat.add_comm l.length 1,<-Nat.add_assoc];exact p'⟩
theorem yw(r x:List Nat):dw (aC r x)<=32:=by
 show dw (.tup [.tup (r.map nI),.tup (x.map nI)])<=32;have e: ∀l:List Nat,dw (.tup (l.map nI))=1:=λl=>by unfold dw;rw[jE]
 unfold dw dh dh dh;rw[e,e];omega
set_option maxHeartbeats 4000000
theorem xD:fI=pV:=rfl
theorem zw:fP=gm:=rfl
theorem sk(m:Mo):bQ [m.d]=some (.bl true):=by
 cases m<;>rfl
theorem xZ {n:Nat}{r x:List Nat}(G:Gd n r x)(m:Mo):(∀d,m.e n r x=.ok d->bP [aC r x,m.d]=some d)/\(∀z,m.e n r x=.error z->(z=vm\/z=wP)->bP [aC r x,m.d]=some .non):=by
 have e:=pF G m
 rw[<-xD] at e;refine⟨λd h=>?_,λz h hz=>?_⟩
 ·rw[h] at e
  exact jM (kd:=.s) (n:=3) (t:=iy) ⟨[.v (aC r x),.v m.d,.no],we (en ((fj (ds:=[aC r x,m.d]) (gE rfl) rfl).trans e))⟩
 ·rw[h] at e
  have k1:exN.contains z.x=true:=by rcases hz with rfl|rfl<;>decide+kernel
  have k2:((["NoMove","TooMany"]:List Str).any λy=>lq z.x y)=true:=by rcases hz with rfl|rfl<;>decide+kernel
  exact jM (kd:=.s) (n:=3) (t:=iy) ⟨_,xa (eB ((fj (ds:=[aC r x,m.d]) (gE rfl) rfl).trans e)) k1 k2 (aV rfl)⟩
theorem uK {n:Nat}{r x:List Nat}(G:Gn n r x)(m:Mo){d:D}(h:m.e n r x=.ok d):dS [aC r x,m.d]=some (m.bk r x).d:=by
 have hr:=G.g.R.len;have hx:=G.g.X.len
 cases m with
 |cols k=>rfl
 |rows k=>rfl
 |tip=>rfl
 |swap c=>rfl
 |cross c=>rfl
 |put c w=>
  have h:kM n r x c w=.ok d:=h
  unfold kM at h;split at h
  ·rename_i hg
   rw[Bool.and_eq_true,Bool.and_eq_true,decide_eq_true_eq,decide_eq_true_eq,decide_eq_true_eq,decide_eq_true_eq] at hg;obtain⟨c,rfl⟩: ∃c':Nat,c=c':=⟨c.toNat,by omega⟩
   have hc:c<x.length:=by omega
   apply cI (kd:=.s) (n:=4) (t:=fo)
   unfold fo;refine(aA (ρ':=[.v (aC r x),.v (Mo.put c w).d,.v (.str "put"),.no]) rfl).trans ?_
   refine(aA (ρ':=[.v (aC r x),.v (Mo.put c w).d,.v (.str "put"),.no]) (bw rfl)).trans ?_
   have s3:ay (ba 3 (ao aQ (ai 0) (au (.int 1)))) (aI (aZ (aa (au (.str "take")) (aa (ao aQ (ai 1) (au (.int 1))) (aa (ao aQ (ai 3) (ao aQ (ai 1) (au (.int 1)))) (ah)))))) [.v (aC r x),.v (Mo.put c w).d,.v (.str "put"),.no]=.rt (.tup [.str "take",nI c,nI (x.getD c 0)]) [.v (aC r x),.v (Mo.put c w).d,.v (.str "put"),.v (aH x)]:=
    (aA (ρ':=[.v (aC r x),.v (Mo.put c w).d,.v (.str "put"),.v (aH x)]) rfl).trans (aV (bO (am rfl (am rfl (am ((az (x:=aH x) (y:=nI c) rfl rfl).trans (fG hc)) rfl))) (by simp)))
   refine(iD ((ie rfl).trans s3)).trans ?_
   rfl
  ·cases h
 |take c q=>
  have h:li r x c q=.ok d:=h
  unfold li at h;cases e:ju r x c q with
  |none=>rw[e] at h;cases h
  |some w=>
   apply cI (kd:=.s) (n:=4) (t:=fo)
   unfold fo;refine(aA (ρ':=[.v (aC r x),.v (Mo.take c q).d,.v (.str "take"),.no]) rfl).trans ?_
   refine(aA (ρ':=[.v (aC r x),.v (Mo.take c q).d,.v (.str "take"),.no]) (bw rfl)).trans ?_
   refine(aA (ρ':=[.v (aC r x),.v (Mo.take c q).d,.v (.str "take"),.no]) (bw rfl)).trans ?_
   have ew:gm [aC r x,.int c,.int q]=some (nI w):=(rh G.g c q).trans (by rw[e];rfl)
   rw[<-zw] at ew;have hb:(Mo.bk r x (.take c q)).d=.tup [.str "put",.int c,nI w]:=by
    show D.tup [.str "put",.int c,.int (((ju r x c q).getD 0:Nat):Int)]=_;rw[e];rfl
   rw[hb];refine(iD (ie rfl |>.trans (aV (bO (am rfl (am rfl (am ((ci (ds:=[aC r x,.int c,.int q]) rfl rfl).trans ew) rfl))) (by simp))))).trans ?_
   rfl
theorem vN {n:Nat}{r x:List Nat}(G:Gn n r x)(m:Mo){d:D}(h:m.e n r x=.ok d):fN [aC r x,m.d,(m.bk r x).d]=some (m.bk r x).d:=by
 have hr:=G.g.R.len;have hx:=G.g.X.len
 cases m with
 |cols k=>
  show _=some (D.tup [.str "columns",.int (-k)]);rw[show(-k)=0-k by omega];rfl
 |rows k=>
  show _=some (D.tup [.str "rows",.int (-k)]);rw[show(-k)=0-k by omega];rfl
 |tip=>rfl
 |swap c=>rfl
 |cross c=>rfl
 |put c w=>
  have h:kM n r x c w=.ok d:=h
  unfold kM at h;split at h
  ·rename_i hg
   rw[Bool.and_eq_true,Bool.and_eq_true,decide_eq_true_eq,decide_eq_true_eq,decide_eq_true_eq,decide_eq_true_eq] at hg;obtain⟨c,rfl⟩: ∃c':Nat,c=c':=⟨c.toNat,by omega⟩
   have hc:c<x.length:=by omega
   generalize hb:(Mo.bk r x (.put c w)).d=b
   apply cI (kd:=.s) (n:=3) (t:=kz) (ρ:=[.v (aC r x),.v (Mo.put c w).d,.v b])
   unfold kz;refine(aA (ρ':=[.v (aC r x),.v (Mo.put c w).d,.v b]) (bw rfl)).trans ?_
   refine(iD (ie rfl |>.trans (aV (bO (ds:=[.str "take",nI c,nI (x.getD c 0)]) (am rfl (am rfl (am ((az (x:=aH x) (y:=nI c) rfl rfl).trans (fG hc)) rfl))) (by simp))))).trans ?_
   rw[<-hb];rfl
  ·cases h
 |take c q=>
  have h:li r x c q=.ok d:=h
  unfold li at h;cases e:ju r x c q with
  |none=>rw[e] at h;cases h
  |some w=>
   obtain⟨c,q,rfl,rfl,hc,hq,hw,_⟩:=ku G.g e
   have hb:(Mo.bk r x (.take c q)).d=.tup [.str "put",nI c,nI w]:=by
    show D.tup [.str "put",nI c,.int (((ju r x c q).getD 0:Nat):Int)]=_;rw[e];rfl
   rw[hb];have:w=0\/w=1\/w=2\/w=3:=by omega
   rcases this with rfl|rfl|rfl|rfl<;>rfl
theorem A2(a:Int): ∃b:Int,fW [.int 0,.int a]=some (.int b):=⟨_,rfl⟩
theorem uY {N:Nat}{a b:Int}(B:Bag N a b)(hN:N<=800000000){n:Nat}{r x:List Nat}(G:Gd n r x): ∃(m:Mo) (a' b':Int),eV (aM a b) [aC r x]=some (m.d,aM a' b')/\Bag (N+3) a' b':=by
 have hlo:=G.lo
 have hhi:=G.hi
 obtain⟨w,a1,b1,e1,B1,w0,w1⟩:=iI (m:=10) B (by omega) (by decide) (by decide)
 obtain⟨d1,a2,b2,e2,B2,d10,d11⟩:=iI (m:=(n:Int)) B1 (by omega) (by omega) (Nat.lt_trans (show _<9 by omega) (by decide))
 obtain⟨d2,a3,b3,e3,B3,d20,d21⟩:=iI (m:=(n:Int)) B2 (by omega) (by omega) (Nat.lt_trans (show _<9 by omega) (by decide))
 obtain⟨wn,hwn,rfl⟩: ∃wn:Nat,wn<10/\w=wn:=⟨w.toNat,by omega,by omega⟩
 obtain⟨c,rfl⟩: ∃c':Nat,d1=c':=⟨d1.toNat,by omega⟩
 obtain⟨q,rfl⟩: ∃q':Nat,d2=q':=⟨d2.toNat,by omega⟩
 have hc:c<r.length:=by rw[G.R.len];omega
 have hc2:c<x.length:=by rw[G.X.len];omega
 have m4:bv (nI q) (.int 4)=some (nI (q % 4)):=u8 (n:=4) (by decide)
 have m2:bv (nI q) (.int 2)=some (nI (q % 2)):=u8 (n:=2) (by decide)
 obtain⟨p1,hp1⟩:=A2 (((x.getD c 0:Nat):Int) - ((q % 2:Nat):Int))
 obtain⟨p2,hp2⟩:=A2 ((c:Int) - ((q % 2:Nat):Int))
 obtain⟨p3,hp3⟩:=A2 (((x.getD c 0:Nat):Int) -1)
 let L7:List D:=[(Mo.cols ((c:Int) -2)).d,(Mo.rows ((q:Int) -2)).d,Mo.tip.d,(Mo.swap c).d,(Mo.cross q).d,(Mo.swap q).d,(Mo.put c (q % 4:Nat)).d]
 let L9:List D:=L7++[(Mo.take c p1).d,(Mo.take p2 p3).d]
 let L10:List D:=L9++[(Mo.take c (r.getD c 0:Nat)).d]
 obtain⟨m,hm⟩: ∃m:Mo,aQ (.lst L10) (nI wn)=some m.d:=by
  have:wn=0\/wn=1\/wn=2\/wn=3\/wn=4\/wn=5\/wn=6\/wn=7\/wn=8\/wn=9:=by omega
  rcases this with h|h|h|h|h|h|h|h|h|h<;>subst h
  ·exact⟨_,rfl⟩
  ·exact⟨_,rfl⟩
  ·exact⟨_,rfl⟩
  ·exact⟨_,rfl⟩
  ·exact⟨_,rfl⟩
  ·exact⟨_,rfl⟩
  ·exact⟨_,rfl⟩
  ·exact⟨_,rfl⟩
  ·exact⟨_,rfl⟩
  ·exact⟨_,rfl⟩
 refine⟨m,a3,b3,?_,B3⟩
 refine vb (kd:=.s) (n:=7) (t:=jJ) (ρ:=[.arg (aM a3 b3),.v (aC r x),.v (nI n),.v (nI wn),.v (nI c),.v (nI q),.v (.lst L9)]) ?_ rfl
 unfold jJ;refine(aA (ρ':=[.arg (aM a b),.v (aC r x),.v (nI n),.no,.no,.no,.no]) ((cg (by rw[<-G.R.len];exact fe r _ _ rfl)).trans rfl)).trans ?_
 refine(aA (ρ':=[.arg (aM a1 b1),.v (aC r x),.v (nI n),.v (nI wn),.no,.no,.no]) ((gG (bu (i:=0) (n:=1) (b0:=aM a b) (ds:=[.int 10]) rfl (cC rfl) rfl rfl e1)).trans rfl)).trans ?_
 refine(aA (ρ':=[.arg (aM a2 b2),.v (aC r x),.v (nI n),.v (nI wn),.v (nI c),.no,.no]) ((gG (bu (i:=0) (n:=1) (b0:=aM a1 b1) (ds:=[nI n]) rfl (cC rfl) rfl rfl e2)).trans rfl)).trans ?_
 refine(aA (ρ':=[.arg (aM a3 b3),.v (aC r x),.v (nI n),.v (nI wn),.v (nI c),.v (nI q),.no]) ((gG (bu (i:=0) (n:=1) (b0:=aM a2 b2) (ds:=[nI n]) rfl (cC rfl) rfl rfl e3)).trans rfl)).trans ?_
 have t2: ∀(s:Str) (f:FE) (k:Int) (ρ:aL),f ρ=some (.int k)->aZ (aa (au (.str s)) (aa f (ah))) ρ=some (.tup [.str s,.int k]):=λs f k ρ h=>bO (am rfl (am h rfl)) (by simp)
 have t3: ∀(s:Str) (f g:FE) (k l:Int) (ρ:aL),f ρ=some (.int k)->g ρ=some (.int l)->aZ (aa (au (.str s)) (aa f (aa g (ah)))) ρ=some (.tup [.str s,.int k,.int l]):=λs f g k l ρ h h2=>bO (am rfl (am h (am h2 rfl))) (by simp)
 have cat: ∀xs ys:List D,xs.length+ys.length<=900->kY (.lst xs) (.lst ys)=some (.lst (xs++ys)):=λxs ys h=>if_pos (Nat.le_trans h (by decide))
 let ρ6 (s:Sl):aL:=[.arg (aM a3 b3),.v (aC r x),.v (nI n),.v (nI wn),.v (nI c),.v (nI q),s]
 have xc: ∀s,ao aQ (ao aQ (ai 1) (au (.int 1))) (ai 4) (ρ6 s)=some (nI (x.getD c 0)):=λs=>(az (x:=aH x) (y:=nI c) rfl rfl).trans (fG hc2)
 have rc: ∀s,ao aQ (ao aQ (ai 1) (au (.int 0))) (ai 4) (ρ6 s)=some (nI (r.getD c 0)):=λs=>(az (x:=aH r) (y:=nI c) rfl rfl).trans (fG hc)
 have q2: ∀s,ao bv (ai 5) (au (.int 2)) (ρ6 s)=some (nI (q % 2)):=λs=>(az (x:=nI q) (y:=.int 2) rfl rfl).trans m2
 have q4: ∀s,ao bv (ai 5) (au (.int 4)) (ρ6 s)=some (nI (q % 4)):=λs=>(az (x:=nI q) (y:=.int 4) rfl rfl).trans m4
 have s7:ba 6 (eG (aa (aZ (aa (au (.str "columns")) (aa (ao dM (ai 4) (au (.int 2))) (ah)))) (aa (aZ (aa (au (.str "rows")) (aa (ao dM (ai 5) (au (.int 2))) (ah)))) (aa (aZ (aa (au (.str "tip")) (ah))) (aa (aZ (aa (au (.str "swap")) (aa (ai 4) (ah)))) (aa (aZ (aa (au (.str "cross")) (aa (ai 5) (ah)))) (aa (aZ (aa (au (.str "swap")) (aa (ai 5) (ah)))) (aa (aZ (aa (au (.str "put")) (aa (ai 4) (aa (ao bv (ai 5) (au (.int 4))) (ah))))) (ah))))))))) (ρ6 .no)=.nx (ρ6 (.v (.lst L7))):=
  (cg (oG (ds:=L7) (am (t2 _ _ _ _ rfl) (am (t2 _ _ _ _ rfl) (am rfl (am (t2 _ _ _ _ rfl) (am (t2 _ _ _ _ rfl) (am (t2 _ _ _ _ rfl) (am (t3 _ _ _ _ _ _ rfl (q4 _)) rfl))))))) (by show 7<=1000;omega))).trans rfl
 refine(aA s7).trans ?_
 have mxF: ∀(f:FE) (ρ:aL) (k l:Int),f ρ=some (.int k)->fW [.int 0,.int k]=some (.int l)->aj fW (aa (au (.int 0)) (aa f (ah))) ρ=some (.int l):=λf ρ k l h e=>(bL (ds:=[.int 0,.int k]) (am rfl (am h rfl))).trans e
 have s9:ba 6 (ao kY (ai 6) (eG (aa (aZ (aa (au (.str "take")) (aa (ai 4) (aa (aj fW (aa (au (.int 0)) (aa (ao dM (ao aQ (ao aQ (ai 1) (au (.int 1))) (ai 4)) (ao bv (ai 5) (au (.int 2)))) (ah)))) (ah))))) (aa (aZ (aa (au (.str "take")) (aa (aj fW (aa (au (.int 0)) (aa (ao dM (ai 4) (ao bv (ai 5) (au (.int 2)))) (ah)))) (aa (aj fW (aa (au (.int 0)) (aa (ao dM (ao aQ (ao aQ (ai 1) (au (.int 1))) (ai 4)) (au (.int 1))) (ah)))) (ah))))) (ah))))) (ρ6 (.v (.lst L7)))=.nx (ρ6 (.v (.lst L9))):=
  (cg ((az (x:=.lst L7) rfl (oG (ds:=[(Mo.take c p1).d,(Mo.take p2 p3).d]) (am (t3 _ _ _ _ _ _ rfl (mxF _ _ _ _ ((az (xc _) (q2 _)).trans (fm _ _)) hp1)) (am (t3 _ _ _ _ _ _ (mxF _ _ _ _ ((az (x:=nI c) rfl (q2 _)).trans (fm _ _)) hp2) (mxF _ _ _ _ ((az (xc _) (y:=.int 1) rfl).trans (fm _ _)) hp3)) rfl)) (by show 2<=1000;omega))).trans (cat _ _ (by show 7+2<=900;omega)))).trans rfl
 refine(aA s9).trans ?_
 exact aV ((az ((az (x:=.lst L9) rfl (oG (ds:=[(Mo.take c (r.getD c 0:Nat)).d]) (am (t3 _ _ _ _ _ _ rfl (rc _)) rfl) (by show 1<=1000;omega))).trans (cat _ _ (by show 9+1<=900;omega))) (y:=nI wn) rfl).trans hm)
theorem xB(S:List D)(d:D):aQ (.lst (S++[d])) (.int (-1))=some d:=by
 show nw (S++[d]) (-1)=_;unfold nw pX;rw[if_neg (by omega),if_pos (by rw[List.length_append];simp;omega),Option.bind_some]
 have:(-1+((S++[d]).length:Int)).toNat=S.length:=by rw[List.length_append];simp;omega
 rw[this];simp
theorem zJ(S:List D)(d:D):jB (S++[d]) []=some (d,S):=by
 unfold jB;simp
theorem rP {bs:List D}{d:D}(h:bs.length<=1000):jI bs [d]=some (.non,bs++[d]):=by
 rw[rT];exact m8 h
inductive Ch (r0 x0:List Nat):Nat->List Nat->List Nat->List D->List D->Prop
 |nil {n:Nat} (G:Gn n r0 x0):Ch r0 x0 n r0 x0 [] []
 |cons {n n':Nat} {r x r' x':List Nat} {S B:List D} (h:Ch r0 x0 n r x S B) (G:Gn n' r' x') (b:Mo) (e:b.e n' r' x'=.ok (aC r x)):Ch r0 x0 n' r' x' (S++[aC r x]) (B++[b.d])
theorem Ch.gn {r0 x0:List Nat}{n:Nat}{r x:List Nat}{S B:List D}(h:Ch r0 x0 n r x S B):Gn n r x:=by cases h<;>assumption
theorem Ch.len {r0 x0:List Nat}{n:Nat}{r x:List Nat}{S B:List D}(h:Ch r0 x0 n r x S B):S.length=B.length:=by
 induction h with
 |nil G=>rfl
 |cons h G b e ih=>rw[List.length_append,List.length_append,ih];rfl
theorem xO {p:FT}{b:FS}{n:Nat}{ρ ρ2:aL}(h1:p ρ=some true)(h2:b ρ=.nx ρ2):oh p b (n+1) ρ=oh p b n ρ2:=by
 conv=>lhs;unfold oh
 rw[h1];dsimp only;rw[h2]
theorem w8 {p:FT}{b:FS}{n:Nat}{ρ:aL}(h1:p ρ=some false):oh p b (n+1) ρ=.nx ρ:=by
 conv=>lhs;unfold oh
 rw[h1]
theorem wA {r0 x0:List Nat}(A:Sl)(d1:D)(s4 s5 s7:Sl){n:Nat}{r x:List Nat}{S B:List D}(h:Ch r0 x0 n r x S B): ∀(k:Nat) (s6:Sl),B.length<k-> ∃s6',oh (bq (ao wE (aj bR (aa (cV 3) (ah))) (au (.int 0)))) (ay (gA 6 (kU (nF 2 (yj fI)) (dl (aN 2 0 jB (cL ah)) (dl (aN 3 0 jB (cL ah)) (cL (ah))))))
 (dC (bq (ao kZ (ai 6) (ao aQ (cV 2) (hX (au (.int 1)))))) (aI (au (.bl false))) (skip))) k [A,.v d1,.own (S++[aC r x]),.own B,s4,s5,s6,s7]=.nx [A,.v d1,.own [aC r0 x0],.own [],s4,s5,s6',s7]:=by
 induction h with
 |nil G=>
  intro k s6 hk;cases k with
  |zero=>omega
  |succ k=>exact⟨s6,w8 rfl⟩
 | @cons n n' r x r' x' S B h G b e ih=>
   intro k s6 hk;rw[List.length_append] at hk;cases k with
   |zero=>omega
   |succ k=>
    obtain⟨s6',q⟩:=ih k (.v (aC r x)) (by simp at hk;omega)
    refine⟨s6',?_⟩
    have p1:bq (ao wE (aj bR (aa (cV 3) (ah))) (au (.int 0))) [A,.v d1,.own (S++[aC r x]++[aC r' x']),.own (B++[b.d]),s4,s5,s6,s7]=some true:=by
     refine cA ((az (x:=.int (((B++[b.d]).length:Nat):Int)) (y:=.int 0) ((bL (ds:=[.lst (B++[b.d])]) rfl).trans rfl) rfl).trans ?_)
     show some (D.bl (decide _))=_;congr 2
     rw[decide_eq_true_eq,List.length_append];simp
    have em:yj fI [aC r' x',b.d]=some (aC r x):=by
     have:=pF G.g b
     rw[e,<-xD] at this;unfold yj;rw[this]
    have p2:gA 6 (kU (nF 2 (yj fI)) (dl (aN 2 0 jB (cL ah)) (dl (aN 3 0 jB (cL ah)) (cL (ah))))) [A,.v d1,.own (S++[aC r x]++[aC r' x']),.own (B++[b.d]),s4,s5,s6,s7]=.nx [A,.v d1,.own (S++[aC r x]),.own B,s4,s5,.v (aC r x),s7]:=
     (gG (td (ds:=[aC r' x',b.d]) (g9 (ρ1:=[A,.v d1,.own (S++[aC r x]),.own (B++[b.d]),s4,s5,s6,s7]) (bu (i:=2) (n:=0) (b0:=S++[aC r x]++[aC r' x']) (ds:=[]) rfl (cC rfl) rfl rfl (zJ _ _)) (g9 (ρ1:=[A,.v d1,.own (S++[aC r x]),.own B,s4,s5,s6,s7]) (bu (i:=3) (n:=0) (b0:=B++[b.d]) (ds:=[]) rfl (cC rfl) rfl rfl (zJ _ _)) rfl)) ((if_pos rfl).trans em))).trans rfl
    have p3:dC (bq (ao kZ (ai 6) (ao aQ (cV 2) (hX (au (.int 1)))))) (aI (au (.bl false))) (skip) [A,.v d1,.own (S++[aC r x]),.own B,s4,s5,.v (aC r x),s7]=.nx [A,.v d1,.own (S++[aC r x]),.own B,s4,s5,.v (aC r x),s7]:=
     bw (cA ((az (x:=aC r x) (y:=aC r x) rfl ((az (x:=.lst (S++[aC r x])) rfl rfl).trans (xB _ _))).trans (rV (yw _ _))))
    exact(xO p1 ((aA p2).trans p3)).trans q
abbrev xm:FS:=ay (gA 5 (aN 0 1 eV (cL (aa (ao aQ (cV 2) (hX (au (.int 1)))) (ah)))))
 (ay (ba 6 (aj (nF 2 bP) (aa (ao aQ (cV 2) (hX (au (.int 1)))) (aa (ai 5) (ah)))))
 (dC (bq (ao (zh true) (ai 6) (au .non))) (ay (ba 7 (aj (nF 2 dS) (aa (ao aQ (cV 2) (hX (au (.int 1)))) (aa (ai 5) (ah)))))
 (ay (dC (mT (dz (fx (aj (nF 1 bQ) (aa (ai 7) (ah))))) (bq (ao kZ (ai 7) (aj (nF 3 fN) (aa (ao aQ (cV 2) (hX (au (.int 1)))) (aa (ai 5) (aa (ai 7) (ah)))))))) (aI (au (.bl false))) (skip))
 (ay (eL (aN 3 1 jI (cL (aa (ai 7) (ah)))))
 (eL (aN 2 1 jI (cL (aa (ai 6) (ah)))))))) (skip)))
theorem wJ {N:Nat}{a b:Int}(B:Bag N a b)(hN:N<=700000000){n:Nat}{r x:List Nat}(G:Gn n r x): ∃(a' b':Int),fT (aM a b) [aC r x]=some (.bl true,aM a' b')/\Bag (N+90) a' b':=by
 obtain⟨ρ1,lp,hlp⟩:=o5 (g:=gN 4) (b:=xm) (P:=λj ρ=> ∃n' r' x' S K a b s4 s5 s6 s7,Ch r x n' r' x' S K/\K.length<=j/\Bag (N+3*j) a b/\ρ=[.arg (aM a b),.v (aC r x),.own (S++[aC r' x']),.own K,s4,s5,s6,s7]) ((List.range 30).map nI) 0 (by
  intro d hd j ρ hj hρ;have hj:j<30:=by simpa using hj
  obtain⟨n1,r1,x1,S,K,a1,b1,s4,s5,s6,s7,C,hK,B1,rfl⟩:=hρ
  have G1:=C.gn
  obtain⟨m,a2,b2,em,B2⟩:=uY B1 (by omega) G1.g
  have B2':Bag (N+3*(j+1)) a2 b2:=by rw[show N+3*(j+1)=N+3*j+3 by omega];exact B2
  have la: ∀(A s4 s5 s6 s7:Sl),ao aQ (cV 2) (hX (au (.int 1))) [A,.v (aC r x),.own (S++[aC r1 x1]),.own K,s4,s5,s6,s7]=some (aC r1 x1):=λA s4 s5 s6 s7=>(az (x:=.lst (S++[aC r1 x1])) (y:=.int (-1)) rfl rfl).trans (xB _ _)
  have g1:gA 5 (aN 0 1 eV (cL (aa (ao aQ (cV 2) (hX (au (.int 1)))) (ah)))) [.arg (aM a1 b1),.v (aC r x),.own (S++[aC r1 x1]),.own K,.v d,s5,s6,s7]=.nx [.arg (aM a2 b2),.v (aC r x),.own (S++[aC r1 x1]),.own K,.v d,.v m.d,s6,s7]:=
   (gG (bu (i:=0) (n:=1) (b0:=aM a1 b1) (ds:=[aC r1 x1]) rfl (cC (am (la _ _ _ _ _) rfl)) rfl rfl em)).trans rfl
  have bh:=xZ G1.g m
  have L:=Ay G1 m
  have stay:bP [aC r1 x1,m.d]=some .non-> ∃ρ1 ρ2,gN 4 d [.arg (aM a1 b1),.v (aC r x),.own (S++[aC r1 x1]),.own K,s4,s5,s6,s7]=some ρ1/\xm ρ1=.nx ρ2/\ ∃n' r' x' S K a b s4 s5 s6 s7,Ch r x n' r' x' S K/\K.length<=j+1/\Bag (N+3*(j+1)) a b/\ρ2=[.arg (aM a b),.v (aC r x),.own (S++[aC r' x']),.own K,s4,s5,s6,s7]:=λe=>by
   refine⟨[.arg (aM a1 b1),.v (aC r x),.own (S++[aC r1 x1]),.own K,.v d,s5,s6,s7],[.arg (aM a2 b2),.v (aC r x),.own (S++[aC r1 x1]),.own K,.v d,.v m.d,.v .non,s7],rfl,?_,⟨_,_,_,S,K,_,_,_,_,_,_,C,by omega,B2',rfl⟩⟩
   have g2:ba 6 (aj (nF 2 bP) (aa (ao aQ (cV 2) (hX (au (.int 1)))) (aa (ai 5) (ah)))) [.arg (aM a2 b2),.v (aC r x),.own (S++[aC r1 x1]),.own K,.v d,.v m.d,s6,s7]=.nx [.arg (aM a2 b2),.v (aC r x),.own (S++[aC r1 x1]),.own K,.v d,.v m.d,.v .non,s7]:=
    (cg ((ci (ds:=[aC r1 x1,m.d]) (am (la _ _ _ _ _) rfl) rfl).trans e)).trans rfl
   exact(aA g1).trans ((aA g2).trans (bw rfl))
  cases L with
  |no e=>exact stay (bh.2 _ e (.inl rfl))
  |too e=>exact stay (bh.2 _ e (.inr rfl))
  | @ok n2 r2 x2 G2 e kb=>
    have hb:=bh.1 _ e
    have eb:=uK G1 m e
    have ed:=vN G1 m e
    have ei:=sk (m.bk r1 x1)
    refine⟨[.arg (aM a1 b1),.v (aC r x),.own (S++[aC r1 x1]),.own K,.v d,s5,s6,s7],[.arg (aM a2 b2),.v (aC r x),.own (S++[aC r1 x1]++[aC r2 x2]),.own (K++[(m.bk r1 x1).d]),.v d,.v m.d,.v (aC r2 x2),.v (m.bk r1 x1).d],rfl,?_,⟨_,_,_,_,_,_,_,_,_,_,_,.cons C G2 _ kb,by rw[List.length_append];simp;omega,B2',rfl⟩⟩
    have g2:ba 6 (aj (nF 2 bP) (aa (ao aQ (cV 2) (hX (au (.int 1)))) (aa (ai 5) (ah)))) [.arg (aM a2 b2),.v (aC r x),.own (S++[aC r1 x1]),.own K,.v d,.v m.d,s6,s7]=.nx [.arg (aM a2 b2),.v (aC r x),.own (S++[aC r1 x1]),.own K,.v d,.v m.d,.v (aC r2 x2),s7]:=
     (cg ((ci (ds:=[aC r1 x1,m.d]) (am (la _ _ _ _ _) rfl) rfl).trans hb)).trans rfl
    have g3:ba 7 (aj (nF 2 dS) (aa (ao aQ (cV 2) (hX (au (.int 1)))) (aa (ai 5) (ah)))) [.arg (aM a2 b2),.v (aC r x),.own (S++[aC r1 x1]),.own K,.v d,.v m.d,.v (aC r2 x2),s7]=.nx [.arg (aM a2 b2),.v (aC r x),.own (S++[aC r1 x1]),.own K,.v d,.v m.d,.v (aC r2 x2),.v (m.bk r1 x1).d]:=
     (cg ((ci (ds:=[aC r1 x1,m.d]) (am (la _ _ _ _ _) rfl) rfl).trans eb)).trans rfl
    have dpb:dw (m.bk r1 x1).d<=32:=by
     generalize m.bk r1 x1=mb
     cases mb<;>(simp only[Mo.d,dw,dh];omega)
    have gt:fx (aj (nF 1 bQ) (aa (ai 7) (ah))) [.arg (aM a2 b2),.v (aC r x),.own (S++[aC r1 x1]),.own K,.v d,.v m.d,.v (aC r2 x2),.v (m.bk r1 x1).d]=some true:=lO (b:=true) ((ci (ds:=[(m.bk r1 x1).d]) rfl rfl).trans ei)
    have gi:dz (fx (aj (nF 1 bQ) (aa (ai 7) (ah)))) [.arg (aM a2 b2),.v (aC r x),.own (S++[aC r1 x1]),.own K,.v d,.v m.d,.v (aC r2 x2),.v (m.bk r1 x1).d]=some false:=by unfold dz;rw[gt];rfl
    have g4:mT (dz (fx (aj (nF 1 bQ) (aa (ai 7) (ah))))) (bq (ao kZ (ai 7) (aj (nF 3 fN) (aa (ao aQ (cV 2) (hX (au (.int 1)))) (aa (ai 5) (aa (ai 7) (ah))))))) [.arg (aM a2 b2),.v (aC r x),.own (S++[aC r1 x1]),.own K,.v d,.v m.d,.v (aC r2 x2),.v (m.bk r1 x1).d]=some false:=
     oP (a:=false) (b:=false) gi (cA ((az (x:=(m.bk r1 x1).d) rfl ((ci (ds:=[aC r1 x1,m.d,(m.bk r1 x1).d]) (am (la _ _ _ _ _) rfl) rfl).trans ed)).trans (rV dpb)))
    have hKS:=C.len
    have g5:eL (aN 3 1 jI (cL (aa (ai 7) (ah)))) [.arg (aM a2 b2),.v (aC r x),.own (S++[aC r1 x1]),.own K,.v d,.v m.d,.v (aC r2 x2),.v (m.bk r1 x1).d]=.nx [.arg (aM a2 b2),.v (aC r x),.own (S++[aC r1 x1]),.own (K++[(m.bk r1 x1).d]),.v d,.v m.d,.v (aC r2 x2),.v (m.bk r1 x1).d]:=
     jY (bu (i:=3) (n:=1) (b0:=K) (ds:=[(m.bk r1 x1).d]) rfl (cC rfl) rfl rfl (rP (by omega)))
    have g6:eL (aN 2 1 jI (cL (aa (ai 6) (ah)))) [.arg (aM a2 b2),.v (aC r x),.own (S++[aC r1 x1]),.own (K++[(m.bk r1 x1).d]),.v d,.v m.d,.v (aC r2 x2),.v (m.bk r1 x1).d]=.nx [.arg (aM a2 b2),.v (aC r x),.own (S++[aC r1 x1]++[aC r2 x2]),.own (K++[(m.bk r1 x1).d]),.v d,.v m.d,.v (aC r2 x2),.v (m.bk r1 x1).d]:=
     jY (bu (i:=2) (n:=1) (b0:=S++[aC r1 x1]) (ds:=[aC r2 x2]) rfl (cC rfl) rfl rfl (rP (by rw[List.length_append];simp;omega)))
    exact(aA g1).trans ((aA g2).trans ((ie rfl).trans ((aA g3).trans ((aA (bw g4)).trans ((aA g5).trans g6)))))) [.arg (aM a b),.v (aC r x),.own [aC r x],.own [],.no,.no,.no,.no] ⟨n,r,x,[],[],a,b,_,_,_,_,.nil G,by simp,B,rfl⟩
 obtain⟨n',r',x',S,K,a',b',s4,s5,s6,s7,C,hK,B',rfl⟩:=hlp
 have hK:K.length<=30:=by simpa using hK
 obtain⟨s6',wb⟩:=wA (.arg (aM a' b')) (aC r x) s4 s5 s7 C 40 s6 (by omega)
 refine⟨a',b',?_,by simpa using B'⟩
 refine vb (kd:=.s) (n:=8) (t:=jL) (ρ:=[.arg (aM a' b'),.v (aC r x),.own [aC r x],.own [],s4,s5,s6',s7]) ?_ rfl
 unfold jL;refine(aA (ρ':=[.arg (aM a b),.v (aC r x),.own [aC r x],.no,.no,.no,.no,.no]) rfl).trans ?_
 refine(aA (ρ':=[.arg (aM a b),.v (aC r x),.own [aC r x],.own [],.no,.no,.no,.no]) rfl).trans ?_
 refine(aA (t:=iK _ _ _) (ρ':=[.arg (aM a' b'),.v (aC r x),.own (S++[aC r' x']),.own K,s4,s5,s6,s7]) ?_).trans ?_
 ·exact(oD (cC (im (n:=30) rfl (by omega)))).trans lp
 ·refine(aA wb).trans (aV ((az (x:=.lst [aC r x]) (y:=.lst [aC r x]) rfl rfl).trans (wc ?_)))
  show dw (.lst [.tup [.tup (r.map nI),.tup (x.map nI)]])<=32;simp only[dw,dh,jE];omega
theorem yT(ns:List Int)(k:Nat)(hk:1<=k)(ρ:aL)(h:ai 0 ρ=some (jN ns)): ∃m:Nat,m<=k/\aj fW (aa (au (.int 1)) (aa (aj i7 (aa (au (.int k)) (aa (aj bR (aa (ai 0) (ah))) (ah)))) (ah))) ρ=some (nI m):=by
 have e1:aj bR (aa (ai 0) ah) ρ=some (nI ns.length):=by
  rw[bL (am h rfl)];show some (D.int ((ns.map D.int).length:Int))=_;rw[List.length_map]
 refine⟨max 1 (min k ns.length),by omega,?_⟩
 refine(bL (am rfl (am ((bL (am rfl (am e1 rfl))).trans rfl) rfl))).trans ?_
 show some (D.int _)=some (D.int _);congr 2
 split<;>split<;>omega
theorem ya(ns:List Int)(hn:ns.length<=63):xA [jN ns]=some (.bl true):=by
 refine jM (kd:=.s) (n:=3) (t:=tI) ?_
 unfold tI;obtain⟨kk,hk1,hk2⟩:=yT ns 3 (by omega) (dX 3 [jN ns]) rfl
 refine xT (λρ=> ∃s1 s2,ρ=[.v (jN ns),s1,s2]) (vC (ds:=(List.range kk).map nI) (cC (im (am hk2 rfl) (by omega))) (rN _ (λd hd ρ hρ=>?_) _ ⟨_,_,rfl⟩)) λρ' _=>⟨ρ',rfl⟩
 obtain⟨k,hk,rfl⟩:=List.mem_map.mp hd
 rw[List.mem_range] at hk;obtain⟨s1,s2,rfl⟩:=hρ
 obtain⟨a0,b0,eb,B⟩:=yP ns k (by omega) hn
 obtain⟨d1,a1,b1,e1,B1,d10,d11⟩:=iI (m:=5) B (by omega) (by decide) (by decide)
 obtain⟨m,hm,hm1,hm2⟩: ∃m:Nat,bp (.int 2) (.int d1)=some (nI m)/\2<=m/\m<=6:=⟨(2+d1).toNat,by rw[fk,AZ (by omega)],by omega,by omega⟩
 obtain⟨r,x,a5,b5,e5,S,B5⟩:=qO B1 (n:=m) hm1 hm2 (by omega)
 obtain⟨a6,b6,e6,B6⟩:=wJ B5 (by omega) (n:=m) (r:=r) (x:=x) ⟨⟨S.hr,S.hx,hm1,hm2⟩,λi hi=>(S.ne i hi).symm⟩
 refine⟨_,[.v (jN ns),.v (nI k),.own (aM a6 b6)],rfl,?_,⟨_,_,rfl⟩⟩
 have q1:eS 2 (aj (nF 2 jm) (aa (ai 0) (aa (ai 1) (ah)))) [.v (jN ns),.v (nI k),s2]=.nx [.v (jN ns),.v (nI k),.own (aM a0 b0)]:=(jZ ((ci (ds:=[jN ns,nI k]) rfl rfl).trans eb)).trans rfl
 have q2:aN 2 1 fT (dl (aN 2 1 fJ (dl (lE bp (pu (au (.int 2))) (aN 2 1 bz (cL (aa (au (.int 5)) (ah))))) (cL (ah)))) (cL (ah))) [.v (jN ns),.v (nI k),.own (aM a0 b0)]=some (.bl true,[.v (jN ns),.v (nI k),.own (aM a6 b6)]):=
  (bu (i:=2) (n:=1) (ρ1:=[.v (jN ns),.v (nI k),.own (aM a5 b5)]) (b0:=aM a0 b0) (ds:=[aC r x]) rfl (g9 (bu (i:=2) (n:=1) (ρ1:=[.v (jN ns),.v (nI k),.own (aM a1 b1)]) (b0:=aM a0 b0) (ds:=[nI m]) rfl (g9 (rn (gK rfl) (bu (i:=2) (n:=1) (b0:=aM a0 b0) (ds:=[.int 5]) rfl (cC rfl) rfl rfl e1) hm) rfl) rfl rfl e5) rfl) rfl rfl e6).trans rfl
 refine(aA q1).trans ?_
 unfold zW v8 vT;rw[q2];rfl
theorem all_mk {l:W.OpenLaw}{w:World}{K:W.Frag}{h:Heap}{mg:Str->Option Value}{fa:Addr}{f0:Addr}{od0 an0:Option Addr}{sl0:Array (Option Value)}{oc0 kV0 dc0 pm0 cd0 ct0:Value}{f1:Addr}{od1 an1:Option Addr}{sl1:Array (Option Value)}{oc1 kV1 dc1 pm1 cd1 ct1:Value}{f2:Addr}{od2 an2:Option Addr}{sl2:Array (Option Value)}{oc2 kV2 dc2 pm2 cd2 ct2:Value}{f3:Addr}{od3 an3:Option Addr}{sl3:Array (Option Value)}{oc3 kV3 dc3 pm3 cd3 ct3:Value}{f4:Addr}{od4 an4:Option Addr}{sl4:Array (Option Value)}{oc4 kV4 dc4 pm4 cd4 ct4:Value}{f5:Addr}{od5 an5:Option Addr}{sl5:Array (Option Value)}{oc5 kV5 dc5 pm5 cd5 ct5:Value}{f6:Addr}{od6 an6:Option Addr}{sl6:Array (Option Value)}{oc6 kV6 dc6 pm6 cd6 ct6:Value}{f7:Addr}{od7 an7:Option Addr}{sl7:Array (Option Value)}{oc7 kV7 dc7 pm7 cd7 ct7:Value}{f8:Addr}{od8 an8:Option Addr}{sl8:Array (Option Value)}{oc8 kV8 dc8 pm8 cd8 ct8:Value}{f9:Addr}{od9 an9:Option Addr}{sl9:Array (Option Value)}{oc9 kV9 dc9 pm9 cd9 ct9:Value}{f10:Addr}{od10 an10:Option Addr}{sl10:Array (Option Value)}{oc10 kV10 dc10 pm10 cd10 ct10:Value}{f11:Addr}{od11 an11:Option Addr}{sl11:Array (Option Value)}{oc11 kV11 dc11 pm11 cd11 ct11:Value}{f12:Addr}{od12 an12:Option Addr}{sl12:Array (Option Value)}{oc12 kV12 dc12 pm12 cd12 ct12:Value}{f13:Addr}{od13 an13:Option Addr}{sl13:Array (Option Value)}{oc13 kV13 dc13 pm13 cd13 ct13:Value}{f14:Addr}{od14 an14:Option Addr}{sl14:Array (Option Value)}{oc14 kV14 dc14 pm14 cd14 ct14:Value}{f15:Addr}{od15 an15:Option Addr}{sl15:Array (Option Value)}{oc15 kV15 dc15 pm15 cd15 ct15:Value}{f16:Addr}{od16 an16:Option Addr}{sl16:Array (Option Value)}{oc16 kV16 dc16 pm16 cd16 ct16:Value}{f17:Addr}{od17 an17:Option Addr}{sl17:Array (Option Value)}{oc17 kV17 dc17 pm17 cd17 ct17:Value}{f18:Addr}{od18 an18:Option Addr}{sl18:Array (Option Value)}{oc18 kV18 dc18 pm18 cd18 ct18:Value}{f19:Addr}{od19 an19:Option Addr}{sl19:Array (Option Value)}{oc19 kV19 dc19 pm19 cd19 ct19:Value}{f20:Addr}{od20 an20:Option Addr}{sl20:Array (Option Value)}{oc20 kV20 dc20 pm20 cd20 ct20:Value}{f21:Addr}{od21 an21:Option Addr}{sl21:Array (Option Value)}{oc21 kV21 dc21 pm21 cd21 ct21:Value}{f22:Addr}{od22 an22:Option Addr}{sl22:Array (Option Value)}{oc22 kV22 dc22 pm22 cd22 ct22:Value}{f23:Addr}{od23 an23:Option Addr}{sl23:Array (Option Value)}{oc23 kV23 dc23 pm23 cd23 ct23:Value}{f24:Addr}{od24 an24:Option Addr}{sl24:Array (Option Value)}{oc24 kV24 dc24 pm24 cd24 ct24:Value}{f25:Addr}{od25 an25:Option Addr}{sl25:Array (Option Value)}{oc25 kV25 dc25 pm25 cd25 ct25:Value}{f26:Addr}{od26 an26:Option Addr}{sl26:Array (Option Value)}{oc26 kV26 dc26 pm26 cd26 ct26:Value}{f27:Addr}{od27 an27:Option Addr}{sl27:Array (Option Value)}{oc27 kV27 dc27 pm27 cd27 ct27:Value}{f28:Addr}{od28 an28:Option Addr}{sl28:Array (Option Value)}{oc28 kV28 dc28 pm28 cd28 ct28:Value}{f29:Addr}{od29 an29:Option Addr}{sl29:Array (Option Value)}{oc29 kV29 dc29 pm29 cd29 ct29:Value}{f30:Addr}{od30 an30:Option Addr}{sl30:Array (Option Value)}{oc30 kV30 dc30 pm30 cd30 ct30:Value}{f31:Addr}{od31 an31:Option Addr}{sl31:Array (Option Value)}{oc31 kV31 dc31 pm31 cd31 ct31:Value}{tk_MANY_WAYS:Tok}{tk_MOST_SIZE:Tok}{kx0 kx1 kx2:Addr}{xn0 xq0:Str}{xb0 xu0:List Value}{xs0:Addr}{xd0 xl0 xe0:Bool}{xv0:List Str}{xc0:Option Bool}{xn1 xq1:Str}{xb1 xu1:List Value}{xs1:Addr}{xd1 xl1 xe1:Bool}{xv1:List Str}{xc1:Option Bool}{xn2 xq2:Str}{xb2 xu2:List Value}{xs2:Addr}{xd2 xl2 xe2:Bool}{xv2:List Str}{xc2:Option Bool}(X:K.In h)(G:h.Ns mainGlobals mg)(hfa:mg "law"=some (.ref fa))
 (a0:W.nsIn K mainGlobals "order_turned"=some (some (.ref f0))) (l0:K.lookup f0=some ⟨oc0,od0,.func (W.fnOf "order_turned" "order_turned" (aP bX) (aG bX) (ak bX) .none kV0 dc0 pm0 an0 cd0 ct0),sl0⟩) (c0:W.codeIn K cd0 "order_turned"=true) (k0:W.keepIn K (.ref f0)=true)
 (a1:W.nsIn K mainGlobals "order_raised"=some (some (.ref f1))) (l1:K.lookup f1=some ⟨oc1,od1,.func (W.fnOf "order_raised" "order_raised" (aP ce) (aG ce) (ak ce) .none kV1 dc1 pm1 an1 cd1 ct1),sl1⟩) (c1:W.codeIn K cd1 "order_raised"=true) (k1:W.keepIn K (.ref f1)=true)
 (a2:W.nsIn K mainGlobals "order_tipped"=some (some (.ref f2))) (l2:K.lookup f2=some ⟨oc2,od2,.func (W.fnOf "order_tipped" "order_tipped" (aP cf) (aG cf) (ak cf) .none kV2 dc2 pm2 an2 cd2 ct2),sl2⟩) (c2:W.codeIn K cd2 "order_tipped"=true) (k2:W.keepIn K (.ref f2)=true)
 (a3:W.nsIn K mainGlobals "order_exchanged"=some (some (.ref f3))) (l3:K.lookup f3=some ⟨oc3,od3,.func (W.fnOf "order_exchanged" "order_exchanged" (aP br) (aG br) (ak br) .none kV3 dc3 pm3 an3 cd3 ct3),sl3⟩) (c3:W.codeIn K cd3 "order_exchanged"=true) (k3:W.keepIn K (.ref f3)=true)
 (a4:W.nsIn K mainGlobals "lies_between"=some (some (.ref f4))) (l4:K.lookup f4=some ⟨oc4,od4,.func (W.fnOf "lies_between" "lies_between" (aP bZ) (aG bZ) (ak bZ) .none kV4 dc4 pm4 an4 cd4 ct4),sl4⟩) (c4:W.codeIn K cd4 "lies_between"=true) (k4:W.keepIn K (.ref f4)=true)
 (a5:W.nsIn K mainGlobals "columns_turned"=some (some (.ref f5))) (l5:K.lookup f5=some ⟨oc5,od5,.func (W.fnOf "columns_turned" "columns_turned" (aP bx) (aG bx) (ak bx) .none kV5 dc5 pm5 an5 cd5 ct5),sl5⟩) (c5:W.codeIn K cd5 "columns_turned"=true) (k5:W.keepIn K (.ref f5)=true)
 (a6:W.nsIn K mainGlobals "rows_turned"=some (some (.ref f6))) (l6:K.lookup f6=some ⟨oc6,od6,.func (W.fnOf "rows_turned" "rows_turned" (aP cx) (aG cx) (ak cx) .none kV6 dc6 pm6 an6 cd6 ct6),sl6⟩) (c6:W.codeIn K cd6 "rows_turned"=true) (k6:W.keepIn K (.ref f6)=true)
 (a7:W.nsIn K mainGlobals "tipped"=some (some (.ref f7))) (l7:K.lookup f7=some ⟨oc7,od7,.func (W.fnOf "tipped" "tipped" (aP fU) (aG fU) (ak fU) .none kV7 dc7 pm7 an7 cd7 ct7),sl7⟩) (c7:W.codeIn K cd7 "tipped"=true) (k7:W.keepIn K (.ref f7)=true)
 (a8:W.nsIn K mainGlobals "may_change"=some (some (.ref f8))) (l8:K.lookup f8=some ⟨oc8,od8,.func (W.fnOf "may_change" "may_change" (aP cD) (aG cD) (ak cD) .none kV8 dc8 pm8 an8 cd8 ct8),sl8⟩) (c8:W.codeIn K cd8 "may_change"=true) (k8:W.keepIn K (.ref f8)=true)
 (a9:W.nsIn K mainGlobals "columns_changed"=some (some (.ref f9))) (l9:K.lookup f9=some ⟨oc9,od9,.func (W.fnOf "columns_changed" "columns_changed" (aP bt) (aG bt) (ak bt) .none kV9 dc9 pm9 an9 cd9 ct9),sl9⟩) (c9:W.codeIn K cd9 "columns_changed"=true) (k9:W.keepIn K (.ref f9)=true)
 (a10:W.nsIn K mainGlobals "rows_changed"=some (some (.ref f10))) (l10:K.lookup f10=some ⟨oc10,od10,.func (W.fnOf "rows_changed" "rows_changed" (aP bU) (aG bU) (ak bU) .none kV10 dc10 pm10 an10 cd10 ct10),sl10⟩) (c10:W.codeIn K cd10 "rows_changed"=true) (k10:W.keepIn K (.ref f10)=true)
 (a11:W.nsIn K mainGlobals "is_way"=some (some (.ref f11))) (l11:K.lookup f11=some ⟨oc11,od11,.func (W.fnOf "is_way" "is_way" (aP gb) (aG gb) (ak gb) .none kV11 dc11 pm11 an11 cd11 ct11),sl11⟩) (c11:W.codeIn K cd11 "is_way"=true) (k11:W.keepIn K (.ref f11)=true)
 (a12:W.nsIn K mainGlobals "free_and_full"=some (some (.ref f12))) (l12:K.lookup f12=some ⟨oc12,od12,.func (W.fnOf "free_and_full" "free_and_full" (aP bI) (aG bI) (ak bI) .none kV12 dc12 pm12 an12 cd12 ct12),sl12⟩) (c12:W.codeIn K cd12 "free_and_full"=true) (k12:W.keepIn K (.ref f12)=true)
 (a13:W.nsIn K mainGlobals "row_parted"=some (some (.ref f13))) (l13:K.lookup f13=some ⟨oc13,od13,.func (W.fnOf "row_parted" "row_parted" (aP cJ) (aG cJ) (ak cJ) .none kV13 dc13 pm13 an13 cd13 ct13),sl13⟩) (c13:W.codeIn K cd13 "row_parted"=true) (k13:W.keepIn K (.ref f13)=true)
 (a14:W.nsIn K mainGlobals "corner_put"=some (some (.ref f14))) (l14:K.lookup f14=some ⟨oc14,od14,.func (W.fnOf "corner_put" "corner_put" (aP cH) (aG cH) (ak cH) .none kV14 dc14 pm14 an14 cd14 ct14),sl14⟩) (c14:W.codeIn K cd14 "corner_put"=true) (k14:W.keepIn K (.ref f14)=true)
 (a15:W.nsIn K mainGlobals "is_put"=some (some (.ref f15))) (l15:K.lookup f15=some ⟨oc15,od15,.func (W.fnOf "is_put" "is_put" (aP gy) (aG gy) (ak gy) .none kV15 dc15 pm15 an15 cd15 ct15),sl15⟩) (c15:W.codeIn K cd15 "is_put"=true) (k15:W.keepIn K (.ref f15)=true)
 (a16:W.nsIn K mainGlobals "way_put"=some (some (.ref f16))) (l16:K.lookup f16=some ⟨oc16,od16,.func (W.fnOf "way_put" "way_put" (aP eU) (aG eU) (ak eU) .none kV16 dc16 pm16 an16 cd16 ct16),sl16⟩) (c16:W.codeIn K cd16 "way_put"=true) (k16:W.keepIn K (.ref f16)=true)
 (a17:W.nsIn K mainGlobals "rows_joined"=some (some (.ref f17))) (l17:K.lookup f17=some ⟨oc17,od17,.func (W.fnOf "rows_joined" "rows_joined" (aP cw) (aG cw) (ak cw) .none kV17 dc17 pm17 an17 cd17 ct17),sl17⟩) (c17:W.codeIn K cd17 "rows_joined"=true) (k17:W.keepIn K (.ref f17)=true)
 (a18:W.nsIn K mainGlobals "corner_taken"=some (some (.ref f18))) (l18:K.lookup f18=some ⟨oc18,od18,.func (W.fnOf "corner_taken" "corner_taken" (aP bV) (aG bV) (ak bV) .none kV18 dc18 pm18 an18 cd18 ct18),sl18⟩) (c18:W.codeIn K cd18 "corner_taken"=true) (k18:W.keepIn K (.ref f18)=true)
 (a19:W.nsIn K mainGlobals "moved"=some (some (.ref f19))) (l19:K.lookup f19=some ⟨oc19,od19,.func (W.fnOf "moved" "moved" (aP iP) (aG iP) (ak iP) .none kV19 dc19 pm19 an19 cd19 ct19),sl19⟩) (c19:W.codeIn K cd19 "moved"=true) (k19:W.keepIn K (.ref f19)=true)
 (a20:W.nsIn K mainGlobals "move_back"=some (some (.ref f20))) (l20:K.lookup f20=some ⟨oc20,od20,.func (W.fnOf "move_back" "move_back" (aP dc) (aG dc) (ak dc) .none kV20 dc20 pm20 an20 cd20 ct20),sl20⟩) (c20:W.codeIn K cd20 "move_back"=true) (k20:W.keepIn K (.ref f20)=true)
 (a21:W.nsIn K mainGlobals "_law_cell"=some (some (.ref f21))) (l21:K.lookup f21=some ⟨oc21,od21,.func (W.fnOf "_law_cell" "_law_cell" (aP dI) (aG dI) (ak dI) .none kV21 dc21 pm21 an21 cd21 ct21),sl21⟩) (c21:W.codeIn K cd21 "_law_cell"=true) (k21:W.keepIn K (.ref f21)=true)
 (a22:W.nsIn K mainGlobals "_law_bag"=some (some (.ref f22))) (l22:K.lookup f22=some ⟨oc22,od22,.func (W.fnOf "_law_bag" "_law_bag" (aP eN) (aG eN) (ak eN) .none kV22 dc22 pm22 an22 cd22 ct22),sl22⟩) (c22:W.codeIn K cd22 "_law_bag"=true) (k22:W.keepIn K (.ref f22)=true)
 (a23:W.nsIn K mainGlobals "_law_take"=some (some (.ref f23))) (l23:K.lookup f23=some ⟨oc23,od23,.func (W.fnOf "_law_take" "_law_take" (aP dJ) (aG dJ) (ak dJ) .none kV23 dc23 pm23 an23 cd23 ct23),sl23⟩) (c23:W.codeIn K cd23 "_law_take"=true) (k23:W.keepIn K (.ref f23)=true)
 (a24:W.nsIn K mainGlobals "_law_order"=some (some (.ref f24))) (l24:K.lookup f24=some ⟨oc24,od24,.func (W.fnOf "_law_order" "_law_order" (aP de) (aG de) (ak de) .none kV24 dc24 pm24 an24 cd24 ct24),sl24⟩) (c24:W.codeIn K cd24 "_law_order"=true) (k24:W.keepIn K (.ref f24)=true)
 (a25:W.nsIn K mainGlobals "_law_square"=some (some (.ref f25))) (l25:K.lookup f25=some ⟨oc25,od25,.func (W.fnOf "_law_square" "_law_square" (aP cE) (aG cE) (ak cE) .none kV25 dc25 pm25 an25 cd25 ct25),sl25⟩) (c25:W.codeIn K cd25 "_law_square"=true) (k25:W.keepIn K (.ref f25)=true)
 (a26:W.nsIn K mainGlobals "_law_move"=some (some (.ref f26))) (l26:K.lookup f26=some ⟨oc26,od26,.func (W.fnOf "_law_move" "_law_move" (aP dQ) (aG dQ) (ak dQ) .none kV26 dc26 pm26 an26 cd26 ct26),sl26⟩) (c26:W.codeIn K cd26 "_law_move"=true) (k26:W.keepIn K (.ref f26)=true)
 (a27:W.nsIn K mainGlobals "_law_behind"=some (some (.ref f27))) (l27:K.lookup f27=some ⟨oc27,od27,.func (W.fnOf "_law_behind" "_law_behind" (aP cK) (aG cK) (ak cK) .none kV27 dc27 pm27 an27 cd27 ct27),sl27⟩) (c27:W.codeIn K cd27 "_law_behind"=true) (k27:W.keepIn K (.ref f27)=true)
 (a28:W.nsIn K mainGlobals "_law_due"=some (some (.ref f28))) (l28:K.lookup f28=some ⟨oc28,od28,.func (W.fnOf "_law_due" "_law_due" (aP eO) (aG eO) (ak eO) .none kV28 dc28 pm28 an28 cd28 ct28),sl28⟩) (c28:W.codeIn K cd28 "_law_due"=true) (k28:W.keepIn K (.ref f28)=true)
 (a29:W.nsIn K mainGlobals "_law_is_move"=some (some (.ref f29))) (l29:K.lookup f29=some ⟨oc29,od29,.func (W.fnOf "_law_is_move" "_law_is_move" (aP cq) (aG cq) (ak cq) .none kV29 dc29 pm29 an29 cd29 ct29),sl29⟩) (c29:W.codeIn K cd29 "_law_is_move"=true) (k29:W.keepIn K (.ref f29)=true)
 (a30:W.nsIn K mainGlobals "_law_walk"=some (some (.ref f30))) (l30:K.lookup f30=some ⟨oc30,od30,.func (W.fnOf "_law_walk" "_law_walk" (aP dO) (aG dO) (ak dO) .none kV30 dc30 pm30 an30 cd30 ct30),sl30⟩) (c30:W.codeIn K cd30 "_law_walk"=true) (k30:W.keepIn K (.ref f30)=true)
 (a31:W.nsIn K mainGlobals "law"=some (some (.ref f31))) (l31:K.lookup f31=some ⟨oc31,od31,.func (W.fnOf "law" "law" (aP jv) (aG jv) (ak jv) .none kV31 dc31 pm31 an31 cd31 ct31),sl31⟩) (c31:W.codeIn K cd31 "law"=true) (k31:W.keepIn K (.ref f31)=true)
 (z_abs:W.nsIn K mainGlobals "abs"=some none)
 (z_all:W.nsIn K mainGlobals "all"=some none)
 (z_bool:W.nsIn K mainGlobals "bool"=some none)
 (z_enumerate:W.nsIn K mainGlobals "enumerate"=some none)
 (z_int:W.nsIn K mainGlobals "int"=some none)
 (z_isinstance:W.nsIn K mainGlobals "isinstance"=some none)
 (z_len:W.nsIn K mainGlobals "len"=some none)
 (z_list:W.nsIn K mainGlobals "list"=some none)
 (z_max:W.nsIn K mainGlobals "max"=some none)
 (z_min:W.nsIn K mainGlobals "min"=some none)
 (z_range:W.nsIn K mainGlobals "range"=some none)
 (z_str:W.nsIn K mainGlobals "str"=some none)
 (z_tuple:W.nsIn K mainGlobals "tuple"=some none)
 (g_MANY_WAYS:W.nsIn K mainGlobals "MANY_WAYS"=some (some (.int 4 tk_MANY_WAYS)))
 (g_MOST_SIZE:W.nsIn K mainGlobals "MOST_SIZE"=some (some (.int 6 tk_MOST_SIZE)))
 (ya0:W.nsIn K mainGlobals "RookError"=some (some (.ref kx0)))
 (yb0:W.findIn K (.ref kx0) "__getattribute__"=some (some (.builtin "BaseException.__getattribute__")))
 (yc0:W.findIn K (.ref kx0) "__getattr__"=some none)
 (yd0:W.findIn K (.ref kx0) "__class__"=some (some (.builtin "object.__class__")))
 (yg0:W.mroIn K kx0 (.type "object")=some true)
 (yh0:W.mroIn K kx0 (.type "BaseException")=some true)
 (yt0:W.typeIn K (.ref kx0)=some (.type "type"))
 (ym0:W.clsIn K kx0=some ⟨xn0,xb0,.ref kx0::sT,xs0,xq0,xd0,xv0,xu0,xl0,xc0,xe0⟩)
 (ya1:W.nsIn K mainGlobals "NoMove"=some (some (.ref kx1)))
 (yb1:W.findIn K (.ref kx1) "__getattribute__"=some (some (.builtin "BaseException.__getattribute__")))
 (yc1:W.findIn K (.ref kx1) "__getattr__"=some none)
 (yd1:W.findIn K (.ref kx1) "__class__"=some (some (.builtin "object.__class__")))
 (yg1:W.mroIn K kx1 (.type "object")=some true)
 (yh1:W.mroIn K kx1 (.type "BaseException")=some true)
 (yt1:W.typeIn K (.ref kx1)=some (.type "type"))
 (ym1:W.clsIn K kx1=some ⟨xn1,xb1,.ref kx1:: .ref kx0::sT,xs1,xq1,xd1,xv1,xu1,xl1,xc1,xe1⟩)
 (ya2:W.nsIn K mainGlobals "TooMany"=some (some (.ref kx2)))
 (yb2:W.findIn K (.ref kx2) "__getattribute__"=some (some (.builtin "BaseException.__getattribute__")))
 (yc2:W.findIn K (.ref kx2) "__getattr__"=some none)
 (yd2:W.findIn K (.ref kx2) "__class__"=some (some (.builtin "object.__class__")))
 (yg2:W.mroIn K kx2 (.type "object")=some true)
 (yh2:W.mroIn K kx2 (.type "BaseException")=some true)
 (yt2:W.typeIn K (.ref kx2)=some (.type "type"))
 (ym2:W.clsIn K kx2=some ⟨xn2,xb2,.ref kx2:: .ref kx0::sT,xs2,xq2,xd2,xv2,xu2,xl2,xc2,xe2⟩)
 (ye:W.specialIn K (.builtin "object.__class__") "__get__"=some (some (.builtin "getset_descriptor.__get__")))
 (yf:W.takesIn K (.builtin "object.__class__")=some true)
 (yo_NoMove:W.excIn K kx1 sT "ValueError.__new__"=true)
 (yo_TooMany:W.excIn K kx2 sT "ValueError.__new__"=true)
 (yn:[kx0,kx1,kx2].Nodup):
 ∃fd:FuncData,(∀(s:Shared) (v:Value),BindsTo s fd ⟨[v],[]⟩ [("_law_script",v)])/\ ∀base:Heap,K.In base->base.Ns mainGlobals mg->FnOk l.prog w K mg base oV 8 fa fd ["_law_script"] (q9 K):=by
 have e:=hfa.symm.trans (W.mg_of X G a31)
 cases e
 have F0:=bi (st:=bX) l0 c0 k0
 have b0:=F0.binds (ps:=["order","k"]) λ_ _ _ _ _ _ us hl=>ar2 us hl (λ_ _=>rfl)
 have d0:Df K mg "order_turned" bX ["order","k"]:=⟨_,_,F0,W.mg_of X G a0,b0⟩
 have F1:=bi (st:=ce) l1 c1 k1
 have b1:=F1.binds (ps:=["order","k"]) λ_ _ _ _ _ _ us hl=>ar2 us hl (λ_ _=>rfl)
 have d1:Df K mg "order_raised" ce ["order","k"]:=⟨_,_,F1,W.mg_of X G a1,b1⟩
 have F2:=bi (st:=cf) l2 c2 k2
 have b2:=F2.binds (ps:=["order"]) λ_ _ _ _ _ _ us hl=>ar1 us hl (λ_=>rfl)
 have d2:Df K mg "order_tipped" cf ["order"]:=⟨_,_,F2,W.mg_of X G a2,b2⟩
 have F3:=bi (st:=br) l3 c3 k3
 have b3:=F3.binds (ps:=["order","one","other"]) λ_ _ _ _ _ _ us hl=>ar3 us hl (λ_ _ _=>rfl)
 have d3:Df K mg "order_exchanged" br ["order","one","other"]:=⟨_,_,F3,W.mg_of X G a3,b3⟩
 have F4:=bi (st:=bZ) l4 c4 k4
 have b4:=F4.binds (ps:=["at","one","other"]) λ_ _ _ _ _ _ us hl=>ar3 us hl (λ_ _ _=>rfl)
 have d4:Df K mg "lies_between" bZ ["at","one","other"]:=⟨_,_,F4,W.mg_of X G a4,b4⟩
 have F5:=bi (st:=bx) l5 c5 k5
 have b5:=F5.binds (ps:=["square","k"]) λ_ _ _ _ _ _ us hl=>ar2 us hl (λ_ _=>rfl)
 have d5:Df K mg "columns_turned" bx ["square","k"]:=⟨_,_,F5,W.mg_of X G a5,b5⟩
 have F6:=bi (st:=cx) l6 c6 k6
 have b6:=F6.binds (ps:=["square","k"]) λ_ _ _ _ _ _ us hl=>ar2 us hl (λ_ _=>rfl)
 have d6:Df K mg "rows_turned" cx ["square","k"]:=⟨_,_,F6,W.mg_of X G a6,b6⟩
 have F7:=bi (st:=fU) l7 c7 k7
 have b7:=F7.binds (ps:=["square"]) λ_ _ _ _ _ _ us hl=>ar1 us hl (λ_=>rfl)
 have d7:Df K mg "tipped" fU ["square"]:=⟨_,_,F7,W.mg_of X G a7,b7⟩
 have F8:=bi (st:=cD) l8 c8 k8
 have b8:=F8.binds (ps:=["square","c"]) λ_ _ _ _ _ _ us hl=>ar2 us hl (λ_ _=>rfl)
 have d8:Df K mg "may_change" cD ["square","c"]:=⟨_,_,F8,W.mg_of X G a8,b8⟩
 have F9:=bi (st:=bt) l9 c9 k9
 have b9:=F9.binds (ps:=["square","c"]) λ_ _ _ _ _ _ us hl=>ar2 us hl (λ_ _=>rfl)
 have d9:Df K mg "columns_changed" bt ["square","c"]:=⟨_,_,F9,W.mg_of X G a9,b9⟩
 have F10:=bi (st:=bU) l10 c10 k10
 have b10:=F10.binds (ps:=["square","r"]) λ_ _ _ _ _ _ us hl=>ar2 us hl (λ_ _=>rfl)
 have d10:Df K mg "rows_changed" bU ["square","r"]:=⟨_,_,F10,W.mg_of X G a10,b10⟩
 have F11:=bi (st:=gb) l11 c11 k11
 have b11:=F11.binds (ps:=["way"]) λ_ _ _ _ _ _ us hl=>ar1 us hl (λ_=>rfl)
 have d11:Df K mg "is_way" gb ["way"]:=⟨_,_,F11,W.mg_of X G a11,b11⟩
 have F12:=bi (st:=bI) l12 c12 k12
 have b12:=F12.binds (ps:=["c","r","way"]) λ_ _ _ _ _ _ us hl=>ar3 us hl (λ_ _ _=>rfl)
 have d12:Df K mg "free_and_full" bI ["c","r","way"]:=⟨_,_,F12,W.mg_of X G a12,b12⟩
 have F13:=bi (st:=cJ) l13 c13 k13
 have b13:=F13.binds (ps:=["mark","row","to"]) λ_ _ _ _ _ _ us hl=>ar3 us hl (λ_ _ _=>rfl)
 have d13:Df K mg "row_parted" cJ ["mark","row","to"]:=⟨_,_,F13,W.mg_of X G a13,b13⟩
 have F14:=bi (st:=cH) l14 c14 k14
 have b14:=F14.binds (ps:=["square","c","way"]) λ_ _ _ _ _ _ us hl=>ar3 us hl (λ_ _ _=>rfl)
 have d14:Df K mg "corner_put" cH ["square","c","way"]:=⟨_,_,F14,W.mg_of X G a14,b14⟩
 have F15:=bi (st:=gy) l15 c15 k15
 have b15:=F15.binds (ps:=["square","c","r","way"]) λ_ _ _ _ _ _ us hl=>ar4 us hl (λ_ _ _ _=>rfl)
 have d15:Df K mg "is_put" gy ["square","c","r","way"]:=⟨_,_,F15,W.mg_of X G a15,b15⟩
 have F16:=bi (st:=eU) l16 c16 k16
 have b16:=F16.binds (ps:=["square","c","r"]) λ_ _ _ _ _ _ us hl=>ar3 us hl (λ_ _ _=>rfl)
 have d16:Df K mg "way_put" eU ["square","c","r"]:=⟨_,_,F16,W.mg_of X G a16,b16⟩
 have F17:=bi (st:=cw) l17 c17 k17
 have b17:=F17.binds (ps:=["marks","row","column"]) λ_ _ _ _ _ _ us hl=>ar3 us hl (λ_ _ _=>rfl)
 have d17:Df K mg "rows_joined" cw ["marks","row","column"]:=⟨_,_,F17,W.mg_of X G a17,b17⟩
 have F18:=bi (st:=bV) l18 c18 k18
 have b18:=F18.binds (ps:=["square","c","r"]) λ_ _ _ _ _ _ us hl=>ar3 us hl (λ_ _ _=>rfl)
 have d18:Df K mg "corner_taken" bV ["square","c","r"]:=⟨_,_,F18,W.mg_of X G a18,b18⟩
 have F19:=bi (st:=iP) l19 c19 k19
 have b19:=F19.binds (ps:=["square","move"]) λ_ _ _ _ _ _ us hl=>ar2 us hl (λ_ _=>rfl)
 have d19:Df K mg "moved" iP ["square","move"]:=⟨_,_,F19,W.mg_of X G a19,b19⟩
 have F20:=bi (st:=dc) l20 c20 k20
 have b20:=F20.binds (ps:=["square","move"]) λ_ _ _ _ _ _ us hl=>ar2 us hl (λ_ _=>rfl)
 have d20:Df K mg "move_back" dc ["square","move"]:=⟨_,_,F20,W.mg_of X G a20,b20⟩
 have F21:=bi (st:=dI) l21 c21 k21
 have b21:=F21.binds (ps:=["_law_script","_law_k"]) λ_ _ _ _ _ _ us hl=>ar2 us hl (λ_ _=>rfl)
 have d21:Df K mg "_law_cell" dI ["_law_script","_law_k"]:=⟨_,_,F21,W.mg_of X G a21,b21⟩
 have F22:=bi (st:=eN) l22 c22 k22
 have b22:=F22.binds (ps:=["_law_script","_law_at"]) λ_ _ _ _ _ _ us hl=>ar2 us hl (λ_ _=>rfl)
 have d22:Df K mg "_law_bag" eN ["_law_script","_law_at"]:=⟨_,_,F22,W.mg_of X G a22,b22⟩
 have F23:=bi (st:=dJ) l23 c23 k23
 have b23:=F23.binds (ps:=["_law_bag_here","_law_many"]) λ_ _ _ _ _ _ us hl=>ar2 us hl (λ_ _=>rfl)
 have d23:Df K mg "_law_take" dJ ["_law_bag_here","_law_many"]:=⟨_,_,F23,W.mg_of X G a23,b23⟩
 have F24:=bi (st:=de) l24 c24 k24
 have b24:=F24.binds (ps:=["_law_bag_here","_law_n"]) λ_ _ _ _ _ _ us hl=>ar2 us hl (λ_ _=>rfl)
 have d24:Df K mg "_law_order" de ["_law_bag_here","_law_n"]:=⟨_,_,F24,W.mg_of X G a24,b24⟩
 have F25:=bi (st:=cE) l25 c25 k25
 have b25:=F25.binds (ps:=["_law_bag_here","_law_n"]) λ_ _ _ _ _ _ us hl=>ar2 us hl (λ_ _=>rfl)
 have d25:Df K mg "_law_square" cE ["_law_bag_here","_law_n"]:=⟨_,_,F25,W.mg_of X G a25,b25⟩
 have F26:=bi (st:=dQ) l26 c26 k26
 have b26:=F26.binds (ps:=["_law_bag_here","_law_square_here"]) λ_ _ _ _ _ _ us hl=>ar2 us hl (λ_ _=>rfl)
 have d26:Df K mg "_law_move" dQ ["_law_bag_here","_law_square_here"]:=⟨_,_,F26,W.mg_of X G a26,b26⟩
 have F27:=bi (st:=cK) l27 c27 k27
 have b27:=F27.binds (ps:=["_law_square_here","_law_move_here"]) λ_ _ _ _ _ _ us hl=>ar2 us hl (λ_ _=>rfl)
 have d27:Df K mg "_law_behind" cK ["_law_square_here","_law_move_here"]:=⟨_,_,F27,W.mg_of X G a27,b27⟩
 have F28:=bi (st:=eO) l28 c28 k28
 have b28:=F28.binds (ps:=["_law_square_here","_law_move_here","_law_back"]) λ_ _ _ _ _ _ us hl=>ar3 us hl (λ_ _ _=>rfl)
 have d28:Df K mg "_law_due" eO ["_law_square_here","_law_move_here","_law_back"]:=⟨_,_,F28,W.mg_of X G a28,b28⟩
 have F29:=bi (st:=cq) l29 c29 k29
 have b29:=F29.binds (ps:=["_law_move_here"]) λ_ _ _ _ _ _ us hl=>ar1 us hl (λ_=>rfl)
 have d29:Df K mg "_law_is_move" cq ["_law_move_here"]:=⟨_,_,F29,W.mg_of X G a29,b29⟩
 have F30:=bi (st:=dO) l30 c30 k30
 have b30:=F30.binds (ps:=["_law_bag_here","_law_square_here"]) λ_ _ _ _ _ _ us hl=>ar2 us hl (λ_ _=>rfl)
 have d30:Df K mg "_law_walk" dO ["_law_bag_here","_law_square_here"]:=⟨_,_,F30,W.mg_of X G a30,b30⟩
 have F31:=bi (st:=jv) l31 c31 k31
 have b31:=F31.binds (ps:=["_law_script"]) λ_ _ _ _ _ _ us hl=>ar1 us hl (λ_=>rfl)
 have d31:Df K mg "law" jv ["_law_script"]:=⟨_,_,F31,W.mg_of X G a31,b31⟩
 have B:Bt mg:=⟨W.mg_none_of X G z_abs,W.mg_none_of X G z_all,W.mg_none_of X G z_bool,W.mg_none_of X G z_enumerate,W.mg_none_of X G z_int,W.mg_none_of X G z_isinstance,W.mg_none_of X G z_len,W.mg_none_of X G z_list,W.mg_none_of X G z_max,W.mg_none_of X G z_min,W.mg_none_of X G z_range,W.mg_none_of X G z_str,W.mg_none_of X G z_tuple,⟨_,W.mg_of X G g_MANY_WAYS⟩,⟨_,W.mg_of X G g_MOST_SIZE⟩⟩
 have r0:ExRow K mg kx0 "RookError" kx0:=⟨W.mg_of X G ya0,ya0,⟨yb0,yc0,yd0,ye,yf,yg0,yh0⟩,yt0,_,ym0,(if_pos rfl).symm⟩
 have r1:ExRow K mg kx0 "NoMove" kx1:=⟨W.mg_of X G ya1,ya1,⟨yb1,yc1,yd1,ye,yf,yg1,yh1⟩,yt1,_,ym1,(if_neg (uy yn (List.Mem.head _))).symm⟩
 have r2:ExRow K mg kx0 "TooMany" kx2:=⟨W.mg_of X G ya2,ya2,⟨yb2,yc2,yd2,ye,yf,yg2,yh2⟩,yt2,_,ym2,(if_neg (uy yn (List.Mem.tail _ (List.Mem.head _)))).symm⟩
 have ET:Et K mg kx0 kx1 kx2:=⟨⟨(kS r0 (kS r1 (kS r2 tR))),List.Mem.head _,yn⟩,yo_NoMove,yo_TooMany⟩
 refine⟨W.fnOf "law" "law" (aP jv) (aG jv) (ak jv) .none kV31 dc31 pm31 an31 cd31 ct31,λs v=>.of_eq rfl,λbase _ _=>?_⟩
 have eD:=lX (P:=l.prog) (w:=w) (base:=base) B d0 ET
 have eF:=lA (P:=l.prog) (w:=w) (base:=base) B d1 ET
 have eE:=mn (P:=l.prog) (w:=w) (base:=base) B d2 ET
 have cT:=kh (P:=l.prog) (w:=w) (base:=base) B d3 ET
 have ge:=lB (P:=l.prog) (w:=w) (base:=base) B d4 ET
 have eR:=kq (P:=l.prog) (w:=w) (base:=base) B d5 ET eD
 have gY:=mP (P:=l.prog) (w:=w) (base:=base) B d6 ET eF
 have gr:=uu (P:=l.prog) (w:=w) (base:=base) B d7 ET eE
 have iM:=nQ (P:=l.prog) (w:=w) (base:=base) B d8 ET ge
 have bH:=ka (P:=l.prog) (w:=w) (base:=base) B d9 ET iM cT
 have fX:=lW (P:=l.prog) (w:=w) (base:=base) B d10 ET gr bH
 have mf:=vc (P:=l.prog) (w:=w) (base:=base) B d11 ET
 have bn:=lv (P:=l.prog) (w:=w) (base:=base) B d12 ET
 have fL:=oA (P:=l.prog) (w:=w) (base:=base) B d13 ET
 have ir:=nT (P:=l.prog) (w:=w) (base:=base) B d14 ET bn fL mf
 have md:=tD (P:=l.prog) (w:=w) (base:=base) B d15 ET bn
 have fS:=sO (P:=l.prog) (w:=w) (base:=base) B d16 ET md
 have e7:=mS (P:=l.prog) (w:=w) (base:=base) B d17 ET
 have gp:=lK (P:=l.prog) (w:=w) (base:=base) B d18 ET fS bn e7
 have jg:=vV (P:=l.prog) (w:=w) (base:=base) B d19 ET gp eR gY gr bH fX ir
 have iZ:=o9 (P:=l.prog) (w:=w) (base:=base) B d20 ET fS
 have jO:=qi (P:=l.prog) (w:=w) (base:=base) B d21 ET
 have kL:=sN (P:=l.prog) (w:=w) (base:=base) B d22 ET jO
 have bo:=qI (P:=l.prog) (w:=w) (base:=base) B d23 ET
 have gF:=pQ (P:=l.prog) (w:=w) (base:=base) B d24 ET bo
 have iO:=n8 (P:=l.prog) (w:=w) (base:=base) B d25 ET bo gF
 have jR:=qt (P:=l.prog) (w:=w) (base:=base) B d26 ET bo
 have iF:=nU (P:=l.prog) (w:=w) (base:=base) B d27 ET jg
 have kF:=se (P:=l.prog) (w:=w) (base:=base) B d28 ET
 have gV:=mU (P:=l.prog) (w:=w) (base:=base) B d29 ET
 have jK:=qC (P:=l.prog) (w:=w) (base:=base) B d30 ET jR iF jg iZ gV kF
 exact yc (yA (P:=l.prog) (w:=w) (base:=base) B F31 ET kL jK iO bo) ya
end L2
theorem PySem.W.Fast.tw18311135417492577506:True:=⟨⟩
theorem PySem.W.Fast.tw6033427007762049372:True:=⟨⟩
theorem PySem.W.Fast.tw8205715345890405063:True:=⟨⟩
theorem PySem.W.Fast.tw61831829848670135:True:=⟨⟩
theorem PySem.W.Fast.tw2181210425591815664:True:=⟨⟩
theorem PySem.W.Fast.tw18148595367026513626:True:=⟨⟩
theorem PySem.W.Fast.tw8136992178582385853:True:=⟨⟩
theorem PySem.W.Fast.tw10272943006286569401:True:=⟨⟩
theorem PySem.W.Fast.tw8848277809006506685:True:=⟨⟩
theorem PySem.W.Fast.tw4320743973539404073:True:=⟨⟩
theorem PySem.W.Fast.tw7663448351204113199:True:=⟨⟩
theorem PySem.W.Fast.tw8957227513428173743:True:=⟨⟩
theorem PySem.W.Fast.tw6346839290104032569:True:=⟨⟩
theorem PySem.W.Fast.tw1176764294553340749:True:=⟨⟩
theorem PySem.W.Fast.tw17602729459064489774:True:=⟨⟩
theorem PySem.W.Fast.tw895697765300188805:True:=⟨⟩
theorem PySem.W.Fast.tw17647698307564636673:True:=⟨⟩
theorem PySem.W.Fast.tw7566803960781206600:True:=⟨⟩
theorem PySem.W.Fast.tw7357632483613397368:True:=⟨⟩
theorem PySem.W.Fast.tw1700886603986129911:True:=⟨⟩
theorem PySem.W.Fast.tw80030261739082360:True:=⟨⟩
theorem PySem.W.Fast.tw2042730421686197590:True:=⟨⟩
theorem PySem.W.Fast.tw15617936402373799640:True:=⟨⟩
open PySem PySem.W PyProof.Rows
set_option maxRecDepth 100000 in
set_option maxHeartbeats 0 in
theorem PySem.Challenge.cw_rookborders_k14_whole_there_and_back_holds : PySem.Challenge.rw_rookborders_k14_whole_there_and_back.Holds := by
 w_on;o_law;k_head;(case hw=>w_witness2)
 k_fill
 refine L2.walkD (l:=PySem.Challenge.rw_rookborders_k14_whole_there_and_back) (k:=8) (x:="_law_script") rfl rfl ⟨rfl,by decide,by decide⟩ (λw h Y=>W.kIn_of Y) ?F
 case F=>
  intro w mg fa h KX G hmg
  refine' L2.all_mk KX G hmg ?a0 ?l0 ?c0 ?k0 ?a1 ?l1 ?c1 ?k1 ?a2 ?l2 ?c2 ?k2 ?a3 ?l3 ?c3 ?k3 ?a4 ?l4 ?c4 ?k4 ?a5 ?l5 ?c5 ?k5 ?a6 ?l6 ?c6 ?k6 ?a7 ?l7 ?c7 ?k7 ?a8 ?l8 ?c8 ?k8 ?a9 ?l9 ?c9 ?k9 ?a10 ?l10 ?c10 ?k10 ?a11 ?l11 ?c11 ?k11 ?a12 ?l12 ?c12 ?k12 ?a13 ?l13 ?c13 ?k13 ?a14 ?l14 ?c14 ?k14 ?a15 ?l15 ?c15 ?k15 ?a16 ?l16 ?c16 ?k16 ?a17 ?l17 ?c17 ?k17 ?a18 ?l18 ?c18 ?k18 ?a19 ?l19 ?c19 ?k19 ?a20 ?l20 ?c20 ?k20 ?a21 ?l21 ?c21 ?k21 ?a22 ?l22 ?c22 ?k22 ?a23 ?l23 ?c23 ?k23 ?a24 ?l24 ?c24 ?k24 ?a25 ?l25 ?c25 ?k25 ?a26 ?l26 ?c26 ?k26 ?a27 ?l27 ?c27 ?k27 ?a28 ?l28 ?c28 ?k28 ?a29 ?l29 ?c29 ?k29 ?a30 ?l30 ?c30 ?k30 ?a31 ?l31 ?c31 ?k31 ?z_abs ?z_all ?z_bool ?z_enumerate ?z_int ?z_isinstance ?z_len ?z_list ?z_max ?z_min ?z_range ?z_str ?z_tuple ?g_MANY_WAYS ?g_MOST_SIZE ?ya0 ?yb0 ?yc0 ?yd0 ?yg0 ?yh0 ?yt0 ?ym0 ?ya1 ?yb1 ?yc1 ?yd1 ?yg1 ?yh1 ?yt1 ?ym1 ?ya2 ?yb2 ?yc2 ?yd2 ?yg2 ?yh2 ?yt2 ?ym2 ?ye ?yf ?yo_NoMove ?yo_TooMany ?yn
  (case a0=>k_is)
  (case l0=>k_is)
  (case c0=>k_is)
  (case k0=>k_is)
  (case a1=>k_is)
  (case l1=>k_is)
  (case c1=>k_is)
  (case k1=>k_is)
  (case a2=>k_is)
  (case l2=>k_is)
  (case c2=>k_is)
  (case k2=>k_is)
  (case a3=>k_is)
  (case l3=>k_is)
  (case c3=>k_is)
  (case k3=>k_is)
  (case a4=>k_is)
  (case l4=>k_is)
  (case c4=>k_is)
  (case k4=>k_is)
  (case a5=>k_is)
  (case l5=>k_is)
  (case c5=>k_is)
  (case k5=>k_is)
  (case a6=>k_is)
  (case l6=>k_is)
  (case c6=>k_is)
  (case k6=>k_is)
  (case a7=>k_is)
  (case l7=>k_is)
  (case c7=>k_is)
  (case k7=>k_is)
  (case a8=>k_is)
  (case l8=>k_is)
  (case c8=>k_is)
  (case k8=>k_is)
  (case a9=>k_is)
  (case l9=>k_is)
  (case c9=>k_is)
  (case k9=>k_is)
  (case a10=>k_is)
  (case l10=>k_is)
  (case c10=>k_is)
  (case k10=>k_is)
  (case a11=>k_is)
  (case l11=>k_is)
  (case c11=>k_is)
  (case k11=>k_is)
  (case a12=>k_is)
  (case l12=>k_is)
  (case c12=>k_is)
  (case k12=>k_is)
  (case a13=>k_is)
  (case l13=>k_is)
  (case c13=>k_is)
  (case k13=>k_is)
  (case a14=>k_is)
  (case l14=>k_is)
  (case c14=>k_is)
  (case k14=>k_is)
  (case a15=>k_is)
  (case l15=>k_is)
  (case c15=>k_is)
  (case k15=>k_is)
  (case a16=>k_is)
  (case l16=>k_is)
  (case c16=>k_is)
  (case k16=>k_is)
  (case a17=>k_is)
  (case l17=>k_is)
  (case c17=>k_is)
  (case k17=>k_is)
  (case a18=>k_is)
  (case l18=>k_is)
  (case c18=>k_is)
  (case k18=>k_is)
  (case a19=>k_is)
  (case l19=>k_is)
  (case c19=>k_is)
  (case k19=>k_is)
  (case a20=>k_is)
  (case l20=>k_is)
  (case c20=>k_is)
  (case k20=>k_is)
  (case a21=>k_is)
  (case l21=>k_is)
  (case c21=>k_is)
  (case k21=>k_is)
  (case a22=>k_is)
  (case l22=>k_is)
  (case c22=>k_is)
  (case k22=>k_is)
  (case a23=>k_is)
  (case l23=>k_is)
  (case c23=>k_is)
  (case k23=>k_is)
  (case a24=>k_is)
  (case l24=>k_is)
  (case c24=>k_is)
  (case k24=>k_is)
  (case a25=>k_is)
  (case l25=>k_is)
  (case c25=>k_is)
  (case k25=>k_is)
  (case a26=>k_is)
  (case l26=>k_is)
  (case c26=>k_is)
  (case k26=>k_is)
  (case a27=>k_is)
  (case l27=>k_is)
  (case c27=>k_is)
  (case k27=>k_is)
  (case a28=>k_is)
  (case l28=>k_is)
  (case c28=>k_is)
  (case k28=>k_is)
  (case a29=>k_is)
  (case l29=>k_is)
  (case c29=>k_is)
  (case k29=>k_is)
  (case a30=>k_is)
  (case l30=>k_is)
  (case c30=>k_is)
  (case k30=>k_is)
  (case a31=>k_is)
  (case l31=>k_is)
  (case c31=>k_is)
  (case k31=>k_is)
  (case z_abs=>k_is)
  (case z_all=>k_is)
  (case z_bool=>k_is)
  (case z_enumerate=>k_is)
  (case z_int=>k_is)
  (case z_isinstance=>k_is)
  (case z_len=>k_is)
  (case z_list=>k_is)
  (case z_max=>k_is)
  (case z_min=>k_is)
  (case z_range=>k_is)
  (case z_str=>k_is)
  (case z_tuple=>k_is)
  (case g_MANY_WAYS=>k_is)
  (case g_MOST_SIZE=>k_is)
  (case ya0=>k_is)
  (case yb0=>k_is)
  (case yc0=>k_is)
  (case yd0=>k_is)
  (case yg0=>k_is)
  (case yh0=>k_is)
  (case yt0=>k_is)
  (case ym0=>k_is)
  (case ya1=>k_is)
  (case yb1=>k_is)
  (case yc1=>k_is)
  (case yd1=>k_is)
  (case yg1=>k_is)
  (case yh1=>k_is)
  (case yt1=>k_is)
  (case ym1=>k_is)
  (case ya2=>k_is)
  (case yb2=>k_is)
  (case yc2=>k_is)
  (case yd2=>k_is)
  (case yg2=>k_is)
  (case yh2=>k_is)
  (case yt2=>k_is)
  (case ym2=>k_is)
  (case ye=>k_is)
  (case yf=>k_is)
  (case yo_NoMove=>k_exc)
  (case yo_TooMany=>k_exc)
  (case yn=>decide)
