import PyProof.Rows.All
import Wide.All
import OpenK.AllK
import Wide.FinOn
import PyProof.EqAt
import PyProof.EqKinds
import PyProof.TupleCall
import PyProof.NeKinds
import PyProof.FactsAll.tuple_2
import PyProof.FactsAll.tuple_3
import PyProof.ListRange
import KE.KSortTup
import PyProof.EnumMake
import PyProof.AutoSeq1
import PyProof.Rows.SeqMore
import KE.KIsAll
import PyProof.ExcArgsOwn
import PyProof.ExcBaseAll.ValueError
import PyProof.ExcAttrAll.ValueError
import OpenK.KOwn
import PyProof.RulesAs
import PyProof.AutoRange
import PyProof.SeqRoads2
import PyProof.ZipIter
import PyProof.StrCalls2
import KE.KDictSum
import PyProof.SumAny
import KE.KRevIter
import PyProof.Rows.FStr
import PyProof.Rows.FStrParts
import KE.KRevSl
import PyProof.ListStr
import PyProof.StrLoop
import PyProof.StrWalks
import PyProof.StrBlock
import PyProof.StrLawsFirst
import Lean
import PySem.Challenge.RW_rookborders_k85_no_texts
set_option bootstrap.genMatcherCode false
set_option Elab.async false
set_option linter.all false
set_option maxRecDepth 100000
set_option maxHeartbeats 1000000
namespace L2
open PySem
abbrev Pb:=SetTable.Probe
def Dm(mask:Nat)(p:Pb):Pb:=
 if p.more>0 then {p with j:=p.j+1,more:=p.more-1} else
 {p with j:=(SetTable.leap mask p.i p.perturb).1,more:=SetTable.runEnd mask (SetTable.leap mask p.i p.perturb).1- (SetTable.leap mask p.i p.perturb).1,i:=(SetTable.leap mask p.i p.perturb).1,perturb:=(SetTable.leap mask p.i p.perturb).2}
def AS(mask i perturb:Nat)(d:Option Nat):Pb:={j:=i,more:=SetTable.runEnd mask i-i,i:=i,perturb:=perturb,dummy:=d}
def A5(mask:Nat):Nat->Pb->Pb
 |0,p=>p
 |n+1,p=>A5 mask n (Dm mask p)
def Dk(mask:Nat)(h:Int)(d:Option Nat):Pb:=AS mask (SetTable.bits h % (mask+1)) (SetTable.bits h) d
def Jx(mask:Nat)(h:Int)(m:Nat):Nat:=(A5 mask m (Dk mask h none)).j
def C8(xs:Array Nat):Prop:=xs.toList.Pairwise (·< ·)
structure TOk(t:SetTable)(hs:List Int):Prop where
 pw: ∃k,3<=k/\k<=12/\t.mask+1=2^k
 sz:t.place.size=hs.length
 sp:C8 t.place
 sd:C8 t.dummies
 lp: ∀j∈t.place.toList,j<=t.mask
 ld: ∀j∈t.dummies.toList,j<=t.mask
 dj: ∀j∈t.dummies.toList,j∉t.place.toList
 fl:t.fill<=t.mask
 rc: ∀x∈hs.zip t.place.toList,∃m,Jx t.mask x.1 m=x.2/\ ∀m',m'<m->Jx t.mask x.1 m'∈t.place.toList\/Jx t.mask x.1 m'∈t.dummies.toList
open PySem PySem.Spec PyProof.Rows
def th(ks:List Int):Int:=reduceHash (Builtin.Tuple.tupleHashOf (ks.map hashInt))
def Do(x:List Int×Addr):Int×Value:=(th x.1,.ref x.2)
abbrev CO:=List (List Int×Addr)
def Dq(xs:CO):List Int:=xs.map λx=>th x.1
structure SetAt(w:World)(o:Obj)(es:Array (Int×Value))(ep:Nat)(t:SetTable)(xs:CO):Prop where
 ex:o.ExactSet
 hd:o.data=.set es ep t
 he:es.toList=xs.map Do
 T:TOk t (Dq xs)
 led:t.led= !w.params.followText "set-order"
 pl:t.plain=true
 nd:(xs.map (·.1)).Nodup
structure SetOk(w:World)(o:Obj)(es:Array (Int×Value))(ep:Nat)(t:SetTable)(xs:CO):Prop extends SetAt w o es ep t xs where
 f5:t.fill*5<t.mask*3
abbrev jj:=Sum Int Str
def yt:jj->Value->Bool
 | .inl k,v=>Value.isInt k v
 | .inr x,v=>Value.isStrOf x v
def CZ(w:World):jj->Int
 | .inl k=>hashInt k
 | .inr x=>hashStr w x
theorem bU: ∀ {k:jj} {v:Value},yt k v=true->(∃i t,k=Sum.inl i/\v=Value.int i t)\/(∃x t,k=Sum.inr x/\v=Value.str x t)
 | .inl i,v,h=>by
   obtain⟨t,e⟩:=Value.isInt_shape (k:=i) (v:=v) h
   exact .inl ⟨i,t,rfl,e⟩
 | .inr x,v,h=>by
   obtain⟨t,e⟩:=Value.isStrOf_shape (x:=x) (v:=v) h
   exact .inr ⟨x,t,rfl,e⟩
theorem zS(a b:Int):decide ((Sum.inl a:jj)=Sum.inl b)=(a==b):=by
 by_cases e:a=b
 ·subst e;simp
 ·have h: ¬(Sum.inl a:jj)=Sum.inl b:=λq=>e (Sum.inl.inj q)
  rw[decide_eq_false h];exact(beq_eq_false_iff_ne.mpr e).symm
theorem zY(a b:Str):decide ((Sum.inr a:jj)=Sum.inr b)=decide (a=b):=by
 by_cases e:a=b
 ·subst e;simp
 ·have h: ¬(Sum.inr a:jj)=Sum.inr b:=λq=>e (Sum.inr.inj q)
  rw[decide_eq_false h,decide_eq_false e]
theorem zw(a:Int)(b:Str):decide ((Sum.inl a:jj)=Sum.inr b)=false:=decide_eq_false (λq=>nomatch q)
theorem zF(a:Str)(b:Int):decide ((Sum.inr a:jj)=Sum.inl b)=false:=decide_eq_false (λq=>nomatch q)
def n9(prog:Program)(w:World):PySem.KeyKind prog w jj where
 is:=yt
 hash:=CZ w
 inj:=λv a b ha hb=>by
  rcases bU ha with⟨i,t,rfl,rfl⟩|⟨x,t,rfl,rfl⟩
  ·rcases bU hb with⟨j,u,rfl,e⟩|⟨y,u,rfl,e⟩
   ·injection e with e1 _;rw[e1]
   ·exact nomatch e
  ·rcases bU hb with⟨j,u,rfl,e⟩|⟨y,u,rfl,e⟩
   ·exact nomatch e
   ·injection e with e1 _;rw[e1]
 byValue:=λk v h=>by
  rcases bU h with⟨i,t,rfl,rfl⟩|⟨x,t,rfl,rfl⟩<;>rfl
 pyHash:=λhv h=>by
  rcases bU hv with⟨i,t,rfl,rfl⟩|⟨x,t,rfl,rfl⟩
  ·exact wpAny_pyHash_int h
  ·exact wpAny_pyHash_str h
 eqBool:=λhu hv h=>by
  rcases bU hu with⟨i,t,rfl,rfl⟩|⟨x,t,rfl,rfl⟩
  ·rcases bU hv with⟨j,u,rfl,rfl⟩|⟨y,u,rfl,rfl⟩
   ·rw[zS] at h;exact wpAny_eqBool_int h
   ·rw[zw] at h;exact SeqAt.EqAt.int_str i t y u _ _ _ _ h
  ·rcases bU hv with⟨j,u,rfl,rfl⟩|⟨y,u,rfl,rfl⟩
   ·rw[zF] at h;exact SeqAt.EqAt.str_int x t j u _ _ _ _ h
   ·rw[zY] at h;exact wpAny_eqBool_str h
 «strs»:=λk x t v h=>by
  rcases bU h with⟨i,u,rfl,e⟩|⟨y,u,rfl,e⟩
  ·exact nomatch e
  ·injection e with e1 _
   subst e1;cases v<;>rfl
inductive V where
 |non|bl (b:Bool)|int (i:Int)|str (x:Str)|byt (b:Array UInt8)|flt (b:UInt64)|ref (a:Addr)|ty (n:String)
 deriving DecidableEq
def RelV:V->Value->Prop
 | .non,u=>u=Value.none
 | .bl b,u=>u=Value.bool b
 | .int i,u=> ∃t,u=Value.int i t
 | .str x,u=> ∃t,u=Value.str x t
 | .byt b,u=> ∃t,u=Value.bytes b t
 | .flt b,u=> ∃t,u=Value.float b t
 | .ref a,u=>u=Value.ref a
 | .ty n,u=>u=Value.type n
abbrev Vals:List V->List Value->Prop:=Paired RelV
theorem Vals.length {xs:List V}{us:List Value}(r:Vals xs us):xs.length=us.length:=Paired.length r
theorem Vals.get: ∀ {xs:List V} {us:List Value} {i:Nat} {x:V},Vals xs us->xs[i]? =some x-> ∃u,us[i]? =some u/\RelV x u
 |_,_,_,_,.nil,e=>by simp at e
 |_,_,0,_,.cons r _,e=>by simp at e;subst e;exact⟨_,rfl,r⟩
 |_,_,i+1,x,.cons _ t,e=>by
  obtain⟨u,h1,h2⟩:=Vals.get (i:=i) (x:=x) t (by simpa using e)
  exact⟨u,by simpa using h1,h2⟩
theorem Vals.set {x:V}{u:Value}(r:RelV x u): ∀ {xs:List V} {us:List Value} (i:Nat),Vals xs us->Vals (xs.set i x) (us.set i u)
 |_,_,_,.nil=>.nil
 |_,_,0,.cons _ t=>.cons r t
 |_,_,i+1,.cons q t=>.cons q (Vals.set r i t)
theorem Vals.append: ∀ {xs ys:List V} {us ws:List Value},Vals xs us->Vals ys ws->Vals (xs++ys) (us++ws)
 |_,_,_,_,.nil,s=>s
 |_,_,_,_,.cons r t,s=>.cons r (Vals.append t s)
theorem Vals.take: ∀ {xs:List V} {us:List Value} (n:Nat),Vals xs us->Vals (xs.take n) (us.take n)
 |_,_,0,_=>.nil
 |_,_,_+1,.nil=>.nil
 |_,_,n+1,.cons r t=>.cons r (Vals.take n t)
theorem Vals.drop: ∀ {xs:List V} {us:List Value} (n:Nat),Vals xs us->Vals (xs.drop n) (us.drop n)
 |_,_,0,r=>r
 |_,_,_+1,.nil=>.nil
 |_,_,n+1,.cons _ t=>Vals.drop n t
def Bx:Option V->Option Value->Prop
 |some v,some u=>RelV v u
 |none,none=>True
 |_,_=>False
def KV {κ:Type}:List (κ×V)->List (κ×Value)->Prop:=Paired λ(p:κ×V) (q:κ×Value)=>p.1=q.1/\RelV p.2 q.2
def kV:jj->V
 | .inl i=>.int i
 | .inr x=>.str x
inductive HO where
 |lst (xs:List V)
 |tup (xs:List V)
 |dK (kvs:List (jj×V))|dT (kvs:List (List jj×V))
 |set (S:Int->Bool) (n:Nat)
 |tst (xs:List (List Int×Addr))
 |ins (C dx:Addr) (fs:List (Str×V))
 |own (x:Addr)
 |xd (fs:List (Str×V))
 |met (f x:Addr)
 |rng (lo hi:Int)
 |frz (o:Obj) (u:HO)
 |nst (p:Addr) (u:HO)
 |tbl (ps:Array Value)
 |ext (φ:Heap->Prop)
abbrev Hp:=Addr->Option HO
def cF(H:Hp)(a:Addr)(o:HO):Hp:=λb=>if b=a then some o else H b
theorem bf {H:Hp}{a:Addr}{o:HO}:cF H a o a=some o:=by unfold cF;rw[if_pos rfl]
theorem aM {H:Hp}{a b:Addr}{o:HO}(h:b≠a):cF H a o b=H b:=by unfold cF;rw[if_neg h]
theorem bz {H:Hp}{a b:Addr}{o:HO}(h:H a=some o)(h':H b=none):a≠b:=by
 intro e;subst e;rw[h] at h';cases h'
section
variable(P:Program)(w:World)
def ObjOk(H:Hp)(h:Heap)(a:Addr):HO->Prop
 | .lst xs=>xs.length<=sizeLine/\ ∃(its:List Value) (n:Nat),Vals xs its/\h.get? a=some {cls:=.type "list",data:=.seq its.toArray n}
 | .tup xs=>xs.length<=sizeLine/\ ∃its:List Value,Vals xs its/\IsTup h a its.toArray/\ ∃o,h.get? a=some o/\o.dict=none
 | .dK kvs=>kvs.length<=sizeLine/\(a==sysModules)=false/\ ∃vs,KV kvs vs/\h.DictOf (n9 P w) a vs
 | .dT kvs=>kvs.length<=sizeLine/\(a==sysModules)=false/\ ∃xs:List (List jj×Addr×Value),
    Paired (λ(p:List jj×V) (q:List jj×Addr×Value)=>p.1=q.1/\H q.2.1=some (.tup (p.1.map kV))/\RelV p.2 q.2.2) kvs xs/\
    ∃o es ep,h.get? a=some o/\o.ExactDict/\o.data=.dict es ep/\es.toList=xs.map (entryOfKey (tupleKind (n9 P w)))/\(xs.map (·.1)).Nodup
 | .set S n=>h.SetOf (intKind P w) a S n
 | .tst xs=> ∃o es ep t,h.get? a=some o/\SetOk w o es ep t xs
 | .ins C dx fs=>H dx=some (.own a)/\fs.length<=1000/\dx≠a/\h.get? a=some (W.instObj C dx)/\
    ∃mA,h.Ns1 dx mA/\(∀f,Bx (fs.lookup f) (mA f))/\PySem.Within mA (fs.map (·.1))
 | .own _=> ∃o,h.get? a=some o
 | .xd fs=> ∃mA,h.Ns1 a mA/\ ∀f,Bx (fs.lookup f) (mA f)
 | .rng lo hi=> ∃t u v,h.get? a=some {cls:=.type "range",data:=.fields #[.int lo t,.int hi u,.int 1 v]}
 | .frz o u=>h.get? a=some o/\ObjOk H h a u
 | .nst _ u=>ObjOk H h a u
 | .tbl ps=>h.get? a=some {cls:=.none,data:=.fields ps}
 | .met f x=>h.get? a=some (W.methodObj (.ref f) (.ref x))
 | .ext φ=>φ h/\(∃o,h.get? a=some o)/\ ∀h1 h2:Heap,φ h1->(∀o,h1.get? a=some o->h2.get? a=some o)->φ h2
def HOk(H:Hp)(h:Heap):Prop:= ∀a o,H a=some o->ObjOk P w H h a o
end
section
variable {P:Program}{w:World}{H H':Hp}{h h':Heap}{a:Addr}{o:HO}
theorem ObjOk.lt(x:ObjOk P w H h a o):a<h.objs.size:=by
 induction o with
 |lst xs=>obtain⟨_,_,_,_,e⟩:=x;exact Heap.lt_size e
 |tup xs=>obtain⟨_,_,_,p,_⟩:=x;exact p.lt
 |dK kvs=>obtain⟨_,_,_,_,o,_,_,e,_⟩:=x;exact Heap.lt_size e
 |dT kvs=>obtain⟨_,_,_,_,o,_,_,e,_⟩:=x;exact Heap.lt_size e
 |set S n=>obtain⟨o,_,_,_,e,_⟩:=x;exact Heap.lt_size e
 |tst xs=>obtain⟨o,_,_,_,e,_⟩:=x;exact Heap.lt_size e
 |ins C dx fs=>obtain⟨_,_,_,e,_⟩:=x;exact Heap.lt_size e
 |own y=>obtain⟨_,e⟩:=x;exact Heap.lt_size e
 |xd fs=>obtain⟨_,⟨_,_,_,e,_⟩,_⟩:=x;exact Heap.lt_size e
 |rng lo hi=>obtain⟨_,_,_,e⟩:=x;exact Heap.lt_size e
 |frz ob u ih=>obtain⟨e,_⟩:=x;exact Heap.lt_size e
 |nst p u ih=>exact ih x
 |tbl ps=>exact Heap.lt_size (show h.get? a=some _ from x)
 |met f y=>exact Heap.lt_size (show h.get? a=some _ from x)
 |ext φ=>obtain⟨_,⟨_,e⟩,_⟩:=x;exact Heap.lt_size e
theorem Paired.mapP {α β:Type}{F G:α->β->Prop}: ∀ {l₁:List α} {l₂:List β},Paired F l₁ l₂->(∀a b,F a b->G a b)->Paired G l₁ l₂
 |_,_,.nil,_=>.nil
 |_,_,.cons r t,f=>.cons (f _ _ r) (Paired.mapP t f)
theorem ObjOk.stay(x:ObjOk P w H h a o)(k: ∀b u,(b=a\/H b=some (.own a))->h.get? b=some u->h'.get? b=some u)
 (ho: ∀b,H b=some (.own a)->H' b=some (.own a)) (ht: ∀b xs,H b=some (.tup xs)->H' b=some (.tup xs)):ObjOk P w H' h' a o:=by
 induction o with
 |lst xs=>obtain⟨z,its,n,r,e⟩:=x;exact⟨z,its,n,r,k _ _ (.inl rfl) e⟩
 |tup xs=>obtain⟨z,its,r,⟨ob,e,c⟩,ob2,e2,c2⟩:=x;exact⟨z,its,r,⟨ob,k _ _ (.inl rfl) e,c⟩,ob2,k _ _ (.inl rfl) e2,c2⟩
 |dK kvs=>obtain⟨z,y,vs,r,ob,es,ep,e,c⟩:=x;exact⟨z,y,vs,r,ob,es,ep,k _ _ (.inl rfl) e,c⟩
 |dT kvs=>
  obtain⟨z,y,xs,r,ob,es,ep,e,c⟩:=x
  exact⟨z,y,xs,Paired.mapP r λp q z=>⟨z.1,ht _ _ z.2.1,z.2.2⟩,ob,es,ep,k _ _ (.inl rfl) e,c⟩
 |set S n=>obtain⟨ob,es,ep,t,e,c⟩:=x;exact⟨ob,es,ep,t,k _ _ (.inl rfl) e,c⟩
 |tst xs=>obtain⟨ob,es,ep,t,e,c⟩:=x;exact⟨ob,es,ep,t,k _ _ (.inl rfl) e,c⟩
 |ins C dx fs=>
  obtain⟨d,z,ne,e,mA,⟨od,es,ep,e2,c⟩,r⟩:=x
  exact⟨ho _ d,z,ne,k _ _ (.inl rfl) e,mA,⟨od,es,ep,k _ _ (.inr d) e2,c⟩,r⟩
 |own y=>obtain⟨ob,e⟩:=x;exact⟨ob,k _ _ (.inl rfl) e⟩
 |xd fs=>obtain⟨mA,⟨od,es,ep,e,c⟩,r⟩:=x;exact⟨mA,⟨od,es,ep,k _ _ (.inl rfl) e,c⟩,r⟩
 |rng lo hi=>obtain⟨t,u,v,e⟩:=x;exact⟨t,u,v,k _ _ (.inl rfl) e⟩
 |frz ob u ih=>obtain⟨e,q⟩:=x;exact⟨k _ _ (.inl rfl) e,ih q⟩
 |nst p u ih=>exact ih x
 |tbl ps=>
  have e:h.get? a=some {cls:=.none,data:=.fields ps}:=x
  show h'.get? a=some {cls:=.none,data:=.fields ps};exact k a _ (.inl rfl) e
 |met f y=>
  have e:h.get? a=some (W.methodObj (.ref f) (.ref y)):=x
  show h'.get? a=some (W.methodObj (.ref f) (.ref y));exact k a _ (.inl rfl) e
 |ext φ=>obtain⟨p,⟨o,e⟩,st⟩:=x;exact⟨st _ _ p λo q=>k _ _ (.inl rfl) q,⟨o,k _ _ (.inl rfl) e⟩,st⟩
theorem HOk.lt(x:HOk P w H h)(e:H a=some o):a<h.objs.size:=(x a o e).lt
theorem HOk.fresh(x:HOk P w H h)(e:h.objs.size<=a):H a=none:=by
 cases q:H a with
 |none=>rfl
 |some u=>exact absurd (Nat.lt_of_lt_of_le (x.lt q) e) (Nat.lt_irrefl _)
theorem HOk.kept(x:HOk P w H h)(k: ∀b u,h.get? b=some u->h'.get? b=some u):HOk P w H h':=λa o e=>
 (x a o e).stay (λb u _ q=>k b u q) (λ_ q=>q) λ_ _ q=>q
theorem HOk.laid(x:HOk P w H h)(k: ∀b u,h.get? b=some u->h'.get? b=some u)(hp:h.objs.size<=a)(new:ObjOk P w (cF H a o) h' a o):HOk P w (cF H a o) h':=λb u e=>by
 have hn:=x.fresh hp
 by_cases hb:b=a
 ·subst hb;rw[bf] at e;cases e;exact new
 ·rw[aM hb] at e
  exact(x b u e).stay (λc v _ q=>k c v q) (λc q=>by rw[aM (bz q hn)];exact q) λc xs q=>by rw[aM (bz q hn)];exact q
end
def Rd(H:Hp)(a:Addr)(u:HO):Prop:=H a=some u\/ ∃o,H a=some (.frz o u)
theorem Rd.ok {P:Program}{w:World}{H:Hp}{h:Heap}{a:Addr}{u:HO}(r:Rd H a u)(x:HOk P w H h):ObjOk P w H h a u:=by
 rcases r with r|⟨o,r⟩
 ·exact x a u r
 ·obtain⟨_,q⟩:=x a _ r
  exact q
def BL:Option HO->Prop
 |some (.lst _)=>True
 |some (.dK _)=>True
 |some (.dT _)=>True
 |some (.set _ _)=>True
 |some (.tst _)=>True
 |some (.ins _ _ _)=>True
 |some (.ext _)=>True
 |some (.nst _ _)=>True
 |_=>False
section
variable {P:Program}{w:World}{H:Hp}{h h':Heap}{x e:Addr}{o':HO}
theorem HOk.write(ok:HOk P w H h)(mu:BL (H x))(he:e=x\/H e=some (.own x))(k: ∀b u,b≠e->h.get? b=some u->h'.get? b=some u)(heo: ∃u,h'.get? e=some u)
 (new:ObjOk P w (cF H x o') h' x o'):HOk P w (cF H x o') h':=λb u q=>by
 have nown: ∀c y,H c=some (.own y)->c≠x:=λc y r z=>by subst z;rw[r] at mu;exact mu
 have ntup: ∀c xs,H c=some (.tup xs)->c≠x:=λc xs r z=>by subst z;rw[r] at mu;exact mu
 by_cases hb:b=x
 ·subst hb;rw[bf] at q;cases q;exact new
 ·rw[aM hb] at q
  by_cases hbe:b=e
  ·have q':H b=some (.own x):=by
    rcases he with z|z
    ·exact absurd (hbe.trans z) hb
    ·rw[hbe];exact z
   rw[q] at q';cases q';obtain⟨v,hv⟩:=heo
   exact⟨v,by rw[hbe];exact hv⟩
  ·refine(ok b u q).stay (λc v hc r=>k c v ?_ r) (λc r=>by rw[aM (nown c b r)];exact r) λc xs r=>by rw[aM (ntup c xs r)];exact r
   rcases hc with rfl|hc
   ·exact hbe
   ·rintro rfl
    rcases he with z|z
    ·exact nown c b hc z
    ·rw[hc] at z;cases z;exact hb rfl
end
structure Un(fs ex:List Addr)(H H':Hp)(h h':Heap):Prop where
 keep: ∀b o,h.get? b=some o->H b=none->b∉fs->b∉ex->h'.get? b=some o
 slot: ∀b o,h.get? b=some o->H b=none->b∈fs->b∉ex-> ∃sl,h'.get? b=some {o with slots:=sl}
 free: ∀b o,h.get? b=some o->H b=none->b∉ex->H' b=none
 there: ∀b o,h.get? b=some o->b∉ex-> ∃o',h'.get? b=some o'
 tups: ∀b xs,H b=some (.tup xs)->H' b=some (.tup xs)
 frzs: ∀b o u,H b=some (.frz o u)->H' b=some (.frz o u)
 tbls: ∀b ps,H b=some (.tbl ps)-> ∃more,H' b=some (.tbl (ps++more))
section
variable {fs fs' ex ex':List Addr}{H H1 H2:Hp}{h h1 h2 h':Heap}{a x e:Addr}{o:HO}
theorem Un.any(u:Un fs ex H H1 h h1){b:Addr}{ob:Obj}(q:h.get? b=some ob)(n:H b=none)(hx:b∉ex): ∃sl,h1.get? b=some {ob with slots:=sl}:=by
 by_cases hb:b∈fs
 ·exact u.slot b ob q n hb hx
 ·exact⟨ob.slots,u.keep b ob q n hb hx⟩
theorem Un.trans(a:Un fs ex H H1 h h1)(b:Un fs ex H1 H2 h1 h2):Un fs ex H H2 h h2 where
 keep:=λc ob q n hc hx=>b.keep c ob (a.keep c ob q n hc hx) (a.free c ob q n hx) hc hx
 slot:=λc ob q n hc hx=>by
  obtain⟨sl,e1⟩:=a.slot c ob q n hc hx
  obtain⟨sl',e2⟩:=b.slot c _ e1 (a.free c ob q n hx) hc hx
  exact⟨sl',e2⟩
 free:=λc ob q n hx=>by
  obtain⟨o',e1⟩:=a.there c ob q hx
  exact b.free c o' e1 (a.free c ob q n hx) hx
 there:=λc ob q hx=>by
  obtain⟨o',e1⟩:=a.there c ob q hx
  exact b.there c o' e1 hx
 tups:=λc xs q=>b.tups c xs (a.tups c xs q)
 frzs:=λc ob xs q=>b.frzs c ob xs (a.frzs c ob xs q)
 tbls:=λc ps q=>by
  obtain⟨m1,e1⟩:=a.tbls c ps q
  obtain⟨m2,e2⟩:=b.tbls c _ e1
  exact⟨m1++m2,by rw[e2,Array.append_assoc]⟩
theorem Un.kept(k: ∀b u,h.get? b=some u->h'.get? b=some u):Un fs ex H H h h':=
 ⟨λb ob q _ _ _=>k b ob q,λb ob q _ _ _=>⟨ob.slots,k b ob q⟩,λ_ _ _ n _=>n,λb ob q _=>⟨ob,k b ob q⟩,λ_ _ q=>q,λ_ _ _ q=>q,λ_ ps q=>⟨#[],by rw[q];simp⟩⟩
theorem Un.refl:Un fs ex H H h h:=Un.kept λ_ _ q=>q
theorem Un.laid(k: ∀b u,h.get? b=some u->h'.get? b=some u)(hp:h.objs.size<=a)(hn:H a=none):Un fs ex H (cF H a o) h h' where
 keep:=λb u q _ _ _=>k b u q
 slot:=λb u q _ _ _=>⟨u.slots,k b u q⟩
 free:=λb u q n _=>by rw[aM (Nat.ne_of_lt (Nat.lt_of_lt_of_le (Heap.lt_size q) hp))];exact n
 there:=λb u q _=>⟨u,k b u q⟩
 tups:=λb xs q=>by rw[aM (bz q hn)];exact q
 frzs:=λb u xs q=>by rw[aM (bz q hn)];exact q
 tbls:=λb ps q=>⟨#[],by rw[aM (bz q hn),q];simp⟩
theorem Un.write(mu:BL (H x))(he:e=x\/H e=some (.own x))(k: ∀b u,b≠e->h.get? b=some u->h'.get? b=some u)(heo: ∃u,h'.get? e=some u):Un fs ex H (cF H x o) h h':=by
 have hx: ∀b,H b=none->b≠x:=λb n z=>by subst z;rw[n] at mu;exact mu
 have hb: ∀b,H b=none->b≠e:=λb n z=>by
  subst z;rcases he with r|r
  ·exact hx b n r
  ·rw[n] at r;cases r
 have hm: ∀b u,H b=some u-> ¬BL (some u)->b≠x:=λb u q nm z=>by subst z;rw[q] at mu;exact nm mu
 refine⟨λb u q n _ _=>k b u (hb b n) q,λb u q n _ _=>⟨u.slots,k b u (hb b n) q⟩,λb u q n _=>by rw[aM (hx b n)];exact n,λb u q _=>?_,
  λb xs q=>by rw[aM (hm b _ q λz=>z)];exact q,λb u xs q=>by rw[aM (hm b _ q λz=>z)];exact q,λb ps q=>⟨#[],by rw[aM (hm b _ q λz=>z),q];simp⟩⟩
 by_cases hbe:b=e
 ·subst hbe;exact heo
 ·exact⟨u,k b u hbe q⟩
end
def trk(h:Heap)(H:Hp):List Addr:=(List.range h.objs.size).filter λa=>(H a).isSome
def n8(h:Heap)(H:Hp):Heap:=W.hideAll h (trk h H)
theorem tw(h:Heap)(H:Hp):(n8 h H).objs.size=h.objs.size:=W.hideAll_size _ _
theorem wf {h:Heap}{H:Hp}{b:Addr}{o:Obj}(e:h.get? b=some o)(n:H b=none):(n8 h H).get? b=some o:=
 W.hideAll_get _ e λhm=>by
  have q:(H b).isSome=true:=(List.mem_filter.mp hm).2
  rw[n] at q;simp at q
theorem yj {h:Heap}{H:Hp}{b:Addr}{o:Obj}(e:(n8 h H).get? b=some o):h.get? b=some o/\H b=none:=by
 have e':h.get? b=some o:=W.of_hideAll (trk h H) e
 refine⟨e',?_⟩
 cases q:H b with
 |none=>rfl
 |some x=>
  have hm:b∈trk h H:=List.mem_filter.mpr ⟨List.mem_range.mpr (Heap.lt_size e'),by simp[q]⟩
  have z:(n8 h H).get? b=none:=W.hideAll_none (trk h H) hm
  rw[z] at e;cases e
structure Mod(K:W.Frag)(mg:Str->Option Value)(base:Heap):Prop where
 kin:K.In base
 glob:base.Ns mainGlobals mg
 blt: ∃mb,base.Ns builtinsNs mb/\ ∀x:Str,x≠"__name__"->mb x=bootBuiltins x
 nolimit:base.NoLimit
structure Cx where
 prog:Program
 w:World
 K:W.Frag
 mg:Str->Option Value
 base:Heap
 A:Around
 N:List Str
 s₀:Shared
 H₀:Hp
 env:Env
 outer:List Env
 stack:List Env
 ex:List Addr
 fn:Str->Bool
 calm:Bool
 pn:List (Addr×Obj)
 xe:Value->Shared->Prop
def gJ(l:List Env):List Addr:=l.filterMap (·.frame)
abbrev Cx.fs(X:Cx):List Addr:=gJ X.outer
def qw(sc:Scope)(x:Str):Prop:=sc.names.lookup x=some .local\/sc.names.lookup x=some .cell\/sc.names.lookup x=some .free
def wu(sc:Scope)(x:Str):Prop:=sc.names.lookup x=some .local\/sc.names.lookup x=some .cell
def BQ(env:Env)(h:Heap)(m:Str->Option Value)(x:Str)(u:Value):Prop:=
 (env.kindOf x=some .local/\m x=some u)\/((env.kindOf x=some .cell\/env.kindOf x=some .free)/\ ∃c,env.cells.lookup x=some c/\h.IsCell c (some u))
structure Cx.Ok(X:Cx):Prop where
 mod:Mod X.K X.mg X.base
 kind:X.env.scope.kind=.function
 glob:X.env.globals=mainGlobals
 blt:X.env.builtins=builtinsNs
 above:X.s₀.heap.objs.size<=X.env.locals
 inj: ∀x y c,X.env.cells.lookup x=some c->X.env.cells.lookup y=some c->x=y
 has: ∀x,(X.env.kindOf x=some .cell\/X.env.kindOf x=some .free)-> ∃c,X.env.cells.lookup x=some c
 cab: ∀x c,X.fn x=true->X.env.cells.lookup x=some c->X.s₀.heap.objs.size<=c
 hd:X.calm=true->X.A.handled=none
 frames:X.A.frames=some X.stack
 stk:X.stack=X.outer\/(X.stack=X.env::X.outer/\X.env.frame=some X.env.locals)
 exf: ∀b∈X.ex,b≠X.env.locals/\ ∀x c,X.env.cells.lookup x=some c->c≠b
 bs: ∀b o,X.base.get? b=some o->X.s₀.heap.get? b=some o/\X.H₀ b=none
 bsz:X.base.objs.size<=X.s₀.heap.objs.size
 noex: ∀b o,X.base.get? b=some o->b∉X.ex
 exfs: ∀b∈X.ex,b∉X.fs
 funs:X.s₀.heap.FunFrames X.base X.outer
 frf: ∀b∈X.fs,X.H₀ b=none
structure Inv(X:Cx)(ae:List (Addr×Obj))(σ:List (Option V))(H:Hp)(s:Shared):Prop where
 ok:X.Ok
 os:s.os=X.s₀.os
 bare:AllBare s.gens
 base:Un X.fs X.ex X.H₀ H X.s₀.heap s.heap
 loc: ∃m,s.heap.Ns X.env.locals m/\ ∀(i:Nat) (x:Str) (v:V),X.N[i]? =some x->σ[i]? =some (some v)->qw X.env.scope x-> ∃u,RelV v u/\BQ X.env s.heap m x u
 cell: ∀x c,X.env.cells.lookup x=some c-> ∃v,s.heap.IsCell c v
 free:H X.env.locals=none
 freeC: ∀x c,X.env.cells.lookup x=some c->H c=none
 pin: ∀p∈X.pn++ae,s.heap.get? p.1=some p.2/\H p.1=none/\p.1≠X.env.locals/\p.1∉X.fs/\ ∀v,p.2.data≠ .cell v
 hok:HOk X.prog X.w H s.heap
 len:σ.length=X.N.length
section
variable {X:Cx}{ae:List (Addr×Obj)}{σ:List (Option V)}{H H':Hp}{s:Shared}{h':Heap}
theorem Cx.Ok.nofr(ok:X.Ok){b:Addr}{o:Obj}(e:X.base.get? b=some o):b∉X.fs:=λhb=>by
 have:=(ok.funs.mem hb).1
 rw[e] at this;cases this
theorem Inv.bs(I:Inv X ae σ H s): ∀b o,X.base.get? b=some o->s.heap.get? b=some o/\H b=none:=λb o e=>
 ⟨I.base.keep b o (I.ok.bs b o e).1 (I.ok.bs b o e).2 (I.ok.nofr e) (I.ok.noex b o e),I.base.free b o (I.ok.bs b o e).1 (I.ok.bs b o e).2 (I.ok.noex b o e)⟩
theorem Inv.bk(I:Inv X ae σ H s): ∀b o,X.base.get? b=some o->s.heap.get? b=some o:=λb o e=>(I.bs b o e).1
theorem Inv.mod(I:Inv X ae σ H s):Mod X.K X.mg X.base:=I.ok.mod
theorem Inv.kIn(I:Inv X ae σ H s):X.K.In s.heap:=I.ok.mod.kin.keeps I.bk
theorem Inv.lt(I:Inv X ae σ H s):X.env.locals<s.heap.objs.size:=let⟨_,hn,_⟩:=I.loc;hn.lt
theorem Inv.sz(I:Inv X ae σ H s):X.s₀.heap.objs.size<=s.heap.objs.size:=Nat.le_trans I.ok.above (Nat.le_of_lt I.lt)
theorem Inv.nofs(I:Inv X ae σ H s){a:Addr}(h:s.heap.objs.size<=a):a∉X.fs:=λhb=>by
 obtain⟨_,o,ho,_⟩:=I.ok.funs.mem hb
 exact absurd (Nat.lt_of_lt_of_le (Heap.lt_size ho) (Nat.le_trans I.sz h)) (Nat.lt_irrefl _)
theorem Inv.cne(I:Inv X ae σ H s): ∀x c,X.env.cells.lookup x=some c->c≠X.env.locals:=λx c e z=>by
 obtain⟨v,o,ho,hd⟩:=I.cell x c e
 obtain⟨m,⟨o',es,ep,ho',hd',_⟩,_⟩:=I.loc
 rw[z,ho'] at ho;cases ho;rw[hd'] at hd;cases hd
theorem Inv.funs(I:Inv X ae σ H s):s.heap.FunFrames X.base X.outer:=by
 have all: ∀(l:List Env),(∀b∈gJ l,b∈X.fs)->X.s₀.heap.FunFrames X.base l->s.heap.FunFrames X.base l:=by
  intro l
  induction l with
  |nil=>intro _ _;trivial
  |cons env r ih=>
   intro hs hl;obtain⟨hk,⟨L,o,hf,hn,ho,hd⟩,hr⟩:=hl
   have hL:L∈X.fs:=hs L (by unfold gJ;rw[List.filterMap_cons,hf];exact List.mem_cons_self)
   obtain⟨sl,e⟩:=I.base.slot L o ho (I.ok.frf L hL) hL λz=>I.ok.exfs L z hL
   exact⟨hk,⟨L,_,hf,hn,e,hd⟩,ih (λb hb=>hs b (by unfold gJ;rw[List.filterMap_cons,hf];exact List.mem_cons_of_mem _ hb)) hr⟩
 exact all X.outer (λ_ hb=>hb) I.ok.funs
theorem Inv.stack(I:Inv X ae σ H s):s.heap.FunFrames X.base X.stack:=by
 rcases I.ok.stk with e|⟨e,hf⟩
 ·rw[e];exact I.funs
 ·rw[e]
  obtain⟨m,hn,_⟩:=I.loc
  refine .cons (by rw[I.ok.kind];decide) hf hn ?_ I.funs
  exact Heap.get?_none_of_le (Nat.le_trans I.ok.bsz I.ok.above)
theorem Inv.stkSub(I:Inv X ae σ H s): ∀b∈gJ X.stack,b∈X.env.locals::X.fs:=λb hb=>by
 rcases I.ok.stk with e|⟨e,hf⟩
 ·rw[e] at hb;exact List.mem_cons_of_mem _ hb
 ·rw[e] at hb
  unfold gJ at hb;rw[List.filterMap_cons,hf] at hb;exact hb
theorem Inv.stkFree(I:Inv X ae σ H s): ∀b∈gJ X.stack,H b=none:=λb hb=>by
 rcases List.mem_cons.mp (I.stkSub b hb) with e|hb
 ·rw[e];exact I.free
 ·obtain⟨_,o,ho,_⟩:=I.ok.funs.mem hb
  exact I.base.free b o ho (I.ok.frf b hb) λz=>I.ok.exfs b z hb
theorem Inv.step {g':Array GenState}{t':Nat}{d':Drawn}{ch:List Addr}(I:Inv X ae σ H s)
 (hch: ∀b∈ch,(b∈X.ex\/X.s₀.heap.objs.size<=b)/\b≠X.env.locals/\(∀x c,X.env.cells.lookup x=some c->c≠b)/\ ∀p∈X.pn++ae,p.1≠b)
 (keep: ∀b o,b≠X.env.locals->b∉X.fs->b∉ch->s.heap.get? b=some o->H b=none->h'.get? b=some o)
 (slot: ∀b o,b≠X.env.locals->b∈X.fs->b∉ch->s.heap.get? b=some o->H b=none-> ∃sl,h'.get? b=some {o with slots:=sl}) (free: ∀b o,b∉ch->s.heap.get? b=some o->H b=none->H' b=none)
 (there: ∀b o,b∉ch->s.heap.get? b=some o-> ∃o',h'.get? b=some o')
 (tups: ∀b xs,H b=some (.tup xs)->H' b=some (.tup xs)) (frzs: ∀b o u,H b=some (.frz o u)->H' b=some (.frz o u)) (tbls: ∀b ps,H b=some (.tbl ps)-> ∃more,H' b=some (.tbl (ps++more)))
 (ns: ∀m,s.heap.Ns X.env.locals m->h'.Ns X.env.locals m) (hok:HOk X.prog X.w H' h') (hg:AllBare g'):
 Inv X ae σ H' {s with heap:=h',gens:=g',drawn:=d',toks:=t'}:=by
 have neL: ∀b o,X.s₀.heap.get? b=some o->b≠X.env.locals:=λb o e=>Nat.ne_of_lt (Nat.lt_of_lt_of_le (Heap.lt_size e) I.ok.above)
 have neC: ∀b o,X.s₀.heap.get? b=some o->b∉X.ex->b∉ch:=λb o e hx hb=>by
  rcases(hch b hb).1 with z|z
  ·exact hx z
  ·exact absurd (Nat.lt_of_lt_of_le (Heap.lt_size e) z) (Nat.lt_irrefl _)
 have cellK: ∀x c,X.env.cells.lookup x=some c-> ∀v,s.heap.IsCell c v->h'.IsCell c v:=λx c e v hq_=>by
  obtain⟨o,ho,hd⟩:=hq_
  have nch:c∉ch:=λz=>(hch c z).2.2.1 x c e rfl
  by_cases hc:c∈X.fs
  ·obtain⟨sl,q⟩:=slot c o (I.cne x c e) hc nch ho (I.freeC x c e)
   exact⟨_,q,hd⟩
  ·exact⟨o,keep c o (I.cne x c e) hc nch ho (I.freeC x c e),hd⟩
 refine⟨I.ok,I.os,hg,⟨λb o e n hb hx=>?_,λb o e n hb hx=>?_,λb o e n hx=>?_,λb o e hx=>?_,λb xs e=>tups b xs (I.base.tups b xs e),λb o xs e=>frzs b o xs (I.base.frzs b o xs e),λb ps e=>?_⟩,?_,λx c e=>?_,?_,λx c e=>?_,λp hp=>?_,hok,I.len⟩
 ·exact keep b o (neL b o e) hb (neC b o e hx) (I.base.keep b o e n hb hx) (I.base.free b o e n hx)
 ·obtain⟨sl,e1⟩:=I.base.slot b o e n hb hx
  obtain⟨sl',e2⟩:=slot b _ (neL b o e) hb (neC b o e hx) e1 (I.base.free b o e n hx)
  exact⟨sl',e2⟩
 ·obtain⟨o',e1⟩:=I.base.there b o e hx
  exact free b o' (neC b o e hx) e1 (I.base.free b o e n hx)
 ·obtain⟨o',e1⟩:=I.base.there b o e hx
  exact there b o' (neC b o e hx) e1
 ·obtain⟨m1,e1⟩:=I.base.tbls b ps e
  obtain⟨m2,e2⟩:=tbls b _ e1
  exact⟨m1++m2,by rw[e2,Array.append_assoc]⟩
 ·obtain⟨m,hn,hl⟩:=I.loc
  refine⟨m,ns m hn,λi x v e1 e2 e3=>?_⟩
  obtain⟨u,r,l⟩:=hl i x v e1 e2 e3
  refine⟨u,r,?_⟩
  rcases l with l|⟨k,c,e,z⟩
  ·exact .inl l
  ·exact .inr ⟨k,c,e,cellK x c e _ z⟩
 ·obtain⟨v,z⟩:=I.cell x c e
  exact⟨v,cellK x c e v z⟩
 ·obtain⟨m,⟨o,_,_,ho,_⟩,_⟩:=I.loc
  exact free _ o (λz=>(hch _ z).2.1 rfl) ho I.free
 ·obtain⟨v,o,ho,hd⟩:=I.cell x c e
  exact free c o (λz=>(hch c z).2.2.1 x c e rfl) ho (I.freeC x c e)
 ·obtain⟨e,n,ne,nf,d⟩:=I.pin p hp
  have nch:p.1∉ch:=λz=>(hch p.1 z).2.2.2 p hp rfl
  exact⟨keep p.1 p.2 ne nf nch e n,free p.1 p.2 nch e n,ne,nf,d⟩
theorem Inv.un {t':Nat}(I:Inv X ae σ H s)(u:Un X.fs [] H H' s.heap h')(hok:HOk X.prog X.w H' h'):Inv X ae σ H' {s with heap:=h',toks:=t'}:=by
 obtain⟨m,⟨o,es,ep,ho,r⟩,_⟩:=id I.loc
 obtain⟨sl,hL⟩:=u.any ho I.free (by simp)
 exact I.step (g':=s.gens) (d':=s.drawn) (ch:=[]) (λ_ z=>nomatch z) (λb o _ hb _ e n=>u.keep b o e n hb (by simp)) (λb o _ hb _ e n=>u.slot b o e n hb (by simp)) (λb o _ e n=>u.free b o e n (by simp)) (λb o _ e=>u.there b o e (by simp)) u.tups u.frzs u.tbls (λm' hm=>by
  obtain⟨o',es',ep',ho',r'⟩:=hm
  rw[ho] at ho';cases ho';exact⟨_,es',ep',hL,r'⟩) hok I.bare
theorem Inv.call {g':Array GenState}{t':Nat}{d':Drawn}{ch:List Addr}(I:Inv X ae σ H s)(u:Un (gJ X.stack) ch H H' s.heap h')(hok:HOk X.prog X.w H' h')(hg:AllBare g')
 (hch: ∀b∈ch,(b∈X.ex\/X.s₀.heap.objs.size<=b)/\b≠X.env.locals/\(∀x c,X.env.cells.lookup x=some c->c≠b)/\ ∀p∈X.pn++ae,p.1≠b):
 Inv X ae σ H' {s with heap:=h',gens:=g',drawn:=d',toks:=t'}:=by
 obtain⟨m,⟨o,es,ep,ho,r⟩,_⟩:=id I.loc
 obtain⟨sl,hL⟩:=u.any ho I.free λz=>(hch _ z).2.1 rfl
 exact I.step (ch:=ch) hch (λb o hL hb hc e n=>u.keep b o e n (λz=>(List.mem_cons.mp (I.stkSub b z)).elim hL hb) hc) (λb o _ _ hc e n=>u.any e n hc) (λb o hc e n=>u.free b o e n hc) (λb o hc e=>u.there b o e hc) u.tups u.frzs u.tbls (λm' hm=>by
  obtain⟨o',es',ep',ho',r'⟩:=hm
  rw[ho] at ho';cases ho';exact⟨_,es',ep',hL,r'⟩) hok hg
theorem Inv.turned {t':Nat}{it:Addr}(I:Inv X ae σ H s)(k: ∀b o,b≠it->s.heap.get? b=some o->h'.get? b=some o)(hn:H it=none)(hL:it≠X.env.locals)
 (h1:it∈X.ex\/X.s₀.heap.objs.size<=it) (h2: ∀x c,X.env.cells.lookup x=some c->c≠it) (h3: ∀p∈X.pn++ae,p.1≠it):Inv X ae σ H {s with heap:=h',toks:=t'}:=by
 have nit: ∀b u,H b=some u->b≠it:=λb u e z=>by rw[z,hn] at e;cases e
 refine I.step (g':=s.gens) (d':=s.drawn) (ch:=[it]) (λb hb=>?_) (λb o _ _ hc e _=>k b o (λz=>hc (by simp[z])) e) (λb o _ _ hc e _=>⟨o.slots,k b o (λz=>hc (by simp[z])) e⟩) (λ_ _ _ _ n=>n)
  (λb o hc e=>⟨o,k b o (λz=>hc (by simp[z])) e⟩) (λ_ _ e=>e) (λ_ _ _ e=>e) (λb ps e=>⟨#[],by rw[e];simp⟩) (λm hm=>?_) (λb u e=>?_) I.bare
 ·have e:b=it:=by simpa using hb
  subst e;exact⟨h1,hL,h2,h3⟩
 ·obtain⟨o,es,ep,ho,r⟩:=hm
  exact⟨o,es,ep,k _ o (Ne.symm hL) ho,r⟩
 ·refine(I.hok b u e).stay (λc v hc q=>k c v ?_ q) (λ_ q=>q) λ_ _ q=>q
  rcases hc with z|z
  ·rw[z];exact nit b u e
  ·exact nit c _ z
theorem Inv.tok(I:Inv X ae σ H s)(t:Nat):Inv X ae σ H {s with toks:=t}:=I.un (h':=s.heap) (t':=t) Un.refl I.hok
theorem Inv.kept {t':Nat}(I:Inv X ae σ H s)(k: ∀b u,s.heap.get? b=some u->h'.get? b=some u):Inv X ae σ H {s with heap:=h',toks:=t'}:=I.un (Un.kept k) (I.hok.kept k)
theorem Inv.laid {a:Addr}{o:HO}{t':Nat}(I:Inv X ae σ H s)(k: ∀b u,s.heap.get? b=some u->h'.get? b=some u)(hp:s.heap.objs.size<=a)(new:ObjOk X.prog X.w (cF H a o) h' a o):
 Inv X ae σ (cF H a o) {s with heap:=h',toks:=t'}:=I.un (Un.laid k hp (I.hok.fresh hp)) (I.hok.laid k hp new)
theorem Inv.write {x e:Addr}{o:HO}{t':Nat}(I:Inv X ae σ H s)(mu:BL (H x))(he:e=x\/H e=some (.own x))(k: ∀b u,b≠e->s.heap.get? b=some u->h'.get? b=some u)(heo: ∃u,h'.get? e=some u)
 (new:ObjOk X.prog X.w (cF H x o) h' x o):Inv X ae σ (cF H x o) {s with heap:=h',toks:=t'}:=I.un (Un.write mu he k heo) (I.hok.write mu he k heo new)
theorem Inv.pins_of {pins':List (Addr×Obj)}(I:Inv X ae σ H s)(h: ∀p∈pins',s.heap.get? p.1=some p.2/\H p.1=none/\p.1≠X.env.locals/\p.1∉X.fs/\ ∀v,p.2.data≠ .cell v):Inv X pins' σ H s:=
 ⟨I.ok,I.os,I.bare,I.base,I.loc,I.cell,I.free,I.freeC,λp hp=>(List.mem_append.mp hp).elim (λz=>I.pin p (List.mem_append_left _ z)) (h p),I.hok,I.len⟩
theorem oR {N:List Str}(hN:N.Nodup){i j:Nat}{x:Str}(a:N[i]? =some x)(b:N[j]? =some x):i=j:=by
 obtain⟨h1,e1⟩:=List.getElem?_eq_some_iff.mp a
 obtain⟨h2,e2⟩:=List.getElem?_eq_some_iff.mp b
 exact(List.getElem_inj hN).mp (e1.trans e2.symm)
theorem js {M:Model}{A:Around}{E:Value->Shared->Prop}{i:Nat}{x:Str}{v:V}{u:Value}{Q:Unit->Shared->Prop}(I:Inv X ae σ H s)(hN:X.N.Nodup)(hi:X.N[i]? =some x)(hx:wu X.env.scope x)(r:RelV v u)
 (h: ∀s',Inv X ae (σ.set i (some v)) H s'->(∃a,Heap.SameBut a s.heap s'.heap/\(a=X.env.locals\/X.env.cells.lookup x=some a))->Q () s') (hf:X.fn x=true\/X.env.scope.names.lookup x=some .local:=by first|exact .inl rfl|exact .inr rfl|assumption):wpAny M A (storeName X.env x u) Q E s:=by
 obtain⟨m,hn,hl⟩:=id I.loc
 have hcls:(X.env.scope.kind== .class||(X.env.scope.kind== .module&&X.env.locals !=X.env.globals))=false:=by rw[I.ok.kind];rfl
 have hiσ:i<σ.length:=by rw[I.len];exact(List.getElem?_eq_some_iff.mp hi).1
 have cne:=I.cne
 have tracked: ∀ {a:Addr} {h':Heap},(∃o,s.heap.get? a=some o/\H a=none)->Heap.SameBut a s.heap h'->HOk X.prog X.w H h':=λ{a h'} ha hs b ob e=>by
  obtain⟨_,_,hfree⟩:=ha
  refine(I.hok b ob e).stay (λc w' hc q=>(hs.2 c ?_).trans q) (λ_ q=>q) λ_ _ q=>q
  rintro rfl
  rcases hc with rfl|hc
  ·rw[hfree] at e;cases e
  ·rw[hfree] at hc;cases hc
 rcases hx with hk|hk
 ·refine wpAny_storeName_local hk hn (λh' hn' hs=>?_) hcls
  obtain⟨oL,_,_,hoL,_⟩:=id hn
  refine h _ ⟨I.ok,I.os,I.bare,⟨λb o e n hb hx=>?_,λb o e n hb hx=>?_,I.base.free,λb o e hx=>?_,I.base.tups,I.base.frzs,I.base.tbls⟩,⟨_,hn',λj y v' e1 e2 e3=>?_⟩,λy c e=>?_,I.free,I.freeC,λp hp=>?_,tracked ⟨oL,hoL,I.free⟩ hs,by simpa using I.len⟩ ⟨_,hs,.inl rfl⟩
  ·exact(hs.2 b (Nat.ne_of_lt (Nat.lt_of_lt_of_le (Heap.lt_size e) I.ok.above))).trans (I.base.keep b o e n hb hx)
  ·obtain⟨sl,e1⟩:=I.base.slot b o e n hb hx
   exact⟨sl,(hs.2 b (Nat.ne_of_lt (Nat.lt_of_lt_of_le (Heap.lt_size e) I.ok.above))).trans e1⟩
  ·obtain⟨o',e1⟩:=I.base.there b o e hx
   exact⟨o',(hs.2 b (Nat.ne_of_lt (Nat.lt_of_lt_of_le (Heap.lt_size e) I.ok.above))).trans e1⟩
  ·by_cases hj:j=i
   ·subst hj
    rw[hi] at e1;cases e1;rw[List.getElem?_set_self hiσ] at e2;cases e2
    exact⟨u,r,.inl ⟨hk,by simp⟩⟩
   ·rw[List.getElem?_set_ne (Ne.symm hj)] at e2
    obtain⟨u',r',q⟩:=hl j y v' e1 e2 e3
    refine⟨u',r',?_⟩
    rcases q with⟨k,e⟩|⟨k,c,e,z⟩
    ·refine .inl ⟨k,?_⟩
     have:y≠x:=λe=>hj (oR hN e1 (e▸hi))
     simp[this,e]
    ·exact .inr ⟨k,c,e,z.sameBut hs (cne y c e)⟩
  ·obtain⟨w',z⟩:=I.cell y c e
   exact⟨w',z.sameBut hs (cne y c e)⟩
  ·obtain⟨e,n,ne,nf,d⟩:=I.pin p hp
   exact⟨(hs.2 p.1 ne).trans e,n,ne,nf,d⟩
 ·have hfn:X.fn x=true:=by
   rcases hf with z|z
   ·exact z
   ·rw[z] at hk;cases hk
  obtain⟨c,hc⟩:=I.ok.has x (.inl hk)
  obtain⟨w',z⟩:=I.cell x c hc
  refine wpAny_storeName_cell I.ok.kind hk hc z (λh' hc' hs=>?_)
  obtain⟨oc,hoc,hocd⟩:=id z
  refine h {s with heap:=h'} ⟨I.ok,I.os,I.bare,⟨λb o e n hb hx=>?_,λb o e n hb hx=>?_,I.base.free,λb o e hx=>?_,I.base.tups,I.base.frzs,I.base.tbls⟩,⟨m,hn.sameBut hs (Ne.symm (cne x c hc)),λj y v' e1 e2 e3=>?_⟩,λy c' e=>?_,I.free,I.freeC,λp hp=>?_,tracked ⟨oc,hoc,I.freeC x c hc⟩ hs,by simpa using I.len⟩ ⟨c,hs,.inr hc⟩
  ·exact(hs.2 b (Nat.ne_of_lt (Nat.lt_of_lt_of_le (Heap.lt_size e) (I.ok.cab x c hfn hc)))).trans (I.base.keep b o e n hb hx)
  ·obtain⟨sl,e1⟩:=I.base.slot b o e n hb hx
   exact⟨sl,(hs.2 b (Nat.ne_of_lt (Nat.lt_of_lt_of_le (Heap.lt_size e) (I.ok.cab x c hfn hc)))).trans e1⟩
  ·obtain⟨o',e1⟩:=I.base.there b o e hx
   exact⟨o',(hs.2 b (Nat.ne_of_lt (Nat.lt_of_lt_of_le (Heap.lt_size e) (I.ok.cab x c hfn hc)))).trans e1⟩
  ·by_cases hj:j=i
   ·subst hj
    rw[hi] at e1;cases e1;rw[List.getElem?_set_self hiσ] at e2;cases e2
    exact⟨u,r,.inr ⟨.inl hk,c,hc,hc'⟩⟩
   ·rw[List.getElem?_set_ne (Ne.symm hj)] at e2
    obtain⟨u',r',q⟩:=hl j y v' e1 e2 e3
    refine⟨u',r',?_⟩
    rcases q with q|⟨k,c',e,z'⟩
    ·exact .inl q
    ·refine .inr ⟨k,c',e,z'.sameBut hs ?_⟩
     rintro rfl
     exact hj (oR hN e1 (I.ok.inj _ _ _ e hc▸hi))
  ·by_cases hcc:c'=c
   ·subst hcc;exact⟨_,hc'⟩
   ·obtain⟨w2,z2⟩:=I.cell y c' e
    exact⟨w2,z2.sameBut hs hcc⟩
  ·obtain⟨e,n,ne,nf,d⟩:=I.pin p hp
   refine⟨(hs.2 p.1 ?_).trans e,n,ne,nf,d⟩
   intro q;rw[q,hoc] at e;have q':oc=p.2:=Option.some.inj e
   exact d w' (by rw[<-q'];exact hocd)
theorem kW {M:Model}{A:Around}{E:Value->Shared->Prop}{i:Nat}{x:Str}{v:V}{u:Value}{Q:Unit->Shared->Prop}(I:Inv X ae σ H s)(hN:X.N.Nodup)(hi:X.N[i]? =some x)(hx:wu X.env.scope x)(r:RelV v u)
 (h: ∀s',Inv X ae (σ.set i (some v)) H s'->Q () s') (hf:X.fn x=true\/X.env.scope.names.lookup x=some .local:=by first|exact .inl rfl|exact .inr rfl|assumption):wpAny M A (storeName X.env x u) Q E s:=
 js I hN hi hx r (λs' I' _=>h s' I') hf
theorem Inv.call' {s':Shared}{ch:List Addr}(I:Inv X ae σ H s)(ho:s'.os=s.os)(u:Un (gJ X.stack) ch H H' s.heap s'.heap)(hok:HOk X.prog X.w H' s'.heap)(hg:AllBare s'.gens)
 (hch: ∀b∈ch,(b∈X.ex\/X.s₀.heap.objs.size<=b)/\b≠X.env.locals/\(∀x c,X.env.cells.lookup x=some c->c≠b)/\ ∀p∈X.pn++ae,p.1≠b):Inv X ae σ H' s':=by
 obtain⟨h',g',d',t',o'⟩:=s'
 have e:o'=s.os:=ho
 subst e;exact I.call (g':=g') (t':=t') (d':=d') u hok hg hch
end
abbrev XK:=Value->Option Addr->Hp->Prop
abbrev St:=List (Option V)
abbrev VK:=V->Hp->Prop
abbrev TE:=St->Hp->VK->Prop
abbrev TT:=St->Hp->(Bool->Hp->Prop)->Prop
abbrev TA:=St->Hp->(List V->Hp->Prop)->Prop
structure Ends where
 nx:St->Hp->Prop
 rt:VK
 bk:St->Hp->Prop:=λ_ _=>False
 ct:St->Hp->Prop:=λ_ _=>False
abbrev TS:=Ends->St->Hp->Prop
def EP(X:Cx)(ae:List (Addr×Obj))(σ:St)(Q:VK)(u:Value)(s':Shared):Prop:= ∃v H',Inv X ae σ H' s'/\RelV v u/\Q v H'
def TP(X:Cx)(ae:List (Addr×Obj))(σ:St)(Q:Bool->Hp->Prop)(b:Bool)(s':Shared):Prop:= ∃H',Inv X ae σ H' s'/\Q b H'
def AP(X:Cx)(ae:List (Addr×Obj))(σ:St)(Q:List V->Hp->Prop)(us:List Value)(s':Shared):Prop:= ∃vs H',Inv X ae σ H' s'/\Vals vs us/\Q vs H'
def SP(X:Cx)(ae:List (Addr×Obj))(D:Ends)(f:Flow)(s':Shared):Prop:=
 match f with
 | .next=> ∃σ' H',Inv X ae σ' H' s'/\D.nx σ' H'
 | .brk=> ∃σ' H',Inv X ae σ' H' s'/\D.bk σ' H'
 | .cont=> ∃σ' H',Inv X ae σ' H' s'/\D.ct σ' H'
 | .ret u=> ∃v σ' H',Inv X ae σ' H' s'/\RelV v u/\D.rt v H'
def PE(X:Cx)(e:Expr)(t:TE):Prop:=
 ∀(ae:List (Addr×Obj)) (s:Shared) (σ:St) (H:Hp) (Q:VK),Inv X ae σ H s->t σ H Q->wpAny (model X.prog X.w) X.A (eval e X.env) (EP X ae σ Q) X.xe s
def PT(X:Cx)(e:Expr)(t:TT):Prop:=
 ∀(ae:List (Addr×Obj)) (s:Shared) (σ:St) (H:Hp) (Q:Bool->Hp->Prop),Inv X ae σ H s->t σ H Q->wpAny (model X.prog X.w) X.A (isTrue e X.env (eval e X.env)) (TP X ae σ Q) X.xe s
def PW(X:Cx)(e:Expr)(t:TT):Prop:=
 ∀(whole:Sem Value) (ae:List (Addr×Obj)) (s:Shared) (σ:St) (H:Hp) (Q:Bool->Hp->Prop),Inv X ae σ H s->t σ H Q->wpAny (model X.prog X.w) X.A (isTrue e X.env whole) (TP X ae σ Q) X.xe s
theorem PW.pt {X:Cx}{e:Expr}{t:TT}(h:PW X e t):PT X e t:=h _
def PA(X:Cx)(es:List Expr)(t:TA):Prop:=
 ∀(pos:Pos) (ae:List (Addr×Obj)) (s:Shared) (σ:St) (H:Hp) (Q:List V->Hp->Prop),Inv X ae σ H s->t σ H Q->wpAny (model X.prog X.w) X.A (spliced (backTo pos (starEach es X.env))) (AP X ae σ Q) X.xe s
def PS(X:Cx)(st:Stmt)(t:TS):Prop:=
 ∀(ae:List (Addr×Obj)) (s:Shared) (σ:St) (H:Hp) (D:Ends),Inv X ae σ H s->t D σ H->wpAny (model X.prog X.w) X.A (exec st X.env) (SP X ae D) X.xe s
def PSs(X:Cx)(st:List Stmt)(t:TS):Prop:=
 ∀(ae:List (Addr×Obj)) (s:Shared) (σ:St) (H:Hp) (D:Ends),Inv X ae σ H s->t D σ H->wpAny (model X.prog X.w) X.A (execs st X.env) (SP X ae D) X.xe s
theorem cm {α:Type}{t:Sem α}{Q Q':α->Shared->Prop}{M:Model}{A:Around}{E:Value->Shared->Prop}{s:Shared}(h:wpAny M A t Q E s)(hQ: ∀a s,Q a s->Q' a s):wpAny M A t Q' E s:=wpAny_mono h hQ λ_ _ x=>x
section
variable {X:Cx}
def Bl(i:Nat):TE:=λσ H Q=> ∃v,σ[i]? =some (some v)/\Q v H
def tC(v:V):TE:=λ_ H Q=>Q v H
theorem z9 {i:Nat}{x:Str}{pos:Pos}(hN:X.N[i]? =some x)(hv:qw X.env.scope x)(hd:(x==("__debug__":Str))=false:=by decide)(hcd:(x==("__classdict__":Str))=false:=by decide):PE X (.Name x pos) (Bl i):=by
 intro ae s σ H Q I h;obtain⟨v,e,h⟩:=h
 obtain⟨m,hn,hl⟩:=I.loc
 obtain⟨u,r,l⟩:=hl i x v hN e hv
 have fin:EP X ae σ Q u s:=⟨v,H,I,r,h⟩
 rcases l with⟨hk,hm⟩|⟨hk,c,hc,hcell⟩
 ·exact wpAny_Name (wpAny_loadName_local I.ok.kind hk hn hm fin) hd
 ·rcases hk with hk|hk
  ·exact wpAny_Name (wpAny_loadName_cell I.ok.kind hk hc hcell fin) hd
  ·exact wpAny_Name (wpAny_loadName_free I.ok.kind hk hc hcell fin hcd) hd
theorem zZ {i j pos}:PE X (.Constant (.int i) j pos) (tC (.int i)):=λ_ _ _ H _ I h=>wpAny_Constant_int ⟨.int i,H,I.tok _,⟨_,rfl⟩,h⟩
theorem AT {b j pos}:PE X (.Constant (.bool b) j pos) (tC (.bl b)):=λ_ _ _ H _ I h=>Constant_bool ⟨.bl b,H,I,rfl,h⟩
theorem zf {j pos}:PE X (.Constant .none j pos) (tC .non):=λ_ _ _ H _ I h=>Constant_none ⟨.non,H,I,rfl,h⟩
theorem yP {x j pos}:PE X (.Constant (.str x) j pos) (tC (.str x)):=λ_ _ _ H _ I h=>Calls.Constant_str ⟨.str x,H,I.tok _,⟨_,rfl⟩,h⟩
def Gl(X:Cx)(x:Str):Prop:=X.env.kindOf x=some .globalImplicit
theorem ip {E:Value->Shared->Prop}{ae:List (Addr×Obj)}{s:Shared}{σ:St}{H:Hp}{x:Str}{u:Value}{pos:Pos}{Q:Value->Shared->Prop}(I:Inv X ae σ H s)(hg:Gl X x)(hm:X.mg x=some u)(h:Q u s)
 (hd:(x==("__debug__":Str))=false:=by decide):wpAny (model X.prog X.w) X.A (eval (.Name x pos) X.env) Q E s:=
 Calls.Name_function_global I.ok.kind hg (Calls.loadGlobal_global (by rw[I.ok.glob];exact I.mod.glob.keeps I.bk) hm h) hd
theorem ll {E:Value->Shared->Prop}{ae:List (Addr×Obj)}{s:Shared}{σ:St}{H:Hp}{x:Str}{u:Value}{pos:Pos}{Q:Value->Shared->Prop}(I:Inv X ae σ H s)(hg:Gl X x)(hm:X.mg x=none)(hv:bootBuiltins x=some u)(h:Q u s)
 (hn:x≠"__name__":=by decide) (hd:(x==("__debug__":Str))=false:=by decide):wpAny (model X.prog X.w) X.A (eval (.Name x pos) X.env) Q E s:=by
 obtain⟨mb,h1,h2⟩:=I.mod.blt
 exact Calls.Name_function_global I.ok.kind hg (Calls.loadGlobal_builtin (by rw[I.ok.glob];exact I.mod.glob.keeps I.bk) hm (by rw[I.ok.blt];exact h1.keeps I.bk) ((h2 x hn).trans hv) h) hd
theorem m5 {x:Str}{v:V}{u:Value}{pos:Pos}(hg:Gl X x)(hm:X.mg x=some u)(r:RelV v u)(hd:(x==("__debug__":Str))=false:=by decide):PE X (.Name x pos) (tC v):=
 λ_ _ _ H _ I h=>ip I hg hm ⟨v,H,I,r,h⟩ hd
theorem sZ {x:Str}{v:V}{u:Value}{pos:Pos}(hg:Gl X x)(hm:X.mg x=none)(hv:bootBuiltins x=some u)(r:RelV v u)(hn:x≠"__name__":=by decide)(hd:(x==("__debug__":Str))=false:=by decide):PE X (.Name x pos) (tC v):=
 λ_ _ _ H _ I h=>ll I hg hm hv ⟨v,H,I,r,h⟩ hn hd
variable {a b:Expr}{ta tb:TE}{pos:Pos}
variable {tA tB':TT}{rest:List Expr}
def BR(t u:TT):TT:=λσ H Q=>t σ H λc H1=>if c=true then u σ H1 Q else Q false H1
def Dl(t u:TT):TT:=λσ H Q=>t σ H λc H1=>if c=true then Q true H1 else u σ H1 Q
def CI(t:TT):TT:=λσ H Q=>t σ H λc H1=>Q (!c) H1
theorem pw_and1(ha:PT X a tA):PW X (.BoolOp .And [a] pos) tA:=by
 intro wh ae s σ H Q I h;refine isTrue_and (cm (ha ae s σ H Q I h) λc s1 e=>?_)
 cases c with
 |true=>exact isTrue_and_nil e
 |false=>exact e
theorem pw_or1(ha:PT X a tA):PW X (.BoolOp .Or [a] pos) tA:=by
 intro wh ae s σ H Q I h;refine isTrue_or (cm (ha ae s σ H Q I h) λc s1 e=>?_)
 cases c with
 |false=>exact isTrue_or_nil e
 |true=>exact e
theorem pw_and(ha:PT X a tA)(hb:PW X (.BoolOp .And (b::rest) pos) tB'):PW X (.BoolOp .And (a::b::rest) pos) (BR tA tB'):=by
 intro wh ae s σ H Q I h;refine isTrue_and (cm (ha ae s σ H _ I h) λc s1 hq_=>?_)
 obtain⟨H1,I1,q1⟩:=hq_
 cases c with
 |true=>exact hb wh ae s1 σ H1 Q I1 q1
 |false=>exact⟨H1,I1,q1⟩
theorem pw_or(ha:PT X a tA)(hb:PW X (.BoolOp .Or (b::rest) pos) tB'):PW X (.BoolOp .Or (a::b::rest) pos) (Dl tA tB'):=by
 intro wh ae s σ H Q I h;refine isTrue_or (cm (ha ae s σ H _ I h) λc s1 hq_=>?_)
 obtain⟨H1,I1,q1⟩:=hq_
 cases c with
 |true=>exact⟨H1,I1,q1⟩
 |false=>exact hb wh ae s1 σ H1 Q I1 q1
theorem zu(ha:PT X a tA):PT X (.UnaryOp .Not a pos) (CI tA):=by
 intro ae s σ H Q I h;exact isTrue_not (ha ae s σ H (λc H1=>Q (!c) H1) I h)
def A9(ta tb:TE):TE:=λσ H Q=>ta σ H λx H1=> ∃c,x=.bl c/\if c=true then tb σ H1 Q else Q (.bl false) H1
def Ck(ta tb:TE):TE:=λσ H Q=>ta σ H λx H1=> ∃c,x=.bl c/\if c=true then Q (.bl true) H1 else tb σ H1 Q
def AF(ta:TE):TE:=λσ H Q=>ta σ H λx H1=> ∃c,x=.bl c/\Q (.bl (!c)) H1
theorem zT {op}{t:TE}(h:PE X a t):PE X (.BoolOp op [a] pos) t:=λae s σ H Q I hw=>BoolOp_one (h ae s σ H Q I hw)
theorem yS(ha:PE X a ta)(hb:PE X (.BoolOp .And (b::rest) pos) tb):PE X (.BoolOp .And (a::b::rest) pos) (A9 ta tb):=by
 intro ae s σ H Q I h;refine BoolOp_and (cm (ha ae s σ H _ I h) λv s1 hq_=>?_)
 obtain⟨x,H1,I1,r1,q1⟩:=hq_
 obtain⟨c,rfl,q1⟩:=q1
 cases r1
 refine wpAny_truthy_bool ?_
 cases c with
 |true=>exact hb ae s1 σ H1 Q I1 q1
 |false=>exact⟨.bl false,H1,I1,rfl,q1⟩
theorem AX(ha:PE X a ta)(hb:PE X (.BoolOp .Or (b::rest) pos) tb):PE X (.BoolOp .Or (a::b::rest) pos) (Ck ta tb):=by
 intro ae s σ H Q I h;refine BoolOp_or (cm (ha ae s σ H _ I h) λv s1 hq_=>?_)
 obtain⟨x,H1,I1,r1,q1⟩:=hq_
 obtain⟨c,rfl,q1⟩:=q1
 cases r1
 refine wpAny_truthy_bool ?_
 cases c with
 |false=>exact hb ae s1 σ H1 Q I1 q1
 |true=>exact⟨.bl true,H1,I1,rfl,q1⟩
theorem zD(ha:PE X a ta):PE X (.UnaryOp .Not a pos) (AF ta):=by
 intro ae s σ H Q I h;refine UnaryOp_ (cm (ha ae s σ H _ I h) λv s1 hq_=>?_)
 obtain⟨x,H1,I1,r1,q1⟩:=hq_
 obtain⟨c,rfl,q1⟩:=q1
 cases r1
 exact not_of (wpAny_truthy_bool ⟨.bl (!c),H1,I1,rfl,q1⟩)
def Dz(t:TT)(ta tb:TE):TE:=λσ H Q=>t σ H λc H1=>if c=true then ta σ H1 Q else tb σ H1 Q
theorem wc {c:Expr}(hc:PT X c tA)(ha:PE X a ta)(hb:PE X b tb):PE X (.IfExp c a b pos) (Dz tA ta tb):=by
 intro ae s σ H Q I h;refine wpAny_IfExp (cm (hc ae s σ H _ I h) λd s1 hq_=>?_)
 obtain⟨H1,I1,q1⟩:=hq_
 cases d with
 |true=>exact ha ae s1 σ H1 Q I1 q1
 |false=>exact hb ae s1 σ H1 Q I1 q1
end
def SqL(K:W.Frag)(H:Hp)(a:Addr)(xs:List V):Prop:=
 Rd H a (.lst xs)\/
  ∃(o:Obj) (its:Array Value) (n:Nat),K.lookup a=some o/\o.cls=.type "list"/\o.dict=none/\o.data=.seq its n/\its.size<=sizeLine/\Vals xs its.toList
def SqT(K:W.Frag)(H:Hp)(a:Addr)(xs:List V):Prop:=
 Rd H a (.tup xs)\/
  ∃(o:Obj) (its:Array Value) (n:Nat),K.lookup a=some o/\o.cls=.type "tuple"/\o.data=.seq its n/\its.size<=sizeLine/\Vals xs its.toList/\o.dict=none
def C5:Value->Option V
 | .none=>some .non
 | .bool b=>some (.bl b)
 | .int i _=>some (.int i)
 | .str x _=>some (.str x)
 | .bytes b _=>some (.byt b)
 | .float b _=>some (.flt b)
 | .ref a=>some (.ref a)
 | .type n=>some (.ty n)
 |_=>none
theorem RelV.abs {x:V}{u:Value}(r:RelV x u):C5 u=some x:=by
 cases x with
 |non=>cases r;rfl
 |bl _=>cases r;rfl
 |int _=>obtain⟨t,rfl⟩:=r;rfl
 |str _=>obtain⟨t,rfl⟩:=r;rfl
 |byt _=>obtain⟨t,rfl⟩:=r;rfl
 |flt _=>obtain⟨t,rfl⟩:=r;rfl
 |ref _=>cases r;rfl
 |ty _=>cases r;rfl
theorem RelV.inj {x y:V}{u:Value}(r:RelV x u)(q:RelV y u):x=y:=Option.some.inj (r.abs.symm.trans q.abs)
theorem Vals.inj: ∀ {xs ys:List V} {us:List Value},Vals xs us->Vals ys us->xs=ys
 |_,_,_,.nil,.nil=>rfl
 |_,_,_,.cons r t,.cons r' t'=>by rw[r.inj r',Vals.inj t t']
section
variable {X:Cx}{ae:List (Addr×Obj)}{σ:St}{H:Hp}{s:Shared}{a:Addr}{xs ys:List V}
theorem SqL.of {K:W.Frag}(h:H a=some (.lst xs)):SqL K H a xs:=.inl (.inl h)
theorem SqT.of {K:W.Frag}(h:H a=some (.tup xs)):SqT K H a xs:=.inl (.inl h)
theorem Inv.list(I:Inv X ae σ H s)(h:SqL X.K H a xs): ∃its:List Value,Vals xs its/\PlainL s.heap a its.toArray/\xs.length<=sizeLine:=by
 rcases h with h|⟨o,its,n,hk,hc,hd,hs,hz,r⟩
 ·obtain⟨z,its,n,r,e⟩:=h.ok I.hok
  exact⟨its,r,⟨_,n,e,rfl,rfl,rfl⟩,z⟩
 ·refine⟨its.toList,r,⟨o,n,I.kIn a o hk,hc,hd,by simpa using hs⟩,?_⟩
  have e:=r.length
  simp only[Array.length_toList] at e;omega
theorem Inv.tuple(I:Inv X ae σ H s)(h:SqT X.K H a xs): ∃its:List Value,Vals xs its/\IsTup s.heap a its.toArray/\xs.length<=sizeLine:=by
 rcases h with h|⟨o,its,n,hk,hc,hs,hz,r,_⟩
 ·obtain⟨z,its,r,p,_⟩:=h.ok I.hok
  exact⟨its,r,p,z⟩
 ·refine⟨its.toList,r,⟨o,I.kIn a o hk,hc,n,by simpa using hs⟩,?_⟩
  have e:=r.length
  simp only[Array.length_toList] at e;omega
theorem Inv.tupleN(I:Inv X ae σ H s)(h:SqT X.K H a xs):(∃o,s.heap.get? a=some o/\o.cls=.type "tuple")/\ ∃o,s.heap.get? a=some o/\o.dict=none:=by
 rcases h with h|⟨o,its,n,hk,hc,hs,hz,r,hd⟩
 ·obtain⟨z,its,r,⟨ob,e,c,_⟩,o2,e2,d2⟩:=h.ok I.hok
  exact⟨⟨ob,e,c⟩,o2,e2,d2⟩
 ·exact⟨⟨o,I.kIn a o hk,hc⟩,o,I.kIn a o hk,hd⟩
theorem Inv.list_inj(I:Inv X ae σ H s)(h:SqL X.K H a xs)(h':SqL X.K H a ys):xs=ys:=by
 obtain⟨its,r,⟨o,n,e,_,_,d⟩,_⟩:=I.list h
 obtain⟨its',r',⟨o',n',e',_,_,d'⟩,_⟩:=I.list h'
 rw[e] at e';cases e';rw[d] at d';injection d' with d1 _
 have:its=its':=by simpa using congrArg Array.toList d1
 subst this;exact r.inj r'
theorem Inv.tuple_inj(I:Inv X ae σ H s)(h:SqT X.K H a xs)(h':SqT X.K H a ys):xs=ys:=by
 obtain⟨its,r,⟨o,e,_,n,d⟩,_⟩:=I.tuple h
 obtain⟨its',r',⟨o',e',_,n',d'⟩,_⟩:=I.tuple h'
 rw[e] at e';cases e';rw[d] at d';injection d' with d1 _
 have:its=its':=by simpa using congrArg Array.toList d1
 subst this;exact r.inj r'
end
abbrev Cx.wish(X:Cx)(E:Value->Shared->Prop):Cx:={X with xe:=E}
abbrev Cx.nox(X:Cx):Cx:=X.wish λ_ _=>False
theorem Cx.Ok.wish {X:Cx}(ok:X.Ok)(E:Value->Shared->Prop):(X.wish E).Ok:=
 ⟨ok.mod,ok.kind,ok.glob,ok.blt,ok.above,ok.inj,ok.has,ok.cab,ok.hd,ok.frames,ok.stk,ok.exf,ok.bs,ok.bsz,ok.noex,ok.exfs,ok.funs,ok.frf⟩
theorem Cx.Ok.unwish {X:Cx}{E:Value->Shared->Prop}(ok:(X.wish E).Ok):X.Ok:=
 ⟨ok.mod,ok.kind,ok.glob,ok.blt,ok.above,ok.inj,ok.has,ok.cab,ok.hd,ok.frames,ok.stk,ok.exf,ok.bs,ok.bsz,ok.noex,ok.exfs,ok.funs,ok.frf⟩
section
variable {X:Cx}{ae:List (Addr×Obj)}{σ:St}{H:Hp}{s:Shared}{E:Value->Shared->Prop}
theorem Inv.wish(I:Inv X ae σ H s)(E:Value->Shared->Prop):Inv (X.wish E) ae σ H s:=⟨I.ok.wish E,I.os,I.bare,I.base,I.loc,I.cell,I.free,I.freeC,I.pin,I.hok,I.len⟩
theorem Inv.unwish(I:Inv (X.wish E) ae σ H s):Inv X ae σ H s:=⟨I.ok.unwish,I.os,I.bare,I.base,I.loc,I.cell,I.free,I.freeC,I.pin,I.hok,I.len⟩
theorem SP.unwish {D:Ends}{f:Flow}{s':Shared}(h:SP (X.wish E) ae D f s'):SP X ae D f s':=by
 cases f with
 |next=>obtain⟨σ',H',I,q⟩:=h;exact⟨σ',H',I.unwish,q⟩
 |brk=>obtain⟨σ',H',I,q⟩:=h;exact⟨σ',H',I.unwish,q⟩
 |cont=>obtain⟨σ',H',I,q⟩:=h;exact⟨σ',H',I.unwish,q⟩
 |ret u=>obtain⟨v,σ',H',I,r,q⟩:=h;exact⟨v,σ',H',I.unwish,r,q⟩
theorem PT.nox {e:Expr}{t:TT}(h:PT X.nox e t):PT X e t:=λae s σ H Q I hw=>
 wpAny_mono (h ae s σ H Q (I.wish _) hw) (λ_ _ ⟨H',I',q⟩=>⟨H',I'.unwish,q⟩) λ_ _ z=>False.elim z
theorem PSs.nox {st:List Stmt}{t:TS}(h:PSs X.nox st t):PSs X st t:=λae s σ H D I hw=>
 wpAny_mono (h ae s σ H D (I.wish _) hw) (λ_ _ q=>q.unwish) λ_ _ z=>False.elim z
end
section
variable {X:Cx}{st:Stmt}{rest:List Stmt}{t u:TS}{e:Expr}{te:TE}{pos:Pos}
def Bo:TS:=λD σ H=>D.nx σ H
def Cs(t u:TS):TS:=λD σ H=>t {D with nx:=u D} σ H
theorem sD:PSs X [] Bo:=λ_ _ σ H _ I h=>wpAny_execs_nil ⟨σ,H,I,h⟩
theorem oz(h1:PS X st t)(h2:PSs X rest u):PSs X (st::rest) (Cs t u):=by
 intro ae s σ H D I h;refine wpAny_execs_cons (cm (h1 ae s σ H {D with nx:=u D} I h) λf s1 q=>?_)
 cases f with
 |next=>
  obtain⟨σ',H',I',q⟩:=q
  exact h2 ae s1 σ' H' D I' q
 |ret v=>exact q
 |brk=>exact q
 |cont=>exact q
theorem sy(h1:PS X st t):PSs X [st] t:=by
 intro ae s σ H D I h;refine wpAny_execs_cons (cm (h1 ae s σ H D I h) λf s1 q=>?_)
 cases f with
 |next=>exact wpAny_execs_nil q
 |ret v=>exact q
 |brk=>exact q
 |cont=>exact q
theorem Inv.quiet {ae:List (Addr×Obj)}{σ:St}{H:Hp}{s:Shared}(I:Inv X ae σ H s):interactive X.env=false:=by simp[interactive,I.ok.kind]
def AQ(te:TE):TS:=λD σ H=>te σ H λ_ H1=>D.nx σ H1
theorem wM(he:PE X e te)(hs:swapsWith e none pos.line X.env=pure false:=by rfl):PS X (.Expr e pos) (AQ te):=by
 intro ae s σ H D I h;exact wpAny_Expr_any (cm (he ae s σ H _ I h) λv s1 ⟨x,H1,I1,r1,q1⟩=>⟨σ,H1,I1,q1⟩) I.quiet hs
def BT(te:TE):TS:=λD σ H=>te σ H D.rt
theorem qL(he:PE X e te):PS X (.Return (some e) pos) (BT te):=by
 intro ae s σ H D I h;exact wpAny_Return_some (cm (he ae s σ H _ I h) λv s1 ⟨x,H1,I1,r1,q1⟩=>⟨x,σ,H1,I1,r1,q1⟩)
def CM(c:TT)(t u:TS):TS:=λD σ H=>c σ H λb H1=>if b=true then t D σ H1 else u D σ H1
theorem yH {c:Expr}{a b:List Stmt}{tc:TT}(hc:PT X c tc)(ha:PSs X a t)(hb:PSs X b u):PS X (.If c a b pos) (CM tc t u):=by
 intro ae s σ H D I h;refine wpAny_If (cm (hc ae s σ H _ I h) λd s1 hq_=>?_)
 obtain⟨H1,I1,q1⟩:=hq_
 cases d with
 |true=>exact ha ae s1 σ H1 D I1 q1
 |false=>exact hb ae s1 σ H1 D I1 q1
end
abbrev TG:=V->St->Hp->(St->Hp->Prop)->Prop
abbrev vd:=List V->St->Hp->(St->Hp->Prop)->Prop
def PG(X:Cx)(target:Expr)(t:TG):Prop:=
 ∀(ae:List (Addr×Obj)) (s:Shared) (σ:St) (H:Hp) (v:V) (u:Value) (Q:St->Hp->Prop),Inv X ae σ H s->RelV v u->t v σ H Q->
  wpAny (model X.prog X.w) X.A (assign target X.env u) (λ_ s'=> ∃σ' H',Inv X ae σ' H' s'/\Q σ' H') X.xe s
def PGs(X:Cx)(ts:List Expr)(t:vd):Prop:=
 ∀(ae:List (Addr×Obj)) (s:Shared) (σ:St) (H:Hp) (vs:List V) (us:List Value) (Q:St->Hp->Prop),Inv X ae σ H s->Vals vs us->t vs σ H Q->
  wpAny (model X.prog X.w) X.A (assignInOrder ((assignEach ts X.env).map (·.2)) us) (λ_ s'=> ∃σ' H',Inv X ae σ' H' s'/\Q σ' H') X.xe s
abbrev zj:=V->V->V->Hp->(Hp->Prop)->Prop
def A6(X:Cx)(t:zj):Prop:=
 ∀(ae:List (Addr×Obj)) (s:Shared) (σ:St) (H:Hp) (o i v:V) (ov iv u:Value) (Q:Hp->Prop),Inv X ae σ H s->RelV o ov->RelV i iv->RelV v u->t o i v H Q->
  wpAny (model X.prog X.w) X.A (setItem ov iv u) (λ_ s'=> ∃H',Inv X ae σ H' s'/\Q H') X.xe s
section
variable {X:Cx}{pos:Pos}
def rZ(i:Nat):TG:=λv σ H Q=>Q (σ.set i (some v)) H
theorem yi {i:Nat}{x:Str}(hN:X.N.Nodup)(hi:X.N[i]? =some x)(hx:wu X.env.scope x)(hf:X.fn x=true\/X.env.scope.names.lookup x=some .local:=by first|exact .inl rfl|exact .inr rfl|assumption):PG X (.Name x pos) (rZ i):=by
 intro ae s σ H v u Q I r h;exact wpAny_assign_Name (kW I hN hi hx r (λs' I'=>⟨_,H,I',h⟩) hf)
def CK:vd:=λvs σ H Q=>vs=[]/\Q σ H
def AC(t:TG)(u:vd):vd:=λvs σ H Q=> ∃v r,vs=v::r/\t v σ H λσ' H'=>u r σ' H' Q
theorem sE:PGs X [] CK:=by
 intro ae s σ H vs us Q I r h;obtain⟨e,h⟩:=h
 subst e;cases r
 exact assignInOrder_nil ⟨σ,H,I,h⟩
theorem pT {e:Expr}{es:List Expr}{t:TG}{u:vd}(h1:PG X e t)(h2:PGs X es u)
 (hs:(assignEach (e::es) X.env).map (·.2)=assign e X.env::(assignEach es X.env).map (·.2):=by rfl):PGs X (e::es) (AC t u):=by
 intro ae s σ H vs us Q I r h;obtain⟨v,vr,e1,h⟩:=h
 subst e1;cases r with
 |cons r rr=>
  rw[hs];refine assignInOrder_cons (cm (h1 ae s σ H _ _ _ I r h) λ_ s1 hq_=>?_)
  obtain⟨σ1,H1,I1,q1⟩:=hq_
  exact h2 ae s1 σ1 H1 _ _ Q I1 rr q1
def Co(K:W.Frag)(n:Nat)(t:vd):TG:=λv σ H Q=> ∃a xs,v=.ref a/\SqT K H a xs/\xs.length=n/\t xs σ H Q
theorem vk {es:List Expr}{k:Nat}{t:vd}{n:Nat}(hc:X.calm=true)(h:PGs X es t)
 (hn:(assignEach es X.env).length=n:=by rfl) (hst:(assignEach es X.env).findIdx? (·.1)=none:=by rfl):PG X (.Tuple es k pos) (Co X.K n t):=by
 intro ae s σ H v u Q I r hw;obtain⟨a,xs,e1,hq,hl,hw⟩:=hw
 subst e1;cases r
 obtain⟨its,rv,ht,hz⟩:=I.tuple hq
 refine assign_Tuple_tuple (I.ok.hd hc) ht (by simp[hn,<-hl,rv.length]) hst λh' hx=>?_
 have I1:Inv X ae σ H {s with heap:=h'}:=I.kept (t':=s.toks) λb o e=>hx b o (Nat.ne_of_lt (Heap.lt_size e)) e
 exact h ae _ σ H xs _ Q I1 (by simpa using rv) hw
def CB(to ti:TE)(t:zj):TG:=λv σ H Q=>to σ H λo H1=>ti σ H1 λi H2=>t o i v H2 λH3=>Q σ H3
theorem yO {o i:Expr}{to ti:TE}{t:zj}(ho:PE X o to)(hi:PE X i ti)(hs:A6 X t)
 (ha: ∀v,assign (.Subscript o i pos) X.env v=(do
   let ov <-holding [v] (eval o X.env)
   let iv <-holding [v,ov] (eval i X.env)
   standAt pos
   holding [v,ov,iv] (setItem ov iv v)
   release [v,ov,iv] []):=by intro _;rfl):PG X (.Subscript o i pos) (CB to ti t):=by
 intro ae s σ H v u Q I r h;rw[ha];refine wpAny_bind (wpAny_holding (cm (ho ae s σ H _ I h) λov s1 hq_=>?_))
 obtain⟨x,H1,I1,r1,q1⟩:=hq_
 refine wpAny_bind (wpAny_holding (cm (hi ae s1 σ H1 _ I1 q1) λiv s2 hq_=>?_))
 obtain⟨y,H2,I2,r2,q2⟩:=hq_
 refine wpAny_bind (wpAny_standAt (wpAny_bind (wpAny_holding (cm (hs ae s2 σ H2 x y v ov iv u _ I2 r1 r2 r q2) λ_ s3 hq_=>?_))))
 obtain⟨H3,I3,q3⟩:=hq_
 exact wpAny_release ⟨σ,H3,I3,q3⟩
def xi(te:TE)(g:TG):TS:=λD σ H=>te σ H λx H1=>g x σ H1 D.nx
theorem wb {tg e:Expr}{te:TE}{g:TG}(he:PE X e te)(hg:PG X tg g)(hs:swapsWithSole [tg] e pos.line X.env=pure false:=by rfl)(hw:swappedStores [tg] e X.env=pure none:=by rfl)
 (h1:(assignEach [tg] X.env).map (·.2)=[assign tg X.env]:=by rfl):PS X (.Assign [tg] e pos) (xi te g):=by
 intro ae s σ H D I h;refine wpAny_Assign_stores (cm (he ae s σ H _ I h) λv s1 ⟨x,H1,I1,r1,q1⟩=>?_) hs hw
 rw[h1];exact cm (hg ae s1 σ H1 x v _ I1 r1 q1) λ_ s2 q=>q
theorem nS {i:Nat}{x:Str}{e:Expr}{te:TE}{pos':Pos}(hN:X.N.Nodup)(hi:X.N[i]? =some x)(hx:wu X.env.scope x)(he:PE X e te)(hs:swapsWith e (some (.Name x pos')) pos.line X.env=pure false:=by rfl)(hf:X.fn x=true\/X.env.scope.names.lookup x=some .local:=by first|exact .inl rfl|exact .inr rfl|assumption):
 PS X (.Assign [.Name x pos'] e pos) (xi te (rZ i)):=by
 intro ae s σ H D I h;refine wpAny_Assign_Name (cm (he ae s σ H _ I h) λv s1 ⟨y,H1,I1,r1,q1⟩=>?_) hs
 exact kW I1 hN hi hx r1 (λs2 I2=>⟨_,H1,I2,q1⟩) hf
end
section
variable {X:Cx}{pos:Pos}
def zB(c:TT)(tb:TS):TS:=λD σ H=> ∃W:Nat->St->Hp->Prop,(∃m,W m σ H)/\ ∀m σ H,W m σ H->
 c σ H λb H1=>if b=true then∃N:St->Hp->Prop,(∀σ' H',N σ' H'-> ∃m',m'<m/\W m' σ' H')/\tb {D with nx:=N,ct:=N,bk:=D.nx} σ H1 else D.nx σ H1
theorem vU {c:Expr}{body:List Stmt}{tc:TT}{tb:TS}(hp:PassesOwn (model X.prog X.w) X.A X.env X.xe)(hc:PT X c tc)(hb:PSs X body tb):PS X (.While c body [] pos) (zB tc tb):=by
 intro ae s σ H D I h;obtain⟨W,⟨m0,w0⟩,turn⟩:=h
 refine wpAny_While (codeAny_whileLoop (λn s'=> ∃σ' H',Inv X ae σ' H' s'/\W n σ' H') ?_ m0 ⟨σ,H,I,w0⟩)
 rintro n s1 ⟨σ1,H1,I1,w1⟩
 refine wpAny_passesOwn hp (cm (hc ae s1 σ1 H1 _ I1 (turn n σ1 H1 w1)) λb s2 hq_=>?_)
 obtain⟨H2,I2,q2⟩:=hq_
 cases b with
 |true=>
  obtain⟨N,hN,q2⟩:=q2
  rw[if_pos rfl];refine wpAny_passesOwn hp (cm (hb ae s2 σ1 H2 _ I2 q2) λf s3 q3=>?_)
  cases f with
  |next=>
   obtain⟨σ3,H3,I3,n3⟩:=q3
   obtain⟨m',hm,w3⟩:=hN σ3 H3 n3
   exact⟨m',hm,σ3,H3,I3,w3⟩
  |cont=>
   obtain⟨σ3,H3,I3,n3⟩:=q3
   obtain⟨m',hm,w3⟩:=hN σ3 H3 n3
   exact⟨m',hm,σ3,H3,I3,w3⟩
  |brk=>exact q3
  |ret v=>exact q3
 |false=>
  rw[if_neg Bool.false_ne_true];exact wpAny_execs_nil ⟨σ1,H2,I2,q2⟩
end
structure It where
 go:Nat->Hp->Prop
 yld:Nat->Hp->V->Hp->Prop
 stop:Nat->Hp->Prop
def iu(X:Cx)(ae:List (Addr×Obj))(H:Hp)(b:Addr):Prop:=
 H b=none/\b≠X.env.locals/\b∉X.fs/\(b∈X.ex\/X.s₀.heap.objs.size<=b)/\(∀x c,X.env.cells.lookup x=some c->c≠b)/\ ∀p∈X.pn++ae,p.1≠b
theorem Inv.fpOk {X:Cx}{ae:List (Addr×Obj)}{σ:St}{H H':Hp}{s:Shared}{b:Addr}(I:Inv X ae σ H s)(hb:s.heap.objs.size<=b)(hn:H' b=none):iu X ae H' b:=by
 refine⟨hn,Nat.ne_of_gt (Nat.lt_of_lt_of_le I.lt hb),I.nofs hb,.inr (Nat.le_trans I.sz hb),λx c e z=>?_,λp hp z=>?_⟩
 ·obtain⟨v,q⟩:=I.cell x c e
  exact absurd (Nat.lt_of_lt_of_le q.lt (by rw[z];exact hb)) (Nat.lt_irrefl _)
 ·exact absurd (Nat.lt_of_lt_of_le (Heap.lt_size (I.pin p hp).1) (by rw[z];exact hb)) (Nat.lt_irrefl _)
structure Turn(P:Program)(w:World)(K:W.Frag)(tg:Expr)(J:It)(fp:List Addr)(it:Addr)(tn:Nat->Heap->Prop):Prop where
 mem:it∈fp
 obj: ∀i h,tn i h-> ∀b∈fp,∃o,h.get? b=some o/\ ∀v,o.data≠ .cell v
 keep: ∀i h h',tn i h->(∀b∈fp,∀o,h.get? b=some o->h'.get? b=some o)->tn i h'
 item: ∀(X:Cx),X.prog=P->X.w=w->X.K=K->X.calm=true-> ∀(i:Nat) (ae:List (Addr×Obj)) (s:Shared) (σ:St) (H:Hp) (E:Value->Shared->Prop),Inv X ae σ H s->(∀b∈fp,iu X ae H b)->tn i s.heap->J.go i H->
  wpAny (model P w) X.A (pyNext (.ref it)) (λr s1=> ∃u,r=some u/\
   wpAny (model P w) X.A (letOwnedTupleGo tg (.ref it) u) (λ_ s2=> ∃x H',Inv X ae σ H' s2/\RelV x u/\J.yld i H x H'/\tn (i+1) s2.heap/\ ∀b∈fp,H' b=none) E s1) E s
 done: ∀(X:Cx),X.prog=P->X.w=w->X.K=K->X.calm=true-> ∀(i:Nat) (ae:List (Addr×Obj)) (s:Shared) (σ:St) (H:Hp) (E:Value->Shared->Prop),Inv X ae σ H s->(∀b∈fp,iu X ae H b)->tn i s.heap->J.stop i H->
  wpAny (model P w) X.A (pyNext (.ref it)) (λr s1=>r=none/\Inv X ae σ H s1) E s
 self: ∀(A:Around) (i:Nat) (s:Shared) (Q:Value->Shared->Prop) (E:Value->Shared->Prop),tn i s.heap->Q (.ref it) s->wpAny (model P w) A (pyIter (.ref it)) Q E s
abbrev TI:=St->Hp->(It->Hp->Prop)->Prop
def C9(X:Cx)(ae:List (Addr×Obj))(σ:St)(tg:Expr)(R:It->Hp->Prop)(itv:Value)(s2:Shared):Prop:=
 ∃(it:Addr) (fp:List Addr) (tn:Nat->Heap->Prop) (J:It) (H':Hp),itv=.ref it/\Inv X ae σ H' s2/\Turn X.prog X.w X.K tg J fp it tn/\tn 0 s2.heap/\(∀b∈fp,iu X ae H' b)/\R J H'
def PI(X:Cx)(tg iter:Expr)(wi:TI):Prop:=
 ∀(ae:List (Addr×Obj)) (s:Shared) (σ:St) (H:Hp) (R:It->Hp->Prop),Inv X ae σ H s->wi σ H R->
  wpAny (model X.prog X.w) X.A (eval iter X.env) (λv s1=>wpAny (model X.prog X.w) X.A (pyIter v) (C9 X ae σ tg R) X.xe s1) X.xe s
theorem rY {M:Model}{A:Around}{E:Value->Shared->Prop}{s:Shared}{tg:Expr}{it:Addr}{u:Value}{o:Obj}{n:String}{vs:Array Value}{Q:Unit->Shared->Prop}(ho:s.heap.get? it=some o)(hc:o.cls=.type n)(hd:o.data=.fields vs)
 (hn:["enumerate","zip","dict_itemiterator","dict_reverseitemiterator","odict_iterator","itertools.zip_longest","itertools.pairwise"].contains n=false) (hQ:Q () s):wpAny M A (letOwnedTupleGo tg (.ref it) u) Q E s:=by
 unfold letOwnedTupleGo;cases tg<;>first
  |exact wpAny_pure hQ
  |(cases u<;>first
     |exact wpAny_pure hQ
     |(refine wpAny_bind (wpAny_load ho ?_)
       rw[hc,hd];show wpAny M A (if(["enumerate","zip","dict_itemiterator","dict_reverseitemiterator","odict_iterator","itertools.zip_longest","itertools.pairwise"].contains n&&vs[0]? ==some (rawInt _))=true then _ else _) Q E s
       rw[if_neg (by intro h;rw[hn,Bool.false_and] at h;cases h)]
       exact wpAny_pure hQ))
def Cn(K:W.Frag)(a:Addr):It:=
 ⟨λi H=> ∃xs x,SqL K H a xs/\xs[i]? =some x,λi H x H'=>H'=H/\ ∀xs,SqL K H a xs->xs[i]? =some x,λi H=> ∃xs,SqL K H a xs/\xs.length<=i⟩
def Cj(K:W.Frag)(a:Addr):It:=
 ⟨λi H=> ∃xs x,SqT K H a xs/\xs[i]? =some x,λi H x H'=>H'=H/\ ∀xs,SqT K H a xs->xs[i]? =some x,λi H=> ∃xs,SqT K H a xs/\xs.length<=i⟩
def BA(lo:Int)(n:Nat):It:=⟨λi _=>i<n,λi H x H'=>H'=H/\x=.int (lo+i),λi _=>n<=i⟩
theorem tG {P:Program}{w:World}{K:W.Frag}{tg:Expr}(a it:Addr):Turn P w K tg (Cn K a) [it] it (λi h=>h.IsListIter it a i) where
 mem:=by simp
 obj:=λi h st b hb=>by
  have e:b=it:=by simpa using hb
  subst e;obtain⟨o,e,c,d⟩:=st
  exact⟨o,e,λv z=>by rw[d] at z;cases z⟩
 keep:=λi h h' st k=>st.at λo e=>k it (by simp) o e
 item:=by
  intro X hP hw hK hc i ae s σ H E I hf st hg;subst hP hw hK;obtain⟨xs,x,hq,hx⟩:=hg
  obtain⟨its,rv,p,hz⟩:=I.list hq
  obtain⟨u,hu,ru⟩:=rv.get hx
  obtain⟨f0,f1,f2,f3,f4,f5⟩:=hf it (by simp)
  refine wpAny_pyNext_list_item st p.isList (x:=u) (by simpa using hu) λh' st' sb=>?_
  have I1:Inv X ae σ H {s with heap:=h'}:=I.turned (t':=s.toks) (λb o hb e=>(sb.2 b hb).trans e) f0 f1 f3 f4 f5
  obtain⟨o,e,c,d⟩:=id st'
  exact⟨u,rfl,rY (s:={s with heap:=h'}) e c d (by decide) ⟨x,H,I1,ru,⟨rfl,λys hy=>by rw[I.list_inj hy hq];exact hx⟩,st',λb hb=>(hf b hb).1⟩⟩
 done:=by
  intro X hP hw hK hc i ae s σ H E I hf st hg;subst hP hw hK;obtain⟨xs,hq,hx⟩:=hg
  obtain⟨its,rv,p,hz⟩:=I.list hq
  obtain⟨f0,f1,f2,f3,f4,f5⟩:=hf it (by simp)
  have hl:=rv.length
  exact wpAny_pyNext_list_end (I.ok.hd hc) st p.isList (by simp;omega) λh' eb=>⟨rfl,I.turned (t':=s.toks) (λb o hb e=>eb b o hb e) f0 f1 f3 f4 f5⟩
 self:=λ_ _ _ _ _ st h=>wpAny_pyIter_listiter st h
theorem qW {P:Program}{w:World}{K:W.Frag}{tg:Expr}(a it:Addr):Turn P w K tg (Cj K a) [it] it (λi h=>h.IsTupleIter it a i) where
 mem:=by simp
 obj:=λi h st b hb=>by
  have e:b=it:=by simpa using hb
  subst e;obtain⟨o,e,c,d⟩:=st
  exact⟨o,e,λv z=>by rw[d] at z;cases z⟩
 keep:=λi h h' st k=>st.at λo e=>k it (by simp) o e
 item:=by
  intro X hP hw hK hc i ae s σ H E I hf st hg;subst hP hw hK;obtain⟨xs,x,hq,hx⟩:=hg
  obtain⟨its,rv,p,hz⟩:=I.tuple hq
  obtain⟨u,hu,ru⟩:=rv.get hx
  obtain⟨f0,f1,f2,f3,f4,f5⟩:=hf it (by simp)
  refine wpAny_pyNext_tuple_item st (show s.heap.IsTuple a its.toArray from p) (x:=u) (by simpa using hu) λh' st' sb=>?_
  have I1:Inv X ae σ H {s with heap:=h'}:=I.turned (t':=s.toks) (λb o hb e=>(sb.2 b hb).trans e) f0 f1 f3 f4 f5
  obtain⟨o,e,c,d⟩:=id st'
  exact⟨u,rfl,rY (s:={s with heap:=h'}) e c d (by decide) ⟨x,H,I1,ru,⟨rfl,λys hy=>by rw[I.tuple_inj hy hq];exact hx⟩,st',λb hb=>(hf b hb).1⟩⟩
 done:=by
  intro X hP hw hK hc i ae s σ H E I hf st hg;subst hP hw hK;obtain⟨xs,hq,hx⟩:=hg
  obtain⟨its,rv,p,hz⟩:=I.tuple hq
  obtain⟨f0,f1,f2,f3,f4,f5⟩:=hf it (by simp)
  have hl:=rv.length
  exact wpAny_pyNext_tuple_end (I.ok.hd hc) st (show s.heap.IsTuple a its.toArray from p) (by simp;omega) λh' eb=>⟨rfl,I.turned (t':=s.toks) (λb o hb e=>eb b o hb e) f0 f1 f3 f4 f5⟩
 self:=λ_ _ _ _ _ st h=>wpAny_pyIter_tupleiter st h
theorem rm {P:Program}{w:World}{K:W.Frag}{tg:Expr}(it:Addr)(lo:Int)(n:Nat):Turn P w K tg (BA lo n) [it] it (λi h=>IsRangeIter h it (lo+(i:Nat)*1) ((n:Int) - (i:Nat)) 1) where
 mem:=by simp
 obj:=λi h st b hb=>by
  have e:b=it:=by simpa using hb
  subst e;exact⟨_,st,λv z=>by
   have z':Data.fields _=Data.cell v:=z
   cases z'⟩
 keep:=λi h h' st k=>k it (by simp) _ st
 item:=by
  intro X hP hw hK hc i ae s σ H E I hf st hg;subst hP hw hK;obtain⟨f0,f1,f2,f3,f4,f5⟩:=hf it (by simp)
  have W:=Walks.range (prog:=X.prog) (w:=X.w) (I.ok.hd hc) it lo 1 n
  refine W.item i s _ _ hg st λv h' tk hv st' kk=>?_
  obtain⟨t,rfl⟩:=hv
  have I1:Inv X ae σ H {s with heap:=h',toks:=tk}:=I.turned (λb o hb e=>kk b o (by simpa using hb) e) f0 f1 f3 f4 f5
  refine⟨_,rfl,rY (s:={s with heap:=h',toks:=tk}) (n:="range_iterator") st' rfl rfl (by decide) ⟨.int (lo+i),H,I1,⟨t,?_⟩,⟨rfl,rfl⟩,st',λb hb=>(hf b hb).1⟩⟩
  rw[Int.mul_one]
 done:=by
  intro X hP hw hK hc i ae s σ H E I hf st hg;subst hP hw hK;obtain⟨f0,f1,f2,f3,f4,f5⟩:=hf it (by simp)
  exact wpAny_pyNext_range_end (I.ok.hd hc) st (by have:n<=i:=hg;omega) λh' eb=>⟨rfl,I.turned (t':=s.toks) (λb o hb e=>eb b o hb e) f0 f1 f3 f4 f5⟩
 self:=λ_ _ _ _ _ st h=>wpAny_pyIter_rangeiter st h
section
variable {X:Cx}{tg:Expr}
def Az(K:W.Frag)(tl:TE):TI:=λσ H R=>tl σ H λx H1=> ∃a,x=.ref a/\(∃xs,SqL K H1 a xs)/\R (Cn K a) H1
def C0(K:W.Frag)(tl:TE):TI:=λσ H R=>tl σ H λx H1=> ∃a,x=.ref a/\(∃xs,SqT K H1 a xs)/\R (Cj K a) H1
theorem rJ {l:Expr}{tl:TE}(hl:PE X l tl):PI X tg l (Az X.K tl):=by
 intro ae s σ H R I h;refine cm (hl ae s σ H _ I h) λv s1 hq_=>?_
 obtain⟨x,H1,I1,r1,q1⟩:=hq_
 obtain⟨a,e,⟨xs,hq⟩,q⟩:=q1
 subst e;cases r1
 obtain⟨its,rv,p,hz⟩:=I1.list hq
 refine wpAny_pyIter_list p.isList ?_
 refine⟨s1.heap.objs.size,[s1.heap.objs.size],_,_,H1,rfl,I1.kept (t':=s1.toks) λb o e=>Heap.get?_push_of_some _ e,tG a _,⟨_,Heap.get?_push_size _ rfl,rfl,rfl⟩,λb hb=>?_,q⟩
 have e:b=s1.heap.objs.size:=by simpa using hb
 subst e;exact I1.fpOk (Nat.le_refl _) (I1.hok.fresh (Nat.le_refl _))
theorem z7 {l:Expr}{tl:TE}(hl:PE X l tl):PI X tg l (C0 X.K tl):=by
 intro ae s σ H R I h;refine cm (hl ae s σ H _ I h) λv s1 hq_=>?_
 obtain⟨x,H1,I1,r1,q1⟩:=hq_
 obtain⟨a,e,⟨xs,hq⟩,q⟩:=q1
 subst e;cases r1
 obtain⟨its,rv,p,hz⟩:=I1.tuple hq
 refine wpAny_pyIter_tuple (show s1.heap.IsTuple a its.toArray from p) ?_
 refine⟨s1.heap.objs.size,[s1.heap.objs.size],_,_,H1,rfl,I1.kept (t':=s1.toks) λb o e=>Heap.get?_push_of_some _ e,qW a _,⟨_,Heap.get?_push_size _ rfl,rfl,rfl⟩,λb hb=>?_,q⟩
 have e:b=s1.heap.objs.size:=by simpa using hb
 subst e;exact I1.fpOk (Nat.le_refl _) (I1.hok.fresh (Nat.le_refl _))
theorem uG {ae:List (Addr×Obj)}{σ:St}{H:Hp}{s:Shared}{R:It->Hp->Prop}{E:Value->Shared->Prop}{lo hi:Int}{t u v:Tok}{tk:Nat}(I:Inv X ae σ H s)(h1: -(2^62)<=lo)(h2:lo<2^62)(h3: -(2^62)<=hi)(h4:hi<2^62)
 (q:R (BA lo (hi-lo).toNat) H):wpAny (model X.prog X.w) X.A (pyIter (.ref s.heap.objs.size)) (C9 X ae σ tg R) E {s with heap:=s.heap.push {cls:=.type "range",data:=.fields #[.int lo t,.int hi u,.int 1 v]},toks:=tk}:=by
 refine wpAny_pyIter_range (IsRange.new ..) (small_one h1 h2 h3 h4) ?_
 have I1:Inv X ae σ H {s with heap:=s.heap.push {cls:=.type "range",data:=.fields #[.int lo t,.int hi u,.int 1 v]},toks:=tk}:=I.kept λb o e=>Heap.get?_push_of_some _ e
 refine⟨(s.heap.push {cls:=.type "range",data:=.fields #[.int lo t,.int hi u,.int 1 v]}).objs.size,[(s.heap.push {cls:=.type "range",data:=.fields #[.int lo t,.int hi u,.int 1 v]}).objs.size],_,_,H,rfl,
  I1.kept (t':=tk) λb o e=>Heap.get?_push_of_some _ e,rm _ lo (hi-lo).toNat,?_,λb hb=>?_,q⟩
 ·have e1:lo+((0:Nat):Int)*1=lo:=by simp
  have e2:(((hi-lo).toNat:Nat):Int) - ((0:Nat):Int)=Builtin.Range.rangeSize lo hi 1:=by rw[rangeSize_one];split<;>omega
  show IsRangeIter _ _ (lo+((0:Nat):Int)*1) ((((hi-lo).toNat:Nat):Int) - ((0:Nat):Int)) 1;rw[e1,e2];exact Heap.get?_push_size _ rfl
 ·have e:b=(s.heap.push {cls:=.type "range",data:=.fields #[.int lo t,.int hi u,.int 1 v]}).objs.size:=by simpa using hb
  subst e;exact I1.fpOk (Nat.le_refl _) (I1.hok.fresh (Nat.le_refl _))
def AU(ta:TA):TI:=λσ H R=>ta σ H λvs H1=> ∃j:Int,vs=[.int j]/\ -(2^62)<=j/\j<2^62/\R (BA 0 j.toNat) H1
theorem ui {a:Expr}{ta:TA}{p pos:Pos}(hg:Gl X "range")(hm:X.mg "range"=none)(ha:PA X [a] ta)(hs:starEach [a] X.env=[(false,eval a X.env)]:=by rfl):PI X tg (.Call (.Name "range" p) [a] [] pos) (AU ta):=by
 intro ae s σ H R I h;refine Call_ (ll I hg hm boot_range (PyProof.Rows.callWith_type1 (cm (ha pos ae s σ H _ I h) λus s1 ⟨vs,H1,I1,r1,q1⟩=>?_) hs rfl))
 obtain⟨j,e,q1,q2,q⟩:=q1
 subst e;cases r1 with
 |cons r rr=>
  cases rr
  obtain⟨t,rfl⟩:=r
  exact call_range_1 (uG I1 (by omega) (by omega) q1 q2 (by simpa using q))
def Cv(wi:TI)(g:TG)(tb:TS):TS:=λD σ H=>wi σ H λJ H1=> ∃W:Nat->Nat->St->Hp->Prop,(∃m,W 0 m σ H1)/\ ∀i m σ H,W i m σ H->
 (J.stop i H/\D.nx σ H)\/(J.go i H/\ ∃N:St->Hp->Prop,(∀σ' H',N σ' H'-> ∃m',m'<m/\W (i+1) m' σ' H')/\ ∀x H',J.yld i H x H'->g x σ H' λσ2 H2=>tb {D with nx:=N,ct:=N,bk:=D.nx} σ2 H2)
def jz(fp:List Addr)(h:Heap):List (Addr×Obj):=fp.filterMap λb=>(h.get? b).map λo=>(b,o)
theorem eA {fp:List Addr}{h:Heap}{b:Addr}{o:Obj}(hb:b∈fp)(e:h.get? b=some o):(b,o)∈jz fp h:=List.mem_filterMap.mpr ⟨b,hb,by rw[e];rfl⟩
theorem uk {fp:List Addr}{h:Heap}{p:Addr×Obj}(hp:p∈jz fp h):p.1∈fp/\h.get? p.1=some p.2:=by
 obtain⟨b,hb,e⟩:=List.mem_filterMap.mp hp
 cases q:h.get? b with
 |none=>rw[q] at e;cases e
 |some o=>
  rw[q] at e;have e':(b,o)=p:=Option.some.inj e
  subst e';exact⟨hb,q⟩
theorem Inv.pinned {ae:List (Addr×Obj)}{σ:St}{H:Hp}{s:Shared}{fp:List Addr}(I:Inv X ae σ H s)(hf: ∀b∈fp,iu X ae H b)(ho: ∀b∈fp,∃o,s.heap.get? b=some o/\ ∀v,o.data≠ .cell v):Inv X (ae++jz fp s.heap) σ H s:=
 I.pins_of λp hp=>(List.mem_append.mp hp).elim (λz=>I.pin p (List.mem_append_right _ z)) λz=>by
  obtain⟨hb,e⟩:=uk z
  obtain⟨f0,f1,f2,_⟩:=hf p.1 hb
  obtain⟨o,e',d⟩:=ho p.1 hb
  rw[e] at e';cases e';exact⟨e,f0,f1,f2,d⟩
theorem Inv.unpinned {ae pl:List (Addr×Obj)}{σ:St}{H:Hp}{s:Shared}(I:Inv X (ae++pl) σ H s):Inv X ae σ H s:=I.pins_of λp hp=>I.pin p (List.mem_append_right _ (List.mem_append_left _ hp))
theorem yR {iter:Expr}{body:List Stmt}{wi:TI}{g:TG}{tb:TS}{pos:Pos}(hp:PassesOwn (model X.prog X.w) X.A X.env X.xe)(hc:X.calm=true)(hi:PI X tg iter wi)(hg:PG X tg g)(hb:PSs X body tb)
 (hs: ∀x,foldedSetIterable iter X.env x=pure x:=by intro _;rfl):PS X (.For tg iter body [] pos) (Cv wi g tb):=by
 intro ae s σ H D I h;refine wpAny_For (cm (hi ae s σ H _ I h) λv s1 h1=>cm h1 λitv s2 h2=>?_) hs
 obtain⟨it,fp,tn,J,H2,e,I2,T,st2,f2,W,⟨m0,w0⟩,turn⟩:=h2
 subst e;have stat: ∀ {H':Hp},(∀b∈fp,H' b=none)-> ∀b∈fp,iu X ae H' b:=λhn b hb=>⟨hn b hb,(f2 b hb).2⟩
 refine codeAny_forLoop_any (λn s'=> ∃i σ' H',Inv X ae σ' H' s'/\tn i s'.heap/\(∀b∈fp,H' b=none)/\W i n σ' H') ?_ m0 ⟨0,σ,H2,I2,st2,λb hb=>(f2 b hb).1,w0⟩
 rintro n s3 ⟨i,σ3,H3,I3,st3,fr3,w3⟩
 rcases turn i n σ3 H3 w3 with⟨stop,qn⟩|⟨go,N,hN,step⟩
 ·refine wpAny_passesOwn hp (cm (T.done X rfl rfl rfl hc i ae s3 σ3 H3 X.xe I3 (stat fr3) st3 stop) λr s4 hq_=>?_)
  obtain⟨hr,I4⟩:=hq_
  subst hr;exact wpAny_execs_nil ⟨σ3,H3,I4,qn⟩
 ·refine wpAny_passesOwn hp (cm (T.item X rfl rfl rfl hc i ae s3 σ3 H3 X.xe I3 (stat fr3) st3 go) λr s4 hq_=>?_)
  obtain⟨u,hr,h4⟩:=hq_
  subst hr;refine wpAny_passesOwn hp (cm h4 λ_ s5 hq_=>?_)
  obtain⟨x,H5,I5,r5,y5,st5,fr5⟩:=hq_
  have I5':=I5.pinned (stat fr5) (T.obj _ _ st5)
  refine wpAny_passesOwn hp (cm (hg _ s5 σ3 H5 x u _ I5' r5 (step x H5 y5)) λ_ s6 hq_=>?_)
  obtain⟨σ6,H6,I6,q6⟩:=hq_
  refine wpAny_passesOwn hp (cm (hb _ s6 σ6 H6 _ I6 q6) λf s7 q7=>?_)
  have again: ∀ {σ7:St} {H7:Hp},Inv X (ae++jz fp s5.heap) σ7 H7 s7->N σ7 H7-> ∃m,m<n/\ ∃i σ' H',Inv X ae σ' H' s7/\tn i s7.heap/\(∀b∈fp,H' b=none)/\W i m σ' H':=λ{σ7 H7} I7 n7=>by
   obtain⟨m',hm,w7⟩:=hN σ7 H7 n7
   refine⟨m',hm,i+1,σ7,H7,I7.unpinned,T.keep _ _ _ st5 λb hb o e=>(I7.pin (b,o) (List.mem_append_right _ (List.mem_append_right _ (eA hb e)))).1,λb hb=>?_,w7⟩
   obtain⟨o,e,d⟩:=T.obj _ _ st5 b hb
   exact(I7.pin (b,o) (List.mem_append_right _ (List.mem_append_right _ (eA hb e)))).2.1
  cases f with
  |next=>obtain⟨σ7,H7,I7,n7⟩:=q7;exact again I7 n7
  |cont=>obtain⟨σ7,H7,I7,n7⟩:=q7;exact again I7 n7
  |brk=>obtain⟨σ7,H7,I7,q7⟩:=q7;exact⟨σ7,H7,I7.unpinned,q7⟩
  |ret v=>obtain⟨x7,σ7,H7,I7,r7,q7⟩:=q7;exact⟨x7,σ7,H7,I7.unpinned,r7,q7⟩
end
abbrev R2:=V->V->Hp->VK->Prop
def ji(X:Cx)(f:Value->Value->Sem Value)(r:R2):Prop:=
 ∀(ae:List (Addr×Obj)) (s:Shared) (σ:St) (H:Hp) (x y:V) (v u:Value) (Q:VK),Inv X ae σ H s->RelV x v->RelV y u->r x y H Q->
  wpAny (model X.prog X.w) X.A (f v u) (EP X ae σ Q) X.xe s
def ee(X:Cx)(f:Value)(r:List V->Hp->VK->Prop):Prop:=
 ∀(ae:List (Addr×Obj)) (s:Shared) (σ:St) (H:Hp) (xs:List V) (us:List Value) (Q:VK),Inv X ae σ H s->Vals xs us->r xs H Q->
  wpAny (model X.prog X.w) X.A (call f us) (EP X ae σ Q) X.xe s
def CL(X:Cx)(r:V->Hp->(Bool->Hp->Prop)->Prop):Prop:=
 ∀(ae:List (Addr×Obj)) (s:Shared) (σ:St) (H:Hp) (x:V) (v:Value) (Q:Bool->Hp->Prop),Inv X ae σ H s->RelV x v->r x H Q->
  wpAny (model X.prog X.w) X.A (truthy v) (TP X ae σ Q) X.xe s
def Au(r:R2)(ta tb:TE):TE:=λσ H Q=>ta σ H λx H1=>tb σ H1 λy H2=>r x y H2 Q
def rI(C:Int->Int->Prop)(g:Int->Int->V):R2:=λx y H Q=> ∃i j,x=.int i/\y=.int j/\C i j/\Q (g i j) H
def wX(g:Int->Int->V):R2:=λx y H Q=> ∃i j,x=.int i/\y=.int j/\Q (g i j) H
section
variable {X:Cx}{a b c:Expr}{ta tb tc:TE}{pos:Pos}
theorem zP(ha:PE X a ta)(hb:PE X b tb){ae:List (Addr×Obj)}{s:Shared}{σ:St}{H:Hp}{R:V->V->Hp->Prop}(I:Inv X ae σ H s)
 (h:ta σ H λx H1=>tb σ H1 λy H2=>R x y H2) {Q:Value->Shared->Prop} {f:Value->Value->Sem Value}
 (hf: ∀v u s2 x y H2,Inv X ae σ H2 s2->RelV x v->RelV y u->R x y H2->wpAny (model X.prog X.w) X.A (f v u) Q X.xe s2):
 wpAny (model X.prog X.w) X.A (eval a X.env) (λv s₁=>wpAny (model X.prog X.w) X.A (eval b X.env) (λu s₂=>wpAny (model X.prog X.w) X.A (f v u) Q X.xe s₂) X.xe s₁) X.xe s:=by
 refine cm (ha ae s σ H _ I h) λv s1 hq_=>?_
 obtain⟨x,H1,I1,r1,q1⟩:=hq_
 refine cm (hb ae s1 σ H1 _ I1 q1) λu s2 hq_=>?_
 obtain⟨y,H2,I2,r2,q2⟩:=hq_
 exact hf v u s2 x y H2 I2 r1 r2 q2
theorem ym {op:Operator}{r:R2}(ho:ji X (binaryOp op) r)(ha:PE X a ta)(hb:PE X b tb):PE X (.BinOp a op b pos) (Au r ta tb):=by
 intro ae s σ H Q I h;exact wpAny_BinOp (zP ha hb I h λv u s2 x y H2 I2 rx ry q=>ho ae s2 σ H2 x y v u Q I2 rx ry q)
theorem BD {f:Value->Value->Sem Value}{C:Int->Int->Prop}{g:Int->Int->Int}
 (rule: ∀(i j:Int) (t u:Tok) (s:Shared) (Q:Value->Shared->Prop) (E:Value->Shared->Prop),C i j->Q (.int (g i j) s.toks) {s with toks:=s.toks+1}->wpAny (model X.prog X.w) X.A (f (.int i t) (.int j u)) Q E s):
 ji X f (rI C λi j=>.int (g i j)):=by
 intro ae s σ H x y v u Q I rx ry h;obtain⟨i,j,rfl,rfl,hc,q⟩:=h
 obtain⟨t,rfl⟩:=rx
 obtain⟨t',rfl⟩:=ry
 exact rule i j t t' s _ _ hc ⟨.int (g i j),H,I.tok _,⟨_,rfl⟩,q⟩
theorem AG {f:Value->Value->Sem Value}{g:Int->Int->Int}
 (rule: ∀(i j:Int) (t u:Tok) (s:Shared) (Q:Value->Shared->Prop) (E:Value->Shared->Prop),Q (.int (g i j) s.toks) {s with toks:=s.toks+1}->wpAny (model X.prog X.w) X.A (f (.int i t) (.int j u)) Q E s):
 ji X f (wX λi j=>.int (g i j)):=by
 intro ae s σ H x y v u Q I rx ry h;obtain⟨i,j,rfl,rfl,q⟩:=h
 obtain⟨t,rfl⟩:=rx
 obtain⟨t',rfl⟩:=ry
 exact rule i j t t' s _ _ ⟨.int (g i j),H,I.tok _,⟨_,rfl⟩,q⟩
theorem An {f:Value->Value->Sem Value}{g:Int->Int->Bool}
 (rule: ∀(i j:Int) (t u:Tok) (s:Shared) (Q:Value->Shared->Prop) (E:Value->Shared->Prop),Q (.bool (g i j)) s->wpAny (model X.prog X.w) X.A (f (.int i t) (.int j u)) Q E s):
 ji X f (wX λi j=>.bl (g i j)):=by
 intro ae s σ H x y v u Q I rx ry h;obtain⟨i,j,rfl,rfl,q⟩:=h
 obtain⟨t,rfl⟩:=rx
 obtain⟨t',rfl⟩:=ry
 exact rule i j t t' s _ _ ⟨.bl (g i j),H,I,rfl,q⟩
def Bn(i j:Int):Prop:=0<=j/\j<=1000000/\i.natAbs<2^64
theorem uu:ji X (binaryOp .Add) (wX λi j=>.int (i+j)):=AG λ_ _ _ _ _ _ _ q=>add_int q
theorem y8:ji X (binaryOp .Sub) (wX λi j=>.int (i-j)):=AG λ_ _ _ _ _ _ _ q=>sub_int q
theorem zh:ji X (binaryOp .Mod) (rI (λ_ j=>0<j) λi j=>.int (i % j)):=BD λi j _ _ _ _ _ hc q=>by
 have h1:(0:Int)<j:=hc
 exact mod_int' (by omega) (by rw[Int.fmod_eq_emod_of_nonneg i (by omega)];exact q)
theorem zx:ji X (binaryOp .Pow) (rI Bn λi j=>.int (i^j.toNat)):=BD λ_ _ _ _ _ _ _ hc q=>pow_int_small hc.1 hc.2.1 hc.2.2 q
end
section
variable {X:Cx}{a b c:Expr}{ta tb tc:TE}{pos:Pos}
theorem yE:ji X (compareOp .Lt) (wX λi j=>.bl (decide (i<j))):=An λ_ _ _ _ _ _ _ q=>lt_int q
theorem yo:ji X (compareOp .LtE) (wX λi j=>.bl (decide (i<=j))):=An λ_ _ _ _ _ _ _ q=>le_int q
theorem AD:ji X (compareOp .GtE) (wX λi j=>.bl (decide (j<=i))):=An λ_ _ _ _ _ _ _ q=>ge_int q
theorem aZ(b:Expr){op:CmpOp}(h:op≠ .In:=by decide)(h2:op≠ .NotIn:=by decide):behindInMarks op b=false:=by
 have e1:(op==CmpOp.In)=false:=by cases op<;>first|rfl|exact absurd rfl h
 have e2:(op==CmpOp.NotIn)=false:=by cases op<;>first|rfl|exact absurd rfl h2
 cases b<;>simp[behindInMarks,e1,e2]
theorem xm {op:CmpOp}{r:R2}(ho:ji X (compareOp op) r)(ha:PE X a ta)(hb:PE X b tb)(hm:behindInMarks op b=false):PE X (.Compare a [op] [b] pos) (Au r ta tb):=by
 intro ae s σ H Q I h;exact wpAny_Compare1 (zP ha hb I h λv u s2 x y H2 I2 rx ry q=>ho ae s2 σ H2 x y v u Q I2 rx ry q) hm
def yL(t:TE):TT:=λσ H Q=>t σ H λx H'=> ∃k,x=.bl k/\Q k H'
theorem xR {op:CmpOp}{r:R2}(ho:ji X (compareOp op) r)(ha:PE X a ta)(hb:PE X b tb)(hm:behindInMarks op b=false):PT X (.Compare a [op] [b] pos) (yL (Au r ta tb)):=by
 intro ae s σ H Q I h;refine wpAny_isTrue_Compare1 (cm (ha ae s σ H _ I h) λv s1 ⟨x,H1,I1,r1,q1⟩=>cm (hb ae s1 σ H1 _ I1 q1) λu s2 ⟨y,H2,I2,r2,q2⟩=>
  cm (ho ae s2 σ H2 x y v u _ I2 r1 r2 q2) λc s3 ⟨z,H3,I3,r3,k,e,q3⟩=>?_) hm
 subst e;cases r3
 exact wpAny_truthy_bool ⟨H3,I3,q3⟩
def vp(r r':R2)(ta tb tc:TE):TE:=λσ H Q=>ta σ H λx H1=>tb σ H1 λy H2=>r x y H2 λz H3=> ∃k,z=.bl k/\
 (if k=true then tc σ H3 λw' H4=>r' y w' H4 Q else Q (.bl false) H3)
theorem vb {op op':CmpOp}{r r':R2}(ho:ji X (compareOp op) r)(ho':ji X (compareOp op') r')(ha:PE X a ta)(hb:PE X b tb)(hc:PE X c tc)
 (hm:lastMarks [op,op'] [b,c]=false:=by with_unfolding_all rfl):PT X (.Compare a [op,op'] [b,c] pos) (yL (vp r r' ta tb tc)):=by
 intro ae s σ H Q I h;refine isTrue_chain (cm (ha ae s σ H _ I h) λv s1 ⟨x,H1,I1,r1,q1⟩=>test_link (cm (hb ae s1 σ H1 _ I1 q1) λu s2 ⟨y,H2,I2,r2,q2⟩=>
  cm (ho ae s2 σ H2 x y v u _ I2 r1 r2 q2) λd s3 ⟨z,H3,I3,r3,k,e,q3⟩=>?_)) hm
 subst e;cases r3
 refine wpAny_truthy_bool ?_
 cases k with
 |false=>
  obtain⟨k',e',q'⟩:=q3
  cases e'
  exact ite_ff ⟨H3,I3,q'⟩
 |true=>
  refine ite_tt (test_last (cm (hc ae s3 σ H3 _ I3 q3) λw' s4 ⟨z',H4,I4,r4,q4⟩=>cm (ho' ae s4 σ H4 y z' u w' _ I4 r2 r4 q4) λd' s5 hq_=>?_))
  obtain⟨z2,H5,I5,r5,k2,e2,q5⟩:=hq_
  subst e2;cases r5
  exact wpAny_truthy_bool ⟨H5,I5,q5⟩
def zA(K:W.Frag)(x:V)(H:Hp)(k:Bool):Prop:=
 match x with
 | .non=>k=false
 | .bl b=>k=b
 | .int i=>k=(i !=0)
 | .str y=>y.length<=sizeLine/\k=((y.length:Int) !=0)
 | .byt y=>y.size<=sizeLine/\k=((y.size:Int) !=0)
 | .ref p=>(∃xs,SqL K H p xs/\k= !xs.isEmpty)\/(∃xs,SqT K H p xs/\k= !xs.isEmpty)\/ ∃kvs,H p=some (.dK kvs)/\k= !kvs.isEmpty
 |_=>False
theorem qO {κ:Type}{kvs:List (κ×V)}{vs:List (κ×Value)}(r:KV kvs vs):(!vs.isEmpty)= !kvs.isEmpty:=by
 cases r<;>rfl
theorem kA {xs:List V}{its:List Value}(r:Vals xs its):(!its.toArray.isEmpty)= !xs.isEmpty:=by
 cases r<;>simp
theorem g9:(sizeLine:Nat)<2^63:=by rw[sizeLine_eq];decide
theorem zU:CL X (λx H Q=> ∃k,zA X.K x H k/\Q k H):=by
 intro ae s σ H x v Q I rx h;obtain⟨k,e,q⟩:=h
 have hl:=g9
 have hs:sizeLine=16777216:=sizeLine_eq
 cases x with
 |non=>
  cases rx
  have e':k=false:=e
  subst e';exact truthy_none ⟨H,I,q⟩
 |bl b=>
  cases rx
  have e':k=b:=e
  subst e';exact wpAny_truthy_bool ⟨H,I,q⟩
 |int i=>
  obtain⟨t,rfl⟩:=rx
  have e':k=(i !=0):=e
  subst e';exact PySem.P.truthy_int ⟨H,I,q⟩
 |str y=>
  obtain⟨t,rfl⟩:=rx
  obtain⟨hy,e'⟩:y.length<=sizeLine/\k=((y.length:Int) !=0):=e
  subst e';exact PySem.P.truthy_str (by omega) ⟨H,I.tok _,q⟩
 |byt y=>
  obtain⟨t,rfl⟩:=rx
  obtain⟨hy,e'⟩:y.size<=sizeLine/\k=((y.size:Int) !=0):=e
  subst e';exact W.truthy_bytes (by omega) ⟨H,I.tok _,q⟩
 |ref p=>
  cases rx
  have e':(∃xs,SqL X.K H p xs/\k= !xs.isEmpty)\/(∃xs,SqT X.K H p xs/\k= !xs.isEmpty)\/ ∃kvs,H p=some (.dK kvs)/\k= !kvs.isEmpty:=e
  rcases e' with⟨xs,hx,e'⟩|⟨xs,hx,e'⟩|⟨kvs,hx,e'⟩
  ·subst e'
   obtain⟨its,r,pl,hz⟩:=I.list hx
   have hlen:=r.length
   exact wpAny_truthy_list pl.isList (by simp only[List.size_toArray];omega) ⟨H,I.tok _,by rw[kA r];exact q⟩
  ·subst e'
   obtain⟨its,r,pl,hz⟩:=I.tuple hx
   have hlen:=r.length
   exact truthy_tuple pl (by simp only[List.size_toArray];omega) ⟨H,I.tok _,by rw[kA r];exact q⟩
  ·subst e'
   obtain⟨hz,hS,vs,r,m⟩:kvs.length<=sizeLine/\(p==sysModules)=false/\ ∃vs,KV kvs vs/\s.heap.DictOf (n9 X.prog X.w) p vs:=I.hok p _ hx
   have hlen:kvs.length=vs.length:=Paired.length r
   exact wpAny_truthy_dict hS m (by omega) ⟨H,I.tok _,by rw[qO r];exact q⟩
 |_=>exact(show False from e).elim
theorem vZ(ha:PE X a ta)(he: ∀whole,isTrue a X.env whole=(do let v <-whole;standAt a.pos;holding [v] (truthy v))):
 PT X a (λσ H Q=>ta σ H λx H'=> ∃k,zA X.K x H' k/\Q k H'):=by
 intro ae s σ H Q I h;exact isTrue_plain (cm (ha ae s σ H _ I h) λv s1 ⟨x,H1,I1,r1,q1⟩=>zU ae s1 σ H1 x v Q I1 r1 q1) (he _)
theorem fC {x:V}{us:List Value}(r:Vals [x] us): ∃u,us=[u]/\RelV x u:=by
 cases r with
 |cons r1 r2=>cases r2;exact⟨_,rfl,r1⟩
theorem vf {x y:V}{us:List Value}(r:Vals [x,y] us): ∃u w',us=[u,w']/\RelV x u/\RelV y w':=by
 cases r with
 |cons r1 r2=>
  cases r2 with
  |cons r3 r4=>cases r4;exact⟨_,_,rfl,r1,r3⟩
theorem vR:ee X (.builtin "abs") (λxs H Q=> ∃i,xs=[.int i]/\Q (.int (if i<0 then -i else i)) H):=by
 intro ae s σ H xs us Q I r h;obtain⟨i,rfl,q⟩:=h
 obtain⟨u,rfl,t,rfl⟩:=fC r
 exact call_abs_int λu tk=>⟨.int (if i<0 then -i else i),H,I.tok _,⟨_,rfl⟩,q⟩
theorem tH(hc:X.calm=true):ee X (.builtin "max") (λxs H Q=> ∃i j,xs=[.int i,.int j]/\Q (.int (if j>i then j else i)) H):=by
 intro ae s σ H xs us Q I r h;obtain⟨i,j,rfl,q⟩:=h
 obtain⟨u,w',rfl,⟨t,rfl⟩,⟨t',rfl⟩⟩:=vf r
 refine max_two_ints (I.ok.hd hc) λh' tk k=>⟨_,H,I.kept k,?_,q⟩
 by_cases hj:j>i
 ·rw[if_pos hj,if_pos hj];exact⟨_,rfl⟩
 ·rw[if_neg hj,if_neg hj];exact⟨_,rfl⟩
theorem mh(hc:X.calm=true):ee X (.builtin "min") (λxs H Q=> ∃i j,xs=[.int i,.int j]/\Q (.int (if j<i then j else i)) H):=by
 intro ae s σ H xs us Q I r h;obtain⟨i,j,rfl,q⟩:=h
 obtain⟨u,w',rfl,⟨t,rfl⟩,⟨t',rfl⟩⟩:=vf r
 refine min_two_ints (I.ok.hd hc) λh' tk k=>⟨_,H,I.kept k,?_,q⟩
 by_cases hj:j<i
 ·rw[if_pos hj,if_pos hj];exact⟨_,rfl⟩
 ·rw[if_neg hj,if_neg hj];exact⟨_,rfl⟩
end
structure Room(k:Nat)(A:Around):Prop where
 hd:A.handled=none
 dp:A.depth+3*k+5<recursionLimit
 un:A.units+16*k+200<cLine
theorem Room.mono {j k:Nat}{A:Around}(r:Room k A)(h:j<=k):Room j A:=⟨r.hd,by have:=r.dp;omega,by have:=r.un;omega⟩
theorem Room.deeper {k:Nat}{A:Around}(r:Room (k+1) A)(env:Env):Room k (A.deeper env):=
 ⟨r.hd,by have:=r.dp;show A.depth+1+3*k+5<_;omega,by have:=r.un;show A.units+3+16*k+200<_;omega⟩
theorem Room.depth {k:Nat}{A:Around}(r:Room k A):A.depth<recursionLimit:=by have:=r.dp;omega
theorem Room.units {k:Nat}{A:Around}(r:Room k A):A.units+64<cLine:=by have:=r.un;omega
def CJ:TA:=λ_ H Q=>Q [] H
def Bk(ta:TE)(tr:TA):TA:=λσ H Q=>ta σ H λx H1=>tr σ H1 λxs H2=>Q (x::xs) H2
section
variable {X:Cx}{e:Expr}{es:List Expr}{te:TE}{t:TA}{pos:Pos}
theorem cY:PA X [] CJ:=λ_ _ _ _ H Q I h=>Calls.spliced_nil ⟨[],H,I,.nil,h⟩
theorem bi(ha:PE X e te)(hr:PA X es t)(hs:starEach (e::es) X.env=(false,eval e X.env)::starEach es X.env:=by rfl):PA X (e::es) (Bk te t):=by
 intro pos ae s σ H Q I h;rw[hs];show wpAny _ _ (spliced ((false,eval e X.env)::backTo pos (starEach es X.env))) _ _ s;refine Calls.spliced_cons (cm (ha ae s σ H _ I h) λu s1 hq_=>?_)
 obtain⟨x,H1,I1,r1,q1⟩:=hq_
 exact cm (hr pos ae s1 σ H1 _ I1 q1) λus s2 ⟨xs,H2,I2,r2,q2⟩=>⟨x::xs,H2,I2,.cons r1 r2,q2⟩
def BU(t:TA):TE:=λσ H Q=>t σ H λxs H1=>xs.length<=sizeLine/\ ∀p,H1 p=none->Q (.ref p) (cF H1 p (.tup xs))
def Cb(t:TA):TE:=λσ H Q=>t σ H λxs H1=>xs.length<=sizeLine/\ ∀p,H1 p=none->Q (.ref p) (cF H1 p (.lst xs))
theorem vn {x1}(h:PA X es t):PE X (.Tuple es x1 pos) (BU t):=by
 intro ae s σ H Q I hq;refine wpAny_Tuple_spliced (cm (h pos ae s σ H _ I hq) λus s1 ⟨xs,H1,I1,r,z,q⟩=>⟨by rw[<-r.length];exact z,?_⟩)
 have hf:H1 s1.heap.objs.size=none:=I1.hok.fresh (Nat.le_refl _)
 refine⟨.ref s1.heap.objs.size,cF H1 s1.heap.objs.size (.tup xs),I1.laid (t':=s1.toks) (λb u e=>Heap.get?_push_of_some _ e) (Nat.le_refl _) ?_,rfl,q _ hf⟩
 exact⟨z,us,r,⟨_,Heap.get?_push_size _ rfl,rfl,_,rfl⟩,_,Heap.get?_push_size _ rfl,rfl⟩
theorem vX(h:PA X es t):PE X (.List es pos) (Cb t):=by
 intro ae s σ H Q I hq;refine wpAny_List_spliced (cm (h pos ae s σ H _ I hq) λus s1 ⟨xs,H1,I1,r,z,q⟩=>⟨by rw[<-r.length];exact z,?_⟩)
 have hf:H1 s1.heap.objs.size=none:=I1.hok.fresh (Nat.le_refl _)
 refine⟨.ref s1.heap.objs.size,cF H1 s1.heap.objs.size (.lst xs),I1.laid (t':=s1.toks) (λb u e=>Heap.get?_push_of_some _ e) (Nat.le_refl _) ?_,rfl,q _ hf⟩
 exact⟨z,us,0,r,Heap.get?_push_size _ rfl⟩
end
abbrev Sp:=List V->Hp->VK->XK->Prop
abbrev oh:=List Env->Hp->Shared->XK->Value->Shared->Prop
structure Env0(P:Program)(w:World)(K:W.Frag)(mg:Str->Option Value)(base:Heap)(A:Around)(outer:List Env)(s:Shared)(H:Hp):Prop where
 frames:A.frames=some outer
 mod:Mod K mg base
 bs: ∀b o,base.get? b=some o->s.heap.get? b=some o/\H b=none
 bsz:base.objs.size<=s.heap.objs.size
 funs:s.heap.FunFrames base outer
 frf: ∀b∈gJ outer,H b=none
 hok:HOk P w H s.heap
 bare:AllBare s.gens
def CE(outer:List Env)(P:Program)(w:World)(H:Hp)(s:Shared)(Q:VK)(u:Value)(s':Shared):Prop:=
 ∃v H',s'.os=s.os/\AllBare s'.gens/\Un (gJ outer) [] H H' s.heap s'.heap/\HOk P w H' s'.heap/\RelV v u/\Q v H'
def CR(CX:oh)(outer:List Env)(P:Program)(w:World)(H:Hp)(s:Shared)(Q:VK)(E:XK)(r:Result)(s':Shared):Prop:=
 match r with
 | .ok (.ret u)=>CE outer P w H s Q u s'
 | .ok _=>False
 | .error e=>CX outer H s E e s'
structure FnOk(P:Program)(w:World)(K:W.Frag)(mg:Str->Option Value)(base:Heap)(CX:oh)(k:Nat)(f:Addr)(fd:FuncData)(ps:List Str)(sp:Sp):Prop where
 len: ∀vs H Q E,sp vs H Q E->vs.length=ps.length
 run: ∀(A:Around) (outer:List Env) (s:Shared) (H:Hp) (args:Args) (us:List Value) (vs:List V) (Q:VK) (E:XK),Room k A->Env0 P w K mg base A outer s H->BindsTo s fd args (ps.zip us)->Vals vs us->sp vs H Q E->
  codeAny (model P w) A (.call (.ref f) args) (CR CX outer P w H s Q E) s
theorem FnOk.imp {P:Program}{w:World}{K:W.Frag}{mg:Str->Option Value}{base:Heap}{CX:oh}{k:Nat}{f:Addr}{fd:FuncData}{ps:List Str}{sp sp':Sp}(F:FnOk P w K mg base CX k f fd ps sp)
 (h: ∀vs H Q E,sp' vs H Q E->sp vs H Q E):FnOk P w K mg base CX k f fd ps sp':=
 ⟨λvs H Q E q=>F.len vs H Q E (h _ _ _ _ q),λA outer s H args us vs Q E hr he hb hv hs=>F.run A outer s H args us vs Q E hr he hb hv (h _ _ _ _ hs)⟩
section
variable {X:Cx}{ae:List (Addr×Obj)}{σ:St}{H:Hp}{s s':Shared}
theorem Inv.env0(I:Inv X ae σ H s):Env0 X.prog X.w X.K X.mg X.base X.A X.stack s H:=
 ⟨I.ok.frames,I.ok.mod,I.bs,Nat.le_trans I.ok.bsz I.sz,I.stack,I.stkFree,I.hok,I.bare⟩
theorem Inv.after {Q:VK}{u:Value}(I:Inv X ae σ H s)(h:CE X.stack X.prog X.w H s Q u s'):EP X ae σ Q u s':=by
 obtain⟨v,H',os,bare,un,hok,r,q⟩:=h
 obtain⟨hh,g,d,t,os'⟩:=s'
 obtain rfl:os'=s.os:=os
 exact⟨v,H',I.call (h':=hh) (g':=g) (d':=d) (t':=t) (ch:=[]) un hok bare (λb z=>absurd z (by simp)),r,q⟩
end
def Bd(sp:Sp)(dvs:List V)(E:XK)(t:TA):TE:=λσ H Q=>t σ H λvs H1=>sp (vs++dvs) H1 Q E
def Binds(K:W.Frag)(fd:FuncData)(ps:List Str)(ds:List Value):Prop:=
 ∀(s:Shared) (us:List Value),K.In s.heap->(us++ds).length=ps.length->BindsTo s fd ⟨us,[]⟩ (ps.zip (us++ds))
theorem Binds.all {K:W.Frag}{fd:FuncData}{ps:List Str}(h: ∀us:List Value,us.length=ps.length->bindArgs fd ⟨us,[]⟩=pure (ps.zip us)):Binds K fd ps []:=λs us _ hl=>by
 rw[List.append_nil] at hl⊢;exact .of_eq (h us hl)
def qk(CX:oh)(X:Cx)(E:XK):Prop:= ∀(ae:List (Addr×Obj)) (σ:St) (H:Hp) (s:Shared) (e:Value) (s':Shared),Inv X ae σ H s->CX X.stack H s E e s'->X.xe e s'
section
variable {X:Cx}{CX:oh}{k:Nat}{f C:Addr}{fd:FuncData}{ps:List Str}{sp:Sp}{dvs:List V}{ds:List Value}{E:XK}{x m:Str}{p pos apos:Pos}{e o:Expr}{es:List Expr}{ta:TE}{t:TA}
theorem Am {ae:List (Addr×Obj)}{σ:St}{H:Hp}{s:Shared}{Q:VK}{us:List Value}{vs:List V}(F:FnOk X.prog X.w X.K X.mg X.base CX k f fd ps sp)(hr:Room k X.A)(hb:Binds X.K fd ps ds)(hd:Vals dvs ds)(hx:qk CX X E)
 (I:Inv X ae σ H s) (r:Vals vs us) (h:sp (vs++dvs) H Q E):wpAny (model X.prog X.w) X.A (call (.ref f) us) (EP X ae σ Q) X.xe s:=by
 have r2:Vals (vs++dvs) (us++ds):=r.append hd
 have hl:(us++ds).length=ps.length:=by rw[<-r2.length];exact F.len _ _ _ _ h
 refine wpAny_call (codeAny_mono (F.run X.A X.stack s H ⟨us,[]⟩ (us++ds) (vs++dvs) Q E hr I.env0 (hb s us I.kIn hl) r2 h) λr s' hq=>?_)
 cases r with
 |error e=>exact hx ae σ H s e s' I hq
 |ok fl=>
  cases fl with
  |ret u=>exact I.after hq
  |next=>exact False.elim hq
  |brk=>exact False.elim hq
  |cont=>exact False.elim hq
theorem kh(F:FnOk X.prog X.w X.K X.mg X.base CX k f fd ps sp)(hr:Room k X.A)(hg:Gl X x)(hm:X.mg x=some (.ref f))(hk:W.keepIn X.K (.ref f)=true)(hb:Binds X.K fd ps ds)(hd:Vals dvs ds)(hx:qk CX X E)
 (ha:PA X (e::es) t) (hdb:(x==("__debug__":Str))=false:=by decide) (he:starEach (e::es) X.env=(false,eval e X.env)::starEach es X.env:=by rfl) (hpl:(backTo pos (starEach es X.env)).any (·.1)=false:=by rfl):
 PE X (.Call (.Name x p) (e::es) [] pos) (Bd sp dvs E t):=by
 intro ae s σ H Q I h;refine wpAny_Call_Name_kw (ip I hg hm ?_ hdb)
 refine W.callWith_K (h₀:=X.base) I.ok.mod.kin hk (cm (ha pos ae s σ H _ I h) λus s1 ⟨vs,H1,I1,r,q⟩=>⟨I1.kIn,?_⟩) he hpl
 exact Am F hr hb hd hx I1 r q
end
structure FnScope(N P:List Str)(sc:Scope):Prop where
 kind:sc.kind=.function
 co:sc.isCoroutine=false
 gen:sc.isGenerator=false
 nd:N.Nodup
 pre:N.take P.length=P
 par: ∀x∈P,sc.names.lookup x=some .local\/sc.names.lookup x=some .cell
 nofree: ∀y∈sc.names,y.2≠ .free
theorem mf {kindOf:Str->Option NameKind}{x:Str}: ∀ {binds:List (Str×Value)} {m:Str->Option Value},(∀v,(x,v)∉binds)->bindL kindOf binds m x=m x
 | [],_,_=>rfl
 |(n,v)::r,m,h=>by
  unfold bindL;rw[mf λw hw=>h w (List.mem_cons_of_mem _ hw)]
  split
  ·have:x≠n:=by rintro rfl;exact h v List.mem_cons_self
   simp[this]
  ·rfl
theorem mK {kindOf:Str->Option NameKind}{x:Str}: ∀ {binds:List (Str×Value)} {m:Str->Option Value},(∀v,(x,v)∉binds)->bindC kindOf binds m x=m x
 | [],_,_=>rfl
 |(n,v)::r,m,h=>by
  unfold bindC;rw[mK λw hw=>h w (List.mem_cons_of_mem _ hw)]
  split
  ·rfl
  ·have:x≠n:=by rintro rfl;exact h v List.mem_cons_self
   simp[this]
theorem jt {kindOf:Str->Option NameKind}{x:Str}{v:Value}: ∀ {P:List Str} {vs:List Value} {i:Nat} {m:Str->Option Value},P.Nodup->P[i]? =some x->vs[i]? =some v->kindOf x=some .local->
 bindL kindOf (P.zip vs) m x=some v
 | [],_,_,_,_,h,_,_=>by simp at h
 |_::_,[],_,_,_,_,h,_=>by simp at h
 |p::P,w::vs,0,m,nd,h1,h2,hk=>by
  simp at h1 h2;subst h1;subst h2;show bindL kindOf ((p,w)::P.zip vs) m p=_;unfold bindL;rw[mf λv hv=>(List.nodup_cons.mp nd).1 (List.of_mem_zip hv).1,if_pos hk]
  simp
 |p::P,w::vs,i+1,m,nd,h1,h2,hk=>by
  show bindL kindOf ((p,w)::P.zip vs) m x=_;unfold bindL;exact jt (i:=i) (List.nodup_cons.mp nd).2 (by simpa using h1) (by simpa using h2) hk
theorem jE {kindOf:Str->Option NameKind}{x:Str}{v:Value}: ∀ {P:List Str} {vs:List Value} {i:Nat} {m:Str->Option Value},P.Nodup->P[i]? =some x->vs[i]? =some v->kindOf x≠some .local->
 bindC kindOf (P.zip vs) m x=some v
 | [],_,_,_,_,h,_,_=>by simp at h
 |_::_,[],_,_,_,_,h,_=>by simp at h
 |p::P,w::vs,0,m,nd,h1,h2,hk=>by
  simp at h1 h2;subst h1;subst h2;show bindC kindOf ((p,w)::P.zip vs) m p=_;unfold bindC;rw[mK λv hv=>(List.nodup_cons.mp nd).1 (List.of_mem_zip hv).1,if_neg hk]
  simp
 |p::P,w::vs,i+1,m,nd,h1,h2,hk=>by
  show bindC kindOf ((p,w)::P.zip vs) m x=_;unfold bindC;exact jE (i:=i) (List.nodup_cons.mp nd).2 (by simpa using h1) (by simpa using h2) hk
def dh(N:List Str)(vs:List V):St:=vs.map some++List.replicate (N.length-vs.length) none
def jI(CX:oh)(P:Program)(w:World)(K:W.Frag)(mg:Str->Option Value)(base:Heap)(N:List Str)(qual:Str)(scope:Scope)(f:Addr)(cd:Value)(A:Around)(outer:List Env)(s:Shared)(H:Hp)(E:XK):Cx where
 prog:=P
 w:=w
 K:=K
 mg:=mg
 base:=base
 A:=A.deeper (envOfC qual scope s.heap.objs.size f cd)
 N:=N
 s₀:=s
 H₀:=H
 env:=envOfC qual scope s.heap.objs.size f cd
 outer:=outer
 stack:=envOfC qual scope s.heap.objs.size f cd::outer
 ex:=[]
 calm:=true
 fn:=λ_=>true
 pn:=[]
 xe:=λe s'=>wpAny (model P w) (A.deeper (envOfC qual scope s.heap.objs.size f cd)) (leaving (envOfC qual scope s.heap.objs.size f cd) e) (λ_ s''=>CX outer H s E e s'') (λe' s''=>CX outer H s E e' s'') s'
theorem i5 {sc:Scope}{n:Nat}{x:Str}(h:sc.names.lookup x=some .cell): ∃c,(cellsFrom n sc.names []).lookup x=some c:=by
 have q:=W.cellsFrom_some sc.names n [] (.inl h)
 exact Option.isSome_iff_exists.mp q
theorem ul {CX:oh}{P:Program}{w:World}{K:W.Frag}{mg:Str->Option Value}{base:Heap}{N ps:List Str}{qual:Str}{scope:Scope}{f:Addr}{cd:Value}{A:Around}{outer:List Env}{s s1:Shared}{H:Hp}{E:XK}{us:List Value}{vs:List V}
 (S:FnScope N ps scope) (hd:A.handled=none) (e0:Env0 P w K mg base A outer s H) (hl:vs.length=ps.length) (r:Vals vs us)
 (x:InCallC s s.heap.objs.size (bindL (envOfC qual scope s.heap.objs.size f cd).kindOf (ps.zip us) λ_=>none) (cellsFrom (s.heap.objs.size+1) scope.names []) (bindC (envOfC qual scope s.heap.objs.size f cd).kindOf (ps.zip us) λ_=>none) s1):
 Inv (jI CX P w K mg base N qual scope f cd A outer s H E) [] (dh N vs) H s1:=by
 have hpl:ps.length<=N.length:=by have:=congrArg List.length S.pre;rw[List.length_take] at this;omega
 obtain⟨h1,tk,rfl,hk⟩:=x.done
 have noA: ∀b:Addr,b∉(jI CX P w K mg base N qual scope f cd A outer s H E).ex:=λb z=>absurd (show b∈([]:List Addr) from z) (by simp)
 refine⟨⟨e0.mod,S.kind,rfl,rfl,Nat.le_refl _,λy z c h1 h2=>?_,λy hy=>?_,λy c _ h=>?_,λ_=>hd,Around.frames_deeper e0.frames,.inr ⟨rfl,rfl⟩,λb z=>absurd z (noA b),e0.bs,e0.bsz,λb _ _=>noA b,λb z=>absurd z (noA b),e0.funs,e0.frf⟩,
  rfl,e0.bare,Un.kept hk,⟨_,x.toInCall.ns,λi y v h1 h2 h3=>?_⟩,λy c h=>⟨_,x.cell y c h⟩,e0.hok.fresh (Nat.le_refl _),λy c h=>?_,λp hp=>absurd (show p∈([]:List (Addr×Obj)) from hp) (by simp),e0.hok.kept hk,?_⟩
 ·exact name_of_addr x.apart (PySem.mem_of_lookup h1) (PySem.mem_of_lookup h2)
 ·have hy:scope.names.lookup y=some .cell\/scope.names.lookup y=some .free:=hy
  rcases hy with hy|hy
  ·exact i5 hy
  ·exact absurd rfl (S.nofree _ (PySem.mem_of_lookup hy))
 ·exact Nat.le_of_lt (x.above y c (PySem.mem_of_lookup h))
 ·have hi:i<vs.length:=by
   unfold dh at h2
   by_cases hi:i<vs.length
   ·exact hi
   ·rw[List.getElem?_append_right (by simpa using hi)] at h2
    rw[List.getElem?_replicate] at h2;split at h2<;>cases h2
  have ha:vs[i]? =some v:=by
   unfold dh at h2;rw[List.getElem?_append_left (by simpa using hi),List.getElem?_map] at h2
   cases e:vs[i]? with
   |none=>rw[e] at h2;cases h2
   |some a=>rw[e] at h2;cases h2;rfl
  obtain⟨u,hu,rv⟩:=r.get ha
  have hp:ps[i]? =some y:=by
   rw[<-S.pre,List.getElem?_take_of_lt (by omega)];exact h1
  have ndP:ps.Nodup:=by rw[<-S.pre];exact S.nd.sublist (List.take_sublist _ _)
  refine⟨u,rv,?_⟩
  rcases S.par y (List.mem_of_getElem? hp) with k|k
  ·exact .inl ⟨k,jt ndP hp hu k⟩
  ·obtain⟨c,e⟩:=i5 (n:=s.heap.objs.size+1) k
   refine .inr ⟨.inl k,c,e,?_⟩
   have q:=x.cell y c e
   rw[jE ndP hp hu (by show scope.names.lookup y≠_;rw[k];decide)] at q
   exact q
 ·exact e0.hok.fresh (Nat.le_of_lt (x.above y c (PySem.mem_of_lookup h)))
 ·unfold dh
  show _=N.length;rw[List.length_append,List.length_map,List.length_replicate];omega
theorem yp {CX:oh}{P:Program}{w:World}{K:W.Frag}{mg:Str->Option Value}{base:Heap}{k:Nat}{f:Addr}{name qual:Str}{params:Arguments}{body:List Stmt}{scope:Scope}{dV kV doc pm cdv ct oc:Value}{an od:Option Addr}
 {osl:Array (Option Value)} {N ps:List Str} {sp:Sp} (lk:K.lookup f=some ⟨oc,od,.func (W.fnOf name qual params body scope dV kV doc pm an cdv ct),osl⟩) (hcd:W.codeIn K cdv qual=true) (S:FnScope N ps scope)
 (len: ∀vs H Q E,sp vs H Q E->vs.length=ps.length)
 (hbody: ∀(A:Around) (outer:List Env) (s:Shared) (H:Hp) (vs:List V) (Q:VK) (E:XK),Room k (A.deeper (envOfC qual scope s.heap.objs.size f cdv))->sp vs H Q E->
   ∃t,PSs (jI CX P w K mg base N qual scope f cdv A outer s H E) body t/\t {nx:=λ_ H'=>Q .non H',rt:=Q} (dh N vs) H):
 FnOk P w K mg base CX (k+1) f (W.fnOf name qual params body scope dV kV doc pm an cdv ct) ps sp:=by
 refine⟨len,λA outer s H args us vs Q E hr e0 hb r hsp=>?_⟩
 have hl:=len _ _ _ _ hsp
 have KX:K.In s.heap:=e0.mod.kin.keeps λb o e=>(e0.bs b o e).1
 have lim:s.heap.NoLimit:=e0.mod.nolimit.keeps λb o e=>(e0.bs b o e).1
 have hkind: ∀y∈ps.zip us,scope.names.lookup y.1=some .local\/(scope.names.lookup y.1=some .cell/\((cellsFrom (s.heap.objs.size+1) scope.names []).lookup y.1).isSome=true):=λ⟨n,v⟩ hy=>by
  rcases S.par n (List.of_mem_zip hy).1 with q|q
  ·exact .inl q
  ·exact .inr ⟨q,W.cellsFrom_some _ _ _ (.inl q)⟩
 refine codeAny_call_function hr.depth (KX _ _ lk) rfl S.co S.gen rfl (W.codeRec_of KX hcd) (hb _ _ _ _ ?_)
 refine wpAny_newFunctionEnv_cells S.kind hkind λenv he s1 x=>?_
 subst he;refine⟨lim.keeps x.toInCall.keep,codeAny_func ?_⟩
 obtain⟨t,ht,hq⟩:=hbody A outer s H vs Q E (hr.deeper _) hsp
 have I:Inv (jI CX P w K mg base N qual scope f cdv A outer s H E) [] (dh N vs) H s1:=ul S hr.hd e0 hl r x
 refine wpAny_mono (ht [] s1 (dh N vs) H _ I hq) (λfl s' hs=>?_) λe s' hs=>hs
 have fin: ∀ {σ':St} {H':Hp} {v:V} {u:Value},Inv (jI CX P w K mg base N qual scope f cdv A outer s H E) [] σ' H' s'->RelV v u->Q v H'->CE outer P w H s Q u s':=
  λ{σ' H' v u} J rv q=>⟨v,H',J.os,J.bare,J.base,J.hok,rv,q⟩
 cases fl with
 |ret u=>
  obtain⟨v,σ',H',J,rv,q⟩:=hs
  exact fin J rv q
 |next=>
  obtain⟨σ',H',J,q⟩:=hs
  exact fin (v:=V.non) (u:=Value.none) J rfl q
 |brk=>
  obtain⟨_,_,_,q⟩:=hs
  exact False.elim q
 |cont=>
  obtain⟨_,_,_,q⟩:=hs
  exact False.elim q
section
variable {X:Cx}{x:Str}{p pos:Pos}{e:Expr}{es:List Expr}{t:TA}{id T:String}{r:List V->Hp->VK->Prop}
def Cu(r:List V->Hp->VK->Prop)(t:TA):TE:=λσ H Q=>t σ H λvs H1=>r vs H1 Q
theorem gY(hc:ee X (.builtin id) r)(hg:Gl X x)(hm:X.mg x=none)(hv:bootBuiltins x=some (.builtin id))(ha:PA X (e::es) t)(hn:x≠"__name__":=by decide)(hdb:(x==("__debug__":Str))=false:=by decide)
 (he:starEach (e::es) X.env=(false,eval e X.env)::starEach es X.env:=by rfl) (hpl:(backTo pos (starEach es X.env)).any (·.1)=false:=by rfl):PE X (.Call (.Name x p) (e::es) [] pos) (Cu r t):=by
 intro ae s σ H Q I h;refine wpAny_Call_Name_kw (ll I hg hm hv ?_ hn hdb)
 exact PyProof.Rows.callWith_builtin1 (cm (ha pos ae s σ H _ I h) λus s1 ⟨vs,H1,I1,r1,q1⟩=>hc ae s1 σ H1 vs us Q I1 r1 q1) he hpl
theorem jv(hc:ee X (.type T) r)(hg:Gl X x)(hm:X.mg x=none)(hv:bootBuiltins x=some (.type T))(ha:PA X (e::es) t)(hn:x≠"__name__":=by decide)(hdb:(x==("__debug__":Str))=false:=by decide)
 (he:starEach (e::es) X.env=(false,eval e X.env)::starEach es X.env:=by rfl) (hpl:(backTo pos (starEach es X.env)).any (·.1)=false:=by rfl):PE X (.Call (.Name x p) (e::es) [] pos) (Cu r t):=by
 intro ae s σ H Q I h;refine wpAny_Call_Name_kw (ll I hg hm hv ?_ hn hdb)
 exact PyProof.Rows.callWith_type1 (cm (ha pos ae s σ H _ I h) λus s1 ⟨vs,H1,I1,r1,q1⟩=>hc ae s1 σ H1 vs us Q I1 r1 q1) he hpl
end
end L2
namespace HT
open PySem PyProof.Rows
section
variable {prog:Program}{w:World}{A:Around}{E:Value->Shared->Prop}{s:Shared}
def sIx(n d:Nat):Option Int->Nat
 |none=>d
 |some v=>if v<0 then(v+(n:Int)).toNat else min v.toNat n
end
end HT
namespace L2
open PySem PySem.Spec PyProof.Rows
abbrev TO:=St->Hp->(Option Int->Hp->Prop)->Prop
def PO(X:Cx)(e:Option Expr)(t:TO):Prop:=
 ∀(ae:List (Addr×Obj)) (s:Shared) (σ:St) (H:Hp) (Q:Option Int->Hp->Prop),Inv X ae σ H s->t σ H Q->
  wpAny (model X.prog X.w) X.A (evalPart e X.env) (λu s'=> ∃o H',Inv X ae σ H' s'/\IsPart u o/\Q o H') X.xe s
def xG:TO:=λ_ H Q=>Q none H
def Bh(t:TE):TO:=λσ H Q=>t σ H λx H1=> ∃i,x=.int i/\Q (some i) H1
section
variable {X:Cx}{e:Expr}{te:TE}{lo hi:Option Expr}{tl th:TO}{pos p2:Pos}
theorem xW:PO X none xG:=by
 intro ae s σ H Q I h;rw[evalPart_none];exact wpAny_pure ⟨none,H,I,.none,h⟩
theorem wR(h:PE X e te):PO X (some e) (Bh te):=by
 intro ae s σ H Q I hw;rw[evalPart_some];refine cm (h ae s σ H _ I hw) λu s1 hq_=>?_
 obtain⟨x,H1,I1,r1,q1⟩:=hq_
 obtain⟨i,rfl,q⟩:=q1
 obtain⟨t,rfl⟩:=r1
 exact⟨some i,H1,I1,.int i t,q⟩
def CV(X:Cx)(r:V->Option Int->Option Int->Hp->VK->Prop):Prop:=
 ∀(ae:List (Addr×Obj)) (s:Shared) (σ:St) (H:Hp) (x:V) (v vl vu:Value) (lo hi:Option Int) (sl:Addr) (Q:VK),Inv X ae σ H s->RelV x v->s.heap.IsSliceOf sl vl vu .none->IsPart vl lo->IsPart vu hi->r x lo hi H Q->
  ∃T id,typeLookup (.type T) "__getitem__"=pure (some (.builtin id))/\s.TypeIs v T/\wpAny (model X.prog X.w) X.A (getItem v (.ref sl)) (EP X ae σ Q) X.xe s
def Dr(r:V->Option Int->Option Int->Hp->VK->Prop)(te:TE)(tl th:TO):TE:=λσ H Q=>te σ H λx H1=>tl σ H1 λl H2=>th σ H2 λu H3=>r x l u H3 Q
theorem oo {r:V->Option Int->Option Int->Hp->VK->Prop}(hr:CV X r)(he:PE X e te)(hl:PO X lo tl)(hu:PO X hi th):PE X (.Subscript e (.Slice lo hi none p2) pos) (Dr r te tl th):=by
 intro ae s σ H Q I h;refine Subscript_ (cm (he ae s σ H _ I h) λv s1 hq_=>?_)
 obtain⟨x,H1,I1,r1,q1⟩:=hq_
 refine wpAny_Slice (cm (hl ae s1 σ H1 _ I1 q1) λvl s2 ⟨l,H2,I2,pl,q2⟩=>cm (hu ae s2 σ H2 _ I2 q2) λvu s3 hq_=>?_)
 obtain⟨u,H3,I3,pu,q3⟩:=hq_
 rw[evalPart_none];refine wpAny_pure ?_
 have I4:Inv X ae σ H3 {s3 with heap:=s3.heap.push {cls:=.type "slice",data:=.fields #[vl,vu,.none]}}:=I3.kept (t':=s3.toks) λb ob q=>Heap.get?_push_of_some _ q
 obtain⟨T,id,hT,ht,hg⟩:=hr ae {s3 with heap:=s3.heap.push {cls:=.type "slice",data:=.fields #[vl,vu,.none]}} σ H3 x v vl vu l u s3.heap.objs.size Q I4 r1 (Heap.IsSliceOf.new ..) pl pu q3
 show wpAny (model X.prog X.w) X.A (subscriptTail e (.Slice lo hi none p2) v (.ref s3.heap.objs.size)) (EP X ae σ Q) X.xe {s3 with heap:=s3.heap.push {cls:=.type "slice",data:=.fields #[vl,vu,.none]}}
 exact tail_any (ops:=[.ref s3.heap.objs.size,v]) ht hT hg (by with_unfolding_all rfl)
def tV(xs:List V)(lo hi:Option Int):List V:=(xs.drop (HT.sIx xs.length 0 lo)).take (HT.sIx xs.length xs.length hi-HT.sIx xs.length 0 lo)
theorem oU(xs:List V)(lo hi:Option Int):(tV xs lo hi).length<=xs.length:=by
 unfold tV;rw[List.length_take,List.length_drop];omega
end
def oj(n:Nat)(i:Int):Option Nat:=if 0<=i then(if i<n then some i.toNat else none) else if -(n:Int)<=i then some (i+n).toNat else none
def ju {α:Type}(xs:List α)(i:Int):Option α:=(oj xs.length i).bind λj=>xs[j]?
theorem nK {n:Nat}{i:Int}{j:Nat}(h:oj n i=some j):seqIndex? i n=some j/\j<n/\ -(n:Int)<=i/\i<n:=by
 unfold oj at h
 by_cases h0:0<=i
 ·rw[if_pos h0] at h
  by_cases h1:i<n
  ·rw[if_pos h1] at h
   have e:i.toNat=j:=Option.some.inj h
   exact⟨by rw[seqIndex_of h0 h1,e],by omega,by omega,h1⟩
  ·rw[if_neg h1] at h;cases h
 ·rw[if_neg h0] at h
  by_cases h1: -(n:Int)<=i
  ·rw[if_pos h1] at h
   have e:(i+n).toNat=j:=Option.some.inj h
   exact⟨by rw[seqIndex_neg (by omega) h1,e],by omega,h1,by omega⟩
  ·rw[if_neg h1] at h;cases h
theorem nu {α:Type}{xs:List α}{i:Int}{v:α}(h:ju xs i=some v): ∃j,seqIndex? i xs.length=some j/\xs[j]? =some v/\j<xs.length/\ -(xs.length:Int)<=i/\i<xs.length:=by
 unfold ju at h;cases e:oj xs.length i with
 |none=>rw[e] at h;cases h
 |some j=>
  rw[e] at h;obtain⟨h1,h2,h3,h4⟩:=nK e
  exact⟨j,h1,h,h2,h3,h4⟩
theorem i6 {α:Type}{xs:List α}{j:Nat}{v:α}(h:xs[j]? =some v):ju xs (j:Int)=some v:=by
 have hj:j<xs.length:=(List.getElem?_eq_some_iff.mp h).1
 have e:oj xs.length (j:Int)=some j:=by
  unfold oj;rw[if_pos (by omega),if_pos (by omega)];simp
 unfold ju;rw[e];exact h
def rV(b:Expr):Prop:= ∀o i,subscripted b false o i=operate [o,i] (getItem o i)
def IxR(X:Cx)(r:R2):Prop:=
 ∀(value slice:Expr) (ae:List (Addr×Obj)) (s:Shared) (σ:St) (H:Hp) (x y:V) (v u:Value) (Q:VK),Inv X ae σ H s->RelV x v->RelV y u->r x y H Q->
  subscripted slice false v u=operate [v,u] (getItem v u)->wpAny (model X.prog X.w) X.A (subscriptTail value slice v u) (EP X ae σ Q) X.xe s
def Al(X:Cx)(id:String)(r:V->List V->Hp->VK->Prop):Prop:=
 ∀(ae:List (Addr×Obj)) (s:Shared) (σ:St) (H:Hp) (x:V) (xs:List V) (v:Value) (us:List Value) (Q:VK),Inv X ae σ H s->RelV x v->Vals xs us->r x xs H Q->
  wpAny (model X.prog X.w) X.A (call (.builtin id) (v::us)) (EP X ae σ Q) X.xe s
section
variable {X:Cx}{a b:Expr}{ta tb:TE}{pos:Pos}
theorem IxR.or {r r':R2}(h:IxR X r)(h':IxR X r'):IxR X (λx y H Q=>r x y H Q\/r' x y H Q):=by
 intro value slice ae s σ H x y v u Q I rx ry q hs;rcases q with q|q
 ·exact h value slice ae s σ H x y v u Q I rx ry q hs
 ·exact h' value slice ae s σ H x y v u Q I rx ry q hs
theorem Bs {r:R2}(hr:IxR X r)(ha:PE X a ta)(hb:PE X b tb)(hs:rV b):PE X (.Subscript a b pos) (Au r ta tb):=by
 intro ae s σ H Q I h;exact Subscript_ (zP ha hb I h λv u s2 x y H2 I2 rx ry q=>hr a b ae s2 σ H2 x y v u Q I2 rx ry q (hs _ _))
def AW(K:W.Frag):R2:=λx y H Q=> ∃p xs i v,x=.ref p/\y=.int i/\SqL K H p xs/\ju xs i=some v/\Q v H
def AE(K:W.Frag):R2:=λx y H Q=> ∃p xs i v,x=.ref p/\y=.int i/\SqT K H p xs/\ju xs i=some v/\Q v H
def AR:R2:=λx y H Q=> ∃z i c,x=.str z/\y=.int i/\z.length<=sizeLine/\ju z.cps.toList i=some c/\Q (.str ⟨#[c]⟩) H
theorem ix_list:IxR X (AW X.K):=by
 intro value slice ae s σ H x y v u Q I rx ry h hs;obtain⟨p,xs,i,z,rfl,rfl,hq,he,q⟩:=h
 cases rx
 obtain⟨t,rfl⟩:=ry
 obtain⟨its,r,pl,hz⟩:=I.list hq
 obtain⟨j,h1,h2,h3,h4,h5⟩:=nu he
 obtain⟨w,ew,rw'⟩:=r.get h2
 have hl:=r.length
 have hn:=g9
 have fin:EP X ae σ Q w s:=⟨z,H,I,rw',q⟩
 by_cases h0:0<=i
 ·have hj:i.toNat=j:=by
   rw[seqIndex_of h0 h5] at h1;exact Option.some.inj h1
  exact item_listR pl.isList h0 (by omega) (by rw[hj];simpa using ew) fin hs
 ·have hj:(i+(its.toArray.size:Int)).toNat=j:=by
   rw[seqIndex_neg (by omega) h4] at h1
   rw[List.size_toArray,<-hl];exact Option.some.inj h1
  exact subscriptTail_builtinR (x:=w) pl.isList.typeIs slot_list_getitem.lookup
   (wpAny_getItem_list_neg (Q:=λr s'=>r=w/\EP X ae σ Q r s') pl.isList (by omega) (by rw[List.size_toArray]<;>omega) (by omega) (by rw[hj];simpa using ew) ⟨rfl,fin⟩) hs
theorem ix_tup:IxR X (AE X.K):=by
 intro value slice ae s σ H x y v u Q I rx ry h hs;obtain⟨p,xs,i,z,rfl,rfl,hq,he,q⟩:=h
 cases rx
 obtain⟨t,rfl⟩:=ry
 obtain⟨its,r,pl,hz⟩:=I.tuple hq
 obtain⟨j,h1,h2,h3,h4,h5⟩:=nu he
 obtain⟨w,ew,rw'⟩:=r.get h2
 have hl:=r.length
 have hn:=g9
 have fin:EP X ae σ Q w s:=⟨z,H,I,rw',q⟩
 exact subscriptTail_builtinR (x:=w) pl.typeIs slot_tuple_getitem.lookup
  (getItem_tuple (j:=j) (Q:=λr s'=>r=w/\EP X ae σ Q r s') pl (by omega) (by omega) (by rw[List.size_toArray,<-hl];exact h1) (by simpa using ew) ⟨rfl,fin⟩) hs
theorem yQ:IxR X AR:=by
 intro value slice ae s σ H x y v u Q I rx ry h hs;obtain⟨z,i,c,rfl,rfl,hz,he,q⟩:=h
 obtain⟨t,rfl⟩:=rx
 obtain⟨t',rfl⟩:=ry
 obtain⟨j,h1,h2,h3,h4,h5⟩:=nu he
 have hl:z.cps.toList.length=z.length:=by simp[Str.length]
 rw[hl] at h1 h4 h5;have hn:=g9
 exact tail_any (typeIs_str s z t) slot_str_getitem.lookup (getItem_str (c:=c) (by
  have e1:decide (i< -(2^63:Int))=false:=decide_eq_false (by omega)
  have e2:decide (i≥2^63)=false:=decide_eq_false (by omega)
  rw[e1,e2,Bool.or_false]) (by rw[h1];simpa using h2) ⟨.str ⟨#[c]⟩,H,I.tok _,⟨_,rfl⟩,q⟩) hs
def CA(K:W.Frag):R2:=λx y H Q=>AW K x y H Q\/AE K x y H Q\/AR x y H Q
theorem aR:IxR X (CA X.K):=ix_list.or (ix_tup.or yQ)
theorem qN(its:List Value)(n j:Nat)(u:Value):Obj.mapSeq (·.setIfInBounds j u) {cls:=.type "list",data:=.seq its.toArray n}={cls:=.type "list",data:=.seq (its.set j u).toArray n}:=by
 simp[Obj.mapSeq]
theorem Inv.lst {ae:List (Addr×Obj)}{σ:St}{H:Hp}{s:Shared}{p:Addr}{xs:List V}(I:Inv X ae σ H s)(h:H p=some (.lst xs)):
 ∃(its:List Value) (n:Nat),Vals xs its/\s.heap.get? p=some {cls:=.type "list",data:=.seq its.toArray n}/\xs.length<=sizeLine:=by
 obtain⟨z,its,n,r,e⟩:=I.hok p _ h
 exact⟨its,n,r,e,z⟩
theorem Inv.lstUpd {ae:List (Addr×Obj)}{σ:St}{H:Hp}{s:Shared}{p:Addr}{xs ys:List V}{its its':List Value}{n n':Nat}{f:Obj->Obj}(I:Inv X ae σ H s)(h:H p=some (.lst xs))
 (ho:s.heap.get? p=some {cls:=.type "list",data:=.seq its.toArray n}) (hf:f {cls:=.type "list",data:=.seq its.toArray n}={cls:=.type "list",data:=.seq its'.toArray n'}) (r:Vals ys its') (hz:ys.length<=sizeLine) (t:Nat):
 Inv X ae σ (cF H p (.lst ys)) {s with heap:=s.heap.update p f,toks:=t}:=by
 have e:(s.heap.update p f).get? p=some {cls:=.type "list",data:=.seq its'.toArray n'}:=by
  rw[Heap.get?_update_self f ho (by rw[hf]<;>rfl),hf]
 refine I.write (x:=p) (e:=p) (by rw[h];trivial) (.inl rfl) (λb u hb q=>(Heap.get?_update_other _ _ (Ne.symm hb)).trans q) ⟨_,e⟩ ?_
 exact⟨hz,its',n',r,e⟩
def A0:V->V->V->Hp->(Hp->Prop)->Prop:=λo i v H Q=> ∃p xs k j,o=.ref p/\i=.int k/\H p=some (.lst xs)/\oj xs.length k=some j/\Q (cF H p (.lst (xs.set j v)))
theorem v4:A6 X A0:=by
 intro ae s σ H o i v ov iv u Q I ro ri rv h;obtain⟨p,xs,k,j,rfl,rfl,hp,hj,q⟩:=h
 cases ro
 obtain⟨t,rfl⟩:=ri
 obtain⟨its,n,r,ho,hz⟩:=I.lst hp
 obtain⟨h1,h2,h3,h4⟩:=nK hj
 have hl:=r.length
 have hn:=g9
 have I':Inv X ae σ (cF H p (.lst (xs.set j v))) {s with heap:=s.heap.update p (Obj.mapSeq (·.setIfInBounds j u))}:=
  I.lstUpd hp ho (qN its n j u) (r.set rv j) (by rw[List.length_set];exact hz) s.toks
 by_cases h0:0<=k
 ·have hk:k.toNat=j:=by
   rw[seqIndex_of h0 h4] at h1;exact Option.some.inj h1
  exact W.ki_setAt ho h0 (by omega) (by rw[List.size_toArray,<-hl];exact h4) (by rw[hk];exact⟨_,I',q⟩)
 ·have hk:(k+(its.toArray.size:Int)).toNat=j:=by
   rw[seqIndex_neg (by omega) h3] at h1
   rw[List.size_toArray,<-hl];exact Option.some.inj h1
  exact W.ki_setBack ho (by omega) (by rw[List.size_toArray,<-hl];exact h3) (by omega) (by rw[hk];exact⟨_,I',q⟩)
theorem mX(lo hi:Option Int)(n:Nat):(sliceBounds lo hi none n).1=((HT.sIx n 0 lo:Nat):Int)/\(sliceBounds lo hi none n).2.1=((HT.sIx n n hi:Nat):Int)/\(sliceBounds lo hi none n).2.2=1:=by
 refine⟨?_,?_,rfl⟩
 ·cases lo with
  |none=>simp[sliceBounds,HT.sIx]
  |some i=>
   simp only[sliceBounds,HT.sIx,Option.getD_none,show(1:Int)>0 by decide,if_true]
   by_cases h:i<0
   ·simp only[h,if_true]<;>omega
   ·simp only[h,if_false]<;>omega
 ·cases hi with
  |none=>simp[sliceBounds,HT.sIx]
  |some i=>
   simp only[sliceBounds,HT.sIx,Option.getD_none,show(1:Int)>0 by decide,if_true]
   by_cases h:i<0
   ·simp only[h,if_true]<;>omega
   ·simp only[h,if_false]<;>omega
theorem lM(its:List Value)(lo hi:Option Int):slicePick its.toArray lo hi none=((its.drop (HT.sIx its.length 0 lo)).take (HT.sIx its.length its.length hi-HT.sIx its.length 0 lo)).toArray:=by
 obtain⟨h1,h2,h3⟩:=mX lo hi its.toArray.size
 unfold slicePick;rw[h1,h2,h3];simp only[sliceRange_one,pick_run,List.size_toArray]<;>rfl
def CS(K:W.Frag):V->Option Int->Option Int->Hp->VK->Prop:=λx lo hi H Q=> ∃a xs,x=.ref a/\SqL K H a xs/\ ∀p,H p=none->Q (.ref p) (cF H p (.lst (tV xs lo hi)))
theorem w8:CV X (CS X.K):=by
 intro ae s σ H x v vl vu lo hi sl Q I rx hs pl pu h;obtain⟨a,xs,rfl,hx,q⟩:=h
 cases rx
 obtain⟨its,r,ht,hz⟩:=I.list hx
 have hlen:=r.length
 refine⟨"list",_,slot_list_getitem.lookup,ht.isList.typeIs,?_⟩
 refine wpAny_getItem_list_slice ht.isList hs pl pu .none (by simp) ?_ (by rw[List.size_toArray]<;>omega)
 rw[lM,<-hlen];refine⟨.ref s.heap.objs.size,_,I.laid (t':=s.toks) (o:=.lst (tV xs lo hi)) (λb ob q=>Heap.get?_push_of_some _ q) (Nat.le_refl _) ?_,rfl,q _ (I.hok.fresh (Nat.le_refl _))⟩
 exact⟨Nat.le_trans (oU xs lo hi) hz,_,0,(r.drop (HT.sIx xs.length 0 lo)).take (HT.sIx xs.length xs.length hi-HT.sIx xs.length 0 lo),Heap.get?_push_size _ rfl⟩
theorem aF:ee X (.builtin "len") (λxs H Q=> ∃p ys,xs=[.ref p]/\(SqL X.K H p ys\/SqT X.K H p ys)/\Q (.int ys.length) H):=by
 intro ae s σ H xs us Q I r h;obtain⟨p,ys,rfl,hq,q⟩:=h
 obtain⟨u,rfl,rx⟩:=fC r
 cases rx
 have hn:=g9
 rcases hq with hq|hq
 ·obtain⟨its,r',pl,hz⟩:=I.list hq
  have hlen:=r'.length
  exact Calls.call_len_list pl.isList (by simp only[List.size_toArray]<;>omega) ⟨.int ys.length,H,I.tok _,⟨s.toks+1,by rw[List.size_toArray,hlen]⟩,q⟩
 ·obtain⟨its,r',pl,hz⟩:=I.tuple hq
  have hlen:=r'.length
  exact len_tuple pl (by simp only[List.size_toArray]<;>omega) ⟨.int ys.length,H,I.tok _,⟨s.toks+1,by rw[List.size_toArray,hlen]⟩,q⟩
theorem fc:ee X (.builtin "len") (λxs H Q=> ∃z,xs=[.str z]/\z.length<=sizeLine/\Q (.int z.length) H):=by
 intro ae s σ H xs us Q I r h;obtain⟨z,rfl,hz,q⟩:=h
 obtain⟨u,rfl,t,rfl⟩:=fC r
 have hn:=g9
 exact len_str (by omega) ⟨.int z.length,H,I.tok _,⟨_,rfl⟩,q⟩
theorem cD:ee X (.type "tuple") (λxs H Q=> ∃p ys,xs=[.ref p]/\((SqL X.K H p ys/\ ∀l,H l=none->Q (.ref l) (cF H l (.tup ys)))\/(SqT X.K H p ys/\Q (.ref p) H))):=by
 intro ae s σ H xs us Q I r h;obtain⟨p,ys,rfl,h⟩:=h
 obtain⟨u,rfl,rx⟩:=fC r
 cases rx
 rcases h with⟨hq,q⟩|⟨hq,q⟩
 ·obtain⟨its,r',pl,hz⟩:=I.list hq
  have hlen:=r'.length
  refine call_tuple_list pl.isList (λh' kp=>?_) (by simp only[List.size_toArray]<;>omega)
  have I1:Inv X ae σ H {s with heap:=h'}:=I.kept (t':=s.toks) kp
  have I2:Inv X ae σ (cF H h'.objs.size (.tup ys)) {s with heap:=h'.push {cls:=.type "tuple",data:=.seq its.toArray}}:=
   I1.laid (t':=s.toks) (λb o e=>Heap.get?_push_of_some _ e) (Nat.le_refl _) (show ObjOk X.prog X.w _ _ _ (.tup ys) from⟨hz,its,r',IsTup.new _ _,_,Heap.get?_push_size _ rfl,rfl⟩)
  exact⟨.ref h'.objs.size,_,I2,rfl,q _ (I1.hok.fresh (Nat.le_refl _))⟩
 ·obtain⟨its,r',pl,hz⟩:=I.tuple hq
  exact call_tuple_same pl ⟨.ref p,H,I,rfl,q⟩
def CP(K:W.Frag)(T:String)(x:V)(H:Hp):Prop:=match x with
 | .str _=>T="str"
 | .int _=>T="int"
 | .ref p=>(T="list"/\ ∃xs,SqL K H p xs)\/(T="tuple"/\ ∃xs,SqT K H p xs)\/
    (T="dict"/\((∃kvs,H p=some (.dK kvs))\/ ∃kvs,H p=some (.dT kvs)))\/(T="set"/\ ∃S n,H p=some (.set S n))\/(T="set"/\ ∃xs,H p=some (.tst xs))
 |_=>False
theorem vQ {ae:List (Addr×Obj)}{σ:St}{H:Hp}{s:Shared}{T:String}{x:V}{v:Value}(I:Inv X ae σ H s)(r:RelV x v)(ty:CP X.K T x H):
 s.TypeIs v T/\ ∀a,v=.ref a-> ∃ob,s.heap.get? a=some ob/\ob.dict=none:=by
 cases x with
 |str z=>
  obtain⟨t,rfl⟩:=r
  cases (show T="str" from ty)
  exact⟨typeIs_str s z t,λ_ e=>nomatch e⟩
 |int i=>
  obtain⟨t,rfl⟩:=r
  cases (show T="int" from ty)
  exact⟨typeIs_int s i t,λ_ e=>nomatch e⟩
 |ref p=>
  cases r
  rcases ty with⟨rfl,xs,hq⟩|⟨rfl,xs,hq⟩|⟨rfl,hk⟩|⟨rfl,S,n,hk⟩|⟨rfl,xs,hk⟩
  ·obtain⟨its,_,pl,_⟩:=I.list hq
   refine⟨pl.isList.typeIs,λa e=>?_⟩
   cases e
   obtain⟨o,n,e,c,hd,_⟩:=pl
   exact⟨o,e,hd⟩
  ·obtain⟨⟨ob,ho,hc⟩,o2,h2,hd⟩:=I.tupleN hq
   refine⟨⟨ob,ho,hc⟩,λa e=>?_⟩
   cases e
   exact⟨o2,h2,hd⟩
  ·have z: ∃o,s.heap.get? p=some o/\o.ExactDict:=by
    rcases hk with⟨kvs,hk⟩|⟨kvs,hk⟩
    ·obtain⟨_,_,_,_,o,_,_,e,ex,_⟩:=I.hok p _ hk
     exact⟨o,e,ex⟩
    ·obtain⟨_,_,_,_,o,_,_,e,ex,_⟩:=I.hok p _ hk
     exact⟨o,e,ex⟩
   obtain⟨o,e,ex⟩:=z
   refine⟨⟨o,e,ex.1⟩,λa e2=>?_⟩
   cases e2
   exact⟨o,e,ex.2.1⟩
  ·obtain⟨o,_,_,_,e,ex,_⟩:=I.hok p _ hk
   refine⟨⟨o,e,ex.1⟩,λa e2=>?_⟩
   cases e2
   exact⟨o,e,ex.2.1⟩
  ·obtain⟨o,_,_,_,e,ex⟩:=I.hok p _ hk
   refine⟨⟨o,e,ex.ex.1⟩,λa e2=>?_⟩
   cases e2
   exact⟨o,e,ex.ex.2.1⟩
 |_=>exact False.elim ty
def Cp(K:W.Frag)(T:String)(r:V->List V->Hp->VK->Prop)(to:TE):TE:=λσ H Q=>to σ H λx H1=>CP K T x H1/\r x [] H1 Q
def Du(K:W.Frag)(T:String)(r:V->List V->Hp->VK->Prop)(to:TE)(t:TA):TE:=λσ H Q=>to σ H λx H1=>CP K T x H1/\t σ H1 λxs H2=>r x xs H2 Q
variable {o e:Expr}{es:List Expr}{to:TE}{t:TA}{name:Str}{apos cpos:Pos}{T id:String}{r:V->List V->Hp->VK->Prop}
theorem zy(pa:PlainAttrs T)(slot:Slot T name id)(hty:typeOf (.builtin id)=pure (.type "method_descriptor"))(hm:Al X id r)(ho:PE X o to)
 (hbase:attributeBase o name X.env (eval o X.env)=eval o X.env:=by rfl) (hline:(apos.endLine==cpos.line)=true:=by rfl):PE X (.Call (.Attribute o name apos) [] [] cpos) (Cp X.K T r to):=by
 intro ae s σ H Q I h;refine wpAny_Call_method0_late hbase hline (cm (ho ae s σ H _ I h) λv s1 hq_=>?_)
 obtain⟨x,H1,I1,r1,ty,q1⟩:=hq_
 obtain⟨h1,h2⟩:=vQ I1 r1 ty
 exact⟨T,id,pa,slot,hty,h1,h2,Calls.callWith_builtin rfl (PySem.evalArgs_none (hm ae s1 σ H1 x [] v [] Q I1 r1 .nil q1))⟩
theorem mB(pa:PlainAttrs T)(slot:Slot T name id)(hty:typeOf (.builtin id)=pure (.type "method_descriptor"))(hm:Al X id r)(ho:PE X o to)(ha:PA X (e::es) t)
 (hbase:attributeBase o name X.env (eval o X.env)=eval o X.env:=by rfl)
 (hfew:((backTo cpos (starEach (e::es) X.env)).all (λx=> !x.1)&&(backToKw cpos (keywordEach [] X.env)).all (λx=>x.1.isSome)
   &&decide ((e::es).length+([]:List Keyword).length+(if([]:List Keyword).isEmpty then 0 else 1)<30))=true:=by rfl)
 (hline:(apos.endLine==cpos.line)=true:=by rfl) (hs:starEach (e::es) X.env=(false,eval e X.env)::starEach es X.env:=by rfl) (hplain:(backTo cpos (starEach es X.env)).any (·.1)=false:=by rfl):
 PE X (.Call (.Attribute o name apos) (e::es) [] cpos) (Du X.K T r to t):=by
 intro ae s σ H Q I h;refine wpAny_Call_method_late hbase hfew hline rfl (cm (ho ae s σ H _ I h) λv s1 hq_=>?_)
 obtain⟨x,H1,I1,r1,ty,q1⟩:=hq_
 obtain⟨h1,h2⟩:=vQ I1 r1 ty
 refine⟨T,id,pa,slot,hty,h1,h2,?_⟩
 have hA:=ha cpos ae s1 σ H1 _ I1 q1
 rw[hs] at hA⊢;refine Calls.callWith_builtin (by show(false||(backTo cpos (starEach es X.env)).any (·.1))=false;rw[hplain]<;>rfl) (Calls.evalArgs_plain ?_)
 exact cm hA λus s2 ⟨vs,H2,I2,r2,q2⟩=>hm ae s2 σ H2 x vs v us Q I2 r1 r2 q2
end
def Bz(X:Cx)(id:String)(r:V->List V->Hp->VK->Prop):Prop:=
 ∀(ae:List (Addr×Obj)) (s:Shared) (σ:St) (H:Hp) (x:V) (xs:List V) (v:Value) (us:List Value) (Q:VK),Inv X ae σ H s->RelV x v->Vals xs us->r x xs H Q->
  wpAny (model X.prog X.w) X.A (call (.builtin id) (v::us)) (EP X ae σ Q) X.xe s
theorem Vals.one: ∀ {x:V} {us:List Value},Vals [x] us-> ∃u,us=[u]/\RelV x u
 |_,_,.cons r .nil=>⟨_,rfl,r⟩
theorem Vals.zero: ∀ {us:List Value},Vals [] us->us=[]
 |_,.nil=>rfl
theorem Vals.eraseIdx: ∀ {xs:List V} {us:List Value} (i:Nat),Vals xs us->Vals (xs.eraseIdx i) (us.eraseIdx i)
 |_,_,_,.nil=>.nil
 |_,_,0,.cons _ t=>t
 |_,_,i+1,.cons r t=>.cons r (Vals.eraseIdx i t)
theorem Vals.reverse {xs:List V}{us:List Value}(h:Vals xs us):Vals xs.reverse us.reverse:=by
 induction h with
 |nil=>exact .nil
 |cons r t ih=>rw[List.reverse_cons,List.reverse_cons];exact Vals.append ih (.cons r .nil)
theorem mn {α:Type}: ∀(l:List α) (i:Nat),(l.eraseIdx i).length<=l.length
 | [],_=>Nat.le_refl _
 |_::_,0=>Nat.le_succ _
 |_::r,i+1=>Nat.succ_le_succ (mn r i)
section
variable {X:Cx}{ae:List (Addr×Obj)}{σ:St}{H:Hp}{s:Shared}{l b:Addr}{xs ys zs:List V}
theorem Inv.lset {its its':List Value}{n:Nat}{f:Array Value->Array Value}{t':Nat}(I:Inv X ae σ H s)(hH:H l=some (.lst xs))
 (e:s.heap.get? l=some {cls:=.type "list",data:=.seq its.toArray n}) (hf:f its.toArray=its'.toArray) (hv:Vals ys its') (hz:ys.length<=sizeLine):
 Inv X ae σ (cF H l (.lst ys)) {s with heap:=s.heap.update l (Obj.mapSeq f),toks:=t'}:=by
 have q:=PySem.IsL.update e f
 rw[hf] at q;refine I.write (x:=l) (e:=l) (by rw[hH];exact trivial) (.inl rfl) (λb' u hb hu=>(Heap.get?_update_other s.heap (Obj.mapSeq f) (Ne.symm hb)).trans hu) ⟨_,q⟩ ?_
 exact⟨hz,its',_,hv,q⟩
theorem Inv.lnew {its:List Value}{t':Nat}(I:Inv X ae σ H s)(hv:Vals ys its)(hz:ys.length<=sizeLine):
 Inv X ae σ (cF H s.heap.objs.size (.lst ys)) {s with heap:=s.heap.push {cls:=.type "list",data:=.seq its.toArray},toks:=t'}:=
 I.laid (λ_ _ q=>Heap.get?_push_of_some _ q) (Nat.le_refl _) ⟨hz,its,0,hv,Heap.get?_push_size _ rfl⟩
theorem Inv.fresh(I:Inv X ae σ H s):H s.heap.objs.size=none:=I.hok.fresh (Nat.le_refl _)
theorem Inv.lstM(I:Inv X ae σ H s)(hH:H l=some (.lst xs)):xs.length<=sizeLine/\ ∃(its:List Value) (n:Nat),Vals xs its/\xs.length=its.length/\s.heap.get? l=some {cls:=.type "list",data:=.seq its.toArray n}:=by
 obtain⟨z,its,n,r,e⟩:=I.hok l _ hH
 exact⟨z,its,n,r,r.length,e⟩
end
section
variable {X:Cx}
def rT:V->List V->Hp->VK->Prop:=λx vs H Q=> ∃l xs y,x=.ref l/\vs=[y]/\H l=some (.lst xs)/\xs.length<sizeLine/\Q .non (cF H l (.lst (xs++[y])))
theorem fZ:Bz X "list.append" rT:=by
 intro ae s σ H x vs v us Q I rx rv h;obtain⟨l,xs,y,rfl,rfl,hH,hz,q⟩:=h
 cases rx
 obtain⟨u,rfl,ru⟩:=rv.one
 obtain⟨z,its,n,r,hl,e⟩:=I.lstM hH
 refine call_meets F.slot_list_append ⟨_,e,rfl⟩ F.entry_list_append (F.args_list_append_2 _ _) (PySem.list_append l its.toArray n u (by rw[List.size_toArray];omega)) ⟨e,?_⟩
 refine⟨.non,_,I.lset (its':=its++[u]) hH e (by simp) (r.append (.cons ru .nil)) ?_,rfl,q⟩
 rw[List.length_append,List.length_singleton];omega
def uR:V->List V->Hp->VK->Prop:=λx vs H Q=> ∃l xs i k y,x=.ref l/\vs=[.int i]/\H l=some (.lst xs)/\ -(2^63)<=i/\i<2^63/\seqIndex? i xs.length=some k/\xs[k]? =some y/\Q y (cF H l (.lst (xs.eraseIdx k)))
theorem vT:Bz X "list.pop" uR:=by
 intro ae s σ H x vs v us Q I rx rv h;obtain⟨l,xs,i,k,y,rfl,rfl,hH,h1,h2,hk,hy,q⟩:=h
 cases rx
 obtain⟨u,rfl,ru⟩:=rv.one
 obtain⟨t,rfl⟩:=ru
 obtain⟨z,its,n,r,hl,e⟩:=I.lstM hH
 obtain⟨w,hw,rw'⟩:=r.get hy
 refine call_meets F.slot_list_pop ⟨_,e,rfl⟩ F.entry_list_pop (F.args_list_pop_2 _ _)
  (MeetsSeq.list_pop_at l its.toArray n i t k w (fitsIndex_both h1 h2) (by rw[List.size_toArray,<-hl];exact hk) (by rw[<-Array.getElem?_toList];exact hw) (by rw[List.size_toArray];omega)) ⟨e,?_⟩
 refine⟨y,_,I.lset (its':=its.eraseIdx k) hH e ?_ (r.eraseIdx k) ?_,rw',q⟩
 ·show its.toArray.eraseIdxIfInBounds k=(its.eraseIdx k).toArray
  rw[List.eraseIdxIfInBounds_toArray]
 ·have:=mn xs k
  omega
def pW:V->List V->Hp->VK->Prop:=λx vs H Q=> ∃l xs,x=.ref l/\vs=[]/\H l=some (.lst xs)/\Q .non (cF H l (.lst xs.reverse))
theorem iS:Bz X "list.reverse" pW:=by
 intro ae s σ H x vs v us Q I rx rv h;obtain⟨l,xs,rfl,rfl,hH,q⟩:=h
 cases rx
 have hus:=rv.zero
 subst hus;obtain⟨z,its,n,r,hl,e⟩:=I.lstM hH
 refine call_meets F.slot_list_reverse ⟨_,e,rfl⟩ F.entry_list_reverse (F.args_list_reverse_1 _) (AutoSeq1.list_reverse_list_0 l its.toArray n (by rw[List.size_toArray];omega)) ⟨e,?_⟩
 refine⟨.non,_,I.lset (its':=its.reverse) hH e (by simp) r.reverse ?_,rfl,q⟩
 rw[List.length_reverse];omega
end
end L2
namespace Att
open PySem PySem.W PySem.Calls PyProof.Rows
theorem j7 {P:Params}{h:Heap}: ∀(ns:List Int) (vs:List Value),WellAll P h vs (ns.map WData.int)->IntsAre vs ns:=by
 intro ns
 induction ns with
 |nil=>
  intro vs w;rw[List.map_nil] at w;cases w
  exact .nil
 |cons n ns ih=>
  intro vs w;rw[List.map_cons] at w;cases w with
  |cons a b=>
   cases a
   exact .cons _ _ (ih _ b)
theorem uh {l:OpenLaw}{n:Nat}(hn:l.most=some n){P:Params}{h:Heap}{args:List WData}{vals:List Value}
 (hpre:l.row.toRowW.claim.pre args=true) (hwl:WellAll P h vals args):
 ∃a vs ns,vals=[Value.ref a]/\args=[WData.list (ns.map WData.int)]/\h.get? a=some {cls:=.type "list",data:=.seq vs.toArray}/\IntsAre vs ns/\ns.length<=n:=by
 have hsh:WShape.hasAll [] args [.list .int]=true:=(pre_splitW hpre).1
 have hc:l.pre.holds [] {args:=args}=true:=(pre_splitW hpre).2
 obtain⟨d,r,rfl,h1,h2⟩:=hasAllW_cons hsh
 obtain rfl:=hasAllW_nil h2
 obtain⟨xs,rfl,h3⟩:=hasW_list h1
 obtain⟨ns,rfl⟩:=items_int h3
 have hlen:ns.length<=n:=by
  unfold OpenLaw.pre at hc;have h4:(WTm.not (.lt (.lit (.int (n:Int))) (.len (.arg 0)))).holds [] {args:=[.list (ns.map .int)]}=true:=by
   have h4:=(holds_andW hc).1
   rw[hn] at h4;exact h4
  have h5:=condW_of h4 (w_not (w_lt w_lit (w_len_list (w_arg rfl))))
  rw[List.length_map] at h5;refine Nat.le_of_not_lt λq=>?_
  have q':(n:Int)<((ns.length:Nat):Int):=by omega
  first
   |(rw[decide_eq_true q'] at h5;exact absurd h5 (by decide))
   |(simp at h5;omega)
 cases hwl with
 |cons w1 w2=>
  cases w2
  cases w1 with
  |list ho hall=>exact⟨_,_,ns,rfl,rfl,ho,j7 ns _ hall,hlen⟩
theorem tJ(l:OpenLaw)(args:List WData):l.row.toRowW.claim.post args (.bool true) args=true:=
 postW_of (r:=l.row.toRowW) (X:=(true==true))
  (show WShape.has [] (.bool true) .bool=true by first|rfl|decide|simp[WShape.has,WShape.arms,WShape.armsAll])
  (show(WTm.eq .res (.lit (.bool true))).value [] {args:=args,res:=some (.bool true),after:=args}=some (.bool (true==true)) from w_eq_bool (w_res rfl) w_lit) rfl
theorem attach_call {l:OpenLaw}{n:Nat}{q:Program}{loose:List Str}{XP:(Str->Option Value)->Heap->Prop}{YP:World->Heap->Prop}{d:DefRec}
 (hn:l.most=some n) (hdf:d.params.defaults=[])
 (call: ∀(w:World) (s₀ s₁:Shared) (mg mb:Str->Option Value) (fa:Addr) (o:Obj) (pm cd doc:Value) (a:Addr) (vs:List Value) (ns:List Int),
   Ground q loose [] XP w s₀ mg mb s₁.heap->YP w s₁.heap->
   s₁.heap.get? fa=some o->o.data=.func (docDef d.name d.params d.body d.scope pm cd doc)->s₁.heap.CodeRec cd d.name->mg d.name=some (.ref fa)->
   s₁.heap.get? a=some {cls:=.type "list",data:=.seq vs.toArray}->IntsAre vs ns->ns.length<=n->s₁.gens= #[]->
   codeAny (model l.prog w) callerA (.call (.ref fa) ⟨[.ref a],[]⟩) (λr s'=>r=.ok (.ret (.bool true))/\OldK s₁.heap s'.heap/\s'.os=s₁.os/\AllBare s'.gens) s₁):
 WalkO q loose XP YP l.row.toRowW d [] (λf vs=>PySem.call f vs):=by
 intro w s₀ s₁ mg mb G Y fa o pm cd doc dV kV ho hd hcd hD hmg hg args vals as hpre hlay hrd hwl hlo;obtain rfl:dV=.none:=Dflts.none hD hdf
 obtain rfl:kV=.none:=Dflts.noKw hD
 obtain⟨a,vs,ns,rfl,rfl,hobj,hints,hlen⟩:=uh hn hpre hwl
 refine enter_call (codeAny_mono (call w s₀ s₁ mg mb fa o pm cd doc a vs ns G Y ho (fd_plain hd) hcd hmg hobj hints hlen hg) λr s' hq=>?_)
 obtain⟨rfl,h2,h3,h4⟩:=hq
 exact⟨.inl ⟨.bool true,.bool true,[],rfl,λ_=>rfl,.bool true,tJ l _,λ_=>⟨List.Pairwise.nil,λ_ hm=>(nomatch hm)⟩⟩,h2,h3,h4⟩
end Att
namespace L2
open PySem PySem.Spec PyProof.Rows
theorem md: ∀ {vs:List Value} {ns:List Int},IntsAre vs ns->Vals (ns.map V.int) vs
 |_,_,.nil=>.nil
 |_,_,.cons n t h=>.cons ⟨t,rfl⟩ (md h)
def zv(H:Hp):Prop:= ∀b,H b=none\/ ∃o xs,H b=some (.frz o (.lst xs))
theorem uJ {P:Program}{w:World}{K:W.Frag}{mg mb:Str->Option Value}{CX:oh}{k:Nat}{fa a:Addr}{fd:FuncData}{x:Str}{sp:Sp}{s₁:Shared}{vs:List Value}{ns:List Int}
 (KX:K.In s₁.heap) (hns:s₁.heap.Ns mainGlobals mg) (hb:s₁.heap.Ns builtinsNs mb) (hbb: ∀x:Str,x≠"__name__"->mb x=bootBuiltins x) (hlim:s₁.heap.NoLimit) (hg:s₁.gens= #[])
 (ha:s₁.heap.get? a=some {cls:=.type "list",data:=.seq vs.toArray}) (hi:IntsAre vs ns) (hl:ns.length<=sizeLine) (hr:Room k callerA)
 (F: ∀base:Heap,K.In base->base.Ns mainGlobals mg->FnOk P w K mg base CX k fa fd [x] sp) (hbind: ∀(s:Shared) (u:Value),BindsTo s fd ⟨[u],[]⟩ [(x,u)])
 (hsp: ∀H:Hp,zv H->SqL K H a (ns.map V.int)->sp [.ref a] H (λv _=>v=.bl true) λ_ _ _=>False)
 (hCX: ∀H e s',CX [] H s₁ (λ_ _ _=>False) e s'->False):
 codeAny (model P w) callerA (.call (.ref fa) ⟨[.ref a],[]⟩) (λr s'=>r=.ok (.ret (.bool true))/\OldK s₁.heap s'.heap/\s'.os=s₁.os/\AllBare s'.gens) s₁:=by
 have rv:=md hi
 have lenV:=hi.length
 have core: ∀H:Hp,zv H->SqL K H a (ns.map V.int)->HOk P w H s₁.heap->(∀b,H b≠none->b=a)->(H a≠none->K.lookup a=none)->
  codeAny (model P w) callerA (.call (.ref fa) ⟨[.ref a],[]⟩) (λr s'=>r=.ok (.ret (.bool true))/\OldK s₁.heap s'.heap/\s'.os=s₁.os/\AllBare s'.gens) s₁:=by
  intro H hO hS hok hA hK;have base_of: ∀ {b:Addr} {o:Obj},s₁.heap.get? b=some o->H b=none->(n8 s₁.heap H).get? b=some o:=λe n=>wf e n
  have noA: ∀ {b:Addr} {o:Obj} {es:Array DictEntry} {ep:Nat},s₁.heap.get? b=some o->o.data=.dict es ep->H b=none:=λ{b o es ep} e d=>by
   cases q:H b with
   |none=>rfl
   |some u=>
    have e':b=a:=hA b (by rw[q];simp)
    subst e';rw[ha] at e;cases e;have d':Data.seq vs.toArray _=Data.dict es ep:=d
    cases d'
  have nsK: ∀ {b:Addr} {m:Str->Option Value},s₁.heap.Ns b m->(n8 s₁.heap H).Ns b m:=λ{b m} ⟨o,es,ep,e,d,r⟩=>⟨o,es,ep,base_of e (noA e d),d,r⟩
  have hKb:K.In (n8 s₁.heap H):=λb o e=>base_of (KX b o e) (by
   cases q:H b with
   |none=>rfl
   |some u=>
    have e':b=a:=hA b (by rw[q];simp)
    subst e';rw[hK (by rw[q];simp)] at e;cases e)
  have hM:Mod K mg (n8 s₁.heap H):=⟨hKb,nsK hns,⟨mb,nsK hb,hbb⟩,let⟨mc,h1,h2⟩:=hlim;⟨mc,nsK h1,h2⟩⟩
  have e0:Env0 P w K mg (n8 s₁.heap H) callerA [] s₁ H:=⟨rfl,hM,λb o e=>yj e,Nat.le_of_eq (tw _ _),trivial,λb hb=>absurd (show b∈([]:List Addr) from hb) (by simp),hok,.of_eq hg⟩
  refine codeAny_mono ((F _ hKb (nsK hns)).run callerA [] s₁ H ⟨[.ref a],[]⟩ [.ref a] [.ref a] _ _ hr e0 (hbind s₁ (.ref a)) (.cons rfl .nil) (hsp H hO hS)) λr s' h=>?_
  cases r with
  |error e=>exact(hCX H e s' h).elim
  |ok fl=>
   cases fl with
   |next=>exact False.elim h
   |brk=>exact False.elim h
   |cont=>exact False.elim h
   |ret u=>
    obtain⟨v,H',os,bare,un,hok',r',q⟩:=h
    have q':v=.bl true:=q
    subst q';obtain rfl:u=Value.bool true:=r'
    refine⟨rfl,OldK.of_keep λb o e=>?_,os,bare⟩
    cases q:H b with
    |none=>exact un.keep b o e q (by intro z;exact absurd (show b∈([]:List Addr) from z) (by simp)) (by simp)
    |some u=>
     rcases hO b with z|⟨ob,xs,z⟩
     ·rw[q] at z;cases z
     ·have z2:=un.frzs b ob _ z
      obtain⟨e1,_⟩:=hok b _ z
      obtain⟨e2,_⟩:=hok' b _ z2
      rw[e] at e1;cases e1;exact e2
 cases hk:K.lookup a with
 |some o=>
  have e:=KX a o hk
  rw[ha] at e;cases e
  refine core (λ_=>none) (λ_=>.inl rfl) (.inr ⟨_,vs.toArray,_,hk,rfl,rfl,rfl,by rw[List.size_toArray,lenV];exact hl,by simpa using rv⟩) (λb u z=>by have z':(none:Option HO)=some u:=z;cases z') (λb z=>absurd rfl z) λz=>absurd rfl z
 |none=>
  refine core (λb=>if b=a then some (.frz {cls:=.type "list",data:=.seq vs.toArray} (.lst (ns.map V.int))) else none) (λb=>?_) (.inl (.inr ⟨{cls:=.type "list",data:=.seq vs.toArray},if_pos rfl⟩)) (λb u z=>?_) (λb z=>?_) λ_=>hk
  ·by_cases hb:b=a
   ·exact .inr ⟨_,_,if_pos hb⟩
   ·exact .inl (if_neg hb)
  ·by_cases hb:b=a
   ·have z':=(if_pos hb).symm.trans z
    cases z'
    subst hb;exact⟨ha,by rw[List.length_map];exact hl,vs,_,rv,ha⟩
   ·have z':=(if_neg hb).symm.trans z
    cases z'
  ·by_cases hb:b=a
   ·exact hb
   ·exact absurd (if_neg hb) z
theorem walk_of {l:W.OpenLaw}{n k:Nat}{q:Program}{loose:List Str}{XP:(Str->Option Value)->Heap->Prop}{YP:World->Heap->Prop}{d:DefRec}{K:Params->W.Frag}{CX:World->oh}{sp:World->Sp}{x:Str}
 (hn:l.most=some n) (hn2:n<=sizeLine) (hdf:d.params.defaults=[]) (hr:Room k callerA)
 (hY: ∀(w:World) (h:Heap),YP w h->(K w.params).In h)
 (F: ∀(w:World) (mg:Str->Option Value) (fa:Addr) (h:Heap),(K w.params).In h->h.Ns mainGlobals mg->mg d.name=some (.ref fa)->
   ∃fd:FuncData,(∀(s:Shared) (u:Value),BindsTo s fd ⟨[u],[]⟩ [(x,u)])/\
    ∀base:Heap,(K w.params).In base->base.Ns mainGlobals mg->FnOk l.prog w (K w.params) mg base (CX w) k fa fd [x] (sp w))
 (hsp: ∀(w:World) (H:Hp) (a:Addr) (ns:List Int),ns.length<=n->zv H->SqL (K w.params) H a (ns.map V.int)->sp w [.ref a] H (λv _=>v=.bl true) λ_ _ _=>False)
 (hCX: ∀(w:World) (H:Hp) (s:Shared) (e:Value) (s':Shared),CX w [] H s (λ_ _ _=>False) e s'->False):
 W.WalkO q loose XP YP l.row.toRowW d [] (λf vs=>PySem.call f vs):=by
 refine Att.attach_call hn hdf λw s₀ s₁ mg mb fa o pm cd doc a vs ns G Y ho hd hcd hmg hobj hints hlen hg=>?_
 have KX:=hY w _ Y
 obtain⟨fd,hb,hF⟩:=F w mg fa _ KX G.T.g hmg
 exact uJ KX G.T.g G.T.b G.T.builtins G.T.nolimit hg hobj hints (Nat.le_trans hlen hn2) hr hF hb (λH hO hS=>hsp w H a ns hlen hO hS) λH e s'=>hCX w H s₁ e s'
def bj(s:Stmt):Arguments:=match s with
 | .FunctionDef _ a _ _ _ _ _ _ _ _=>a
 |_=>{posonlyargs:=[],args:=[],vararg:=none,kwonlyargs:=[],kw_defaults:=[],kwarg:=none,defaults:=[]}
def aQ(s:Stmt):List Stmt:=match s with
 | .FunctionDef _ _ b _ _ _ _ _ _ _=>b
 |_=>[]
def ar(s:Stmt):Scope:=match s with
 | .FunctionDef _ _ _ _ _ _ sc _ _ _=>sc
 |_=>{kind:=.function,names:=[],isGenerator:=false,isCoroutine:=false}
abbrev lR:oh:=λ_ _ _ _ _ _=>False
abbrev E0:XK:=λ_ _ _=>False
theorem rR {X:Cx}:qk lR X E0:=λ_ _ _ _ _ _ _ h=>h.elim
structure Fun(K:W.Frag)(x qual:Str)(st:Stmt)(f:Addr)(fd:FuncData):Prop where
 ex: ∃(oc:Value) (od:Option Addr) (kV doc pm:Value) (an:Option Addr) (cdv ct:Value) (osl:Array (Option Value)),
  fd=W.fnOf x qual (bj st) (aQ st) (ar st) .none kV doc pm an cdv ct/\K.lookup f=some ⟨oc,od,.func fd,osl⟩/\W.codeIn K cdv qual=true
 kp:W.keepIn K (.ref f)=true
section
variable {P:Program}{w:World}{K:W.Frag}{mg:Str->Option Value}{base:Heap}
theorem Fun.ok {x qual:Str}{st:Stmt}{f:Addr}{fd:FuncData}{N ps:List Str}{k:Nat}{sp:Sp}(F:Fun K x qual st f fd)(S:FnScope N ps (ar st))(len: ∀vs H Q E,sp vs H Q E->vs.length=ps.length)
 (hbody: ∀(cdv:Value) (A:Around) (outer:List Env) (s:Shared) (H:Hp) (vs:List V) (Q:VK) (E:XK),Room k (A.deeper (envOfC qual (ar st) s.heap.objs.size f cdv))->sp vs H Q E->
   ∃t,PSs (jI lR P w K mg base N qual (ar st) f cdv A outer s H E).nox (aQ st) t/\t {nx:=λ_ H'=>Q .non H',rt:=Q} (dh N vs) H):FnOk P w K mg base lR (k+1) f fd ps sp:=by
 obtain⟨oc,od,kV,doc,pm,an,cdv,ct,osl,rfl,lk,hcd⟩:=F.ex
 refine yp lk hcd S len λA outer s H vs Q E hr hsp=>?_
 obtain⟨t,h,q⟩:=hbody cdv A outer s H vs Q E hr hsp
 exact⟨t,h.nox,q⟩
theorem Fun.binds {x qual:Str}{st:Stmt}{f:Addr}{fd:FuncData}{ps:List Str}(F:Fun K x qual st f fd)
 (h: ∀(kV doc pm:Value) (an:Option Addr) (cdv ct:Value) (us:List Value),us.length=ps.length->bindArgs (W.fnOf x qual (bj st) (aQ st) (ar st) .none kV doc pm an cdv ct) ⟨us,[]⟩=pure (ps.zip us)):Binds K fd ps []:=by
 obtain⟨oc,od,kV,doc,pm,an,cdv,ct,osl,rfl,lk,hcd⟩:=F.ex
 exact .all (h kV doc pm an cdv ct)
theorem cy {x qual:Str}{st:Stmt}{f:Addr}{oc:Value}{od an:Option Addr}{osl:Array (Option Value)}{kV doc pm cdv ct:Value}(l:K.lookup f=some ⟨oc,od,.func (W.fnOf x qual (bj st) (aQ st) (ar st) .none kV doc pm an cdv ct),osl⟩)
 (c:W.codeIn K cdv qual=true) (k:W.keepIn K (.ref f)=true):Fun K x qual st f (W.fnOf x qual (bj st) (aQ st) (ar st) .none kV doc pm an cdv ct):=⟨⟨oc,od,kV,doc,pm,an,cdv,ct,osl,rfl,l,c⟩,k⟩
end
theorem ig {n:Nat}(h:n<=1000):n<sizeLine:=Nat.lt_of_le_of_lt h (by decide)
section
variable {X:Cx}
theorem pv(i:Nat){x:Str}{pos:Pos}(hN:X.N[i]? =some x:=by rfl)(hv:qw X.env.scope x:=by first|exact Or.inl rfl|exact Or.inr (Or.inl rfl)|exact Or.inr (Or.inr rfl))(hd:(x==("__debug__":Str))=false:=by decide)
 (hcd:(x==("__classdict__":Str))=false:=by decide):PE X (.Name x pos) (Bl i):=z9 hN hv hd hcd
end
theorem nE {A B:Prop}(h:B):if false=true then A else B:=by
 rw[if_neg Bool.false_ne_true];exact h
theorem mV {A B:Prop}(h:A):if true=true then A else B:=by
 rw[if_pos rfl];exact h
def Same(H H':Hp):Prop:= ∀b o,H b=some o->H' b=some o
theorem Same.refl(H:Hp):Same H H:=λ_ _ h=>h
theorem Same.trans {H H1 H2:Hp}(a:Same H H1)(b:Same H1 H2):Same H H2:=λc o h=>b c o (a c o h)
theorem Same.free {H H':Hp}(e:Same H H'){l:Addr}(h:H' l=Option.none):H l=Option.none:=by
 cases q:H l with
 |none=>rfl
 |some o=>
  rw[e l o q] at h;cases h
theorem Same.seq {K:W.Frag}{H H':Hp}{a:Addr}{xs:List V}(e:Same H H')(h:SqL K H a xs):SqL K H' a xs:=by
 rcases h with(h|⟨o,h⟩)|h
 ·exact .inl (.inl (e _ _ h))
 ·exact .inl (.inr ⟨o,e _ _ h⟩)
 ·exact .inr h
inductive D where
 |non|bl (b:Bool)|int (i:Int)|str (x:Str)|tup (ds:List D)|lst (ds:List D)
 |scr (ds:List D)
def SqR(K:W.Frag)(H:Hp)(a:Addr)(xs:List V):Prop:=
 (∃o,H a=some (.frz o (.lst xs)))\/
   ∃(o:Obj) (its:Array Value) (n:Nat),K.lookup a=some o/\o.cls=.type "list"/\o.dict=none/\o.data=.seq its n/\its.size<=sizeLine/\Vals xs its.toList
theorem SqR.seq {K:W.Frag}{H:Hp}{a:Addr}{xs:List V}(h:SqR K H a xs):SqL K H a xs:=h.elim (λh=>.inl (.inr h)) .inr
theorem Same.seqR {K:W.Frag}{H H':Hp}{a:Addr}{xs:List V}(e:Same H H')(h:SqR K H a xs):SqR K H' a xs:=h.elim (λ⟨o,h⟩=>.inl ⟨o,e _ _ h⟩) .inr
mutual
inductive Rep (K:W.Frag) (F:Hp):V->D->Prop
 |non:Rep K F .non .non
 |bl {b:Bool}:Rep K F (.bl b) (.bl b)
 |int {i:Int}:Rep K F (.int i) (.int i)
 |str {x:Str}:Rep K F (.str x) (.str x)
 |tup {a:Addr} {xs:List V} {ds:List D}:SqT K F a xs->Reps K F xs ds->Rep K F (.ref a) (.tup ds)
 |lst {a:Addr} {xs:List V} {ds:List D}:F a=some (.lst xs)->Reps K F xs ds->Rep K F (.ref a) (.lst ds)
 |scr {a:Addr} {xs:List V} {ds:List D}:SqR K F a xs->Reps K F xs ds->Rep K F (.ref a) (.scr ds)
inductive Reps (K:W.Frag) (F:Hp):List V->List D->Prop
 |nil:Reps K F [] []
 |cons {x:V} {d:D} {xs:List V} {ds:List D}:Rep K F x d->Reps K F xs ds->Reps K F (x::xs) (d::ds)
end
theorem Same.seqT {K:W.Frag}{H H':Hp}{a:Addr}{xs:List V}(e:Same H H')(h:SqT K H a xs):SqT K H' a xs:=by
 rcases h with(h|⟨o,h⟩)|h
 ·exact .inl (.inl (e _ _ h))
 ·exact .inl (.inr ⟨o,e _ _ h⟩)
 ·exact .inr h
mutual
theorem Rep.mono {K:W.Frag}{F G:Hp}(s:Same F G): ∀ {v:V} {d:D},Rep K F v d->Rep K G v d
 |_,_,.non=>.non
 |_,_,.bl=>.bl
 |_,_,.int=>.int
 |_,_,.str=>.str
 |_,_,.tup h r=>.tup (Same.seqT s h) (Reps.mono s r)
 |_,_,.lst h r=>.lst (s _ _ h) (Reps.mono s r)
 |_,_,.scr h r=>.scr (Same.seqR s h) (Reps.mono s r)
theorem Reps.mono {K:W.Frag}{F G:Hp}(s:Same F G): ∀ {v:List V} {d:List D},Reps K F v d->Reps K G v d
 |_,_,.nil=>.nil
 |_,_,.cons r t=>.cons (Rep.mono s r) (Reps.mono s t)
end
section
variable {K:W.Frag}{F G H:Hp}
theorem Reps.length: ∀ {xs:List V} {ds:List D},Reps K F xs ds->xs.length=ds.length
 |_,_,.nil=>rfl
 |_,_,.cons _ t=>by simp[t.length]
theorem Reps.get: ∀ {xs:List V} {ds:List D} {i:Nat} {d:D},Reps K F xs ds->ds[i]? =some d-> ∃x,xs[i]? =some x/\Rep K F x d
 |_,_,_,_,.nil,e=>by simp at e
 |_,_,0,_,.cons r _,e=>by simp at e;subst e;exact⟨_,rfl,r⟩
 |_,_,i+1,d,.cons _ t,e=>by
  obtain⟨u,h1,h2⟩:=Reps.get (i:=i) (d:=d) t (by simpa using e)
  exact⟨u,by simpa using h1,h2⟩
theorem Reps.get' {xs:List V}{ds:List D}{i:Nat}{x:V}(r:Reps K F xs ds)(e:xs[i]? =some x): ∃d,ds[i]? =some d/\Rep K F x d:=by
 have hl:=r.length
 have hi:=(List.getElem?_eq_some_iff.mp e).1
 have e2:ds[i]? =some ds[i]:=List.getElem?_eq_getElem (by omega)
 obtain⟨y,h1,h2⟩:=r.get e2
 rw[e] at h1;cases h1;exact⟨_,e2,h2⟩
theorem Reps.append: ∀ {xs ys:List V} {us ws:List D},Reps K F xs us->Reps K F ys ws->Reps K F (xs++ys) (us++ws)
 |_,_,_,_,.nil,s=>s
 |_,_,_,_,.cons r t,s=>.cons r (Reps.append t s)
theorem Reps.set {x:V}{u:D}(r:Rep K F x u): ∀ {xs:List V} {us:List D} (i:Nat),Reps K F xs us->Reps K F (xs.set i x) (us.set i u)
 |_,_,_,.nil=>.nil
 |_,_,0,.cons _ t=>.cons r t
 |_,_,i+1,.cons q t=>.cons q (Reps.set r i t)
theorem Reps.eraseIdx: ∀ {xs:List V} {us:List D} (i:Nat),Reps K F xs us->Reps K F (xs.eraseIdx i) (us.eraseIdx i)
 |_,_,_,.nil=>.nil
 |_,_,0,.cons _ t=>t
 |_,_,i+1,.cons q t=>.cons q (Reps.eraseIdx i t)
theorem Reps.reverse {xs:List V}{us:List D}(h:Reps K F xs us):Reps K F xs.reverse us.reverse:=by
 induction xs generalizing us with
 |nil=>cases h;exact .nil
 |cons x xs ih=>
  cases h with
  |cons r t=>simp only[List.reverse_cons];exact(ih t).append (.cons r .nil)
theorem Reps.take: ∀ {xs:List V} {us:List D} (n:Nat),Reps K F xs us->Reps K F (xs.take n) (us.take n)
 |_,_,0,_=>.nil
 |_,_,_+1,.nil=>.nil
 |_,_,n+1,.cons r t=>.cons r (Reps.take n t)
theorem Reps.drop: ∀ {xs:List V} {us:List D} (n:Nat),Reps K F xs us->Reps K F (xs.drop n) (us.drop n)
 |_,_,0,r=>r
 |_,_,_+1,.nil=>.nil
 |_,_,n+1,.cons _ t=>Reps.drop n t
end
abbrev bF:=Addr->Bool
def vw(H:Hp)(hid:bF):Hp:=λb=>if hid b=true then none else H b
def aV(hid:bF)(a:Addr):bF:=λb=>hid b||decide (b=a)
def lg(hid:bF)(a:Addr):bF:=λb=>hid b&& !decide (b=a)
theorem vw_some {H:Hp}{hid:bF}{b:Addr}{o:HO}:vw H hid b=some o↔hid b=false/\H b=some o:=by
 unfold vw;cases hb:hid b<;>simp
theorem cX(H:Hp)(hid:bF):Same (vw H hid) H:=λb o h=>(vw_some.mp h).2
theorem ba {H H':Hp}{hid:bF}(s:Same H H'):Same (vw H hid) (vw H' hid):=λb o h=>vw_some.mpr ⟨(vw_some.mp h).1,s _ _ (vw_some.mp h).2⟩
theorem se {H H':Hp}{hid:bF}(s: ∀b o,H b=some o->hid b=false->H' b=some o):Same (vw H hid) (vw H' hid):=λb o h=>vw_some.mpr ⟨(vw_some.mp h).1,s _ _ (vw_some.mp h).2 (vw_some.mp h).1⟩
theorem gy {H:Hp}{hid:bF}{a:Addr}{o:HO}(h:hid a=true):vw (cF H a o) hid=vw H hid:=by
 funext b;unfold vw cF
 by_cases e:b=a
 ·subst e;simp[h]
 ·simp[e]
theorem eK {H:Hp}{hid hid':bF}(h: ∀b,hid' b=true->hid b=true):Same (vw H hid) (vw H hid'):=λb o q=>by
 obtain⟨q1,q2⟩:=vw_some.mp q
 refine vw_some.mpr ⟨?_,q2⟩
 cases e:hid' b with
 |false=>rfl
 |true=>rw[h b e] at q1;cases q1
theorem rd {H:Hp}{hid:bF}{a:Addr}{o:HO}(h:H a=none):vw (cF H a o) (aV hid a)=vw H hid:=by
 funext b;unfold vw cF aV
 by_cases e:b=a
 ·subst e
  cases hb:hid b<;>simp[h]
 ·simp[e]
inductive NO where
 |l (ds:List D)
 |k (kvs:List (jj×D))
inductive Ob where
 |nst (us:List NO)
 |dR (kvs:List (jj×D))
 |dRs (l:List (List (jj×D)))
 |exc (x:Str) (n:Int)
 |dK (kvs:List (jj×D))
 |dT (kvs:List (List jj×D))
 |set (ds:List D)
 |old (d:D)
 |jnk
 |tset (ks:List (List Int))
 |dF (kvs:List (List jj×D))
inductive Sl where
 |no
 |v (d:D)
 |own (ds:List D)
 |arg (ds:List D)
 |ob (b:Ob)
abbrev aB:=List Sl
structure Ct where
 H₀:Hp
 hid₀:bF
 mu:Addr->Bool
def ExcAt(K:W.Frag)(x:Str)(n:Int)(a:Addr)(h:Heap):Prop:= ∃C o,W.nsIn K mainGlobals x=some (some (.ref C))/\h.get? a=some o/\o.cls=.ref C/\o.dict=none/\W.notCls o=true
def pX:Option HO->Bool
 |some (.lst _)=>true
 |_=>false
def fv(c:Ct)(F:Hp):Hp:=λb=>if(c.H₀ b).isSome=true/\pX (F b)=true then none else F b
def ov(c:Ct)(F:Hp):Hp:=λb=>if(c.H₀ b).isSome=true then F b else none
theorem fv_some {c:Ct}{F:Hp}{b:Addr}{o:HO}:fv c F b=some o↔(pX (some o)=true->c.H₀ b=none)/\F b=some o:=by
 unfold fv;constructor
 ·intro h
  split at h
  ·cases h
  ·rename_i hn
   refine⟨λq=>?_,h⟩
   rw[h] at hn;cases hb:c.H₀ b with
   |none=>rfl
   |some u=>exact absurd ⟨by rw[hb];rfl,q⟩ hn
 ·rintro⟨h1,h2⟩
  rw[if_neg,h2]
  rintro⟨q1,q2⟩
  rw[h2] at q2;rw[h1 q2] at q1;cases q1
theorem ov_some {c:Ct}{F:Hp}{b:Addr}{o:HO}:ov c F b=some o↔(∃u,c.H₀ b=some u)/\F b=some o:=by
 unfold ov;cases hb:c.H₀ b<;>simp
theorem xB {c:Ct}{F G:Hp}(s:Same F G):Same (fv c F) (fv c G):=λb o h=>fv_some.mpr ⟨(fv_some.mp h).1,s _ _ (fv_some.mp h).2⟩
theorem xf {c:Ct}{F G:Hp}(s:Same F G):Same (ov c F) (ov c G):=λb o h=>ov_some.mpr ⟨(ov_some.mp h).1,s _ _ (ov_some.mp h).2⟩
def NOk(K:W.Frag)(c:Ct)(hid:bF)(H:Hp)(p a:Addr):NO->Prop
 | .l ds=>(hid a=true/\c.H₀ a=none)/\ ∃xs:List V,H a=some (.nst p (.lst xs))/\Reps K (vw H hid) xs ds
 | .k kvs=>(hid a=true/\c.H₀ a=none)/\ ∃us:List (jj×V),H a=some (.nst p (.dK us))/\us.map (·.1)=kvs.map (·.1)/\Reps K (vw H hid) (us.map (·.2)) (kvs.map (·.2))
theorem NOk.mono {K:W.Frag}{c:Ct}{hid hid':bF}{H H':Hp}{p a:Addr}{b:NO}(h:NOk K c hid H p a b)(k: ∀u,H a=some (.nst p u)->H' a=some (.nst p u))(s:Same (vw H hid) (vw H' hid'))(w:(∃u,H a=some (.nst p u))->hid' a=true):NOk K c hid' H' p a b:=by
 cases b with
 |l ds=>obtain⟨h1,us,h2,h3⟩:=h;exact⟨⟨w ⟨_,h2⟩,h1.2⟩,us,k _ h2,h3.mono s⟩
 |k kvs=>obtain⟨h1,us,h2,h3,h4⟩:=h;exact⟨⟨w ⟨_,h2⟩,h1.2⟩,us,k _ h2,h3,h4.mono s⟩
def DRd(K:W.Frag)(W:Hp)(a:Addr)(kvs:List (jj×D)):Prop:= ∃o us,W a=some (.frz o (.dK us))/\us.map (·.1)=kvs.map (·.1)/\Reps K W (us.map (·.2)) (kvs.map (·.2))
theorem DRd.mono {K:W.Frag}{W W':Hp}{a:Addr}{kvs:List (jj×D)}(h:DRd K W a kvs)(s:Same W W'):DRd K W' a kvs:=by
 obtain⟨o,us,h1,h2,h3⟩:=h
 exact⟨o,us,s _ _ h1,h2,h3.mono s⟩
def ObOk(K:W.Frag)(c:Ct)(hid:bF)(H:Hp)(a:Addr):Ob->Prop
 | .nst us=>(hid a=true/\c.H₀ a=none)/\ ∃bs:List Addr,H a=some (.lst (bs.map V.ref))/\bs.Nodup/\Paired (NOk K c hid H a) bs us
 | .dR kvs=>DRd K (vw H hid) a kvs
 | .dRs l=> ∃bs:List Addr,vw H hid a=some (.lst (bs.map V.ref))/\Paired (DRd K (vw H hid)) bs l
 | .exc x n=> ∃φ,vw H hid a=some (.ext φ)/\ ∀h,φ h->ExcAt K x n a h
 | .dK kvs=>(hid a=true/\c.H₀ a=none)/\ ∃us:List (jj×V),H a=some (.dK us)/\us.map (·.1)=kvs.map (·.1)/\Reps K (vw H hid) (us.map (·.2)) (kvs.map (·.2))
 | .dT kvs=>(hid a=true/\c.H₀ a=none)/\ ∃us:List (List jj×V),H a=some (.dT us)/\us.map (·.1)=kvs.map (·.1)/\Reps K (vw H hid) (us.map (·.2)) (kvs.map (·.2))
 | .set ds=>(hid a=true/\c.H₀ a=none)/\ ∃xs:List V,H a=some (.lst xs)/\Reps K (fv c (vw H hid)) xs ds
 | .old d=>Rep K (ov c (vw H hid)) (.ref a) d
 | .jnk=>(hid a=true/\c.H₀ a=none)/\ ∃xs:List V,H a=some (.lst xs)
 | .tset ks=>(hid a=true/\c.H₀ a=none)/\ ∃xs:List (List Int×Addr),H a=some (.tst xs)/\(xs.map (·.1)).Perm ks/\Reps K (vw H hid) (xs.map λx=>V.ref x.2) (xs.map λx=>D.tup (x.1.map D.int))
 | .dF kvs=>(hid a=true/\c.H₀ a=none)/\ ∃(o:Obj) (us:List (List jj×V)),H a=some (.frz o (.dT us))/\us.map (·.1)=kvs.map (·.1)/\Reps K (vw H hid) (us.map (·.2)) (kvs.map (·.2))
def tv:Ob->Prop
 | .exc _ _=>False
 | .old _=>False
 | .dR _=>False
 | .dRs _=>False
 |_=>True
def At(H:Hp)(a x:Addr):Prop:=x=a\/ ∃u,H x=some (.nst a u)
theorem At.ne {H:Hp}{a a' x:Addr}{o:HO}(hx:At H a' x)(ne:a'≠a)(ha:H a=some o)(hn: ∀p u,o≠ .nst p u:=by intro _ _ e;cases e):x≠a:=λe=>by
 subst e;rcases hx with rfl|⟨u,hu⟩
 ·exact ne rfl
 ·rw[ha] at hu;cases hu;exact hn _ _ rfl
theorem ObOk.mono {K:W.Frag}{c:Ct}{hid hid':bF}{H H':Hp}{a:Addr}{b:Ob}(h:ObOk K c hid H a b)(k:tv b-> ∀x,At H a x-> ∀o,H x=some o->H' x=some o)(s:Same (vw H hid) (vw H' hid'))(w:tv b-> ∀x,At H a x->hid x=true->hid' x=true):ObOk K c hid' H' a b:=by
 have k1:tv b-> ∀o,H a=some o->H' a=some o:=λo=>k o a (.inl rfl)
 have w1:tv b->hid a=true->hid' a=true:=λo=>w o a (.inl rfl)
 cases b with
 |nst us=>
  obtain⟨h1,bs,h2,h3,h4⟩:=h
  refine⟨⟨w1 trivial h1.1,h1.2⟩,bs,k1 trivial _ h2,h3,Paired.mapP h4 λx y z=>z.mono (λu q=>k trivial x (.inr ⟨u,q⟩) _ q) s λq=>w trivial x (.inr q) ?_⟩
  cases y with
  |l ds=>exact z.1.1
  |k kvs=>exact z.1.1
 |dR kvs=>exact DRd.mono h s
 |dRs l=>obtain⟨bs,h1,h2⟩:=h;exact⟨bs,s _ _ h1,Paired.mapP h2 λ_ _ z=>z.mono s⟩
 |exc x n=>obtain⟨φ,h1,h2⟩:=h;exact⟨φ,s _ _ h1,h2⟩
 |dK kvs=>obtain⟨h1,us,h2,h3,h4⟩:=h;exact⟨⟨w1 trivial h1.1,h1.2⟩,us,k1 trivial _ h2,h3,h4.mono s⟩
 |dT kvs=>obtain⟨h1,us,h2,h3,h4⟩:=h;exact⟨⟨w1 trivial h1.1,h1.2⟩,us,k1 trivial _ h2,h3,h4.mono s⟩
 |set ds=>obtain⟨h1,us,h2,h3⟩:=h;exact⟨⟨w1 trivial h1.1,h1.2⟩,us,k1 trivial _ h2,h3.mono (xB s)⟩
 |old d=>exact Rep.mono (xf s) h
 |jnk=>obtain⟨h1,us,h2⟩:=h;exact⟨⟨w1 trivial h1.1,h1.2⟩,us,k1 trivial _ h2⟩
 |tset ks=>obtain⟨h1,us,h2,h3,h4⟩:=h;exact⟨⟨w1 trivial h1.1,h1.2⟩,us,k1 trivial _ h2,h3,h4.mono s⟩
 |dF kvs=>obtain⟨h1,o,us,h2,h3,h4⟩:=h;exact⟨⟨w1 trivial h1.1,h1.2⟩,o,us,k1 trivial _ h2,h3,h4.mono s⟩
theorem ObOk.hid {K:W.Frag}{c:Ct}{hid:bF}{H:Hp}{a:Addr}{b:Ob}(h:ObOk K c hid H a b)(o:tv b):hid a=true:=by
 cases b with
 |nst us=>exact h.1.1
 |dR kvs=>exact o.elim
 |dRs l=>exact o.elim
 |exc x n=>exact o.elim
 |dK kvs=>exact h.1.1
 |dT kvs=>exact h.1.1
 |set ds=>exact h.1.1
 |old d=>exact o.elim
 |jnk=>exact h.1.1
 |tset ks=>exact h.1.1
 |dF kvs=>exact h.1.1
def SlOk(K:W.Frag)(c:Ct)(hid:bF)(σ:St)(H:Hp)(i:Nat):Sl->Prop
 | .no=>True
 | .v d=> ∃x,σ[i]? =some (some x)/\Rep K (vw H hid) x d
 | .own ds=> ∃a xs,σ[i]? =some (some (.ref a))/\H a=some (.lst xs)/\hid a=true/\c.H₀ a=none/\Reps K (vw H hid) xs ds
 | .arg ds=> ∃a xs,σ[i]? =some (some (.ref a))/\H a=some (.lst xs)/\hid a=true/\c.mu a=true/\Reps K (vw H hid) xs ds
 | .ob b=> ∃a,σ[i]? =some (some (.ref a))/\ObOk K c hid H a b
def Ow:Option Sl->Prop
 |some (.own _)=>True
 |some (.arg _)=>True
 |some (.ob b)=>tv b
 |_=>False
structure SR(K:W.Frag)(c:Ct)(hid:bF)(ρ:aB)(σ:St)(H:Hp):Prop where
 tr: ∀b,hid b=true-> ∃o,H b=some o
 ht: ∀b xs,hid b=true->H b≠some (.tup xs)
 h0: ∀b,c.hid₀ b=true->hid b=true
 kp: ∀b o,c.H₀ b=some o->c.mu b=false->H b=some o
 t0: ∀b o,c.H₀ b=some o-> ∃o',H b=some o'
 c0: ∀b,c.hid₀ b=true-> ∃o,c.H₀ b=some o
 m0: ∀b,c.mu b=true->c.hid₀ b=true
 len:σ.length=ρ.length
 sl: ∀(i:Nat) (s:Sl),ρ[i]? =some s->SlOk K c hid σ H i s
 ap: ∀(i j:Nat) (a:Addr),i≠j->Ow ρ[i]? ->Ow ρ[j]? ->σ[i]? =some (some (.ref a))->σ[j]? =some (some (.ref a))->False
section
variable {K:W.Frag}{c:Ct}{hid:bF}{ρ:aB}{σ:St}{H H':Hp}{i:Nat}
theorem SlOk.ext {s:Sl}(h:SlOk K c hid σ H i s)(e:Same H H'):SlOk K c hid σ H' i s:=by
 cases s with
 |no=>trivial
 |v d=>obtain⟨x,h1,h2⟩:=h;exact⟨x,h1,h2.mono (ba e)⟩
 |own ds=>obtain⟨a,xs,h1,h2,h3,h4,h5⟩:=h;exact⟨a,xs,h1,e _ _ h2,h3,h4,h5.mono (ba e)⟩
 |arg ds=>obtain⟨a,xs,h1,h2,h3,h4,h5⟩:=h;exact⟨a,xs,h1,e _ _ h2,h3,h4,h5.mono (ba e)⟩
 |ob b=>obtain⟨a,h1,h2⟩:=h;exact⟨a,h1,h2.mono (λ_ x _=>e x) (ba e) λ_ _ _ q=>q⟩
theorem SR.ext(h:SR K c hid ρ σ H)(e:Same H H'):SR K c hid ρ σ H' where
 tr:=λb hb=>let⟨o,q⟩:=h.tr b hb;⟨o,e _ _ q⟩
 ht:=λb xs hb q=>let⟨o,w⟩:=h.tr b hb;by have z:=e _ _ w;rw[q] at z;cases z;exact h.ht b xs hb w
 h0:=h.h0
 kp:=λb o q m=>e _ _ (h.kp b o q m)
 t0:=λb o q=>let⟨o',q'⟩:=h.t0 b o q;⟨o',e _ _ q'⟩
 c0:=h.c0
 m0:=h.m0
 len:=h.len
 sl:=λi s q=>(h.sl i s q).ext e
 ap:=h.ap
def yK(hid:bF)(H:Hp):Prop:=(∀b,hid b=true-> ∃o,H b=some o)/\ ∀b xs,hid b=true->H b≠some (.tup xs)
theorem SR.trk(h:SR K c hid ρ σ H):yK hid H:=⟨h.tr,h.ht⟩
theorem SR.fresh(h:SR K c hid ρ σ H){a:Addr}(n:H a=none):hid a=false:=by
 cases e:hid a with
 |false=>rfl
 |true=>obtain⟨o,q⟩:=h.tr a e;rw[n] at q;cases q
theorem SR.fresh0(h:SR K c hid ρ σ H){a:Addr}(n:H a=none):c.H₀ a=none:=by
 cases e:c.H₀ a with
 |none=>rfl
 |some o=>obtain⟨o',q⟩:=h.t0 a o e;rw[n] at q;cases q
end
inductive Kd where
 |b|s|n
 deriving DecidableEq
def Rep1(K:W.Frag)(H W:Hp)(v:V)(d:D):Prop:=Rep K W v d\/ ∃a xs ds,v=.ref a/\d=.lst ds/\H a=some (.lst xs)/\Reps K W xs ds
def RN(K:W.Frag)(H H':Hp)(hid:bF)(v:V)(d:D):Prop:= ∃a xs ds,d=.lst ds/\v=.ref a/\H a=none/\H' a=some (.lst xs)/\Reps K (vw H' (aV hid a)) xs ds
def RK(K:W.Frag)(k:Kd)(H H':Hp)(hid:bF)(v:V)(d:D):Prop:=match k with
 | .b=>Rep1 K H' (vw H' hid) v d
 | .s=>Rep K (vw H' hid) v d
 | .n=>RN K H H' hid v d
section
variable {K:W.Frag}{c:Ct}{hid:bF}{ρ:aB}{σ:St}{H H' H'':Hp}{i:Nat}{v:V}{d:D}
theorem RN.rep(h:RN K H H' hid v d)(hf: ∀a,H a=none->hid a=false):Rep K (vw H' hid) v d:=by
 obtain⟨a,xs,ds,rfl,rfl,h1,h2,h3⟩:=h
 refine .lst (vw_some.mpr ⟨hf a h1,h2⟩) (h3.mono (eK λb q=>?_))
 unfold aV;rw[q];rfl
theorem RK.b(k:Kd)(h:RK K k H H' hid v d)(hf: ∀a,H a=none->hid a=false):Rep1 K H' (vw H' hid) v d:=by
 cases k with
 |b=>exact h
 |s=>exact .inl h
 |n=>exact .inl (RN.rep h hf)
theorem Rep1.ext {hid:bF}(h:Rep1 K H (vw H hid) v d)(e:Same H H'):Rep1 K H' (vw H' hid) v d:=by
 rcases h with h|⟨a,xs,ds,h1,h2,h3,h4⟩
 ·exact .inl (h.mono (ba e))
 ·exact .inr ⟨a,xs,ds,h1,h2,e _ _ h3,h4.mono (ba e)⟩
theorem Rep1.int {i:Int}(h:Rep1 K H (vw H hid) v (.int i)):v=.int i:=by
 rcases h with h|⟨a,xs,ds,h1,h2,_⟩
 ·cases h;rfl
 ·cases h2
theorem Rep1.bl {i:Bool}(h:Rep1 K H (vw H hid) v (.bl i)):v=.bl i:=by
 rcases h with h|⟨a,xs,ds,h1,h2,_⟩
 ·cases h;rfl
 ·cases h2
theorem Rep1.str {i:Str}(h:Rep1 K H (vw H hid) v (.str i)):v=.str i:=by
 rcases h with h|⟨a,xs,ds,h1,h2,_⟩
 ·cases h;rfl
 ·cases h2
theorem Rep1.non(h:Rep1 K H (vw H hid) v .non):v=.non:=by
 rcases h with h|⟨a,xs,ds,h1,h2,_⟩
 ·cases h;rfl
 ·cases h2
theorem Rep1.tup {ds:List D}(h:Rep1 K H (vw H hid) v (.tup ds)): ∃a xs,v=.ref a/\SqT K (vw H hid) a xs/\SqT K H a xs/\Reps K (vw H hid) xs ds:=by
 rcases h with h|⟨a,xs,ds,h1,h2,_⟩
 ·cases h with
  |tup q r=>exact⟨_,_,rfl,q,Same.seqT (cX _ _) q,r⟩
 ·cases h2
theorem Rep1.lst {ds:List D}(h:Rep1 K H (vw H hid) v (.lst ds)): ∃a xs,v=.ref a/\SqL K H a xs/\Reps K (vw H hid) xs ds:=by
 rcases h with h|⟨a,xs,ds,h1,h2,h3,h4⟩
 ·cases h with
  |lst q r=>exact⟨_,_,rfl,SqL.of (cX _ _ _ _ q),r⟩
 ·cases h2
  exact⟨a,xs,h1,SqL.of h3,h4⟩
theorem Rep1.scr {ds:List D}(h:Rep1 K H (vw H hid) v (.scr ds)): ∃a xs,v=.ref a/\SqL K H a xs/\Reps K (vw H hid) xs ds:=by
 rcases h with h|⟨a,xs,ds,h1,h2,h3,h4⟩
 ·cases h with
  |scr q r=>exact⟨_,_,rfl,(cX _ _).seq q.seq,r⟩
 ·cases h2
end
theorem PE.imp {X:Cx}{e:Expr}{t t':TE}(h:PE X e t)(i: ∀σ H Q,t' σ H Q->t σ H Q):PE X e t':=λae s σ H Q I q=>h ae s σ H Q I (i σ H Q q)
theorem PT.imp {X:Cx}{e:Expr}{t t':TT}(h:PT X e t)(i: ∀σ H Q,t' σ H Q->t σ H Q):PT X e t':=λae s σ H Q I q=>h ae s σ H Q I (i σ H Q q)
theorem PW.imp {X:Cx}{e:Expr}{t t':TT}(h:PW X e t)(i: ∀σ H Q,t' σ H Q->t σ H Q):PW X e t':=λwh ae s σ H Q I q=>h wh ae s σ H Q I (i σ H Q q)
theorem PA.imp {X:Cx}{e:List Expr}{t t':TA}(h:PA X e t)(i: ∀σ H Q,t' σ H Q->t σ H Q):PA X e t':=λp ae s σ H Q I q=>h p ae s σ H Q I (i σ H Q q)
theorem PS.imp {X:Cx}{e:Stmt}{t t':TS}(h:PS X e t)(i: ∀D σ H,t' D σ H->t D σ H):PS X e t':=λae s σ H D I q=>h ae s σ H D I (i D σ H q)
theorem PSs.imp {X:Cx}{e:List Stmt}{t t':TS}(h:PSs X e t)(i: ∀D σ H,t' D σ H->t D σ H):PSs X e t':=λae s σ H D I q=>h ae s σ H D I (i D σ H q)
abbrev FE:=aB->Option D
abbrev FT:=aB->Option Bool
abbrev FA:=aB->Option (List D)
def wq(K:W.Frag)(c:Ct)(hid:bF)(k:Kd)(f:FE)(ρ:aB):TE:=λσ H Q=>SR K c hid ρ σ H/\ ∃d,f ρ=some d/\ ∀v H',Same H H'->RK K k H H' hid v d->Q v H'
def Cw(K:W.Frag)(c:Ct)(hid:bF)(f:FT)(ρ:aB):TT:=λσ H Q=>SR K c hid ρ σ H/\ ∃d,f ρ=some d/\ ∀H',Same H H'->Q d H'
def Dn(K:W.Frag)(c:Ct)(hid:bF)(f:FA)(ρ:aB):TA:=λσ H Q=>SR K c hid ρ σ H/\ ∃d,f ρ=some d/\ ∀vs H',Same H H'->Reps K (vw H' hid) vs d->Q vs H'
def DP(X:Cx)(c:Ct)(k:Kd)(e:Expr)(f:FE):Prop:= ∀hid ρ,PE X e (wq X.K c hid k f ρ)
def DT(X:Cx)(c:Ct)(e:Expr)(f:FT):Prop:= ∀hid ρ,PT X e (Cw X.K c hid f ρ)
def DW(X:Cx)(c:Ct)(e:Expr)(f:FT):Prop:= ∀hid ρ,PW X e (Cw X.K c hid f ρ)
def DA(X:Cx)(c:Ct)(es:List Expr)(f:FA):Prop:= ∀hid ρ,PA X es (Dn X.K c hid f ρ)
section
variable {X:Cx}{c:Ct}{e a b:Expr}{es:List Expr}{f g:FE}{k:Kd}{pos:Pos}
theorem DP.toS(h:DP X c .n e f):DP X c .s e f:=λhid ρ=>PE.imp (h hid ρ) λσ H Q ⟨sr,d,hd,q⟩=>⟨sr,d,hd,λv H' s r=>q v H' s (RN.rep r λa n=>sr.fresh n)⟩
def ah(i:Nat):FE:=λρ=>match ρ[i]? with
 |some (.v d)=>some d
 |_=>none
def bJ(i:Nat):FE:=λρ=>match ρ[i]? with
 |some (.v d)=>some d
 |some (.own ds)=>some (.lst ds)
 |some (.arg ds)=>some (.lst ds)
 |_=>none
theorem ag(i:Nat){x:Str}(hN:X.N[i]? =some x:=by rfl)(hv:qw X.env.scope x:=by first|exact Or.inl rfl|exact Or.inr (Or.inl rfl)|exact Or.inr (Or.inr rfl))(hd:(x==("__debug__":Str))=false:=by decide)
 (hcd:(x==("__classdict__":Str))=false:=by decide):DP X c .s (.Name x pos) (ah i):=λhid ρ=>PE.imp (pv i hN hv hd hcd) λσ H Q hq_=>by
 obtain⟨sr,d,hd,q⟩:=hq_
 unfold ah at hd;split at hd
 ·rename_i d' e'
  cases hd
  obtain⟨x,h1,h2⟩:=sr.sl i _ e'
  exact⟨x,h1,q x H (Same.refl _) h2⟩
 ·cases hd
theorem bo(i:Nat){x:Str}(hN:X.N[i]? =some x:=by rfl)(hv:qw X.env.scope x:=by first|exact Or.inl rfl|exact Or.inr (Or.inl rfl)|exact Or.inr (Or.inr rfl))(hd:(x==("__debug__":Str))=false:=by decide)
 (hcd:(x==("__classdict__":Str))=false:=by decide):DP X c .b (.Name x pos) (bJ i):=λhid ρ=>PE.imp (pv i hN hv hd hcd) λσ H Q hq_=>by
 obtain⟨sr,d,hd,q⟩:=hq_
 unfold bJ at hd;split at hd
 ·rename_i d' e'
  cases hd
  obtain⟨x,h1,h2⟩:=sr.sl i _ e'
  exact⟨x,h1,q x H (Same.refl _) (.inl h2)⟩
 ·rename_i d' e'
  cases hd
  obtain⟨a,xs,h1,h2,h3,h4,h5⟩:=sr.sl i _ e'
  exact⟨_,h1,q _ H (Same.refl _) (.inr ⟨a,xs,_,rfl,rfl,h2,h5⟩)⟩
 ·rename_i d' e'
  cases hd
  obtain⟨a,xs,h1,h2,h3,h4,h5⟩:=sr.sl i _ e'
  exact⟨_,h1,q _ H (Same.refl _) (.inr ⟨a,xs,_,rfl,rfl,h2,h5⟩)⟩
 ·cases hd
def am(d:D):FE:=λ_=>some d
theorem ao {i:Int}{j pos}:DP X c .s (.Constant (.int i) j pos) (am (.int i)):=λhid ρ=>PE.imp zZ λσ H Q hq_=>by
 obtain⟨sr,d,hd,q⟩:=hq_
 cases hd;exact q _ H (Same.refl _) .int
theorem jV {i:Bool}{j pos}:DP X c .s (.Constant (.bool i) j pos) (am (.bl i)):=λhid ρ=>PE.imp AT λσ H Q hq_=>by
 obtain⟨sr,d,hd,q⟩:=hq_
 cases hd;exact q _ H (Same.refl _) .bl
theorem aI {i:Str}{j pos}:DP X c .s (.Constant (.str i) j pos) (am (.str i)):=λhid ρ=>PE.imp yP λσ H Q hq_=>by
 obtain⟨sr,d,hd,q⟩:=hq_
 cases hd;exact q _ H (Same.refl _) .str
theorem jA {j pos}:DP X c .s (.Constant .none j pos) (am .non):=λhid ρ=>PE.imp zf λσ H Q hq_=>by
 obtain⟨sr,d,hd,q⟩:=hq_
 cases hd;exact q _ H (Same.refl _) .non
def aj(F:D->D->Option D)(f g:FE):FE:=λρ=>(f ρ).bind λx=>(g ρ).bind λy=>F x y
theorem gg {F:D->D->Option D}{ρ:aB}{d:D}(h:aj F f g ρ=some d): ∃x y,f ρ=some x/\g ρ=some y/\F x y=some d:=by
 unfold aj at h;cases e1:f ρ with
 |none=>rw[e1] at h;cases h
 |some x=>
  cases e2:g ρ with
  |none=>rw[e1,e2] at h;cases h
  |some y=>rw[e1,e2] at h;exact⟨x,y,rfl,rfl,h⟩
def jY(K:W.Frag)(k:Kd)(r:R2)(F:D->D->Option D):Prop:= ∀(H:Hp) (hid:bF) (v u:V) (x y d:D) (Q:VK),(∀a,H a=none->hid a=false)->F x y=some d->Rep1 K H (vw H hid) v x->Rep1 K H (vw H hid) u y->
 (∀w H',Same H H'->RK K k H H' hid w d->Q w H')->r v u H Q
theorem RK.left {K:W.Frag}{H H1 H':Hp}{hid:bF}{v:V}{d:D}(s:Same H H1)(h:RK K k H1 H' hid v d):RK K k H H' hid v d:=by
 cases k with
 |b=>exact h
 |s=>exact h
 |n=>
  obtain⟨a,xs,ds,h1,h2,h3,h4⟩:=h
  exact⟨a,xs,ds,h1,h2,s.free h3,h4⟩
theorem BF {r:R2}{F:D->D->Option D}{k1 k2:Kd}{hid:bF}{ρ:aB}(hF:jY X.K k r F){σ:St}{H:Hp}{Q:VK}(h:wq X.K c hid k (aj F f g) ρ σ H Q):Au r (wq X.K c hid k1 f ρ) (wq X.K c hid k2 g ρ) σ H Q:=by
 obtain⟨sr,d,hd,q⟩:=h
 obtain⟨x,y,e1,e2,e3⟩:=gg hd
 refine⟨sr,x,e1,λv H1 s1 r1=>⟨sr.ext s1,y,e2,λu H2 s2 r2=>?_⟩⟩
 have b1:=(RK.b k1 r1 λa n=>sr.fresh n).ext s2
 have b2:=RK.b k2 r2 λa n=>(sr.ext s1).fresh n
 exact hF H2 hid v u x y d Q (λa n=>((sr.ext s1).ext s2).fresh n) e3 b1 b2 λw H' s3 r3=>q w H' ((s1.trans s2).trans s3) (RK.left (s1.trans s2) r3)
theorem jP {op:Operator}{r:R2}{F:D->D->Option D}{k1 k2:Kd}(ho:ji X (binaryOp op) r)(hF:jY X.K k r F)(ha:DP X c k1 a f)(hb:DP X c k2 b g):DP X c k (.BinOp a op b pos) (aj F f g):=λhid ρ=>
 PE.imp (ym ho (ha hid ρ) (hb hid ρ)) λσ H Q h=>BF hF h
theorem gD {op:CmpOp}{r:R2}{F:D->D->Option D}{k1 k2:Kd}(ho:ji X (compareOp op) r)(hF:jY X.K .s r F)(ha:DP X c k1 a f)(hb:DP X c k2 b g)(hm:behindInMarks op b=false):DP X c .s (.Compare a [op] [b] pos) (aj F f g):=λhid ρ=>
 PE.imp (xm ho (ha hid ρ) (hb hid ρ) hm) λσ H Q h=>BF hF h
def pE:Option D->Option Bool
 |some (.bl b)=>some b
 |_=>none
theorem bG {op:CmpOp}{r:R2}{F:D->D->Option D}{k1 k2:Kd}(ho:ji X (compareOp op) r)(hF:jY X.K .s r F)(ha:DP X c k1 a f)(hb:DP X c k2 b g)(hm:behindInMarks op b=false):DT X c (.Compare a [op] [b] pos) (λρ=>pE (aj F f g ρ)):=λhid ρ=>
 PT.imp (xR ho (ha hid ρ) (hb hid ρ) hm) λσ H Q hq_=>by
  obtain⟨sr,d,hd,q⟩:=hq_
  refine BF (X:=X) (k:=.s) (F:=F) hF ?_
  dsimp only at hd;cases e:aj F f g ρ with
  |none=>rw[e] at hd;cases hd
  |some x=>
   rw[e] at hd;cases x with
   |bl z=>
    cases hd
    refine⟨sr,_,e,λv H' s r=>⟨d,?_,q H' s⟩⟩
    cases r;rfl
   |_=>cases hd
theorem bt {r:R2}{F:D->D->Option D}{k1 k2:Kd}(hr:IxR X r)(hF:jY X.K k r F)(ha:DP X c k1 a f)(hb:DP X c k2 b g)(hs:rV b):DP X c k (.Subscript a b pos) (aj F f g):=λhid ρ=>
 PE.imp (Bs hr (ha hid ρ) (hb hid ρ) hs) λσ H Q h=>BF hF h
end
def i2(C:Int->Int->Bool)(G:Int->Int->D):D->D->Option D
 | .int i,.int j=>if C i j=true then some (G i j) else none
 |_,_=>none
section
variable {K:W.Frag}
theorem nB {C:Int->Int->Bool}{G:Int->Int->D}{x y d:D}(h:i2 C G x y=some d): ∃i j,x=.int i/\y=.int j/\C i j=true/\d=G i j:=by
 unfold i2 at h;split at h
 ·split at h
  ·cases h;exact⟨_,_,rfl,rfl, ‹_›,rfl⟩
  ·cases h
 ·cases h
theorem xq {C:Int->Int->Prop}{B:Int->Int->Bool}{g:Int->Int->Int}(hC: ∀i j,B i j=true->C i j):jY K .s (rI C λi j=>.int (g i j)) (i2 B λi j=>.int (g i j)):=by
 intro H hid v u x y d Q hf h r1 r2 q;obtain⟨i,j,rfl,rfl,hc,rfl⟩:=nB h
 cases r1.int;cases r2.int
 exact⟨i,j,rfl,rfl,hC i j hc,q _ H (Same.refl _) .int⟩
theorem v5 {g:Int->Int->Int}:jY K .s (wX λi j=>.int (g i j)) (i2 (λ_ _=>true) λi j=>.int (g i j)):=by
 intro H hid v u x y d Q hf h r1 r2 q;obtain⟨i,j,rfl,rfl,hc,rfl⟩:=nB h
 cases r1.int;cases r2.int
 exact⟨i,j,rfl,rfl,q _ H (Same.refl _) .int⟩
theorem oG {g:Int->Int->Bool}:jY K .s (wX λi j=>.bl (g i j)) (i2 (λ_ _=>true) λi j=>.bl (g i j)):=by
 intro H hid v u x y d Q hf h r1 r2 q;obtain⟨i,j,rfl,rfl,hc,rfl⟩:=nB h
 cases r1.int;cases r2.int
 exact⟨i,j,rfl,rfl,q _ H (Same.refl _) .bl⟩
end
section
variable {X:Cx}{c:Ct}{e a b:Expr}{es rest:List Expr}{f g:FE}{p q:FT}{k:Kd}{pos:Pos}
def AV:D->Option Bool
 | .non=>some false
 | .bl b=>some b
 | .int i=>some (i !=0)
 | .str y=>if y.length<=sizeLine then some ((y.length:Int) !=0) else none
 | .lst ds=>some (!ds.isEmpty)
 | .tup ds=>some (!ds.isEmpty)
 | .scr ds=>some (!ds.isEmpty)
theorem Reps.isEmpty {K:W.Frag}{F:Hp}{xs:List V}{ds:List D}(r:Reps K F xs ds):xs.isEmpty=ds.isEmpty:=by cases r<;>rfl
theorem zn {K:W.Frag}{H:Hp}{hid:bF}{v:V}{d:D}{b:Bool}(h:AV d=some b)(r:Rep1 K H (vw H hid) v d):zA K v H b:=by
 cases d with
 |non=>cases r.non;cases h;rfl
 |bl x=>cases r.bl;cases h;rfl
 |int i=>cases r.int;cases h;rfl
 |str y=>
  cases r.str
  have h':(if y.length<=sizeLine then some ((y.length:Int) !=0) else none)=some b:=h
  split at h'
  ·cases h';exact⟨‹_›,rfl⟩
  ·cases h'
 |lst ds=>
  obtain⟨a,xs,rfl,h1,h2⟩:=r.lst
  cases h
  exact .inl ⟨xs,h1,by rw[h2.isEmpty]⟩
 |tup ds=>
  obtain⟨a,xs,rfl,_,h1,h2⟩:=r.tup
  cases h
  exact .inr (.inl ⟨xs,h1,by rw[h2.isEmpty]⟩)
 |scr ds=>
  obtain⟨a,xs,rfl,h1,h2⟩:=r.scr
  cases h
  exact .inl ⟨xs,h1,by rw[h2.isEmpty]⟩
def du(f:FE):FT:=λρ=>(f ρ).bind AV
theorem dX(ha:DP X c k a f)(he: ∀whole,isTrue a X.env whole=(do let v <-whole;standAt a.pos;holding [v] (truthy v)):=by intro _;rfl):DT X c a (du f):=λhid ρ=>
 PT.imp (vZ (ha hid ρ) he) λσ H Q hq_=>by
  obtain⟨sr,d,hd,q⟩:=hq_
  unfold du at hd;cases e:f ρ with
  |none=>rw[e] at hd;cases hd
  |some x=>
   rw[e] at hd;exact⟨sr,x,e,λv H' s r=>⟨d,zn hd (RK.b k r λa n=>sr.fresh n),q H' s⟩⟩
def gR(p q:FT):FT:=λρ=>(p ρ).bind λb=>if b=true then q ρ else some false
def km(p q:FT):FT:=λρ=>(p ρ).bind λb=>if b=true then some true else q ρ
def dH(p:FT):FT:=λρ=>(p ρ).map (!·)
theorem wF(ha:DT X c a p):DW X c (.BoolOp .And [a] pos) p:=λhid ρ=>pw_and1 (ha hid ρ)
theorem iE(ha:DT X c a p):DW X c (.BoolOp .Or [a] pos) p:=λhid ρ=>pw_or1 (ha hid ρ)
theorem Aa(ha:DT X c a p)(hb:DW X c (.BoolOp .And (b::rest) pos) q):DW X c (.BoolOp .And (a::b::rest) pos) (gR p q):=λhid ρ=>
 PW.imp (pw_and (ha hid ρ) (hb hid ρ)) λσ H Q hq_=>by
  obtain⟨sr,d,hd,hq⟩:=hq_
  unfold gR at hd;cases e:p ρ with
  |none=>rw[e] at hd;cases hd
  |some x=>
   rw[e] at hd;refine⟨sr,x,e,λH1 s1=>?_⟩
   cases x with
   |true=>exact mV ⟨sr.ext s1,d,hd,λH2 s2=>hq H2 (s1.trans s2)⟩
   |false=>cases hd;exact nE (hq H1 s1)
theorem kZ(ha:DT X c a p)(hb:DW X c (.BoolOp .Or (b::rest) pos) q):DW X c (.BoolOp .Or (a::b::rest) pos) (km p q):=λhid ρ=>
 PW.imp (pw_or (ha hid ρ) (hb hid ρ)) λσ H Q hq_=>by
  obtain⟨sr,d,hd,hq⟩:=hq_
  unfold km at hd;cases e:p ρ with
  |none=>rw[e] at hd;cases hd
  |some x=>
   rw[e] at hd;refine⟨sr,x,e,λH1 s1=>?_⟩
   cases x with
   |false=>exact nE ⟨sr.ext s1,d,hd,λH2 s2=>hq H2 (s1.trans s2)⟩
   |true=>cases hd;exact mV (hq H1 s1)
theorem DW.dt(h:DW X c e p):DT X c e p:=λhid ρ=>(h hid ρ).pt
theorem ft(ha:DT X c a p):DT X c (.UnaryOp .Not a pos) (dH p):=λhid ρ=>
 PT.imp (zu (ha hid ρ)) λσ H Q hq_=>by
  obtain⟨sr,d,hd,hq⟩:=hq_
  unfold dH at hd;cases e:p ρ with
  |none=>rw[e] at hd;cases hd
  |some x=>rw[e] at hd;cases hd;exact⟨sr,x,e,λH1 s1=>hq H1 s1⟩
def qc(p:FT):FE:=λρ=>(p ρ).map D.bl
def bq(f:FE):FT:=λρ=>pE (f ρ)
theorem gc {ρ:aB}{b:Bool}(h:bq f ρ=some b):f ρ=some (.bl b):=by
 unfold bq pE at h;split at h
 ·cases h;assumption
 ·cases h
theorem nX(ha:DP X c .s a f)(hb:DP X c .s (.BoolOp .And (b::rest) pos) g):DP X c .s (.BoolOp .And (a::b::rest) pos) (qc (gR (bq f) (bq g))):=λhid ρ=>
 PE.imp (yS (ha hid ρ) (hb hid ρ)) λσ H Q hq_=>by
  obtain⟨sr,d,hd,hq⟩:=hq_
  unfold qc gR at hd;cases e:bq f ρ with
  |none=>rw[e] at hd;cases hd
  |some x=>
   rw[e] at hd;refine⟨sr,_,gc e,λv H1 s1 r=>?_⟩
   cases r
   refine⟨x,rfl,?_⟩
   cases x with
   |true=>
    refine mV ?_
    cases e2:bq g ρ with
    |none=>rw[show(some true:Option Bool).bind (λb=>if b=true then bq g ρ else some false)=bq g ρ from rfl,e2] at hd;cases hd
    |some y=>
     rw[show(some true:Option Bool).bind (λb=>if b=true then bq g ρ else some false)=bq g ρ from rfl,e2] at hd;cases hd
     exact⟨sr.ext s1,_,gc e2,λv2 H2 s2 r2=>hq v2 H2 (s1.trans s2) r2⟩
   |false=>cases hd;exact nE (hq _ H1 s1 .bl)
theorem A4(ha:DP X c .s a f)(hb:DP X c .s (.BoolOp .Or (b::rest) pos) g):DP X c .s (.BoolOp .Or (a::b::rest) pos) (qc (km (bq f) (bq g))):=λhid ρ=>
 PE.imp (AX (ha hid ρ) (hb hid ρ)) λσ H Q hq_=>by
  obtain⟨sr,d,hd,hq⟩:=hq_
  unfold qc km at hd;cases e:bq f ρ with
  |none=>rw[e] at hd;cases hd
  |some x=>
   rw[e] at hd;refine⟨sr,_,gc e,λv H1 s1 r=>?_⟩
   cases r
   refine⟨x,rfl,?_⟩
   cases x with
   |false=>
    refine nE ?_
    cases e2:bq g ρ with
    |none=>rw[show(some false:Option Bool).bind (λb=>if b=true then some true else bq g ρ)=bq g ρ from rfl,e2] at hd;cases hd
    |some y=>
     rw[show(some false:Option Bool).bind (λb=>if b=true then some true else bq g ρ)=bq g ρ from rfl,e2] at hd;cases hd
     exact⟨sr.ext s1,_,gc e2,λv2 H2 s2 r2=>hq v2 H2 (s1.trans s2) r2⟩
   |true=>cases hd;exact mV (hq _ H1 s1 .bl)
theorem qz {op}(h:DP X c k a f):DP X c k (.BoolOp op [a] pos) f:=λhid ρ=>zT (h hid ρ)
theorem qV(ha:DP X c .s a f):DP X c .s (.UnaryOp .Not a pos) (qc (dH (bq f))):=λhid ρ=>
 PE.imp (zD (ha hid ρ)) λσ H Q hq_=>by
  obtain⟨sr,d,hd,hq⟩:=hq_
  unfold qc dH at hd;cases e:bq f ρ with
  |none=>rw[e] at hd;cases hd
  |some x=>
   rw[e] at hd;cases hd;refine⟨sr,_,gc e,λv H1 s1 r=>?_⟩
   cases r
   exact⟨x,rfl,hq _ H1 s1 .bl⟩
def AB(p:FT)(f g:FE):FE:=λρ=>(p ρ).bind λb=>if b=true then f ρ else g ρ
theorem AN {t:Expr}(hk:k≠ .n)(ht:DT X c t p)(ha:DP X c k a f)(hb:DP X c k b g):DP X c k (.IfExp t a b pos) (AB p f g):=λhid ρ=>
 PE.imp (wc (ht hid ρ) (ha hid ρ) (hb hid ρ)) λσ H Q hq_=>by
  obtain⟨sr,d,hd,hq⟩:=hq_
  unfold AB at hd;cases e:p ρ with
  |none=>rw[e] at hd;cases hd
  |some x=>
   rw[e] at hd;refine⟨sr,x,e,λH1 s1=>?_⟩
   have lf: ∀ {v H2},RK X.K k H1 H2 hid v d->RK X.K k H H2 hid v d:=λ{v H2} r=>RK.left s1 r
   cases x with
   |true=>exact mV ⟨sr.ext s1,d,hd,λv H2 s2 r=>hq v H2 (s1.trans s2) (lf r)⟩
   |false=>exact nE ⟨sr.ext s1,d,hd,λv H2 s2 r=>hq v H2 (s1.trans s2) (lf r)⟩
variable {r r':R2}{h:FE}{e3:Expr}
def zI(F G:D->D->Option D)(f g h:FE):FE:=λρ=>(f ρ).bind λx=>(g ρ).bind λy=>(pE (F x y)).bind λk=>if k=true then(h ρ).bind λz=>G y z else some (.bl false)
theorem z0 {F G:D->D->Option D}{k1 k2 k3:Kd}{hid:bF}{ρ:aB}(hF:jY X.K .s r F)(hG:jY X.K .s r' G){σ:St}{H:Hp}{Q:VK}(hh:wq X.K c hid .s (zI F G f g h) ρ σ H Q):
 vp r r' (wq X.K c hid k1 f ρ) (wq X.K c hid k2 g ρ) (wq X.K c hid k3 h ρ) σ H Q:=by
 obtain⟨sr,d,hd,q⟩:=hh
 unfold zI at hd;cases e1:f ρ with
 |none=>rw[e1] at hd;cases hd
 |some x=>
  cases e2:g ρ with
  |none=>rw[e1,e2] at hd;cases hd
  |some y=>
   rw[e1,e2] at hd;have hd':(pE (F x y)).bind (λk=>if k=true then(h ρ).bind λz=>G y z else some (.bl false))=some d:=hd
   cases e3:F x y with
   |none=>rw[e3] at hd';cases hd'
   |some z=>
    cases z with
    |bl kk=>
     rw[e3] at hd';refine⟨sr,x,e1,λv H1 s1 r1=>⟨sr.ext s1,y,e2,λu H2 s2 r2=>?_⟩⟩
     have b1:=(RK.b k1 r1 λa n=>sr.fresh n).ext s2
     have b2:=RK.b k2 r2 λa n=>(sr.ext s1).fresh n
     have fr: ∀a,H2 a=none->hid a=false:=λa n=>((sr.ext s1).ext s2).fresh n
     refine hF H2 hid v u x y _ _ fr e3 b1 b2 λw H3 s3 r3=>?_
     cases r3
     refine⟨kk,rfl,?_⟩
     cases kk with
     |false=>cases hd';exact nE (q _ H3 ((s1.trans s2).trans s3) .bl)
     |true=>
      refine mV ?_
      cases e4:h ρ with
      |none=>rw[e4] at hd';cases hd'
      |some z=>
       rw[e4] at hd';have hd2:G y z=some d:=hd'
       refine⟨((sr.ext s1).ext s2).ext s3,z,e4,λw' H4 s4 r4=>?_⟩
       have b3:=RK.b k3 r4 λa n=>(((sr.ext s1).ext s2).ext s3).fresh n
       exact hG H4 hid u w' y z d Q (λa n=>((((sr.ext s1).ext s2).ext s3).ext s4).fresh n) hd2 ((b2.ext s3).ext s4) b3 λw2 H5 s5 r5=>q w2 H5 ((((s1.trans s2).trans s3).trans s4).trans s5) r5
    |_=>rw[e3] at hd';cases hd'
theorem Bf {op op':CmpOp}{F G:D->D->Option D}{k1 k2 k3:Kd}(ho:ji X (compareOp op) r)(ho':ji X (compareOp op') r')(hF:jY X.K .s r F)(hG:jY X.K .s r' G)(ha:DP X c k1 a f)(hb:DP X c k2 b g)(hc:DP X c k3 e3 h)
 (hm:lastMarks [op,op'] [b,e3]=false:=by with_unfolding_all rfl):DT X c (.Compare a [op,op'] [b,e3] pos) (bq (zI F G f g h)):=λhid ρ=>
 PT.imp (vb ho ho' (ha hid ρ) (hb hid ρ) (hc hid ρ) hm) λσ H Q hq_=>by
  obtain⟨sr,d,hd,q⟩:=hq_
  refine z0 (X:=X) (F:=F) (G:=G) hF hG ⟨sr,_,gc hd,λv H' s r=>⟨d,?_,q H' s⟩⟩
  cases r;rfl
end
section
variable {X:Cx}{c:Ct}{e a b:Expr}{es rest:List Expr}{f g:FE}{fs:FA}{k:Kd}{pos:Pos}
def af:FA:=λ_=>some []
def aa(f:FE)(fs:FA):FA:=λρ=>(f ρ).bind λd=>(fs ρ).map λr=>d::r
theorem lA {ρ:aB}{ds:List D}(h:aa f fs ρ=some ds): ∃d r,f ρ=some d/\fs ρ=some r/\ds=d::r:=by
 unfold aa at h;cases e1:f ρ with
 |none=>rw[e1] at h;cases h
 |some d=>
  cases e2:fs ρ with
  |none=>rw[e1,e2] at h;cases h
  |some r=>rw[e1,e2] at h;cases h;exact⟨d,r,rfl,rfl,rfl⟩
theorem av:DA X c [] af:=λhid ρ=>PA.imp cY λσ H Q ⟨sr,d,hd,q⟩=>by cases hd;exact q [] H (Same.refl _) .nil
theorem ak(ha:DP X c .s e f)(hr:DA X c es fs)(hs:starEach (e::es) X.env=(false,eval e X.env)::starEach es X.env:=by rfl):DA X c (e::es) (aa f fs):=λhid ρ=>
 PA.imp (bi (ha hid ρ) (hr hid ρ) hs) λσ H Q hq_=>by
  obtain⟨sr,d,hd,q⟩:=hq_
  obtain⟨d1,r,e1,e2,rfl⟩:=lA hd
  exact⟨sr,d1,e1,λv H1 s1 r1=>⟨sr.ext s1,r,e2,λvs H2 s2 r2=>q _ H2 (s1.trans s2) (.cons (Rep.mono (ba s2) r1) r2)⟩⟩
def dZ(fs:FA):FE:=λρ=>(fs ρ).bind λds=>if ds.length<=sizeLine then some (.tup ds) else none
def bQ(fs:FA):FE:=λρ=>(fs ρ).bind λds=>if ds.length<=sizeLine then some (.lst ds) else none
theorem tE {ρ:aB}{d:D}(h:dZ fs ρ=some d): ∃ds,fs ρ=some ds/\ds.length<=sizeLine/\d=.tup ds:=by
 unfold dZ at h;cases e1:fs ρ with
 |none=>rw[e1] at h;cases h
 |some ds=>
  rw[e1] at h;have h':(if ds.length<=sizeLine then some (D.tup ds) else none)=some d:=h
  split at h'
  ·cases h';exact⟨ds,rfl, ‹_›,rfl⟩
  ·cases h'
theorem tz {ρ:aB}{d:D}(h:bQ fs ρ=some d): ∃ds,fs ρ=some ds/\ds.length<=sizeLine/\d=.lst ds:=by
 unfold bQ at h;cases e1:fs ρ with
 |none=>rw[e1] at h;cases h
 |some ds=>
  rw[e1] at h;have h':(if ds.length<=sizeLine then some (D.lst ds) else none)=some d:=h
  split at h'
  ·cases h';exact⟨ds,rfl, ‹_›,rfl⟩
  ·cases h'
theorem bc {H:Hp}{p:Addr}(h:H p=none)(o:HO):Same H (cF H p o):=λb u q=>by rw[aM (bz q h)];exact q
theorem lC {K:W.Frag}{H:Hp}{hid:bF}{p:Addr}{xs:List V}{ds:List D}(hn:H p=none)(hf:hid p=false)(r:Reps K (vw H hid) xs ds):Rep K (vw (cF H p (.tup xs)) hid) (.ref p) (.tup ds):=
 .tup (SqT.of (vw_some.mpr ⟨hf,bf⟩)) (r.mono (ba (bc hn _)))
theorem gA {K:W.Frag}{H H0:Hp}{hid:bF}{p:Addr}{xs:List V}{ds:List D}(hn:H p=none)(s:Same H0 H)(r:Reps K (vw H hid) xs ds):RN K H0 (cF H p (.lst xs)) hid (.ref p) (.lst ds):=
 ⟨p,xs,ds,rfl,rfl,s.free hn,bf,by rw[rd hn];exact r⟩
theorem fW {x1}(h:DA X c es fs):DP X c .s (.Tuple es x1 pos) (dZ fs):=λhid ρ=>PE.imp (vn (h hid ρ)) λσ H Q hq_=>by
 obtain⟨sr,d,hd,q⟩:=hq_
 obtain⟨ds,e1,hz,rfl⟩:=tE hd
 exact⟨sr,ds,e1,λvs H1 s1 r1=>⟨by rw[r1.length];exact hz,λp hp=>q _ _ (s1.trans (bc hp _)) (lC hp ((sr.ext s1).fresh hp) r1)⟩⟩
theorem fk(h:DA X c es fs):DP X c .n (.List es pos) (bQ fs):=λhid ρ=>PE.imp (vX (h hid ρ)) λσ H Q hq_=>by
 obtain⟨sr,d,hd,q⟩:=hq_
 obtain⟨ds,e1,hz,rfl⟩:=tz hd
 exact⟨sr,ds,e1,λvs H1 s1 r1=>⟨by rw[r1.length];exact hz,λp hp=>q _ _ (s1.trans (bc hp _)) (gA hp s1 r1)⟩⟩
abbrev Reps1(K:W.Frag)(H W:Hp):List V->List D->Prop:=Paired (Rep1 K H W)
def Db(K:W.Frag)(c:Ct)(hid:bF)(f:FA)(ρ:aB):TA:=λσ H Q=>SR K c hid ρ σ H/\ ∃d,f ρ=some d/\ ∀vs H',Same H H'->Reps1 K H' (vw H' hid) vs d->Q vs H'
def DB(X:Cx)(c:Ct)(es:List Expr)(f:FA):Prop:= ∀hid ρ,PA X es (Db X.K c hid f ρ)
theorem aK:DB X c [] af:=λhid ρ=>PA.imp cY λσ H Q ⟨sr,d,hd,q⟩=>by cases hd;exact q [] H (Same.refl _) .nil
theorem aD(ha:DP X c k e f)(hr:DB X c es fs)(hs:starEach (e::es) X.env=(false,eval e X.env)::starEach es X.env:=by rfl):DB X c (e::es) (aa f fs):=λhid ρ=>
 PA.imp (bi (ha hid ρ) (hr hid ρ) hs) λσ H Q hq_=>by
  obtain⟨sr,d,hd,q⟩:=hq_
  obtain⟨d1,r,e1,e2,rfl⟩:=lA hd
  exact⟨sr,d1,e1,λv H1 s1 r1=>⟨sr.ext s1,r,e2,λvs H2 s2 r2=>q _ H2 (s1.trans s2) (.cons ((RK.b k r1 λa n=>sr.fresh n).ext s2) r2)⟩⟩
def gj(K:W.Frag)(k:Kd)(r:List V->Hp->VK->Prop)(F:List D->Option D):Prop:= ∀(H:Hp) (hid:bF) (vs:List V) (ds:List D) (d:D) (Q:VK),(∀a,H a=none->hid a=false)->F ds=some d->Reps1 K H (vw H hid) vs ds->
 (∀w H',Same H H'->RK K k H H' hid w d->Q w H')->r vs H Q
def ai(F:List D->Option D)(fs:FA):FE:=λρ=>(fs ρ).bind F
theorem kL {F:List D->Option D}{ρ:aB}{d:D}(h:ai F fs ρ=some d): ∃ds,fs ρ=some ds/\F ds=some d:=by
 unfold ai at h;cases e1:fs ρ with
 |none=>rw[e1] at h;cases h
 |some ds=>rw[e1] at h;exact⟨ds,rfl,h⟩
theorem A2 {r:List V->Hp->VK->Prop}{F:List D->Option D}{hid:bF}{ρ:aB}(hF:gj X.K k r F){σ:St}{H:Hp}{Q:VK}(h:wq X.K c hid k (ai F fs) ρ σ H Q):Cu r (Db X.K c hid fs ρ) σ H Q:=by
 obtain⟨sr,d,hd,q⟩:=h
 obtain⟨ds,e1,e2⟩:=kL hd
 exact⟨sr,ds,e1,λvs H1 s1 r1=>hF H1 hid vs ds d Q (λa n=>(sr.ext s1).fresh n) e2 r1 λw H' s2 r2=>q w H' (s1.trans s2) (RK.left s1 r2)⟩
variable {x:Str}{p:Pos}{id T:String}{r:List V->Hp->VK->Prop}{F:List D->Option D}
theorem aE(hc:ee X (.builtin id) r)(hF:gj X.K k r F)(hm:X.mg x=none)(ha:DB X c (e::es) fs)(hg:Gl X x:=by rfl)(hv:bootBuiltins x=some (.builtin id):=by first|exact PySem.boot_len|rfl|kernel_rfl)(hn:x≠"__name__":=by decide)(hdb:(x==("__debug__":Str))=false:=by decide)
 (he:starEach (e::es) X.env=(false,eval e X.env)::starEach es X.env:=by rfl) (hpl:(backTo pos (starEach es X.env)).any (·.1)=false:=by rfl):DP X c k (.Call (.Name x p) (e::es) [] pos) (ai F fs):=λhid ρ=>
 PE.imp (gY hc hg hm hv (ha hid ρ) hn hdb he hpl) λσ H Q h=>A2 hF h
theorem eD(hc:ee X (.type T) r)(hF:gj X.K k r F)(hm:X.mg x=none)(ha:DB X c (e::es) fs)(hg:Gl X x:=by rfl)(hv:bootBuiltins x=some (.type T):=by first|rfl|kernel_rfl)(hn:x≠"__name__":=by decide)(hdb:(x==("__debug__":Str))=false:=by decide)
 (he:starEach (e::es) X.env=(false,eval e X.env)::starEach es X.env:=by rfl) (hpl:(backTo pos (starEach es X.env)).any (·.1)=false:=by rfl):DP X c k (.Call (.Name x p) (e::es) [] pos) (ai F fs):=λhid ρ=>
 PE.imp (jv hc hg hm hv (ha hid ρ) hn hdb he hpl) λσ H Q h=>A2 hF h
end
section
variable {K:W.Frag}
theorem Reps1.one {H W:Hp}{v:List V}{d:D}(r:Reps1 K H W v [d]): ∃x,v=[x]/\Rep1 K H W x d:=by
 cases r with
 |cons r t=>cases t;exact⟨_,rfl,r⟩
theorem Reps1.two {H W:Hp}{v:List V}{d d':D}(r:Reps1 K H W v [d,d']): ∃x y,v=[x,y]/\Rep1 K H W x d/\Rep1 K H W y d':=by
 cases r with
 |cons r t=>cases t with
  |cons r' t=>cases t;exact⟨_,_,rfl,r,r'⟩
def bu:List D->Option D
 | [.lst ds]=>some (.int ds.length)
 | [.tup ds]=>some (.int ds.length)
 | [.scr ds]=>some (.int ds.length)
 |_=>none
theorem bZ:gj K .s (λxs H Q=> ∃p ys,xs=[.ref p]/\(SqL K H p ys\/SqT K H p ys)/\Q (.int ys.length) H) bu:=by
 intro H hid vs ds d Q hf h r q;unfold bu at h;split at h
 ·cases h
  obtain⟨x,rfl,r1⟩:=Reps1.one r
  obtain⟨a,xs,rfl,h1,h2⟩:=r1.lst
  exact⟨a,xs,rfl,.inl h1,by rw[h2.length];exact q _ H (Same.refl _) .int⟩
 ·cases h
  obtain⟨x,rfl,r1⟩:=Reps1.one r
  obtain⟨a,xs,rfl,_,h1,h2⟩:=r1.tup
  exact⟨a,xs,rfl,.inr h1,by rw[h2.length];exact q _ H (Same.refl _) .int⟩
 ·cases h
  obtain⟨x,rfl,r1⟩:=Reps1.one r
  obtain⟨a,xs,rfl,h1,h2⟩:=r1.scr
  exact⟨a,xs,rfl,.inl h1,by rw[h2.length];exact q _ H (Same.refl _) .int⟩
 ·cases h
def pq:List D->Option D
 | [.int i]=>some (.int (if i<0 then -i else i))
 |_=>none
theorem zM:gj K .s (λxs H Q=> ∃i,xs=[.int i]/\Q (.int (if i<0 then -i else i)) H) pq:=by
 intro H hid vs ds d Q hf h r q;unfold pq at h;split at h
 ·cases h
  obtain⟨x,rfl,r1⟩:=Reps1.one r
  cases r1.int
  exact⟨_,rfl,q _ H (Same.refl _) .int⟩
 ·cases h
def rL:List D->Option D
 | [.int i,.int j]=>some (.int (if j>i then j else i))
 |_=>none
theorem wV:gj K .s (λxs H Q=> ∃i j,xs=[.int i,.int j]/\Q (.int (if j>i then j else i)) H) rL:=by
 intro H hid vs ds d Q hf h r q;unfold rL at h;split at h
 ·cases h
  obtain⟨x,y,rfl,r1,r2⟩:=Reps1.two r
  cases r1.int;cases r2.int
  exact⟨_,_,rfl,q _ H (Same.refl _) .int⟩
 ·cases h
def i7:List D->Option D
 | [.int i,.int j]=>some (.int (if j<i then j else i))
 |_=>none
theorem tj:gj K .s (λxs H Q=> ∃i j,xs=[.int i,.int j]/\Q (.int (if j<i then j else i)) H) i7:=by
 intro H hid vs ds d Q hf h r q;unfold i7 at h;split at h
 ·cases h
  obtain⟨x,y,rfl,r1,r2⟩:=Reps1.two r
  cases r1.int;cases r2.int
  exact⟨_,_,rfl,q _ H (Same.refl _) .int⟩
 ·cases h
def dL:List D->Option D
 | [.lst ds]=>some (.tup ds)
 | [.tup ds]=>some (.tup ds)
 |_=>none
theorem ge:gj K .s (λxs H Q=> ∃p ys,xs=[.ref p]/\((SqL K H p ys/\ ∀l,H l=none->Q (.ref l) (cF H l (.tup ys)))\/(SqT K H p ys/\Q (.ref p) H))) dL:=by
 intro H hid vs ds d Q hf h r q;unfold dL at h;split at h
 ·cases h
  obtain⟨x,rfl,r1⟩:=Reps1.one r
  obtain⟨a,xs,rfl,h1,h2⟩:=r1.lst
  exact⟨a,xs,rfl,.inl ⟨h1,λl hl=>q _ _ (bc hl _) (lC hl (hf l hl) h2)⟩⟩
 ·cases h
  obtain⟨x,rfl,r1⟩:=Reps1.one r
  obtain⟨a,xs,rfl,h0,h1,h2⟩:=r1.tup
  exact⟨a,xs,rfl,.inr ⟨h1,q _ H (Same.refl _) (.tup h0 h2)⟩⟩
 ·cases h
def bp:D->D->Option D
 | .lst ds,.int i=>ju ds i
 | .tup ds,.int i=>ju ds i
 | .scr ds,.int i=>ju ds i
 |_,_=>none
theorem m8 {F:Hp}{xs:List V}{ds:List D}{i:Int}{d:D}(r:Reps K F xs ds)(h:ju ds i=some d): ∃x,ju xs i=some x/\Rep K F x d:=by
 unfold ju at h⊢;rw[r.length];cases e:oj ds.length i with
 |none=>rw[e] at h;cases h
 |some j=>
  rw[e] at h;obtain⟨x,h1,h2⟩:=r.get (i:=j) h
  exact⟨x,h1,h2⟩
theorem bA:jY K .s (CA K) bp:=by
 intro H hid v u x y d Q hf h r1 r2 q;unfold bp at h;split at h
 ·cases r2.int
  obtain⟨a,xs,rfl,h1,h2⟩:=r1.lst
  obtain⟨z,h3,h4⟩:=m8 h2 h
  exact .inl ⟨a,xs,_,z,rfl,rfl,h1,h3,q _ H (Same.refl _) h4⟩
 ·cases r2.int
  obtain⟨a,xs,rfl,_,h1,h2⟩:=r1.tup
  obtain⟨z,h3,h4⟩:=m8 h2 h
  exact .inr (.inl ⟨a,xs,_,z,rfl,rfl,h1,h3,q _ H (Same.refl _) h4⟩)
 ·cases r2.int
  obtain⟨a,xs,rfl,h1,h2⟩:=r1.scr
  obtain⟨z,h3,h4⟩:=m8 h2 h
  exact .inl ⟨a,xs,_,z,rfl,rfl,h1,h3,q _ H (Same.refl _) h4⟩
 ·cases h
end
abbrev GE:=aB->Option (D×aB)
abbrev GA:=aB->Option (List D×aB)
def Kept(hid:bF)(H H':Hp):Prop:= ∀b o,H b=some o->hid b=false->H' b=some o
theorem Kept.of {hid:bF}{H H':Hp}(s:Same H H'):Kept hid H H':=λb o q _=>s b o q
theorem Kept.trans {hid:bF}{H H1 H2:Hp}(a:Kept hid H H1)(b:Kept hid H1 H2):Kept hid H H2:=λc o q h=>b c o (a c o q h) h
theorem Kept.vw {hid:bF}{H H':Hp}(a:Kept hid H H'):Same (vw H hid) (vw H' hid):=se a
def PostE(K:W.Frag)(c:Ct)(hid:bF)(k:Kd)(ρ':aB)(σ:St)(H H':Hp)(v:V)(d:D):Prop:=Kept hid H H'/\match k with
 | .n=> ∃a xs ds,d=.lst ds/\v=.ref a/\H a=none/\H' a=some (.lst xs)/\c.H₀ a=none/\hid a=false/\SR K c (aV hid a) ρ' σ H'/\Reps K (vw H' (aV hid a)) xs ds/\ ∀i:Nat,Ow ρ'[i]? ->σ[i]? ≠some (some (.ref a))
 |_=>SR K c hid ρ' σ H'/\Rep K (vw H' hid) v d
def Bg(K:W.Frag)(c:Ct)(hid:bF)(k:Kd)(f:GE)(ρ:aB):TE:=λσ H Q=>SR K c hid ρ σ H/\ ∃d ρ',f ρ=some (d,ρ')/\ ∀v H',PostE K c hid k ρ' σ H H' v d->Q v H'
def DE(X:Cx)(c:Ct)(k:Kd)(e:Expr)(f:GE):Prop:= ∀hid ρ,PE X e (Bg X.K c hid k f ρ)
def pu(f:FE):GE:=λρ=>(f ρ).map λd=>(d,ρ)
theorem wU {f:FE}{ρ ρ':aB}{d:D}(h:pu f ρ=some (d,ρ')):f ρ=some d/\ρ'=ρ:=by
 unfold pu at h;cases e:f ρ with
 |none=>rw[e] at h;cases h
 |some x=>rw[e] at h;cases h;exact⟨rfl,rfl⟩
section
variable {K:W.Frag}{c:Ct}{hid hid':bF}{ρ:aB}{σ:St}{H H':Hp}{i:Nat}{a:Addr}
theorem bR {hid:bF}{a b:Addr}(h:hid b=true):aV hid a b=true:=by unfold aV;rw[h];rfl
theorem gq {hid:bF}{a:Addr}:aV hid a a=true:=by unfold aV;simp
theorem rA {hid:bF}{a b:Addr}(h:aV hid a b=false):hid b=false/\b≠a:=by
 unfold aV at h;cases e:hid b with
 |true=>rw[e] at h;cases h
 |false=>rw[e] at h;exact⟨rfl,by simpa using h⟩
theorem SR.hide(h:SR K c hid ρ σ H)(e:Same H H')(n:H a=none){o:HO}(ho:H' a=some o)(hn: ∀xs,o≠ .tup xs:=by intro _ e;cases e):SR K c (aV hid a) ρ σ H':=by
 have sm:Same (vw H hid) (vw H' (aV hid a)):=λb o q=>by
  obtain⟨q1,q2⟩:=vw_some.mp q
  refine vw_some.mpr ⟨?_,e _ _ q2⟩
  unfold aV;rw[q1];have:b≠a:=bz q2 n
  simp[this]
 refine⟨λb hb=>?_,λb xs hb q=>by
  by_cases eb:b=a
  ·subst eb;rw[ho] at q;exact hn _ (Option.some.inj q)
  ·unfold aV at hb
   exact(h.ext e).ht b xs (by simpa [eb] using hb) q,λb q=>bR (h.h0 b q),(h.ext e).kp,(h.ext e).t0,h.c0,h.m0,h.len,λi s q=>?_,h.ap⟩
 ·by_cases eb:b=a
  ·subst eb;exact⟨_,ho⟩
  ·unfold aV at hb
   have:hid b=true:=by simpa [eb] using hb
   obtain⟨o',q⟩:=h.tr b this
   exact⟨o',e _ _ q⟩
 ·have z:=h.sl i s q
  cases s with
  |no=>trivial
  |v d=>obtain⟨x,h1,h2⟩:=z;exact⟨x,h1,h2.mono sm⟩
  |own ds=>obtain⟨a',xs,h1,h2,h3,h4,h5⟩:=z;exact⟨a',xs,h1,e _ _ h2,bR h3,h4,h5.mono sm⟩
  |arg ds=>obtain⟨a',xs,h1,h2,h3,h4,h5⟩:=z;exact⟨a',xs,h1,e _ _ h2,bR h3,h4,h5.mono sm⟩
  |ob b=>obtain⟨a',h1,h2⟩:=z;exact⟨a',h1,h2.mono (λ_ x _=>e x) sm λ_ _ _=>bR⟩
theorem SR.show (h:SR K c (aV hid a) ρ σ H)(h0: ∀b,c.hid₀ b=true->hid b=true)(no: ∀i:Nat,Ow ρ[i]? ->σ[i]? ≠some (some (.ref a))){o:HO}(ha:H a=some o)(hn: ∀p u,o≠ .nst p u:=by intro _ _ e;cases e):SR K c hid ρ σ H:=by
 have sm:Same (vw H (aV hid a)) (vw H hid):=eK λb q=>bR q
 have un: ∀b,b≠a->aV hid a b=true->hid b=true:=λb nb hb=>by unfold aV at hb;simpa [nb] using hb
 refine⟨λb hb=>h.tr b (bR hb),λb xs hb=>h.ht b xs (bR hb),h0,h.kp,h.t0,h.c0,h.m0,h.len,λi s q=>?_,h.ap⟩
 have z:=h.sl i s q
 cases s with
 |no=>trivial
 |v d=>obtain⟨x,h1,h2⟩:=z;exact⟨x,h1,h2.mono sm⟩
 |own ds=>
  obtain⟨a',xs,h1,h2,h3,h4,h5⟩:=z
  have:a'≠a:=λe=>by subst e;exact no i (by rw[q];trivial) h1
  exact⟨a',xs,h1,h2,un a' this h3,h4,h5.mono sm⟩
 |arg ds=>
  obtain⟨a',xs,h1,h2,h3,h4,h5⟩:=z
  have:a'≠a:=λe=>by subst e;exact no i (by rw[q];trivial) h1
  exact⟨a',xs,h1,h2,un a' this h3,h4,h5.mono sm⟩
 |ob b=>
  obtain⟨a',h1,h2⟩:=z
  exact⟨a',h1,h2.mono (λ_ _ _ _ q=>q) sm λow x hx=>un x (hx.ne (λe=>by subst e;exact no i (by rw[q];exact ow) h1) ha hn)⟩
theorem SR.notOw(h:SR K c hid ρ σ H)(n:hid a=false)(i:Nat)(o:Ow ρ[i]?):σ[i]? ≠some (some (.ref a)):=λe=>by
 cases q:ρ[i]? with
 |none=>rw[q] at o;exact o
 |some s=>
  rw[q] at o;have z:=h.sl i s q
  cases s with
  |no=>exact o
  |v d=>exact o
  |own ds=>obtain⟨a',xs,h1,h2,h3,_⟩:=z;rw[e] at h1;cases h1;rw[n] at h3;cases h3
  |arg ds=>obtain⟨a',xs,h1,h2,h3,_⟩:=z;rw[e] at h1;cases h1;rw[n] at h3;cases h3
  |ob b=>obtain⟨a',h1,h2⟩:=z;rw[e] at h1;cases h1;have:=h2.hid o;rw[n] at this;cases this
theorem SR.post {k:Kd}{v:V}{d:D}(h:SR K c hid ρ σ H)(e:Same H H')(r:RK K k H H' hid v d)(hk:k≠ .b):PostE K c hid k ρ σ H H' v d:=by
 cases k with
 |b=>exact absurd rfl hk
 |s=>exact⟨.of e,h.ext e,r⟩
 |n=>
  obtain⟨a,xs,ds,h1,h2,h3,h4,h5⟩:=r
  exact⟨.of e,a,xs,ds,h1,h2,h3,h4,h.fresh0 h3,h.fresh h3,h.hide e h3 h4,h5,h.notOw (h.fresh h3)⟩
theorem PostE.left {k:Kd}{ρ':aB}{H1:Hp}{v:V}{d:D}(s:Kept hid H H1)(p:PostE K c hid k ρ' σ H1 H' v d):PostE K c hid k ρ' σ H H' v d:=by
 cases k with
 |b=>exact⟨s.trans p.1,p.2⟩
 |s=>exact⟨s.trans p.1,p.2⟩
 |n=>
  obtain⟨kp,a,xs,ds,h1,h2,hn,h3,h4,h5,h6⟩:=p
  refine⟨s.trans kp,a,xs,ds,h1,h2,?_,h3,h4,h5,h6⟩
  cases e:H a with
  |none=>rfl
  |some o=>rw[s a o e h5] at hn;cases hn
theorem PostE.toS {ρ':aB}{v:V}{d:D}(h0: ∀b,c.hid₀ b=true->hid b=true)(p:PostE K c hid .n ρ' σ H H' v d):PostE K c hid .s ρ' σ H H' v d:=by
 obtain⟨kp,a,xs,ds,rfl,rfl,hn,h1,h2,h3,h4,h5,h6⟩:=p
 exact⟨kp,h4.show h0 h6 h1,.lst (vw_some.mpr ⟨h3,h1⟩) (h5.mono (eK λb q=>bR q))⟩
end
section
variable {X:Cx}{c:Ct}{e a b:Expr}{es rest:List Expr}{f g:GE}{k:Kd}{pos:Pos}
theorem DP.ef {f:FE}(h:DP X c k e f)(hk:k≠ .b:=by decide):DE X c k e (pu f):=λhid ρ=>PE.imp (h hid ρ) λσ H Q hq_=>by
 obtain⟨sr,d,ρ',hd,q⟩:=hq_
 obtain⟨h1,rfl⟩:=wU hd
 exact⟨sr,d,h1,λv H' s r=>q v H' (sr.post s r hk)⟩
theorem DE.toS(h:DE X c .n e f):DE X c .s e f:=λhid ρ=>PE.imp (h hid ρ) λσ H Q ⟨sr,d,ρ',hd,q⟩=>⟨sr,d,ρ',hd,λv H' p=>q v H' (p.toS sr.h0)⟩
def bE {α:Type}(f:GE)(g:D->aB->Option α):aB->Option α:=λρ=>(f ρ).bind λp=>g p.1 p.2
theorem mM {α:Type}{g:D->aB->Option α}{ρ:aB}{z:α}(h:bE f g ρ=some z): ∃d ρ',f ρ=some (d,ρ')/\g d ρ'=some z:=by
 unfold bE at h;cases e:f ρ with
 |none=>rw[e] at h;cases h
 |some p=>rw[e] at h;exact⟨p.1,p.2,rfl,h⟩
def kH(F:D->D->Option D)(f g:GE):GE:=bE f λx=>bE g λy ρ=>(F x y).map λd=>(d,ρ)
theorem tP {F:D->D->Option D}{ρ ρ':aB}{d:D}(h:kH F f g ρ=some (d,ρ')): ∃x ρ1 y,f ρ=some (x,ρ1)/\g ρ1=some (y,ρ')/\F x y=some d:=by
 obtain⟨x,ρ1,h1,h2⟩:=mM h
 obtain⟨y,ρ2,h3,h4⟩:=mM h2
 cases e:F x y with
 |none=>rw[e] at h4;cases h4
 |some z=>rw[e] at h4;cases h4;exact⟨x,ρ1,y,h1,h3,e⟩
theorem Cm {r:R2}{F:D->D->Option D}{hid:bF}{ρ:aB}(hF:jY X.K k r F)(hk:k≠ .b){σ:St}{H:Hp}{Q:VK}(h:Bg X.K c hid k (kH F f g) ρ σ H Q):Au r (Bg X.K c hid .s f ρ) (λσ H Q=> ∃ρ1,Bg X.K c hid .s g ρ1 σ H Q) σ H Q:=by
 obtain⟨sr,d,ρ',hd,q⟩:=h
 obtain⟨x,ρ1,y,e1,e2,e3⟩:=tP hd
 refine⟨sr,x,ρ1,e1,λv H1 ⟨k1,s1,r1⟩=>⟨ρ1,s1,y,ρ',e2,λu H2 ⟨k2,s2,r2⟩=>?_⟩⟩
 exact hF H2 hid v u x y d Q (λa n=>s2.fresh n) e3 (.inl (r1.mono k2.vw)) (.inl r2) λw H' s3 r3=>q w H' (PostE.left (k1.trans k2) (s2.post s3 r3 hk))
theorem lO {α:Type}{t:α->TE}(h: ∀z,PE X e (t z)):PE X e (λσ H Q=> ∃z,t z σ H Q):=λae s σ H Q I ⟨z,q⟩=>h z ae s σ H Q I q
theorem AA {op:Operator}{r:R2}{F:D->D->Option D}(ho:ji X (binaryOp op) r)(hF:jY X.K k r F)(ha:DE X c .s a f)(hb:DE X c .s b g)(hk:k≠ .b:=by decide):DE X c k (.BinOp a op b pos) (kH F f g):=λhid ρ=>
 PE.imp (ym ho (ha hid ρ) (lO λρ1=>hb hid ρ1)) λσ H Q h=>Cm hF hk h
def Dx(K:W.Frag)(c:Ct)(hid:bF)(f:GA)(ρ:aB):TA:=λσ H Q=>SR K c hid ρ σ H/\ ∃d ρ',f ρ=some (d,ρ')/\ ∀vs H',Kept hid H H'->SR K c hid ρ' σ H'->Reps K (vw H' hid) vs d->Q vs H'
def DG(X:Cx)(c:Ct)(es:List Expr)(f:GA):Prop:= ∀hid ρ,PA X es (Dx X.K c hid f ρ)
def bI(f:FA):GA:=λρ=>(f ρ).map λd=>(d,ρ)
theorem lb {f:FA}{ρ ρ':aB}{d:List D}(h:bI f ρ=some (d,ρ')):f ρ=some d/\ρ'=ρ:=by
 unfold bI at h;cases e:f ρ with
 |none=>rw[e] at h;cases h
 |some x=>rw[e] at h;cases h;exact⟨rfl,rfl⟩
theorem DA.gf {f:FA}(h:DA X c es f):DG X c es (bI f):=λhid ρ=>PA.imp (h hid ρ) λσ H Q hq_=>by
 obtain⟨sr,d,ρ',hd,q⟩:=hq_
 obtain⟨h1,rfl⟩:=lb hd
 exact⟨sr,d,h1,λv H' s r=>q v H' (.of s) (sr.ext s) r⟩
def ce(f:GE)(fs:GA):GA:=bE f λd ρ=>(fs ρ).map λp=>(d::p.1,p.2)
theorem A7 {α:Type}{t:α->TA}(h: ∀z,PA X es (t z)):PA X es (λσ H Q=> ∃z,t z σ H Q):=λp ae s σ H Q I ⟨z,q⟩=>h z p ae s σ H Q I q
theorem eL {fs:GA}(ha:DE X c .s e f)(hr:DG X c es fs)(hs:starEach (e::es) X.env=(false,eval e X.env)::starEach es X.env:=by rfl):DG X c (e::es) (ce f fs):=λhid ρ=>
 PA.imp (bi (ha hid ρ) (A7 λρ1=>hr hid ρ1) hs) λσ H Q hq_=>by
  obtain⟨sr,d,ρ',hd,q⟩:=hq_
  obtain⟨d1,ρ1,e1,h2⟩:=mM hd
  cases e2:fs ρ1 with
  |none=>rw[e2] at h2;cases h2
  |some p=>
   rw[e2] at h2;obtain⟨ds,ρ2⟩:=p
   cases h2
   exact⟨sr,d1,ρ1,e1,λv H1 ⟨k1,s1,r1⟩=>⟨ρ1,s1,ds,_,e2,λvs H2 k2 s2 r2=>q _ H2 (k1.trans k2) s2 (.cons (r1.mono k2.vw) r2)⟩⟩
end
def ir(K:W.Frag)(k:Kd)(n:Nat)(P:List D->Option D):Sp:=λvs H Q _=> ∃hid ds,yK hid H/\Reps K (vw H hid) vs ds/\ds.length=n/\ ∃d,P ds=some d/\ ∀v H',Same H H'->RK K k H H' hid v d->Q v H'
def A3(K:W.Frag)(k:Kd)(hid:bF)(H H':Hp)(v:V)(d:D)(xs':List V)(bs':List D):Prop:=match k with
 | .n=> ∃p ys es,d=.lst es/\v=.ref p/\H p=none/\H' p=some (.lst ys)/\Reps K (vw H' (aV hid p)) ys es/\Reps K (vw H' (aV hid p)) xs' bs'
 |_=>Rep K (vw H' hid) v d/\Reps K (vw H' hid) xs' bs'
def og(K:W.Frag)(k:Kd)(n:Nat)(M:List D->List D->Option (D×List D)):Sp:=λvs H Q _=> ∃hid a xs bs us ds,vs=.ref a::us/\yK hid H/\hid a=true/\H a=some (.lst xs)/\Reps K (vw H hid) xs bs/\
 Reps K (vw H hid) us ds/\ds.length=n/\ ∃d bs',M bs ds=some (d,bs')/\ ∀v H' xs',(∀b o,H b=some o->b≠a->H' b=some o)->H' a=some (.lst xs')->A3 K k hid H H' v d xs' bs'->Q v H'
section
variable {X:Cx}{c:Ct}{e a b:Expr}{es rest:List Expr}{k:Kd}{pos p:Pos}{x:Str}{f:Addr}{fd:FuncData}{ps:List Str}{j n:Nat}
theorem xH {P:List D->Option D}{fs:FA}(F:FnOk X.prog X.w X.K X.mg X.base lR j f fd ps (ir X.K k n P))(hr:Room j X.A)(hm:X.mg x=some (.ref f))(hk:W.keepIn X.K (.ref f)=true)(hb:Binds X.K fd ps [])
 (ha:DA X c (e::es) fs) (hg:Gl X x:=by rfl) (hdb:(x==("__debug__":Str))=false:=by decide) (he:starEach (e::es) X.env=(false,eval e X.env)::starEach es X.env:=by rfl) (hpl:(backTo pos (starEach es X.env)).any (·.1)=false:=by rfl):
 DP X c k (.Call (.Name x p) (e::es) [] pos) (ai (λds=>if ds.length=n then P ds else none) fs):=λhid ρ=>
 PE.imp (kh F hr hg hm hk hb .nil (rR (X:=X)) (ha hid ρ) hdb he hpl) λσ H Q hq_=>by
  obtain⟨sr,d,hd,q⟩:=hq_
  obtain⟨ds,e1,e2⟩:=kL hd
  have e2':(if ds.length=n then P ds else none)=some d:=e2
  split at e2'
  ·refine⟨sr,ds,e1,λvs H1 s1 r1=>?_⟩
   show ir X.K k n P (vs++[]) H1 Q E0;rw[List.append_nil];exact⟨hid,ds,(sr.ext s1).trk,r1, ‹_›,d,e2',λv H' s2 r2=>q v H' (s1.trans s2) (RK.left s1 r2)⟩
  ·cases e2'
def fy(i:Nat)(bs:List D)(ρ:aB):aB:=match ρ[i]? with
 |some (.own _)=>ρ.set i (.own bs)
 |some (.arg _)=>ρ.set i (.arg bs)
 |_=>ρ
def gw(i:Nat)(ρ:aB):Option (List D):=match ρ[i]? with
 |some (.own ds)=>some ds
 |some (.arg ds)=>some ds
 |_=>none
theorem gp {i:Nat}{ρ:aB}{bs:List D}(h:gw i ρ=some bs):ρ[i]? =some (.own bs)\/ρ[i]? =some (.arg bs):=by
 unfold gw at h;split at h
 ·cases h;exact .inl ‹_›
 ·cases h;exact .inr ‹_›
 ·cases h
theorem SR.held {K:W.Frag}{hid:bF}{ρ:aB}{σ:St}{H:Hp}{i:Nat}{bs:List D}(h:SR K c hid ρ σ H)(hg:gw i ρ=some bs): ∃a xs,σ[i]? =some (some (.ref a))/\H a=some (.lst xs)/\hid a=true/\Reps K (vw H hid) xs bs/\(c.mu a=true\/c.H₀ a=none):=by
 rcases gp hg with e|e
 ·obtain⟨a,xs,h1,h2,h3,h4,h5⟩:=h.sl i _ e
  exact⟨a,xs,h1,h2,h3,h5,.inr h4⟩
 ·obtain⟨a,xs,h1,h2,h3,h4,h5⟩:=h.sl i _ e
  exact⟨a,xs,h1,h2,h3,h5,.inl h4⟩
theorem iz {i j:Nat}{ρ:aB}{bs:List D}(h:j≠i):(fy i bs ρ)[j]? =ρ[j]? :=by
 unfold fy;split
 ·rw[List.getElem?_set_ne (Ne.symm h)]
 ·rw[List.getElem?_set_ne (Ne.symm h)]
 ·rfl
theorem vE {i:Nat}{ρ:aB}{bs:List D}:(fy i bs ρ).length=ρ.length:=by
 unfold fy;split
 ·simp
 ·simp
 ·rfl
theorem nA {i j:Nat}{ρ:aB}{bs:List D}(h:Ow (fy i bs ρ)[j]?):Ow ρ[j]? :=by
 by_cases e:j=i
 ·subst e
  unfold fy at h;split at h
  ·rw[‹ρ[j]? =_›];trivial
  ·rw[‹ρ[j]? =_›];trivial
  ·exact h
 ·rw[iz e] at h;exact h
theorem SR.put {K:W.Frag}{hid:bF}{ρ:aB}{σ:St}{H H':Hp}{i:Nat}{bs bs':List D}{a:Addr}{xs':List V}(h:SR K c hid ρ σ H)(hg:gw i ρ=some bs)(ha:σ[i]? =some (some (.ref a)))(kp: ∀b o,H b=some o->b≠a->H' b=some o)
 (hx:H' a=some (.lst xs')) (r:Reps K (vw H' hid) xs' bs'):SR K c hid (fy i bs' ρ) σ H':=by
 obtain⟨a1,xs,h1,h2,h3,h4,h5⟩:=h.held hg
 rw[ha] at h1;cases h1;have sm:Same (vw H hid) (vw H' hid):=se λb o q hb=>kp b o q (λe=>by subst e;rw[h3] at hb;cases hb)
 have tr': ∀b o,H b=some o-> ∃o',H' b=some o':=λb o q=>by
  by_cases e:b=a
  ·subst e;exact⟨_,hx⟩
  ·exact⟨o,kp b o q e⟩
 refine⟨λb hb=>let⟨o,q⟩:=h.tr b hb;tr' b o q,λb xs hb q=>by
  by_cases e:b=a
  ·subst e;rw[hx] at q;cases q
  ·obtain⟨o,w⟩:=h.tr b hb
   have z:=kp b o w e
   rw[q] at z;cases z;exact h.ht b xs hb w,h.h0,λb o q m=>?_,λb o q=>let⟨o',q'⟩:=h.t0 b o q;tr' b o' q',h.c0,h.m0,by rw[vE];exact h.len,λj s q=>?_,λj l z n o1 o2=>h.ap j l z n (nA o1) (nA o2)⟩
 ·refine kp b o (h.kp b o q m) λe=>?_
  subst e;rcases h5 with h5|h5
  ·rw[h5] at m;cases m
  ·rw[h5] at q;cases q
 ·by_cases e:j=i
  ·subst e
   rcases gp hg with w|w
   ·have lt:=(List.getElem?_eq_some_iff.mp w).1
    unfold fy at q;rw[w] at q;dsimp only at q;rw[List.getElem?_set_self lt] at q;cases q
    obtain⟨a2,xs2,g1,g2,g3,g4,g5⟩:=h.sl j _ w
    rw[ha] at g1;cases g1;exact⟨_,xs',ha,hx,g3,g4,r⟩
   ·have lt:=(List.getElem?_eq_some_iff.mp w).1
    unfold fy at q;rw[w] at q;dsimp only at q;rw[List.getElem?_set_self lt] at q;cases q
    obtain⟨a2,xs2,g1,g2,g3,g4,g5⟩:=h.sl j _ w
    rw[ha] at g1;cases g1;exact⟨_,xs',ha,hx,g3,g4,r⟩
  ·rw[iz e] at q
   have z:=h.sl j s q
   cases s with
   |no=>trivial
   |v d=>obtain⟨x,h1,h2⟩:=z;exact⟨x,h1,h2.mono sm⟩
   |own ds=>
    obtain⟨a',xs,z1,z2,z3,z4,z5⟩:=z
    have ne:a'≠a:=λe'=>by
     subst e';refine h.ap j i a' e (by rw[q];trivial) ?_ z1 ha
     rcases gp hg with w|w<;>rw[w]<;>trivial
    exact⟨a',xs,z1,kp _ _ z2 ne,z3,z4,z5.mono sm⟩
   |arg ds=>
    obtain⟨a',xs,z1,z2,z3,z4,z5⟩:=z
    have ne:a'≠a:=λe'=>by
     subst e';refine h.ap j i a' e (by rw[q];trivial) ?_ z1 ha
     rcases gp hg with w|w<;>rw[w]<;>trivial
    exact⟨a',xs,z1,kp _ _ z2 ne,z3,z4,z5.mono sm⟩
   |ob b=>
    obtain⟨a',z1,z2⟩:=z
    refine⟨a',z1,z2.mono (λow x hx o w=>kp _ _ w (hx.ne (λe'=>?_) h2)) sm λ_ _ _ w=>w⟩
    subst e';refine h.ap j i a' e (by rw[q];exact ow) ?_ z1 ha
    rcases gp hg with w|w<;>rw[w]<;>trivial
def aG(i n:Nat)(M:List D->List D->Option (D×List D))(fs:GA):GE:=λρ=>match gw i ρ with
 |none=>none
 |some _=>match fs ρ with
  |none=>none
  |some (ds,ρ1)=>match gw i ρ1 with
   |none=>none
   |some bs=>if ds.length=n then match M bs ds with
     |none=>none
     |some (d,bs')=>some (d,fy i bs' ρ1) else none
theorem iL {i:Nat}{M:List D->List D->Option (D×List D)}{fs:GA}{ρ ρ':aB}{d:D}(h:aG i n M fs ρ=some (d,ρ')): ∃bs0 ds ρ1 bs bs',gw i ρ=some bs0/\fs ρ=some (ds,ρ1)/\gw i ρ1=some bs/\ds.length=n/\M bs ds=some (d,bs')/\ρ'=fy i bs' ρ1:=by
 unfold aG at h;split at h
 ·cases h
 ·split at h
  ·cases h
  ·split at h
   ·cases h
   ·split at h
    ·split at h
     ·cases h
     ·cases h;exact⟨_,_,_,_,_, ‹_›, ‹_›, ‹_›, ‹_›, ‹_›,rfl⟩
    ·cases h
theorem u9(i:Nat){y:Str}{py:Pos}{M:List D->List D->Option (D×List D)}{fs:GA}(F:FnOk X.prog X.w X.K X.mg X.base lR j f fd ps (og X.K k n M))(hr:Room j X.A)(hm:X.mg x=some (.ref f))(hk:W.keepIn X.K (.ref f)=true)(hb:Binds X.K fd ps [])
 (ha:DG X c es fs) (hkb:k≠ .b:=by decide) (hN:X.N[i]? =some y:=by rfl) (hv:qw X.env.scope y:=by first|exact Or.inl rfl|exact Or.inr (Or.inl rfl)|exact Or.inr (Or.inr rfl)) (hd:(y==("__debug__":Str))=false:=by decide)
 (hcd:(y==("__classdict__":Str))=false:=by decide) (hs:starEach (.Name y py::es) X.env=(false,eval (.Name y py) X.env)::starEach es X.env:=by rfl) (hg:Gl X x:=by rfl) (hdb:(x==("__debug__":Str))=false:=by decide) (hpl:(backTo pos (starEach es X.env)).any (·.1)=false:=by rfl):
 DE X c k (.Call (.Name x p) (.Name y py::es) [] pos) (aG i n M fs):=λhid ρ=>
 PE.imp (kh F hr hg hm hk hb .nil (rR (X:=X)) (bi (pv i hN hv hd hcd) (ha hid ρ) hs) hdb hs hpl) λσ H Q hq_=>by
  obtain⟨sr,d,ρ',hd',q⟩:=hq_
  obtain⟨bs0,ds,ρ1,bs,bs',e0,e1,e2,e3,e4,rfl⟩:=iL hd'
  obtain⟨a,xs0,a1,_,a3,_,_⟩:=sr.held e0
  refine⟨.ref a,a1,sr,ds,ρ1,e1,λus H1 k1 s1 r1=>?_⟩
  obtain⟨a',xs,b1,b2,b3,b4,b5⟩:=s1.held e2
  rw[a1] at b1;cases b1;show og X.K k n M ((.ref a::us)++[]) H1 Q E0;rw[List.append_nil];refine⟨hid,a,xs,bs,us,ds,rfl,s1.trk,b3,b2,b4,r1,e3,d,bs',e4,λv H' xs' kp hx hr'=>q v H' ?_⟩
  have kp':Kept hid H1 H':=λb o q hb=>kp b o q λe=>by subst e;rw[b3] at hb;cases hb
  cases k with
  |b=>exact absurd rfl hkb
  |s=>exact⟨k1.trans kp',s1.put e2 a1 kp hx hr'.2,hr'.1⟩
  |n=>
   obtain⟨p',ys,es',rfl,rfl,h1,h2,h3,h4⟩:=hr'
   have np:hid p'=false:=s1.fresh h1
   have na:a≠p':=λe=>by subst e;rw[b2] at h1;cases h1
   have sB:SR X.K c (aV hid p') ρ1 σ (cF H1 p' (.lst ys)):=s1.hide (bc h1 _) h1 bf
   have kp2: ∀b o,(cF H1 p' (.lst ys)) b=some o->b≠a->H' b=some o:=λb o z hb=>by
    by_cases e:b=p'
    ·subst e;rw[bf] at z;cases z;exact h2
    ·rw[aM e] at z;exact kp b o z hb
   have sC:SR X.K c (aV hid p') (fy i bs' ρ1) σ H':=sB.put e2 a1 kp2 hx h4
   have hn:H p'=none:=by
    cases e:H p' with
    |none=>rfl
    |some o=>rw[k1 p' o e np] at h1;cases h1
   refine⟨k1.trans kp',p',ys,es',rfl,rfl,hn,h2,s1.fresh0 h1,np,sC,h3,λm hm hσ=>?_⟩
   have:=s1.notOw np m (nA hm)
   exact this hσ
def jM(n:Nat)(M:List D->List D->Option (D×List D))(f:FE)(fs:FA):FE:=λρ=>match f ρ with
 |some (.lst bs)=>match fs ρ with
  |some ds=>if ds.length=n then(M bs ds).map (·.1) else none
  |none=>none
 |_=>none
end
section
variable {X:Cx}{c:Ct}{e a b:Expr}{es rest:List Expr}{k:Kd}{pos p:Pos}{x:Str}{f:Addr}{fd:FuncData}{ps:List Str}{j n:Nat}
theorem qj {M:List D->List D->Option (D×List D)}{g:FE}{fs:FA}{ρ:aB}{d:D}(h:jM n M g fs ρ=some d): ∃bs ds bs',g ρ=some (.lst bs)/\fs ρ=some ds/\ds.length=n/\M bs ds=some (d,bs'):=by
 unfold jM at h;split at h
 ·split at h
  ·split at h
   ·rename_i e1 _ _ e2 e3
    rename_i bs _ ds;cases e4:M bs ds with
    |none=>rw[e4] at h;cases h
    |some r=>rw[e4] at h;cases h;exact⟨_,_,r.2,e1,e2,e3,e4⟩
   ·cases h
  ·cases h
 ·cases h
theorem uK {M:List D->List D->Option (D×List D)}{g:FE}{fs:FA}(F:FnOk X.prog X.w X.K X.mg X.base lR j f fd ps (og X.K k n M))(hr:Room j X.A)(hm:X.mg x=some (.ref f))(hk:W.keepIn X.K (.ref f)=true)(hb:Binds X.K fd ps [])
 (h1:DP X c .n e g) (ha:DA X c es fs) (hkb:k≠ .b:=by decide) (hs:starEach (e::es) X.env=(false,eval e X.env)::starEach es X.env:=by rfl) (hg:Gl X x:=by rfl) (hdb:(x==("__debug__":Str))=false:=by decide) (hpl:(backTo pos (starEach es X.env)).any (·.1)=false:=by rfl):
 DP X c k (.Call (.Name x p) (e::es) [] pos) (jM n M g fs):=λhid ρ=>
 PE.imp (kh F hr hg hm hk hb .nil (rR (X:=X)) (bi (h1 hid ρ) (A7 λhid'=>ha hid' ρ) hs) hdb hs hpl) λσ H Q hq_=>by
  obtain⟨sr,d,hd,q⟩:=hq_
  obtain⟨bs,ds,bs',e1,e2,e3,e4⟩:=qj hd
  refine⟨sr,_,e1,λv H1 s1 r1=>?_⟩
  obtain⟨l,xs,ds',z,rfl,n1,n2,n3⟩:=r1
  cases z
  have s1':=sr.hide s1 n1 n2
  refine⟨aV hid l,s1',ds,e2,λus H2 s2 r2=>?_⟩
  show og X.K k n M ((.ref l::us)++[]) H2 Q E0;rw[List.append_nil];refine⟨aV hid l,l,xs,bs,us,ds,rfl,(s1'.ext s2).trk,gq,s2 _ _ n2,n3.mono (ba s2),r2,e3,d,bs',e4,λv H' xs' kp hx hr'=>?_⟩
  have sH:Same H H':=λb o w=>kp b o (s2 _ _ (s1 _ _ w)) (bz w n1)
  cases k with
  |b=>exact absurd rfl hkb
  |s=>exact q v H' sH (hr'.1.mono (eK λb w=>bR w))
  |n=>
   obtain⟨p',ys,es',rfl,rfl,z1,z2,z3,z4⟩:=hr'
   refine q _ H' sH ⟨p',ys,es',rfl,rfl,s1.free (s2.free z1),z2,z3.mono (eK λb w=>?_)⟩
   unfold aV at w⊢;cases e:hid b with
   |true=>rfl
   |false=>rw[e] at w;simpa using Or.inr (by simpa using w)
end
inductive Out where
 |nx (ρ:aB)|rt (d:D) (ρ:aB)|bk (ρ:aB)|ct (ρ:aB)|no
abbrev FS:=aB->Out
def Cg(c:Ct)(k:Kd)(v:V):bF:=match k,v with
 | .n,.ref a=>aV c.hid₀ a
 |_,_=>c.hid₀
structure Ret(K:W.Frag)(c:Ct)(k:Kd)(ρ':aB)(H':Hp)(v:V)(d:D):Prop where
 kp: ∀b o,c.H₀ b=some o->c.mu b=false->H' b=some o
 val:match k with
  | .n=> ∃a xs ds,d=.lst ds/\v=.ref a/\c.H₀ a=none/\H' a=some (.lst xs)/\Reps K (vw H' (aV c.hid₀ a)) xs ds
  |_=>Rep K (vw H' c.hid₀) v d
 arg: ∀(i:Nat) (bs:List D),ρ'[i]? =some (Sl.arg bs)-> ∃a xs,c.mu a=true/\H' a=some (.lst xs)/\Reps K (vw H' (Cg c k v)) xs bs
def EndOk(K:W.Frag)(c:Ct)(k:Kd)(D:Ends)(W:Hp):Out->Prop
 | .nx ρ'=> ∀σ' H' hid',SR K c hid' ρ' σ' H'->Same W (vw H' hid')->D.nx σ' H'
 | .rt d ρ'=> ∀v H',Ret K c k ρ' H' v d->D.rt v H'
 | .bk ρ'=> ∀σ' H' hid',SR K c hid' ρ' σ' H'->Same W (vw H' hid')->D.bk σ' H'
 | .ct ρ'=> ∀σ' H' hid',SR K c hid' ρ' σ' H'->Same W (vw H' hid')->D.ct σ' H'
 | .no=>False
theorem EndOk.mono {K:W.Frag}{c:Ct}{k:Kd}{D:Ends}{W W':Hp}{o:Out}(h:EndOk K c k D W o)(s:Same W W'):EndOk K c k D W' o:=by
 cases o with
 |nx ρ=>exact λσ' H' hid' z w=>h σ' H' hid' z (s.trans w)
 |rt d ρ=>exact h
 |bk ρ=>exact λσ' H' hid' z w=>h σ' H' hid' z (s.trans w)
 |ct ρ=>exact λσ' H' hid' z w=>h σ' H' hid' z (s.trans w)
 |no=>exact h
def Da(K:W.Frag)(c:Ct)(k:Kd)(t:FS)(ρ:aB):TS:=λD σ H=> ∃hid,SR K c hid ρ σ H/\EndOk K c k D (vw H hid) (t ρ)
def DS(X:Cx)(c:Ct)(k:Kd)(st:Stmt)(t:FS):Prop:= ∀ρ,PS X st (Da X.K c k t ρ)
def oy(X:Cx)(c:Ct)(k:Kd)(st:List Stmt)(t:FS):Prop:= ∀ρ,PSs X st (Da X.K c k t ρ)
section
variable {X:Cx}{c:Ct}{k:Kd}{st:Stmt}{sts rest:List Stmt}{t u:FS}{e:Expr}{pos:Pos}
theorem sa {α:Type}{t:α->TS}(h: ∀z,PSs X sts (t z)):PSs X sts (λD σ H=> ∃z,t z D σ H):=λae s σ H D I ⟨z,q⟩=>h z ae s σ H D I q
theorem Ao {α:Type}{t:α->TT}(h: ∀z,PT X e (t z)):PT X e (λD σ H=> ∃z,t z D σ H):=λae s σ H D I ⟨z,q⟩=>h z ae s σ H D I q
def skip:FS:=λρ=>.nx ρ
def aA(t u:FS):FS:=λρ=>match t ρ with
 | .nx ρ'=>u ρ'
 | .rt d ρ'=>.rt d ρ'
 | .bk ρ'=>.bk ρ'
 | .ct ρ'=>.ct ρ'
 | .no=>.no
theorem bb:oy X c k [] skip:=λρ=>PSs.imp sD λD σ H ⟨hid,sr,q⟩=>q σ H hid sr (Same.refl _)
theorem az(h:DS X c k st t):oy X c k [st] t:=λρ=>sy (h ρ)
theorem aq(h1:DS X c k st t)(h2:oy X c k rest u):oy X c k (st::rest) (aA t u):=λρ=>
 PSs.imp (oz (h1 ρ) (sa λρ1=>h2 ρ1)) λD σ H hq_=>by
  obtain⟨hid,sr,q⟩:=hq_
  refine⟨hid,sr,?_⟩
  unfold aA at q;cases e:t ρ with
  |nx ρ1=>rw[e] at q;exact λσ1 H1 hid1 sr1 v1=>⟨ρ1,hid1,sr1,EndOk.mono q v1⟩
  |rt d ρ1=>rw[e] at q;exact q
  |bk ρ1=>rw[e] at q;exact q
  |ct ρ1=>rw[e] at q;exact q
  |no=>rw[e] at q;exact q
def cW(p:FT)(t u:FS):FS:=λρ=>match p ρ with
 |some true=>t ρ
 |some false=>u ρ
 |none=>.no
theorem cq {p:FT}{a b:List Stmt}(hp:DT X c e p)(ha:oy X c k a t)(hb:oy X c k b u):DS X c k (.If e a b pos) (cW p t u):=λρ=>
 PS.imp (yH (Ao λhid=>hp hid ρ) (ha ρ) (hb ρ)) λD σ H hq_=>by
  obtain⟨hid,sr,q⟩:=hq_
  cases e1:p ρ with
  |none=>unfold cW at q;rw[e1] at q;exact q.elim
  |some x=>
   refine⟨hid,sr,x,e1,λH1 s1=>?_⟩
   unfold cW at q;rw[e1] at q;cases x with
   |true=>exact mV ⟨hid,sr.ext s1,EndOk.mono q (ba s1)⟩
   |false=>exact nE ⟨hid,sr.ext s1,EndOk.mono q (ba s1)⟩
def aY(f:FE):FS:=λρ=>match f ρ with
 |some d=>.rt d ρ
 |none=>.no
theorem vy {K:W.Frag}{hid:bF}{ρ':aB}{σ:St}{H H':Hp}{v:V}{d:D}(hk:k≠ .b)(p:PostE K c hid k ρ' σ H H' v d)(h0: ∀b,c.hid₀ b=true->hid b=true):Ret K c k ρ' H' v d:=by
 cases k with
 |b=>exact absurd rfl hk
 |s=>
  obtain⟨_,sr,r⟩:=p
  refine⟨sr.kp,r.mono (eK sr.h0),λi bs e=>?_⟩
  obtain⟨a,xs,z1,z2,z3,z4,z5⟩:=sr.sl i _ e
  refine⟨a,xs,z4,z2,?_⟩
  show Reps K (vw H' c.hid₀) xs bs;exact z5.mono (eK sr.h0)
 |n=>
  obtain⟨_,a,xs,ds,rfl,rfl,_,h1,h2,h3,sr,h5,h6⟩:=p
  have le:Same (vw H' (aV hid a)) (vw H' (aV c.hid₀ a)):=eK λb q=>by
   unfold aV at q⊢;cases e:c.hid₀ b with
   |true=>rw[h0 b e];rfl
   |false=>rw[e] at q;rw[Bool.or_eq_true];right;simpa using q
  refine⟨sr.kp,⟨a,xs,ds,rfl,rfl,h2,h1,h5.mono le⟩,λi bs e=>?_⟩
  obtain⟨a',xs',z1,z2,z3,z4,z5⟩:=sr.sl i _ e
  exact⟨a',xs',z4,z2,z5.mono le⟩
theorem aP {f:FE}(he:DP X c k e f)(hk:k≠ .b:=by decide):DS X c k (.Return (some e) pos) (aY f):=λρ=>PS.imp (qL (lO λhid=>he hid ρ)) λD σ H hq_=>by
 obtain⟨hid,sr,q⟩:=hq_
 unfold aY at q;cases e1:f ρ with
 |none=>rw[e1] at q;exact q.elim
 |some z=>rw[e1] at q;exact⟨hid,sr,_,e1,λv H' s r=>q v H' (vy hk (sr.post s r hk) sr.h0)⟩
def qg:Option Sl->Option (List D)
 |some (.own ds)=>some ds
 |_=>none
def wj(i:Nat):FS:=λρ=>match qg ρ[i]? with
 |some ds=>.rt (.lst ds) ρ
 |none=>.no
theorem mi {o:Option Sl}{ds:List D}(h:qg o=some ds):o=some (.own ds):=by
 unfold qg at h;split at h
 ·cases h;rfl
 ·cases h
theorem xP(i:Nat){x:Str}{pos':Pos}(hN:X.N[i]? =some x:=by rfl)(hv:qw X.env.scope x:=by first|exact Or.inl rfl|exact Or.inr (Or.inl rfl)|exact Or.inr (Or.inr rfl))(hd:(x==("__debug__":Str))=false:=by decide)
 (hcd:(x==("__classdict__":Str))=false:=by decide):DS X c .n (.Return (some (.Name x pos')) pos) (wj i):=λρ=>PS.imp (qL (pv i hN hv hd hcd)) λD σ H hq_=>by
 obtain⟨hid,sr,q⟩:=hq_
 unfold wj at q;cases e0:qg ρ[i]? with
 |none=>rw[e0] at q;exact q.elim
 |some ds=>
  rw[e0] at q;have e:=mi e0
  obtain⟨a,xs,z1,z2,z3,z4,z5⟩:=sr.sl i _ e
  have le:Same (vw H hid) (vw H (aV c.hid₀ a)):=eK λb w=>by
   unfold aV at w;cases e:c.hid₀ b with
   |true=>exact sr.h0 b e
   |false=>
    rw[e] at w;have:b=a:=by simpa using w
    rw[this];exact z3
  refine⟨_,z1,q _ H ⟨sr.kp,⟨a,xs,ds,rfl,rfl,z4,z2,z5.mono le⟩,λj bs e'=>?_⟩⟩
  obtain⟨a',xs',w1,w2,w3,w4,w5⟩:=sr.sl j _ e'
  exact⟨a',xs',w4,w2,w5.mono le⟩
end
section
variable {K:W.Frag}{c:Ct}{hid:bF}{ρ:aB}{σ:St}{H H':Hp}{i:Nat}{a:Addr}{v:V}{d:D}
theorem SR.setV(h:SR K c hid ρ σ H)(r:Rep K (vw H hid) v d)(i:Nat):SR K c hid (ρ.set i (.v d)) (σ.set i (some v)) H:=by
 refine⟨h.tr,h.ht,h.h0,h.kp,h.t0,h.c0,h.m0,by simp[h.len],λj s q=>?_,λj l z n o1 o2 q1 q2=>?_⟩
 ·by_cases e:j=i
  ·subst e
   have lt:j<ρ.length:=by
    have:=(List.getElem?_eq_some_iff.mp q).1
    simpa using this
   rw[List.getElem?_set_self lt] at q;cases q
   exact⟨v,List.getElem?_set_self (by rw[h.len];exact lt),r⟩
  ·rw[List.getElem?_set_ne (Ne.symm e)] at q
   have w:=h.sl j s q
   have es:(σ.set i (some v))[j]? =σ[j]? :=List.getElem?_set_ne (Ne.symm e)
   cases s with
   |no=>trivial
   |v d=>obtain⟨x,h1,h2⟩:=w;exact⟨x,es.trans h1,h2⟩
   |own ds=>obtain⟨a,xs,h1,h2⟩:=w;exact⟨a,xs,es.trans h1,h2⟩
   |arg ds=>obtain⟨a,xs,h1,h2⟩:=w;exact⟨a,xs,es.trans h1,h2⟩
   |ob b=>obtain⟨a,h1,h2⟩:=w;exact⟨a,es.trans h1,h2⟩
 ·have nj: ∀m,Ow (ρ.set i (.v d))[m]? ->m≠i:=λm o e=>by
   subst e
   by_cases lt:m<ρ.length
   ·rw[List.getElem?_set_self lt] at o;exact o
   ·rw[List.getElem?_eq_none (by simpa using lt)] at o;exact o
  have e1:=nj j o1
  have e2:=nj l o2
  rw[List.getElem?_set_ne (Ne.symm e1)] at o1 q1;rw[List.getElem?_set_ne (Ne.symm e2)] at o2 q2;exact h.ap j l z n o1 o2 q1 q2
theorem SR.setO {xs:List V}{ds:List D}(h:SR K c hid ρ σ H)(ha:H a=some (.lst xs))(hh:hid a=true)(h0:c.H₀ a=none)(r:Reps K (vw H hid) xs ds)(no: ∀i:Nat,Ow ρ[i]? ->σ[i]? ≠some (some (.ref a)))(i:Nat):
 SR K c hid (ρ.set i (.own ds)) (σ.set i (some (.ref a))) H:=by
 refine⟨h.tr,h.ht,h.h0,h.kp,h.t0,h.c0,h.m0,by simp[h.len],λj s q=>?_,λj l z n o1 o2 q1 q2=>?_⟩
 ·by_cases e:j=i
  ·subst e
   have lt:j<ρ.length:=by
    have:=(List.getElem?_eq_some_iff.mp q).1
    simpa using this
   rw[List.getElem?_set_self lt] at q;cases q
   exact⟨a,xs,List.getElem?_set_self (by rw[h.len];exact lt),ha,hh,h0,r⟩
  ·rw[List.getElem?_set_ne (Ne.symm e)] at q
   have w:=h.sl j s q
   have es:(σ.set i (some (V.ref a)))[j]? =σ[j]? :=List.getElem?_set_ne (Ne.symm e)
   cases s with
   |no=>trivial
   |v d=>obtain⟨x,h1,h2⟩:=w;exact⟨x,es.trans h1,h2⟩
   |own ds=>obtain⟨a,xs,h1,h2⟩:=w;exact⟨a,xs,es.trans h1,h2⟩
   |arg ds=>obtain⟨a,xs,h1,h2⟩:=w;exact⟨a,xs,es.trans h1,h2⟩
   |ob b=>obtain⟨a,h1,h2⟩:=w;exact⟨a,es.trans h1,h2⟩
 ·by_cases e1:j=i
  ·subst e1
   have e2:l≠j:=λe=>n e.symm
   rw[List.getElem?_set_ne (Ne.symm e2)] at o2 q2
   by_cases lt:j<σ.length
   ·rw[List.getElem?_set_self lt] at q1;cases q1;exact no l o2 q2
   ·rw[List.getElem?_eq_none (by simpa using lt)] at q1;cases q1
  ·rw[List.getElem?_set_ne (Ne.symm e1)] at o1 q1
   by_cases e2:l=i
   ·subst e2
    by_cases lt:l<σ.length
    ·rw[List.getElem?_set_self lt] at q2;cases q2;exact no j o1 q1
    ·rw[List.getElem?_eq_none (by simpa using lt)] at q2;cases q2
   ·rw[List.getElem?_set_ne (Ne.symm e2)] at o2 q2
    exact h.ap j l z n o1 o2 q1 q2
end
section
variable {X:Cx}{c:Ct}{k:Kd}{st:Stmt}{sts rest:List Stmt}{t u:FS}{e:Expr}{es:List Expr}{pos pos':Pos}{x:Str}{i:Nat}
def fB(i:Nat)(f:GE):FS:=λρ=>match f ρ with
 |some (d,ρ')=>.nx (ρ'.set i (.v d))
 |none=>.no
def aN(i:Nat)(f:FE):FS:=λρ=>match f ρ with
 |some d=>.nx (ρ.set i (.v d))
 |none=>.no
def CN:D->Option (List D)
 | .lst ds=>some ds
 |_=>none
def qJ(i:Nat)(f:GE):FS:=λρ=>match f ρ with
 |some (d,ρ')=>(match CN d with
  |some ds=>.nx (ρ'.set i (.own ds))
  |none=>.no)
 |none=>.no
def dg(i:Nat)(f:FE):FS:=λρ=>match f ρ with
 |some d=>(match CN d with
  |some ds=>.nx (ρ.set i (.own ds))
  |none=>.no)
 |none=>.no
theorem il(i:Nat){f:GE}(hn:X.N.Nodup)(he:DE X c .s e f)(hi:X.N[i]? =some x:=by rfl)(hx:wu X.env.scope x:=by first|exact Or.inl rfl|exact Or.inr rfl)(hs:swapsWith e (some (.Name x pos')) pos.line X.env=pure false:=by rfl)
 (hf:X.fn x=true\/X.env.scope.names.lookup x=some .local:=by first|exact .inl rfl|exact .inr rfl|assumption):DS X c k (.Assign [.Name x pos'] e pos) (fB i f):=λρ=>PS.imp (nS hn hi hx (lO λhid=>he hid ρ) hs hf) λD σ H hq_=>by
 obtain⟨hid,sr,q⟩:=hq_
 unfold fB at q;cases e1:f ρ with
 |none=>rw[e1] at q;exact q.elim
 |some z=>
  rw[e1] at q;exact⟨hid,sr,z.1,z.2,e1,λv H' ⟨kp,s',r⟩=>q _ H' hid (s'.setV r i) kp.vw⟩
theorem bv(i:Nat){f:FE}(hn:X.N.Nodup)(he:DP X c .s e f)(hi:X.N[i]? =some x:=by rfl)(hx:wu X.env.scope x:=by first|exact Or.inl rfl|exact Or.inr rfl)(hs:swapsWith e (some (.Name x pos')) pos.line X.env=pure false:=by rfl)
 (hf:X.fn x=true\/X.env.scope.names.lookup x=some .local:=by first|exact .inl rfl|exact .inr rfl|assumption):DS X c k (.Assign [.Name x pos'] e pos) (aN i f):=λρ=>PS.imp (nS hn hi hx (lO λhid=>he hid ρ) hs hf) λD σ H hq_=>by
 obtain⟨hid,sr,q⟩:=hq_
 unfold aN at q;cases e1:f ρ with
 |none=>rw[e1] at q;exact q.elim
 |some z=>
  rw[e1] at q;exact⟨hid,sr,z,e1,λv H' s' r=>q _ H' hid ((sr.ext s').setV r i) (ba s')⟩
theorem zX {K:W.Frag}{hid:bF}{ρ':aB}{σ:St}{H H':Hp}{v:V}{d:D}{D:Ends}(p:PostE K c hid .n ρ' σ H H' v d)(q:EndOk K c k D (vw H hid) (match CN d with
 |some ds=>.nx (ρ'.set i (.own ds))
 |none=>.no)):D.nx (σ.set i (some v)) H':=by
 obtain⟨kp,a,xs,ds,rfl,rfl,hn,h1,h2,h3,h4,h5,h6⟩:=p
 refine q _ H' (aV hid a) (h4.setO h1 gq h2 h5 h6 i) λb o w=>?_
 obtain⟨w1,w2⟩:=vw_some.mp w
 refine vw_some.mpr ⟨?_,kp b o w2 w1⟩
 unfold aV;rw[w1];have:b≠a:=bz w2 hn
 simp[this]
theorem xX(i:Nat){f:GE}(hn:X.N.Nodup)(he:DE X c .n e f)(hi:X.N[i]? =some x:=by rfl)(hx:wu X.env.scope x:=by first|exact Or.inl rfl|exact Or.inr rfl)(hs:swapsWith e (some (.Name x pos')) pos.line X.env=pure false:=by rfl)
 (hf:X.fn x=true\/X.env.scope.names.lookup x=some .local:=by first|exact .inl rfl|exact .inr rfl|assumption):DS X c k (.Assign [.Name x pos'] e pos) (qJ i f):=λρ=>PS.imp (nS hn hi hx (lO λhid=>he hid ρ) hs hf) λD σ H hq_=>by
 obtain⟨hid,sr,q⟩:=hq_
 unfold qJ at q;cases e1:f ρ with
 |none=>rw[e1] at q;exact q.elim
 |some z=>
  rw[e1] at q;exact⟨hid,sr,z.1,z.2,e1,λv H' p=>zX p q⟩
theorem fQ(i:Nat){f:FE}(hn:X.N.Nodup)(he:DP X c .n e f)(hi:X.N[i]? =some x:=by rfl)(hx:wu X.env.scope x:=by first|exact Or.inl rfl|exact Or.inr rfl)(hs:swapsWith e (some (.Name x pos')) pos.line X.env=pure false:=by rfl)
 (hf:X.fn x=true\/X.env.scope.names.lookup x=some .local:=by first|exact .inl rfl|exact .inr rfl|assumption):DS X c k (.Assign [.Name x pos'] e pos) (dg i f):=λρ=>PS.imp (nS hn hi hx (lO λhid=>he hid ρ) hs hf) λD σ H hq_=>by
 obtain⟨hid,sr,q⟩:=hq_
 unfold dg at q;cases e1:f ρ with
 |none=>rw[e1] at q;exact q.elim
 |some z=>
  rw[e1] at q;exact⟨hid,sr,z,e1,λv H' s r=>zX (sr.post s r (by decide)) q⟩
def qR(i:Nat)(ρ:aB):aB:=match qg ρ[i]? with
 |some ds=>ρ.set i (.v (.lst ds))
 |none=>ρ
theorem SR.freeze {K:W.Frag}{hid:bF}{ρ:aB}{σ:St}{H:Hp}(h:SR K c hid ρ σ H)(i:Nat): ∃hid',SR K c hid' (qR i ρ) σ H/\Same (vw H hid) (vw H hid'):=by
 unfold qR;cases e0:qg ρ[i]? with
 |none=>exact⟨hid,h,Same.refl _⟩
 |some ds=>
  have e:=mi e0
  obtain⟨a,xs,z1,z2,z3,z4,z5⟩:=h.sl i _ e
  have sm:Same (vw H hid) (vw H (lg hid a)):=eK λb w=>by unfold lg at w;rw[Bool.and_eq_true] at w;exact w.1
  have un: ∀b,b≠a->hid b=true->lg hid a b=true:=λb n w=>by unfold lg;rw[w];simp[n]
  have na:c.hid₀ a=false:=by
   cases q:c.hid₀ a with
   |false=>rfl
   |true=>obtain⟨o,w⟩:=h.c0 a q;rw[z4] at w;cases w
  refine⟨lg hid a,⟨λb w=>h.tr b (by unfold lg at w;rw[Bool.and_eq_true] at w;exact w.1),λb xs w=>h.ht b xs (by unfold lg at w;rw[Bool.and_eq_true] at w;exact w.1),λb w=>un b (λe=>by subst e;rw[na] at w;cases w) (h.h0 b w),h.kp,h.t0,h.c0,h.m0,by simp[h.len],λj s q=>?_,λj l z n o1 o2 q1 q2=>?_⟩,sm⟩
  ·by_cases ej:j=i
   ·subst ej
    rw[List.getElem?_set_self (List.getElem?_eq_some_iff.mp e).1] at q;cases q
    exact⟨_,z1,.lst (vw_some.mpr ⟨by unfold lg;simp,z2⟩) (z5.mono sm)⟩
   ·rw[List.getElem?_set_ne (Ne.symm ej)] at q
    have w:=h.sl j s q
    cases s with
    |no=>trivial
    |v d=>obtain⟨x,h1,h2⟩:=w;exact⟨x,h1,h2.mono sm⟩
    |own ds=>
     obtain⟨a',xs,h1,h2,h3,h4,h5⟩:=w
     exact⟨a',xs,h1,h2,un a' (λe'=>by subst e';exact h.ap j i _ ej (by rw[q];trivial) (by rw[e];trivial) h1 z1) h3,h4,h5.mono sm⟩
    |arg ds=>
     obtain⟨a',xs,h1,h2,h3,h4,h5⟩:=w
     exact⟨a',xs,h1,h2,un a' (λe'=>by subst e';exact h.ap j i _ ej (by rw[q];trivial) (by rw[e];trivial) h1 z1) h3,h4,h5.mono sm⟩
    |ob b=>
     obtain⟨a',h1,h2⟩:=w
     exact⟨a',h1,h2.mono (λ_ _ _ _ q=>q) sm λow x hx=>un x (hx.ne (λe'=>by subst e';exact h.ap j i _ ej (by rw[q];exact ow) (by rw[e];trivial) h1 z1) z2)⟩
  ·have nj: ∀m,Ow (ρ.set i (.v (.lst ds)))[m]? ->m≠i:=λm o e'=>by
    subst e'
    by_cases lt:m<ρ.length
    ·rw[List.getElem?_set_self lt] at o;exact o
    ·rw[List.getElem?_eq_none (by simpa using lt)] at o;exact o
   have e1:=nj j o1
   have e2:=nj l o2
   rw[List.getElem?_set_ne (Ne.symm e1)] at o1;rw[List.getElem?_set_ne (Ne.symm e2)] at o2;exact h.ap j l z n o1 o2 q1 q2
theorem we(i:Nat)(h:DS X c k st t):DS X c k st (λρ=>t (qR i ρ)):=λρ=>PS.imp (h (qR i ρ)) λD σ H hq_=>by
 obtain⟨hid,sr,q⟩:=hq_
 obtain⟨hid',sr',sm⟩:=sr.freeze i
 exact⟨hid',sr',EndOk.mono q sm⟩
def dE(f:GE):FS:=λρ=>match f ρ with
 |some (_,ρ')=>.nx ρ'
 |none=>.no
theorem h9 {f:GE}(he:DE X c .s e f)(hs:swapsWith e none pos.line X.env=pure false:=by rfl):DS X c k (.Expr e pos) (dE f):=λρ=>PS.imp (wM (lO λhid=>he hid ρ) hs) λD σ H hq_=>by
 obtain⟨hid,sr,q⟩:=hq_
 unfold dE at q;cases e1:f ρ with
 |none=>rw[e1] at q;exact q.elim
 |some z=>
  rw[e1] at q;exact⟨hid,sr,z.1,z.2,e1,λv H' ⟨kp,s',_⟩=>q _ H' hid s' kp.vw⟩
def Av(K:W.Frag)(r:V->List V->Hp->VK->Prop)(n:Nat)(M:List D->List D->Option (D×List D)):Prop:= ∀(H:Hp) (hid:bF) (a:Addr) (xs us:List V) (bs ds bs':List D) (d:D) (Q:VK),H a=some (.lst xs)->hid a=true->Reps K (vw H hid) xs bs->Reps K (vw H hid) us ds->
 ds.length=n->M bs ds=some (d,bs')->(∀w xs',Reps K (vw H hid) xs' bs'->Rep K (vw H hid) w d->Q w (cF H a (.lst xs')))->r (.ref a) us H Q
theorem yu {K:W.Frag}{r:V->List V->Hp->VK->Prop}{n:Nat}{M:List D->List D->Option (D×List D)}(hM:Av K r n M){hid:bF}{ρ1:aB}{σ:St}{H H1:Hp}{a:Addr}{us:List V}{bs ds bs':List D}{d:D}{Q:VK}(k1:Kept hid H H1)(s1:SR K c hid ρ1 σ H1)(e2:gw i ρ1=some bs)
 (ha:σ[i]? =some (some (.ref a))) (r1:Reps K (vw H1 hid) us ds) (hn:ds.length=n) (hm:M bs ds=some (d,bs')) (q: ∀v H',PostE K c hid .s (fy i bs' ρ1) σ H H' v d->Q v H'):r (.ref a) us H1 Q:=by
 obtain⟨a',xs,b1,b2,b3,b4,b5⟩:=s1.held e2
 rw[ha] at b1;cases b1;refine hM H1 hid a xs us bs ds bs' d Q b2 b3 b4 r1 hn hm λw xs' rx rw'=>q w _ ⟨k1.trans λb o z hb=>?_,?_,?_⟩
 ·rw[aM (λe=>by subst e;rw[b3] at hb;cases hb)];exact z
 ·exact s1.put e2 ha (λb o z hb=>by rw[aM hb];exact z) bf (by rw[gy b3];exact rx)
 ·rw[gy b3];exact rw'
variable {n:Nat}{M:List D->List D->Option (D×List D)}{fs:GA}{r:V->List V->Hp->VK->Prop}{y name:Str}{py apos:Pos}{id:String}
theorem ko(i:Nat)(hM:Av X.K r n M)(hm:Bz X id r)(slot:Slot "list" name id)(hty:typeOf (.builtin id)=pure (.type "method_descriptor"))(ha:DG X c (e::es) fs)
 (hN:X.N[i]? =some y:=by rfl) (hv:qw X.env.scope y:=by first|exact Or.inl rfl|exact Or.inr (Or.inl rfl)|exact Or.inr (Or.inr rfl)) (hd:(y==("__debug__":Str))=false:=by decide) (hcd:(y==("__classdict__":Str))=false:=by decide)
 (hbase:attributeBase (.Name y py) name X.env (eval (.Name y py) X.env)=eval (.Name y py) X.env:=by rfl)
 (hfew:((backTo pos (starEach (e::es) X.env)).all (λx=> !x.1)&&(backToKw pos (keywordEach [] X.env)).all (λx=>x.1.isSome)
   &&decide ((e::es).length+([]:List Keyword).length+(if([]:List Keyword).isEmpty then 0 else 1)<30))=true:=by rfl)
 (hline:(apos.endLine==pos.line)=true:=by rfl) (hs:starEach (e::es) X.env=(false,eval e X.env)::starEach es X.env:=by rfl) (hplain:(backTo pos (starEach es X.env)).any (·.1)=false:=by rfl):
 DE X c .s (.Call (.Attribute (.Name y py) name apos) (e::es) [] pos) (aG i n M fs):=λhid ρ=>
 PE.imp (mB PySem.F.plainAttrs_list slot hty hm (pv i hN hv hd hcd) (ha hid ρ) hbase hfew hline hs hplain) λσ H Q hq_=>by
  obtain⟨sr,d,ρ',hd',q⟩:=hq_
  obtain⟨bs0,ds,ρ1,bs,bs',e0,e1,e2,e3,e4,rfl⟩:=iL hd'
  obtain⟨a,xs0,a1,a2,a3,_,_⟩:=sr.held e0
  exact⟨.ref a,a1,.inl ⟨rfl,_,SqL.of a2⟩,sr,ds,ρ1,e1,λus H1 k1 s1 r1=>yu hM k1 s1 e2 a1 r1 e3 e4 q⟩
theorem kU(i:Nat)(hM:Av X.K r 0 M)(hm:Bz X id r)(slot:Slot "list" name id)(hty:typeOf (.builtin id)=pure (.type "method_descriptor"))
 (hN:X.N[i]? =some y:=by rfl) (hv:qw X.env.scope y:=by first|exact Or.inl rfl|exact Or.inr (Or.inl rfl)|exact Or.inr (Or.inr rfl)) (hd:(y==("__debug__":Str))=false:=by decide) (hcd:(y==("__classdict__":Str))=false:=by decide)
 (hbase:attributeBase (.Name y py) name X.env (eval (.Name y py) X.env)=eval (.Name y py) X.env:=by rfl) (hline:(apos.endLine==pos.line)=true:=by rfl):
 DE X c .s (.Call (.Attribute (.Name y py) name apos) [] [] pos) (aG i 0 M (bI af)):=λhid ρ=>
 PE.imp (zy PySem.F.plainAttrs_list slot hty hm (pv i hN hv hd hcd) hbase hline) λσ H Q hq_=>by
  obtain⟨sr,d,ρ',hd',q⟩:=hq_
  obtain⟨bs0,ds,ρ1,bs,bs',e0,e1,e2,e3,e4,rfl⟩:=iL hd'
  obtain⟨e5,rfl⟩:=lb e1
  cases e5
  obtain⟨a,xs0,a1,a2,a3,_,_⟩:=sr.held e0
  exact⟨.ref a,a1,.inl ⟨rfl,_,SqL.of a2⟩,yu hM (.of (Same.refl _)) sr e2 a1 .nil e3 e4 q⟩
end
section
variable {K:W.Frag}
def iM:List D->List D->Option (D×List D):=λbs ds=>match ds with
 | [d]=>if bs.length<sizeLine then some (.non,bs++[d]) else none
 |_=>none
theorem jo:Av K rT 1 iM:=by
 intro H hid a xs us bs ds bs' d Q h1 h2 h3 h4 h5 h6 q;unfold iM at h6;split at h6
 ·split at h6
  ·cases h6
   cases h4 with
   |cons r t=>
    cases t
    exact⟨a,xs,_,rfl,rfl,h1,by rw[h3.length];assumption,q _ _ (h3.append (.cons r .nil)) .non⟩
  ·cases h6
 ·cases h6
def lU:List D->List D->Option (D×List D):=λbs ds=>match ds with
 | [.int i]=>match (if bs.length<=sizeLine then oj bs.length i else none) with
   |some j=>(bs[j]?).map λd=>(d,bs.eraseIdx j)
   |none=>none
 |_=>none
theorem zJ:Av K uR 1 lU:=by
 intro H hid a xs us bs ds bs' d Q h1 h2 h3 h4 h5 h6 q;unfold lU at h6;split at h6
 ·split at h6
  ·rename_i i _ j e
   cases e1:bs[j]? with
   |none=>rw[e1] at h6;cases h6
   |some z=>
    rw[e1] at h6;cases h6;cases h4 with
    |cons r t=>
     cases t
     cases r
     obtain⟨x,g1,g2⟩:=h3.get e1
     split at e
     ·obtain⟨w1,w2,w3,w4⟩:=nK e
      have hl:=h3.length
      have l63:=g9
      refine⟨a,xs,i,j,x,rfl,rfl,h1,by omega,by omega,by rw[hl];exact w1,g1,q _ _ (h3.eraseIdx j) g2⟩
     ·cases e
  ·cases h6
 ·cases h6
end
abbrev FG:=D->aB->Option aB
abbrev qq:=List D->aB->Option aB
def OwK(ρ ρ':aB)(σ σ':St):Prop:= ∀i:Nat,Ow ρ'[i]? ->Ow ρ[i]? /\σ'[i]? =σ[i]?
theorem OwK.trans {ρ ρ1 ρ2:aB}{σ σ1 σ2:St}(a:OwK ρ ρ1 σ σ1)(b:OwK ρ1 ρ2 σ1 σ2):OwK ρ ρ2 σ σ2:=λi o=>⟨(a i (b i o).1).1,(b i o).2.trans (a i (b i o).1).2⟩
def Cd {ι:Type}(IR:Hp->V->ι->Prop)(K:W.Frag)(c:Ct)(hid:bF)(g:ι->aB->Option aB)(ρ:aB)(d:ι):TG:=λv σ H Q=>SR K c hid ρ σ H/\IR (vw H hid) v d/\ ∃ρ',g d ρ=some ρ'/\ ∀σ',SR K c hid ρ' σ' H->OwK ρ ρ' σ σ'->Q σ' H
def BP {ι:Type}(IR:Hp->V->ι->Prop)(X:Cx)(c:Ct)(tg:Expr)(g:ι->aB->Option aB):Prop:= ∀hid ρ d,PG X tg (Cd IR X.K c hid g ρ d)
abbrev uF(X:Cx)(c:Ct)(tg:Expr)(g:FG):Prop:=BP (Rep X.K) X c tg g
def BY(K:W.Frag)(c:Ct)(hid:bF)(g:qq)(ρ:aB)(d:List D):vd:=λv σ H Q=>SR K c hid ρ σ H/\Reps K (vw H hid) v d/\ ∃ρ',g d ρ=some ρ'/\ ∀σ',SR K c hid ρ' σ' H->OwK ρ ρ' σ σ'->Q σ' H
def BM(X:Cx)(c:Ct)(tg:List Expr)(g:qq):Prop:= ∀hid ρ d,PGs X tg (BY X.K c hid g ρ d)
theorem PG.imp {X:Cx}{e:Expr}{t t':TG}(h:PG X e t)(i: ∀v σ H Q,t' v σ H Q->t v σ H Q):PG X e t':=λae s σ H v u Q I r q=>h ae s σ H v u Q I r (i v σ H Q q)
theorem PGs.imp {X:Cx}{e:List Expr}{t t':vd}(h:PGs X e t)(i: ∀v σ H Q,t' v σ H Q->t v σ H Q):PGs X e t':=λae s σ H v u Q I r q=>h ae s σ H v u Q I r (i v σ H Q q)
theorem vz {X:Cx}{e:Expr}{α:Type}{t:α->TG}(h: ∀z,PG X e (t z)):PG X e (λv σ H Q=> ∃z,t z v σ H Q):=λae s σ H v u Q I r ⟨z,q⟩=>h z ae s σ H v u Q I r q
theorem rG {X:Cx}{e:List Expr}{α:Type}{t:α->vd}(h: ∀z,PGs X e (t z)):PGs X e (λv σ H Q=> ∃z,t z v σ H Q):=λae s σ H v u Q I r ⟨z,q⟩=>h z ae s σ H v u Q I r q
section
variable {X:Cx}{c:Ct}{k:Kd}{st:Stmt}{sts body:List Stmt}{t u:FS}{e tg iter:Expr}{es:List Expr}{pos pos':Pos}{x:Str}{i:Nat}
def gN(i:Nat):FG:=λd ρ=>some (ρ.set i (.v d))
theorem aO(i:Nat)(hn:X.N.Nodup)(hi:X.N[i]? =some x:=by rfl)(hx:wu X.env.scope x:=by first|exact Or.inl rfl|exact Or.inr rfl)(hf:X.fn x=true\/X.env.scope.names.lookup x=some .local:=by first|exact .inl rfl|exact .inr rfl|assumption):
 uF X c (.Name x pos) (gN i):=λhid ρ d=>PG.imp (yi (i:=i) hn hi hx hf) λv σ H Q hq_=>by
 obtain⟨sr,r,ρ',e,q⟩:=hq_
 cases e
 refine q _ (sr.setV r i) λj o=>?_
 have ne:j≠i:=λe=>by
  subst e
  by_cases lt:j<ρ.length
  ·rw[List.getElem?_set_self lt] at o;exact o
  ·rw[List.getElem?_eq_none (by simpa using lt)] at o;exact o
 rw[List.getElem?_set_ne (Ne.symm ne)] at o⊢;exact⟨o,rfl⟩
def qa:qq:=λds ρ=>match ds with
 | []=>some ρ
 |_=>none
def lw(g:FG)(gs:qq):qq:=λds ρ=>match ds with
 | []=>none
 |d::r=>(g d ρ).bind λρ'=>gs r ρ'
theorem rS:BM X c [] qa:=λhid ρ d=>PGs.imp sE λv σ H Q hq_=>by
 obtain⟨sr,r,ρ',e,q⟩:=hq_
 unfold qa at e;split at e
 ·cases e;cases r;exact⟨rfl,q σ sr λi o=>⟨o,rfl⟩⟩
 ·cases e
theorem i8 {g:FG}{gs:qq}(h1:uF X c e g)(h2:BM X c es gs)(hs:(assignEach (e::es) X.env).map (·.2)=assign e X.env::(assignEach es X.env).map (·.2):=by rfl):BM X c (e::es) (lw g gs):=λhid ρ d=>
 PGs.imp (pT (vz λd=>h1 hid ρ d) (rG λz:aB×List D=>h2 hid z.1 z.2) hs) λv σ H Q hq_=>by
  obtain⟨sr,r,ρ',e,q⟩:=hq_
  cases d with
  |nil=>cases e
  |cons d1 ds=>
   cases r with
   |cons r1 r2=>
    have e:(g d1 ρ).bind (λρ'=>gs ds ρ')=some ρ':=e
    cases e1:g d1 ρ with
    |none=>rw[e1] at e;cases e
    |some ρ1=>
     rw[e1] at e;exact⟨_,_,rfl,d1,sr,r1,ρ1,e1,λσ1 s1 o1=>⟨(ρ1,ds),s1,r2,ρ',e,λσ2 s2 o2=>q σ2 s2 (o1.trans o2)⟩⟩
def gT(n:Nat)(gs:qq):FG:=λd ρ=>match d with
 | .tup ds=>if ds.length=n then gs ds ρ else none
 |_=>none
theorem sF {gs:qq}{kk n:Nat}(hc:X.calm=true)(h:BM X c es gs)(hn:(assignEach es X.env).length=n:=by rfl)(hst:(assignEach es X.env).findIdx? (·.1)=none:=by rfl):uF X c (.Tuple es kk pos) (gT n gs):=λhid ρ d=>
 PG.imp (vk hc (rG λds=>h hid ρ ds) hn hst) λv σ H Q hq_=>by
  obtain⟨sr,r,ρ',e,q⟩:=hq_
  unfold gT at e;split at e
  ·split at e
   ·cases r with
    |tup h1 h2=>exact⟨_,_,rfl,Same.seqT (cX _ _) h1,by rw[h2.length];assumption,_,sr,h2,ρ',e,q⟩
   ·cases e
  ·cases e
def Ab:Option aB->Out
 |some ρ=>.nx ρ
 |none=>.no
def fG(g:FG)(f:GE):FS:=λρ=>match f ρ with
 |some z=>Ab (g z.1 z.2)
 |none=>.no
theorem zL {g:FG}{f:GE}(he:DE X c .s e f)(hg:uF X c tg g)(hs:swapsWithSole [tg] e pos.line X.env=pure false:=by rfl)(hw:swappedStores [tg] e X.env=pure none:=by rfl)
 (h1:(assignEach [tg] X.env).map (·.2)=[assign tg X.env]:=by rfl):DS X c k (.Assign [tg] e pos) (fG g f):=λρ=>
 PS.imp (wb (lO λhid=>he hid ρ) (vz λz:bF×aB×D=>hg z.1 z.2.1 z.2.2) hs hw h1) λD σ H hq_=>by
  obtain⟨hid,sr,q⟩:=hq_
  unfold fG at q;cases e1:f ρ with
  |none=>rw[e1] at q;exact q.elim
  |some z=>
   rw[e1] at q;cases e2:g z.1 z.2 with
   |none=>dsimp only at q;rw[e2] at q;exact q.elim
   |some ρ2=>
    dsimp only at q;rw[e2] at q;exact⟨hid,sr,z.1,z.2,e1,λv H' ⟨kp,s',r⟩=>⟨(hid,z.2,z.1),s',r,ρ2,e2,λσ' s2 _=>q σ' H' hid s2 kp.vw⟩⟩
def ci(i:Nat)(fi:FE)(d:D)(ρ:aB):Option aB:=match gw i ρ with
 |some bs=>(match fi ρ with
  |some (.int j)=>(match oj bs.length j with
   |some m=>some (fy i (bs.set m d) ρ)
   |none=>none)
  |_=>none)
 |none=>none
theorem qH {fi:FE}{d:D}{ρ ρ':aB}(h:ci i fi d ρ=some ρ'): ∃bs j m,gw i ρ=some bs/\fi ρ=some (.int j)/\oj bs.length j=some m/\ρ'=fy i (bs.set m d) ρ:=by
 unfold ci at h;split at h
 ·split at h
  ·split at h
   ·cases h;exact⟨_,_,_, ‹_›, ‹_›, ‹_›,rfl⟩
   ·cases h
  ·cases h
 ·cases h
def Cz(K:W.Frag)(c:Ct)(hid:bF)(g:FG)(ρ:aB)(d:D):TG:=λv σ H Q=>SR K c hid ρ σ H/\Rep K (vw H hid) v d/\ ∃ρ',g d ρ=some ρ'/\ ∀H',Kept hid H H'->SR K c hid ρ' σ H'->Q σ H'
def BC(X:Cx)(c:Ct)(tg:Expr)(g:FG):Prop:= ∀hid ρ d,PG X tg (Cz X.K c hid g ρ d)
theorem gB(i:Nat){y:Str}{py:Pos}{ix:Expr}{fi:FE}{k1:Kd}(hi:DP X c k1 ix fi)(hN:X.N[i]? =some y:=by rfl)(hv:qw X.env.scope y:=by first|exact Or.inl rfl|exact Or.inr (Or.inl rfl)|exact Or.inr (Or.inr rfl))(hd:(y==("__debug__":Str))=false:=by decide)(hcd:(y==("__classdict__":Str))=false:=by decide)
 (ha: ∀v,assign (.Subscript (.Name y py) ix pos) X.env v=(do
   let ov <-holding [v] (eval (.Name y py) X.env)
   let iv <-holding [v,ov] (eval ix X.env)
   standAt pos
   holding [v,ov,iv] (setItem ov iv v)
   release [v,ov,iv] []):=by intro _;rfl):BC X c (.Subscript (.Name y py) ix pos) (ci i fi):=λhid ρ d=>
 PG.imp (yO (pv i hN hv hd hcd) (hi hid ρ) v4 ha) λv σ H Q hq_=>by
  obtain⟨sr,r,ρ',e,q⟩:=hq_
  obtain⟨bs,j,m,e1,e2,e3,rfl⟩:=qH e
  obtain⟨a,xs,a1,a2,a3,a4,a5⟩:=sr.held e1
  refine⟨.ref a,a1,sr,_,e2,λw H1 s1 r1=>?_⟩
  have b1:=(RK.b k1 r1 λa n=>sr.fresh n).int
  cases b1
  have a4':=a4.mono (ba (hid:=hid) s1)
  refine⟨a,xs,j,m,rfl,rfl,s1 _ _ a2,by rw[a4.length];exact e3,q _ (λb o z hb=>?_) ?_⟩
  ·rw[aM (λe=>by subst e;rw[a3] at hb;cases hb)];exact s1 _ _ z
  ·exact(sr.ext s1).put e1 a1 (λb o z hb=>by rw[aM hb];exact z) bf (by rw[gy a3];exact Reps.set (r.mono (ba s1)) m a4')
theorem kK {g:FG}{f:GE}(he:DE X c .s e f)(hg:BC X c tg g)(hs:swapsWithSole [tg] e pos.line X.env=pure false:=by rfl)(hw:swappedStores [tg] e X.env=pure none:=by rfl)
 (h1:(assignEach [tg] X.env).map (·.2)=[assign tg X.env]:=by rfl):DS X c k (.Assign [tg] e pos) (fG g f):=λρ=>
 PS.imp (wb (lO λhid=>he hid ρ) (vz λz:bF×aB×D=>hg z.1 z.2.1 z.2.2) hs hw h1) λD σ H hq_=>by
  obtain⟨hid,sr,q⟩:=hq_
  unfold fG at q;cases e1:f ρ with
  |none=>rw[e1] at q;exact q.elim
  |some z=>
   rw[e1] at q;cases e2:g z.1 z.2 with
   |none=>dsimp only at q;rw[e2] at q;exact q.elim
   |some ρ2=>
    dsimp only at q;rw[e2] at q;exact⟨hid,sr,z.1,z.2,e1,λv H' ⟨kp,s',r⟩=>⟨(hid,z.2,z.1),s',r,ρ2,e2,λH2 k2 s2=>q σ H2 hid s2 (kp.trans k2).vw⟩⟩
def Cr(K:W.Frag)(c:Ct)(hid:bF)(g:qq)(ρ:aB)(d:List D):vd:=λv σ H Q=>SR K c hid ρ σ H/\Reps K (vw H hid) v d/\ ∃ρ',g d ρ=some ρ'/\ ∀H',Kept hid H H'->SR K c hid ρ' σ H'->Q σ H'
def BO(X:Cx)(c:Ct)(tg:List Expr)(g:qq):Prop:= ∀hid ρ d,PGs X tg (Cr X.K c hid g ρ d)
theorem sM:BO X c [] qa:=λhid ρ d=>PGs.imp sE λv σ H Q hq_=>by
 obtain⟨sr,r,ρ',e,q⟩:=hq_
 unfold qa at e;split at e
 ·cases e;cases r;exact⟨rfl,q H (.of (Same.refl _)) sr⟩
 ·cases e
theorem ja {g:FG}{gs:qq}(h1:BC X c e g)(h2:BO X c es gs)(hs:(assignEach (e::es) X.env).map (·.2)=assign e X.env::(assignEach es X.env).map (·.2):=by rfl):BO X c (e::es) (lw g gs):=λhid ρ d=>
 PGs.imp (pT (vz λd=>h1 hid ρ d) (rG λz:aB×List D=>h2 hid z.1 z.2) hs) λv σ H Q hq_=>by
  obtain⟨sr,r,ρ',e,q⟩:=hq_
  cases d with
  |nil=>cases e
  |cons d1 ds=>
   cases r with
   |cons r1 r2=>
    have e:(g d1 ρ).bind (λρ'=>gs ds ρ')=some ρ':=e
    cases e1:g d1 ρ with
    |none=>rw[e1] at e;cases e
    |some ρ1=>
     rw[e1] at e;exact⟨_,_,rfl,d1,sr,r1,ρ1,e1,λH1 k1 s1=>⟨(ρ1,ds),s1,r2.mono k1.vw,ρ',e,λH2 k2 s2=>q H2 (k1.trans k2) s2⟩⟩
theorem rP {gs:qq}{kk n:Nat}(hc:X.calm=true)(h:BO X c es gs)(hn:(assignEach es X.env).length=n:=by rfl)(hst:(assignEach es X.env).findIdx? (·.1)=none:=by rfl):BC X c (.Tuple es kk pos) (gT n gs):=λhid ρ d=>
 PG.imp (vk hc (rG λds=>h hid ρ ds) hn hst) λv σ H Q hq_=>by
  obtain⟨sr,r,ρ',e,q⟩:=hq_
  unfold gT at e;split at e
  ·split at e
   ·cases r with
    |tup h1 h2=>exact⟨_,_,rfl,Same.seqT (cX _ _) h1,by rw[h2.length];assumption,_,sr,h2,ρ',e,q⟩
   ·cases e
  ·cases e
def ItOk(K:W.Frag)(W:Hp)(J:It)(ds:List D):Prop:=
 (∀(i:Nat) (d:D) (H:Hp),ds[i]? =some d->Same W H->J.go i H/\ ∀x H',J.yld i H x H'->Same H H'/\ ∀hid:bF,(∀b,hid b=true-> ∃o,H b=some o)->Same W (vw H hid)->Rep K (vw H' hid) x d)/\ ∀H,Same W H->J.stop ds.length H
def Dt(K:W.Frag)(c:Ct)(hid:bF)(f:GA)(ρ:aB):TI:=λσ H R=>SR K c hid ρ σ H/\ ∃ds ρ',f ρ=some (ds,ρ')/\ ∀J H',Kept hid H H'->SR K c hid ρ' σ H'->ItOk K (vw H' hid) J ds->R J H'
def DI(X:Cx)(c:Ct)(tg iter:Expr)(f:GA):Prop:= ∀hid ρ,PI X tg iter (Dt X.K c hid f ρ)
theorem PI.imp {t t':TI}(h:PI X tg iter t)(i: ∀σ H Q,t' σ H Q->t σ H Q):PI X tg iter t':=λae s σ H R I q=>h ae s σ H R I (i σ H R q)
theorem CG {α:Type}{t:α->TI}(h: ∀z,PI X tg iter (t z)):PI X tg iter (λσ H R=> ∃z,t z σ H R):=λae s σ H R I ⟨z,q⟩=>h z ae s σ H R I q
theorem vY {K:W.Frag}{W:Hp}{a:Addr}{xs:List V}{ds:List D}(h:SqT K W a xs)(r:Reps K W xs ds):ItOk K W (Cj K a) ds:=by
 refine⟨λi d H e s=>?_,λH s=>⟨xs,Same.seqT s h,by rw[r.length];exact Nat.le_refl _⟩⟩
 obtain⟨x,e1,r1⟩:=r.get e
 refine⟨⟨xs,x,Same.seqT s h,e1⟩,λy H' ⟨e2,e3⟩=>?_⟩
 subst e2;have:=e3 xs (Same.seqT s h)
 rw[e1] at this;cases this;exact⟨Same.refl _,λhid _ sw=>r1.mono sw⟩
def sP(lo:Int)(n:Nat):List D:=(List.range n).map λ(i:Nat)=>D.int (lo+i)
theorem qD {K:W.Frag}{W:Hp}{lo:Int}{n:Nat}:ItOk K W (BA lo n) (sP lo n):=by
 refine⟨λi d H e s=>?_,λH s=>by show n<=(sP lo n).length;simp[sP]⟩
 unfold sP at e;rw[List.getElem?_map] at e;cases e1:(List.range n)[i]? with
 |none=>rw[e1] at e;cases e
 |some j=>
  rw[e1] at e;obtain⟨h1,h2⟩:=List.getElem?_eq_some_iff.mp e1
  simp at h1 h2;subst h2;cases e
  refine⟨h1,λy H' ⟨e2,e3⟩=>?_⟩
  subst e2 e3;exact⟨Same.refl _,λhid _ sw=>.int⟩
def fF(g:FG)(b:FS):List D->FS
 | [],ρ=>.nx ρ
 |d::r,ρ=>match g d ρ with
  |none=>.no
  |some ρ1=>match b ρ1 with
   | .nx ρ2=>fF g b r ρ2
   | .ct ρ2=>fF g b r ρ2
   | .bk ρ2=>.nx ρ2
   | .rt d ρ2=>.rt d ρ2
   | .no=>.no
def eO(f:GA)(g:FG)(b:FS):FS:=λρ=>match f ρ with
 |some (ds,ρ')=>fF g b ds ρ'
 |none=>.no
theorem g6 {f:GA}{g:FG}{tb:FS}(hp:PassesOwn (model X.prog X.w) X.A X.env X.xe)(hc:X.calm=true)(hi:DI X c tg iter f)(hg:uF X c tg g)(hb:oy X c k body tb)
 (hs: ∀x,foldedSetIterable iter X.env x=pure x:=by intro _;rfl):DS X c k (.For tg iter body [] pos) (eO f g tb):=λρ=>
 PS.imp (yR hp hc (CG λhid=>hi hid ρ) (vz λz:bF×aB×D=>hg z.1 z.2.1 z.2.2) (sa λρ=>hb ρ) hs) λD σ H hq_=>by
  obtain⟨hid,sr,q⟩:=hq_
  unfold eO at q;cases e1:f ρ with
  |none=>rw[e1] at q;exact q.elim
  |some z=>
   obtain⟨ds,ρ0⟩:=z
   rw[e1] at q;have q':EndOk X.K c k D (vw H hid) (fF g tb ds ρ0):=q
   refine⟨hid,sr,ds,ρ0,e1,λJ H1 kp s1 it=>?_⟩
   refine⟨λi m σ H=>m=ds.length-i/\i<=ds.length/\ ∃hid2 ρ2,SR X.K c hid2 ρ2 σ H/\Same (vw H1 hid) (vw H hid2)/\EndOk X.K c k D (vw H hid2) (fF g tb (ds.drop i) ρ2),⟨ds.length,by simp,Nat.zero_le _,hid,ρ0,s1,Same.refl _,EndOk.mono q' kp.vw⟩,?_⟩
   rintro i m σ2 H2 ⟨rfl,hi',hid2,ρ2,s2,w2,q2⟩
   have wH:Same (vw H1 hid) H2:=w2.trans (cX _ _)
   by_cases hlt:i<ds.length
   ·have hd:ds[i]? =some ds[i]:=List.getElem?_eq_getElem hlt
    have e2:ds.drop i=ds[i]::ds.drop (i+1):=List.drop_eq_getElem_cons hlt
    rw[e2] at q2;unfold fF at q2;obtain⟨go,yl⟩:=it.1 i ds[i] H2 hd wH
    refine .inr ⟨go,λσ' H'=> ∃hid3 ρ3,SR X.K c hid3 ρ3 σ' H'/\Same (vw H1 hid) (vw H' hid3)/\EndOk X.K c k D (vw H' hid3) (fF g tb (ds.drop (i+1)) ρ3),λσ' H' n3=>⟨ds.length- (i+1),by omega,rfl,hlt,n3⟩,λx H3 y=>?_⟩
    obtain⟨s3,rp⟩:=yl x H3 y
    have rx:=rp hid2 s2.tr w2
    cases e3:g ds[i] ρ2 with
    |none=>rw[e3] at q2;exact q2.elim
    |some ρ3=>
     rw[e3] at q2;refine⟨(hid2,ρ2,ds[i]),s2.ext s3,rx,ρ3,e3,λσ4 s4 _=>⟨ρ3,hid2,s4,?_⟩⟩
     have w3:Same (vw H2 hid2) (vw H3 hid2):=ba s3
     dsimp only at q2;cases e4:tb ρ3 with
     |nx ρ5=>rw[e4] at q2;exact λσ' H' hid' z w=>⟨hid',ρ5,z,(w2.trans w3).trans w,EndOk.mono q2 (w3.trans w)⟩
     |ct ρ5=>rw[e4] at q2;exact λσ' H' hid' z w=>⟨hid',ρ5,z,(w2.trans w3).trans w,EndOk.mono q2 (w3.trans w)⟩
     |bk ρ5=>rw[e4] at q2;exact λσ' H' hid' z w=>q2 σ' H' hid' z (w3.trans w)
     |rt d ρ5=>rw[e4] at q2;exact q2
     |no=>rw[e4] at q2;exact q2.elim
   ·have e:i=ds.length:=by omega
    subst e;rw[List.drop_eq_nil_of_le (Nat.le_refl _)] at q2;exact .inl ⟨it.2 H2 wH,q2 σ2 H2 hid2 s2 (Same.refl _)⟩
def ut(p:FT)(b:FS):Nat->FS
 |0,_=>.no
 |n+1,ρ=>match p ρ with
  |none=>.no
  |some false=>.nx ρ
  |some true=>match b ρ with
   | .nx ρ2=>ut p b n ρ2
   | .ct ρ2=>ut p b n ρ2
   | .bk ρ2=>.nx ρ2
   | .rt d ρ2=>.rt d ρ2
   | .no=>.no
theorem wm(n:Nat){p:FT}{tb:FS}(hp:PassesOwn (model X.prog X.w) X.A X.env X.xe)(hc:DT X c e p)(hb:oy X c k body tb):DS X c k (.While e body [] pos) (ut p tb n):=λρ=>
 PS.imp (vU hp (Ao λz:bF×aB=>hc z.1 z.2) (sa λρ=>hb ρ)) λD σ H hq_=>by
  obtain⟨hid,sr,q⟩:=hq_
  refine⟨λm σ H=> ∃hid2 ρ2,SR X.K c hid2 ρ2 σ H/\EndOk X.K c k D (vw H hid2) (ut p tb m ρ2),⟨n,hid,ρ,sr,q⟩,?_⟩
  rintro m σ2 H2 ⟨hid2,ρ2,s2,q2⟩
  cases m with
  |zero=>exact q2.elim
  |succ m=>
   unfold ut at q2;cases e1:p ρ2 with
   |none=>rw[e1] at q2;exact q2.elim
   |some b=>
    rw[e1] at q2;refine⟨(hid2,ρ2),s2,b,e1,λH3 s3=>?_⟩
    cases b with
    |false=>exact nE (q2 σ2 H3 hid2 (s2.ext s3) (ba s3))
    |true=>
     refine mV ⟨λσ' H'=> ∃hid3 ρ3,SR X.K c hid3 ρ3 σ' H'/\EndOk X.K c k D (vw H' hid3) (ut p tb m ρ3),λσ' H' n3=>⟨m,Nat.lt_succ_self _,n3⟩,ρ2,hid2,s2.ext s3,?_⟩
     have w3:Same (vw H2 hid2) (vw H3 hid2):=ba s3
     dsimp only at q2;cases e4:tb ρ2 with
     |nx ρ5=>rw[e4] at q2;exact λσ' H' hid' z w=>⟨hid',ρ5,z,EndOk.mono q2 (w3.trans w)⟩
     |ct ρ5=>rw[e4] at q2;exact λσ' H' hid' z w=>⟨hid',ρ5,z,EndOk.mono q2 (w3.trans w)⟩
     |bk ρ5=>rw[e4] at q2;exact λσ' H' hid' z w=>q2 σ' H' hid' z (w3.trans w)
     |rt d ρ5=>rw[e4] at q2;exact q2
     |no=>rw[e4] at q2;exact q2.elim
end
def cz(n:Nat)(ds:List D):aB:=ds.map Sl.v++List.replicate (n-ds.length) .no
def j0(kd:Kd)(n:Nat)(t:FS)(ds:List D):Option D:=match t (cz n ds) with
 | .rt d _=>some d
 | .nx _=>(match kd with
   | .n=>none
   |_=>some .non)
 |_=>none
def kS(n:Nat)(bs ds:List D):aB:=.arg bs::(ds.map Sl.v++List.replicate (n-1-ds.length) .no)
def lc:aB->Option (List D)
 | .arg bs::_=>some bs
 |_=>none
def qb(kd:Kd)(n:Nat)(t:FS)(bs ds:List D):Option (D×List D):=match t (kS n bs ds) with
 | .rt d ρ=>(lc ρ).map λb=>(d,b)
 | .nx ρ=>(match kd with
   | .n=>none
   |_=>(lc ρ).map λb=>(.non,b))
 |_=>none
theorem u7 {K:W.Frag}{c:Ct}{hid:bF}{H:Hp}(m:Nat): ∀ {vs:List V} {ds:List D},Reps K (vw H hid) vs ds-> ∀(i:Nat) (s:Sl),(ds.map Sl.v++List.replicate m .no)[i]? =some s->SlOk K c hid (vs.map some++List.replicate m none) H i s:=by
 intro vs ds r i s e;have hl:=r.length
 by_cases hi:i<ds.length
 ·rw[List.getElem?_append_left (by simpa using hi),List.getElem?_map] at e
  have e2:ds[i]? =some ds[i]:=List.getElem?_eq_getElem hi
  rw[e2] at e;cases e
  obtain⟨x,h1,h2⟩:=r.get e2
  exact⟨x,by rw[List.getElem?_append_left (by simp;omega),List.getElem?_map,h1];rfl,h2⟩
 ·rw[List.getElem?_append_right (by simpa using hi),List.getElem?_replicate] at e
  split at e
  ·cases e;trivial
  ·cases e
theorem yW {ds:List D}{m i:Nat}: ¬Ow (ds.map Sl.v++List.replicate m Sl.no)[i]? :=λo=>by
 by_cases hi:i<ds.length
 ·rw[List.getElem?_append_left (by simpa using hi),List.getElem?_map,List.getElem?_eq_getElem hi] at o
  exact o
 ·rw[List.getElem?_append_right (by simpa using hi),List.getElem?_replicate] at o
  split at o<;>exact o
theorem SR.begins {K:W.Frag}{hid:bF}{H:Hp}{N:List Str}{vs:List V}{ds:List D}(tr:yK hid H)(r:Reps K (vw H hid) vs ds):SR K ⟨H,hid,λ_=>false⟩ hid (cz N.length ds) (dh N vs) H:=by
 have hl:=r.length
 unfold dh cz;rw[hl];exact⟨tr.1,tr.2,λ_ h=>h,λ_ _ h _=>h,λb o h=>⟨o,h⟩,tr.1,(λ_ h=>nomatch h),by simp[hl],λi s e=>u7 _ r i s e,λi j a _ o=>absurd o yW⟩
section
variable {P:Program}{w:World}{K:W.Frag}{mg:Str->Option Value}{base:Heap}{x qual:Str}{st:Stmt}{f:Addr}{fd:FuncData}{N ps:List Str}{k:Nat}{t:FS}{kd:Kd}
theorem tq(F:Fun K x qual st f fd)(S:FnScope N ps (ar st))(hkd:kd≠ .b)
 (body: ∀(cdv:Value) (A:Around) (outer:List Env) (s:Shared) (H:Hp) (hid:bF) (E:XK),Room k (A.deeper (envOfC qual (ar st) s.heap.objs.size f cdv))->
   oy (jI lR P w K mg base N qual (ar st) f cdv A outer s H E).nox ⟨H,hid,λ_=>false⟩ kd (aQ st) t):
 FnOk P w K mg base lR (k+1) f fd ps (ir K kd ps.length (j0 kd N.length t)):=by
 refine F.ok S (λvs H Q E h=>?_) (λcdv A outer s H vs Q E hr h=>?_)
 ·obtain⟨hid,ds,_,r,hl,_⟩:=h
  rw[r.length,hl]
 ·obtain⟨hid,ds,tr,r,hl,d,hP,q⟩:=h
  refine⟨_,body cdv A outer s H hid E hr (cz N.length ds),hid,SR.begins tr r,?_⟩
  unfold j0 at hP;cases e:t (cz N.length ds) with
  |nx ρ=>
   rw[e] at hP;intro σ' H' hid' sr _;have sm:Same H H':=λb o z=>sr.kp b o z rfl
   cases kd with
   |b=>exact absurd rfl hkd
   |s=>cases hP;exact q _ H' sm .non
   |n=>cases hP
  |rt d' ρ=>
   rw[e] at hP;cases hP
   intro v H' R;have sm:Same H H':=λb o z=>R.kp b o z rfl
   cases kd with
   |b=>exact absurd rfl hkd
   |s=>exact q v H' sm R.val
   |n=>exact q v H' sm R.val
  |bk ρ=>rw[e] at hP;cases hP
  |ct ρ=>rw[e] at hP;cases hP
  |no=>rw[e] at hP;cases hP
theorem SR.beginsE {hid:bF}{H:Hp}{a:Addr}{xs us:List V}{bs ds:List D}(tr:yK hid H)(ha:hid a=true)(hx:H a=some (.lst xs))(rb:Reps K (vw H hid) xs bs)(r:Reps K (vw H hid) us ds)(hN:0<N.length):
 SR K ⟨H,hid,λb=>decide (b=a)⟩ hid (kS N.length bs ds) (dh N (.ref a::us)) H:=by
 have hl:=r.length
 have es:dh N (.ref a::us)=some (V.ref a)::(us.map some++List.replicate (N.length-1-ds.length) none):=by
  unfold dh;rw[List.map_cons,List.cons_append,List.length_cons,hl];congr 3
  omega
 rw[es];unfold kS;refine⟨tr.1,tr.2,λ_ h=>h,λ_ _ h _=>h,λb o h=>⟨o,h⟩,tr.1,λb h=>?_,by simp[hl],λi s e=>?_,λi j z n o1 o2 q1 q2=>?_⟩
 ·have:b=a:=by simpa using h
  rw[this];exact ha
 ·cases i with
  |zero=>
   cases e
   exact⟨a,xs,rfl,hx,ha,by simp,rb⟩
  |succ i=>
   have z:=u7 (c:=⟨H,hid,λb=>decide (b=a)⟩) (N.length-1-ds.length) r i s (by simpa using e)
   cases s with
   |no=>trivial
   |v d=>obtain⟨x,h1,h2⟩:=z;exact⟨x,by simpa using h1,h2⟩
   |own ds=>obtain⟨x,xs,h1,h2⟩:=z;exact⟨x,xs,by simpa using h1,h2⟩
   |arg ds=>obtain⟨x,xs,h1,h2⟩:=z;exact⟨x,xs,by simpa using h1,h2⟩
   |ob b=>obtain⟨x,h1,h2⟩:=z;exact⟨x,by simpa using h1,h2⟩
 ·cases i with
  |zero=>
   cases j with
   |zero=>exact n rfl
   |succ j=>exact yW (by simpa using o2)
  |succ i=>exact yW (by simpa using o1)
theorem tI {ρ:aB}{b:List D}(h:lc ρ=some b):ρ[0]? =some (.arg b):=by
 unfold lc at h;split at h
 ·cases h;rfl
 ·cases h
theorem Ae {n:Nat}(F:Fun K x qual st f fd)(S:FnScope N ps (ar st))(hkd:kd≠ .b)(hn:ps.length=n+1)
 (body: ∀(cdv:Value) (A:Around) (outer:List Env) (s:Shared) (H:Hp) (hid:bF) (a:Addr) (E:XK),Room k (A.deeper (envOfC qual (ar st) s.heap.objs.size f cdv))->
   oy (jI lR P w K mg base N qual (ar st) f cdv A outer s H E).nox ⟨H,hid,λb=>decide (b=a)⟩ kd (aQ st) t):
 FnOk P w K mg base lR (k+1) f fd ps (og K kd n (qb kd N.length t)):=by
 refine F.ok S (λvs H Q E h=>?_) (λcdv A outer s H vs Q E hr h=>?_)
 ·obtain⟨hid,a,xs,bs,us,ds,rfl,_,_,_,_,r,hl,_⟩:=h
  rw[List.length_cons,r.length,hl,hn]
 ·obtain⟨hid,a,xs,bs,us,ds,rfl,tr,ha,hx,rb,r,hl,d,bs',hM,q⟩:=h
  have hN:0<N.length:=by have:=congrArg List.length S.pre;rw[List.length_take] at this;omega
  refine⟨_,body cdv A outer s H hid a E hr (kS N.length bs ds),hid,SR.beginsE tr ha hx rb r hN,?_⟩
  have fin: ∀(v:V) (H':Hp) (ρ:aB) (d:D),Ret K ⟨H,hid,λb=>decide (b=a)⟩ kd ρ H' v d->lc ρ=some bs'->(∀v H' xs',(∀b o,H b=some o->b≠a->H' b=some o)->H' a=some (.lst xs')->A3 K kd hid H H' v d xs' bs'->Q v H')->Q v H':=by
   intro v H' ρ d R h0 q;obtain⟨a',xs',m1,m2,m3⟩:=R.arg 0 _ (tI h0)
   have:a'=a:=by simpa using m1
   subst this;refine q v H' xs' (λb o z n=>R.kp b o z (by simpa using n)) m2 ?_
   cases kd with
   |b=>exact absurd rfl hkd
   |s=>exact⟨R.val,m3⟩
   |n=>
    obtain⟨p,ys,es,rfl,rfl,h1,h2,h3⟩:=R.val
    exact⟨p,ys,es,rfl,rfl,h1,h2,h3,m3⟩
  unfold qb at hM;cases e:t (kS N.length bs ds) with
  |nx ρ=>
   rw[e] at hM;intro σ' H' hid' sr _;cases kd with
   |b=>exact absurd rfl hkd
   |s=>
    dsimp only at hM;cases e0:lc ρ with
    |none=>rw[e0] at hM;cases hM
    |some b=>
     rw[e0] at hM;cases hM;exact fin .non H' ρ .non (vy (k:=.s) (by decide) (sr.post (k:=.s) (Same.refl _) .non (by decide)) sr.h0) e0 q
   |n=>cases hM
  |rt d' ρ=>
   rw[e] at hM;dsimp only at hM;cases e0:lc ρ with
   |none=>rw[e0] at hM;cases hM
   |some b=>
    rw[e0] at hM;cases hM;intro v H' R;exact fin v H' ρ _ R e0 q
  |bk ρ=>rw[e] at hM;cases hM
  |ct ρ=>rw[e] at hM;cases hM
  |no=>rw[e] at hM;cases hM
end
def rW(K:W.Frag):Sp:=λvs H Q _=> ∃(a:Addr) (ns:List Int),vs=[.ref a]/\SqR K H a (ns.map V.int)/\ns.length<=63/\ ∀H',Q (.bl true) H'
theorem mI {K:W.Frag}{F:Hp}: ∀ns:List Int,Reps K F (ns.map V.int) (ns.map D.int)
 | []=>.nil
 |_::r=>.cons .int (mI r)
theorem zl {P:Program}{w:World}{K:W.Frag}{mg:Str->Option Value}{base:Heap}{f:Addr}{fd:FuncData}{x:Str}{k:Nat}{M:List D->Option D}(F:FnOk P w K mg base lR k f fd [x] (ir K .s 1 M))(hM: ∀ns:List Int,ns.length<=63->M [.scr (ns.map D.int)]=some (.bl true)):
 FnOk P w K mg base lR k f fd [x] (rW K):=F.imp λvs H Q E hq_=>by
 obtain⟨a,ns,e,hS,hl,q⟩:=hq_
 subst e;have hv:vw H (λ_=>false)=H:=by funext b;unfold vw;simp
 refine⟨λ_=>false,[.scr (ns.map D.int)],⟨(λb h=>nomatch h),(λb xs h=>nomatch h)⟩,?_,rfl,.bl true,hM ns hl,λv H' _ r=>?_⟩
 ·rw[hv];exact .cons (.scr hS (mI ns)) .nil
 ·cases r;exact q H'
theorem walkD {l:W.OpenLaw}{k:Nat}{x:Str}{q:Program}{loose:List Str}{XP:(Str->Option Value)->Heap->Prop}{YP:World->Heap->Prop}{d:DefRec}{K:Params->W.Frag}(hn:l.most=some 63)(hdf:d.params.defaults=[])(hr:Room k callerA)
 (hY: ∀(w:World) (h:Heap),YP w h->(K w.params).In h)
 (F: ∀(w:World) (mg:Str->Option Value) (fa:Addr) (h:Heap),(K w.params).In h->h.Ns mainGlobals mg->mg d.name=some (.ref fa)->
   ∃fd:FuncData,(∀(s:Shared) (u:Value),BindsTo s fd ⟨[u],[]⟩ [(x,u)])/\ ∀base:Heap,(K w.params).In base->base.Ns mainGlobals mg->FnOk l.prog w (K w.params) mg base lR k fa fd [x] (rW (K w.params))):
 W.WalkO q loose XP YP l.row.toRowW d [] (λf vs=>PySem.call f vs):=
 L2.walk_of (n:=63) (k:=k) (x:=x) (CX:=λ_=>lR) (sp:=λw=>rW (K w.params)) hn (by decide) hdf hr hY F (λ_ H a ns hl hO hS=>⟨a,ns,rfl,hS.elim (λr=>r.elim (λe=>by rcases hO a with z|⟨o,xs,z⟩<;>rw[z] at e<;>cases e) .inl) .inr,hl,λ_=>rfl⟩) λ_ _ _ _ _ z=>z
def oi(cells:List (Str×Addr)):List (Str×NameKind)->List (Str×Addr)->List (Str×Addr)
 | [],acc=>acc
 |(n,k)::r,acc=>oi cells r (if k== .free then(match cells.lookup n with
  |some c=>(n,c)::acc
  |none=>acc) else acc)
theorem nW {cells:List (Str×Addr)}: ∀ {names:List (Str×NameKind)} {acc:List (Str×Addr)},(∀p∈acc,cells.lookup p.1=some p.2)-> ∀p∈oi cells names acc,cells.lookup p.1=some p.2
 | [],acc,h,p,hp=>h p hp
 |(n,k)::r,acc,h,p,hp=>by
  refine nW (names:=r) ?_ p hp
  intro q hq;split at hq
  ·split at hq
   ·rename_i c e
    rcases List.mem_cons.mp hq with rfl|hq
    ·exact e
    ·exact h q hq
   ·exact h q hq
  ·exact h q hq
theorem p9 {cells:List (Str×Addr)}: ∀ {names:List (Str×NameKind)} {acc:List (Str×Addr)} (p:Str×Addr),p∈oi cells names acc->p∈acc\/(p.1,NameKind.free)∈names
 | [],acc,p,hp=>.inl hp
 |(n,k)::r,acc,p,hp=>by
  rcases p9 (names:=r) p hp with hq|hq
  ·split at hq
   ·rename_i ek
    split at hq
    ·rcases List.mem_cons.mp hq with e|hq
     ·subst e
      have:k=.free:=by simpa using ek
      subst this;exact .inr List.mem_cons_self
     ·exact .inl hq
    ·exact .inl hq
   ·exact .inl hq
  ·exact .inr (List.mem_cons_of_mem _ hq)
theorem pS {cells:List (Str×Addr)}: ∀ {names:List (Str×NameKind)} {acc:List (Str×Addr)} {p:Str×Addr},p∈acc->p∈oi cells names acc
 | [],acc,p,h=>h
 |(n,k)::r,acc,p,h=>by
  refine pS (names:=r) ?_
  split
  ·split
   ·exact List.mem_cons_of_mem _ h
   ·exact h
  ·exact h
theorem rK {cells:List (Str×Addr)}{x:Str}{c:Addr}(hc:cells.lookup x=some c): ∀ {names:List (Str×NameKind)} {acc:List (Str×Addr)},(x,NameKind.free)∈names->(x,c)∈oi cells names acc
 | [],_,h=>nomatch h
 |(n,k)::r,acc,h=>by
  rcases List.mem_cons.mp h with e|h
  ·cases e
   refine pS (names:=r) ?_
   rw[if_pos (by rfl),hc]
   exact List.mem_cons_self
  ·exact rK hc (names:=r) h
theorem lV {l:List (Str×Addr)}{x:Str}{c:Addr}(h:(x,c)∈l)(u: ∀p∈l,p.1=x->p.2=c):l.lookup x=some c:=by
 induction l with
 |nil=>exact nomatch h
 |cons p r ih=>
  obtain⟨n,a⟩:=p
  rw[List.lookup_cons];cases e:x==n with
  |true=>
   have e':x=n:=eq_of_beq e
   have:=u (n,a) List.mem_cons_self e'.symm
   simpa using this
  |false=>
   have ne:x≠n:=λe'=>by rw[e'] at e;simp at e
   rcases List.mem_cons.mp h with e'|h
   ·cases e';exact absurd rfl ne
   ·exact ih h λp hp=>u p (List.mem_cons_of_mem _ hp)
theorem qt {cells:List (Str×Addr)}{names:List (Str×NameKind)}{x:Str}{c:Addr}(h:(oi cells names []).lookup x=some c):cells.lookup x=some c:=
 nW (names:=names) (acc:=[]) (λ_ z=>nomatch z) (x,c) (PySem.mem_of_lookup h)
theorem jU {cells:List (Str×Addr)}{names:List (Str×NameKind)}{x:Str}{c:Addr}(hc:cells.lookup x=some c)(hf:(x,NameKind.free)∈names):(oi cells names []).lookup x=some c:=
 lV (rK hc hf) λp hp e=>by
  have:=nW (names:=names) (acc:=[]) (λ_ z=>nomatch z) p hp
  rw[e,hc] at this;exact(Option.some.inj this).symm
theorem fw {scope:Scope}{env:Env}(h: ∀x,(x,NameKind.free)∈scope.names-> ∃c,env.cells.lookup x=some c):closureFor scope env=pure (oi env.cells scope.names []):=by
 unfold closureFor;have key: ∀(names:List (Str×NameKind)) (acc:List (Str×Addr)),(∀x,(x,NameKind.free)∈names-> ∃c,env.cells.lookup x=some c)->
  (forIn names acc (λ(p:Str×NameKind) (r:List (Str×Addr))=>match p with
    |(name,kind)=>if(kind==NameKind.free)=true then do
       let __do_lift <-cellOf env name
       pure (ForInStep.yield ((name,__do_lift)::r)) else pure (ForInStep.yield r)):Sem (List (Str×Addr)))=pure (oi env.cells names acc):=by
  intro names
  induction names with
  |nil=>intro acc _;rfl
  |cons p r ih=>
   intro acc h;obtain⟨n,k⟩:=p
   rw[List.forIn_cons];have hr: ∀x,(x,NameKind.free)∈r-> ∃c,env.cells.lookup x=some c:=λx hx=>h x (List.mem_cons_of_mem _ hx)
   cases e:k==NameKind.free with
   |false=>
    simp only[e,Bool.false_eq_true,if_false,pure_bind];rw[ih acc hr]
    conv=>rhs;unfold oi
    simp[e]
   |true=>
    have ek:k=.free:=by simpa using e
    subst ek;obtain⟨c,hc⟩:=h n List.mem_cons_self
    have ec:cellOf env n=pure c:=by unfold cellOf;rw[hc]
    simp only[beq_self_eq_true,if_true,ec,pure_bind];rw[ih _ hr]
    conv=>rhs;unfold oi
    simp[hc]
 have:=key scope.names [] h
 simp only[this,pure_bind]
theorem gu {sc:Scope}{env:Env}{x:Str}{k:NameKind}(h:(relabel sc env).names.lookup x=some k): ∃k0,sc.names.lookup x=some k0/\(k=k0\/(k0=.free/\k=.cell)):=by
 unfold relabel at h;dsimp only at h
 generalize sc.names=l at h⊢
 induction l with
 |nil=>simp at h
 |cons p r ih=>
  obtain⟨n,k1⟩:=p
  rw[List.map_cons] at h;dsimp only at h;rw[List.lookup_cons];cases hx:x==n with
  |true=>
   refine⟨k1,rfl,?_⟩
   split at h
   ·rename_i hc
    rw[List.lookup_cons] at h;simp only[hx] at h;cases h
    have:k1=.free:=by
     simp only[Bool.and_eq_true] at hc;exact eq_of_beq hc.1.1
    exact .inr ⟨this,rfl⟩
   ·rw[List.lookup_cons] at h
    simp only[hx] at h;cases h
    exact .inl rfl
  |false=>
   split at h
   ·rw[List.lookup_cons] at h;simp only[hx] at h;exact ih h
   ·rw[List.lookup_cons] at h;simp only[hx] at h;exact ih h
def lj(cells:List (Str×Addr))(scope:Scope)(C:Addr):List (Str×Addr):=cellsFrom (C+1) scope.names (oi cells scope.names [])
theorem bB: ∀(names:List (Str×NameKind)) (n:Nat) (acc:List (Str×Addr)),cellsFrom n names acc=cellsFrom n names []++acc
 | [],_,_=>rfl
 |(name,kind)::r,n,acc=>by
  unfold cellsFrom;split
  ·rw[bB r (n+1) ((name,n)::acc),bB r (n+1) [(name,n)],List.append_assoc];rfl
  ·exact bB r n acc
theorem mZ: ∀ {names:List (Str×NameKind)} {n:Nat} {p:Str×Addr},p∈cellsFrom n names []->(p.1,NameKind.cell)∈names
 | [],_,_,h=>nomatch h
 |(name,kind)::r,n,p,h=>by
  unfold cellsFrom at h;split at h
  ·rename_i hk
   have hk':kind=.cell:=by simpa using hk
   subst hk';rw[bB] at h;rcases List.mem_append.mp h with h|h
   ·exact List.mem_cons_of_mem _ (mZ h)
   ·rw[List.mem_singleton.mp h];exact List.mem_cons_self
  ·exact List.mem_cons_of_mem _ (mZ h)
theorem jC: ∀ {names:List (Str×NameKind)} {n:Nat} {x:Str},(x,NameKind.cell)∈names-> ∃c,(x,c)∈cellsFrom n names []
 | [],_,_,h=>nomatch h
 |(name,kind)::r,n,x,h=>by
  unfold cellsFrom;rcases List.mem_cons.mp h with e|h
  ·cases e
   rw[if_pos (by rfl),bB]
   exact⟨n,List.mem_append_right _ List.mem_cons_self⟩
  ·split
   ·obtain⟨c,hc⟩:=jC (n:=n+1) h
    rw[bB];exact⟨c,List.mem_append_left _ hc⟩
   ·exact jC h
theorem qT {l:List (Str×Addr)}{x:Str}{c:Addr}(h:(x,c)∈l): ∃c',l.lookup x=some c':=by
 induction l with
 |nil=>exact nomatch h
 |cons p r ih=>
  obtain⟨n,a⟩:=p
  rw[List.lookup_cons];cases e:x==n with
  |true=>exact⟨a,rfl⟩
  |false=>
   rcases List.mem_cons.mp h with e'|h
   ·cases e';simp at e
   ·exact ih h
theorem eB {cells:List (Str×Addr)}{sc:Scope}{C:Addr}{x:Str}{c:Addr}(h:(lj cells sc C).lookup x=some c):(x,c)∈cellsFrom (C+1) sc.names []\/(oi cells sc.names []).lookup x=some c:=by
 unfold lj at h;rw[bB,List.lookup_append] at h;cases e:(cellsFrom (C+1) sc.names []).lookup x with
 |none=>rw[e] at h;exact .inr h
 |some c'=>rw[e] at h;cases h;exact .inl (PySem.mem_of_lookup e)
theorem u4 {cells:List (Str×Addr)}{sc:Scope}{C:Addr}{x:Str}(h:(x,NameKind.cell)∈sc.names): ∃c,(lj cells sc C).lookup x=some c:=by
 obtain⟨c,hc⟩:=jC (n:=C+1) h
 obtain⟨c',e⟩:=qT hc
 exact⟨c',by unfold lj;rw[bB,List.lookup_append,e];rfl⟩
theorem pZ {cells:List (Str×Addr)}{sc:Scope}{C:Addr}{x:Str}(h:(x,NameKind.cell)∉sc.names):(lj cells sc C).lookup x=(oi cells sc.names []).lookup x:=by
 unfold lj;rw[bB,List.lookup_append];cases e:(cellsFrom (C+1) sc.names []).lookup x with
 |none=>rfl
 |some c'=>exact absurd (mZ (PySem.mem_of_lookup e)) h
theorem si {M:Model}{A:Around}{E:Value->Shared->Prop}{s:Shared}{scope:Scope}{globals:Addr}{closure:List (Str×Addr)}{qual:Str}{outer:Env}{Q:Env->Shared->Prop}
 (hQ: ∀h',h'.Ns s.heap.objs.size (λ_=>none)->(∀b o,s.heap.get? b=some o->h'.get? b=some o)->CellsOk h' (s.heap.objs.size+1) (cellsFrom (s.heap.objs.size+1) scope.names [])->
   Q (newEnv scope s.heap.objs.size globals (cellsFrom (s.heap.objs.size+1) scope.names closure) qual none .none (some outer) builtinsNs) {s with heap:=h',toks:=s.toks}):
 wpAny M A (newFunctionEnv scope globals closure [] qual none .none (some outer)) Q E s:=by
 simp only[newFunctionEnv,Option.isSome_some,if_true];refine wpAny_bind (wpAny_alloc ?_)
 refine wpAny_bind (wpAny_layCells _ (λname kind cells=>by cases hkc:kind==NameKind.cell<;>simp[hkc]) _ _ _ _ ?_)
 have ok:=cellsFrom_ok scope.names (s.heap.push {cls:=.type "dict",data:=.dict #[]}) (s.heap.objs.size+1) [] ⟨λ_ _ hm=>(nomatch hm),List.Pairwise.nil⟩ (by rw[Heap.size_push];exact Nat.le_refl _)
 rw[Heap.size_push] at ok;rw[show({s with heap:=s.heap.push {cls:=.type "dict",data:=.dict #[]}}:Shared).heap.objs.size=s.heap.objs.size+1 from Heap.size_push ..]
 rw[List.forIn_nil];refine wpAny_bind (wpAny_pure (wpAny_pure ?_))
 exact hQ _ ((Heap.Ns.new s.heap (.type "dict")).keeps (pushCells_keeps _ _)) (λb o e=>pushCells_keeps _ _ b o (Heap.get?_push_of_some _ e)) ok
def aL(X:Cx)(N':List Str)(scope:Scope)(C:Addr)(s₀:Shared)(H₀:Hp)(ex:List Addr):Cx where
 prog:=X.prog
 w:=X.w
 K:=X.K
 mg:=X.mg
 base:=X.base
 A:=X.A
 N:=N'
 s₀:=s₀
 H₀:=H₀
 env:=compEnvC scope (lj X.env.cells scope C) C X.env
 outer:=X.stack
 stack:=X.stack
 ex:=ex
 fn:=λx=>scope.names.lookup x==some .local||scope.names.lookup x==some .cell
 calm:=X.calm
 pn:=[]
 xe:=λ_ _=>False
def ur(N N':List Str)(sc:Scope):Bool:=
 decide (N.length<=N'.length)&&((N'.take N.length).zip N).all (λp=>(p.1==p.2&& !(sc.names.lookup p.1==some .local)&& !(sc.names.lookup p.1==some .cell))||(sc.names.lookup p.1).isNone)&&
  (N'.drop N.length).all λx=>sc.names.lookup x==some .local||sc.names.lookup x==some .cell
def uq(sc:Scope)(outer:Scope):Bool:=
 sc.names.all λy=>(y.2 != .cell||sc.names.lookup y.1==some .cell)&&(y.2 != .local||sc.names.lookup y.1==some .local)&&(y.2 != .free||(sc.names.lookup y.1==some .free&&(outer.names.lookup y.1==some .cell||outer.names.lookup y.1==some .free)))
theorem pJ {sc o:Scope}(h:uq sc o=true): ∀y∈sc.names,y.2=.cell->sc.names.lookup y.1=some .cell:=λy hy e=>by
 have:=List.all_eq_true.mp h y hy
 simpa [e] using this
theorem jL {sc o:Scope}(h:uq sc o=true): ∀y∈sc.names,y.2=.local->sc.names.lookup y.1=some .local:=λy hy e=>by
 have:=List.all_eq_true.mp h y hy
 simpa [e] using this
theorem gS {sc o:Scope}(h:uq sc o=true): ∀x,(x,NameKind.free)∈sc.names->o.names.lookup x=some .cell\/o.names.lookup x=some .free:=λx hx=>by
 have:=List.all_eq_true.mp h _ hx
 simpa using (by simpa using this:_/\_).2
theorem mE {sc o:Scope}(h:uq sc o=true): ∀x,(x,NameKind.free)∈sc.names->sc.names.lookup x=some .free:=λx hx=>by
 have:=List.all_eq_true.mp h _ hx
 simpa using (by simpa using this:_/\_).1
theorem tL {N N':List Str}{sc:Scope}(h:ur N N' sc=true){i:Nat}{x:Str}(hi:i<N.length)(e:N'[i]? =some x)(hv: ∃k,sc.names.lookup x=some k/\(k=.local\/k=.cell\/k=.free)):N[i]? =some x/\sc.names.lookup x=some .free:=by
 unfold ur at h;simp only[Bool.and_eq_true,decide_eq_true_eq] at h;obtain⟨⟨h1,h2⟩,_⟩:=h
 have hN:N[i]? =some N[i]:=List.getElem?_eq_getElem hi
 have e1:(N'.take N.length)[i]? =some x:=by rw[List.getElem?_take_of_lt hi];exact e
 have hm:(x,N[i])∈(N'.take N.length).zip N:=by
  refine List.mem_of_getElem? (i:=i) ?_
  rw[List.getElem?_zip_eq_some];exact⟨e1,hN⟩
 have:=List.all_eq_true.mp h2 _ hm
 obtain⟨k,hk,hk2⟩:=hv
 dsimp only at this;rw[hk] at this;simp only[Option.isNone_some,Bool.or_false,Bool.and_eq_true,Bool.not_eq_true'] at this;obtain⟨⟨t1,t2⟩,t3⟩:=this
 have ex:x=N[i]:=eq_of_beq t1
 rcases hk2 with rfl|rfl|rfl
 ·simp at t2
 ·simp at t3
 ·exact⟨by rw[hN,<-ex],hk⟩
theorem xQ {N N':List Str}{sc:Scope}(h:ur N N' sc=true):N.length<=N'.length:=by
 unfold ur at h;simp only[Bool.and_eq_true,decide_eq_true_eq] at h;exact h.1.1
section
variable {X:Cx}{ae:List (Addr×Obj)}{σ:St}{H:Hp}{s:Shared}{scope:Scope}{N':List Str}{fp:List Addr}
theorem t5(I:Inv X ae σ H s){b:Addr}(f:iu X ae H b):b∉gJ X.stack:=λz=>by
 rcases List.mem_cons.mp (I.stkSub b z) with e|z
 ·exact f.2.1 e
 ·exact f.2.2.1 z
theorem oI {h':Heap}{tk:Nat}(I:Inv X ae σ H s)(hF: ∀b∈fp,iu X ae H b)(hO: ∀b∈fp,∃o,s.heap.get? b=some o)(hk:scope.kind=.function)(hs:uq scope X.env.scope=true)(hn:ur X.N N' scope=true)
 (ns:h'.Ns s.heap.objs.size λ_=>none) (kp: ∀b o,s.heap.get? b=some o->h'.get? b=some o) (oc:CellsOk h' (s.heap.objs.size+1) (cellsFrom (s.heap.objs.size+1) scope.names [])):
 Inv (aL X N' scope s.heap.objs.size s H fp) [] (σ++List.replicate (N'.length-X.N.length) none) H {s with heap:=h',toks:=tk}:=by
 have hlen:=xQ hn
 have cl: ∀x c,(oi X.env.cells scope.names []).lookup x=some c->X.env.cells.lookup x=some c:=λx c e=>qt e
 have clt: ∀x c,(oi X.env.cells scope.names []).lookup x=some c->c<s.heap.objs.size:=λx c e=>let⟨_,z⟩:=I.cell x c (cl x c e);z.lt
 have newC:H s.heap.objs.size=none:=I.hok.fresh (Nat.le_refl _)
 refine⟨⟨I.ok.mod,hk,I.ok.glob,I.ok.blt,Nat.le_refl _,λx y c h1 h2=>?_,λx hx=>?_,λx c h1 h2=>?_,I.ok.hd,I.ok.frames,.inl rfl,λb hb=>⟨?_,λx c e=>?_⟩,I.bs,Nat.le_trans I.ok.bsz I.sz,λb o e hb=>?_,λb hb=>t5 I (hF b hb),I.stack,I.stkFree⟩,
  rfl,I.bare,Un.kept kp,⟨_,ns,λi x v e1 e2 e3=>?_⟩,λx c e=>?_,newC,λx c e=>?_,λp hp=>absurd (show p∈([]:List (Addr×Obj)) from hp) (by simp),I.hok.kept kp,?_⟩
 ·
  rcases eB h1 with h1|h1<;>rcases eB h2 with h2|h2
  ·exact name_of_addr oc.apart h1 h2
  ·exact absurd (clt y c h2) (Nat.not_lt.mpr (Nat.le_of_succ_le (oc.empty _ _ h1).2))
  ·exact absurd (clt x c h1) (Nat.not_lt.mpr (Nat.le_of_succ_le (oc.empty _ _ h2).2))
  ·exact I.ok.inj x y c (cl x c h1) (cl y c h2)
 ·
  have hx':(relabel scope X.env).names.lookup x=some .cell\/(relabel scope X.env).names.lookup x=some .free:=hx
  have:(x,NameKind.cell)∈scope.names\/(x,NameKind.free)∈scope.names:=by
   rcases hx' with hx'|hx'
   ·obtain⟨k0,e0,e1|⟨e1,_⟩⟩:=gu hx'
    ·subst e1;exact .inl (PySem.mem_of_lookup e0)
    ·subst e1;exact .inr (PySem.mem_of_lookup e0)
   ·obtain⟨k0,e0,e1|⟨_,e1⟩⟩:=gu hx'
    ·subst e1;exact .inr (PySem.mem_of_lookup e0)
    ·cases e1
  rcases this with this|this
  ·exact u4 this
  ·have hc:=gS hs x this
   obtain⟨c,e⟩:=I.ok.has x hc
   exact⟨c,(pZ λz=>by have z1:=pJ hs _ z rfl;have z2:=mE hs x this;rw[z2] at z1;cases z1).trans (jU e this)⟩
 ·
  have h1':scope.names.lookup x=some .local\/scope.names.lookup x=some .cell:=by
   have h1:(scope.names.lookup x==some .local||scope.names.lookup x==some .cell)=true:=h1
   simpa using h1
  rcases eB h2 with h2|h2
  ·exact Nat.le_of_succ_le (oc.empty _ _ h2).2
  ·exfalso
   rcases p9 _ (PySem.mem_of_lookup h2) with z|z
   ·exact nomatch z
   ·rw[mE hs x z] at h1';rcases h1' with h1'|h1'<;>cases h1'
 ·obtain⟨o,e⟩:=hO b hb
  exact Nat.ne_of_lt (Heap.lt_size e)
 ·rcases eB e with e|e
  ·obtain⟨o,e'⟩:=hO b hb
   exact λz=>absurd (Heap.lt_size e') (Nat.not_lt.mpr (z▸Nat.le_of_succ_le (oc.empty _ _ e).2))
  ·exact(hF b hb).2.2.2.2.1 x c (cl x c e)
 ·obtain⟨_,_,_,h4,_⟩:=hF b hb
  rcases h4 with h4|h4
  ·exact I.ok.noex b o e h4
  ·exact absurd (Nat.lt_of_lt_of_le (Heap.lt_size e) (Nat.le_trans I.ok.bsz h4)) (Nat.lt_irrefl _)
 ·have hi:i<X.N.length:=by
   by_cases hi:i<σ.length
   ·rw[<-I.len];exact hi
   ·rw[List.getElem?_append_right (by omega),List.getElem?_replicate] at e2
    split at e2<;>cases e2
  rw[List.getElem?_append_left (by rw[I.len];exact hi)] at e2
  have e3':(relabel scope X.env).names.lookup x=some .local\/(relabel scope X.env).names.lookup x=some .cell\/(relabel scope X.env).names.lookup x=some .free:=e3
  have hv: ∃k,scope.names.lookup x=some k/\(k=.local\/k=.cell\/k=.free):=by
   rcases e3' with z|z|z
   all_goals
    obtain⟨k0,q0,q1|⟨q1,q2⟩⟩:=gu z
    ·subst q1;exact⟨_,q0,by simp⟩
    ·subst q1;exact⟨_,q0,by simp⟩
  obtain⟨hN,hf⟩:=tL hn hi e1 hv
  have hfm:=PySem.mem_of_lookup hf
  have hc:=gS hs x hfm
  have nc:(x,NameKind.cell)∉scope.names:=λz=>by have z1:=pJ hs _ z rfl;rw[hf] at z1;cases z1
  obtain⟨m,hm,hl⟩:=I.loc
  obtain⟨u,r,l⟩:=hl i x v hN e2 (.inr hc)
  refine⟨u,r,.inr ⟨?_,?_⟩⟩
  ·show(relabel scope X.env).names.lookup x=some .cell\/(relabel scope X.env).names.lookup x=some .free
   rcases e3' with z|z|z
   ·obtain⟨k0,q0,q1|⟨q1,q2⟩⟩:=gu z
    ·subst q1;rw[hf] at q0;cases q0
    ·cases q2
   ·exact .inl z
   ·exact .inr z
  ·rcases l with⟨l,_⟩|⟨_,c,ec,z⟩
   ·have l':X.env.scope.names.lookup x=some .local:=l
    rcases hc with hc|hc<;>rw[hc] at l'<;>cases l'
   ·exact⟨c,(pZ nc).trans (jU ec hfm),z.keeps kp⟩
 ·rcases eB e with e|e
  ·exact⟨_,(oc.empty _ _ e).1⟩
  ·obtain⟨v,z⟩:=I.cell x c (cl x c e)
   exact⟨v,z.keeps kp⟩
 ·rcases eB e with e|e
  ·exact I.hok.fresh (Nat.le_of_succ_le (oc.empty _ _ e).2)
  ·exact I.freeC x c (cl x c e)
 ·show(σ++_).length=N'.length
  rw[List.length_append,List.length_replicate,I.len];omega
end
def Cf(K:W.Frag)(c:Ct)(hid:bF)(f:FA)(ρ:aB):TI:=λσ H R=>SR K c hid ρ σ H/\ ∃ds,f ρ=some ds/\ ∀J H',Same H H'->ItOk K (vw H' hid) J ds->R J H'
def DIp(X:Cx)(c:Ct)(tg iter:Expr)(f:FA):Prop:= ∀hid ρ,PI X tg iter (Cf X.K c hid f ρ)
def Bi {ι:Type}(IR:Hp->V->ι->Prop)(L W:Hp)(J:It)(ds:List ι):Prop:=
 (∀(i:Nat) (d:ι) (H:Hp),ds[i]? =some d->Same L H->Same W H->J.go i H/\ ∀x H',J.yld i H x H'->Same H H'/\ ∀hid:bF,(∀b,hid b=true-> ∃o,H b=some o)->Same W (vw H hid)->IR (vw H' hid) x d)/\ ∀H,Same L H->Same W H->J.stop ds.length H
abbrev Dc(K:W.Frag)(L W:Hp)(J:It)(ds:List D):Prop:=Bi (Rep K) L W J ds
theorem ItOk.b {K:W.Frag}{L W:Hp}{J:It}{ds:List D}(h:ItOk K W J ds):Dc K L W J ds:=⟨λi d H e _ w=>h.1 i d H e w,λH _ w=>h.2 H w⟩
def C4 {ι:Type}(IR:Hp->V->ι->Prop)(K:W.Frag)(c:Ct)(hid:bF)(f:aB->Option (List ι))(ρ:aB):TI:=λσ H R=>SR K c hid ρ σ H/\ ∃ds,f ρ=some ds/\ ∀J H',Same H H'->Bi IR H' (vw H' hid) J ds->R J H'
def C7 {ι:Type}(IR:Hp->V->ι->Prop)(X:Cx)(c:Ct)(tg iter:Expr)(f:aB->Option (List ι)):Prop:= ∀hid ρ,PI X tg iter (C4 IR X.K c hid f ρ)
abbrev BI(X:Cx)(c:Ct)(tg iter:Expr)(f:FA):Prop:=C7 (Rep X.K) X c tg iter f
section
variable {X:Cx}{c:Ct}{k:Kd}{tg iter:Expr}{pos:Pos}
theorem DIp.b {f:FA}(h:DIp X c tg iter f):BI X c tg iter f:=λhid ρ=>PI.imp (h hid ρ) λσ H R ⟨sr,ds,e,q⟩=>⟨sr,ds,e,λJ H' s io=>q J H' s io.b⟩
theorem DIp.e {f:FA}(h:DIp X c tg iter f):DI X c tg iter (bI f):=λhid ρ=>PI.imp (h hid ρ) λσ H R hq_=>by
 obtain⟨sr,ds,ρ',e,q⟩:=hq_
 obtain⟨e1,rfl⟩:=lb e
 exact⟨sr,ds,e1,λJ H' s io=>q J H' (.of s) (sr.ext s) io⟩
def jF(f:FE):FA:=λρ=>(f ρ).bind λd=>match d with
 | .lst ds=>some ds
 |_=>none
def xr(f:FE):FA:=λρ=>(f ρ).bind λd=>match d with
 | .tup ds=>some ds
 |_=>none
theorem mv {f:FE}{ρ:aB}{ds:List D}(h:jF f ρ=some ds):f ρ=some (.lst ds):=by
 unfold jF at h;cases e:f ρ with
 |none=>rw[e] at h;cases h
 |some d=>
  rw[e] at h;cases d with
  |lst z=>cases h;rfl
  |_=>cases h
theorem tU {f:FE}{ρ:aB}{ds:List D}(h:xr f ρ=some ds):f ρ=some (.tup ds):=by
 unfold xr at h;cases e:f ρ with
 |none=>rw[e] at h;cases h
 |some d=>
  rw[e] at h;cases d with
  |tup z=>cases h;rfl
  |_=>cases h
theorem vL {K:W.Frag}{W:Hp}{a:Addr}{xs:List V}{ds:List D}(h1:SqL K W a xs)(h2:Reps K W xs ds):ItOk K W (Cn K a) ds:=by
 refine⟨λi d H e s=>?_,λH s=>⟨_,s.seq h1,by rw[h2.length];exact Nat.le_refl _⟩⟩
 obtain⟨x,e1,r1⟩:=h2.get e
 refine⟨⟨_,x,s.seq h1,e1⟩,λy H' ⟨e2,e3⟩=>?_⟩
 subst e2;have:=e3 _ (s.seq h1)
 rw[e1] at this;cases this;exact⟨Same.refl _,λhid _ sw=>r1.mono sw⟩
theorem vj {f:FE}(h:DP X c .s iter f):DIp X c tg iter (jF f):=λhid ρ=>PI.imp (rJ (h hid ρ)) λσ H R hq_=>by
 obtain⟨sr,ds,e,q⟩:=hq_
 refine⟨sr,_,mv e,λv H' s' r=>?_⟩
 cases r with
 |lst h1 h2=>have h1:=SqL.of (K:=X.K) h1;exact⟨_,rfl,⟨_,(cX _ _).seq h1⟩,q _ H' s' (vL h1 h2)⟩
theorem oY {f:FE}(h:DP X c .b iter f):BI X c tg iter (jF f):=λhid ρ=>PI.imp (rJ (h hid ρ)) λσ H R hq_=>by
 obtain⟨sr,ds,e,q⟩:=hq_
 refine⟨sr,_,mv e,λv H' s' r=>?_⟩
 obtain⟨a,xs,rfl,h1,h2⟩:=Rep1.lst r
 refine⟨a,rfl,⟨_,h1⟩,q _ H' s' ⟨λi d H e s w=>?_,λH s w=>⟨_,s.seq h1,by rw[h2.length];exact Nat.le_refl _⟩⟩⟩
 obtain⟨x,e1,r1⟩:=h2.get e
 refine⟨⟨_,x,s.seq h1,e1⟩,λy H' ⟨e2,e3⟩=>?_⟩
 subst e2;have:=e3 _ (s.seq h1)
 rw[e1] at this;cases this;exact⟨Same.refl _,λhid _ sw=>r1.mono sw⟩
theorem yc {f:FE}(h:DP X c .s iter f):DIp X c tg iter (xr f):=λhid ρ=>PI.imp (z7 (h hid ρ)) λσ H R hq_=>by
 obtain⟨sr,ds,e,q⟩:=hq_
 refine⟨sr,_,tU e,λv H' s' r=>?_⟩
 cases r with
 |tup h1 h2=>exact⟨_,rfl,⟨_,Same.seqT (cX _ _) h1⟩,q _ H' s' (vY h1 h2)⟩
def bS(f:FA):FA:=λρ=>(f ρ).bind λds=>match ds with
 | [.int j]=>if j.natAbs<4000000000 then some (sP 0 j.toNat) else none
 |_=>none
theorem bW {a:Expr}{f:FA}{p:Pos}(hm:X.mg "range"=none)(ha:DA X c [a] f)(hg:Gl X "range":=by rfl)(hs:starEach [a] X.env=[(false,eval a X.env)]:=by rfl):DIp X c tg (.Call (.Name "range" p) [a] [] pos) (bS f):=λhid ρ=>
 PI.imp (ui hg hm (ha hid ρ) hs) λσ H R hq_=>by
  obtain⟨sr,ds,e,q⟩:=hq_
  unfold bS at e;cases e1:f ρ with
  |none=>rw[e1] at e;cases e
  |some z=>
   rw[e1] at e;dsimp only[Option.bind] at e;split at e
   ·split at e
    ·cases e
     refine⟨sr,_,e1,λvs H' s' r=>?_⟩
     cases r with
     |cons r t=>cases t;cases r;exact⟨_,rfl,by omega,by omega,q _ H' s' qD⟩
    ·cases e
   ·cases e
def sx(ifs:List Expr)(env:Env):Sem Bool:=forIn ifs true λc r=>if r=true then do let ok <-isTrue c env (eval c env);pure (ForInStep.yield ok) else pure (ForInStep.yield r)
def vJ(X:Cx)(c:Ct)(ifs:List Expr)(p:FT):Prop:= ∀hid ρ (ae:List (Addr×Obj)) (s:Shared) (σ:St) (H:Hp) (Q:Bool->Hp->Prop),Inv X ae σ H s->Cw X.K c hid p ρ σ H Q->wpAny (model X.prog X.w) X.A (sx ifs X.env) (TP X ae σ Q) X.xe s
def bT:FT:=λ_=>some true
theorem cG:vJ X c [] bT:=λhid ρ ae s σ H Q I hq_=>by
 obtain⟨sr,d,e,q⟩:=hq_
 cases e
 exact wpAny_tests_nil ⟨H,I,q H (Same.refl _)⟩
theorem xV {e:Expr}{p:FT}(h:DT X c e p):vJ X c [e] p:=λhid ρ ae s σ H Q I q=>wpAny_tests_one (h hid ρ ae s σ H Q I q)
end
theorem dM {prog:Program}{w:World}{A:Around}{R:Result->Shared->Prop}{s:Shared}{elt target iter:Expr}{ifs:List Expr}{scope:Scope}{pos:Pos}{it acc:Value}{env:Env}(I:Nat->Shared->Prop)
 (turn: ∀n s,I n s->wpAny (model prog w) A (pyNext it) (λr s₁=>match r with
   |none=>R (.ok .next) s₁
   |some v=>wpAny (model prog w) A (letOwnedTupleGo target it v) (λ_ s₁=>wpAny (model prog w) A (assign target env v) (λ_ s₂=>
     wpAny (model prog w) A (sx ifs env) (λok s₃=>
      if ok=true then wpAny (model prog w) A (eval elt env) (λx s₄=>
       wpAny (model prog w) A (call (.builtin "list.append") [acc,x]) (λ_ s₅=> ∃m,m<n/\I m s₅) (λ_ _=>False) s₄) (λ_ _=>False) s₃
      else∃m,m<n/\I m s₃) (λ_ _=>False) s₂) (λ_ _=>False) s₁) (λ_ _=>False) s₁) (λ_ _=>False) s)
 (n:Nat) (h:I n s):
 codeAny (model prog w) A (.compLoop (.ListComp elt [⟨target,iter,ifs,0⟩] scope pos) 0 it acc env) R s:=by
 have no: ∀ {E':Value->Shared->Prop} (x:Value) (s:Shared),False->E' x s:=λ_ _ z=>z.elim
 refine codeAny_loop rfl I (λn s hI=>?_) n h
 show wpAny _ A ((compTurn (.ListComp elt [⟨target,iter,ifs,0⟩] scope pos) 0 it acc env).onRaise (λx=>do noteFrame x env;theTreesLotGoes x)) _ _ s
 refine wpAny_noted ?_
 rw[compTurn_list];refine wpAny_bind (wpAny_standAt (wpAny_bind (wpAny_mono (turn n s hI) (λr s₁ h₁=>?_) no)))
 cases r with
 |none=>exact wpAny_pure h₁
 |some v=>
  refine wpAny_bind (wpAny_mono h₁ (λ_ s₁ h₁=>?_) no)
  refine wpAny_bind (wpAny_mono h₁ (λ_ s₂ h₂=>wpAny_bind (wpAny_mono h₂ (λok s₃ h₃=>?_) no)) no)
  cases ok with
  |false=>exact wpAny_pure ⟨rfl,h₃⟩
  |true=>
   exact wpAny_bind (wpAny_bind (wpAny_mono h₃ (λx s₄ h₄=>wpAny_bind (wpAny_mono h₄ (λ_ s₅ h₅=>wpAny_pure (wpAny_pure ⟨rfl,h₅⟩)) no)) no))
def cJ {ι:Type}(g:ι->aB->Option aB)(p:FT)(f:FE)(ρ0:aB):List ι->Option (List D)
 | []=>some []
 |d::r=>(g d ρ0).bind λρ1=>(p ρ1).bind λb=>if b=true then(f ρ1).bind λy=>(cJ g p f ρ0 r).map (y:: ·) else cJ g p f ρ0 r
def aX {ι:Type}(m:Nat)(gi:aB->Option (List ι))(g:ι->aB->Option aB)(p:FT)(f:FE):FE:=λρ=>(gi ρ).bind λds=>if ds.length<=sizeLine then(cJ g p f (ρ++List.replicate m .no) ds).map D.lst else none
theorem kQ {ι:Type}{m:Nat}{gi:aB->Option (List ι)}{g:ι->aB->Option aB}{p:FT}{f:FE}{ρ:aB}{d:D}(h:aX m gi g p f ρ=some d): ∃ds ys,gi ρ=some ds/\ds.length<=sizeLine/\cJ g p f (ρ++List.replicate m .no) ds=some ys/\d=.lst ys:=by
 unfold aX at h;cases e1:gi ρ with
 |none=>rw[e1] at h;cases h
 |some ds=>
  rw[e1] at h;dsimp only[Option.bind] at h;split at h
  ·cases e2:cJ g p f (ρ++List.replicate m .no) ds with
   |none=>rw[e2] at h;cases h
   |some ys=>rw[e2] at h;cases h;exact⟨ds,ys,rfl, ‹_›,e2,rfl⟩
  ·cases h
def j9 {ι:Type}(n:Nat)(g:ι->aB->Option aB):Prop:= ∀d (ρ0 ρ1:aB),g d ρ0=some ρ1->ρ1.length=ρ0.length/\ ∀i:Nat,i<n->ρ1[i]? =ρ0[i]?
def sY(n:Nat)(g:qq):Prop:= ∀d (ρ0 ρ1:aB),g d ρ0=some ρ1->ρ1.length=ρ0.length/\ ∀i:Nat,i<n->ρ1[i]? =ρ0[i]?
theorem cZ {n i:Nat}(h:n<=i):j9 n (gN i):=λd ρ0 ρ1 e=>by
 cases e
 exact⟨by simp,λj hj=>List.getElem?_set_ne (by omega)⟩
theorem t8 {n:Nat}:sY n qa:=λd ρ0 ρ1 e=>by
 unfold qa at e;split at e
 ·cases e;exact⟨rfl,λ_ _=>rfl⟩
 ·cases e
theorem kx {n:Nat}{g:FG}{gs:qq}(h1:j9 n g)(h2:sY n gs):sY n (lw g gs):=λd ρ0 ρ1 e=>by
 cases d with
 |nil=>cases e
 |cons d ds=>
  have e:(g d ρ0).bind (λρ'=>gs ds ρ')=some ρ1:=e
  cases e1:g d ρ0 with
  |none=>rw[e1] at e;cases e
  |some ρ2=>
   rw[e1] at e;obtain⟨a1,a2⟩:=h1 d ρ0 ρ2 e1
   obtain⟨b1,b2⟩:=h2 ds ρ2 ρ1 e
   exact⟨b1.trans a1,λi hi=>(b2 i hi).trans (a2 i hi)⟩
theorem zg {n m:Nat}{gs:qq}(h:sY n gs):j9 n (gT m gs):=λd ρ0 ρ1 e=>by
 unfold gT at e;split at e
 ·split at e
  ·exact h _ _ _ e
  ·cases e
 ·cases e
theorem SR.forget {K:W.Frag}{c:Ct}{hid:bF}{ρ0 ρ1:aB}{σ:St}{H:Hp}(h:SR K c hid ρ1 σ H)(hl:ρ1.length=ρ0.length)(hs: ∀(i:Nat) (s:Sl),ρ0[i]? =some s->s=.no\/ρ1[i]? =some s):SR K c hid ρ0 σ H:=by
 have ow: ∀i:Nat,Ow ρ0[i]? ->Ow ρ1[i]? :=λi o=>by
  cases e:ρ0[i]? with
  |none=>rw[e] at o;exact o.elim
  |some s=>
   rcases hs i s e with rfl|z
   ·rw[e] at o;exact o.elim
   ·rw[z,<-e];exact o
 refine⟨h.tr,h.ht,h.h0,h.kp,h.t0,h.c0,h.m0,h.len.trans hl,λi s e=>?_,λi j a n o1 o2=>h.ap i j a n (ow i o1) (ow j o2)⟩
 rcases hs i s e with rfl|z
 ·trivial
 ·exact h.sl i s z
theorem SR.more {K:W.Frag}{c:Ct}{hid:bF}{ρ:aB}{σ:St}{H:Hp}(h:SR K c hid ρ σ H)(m:Nat):SR K c hid (ρ++List.replicate m .no) (σ++List.replicate m none) H:=by
 have lt: ∀ {i:Nat},Ow (ρ++List.replicate m Sl.no)[i]? ->i<ρ.length:=λ{i} o=>by
  by_cases hi:i<ρ.length
  ·exact hi
  ·rw[List.getElem?_append_right (by omega),List.getElem?_replicate] at o
   split at o<;>exact o.elim
 refine⟨h.tr,h.ht,h.h0,h.kp,h.t0,h.c0,h.m0,by simp[h.len],λi s e=>?_,λi j a n o1 o2 q1 q2=>?_⟩
 ·by_cases hi:i<ρ.length
  ·rw[List.getElem?_append_left hi] at e
   have z:=h.sl i s e
   have es:(σ++List.replicate m none)[i]? =σ[i]? :=List.getElem?_append_left (by rw[h.len];exact hi)
   cases s with
   |no=>trivial
   |v d=>obtain⟨x,h1,h2⟩:=z;exact⟨x,es.trans h1,h2⟩
   |own ds=>obtain⟨a,xs,h1,h2⟩:=z;exact⟨a,xs,es.trans h1,h2⟩
   |arg ds=>obtain⟨a,xs,h1,h2⟩:=z;exact⟨a,xs,es.trans h1,h2⟩
   |ob b=>obtain⟨a,h1,h2⟩:=z;exact⟨a,es.trans h1,h2⟩
  ·rw[List.getElem?_append_right (by omega),List.getElem?_replicate] at e
   split at e
   ·cases e;trivial
   ·cases e
 ·have l1:=lt o1
  have l2:=lt o2
  rw[List.getElem?_append_left l1] at o1;rw[List.getElem?_append_left l2] at o2;rw[List.getElem?_append_left (by rw[h.len];exact l1)] at q1
  rw[List.getElem?_append_left (by rw[h.len];exact l2)] at q2
  exact h.ap i j a n o1 o2 q1 q2
section
variable {X:Cx}{c:Ct}{elt tg iter:Expr}{ifs:List Expr}{scope:Scope}{pos:Pos}{N':List Str}{m:Nat}{ι:Type}{IR:Hp->V->ι->Prop}{gi:aB->Option (List ι)}{g:ι->aB->Option aB}{p:FT}{f:FE}
theorem SR.write {K:W.Frag}{hid:bF}{ρ:aB}{σ:St}{H:Hp}{a:Addr}{o':HO}(h:SR K c hid ρ σ H)(hh:hid a=true)(h0:c.H₀ a=none)(na: ∀i:Nat,Ow ρ[i]? ->σ[i]? ≠some (some (.ref a))){o:HO}(ha:H a=some o)(hm: ∀p u,o≠ .nst p u:=by intro _ _ e;cases e)(hn: ∀xs,o'≠ .tup xs:=by intro _ e;cases e):SR K c hid ρ σ (cF H a o'):=by
 have tr': ∀b o,H b=some o-> ∃o2,(cF H a o') b=some o2:=λb o q=>by
  by_cases e:b=a
  ·subst e;exact⟨_,bf⟩
  ·exact⟨o,by rw[aM e];exact q⟩
 refine⟨λb hb=>let⟨o,q⟩:=h.tr b hb;tr' b o q,λb xs hb q=>by
  by_cases e:b=a
  ·subst e;rw[bf] at q;exact hn _ (Option.some.inj q)
  ·rw[aM e] at q;exact h.ht b xs hb q,h.h0,λb o q m=>?_,λb o q=>let⟨o2,q2⟩:=h.t0 b o q;tr' b o2 q2,h.c0,h.m0,h.len,λi s e=>?_,h.ap⟩
 ·rw[aM (bz q h0)];exact h.kp b o q m
 ·have z:=h.sl i s e
  have ne: ∀a',Ow ρ[i]? ->σ[i]? =some (some (.ref a'))->a'≠a:=λa' o q w=>by subst w;exact na i o q
  cases s with
  |no=>trivial
  |v d=>obtain⟨x,h1,h2⟩:=z;exact⟨x,h1,by rw[gy hh];exact h2⟩
  |own ds=>obtain⟨a',xs,h1,h2,h3,h4,h5⟩:=z;exact⟨a',xs,h1,by rw[aM (ne a' (by rw[e];trivial) h1)];exact h2,h3,h4,by rw[gy hh];exact h5⟩
  |arg ds=>obtain⟨a',xs,h1,h2,h3,h4,h5⟩:=z;exact⟨a',xs,h1,by rw[aM (ne a' (by rw[e];trivial) h1)];exact h2,h3,h4,by rw[gy hh];exact h5⟩
  |ob b=>obtain⟨a',h1,h2⟩:=z;exact⟨a',h1,h2.mono (λow x hx o q=>by rw[aM (hx.ne (ne a' (by rw[e];exact ow) h1) ha hm)];exact q) (by rw[gy hh];exact Same.refl _) λ_ _ _ q=>q⟩
structure CLI(Y:Cx)(K:W.Frag)(c:Ct)(hid:bF)(ρ0:aB)(H W:Hp)(D0:Addr)(fp:List Addr)(tn:Nat->Heap->Prop){ι:Type}(g:ι->aB->Option aB)(p:FT)(f:FE)(ds:List ι)(ys:List D)(n i:Nat)(xs:List V)(ad:List D)(σ':St)(H':Hp)(s':Shared):Prop where
 e:n=ds.length-i
 hi:i<=ds.length
 I:Inv Y [] σ' H' s'
 st:tn i s'.heap
 fr: ∀b∈fp,H' b=none
 sr:SR K c hid ρ0 σ' H'
 sm:Same H H'
 ac:H' D0=some (.lst xs)
 rp:Reps K (vw H' hid) xs ad
 w:Same W (vw H' hid)
 hl:xs.length<=i
 na: ∀i:Nat,Ow ρ0[i]? ->σ'[i]? ≠some (some (.ref D0))
 go: ∃rest,cJ g p f ρ0 (ds.drop i)=some rest/\ad++rest=ys
theorem ub(hcalm:X.calm=true)(hT:j9 X.N.length g)
 (hg: ∀C s₀ H₀ ex,BP IR (aL X N' scope C s₀ H₀ ex) c tg g) (hp: ∀C s₀ H₀ ex,vJ (aL X N' scope C s₀ H₀ ex) c ifs p) (he: ∀C s₀ H₀ ex,DP (aL X N' scope C s₀ H₀ ex) c .s elt f)
 {σ3:St} {H H3:Hp} {s3 s4:Shared} {hid:bF} {ρ:aB} {J:It} {it D0 C:Addr} {fp:List Addr} {tn:Nat->Heap->Prop} {ds:List ι} {ys:List D} {R:Result->Shared->Prop} {W:Hp} (hρ:ρ.length=X.N.length)
 (I:Inv (aL X N' scope C s3 H3 fp) [] σ3 H3 s4) (sr:SR X.K c hid (ρ++List.replicate m .no) σ3 H3) (hh:hid D0=true) (h00:c.H₀ D0=none) (na: ∀i:Nat,Ow (ρ++List.replicate m Sl.no)[i]? ->σ3[i]? ≠some (some (.ref D0))) (hacc:H3 D0=some (.lst [])) (sm:Same H H3) (nD:H D0=none) (wv:Same W (vw H3 hid)) (T:Turn X.prog X.w X.K tg J fp it tn) (st:tn 0 s4.heap) (hF: ∀b∈fp,H3 b=none)
 (io:Bi IR H W J ds) (hz:ds.length<=sizeLine) (hc:cJ g p f (ρ++List.replicate m .no) ds=some ys)
 (hR: ∀(s':Shared) (σ':St) (H':Hp) (xs:List V),Inv (aL X N' scope C s3 H3 fp) [] σ' H' s'->Same H H'->H' D0=some (.lst xs)->Reps X.K (vw H' hid) xs ys->R (.ok .next) s'):
 codeAny (model X.prog X.w) X.A (.compLoop (.ListComp elt [⟨tg,iter,ifs,0⟩] scope pos) 0 (.ref it) (.ref D0) (compEnvC scope (lj X.env.cells scope C) C X.env)) R s4:=by
 have stat: ∀ {ae:List (Addr×Obj)} {H':Hp},(∀q∈ae,q.1∉fp)->(∀b∈fp,H' b=none)-> ∀b∈fp,iu (aL X N' scope C s3 H3 fp) ae H' b:=λ{ae H'} hpn hn b hb=>
  ⟨hn b hb,(I.ok.exf b hb).1,I.ok.exfs b hb,.inl hb,(I.ok.exf b hb).2,λq hq e=>hpn q (by have hq':q∈([]:List (Addr×Obj))++ae:=hq;simpa using hq') (by rw[e];exact hb)⟩
 have no: ∀q∈([]:List (Addr×Obj)),q.1∉fp:=λq hq=>nomatch hq
 refine dM (λn s'=> ∃(i:Nat) (xs:List V) (ad:List D) (σ':St) (H':Hp),CLI (aL X N' scope C s3 H3 fp) X.K c hid (ρ++List.replicate m .no) H W D0 fp tn g p f ds ys n i xs ad σ' H' s') ?_ ds.length
  ⟨0,[],[],σ3,H3,by simp,Nat.zero_le _,I,st,hF,sr,sm,hacc,.nil,wv,Nat.zero_le _,na,ys,by simpa using hc,rfl⟩
 rintro n s5 ⟨i,xs,ad,σ5,H5,rfl,hi,I5,st5,f5,sr5,sm5,ac5,rp5,w5,hl5,na5,rest,hc5,hy5⟩
 have wH:Same W H5:=w5.trans (cX _ _)
 by_cases hlt:i<ds.length
 ·have hd:ds[i]? =some ds[i]:=List.getElem?_eq_getElem hlt
  have e2:ds.drop i=ds[i]::ds.drop (i+1):=List.drop_eq_getElem_cons hlt
  rw[e2] at hc5;unfold cJ at hc5;obtain⟨go,yl⟩:=io.1 i ds[i] H5 hd sm5 wH
  refine cm (T.item (aL X N' scope C s3 H3 fp) rfl rfl rfl hcalm i [] s5 σ5 H5 (λ_ _=>False) I5 (stat no f5) st5 go) λr s6 hq_=>?_
  obtain⟨u,hr,h6⟩:=hq_
  subst hr;refine cm h6 λ_ s7 hq_=>?_
  obtain⟨x,H7,I7,r7,y7,st7,f7⟩:=hq_
  obtain⟨s7',rp⟩:=yl x H7 y7
  have rx:=rp hid sr5.tr w5
  have I7':=I7.pinned (stat no f7) (T.obj _ _ st7)
  cases e3:g ds[i] (ρ++List.replicate m .no) with
  |none=>rw[e3] at hc5;cases hc5
  |some ρ1=>
   rw[e3] at hc5;have hc5:(p ρ1).bind (λb=>if b=true then(f ρ1).bind λy=>(cJ g p f (ρ++List.replicate m .no) (ds.drop (i+1))).map (y:: ·) else cJ g p f (ρ++List.replicate m .no) (ds.drop (i+1)))=some rest:=hc5
   obtain⟨tl1,tl2⟩:=hT _ _ _ e3
   have fg: ∀ {σ':St} {H':Hp},SR X.K c hid ρ1 σ' H'->SR X.K c hid (ρ++List.replicate m .no) σ' H':=λ{σ' H'} z=>z.forget tl1 λj s e=>by
    by_cases hj:j<X.N.length
    ·exact .inr ((tl2 j hj).trans e)
    ·refine .inl ?_
     rw[List.getElem?_append_right (by omega),List.getElem?_replicate] at e
     split at e
     ·cases e;rfl
     ·cases e
   have keepT: ∀ {σ':St} {H':Hp} {s':Shared},Inv (aL X N' scope C s3 H3 fp) ([]++jz fp s7.heap) σ' H' s'->tn (i+1) s'.heap/\ ∀b∈fp,H' b=none:=λ{σ' H' s'} J'=>by
    refine⟨T.keep _ _ _ st7 λb hb o e=>(J'.pin (b,o) (List.mem_append_right _ (List.mem_append_right _ (eA hb e)))).1,λb hb=>?_⟩
    obtain⟨o,e,_⟩:=T.obj _ _ st7 b hb
    exact(J'.pin (b,o) (List.mem_append_right _ (List.mem_append_right _ (eA hb e)))).2.1
   refine cm (hg C s3 H3 fp hid _ ds[i] _ s7 σ5 H7 x u (λσ' H'=>H'=H7/\SR X.K c hid ρ1 σ' H7/\OwK (ρ++List.replicate m .no) ρ1 σ5 σ') I7' r7 ⟨sr5.ext s7',rx,ρ1,e3,λσ' z o=>⟨rfl,z,o⟩⟩) λ_ s8 hq_=>?_
   obtain⟨σ8,H8,I8,e8,q8,o8⟩:=hq_
   subst e8;have na8: ∀i:Nat,Ow (ρ++List.replicate m Sl.no)[i]? ->σ8[i]? ≠some (some (.ref D0)):=λj o=>by
    have o1:Ow ρ1[j]? :=by
     by_cases hj:j<X.N.length
     ·rw[tl2 j hj];exact o
     ·exfalso
      rw[List.getElem?_append_right (by omega),List.getElem?_replicate] at o
      split at o<;>exact o.elim
    rw[(o8 j o1).2];exact na5 j o
   cases e4:p ρ1 with
   |none=>rw[e4] at hc5;cases hc5
   |some b=>
    rw[e4] at hc5;have hc5:(if b=true then(f ρ1).bind λy=>(cJ g p f (ρ++List.replicate m .no) (ds.drop (i+1))).map (y:: ·) else cJ g p f (ρ++List.replicate m .no) (ds.drop (i+1)))=some rest:=hc5
    refine cm (hp C s3 H3 fp hid ρ1 _ s8 σ8 H8 (λb' H'=>b'=b/\Same H8 H') I8 ⟨q8,b,e4,λH' s'=>⟨rfl,s'⟩⟩) λok s9 hq_=>?_
    obtain⟨H9,I9,e9,sm9⟩:=hq_
    subst e9;have w9:Same (vw H5 hid) (vw H9 hid):=ba (s7'.trans sm9)
    cases ok with
    |false=>
     have hc5:cJ g p f (ρ++List.replicate m .no) (ds.drop (i+1))=some rest:=hc5
     obtain⟨k1,k2⟩:=keepT I9
     exact⟨ds.length- (i+1),by omega,i+1,xs,ad,σ8,H9,rfl,hlt,I9.unpinned,k1,k2,fg (q8.ext sm9),sm5.trans (s7'.trans sm9),sm9 _ _ (s7' _ _ ac5),rp5.mono w9,w5.trans w9,by omega,na8,rest,hc5,hy5⟩
    |true=>
     have hc5:((f ρ1).bind λy=>(cJ g p f (ρ++List.replicate m .no) (ds.drop (i+1))).map (y:: ·))=some rest:=hc5
     cases e5:f ρ1 with
     |none=>rw[e5] at hc5;cases hc5
     |some y=>
      rw[e5] at hc5;have hc5:(cJ g p f (ρ++List.replicate m .no) (ds.drop (i+1))).map (y:: ·)=some rest:=hc5
      cases e6:cJ g p f (ρ++List.replicate m .no) (ds.drop (i+1)) with
      |none=>rw[e6] at hc5;cases hc5
      |some rest'=>
       rw[e6] at hc5;cases hc5
       show wpAny (model X.prog X.w) X.A (eval elt _) _ _ s9;refine cm (he C s3 H3 fp hid ρ1 _ s9 σ8 H9 (λv H'=>Same H9 H'/\Rep X.K (vw H' hid) v y) I9 ⟨q8.ext sm9,y,e5,λv H' s' r=>⟨s',r⟩⟩) λv s10 hq_=>?_
       obtain⟨z,H10,I10,rz,sm10,rp10⟩:=hq_
       have sm':Same H5 H10:=s7'.trans (sm9.trans sm10)
       have a10:H10 D0=some (.lst xs):=sm' _ _ ac5
       refine cm (fZ (X:=aL X N' scope C s3 H3 fp) _ s10 σ8 H10 (.ref D0) [z] (.ref D0) [v] (λ_ H'=>H'=cF H10 D0 (.lst (xs++[z]))) I10 rfl (.cons rz .nil) ⟨D0,xs,z,rfl,rfl,a10,by omega,rfl⟩) λ_ s11 ⟨_,H11,I11,_,e11⟩=>?_
       subst e11;obtain⟨k1,k2⟩:=keepT I11
       have vv:vw (cF H10 D0 (.lst (xs++[z]))) hid=vw H10 hid:=gy hh
       have w10:Same (vw H5 hid) (vw H10 hid):=ba sm'
       refine⟨ds.length- (i+1),by omega,i+1,xs++[z],ad++[y],σ8,_,rfl,hlt,I11.unpinned,k1,k2,?_,λb o e=>?_,bf,?_,?_,by simp;omega,na8,rest',e6,by rw[<-hy5];simp⟩
       ·
        have q10:=fg ((q8.ext sm9).ext sm10)
        exact q10.write hh h00 na8 a10
       ·rw[aM (bz e nD)];exact sm' _ _ (sm5 _ _ e)
       ·rw[vv];exact(rp5.mono w10).append (.cons rp10 .nil)
       ·rw[vv];exact w5.trans w10
 ·have e:i=ds.length:=by omega
  subst e;rw[List.drop_eq_nil_of_le (Nat.le_refl _)] at hc5;cases hc5
  rw[List.append_nil] at hy5;subst hy5;refine cm (T.done (aL X N' scope C s3 H3 fp) rfl rfl rfl hcalm ds.length [] s5 σ5 H5 (λ_ _=>False) I5 (stat no f5) st5 (io.2 H5 sm5 wH)) λr s6 hq_=>?_
  obtain⟨hr,I6⟩:=hq_
  subst hr;exact hR s6 σ5 H5 xs I6 sm5 ac5 rp5
theorem lE(hcalm:X.calm=true)(hk:scope.kind=.function)(hs:uq scope X.env.scope=true)(hn:ur X.N N' scope=true)(hm:N'.length-X.N.length=m)(hT:j9 X.N.length g)
 (hg: ∀C s₀ H₀ ex,BP IR (aL X N' scope C s₀ H₀ ex) c tg g) (hp: ∀C s₀ H₀ ex,vJ (aL X N' scope C s₀ H₀ ex) c ifs p) (he: ∀C s₀ H₀ ex,DP (aL X N' scope C s₀ H₀ ex) c .s elt f)
 {E:Value->Shared->Prop} {ae:List (Addr×Obj)} {σ:St} {H:Hp} {s:Shared} {hid:bF} {ρ:aB} {J:It} {it:Addr} {fp:List Addr} {tn:Nat->Heap->Prop} {ds:List ι} {ys:List D} {RR:Value->Addr->Result->Shared->Prop}
 (I:Inv X ae σ H s) (sr:SR X.K c hid ρ σ H) (T:Turn X.prog X.w X.K tg J fp it tn) (st:tn 0 s.heap) (hF: ∀b∈fp,iu X ae H b) (io:Bi IR H (vw H hid) J ds) (hz:ds.length<=sizeLine) (hc:cJ g p f (ρ++List.replicate m .no) ds=some ys)
 (hR: ∀(D C:Addr) (s':Shared) (H':Hp) (xs:List V),s.heap.objs.size<=D->s.heap.objs.size<=C->D≠C->H D=none->Same H H'->H' D=some (.lst xs)->Reps X.K (vw H' (aV hid D)) xs ys->(∃m,s'.heap.Ns C m)->H' C=none->s'.os=s.os->AllBare s'.gens->HOk X.prog X.w H' s'.heap->Un (gJ X.stack) fp H H' s.heap s'.heap->RR (.ref D) C (.ok .next) s'):
 wpAny (model X.prog X.w) X.A (newList []) (λacc s₃=>wpAny (model X.prog X.w) X.A (newFunctionEnv scope X.env.globals (oi X.env.cells scope.names []) [] X.env.qual none .none (some X.env)) (λcenv s₄=>
  codeAny (model X.prog X.w) X.A (.compStart (.ListComp elt [⟨tg,iter,ifs,0⟩] scope pos) 0 (.ref it) acc {cenv with scope:=relabel scope X.env}) (RR acc cenv.locals) s₄) E s₃) E s:=by
 refine wpAny_newObj_type (si λh₁ hns₁ kp1 oc₁=>?_)
 dsimp only at hns₁ kp1 oc₁⊢
 generalize hH2:s.heap.push {cls:=.type "list",dict:=none,data:=.seq ([]:List Value).toArray}=H2 at hns₁ kp1 oc₁⊢
 have hC:H2.objs.size=s.heap.objs.size+1:=by rw[<-hH2,Heap.size_push]
 have hD:H s.heap.objs.size=none:=I.hok.fresh (Nat.le_refl _)
 have I2:Inv X ae σ (cF H s.heap.objs.size (.lst [])) {s with heap:=H2}:=by
  rw[<-hH2];exact I.laid (t':=s.toks) (λb o e=>Heap.get?_push_of_some _ e) (Nat.le_refl _) ⟨Nat.zero_le _,[],0,.nil,Heap.get?_push_size _ rfl⟩
 have fpLt: ∀b∈fp,b<s.heap.objs.size:=λb hb=>let⟨o,e,_⟩:=T.obj 0 s.heap st b hb;Heap.lt_size e
 have hF2: ∀b∈fp,iu X ae (cF H s.heap.objs.size (.lst [])) b:=λb hb=>⟨by rw[aM (Nat.ne_of_lt (fpLt b hb))];exact(hF b hb).1,(hF b hb).2⟩
 have kp0: ∀b o,s.heap.get? b=some o->H2.get? b=some o:=λb o e=>by rw[<-hH2];exact Heap.get?_push_of_some _ e
 have IY:=oI (tk:=s.toks) (N':=N') (fp:=fp) I2 hF2 (λb hb=>let⟨o,e,_⟩:=T.obj 0 s.heap st b hb;⟨o,kp0 b o e⟩) hk hs hn hns₁ kp1 oc₁
 rw[hm] at IY;dsimp only at IY;have sr0:SR X.K c (aV hid s.heap.objs.size) (ρ++List.replicate m .no) (σ++List.replicate m none) (cF H s.heap.objs.size (.lst [])):=(sr.hide (bc hD _) hD bf).more m
 have hρ:ρ.length=X.N.length:=by rw[<-sr.len];exact I.len
 have nf:hid s.heap.objs.size=false:=sr.fresh hD
 have st1:tn 0 h₁:=T.keep _ _ _ st λb hb o e=>kp1 b o (kp0 b o e)
 have na0: ∀i:Nat,Ow (ρ++List.replicate m Sl.no)[i]? ->(σ++List.replicate m none)[i]? ≠some (some (V.ref s.heap.objs.size)):=(sr.more m).notOw nf
 have wv:Same (vw H hid) (vw (cF H s.heap.objs.size (.lst [])) (aV hid s.heap.objs.size)):=by rw[rd hD];exact Same.refl _
 have loop: ∀s4:Shared,s4={s with heap:=h₁,toks:=s.toks}->
  codeAny (model X.prog X.w) X.A (.compLoop (.ListComp elt [⟨tg,iter,ifs,0⟩] scope pos) 0 (.ref it) (.ref s.heap.objs.size) (compEnvC scope (lj X.env.cells scope H2.objs.size) H2.objs.size X.env)) (RR (.ref s.heap.objs.size) H2.objs.size) s4:=by
  rintro s4 rfl
  refine ub (H:=H) (hid:=aV hid s.heap.objs.size) (W:=vw H hid) hcalm hT hg hp he hρ IY sr0 gq (sr.fresh0 hD) na0 bf (bc hD _) hD wv T st1 (λb hb=>(hF2 b hb).1) io hz hc ?_
  intro s' σ' H' xs I' sm' hx' rp';have un1:Un (gJ X.stack) fp H (cF H s.heap.objs.size (.lst [])) s.heap H2:=Un.laid (λb o e=>kp0 b o e) (Nat.le_refl _) hD
  refine hR s.heap.objs.size H2.objs.size s' H' xs (Nat.le_refl _) (by rw[hC];exact Nat.le_succ _) (by rw[hC];exact Nat.ne_of_lt (Nat.lt_succ_self _)) hD sm' hx' rp' (let⟨m,hm,_⟩:=I'.loc;⟨m,hm⟩) I'.free I'.os I'.bare I'.hok (un1.trans I'.base)
 exact codeAny_compStart_list (loop _ rfl) (T.self X.A 0 _ _ _ st1 (loop _ rfl))
theorem cT(hcalm:X.calm=true)(hT:j9 X.N.length g)(hi:C7 IR X c tg iter gi)
 (hg: ∀C s₀ H₀ ex,BP IR (aL X N' scope C s₀ H₀ ex) c tg g) (hp: ∀C s₀ H₀ ex,vJ (aL X N' scope C s₀ H₀ ex) c ifs p) (he: ∀C s₀ H₀ ex,DP (aL X N' scope C s₀ H₀ ex) c .s elt f)
 (hk:scope.kind=.function:=by rfl) (hs:uq scope X.env.scope=true:=by kernel_rfl) (hn:ur X.N N' scope=true:=by kernel_rfl) (hm:N'.length-X.N.length=m:=by rfl) (hset: ∀x,foldedSetIterable iter X.env x=pure x:=by intro _;rfl):
 DP X c .n (.ListComp elt [⟨tg,iter,ifs,0⟩] scope pos) (aX m gi g p f):=by
 intro hid ρ ae s σ H Q I hq;obtain⟨sr,d,hd,q⟩:=hq
 obtain⟨ds,ys,e1,hz,hc,rfl⟩:=kQ hd
 rw[eval_ListComp];refine wpAny_comprehension_free (use:=none) rfl hset (fw λx hx=>I.ok.has x (gS hs x hx)) hk (jL hs) ?_
 refine cm (hi hid ρ ae s σ H (λJ H'=>Same H H'/\Bi IR H' (vw H' hid) J ds) I ⟨sr,ds,e1,λJ H' s1 io=>⟨s1,io⟩⟩) λv s1 h1=>cm h1 λitv s2 h2=>?_
 obtain⟨it,fp,tn,J,H2,rfl,I2,T,st2,f2,sm,io⟩:=h2
 refine lE (RR:=λacc C=>compPost (model X.prog X.w) X.A X.xe none (EP X ae σ Q) acc C) hcalm hk hs hn hm hT hg hp he I2 (sr.ext sm) T st2 f2 io hz hc ?_
 intro D C s' H' xs hDge hCge hDC hD sm' hx rp ⟨mm,hns⟩ hC' hos hbare hok hun;refine⟨mm,hns,λh' hsb=>⟨.ref D,H',?_,rfl,q _ H' (sm.trans sm') ⟨D,xs,ys,rfl,rfl,sm.free hD,hx,rp⟩⟩⟩
 have neC: ∀b o,s2.heap.get? b=some o->b≠C:=λb o e z=>by subst z;exact absurd (Heap.lt_size e) (Nat.not_lt.mpr hCge)
 have hun':Un (gJ X.stack) fp H2 H' s2.heap h':=⟨λb o e n h1 h2=>(hsb.2 b (neC b o e)).trans (hun.keep b o e n h1 h2),λb o e n h1 h2=>let⟨sl,z⟩:=hun.slot b o e n h1 h2;⟨sl,(hsb.2 b (neC b o e)).trans z⟩,hun.free,λb o e h2=>let⟨o',z⟩:=hun.there b o e h2;⟨o',(hsb.2 b (neC b o e)).trans z⟩,hun.tups,hun.frzs,hun.tbls⟩
 have hok':HOk X.prog X.w H' h':=λb o e=>by
  have nb: ∀b' o',H' b'=some o'->b'≠C:=λb' o' e' z=>by subst z;rw[hC'] at e';cases e'
  refine(hok b o e).stay (λc' u hc' z=>(hsb.2 c' ?_).trans z) (λ_ z=>z) λ_ _ z=>z
  rcases hc' with z'|z'
  ·rw[z'];exact nb b o e
  ·exact nb c' _ z'
 exact I2.call' (s':={s' with heap:=h'}) (ch:=fp) hos hun' hok' hbare λb hb=>⟨(f2 b hb).2.2.2.1,(f2 b hb).2.1,(f2 b hb).2.2.2.2.1,(f2 b hb).2.2.2.2.2⟩
end
section
variable {X:Cx}{c:Ct}{elt tg iter:Expr}{ifs:List Expr}{scope:Scope}{pos spos py:Pos}{N':List Str}{m:Nat}{gi:FA}{g:FG}{p:FT}{f:FE}{y:Str}
theorem xt(i:Nat)(hcalm:X.calm=true)(hN:X.N.Nodup)(hT:j9 X.N.length g)(hi:BI X c tg iter gi)
 (hg: ∀C s₀ H₀ ex,uF (aL X N' scope C s₀ H₀ ex) c tg g) (hp: ∀C s₀ H₀ ex,vJ (aL X N' scope C s₀ H₀ ex) c ifs p) (he: ∀C s₀ H₀ ex,DP (aL X N' scope C s₀ H₀ ex) c .s elt f)
 (hsw:swapsWith (.ListComp elt [⟨tg,iter,ifs,0⟩] scope pos) (some (.Name y py)) spos.line X.env=pure true) (hyi:X.N[i]? =some y) (hy:X.env.scope.names.lookup y=some .local)
 (hk:scope.kind=.function) (hs:uq scope X.env.scope=true) (hn:ur X.N N' scope=true) (hm:N'.length-X.N.length=m) (hset: ∀x,foldedSetIterable iter X.env x=pure x) (ρ:aB):
 PS X (.Assign [.Name y py] (.ListComp elt [⟨tg,iter,ifs,0⟩] scope pos) spos) (xi (λσ H Q=> ∃hid,wq X.K c hid .n (aX m gi g p f) ρ σ H Q) (rZ i)):=by
 intro ae s σ H E I hq;obtain⟨hid,sr,d,hd,q⟩:=hq
 obtain⟨ds,ys,e1,hz,hc,rfl⟩:=kQ hd
 rw[exec_Assign_Name_used _ _ _ _ hsw];refine wpAny_bind (wpAny_standAt (wpAny_bind ?_))
 show wpAny _ X.A (do let _ <-comprehension (.ListComp elt [⟨tg,iter,ifs,0⟩] scope pos) scope X.env _ (newList []) false (eval iter X.env) (some (assign (.Name y py) X.env))) _ _ s
 refine wpAny_bind (wpAny_mono (wpAny_comprehension_free (use:=some (assign (.Name y py) X.env)) (Q:=λ_ s'=>SP X ae E .next s') rfl hset (fw λx hx=>I.ok.has x (gS hs x hx)) hk (jL hs) ?_) (λ_ s' hq=>wpAny_pure (wpAny_pure hq)) λ_ _ e=>e)
 refine cm (hi hid ρ ae s σ H (λJ H'=>Same H H'/\Dc X.K H' (vw H' hid) J ds) I ⟨sr,ds,e1,λJ H' s1 io=>⟨s1,io⟩⟩) λv s1 h1=>cm h1 λitv s2 h2=>?_
 obtain⟨it,fp,tn,J,H2,rfl,I2,T,st2,f2,sm,io⟩:=h2
 refine lE (IR:=Rep X.K) (RR:=λacc C=>compPost (model X.prog X.w) X.A X.xe (some (assign (.Name y py) X.env)) (λ_ s'=>SP X ae E .next s') acc C) hcalm hk hs hn hm hT hg hp he I2 (sr.ext sm) T st2 f2 io hz hc ?_
 intro D C s' H' xs hDge hCge hDC hD sm' hx rp ⟨mm,hns⟩ hC' hos hbare hok hun;have I3:Inv X ae σ H' s':=I2.call' (ch:=fp) hos hun hok hbare λb hb=>⟨(f2 b hb).2.2.2.1,(f2 b hb).2.1,(f2 b hb).2.2.2.2.1,(f2 b hb).2.2.2.2.2⟩
 have fin:=q _ H' (sm.trans sm') ⟨D,xs,ys,rfl,rfl,sm.free hD,hx,rp⟩
 have ltC: ∀b o,s2.heap.get? b=some o->b≠C:=λb o e z=>by subst z;exact absurd (Heap.lt_size e) (Nat.not_lt.mpr hCge)
 have hLC:C≠X.env.locals:=λz=>by
  have:=I2.lt
  rw[<-z] at this;exact absurd this (Nat.not_lt.mpr hCge)
 show wpAny _ X.A (assign (.Name y py) X.env (.ref D)) _ _ s';refine wpAny_assign_Name (js (v:=.ref D) I3 hN hyi (.inl hy) rfl (λs'' I4 hb=>?_) (.inr hy))
 obtain⟨a,hsb,ha⟩:=hb
 have hCa:C≠a:=by
  rcases ha with rfl|ha
  ·exact hLC
  ·obtain⟨w',o,ho,_⟩:=I2.cell y a ha
   exact λz=>ltC a o ho z.symm
 refine⟨mm,hns.sameBut hsb hCa,λh3 hs3=>⟨_,H',?_,fin⟩⟩
 refine I4.turned (t':=s''.toks) (it:=C) (λb o nb e=>(hs3.2 b nb).trans e) hC' hLC (.inr (Nat.le_trans I2.sz hCge)) (λx c' e z=>?_) (λq hq z=>?_)
 ·obtain⟨w',o,ho,_⟩:=I2.cell x c' e
  exact ltC c' o ho z
 ·exact ltC q.1 q.2 (I2.pin q hq).1 z
theorem x8(i:Nat){k:Kd}(hcalm:X.calm=true)(hN:X.N.Nodup)(hT:j9 X.N.length g)(hi:BI X c tg iter gi)
 (hg: ∀C s₀ H₀ ex,uF (aL X N' scope C s₀ H₀ ex) c tg g) (hp: ∀C s₀ H₀ ex,vJ (aL X N' scope C s₀ H₀ ex) c ifs p) (he: ∀C s₀ H₀ ex,DP (aL X N' scope C s₀ H₀ ex) c .s elt f)
 (hsw:swapsWith (.ListComp elt [⟨tg,iter,ifs,0⟩] scope pos) (some (.Name y py)) spos.line X.env=pure true:=by rfl) (hyi:X.N[i]? =some y:=by rfl) (hy:X.env.scope.names.lookup y=some .local:=by rfl)
 (hk:scope.kind=.function:=by rfl) (hs:uq scope X.env.scope=true:=by kernel_rfl) (hn:ur X.N N' scope=true:=by kernel_rfl) (hm:N'.length-X.N.length=m:=by rfl) (hset: ∀x,foldedSetIterable iter X.env x=pure x:=by intro _;rfl):
 DS X c k (.Assign [.Name y py] (.ListComp elt [⟨tg,iter,ifs,0⟩] scope pos) spos) (dg i (aX m gi g p f)):=λρ=>PS.imp (xt i hcalm hN hT hi hg hp he hsw hyi hy hk hs hn hm hset ρ) λD σ H hq_=>by
 obtain⟨hid,sr,q⟩:=hq_
 unfold dg at q;cases e1:aX m gi g p f ρ with
 |none=>rw[e1] at q;exact q.elim
 |some z=>
  rw[e1] at q;exact⟨hid,sr,z,e1,λv H' s r=>zX (sr.post s r (by decide)) q⟩
end
mutual
def cC:D->D->Bool
 | .non,.non=>true
 | .bl a,.bl b=>a==b
 | .bl a,.int b=>(if a then 1 else 0)==b
 | .int a,.bl b=>a==(if b then 1 else 0)
 | .int a,.int b=>a==b
 | .str a,.str b=>a==b
 | .tup a,.tup b=>ck a b
 | .lst a,.lst b=>ck a b
 | .lst a,.scr b=>ck a b
 | .scr a,.lst b=>ck a b
 | .scr a,.scr b=>ck a b
 |_,_=>false
def ck:List D->List D->Bool
 | [],[]=>true
 |x::xs,y::ys=>cC x y&&ck xs ys
 |_,_=>false
end
mutual
def dG:D->Nat
 | .tup a=>cR a+1
 | .lst a=>cR a+1
 | .scr _=>cLine
 |_=>0
def cR:List D->Nat
 | []=>0
 |x::xs=>max (dG x) (cR xs)
end
theorem jg: ∀ {xs:List D} {i:Nat} {d:D},xs[i]? =some d->dG d<=cR xs
 | [],_,_,h=>by simp at h
 |x::xs,0,d,h=>by simp at h;subst h;unfold cR;exact Nat.le_max_left _ _
 |x::xs,i+1,d,h=>by
  have:=jg (xs:=xs) (i:=i) (d:=d) (by simpa using h)
  unfold cR;exact Nat.le_trans this (Nat.le_max_right _ _)
mutual
theorem gQ: ∀x:D,cC x x=true
 | .non=>by unfold cC;rfl
 | .bl a=>by unfold cC;simp
 | .int a=>by unfold cC;simp
 | .str a=>by unfold cC;simp
 | .tup a=>by unfold cC;exact gd a
 | .lst a=>by unfold cC;exact gd a
 | .scr a=>by unfold cC;exact gd a
theorem gd: ∀x:List D,ck x x=true
 | []=>by unfold ck;rfl
 |x::xs=>by unfold ck;rw[gQ x,gd xs];rfl
end
def iy(xs ys:List D)(j:Nat):Bool:=match xs[j]?,ys[j]? with
 |some x,some y=>cC x y
 |_,_=>false
theorem mF {xs ys:List D}(h:xs.length=ys.length):(List.range xs.length).all (iy xs ys)=ck xs ys:=by
 induction xs generalizing ys with
 |nil=>
  cases ys with
  |nil=>unfold ck;rfl
  |cons y ys=>simp at h
 |cons x xs ih=>
  cases ys with
  |nil=>simp at h
  |cons y ys=>
   rw[List.length_cons,List.range_succ_eq_map,List.all_cons,List.all_map];have e0:iy (x::xs) (y::ys) 0=cC x y:=rfl
   have e1:((iy (x::xs) (y::ys))∘Nat.succ)=iy xs ys:=by funext j;simp[iy]
   rw[e0,e1,ih (by simpa using h)]
   conv=>rhs;unfold ck
theorem kJ: ∀ {xs ys:List D},xs.length≠ys.length->ck xs ys=false
 | [],[],h=>absurd rfl h
 | [],_::_,_=>by unfold ck;rfl
 |_::_,[],_=>by unfold ck;rfl
 |x::xs,y::ys,h=>by unfold ck;rw[kJ (xs:=xs) (ys:=ys) (by simpa using h)];simp
section
variable {X:Cx}{ae:List (Addr×Obj)}{σ:St}{H:Hp}{s:Shared}
theorem eJ(I:Inv X ae σ H s){a:Addr}{xs ys:List V}(h:SqL X.K H a xs)(h':SqT X.K H a ys):False:=by
 obtain⟨its,_,pl,_⟩:=I.list h
 obtain⟨its',_,pt,_⟩:=I.tuple h'
 exact SeqAt.ne_of_list_tuple pl.isList pt rfl
theorem Ap {a b:List D}(h: ∀zs,ck a zs=ck b zs):(∀z,cC (.tup a) z=cC (.tup b) z)/\(∀z,cC (.lst a) z=cC (.lst b) z)/\ ∀z,cC (.scr a) z=cC (.lst b) z:=by
 refine⟨λz=>?_,λz=>?_,λz=>?_⟩<;>cases z<;>unfold cC<;>first|exact h _|rfl
theorem Bb {b:List D}: ∀z,cC (.scr b) z=cC (.lst b) z:=(Ap λ_=>rfl).2.2
mutual
theorem Rep.eqv(I:Inv X ae σ H s): ∀ {v:V} {x y:D},Rep X.K H v x->Rep X.K H v y-> ∀z,cC x z=cC y z
 |_,_,_,.non,.non=>λ_=>rfl
 |_,_,_,.bl,.bl=>λ_=>rfl
 |_,_,_,.int,.int=>λ_=>rfl
 |_,_,_,.str,.str=>λ_=>rfl
 |_,_,_,.tup h r,.tup h' r'=>by rw[I.tuple_inj h h'] at r;exact(Ap (Reps.eqv I r r')).1
 |_,_,_,.lst h r,.lst h' r'=>by rw[I.list_inj (SqL.of h) (SqL.of h')] at r;exact(Ap (Reps.eqv I r r')).2.1
 |_,_,_,.lst h r,.scr h' r'=>by rw[I.list_inj (SqL.of h) h'.seq] at r;exact λz=>((Ap (Reps.eqv I r r')).2.1 z).trans (Bb z).symm
 |_,_,_,.scr h r,.lst h' r'=>by rw[I.list_inj h.seq (SqL.of h')] at r;exact(Ap (Reps.eqv I r r')).2.2
 |_,_,_,.scr h r,.scr h' r'=>by rw[I.list_inj h.seq h'.seq] at r;exact λz=>((Ap (Reps.eqv I r r')).2.2 z).trans (Bb z).symm
 |_,_,_,.tup h r,.lst h' r'=>(eJ I (SqL.of h') h).elim
 |_,_,_,.lst h r,.tup h' r'=>(eJ I (SqL.of h) h').elim
 |_,_,_,.tup h r,.scr h' r'=>(eJ I h'.seq h).elim
 |_,_,_,.scr h r,.tup h' r'=>(eJ I h.seq h').elim
theorem Reps.eqv(I:Inv X ae σ H s): ∀ {v:List V} {x y:List D},Reps X.K H v x->Reps X.K H v y-> ∀z,ck x z=ck y z
 |_,_,_,.nil,.nil=>λ_=>rfl
 |_,_,_,.cons r t,.cons r' t'=>λz=>by
  cases z with
  |nil=>unfold ck;rfl
  |cons w ws=>unfold ck;rw[Rep.eqv I r r' w,Reps.eqv I t t' ws]
end
theorem aH(I:Inv X ae σ H s){a:Addr}{xs:List V}{ds:List D}(h:SqL X.K H a xs)(r:Reps X.K H xs ds): ∃its:List Value,s.heap.IsList a its.toArray/\its.length=ds.length/\ ∀(j:Nat) (hj:j<its.length),∃(v:V) (d:D),ds[j]? =some d/\RelV v its[j]/\Rep X.K H v d:=by
 obtain⟨its,rv,pl,_⟩:=I.list h
 have h1:=rv.length
 have h2:=r.length
 refine⟨its,pl.isList,by omega,λj hj=>?_⟩
 have e:xs[j]? =some xs[j]:=List.getElem?_eq_getElem (by omega)
 obtain⟨u,e1,r1⟩:=rv.get e
 obtain⟨d,e2,r2⟩:=r.get' e
 have:its[j]=u:=by rw[List.getElem?_eq_getElem hj] at e1;exact Option.some.inj e1
 rw[this];exact⟨xs[j],d,e2,r1,r2⟩
theorem bN(I:Inv X ae σ H s){a:Addr}{xs:List V}{ds:List D}(h:SqT X.K H a xs)(r:Reps X.K H xs ds): ∃its:List Value,s.heap.IsTuple a its.toArray/\its.length=ds.length/\ ∀(j:Nat) (hj:j<its.length),∃(v:V) (d:D),ds[j]? =some d/\RelV v its[j]/\Rep X.K H v d:=by
 obtain⟨its,rv,pl,_⟩:=I.tuple h
 have h1:=rv.length
 have h2:=r.length
 refine⟨its,pl,by omega,λj hj=>?_⟩
 have e:xs[j]? =some xs[j]:=List.getElem?_eq_getElem (by omega)
 obtain⟨u,e1,r1⟩:=rv.get e
 obtain⟨d,e2,r2⟩:=r.get' e
 have:its[j]=u:=by rw[List.getElem?_eq_getElem hj] at e1;exact Option.some.inj e1
 rw[this];exact⟨xs[j],d,e2,r1,r2⟩
end
section
variable {X:Cx}{ae:List (Addr×Obj)}{σ:St}{H:Hp}{s:Shared}
theorem fj(A:Around):A.in1.units=A.units+1:=rfl
theorem yw {A:Around}{n:Nat}(IH: ∀ {x y:D} {v u:V} {a b:Value} {A:Around},dG x<n->A.units+dG x<cLine->RelV v a->RelV u b->Rep X.K H v x->Rep X.K H u y->SeqAt.EqAt A s a b (cC x y)){xs ys:List D}{its its2:List Value}(hd:cR xs<n)(hu:A.units+cR xs<cLine)
 (g1: ∀(j:Nat) (hj:j<its.length),∃(v:V) (d:D),xs[j]? =some d/\RelV v its[j]/\Rep X.K H v d) (g2: ∀(j:Nat) (hj:j<its2.length),∃(v:V) (d:D),ys[j]? =some d/\RelV v its2[j]/\Rep X.K H v d):
 ∀j (h1:j<its.toArray.size) (h2:j<its2.toArray.size),SeqAt.EqAt A s its.toArray[j] its2.toArray[j] (iy xs ys j):=λj h1 h2=>by
 obtain⟨v,d,e1,r1,p1⟩:=g1 j (by simpa using h1)
 obtain⟨u,d',e2,r2,p2⟩:=g2 j (by simpa using h2)
 have ez:iy xs ys j=cC d d':=by unfold iy;rw[e1,e2]
 rw[ez];have hdd:=jg e1
 exact IH (by omega) (by omega) (by simpa using r1) (by simpa using r2) p1 p2
theorem hX(I:Inv X ae σ H s){A:Around}{n:Nat}(IH: ∀ {x y:D} {v u:V} {a b:Value} {A:Around},dG x<n->A.units+dG x<cLine->RelV v a->RelV u b->Rep X.K H v x->Rep X.K H u y->SeqAt.EqAt A s a b (cC x y)){xs ys:List D}{zs ws:List V}{a b:Addr}(hd:cR xs<n)(hu:A.units+(cR xs+1)<cLine)
 (h1:SqL X.K H a zs) (r1:Reps X.K H zs xs) (h2:SqL X.K H b ws) (r2:Reps X.K H ws ys):SeqAt.RcAt A s (.ref a) (.ref b) (ck xs ys)/\SeqAt.RcNeAt A s (.ref a) (.ref b) (!ck xs ys):=by
 obtain⟨its,l1,n1,g1⟩:=aH I h1 r1
 obtain⟨its2,l2,n2,g2⟩:=aH I h2 r2
 by_cases e:xs.length=ys.length
 ·have hsz:its.toArray.size=its2.toArray.size:=by simp;omega
  have he:=yw (A:=A.in1) IH hd (by rw[fj];omega) g1 g2
  have ea:(List.range its.toArray.size).all (iy xs ys)=ck xs ys:=by rw[List.size_toArray,n1];exact mF e
  rw[<-ea];exact⟨SeqAt.RcAt.lists l1 l2 hsz (by omega) he,SeqAt.RcNeAt.lists l1 l2 hsz (by omega) he⟩
 ·rw[kJ e]
  have hsz:(its.toArray.size !=its2.toArray.size)=true:=by simp;omega
  exact⟨SeqAt.RcAt.lists_lengths l1 l2 hsz (by omega),SeqAt.RcNeAt.lists_lengths l1 l2 hsz (by omega)⟩
theorem rD(I:Inv X ae σ H s){A:Around}{n:Nat}(IH: ∀ {x y:D} {v u:V} {a b:Value} {A:Around},dG x<n->A.units+dG x<cLine->RelV v a->RelV u b->Rep X.K H v x->Rep X.K H u y->SeqAt.EqAt A s a b (cC x y)){xs ys:List D}{zs ws:List V}{a b:Addr}(hd:cR xs<n)(hu:A.units+(cR xs+1)<cLine)
 (h1:SqT X.K H a zs) (r1:Reps X.K H zs xs) (h2:SqT X.K H b ws) (r2:Reps X.K H ws ys):SeqAt.RcAt A s (.ref a) (.ref b) (ck xs ys)/\SeqAt.RcNeAt A s (.ref a) (.ref b) (!ck xs ys):=by
 obtain⟨its,l1,n1,g1⟩:=bN I h1 r1
 obtain⟨its2,l2,n2,g2⟩:=bN I h2 r2
 have he:=yw (A:=A.in1) IH hd (by rw[fj];omega) g1 g2
 have ea:((List.range (min its.toArray.size its2.toArray.size)).all (iy xs ys)&&its.toArray.size==its2.toArray.size)=ck xs ys:=by
  rw[List.size_toArray,List.size_toArray,n1,n2]
  by_cases e:xs.length=ys.length
  ·rw[<-e,Nat.min_self,mF e];simp
  ·rw[kJ e];simp[e]
 rw[<-ea];exact⟨SeqAt.RcAt.tuples l1 l2 (by omega) he,SeqAt.RcNeAt.tuples l1 l2 (by omega) he⟩
theorem jH(I:Inv X ae σ H s){A:Around}{a b:Addr}{x y:D}(r1:Rep X.K H (.ref a) x)(r2:Rep X.K H (.ref b) y)(e:a=b):SeqAt.EqAt A s (.ref a) (.ref b) (cC x y):=by
 subst e;rw[Rep.eqv I r1 r2,gQ];exact SeqAt.EqAt.same _
theorem Ak(I:Inv X ae σ H s){n:Nat}(IH: ∀ {x y:D} {v u:V} {a b:Value} {A:Around},dG x<n->A.units+dG x<cLine->RelV v a->RelV u b->Rep X.K H v x->Rep X.K H u y->SeqAt.EqAt A s a b (cC x y)){x y:D}{v u:V}{a b:Value}{A:Around}(hd:dG x<n+1)(hu:A.units+dG x<cLine)(hc:A.units<cLine)
 (ra:RelV v a) (rb:RelV u b) (px:Rep X.K H v x) (py:Rep X.K H u y):SeqAt.EqAt A s a b (cC x y):=by
 unfold cC;cases px with
 |non=>
  cases ra
  cases py with
  |non=>
   cases rb
   exact SeqAt.EqAt.same _
  |bl=>
   cases rb
   exact SeqAt.EqAt.none_bool _
  |int=>
   obtain⟨t2,rfl⟩:=rb
   exact SeqAt.EqAt.none_int _ _
  |str=>
   obtain⟨t2,rfl⟩:=rb
   exact SeqAt.EqAt.none_str _ _
  | @tup a2 _ _ h2 r2=>
    cases rb
    obtain⟨its2,l2,_⟩:=bN I h2 r2
    exact SeqAt.EqAt.none_tuple l2 (by omega)
  | @lst a2 _ _ h2 r2=>
    cases rb
    obtain⟨its2,l2,_⟩:=aH I (SqL.of h2) r2
    exact SeqAt.EqAt.none_list l2 (by omega)
  | @scr a2 _ _ h2 r2=>
    cases rb
    obtain⟨its2,l2,_⟩:=aH I h2.seq r2
    exact SeqAt.EqAt.none_list l2 (by omega)
 |bl=>
  cases ra
  cases py with
  |non=>
   cases rb
   exact SeqAt.EqAt.bool_none _
  |bl=>
   cases rb
   exact SeqAt.EqAt.bool_bool _ _
  |int=>
   obtain⟨t2,rfl⟩:=rb
   exact SeqAt.EqAt.bool_int _ _ _
  |str=>
   obtain⟨t2,rfl⟩:=rb
   exact SeqAt.EqAt.bool_str _ _ _
  | @tup a2 _ _ h2 r2=>
    cases rb
    obtain⟨its2,l2,_⟩:=bN I h2 r2
    exact SeqAt.EqAt.bool_tuple _ l2 (by omega)
  | @lst a2 _ _ h2 r2=>
    cases rb
    obtain⟨its2,l2,_⟩:=aH I (SqL.of h2) r2
    exact SeqAt.EqAt.bool_list _ l2 (by omega)
  | @scr a2 _ _ h2 r2=>
    cases rb
    obtain⟨its2,l2,_⟩:=aH I h2.seq r2
    exact SeqAt.EqAt.bool_list _ l2 (by omega)
 |int=>
  obtain⟨t1,rfl⟩:=ra
  cases py with
  |non=>
   cases rb
   exact SeqAt.EqAt.int_none _ _
  |bl=>
   cases rb
   exact SeqAt.EqAt.int_bool _ _ _
  |int=>
   obtain⟨t2,rfl⟩:=rb
   exact SeqAt.EqAt.int_int _ _ _ _
  |str=>
   obtain⟨t2,rfl⟩:=rb
   exact SeqAt.EqAt.int_str _ _ _ _
  | @tup a2 _ _ h2 r2=>
    cases rb
    obtain⟨its2,l2,_⟩:=bN I h2 r2
    exact SeqAt.EqAt.int_tuple _ _ l2 (by omega)
  | @lst a2 _ _ h2 r2=>
    cases rb
    obtain⟨its2,l2,_⟩:=aH I (SqL.of h2) r2
    exact SeqAt.EqAt.int_list _ _ l2 (by omega)
  | @scr a2 _ _ h2 r2=>
    cases rb
    obtain⟨its2,l2,_⟩:=aH I h2.seq r2
    exact SeqAt.EqAt.int_list _ _ l2 (by omega)
 |str=>
  obtain⟨t1,rfl⟩:=ra
  cases py with
  |non=>
   cases rb
   exact SeqAt.EqAt.str_none _ _
  |bl=>
   cases rb
   exact SeqAt.EqAt.str_bool _ _ _
  |int=>
   obtain⟨t2,rfl⟩:=rb
   exact SeqAt.EqAt.str_int _ _ _ _
  |str=>
   obtain⟨t2,rfl⟩:=rb
   exact SeqAt.EqAt.str_str _ _ _ _
  | @tup a2 _ _ h2 r2=>
    cases rb
    obtain⟨its2,l2,_⟩:=bN I h2 r2
    exact SeqAt.EqAt.str_tuple _ _ l2 (by omega)
  | @lst a2 _ _ h2 r2=>
    cases rb
    obtain⟨its2,l2,_⟩:=aH I (SqL.of h2) r2
    exact SeqAt.EqAt.str_list _ _ l2 (by omega)
  | @scr a2 _ _ h2 r2=>
    cases rb
    obtain⟨its2,l2,_⟩:=aH I h2.seq r2
    exact SeqAt.EqAt.str_list _ _ l2 (by omega)
 | @tup a1 _ _ h1 r1=>
   cases ra
   obtain⟨its,l1,_⟩:=bN I h1 r1
   cases py with
   |non=>
    cases rb
    exact SeqAt.EqAt.tuple_none l1 (by omega)
   |bl=>
    cases rb
    exact SeqAt.EqAt.tuple_bool _ l1 (by omega)
   |int=>
    obtain⟨t2,rfl⟩:=rb
    exact SeqAt.EqAt.tuple_int _ _ l1 (by omega)
   |str=>
    obtain⟨t2,rfl⟩:=rb
    exact SeqAt.EqAt.tuple_str _ _ l1 (by omega)
   | @tup a2 _ _ h2 r2=>
     cases rb
     obtain⟨its2,l2,_⟩:=bN I h2 r2
     by_cases e:a1=a2
     ·exact(jH I (.tup h1 r1) (.tup h2 r2) e)
     ·exact SeqAt.EqAt.of_refs e (rD I IH (by unfold dG at hd;omega) (by unfold dG at hu;omega) h1 r1 h2 r2).1
   | @lst a2 _ _ h2 r2=>
     cases rb
     obtain⟨its2,l2,_⟩:=aH I (SqL.of h2) r2
     exact SeqAt.EqAt.tuple_list l1 l2 (by omega)
   | @scr a2 _ _ h2 r2=>
     cases rb
     obtain⟨its2,l2,_⟩:=aH I h2.seq r2
     exact SeqAt.EqAt.tuple_list l1 l2 (by omega)
 | @scr a1 _ _ h1 r1=>exact absurd hu (by unfold dG;omega)
 | @lst a1 _ _ h1 r1=>
   cases ra
   obtain⟨its,l1,_⟩:=aH I (SqL.of h1) r1
   cases py with
   |non=>
    cases rb
    exact SeqAt.EqAt.list_none l1 (by omega)
   |bl=>
    cases rb
    exact SeqAt.EqAt.list_bool _ l1 (by omega)
   |int=>
    obtain⟨t2,rfl⟩:=rb
    exact SeqAt.EqAt.list_int _ _ l1 (by omega)
   |str=>
    obtain⟨t2,rfl⟩:=rb
    exact SeqAt.EqAt.list_str _ _ l1 (by omega)
   | @tup a2 _ _ h2 r2=>
     cases rb
     obtain⟨its2,l2,_⟩:=bN I h2 r2
     exact SeqAt.EqAt.list_tuple l1 l2 (by omega)
   | @lst a2 _ _ h2 r2=>
     cases rb
     obtain⟨its2,l2,_⟩:=aH I (SqL.of h2) r2
     by_cases e:a1=a2
     ·exact(jH I (.lst h1 r1) (.lst h2 r2) e)
     ·exact SeqAt.EqAt.of_refs e (hX I IH (by unfold dG at hd;omega) (by unfold dG at hu;omega) (SqL.of h1) r1 (SqL.of h2) r2).1
   | @scr a2 _ _ h2 r2=>
     cases rb
     obtain⟨its2,l2,_⟩:=aH I h2.seq r2
     by_cases e:a1=a2
     ·exact(jH I (.lst h1 r1) (.scr h2 r2) e)
     ·exact SeqAt.EqAt.of_refs e (hX I IH (by unfold dG at hd;omega) (by unfold dG at hu;omega) (SqL.of h1) r1 h2.seq r2).1
theorem jG(I:Inv X ae σ H s): ∀(n:Nat) {x y:D} {v u:V} {a b:Value} {A:Around},dG x<n->A.units+dG x<cLine->RelV v a->RelV u b->Rep X.K H v x->Rep X.K H u y->SeqAt.EqAt A s a b (cC x y)
 |0,x,y,v,u,a,b,A,hd,hu,ra,rb,px,py=>absurd hd (Nat.not_lt_zero _)
 |n+1,x,y,v,u,a,b,A,hd,hu,ra,rb,px,py=>Ak I (λh1 h2 h3 h4 h5 h6=>jG I n h1 h2 h3 h4 h5 h6) hd hu (by omega) ra rb px py
theorem zN(I:Inv X ae σ H s){x y:D}{v u:V}{a b:Value}{A:Around}(hu:A.units+dG x<cLine)(hc:A.units<cLine)(ra:RelV v a)(rb:RelV u b)(px:Rep X.K H v x)(py:Rep X.K H u y):SeqAt.RcAt A s a b (cC x y):=by
 have IH:=λ{x y:D} {v u:V} {a b:Value} {A:Around} (n:Nat)=> @jG X ae σ H s I n x y v u a b A
 have IH: ∀ {n:Nat} {x y:D} {v u:V} {a b:Value} {A:Around},dG x<n->A.units+dG x<cLine->RelV v a->RelV u b->Rep X.K H v x->Rep X.K H u y->SeqAt.EqAt A s a b (cC x y):=λ{n x y v u a b A}=>jG I n
 unfold cC;cases px with
 |non=>
  cases ra
  cases py with
  |non=>
   cases rb
   exact SeqAt.RcAt.none_none
  |bl=>
   cases rb
   exact SeqAt.RcAt.none_bool _
  |int=>
   obtain⟨t2,rfl⟩:=rb
   exact SeqAt.RcAt.none_int _ _
  |str=>
   obtain⟨t2,rfl⟩:=rb
   exact SeqAt.RcAt.none_str _ _
  | @tup a2 _ _ h2 r2=>
    cases rb
    obtain⟨its2,l2,_⟩:=bN I h2 r2
    exact SeqAt.RcAt.none_tuple l2 (by omega)
  | @lst a2 _ _ h2 r2=>
    cases rb
    obtain⟨its2,l2,_⟩:=aH I (SqL.of h2) r2
    exact SeqAt.RcAt.none_list l2 (by omega)
  | @scr a2 _ _ h2 r2=>
    cases rb
    obtain⟨its2,l2,_⟩:=aH I h2.seq r2
    exact SeqAt.RcAt.none_list l2 (by omega)
 |bl=>
  cases ra
  cases py with
  |non=>
   cases rb
   exact SeqAt.RcAt.bool_none _
  |bl=>
   cases rb
   exact SeqAt.RcAt.bool_bool _ _
  |int=>
   obtain⟨t2,rfl⟩:=rb
   exact SeqAt.RcAt.bool_int _ _ _
  |str=>
   obtain⟨t2,rfl⟩:=rb
   exact SeqAt.RcAt.bool_str _ _ _
  | @tup a2 _ _ h2 r2=>
    cases rb
    obtain⟨its2,l2,_⟩:=bN I h2 r2
    exact SeqAt.RcAt.bool_tuple _ l2 (by omega)
  | @lst a2 _ _ h2 r2=>
    cases rb
    obtain⟨its2,l2,_⟩:=aH I (SqL.of h2) r2
    exact SeqAt.RcAt.bool_list _ l2 (by omega)
  | @scr a2 _ _ h2 r2=>
    cases rb
    obtain⟨its2,l2,_⟩:=aH I h2.seq r2
    exact SeqAt.RcAt.bool_list _ l2 (by omega)
 |int=>
  obtain⟨t1,rfl⟩:=ra
  cases py with
  |non=>
   cases rb
   exact SeqAt.RcAt.int_none _ _
  |bl=>
   cases rb
   exact SeqAt.RcAt.int_bool _ _ _
  |int=>
   obtain⟨t2,rfl⟩:=rb
   exact SeqAt.RcAt.int_int _ _ _ _
  |str=>
   obtain⟨t2,rfl⟩:=rb
   exact SeqAt.RcAt.int_str _ _ _ _
  | @tup a2 _ _ h2 r2=>
    cases rb
    obtain⟨its2,l2,_⟩:=bN I h2 r2
    exact SeqAt.RcAt.int_tuple _ _ l2 (by omega)
  | @lst a2 _ _ h2 r2=>
    cases rb
    obtain⟨its2,l2,_⟩:=aH I (SqL.of h2) r2
    exact SeqAt.RcAt.int_list _ _ l2 (by omega)
  | @scr a2 _ _ h2 r2=>
    cases rb
    obtain⟨its2,l2,_⟩:=aH I h2.seq r2
    exact SeqAt.RcAt.int_list _ _ l2 (by omega)
 |str=>
  obtain⟨t1,rfl⟩:=ra
  cases py with
  |non=>
   cases rb
   exact SeqAt.RcAt.str_none _ _
  |bl=>
   cases rb
   exact SeqAt.RcAt.str_bool _ _ _
  |int=>
   obtain⟨t2,rfl⟩:=rb
   exact SeqAt.RcAt.str_int _ _ _ _
  |str=>
   obtain⟨t2,rfl⟩:=rb
   exact SeqAt.RcAt.str_str _ _ _ _
  | @tup a2 _ _ h2 r2=>
    cases rb
    obtain⟨its2,l2,_⟩:=bN I h2 r2
    exact SeqAt.RcAt.str_tuple _ _ l2 (by omega)
  | @lst a2 _ _ h2 r2=>
    cases rb
    obtain⟨its2,l2,_⟩:=aH I (SqL.of h2) r2
    exact SeqAt.RcAt.str_list _ _ l2 (by omega)
  | @scr a2 _ _ h2 r2=>
    cases rb
    obtain⟨its2,l2,_⟩:=aH I h2.seq r2
    exact SeqAt.RcAt.str_list _ _ l2 (by omega)
 | @tup a1 _ _ h1 r1=>
   cases ra
   obtain⟨its,l1,_⟩:=bN I h1 r1
   cases py with
   |non=>
    cases rb
    exact SeqAt.RcAt.tuple_none l1 (by omega)
   |bl=>
    cases rb
    exact SeqAt.RcAt.tuple_bool _ l1 (by omega)
   |int=>
    obtain⟨t2,rfl⟩:=rb
    exact SeqAt.RcAt.tuple_int _ _ l1 (by omega)
   |str=>
    obtain⟨t2,rfl⟩:=rb
    exact SeqAt.RcAt.tuple_str _ _ l1 (by omega)
   | @tup a2 _ _ h2 r2=>
     cases rb
     obtain⟨its2,l2,_⟩:=bN I h2 r2
     exact(rD I IH (Nat.lt_succ_self _) (by unfold dG at hu;omega) h1 r1 h2 r2).1
   | @lst a2 _ _ h2 r2=>
     cases rb
     obtain⟨its2,l2,_⟩:=aH I (SqL.of h2) r2
     exact SeqAt.RcAt.tuple_list l1 l2 (by omega)
   | @scr a2 _ _ h2 r2=>
     cases rb
     obtain⟨its2,l2,_⟩:=aH I h2.seq r2
     exact SeqAt.RcAt.tuple_list l1 l2 (by omega)
 | @scr a1 _ _ h1 r1=>exact absurd hu (by unfold dG;omega)
 | @lst a1 _ _ h1 r1=>
   cases ra
   obtain⟨its,l1,_⟩:=aH I (SqL.of h1) r1
   cases py with
   |non=>
    cases rb
    exact SeqAt.RcAt.list_none l1 (by omega)
   |bl=>
    cases rb
    exact SeqAt.RcAt.list_bool _ l1 (by omega)
   |int=>
    obtain⟨t2,rfl⟩:=rb
    exact SeqAt.RcAt.list_int _ _ l1 (by omega)
   |str=>
    obtain⟨t2,rfl⟩:=rb
    exact SeqAt.RcAt.list_str _ _ l1 (by omega)
   | @tup a2 _ _ h2 r2=>
     cases rb
     obtain⟨its2,l2,_⟩:=bN I h2 r2
     exact SeqAt.RcAt.list_tuple l1 l2 (by omega)
   | @lst a2 _ _ h2 r2=>
     cases rb
     obtain⟨its2,l2,_⟩:=aH I (SqL.of h2) r2
     exact(hX I IH (Nat.lt_succ_self _) (by unfold dG at hu;omega) (SqL.of h1) r1 (SqL.of h2) r2).1
   | @scr a2 _ _ h2 r2=>
     cases rb
     obtain⟨its2,l2,_⟩:=aH I h2.seq r2
     exact(hX I IH (Nat.lt_succ_self _) (by unfold dG at hu;omega) (SqL.of h1) r1 h2.seq r2).1
theorem uE(I:Inv X ae σ H s){x y:D}{v u:V}{a b:Value}{A:Around}(hu:A.units+dG x<cLine)(hc:A.units<cLine)(ra:RelV v a)(rb:RelV u b)(px:Rep X.K H v x)(py:Rep X.K H u y):SeqAt.RcNeAt A s a b (!cC x y):=by
 have IH: ∀ {n:Nat} {x y:D} {v u:V} {a b:Value} {A:Around},dG x<n->A.units+dG x<cLine->RelV v a->RelV u b->Rep X.K H v x->Rep X.K H u y->SeqAt.EqAt A s a b (cC x y):=λ{n x y v u a b A}=>jG I n
 unfold cC;cases px with
 |non=>
  cases ra
  cases py with
  |non=>
   cases rb
   exact SeqAt.RcNeAt.none_none
  |bl=>
   cases rb
   exact SeqAt.RcNeAt.none_bool _
  |int=>
   obtain⟨t2,rfl⟩:=rb
   exact SeqAt.RcNeAt.none_int _ _
  |str=>
   obtain⟨t2,rfl⟩:=rb
   exact SeqAt.RcNeAt.none_str _ _
  | @tup a2 _ _ h2 r2=>
    cases rb
    obtain⟨its2,l2,_⟩:=bN I h2 r2
    exact SeqAt.RcNeAt.none_tuple l2 (by omega)
  | @lst a2 _ _ h2 r2=>
    cases rb
    obtain⟨its2,l2,_⟩:=aH I (SqL.of h2) r2
    exact SeqAt.RcNeAt.none_list l2 (by omega)
  | @scr a2 _ _ h2 r2=>
    cases rb
    obtain⟨its2,l2,_⟩:=aH I h2.seq r2
    exact SeqAt.RcNeAt.none_list l2 (by omega)
 |bl=>
  cases ra
  cases py with
  |non=>
   cases rb
   exact SeqAt.RcNeAt.bool_none _
  |bl=>
   cases rb
   exact SeqAt.RcNeAt.bool_bool _ _
  |int=>
   obtain⟨t2,rfl⟩:=rb
   exact SeqAt.RcNeAt.bool_int _ _ _
  |str=>
   obtain⟨t2,rfl⟩:=rb
   exact SeqAt.RcNeAt.bool_str _ _ _
  | @tup a2 _ _ h2 r2=>
    cases rb
    obtain⟨its2,l2,_⟩:=bN I h2 r2
    exact SeqAt.RcNeAt.bool_tuple _ l2 (by omega)
  | @lst a2 _ _ h2 r2=>
    cases rb
    obtain⟨its2,l2,_⟩:=aH I (SqL.of h2) r2
    exact SeqAt.RcNeAt.bool_list _ l2 (by omega)
  | @scr a2 _ _ h2 r2=>
    cases rb
    obtain⟨its2,l2,_⟩:=aH I h2.seq r2
    exact SeqAt.RcNeAt.bool_list _ l2 (by omega)
 |int=>
  obtain⟨t1,rfl⟩:=ra
  cases py with
  |non=>
   cases rb
   exact SeqAt.RcNeAt.int_none _ _
  |bl=>
   cases rb
   exact SeqAt.RcNeAt.int_bool _ _ _
  |int=>
   obtain⟨t2,rfl⟩:=rb
   exact SeqAt.RcNeAt.int_int _ _ _ _
  |str=>
   obtain⟨t2,rfl⟩:=rb
   exact SeqAt.RcNeAt.int_str _ _ _ _
  | @tup a2 _ _ h2 r2=>
    cases rb
    obtain⟨its2,l2,_⟩:=bN I h2 r2
    exact SeqAt.RcNeAt.int_tuple _ _ l2 (by omega)
  | @lst a2 _ _ h2 r2=>
    cases rb
    obtain⟨its2,l2,_⟩:=aH I (SqL.of h2) r2
    exact SeqAt.RcNeAt.int_list _ _ l2 (by omega)
  | @scr a2 _ _ h2 r2=>
    cases rb
    obtain⟨its2,l2,_⟩:=aH I h2.seq r2
    exact SeqAt.RcNeAt.int_list _ _ l2 (by omega)
 |str=>
  obtain⟨t1,rfl⟩:=ra
  cases py with
  |non=>
   cases rb
   exact SeqAt.RcNeAt.str_none _ _
  |bl=>
   cases rb
   exact SeqAt.RcNeAt.str_bool _ _ _
  |int=>
   obtain⟨t2,rfl⟩:=rb
   exact SeqAt.RcNeAt.str_int _ _ _ _
  |str=>
   obtain⟨t2,rfl⟩:=rb
   exact SeqAt.RcNeAt.str_str _ _ _ _
  | @tup a2 _ _ h2 r2=>
    cases rb
    obtain⟨its2,l2,_⟩:=bN I h2 r2
    exact SeqAt.RcNeAt.str_tuple _ _ l2 (by omega)
  | @lst a2 _ _ h2 r2=>
    cases rb
    obtain⟨its2,l2,_⟩:=aH I (SqL.of h2) r2
    exact SeqAt.RcNeAt.str_list _ _ l2 (by omega)
  | @scr a2 _ _ h2 r2=>
    cases rb
    obtain⟨its2,l2,_⟩:=aH I h2.seq r2
    exact SeqAt.RcNeAt.str_list _ _ l2 (by omega)
 | @tup a1 _ _ h1 r1=>
   cases ra
   obtain⟨its,l1,_⟩:=bN I h1 r1
   cases py with
   |non=>
    cases rb
    exact SeqAt.RcNeAt.tuple_none l1 (by omega)
   |bl=>
    cases rb
    exact SeqAt.RcNeAt.tuple_bool _ l1 (by omega)
   |int=>
    obtain⟨t2,rfl⟩:=rb
    exact SeqAt.RcNeAt.tuple_int _ _ l1 (by omega)
   |str=>
    obtain⟨t2,rfl⟩:=rb
    exact SeqAt.RcNeAt.tuple_str _ _ l1 (by omega)
   | @tup a2 _ _ h2 r2=>
     cases rb
     obtain⟨its2,l2,_⟩:=bN I h2 r2
     exact(rD I IH (Nat.lt_succ_self _) (by unfold dG at hu;omega) h1 r1 h2 r2).2
   | @lst a2 _ _ h2 r2=>
     cases rb
     obtain⟨its2,l2,_⟩:=aH I (SqL.of h2) r2
     exact SeqAt.RcNeAt.tuple_list l1 l2 (by omega)
   | @scr a2 _ _ h2 r2=>
     cases rb
     obtain⟨its2,l2,_⟩:=aH I h2.seq r2
     exact SeqAt.RcNeAt.tuple_list l1 l2 (by omega)
 | @scr a1 _ _ h1 r1=>exact absurd hu (by unfold dG;omega)
 | @lst a1 _ _ h1 r1=>
   cases ra
   obtain⟨its,l1,_⟩:=aH I (SqL.of h1) r1
   cases py with
   |non=>
    cases rb
    exact SeqAt.RcNeAt.list_none l1 (by omega)
   |bl=>
    cases rb
    exact SeqAt.RcNeAt.list_bool _ l1 (by omega)
   |int=>
    obtain⟨t2,rfl⟩:=rb
    exact SeqAt.RcNeAt.list_int _ _ l1 (by omega)
   |str=>
    obtain⟨t2,rfl⟩:=rb
    exact SeqAt.RcNeAt.list_str _ _ l1 (by omega)
   | @tup a2 _ _ h2 r2=>
     cases rb
     obtain⟨its2,l2,_⟩:=bN I h2 r2
     exact SeqAt.RcNeAt.list_tuple l1 l2 (by omega)
   | @lst a2 _ _ h2 r2=>
     cases rb
     obtain⟨its2,l2,_⟩:=aH I (SqL.of h2) r2
     exact(hX I IH (Nat.lt_succ_self _) (by unfold dG at hu;omega) (SqL.of h1) r1 (SqL.of h2) r2).2
   | @scr a2 _ _ h2 r2=>
     cases rb
     obtain⟨its2,l2,_⟩:=aH I h2.seq r2
     exact(hX I IH (Nat.lt_succ_self _) (by unfold dG at hu;omega) (SqL.of h1) r1 h2.seq r2).2
end
theorem Rep1.full {K:W.Frag}{H:Hp}{hid:bF}{v:V}{d:D}(h:Rep1 K H (vw H hid) v d):Rep K H v d:=by
 rcases h with h|⟨a,xs,ds,rfl,rfl,h1,h2⟩
 ·exact h.mono (cX _ _)
 ·exact .lst h1 (h2.mono (cX _ _))
def AI(K:W.Frag):R2:=λv u H Q=> ∃x y,Rep K H v x/\Rep K H u y/\dG x<=32/\Q (.bl (cC x y)) H
def Bq(K:W.Frag):R2:=λv u H Q=> ∃x y,Rep K H v x/\Rep K H u y/\dG x<=32/\Q (.bl (!cC x y)) H
theorem cx {X:Cx}(hu:X.A.units+64<cLine):ji X (compareOp .Eq) (AI X.K):=by
 intro ae s σ H x y v u Q I rx ry h;obtain⟨dx,dy,p1,p2,hd,q⟩:=h
 exact zN I (by omega) (by omega) rx ry p1 p2 X.prog X.w _ _ ⟨.bl _,H,I,rfl,q⟩
theorem fD {X:Cx}(hu:X.A.units+64<cLine):ji X (compareOp .NotEq) (Bq X.K):=by
 intro ae s σ H x y v u Q I rx ry h;obtain⟨dx,dy,p1,p2,hd,q⟩:=h
 exact uE I (by omega) (by omega) rx ry p1 p2 X.prog X.w _ _ ⟨.bl _,H,I,rfl,q⟩
def eV:D->D->Option D:=λx y=>if dG x<=32 then some (.bl (cC x y)) else none
def gM:D->D->Option D:=λx y=>if dG x<=32 then some (.bl (!cC x y)) else none
theorem dJ {K:W.Frag}:jY K .s (AI K) eV:=by
 intro H hid v u x y d Q hf h r1 r2 q;unfold eV at h;split at h
 ·cases h;exact⟨x,y,r1.full,r2.full, ‹_›,q _ H (Same.refl _) .bl⟩
 ·cases h
theorem gZ {K:W.Frag}:jY K .s (Bq K) gM:=by
 intro H hid v u x y d Q hf h r1 r2 q;unfold gM at h;split at h
 ·cases h;exact⟨x,y,r1.full,r2.full, ‹_›,q _ H (Same.refl _) .bl⟩
 ·cases h
theorem rQ {X:Cx}{ae:List (Addr×Obj)}{σ:St}{H:Hp}{s:Shared}(I:Inv X ae σ H s){x:D}{v:V}{a:Value}{A:Around}(hx:Rep X.K H v x)(ra:RelV v a): ∀ {ds:List D} {xs:List V} {its:List Value},Reps X.K H xs ds->Vals xs its->A.units+cR ds<cLine->
 ∃e:Value->Bool,(∀y,y∈its->SeqAt.EqAt A s y a (e y))/\its.any e=ds.any (λd=>cC d x):=by
 intro ds xs its r rv hu
 classical
 let e:Value->Bool:=λy=>if h: ∃(d:D) (u:V),RelV u y/\Rep X.K H u d then cC h.choose x else false
 have key: ∀y u d,RelV u y->Rep X.K H u d->e y=cC d x:=λy u d h1 h2=>by
  have hex: ∃(d:D) (u:V),RelV u y/\Rep X.K H u d:=⟨d,u,h1,h2⟩
  show(if h: ∃(d:D) (u:V),RelV u y/\Rep X.K H u d then cC h.choose x else false)=cC d x
  rw[dif_pos hex];obtain⟨u',s1,s2⟩:=hex.choose_spec
  have eu:u'=u:=s1.inj h1
  rw[eu] at s2;exact Rep.eqv I s2 h2 x
 refine⟨e,?_,?_⟩
 ·induction rv generalizing ds with
  |nil=>intro y hy;cases hy
  |cons r1 t ih=>
   cases r with
   |cons p1 pt=>
    rename_i d ds;intro y hy;have hm:dG d<=cR (d::ds):=jg (i:=0) rfl
    have hm2:cR ds<=cR (d::ds):=by conv=>rhs;unfold cR
                                   exact Nat.le_max_right _ _
    rcases List.mem_cons.mp hy with rfl|hy
    ·rw[key _ _ _ r1 p1]
     exact jG I (dG d+1) (Nat.lt_succ_self _) (by omega) r1 ra p1 hx
    ·exact ih pt (by omega) y hy
 ·induction rv generalizing ds with
  |nil=>cases r;rfl
  |cons r1 t ih=>
   cases r with
   |cons p1 pt=>
    rename_i d ds;have hm2:cR ds<=cR (d::ds):=by conv=>rhs;unfold cR
                                                 exact Nat.le_max_right _ _
    rw[List.any_cons,List.any_cons,key _ _ _ r1 p1,ih pt (by omega)]
def Ba(K:W.Frag)(neg:Bool):R2:=λv u H Q=> ∃x ds a xs,Rep K H v x/\u=.ref a/\(SqL K H a xs\/SqT K H a xs)/\Reps K H xs ds/\cR ds<=32/\Q (.bl (if neg then !ds.any (λd=>cC d x) else ds.any λd=>cC d x)) H
theorem t9 {X:Cx}(hu:X.A.units+64<cLine):ji X (compareOp .NotIn) (Ba X.K true):=by
 intro ae s σ H v w a b Q I rx ry h;obtain⟨x,ds,p,xs,hx,rfl,hq,r,hd,q⟩:=h
 cases ry
 rcases hq with hq|hq
 ·obtain⟨its,rv,pl,hz⟩:=I.list hq
  obtain⟨e,h1,h2⟩:=rQ (A:=X.A.in1) I hx rx r rv (by rw[fj];omega)
  refine SeqAt.notIn_listAt e pl.isList (λy hy=>h1 y (by simpa using hy)) ⟨.bl _,H,I,rfl,?_⟩
  rw[show its.toArray.any e=its.any e by simp,h2]
  exact q
 ·obtain⟨its,rv,pl,hz⟩:=I.tuple hq
  obtain⟨e,h1,h2⟩:=rQ (A:=X.A.in1) I hx rx r rv (by rw[fj];omega)
  refine SeqAt.notIn_tupleAt e pl (λy hy=>h1 y (by simpa using hy)) ⟨.bl _,H,I,rfl,?_⟩
  rw[show its.toArray.any e=its.any e by simp,h2]
  exact q
def uN:D->Option (List D)
 | .lst ds=>some ds
 | .tup ds=>some ds
 |_=>none
def yV(neg:Bool):D->D->Option D:=λx y=>match uN y with
 |some ds=>if cR ds<=32 then some (.bl (if neg then !ds.any (λd=>cC d x) else ds.any λd=>cC d x)) else none
 |none=>none
theorem Bv {K:W.Frag}(neg:Bool):jY K .s (Ba K neg) (yV neg):=by
 intro H hid v u x y d Q hf h r1 r2 q;unfold yV at h;split at h
 ·split at h
  ·rename_i ds e _
   cases h
   cases y with
   |lst zs=>
    cases e
    obtain⟨a,xs,rfl,h1,h2⟩:=r2.lst
    exact⟨x,_,a,xs,r1.full,rfl,.inl h1,h2.mono (cX _ _), ‹_›,q _ H (Same.refl _) .bl⟩
   |tup zs=>
    cases e
    obtain⟨a,xs,rfl,_,h1,h2⟩:=r2.tup
    exact⟨x,_,a,xs,r1.full,rfl,.inr h1,h2.mono (cX _ _), ‹_›,q _ H (Same.refl _) .bl⟩
   |_=>cases e
  ·cases h
 ·cases h
def CW(T:String):D->Bool
 | .non=>T=="NoneType"
 | .bl _=>T=="bool"||T=="int"
 | .int _=>T=="int"
 | .str _=>T=="str"
 | .tup _=>T=="tuple"
 | .lst _=>T=="list"
 | .scr _=>T=="list"
structure KT(T:String):Prop where
 n: ∀K,W.kitOne K (.type "NoneType") (.type T)=some (T=="NoneType")
 b: ∀K,W.kitOne K (.type "bool") (.type T)=some (T=="bool"||T=="int")
 i: ∀K,W.kitOne K (.type "int") (.type T)=some (T=="int")
 s: ∀K,W.kitOne K (.type "str") (.type T)=some (T=="str")
 t: ∀K,W.kitOne K (.type "tuple") (.type T)=some (T=="tuple")
 l: ∀K,W.kitOne K (.type "list") (.type T)=some (T=="list")
theorem zb:KT "int":=⟨λ_=>by kernel_rfl,λ_=>by kernel_rfl,λ_=>by kernel_rfl,λ_=>by kernel_rfl,λ_=>by kernel_rfl,λ_=>by kernel_rfl⟩
theorem xK:KT "bool":=⟨λ_=>by kernel_rfl,λ_=>by kernel_rfl,λ_=>by kernel_rfl,λ_=>by kernel_rfl,λ_=>by kernel_rfl,λ_=>by kernel_rfl⟩
theorem kP:KT "tuple":=⟨λ_=>by kernel_rfl,λ_=>by kernel_rfl,λ_=>by kernel_rfl,λ_=>by kernel_rfl,λ_=>by kernel_rfl,λ_=>by kernel_rfl⟩
theorem wa:KT "str":=⟨λ_=>by kernel_rfl,λ_=>by kernel_rfl,λ_=>by kernel_rfl,λ_=>by kernel_rfl,λ_=>by kernel_rfl,λ_=>by kernel_rfl⟩
section
variable {X:Cx}{c:Ct}{e o:Expr}{k:Kd}{f g:FE}{pos p p2:Pos}
theorem u3 {T:String}(kt:KT T):ee X (.builtin "isinstance") (λxs H Q=> ∃v d,xs=[v,.ty T]/\Rep X.K H v d/\Q (.bl (CW T d)) H):=by
 intro ae s σ H xs us Q I r h;obtain⟨v,d,rfl,rp,q⟩:=h
 obtain⟨u,w',rfl,rx,ry⟩:=vf r
 cases ry
 have fin: ∀tk,EP X ae σ Q (.bool (CW T d)) {s with toks:=tk}:=λtk=>⟨.bl _,H,I.tok _,rfl,q⟩
 cases rp with
 |non=>cases rx;exact W.kia_one W.kitx_none I.kIn True.intro (kt.n _) (λz=>nomatch z) fin
 |bl=>cases rx;exact W.kia_one W.kitx_bool I.kIn True.intro (kt.b _) (λz=>nomatch z) fin
 |int=>obtain⟨t,rfl⟩:=rx;exact W.kia_one W.kitx_int I.kIn True.intro (kt.i _) (λz=>nomatch z) fin
 |str=>obtain⟨t,rfl⟩:=rx;exact W.kia_one W.kitx_str I.kIn True.intro (kt.s _) (λz=>nomatch z) fin
 |tup h1 h2=>
  cases rx
  obtain⟨⟨ob,ho,hc⟩,_⟩:=I.tupleN h1
  exact W.kia_one W.kitx_tuple I.kIn ⟨ob,ho,hc⟩ (kt.t _) (λz=>nomatch z) fin
 |lst h1 h2=>
  cases rx
  obtain⟨its,_,⟨ob,n,ho,hc,_⟩,_⟩:=I.list (SqL.of h1)
  exact W.kia_one W.kitx_list I.kIn ⟨ob,ho,hc⟩ (kt.l _) (λz=>nomatch z) fin
 |scr h1 h2=>
  cases rx
  obtain⟨its,_,⟨ob,n,ho,hc,_⟩,_⟩:=I.list h1.seq
  exact W.kia_one W.kitx_list I.kIn ⟨ob,ho,hc⟩ (kt.l _) (λz=>nomatch z) fin
def iG(T:String)(f:FE):FE:=λρ=>(f ρ).map λd=>.bl (CW T d)
theorem iU(T:String){y:Str}(kt:KT T)(he:DP X c k e f)(hm:X.mg "isinstance"=none)(hmT:X.mg y=none)(hg:Gl X "isinstance":=by rfl)(hgT:Gl X y:=by rfl)(hv:bootBuiltins "isinstance"=some (.builtin "isinstance"):=by kernel_rfl)(hvT:bootBuiltins y=some (.type T):=by kernel_rfl)(hn:y≠"__name__":=by decide)(hd:(y==("__debug__":Str))=false:=by decide)
 (hs1:starEach [e,.Name y p2] X.env=(false,eval e X.env)::starEach [.Name y p2] X.env:=by rfl) (hs2:starEach [.Name y p2] X.env=(false,eval (.Name y p2) X.env)::starEach [] X.env:=by rfl) (hpl:(backTo pos (starEach [.Name y p2] X.env)).any (·.1)=false:=by rfl):
 DP X c .s (.Call (.Name "isinstance" p) [e,.Name y p2] [] pos) (iG T f):=λhid ρ=>
 PE.imp (gY (u3 kt) hg hm hv (bi (he hid ρ) (bi (sZ (v:=.ty T) hgT hmT hvT rfl hn hd) cY hs2) hs1) (by decide) (by decide) hs1 hpl) λσ H Q hq_=>by
  obtain⟨sr,d,hd,q⟩:=hq_
  unfold iG at hd;cases e1:f ρ with
  |none=>rw[e1] at hd;cases hd
  |some z=>
   rw[e1] at hd;cases hd;exact⟨sr,z,e1,λv H' s' r=>⟨v,z,rfl,(RK.b k r λa n=>sr.fresh n).full,q _ H' s' .bl⟩⟩
def gm:List D->Option (List Bool)
 | []=>some []
 | .bl b::r=>(gm r).map (b:: ·)
 |_=>none
theorem pi: ∀ {ds:List D} {bs:List Bool} {i:Nat} {d:D},gm ds=some bs->ds[i]? =some d-> ∃b,d=.bl b/\bs[i]? =some b
 | [],_,_,_,_,h=>by simp at h
 |x::r,bs,i,d,h,e=>by
  cases x with
  |bl b=>
   unfold gm at h;cases e1:gm r with
   |none=>rw[e1] at h;cases h
   |some rs=>
    rw[e1] at h;cases h;cases i with
    |zero=>simp at e;subst e;exact⟨b,rfl,rfl⟩
    |succ i=>
     obtain⟨b',h1,h2⟩:=pi (i:=i) e1 (by simpa using e)
     exact⟨b',h1,by simpa using h2⟩
  |_=>cases h
theorem oJ: ∀ {ds:List D} {bs:List Bool},gm ds=some bs->ds.length=bs.length
 | [],_,h=>by cases h;rfl
 |x::r,bs,h=>by
  cases x with
  |bl b=>
   unfold gm at h;cases e1:gm r with
   |none=>rw[e1] at h;cases h
   |some rs=>rw[e1] at h;cases h;simp[oJ e1]
  |_=>cases h
theorem uj(bs:List Bool):(List.range bs.length).any (λi=>bs.getD i false)=bs.any id:=by
 induction bs with
 |nil=>rfl
 |cons b bs ih=>
  rw[List.length_cons,List.range_succ_eq_map,List.any_cons,List.any_map,List.any_cons];rw[show((λi=>(b::bs).getD i false)∘Nat.succ)=λi=>bs.getD i false by funext i;simp[List.getD],ih]
  rfl
theorem q9(bs:List Bool):(List.range bs.length).all (λi=>bs.getD i false)=bs.all id:=by
 induction bs with
 |nil=>rfl
 |cons b bs ih=>
  rw[List.length_cons,List.range_succ_eq_map,List.all_cons,List.all_map,List.all_cons];rw[show((λi=>(b::bs).getD i false)∘Nat.succ)=λi=>bs.getD i false by funext i;simp[List.getD],ih]
  rfl
theorem kM {ae:List (Addr×Obj)}{σ:St}{H:Hp}{s:Shared}{a:Addr}{xs:List V}{ds:List D}{bs:List Bool}(I:Inv X ae σ H s)(h1:SqL X.K H a xs)(h2:Reps X.K H xs ds)(hb:gm ds=some bs)(hc:X.calm=true){E:Value->Shared->Prop}{R:Value->Shared->Prop}
 (hR: ∀(J:Addr) (s2:Shared) (its:Array Value) (hl:its.size=bs.length),Walks X.prog X.w X.A.in1 J [J,a] [J] its.size (λi v=>its[i]? =some v) (λi h=>h.IsListIter J a i/\h.IsList a its)->s2.heap.IsListIter J a 0->s2.heap.IsList a its->TruthOf X.prog X.w X.A.in1 (λi v=>its[i]? =some v) (λi=>bs.getD i false)->
   (∀h' tk,(∀b o,b∉ [J]->s2.heap.get? b=some o->h'.get? b=some o)->Inv X ae σ H {s2 with heap:=h',toks:=tk})->R (.ref J) s2):wpAny (model X.prog X.w) X.A.in1 (pyIter (.ref a)) R E s:=by
 obtain⟨its,rv,pl,hz⟩:=I.list h1
 have l1:=rv.length
 have l2:=h2.length
 have l3:=oJ hb
 have hlt:a<s.heap.objs.size:=by obtain⟨o,n,e,_⟩:=pl;exact Heap.lt_size e
 refine wpAny_pyIter_list pl.isList (hR s.heap.objs.size _ its.toArray (by simp;omega) (Walks.list (A:=X.A.in1) (I.ok.hd hc) _ a (Nat.ne_of_lt hlt) its.toArray) ⟨_,Heap.get?_push_size _ rfl,rfl,rfl⟩ ?_ ?_ ?_)
 ·obtain⟨o,ho,q⟩:=pl.isList
  exact⟨o,Heap.get?_push_of_some _ ho,q⟩
 ·intro i v s' Q E hv hq
  have hv':its[i]? =some v:=by simpa using hv
  have hi:=(List.getElem?_eq_some_iff.mp hv').1
  have ex:xs[i]? =some xs[i]:=List.getElem?_eq_getElem (by omega)
  obtain⟨u,e1,r1⟩:=rv.get ex
  rw[hv'] at e1;cases e1;obtain⟨d,e2,r2⟩:=h2.get' ex
  obtain⟨b,rfl,e3⟩:=pi hb e2
  rcases hx:xs[i] with _|_|_|_|_|_|_|_<;>rw[hx] at r1 r2<;>cases r2
  cases r1
  have:bs.getD i false=b:=by simp[List.getD,e3]
  dsimp only at hq;rw[this] at hq;exact wpAny_truthy_bool hq
 ·intro h' tk hk
  refine I.kept λb o e=>hk b o (λhm=>?_) (Heap.get?_push_of_some _ e)
  have:b=s.heap.objs.size:=by simpa using hm
  exact absurd (this▸Heap.lt_size e) (Nat.lt_irrefl _)
theorem oA(hc:X.calm=true):ee X (.builtin "any") (λxs H Q=> ∃a ys ds bs,xs=[.ref a]/\SqL X.K H a ys/\Reps X.K H ys ds/\gm ds=some bs/\Q (.bl (bs.any id)) H):=by
 intro ae s σ H xs us Q I r h;obtain⟨a,ys,ds,bs,rfl,h1,h2,h3,q⟩:=h
 obtain⟨u,rfl,rx⟩:=fC r
 cases rx
 refine call_any_walk (kM I h1 h2 h3 hc λJ s2 its hl W st1 st2 tr kp=>?_)
 refine⟨J,_,_,_,_,_,_,rfl,W,⟨st1,st2⟩,tr,λh' tk hk=>⟨.bl _,H,kp h' tk hk,rfl,?_⟩⟩
 rw[hl,uj];exact q
theorem iY(hc:X.calm=true):ee X (.builtin "all") (λxs H Q=> ∃a ys ds bs,xs=[.ref a]/\SqL X.K H a ys/\Reps X.K H ys ds/\gm ds=some bs/\Q (.bl (bs.all id)) H):=by
 intro ae s σ H xs us Q I r h;obtain⟨a,ys,ds,bs,rfl,h1,h2,h3,q⟩:=h
 obtain⟨u,rfl,rx⟩:=fC r
 cases rx
 refine call_all_walk (kM I h1 h2 h3 hc λJ s2 its hl W st1 st2 tr kp=>?_)
 refine⟨J,_,_,_,_,_,_,rfl,W,⟨st1,st2⟩,tr,λh' tk hk=>⟨.bl _,H,kp h' tk hk,rfl,?_⟩⟩
 rw[hl,q9];exact q
def ng:List D->Option D
 | [.lst ds]=>(gm ds).map λbs=>.bl (bs.any id)
 |_=>none
def n5:List D->Option D
 | [.lst ds]=>(gm ds).map λbs=>.bl (bs.all id)
 |_=>none
theorem vq:gj X.K .s (λxs H Q=> ∃a ys ds bs,xs=[.ref a]/\SqL X.K H a ys/\Reps X.K H ys ds/\gm ds=some bs/\Q (.bl (bs.any id)) H) ng:=by
 intro H hid vs ds d Q hf h r q;unfold ng at h;split at h
 ·rename_i zs
  cases e1:gm zs with
  |none=>rw[e1] at h;cases h
  |some bs=>
   rw[e1] at h;cases h;obtain⟨x,rfl,r1⟩:=Reps1.one r
   obtain⟨a,xs,rfl,h1,h2⟩:=r1.lst
   exact⟨a,xs,zs,bs,rfl,h1,h2.mono (cX _ _),e1,q _ H (Same.refl _) .bl⟩
 ·cases h
theorem nP:gj X.K .s (λxs H Q=> ∃a ys ds bs,xs=[.ref a]/\SqL X.K H a ys/\Reps X.K H ys ds/\gm ds=some bs/\Q (.bl (bs.all id)) H) n5:=by
 intro H hid vs ds d Q hf h r q;unfold n5 at h;split at h
 ·rename_i zs
  cases e1:gm zs with
  |none=>rw[e1] at h;cases h
  |some bs=>
   rw[e1] at h;cases h;obtain⟨x,rfl,r1⟩:=Reps1.one r
   obtain⟨a,xs,rfl,h1,h2⟩:=r1.lst
   exact⟨a,xs,zs,bs,rfl,h1,h2.mono (cX _ _),e1,q _ H (Same.refl _) .bl⟩
 ·cases h
def iB:List D->Option (List Int)
 | []=>some []
 | .int b::r=>(iB r).map (b:: ·)
 |_=>none
theorem jd: ∀ {ds:List D} {ns:List Int},iB ds=some ns->ds=ns.map D.int
 | [],_,h=>by cases h;rfl
 |x::r,bs,h=>by
  cases x with
  |int b=>
   unfold iB at h;cases e1:iB r with
   |none=>rw[e1] at h;cases h
   |some rs=>rw[e1] at h;cases h;simp[jd e1]
  |_=>cases h
end
end L2
namespace PySem.SeqAt
open AutoSeq1 (wpAny_loadPart')
open MeetsSeq MeetsSeq2 MeetsSeq3 SeqRoads2
theorem ka {M:Model}{A:Around}{E:Value->Shared->Prop}{s:Shared}{β:Type}(f:Nat->β->Sem (ForInStep β))(I:List Nat->β->Shared->Prop)(Q:β->Shared->Prop)
 (turn: ∀x rest b s,I (x::rest) b s->wpAny M A (f x b) (λr s'=>match r with| .yield b'=>I rest b' s'| .done b'=>Q b' s') E s)
 (fin: ∀b s,I [] b s->Q b s) (a b:Nat) (c:β) (h:I (List.range' a (b-a)) c s):wpAny M A (forIn [a:b] c f) Q E s:=by
 rw[Std.Legacy.Range.forIn_eq_forIn_range'];have hsz:([a:b]:Std.Legacy.Range).size=b-a:=by simp[Std.Legacy.Range.size]
 show wpAny M A (forIn (List.range' a ([a:b]:Std.Legacy.Range).size 1) c f) Q E s;rw[hsz];exact wpAny_forIn_list f I Q turn fin _ c h
theorem tuple_indexAt(l:Addr)(items:Array Value)(n:Nat)(dd:Option Addr)(sl:Array (Option Value))(x:Value)(e:Value->Bool)(j:Nat)(hj:j<items.size)(hit:e items[j]=true)(hno: ∀m (hm:m<items.size),m<j->e items[m]=false):
 Meets (Builtin.«tuple.index» ⟨[.ref l,x],[]⟩)
  (λA R s=>s.heap.get? l=some {cls:=.type "tuple",dict:=dd,data:=.seq items n,slots:=sl}/\(∀y,y∈items->EqAt A.in1 s y x (e y))/\R (.ok (.ret (.int j s.toks))) {s with toks:=s.toks+1}):=
 .of_wp λprog w A R s h=>by
  obtain⟨hp,g,d,tk,os⟩:=s;obtain⟨hl,he,h⟩:=h
  wp_walk using wpAny_loadPart' hl,ka _ (λrest b s'=>b.1=none/\s'=⟨hp,g,d,tk,os⟩/\ ∃i,i<=j/\rest=List.range' i (items.size-i)) _
  case turn=>
   rintro y rest b s' ⟨hb,rfl,i,hij,hz⟩
   have lt:i<items.size:=by omega
   have er:List.range' i (items.size-i)=i::List.range' (i+1) (items.size- (i+1)):=by
    rw[show items.size-i=(items.size- (i+1))+1 by omega];rfl
   rw[er] at hz;injection hz with e1 e2
   subst e1 e2;rw[show items[y]? =some items[y] by simp[lt]]
   refine wpAny_bind (he _ (Array.getElem_mem lt) prog w _ _ ?_)
   by_cases ej:y=j
   ·subst ej
    rw[hit]
    wp_walk
    exact⟨_,rfl,h⟩
   ·rw[hno y lt (by omega)]
    wp_walk
    exact⟨rfl,rfl,y+1,by omega,rfl⟩
  case fin=>
   rintro⟨b1,b2⟩ s' ⟨hb,rfl,i,hij,hz⟩
   have:=congrArg List.length hz
   simp at this;omega
  case h=>
   exact⟨rfl,rfl,0,Nat.zero_le _,by simp⟩
end PySem.SeqAt
namespace L2
open PySem PySem.Spec PyProof.Rows
def tW(ds:List D)(x:D):Option Nat:=ds.findIdx? λd=>cC d x
theorem wW {X:Cx}{ae:List (Addr×Obj)}{σ:St}{H:Hp}{s:Shared}(I:Inv X ae σ H s){x:D}{v:V}{a:Value}{A:Around}(hx:Rep X.K H v x)(ra:RelV v a): ∀ {ds:List D} {xs:List V} {its:List Value},Reps X.K H xs ds->Vals xs its->A.units+cR ds<cLine->
 ∃e:Value->Bool,(∀y,y∈its->SeqAt.EqAt A s y a (e y))/\ ∀(j:Nat) (hj:j<its.length) (d:D),ds[j]? =some d->e its[j]=cC d x:=by
 intro ds xs its r rv hu
 classical
 let e:Value->Bool:=λy=>if h: ∃(d:D) (u:V),RelV u y/\Rep X.K H u d then cC h.choose x else false
 have key: ∀y u d,RelV u y->Rep X.K H u d->e y=cC d x:=λy u d h1 h2=>by
  have hex: ∃(d:D) (u:V),RelV u y/\Rep X.K H u d:=⟨d,u,h1,h2⟩
  show(if h: ∃(d:D) (u:V),RelV u y/\Rep X.K H u d then cC h.choose x else false)=cC d x
  rw[dif_pos hex];obtain⟨u',s1,s2⟩:=hex.choose_spec
  have eu:u'=u:=s1.inj h1
  rw[eu] at s2;exact Rep.eqv I s2 h2 x
 have l1:=rv.length
 have l2:=r.length
 have at': ∀(j:Nat) (hj:j<its.length),∃u d,ds[j]? =some d/\RelV u its[j]/\Rep X.K H u d:=λj hj=>by
  have ex:xs[j]? =some xs[j]:=List.getElem?_eq_getElem (by omega)
  obtain⟨w,e1,r1⟩:=rv.get ex
  obtain⟨d,e2,r2⟩:=r.get' ex
  have:its[j]=w:=by rw[List.getElem?_eq_getElem hj] at e1;exact Option.some.inj e1
  rw[this];exact⟨_,d,e2,r1,r2⟩
 refine⟨e,λy hy=>?_,λj hj d hd=>?_⟩
 ·obtain⟨j,hj,rfl⟩:=List.mem_iff_getElem.mp hy
  obtain⟨u,d,e1,r1,r2⟩:=at' j hj
  rw[key _ _ _ r1 r2];have:=jg e1
  exact jG I (dG d+1) (Nat.lt_succ_self _) (by omega) r1 ra r2 hx
 ·obtain⟨u,d',e1,r1,r2⟩:=at' j hj
  rw[hd] at e1;cases e1;exact key _ _ _ r1 r2
section
variable {X:Cx}{c:Ct}{e o:Expr}{k k2:Kd}{f g:FE}{pos p p2 apos:Pos}
theorem pp(hu:X.A.units+64<cLine):Al X "tuple.index" (λv vs H Q=> ∃a xs ds x y j,v=.ref a/\vs=[x]/\SqT X.K H a xs/\Reps X.K H xs ds/\Rep X.K H x y/\cR ds<=32/\tW ds y=some j/\Q (.int j) H):=by
 intro ae s σ H v vs u us Q I rv rs h;obtain⟨a,xs,ds,x,y,j,rfl,rfl,h1,h2,h3,h4,h5,q⟩:=h
 cases rv
 obtain⟨w,rfl,rw'⟩:=fC rs
 obtain⟨its,r,pl,hz⟩:=I.tuple h1
 have l1:=r.length
 have l2:=h2.length
 obtain⟨e,g1,g2⟩:=wW (A:=X.A.in1.in1) I h3 rw' h2 r (by rw[fj,fj];omega)
 unfold tW at h5;rw[List.findIdx?_eq_some_iff_getElem] at h5;obtain⟨hj,hp,hno⟩:=h5
 obtain⟨⟨cls,dd,data,sl⟩,ho,hc,n,hd⟩:=id pl
 simp only at hc hd;subst hc hd;have hj':j<its.length:=by omega
 have gt: ∀m (hm:m<its.length) (hm2:m<ds.length),e its[m]=cC ds[m] y:=λm hm hm2=>g2 m hm _ (List.getElem?_eq_getElem hm2)
 refine call_meets PySem.F.slot_tuple_index ⟨_,ho,rfl⟩ PySem.F.entry_tuple_index (PySem.F.args_tuple_index_2 _ _) (SeqAt.tuple_indexAt a its.toArray n dd sl w e j (by simpa using hj') ?_ ?_) ⟨ho,?_,?_⟩
 ·simp only[List.getElem_toArray];rw[gt j hj' hj];exact hp
 ·intro m hm hmj
  simp only[List.getElem_toArray];rw[gt m (by simpa using hm) (by omega)]
  have:=hno m hmj
  simpa using this
 ·intro z hz'
  exact SeqAt.EqAt.of_in1 (g1 z (by simpa using hz'))
 ·exact⟨.int j,H,I.tok _,⟨_,rfl⟩,q⟩
end
section
variable {X:Cx}{c:Ct}{e o:Expr}{k k2:Kd}{f g:FE}{pos p p2 apos:Pos}
def sL:D->D->Option D:=λt x=>match t with
 | .tup ds=>if cR ds<=32 then(tW ds x).map λj=>.int j else none
 |_=>none
theorem oK(hu:X.A.units+64<cLine)(ho:DP X c k o f)(he:DP X c k2 e g)
 (hbase:attributeBase o "index" X.env (eval o X.env)=eval o X.env:=by rfl)
 (hfew:((backTo pos (starEach [e] X.env)).all (λx=> !x.1)&&(backToKw pos (keywordEach [] X.env)).all (λx=>x.1.isSome)
   &&decide (([e]:List Expr).length+([]:List Keyword).length+(if([]:List Keyword).isEmpty then 0 else 1)<30))=true:=by rfl)
 (hline:(apos.endLine==pos.line)=true:=by rfl) (hs:starEach [e] X.env=(false,eval e X.env)::starEach [] X.env:=by rfl) (hplain:(backTo pos (starEach [] X.env)).any (·.1)=false:=by rfl):
 DP X c .s (.Call (.Attribute o "index" apos) [e] [] pos) (aj sL f g):=λhid ρ=>
 PE.imp (mB PySem.F.plainAttrs_tuple PySem.F.slot_tuple_index PySem.F.type_tuple_index (pp hu) (ho hid ρ) (bi (he hid ρ) cY hs) hbase hfew hline hs hplain) λσ H Q hq_=>by
  obtain⟨sr,d,hd,q⟩:=hq_
  obtain⟨x,y,e1,e2,e3⟩:=gg hd
  unfold sL at e3;split at e3
  ·split at e3
   ·rename_i ds _
    cases e4:tW ds y with
    |none=>rw[e4] at e3;cases e3
    |some j=>
     rw[e4] at e3;cases e3;refine⟨sr,_,e1,λv H1 s1 r1=>?_⟩
     have b1:=RK.b k r1 λa n=>sr.fresh n
     obtain⟨a,xs,rfl,t1,t2,t3⟩:=b1.tup
     refine⟨.inr (.inl ⟨rfl,xs,t2⟩),sr.ext s1,y,e2,λu H2 s2 r2=>?_⟩
     have b2:=RK.b k2 r2 λa n=>(sr.ext s1).fresh n
     exact⟨a,xs,ds,u,y,j,rfl,rfl,Same.seqT s2 t2,(t3.mono (ba s2)).mono (cX _ _),b2.full, ‹_›,e4,q _ H2 (s1.trans s2) .int⟩
   ·cases e3
  ·cases e3
theorem tT:ee X (.type "range") (λxs H Q=> ∃j:Int,xs=[.int j]/\ ∀p,H p=none->Q (.ref p) (cF H p (.rng 0 j))):=by
 intro ae s σ H xs us Q I r h;obtain⟨j,rfl,q⟩:=h
 obtain⟨u,rfl,t,rfl⟩:=fC r
 refine call_range_1 ⟨.ref s.heap.objs.size,_,I.laid (λb o e=>Heap.get?_push_of_some _ e) (Nat.le_refl _) ?_,rfl,q _ (I.hok.fresh (Nat.le_refl _))⟩
 exact⟨_,_,_,Heap.get?_push_size _ rfl⟩
theorem AY(lo:Int)(n:Nat): ∀ {K:W.Frag} {F:Hp},Reps K F ((List.range n).map λ(i:Nat)=>V.int (lo+i)) (sP lo n):=by
 intro K F;unfold sP
 generalize List.range n=l
 induction l with
 |nil=>exact .nil
 |cons a l ih=>exact .cons .int ih
theorem lN(hc:X.calm=true):ee X (.type "list") (λxs H Q=> ∃p lo hi,xs=[.ref p]/\H p=some (.rng lo hi)/\ -(2^30)<=lo/\lo<=2^30/\ -(2^30)<=hi/\hi-lo<=1000000/\hi<=2^31/\ ∀l,H l=none->Q (.ref l) (cF H l (.lst ((List.range (hi-lo).toNat).map λ(i:Nat)=>V.int (lo+i))))):=by
 intro ae s σ H xs us Q I r h;obtain⟨p,lo,hi,rfl,hp,b1,b2,b3,b4,b5,q⟩:=h
 obtain⟨u,rfl,rx⟩:=fC r
 cases rx
 obtain⟨t,u,v,hr⟩:=I.hok p _ hp
 have hsz:Builtin.Range.rangeSize lo hi 1=(hi-lo).toNat:=by
  unfold Builtin.Range.rangeSize;rw[if_pos (by decide)]
  split
  ·rw[Int.ediv_one];omega
  ·omega
 refine call_list_range (a:=lo) (b:=hi) (c:=1) (n:=(hi-lo).toNat) (I.ok.hd hc) hr ?_ hsz (by omega) λh' tk acc' c' kp hS hacc=>?_
 ·exact small_one (by omega) (by omega) (by omega) (by omega)
 ·have hz:(hi-lo).toNat<=sizeLine:=by rw[sizeLine_eq];omega
  refine⟨.ref s.heap.objs.size,_,I.laid (t':=tk) kp (Nat.le_refl _) (show ObjOk X.prog X.w _ h' _ (.lst _) from⟨by simpa using hz,acc'.toList,c',?_,by simpa using hS⟩),rfl,q _ (I.hok.fresh (Nat.le_refl _))⟩
  obtain⟨ha,hb⟩:=hacc
  have key: ∀(l:List Value) (k m:Nat),l.length=m->(∀(j:Nat) v,l[j]? =some v-> ∃t,v=.int (lo+((k+j:Nat):Int)*1) t)->Vals ((List.range' k m).map λ(i:Nat)=>V.int (lo+i)) l:=by
   intro l
   induction l with
   |nil=>intro k m hm _;subst hm;exact .nil
   |cons x l ih=>
    intro k m hm hv;subst hm;rw[List.length_cons,List.range'_succ];refine .cons ?_ (ih (k+1) l.length rfl λj v e=>?_)
    ·obtain⟨t,rfl⟩:=hv 0 x rfl
     exact⟨t,by simp⟩
    ·obtain⟨t,rfl⟩:=hv (j+1) v (by simpa using e)
     exact⟨t,by congr 3;omega⟩
  have:=key acc'.toList 0 (hi-lo).toNat (by simpa using ha) λj v e=>by
   have:=hb j v (by simpa using e)
   simpa using this
  rw[List.range_eq_range'];exact this
def xY:D->Option D
 | .int j=>if j.natAbs<=1000000 then some (.lst (sP 0 j.toNat)) else none
 |_=>none
def pQ(f:FE):FE:=λρ=>(f ρ).bind xY
theorem eG(hc:X.calm=true)(hml:X.mg "list"=none)(hmr:X.mg "range"=none)(he:DP X c k e f)(hgl:Gl X "list":=by rfl)(hgr:Gl X "range":=by rfl)(hvl:bootBuiltins "list"=some (.type "list"):=by kernel_rfl)(hvr:bootBuiltins "range"=some (.type "range"):=by kernel_rfl)
 (hs1:starEach [e] X.env=(false,eval e X.env)::starEach [] X.env:=by rfl) (hpl1:(backTo pos (starEach [] X.env)).any (·.1)=false:=by rfl) (hpl2:(backTo p2 (starEach [] X.env)).any (·.1)=false:=by rfl) {p3:Pos}
 (hs2:starEach [.Call (.Name "range" p3) [e] [] p2] X.env=(false,eval (.Call (.Name "range" p3) [e] [] p2) X.env)::starEach [] X.env:=by rfl):
 DP X c .n (.Call (.Name "list" p) [.Call (.Name "range" p3) [e] [] p2] [] pos) (pQ f):=λhid ρ=>
 PE.imp (jv (lN hc) hgl hml hvl (bi (jv tT hgr hmr hvr (bi (he hid ρ) cY hs1) (by decide) (by decide) hs1 hpl2) cY hs2) (by decide) (by decide) hs2 hpl1) λσ H Q hq_=>by
  obtain⟨sr,d,hd,q⟩:=hq_
  unfold pQ at hd;cases e1:f ρ with
  |none=>rw[e1] at hd;cases hd
  |some z=>
   rw[e1] at hd;have hd:xY z=some d:=hd
   unfold xY at hd;split at hd
   ·split at hd
    ·rename_i _ j _ _
     cases hd
     refine⟨sr,_,e1,λv H1 s1 r1=>?_⟩
     have b1:=(RK.b k r1 λa n=>sr.fresh n).int
     cases b1
     refine⟨j,rfl,λr hr=>?_⟩
     refine⟨r,0,j,rfl,bf,by omega,by omega,by omega,by omega,by omega,λl hl=>?_⟩
     have s2:Same H (cF H1 r (.rng 0 j)):=s1.trans (bc hr _)
     refine q _ _ (s2.trans (bc hl _)) ?_
     have:=gA (hid:=hid) (K:=X.K) hl s2 (AY 0 (j-0).toNat)
     rw[show(j-0).toNat=j.toNat by omega] at this⊢
     exact this
    ·cases hd
   ·cases hd
def bw:=i2 (λ_ _=>true) λi j=>.int (i+j)
def cK:=i2 (λ_ _=>true) λi j=>.int (i-j)
def bH:=i2 (λi j=>decide (i.natAbs<2^1000)&&decide (j.natAbs<2^1000)) λi j=>.int (i*j)
def bn:=i2 (λ_ j=>decide (0<j)) λi j=>.int (i % j)
def iZ:=i2 (λ_ j=>decide (0<j)&&decide (j.natAbs<2^1000)) λi j=>.int (i / j)
def dP:=i2 (λi j=>decide (0<=j)&&decide (j<=1000000)&&decide (i.natAbs<2^64)) λi j=>.int (i^j.toNat)
def Aq:=i2 (λ_ _=>true) λi j=>.bl (decide (i<j))
def BJ:=i2 (λ_ _=>true) λi j=>.bl (decide (i<=j))
def BK:=i2 (λ_ _=>true) λi j=>.bl (decide (j<=i))
theorem sQ {i:Int}(h:i.natAbs<2^1000):Builtin.Int.intBits i<=2^20:=by
 unfold Builtin.Int.intBits;split
 ·exact Nat.zero_le _
 ·rename_i hz
  have h0:i.natAbs≠0:=by simp at hz;omega
  have:=(Nat.log2_lt h0).mpr h
  omega
theorem xA:ji X (binaryOp .Mult) (rI IntMulOk λi j=>.int (i*j)):=BD λ_ _ _ _ _ _ _ hc q=>mul_int q hc
variable {a b:Expr}
theorem dw {k1 k2:Kd}(ha:DP X c k1 a f)(hb:DP X c k2 b g):DP X c .s (.BinOp a .Add b pos) (aj bw f g):=jP uu v5 ha hb
theorem iQ {k1 k2:Kd}(ha:DP X c k1 a f)(hb:DP X c k2 b g):DP X c .s (.BinOp a .Sub b pos) (aj cK f g):=jP y8 v5 ha hb
theorem zR {K:W.Frag}:jY K .s (rI IntMulOk λi j=>.int (i*j)) bH:=xq λi j h=>by
 simp only[Bool.and_eq_true,decide_eq_true_eq] at h;exact IntMulOk.of_bits (sQ h.1) (sQ h.2)
theorem eT {k1 k2:Kd}(ha:DP X c k1 a f)(hb:DP X c k2 b g):DP X c .s (.BinOp a .Mult b pos) (aj bH f g):=jP xA zR ha hb
theorem zo {K:W.Frag}:jY K .s (rI (λ_ j=>0<j) λi j=>.int (i % j)) bn:=xq λi j h=>by simpa using h
theorem cA {k1 k2:Kd}(ha:DP X c k1 a f)(hb:DP X c k2 b g):DP X c .s (.BinOp a .Mod b pos) (aj bn f g):=jP zh zo ha hb
theorem vt:ji X (binaryOp .FloorDiv) (rI (λ_ j=>0<j/\j.natAbs<2^1000) λi j=>.int (i / j)):=BD λi j _ _ _ _ _ hc q=>by
 obtain⟨h1,h2⟩:=hc
 refine floordiv_int (by omega) (by rw[Int.fdiv_eq_ediv_of_nonneg i (by omega)];exact q) (.inl (PyProof.noPylong_of_log2 ?_))
 have:=(Nat.log2_lt (n:=j.natAbs) (by omega)).mpr h2
 omega
theorem wB {K:W.Frag}:jY K .s (rI (λ_ j=>0<j/\j.natAbs<2^1000) λi j=>.int (i / j)) iZ:=xq λi j h=>by
 simp only[Bool.and_eq_true,decide_eq_true_eq] at h;exact⟨h.1,h.2⟩
theorem rM {k1 k2:Kd}(ha:DP X c k1 a f)(hb:DP X c k2 b g):DP X c .s (.BinOp a .FloorDiv b pos) (aj iZ f g):=jP vt wB ha hb
theorem yX {K:W.Frag}:jY K .s (rI Bn λi j=>.int (i^j.toNat)) dP:=xq λi j h=>by
 simp only[Bool.and_eq_true,decide_eq_true_eq] at h;exact⟨h.1.1,h.1.2,h.2⟩
theorem jn {k1 k2:Kd}(ha:DP X c k1 a f)(hb:DP X c k2 b g):DP X c .s (.BinOp a .Pow b pos) (aj dP f g):=jP zx yX ha hb
theorem u5 {f g:GE}(ha:DE X c .s a f)(hb:DE X c .s b g):DE X c .s (.BinOp a .Add b pos) (kH bw f g):=AA uu v5 ha hb
end
structure Cl(P:Program)(w:World)(K:W.Frag)(mg:Str->Option Value)(base:Heap)(k:Nat)(x:Str)(ps:List Str)(sp:Sp):Prop where
 ex: ∃f fd,FnOk P w K mg base lR k f fd ps sp/\mg x=some (.ref f)/\W.keepIn K (.ref f)=true/\Binds K fd ps []
structure Df(K:W.Frag)(mg:Str->Option Value)(x:Str)(st:Stmt)(ps:List Str):Prop where
 ex: ∃f fd,Fun K x x st f fd/\mg x=some (.ref f)/\Binds K fd ps []
section
variable {P:Program}{w:World}{K:W.Frag}{mg:Str->Option Value}{base:Heap}{x:Str}{st:Stmt}{N ps:List Str}{k n:Nat}{t:FS}{kd:Kd}
theorem dm(F:Df K mg x st ps)(S:FnScope N ps (ar st))(hkd:kd≠ .b)(hn:ps.length=n)
 (body: ∀(f:Addr) (cdv:Value) (A:Around) (outer:List Env) (s:Shared) (H:Hp) (hid:bF) (E:XK),Room k (A.deeper (envOfC x (ar st) s.heap.objs.size f cdv))->
   oy (jI lR P w K mg base N x (ar st) f cdv A outer s H E).nox ⟨H,hid,λ_=>false⟩ kd (aQ st) t):
 Cl P w K mg base (k+1) x ps (ir K kd n (j0 kd N.length t)):=by
 obtain⟨f,fd,F,hm,hb⟩:=F.ex
 subst hn;exact⟨f,fd,tq F S hkd (body f),hm,F.kp,hb⟩
theorem nT(F:Df K mg x st ps)(S:FnScope N ps (ar st))(hkd:kd≠ .b)(hn:ps.length=n+1)
 (body: ∀(f:Addr) (cdv:Value) (A:Around) (outer:List Env) (s:Shared) (H:Hp) (hid:bF) (a:Addr) (E:XK),Room k (A.deeper (envOfC x (ar st) s.heap.objs.size f cdv))->
   oy (jI lR P w K mg base N x (ar st) f cdv A outer s H E).nox ⟨H,hid,λb=>decide (b=a)⟩ kd (aQ st) t):
 Cl P w K mg base (k+1) x ps (og K kd n (qb kd N.length t)):=by
 obtain⟨f,fd,F,hm,hb⟩:=F.ex
 exact⟨f,fd,Ae F S hkd hn (body f),hm,F.kp,hb⟩
end
section
variable {X:Cx}{c:Ct}{e a b:Expr}{es rest:List Expr}{k:Kd}{pos p:Pos}{x:Str}{ps:List Str}{j n:Nat}
def nF(n:Nat)(P:List D->Option D):List D->Option D:=λds=>if ds.length=n then P ds else none
theorem eS {P:List D->Option D}{fs:FA}(C:Cl X.prog X.w X.K X.mg X.base j x ps (ir X.K k n P))(hr:Room j X.A)
 (ha:DA X c (e::es) fs) (hg:Gl X x:=by rfl) (hdb:(x==("__debug__":Str))=false:=by decide) (he:starEach (e::es) X.env=(false,eval e X.env)::starEach es X.env:=by rfl) (hpl:(backTo pos (starEach es X.env)).any (·.1)=false:=by rfl):
 DP X c k (.Call (.Name x p) (e::es) [] pos) (ai (nF n P) fs):=by
 obtain⟨f,fd,F,hm,hk,hb⟩:=C.ex
 exact xH F hr hm hk hb ha hg hdb he hpl
theorem fI(i:Nat){y:Str}{py:Pos}{M:List D->List D->Option (D×List D)}{fs:GA}(C:Cl X.prog X.w X.K X.mg X.base j x ps (og X.K k n M))(hr:Room j X.A)
 (ha:DG X c es fs) (hkb:k≠ .b:=by decide) (hN:X.N[i]? =some y:=by rfl) (hv:qw X.env.scope y:=by first|exact Or.inl rfl|exact Or.inr (Or.inl rfl)|exact Or.inr (Or.inr rfl)) (hd:(y==("__debug__":Str))=false:=by decide)
 (hcd:(y==("__classdict__":Str))=false:=by decide) (hs:starEach (.Name y py::es) X.env=(false,eval (.Name y py) X.env)::starEach es X.env:=by rfl) (hg:Gl X x:=by rfl) (hdb:(x==("__debug__":Str))=false:=by decide) (hpl:(backTo pos (starEach es X.env)).any (·.1)=false:=by rfl):
 DE X c k (.Call (.Name x p) (.Name y py::es) [] pos) (aG i n M fs):=by
 obtain⟨f,fd,F,hm,hk,hb⟩:=C.ex
 exact u9 i F hr hm hk hb ha hkb hN hv hd hcd hs hg hdb hpl
theorem yY {M:List D->List D->Option (D×List D)}{g:FE}{fs:FA}(C:Cl X.prog X.w X.K X.mg X.base j x ps (og X.K k n M))(hr:Room j X.A)
 (h1:DP X c .n e g) (ha:DA X c es fs) (hkb:k≠ .b:=by decide) (hs:starEach (e::es) X.env=(false,eval e X.env)::starEach es X.env:=by rfl) (hg:Gl X x:=by rfl) (hdb:(x==("__debug__":Str))=false:=by decide) (hpl:(backTo pos (starEach es X.env)).any (·.1)=false:=by rfl):
 DP X c k (.Call (.Name x p) (e::es) [] pos) (jM n M g fs):=by
 obtain⟨f,fd,F,hm,hk,hb⟩:=C.ex
 exact uK F hr hm hk hb h1 ha hkb hs hg hdb hpl
end
open PySem PySem.W PyProof.Rows
structure Od(b:Nat->Nat->Bool):Prop where
 tr: ∀ {i j k:Nat},b j i=false->b k j=false->b k i=false
 as: ∀ {i j:Nat},b i j=true->b j i=false
theorem Od.rf {b:Nat->Nat->Bool}(O:Od b)(i:Nat):b i i=false:=by
 cases h:b i i with
 |false=>rfl
 |true=>have:=O.as h;rw[h] at this;exact this
structure Pm(N:Nat)(p:Array Nat):Prop where
 perm:p.Perm (List.toArray (List.range N))
theorem Pm.size {N:Nat}{p:Array Nat}(h:Pm N p):p.size=N:=by rw[h.perm.size_eq];simp
theorem Pm.lt {N:Nat}{p:Array Nat}(h:Pm N p)(hN:0<N)(k:Nat):p.getD k 0<N:=by
 by_cases hk:k<p.size
 ·have e:p.getD k 0=p[k]:=by simp[Array.getD,hk]
  rw[e];have:p[k]∈(List.toArray (List.range N)):=h.perm.mem_iff.mp (Array.getElem_mem hk)
  simpa using this
 ·have e:p.getD k 0=0:=by simp[Array.getD,hk]
  rw[e];exact hN
theorem ph {p q:Array Nat}{i j:Nat}(h:p[i]? =q[j]?):p.getD i 0=q.getD j 0:=by
 rw[Array.getD_eq_getD_getElem?,Array.getD_eq_getD_getElem?,h]
section
variable {b:Nat->Nat->Bool}{N:Nat}{cmp:Nat->Nat->(Bool->Shared->Prop)->Shared->Prop}{s:Shared}
def Srt(b:Nat->Nat->Bool)(p:Array Nat)(n:Nat):Prop:= ∀i j,i<=j->j<n->b (p.getD j 0) (p.getD i 0)=false
def Fal(b:Nat->Nat->Bool)(p:Array Nat)(n:Nat):Prop:= ∀i j,i<=j->j<n->b (p.getD i 0) (p.getD j 0)=false
theorem Srt.succ(O:Od b){p:Array Nat}{n:Nat}(h:Srt b p n)(hn:1<=n)(e:b (p.getD n 0) (p.getD (n-1) 0)=false):Srt b p (n+1):=λi j hij hj=>by
 by_cases h1:j<n
 ·exact h i j hij h1
 ·have:j=n:=by omega
  subst this
  by_cases h2:i=j
  ·subst h2;exact O.rf _
  ·exact O.tr (h i (j-1) (by omega) (by omega)) e
theorem Fal.succ(O:Od b){p:Array Nat}{n:Nat}(h:Fal b p n)(hn:1<=n)(e:b (p.getD (n-1) 0) (p.getD n 0)=false):Fal b p (n+1):=λi j hij hj=>by
 by_cases h1:j<n
 ·exact h i j hij h1
 ·have:j=n:=by omega
  subst this
  by_cases h2:i=j
  ·subst h2;exact O.rf _
  ·exact O.tr e (h i (j-1) (by omega) (by omega))
theorem Fal.congr(O:Od b){p q:Array Nat}{n:Nat}(h:Fal b p n)(e: ∀k,k<n->b (p.getD k 0) (q.getD k 0)=false/\b (q.getD k 0) (p.getD k 0)=false):Fal b q n:=λi j hij hj=>
 O.tr (O.tr (e j hj).1 (h i j hij hj)) (e i (by omega)).2
theorem wY(O:Od b)(p:Array Nat):Srt b p 1:=λi j hij hj=>by
 have:i=j:=by omega
 subst this;exact O.rf _
theorem wG(O:Od b)(p:Array Nat):Fal b p 1:=λi j hij hj=>by
 have:i=j:=by omega
 subst this;exact O.rf _
theorem jl {p:Array Nat}{i j:Nat}(hj:j<=p.size)(k:Nat):(kas_rev p i j).getD k 0=if i<=k/\k<j then p.getD (i+j-1-k) 0 else p.getD k 0:=by
 have:=getElem?_mirror_all (i:=i) hj k
 unfold kas_rev;split
 ·rename_i h;rw[if_pos h] at this;exact ph this
 ·rename_i h;rw[if_neg h] at this;exact ph this
theorem Pm.rev {p:Array Nat}(h:Pm N p)(i j:Nat):Pm N (kas_rev p i j):=⟨(mirror_perm _ _ _ _).trans h.perm⟩
variable(O:Od b)(hN:0<N)(hc: ∀(i j:Nat) (C:Bool->Shared->Prop),i<N->j<N->C (b i j) s->cmp i j C s)
include O hN hc
theorem qF {p:Array Nat}(P:Pm N p){Q:Nat->Shared->Prop}: ∀(f n:Nat),1<=n->n+f<=N->Srt b p n->
 (∀m,n<=m->m<=n+f->Srt b p m->(m<n+f->b (p.getD m 0) (p.getD (m-1) 0)=true)->Q m s)->(kas_asc p f n).kasWp cmp Q s
 |0,n,h1,h2,hs,q=>q n (Nat.le_refl _) (Nat.le_refl _) hs λz=>absurd z (Nat.lt_irrefl _)
 |f+1,n,h1,h2,hs,q=>by
  unfold kas_asc;refine hc _ _ _ (P.lt hN _) (P.lt hN _) ?_
  cases e:b (p.getD n 0) (p.getD (n-1) 0) with
  |true=>simp only[if_true];exact q n (Nat.le_refl _) (by omega) hs λ_=>e
  |false=>
   simp only[Bool.false_eq_true,if_false];exact qF P f (n+1) (by omega) (by omega) (hs.succ O h1 e) λm a1 a2 a3 a4=>q m (by omega) (by omega) a3 λz=>a4 (by omega)
def Eqs(b:Nat->Nat->Bool)(p:Array Nat)(n q:Nat):Prop:= ∀i,n- (q+1)<=i->i<n->b (p.getD i 0) (p.getD (n-1) 0)=false/\b (p.getD (n-1) 0) (p.getD i 0)=false
omit hN hc in
theorem Eqs.rev {p:Array Nat}{n q:Nat}(hn:n<=p.size)(hq:q<n)(h:Eqs b p n q)(k:Nat):b (p.getD k 0) ((kas_rev p (n- (q+1)) n).getD k 0)=false/\b ((kas_rev p (n- (q+1)) n).getD k 0) (p.getD k 0)=false:=by
 rw[jl hn];split
 ·rename_i hk
  have h1:=h k hk.1 hk.2
  have h2:=h (n- (q+1)+n-1-k) (by omega) (by omega)
  exact⟨O.tr h2.2 h1.1,O.tr h1.2 h2.1⟩
 ·exact⟨O.rf _,O.rf _⟩
theorem ku {Q:Array Nat×Nat×Nat->Shared->Prop}: ∀(f:Nat) (p:Array Nat) (n q:Nat),Pm N p->1<=n->n+f<=N->q<n->Fal b p n->Eqs b p n q->
 (∀p' n' q',Pm N p'->n<=n'->n'<=n+f->q'<n'->Fal b p' n'->Eqs b p' n' q'->Q (p',n',q') s)->(kas_desc f p n q).kasWp cmp Q s
 |0,p,n,q,P,h1,h2,hq,hf,he,k=>k p n q P (Nat.le_refl _) (Nat.le_refl _) hq hf he
 |f+1,p,n,q,P,h1,h2,hq,hf,he,k=>by
  have hz:=P.size
  have e0: ∀p':Array Nat,Eqs b p' (n+1) 0:=λp' i a1 a2=>by
   have:i=n:=by omega
   subst this;exact⟨O.rf _,O.rf _⟩
  unfold kas_desc;refine hc _ _ _ (P.lt hN _) (P.lt hN _) ?_
  cases e:b (p.getD n 0) (p.getD (n-1) 0) with
  |true=>
   simp only[if_true];split
   ·rename_i hq0
    have ev:=he.rev O (by omega) hq
    have hf':Fal b (kas_rev p (n- (q+1)) n) n:=hf.congr O λk _=>ev k
    refine ku f _ (n+1) 0 (P.rev _ _) (by omega) (by omega) (by omega) (hf'.succ O h1 ?_) (e0 _) λp' n' q' a1 a2 a3=>k p' n' q' a1 (by omega) (by omega)
    have e1:(kas_rev p (n- (q+1)) n).getD n 0=p.getD n 0:=by rw[jl (by omega),if_neg (by omega)]
    rw[e1];exact O.tr (O.as e) (ev (n-1)).2
   ·exact ku f p (n+1) 0 P (by omega) (by omega) (by omega) (hf.succ O h1 (O.as e)) (e0 _) λp' n' q' a1 a2 a3=>k p' n' q' a1 (by omega) (by omega)
  |false=>
   simp only[Bool.false_eq_true,if_false];refine hc _ _ _ (P.lt hN _) (P.lt hN _) ?_
   cases e2:b (p.getD (n-1) 0) (p.getD n 0) with
   |true=>simp only[if_true];exact k p n q P (Nat.le_refl _) (by omega) hq hf he
   |false=>
    simp only[Bool.false_eq_true,if_false];refine ku f p (n+1) (q+1) P (by omega) (by omega) (by omega) (hf.succ O h1 e2) (λi a1 a2=>?_) λp' n' q' b1 b2 b3=>k p' n' q' b1 (by omega) (by omega)
    rw[show n+1-1=n by omega]
    by_cases hi:i=n
    ·subst hi;exact⟨O.rf _,O.rf _⟩
    ·have z:=he i (by omega) (by omega)
     exact⟨O.tr e2 z.1,O.tr z.2 e⟩
theorem pR {p:Array Nat}(P:Pm N p){n:Nat}(h1:1<=n)(hn:n<=N)(hf:Fal b p n){Q:Nat×Array Nat->Shared->Prop}(q: ∀m p',Pm N p'->1<=m->m<=N->Srt b p' m->Q (m,p') s):(kas_tail3 n N p).kasWp cmp Q s:=by
 unfold kas_tail3;rw[KasT.kasWp_bind];have hz:=P.size
 have hs:Srt b (kas_rev p 0 n) n:=λi j hij hj=>by
  rw[jl (by omega),jl (by omega),if_pos (by omega),if_pos (by omega)]
  exact hf _ _ (by omega) (by omega)
 exact qF O hN hc (P.rev _ _) (N-n) n h1 (by omega) hs λm a1 a2 a3 _=>q m _ (P.rev _ _) (by omega) (by omega) a3
theorem jQ {p:Array Nat}(P:Pm N p){n:Nat}(h1:1<=n)(hn:n+1<=N)(hf:Fal b p (n+1)){Q:Nat×Array Nat->Shared->Prop}(q: ∀m p',Pm N p'->1<=m->m<=N->Srt b p' m->Q (m,p') s):(kas_descPart n N p).kasWp cmp Q s:=by
 unfold kas_descPart;rw[KasT.kasWp_bind];refine ku O hN hc (N- (n+1)) p (n+1) 0 P (by omega) (by omega) (by omega) hf (λi a1 a2=>?_) λp' n' q' a1 a2 a3 a4 a5 a6=>?_
 ·have:i=n:=by omega
  subst this;exact⟨O.rf _,O.rf _⟩
 ·dsimp only
  have hz:=a1.size
  split
  ·exact pR O hN hc (a1.rev _ _) (by omega) (by omega) (a5.congr O λk _=>a6.rev O (by omega) a4 k) q
  ·exact pR O hN hc a1 (by omega) (by omega) a5 q
theorem v9 {p:Array Nat}(P:Pm N p){Q:Nat×Array Nat->Shared->Prop}(q: ∀m p',Pm N p'->1<=m->m<=N->Srt b p' m->Q (m,p') s):(kas_count N p).kasWp cmp Q s:=by
 unfold kas_count;rw[KasT.kasWp_bind];have hz:=P.size
 refine qF O hN hc P (N-1) 1 (Nat.le_refl _) (by omega) (wY O p) λm a1 a2 a3 a4=>?_
 split
 ·exact q m p P a1 (by omega) a3
 ·rename_i hm
  have hm':m≠N:=by simpa using hm
  have lt:=a4 (by omega)
  split
  ·refine hc _ _ _ (P.lt hN _) (P.lt hN _) ?_
   cases e:b (p.getD 0 0) (p.getD (m-1) 0) with
   |true=>simp only[if_true];exact q m p P a1 (by omega) a3
   |false=>
    simp only[Bool.false_eq_true,if_false];have eq: ∀i j,i<m->j<m->b (p.getD i 0) (p.getD j 0)=false:=λi j hi hj=>O.tr (O.tr (a3 j (m-1) (by omega) (by omega)) e) (a3 0 i (by omega) hi)
    have hr: ∀i,i<m->(kas_rev p 0 m).getD i 0=p.getD (0+m-1-i) 0:=λi hi=>by rw[jl (by omega),if_pos (by omega)]
    refine jQ O hN hc (P.rev _ _) a1 (by omega) (Fal.succ O (λi j hij hj=>?_) a1 ?_) q
    ·rw[hr i (by omega),hr j hj];exact eq _ _ (by omega) (by omega)
    ·have e1:(kas_rev p 0 m).getD m 0=p.getD m 0:=by rw[jl (by omega),if_neg (by omega)]
     rw[e1,hr (m-1) (by omega)]
     exact O.tr (O.as lt) (eq _ _ (by omega) (by omega))
  ·have:m=1:=by omega
   subst this;exact jQ O hN hc P (Nat.le_refl _) (by omega) ((wG O p).succ O (Nat.le_refl _) (O.as lt)) q
theorem kw {p:Array Nat}(P:Pm N p){k:Nat}(hs:Srt b p k){Q:Nat->Shared->Prop}: ∀(f l r:Nat),l<=r->r<=k->r-l<=f->(∀i,i<l->b (p.getD k 0) (p.getD i 0)=false)->(∀i,r<=i->i<k->b (p.getD k 0) (p.getD i 0)=true)->
 (∀m,m<=k->(∀i,i<m->b (p.getD k 0) (p.getD i 0)=false)->(∀i,m<=i->i<k->b (p.getD k 0) (p.getD i 0)=true)->Q m s)->(kas_place p k f l r).kasWp cmp Q s
 |0,l,r,h1,h2,h3,a,c,q=>q l (by omega) a λi z=>c i (by omega)
 |f+1,l,r,h1,h2,h3,a,c,q=>by
  unfold kas_place;split
  ·exact q l (by omega) a λi z=>c i (by omega)
  ·rename_i hlr
   refine hc _ _ _ (P.lt hN _) (P.lt hN _) ?_
   cases e:b (p.getD k 0) (p.getD ((l+r) / 2) 0) with
   |true=>
    simp only[if_true];refine kw P hs f l _ (by omega) (by omega) (by omega) a (λi z1 z2=>?_) q
    cases e2:b (p.getD k 0) (p.getD i 0) with
    |true=>rfl
    |false=>
     have:=O.tr (hs ((l+r) / 2) i z1 z2) e2
     rw[e] at this;exact this.symm
   |false=>
    simp only[Bool.false_eq_true,if_false];exact kw P hs f _ r (by omega) (by omega) (by omega) (λi z=>O.tr (hs i ((l+r) / 2) (by omega) (by omega)) e) c q
omit hN hc in
theorem qP {p:Array Nat}{k m:Nat}(hk:k<p.size)(hs:Srt b p k)(hm:m<=k)(a: ∀i,i<m->b (p.getD k 0) (p.getD i 0)=false)(c: ∀i,m<=i->i<k->b (p.getD k 0) (p.getD i 0)=true):Srt b (bubble p k (k-m)) (k+1):=by
 have g: ∀j,(bubble p k (k-m)).getD j 0=if j=m then p.getD k 0 else if m<j/\j<=k then p.getD (j-1) 0 else p.getD j 0:=λj=>by
  have:=getElem?_bubble hk (k-m) (by omega) j
  rw[show k- (k-m)=m by omega] at this
  by_cases h:j=m
  ·rw[if_pos h] at this⊢;exact ph this
  ·rw[if_neg h] at this⊢
   by_cases h2:m<j/\j<=k
   ·rw[if_pos h2] at this⊢;exact ph this
   ·rw[if_neg h2] at this⊢;exact ph this
 intro i j hij hj;rw[g,g]
 by_cases ej:j=m
 ·rw[if_pos ej]
  by_cases ei:i=m
  ·rw[if_pos ei];exact O.rf _
  ·rw[if_neg ei,if_neg (by omega)];exact a i (by omega)
 ·rw[if_neg ej]
  by_cases ei:i=m
  ·rw[if_pos ei,if_pos (by omega)];exact O.as (c _ (by omega) (by omega))
  ·rw[if_neg ei]
   by_cases hj2:m<j/\j<=k
   ·rw[if_pos hj2]
    by_cases hi2:m<i/\i<=k
    ·rw[if_pos hi2];exact hs _ _ (by omega) (by omega)
    ·rw[if_neg hi2];exact hs _ _ (by omega) (by omega)
   ·rw[if_neg hj2,if_neg (by omega)];exact hs _ _ hij (by omega)
theorem vH {Q:Array Nat->Shared->Prop}: ∀(f:Nat) (p:Array Nat) (k:Nat),Pm N p->1<=k->k+f=N->Srt b p k->(∀p',Pm N p'->Srt b p' N->Q p' s)->(kas_bin f p k).kasWp cmp Q s
 |0,p,k,P,h1,h2,hs,q=>q p P (by rw[<-h2];exact hs)
 |f+1,p,k,P,h1,h2,hs,q=>by
  unfold kas_bin;rw[KasT.kasWp_bind];have hz:=P.size
  refine kw O hN hc P hs k 0 k (Nat.zero_le _) (Nat.le_refl _) (by omega) (λi z=>absurd z (by omega)) (λi z1 z2=>absurd z2 (by omega)) λm a1 a2 a3=>?_
  exact vH f _ (k+1) ⟨(bubble_perm _ _ _).trans P.perm⟩ (by omega) (by omega) (qP O (by omega) hs a1 a2 a3) q
theorem sh {Q:Array Nat->Shared->Prop}(q: ∀p,Pm N p->Srt b p N->Q p s):(kas_sort N).kasWp cmp Q s:=by
 unfold kas_sort;rw[KasT.kasWp_bind];refine v9 O hN hc ⟨Array.Perm.refl _⟩ λm p' P h1 h2 hs=>?_
 dsimp only;split
 ·exact vH O hN hc _ p' _ P (by omega) (by omega) (by rw[show max m 1=m by omega];exact hs) q
 ·have:m=N:=by omega
  subst this;exact q p' P hs
end
open PySem PySem.W PySem.Calls PyProof.Rows
section
variable {prog:Program}{w:World}{A:Around}{E:Value->Shared->Prop}{s:Shared}
theorem qZ {a:Addr}{us:List Value}{n:Nat}{P:PySem.Fin->Shared->Prop}(ho:s.heap.get? a=some (seqObj "list" us.toArray n))(hz:us.length<64)
 (few:us.length<2->P (.done (.ret .none)) {s with heap:=sortedHeap s.heap a us us.toArray})
 (many:2<=us.length-> ∀g:Heap,(∀c o,c≠a->s.heap.get? c=some o->g.get? c=some o)->wpAny (model prog w) A (keyKind' us.toArray) (λκ t=>t={s with heap:=g}/\
   (kas_sort us.length).kasWp (kas_ask prog w A κ us) (λp t'=>t'=t/\P (.done (.ret .none)) {s with heap:=sortedHeap s.heap a us (List.toArray (p.toList.map λi=>us.getD i Value.none))}) t) (λ_ _=>False) {s with heap:=g}):
 wpAny (model prog w) A (Builtin.«list.sort» ⟨[.ref a],[]⟩) P E s:=by
 have la:a<s.heap.objs.size:=Heap.lt_size ho
 have z1:us.toArray.size<=sizeLine:=by rw[List.size_toArray,sizeLine_eq];omega
 obtain⟨c1,h1⟩: ∃c,(s.heap.update a (Obj.mapSeq λ_=> #[])).get? a=some (seqObj "list" #[] c):=⟨_,get?_update_seq ho (λ_=> #[])⟩
 have h2:(((s.heap.update a (Obj.mapSeq λ_=> #[])).push (seqObj "tuple" us.toArray 0)).push (seqObj "list" #[] 0)).get? a=some (seqObj "list" #[] c1):=Heap.get?_push_of_some _ (Heap.get?_push_of_some _ h1)
 have kp: ∀c o,c≠a->s.heap.get? c=some o->(((s.heap.update a (Obj.mapSeq λ_=> #[])).push (seqObj "tuple" us.toArray 0)).push (seqObj "list" #[] 0)).get? c=some o:=λc o nc e=>
  Heap.get?_push_of_some _ (Heap.get?_push_of_some _ (by rw[Heap.get?_update_ne _ _ _ _ nc];exact e))
 rw[list_sort_plain];refine wpAny_bind (listItems_at ho rfl (wpAny_bind (listUpdate_at ho rfl ?_ z1 (Nat.zero_le _))))
 refine wpAny_bind (seqEpoch_at h1 rfl (wpAny_bind (wpAny_newTuple ?_ (show us.length<=_ by rw[sizeLine_eq];omega))))
 refine wpAny_bind (wpAny_newList (wpAny_holding ?_) (Nat.zero_le _))
 show wpAny (model prog w) A _ P E {s with heap:=((s.heap.update a (Obj.mapSeq λ_=> #[])).push (seqObj "tuple" us.toArray 0)).push (seqObj "list" #[] 0)}
 dsimp only
 by_cases hs:us.toArray.size<2
 ·rw[if_pos hs,if_pos hs]
  refine wpAny_bind (wpAny_pure ?_)
  rw[StateT.run_pure];refine wpAny_bind (wpAny_pure ?_)
  dsimp only;have ea:Array.map (λx=>x.2) (us.toArray.zip us.toArray)=us.toArray:=by
   apply Array.toList_inj.mp
   simp[List.map_snd_zip]
  refine wpAny_bind (seqEpoch_at h2 rfl (wpAny_bind (listUpdate_at h2 rfl ?_ (Nat.zero_le _) ?_)))
  ·simp only[bne_self_eq_false,Bool.false_eq_true,if_false]
   refine wpAny_pure ?_
   have:=few (by simpa using hs)
   show P _ {s with heap:=sortedHeap s.heap a us (Array.map (λx=>x.2) (us.toArray.zip us.toArray))}
   rw[ea];exact this
  ·show(Array.map (λx=>x.2) (us.toArray.zip us.toArray)).size<=_
   rw[ea];exact Nat.le_succ_of_le z1
 ·rw[if_neg hs,if_neg hs]
  have h2':2<=us.length:=by simpa using hs
  refine wpAny_bind (wpAny_mono (many h2' _ kp) (λκ t ⟨et,ht⟩=>?_) λ_ _ x=>x.elim)
  subst et;refine wpAny_bind (wpAny_mono (kat_run (ks:=us) (vs:=us) (G:=λp t'=>t'=_/\P (.done (.ret .none)) {s with heap:=sortedHeap s.heap a us (List.toArray (p.toList.map λi=>us.getD i Value.none))})
   (Q:=λst t'=>t'=_/\failedOf st=none/\ ∃p:Array Nat,p.size=us.length/\(arrOf st).map (·.2)=List.toArray (p.toList.map λi=>us.getD i Value.none)/\P (.done (.ret .none)) {s with heap:=sortedHeap s.heap a us (List.toArray (p.toList.map λi=>us.getD i Value.none))})
   rfl h2' hz (λp st t' a1 a2 a3 a4=>⟨a4.1,a3,p,a1,kat_snds rfl a2,a4.2⟩) ht) (λr t' hr=>?_) λ_ _ x=>x)
  obtain⟨u,st⟩:=r
  obtain⟨e1,hf,p,hp,ho',hP⟩:=hr
  subst e1;dsimp only at hf ho'⊢;rw[ho',hf];have zz:(List.toArray (p.toList.map λi=>us.getD i Value.none)).size<=sizeLine:=by rw[List.size_toArray,List.length_map,Array.length_toList,hp,sizeLine_eq];omega
  refine wpAny_bind (seqEpoch_at h2 rfl (wpAny_bind (listUpdate_at h2 rfl ?_ (Nat.zero_le _) (Nat.le_succ_of_le zz))))
  simp only[bne_self_eq_false,Bool.false_eq_true,if_false];exact wpAny_pure hP
theorem ql {l:Addr}{T:String}{o:Obj}{us:List Value}{n:Nat}{Q:List Value->Shared->Prop}(hT:T="list"\/T="tuple")(ho:s.heap.get? l=some o)(hc:o.cls=.type T)(hd:o.data=.seq us.toArray n)(hz:us.length<64)
 (q: ∀g:Heap,(∀b u,s.heap.get? b=some u->g.get? b=some u)->s.heap.objs.size<=g.objs.size->Q us {s with heap:=g}):wpAny (model prog w) A (collect (.ref l)) Q E s:=by
 have z:us.toArray.size<=sizeLine:=by rw[List.size_toArray,sizeLine_eq];omega
 have hN:(s.heap.push {cls:=.type "list",data:=.seq ([]:List Value).toArray}).get? s.heap.objs.size=some {cls:=.type "list",data:=.seq #[] 0}:=Heap.get?_push_size _ rfl
 have hU:=Heap.get?_update_self (Obj.mapSeq (·++us.toArray)) hN rfl
 have last:wpAny (model prog w) A (do
  match (<-load s.heap.objs.size).data with
   |Data.seq xs _=>pure xs.toList
   |_=>unsupported "internal:collect") Q E {s with heap:=(s.heap.push {cls:=.type "list",data:=.seq ([]:List Value).toArray}).update s.heap.objs.size (Obj.mapSeq (·++us.toArray))}:=by
  refine wpAny_bind (wpAny_load hU (wpAny_pure ?_))
  show Q ((#[]:Array Value)++us.toArray).toList _;rw[show((#[]:Array Value)++us.toArray).toList=us by simp]
  refine q _ (λb u e=>(Heap.get?_update_other _ _ (Nat.ne_of_gt (Heap.lt_size e))).trans (Heap.get?_push_of_some _ e)) ?_
  rw[Heap.size_update,Heap.size_push];exact Nat.le_succ _
 unfold collect;refine wpAny_bind (wpAny_runValue (codeAny_builtin F.entry_proto_collect ?_))
 rw[Around.under_plainId F.plain_proto_collect _];show wpAny _ A.in1 (newList []>>=λr=>again (.builtin "list.__iadd__" ⟨[r,.ref l],[]⟩)) _ _ s
 refine wpAny_bind (wpAny_newObj_type (wpAny_pure ⟨plainId_quiet F.plain_list_iadd _,codeAny_builtin F.entry_list_iadd ?_⟩))
 rw[Around.under_plainId F.plain_list_iadd _];show wpAny _ A.in1 (Builtin.List.listExtendWith (.ref s.heap.objs.size) (.ref l) (.ref s.heap.objs.size)) _ _ _;have ext:=wpAny_extend_seq (prog:=prog) (w:=w) (A:=A) (hsz:=z) (R:=λr t=>r=.ok (.ret (.ref s.heap.objs.size))/\t={s with heap:=(s.heap.push {cls:=.type "list",data:=.seq ([]:List Value).toArray}).update s.heap.objs.size (Obj.mapSeq (·++us.toArray))})
  (s:={s with heap:=s.heap.push {cls:=.type "list",data:=.seq ([]:List Value).toArray}}) _ l (.ref s.heap.objs.size) 0 hT hN (Heap.get?_push_of_some _ ho) hc hd ⟨rfl,rfl⟩
 refine wpAny_mono ext (λfin t h=>?_) (λe t h=>absurd h.1 (by simp))
 cases fin with
 |done f=>obtain⟨e,rfl⟩:=h;cases e;exact last
 |again c=>exact⟨h.1,codeAny_mono h.2 λr t' hr=>by obtain⟨rfl,rfl⟩:=hr;exact last⟩
theorem mL {l:Addr}{T:String}{o:Obj}{us:List Value}{n:Nat}{Q:Value->Shared->Prop}{G:List Nat->Prop}(hT:T="list"\/T="tuple")(ho:s.heap.get? l=some o)(hc:o.cls=.type T)(hd:o.data=.seq us.toArray n)(hz:us.length<64)
 (few:us.length<2->G (List.range us.length))
 (many:2<=us.length-> ∀g:Heap,(∀c o,s.heap.get? c=some o->g.get? c=some o)->wpAny (model prog w) A.in1.in1 (keyKind' us.toArray) (λκ t=>t={s with heap:=g}/\
   (kas_sort us.length).kasWp (kas_ask prog w A.in1.in1 κ us) (λp t'=>t'=t/\G p.toList) t) (λ_ _=>False) {s with heap:=g})
 (fin: ∀(g:Heap) (a e:Nat) (ix:List Nat),(∀c o,s.heap.get? c=some o->g.get? c=some o)->s.heap.objs.size<=a->G ix->g.get? a=some (seqObj "list" (List.toArray (ix.map λi=>us.getD i Value.none)) e)->Q (.ref a) {s with heap:=g}):
 wpAny (model prog w) A (call (.builtin "sorted") [.ref l]) Q E s:=by
 refine Calls.call_function_entry kind_sorted plain_sorted entry_sorted (args_sorted1 _) ?_
 unfold Builtin.«sorted»;refine wpAny_bind (m:=checkCount "sorted" 1 1 _) (wpAny_pure (wpAny_bind (ql hT ho hc hd hz λg kg sg=>?_)))
 refine wpAny_bind (wpAny_newList ?_ (by rw[sizeLine_eq];omega))
 have hL:(g.push (seqObj "list" us.toArray 0)).get? g.objs.size=some (seqObj "list" us.toArray 0):=Heap.get?_push_size _ rfl
 show wpAny _ _ _ _ _ {s with heap:=g.push (seqObj "list" us.toArray 0)}
 have end_: ∀ix:List Nat,G ix->Q (.ref g.objs.size) {s with heap:=sortedHeap (g.push (seqObj "list" us.toArray 0)) g.objs.size us (List.toArray (ix.map λi=>us.getD i Value.none))}:=λix hG=>by
  obtain⟨e,he⟩:=sortedHeap_at (out:=List.toArray (ix.map λi=>us.getD i Value.none)) hL
  refine fin _ g.objs.size e ix (λc u hu=>?_) sg hG he
  have lt:=Heap.lt_size (kg c u hu)
  rw[sortedHeap_old (Nat.ne_of_lt lt) (by rw[size_push'];exact Nat.lt_succ_of_lt lt)]
  exact Heap.get?_push_of_some _ (kg c u hu)
 refine wpAny_bind (wpAny_holding (wpAny_call_entry slot_list_sort ⟨_,hL,rfl⟩ entry_list_sort (qZ (P:=λf t=> ∃v,f=.done (.ret v)/\wpAny (model prog w) A.in1 (pure (PySem.Fin.done (.ret (Value.ref g.objs.size)))) (λf t=> ∃v,f=.done (.ret v)/\Q v t) E t) hL hz (λh=>?_) (λh g' kg'=>?_)) (args_list_sort _)))
 ·have e:=end_ (List.range us.length) (few h)
  rw[show(List.range us.length).map (λi=>us.getD i Value.none)=us from List.ext_getElem? λi=>by
   by_cases hi:i<us.length
   ·simp[hi]
   ·simp[hi]] at e
  exact⟨_,rfl,wpAny_pure ⟨_,rfl,e⟩⟩
 ·refine wpAny_mono (many h g' λc u hu=>kg' c u (Nat.ne_of_lt (Heap.lt_size (kg c u hu))) (Heap.get?_push_of_some _ (kg c u hu))) (λκ t ⟨et,ht⟩=>⟨et,?_⟩) λ_ _ x=>x
  rw[kat_ask_eq rfl] at ht⊢;exact kas_wp_mono ht λp t' ⟨e1,hG⟩=>⟨e1,_,rfl,wpAny_pure ⟨_,rfl,end_ _ hG⟩⟩
end
open PySem PySem.W PySem.Spec PyProof.Rows
def eC:List Int->List Int->Bool
 |_,[]=>false
 | [],_::_=>true
 |x::xs,y::ys=>if x=y then eC xs ys else decide (x<y)
def qG(x y:Int):Bool:=decide (x<y)
structure Lt {α:Type}(lt:α->α->Bool):Prop where
 tr: ∀ {a b c:α},lt b a=false->lt c b=false->lt c a=false
 as: ∀ {a b:α},lt a b=true->lt b a=false
 eq: ∀ {a b:α},lt a b=false->lt b a=false->a=b
theorem xS:Lt qG:=⟨λh1 h2=>by simp only[qG,decide_eq_false_iff_not] at*;omega,λh=>by simp only[qG,decide_eq_false_iff_not,decide_eq_true_eq] at*;omega,λh1 h2=>by simp only[qG,decide_eq_false_iff_not] at*;omega⟩
theorem rF: ∀ {a b:List Int},eC a b=true->eC b a=false
 | [],[],h=>by simp[eC] at h
 |x::xs,[],h=>by simp[eC] at h
 | [],y::ys,h=>by simp[eC]
 |x::xs,y::ys,h=>by
  unfold eC at h⊢
  by_cases e:x=y
  ·subst e;simp only[if_true] at h⊢;exact rF h
  ·rw[if_neg e] at h;rw[if_neg (Ne.symm e)];simp only[decide_eq_true_eq,decide_eq_false_iff_not] at*;omega
theorem tm: ∀ {a b:List Int},eC a b=false->eC b a=false->a=b
 | [],[],_,_=>rfl
 |x::xs,[],_,h=>by simp[eC] at h
 | [],y::ys,h,_=>by simp[eC] at h
 |x::xs,y::ys,h,h'=>by
  unfold eC at h h'
  by_cases e:x=y
  ·subst e;simp only[if_true] at h h';rw[tm h h']
  ·rw[if_neg e] at h;rw[if_neg (Ne.symm e)] at h';simp only[decide_eq_false_iff_not] at*;omega
theorem sj: ∀ {a b c:List Int},eC b a=false->eC c b=false->eC c a=false
 | [],_,_,_,_=>by unfold eC;rfl
 |x::xs,[],_,h,_=>by simp[eC] at h
 |x::xs,y::ys,[],_,h=>by simp[eC] at h
 |x::xs,y::ys,z::zs,h1,h2=>by
  unfold eC at h1 h2⊢
  by_cases e1:y=x
  ·subst e1
   simp only[if_true] at h1
   by_cases e2:z=y
   ·subst e2;simp only[if_true] at h2⊢;exact sj h1 h2
   ·rw[if_neg e2] at h2⊢;exact h2
  ·rw[if_neg e1] at h1
   by_cases e2:z=y
   ·subst e2;rw[if_neg e1];exact h1
   ·rw[if_neg e2] at h2
    simp only[decide_eq_false_iff_not] at h1 h2;rw[if_neg (by omega)]
    simp only[decide_eq_false_iff_not];omega
theorem Be:Lt eC:=⟨sj,rF,tm⟩
def qQ {α:Type}(lt:α->α->Bool)(x:α):List α->List α
 | []=>[x]
 |y::r=>if lt x y=true then x::y::r else y::qQ lt x r
def em {α:Type}(lt:α->α->Bool):List α->List α
 | []=>[]
 |x::r=>qQ lt x (em lt r)
section
variable {α:Type}{lt:α->α->Bool}
theorem jw(x:α): ∀l:List α,(qQ lt x l).Perm (x::l)
 | []=>.refl _
 |y::r=>by
  unfold qQ;split
  ·exact .refl _
  ·exact((jw x r).cons y).trans (.swap _ _ _)
theorem fN: ∀l:List α,(em lt l).Perm l
 | []=>.refl _
 |x::r=>(jw x _).trans ((fN r).cons x)
theorem sT(O:Lt lt)(x:α): ∀ {l:List α},l.Pairwise (λa b=>lt b a=false)->(qQ lt x l).Pairwise (λa b=>lt b a=false)
 | [],_=>by simp[qQ]
 |y::r,h=>by
  obtain⟨h1,h2⟩:=List.pairwise_cons.mp h
  unfold qQ;split
  ·rename_i e
   refine List.pairwise_cons.mpr ⟨λz hz=>?_,h⟩
   rcases List.mem_cons.mp hz with rfl|hz
   ·exact O.as e
   ·exact O.tr (O.as e) (h1 z hz)
  ·rename_i e
   refine List.pairwise_cons.mpr ⟨λz hz=>?_,sT O x h2⟩
   rcases List.mem_cons.mp ((jw x r).mem_iff.mp hz) with rfl|hz
   ·simpa using e
   ·exact h1 z hz
theorem mq(O:Lt lt): ∀l:List α,(em lt l).Pairwise (λa b=>lt b a=false)
 | []=>.nil
 |x::r=>sT O x (mq O r)
theorem jK(O:Lt lt){l l':List α}(p:l'.Perm l)(s:l'.Pairwise (λa b=>lt b a=false)):l'=em lt l:=
 List.Perm.eq_of_pairwise (λa b _ _ h1 h2=>O.eq h2 h1) s (mq O l) (p.trans (fN l).symm)
theorem li(ts:List α)(d:α):(List.range ts.length).map (λi=>ts.getD i d)=ts:=List.ext_getElem? λi=>by
 by_cases hi:i<ts.length
 ·simp[hi]
 ·simp[hi]
theorem jO(O:Lt lt){ts:List α}{d:α}{p:Array Nat}(P:Pm ts.length p)(S:Srt (λi j=>lt (ts.getD i d) (ts.getD j d)) p ts.length):p.toList.map (λi=>ts.getD i d)=em lt ts:=by
 refine jK O ?_ ?_
 ·have h1:p.toList.Perm (List.range ts.length):=by simpa using (Array.perm_iff_toList_perm.mp P.perm)
  have h2:=h1.map (λi=>ts.getD i d)
  rw[li] at h2;exact h2
 ·rw[List.pairwise_map,List.pairwise_iff_getElem]
  intro i j hi hj hij;have hz:=P.size
  have e:=S i j (by omega) (by simpa [hz] using hj)
  have g: ∀k (hk:k<p.toList.length),p.getD k 0=p.toList[k]:=λk hk=>by
   have:k<p.size:=by simpa using hk
   simp[Array.getD,this]
  rw[g i hi,g j hj] at e;exact e
theorem yF(O:Lt lt)(f:Nat->α):Od (λi j=>lt (f i) (f j)):=⟨λh1 h2=>O.tr h1 h2,λh=>O.as h⟩
end
def xE:D->Option (List Int)
 | .tup ds=>match iB ds with
   |some (x::r)=>some (x::r)
   |_=>none
 |_=>none
def kC:List D->Option (List (List Int))
 | []=>some []
 |d::r=>(xE d).bind λk=>(kC r).map (k:: ·)
def xy(k:List Int):D:=.tup (k.map D.int)
def fR(ds:List D):Option (List D):=if ds.length<64 then match iB ds with
 |some ns=>some ((em qG ns).map D.int)
 |none=>(kC ds).map λks=>(em eC ks).map xy else none
theorem ln(ns:List Int):iB (ns.map D.int)=some ns:=by
 induction ns with
 |nil=>rfl
 |cons n ns ih=>show(iB (ns.map D.int)).map (n:: ·)=_;rw[ih];rfl
theorem xF {d:D}{k:List Int}(h:xE d=some k):d=xy k/\k≠[]:=by
 unfold xE at h;split at h
 ·split at h
  ·rename_i e;cases h;rw[jd e];exact⟨rfl,by simp⟩
  ·cases h
 ·cases h
theorem ly: ∀ {ds:List D} {ks:List (List Int)},kC ds=some ks->ds=ks.map xy/\ ∀k∈ks,k≠[]
 | [],_,h=>by cases h;exact⟨rfl,λ_ h=>nomatch h⟩
 |d::r,ks,h=>by
  unfold kC at h;cases e1:xE d with
  |none=>rw[e1] at h;cases h
  |some k=>
   rw[e1] at h;cases e2:kC r with
   |none=>rw[e2] at h;cases h
   |some l=>
    rw[e2] at h;cases h;obtain⟨h1,h2⟩:=xF e1
    obtain⟨h3,h4⟩:=ly e2
    refine⟨by rw[h1,h3];rfl,λz hz=>?_⟩
    rcases List.mem_cons.mp hz with rfl|hz
    ·exact h2
    ·exact h4 z hz
theorem jf {α:Type}{lt:α->α->Bool}{l:List α}(h:l.length<2):em lt l=l:=by
 match l,h with
 | [],_=>rfl
 | [_],_=>rfl
theorem mG {xs:List V}{us:List Value}(r:Vals xs us)(i:Nat):RelV (xs.getD i .non) (us.getD i Value.none):=by
 cases e:xs[i]? with
 |none=>
  have hl:=r.length
  have:us[i]? =none:=by simp at e⊢;omega
  simp[List.getD,e,this];rfl
 |some x=>
  obtain⟨u,h1,h2⟩:=r.get e
  simp[List.getD,e,h1];exact h2
theorem mx {xs:List V}{us:List Value}(r:Vals xs us): ∀ix:List Nat,Vals (ix.map λi=>xs.getD i .non) (ix.map λi=>us.getD i Value.none)
 | []=>.nil
 |i::l=>.cons (mG r i) (mx r l)
theorem mC {K:W.Frag}{F:Hp}{xs:List V}{ds:List D}(r:Reps K F xs ds)(i:Nat):Rep K F (xs.getD i .non) (ds.getD i .non):=by
 cases e:ds[i]? with
 |none=>
  have hl:=r.length
  have:xs[i]? =none:=by simp at e⊢;omega
  simp[List.getD,e,this];exact .non
 |some x=>
  obtain⟨u,h1,h2⟩:=r.get e
  simp[List.getD,e,h1];exact h2
theorem jB {K:W.Frag}{F:Hp}{xs:List V}{ds:List D}(r:Reps K F xs ds): ∀ix:List Nat,Reps K F (ix.map λi=>xs.getD i .non) (ix.map λi=>ds.getD i .non)
 | []=>.nil
 |i::l=>.cons (mC r i) (jB r l)
def tQ:List Value->List Int->Prop:=Paired λu i=> ∃t,u=Value.int i t
theorem mY {K:W.Frag}{F:Hp}: ∀ {xs:List V} {us:List Value} {ns:List Int},Vals xs us->Reps K F xs (ns.map D.int)->tQ us ns
 |_,_,[],r,p=>by cases p;cases r;exact .nil
 |_,_,n::ns,r,p=>by
  cases p with
  |cons p1 p2=>cases r with
   |cons r1 r2=>cases p1;exact .cons r1 (mY r2 p2)
theorem pN: ∀ {us:List Value} {ns:List Int} {i:Nat} {u:Value},tQ us ns->us[i]? =some u-> ∃n,ns[i]? =some n/\ ∃t,u=Value.int n t
 |_,_,_,_,.nil,e=>by simp at e
 |_,_,0,_,.cons h _,e=>by simp at e;subst e;exact⟨_,rfl,h⟩
 |_,_,i+1,u,.cons _ r,e=>by
  obtain⟨n,h1,h2⟩:=pN (i:=i) (u:=u) r (by simpa using e)
  exact⟨n,by simpa using h1,h2⟩
section
variable {prog:Program}{w:World}{A:Around}{s:Shared}{b fin:Bool}{Q:Bool->Shared->Prop}
theorem tf: ∀ {us ws:List Value} {ns ms:List Int} (i:Nat),tQ us ns->tQ ws ms->fin=decide (ns.length<ms.length)->Q (eC ns ms) s->KatLex prog w A b fin Q (us.zip ws) i s
 |_,_,[],[],i,.nil,.nil,e,q=>by subst e;exact kat_nil q
 |_,_,[],m::ms,i,.nil,.cons _ _,e,q=>by subst e;simp only[List.zip_nil_left];refine kat_nil ?_;simpa [eC] using q
 |_,_,n::ns,[],i,.cons _ _,.nil,e,q=>by subst e;simp only[List.zip_nil_right];refine kat_nil ?_;simpa [eC] using q
 |_,_,n::ns,m::ms,i,.cons h1 r1,.cons h2 r2,e,q=>by
  obtain⟨t,rfl⟩:=h1
  obtain⟨t',rfl⟩:=h2
  rw[List.zip_cons_cons];refine kat_cons (wpAny_eqBool_int (kat_go (λhe=>?_) λhe=>?_))
  ·have:n=m:=by simpa using he
   subst this;refine kat_yes (tf (i+1) r1 r2 (by rw[e];simp) ?_)
   simpa [eC] using q
  ·have:n≠m:=by simpa using he
   have q':Q (decide (n<m)) s:=by simpa [eC,this] using q
   refine kat_no ?_
   cases (b&&i==0) with
   |true=>exact oneLt_int q'
   |false=>exact kat_one _ _ (lt_int q')
end
theorem jS {X:Cx}:ee X (.builtin "sorted") (λxs H Q=> ∃a ys ds es,xs=[.ref a]/\(SqL X.K H a ys\/SqT X.K H a ys)/\Reps X.K H ys ds/\fR ds=some es/\
 ∀(l:Addr) (ix:List Nat),H l=none->ix.length=ds.length->ix.map (λi=>ds.getD i .non)=es->Q (.ref l) (cF H l (.lst (ix.map λi=>ys.getD i .non)))):=by
 intro ae s σ H xs us Q I r h;obtain⟨a,ys,ds,es,rfl,hsq,rp,hs,q⟩:=h
 obtain⟨u,rfl,rx⟩:=fC r
 cases rx
 obtain⟨its,T,o,n,rv,hT,ho,hc,hd⟩: ∃(its:List Value) (T:String) (o:Obj) (n:Nat),Vals ys its/\(T="list"\/T="tuple")/\s.heap.get? a=some o/\o.cls=.type T/\o.data=.seq its.toArray n:=by
  rcases hsq with hq|hq
  ·obtain⟨its,r',pl,hz⟩:=I.list hq
   obtain⟨o,ho,hc,n,hd⟩:=pl.isList
   exact⟨its,"list",o,n,r',.inl rfl,ho,hc,hd⟩
  ·obtain⟨its,r',pl,hz⟩:=I.tuple hq
   obtain⟨o,ho,hc,n,hd⟩:=pl
   exact⟨its,"tuple",o,n,r',.inr rfl,ho,hc,hd⟩
 have l1:=rv.length
 have l2:=rp.length
 have h64:ds.length<64:=by
  unfold fR at hs;split at hs
  ·assumption
  ·cases hs
 unfold fR at hs;rw[if_pos h64] at hs;refine mL (G:=λix=>ix.length=ds.length/\ix.map (λi=>ds.getD i .non)=es) hT ho hc hd (by omega) (λfew=>⟨by simp;omega,?_⟩) (λh2 g kg=>?_) (λg p e ix kg hp hG hg=>?_)
 ·rw[show its.length=ds.length by omega,li]
  cases e1:iB ds with
  |some ns=>
   rw[e1] at hs;cases hs;have:=jd e1
   subst this;rw[jf (by simp at l2;omega)]
  |none=>
   rw[e1] at hs;cases e2:kC ds with
   |none=>rw[e2] at hs;cases hs
   |some ks=>
    rw[e2] at hs;cases hs;obtain⟨h3,_⟩:=ly e2
    subst h3;dsimp only;rw[jf (by simp at l2;omega)]
 ·cases e1:iB ds with
  |some ns=>
   rw[e1] at hs;cases hs;have e0:=jd e1
   subst e0;have hv:=mY rv rp
   have hl:its.length=ns.length:=by simp at l2;omega
   have gi: ∀i,i<ns.length-> ∃t,its.getD i Value.none=Value.int (ns.getD i 0) t:=λi hi=>by
    have e2:its[i]? =some its[i]:=List.getElem?_eq_getElem (by omega)
    obtain⟨m,e3,t,e4⟩:=pN hv e2
    refine⟨t,?_⟩
    simp[List.getD,e2,e3,e4]
   refine kas_kind (T:=.type "int") h2 (λv hv'=>?_) (by rfl) (by rfl) ⟨rfl,?_⟩
   ·obtain⟨i,hi,rfl⟩:=List.getElem_of_mem hv'
    obtain⟨t,e⟩:=gi i (by omega)
    have:its[i]=its.getD i Value.none:=by simp[List.getD,List.getElem?_eq_getElem hi]
    rw[this,e];exact Looks.now
   ·rw[hl]
    refine sh (b:=λi j=>qG (ns.getD i 0) (ns.getD j 0)) (yF xS _) (by omega) (λi j C hi hj hC=>?_) λp P S=>⟨rfl,?_,?_⟩
    ·obtain⟨t,e⟩:=gi i hi
     obtain⟨t',e'⟩:=gi j hj
     unfold kas_ask;rw[e,e'];exact kat_lt_int hC
    ·rw[Array.length_toList,P.size];simp
    ·have:=congrArg (List.map D.int) (jO xS P S)
     rw[<-this,List.map_map];refine List.map_congr_left λi hi=>?_
     have:i<ns.length:=by
      have:=P.perm.mem_iff.mp (Array.mem_toList_iff.mp hi)
      simpa using this
     simp[List.getD,List.getElem?_eq_getElem this]
  |none=>
   rw[e1] at hs;cases e2:kC ds with
   |none=>rw[e2] at hs;cases hs
   |some ks=>
    rw[e2] at hs;cases hs;obtain⟨h3,h4⟩:=ly e2
    subst h3;have hl:its.length=ks.length:=by simp at l2;omega
    have gi: ∀i,i<ks.length-> ∃(b:Addr) (o:Obj) (ts:List Value) (n:Nat),its.getD i Value.none=.ref b/\s.heap.get? b=some o/\o.cls=.type "tuple"/\o.data=.seq ts.toArray n/\tQ ts (ks.getD i []):=λi hi=>by
     have r1:=mG rv i
     have r2:=mC rp i
     have e3:(ks.map xy).getD i .non=.tup ((ks.getD i []).map D.int):=by simp[List.getD,List.getElem?_eq_getElem hi,xy]
     rw[e3] at r2
     generalize hx:ys.getD i .non=x at r1 r2
     cases r2 with
     |tup q1 q2=>
      obtain⟨ts,r',⟨o,ho,hc,n,hd⟩,_⟩:=I.tuple q1
      exact⟨_,o,ts,n,r1,ho,hc,hd,mY r' q2⟩
    have kt: ∀(l:List Value) (ms:List (List Int)),l.length=ms.length->(∀i,i<ms.length-> ∃(b:Addr) (o:Obj) (ts:List Value) (n:Nat),l.getD i Value.none=.ref b/\s.heap.get? b=some o/\o.cls=.type "tuple"/\o.data=.seq ts.toArray n/\tQ ts (ms.getD i []))->(∀k∈ms,k≠[])->
     ∃fs,KatTups g l fs/\fs.length=l.length/\ ∀v∈fs,∃i t,v=Value.int i t:=by
     intro l
     induction l with
     |nil=>intro ms _ _ _;exact⟨[],.nil,rfl,λ_ h=>nomatch h⟩
     |cons v l ih=>
      intro ms hl hg hk;cases ms with
      |nil=>cases hl
      |cons m ms=>
       obtain⟨fs,f1,f2,f3⟩:=ih ms (by simpa using hl) (λi hi=>by simpa using hg (i+1) (by simpa using hi)) λk hk'=>hk k (by simp[hk'])
       obtain⟨b,o,ts,n,g1,g2,g3,g4,g5⟩:=hg 0 (by simp)
       simp[List.getD] at g1 g5;subst g1;cases m with
       |nil=>exact absurd rfl (hk [] (by simp))
       |cons x xs=>
        cases g5 with
        |cons y1 y2=>
         obtain⟨t,rfl⟩:=y1
         refine⟨_,KatTups.cons (kg _ _ g2) g3 g4 (by simp;rfl) f1,by simp[f2],λv hv=>?_⟩
         rcases List.mem_cons.mp hv with rfl|hv
         ·exact⟨_,_,rfl⟩
         ·exact f3 v hv
    obtain⟨fs,f1,f2,f3⟩:=kt its ks hl gi h4
    refine kat_kind (T:=.type "int") f1 (by omega) (λv hv=>?_) (by rfl) ⟨rfl,?_⟩
    ·obtain⟨i,t,rfl⟩:=f3 v hv;exact Looks.now
    ·rw[hl]
     refine sh (b:=λi j=>eC (ks.getD i []) (ks.getD j [])) (yF Be _) (by omega) (λi j C hi hj hC=>?_) λp P S=>⟨rfl,?_,?_⟩
     ·obtain⟨b1,o1,ts1,n1,x1,x2,x3,x4,x5⟩:=gi i hi
      obtain⟨b2,o2,ts2,n2,y1,y2,y3,y4,y5⟩:=gi j hj
      unfold kas_ask;rw[x1,y1];refine kat_lt (kg _ _ x2) x4 (kg _ _ y2) y4 ?_
      refine tf 0 x5 y5 ?_ hC
      have z1:=Paired.length x5
      have z2:=Paired.length y5
      simp[z1,z2]
     ·rw[Array.length_toList,P.size];simp
     ·have:=congrArg (List.map xy) (jO Be P S)
      dsimp only;rw[<-this,List.map_map];refine List.map_congr_left λi hi=>?_
      have:i<ks.length:=by
       have:=P.perm.mem_iff.mp (Array.mem_toList_iff.mp hi)
       simpa using this
      simp[List.getD,List.getElem?_eq_getElem this]
 ·refine⟨.ref p,_,I.laid (t':=s.toks) kg hp (show ObjOk X.prog X.w _ g _ (.lst (ix.map λi=>ys.getD i .non)) from⟨?_,_,e,mx rv ix,hg⟩),rfl,q _ ix (I.hok.fresh hp) hG.1 hG.2⟩
  rw[List.length_map,hG.1,sizeLine_eq];omega
def eI:List D->Option D
 | [.lst ds]=>(fR ds).map D.lst
 | [.tup ds]=>(fR ds).map D.lst
 |_=>none
theorem ma {K:W.Frag}:gj K .n (λxs H Q=> ∃a ys ds es,xs=[.ref a]/\(SqL K H a ys\/SqT K H a ys)/\Reps K H ys ds/\fR ds=some es/\
 ∀(l:Addr) (ix:List Nat),H l=none->ix.length=ds.length->ix.map (λi=>ds.getD i .non)=es->Q (.ref l) (cF H l (.lst (ix.map λi=>ys.getD i .non)))) eI:=by
 intro H hid vs ds d Q hf h r q;unfold eI at h;split at h
 ·rename_i zs
  cases e:fR zs with
  |none=>rw[e] at h;cases h
  |some es=>
   rw[e] at h;cases h;obtain⟨x,rfl,r1⟩:=Reps1.one r
   obtain⟨a,xs,rfl,h1,h2⟩:=r1.lst
   refine⟨a,xs,zs,es,rfl,.inl h1,h2.mono (cX _ _),e,λl ix hl _ he=>q _ _ (bc hl _) (gA hl (Same.refl _) ?_)⟩
   rw[<-he];exact jB h2 ix
 ·rename_i zs
  cases e:fR zs with
  |none=>rw[e] at h;cases h
  |some es=>
   rw[e] at h;cases h;obtain⟨x,rfl,r1⟩:=Reps1.one r
   obtain⟨a,xs,rfl,_,h1,h2⟩:=r1.tup
   refine⟨a,xs,zs,es,rfl,.inr h1,h2.mono (cX _ _),e,λl ix hl _ he=>q _ _ (bc hl _) (gA hl (Same.refl _) ?_)⟩
   rw[<-he];exact jB h2 ix
 ·cases h
section
variable {X:Cx}{c:Ct}{e a b:Expr}{es rest:List Expr}{f g:GE}{fs:GA}{k:Kd}{pos p:Pos}{x:Str}{id T:String}{r:List V->Hp->VK->Prop}{F:List D->Option D}{ps:List Str}{j n:Nat}
def nZ(fs:GA):GE:=λρ=>(fs ρ).bind λq=>if q.1.length<=sizeLine then some (.lst q.1,q.2) else none
theorem tS {ρ ρ':aB}{d:D}(h:nZ fs ρ=some (d,ρ')): ∃ds,fs ρ=some (ds,ρ')/\ds.length<=sizeLine/\d=.lst ds:=by
 unfold nZ at h;cases e:fs ρ with
 |none=>rw[e] at h;cases h
 |some q=>
  rw[e] at h;dsimp only[Option.bind] at h;split at h
  ·cases h;exact⟨q.1,rfl, ‹_›,rfl⟩
  ·cases h
theorem vg(h:DG X c es fs):DE X c .n (.List es pos) (nZ fs):=λhid ρ=>PE.imp (vX (h hid ρ)) λσ H Q hq_=>by
 obtain⟨sr,d,ρ',hd,q⟩:=hq_
 obtain⟨ds,e1,hz,rfl⟩:=tS hd
 exact⟨sr,ds,ρ',e1,λvs H1 k1 s1 r1=>⟨by rw[r1.length];exact hz,λp hp=>q _ _ (PostE.left k1 (s1.post (k:=.n) (bc hp _) (gA hp (Same.refl _) r1) (by decide)))⟩⟩
def kB(F:List D->Option D)(fs:GA):GE:=λρ=>(fs ρ).bind λq=>(F q.1).map λd=>(d,q.2)
theorem qv {F:List D->Option D}{ρ ρ':aB}{d:D}(h:kB F fs ρ=some (d,ρ')): ∃ds,fs ρ=some (ds,ρ')/\F ds=some d:=by
 unfold kB at h;cases e:fs ρ with
 |none=>rw[e] at h;cases h
 |some q=>
  rw[e] at h;dsimp only[Option.bind] at h;cases e2:F q.1 with
  |none=>rw[e2] at h;cases h
  |some z=>rw[e2] at h;cases h;exact⟨q.1,rfl,e2⟩
theorem Af {P:List D->Option D}(C:Cl X.prog X.w X.K X.mg X.base j x ps (ir X.K k n P))(hr:Room j X.A)
 (ha:DG X c (e::es) fs) (hkb:k≠ .b:=by decide) (hg:Gl X x:=by rfl) (hdb:(x==("__debug__":Str))=false:=by decide) (he:starEach (e::es) X.env=(false,eval e X.env)::starEach es X.env:=by rfl) (hpl:(backTo pos (starEach es X.env)).any (·.1)=false:=by rfl):
 DE X c k (.Call (.Name x p) (e::es) [] pos) (kB (nF n P) fs):=by
 obtain⟨f,fd,F,hm,hk,hb⟩:=C.ex
 exact λhid ρ=>PE.imp (kh F hr hg hm hk hb .nil (rR (X:=X)) (ha hid ρ) hdb he hpl) λσ H Q hq_=>by
  obtain⟨sr,d,ρ',hd,q⟩:=hq_
  obtain⟨ds,e1,e2⟩:=qv hd
  unfold nF at e2;split at e2
  ·refine⟨sr,ds,ρ',e1,λvs H1 k1 s1 r1=>?_⟩
   show ir X.K k n P (vs++[]) H1 Q E0;rw[List.append_nil];exact⟨hid,ds,s1.trk,r1, ‹_›,d,e2,λv H' s2 r2=>q v H' (PostE.left k1 (s1.post s2 r2 hkb))⟩
  ·cases e2
end
section
variable {K:W.Frag}
def kX:List D->List D->Option (D×List D):=λbs ds=>match ds with
 | []=>some (.non,bs.reverse)
 |_=>none
theorem iF:Av K pW 0 kX:=by
 intro H hid a xs us bs ds bs' d Q h1 h2 h3 h4 h5 h6 q;cases ds with
 |nil=>
  cases h6;cases h4
  exact⟨a,xs,rfl,rfl,h1,q _ _ h3.reverse .non⟩
 |cons _ _=>cases h5
end
def ue(ds:List D)(lo hi:Option Int):List D:=(ds.drop (HT.sIx ds.length 0 lo)).take (HT.sIx ds.length ds.length hi-HT.sIx ds.length 0 lo)
theorem vN {K:W.Frag}{F:Hp}{xs:List V}{ds:List D}(r:Reps K F xs ds)(lo hi:Option Int):Reps K F (tV xs lo hi) (ue ds lo hi):=by
 unfold tV ue;rw[r.length];exact(r.drop _).take _
abbrev FO:=aB->Option (Option Int)
def Dj(K:W.Frag)(c:Ct)(hid:bF)(f:FO)(ρ:aB):TO:=λσ H Q=>SR K c hid ρ σ H/\ ∃o,f ρ=some o/\ ∀H',Same H H'->Q o H'
def DO(X:Cx)(c:Ct)(e:Option Expr)(f:FO):Prop:= ∀hid ρ,PO X e (Dj X.K c hid f ρ)
theorem PO.imp {X:Cx}{e:Option Expr}{t t':TO}(h:PO X e t)(i: ∀σ H Q,t' σ H Q->t σ H Q):PO X e t':=λae s σ H Q I q=>h ae s σ H Q I (i σ H Q q)
section
variable {X:Cx}{c:Ct}{e a b:Expr}{f g:FE}{k:Kd}{pos p2:Pos}{lo hi:Option Expr}{l u:FO}
def nQ:FO:=λ_=>some none
def kl(f:FE):FO:=λρ=>(f ρ).bind λd=>match d with
 | .int i=>some (some i)
 |_=>none
theorem di:DO X c none nQ:=λhid ρ=>PO.imp xW λσ H Q ⟨sr,o,e,q⟩=>by cases e;exact q H (Same.refl _)
theorem dk(h:DP X c k e f):DO X c (some e) (kl f):=λhid ρ=>PO.imp (wR (h hid ρ)) λσ H Q hq_=>by
 obtain⟨sr,o,e,q⟩:=hq_
 unfold kl at e;cases e1:f ρ with
 |none=>rw[e1] at e;cases e
 |some d=>
  rw[e1] at e;cases d with
  |int i=>
   cases e
   refine⟨sr,_,e1,λv H' s r=>⟨i,?_,q H' s⟩⟩
   exact(RK.b k r λa n=>sr.fresh n).int
  |_=>cases e
def lT(f:FE)(l u:FO):FE:=λρ=>(f ρ).bind λd=>match d with
 | .lst ds=>(l ρ).bind λlo=>(u ρ).map λhi=>.lst (ue ds lo hi)
 |_=>none
theorem jk(he:DP X c k e f)(hl:DO X c lo l)(hu:DO X c hi u):DP X c .n (.Subscript e (.Slice lo hi none p2) pos) (lT f l u):=λhid ρ=>
 PE.imp (oo w8 (he hid ρ) (hl hid ρ) (hu hid ρ)) λσ H Q hq_=>by
  obtain⟨sr,d,hd,q⟩:=hq_
  unfold lT at hd;cases e1:f ρ with
  |none=>rw[e1] at hd;cases hd
  |some z=>
   rw[e1] at hd;cases z with
   |lst ds=>
    have hd:((l ρ).bind λlo=>(u ρ).map λhi=>D.lst (ue ds lo hi))=some d:=hd
    cases e2:l ρ with
    |none=>rw[e2] at hd;cases hd
    |some o1=>
     rw[e2] at hd;cases e3:u ρ with
     |none=>rw[e3] at hd;cases hd
     |some o2=>
      rw[e3] at hd;cases hd;refine⟨sr,_,e1,λv H1 s1 r1=>⟨sr.ext s1,o1,e2,λH2 s2=>⟨(sr.ext s1).ext s2,o2,e3,λH3 s3=>?_⟩⟩⟩
      obtain⟨a,xs,rfl,h1,h2⟩:=((RK.b k r1 λa n=>sr.fresh n).ext (s2.trans s3)).lst
      exact⟨a,xs,rfl,h1,λp hp=>q _ _ ((s1.trans (s2.trans s3)).trans (bc hp _)) (gA hp (s1.trans (s2.trans s3)) (vN h2 o1 o2))⟩
   |_=>cases hd
end
end L2
namespace PySem
open Sem (wp)
open AutoSeq1 (wpAny_loadPart')
section
variable {prog:Program}{w:World}{A:Around}{E:Value->Shared->Prop}{s:Shared}
theorem fq {it t:Addr}{i:Nat}{us}{x:Value}{Q:Value->Shared->Prop}(hit:s.heap.IsTupleIter it t i)(ht:s.heap.IsTuple t us)(hx:us[i]? =some x)
 (hQ: ∀g,g.IsTupleIter it t (i+1)->Heap.SameBut it s.heap g->Q x {s with heap:=g}):wpAny (model prog w) A (Builtin.SmallTypes.nextOf (.ref it)) Q E s:=by
 obtain⟨o,ho,hc,hd⟩:=id hit
 obtain⟨ot,hot,_,nt,hdt⟩:=ht
 unfold Builtin.SmallTypes.nextOf;refine wpAny_bind (wpAny_callSpecial?_slot (name:=Str.ofString "__next__") hit.typeIs F.slot_tuple_iterator_next (wpAny_call_entry F.slot_tuple_iterator_next hit.typeIs F.entry_tuple_iterator_next (show wpAny _ _ (field (.ref it) 0>>=_) _ _ s from wpAny_bind (wpAny_field ho hd (x:=.ref t) rfl ?_)) (F.args_tuple_iterator_next_1 _)))
 show wpAny _ _ (if(Value.ref t==Value.none)=true then _ else _) _ _ s
 rw[if_neg (show¬((Value.ref t==Value.none)=true) from Bool.false_ne_true)];refine(show wpAny _ _ (field (.ref it) 1>>=_) _ _ s from wpAny_bind (wpAny_field ho hd (x:=.int i 0) rfl (show wpAny _ _ (seqItems? (.ref t)>>=_) _ _ s from wpAny_bind (wpAny_seqItems hot hdt ?_))))
 simp only[Int.toNat_natCast,hx];exact wpAny_bind (wpAny_setField ho hd (by simp) (wpAny_pure ⟨x,rfl,wpAny_pure (hQ _ ⟨_,Heap.get?_update_self _ ho (Obj.isFreed_of_fields (Obj.data_mapFields hd _)),(Obj.cls_mapFields ..).trans hc,by rw[Obj.data_mapFields hd];simp[rawInt]⟩ (Heap.SameBut.update ..))⟩))
theorem iA {it t:Addr}{i:Nat}{us}{Q:Value->Shared->Prop}(hh:A.handled=none)(hit:s.heap.IsTupleIter it t i)(ht:s.heap.IsTuple t us)(hx:us[i]? =none)
 (hE: ∀g e,Heap.ExtBut it s.heap g->(∃o,g.get? e=some o/\o.cls=.type "StopIteration")->E (.ref e) {s with heap:=g}):wpAny (model prog w) A (Builtin.SmallTypes.nextOf (.ref it)) Q E s:=by
 obtain⟨o,ho,hc,hd⟩:=id hit
 obtain⟨ot,hot,_,nt,hdt⟩:=ht
 unfold Builtin.SmallTypes.nextOf;refine wpAny_bind (wpAny_callSpecial?_slot (name:=Str.ofString "__next__") hit.typeIs F.slot_tuple_iterator_next (wpAny_call_entry F.slot_tuple_iterator_next hit.typeIs F.entry_tuple_iterator_next (show wpAny _ _ (field (.ref it) 0>>=_) _ _ s from wpAny_bind (wpAny_field ho hd (x:=.ref t) rfl ?_)) (F.args_tuple_iterator_next_1 _)))
 show wpAny _ _ (if(Value.ref t==Value.none)=true then _ else _) _ _ s
 rw[if_neg (show¬((Value.ref t==Value.none)=true) from Bool.false_ne_true)];refine(show wpAny _ _ (field (.ref it) 1>>=_) _ _ s from wpAny_bind (wpAny_field ho hd (x:=.int i 0) rfl (show wpAny _ _ (seqItems? (.ref t)>>=_) _ _ s from wpAny_bind (wpAny_seqItems hot hdt ?_))))
 simp only[Int.toNat_natCast,hx];refine wpAny_bind (wpAny_rule (wpAny_bind (wpAny_setField ho hd (by simp) (show wpAny _ _ (newExc (.type "StopIteration") []>>=_) _ _ _ from wpAny_bind ?_))))
 simp only[newExc,newTuple];refine wpAny_bind (wpAny_newObj_type ?_ (by size_fits))
 refine wpAny_bind (m:=firstArgMember _ _) (wpAny_of_eq (a:=Value.none) (by first|rfl|(simp only[firstArgMember];rfl)) (wpAny_newObj_type ?_ (by size_fits)))
 simp only[raiseNew];refine wpAny_bind (wpAny_handled ?_)
 first|rw[show A.in1.handled=none from hh]|rw[hh]
 exact wpAny_bind (wpAny_pure (wpAny_throw (hE _ _ (((Heap.SameBut.update ..).extBut.push _).push _) ⟨_,Heap.get?_push_size _ rfl,rfl⟩)))
end
end PySem
namespace L2
open PySem PySem.Spec PyProof.Rows
open PySem PySem.W PySem.Calls PyProof.Rows
def yJ {α:Type}(d:α)(n:Nat):Option α:=if n<=sizeLine then some d else none
def C6 {α:Type}(d:α)(n:Nat):Option α:=if n<sizeLine then some d else none
theorem cU {α:Type}{d:α}{n:Nat}(h:n<=1000):yJ d n=some d:=if_pos (Nat.le_of_lt (ig h))
theorem mj {α:Type}{d:α}{n:Nat}(h:n<=1000):C6 d n=some d:=if_pos (ig h)
theorem x0(fs:FA)(ρ:aB):dZ fs ρ=(fs ρ).bind λds=>yJ (.tup ds) ds.length:=rfl
theorem jh(fs:FA)(ρ:aB):bQ fs ρ=(fs ρ).bind λds=>yJ (.lst ds) ds.length:=rfl
theorem xv(fs:GA)(ρ:aB):nZ fs ρ=(fs ρ).bind λq=>yJ (.lst q.1,q.2) q.1.length:=rfl
theorem uU(m:Nat)(gi:FA)(g:FG)(p:FT)(f:FE)(ρ:aB):aX m gi g p f ρ=(gi ρ).bind λds=>(yJ () ds.length).bind λ_=>(cJ g p f (ρ++List.replicate m .no) ds).map D.lst:=by
 unfold aX yJ;congr 1;funext ds
 split<;>rfl
theorem sW(bs:List D)(d:D):iM bs [d]=C6 (.non,bs++[d]) bs.length:=rfl
theorem xp(bs:List D)(i:Int):lU bs [.int i]=(yJ () bs.length).bind λ_=>(oj bs.length i).bind λj=>(bs[j]?).map λd=>(d,bs.eraseIdx j):=by
 unfold lU yJ;dsimp only;split
 ·rename_i j e
  split at e
  ·rw[if_pos ‹_›,e];rfl
  ·cases e
 ·rename_i e
  split at e
  ·rw[if_pos ‹_›,e];rfl
  ·rw[if_neg ‹_›];rfl
def Bj(ds:List D):Option (List D):=match ds with
 | [.int j]=>if j.natAbs<4000000000 then some (sP 0 j.toNat) else none
 |_=>none
theorem oH(f:FA)(ρ:aB):bS f ρ=(f ρ).bind Bj:=rfl
theorem oN {j:Int}(h:j.natAbs<=1000):Bj [.int j]=some (sP 0 j.toNat):=by
 show(if j.natAbs<4000000000 then some (sP 0 j.toNat) else none)=_
 rw[if_pos (by omega)]
theorem df(i j:Int):bw (.int i) (.int j)=some (.int (i+j)):=rfl
theorem jb(i j:Int):cK (.int i) (.int j)=some (.int (i-j)):=rfl
theorem nH(i j:Int):Aq (.int i) (.int j)=some (.bl (decide (i<j))):=rfl
theorem sv(i j:Int):BK (.int i) (.int j)=some (.bl (decide (j<=i))):=rfl
theorem db {i j:Int}(h:0<j):bn (.int i) (.int j)=some (.int (i % j)):=by
 unfold bn i2;dsimp only;rw[if_pos (by simpa using h)]
theorem qI {n:Nat}(h:n<10^200):n<2^1000:=Nat.lt_of_lt_of_le h (by decide)
theorem dS {i j:Int}(h1:i.natAbs<10^200)(h2:j.natAbs<10^200):bH (.int i) (.int j)=some (.int (i*j)):=by
 unfold bH i2;dsimp only;rw[if_pos (by rw[decide_eq_true (qI h1),decide_eq_true (qI h2)];rfl)]
theorem mH {i j:Int}(h1:0<j)(h2:j.natAbs<10^200):iZ (.int i) (.int j)=some (.int (i / j)):=by
 unfold iZ i2;dsimp only;rw[if_pos (by rw[decide_eq_true h1,decide_eq_true (qI h2)];rfl)]
theorem iX {i j:Int}(h0:0<=j)(h1:j<=1000000)(h2:i.natAbs<2^64):dP (.int i) (.int j)=some (.int (i^j.toNat)):=by
 unfold dP i2;dsimp only;rw[if_pos (by rw[decide_eq_true h0,decide_eq_true h1,decide_eq_true h2];rfl)]
theorem fY {x y:D}(h:dG x<=32):eV x y=some (.bl (cC x y)):=if_pos h
theorem fS {x y:D}(h:dG x<=32):gM x y=some (.bl (!cC x y)):=if_pos h
theorem i0(i j:Int):cC (.int i) (.int j)=decide (i=j):=by
 unfold cC;rw[Bool.eq_iff_iff];simp
theorem cH(i:Int):dG (.int i)=0:=by unfold dG;rfl
structure Bag(N:Nat)(a b:Int):Prop where
 a0:0<=a
 a1:a.natAbs<10^180
 b0:0<=b
 b1:b<=N
 lo:b≠0->a.natAbs<2147483647
abbrev aJ(a b:Int):List D:=[.int a,.int b]
def nU:FS:=
 aA (cW (bq (aj Aq (ah 1) (ai bu (aa (ah 0) (af))))) (aY (aj bp (ah 0) (ah 1))) (skip))
 (aY (am (.int 0)))
def fM:List D->Option D:=j0 .s 2 nU
def vo:FS:=
 aA (aN 2 (aj bn (ai pq (aa (ai (nF 2 fM) (aa (ah 0) (aa (ah 1) (af)))) (af))) (aj bH (aj bH (aj dP (am (.int 10)) (am (.int 60))) (aj dP (am (.int 10)) (am (.int 60)))) (aj dP (am (.int 10)) (am (.int 60))))))
 (aA (cW (bq (aj BK (ah 2) (aj dP (am (.int 10)) (am (.int 18))))) (aY (bQ (aa (ah 2) (aa (am (.int 0)) (af))))) (skip))
 (aA (aN 3 (aj bn (aj bw (aj bw (ah 2) (aj bH (am (.int 7919)) (ah 1))) (am (.int 17))) (am (.int 2147483647))))
 (aA (eO (bI (bS (aa (ai i7 (aa (ai bu (aa (ah 0) (af))) (aa (am (.int 9)) (af)))) (af)))) (gN 4) (aN 3 (aj bn (aj bw (aj bw (aj dP (ah 3) (am (.int 5))) (aj bn (aj bp (ah 0) (ah 4)) (am (.int 2147483629)))) (aj bH (am (.int 31)) (ah 4))) (am (.int 2147483647)))))
 (aY (bQ (aa (ah 3) (aa (am (.int 1)) (af))))))))
def vm:List D->Option D:=j0 .n 5 vo
def mQ:FS:=
 aA (cW (bq (aj eV (aj bp (bJ 0) (am (.int 1))) (am (.int 0)))) (aA (aN 2 (aj bn (aj bp (bJ 0) (am (.int 0))) (ah 1)))
 (aA (fG (ci 0 (am (.int 0))) (pu (aj iZ (aj bp (bJ 0) (am (.int 0))) (ah 1))))
 (aY (ah 2)))) (skip))
 (aA (fG (ci 0 (am (.int 0))) (pu (aj bn (aj bw (aj bw (aj dP (aj bp (bJ 0) (am (.int 0))) (am (.int 5))) (aj bH (am (.int 48271)) (aj bp (bJ 0) (am (.int 1))))) (am (.int 11))) (am (.int 2147483647)))))
 (aA (fG (ci 0 (am (.int 1))) (pu (aj bw (aj bp (bJ 0) (am (.int 1))) (am (.int 1)))))
 (aY (aj bn (aj iZ (aj bn (aj bH (aj bp (bJ 0) (am (.int 0))) (am (.int 69621))) (am (.int 2147483629))) (am (.int 8))) (ah 1)))))
def dl:List D->List D->Option (D×List D):=qb .s 3 mQ
def pf:FS:=
 aA (dg 2 (pQ (ah 1)))
 (aA (dg 3 (bQ (af)))
 (aA (ut (bq (aj gM (bJ 2) (bQ (af)))) (dE (aG 3 1 iM (ce (aG 2 1 lU (ce (aG 0 1 dl (bI (aa (ai bu (aa (bJ 2) (af))) (af)))) (bI (af)))) (bI (af))))) 16)
 (wj 3)))
def gh:List D->List D->Option (D×List D):=qb .n 4 pf
theorem eE {i m:Int}(h:0<m):0<=i % m/\i % m<m:=⟨Int.emod_nonneg _ (by omega),Int.emod_lt_of_pos _ h⟩
theorem ke {N:Nat}{a b m:Int}(B:Bag N a b)(hN:N<=1000000000)(hm:0<m)(hm2:m.natAbs<10^20): ∃d a' b',dl (aJ a b) [.int m]=some (.int d,aJ a' b')/\Bag (N+1) a' b'/\0<=d/\d<m:=by
 have hm3:m.natAbs<10^200:=Nat.lt_of_lt_of_le hm2 (by decide)
 by_cases hb:b=0
 ·subst hb
  refine⟨a % m,a / m,0,?_,⟨Int.ediv_nonneg B.a0 (by omega),?_,by omega,by omega,λz=>absurd rfl z⟩,eE hm⟩
  ·simp[dl,qb,mQ,kS,aJ,aA,cW,bq,aj,bp,bJ,ah,am,fY,i0,cH,pE,ju,oj,aN,db hm,fG,pu,mH hm hm3,ci,gw,fy,Ab,aY,lc]
  ·have h1:=B.a1
   have:a / m<=a:=Int.ediv_le_self _ B.a0
   have:0<=a / m:=Int.ediv_nonneg B.a0 (by omega)
   omega
 ·have lo:=B.lo hb
  have p1:a.natAbs<2^64:=Nat.lt_trans lo (by decide)
  have p2:b.natAbs<10^200:=Nat.lt_of_lt_of_le (show b.natAbs<10^10 by have:=B.b1;have:=B.b0;omega) (by decide)
  generalize hA:(a^5+48271*b+11) % 2147483647=A
  have hA':0<=A/\A<2147483647:=by rw[<-hA];exact eE (by decide)
  have p3:A.natAbs<10^200:=Nat.lt_of_lt_of_le (show A.natAbs<10^10 by omega) (by decide)
  refine⟨A*69621 % 2147483629 / 8 % m,A,b+1,?_,⟨hA'.1,?_,by have:=B.b0;omega,by have:=B.b1;omega,λ_=>by omega⟩,eE hm⟩
  ·have c1:(48271:Int).natAbs<10^200:=Nat.lt_of_lt_of_le (show(48271:Int).natAbs<10^10 by decide) (by decide)
   have c2:(69621:Int).natAbs<10^200:=Nat.lt_of_lt_of_le (show(69621:Int).natAbs<10^10 by decide) (by decide)
   have c3:(8:Int).natAbs<10^200:=Nat.lt_of_lt_of_le (show(8:Int).natAbs<10^10 by decide) (by decide)
   have e1:dP (.int a) (.int 5)=some (.int (a^5)):=iX (by decide) (by decide) p1
   have e2:bH (.int 48271) (.int b)=some (.int (48271*b)):=dS c1 p2
   have e3: ∀i:Int,bn (.int i) (.int 2147483647)=some (.int (i % 2147483647)):=λi=>db (by decide)
   have e4: ∀i:Int,bn (.int i) (.int 2147483629)=some (.int (i % 2147483629)):=λi=>db (by decide)
   have e5:bH (.int A) (.int 69621)=some (.int (A*69621)):=dS p3 c2
   have e6: ∀i:Int,iZ (.int i) (.int 8)=some (.int (i / 8)):=λi=>mH (by decide) c3
   simp[dl,qb,mQ,kS,aJ,aA,cW,bq,aj,bp,bJ,ah,am,fY,i0,cH,pE,ju,oj,hb,skip,e1,e2,e3,e4,df,fG,pu,ci,gw,fy,Ab,aY,lc,hA,e5,e6,db hm]
  ·exact Nat.lt_of_lt_of_le (show A.natAbs<10^10 by omega) (by decide)
theorem ay {t u:FS}{ρ ρ':aB}(h:t ρ=.nx ρ'):aA t u ρ=u ρ':=by unfold aA;rw[h]
theorem iJ {t u:FS}{ρ ρ':aB}{d:D}(h:t ρ=.rt d ρ'):aA t u ρ=.rt d ρ':=by unfold aA;rw[h]
abbrev nI(i:Nat):D:=.int (i:Int)
abbrev gL(ns:List Int):D:=.scr (ns.map D.int)
theorem tt(n:Nat):sP 0 n=(List.range n).map nI:=by
 unfold sP;simp
theorem fH {n j:Nat}(h:j<n):oj n (j:Int)=some j:=by
 unfold oj;rw[if_pos (by omega),if_pos (by omega)];simp
theorem wK(ns:List Int)(k:Nat): ∃c,fM [gL ns,nI k]=some (.int c):=by
 by_cases h:k<ns.length
 ·refine⟨ns[k],?_⟩
  simp[fM,j0,nU,cz,aA,cW,bq,aj,ah,ai,aa,af,bu,nH,pE,h,aY,bp,ju,fH (show k<(ns.map D.int).length by simpa using h)]
  simp[fH h,h]
 ·refine⟨0,?_⟩
  simp[fM,j0,nU,cz,aA,cW,bq,aj,ah,ai,aa,af,bu,nH,pE,h,aY,skip,am]
theorem oD(ns:List Int)(k:D)(c:D): ∀(l:List Nat),(∀i∈l,i<ns.length/\i<1000)-> ∀(x:Int) (s4:Sl),0<=x->x<2147483647-> ∃(x':Int) (s4':Sl),0<=x'/\x'<2147483647/\
 fF (gN 4) (aN 3 (aj bn (aj bw (aj bw (aj dP (ah 3) (am (.int 5))) (aj bn (aj bp (ah 0) (ah 4)) (am (.int 2147483629)))) (aj bH (am (.int 31)) (ah 4))) (am (.int 2147483647)))) (l.map nI) [.v (gL ns),.v k,.v c,.v (.int x),s4]=.nx [.v (gL ns),.v k,.v c,.v (.int x'),s4']
 | [],_,x,s4,h1,h2=>⟨x,s4,h1,h2,rfl⟩
 |i::l,hl,x,s4,h1,h2=>by
  obtain⟨hi,hi2⟩:=hl i (by simp)
  have e1:dP (.int x) (.int 5)=some (.int (x^5)):=iX (by decide) (by decide) (Nat.lt_of_lt_of_le (show x.natAbs<10^10 by omega) (by decide))
  have e2:bH (.int 31) (nI i)=some (.int (31*i)):=dS (Nat.lt_of_lt_of_le (show(31:Int).natAbs<10^10 by decide) (by decide)) (Nat.lt_of_lt_of_le (show(i:Int).natAbs<10^10 by omega) (by decide))
  have e3: ∀i:Int,bn (.int i) (.int 2147483647)=some (.int (i % 2147483647)):=λi=>db (by decide)
  have e4: ∀i:Int,bn (.int i) (.int 2147483629)=some (.int (i % 2147483629)):=λi=>db (by decide)
  obtain⟨y1,y2⟩:=eE (i:=x^5+ns[i] % 2147483629+31*i) (m:=2147483647) (by decide)
  obtain⟨x',s4',g1,g2,g3⟩:=oD ns k c l (λj hj=>hl j (by simp[hj])) _ (.v (nI i)) y1 y2
  refine⟨x',s4',g1,g2,?_⟩
  rw[<-g3];simp[fF,gN,aN,aj,ah,am,e1,e2,e3,e4,bp,ju,fH (show i<(ns.map D.int).length by simpa using hi),fH hi,hi,df]
theorem z6(ns:List Int)(k:Nat)(hk:k<=1000)(hn:ns.length<=63): ∃a b,vm [gL ns,nI k]=some (.lst (aJ a b))/\Bag 1 a b:=by
 obtain⟨c,hc⟩:=wK ns k
 have p1:dP (.int 10) (.int 60)=some (.int (10^60)):=iX (by decide) (by decide) (by decide)
 have p2:dP (.int 10) (.int 18)=some (.int (10^18)):=iX (by decide) (by decide) (by decide)
 have q60:((10:Int)^60).natAbs<10^200:=by decide
 have q120:((10:Int)^60*10^60).natAbs<10^200:=by decide
 have m1:bH (.int (10^60)) (.int (10^60))=some (.int (10^60*10^60)):=dS q60 q60
 have m2:bH (.int (10^60*10^60)) (.int (10^60))=some (.int (10^60*10^60*10^60)):=dS q120 q60
 have m3:bH (.int 7919) (nI k)=some (.int (7919*k)):=dS (Nat.lt_of_lt_of_le (show(7919:Int).natAbs<10^10 by decide) (by decide)) (Nat.lt_of_lt_of_le (show(k:Int).natAbs<10^10 by omega) (by decide))
 generalize hA:(if c<0 then -c else c) % (10^60*10^60*10^60)=A
 have hA':0<=A/\A<10^60*10^60*10^60:=by rw[<-hA];exact eE (by decide)
 have s1:aN 2 (aj bn (ai pq (aa (ai (nF 2 fM) (aa (ah 0) (aa (ah 1) (af)))) (af))) (aj bH (aj bH (aj dP (am (.int 10)) (am (.int 60))) (aj dP (am (.int 10)) (am (.int 60)))) (aj dP (am (.int 10)) (am (.int 60))))) [.v (gL ns),.v (nI k),.no,.no,.no]=.nx [.v (gL ns),.v (nI k),.v (.int A),.no,.no]:=by
  have m4: ∀i:Int,bn (.int i) (.int (10^60*10^60*10^60))=some (.int (i % (10^60*10^60*10^60))):=λi=>db (by decide)
  unfold aN;have:aj bn (ai pq (aa (ai (nF 2 fM) (aa (ah 0) (aa (ah 1) (af)))) (af))) (aj bH (aj bH (aj dP (am (.int 10)) (am (.int 60))) (aj dP (am (.int 10)) (am (.int 60)))) (aj dP (am (.int 10)) (am (.int 60)))) [.v (gL ns),.v (nI k),.no,.no,.no]=some (.int A):=by
   have ec:ai (nF 2 fM) (aa (ah 0) (aa (ah 1) af)) [.v (gL ns),.v (nI k),.no,.no,.no]=some (.int c):=hc
   simp only[aj,ai,aa,af,am,Option.bind_some,p1,m1,m2,pq];have ec':((ah 0 [.v (gL ns),.v (nI k),.no,.no,.no]).bind λd=>((ah 1 [.v (gL ns),.v (nI k),.no,.no,.no]).bind λd=>(some []).map λr=>d::r).map λr=>d::r).bind (nF 2 fM)=some (.int c):=hc
   rw[ec'];simp only[Option.bind_some,Option.map_some,m4,pq,hA]
  rw[this];rfl
 have r0:cz 5 [gL ns,nI k]=[.v (gL ns),.v (nI k),.no,.no,.no]:=rfl
 unfold vm j0 vo;rw[r0,ay s1];have hA180:A.natAbs<10^180:=by
  have:(10:Int)^60*10^60*10^60=((10^180:Nat):Int):=by decide
  rw[this] at hA';omega
 by_cases hb:(10:Int)^18<=A
 ·refine⟨A,0,?_,⟨hA'.1,hA180,by decide,by decide,λz=>absurd rfl z⟩⟩
  simp only[aA,cW,bq,aj,ah,List.getElem?_cons_succ,List.getElem?_cons_zero,Option.bind_some,am,p2,sv,pE,decide_eq_true hb,aY,jh,aa,af,Option.map_some];rw[cU (by simp)]
 ·generalize hx:(A+7919*(k:Int)+17) % 2147483647=x
  have hx':0<=x/\x<2147483647:=by rw[<-hx];exact eE (by decide)
  have m4:bn (.int (A+7919*(k:Int)+17)) (.int 2147483647)=some (.int x):=by rw[db (by decide),hx]
  have hr:bS (aa (ai i7 (aa (ai bu (aa (ah 0) (af))) (aa (am (.int 9)) (af)))) (af)) [.v (gL ns),.v (nI k),.v (.int A),.v (.int x),.no]=some ((List.range (min ns.length 9)).map nI):=by
   rw[oH];simp only[ai,aa,af,ah,am,List.getElem?_cons_zero,Option.bind_some,Option.map_some,bu,i7,List.length_map];have:(if(9:Int)<(ns.length:Int) then(9:Int) else(ns.length:Int))=((min ns.length 9:Nat):Int):=by split<;>omega
   rw[this,oN (by omega),tt,Int.toNat_natCast]
  obtain⟨x',s4',g1,g2,g3⟩:=oD ns (nI k) (.int A) (List.range (min ns.length 9)) (λi hi=>by have:=List.mem_range.mp hi;omega) x .no hx'.1 hx'.2
  refine⟨x',1,?_,⟨g1,Nat.lt_of_lt_of_le (show x'.natAbs<10^10 by omega) (by decide),by decide,by decide,λ_=>by omega⟩⟩
  have f1:eO (bI (bS (aa (ai i7 (aa (ai bu (aa (ah 0) (af))) (aa (am (.int 9)) (af)))) (af)))) (gN 4) (aN 3 (aj bn (aj bw (aj bw (aj dP (ah 3) (am (.int 5))) (aj bn (aj bp (ah 0) (ah 4)) (am (.int 2147483629)))) (aj bH (am (.int 31)) (ah 4))) (am (.int 2147483647)))) [.v (gL ns),.v (nI k),.v (.int A),.v (.int x),.no]=.nx [.v (gL ns),.v (nI k),.v (.int A),.v (.int x'),s4']:=by
   unfold eO bI;rw[hr];exact g3
  have i1:cW (bq (aj BK (ah 2) (aj dP (am (.int 10)) (am (.int 18))))) (aY (bQ (aa (ah 2) (aa (am (.int 0)) (af))))) (skip) [.v (gL ns),.v (nI k),.v (.int A),.no,.no]=.nx [.v (gL ns),.v (nI k),.v (.int A),.no,.no]:=by
   simp only[cW,bq,aj,ah,List.getElem?_cons_succ,List.getElem?_cons_zero,Option.bind_some,am,p2,sv,pE,decide_eq_false hb,skip]
  have i2:aN 3 (aj bn (aj bw (aj bw (ah 2) (aj bH (am (.int 7919)) (ah 1))) (am (.int 17))) (am (.int 2147483647))) [.v (gL ns),.v (nI k),.v (.int A),.no,.no]=.nx [.v (gL ns),.v (nI k),.v (.int A),.v (.int x),.no]:=by
   simp only[aN,aj,ah,List.getElem?_cons_succ,List.getElem?_cons_zero,Option.bind_some,am,m3,df,m4,List.set_cons_succ,List.set_cons_zero]
  rw[ay i1,ay i2,ay f1];simp only[aY,jh,aa,af,ah,am,List.getElem?_cons_succ,List.getElem?_cons_zero,Option.bind_some,Option.map_some];rw[cU (by simp)]
theorem bh {i n:Nat}{M:List D->List D->Option (D×List D)}{fs:GA}{ρ ρ1:aB}{b0 bs ds bs':List D}{d:D}(h0:gw i ρ=some b0)(h1:fs ρ=some (ds,ρ1))(h2:gw i ρ1=some bs)(h3:ds.length=n)(h4:M bs ds=some (d,bs')):aG i n M fs ρ=some (d,fy i bs' ρ1):=by
 unfold aG;rw[h0];dsimp only;rw[h1];dsimp only;rw[h2];dsimp only;rw[if_pos h3,h4]
theorem dc {f:GE}{fs:GA}{ρ ρ1 ρ2:aB}{d:D}{ds:List D}(h1:f ρ=some (d,ρ1))(h2:fs ρ1=some (ds,ρ2)):ce f fs ρ=some (d::ds,ρ2):=by
 unfold ce bE;rw[h1];dsimp only[Option.bind];rw[h2];rfl
theorem bD {f:FA}{ρ:aB}{ds:List D}(h:f ρ=some ds):bI f ρ=some (ds,ρ):=by unfold bI;rw[h];rfl
theorem pU {f:FE}{ρ:aB}{d:D}(h:f ρ=some d):pu f ρ=some (d,ρ):=by unfold pu;rw[h];rfl
theorem ml {α β:Type}(f:α->β): ∀(l:List α) (j:Nat),(l.map f).eraseIdx j=(l.eraseIdx j).map f
 | [],_=>rfl
 |_::_,0=>rfl
 |x::l,j+1=>by simp[ml f l j]
theorem lh {α:Type}: ∀(l:List α) (j:Nat) (h:j<l.length),(l[j]::l.eraseIdx j).Perm l
 |_::_,0,_=>.refl _
 |x::l,j+1,h=>by
  have ih:=lh l j (by simpa using h)
  exact(List.Perm.swap _ _ _).trans (ih.cons x)
theorem kF: ∀r:List Nat,cR (r.map nI)=0
 | []=>by simp[cR]
 |a::r=>by
  rw[List.map_cons];unfold cR;rw[kF r];simp[dG]
theorem pj(r:List Nat):dG (.lst (r.map nI))<=32:=by unfold dG;rw[kF];omega
abbrev C3:FS->Nat->FS:=λb n=>ut (bq (aj gM (bJ 2) (bQ (af)))) b n
abbrev my:FS:=dE (aG 3 1 iM (ce (aG 2 1 lU (ce (aG 0 1 dl (bI (aa (ai bu (aa (bJ 2) (af))) (af)))) (bI (af)))) (bI (af))))
theorem AL(n:D)(bg:List D)(left found:List Nat):bq (aj gM (bJ 2) (bQ (af))) [.arg bg,.v n,.own (left.map nI),.own (found.map nI)]=some (!left.isEmpty):=by
 have h0:bQ af [.arg bg,.v n,.own (left.map nI),.own (found.map nI)]=some (.lst []):=by
  rw[jh];simp only[af,Option.bind_some];exact cU (by simp)
 unfold bq aj;rw[h0];simp only[bJ,List.getElem?_cons_succ,List.getElem?_cons_zero,Option.bind_some];rw[fS (pj left)];cases left with
 |nil=>simp[pE,cC,ck]
 |cons x r=>simp[pE,cC,ck]
theorem uM(n:D){N:Nat}{a b:Int}(B:Bag N a b)(hN:N<=1000000000)(left found:List Nat)(h0:0<left.length)(h1:left.length<=100)(h2:found.length<=100):
 ∃(j:Nat) (hj:j<left.length) (a' b':Int),my [.arg (aJ a b),.v n,.own (left.map nI),.own (found.map nI)]=.nx [.arg (aJ a' b'),.v n,.own ((left.eraseIdx j).map nI),.own ((found++[left[j]]).map nI)]/\Bag (N+1) a' b':=by
 obtain⟨d,a',b',e,B',d0,d1⟩:=ke (m:=left.length) B hN (by omega) (Nat.lt_of_lt_of_le (show(left.length:Int).natAbs<10^10 by omega) (by decide))
 obtain⟨j,rfl⟩: ∃j:Nat,d=(j:Int):=⟨d.toNat,by omega⟩
 have hj:j<left.length:=by omega
 refine⟨j,hj,a',b',?_,B'⟩
 have e2:lU (left.map nI) [.int (j:Int)]=some (nI left[j],(left.eraseIdx j).map nI):=by
  rw[xp,cU (by simp;omega)]
  simp only[Option.bind_some];rw[fH (by simpa using hj)]
  simp[hj,ml]
 have e3:iM (found.map nI) [nI left[j]]=some (.non,(found++[left[j]]).map nI):=by
  rw[sW,mj (by simp;omega)];simp
 have g:aG 0 1 dl (bI (aa (ai bu (aa (bJ 2) (af))) (af))) [.arg (aJ a b),.v n,.own (left.map nI),.own (found.map nI)]=some (nI j,[.arg (aJ a' b'),.v n,.own (left.map nI),.own (found.map nI)]):=by
  simp[aG,gw,bI,aa,ai,bJ,af,bu,e,fy]
 have g2:aG 2 1 lU (ce (aG 0 1 dl (bI (aa (ai bu (aa (bJ 2) (af))) (af)))) (bI (af))) [.arg (aJ a b),.v n,.own (left.map nI),.own (found.map nI)]=some (nI left[j],[.arg (aJ a' b'),.v n,.own ((left.eraseIdx j).map nI),.own (found.map nI)]):=by
  refine(bh (i:=2) (n:=1) (b0:=left.map nI) (ds:=[nI j]) (ρ1:=[.arg (aJ a' b'),.v n,.own (left.map nI),.own (found.map nI)]) rfl (dc g rfl) rfl rfl e2).trans rfl
 have g3:aG 3 1 iM (ce (aG 2 1 lU (ce (aG 0 1 dl (bI (aa (ai bu (aa (bJ 2) (af))) (af)))) (bI (af)))) (bI (af))) [.arg (aJ a b),.v n,.own (left.map nI),.own (found.map nI)]=some (.non,[.arg (aJ a' b'),.v n,.own ((left.eraseIdx j).map nI),.own ((found++[left[j]]).map nI)]):=by
  refine(bh (i:=3) (n:=1) (b0:=found.map nI) (ds:=[nI left[j]]) (ρ1:=[.arg (aJ a' b'),.v n,.own ((left.eraseIdx j).map nI),.own (found.map nI)]) rfl (dc g2 rfl) rfl rfl e3).trans rfl
 unfold my dE;rw[g3]
theorem yz(n:D): ∀(f:Nat) (left found:List Nat) (N:Nat) (a b:Int),left.length<f->left.length<=50->found.length+left.length<=100->Bag N a b->N+left.length<=1000000000->
 ∃(o:List Nat) (a' b':Int),C3 my f [.arg (aJ a b),.v n,.own (left.map nI),.own (found.map nI)]=.nx [.arg (aJ a' b'),.v n,.own [],.own ((found++o).map nI)]/\o.Perm left/\Bag (N+left.length) a' b'
 |0,left,found,N,a,b,h,_,_,_,_=>absurd h (Nat.not_lt_zero _)
 |f+1,left,found,N,a,b,h,h1,h2,B,hN=>by
  unfold C3 ut;rw[AL];cases e:left.isEmpty with
  |true=>
   have:left=[]:=by simpa using e
   subst this;exact⟨[],a,b,by simp,.refl _,by simpa using B⟩
  |false=>
   have h0:0<left.length:=by cases left with
    |nil=>cases e
    |cons x r=>simp
   obtain⟨j,hj,a1,b1,e1,B1⟩:=uM n B (by omega) left found h0 (by omega) (by omega)
   have hl:(left.eraseIdx j).length=left.length-1:=by rw[List.length_eraseIdx];simp[hj]
   obtain⟨o,a2,b2,e2,p,B2⟩:=yz n f (left.eraseIdx j) (found++[left[j]]) (N+1) a1 b1 (by omega) (by omega) (by simp;omega) B1 (by omega)
   refine⟨left[j]::o,a2,b2,?_,?_,?_⟩
   ·simp only[Bool.not_false]
    rw[e1];dsimp only;have:ut (bq (aj gM (bJ 2) (bQ af))) my f=C3 my f:=rfl
    rw[this,e2];simp
   ·exact(p.cons _).trans (lh left j hj)
   ·rw[show N+left.length=N+1+(left.eraseIdx j).length by omega];exact B2
structure Ord(n:Nat)(r:List Nat):Prop where
 perm:r.Perm (List.range n)
theorem Ord.len {n:Nat}{r:List Nat}(o:Ord n r):r.length=n:=by rw[o.perm.length_eq];simp
theorem Ord.lt {n:Nat}{r:List Nat}(o:Ord n r){v:Nat}(h:v∈r):v<n:=by simpa using o.perm.mem_iff.mp h
theorem Ord.has {n:Nat}{r:List Nat}(o:Ord n r){v:Nat}(h:v<n):v∈r:=o.perm.mem_iff.mpr (by simpa using h)
theorem Ord.nd {n:Nat}{r:List Nat}(o:Ord n r):r.Nodup:=o.perm.nodup_iff.mpr List.nodup_range
theorem uA {n:Nat}(h:n<=1000)(f:FE)(ρ:aB)(e:f ρ=some (nI n)):pQ f ρ=some (.lst ((List.range n).map nI)):=by
 unfold pQ xY;rw[e];simp only[Option.bind_some];rw[if_pos (by omega),tt];rfl
theorem pb {N:Nat}{a b:Int}(B:Bag N a b){n:Nat}(hn:n<=12)(hN:N<=900000000): ∃(o:List Nat) (a' b':Int),gh (aJ a b) [nI n]=some (.lst (o.map nI),aJ a' b')/\Ord n o/\Bag (N+n) a' b':=by
 obtain⟨o,a',b',e,p,B'⟩:=yz (nI n) 16 (List.range n) [] N a b (by simp;omega) (by simp;omega) (by simp;omega) B (by simp;omega)
 refine⟨o,a',b',?_,⟨p⟩,by simpa using B'⟩
 have r0:kS 4 (aJ a b) [nI n]=[.arg (aJ a b),.v (nI n),.no,.no]:=rfl
 have s1:dg 2 (pQ (ah 1)) [.arg (aJ a b),.v (nI n),.no,.no]=.nx [.arg (aJ a b),.v (nI n),.own ((List.range n).map nI),.no]:=by
  unfold dg;rw[uA (n:=n) (by omega) (ah 1) _ rfl]
  rfl
 have s2:dg 3 (bQ (af)) [.arg (aJ a b),.v (nI n),.own ((List.range n).map nI),.no]=.nx [.arg (aJ a b),.v (nI n),.own ((List.range n).map nI),.own []]:=by
  unfold dg;rw[jh];simp only[af,Option.bind_some];rw[cU (by simp)]
  rfl
 unfold gh qb pf;rw[r0,ay s1,ay s2];have e':ut (bq (aj gM (bJ 2) (bQ (af)))) my 16 [.arg (aJ a b),.v (nI n),.own ((List.range n).map nI),.own []]=.nx [.arg (aJ a' b'),.v (nI n),.own [],.own (o.map nI)]:=e
 rw[ay e'];simp[wj,qg,lc]
theorem au {F:D->D->Option D}{f g:FE}{ρ:aB}{x y:D}(h1:f ρ=some x)(h2:g ρ=some y):aj F f g ρ=F x y:=by unfold aj;rw[h1,Option.bind_some,h2,Option.bind_some]
theorem su {F:D->D->Option D}{f g:GE}{ρ ρ1 ρ2:aB}{x y d:D}(h1:f ρ=some (x,ρ1))(h2:g ρ1=some (y,ρ2))(h3:F x y=some d):kH F f g ρ=some (d,ρ2):=by
 unfold kH bE;rw[h1];dsimp only[Option.bind];rw[h2];dsimp only[Option.bind];rw[h3];rfl
theorem bC {i:Nat}{f:FE}{ρ:aB}{d:D}(h:f ρ=some d):aN i f ρ=.nx (ρ.set i (.v d)):=by unfold aN;rw[h]
theorem gF {i:Nat}{f:GE}{ρ ρ1:aB}{d:D}(h:f ρ=some (d,ρ1)):fB i f ρ=.nx (ρ1.set i (.v d)):=by unfold fB;rw[h]
theorem wE {i:Nat}{f:GE}{ρ ρ1:aB}{ds:List D}(h:f ρ=some (.lst ds,ρ1)):qJ i f ρ=.nx (ρ1.set i (.own ds)):=by unfold qJ;rw[h];rfl
theorem h8 {i:Nat}{f:FE}{ρ:aB}{ds:List D}(h:f ρ=some (.lst ds)):dg i f ρ=.nx (ρ.set i (.own ds)):=by unfold dg;rw[h];rfl
theorem ik {f:FA}{ρ:aB}{ds:List D}(h:f ρ=some ds)(h2:ds.length<=1000):dZ f ρ=some (.tup ds):=by
 rw[x0,h,Option.bind_some,cU h2]
theorem gH {f:FA}{ρ:aB}{ds:List D}(h:f ρ=some ds)(h2:ds.length<=1000):bQ f ρ=some (.lst ds):=by
 rw[jh,h,Option.bind_some,cU h2]
theorem ax {f:FE}{fs:FA}{ρ:aB}{d:D}{ds:List D}(h1:f ρ=some d)(h2:fs ρ=some ds):aa f fs ρ=some (d::ds):=by unfold aa;rw[h1,h2];rfl
theorem aS {F:List D->Option D}{f:FA}{ρ:aB}{ds:List D}(h:f ρ=some ds):ai F f ρ=F ds:=by unfold ai;rw[h];rfl
theorem tu {r:List Nat}{c:Nat}(h:c<r.length):ju (r.map nI) (c:Int)=some (nI (r.getD c 0)):=i6 (by rw[List.getElem?_map,List.getElem?_eq_getElem h];simp[List.getD,h])
theorem jR {r:List Nat}{c:Nat}(h:c<r.length):bp (.lst (r.map nI)) (nI c)=some (nI (r.getD c 0)):=tu h
theorem yA {r:List Nat}{c:Nat}(h:c<r.length):bp (.tup (r.map nI)) (nI c)=some (nI (r.getD c 0)):=tu h
theorem fm(a b:Nat):cC (nI a) (nI b)=decide (a=b):=by
 rw[i0];rw[Bool.eq_iff_iff];simp;omega
theorem CH(a b:Nat):bw (nI a) (nI b)=some (nI (a+b)):=by rw[df];simp
theorem BV(a:Nat):bw (nI a) (.int 1)=some (nI (a+1)):=by rw[df];simp
theorem Bw {a n:Nat}(h:0<n):bn (nI a) (nI n)=some (nI (a % n)):=by rw[db (by omega)];rfl
theorem pI {i:Nat}{fi:FE}{d:D}{ρ:aB}{bs:List D}{j:Nat}(h1:gw i ρ=some bs)(h2:fi ρ=some (nI j))(h3:j<bs.length):ci i fi d ρ=some (fy i (bs.set j d) ρ):=by
 unfold ci;rw[h1];dsimp only;rw[h2];dsimp only;rw[fH h3]
theorem uW(x:List Nat)(j v:Nat):(x.map nI).set j (nI v)=(x.set j v).map nI:=by rw[List.map_set]
def qi(n:Nat)(r x:List Nat)(c:Nat):List Nat:=if x.getD c 0=r.getD c 0 then(x.set c (x.getD ((c+1) % n) 0)).set ((c+1) % n) (x.getD c 0) else x
abbrev td:FS:=aA (aN 7 (aj bn (aj bw (ah 6) (am (.int 1))) (ah 1)))
 (cW (bq (aj eV (aj bp (bJ 5) (ah 6)) (aj bp (ah 4) (ah 6)))) (fG (gT 2 (lw (ci 5 (ah 6)) (lw (ci 5 (ah 7)) (qa)))) (pu (dZ (aa (aj bp (bJ 5) (ah 7)) (aa (aj bp (bJ 5) (ah 6)) (af)))))) (skip))
theorem uY(bg:List D)(p q:D)(n:Nat)(r x:List Nat)(c:Nat)(s7:Sl)(hr:r.length=n)(hx:x.length=n)(hc:c<n):
 td [.arg bg,.v (nI n),.v p,.v q,.v (.lst (r.map nI)),.own (x.map nI),.v (nI c),s7]=.nx [.arg bg,.v (nI n),.v p,.v q,.v (.lst (r.map nI)),.own ((qi n r x c).map nI),.v (nI c),.v (nI ((c+1) % n))]:=by
 have hd:(c+1) % n<n:=Nat.mod_lt _ (by omega)
 have e1:aN 7 (aj bn (aj bw (ah 6) (am (.int 1))) (ah 1)) [.arg bg,.v (nI n),.v p,.v q,.v (.lst (r.map nI)),.own (x.map nI),.v (nI c),s7]=.nx [.arg bg,.v (nI n),.v p,.v q,.v (.lst (r.map nI)),.own (x.map nI),.v (nI c),.v (nI ((c+1) % n))]:=
  (bC ((au (au (x:=nI c) (y:=.int 1) rfl rfl |>.trans (BV c)) (y:=nI n) rfl).trans (Bw (by omega)))).trans rfl
 unfold td;rw[ay e1];have i1:aj bp (bJ 5) (ah 6) [.arg bg,.v (nI n),.v p,.v q,.v (.lst (r.map nI)),.own (x.map nI),.v (nI c),.v (nI ((c+1) % n))]=some (nI (x.getD c 0)):=(au (x:=.lst (x.map nI)) (y:=nI c) rfl rfl).trans (jR (by omega))
 have i2:aj bp (ah 4) (ah 6) [.arg bg,.v (nI n),.v p,.v q,.v (.lst (r.map nI)),.own (x.map nI),.v (nI c),.v (nI ((c+1) % n))]=some (nI (r.getD c 0)):=(au (x:=.lst (r.map nI)) (y:=nI c) rfl rfl).trans (jR (by omega))
 have i3:aj bp (bJ 5) (ah 7) [.arg bg,.v (nI n),.v p,.v q,.v (.lst (r.map nI)),.own (x.map nI),.v (nI c),.v (nI ((c+1) % n))]=some (nI (x.getD ((c+1) % n) 0)):=(au (x:=.lst (x.map nI)) (y:=nI ((c+1) % n)) rfl rfl).trans (jR (by omega))
 unfold cW bq;rw[au i1 i2,fY (by rw[cH];omega),fm]
 by_cases e:x.getD c 0=r.getD c 0
 ·rw[decide_eq_true e]
  simp only[pE];unfold fG;rw[pU (ik (ax i3 (ax i1 rfl)) (by simp))]
  simp only[gT,List.length_cons,List.length_nil,lw];unfold qi;rw[if_pos e];rw[pI (bs:=x.map nI) (j:=c) rfl rfl (by simp;omega)]
  simp only[Option.bind_some];rw[pI (bs:=(x.map nI).set c (nI (x.getD ((c+1) % n) 0))) (j:=(c+1) % n) rfl rfl (by simp;omega)]
  simp only[Option.bind_some,qa,uW];rfl
 ·rw[decide_eq_false e]
  simp only[pE,skip];unfold qi;rw[if_neg e]
theorem swap_perm(x:List Nat)(c d:Nat)(hc:c<x.length)(hd:d<x.length):((x.set c (x.getD d 0)).set d (x.getD c 0)).Perm x:=by
 have e:(x.toArray.swap c d (by simpa using hc) (by simpa using hd)).toList=(x.set c (x.getD d 0)).set d (x.getD c 0):=by
  simp[Array.toList_swap,List.getD,hc,hd]
 rw[<-e];have:=Array.swap_perm (xs:=x.toArray) (i:=c) (j:=d) (by simpa using hc) (by simpa using hd)
 simpa using (Array.perm_iff_toList_perm.mp this)
theorem qA {x:List Nat}(h:x.Nodup){i j:Nat}(hi:i<x.length)(hj:j<x.length)(e:x.getD i 0=x.getD j 0):i=j:=by
 have:x[i]=x[j]:=by simpa [List.getD,hi,hj] using e
 exact(List.getElem_inj h).mp this
theorem Ord.fix {n:Nat}{r x:List Nat}(or:Ord n r)(ox:Ord n x){c:Nat}(hc:c<n)(hn:2<=n):Ord n (qi n r x c)/\((∀i,i<c->x.getD i 0≠r.getD i 0)-> ∀i,i<c+1->(qi n r x c).getD i 0≠r.getD i 0):=by
 have lx:=ox.len
 have lr:=or.len
 have hd:(c+1) % n<n:=Nat.mod_lt _ (by omega)
 have gx: ∀i,i<n->x.getD i 0=x[i]! :=λi hi=>by simp[List.getD,lx,hi]
 unfold qi
 by_cases e:x.getD c 0=r.getD c 0
 ·rw[if_pos e]
  have ne:(c+1) % n≠c:=by
   by_cases h:c+1<n
   ·rw[Nat.mod_eq_of_lt h];omega
   ·rw[show c+1=n by omega,Nat.mod_self];omega
  refine⟨⟨(swap_perm x c _ (by omega) (by omega)).trans ox.perm⟩,λh i hi=>?_⟩
  have g:((x.set c (x.getD ((c+1) % n) 0)).set ((c+1) % n) (x.getD c 0)).getD i 0=if i=(c+1) % n then x.getD c 0 else if i=c then x.getD ((c+1) % n) 0 else x.getD i 0:=by
   simp only[List.getD,List.getElem?_set,List.length_set]
   by_cases h1:(c+1) % n=i
   ·subst h1;simp[lx,hd]
   ·rw[if_neg h1,if_neg (Ne.symm h1)]
    by_cases h2:c=i
    ·subst h2;simp[lx,hc]
    ·rw[if_neg h2,if_neg (Ne.symm h2)]
  rw[g]
  by_cases h1:i=(c+1) % n
  ·rw[if_pos h1,e]
   intro z;have:=qA or.nd (by omega) (by omega) z
   omega
  ·rw[if_neg h1]
   by_cases h2:i=c
   ·rw[if_pos h2,h2,<-e]
    intro z;have:=qA ox.nd (by omega) (by omega) z
    omega
   ·rw[if_neg h2];exact h i (by omega)
 ·rw[if_neg e]
  refine⟨ox,λh i hi=>?_⟩
  by_cases hic:i=c
  ·subst hic;exact e
  ·exact h i (by omega)
theorem yx(bg:List D)(p q:D){n:Nat}{r:List Nat}(or:Ord n r)(hn:2<=n): ∀(k c:Nat) (x:List Nat) (s6 s7:Sl),c+k=n->Ord n x->(∀i,i<c->x.getD i 0≠r.getD i 0)->
 ∃(x':List Nat) (s6' s7':Sl),fF (gN 6) td ((List.range' c k).map nI) [.arg bg,.v (nI n),.v p,.v q,.v (.lst (r.map nI)),.own (x.map nI),s6,s7]=.nx [.arg bg,.v (nI n),.v p,.v q,.v (.lst (r.map nI)),.own (x'.map nI),s6',s7']/\Ord n x'/\ ∀i,i<n->x'.getD i 0≠r.getD i 0
 |0,c,x,s6,s7,h,ox,hi=>⟨x,s6,s7,rfl,ox,λi h'=>hi i (by omega)⟩
 |k+1,c,x,s6,s7,h,ox,hi=>by
  obtain⟨o1,o2⟩:=or.fix ox (c:=c) (by omega) hn
  obtain⟨x',a,b,e,o3,o4⟩:=yx bg p q or hn k (c+1) (qi n r x c) (.v (nI c)) (.v (nI ((c+1) % n))) (by omega) o1 (o2 hi)
  refine⟨x',a,b,?_,o3,o4⟩
  rw[List.range'_succ,List.map_cons];unfold fF;have:gN 6 (nI c) [.arg bg,.v (nI n),.v p,.v q,.v (.lst (r.map nI)),.own (x.map nI),s6,s7]=some [.arg bg,.v (nI n),.v p,.v q,.v (.lst (r.map nI)),.own (x.map nI),.v (nI c),s7]:=rfl
  rw[this];dsimp only;rw[uY bg p q n r x c s7 or.len ox.len (by omega)]
  exact e
theorem bL {α:Type}{g:FG}{f:FE}{ρ0:aB}{h o:α->D}: ∀(l:List α),(∀i∈l,∃ρ1,g (h i) ρ0=some ρ1/\f ρ1=some (o i))->cJ g bT f ρ0 (l.map h)=some (l.map o)
 | [],_=>rfl
 |a::l,H=>by
  obtain⟨ρ1,h1,h2⟩:=H a (by simp)
  have ih:=bL l λi hi=>H i (by simp[hi])
  rw[List.map_cons];unfold cJ;rw[h1,Option.bind_some];simp only[bT,Option.bind_some,if_true,h2,ih];rfl
theorem cf {m:Nat}{gi:FA}{g:FG}{p:FT}{f:FE}{ρ:aB}{ds ys:List D}(h1:gi ρ=some ds)(h2:ds.length<=1000)(h3:cJ g p f (ρ++List.replicate m .no) ds=some ys):aX m gi g p f ρ=some (.lst ys):=by
 rw[uU,h1,Option.bind_some,cU h2,Option.bind_some,h3];rfl
theorem w6: ∀n,2<=n->n<=6-> ∀b,1<=b->b<n->Ord n ((List.range n).map λi=>(i+b) % n):=by
 intro n h1 h2 b h3 h4;refine⟨?_⟩
 have: ∀n:_root_.Fin 7,∀b:_root_.Fin 7,((List.range n.val).map λi=>(i+b.val) % n.val).isPerm (List.range n.val)=true\/ ¬(b.val<n.val):=by decide
 rcases this ⟨n,by omega⟩ ⟨b,by omega⟩ with h|h
 ·exact List.isPerm_iff.mp h
 ·exact absurd h4 h
abbrev g0(r:List Nat):D:=.tup (r.map nI)
abbrev jN(r x:List Nat):D:=.tup [g0 r,g0 x]
structure Sq(n:Nat)(r x:List Nat):Prop where
 hr:Ord n r
 hx:Ord n x
 ne: ∀i,i<n->x.getD i 0≠r.getD i 0
theorem dU {f:FA}{ρ:aB}{n:Nat}(h:f ρ=some [nI n])(hn:n<=1000):bS f ρ=some ((List.range n).map nI):=by
 rw[oH,h,Option.bind_some,oN (by omega),tt];rfl
theorem Dv {j:Int}(h:0<=j):D.int j=nI j.toNat:=by show D.int j=D.int (j.toNat:Int);rw[Int.toNat_of_nonneg h]
theorem yM {n:Nat}{P:List D->Option D}{ds:List D}(h:ds.length=n):nF n P ds=P ds:=if_pos h
theorem va {g:FG}{f:GE}{ρ ρ1 ρ2:aB}{d:D}(h1:f ρ=some (d,ρ1))(h2:g d ρ1=some ρ2):fG g f ρ=.nx ρ2:=by unfold fG;rw[h1];dsimp only;rw[h2];rfl
theorem eW {n:Nat}{P:List D->Option D}{fs:FA}{ρ:aB}{ds:List D}(h:fs ρ=some ds)(hl:ds.length=n):ai (nF n P) fs ρ=P ds:=(aS h).trans (yM hl)
theorem uC {F:List D->Option D}{fs:GA}{ρ ρ1:aB}{ds:List D}{d:D}(h:fs ρ=some (ds,ρ1))(h2:F ds=some d):kB F fs ρ=some (d,ρ1):=by unfold kB;rw[h];dsimp only[Option.bind];rw[h2];rfl
theorem kq {kd:Kd}{n:Nat}{t:FS}{ds:List D}{ρ:aB}{d:D}(h:t (cz n ds)=.rt d ρ):j0 kd n t ds=some d:=by unfold j0;rw[h]
theorem bd {f:FE}{ρ:aB}{d:D}(h:f ρ=some d):aY f ρ=.rt d ρ:=by unfold aY;rw[h]
theorem ni: ∀bs:List Bool,gm (bs.map D.bl)=some bs
 | []=>rfl
 |b::r=>by show(gm (r.map D.bl)).map (b:: ·)=_;rw[ni r];rfl
theorem rU(bs:List Bool):ng [.lst (bs.map D.bl)]=some (.bl (bs.any id)):=by
 show(gm (bs.map D.bl)).map (λbs=>D.bl (bs.any id))=_
 rw[ni];rfl
theorem ki(bs:List Bool):n5 [.lst (bs.map D.bl)]=some (.bl (bs.all id)):=by
 show(gm (bs.map D.bl)).map (λbs=>D.bl (bs.all id))=_
 rw[ni];rfl
theorem uO {p:FT}{t u:FS}{ρ:aB}(h:p ρ=some false):cW p t u ρ=u ρ:=by unfold cW;rw[h]
theorem iC {p:FT}{t u:FS}{ρ:aB}(h:p ρ=some true):cW p t u ρ=t ρ:=by unfold cW;rw[h]
theorem jr {p q:FT}{ρ:aB}{b:Bool}(h1:p ρ=some false)(h2:q ρ=some b):km p q ρ=some b:=by unfold km;rw[h1];exact h2
theorem pV {p q:FT}{ρ:aB}(h1:p ρ=some true):km p q ρ=some true:=by unfold km;rw[h1];rfl
theorem ww {p q:FT}{ρ:aB}{b:Bool}(h1:p ρ=some true)(h2:q ρ=some b):gR p q ρ=some b:=by unfold gR;rw[h1];exact h2
theorem Ai {p q:FT}{ρ:aB}(h1:p ρ=some false):gR p q ρ=some false:=by unfold gR;rw[h1];rfl
theorem wx {p q:FT}{ρ:aB}{a b:Bool}(h1:p ρ=some a)(h2:a=true->q ρ=some b)(h3:a=false->b=false):gR p q ρ=some b:=by
 cases a with
 |true=>exact ww h1 (h2 rfl)
 |false=>rw[h3 rfl];exact Ai h1
theorem qy {p:FT}{ρ:aB}{b:Bool}(h:p ρ=some b):qc p ρ=some (.bl b):=by unfold qc;rw[h];rfl
theorem gO {f:GE}{ρ ρ1:aB}{d:D}(h:f ρ=some (d,ρ1)):dE f ρ=.nx ρ1:=by unfold dE;rw[h]
theorem cN {f:FE}{ρ:aB}{b:Bool}(h:f ρ=some (.bl b)):bq f ρ=some b:=by unfold bq;rw[h];rfl
theorem cv {f:FE}{ρ:aB}{b:Bool}(h:f ρ=some (.bl b)):du f ρ=some b:=by unfold du;rw[h];rfl
theorem cP {p:FT}{ρ:aB}{b:Bool}(h:p ρ=some b):dH p ρ=some (!b):=by unfold dH;rw[h];rfl
theorem sX {x:D}(h:dG x<=32):gM x x=some (.bl false):=by rw[fS h,gQ];rfl
theorem cV {g:FG}{b:FS}{d:D}{r:List D}{ρ ρ1 ρ2:aB}(h1:g d ρ=some ρ1)(h2:b ρ1=.nx ρ2):fF g b (d::r) ρ=fF g b r ρ2:=by
 show(match g d ρ with
  |none=>Out.no
  |some ρ1=>match b ρ1 with
   | .nx ρ2=>fF g b r ρ2
   | .ct ρ2=>fF g b r ρ2
   | .bk ρ2=>.nx ρ2
   | .rt d ρ2=>.rt d ρ2
   | .no=>.no)=_
 rw[h1];dsimp only;rw[h2]
theorem fO {f:GA}{g:FG}{b:FS}{ρ ρ1:aB}{ds:List D}(h:f ρ=some (ds,ρ1)):eO f g b ρ=fF g b ds ρ1:=by unfold eO;rw[h]
theorem rH {f:FE}{ρ:aB}{ds:List D}(h:f ρ=some (.lst ds)):jF f ρ=some ds:=by unfold jF;rw[h];rfl
theorem cj {kd:Kd}{n:Nat}{t:FS}{ds:List D}{d:D}(h: ∃ρ,t (cz n ds)=.rt d ρ):j0 kd n t ds=some d:=let⟨_,h⟩:=h;kq h
theorem y0 {t u:FS}{ρ:aB}{d:D}(P:aB->Prop)(h: ∃ρ',t ρ=.nx ρ'/\P ρ')(hu: ∀ρ',P ρ'-> ∃ρ'',u ρ'=.rt d ρ''): ∃ρ'',aA t u ρ=.rt d ρ'':=by
 obtain⟨ρ',h1,h2⟩:=h
 obtain⟨ρ'',h3⟩:=hu ρ' h2
 exact⟨ρ'',(ay h1).trans h3⟩
theorem wA {f:GA}{g:FG}{b:FS}{ρ ρ1:aB}{ds:List D}{P:aB->Prop}(h:f ρ=some (ds,ρ1))(hl: ∃ρ',fF g b ds ρ1=.nx ρ'/\P ρ'): ∃ρ',eO f g b ρ=.nx ρ'/\P ρ':=by
 obtain⟨ρ',h1,h2⟩:=hl
 exact⟨ρ',(fO h).trans h1,h2⟩
theorem sN {g:FG}{b:FS}{P:aB->Prop}: ∀(l:List D),(∀d∈l,∀ρ,P ρ-> ∃ρ1 ρ2,g d ρ=some ρ1/\b ρ1=.nx ρ2/\P ρ2)-> ∀ρ,P ρ-> ∃ρ',fF g b l ρ=.nx ρ'/\P ρ'
 | [],_,ρ,p=>⟨ρ,rfl,p⟩
 |d::l,h,ρ,p=>by
  obtain⟨ρ1,ρ2,h1,h2,p2⟩:=h d (by simp) ρ p
  obtain⟨ρ',e,p'⟩:=sN l (λd' hd=>h d' (by simp[hd])) ρ2 p2
  exact⟨ρ',(cV h1 h2).trans e,p'⟩
theorem Ad {i:Nat}{fs:GA}{ρ ρ1:aB}{b0 bs:List D}{d:D}(h0:gw i ρ=some b0)(h1:fs ρ=some ([d],ρ1))(h2:gw i ρ1=some bs)(h3:bs.length<=900):dE (aG i 1 iM fs) ρ=.nx (fy i (bs++[d]) ρ1):=
 gO (bh h0 h1 h2 rfl (by rw[sW,mj (by omega)]))
theorem mw {α:Type}{g:FG}{p:FT}{f:FE}{ρ0:aB}{h o:α->D}{q:α->Bool}: ∀(l:List α),(∀i∈l,∃ρ1,g (h i) ρ0=some ρ1/\p ρ1=some (q i)/\(q i=true->f ρ1=some (o i)))->cJ g p f ρ0 (l.map h)=some ((l.filter q).map o)
 | [],_=>rfl
 |a::l,H=>by
  obtain⟨ρ1,h1,h2,h3⟩:=H a (by simp)
  have ih:=mw l λi hi=>H i (by simp[hi])
  rw[List.map_cons];unfold cJ;rw[h1,Option.bind_some,h2,Option.bind_some];cases e:q a with
  |true=>rw[if_pos rfl,h3 e,Option.bind_some,ih];simp[e]
  |false=>rw[if_neg (by simp),ih];simp[e]
theorem oZ(r:List Nat)(ρ:aB)(f:FE)(h:f ρ=some (g0 r)):ai bu (aa f af) ρ=some (nI r.length):=by
 rw[aS (ax h rfl)];show some (D.int ((r.map nI).length:Int))=_;rw[List.length_map]
theorem A8(L:List Nat)(c:Nat):(L.map nI).any (λd=>cC d (nI c))=decide (c∈L):=by
 induction L with
 |nil=>simp
 |cons a L ih=>
  rw[List.map_cons,List.any_cons,ih,fm,Bool.eq_iff_iff];simp only[Bool.or_eq_true,decide_eq_true_eq,List.mem_cons];exact or_congr_left eq_comm
theorem vS: ∀k l:List Int,ck (k.map D.int) (l.map D.int)=decide (k=l)
 | [],[]=>by simp[ck]
 | [],_::_=>by simp[ck]
 |_::_,[]=>by simp[ck]
 |a::k,b::l=>by
  rw[List.map_cons,List.map_cons];unfold ck;rw[vS k l,i0,Bool.eq_iff_iff];simp
theorem yd(k l:List Int):cC (xy k) (xy l)=decide (k=l):=by
 unfold xy cC;exact vS k l
theorem Ord.get {n:Nat}{o:List Nat}(O:Ord n o){i:Nat}(h:i<n):o.getD i 0<n:=by
 have ho:=O.len
 have:o.getD i 0=o[i]'(by omega):=by simp[List.getD,ho,h]
 rw[this];exact O.lt (List.getElem_mem _)
theorem Ord.inj {n:Nat}{o:List Nat}(O:Ord n o){i j:Nat}(hi:i<n)(hj:j<n)(e:o.getD i 0=o.getD j 0):i=j:=qA O.nd (by rw[O.len];exact hi) (by rw[O.len];exact hj) e
open PySem PySem.W PySem.Spec PyProof.Rows
theorem Inv.turnedL {X:Cx}{ae:List (Addr×Obj)}{σ:St}{H:Hp}{s:Shared}{h':Heap}{t':Nat}(L:List Addr)(I:Inv X ae σ H s)(hf: ∀b∈L,iu X ae H b)(k: ∀b o,b∉L->s.heap.get? b=some o->h'.get? b=some o):Inv X ae σ H {s with heap:=h',toks:=t'}:=by
 have nit: ∀b u,H b=some u->b∉L:=λb u e z=>by rw[(hf b z).1] at e;cases e
 have hL:X.env.locals∉L:=λz=>(hf _ z).2.1 rfl
 refine I.step (g':=s.gens) (d':=s.drawn) (ch:=L) (λb hb=>?_) (λb o _ _ hc e _=>k b o hc e) (λb o _ _ hc e _=>⟨o.slots,k b o hc e⟩) (λ_ _ _ _ n=>n)
  (λb o hc e=>⟨o,k b o hc e⟩) (λ_ _ e=>e) (λ_ _ _ e=>e) (λb ps e=>⟨#[],by rw[e];simp⟩) (λm hm=>?_) (λb u e=>?_) I.bare
 ·obtain⟨f0,f1,f2,f3,f4,f5⟩:=hf b hb
  exact⟨f3,f1,f4,f5⟩
 ·obtain⟨o,es,ep,ho,r⟩:=hm
  exact⟨o,es,ep,k _ o hL ho,r⟩
 ·refine(I.hok b u e).stay (λc v hc q=>k c v ?_ q) (λ_ q=>q) λ_ _ q=>q
  rcases hc with z|z
  ·rw[z];exact nit b u e
  ·exact nit c _ z
section
variable {X:Cx}{c:Ct}{k:Kd}{es:List Expr}{x1:Nat}{tp pos p:Pos}
def pY(xs ys:List D):List D:=(List.range (min xs.length ys.length)).map λ(i:Nat)=>D.tup [xs.getD i .non,ys.getD i .non]
theorem um(n l1 l2:Nat)(h1:l1<n)(h2:l2<n):ZipApart (n+4) (n+2) (n+3) n (n+1) l1 l2:=by
 constructor<;>(show¬ @Eq Nat _ _)<;>omega
end
section
variable {X:Cx}{c:Ct}{a b e:Expr}{f g:FE}{pos p p2 p3:Pos}{k:Kd}
def yN(K:W.Frag):R2:=λx y H Q=> ∃l b xs zs,x=.ref l/\y=.ref b/\SqL K H l xs/\SqL K H b zs/\xs.length+zs.length<=sizeLine/\ ∀p,H p=none->Q (.ref p) (cF H p (.lst (xs++zs)))
theorem wC:ji X (binaryOp .Add) (yN X.K):=by
 intro ae s σ H x y v u Q I rx ry h;obtain⟨l,b,xs,zs,rfl,rfl,hL,hB,hz,q⟩:=h
 cases rx
 cases ry
 obtain⟨its,r,⟨o,n,e,c1,d1,t1⟩,z1⟩:=I.list hL
 obtain⟨its2,r2,⟨o2,n2,e2,c2,d2,t2⟩,z2⟩:=I.list hB
 obtain⟨oc,od,ot,sl⟩:=o
 obtain⟨oc2,od2,ot2,sl2⟩:=o2
 dsimp only at c1 d1 t1 c2 d2 t2;subst c1 d1 t1 c2 d2 t2;have hl:=r.length
 have hl2:=r2.length
 refine concat_meets ⟨_,e,rfl⟩ ⟨_,e2,rfl⟩ noFill_list_add seq_list_add PySem.F.slot_list_add PySem.F.entry_list_add (PySem.F.args_list_add_2 _ _) (list_addW l b its.toArray its2.toArray n n2 none none sl sl2 (by rw[List.size_toArray,List.size_toArray];omega)) ⟨e,e2,?_⟩
 have ea:its.toArray++its2.toArray=(its++its2).toArray:=by simp
 rw[ea];exact⟨.ref _,_,I.lnew (t':=s.toks) (r.append r2) (by rw[List.length_append];omega),rfl,q _ I.fresh⟩
def fL:D->D->Option D
 | .lst xs,.lst ys=>if xs.length+ys.length<=sizeLine then some (.lst (xs++ys)) else none
 |_,_=>none
theorem yb {K:W.Frag}:jY K .n (yN K) fL:=by
 intro H hid v u x y d Q hf h r1 r2 q;unfold fL at h;split at h
 ·split at h
  ·rename_i hz
   cases h
   obtain⟨a,xs,rfl,h1,h2⟩:=r1.lst
   obtain⟨b,ys,rfl,h3,h4⟩:=r2.lst
   exact⟨a,b,xs,ys,rfl,rfl,h1,h3,by rw[h2.length,h4.length];exact hz,λp hp=>q _ _ (bc hp _) (gA hp (Same.refl _) (h2.append h4))⟩
  ·cases h
 ·cases h
theorem ia {k1 k2:Kd}(ha:DP X c k1 a f)(hb:DP X c k2 b g):DP X c .n (.BinOp a .Add b pos) (aj fL f g):=jP wC yb ha hb
end
abbrev ou:List Value:=[.type "ValueError",.type "Exception",.type "BaseException",.type "object"]
structure ExcC(K:W.Frag)(C:Addr):Prop where
 ga:W.findIn K (.ref C) "__getattribute__"=some (some (.builtin "BaseException.__getattribute__"))
 gt:W.findIn K (.ref C) "__getattr__"=some none
 cl:W.findIn K (.ref C) "__class__"=some (some (.builtin "object.__class__"))
 sp:W.specialIn K (.builtin "object.__class__") "__get__"=some (some (.builtin "getset_descriptor.__get__"))
 tk:W.takesIn K (.builtin "object.__class__")=some true
 mo:W.mroIn K C (.type "object")=some true
 mb:W.mroIn K C (.type "BaseException")=some true
section
variable {K:W.Frag}{C:Addr}{prog:Program}{w:World}{A:Around}{E:Value->Shared->Prop}{s:Shared}{a:Addr}{o:Obj}
theorem ExcC.cls(X:ExcC K C): ∃cd,W.clsIn K C=some cd:=by
 obtain⟨cd,h,_⟩:=Option.bind_eq_some_iff.mp X.mo
 exact⟨cd,h⟩
theorem uQ(X:ExcC K C):W.findObj K C none "__class__"=some (.bind (.builtin "getset_descriptor.__get__") (.builtin "object.__class__")):=by
 obtain⟨cd,hc⟩:=X.cls
 unfold W.findObj;rw[hc,Option.bind_some,X.cl,Option.bind_some];dsimp only;rw[X.sp,Option.bind_some];dsimp only;rw[X.tk,Option.bind_some]
theorem uc(X:ExcC K C)(KI:K.In s.heap)(I:W.InstAt s.heap a o C none){Q:Option Value->Shared->Prop}(h:Q (some (.ref C)) {s with toks:=s.toks+1}):
 wpAny (model prog w) A (getAttr? (.ref a) "__class__") Q E s:=by
 obtain⟨hh,g,d,t,os⟩:=s
 have L0:=I.type (M:=model prog w)
 have L1:=W.looks_findIn (M:=model prog w) KI X.ga
 have L2:=W.looks_findIn (M:=model prog w) KI X.gt
 have L3:=W.looks_find (M:=model prog w) KI I (uQ X)
 have L4:=W.looks_mroIn (M:=model prog w) KI X.mb
 have f3:=F.attrBase_ValueError.ga.bind (.ref a)
 unfold getAttr? getAttrBy? getAttrBy;refine wpAny_bind (wpAny_mkText (wpAny_bind (wpAny_attempt (wpAny_holding (wpAny_bind (L0.at (wpAny_bind (L1.at ?_))))))))
 dsimp only;have hx2:(Value.builtin "BaseException.__getattribute__"==Value.builtin "object.__getattribute__")=false:=by decide+kernel
 rw[if_neg (by rw[hx2];simp)]
 unfold getAttrByItsOwn hookBefore callGetattribute boundAndCalled;refine wpAny_bind ?_
 show wpAny _ _ (typeLookup (.ref C) "__getattr__") _ _ _;refine L2.at ?_
 refine wpAny_bind (wpAny_attempt (wpAny_holding ?_))
 simp only[Bool.false_and,Bool.false_eq_true,if_false];rw[f3];refine wpAny_bind (wpAny_pure ?_)
 dsimp only;refine wpAny_call (codeAny_call_builtin F.attrBase_ValueError.ga.plain F.entry_bexc_ga ?_)
 have hk:builtinKind "BaseException.__getattribute__"=some .slot:=by decide+kernel
 have hsplit:splitId "BaseException.__getattribute__"=some ("BaseException","__getattribute__"):=by decide+kernel
 have ha:=F.args_bexc_ga (.ref a) (.str "__class__" t)
 show wpAny _ _ (checkBuiltinCall "BaseException.__getattribute__" ⟨[.ref a,.str "__class__" t],[]⟩) _ _ _;simp only[checkBuiltinCall,hk,hsplit];have LI:W.Looks (model prog w) hh (isInstance (.ref a) (.type "BaseException")) true:=L0.andThen L4
 refine wpAny_bind (LI.at ?_)
 rw[if_neg (by simp)]
 refine wpAny_of_eq (a:=()) ha ?_
 unfold Builtin.«object.__getattribute__»;refine wpAny_bind (wpAny_pure (a:=(Value.ref a,[Value.str "__class__" t])) ?_)
 dsimp only;refine wpAny_bind (wpAny_pure (a:=("__class__":Str)) ?_)
 refine wpAny_bind (L0.at (wpAny_bind (L3.at ?_)))
 dsimp only;show wpAny _ _ (do let v <-holding [Value.builtin "object.__class__"] (call (.builtin "getset_descriptor.__get__") [.builtin "object.__class__",.ref a,.ref C]);ret v) _ _ _
 refine wpAny_bind (wpAny_holding (wpAny_call (W.class_get (K:=K) (ox:=o) (od:=none) KI I X.mo ?_)))
 refine wpAny_pure ?_
 dsimp only;exact wpAny_of_eq (a:=Value.ref C) rfl (wpAny_pure h)
theorem nq(X:ExcC K C):W.KitX K (.ref a) (.ref C) (λh=> ∃o,W.InstAt h a o C none) where
 ty:=λ_ _ _ I=>let⟨_,I⟩:=I;I.type
 it:=λ_ _ KI _=>by
  obtain⟨cd,hc⟩:=X.cls
  unfold W.clsIn at hc;split at hc
  ·rename_i c' d' cd' sl' ho
   intro A' Q' E' s' k q;unfold isType loadHead;exact wpAny_bind (wpAny_loadPart (k _ _ (KI _ _ ho)) (wpAny_pure q))
  ·cases hc
 ne:=λh tp dd its n sl KI htp=>by
  obtain⟨cd,hc⟩:=X.cls
  refine Bool.eq_false_iff.mpr λq=>?_
  have e:C=tp:=Value.ref.inj (beq_iff_eq.mp q)
  subst e;unfold W.clsIn at hc;split at hc
  ·rename_i c' d' cd' sl' ho
   have z:=(KI _ _ ho).symm.trans htp
   cases z
  ·cases hc
 ca:=λKI I k=>let⟨_,I⟩:=I;uc X KI I k
end
def Trc(h B:Heap)(e:Addr)(o0:Obj):Prop:=
 ∃vs T oT ts,h.get? e=some {o0 with data:=.fields vs}/\vs[1]? =some (.ref T)/\B.get? T=none/\T≠e/\h.get? T=some oT/\oT.data=.fields ts/\ts[3]? =some .none
def Ds(h:Heap)(e:Addr)(o0:Obj):Prop:= ∃vs,h.get? e=some {o0 with data:=.fields vs}/\vs[1]? =some .none
structure InFl(B:Heap)(l:List Env)(e:Addr)(o0:Obj)(h:Heap):Prop where
 st:B.StaysIn h
 ne:B.get? e=none
 ff:h.FunFrames B l
 tr:Trc h B e o0\/Ds h e o0
section
variable {M:Model}{A:Around}{E:Value->Shared->Prop}{s:Shared}{B:Heap}{env:Env}{outer:List Env}{L e:Addr}{o0:Obj}
theorem oP {vs:Array Value}{head:Value}{hn:Bool}{Q:Unit->Shared->Prop}(hfr:A.frames=some (env::outer))(hl:s.heap.FunFrames B (env::outer))(hf:env.frame=some L)
 (he:s.heap.get? e=some {o0 with data:=.fields vs}) (hsz:1<vs.size) (hB:B.StaysIn s.heap) (ne:B.get? e=none)
 (h: ∀h',InFl B (env::outer) e o0 h'->Trc h' B e o0->s.heap.UpToSlots h'->Q () {s with heap:=h'}):
 wpAny M A (do let a <-frameOf env;let pl <-entryPlaceOf L hn;let b <-EntryCells.newEntry head a .none (rawInt L) .none pl;setField (.ref e) 1 b) (λ_ s'=>wpAny M A (setFlight (.ref e) none) Q E s') E s:=by
 have hne:e∉gJ (env::outer):=λhm=>by
  obtain⟨_,o,ho,nf⟩:=hl.mem hm
  rw[he] at ho;cases ho;exact nf vs rfl
 refine wpAny_bind (wpAny_frameOf_fun hfr hl hf λh1 k1=>wpAny_bind (wpAny_entryPlaceOf λpl hp=>?_))
 unfold EntryCells.newEntry newFields;refine wpAny_bind (wpAny_newObj_type ?_ (hp.sizeOk5 _ _ _ _ _))
 have e1:h1.get? e=some {o0 with data:=.fields vs}:=(k1.2.1 e hne).trans he
 generalize hten:([head,.ref L,.none,rawInt L,.none]++(if pl.isEmpty then List.replicate 6 Value.none else pl)).toArray=ten
 have tsz:3<ten.size:=by rw[<-hten];simp only[List.size_toArray,List.length_append,List.length_cons,List.length_nil];omega
 generalize hT:h1.objs.size=T
 have Tn:h1.get? T=none:=by rw[<-hT];exact Heap.get?_none_of_le (Nat.le_refl _)
 have Te:T≠e:=λq=>by rw[q,e1] at Tn;cases Tn
 have e2:(h1.push {cls:=.type "traceback",dict:=none,data:=.fields ten}).get? e=some {o0 with data:=.fields vs}:=Heap.get?_push_of_some _ e1
 have t2:(h1.push {cls:=.type "traceback",dict:=none,data:=.fields ten}).get? T=some {cls:=.type "traceback",dict:=none,data:=.fields ten}:=by rw[<-hT];exact Heap.get?_push_size h1 rfl
 refine wpAny_setField e2 rfl hsz ?_
 have e3:=Heap.get?_update_self (Obj.mapFields (·.setIfInBounds 1 (Value.ref T))) e2 (Obj.isFreed_of_fields rfl)
 have t3:=(Heap.get?_update_other (h1.push {cls:=.type "traceback",dict:=none,data:=.fields ten}) (Obj.mapFields (·.setIfInBounds 1 (Value.ref T))) (Ne.symm Te)).trans t2
 unfold setFlight;refine wpAny_bind (wpAny_field e3 rfl (x:=.ref T) (by simp[hsz]) ?_)
 rw[if_pos (by simp:(Value.ref T !=Value.none)=true)]
 refine wpAny_setField t3 rfl tsz ?_
 have kp: ∀b o,b≠e->h1.get? b=some o->(((h1.push {cls:=.type "traceback",dict:=none,data:=.fields ten}).update e (Obj.mapFields (·.setIfInBounds 1 (Value.ref T)))).update T
  (Obj.mapFields (·.setIfInBounds 3 ((none:Option Addr).elim Value.none λf=>rawInt f)))).get? b=some o:=λb o nb hb=>by
  rw[Heap.get?_update_other _ _ (λq=>by rw[<-q,Tn] at hb;cases hb),Heap.get?_update_other _ _ (Ne.symm nb)]
  exact Heap.get?_push_of_some _ hb
 have nr: ∀b o,s.heap.get? b=some o->(∀vs,o.data≠ .fields vs)->b≠e:=λb o hb nf q=>by
  rw[q,he] at hb;cases hb;exact nf vs rfl
 have B1:B.StaysIn h1:=λb o hb=>(k1.2.1 b λhm=>by rw[(hl.mem hm).1] at hb;cases hb).trans (hB b o hb)
 have TB:B.get? T=none:=by
  cases q:B.get? T with
  |none=>rfl
  |some o=>rw[B1 T o q] at Tn;cases Tn
 have tr:Trc (((h1.push {cls:=.type "traceback",dict:=none,data:=.fields ten}).update e (Obj.mapFields (·.setIfInBounds 1 (Value.ref T)))).update T
  (Obj.mapFields (·.setIfInBounds 3 ((none:Option Addr).elim Value.none λf=>rawInt f)))) B e o0:=
  ⟨_,T,_,_,(Heap.get?_update_other _ _ Te).trans e3,by simp[hsz],TB,Te,Heap.get?_update_self _ t3 (Obj.isFreed_of_fields rfl),rfl,by simp[tsz]⟩
 refine h _ ⟨λb o hb=>kp b o (λq=>by rw[q,ne] at hb;cases hb) (B1 b o hb),ne,hl.of_keeps λb o hb nf=>?_,.inl tr⟩ tr λb o hb nf=>?_
 ·obtain⟨sl,q⟩:=k1.2.2 b o hb
  exact⟨_,kp b _ (nr b o hb nf) q,rfl⟩
 ·obtain⟨sl,q⟩:=k1.2.2 b o hb
  exact⟨sl,kp b _ (nr b o hb nf) q⟩
theorem rX {Q:Unit->Shared->Prop}(hfr:A.frames=some (env::outer))(hf:env.frame=some L)(x:InFl B (env::outer) e o0 s.heap)
 (h: ∀h',InFl B (env::outer) e o0 h'->Trc h' B e o0->s.heap.UpToSlots h'->Q () {s with heap:=h'}):
 wpAny M A (noteFrame (.ref e) env) (λ_ s'=>wpAny M A (setFlight (.ref e) none) Q E s') E s:=by
 obtain⟨st,ne,ff,tr⟩:=x
 unfold noteFrame;simp only[hf];rcases tr with⟨vs,T,oT,ts,he,h1,TB,Te,hT,hd,h3⟩|⟨vs,he,h1⟩
 ·refine wpAny_bind (wpAny_field he rfl h1 ?_)
  rw[if_pos (by simp:(Value.ref T !=Value.none)=true)]
  refine wpAny_bind (wpAny_field hT hd h3 ?_)
  rw[if_neg (by simp[rawInt]: ¬((Value.none==rawInt L)=true))]
  refine wpAny_bind (wpAny_setField hT hd (Array.getElem?_eq_some_iff.mp h3).1 ?_)
  have ot: ∀b,b≠T->(s.heap.update T (Obj.mapFields (·.setIfInBounds 3 Value.none))).get? b=s.heap.get? b:=λb nb=>Heap.get?_update_other _ _ (Ne.symm nb)
  have nr: ∀b o,s.heap.get? b=some o->(∀vs,o.data≠ .fields vs)->b≠T:=λb o hb nf q=>by
   rw[q,hT] at hb;cases hb;exact nf ts hd
  exact oP hfr (ff.of_keeps λb o hb nf=>⟨o,(ot b (nr b o hb nf)).trans hb,rfl⟩) hf ((ot e (Ne.symm Te)).trans he) (Array.getElem?_eq_some_iff.mp h1).1
   (λb o hb=>(ot b λq=>by rw[q,TB] at hb;cases hb).trans (st b o hb)) ne λh' x1 x2 x3=>h h' x1 x2 λb o hb nf=>x3 b o ((ot b (nr b o hb nf)).trans hb) nf
 ·refine wpAny_bind (wpAny_field he rfl h1 ?_)
  rw[if_neg (by decide)]
  exact oP hfr ff hf he (Array.getElem?_eq_some_iff.mp h1).1 st ne h
theorem vh {Q:Unit->Shared->Prop}(hfr:A.frames=some (env::outer))(hf:env.frame=some L)(x:InFl B (env::outer) e o0 s.heap)
 (h: ∀h',InFl B outer e o0 h'->s.heap.UpToSlots h'->Q () {s with heap:=h'}):wpAny M A (leaving env (.ref e)) Q E s:=by
 unfold leaving;exact wpAny_bind (rX hfr hf x λh' x1 _ x3=>h h' ⟨x1.st,x1.ne,x1.ff.2.2,x1.tr⟩ x3)
theorem x6 {Q:Unit->Shared->Prop}{l:List Env}(x:InFl B l e o0 s.heap)(t:Trc s.heap B e o0)
 (h: ∀h',InFl B l e o0 h'->Trc h' B e o0->s.heap.UpToSlots h'->Q () {s with heap:=h'}):wpAny M A (setFlight (.ref e) none) Q E s:=by
 obtain⟨vs,T,oT,ts,he,h1,TB,Te,hT,hd,h3⟩:=t
 have sz:=(Array.getElem?_eq_some_iff.mp h3).1
 unfold setFlight;refine wpAny_bind (wpAny_field he rfl h1 ?_)
 rw[if_pos (by simp:(Value.ref T !=Value.none)=true)]
 refine wpAny_setField hT hd sz ?_
 have ot: ∀b,b≠T->(s.heap.update T (Obj.mapFields (·.setIfInBounds 3 ((none:Option Addr).elim Value.none λf=>rawInt f)))).get? b=s.heap.get? b:=λb nb=>Heap.get?_update_other _ _ (Ne.symm nb)
 have nr: ∀b o,s.heap.get? b=some o->(∀vs,o.data≠ .fields vs)->b≠T:=λb o hb nf q=>by
  rw[q,hT] at hb;cases hb;exact nf ts hd
 have tr:Trc (s.heap.update T (Obj.mapFields (·.setIfInBounds 3 ((none:Option Addr).elim Value.none λf=>rawInt f)))) B e o0:=
  ⟨vs,T,_,_,(ot e (Ne.symm Te)).trans he,h1,TB,Te,Heap.get?_update_self _ hT (Obj.isFreed_of_fields (Obj.data_mapFields hd _)),Obj.data_mapFields hd _,by simp[sz]⟩
 exact h _ ⟨λb o hb=>(ot b λq=>by rw[q,TB] at hb;cases hb).trans (x.st b o hb),x.ne,x.ff.of_keeps λb o hb nf=>⟨o,(ot b (nr b o hb nf)).trans hb,rfl⟩,.inl tr⟩ tr λb o hb nf=>⟨o.slots,(ot b (nr b o hb nf)).trans hb⟩
end
theorem sV {h base g:Heap}{F:List Addr}: ∀ {l:List Env},h.FunFrames base l->(∀b∈gJ l,b∈F)->h.FunFrames (W.hideAll g F) l
 | [],_,_=>trivial
 |env::r,⟨hk,⟨L,o,hf,hn,ho,hd⟩,hr⟩,hF=>by
  refine⟨hk,⟨L,o,hf,W.hideAll_none F (hF L ?_),ho,hd⟩,sV hr λb hb=>hF b ?_⟩
  ·unfold gJ;rw[List.filterMap_cons,hf];exact List.mem_cons_self
  ·unfold gJ;rw[List.filterMap_cons,hf];exact List.mem_cons_of_mem _ hb
def Away(X:Cx)(ae:List (Addr×Obj))(H:Hp)(F:List Addr):Prop:=(∀b∈gJ X.stack,b∈F)/\
 ∀b∈F,b∉gJ X.stack->X.s₀.heap.objs.size<=b/\H b=none/\b≠X.env.locals/\(∀x c,X.env.cells.lookup x=some c->c≠b)/\ ∀p∈X.pn++ae,p.1≠b
section
variable {X:Cx}{ae:List (Addr×Obj)}{σ:St}{H:Hp}{s:Shared}{F:List Addr}{h':Heap}
theorem Away.free(w:Away X ae H F)(I:Inv X ae σ H s){b:Addr}(hb:b∈F):H b=none:=by
 by_cases q:b∈gJ X.stack
 ·exact I.stkFree b q
 ·exact(w.2 b hb q).2.1
theorem Inv.flown(I:Inv X ae σ H s)(w:Away X ae H F)(st:(W.hideAll s.heap F).StaysIn h')(up:s.heap.UpToSlots h'):Inv X ae σ H {s with heap:=h'}:=by
 have kp: ∀b o,s.heap.get? b=some o->b∉F->h'.get? b=some o:=λb o e n=>st b o (W.hideAll_get _ e n)
 have fr: ∀b∈gJ X.stack,∃o,s.heap.get? b=some o/\ ∀vs,o.data≠ .fields vs:=λb hb=>(I.stack.mem hb).2
 refine I.call' (s':={s with heap:=h'}) (ch:=F.filter λb=>decide (b∉gJ X.stack)) rfl ⟨?_,?_,λ_ _ _ n _=>n,?_,λ_ _ q=>q,λ_ _ _ q=>q,λ_ ps q=>⟨#[],by rw[q];simp⟩⟩ ?_ I.bare ?_
 ·intro b o e n hb hc
  refine kp b o e λhF=>hc ?_
  rw[List.mem_filter,decide_eq_true_eq];exact⟨hF,hb⟩
 ·intro b o e n hb hc
  obtain⟨o',e',nf⟩:=fr b hb
  rw[e] at e';cases e';exact up b o e nf
 ·intro b o e hc
  by_cases hF:b∈F
  ·by_cases hs:b∈gJ X.stack
   ·obtain⟨o',e',nf⟩:=fr b hs
    obtain⟨sl,q⟩:=up b o' e' nf
    exact⟨_,q⟩
   ·exact absurd (by rw[List.mem_filter,decide_eq_true_eq];exact⟨hF,hs⟩) hc
  ·exact⟨o,kp b o e hF⟩
 ·intro a o e
  refine(I.hok a o e).stay (λb u hb q=>kp b u q λhF=>?_) (λ_ q=>q) λ_ _ q=>q
  have:=w.free I hF
  rcases hb with rfl|hb
  ·rw[e] at this;cases this
  ·rw[hb] at this;cases this
 ·intro b hb
  rw[List.mem_filter,decide_eq_true_eq] at hb;obtain⟨q1,q2,q3,q4,q5⟩:=w.2 b hb.1 hb.2
  exact⟨.inr q1,q3,q4,q5⟩
end
def XS(X:Cx)(ae:List (Addr×Obj))(σ:St)(H:Hp)(o0:Obj)(ea:Addr)(s':Shared):Prop:=
 ∃(g:Heap) (F:List Addr),Inv X ae σ H {s' with heap:=g}/\Away X ae H F/\InFl (W.hideAll g F) X.stack ea o0 s'.heap/\g.UpToSlots s'.heap/\g.get? ea=none
theorem XS.inv {X:Cx}{ae:List (Addr×Obj)}{σ:St}{H:Hp}{o0:Obj}{ea:Addr}{s':Shared}(x:XS X ae σ H o0 ea s'):Inv X ae σ H s':=by
 obtain⟨g,F,I,w,fl,up,_⟩:=x
 exact I.flown (s:={s' with heap:=g}) w fl.st up
def Ci(P:Program)(w:World)(G:Addr->Obj->Prop):oh:=λouter H s E e s'=>
 ∃(ea:Addr) (o0:Obj) (C:Addr) (g:Heap) (F:List Addr) (H':Hp),e=.ref ea/\o0.cls=.ref C/\G C o0/\s'.os=s.os/\AllBare s'.gens/\Un (gJ outer) [] H H' s.heap g/\HOk P w H' g/\
  InFl (W.hideAll g F) outer ea o0 s'.heap/\g.UpToSlots s'.heap/\(∀b∈gJ outer,b∈F)/\(∀b∈F,H' b=none/\(b∉gJ outer->s.heap.objs.size<=b))/\g.get? ea=none/\E (.ref C) none H'
theorem xZ {X:Cx}{ae:List (Addr×Obj)}{σ:St}{H:Hp}{s s':Shared}{G:Addr->Obj->Prop}{E:XK}{e:Value}(I:Inv X ae σ H s)(h:Ci X.prog X.w G X.stack H s E e s'):
 ∃ea o0 C H',e=.ref ea/\o0.cls=.ref C/\G C o0/\XS X ae σ H' o0 ea s'/\E (.ref C) none H':=by
 obtain⟨ea,o0,C,g,F,H',rfl,hc,hG,os,bare,un,hok,fl,up,hF,aw,gn,hE⟩:=h
 have J:Inv X ae σ H' {s' with heap:=g}:=I.call' (s':={s' with heap:=g}) (ch:=[]) os un hok bare λb z=>absurd z (by simp)
 refine⟨ea,o0,C,H',rfl,hc,hG,⟨g,F,J,⟨hF,λb hb nb=>?_⟩,fl,up,gn⟩,hE⟩
 have sz:=(aw b hb).2 nb
 have lt: ∀ {c o},s.heap.get? c=some o->c≠b:=λ{c o} q z=>by subst z;exact absurd (Heap.lt_size q) (Nat.not_lt.mpr sz)
 refine⟨Nat.le_trans I.sz sz,(aw b hb).1,λz=>?_,λx c q=>?_,λp hp=>?_⟩
 ·have:=I.lt
  rw[<-z] at this;exact absurd this (Nat.not_lt.mpr sz)
 ·obtain⟨v,o,ho,_⟩:=I.cell x c q
  exact lt ho
 ·exact lt (I.pin p hp).1
theorem uV {CX:oh}{P:Program}{w:World}{K:W.Frag}{mg:Str->Option Value}{base:Heap}{N:List Str}{qual:Str}{scope:Scope}{f:Addr}{cd:Value}{A:Around}{outer:List Env}{s:Shared}{H:Hp}{E:XK}{G:Addr->Obj->Prop}
 {ae:List (Addr×Obj)} {σ:St} {H':Hp} {o0:Obj} {ea C:Addr} {s':Shared} (x:XS (jI CX P w K mg base N qual scope f cd A outer s H E) ae σ H' o0 ea s') (hc:o0.cls=.ref C) (hG:G C o0) (hE:E (.ref C) none H') {Q:Unit->Shared->Prop} {E':Value->Shared->Prop}
 (q: ∀s'',Ci P w G outer H s E (.ref ea) s''->Q () s''):wpAny (model P w) (A.deeper (envOfC qual scope s.heap.objs.size f cd)) (leaving (envOfC qual scope s.heap.objs.size f cd) (.ref ea)) Q E' s':=by
 obtain⟨g,F,I,aw,fl,up,gn⟩:=x
 refine vh (L:=s.heap.objs.size) I.ok.frames rfl fl λh' fl' up'=>q _ ?_
 have L:(jI CX P w K mg base N qual scope f cd A outer s H E).stack=envOfC qual scope s.heap.objs.size f cd::outer:=rfl
 have sub: ∀b∈gJ outer,b∈gJ (envOfC qual scope s.heap.objs.size f cd::outer):=λb hb=>by
  unfold gJ;rw[List.filterMap_cons];exact List.mem_cons_of_mem _ hb
 refine⟨ea,o0,C,g,F,H',rfl,hc,hG,I.os,I.bare,I.base,I.hok,fl',up.trans up',λb hb=>aw.1 b (sub b hb),λb hb=>⟨aw.free I hb,λnb=>?_⟩,gn,hE⟩
 by_cases z:b∈gJ (envOfC qual scope s.heap.objs.size f cd::outer)
 ·have:b=s.heap.objs.size\/b∈gJ outer:=by
   unfold gJ at z;rw[List.filterMap_cons] at z;exact List.mem_cons.mp z
  rcases this with rfl|q
  ·exact Nat.le_refl _
  ·exact absurd q nb
 ·exact(aw.2 b hb z).1
structure Ex where
 x:Str
 n:Int
abbrev sA(K:W.Frag)(z:Ex)(C:Addr):Prop:=W.nsIn K mainGlobals z.x=some (some (.ref C))
def G0:Addr->Obj->Prop:=λ_ o0=>o0.dict=none
abbrev BG(P:Program)(w:World):oh:=Ci P w G0
def EX(X:Cx)(σ:St):XK:=λv _ H'=> ∀ae ea o0 s',o0.cls=v->o0.dict=none->XS X ae σ H' o0 ea s'->X.xe (.ref ea) s'
abbrev RE:=aB->Option (Except Ex D)
abbrev RA:=aB->Option (Except Ex (List D))
def Dh(X:Cx)(c:Ct)(hid:bF)(k:Kd)(f:RE)(ρ:aB):TE:=λσ H Q=>SR X.K c hid ρ σ H/\ ∃r,f ρ=some r/\match r with
 | .ok d=> ∀v H',Same H H'->RK X.K k H H' hid v d->Q v H'
 | .error z=> ∀C H',Same H H'->sA X.K z C->EX X σ (.ref C) none H'
def DR(X:Cx)(c:Ct)(k:Kd)(e:Expr)(f:RE):Prop:= ∀hid ρ,PE X e (Dh X c hid k f ρ)
def CU(X:Cx)(c:Ct)(hid:bF)(f:RA)(ρ:aB):TA:=λσ H Q=>SR X.K c hid ρ σ H/\ ∃r,f ρ=some r/\match r with
 | .ok ds=> ∀vs H',Same H H'->Reps X.K (vw H' hid) vs ds->Q vs H'
 | .error z=> ∀C H',Same H H'->sA X.K z C->EX X σ (.ref C) none H'
def Dg(X:Cx)(c:Ct)(es:List Expr)(f:RA):Prop:= ∀hid ρ,PA X es (CU X c hid f ρ)
section
variable {X:Cx}{c:Ct}{e a b:Expr}{es rest:List Expr}{k:Kd}{pos p:Pos}{x:Str}{f:Addr}{fd:FuncData}{ps:List Str}{j n:Nat}
def ug(f:FA):RA:=λρ=>(f ρ).map .ok
theorem DA.rr {f:FA}(h:DA X c es f):Dg X c es (ug f):=λhid ρ=>PA.imp (h hid ρ) λσ H Q hq_=>by
 obtain⟨sr,r,hr,q⟩:=hq_
 unfold ug at hr;cases e1:f ρ with
 |none=>rw[e1] at hr;cases hr
 |some d=>rw[e1] at hr;cases hr;exact⟨sr,d,e1,q⟩
def BB(K:W.Frag)(k:Kd)(n:Nat)(P:List D->Option (Except Ex D)):Sp:=λvs H Q E=> ∃hid ds,yK hid H/\Reps K (vw H hid) vs ds/\ds.length=n/\ ∃r,P ds=some r/\match r with
 | .ok d=> ∀v H',Same H H'->RK K k H H' hid v d->Q v H'
 | .error z=> ∀C H',Same H H'->sA K z C->E (.ref C) none H'
structure ClX(P:Program)(w:World)(K:W.Frag)(mg:Str->Option Value)(base:Heap)(k:Nat)(x:Str)(ps:List Str)(sp:Sp):Prop where
 ex: ∃f fd,FnOk P w K mg base (BG P w) k f fd ps sp/\mg x=some (.ref f)/\W.keepIn K (.ref f)=true/\Binds K fd ps []
theorem yg {sp:Sp}{ae:List (Addr×Obj)}{σ:St}{H:Hp}{s:Shared}{Q:VK}{us:List Value}{vs:List V}(F:FnOk X.prog X.w X.K X.mg X.base (BG X.prog X.w) j f fd ps sp)(hr:Room j X.A)(hb:Binds X.K fd ps [])
 (I:Inv X ae σ H s) (r:Vals vs us) (h:sp vs H Q (EX X σ)):wpAny (model X.prog X.w) X.A (call (.ref f) us) (EP X ae σ Q) X.xe s:=by
 have hl:(us++[]).length=ps.length:=by rw[List.append_nil,<-r.length];exact F.len _ _ _ _ h
 have hb':=hb s us I.kIn hl
 rw[List.append_nil] at hb';refine wpAny_call (codeAny_mono (F.run X.A X.stack s H ⟨us,[]⟩ us vs Q (EX X σ) hr I.env0 hb' r h) λr s' hq=>?_)
 cases r with
 |error e=>
  obtain⟨ea,o0,C,H',rfl,hc,hG,xs,hE⟩:=xZ I hq
  exact hE ae ea o0 s' hc hG xs
 |ok fl=>
  cases fl with
  |ret u=>exact I.after hq
  |next=>exact False.elim hq
  |brk=>exact False.elim hq
  |cont=>exact False.elim hq
theorem vG {sp:Sp}{t:TA}(F:FnOk X.prog X.w X.K X.mg X.base (BG X.prog X.w) j f fd ps sp)(hr:Room j X.A)(hg:Gl X x)(hm:X.mg x=some (.ref f))(hk:W.keepIn X.K (.ref f)=true)(hb:Binds X.K fd ps [])
 (ha:PA X (e::es) t) (hdb:(x==("__debug__":Str))=false:=by decide) (he:starEach (e::es) X.env=(false,eval e X.env)::starEach es X.env:=by rfl) (hpl:(backTo pos (starEach es X.env)).any (·.1)=false:=by rfl):
 PE X (.Call (.Name x p) (e::es) [] pos) (λσ H Q=>t σ H λvs H1=>sp vs H1 Q (EX X σ)):=by
 intro ae s σ H Q I h;refine wpAny_Call_Name_kw (ip I hg hm ?_ hdb)
 refine W.callWith_K (h₀:=X.base) I.ok.mod.kin hk (cm (ha pos ae s σ H _ I h) λus s1 ⟨vs,H1,I1,r,q⟩=>⟨I1.kIn,?_⟩) he hpl
 exact yg F hr hb I1 r q
def mJ(n:Nat)(P:List D->Option (Except Ex D))(fs:RA):RE:=λρ=>(fs ρ).bind λq=>match q with
 | .error z=>some (.error z)
 | .ok ds=>if ds.length=n then P ds else none
theorem Bp {P:List D->Option (Except Ex D)}{fs:RA}(F:ClX X.prog X.w X.K X.mg X.base j x ps (BB X.K k n P))(hr:Room j X.A)(ha:Dg X c (e::es) fs)
 (hg:Gl X x:=by rfl) (hdb:(x==("__debug__":Str))=false:=by decide) (he:starEach (e::es) X.env=(false,eval e X.env)::starEach es X.env:=by rfl) (hpl:(backTo pos (starEach es X.env)).any (·.1)=false:=by rfl):
 DR X c k (.Call (.Name x p) (e::es) [] pos) (mJ n P fs):=λhid ρ=>by
 obtain⟨f,fd,F,hm,hk,hb⟩:=F.ex
 refine PE.imp (vG F hr hg hm hk hb (ha hid ρ) hdb he hpl) λσ H Q hq_=>?_
 obtain⟨sr,r,h,q⟩:=hq_
 unfold mJ at h;cases e1:fs ρ with
 |none=>rw[e1] at h;cases h
 |some r1=>
  rw[e1] at h;refine⟨sr,r1,e1,?_⟩
  cases r1 with
  |error z=>cases h;exact q
  |ok ds=>
   have h:(if ds.length=n then P ds else none)=some r:=h
   split at h
   ·intro vs H1 s1 r1
    refine⟨hid,ds,(sr.ext s1).trk,r1, ‹_›,r,h,?_⟩
    cases r with
    |ok d=>exact λv H' s2 r2=>q v H' (s1.trans s2) (RK.left s1 r2)
    |error z=>exact λC H' s2=>q C H' (s1.trans s2)
   ·cases h
end
abbrev OX:=Except (Ex×aB) Out
abbrev FX:=aB->OX
def EndX(X:Cx)(c:Ct)(k:Kd)(D:Ends)(W:Hp):OX->Prop
 | .ok o=>EndOk X.K c k D W o
 | .error z=> ∀σ' H' hid' C,SR X.K c hid' z.2 σ' H'->Same W (vw H' hid')->sA X.K z.1 C->EX X σ' (.ref C) none H'
theorem EndX.mono {X:Cx}{c:Ct}{k:Kd}{D:Ends}{W W':Hp}{o:OX}(h:EndX X c k D W o)(s:Same W W'):EndX X c k D W' o:=by
 cases o with
 |ok o=>exact EndOk.mono h s
 |error z=>exact λσ' H' hid' C a b=>h σ' H' hid' C a (s.trans b)
def Ay(X:Cx)(c:Ct)(k:Kd)(t:FX)(ρ:aB):TS:=λD σ H=> ∃hid,SR X.K c hid ρ σ H/\EndX X c k D (vw H hid) (t ρ)
def Ar(X:Cx)(c:Ct)(k:Kd)(st:Stmt)(t:FX):Prop:= ∀ρ,PS X st (Ay X c k t ρ)
def nl(X:Cx)(c:Ct)(k:Kd)(st:List Stmt)(t:FX):Prop:= ∀ρ,PSs X st (Ay X c k t ρ)
section
variable {X:Cx}{c:Ct}{k:Kd}{st:Stmt}{sts rest:List Stmt}{t u:FX}{e:Expr}{pos pos' p:Pos}{x:Str}{i:Nat}
theorem PS.nox {t:TS}(h:PS X.nox st t):PS X st t:=λae s σ H D I hw=>
 wpAny_mono (h ae s σ H D (I.wish _) hw) (λ_ _ q=>q.unwish) λ_ _ z=>False.elim z
def pK(t:FS):FX:=λρ=>.ok (t ρ)
theorem lu {t:FS}(h:DS X.nox c k st t):Ar X c k st (pK t):=λρ=>PS.nox (h ρ)
theorem tM {t:FS}(h:oy X.nox c k sts t):nl X c k sts (pK t):=λρ=>PSs.nox (h ρ)
def jW(t u:FX):FX:=λρ=>match t ρ with
 | .ok (.nx ρ')=>u ρ'
 | .ok o=>.ok o
 | .error z=>.error z
theorem je(h:Ar X c k st t):nl X c k [st] t:=λρ=>sy (h ρ)
theorem fe(h1:Ar X c k st t)(h2:nl X c k rest u):nl X c k (st::rest) (jW t u):=λρ=>
 PSs.imp (oz (h1 ρ) (sa λρ1=>h2 ρ1)) λD σ H hq_=>by
  obtain⟨hid,sr,q⟩:=hq_
  refine⟨hid,sr,?_⟩
  unfold jW at q;cases e:t ρ with
  |error z=>rw[e] at q;exact q
  |ok o=>
   rw[e] at q;cases o with
   |nx ρ1=>exact λσ1 H1 hid1 sr1 v1=>⟨ρ1,hid1,sr1,EndX.mono q v1⟩
   |rt d ρ1=>exact q
   |bk ρ1=>exact q
   |ct ρ1=>exact q
   |no=>exact q
def uo(p:FT)(t u:FX):FX:=λρ=>match p ρ with
 |some true=>t ρ
 |some false=>u ρ
 |none=>.ok .no
theorem qp {p:FT}{a b:List Stmt}(hp:DT X c e p)(ha:nl X c k a t)(hb:nl X c k b u):Ar X c k (.If e a b pos) (uo p t u):=λρ=>
 PS.imp (yH (Ao λhid=>hp hid ρ) (ha ρ) (hb ρ)) λD σ H hq_=>by
  obtain⟨hid,sr,q⟩:=hq_
  cases e1:p ρ with
  |none=>unfold uo at q;rw[e1] at q;exact q.elim
  |some x=>
   refine⟨hid,sr,x,e1,λH1 s1=>?_⟩
   unfold uo at q;rw[e1] at q;cases x with
   |true=>exact mV ⟨hid,sr.ext s1,EndX.mono q (ba s1)⟩
   |false=>exact nE ⟨hid,sr.ext s1,EndX.mono q (ba s1)⟩
theorem kR:nl X c k [] (pK skip):=λρ=>PSs.imp sD λD σ H ⟨hid,sr,q⟩=>q σ H hid sr (Same.refl _)
theorem DT.nox {p:FT}(h:DT X.nox c e p):DT X c e p:=λhid ρ=>PT.nox (h hid ρ)
def qC(f:RE):FX:=λρ=>match f ρ with
 |some (.ok d)=>.ok (.rt d ρ)
 |some (.error z)=>.error (z,ρ)
 |none=>.ok .no
theorem xh {f:RE}(he:DR X c k e f)(hk:k≠ .b:=by decide):Ar X c k (.Return (some e) pos) (qC f):=λρ=>PS.imp (qL (lO λhid=>he hid ρ)) λD σ H hq_=>by
 obtain⟨hid,sr,q⟩:=hq_
 unfold qC at q;cases e1:f ρ with
 |none=>rw[e1] at q;exact q.elim
 |some r=>
  rw[e1] at q;refine⟨hid,sr,r,e1,?_⟩
  cases r with
  |ok d=>exact λv H' s r=>q v H' (vy hk (sr.post s r hk) sr.h0)
  |error z=>exact λC H' s hn=>q σ H' hid C (sr.ext s) (ba s) hn
end
theorem xx {K:W.Frag}{h:Heap}{C:Addr}{bmB:List Value}{newId:String}(KI:K.In h)(q:W.excIn K C bmB newId=true): ∃bm N nm qn bs hdct sn sub ab col dd k0 k1 k2 k3 k5 mN,
 h.get? C=some (excClassObj nm qn C N bs bm hdct sn sub ab col dd k0 k1 k2 k3 k5 newId)/\h.Ns N mN/\mN "__init__"=none/\OwnTail h bmB bm:=by
 unfold W.excIn at q;split at q
 ·rename_i dd cd sl ho
  split at q
  ·rename_i C' bm k0 k1 k2 k3 n k5 hm hs
   simp only[Bool.and_eq_true,beq_iff_eq,Bool.not_eq_true'] at q;obtain⟨⟨⟨⟨⟨rfl,rfl⟩,lg⟩,ht⟩,hok⟩,hni⟩:=q
   obtain⟨nm,bs,mro,ns,qn,hd,sn,sub,ab,col,del⟩:=cd
   dsimp only at hm lg hok hni;subst hm lg;obtain⟨l⟩:=sl
   simp only at hs;subst hs;exact⟨bm,ns,nm,qn,bs,hd,sn,sub,ab,col,dd,k0,k1,k2,k3,k5,_,KI _ _ ho,.of_isNs (W.isNs_of_in KI hok),W.nsMap_none_of_in KI hok hni,W.tail_of_in KI ht⟩
  ·cases q
 ·cases q
section
variable {X:Cx}{c:Ct}{k:Kd}{e:Expr}{es:List Expr}{pos np cpos:Pos}{x:Str}{C:Addr}
theorem xc {ae:List (Addr×Obj)}{σ:St}{H:Hp}{s:Shared}{h':Heap}{ea:Addr}{vs:List Value}(I:Inv X ae σ H s)(m:Heap.MadeExcOf s.heap h' ea (.ref C) vs):
 XS X ae σ H {cls:=.ref C,data:=.plain} ea {s with heap:=h'}:=by
 obtain⟨t,he,htn,ht⟩:=m.there
 refine⟨s.heap,gJ X.stack,I,⟨λ_ q=>q,λb hb nb=>absurd hb nb⟩,⟨λb o q=>m.keeps b o (W.of_hideAll _ q),?_,sV (I.stack.of_keeps λb o q _=>⟨o,m.keeps b o q,rfl⟩) λ_ q=>q,.inr ⟨_,he,rfl⟩⟩,.of_keeps m.keeps,m.new⟩
 cases q:(W.hideAll s.heap (gJ X.stack)).get? ea with
 |none=>rfl
 |some o=>have:=W.of_hideAll _ q;rw[m.new] at this;cases this
def o9(z:Ex)(fs:FA):FX:=λρ=>match fs ρ with
 |some ds=>if ds.length<=20 then .error (z,ρ) else .ok .no
 |none=>.ok .no
theorem jp {n:Int}{fs:FA}(hm:X.mg x=some (.ref C))(hN:W.nsIn X.K mainGlobals x=some (some (.ref C)))(ho:W.excIn X.K C ou "ValueError.__new__"=true)(hd:X.A.handled=none)(ha:DA X c (e::es) fs)(hg:Gl X x:=by rfl)(hdb:(x==("__debug__":Str))=false:=by decide)
 (he:starEach (e::es) X.env=(false,eval e X.env)::starEach es X.env:=by rfl) (hpl:(backTo cpos (starEach es X.env)).any (·.1)=false:=by rfl):
 Ar X c k (.Raise (some (.Call (.Name x np) (e::es) [] cpos)) none pos) (o9 ⟨x,n⟩ fs):=λρ ae s σ H D I hq_=>by
 obtain⟨hid,sr,q⟩:=hq_
 unfold o9 at q;cases e1:fs ρ with
 |none=>rw[e1] at q;exact q.elim
 |some ds=>
  rw[e1] at q;dsimp only at q
  by_cases hl:ds.length<=20
  ·rw[if_pos hl] at q
   obtain⟨bm,N,nm,qn,bs,hdct,sn,sub,ab,col,dd,k0,k1,k2,k3,k5,mN,hC,hNs,hni,T⟩:=xx I.mod.kin ho
   refine wpAny_Raise_call_subT (C:=C) (nm:=nm) (q:=qn) (N:=N) (bs:=bs) (bm:=bm) (hdct:=hdct) (sn:=sn) (sub:=sub) (ab:=ab) (col:=col) (dd:=dd) (k0:=k0) (k1:=k1) (k2:=k2) (k3:=k3) (k5:=k5)
    F.excBase_ValueError (mN:=mN) (T.hasType F.excBase_ValueError.hasBase) hd (by rw[he];show(false||(backTo cpos (starEach es X.env)).any (·.1))=false;rw[hpl];rfl) hni (ip I hg hm ⟨rfl,?_⟩ hdb)
   have P:=ha hid ρ cpos ae s σ H (λvs H'=>Same H H'/\Reps X.K (vw H' hid) vs ds) I ⟨sr,ds,e1,λvs H' a b=>⟨a,b⟩⟩
   rw[he] at P⊢;refine Calls.evalArgs_plain (wpAny_mono P (λus s1 ⟨vs,H1,I1,r,sm,rp⟩=>⟨rfl,?_,I1.bk _ _ hC,hNs.keeps I1.bk,T.keeps I1.bk,λh' ea m=>?_⟩) λ_ _ y=>y)
   ·show us.length<=sizeLine
    rw[<-r.length,rp.length];exact Nat.le_trans hl (by decide)
   ·exact q σ H1 hid C (sr.ext sm) (ba sm) hN ae ea _ _ rfl rfl (xc I1 m)
  ·rw[if_neg hl] at q;exact q.elim
end
structure RoomU(k:Nat)(A:Around):Prop where
 dp:A.depth+3*k+5<recursionLimit
 un:A.units+16*k+200<cLine
theorem Room.u {k:Nat}{A:Around}(r:Room k A):RoomU k A:=⟨r.dp,r.un⟩
theorem RoomU.mono {j k:Nat}{A:Around}(r:RoomU k A)(h:j<=k):RoomU j A:=⟨by have:=r.dp;omega,by have:=r.un;omega⟩
theorem RoomU.mark {k:Nat}{A:Around}(r:RoomU k A)(v:Option Value):RoomU k (A.mark v):=⟨r.dp,r.un⟩
theorem RoomU.deeper {k:Nat}{A:Around}(r:RoomU (k+1) A)(env:Env):RoomU k (A.deeper env):=
 ⟨by have:=r.dp;show A.depth+1+3*k+5<_;omega,by have:=r.un;show A.units+3+16*k+200<_;omega⟩
theorem RoomU.depth {k:Nat}{A:Around}(r:RoomU k A):A.depth<recursionLimit:=by have:=r.dp;omega
structure FnOkU(P:Program)(w:World)(K:W.Frag)(mg:Str->Option Value)(base:Heap)(CX:oh)(k:Nat)(f:Addr)(fd:FuncData)(ps:List Str)(sp:Sp):Prop where
 len: ∀vs H Q E,sp vs H Q E->vs.length=ps.length
 run: ∀(A:Around) (outer:List Env) (s:Shared) (H:Hp) (args:Args) (us:List Value) (vs:List V) (Q:VK) (E:XK),RoomU k A->Env0 P w K mg base A outer s H->BindsTo s fd args (ps.zip us)->Vals vs us->sp vs H Q E->
  codeAny (model P w) A (.call (.ref f) args) (CR CX outer P w H s Q E) s
def Aw(CX:oh)(P:Program)(w:World)(K:W.Frag)(mg:Str->Option Value)(base:Heap)(N:List Str)(qual:Str)(scope:Scope)(f:Addr)(cd:Value)(A:Around)(outer:List Env)(s:Shared)(H:Hp)(E:XK):Cx where
 prog:=P
 w:=w
 K:=K
 mg:=mg
 base:=base
 A:=A.deeper (envOfC qual scope s.heap.objs.size f cd)
 N:=N
 s₀:=s
 H₀:=H
 env:=envOfC qual scope s.heap.objs.size f cd
 outer:=outer
 stack:=envOfC qual scope s.heap.objs.size f cd::outer
 ex:=[]
 calm:=false
 fn:=λ_=>true
 pn:=[]
 xe:=λe s'=>wpAny (model P w) (A.deeper (envOfC qual scope s.heap.objs.size f cd)) (leaving (envOfC qual scope s.heap.objs.size f cd) e) (λ_ s''=>CX outer H s E e s'') (λe' s''=>CX outer H s E e' s'') s'
theorem rC {CX:oh}{P:Program}{w:World}{K:W.Frag}{mg:Str->Option Value}{base:Heap}{N ps:List Str}{qual:Str}{scope:Scope}{f:Addr}{cd:Value}{A:Around}{outer:List Env}{s s1:Shared}{H:Hp}{E:XK}{us:List Value}{vs:List V}
 (S:FnScope N ps scope) (e0:Env0 P w K mg base A outer s H) (hl:vs.length=ps.length) (r:Vals vs us)
 (x:InCallC s s.heap.objs.size (bindL (envOfC qual scope s.heap.objs.size f cd).kindOf (ps.zip us) λ_=>none) (cellsFrom (s.heap.objs.size+1) scope.names []) (bindC (envOfC qual scope s.heap.objs.size f cd).kindOf (ps.zip us) λ_=>none) s1):
 Inv (Aw CX P w K mg base N qual scope f cd A outer s H E) [] (dh N vs) H s1:=by
 have hpl:ps.length<=N.length:=by have:=congrArg List.length S.pre;rw[List.length_take] at this;omega
 obtain⟨h1,tk,rfl,hk⟩:=x.done
 have noA: ∀b:Addr,b∉(Aw CX P w K mg base N qual scope f cd A outer s H E).ex:=λb z=>absurd (show b∈([]:List Addr) from z) (by simp)
 refine⟨⟨e0.mod,S.kind,rfl,rfl,Nat.le_refl _,λy z c h1 h2=>?_,λy hy=>?_,λy c _ h=>?_,(λq=>nomatch q),Around.frames_deeper e0.frames,.inr ⟨rfl,rfl⟩,λb z=>absurd z (noA b),e0.bs,e0.bsz,λb _ _=>noA b,λb z=>absurd z (noA b),e0.funs,e0.frf⟩,
  rfl,e0.bare,Un.kept hk,⟨_,x.toInCall.ns,λi y v h1 h2 h3=>?_⟩,λy c h=>⟨_,x.cell y c h⟩,e0.hok.fresh (Nat.le_refl _),λy c h=>?_,λp hp=>absurd (show p∈([]:List (Addr×Obj)) from hp) (by simp),e0.hok.kept hk,?_⟩
 ·exact name_of_addr x.apart (PySem.mem_of_lookup h1) (PySem.mem_of_lookup h2)
 ·have hy:scope.names.lookup y=some .cell\/scope.names.lookup y=some .free:=hy
  rcases hy with hy|hy
  ·exact i5 hy
  ·exact absurd rfl (S.nofree _ (PySem.mem_of_lookup hy))
 ·exact Nat.le_of_lt (x.above y c (PySem.mem_of_lookup h))
 ·have hi:i<vs.length:=by
   unfold dh at h2
   by_cases hi:i<vs.length
   ·exact hi
   ·rw[List.getElem?_append_right (by simpa using hi)] at h2
    rw[List.getElem?_replicate] at h2;split at h2<;>cases h2
  have ha:vs[i]? =some v:=by
   unfold dh at h2;rw[List.getElem?_append_left (by simpa using hi),List.getElem?_map] at h2
   cases e:vs[i]? with
   |none=>rw[e] at h2;cases h2
   |some a=>rw[e] at h2;cases h2;rfl
  obtain⟨u,hu,rv⟩:=r.get ha
  have hp:ps[i]? =some y:=by
   rw[<-S.pre,List.getElem?_take_of_lt (by omega)];exact h1
  have ndP:ps.Nodup:=by rw[<-S.pre];exact S.nd.sublist (List.take_sublist _ _)
  refine⟨u,rv,?_⟩
  rcases S.par y (List.mem_of_getElem? hp) with k|k
  ·exact .inl ⟨k,jt ndP hp hu k⟩
  ·obtain⟨c,e⟩:=i5 (n:=s.heap.objs.size+1) k
   refine .inr ⟨.inl k,c,e,?_⟩
   have q:=x.cell y c e
   rw[jE ndP hp hu (by show scope.names.lookup y≠_;rw[k];decide)] at q
   exact q
 ·exact e0.hok.fresh (Nat.le_of_lt (x.above y c (PySem.mem_of_lookup h)))
 ·unfold dh
  show _=N.length;rw[List.length_append,List.length_map,List.length_replicate];omega
theorem zO {CX:oh}{P:Program}{w:World}{K:W.Frag}{mg:Str->Option Value}{base:Heap}{k:Nat}{f:Addr}{name qual:Str}{params:Arguments}{body:List Stmt}{scope:Scope}{dV kV doc pm cdv ct oc:Value}{an od:Option Addr}
 {osl:Array (Option Value)} {N ps:List Str} {sp:Sp} (lk:K.lookup f=some ⟨oc,od,.func (W.fnOf name qual params body scope dV kV doc pm an cdv ct),osl⟩) (hcd:W.codeIn K cdv qual=true) (S:FnScope N ps scope)
 (len: ∀vs H Q E,sp vs H Q E->vs.length=ps.length)
 (hbody: ∀(A:Around) (outer:List Env) (s:Shared) (H:Hp) (vs:List V) (Q:VK) (E:XK),RoomU k (A.deeper (envOfC qual scope s.heap.objs.size f cdv))->sp vs H Q E->
   ∃t,PSs (Aw CX P w K mg base N qual scope f cdv A outer s H E) body t/\t {nx:=λ_ H'=>Q .non H',rt:=Q} (dh N vs) H):
 FnOkU P w K mg base CX (k+1) f (W.fnOf name qual params body scope dV kV doc pm an cdv ct) ps sp:=by
 refine⟨len,λA outer s H args us vs Q E hr e0 hb r hsp=>?_⟩
 have hl:=len _ _ _ _ hsp
 have KX:K.In s.heap:=e0.mod.kin.keeps λb o e=>(e0.bs b o e).1
 have lim:s.heap.NoLimit:=e0.mod.nolimit.keeps λb o e=>(e0.bs b o e).1
 have hkind: ∀y∈ps.zip us,scope.names.lookup y.1=some .local\/(scope.names.lookup y.1=some .cell/\((cellsFrom (s.heap.objs.size+1) scope.names []).lookup y.1).isSome=true):=λ⟨n,v⟩ hy=>by
  rcases S.par n (List.of_mem_zip hy).1 with q|q
  ·exact .inl q
  ·exact .inr ⟨q,W.cellsFrom_some _ _ _ (.inl q)⟩
 refine codeAny_call_function hr.depth (KX _ _ lk) rfl S.co S.gen rfl (W.codeRec_of KX hcd) (hb _ _ _ _ ?_)
 refine wpAny_newFunctionEnv_cells S.kind hkind λenv he s1 x=>?_
 subst he;refine⟨lim.keeps x.toInCall.keep,codeAny_func ?_⟩
 obtain⟨t,ht,hq⟩:=hbody A outer s H vs Q E (hr.deeper _) hsp
 have I:Inv (Aw CX P w K mg base N qual scope f cdv A outer s H E) [] (dh N vs) H s1:=rC S e0 hl r x
 refine wpAny_mono (ht [] s1 (dh N vs) H _ I hq) (λfl s' hs=>?_) λe s' hs=>hs
 have fin: ∀ {σ':St} {H':Hp} {v:V} {u:Value},Inv (Aw CX P w K mg base N qual scope f cdv A outer s H E) [] σ' H' s'->RelV v u->Q v H'->CE outer P w H s Q u s':=
  λ{σ' H' v u} J rv q=>⟨v,H',J.os,J.bare,J.base,J.hok,rv,q⟩
 cases fl with
 |ret u=>
  obtain⟨v,σ',H',J,rv,q⟩:=hs
  exact fin J rv q
 |next=>
  obtain⟨σ',H',J,q⟩:=hs
  exact fin (v:=V.non) (u:=Value.none) J rfl q
 |brk=>
  obtain⟨_,_,_,q⟩:=hs
  exact False.elim q
 |cont=>
  obtain⟨_,_,_,q⟩:=hs
  exact False.elim q
def Aj(kd:Kd)(n:Nat)(t:FX)(ds:List D):Option (Except Ex D):=match t (cz n ds) with
 | .ok (.rt d _)=>some (.ok d)
 | .ok (.nx _)=>(match kd with
   | .n=>none
   |_=>some (.ok .non))
 | .ok _=>none
 | .error z=>some (.error z.1)
section
variable {P:Program}{w:World}{K:W.Frag}{mg:Str->Option Value}{base:Heap}{x:Str}{st:Stmt}{N ps:List Str}{k n:Nat}{kd:Kd}
theorem wd {t:FX}(F:Df K mg x st ps)(S:FnScope N ps (ar st))(hkd:kd≠ .b)(hn:ps.length=n)
 (body: ∀(f:Addr) (cdv:Value) (A:Around) (outer:List Env) (s:Shared) (H:Hp) (hid:bF) (E:XK),Room k (A.deeper (envOfC x (ar st) s.heap.objs.size f cdv))->
   nl (jI (BG P w) P w K mg base N x (ar st) f cdv A outer s H E) ⟨H,hid,λ_=>false⟩ kd (aQ st) t):
 ClX P w K mg base (k+1) x ps (BB K kd n (Aj kd N.length t)):=by
 obtain⟨f,fd,F,hm,hb⟩:=F.ex
 subst hn;refine⟨f,fd,?_,hm,F.kp,hb⟩
 obtain⟨oc,od,kV,doc,pm,an,cdv,ct,osl,rfl,lk,hcd⟩:=F.ex
 refine yp lk hcd S (λvs H Q E h=>?_) λA outer s H vs Q E hr h=>?_
 ·obtain⟨hid,ds,_,r,hl,_⟩:=h
  rw[r.length,hl]
 ·obtain⟨hid,ds,tr,r,hl,r0,hP,q⟩:=h
  refine⟨_,body f cdv A outer s H hid E hr (cz N.length ds),hid,SR.begins tr r,?_⟩
  unfold Aj at hP;cases e:t (cz N.length ds) with
  |error z=>
   rw[e] at hP;cases hP
   intro σ' H' hid' C sr _ hn ae ea o0 s' hc hd xs;have sm:Same H H':=λb o z=>sr.kp b o z rfl
   exact uV xs hc hd (q C H' sm hn) λs'' h=>h
  |ok o=>
   rw[e] at hP;cases o with
   |nx ρ=>
    intro σ' H' hid' sr _;have sm:Same H H':=λb o z=>sr.kp b o z rfl
    cases kd with
    |b=>exact absurd rfl hkd
    |s=>cases hP;exact q _ H' sm .non
    |n=>cases hP
   |rt d' ρ=>
    cases hP
    intro v H' R;have sm:Same H H':=λb o z=>R.kp b o z rfl
    cases kd with
    |b=>exact absurd rfl hkd
    |s=>exact q v H' sm R.val
    |n=>exact q v H' sm R.val
   |bk ρ=>cases hP
   |ct ρ=>cases hP
   |no=>cases hP
def Bu(K:W.Frag)(k:Kd)(M:Ex->Option D):Sp:=λvs H Q _=> ∃hid a z,vs=[.ref a]/\yK hid H/\(∃φ,vw H hid a=some (.ext φ)/\ ∀h,φ h->ExcAt K z.x z.n a h)/\ ∃d,M z=some d/\ ∀v H',Same H H'->RK K k H H' hid v d->Q v H'
structure ClU(P:Program)(w:World)(K:W.Frag)(mg:Str->Option Value)(base:Heap)(k:Nat)(x:Str)(ps:List Str)(sp:Sp):Prop where
 ex: ∃f fd,FnOkU P w K mg base lR k f fd ps sp/\mg x=some (.ref f)/\W.keepIn K (.ref f)=true/\Binds K fd ps []
def qh(n:Nat)(z:Ex):aB:=.ob (.exc z.x z.n)::List.replicate (n-1) .no
def CQ(n:Nat)(t:FS)(z:Ex):Option D:=match t (qh n z) with
 | .rt d _=>some d
 |_=>none
theorem x9 {t:FS}{y:Str}(F:Df K mg x st [y])(S:FnScope N [y] (ar st))
 (body: ∀(f:Addr) (cdv:Value) (A:Around) (outer:List Env) (s:Shared) (H:Hp) (hid:bF) (E:XK),RoomU k (A.deeper (envOfC x (ar st) s.heap.objs.size f cdv))->
   oy (Aw lR P w K mg base N x (ar st) f cdv A outer s H E).nox ⟨H,hid,λ_=>false⟩ .s (aQ st) t):
 ClU P w K mg base (k+1) x [y] (Bu K .s (CQ N.length t)):=by
 obtain⟨f,fd,F,hm,hb⟩:=F.ex
 refine⟨f,fd,?_,hm,F.kp,hb⟩
 obtain⟨oc,od,kV,doc,pm,an,cdv,ct,osl,rfl,lk,hcd⟩:=F.ex
 refine zO lk hcd S (λvs H Q E h=>?_) λA outer s H vs Q E hr h=>?_
 ·obtain⟨hid,a,z,rfl,_⟩:=h
  rfl
 ·obtain⟨hid,a,z,rfl,tr,hx,d,hM,q⟩:=h
  have hN:0<N.length:=by have:=congrArg List.length S.pre;rw[List.length_take] at this;simp at this;omega
  refine⟨_,PSs.nox (body f cdv A outer s H hid E hr (qh N.length z)),hid,⟨tr.1,tr.2,λ_ h=>h,λ_ _ h _=>h,λb o h=>⟨o,h⟩,tr.1,(λ_ h=>nomatch h),?_,λi s e=>?_,λi j b ne o1 o2 _ _=>?_⟩,?_⟩
  ·unfold dh qh;simp
  ·cases i with
   |zero=>
    unfold qh at e;simp at e;subst e;exact⟨a,rfl,hx⟩
   |succ i=>
    unfold qh at e;rw[List.getElem?_cons_succ,List.getElem?_replicate] at e;split at e
    ·cases e;trivial
    ·cases e
  ·cases i with
   |zero=>exact o1.elim
   |succ i=>
    unfold qh at o1;rw[List.getElem?_cons_succ,List.getElem?_replicate] at o1;split at o1<;>exact o1.elim
  ·unfold CQ at hM
   cases e:t (qh N.length z) with
   |rt d' ρ=>
    rw[e] at hM;cases hM;exact λv H' R=>q v H' (λb o z=>R.kp b o z rfl) R.val
   |nx ρ=>rw[e] at hM;cases hM
   |bk ρ=>rw[e] at hM;cases hM
   |ct ρ=>rw[e] at hM;cases hM
   |no=>rw[e] at hM;cases hM
end
section
variable {X:Cx}{c:Ct}{k:Kd}{e:Expr}{pos p py:Pos}{x y:Str}{ps:List Str}{j i:Nat}
def yD(i:Nat)(M:Ex->Option D):FE:=λρ=>match ρ[i]? with
 |some (.ob (.exc x n))=>M ⟨x,n⟩
 |_=>none
theorem yT(i:Nat){M:Ex->Option D}(C:ClU X.prog X.w X.K X.mg X.base j x ps (Bu X.K k M))(hr:RoomU j X.A)(hN:X.N[i]? =some y:=by rfl)(hv:qw X.env.scope y:=by first|exact Or.inl rfl|exact Or.inr (Or.inl rfl)|exact Or.inr (Or.inr rfl))(hd:(y==("__debug__":Str))=false:=by decide)
 (hcd:(y==("__classdict__":Str))=false:=by decide) (hs:starEach [.Name y py] X.env=(false,eval (.Name y py) X.env)::starEach [] X.env:=by rfl) (hg:Gl X x:=by rfl) (hdb:(x==("__debug__":Str))=false:=by decide) (hpl:(backTo pos (starEach [] X.env)).any (·.1)=false:=by rfl):
 DP X c k (.Call (.Name x p) [.Name y py] [] pos) (yD i M):=λhid ρ ae s σ H Q I hq_=>by
 obtain⟨sr,d,hd',q⟩:=hq_
 obtain⟨f,fd,F,hm,hk,hb⟩:=C.ex
 unfold yD at hd';split at hd'
 ·rename_i x' n' e'
  obtain⟨a,z1,z2⟩:=sr.sl i _ e'
  refine wpAny_Call_Name_kw (ip I hg hm ?_ hdb)
  refine W.callWith_K (h₀:=X.base) I.ok.mod.kin hk (cm (bi (pv i hN hv hd hcd) cY hs pos ae s σ H (λvs H'=>vs=[.ref a]/\H'=H) I ⟨.ref a,z1,rfl,rfl⟩) λus s1 ⟨vs,H1,I1,r,ev,eH⟩=>⟨I1.kIn,?_⟩) hs hpl
  subst ev eH;have hsp:Bu X.K k M [.ref a] H1 Q E0:=⟨hid,a,⟨x',n'⟩,rfl,sr.trk,z2,d,hd',q⟩
  have hl:(us++[]).length=ps.length:=by rw[List.append_nil,<-r.length];exact F.len _ _ _ _ hsp
  have hb':=hb s1 us I1.kIn hl
  rw[List.append_nil] at hb';refine wpAny_call (codeAny_mono (F.run X.A X.stack s1 H1 ⟨us,[]⟩ us [.ref a] Q E0 hr I1.env0 hb' r hsp) λr s' hq=>?_)
  cases r with
  |error e=>exact hq.elim
  |ok fl=>
   cases fl with
   |ret u=>exact I1.after hq
   |next=>exact False.elim hq
   |brk=>exact False.elim hq
   |cont=>exact False.elim hq
 ·cases hd'
end
def iN(x y:Str):Bool:=x==y||y==("RookError":Str)
structure ExRow(K:W.Frag)(mg:Str->Option Value)(CR:Addr)(x:Str)(C:Addr):Prop where
 mg:mg x=some (.ref C)
 ns:W.nsIn K mainGlobals x=some (some (.ref C))
 cc:ExcC K C
 ty:W.typeIn K (.ref C)=some (.type "type")
 mr: ∃cd,W.clsIn K C=some cd/\cd.mro=(if C=CR then .ref CR::ou else .ref C:: .ref CR::ou)
structure ExTab(K:W.Frag)(mg:Str->Option Value)(CR:Addr)(tbl:List (Str×Addr)):Prop where
 row: ∀p∈tbl,ExRow K mg CR p.1 p.2
 root:(("RookError":Str),CR)∈tbl
 nd:(tbl.map (·.2)).Nodup
section
variable {K:W.Frag}{mg:Str->Option Value}{CR:Addr}{tbl:List (Str×Addr)}
theorem iq: ∀ {l:List (Str×Addr)},(l.map (·.2)).Nodup-> ∀ {p q:Str×Addr},p∈l->q∈l->p.2=q.2->p=q
 | [],_,_,_,h,_,_=>nomatch h
 |a::l,nd,p,q,hp,hq,e=>by
  rw[List.map_cons,List.nodup_cons] at nd;rcases List.mem_cons.mp hp with ep|ep
  ·rcases List.mem_cons.mp hq with eq|eq
   ·rw[ep,eq]
   ·exact absurd (List.mem_map.mpr ⟨q,eq,by rw[<-e,ep]⟩) nd.1
  ·rcases List.mem_cons.mp hq with eq|eq
   ·exact absurd (List.mem_map.mpr ⟨p,ep,by rw[e,eq]⟩) nd.1
   ·exact iq nd.2 ep eq e
theorem ExTab.addr(T:ExTab K mg CR tbl){p q:Str×Addr}(hp:p∈tbl)(hq:q∈tbl)(e:p.1=q.1):p.2=q.2:=by
 have h1:=(T.row p hp).ns
 have h2:=(T.row q hq).ns
 rw[e,h2] at h1;injection h1 with h1
 injection h1 with h1
 exact(Value.ref.inj h1).symm
theorem ExTab.mro(T:ExTab K mg CR tbl){p q:Str×Addr}(hp:p∈tbl)(hq:q∈tbl):W.mroIn K p.2 (.ref q.2)=some (iN p.1 q.1):=by
 obtain⟨cd,h1,h2⟩:=(T.row p hp).mr
 unfold W.mroIn;rw[h1,Option.bind_some,h2];have hr:q.2=CR↔q.1=("RookError":Str):=⟨λe=>by rw[iq T.nd hq T.root e],λe=>T.addr hq T.root e⟩
 have hs:p.2=q.2↔p.1=q.1:=⟨λe=>by rw[iq T.nd hp hq e],T.addr hp hq⟩
 have ev:iN p.1 q.1=(decide (p.2=q.2)||decide (q.2=CR)):=by
  unfold iN;congr 1
  ·rw[Bool.eq_iff_iff,beq_iff_eq,decide_eq_true_eq];exact hs.symm
  ·rw[Bool.eq_iff_iff,beq_iff_eq,decide_eq_true_eq];exact hr.symm
 rw[ev]
 by_cases e:p.2=CR
 ·rw[if_pos e,if_neg (by simp)]
  congr 1
  rw[e,Bool.eq_iff_iff,List.contains_iff_mem,Bool.or_eq_true,decide_eq_true_eq,decide_eq_true_eq,List.mem_cons];exact⟨λh=>h.elim (λh=>.inl (Value.ref.inj h).symm) λh=>by simp[ou] at h,λh=>.inl (h.elim (λh=>by rw[h]) λh=>by rw[h])⟩
 ·rw[if_neg e,if_neg (by simp)]
  congr 1
  rw[Bool.eq_iff_iff,List.contains_iff_mem,Bool.or_eq_true,decide_eq_true_eq,decide_eq_true_eq,List.mem_cons,List.mem_cons];exact⟨λh=>h.elim (λh=>.inl (Value.ref.inj h).symm) λh=>h.elim (λh=>.inr (Value.ref.inj h)) λh=>by simp[ou] at h,λh=>h.elim (λh=>.inl (by rw[h])) λh=>.inr (.inl (by rw[h]))⟩
theorem ExTab.one(T:ExTab K mg CR tbl){p q:Str×Addr}(hp:p∈tbl)(hq:q∈tbl):W.kitOne K (.ref p.2) (.ref q.2)=some (iN p.1 q.1):=by
 unfold W.kitOne
 by_cases e:(Value.ref p.2==Value.ref q.2)=true
 ·rw[if_pos e]
  have e':p.2=q.2:=Value.ref.inj (beq_iff_eq.mp e)
  rw[iq T.nd hp hq e'];unfold iN;simp
 ·rw[if_neg e]
  unfold W.kitCls;obtain⟨cd,h1,_⟩:=(T.row q hq).mr
  dsimp only;rw[h1,(T.row q hq).ty,if_pos (by simp)]
  exact T.mro hp hq
theorem ExTab.any(T:ExTab K mg CR tbl){p:Str×Addr}(hp:p∈tbl): ∀(qs:List (Str×Addr)),(∀q∈qs,q∈tbl)->W.kitAny K (.ref p.2) (qs.map λq=>Value.ref q.2)=some (qs.any λq=>iN p.1 q.1)
 | [],_=>rfl
 |q::qs,h=>by
  rw[List.map_cons,List.any_cons];unfold W.kitAny;rw[T.one hp (h q List.mem_cons_self)];cases e:iN p.1 q.1 with
  |true=>rfl
  |false=>exact(T.any hp qs λq hq=>h q (List.mem_cons_of_mem _ hq)).trans (by simp)
theorem lG:W.kitMeta "ValueError"=true:=by kernel_rfl
theorem ExTab.val(T:ExTab K mg CR tbl){p:Str×Addr}(hp:p∈tbl):W.kitOne K (.ref p.2) (.type "ValueError")=some true:=by
 obtain⟨cd,h1,h2⟩:=(T.row p hp).mr
 unfold W.kitOne;rw[if_neg (by simp)]
 unfold W.kitCls;dsimp only;rw[if_pos lG];show W.mroIn K p.2 (.type "ValueError")=_;unfold W.mroIn;rw[h1,Option.bind_some,h2]
 by_cases e:p.2=CR
 ·rw[if_pos e,if_neg (by simp)];rfl
 ·rw[if_neg e,if_neg (by simp)];rfl
end
theorem ExcAt.inst {K:W.Frag}{x:Str}{n:Int}{a C:Addr}{h:Heap}(e:ExcAt K x n a h)(ns:W.nsIn K mainGlobals x=some (some (.ref C))): ∃o,W.InstAt h a o C none:=by
 obtain⟨C',o,h1,h2,h3,h4,h5⟩:=e
 rw[ns] at h1;cases h1
 exact⟨o,h2,h3,h5,by rw[h4];trivial⟩
section
variable {X:Cx}{c:Ct}{k:Kd}{e:Expr}{pos p p1 p2 p3 py:Pos}{x y z:Str}{i:Nat}{CR C:Addr}{tbl:List (Str×Addr)}
def CC(K:W.Frag):List V->Hp->VK->Prop:=λxs H Q=> ∃a v C b,xs=[.ref a,v]/\(∃φ,H a=some (.ext φ)/\ ∀h,φ h-> ∃o,W.InstAt h a o C none)/\ExcC K C/\
 ((∃D,v=.ref D/\W.kitOne K (.ref C) (.ref D)=some b)\/(∃T,v=.ty T/\W.kitOne K (.ref C) (.type T)=some b)\/ ∃(t:Addr) (ds:List Addr),v=.ref t/\H t=some (.tup (ds.map V.ref))/\W.kitAny K (.ref C) (ds.map Value.ref)=some b)/\Q (.bl b) H
theorem lY: ∀ {ds:List Addr} {us:List Value},Vals (ds.map V.ref) us->us=ds.map Value.ref
 | [],_,.nil=>rfl
 |_::_,_,.cons r t=>by cases r;rw[lY t];rfl
theorem lv:ee X (.builtin "isinstance") (CC X.K):=by
 intro ae s σ H xs us Q I r h;obtain⟨a,v,C,b,rfl,⟨φ,h1,h2⟩,ec,hv,q⟩:=h
 obtain⟨p1,_,_⟩:=I.hok a _ h1
 have inst:=h2 _ p1
 cases r with
 |cons r0 r1=>
  cases r1 with
  |cons r1 r2=>
   cases r2
   cases r0
   have fin: ∀tk,EP X ae σ Q (.bool b) {s with toks:=tk}:=λtk=>⟨.bl b,H,I.tok tk,rfl,q⟩
   have nb:(Value.ref a)≠ .builtin "__main__.__loader__#opaque":=λz=>by cases z
   rcases hv with⟨D,rfl,e⟩|⟨T,rfl,e⟩|⟨t,ds,rfl,ht,e⟩
   ·cases r1
    exact W.kia_one (nq ec) I.kIn inst e nb fin
   ·cases r1
    exact W.kia_one (nq ec) I.kIn inst e nb fin
   ·cases r1
    obtain⟨_,its,rv,⟨o,g1,g2,n,g3⟩,_⟩:=I.hok t _ ht
    have ei:=lY rv
    subst ei;obtain⟨oc,od,dt,sl⟩:=o
    dsimp only at g2 g3;subst g2 g3;exact W.kia_tup (nq ec) I.kIn inst g1 e nb fin
def BE(ds:List Addr):TA:=λ_ H Q=>Q (ds.map V.ref) H
theorem xb:PA X [] (BE []):=λp ae s σ H Q I h=>cY p ae s σ H Q I h
theorem eM {es:List Expr}{D:Addr}{ds:List Addr}(hm:X.mg y=some (.ref D))(hr:PA X es (BE ds))(hg:Gl X y:=by rfl)(hd:(y==("__debug__":Str))=false:=by decide)(hs:starEach (.Name y p2::es) X.env=(false,eval (.Name y p2) X.env)::starEach es X.env:=by rfl):
 PA X (.Name y p2::es) (BE (D::ds)):=PA.imp (bi (m5 (v:=.ref D) hg hm rfl hd) hr hs) λσ H Q h=>h
def tF(i:Nat)(ns ys:List Str):FE:=yD i λz=>if ns.contains z.x=true/\ys.all (λy=>ns.contains y)=true then some (.bl (ys.any λy=>iN z.x y)) else none
def zH(i:Nat)(ns:List Str):FE:=yD i λz=>if ns.contains z.x=true then some (.bl true) else none
theorem kn {ns:List Str}{tbl:List (Str×Addr)}(e:tbl.map (·.1)=ns){x:Str}(h:ns.contains x=true): ∃C,(x,C)∈tbl:=by
 rw[<-e,List.contains_iff_mem] at h;obtain⟨q,h1,h2⟩:=List.mem_map.mp h
 exact⟨q.2,by rw[<-h2];exact h1⟩
theorem qd {K:W.Frag}{hid:bF}{H:Hp}{a:Addr}{x:Str}{n:Int}(h:ObOk K c hid H a (.exc x n))(ns:W.nsIn K mainGlobals x=some (some (.ref C))): ∃φ,H a=some (.ext φ)/\ ∀h,φ h-> ∃o,W.InstAt h a o C none:=by
 obtain⟨φ,h1,h2⟩:=h
 exact⟨φ,cX _ _ _ _ h1,λh q=>(h2 h q).inst ns⟩
variable(T:ExTab X.K X.mg CR tbl)
include T
theorem xL(i:Nat){ns:List Str}{D:Addr}(hT:tbl.map (·.1)=ns)(hD:(y,D)∈tbl)(hm:X.mg "isinstance"=none)(hN:X.N[i]? =some z:=by rfl)(hv:qw X.env.scope z:=by first|exact Or.inl rfl|exact Or.inr (Or.inl rfl)|exact Or.inr (Or.inr rfl))(hd:(z==("__debug__":Str))=false:=by decide)(hcd:(z==("__classdict__":Str))=false:=by decide)
 (hg:Gl X "isinstance":=by rfl) (hgy:Gl X y:=by rfl) (hbv:bootBuiltins "isinstance"=some (.builtin "isinstance"):=by kernel_rfl) (hdy:(y==("__debug__":Str))=false:=by decide)
 (hs1:starEach [.Name z p1,.Name y p2] X.env=(false,eval (.Name z p1) X.env)::starEach [.Name y p2] X.env:=by rfl) (hs2:starEach [.Name y p2] X.env=(false,eval (.Name y p2) X.env)::starEach [] X.env:=by rfl) (hpl:(backTo pos (starEach [.Name y p2] X.env)).any (·.1)=false:=by rfl):
 DP X c .s (.Call (.Name "isinstance" p) [.Name z p1,.Name y p2] [] pos) (tF i ns [y]):=λhid ρ=>
 PE.imp (gY lv hg hm hbv (bi (pv i hN hv hd hcd) (bi (m5 (v:=.ref D) hgy (T.row _ hD).mg rfl hdy) cY hs2) hs1) (by decide) (by decide) hs1 hpl) λσ H Q hq_=>by
  obtain⟨sr,d,hd,q⟩:=hq_
  unfold tF yD at hd;split at hd
  ·rename_i x' n' e'
   dsimp only at hd;split at hd
   ·rename_i hc
    cases hd
    obtain⟨a,z1,z2⟩:=sr.sl i _ e'
    obtain⟨C,hC⟩:=kn hT hc.1
    refine⟨.ref a,z1,a,.ref D,C,iN x' y,rfl,qd z2 (T.row _ hC).ns,(T.row _ hC).cc,.inl ⟨D,rfl,T.one hC hD⟩,?_⟩
    have:=q (.bl (iN x' y)) H (Same.refl _)
    simp only[List.any_cons,List.any_nil,Bool.or_false] at this;exact this .bl
   ·cases hd
  ·cases hd
theorem xz(i:Nat){ns:List Str}(hT:tbl.map (·.1)=ns)(hm:X.mg "isinstance"=none)(hmv:X.mg "ValueError"=none)(hN:X.N[i]? =some z:=by rfl)(hv:qw X.env.scope z:=by first|exact Or.inl rfl|exact Or.inr (Or.inl rfl)|exact Or.inr (Or.inr rfl))(hd:(z==("__debug__":Str))=false:=by decide)(hcd:(z==("__classdict__":Str))=false:=by decide)
 (hg:Gl X "isinstance":=by rfl) (hgy:Gl X "ValueError":=by rfl) (hbv:bootBuiltins "isinstance"=some (.builtin "isinstance"):=by kernel_rfl) (hbw:bootBuiltins "ValueError"=some (.type "ValueError"):=by kernel_rfl)
 (hs1:starEach [.Name z p1,.Name "ValueError" p2] X.env=(false,eval (.Name z p1) X.env)::starEach [.Name "ValueError" p2] X.env:=by rfl) (hs2:starEach [.Name "ValueError" p2] X.env=(false,eval (.Name "ValueError" p2) X.env)::starEach [] X.env:=by rfl) (hpl:(backTo pos (starEach [.Name "ValueError" p2] X.env)).any (·.1)=false:=by rfl):
 DP X c .s (.Call (.Name "isinstance" p) [.Name z p1,.Name "ValueError" p2] [] pos) (zH i ns):=λhid ρ=>
 PE.imp (gY lv hg hm hbv (bi (pv i hN hv hd hcd) (bi (sZ (v:=.ty "ValueError") hgy hmv hbw rfl) cY hs2) hs1) (by decide) (by decide) hs1 hpl) λσ H Q hq_=>by
  obtain⟨sr,d,hd,q⟩:=hq_
  unfold zH yD at hd;split at hd
  ·rename_i x' n' e'
   dsimp only at hd;split at hd
   ·rename_i hc
    cases hd
    obtain⟨a,z1,z2⟩:=sr.sl i _ e'
    obtain⟨C,hC⟩:=kn hT hc
    exact⟨.ref a,z1,a,.ty "ValueError",C,true,rfl,qd z2 (T.row _ hC).ns,(T.row _ hC).cc,.inr (.inl ⟨_,rfl,T.val hC⟩),q (.bl true) H (Same.refl _) .bl⟩
   ·cases hd
  ·cases hd
theorem xN(i:Nat){ns:List Str}{es:List Expr}{x1:Nat}{qs:List (Str×Addr)}(hT:tbl.map (·.1)=ns)(hq: ∀q∈qs,q∈tbl)(hP:PA X es (BE (qs.map (·.2))))(hlen:qs.length<=100)(hm:X.mg "isinstance"=none)(hN:X.N[i]? =some z:=by rfl)(hv:qw X.env.scope z:=by first|exact Or.inl rfl|exact Or.inr (Or.inl rfl)|exact Or.inr (Or.inr rfl))(hd:(z==("__debug__":Str))=false:=by decide)(hcd:(z==("__classdict__":Str))=false:=by decide)
 (hg:Gl X "isinstance":=by rfl) (hbv:bootBuiltins "isinstance"=some (.builtin "isinstance"):=by kernel_rfl)
 (hs1:starEach [.Name z p1,.Tuple es x1 p2] X.env=(false,eval (.Name z p1) X.env)::starEach [.Tuple es x1 p2] X.env:=by rfl) (hs2:starEach [.Tuple es x1 p2] X.env=(false,eval (.Tuple es x1 p2) X.env)::starEach [] X.env:=by rfl) (hpl:(backTo pos (starEach [.Tuple es x1 p2] X.env)).any (·.1)=false:=by rfl):
 DP X c .s (.Call (.Name "isinstance" p) [.Name z p1,.Tuple es x1 p2] [] pos) (tF i ns (qs.map (·.1))):=λhid ρ=>
 PE.imp (gY lv hg hm hbv (bi (pv i hN hv hd hcd) (bi (vn hP) cY hs2) hs1) (by decide) (by decide) hs1 hpl) λσ H Q hq_=>by
  obtain⟨sr,d,hd,q⟩:=hq_
  unfold tF yD at hd;split at hd
  ·rename_i x' n' e'
   dsimp only at hd;split at hd
   ·rename_i hc
    cases hd
    obtain⟨a,z1,z2⟩:=sr.sl i _ e'
    obtain⟨C,hC⟩:=kn hT hc.1
    refine⟨.ref a,z1,?_,λt ht=>?_⟩
    ·show(List.map V.ref _).length<=sizeLine
     rw[List.length_map,List.length_map];exact Nat.le_trans hlen (by decide)
    ·obtain⟨φ,g1,g2⟩:=qd z2 (T.row _ hC).ns
     refine⟨a,.ref t,C,qs.any λq=>iN x' q.1,rfl,⟨φ,by rw[aM (bz g1 ht)];exact g1,g2⟩,(T.row _ hC).cc,.inr (.inr ⟨t,qs.map (·.2),rfl,bf,?_⟩),?_⟩
     ·rw[List.map_map];exact T.any hC qs hq
     ·refine q (.bl (qs.any λq=>iN x' q.1)) _ (bc ht _) ?_
      rw[List.any_map];exact Rep.bl
   ·cases hd
  ·cases hd
end
abbrev Cx.inTry(X:Cx)(pn:List (Addr×Obj))(E:Value->Shared->Prop):Cx:={X with pn:=pn,xe:=E}
abbrev Cx.caught(X:Cx)(v:Option Value):Cx:={X with A:=X.A.mark v,calm:=false,xe:=λ_ _=>False}
section
variable {X:Cx}{ae pins':List (Addr×Obj)}{σ:St}{H:Hp}{s:Shared}{E:Value->Shared->Prop}{v:Option Value}{a:Addr}
theorem Cx.Ok.inTry {pn:List (Addr×Obj)}(ok:X.Ok):(X.inTry pn E).Ok:=⟨ok.mod,ok.kind,ok.glob,ok.blt,ok.above,ok.inj,ok.has,ok.cab,ok.hd,ok.frames,ok.stk,ok.exf,ok.bs,ok.bsz,ok.noex,ok.exfs,ok.funs,ok.frf⟩
theorem Cx.Ok.outTry {pn:List (Addr×Obj)}(ok:(X.inTry pn E).Ok):X.Ok:=⟨ok.mod,ok.kind,ok.glob,ok.blt,ok.above,ok.inj,ok.has,ok.cab,ok.hd,ok.frames,ok.stk,ok.exf,ok.bs,ok.bsz,ok.noex,ok.exfs,ok.funs,ok.frf⟩
theorem Inv.inTry(I:Inv X ae σ H s):Inv (X.inTry (X.pn++ae) E) [] σ H s:=
 ⟨I.ok.inTry,I.os,I.bare,I.base,I.loc,I.cell,I.free,I.freeC,λp hp=>I.pin p (by rw[List.append_nil] at hp;exact hp),I.hok,I.len⟩
theorem Inv.outTry(I:Inv (X.inTry (X.pn++ae) E) pins' σ H s):Inv X ae σ H s:=
 ⟨I.ok.outTry,I.os,I.bare,I.base,I.loc,I.cell,I.free,I.freeC,λp hp=>I.pin p (List.mem_append_left _ hp),I.hok,I.len⟩
theorem Inv.caught(I:Inv X ae σ H s):Inv (X.caught v) ae σ H s:=
 ⟨⟨I.ok.mod,I.ok.kind,I.ok.glob,I.ok.blt,I.ok.above,I.ok.inj,I.ok.has,I.ok.cab,(λq=>nomatch q),I.ok.frames,I.ok.stk,I.ok.exf,I.ok.bs,I.ok.bsz,I.ok.noex,I.ok.exfs,I.ok.funs,I.ok.frf⟩,I.os,I.bare,I.base,I.loc,I.cell,I.free,I.freeC,I.pin,I.hok,I.len⟩
theorem Inv.uncaught(ok:X.Ok)(I:Inv (X.caught v) ae σ H s):Inv X ae σ H s:=⟨ok,I.os,I.bare,I.base,I.loc,I.cell,I.free,I.freeC,I.pin,I.hok,I.len⟩
theorem SP.outTry {D:Ends}{f:Flow}(h:SP (X.inTry (X.pn++ae) E) pins' D f s):SP X ae D f s:=by
 cases f with
 |next=>obtain⟨σ',H',I,q⟩:=h;exact⟨σ',H',I.outTry,q⟩
 |brk=>obtain⟨σ',H',I,q⟩:=h;exact⟨σ',H',I.outTry,q⟩
 |cont=>obtain⟨σ',H',I,q⟩:=h;exact⟨σ',H',I.outTry,q⟩
 |ret u=>obtain⟨v,σ',H',I,r,q⟩:=h;exact⟨v,σ',H',I.outTry,r,q⟩
theorem XS.outTry {o0:Obj}{ea:Addr}(x:XS (X.inTry (X.pn++ae) E) pins' σ H o0 ea s):XS X ae σ H o0 ea s:=by
 obtain⟨g,F,I,aw,fl,up,gn⟩:=x
 exact⟨g,F,I.outTry,⟨aw.1,λb hb nb=>⟨(aw.2 b hb nb).1,(aw.2 b hb nb).2.1,(aw.2 b hb nb).2.2.1,(aw.2 b hb nb).2.2.2.1,λp hp=>(aw.2 b hb nb).2.2.2.2 p (List.mem_append_left _ hp)⟩⟩,fl,up,gn⟩
theorem ObjOk.there {P:Program}{w:World}{h:Heap}{o:HO}(x:ObjOk P w H h a o): ∃u,h.get? a=some u:=by
 induction o with
 |lst xs=>obtain⟨_,_,_,_,e⟩:=x;exact⟨_,e⟩
 |tup xs=>obtain⟨_,_,_,⟨_,e,_⟩,_⟩:=x;exact⟨_,e⟩
 |dK kvs=>obtain⟨_,_,_,_,o,_,_,e,_⟩:=x;exact⟨_,e⟩
 |dT kvs=>obtain⟨_,_,_,_,o,_,_,e,_⟩:=x;exact⟨_,e⟩
 |set S n=>obtain⟨o,_,_,_,e,_⟩:=x;exact⟨_,e⟩
 |tst xs=>obtain⟨o,_,_,_,e,_⟩:=x;exact⟨_,e⟩
 |ins C dx fs=>obtain⟨_,_,_,e,_⟩:=x;exact⟨_,e⟩
 |own y=>obtain⟨_,e⟩:=x;exact⟨_,e⟩
 |xd fs=>obtain⟨_,⟨_,_,_,e,_⟩,_⟩:=x;exact⟨_,e⟩
 |rng lo hi=>obtain⟨_,_,_,e⟩:=x;exact⟨_,e⟩
 |frz ob u ih=>obtain⟨e,_⟩:=x;exact⟨_,e⟩
 |nst p u ih=>exact ih x
 |tbl ps=>exact⟨_,show h.get? a=some _ from x⟩
 |met f y=>exact⟨_,show h.get? a=some _ from x⟩
 |ext φ=>obtain⟨_,⟨_,e⟩,_⟩:=x;exact⟨_,e⟩
theorem Inv.newer {g:Heap}(Ig:Inv X ae σ H {s with heap:=g})(gn:g.get? a=none):H a=none:=by
 cases q:H a with
 |none=>rfl
 |some u=>
  obtain⟨o,e⟩:=(Ig.hok a u q).there
  rw[show g.get? a=some o from e] at gn;cases gn
theorem Inv.track {g:Heap}{o:Obj}{φ:Heap->Prop}(I:Inv X ae σ H s)(Ig:Inv X ae σ H {s with heap:=g})(gn:g.get? a=none)(ho:s.heap.get? a=some o)(hφ:φ s.heap)
 (hst: ∀h1 h2:Heap,φ h1->(∀o,h1.get? a=some o->h2.get? a=some o)->φ h2):Inv X ae σ (cF H a (.ext φ)) s:=by
 have Ha:=Ig.newer gn
 have ne: ∀ {b o},g.get? b=some o->b≠a:=λ{b o} e z=>by rw[z,gn] at e;cases e
 have nt: ∀ {b u},H b=some u->b≠a:=λ{b u} e z=>by rw[z,Ha] at e;cases e
 have hL:X.env.locals≠a:=by
  obtain⟨m,⟨o',es,ep,e,_⟩,_⟩:=Ig.loc
  exact ne e
 refine⟨I.ok,I.os,I.bare,⟨I.base.keep,I.base.slot,λb ob e n hx=>?_,I.base.there,λb xs e=>?_,λb ob u e=>?_,λb ps e=>?_⟩,I.loc,I.cell,?_,λx c e=>?_,λp hp=>?_,λb u e=>?_,I.len⟩
 ·obtain⟨o',e'⟩:=Ig.base.there b ob e hx
  rw[aM (ne e')];exact I.base.free b ob e n hx
 ·have:=I.base.tups b xs e
  rw[aM (nt this)];exact this
 ·have:=I.base.frzs b ob u e
  rw[aM (nt this)];exact this
 ·obtain⟨m,e'⟩:=I.base.tbls b ps e
  exact⟨m,by rw[aM (nt e')];exact e'⟩
 ·rw[aM hL];exact I.free
 ·obtain⟨w,o',e',_⟩:=Ig.cell x c e
  rw[aM (ne e')];exact I.freeC x c e
 ·obtain⟨h1,h2,h3⟩:=I.pin p hp
  exact⟨h1,by rw[aM (ne (Ig.pin p hp).1)];exact h2,h3⟩
 ·by_cases z:b=a
  ·subst z
   rw[bf] at e;cases e
   exact⟨hφ,⟨o,ho⟩,hst⟩
  ·rw[aM z] at e
   exact(I.hok b u e).stay (λ_ _ _ q=>q) (λc q=>by rw[aM (nt q)];exact q) λc xs q=>by rw[aM (nt q)];exact q
theorem Inv.blind {h':Heap}{t':Nat}{m':Str->Option Value}(I:Inv X ae σ H s)(hn:h'.Ns X.env.locals m')(sb:Heap.SameBut X.env.locals s.heap h'):Inv X ae (List.replicate X.N.length none) H {s with heap:=h',toks:=t'}:=by
 have kp: ∀b o,b≠X.env.locals->s.heap.get? b=some o->h'.get? b=some o:=λb o n e=>(sb.2 b n).trans e
 have n0: ∀ {b o},X.s₀.heap.get? b=some o->b≠X.env.locals:=λ{b o} e z=>by
  have:=Heap.lt_size e
  rw[z] at this;exact absurd this (Nat.not_lt.mpr I.ok.above)
 refine⟨I.ok,I.os,I.bare,⟨λb o e n hf hx=>kp b o (n0 e) (I.base.keep b o e n hf hx),λb o e n hf hx=>?_,I.base.free,λb o e hx=>?_,I.base.tups,I.base.frzs,I.base.tbls⟩,⟨m',hn,λi x v _ e=>?_⟩,λx c e=>?_,I.free,I.freeC,λp hp=>?_,λb u e=>?_,by simp⟩
 ·obtain⟨sl,q⟩:=I.base.slot b o e n hf hx
  exact⟨sl,kp b _ (n0 e) q⟩
 ·obtain⟨o',q⟩:=I.base.there b o e hx
  exact⟨o',kp b _ (n0 e) q⟩
 ·rw[List.getElem?_replicate] at e
  split at e<;>cases e
 ·obtain⟨v,o,q,r⟩:=I.cell x c e
  exact⟨v,o,kp c o (I.cne x c e) q,r⟩
 ·obtain⟨h1,h2,h3,h4⟩:=I.pin p hp
  exact⟨kp _ _ h3 h1,h2,h3,h4⟩
 ·refine(I.hok b u e).stay (λc o hc q=>kp c o (λz=>?_) q) (λ_ q=>q) λ_ _ q=>q
  have:=I.free
  rw[<-z] at this;rcases hc with rfl|hc
  ·rw[e] at this;cases this
  ·rw[hc] at this;cases this
end
section
variable {K:W.Frag}{c:Ct}{hid:bF}{ρ:aB}{σ:St}{H:Hp}{a:Addr}{x:Str}{n:Int}
theorem SR.setEx(h:SR K c hid ρ σ H)(ho:ObOk K c hid H a (.exc x n))(i:Nat):SR K c hid (ρ.set i (.ob (.exc x n))) (σ.set i (some (.ref a))) H:=by
 have nj: ∀m,Ow (ρ.set i (.ob (.exc x n)))[m]? ->m≠i:=λm o e=>by
  subst e
  by_cases lt:m<ρ.length
  ·rw[List.getElem?_set_self lt] at o;exact o
  ·rw[List.getElem?_eq_none (by simpa using lt)] at o;exact o
 refine⟨h.tr,h.ht,h.h0,h.kp,h.t0,h.c0,h.m0,by simp[h.len],λj s q=>?_,λj l z ne o1 o2 q1 q2=>?_⟩
 ·by_cases e:j=i
  ·subst e
   have lt:j<ρ.length:=by
    have:=(List.getElem?_eq_some_iff.mp q).1
    simpa using this
   rw[List.getElem?_set_self lt] at q;cases q
   exact⟨a,List.getElem?_set_self (by rw[h.len];exact lt),ho⟩
  ·rw[List.getElem?_set_ne (Ne.symm e)] at q
   have w:=h.sl j s q
   have es:(σ.set i (some (V.ref a)))[j]? =σ[j]? :=List.getElem?_set_ne (Ne.symm e)
   cases s with
   |no=>trivial
   |v d=>obtain⟨x,h1,h2⟩:=w;exact⟨x,es.trans h1,h2⟩
   |own ds=>obtain⟨a,xs,h1,h2⟩:=w;exact⟨a,xs,es.trans h1,h2⟩
   |arg ds=>obtain⟨a,xs,h1,h2⟩:=w;exact⟨a,xs,es.trans h1,h2⟩
   |ob b=>obtain⟨a,h1,h2⟩:=w;exact⟨a,es.trans h1,h2⟩
 ·have e1:=nj j o1
  have e2:=nj l o2
  rw[List.getElem?_set_ne (Ne.symm e1)] at o1 q1;rw[List.getElem?_set_ne (Ne.symm e2)] at o2 q2;exact h.ap j l z ne o1 o2 q1 q2
end
theorem InFl.keeps {B:Heap}{l:List Env}{e:Addr}{o0:Obj}{h h':Heap}(x:InFl B l e o0 h)(k: ∀b o,h.get? b=some o->h'.get? b=some o):InFl B l e o0 h':=by
 refine⟨λb o q=>k b o (x.st b o q),x.ne,x.ff.of_keeps λb o q _=>⟨o,k b o q,rfl⟩,?_⟩
 rcases x.tr with⟨vs,T,oT,ts,h1,h2,h3,h4,h5,h6⟩|⟨vs,h1,h2⟩
 ·exact .inl ⟨vs,T,oT,ts,k _ _ h1,h2,h3,h4,k _ _ h5,h6⟩
 ·exact .inr ⟨vs,k _ _ h1,h2⟩
theorem Trc.keeps {B:Heap}{e:Addr}{o0:Obj}{h h':Heap}(x:Trc h B e o0)(k: ∀b o,h.get? b=some o->h'.get? b=some o):Trc h' B e o0:=by
 obtain⟨vs,T,oT,ts,h1,h2,h3,h4,h5,h6⟩:=x
 exact⟨vs,T,oT,ts,k _ _ h1,h2,h3,h4,k _ _ h5,h6⟩
section
variable {K:W.Frag}{M:Model}{A:Around}{E:Value->Shared->Prop}{s:Shared}{ea C D:Addr}{o:Obj}{b:Bool}
theorem ExcC.isExc(X:ExcC K D){h:Heap}(KI:K.In h):W.Looks M h (isExcClass (.ref D)) true:=by
 have L:W.Looks M h (isType (.ref D)) true:=by
  obtain⟨cd,hc⟩:=X.cls
  unfold W.clsIn at hc;split at hc
  ·rename_i c' d' cd' sl' ho
   intro A' Q' E' s' k q;unfold isType loadHead;exact wpAny_bind (wpAny_loadPart (k _ _ (KI _ _ ho)) (wpAny_pure q))
  ·cases hc
 unfold isExcClass;refine L.andThen ?_
 exact W.looks_mroIn KI X.mb
theorem ya {Q:Bool->Shared->Prop}(KI:K.In s.heap)(I:W.InstAt s.heap ea o C none)(X:ExcC K D)(ty:W.typeIn K (.ref D)=some (.type "type"))(hCD:W.mroIn K C (.ref D)=some b)(q:Q b s):wpAny M A (excMatches (.ref ea) (.ref D)) Q E s:=by
 obtain⟨hh,g,d,t,os⟩:=s
 have L0:W.Looks M hh (isInstance (.ref D) (.type "tuple")) false:=(W.looks_typeIn (M:=M) KI ty).andThen (W.Looks.of_pure tc_notTuple)
 have L1:=X.isExc (M:=M) KI
 have L2:=I.type (M:=M)
 have L3:=W.looks_mroIn (M:=M) KI hCD
 unfold excMatches;refine wpAny_bind (L0.at ?_)
 simp only[Bool.false_eq_true,if_false];refine wpAny_bind (wpAny_pure ?_)
 simp only[List.forIn_cons,List.forIn_nil];refine wpAny_bind (wpAny_bind (wpAny_bind (L1.at ?_)))
 simp only[Bool.not_true,Bool.false_eq_true,if_false];refine wpAny_pure (wpAny_pure (wpAny_bind (L2.at ?_)))
 refine wpAny_bind (wpAny_bind (wpAny_bind (L3.at ?_)))
 cases b with
 |true=>simp only[if_true];exact wpAny_pure (wpAny_pure (wpAny_pure q))
 |false=>simp only[Bool.false_eq_true,if_false];exact wpAny_pure (wpAny_pure (wpAny_pure q))
end
def Dd(X:Cx)(te:Expr)(ns ys:List Str):Prop:= ∀(v:Option Value) (ae:List (Addr×Obj)) (s:Shared) (σ:St) (H:Hp) (ea:Addr) (x:Str) (C:Addr) (o:Obj) (Q:Bool->Shared->Prop),Inv (X.caught v) ae σ H s->ns.contains x=true->
 W.nsIn X.K mainGlobals x=some (some (.ref C))->W.InstAt s.heap ea o C none->(∀s1 H1,Inv (X.caught v) ae σ H1 s1->Same H H1->(∀b o,s.heap.get? b=some o->s1.heap.get? b=some o)->s1.os=s.os->s1.gens=s.gens->Q (ys.any λy=>iN x y) s1)->
 wpAny (model X.prog X.w) (X.A.mark v) (eval te X.env) (λc s₁=>wpAny (model X.prog X.w) (X.A.mark v) (excMatches (.ref ea) c) Q (λ_ _=>False) s₁) (λ_ _=>False) s
section
variable {X:Cx}{y:Str}{p2:Pos}{CR D:Addr}{tbl:List (Str×Addr)}{ns:List Str}(T:ExTab X.K X.mg CR tbl)
include T
theorem wN(hT:tbl.map (·.1)=ns)(hD:(y,D)∈tbl)(hg:Gl X y:=by rfl)(hd:(y==("__debug__":Str))=false:=by decide):Dd X (.Name y p2) ns [y]:=by
 intro v ae s σ H ea x C o Q I hx hC io q;obtain⟨C',hC'⟩:=kn hT hx
 have:C'=C:=by
  have:=(T.row _ hC').ns
  rw[hC] at this;injection this with this;injection this with this
  exact(Value.ref.inj this).symm
 subst this;refine ip (X:=X.caught v) I hg (T.row _ hD).mg ?_ hd
 refine ya I.kIn io (T.row _ hD).cc (T.row _ hD).ty (T.mro hC' hD) ?_
 have:=q s H I (Same.refl _) (λ_ _ e=>e) rfl rfl
 simpa using this
end
theorem DA.nox {X:Cx}{c:Ct}{es:List Expr}{f:FA}(h:DA X.nox c es f):DA X c es f:=λhid ρ p ae s σ H Q I hw=>
 wpAny_mono (h hid ρ p ae s σ H Q (I.wish _) hw) (λ_ _ ⟨v,H',I',r,q⟩=>⟨v,H',I'.unwish,r,q⟩) λ_ _ z=>False.elim z
theorem yC {X:Cx}{c:Ct}{x:Str}{n:Int}{pos:Pos}(h: ∃tk,X.mg x=some (.int n tk))(hg:Gl X x:=by rfl)(hd:(x==("__debug__":Str))=false:=by decide):DP X c .s (.Name x pos) (am (.int n)):=λhid ρ=>by
 obtain⟨tk,hm⟩:=h
 exact PE.imp (m5 (v:=.int n) hg hm ⟨tk,rfl⟩ hd) λσ H Q ⟨sr,d,hd,q⟩=>by cases hd;exact q _ H (Same.refl _) .int
theorem xo {α:Type}{l:List α}: ∀q∈([]:List α),q∈l:=λ_ h=>nomatch h
theorem mem_cons {α:Type}{l r:List α}{a:α}(h:a∈l)(hr: ∀q∈r,q∈l): ∀q∈a::r,q∈l:=λq hq=>(List.mem_cons.mp hq).elim (λe=>by rw[e];exact h) (hr q)
theorem uX {α:Type}{P:α->Prop}: ∀q∈([]:List α),P q:=λ_ h=>nomatch h
theorem cE {α:Type}{P:α->Prop}{r:List α}{a:α}(h:P a)(hr: ∀q∈r,P q): ∀q∈a::r,P q:=λq hq=>(List.mem_cons.mp hq).elim (λe=>by rw[e];exact h) (hr q)
abbrev Dy(X:Cx):Prop:=X.stack=X.env::X.outer/\X.env.frame=some X.env.locals
def qX(i:Nat)(ns ys:List Str)(t:FX)(u:FS):FS:=λρ=>match t ρ with
 | .ok o=>o
 | .error z=>if ns.contains z.1.x=true/\(ys.any λy=>iN z.1.x y)=true then(match u (z.2.set i (.ob (.exc z.1.x z.1.n))) with
    | .rt d ρ2=>.rt d ρ2
    |_=>.no) else .no
section
variable {X:Cx}{c:Ct}{k:Kd}{body suite:List Stmt}{b0:Stmt}{te:Expr}{n:Str}{hpos pos:Pos}{t:FX}{u:FS}{ns ys:List Str}{i:Nat}
theorem uL(i:Nat)(hN:X.N.Nodup)(hf:Dy X)(hb: ∀pn E,nl (X.inTry pn E) c k body t)(hc:Dd X te ns ys)(hs: ∀v,oy (X.caught v) c k (b0::suite) u)(hi:X.N[i]? =some n:=by rfl)(hl:X.env.scope.names.lookup n=some .local:=by rfl):
 DS X c k (.Try body [.ExceptHandler (some te) (some n) (b0::suite) hpos] [] [] pos) (qX i ns ys t u):=λρ ae s σ H D I hq_=>by
 obtain⟨hid,sr,q⟩:=hq_
 unfold qX at q;refine wpAny_Try_except (wpAny_mono (hb (X.pn++ae) (λe s₁=>wpAny (model X.prog X.w) X.A (noteFrame e X.env) (λ_ s₂=>wpAny (model X.prog X.w) X.A (setFlight e none) (λ_ s₃=>
  wpAny (model X.prog X.w) X.A (handleBy e X.env [.ExceptHandler (some te) (some n) (b0::suite) hpos]) (SP X ae D) X.xe s₃) X.xe s₂) X.xe s₁) ρ [] s σ H D I.inTry ⟨hid,sr,?_⟩) (λf s₁ h₁=>?_) λe s₁ h=>h)
 ·cases e:t ρ with
  |ok o=>rw[e] at q;exact q
  |error zz=>
   obtain⟨z,ρ'⟩:=zz
   rw[e] at q;dsimp only at q;intro σ' H' hid' C sr' sm hn pins' ea o0 s' hcls hdict xs;obtain⟨g,F,Ig,aw,fl,up,gn⟩:=xs.outTry
   split at q
   ·rename_i hz
    obtain⟨stk,frm⟩:=hf
    have hfr:X.A.frames=some (X.env::X.outer):=by rw[<-stk];exact I.ok.frames
    have fl0:InFl (W.hideAll g F) (X.env::X.outer) ea o0 s'.heap:=by rw[<-stk];exact fl
    refine rX hfr frm fl0 λh1 fl1 tr1 up1=>?_
    have I1:Inv X ae σ' H' {s' with heap:=h1}:=XS.inv (s':={s' with heap:=h1}) ⟨g,F,Ig,aw,by rw[stk];exact fl1,up.trans up1,gn⟩
    have inst: ∀ {h:Heap},Trc h (W.hideAll g F) ea o0-> ∃o,W.InstAt h ea o C none:=λ{h} tr=>by
     obtain⟨vs,_,_,_,he,_⟩:=tr
     exact⟨_,he,hcls,rfl,by show(match o0.dict,none with|some dx,some o=>h.get? dx=some o|none,none=>True|_,_=>False);rw[hdict];trivial⟩
    obtain⟨o1,io⟩:=inst tr1
    refine wpAny_handleBy_cons (codeAny_handlers_test ?_) (by intro q;cases q)
    refine wpAny_mono (hc (some (.ref ea)) ae _ σ' H' ea z.x C o1 _ I1.caught hz.1 hn io λs2 H2 I2 sm2 kp2 os2 gs2=>?_) (λcl s₂ h₂=>wpAny_mono h₂ (λ_ _ z=>z) λ_ _ z=>z.elim) λ_ _ z=>z.elim
    rw[hz.2];simp only[if_true];refine codeAny_handlers_suite_as ?_
    have I2':Inv X ae σ' H2 s2:=I2.uncaught I.ok
    have fl2:=fl1.keeps kp2
    have tr2:=tr1.keeps kp2
    refine x6 fl2 tr2 λh3 fl3 tr3 up3=>?_
    have gk: ∀b o,g.get? b=some o->b∉F->s2.heap.get? b=some o:=λb o e nF=>fl2.st b o (W.hideAll_get _ e nF)
    have I3:Inv X ae σ' H' {s2 with heap:=h3}:=XS.inv (s':={s2 with heap:=h3}) ⟨g,F,by
     have:=Ig
     exact⟨this.ok,by show s2.os=_;rw[os2];exact this.os,by show AllBare s2.gens;rw[gs2];exact this.bare,this.base,this.loc,this.cell,this.free,this.freeC,this.pin,this.hok,this.len⟩,aw,by rw[stk];exact fl3,(up.trans up1).trans ((Heap.UpToSlots.of_keeps kp2).trans up3),gn⟩
    obtain⟨o3,io3⟩:=inst tr3
    have Ig':Inv X ae σ' H' {s2 with heap:=g}:=⟨Ig.ok,by show s2.os=_;rw[os2];exact Ig.os,by show AllBare s2.gens;rw[gs2];exact Ig.bare,Ig.base,Ig.loc,Ig.cell,Ig.free,Ig.freeC,Ig.pin,Ig.hok,Ig.len⟩
    have exat: ∀ {h:Heap},(∃o,W.InstAt h ea o C none)->ExcAt X.K z.x z.n ea h:=λ{h} ⟨o,io⟩=>⟨C,o,hn,io.at_,io.cls,by have:=io.dict;cases hd:o.dict with|none=>rfl|some dx=>rw[hd] at this;exact this.elim,io.no⟩
    have I4:Inv X ae σ' (cF H' ea (.ext (ExcAt X.K z.x z.n ea))) {s2 with heap:=h3}:=I3.track (g:=g) Ig' gn io3.at_ (exat ⟨o3,io3⟩) λk1 k2 ⟨C',o',w1,w2,w3⟩ kk=>⟨C',o',w1,kk _ w2,w3⟩
    have Hn:H' ea=none:=Ig.newer gn
    have sr4:SR X.K c hid' ρ' σ' (cF H' ea (.ext (ExcAt X.K z.x z.n ea))):=sr'.ext (bc Hn _)
    have ob4:ObOk X.K c hid' (cF H' ea (.ext (ExcAt X.K z.x z.n ea))) ea (.exc z.x z.n):=⟨_,vw_some.mpr ⟨sr'.fresh Hn,bf⟩,λh q=>q⟩
    refine kW (v:=.ref ea) I4 hN hi (.inl hl) rfl (λs5 I5=>?_) (.inr hl)
    have sr5:=sr4.setEx ob4 i
    cases eu:u (ρ'.set i (.ob (.exc z.x z.n))) with
    |rt d ρ2=>
     rw[eu] at q;refine wpAny_mono (hs (some (.ref ea)) (ρ'.set i (.ob (.exc z.x z.n))) ae s5 _ _ {nx:=λ_ _=>False,rt:=D.rt} I5.caught ⟨hid',sr5,by rw[eu];exact q⟩) (λf s6 h6=>?_) λ_ _ z=>z.elim
     cases f with
     |next=>obtain⟨_,_,_,z⟩:=h6;exact z.elim
     |brk=>obtain⟨_,_,_,z⟩:=h6;exact z.elim
     |cont=>obtain⟨_,_,_,z⟩:=h6;exact z.elim
     |ret u6=>
      obtain⟨v6,σ6,H6,I6,r6,q6⟩:=h6
      have J6:=I6.uncaught I.ok
      obtain⟨m6,n6,_⟩:=J6.loc
      exact wpAny_nameGoes hl n6 (by rw[J6.ok.kind];rfl) λh7 m7 n7 sb7=>⟨v6,_,H6,J6.blind n7 sb7,r6,q6⟩
    |nx ρ2=>rw[eu] at q;exact q.elim
    |bk ρ2=>rw[eu] at q;exact q.elim
    |ct ρ2=>rw[eu] at q;exact q.elim
    |no=>rw[eu] at q;exact q.elim
   ·exact q.elim
 ·cases f with
  |next=>exact wpAny_execs_nil (SP.outTry h₁)
  |brk=>exact SP.outTry h₁
  |cont=>exact SP.outTry h₁
  |ret u=>exact SP.outTry h₁
end
section
variable {X:Cx}{c:Ct}{e:Expr}{es:List Expr}{k:Kd}{pos p:Pos}{x:Str}{ps:List Str}{j n:Nat}
def dv(f:FE):FA:=λρ=>(f ρ).bind λd=>match d with
 | .lst ds=>some ds
 | .tup ds=>some ds
 |_=>none
theorem fb {tg iter:Expr}{f:FE}(h:DP X c .s iter f):DIp X c tg iter (dv f):=λhid ρ ae s σ H R I hq_=>by
 obtain⟨sr,ds,e1,q⟩:=hq_
 unfold dv at e1;cases e2:f ρ with
 |none=>rw[e2] at e1;cases e1
 |some d=>
  rw[e2,Option.bind_some] at e1;cases d with
  |lst xs=>cases e1;exact vj h hid ρ ae s σ H R I ⟨sr,ds,by unfold jF;rw[e2];rfl,q⟩
  |tup xs=>cases e1;exact yc h hid ρ ae s σ H R I ⟨sr,ds,by unfold xr;rw[e2];rfl,q⟩
  |_=>cases e1
end
theorem gE {a b:Addr}{l:List Addr}(h:(a::l).Nodup)(hb:b∈l): ¬b=a:=λe=>(List.nodup_cons.mp h).1 (e▸hb)
theorem n4 {es rest:List Expr}{x1}{pos:Pos}{env:Env}:starEach (.Tuple es x1 pos::rest) env=(false,eval (.Tuple es x1 pos) env)::starEach rest env:=by rfl
theorem uD {es rest:List Expr}{pos:Pos}{env:Env}:starEach (.List es pos::rest) env=(false,eval (.List es pos) env)::starEach rest env:=by rfl
@[elab_as_elim] theorem ar0 {motive:List Value->Prop} (us:List Value) (hl:us.length=0) (h:motive []):motive us:=by
 cases us with
 |nil=>exact h
 |cons a r=>exact absurd hl (Nat.succ_ne_zero _)
@[elab_as_elim] theorem ar1 {motive:List Value->Prop} (us:List Value) (hl:us.length=1) (h: ∀a0,motive [a0]):motive us:=by
 cases us with
 |nil=>exact absurd hl (by decide)
 |cons a0 r=>exact ar0 (motive:=λr=>motive (a0::r)) r (Nat.succ.inj hl) (h a0)
@[elab_as_elim] theorem ar2 {motive:List Value->Prop} (us:List Value) (hl:us.length=2) (h: ∀a0 a1,motive [a0,a1]):motive us:=by
 cases us with
 |nil=>exact absurd hl (by decide)
 |cons a0 r=>exact ar1 (motive:=λr=>motive (a0::r)) r (Nat.succ.inj hl) (h a0)
@[elab_as_elim] theorem ar3 {motive:List Value->Prop} (us:List Value) (hl:us.length=3) (h: ∀a0 a1 a2,motive [a0,a1,a2]):motive us:=by
 cases us with
 |nil=>exact absurd hl (by decide)
 |cons a0 r=>exact ar2 (motive:=λr=>motive (a0::r)) r (Nat.succ.inj hl) (h a0)
@[elab_as_elim] theorem ar4 {motive:List Value->Prop} (us:List Value) (hl:us.length=4) (h: ∀a0 a1 a2 a3,motive [a0,a1,a2,a3]):motive us:=by
 cases us with
 |nil=>exact absurd hl (by decide)
 |cons a0 r=>exact ar3 (motive:=λr=>motive (a0::r)) r (Nat.succ.inj hl) (h a0)
@[elab_as_elim] theorem ar5 {motive:List Value->Prop} (us:List Value) (hl:us.length=5) (h: ∀a0 a1 a2 a3 a4,motive [a0,a1,a2,a3,a4]):motive us:=by
 cases us with
 |nil=>exact absurd hl (by decide)
 |cons a0 r=>exact ar4 (motive:=λr=>motive (a0::r)) r (Nat.succ.inj hl) (h a0)
@[elab_as_elim] theorem ar6 {motive:List Value->Prop} (us:List Value) (hl:us.length=6) (h: ∀a0 a1 a2 a3 a4 a5,motive [a0,a1,a2,a3,a4,a5]):motive us:=by
 cases us with
 |nil=>exact absurd hl (by decide)
 |cons a0 r=>exact ar5 (motive:=λr=>motive (a0::r)) r (Nat.succ.inj hl) (h a0)
@[irreducible] def QP (X:Cx) (c:Ct) (e:Expr) (f:FE):Prop:=DP X c .s e f
@[irreducible] def QA (X:Cx) (c:Ct) (es:List Expr) (f:FA):Prop:=DA X c es f
@[irreducible] def QS (X:Cx) (c:Ct) (k:Kd) (st:Stmt) (t:FS):Prop:=DS X c k st t
@[irreducible] def QSs (X:Cx) (c:Ct) (k:Kd) (st:List Stmt) (t:FS):Prop:=oy X c k st t
section
variable {X:Cx}{c:Ct}{k:Kd}{e a b:Expr}{es:List Expr}{f g:FE}{fs:FA}{pos pos':Pos}{st:Stmt}{rest:List Stmt}{t u:FS}{x:Str}
theorem QP.of(h:DP X c .s e f):QP X c e f:=by unfold QP;exact h
theorem QP.dp(h:QP X c e f):DP X c .s e f:=by unfold QP at h;exact h
theorem QA.da(h:QA X c es fs):DA X c es fs:=by unfold QA at h;exact h
theorem QS.of(h:DS X c k st t):QS X c k st t:=by unfold QS;exact h
theorem QS.ds(h:QS X c k st t):DS X c k st t:=by unfold QS at h;exact h
theorem QSs.to(h:QSs X c k rest t):oy X c k rest t:=by unfold QSs at h;exact h
theorem iV:QA X c [] af:=by unfold QA;exact av
theorem aT(h:QP X c e f)(hr:QA X c es fs)(hs:starEach (e::es) X.env=(false,eval e X.env)::starEach es X.env:=by rfl):QA X c (e::es) (aa f fs):=by unfold QA;exact ak h.dp hr.da hs
theorem v7 {x1}(h:QA X c es fs):QP X c (.Tuple es x1 pos) (dZ fs):=.of (fW h.da)
theorem kN(h:QA X c es fs):QP X c (.List es pos) (bQ fs):=.of (DP.toS (fk h.da))
theorem uT(h1:QP X c a f)(h2:QP X c b g):QP X c (.BinOp a .Add b pos) (aj fL f g):=.of (DP.toS (ia h1.dp h2.dp))
theorem mU(i:Nat)(hn:X.N.Nodup)(he:QP X c e f)(hi:X.N[i]? =some x:=by rfl)(hx:wu X.env.scope x:=by first|exact Or.inl rfl|exact Or.inr rfl)(hs:swapsWith e (some (.Name x pos')) pos.line X.env=pure false:=by rfl)
 (hf:X.fn x=true\/X.env.scope.names.lookup x=some .local:=by first|exact .inl rfl|exact .inr rfl|assumption):QS X c k (.Assign [.Name x pos'] e pos) (aN i f):=.of (bv i hn he.dp hi hx hs hf)
theorem i4(h1:QS X c k st t)(h2:QSs X c k rest u):QSs X c k (st::rest) (aA t u):=by unfold QSs;exact aq h1.ds h2.to
theorem xT(h:QS X c k st t):QSs X c k [st] t:=by unfold QSs;exact az h.ds
end
end L2
namespace PySem
open Sem (wp)
section
variable {prog:Program}{w:World}{A:Around}{E:Value->Shared->Prop}{s:Shared}
theorem nv {z TI TO i1 i2:Addr}{N N' M M':Heap->Prop}{x y a b:Value}{Q:Value->Shared->Prop}(c1:TI≠z)(c2:TO≠z)(c3:i1≠z)(c4:i2≠z)(c5:TO≠i1)(c6:TO≠i2)(c7:i1≠i2)
 (kz:IsZip s.heap z TI TO .none) (kI:IsPair s.heap TI (.ref i1) (.ref i2)) (kO:IsPair s.heap TO a b)
 (n0:N s.heap) (m0:M s.heap) (nk: ∀g g' d,d=z->N g->Heap.SameBut d g g'->N g') (mk: ∀g g' d,d=z\/d=i1\/d=TO->M g->Heap.SameBut d g g'->M g')
 (n1: ∀(A':Around) (E':Value->Shared->Prop) (s':Shared) (Q':Value->Shared->Prop),N s'.heap->(∀g,N' g->Heap.SameBut i1 s'.heap g->Q' x {s' with heap:=g})->wpAny (model prog w) A' (Builtin.SmallTypes.nextOf (.ref i1)) Q' E' s')
 (m1: ∀(A':Around) (E':Value->Shared->Prop) (s':Shared) (Q':Value->Shared->Prop),M s'.heap->(∀g,M' g->Heap.SameBut i2 s'.heap g->Q' y {s' with heap:=g})->wpAny (model prog w) A' (Builtin.SmallTypes.nextOf (.ref i2)) Q' E' s')
 (nk': ∀g g',N' g->(∀o,g.get? i1=some o->g'.get? i1=some o)->N' g') (mk': ∀g g',M' g->(∀o,g.get? i2=some o->g'.get? i2=some o)->M' g')
 (hQ: ∀g,IsZip g z TI TO (rawInt s.heap.objs.size)->IsPair g TO x y->N' g->M' g->IsPair g s.heap.objs.size x y->g.objs.size=s.heap.objs.size+1->
   (∀c o,c≠z->c≠TO->c≠i1->c≠i2->s.heap.get? c=some o->g.get? c=some o)->Q (.ref s.heap.objs.size) {s with heap:=g}):
 wpAny (model prog w) A (Builtin.«zip.__next__» ⟨[.ref z],[]⟩) (λfin s'=> ∃v,fin=.done (.ret v)/\Q v s') E s:=by
 show wpAny _ _ (field (.ref z) 2>>=_) _ _ _;refine wpAny_bind (wpAny_field kz rfl (x:=.bool false) rfl (show wpAny _ _ (field (.ref z) 3>>=_) _ _ _ from wpAny_bind (wpAny_field kz rfl (x:=.ref TI) rfl (wpAny_bind (wpAny_seqItems kI rfl ?_)))))
 show wpAny _ _ (Builtin.SmallTypes.ownedTupleIsFree (.ref z)>>=_) _ _ _;refine wpAny_bind ?_
 unfold Builtin.SmallTypes.ownedTupleIsFree;refine wpAny_bind (wpAny_field kz rfl (x:=.none) rfl (wpAny_pure ?_))
 simp only[if_true];refine wpAny_bind (wpAny_rule (wpAny_bind (wpAny_field kz rfl (x:=.ref TO) rfl (wpAny_bind (wpAny_setField_rec kz (by simp) λg1 kz1 b1=>?_)))))
 replace kz1:IsZip g1 z TI TO .ellipsis:=kz1
 refine wpAny_bind ?_
 simp only[List.zipIdx_cons,List.zipIdx_nil,List.forIn_cons,List.forIn_nil];refine wpAny_bind (wpAny_bind (wpAny_onRaise (show wpAny _ _ (Builtin.SmallTypes.nextOf (.ref i1)>>=_) _ _ _ from wpAny_bind (n1 _ _ _ _ (nk _ _ z rfl n0 b1) λg2 nn b2=>wpAny_pure ?_))))
 have kO2:IsPair g2 TO a b:=b2.extBut _ _ c5 (b1.extBut _ _ c2 kO)
 refine wpAny_bind (wpAny_seqItems kO2 rfl (wpAny_bind (wpAny_updateSeq_pair kO2 λg3 kO3 b3=>wpAny_bind (wpAny_letGo (wpAny_pure ?_)))))
 replace kO3:IsPair g3 TO x b:=kO3
 refine wpAny_bind (wpAny_bind (wpAny_onRaise (show wpAny _ _ (Builtin.SmallTypes.nextOf (.ref i2)>>=_) _ _ _ from wpAny_bind (m1 _ _ _ _ (mk _ _ TO (.inr (.inr rfl)) (mk _ _ i1 (.inr (.inl rfl)) (mk _ _ z (.inl rfl) m0 b1) b2) b3) λg4 mm b4=>wpAny_pure ?_))))
 have kO4:IsPair g4 TO x b:=b4.extBut _ _ c6 kO3
 refine wpAny_bind (wpAny_seqItems kO4 rfl (wpAny_bind (wpAny_updateSeq_pair kO4 λg5 kO5 b5=>wpAny_bind (wpAny_letGo (wpAny_pure (wpAny_pure ?_))))))
 replace kO5:IsPair g5 TO x y:=kO5
 refine wpAny_bind (wpAny_seqItems kO5 rfl (wpAny_bind (wpAny_newTuple ?_)))
 have sz5:g5.objs.size=s.heap.objs.size:=by rw[b5.1,b4.1,b3.1,b2.1,b1.1]
 have kz5:IsZip g5 z TI TO .ellipsis:=b5.extBut _ _ c2.symm (b4.extBut _ _ c4.symm (b3.extBut _ _ c2.symm (b2.extBut _ _ c3.symm kz1)))
 have keep5: ∀c o,c≠z->c≠TO->c≠i1->c≠i2->s.heap.get? c=some o->g5.get? c=some o:=λc o d1 d2 d3 d4 e=>b5.extBut _ _ d2 (b4.extBut _ _ d4 (b3.extBut _ _ d2 (b2.extBut _ _ d3 (b1.extBut _ _ d1 e))))
 have nn5:N' g5:=nk' g2 g5 nn λo e=>b5.extBut _ _ c5.symm (b4.extBut _ _ c7 (b3.extBut _ _ c5.symm e))
 have mm5:M' g5:=mk' g4 g5 mm λo e=>b5.extBut _ _ c6.symm e
 have ltz:z<g5.objs.size:=Heap.lt_size kz5
 show wpAny _ _ (Builtin.SmallTypes.ownedTupleHandOut (.ref z) (.ref g5.objs.size)>>=_) _ _ _;refine wpAny_bind ?_
 unfold Builtin.SmallTypes.ownedTupleHandOut;have kz6:IsZip (g5.push {cls:=.type "tuple",data:=.seq #[x,y]}) z TI TO .ellipsis:=Heap.get?_push_of_some _ kz5
 refine wpAny_bind (wpAny_setField_rec kz6 (by simp) λg7 kz7 b7=>?_)
 replace kz7:IsZip g7 z TI TO (rawInt g5.objs.size):=kz7
 refine wpAny_setField_rec kz7 (by simp) λg8 kz8 b8=>?_
 replace kz8:IsZip g8 z TI TO (rawInt g5.objs.size):=kz8
 have up: ∀c o,c≠z->g5.get? c=some o->g8.get? c=some o:=λc o d e=>b8.extBut _ _ d (b7.extBut _ _ d (Heap.get?_push_of_some _ e))
 have kT:IsPair g8 g5.objs.size x y:=b8.extBut _ _ (Nat.ne_of_gt ltz) (b7.extBut _ _ (Nat.ne_of_gt ltz) (Heap.get?_push_size _ rfl))
 have sz8:g8.objs.size=g5.objs.size+1:=by rw[b8.1,b7.1,Heap.size_push]
 rw[sz5] at kz8 kT sz8;refine wpAny_pure ⟨_,rfl,?_⟩
 show Q (.ref g5.objs.size) _;rw[sz5];exact hQ g8 kz8 (up _ _ c2 kO5) (nk' g5 g8 nn5 λo e=>up _ o c3 e) (mk' g5 g8 mm5 λo e=>up _ o c4 e) kT sz8 λc o d1 d2 d3 d4 e=>up c o d1 (keep5 c o d1 d2 d3 d4 e)
theorem nG {z TI TO i1 i2 l1 l2:Addr}{k1 k2:Nat}{xs ys:Array Value}{x y a b:Value}{Q:Option Value->Shared->Prop}(D:ZipApart z TI TO i1 i2 l1 l2)
 (kz:IsZip s.heap z TI TO .none) (kI:IsPair s.heap TI (.ref i1) (.ref i2)) (kO:IsPair s.heap TO a b)
 (h1:s.heap.IsTupleIter i1 l1 k1) (h2:s.heap.IsTupleIter i2 l2 k2) (t1:s.heap.IsTuple l1 xs) (t2:s.heap.IsTuple l2 ys) (hx:xs[k1]? =some x) (hy:ys[k2]? =some y)
 (hQ: ∀g,IsZip g z TI TO (rawInt s.heap.objs.size)->IsPair g TO x y->g.IsTupleIter i1 l1 (k1+1)->g.IsTupleIter i2 l2 (k2+1)->IsPair g s.heap.objs.size x y->g.objs.size=s.heap.objs.size+1->
   (∀c o,c≠z->c≠TO->c≠i1->c≠i2->s.heap.get? c=some o->g.get? c=some o)->Q (some (.ref s.heap.objs.size)) {s with heap:=g}):
 wpAny (model prog w) A (pyNext (.ref z)) Q E s:=by
 have hT:s.TypeIs (.ref z) "zip":=⟨_,kz,rfl⟩
 have at1: ∀ {g g':Heap} {l:Addr} {us:Array Value},g.IsTuple l us->(∀o,g.get? l=some o->g'.get? l=some o)->g'.IsTuple l us:=λt k=>let⟨o,e,r⟩:=t;⟨o,k o e,r⟩
 unfold pyNext;exact wpAny_bind (wpAny_attempt (wpAny_callSpecial?_slot (name:=Str.ofString "__next__") hT F.slot_zip_next (wpAny_call_entry F.slot_zip_next hT F.entry_zip_next
  (nv (N:=λg=>g.IsTupleIter i1 l1 k1/\g.IsTuple l1 xs) (N':=λg=>g.IsTupleIter i1 l1 (k1+1)) (M:=λg=>g.IsTupleIter i2 l2 k2/\g.IsTuple l2 ys) (M':=λg=>g.IsTupleIter i2 l2 (k2+1)) D.TIz D.TOz D.i1z D.i2z D.TOi1 D.TOi2 D.i12 kz kI kO ⟨h1,t1⟩ ⟨h2,t2⟩
    (λg g' d e n b=>by subst e;exact⟨n.1.at λo q=>b.extBut _ _ D.i1z q,at1 n.2 λo q=>b.extBut _ _ D.l1z q⟩)
    (λg g' d e m b=>by
      rcases e with rfl|rfl|rfl
      ·exact⟨m.1.at λo q=>b.extBut _ _ D.i2z q,at1 m.2 λo q=>b.extBut _ _ D.l2z q⟩
      ·exact⟨m.1.at λo q=>b.extBut _ _ D.i12.symm q,at1 m.2 λo q=>b.extBut _ _ D.l2i1 q⟩
      ·exact⟨m.1.at λo q=>b.extBut _ _ D.TOi2.symm q,at1 m.2 λo q=>b.extBut _ _ D.l2TO q⟩)
    (λA' E' s' Q' n q=>fq n.1 n.2 hx q) (λA' E' s' Q' m q=>fq m.1 m.2 hy q) (λg g' n k=>n.at k) (λg g' m k=>m.at k)
    λg p1 p2 p3 p4 p5 p6 p7=>wpAny_pure (hQ g p1 p2 p3 p4 p5 p6 p7)) (F.args_zip_next_1 _))))
theorem pH {z TI TO i1 i2 l1 l2:Addr}{k1 k2:Nat}{xs ys:Array Value}{a b:Value}{Q:Option Value->Shared->Prop}(hA:A.handled=none)(D:ZipApart z TI TO i1 i2 l1 l2)
 (kz:IsZip s.heap z TI TO .none) (kI:IsPair s.heap TI (.ref i1) (.ref i2)) (kO:IsPair s.heap TO a b)
 (h1:s.heap.IsTupleIter i1 l1 k1) (h2:s.heap.IsTupleIter i2 l2 k2) (t1:s.heap.IsTuple l1 xs) (t2:s.heap.IsTuple l2 ys) (hn:xs[k1]? =none\/ys[k2]? =none)
 (hQ: ∀g,(∀c o,c≠z->c≠TO->c≠i1->c≠i2->s.heap.get? c=some o->g.get? c=some o)->Q none {s with heap:=g}):wpAny (model prog w) A (pyNext (.ref z)) Q E s:=by
 have hT:s.TypeIs (.ref z) "zip":=⟨_,kz,rfl⟩
 have at1: ∀ {g g':Heap} {l:Addr} {us:Array Value},g.IsTuple l us->(∀o,g.get? l=some o->g'.get? l=some o)->g'.IsTuple l us:=λt k=>let⟨o,e,r⟩:=t;⟨o,k o e,r⟩
 unfold pyNext;refine wpAny_bind (wpAny_attempt (wpAny_callSpecial?_slot (name:=Str.ofString "__next__") hT F.slot_zip_next (wpAny_call_entry F.slot_zip_next hT F.entry_zip_next ?_ (F.args_zip_next_1 _))))
 show wpAny _ _ (field (.ref z) 2>>=_) _ _ _;refine wpAny_bind (wpAny_field kz rfl (x:=.bool false) rfl (show wpAny _ _ (field (.ref z) 3>>=_) _ _ _ from wpAny_bind (wpAny_field kz rfl (x:=.ref TI) rfl (wpAny_bind (wpAny_seqItems kI rfl ?_)))))
 show wpAny _ _ (Builtin.SmallTypes.ownedTupleIsFree (.ref z)>>=_) _ _ _;refine wpAny_bind ?_
 unfold Builtin.SmallTypes.ownedTupleIsFree;refine wpAny_bind (wpAny_field kz rfl (x:=.none) rfl (wpAny_pure ?_))
 simp only[if_true];refine wpAny_bind (wpAny_rule (wpAny_bind (wpAny_field kz rfl (x:=.ref TO) rfl (wpAny_bind (wpAny_setField_rec kz (by simp) λg1 kz1 b1=>?_)))))
 replace kz1:IsZip g1 z TI TO .ellipsis:=kz1
 refine wpAny_bind ?_
 simp only[List.zipIdx_cons,List.zipIdx_nil,List.forIn_cons,List.forIn_nil];refine wpAny_bind (wpAny_bind (wpAny_onRaise ?_))
 show wpAny _ _ (Builtin.SmallTypes.nextOf (.ref i1)>>=_) _ _ _;cases hx:xs[k1]? with
 |none=>
  refine wpAny_bind (iA hA (h1.at λo q=>b1.extBut _ _ D.i1z q) (at1 t1 λo q=>b1.extBut _ _ D.l1z q) hx λg2 e b2 he=>?_)
  obtain⟨oe,hoe,hce⟩:=he
  have kz2:IsZip g2 z TI TO .ellipsis:=b2 _ _ D.i1z.symm kz1
  have ez:e≠z:=λq=>by subst q;rw[kz2] at hoe;cases hoe;simp at hce
  exact wpAny_setField_rec kz2 (by simp) λg3 _ b3=>wpAny_bind (wpAny_isInstance (T:="StopIteration") (b:=true) ⟨oe,b3.extBut _ _ ez hoe,hce⟩ isSubtype_stop (wpAny_pure (hQ _ λc o d1 _ d3 _ q=>b3.extBut _ _ d1 (b2 _ _ d3 (b1.extBut _ _ d1 q)))))
 |some x=>
  have hy:ys[k2]? =none:=by
   rcases hn with q|q
   ·rw[hx] at q;cases q
   ·exact q
  refine wpAny_bind (fq (h1.at λo q=>b1.extBut _ _ D.i1z q) (at1 t1 λo q=>b1.extBut _ _ D.l1z q) hx λg2 nn b2=>wpAny_pure ?_)
  have kO2:IsPair g2 TO a b:=b2.extBut _ _ D.TOi1 (b1.extBut _ _ D.TOz kO)
  refine wpAny_bind (wpAny_seqItems kO2 rfl (wpAny_bind (wpAny_updateSeq_pair kO2 λg3 kO3 b3=>wpAny_bind (wpAny_letGo (wpAny_pure ?_)))))
  refine wpAny_bind (wpAny_bind (wpAny_onRaise ?_))
  show wpAny _ _ (Builtin.SmallTypes.nextOf (.ref i2)>>=_) _ _ _;refine wpAny_bind (iA hA (h2.at λo q=>b3.extBut _ _ D.TOi2.symm (b2.extBut _ _ D.i12.symm (b1.extBut _ _ D.i2z q))) (at1 t2 λo q=>b3.extBut _ _ D.l2TO (b2.extBut _ _ D.l2i1 (b1.extBut _ _ D.l2z q))) hy λg4 e b4 he=>?_)
  obtain⟨oe,hoe,hce⟩:=he
  have kz4:IsZip g4 z TI TO .ellipsis:=b4 _ _ D.i2z.symm (b3.extBut _ _ D.TOz.symm (b2.extBut _ _ D.i1z.symm kz1))
  have ez:e≠z:=λq=>by subst q;rw[kz4] at hoe;cases hoe;simp at hce
  exact wpAny_setField_rec kz4 (by simp) λg5 _ b5=>wpAny_bind (wpAny_isInstance (T:="StopIteration") (b:=true) ⟨oe,b5.extBut _ _ ez hoe,hce⟩ isSubtype_stop (wpAny_pure (hQ _ λc o d1 d2 d3 d4 q=>b5.extBut _ _ d1 (b4 _ _ d4 (b3.extBut _ _ d2 (b2.extBut _ _ d3 (b1.extBut _ _ d1 q)))))))
def lK(h:Heap)(l1 l2:Addr):Heap:=
 ((((h.push {cls:=.type "tuple_iterator",data:=.fields #[.ref l1,.int 0 0]}).push {cls:=.type "tuple_iterator",data:=.fields #[.ref l2,.int 0 0]}).push {cls:=.type "tuple",data:=.seq #[.ref h.objs.size,.ref (h.objs.size+1)]}).push {cls:=.type "tuple",data:=.seq #[.none,.none]}).push {cls:=.type "zip",data:=.fields #[.none,.bool false,.bool false,.ref (h.objs.size+2),.ref (h.objs.size+3)]}
theorem om {h:Heap}{l:Addr}{us:Array Value}(t:h.IsTuple l us)(o':Obj):(h.push o').IsTuple l us:=let⟨o,e,r⟩:=t;⟨o,Heap.get?_push_of_some _ e,r⟩
theorem oE(l1 l2:Addr)(xs ys:Array Value):
 Meets (Builtin.«zip.__new__» ⟨[.type "zip",.ref l1,.ref l2],[]⟩) (λ_ R s=>s.heap.IsTuple l1 xs/\s.heap.IsTuple l2 ys/\R (.ok (.ret (.ref (s.heap.objs.size+4)))) {s with heap:=lK s.heap l1 l2}):=
 .of_wp λprog w A R s h=>by
  obtain⟨hp,g,d,tk,os⟩:=s
  obtain⟨t1,t2,h⟩:=h
  have hsub:=sub_zip
  have q1:Heap.IsTuple (Shared.heap ⟨hp,g,d,tk,os⟩) l1 xs:=t1
  have q2:Heap.IsTuple (Shared.heap ⟨hp.push {cls:=.type "tuple_iterator",data:=.fields #[.ref l1,.int 0 0]},g,d,tk,os⟩) l2 ys:=om t2 _
  wp_walk using wpAny_pyIter_tuple q1,wpAny_pyIter_tuple q2
  refine⟨_,rfl,?_⟩
  simp only[Heap.size_push] at*;exact h
theorem nw {l1 l2:Addr}{xs ys:Array Value}{Q:Value->Shared->Prop}(t1:s.heap.IsTuple l1 xs)(t2:s.heap.IsTuple l2 ys)
 (h: ∀g,IsZip g (s.heap.objs.size+4) (s.heap.objs.size+2) (s.heap.objs.size+3) .none->IsPair g (s.heap.objs.size+2) (.ref s.heap.objs.size) (.ref (s.heap.objs.size+1))->
   IsPair g (s.heap.objs.size+3) .none .none->g.IsTupleIter s.heap.objs.size l1 0->g.IsTupleIter (s.heap.objs.size+1) l2 0->(∀c o,s.heap.get? c=some o->g.get? c=some o)->Q (.ref (s.heap.objs.size+4)) {s with heap:=g}):
 wpAny (model prog w) A (call (.type "zip") [.ref l1,.ref l2]) Q E s:=by
 refine callType_new F.called_zip (by decide) (F.typeCall_zip_2 _ _) (F.newCall_zip_2 _ _) (λobj=>F.args_object_init_3 obj _ _) F.entry_zip_new (oE l1 l2 xs ys) ⟨t1,t2,?_⟩
 have at_: ∀(h:Heap) (o:Obj) (n:Nat),h.objs.size=n->o.isFreed=false->(h.push o).get? n=some o:=λh o n e f=>by subst e;exact Heap.get?_push_size _ f
 have keep: ∀c o,s.heap.get? c=some o->(lK s.heap l1 l2).get? c=some o:=λc o e=>Heap.get?_push_of_some _ (Heap.get?_push_of_some _ (Heap.get?_push_of_some _ (Heap.get?_push_of_some _ (Heap.get?_push_of_some _ e))))
 have e5:(lK s.heap l1 l2).get? (s.heap.objs.size+4)=some _:=at_ _ _ _ (by simp only[Heap.size_push]) rfl
 have e4:(lK s.heap l1 l2).get? (s.heap.objs.size+3)=some _:=Heap.get?_push_of_some _ (at_ _ _ _ (by simp only[Heap.size_push]) rfl)
 have e3:(lK s.heap l1 l2).get? (s.heap.objs.size+2)=some _:=Heap.get?_push_of_some _ (Heap.get?_push_of_some _ (at_ _ _ _ (by simp only[Heap.size_push]) rfl))
 have e2:(lK s.heap l1 l2).get? (s.heap.objs.size+1)=some _:=Heap.get?_push_of_some _ (Heap.get?_push_of_some _ (Heap.get?_push_of_some _ (at_ _ _ _ (by simp only[Heap.size_push]) rfl)))
 have e1:(lK s.heap l1 l2).get? s.heap.objs.size=some _:=Heap.get?_push_of_some _ (Heap.get?_push_of_some _ (Heap.get?_push_of_some _ (Heap.get?_push_of_some _ (at_ _ _ _ rfl rfl))))
 show _/\_;exact⟨⟨_,e5,rfl⟩,h _ e5 e3 e4 ⟨_,e1,rfl,rfl⟩ ⟨_,e2,rfl,rfl⟩ keep⟩
end
end PySem
namespace L2
open PySem PySem.Spec PyProof.Rows
def AO(K:W.Frag)(a b:Addr):It:=
 ⟨λi H=> ∃xs ys x y,SqT K H a xs/\SqT K H b ys/\xs[i]? =some x/\ys[i]? =some y,λi H x H'=> ∃T,x=.ref T/\H T=none/\ ∀xs ys,SqT K H a xs->SqT K H b ys-> ∃y z,xs[i]? =some y/\ys[i]? =some z/\H'=cF H T (.tup [y,z]),λi H=> ∃xs ys,SqT K H a xs/\SqT K H b ys/\(xs.length<=i\/ys.length<=i)⟩
theorem tK {P:Program}{w:World}{K:W.Frag}{es:List Expr}{x1}{pos:Pos}(a b z TI TO i1 i2:Addr)(AP:ZipApart z TI TO i1 i2 a b):Turn P w K (.Tuple es x1 pos) (AO K a b) [z,TI,TO,i1,i2] z (λi h=>IsZip h z TI TO .none/\IsPair h TI (.ref i1) (.ref i2)/\(∃p q,IsPair h TO p q)/\h.IsTupleIter i1 a i/\h.IsTupleIter i2 b i) where
 mem:=by simp
 obj:=λi h st c hc=>by
  obtain⟨hz,hTI,⟨p,q,hTO⟩,⟨o1,ho1,_,hd1⟩,⟨o2,ho2,_,hd2⟩⟩:=st
  simp only[List.mem_cons,List.not_mem_nil,or_false] at hc;rcases hc with rfl|rfl|rfl|rfl|rfl
  ·exact⟨_,hz,λv e=>by cases e⟩
  ·exact⟨_,hTI,λv e=>by cases e⟩
  ·exact⟨_,hTO,λv e=>by cases e⟩
  ·exact⟨_,ho1,λv e=>by rw[hd1] at e;cases e⟩
  ·exact⟨_,ho2,λv e=>by rw[hd2] at e;cases e⟩
 keep:=λi h h' st k=>by
  obtain⟨hz,hTI,⟨p,q,hTO⟩,h1,h2⟩:=st
  exact⟨k z (by simp) _ hz,k TI (by simp) _ hTI,⟨p,q,k TO (by simp) _ hTO⟩,h1.at λo x=>k i1 (by simp) o x,h2.at λo x=>k i2 (by simp) o x⟩
 item:=by
  intro X hP hw hK hc i ae s σ H E I hf st hg;subst hP hw hK;obtain⟨xs,ys,x,y,hqx,hqy,hx,hy⟩:=hg
  obtain⟨itx,rvx,px,hzx⟩:=I.tuple hqx
  obtain⟨ity,rvy,py,hzy⟩:=I.tuple hqy
  obtain⟨u,hu,ru⟩:=rvx.get hx
  obtain⟨v,hv,rv⟩:=rvy.get hy
  obtain⟨hz,hTI,⟨p,q,hTO⟩,h1,h2⟩:=st
  refine nG AP hz hTI hTO h1 h2 (show s.heap.IsTuple a itx.toArray from px) (show s.heap.IsTuple b ity.toArray from py) (x:=u) (y:=v) (by simpa using hu) (by simpa using hv) λg gz gTO g1 g2 gT gsz hk=>⟨_,rfl,?_⟩
  refine wpAny_letOwnedTupleGo_zip gz λg' gz' hs'=>?_
  have lz:z<s.heap.objs.size:=Heap.lt_size hz
  have lTI:TI<s.heap.objs.size:=Heap.lt_size hTI
  have lTO:TO<s.heap.objs.size:=Heap.lt_size hTO
  have li1:i1<s.heap.objs.size:=let⟨_,e,_⟩:=h1;Heap.lt_size e
  have li2:i2<s.heap.objs.size:=let⟨_,e,_⟩:=h2;Heap.lt_size e
  have sb: ∀c,c≠z->g'.get? c=g.get? c:=λc hc=>hs'.2 c hc
  have gT':g'.get? s.heap.objs.size=some {cls:=.type "tuple",data:=.seq #[u,v]}:=(sb _ (Nat.ne_of_gt lz)).trans gT
  have gTO':IsPair g' TO u v:=(sb _ AP.TOz).trans gTO
  have g1':g'.IsTupleIter i1 a (i+1):=g1.at λo e=>(sb _ AP.i1z).trans e
  have g2':g'.IsTupleIter i2 b (i+1):=g2.at λo e=>(sb _ AP.i2z).trans e
  have gTI':IsPair g' TI (.ref i1) (.ref i2):=(sb _ AP.TIz).trans (hk TI _ AP.TIz AP.TITO AP.TIi1 AP.TIi2 hTI)
  have hn:H s.heap.objs.size=none:=I.hok.fresh (Nat.le_refl _)
  have fl: ∀c∈[z,TI,TO,i1,i2],c<s.heap.objs.size:=λc hc=>by
   simp only[List.mem_cons,List.not_mem_nil,or_false] at hc;rcases hc with rfl|rfl|rfl|rfl|rfl<;>assumption
  have hf': ∀c∈[z,TI,TO,i1,i2],iu X ae (cF H s.heap.objs.size (.tup [x,y])) c:=λc hc=>by
   obtain⟨f0,f1,f2,f3,f4,f5⟩:=hf c hc
   exact⟨by rw[aM (Nat.ne_of_lt (fl c hc))];exact f0,f1,f2,f3,f4,f5⟩
  have I0:Inv X ae σ (cF H s.heap.objs.size (.tup [x,y])) {s with heap:=s.heap.push {cls:=.type "tuple",data:=.seq #[u,v]},toks:=s.toks}:=
   I.laid (t':=s.toks) (λb o q=>Heap.get?_push_of_some _ q) (Nat.le_refl _) (show ObjOk X.prog X.w _ _ _ (.tup [x,y]) from
    ⟨Nat.le_of_lt (ig (by simp)),[u,v],.cons ru (.cons rv .nil),⟨_,Heap.get?_push_size _ rfl,rfl,_,rfl⟩,_,Heap.get?_push_size _ rfl,rfl⟩)
  have I1:Inv X ae σ (cF H s.heap.objs.size (.tup [x,y])) {s with heap:=g',toks:=s.toks}:=by
   have:=Inv.turnedL (t':=s.toks) (h':=g') [z,TI,TO,i1,i2] I0 hf' λc o hc e=>?_
   ·exact this
   simp only[List.mem_cons,List.not_mem_nil,or_false,not_or] at hc
   by_cases ec:c=s.heap.objs.size
   ·subst ec
    have e:(s.heap.push {cls:=.type "tuple",data:=.seq #[u,v]}).get? s.heap.objs.size=some o:=e
    rw[Heap.get?_push_size _ rfl] at e;cases e;exact gT'
   ·have e:(s.heap.push {cls:=.type "tuple",data:=.seq #[u,v]}).get? c=some o:=e
    rw[Heap.get?_push_ne _ _ _ ec] at e;exact(sb c hc.1).trans (hk c o hc.1 hc.2.2.1 hc.2.2.2.1 hc.2.2.2.2 e)
  refine⟨.ref s.heap.objs.size,cF H s.heap.objs.size (.tup [x,y]),I1,rfl,⟨_,rfl,hn,λxs' ys' hx' hy'=>⟨x,y,by rw[I.tuple_inj hx' hqx];exact hx,by rw[I.tuple_inj hy' hqy];exact hy,rfl⟩⟩,⟨gz',gTI',⟨_,_,gTO'⟩,g1',g2'⟩,λc hc=>(hf' c hc).1⟩
 done:=by
  intro X hP hw hK hc i ae s σ H E I hf st hg;subst hP hw hK;obtain⟨xs,ys,hqx,hqy,hx⟩:=hg
  obtain⟨itx,rvx,px,hzx⟩:=I.tuple hqx
  obtain⟨ity,rvy,py,hzy⟩:=I.tuple hqy
  obtain⟨hz,hTI,⟨p,q,hTO⟩,h1,h2⟩:=st
  have l1:=rvx.length
  have l2:=rvy.length
  refine pH (I.ok.hd hc) AP hz hTI hTO h1 h2 (show s.heap.IsTuple a itx.toArray from px) (show s.heap.IsTuple b ity.toArray from py) (hx.imp (λe=>by simp;omega) λe=>by simp;omega) λg hk=>⟨rfl,?_⟩
  refine Inv.turnedL [z,TI,TO,i1,i2] I hf λc o hc e=>?_
  simp only[List.mem_cons,List.not_mem_nil,or_false,not_or] at hc;exact hk c o hc.1 hc.2.2.1 hc.2.2.2.1 hc.2.2.2.2 e
 self:=λ_ _ _ _ _ st h=>let⟨hz,_⟩:=st;wpAny_pyIter_zip hz h
section
variable {X:Cx}{c:Ct}{k:Kd}{es:List Expr}{x1:Nat}{tp pos p:Pos}
def ux(f g:FE):FA:=λρ=>match f ρ,g ρ with
 |some (.tup xs),some (.tup ys)=>some (pY xs ys)
 |_,_=>none
theorem tN {f g:FE}{ρ:aB}{ds:List D}(h:ux f g ρ=some ds): ∃xs ys,f ρ=some (.tup xs)/\g ρ=some (.tup ys)/\ds=pY xs ys:=by
 unfold ux at h;split at h
 ·cases h;exact⟨_,_, ‹_›, ‹_›,rfl⟩
 ·cases h
theorem tY {K:W.Frag}{W:Hp}{a b:Addr}{xs ys:List V}{ds es:List D}(h1:SqT K W a xs)(h2:SqT K W b ys)(r1:Reps K W xs ds)(r2:Reps K W ys es):ItOk K W (AO K a b) (pY ds es):=by
 have l1:=r1.length
 have l2:=r2.length
 have el:(pY ds es).length=min ds.length es.length:=by simp[pY]
 refine⟨λi d H e s=>?_,λH s=>⟨_,_,Same.seqT s h1,Same.seqT s h2,?_⟩⟩
 ·have hi:i<min ds.length es.length:=by rw[<-el];exact(List.getElem?_eq_some_iff.mp e).1
  have ex:xs[i]? =some xs[i]:=List.getElem?_eq_getElem (by omega)
  have ey:ys[i]? =some ys[i]:=List.getElem?_eq_getElem (by omega)
  refine⟨⟨_,_,xs[i],ys[i],Same.seqT s h1,Same.seqT s h2,ex,ey⟩,λy H' ⟨T,e2,hT,e3⟩=>?_⟩
  subst e2;obtain⟨u,v,e4,e4',e5⟩:=e3 _ _ (Same.seqT s h1) (Same.seqT s h2)
  subst e5;refine⟨bc hT _,λhid tr sw=>?_⟩
  have hf:hid T=false:=by
   cases eh:hid T with
   |false=>rfl
   |true=>obtain⟨o,ho⟩:=tr T eh;rw[hT] at ho;cases ho
  obtain⟨d',e6,r6⟩:=r1.get' e4
  obtain⟨d'',e7,r7⟩:=r2.get' e4'
  have ed:d=.tup [d',d'']:=by
   unfold pY at e;rw[List.getElem?_map,List.getElem?_range hi] at e;have q1:ds.getD i .non=d':=by simp[List.getD,e6]
   have q2:es.getD i .non=d'':=by simp[List.getD,e7]
   rw[Option.map_some,q1,q2] at e;exact(Option.some.inj e).symm
  rw[ed];exact lC hT hf (.cons (r6.mono sw) (.cons (r7.mono sw) .nil))
 ·rw[el];omega
theorem wo {e1 e2:Expr}{f g:FE}(h1:DP X c .s e1 f)(h2:DP X c .s e2 g)(hm:X.mg "zip"=none)(hg:Gl X "zip":=by rfl)(hs:starEach [e1,e2] X.env=(false,eval e1 X.env)::starEach [e2] X.env:=by rfl)(hs2:starEach [e2] X.env=[(false,eval e2 X.env)]:=by rfl):DIp X c (.Tuple es x1 tp) (.Call (.Name "zip" p) [e1,e2] [] pos) (ux f g):=by
 intro hid ρ ae s σ H R I hq;obtain⟨sr,ds,hd,q⟩:=hq
 obtain⟨xs,ys,a1,a2,rfl⟩:=tN hd
 refine Call_ (ll (u:=.type "zip") I hg hm (by kernel_rfl) (PyProof.Rows.callWith_type1 (cm (bi (h1 hid ρ) (bi (h2 hid ρ) cY hs2) hs pos ae s σ H (λvs H'=> ∃v w,vs=[v,w]/\Same H H'/\Rep X.K (vw H' hid) v (.tup xs)/\Rep X.K (vw H' hid) w (.tup ys)) I ⟨sr,_,a1,λv H' s' r=>⟨sr.ext s',_,a2,λw H'' s'' r'=>⟨v,w,rfl,s'.trans s'',Rep.mono (ba s'') r,r'⟩⟩⟩) λvs s1 ⟨ws,H1,I1,r1,v,w,e,s',r,r'⟩=>?_) hs (by rw[hs2];rfl)))
 subst e;cases r1 with
 |cons ra rb=>
  cases rb with
  |cons rb rc=>
   cases rc
   cases r with
   |tup t1 t2=>
    cases r' with
    |tup t3 t4=>
     cases ra
     cases rb
     obtain⟨itx,rvx,px,hzx⟩:=I1.tuple (Same.seqT (cX _ _) t1)
     obtain⟨ity,rvy,py,hzy⟩:=I1.tuple (Same.seqT (cX _ _) t3)
     have b1: ∀ {c:Addr} {us},s1.heap.IsTuple c us->c<s1.heap.objs.size:=λh=>let⟨_,e,_⟩:=h;Heap.lt_size e
     have L1:s1.heap.IsTuple _ itx.toArray:=px
     have L2':s1.heap.IsTuple _ ity.toArray:=py
     have m1:=b1 L1
     have m2:=b1 L2'
     refine nw L1 L2' λg hz hTI hTO hi1 hi2 hk=>?_
     refine wpAny_pyIter_zip hz ⟨_,[s1.heap.objs.size+4,s1.heap.objs.size+2,s1.heap.objs.size+3,s1.heap.objs.size,s1.heap.objs.size+1],_,_,H1,rfl,I1.kept (t':=s1.toks) λb o e=>hk b o e,tK _ _ _ _ _ _ _ (um _ _ _ m1 m2),⟨hz,hTI,⟨_,_,hTO⟩,hi1,hi2⟩,λb hb=>?_,q _ H1 s' (tY t1 t3 t2 t4)⟩
     have hb:s1.heap.objs.size<=b:=by
      simp only[List.mem_cons,List.not_mem_nil,or_false] at hb;rcases hb with rfl|rfl|rfl|rfl|rfl
      ·exact Nat.le_add_right _ _
      ·exact Nat.le_add_right _ _
      ·exact Nat.le_add_right _ _
      ·exact Nat.le_refl _
      ·exact Nat.le_add_right _ _
     exact I1.fpOk hb (I1.hok.fresh hb)
end
end L2
namespace PySem
end PySem
namespace L2
open PySem PySem.Spec PyProof.Rows
section
variable {X:Cx}{c:Ct}{e o:Expr}{k k2:Kd}{f g:FE}{pos p p2 apos:Pos}
def jc:List D->Option (List Str)
 | []=>some []
 | .str x::r=>(jc r).map (x:: ·)
 |_=>none
theorem oV: ∀ {ds:List D} {ts:List Str},jc ds=some ts->ds=ts.map D.str
 | [],ts,h=>by cases h;rfl
 | .str x::r,ts,h=>by
   have h:(jc r).map (x:: ·)=some ts:=h
   cases e:jc r with
   |none=>rw[e] at h;cases h
   |some t=>
    rw[e] at h;cases h;rw[oV e];rfl
 | .non::_,_,h=>by cases h
 | .bl _::_,_,h=>by cases h
 | .int _::_,_,h=>by cases h
 | .tup _::_,_,h=>by cases h
 | .lst _::_,_,h=>by cases h
theorem pc: ∀ts:List Str,jc (ts.map D.str)=some ts
 | []=>rfl
 |x::r=>by show(jc (r.map D.str)).map (x:: ·)=_;rw[pc r];rfl
def iD:D->D->Option D:=λa b=>match a,b with
 | .str x,.lst ds=>(jc ds).bind λts=>if JoinOk x ts=true then some (.str (Txt.join x ts)) else none
 |_,_=>none
theorem pg {K:W.Frag}{F:Hp}: ∀ {xs:List V} {ts:List Str},Reps K F xs (ts.map D.str)->xs=ts.map V.str
 |_,[],h=>by cases h;rfl
 |_,t::ts,h=>by
  cases h with
  |cons a b=>cases a;rw[pg b];rfl
theorem sO: ∀ {ts:List Str} {us:List Value},Vals (ts.map V.str) us-> ∃l:List (Str×Tok),us=strValues l/\l.map (·.1)=ts
 | [],_,h=>by cases h;exact⟨[],rfl,rfl⟩
 |t::ts,_,h=>by
  cases h with
  |cons a b=>
   obtain⟨tk,rfl⟩:=a
   obtain⟨l,rfl,e⟩:=sO b
   exact⟨(t,tk)::l,rfl,by rw[List.map_cons,e]⟩
theorem xn:Al X "str.join" (λv vs H Q=> ∃x a ts,v=.str x/\vs=[.ref a]/\SqL X.K H a (ts.map V.str)/\JoinOk x ts=true/\Q (.str (Txt.join x ts)) H):=by
 intro ae s σ H v vs u us Q I rv rs h;obtain⟨x,a,ts,rfl,rfl,h1,h2,q⟩:=h
 obtain⟨t,rfl⟩:=rv
 obtain⟨w,rfl,rw'⟩:=fC rs
 cases rw'
 obtain⟨its,r,pl,hz⟩:=I.list h1
 obtain⟨l,rfl,hl⟩:=sO r
 exact SC.join pl.isList hl h2 λt' k=>⟨.str _,H,I.tok _,⟨_,rfl⟩,q⟩
theorem ib(ho:DP X c k o f)(he:DP X c k2 e g)
 (hbase:attributeBase o "join" X.env (eval o X.env)=eval o X.env:=by rfl)
 (hfew:((backTo pos (starEach [e] X.env)).all (λx=> !x.1)&&(backToKw pos (keywordEach [] X.env)).all (λx=>x.1.isSome)
   &&decide (([e]:List Expr).length+([]:List Keyword).length+(if([]:List Keyword).isEmpty then 0 else 1)<30))=true:=by rfl)
 (hline:(apos.endLine==pos.line)=true:=by rfl) (hs:starEach [e] X.env=(false,eval e X.env)::starEach [] X.env:=by rfl) (hplain:(backTo pos (starEach [] X.env)).any (·.1)=false:=by rfl):
 DP X c .s (.Call (.Attribute o "join" apos) [e] [] pos) (aj iD f g):=λhid ρ=>
 PE.imp (mB PySem.F.plainAttrs_str PySem.F.slot_str_join PySem.F.type_str_join xn (ho hid ρ) (bi (he hid ρ) cY hs) hbase hfew hline hs hplain) λσ H Q hq_=>by
  obtain⟨sr,d,hd,q⟩:=hq_
  obtain⟨x,y,e1,e2,e3⟩:=gg hd
  unfold iD at e3;split at e3
  ·rename_i z ds
   cases e4:jc ds with
   |none=>rw[e4] at e3;cases e3
   |some ts=>
    rw[e4,Option.bind_some] at e3;split at e3
    ·rename_i hj
     cases e3
     have e5:=oV e4
     subst e5;refine⟨sr,_,e1,λv H1 s1 r1=>?_⟩
     have b1:=RK.b k r1 λa n=>sr.fresh n
     cases b1.str
     refine⟨rfl,sr.ext s1,_,e2,λu H2 s2 r2=>?_⟩
     have b2:=RK.b k2 r2 λa n=>(sr.ext s1).fresh n
     obtain⟨a,xs,rfl,t1,t2⟩:=Rep1.lst b2
     have e6:=pg t2
     subst e6;exact⟨z,a,ts,rfl,rfl,t1,hj,q _ H2 (s1.trans s2) .str⟩
    ·cases e3
  ·cases e3
end
open PySem PySem.W PySem.Spec PyProof.Rows
mutual
def LF:D->Bool
 | .lst _=>false
 | .tup ds=>wQ ds
 | .scr ds=>wQ ds
 |_=>true
def wQ:List D->Bool
 | []=>true
 |d::ds=>LF d&&wQ ds
end
theorem u8 {K:W.Frag}{H:Hp}{g g':bF}(h: ∀t,g' t=false->g t=true->pX (H t)=true){a:Addr}{xs:List V}(s:SqT K (vw H g') a xs):SqT K (vw H g) a xs:=by
 rcases s with(s|⟨o,s⟩)|s
 ·obtain⟨h1,h2⟩:=vw_some.mp s
  refine .inl (.inl (vw_some.mpr ⟨?_,h2⟩))
  cases e:g a with
  |false=>rfl
  |true=>have:=h a h1 e;rw[h2] at this;cases this
 ·obtain⟨h1,h2⟩:=vw_some.mp s
  refine .inl (.inr ⟨o,vw_some.mpr ⟨?_,h2⟩⟩)
  cases e:g a with
  |false=>rfl
  |true=>have:=h a h1 e;rw[h2] at this;cases this
 ·exact .inr s
theorem vP {K:W.Frag}{H:Hp}{g g':bF}(h: ∀t,g' t=false->g t=true->pX (H t)=true){a:Addr}{xs:List V}(s:SqR K (vw H g') a xs):SqR K (vw H g) a xs:=by
 rcases s with⟨o,s⟩|s
 ·obtain⟨h1,h2⟩:=vw_some.mp s
  refine .inl ⟨o,vw_some.mpr ⟨?_,h2⟩⟩
  cases e:g a with
  |false=>rfl
  |true=>have:=h a h1 e;rw[h2] at this;cases this
 ·exact .inr s
mutual
theorem oB {K:W.Frag}{H:Hp}{g g':bF}(h: ∀t,g' t=false->g t=true->pX (H t)=true): ∀ {v:V} {d:D},Rep K (vw H g') v d->LF d=true->Rep K (vw H g) v d
 |_,_,.non,_=>.non
 |_,_,.bl,_=>.bl
 |_,_,.int,_=>.int
 |_,_,.str,_=>.str
 |_,_,.tup s r,l=>.tup (u8 h s) (gb h r (by unfold LF at l;exact l))
 |_,_,.scr s r,l=>.scr (vP h s) (gb h r (by unfold LF at l;exact l))
 |_,_,.lst s r,l=>by unfold LF at l;cases l
theorem gb {K:W.Frag}{H:Hp}{g g':bF}(h: ∀t,g' t=false->g t=true->pX (H t)=true): ∀ {v:List V} {d:List D},Reps K (vw H g') v d->wQ d=true->Reps K (vw H g) v d
 |_,_,.nil,_=>.nil
 |_,_,.cons r rs,l=>by
  unfold wQ at l;rw[Bool.and_eq_true] at l;exact .cons (oB h r l.1) (gb h rs l.2)
end
section
variable {X:Cx}{c:Ct}{e o:Expr}{k k2:Kd}{f g:FE}{pos p p2 apos:Pos}
def gP:D->D->Option D:=λa b=>match a,b with
 | .str x,.str y=>some (.int (Txt.count x y))
 |_,_=>none
theorem xU:Al X "str.count" (λv vs H Q=> ∃x y,v=.str x/\vs=[.str y]/\Q (.int (Txt.count x y)) H):=by
 intro ae s σ H v vs u us Q I rv rs h;obtain⟨x,y,rfl,rfl,q⟩:=h
 obtain⟨t,rfl⟩:=rv
 obtain⟨w,rfl,rw'⟩:=fC rs
 obtain⟨t',rfl⟩:=rw'
 exact SC.count ⟨.int _,H,I.tok _,⟨_,rfl⟩,q⟩
theorem kf(ho:DP X c k o f)(he:DP X c k2 e g)
 (hbase:attributeBase o "count" X.env (eval o X.env)=eval o X.env:=by rfl)
 (hfew:((backTo pos (starEach [e] X.env)).all (λx=> !x.1)&&(backToKw pos (keywordEach [] X.env)).all (λx=>x.1.isSome)
   &&decide (([e]:List Expr).length+([]:List Keyword).length+(if([]:List Keyword).isEmpty then 0 else 1)<30))=true:=by rfl)
 (hline:(apos.endLine==pos.line)=true:=by rfl) (hs:starEach [e] X.env=(false,eval e X.env)::starEach [] X.env:=by rfl) (hplain:(backTo pos (starEach [] X.env)).any (·.1)=false:=by rfl):
 DP X c .s (.Call (.Attribute o "count" apos) [e] [] pos) (aj gP f g):=λhid ρ=>
 PE.imp (mB PySem.F.plainAttrs_str PySem.F.slot_str_count PySem.F.type_str_count xU (ho hid ρ) (bi (he hid ρ) cY hs) hbase hfew hline hs hplain) λσ H Q hq_=>by
  obtain⟨sr,d,hd,q⟩:=hq_
  obtain⟨x,y,e1,e2,e3⟩:=gg hd
  unfold gP at e3;split at e3
  ·cases e3
   refine⟨sr,_,e1,λv H1 s1 r1=>?_⟩
   have b1:=RK.b k r1 λa n=>sr.fresh n
   cases b1.str
   refine⟨rfl,sr.ext s1,_,e2,λu H2 s2 r2=>?_⟩
   have b2:=RK.b k2 r2 λa n=>(sr.ext s1).fresh n
   cases b2.str
   exact⟨_,_,rfl,rfl,q _ H2 (s1.trans s2) .int⟩
  ·cases e3
def vK:D->D->Option D:=λa b=>match a,b with
 | .str x,.str y=>if 0<=Txt.find x y then some (.int (Txt.find x y)) else none
 |_,_=>none
theorem xj(hc:X.calm=true):Al X "str.index" (λv vs H Q=> ∃x y,v=.str x/\vs=[.str y]/\0<=Txt.find x y/\Q (.int (Txt.find x y)) H):=by
 intro ae s σ H v vs u us Q I rv rs h;obtain⟨x,y,rfl,rfl,h0,q⟩:=h
 obtain⟨t,rfl⟩:=rv
 obtain⟨w,rfl,rw'⟩:=fC rs
 obtain⟨t',rfl⟩:=rw'
 exact index_or (I.ok.hd hc) (λz _=>by omega) λ_ _=>⟨.int _,H,I.tok _,⟨_,rfl⟩,q⟩
theorem xu(hc:X.calm=true)(ho:DP X c k o f)(he:DP X c k2 e g)
 (hbase:attributeBase o "index" X.env (eval o X.env)=eval o X.env:=by rfl)
 (hfew:((backTo pos (starEach [e] X.env)).all (λx=> !x.1)&&(backToKw pos (keywordEach [] X.env)).all (λx=>x.1.isSome)
   &&decide (([e]:List Expr).length+([]:List Keyword).length+(if([]:List Keyword).isEmpty then 0 else 1)<30))=true:=by rfl)
 (hline:(apos.endLine==pos.line)=true:=by rfl) (hs:starEach [e] X.env=(false,eval e X.env)::starEach [] X.env:=by rfl) (hplain:(backTo pos (starEach [] X.env)).any (·.1)=false:=by rfl):
 DP X c .s (.Call (.Attribute o "index" apos) [e] [] pos) (aj vK f g):=λhid ρ=>
 PE.imp (mB PySem.F.plainAttrs_str PySem.F.slot_str_index PySem.F.type_str_index (xj hc) (ho hid ρ) (bi (he hid ρ) cY hs) hbase hfew hline hs hplain) λσ H Q hq_=>by
  obtain⟨sr,d,hd,q⟩:=hq_
  obtain⟨x,y,e1,e2,e3⟩:=gg hd
  unfold vK at e3;split at e3
  ·split at e3
   ·rename_i h0
    cases e3
    refine⟨sr,_,e1,λv H1 s1 r1=>?_⟩
    have b1:=RK.b k r1 λa n=>sr.fresh n
    cases b1.str
    refine⟨rfl,sr.ext s1,_,e2,λu H2 s2 r2=>?_⟩
    have b2:=RK.b k2 r2 λa n=>(sr.ext s1).fresh n
    cases b2.str
    exact⟨_,_,rfl,rfl,h0,q _ H2 (s1.trans s2) .int⟩
   ·cases e3
  ·cases e3
def yB:R2:=λa b H Q=> ∃x y,a=.str x/\b=.str y/\x.length+y.length<=sizeLine/\Q (.str (x++y)) H
theorem xD:ji X (binaryOp .Add) yB:=by
 intro ae s σ H x y v u Q I rx ry h;obtain⟨a,b,rfl,rfl,hz,q⟩:=h
 obtain⟨t,rfl⟩:=rx
 obtain⟨t',rfl⟩:=ry
 exact add_str (λt' tk=>⟨.str _,H,I.tok _,⟨_,rfl⟩,q⟩) hz
def gr:D->D->Option D
 | .str x,.str y=>if x.length+y.length<=sizeLine then some (.str (x++y)) else none
 |_,_=>none
theorem xw {K:W.Frag}:jY K .s yB gr:=by
 intro H hid v u x y d Q hf h r1 r2 q;unfold gr at h;split at h
 ·split at h
  ·rename_i hz
   cases h
   cases r1.str
   cases r2.str
   exact⟨_,_,rfl,rfl,hz,q _ H (Same.refl _) .str⟩
  ·cases h
 ·cases h
theorem hV {k1 k2:Kd}{a b:Expr}(ha:DP X c k1 a f)(hb:DP X c k2 b g):DP X c .s (.BinOp a .Add b pos) (aj gr f g):=jP xD xw ha hb
end
section
open PySem.SeqAt
open PySem.AutoSeq1 (wpAny_loadPart')
open PySem.MeetsSeq PySem.MeetsSeq2 PySem.MeetsSeq3
theorem ol(x y:Str)(t u:Tok)(hy:(y.length==0)=false)(hz:(Txt.split x y).length<=sizeLine)(hw: ∀p∈Txt.split x y,p.length<=sizeLine):
 Meets (Builtin.«str.split» ⟨[.str x t,.str y u],[]⟩)
  (λ_ R s=> ∀(l:List (Str×Tok)) (k:Nat),l.map (·.1)=Txt.split x y->R (.ok (.ret (.ref s.heap.objs.size))) {s with heap:=s.heap.push {cls:=.type "list",data:=.seq (strValues l).toArray},toks:=k}):=by
 intro prog w A R s h;obtain⟨hp,g,d,tk,os⟩:=s
 have mk: ∀(ps:List Str) (tk:Nat) (Q:List Value->Shared->Prop),(∀p∈ps,p.length<=sizeLine)->(∀(l:List (Str×Tok)) (k:Nat),l.map (·.1)=ps->Q (strValues l) ⟨hp,g,d,k,os⟩)->wpAny (model prog w) A.in1 (List.mapM mkStr ps) Q (λe s'=>R (.error e) s') ⟨hp,g,d,tk,os⟩:=by
  intro ps
  induction ps with
  |nil=>intro tk Q _ q;rw[List.mapM_nil];exact wpAny_pure (q [] tk rfl)
  |cons p ps ih=>
   intro tk Q hw q;rw[List.mapM_cons];refine wpAny_bind (wpAny_mkStr ?_ (hw p (by simp)))
   refine wpAny_bind (ih _ _ (λz hz=>hw z (by simp[hz])) λl k e=>?_)
   exact wpAny_pure (q ((p,_)::l) k (by rw[List.map_cons,e]))
 have hn: ∀(l:List (Str×Tok)) (k:Nat),l.map (·.1)=Txt.split x y->wpAny (model prog w) A.in1 (do
  let __do_lift <-newList (strValues l)
  ret __do_lift) (λfin s'=>
  match fin with
  |Fin.done f=>R (Except.ok f) s'
  |Fin.again c'=>c'.quiet=true/\codeAny (model prog w) A c' R s') (λe s'=>R (.error e) s') ⟨hp,g,d,k,os⟩:=λl k e=>by
  have hl:(strValues l).length<=sizeLine:=by
   have h1:=congrArg List.length e
   rw[List.length_map] at h1;have h2:(strValues l).length=l.length:=by simp[strValues]
   omega
  exact wpAny_bind (wpAny_newList (wpAny_pure (h l k e)) hl)
 wp_walk
 by_cases c1:(decide (x.length<y.length)||decide (Builtin.Str.strKind x<Builtin.Str.strKind y))=true
 ·rw[if_pos c1]
  have e:Txt.split x y=[x]:=by unfold Txt.split;rw[if_pos c1]
  exact wpAny_bind (wpAny_rule (hn [(x,t)] tk (by rw[e];rfl)))
 ·rw[if_neg c1]
  dsimp only;rw[hy];rw[if_neg (by decide)]
  by_cases c2:(Builtin.Str.occurrences x y 0 x.length (x.length+1)).isEmpty=true
  ·have e:Txt.split x y=[x]:=by unfold Txt.split;rw[if_neg c1,if_pos c2]
   rw[if_pos (by rw[c2];rfl)]
   exact wpAny_bind (wpAny_rule (hn [(x,t)] tk (by rw[e];rfl)))
  ·have e:Txt.split x y=Builtin.Str.partsBetween x (Builtin.Str.occurrences x y 0 x.length (x.length+1)) y.length:=by unfold Txt.split;rw[if_neg c1,if_neg c2]
   rw[if_neg (by intro z;exact c2 (Bool.and_eq_true_iff.mp z).2)]
   rw[<-e];exact wpAny_bind (mk _ _ _ hw λl k el=>hn l k el)
end
theorem lZ: ∀l:List (Str×Tok),Vals ((l.map (·.1)).map V.str) (strValues l)
 | []=>.nil
 |(x,t)::l=>.cons ⟨t,rfl⟩ (lZ l)
section
variable {X:Cx}{c:Ct}{e o:Expr}{k k2:Kd}{f g:FE}{pos p p2 apos:Pos}
def mD(x y:Str):Bool:= !(y.length==0)&&(decide ((Txt.split x y).length<=sizeLine)&&(Txt.split x y).all λp=>decide (p.length<=sizeLine))
theorem vW:Al X "str.split" (λv vs H Q=> ∃x y,v=.str x/\vs=[.str y]/\mD x y=true/\ ∀p,H p=none->Q (.ref p) (cF H p (.lst ((Txt.split x y).map V.str)))):=by
 intro ae s σ H v vs u us Q I rv rs h;obtain⟨x,y,rfl,rfl,h0,q⟩:=h
 obtain⟨t,rfl⟩:=rv
 obtain⟨w,rfl,rw'⟩:=fC rs
 obtain⟨t',rfl⟩:=rw'
 unfold mD at h0;obtain⟨h1,h2⟩:=Bool.and_eq_true_iff.mp h0
 obtain⟨h2,h3⟩:=Bool.and_eq_true_iff.mp h2
 have h2:=of_decide_eq_true h2
 refine call_meets PySem.F.slot_str_split rfl PySem.F.entry_str_split (PySem.F.args_str_split_2 _ _) (ol x y t t' (by simpa using h1) h2 λp hp=>of_decide_eq_true (List.all_eq_true.mp h3 p hp)) λl k el=>?_
 refine⟨.ref _,_,I.lnew (t':=k) (el▸lZ l) (by rw[List.length_map];exact h2),rfl,q _ I.fresh⟩
def jm:D->D->Option D:=λa b=>match a,b with
 | .str x,.str y=>if mD x y=true then some (.lst ((Txt.split x y).map D.str)) else none
 |_,_=>none
theorem jx {K:W.Frag}{F:Hp}: ∀ts:List Str,Reps K F (ts.map V.str) (ts.map D.str)
 | []=>.nil
 |t::ts=>.cons .str (jx ts)
theorem lH(ho:DP X c k o f)(he:DP X c k2 e g)
 (hbase:attributeBase o "split" X.env (eval o X.env)=eval o X.env:=by rfl)
 (hfew:((backTo pos (starEach [e] X.env)).all (λx=> !x.1)&&(backToKw pos (keywordEach [] X.env)).all (λx=>x.1.isSome)
   &&decide (([e]:List Expr).length+([]:List Keyword).length+(if([]:List Keyword).isEmpty then 0 else 1)<30))=true:=by rfl)
 (hline:(apos.endLine==pos.line)=true:=by rfl) (hs:starEach [e] X.env=(false,eval e X.env)::starEach [] X.env:=by rfl) (hplain:(backTo pos (starEach [] X.env)).any (·.1)=false:=by rfl):
 DP X c .n (.Call (.Attribute o "split" apos) [e] [] pos) (aj jm f g):=λhid ρ=>
 PE.imp (mB PySem.F.plainAttrs_str PySem.F.slot_str_split PySem.F.type_str_split vW (ho hid ρ) (bi (he hid ρ) cY hs) hbase hfew hline hs hplain) λσ H Q hq_=>by
  obtain⟨sr,d,hd,q⟩:=hq_
  obtain⟨x,y,e1,e2,e3⟩:=gg hd
  unfold jm at e3;split at e3
  ·split at e3
   ·rename_i h0
    cases e3
    refine⟨sr,_,e1,λv H1 s1 r1=>?_⟩
    have b1:=RK.b k r1 λa n=>sr.fresh n
    cases b1.str
    refine⟨rfl,sr.ext s1,_,e2,λu H2 s2 r2=>?_⟩
    have b2:=RK.b k2 r2 λa n=>(sr.ext s1).fresh n
    cases b2.str
    exact⟨_,_,rfl,rfl,h0,λp hp=>q _ _ ((s1.trans s2).trans (bc hp _)) (gA hp (s1.trans s2) (jx _))⟩
   ·cases e3
  ·cases e3
end
def eX:List D->Option D
 | [.str x]=>if x.length<=sizeLine then some (.int x.length) else none
 |_=>none
theorem kr {K:W.Frag}:gj K .s (λxs H Q=> ∃z:Str,xs=[.str z]/\z.length<=sizeLine/\Q (.int z.length) H) eX:=by
 intro H hid vs ds d Q hf h r q;unfold eX at h;split at h
 ·split at h
  ·rename_i hz
   cases h
   obtain⟨x,rfl,r1⟩:=Reps1.one r
   cases r1.str
   exact⟨_,rfl,hz,q _ H (Same.refl _) .int⟩
  ·cases h
 ·cases h
section
variable {X:Cx}{c:Ct}{e e1 e2:Expr}{k k1 k2:Kd}{f g:FE}{pos p1 p2 p3:Pos}{j:Nat}
def jX:D->D->Option D
 | .str z,.int i=>if z.length<=sizeLine then(ju z.cps.toList i).map λc=>.str ⟨#[c]⟩ else none
 |_,_=>none
theorem wl {K:W.Frag}:jY K .s (CA K) jX:=by
 intro H hid v u x y d Q hf h r1 r2 q;unfold jX at h;split at h
 ·split at h
  ·rename_i z i hz
   cases e:ju z.cps.toList i with
   |none=>rw[e] at h;cases h
   |some w=>
    rw[e] at h;cases h;cases r1.str
    cases r2.int
    exact .inr (.inr ⟨z,i,w,rfl,rfl,hz,e,q _ H (Same.refl _) .str⟩)
  ·cases h
 ·cases h
end
def yk:Sl->Sl->Option Sl
 | .no,_=>some .no
 | .v d,_=>some (.v d)
 | .own _,.own b=>if wQ b=true then some (.own b) else none
 | .arg _,.arg b=>if wQ b=true then some (.arg b) else none
 |_,_=>none
def lm:aB->aB->Option aB
 | [],_=>some []
 |s::r,s2::r2=>(yk s s2).bind λs3=>(lm r r2).map (s3:: ·)
 |_::_,[]=>none
theorem o6: ∀ {ρ ρ2 ρ3:aB},lm ρ ρ2=some ρ3->ρ3.length=ρ.length
 | [],_,_,h=>by cases h;rfl
 |s::r,[],_,h=>by cases h
 |s::r,s2::r2,ρ3,h=>by
  obtain⟨s3,h1,h2⟩:=Option.bind_eq_some_iff.mp (show(yk s s2).bind (λs3=>(lm r r2).map (s3:: ·))=some ρ3 from h)
  obtain⟨r3,h3,h4⟩:=Option.map_eq_some_iff.mp h2
  subst h4;simp[o6 h3]
theorem kj: ∀ {ρ ρ2 ρ3:aB} {j:Nat} {s3:Sl},lm ρ ρ2=some ρ3->ρ3[j]? =some s3-> ∃s,ρ[j]? =some s/\(s3=s/\(s=.no\/ ∃d,s=.v d)\/ ∃s2,ρ2[j]? =some s2/\s3=s2/\((∃a b,s=.own a/\s2=.own b/\wQ b=true)\/ ∃a b,s=.arg a/\s2=.arg b/\wQ b=true))
 | [],_,_,_,_,h,e=>by cases h;simp at e
 |s::r,[],_,_,_,h,_=>by cases h
 |s::r,s2::r2,ρ3,j,x,h,e=>by
  obtain⟨s3,h1,h2⟩:=Option.bind_eq_some_iff.mp (show(yk s s2).bind (λs3=>(lm r r2).map (s3:: ·))=some ρ3 from h)
  obtain⟨r3,h3,h4⟩:=Option.map_eq_some_iff.mp h2
  subst h4;cases j with
  |zero=>
   have e:s3=x:=by simpa using e
   subst e;refine⟨s,rfl,?_⟩
   unfold yk at h1;split at h1
   ·cases h1;exact .inl ⟨rfl,.inl rfl⟩
   ·cases h1;exact .inl ⟨rfl,.inr ⟨_,rfl⟩⟩
   ·split at h1
    ·cases h1;exact .inr ⟨_,rfl,rfl,.inl ⟨_,_,rfl,rfl, ‹_›⟩⟩
    ·cases h1
   ·split at h1
    ·cases h1;exact .inr ⟨_,rfl,rfl,.inr ⟨_,_,rfl,rfl, ‹_›⟩⟩
    ·cases h1
   ·cases h1
  |succ j=>
   obtain⟨s',z1,z2⟩:=kj (j:=j) h3 (by simpa using e)
   exact⟨s',by simpa using z1,by simpa using z2⟩
section
variable {K:W.Frag}{c:Ct}{hid1 hid2 hidD:bF}{ρ ρ2 ρ3:aB}{σ σ2:St}{H H':Hp}
theorem lF(e:lm ρ ρ2=some ρ3){j:Nat}(o:Ow ρ3[j]?):Ow ρ[j]? /\Ow ρ2[j]? :=by
 cases z:ρ3[j]? with
 |none=>rw[z] at o;exact o.elim
 |some s3=>
  rw[z] at o;obtain⟨s,h1,h2⟩:=kj e z
  rcases h2 with⟨rfl,rfl|⟨d,rfl⟩⟩|⟨s2,h3,rfl,⟨a,b,rfl,rfl,_⟩|⟨a,b,rfl,rfl,_⟩⟩
  ·exact o.elim
  ·exact o.elim
  ·exact⟨by rw[h1];trivial,by rw[h3];trivial⟩
  ·exact⟨by rw[h1];trivial,by rw[h3];trivial⟩
theorem SR.mix(h:SR K c hid1 ρ σ H)(w:Same (vw H hid1) (vw H' hidD))(h2:SR K c hid2 ρ2 σ2 H')(tr:yK hidD H')(h0: ∀b,c.hid₀ b=true->hidD b=true)(le: ∀b,hid2 b=true->hidD b=true)
 (lo: ∀t,hid2 t=false->hidD t=true->pX (H' t)=true) (e:lm ρ ρ2=some ρ3) (ow: ∀j:Nat,Ow ρ[j]? ->Ow ρ2[j]? ->σ2[j]? =σ[j]?):SR K c hidD ρ3 σ H':=by
 refine⟨tr.1,tr.2,h0,h2.kp,h2.t0,h.c0,h.m0,by rw[o6 e];exact h.len,λj s3 z=>?_,λi j a n o1 o2=>h.ap i j a n (lF e o1).1 (lF e o2).1⟩
 obtain⟨s,h1,hh⟩:=kj e z
 rcases hh with⟨rfl,rfl|⟨d,rfl⟩⟩|⟨s2,h3,rfl,⟨a,b,rfl,rfl,lf⟩|⟨a,b,rfl,rfl,lf⟩⟩
 ·trivial
 ·obtain⟨x,q1,q2⟩:=h.sl j _ h1
  exact⟨x,q1,q2.mono w⟩
 ·obtain⟨a',xs,q1,q2,q3,q4,q5⟩:=h2.sl j _ h3
  rw[ow j (by rw[h1];trivial) (by rw[h3];trivial)] at q1
  exact⟨a',xs,q1,q2,le _ q3,q4,gb lo q5 lf⟩
 ·obtain⟨a',xs,q1,q2,q3,q4,q5⟩:=h2.sl j _ h3
  rw[ow j (by rw[h1];trivial) (by rw[h3];trivial)] at q1
  exact⟨a',xs,q1,q2,le _ q3,q4,gb lo q5 lf⟩
end
def eF(g:FG)(p:FT)(f:GE):List D->aB->Option (List D×aB)
 | [],ρ=>some ([],ρ)
 |d::r,ρ=>(g d ρ).bind λρ1=>(p ρ1).bind λb=>if b=true then(f ρ1).bind λq=>if LF q.1=true then(lm ρ q.2).bind λρ3=>(eF g p f r ρ3).map λz=>(q.1::z.1,z.2) else none
  else eF g p f r ρ
def gW(m:Nat)(gi:GA)(g:FG)(p:FT)(f:GE):GE:=λρ=>(gi ρ).bind λz=>if z.1.length<=sizeLine then(eF g p f z.1 (z.2++List.replicate m .no)).bind λy=>(lm z.2 y.2).map λρ'=>(.lst y.1,ρ') else none
theorem pd {m:Nat}{gi:GA}{g:FG}{p:FT}{f:GE}{ρ ρ':aB}{d:D}(h:gW m gi g p f ρ=some (d,ρ')): ∃ds ρ0 ys ρF,gi ρ=some (ds,ρ0)/\ds.length<=sizeLine/\eF g p f ds (ρ0++List.replicate m .no)=some (ys,ρF)/\lm ρ0 ρF=some ρ'/\d=.lst ys:=by
 obtain⟨⟨ds,ρ0⟩,h1,h2⟩:=Option.bind_eq_some_iff.mp (show(gi ρ).bind _=_ from h)
 split at h2
 ·obtain⟨⟨ys,ρF⟩,h3,h4⟩:=Option.bind_eq_some_iff.mp h2
  obtain⟨ρ1,h5,h6⟩:=Option.map_eq_some_iff.mp h4
  cases h6
  exact⟨ds,ρ0,ys,ρF,h1, ‹_›,h3,h5,rfl⟩
 ·cases h2
section
variable {X:Cx}{c:Ct}{elt tg iter:Expr}{ifs:List Expr}{scope:Scope}{pos spos py:Pos}{N':List Str}{m:Nat}{gi:GA}{g:FG}{p:FT}{f:GE}{y:Str}
structure CLE(Y:Cx)(K:W.Frag)(c:Ct)(hid:bF)(ρF ρE:aB)(nN:Nat)(H:Hp)(D0:Addr)(fp:List Addr)(tn:Nat->Heap->Prop)(g:FG)(p:FT)(f:GE)(ds ys:List D)(σ3:St)(n i:Nat)(xs:List V)(ad:List D)(ρ:aB)(σ':St)(H':Hp)(s':Shared):Prop where
 e:n=ds.length-i
 hi:i<=ds.length
 I:Inv Y [] σ' H' s'
 st:tn i s'.heap
 fr: ∀b∈fp,H' b=none
 sr:SR K c (aV hid D0) ρ σ' H'
 kp:Kept hid H H'
 ac:H' D0=some (.lst xs)
 rp:Reps K (vw H' (aV hid D0)) xs ad
 w:Same (vw H hid) (vw H' (aV hid D0))
 hl:xs.length<=i
 na: ∀i:Nat,Ow ρ[i]? ->σ'[i]? ≠some (some (.ref D0))
 ok:OwK ρF ρ σ3 σ'
 no: ∀(j:Nat) (s:Sl),nN<=j->ρ[j]? =some s->s=.no
 go: ∃rest,eF g p f (ds.drop i) ρ=some (rest,ρE)/\ad++rest=ys
theorem qm(hcalm:X.calm=true)(hT:j9 X.N.length g)
 (hg: ∀C s₀ H₀ ex,uF (aL X N' scope C s₀ H₀ ex) c tg g) (hp: ∀C s₀ H₀ ex,vJ (aL X N' scope C s₀ H₀ ex) c ifs p) (he: ∀C s₀ H₀ ex,DE (aL X N' scope C s₀ H₀ ex) c .s elt f)
 {σ3:St} {H H3:Hp} {s3 s4:Shared} {hid:bF} {ρF ρE:aB} {J:It} {it D0 C:Addr} {fp:List Addr} {tn:Nat->Heap->Prop} {ds ys:List D} {R:Result->Shared->Prop}
 (hno: ∀(j:Nat) (s:Sl),X.N.length<=j->ρF[j]? =some s->s=.no)
 (I:Inv (aL X N' scope C s3 H3 fp) [] σ3 H3 s4) (sr:SR X.K c (aV hid D0) ρF σ3 H3) (h0: ∀b,c.hid₀ b=true->hid b=true) (nh:hid D0=false) (h00:c.H₀ D0=none) (na: ∀i:Nat,Ow ρF[i]? ->σ3[i]? ≠some (some (.ref D0))) (hacc:H3 D0=some (.lst [])) (sm:Kept hid H H3) (nD:H D0=none) (wv:Same (vw H hid) (vw H3 (aV hid D0))) (T:Turn X.prog X.w X.K tg J fp it tn) (st:tn 0 s4.heap) (hF: ∀b∈fp,H3 b=none)
 (io:ItOk X.K (vw H hid) J ds) (hz:ds.length<=sizeLine) (hc:eF g p f ds ρF=some (ys,ρE))
 (hR: ∀(s':Shared) (σ':St) (H':Hp) (xs:List V),Inv (aL X N' scope C s3 H3 fp) [] σ' H' s'->SR X.K c (aV hid D0) ρE σ' H'->OwK ρF ρE σ3 σ'->Kept hid H H'->H' D0=some (.lst xs)->Reps X.K (vw H' (aV hid D0)) xs ys->Same (vw H hid) (vw H' (aV hid D0))->R (.ok .next) s'):
 codeAny (model X.prog X.w) X.A (.compLoop (.ListComp elt [⟨tg,iter,ifs,0⟩] scope pos) 0 (.ref it) (.ref D0) (compEnvC scope (lj X.env.cells scope C) C X.env)) R s4:=by
 have stat: ∀ {ae:List (Addr×Obj)} {H':Hp},(∀q∈ae,q.1∉fp)->(∀b∈fp,H' b=none)-> ∀b∈fp,iu (aL X N' scope C s3 H3 fp) ae H' b:=λ{ae H'} hpn hn b hb=>
  ⟨hn b hb,(I.ok.exf b hb).1,I.ok.exfs b hb,.inl hb,(I.ok.exf b hb).2,λq hq e=>hpn q (by have hq':q∈([]:List (Addr×Obj))++ae:=hq;simpa using hq') (by rw[e];exact hb)⟩
 have no: ∀q∈([]:List (Addr×Obj)),q.1∉fp:=λq hq=>nomatch hq
 refine dM (λn s'=> ∃(i:Nat) (xs:List V) (ad:List D) (ρ:aB) (σ':St) (H':Hp),CLE (aL X N' scope C s3 H3 fp) X.K c hid ρF ρE X.N.length H D0 fp tn g p f ds ys σ3 n i xs ad ρ σ' H' s') ?_ ds.length
  ⟨0,[],[],ρF,σ3,H3,by simp,Nat.zero_le _,I,st,hF,sr,sm,hacc,.nil,wv,Nat.zero_le _,na,λi o=>⟨o,rfl⟩,hno,ys,by simpa using hc,rfl⟩
 rintro n s5 ⟨i,xs,ad,ρ,σ5,H5,rfl,hi,I5,st5,f5,sr5,sm5,ac5,rp5,w5,hl5,na5,ok5,hno5,rest,hc5,hy5⟩
 have wH:Same (vw H hid) H5:=w5.trans (cX _ _)
 by_cases hlt:i<ds.length
 ·have hd:ds[i]? =some ds[i]:=List.getElem?_eq_getElem hlt
  have e2:ds.drop i=ds[i]::ds.drop (i+1):=List.drop_eq_getElem_cons hlt
  rw[e2] at hc5;unfold eF at hc5;obtain⟨go,yl⟩:=io.1 i ds[i] H5 hd wH
  refine cm (T.item (aL X N' scope C s3 H3 fp) rfl rfl rfl hcalm i [] s5 σ5 H5 (λ_ _=>False) I5 (stat no f5) st5 go) λr s6 hq_=>?_
  obtain⟨u,hr,h6⟩:=hq_
  subst hr;refine cm h6 λ_ s7 hq_=>?_
  obtain⟨x,H7,I7,r7,y7,st7,f7⟩:=hq_
  obtain⟨s7',rp⟩:=yl x H7 y7
  have rx:=rp (aV hid D0) sr5.tr w5
  have I7':=I7.pinned (stat no f7) (T.obj _ _ st7)
  obtain⟨ρ1,e3,hc5⟩:=Option.bind_eq_some_iff.mp hc5
  obtain⟨b,e4,hc5⟩:=Option.bind_eq_some_iff.mp hc5
  obtain⟨tl1,tl2⟩:=hT _ _ _ e3
  have fg: ∀ {σ':St} {H':Hp},SR X.K c (aV hid D0) ρ1 σ' H'->SR X.K c (aV hid D0) ρ σ' H':=λ{σ' H'} z=>z.forget tl1 λj s e=>by
   by_cases hj:j<X.N.length
   ·exact .inr ((tl2 j hj).trans e)
   ·exact .inl (hno5 j s (by omega) e)
  have owl: ∀j:Nat,Ow ρ[j]? ->Ow ρ1[j]? :=λj o=>by
   by_cases hj:j<X.N.length
   ·rw[tl2 j hj];exact o
   ·exfalso
    cases z:ρ[j]? with
    |none=>rw[z] at o;exact o
    |some s=>rw[z] at o;rw[hno5 j s (by omega) z] at o;exact o
  have keepT: ∀ {σ':St} {H':Hp} {s':Shared},Inv (aL X N' scope C s3 H3 fp) ([]++jz fp s7.heap) σ' H' s'->tn (i+1) s'.heap/\ ∀b∈fp,H' b=none:=λ{σ' H' s'} J'=>by
   refine⟨T.keep _ _ _ st7 λb hb o e=>(J'.pin (b,o) (List.mem_append_right _ (List.mem_append_right _ (eA hb e)))).1,λb hb=>?_⟩
   obtain⟨o,e,_⟩:=T.obj _ _ st7 b hb
   exact(J'.pin (b,o) (List.mem_append_right _ (List.mem_append_right _ (eA hb e)))).2.1
  refine cm (hg C s3 H3 fp (aV hid D0) ρ ds[i] _ s7 σ5 H7 x u (λσ' H'=>H'=H7/\SR X.K c (aV hid D0) ρ1 σ' H7/\OwK ρ ρ1 σ5 σ') I7' r7 ⟨sr5.ext s7',rx,ρ1,e3,λσ' z o=>⟨rfl,z,o⟩⟩) λ_ s8 hq_=>?_
  obtain⟨σ8,H8,I8,e8,q8,o8⟩:=hq_
  subst e8;have na8: ∀i:Nat,Ow ρ1[i]? ->σ8[i]? ≠some (some (.ref D0)):=λj o=>by
   rw[(o8 j o).2];exact na5 j (o8 j o).1
  refine cm (hp C s3 H3 fp (aV hid D0) ρ1 _ s8 σ8 H8 (λb' H'=>b'=b/\Same H8 H') I8 ⟨q8,b,e4,λH' s'=>⟨rfl,s'⟩⟩) λok s9 hq_=>?_
  obtain⟨H9,I9,e9,sm9⟩:=hq_
  subst e9;have w9:Same (vw H5 (aV hid D0)) (vw H9 (aV hid D0)):=ba (s7'.trans sm9)
  have k9:Kept hid H H9:=sm5.trans (.of (s7'.trans sm9))
  have a9:H9 D0=some (.lst xs):=sm9 _ _ (s7' _ _ ac5)
  have ok8:OwK ρF ρ σ3 σ8:=λj o=>⟨(ok5 j o).1,by rw[(o8 j (owl j o)).2];exact(ok5 j o).2⟩
  cases ok with
  |false=>
   rw[if_neg (by decide)] at hc5
   obtain⟨k1,k2⟩:=keepT I9
   exact⟨ds.length- (i+1),by omega,i+1,xs,ad,ρ,σ8,H9,rfl,hlt,I9.unpinned,k1,k2,fg (q8.ext sm9),k9,a9,rp5.mono w9,w5.trans w9,by omega,λj o=>na8 j (owl j o),ok8,hno5,rest,hc5,hy5⟩
  |true=>
   rw[if_pos rfl] at hc5;obtain⟨⟨yv,ρ2⟩,e5,hc5⟩:=Option.bind_eq_some_iff.mp hc5
   split at hc5
   ·rename_i lf
    obtain⟨ρ3,e6,hc5⟩:=Option.bind_eq_some_iff.mp hc5
    obtain⟨⟨rest',ρx⟩,e7,hc5⟩:=Option.map_eq_some_iff.mp hc5
    cases hc5
    show wpAny (model X.prog X.w) X.A (eval elt _) _ _ s9;have srs:SR X.K c hid ρ1 σ8 H9:=(q8.ext sm9).show h0 na8 a9
    refine cm (he C s3 H3 fp hid ρ1 _ s9 σ8 H9 (λv H'=>PostE X.K c hid .s ρ2 σ8 H9 H' v yv) I9 ⟨srs,yv,ρ2,e5,λv H' z=>z⟩) λv s10 hq_=>?_
    obtain⟨z,H10,I10,rz,kp10,sr10,rp10⟩:=hq_
    have a10:H10 D0=some (.lst xs):=kp10 _ _ a9 nh
    refine cm (fZ (X:=aL X N' scope C s3 H3 fp) _ s10 σ8 H10 (.ref D0) [z] (.ref D0) [v] (λ_ H'=>H'=cF H10 D0 (.lst (xs++[z]))) I10 rfl (.cons rz .nil) ⟨D0,xs,z,rfl,rfl,a10,by omega,rfl⟩) λ_ s11 ⟨_,H11,I11,_,e11⟩=>?_
    subst e11;obtain⟨k1,k2⟩:=keepT I11
    have lo: ∀t,hid t=false->aV hid D0 t=true->pX (H10 t)=true:=λt h1 h2=>by
     unfold aV at h2;rw[h1] at h2;have:t=D0:=by simpa using h2
     subst this;rw[a10];rfl
    have kD:Kept (aV hid D0) H9 H10:=λb o q hb=>kp10 b o q (rA hb).1
    have w10:Same (vw H5 (aV hid D0)) (vw H10 (aV hid D0)):=w9.trans kD.vw
    have vv:vw (cF H10 D0 (.lst (xs++[z]))) (aV hid D0)=vw H10 (aV hid D0):=gy gq
    have q10:SR X.K c (aV hid D0) ρ3 σ8 H10:=(fg (q8.ext sm9)).mix kD.vw sr10 ⟨λb hb=>by
     by_cases e:b=D0
     ·subst e;exact⟨_,a10⟩
     ·unfold aV at hb
      exact sr10.tr b (by simpa [e] using hb),λb xs hb q=>by
     by_cases e:b=D0
     ·subst e;rw[a10] at q;cases q
     ·unfold aV at hb
      exact sr10.ht b xs (by simpa [e] using hb) q⟩ (λb q=>bR (h0 b q)) (λb q=>bR q) lo e6 λ_ _ _=>rfl
    have na10: ∀i:Nat,Ow ρ3[i]? ->σ8[i]? ≠some (some (.ref D0)):=λj o=>sr10.notOw nh j (lF e6 o).2
    refine⟨ds.length- (i+1),by omega,i+1,xs++[z],ad++[yv],ρ3,σ8,_,rfl,hlt,I11.unpinned,k1,k2,?_,λb o e hb=>?_,bf,?_,?_,by simp;omega,na10,λj o=>ok8 j (lF e6 o).1,λj s hj e=>?_,rest',e7,by rw[<-hy5];simp⟩
    ·exact q10.write gq h00 na10 a10
    ·rw[aM (bz e nD)];exact kp10 _ _ (k9 _ _ e hb) hb
    ·rw[vv];exact(rp5.mono w10).append (.cons (oB lo rp10 lf) .nil)
    ·rw[vv];exact w5.trans w10
    ·obtain⟨s',z1,z2⟩:=kj e6 e
     have:=hno5 j s' hj z1
     subst this;rcases z2 with⟨rfl,_⟩|⟨s2,_,_,⟨a,b,z,_⟩|⟨a,b,z,_⟩⟩
     ·rfl
     ·cases z
     ·cases z
   ·cases hc5
 ·have e:i=ds.length:=by omega
  subst e;rw[List.drop_eq_nil_of_le (Nat.le_refl _)] at hc5;cases hc5
  rw[List.append_nil] at hy5;subst hy5;refine cm (T.done (aL X N' scope C s3 H3 fp) rfl rfl rfl hcalm ds.length [] s5 σ5 H5 (λ_ _=>False) I5 (stat no f5) st5 (io.2 H5 wH)) λr s6 hq_=>?_
  obtain⟨hr,I6⟩:=hq_
  subst hr;exact hR s6 σ5 H5 xs I6 sr5 ok5 sm5 ac5 rp5 w5
theorem oQ(hcalm:X.calm=true)(hk:scope.kind=.function)(hs:uq scope X.env.scope=true)(hn:ur X.N N' scope=true)(hm:N'.length-X.N.length=m)(hT:j9 X.N.length g)
 (hg: ∀C s₀ H₀ ex,uF (aL X N' scope C s₀ H₀ ex) c tg g) (hp: ∀C s₀ H₀ ex,vJ (aL X N' scope C s₀ H₀ ex) c ifs p) (he: ∀C s₀ H₀ ex,DE (aL X N' scope C s₀ H₀ ex) c .s elt f)
 {E:Value->Shared->Prop} {ae:List (Addr×Obj)} {σ:St} {H:Hp} {s:Shared} {hid:bF} {ρ ρE:aB} {J:It} {it:Addr} {fp:List Addr} {tn:Nat->Heap->Prop} {ds ys:List D} {RR:Value->Addr->Result->Shared->Prop}
 (I:Inv X ae σ H s) (sr:SR X.K c hid ρ σ H) (T:Turn X.prog X.w X.K tg J fp it tn) (st:tn 0 s.heap) (hF: ∀b∈fp,iu X ae H b) (io:ItOk X.K (vw H hid) J ds) (hz:ds.length<=sizeLine) (hc:eF g p f ds (ρ++List.replicate m .no)=some (ys,ρE))
 (hR: ∀(D C:Addr) (s':Shared) (σ':St) (H':Hp) (xs:List V),s.heap.objs.size<=D->s.heap.objs.size<=C->D≠C->H D=none->Kept hid H H'->H' D=some (.lst xs)->Reps X.K (vw H' (aV hid D)) xs ys->SR X.K c (aV hid D) ρE σ' H'->OwK (ρ++List.replicate m .no) ρE (σ++List.replicate m none) σ'->Same (vw H hid) (vw H' (aV hid D))->(∃m,s'.heap.Ns C m)->H' C=none->s'.os=s.os->AllBare s'.gens->HOk X.prog X.w H' s'.heap->Un (gJ X.stack) fp H H' s.heap s'.heap->RR (.ref D) C (.ok .next) s'):
 wpAny (model X.prog X.w) X.A (newList []) (λacc s₃=>wpAny (model X.prog X.w) X.A (newFunctionEnv scope X.env.globals (oi X.env.cells scope.names []) [] X.env.qual none .none (some X.env)) (λcenv s₄=>
  codeAny (model X.prog X.w) X.A (.compStart (.ListComp elt [⟨tg,iter,ifs,0⟩] scope pos) 0 (.ref it) acc {cenv with scope:=relabel scope X.env}) (RR acc cenv.locals) s₄) E s₃) E s:=by
 refine wpAny_newObj_type (si λh₁ hns₁ kp1 oc₁=>?_)
 dsimp only at hns₁ kp1 oc₁⊢
 generalize hH2:s.heap.push {cls:=.type "list",dict:=none,data:=.seq ([]:List Value).toArray}=H2 at hns₁ kp1 oc₁⊢
 have hC:H2.objs.size=s.heap.objs.size+1:=by rw[<-hH2,Heap.size_push]
 have hD:H s.heap.objs.size=none:=I.hok.fresh (Nat.le_refl _)
 have I2:Inv X ae σ (cF H s.heap.objs.size (.lst [])) {s with heap:=H2}:=by
  rw[<-hH2];exact I.laid (t':=s.toks) (λb o e=>Heap.get?_push_of_some _ e) (Nat.le_refl _) ⟨Nat.zero_le _,[],0,.nil,Heap.get?_push_size _ rfl⟩
 have fpLt: ∀b∈fp,b<s.heap.objs.size:=λb hb=>let⟨o,e,_⟩:=T.obj 0 s.heap st b hb;Heap.lt_size e
 have hF2: ∀b∈fp,iu X ae (cF H s.heap.objs.size (.lst [])) b:=λb hb=>⟨by rw[aM (Nat.ne_of_lt (fpLt b hb))];exact(hF b hb).1,(hF b hb).2⟩
 have kp0: ∀b o,s.heap.get? b=some o->H2.get? b=some o:=λb o e=>by rw[<-hH2];exact Heap.get?_push_of_some _ e
 have IY:=oI (tk:=s.toks) (N':=N') (fp:=fp) I2 hF2 (λb hb=>let⟨o,e,_⟩:=T.obj 0 s.heap st b hb;⟨o,kp0 b o e⟩) hk hs hn hns₁ kp1 oc₁
 rw[hm] at IY;dsimp only at IY;have sr0:SR X.K c (aV hid s.heap.objs.size) (ρ++List.replicate m .no) (σ++List.replicate m none) (cF H s.heap.objs.size (.lst [])):=(sr.hide (bc hD _) hD bf).more m
 have hρ:ρ.length=X.N.length:=by rw[<-sr.len];exact I.len
 have nf:hid s.heap.objs.size=false:=sr.fresh hD
 have st1:tn 0 h₁:=T.keep _ _ _ st λb hb o e=>kp1 b o (kp0 b o e)
 have na0: ∀i:Nat,Ow (ρ++List.replicate m Sl.no)[i]? ->(σ++List.replicate m none)[i]? ≠some (some (V.ref s.heap.objs.size)):=(sr.more m).notOw nf
 have wv:Same (vw H hid) (vw (cF H s.heap.objs.size (.lst [])) (aV hid s.heap.objs.size)):=by rw[rd hD];exact Same.refl _
 have loop: ∀s4:Shared,s4={s with heap:=h₁,toks:=s.toks}->
  codeAny (model X.prog X.w) X.A (.compLoop (.ListComp elt [⟨tg,iter,ifs,0⟩] scope pos) 0 (.ref it) (.ref s.heap.objs.size) (compEnvC scope (lj X.env.cells scope H2.objs.size) H2.objs.size X.env)) (RR (.ref s.heap.objs.size) H2.objs.size) s4:=by
  rintro s4 rfl
  refine qm (H:=H) (hid:=hid) hcalm hT hg hp he (λj s' hj e=>?_) IY sr0 sr.h0 nf (sr.fresh0 hD) na0 bf (.of (bc hD _)) hD wv T st1 (λb hb=>(hF2 b hb).1) io hz hc ?_
  ·rw[List.getElem?_append_right (by omega),List.getElem?_replicate] at e
   split at e
   ·cases e;rfl
   ·cases e
  intro s' σ' H' xs I' srE owk sm' hx' rp' w';have un1:Un (gJ X.stack) fp H (cF H s.heap.objs.size (.lst [])) s.heap H2:=Un.laid (λb o e=>kp0 b o e) (Nat.le_refl _) hD
  exact hR s.heap.objs.size H2.objs.size s' σ' H' xs (Nat.le_refl _) (by rw[hC];exact Nat.le_succ _) (by rw[hC];exact Nat.ne_of_lt (Nat.lt_succ_self _)) hD sm' hx' rp' srE owk w' (let⟨m,hm,_⟩:=I'.loc;⟨m,hm⟩) I'.free I'.os I'.bare I'.hok (un1.trans I'.base)
 exact codeAny_compStart_list (loop _ rfl) (T.self X.A 0 _ _ _ st1 (loop _ rfl))
theorem uI(i:Nat)(hcalm:X.calm=true)(hN:X.N.Nodup)(hT:j9 X.N.length g)(hi:DI X c tg iter gi)
 (hg: ∀C s₀ H₀ ex,uF (aL X N' scope C s₀ H₀ ex) c tg g) (hp: ∀C s₀ H₀ ex,vJ (aL X N' scope C s₀ H₀ ex) c ifs p) (he: ∀C s₀ H₀ ex,DE (aL X N' scope C s₀ H₀ ex) c .s elt f)
 (hsw:swapsWith (.ListComp elt [⟨tg,iter,ifs,0⟩] scope pos) (some (.Name y py)) spos.line X.env=pure true) (hyi:X.N[i]? =some y) (hy:X.env.scope.names.lookup y=some .local)
 (hk:scope.kind=.function) (hs:uq scope X.env.scope=true) (hn:ur X.N N' scope=true) (hm:N'.length-X.N.length=m) (hset: ∀x,foldedSetIterable iter X.env x=pure x) (ρ:aB):
 PS X (.Assign [.Name y py] (.ListComp elt [⟨tg,iter,ifs,0⟩] scope pos) spos) (xi (λσ H Q=> ∃hid,Bg X.K c hid .n (gW m gi g p f) ρ σ H Q) (rZ i)):=by
 intro ae s σ H E I hq;obtain⟨hid,sr,d,ρ',hd,q⟩:=hq
 obtain⟨ds,ρ0,ys,ρF,e1,hz,hc,hx,rfl⟩:=pd hd
 rw[exec_Assign_Name_used _ _ _ _ hsw];refine wpAny_bind (wpAny_standAt (wpAny_bind ?_))
 show wpAny _ X.A (do let _ <-comprehension (.ListComp elt [⟨tg,iter,ifs,0⟩] scope pos) scope X.env _ (newList []) false (eval iter X.env) (some (assign (.Name y py) X.env))) _ _ s
 refine wpAny_bind (wpAny_mono (wpAny_comprehension_free (use:=some (assign (.Name y py) X.env)) (Q:=λ_ s'=>SP X ae E .next s') rfl hset (fw λx hx=>I.ok.has x (gS hs x hx)) hk (jL hs) ?_) (λ_ s' hq=>wpAny_pure (wpAny_pure hq)) λ_ _ e=>e)
 refine cm (hi hid ρ ae s σ H (λJ H'=>Kept hid H H'/\SR X.K c hid ρ0 σ H'/\ItOk X.K (vw H' hid) J ds) I ⟨sr,ds,ρ0,e1,λJ H' k1 s1 io=>⟨k1,s1,io⟩⟩) λv s1 h1=>cm h1 λitv s2 h2=>?_
 obtain⟨it,fp,tn,J,H2,rfl,I2,T,st2,f2,kp,sr2,io⟩:=h2
 refine oQ (RR:=λacc C=>compPost (model X.prog X.w) X.A X.xe (some (assign (.Name y py) X.env)) (λ_ s'=>SP X ae E .next s') acc C) hcalm hk hs hn hm hT hg hp he I2 sr2 T st2 f2 io hz hc ?_
 intro D C s' σ' H' xs hDge hCge hDC hD sm' hx' rp srE owk w' ⟨mm,hns⟩ hC' hos hbare hok hun;have I3:Inv X ae σ H' s':=I2.call' (ch:=fp) hos hun hok hbare λb hb=>⟨(f2 b hb).2.2.2.1,(f2 b hb).2.1,(f2 b hb).2.2.2.2.1,(f2 b hb).2.2.2.2.2⟩
 have nf:hid D=false:=sr2.fresh hD
 have hD0:H D=none:=by
  cases z:H D with
  |none=>rfl
  |some o=>rw[kp D o z nf] at hD;cases hD
 have srO:SR X.K c (aV hid D) ρ' σ H':=sr2.mix w' srE srE.trk (λb q=>bR (sr2.h0 b q)) (λb q=>q) (λt h1 h2=>by rw[h1] at h2;cases h2) hx λj o1 o2=>by
  have lt:j<ρ0.length:=by
   by_cases lt:j<ρ0.length
   ·exact lt
   ·rw[List.getElem?_eq_none (by omega)] at o1;exact o1.elim
  rw[(owk j o2).2,List.getElem?_append_left (by rw[sr2.len];exact lt)]
 have fin:=q (.ref D) H' ⟨kp.trans sm',D,xs,ys,rfl,rfl,hD0,hx',sr2.fresh0 hD,nf,srO,rp,λj o=>sr2.notOw nf j (lF hx o).1⟩
 have ltC: ∀b o,s2.heap.get? b=some o->b≠C:=λb o e z=>by subst z;exact absurd (Heap.lt_size e) (Nat.not_lt.mpr hCge)
 have hLC:C≠X.env.locals:=λz=>by
  have:=I2.lt
  rw[<-z] at this;exact absurd this (Nat.not_lt.mpr hCge)
 show wpAny _ X.A (assign (.Name y py) X.env (.ref D)) _ _ s';refine wpAny_assign_Name (js (v:=.ref D) I3 hN hyi (.inl hy) rfl (λs'' I4 hb=>?_) (.inr hy))
 obtain⟨a,hsb,ha⟩:=hb
 have hCa:C≠a:=by
  rcases ha with rfl|ha
  ·exact hLC
  ·obtain⟨w',o,ho,_⟩:=I2.cell y a ha
   exact λz=>ltC a o ho z.symm
 refine⟨mm,hns.sameBut hsb hCa,λh3 hs3=>⟨_,H',?_,fin⟩⟩
 refine I4.turned (t':=s''.toks) (it:=C) (λb o nb e=>(hs3.2 b nb).trans e) hC' hLC (.inr (Nat.le_trans I2.sz hCge)) (λx c' e z=>?_) (λq hq z=>?_)
 ·obtain⟨w',o,ho,_⟩:=I2.cell x c' e
  exact ltC c' o ho z
 ·exact ltC q.1 q.2 (I2.pin q hq).1 z
theorem vD(i:Nat){k:Kd}(hcalm:X.calm=true)(hN:X.N.Nodup)(hT:j9 X.N.length g)(hi:DI X c tg iter gi)
 (hg: ∀C s₀ H₀ ex,uF (aL X N' scope C s₀ H₀ ex) c tg g) (hp: ∀C s₀ H₀ ex,vJ (aL X N' scope C s₀ H₀ ex) c ifs p) (he: ∀C s₀ H₀ ex,DE (aL X N' scope C s₀ H₀ ex) c .s elt f)
 (hsw:swapsWith (.ListComp elt [⟨tg,iter,ifs,0⟩] scope pos) (some (.Name y py)) spos.line X.env=pure true:=by rfl) (hyi:X.N[i]? =some y:=by rfl) (hy:X.env.scope.names.lookup y=some .local:=by rfl)
 (hk:scope.kind=.function:=by rfl) (hs:uq scope X.env.scope=true:=by kernel_rfl) (hn:ur X.N N' scope=true:=by kernel_rfl) (hm:N'.length-X.N.length=m:=by rfl) (hset: ∀x,foldedSetIterable iter X.env x=pure x:=by intro _;rfl):
 DS X c k (.Assign [.Name y py] (.ListComp elt [⟨tg,iter,ifs,0⟩] scope pos) spos) (fB i (gW m gi g p f)):=λρ=>PS.imp (uI i hcalm hN hT hi hg hp he hsw hyi hy hk hs hn hm hset ρ) λD σ H hq_=>by
 obtain⟨hid,sr,q⟩:=hq_
 unfold fB at q;cases e1:gW m gi g p f ρ with
 |none=>rw[e1] at q;exact q.elim
 |some z=>
  rw[e1] at q;refine⟨hid,sr,z.1,z.2,e1,λv H' pe=>?_⟩
  obtain⟨kp,s',r⟩:=PostE.toS sr.h0 pe
  exact q _ H' hid (s'.setV r i) kp.vw
end
def BS:V->Option Int->Option Int->Hp->VK->Prop:=λx lo hi H Q=> ∃z:Str,x=.str z/\z.length<=sizeLine/\Q (.str (Txt.slice z lo hi)) H
theorem yU {X:Cx}:CV X BS:=by
 intro ae s σ H x v vl vu lo hi sl Q I rx hs pl pu q;obtain⟨z,rfl,hz,q⟩:=q
 obtain⟨t,rfl⟩:=rx
 refine⟨"str",_,PySem.F.slot_str_getitem.lookup,typeIs_str _ _ _,?_⟩
 have fin: ∀(y:Str),y=Txt.slice z lo hi-> ∀t' k,EP X ae σ Q (.str y t') {s with toks:=k}:=λy e t' k=>⟨.str y,H,I.tok _,⟨t',rfl⟩,by rw[e];exact q⟩
 obtain⟨o,h1,h2,h3⟩:=hs
 cases pl with
 |none=>cases pu with
  |none=>exact wpAny_getItem_str_slice (l:=none) (u:=none) (st:=none) ⟨o,h1,h2,h3⟩ rfl (post_val_or_str ⟨Nat.le_trans (Txt.slice_le z none none) hz,fin _ rfl⟩)
  |int j u=>exact wpAny_getItem_str_slice (l:=none) (u:=some (j,u)) (st:=none) ⟨o,h1,h2,h3⟩ rfl (post_val_or_str ⟨Nat.le_trans (Txt.slice_le z none (some j)) hz,fin _ rfl⟩)
 |int i t2=>cases pu with
  |none=>exact wpAny_getItem_str_slice (l:=some (i,t2)) (u:=none) (st:=none) ⟨o,h1,h2,h3⟩ rfl (post_val_or_str ⟨Nat.le_trans (Txt.slice_le z (some i) none) hz,fin _ rfl⟩)
  |int j u=>exact wpAny_getItem_str_slice (l:=some (i,t2)) (u:=some (j,u)) (st:=none) ⟨o,h1,h2,h3⟩ rfl (post_val_or_str ⟨Nat.le_trans (Txt.slice_le z (some i) (some j)) hz,fin _ rfl⟩)
section
variable {X:Cx}{c:Ct}{k:Kd}{e:Expr}{f:FE}{lo hi:Option Expr}{l u:FO}{p2 pos:Pos}{tg:Expr}
def nV(f:FE)(l u:FO):FE:=λρ=>(f ρ).bind λz=>(l ρ).bind λa=>(u ρ).bind λb=>match z with
 | .str x=>if x.length<=sizeLine then some (.str (Txt.slice x a b)) else none
 |_=>none
theorem jJ(he:DP X c k e f)(hl:DO X c lo l)(hu:DO X c hi u):DP X c .s (.Subscript e (.Slice lo hi none p2) pos) (nV f l u):=λhid ρ=>
 PE.imp (oo yU (he hid ρ) (hl hid ρ) (hu hid ρ)) λσ H Q hq_=>by
  obtain⟨sr,d,hd,q⟩:=hq_
  obtain⟨z,e1,hd⟩:=Option.bind_eq_some_iff.mp hd
  obtain⟨a,e2,hd⟩:=Option.bind_eq_some_iff.mp hd
  obtain⟨b,e3,hd⟩:=Option.bind_eq_some_iff.mp hd
  cases z with
  |str x=>
   dsimp only at hd;split at hd
   ·cases hd
    refine⟨sr,_,e1,λv H1 s1 r1=>⟨sr.ext s1,a,e2,λH2 s2=>⟨(sr.ext s1).ext s2,b,e3,λH3 s3=>?_⟩⟩⟩
    have:=(RK.b k r1 λa n=>sr.fresh n).str
    subst this;exact⟨x,rfl, ‹_›,q _ H3 ((s1.trans s2).trans s3) .str⟩
   ·cases hd
  |_=>cases hd
def lJ(x:Str):List Str:=x.cps.toList.map λc=>⟨#[c]⟩
def nO:List D->Option D
 | [.str x]=>if x.length<=sizeLine then some (.lst ((lJ x).map D.str)) else none
 |_=>none
theorem qS(hc:X.calm=true):ee X (.type "list") (λxs H Q=> ∃x:Str,xs=[.str x]/\x.length<=sizeLine/\ ∀l,H l=none->Q (.ref l) (cF H l (.lst ((lJ x).map V.str)))):=by
 intro ae s σ H xs us Q I r h;obtain⟨x,rfl,hz,q⟩:=h
 obtain⟨u,rfl,rx⟩:=fC r
 obtain⟨t,rfl⟩:=rx
 refine call_list_str (I.ok.hd hc) x t (λh' tk acc' c' kp e hi=>?_) hz
 have rv:Vals ((lJ x).map V.str) acc'.toList:=by
  obtain⟨h1,h2⟩:=hi
  have key: ∀(cs:List Nat) (us:List Value),us.length=cs.length->(∀(j:Nat) (v:Value),us[j]? =some v-> ∃c u,cs[j]? =some c/\v=Value.str ⟨#[c]⟩ u)->Vals ((cs.map λc=>(⟨#[c]⟩:Str)).map V.str) us:=by
   intro cs
   induction cs with
   |nil=>intro us hl _;cases us with
    |nil=>exact .nil
    |cons a b=>simp at hl
   |cons c cs ih=>intro us hl hh;cases us with
    |nil=>simp at hl
    |cons a b=>
     refine .cons ?_ (ih b (by simpa using hl) λj v hj=>?_)
     ·obtain⟨c',u,e1,e2⟩:=hh 0 a rfl
      simp at e1;subst e1;exact⟨u,e2⟩
     ·obtain⟨c',u,e1,e2⟩:=hh (j+1) v (by simpa using hj)
      exact⟨c',u,by simpa using e1,e2⟩
  refine key x.cps.toList acc'.toList (by simpa using h1) λj v hj=>?_
  obtain⟨c,u,e1,e2⟩:=h2 j v (by simpa using hj)
  exact⟨c,u,by simpa using e1,e2⟩
 exact⟨.ref s.heap.objs.size,_,I.laid (t':=tk) kp (Nat.le_refl _) (show ObjOk X.prog X.w _ h' _ (.lst ((lJ x).map V.str)) from⟨by unfold lJ;rw[List.length_map,List.length_map,Array.length_toList];exact hz,acc'.toList,c',rv,by simpa using e⟩),rfl,q _ (I.hok.fresh (Nat.le_refl _))⟩
theorem vV {K:W.Frag}:gj K .n (λxs H Q=> ∃x:Str,xs=[.str x]/\x.length<=sizeLine/\ ∀l,H l=none->Q (.ref l) (cF H l (.lst ((lJ x).map V.str)))) nO:=by
 intro H hid vs ds d Q hf h r q;unfold nO at h;split at h
 ·split at h
  ·cases h
   obtain⟨v,rfl,r1⟩:=Reps1.one r
   have:=r1.str
   subst this;exact⟨_,rfl, ‹_›,λl hl=>q _ _ (bc hl _) (gA hl (Same.refl _) (jx _))⟩
  ·cases h
 ·cases h
def De(x:Str):It:=⟨λi _=>i<x.cps.size,λi H v H'=>H'=H/\ ∃c,x.cps[i]? =some c/\v=.str ⟨#[c]⟩,λi _=>x.cps.size<=i⟩
theorem uZ {P:Program}{w:World}{K:W.Frag}{tg:Expr}(it:Addr)(x:Str)(t:Tok):Turn P w K tg (De x) [it] it (λi h=>h.IsStrIter it "str_ascii_iterator" x t i) where
 mem:=by simp
 obj:=λi h st b hb=>by
  have e:b=it:=by simpa using hb
  subst e;obtain⟨o,h1,_,h3⟩:=st
  exact⟨o,h1,λv z=>by rw[h3] at z;cases z⟩
 keep:=λi h h' st k=>let⟨o,h1,r⟩:=st;⟨o,k it (by simp) o h1,r⟩
 item:=by
  intro X hP hw hK hc i ae s σ H E I hf st hg;subst hP hw hK;obtain⟨f0,f1,f2,f3,f4,f5⟩:=hf it (by simp)
  have hi:x.cps[i]? =some x.cps[i]:=Array.getElem?_eq_getElem hg
  refine wpAny_pyNext_ascii_item st hi λh' st' sb=>?_
  have I1:Inv X ae σ H {s with heap:=h',toks:=s.toks+1}:=I.turned (λb o hb e=>(sb.2 b hb).trans e) f0 f1 f3 f4 f5
  obtain⟨o,e,c,d⟩:=id st'
  exact⟨_,rfl,rY (s:={s with heap:=h',toks:=s.toks+1}) e c d (by decide) ⟨.str ⟨#[x.cps[i]]⟩,H,I1,⟨_,rfl⟩,⟨rfl,_,hi,rfl⟩,st',λb hb=>(hf b hb).1⟩⟩
 done:=by
  intro X hP hw hK hc i ae s σ H E I hf st hg;subst hP hw hK;obtain⟨f0,f1,f2,f3,f4,f5⟩:=hf it (by simp)
  exact wpAny_pyNext_ascii_end (I.ok.hd hc) st (Array.getElem?_eq_none hg) λh' eb=>⟨rfl,I.turned (t':=s.toks) (λb o hb e=>eb b o hb e) f0 f1 f3 f4 f5⟩
 self:=λ_ _ _ _ _ st h=>wpAny_pyIter_striter_ascii st h
def Cq(tl:TE):TI:=λσ H R=>tl σ H λx H1=> ∃z:Str,x=.str z/\z.cps.all (·<128)=true/\R (De z) H1
theorem zE {l:Expr}{tl:TE}(hl:PE X l tl):PI X tg l (Cq tl):=by
 intro ae s σ H R I h;refine cm (hl ae s σ H _ I h) λv s1 hq_=>?_
 obtain⟨x,H1,I1,r1,q1⟩:=hq_
 obtain⟨z,rfl,ha,q⟩:=q1
 obtain⟨t,rfl⟩:=r1
 refine wpAny_pyIter_ascii ha ?_
 refine⟨s1.heap.objs.size,[s1.heap.objs.size],_,_,H1,rfl,I1.kept (t':=s1.toks) λb o e=>Heap.get?_push_of_some _ e,uZ _ z t,⟨_,Heap.get?_push_size _ rfl,rfl,rfl⟩,λb hb=>?_,q⟩
 have e:b=s1.heap.objs.size:=by simpa using hb
 subst e;exact I1.fpOk (Nat.le_refl _) (I1.hok.fresh (Nat.le_refl _))
def wO(f:FE):FA:=λρ=>(f ρ).bind λd=>match d with
 | .str x=>if x.cps.all (·<128)=true then some ((lJ x).map D.str) else none
 |_=>none
theorem wS(h:DP X c k e f):DIp X c tg e (wO f):=λhid ρ=>PI.imp (zE (h hid ρ)) λσ H R hq_=>by
 obtain⟨sr,ds,e,q⟩:=hq_
 obtain⟨d,e1,hd⟩:=Option.bind_eq_some_iff.mp e
 cases d with
 |str x=>
  dsimp only at hd;split at hd
  ·cases hd
   refine⟨sr,_,e1,λv H' s' r=>?_⟩
   have:=(RK.b k r λa n=>sr.fresh n).str
   subst this;refine⟨x,rfl, ‹_›,q _ H' s' ⟨λi d H e _=>?_,λH _=>?_⟩⟩
   ·unfold lJ at e
    rw[List.getElem?_map,List.getElem?_map] at e;cases ec:x.cps.toList[i]? with
    |none=>rw[ec] at e;cases e
    |some cc=>
     rw[ec] at e;cases e
     have ec':x.cps[i]? =some cc:=by simpa using ec
     refine⟨(Array.getElem?_eq_some_iff.mp ec').1,λy H2 h2=>?_⟩
     obtain⟨e2,c2,e3,e4⟩:=h2
     subst e2 e4;rw[ec'] at e3;cases e3;exact⟨Same.refl _,λ_ _ _=>.str⟩
   ·show x.cps.size<=_
    unfold lJ;simp
  ·cases hd
 |_=>cases hd
end
set_option maxHeartbeats 4000000
def nC(i:Nat):Stmt:=PySem.Challenge.pw_rookborders_k85_no_texts.main.body.getD i (.Pass ⟨0,0,0,0⟩)
structure Bt(mg:Str->Option Value):Prop where
 b_ValueError:mg "ValueError"=none
 b_abs:mg "abs"=none
 b_all:mg "all"=none
 b_any:mg "any"=none
 b_bool:mg "bool"=none
 b_int:mg "int"=none
 b_isinstance:mg "isinstance"=none
 b_len:mg "len"=none
 b_list:mg "list"=none
 b_max:mg "max"=none
 b_min:mg "min"=none
 b_range:mg "range"=none
 b_sorted:mg "sorted"=none
 b_str:mg "str"=none
 b_tuple:mg "tuple"=none
 b_zip:mg "zip"=none
 g_LEAST_SIZE: ∃tk,mg "LEAST_SIZE"=some (.int 2 tk)
 g_MOST_SIZE: ∃tk,mg "MOST_SIZE"=some (.int 6 tk)
def BH:List Str:=["RookError","NoSquare","NoMove","TooMany","NoPart","NotOne","NoPaper","NoText","NoRow","NoStep"]
structure Et(K:W.Frag)(mg:Str->Option Value)(kx0 kx1 kx2 kx3 kx4 kx5 kx6 kx7 kx8 kx9:Addr):Prop where
 t:ExTab K mg kx0 [("RookError",kx0),("NoSquare",kx1),("NoMove",kx2),("TooMany",kx3),("NoPart",kx4),("NotOne",kx5),("NoPaper",kx6),("NoText",kx7),("NoRow",kx8),("NoStep",kx9)]
 o_NoText:W.excIn K kx7 ou "ValueError.__new__"=true
theorem Ch:(["size","thing","number"]:List Str).Nodup:=by decide+kernel
theorem BZ:(["order","number"]:List Str).Nodup:=by decide+kernel
theorem AM:(["thing","rings","crosses","ring","cross"]:List Str).Nodup:=by decide+kernel
theorem CY:(["sign","rows","row"]:List Str).Nodup:=by decide+kernel
theorem Ca:(["thing","rows","by_rows","row"]:List Str).Nodup:=by decide+kernel
theorem Cy:(["_law_bag_here","_law_n","_law_plain","_law_by","_law_rings","_law_crosses","_law_c","_law_d","_law_row"]:List Str).Nodup:=by decide+kernel
theorem BW:(["_law_text_here","_law_rows","_law_n","_law_marks","_law_sign","_law_found","_law_row"]:List Str).Nodup:=by decide+kernel
theorem CF:(["_law_text_here","_law_rows","_law_n","_law_marks","_law_sign","_law_found","_law_column"]:List Str).Nodup:=by decide+kernel
theorem Cc:(["_law_text_here","_law_rows","_law_n","_law_marks","_law_sign","_law_found","_law_column","_law_row"]:List Str).Nodup:=by decide+kernel
theorem wL:(["_law_text_here","_law_rows","_law_n","_law_marks","_law_sign","_law_found","_law_one"]:List Str).Nodup:=by decide+kernel
theorem AK:(["_law_bag_here","_law_signs","_law_ways","_law_places","_law_kinds","_law_text_here","?_law_k","_law_sign","_law_k"]:List Str).Nodup:=by decide+kernel
theorem By:(["_law_script","_law_k","_law_text_here","_law_some","_law_thing"]:List Str).Nodup:=by decide+kernel
section
variable {P:Program}{w:World}{K:W.Frag}{mg:Str->Option Value}{base:Heap}{kx0 kx1 kx2 kx3 kx4 kx5 kx6 kx7 kx8 kx9:Addr}
abbrev dC:Stmt:=nC 12
abbrev dA:Stmt:=nC 13
abbrev bP:Stmt:=nC 14
abbrev cO:Stmt:=nC 18
abbrev fE:Stmt:=nC 20
abbrev bO:Stmt:=nC 21
abbrev bV:Stmt:=nC 22
abbrev dn:Stmt:=nC 24
abbrev en:Stmt:=nC 25
abbrev dr:Stmt:=nC 26
abbrev cQ:Stmt:=nC 27
abbrev cu:Stmt:=nC 28
abbrev bY:Stmt:=nC 29
abbrev cM:Stmt:=nC 30
abbrev eo:Stmt:=nC 31
abbrev dz:Stmt:=nC 32
abbrev dB:Stmt:=nC 33
abbrev dD:Stmt:=nC 34
abbrev iw:Stmt:=nC 35
theorem oW:FnScope ["thing"] ["thing"] (ar dC):=⟨rfl,rfl,rfl,by decide+kernel,rfl,by decide+kernel,by decide+kernel⟩
def qe:FS:=
 aY (qc (gR (bq (iG "int" (ah 0))) (bq (qc (dH (bq (iG "bool" (ah 0))))))))
def fu:List D->Option D:=j0 .s 1 qe
theorem rj(B:Bt mg)(F:Df K mg "is_whole" dC ["thing"])(ET:Et K mg kx0 kx1 kx2 kx3 kx4 kx5 kx6 kx7 kx8 kx9):Cl P w K mg base 1 "is_whole" ["thing"] (ir K .s 1 fu):=by
 refine dm (k:=0) F oW (by decide) rfl λ_ cdv A outer s H hid E hr=>?_
 exact(az (aP (nX (iU "int" zb (ag 0) B.b_isinstance B.b_int) (qz (qV (iU "bool" xK (ag 0) B.b_isinstance B.b_bool))))))
theorem pD:FnScope ["size","thing"] ["size","thing"] (ar dA):=⟨rfl,rfl,rfl,by decide+kernel,rfl,by decide+kernel,by decide+kernel⟩
def cw:FS:=
 aA (cW (km (dH (du (iG "tuple" (ah 1)))) (bq (aj gM (ai bu (aa (ah 1) (af))) (ah 0)))) (aY (am (.bl false))) (skip))
 (aA (cW (dH (du (ai n5 (aa (aX 1 (dv (ah 1)) (gN 2) (bT) (ai (nF 1 fu) (aa (ah 2) (af)))) (af))))) (aY (am (.bl false))) (skip))
 (aY (aj eV (ai eI (aa (ah 1) (af))) (pQ (ah 0)))))
def dq:List D->Option D:=j0 .s 2 cw
theorem qo(B:Bt mg)(F:Df K mg "is_order" dA ["size","thing"])(ET:Et K mg kx0 kx1 kx2 kx3 kx4 kx5 kx6 kx7 kx8 kx9)(iH:Cl P w K mg base 1 "is_whole" ["thing"] (ir K .s 1 fu)):Cl P w K mg base 2 "is_order" ["size","thing"] (ir K .s 2 dq):=by
 refine dm (k:=1) F pD (by decide) rfl λ_ cdv A outer s H hid E hr=>?_
 exact(aq (cq (DW.dt (kZ (ft (dX (iU "tuple" kP (ag 1) B.b_isinstance B.b_tuple))) (iE (bG (fD hr.units) gZ (aE aF bZ B.b_len (aD (ag 1) aK) (hv:=by kernel_rfl)) (ag 0) (aZ _))))) (az (aP jV)) bb)
  (aq (cq (ft (dX (aE (iY rfl) nP B.b_all (aD (cT (N':=["size","thing","number"]) rfl (cZ (Nat.le_of_ble_eq_true rfl)) (DIp.b (fb (ag 1))) (λ_ _ _ _=>(aO 2 Ch)) (λ_ _ _ _=>cG) (λ_ _ _ _=>(eS iH (hr.mono (by decide)) (ak (ag 2) av)))) aK) (hv:=by kernel_rfl)))) (az (aP jV)) bb)
  (az (aP (gD (cx hr.units) dJ (aE jS ma B.b_sorted (aD (ag 1) aK) (hv:=by kernel_rfl)) (eG rfl B.b_list B.b_range (ag 0)) (aZ _))))))
theorem j8:FnScope ["order"] ["order"] (ar bP):=⟨rfl,rfl,rfl,by decide+kernel,rfl,by decide+kernel,by decide+kernel⟩
def lI:FS:=
 aY (ai dL (aa (aX 1 (bS (aa (ai bu (aa (ah 0) (af))) (af))) (gN 1) (bT) (aj sL (ah 0) (ah 1))) (af)))
def dO:List D->Option D:=j0 .s 1 lI
theorem lB(B:Bt mg)(F:Df K mg "order_tipped" bP ["order"])(ET:Et K mg kx0 kx1 kx2 kx3 kx4 kx5 kx6 kx7 kx8 kx9):Cl P w K mg base 1 "order_tipped" ["order"] (ir K .s 1 dO):=by
 refine dm (k:=0) F j8 (by decide) rfl λ_ cdv A outer s H hid E hr=>?_
 exact(az (aP (eD cD ge B.b_tuple (aD (cT (N':=["order","number"]) rfl (cZ (Nat.le_of_ble_eq_true rfl)) (DIp.b (bW B.b_range (ak (aE aF bZ B.b_len (aD (ag 0) aK) (hv:=by kernel_rfl)) av))) (λ_ _ _ _=>(aO 1 BZ)) (λ_ _ _ _=>cG) (λ_ _ _ _=>(oK hr.units (ag 0) (ag 1)))) aK) (hv:=by kernel_rfl))))
theorem sc_is_square:FnScope ["thing","rings","crosses"] ["thing"] (ar cO):=⟨rfl,rfl,rfl,by decide+kernel,rfl,by decide+kernel,by decide+kernel⟩
def be:FS:=
 aA (cW (km (dH (du (iG "tuple" (ah 0)))) (bq (aj gM (ai bu (aa (ah 0) (af))) (am (.int 2))))) (aY (am (.bl false))) (skip))
 (aA (fG (gT 2 (lw (gN 1) (lw (gN 2) (qa)))) (pu (ah 0)))
 (aA (cW (km (dH (du (iG "tuple" (ah 1)))) (dH (bq (zI BJ BJ (am (.int 2)) (ai bu (aa (ah 1) (af))) (am (.int 6)))))) (aY (am (.bl false))) (skip))
 (aA (cW (km (dH (du (ai (nF 2 dq) (aa (ai bu (aa (ah 1) (af))) (aa (ah 1) (af)))))) (dH (du (ai (nF 2 dq) (aa (ai bu (aa (ah 1) (af))) (aa (ah 2) (af))))))) (aY (am (.bl false))) (skip))
 (aY (ai n5 (aa (aX 2 (ux (ah 1) (ah 2)) (gT 2 (lw (gN 3) (lw (gN 4) (qa)))) (bT) (aj gM (ah 3) (ah 4))) (af)))))))
def eN:List D->Option D:=j0 .s 3 be
theorem po(B:Bt mg)(F:Df K mg "is_square" cO ["thing"])(ET:Et K mg kx0 kx1 kx2 kx3 kx4 kx5 kx6 kx7 kx8 kx9)(gv:Cl P w K mg base 2 "is_order" ["size","thing"] (ir K .s 2 dq)):Cl P w K mg base 3 "is_square" ["thing"] (ir K .s 1 eN):=by
 refine dm (k:=2) F sc_is_square (by decide) rfl λ_ cdv A outer s H hid E hr=>?_
 exact(aq (cq (DW.dt (kZ (ft (dX (iU "tuple" kP (ag 0) B.b_isinstance B.b_tuple))) (iE (bG (fD hr.units) gZ (aE aF bZ B.b_len (aD (ag 0) aK) (hv:=by kernel_rfl)) ao (aZ _))))) (az (aP jV)) bb)
  (aq (zL (DP.ef (ag 0)) (sF (n:=2) rfl (i8 (aO 1 sc_is_square.nd) (i8 (aO 2 sc_is_square.nd) rS))))
  (aq (cq (DW.dt (kZ (ft (dX (iU "tuple" kP (ag 1) B.b_isinstance B.b_tuple))) (iE (ft (Bf yo yo oG oG (yC B.g_LEAST_SIZE) (aE aF bZ B.b_len (aD (ag 1) aK) (hv:=by kernel_rfl)) (yC B.g_MOST_SIZE)))))) (az (aP jV)) bb)
  (aq (cq (DW.dt (kZ (ft (dX (eS gv (hr.mono (by decide)) (ak (aE aF bZ B.b_len (aD (ag 1) aK) (hv:=by kernel_rfl)) (ak (ag 1) av))))) (iE (ft (dX (eS gv (hr.mono (by decide)) (ak (aE aF bZ B.b_len (aD (ag 1) aK) (hv:=by kernel_rfl)) (ak (ag 2) av)))))))) (az (aP jV)) bb)
  (az (aP (aE (iY rfl) nP B.b_all (aD (cT (N':=["thing","rings","crosses","ring","cross"]) rfl (zg (kx (cZ (Nat.le_of_ble_eq_true rfl)) (kx (cZ (Nat.le_of_ble_eq_true rfl)) t8))) (DIp.b (wo (ag 1) (ag 2) B.b_zip)) (λ_ _ _ _=>(sF (n:=2) rfl (i8 (aO 3 AM) (i8 (aO 4 AM) rS)))) (λ_ _ _ _=>cG) (λ_ _ _ _=>(gD (fD hr.units) gZ (ag 3) (ag 4) (aZ _)))) aK) (hv:=by kernel_rfl))))))))
theorem ua:FnScope ["size","row"] ["size","row"] (ar fE):=⟨rfl,rfl,rfl,by decide+kernel,rfl,by decide+kernel,by decide+kernel⟩
def kE:FS:=
 aY (qc (gR (bq (aj eV (ai eX (aa (ah 1) (af))) (ah 0))) (bq (qc (gR (bq (aj eV (aj gP (ah 1) (am (.str "o"))) (am (.int 1)))) (bq (qc (gR (bq (aj eV (aj gP (ah 1) (am (.str "x"))) (am (.int 1)))) (bq (aj eV (aj gP (ah 1) (am (.str "."))) (aj cK (ah 0) (am (.int 2)))))))))))))
def gX:List D->Option D:=j0 .s 2 kE
theorem v8(B:Bt mg)(F:Df K mg "is_row" fE ["size","row"])(ET:Et K mg kx0 kx1 kx2 kx3 kx4 kx5 kx6 kx7 kx8 kx9):Cl P w K mg base 1 "is_row" ["size","row"] (ir K .s 2 gX):=by
 refine dm (k:=0) F ua (by decide) rfl λ_ cdv A outer s H hid E hr=>?_
 exact(az (aP (nX (gD (cx hr.units) dJ (aE fc kr B.b_len (aD (ag 1) aK) (hv:=by kernel_rfl)) (ag 0) (aZ _)) (nX (gD (cx hr.units) dJ (kf (ag 1) aI) ao (aZ _)) (nX (gD (cx hr.units) dJ (kf (ag 1) aI) ao (aZ _)) (qz (gD (cx hr.units) dJ (kf (ag 1) aI) (iQ (ag 0) ao) (aZ _))))))))
theorem jZ:FnScope ["sign","rows"] ["sign","rows"] (ar bO):=⟨rfl,rfl,rfl,by decide+kernel,rfl,by decide+kernel,by decide+kernel⟩
def fA:FS:=
 aY (ai dL (aa (aX 1 (dv (ah 1)) (gN 2) (bT) (aj vK (ah 2) (ah 0))) (af)))
def bM:List D->Option D:=j0 .s 2 fA
theorem lD(B:Bt mg)(F:Df K mg "columns_with" bO ["sign","rows"])(ET:Et K mg kx0 kx1 kx2 kx3 kx4 kx5 kx6 kx7 kx8 kx9):Cl P w K mg base 1 "columns_with" ["sign","rows"] (ir K .s 2 bM):=by
 refine dm (k:=0) F jZ (by decide) rfl λ_ cdv A outer s H hid E hr=>?_
 exact(az (aP (eD cD ge B.b_tuple (aD (cT (N':=["sign","rows","row"]) rfl (cZ (Nat.le_of_ble_eq_true rfl)) (DIp.b (fb (ag 1))) (λ_ _ _ _=>(aO 2 CY)) (λ_ _ _ _=>cG) (λ_ _ _ _=>(xu rfl (ag 2) (ag 0)))) aK) (hv:=by kernel_rfl))))
theorem sc_square_read:FnScope ["thing","rows","by_rows"] ["thing"] (ar bV):=⟨rfl,rfl,rfl,by decide+kernel,rfl,by decide+kernel,by decide+kernel⟩
def cb:FX:=
 jW (uo (dH (du (iG "str" (ah 0)))) (o9 ⟨"NoText",0⟩ (aa (am (.str "this is no text")) (af))) (pK skip))
 (jW (pK (dg 1 (aj jm (ah 0) (am (.str "/")))))
 (jW (pK (dE (aG 1 0 kX (bI af))))
 (jW (uo (dH (du (ai n5 (aa (aX 1 (jF (bJ 1)) (gN 3) (bT) (ai (nF 2 gX) (aa (ai bu (aa (bJ 1) (af))) (aa (ah 3) (af))))) (af))))) (o9 ⟨"NoText",0⟩ (aa (am (.str "these are no rows of a square")) (af))) (pK skip))
 (jW (pK ((λρ=>(aN 2 (dZ (aa (ai (nF 2 bM) (aa (am (.str "o")) (aa (ah 1) (af)))) (aa (ai (nF 2 bM) (aa (am (.str "x")) (aa (ah 1) (af)))) (af))))) (qR 1 ρ))))
 (jW (uo (dH (du (ai (nF 1 eN) (aa (ah 2) (af))))) (o9 ⟨"NoText",0⟩ (aa (am (.str "this writes no square")) (af))) (pK skip))
 (pK (aY (dZ (aa (ai (nF 1 dO) (aa (aj bp (ah 2) (am (.int 0))) (af))) (aa (ai (nF 1 dO) (aa (aj bp (ah 2) (am (.int 1))) (af))) (af)))))))))))
def bX:List D->Option (Except Ex D):=Aj .s 3 cb
theorem lQ(B:Bt mg)(F:Df K mg "square_read" bV ["thing"])(ET:Et K mg kx0 kx1 kx2 kx3 kx4 kx5 kx6 kx7 kx8 kx9)(dW:Cl P w K mg base 1 "columns_with" ["sign","rows"] (ir K .s 2 bM))(gU:Cl P w K mg base 3 "is_square" ["thing"] (ir K .s 1 eN))(dQ:Cl P w K mg base 1 "order_tipped" ["order"] (ir K .s 1 dO))(kG:Cl P w K mg base 1 "is_row" ["size","row"] (ir K .s 2 gX)):ClX P w K mg base 4 "square_read" ["thing"] (BB K .s 1 bX):=by
 refine wd (k:=3) F sc_square_read (by decide) rfl λ_ cdv A outer s H hid E hr=>?_
 exact(fe (qp (DT.nox (ft (dX (iU "str" wa (ag 0) B.b_isinstance B.b_str)))) (je (jp (n:=0) (ET.t.row _ (List.Mem.tail _ (List.Mem.tail _ (List.Mem.tail _ (List.Mem.tail _ (List.Mem.tail _ (List.Mem.tail _ (List.Mem.tail _ (List.Mem.head _))))))))).mg (ET.t.row _ (List.Mem.tail _ (List.Mem.tail _ (List.Mem.tail _ (List.Mem.tail _ (List.Mem.tail _ (List.Mem.tail _ (List.Mem.tail _ (List.Mem.head _))))))))).ns ET.o_NoText hr.hd (DA.nox (ak aI av)))) kR)
  (fe (lu (fQ 1 sc_square_read.nd (lH (ag 0) aI)))
  (fe (lu (h9 (kU 1 iF iS PySem.F.slot_list_reverse PySem.F.type_list_reverse)))
  (fe (qp (DT.nox (ft (dX (aE (iY rfl) nP B.b_all (aD (cT (N':=["thing","rows","by_rows","row"]) rfl (cZ (Nat.le_of_ble_eq_true rfl)) (oY (bo 1)) (λ_ _ _ _=>(aO 3 Ca)) (λ_ _ _ _=>cG) (λ_ _ _ _=>(eS kG (hr.mono (by decide)) (ak (aE aF bZ B.b_len (aD (bo 1) aK) (hv:=by kernel_rfl)) (ak (ag 3) av))))) aK) (hv:=by kernel_rfl))))) (je (jp (n:=0) (ET.t.row _ (List.Mem.tail _ (List.Mem.tail _ (List.Mem.tail _ (List.Mem.tail _ (List.Mem.tail _ (List.Mem.tail _ (List.Mem.tail _ (List.Mem.head _))))))))).mg (ET.t.row _ (List.Mem.tail _ (List.Mem.tail _ (List.Mem.tail _ (List.Mem.tail _ (List.Mem.tail _ (List.Mem.tail _ (List.Mem.tail _ (List.Mem.head _))))))))).ns ET.o_NoText hr.hd (DA.nox (ak aI av)))) kR)
  (fe (lu (we 1 (bv 2 sc_square_read.nd (fW (ak (eS dW (hr.mono (by decide)) (ak aI (ak (ag 1) av))) (ak (eS dW (hr.mono (by decide)) (ak aI (ak (ag 1) av))) av))))))
  (fe (qp (DT.nox (ft (dX (eS gU (hr.mono (by decide)) (ak (ag 2) av))))) (je (jp (n:=0) (ET.t.row _ (List.Mem.tail _ (List.Mem.tail _ (List.Mem.tail _ (List.Mem.tail _ (List.Mem.tail _ (List.Mem.tail _ (List.Mem.tail _ (List.Mem.head _))))))))).mg (ET.t.row _ (List.Mem.tail _ (List.Mem.tail _ (List.Mem.tail _ (List.Mem.tail _ (List.Mem.tail _ (List.Mem.tail _ (List.Mem.tail _ (List.Mem.head _))))))))).ns ET.o_NoText hr.hd (DA.nox (ak aI av)))) kR)
  (tM (az (aP (fW (ak (eS dQ (hr.mono (by decide)) (ak (bt aR bA (ag 2) ao (λ_ _=>rfl)) av)) (ak (eS dQ (hr.mono (by decide)) (ak (bt aR bA (ag 2) ao (λ_ _=>rfl)) av)) av))))))))))))
theorem o7:FnScope ["_law_script","_law_k"] ["_law_script","_law_k"] (ar dn):=⟨rfl,rfl,rfl,by decide+kernel,rfl,by decide+kernel,by decide+kernel⟩
def rn:FS:=
 aA (cW (bq (aj Aq (ah 1) (ai bu (aa (ah 0) (af))))) (aY (aj bp (ah 0) (ah 1))) (skip))
 (aY (am (.int 0)))
def iR:List D->Option D:=j0 .s 2 rn
theorem qu(B:Bt mg)(F:Df K mg "_law_cell" dn ["_law_script","_law_k"])(ET:Et K mg kx0 kx1 kx2 kx3 kx4 kx5 kx6 kx7 kx8 kx9):Cl P w K mg base 1 "_law_cell" ["_law_script","_law_k"] (ir K .s 2 iR):=by
 refine dm (k:=0) F o7 (by decide) rfl λ_ cdv A outer s H hid E hr=>?_
 exact(aq (cq (bG yE oG (ag 1) (aE aF bZ B.b_len (aD (ag 0) aK) (hv:=by kernel_rfl)) (aZ _)) (az (aP (bt aR bA (ag 0) (ag 1) (λ_ _=>rfl)))) bb)
  (az (aP ao)))
theorem sc_law_bag:FnScope ["_law_script","_law_at","_law_cell_here","_law_mix","_law_k"] ["_law_script","_law_at"] (ar en):=⟨rfl,rfl,rfl,by decide+kernel,rfl,by decide+kernel,by decide+kernel⟩
def tZ:FS:=
 aA (aN 2 (aj bn (ai pq (aa (ai (nF 2 iR) (aa (ah 0) (aa (ah 1) (af)))) (af))) (aj bH (aj bH (aj dP (am (.int 10)) (am (.int 60))) (aj dP (am (.int 10)) (am (.int 60)))) (aj dP (am (.int 10)) (am (.int 60))))))
 (aA (cW (bq (aj BK (ah 2) (aj dP (am (.int 10)) (am (.int 18))))) (aY (bQ (aa (ah 2) (aa (am (.int 0)) (af))))) (skip))
 (aA (aN 3 (aj bn (aj bw (aj bw (ah 2) (aj bH (am (.int 7919)) (ah 1))) (am (.int 17))) (am (.int 2147483647))))
 (aA (eO (bI (bS (aa (ai i7 (aa (ai bu (aa (ah 0) (af))) (aa (am (.int 9)) (af)))) (af)))) (gN 4) (aN 3 (aj bn (aj bw (aj bw (aj dP (ah 3) (am (.int 5))) (aj bn (aj bp (ah 0) (ah 4)) (am (.int 2147483629)))) (aj bH (am (.int 31)) (ah 4))) (am (.int 2147483647)))))
 (aY (bQ (aa (ah 3) (aa (am (.int 1)) (af))))))))
def ii:List D->Option D:=j0 .n 5 tZ
theorem uf(B:Bt mg)(F:Df K mg "_law_bag" en ["_law_script","_law_at"])(ET:Et K mg kx0 kx1 kx2 kx3 kx4 kx5 kx6 kx7 kx8 kx9)(iP:Cl P w K mg base 1 "_law_cell" ["_law_script","_law_k"] (ir K .s 2 iR)):Cl P w K mg base 2 "_law_bag" ["_law_script","_law_at"] (ir K .n 2 ii):=by
 refine dm (k:=1) F sc_law_bag (by decide) rfl λ_ cdv A outer s H hid E hr=>?_
 exact(aq (bv 2 sc_law_bag.nd (cA (aE vR zM B.b_abs (aD (eS iP (hr.mono (by decide)) (ak (ag 0) (ak (ag 1) av))) aK) (hv:=by kernel_rfl)) (eT (eT (jn ao ao) (jn ao ao)) (jn ao ao))))
  (aq (cq (bG AD oG (ag 2) (jn ao ao) (aZ _)) (az (aP (fk (ak (ag 2) (ak ao av))))) bb)
  (aq (bv 3 sc_law_bag.nd (cA (dw (dw (ag 2) (eT ao (ag 1))) ao) ao))
  (aq (g6 PassesOwn.never rfl (DIp.e (bW B.b_range (ak (aE (mh rfl) tj B.b_min (aD (aE aF bZ B.b_len (aD (ag 0) aK) (hv:=by kernel_rfl)) (aD ao aK)) (hv:=by kernel_rfl)) av))) (aO 4 sc_law_bag.nd) (az (bv 3 sc_law_bag.nd (cA (dw (dw (jn (ag 3) ao) (cA (bt aR bA (ag 0) (ag 4) (λ_ _=>rfl)) ao)) (eT ao (ag 4))) ao))))
  (az (aP (fk (ak (ag 3) (ak ao av)))))))))
theorem sc_law_take:FnScope ["_law_bag_here","_law_many","_law_digit"] ["_law_bag_here","_law_many"] (ar dr):=⟨rfl,rfl,rfl,by decide+kernel,rfl,by decide+kernel,by decide+kernel⟩
def rh:FS:=
 aA (cW (bq (aj eV (aj bp (bJ 0) (am (.int 1))) (am (.int 0)))) (aA (aN 2 (aj bn (aj bp (bJ 0) (am (.int 0))) (ah 1)))
 (aA (fG (ci 0 (am (.int 0))) (pu (aj iZ (aj bp (bJ 0) (am (.int 0))) (ah 1))))
 (aY (ah 2)))) (skip))
 (aA (fG (ci 0 (am (.int 0))) (pu (aj bn (aj bw (aj bw (aj dP (aj bp (bJ 0) (am (.int 0))) (am (.int 5))) (aj bH (am (.int 48271)) (aj bp (bJ 0) (am (.int 1))))) (am (.int 11))) (am (.int 2147483647)))))
 (aA (fG (ci 0 (am (.int 1))) (pu (aj bw (aj bp (bJ 0) (am (.int 1))) (am (.int 1)))))
 (aY (aj bn (aj iZ (aj bn (aj bH (aj bp (bJ 0) (am (.int 0))) (am (.int 69621))) (am (.int 2147483629))) (am (.int 8))) (ah 1)))))
def aC:List D->List D->Option (D×List D):=qb .s 3 rh
theorem re(B:Bt mg)(F:Df K mg "_law_take" dr ["_law_bag_here","_law_many"])(ET:Et K mg kx0 kx1 kx2 kx3 kx4 kx5 kx6 kx7 kx8 kx9):Cl P w K mg base 1 "_law_take" ["_law_bag_here","_law_many"] (og K .s 1 aC):=by
 refine nT (k:=0) F sc_law_take (by decide) rfl λ_ cdv A outer s H hid a E hr=>?_
 exact(aq (cq (bG (cx hr.units) dJ (bt aR bA (bo 0) ao (λ_ _=>rfl)) ao (aZ _)) (aq (bv 2 sc_law_take.nd (cA (bt aR bA (bo 0) ao (λ_ _=>rfl)) (ag 1)))
  (aq (kK (DP.ef (rM (bt aR bA (bo 0) ao (λ_ _=>rfl)) (ag 1))) (gB 0 ao))
  (az (aP (ag 2))))) bb)
  (aq (kK (DP.ef (cA (dw (dw (jn (bt aR bA (bo 0) ao (λ_ _=>rfl)) ao) (eT ao (bt aR bA (bo 0) ao (λ_ _=>rfl)))) ao) ao)) (gB 0 ao))
  (aq (kK (DP.ef (dw (bt aR bA (bo 0) ao (λ_ _=>rfl)) ao)) (gB 0 ao))
  (az (aP (cA (rM (cA (eT (bt aR bA (bo 0) ao (λ_ _=>rfl)) ao) ao) ao) (ag 1)))))))
theorem sc_law_order:FnScope ["_law_bag_here","_law_n","_law_left","_law_found"] ["_law_bag_here","_law_n"] (ar cQ):=⟨rfl,rfl,rfl,by decide+kernel,rfl,by decide+kernel,by decide+kernel⟩
def pC:FS:=
 aA (dg 2 (pQ (ah 1)))
 (aA (dg 3 (bQ (af)))
 (aA (ut (bq (aj gM (bJ 2) (bQ (af)))) (dE (aG 3 1 iM (ce (aG 2 1 lU (ce (aG 0 1 aC (bI (aa (ai bu (aa (bJ 2) (af))) (af)))) (bI (af)))) (bI (af))))) 16)
 (wj 3)))
def fP:List D->List D->Option (D×List D):=qb .n 4 pC
theorem pM(B:Bt mg)(F:Df K mg "_law_order" cQ ["_law_bag_here","_law_n"])(ET:Et K mg kx0 kx1 kx2 kx3 kx4 kx5 kx6 kx7 kx8 kx9)(aW:Cl P w K mg base 1 "_law_take" ["_law_bag_here","_law_many"] (og K .s 1 aC)):Cl P w K mg base 2 "_law_order" ["_law_bag_here","_law_n"] (og K .n 1 fP):=by
 refine nT (k:=1) F sc_law_order (by decide) rfl λ_ cdv A outer s H hid a E hr=>?_
 exact(aq (fQ 2 sc_law_order.nd (eG rfl B.b_list B.b_range (ag 1)))
  (aq (fQ 3 sc_law_order.nd (fk av))
  (aq (wm 16 PassesOwn.never (bG (fD hr.units) gZ (bo 2) (fk av) (aZ _)) (az (h9 (ko 3 jo fZ PySem.F.slot_list_append PySem.F.type_list_append (eL (ko 2 zJ vT PySem.F.slot_list_pop PySem.F.type_list_pop (eL (fI 0 aW (hr.mono (by decide)) (DA.gf (ak (aE aF bZ B.b_len (aD (bo 2) aK) (hv:=by kernel_rfl)) av))) (DA.gf av))) (DA.gf av))))))
  (az (xP 3)))))
theorem sc_law_square:FnScope ["_law_bag_here","_law_n","_law_plain","_law_by","_law_rings","_law_crosses","_law_c","_law_d"] ["_law_bag_here","_law_n"] (ar cu):=⟨rfl,rfl,rfl,by decide+kernel,rfl,by decide+kernel,by decide+kernel⟩
def mO:FS:=
 aA (fB 2 (aG 0 1 aC (bI (aa (am (.int 4)) (af)))))
 (aA (fB 3 (kH bw (pu (am (.int 1))) (aG 0 1 aC (bI (aa (aj cK (ah 1) (am (.int 1))) (af))))))
 (aA (fB 4 (aG 0 1 fP (bI (aa (ah 1) (af)))))
 (aA (qJ 5 (aG 0 1 fP (bI (aa (ah 1) (af)))))
 (aA (cW (bq (aj eV (ah 2) (am (.int 1)))) (aA (aN 4 (pQ (ah 1)))
 (dg 5 (aX 1 (dv (ah 4)) (gN 8) (bT) (aj bn (aj bw (ah 8) (ah 3)) (ah 1))))) (skip))
 (aA (eO (bI (bS (aa (ah 1) (af)))) (gN 6) (aA (aN 7 (aj bn (aj bw (ah 6) (am (.int 1))) (ah 1)))
 (cW (bq (aj eV (aj bp (bJ 5) (ah 6)) (aj bp (ah 4) (ah 6)))) (fG (gT 2 (lw (ci 5 (ah 6)) (lw (ci 5 (ah 7)) (qa)))) (pu (dZ (aa (aj bp (bJ 5) (ah 7)) (aa (aj bp (bJ 5) (ah 6)) (af)))))) (skip))))
 (aY (dZ (aa (ai dL (aa (ah 4) (af))) (aa (ai dL (aa (bJ 5) (af))) (af))))))))))
def eY:List D->List D->Option (D×List D):=qb .s 8 mO
theorem ny(B:Bt mg)(F:Df K mg "_law_square" cu ["_law_bag_here","_law_n"])(ET:Et K mg kx0 kx1 kx2 kx3 kx4 kx5 kx6 kx7 kx8 kx9)(aW:Cl P w K mg base 1 "_law_take" ["_law_bag_here","_law_many"] (og K .s 1 aC))(fK:Cl P w K mg base 2 "_law_order" ["_law_bag_here","_law_n"] (og K .n 1 fP)):Cl P w K mg base 3 "_law_square" ["_law_bag_here","_law_n"] (og K .s 1 eY):=by
 refine nT (k:=2) F sc_law_square (by decide) rfl λ_ cdv A outer s H hid a E hr=>?_
 exact(aq (il 2 sc_law_square.nd (fI 0 aW (hr.mono (by decide)) (DA.gf (ak ao av))))
  (aq (il 3 sc_law_square.nd (u5 (DP.ef ao) (fI 0 aW (hr.mono (by decide)) (DA.gf (ak (iQ (ag 1) ao) av)))))
  (aq (il 4 sc_law_square.nd (DE.toS (fI 0 fK (hr.mono (by decide)) (DA.gf (ak (ag 1) av)))))
  (aq (xX 5 sc_law_square.nd (fI 0 fK (hr.mono (by decide)) (DA.gf (ak (ag 1) av))))
  (aq (cq (bG (cx hr.units) dJ (ag 2) ao (aZ _)) (aq (bv 4 sc_law_square.nd (DP.toS (eG rfl B.b_list B.b_range (ag 1))))
  (az (x8 5 (N':=["_law_bag_here","_law_n","_law_plain","_law_by","_law_rings","_law_crosses","_law_c","_law_d","_law_row"]) rfl sc_law_square.nd (cZ (Nat.le_of_ble_eq_true rfl)) (DIp.b (fb (ag 4))) (λ_ _ _ _=>(aO 8 Cy)) (λ_ _ _ _=>cG) (λ_ _ _ _=>(cA (dw (ag 8) (ag 3)) (ag 1)))))) bb)
  (aq (g6 PassesOwn.never rfl (DIp.e (bW B.b_range (ak (ag 1) av))) (aO 6 sc_law_square.nd) (aq (bv 7 sc_law_square.nd (cA (dw (ag 6) ao) (ag 1)))
  (az (cq (bG (cx hr.units) dJ (bt aR bA (bo 5) (ag 6) (λ_ _=>rfl)) (bt aR bA (ag 4) (ag 6) (λ_ _=>rfl)) (aZ _)) (az (kK (DP.ef (fW (ak (bt aR bA (bo 5) (ag 7) (λ_ _=>rfl)) (ak (bt aR bA (bo 5) (ag 6) (λ_ _=>rfl)) av)))) (rP (n:=2) rfl (ja (gB 5 (ag 6)) (ja (gB 5 (ag 7)) sM))))) bb))))
  (az (aP (fW (ak (eD cD ge B.b_tuple (aD (ag 4) aK) (hv:=by kernel_rfl)) (ak (eD cD ge B.b_tuple (aD (bo 5) aK) (hv:=by kernel_rfl)) av)))))))))))
theorem sc_law_written:FnScope ["_law_square_here","_law_n","_law_rows","_law_row","_law_line","_law_column","_law_sign"] ["_law_square_here"] (ar bY):=⟨rfl,rfl,rfl,by decide+kernel,rfl,by decide+kernel,by decide+kernel⟩
def fU:FS:=
 aA (aN 1 (ai bu (aa (aj bp (ah 0) (am (.int 0))) (af))))
 (aA (dg 2 (bQ (af)))
 (aA (eO (bI (bS (aa (ah 1) (af)))) (gN 3) (aA (aN 4 (am (.str "")))
 (aA (eO (bI (bS (aa (ah 1) (af)))) (gN 5) (aA (aN 6 (am (.str ".")))
 (aA (cW (bq (aj eV (aj bp (aj bp (ah 0) (am (.int 1))) (ah 5)) (aj cK (aj cK (ah 1) (am (.int 1))) (ah 3)))) (aN 6 (am (.str "x"))) (skip))
 (aA (cW (bq (aj eV (aj bp (aj bp (ah 0) (am (.int 0))) (ah 5)) (aj cK (aj cK (ah 1) (am (.int 1))) (ah 3)))) (aN 6 (am (.str "o"))) (skip))
 (aN 4 (aj gr (ah 4) (ah 6)))))))
 (dE (aG 2 1 iM (bI (aa (ah 4) (af))))))))
 (aY (aj iD (am (.str "/")) (bJ 2)))))
def de:List D->Option D:=j0 .s 7 fU
theorem lL(B:Bt mg)(F:Df K mg "_law_written" bY ["_law_square_here"])(ET:Et K mg kx0 kx1 kx2 kx3 kx4 kx5 kx6 kx7 kx8 kx9):Cl P w K mg base 1 "_law_written" ["_law_square_here"] (ir K .s 1 de):=by
 refine dm (k:=0) F sc_law_written (by decide) rfl λ_ cdv A outer s H hid E hr=>?_
 exact(aq (bv 1 sc_law_written.nd (aE aF bZ B.b_len (aD (bt aR bA (ag 0) ao (λ_ _=>rfl)) aK) (hv:=by kernel_rfl)))
  (aq (fQ 2 sc_law_written.nd (fk av))
  (aq (g6 PassesOwn.never rfl (DIp.e (bW B.b_range (ak (ag 1) av))) (aO 3 sc_law_written.nd) (aq (bv 4 sc_law_written.nd aI)
  (aq (g6 PassesOwn.never rfl (DIp.e (bW B.b_range (ak (ag 1) av))) (aO 5 sc_law_written.nd) (aq (bv 6 sc_law_written.nd aI)
  (aq (cq (bG (cx hr.units) dJ (bt aR bA (bt aR bA (ag 0) ao (λ_ _=>rfl)) (ag 5) (λ_ _=>rfl)) (iQ (iQ (ag 1) ao) (ag 3)) (aZ _)) (az (bv 6 sc_law_written.nd aI)) bb)
  (aq (cq (bG (cx hr.units) dJ (bt aR bA (bt aR bA (ag 0) ao (λ_ _=>rfl)) (ag 5) (λ_ _=>rfl)) (iQ (iQ (ag 1) ao) (ag 3)) (aZ _)) (az (bv 6 sc_law_written.nd aI)) bb)
  (az (bv 4 sc_law_written.nd (hV (ag 4) (ag 6))))))))
  (az (h9 (ko 2 jo fZ PySem.F.slot_list_append PySem.F.type_list_append (DA.gf (ak (ag 4) av))))))))
  (az (aP (ib aI (bo 2)))))))
theorem nJ:FnScope ["_law_e"] ["_law_e"] (ar cM):=⟨rfl,rfl,rfl,by decide+kernel,rfl,by decide+kernel,by decide+kernel⟩
def pF:FS:=
 aA (cW (du (tF 0 BH ["NoSquare","NoMove","TooMany","NoPart","NotOne","NoPaper","NoRow","NoStep"])) (aY (am (.bl true))) (skip))
 (aY (qc (km (bq (qc (dH (bq (tF 0 BH ["RookError"]))))) (bq (qc (dH (bq (zH 0 BH))))))))
def fJ:Ex->Option D:=CQ 1 pF
theorem pO(B:Bt mg)(F:Df K mg "_law_other" cM ["_law_e"])(ET:Et K mg kx0 kx1 kx2 kx3 kx4 kx5 kx6 kx7 kx8 kx9):ClU P w K mg base 1 "_law_other" ["_law_e"] (Bu K .s fJ):=by
 refine x9 (k:=0) F nJ λ_ cdv A outer s H hid E hr=>?_
 exact(aq (cq (dX (xN ET.t 0 (qs:=[("NoSquare",kx1),("NoMove",kx2),("TooMany",kx3),("NoPart",kx4),("NotOne",kx5),("NoPaper",kx6),("NoRow",kx8),("NoStep",kx9)]) rfl (mem_cons (List.Mem.tail _ (List.Mem.head _)) (mem_cons (List.Mem.tail _ (List.Mem.tail _ (List.Mem.head _))) (mem_cons (List.Mem.tail _ (List.Mem.tail _ (List.Mem.tail _ (List.Mem.head _)))) (mem_cons (List.Mem.tail _ (List.Mem.tail _ (List.Mem.tail _ (List.Mem.tail _ (List.Mem.head _))))) (mem_cons (List.Mem.tail _ (List.Mem.tail _ (List.Mem.tail _ (List.Mem.tail _ (List.Mem.tail _ (List.Mem.head _)))))) (mem_cons (List.Mem.tail _ (List.Mem.tail _ (List.Mem.tail _ (List.Mem.tail _ (List.Mem.tail _ (List.Mem.tail _ (List.Mem.head _))))))) (mem_cons (List.Mem.tail _ (List.Mem.tail _ (List.Mem.tail _ (List.Mem.tail _ (List.Mem.tail _ (List.Mem.tail _ (List.Mem.tail _ (List.Mem.tail _ (List.Mem.head _))))))))) (mem_cons (List.Mem.tail _ (List.Mem.tail _ (List.Mem.tail _ (List.Mem.tail _ (List.Mem.tail _ (List.Mem.tail _ (List.Mem.tail _ (List.Mem.tail _ (List.Mem.tail _ (List.Mem.head _)))))))))) (xo))))))))) (eM (ET.t.row _ (List.Mem.tail _ (List.Mem.head _))).mg (eM (ET.t.row _ (List.Mem.tail _ (List.Mem.tail _ (List.Mem.head _)))).mg (eM (ET.t.row _ (List.Mem.tail _ (List.Mem.tail _ (List.Mem.tail _ (List.Mem.head _))))).mg (eM (ET.t.row _ (List.Mem.tail _ (List.Mem.tail _ (List.Mem.tail _ (List.Mem.tail _ (List.Mem.head _)))))).mg (eM (ET.t.row _ (List.Mem.tail _ (List.Mem.tail _ (List.Mem.tail _ (List.Mem.tail _ (List.Mem.tail _ (List.Mem.head _))))))).mg (eM (ET.t.row _ (List.Mem.tail _ (List.Mem.tail _ (List.Mem.tail _ (List.Mem.tail _ (List.Mem.tail _ (List.Mem.tail _ (List.Mem.head _)))))))).mg (eM (ET.t.row _ (List.Mem.tail _ (List.Mem.tail _ (List.Mem.tail _ (List.Mem.tail _ (List.Mem.tail _ (List.Mem.tail _ (List.Mem.tail _ (List.Mem.tail _ (List.Mem.head _)))))))))).mg (eM (ET.t.row _ (List.Mem.tail _ (List.Mem.tail _ (List.Mem.tail _ (List.Mem.tail _ (List.Mem.tail _ (List.Mem.tail _ (List.Mem.tail _ (List.Mem.tail _ (List.Mem.tail _ (List.Mem.head _))))))))))).mg xb)))))))) (Nat.le_of_ble_eq_true rfl) B.b_isinstance)) (az (aP jV)) bb)
  (az (aP (A4 (qV (xL ET.t 0 rfl (List.Mem.head _) B.b_isinstance)) (qz (qV (xz ET.t 0 rfl B.b_isinstance B.b_ValueError)))))))
theorem sc_law_due:FnScope ["_law_text_here","_law_rows","_law_n","_law_marks","_law_sign","_law_found"] ["_law_text_here"] (ar eo):=⟨rfl,rfl,rfl,by decide+kernel,rfl,by decide+kernel,by decide+kernel⟩
def fh:FS:=
 aA (cW (dH (du (iG "str" (ah 0)))) (aY (am .non)) (skip))
 (aA (dg 1 (aj jm (ah 0) (am (.str "/"))))
 (aA (dE (aG 1 0 kX (bI af)))
 (aA (aN 2 (ai bu (aa (bJ 1) (af))))
 (aA (cW (km (bq (aj (yV true) (ah 2) (bQ (aa (am (.int 2)) (aa (am (.int 3)) (aa (am (.int 4)) (aa (am (.int 5)) (aa (am (.int 6)) (af))))))))) (du (ai ng (aa (aX 1 (jF (bJ 1)) (gN 6) (bT) (aj gM (ai eX (aa (ah 6) (af))) (ah 2))) (af))))) (aY (am .non)) (skip))
 (aA (dg 3 (bQ (af)))
 (aA (eO (bI (wO (am (.str "ox")))) (gN 4) (dE (aG 3 1 iM (bI (aa (aX 1 (bS (aa (ah 2) (af))) (gN 6) (bT) (aX 1 (bS (aa (ah 2) (af))) (gN 7) (bq (aj eV (aj jX (aj bp (bJ 1) (ah 7)) (ah 6)) (ah 4))) (ah 7))) (af))))))
 (aA ((λρ=>(eO (bI (dv (ah 3))) (gN 5) (cW (km (du (ai ng (aa (aX 1 (dv (ah 5)) (gN 6) (bT) (aj gM (ai bu (aa (ah 6) (af))) (am (.int 1)))) (af)))) (bq (aj gM (ai eI (aa (aX 1 (dv (ah 5)) (gN 6) (bT) (aj bp (ah 6) (am (.int 0)))) (af))) (pQ (ah 2))))) (aY (am .non)) (skip))) (qR 3 ρ)))
 (aA (cW (bq (aj gM (aj gP (ah 0) (am (.str "."))) (aj cK (aj bH (ah 2) (ah 2)) (aj bH (am (.int 2)) (ah 2))))) (aY (am .non)) (skip))
 (aY (dZ (aa (ai dL (aa (aX 1 (dv (aj bp (bJ 3) (am (.int 0)))) (gN 6) (bT) (aj bp (ah 6) (am (.int 0)))) (af))) (aa (ai dL (aa (aX 1 (dv (aj bp (bJ 3) (am (.int 1)))) (gN 6) (bT) (aj bp (ah 6) (am (.int 0)))) (af))) (af)))))))))))))
def cg:List D->Option D:=j0 .s 6 fh
theorem tD(B:Bt mg)(F:Df K mg "_law_due" eo ["_law_text_here"])(ET:Et K mg kx0 kx1 kx2 kx3 kx4 kx5 kx6 kx7 kx8 kx9):Cl P w K mg base 1 "_law_due" ["_law_text_here"] (ir K .s 1 cg):=by
 refine dm (k:=0) F sc_law_due (by decide) rfl λ_ cdv A outer s H hid E hr=>?_
 exact(aq (cq (ft (dX (iU "str" wa (ag 0) B.b_isinstance B.b_str))) (az (aP jA)) bb)
  (aq (fQ 1 sc_law_due.nd (lH (ag 0) aI))
  (aq (h9 (kU 1 iF iS PySem.F.slot_list_reverse PySem.F.type_list_reverse))
  (aq (bv 2 sc_law_due.nd (aE aF bZ B.b_len (aD (bo 1) aK) (hv:=by kernel_rfl)))
  (aq (cq (DW.dt (kZ (bG (t9 hr.units) (Bv true) (ag 2) (fk (ak ao (ak ao (ak ao (ak ao (ak ao av)))))) (by with_unfolding_all rfl)) (iE (dX (aE (oA rfl) vq B.b_any (aD (cT (N':=["_law_text_here","_law_rows","_law_n","_law_marks","_law_sign","_law_found","_law_row"]) rfl (cZ (Nat.le_of_ble_eq_true rfl)) (oY (bo 1)) (λ_ _ _ _=>(aO 6 BW)) (λ_ _ _ _=>cG) (λ_ _ _ _=>(gD (fD hr.units) gZ (aE fc kr B.b_len (aD (ag 6) aK) (hv:=by kernel_rfl)) (ag 2) (aZ _)))) aK) (hv:=by kernel_rfl)))))) (az (aP jA)) bb)
  (aq (fQ 3 sc_law_due.nd (fk av))
  (aq (g6 PassesOwn.never rfl (DIp.e (wS aI)) (aO 4 sc_law_due.nd) (az (h9 (ko 3 jo fZ PySem.F.slot_list_append PySem.F.type_list_append (DA.gf (ak (DP.toS (cT (N':=["_law_text_here","_law_rows","_law_n","_law_marks","_law_sign","_law_found","_law_column"]) rfl (cZ (Nat.le_of_ble_eq_true rfl)) (DIp.b (bW B.b_range (ak (ag 2) av))) (λ_ _ _ _=>(aO 6 CF)) (λ_ _ _ _=>cG) (λ_ _ _ _=>(DP.toS (cT (N':=["_law_text_here","_law_rows","_law_n","_law_marks","_law_sign","_law_found","_law_column","_law_row"]) rfl (cZ (Nat.le_of_ble_eq_true rfl)) (DIp.b (bW B.b_range (ak (ag 2) av))) (λ_ _ _ _=>(aO 7 Cc)) (λ_ _ _ _=>(xV (bG (cx hr.units) dJ (bt aR wl (bt aR bA (bo 1) (ag 7) (λ_ _=>rfl)) (ag 6) (λ_ _=>rfl)) (ag 4) (aZ _)))) (λ_ _ _ _=>(ag 7))))))) av))))))
  (aq (we 3 (g6 PassesOwn.never rfl (DIp.e (fb (ag 3))) (aO 5 sc_law_due.nd) (az (cq (DW.dt (kZ (dX (aE (oA rfl) vq B.b_any (aD (cT (N':=["_law_text_here","_law_rows","_law_n","_law_marks","_law_sign","_law_found","_law_one"]) rfl (cZ (Nat.le_of_ble_eq_true rfl)) (DIp.b (fb (ag 5))) (λ_ _ _ _=>(aO 6 wL)) (λ_ _ _ _=>cG) (λ_ _ _ _=>(gD (fD hr.units) gZ (aE aF bZ B.b_len (aD (ag 6) aK) (hv:=by kernel_rfl)) ao (aZ _)))) aK) (hv:=by kernel_rfl))) (iE (bG (fD hr.units) gZ (aE jS ma B.b_sorted (aD (cT (N':=["_law_text_here","_law_rows","_law_n","_law_marks","_law_sign","_law_found","_law_one"]) rfl (cZ (Nat.le_of_ble_eq_true rfl)) (DIp.b (fb (ag 5))) (λ_ _ _ _=>(aO 6 wL)) (λ_ _ _ _=>cG) (λ_ _ _ _=>(bt aR bA (ag 6) ao (λ_ _=>rfl)))) aK) (hv:=by kernel_rfl)) (eG rfl B.b_list B.b_range (ag 2)) (aZ _))))) (az (aP jA)) bb))))
  (aq (cq (bG (fD hr.units) gZ (kf (ag 0) aI) (iQ (eT (ag 2) (ag 2)) (eT ao (ag 2))) (aZ _)) (az (aP jA)) bb)
  (az (aP (fW (ak (eD cD ge B.b_tuple (aD (cT (N':=["_law_text_here","_law_rows","_law_n","_law_marks","_law_sign","_law_found","_law_one"]) rfl (cZ (Nat.le_of_ble_eq_true rfl)) (DIp.b (fb (bt aR bA (bo 3) ao (λ_ _=>rfl)))) (λ_ _ _ _=>(aO 6 wL)) (λ_ _ _ _=>cG) (λ_ _ _ _=>(bt aR bA (ag 6) ao (λ_ _=>rfl)))) aK) (hv:=by kernel_rfl)) (ak (eD cD ge B.b_tuple (aD (cT (N':=["_law_text_here","_law_rows","_law_n","_law_marks","_law_sign","_law_found","_law_one"]) rfl (cZ (Nat.le_of_ble_eq_true rfl)) (DIp.b (fb (bt aR bA (bo 3) ao (λ_ _=>rfl)))) (λ_ _ _ _=>(aO 6 wL)) (λ_ _ _ _=>cG) (λ_ _ _ _=>(bt aR bA (ag 6) ao (λ_ _=>rfl)))) aK) (hv:=by kernel_rfl)) av))))))))))))))
theorem sc_law_told:FnScope ["_law_text_here","_law_e"] ["_law_text_here"] (ar dz):=⟨rfl,rfl,rfl,by decide+kernel,rfl,by decide+kernel,by decide+kernel⟩
def qr:FS:=
 qX 1 BH ["NoText"] (qC (mJ 1 bX (ug (aa (ah 0) (af))))) (aY (AB (du (yD 1 fJ)) (am (.str "another")) (am .non)))
def bx:List D->Option D:=j0 .s 2 qr
theorem rl(B:Bt mg)(F:Df K mg "_law_told" dz ["_law_text_here"])(ET:Et K mg kx0 kx1 kx2 kx3 kx4 kx5 kx6 kx7 kx8 kx9)(fV:ClX P w K mg base 4 "square_read" ["thing"] (BB K .s 1 bX))(hJ:ClU P w K mg base 1 "_law_other" ["_law_e"] (Bu K .s fJ)):Cl P w K mg base 5 "_law_told" ["_law_text_here"] (ir K .s 1 bx):=by
 refine dm (k:=4) F sc_law_told (by decide) rfl λ_ cdv A outer s H hid E hr=>?_
 exact(az (uL 1 sc_law_told.nd ⟨rfl,rfl⟩ (λ_ _=>(je (xh (Bp fV (hr.mono (by decide)) (DA.rr (DA.nox (ak (ag 0) av))))))) (wN ET.t rfl (List.Mem.tail _ (List.Mem.tail _ (List.Mem.tail _ (List.Mem.tail _ (List.Mem.tail _ (List.Mem.tail _ (List.Mem.tail _ (List.Mem.head _))))))))) (λ_=>(az (aP (AN (by decide) (dX (yT 1 hJ ((hr.u.mono (by decide)).mark _))) aI jA))))))
theorem sc_law_bent:FnScope ["_law_text_here","_law_way","_law_at","_law_sign","_law_far","_law_place","_law_other_here","_law_rows","_law_row","_law_signs"] ["_law_text_here","_law_way","_law_at","_law_sign","_law_far"] (ar dB):=⟨rfl,rfl,rfl,by decide+kernel,rfl,by decide+kernel,by decide+kernel⟩
def gC:FS:=
 aA (aN 5 (aj bn (ah 2) (ai eX (aa (ah 0) (af)))))
 (aA (aN 6 (aj bn (ah 4) (ai eX (aa (ah 0) (af)))))
 (aA (dg 7 (aj jm (ah 0) (am (.str "/"))))
 (aA (aN 8 (aj bp (bJ 7) (aj bn (ah 4) (ai bu (aa (bJ 7) (af))))))
 (aA (cW (bq (aj eV (ah 1) (am (.int 0)))) (aY (aj gr (aj gr (nV (ah 0) nQ (kl (ah 5))) (ah 3)) (nV (ah 0) (kl (ah 5)) nQ))) (skip))
 (aA (cW (bq (aj eV (ah 1) (am (.int 1)))) (aY (aj gr (aj gr (nV (ah 0) nQ (kl (ah 5))) (ah 3)) (nV (ah 0) (kl (aj bw (ah 5) (am (.int 1)))) nQ))) (skip))
 (aA (cW (bq (aj eV (ah 1) (am (.int 2)))) (aY (aj gr (nV (ah 0) nQ (kl (ah 5))) (nV (ah 0) (kl (aj bw (ah 5) (am (.int 1)))) nQ))) (skip))
 (aA (cW (bq (aj eV (ah 1) (am (.int 3)))) (aA (dg 9 (ai nO (aa (ah 0) (af))))
 (aA (fG (gT 2 (lw (ci 9 (ah 5)) (lw (ci 9 (ah 6)) (qa)))) (pu (dZ (aa (aj bp (bJ 9) (ah 6)) (aa (aj bp (bJ 9) (ah 5)) (af))))))
 (aY (aj iD (am (.str "")) (bJ 9))))) (skip))
 (aA (cW (bq (aj eV (ah 1) (am (.int 4)))) (aY (aj iD (am (.str "/")) (aj fL (aj fL (lT (bJ 7) nQ (kl (aj bn (ah 2) (ai bu (aa (bJ 7) (af)))))) (bQ (aa (ah 8) (af)))) (lT (bJ 7) (kl (aj bn (ah 2) (ai bu (aa (bJ 7) (af))))) nQ)))) (skip))
 (aA (cW (bq (aj eV (ah 1) (am (.int 5)))) (aY (aj iD (am (.str "/")) (aj fL (lT (bJ 7) nQ (kl (aj bn (ah 2) (ai bu (aa (bJ 7) (af)))))) (lT (bJ 7) (kl (aj bw (aj bn (ah 2) (ai bu (aa (bJ 7) (af)))) (am (.int 1)))) nQ)))) (skip))
 (aA (cW (bq (aj eV (ah 1) (am (.int 6)))) (aY (aj iD (am (.str "/")) (aj fL (aj fL (lT (bJ 7) nQ (kl (aj bn (ah 2) (ai bu (aa (bJ 7) (af)))))) (bQ (aa (ah 8) (af)))) (lT (bJ 7) (kl (aj bw (aj bn (ah 2) (ai bu (aa (bJ 7) (af)))) (am (.int 1)))) nQ)))) (skip))
 (aA (dE (aG 7 0 kX (bI af)))
 (aY (aj iD (am (.str "/")) (bJ 7))))))))))))))
def fz:List D->Option D:=j0 .s 10 gC
theorem qE(B:Bt mg)(F:Df K mg "_law_bent" dB ["_law_text_here","_law_way","_law_at","_law_sign","_law_far"])(ET:Et K mg kx0 kx1 kx2 kx3 kx4 kx5 kx6 kx7 kx8 kx9):Cl P w K mg base 1 "_law_bent" ["_law_text_here","_law_way","_law_at","_law_sign","_law_far"] (ir K .s 5 fz):=by
 refine dm (k:=0) F sc_law_bent (by decide) rfl λ_ cdv A outer s H hid E hr=>?_
 exact(aq (bv 5 sc_law_bent.nd (cA (ag 2) (aE fc kr B.b_len (aD (ag 0) aK) (hv:=by kernel_rfl))))
  (aq (bv 6 sc_law_bent.nd (cA (ag 4) (aE fc kr B.b_len (aD (ag 0) aK) (hv:=by kernel_rfl))))
  (aq (fQ 7 sc_law_bent.nd (lH (ag 0) aI))
  (aq (bv 8 sc_law_bent.nd (bt aR bA (bo 7) (cA (ag 4) (aE aF bZ B.b_len (aD (bo 7) aK) (hv:=by kernel_rfl))) (λ_ _=>rfl)))
  (aq (cq (bG (cx hr.units) dJ (ag 1) ao (aZ _)) (az (aP (hV (hV (jJ (ag 0) di (dk (ag 5))) (ag 3)) (jJ (ag 0) (dk (ag 5)) di)))) bb)
  (aq (cq (bG (cx hr.units) dJ (ag 1) ao (aZ _)) (az (aP (hV (hV (jJ (ag 0) di (dk (ag 5))) (ag 3)) (jJ (ag 0) (dk (dw (ag 5) ao)) di)))) bb)
  (aq (cq (bG (cx hr.units) dJ (ag 1) ao (aZ _)) (az (aP (hV (jJ (ag 0) di (dk (ag 5))) (jJ (ag 0) (dk (dw (ag 5) ao)) di)))) bb)
  (aq (cq (bG (cx hr.units) dJ (ag 1) ao (aZ _)) (aq (fQ 9 sc_law_bent.nd (eD (qS rfl) vV B.b_list (aD (ag 0) aK) (hv:=by kernel_rfl)))
  (aq (kK (DP.ef (fW (ak (bt aR bA (bo 9) (ag 6) (λ_ _=>rfl)) (ak (bt aR bA (bo 9) (ag 5) (λ_ _=>rfl)) av)))) (rP (n:=2) rfl (ja (gB 9 (ag 5)) (ja (gB 9 (ag 6)) sM))))
  (az (aP (ib aI (bo 9)))))) bb)
  (aq (cq (bG (cx hr.units) dJ (ag 1) ao (aZ _)) (az (aP (ib aI (ia (ia (jk (bo 7) di (dk (cA (ag 2) (aE aF bZ B.b_len (aD (bo 7) aK) (hv:=by kernel_rfl))))) (fk (ak (ag 8) av))) (jk (bo 7) (dk (cA (ag 2) (aE aF bZ B.b_len (aD (bo 7) aK) (hv:=by kernel_rfl)))) di))))) bb)
  (aq (cq (bG (cx hr.units) dJ (ag 1) ao (aZ _)) (az (aP (ib aI (ia (jk (bo 7) di (dk (cA (ag 2) (aE aF bZ B.b_len (aD (bo 7) aK) (hv:=by kernel_rfl))))) (jk (bo 7) (dk (dw (cA (ag 2) (aE aF bZ B.b_len (aD (bo 7) aK) (hv:=by kernel_rfl))) ao)) di))))) bb)
  (aq (cq (bG (cx hr.units) dJ (ag 1) ao (aZ _)) (az (aP (ib aI (ia (ia (jk (bo 7) di (dk (cA (ag 2) (aE aF bZ B.b_len (aD (bo 7) aK) (hv:=by kernel_rfl))))) (fk (ak (ag 8) av))) (jk (bo 7) (dk (dw (cA (ag 2) (aE aF bZ B.b_len (aD (bo 7) aK) (hv:=by kernel_rfl))) ao)) di))))) bb)
  (aq (h9 (kU 7 iF iS PySem.F.slot_list_reverse PySem.F.type_list_reverse))
  (az (aP (ib aI (bo 7))))))))))))))))
theorem sc_law_text:FnScope ["_law_bag_here","_law_signs","_law_ways","_law_places","_law_kinds","_law_text_here","_law_k","_law_sign"] ["_law_bag_here"] (ar dD):=⟨rfl,rfl,rfl,by decide+kernel,rfl,by decide+kernel,by decide+kernel⟩
def iK:FS:=
 aA (aN 1 (am (.str " !#$&'()*+,-./0123456789:;<=>?@ABCDEFGHIJKLMNOPQRSTUVWXYZ[]^_`abcdefghijklmnopqrstuvwxyz{|}~\n")))
 (aA (fB 2 (nZ (ce (aG 0 1 aC (bI (aa (am (.int 8)) (af)))) (ce (aG 0 1 aC (bI (aa (am (.int 12)) (af)))) (bI (af))))))
 (aA (fB 3 (gW 1 (bI (bS (aa (am (.int 4)) (af)))) (gN 8) (bT) (aG 0 1 aC (bI (aa (am (.int 60)) (af))))))
 (aA (fB 4 (nZ (ce (aG 0 1 aC (bI (aa (am (.int 4)) (af)))) (ce (aG 0 1 aC (bI (aa (am (.int 93)) (af)))) (ce (aG 0 1 aC (bI (aa (am (.int 4)) (af)))) (ce (aG 0 1 aC (bI (aa (am (.int 93)) (af)))) (bI (af))))))))
 (aA (fB 5 (kB (nF 1 de) (ce (aG 0 1 eY (ce (kH bw (pu (am (.int 2))) (aG 0 1 aC (bI (aa (am (.int 5)) (af))))) (bI (af)))) (bI (af)))))
 (aA (eO (bI (bS (aa (am (.int 2)) (af)))) (gN 6) (aA (aN 7 (aj bp (bQ (aa (am (.str "o")) (aa (am (.str "x")) (aa (am (.str ".")) (aa (aj jX (ah 1) (aj bp (ah 4) (aj bw (aj bH (am (.int 2)) (ah 6)) (am (.int 1))))) (af)))))) (aj bp (ah 4) (aj bH (am (.int 2)) (ah 6)))))
 (cW (gR (bq (aj Aq (aj bp (ah 2) (ah 6)) (am (.int 8)))) (bq (aj gM (ah 5) (am (.str ""))))) (aN 5 (ai (nF 5 fz) (aa (ah 5) (aa (aj bp (ah 2) (ah 6)) (aa (aj bp (ah 3) (aj bH (am (.int 2)) (ah 6))) (aa (ah 7) (aa (aj bp (ah 3) (aj bw (aj bH (am (.int 2)) (ah 6)) (am (.int 1)))) (af)))))))) (skip))))
 (aY (ah 5)))))))
def fx:List D->List D->Option (D×List D):=qb .s 8 iK
theorem qB(B:Bt mg)(F:Df K mg "_law_text" dD ["_law_bag_here"])(ET:Et K mg kx0 kx1 kx2 kx3 kx4 kx5 kx6 kx7 kx8 kx9)(fX:Cl P w K mg base 1 "_law_written" ["_law_square_here"] (ir K .s 1 de))(aW:Cl P w K mg base 1 "_law_take" ["_law_bag_here","_law_many"] (og K .s 1 aC))(gI:Cl P w K mg base 3 "_law_square" ["_law_bag_here","_law_n"] (og K .s 1 eY))(iT:Cl P w K mg base 1 "_law_bent" ["_law_text_here","_law_way","_law_at","_law_sign","_law_far"] (ir K .s 5 fz)):Cl P w K mg base 4 "_law_text" ["_law_bag_here"] (og K .s 0 fx):=by
 refine nT (k:=3) F sc_law_text (by decide) rfl λ_ cdv A outer s H hid a E hr=>?_
 exact(aq (bv 1 sc_law_text.nd aI)
  (aq (il 2 sc_law_text.nd (DE.toS (vg (eL (fI 0 aW (hr.mono (by decide)) (DA.gf (ak ao av))) (eL (fI 0 aW (hr.mono (by decide)) (DA.gf (ak ao av))) (DA.gf av))))))
  (aq (vD 3 (N':=["_law_bag_here","_law_signs","_law_ways","_law_places","_law_kinds","_law_text_here","?_law_k","_law_sign","_law_k"]) rfl sc_law_text.nd (cZ (Nat.le_of_ble_eq_true rfl)) (DIp.e (bW B.b_range (ak ao av))) (λ_ _ _ _=>(aO 8 AK)) (λ_ _ _ _=>cG) (λ_ _ _ _=>(fI 0 aW (hr.mono (by decide)) (DA.gf (ak ao av)))))
  (aq (il 4 sc_law_text.nd (DE.toS (vg (eL (fI 0 aW (hr.mono (by decide)) (DA.gf (ak ao av))) (eL (fI 0 aW (hr.mono (by decide)) (DA.gf (ak ao av))) (eL (fI 0 aW (hr.mono (by decide)) (DA.gf (ak ao av))) (eL (fI 0 aW (hr.mono (by decide)) (DA.gf (ak ao av))) (DA.gf av))))))))
  (aq (il 5 sc_law_text.nd (Af fX (hr.mono (by decide)) (eL (fI 0 gI (hr.mono (by decide)) (eL (u5 (DP.ef ao) (fI 0 aW (hr.mono (by decide)) (DA.gf (ak ao av)))) (DA.gf av))) (DA.gf av))))
  (aq (g6 PassesOwn.never rfl (DIp.e (bW B.b_range (ak ao av))) (aO 6 sc_law_text.nd) (aq (bv 7 sc_law_text.nd (bt aR bA (fk (ak aI (ak aI (ak aI (ak (bt aR wl (ag 1) (bt aR bA (ag 4) (dw (eT ao (ag 6)) ao) (λ_ _=>rfl)) (λ_ _=>rfl)) av))))) (bt aR bA (ag 4) (eT ao (ag 6)) (λ_ _=>rfl)) (λ_ _=>rfl)))
  (az (cq (DW.dt (Aa (bG yE oG (bt aR bA (ag 2) (ag 6) (λ_ _=>rfl)) ao (aZ _)) (wF (bG (fD hr.units) gZ (ag 5) aI (aZ _))))) (az (bv 5 sc_law_text.nd (eS iT (hr.mono (by decide)) (ak (ag 5) (ak (bt aR bA (ag 2) (ag 6) (λ_ _=>rfl)) (ak (bt aR bA (ag 3) (eT ao (ag 6)) (λ_ _=>rfl)) (ak (ag 7) (ak (bt aR bA (ag 3) (dw (eT ao (ag 6)) ao) (λ_ _=>rfl)) av)))))))) bb))))
  (az (aP (ag 5)))))))))
theorem sc_law:FnScope ["_law_script","_law_k","_law_text_here","_law_some"] ["_law_script"] (ar iw):=⟨rfl,rfl,rfl,by decide+kernel,rfl,by decide+kernel,by decide+kernel⟩
def uP:FS:=
 aA (eO (bI (bS (aa (ai rL (aa (am (.int 1)) (aa (ai i7 (aa (am (.int 8)) (aa (ai bu (aa (ah 0) (af))) (af)))) (af)))) (af)))) (gN 1) (aA (aN 2 (jM 0 fx (ai (nF 2 ii) (aa (ah 0) (aa (ah 1) (af)))) (af)))
 (cW (km (bq (aj gM (ai (nF 1 bx) (aa (ah 2) (af))) (ai (nF 1 cg) (aa (ah 2) (af))))) (bq (aj gM (ai (nF 1 bx) (aa (am (.str "xo/ox")) (af))) (dZ (aa (dZ (aa (am (.int 0)) (aa (am (.int 1)) (af)))) (aa (dZ (aa (am (.int 1)) (aa (am (.int 0)) (af)))) (af))))))) (aY (am (.bl false))) (skip))))
 (aA (aN 3 (bQ (aa (am (.str "")) (aa (am (.str "o")) (aa (am (.str "/")) (aa (am (.str "ox")) (aa (am (.str "x")) (aa (am (.str "xo/ox/")) (aa (am (.str "/xo/ox")) (aa (am (.str "xo//ox")) (aa (am (.str "XO/OX")) (aa (am (.str "xo/ox\n")) (aa (am (.str " xo/ox")) (aa (am (.str "oo/xx")) (aa (am (.str "xo/xo")) (af))))))))))))))))
 (aA (aN 3 (aj fL (ah 3) (bQ (aa (am (.str "../..")) (aa (am (.str "ox...../.ox..../..ox.../...ox../....ox./.....ox/x.....o")) (aa (am (.str "xoo/ox./..x")) (aa (am .non) (aa (am (.int 5)) (af)))))))))
 (aA (aN 3 (aj fL (ah 3) (bQ (aa (am (.bl true)) (aa (bQ (af)) (aa (dZ (aa (am (.str "xo")) (aa (am (.str "ox")) (af)))) (aa (bQ (aa (am (.str "xo/ox")) (af))) (aa (am (.int 0)) (aa (dZ (af)) (aa (am (.str "none")) (aa (am (.str "x.o/ox./.ox")) (af))))))))))))
 (aY (ai n5 (aa (aX 1 (dv (ah 3)) (gN 4) (bT) (aj eV (ai (nF 1 bx) (aa (ah 4) (af))) (ai (nF 1 cg) (aa (ah 4) (af))))) (af)))))))
def yG:List D->Option D:=j0 .s 4 uP
theorem zK {f:Addr}{fd:FuncData}(B:Bt mg)(F:Fun K "law" "law" iw f fd)(ET:Et K mg kx0 kx1 kx2 kx3 kx4 kx5 kx6 kx7 kx8 kx9)(iI:Cl P w K mg base 4 "_law_text" ["_law_bag_here"] (og K .s 0 fx))(jD:Cl P w K mg base 2 "_law_bag" ["_law_script","_law_at"] (ir K .n 2 ii))(fo:Cl P w K mg base 5 "_law_told" ["_law_text_here"] (ir K .s 1 bx))(im:Cl P w K mg base 1 "_law_due" ["_law_text_here"] (ir K .s 1 cg)):FnOk P w K mg base lR 6 f fd ["_law_script"] (ir K .s 1 yG):=by
 refine tq (k:=5) F sc_law (by decide) λcdv A outer s H hid E hr=>?_
 exact(QSs.to (i4 (QS.of (g6 PassesOwn.never rfl (DIp.e (bW B.b_range (ak (aE (tH rfl) wV B.b_max (aD ao (aD (aE (mh rfl) tj B.b_min (aD ao (aD (aE aF bZ B.b_len (aD (ag 0) aK) (hv:=by kernel_rfl)) aK)) (hv:=by kernel_rfl)) aK)) (hv:=by kernel_rfl)) av))) (aO 1 sc_law.nd) (aq (bv 2 sc_law.nd (yY iI (hr.mono (by decide)) (eS jD (hr.mono (by decide)) (ak (ag 0) (ak (ag 1) av))) av))
  (az (cq (DW.dt (kZ (bG (fD hr.units) gZ (eS fo (hr.mono (by decide)) (ak (ag 2) av)) (eS im (hr.mono (by decide)) (ak (ag 2) av)) (aZ _)) (iE (bG (fD hr.units) gZ (eS fo (hr.mono (by decide)) (ak aI av)) (fW (ak (fW (ak ao (ak ao av))) (ak (fW (ak ao (ak ao av))) av n4) n4)) (aZ _))))) (az (aP jV)) bb)))))
  (i4 (mU 3 sc_law.nd (kN (aT (QP.of aI) (aT (QP.of aI) (aT (QP.of aI) (aT (QP.of aI) (aT (QP.of aI) (aT (QP.of aI) (aT (QP.of aI) (aT (QP.of aI) (aT (QP.of aI) (aT (QP.of aI) (aT (QP.of aI) (aT (QP.of aI) (aT (QP.of aI) iV)))))))))))))))
  (i4 (mU 3 sc_law.nd (uT (QP.of (ag 3)) (kN (aT (QP.of aI) (aT (QP.of aI) (aT (QP.of aI) (aT (QP.of jA) (aT (QP.of ao) iV))))))))
  (i4 (mU 3 sc_law.nd (uT (QP.of (ag 3)) (kN (aT (QP.of jV) (aT (kN iV) (aT (v7 (aT (QP.of aI) (aT (QP.of aI) iV))) (aT (kN (aT (QP.of aI) iV)) (aT (QP.of ao) (aT (v7 iV) (aT (QP.of aI) (aT (QP.of aI) iV)) n4)) uD) n4) uD)))))
  (xT (QS.of (aP (aE (iY rfl) nP B.b_all (aD (cT (N':=["_law_script","_law_k","_law_text_here","_law_some","_law_thing"]) rfl (cZ (Nat.le_of_ble_eq_true rfl)) (DIp.b (fb (ag 3))) (λ_ _ _ _=>(aO 4 By)) (λ_ _ _ _=>cG) (λ_ _ _ _=>(gD (cx hr.units) dJ (eS fo (hr.mono (by decide)) (ak (ag 4) av)) (eS im (hr.mono (by decide)) (ak (ag 4) av)) (aZ _)))) aK) (hv:=by kernel_rfl))))))))))
end
set_option maxHeartbeats 1000000
set_option maxHeartbeats 4000000
theorem pz {xs ys:List Nat}(hl:xs.length=ys.length)(h: ∀i,i<xs.length->xs.getD i 0=ys.getD i 0):xs=ys:=by
 refine List.ext_getElem hl λi h1 h2=>?_
 have:=h i h1
 simpa [List.getD,h1,h2] using this
theorem zq {n:Nat}{o:List Nat}(hl:o.length=n)(lt: ∀c,c<n->o.getD c 0<n)(inj: ∀c d,c<n->d<n->o.getD c 0=o.getD d 0->c=d)(sur: ∀v,v<n-> ∃c,c<n/\o.getD c 0=v):Ord n o:=by
 refine⟨(List.perm_ext_iff_of_nodup ?_ List.nodup_range).mpr λv=>?_⟩
 ·rw[List.Nodup,List.pairwise_iff_getElem]
  intro i j hi hj ij e;have:=inj i j (by omega) (by omega) (by rw[List.getD_eq_getElem?_getD,List.getElem?_eq_getElem hi,List.getD_eq_getElem?_getD,List.getElem?_eq_getElem hj];exact e)
  omega
 ·rw[List.mem_range]
  constructor
  ·intro h
   obtain⟨i,hi,rfl⟩:=List.getElem_of_mem h
   have:=lt i (by omega)
   rw[List.getD_eq_getElem?_getD,List.getElem?_eq_getElem hi] at this;exact this
  ·intro h
   obtain⟨c,hc,e⟩:=sur v h
   rw[List.getD_eq_getElem?_getD,List.getElem?_eq_getElem (by omega)] at e
   have e:o[c]=v:=e
   exact e▸List.getElem_mem _
def gV(o:List Nat):List Nat:=(List.range o.length).map λv=>o.idxOf v
theorem eZ {n:Nat}{o:List Nat}(O:Ord n o){v:Nat}(hv:v<n):o.idxOf v<n/\o.getD (o.idxOf v) 0=v:=by
 have hi:=List.idxOf_lt_length_of_mem (O.has hv)
 refine⟨by rw[<-O.len];exact hi,?_⟩
 rw[List.getD_eq_getElem?_getD,List.getElem?_eq_getElem hi,List.getElem_idxOf];rfl
theorem kY {n:Nat}{o:List Nat}(O:Ord n o){c:Nat}(hc:c<n):o.idxOf (o.getD c 0)=c:=O.inj (eZ O (O.get hc)).1 hc (eZ O (O.get hc)).2
theorem nY(o:List Nat):(gV o).length=o.length:=by simp[gV]
theorem ie {n:Nat}{o:List Nat}(O:Ord n o){v:Nat}(hv:v<n):(gV o).getD v 0=o.idxOf v:=by
 unfold gV;rw[List.getD_eq_getElem?_getD,List.getElem?_map,List.getElem?_range (by rw[O.len];exact hv)];rfl
theorem Ac {n:Nat}{o:List Nat}(O:Ord n o){c:Nat}(hc:c<n):(gV o).getD (o.getD c 0) 0=c:=by rw[ie O (O.get hc),kY O hc]
theorem Ord.tip {n:Nat}{o:List Nat}(O:Ord n o):Ord n (gV o):=by
 refine zq (by rw[nY,O.len]) (λv hv=>?_) (λv w hv hw e=>?_) λc hc=>⟨o.getD c 0,O.get hc,Ac O hc⟩
 ·rw[ie O hv];exact(eZ O hv).1
 ·rw[ie O hv,ie O hw] at e
  rw[<-(eZ O hv).2,e,(eZ O hw).2]
theorem yy(v:Nat): ∀l:List Nat,v∈l-> ∃j,(l.map nI).findIdx? (λd=>cC d (nI v))=some j/\j<l.length/\l.getD j 0=v
 | [],h=>absurd h List.not_mem_nil
 |y::l,h=>by
  rw[List.map_cons,List.findIdx?_cons,fm]
  by_cases e:y=v
  ·exact⟨0,by simp[e],by simp,by simpa using e⟩
  ·obtain⟨j,h1,h2,h3⟩:=yy v l ((List.mem_cons.mp h).resolve_left (Ne.symm e))
   refine⟨j+1,by simp[e,h1],by simp[h2],by simpa using h3⟩
def eU:FS:=
 aY (ai dL (aa (aX 1 (bS (aa (ai bu (aa (ah 0) (af))) (af))) (gN 1) (bT) (aj sL (ah 0) (ah 1))) (af)))
def j3:List D->Option D:=j0 .s 1 eU
theorem cI {t u:FX}{ρ ρ':aB}(h:t ρ=.ok (.nx ρ')):jW t u ρ=u ρ':=by unfold jW;rw[h]
theorem sf {t u:FX}{ρ:aB}{z:Ex×aB}(h:t ρ=.error z):jW t u ρ=.error z:=by unfold jW;rw[h]
theorem m9 {t:FS}{ρ:aB}{o:Out}(h:t ρ=o):pK t ρ=.ok o:=by unfold pK;rw[h]
theorem yr {p:FT}{t u:FX}{ρ:aB}(h:p ρ=some true):uo p t u ρ=t ρ:=by unfold uo;rw[h]
theorem Bm {p:FT}{t u:FX}{ρ:aB}(h:p ρ=some false):uo p t u ρ=u ρ:=by unfold uo;rw[h]
theorem oa {p:FT}{t:FX}{ρ:aB}(h:p ρ=some false):uo p t (pK skip) ρ=.ok (.nx ρ):=(Bm h).trans rfl
theorem wZ {f:RE}{ρ:aB}{d:D}(h:f ρ=some (.ok d)):qC f ρ=.ok (.rt d ρ):=by unfold qC;rw[h]
theorem xk {f:RE}{ρ:aB}{z:Ex}(h:f ρ=some (.error z)):qC f ρ=.error (z,ρ):=by unfold qC;rw[h]
theorem za {kd:Kd}{n:Nat}{t:FX}{ds:List D}{ρ:aB}{d:D}(h:t (cz n ds)=.ok (.rt d ρ)):Aj kd n t ds=some (.ok d):=by unfold Aj;rw[h]
theorem uw {kd:Kd}{n:Nat}{t:FX}{ds:List D}{z:Ex×aB}(h:t (cz n ds)=.error z):Aj kd n t ds=some (.error z.1):=by unfold Aj;rw[h]
theorem vc {n:Nat}{P:List D->Option (Except Ex D)}{fs:RA}{ρ:aB}{ds:List D}(h:fs ρ=some (.ok ds))(hl:ds.length=n):mJ n P fs ρ=P ds:=by unfold mJ;rw[h];exact if_pos hl
theorem xa {f:FA}{ρ:aB}{ds:List D}(h:f ρ=some ds):ug f ρ=some (.ok ds):=by unfold ug;rw[h];rfl
theorem cB {p:FT}{t:FS}{ρ:aB}(h:p ρ=some false):cW p t skip ρ=.nx ρ:=(uO h).trans rfl
theorem zV {F G:D->D->Option D}{f g h:FE}{ρ:aB}{x y z:D}{p q:Bool}(h1:f ρ=some x)(h2:g ρ=some y)(h3:F x y=some (.bl p))(h4:h ρ=some z)(h5:G y z=some (.bl q)):zI F G f g h ρ=some (.bl (p&&q)):=by
 unfold zI;rw[h1,Option.bind_some,h2,Option.bind_some,h3];show(if p=true then _ else _)=_
 cases p with
 |true=>rw[if_pos rfl,h4];exact h5
 |false=>rfl
theorem wg {p q:FT}{ρ:aB}{a b:Bool}(h1:p ρ=some a)(h2:q ρ=some b):km p q ρ=some (a||b):=by
 cases a with
 |true=>exact pV h1
 |false=>exact jr h1 h2
theorem Bc {p:FT}{f g:FE}{ρ:aB}(h:p ρ=some false):AB p f g ρ=g ρ:=by unfold AB;rw[h];rfl
theorem zC {f:FE}{ρ:aB}{ds:List D}(h:f ρ=some (.tup ds)):dv f ρ=some ds:=by unfold dv;rw[h];rfl
theorem jq {f:FE}{ρ:aB}{ds:List D}(h:f ρ=some (.lst ds)):dv f ρ=some ds:=by unfold dv;rw[h];rfl
theorem ss {n:Nat}{o:List Nat}(O:Ord n o)(hn:n<=100):j3 [g0 o]=some (g0 (gV o)):=by
 apply kq (kd:=.s) (n:=1) (t:=eU)
 unfold eU;refine bd ((aS (ds:=[.lst ((gV o).map nI)]) (ax (cf (ds:=(List.range n).map nI) (dU (n:=n) (ax (O.len▸oZ o _ _ rfl) rfl) (by omega)) (by simp;omega) ?_) rfl)).trans rfl)
 unfold gV;rw[List.map_map,O.len];refine bL (h:=nI) (o:=λv=>nI (o.idxOf v)) _ λv hv=>⟨_,rfl,?_⟩
 rw[List.mem_range] at hv;refine(au (x:=g0 o) (y:=nI v) rfl rfl).trans ?_
 obtain⟨j,h1,h2,h3⟩:=yy v o (O.has hv)
 show(if cR (o.map nI)<=32 then(tW (o.map nI) (nI v)).map (λj=>D.int j) else none)=_
 rw[if_pos (by rw[kF];omega)]
 unfold tW;rw[h1];have:j=o.idxOf v:=by
  have:=kY O (c:=j) (by rw[<-O.len];exact h2)
  rw[h3] at this;exact this.symm
 rw[<-this];rfl
structure Gd(n:Nat)(r x:List Nat):Prop where
 R:Ord n r
 X:Ord n x
 lo:2<=n
 hi:n<=6
theorem sK {g:FG}{b:FS}{d e:D}{r:List D}{ρ ρ1 ρ2:aB}(h1:g d ρ=some ρ1)(h2:b ρ1=.rt e ρ2):fF g b (d::r) ρ=.rt e ρ2:=by
 show(match g d ρ with
  |none=>Out.no
  |some ρ1=>match b ρ1 with
   | .nx ρ2=>fF g b r ρ2
   | .ct ρ2=>fF g b r ρ2
   | .bk ρ2=>.nx ρ2
   | .rt d ρ2=>.rt d ρ2
   | .no=>.no)=_
 rw[h1];dsimp only;rw[h2]
theorem xl {i:Nat}{ns ys:List Str}{t:FX}{u:FS}{ρ:aB}{o:Out}(h:t ρ=.ok o):qX i ns ys t u ρ=o:=by unfold qX;rw[h]
theorem yh {i:Nat}{ns ys:List Str}{t:FX}{u:FS}{ρ ρ' ρ2:aB}{z:Ex}{d:D}(h:t ρ=.error (z,ρ'))(h1:ns.contains z.x=true)(h2:(ys.any λy=>iN z.x y)=true)(h3:u (ρ'.set i (.ob (.exc z.x z.n)))=.rt d ρ2):qX i ns ys t u ρ=.rt d ρ2:=by
 unfold qX;rw[h];dsimp only;rw[if_pos ⟨h1,h2⟩,h3]
set_option maxHeartbeats 1000000
def lW:FS:=
 aA (fB 2 (aG 0 1 dl (bI (aa (am (.int 4)) (af)))))
 (aA (fB 3 (kH bw (pu (am (.int 1))) (aG 0 1 dl (bI (aa (aj cK (ah 1) (am (.int 1))) (af))))))
 (aA (fB 4 (aG 0 1 gh (bI (aa (ah 1) (af)))))
 (aA (qJ 5 (aG 0 1 gh (bI (aa (ah 1) (af)))))
 (aA (cW (bq (aj eV (ah 2) (am (.int 1)))) (aA (aN 4 (pQ (ah 1)))
 (dg 5 (aX 1 (dv (ah 4)) (gN 8) (bT) (aj bn (aj bw (ah 8) (ah 3)) (ah 1))))) (skip))
 (aA (eO (bI (bS (aa (ah 1) (af)))) (gN 6) (aA (aN 7 (aj bn (aj bw (ah 6) (am (.int 1))) (ah 1)))
 (cW (bq (aj eV (aj bp (bJ 5) (ah 6)) (aj bp (ah 4) (ah 6)))) (fG (gT 2 (lw (ci 5 (ah 6)) (lw (ci 5 (ah 7)) (qa)))) (pu (dZ (aa (aj bp (bJ 5) (ah 7)) (aa (aj bp (bJ 5) (ah 6)) (af)))))) (skip))))
 (aY (dZ (aa (ai dL (aa (ah 4) (af))) (aa (ai dL (aa (bJ 5) (af))) (af))))))))))
def mt:List D->List D->Option (D×List D):=qb .s 8 lW
theorem rq {N:Nat}{a b:Int}(B:Bag N a b){n:Nat}(h2:2<=n)(h6:n<=6)(hN:N<=800000000): ∃(r x:List Nat) (a' b':Int),mt (aJ a b) [nI n]=some (jN r x,aJ a' b')/\Sq n r x/\Bag (N+2*n+2) a' b':=by
 obtain⟨p,a1,b1,e1,B1,p0,p1⟩:=ke (m:=4) B (by omega) (by decide) (by decide)
 obtain⟨q,a2,b2,e2,B2,q0,q1⟩:=ke (m:=(n:Int) -1) B1 (by omega) (by omega) (Nat.lt_of_lt_of_le (show((n:Int) -1).natAbs<10^10 by omega) (by decide))
 obtain⟨r,a3,b3,e3,or,B3⟩:=pb B2 (n:=n) (by omega) (by omega)
 obtain⟨x,a4,b4,e4,ox,B4⟩:=pb B3 (n:=n) (by omega) (by omega)
 obtain⟨q',rfl⟩: ∃j:Nat,q=(j:Int):=⟨q.toNat,by omega⟩
 have r0:kS 8 (aJ a b) [nI n]=[.arg (aJ a b),.v (nI n),.no,.no,.no,.no,.no,.no]:=rfl
 have s1:fB 2 (aG 0 1 dl (bI (aa (am (.int 4)) (af)))) [.arg (aJ a b),.v (nI n),.no,.no,.no,.no,.no,.no]=.nx [.arg (aJ a1 b1),.v (nI n),.v (.int p),.no,.no,.no,.no,.no]:=
  (gF (bh (i:=0) (n:=1) (b0:=aJ a b) (ds:=[.int 4]) rfl (bD rfl) rfl rfl e1)).trans rfl
 have s2:fB 3 (kH bw (pu (am (.int 1))) (aG 0 1 dl (bI (aa (aj cK (ah 1) (am (.int 1))) (af))))) [.arg (aJ a1 b1),.v (nI n),.v (.int p),.no,.no,.no,.no,.no]=.nx [.arg (aJ a2 b2),.v (nI n),.v (.int p),.v (nI (q'+1)),.no,.no,.no,.no]:=
  (gF (su (pU rfl) (bh (i:=0) (n:=1) (b0:=aJ a1 b1) (ds:=[.int ((n:Int) -1)]) rfl (bD rfl) rfl rfl e2) (show bw (.int 1) (nI q')=some (nI (q'+1)) by rw[df];simp;omega))).trans rfl
 have s3:fB 4 (aG 0 1 gh (bI (aa (ah 1) (af)))) [.arg (aJ a2 b2),.v (nI n),.v (.int p),.v (nI (q'+1)),.no,.no,.no,.no]=.nx [.arg (aJ a3 b3),.v (nI n),.v (.int p),.v (nI (q'+1)),.v (.lst (r.map nI)),.no,.no,.no]:=
  (gF (bh (i:=0) (n:=1) (b0:=aJ a2 b2) (ds:=[nI n]) rfl (bD rfl) rfl rfl e3)).trans rfl
 have s4:qJ 5 (aG 0 1 gh (bI (aa (ah 1) (af)))) [.arg (aJ a3 b3),.v (nI n),.v (.int p),.v (nI (q'+1)),.v (.lst (r.map nI)),.no,.no,.no]=.nx [.arg (aJ a4 b4),.v (nI n),.v (.int p),.v (nI (q'+1)),.v (.lst (r.map nI)),.own (x.map nI),.no,.no]:=
  (wE (bh (i:=0) (n:=1) (b0:=aJ a3 b3) (ds:=[nI n]) rfl (bD rfl) rfl rfl e4)).trans rfl
 have s5: ∃(r' x':List Nat),cW (bq (aj eV (ah 2) (am (.int 1)))) (aA (aN 4 (pQ (ah 1)))
  (dg 5 (aX 1 (dv (ah 4)) (gN 8) (bT) (aj bn (aj bw (ah 8) (ah 3)) (ah 1))))) (skip) [.arg (aJ a4 b4),.v (nI n),.v (.int p),.v (nI (q'+1)),.v (.lst (r.map nI)),.own (x.map nI),.no,.no]=.nx [.arg (aJ a4 b4),.v (nI n),.v (.int p),.v (nI (q'+1)),.v (.lst (r'.map nI)),.own (x'.map nI),.no,.no]/\Ord n r'/\Ord n x':=by
  unfold cW bq;rw[au (x:=.int p) (y:=.int 1) rfl rfl,fY (by rw[cH];omega),i0]
  by_cases hp:p=1
  ·refine⟨List.range n,(List.range n).map λi=>(i+(q'+1)) % n,?_,⟨.refl _⟩,w6 n h2 h6 (q'+1) (by omega) (by omega)⟩
   rw[decide_eq_true hp];simp only[pE];rw[ay ((bC (uA (n:=n) (by omega) (ah 1) _ rfl)).trans rfl)]
   refine(h8 (cf (ds:=(List.range n).map nI) (ys:=(List.range n).map λi=>nI ((i+(q'+1)) % n)) rfl (by simp;omega) (bL _ λi hi=>⟨_,rfl,?_⟩))).trans ?_
   ·exact(au ((au (x:=nI i) (y:=nI (q'+1)) rfl rfl).trans (CH _ _)) (y:=nI n) rfl).trans (Bw (by omega))
   ·rw[List.map_map];rfl
  ·refine⟨r,x,?_,or,ox⟩
   rw[decide_eq_false hp];simp only[pE,skip]
 obtain⟨r',x',s5,or',ox'⟩:=s5
 obtain⟨x2,t6,t7,lp,ox2,hne⟩:=yx (aJ a4 b4) (.int p) (nI (q'+1)) or' h2 n 0 x' .no .no (by omega) ox' (λi h=>absurd h (Nat.not_lt_zero _))
 have s6:eO (bI (bS (aa (ah 1) (af)))) (gN 6) td [.arg (aJ a4 b4),.v (nI n),.v (.int p),.v (nI (q'+1)),.v (.lst (r'.map nI)),.own (x'.map nI),.no,.no]=.nx [.arg (aJ a4 b4),.v (nI n),.v (.int p),.v (nI (q'+1)),.v (.lst (r'.map nI)),.own (x2.map nI),t6,t7]:=by
  unfold eO;rw[bD (dU (n:=n) rfl (by omega))]
  dsimp only;rw[List.range_eq_range'];exact lp
 refine⟨r',x2,a4,b4,?_,⟨or',ox2,hne⟩,by rw[show N+2*n+2=N+1+1+n+n by omega];exact B4⟩
 unfold mt qb lW;rw[r0,ay s1,ay s2,ay s3,ay s4,ay s5];rw[ay s6];have s7:aY (dZ (aa (ai dL (aa (ah 4) (af))) (aa (ai dL (aa (bJ 5) (af))) (af)))) [.arg (aJ a4 b4),.v (nI n),.v (.int p),.v (nI (q'+1)),.v (.lst (r'.map nI)),.own (x2.map nI),t6,t7]=.rt (jN r' x2) [.arg (aJ a4 b4),.v (nI n),.v (.int p),.v (nI (q'+1)),.v (.lst (r'.map nI)),.own (x2.map nI),t6,t7]:=by
  unfold aY;rw[ik (ds:=[g0 r',g0 x2]) rfl (by simp)]
 rw[s7];rfl
theorem Ag {kd:Kd}{n:Nat}{t:FS}{bs ds b':List D}{d:D}{ρ:aB}(h:t (kS n bs ds)=.rt d ρ)(h2:lc ρ=some b'):qb kd n t bs ds=some (d,b'):=by unfold qb;rw[h];dsimp only;rw[h2];rfl
theorem vO(r x:List Nat):dG (jN r x)<=32:=by
 show dG (.tup [.tup (r.map nI),.tup (x.map nI)])<=32;have e: ∀l:List Nat,dG (.tup (l.map nI))=1:=λl=>by unfold dG;rw[kF]
 unfold dG cR cR cR;rw[e,e];omega
set_option maxHeartbeats 4000000
theorem mR {f g:FE}{ρ:aB}{a b:Nat}(h1:f ρ=some (nI a))(h2:g ρ=some (nI b)):bq (aj eV f g) ρ=some (decide (a=b)):=cN ((au h1 h2).trans (by rw[fY (by rw[cH];omega),fm]))
theorem ud {n:Nat}{o:List Nat}(O:Ord n o)(hn:n<=6):eI [g0 o]=some (.lst ((List.range n).map nI)):=by
 show(fR (o.map nI)).map D.lst=_;unfold fR;rw[if_pos (by rw[List.length_map,O.len];omega)]
 have e:o.map nI=(o.map λ(v:Nat)=>(v:Int)).map D.int:=by rw[List.map_map];rfl
 rw[e,ln];have:(List.range n).map (λ(v:Nat)=>(v:Int))=em qG (o.map λ(v:Nat)=>(v:Int)):=by
  refine jK xS (O.perm.symm.map _) ?_
  rw[List.pairwise_map];refine List.Pairwise.imp (λ{a b} h=>?_) List.pairwise_lt_range
  simp only[qG,decide_eq_false_iff_not];omega
 show some (D.lst ((em qG (o.map λ(v:Nat)=>(v:Int))).map D.int))=_
 rw[<-this,List.map_map];rfl
theorem Br {f:FE}{ρ:aB}{m:Nat}(h:f ρ=some (nI m))(hm:m<=1000):pQ f ρ=some (.lst ((List.range m).map nI)):=by
 unfold pQ;rw[h];show(if((m:Int)).natAbs<=1000000 then some (D.lst (sP 0 ((m:Int)).toNat)) else none)=_
 rw[if_pos (by omega),Int.toNat_natCast,tt]
theorem mP: ∀a b:List Nat,ck (a.map nI) (b.map nI)=decide (a=b)
 | [],[]=>by unfold ck;rfl
 | [],_::_=>by unfold ck;rfl
 |_::_,[]=>by unfold ck;rfl
 |x::a,y::b=>by
  rw[List.map_cons,List.map_cons];unfold ck;rw[fm,mP a b]
  by_cases h1:x=y
  ·subst h1;simp
  ·simp[h1]
theorem zm(l:List Nat)(hl:l.length<=60): ∃s:List Nat,eI [g0 l]=some (.lst (s.map nI))/\s.Perm l:=by
 have e:l.map nI=(l.map λ(v:Nat)=>(v:Int)).map D.int:=by rw[List.map_map];rfl
 have p:=fN (lt:=qG) (l.map λ(v:Nat)=>(v:Int))
 refine⟨(em qG (l.map λ(v:Nat)=>(v:Int))).map Int.toNat,?_,?_⟩
 ·show(fR (l.map nI)).map D.lst=_
  unfold fR;rw[if_pos (by rw[List.length_map];omega),e,ln]
  show some (D.lst _)=some (D.lst _);congr 2
  rw[List.map_map];refine List.map_congr_left λz hz=>?_
  have:z∈l.map λ(v:Nat)=>(v:Int):=p.mem_iff.mp hz
  obtain⟨v,_,rfl⟩:=List.mem_map.mp this
  rfl
 ·have:=p.map Int.toNat
  rwa [List.map_map,show(Int.toNat∘λ(v:Nat)=>(v:Int))=id from rfl,List.map_id] at this
def tx(l:List Nat):Str:=⟨l.toArray⟩
def gl(s:List Nat):List (List Nat)->List Nat
 | []=>[]
 | [a]=>a
 |a::b::r=>a++s++gl s (b::r)
theorem nM(a b:List Nat):tx a++tx b=tx (a++b):=by
 show(⟨a.toArray++b.toArray⟩:Str)=⟨(a++b).toArray⟩;simp
theorem nR(s:List Nat): ∀ls:List (List Nat),(tx s).join (ls.map tx)=tx (gl s ls)
 | []=>rfl
 | [a]=>rfl
 |a::b::r=>by
  show tx a++tx s++(tx s).join ((b::r).map tx)=tx (a++s++gl s (b::r));rw[nR s (b::r),nM,nM]
theorem y9 {a b:List Nat}(h:tx a=tx b):a=b:=by
 have:=congrArg (λz:Str=>z.cps.toList) h
 simpa [tx] using this
theorem pB(x:Str):x=tx x.cps.toList:=by unfold tx;simp
theorem cL(l:List Nat):(tx l).length=l.length:=by show l.toArray.size=_;simp
theorem sJ {s:List Nat}{ls:List (List Nat)}{B:Nat}(hb: ∀l∈ls,l.length<=B)(hz:ls.length*B+ls.length*s.length<=16777216):iD (.str (tx s)) (.lst (ls.map λl=>.str (tx l)))=some (.str (tx (gl s ls))):=by
 have e:ls.map (λl=>D.str (tx l))=(ls.map tx).map D.str:=by rw[List.map_map];rfl
 show(jc (ls.map λl=>D.str (tx l))).bind _=_
 rw[e,pc,Option.bind_some];have ok:JoinOk (tx s) (ls.map tx)=true:=by
  unfold JoinOk;rw[StrLaws.joinFits (B:=B) (λy hy=>by
   obtain⟨l,hl,rfl⟩:=List.mem_map.mp hy
   rw[cL];exact hb l hl) (by rw[List.length_map,cL];exact hz)]
  rfl
 rw[if_pos ok];show some (D.str (Builtin.Str.glued (tx s) (ls.map tx)))=_;rw[StrLaws.glued_eq_join,nR]
def ch(r x:List Nat)(c y:Nat):Nat:=if r.getD c 0=y then 111 else if x.getD c 0=y then 120 else 46
def iO(n:Nat)(r x:List Nat)(y:Nat):List Nat:=(List.range n).map λc=>ch r x c y
theorem pk(n:Nat)(r x:List Nat)(y:Nat):(iO n r x y).length=n:=by simp[iO]
open StrLaws Builtin Builtin.Str
theorem nL(l:List Nat)(c limit:Nat): ∀(m a:Nat) (f:Array Nat) (free:Nat),free<=a->f.size+m<=limit->
 (forIn (List.range' a m) (f,free) (occBody (tx l) (tx [c]) l.length limit)).run.fst.toList=f.toList++(List.range' a m).filter λi=>decide (l[i]? =some c)
 |0,a,f,free,_,_=>by simp
 |m+1,a,f,free,h1,h2=>by
  rw[List.range'_succ,List.forIn_cons];unfold occBody;have key:(a+(tx [c]).length<=l.length/\subAt (tx l) (tx [c]) a=true)↔l[a]? =some c:=by
   have:=subAt_one (tx l) c a
   rw[cL] at this;simpa [tx] using this
  by_cases hc:l[a]? =some c
  ·obtain⟨k1,k2⟩:=key.mpr hc
   rw[if_pos ⟨⟨⟨by show f.size<limit;omega,h1⟩,k1⟩,k2⟩]
   have ih:=nL l c limit m (a+1) (f.push a) (a+(tx [c]).length) (by rw[cL];exact Nat.le_refl _) (by simp;omega)
   rw[List.filter_cons,if_pos (decide_eq_true hc)];refine ih.trans ?_
   simp
  ·rw[if_neg (λh=>hc (key.mp ⟨h.1.2,h.2⟩))]
   have ih:=nL l c limit m (a+1) f free (by omega) (by omega)
   rw[List.filter_cons,if_neg (by rw[decide_eq_true_eq];exact hc)]
   exact ih
theorem mT(l:List Nat)(c:Nat): ∀(m:Nat) (p:List Nat),(∀i,i<m->p[i]? =l[i]?)->((List.range m).filter λi=>decide (l[i]? =some c)).length=(p.take m).count c
 |0,p,_=>by simp
 |m+1,p,h=>by
  have ih:=mT l c m p λi hi=>h i (by omega)
  rw[List.range_succ,List.filter_append,List.length_append,ih];have hm:=h m (by omega)
  rw[List.take_add_one,List.count_append,hm];cases e:l[m]? with
  |none=>simp[e]
  |some z=>
   by_cases hz:z=c
   ·subst hz;simp[e]
   ·simp[e,hz]
theorem Ax(l:List Nat)(c:Nat):Txt.count (tx l) (tx [c])=(l.count c:Int):=by
 unfold Txt.count;rw[cL,occ_eq,Nat.sub_zero,nL l c (l.length+1) (l.length+1) 0 #[] 0 (Nat.le_refl _) (by simp)]
 have e:=mT l c (l.length+1) l λ_ _=>rfl
 rw[List.take_of_length_le (by omega)] at e
 rw[<-List.range_eq_range'];simp only[List.toList_toArray,List.nil_append];rw[<-e]
theorem vC: ∀(l:List Nat) (i c:Nat),l[i]? =some c->l.idxOf c<=i
 | [],i,c,h=>by simp at h
 |a::l,0,c,h=>by simp at h;subst h;simp[List.idxOf_cons]
 |a::l,i+1,c,h=>by
  have ih:=vC l i c (by simpa using h)
  rw[List.idxOf_cons];cases (a==c)<;>simp<;>omega
theorem AH {l:List Nat}{c:Nat}(h:c∈l):Txt.find (tx l) (tx [c])=(l.idxOf c:Int):=by
 unfold Txt.find;have at_: ∀i,StrLaws.At (tx l) (tx [c]) (tx l).length i↔l[i]? =some c:=λi=>by
  have:=subAt_one (tx l) c i
  simpa [tx,StrLaws.At] using this
 rcases occ_head (tx l) (tx [c]) 1 (Nat.le_refl _) with⟨h0,hn⟩|⟨i,r,h0,ha,hn⟩
 ·obtain⟨i,hi⟩:=List.getElem?_of_mem h
  exact absurd ((at_ i).mpr hi) (hn i)
 ·rw[h0]
  show(i:Int)=_;congr 1
  have e1:=(at_ i).mp ha
  have lt:=(List.getElem?_eq_some_iff.mp e1).1
  have le:l.idxOf c<=i:=by
   have e2:l[i]=c:=(List.getElem?_eq_some_iff.mp e1).2
   exact vC l i c e1
  rcases Nat.lt_or_eq_of_le le with lt2|e
  ·exact absurd ((at_ _).mpr (by rw[List.getElem?_eq_getElem (by omega)];exact congrArg some (List.getElem_idxOf (by omega)))) (hn _ lt2)
  ·exact e.symm
theorem mS {p:Nat->Bool}: ∀ {n k:Nat},k<n->(∀i,i<n->(p i=true↔i=k))->(List.range n).filter p=[k]
 |0,k,h,_=>absurd h (Nat.not_lt_zero _)
 |n+1,k,h,hp=>by
  rw[List.range_succ,List.filter_append]
  by_cases e:k=n
  ·subst e
   have:(List.range k).filter p=[]:=by
    rw[List.filter_eq_nil_iff];intro i hi z;have hi:=List.mem_range.mp hi
    have:=(hp i (by omega)).mp z
    omega
   rw[this,List.filter_cons,if_pos ((hp k (by omega)).mpr rfl)];rfl
  ·have ih:=mS (p:=p) (n:=n) (k:=k) (by omega) λi hi=>hp i (by omega)
   rw[ih,List.filter_cons,if_neg (λz=>e ((hp n (by omega)).mp z).symm)];rfl
theorem vx {p:Nat->Bool}{n:Nat}(h:((List.range n).filter p).length=1): ∃k,k<n/\(List.range n).filter p=[k]/\ ∀i,i<n->(p i=true↔i=k):=by
 obtain⟨k,e⟩:=List.length_eq_one_iff.mp h
 have hk:k∈(List.range n).filter p:=by rw[e];exact List.mem_singleton_self k
 rw[List.mem_filter,List.mem_range] at hk;refine⟨k,hk.1,e,λi hi=>⟨λz=>?_,λz=>by subst z;exact hk.2⟩⟩
 have:i∈(List.range n).filter p:=List.mem_filter.mpr ⟨List.mem_range.mpr hi,z⟩
 rw[e] at this;exact List.mem_singleton.mp this
def As(Q:List (List Nat))(row col:Nat):Nat:=(Q.getD row []).getD col 0
def cS(Q:List (List Nat))(n s col:Nat):List Nat:=(List.range n).filter λrow=>decide (As Q row col=s)
def dY(Q:List (List Nat))(n s:Nat):List Nat:=(List.range n).map λcol=>(cS Q n s col).getD 0 0
def bK(Q:List (List Nat))(s:Nat):List Nat:=Q.map λrow=>row.idxOf s
theorem me {l:List Nat}{i:Nat}(h:i<l.length):l[i]? =some (l.getD i 0):=by rw[List.getD_eq_getElem?_getD,List.getElem?_eq_getElem h];rfl
theorem xO {Q:List (List Nat)}{i:Nat}(h:i<Q.length):Q.getD i []∈Q:=by rw[List.getD_eq_getElem?_getD,List.getElem?_eq_getElem h];exact List.getElem_mem _
theorem rN {l:List Nat}{n:Nat}(hl:l.length=n)(c:Nat):((List.range n).filter λi=>decide (l.getD i 0=c)).length=l.count c:=by
 have e:=mT l c n l λ_ _=>rfl
 rw[List.take_of_length_le (by omega)] at e
 rw[<-e];congr 1
 refine List.filter_congr λi hi=>?_
 have hi:=List.mem_range.mp hi
 rw[me (by omega)]
 simp
theorem sS {l:List Nat}{n:Nat}(hl:l.length=n){c:Nat}(h:l.count c=1):l.idxOf c<n/\ ∀i,i<n->(l.getD i 0=c↔i=l.idxOf c):=by
 rw[<-rN hl c] at h;obtain⟨k,hk,_,e⟩:=vx h
 have kc:l.getD k 0=c:=of_decide_eq_true ((e k hk).mpr rfl)
 have mem:c∈l:=by rw[<-kc,List.getD_eq_getElem?_getD,List.getElem?_eq_getElem (by omega)];exact List.getElem_mem _
 have lt:=List.idxOf_lt_length_of_mem mem
 have ic:l.getD (l.idxOf c) 0=c:=by rw[List.getD_eq_getElem?_getD,List.getElem?_eq_getElem lt];exact List.getElem_idxOf lt
 have ek:l.idxOf c=k:=(e _ (by omega)).mp (decide_eq_true ic)
 refine⟨by omega,λi hi=>?_⟩
 rw[ek];exact⟨λz=>(e i hi).mp (decide_eq_true z),λz=>of_decide_eq_true ((e i hi).mpr z)⟩
theorem pP {Q:List (List Nat)}{s row:Nat}(h:row<Q.length):(bK Q s).getD row 0=(Q.getD row []).idxOf s:=by
 unfold bK;rw[List.getD_eq_getElem?_getD,List.getElem?_map,List.getElem?_eq_getElem h,List.getD_eq_getElem?_getD,List.getElem?_eq_getElem h];rfl
section
variable {Q:List (List Nat)}{n:Nat}(hQ:Q.length=n)(hl: ∀row∈Q,row.length=n)
include hQ hl
theorem rO {s:Nat}(h1: ∀row∈Q,row.count s=1)(O:Ord n (bK Q s)):(∀col,col<n->(cS Q n s col).length=1)/\dY Q n s=gV (bK Q s):=by
 have key: ∀col,col<n->cS Q n s col=[(bK Q s).idxOf col]:=λcol hc=>by
  have g:=eZ O hc
  refine mS g.1 λrow hr=>?_
  rw[decide_eq_true_eq];have m:=xO (show row<Q.length by omega)
  have e:=(sS (hl _ m) (h1 _ m)).2 col hc
  unfold As;rw[e,<-pP (show row<Q.length by omega)]
  constructor
  ·intro z;rw[z];exact(kY O hr).symm
  ·intro z;rw[z];exact g.2.symm
 refine⟨λcol hc=>by rw[key col hc];rfl,?_⟩
 refine pz (by unfold dY;rw[nY,List.length_map,List.length_range,O.len]) λcol hc=>?_
 have hc':col<n:=by unfold dY at hc;rwa [List.length_map,List.length_range] at hc
 rw[ie O hc'];unfold dY;rw[List.getD_eq_getElem?_getD,List.getElem?_map,List.getElem?_range hc'];show(cS Q n s col).getD 0 0=_;rw[key col hc'];rfl
theorem pG {s:Nat}(h1: ∀col,col<n->(cS Q n s col).length=1)(O:Ord n (dY Q n s)):(∀row∈Q,row.count s=1)/\Ord n (bK Q s)/\ ∀row col,row<n->col<n->(As Q row col=s↔col=(bK Q s).getD row 0):=by
 have fg: ∀col,col<n->(dY Q n s).getD col 0<n/\ ∀row,row<n->(As Q row col=s↔row=(dY Q n s).getD col 0):=λcol hc=>by
  obtain⟨k,hk,e,h⟩:=vx (h1 col hc)
  have ek:(dY Q n s).getD col 0=k:=by
   unfold dY;rw[List.getD_eq_getElem?_getD,List.getElem?_map,List.getElem?_range hc];show(cS Q n s col).getD 0 0=k;unfold cS;rw[e];rfl
  rw[ek];refine⟨hk,λrow hr=>?_⟩
  rw[<-h row hr,decide_eq_true_eq]
 have one: ∀row,row<n->((List.range n).filter λcol=>decide ((Q.getD row []).getD col 0=s))=[(dY Q n s).idxOf row]:=λrow hr=>by
  have g:=eZ O hr
  refine mS g.1 λcol hc=>?_
  rw[decide_eq_true_eq];refine((fg col hc).2 row hr).trans ?_
  constructor
  ·intro z;rw[z];exact(kY O hc).symm
  ·intro z;rw[z];exact g.2.symm
 have cn: ∀row,row<n->(Q.getD row []).count s=1:=λrow hr=>by
  rw[<-rN (hl _ (xO (by omega))) s,one row hr];rfl
 have ro: ∀row,row<n->(bK Q s).getD row 0=(dY Q n s).idxOf row:=λrow hr=>by
  rw[pP (by omega)]
  have m:=xO (show row<Q.length by omega)
  have r1:=sS (hl _ m) (cn row hr)
  have g:=eZ O hr
  have:(Q.getD row []).getD ((dY Q n s).idxOf row) 0=s:=((fg _ g.1).2 row hr).mpr g.2.symm
  exact((r1.2 _ g.1).mp this).symm
 have eq:bK Q s=gV (dY Q n s):=by
  refine pz (by unfold bK;rw[nY,List.length_map,O.len,hQ]) λrow hr=>?_
  have hr':row<n:=by unfold bK at hr;rwa [List.length_map,hQ] at hr
  rw[ie O hr',ro row hr']
 refine⟨λrow hm=>?_,by rw[eq];exact O.tip,λrow col hr hc=>?_⟩
 ·obtain⟨i,hi,rfl⟩:=List.getElem_of_mem hm
  have:=cn i (by omega)
  rwa [List.getD_eq_getElem?_getD,List.getElem?_eq_getElem hi] at this
 ·rw[(fg col hc).2 row hr,ro row hr]
  constructor
  ·intro z;rw[z];exact(kY O hc).symm
  ·intro z;rw[z];exact(eZ O hr).2.symm
end
theorem AZ {a b c:Nat}(h1:a≠b)(h2:a≠c)(h3:b≠c): ∀l:List Nat,l.count a+l.count b+l.count c<=l.length
 | []=>by simp
 |x::l=>by
  have ih:=AZ h1 h2 h3 l
  rw[List.count_cons,List.count_cons,List.count_cons,List.length_cons]
  by_cases e1:x=a
  ·subst e1;simp[h1,h2];omega
  ·by_cases e2:x=b
   ·subst e2;simp[e1,h3];omega
   ·by_cases e3:x=c
    ·subst e3;simp[e1,e2];omega
    ·simp[e1,e2,e3];omega
theorem sG {m:Nat}: ∀l:List Nat,(∀z∈l,z<=m)->l.sum=l.length*m-> ∀z∈l,z=m
 | [],_,_,z,h=>by cases h
 |x::l,hb,hs,z,h=>by
  have hx:=hb x List.mem_cons_self
  have le: ∀l:List Nat,(∀z∈l,z<=m)->l.sum<=l.length*m:=by
   intro l
   induction l with
   |nil=>intro _;simp
   |cons y l ih=>intro h;rw[List.sum_cons,List.length_cons,Nat.succ_mul];have:=ih λz hz=>h z (List.mem_cons_of_mem _ hz);have:=h y List.mem_cons_self;omega
  have l1:=le l λz hz=>hb z (List.mem_cons_of_mem _ hz)
  rw[List.sum_cons,List.length_cons,Nat.succ_mul] at hs;rcases List.mem_cons.mp h with rfl|h
  ·omega
  ·exact sG l (λz hz=>hb z (List.mem_cons_of_mem _ hz)) (by omega) z h
theorem uB {c d:Nat}(h:c≠d): ∀P:List (List Nat),(gl [d] P).count c=(P.map λl=>l.count c).sum
 | []=>by simp[gl]
 | [a]=>by simp[gl]
 |a::b::r=>by
  show(a++[d]++gl [d] (b::r)).count c=_;rw[List.count_append,List.count_append,uB h (b::r)];simp[h.symm]
def CT(Q:List (List Nat))(n:Nat):Prop:=(∀row∈Q,row.length=n/\row.count 111=1/\row.count 120=1/\(row.count 46:Int)=(n:Int) -2)/\2<=n/\n<=6/\Ord n (bK Q 111)/\Ord n (bK Q 120)/\ ∀i,i<n->(bK Q 111).getD i 0≠(bK Q 120).getD i 0
def Ce(Q:List (List Nat))(n s:Nat):Prop:=(∀col,col<n->(cS Q n s col).length=1)/\Ord n (dY Q n s)
def CD(Q:List (List Nat))(n dots:Nat):Prop:=(2<=n/\n<=6)/\(∀row∈Q,row.length=n)/\(Ce Q n 111/\Ce Q n 120)/\(dots:Int)=(n:Int)*n-2*n
theorem AJ {Q:List (List Nat)}{n:Nat}(hQ:Q.length=n){dots:Nat}(hd:dots=(Q.map λl=>l.count 46).sum):(CT Q n↔CD Q n dots)/\(CT Q n->dY Q n 111=gV (bK Q 111)/\dY Q n 120=gV (bK Q 120)):=by
 have imp:CT Q n->CD Q n dots/\dY Q n 111=gV (bK Q 111)/\dY Q n 120=gV (bK Q 120):=by
  rintro⟨h1,h2,h3,O1,O2,ne⟩
  have hl: ∀row∈Q,row.length=n:=λrow hr=>(h1 row hr).1
  obtain⟨a1,a2⟩:=rO hQ hl (λrow hr=>(h1 row hr).2.1) O1
  obtain⟨b1,b2⟩:=rO hQ hl (λrow hr=>(h1 row hr).2.2.1) O2
  refine⟨⟨⟨h2,h3⟩,hl,⟨⟨a1,by rw[a2];exact O1.tip⟩,b1,by rw[b2];exact O2.tip⟩,?_⟩,a2,b2⟩
  have e:(Q.map λl=>l.count 46)=List.replicate n (n-2):=by
   rw[List.eq_replicate_iff,List.length_map];refine⟨hQ,λz hz=>?_⟩
   obtain⟨row,hr,rfl⟩:=List.mem_map.mp hz
   have:=(h1 row hr).2.2.2
   omega
  rw[hd,e,List.sum_replicate_nat];rcases(by omega:n=2\/n=3\/n=4\/n=5\/n=6) with rfl|rfl|rfl|rfl|rfl<;>decide
 refine⟨⟨λh=>(imp h).1,?_⟩,λh=>(imp h).2⟩
 rintro⟨⟨h2,h3⟩,hl,⟨⟨a1,A⟩,b1,B⟩,hc⟩
 obtain⟨a2,a3,a4⟩:=pG hQ hl a1 A
 obtain⟨b2,b3,b4⟩:=pG hQ hl b1 B
 have le: ∀z∈Q.map λl=>l.count 46,z<=n-2:=λz hz=>by
  obtain⟨row,hr,rfl⟩:=List.mem_map.mp hz
  have:=AZ (a:=111) (b:=120) (c:=46) (by decide) (by decide) (by decide) row
  have e1:=a2 row hr;have e2:=b2 row hr;have e3:=hl row hr
  show row.count 46<=n-2;omega
 have tot:(Q.map λl=>l.count 46).sum=(Q.map λl=>l.count 46).length*(n-2):=by
  rw[<-hd,List.length_map,hQ];rcases(by omega:n=2\/n=3\/n=4\/n=5\/n=6) with rfl|rfl|rfl|rfl|rfl<;>omega
 have each:=sG _ le tot
 refine⟨λrow hr=>⟨hl row hr,a2 row hr,b2 row hr,?_⟩,h2,h3,a3,b3,λi hi e=>?_⟩
 ·have:=each (row.count 46) (List.mem_map.mpr ⟨row,hr,rfl⟩)
  omega
 ·have lt:(bK Q 111).getD i 0<n:=a3.lt (by rw[List.getD_eq_getElem?_getD,List.getElem?_eq_getElem (by rw[a3.len];exact hi)];exact List.getElem_mem _)
  have e1:=(a4 i _ hi lt).mpr rfl
  have e2:=(b4 i _ hi lt).mpr e
  rw[e1] at e2;cases e2
def yI:D->Bool
 | .int _=>true
 |_=>false
theorem ve(d:D):fu [d]=some (.bl (yI d)):=by cases d<;>rfl
def Dp(n:Nat)(d:D):Prop:= ∃q,d=g0 q/\Ord n q
theorem oO: ∀ds:List D,ds.all yI=true-> ∃is:List Int,ds=is.map D.int
 | [],_=>⟨[],rfl⟩
 |d::ds,h=>by
  rw[List.all_cons,Bool.and_eq_true] at h;obtain⟨is,e⟩:=oO ds h.2
  cases d with
  |int i=>exact⟨i::is,by rw[e];rfl⟩
  |_=>exact absurd h.1 (by simp[yI])
theorem xJ: ∀a b:List Int,cC (.lst (a.map D.int)) (.lst (b.map D.int))=decide (a=b):=λa b=>by
 have h:=yd a b
 have:cC (.lst (a.map D.int)) (.lst (b.map D.int))=cC (.tup (a.map D.int)) (.tup (b.map D.int)):=by unfold cC;rfl
 exact this.trans h
theorem pr: ∀l:List Int,cR (l.map D.int)=0
 | []=>by unfold cR;rfl
 |a::l=>by rw[List.map_cons];unfold cR;rw[pr l,cH];rfl
theorem o5 {n:Nat}{is:List Int}(h:is.Perm ((List.range n).map λ(z:Nat)=>(z:Int))): ∃q:List Nat,is.map D.int=q.map nI/\Ord n q:=by
 refine⟨is.map Int.toNat,?_,⟨?_⟩⟩
 ·rw[List.map_map]
  refine List.map_congr_left λi hi=>?_
  obtain⟨z,_,rfl⟩:=List.mem_map.mp (h.mem_iff.mp hi)
  rfl
 ·have:=h.map Int.toNat
  rw[List.map_map] at this;have e:((List.range n).map (Int.toNat∘λ(z:Nat)=>(z:Int)))=List.range n:=by
   conv=>rhs;rw[<-List.map_id (List.range n)]
   exact List.map_congr_left λz _=>Int.toNat_natCast z
  rw[e] at this;exact this
theorem mz(n:Nat)(hn:n<=6)(d:D): ∃b,dq [nI n,d]=some (.bl b)/\(b=true↔Dp n d):=by
 have fls: ∀(p:FT),p (cz 2 [nI n,d])=some true-> ∀u,∃ρ,aA (cW p (aY (am (.bl false))) skip) u (cz 2 [nI n,d])=.rt (.bl false) ρ:=λp hp u=>⟨_,iJ ((iC hp).trans (bd rfl))⟩
 by_cases ht: ∃ds,d=.tup ds
 ·obtain⟨ds,rfl⟩:=ht
  have pl:km (dH (du (iG "tuple" (ah 1)))) (bq (aj gM (ai bu (aa (ah 1) (af))) (ah 0))) (cz 2 [nI n,.tup ds])=some (!decide (ds.length=n)):=
   jr (cP (b:=true) (cv rfl)) (cN ((au (x:=nI ds.length) (y:=nI n) rfl rfl).trans (by rw[fS (by rw[cH];omega),fm])))
  by_cases hl:ds.length=n
  ·rw[decide_eq_true hl] at pl
   have cp:ai n5 (aa (aX 1 (dv (ah 1)) (gN 2) (bT) (ai (nF 1 fu) (aa (ah 2) (af)))) (af)) (cz 2 [nI n,.tup ds])=some (.bl (ds.all yI)):=by
    rw[aS (ds:=[.lst ((ds.map yI).map D.bl)]) (ax (cf (ds:=ds) (zC rfl) (by omega) ((show cJ (gN 2) bT _ _ (ds.map id)=_ from bL (h:=id) (o:=λd=>D.bl (yI d)) ds λd _=>⟨_,rfl,(eW (ds:=[d]) rfl rfl).trans (ve d)⟩)|>λh=>by rw[List.map_id] at h;rw[h,List.map_map];rfl)) rfl),ki,List.all_map]
    rfl
   by_cases ha:ds.all yI=true
   ·obtain⟨is,rfl⟩:=oO ds ha
    rw[ha] at cp;have hil:is.length=n:=by rw[List.length_map] at hl;exact hl
    have so:ai eI (aa (ah 1) (af)) (cz 2 [nI n,.tup (is.map D.int)])=some (.lst ((em qG is).map D.int)):=by
     rw[aS (ds:=[.tup (is.map D.int)]) rfl];show(fR (is.map D.int)).map D.lst=_;unfold fR;rw[if_pos (by rw[List.length_map];omega),ln];rfl
    have rg:pQ (ah 0) (cz 2 [nI n,.tup (is.map D.int)])=some (.lst (((List.range n).map λ(z:Nat)=>(z:Int)).map D.int)):=by
     rw[uA (n:=n) (by omega) (ah 0) _ rfl,List.map_map];rfl
    refine⟨decide (em qG is=(List.range n).map λ(z:Nat)=>(z:Int)),?_,?_⟩
    ·apply cj (kd:=.s) (n:=2) (t:=cw)
     unfold cw;rw[ay (cB pl),ay (cB (cP (b:=true) (cv cp)))];refine⟨_,bd ((au so rg).trans ?_)⟩
     rw[fY (by unfold dG;rw[pr];omega),xJ]
    ·rw[decide_eq_true_eq]
     constructor
     ·intro e
      have pm:=(fN (lt:=qG) is).symm
      rw[e] at pm;obtain⟨q,e1,e2⟩:=o5 pm
      exact⟨q,by rw[e1],e2⟩
     ·rintro⟨q,e1,e2⟩
      have e3:is.map D.int=q.map nI:=by injection e1
      have e4:is=q.map λ(z:Nat)=>(z:Int):=by
       have:is.map D.int=(q.map λ(z:Nat)=>(z:Int)).map D.int:=by rw[e3,List.map_map];rfl
       exact List.map_inj_right (λa b h=>by injection h) |>.mp this
      rw[e4];refine(jK xS (e2.perm.symm.map _) ?_).symm
      rw[List.pairwise_map];refine List.pairwise_lt_range.imp λh=>?_
      simp only[qG,decide_eq_false_iff_not];omega
   ·refine⟨false,?_,by simp only[Bool.false_eq_true,false_iff];rintro⟨q,e1,_⟩;injection e1 with e1;exact ha (by rw[e1,List.all_map];simp[yI,Function.comp])⟩
    rw[Bool.not_eq_true] at ha;rw[ha] at cp;apply cj (kd:=.s) (n:=2) (t:=cw)
    unfold cw;rw[ay (cB pl)];exact fls _ (cP (b:=false) (cv cp)) _
  ·refine⟨false,?_,by simp only[Bool.false_eq_true,false_iff];rintro⟨q,e1,e2⟩;injection e1 with e1;exact hl (by rw[e1,List.length_map,e2.len])⟩
   rw[decide_eq_false hl] at pl;apply cj (kd:=.s) (n:=2) (t:=cw)
   unfold cw;exact fls _ pl _
 ·refine⟨false,?_,by simp only[Bool.false_eq_true,false_iff];rintro⟨q,e1,e2⟩;exact ht ⟨_,e1⟩⟩
  apply cj (kd:=.s) (n:=2) (t:=cw)
  unfold cw;refine fls _ (pV (cP (b:=false) (cv ?_))) _
  cases d with
  |tup ds=>exact absurd ⟨ds,rfl⟩ ht
  |_=>rfl
def Di(d:D):Prop:= ∃n r x,d=jN r x/\2<=n/\n<=6/\Ord n r/\Ord n x/\ ∀i,i<n->r.getD i 0≠x.getD i 0
theorem BX {n:Nat}{r x:List Nat}(hr:r.length=n)(hx:x.length=n):pY (r.map nI) (x.map nI)=(List.range n).map λ(i:Nat)=>D.tup [nI (r.getD i 0),nI (x.getD i 0)]:=by
 unfold pY;rw[List.length_map,List.length_map,hr,hx,Nat.min_self];refine List.map_congr_left λi hi=>?_
 rw[List.mem_range] at hi;congr 3
 ·rw[List.getD_eq_getElem?_getD,List.getElem?_map,List.getElem?_eq_getElem (by omega),List.getD_eq_getElem?_getD,List.getElem?_eq_getElem (by omega)];rfl
 ·congr 1
  rw[List.getD_eq_getElem?_getD,List.getElem?_map,List.getElem?_eq_getElem (by omega),List.getD_eq_getElem?_getD,List.getElem?_eq_getElem (by omega)];rfl
theorem qK(d:D): ∃b,eN [d]=some (.bl b)/\(b=true↔Di d):=by
 have fls: ∀(p:FT) (ρ:aB),p ρ=some true-> ∀u,∃ρ',aA (cW p (aY (am (.bl false))) skip) u ρ=.rt (.bl false) ρ':=λp ρ hp u=>⟨_,iJ ((iC hp).trans (bd rfl))⟩
 by_cases ht: ∃ds,d=.tup ds
 ·obtain⟨ds,rfl⟩:=ht
  have pl:km (dH (du (iG "tuple" (ah 0)))) (bq (aj gM (ai bu (aa (ah 0) (af))) (am (.int 2)))) (cz 3 [.tup ds])=some (!decide (ds.length=2)):=
   jr (cP (b:=true) (cv rfl)) (cN ((au (x:=nI ds.length) (y:=nI 2) rfl rfl).trans (by rw[fS (by rw[cH];omega),fm])))
  by_cases hl:ds.length=2
  ·obtain⟨a,b,rfl⟩: ∃a b,ds=[a,b]:=by
    match ds,hl with
    | [a,b],_=>exact⟨a,b,rfl⟩
   rw[decide_eq_true hl] at pl;have s1:fG (gT 2 (lw (gN 1) (lw (gN 2) (qa)))) (pu (ah 0)) (cz 3 [.tup [a,b]])=.nx [.v (.tup [a,b]),.v a,.v b]:=va (pU rfl) rfl
   by_cases ha: ∃as,a=.tup as
   ·obtain⟨as,rfl⟩:=ha
    have p2:km (dH (du (iG "tuple" (ah 1)))) (dH (bq (zI BJ BJ (am (.int 2)) (ai bu (aa (ah 1) (af))) (am (.int 6))))) [.v (.tup [.tup as,b]),.v (.tup as),.v b]=some (!(decide ((2:Int)<=as.length)&&decide ((as.length:Int)<=6))):=
     jr (cP (b:=true) (cv rfl)) (cP (cN (zV (x:=.int 2) (y:=nI as.length) (z:=.int 6) rfl rfl rfl rfl rfl)))
    by_cases hb:2<=as.length/\as.length<=6
    ·have e2:(decide ((2:Int)<=as.length)&&decide ((as.length:Int)<=6))=true:=by rw[Bool.and_eq_true,decide_eq_true_eq,decide_eq_true_eq];omega
     rw[e2] at p2;obtain⟨b1,o1,i1⟩:=mz as.length hb.2 (.tup as)
     obtain⟨b2,o2,i2⟩:=mz as.length hb.2 b
     have p3:km (dH (du (ai (nF 2 dq) (aa (ai bu (aa (ah 1) (af))) (aa (ah 1) (af)))))) (dH (du (ai (nF 2 dq) (aa (ai bu (aa (ah 1) (af))) (aa (ah 2) (af)))))) [.v (.tup [.tup as,b]),.v (.tup as),.v b]=some (!b1|| !b2):=
      wg (cP (cv ((eW (ds:=[nI as.length,.tup as]) rfl rfl).trans o1))) (cP (cv ((eW (ds:=[nI as.length,b]) rfl rfl).trans o2)))
     by_cases h12:b1=true/\b2=true
     ·obtain⟨r,er,R⟩:=i1.mp h12.1
      obtain⟨x,ex,X⟩:=i2.mp h12.2
      injection er with er
      subst ex;rw[h12.1,h12.2] at p3
      generalize hn:as.length=n at*
      subst er;have zp:ux (ah 1) (ah 2) [.v (.tup [.tup (r.map nI),g0 x]),.v (.tup (r.map nI)),.v (g0 x)]=some ((List.range n).map λ(i:Nat)=>D.tup [nI (r.getD i 0),nI (x.getD i 0)]):=by
       rw[<-BX R.len X.len];rfl
      refine⟨(List.range n).all λi=> !decide (r.getD i 0=x.getD i 0),?_,?_⟩
      ·apply cj (kd:=.s) (n:=3) (t:=be)
       unfold be;rw[ay (cB pl),ay s1,ay (cB p2),ay (cB p3)];refine⟨_,bd ?_⟩
       rw[aS (ds:=[.lst (((List.range n).map λi=> !decide (r.getD i 0=x.getD i 0)).map D.bl)]) (ax (cf zp (by rw[List.length_map,List.length_range];omega) ((bL (h:=λ(i:Nat)=>D.tup [nI (r.getD i 0),nI (x.getD i 0)]) (o:=λi=>D.bl (!decide (r.getD i 0=x.getD i 0))) (List.range n) λi _=>⟨_,rfl,(au (x:=nI (r.getD i 0)) (y:=nI (x.getD i 0)) rfl rfl).trans (by rw[fS (by rw[cH];omega),fm])⟩).trans (by rw[List.map_map];rfl))) rfl),ki,List.all_map]
       rfl
      ·rw[List.all_eq_true]
       constructor
       ·intro h
        refine⟨n,r,x,rfl,hb.1,hb.2,R,X,λi hi=>?_⟩
        have:=h i (List.mem_range.mpr hi)
        simpa using this
       ·rintro⟨n',r',x',e,_,_,R',X',h⟩ i hi
        rw[List.mem_range] at hi;injection e with e
        injection e with e1 e
        injection e with e2 _
        injection e1 with e1
        injection e2 with e2
        have inj: ∀u v:List Nat,u.map nI=v.map nI->u=v:=λu v h=>List.map_inj_right (λa b h=>by injection h with h;omega) |>.mp h
        rw[inj _ _ e1,inj _ _ e2];have:i<n':=by rw[<-R'.len,<-inj _ _ e1,R.len];exact hi
        simpa using h i this
     ·have:(!b1|| !b2)=true:=by
       cases b1<;>cases b2<;>first|rfl|exact absurd ⟨rfl,rfl⟩ h12
      rw[this] at p3;refine⟨false,?_,by
       simp only[Bool.false_eq_true,false_iff]
       rintro⟨n,r,x,e,_,_,R,X,_⟩
       injection e with e
       injection e with e1 e
       injection e with e2 _
       have hn:as.length=n:=by injection e1 with e1;rw[e1,List.length_map,R.len]
       exact h12 ⟨i1.mpr ⟨r,e1,hn▸R⟩,i2.mpr ⟨x,e2,hn▸X⟩⟩⟩
      apply cj (kd:=.s) (n:=3) (t:=be)
      unfold be;rw[ay (cB pl),ay s1,ay (cB p2)];exact fls _ _ p3 _
    ·have e2:(decide ((2:Int)<=as.length)&&decide ((as.length:Int)<=6))=false:=by rw[Bool.eq_false_iff,Ne,Bool.and_eq_true,decide_eq_true_eq,decide_eq_true_eq];omega
     rw[e2] at p2;refine⟨false,?_,by
      simp only[Bool.false_eq_true,false_iff]
      rintro⟨n,r,x,e,l1,l2,R,X,_⟩
      injection e with e
      injection e with e1 e
      injection e1 with e1
      exact hb (by rw[e1,List.length_map,R.len];exact⟨l1,l2⟩)⟩
     apply cj (kd:=.s) (n:=3) (t:=be)
     unfold be;rw[ay (cB pl),ay s1];exact fls _ _ p2 _
   ·refine⟨false,?_,by
     simp only[Bool.false_eq_true,false_iff]
     rintro⟨n,r,x,e,_⟩
     injection e with e
     injection e with e1 e
     exact ha ⟨_,e1⟩⟩
    apply cj (kd:=.s) (n:=3) (t:=be)
    unfold be;rw[ay (cB pl),ay s1];refine fls _ _ (pV (cP (b:=false) (cv ?_))) _
    cases a with
    |tup as=>exact absurd ⟨as,rfl⟩ ha
    |_=>rfl
  ·rw[decide_eq_false hl] at pl
   refine⟨false,?_,by
    simp only[Bool.false_eq_true,false_iff]
    rintro⟨n,r,x,e,_⟩
    injection e with e
    exact hl (by rw[e];rfl)⟩
   apply cj (kd:=.s) (n:=3) (t:=be)
   unfold be;exact fls _ _ pl _
 ·refine⟨false,?_,by
   simp only[Bool.false_eq_true,false_iff]
   rintro⟨n,r,x,e,_⟩
   exact ht ⟨_,e⟩⟩
  apply cj (kd:=.s) (n:=3) (t:=be)
  unfold be;refine fls _ _ (pV (cP (b:=false) (cv ?_))) _
  cases d with
  |tup ds=>exact absurd ⟨ds,rfl⟩ ht
  |_=>rfl
theorem xC {bs:List D}{d:D}(h:bs.length<=999):iM bs [d]=some (.non,bs++[d]):=by
 unfold iM;exact if_pos (ig (by omega))
theorem yq {c:Nat}: ∀(P:List (List Nat)),(∀l∈P,l.length<=(gl [c] P).length)/\P.length<=(gl [c] P).length+1
 | []=>⟨λl h=>absurd h List.not_mem_nil,by simp⟩
 | [a]=>⟨λl h=>by rw[List.mem_singleton] at h;subst h;exact Nat.le_refl _,by simp⟩
 |a::b::r=>by
  obtain⟨h1,h2⟩:=yq (c:=c) (b::r)
  have e:(gl [c] (a::b::r)).length=a.length+1+(gl [c] (b::r)).length:=by
   show(a++[c]++gl [c] (b::r)).length=_;rw[List.length_append,List.length_append];rfl
  rw[e];refine⟨λl h=>?_,by simp only[List.length_cons] at h2⊢;omega⟩
  rcases List.mem_cons.mp h with rfl|h
  ·omega
  ·have:=h1 l h;omega
theorem oC(t:Str){B:Nat}(h:t.length<=B)(hB:B<=900): ∃P:List (List Nat),jm (.str t) (.str (tx [47]))=some (.lst (P.map λl=>D.str (tx l)))/\gl [47] P=t.cps.toList/\P.length<=B+1/\ ∀l∈P,l.length<=B:=by
 have eP:Txt.split t (tx [47])=((Txt.split t (tx [47])).map λp=>p.cps.toList).map tx:=by
  rw[List.map_map]
  conv=>lhs;rw[<-List.map_id (Txt.split t (tx [47]))]
  exact List.map_congr_left λp _=>pB p
 have e1:(tx [47]).join (Txt.split t (tx [47]))=t:=StrLaws.join_split _ _
 generalize (Txt.split t (tx [47])).map (λp=>p.cps.toList)=P at eP
 rw[eP,nR] at e1;have eg:gl [47] P=t.cps.toList:=by rw[<-e1];simp[tx]
 have hl:(gl [47] P).length<=B:=by rw[eg,Array.length_toList];exact h
 obtain⟨g1,g2⟩:=yq (c:=47) P
 have big: ∀k,k<=901->k<=sizeLine:=λk h=>Nat.le_trans h (by decide)
 refine⟨P,?_,eg,by omega,λl hm=>Nat.le_trans (g1 l hm) hl⟩
 have ok:mD t (tx [47])=true:=by
  unfold mD;rw[eP];refine Bool.and_eq_true_iff.mpr ⟨rfl,Bool.and_eq_true_iff.mpr ⟨decide_eq_true (big _ (by rw[List.length_map];omega)),List.all_eq_true.mpr λp hp=>decide_eq_true (big _ ?_)⟩⟩
  obtain⟨l,hm,rfl⟩:=List.mem_map.mp hp
  rw[cL];have:=g1 l hm;omega
 show(if mD t (tx [47])=true then some (D.lst ((Txt.split t (tx [47])).map D.str)) else none)=_
 rw[if_pos ok,eP,List.map_map];rfl
def qx(n:Nat)(l:List Nat):Bool:=decide (l.length=n)&&(decide (l.count 111=1)&&(decide (l.count 120=1)&&decide ((l.count 46:Int)=(n:Int) -2)))
theorem zc(a b:Int):eV (.int a) (.int b)=some (.bl (decide (a=b))):=by
 rw[fY (by rw[cH];omega)]
 congr 2
theorem kv {p q:FT}{ρ:aB}{a b:Bool}(h1:p ρ=some a)(h2:q ρ=some b):gR p q ρ=some (a&&b):=wx h1 (λe=>by rw[h2,e];rfl) (λe=>by rw[e];rfl)
theorem uv(n:Nat)(l:List Nat)(hl:l.length<=900):gX [nI n,.str (tx l)]=some (.bl (qx n l)):=by
 apply kq (kd:=.s) (n:=2) (t:=kE)
 unfold kE;have l1:ai eX (aa (ah 1) (af)) (cz 2 [nI n,.str (tx l)])=some (nI l.length):=by
  refine(aS (ds:=[.str (tx l)]) rfl).trans ?_
  show(if(tx l).length<=sizeLine then some (D.int ((tx l).length:Int)) else none)=_
  rw[cL,if_pos (Nat.le_trans hl (by decide))]
 have cn: ∀(c:Nat) (g:FE),g (cz 2 [nI n,.str (tx l)])=some (.str (tx [c]))->aj gP (ah 1) g (cz 2 [nI n,.str (tx l)])=some (nI (l.count c)):=λc g hg=>(au (x:=.str (tx l)) rfl hg).trans (by show some (D.int _)=_;rw[Ax])
 have e1:bq (aj eV (aj gP (ah 1) (am (.str "o"))) (am (.int 1))) (cz 2 [nI n,.str (tx l)])=some (decide (l.count 111=1)):=mR (a:=l.count 111) (b:=1) (cn 111 _ rfl) rfl
 have e2:bq (aj eV (aj gP (ah 1) (am (.str "x"))) (am (.int 1))) (cz 2 [nI n,.str (tx l)])=some (decide (l.count 120=1)):=mR (a:=l.count 120) (b:=1) (cn 120 _ rfl) rfl
 have e3:bq (aj eV (aj gP (ah 1) (am (.str "."))) (aj cK (ah 0) (am (.int 2)))) (cz 2 [nI n,.str (tx l)])=some (decide ((l.count 46:Int)=(n:Int) -2)):=cN ((au (cn 46 _ rfl) ((au (x:=nI n) (y:=.int 2) rfl rfl).trans (jb _ _))).trans (zc _ _))
 exact bd (qy (kv (mR (a:=l.length) (b:=n) l1 rfl) (cN (qy (kv e1 (cN (qy (kv e2 e3))))))))
theorem oF(n:Nat)(l:List Nat):qx n l=true↔l.length=n/\l.count 111=1/\l.count 120=1/\(l.count 46:Int)=(n:Int) -2:=by
 unfold qx;simp only[Bool.and_eq_true,decide_eq_true_eq]
abbrev aU(Q:List (List Nat)):List D:=Q.map λl=>D.str (tx l)
theorem sk(s:Nat)(Q:List (List Nat))(hQ:Q.length<=900)(hs: ∀l∈Q,s∈l):bM [.str (tx [s]),.lst (aU Q)]=some (g0 (bK Q s)):=by
 apply kq (kd:=.s) (n:=2) (t:=fA)
 unfold fA;refine bd ((aS (ds:=[.lst ((bK Q s).map nI)]) (ax (cf (ds:=aU Q) (jq rfl) (by simp;omega) ?_) rfl)).trans rfl)
 unfold bK;rw[List.map_map];refine bL (h:=λl=>D.str (tx l)) (o:=λl=>nI (l.idxOf s)) Q λl hl=>⟨_,rfl,(au (x:=.str (tx l)) (y:=.str (tx [s])) rfl rfl).trans ?_⟩
 show(if 0<=Txt.find (tx l) (tx [s]) then some (D.int (Txt.find (tx l) (tx [s]))) else none)=_
 rw[AH (hs l hl),if_pos (by omega)]
theorem ze {u v:Nat}(z:nI u=nI v):u=v:=by
 have:(u:Int)=v:=by injection z
 omega
def noT:Ex:=⟨"NoText",0⟩
theorem sI {z:Ex}{fs:FA}{ρ:aB}{ds:List D}(h:fs ρ=some ds)(hl:ds.length<=20:=by decide):o9 z fs ρ=.error (z,ρ):=by unfold o9;rw[h];exact if_pos hl
theorem wT(t:Str){P:List (List Nat)}(hs:jm (.str t) (.str (tx [47]))=some (.lst (aU P)))(hl:P.length<=900)(hr: ∀l∈P,l.length<=900): ∃b:Bool,(b=true↔CT P.reverse P.length)/\bX [.str t]=some (if b=true then .ok (jN (gV (bK P.reverse 111)) (gV (bK P.reverse 120))) else .error noT):=by
 generalize hQ:P.reverse=Q
 have hlQ:Q.length=P.length:=by rw[<-hQ,List.length_reverse]
 have hrQ: ∀l∈Q,l.length<=900:=λl h=>hr l (by rw[<-hQ] at h;exact List.mem_reverse.mp h)
 have eQ:(aU P).reverse=aU Q:=by rw[<-hQ];show(P.map _).reverse=P.reverse.map _;rw[List.map_reverse]
 rw[<-hlQ];have s1:uo (dH (du (iG "str" (ah 0)))) (o9 ⟨"NoText",0⟩ (aa (am (.str "this is no text")) (af))) (pK skip) (cz 3 [.str t])=.ok (.nx [.v (.str t),.no,.no]):=oa (cP (b:=true) (cv rfl))
 have s2:pK (dg 1 (aj jm (ah 0) (am (.str "/")))) [.v (.str t),.no,.no]=.ok (.nx [.v (.str t),.own (aU P),.no]):=m9 ((h8 ((au (x:=.str t) (y:=.str (tx [47])) rfl rfl).trans hs)).trans rfl)
 have s3:pK (dE (aG 1 0 kX (bI af))) [.v (.str t),.own (aU P),.no]=.ok (.nx [.v (.str t),.own (aU Q),.no]):=m9 ((gO (bh (i:=1) (n:=0) (M:=kX) (ds:=[]) (bs:=aU P) (bs':=aU Q) (d:=.non) rfl (bD rfl) rfl rfl (by show some (D.non,(aU P).reverse)=_;rw[eQ]))).trans rfl)
 have al:ai n5 (aa (aX 1 (jF (bJ 1)) (gN 3) (bT) (ai (nF 2 gX) (aa (ai bu (aa (bJ 1) (af))) (aa (ah 3) (af))))) (af)) [.v (.str t),.own (aU Q),.no]=some (.bl (Q.all (qx Q.length))):=by
  rw[aS (ax (cf (ds:=aU Q) (ys:=(Q.map (qx Q.length)).map D.bl) (rH rfl) (by simp;omega) (by
   rw[List.map_map];refine bL (h:=λl=>D.str (tx l)) Q λl hm=>⟨_,rfl,(eW (ds:=[nI Q.length,.str (tx l)]) (ax ((aS (ds:=[.lst (aU Q)]) rfl).trans (by show some (D.int ((aU Q).length:Int))=_;rw[List.length_map])) rfl) rfl).trans (uv _ l (hrQ l hm))⟩)) rfl),ki,List.all_map]
  rfl
 by_cases ha:Q.all (qx Q.length)=true
 ·rw[ha] at al
  have rk: ∀l∈Q,l.length=Q.length/\l.count 111=1/\l.count 120=1/\(l.count 46:Int)=(Q.length:Int) -2:=λl hm=>(oF _ l).mp (List.all_eq_true.mp ha l hm)
  have mm: ∀ {l:List Nat} {c:Nat},l.count c=1->c∈l:=λ{l c} h=>List.count_pos_iff.mp (by omega)
  have c1:=sk 111 Q (by omega) λl hm=>mm (rk l hm).2.1
  have c2:=sk 120 Q (by omega) λl hm=>mm (rk l hm).2.2.1
  have s5:pK ((λρ=>(aN 2 (dZ (aa (ai (nF 2 bM) (aa (am (.str "o")) (aa (ah 1) (af)))) (aa (ai (nF 2 bM) (aa (am (.str "x")) (aa (ah 1) (af)))) (af))))) (qR 1 ρ))) [.v (.str t),.own (aU Q),.no]=.ok (.nx [.v (.str t),.v (.lst (aU Q)),.v (jN (bK Q 111) (bK Q 120))]):=
   m9 ((bC (ρ:=[.v (.str t),.v (.lst (aU Q)),.no]) (d:=jN (bK Q 111) (bK Q 120)) (ik (ax ((eW (ds:=[.str (tx [111]),.lst (aU Q)]) rfl rfl).trans c1) (ax ((eW (ds:=[.str (tx [120]),.lst (aU Q)]) rfl rfl).trans c2) rfl)) (by simp))).trans rfl)
  obtain⟨b,e1,e2⟩:=qK (jN (bK Q 111) (bK Q 120))
  have iff:b=true↔CT Q Q.length:=by
   rw[e2];constructor
   ·rintro⟨n,r,x,e,h1,h2,R,X,ne⟩
    have e':(bK Q 111).map nI=r.map nI/\(bK Q 120).map nI=x.map nI:=by
     injection e with e
     injection e with e3 e4
     injection e4 with e4 _
     injection e3 with e3
     injection e4 with e4
     exact⟨e3,e4⟩
    have inj: ∀ {a b:List Nat},a.map nI=b.map nI->a=b:=λ{a b} h=>List.map_inj_right (λu v z=>ze z) |>.mp h
    have e3:=inj e'.1
    have e4:=inj e'.2
    subst e3 e4;have hn:n=Q.length:=by rw[<-R.len];unfold bK;rw[List.length_map]
    subst hn;exact⟨rk,h1,h2,R,X,ne⟩
   ·rintro⟨_,h1,h2,R,X,ne⟩
    exact⟨Q.length,_,_,rfl,h1,h2,R,X,ne⟩
  have p6:dH (du (ai (nF 1 eN) (aa (ah 2) (af)))) [.v (.str t),.v (.lst (aU Q)),.v (jN (bK Q 111) (bK Q 120))]=some (!b):=cP (cv ((eW (ds:=[jN (bK Q 111) (bK Q 120)]) rfl rfl).trans e1))
  refine⟨b,iff,?_⟩
  cases b with
  |true=>
   obtain⟨_,h1,h2,R,X,ne⟩:=iff.mp rfl
   rw[if_pos rfl];apply za (kd:=.s) (n:=3) (t:=cb) (ρ:=[.v (.str t),.v (.lst (aU Q)),.v (jN (bK Q 111) (bK Q 120))])
   unfold cb;refine(cI s1).trans ((cI s2).trans ((cI s3).trans ((cI (oa (cP (b:=true) (cv al)))).trans ((cI s5).trans ((cI (oa p6)).trans (m9 (bd (ik (ax ((eW (ds:=[g0 (bK Q 111)]) (ax ((au (x:=jN (bK Q 111) (bK Q 120)) (y:=.int 0) rfl rfl).trans rfl) rfl) rfl).trans (ss R (by omega))) (ax ((eW (ds:=[g0 (bK Q 120)]) (ax ((au (x:=jN (bK Q 111) (bK Q 120)) (y:=.int 1) rfl rfl).trans rfl) rfl) rfl).trans (ss X (by omega))) rfl)) (by simp)))))))))
  |false=>
   rw[if_neg (by decide)]
   apply uw (kd:=.s) (n:=3) (t:=cb) (z:=(noT,[.v (.str t),.v (.lst (aU Q)),.v (jN (bK Q 111) (bK Q 120))]))
   unfold cb;exact(cI s1).trans ((cI s2).trans ((cI s3).trans ((cI (oa (cP (b:=true) (cv al)))).trans ((cI s5).trans (sf ((yr p6).trans (sI rfl)))))))
 ·have hf:Q.all (qx Q.length)=false:=by rw[Bool.not_eq_true] at ha;exact ha
  rw[hf] at al;refine⟨false,?_,?_⟩
  ·constructor
   ·intro h;cases h
   ·rintro⟨h1,_⟩
    exact absurd (List.all_eq_true.mpr λl hm=>(oF _ l).mpr (h1 l hm)) ha
  ·rw[if_neg (by decide)]
   apply uw (kd:=.s) (n:=3) (t:=cb) (z:=(noT,[.v (.str t),.own (aU Q),.no]))
   unfold cb;exact(cI s1).trans ((cI s2).trans ((cI s3).trans (sf ((yr (cP (b:=false) (cv al))).trans (sI rfl)))))
theorem Ah:fJ noT=some (.bl false):=by kernel_rfl
theorem mW {d:D}{r:Except Ex D}(h:bX [d]=some r)(hr:r=.error noT\/ ∃e,r=.ok e):bx [d]=some (match r with| .ok e=>e| .error _=>.non):=by
 have cr:mJ 1 bX (ug (aa (ah 0) (af))) (cz 2 [d])=some r:=(vc (ds:=[d]) (xa rfl) rfl).trans h
 rcases hr with rfl|⟨e,rfl⟩
 ·refine cj (kd:=.s) (n:=2) ⟨[.v d,.ob (.exc noT.x noT.n)],yh (xk cr) (by decide+kernel) (by decide+kernel) ?_⟩
  exact bd ((Bc (cv Ah)).trans rfl)
 ·exact cj (kd:=.s) (n:=2) ⟨cz 2 [d],xl (wZ cr)⟩
theorem zW(L:List Nat)(c:Nat):yV true (nI c) (.lst (L.map nI))=some (.bl (!decide (c∈L))):=by
 unfold yV uN;dsimp only;rw[kF,if_pos (by omega),A8]
 rfl
theorem zG(a s:Nat):eV (.str (tx [a])) (.str (tx [s]))=some (.bl (decide (a=s))):=by
 rw[fY (by unfold dG;omega)]
 congr 2
 unfold cC
 by_cases h:a=s
 ·subst h;simp
 ·have:tx [a]≠tx [s]:=λz=>h (by have:=y9 z;simpa using this)
  simp[h,this]
theorem wy(l:List Nat)(hl:l.length<=60){m:Nat}(hm:m<=6)(h:l.length=m): ∃s:List Nat,eI [.lst (l.map nI)]=some (.lst (s.map nI))/\(s=List.range m↔Ord m l):=by
 obtain⟨s,e,p⟩:=zm l hl
 refine⟨s,e,?_⟩
 constructor
 ·intro z;subst z;exact⟨p.symm⟩
 ·intro O
  have:=ud O hm
  rw[e] at this;have h2:s.map nI=(List.range m).map nI:=by injection this with h;injection h
  have h3:=mP s (List.range m)
  rw[h2,gd] at h3;exact of_decide_eq_true h3.symm
def dI(Q:List (List Nat))(n s:Nat):D:=.lst ((List.range n).map λcol=>D.lst ((cS Q n s col).map nI))
def vF:FS:=(dE (aG 3 1 iM (bI (aa (aX 1 (bS (aa (ah 2) (af))) (gN 6) (bT) (aX 1 (bS (aa (ah 2) (af))) (gN 7) (bq (aj eV (aj jX (aj bp (bJ 1) (ah 7)) (ah 6)) (ah 4))) (ah 7))) (af)))))
def wD:FT:=(km (du (ai ng (aa (aX 1 (dv (ah 5)) (gN 6) (bT) (aj gM (ai bu (aa (ah 6) (af))) (am (.int 1)))) (af)))) (bq (aj gM (ai eI (aa (aX 1 (dv (ah 5)) (gN 6) (bT) (aj bp (ah 6) (am (.int 0)))) (af))) (pQ (ah 2)))))
section
variable {t:Str}{Q:List (List Nat)}{n:Nat}(hQ:Q.length=n)(hl: ∀row∈Q,row.length=n)(hn:n<=6)
include hQ hl hn
theorem uy(s:Nat)(M:List D)(hM:M.length<=10)(s5:Sl):vF [.v (.str t),.own (aU Q),.v (nI n),.own M,.v (.str (tx [s])),s5]=.nx [.v (.str t),.own (aU Q),.v (nI n),.own (M++[dI Q n s]),.v (.str (tx [s])),s5]:=by
 have inner: ∀col,col<n->aX 1 (bS (aa (ah 2) (af))) (gN 7) (bq (aj eV (aj jX (aj bp (bJ 1) (ah 7)) (ah 6)) (ah 4))) (ah 7) [.v (.str t),.own (aU Q),.v (nI n),.own M,.v (.str (tx [s])),s5,.v (nI col)]=some (.lst ((cS Q n s col).map nI)):=λcol hc=>by
  refine cf (ds:=(List.range n).map nI) (dU (n:=n) rfl (by omega)) (by simp;omega) (mw (h:=nI) (o:=nI) (q:=λrow=>decide (As Q row col=s)) (List.range n) λrow hr=>⟨_,rfl,?_,λ_=>rfl⟩)
  have hr:=List.mem_range.mp hr
  have m:=xO (show row<Q.length by omega)
  have i1:aj bp (bJ 1) (ah 7) [.v (.str t),.own (aU Q),.v (nI n),.own M,.v (.str (tx [s])),s5,.v (nI col),.v (nI row)]=some (.str (tx (Q.getD row []))):=by
   refine(au (x:=.lst (aU Q)) (y:=nI row) rfl rfl).trans ?_
   show ju (aU Q) (row:Int)=_;refine i6 ?_
   rw[List.getElem?_map,List.getElem?_eq_getElem (by omega),List.getD_eq_getElem?_getD,List.getElem?_eq_getElem (by omega)];rfl
  have i2:aj jX (aj bp (bJ 1) (ah 7)) (ah 6) [.v (.str t),.own (aU Q),.v (nI n),.own M,.v (.str (tx [s])),s5,.v (nI col),.v (nI row)]=some (.str (tx [As Q row col])):=by
   refine(au i1 (y:=nI col) rfl).trans ?_
   have lq:=hl _ m
   show(if(tx (Q.getD row [])).length<=sizeLine then(ju (tx (Q.getD row [])).cps.toList (col:Int)).map λc=>D.str ⟨#[c]⟩ else none)=_
   rw[if_pos (by rw[cL];exact Nat.le_trans (show _<=900 by omega) (by decide))]
   have:ju (tx (Q.getD row [])).cps.toList (col:Int)=some ((Q.getD row []).getD col 0):=by
    show ju (Q.getD row []).toArray.toList (col:Int)=_;refine i6 ?_
    simpa using me (l:=Q.getD row []) (i:=col) (by omega)
   rw[this];rfl
  exact cN ((au i2 (y:=.str (tx [s])) rfl).trans (zG _ _))
 have c1:aX 1 (bS (aa (ah 2) (af))) (gN 6) (bT) (aX 1 (bS (aa (ah 2) (af))) (gN 7) (bq (aj eV (aj jX (aj bp (bJ 1) (ah 7)) (ah 6)) (ah 4))) (ah 7)) [.v (.str t),.own (aU Q),.v (nI n),.own M,.v (.str (tx [s])),s5]=some (dI Q n s):=
  cf (ds:=(List.range n).map nI) (dU (n:=n) rfl (by omega)) (by simp;omega) (bL (h:=nI) (o:=λcol=>D.lst ((cS Q n s col).map nI)) (List.range n) λcol hc=>⟨_,rfl,inner col (List.mem_range.mp hc)⟩)
 refine(gO (bh (i:=3) (n:=1) (b0:=M) (bs:=M) (bs':=M++[dI Q n s]) (d:=.non) (ds:=[dI Q n s]) rfl (bD (ax c1 rfl)) rfl rfl ?_)).trans rfl
 exact xC (by omega)
theorem uH(s:Nat)(M:List D)(s4:Sl): ∃b:Bool,wD [.v (.str t),.own (aU Q),.v (nI n),.v (.lst M),s4,.v (dI Q n s)]=some b/\(b=false↔Ce Q n s):=by
 let ρ:aB:=[.v (.str t),.own (aU Q),.v (nI n),.v (.lst M),s4,.v (dI Q n s)]
 have c1:aX 1 (dv (ah 5)) (gN 6) (bT) (aj gM (ai bu (aa (ah 6) (af))) (am (.int 1))) ρ=some (.lst (((List.range n).map λcol=> !decide ((cS Q n s col).length=1)).map D.bl)):=by
  refine cf (ds:=(List.range n).map λcol=>D.lst ((cS Q n s col).map nI)) (jq rfl) (by simp;omega) ((bL (h:=λcol=>D.lst ((cS Q n s col).map nI)) (o:=λcol=>D.bl (!decide ((cS Q n s col).length=1))) (List.range n) λcol hc=>⟨_,rfl,?_⟩).trans (by rw[List.map_map];rfl))
  refine(au (x:=nI (cS Q n s col).length) (y:=nI 1) ((aS (ds:=[.lst ((cS Q n s col).map nI)]) rfl).trans (by show some (D.int (((cS Q n s col).map nI).length:Int))=_;rw[List.length_map])) rfl).trans ?_
  rw[fS (by rw[cH];omega),fm]
 have p1:du (ai ng (aa (aX 1 (dv (ah 5)) (gN 6) (bT) (aj gM (ai bu (aa (ah 6) (af))) (am (.int 1)))) (af))) ρ=some ((List.range n).any λcol=> !decide ((cS Q n s col).length=1)):=cv ((aS (ax c1 rfl)).trans ((rU _).trans (by rw[List.any_map];rfl)))
 by_cases ha:((List.range n).any λcol=> !decide ((cS Q n s col).length=1))=true
 ·rw[ha] at p1
  refine⟨true,pV p1,?_⟩
  constructor
  ·intro z;cases z
  ·rintro⟨h,_⟩
   obtain⟨col,hc,z⟩:=List.any_eq_true.mp ha
   rw[decide_eq_true (h col (List.mem_range.mp hc))] at z;cases z
 ·have hf:((List.range n).any λcol=> !decide ((cS Q n s col).length=1))=false:=by rw[Bool.not_eq_true] at ha;exact ha
  rw[hf] at p1;have all1: ∀col,col<n->(cS Q n s col).length=1:=λcol hc=>by
   have:=List.any_eq_false.mp hf col (List.mem_range.mpr hc)
   simpa using this
  have c2:aX 1 (dv (ah 5)) (gN 6) (bT) (aj bp (ah 6) (am (.int 0))) ρ=some (.lst ((dY Q n s).map nI)):=by
   refine cf (ds:=(List.range n).map λcol=>D.lst ((cS Q n s col).map nI)) (jq rfl) (by simp;omega) ((bL (h:=λcol=>D.lst ((cS Q n s col).map nI)) (o:=λcol=>nI ((cS Q n s col).getD 0 0)) (List.range n) λcol hc=>⟨_,rfl,?_⟩).trans (by unfold dY;rw[List.map_map];rfl))
   refine(au (x:=.lst ((cS Q n s col).map nI)) (y:=nI 0) rfl rfl).trans ?_
   show ju ((cS Q n s col).map nI) ((0:Nat):Int)=_;exact tu (by have:=all1 col (List.mem_range.mp hc);omega)
  obtain⟨so,e1,e2⟩:=wy (dY Q n s) (by unfold dY;simp;omega) hn (by unfold dY;simp)
  have p2:bq (aj gM (ai eI (aa (aX 1 (dv (ah 5)) (gN 6) (bT) (aj bp (ah 6) (am (.int 0)))) (af))) (pQ (ah 2))) ρ=some (!decide (so=List.range n)):=by
   refine cN ((au ((aS (ax c2 rfl)).trans e1) (Br (m:=n) rfl (by omega))).trans ?_)
   rw[fS (pj so)];congr 2
   show(!cC (.lst (so.map nI)) (.lst ((List.range n).map nI)))=_;unfold cC;rw[mP]
  refine⟨!decide (so=List.range n),jr p1 p2,?_⟩
  rw[Bool.not_eq_false',decide_eq_true_eq,e2];exact⟨λO=>⟨all1,O⟩,λh=>h.2⟩
theorem vB(s:Nat)(f:FE)(ρ:aB)(hf:f ρ=some (dI Q n s))(h6:ρ.length=6)(h1: ∀col,col<n->(cS Q n s col).length=1):ai dL (aa (aX 1 (dv f) (gN 6) (bT) (aj bp (ah 6) (am (.int 0)))) (af)) ρ=some (g0 (dY Q n s)):=by
 have c2:aX 1 (dv f) (gN 6) (bT) (aj bp (ah 6) (am (.int 0))) ρ=some (.lst ((dY Q n s).map nI)):=by
  refine cf (ds:=(List.range n).map λcol=>D.lst ((cS Q n s col).map nI)) (jq hf) (by simp;omega) ((bL (h:=λcol=>D.lst ((cS Q n s col).map nI)) (o:=λcol=>nI ((cS Q n s col).getD 0 0)) (List.range n) λcol hc=>⟨_,rfl,?_⟩).trans (by unfold dY;rw[List.map_map];rfl))
  have k6:ah 6 ((ρ++List.replicate 1 Sl.no).set 6 (.v (D.lst ((cS Q n s col).map nI))))=some (D.lst ((cS Q n s col).map nI)):=by
   unfold ah;rw[List.getElem?_set_self (by simp[h6])]
  refine(au k6 (y:=nI 0) rfl).trans ?_
  show ju ((cS Q n s col).map nI) ((0:Nat):Int)=_;exact tu (by have:=h1 col (List.mem_range.mp hc);omega)
 exact(aS (ax c2 rfl)).trans rfl
end
theorem xM(t:Str){P:List (List Nat)}(hs:jm (.str t) (.str (tx [47]))=some (.lst (aU P)))(ht:gl [47] P=t.cps.toList)(hlP:P.length<=900)(hr: ∀l∈P,l.length<=900): ∃b:Bool,(b=true↔CD P.reverse P.length ((P.reverse.map λl=>l.count 46).sum))/\cg [.str t]=some (if b=true then jN (dY P.reverse P.length 111) (dY P.reverse P.length 120) else .non):=by
 have sumR:(P.reverse.map λl=>l.count 46).sum=(P.map λl=>l.count 46).sum:=by
  rw[List.map_reverse];exact(List.reverse_perm _).sum_nat
 have dots:Txt.count t (tx [46])=(((P.reverse.map λl=>l.count 46).sum:Nat):Int):=by
  rw[sumR,<-uB (c:=46) (d:=47) (by decide),ht]
  conv=>lhs;rw[pB t]
  exact Ax _ _
 generalize hQ:P.reverse=Q at*
 have hlQ:Q.length=P.length:=by rw[<-hQ,List.length_reverse]
 have hrQ: ∀l∈Q,l.length<=900:=λl h=>hr l (by rw[<-hQ] at h;exact List.mem_reverse.mp h)
 have eQ:(aU P).reverse=aU Q:=by rw[<-hQ];show(P.map _).reverse=P.reverse.map _;rw[List.map_reverse]
 rw[<-hlQ]
 generalize hn:Q.length=n
 generalize hdt:(Q.map λl=>l.count 46).sum=dt at dots
 have s0:cW (dH (du (iG "str" (ah 0)))) (aY (am .non)) (skip) (cz 6 [.str t])=.nx [.v (.str t),.no,.no,.no,.no,.no]:=cB (cP (b:=true) (cv rfl))
 have s1:dg 1 (aj jm (ah 0) (am (.str "/"))) [.v (.str t),.no,.no,.no,.no,.no]=.nx [.v (.str t),.own (aU P),.no,.no,.no,.no]:=(h8 ((au (x:=.str t) (y:=.str (tx [47])) rfl rfl).trans hs)).trans rfl
 have s2:dE (aG 1 0 kX (bI af)) [.v (.str t),.own (aU P),.no,.no,.no,.no]=.nx [.v (.str t),.own (aU Q),.no,.no,.no,.no]:=(gO (bh (i:=1) (n:=0) (M:=kX) (ds:=[]) (bs:=aU P) (bs':=aU Q) (d:=.non) rfl (bD rfl) rfl rfl (by show some (D.non,(aU P).reverse)=_;rw[eQ]))).trans rfl
 have s3:aN 2 (ai bu (aa (bJ 1) (af))) [.v (.str t),.own (aU Q),.no,.no,.no,.no]=.nx [.v (.str t),.own (aU Q),.v (nI n),.no,.no,.no]:=(bC (d:=nI n) ((aS (ds:=[.lst (aU Q)]) rfl).trans (by show some (D.int ((aU Q).length:Int))=_;rw[List.length_map,hn]))).trans rfl
 have c4:aX 1 (jF (bJ 1)) (gN 6) (bT) (aj gM (ai eX (aa (ah 6) (af))) (ah 2)) [.v (.str t),.own (aU Q),.v (nI n),.no,.no,.no]=some (.lst ((Q.map λl=> !decide (l.length=n)).map D.bl)):=by
  refine cf (ds:=aU Q) (rH rfl) (by simp;omega) ((bL (h:=λl=>D.str (tx l)) (o:=λl=>D.bl (!decide (l.length=n))) Q λl hm=>⟨_,rfl,?_⟩).trans (by rw[List.map_map];rfl))
  have l1:ai eX (aa (ah 6) (af)) [.v (.str t),.own (aU Q),.v (nI n),.no,.no,.no,.v (.str (tx l))]=some (nI l.length):=by
   refine(aS (ds:=[.str (tx l)]) rfl).trans ?_
   show(if(tx l).length<=sizeLine then some (D.int ((tx l).length:Int)) else none)=_
   rw[cL,if_pos (Nat.le_trans (hrQ l hm) (by decide))]
  refine(au l1 (y:=nI n) rfl).trans ?_
  rw[fS (by rw[cH];omega),fm]
 have p4:km (bq (aj (yV true) (ah 2) (bQ (aa (am (.int 2)) (aa (am (.int 3)) (aa (am (.int 4)) (aa (am (.int 5)) (aa (am (.int 6)) (af))))))))) (du (ai ng (aa (aX 1 (jF (bJ 1)) (gN 6) (bT) (aj gM (ai eX (aa (ah 6) (af))) (ah 2))) (af)))) [.v (.str t),.own (aU Q),.v (nI n),.no,.no,.no]=some (!decide (n∈[2,3,4,5,6])||Q.any λl=> !decide (l.length=n)):=
  wg (cN ((au (x:=nI n) (y:=.lst ([2,3,4,5,6].map nI)) rfl (gH (ds:=[2,3,4,5,6].map nI) rfl (by decide))).trans (zW _ _))) (cv ((aS (ax c4 rfl)).trans ((rU _).trans (by rw[List.any_map];rfl))))
 have non: ∀ {p:Prop},¬p->((false:Bool)=true↔p):=λ{p} h=>⟨λz=>(by cases z),λz=>absurd z h⟩
 by_cases hg:n∈[2,3,4,5,6]/\ ∀l∈Q,l.length=n
 ·obtain⟨h26,hl⟩:=hg
  have hn26:2<=n/\n<=6:=by simp at h26;omega
  have q4:(!decide (n∈[2,3,4,5,6])||Q.any λl=> !decide (l.length=n))=false:=by
   rw[decide_eq_true h26];show(Q.any λl=> !decide (l.length=n))=false
   rw[List.any_eq_false];intro l hm z;rw[decide_eq_true (hl l hm)] at z;cases z
  rw[q4] at p4;have s5:dg 3 (bQ (af)) [.v (.str t),.own (aU Q),.v (nI n),.no,.no,.no]=.nx [.v (.str t),.own (aU Q),.v (nI n),.own [],.no,.no]:=rfl
  have s6:eO (bI (wO (am (.str "ox")))) (gN 4) vF [.v (.str t),.own (aU Q),.v (nI n),.own [],.no,.no]=.nx [.v (.str t),.own (aU Q),.v (nI n),.own [dI Q n 111,dI Q n 120],.v (.str (tx [120])),.no]:=by
   rw[fO (ds:=[.str (tx [111]),.str (tx [120])]) (ρ1:=[.v (.str t),.own (aU Q),.v (nI n),.own [],.no,.no]) (bD (by kernel_rfl))]
   rw[cV (ρ1:=[.v (.str t),.own (aU Q),.v (nI n),.own [],.v (.str (tx [111])),.no]) rfl (uy hn hl hn26.2 111 [] (by simp) .no),cV (ρ1:=[.v (.str t),.own (aU Q),.v (nI n),.own [dI Q n 111],.v (.str (tx [120])),.no]) rfl (uy hn hl hn26.2 120 [dI Q n 111] (by simp) .no)]
   rfl
  obtain⟨b1,k1,j1⟩:=uH (t:=t) hn hl hn26.2 111 [dI Q n 111,dI Q n 120] (.v (.str (tx [120])))
  obtain⟨b2,k2,j2⟩:=uH (t:=t) hn hl hn26.2 120 [dI Q n 111,dI Q n 120] (.v (.str (tx [120])))
  have it7:bI (dv (ah 3)) [.v (.str t),.own (aU Q),.v (nI n),.v (.lst [dI Q n 111,dI Q n 120]),.v (.str (tx [120])),.no]=some ([dI Q n 111,dI Q n 120],[.v (.str t),.own (aU Q),.v (nI n),.v (.lst [dI Q n 111,dI Q n 120]),.v (.str (tx [120])),.no]):=bD (jq rfl)
  have pre: ∀ {u:FS},(aA (cW (dH (du (iG "str" (ah 0)))) (aY (am .non)) (skip)) (aA (dg 1 (aj jm (ah 0) (am (.str "/")))) (aA (dE (aG 1 0 kX (bI af))) (aA (aN 2 (ai bu (aa (bJ 1) (af)))) (aA (cW (km (bq (aj (yV true) (ah 2) (bQ (aa (am (.int 2)) (aa (am (.int 3)) (aa (am (.int 4)) (aa (am (.int 5)) (aa (am (.int 6)) (af))))))))) (du (ai ng (aa (aX 1 (jF (bJ 1)) (gN 6) (bT) (aj gM (ai eX (aa (ah 6) (af))) (ah 2))) (af))))) (aY (am .non)) (skip)) (aA (dg 3 (bQ (af))) (aA (eO (bI (wO (am (.str "ox")))) (gN 4) vF) u))))))) (cz 6 [.str t])=u [.v (.str t),.own (aU Q),.v (nI n),.own [dI Q n 111,dI Q n 120],.v (.str (tx [120])),.no]:=
   λ{u}=>(ay s0).trans ((ay s1).trans ((ay s2).trans ((ay s3).trans ((ay (cB p4)).trans ((ay s5).trans (ay s6))))))
  have lp1:b1=true-> ∃ρ,eO (bI (dv (ah 3))) (gN 5) (cW wD (aY (am .non)) (skip)) [.v (.str t),.own (aU Q),.v (nI n),.v (.lst [dI Q n 111,dI Q n 120]),.v (.str (tx [120])),.no]=.rt .non ρ:=λhb=>by
   rw[hb] at k1;exact⟨_,(fO it7).trans (sK (ρ1:=[.v (.str t),.own (aU Q),.v (nI n),.v (.lst [dI Q n 111,dI Q n 120]),.v (.str (tx [120])),.v (dI Q n 111)]) rfl ((iC k1).trans (bd rfl)))⟩
  have lp2:b1=false->b2=true-> ∃ρ,eO (bI (dv (ah 3))) (gN 5) (cW wD (aY (am .non)) (skip)) [.v (.str t),.own (aU Q),.v (nI n),.v (.lst [dI Q n 111,dI Q n 120]),.v (.str (tx [120])),.no]=.rt .non ρ:=λhb hb2=>by
   rw[hb] at k1;rw[hb2] at k2;exact⟨_,(fO it7).trans ((cV (ρ1:=[.v (.str t),.own (aU Q),.v (nI n),.v (.lst [dI Q n 111,dI Q n 120]),.v (.str (tx [120])),.v (dI Q n 111)]) rfl (cB k1)).trans (sK (ρ1:=[.v (.str t),.own (aU Q),.v (nI n),.v (.lst [dI Q n 111,dI Q n 120]),.v (.str (tx [120])),.v (dI Q n 120)]) rfl ((iC k2).trans (bd rfl))))⟩
  have lp3:b1=false->b2=false->eO (bI (dv (ah 3))) (gN 5) (cW wD (aY (am .non)) (skip)) [.v (.str t),.own (aU Q),.v (nI n),.v (.lst [dI Q n 111,dI Q n 120]),.v (.str (tx [120])),.no]=.nx [.v (.str t),.own (aU Q),.v (nI n),.v (.lst [dI Q n 111,dI Q n 120]),.v (.str (tx [120])),.v (dI Q n 120)]:=λhb hb2=>by
   rw[hb] at k1;rw[hb2] at k2;exact(fO it7).trans ((cV (ρ1:=[.v (.str t),.own (aU Q),.v (nI n),.v (.lst [dI Q n 111,dI Q n 120]),.v (.str (tx [120])),.v (dI Q n 111)]) rfl (cB k1)).trans ((cV (ρ1:=[.v (.str t),.own (aU Q),.v (nI n),.v (.lst [dI Q n 111,dI Q n 120]),.v (.str (tx [120])),.v (dI Q n 120)]) rfl (cB k2)).trans rfl))
  cases hb1:b1 with
  |true=>
   obtain⟨ρ,e⟩:=lp1 hb1
   refine⟨false,non ?_,cj (kd:=.s) (n:=6) (t:=fh) ⟨ρ,(pre (u:=_)).trans (iJ e)⟩⟩
   rintro⟨_,_,⟨z,_⟩,_⟩
   rw[j1.mpr z] at hb1;cases hb1
  |false=>
   cases hb2:b2 with
   |true=>
    obtain⟨ρ,e⟩:=lp2 hb1 hb2
    refine⟨false,non ?_,cj (kd:=.s) (n:=6) (t:=fh) ⟨ρ,(pre (u:=_)).trans (iJ e)⟩⟩
    rintro⟨_,_,⟨_,z⟩,_⟩
    rw[j2.mpr z] at hb2;cases hb2
   |false=>
    have e:=lp3 hb1 hb2
    have C1:=j1.mp hb1
    have C2:=j2.mp hb2
    have p8:bq (aj gM (aj gP (ah 0) (am (.str "."))) (aj cK (aj bH (ah 2) (ah 2)) (aj bH (am (.int 2)) (ah 2)))) [.v (.str t),.own (aU Q),.v (nI n),.v (.lst [dI Q n 111,dI Q n 120]),.v (.str (tx [120])),.v (dI Q n 120)]=some (!decide ((dt:Int)=(n:Int)*n-2*n)):=by
     have small:((n:Int)).natAbs<10^200:=Nat.lt_of_lt_of_le (show((n:Int)).natAbs<100 by omega) (by decide)
     have m1:=(au (ρ:=[.v (.str t),.own (aU Q),.v (nI n),.v (.lst [dI Q n 111,dI Q n 120]),.v (.str (tx [120])),.v (dI Q n 120)]) (F:=bH) (f:=ah 2) (g:=ah 2) (x:=nI n) (y:=nI n) rfl rfl).trans (dS small small)
     have m2:=(au (ρ:=[.v (.str t),.own (aU Q),.v (nI n),.v (.lst [dI Q n 111,dI Q n 120]),.v (.str (tx [120])),.v (dI Q n 120)]) (F:=bH) (f:=am (.int 2)) (g:=ah 2) (x:=.int 2) (y:=nI n) rfl rfl).trans (dS (by decide) small)
     refine cN ((au (x:=.int dt) ((au (x:=.str t) (y:=.str (tx [46])) rfl rfl).trans (by show some (D.int (Txt.count t (tx [46])))=_;rw[dots])) ((au m1 m2).trans (jb _ _))).trans ?_)
     rw[fS (by rw[cH];omega)]
     congr 2
    by_cases hd:(dt:Int)=(n:Int)*n-2*n
    ·rw[decide_eq_true hd] at p8
     refine⟨true,⟨λ_=>⟨hn26,hl,⟨C1,C2⟩,hd⟩,λ_=>rfl⟩,?_⟩
     rw[if_pos rfl];refine cj (kd:=.s) (n:=6) (t:=fh) ⟨_,(pre (u:=_)).trans ((ay e).trans ((ay (cB p8)).trans (bd (ik (ax (vB hn hl hn26.2 111 _ _ ((au (x:=.lst [dI Q n 111,dI Q n 120]) (y:=.int 0) rfl rfl).trans rfl) rfl C1.1) (ax (vB hn hl hn26.2 120 _ _ ((au (x:=.lst [dI Q n 111,dI Q n 120]) (y:=.int 1) rfl rfl).trans rfl) rfl C2.1) rfl)) (by simp)))))⟩
    ·rw[decide_eq_false hd] at p8
     refine⟨false,non ?_,cj (kd:=.s) (n:=6) (t:=fh) ⟨_,(pre (u:=_)).trans ((ay e).trans (iJ ((iC p8).trans (bd rfl))))⟩⟩
     rintro⟨_,_,_,z⟩
     exact hd z
 ·have q4:(!decide (n∈[2,3,4,5,6])||Q.any λl=> !decide (l.length=n))=true:=by
   by_cases h1:n∈[2,3,4,5,6]
   ·have h2: ¬ ∀l∈Q,l.length=n:=λz=>hg ⟨h1,z⟩
    have:(Q.any λl=> !decide (l.length=n))=true:=by
     cases e:Q.any λl=> !decide (l.length=n) with
     |true=>rfl
     |false=>
      exfalso;refine h2 λl hm=>?_
      have:=List.any_eq_false.mp e l hm
      simpa using this
    rw[this];simp
   ·rw[decide_eq_false h1];rfl
  rw[q4] at p4;refine⟨false,non ?_,cj (kd:=.s) (n:=6) (t:=fh) ⟨_,(ay s0).trans ((ay s1).trans ((ay s2).trans ((ay s3).trans (iJ ((iC p4).trans (bd rfl))))))⟩⟩
  rintro⟨h1,h2,_⟩
  exact hg ⟨by simp;omega,h2⟩
theorem sU(t:Str)(h:t.length<=800): ∃d:D,bx [.str t]=some d/\cg [.str t]=some d/\dG d<=32:=by
 obtain⟨P,hs,ht,h1,h2⟩:=oC t h (by omega)
 obtain⟨b,i1,e1⟩:=wT t hs (by omega) λl hl=>by have:=h2 l hl;omega
 obtain⟨b',i2,e2⟩:=xM t hs ht (by omega) λl hl=>by have:=h2 l hl;omega
 obtain⟨k1,k2⟩:=AJ (Q:=P.reverse) (n:=P.length) (by rw[List.length_reverse]) (dots:=(P.reverse.map λl=>l.count 46).sum) rfl
 have eb:b=b':=by
  rw[Bool.eq_iff_iff,i1,i2];exact k1
 subst eb;cases b with
 |true=>
  have T:=i1.mp rfl
  obtain⟨f1,f2⟩:=k2 T
  rw[if_pos rfl] at e1 e2;refine⟨_,mW e1 (.inr ⟨_,rfl⟩),?_,vO _ _⟩
  rw[e2,f1,f2]
 |false=>
  rw[if_neg (by decide)] at e1 e2
  exact⟨.non,mW e1 (.inl rfl),e2,by unfold dG;omega⟩
set_option maxHeartbeats 1000000
theorem vM(a b:Nat):eV (nI a) (nI b)=some (.bl (decide (a=b))):=by rw[fY (by rw[cH];omega),fm]
theorem nz {g:FG}{b:FS}{P:Nat->aB->Prop}: ∀(k j:Nat),(∀i ρ,j<=i->i<j+k->P i ρ-> ∃ρ1 ρ2,g (nI i) ρ=some ρ1/\b ρ1=.nx ρ2/\P (i+1) ρ2)-> ∀ρ,P j ρ-> ∃ρ',fF g b ((List.range' j k).map nI) ρ=.nx ρ'/\P (j+k) ρ'
 |0,j,_,ρ,p=>⟨ρ,rfl,p⟩
 |k+1,j,h,ρ,p=>by
  obtain⟨ρ1,ρ2,h1,h2,p2⟩:=h j ρ (Nat.le_refl _) (by omega) p
  obtain⟨ρ',e,p'⟩:=nz k (j+1) (λi ρ a b=>h i ρ (by omega) (by omega)) ρ2 p2
  refine⟨ρ',?_,by rw[show j+(k+1)=j+1+k by omega];exact p'⟩
  rw[List.range'_succ,List.map_cons];exact(cV h1 h2).trans e
theorem z8(ns:List Int)(k:Nat)(hk:1<=k)(ρ:aB)(h:ah 0 ρ=some (gL ns)): ∃m:Nat,m<=k/\ai rL (aa (am (.int 1)) (aa (ai i7 (aa (am (.int k)) (aa (ai bu (aa (ah 0) (af))) (af)))) (af))) ρ=some (nI m):=by
 have e1:ai bu (aa (ah 0) af) ρ=some (nI ns.length):=by
  rw[aS (ax h rfl)];show some (D.int ((ns.map D.int).length:Int))=_;rw[List.length_map]
 refine⟨max 1 (min k ns.length),by omega,?_⟩
 refine(aS (ax rfl (ax ((aS (ax rfl (ax e1 rfl))).trans rfl) rfl))).trans ?_
 show some (D.int _)=some (D.int _);congr 2
 split<;>split<;>omega
set_option maxHeartbeats 4000000
def uz(n:Nat)(r x:List Nat):List Nat:=gl [47] ((List.range n).reverse.map (iO n r x))
theorem tO(n:Nat):(List.range n).reverse=(List.range n).map λw=>n-1-w:=by
 apply List.ext_getElem?
 intro i
 by_cases h:i<n
 ·rw[List.getElem?_reverse (by simpa using h),List.length_range,List.getElem?_range (by omega),List.getElem?_map,List.getElem?_range h];rfl
 ·rw[List.getElem?_eq_none (by simp;omega),List.getElem?_eq_none (by simp;omega)]
abbrev fT(r x:List Nat)(n:Nat)(F:List D)(s3 s4 s5 s6:Sl):aB:=[.v (jN r x),.v (nI n),.own F,s3,s4,s5,s6]
section
variable {n:Nat}{r x:List Nat}(R:Ord n r)(X:Ord n x)(h2:2<=n)(hn:n<=6)
include R X hn
theorem xg(F:List D)(w:Nat)(hw:w<n)(s5 s6:Sl): ∃s5' s6',eO (bI (bS (aa (ah 1) (af)))) (gN 5) (aA (aN 6 (am (.str ".")))
 (aA (cW (bq (aj eV (aj bp (aj bp (ah 0) (am (.int 1))) (ah 5)) (aj cK (aj cK (ah 1) (am (.int 1))) (ah 3)))) (aN 6 (am (.str "x"))) (skip))
 (aA (cW (bq (aj eV (aj bp (aj bp (ah 0) (am (.int 0))) (ah 5)) (aj cK (aj cK (ah 1) (am (.int 1))) (ah 3)))) (aN 6 (am (.str "o"))) (skip))
 (aN 4 (aj gr (ah 4) (ah 6)))))) (fT r x n F (.v (nI w)) (.v (.str (tx []))) s5 s6)=.nx (fT r x n F (.v (nI w)) (.v (.str (tx (iO n r x (n-1-w))))) s5' s6'):=by
 have sb: ∀s4 s5 s6,aj cK (aj cK (ah 1) (am (.int 1))) (ah 3) (fT r x n F (.v (nI w)) s4 s5 s6)=some (nI (n-1-w)):=λs4 s5 s6=>by
  refine(au ((au (x:=nI n) (y:=.int 1) rfl rfl).trans (jb _ _)) (y:=nI w) rfl).trans ((jb _ _).trans ?_)
  show some (D.int _)=some (D.int _);congr 2
  omega
 obtain⟨ρ',e,s5',s6',rfl⟩:=nz (g:=gN 5) (b:=aA (aN 6 (am (.str ".")))
 (aA (cW (bq (aj eV (aj bp (aj bp (ah 0) (am (.int 1))) (ah 5)) (aj cK (aj cK (ah 1) (am (.int 1))) (ah 3)))) (aN 6 (am (.str "x"))) (skip))
 (aA (cW (bq (aj eV (aj bp (aj bp (ah 0) (am (.int 0))) (ah 5)) (aj cK (aj cK (ah 1) (am (.int 1))) (ah 3)))) (aN 6 (am (.str "o"))) (skip))
 (aN 4 (aj gr (ah 4) (ah 6)))))) (P:=λi ρ=> ∃s5 s6,ρ=fT r x n F (.v (nI w)) (.v (.str (tx ((List.range i).map λc=>ch r x c (n-1-w))))) s5 s6) n 0 (λi ρ _ hi hq_=>by
   obtain⟨s5,s6,e⟩:=hq_
   subst e;rw[Nat.zero_add] at hi
   let L:=(List.range i).map λc=>ch r x c (n-1-w)
   refine⟨fT r x n F (.v (nI w)) (.v (.str (tx L))) (.v (nI i)) s6,fT r x n F (.v (nI w)) (.v (.str (tx ((List.range (i+1)).map λc=>ch r x c (n-1-w))))) (.v (nI i)) (.v (.str (tx [ch r x i (n-1-w)]))),rfl,?_,_,_,rfl⟩
   have tX: ∀s6,bq (aj eV (aj bp (aj bp (ah 0) (am (.int 1))) (ah 5)) (aj cK (aj cK (ah 1) (am (.int 1))) (ah 3))) (fT r x n F (.v (nI w)) (.v (.str (tx L))) (.v (nI i)) s6)=some (decide (x.getD i 0=n-1-w)):=λs6=>cN ((au ((au ((au (x:=jN r x) (y:=.int 1) rfl rfl).trans rfl) (y:=nI i) rfl).trans (yA (by rw[X.len];exact hi))) (sb _ _ _)).trans (vM _ _))
   have tR: ∀s6,bq (aj eV (aj bp (aj bp (ah 0) (am (.int 0))) (ah 5)) (aj cK (aj cK (ah 1) (am (.int 1))) (ah 3))) (fT r x n F (.v (nI w)) (.v (.str (tx L))) (.v (nI i)) s6)=some (decide (r.getD i 0=n-1-w)):=λs6=>cN ((au ((au ((au (x:=jN r x) (y:=.int 0) rfl rfl).trans rfl) (y:=nI i) rfl).trans (yA (by rw[R.len];exact hi))) (sb _ _ _)).trans (vM _ _))
   let c1:Nat:=if x.getD i 0=n-1-w then 120 else 46
   have z1:aN 6 (am (.str ".")) (fT r x n F (.v (nI w)) (.v (.str (tx L))) (.v (nI i)) s6)=.nx (fT r x n F (.v (nI w)) (.v (.str (tx L))) (.v (nI i)) (.v (.str (tx [46])))):=(bC rfl).trans rfl
   have z2:cW (bq (aj eV (aj bp (aj bp (ah 0) (am (.int 1))) (ah 5)) (aj cK (aj cK (ah 1) (am (.int 1))) (ah 3)))) (aN 6 (am (.str "x"))) (skip) (fT r x n F (.v (nI w)) (.v (.str (tx L))) (.v (nI i)) (.v (.str (tx [46]))))=.nx (fT r x n F (.v (nI w)) (.v (.str (tx L))) (.v (nI i)) (.v (.str (tx [c1])))):=by
    show _=Out.nx (fT r x n F (.v (nI w)) (.v (.str (tx L))) (.v (nI i)) (.v (.str (tx [if x.getD i 0=n-1-w then 120 else 46]))))
    by_cases e:x.getD i 0=n-1-w
    ·rw[if_pos e];exact(iC (by rw[tX,decide_eq_true e])).trans ((bC rfl).trans rfl)
    ·rw[if_neg e];exact(uO (by rw[tX,decide_eq_false e])).trans rfl
   have z3:cW (bq (aj eV (aj bp (aj bp (ah 0) (am (.int 0))) (ah 5)) (aj cK (aj cK (ah 1) (am (.int 1))) (ah 3)))) (aN 6 (am (.str "o"))) (skip) (fT r x n F (.v (nI w)) (.v (.str (tx L))) (.v (nI i)) (.v (.str (tx [c1]))))=.nx (fT r x n F (.v (nI w)) (.v (.str (tx L))) (.v (nI i)) (.v (.str (tx [ch r x i (n-1-w)])))):=by
    unfold ch
    by_cases e:r.getD i 0=n-1-w
    ·rw[if_pos e];exact(iC (by rw[tR,decide_eq_true e])).trans ((bC rfl).trans rfl)
    ·rw[if_neg e];exact(uO (by rw[tR,decide_eq_false e])).trans rfl
   refine(ay z1).trans ((ay z2).trans ((ay z3).trans ((bC (d:=.str (tx (L++[ch r x i (n-1-w)]))) ((au (x:=.str (tx L)) (y:=.str (tx [ch r x i (n-1-w)])) rfl rfl).trans ?_)).trans ?_)))
   ·show(if(tx L).length+(tx [ch r x i (n-1-w)]).length<=sizeLine then some (D.str (tx L++tx [ch r x i (n-1-w)])) else none)=_
    rw[if_pos (Nat.le_trans (show _<=900 by rw[cL,cL];simp[L];omega) (by decide)),nM]
   ·have:L++[ch r x i (n-1-w)]=(List.range (i+1)).map λc=>ch r x c (n-1-w):=by
     rw[List.range_succ,List.map_append];rfl
    rw[this];rfl) _ ⟨s5,s6,rfl⟩
 rw[Nat.zero_add] at e;exact⟨s5',s6',(fO (ds:=(List.range n).map nI) (bD (dU (ax rfl rfl) (by omega)))).trans (by rw[List.range_eq_range'];exact e)⟩
include h2
theorem qY:de [jN r x]=some (.str (tx (uz n r x))):=by
 refine cj (kd:=.s) (n:=7) (t:=fU) ?_
 unfold fU;have q1:aN 1 (ai bu (aa (aj bp (ah 0) (am (.int 0))) (af))) (cz 7 [jN r x])=.nx [.v (jN r x),.v (nI n),.no,.no,.no,.no,.no]:=(bC (d:=nI n) ((oZ r _ _ ((au (x:=jN r x) (y:=.int 0) rfl rfl).trans rfl)).trans (by rw[R.len]))).trans rfl
 have q2:dg 2 (bQ (af)) [.v (jN r x),.v (nI n),.no,.no,.no,.no,.no]=.nx (fT r x n [] .no .no .no .no):=(h8 (gH rfl (by simp))).trans rfl
 obtain⟨ρ',e,s3,s4,s5,s6,rfl⟩:=nz (g:=gN 3) (b:=aA (aN 4 (am (.str "")))
 (aA (eO (bI (bS (aa (ah 1) (af)))) (gN 5) (aA (aN 6 (am (.str ".")))
 (aA (cW (bq (aj eV (aj bp (aj bp (ah 0) (am (.int 1))) (ah 5)) (aj cK (aj cK (ah 1) (am (.int 1))) (ah 3)))) (aN 6 (am (.str "x"))) (skip))
 (aA (cW (bq (aj eV (aj bp (aj bp (ah 0) (am (.int 0))) (ah 5)) (aj cK (aj cK (ah 1) (am (.int 1))) (ah 3)))) (aN 6 (am (.str "o"))) (skip))
 (aN 4 (aj gr (ah 4) (ah 6)))))))
 (dE (aG 2 1 iM (bI (aa (ah 4) (af))))))) (P:=λi ρ=> ∃s3 s4 s5 s6,ρ=fT r x n (((List.range i).map λw=>iO n r x (n-1-w)).map λl=>D.str (tx l)) s3 s4 s5 s6) n 0 (λw ρ _ hw hq_=>by
   obtain⟨s3,s4,s5,s6,e⟩:=hq_
   subst e;rw[Nat.zero_add] at hw;obtain⟨s5',s6',le⟩:=xg R X hn (((List.range w).map λw=>iO n r x (n-1-w)).map λl=>D.str (tx l)) w hw s5 s6
   refine⟨fT r x n (((List.range w).map λw=>iO n r x (n-1-w)).map λl=>D.str (tx l)) (.v (nI w)) s4 s5 s6,fT r x n (((List.range (w+1)).map λw=>iO n r x (n-1-w)).map λl=>D.str (tx l)) (.v (nI w)) (.v (.str (tx (iO n r x (n-1-w))))) s5' s6',rfl,?_,_,_,_,_,rfl⟩
   have z1:aN 4 (am (.str "")) (fT r x n (((List.range w).map λw=>iO n r x (n-1-w)).map λl=>D.str (tx l)) (.v (nI w)) s4 s5 s6)=.nx (fT r x n (((List.range w).map λw=>iO n r x (n-1-w)).map λl=>D.str (tx l)) (.v (nI w)) (.v (.str (tx []))) s5 s6):=(bC rfl).trans rfl
   refine(ay z1).trans ((ay le).trans ((Ad (i:=2) (b0:=((List.range w).map λw=>iO n r x (n-1-w)).map λl=>D.str (tx l)) (bs:=((List.range w).map λw=>iO n r x (n-1-w)).map λl=>D.str (tx l)) (d:=.str (tx (iO n r x (n-1-w)))) rfl (bD (ax rfl rfl)) rfl (by simp;omega)).trans ?_))
   rw[List.range_succ,List.map_append,List.map_append];rfl) _ ⟨.no,.no,.no,.no,rfl⟩
 rw[Nat.zero_add] at e;refine⟨_,(ay q1).trans ((ay q2).trans ((ay ((fO (ds:=(List.range n).map nI) (bD (dU (n:=n) (ax rfl rfl) (by omega)))).trans (by rw[List.range_eq_range'];exact e))).trans (bd ((au (x:=.str (tx [47])) (y:=.lst (((List.range n).map λw=>iO n r x (n-1-w)).map λl=>D.str (tx l))) rfl rfl).trans ?_))))⟩
 rw[sJ (B:=6) (λl hl=>by obtain⟨c,_,rfl⟩:=List.mem_map.mp hl;rw[pk];exact hn) (by simp;omega)]
 unfold uz;rw[tO,List.map_map];rfl
end
def wt(L:List (List Nat)):Nat:=(L.map λl=>l.length+1).sum
theorem dN(a:List Nat)(L:List (List Nat)):wt (a::L)=a.length+1+wt L:=by unfold wt;rw[List.map_cons,List.sum_cons]
theorem qf(L M:List (List Nat)):wt (L++M)=wt L+wt M:=by unfold wt;rw[List.map_append,List.sum_append]
theorem rB {L M:List (List Nat)}(h:L.Sublist M):wt L<=wt M:=by
 induction h with
 |slnil=>exact Nat.le_refl _
 |cons a _ ih=>rw[dN];omega
 |cons_cons a _ ih=>rw[dN,dN];omega
theorem zd(L:List (List Nat)):wt L.reverse=wt L:=by
 unfold wt;rw[List.map_reverse];exact(List.reverse_perm _).sum_nat
theorem vI: ∀(L:List (List Nat)),(∀l∈L,l.length=1)->wt L=2*L.length
 | [],_=>rfl
 |a::L,h=>by
  rw[dN,vI L λl hl=>h l (List.mem_cons_of_mem _ hl),h a List.mem_cons_self,List.length_cons];omega
theorem wn {a:List Nat}: ∀ {L:List (List Nat)},a∈L->a.length+1<=wt L
 |b::L,h=>by
  rw[dN];rcases List.mem_cons.mp h with rfl|h
  ·omega
  ·have:=wn h;omega
theorem u0 {s:List Nat}(hs:s.length<=1): ∀(L:List (List Nat)),(gl s L).length<=wt L
 | []=>Nat.zero_le _
 | [a]=>by rw[dN];show a.length<=_;omega
 |a::b::r=>by
  have:=u0 hs (b::r)
  rw[dN];show(a++s++gl s (b::r)).length<=_;rw[List.length_append,List.length_append];omega
theorem v0 {c:Nat}: ∀(L:List (List Nat)),wt L<=(gl [c] L).length+1
 | []=>Nat.zero_le _
 | [a]=>by rw[dN];exact Nat.le_refl _
 |a::b::r=>by
  have:=v0 (c:=c) (b::r)
  rw[dN];show _<=(a++[c]++gl [c] (b::r)).length+1;rw[List.length_append,List.length_append,List.length_singleton];omega
theorem zk(P:List (List Nat))(lo hi:Option Int): ∃L,ue (aU P) lo hi=aU L/\L.Sublist P:=by
 refine⟨(P.drop (HT.sIx P.length 0 lo)).take (HT.sIx P.length P.length hi-HT.sIx P.length 0 lo),?_,(List.take_sublist _ _).trans (List.drop_sublist _ _)⟩
 unfold ue;show((P.map _).drop _).take _=List.map _ _;rw[List.length_map,List.map_take,List.map_drop]
theorem qM {f:FE}{l u:FO}{ρ:aB}{P:List (List Nat)}{lo hi:Option Int}(h1:f ρ=some (.lst (aU P)))(h2:l ρ=some lo)(h3:u ρ=some hi): ∃L,lT f l u ρ=some (.lst (aU L))/\L.Sublist P:=by
 obtain⟨L,e,s⟩:=zk P lo hi
 refine⟨L,?_,s⟩
 unfold lT;rw[h1,Option.bind_some];dsimp only;rw[h2,Option.bind_some,h3,Option.map_some,e]
theorem qU {f:FE}{l u:FO}{ρ:aB}{t:Str}{lo hi:Option Int}(h1:f ρ=some (.str t))(h2:l ρ=some lo)(h3:u ρ=some hi)(hz:t.length<=900): ∃y:Str,nV f l u ρ=some (.str y)/\y.length<=t.length:=by
 refine⟨Txt.slice t lo hi,?_,Txt.slice_le t lo hi⟩
 unfold nV;rw[h1,Option.bind_some,h2,Option.bind_some,h3,Option.bind_some];exact if_pos (Nat.le_trans hz (by decide))
theorem wJ(x y:Str):(x++y).length=x.length+y.length:=by
 rw[pB x,pB y,nM,cL,cL,cL,List.length_append]
theorem kb {f g:FE}{ρ:aB}{x y:Str}(h1:f ρ=some (.str x))(h2:g ρ=some (.str y))(hz:x.length+y.length<=3000): ∃z:Str,aj gr f g ρ=some (.str z)/\z.length=x.length+y.length:=
 ⟨x++y,(au h1 h2).trans (if_pos (Nat.le_trans hz (by decide))),wJ x y⟩
theorem iW {f g:FE}{ρ:aB}{L M:List (List Nat)}(h1:f ρ=some (.lst (aU L)))(h2:g ρ=some (.lst (aU M)))(hz:L.length+M.length<=3000):aj fL f g ρ=some (.lst (aU (L++M))):=by
 refine(au h1 h2).trans ((if_pos (Nat.le_trans (show _<=3000 by rw[List.length_map,List.length_map];exact hz) (by decide))).trans ?_)
 show some (D.lst (L.map _++M.map _))=some (D.lst ((L++M).map _));rw[List.map_append]
theorem pA {c f:FE}{ρ:aB}{s:List Nat}{L:List (List Nat)}(hc:c ρ=some (.str (tx s)))(h:f ρ=some (.lst (aU L)))(hs:s.length<=1)(hl:L.length<=3000)(hb: ∀l∈L,l.length<=900): ∃y:Str,aj iD c f ρ=some (.str y)/\y.length<=wt L:=by
 refine⟨tx (gl s L),(au hc h).trans (sJ (B:=900) hb ?_),by rw[cL];exact u0 hs L⟩
 have:L.length*s.length<=L.length*1:=Nat.mul_le_mul_left _ hs
 omega
abbrev hZ(t s:Str)(w a f A F:Nat)(U:List D)(row:List Nat)(s9:Sl):aB:=[.v (.str t),.v (nI w),.v (nI a),.v (.str s),.v (nI f),.v (nI A),.v (nI F),.own U,.v (.str (tx row)),s9]
theorem BN {P:List (List Nat)}{c:Nat}(h:c<P.length):bp (.lst (aU P)) (nI c)=some (.str (tx (P.getD c []))):=i6 (by rw[List.getElem?_map,List.getElem?_eq_getElem h];simp[List.getD,h])
theorem oq {a m:Nat}(h:0<m):bn (nI a) (nI m)=some (nI (a % m)):=(db (by omega)).trans (by show some (D.int _)=some (D.int _);congr 2)
theorem i9 {P:List (List Nat)}{c:Nat}(h:c<P.length):P.getD c []∈P:=by
 rw[List.getD_eq_getElem?_getD,List.getElem?_eq_getElem h];exact List.getElem_mem h
theorem xI(t s:Str)(w a f:Nat)(h0:0<t.length)(h1:t.length<=200)(hs:s.length=1): ∃y:Str,fz [.str t,nI w,nI a,.str s,nI f]=some (.str y)/\y.length<=3*(t.length+1):=by
 obtain⟨P,es,ht,l1,l2⟩:=oC t (Nat.le_refl _) (by omega)
 have hP:0<P.length:=by
  cases P with
  |nil=>
   have:t.cps.toList.length=0:=by rw[<-ht];rfl
   rw[Array.length_toList] at this;have:t.length=0:=this
   omega
  |cons a b=>exact Nat.zero_lt_succ _
 have wP:wt P<=t.length+1:=by
  have:=v0 (c:=47) P
  rw[ht,Array.length_toList] at this;exact this
 obtain⟨A,hA⟩: ∃A,A=a % t.length:=⟨_,rfl⟩
 obtain⟨F,hF⟩: ∃F,F=f % t.length:=⟨_,rfl⟩
 have A1:A<t.length:=by rw[hA];exact Nat.mod_lt _ h0
 have F1:F<t.length:=by rw[hF];exact Nat.mod_lt _ h0
 obtain⟨row,hrow⟩: ∃r,r=P.getD (f % P.length) []:=⟨_,rfl⟩
 have row1:row∈P:=by rw[hrow];exact i9 (Nat.mod_lt _ hP)
 have lt: ∀ρ:aB,ah 0 ρ=some (.str t)->ai eX (aa (ah 0) (af)) ρ=some (nI t.length):=λρ h=>(aS (ds:=[.str t]) (ax h rfl)).trans (if_pos (Nat.le_trans h1 (by decide)))
 have lP: ∀ρ:aB,bJ 7 ρ=some (.lst (aU P))->ai bu (aa (bJ 7) (af)) ρ=some (nI P.length):=λρ h=>(aS (ds:=[.lst (aU P)]) (ax h rfl)).trans (by show some (D.int ((aU P).length:Int))=_;rw[List.length_map])
 have z1:aN 5 (aj bn (ah 2) (ai eX (aa (ah 0) (af)))) (cz 10 [.str t,nI w,nI a,.str s,nI f])=.nx [.v (.str t),.v (nI w),.v (nI a),.v (.str s),.v (nI f),.v (nI A),.no,.no,.no,.no]:=(bC (d:=nI A) ((au (x:=nI a) rfl (lt _ rfl)).trans (by rw[hA];exact oq h0))).trans rfl
 have z2:aN 6 (aj bn (ah 4) (ai eX (aa (ah 0) (af)))) [.v (.str t),.v (nI w),.v (nI a),.v (.str s),.v (nI f),.v (nI A),.no,.no,.no,.no]=.nx [.v (.str t),.v (nI w),.v (nI a),.v (.str s),.v (nI f),.v (nI A),.v (nI F),.no,.no,.no]:=(bC (d:=nI F) ((au (x:=nI f) rfl (lt _ rfl)).trans (by rw[hF];exact oq h0))).trans rfl
 have z3:dg 7 (aj jm (ah 0) (am (.str "/"))) [.v (.str t),.v (nI w),.v (nI a),.v (.str s),.v (nI f),.v (nI A),.v (nI F),.no,.no,.no]=.nx [.v (.str t),.v (nI w),.v (nI a),.v (.str s),.v (nI f),.v (nI A),.v (nI F),.own (aU P),.no,.no]:=(h8 ((au (x:=.str t) (y:=.str (tx [47])) rfl rfl).trans es)).trans rfl
 have z4:aN 8 (aj bp (bJ 7) (aj bn (ah 4) (ai bu (aa (bJ 7) (af))))) [.v (.str t),.v (nI w),.v (nI a),.v (.str s),.v (nI f),.v (nI A),.v (nI F),.own (aU P),.no,.no]=.nx (hZ t s w a f A F (aU P) row .no):=(bC (d:=.str (tx row)) ((au (x:=.lst (aU P)) rfl ((au (x:=nI f) rfl (lP _ rfl)).trans (oq hP))).trans (by rw[hrow];exact BN (Nat.mod_lt _ hP)))).trans rfl
 have br: ∀(i:Nat) (g u:FS),(∃y:Str,(∃ρ',g (hZ t s w a f A F (aU P) row .no)=.rt (.str y) ρ')/\y.length<=3*(t.length+1))->(∃y:Str,(∃ρ',u (hZ t s w a f A F (aU P) row .no)=.rt (.str y) ρ')/\y.length<=3*(t.length+1))-> ∃y:Str,(∃ρ',aA (cW (bq (aj eV (ah 1) (am (nI i)))) g skip) u (hZ t s w a f A F (aU P) row .no)=.rt (.str y) ρ')/\y.length<=3*(t.length+1):=λi g u hg hu=>by
  have p:bq (aj eV (ah 1) (am (nI i))) (hZ t s w a f A F (aU P) row .no)=some (decide (w=i)):=mR (a:=w) (b:=i) rfl rfl
  by_cases e:w=i
  ·rw[decide_eq_true e] at p
   obtain⟨y,⟨ρ',e1⟩,e2⟩:=hg
   exact⟨y,⟨ρ',iJ ((iC p).trans e1)⟩,e2⟩
  ·rw[decide_eq_false e] at p
   obtain⟨y,⟨ρ',e1⟩,e2⟩:=hu
   exact⟨y,⟨ρ',(ay (cB p)).trans e1⟩,e2⟩
 have five: ∀s9,ah 5 (hZ t s w a f A F (aU P) row s9)=some (nI A):=λ_=>rfl
 have toA:kl (ah 5) (hZ t s w a f A F (aU P) row .no)=some (some (A:Int)):=rfl
 have toA1:kl (aj bw (ah 5) (am (.int 1))) (hZ t s w a f A F (aU P) row .no)=some (some ((A:Int)+1)):=by
  unfold kl;rw[(au (F:=bw) (x:=nI A) (y:=.int 1) rfl rfl).trans (df _ _)];rfl
 have toM: ∃o,kl (aj bn (ah 2) (ai bu (aa (bJ 7) (af)))) (hZ t s w a f A F (aU P) row .no)=some o:=by
  unfold kl;rw[(au (F:=bn) (x:=nI a) rfl (lP _ rfl)).trans (oq hP)];exact⟨_,rfl⟩
 have toM1: ∃o,kl (aj bw (aj bn (ah 2) (ai bu (aa (bJ 7) (af)))) (am (.int 1))) (hZ t s w a f A F (aU P) row .no)=some o:=by
  unfold kl;rw[(au (F:=bw) ((au (F:=bn) (x:=nI a) rfl (lP _ rfl)).trans (oq hP)) (y:=.int 1) rfl).trans (df _ _)];exact⟨_,rfl⟩
 obtain⟨oM,toM⟩:=toM
 obtain⟨oM1,toM1⟩:=toM1
 obtain⟨a1,ea1,ka1⟩:=qU (f:=ah 0) (l:=nQ) (u:=kl (ah 5)) (ρ:=hZ t s w a f A F (aU P) row .no) (t:=t) rfl rfl toA (by omega)
 obtain⟨a2,ea2,ka2⟩:=qU (f:=ah 0) (l:=kl (ah 5)) (u:=nQ) (ρ:=hZ t s w a f A F (aU P) row .no) (t:=t) rfl toA rfl (by omega)
 obtain⟨a3,ea3,ka3⟩:=qU (f:=ah 0) (l:=kl (aj bw (ah 5) (am (.int 1)))) (u:=nQ) (ρ:=hZ t s w a f A F (aU P) row .no) (t:=t) rfl toA1 rfl (by omega)
 obtain⟨b1,eb1,kb1⟩:=kb ea1 (g:=ah 3) (y:=s) rfl (by omega)
 obtain⟨c1,ec1,kc1⟩:=kb eb1 ea2 (by omega)
 obtain⟨c2,ec2,kc2⟩:=kb eb1 ea3 (by omega)
 obtain⟨c3,ec3,kc3⟩:=kb ea1 ea3 (by omega)
 obtain⟨L1,eL1,kL1⟩:=qM (f:=bJ 7) (l:=nQ) (ρ:=hZ t s w a f A F (aU P) row .no) (P:=P) rfl rfl toM
 obtain⟨L2,eL2,kL2⟩:=qM (f:=bJ 7) (u:=nQ) (ρ:=hZ t s w a f A F (aU P) row .no) (P:=P) rfl toM rfl
 obtain⟨L3,eL3,kL3⟩:=qM (f:=bJ 7) (u:=nQ) (ρ:=hZ t s w a f A F (aU P) row .no) (P:=P) rfl toM1 rfl
 have eR:bQ (aa (ah 8) (af)) (hZ t s w a f A F (aU P) row .no)=some (.lst (aU [row])):=gH (ds:=aU [row]) rfl (by show 1<=1000;omega)
 have n1:=kL1.length_le
 have n2:=kL2.length_le
 have n3:=kL3.length_le
 have w1:=rB kL1
 have w2:=rB kL2
 have w3:=rB kL3
 have wr:=wn row1
 have wr1:wt [row]=row.length+1:=by rw[dN];rfl
 have m1: ∀l∈L1,l.length<=900:=λl h=>by have:=l2 l (kL1.mem h);omega
 have m2: ∀l∈L2,l.length<=900:=λl h=>by have:=l2 l (kL2.mem h);omega
 have m3: ∀l∈L3,l.length<=900:=λl h=>by have:=l2 l (kL3.mem h);omega
 have mr: ∀l∈[row],l.length<=900:=λl h=>by rw[List.mem_singleton] at h;subst h;have:=l2 _ row1;omega
 have mA: ∀ {L M:List (List Nat)},(∀l∈L,l.length<=900)->(∀l∈M,l.length<=900)-> ∀l∈L++M,l.length<=900:=λ{L M} u v l h=>by
  rcases List.mem_append.mp h with h|h
  ·exact u l h
  ·exact v l h
 have q4:=iW (iW eL1 eR (by simp;omega)) eL2 (by simp;omega)
 have q5:=iW eL1 eL3 (by omega)
 have q6:=iW (iW eL1 eR (by simp;omega)) eL3 (by simp;omega)
 obtain⟨y4,j4,k4⟩:=pA (c:=am (.str "/")) (s:=[47]) rfl q4 (by decide) (by simp;omega) (mA (mA m1 mr) m2)
 obtain⟨y5,j5,k5⟩:=pA (c:=am (.str "/")) (s:=[47]) rfl q5 (by decide) (by simp;omega) (mA m1 m3)
 obtain⟨y6,j6,k6⟩:=pA (c:=am (.str "/")) (s:=[47]) rfl q6 (by decide) (by simp;omega) (mA (mA m1 mr) m3)
 rw[qf,qf] at k4 k6;rw[qf] at k5;have main: ∃y:Str,(∃ρ',gC (cz 10 [.str t,nI w,nI a,.str s,nI f])=.rt (.str y) ρ')/\y.length<=3*(t.length+1):=by
  have pre: ∀ {u:FS},(aA (aN 5 (aj bn (ah 2) (ai eX (aa (ah 0) (af))))) (aA (aN 6 (aj bn (ah 4) (ai eX (aa (ah 0) (af))))) (aA (dg 7 (aj jm (ah 0) (am (.str "/")))) (aA (aN 8 (aj bp (bJ 7) (aj bn (ah 4) (ai bu (aa (bJ 7) (af)))))) u)))) (cz 10 [.str t,nI w,nI a,.str s,nI f])=u (hZ t s w a f A F (aU P) row .no):=λ{u}=>(ay z1).trans ((ay z2).trans ((ay z3).trans (ay z4)))
  unfold gC;rw[pre];refine br 0 _ _ ⟨c1,⟨_,bd ec1⟩,by omega⟩ (br 1 _ _ ⟨c2,⟨_,bd ec2⟩,by omega⟩ (br 2 _ _ ⟨c3,⟨_,bd ec3⟩,by omega⟩ (br 3 _ _ ?_ (br 4 _ _ ⟨y4,⟨_,bd j4⟩,by omega⟩ (br 5 _ _ ⟨y5,⟨_,bd j5⟩,by omega⟩ (br 6 _ _ ⟨y6,⟨_,bd j6⟩,by omega⟩ ?_))))))
  ·
   obtain⟨S,hS⟩: ∃S:List (List Nat),S=t.cps.toList.map λc=>[c]:=⟨_,rfl⟩
   have lS:S.length=t.length:=by rw[hS,List.length_map,Array.length_toList];rfl
   have oS: ∀l∈S,l.length=1:=λl h=>by rw[hS] at h;obtain⟨c,_,rfl⟩:=List.mem_map.mp h;rfl
   have uS:(lJ t).map D.str=aU S:=by rw[hS];unfold lJ aU;rw[List.map_map,List.map_map];rfl
   have y1:dg 9 (ai nO (aa (ah 0) (af))) (hZ t s w a f A F (aU P) row .no)=.nx (hZ t s w a f A F (aU P) row (.own (aU S))):=(h8 (ds:=aU S) ((aS (ds:=[.str t]) rfl).trans ((if_pos (Nat.le_trans h1 (by decide))).trans (by rw[uS])))).trans rfl
   let X:=(S.set A (S.getD F [])).set F (S.getD A [])
   have y2:fG (gT 2 (lw (ci 9 (ah 5)) (lw (ci 9 (ah 6)) (qa)))) (pu (dZ (aa (aj bp (bJ 9) (ah 6)) (aa (aj bp (bJ 9) (ah 5)) (af))))) (hZ t s w a f A F (aU P) row (.own (aU S)))=.nx (hZ t s w a f A F (aU P) row (.own (aU X))):=by
    refine va (d:=.tup [.str (tx (S.getD F [])),.str (tx (S.getD A []))]) (pU (ik (ax ((au (x:=.lst (aU S)) (y:=nI F) rfl rfl).trans (BN (by omega))) (ax ((au (x:=.lst (aU S)) (y:=nI A) rfl rfl).trans (BN (by omega))) rfl)) (by simp))) ?_
    have i1:ci 9 (ah 5) (.str (tx (S.getD F []))) (hZ t s w a f A F (aU P) row (.own (aU S)))=some (hZ t s w a f A F (aU P) row (.own (aU (S.set A (S.getD F []))))):=by
     show(match oj (aU S).length (A:Int) with|some m=>some (fy 9 ((aU S).set m (.str (tx (S.getD F [])))) (hZ t s w a f A F (aU P) row (.own (aU S))))|none=>none)=_
     rw[fH (by rw[List.length_map];omega)]
     show some (hZ t s w a f A F (aU P) row (.own ((S.map _).set A _)))=_;rw[<-List.map_set]
    have i2:ci 9 (ah 6) (.str (tx (S.getD A []))) (hZ t s w a f A F (aU P) row (.own (aU (S.set A (S.getD F [])))))=some (hZ t s w a f A F (aU P) row (.own (aU X))):=by
     show(match oj (aU (S.set A (S.getD F []))).length (F:Int) with|some m=>some (fy 9 ((aU (S.set A (S.getD F []))).set m (.str (tx (S.getD A [])))) (hZ t s w a f A F (aU P) row (.own (aU (S.set A (S.getD F []))))))|none=>none)=_
     rw[fH (by rw[List.length_map,List.length_set];omega)]
     show some (hZ t s w a f A F (aU P) row (.own (((S.set A (S.getD F [])).map _).set F _)))=_;rw[<-List.map_set]
    show(if 2=2 then lw (ci 9 (ah 5)) (lw (ci 9 (ah 6)) qa) [.str (tx (S.getD F [])),.str (tx (S.getD A []))] _ else none)=_
    rw[if_pos rfl];unfold lw;dsimp only;rw[i1,Option.bind_some,i2,Option.bind_some];rfl
   have oX: ∀l∈X,l.length=1:=λl h=>by
    rcases List.mem_or_eq_of_mem_set h with h|rfl
    ·rcases List.mem_or_eq_of_mem_set h with h|rfl
     ·exact oS l h
     ·exact oS _ (i9 (by omega))
    ·exact oS _ (i9 (by omega))
   have lX:X.length=t.length:=by show((S.set A _).set F _).length=_;rw[List.length_set,List.length_set,lS]
   obtain⟨y,jy,ky⟩:=pA (c:=am (.str "")) (f:=bJ 9) (ρ:=hZ t s w a f A F (aU P) row (.own (aU X))) (s:=[]) (L:=X) rfl rfl (by decide) (by omega) (λl h=>by have:=oX l h;omega)
   rw[vI X oX,lX] at ky;exact⟨y,⟨_,(ay y1).trans ((ay y2).trans (bd jy))⟩,by omega⟩
  ·
   have v1:dE (aG 7 0 kX (bI af)) (hZ t s w a f A F (aU P) row .no)=.nx (hZ t s w a f A F (aU P.reverse) row .no):=(gO (bh (i:=7) (n:=0) (M:=kX) (ds:=[]) (bs:=aU P) (bs':=aU P.reverse) (d:=.non) rfl (bD rfl) rfl rfl (by show some (D.non,(P.map _).reverse)=some (D.non,P.reverse.map _);rw[List.map_reverse]))).trans rfl
   obtain⟨y,jy,ky⟩:=pA (c:=am (.str "/")) (f:=bJ 7) (ρ:=hZ t s w a f A F (aU P.reverse) row .no) (s:=[47]) (L:=P.reverse) rfl rfl (by decide) (by rw[List.length_reverse];omega) (λl h=>by have:=l2 l (List.mem_reverse.mp h);omega)
   rw[zd] at ky;exact⟨y,⟨_,(ay v1).trans (bd jy)⟩,by omega⟩
 obtain⟨y,⟨ρ',e⟩,k⟩:=main
 exact⟨y,cj (kd:=.s) (n:=10) (t:=gC) ⟨ρ',e⟩,k⟩
theorem sq {f:GA}{ρ ρ1:aB}{ds:List D}(h:f ρ=some (ds,ρ1))(h2:ds.length<=1000):nZ f ρ=some (.lst ds,ρ1):=by
 rw[xv,h,Option.bind_some];exact cU h2
theorem jT {N:Nat}{a b:Int}{m:Nat}(B:Bag N a b)(hN:N<=1000000000)(hm:0<m)(hm2:m<=1000): ∃(d:Nat) (a' b':Int),aC (aJ a b) [nI m]=some (nI d,aJ a' b')/\Bag (N+1) a' b'/\d<m:=by
 obtain⟨d,a1,b1,e,B1,d0,d1⟩:=ke (m:=(m:Int)) B hN (by omega) (Nat.lt_of_lt_of_le (show((m:Int)).natAbs<10^10 by omega) (by decide))
 exact⟨d.toNat,a1,b1,by rw[<-Dv d0];exact e,B1,by omega⟩
abbrev gG(bg:List D)(z:Str)(w p k t:Sl)(s6 s7:Sl):aB:=[.arg bg,.v (.str z),w,p,k,t,s6,s7]
theorem zt {N:Nat}{a b:Int}(B:Bag N a b)(hN:N<=1000)(z:Str)(W:D): ∃(p0 p1 p2 p3:Nat) (a' b':Int),Bag (N+4) a' b'/\
 gW 1 (bI (bS (aa (am (.int 4)) (af)))) (gN 8) (bT) (aG 0 1 aC (bI (aa (am (.int 60)) (af)))) (gG (aJ a b) z (.v W) .no .no .no .no .no)=some (.lst ([p0,p1,p2,p3].map nI),gG (aJ a' b') z (.v W) .no .no .no .no .no):=by
 have step: ∀ {N:Nat} {a b:Int} (B:Bag N a b) (hN:N<=2000) (k:Nat) (l:List D),∃(w:Nat) (a' b':Int),Bag (N+1) a' b'/\
  eF (gN 8) (bT) (aG 0 1 aC (bI (aa (am (.int 60)) (af)))) (nI k::l) (gG (aJ a b) z (.v W) .no .no .no .no .no++[.no])=(eF (gN 8) (bT) (aG 0 1 aC (bI (aa (am (.int 60)) (af)))) l (gG (aJ a' b') z (.v W) .no .no .no .no .no++[.no])).map λz=>(nI w::z.1,z.2):=by
  intro N a b B hN k l;obtain⟨d,a1,b1,e1,B1,d1⟩:=jT (m:=60) B (by omega) (by decide) (by decide)
  refine⟨d,a1,b1,B1,?_⟩
  have hf:aG 0 1 aC (bI (aa (am (.int 60)) (af))) (gG (aJ a b) z (.v W) .no .no .no .no .no++[.v (nI k)])=some (nI d,gG (aJ a1 b1) z (.v W) .no .no .no .no .no++[.v (nI k)]):=
   bh (i:=0) (n:=1) (b0:=aJ a b) (ds:=[.int 60]) rfl (bD rfl) rfl rfl e1
  conv=>lhs;unfold eF
  rw[show gN 8 (nI k) (gG (aJ a b) z (.v W) .no .no .no .no .no++[.no])=some (gG (aJ a b) z (.v W) .no .no .no .no .no++[.v (nI k)]) from rfl,Option.bind_some,
   show bT (gG (aJ a b) z (.v W) .no .no .no .no .no++[.v (nI k)])=some true from rfl,Option.bind_some,if_pos rfl,hf,Option.bind_some,if_pos (by rfl)]
  rw[show lm (gG (aJ a b) z (.v W) .no .no .no .no .no++[.no]) (gG (aJ a1 b1) z (.v W) .no .no .no .no .no++[.v (nI k)])=some (gG (aJ a1 b1) z (.v W) .no .no .no .no .no++[.no]) from rfl,Option.bind_some]
 obtain⟨w0,a0,b0,B0,e0⟩:=step B (by omega) 0 [nI 1,nI 2,nI 3]
 obtain⟨w1,a1,b1,B1,e1⟩:=step B0 (by omega) 1 [nI 2,nI 3]
 obtain⟨w2,a2,b2,B2,e2⟩:=step B1 (by omega) 2 [nI 3]
 obtain⟨w3,a3,b3,B3,e3⟩:=step B2 (by omega) 3 []
 refine⟨w0,w1,w2,w3,a3,b3,by rw[show N+4=N+1+1+1+1 by omega];exact B3,?_⟩
 unfold gW;rw[bD (dU (n:=4) (ax rfl rfl) (by omega)),Option.bind_some]
 dsimp only;rw[if_pos (by simp;decide)]
 have:eF (gN 8) (bT) (aG 0 1 aC (bI (aa (am (.int 60)) (af)))) ((List.range 4).map nI) (gG (aJ a b) z (.v W) .no .no .no .no .no++List.replicate 1 .no)=some ([w0,w1,w2,w3].map nI,gG (aJ a3 b3) z (.v W) .no .no .no .no .no++[.no]):=by
  show eF (gN 8) (bT) (aG 0 1 aC (bI (aa (am (.int 60)) (af)))) [nI 0,nI 1,nI 2,nI 3] (gG (aJ a b) z (.v W) .no .no .no .no .no++[.no])=_;rw[e0,e1,e2,e3];rfl
 rw[this,Option.bind_some];rfl
theorem Dw(t:Str): ∃b:Bool,gM (.str t) (.str (tx []))=some (.bl b)/\(b=true->0<t.length):=by
 refine⟨!cC (.str t) (.str (tx [])),fS (by unfold dG;omega),λh=>?_⟩
 refine Nat.pos_of_ne_zero λe=>?_
 have:t=tx []:=by
  rw[pB t];congr 1
  exact List.eq_nil_of_length_eq_zero (by rw[Array.length_toList];exact e)
 rw[this,gQ] at h;cases h
theorem sR {bg:List D}{z:Str}(hz:z.cps.toList.length=93){W Pl Kd:List Nat}(hW:W.length=2)(hP:Pl.length=4)(hK:Kd.length=4)(hk: ∀k,k<2->Kd.getD (2*k) 0<4/\Kd.getD (2*k+1) 0<93)(k:Nat)(k2:k<2)(t:Str)(ht:t.length<=200)(s7:Sl):
 ∃(t':Str) (s7':Sl),t'.length<=3*(t.length+1)/\(aA (aN 7 (aj bp (bQ (aa (am (.str "o")) (aa (am (.str "x")) (aa (am (.str ".")) (aa (aj jX (ah 1) (aj bp (ah 4) (aj bw (aj bH (am (.int 2)) (ah 6)) (am (.int 1))))) (af)))))) (aj bp (ah 4) (aj bH (am (.int 2)) (ah 6)))))
 (cW (gR (bq (aj Aq (aj bp (ah 2) (ah 6)) (am (.int 8)))) (bq (aj gM (ah 5) (am (.str ""))))) (aN 5 (ai (nF 5 fz) (aa (ah 5) (aa (aj bp (ah 2) (ah 6)) (aa (aj bp (ah 3) (aj bH (am (.int 2)) (ah 6))) (aa (ah 7) (aa (aj bp (ah 3) (aj bw (aj bH (am (.int 2)) (ah 6)) (am (.int 1)))) (af)))))))) (skip))) (gG bg z (.v (.lst (W.map nI))) (.v (.lst (Pl.map nI))) (.v (.lst (Kd.map nI))) (.v (.str t)) (.v (nI k)) s7)=.nx (gG bg z (.v (.lst (W.map nI))) (.v (.lst (Pl.map nI))) (.v (.lst (Kd.map nI))) (.v (.str t')) (.v (nI k)) s7'):=by
 have small:((k:Int)).natAbs<10^200:=Nat.lt_of_lt_of_le (show((k:Int)).natAbs<10 by omega) (by decide)
 have e2k: ∀s7,aj bH (am (.int 2)) (ah 6) (gG bg z (.v (.lst (W.map nI))) (.v (.lst (Pl.map nI))) (.v (.lst (Kd.map nI))) (.v (.str t)) (.v (nI k)) s7)=some (nI (2*k)):=λs7=>((au (x:=.int 2) (y:=nI k) rfl rfl).trans (dS (by decide) small)).trans (by show some (D.int _)=some (D.int _);congr 2)
 have e2k1: ∀s7,aj bw (aj bH (am (.int 2)) (ah 6)) (am (.int 1)) (gG bg z (.v (.lst (W.map nI))) (.v (.lst (Pl.map nI))) (.v (.lst (Kd.map nI))) (.v (.str t)) (.v (nI k)) s7)=some (nI (2*k+1)):=λs7=>((au (e2k s7) (y:=.int 1) rfl).trans (df _ _)).trans (by show some (D.int _)=some (D.int _);congr 2)
 obtain⟨hk1,hk2⟩:=hk k k2
 have kd1:aj bp (ah 4) (aj bH (am (.int 2)) (ah 6)) (gG bg z (.v (.lst (W.map nI))) (.v (.lst (Pl.map nI))) (.v (.lst (Kd.map nI))) (.v (.str t)) (.v (nI k)) s7)=some (nI (Kd.getD (2*k) 0)):=(au (x:=.lst (Kd.map nI)) rfl (e2k s7)).trans (jR (by omega))
 have kd2:aj bp (ah 4) (aj bw (aj bH (am (.int 2)) (ah 6)) (am (.int 1))) (gG bg z (.v (.lst (W.map nI))) (.v (.lst (Pl.map nI))) (.v (.lst (Kd.map nI))) (.v (.str t)) (.v (nI k)) s7)=some (nI (Kd.getD (2*k+1) 0)):=(au (x:=.lst (Kd.map nI)) rfl (e2k1 s7)).trans (jR (by omega))
 generalize Kd.getD (2*k) 0=u at kd1 hk1
 generalize Kd.getD (2*k+1) 0=v at kd2 hk2
 obtain⟨c,sg⟩: ∃c:Nat,jX (.str z) (nI v)=some (.str (tx [c])):=by
  refine⟨z.cps.toList[v]'(by omega),?_⟩
  show(if z.length<=sizeLine then(ju z.cps.toList (v:Int)).map λc=>D.str ⟨#[c]⟩ else none)=_
  have:z.length=93:=by rw[<-hz,Array.length_toList];rfl
  rw[if_pos (by rw[this];decide),i6 (v:=z.cps.toList[v]'(by omega)) (List.getElem?_eq_getElem (by omega))]
  rfl
 have ls:bQ (aa (am (.str "o")) (aa (am (.str "x")) (aa (am (.str ".")) (aa (aj jX (ah 1) (aj bp (ah 4) (aj bw (aj bH (am (.int 2)) (ah 6)) (am (.int 1))))) (af))))) (gG bg z (.v (.lst (W.map nI))) (.v (.lst (Pl.map nI))) (.v (.lst (Kd.map nI))) (.v (.str t)) (.v (nI k)) s7)=some (.lst (aU [[111],[120],[46],[c]])):=
  gH (ds:=aU [[111],[120],[46],[c]]) (ax rfl (ax rfl (ax rfl (ax ((au (x:=.str z) rfl kd2).trans sg) rfl)))) (by show 4<=1000;omega)
 obtain⟨g,hg,sgn⟩: ∃g:Str,g.length=1/\bp (.lst (aU [[111],[120],[46],[c]])) (nI u)=some (.str g):=by
  refine⟨_,?_,BN (by show u<4;exact hk1)⟩
  rw[cL];have:=i9 (P:=[[111],[120],[46],[c]]) (c:=u) (by show u<4;exact hk1)
  generalize List.getD [[111],[120],[46],[c]] u []=q at this
  simp only[List.mem_cons,List.not_mem_nil,or_false] at this;rcases this with rfl|rfl|rfl|rfl<;>rfl
 have q1:aN 7 (aj bp (bQ (aa (am (.str "o")) (aa (am (.str "x")) (aa (am (.str ".")) (aa (aj jX (ah 1) (aj bp (ah 4) (aj bw (aj bH (am (.int 2)) (ah 6)) (am (.int 1))))) (af)))))) (aj bp (ah 4) (aj bH (am (.int 2)) (ah 6)))) (gG bg z (.v (.lst (W.map nI))) (.v (.lst (Pl.map nI))) (.v (.lst (Kd.map nI))) (.v (.str t)) (.v (nI k)) s7)=.nx (gG bg z (.v (.lst (W.map nI))) (.v (.lst (Pl.map nI))) (.v (.lst (Kd.map nI))) (.v (.str t)) (.v (nI k)) (.v (.str g))):=(bC ((au ls kd1).trans sgn)).trans rfl
 obtain⟨b,ne,hb⟩:=Dw t
 have wk:aj bp (ah 2) (ah 6) (gG bg z (.v (.lst (W.map nI))) (.v (.lst (Pl.map nI))) (.v (.lst (Kd.map nI))) (.v (.str t)) (.v (nI k)) (.v (.str g)))=some (nI (W.getD k 0)):=(au (x:=.lst (W.map nI)) (y:=nI k) rfl rfl).trans (jR (by omega))
 have cd:gR (bq (aj Aq (aj bp (ah 2) (ah 6)) (am (.int 8)))) (bq (aj gM (ah 5) (am (.str "")))) (gG bg z (.v (.lst (W.map nI))) (.v (.lst (Pl.map nI))) (.v (.lst (Kd.map nI))) (.v (.str t)) (.v (nI k)) (.v (.str g)))=some (decide (((W.getD k 0:Nat):Int)<8)&&b):=kv (cN ((au wk (y:=.int 8) rfl).trans (nH _ _))) (cN ((au (x:=.str t) (y:=.str (tx [])) rfl rfl).trans ne))
 by_cases h:(decide (((W.getD k 0:Nat):Int)<8)&&b)=true
 ·rw[h] at cd
  obtain⟨y,ey,ky⟩:=xI t g (W.getD k 0) (Pl.getD (2*k) 0) (Pl.getD (2*k+1) 0) (hb (Bool.and_eq_true_iff.mp h).2) ht hg
  refine⟨y,.v (.str g),ky,(ay q1).trans ((iC cd).trans ((bC ((eW (ds:=[.str t,nI (W.getD k 0),nI (Pl.getD (2*k) 0),.str g,nI (Pl.getD (2*k+1) 0)]) (ax rfl (ax wk (ax ((au (x:=.lst (Pl.map nI)) rfl (e2k _)).trans (jR (by omega))) (ax rfl (ax ((au (x:=.lst (Pl.map nI)) rfl (e2k1 _)).trans (jR (by omega))) rfl))))) rfl).trans ey)).trans rfl))⟩
 ·rw[Bool.not_eq_true] at h
  rw[h] at cd;exact⟨t,.v (.str g),by omega,(ay q1).trans (cB cd)⟩
theorem tB:((" !#$&'()*+,-./0123456789:;<=>?@ABCDEFGHIJKLMNOPQRSTUVWXYZ[]^_`abcdefghijklmnopqrstuvwxyz{|}~\n":Str)).cps.toList.length=93:=by kernel_rfl
theorem wz {n:Nat}(r x:List Nat)(hn:n<=6):(uz n r x).length<=42:=by
 unfold uz;refine Nat.le_trans (u0 (by decide) _) ?_
 have: ∀L:List (List Nat),(∀l∈L,l.length=n)->wt L=L.length*(n+1):=by
  intro L
  induction L with
  |nil=>intro _;rw[List.length_nil,Nat.zero_mul];rfl
  |cons a L ih=>intro h;rw[dN,ih λl hl=>h l (List.mem_cons_of_mem _ hl),h a List.mem_cons_self,List.length_cons,Nat.succ_mul];omega
 rw[this _ λl hl=>by obtain⟨y,_,rfl⟩:=List.mem_map.mp hl;exact pk _ _ _ _,List.length_map,List.length_reverse,List.length_range]
 exact Nat.mul_le_mul hn (Nat.succ_le_succ hn)
theorem vi {N:Nat}{a b:Int}(B:Bag N a b)(hN:N<=100): ∃(t:Str) (bg:List D),fx (aJ a b) []=some (.str t,bg)/\t.length<=800:=by
 obtain⟨z,hz,ez⟩: ∃z:Str,z.cps.toList.length=93/\z=" !#$&'()*+,-./0123456789:;<=>?@ABCDEFGHIJKLMNOPQRSTUVWXYZ[]^_`abcdefghijklmnopqrstuvwxyz{|}~\n":=⟨_,tB,rfl⟩
 obtain⟨w0,a1,b1,e1,B1,_⟩:=jT (m:=8) B (by omega) (by decide) (by decide)
 obtain⟨w1,a2,b2,e2,B2,_⟩:=jT (m:=12) B1 (by omega) (by decide) (by decide)
 obtain⟨p0,p1,p2,p3,a3,b3,B3,e3⟩:=zt B2 (by omega) z (.lst ([w0,w1].map nI))
 obtain⟨k0,a4,b4,e4,B4,c0⟩:=jT (m:=4) B3 (by omega) (by decide) (by decide)
 obtain⟨k1,a5,b5,e5,B5,c1⟩:=jT (m:=93) B4 (by omega) (by decide) (by decide)
 obtain⟨k2,a6,b6,e6,B6,c2⟩:=jT (m:=4) B5 (by omega) (by decide) (by decide)
 obtain⟨k3,a7,b7,e7,B7,c3⟩:=jT (m:=93) B6 (by omega) (by decide) (by decide)
 obtain⟨d1,a8,b8,e8,B8,c8⟩:=jT (m:=5) B7 (by omega) (by decide) (by decide)
 obtain⟨m,hm,hm1,hm2⟩: ∃m:Nat,bw (.int 2) (nI d1)=some (nI m)/\2<=m/\m<=6:=⟨2+d1,(df _ _).trans (by show some (D.int _)=some (D.int _);congr 2),by omega,by omega⟩
 obtain⟨r,x,a9,b9,e9,S,B9⟩:=rq B8 (n:=m) hm1 hm2 (by omega)
 have wr:=qY S.hr S.hx hm1 hm2
 obtain⟨t0,ht0,lt0⟩: ∃t:Str,t=tx (uz m r x)/\t.length<=42:=⟨_,rfl,by rw[cL];exact wz r x hm2⟩
 rw[<-ht0] at wr;have s1:aN 1 (am (.str z)) (kS 8 (aJ a b) [])=.nx (gG (aJ a b) z .no .no .no .no .no .no):=(bC rfl).trans rfl
 have s2:fB 2 (nZ (ce (aG 0 1 aC (bI (aa (am (.int 8)) (af)))) (ce (aG 0 1 aC (bI (aa (am (.int 12)) (af)))) (bI (af))))) (gG (aJ a b) z .no .no .no .no .no .no)=.nx (gG (aJ a2 b2) z (.v (.lst ([w0,w1].map nI))) .no .no .no .no .no):=(gF (sq (ds:=[w0,w1].map nI) (dc (bh (i:=0) (n:=1) (b0:=aJ a b) (ds:=[.int 8]) rfl (bD rfl) rfl rfl e1) (dc (bh (i:=0) (n:=1) (b0:=aJ a1 b1) (ds:=[.int 12]) rfl (bD rfl) rfl rfl e2) rfl)) (by show 2<=1000;omega))).trans rfl
 have s3:fB 3 (gW 1 (bI (bS (aa (am (.int 4)) (af)))) (gN 8) (bT) (aG 0 1 aC (bI (aa (am (.int 60)) (af))))) (gG (aJ a2 b2) z (.v (.lst ([w0,w1].map nI))) .no .no .no .no .no)=.nx (gG (aJ a3 b3) z (.v (.lst ([w0,w1].map nI))) (.v (.lst ([p0,p1,p2,p3].map nI))) .no .no .no .no):=(gF e3).trans rfl
 have s4:fB 4 (nZ (ce (aG 0 1 aC (bI (aa (am (.int 4)) (af)))) (ce (aG 0 1 aC (bI (aa (am (.int 93)) (af)))) (ce (aG 0 1 aC (bI (aa (am (.int 4)) (af)))) (ce (aG 0 1 aC (bI (aa (am (.int 93)) (af)))) (bI (af))))))) (gG (aJ a3 b3) z (.v (.lst ([w0,w1].map nI))) (.v (.lst ([p0,p1,p2,p3].map nI))) .no .no .no .no)=.nx (gG (aJ a7 b7) z (.v (.lst ([w0,w1].map nI))) (.v (.lst ([p0,p1,p2,p3].map nI))) (.v (.lst ([k0,k1,k2,k3].map nI))) .no .no .no):=(gF (sq (ds:=[k0,k1,k2,k3].map nI) (dc (bh (i:=0) (n:=1) (b0:=aJ a3 b3) (ds:=[.int 4]) rfl (bD rfl) rfl rfl e4) (dc (bh (i:=0) (n:=1) (b0:=aJ a4 b4) (ds:=[.int 93]) rfl (bD rfl) rfl rfl e5) (dc (bh (i:=0) (n:=1) (b0:=aJ a5 b5) (ds:=[.int 4]) rfl (bD rfl) rfl rfl e6) (dc (bh (i:=0) (n:=1) (b0:=aJ a6 b6) (ds:=[.int 93]) rfl (bD rfl) rfl rfl e7) rfl)))) (by show 4<=1000;omega))).trans rfl
 have s5:fB 5 (kB (nF 1 de) (ce (aG 0 1 eY (ce (kH bw (pu (am (.int 2))) (aG 0 1 aC (bI (aa (am (.int 5)) (af))))) (bI (af)))) (bI (af)))) (gG (aJ a7 b7) z (.v (.lst ([w0,w1].map nI))) (.v (.lst ([p0,p1,p2,p3].map nI))) (.v (.lst ([k0,k1,k2,k3].map nI))) .no .no .no)=.nx (gG (aJ a9 b9) z (.v (.lst ([w0,w1].map nI))) (.v (.lst ([p0,p1,p2,p3].map nI))) (.v (.lst ([k0,k1,k2,k3].map nI))) (.v (.str t0)) .no .no):=
  (gF (uC (ds:=[jN r x]) (dc (bh (i:=0) (n:=1) (b0:=aJ a7 b7) (ds:=[nI m]) rfl (dc (su (pU rfl) (bh (i:=0) (n:=1) (b0:=aJ a7 b7) (ds:=[.int 5]) rfl (bD rfl) rfl rfl e8) hm) rfl) rfl rfl e9) rfl) ((yM rfl).trans wr))).trans rfl
 have hk: ∀k,k<2->[k0,k1,k2,k3].getD (2*k) 0<4/\[k0,k1,k2,k3].getD (2*k+1) 0<93:=λk h=>by
  rcases(by omega:k=0\/k=1) with rfl|rfl
  ·exact⟨c0,c1⟩
  ·exact⟨c2,c3⟩
 obtain⟨t1,s71,kt1,u1⟩:=sR (bg:=aJ a9 b9) hz (W:=[w0,w1]) (Pl:=[p0,p1,p2,p3]) (Kd:=[k0,k1,k2,k3]) rfl rfl rfl hk 0 (by decide) t0 (by omega) .no
 obtain⟨t2,s72,kt2,u2⟩:=sR (bg:=aJ a9 b9) hz (W:=[w0,w1]) (Pl:=[p0,p1,p2,p3]) (Kd:=[k0,k1,k2,k3]) rfl rfl rfl hk 1 (by decide) t1 (by omega) s71
 refine⟨t2,aJ a9 b9,Ag (kd:=.s) (n:=8) (t:=iK) (ρ:=gG (aJ a9 b9) z (.v (.lst ([w0,w1].map nI))) (.v (.lst ([p0,p1,p2,p3].map nI))) (.v (.lst ([k0,k1,k2,k3].map nI))) (.v (.str t2)) (.v (nI 1)) s72) ?_ rfl,by omega⟩
 unfold iK;rw[<-ez];refine(ay s1).trans ((ay s2).trans ((ay s3).trans ((ay s4).trans ((ay s5).trans ((ay (ρ':=gG (aJ a9 b9) z (.v (.lst ([w0,w1].map nI))) (.v (.lst ([p0,p1,p2,p3].map nI))) (.v (.lst ([k0,k1,k2,k3].map nI))) (.v (.str t2)) (.v (nI 1)) s72) ?_).trans (bd rfl))))))
 refine(fO (ds:=[nI 0,nI 1]) (bD (dU (n:=2) (ax rfl rfl) (by omega)))).trans ?_
 exact(cV (ρ1:=gG (aJ a9 b9) z (.v (.lst ([w0,w1].map nI))) (.v (.lst ([p0,p1,p2,p3].map nI))) (.v (.lst ([k0,k1,k2,k3].map nI))) (.v (.str t0)) (.v (nI 0)) .no) rfl u1).trans ((cV (ρ1:=gG (aJ a9 b9) z (.v (.lst ([w0,w1].map nI))) (.v (.lst ([p0,p1,p2,p3].map nI))) (.v (.lst ([k0,k1,k2,k3].map nI))) (.v (.str t1)) (.v (nI 1)) s71) rfl u2).trans rfl)
def Th(d:D):Prop:= ∃v:D,bx [d]=some v/\cg [d]=some v/\dG v<=32
theorem gK(s:Str)(h:s.length<=800):Th (.str s):=sU s h
theorem pL(d:D)(h1:bX [d]=some (.error noT))(h2:cg [d]=some .non):Th d:=⟨.non,mW h1 (.inl rfl),h2,by unfold dG;omega⟩
theorem fa {d:D}{l:List D}(h:Th d)(hl: ∀e∈l,Th e): ∀e∈d::l,Th e:=List.forall_mem_cons.mpr ⟨h,hl⟩
def fx1:List D:=[.str "",.str "o",.str "/",.str "ox",.str "x",.str "xo/ox/",.str "/xo/ox",.str "xo//ox",.str "XO/OX",.str "xo/ox\n",.str " xo/ox",.str "oo/xx",.str "xo/xo"]
def fx2:List D:=[.str "../..",.str "ox...../.ox..../..ox.../...ox../....ox./.....ox/x.....o",.str "xoo/ox./..x",.non,.int 5]
def fx3:List D:=[.bl true,.lst [],.tup [.str "xo",.str "ox"],.lst [.str "xo/ox"],.int 0,.tup [],.str "none",.str "x.o/ox./.ox"]
theorem rE: ∀e∈([]:List D),Th e:=λe h=>absurd h List.not_mem_nil
theorem zQ: ∀e∈fx1,Th e:=fa (gK _ (by decide+kernel)) (fa (gK _ (by decide+kernel)) (fa (gK _ (by decide+kernel)) (fa (gK _ (by decide+kernel)) (fa (gK _ (by decide+kernel)) (fa (gK _ (by decide+kernel)) (fa (gK _ (by decide+kernel)) (fa (gK _ (by decide+kernel)) (fa (gK _ (by decide+kernel)) (fa (gK _ (by decide+kernel)) (fa (gK _ (by decide+kernel)) (fa (gK _ (by decide+kernel)) (fa (gK _ (by decide+kernel)) rE))))))))))))
theorem zr: ∀e∈fx2,Th e:=fa (gK _ (by decide+kernel)) (fa (gK _ (by decide+kernel)) (fa (gK _ (by decide+kernel)) (fa (pL _ (by kernel_rfl) (by kernel_rfl)) (fa (pL _ (by kernel_rfl) (by kernel_rfl)) rE))))
theorem yZ: ∀e∈fx3,Th e:=fa (pL _ (by kernel_rfl) (by kernel_rfl)) (fa (pL _ (by kernel_rfl) (by kernel_rfl)) (fa (pL _ (by kernel_rfl) (by kernel_rfl)) (fa (pL _ (by kernel_rfl) (by kernel_rfl)) (fa (pL _ (by kernel_rfl) (by kernel_rfl)) (fa (pL _ (by kernel_rfl) (by kernel_rfl)) (fa (gK _ (by decide+kernel)) (fa (gK _ (by decide+kernel)) rE)))))))
theorem wI:bx [.str "xo/ox"]=some (jN [0,1] [1,0]):=by kernel_rfl
theorem vA {n:Nat}{M:List D->List D->Option (D×List D)}{f:FE}{fs:FA}{ρ:aB}{bs ds b':List D}{d:D}(h1:f ρ=some (.lst bs))(h2:fs ρ=some ds)(h3:ds.length=n)(h4:M bs ds=some (d,b')):jM n M f fs ρ=some d:=by
 unfold jM;rw[h1];dsimp only;rw[h2];dsimp only;rw[if_pos h3,h4];rfl
theorem zi(ns:List Int)(hn:ns.length<=63):yG [gL ns]=some (.bl true):=by
 refine cj (kd:=.s) (n:=4) (t:=uP) ?_
 unfold uP;obtain⟨kk,hk1,hk2⟩:=z8 ns 8 (by omega) (cz 4 [gL ns]) rfl
 refine y0 (λρ=> ∃s1 s2,ρ=[.v (gL ns),s1,s2,.no]) (wA (ds:=(List.range kk).map nI) (bD (dU (ax hk2 rfl) (by omega))) (sN _ (λd hd ρ hρ=>?_) _ ⟨_,_,rfl⟩)) λρ' hρ'=>?_
 ·obtain⟨k,hk,rfl⟩:=List.mem_map.mp hd
  rw[List.mem_range] at hk;obtain⟨s1,s2,rfl⟩:=hρ
  obtain⟨a0,b0,eb,B⟩:=z6 ns k (by omega) hn
  obtain⟨t,bg,et,kt⟩:=vi B (by omega)
  obtain⟨v,v1,v2,v3⟩:=sU t kt
  have q1:aN 2 (jM 0 fx (ai (nF 2 ii) (aa (ah 0) (aa (ah 1) (af)))) (af)) [.v (gL ns),.v (nI k),s2,.no]=.nx [.v (gL ns),.v (nI k),.v (.str t),.no]:=(bC (vA (ds:=[]) ((eW (ds:=[gL ns,nI k]) rfl rfl).trans eb) rfl rfl et)).trans rfl
  have p1:bq (aj gM (ai (nF 1 bx) (aa (ah 2) (af))) (ai (nF 1 cg) (aa (ah 2) (af)))) [.v (gL ns),.v (nI k),.v (.str t),.no]=some false:=cN ((au ((eW (ds:=[.str t]) rfl rfl).trans v1) ((eW (ds:=[.str t]) rfl rfl).trans v2)).trans (sX v3))
  have p2:bq (aj gM (ai (nF 1 bx) (aa (am (.str "xo/ox")) (af))) (dZ (aa (dZ (aa (am (.int 0)) (aa (am (.int 1)) (af)))) (aa (dZ (aa (am (.int 1)) (aa (am (.int 0)) (af)))) (af))))) [.v (gL ns),.v (nI k),.v (.str t),.no]=some false:=cN ((au ((eW (ds:=[.str "xo/ox"]) rfl rfl).trans wI) (y:=jN [0,1] [1,0]) rfl).trans (sX (vO _ _)))
  exact⟨_,_,rfl,(ay q1).trans (cB (jr p1 p2)),⟨_,_,rfl⟩⟩
 ·obtain⟨s1,s2,rfl⟩:=hρ'
  have r1:aN 3 (bQ (aa (am (.str "")) (aa (am (.str "o")) (aa (am (.str "/")) (aa (am (.str "ox")) (aa (am (.str "x")) (aa (am (.str "xo/ox/")) (aa (am (.str "/xo/ox")) (aa (am (.str "xo//ox")) (aa (am (.str "XO/OX")) (aa (am (.str "xo/ox\n")) (aa (am (.str " xo/ox")) (aa (am (.str "oo/xx")) (aa (am (.str "xo/xo")) (af))))))))))))))) [.v (gL ns),s1,s2,.no]=.nx [.v (gL ns),s1,s2,.v (.lst fx1)]:=(bC (gH (ds:=fx1) rfl (by show 13<=1000;omega))).trans rfl
  have r2:aN 3 (aj fL (ah 3) (bQ (aa (am (.str "../..")) (aa (am (.str "ox...../.ox..../..ox.../...ox../....ox./.....ox/x.....o")) (aa (am (.str "xoo/ox./..x")) (aa (am .non) (aa (am (.int 5)) (af)))))))) [.v (gL ns),s1,s2,.v (.lst fx1)]=.nx [.v (gL ns),s1,s2,.v (.lst (fx1++fx2))]:=(bC ((au (x:=.lst fx1) rfl (gH (ds:=fx2) rfl (by show 5<=1000;omega))).trans (if_pos (e:=none) (show fx1.length+fx2.length<=sizeLine by decide)))).trans rfl
  have r3:aN 3 (aj fL (ah 3) (bQ (aa (am (.bl true)) (aa (bQ (af)) (aa (dZ (aa (am (.str "xo")) (aa (am (.str "ox")) (af)))) (aa (bQ (aa (am (.str "xo/ox")) (af))) (aa (am (.int 0)) (aa (dZ (af)) (aa (am (.str "none")) (aa (am (.str "x.o/ox./.ox")) (af))))))))))) [.v (gL ns),s1,s2,.v (.lst (fx1++fx2))]=.nx [.v (gL ns),s1,s2,.v (.lst (fx1++fx2++fx3))]:=(bC ((au (x:=.lst (fx1++fx2)) rfl (gH (ds:=fx3) rfl (by show 8<=1000;omega))).trans (if_pos (e:=none) (show(fx1++fx2).length+fx3.length<=sizeLine by decide)))).trans rfl
  have all: ∀e∈fx1++fx2++fx3,Th e:=λe h=>by
   rcases List.mem_append.mp h with h|h
   ·rcases List.mem_append.mp h with h|h
    ·exact zQ e h
    ·exact zr e h
   ·exact yZ e h
  have len:(fx1++fx2++fx3).length<=1000:=by show 26<=1000;omega
  generalize fx1++fx2++fx3=L at r3 all len
  have cp:aX 1 (dv (ah 3)) (gN 4) (bT) (aj eV (ai (nF 1 bx) (aa (ah 4) (af))) (ai (nF 1 cg) (aa (ah 4) (af)))) [.v (gL ns),s1,s2,.v (.lst L)]=some (.lst ((L.map λ_=>true).map D.bl)):=by
   refine cf (ds:=L) (jq rfl) len ?_
   have:=bL (g:=gN 4) (f:=aj eV (ai (nF 1 bx) (aa (ah 4) (af))) (ai (nF 1 cg) (aa (ah 4) (af)))) (ρ0:=[.v (gL ns),s1,s2,.v (.lst L),.no]) (h:=id) (o:=λ_=>D.bl true) L λd hd=>by
    obtain⟨v,v1,v2,v3⟩:=all d hd
    refine⟨[.v (gL ns),s1,s2,.v (.lst L),.v d],rfl,(au ((eW (ds:=[d]) rfl rfl).trans v1) ((eW (ds:=[d]) rfl rfl).trans v2)).trans ?_⟩
    rw[fY v3,gQ]
   rw[List.map_id] at this;rw[List.map_map];exact this
  refine⟨_,(ay r1).trans ((ay r2).trans ((ay r3).trans (bd ((aS (ax cp rfl)).trans ((ki _).trans ?_)))))⟩
  congr 2
  rw[List.all_map];exact List.all_eq_true.mpr λ_ _=>rfl
theorem all_mk {l:W.OpenLaw}{w:World}{K:W.Frag}{h:Heap}{mg:Str->Option Value}{fa:Addr}{f0:Addr}{od0 an0:Option Addr}{sl0:Array (Option Value)}{oc0 kV0 dc0 pm0 cd0 ct0:Value}{f1:Addr}{od1 an1:Option Addr}{sl1:Array (Option Value)}{oc1 kV1 dc1 pm1 cd1 ct1:Value}{f2:Addr}{od2 an2:Option Addr}{sl2:Array (Option Value)}{oc2 kV2 dc2 pm2 cd2 ct2:Value}{f3:Addr}{od3 an3:Option Addr}{sl3:Array (Option Value)}{oc3 kV3 dc3 pm3 cd3 ct3:Value}{f4:Addr}{od4 an4:Option Addr}{sl4:Array (Option Value)}{oc4 kV4 dc4 pm4 cd4 ct4:Value}{f5:Addr}{od5 an5:Option Addr}{sl5:Array (Option Value)}{oc5 kV5 dc5 pm5 cd5 ct5:Value}{f6:Addr}{od6 an6:Option Addr}{sl6:Array (Option Value)}{oc6 kV6 dc6 pm6 cd6 ct6:Value}{f7:Addr}{od7 an7:Option Addr}{sl7:Array (Option Value)}{oc7 kV7 dc7 pm7 cd7 ct7:Value}{f8:Addr}{od8 an8:Option Addr}{sl8:Array (Option Value)}{oc8 kV8 dc8 pm8 cd8 ct8:Value}{f9:Addr}{od9 an9:Option Addr}{sl9:Array (Option Value)}{oc9 kV9 dc9 pm9 cd9 ct9:Value}{f10:Addr}{od10 an10:Option Addr}{sl10:Array (Option Value)}{oc10 kV10 dc10 pm10 cd10 ct10:Value}{f11:Addr}{od11 an11:Option Addr}{sl11:Array (Option Value)}{oc11 kV11 dc11 pm11 cd11 ct11:Value}{f12:Addr}{od12 an12:Option Addr}{sl12:Array (Option Value)}{oc12 kV12 dc12 pm12 cd12 ct12:Value}{f13:Addr}{od13 an13:Option Addr}{sl13:Array (Option Value)}{oc13 kV13 dc13 pm13 cd13 ct13:Value}{f14:Addr}{od14 an14:Option Addr}{sl14:Array (Option Value)}{oc14 kV14 dc14 pm14 cd14 ct14:Value}{f15:Addr}{od15 an15:Option Addr}{sl15:Array (Option Value)}{oc15 kV15 dc15 pm15 cd15 ct15:Value}{f16:Addr}{od16 an16:Option Addr}{sl16:Array (Option Value)}{oc16 kV16 dc16 pm16 cd16 ct16:Value}{f17:Addr}{od17 an17:Option Addr}{sl17:Array (Option Value)}{oc17 kV17 dc17 pm17 cd17 ct17:Value}{f18:Addr}{od18 an18:Option Addr}{sl18:Array (Option Value)}{oc18 kV18 dc18 pm18 cd18 ct18:Value}{tk_LEAST_SIZE:Tok}{tk_MOST_SIZE:Tok}{kx0 kx1 kx2 kx3 kx4 kx5 kx6 kx7 kx8 kx9:Addr}{xn0 xq0:Str}{xb0 xu0:List Value}{xs0:Addr}{xd0 xl0 xe0:Bool}{xv0:List Str}{xc0:Option Bool}{xn1 xq1:Str}{xb1 xu1:List Value}{xs1:Addr}{xd1 xl1 xe1:Bool}{xv1:List Str}{xc1:Option Bool}{xn2 xq2:Str}{xb2 xu2:List Value}{xs2:Addr}{xd2 xl2 xe2:Bool}{xv2:List Str}{xc2:Option Bool}{xn3 xq3:Str}{xb3 xu3:List Value}{xs3:Addr}{xd3 xl3 xe3:Bool}{xv3:List Str}{xc3:Option Bool}{xn4 xq4:Str}{xb4 xu4:List Value}{xs4:Addr}{xd4 xl4 xe4:Bool}{xv4:List Str}{xc4:Option Bool}{xn5 xq5:Str}{xb5 xu5:List Value}{xs5:Addr}{xd5 xl5 xe5:Bool}{xv5:List Str}{xc5:Option Bool}{xn6 xq6:Str}{xb6 xu6:List Value}{xs6:Addr}{xd6 xl6 xe6:Bool}{xv6:List Str}{xc6:Option Bool}{xn7 xq7:Str}{xb7 xu7:List Value}{xs7:Addr}{xd7 xl7 xe7:Bool}{xv7:List Str}{xc7:Option Bool}{xn8 xq8:Str}{xb8 xu8:List Value}{xs8:Addr}{xd8 xl8 xe8:Bool}{xv8:List Str}{xc8:Option Bool}{xn9 xq9:Str}{xb9 xu9:List Value}{xs9:Addr}{xd9 xl9 xe9:Bool}{xv9:List Str}{xc9:Option Bool}(X:K.In h)(G:h.Ns mainGlobals mg)(hfa:mg "law"=some (.ref fa))
 (a0:W.nsIn K mainGlobals "is_whole"=some (some (.ref f0))) (l0:K.lookup f0=some ⟨oc0,od0,.func (W.fnOf "is_whole" "is_whole" (bj dC) (aQ dC) (ar dC) .none kV0 dc0 pm0 an0 cd0 ct0),sl0⟩) (c0:W.codeIn K cd0 "is_whole"=true) (k0:W.keepIn K (.ref f0)=true)
 (a1:W.nsIn K mainGlobals "is_order"=some (some (.ref f1))) (l1:K.lookup f1=some ⟨oc1,od1,.func (W.fnOf "is_order" "is_order" (bj dA) (aQ dA) (ar dA) .none kV1 dc1 pm1 an1 cd1 ct1),sl1⟩) (c1:W.codeIn K cd1 "is_order"=true) (k1:W.keepIn K (.ref f1)=true)
 (a2:W.nsIn K mainGlobals "order_tipped"=some (some (.ref f2))) (l2:K.lookup f2=some ⟨oc2,od2,.func (W.fnOf "order_tipped" "order_tipped" (bj bP) (aQ bP) (ar bP) .none kV2 dc2 pm2 an2 cd2 ct2),sl2⟩) (c2:W.codeIn K cd2 "order_tipped"=true) (k2:W.keepIn K (.ref f2)=true)
 (a3:W.nsIn K mainGlobals "is_square"=some (some (.ref f3))) (l3:K.lookup f3=some ⟨oc3,od3,.func (W.fnOf "is_square" "is_square" (bj cO) (aQ cO) (ar cO) .none kV3 dc3 pm3 an3 cd3 ct3),sl3⟩) (c3:W.codeIn K cd3 "is_square"=true) (k3:W.keepIn K (.ref f3)=true)
 (a4:W.nsIn K mainGlobals "is_row"=some (some (.ref f4))) (l4:K.lookup f4=some ⟨oc4,od4,.func (W.fnOf "is_row" "is_row" (bj fE) (aQ fE) (ar fE) .none kV4 dc4 pm4 an4 cd4 ct4),sl4⟩) (c4:W.codeIn K cd4 "is_row"=true) (k4:W.keepIn K (.ref f4)=true)
 (a5:W.nsIn K mainGlobals "columns_with"=some (some (.ref f5))) (l5:K.lookup f5=some ⟨oc5,od5,.func (W.fnOf "columns_with" "columns_with" (bj bO) (aQ bO) (ar bO) .none kV5 dc5 pm5 an5 cd5 ct5),sl5⟩) (c5:W.codeIn K cd5 "columns_with"=true) (k5:W.keepIn K (.ref f5)=true)
 (a6:W.nsIn K mainGlobals "square_read"=some (some (.ref f6))) (l6:K.lookup f6=some ⟨oc6,od6,.func (W.fnOf "square_read" "square_read" (bj bV) (aQ bV) (ar bV) .none kV6 dc6 pm6 an6 cd6 ct6),sl6⟩) (c6:W.codeIn K cd6 "square_read"=true) (k6:W.keepIn K (.ref f6)=true)
 (a7:W.nsIn K mainGlobals "_law_cell"=some (some (.ref f7))) (l7:K.lookup f7=some ⟨oc7,od7,.func (W.fnOf "_law_cell" "_law_cell" (bj dn) (aQ dn) (ar dn) .none kV7 dc7 pm7 an7 cd7 ct7),sl7⟩) (c7:W.codeIn K cd7 "_law_cell"=true) (k7:W.keepIn K (.ref f7)=true)
 (a8:W.nsIn K mainGlobals "_law_bag"=some (some (.ref f8))) (l8:K.lookup f8=some ⟨oc8,od8,.func (W.fnOf "_law_bag" "_law_bag" (bj en) (aQ en) (ar en) .none kV8 dc8 pm8 an8 cd8 ct8),sl8⟩) (c8:W.codeIn K cd8 "_law_bag"=true) (k8:W.keepIn K (.ref f8)=true)
 (a9:W.nsIn K mainGlobals "_law_take"=some (some (.ref f9))) (l9:K.lookup f9=some ⟨oc9,od9,.func (W.fnOf "_law_take" "_law_take" (bj dr) (aQ dr) (ar dr) .none kV9 dc9 pm9 an9 cd9 ct9),sl9⟩) (c9:W.codeIn K cd9 "_law_take"=true) (k9:W.keepIn K (.ref f9)=true)
 (a10:W.nsIn K mainGlobals "_law_order"=some (some (.ref f10))) (l10:K.lookup f10=some ⟨oc10,od10,.func (W.fnOf "_law_order" "_law_order" (bj cQ) (aQ cQ) (ar cQ) .none kV10 dc10 pm10 an10 cd10 ct10),sl10⟩) (c10:W.codeIn K cd10 "_law_order"=true) (k10:W.keepIn K (.ref f10)=true)
 (a11:W.nsIn K mainGlobals "_law_square"=some (some (.ref f11))) (l11:K.lookup f11=some ⟨oc11,od11,.func (W.fnOf "_law_square" "_law_square" (bj cu) (aQ cu) (ar cu) .none kV11 dc11 pm11 an11 cd11 ct11),sl11⟩) (c11:W.codeIn K cd11 "_law_square"=true) (k11:W.keepIn K (.ref f11)=true)
 (a12:W.nsIn K mainGlobals "_law_written"=some (some (.ref f12))) (l12:K.lookup f12=some ⟨oc12,od12,.func (W.fnOf "_law_written" "_law_written" (bj bY) (aQ bY) (ar bY) .none kV12 dc12 pm12 an12 cd12 ct12),sl12⟩) (c12:W.codeIn K cd12 "_law_written"=true) (k12:W.keepIn K (.ref f12)=true)
 (a13:W.nsIn K mainGlobals "_law_other"=some (some (.ref f13))) (l13:K.lookup f13=some ⟨oc13,od13,.func (W.fnOf "_law_other" "_law_other" (bj cM) (aQ cM) (ar cM) .none kV13 dc13 pm13 an13 cd13 ct13),sl13⟩) (c13:W.codeIn K cd13 "_law_other"=true) (k13:W.keepIn K (.ref f13)=true)
 (a14:W.nsIn K mainGlobals "_law_due"=some (some (.ref f14))) (l14:K.lookup f14=some ⟨oc14,od14,.func (W.fnOf "_law_due" "_law_due" (bj eo) (aQ eo) (ar eo) .none kV14 dc14 pm14 an14 cd14 ct14),sl14⟩) (c14:W.codeIn K cd14 "_law_due"=true) (k14:W.keepIn K (.ref f14)=true)
 (a15:W.nsIn K mainGlobals "_law_told"=some (some (.ref f15))) (l15:K.lookup f15=some ⟨oc15,od15,.func (W.fnOf "_law_told" "_law_told" (bj dz) (aQ dz) (ar dz) .none kV15 dc15 pm15 an15 cd15 ct15),sl15⟩) (c15:W.codeIn K cd15 "_law_told"=true) (k15:W.keepIn K (.ref f15)=true)
 (a16:W.nsIn K mainGlobals "_law_bent"=some (some (.ref f16))) (l16:K.lookup f16=some ⟨oc16,od16,.func (W.fnOf "_law_bent" "_law_bent" (bj dB) (aQ dB) (ar dB) .none kV16 dc16 pm16 an16 cd16 ct16),sl16⟩) (c16:W.codeIn K cd16 "_law_bent"=true) (k16:W.keepIn K (.ref f16)=true)
 (a17:W.nsIn K mainGlobals "_law_text"=some (some (.ref f17))) (l17:K.lookup f17=some ⟨oc17,od17,.func (W.fnOf "_law_text" "_law_text" (bj dD) (aQ dD) (ar dD) .none kV17 dc17 pm17 an17 cd17 ct17),sl17⟩) (c17:W.codeIn K cd17 "_law_text"=true) (k17:W.keepIn K (.ref f17)=true)
 (a18:W.nsIn K mainGlobals "law"=some (some (.ref f18))) (l18:K.lookup f18=some ⟨oc18,od18,.func (W.fnOf "law" "law" (bj iw) (aQ iw) (ar iw) .none kV18 dc18 pm18 an18 cd18 ct18),sl18⟩) (c18:W.codeIn K cd18 "law"=true) (k18:W.keepIn K (.ref f18)=true)
 (z_ValueError:W.nsIn K mainGlobals "ValueError"=some none)
 (z_abs:W.nsIn K mainGlobals "abs"=some none)
 (z_all:W.nsIn K mainGlobals "all"=some none)
 (z_any:W.nsIn K mainGlobals "any"=some none)
 (z_bool:W.nsIn K mainGlobals "bool"=some none)
 (z_int:W.nsIn K mainGlobals "int"=some none)
 (z_isinstance:W.nsIn K mainGlobals "isinstance"=some none)
 (z_len:W.nsIn K mainGlobals "len"=some none)
 (z_list:W.nsIn K mainGlobals "list"=some none)
 (z_max:W.nsIn K mainGlobals "max"=some none)
 (z_min:W.nsIn K mainGlobals "min"=some none)
 (z_range:W.nsIn K mainGlobals "range"=some none)
 (z_sorted:W.nsIn K mainGlobals "sorted"=some none)
 (z_str:W.nsIn K mainGlobals "str"=some none)
 (z_tuple:W.nsIn K mainGlobals "tuple"=some none)
 (z_zip:W.nsIn K mainGlobals "zip"=some none)
 (g_LEAST_SIZE:W.nsIn K mainGlobals "LEAST_SIZE"=some (some (.int 2 tk_LEAST_SIZE)))
 (g_MOST_SIZE:W.nsIn K mainGlobals "MOST_SIZE"=some (some (.int 6 tk_MOST_SIZE)))
 (ya0:W.nsIn K mainGlobals "RookError"=some (some (.ref kx0)))
 (yb0:W.findIn K (.ref kx0) "__getattribute__"=some (some (.builtin "BaseException.__getattribute__")))
 (yc0:W.findIn K (.ref kx0) "__getattr__"=some none)
 (yd0:W.findIn K (.ref kx0) "__class__"=some (some (.builtin "object.__class__")))
 (yg0:W.mroIn K kx0 (.type "object")=some true)
 (yh0:W.mroIn K kx0 (.type "BaseException")=some true)
 (yt0:W.typeIn K (.ref kx0)=some (.type "type"))
 (ym0:W.clsIn K kx0=some ⟨xn0,xb0,.ref kx0::ou,xs0,xq0,xd0,xv0,xu0,xl0,xc0,xe0⟩)
 (ya1:W.nsIn K mainGlobals "NoSquare"=some (some (.ref kx1)))
 (yb1:W.findIn K (.ref kx1) "__getattribute__"=some (some (.builtin "BaseException.__getattribute__")))
 (yc1:W.findIn K (.ref kx1) "__getattr__"=some none)
 (yd1:W.findIn K (.ref kx1) "__class__"=some (some (.builtin "object.__class__")))
 (yg1:W.mroIn K kx1 (.type "object")=some true)
 (yh1:W.mroIn K kx1 (.type "BaseException")=some true)
 (yt1:W.typeIn K (.ref kx1)=some (.type "type"))
 (ym1:W.clsIn K kx1=some ⟨xn1,xb1,.ref kx1:: .ref kx0::ou,xs1,xq1,xd1,xv1,xu1,xl1,xc1,xe1⟩)
 (ya2:W.nsIn K mainGlobals "NoMove"=some (some (.ref kx2)))
 (yb2:W.findIn K (.ref kx2) "__getattribute__"=some (some (.builtin "BaseException.__getattribute__")))
 (yc2:W.findIn K (.ref kx2) "__getattr__"=some none)
 (yd2:W.findIn K (.ref kx2) "__class__"=some (some (.builtin "object.__class__")))
 (yg2:W.mroIn K kx2 (.type "object")=some true)
 (yh2:W.mroIn K kx2 (.type "BaseException")=some true)
 (yt2:W.typeIn K (.ref kx2)=some (.type "type"))
 (ym2:W.clsIn K kx2=some ⟨xn2,xb2,.ref kx2:: .ref kx0::ou,xs2,xq2,xd2,xv2,xu2,xl2,xc2,xe2⟩)
 (ya3:W.nsIn K mainGlobals "TooMany"=some (some (.ref kx3)))
 (yb3:W.findIn K (.ref kx3) "__getattribute__"=some (some (.builtin "BaseException.__getattribute__")))
 (yc3:W.findIn K (.ref kx3) "__getattr__"=some none)
 (yd3:W.findIn K (.ref kx3) "__class__"=some (some (.builtin "object.__class__")))
 (yg3:W.mroIn K kx3 (.type "object")=some true)
 (yh3:W.mroIn K kx3 (.type "BaseException")=some true)
 (yt3:W.typeIn K (.ref kx3)=some (.type "type"))
 (ym3:W.clsIn K kx3=some ⟨xn3,xb3,.ref kx3:: .ref kx0::ou,xs3,xq3,xd3,xv3,xu3,xl3,xc3,xe3⟩)
 (ya4:W.nsIn K mainGlobals "NoPart"=some (some (.ref kx4)))
 (yb4:W.findIn K (.ref kx4) "__getattribute__"=some (some (.builtin "BaseException.__getattribute__")))
 (yc4:W.findIn K (.ref kx4) "__getattr__"=some none)
 (yd4:W.findIn K (.ref kx4) "__class__"=some (some (.builtin "object.__class__")))
 (yg4:W.mroIn K kx4 (.type "object")=some true)
 (yh4:W.mroIn K kx4 (.type "BaseException")=some true)
 (yt4:W.typeIn K (.ref kx4)=some (.type "type"))
 (ym4:W.clsIn K kx4=some ⟨xn4,xb4,.ref kx4:: .ref kx0::ou,xs4,xq4,xd4,xv4,xu4,xl4,xc4,xe4⟩)
 (ya5:W.nsIn K mainGlobals "NotOne"=some (some (.ref kx5)))
 (yb5:W.findIn K (.ref kx5) "__getattribute__"=some (some (.builtin "BaseException.__getattribute__")))
 (yc5:W.findIn K (.ref kx5) "__getattr__"=some none)
 (yd5:W.findIn K (.ref kx5) "__class__"=some (some (.builtin "object.__class__")))
 (yg5:W.mroIn K kx5 (.type "object")=some true)
 (yh5:W.mroIn K kx5 (.type "BaseException")=some true)
 (yt5:W.typeIn K (.ref kx5)=some (.type "type"))
 (ym5:W.clsIn K kx5=some ⟨xn5,xb5,.ref kx5:: .ref kx0::ou,xs5,xq5,xd5,xv5,xu5,xl5,xc5,xe5⟩)
 (ya6:W.nsIn K mainGlobals "NoPaper"=some (some (.ref kx6)))
 (yb6:W.findIn K (.ref kx6) "__getattribute__"=some (some (.builtin "BaseException.__getattribute__")))
 (yc6:W.findIn K (.ref kx6) "__getattr__"=some none)
 (yd6:W.findIn K (.ref kx6) "__class__"=some (some (.builtin "object.__class__")))
 (yg6:W.mroIn K kx6 (.type "object")=some true)
 (yh6:W.mroIn K kx6 (.type "BaseException")=some true)
 (yt6:W.typeIn K (.ref kx6)=some (.type "type"))
 (ym6:W.clsIn K kx6=some ⟨xn6,xb6,.ref kx6:: .ref kx0::ou,xs6,xq6,xd6,xv6,xu6,xl6,xc6,xe6⟩)
 (ya7:W.nsIn K mainGlobals "NoText"=some (some (.ref kx7)))
 (yb7:W.findIn K (.ref kx7) "__getattribute__"=some (some (.builtin "BaseException.__getattribute__")))
 (yc7:W.findIn K (.ref kx7) "__getattr__"=some none)
 (yd7:W.findIn K (.ref kx7) "__class__"=some (some (.builtin "object.__class__")))
 (yg7:W.mroIn K kx7 (.type "object")=some true)
 (yh7:W.mroIn K kx7 (.type "BaseException")=some true)
 (yt7:W.typeIn K (.ref kx7)=some (.type "type"))
 (ym7:W.clsIn K kx7=some ⟨xn7,xb7,.ref kx7:: .ref kx0::ou,xs7,xq7,xd7,xv7,xu7,xl7,xc7,xe7⟩)
 (ya8:W.nsIn K mainGlobals "NoRow"=some (some (.ref kx8)))
 (yb8:W.findIn K (.ref kx8) "__getattribute__"=some (some (.builtin "BaseException.__getattribute__")))
 (yc8:W.findIn K (.ref kx8) "__getattr__"=some none)
 (yd8:W.findIn K (.ref kx8) "__class__"=some (some (.builtin "object.__class__")))
 (yg8:W.mroIn K kx8 (.type "object")=some true)
 (yh8:W.mroIn K kx8 (.type "BaseException")=some true)
 (yt8:W.typeIn K (.ref kx8)=some (.type "type"))
 (ym8:W.clsIn K kx8=some ⟨xn8,xb8,.ref kx8:: .ref kx0::ou,xs8,xq8,xd8,xv8,xu8,xl8,xc8,xe8⟩)
 (ya9:W.nsIn K mainGlobals "NoStep"=some (some (.ref kx9)))
 (yb9:W.findIn K (.ref kx9) "__getattribute__"=some (some (.builtin "BaseException.__getattribute__")))
 (yc9:W.findIn K (.ref kx9) "__getattr__"=some none)
 (yd9:W.findIn K (.ref kx9) "__class__"=some (some (.builtin "object.__class__")))
 (yg9:W.mroIn K kx9 (.type "object")=some true)
 (yh9:W.mroIn K kx9 (.type "BaseException")=some true)
 (yt9:W.typeIn K (.ref kx9)=some (.type "type"))
 (ym9:W.clsIn K kx9=some ⟨xn9,xb9,.ref kx9:: .ref kx0::ou,xs9,xq9,xd9,xv9,xu9,xl9,xc9,xe9⟩)
 (ye:W.specialIn K (.builtin "object.__class__") "__get__"=some (some (.builtin "getset_descriptor.__get__")))
 (yf:W.takesIn K (.builtin "object.__class__")=some true)
 (yo_NoText:W.excIn K kx7 ou "ValueError.__new__"=true)
 (yn:[kx0,kx1,kx2,kx3,kx4,kx5,kx6,kx7,kx8,kx9].Nodup):
 ∃fd:FuncData,(∀(s:Shared) (v:Value),BindsTo s fd ⟨[v],[]⟩ [("_law_script",v)])/\ ∀base:Heap,K.In base->base.Ns mainGlobals mg->FnOk l.prog w K mg base lR 6 fa fd ["_law_script"] (rW K):=by
 have e:=hfa.symm.trans (W.mg_of X G a18)
 cases e
 have F0:=cy (st:=dC) l0 c0 k0
 have b0:=F0.binds (ps:=["thing"]) λ_ _ _ _ _ _ us hl=>ar1 us hl (λ_=>rfl)
 have d0:Df K mg "is_whole" dC ["thing"]:=⟨_,_,F0,W.mg_of X G a0,b0⟩
 have F1:=cy (st:=dA) l1 c1 k1
 have b1:=F1.binds (ps:=["size","thing"]) λ_ _ _ _ _ _ us hl=>ar2 us hl (λ_ _=>rfl)
 have d1:Df K mg "is_order" dA ["size","thing"]:=⟨_,_,F1,W.mg_of X G a1,b1⟩
 have F2:=cy (st:=bP) l2 c2 k2
 have b2:=F2.binds (ps:=["order"]) λ_ _ _ _ _ _ us hl=>ar1 us hl (λ_=>rfl)
 have d2:Df K mg "order_tipped" bP ["order"]:=⟨_,_,F2,W.mg_of X G a2,b2⟩
 have F3:=cy (st:=cO) l3 c3 k3
 have b3:=F3.binds (ps:=["thing"]) λ_ _ _ _ _ _ us hl=>ar1 us hl (λ_=>rfl)
 have d3:Df K mg "is_square" cO ["thing"]:=⟨_,_,F3,W.mg_of X G a3,b3⟩
 have F4:=cy (st:=fE) l4 c4 k4
 have b4:=F4.binds (ps:=["size","row"]) λ_ _ _ _ _ _ us hl=>ar2 us hl (λ_ _=>rfl)
 have d4:Df K mg "is_row" fE ["size","row"]:=⟨_,_,F4,W.mg_of X G a4,b4⟩
 have F5:=cy (st:=bO) l5 c5 k5
 have b5:=F5.binds (ps:=["sign","rows"]) λ_ _ _ _ _ _ us hl=>ar2 us hl (λ_ _=>rfl)
 have d5:Df K mg "columns_with" bO ["sign","rows"]:=⟨_,_,F5,W.mg_of X G a5,b5⟩
 have F6:=cy (st:=bV) l6 c6 k6
 have b6:=F6.binds (ps:=["thing"]) λ_ _ _ _ _ _ us hl=>ar1 us hl (λ_=>rfl)
 have d6:Df K mg "square_read" bV ["thing"]:=⟨_,_,F6,W.mg_of X G a6,b6⟩
 have F7:=cy (st:=dn) l7 c7 k7
 have b7:=F7.binds (ps:=["_law_script","_law_k"]) λ_ _ _ _ _ _ us hl=>ar2 us hl (λ_ _=>rfl)
 have d7:Df K mg "_law_cell" dn ["_law_script","_law_k"]:=⟨_,_,F7,W.mg_of X G a7,b7⟩
 have F8:=cy (st:=en) l8 c8 k8
 have b8:=F8.binds (ps:=["_law_script","_law_at"]) λ_ _ _ _ _ _ us hl=>ar2 us hl (λ_ _=>rfl)
 have d8:Df K mg "_law_bag" en ["_law_script","_law_at"]:=⟨_,_,F8,W.mg_of X G a8,b8⟩
 have F9:=cy (st:=dr) l9 c9 k9
 have b9:=F9.binds (ps:=["_law_bag_here","_law_many"]) λ_ _ _ _ _ _ us hl=>ar2 us hl (λ_ _=>rfl)
 have d9:Df K mg "_law_take" dr ["_law_bag_here","_law_many"]:=⟨_,_,F9,W.mg_of X G a9,b9⟩
 have F10:=cy (st:=cQ) l10 c10 k10
 have b10:=F10.binds (ps:=["_law_bag_here","_law_n"]) λ_ _ _ _ _ _ us hl=>ar2 us hl (λ_ _=>rfl)
 have d10:Df K mg "_law_order" cQ ["_law_bag_here","_law_n"]:=⟨_,_,F10,W.mg_of X G a10,b10⟩
 have F11:=cy (st:=cu) l11 c11 k11
 have b11:=F11.binds (ps:=["_law_bag_here","_law_n"]) λ_ _ _ _ _ _ us hl=>ar2 us hl (λ_ _=>rfl)
 have d11:Df K mg "_law_square" cu ["_law_bag_here","_law_n"]:=⟨_,_,F11,W.mg_of X G a11,b11⟩
 have F12:=cy (st:=bY) l12 c12 k12
 have b12:=F12.binds (ps:=["_law_square_here"]) λ_ _ _ _ _ _ us hl=>ar1 us hl (λ_=>rfl)
 have d12:Df K mg "_law_written" bY ["_law_square_here"]:=⟨_,_,F12,W.mg_of X G a12,b12⟩
 have F13:=cy (st:=cM) l13 c13 k13
 have b13:=F13.binds (ps:=["_law_e"]) λ_ _ _ _ _ _ us hl=>ar1 us hl (λ_=>rfl)
 have d13:Df K mg "_law_other" cM ["_law_e"]:=⟨_,_,F13,W.mg_of X G a13,b13⟩
 have F14:=cy (st:=eo) l14 c14 k14
 have b14:=F14.binds (ps:=["_law_text_here"]) λ_ _ _ _ _ _ us hl=>ar1 us hl (λ_=>rfl)
 have d14:Df K mg "_law_due" eo ["_law_text_here"]:=⟨_,_,F14,W.mg_of X G a14,b14⟩
 have F15:=cy (st:=dz) l15 c15 k15
 have b15:=F15.binds (ps:=["_law_text_here"]) λ_ _ _ _ _ _ us hl=>ar1 us hl (λ_=>rfl)
 have d15:Df K mg "_law_told" dz ["_law_text_here"]:=⟨_,_,F15,W.mg_of X G a15,b15⟩
 have F16:=cy (st:=dB) l16 c16 k16
 have b16:=F16.binds (ps:=["_law_text_here","_law_way","_law_at","_law_sign","_law_far"]) λ_ _ _ _ _ _ us hl=>ar5 us hl (λ_ _ _ _ _=>rfl)
 have d16:Df K mg "_law_bent" dB ["_law_text_here","_law_way","_law_at","_law_sign","_law_far"]:=⟨_,_,F16,W.mg_of X G a16,b16⟩
 have F17:=cy (st:=dD) l17 c17 k17
 have b17:=F17.binds (ps:=["_law_bag_here"]) λ_ _ _ _ _ _ us hl=>ar1 us hl (λ_=>rfl)
 have d17:Df K mg "_law_text" dD ["_law_bag_here"]:=⟨_,_,F17,W.mg_of X G a17,b17⟩
 have F18:=cy (st:=iw) l18 c18 k18
 have b18:=F18.binds (ps:=["_law_script"]) λ_ _ _ _ _ _ us hl=>ar1 us hl (λ_=>rfl)
 have d18:Df K mg "law" iw ["_law_script"]:=⟨_,_,F18,W.mg_of X G a18,b18⟩
 have B:Bt mg:=⟨W.mg_none_of X G z_ValueError,W.mg_none_of X G z_abs,W.mg_none_of X G z_all,W.mg_none_of X G z_any,W.mg_none_of X G z_bool,W.mg_none_of X G z_int,W.mg_none_of X G z_isinstance,W.mg_none_of X G z_len,W.mg_none_of X G z_list,W.mg_none_of X G z_max,W.mg_none_of X G z_min,W.mg_none_of X G z_range,W.mg_none_of X G z_sorted,W.mg_none_of X G z_str,W.mg_none_of X G z_tuple,W.mg_none_of X G z_zip,⟨_,W.mg_of X G g_LEAST_SIZE⟩,⟨_,W.mg_of X G g_MOST_SIZE⟩⟩
 have r0:ExRow K mg kx0 "RookError" kx0:=⟨W.mg_of X G ya0,ya0,⟨yb0,yc0,yd0,ye,yf,yg0,yh0⟩,yt0,_,ym0,(if_pos rfl).symm⟩
 have r1:ExRow K mg kx0 "NoSquare" kx1:=⟨W.mg_of X G ya1,ya1,⟨yb1,yc1,yd1,ye,yf,yg1,yh1⟩,yt1,_,ym1,(if_neg (gE yn (List.Mem.head _))).symm⟩
 have r2:ExRow K mg kx0 "NoMove" kx2:=⟨W.mg_of X G ya2,ya2,⟨yb2,yc2,yd2,ye,yf,yg2,yh2⟩,yt2,_,ym2,(if_neg (gE yn (List.Mem.tail _ (List.Mem.head _)))).symm⟩
 have r3:ExRow K mg kx0 "TooMany" kx3:=⟨W.mg_of X G ya3,ya3,⟨yb3,yc3,yd3,ye,yf,yg3,yh3⟩,yt3,_,ym3,(if_neg (gE yn (List.Mem.tail _ (List.Mem.tail _ (List.Mem.head _))))).symm⟩
 have r4:ExRow K mg kx0 "NoPart" kx4:=⟨W.mg_of X G ya4,ya4,⟨yb4,yc4,yd4,ye,yf,yg4,yh4⟩,yt4,_,ym4,(if_neg (gE yn (List.Mem.tail _ (List.Mem.tail _ (List.Mem.tail _ (List.Mem.head _)))))).symm⟩
 have r5:ExRow K mg kx0 "NotOne" kx5:=⟨W.mg_of X G ya5,ya5,⟨yb5,yc5,yd5,ye,yf,yg5,yh5⟩,yt5,_,ym5,(if_neg (gE yn (List.Mem.tail _ (List.Mem.tail _ (List.Mem.tail _ (List.Mem.tail _ (List.Mem.head _))))))).symm⟩
 have r6:ExRow K mg kx0 "NoPaper" kx6:=⟨W.mg_of X G ya6,ya6,⟨yb6,yc6,yd6,ye,yf,yg6,yh6⟩,yt6,_,ym6,(if_neg (gE yn (List.Mem.tail _ (List.Mem.tail _ (List.Mem.tail _ (List.Mem.tail _ (List.Mem.tail _ (List.Mem.head _)))))))).symm⟩
 have r7:ExRow K mg kx0 "NoText" kx7:=⟨W.mg_of X G ya7,ya7,⟨yb7,yc7,yd7,ye,yf,yg7,yh7⟩,yt7,_,ym7,(if_neg (gE yn (List.Mem.tail _ (List.Mem.tail _ (List.Mem.tail _ (List.Mem.tail _ (List.Mem.tail _ (List.Mem.tail _ (List.Mem.head _))))))))).symm⟩
 have r8:ExRow K mg kx0 "NoRow" kx8:=⟨W.mg_of X G ya8,ya8,⟨yb8,yc8,yd8,ye,yf,yg8,yh8⟩,yt8,_,ym8,(if_neg (gE yn (List.Mem.tail _ (List.Mem.tail _ (List.Mem.tail _ (List.Mem.tail _ (List.Mem.tail _ (List.Mem.tail _ (List.Mem.tail _ (List.Mem.head _)))))))))).symm⟩
 have r9:ExRow K mg kx0 "NoStep" kx9:=⟨W.mg_of X G ya9,ya9,⟨yb9,yc9,yd9,ye,yf,yg9,yh9⟩,yt9,_,ym9,(if_neg (gE yn (List.Mem.tail _ (List.Mem.tail _ (List.Mem.tail _ (List.Mem.tail _ (List.Mem.tail _ (List.Mem.tail _ (List.Mem.tail _ (List.Mem.tail _ (List.Mem.head _))))))))))).symm⟩
 have ET:Et K mg kx0 kx1 kx2 kx3 kx4 kx5 kx6 kx7 kx8 kx9:=⟨⟨(cE r0 (cE r1 (cE r2 (cE r3 (cE r4 (cE r5 (cE r6 (cE r7 (cE r8 (cE r9 uX)))))))))),List.Mem.head _,yn⟩,yo_NoText⟩
 refine⟨W.fnOf "law" "law" (bj iw) (aQ iw) (ar iw) .none kV18 dc18 pm18 an18 cd18 ct18,λs v=>.of_eq rfl,λbase _ _=>?_⟩
 have iH:=rj (P:=l.prog) (w:=w) (base:=base) B d0 ET
 have gv:=qo (P:=l.prog) (w:=w) (base:=base) B d1 ET iH
 have dQ:=lB (P:=l.prog) (w:=w) (base:=base) B d2 ET
 have gU:=po (P:=l.prog) (w:=w) (base:=base) B d3 ET gv
 have kG:=v8 (P:=l.prog) (w:=w) (base:=base) B d4 ET
 have dW:=lD (P:=l.prog) (w:=w) (base:=base) B d5 ET
 have fV:=lQ (P:=l.prog) (w:=w) (base:=base) B d6 ET dW gU dQ kG
 have iP:=qu (P:=l.prog) (w:=w) (base:=base) B d7 ET
 have jD:=uf (P:=l.prog) (w:=w) (base:=base) B d8 ET iP
 have aW:=re (P:=l.prog) (w:=w) (base:=base) B d9 ET
 have fK:=pM (P:=l.prog) (w:=w) (base:=base) B d10 ET aW
 have gI:=ny (P:=l.prog) (w:=w) (base:=base) B d11 ET aW fK
 have fX:=lL (P:=l.prog) (w:=w) (base:=base) B d12 ET
 have hJ:=pO (P:=l.prog) (w:=w) (base:=base) B d13 ET
 have im:=tD (P:=l.prog) (w:=w) (base:=base) B d14 ET
 have fo:=rl (P:=l.prog) (w:=w) (base:=base) B d15 ET fV hJ
 have iT:=qE (P:=l.prog) (w:=w) (base:=base) B d16 ET
 have iI:=qB (P:=l.prog) (w:=w) (base:=base) B d17 ET fX aW gI iT
 exact zl (zK (P:=l.prog) (w:=w) (base:=base) B F18 ET iI jD fo im) zi
end L2
theorem PySem.W.Fast.tw15753420267070552724:True:=⟨⟩
theorem PySem.W.Fast.tw1501963065567575338:True:=⟨⟩
theorem PySem.W.Fast.tw14379677205423925171:True:=⟨⟩
theorem PySem.W.Fast.tw15768263829460488623:True:=⟨⟩
theorem PySem.W.Fast.tw8238935452191903095:True:=⟨⟩
theorem PySem.W.Fast.tw10148168664129114410:True:=⟨⟩
theorem PySem.W.Fast.tw12985399376590243775:True:=⟨⟩
theorem PySem.W.Fast.tw11876871968541322355:True:=⟨⟩
theorem PySem.W.Fast.tw11678242901607999606:True:=⟨⟩
theorem PySem.W.Fast.tw299753941316555100:True:=⟨⟩
theorem PySem.W.Fast.tw17792910027461324387:True:=⟨⟩
theorem PySem.W.Fast.tw14594967722214539396:True:=⟨⟩
theorem PySem.W.Fast.tw9131868652246715455:True:=⟨⟩
theorem PySem.W.Fast.tw8249510938368627641:True:=⟨⟩
theorem PySem.W.Fast.tw827603295563190592:True:=⟨⟩
theorem PySem.W.Fast.tw8718839158820391318:True:=⟨⟩
theorem PySem.W.Fast.tw3943393744243795577:True:=⟨⟩
theorem PySem.W.Fast.tw3640095754318205441:True:=⟨⟩
theorem PySem.W.Fast.tw704351530072759796:True:=⟨⟩
theorem PySem.W.Fast.tw15216614687315584266:True:=⟨⟩
theorem PySem.W.Fast.tw17595135024895810117:True:=⟨⟩
theorem PySem.W.Fast.tw874854032953125665:True:=⟨⟩
theorem PySem.W.Fast.tw7455552342033225919:True:=⟨⟩
theorem PySem.W.Fast.tw9129517179191045354:True:=⟨⟩
theorem PySem.W.Fast.tw146150258485710603:True:=⟨⟩
theorem PySem.W.Fast.tw8665788009968604066:True:=⟨⟩
theorem PySem.W.Fast.tw3346510032058987398:True:=⟨⟩
theorem PySem.W.Fast.tw10279346726309095582:True:=⟨⟩
theorem PySem.W.Fast.tw16269740321932759577:True:=⟨⟩
theorem PySem.W.Fast.tw4039330456198523999:True:=⟨⟩
open PySem PySem.W PyProof.Rows
set_option maxRecDepth 100000 in
set_option maxHeartbeats 0 in
theorem PySem.Challenge.cw_rookborders_k85_no_texts_holds : PySem.Challenge.rw_rookborders_k85_no_texts.Holds := by
 w_on;o_law;k_head;(case hw=>w_witness2)
 k_fill
 refine L2.walkD (l:=PySem.Challenge.rw_rookborders_k85_no_texts) (k:=6) (x:="_law_script") rfl rfl ⟨rfl,by decide,by decide⟩ (λw h Y=>W.kIn_of Y) ?F
 case F=>
  intro w mg fa h KX G hmg
  refine' L2.all_mk KX G hmg ?a0 ?l0 ?c0 ?k0 ?a1 ?l1 ?c1 ?k1 ?a2 ?l2 ?c2 ?k2 ?a3 ?l3 ?c3 ?k3 ?a4 ?l4 ?c4 ?k4 ?a5 ?l5 ?c5 ?k5 ?a6 ?l6 ?c6 ?k6 ?a7 ?l7 ?c7 ?k7 ?a8 ?l8 ?c8 ?k8 ?a9 ?l9 ?c9 ?k9 ?a10 ?l10 ?c10 ?k10 ?a11 ?l11 ?c11 ?k11 ?a12 ?l12 ?c12 ?k12 ?a13 ?l13 ?c13 ?k13 ?a14 ?l14 ?c14 ?k14 ?a15 ?l15 ?c15 ?k15 ?a16 ?l16 ?c16 ?k16 ?a17 ?l17 ?c17 ?k17 ?a18 ?l18 ?c18 ?k18 ?z_ValueError ?z_abs ?z_all ?z_any ?z_bool ?z_int ?z_isinstance ?z_len ?z_list ?z_max ?z_min ?z_range ?z_sorted ?z_str ?z_tuple ?z_zip ?g_LEAST_SIZE ?g_MOST_SIZE ?ya0 ?yb0 ?yc0 ?yd0 ?yg0 ?yh0 ?yt0 ?ym0 ?ya1 ?yb1 ?yc1 ?yd1 ?yg1 ?yh1 ?yt1 ?ym1 ?ya2 ?yb2 ?yc2 ?yd2 ?yg2 ?yh2 ?yt2 ?ym2 ?ya3 ?yb3 ?yc3 ?yd3 ?yg3 ?yh3 ?yt3 ?ym3 ?ya4 ?yb4 ?yc4 ?yd4 ?yg4 ?yh4 ?yt4 ?ym4 ?ya5 ?yb5 ?yc5 ?yd5 ?yg5 ?yh5 ?yt5 ?ym5 ?ya6 ?yb6 ?yc6 ?yd6 ?yg6 ?yh6 ?yt6 ?ym6 ?ya7 ?yb7 ?yc7 ?yd7 ?yg7 ?yh7 ?yt7 ?ym7 ?ya8 ?yb8 ?yc8 ?yd8 ?yg8 ?yh8 ?yt8 ?ym8 ?ya9 ?yb9 ?yc9 ?yd9 ?yg9 ?yh9 ?yt9 ?ym9 ?ye ?yf ?yo_NoText ?yn
  (case a0=>k_is)
  (case l0=>k_is)
  (case c0=>k_is)
  (case k0=>k_is)
  (case a1=>k_is)
  (case l1=>k_is)
  (case c1=>k_is)
  (case k1=>k_is)
  (case a2=>k_is)
  (case l2=>k_is)
  (case c2=>k_is)
  (case k2=>k_is)
  (case a3=>k_is)
  (case l3=>k_is)
  (case c3=>k_is)
  (case k3=>k_is)
  (case a4=>k_is)
  (case l4=>k_is)
  (case c4=>k_is)
  (case k4=>k_is)
  (case a5=>k_is)
  (case l5=>k_is)
  (case c5=>k_is)
  (case k5=>k_is)
  (case a6=>k_is)
  (case l6=>k_is)
  (case c6=>k_is)
  (case k6=>k_is)
  (case a7=>k_is)
  (case l7=>k_is)
  (case c7=>k_is)
  (case k7=>k_is)
  (case a8=>k_is)
  (case l8=>k_is)
  (case c8=>k_is)
  (case k8=>k_is)
  (case a9=>k_is)
  (case l9=>k_is)
  (case c9=>k_is)
  (case k9=>k_is)
  (case a10=>k_is)
  (case l10=>k_is)
  (case c10=>k_is)
  (case k10=>k_is)
  (case a11=>k_is)
  (case l11=>k_is)
  (case c11=>k_is)
  (case k11=>k_is)
  (case a12=>k_is)
  (case l12=>k_is)
  (case c12=>k_is)
  (case k12=>k_is)
  (case a13=>k_is)
  (case l13=>k_is)
  (case c13=>k_is)
  (case k13=>k_is)
  (case a14=>k_is)
  (case l14=>k_is)
  (case c14=>k_is)
  (case k14=>k_is)
  (case a15=>k_is)
  (case l15=>k_is)
  (case c15=>k_is)
  (case k15=>k_is)
  (case a16=>k_is)
  (case l16=>k_is)
  (case c16=>k_is)
  (case k16=>k_is)
  (case a17=>k_is)
  (case l17=>k_is)
  (case c17=>k_is)
  (case k17=>k_is)
  (case a18=>k_is)
  (case l18=>k_is)
  (case c18=>k_is)
  (case k18=>k_is)
  (case z_ValueError=>k_is)
  (case z_abs=>k_is)
  (case z_all=>k_is)
  (case z_any=>k_is)
  (case z_bool=>k_is)
  (case z_int=>k_is)
  (case z_isinstance=>k_is)
  (case z_len=>k_is)
  (case z_list=>k_is)
  (case z_max=>k_is)
  (case z_min=>k_is)
  (case z_range=>k_is)
  (case z_sorted=>k_is)
  (case z_str=>k_is)
  (case z_tuple=>k_is)
  (case z_zip=>k_is)
  (case g_LEAST_SIZE=>k_is)
  (case g_MOST_SIZE=>k_is)
  (case ya0=>k_is)
  (case yb0=>k_is)
  (case yc0=>k_is)
  (case yd0=>k_is)
  (case yg0=>k_is)
  (case yh0=>k_is)
  (case yt0=>k_is)
  (case ym0=>k_is)
  (case ya1=>k_is)
  (case yb1=>k_is)
  (case yc1=>k_is)
  (case yd1=>k_is)
  (case yg1=>k_is)
  (case yh1=>k_is)
  (case yt1=>k_is)
  (case ym1=>k_is)
  (case ya2=>k_is)
  (case yb2=>k_is)
  (case yc2=>k_is)
  (case yd2=>k_is)
  (case yg2=>k_is)
  (case yh2=>k_is)
  (case yt2=>k_is)
  (case ym2=>k_is)
  (case ya3=>k_is)
  (case yb3=>k_is)
  (case yc3=>k_is)
  (case yd3=>k_is)
  (case yg3=>k_is)
  (case yh3=>k_is)
  (case yt3=>k_is)
  (case ym3=>k_is)
  (case ya4=>k_is)
  (case yb4=>k_is)
  (case yc4=>k_is)
  (case yd4=>k_is)
  (case yg4=>k_is)
  (case yh4=>k_is)
  (case yt4=>k_is)
  (case ym4=>k_is)
  (case ya5=>k_is)
  (case yb5=>k_is)
  (case yc5=>k_is)
  (case yd5=>k_is)
  (case yg5=>k_is)
  (case yh5=>k_is)
  (case yt5=>k_is)
  (case ym5=>k_is)
  (case ya6=>k_is)
  (case yb6=>k_is)
  (case yc6=>k_is)
  (case yd6=>k_is)
  (case yg6=>k_is)
  (case yh6=>k_is)
  (case yt6=>k_is)
  (case ym6=>k_is)
  (case ya7=>k_is)
  (case yb7=>k_is)
  (case yc7=>k_is)
  (case yd7=>k_is)
  (case yg7=>k_is)
  (case yh7=>k_is)
  (case yt7=>k_is)
  (case ym7=>k_is)
  (case ya8=>k_is)
  (case yb8=>k_is)
  (case yc8=>k_is)
  (case yd8=>k_is)
  (case yg8=>k_is)
  (case yh8=>k_is)
  (case yt8=>k_is)
  (case ym8=>k_is)
  (case ya9=>k_is)
  (case yb9=>k_is)
  (case yc9=>k_is)
  (case yd9=>k_is)
  (case yg9=>k_is)
  (case yh9=>k_is)
  (case yt9=>k_is)
  (case ym9=>k_is)
  (case ye=>k_is)
  (case yf=>k_is)
  (case yo_NoText=>k_exc)
  (case yn=>decide)
